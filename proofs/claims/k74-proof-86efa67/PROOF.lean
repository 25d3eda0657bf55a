import PyProof.Rows.All
import Wide.All
import OpenK.AllK
import Wide.FinOn
import Lean
import PyProof.EqAt
import PyProof.EqKinds
import PyProof.TupleCall
import PyProof.NeKinds
import PyProof.Rows.SeqMore
import PyProof.FactsAll.tuple_2
import KE.KDictOf
import PyProof.ExcInit
import PyProof.ExcClass3
import PyProof.NsDelKeeps
import PyProof.RulesAs
import PyProof.Rows.CountFlat
import PyProof.AutoListH
import KE.KIntText
import PyProof.Rows.CatFin
import PyProof.Rows.Range3
import PyProof.Rows.CallKwBuiltin
import PyProof.NoPylong
import PyProof.EnumMake
import PyProof.Draws
import PyProof.DictWalks
import PyProof.DictUpdate
import PySem.Challenge.RW_nolitter_k74_whole_how_far_marks_reach
set_option Elab.async false
set_option linter.all false
set_option maxRecDepth 100000
namespace L2
open PySem PySem.Spec PyProof.Rows
noncomputable abbrev Key := Sum Int Str
noncomputable def keyIs : Key → Value → Bool
 | .inl k, v => Value.isInt k v
 | .inr x, v => Value.isStrOf x v
noncomputable def keyH (w : World) : Key → Int
 | .inl k => hashInt k
 | .inr x => hashStr w x
theorem keyIs_shape : ∀ {k : Key} {v : Value}, keyIs k v = true → (∃ i t, k = Sum.inl i ∧ v = Value.int i t) ∨ (∃ x t, k = Sum.inr x ∧ v = Value.str x t)
 | .inl i, v, h => by
  obtain ⟨t, e⟩ := Value.isInt_shape (k := i) (v := v) h
  exact .inl ⟨i, t, rfl, e⟩
 | .inr x, v, h => by
  obtain ⟨t, e⟩ := Value.isStrOf_shape (x := x) (v := v) h
  exact .inr ⟨x, t, rfl, e⟩
theorem keyIs_int (i : Int) (t : Tok) : keyIs (.inl i) (.int i t) = true := by simp [keyIs, Value.isInt]
theorem keyIs_str (x : Str) (t : Tok) : keyIs (.inr x) (.str x t) = true := by simp [keyIs, Value.isStrOf]
theorem key_ll (a b : Int) : decide ((Sum.inl a : Key) = Sum.inl b) = (a == b) := by
 by_cases e : a = b
 ·subst e; simp
 ·have h : ¬ (Sum.inl a : Key) = Sum.inl b := fun q => e (Sum.inl.inj q)
  rw [decide_eq_false h]
  exact (beq_eq_false_iff_ne.mpr e).symm
theorem key_rr (a b : Str) : decide ((Sum.inr a : Key) = Sum.inr b) = decide (a = b) := by
 by_cases e : a = b
 ·subst e; simp
 ·have h : ¬ (Sum.inr a : Key) = Sum.inr b := fun q => e (Sum.inr.inj q)
  rw [decide_eq_false h, decide_eq_false e]
theorem key_lr (a : Int) (b : Str) : decide ((Sum.inl a : Key) = Sum.inr b) = false := decide_eq_false (fun q => nomatch q)
theorem key_rl (a : Str) (b : Int) : decide ((Sum.inr a : Key) = Sum.inl b) = false := decide_eq_false (fun q => nomatch q)
noncomputable def mixKind (prog : Program) (w : World) : PySem.KeyKind prog w Key where
 is := keyIs
 hash := keyH w
 inj := fun v a b ha hb => by
  rcases keyIs_shape ha with ⟨i, t, rfl, rfl⟩ | ⟨x, t, rfl, rfl⟩
  ·rcases keyIs_shape hb with ⟨j, u, rfl, e⟩ | ⟨y, u, rfl, e⟩
   ·injection e with e1 _; rw [e1]
   ·exact nomatch e
  ·rcases keyIs_shape hb with ⟨j, u, rfl, e⟩ | ⟨y, u, rfl, e⟩
   ·exact nomatch e
   ·injection e with e1 _; rw [e1]
 byValue := fun k v h => by
  rcases keyIs_shape h with ⟨i, t, rfl, rfl⟩ | ⟨x, t, rfl, rfl⟩ <;> rfl
 pyHash := fun hv h => by
  rcases keyIs_shape hv with ⟨i, t, rfl, rfl⟩ | ⟨x, t, rfl, rfl⟩
  ·exact wpAny_pyHash_int h
  ·exact wpAny_pyHash_str h
 eqBool := fun hu hv h => by
  rcases keyIs_shape hu with ⟨i, t, rfl, rfl⟩ | ⟨x, t, rfl, rfl⟩
  ·rcases keyIs_shape hv with ⟨j, u, rfl, rfl⟩ | ⟨y, u, rfl, rfl⟩
   ·rw [key_ll] at h; exact wpAny_eqBool_int h
   ·rw [key_lr] at h; exact SeqAt.EqAt.int_str i t y u _ _ _ _ h
  ·rcases keyIs_shape hv with ⟨j, u, rfl, rfl⟩ | ⟨y, u, rfl, rfl⟩
   ·rw [key_rl] at h; exact SeqAt.EqAt.str_int x t j u _ _ _ _ h
   ·rw [key_rr] at h; exact wpAny_eqBool_str h
 «strs» := fun k x t v h => by
  rcases keyIs_shape h with ⟨i, u, rfl, e⟩ | ⟨y, u, rfl, e⟩
  ·exact nomatch e
  ·injection e with e1 _
   subst e1
   cases v <;> rfl
theorem mixKind_int (prog : Program) (w : World) (i : Int) (t : Tok) : (mixKind prog w).is (.inl i) (.int i t) = true := keyIs_int i t
theorem mixKind_str (prog : Program) (w : World) (x : Str) (t : Tok) : (mixKind prog w).is (.inr x) (.str x t) = true := keyIs_str x t
end L2
namespace L2
open PySem PySem.Spec PyProof.Rows
inductive V where
 | non | bl (b : Bool) | int (i : Int) | str (x : Str) | byt (b : Array UInt8) | flt (b : UInt64) | ref (a : Addr) | ty (n : String)
 deriving DecidableEq
def RelV : V → Value → Prop
 | .non, u => u = Value.none
 | .bl b, u => u = Value.bool b
 | .int i, u => ∃ t, u = Value.int i t
 | .str x, u => ∃ t, u = Value.str x t
 | .byt b, u => ∃ t, u = Value.bytes b t
 | .flt b, u => ∃ t, u = Value.float b t
 | .ref a, u => u = Value.ref a
 | .ty n, u => u = Value.type n
noncomputable abbrev Vals : List V → List Value → Prop := Paired RelV
theorem Vals.length {xs : List V} {us : List Value} (r : Vals xs us) : xs.length = us.length := Paired.length r
theorem Vals.get : ∀ {xs : List V} {us : List Value} {i : Nat} {x : V}, Vals xs us → xs[i]? = some x → ∃ u, us[i]? = some u ∧ RelV x u
 | _, _, _, _, .nil, e => by simp at e
 | _, _, 0, _, .cons r _, e => by simp at e; subst e; exact ⟨_, rfl, r⟩
 | _, _, i + 1, x, .cons _ t, e => by
  obtain ⟨u, h1, h2⟩ := Vals.get (i := i) (x := x) t (by simpa using e)
  exact ⟨u, by simpa using h1, h2⟩
theorem Vals.set {x : V} {u : Value} (r : RelV x u) : ∀ {xs : List V} {us : List Value} (i : Nat), Vals xs us → Vals (xs.set i x) (us.set i u)
 | _, _, _, .nil => .nil
 | _, _, 0, .cons _ t => .cons r t
 | _, _, i + 1, .cons q t => .cons q (Vals.set r i t)
theorem Vals.append : ∀ {xs ys : List V} {us ws : List Value}, Vals xs us → Vals ys ws → Vals (xs ++ ys) (us ++ ws)
 | _, _, _, _, .nil, s => s
 | _, _, _, _, .cons r t, s => .cons r (Vals.append t s)
theorem Vals.take : ∀ {xs : List V} {us : List Value} (n : Nat), Vals xs us → Vals (xs.take n) (us.take n)
 | _, _, 0, _ => .nil
 | _, _, _ + 1, .nil => .nil
 | _, _, n + 1, .cons r t => .cons r (Vals.take n t)
theorem Vals.drop : ∀ {xs : List V} {us : List Value} (n : Nat), Vals xs us → Vals (xs.drop n) (us.drop n)
 | _, _, 0, r => r
 | _, _, _ + 1, .nil => .nil
 | _, _, n + 1, .cons _ t => Vals.drop n t
theorem Vals.none_of : ∀ {xs : List V} {us : List Value} {i : Nat}, Vals xs us → xs[i]? = none → us[i]? = none := fun {xs us i} r e => by
 have h1 := r.length
 have h2 : xs.length ≤ i := List.getElem?_eq_none_iff.mp e
 exact List.getElem?_eq_none_iff.mpr (by omega)
def RelO : Option V → Option Value → Prop
 | some v, some u => RelV v u
 | none, none => True
 | _, _ => False
def KV {κ : Type} : List (κ × V) → List (κ × Value) → Prop := Paired fun (p : κ × V) (q : κ × Value) => p.1 = q.1 ∧ RelV p.2 q.2
noncomputable def kV : Key → V
 | .inl i => .int i
 | .inr x => .str x
inductive HO where
 | lst (xs : List V)
 | tup (xs : List V)
 | dK (kvs : List (Key × V)) | dT (kvs : List (List Key × V))
 | set (S : Int → Bool) (n : Nat)
 | ins (C dx : Addr) (fs : List (Str × V))
 | own (x : Addr)
 | xd (fs : List (Str × V))
 | met (f x : Addr)
 | rng (lo hi : Int)
 | frz (o : Obj) (u : HO)
 | tbl (ps : Array Value)
 | ext (φ : Heap → Prop)
noncomputable abbrev Hp := Addr → Option HO
noncomputable def upd (H : Hp) (a : Addr) (o : HO) : Hp := fun b => if b = a then some o else H b
theorem upd_same {H : Hp} {a : Addr} {o : HO} : upd H a o a = some o := by unfold upd; rw [if_pos rfl]
theorem upd_ne {H : Hp} {a b : Addr} {o : HO} (h : b ≠ a) : upd H a o b = H b := by unfold upd; rw [if_neg h]
theorem ne_of {H : Hp} {a b : Addr} {o u : HO} (h : H a = some o) (h' : H b = some u) (d : o ≠ u) : a ≠ b := by
 intro e; subst e; rw [h] at h'; exact d (Option.some.inj h')
theorem ne_of_none {H : Hp} {a b : Addr} {o : HO} (h : H a = some o) (h' : H b = none) : a ≠ b := by
 intro e; subst e; rw [h] at h'; cases h'
section
variable (P : Program) (w : World)
def TupD (h : Heap) (a : Addr) (its : Array Value) : Prop := ∃ o, h.get? a = some o ∧ o.cls = .type "tuple" ∧ (∃ n, o.data = .seq its n) ∧ o.dict = none
theorem TupD.tup {h : Heap} {a : Addr} {its : Array Value} (x : TupD h a its) : IsTup h a its := let ⟨o, e, c, d, _⟩ := x; ⟨o, e, c, d⟩
theorem TupD.new (h : Heap) (its : Array Value) : TupD (h.push { cls := .type "tuple", data := .seq its }) h.objs.size its := ⟨_, Heap.get?_push_size _ rfl, rfl, ⟨_, rfl⟩, rfl⟩
def ObjOk (H : Hp) (h : Heap) (a : Addr) : HO → Prop
 | .lst xs => xs.length ≤ sizeLine ∧ ∃ (its : List Value) (n : Nat), Vals xs its ∧ h.get? a = some { cls := .type "list", data := .seq its.toArray n }
 | .tup xs => xs.length ≤ sizeLine ∧ ∃ its : List Value, Vals xs its ∧ TupD h a its.toArray
 | .dK kvs => kvs.length ≤ sizeLine ∧ (a == sysModules) = false ∧ ∃ vs, KV kvs vs ∧ h.DictOf (mixKind P w) a vs
 | .dT kvs => kvs.length ≤ sizeLine ∧ (a == sysModules) = false ∧ ∃ xs : List (List Key × Addr × Value),
   Paired (fun (p : List Key × V) (q : List Key × Addr × Value) => p.1 = q.1 ∧ H q.2.1 = some (.tup (p.1.map kV)) ∧ RelV p.2 q.2.2) kvs xs ∧
   ∃ o es ep, h.get? a = some o ∧ o.ExactDict ∧ o.data = .dict es ep ∧ es.toList = xs.map (entryOfKey (tupleKind (mixKind P w))) ∧ (xs.map (·.1)).Nodup
 | .set S n => h.SetOf (intKind P w) a S n
 | .ins C dx fs => H dx = some (.own a) ∧ fs.length ≤ 1000 ∧ dx ≠ a ∧ h.get? a = some (PySem.W.instObj C dx) ∧
   ∃ mA, h.Ns1 dx mA ∧ (∀ f, RelO (fs.lookup f) (mA f)) ∧ PySem.Within mA (fs.map (·.1))
 | .own _ => ∃ o, h.get? a = some o
 | .xd fs => ∃ mA, h.Ns1 a mA ∧ ∀ f, RelO (fs.lookup f) (mA f)
 | .rng lo hi => ∃ t u v, h.get? a = some { cls := .type "range", data := .fields #[.int lo t, .int hi u, .int 1 v] }
 | .frz o u => h.get? a = some o ∧ ObjOk H h a u
 | .tbl ps => h.get? a = some { cls := .none, data := .fields ps }
 | .met f x => h.get? a = some (PySem.W.methodObj (.ref f) (.ref x))
 | .ext φ => φ h ∧ (∃ o, h.get? a = some o) ∧ ∀ h1 h2 : Heap, φ h1 → (∀ o, h1.get? a = some o → h2.get? a = some o) → φ h2
def HOk (H : Hp) (h : Heap) : Prop := ∀ a o, H a = some o → ObjOk P w H h a o
end
section
variable {P : Program} {w : World} {H H' : Hp} {h h' : Heap} {a : Addr} {o : HO}
theorem ObjOk.lt (x : ObjOk P w H h a o) : a < h.objs.size := by
 cases o with
 | lst xs => obtain ⟨_, _, _, _, e⟩ := x; exact Heap.lt_size e
 | tup xs => obtain ⟨_, _, _, p⟩ := x; exact p.tup.lt
 | dK kvs => obtain ⟨_, _, _, _, o, _, _, e, _⟩ := x; exact Heap.lt_size e
 | dT kvs => obtain ⟨_, _, _, _, o, _, _, e, _⟩ := x; exact Heap.lt_size e
 | set S n => obtain ⟨o, _, _, _, e, _⟩ := x; exact Heap.lt_size e
 | ins C dx fs => obtain ⟨_, _, _, e, _⟩ := x; exact Heap.lt_size e
 | own y => obtain ⟨_, e⟩ := x; exact Heap.lt_size e
 | xd fs => obtain ⟨_, ⟨_, _, _, e, _⟩, _⟩ := x; exact Heap.lt_size e
 | rng lo hi => obtain ⟨_, _, _, e⟩ := x; exact Heap.lt_size e
 | frz ob u => obtain ⟨e, _⟩ := x; exact Heap.lt_size e
 | tbl ps => exact Heap.lt_size (show h.get? a = some _ from x)
 | met f y => exact Heap.lt_size (show h.get? a = some _ from x)
 | ext φ => obtain ⟨_, ⟨_, e⟩, _⟩ := x; exact Heap.lt_size e
theorem Paired.mapP {α β : Type} {F G : α → β → Prop} : ∀ {l₁ : List α} {l₂ : List β}, Paired F l₁ l₂ → (∀ a b, F a b → G a b) → Paired G l₁ l₂
 | _, _, .nil, _ => .nil
 | _, _, .cons r t, f => .cons (f _ _ r) (Paired.mapP t f)
theorem ObjOk.stay (x : ObjOk P w H h a o) (k : ∀ b u, (b = a ∨ H b = some (.own a)) → h.get? b = some u → h'.get? b = some u)
  (ho : ∀ b, H b = some (.own a) → H' b = some (.own a)) (ht : ∀ b xs, H b = some (.tup xs) → H' b = some (.tup xs)) : ObjOk P w H' h' a o := by
 induction o with
 | lst xs => obtain ⟨z, its, n, r, e⟩ := x; exact ⟨z, its, n, r, k _ _ (.inl rfl) e⟩
 | tup xs => obtain ⟨z, its, r, ob, e, c⟩ := x; exact ⟨z, its, r, ob, k _ _ (.inl rfl) e, c⟩
 | dK kvs => obtain ⟨z, y, vs, r, ob, es, ep, e, c⟩ := x; exact ⟨z, y, vs, r, ob, es, ep, k _ _ (.inl rfl) e, c⟩
 | dT kvs =>
  obtain ⟨z, y, xs, r, ob, es, ep, e, c⟩ := x
  exact ⟨z, y, xs, Paired.mapP r fun p q z => ⟨z.1, ht _ _ z.2.1, z.2.2⟩, ob, es, ep, k _ _ (.inl rfl) e, c⟩
 | set S n => obtain ⟨ob, es, ep, t, e, c⟩ := x; exact ⟨ob, es, ep, t, k _ _ (.inl rfl) e, c⟩
 | ins C dx fs =>
  obtain ⟨d, z, ne, e, mA, ⟨od, es, ep, e2, c⟩, r⟩ := x
  exact ⟨ho _ d, z, ne, k _ _ (.inl rfl) e, mA, ⟨od, es, ep, k _ _ (.inr d) e2, c⟩, r⟩
 | own y => obtain ⟨ob, e⟩ := x; exact ⟨ob, k _ _ (.inl rfl) e⟩
 | xd fs => obtain ⟨mA, ⟨od, es, ep, e, c⟩, r⟩ := x; exact ⟨mA, ⟨od, es, ep, k _ _ (.inl rfl) e, c⟩, r⟩
 | rng lo hi => obtain ⟨t, u, v, e⟩ := x; exact ⟨t, u, v, k _ _ (.inl rfl) e⟩
 | frz ob u ih => obtain ⟨e, q⟩ := x; exact ⟨k _ _ (.inl rfl) e, ih q⟩
 | tbl ps =>
  have e : h.get? a = some { cls := .none, data := .fields ps } := x
  show h'.get? a = some { cls := .none, data := .fields ps }
  exact k a _ (.inl rfl) e
 | met f y =>
  have e : h.get? a = some (PySem.W.methodObj (.ref f) (.ref y)) := x
  show h'.get? a = some (PySem.W.methodObj (.ref f) (.ref y))
  exact k a _ (.inl rfl) e
 | ext φ => obtain ⟨p, ⟨o, e⟩, st⟩ := x; exact ⟨st _ _ p fun o q => k _ _ (.inl rfl) q, ⟨o, k _ _ (.inl rfl) e⟩, st⟩
theorem HOk.lt (x : HOk P w H h) (e : H a = some o) : a < h.objs.size := (x a o e).lt
theorem HOk.fresh (x : HOk P w H h) (e : h.objs.size ≤ a) : H a = none := by
 cases q : H a with
 | none => rfl
 | some u => exact absurd (Nat.lt_of_lt_of_le (x.lt q) e) (Nat.lt_irrefl _)
theorem HOk.kept (x : HOk P w H h) (k : ∀ b u, h.get? b = some u → h'.get? b = some u) : HOk P w H h' := fun a o e =>
 (x a o e).stay (fun b u _ q => k b u q) (fun _ q => q) fun _ _ q => q
theorem HOk.laid (x : HOk P w H h) (k : ∀ b u, h.get? b = some u → h'.get? b = some u) (hp : h.objs.size ≤ a) (new : ObjOk P w (upd H a o) h' a o) : HOk P w (upd H a o) h' := fun b u e => by
 have hn := x.fresh hp
 by_cases hb : b = a
 ·subst hb; rw [upd_same] at e; cases e; exact new
 ·rw [upd_ne hb] at e
  exact (x b u e).stay (fun c v _ q => k c v q) (fun c q => by rw [upd_ne (ne_of_none q hn)]; exact q) fun c xs q => by rw [upd_ne (ne_of_none q hn)]; exact q
end
def Rd (H : Hp) (a : Addr) (u : HO) : Prop := H a = some u ∨ ∃ o, H a = some (.frz o u)
theorem Rd.of {H : Hp} {a : Addr} {u : HO} (h : H a = some u) : Rd H a u := .inl h
theorem Rd.ok {P : Program} {w : World} {H : Hp} {h : Heap} {a : Addr} {u : HO} (r : Rd H a u) (x : HOk P w H h) : ObjOk P w H h a u := by
 rcases r with r | ⟨o, r⟩
 ·exact x a u r
 ·obtain ⟨_, q⟩ := x a _ r
  exact q
def Mut : Option HO → Prop
 | some (.lst _) => True
 | some (.dK _) => True
 | some (.dT _) => True
 | some (.set _ _) => True
 | some (.ins _ _ _) => True
 | some (.ext _) => True
 | _ => False
section
variable {P : Program} {w : World} {H : Hp} {h h' : Heap} {x e : Addr} {o' : HO}
theorem HOk.write (ok : HOk P w H h) (mu : Mut (H x)) (he : e = x ∨ H e = some (.own x)) (k : ∀ b u, b ≠ e → h.get? b = some u → h'.get? b = some u) (heo : ∃ u, h'.get? e = some u)
  (new : ObjOk P w (upd H x o') h' x o') : HOk P w (upd H x o') h' := fun b u q => by
 have nown : ∀ c y, H c = some (.own y) → c ≠ x := fun c y r z => by subst z; rw [r] at mu; exact mu
 have ntup : ∀ c xs, H c = some (.tup xs) → c ≠ x := fun c xs r z => by subst z; rw [r] at mu; exact mu
 by_cases hb : b = x
 ·subst hb; rw [upd_same] at q; cases q; exact new
 ·rw [upd_ne hb] at q
  by_cases hbe : b = e
  ·have q' : H b = some (.own x) := by
    rcases he with z | z
    ·exact absurd (hbe.trans z) hb
    ·rw [hbe]; exact z
   rw [q] at q'; cases q'
   obtain ⟨v, hv⟩ := heo
   exact ⟨v, by rw [hbe]; exact hv⟩
  ·refine (ok b u q).stay (fun c v hc r => k c v ?_ r) (fun c r => by rw [upd_ne (nown c b r)]; exact r) fun c xs r => by rw [upd_ne (ntup c xs r)]; exact r
   rcases hc with rfl | hc
   ·exact hbe
   ·rintro rfl
    rcases he with z | z
    ·exact nown c b hc z
    ·rw [hc] at z; cases z; exact hb rfl
end
structure Un (fs ex : List Addr) (H H' : Hp) (h h' : Heap) : Prop where
 keep : ∀ b o, h.get? b = some o → H b = none → b ∉ fs → b ∉ ex → h'.get? b = some o
 slot : ∀ b o, h.get? b = some o → H b = none → b ∈ fs → b ∉ ex → ∃ sl, h'.get? b = some { o with slots := sl }
 free : ∀ b o, h.get? b = some o → H b = none → b ∉ ex → H' b = none
 there : ∀ b o, h.get? b = some o → b ∉ ex → ∃ o', h'.get? b = some o'
 tups : ∀ b xs, H b = some (.tup xs) → H' b = some (.tup xs)
 frzs : ∀ b o u, H b = some (.frz o u) → H' b = some (.frz o u)
 tbls : ∀ b ps, H b = some (.tbl ps) → ∃ more, H' b = some (.tbl (ps ++ more))
section
variable {fs fs' ex ex' : List Addr} {H H1 H2 : Hp} {h h1 h2 h' : Heap} {a x e : Addr} {o : HO}
theorem Un.any (u : Un fs ex H H1 h h1) {b : Addr} {ob : Obj} (q : h.get? b = some ob) (n : H b = none) (hx : b ∉ ex) : ∃ sl, h1.get? b = some { ob with slots := sl } := by
 by_cases hb : b ∈ fs
 ·exact u.slot b ob q n hb hx
 ·exact ⟨ob.slots, u.keep b ob q n hb hx⟩
theorem Un.trans (a : Un fs ex H H1 h h1) (b : Un fs ex H1 H2 h1 h2) : Un fs ex H H2 h h2 where
 keep := fun c ob q n hc hx => b.keep c ob (a.keep c ob q n hc hx) (a.free c ob q n hx) hc hx
 slot := fun c ob q n hc hx => by
  obtain ⟨sl, e1⟩ := a.slot c ob q n hc hx
  obtain ⟨sl', e2⟩ := b.slot c _ e1 (a.free c ob q n hx) hc hx
  exact ⟨sl', e2⟩
 free := fun c ob q n hx => by
  obtain ⟨o', e1⟩ := a.there c ob q hx
  exact b.free c o' e1 (a.free c ob q n hx) hx
 there := fun c ob q hx => by
  obtain ⟨o', e1⟩ := a.there c ob q hx
  exact b.there c o' e1 hx
 tups := fun c xs q => b.tups c xs (a.tups c xs q)
 frzs := fun c ob xs q => b.frzs c ob xs (a.frzs c ob xs q)
 tbls := fun c ps q => by
  obtain ⟨m1, e1⟩ := a.tbls c ps q
  obtain ⟨m2, e2⟩ := b.tbls c _ e1
  exact ⟨m1 ++ m2, by rw [e2, Array.append_assoc]⟩
theorem Un.kept (k : ∀ b u, h.get? b = some u → h'.get? b = some u) : Un fs ex H H h h' :=
 ⟨fun b ob q _ _ _ => k b ob q, fun b ob q _ _ _ => ⟨ob.slots, k b ob q⟩, fun _ _ _ n _ => n, fun b ob q _ => ⟨ob, k b ob q⟩, fun _ _ q => q, fun _ _ _ q => q, fun _ ps q => ⟨#[], by rw [q]; simp⟩⟩
theorem Un.refl : Un fs ex H H h h := Un.kept fun _ _ q => q
theorem Un.laid (k : ∀ b u, h.get? b = some u → h'.get? b = some u) (hp : h.objs.size ≤ a) (hn : H a = none) : Un fs ex H (upd H a o) h h' where
 keep := fun b u q _ _ _ => k b u q
 slot := fun b u q _ _ _ => ⟨u.slots, k b u q⟩
 free := fun b u q n _ => by rw [upd_ne (Nat.ne_of_lt (Nat.lt_of_lt_of_le (Heap.lt_size q) hp))]; exact n
 there := fun b u q _ => ⟨u, k b u q⟩
 tups := fun b xs q => by rw [upd_ne (ne_of_none q hn)]; exact q
 frzs := fun b u xs q => by rw [upd_ne (ne_of_none q hn)]; exact q
 tbls := fun b ps q => ⟨#[], by rw [upd_ne (ne_of_none q hn), q]; simp⟩
theorem Un.write (mu : Mut (H x)) (he : e = x ∨ H e = some (.own x)) (k : ∀ b u, b ≠ e → h.get? b = some u → h'.get? b = some u) (heo : ∃ u, h'.get? e = some u) : Un fs ex H (upd H x o) h h' := by
 have hx : ∀ b, H b = none → b ≠ x := fun b n z => by subst z; rw [n] at mu; exact mu
 have hb : ∀ b, H b = none → b ≠ e := fun b n z => by
  subst z
  rcases he with r | r
  ·exact hx b n r
  ·rw [n] at r; cases r
 have hm : ∀ b u, H b = some u → ¬ Mut (some u) → b ≠ x := fun b u q nm z => by subst z; rw [q] at mu; exact nm mu
 refine ⟨fun b u q n _ _ => k b u (hb b n) q, fun b u q n _ _ => ⟨u.slots, k b u (hb b n) q⟩, fun b u q n _ => by rw [upd_ne (hx b n)]; exact n, fun b u q _ => ?_,
  fun b xs q => by rw [upd_ne (hm b _ q fun z => z)]; exact q, fun b u xs q => by rw [upd_ne (hm b _ q fun z => z)]; exact q, fun b ps q => ⟨#[], by rw [upd_ne (hm b _ q fun z => z), q]; simp⟩⟩
 by_cases hbe : b = e
 ·subst hbe; exact heo
 ·exact ⟨u, k b u hbe q⟩
end
noncomputable def trk (h : Heap) (H : Hp) : List Addr := (List.range h.objs.size).filter fun a => (H a).isSome
noncomputable def hidT (h : Heap) (H : Hp) : Heap := PySem.W.hideAll h (trk h H)
theorem hidT_size (h : Heap) (H : Hp) : (hidT h H).objs.size = h.objs.size := PySem.W.hideAll_size _ _
theorem hidT_get {h : Heap} {H : Hp} {b : Addr} {o : Obj} (e : h.get? b = some o) (n : H b = none) : (hidT h H).get? b = some o :=
 PySem.W.hideAll_get _ e fun hm => by
  have q : (H b).isSome = true := (List.mem_filter.mp hm).2
  rw [n] at q; simp at q
theorem of_hidT {h : Heap} {H : Hp} {b : Addr} {o : Obj} (e : (hidT h H).get? b = some o) : h.get? b = some o ∧ H b = none := by
 have e' : h.get? b = some o := PySem.W.of_hideAll (trk h H) e
 refine ⟨e', ?_⟩
 cases q : H b with
 | none => rfl
 | some x =>
  have hm : b ∈ trk h H := List.mem_filter.mpr ⟨List.mem_range.mpr (Heap.lt_size e'), by simp [q]⟩
  have z : (hidT h H).get? b = none := PySem.W.hideAll_none (trk h H) hm
  rw [z] at e; cases e
noncomputable def allNews (g h : Heap) (L : Addr) : List (Addr × Obj) := (List.range h.objs.size).filterMap fun a => if a = L ∨ (g.get? a).isSome = true then none else (h.get? a).map fun o => (a, o)
noncomputable def rest (g h : Heap) (L d : Addr) : List (Addr × Obj) := (allNews g h L).filter fun p => decide (p.1 ≠ d)
end L2
namespace L2
open PySem PySem.Spec PyProof.Rows
structure Mod (K : PySem.W.Frag) (mg : Str → Option Value) (base : Heap) : Prop where
 kin : K.In base
 glob : base.Ns mainGlobals mg
 blt : ∃ mb, base.Ns builtinsNs mb ∧ ∀ x : Str, x ≠ "__name__" → mb x = bootBuiltins x
 nolimit : base.NoLimit
/-- the context: a def's body (or a comprehension's block) running. base: fixed through the whole law; s₀, H₀: the entry; outer: the frames whose slots others may change (a def's callers); stack: all frames that run;
   ex: iterators that were made ahead of the entry and are walked here (a comprehension's); fn: the names whose cells were made at the entry (a def: all; a comprehension's block: its own); calm: not within an except suite; pn: pins that every state bears; xe: what is wanted of an exception that leaves the code -/
structure Cx where
 prog : Program
 w : World
 K : PySem.W.Frag
 mg : Str → Option Value
 base : Heap
 A : Around
 N : List Str
 s₀ : Shared
 H₀ : Hp
 env : Env
 outer : List Env
 stack : List Env
 ex : List Addr
 fn : Str → Bool
 calm : Bool
 pn : List (Addr × Obj)
 xe : Value → Shared → Prop
noncomputable def frs (l : List Env) : List Addr := l.filterMap (·.frame)
noncomputable abbrev Cx.fs (X : Cx) : List Addr := frs X.outer
def Vis (sc : Scope) (x : Str) : Prop := sc.names.lookup x = some .local ∨ sc.names.lookup x = some .cell ∨ sc.names.lookup x = some .free
def Loc (sc : Scope) (x : Str) : Prop := sc.names.lookup x = some .local ∨ sc.names.lookup x = some .cell
def Look (env : Env) (h : Heap) (m : Str → Option Value) (x : Str) (u : Value) : Prop :=
 (env.kindOf x = some .local ∧ m x = some u) ∨ ((env.kindOf x = some .cell ∨ env.kindOf x = some .free) ∧ ∃ c, env.cells.lookup x = some c ∧ h.IsCell c (some u))
structure Cx.Ok (X : Cx) : Prop where
 mod : Mod X.K X.mg X.base
 kind : X.env.scope.kind = .function
 glob : X.env.globals = mainGlobals
 blt : X.env.builtins = builtinsNs
 above : X.s₀.heap.objs.size ≤ X.env.locals
 inj : ∀ x y c, X.env.cells.lookup x = some c → X.env.cells.lookup y = some c → x = y
 has : ∀ x, (X.env.kindOf x = some .cell ∨ X.env.kindOf x = some .free) → ∃ c, X.env.cells.lookup x = some c
 cab : ∀ x c, X.fn x = true → X.env.cells.lookup x = some c → X.s₀.heap.objs.size ≤ c
 hd : X.calm = true → X.A.handled = none
 frames : X.A.frames = some X.stack
 stk : X.stack = X.outer ∨ (X.stack = X.env :: X.outer ∧ X.env.frame = some X.env.locals)
 exf : ∀ b ∈ X.ex, b ≠ X.env.locals ∧ ∀ x c, X.env.cells.lookup x = some c → c ≠ b
 bs : ∀ b o, X.base.get? b = some o → X.s₀.heap.get? b = some o ∧ X.H₀ b = none
 bsz : X.base.objs.size ≤ X.s₀.heap.objs.size
 noex : ∀ b o, X.base.get? b = some o → b ∉ X.ex
 exfs : ∀ b ∈ X.ex, b ∉ X.fs
 funs : X.s₀.heap.FunFrames X.base X.outer
 frf : ∀ b ∈ X.fs, X.H₀ b = none
structure Inv (X : Cx) (pins : List (Addr × Obj)) (σ : List (Option V)) (H : Hp) (s : Shared) : Prop where
 ok : X.Ok
 os : s.os = X.s₀.os
 bare : AllBare s.gens
 base : Un X.fs X.ex X.H₀ H X.s₀.heap s.heap
 loc : ∃ m, s.heap.Ns X.env.locals m ∧ ∀ (i : Nat) (x : Str) (v : V), X.N[i]? = some x → σ[i]? = some (some v) → Vis X.env.scope x → ∃ u, RelV v u ∧ Look X.env s.heap m x u
 cell : ∀ x c, X.env.cells.lookup x = some c → ∃ v, s.heap.IsCell c v
 free : H X.env.locals = none
 freeC : ∀ x c, X.env.cells.lookup x = some c → H c = none
 pin : ∀ p ∈ X.pn ++ pins, s.heap.get? p.1 = some p.2 ∧ H p.1 = none ∧ p.1 ≠ X.env.locals ∧ p.1 ∉ X.fs ∧ ∀ v, p.2.data ≠ .cell v
 hok : HOk X.prog X.w H s.heap
 len : σ.length = X.N.length
section
variable {X : Cx} {pins : List (Addr × Obj)} {σ : List (Option V)} {H H' : Hp} {s : Shared} {h' : Heap}
theorem Cx.Ok.nofr (ok : X.Ok) {b : Addr} {o : Obj} (e : X.base.get? b = some o) : b ∉ X.fs := fun hb => by
 have := (ok.funs.mem hb).1
 rw [e] at this; cases this
theorem Inv.bs (I : Inv X pins σ H s) : ∀ b o, X.base.get? b = some o → s.heap.get? b = some o ∧ H b = none := fun b o e =>
 ⟨I.base.keep b o (I.ok.bs b o e).1 (I.ok.bs b o e).2 (I.ok.nofr e) (I.ok.noex b o e), I.base.free b o (I.ok.bs b o e).1 (I.ok.bs b o e).2 (I.ok.noex b o e)⟩
theorem Inv.bk (I : Inv X pins σ H s) : ∀ b o, X.base.get? b = some o → s.heap.get? b = some o := fun b o e => (I.bs b o e).1
theorem Inv.mod (I : Inv X pins σ H s) : Mod X.K X.mg X.base := I.ok.mod
theorem Inv.kIn (I : Inv X pins σ H s) : X.K.In s.heap := I.ok.mod.kin.keeps I.bk
theorem Inv.nolimit (I : Inv X pins σ H s) : s.heap.NoLimit := I.ok.mod.nolimit.keeps I.bk
theorem Inv.lt (I : Inv X pins σ H s) : X.env.locals < s.heap.objs.size := let ⟨_, hn, _⟩ := I.loc; hn.lt
theorem Inv.sz (I : Inv X pins σ H s) : X.s₀.heap.objs.size ≤ s.heap.objs.size := Nat.le_trans I.ok.above (Nat.le_of_lt I.lt)
theorem Inv.nofs (I : Inv X pins σ H s) {a : Addr} (h : s.heap.objs.size ≤ a) : a ∉ X.fs := fun hb => by
 obtain ⟨_, o, ho, _⟩ := I.ok.funs.mem hb
 exact absurd (Nat.lt_of_lt_of_le (Heap.lt_size ho) (Nat.le_trans I.sz h)) (Nat.lt_irrefl _)
theorem Inv.cne (I : Inv X pins σ H s) : ∀ x c, X.env.cells.lookup x = some c → c ≠ X.env.locals := fun x c e z => by
 obtain ⟨v, o, ho, hd⟩ := I.cell x c e
 obtain ⟨m, ⟨o', es, ep, ho', hd', _⟩, _⟩ := I.loc
 rw [z, ho'] at ho; cases ho; rw [hd'] at hd; cases hd
theorem Inv.funs (I : Inv X pins σ H s) : s.heap.FunFrames X.base X.outer := by
 have all : ∀ (l : List Env), (∀ b ∈ frs l, b ∈ X.fs) → X.s₀.heap.FunFrames X.base l → s.heap.FunFrames X.base l := by
  intro l
  induction l with
  | nil => intro _ _; trivial
  | cons env r ih =>
   intro hs hl
   obtain ⟨hk, ⟨L, o, hf, hn, ho, hd⟩, hr⟩ := hl
   have hL : L ∈ X.fs := hs L (by unfold frs; rw [List.filterMap_cons, hf]; exact List.mem_cons_self)
   obtain ⟨sl, e⟩ := I.base.slot L o ho (I.ok.frf L hL) hL fun z => I.ok.exfs L z hL
   exact ⟨hk, ⟨L, _, hf, hn, e, hd⟩, ih (fun b hb => hs b (by unfold frs; rw [List.filterMap_cons, hf]; exact List.mem_cons_of_mem _ hb)) hr⟩
 exact all X.outer (fun _ hb => hb) I.ok.funs
theorem Inv.stack (I : Inv X pins σ H s) : s.heap.FunFrames X.base X.stack := by
 rcases I.ok.stk with e | ⟨e, hf⟩
 ·rw [e]; exact I.funs
 ·rw [e]
  obtain ⟨m, hn, _⟩ := I.loc
  refine .cons (by rw [I.ok.kind]; decide) hf hn ?_ I.funs
  exact Heap.get?_none_of_le (Nat.le_trans I.ok.bsz I.ok.above)
theorem Inv.stkSub (I : Inv X pins σ H s) : ∀ b ∈ frs X.stack, b ∈ X.env.locals :: X.fs := fun b hb => by
 rcases I.ok.stk with e | ⟨e, hf⟩
 ·rw [e] at hb; exact List.mem_cons_of_mem _ hb
 ·rw [e] at hb
  unfold frs at hb
  rw [List.filterMap_cons, hf] at hb
  exact hb
theorem Inv.stkFree (I : Inv X pins σ H s) : ∀ b ∈ frs X.stack, H b = none := fun b hb => by
 rcases List.mem_cons.mp (I.stkSub b hb) with e | hb
 ·rw [e]; exact I.free
 ·obtain ⟨_, o, ho, _⟩ := I.ok.funs.mem hb
  exact I.base.free b o ho (I.ok.frf b hb) fun z => I.ok.exfs b z hb
theorem Inv.step {g' : Array GenState} {t' : Nat} {d' : Drawn} {ch : List Addr} (I : Inv X pins σ H s)
  (hch : ∀ b ∈ ch, (b ∈ X.ex ∨ X.s₀.heap.objs.size ≤ b) ∧ b ≠ X.env.locals ∧ (∀ x c, X.env.cells.lookup x = some c → c ≠ b) ∧ ∀ p ∈ X.pn ++ pins, p.1 ≠ b)
  (keep : ∀ b o, b ≠ X.env.locals → b ∉ X.fs → b ∉ ch → s.heap.get? b = some o → H b = none → h'.get? b = some o)
  (slot : ∀ b o, b ≠ X.env.locals → b ∈ X.fs → b ∉ ch → s.heap.get? b = some o → H b = none → ∃ sl, h'.get? b = some { o with slots := sl }) (free : ∀ b o, b ∉ ch → s.heap.get? b = some o → H b = none → H' b = none)
  (there : ∀ b o, b ∉ ch → s.heap.get? b = some o → ∃ o', h'.get? b = some o')
  (tups : ∀ b xs, H b = some (.tup xs) → H' b = some (.tup xs)) (frzs : ∀ b o u, H b = some (.frz o u) → H' b = some (.frz o u)) (tbls : ∀ b ps, H b = some (.tbl ps) → ∃ more, H' b = some (.tbl (ps ++ more)))
  (ns : ∀ m, s.heap.Ns X.env.locals m → h'.Ns X.env.locals m) (hok : HOk X.prog X.w H' h') (hg : AllBare g') :
  Inv X pins σ H' { s with heap := h', gens := g', drawn := d', toks := t' } := by
 have neL : ∀ b o, X.s₀.heap.get? b = some o → b ≠ X.env.locals := fun b o e => Nat.ne_of_lt (Nat.lt_of_lt_of_le (Heap.lt_size e) I.ok.above)
 have neC : ∀ b o, X.s₀.heap.get? b = some o → b ∉ X.ex → b ∉ ch := fun b o e hx hb => by
  rcases (hch b hb).1 with z | z
  ·exact hx z
  ·exact absurd (Nat.lt_of_lt_of_le (Heap.lt_size e) z) (Nat.lt_irrefl _)
 have cellK : ∀ x c, X.env.cells.lookup x = some c → ∀ v, s.heap.IsCell c v → h'.IsCell c v := fun x c e v ⟨o, ho, hd⟩ => by
  have nch : c ∉ ch := fun z => (hch c z).2.2.1 x c e rfl
  by_cases hc : c ∈ X.fs
  ·obtain ⟨sl, q⟩ := slot c o (I.cne x c e) hc nch ho (I.freeC x c e)
   exact ⟨_, q, hd⟩
  ·exact ⟨o, keep c o (I.cne x c e) hc nch ho (I.freeC x c e), hd⟩
 refine ⟨I.ok, I.os, hg, ⟨fun b o e n hb hx => ?_, fun b o e n hb hx => ?_, fun b o e n hx => ?_, fun b o e hx => ?_, fun b xs e => tups b xs (I.base.tups b xs e), fun b o xs e => frzs b o xs (I.base.frzs b o xs e), fun b ps e => ?_⟩, ?_, fun x c e => ?_, ?_, fun x c e => ?_, fun p hp => ?_, hok, I.len⟩
 ·exact keep b o (neL b o e) hb (neC b o e hx) (I.base.keep b o e n hb hx) (I.base.free b o e n hx)
 ·obtain ⟨sl, e1⟩ := I.base.slot b o e n hb hx
  obtain ⟨sl', e2⟩ := slot b _ (neL b o e) hb (neC b o e hx) e1 (I.base.free b o e n hx)
  exact ⟨sl', e2⟩
 ·obtain ⟨o', e1⟩ := I.base.there b o e hx
  exact free b o' (neC b o e hx) e1 (I.base.free b o e n hx)
 ·obtain ⟨o', e1⟩ := I.base.there b o e hx
  exact there b o' (neC b o e hx) e1
 ·obtain ⟨m1, e1⟩ := I.base.tbls b ps e
  obtain ⟨m2, e2⟩ := tbls b _ e1
  exact ⟨m1 ++ m2, by rw [e2, Array.append_assoc]⟩
 ·obtain ⟨m, hn, hl⟩ := I.loc
  refine ⟨m, ns m hn, fun i x v e1 e2 e3 => ?_⟩
  obtain ⟨u, r, l⟩ := hl i x v e1 e2 e3
  refine ⟨u, r, ?_⟩
  rcases l with l | ⟨k, c, e, z⟩
  ·exact .inl l
  ·exact .inr ⟨k, c, e, cellK x c e _ z⟩
 ·obtain ⟨v, z⟩ := I.cell x c e
  exact ⟨v, cellK x c e v z⟩
 ·obtain ⟨m, ⟨o, _, _, ho, _⟩, _⟩ := I.loc
  exact free _ o (fun z => (hch _ z).2.1 rfl) ho I.free
 ·obtain ⟨v, o, ho, hd⟩ := I.cell x c e
  exact free c o (fun z => (hch c z).2.2.1 x c e rfl) ho (I.freeC x c e)
 ·obtain ⟨e, n, ne, nf, d⟩ := I.pin p hp
  have nch : p.1 ∉ ch := fun z => (hch p.1 z).2.2.2 p hp rfl
  exact ⟨keep p.1 p.2 ne nf nch e n, free p.1 p.2 nch e n, ne, nf, d⟩
theorem Inv.un {t' : Nat} (I : Inv X pins σ H s) (u : Un X.fs [] H H' s.heap h') (hok : HOk X.prog X.w H' h') : Inv X pins σ H' { s with heap := h', toks := t' } := by
 obtain ⟨m, ⟨o, es, ep, ho, r⟩, _⟩ := id I.loc
 obtain ⟨sl, hL⟩ := u.any ho I.free (by simp)
 exact I.step (g' := s.gens) (d' := s.drawn) (ch := []) (fun _ z => nomatch z) (fun b o _ hb _ e n => u.keep b o e n hb (by simp)) (fun b o _ hb _ e n => u.slot b o e n hb (by simp)) (fun b o _ e n => u.free b o e n (by simp)) (fun b o _ e => u.there b o e (by simp)) u.tups u.frzs u.tbls (fun m' hm => by
  obtain ⟨o', es', ep', ho', r'⟩ := hm
  rw [ho] at ho'; cases ho'
  exact ⟨_, es', ep', hL, r'⟩) hok I.bare
theorem Inv.call {g' : Array GenState} {t' : Nat} {d' : Drawn} {ch : List Addr} (I : Inv X pins σ H s) (u : Un (frs X.stack) ch H H' s.heap h') (hok : HOk X.prog X.w H' h') (hg : AllBare g')
  (hch : ∀ b ∈ ch, (b ∈ X.ex ∨ X.s₀.heap.objs.size ≤ b) ∧ b ≠ X.env.locals ∧ (∀ x c, X.env.cells.lookup x = some c → c ≠ b) ∧ ∀ p ∈ X.pn ++ pins, p.1 ≠ b) :
  Inv X pins σ H' { s with heap := h', gens := g', drawn := d', toks := t' } := by
 obtain ⟨m, ⟨o, es, ep, ho, r⟩, _⟩ := id I.loc
 obtain ⟨sl, hL⟩ := u.any ho I.free fun z => (hch _ z).2.1 rfl
 exact I.step (ch := ch) hch (fun b o hL hb hc e n => u.keep b o e n (fun z => (List.mem_cons.mp (I.stkSub b z)).elim hL hb) hc) (fun b o _ _ hc e n => u.any e n hc) (fun b o hc e n => u.free b o e n hc) (fun b o hc e => u.there b o e hc) u.tups u.frzs u.tbls (fun m' hm => by
  obtain ⟨o', es', ep', ho', r'⟩ := hm
  rw [ho] at ho'; cases ho'
  exact ⟨_, es', ep', hL, r'⟩) hok hg
theorem Inv.turned {t' : Nat} {it : Addr} (I : Inv X pins σ H s) (k : ∀ b o, b ≠ it → s.heap.get? b = some o → h'.get? b = some o) (hn : H it = none) (hL : it ≠ X.env.locals)
  (h1 : it ∈ X.ex ∨ X.s₀.heap.objs.size ≤ it) (h2 : ∀ x c, X.env.cells.lookup x = some c → c ≠ it) (h3 : ∀ p ∈ X.pn ++ pins, p.1 ≠ it) : Inv X pins σ H { s with heap := h', toks := t' } := by
 have nit : ∀ b u, H b = some u → b ≠ it := fun b u e z => by rw [z, hn] at e; cases e
 refine I.step (g' := s.gens) (d' := s.drawn) (ch := [it]) (fun b hb => ?_) (fun b o _ _ hc e _ => k b o (fun z => hc (by simp [z])) e) (fun b o _ _ hc e _ => ⟨o.slots, k b o (fun z => hc (by simp [z])) e⟩) (fun _ _ _ _ n => n)
  (fun b o hc e => ⟨o, k b o (fun z => hc (by simp [z])) e⟩) (fun _ _ e => e) (fun _ _ _ e => e) (fun b ps e => ⟨#[], by rw [e]; simp⟩) (fun m hm => ?_) (fun b u e => ?_) I.bare
 ·have e : b = it := by simpa using hb
  subst e
  exact ⟨h1, hL, h2, h3⟩
 ·obtain ⟨o, es, ep, ho, r⟩ := hm
  exact ⟨o, es, ep, k _ o (Ne.symm hL) ho, r⟩
 ·refine (I.hok b u e).stay (fun c v hc q => k c v ?_ q) (fun _ q => q) fun _ _ q => q
  rcases hc with z | z
  ·rw [z]; exact nit b u e
  ·exact nit c _ z
theorem Inv.tok (I : Inv X pins σ H s) (t : Nat) : Inv X pins σ H { s with toks := t } := I.un (h' := s.heap) (t' := t) Un.refl I.hok
theorem Inv.kept {t' : Nat} (I : Inv X pins σ H s) (k : ∀ b u, s.heap.get? b = some u → h'.get? b = some u) : Inv X pins σ H { s with heap := h', toks := t' } := I.un (Un.kept k) (I.hok.kept k)
theorem Inv.laid {a : Addr} {o : HO} {t' : Nat} (I : Inv X pins σ H s) (k : ∀ b u, s.heap.get? b = some u → h'.get? b = some u) (hp : s.heap.objs.size ≤ a) (new : ObjOk X.prog X.w (upd H a o) h' a o) :
  Inv X pins σ (upd H a o) { s with heap := h', toks := t' } := I.un (Un.laid k hp (I.hok.fresh hp)) (I.hok.laid k hp new)
theorem Inv.write {x e : Addr} {o : HO} {t' : Nat} (I : Inv X pins σ H s) (mu : Mut (H x)) (he : e = x ∨ H e = some (.own x)) (k : ∀ b u, b ≠ e → s.heap.get? b = some u → h'.get? b = some u) (heo : ∃ u, h'.get? e = some u)
  (new : ObjOk X.prog X.w (upd H x o) h' x o) : Inv X pins σ (upd H x o) { s with heap := h', toks := t' } := I.un (Un.write mu he k heo) (I.hok.write mu he k heo new)
theorem Inv.pins_of {pins' : List (Addr × Obj)} (I : Inv X pins σ H s) (h : ∀ p ∈ pins', s.heap.get? p.1 = some p.2 ∧ H p.1 = none ∧ p.1 ≠ X.env.locals ∧ p.1 ∉ X.fs ∧ ∀ v, p.2.data ≠ .cell v) : Inv X pins' σ H s :=
 ⟨I.ok, I.os, I.bare, I.base, I.loc, I.cell, I.free, I.freeC, fun p hp => (List.mem_append.mp hp).elim (fun z => I.pin p (List.mem_append_left _ z)) (h p), I.hok, I.len⟩
theorem nodup_ix {N : List Str} (hN : N.Nodup) {i j : Nat} {x : Str} (a : N[i]? = some x) (b : N[j]? = some x) : i = j := by
 obtain ⟨h1, e1⟩ := List.getElem?_eq_some_iff.mp a
 obtain ⟨h2, e2⟩ := List.getElem?_eq_some_iff.mp b
 exact (List.getElem_inj hN).mp (e1.trans e2.symm)
theorem store_ok2 {M : Model} {A : Around} {E : Value → Shared → Prop} {i : Nat} {x : Str} {v : V} {u : Value} {Q : Unit → Shared → Prop} (I : Inv X pins σ H s) (hN : X.N.Nodup) (hi : X.N[i]? = some x) (hx : Loc X.env.scope x) (r : RelV v u)
  (h : ∀ s', Inv X pins (σ.set i (some v)) H s' → (∃ a, Heap.SameBut a s.heap s'.heap ∧ (a = X.env.locals ∨ X.env.cells.lookup x = some a)) → Q () s') (hf : X.fn x = true ∨ X.env.scope.names.lookup x = some .local := by first | exact .inl rfl | exact .inr rfl | assumption) : wpAny M A (storeName X.env x u) Q E s := by
 obtain ⟨m, hn, hl⟩ := id I.loc
 have hcls : (X.env.scope.kind == .class || (X.env.scope.kind == .module && X.env.locals != X.env.globals)) = false := by rw [I.ok.kind]; rfl
 have hiσ : i < σ.length := by rw [I.len]; exact (List.getElem?_eq_some_iff.mp hi).1
 have cne := I.cne
 have tracked : ∀ {a : Addr} {h' : Heap}, (∃ o, s.heap.get? a = some o ∧ H a = none) → Heap.SameBut a s.heap h' → HOk X.prog X.w H h' := fun {a h'} ha hs b ob e => by
  obtain ⟨_, _, hfree⟩ := ha
  refine (I.hok b ob e).stay (fun c w' hc q => (hs.2 c ?_).trans q) (fun _ q => q) fun _ _ q => q
  rintro rfl
  rcases hc with rfl | hc
  ·rw [hfree] at e; cases e
  ·rw [hfree] at hc; cases hc
 rcases hx with hk | hk
 ·refine wpAny_storeName_local hk hn (fun h' hn' hs => ?_) hcls
  obtain ⟨oL, _, _, hoL, _⟩ := id hn
  refine h _ ⟨I.ok, I.os, I.bare, ⟨fun b o e n hb hx => ?_, fun b o e n hb hx => ?_, I.base.free, fun b o e hx => ?_, I.base.tups, I.base.frzs, I.base.tbls⟩, ⟨_, hn', fun j y v' e1 e2 e3 => ?_⟩, fun y c e => ?_, I.free, I.freeC, fun p hp => ?_, tracked ⟨oL, hoL, I.free⟩ hs, by simpa using I.len⟩ ⟨_, hs, .inl rfl⟩
  ·exact (hs.2 b (Nat.ne_of_lt (Nat.lt_of_lt_of_le (Heap.lt_size e) I.ok.above))).trans (I.base.keep b o e n hb hx)
  ·obtain ⟨sl, e1⟩ := I.base.slot b o e n hb hx
   exact ⟨sl, (hs.2 b (Nat.ne_of_lt (Nat.lt_of_lt_of_le (Heap.lt_size e) I.ok.above))).trans e1⟩
  ·obtain ⟨o', e1⟩ := I.base.there b o e hx
   exact ⟨o', (hs.2 b (Nat.ne_of_lt (Nat.lt_of_lt_of_le (Heap.lt_size e) I.ok.above))).trans e1⟩
  ·by_cases hj : j = i
   ·subst hj
    rw [hi] at e1; cases e1
    rw [List.getElem?_set_self hiσ] at e2
    cases e2
    exact ⟨u, r, .inl ⟨hk, by simp⟩⟩
   ·rw [List.getElem?_set_ne (Ne.symm hj)] at e2
    obtain ⟨u', r', q⟩ := hl j y v' e1 e2 e3
    refine ⟨u', r', ?_⟩
    rcases q with ⟨k, e⟩ | ⟨k, c, e, z⟩
    ·refine .inl ⟨k, ?_⟩
     have : y ≠ x := fun e => hj (nodup_ix hN e1 (e ▸ hi))
     simp [this, e]
    ·exact .inr ⟨k, c, e, z.sameBut hs (cne y c e)⟩
  ·obtain ⟨w', z⟩ := I.cell y c e
   exact ⟨w', z.sameBut hs (cne y c e)⟩
  ·obtain ⟨e, n, ne, nf, d⟩ := I.pin p hp
   exact ⟨(hs.2 p.1 ne).trans e, n, ne, nf, d⟩
 ·have hfn : X.fn x = true := by
   rcases hf with z | z
   ·exact z
   ·rw [z] at hk; cases hk
  obtain ⟨c, hc⟩ := I.ok.has x (.inl hk)
  obtain ⟨w', z⟩ := I.cell x c hc
  refine wpAny_storeName_cell I.ok.kind hk hc z (fun h' hc' hs => ?_)
  obtain ⟨oc, hoc, hocd⟩ := id z
  refine h { s with heap := h' } ⟨I.ok, I.os, I.bare, ⟨fun b o e n hb hx => ?_, fun b o e n hb hx => ?_, I.base.free, fun b o e hx => ?_, I.base.tups, I.base.frzs, I.base.tbls⟩, ⟨m, hn.sameBut hs (Ne.symm (cne x c hc)), fun j y v' e1 e2 e3 => ?_⟩, fun y c' e => ?_, I.free, I.freeC, fun p hp => ?_, tracked ⟨oc, hoc, I.freeC x c hc⟩ hs, by simpa using I.len⟩ ⟨c, hs, .inr hc⟩
  ·exact (hs.2 b (Nat.ne_of_lt (Nat.lt_of_lt_of_le (Heap.lt_size e) (I.ok.cab x c hfn hc)))).trans (I.base.keep b o e n hb hx)
  ·obtain ⟨sl, e1⟩ := I.base.slot b o e n hb hx
   exact ⟨sl, (hs.2 b (Nat.ne_of_lt (Nat.lt_of_lt_of_le (Heap.lt_size e) (I.ok.cab x c hfn hc)))).trans e1⟩
  ·obtain ⟨o', e1⟩ := I.base.there b o e hx
   exact ⟨o', (hs.2 b (Nat.ne_of_lt (Nat.lt_of_lt_of_le (Heap.lt_size e) (I.ok.cab x c hfn hc)))).trans e1⟩
  ·by_cases hj : j = i
   ·subst hj
    rw [hi] at e1; cases e1
    rw [List.getElem?_set_self hiσ] at e2
    cases e2
    exact ⟨u, r, .inr ⟨.inl hk, c, hc, hc'⟩⟩
   ·rw [List.getElem?_set_ne (Ne.symm hj)] at e2
    obtain ⟨u', r', q⟩ := hl j y v' e1 e2 e3
    refine ⟨u', r', ?_⟩
    rcases q with q | ⟨k, c', e, z'⟩
    ·exact .inl q
    ·refine .inr ⟨k, c', e, z'.sameBut hs ?_⟩
     rintro rfl
     exact hj (nodup_ix hN e1 (I.ok.inj _ _ _ e hc ▸ hi))
  ·by_cases hcc : c' = c
   ·subst hcc; exact ⟨_, hc'⟩
   ·obtain ⟨w2, z2⟩ := I.cell y c' e
    exact ⟨w2, z2.sameBut hs hcc⟩
  ·obtain ⟨e, n, ne, nf, d⟩ := I.pin p hp
   refine ⟨(hs.2 p.1 ?_).trans e, n, ne, nf, d⟩
   intro q
   rw [q, hoc] at e
   have q' : oc = p.2 := Option.some.inj e
   exact d w' (by rw [← q']; exact hocd)
theorem store_ok {M : Model} {A : Around} {E : Value → Shared → Prop} {i : Nat} {x : Str} {v : V} {u : Value} {Q : Unit → Shared → Prop} (I : Inv X pins σ H s) (hN : X.N.Nodup) (hi : X.N[i]? = some x) (hx : Loc X.env.scope x) (r : RelV v u)
  (h : ∀ s', Inv X pins (σ.set i (some v)) H s' → Q () s') (hf : X.fn x = true ∨ X.env.scope.names.lookup x = some .local := by first | exact .inl rfl | exact .inr rfl | assumption) : wpAny M A (storeName X.env x u) Q E s :=
 store_ok2 I hN hi hx r (fun s' I' _ => h s' I') hf
theorem Inv.call' {s' : Shared} {ch : List Addr} (I : Inv X pins σ H s) (ho : s'.os = s.os) (u : Un (frs X.stack) ch H H' s.heap s'.heap) (hok : HOk X.prog X.w H' s'.heap) (hg : AllBare s'.gens)
  (hch : ∀ b ∈ ch, (b ∈ X.ex ∨ X.s₀.heap.objs.size ≤ b) ∧ b ≠ X.env.locals ∧ (∀ x c, X.env.cells.lookup x = some c → c ≠ b) ∧ ∀ p ∈ X.pn ++ pins, p.1 ≠ b) : Inv X pins σ H' s' := by
 obtain ⟨h', g', d', t', o'⟩ := s'
 have e : o' = s.os := ho
 subst e
 exact I.call (g' := g') (t' := t') (d' := d') u hok hg hch
end
noncomputable abbrev XK := Value → Option Addr → Hp → Prop
noncomputable abbrev St := List (Option V)
noncomputable abbrev VK := V → Hp → Prop
noncomputable abbrev TE := St → Hp → VK → Prop
noncomputable abbrev TT := St → Hp → (Bool → Hp → Prop) → Prop
noncomputable abbrev TA := St → Hp → (List V → Hp → Prop) → Prop
structure Ends where
 nx : St → Hp → Prop
 rt : VK
 bk : St → Hp → Prop := fun _ _ => False
 ct : St → Hp → Prop := fun _ _ => False
noncomputable abbrev TS := Ends → St → Hp → Prop
def EP (X : Cx) (pins : List (Addr × Obj)) (σ : St) (Q : VK) (u : Value) (s' : Shared) : Prop := ∃ v H', Inv X pins σ H' s' ∧ RelV v u ∧ Q v H'
def TP (X : Cx) (pins : List (Addr × Obj)) (σ : St) (Q : Bool → Hp → Prop) (b : Bool) (s' : Shared) : Prop := ∃ H', Inv X pins σ H' s' ∧ Q b H'
def AP (X : Cx) (pins : List (Addr × Obj)) (σ : St) (Q : List V → Hp → Prop) (us : List Value) (s' : Shared) : Prop := ∃ vs H', Inv X pins σ H' s' ∧ Vals vs us ∧ Q vs H'
def SP (X : Cx) (pins : List (Addr × Obj)) (D : Ends) (f : Flow) (s' : Shared) : Prop :=
 match f with
 | .next => ∃ σ' H', Inv X pins σ' H' s' ∧ D.nx σ' H'
 | .brk => ∃ σ' H', Inv X pins σ' H' s' ∧ D.bk σ' H'
 | .cont => ∃ σ' H', Inv X pins σ' H' s' ∧ D.ct σ' H'
 | .ret u => ∃ v σ' H', Inv X pins σ' H' s' ∧ RelV v u ∧ D.rt v H'
def PE (X : Cx) (e : Expr) (t : TE) : Prop :=
 ∀ (pins : List (Addr × Obj)) (s : Shared) (σ : St) (H : Hp) (Q : VK), Inv X pins σ H s → t σ H Q → wpAny (model X.prog X.w) X.A (eval e X.env) (EP X pins σ Q) X.xe s
def PT (X : Cx) (e : Expr) (t : TT) : Prop :=
 ∀ (pins : List (Addr × Obj)) (s : Shared) (σ : St) (H : Hp) (Q : Bool → Hp → Prop), Inv X pins σ H s → t σ H Q → wpAny (model X.prog X.w) X.A (isTrue e X.env (eval e X.env)) (TP X pins σ Q) X.xe s
def PW (X : Cx) (e : Expr) (t : TT) : Prop :=
 ∀ (whole : Sem Value) (pins : List (Addr × Obj)) (s : Shared) (σ : St) (H : Hp) (Q : Bool → Hp → Prop), Inv X pins σ H s → t σ H Q → wpAny (model X.prog X.w) X.A (isTrue e X.env whole) (TP X pins σ Q) X.xe s
theorem PW.pt {X : Cx} {e : Expr} {t : TT} (h : PW X e t) : PT X e t := h _
def PA (X : Cx) (es : List Expr) (t : TA) : Prop :=
 ∀ (pos : Pos) (pins : List (Addr × Obj)) (s : Shared) (σ : St) (H : Hp) (Q : List V → Hp → Prop), Inv X pins σ H s → t σ H Q → wpAny (model X.prog X.w) X.A (spliced (backTo pos (starEach es X.env))) (AP X pins σ Q) X.xe s
def PS (X : Cx) (st : Stmt) (t : TS) : Prop :=
 ∀ (pins : List (Addr × Obj)) (s : Shared) (σ : St) (H : Hp) (D : Ends), Inv X pins σ H s → t D σ H → wpAny (model X.prog X.w) X.A (exec st X.env) (SP X pins D) X.xe s
def PSs (X : Cx) (st : List Stmt) (t : TS) : Prop :=
 ∀ (pins : List (Addr × Obj)) (s : Shared) (σ : St) (H : Hp) (D : Ends), Inv X pins σ H s → t D σ H → wpAny (model X.prog X.w) X.A (execs st X.env) (SP X pins D) X.xe s
theorem thn {α : Type} {t : Sem α} {Q Q' : α → Shared → Prop} {M : Model} {A : Around} {E : Value → Shared → Prop} {s : Shared} (h : wpAny M A t Q E s) (hQ : ∀ a s, Q a s → Q' a s) : wpAny M A t Q' E s := wpAny_mono h hQ fun _ _ x => x
end L2
namespace L2
open PySem PySem.Spec PyProof.Rows
section
variable {X : Cx}
def tVar (i : Nat) : TE := fun σ H Q => ∃ v, σ[i]? = some (some v) ∧ Q v H
def tC (v : V) : TE := fun _ H Q => Q v H
theorem pe_var {i : Nat} {x : Str} {pos : Pos} (hN : X.N[i]? = some x) (hv : Vis X.env.scope x) (hd : (x == ("__debug__" : Str)) = false := by decide) (hcd : (x == ("__classdict__" : Str)) = false := by decide) : PE X (.Name x pos) (tVar i) := by
 intro pins s σ H Q I h
 obtain ⟨v, e, h⟩ := h
 obtain ⟨m, hn, hl⟩ := I.loc
 obtain ⟨u, r, l⟩ := hl i x v hN e hv
 have fin : EP X pins σ Q u s := ⟨v, H, I, r, h⟩
 rcases l with ⟨hk, hm⟩ | ⟨hk, c, hc, hcell⟩
 ·exact wpAny_Name (wpAny_loadName_local I.ok.kind hk hn hm fin) hd
 ·rcases hk with hk | hk
  ·exact wpAny_Name (wpAny_loadName_cell I.ok.kind hk hc hcell fin) hd
  ·exact wpAny_Name (wpAny_loadName_free I.ok.kind hk hc hcell fin hcd) hd
theorem pe_int {i j pos} : PE X (.Constant (.int i) j pos) (tC (.int i)) := fun _ _ _ H _ I h => wpAny_Constant_int ⟨.int i, H, I.tok _, ⟨_, rfl⟩, h⟩
theorem pe_bl {b j pos} : PE X (.Constant (.bool b) j pos) (tC (.bl b)) := fun _ _ _ H _ I h => Constant_bool ⟨.bl b, H, I, rfl, h⟩
theorem pe_non {j pos} : PE X (.Constant .none j pos) (tC .non) := fun _ _ _ H _ I h => Constant_none ⟨.non, H, I, rfl, h⟩
theorem pe_str {x j pos} : PE X (.Constant (.str x) j pos) (tC (.str x)) := fun _ _ _ H _ I h => Calls.Constant_str ⟨.str x, H, I.tok _, ⟨_, rfl⟩, h⟩
def Gl (X : Cx) (x : Str) : Prop := X.env.kindOf x = some .globalImplicit
theorem ld_glob {E : Value → Shared → Prop} {pins : List (Addr × Obj)} {s : Shared} {σ : St} {H : Hp} {x : Str} {u : Value} {pos : Pos} {Q : Value → Shared → Prop} (I : Inv X pins σ H s) (hg : Gl X x) (hm : X.mg x = some u) (h : Q u s)
  (hd : (x == ("__debug__" : Str)) = false := by decide) : wpAny (model X.prog X.w) X.A (eval (.Name x pos) X.env) Q E s :=
 Calls.Name_function_global I.ok.kind hg (Calls.loadGlobal_global (by rw [I.ok.glob]; exact I.mod.glob.keeps I.bk) hm h) hd
theorem ld_blt {E : Value → Shared → Prop} {pins : List (Addr × Obj)} {s : Shared} {σ : St} {H : Hp} {x : Str} {u : Value} {pos : Pos} {Q : Value → Shared → Prop} (I : Inv X pins σ H s) (hg : Gl X x) (hm : X.mg x = none) (hv : bootBuiltins x = some u) (h : Q u s)
  (hn : x ≠ "__name__" := by decide) (hd : (x == ("__debug__" : Str)) = false := by decide) : wpAny (model X.prog X.w) X.A (eval (.Name x pos) X.env) Q E s := by
 obtain ⟨mb, h1, h2⟩ := I.mod.blt
 exact Calls.Name_function_global I.ok.kind hg (Calls.loadGlobal_builtin (by rw [I.ok.glob]; exact I.mod.glob.keeps I.bk) hm (by rw [I.ok.blt]; exact h1.keeps I.bk) ((h2 x hn).trans hv) h) hd
theorem pe_bltn {x : Str} {v : V} {u : Value} {pos : Pos} (hg : Gl X x) (hm : X.mg x = none) (hv : bootBuiltins x = some u) (r : RelV v u) (hn : x ≠ "__name__" := by decide) (hd : (x == ("__debug__" : Str)) = false := by decide) : PE X (.Name x pos) (tC v) :=
 fun _ _ _ H _ I h => ld_blt I hg hm hv ⟨v, H, I, r, h⟩ hn hd
variable {a b : Expr} {ta tb : TE} {pos : Pos}
def tB (t : TE) : TT := fun σ H Q => t σ H fun x H1 => ∃ c, x = .bl c ∧ Q c H1
theorem pt_val {e : Expr} {t : TE} (h : PE X e t) (he : ∀ whole, isTrue e X.env whole = (do let v ← whole; standAt e.pos; holding [v] (truthy v)) := by intro _; rfl) : PT X e (tB t) := by
 intro pins s σ H Q I hw
 (refine isTrue_plain (thn (h pins s σ H _ I hw) ?_) (he _); rintro v s1 ⟨x, H1, I1, r1, q1⟩)
 obtain ⟨d, rfl, q⟩ := q1
 cases r1
 exact wpAny_truthy_bool ⟨H1, I1, q⟩
variable {tA tB' : TT} {rest : List Expr}
def tAnd (t u : TT) : TT := fun σ H Q => t σ H fun c H1 => if c = true then u σ H1 Q else Q false H1
def tOr (t u : TT) : TT := fun σ H Q => t σ H fun c H1 => if c = true then Q true H1 else u σ H1 Q
def tNot (t : TT) : TT := fun σ H Q => t σ H fun c H1 => Q (!c) H1
theorem pw_and1 (ha : PT X a tA) : PW X (.BoolOp .And [a] pos) tA := by
 intro wh pins s σ H Q I h
 refine isTrue_and (thn (ha pins s σ H Q I h) fun c s1 e => ?_)
 cases c with
 | true => exact isTrue_and_nil e
 | false => exact e
theorem pw_or1 (ha : PT X a tA) : PW X (.BoolOp .Or [a] pos) tA := by
 intro wh pins s σ H Q I h
 refine isTrue_or (thn (ha pins s σ H Q I h) fun c s1 e => ?_)
 cases c with
 | false => exact isTrue_or_nil e
 | true => exact e
theorem pw_and (ha : PT X a tA) (hb : PW X (.BoolOp .And (b :: rest) pos) tB') : PW X (.BoolOp .And (a :: b :: rest) pos) (tAnd tA tB') := by
 intro wh pins s σ H Q I h
 (refine isTrue_and (thn (ha pins s σ H _ I h) ?_); rintro c s1 ⟨H1, I1, q1⟩)
 cases c with
 | true => exact hb wh pins s1 σ H1 Q I1 q1
 | false => exact ⟨H1, I1, q1⟩
theorem pw_or (ha : PT X a tA) (hb : PW X (.BoolOp .Or (b :: rest) pos) tB') : PW X (.BoolOp .Or (a :: b :: rest) pos) (tOr tA tB') := by
 intro wh pins s σ H Q I h
 (refine isTrue_or (thn (ha pins s σ H _ I h) ?_); rintro c s1 ⟨H1, I1, q1⟩)
 cases c with
 | true => exact ⟨H1, I1, q1⟩
 | false => exact hb wh pins s1 σ H1 Q I1 q1
theorem pt_not (ha : PT X a tA) : PT X (.UnaryOp .Not a pos) (tNot tA) := by
 intro pins s σ H Q I h
 exact isTrue_not (ha pins s σ H (fun c H1 => Q (!c) H1) I h)
def tAndV (ta tb : TE) : TE := fun σ H Q => ta σ H fun x H1 => ∃ c, x = .bl c ∧ if c = true then tb σ H1 Q else Q (.bl false) H1
def tOrV (ta tb : TE) : TE := fun σ H Q => ta σ H fun x H1 => ∃ c, x = .bl c ∧ if c = true then Q (.bl true) H1 else tb σ H1 Q
def tNotV (ta : TE) : TE := fun σ H Q => ta σ H fun x H1 => ∃ c, x = .bl c ∧ Q (.bl (!c)) H1
theorem pe_one {op} {t : TE} (h : PE X a t) : PE X (.BoolOp op [a] pos) t := fun pins s σ H Q I hw => BoolOp_one (h pins s σ H Q I hw)
theorem pe_and (ha : PE X a ta) (hb : PE X (.BoolOp .And (b :: rest) pos) tb) : PE X (.BoolOp .And (a :: b :: rest) pos) (tAndV ta tb) := by
 intro pins s σ H Q I h
 (refine BoolOp_and (thn (ha pins s σ H _ I h) ?_); rintro v s1 ⟨x, H1, I1, r1, q1⟩)
 obtain ⟨c, rfl, q1⟩ := q1
 cases r1
 refine wpAny_truthy_bool ?_
 cases c with
 | true => exact hb pins s1 σ H1 Q I1 q1
 | false => exact ⟨.bl false, H1, I1, rfl, q1⟩
theorem pe_or (ha : PE X a ta) (hb : PE X (.BoolOp .Or (b :: rest) pos) tb) : PE X (.BoolOp .Or (a :: b :: rest) pos) (tOrV ta tb) := by
 intro pins s σ H Q I h
 (refine BoolOp_or (thn (ha pins s σ H _ I h) ?_); rintro v s1 ⟨x, H1, I1, r1, q1⟩)
 obtain ⟨c, rfl, q1⟩ := q1
 cases r1
 refine wpAny_truthy_bool ?_
 cases c with
 | false => exact hb pins s1 σ H1 Q I1 q1
 | true => exact ⟨.bl true, H1, I1, rfl, q1⟩
theorem pe_not (ha : PE X a ta) : PE X (.UnaryOp .Not a pos) (tNotV ta) := by
 intro pins s σ H Q I h
 (refine UnaryOp_ (thn (ha pins s σ H _ I h) ?_); rintro v s1 ⟨x, H1, I1, r1, q1⟩)
 obtain ⟨c, rfl, q1⟩ := q1
 cases r1
 exact not_of (wpAny_truthy_bool ⟨.bl (!c), H1, I1, rfl, q1⟩)
def tIf (t : TT) (ta tb : TE) : TE := fun σ H Q => t σ H fun c H1 => if c = true then ta σ H1 Q else tb σ H1 Q
theorem pe_ifExp {c : Expr} (hc : PT X c tA) (ha : PE X a ta) (hb : PE X b tb) : PE X (.IfExp c a b pos) (tIf tA ta tb) := by
 intro pins s σ H Q I h
 (refine wpAny_IfExp (thn (hc pins s σ H _ I h) ?_); rintro d s1 ⟨H1, I1, q1⟩)
 cases d with
 | true => exact ha pins s1 σ H1 Q I1 q1
 | false => exact hb pins s1 σ H1 Q I1 q1
end
end L2
namespace L2
open PySem PySem.Spec PyProof.Rows
def SqL (K : PySem.W.Frag) (H : Hp) (a : Addr) (xs : List V) : Prop :=
 Rd H a (.lst xs) ∨
  ∃ (o : Obj) (its : Array Value) (n : Nat), K.lookup a = some o ∧ o.cls = .type "list" ∧ o.dict = none ∧ o.data = .seq its n ∧ its.size ≤ sizeLine ∧ Vals xs its.toList
def SqT (K : PySem.W.Frag) (H : Hp) (a : Addr) (xs : List V) : Prop :=
 Rd H a (.tup xs) ∨
  ∃ (o : Obj) (its : Array Value) (n : Nat), K.lookup a = some o ∧ o.cls = .type "tuple" ∧ o.data = .seq its n ∧ its.size ≤ sizeLine ∧ Vals xs its.toList ∧ o.dict = none
noncomputable def absV : Value → Option V
 | .none => some .non
 | .bool b => some (.bl b)
 | .int i _ => some (.int i)
 | .str x _ => some (.str x)
 | .bytes b _ => some (.byt b)
 | .float b _ => some (.flt b)
 | .ref a => some (.ref a)
 | .type n => some (.ty n)
 | _ => none
theorem RelV.abs {x : V} {u : Value} (r : RelV x u) : absV u = some x := by
 cases x with
 | non => cases r; rfl
 | bl _ => cases r; rfl
 | int _ => obtain ⟨t, rfl⟩ := r; rfl
 | str _ => obtain ⟨t, rfl⟩ := r; rfl
 | byt _ => obtain ⟨t, rfl⟩ := r; rfl
 | flt _ => obtain ⟨t, rfl⟩ := r; rfl
 | ref _ => cases r; rfl
 | ty _ => cases r; rfl
theorem RelV.inj {x y : V} {u : Value} (r : RelV x u) (q : RelV y u) : x = y := Option.some.inj (r.abs.symm.trans q.abs)
theorem Vals.inj : ∀ {xs ys : List V} {us : List Value}, Vals xs us → Vals ys us → xs = ys
 | _, _, _, .nil, .nil => rfl
 | _, _, _, .cons r t, .cons r' t' => by rw [r.inj r', Vals.inj t t']
section
variable {X : Cx} {pins : List (Addr × Obj)} {σ : St} {H : Hp} {s : Shared} {a : Addr} {xs ys : List V}
theorem SqL.of {K : PySem.W.Frag} (h : H a = some (.lst xs)) : SqL K H a xs := .inl (.inl h)
theorem SqT.of {K : PySem.W.Frag} (h : H a = some (.tup xs)) : SqT K H a xs := .inl (.inl h)
theorem Inv.list (I : Inv X pins σ H s) (h : SqL X.K H a xs) : ∃ its : List Value, Vals xs its ∧ PlainL s.heap a its.toArray ∧ xs.length ≤ sizeLine := by
 rcases h with h | ⟨o, its, n, hk, hc, hd, hs, hz, r⟩
 ·obtain ⟨z, its, n, r, e⟩ := h.ok I.hok
  exact ⟨its, r, ⟨_, n, e, rfl, rfl, rfl⟩, z⟩
 ·refine ⟨its.toList, r, ⟨o, n, I.kIn a o hk, hc, hd, by simpa using hs⟩, ?_⟩
  have e := r.length
  simp only [Array.length_toList] at e
  omega
theorem Inv.tuple (I : Inv X pins σ H s) (h : SqT X.K H a xs) : ∃ its : List Value, Vals xs its ∧ IsTup s.heap a its.toArray ∧ xs.length ≤ sizeLine := by
 rcases h with h | ⟨o, its, n, hk, hc, hs, hz, r, _⟩
 ·obtain ⟨z, its, r, p⟩ := h.ok I.hok
  exact ⟨its, r, p.tup, z⟩
 ·refine ⟨its.toList, r, ⟨o, I.kIn a o hk, hc, n, by simpa using hs⟩, ?_⟩
  have e := r.length
  simp only [Array.length_toList] at e
  omega
theorem Inv.list_inj (I : Inv X pins σ H s) (h : SqL X.K H a xs) (h' : SqL X.K H a ys) : xs = ys := by
 obtain ⟨its, r, ⟨o, n, e, _, _, d⟩, _⟩ := I.list h
 obtain ⟨its', r', ⟨o', n', e', _, _, d'⟩, _⟩ := I.list h'
 rw [e] at e'; cases e'
 rw [d] at d'
 injection d' with d1 _
 have : its = its' := by simpa using congrArg Array.toList d1
 subst this
 exact r.inj r'
theorem Inv.tuple_inj (I : Inv X pins σ H s) (h : SqT X.K H a xs) (h' : SqT X.K H a ys) : xs = ys := by
 obtain ⟨its, r, ⟨o, e, _, n, d⟩, _⟩ := I.tuple h
 obtain ⟨its', r', ⟨o', e', _, n', d'⟩, _⟩ := I.tuple h'
 rw [e] at e'; cases e'
 rw [d] at d'
 injection d' with d1 _
 have : its = its' := by simpa using congrArg Array.toList d1
 subst this
 exact r.inj r'
end
noncomputable abbrev Cx.wish (X : Cx) (E : Value → Shared → Prop) : Cx := { X with xe := E }
noncomputable abbrev Cx.nox (X : Cx) : Cx := X.wish fun _ _ => False
theorem Cx.Ok.wish {X : Cx} (ok : X.Ok) (E : Value → Shared → Prop) : (X.wish E).Ok :=
 ⟨ok.mod, ok.kind, ok.glob, ok.blt, ok.above, ok.inj, ok.has, ok.cab, ok.hd, ok.frames, ok.stk, ok.exf, ok.bs, ok.bsz, ok.noex, ok.exfs, ok.funs, ok.frf⟩
theorem Cx.Ok.unwish {X : Cx} {E : Value → Shared → Prop} (ok : (X.wish E).Ok) : X.Ok :=
 ⟨ok.mod, ok.kind, ok.glob, ok.blt, ok.above, ok.inj, ok.has, ok.cab, ok.hd, ok.frames, ok.stk, ok.exf, ok.bs, ok.bsz, ok.noex, ok.exfs, ok.funs, ok.frf⟩
section
variable {X : Cx} {pins : List (Addr × Obj)} {σ : St} {H : Hp} {s : Shared} {E : Value → Shared → Prop}
theorem Inv.wish (I : Inv X pins σ H s) (E : Value → Shared → Prop) : Inv (X.wish E) pins σ H s := ⟨I.ok.wish E, I.os, I.bare, I.base, I.loc, I.cell, I.free, I.freeC, I.pin, I.hok, I.len⟩
theorem Inv.unwish (I : Inv (X.wish E) pins σ H s) : Inv X pins σ H s := ⟨I.ok.unwish, I.os, I.bare, I.base, I.loc, I.cell, I.free, I.freeC, I.pin, I.hok, I.len⟩
theorem SP.unwish {D : Ends} {f : Flow} {s' : Shared} (h : SP (X.wish E) pins D f s') : SP X pins D f s' := by
 cases f with
 | next => obtain ⟨σ', H', I, q⟩ := h; exact ⟨σ', H', I.unwish, q⟩
 | brk => obtain ⟨σ', H', I, q⟩ := h; exact ⟨σ', H', I.unwish, q⟩
 | cont => obtain ⟨σ', H', I, q⟩ := h; exact ⟨σ', H', I.unwish, q⟩
 | ret u => obtain ⟨v, σ', H', I, r, q⟩ := h; exact ⟨v, σ', H', I.unwish, r, q⟩
theorem PE.nox {e : Expr} {t : TE} (h : PE X.nox e t) : PE X e t := fun pins s σ H Q I hw =>
 wpAny_mono (h pins s σ H Q (I.wish _) hw) (fun _ _ ⟨v, H', I', r, q⟩ => ⟨v, H', I'.unwish, r, q⟩) fun _ _ z => False.elim z
theorem PT.nox {e : Expr} {t : TT} (h : PT X.nox e t) : PT X e t := fun pins s σ H Q I hw =>
 wpAny_mono (h pins s σ H Q (I.wish _) hw) (fun _ _ ⟨H', I', q⟩ => ⟨H', I'.unwish, q⟩) fun _ _ z => False.elim z
theorem PSs.nox {st : List Stmt} {t : TS} (h : PSs X.nox st t) : PSs X st t := fun pins s σ H D I hw =>
 wpAny_mono (h pins s σ H D (I.wish _) hw) (fun _ _ q => q.unwish) fun _ _ z => False.elim z
end
section
variable {X : Cx} {st : Stmt} {rest : List Stmt} {t u : TS} {e : Expr} {te : TE} {pos : Pos}
def tNext : TS := fun D σ H => D.nx σ H
def tSeq (t u : TS) : TS := fun D σ H => t { D with nx := u D } σ H
theorem pss_nil : PSs X [] tNext := fun _ _ σ H _ I h => wpAny_execs_nil ⟨σ, H, I, h⟩
theorem pss_cons (h1 : PS X st t) (h2 : PSs X rest u) : PSs X (st :: rest) (tSeq t u) := by
 intro pins s σ H D I h
 refine wpAny_execs_cons (thn (h1 pins s σ H { D with nx := u D } I h) fun f s1 q => ?_)
 cases f with
 | next =>
  obtain ⟨σ', H', I', q⟩ := q
  exact h2 pins s1 σ' H' D I' q
 | ret v => exact q
 | brk => exact q
 | cont => exact q
theorem pss_one (h1 : PS X st t) : PSs X [st] t := by
 intro pins s σ H D I h
 refine wpAny_execs_cons (thn (h1 pins s σ H D I h) fun f s1 q => ?_)
 cases f with
 | next => exact wpAny_execs_nil q
 | ret v => exact q
 | brk => exact q
 | cont => exact q
theorem Inv.quiet {pins : List (Addr × Obj)} {σ : St} {H : Hp} {s : Shared} (I : Inv X pins σ H s) : interactive X.env = false := by simp [interactive, I.ok.kind]
def tDrop (te : TE) : TS := fun D σ H => te σ H fun _ H1 => D.nx σ H1
theorem ps_expr (he : PE X e te) (hs : swapsWith e none pos.line X.env = pure false := by rfl) : PS X (.Expr e pos) (tDrop te) := by
 intro pins s σ H D I h
 (refine wpAny_Expr_any (thn (he pins s σ H _ I h) ?_) I.quiet hs; rintro v s1 ⟨x, H1, I1, r1, q1⟩; exact ⟨σ, H1, I1, q1⟩)
def tRet (te : TE) : TS := fun D σ H => te σ H D.rt
theorem ps_ret (he : PE X e te) : PS X (.Return (some e) pos) (tRet te) := by
 intro pins s σ H D I h
 (refine wpAny_Return_some (thn (he pins s σ H _ I h) ?_); rintro v s1 ⟨x, H1, I1, r1, q1⟩; exact ⟨x, σ, H1, I1, r1, q1⟩)
def tIfS (c : TT) (t u : TS) : TS := fun D σ H => c σ H fun b H1 => if b = true then t D σ H1 else u D σ H1
theorem ps_if {c : Expr} {a b : List Stmt} {tc : TT} (hc : PT X c tc) (ha : PSs X a t) (hb : PSs X b u) : PS X (.If c a b pos) (tIfS tc t u) := by
 intro pins s σ H D I h
 (refine wpAny_If (thn (hc pins s σ H _ I h) ?_); rintro d s1 ⟨H1, I1, q1⟩)
 cases d with
 | true => exact ha pins s1 σ H1 D I1 q1
 | false => exact hb pins s1 σ H1 D I1 q1
def tNever : TS := fun _ _ _ => False
theorem ps_never : PS X st tNever := fun _ _ _ _ _ _ h => h.elim
end
noncomputable abbrev TG := V → St → Hp → (St → Hp → Prop) → Prop
noncomputable abbrev TGs := List V → St → Hp → (St → Hp → Prop) → Prop
def PG (X : Cx) (target : Expr) (t : TG) : Prop :=
 ∀ (pins : List (Addr × Obj)) (s : Shared) (σ : St) (H : Hp) (v : V) (u : Value) (Q : St → Hp → Prop), Inv X pins σ H s → RelV v u → t v σ H Q →
  wpAny (model X.prog X.w) X.A (assign target X.env u) (fun _ s' => ∃ σ' H', Inv X pins σ' H' s' ∧ Q σ' H') X.xe s
def PGs (X : Cx) (ts : List Expr) (t : TGs) : Prop :=
 ∀ (pins : List (Addr × Obj)) (s : Shared) (σ : St) (H : Hp) (vs : List V) (us : List Value) (Q : St → Hp → Prop), Inv X pins σ H s → Vals vs us → t vs σ H Q →
  wpAny (model X.prog X.w) X.A (assignInOrder ((assignEach ts X.env).map (·.2)) us) (fun _ s' => ∃ σ' H', Inv X pins σ' H' s' ∧ Q σ' H') X.xe s
noncomputable abbrev TSet := V → V → V → Hp → (Hp → Prop) → Prop
def PSet (X : Cx) (t : TSet) : Prop :=
 ∀ (pins : List (Addr × Obj)) (s : Shared) (σ : St) (H : Hp) (o i v : V) (ov iv u : Value) (Q : Hp → Prop), Inv X pins σ H s → RelV o ov → RelV i iv → RelV v u → t o i v H Q →
  wpAny (model X.prog X.w) X.A (setItem ov iv u) (fun _ s' => ∃ H', Inv X pins σ H' s' ∧ Q H') X.xe s
noncomputable abbrev TIp := V → V → Hp → VK → Prop
def PIp (X : Cx) (op : Operator) (t : TIp) : Prop :=
 ∀ (pins : List (Addr × Obj)) (s : Shared) (σ : St) (H : Hp) (x y : V) (v u : Value) (Q : VK), Inv X pins σ H s → RelV x v → RelV y u → t x y H Q →
  wpAny (model X.prog X.w) X.A (inplaceOp op v u) (EP X pins σ Q) X.xe s
section
variable {X : Cx} {pos : Pos}
def gName (i : Nat) : TG := fun v σ H Q => Q (σ.set i (some v)) H
theorem pg_name {i : Nat} {x : Str} (hN : X.N.Nodup) (hi : X.N[i]? = some x) (hx : Loc X.env.scope x) (hf : X.fn x = true ∨ X.env.scope.names.lookup x = some .local := by first | exact .inl rfl | exact .inr rfl | assumption) : PG X (.Name x pos) (gName i) := by
 intro pins s σ H v u Q I r h
 exact wpAny_assign_Name (store_ok I hN hi hx r (fun s' I' => ⟨_, H, I', h⟩) hf)
def gNil : TGs := fun vs σ H Q => vs = [] ∧ Q σ H
def gCons (t : TG) (u : TGs) : TGs := fun vs σ H Q => ∃ v r, vs = v :: r ∧ t v σ H fun σ' H' => u r σ' H' Q
theorem pgs_nil : PGs X [] gNil := by
 intro pins s σ H vs us Q I r h
 obtain ⟨e, h⟩ := h
 subst e
 cases r
 exact assignInOrder_nil ⟨σ, H, I, h⟩
theorem pgs_cons {e : Expr} {es : List Expr} {t : TG} {u : TGs} (h1 : PG X e t) (h2 : PGs X es u)
  (hs : (assignEach (e :: es) X.env).map (·.2) = assign e X.env :: (assignEach es X.env).map (·.2) := by rfl) : PGs X (e :: es) (gCons t u) := by
 intro pins s σ H vs us Q I r h
 obtain ⟨v, vr, e1, h⟩ := h
 subst e1
 cases r with
 | cons r rr =>
  rw [hs]
  (refine assignInOrder_cons (thn (h1 pins s σ H _ _ _ I r h) ?_); rintro _ s1 ⟨σ1, H1, I1, q1⟩)
  exact h2 pins s1 σ1 H1 _ _ Q I1 rr q1
def gTup (K : PySem.W.Frag) (n : Nat) (t : TGs) : TG := fun v σ H Q => ∃ a xs, v = .ref a ∧ SqT K H a xs ∧ xs.length = n ∧ t xs σ H Q
theorem pg_tup {es : List Expr} {k : Nat} {t : TGs} {n : Nat} (hc : X.calm = true) (h : PGs X es t)
  (hn : (assignEach es X.env).length = n := by rfl) (hst : (assignEach es X.env).findIdx? (·.1) = none := by rfl) : PG X (.Tuple es k pos) (gTup X.K n t) := by
 intro pins s σ H v u Q I r hw
 obtain ⟨a, xs, e1, hq, hl, hw⟩ := hw
 subst e1
 cases r
 obtain ⟨its, rv, ht, hz⟩ := I.tuple hq
 refine assign_Tuple_tuple (I.ok.hd hc) ht (by simp [hn, ← hl, rv.length]) hst fun h' hx => ?_
 have I1 : Inv X pins σ H { s with heap := h' } := I.kept (t' := s.toks) fun b o e => hx b o (Nat.ne_of_lt (Heap.lt_size e)) e
 exact h pins _ σ H xs _ Q I1 (by simpa using rv) hw
def gSub (to ti : TE) (t : TSet) : TG := fun v σ H Q => to σ H fun o H1 => ti σ H1 fun i H2 => t o i v H2 fun H3 => Q σ H3
theorem pg_sub {o i : Expr} {to ti : TE} {t : TSet} (ho : PE X o to) (hi : PE X i ti) (hs : PSet X t)
  (ha : ∀ v, assign (.Subscript o i pos) X.env v = (do
   let ov ← holding [v] (eval o X.env)
   let iv ← holding [v, ov] (eval i X.env)
   standAt pos
   holding [v, ov, iv] (setItem ov iv v)
   release [v, ov, iv] []) := by intro _; rfl) : PG X (.Subscript o i pos) (gSub to ti t) := by
 intro pins s σ H v u Q I r h
 rw [ha]
 (refine wpAny_bind (wpAny_holding (thn (ho pins s σ H _ I h) ?_)); rintro ov s1 ⟨x, H1, I1, r1, q1⟩)
 (refine wpAny_bind (wpAny_holding (thn (hi pins s1 σ H1 _ I1 q1) ?_)); rintro iv s2 ⟨y, H2, I2, r2, q2⟩)
 (refine wpAny_bind (wpAny_standAt (wpAny_bind (wpAny_holding (thn (hs pins s2 σ H2 x y v ov iv u _ I2 r1 r2 r q2) ?_)))); rintro _ s3 ⟨H3, I3, q3⟩)
 exact wpAny_release ⟨σ, H3, I3, q3⟩
def tAsg (te : TE) (g : TG) : TS := fun D σ H => te σ H fun x H1 => g x σ H1 D.nx
theorem ps_asg {tg e : Expr} {te : TE} {g : TG} (he : PE X e te) (hg : PG X tg g) (hs : swapsWithSole [tg] e pos.line X.env = pure false := by rfl) (hw : swappedStores [tg] e X.env = pure none := by rfl)
  (h1 : (assignEach [tg] X.env).map (·.2) = [assign tg X.env] := by rfl) : PS X (.Assign [tg] e pos) (tAsg te g) := by
 intro pins s σ H D I h
 (refine wpAny_Assign_stores (thn (he pins s σ H _ I h) ?_) hs hw; rintro v s1 ⟨x, H1, I1, r1, q1⟩)
 rw [h1]
 exact thn (hg pins s1 σ H1 x v _ I1 r1 q1) fun _ s2 q => q
theorem ps_set {i : Nat} {x : Str} {e : Expr} {te : TE} {pos' : Pos} (hN : X.N.Nodup) (hi : X.N[i]? = some x) (hx : Loc X.env.scope x) (he : PE X e te) (hs : swapsWith e (some (.Name x pos')) pos.line X.env = pure false := by rfl) (hf : X.fn x = true ∨ X.env.scope.names.lookup x = some .local := by first | exact .inl rfl | exact .inr rfl | assumption) :
  PS X (.Assign [.Name x pos'] e pos) (tAsg te (gName i)) := by
 intro pins s σ H D I h
 (refine wpAny_Assign_Name (thn (he pins s σ H _ I h) ?_) hs; rintro v s1 ⟨y, H1, I1, r1, q1⟩)
 exact store_ok I1 hN hi hx r1 (fun s2 I2 => ⟨_, H1, I2, q1⟩) hf
def tAug (i : Nat) (te : TE) (ti : TIp) : TS := fun D σ H => ∃ x, σ[i]? = some (some x) ∧ te σ H fun y H1 => ti x y H1 fun z H2 => D.nx (σ.set i (some z)) H2
theorem ps_aug {i : Nat} {x : Str} {e : Expr} {te : TE} {op : Operator} {ti : TIp} {pos' : Pos} (hN : X.N.Nodup) (hi : X.N[i]? = some x) (hx : Loc X.env.scope x) (he : PE X e te) (ho : PIp X op ti) (hf : X.fn x = true ∨ X.env.scope.names.lookup x = some .local := by first | exact .inl rfl | exact .inr rfl | assumption) :
  PS X (.AugAssign (.Name x pos') op e pos) (tAug i te ti) := by
 intro pins s σ H D I h
 obtain ⟨v, e1, h⟩ := h
 obtain ⟨m, hn, hl⟩ := I.loc
 have vis : Vis X.env.scope x := by rcases hx with k | k; exact .inl k; exact .inr (.inl k)
 obtain ⟨u, r, l⟩ := hl i x v hi e1 vis
 refine wpAny_AugAssign_Name ?_
 have go : wpAny (model X.prog X.w) X.A (eval e X.env) (fun w s₂ => wpAny (model X.prog X.w) X.A (inplaceOp op u w) (fun r s₃ => wpAny (model X.prog X.w) X.A (storeName X.env x r) (fun _ => SP X pins D .next) X.xe s₃) X.xe s₂) X.xe s := by
  (refine thn (he pins s σ H _ I h) ?_; rintro w s1 ⟨y, H1, I1, r1, q1⟩)
  (refine thn (ho pins s1 σ H1 v y u w _ I1 r r1 q1) ?_; rintro z s2 ⟨zv, H2, I2, r2, q2⟩)
  exact store_ok I2 hN hi hx r2 (fun s3 I3 => ⟨_, H2, I3, q2⟩) hf
 rcases l with ⟨hk, hm⟩ | ⟨hk, c, hc, hcell⟩
 ·exact wpAny_loadName_local I.ok.kind hk hn hm go
 ·rcases hk with hk | hk
  ·exact wpAny_loadName_cell I.ok.kind hk hc hcell go
  ·rcases hx with k | k
   ·have : X.env.scope.names.lookup x = some .free := hk
    rw [k] at this; cases this
   ·have : X.env.scope.names.lookup x = some .free := hk
    rw [k] at this; cases this
end
section
variable {X : Cx} {pos : Pos}
def tWhile (c : TT) (tb : TS) : TS := fun D σ H => ∃ W : Nat → St → Hp → Prop, (∃ m, W m σ H) ∧ ∀ m σ H, W m σ H →
 c σ H fun b H1 => if b = true then ∃ N : St → Hp → Prop, (∀ σ' H', N σ' H' → ∃ m', m' < m ∧ W m' σ' H') ∧ tb { D with nx := N, ct := N, bk := D.nx } σ H1 else D.nx σ H1
theorem ps_while {c : Expr} {body : List Stmt} {tc : TT} {tb : TS} (hp : PassesOwn (model X.prog X.w) X.A X.env X.xe) (hc : PT X c tc) (hb : PSs X body tb) : PS X (.While c body [] pos) (tWhile tc tb) := by
 intro pins s σ H D I h
 obtain ⟨W, ⟨m0, w0⟩, turn⟩ := h
 refine wpAny_While (codeAny_whileLoop (fun n s' => ∃ σ' H', Inv X pins σ' H' s' ∧ W n σ' H') ?_ m0 ⟨σ, H, I, w0⟩)
 rintro n s1 ⟨σ1, H1, I1, w1⟩
 (refine wpAny_passesOwn hp (thn (hc pins s1 σ1 H1 _ I1 (turn n σ1 H1 w1)) ?_); rintro b s2 ⟨H2, I2, q2⟩)
 cases b with
 | true =>
  obtain ⟨N, hN, q2⟩ := q2
  rw [if_pos rfl]
  refine wpAny_passesOwn hp (thn (hb pins s2 σ1 H2 _ I2 q2) fun f s3 q3 => ?_)
  cases f with
  | next =>
   obtain ⟨σ3, H3, I3, n3⟩ := q3
   obtain ⟨m', hm, w3⟩ := hN σ3 H3 n3
   exact ⟨m', hm, σ3, H3, I3, w3⟩
  | cont =>
   obtain ⟨σ3, H3, I3, n3⟩ := q3
   obtain ⟨m', hm, w3⟩ := hN σ3 H3 n3
   exact ⟨m', hm, σ3, H3, I3, w3⟩
  | brk => exact q3
  | ret v => exact q3
 | false =>
  rw [if_neg Bool.false_ne_true]
  exact wpAny_execs_nil ⟨σ1, H2, I2, q2⟩
end
structure It where
 go : Nat → Hp → Prop
 yld : Nat → Hp → V → Hp → Prop
 stop : Nat → Hp → Prop
def FpOk (X : Cx) (pins : List (Addr × Obj)) (H : Hp) (b : Addr) : Prop :=
 H b = none ∧ b ≠ X.env.locals ∧ b ∉ X.fs ∧ (b ∈ X.ex ∨ X.s₀.heap.objs.size ≤ b) ∧ (∀ x c, X.env.cells.lookup x = some c → c ≠ b) ∧ ∀ p ∈ X.pn ++ pins, p.1 ≠ b
theorem Inv.fpOk {X : Cx} {pins : List (Addr × Obj)} {σ : St} {H H' : Hp} {s : Shared} {b : Addr} (I : Inv X pins σ H s) (hb : s.heap.objs.size ≤ b) (hn : H' b = none) : FpOk X pins H' b := by
 refine ⟨hn, Nat.ne_of_gt (Nat.lt_of_lt_of_le I.lt hb), I.nofs hb, .inr (Nat.le_trans I.sz hb), fun x c e z => ?_, fun p hp z => ?_⟩
 ·obtain ⟨v, q⟩ := I.cell x c e
  exact absurd (Nat.lt_of_lt_of_le q.lt (by rw [z]; exact hb)) (Nat.lt_irrefl _)
 ·exact absurd (Nat.lt_of_lt_of_le (Heap.lt_size (I.pin p hp).1) (by rw [z]; exact hb)) (Nat.lt_irrefl _)
structure Turn (P : Program) (w : World) (K : PySem.W.Frag) (tg : Expr) (J : It) (fp : List Addr) (it : Addr) (tn : Nat → Heap → Prop) : Prop where
 mem : it ∈ fp
 obj : ∀ i h, tn i h → ∀ b ∈ fp, ∃ o, h.get? b = some o ∧ ∀ v, o.data ≠ .cell v
 keep : ∀ i h h', tn i h → (∀ b ∈ fp, ∀ o, h.get? b = some o → h'.get? b = some o) → tn i h'
 item : ∀ (X : Cx), X.prog = P → X.w = w → X.K = K → X.calm = true → ∀ (i : Nat) (pins : List (Addr × Obj)) (s : Shared) (σ : St) (H : Hp) (E : Value → Shared → Prop), Inv X pins σ H s → (∀ b ∈ fp, FpOk X pins H b) → tn i s.heap → J.go i H →
  wpAny (model P w) X.A (pyNext (.ref it)) (fun r s1 => ∃ u, r = some u ∧
   wpAny (model P w) X.A (letOwnedTupleGo tg (.ref it) u) (fun _ s2 => ∃ x H', Inv X pins σ H' s2 ∧ RelV x u ∧ J.yld i H x H' ∧ tn (i + 1) s2.heap ∧ ∀ b ∈ fp, H' b = none) E s1) E s
 done : ∀ (X : Cx), X.prog = P → X.w = w → X.K = K → X.calm = true → ∀ (i : Nat) (pins : List (Addr × Obj)) (s : Shared) (σ : St) (H : Hp) (E : Value → Shared → Prop), Inv X pins σ H s → (∀ b ∈ fp, FpOk X pins H b) → tn i s.heap → J.stop i H →
  wpAny (model P w) X.A (pyNext (.ref it)) (fun r s1 => r = none ∧ Inv X pins σ H s1) E s
 self : ∀ (A : Around) (i : Nat) (s : Shared) (Q : Value → Shared → Prop) (E : Value → Shared → Prop), tn i s.heap → Q (.ref it) s → wpAny (model P w) A (pyIter (.ref it)) Q E s
noncomputable abbrev TI := St → Hp → (It → Hp → Prop) → Prop
def PIE (X : Cx) (pins : List (Addr × Obj)) (σ : St) (tg : Expr) (R : It → Hp → Prop) (itv : Value) (s2 : Shared) : Prop :=
 ∃ (it : Addr) (fp : List Addr) (tn : Nat → Heap → Prop) (J : It) (H' : Hp), itv = .ref it ∧ Inv X pins σ H' s2 ∧ Turn X.prog X.w X.K tg J fp it tn ∧ tn 0 s2.heap ∧ (∀ b ∈ fp, FpOk X pins H' b) ∧ R J H'
def PI (X : Cx) (tg iter : Expr) (wi : TI) : Prop :=
 ∀ (pins : List (Addr × Obj)) (s : Shared) (σ : St) (H : Hp) (R : It → Hp → Prop), Inv X pins σ H s → wi σ H R →
  wpAny (model X.prog X.w) X.A (eval iter X.env) (fun v s1 => wpAny (model X.prog X.w) X.A (pyIter v) (PIE X pins σ tg R) X.xe s1) X.xe s
theorem go_of {M : Model} {A : Around} {E : Value → Shared → Prop} {s : Shared} {tg : Expr} {it : Addr} {u : Value} {o : Obj} {n : String} {vs : Array Value} {Q : Unit → Shared → Prop} (ho : s.heap.get? it = some o) (hc : o.cls = .type n) (hd : o.data = .fields vs)
    (hn : ["enumerate", "zip", "dict_itemiterator", "dict_reverseitemiterator", "odict_iterator", "itertools.zip_longest", "itertools.pairwise"].contains n = false) (hQ : Q () s) : wpAny M A (letOwnedTupleGo tg (.ref it) u) Q E s := by
  unfold letOwnedTupleGo
  cases tg <;> first
    | exact wpAny_pure hQ
    | (cases u <;> first
        | exact wpAny_pure hQ
        | (refine wpAny_bind (wpAny_load ho ?_)
           rw [hc, hd]
           show wpAny M A (if (["enumerate", "zip", "dict_itemiterator", "dict_reverseitemiterator", "odict_iterator", "itertools.zip_longest", "itertools.pairwise"].contains n && vs[0]? == some (rawInt _)) = true then _ else _) Q E s
           rw [if_neg (by intro h; rw [hn, Bool.false_and] at h; cases h)]
           exact wpAny_pure hQ))
noncomputable def Itl (K : PySem.W.Frag) (a : Addr) : It :=
 ⟨fun i H => ∃ xs x, SqL K H a xs ∧ xs[i]? = some x, fun i H x H' => H' = H ∧ ∀ xs, SqL K H a xs → xs[i]? = some x, fun i H => ∃ xs, SqL K H a xs ∧ xs.length ≤ i⟩
noncomputable def Itt (K : PySem.W.Frag) (a : Addr) : It :=
 ⟨fun i H => ∃ xs x, SqT K H a xs ∧ xs[i]? = some x, fun i H x H' => H' = H ∧ ∀ xs, SqT K H a xs → xs[i]? = some x, fun i H => ∃ xs, SqT K H a xs ∧ xs.length ≤ i⟩
noncomputable def Itr (lo : Int) (n : Nat) : It := ⟨fun i _ => i < n, fun i H x H' => H' = H ∧ x = .int (lo + i), fun i _ => n ≤ i⟩
theorem turn_list {P : Program} {w : World} {K : PySem.W.Frag} {tg : Expr} (a it : Addr) : Turn P w K tg (Itl K a) [it] it (fun i h => h.IsListIter it a i) where
 mem := by simp
 obj := fun i h st b hb => by
  have e : b = it := by simpa using hb
  subst e
  obtain ⟨o, e, c, d⟩ := st
  exact ⟨o, e, fun v z => by rw [d] at z; cases z⟩
 keep := fun i h h' st k => st.at fun o e => k it (by simp) o e
 item := by
  intro X hP hw hK hc i pins s σ H E I hf st hg
  subst hP hw hK
  obtain ⟨xs, x, hq, hx⟩ := hg
  obtain ⟨its, rv, p, hz⟩ := I.list hq
  obtain ⟨u, hu, ru⟩ := rv.get hx
  obtain ⟨f0, f1, f2, f3, f4, f5⟩ := hf it (by simp)
  refine wpAny_pyNext_list_item st p.isList (x := u) (by simpa using hu) fun h' st' sb => ?_
  have I1 : Inv X pins σ H { s with heap := h' } := I.turned (t' := s.toks) (fun b o hb e => (sb.2 b hb).trans e) f0 f1 f3 f4 f5
  obtain ⟨o, e, c, d⟩ := id st'
  exact ⟨u, rfl, go_of (s := { s with heap := h' }) e c d (by decide) ⟨x, H, I1, ru, ⟨rfl, fun ys hy => by rw [I.list_inj hy hq]; exact hx⟩, st', fun b hb => (hf b hb).1⟩⟩
 done := by
  intro X hP hw hK hc i pins s σ H E I hf st hg
  subst hP hw hK
  obtain ⟨xs, hq, hx⟩ := hg
  obtain ⟨its, rv, p, hz⟩ := I.list hq
  obtain ⟨f0, f1, f2, f3, f4, f5⟩ := hf it (by simp)
  have hl := rv.length
  exact wpAny_pyNext_list_end (I.ok.hd hc) st p.isList (by simp; omega) fun h' eb => ⟨rfl, I.turned (t' := s.toks) (fun b o hb e => eb b o hb e) f0 f1 f3 f4 f5⟩
 self := fun _ _ _ _ _ st h => wpAny_pyIter_listiter st h
theorem turn_tuple {P : Program} {w : World} {K : PySem.W.Frag} {tg : Expr} (a it : Addr) : Turn P w K tg (Itt K a) [it] it (fun i h => h.IsTupleIter it a i) where
 mem := by simp
 obj := fun i h st b hb => by
  have e : b = it := by simpa using hb
  subst e
  obtain ⟨o, e, c, d⟩ := st
  exact ⟨o, e, fun v z => by rw [d] at z; cases z⟩
 keep := fun i h h' st k => st.at fun o e => k it (by simp) o e
 item := by
  intro X hP hw hK hc i pins s σ H E I hf st hg
  subst hP hw hK
  obtain ⟨xs, x, hq, hx⟩ := hg
  obtain ⟨its, rv, p, hz⟩ := I.tuple hq
  obtain ⟨u, hu, ru⟩ := rv.get hx
  obtain ⟨f0, f1, f2, f3, f4, f5⟩ := hf it (by simp)
  refine wpAny_pyNext_tuple_item st (show s.heap.IsTuple a its.toArray from p) (x := u) (by simpa using hu) fun h' st' sb => ?_
  have I1 : Inv X pins σ H { s with heap := h' } := I.turned (t' := s.toks) (fun b o hb e => (sb.2 b hb).trans e) f0 f1 f3 f4 f5
  obtain ⟨o, e, c, d⟩ := id st'
  exact ⟨u, rfl, go_of (s := { s with heap := h' }) e c d (by decide) ⟨x, H, I1, ru, ⟨rfl, fun ys hy => by rw [I.tuple_inj hy hq]; exact hx⟩, st', fun b hb => (hf b hb).1⟩⟩
 done := by
  intro X hP hw hK hc i pins s σ H E I hf st hg
  subst hP hw hK
  obtain ⟨xs, hq, hx⟩ := hg
  obtain ⟨its, rv, p, hz⟩ := I.tuple hq
  obtain ⟨f0, f1, f2, f3, f4, f5⟩ := hf it (by simp)
  have hl := rv.length
  exact wpAny_pyNext_tuple_end (I.ok.hd hc) st (show s.heap.IsTuple a its.toArray from p) (by simp; omega) fun h' eb => ⟨rfl, I.turned (t' := s.toks) (fun b o hb e => eb b o hb e) f0 f1 f3 f4 f5⟩
 self := fun _ _ _ _ _ st h => wpAny_pyIter_tupleiter st h
theorem turn_range {P : Program} {w : World} {K : PySem.W.Frag} {tg : Expr} (it : Addr) (lo : Int) (n : Nat) : Turn P w K tg (Itr lo n) [it] it (fun i h => IsRangeIter h it (lo + (i : Nat) * 1) ((n : Int) - (i : Nat)) 1) where
 mem := by simp
 obj := fun i h st b hb => by
  have e : b = it := by simpa using hb
  subst e
  exact ⟨_, st, fun v z => by
   have z' : Data.fields _ = Data.cell v := z
   cases z'⟩
 keep := fun i h h' st k => k it (by simp) _ st
 item := by
  intro X hP hw hK hc i pins s σ H E I hf st hg
  subst hP hw hK
  obtain ⟨f0, f1, f2, f3, f4, f5⟩ := hf it (by simp)
  have W := Walks.range (prog := X.prog) (w := X.w) (I.ok.hd hc) it lo 1 n
  refine W.item i s _ _ hg st fun v h' tk hv st' kk => ?_
  obtain ⟨t, rfl⟩ := hv
  have I1 : Inv X pins σ H { s with heap := h', toks := tk } := I.turned (fun b o hb e => kk b o (by simpa using hb) e) f0 f1 f3 f4 f5
  refine ⟨_, rfl, go_of (s := { s with heap := h', toks := tk }) (n := "range_iterator") st' rfl rfl (by decide) ⟨.int (lo + i), H, I1, ⟨t, ?_⟩, ⟨rfl, rfl⟩, st', fun b hb => (hf b hb).1⟩⟩
  rw [Int.mul_one]
 done := by
  intro X hP hw hK hc i pins s σ H E I hf st hg
  subst hP hw hK
  obtain ⟨f0, f1, f2, f3, f4, f5⟩ := hf it (by simp)
  exact wpAny_pyNext_range_end (I.ok.hd hc) st (by have : n ≤ i := hg; omega) fun h' eb => ⟨rfl, I.turned (t' := s.toks) (fun b o hb e => eb b o hb e) f0 f1 f3 f4 f5⟩
 self := fun _ _ _ _ _ st h => wpAny_pyIter_rangeiter st h
end L2
namespace L2
open PySem PySem.Spec PyProof.Rows
section
variable {X : Cx} {tg : Expr}
theorem range_it {pins : List (Addr × Obj)} {σ : St} {H : Hp} {s : Shared} {R : It → Hp → Prop} {E : Value → Shared → Prop} {lo hi : Int} {t u v : Tok} {tk : Nat} (I : Inv X pins σ H s) (h1 : -(2 ^ 62) ≤ lo) (h2 : lo < 2 ^ 62) (h3 : -(2 ^ 62) ≤ hi) (h4 : hi < 2 ^ 62)
  (q : R (Itr lo (hi - lo).toNat) H) : wpAny (model X.prog X.w) X.A (pyIter (.ref s.heap.objs.size)) (PIE X pins σ tg R) E { s with heap := s.heap.push { cls := .type "range", data := .fields #[.int lo t, .int hi u, .int 1 v] }, toks := tk } := by
 refine wpAny_pyIter_range (IsRange.new ..) (small_one h1 h2 h3 h4) ?_
 have I1 : Inv X pins σ H { s with heap := s.heap.push { cls := .type "range", data := .fields #[.int lo t, .int hi u, .int 1 v] }, toks := tk } := I.kept fun b o e => Heap.get?_push_of_some _ e
 refine ⟨(s.heap.push { cls := .type "range", data := .fields #[.int lo t, .int hi u, .int 1 v] }).objs.size, [(s.heap.push { cls := .type "range", data := .fields #[.int lo t, .int hi u, .int 1 v] }).objs.size], _, _, H, rfl,
  I1.kept (t' := tk) fun b o e => Heap.get?_push_of_some _ e, turn_range _ lo (hi - lo).toNat, ?_, fun b hb => ?_, q⟩
 ·have e1 : lo + ((0 : Nat) : Int) * 1 = lo := by simp
  have e2 : (((hi - lo).toNat : Nat) : Int) - ((0 : Nat) : Int) = Builtin.Range.rangeSize lo hi 1 := by rw [rangeSize_one]; split <;> omega
  show IsRangeIter _ _ (lo + ((0 : Nat) : Int) * 1) ((((hi - lo).toNat : Nat) : Int) - ((0 : Nat) : Int)) 1
  rw [e1, e2]
  exact Heap.get?_push_size _ rfl
 ·have e : b = (s.heap.push { cls := .type "range", data := .fields #[.int lo t, .int hi u, .int 1 v] }).objs.size := by simpa using hb
  subst e
  exact I1.fpOk (Nat.le_refl _) (I1.hok.fresh (Nat.le_refl _))
def iRng1 (ta : TA) : TI := fun σ H R => ta σ H fun vs H1 => ∃ j : Int, vs = [.int j] ∧ -(2 ^ 62) ≤ j ∧ j < 2 ^ 62 ∧ R (Itr 0 j.toNat) H1
def iRng2 (ta : TA) : TI := fun σ H R => ta σ H fun vs H1 => ∃ i j : Int, vs = [.int i, .int j] ∧ (-(2 ^ 62) ≤ i ∧ i < 2 ^ 62 ∧ -(2 ^ 62) ≤ j ∧ j < 2 ^ 62) ∧ R (Itr i (j - i).toNat) H1
theorem pi_range1 {a : Expr} {ta : TA} {p pos : Pos} (hg : Gl X "range") (hm : X.mg "range" = none) (ha : PA X [a] ta) (hs : starEach [a] X.env = [(false, eval a X.env)] := by rfl) : PI X tg (.Call (.Name "range" p) [a] [] pos) (iRng1 ta) := by
 intro pins s σ H R I h
 (refine Call_ (ld_blt I hg hm boot_range (PyProof.Rows.callWith_type1 (thn (ha pos pins s σ H _ I h) ?_) hs rfl)); rintro us s1 ⟨vs, H1, I1, r1, q1⟩)
 obtain ⟨j, e, q1, q2, q⟩ := q1
 subst e
 cases r1 with
 | cons r rr =>
  cases rr
  obtain ⟨t, rfl⟩ := r
  exact call_range_1 (range_it I1 (by omega) (by omega) q1 q2 (by simpa using q))
theorem pi_range2 {a b : Expr} {ta : TA} {p pos : Pos} (hg : Gl X "range") (hm : X.mg "range" = none) (ha : PA X [a, b] ta) (hs : starEach [a, b] X.env = [(false, eval a X.env), (false, eval b X.env)] := by rfl) (hs2 : starEach [b] X.env = [(false, eval b X.env)] := by rfl) :
  PI X tg (.Call (.Name "range" p) [a, b] [] pos) (iRng2 ta) := by
 intro pins s σ H R I h
 refine Call_ (ld_blt I hg hm boot_range (PyProof.Rows.callWith_type1 (thn (ha pos pins s σ H _ I h) fun us s1 ⟨vs, H1, I1, r1, q1⟩ => ?_) (by rw [hs, hs2]) (by rw [hs2]; rfl)))
 obtain ⟨i, j, e, ⟨q1, q2, q3, q4⟩, q⟩ := q1
 subst e
 cases r1 with
 | cons r rr =>
  cases rr with
  | cons r' rr =>
   cases rr
   obtain ⟨t, rfl⟩ := r
   obtain ⟨t', rfl⟩ := r'
   exact call_range_2 (range_it I1 q1 q2 q3 q4 q)
def tFor (wi : TI) (g : TG) (tb : TS) : TS := fun D σ H => wi σ H fun J H1 => ∃ W : Nat → Nat → St → Hp → Prop, (∃ m, W 0 m σ H1) ∧ ∀ i m σ H, W i m σ H →
 (J.stop i H ∧ D.nx σ H) ∨ (J.go i H ∧ ∃ N : St → Hp → Prop, (∀ σ' H', N σ' H' → ∃ m', m' < m ∧ W (i + 1) m' σ' H') ∧ ∀ x H', J.yld i H x H' → g x σ H' fun σ2 H2 => tb { D with nx := N, ct := N, bk := D.nx } σ2 H2)
noncomputable def pinsAt (fp : List Addr) (h : Heap) : List (Addr × Obj) := fp.filterMap fun b => (h.get? b).map fun o => (b, o)
theorem mem_pinsAt {fp : List Addr} {h : Heap} {b : Addr} {o : Obj} (hb : b ∈ fp) (e : h.get? b = some o) : (b, o) ∈ pinsAt fp h := List.mem_filterMap.mpr ⟨b, hb, by rw [e]; rfl⟩
theorem of_pinsAt {fp : List Addr} {h : Heap} {p : Addr × Obj} (hp : p ∈ pinsAt fp h) : p.1 ∈ fp ∧ h.get? p.1 = some p.2 := by
 obtain ⟨b, hb, e⟩ := List.mem_filterMap.mp hp
 cases q : h.get? b with
 | none => rw [q] at e; cases e
 | some o =>
  rw [q] at e
  have e' : (b, o) = p := Option.some.inj e
  subst e'
  exact ⟨hb, q⟩
theorem Inv.pinned {pins : List (Addr × Obj)} {σ : St} {H : Hp} {s : Shared} {fp : List Addr} (I : Inv X pins σ H s) (hf : ∀ b ∈ fp, FpOk X pins H b) (ho : ∀ b ∈ fp, ∃ o, s.heap.get? b = some o ∧ ∀ v, o.data ≠ .cell v) : Inv X (pins ++ pinsAt fp s.heap) σ H s :=
 I.pins_of fun p hp => (List.mem_append.mp hp).elim (fun z => I.pin p (List.mem_append_right _ z)) fun z => by
  obtain ⟨hb, e⟩ := of_pinsAt z
  obtain ⟨f0, f1, f2, _⟩ := hf p.1 hb
  obtain ⟨o, e', d⟩ := ho p.1 hb
  rw [e] at e'; cases e'
  exact ⟨e, f0, f1, f2, d⟩
theorem Inv.unpinned {pins pl : List (Addr × Obj)} {σ : St} {H : Hp} {s : Shared} (I : Inv X (pins ++ pl) σ H s) : Inv X pins σ H s := I.pins_of fun p hp => I.pin p (List.mem_append_right _ (List.mem_append_left _ hp))
theorem ps_for {iter : Expr} {body : List Stmt} {wi : TI} {g : TG} {tb : TS} {pos : Pos} (hp : PassesOwn (model X.prog X.w) X.A X.env X.xe) (hc : X.calm = true) (hi : PI X tg iter wi) (hg : PG X tg g) (hb : PSs X body tb)
  (hs : ∀ x, foldedSetIterable iter X.env x = pure x := by intro _; rfl) : PS X (.For tg iter body [] pos) (tFor wi g tb) := by
 intro pins s σ H D I h
 refine wpAny_For (thn (hi pins s σ H _ I h) fun v s1 h1 => thn h1 fun itv s2 h2 => ?_) hs
 obtain ⟨it, fp, tn, J, H2, e, I2, T, st2, f2, W, ⟨m0, w0⟩, turn⟩ := h2
 subst e
 have stat : ∀ {H' : Hp}, (∀ b ∈ fp, H' b = none) → ∀ b ∈ fp, FpOk X pins H' b := fun hn b hb => ⟨hn b hb, (f2 b hb).2⟩
 refine codeAny_forLoop_any (fun n s' => ∃ i σ' H', Inv X pins σ' H' s' ∧ tn i s'.heap ∧ (∀ b ∈ fp, H' b = none) ∧ W i n σ' H') ?_ m0 ⟨0, σ, H2, I2, st2, fun b hb => (f2 b hb).1, w0⟩
 rintro n s3 ⟨i, σ3, H3, I3, st3, fr3, w3⟩
 rcases turn i n σ3 H3 w3 with ⟨stop, qn⟩ | ⟨go, N, hN, step⟩
 ·(refine wpAny_passesOwn hp (thn (T.done X rfl rfl rfl hc i pins s3 σ3 H3 X.xe I3 (stat fr3) st3 stop) ?_); rintro r s4 ⟨hr, I4⟩)
  subst hr
  exact wpAny_execs_nil ⟨σ3, H3, I4, qn⟩
 ·(refine wpAny_passesOwn hp (thn (T.item X rfl rfl rfl hc i pins s3 σ3 H3 X.xe I3 (stat fr3) st3 go) ?_); rintro r s4 ⟨u, hr, h4⟩)
  subst hr
  (refine wpAny_passesOwn hp (thn h4 ?_); rintro _ s5 ⟨x, H5, I5, r5, y5, st5, fr5⟩)
  have I5' := I5.pinned (stat fr5) (T.obj _ _ st5)
  (refine wpAny_passesOwn hp (thn (hg _ s5 σ3 H5 x u _ I5' r5 (step x H5 y5)) ?_); rintro _ s6 ⟨σ6, H6, I6, q6⟩)
  refine wpAny_passesOwn hp (thn (hb _ s6 σ6 H6 _ I6 q6) fun f s7 q7 => ?_)
  have again : ∀ {σ7 : St} {H7 : Hp}, Inv X (pins ++ pinsAt fp s5.heap) σ7 H7 s7 → N σ7 H7 → ∃ m, m < n ∧ ∃ i σ' H', Inv X pins σ' H' s7 ∧ tn i s7.heap ∧ (∀ b ∈ fp, H' b = none) ∧ W i m σ' H' := fun {σ7 H7} I7 n7 => by
   obtain ⟨m', hm, w7⟩ := hN σ7 H7 n7
   refine ⟨m', hm, i + 1, σ7, H7, I7.unpinned, T.keep _ _ _ st5 fun b hb o e => (I7.pin (b, o) (List.mem_append_right _ (List.mem_append_right _ (mem_pinsAt hb e)))).1, fun b hb => ?_, w7⟩
   obtain ⟨o, e, d⟩ := T.obj _ _ st5 b hb
   exact (I7.pin (b, o) (List.mem_append_right _ (List.mem_append_right _ (mem_pinsAt hb e)))).2.1
  cases f with
  | next => obtain ⟨σ7, H7, I7, n7⟩ := q7; exact again I7 n7
  | cont => obtain ⟨σ7, H7, I7, n7⟩ := q7; exact again I7 n7
  | brk => obtain ⟨σ7, H7, I7, q7⟩ := q7; exact ⟨σ7, H7, I7.unpinned, q7⟩
  | ret v => obtain ⟨x7, σ7, H7, I7, r7, q7⟩ := q7; exact ⟨x7, σ7, H7, I7.unpinned, r7, q7⟩
end
end L2
namespace L2
open PySem PySem.Spec PyProof.Rows
noncomputable abbrev R2 := V → V → Hp → VK → Prop
def OpR (X : Cx) (f : Value → Value → Sem Value) (r : R2) : Prop :=
 ∀ (pins : List (Addr × Obj)) (s : Shared) (σ : St) (H : Hp) (x y : V) (v u : Value) (Q : VK), Inv X pins σ H s → RelV x v → RelV y u → r x y H Q →
  wpAny (model X.prog X.w) X.A (f v u) (EP X pins σ Q) X.xe s
def UnR (X : Cx) (f : Value → Sem Value) (r : V → Hp → VK → Prop) : Prop :=
 ∀ (pins : List (Addr × Obj)) (s : Shared) (σ : St) (H : Hp) (x : V) (v : Value) (Q : VK), Inv X pins σ H s → RelV x v → r x H Q →
  wpAny (model X.prog X.w) X.A (f v) (EP X pins σ Q) X.xe s
def CallR (X : Cx) (f : Value) (r : List V → Hp → VK → Prop) : Prop :=
 ∀ (pins : List (Addr × Obj)) (s : Shared) (σ : St) (H : Hp) (xs : List V) (us : List Value) (Q : VK), Inv X pins σ H s → Vals xs us → r xs H Q →
  wpAny (model X.prog X.w) X.A (call f us) (EP X pins σ Q) X.xe s
def tOp (r : R2) (ta tb : TE) : TE := fun σ H Q => ta σ H fun x H1 => tb σ H1 fun y H2 => r x y H2 Q
def tUn (r : V → Hp → VK → Prop) (ta : TE) : TE := fun σ H Q => ta σ H fun x H1 => r x H1 Q
def rI (C : Int → Int → Prop) (g : Int → Int → V) : R2 := fun x y H Q => ∃ i j, x = .int i ∧ y = .int j ∧ C i j ∧ Q (g i j) H
def rI0 (g : Int → Int → V) : R2 := fun x y H Q => ∃ i j, x = .int i ∧ y = .int j ∧ Q (g i j) H
def rU (g : Int → V) : V → Hp → VK → Prop := fun x H Q => ∃ i, x = .int i ∧ Q (g i) H
section
variable {X : Cx} {a b c : Expr} {ta tb tc : TE} {pos : Pos}
theorem binT (ha : PE X a ta) (hb : PE X b tb) {pins : List (Addr × Obj)} {s : Shared} {σ : St} {H : Hp} {R : V → V → Hp → Prop} (I : Inv X pins σ H s)
  (h : ta σ H fun x H1 => tb σ H1 fun y H2 => R x y H2) {Q : Value → Shared → Prop} {f : Value → Value → Sem Value}
  (hf : ∀ v u s2 x y H2, Inv X pins σ H2 s2 → RelV x v → RelV y u → R x y H2 → wpAny (model X.prog X.w) X.A (f v u) Q X.xe s2) :
  wpAny (model X.prog X.w) X.A (eval a X.env) (fun v s₁ => wpAny (model X.prog X.w) X.A (eval b X.env) (fun u s₂ => wpAny (model X.prog X.w) X.A (f v u) Q X.xe s₂) X.xe s₁) X.xe s := by
 (refine thn (ha pins s σ H _ I h) ?_; rintro v s1 ⟨x, H1, I1, r1, q1⟩)
 (refine thn (hb pins s1 σ H1 _ I1 q1) ?_; rintro u s2 ⟨y, H2, I2, r2, q2⟩)
 exact hf v u s2 x y H2 I2 r1 r2 q2
theorem pe_op {op : Operator} {r : R2} (ho : OpR X (binaryOp op) r) (ha : PE X a ta) (hb : PE X b tb) : PE X (.BinOp a op b pos) (tOp r ta tb) := by
 intro pins s σ H Q I h
 exact wpAny_BinOp (binT ha hb I h fun v u s2 x y H2 I2 rx ry q => ho pins s2 σ H2 x y v u Q I2 rx ry q)
theorem pe_un {op : UnaryOp} {r : V → Hp → VK → Prop} (ho : UnR X (unaryOp op) r) (ha : PE X a ta) : PE X (.UnaryOp op a pos) (tUn r ta) := by
 intro pins s σ H Q I h
 (refine UnaryOp_ (thn (ha pins s σ H _ I h) ?_); rintro v s1 ⟨x, H1, I1, r1, q1⟩; exact ho pins s1 σ H1 x v Q I1 r1 q1)
theorem opI {f : Value → Value → Sem Value} {C : Int → Int → Prop} {g : Int → Int → Int}
  (rule : ∀ (i j : Int) (t u : Tok) (s : Shared) (Q : Value → Shared → Prop) (E : Value → Shared → Prop), C i j → Q (.int (g i j) s.toks) { s with toks := s.toks + 1 } → wpAny (model X.prog X.w) X.A (f (.int i t) (.int j u)) Q E s) :
  OpR X f (rI C fun i j => .int (g i j)) := by
 intro pins s σ H x y v u Q I rx ry h
 obtain ⟨i, j, rfl, rfl, hc, q⟩ := h
 obtain ⟨t, rfl⟩ := rx
 obtain ⟨t', rfl⟩ := ry
 exact rule i j t t' s _ _ hc ⟨.int (g i j), H, I.tok _, ⟨_, rfl⟩, q⟩
theorem opI0 {f : Value → Value → Sem Value} {g : Int → Int → Int}
  (rule : ∀ (i j : Int) (t u : Tok) (s : Shared) (Q : Value → Shared → Prop) (E : Value → Shared → Prop), Q (.int (g i j) s.toks) { s with toks := s.toks + 1 } → wpAny (model X.prog X.w) X.A (f (.int i t) (.int j u)) Q E s) :
  OpR X f (rI0 fun i j => .int (g i j)) := by
 intro pins s σ H x y v u Q I rx ry h
 obtain ⟨i, j, rfl, rfl, q⟩ := h
 obtain ⟨t, rfl⟩ := rx
 obtain ⟨t', rfl⟩ := ry
 exact rule i j t t' s _ _ ⟨.int (g i j), H, I.tok _, ⟨_, rfl⟩, q⟩
theorem opB0 {f : Value → Value → Sem Value} {g : Int → Int → Bool}
  (rule : ∀ (i j : Int) (t u : Tok) (s : Shared) (Q : Value → Shared → Prop) (E : Value → Shared → Prop), Q (.bool (g i j)) s → wpAny (model X.prog X.w) X.A (f (.int i t) (.int j u)) Q E s) :
  OpR X f (rI0 fun i j => .bl (g i j)) := by
 intro pins s σ H x y v u Q I rx ry h
 obtain ⟨i, j, rfl, rfl, q⟩ := h
 obtain ⟨t, rfl⟩ := rx
 obtain ⟨t', rfl⟩ := ry
 exact rule i j t t' s _ _ ⟨.bl (g i j), H, I, rfl, q⟩
def CDiv (i j : Int) : Prop := 0 < j ∧ j < 1073741824
def CPow (i j : Int) : Prop := 0 ≤ j ∧ j ≤ 1000000 ∧ i.natAbs < 2 ^ 64
def CMul (i j : Int) : Prop := (-(2 ^ 64) < i ∧ i < 2 ^ 64) ∨ (-(2 ^ 64) < j ∧ j < 2 ^ 64)
theorem CMul.ok {i j : Int} (h : CMul i j) : IntMulOk i j := by
 rcases h with ⟨h1, h2⟩ | ⟨h1, h2⟩
 ·exact .of_left (intBits_le_64 h1 h2)
 ·exact .of_right (intBits_le_64 h1 h2)
theorem two_pow_nn (k : Nat) : (0 : Int) ≤ 2 ^ k := by
 rw [two_pow_cast]
 exact Int.natCast_nonneg _
theorem op_add : OpR X (binaryOp .Add) (rI0 fun i j => .int (i + j)) := opI0 fun _ _ _ _ _ _ _ q => add_int q
theorem op_sub : OpR X (binaryOp .Sub) (rI0 fun i j => .int (i - j)) := opI0 fun _ _ _ _ _ _ _ q => sub_int q
theorem op_mul : OpR X (binaryOp .Mult) (rI CMul fun i j => .int (i * j)) := opI fun _ _ _ _ _ _ _ hc q => mul_int q hc.ok
theorem op_mod : OpR X (binaryOp .Mod) (rI (fun _ j => 0 < j) fun i j => .int (i % j)) := opI fun i j _ _ _ _ _ hc q => by
 have h1 : (0 : Int) < j := hc
 exact mod_int' (by omega) (by rw [Int.fmod_eq_emod_of_nonneg i (by omega)]; exact q)
theorem op_pow : OpR X (binaryOp .Pow) (rI CPow fun i j => .int (i ^ j.toNat)) := opI fun _ _ _ _ _ _ _ hc q => pow_int_small hc.1 hc.2.1 hc.2.2 q
theorem op_shl : OpR X (binaryOp .LShift) (rI CPow fun i j => .int (i * 2 ^ j.toNat)) := opI fun _ _ _ _ _ _ _ hc q => lshift_int_small hc.1 hc.2.1 hc.2.2 q
theorem op_shr : OpR X (binaryOp .RShift) (rI (fun _ j => 0 ≤ j) fun i j => .int (i / 2 ^ j.toNat)) := opI fun i j _ _ _ _ _ hc q =>
 rshift_int hc (by rw [Int.fdiv_eq_ediv_of_nonneg i (two_pow_nn _)]; exact q)
theorem op_and : OpR X (binaryOp .BitAnd) (rI0 fun i j => .int (Builtin.bitAnd i j)) := opI0 fun _ _ _ _ _ _ _ q => and_int q
theorem op_or : OpR X (binaryOp .BitOr) (rI0 fun i j => .int (Builtin.bitOr i j)) := opI0 fun _ _ _ _ _ _ _ q => or_int q
theorem op_xor : OpR X (binaryOp .BitXor) (rI0 fun i j => .int (Builtin.bitXor i j)) := opI0 fun _ _ _ _ _ _ _ q => xor_int q
theorem iop_add : OpR X (inplaceOp .Add) (rI0 fun i j => .int (i + j)) := opI0 fun _ _ _ _ _ _ _ q => iadd_int q
theorem unI {f : Value → Sem Value} {g : Int → Int}
  (rule : ∀ (i : Int) (t : Tok) (s : Shared) (Q : Value → Shared → Prop) (E : Value → Shared → Prop), Q (.int (g i) s.toks) { s with toks := s.toks + 1 } → wpAny (model X.prog X.w) X.A (f (.int i t)) Q E s) :
  UnR X f (rU fun i => .int (g i)) := by
 intro pins s σ H x v Q I rx h
 obtain ⟨i, rfl, q⟩ := h
 obtain ⟨t, rfl⟩ := rx
 exact rule i t s _ _ ⟨.int (g i), H, I.tok _, ⟨_, rfl⟩, q⟩
theorem un_neg : UnR X (unaryOp .USub) (rU fun i => .int (-i)) := unI fun _ _ _ _ _ q => neg_int q
theorem un_inv : UnR X (unaryOp .Invert) (rU fun i => .int (Builtin.bitNot i)) := unI fun _ _ _ _ _ q => invert_int q
end
noncomputable def scal : V → V → Bool
 | .non, .non => true | .non, .int _ => true | .int _, .non => true | .non, .bl _ => true | .bl _, .non => true | .non, .str _ => true | .str _, .non => true
 | .int _, .int _ => true | .bl _, .bl _ => true | .str _, .str _ => true | .byt _, .byt _ => true
 | .int _, .str _ => true | .str _, .int _ => true | .bl _, .str _ => true | .str _, .bl _ => true
 | _, _ => false
def rEq : R2 := fun x y H Q => scal x y = true ∧ Q (.bl (decide (x = y))) H
def rNe : R2 := fun x y H Q => scal x y = true ∧ Q (.bl (!decide (x = y))) H
theorem dec_int {i j : Int} : decide (V.int i = V.int j) = (i == j) := by
 rw [Bool.eq_iff_iff]
 simp
theorem dec_bl {i j : Bool} : decide (V.bl i = V.bl j) = (i == j) := by
 rw [Bool.eq_iff_iff]
 simp
theorem dec_str {i j : Str} : decide (V.str i = V.str j) = (i == j) := by
 rw [Bool.eq_iff_iff]
 simp
theorem dec_byt {i j : Array UInt8} : decide (V.byt i = V.byt j) = (i.toList == j.toList) := by
 rw [Bool.eq_iff_iff]
 cases i
 cases j
 simp
section
variable {X : Cx} {a b c : Expr} {ta tb tc : TE} {pos : Pos}
theorem fin_bl {pins : List (Addr × Obj)} {σ : St} {H : Hp} {s : Shared} {Q : VK} {k k' : Bool} (I : Inv X pins σ H s) (q : Q (.bl k) H) (e : k = k') : EP X pins σ Q (.bool k') s := by
 subst e
 exact ⟨.bl k, H, I, rfl, q⟩
theorem op_eq : OpR X (compareOp .Eq) rEq := by
 intro pins s σ H x y v u Q I rx ry h
 obtain ⟨hs, q⟩ := h
 cases x with
 | non =>
  cases rx
  cases y with
  | non => cases ry; exact PySem.EqNone.eq_none_none (fin_bl I q (by simp))
  | bl j => cases ry; exact PySem.EqNone.eq_none_bool (fin_bl I q (by simp))
  | int j => obtain ⟨t', rfl⟩ := ry; exact PySem.EqNone.eq_none_int (fin_bl I q (by simp))
  | str j => obtain ⟨t', rfl⟩ := ry; exact PySem.EqNone.eq_none_str (fin_bl I q (by simp))
  | _ => exact absurd (show false = true from hs) Bool.false_ne_true
 | bl i =>
  cases rx
  cases y with
  | non => cases ry; exact PySem.EqNone.eq_bool_none (fin_bl I q (by simp))
  | bl j => cases ry; exact eq_bool (fin_bl I q dec_bl)
  | str j => obtain ⟨t', rfl⟩ := ry; exact PySem.EqMixed.eq_bool_str (fin_bl I q (by simp))
  | _ => exact absurd (show false = true from hs) Bool.false_ne_true
 | int i =>
  obtain ⟨t, rfl⟩ := rx
  cases y with
  | non => cases ry; exact PySem.EqNone.eq_int_none (fin_bl I q (by simp))
  | int j => obtain ⟨t', rfl⟩ := ry; exact eq_int (fin_bl I q dec_int)
  | str j => obtain ⟨t', rfl⟩ := ry; exact PySem.EqMixed.eq_int_str (fin_bl I q (by simp))
  | _ => exact absurd (show false = true from hs) Bool.false_ne_true
 | str i =>
  obtain ⟨t, rfl⟩ := rx
  cases y with
  | non => cases ry; exact PySem.EqNone.eq_str_none (fin_bl I q (by simp))
  | bl j => cases ry; exact PySem.EqMixed.eq_str_bool (fin_bl I q (by simp))
  | int j => obtain ⟨t', rfl⟩ := ry; exact PySem.EqMixed.eq_str_int (fin_bl I q (by simp))
  | str j => obtain ⟨t', rfl⟩ := ry; exact eq_str (fin_bl I q dec_str)
  | _ => exact absurd (show false = true from hs) Bool.false_ne_true
 | byt i =>
  obtain ⟨t, rfl⟩ := rx
  cases y with
  | byt j => obtain ⟨t', rfl⟩ := ry; exact PySem.W.eq_bytes (fin_bl I q dec_byt)
  | _ => exact absurd (show false = true from hs) Bool.false_ne_true
 | _ => cases y <;> exact absurd (show false = true from hs) Bool.false_ne_true
theorem op_ne : OpR X (compareOp .NotEq) rNe := by
 intro pins s σ H x y v u Q I rx ry h
 obtain ⟨hs, q⟩ := h
 cases x with
 | non =>
  cases rx
  cases y with
  | non => cases ry; exact PySem.EqNone.ne_none_none (fin_bl I q (by simp))
  | bl j => cases ry; exact PySem.EqNone.ne_none_bool (fin_bl I q (by simp))
  | int j => obtain ⟨t', rfl⟩ := ry; exact PySem.EqNone.ne_none_int (fin_bl I q (by simp))
  | str j => obtain ⟨t', rfl⟩ := ry; exact PySem.EqNone.ne_none_str (fin_bl I q (by simp))
  | _ => exact absurd (show false = true from hs) Bool.false_ne_true
 | bl i =>
  cases rx
  cases y with
  | non => cases ry; exact PySem.EqNone.ne_bool_none (fin_bl I q (by simp))
  | bl j => cases ry; exact ne_bool (fin_bl I q (congrArg not dec_bl))
  | str j => obtain ⟨t', rfl⟩ := ry; exact PySem.EqMixed.ne_bool_str (fin_bl I q (by simp))
  | _ => exact absurd (show false = true from hs) Bool.false_ne_true
 | int i =>
  obtain ⟨t, rfl⟩ := rx
  cases y with
  | non => cases ry; exact PySem.EqNone.ne_int_none (fin_bl I q (by simp))
  | int j => obtain ⟨t', rfl⟩ := ry; exact ne_int (fin_bl I q (congrArg not dec_int))
  | str j => obtain ⟨t', rfl⟩ := ry; exact PySem.EqMixed.ne_int_str (fin_bl I q (by simp))
  | _ => exact absurd (show false = true from hs) Bool.false_ne_true
 | str i =>
  obtain ⟨t, rfl⟩ := rx
  cases y with
  | non => cases ry; exact PySem.EqNone.ne_str_none (fin_bl I q (by simp))
  | bl j => cases ry; exact PySem.EqMixed.ne_str_bool (fin_bl I q (by simp))
  | int j => obtain ⟨t', rfl⟩ := ry; exact PySem.EqMixed.ne_str_int (fin_bl I q (by simp))
  | str j => obtain ⟨t', rfl⟩ := ry; exact ne_str (fin_bl I q (congrArg not dec_str))
  | _ => exact absurd (show false = true from hs) Bool.false_ne_true
 | byt i =>
  obtain ⟨t, rfl⟩ := rx
  cases y with
  | byt j => obtain ⟨t', rfl⟩ := ry; exact PySem.W.ne_bytes (fin_bl I q (congrArg not dec_byt))
  | _ => exact absurd (show false = true from hs) Bool.false_ne_true
 | _ => cases y <;> exact absurd (show false = true from hs) Bool.false_ne_true
theorem op_lt : OpR X (compareOp .Lt) (rI0 fun i j => .bl (decide (i < j))) := opB0 fun _ _ _ _ _ _ _ q => lt_int q
theorem op_le : OpR X (compareOp .LtE) (rI0 fun i j => .bl (decide (i ≤ j))) := opB0 fun _ _ _ _ _ _ _ q => le_int q
theorem op_gt : OpR X (compareOp .Gt) (rI0 fun i j => .bl (decide (j < i))) := opB0 fun _ _ _ _ _ _ _ q => gt_int q
theorem op_ge : OpR X (compareOp .GtE) (rI0 fun i j => .bl (decide (j ≤ i))) := opB0 fun _ _ _ _ _ _ _ q => ge_int q
theorem op_lt_str : OpR X (compareOp .Lt) (fun x y H Q => ∃ i j, x = .str i ∧ y = .str j ∧ Q (.bl (decide (i.cps.toList < j.cps.toList))) H) := by
 intro pins s σ H x y v u Q I rx ry h
 obtain ⟨i, j, rfl, rfl, q⟩ := h
 obtain ⟨t, rfl⟩ := rx
 obtain ⟨t', rfl⟩ := ry
 exact lt_str (fin_bl I q rfl)
theorem op_isN : OpR X (compareOp .Is) (fun x y H Q => y = .non ∧ Q (.bl (decide (x = .non))) H) := by
 intro pins s σ H x y v u Q I rx ry h
 obtain ⟨rfl, q⟩ := h
 cases ry
 refine is_none_gen (fin_bl I q ?_)
 cases x <;> first
  | (cases rx; rfl)
  | (obtain ⟨t, rfl⟩ := rx; rfl)
theorem op_notN : OpR X (compareOp .IsNot) (fun x y H Q => y = .non ∧ Q (.bl (!decide (x = .non))) H) := by
 intro pins s σ H x y v u Q I rx ry h
 obtain ⟨rfl, q⟩ := h
 cases ry
 refine isnot_none_gen (fin_bl I q ?_)
 cases x <;> first
  | (cases rx; rfl)
  | (obtain ⟨t, rfl⟩ := rx; rfl)
theorem OpR.or {f : Value → Value → Sem Value} {r r' : R2} (h : OpR X f r) (h' : OpR X f r') : OpR X f (fun x y H Q => r x y H Q ∨ r' x y H Q) := by
 intro pins s σ H x y v u Q I rx ry q
 rcases q with q | q
 ·exact h pins s σ H x y v u Q I rx ry q
 ·exact h' pins s σ H x y v u Q I rx ry q
theorem nomark (b : Expr) {op : CmpOp} (h : op ≠ .In := by decide) (h2 : op ≠ .NotIn := by decide) : behindInMarks op b = false := by
 have e1 : (op == CmpOp.In) = false := by cases op <;> first | rfl | exact absurd rfl h
 have e2 : (op == CmpOp.NotIn) = false := by cases op <;> first | rfl | exact absurd rfl h2
 cases b <;> simp [behindInMarks, e1, e2]
theorem pe_cmpR {op : CmpOp} {r : R2} (ho : OpR X (compareOp op) r) (ha : PE X a ta) (hb : PE X b tb) (hm : behindInMarks op b = false) : PE X (.Compare a [op] [b] pos) (tOp r ta tb) := by
 intro pins s σ H Q I h
 exact wpAny_Compare1 (binT ha hb I h fun v u s2 x y H2 I2 rx ry q => ho pins s2 σ H2 x y v u Q I2 rx ry q) hm
def tTest (t : TE) : TT := fun σ H Q => t σ H fun x H' => ∃ k, x = .bl k ∧ Q k H'
theorem pt_cmpR {op : CmpOp} {r : R2} (ho : OpR X (compareOp op) r) (ha : PE X a ta) (hb : PE X b tb) (hm : behindInMarks op b = false) : PT X (.Compare a [op] [b] pos) (tTest (tOp r ta tb)) := by
 intro pins s σ H Q I h
 refine wpAny_isTrue_Compare1 (thn (ha pins s σ H _ I h) fun v s1 ⟨x, H1, I1, r1, q1⟩ => thn (hb pins s1 σ H1 _ I1 q1) fun u s2 ⟨y, H2, I2, r2, q2⟩ =>
  thn (ho pins s2 σ H2 x y v u _ I2 r1 r2 q2) fun c s3 ⟨z, H3, I3, r3, k, e, q3⟩ => ?_) hm
 subst e
 cases r3
 exact wpAny_truthy_bool ⟨H3, I3, q3⟩
theorem line63 : (sizeLine : Nat) < 2 ^ 63 := by rw [sizeLine_eq]; decide
theorem op_add_str : OpR X (binaryOp .Add) (fun x y H Q => ∃ i j, x = .str i ∧ y = .str j ∧ i.length + j.length ≤ sizeLine ∧ Q (.str (i ++ j)) H) := by
 intro pins s σ H x y v u Q I rx ry h
 obtain ⟨i, j, rfl, rfl, hz, q⟩ := h
 obtain ⟨t, rfl⟩ := rx
 obtain ⟨t', rfl⟩ := ry
 exact add_str (fun t' tk => ⟨.str (i ++ j), H, I.tok _, ⟨_, rfl⟩, q⟩) hz
theorem vals1 {x : V} {us : List Value} (r : Vals [x] us) : ∃ u, us = [u] ∧ RelV x u := by
 cases r with
 | cons r1 r2 => cases r2; exact ⟨_, rfl, r1⟩
theorem vals2 {x y : V} {us : List Value} (r : Vals [x, y] us) : ∃ u w', us = [u, w'] ∧ RelV x u ∧ RelV y w' := by
 cases r with
 | cons r1 r2 =>
  cases r2 with
  | cons r3 r4 => cases r4; exact ⟨_, _, rfl, r1, r3⟩
theorem call_abs : CallR X (.builtin "abs") (fun xs H Q => ∃ i, xs = [.int i] ∧ Q (.int (if i < 0 then -i else i)) H) := by
 intro pins s σ H xs us Q I r h
 obtain ⟨i, rfl, q⟩ := h
 obtain ⟨u, rfl, t, rfl⟩ := vals1 r
 exact call_abs_int fun u tk => ⟨.int (if i < 0 then -i else i), H, I.tok _, ⟨_, rfl⟩, q⟩
theorem call_max2 (hc : X.calm = true) : CallR X (.builtin "max") (fun xs H Q => ∃ i j, xs = [.int i, .int j] ∧ Q (.int (if j > i then j else i)) H) := by
 intro pins s σ H xs us Q I r h
 obtain ⟨i, j, rfl, q⟩ := h
 obtain ⟨u, w', rfl, ⟨t, rfl⟩, ⟨t', rfl⟩⟩ := vals2 r
 refine max_two_ints (I.ok.hd hc) fun h' tk k => ⟨_, H, I.kept k, ?_, q⟩
 by_cases hj : j > i
 ·rw [if_pos hj, if_pos hj]; exact ⟨_, rfl⟩
 ·rw [if_neg hj, if_neg hj]; exact ⟨_, rfl⟩
theorem call_min2 (hc : X.calm = true) : CallR X (.builtin "min") (fun xs H Q => ∃ i j, xs = [.int i, .int j] ∧ Q (.int (if j < i then j else i)) H) := by
 intro pins s σ H xs us Q I r h
 obtain ⟨i, j, rfl, q⟩ := h
 obtain ⟨u, w', rfl, ⟨t, rfl⟩, ⟨t', rfl⟩⟩ := vals2 r
 refine min_two_ints (I.ok.hd hc) fun h' tk k => ⟨_, H, I.kept k, ?_, q⟩
 by_cases hj : j < i
 ·rw [if_pos hj, if_pos hj]; exact ⟨_, rfl⟩
 ·rw [if_neg hj, if_neg hj]; exact ⟨_, rfl⟩
end
end L2
namespace L2
open PySem PySem.Spec PyProof.Rows
structure ObjM (h : Heap) (x dx C : Addr) (mA : Str → Option Value) : Prop where
 obj : h.get? x = some (PySem.W.instObj C dx)
 ns : h.Ns1 dx mA
 ne : dx ≠ x
theorem lookIn_ns {h : Heap} {dx : Addr} {mA : Str → Option Value} (n : h.Ns1 dx mA) : ∃ od, h.get? dx = some od ∧ ∀ name, PySem.W.lookIn name od = some (mA name) := by
 obtain ⟨o, es, ep, ho, hd, hk, _, hm⟩ := n
 refine ⟨o, ho, fun name => ?_⟩
 have e := hm name
 unfold nsFind findBy at e
 rw [← Array.find?_toList] at e
 unfold PySem.W.lookIn
 rw [hd]
 dsimp only
 split
 ·rename_i y q
  rw [q] at e
  exact congrArg some e
 ·rename_i q
  rw [q] at e
  have a : es.toList.any (·.refKey) = false := by
   rw [List.any_eq_false]
   intro y hy
   obtain ⟨z, t, hkey⟩ := hk y (Array.mem_toList_iff.mp hy)
   simp [DictEntry.refKey, hkey]
  have a' : ¬ es.toList.any (·.refKey) = true := by rw [a]; exact Bool.false_ne_true
  rw [if_neg a']
  exact congrArg some e
theorem ObjM.look {h : Heap} {x dx C : Addr} {mA : Str → Option Value} (I : ObjM h x dx C mA) : ∃ od, PySem.W.InstAt h x (PySem.W.instObj C dx) C (some od) ∧ ∀ name, PySem.W.lookIn name od = some (mA name) :=
 let ⟨od, ho, hl⟩ := lookIn_ns I.ns
 ⟨od, ⟨I.obj, rfl, rfl, ho⟩, hl⟩
section
variable {prog : Program} {w : World} {A : Around} {E : Value → Shared → Prop} {s : Shared} {K : PySem.W.Frag} {x dx C f : Addr} {mA : Str → Option Value} {name : Str} {v : Value}
theorem get_meth {pl : Sem Bool} {Q : Value × List Value → Shared → Prop} (X : K.In s.heap) (I : ObjM s.heap x dx C mA) (hg : PySem.W.plainGet K C name = true)
  (hf : PySem.W.findIn K (.ref C) name = some (some (.ref f))) (ht : PySem.W.isFn K (.ref f) = true) (hv : mA name = none) (h : Q (.ref f, [.ref x]) s) :
  wpAny (model prog w) A (getMethod (.ref x) name pl) Q E s := by
 obtain ⟨od, J, hl⟩ := I.look
 exact PySem.W.method_fn X J (PySem.W.plainGet_of hg).1 (PySem.W.plainGet_of hg).2 hf (beq_iff_eq.mp ht) (by show (PySem.W.lookIn name od).map (·.isSome) = some false; rw [hl, hv]; rfl) h
end
theorem RelO.some_of {v : V} {o : Option Value} (r : RelO (some v) o) : ∃ u, o = some u ∧ RelV v u := by
 cases o with
 | none => exact (show False from r).elim
 | some u => exact ⟨u, rfl, r⟩
theorem RelO.none_of {o : Option Value} (r : RelO none o) : o = none := by
 cases o with
 | none => rfl
 | some u => exact (show False from r).elim
section
variable {P : Program} {w : World} {H H' : Hp} {h h' : Heap} {a C dx : Addr} {fs fs' : List (Str × V)}
theorem ins_get (hok : HOk P w H h) (e : H a = some (.ins C dx fs)) : ∃ mA, ObjM h a dx C mA ∧ (∀ f, RelO (fs.lookup f) (mA f)) ∧ PySem.Within mA (fs.map (·.1)) ∧ fs.length ≤ 1000 ∧ H dx = some (.own a) := by
 obtain ⟨d, z, ne, ob, mA, n, r, q⟩ := (show ObjOk P w H h a (.ins C dx fs) from hok a _ e)
 exact ⟨mA, ⟨ob, n, ne⟩, r, q, z, d⟩
end
structure Cls (K : PySem.W.Frag) (C : Addr) : Prop where
 pg : PySem.W.plainGet K C Str.empty = true
 hd : PySem.W.hasDictIn K C = true
 po : PySem.W.plainOver K C = true
 sa : PySem.W.findIn K (.ref C) "__setattr__" = some (some (.builtin "object.__setattr__"))
theorem Cls.get {K : PySem.W.Frag} {C : Addr} (c : Cls K C) (f : Str) : PySem.W.plainGet K C f = true := c.pg
structure Con (K : PySem.W.Frag) (C : Addr) (f : Str) (v : V) (u : Value) : Prop where
 at_ : PySem.W.findIn K (.ref C) f = some (some u)
 rel : RelV v u
 get : PySem.W.specialIn K u "__get__" = some none
 cp : PySem.W.copiedNames.contains f = false
structure Meth (K : PySem.W.Frag) (C : Addr) (m : Str) (f : Addr) : Prop where
 at_ : PySem.W.findIn K (.ref C) m = some (some (.ref f))
 fn : PySem.W.isFn K (.ref f) = true
 kp : PySem.W.keepIn K (.ref f) = true
section
variable {X : Cx} {pins : List (Addr × Obj)} {σ : St} {H : Hp} {s : Shared} {a C dx : Addr} {fs : List (Str × V)} {f : Str} {v : V} {A : Around} {E : Value → Shared → Prop}
theorem getmeth_ok {m : Str} {g : Addr} {pl : Sem Bool} {Q : Value × List Value → Shared → Prop} (I : Inv X pins σ H s) (e : H a = some (.ins C dx fs)) (c : Cls X.K C) (k : Meth X.K C m g) (l : fs.lookup m = none)
  (h : Q (.ref g, [.ref a]) s) : wpAny (model X.prog X.w) A (getMethod (.ref a) m pl) Q E s := by
 obtain ⟨mA, O, r, _, _, _⟩ := ins_get I.hok e
 have hn : mA m = none := RelO.none_of (by rw [← l]; exact r m)
 exact get_meth I.kIn O (c.get m) k.at_ k.fn hn h
theorem Inv.made (I : Inv X pins σ H s) : Inv X pins σ (upd (upd H s.heap.objs.size (.own (s.heap.objs.size + 1))) (s.heap.objs.size + 1) (.ins C s.heap.objs.size []))
  { s with heap := (s.heap.push PySem.W.emptyDict).push (PySem.W.instObj C s.heap.objs.size) } := by
 have e1 : (s.heap.push PySem.W.emptyDict).get? s.heap.objs.size = some PySem.W.emptyDict := Heap.get?_push_size s.heap rfl
 have e2 : ((s.heap.push PySem.W.emptyDict).push (PySem.W.instObj C s.heap.objs.size)).get? (s.heap.objs.size + 1) = some (PySem.W.instObj C s.heap.objs.size) := by
  have := Heap.get?_push_size (s.heap.push PySem.W.emptyDict) (o := PySem.W.instObj C s.heap.objs.size) rfl
  rwa [Heap.size_push] at this
 have e3 : (s.heap.push PySem.W.emptyDict).Ns s.heap.objs.size (fun _ => none) := ⟨PySem.W.emptyDict, #[], _, e1, rfl, (fun e he => absurd he (by simp)), fun _ => rfl⟩
 have I1 := I.laid (a := s.heap.objs.size) (o := .own (s.heap.objs.size + 1)) (h' := s.heap.push PySem.W.emptyDict) (t' := s.toks) (fun b u q => Heap.get?_push_of_some _ q) (Nat.le_refl _) ⟨_, e1⟩
 refine I1.laid (a := s.heap.objs.size + 1) (o := .ins C s.heap.objs.size []) (t' := s.toks) (fun b u q => Heap.get?_push_of_some _ q) (Nat.le_of_eq (Heap.size_push _ _)) ?_
 have ne : s.heap.objs.size ≠ s.heap.objs.size + 1 := Nat.ne_of_lt (Nat.lt_succ_self _)
 refine ⟨by rw [upd_ne ne, upd_same], Nat.zero_le _, ne, e2, fun _ => none, (Heap.Ns1.of_empty e3).at fun o q => Heap.get?_push_of_some _ q, fun _ => True.intro, fun y hy => absurd rfl hy⟩
end
section
variable {X : Cx} {o e value : Expr} {f : Str} {pos pos' tpos : Pos} {ta tv : TE}
end
section
variable {X : Cx} {pins : List (Addr × Obj)} {σ : St} {H : Hp} {s : Shared} {A : Around} {E : Value → Shared → Prop} {Q : Value → Shared → Prop} {c : Value} {b : Bool}
inductive TyOf (K : PySem.W.Frag) (H : Hp) : V → Value → Prop where
 | non : TyOf K H .non (.type "NoneType")
 | bl (x : Bool) : TyOf K H (.bl x) (.type "bool")
 | int (i : Int) : TyOf K H (.int i) (.type "int")
 | str (x : Str) : TyOf K H (.str x) (.type "str")
 | flt (x : UInt64) : TyOf K H (.flt x) (.type "float")
 | lst {a : Addr} {xs : List V} (e : H a = some (.lst xs)) : TyOf K H (.ref a) (.type "list")
 | frz {a : Addr} {o : Obj} {xs : List V} (e : H a = some (.frz o (.lst xs))) : TyOf K H (.ref a) (.type "list")
 | tup {a : Addr} {xs : List V} (e : H a = some (.tup xs)) : TyOf K H (.ref a) (.type "tuple")
 | dK {a : Addr} {kvs : List (Key × V)} (e : H a = some (.dK kvs)) : TyOf K H (.ref a) (.type "dict")
 | dT {a : Addr} {kvs : List (List Key × V)} (e : H a = some (.dT kvs)) : TyOf K H (.ref a) (.type "dict")
 | ins {a C dx : Addr} {fs : List (Str × V)} (e : H a = some (.ins C dx fs)) (cl : Cls K C) (ha : PySem.W.findIn K (.ref C) "__class__" = some (some (.builtin "object.__class__")))
   (hn : PySem.W.specialIn K (.builtin "object.__class__") "__get__" = some (some (.builtin "getset_descriptor.__get__"))) (htk : PySem.W.takesIn K (.builtin "object.__class__") = some true)
   (hm : PySem.W.mroIn K C (.type "object") = some true) : TyOf K H (.ref a) (.ref C)
theorem isinst_ok {x : V} {u t : Value} (I : Inv X pins σ H s) (rx : RelV x u) (ty : TyOf X.K H x t) (e : PySem.W.kitOne X.K t c = some b) (h : ∀ tk, Q (.bool b) { s with toks := tk }) :
  wpAny (model X.prog X.w) A (call (.builtin "isinstance") [u, c]) Q E s := by
 cases ty with
 | non => cases (show u = Value.none from rx); exact PySem.W.kia_one PySem.W.kitx_none I.kIn True.intro e (fun z => nomatch z) h
 | bl y => cases (show u = Value.bool y from rx); exact PySem.W.kia_one PySem.W.kitx_bool I.kIn True.intro e (fun z => nomatch z) h
 | int i => obtain ⟨t, q⟩ := (show ∃ t, u = Value.int i t from rx); cases q; exact PySem.W.kia_one PySem.W.kitx_int I.kIn True.intro e (fun z => nomatch z) h
 | str y => obtain ⟨t, q⟩ := (show ∃ t, u = Value.str y t from rx); cases q; exact PySem.W.kia_one PySem.W.kitx_str I.kIn True.intro e (fun z => nomatch z) h
 | flt y => obtain ⟨t, q⟩ := (show ∃ t, u = Value.float y t from rx); cases q; exact PySem.W.kia_one PySem.W.kitx_float I.kIn True.intro e (fun z => nomatch z) h
 | @lst a xs ea =>
  cases (show u = Value.ref a from rx)
  obtain ⟨_, _, n, _, h1⟩ := (show ObjOk X.prog X.w H s.heap a (.lst xs) from I.hok a _ ea)
  exact PySem.W.kia_one PySem.W.kitx_list I.kIn ⟨_, h1, rfl⟩ e (fun z => nomatch z) h
 | @frz a ob xs ea =>
  cases (show u = Value.ref a from rx)
  obtain ⟨_, _, _, n, _, h1⟩ := (show ObjOk X.prog X.w H s.heap a (.frz ob (.lst xs)) from I.hok a _ ea)
  exact PySem.W.kia_one PySem.W.kitx_list I.kIn ⟨_, h1, rfl⟩ e (fun z => nomatch z) h
 | @tup a xs ea =>
  cases (show u = Value.ref a from rx)
  obtain ⟨_, _, _, p⟩ := (show ObjOk X.prog X.w H s.heap a (.tup xs) from I.hok a _ ea)
  obtain ⟨o, h1, h2, _⟩ := p
  exact PySem.W.kia_one PySem.W.kitx_tuple I.kIn ⟨o, h1, h2⟩ e (fun z => nomatch z) h
 | @dK a kvs ea =>
  cases (show u = Value.ref a from rx)
  obtain ⟨_, _, vs, _, p⟩ := (show ObjOk X.prog X.w H s.heap a (.dK kvs) from I.hok a _ ea)
  obtain ⟨o, es, ep, h1, h2, _⟩ := p
  exact PySem.W.kia_one PySem.W.kitx_dict I.kIn ⟨o, h1, h2.1⟩ e (fun z => nomatch z) h
 | @dT a kvs ea =>
  cases (show u = Value.ref a from rx)
  obtain ⟨_, _, xs, _, o, es, ep, h1, h2, _⟩ := (show ObjOk X.prog X.w H s.heap a (.dT kvs) from I.hok a _ ea)
  exact PySem.W.kia_one PySem.W.kitx_dict I.kIn ⟨o, h1, h2.1⟩ e (fun z => nomatch z) h
 | @ins a C dx fs ea cl ha hn htk hm =>
  cases (show u = Value.ref a from rx)
  obtain ⟨mA, O, _⟩ := ins_get I.hok ea
  obtain ⟨od, J, _⟩ := O.look
  exact PySem.W.kia_one (PySem.W.kitx_own (cl.get _) cl.hd ha hn htk hm) I.kIn J e (fun z => nomatch z) h
end
end L2
namespace L2
open PySem PySem.Spec PyProof.Rows
structure Room (k : Nat) (A : Around) : Prop where
 hd : A.handled = none
 dp : A.depth + 3 * k + 5 < recursionLimit
 un : A.units + 16 * k + 200 < cLine
theorem Room.mono {j k : Nat} {A : Around} (r : Room k A) (h : j ≤ k) : Room j A := ⟨r.hd, by have := r.dp; omega, by have := r.un; omega⟩
theorem Room.deeper {k : Nat} {A : Around} (r : Room (k + 1) A) (env : Env) : Room k (A.deeper env) :=
 ⟨r.hd, by have := r.dp; show A.depth + 1 + 3 * k + 5 < _; omega, by have := r.un; show A.units + 3 + 16 * k + 200 < _; omega⟩
theorem Room.depth {k : Nat} {A : Around} (r : Room k A) : A.depth < recursionLimit := by have := r.dp; omega
theorem Room.units {k : Nat} {A : Around} (r : Room k A) : A.units + 64 < cLine := by have := r.un; omega
def tNil : TA := fun _ H Q => Q [] H
def tCons (ta : TE) (tr : TA) : TA := fun σ H Q => ta σ H fun x H1 => tr σ H1 fun xs H2 => Q (x :: xs) H2
section
variable {X : Cx} {e : Expr} {es : List Expr} {te : TE} {t : TA} {pos : Pos}
theorem pa_nil : PA X [] tNil := fun _ _ _ _ H Q I h => Calls.spliced_nil ⟨[], H, I, .nil, h⟩
theorem pa_cons (ha : PE X e te) (hr : PA X es t) (hs : starEach (e :: es) X.env = (false, eval e X.env) :: starEach es X.env := by rfl) : PA X (e :: es) (tCons te t) := by
 intro pos pins s σ H Q I h
 rw [hs]
 show wpAny _ _ (spliced ((false, eval e X.env) :: backTo pos (starEach es X.env))) _ _ s
 (refine Calls.spliced_cons (thn (ha pins s σ H _ I h) ?_); rintro u s1 ⟨x, H1, I1, r1, q1⟩)
 (refine thn (hr pos pins s1 σ H1 _ I1 q1) ?_; rintro us s2 ⟨xs, H2, I2, r2, q2⟩; exact ⟨x :: xs, H2, I2, .cons r1 r2, q2⟩)
def tTup (t : TA) : TE := fun σ H Q => t σ H fun xs H1 => xs.length ≤ sizeLine ∧ ∀ p, H1 p = none → Q (.ref p) (upd H1 p (.tup xs))
def tLst (t : TA) : TE := fun σ H Q => t σ H fun xs H1 => xs.length ≤ sizeLine ∧ ∀ p, H1 p = none → Q (.ref p) (upd H1 p (.lst xs))
theorem pe_tup {x1} (h : PA X es t) : PE X (.Tuple es x1 pos) (tTup t) := by
 intro pins s σ H Q I hq
 refine wpAny_Tuple_spliced (thn (h pos pins s σ H _ I hq) fun us s1 ⟨xs, H1, I1, r, z, q⟩ => ⟨by rw [← r.length]; exact z, ?_⟩)
 have hf : H1 s1.heap.objs.size = none := I1.hok.fresh (Nat.le_refl _)
 refine ⟨.ref s1.heap.objs.size, upd H1 s1.heap.objs.size (.tup xs), I1.laid (t' := s1.toks) (fun b u e => Heap.get?_push_of_some _ e) (Nat.le_refl _) ?_, rfl, q _ hf⟩
 exact ⟨z, us, r, ⟨_, Heap.get?_push_size _ rfl, rfl, ⟨_, rfl⟩, rfl⟩⟩
theorem pe_lst (h : PA X es t) : PE X (.List es pos) (tLst t) := by
 intro pins s σ H Q I hq
 refine wpAny_List_spliced (thn (h pos pins s σ H _ I hq) fun us s1 ⟨xs, H1, I1, r, z, q⟩ => ⟨by rw [← r.length]; exact z, ?_⟩)
 have hf : H1 s1.heap.objs.size = none := I1.hok.fresh (Nat.le_refl _)
 refine ⟨.ref s1.heap.objs.size, upd H1 s1.heap.objs.size (.lst xs), I1.laid (t' := s1.toks) (fun b u e => Heap.get?_push_of_some _ e) (Nat.le_refl _) ?_, rfl, q _ hf⟩
 exact ⟨z, us, 0, r, Heap.get?_push_size _ rfl⟩
end
noncomputable abbrev Sp := List V → Hp → VK → XK → Prop
noncomputable abbrev CXT := List Env → Hp → Shared → XK → Value → Shared → Prop
structure Env0 (P : Program) (w : World) (K : PySem.W.Frag) (mg : Str → Option Value) (base : Heap) (A : Around) (outer : List Env) (s : Shared) (H : Hp) : Prop where
 frames : A.frames = some outer
 mod : Mod K mg base
 bs : ∀ b o, base.get? b = some o → s.heap.get? b = some o ∧ H b = none
 bsz : base.objs.size ≤ s.heap.objs.size
 funs : s.heap.FunFrames base outer
 frf : ∀ b ∈ frs outer, H b = none
 hok : HOk P w H s.heap
 bare : AllBare s.gens
def CE (outer : List Env) (P : Program) (w : World) (H : Hp) (s : Shared) (Q : VK) (u : Value) (s' : Shared) : Prop :=
 ∃ v H', s'.os = s.os ∧ AllBare s'.gens ∧ Un (frs outer) [] H H' s.heap s'.heap ∧ HOk P w H' s'.heap ∧ RelV v u ∧ Q v H'
def CR (CX : CXT) (outer : List Env) (P : Program) (w : World) (H : Hp) (s : Shared) (Q : VK) (E : XK) (r : Result) (s' : Shared) : Prop :=
 match r with
 | .ok (.ret u) => CE outer P w H s Q u s'
 | .ok _ => False
 | .error e => CX outer H s E e s'
structure FnOk (P : Program) (w : World) (K : PySem.W.Frag) (mg : Str → Option Value) (base : Heap) (CX : CXT) (k : Nat) (f : Addr) (fd : FuncData) (ps : List Str) (sp : Sp) : Prop where
 len : ∀ vs H Q E, sp vs H Q E → vs.length = ps.length
 run : ∀ (A : Around) (outer : List Env) (s : Shared) (H : Hp) (args : Args) (us : List Value) (vs : List V) (Q : VK) (E : XK), Room k A → Env0 P w K mg base A outer s H → BindsTo s fd args (ps.zip us) → Vals vs us → sp vs H Q E →
  codeAny (model P w) A (.call (.ref f) args) (CR CX outer P w H s Q E) s
theorem FnOk.mono {P : Program} {w : World} {K : PySem.W.Frag} {mg : Str → Option Value} {base : Heap} {CX : CXT} {j k : Nat} {f : Addr} {fd : FuncData} {ps : List Str} {sp : Sp} (F : FnOk P w K mg base CX j f fd ps sp) (h : j ≤ k) :
  FnOk P w K mg base CX k f fd ps sp := ⟨F.len, fun A outer s H args us vs Q E hr => F.run A outer s H args us vs Q E (hr.mono h)⟩
section
variable {X : Cx} {pins : List (Addr × Obj)} {σ : St} {H : Hp} {s s' : Shared}
theorem Inv.env0 (I : Inv X pins σ H s) : Env0 X.prog X.w X.K X.mg X.base X.A X.stack s H :=
 ⟨I.ok.frames, I.ok.mod, I.bs, Nat.le_trans I.ok.bsz I.sz, I.stack, I.stkFree, I.hok, I.bare⟩
theorem Inv.after {Q : VK} {u : Value} (I : Inv X pins σ H s) (h : CE X.stack X.prog X.w H s Q u s') : EP X pins σ Q u s' := by
 obtain ⟨v, H', os, bare, un, hok, r, q⟩ := h
 obtain ⟨hh, g, d, t, os'⟩ := s'
 obtain rfl : os' = s.os := os
 exact ⟨v, H', I.call (h' := hh) (g' := g) (d' := d) (t' := t) (ch := []) un hok bare (fun b z => absurd z (by simp)), r, q⟩
end
def tCall (sp : Sp) (dvs : List V) (E : XK) (t : TA) : TE := fun σ H Q => t σ H fun vs H1 => sp (vs ++ dvs) H1 Q E
def tMeth (C : Addr) (m : Str) (sp : Sp) (dvs : List V) (E : XK) (ta : TE) (t : TA) : TE := fun σ H Q => ta σ H fun x H1 => ∃ a dx fs, x = .ref a ∧ H1 a = some (.ins C dx fs) ∧ fs.lookup m = none ∧
 t σ H1 fun vs H2 => sp (x :: (vs ++ dvs)) H2 Q E
def Binds (K : PySem.W.Frag) (fd : FuncData) (ps : List Str) (ds : List Value) : Prop :=
 ∀ (s : Shared) (us : List Value), K.In s.heap → (us ++ ds).length = ps.length → BindsTo s fd ⟨us, []⟩ (ps.zip (us ++ ds))
theorem Binds.all {K : PySem.W.Frag} {fd : FuncData} {ps : List Str} (h : ∀ us : List Value, us.length = ps.length → bindArgs fd ⟨us, []⟩ = pure (ps.zip us)) : Binds K fd ps [] := fun s us _ hl => by
 rw [List.append_nil] at hl ⊢
 exact .of_eq (h us hl)
def Passes (CX : CXT) (X : Cx) (E : XK) : Prop := ∀ (pins : List (Addr × Obj)) (σ : St) (H : Hp) (s : Shared) (e : Value) (s' : Shared), Inv X pins σ H s → CX X.stack H s E e s' → X.xe e s'
section
variable {X : Cx} {CX : CXT} {k : Nat} {f C : Addr} {fd : FuncData} {ps : List Str} {sp : Sp} {dvs : List V} {ds : List Value} {E : XK} {x m : Str} {p pos apos : Pos} {e o : Expr} {es : List Expr} {ta : TE} {t : TA}
theorem run_fn {pins : List (Addr × Obj)} {σ : St} {H : Hp} {s : Shared} {Q : VK} {us : List Value} {vs : List V} (F : FnOk X.prog X.w X.K X.mg X.base CX k f fd ps sp) (hr : Room k X.A) (hb : Binds X.K fd ps ds) (hd : Vals dvs ds) (hx : Passes CX X E)
  (I : Inv X pins σ H s) (r : Vals vs us) (h : sp (vs ++ dvs) H Q E) : wpAny (model X.prog X.w) X.A (call (.ref f) us) (EP X pins σ Q) X.xe s := by
 have r2 : Vals (vs ++ dvs) (us ++ ds) := r.append hd
 have hl : (us ++ ds).length = ps.length := by rw [← r2.length]; exact F.len _ _ _ _ h
 refine wpAny_call (codeAny_mono (F.run X.A X.stack s H ⟨us, []⟩ (us ++ ds) (vs ++ dvs) Q E hr I.env0 (hb s us I.kIn hl) r2 h) fun r s' hq => ?_)
 cases r with
 | error e => exact hx pins σ H s e s' I hq
 | ok fl =>
  cases fl with
  | ret u => exact I.after hq
  | next => exact False.elim hq
  | brk => exact False.elim hq
  | cont => exact False.elim hq
theorem pe_call (F : FnOk X.prog X.w X.K X.mg X.base CX k f fd ps sp) (hr : Room k X.A) (hg : Gl X x) (hm : X.mg x = some (.ref f)) (hk : PySem.W.keepIn X.K (.ref f) = true) (hb : Binds X.K fd ps ds) (hd : Vals dvs ds) (hx : Passes CX X E)
  (ha : PA X (e :: es) t) (hdb : (x == ("__debug__" : Str)) = false := by decide) (he : starEach (e :: es) X.env = (false, eval e X.env) :: starEach es X.env := by rfl) (hpl : (backTo pos (starEach es X.env)).any (·.1) = false := by rfl) :
  PE X (.Call (.Name x p) (e :: es) [] pos) (tCall sp dvs E t) := by
 intro pins s σ H Q I h
 refine wpAny_Call_Name_kw (ld_glob I hg hm ?_ hdb)
 (refine PySem.W.callWith_K (h₀ := X.base) I.ok.mod.kin hk (thn (ha pos pins s σ H _ I h) ?_) he hpl; rintro us s1 ⟨vs, H1, I1, r, q⟩; refine ⟨I1.kIn, ?_⟩)
 exact run_fn F hr hb hd hx I1 r q
theorem pe_meth {pl : Sem Bool} (he : PE X o ta) (c : Cls X.K C) (hm : Meth X.K C m f) (F : FnOk X.prog X.w X.K X.mg X.base CX k f fd ps sp) (hr : Room k X.A) (hb : Binds X.K fd ps ds) (hd : Vals dvs ds) (hx : Passes CX X E) (ha : PA X (e :: es) t)
  (hst : starEach (e :: es) X.env = (false, eval e X.env) :: starEach es X.env := by rfl) (hpl : (backTo pos (starEach es X.env)).any (·.1) = false := by rfl)
  (ht : eval (.Call (.Attribute o m apos) (e :: es) [] pos) X.env = (do
   let ov ← eval o X.env
   standAt apos.atName
   let (f, first) ← holding [ov] (getMethod ov m pl)
   callWith pos f first (backTo pos (starEach (e :: es) X.env)) (backToKw pos (keywordEach [] X.env))) := by rfl) :
  PE X (.Call (.Attribute o m apos) (e :: es) [] pos) (tMeth C m sp dvs E ta t) := by
 intro pins s σ H Q I h
 (refine PySem.W.methodCall_KW (pl := pl) (thn (he pins s σ H _ I h) ?_) ht; rintro u s1 ⟨x, H1, I1, rx, a, dx, fs, ex, ea, l, q⟩)
 subst ex
 obtain rfl : u = Value.ref a := rx
 refine getmeth_ok I1 ea c hm l ?_
 (refine PySem.W.callWith_K (first := [.ref a]) (h₀ := X.base) I.ok.mod.kin hm.kp (thn (ha pos pins s1 σ H1 _ I1 q) ?_) hst hpl; rintro us s2 ⟨vs, H2, I2, r, q2⟩; refine ⟨I2.kIn, ?_⟩)
 exact run_fn (us := .ref a :: us) (vs := .ref a :: vs) F hr hb hd hx I2 (.cons rfl r) q2
structure Mk (K : PySem.W.Frag) (C f : Addr) : Prop where
 makes : PySem.W.makesIn K C = true
 init : PySem.W.findIn K (.ref C) "__init__" = some (some (.ref f))
 fn : PySem.W.isFn K (.ref f) = true
 kp : PySem.W.keepIn K (.ref C) = true
end
section
variable {X : Cx} {CX : CXT} {k : Nat} {f C : Addr} {fd : FuncData} {ps ks : List Str} {sp : Sp} {E : XK} {x m : Str} {p pos apos kpos : Pos} {e o : Expr} {es : List Expr} {kws : List Keyword} {te ta : TE} {t tk : TA} {nm : Option Str}
structure KBinds (K : PySem.W.Frag) (fd : FuncData) (ps ks : List Str) (g : List Value → List Value → List Value) (gV : List V → List V → List V) : Prop where
 to : ∀ (s : Shared) (us ws : List Value), K.In s.heap → (g us ws).length = ps.length → BindsTo s fd ⟨us, ks.zip ws⟩ (ps.zip (g us ws))
 rel : ∀ {vs : List V} {us : List Value} {zs : List V} {ws : List Value}, Vals vs us → Vals zs ws → Vals (gV vs zs) (g us ws)
variable {g : List Value → List Value → List Value} {gV : List V → List V → List V}
end
structure FnScope (N P : List Str) (sc : Scope) : Prop where
 kind : sc.kind = .function
 co : sc.isCoroutine = false
 gen : sc.isGenerator = false
 nd : N.Nodup
 pre : N.take P.length = P
 par : ∀ x ∈ P, sc.names.lookup x = some .local ∨ sc.names.lookup x = some .cell
 nofree : ∀ y ∈ sc.names, y.2 ≠ .free
theorem bindL_out {kindOf : Str → Option NameKind} {x : Str} : ∀ {binds : List (Str × Value)} {m : Str → Option Value}, (∀ v, (x, v) ∉ binds) → bindL kindOf binds m x = m x
 | [], _, _ => rfl
 | (n, v) :: r, m, h => by
  unfold bindL
  rw [bindL_out fun w hw => h w (List.mem_cons_of_mem _ hw)]
  split
  ·have : x ≠ n := by rintro rfl; exact h v List.mem_cons_self
   simp [this]
  ·rfl
theorem bindC_out {kindOf : Str → Option NameKind} {x : Str} : ∀ {binds : List (Str × Value)} {m : Str → Option Value}, (∀ v, (x, v) ∉ binds) → bindC kindOf binds m x = m x
 | [], _, _ => rfl
 | (n, v) :: r, m, h => by
  unfold bindC
  rw [bindC_out fun w hw => h w (List.mem_cons_of_mem _ hw)]
  split
  ·rfl
  ·have : x ≠ n := by rintro rfl; exact h v List.mem_cons_self
   simp [this]
theorem bindL_get {kindOf : Str → Option NameKind} {x : Str} {v : Value} : ∀ {P : List Str} {vs : List Value} {i : Nat} {m : Str → Option Value}, P.Nodup → P[i]? = some x → vs[i]? = some v → kindOf x = some .local →
  bindL kindOf (P.zip vs) m x = some v
 | [], _, _, _, _, h, _, _ => by simp at h
 | _ :: _, [], _, _, _, _, h, _ => by simp at h
 | p :: P, w :: vs, 0, m, nd, h1, h2, hk => by
  simp at h1 h2; subst h1; subst h2
  show bindL kindOf ((p, w) :: P.zip vs) m p = _
  unfold bindL
  rw [bindL_out fun v hv => (List.nodup_cons.mp nd).1 (List.of_mem_zip hv).1, if_pos hk]
  simp
 | p :: P, w :: vs, i + 1, m, nd, h1, h2, hk => by
  show bindL kindOf ((p, w) :: P.zip vs) m x = _
  unfold bindL
  exact bindL_get (i := i) (List.nodup_cons.mp nd).2 (by simpa using h1) (by simpa using h2) hk
theorem bindC_get {kindOf : Str → Option NameKind} {x : Str} {v : Value} : ∀ {P : List Str} {vs : List Value} {i : Nat} {m : Str → Option Value}, P.Nodup → P[i]? = some x → vs[i]? = some v → kindOf x ≠ some .local →
  bindC kindOf (P.zip vs) m x = some v
 | [], _, _, _, _, h, _, _ => by simp at h
 | _ :: _, [], _, _, _, _, h, _ => by simp at h
 | p :: P, w :: vs, 0, m, nd, h1, h2, hk => by
  simp at h1 h2; subst h1; subst h2
  show bindC kindOf ((p, w) :: P.zip vs) m p = _
  unfold bindC
  rw [bindC_out fun v hv => (List.nodup_cons.mp nd).1 (List.of_mem_zip hv).1, if_neg hk]
  simp
 | p :: P, w :: vs, i + 1, m, nd, h1, h2, hk => by
  show bindC kindOf ((p, w) :: P.zip vs) m x = _
  unfold bindC
  exact bindC_get (i := i) (List.nodup_cons.mp nd).2 (by simpa using h1) (by simpa using h2) hk
noncomputable def start (N : List Str) (vs : List V) : St := vs.map some ++ List.replicate (N.length - vs.length) none
noncomputable def cxOf (CX : CXT) (P : Program) (w : World) (K : PySem.W.Frag) (mg : Str → Option Value) (base : Heap) (N : List Str) (qual : Str) (scope : Scope) (f : Addr) (cd : Value) (A : Around) (outer : List Env) (s : Shared) (H : Hp) (E : XK) : Cx where
 prog := P
 w := w
 K := K
 mg := mg
 base := base
 A := A.deeper (envOfC qual scope s.heap.objs.size f cd)
 N := N
 s₀ := s
 H₀ := H
 env := envOfC qual scope s.heap.objs.size f cd
 outer := outer
 stack := envOfC qual scope s.heap.objs.size f cd :: outer
 ex := []
 calm := true
 fn := fun _ => true
 pn := []
 xe := fun e s' => wpAny (model P w) (A.deeper (envOfC qual scope s.heap.objs.size f cd)) (leaving (envOfC qual scope s.heap.objs.size f cd) e) (fun _ s'' => CX outer H s E e s'') (fun e' s'' => CX outer H s E e' s'') s'
theorem cell_has {sc : Scope} {n : Nat} {x : Str} (h : sc.names.lookup x = some .cell) : ∃ c, (cellsFrom n sc.names []).lookup x = some c := by
 have q := PySem.W.cellsFrom_some sc.names n [] (.inl h)
 exact Option.isSome_iff_exists.mp q
theorem inv_start {CX : CXT} {P : Program} {w : World} {K : PySem.W.Frag} {mg : Str → Option Value} {base : Heap} {N ps : List Str} {qual : Str} {scope : Scope} {f : Addr} {cd : Value} {A : Around} {outer : List Env} {s s1 : Shared} {H : Hp} {E : XK} {us : List Value} {vs : List V}
  (S : FnScope N ps scope) (hd : A.handled = none) (e0 : Env0 P w K mg base A outer s H) (hl : vs.length = ps.length) (r : Vals vs us)
  (x : InCallC s s.heap.objs.size (bindL (envOfC qual scope s.heap.objs.size f cd).kindOf (ps.zip us) fun _ => none) (cellsFrom (s.heap.objs.size + 1) scope.names []) (bindC (envOfC qual scope s.heap.objs.size f cd).kindOf (ps.zip us) fun _ => none) s1) :
  Inv (cxOf CX P w K mg base N qual scope f cd A outer s H E) [] (start N vs) H s1 := by
 have hpl : ps.length ≤ N.length := by have := congrArg List.length S.pre; rw [List.length_take] at this; omega
 obtain ⟨h1, tk, rfl, hk⟩ := x.done
 have noA : ∀ b : Addr, b ∉ (cxOf CX P w K mg base N qual scope f cd A outer s H E).ex := fun b z => absurd (show b ∈ ([] : List Addr) from z) (by simp)
 refine ⟨⟨e0.mod, S.kind, rfl, rfl, Nat.le_refl _, fun y z c h1 h2 => ?_, fun y hy => ?_, fun y c _ h => ?_, fun _ => hd, Around.frames_deeper e0.frames, .inr ⟨rfl, rfl⟩, fun b z => absurd z (noA b), e0.bs, e0.bsz, fun b _ _ => noA b, fun b z => absurd z (noA b), e0.funs, e0.frf⟩,
  rfl, e0.bare, Un.kept hk, ⟨_, x.toInCall.ns, fun i y v h1 h2 h3 => ?_⟩, fun y c h => ⟨_, x.cell y c h⟩, e0.hok.fresh (Nat.le_refl _), fun y c h => ?_, fun p hp => absurd (show p ∈ ([] : List (Addr × Obj)) from hp) (by simp), e0.hok.kept hk, ?_⟩
 ·exact name_of_addr x.apart (PySem.mem_of_lookup h1) (PySem.mem_of_lookup h2)
 ·have hy : scope.names.lookup y = some .cell ∨ scope.names.lookup y = some .free := hy
  rcases hy with hy | hy
  ·exact cell_has hy
  ·exact absurd rfl (S.nofree _ (PySem.mem_of_lookup hy))
 ·exact Nat.le_of_lt (x.above y c (PySem.mem_of_lookup h))
 ·have hi : i < vs.length := by
   unfold start at h2
   by_cases hi : i < vs.length
   ·exact hi
   ·rw [List.getElem?_append_right (by simpa using hi)] at h2
    rw [List.getElem?_replicate] at h2
    split at h2 <;> cases h2
  have ha : vs[i]? = some v := by
   unfold start at h2
   rw [List.getElem?_append_left (by simpa using hi), List.getElem?_map] at h2
   cases e : vs[i]? with
   | none => rw [e] at h2; cases h2
   | some a => rw [e] at h2; cases h2; rfl
  obtain ⟨u, hu, rv⟩ := r.get ha
  have hp : ps[i]? = some y := by
   rw [← S.pre, List.getElem?_take_of_lt (by omega)]; exact h1
  have ndP : ps.Nodup := by rw [← S.pre]; exact S.nd.sublist (List.take_sublist _ _)
  refine ⟨u, rv, ?_⟩
  rcases S.par y (List.mem_of_getElem? hp) with k | k
  ·exact .inl ⟨k, bindL_get ndP hp hu k⟩
  ·obtain ⟨c, e⟩ := cell_has (n := s.heap.objs.size + 1) k
   refine .inr ⟨.inl k, c, e, ?_⟩
   have q := x.cell y c e
   rw [bindC_get ndP hp hu (by show scope.names.lookup y ≠ _; rw [k]; decide)] at q
   exact q
 ·exact e0.hok.fresh (Nat.le_of_lt (x.above y c (PySem.mem_of_lookup h)))
 ·unfold start
  show _ = N.length
  rw [List.length_append, List.length_map, List.length_replicate]
  omega
theorem fn_of {CX : CXT} {P : Program} {w : World} {K : PySem.W.Frag} {mg : Str → Option Value} {base : Heap} {k : Nat} {f : Addr} {name qual : Str} {params : Arguments} {body : List Stmt} {scope : Scope} {dV kV doc pm cdv ct oc : Value} {an od : Option Addr}
  {osl : Array (Option Value)} {N ps : List Str} {sp : Sp} (lk : K.lookup f = some ⟨oc, od, .func (PySem.W.fnOf name qual params body scope dV kV doc pm an cdv ct), osl⟩) (hcd : PySem.W.codeIn K cdv qual = true) (S : FnScope N ps scope)
  (len : ∀ vs H Q E, sp vs H Q E → vs.length = ps.length)
  (hbody : ∀ (A : Around) (outer : List Env) (s : Shared) (H : Hp) (vs : List V) (Q : VK) (E : XK), Room k (A.deeper (envOfC qual scope s.heap.objs.size f cdv)) → sp vs H Q E →
   ∃ t, PSs (cxOf CX P w K mg base N qual scope f cdv A outer s H E) body t ∧ t { nx := fun _ H' => Q .non H', rt := Q } (start N vs) H) :
  FnOk P w K mg base CX (k + 1) f (PySem.W.fnOf name qual params body scope dV kV doc pm an cdv ct) ps sp := by
 refine ⟨len, fun A outer s H args us vs Q E hr e0 hb r hsp => ?_⟩
 have hl := len _ _ _ _ hsp
 have KX : K.In s.heap := e0.mod.kin.keeps fun b o e => (e0.bs b o e).1
 have lim : s.heap.NoLimit := e0.mod.nolimit.keeps fun b o e => (e0.bs b o e).1
 have hkind : ∀ y ∈ ps.zip us, scope.names.lookup y.1 = some .local ∨ (scope.names.lookup y.1 = some .cell ∧ ((cellsFrom (s.heap.objs.size + 1) scope.names []).lookup y.1).isSome = true) := fun ⟨n, v⟩ hy => by
  rcases S.par n (List.of_mem_zip hy).1 with q | q
  ·exact .inl q
  ·exact .inr ⟨q, PySem.W.cellsFrom_some _ _ _ (.inl q)⟩
 refine codeAny_call_function hr.depth (KX _ _ lk) rfl S.co S.gen rfl (PySem.W.codeRec_of KX hcd) (hb _ _ _ _ ?_)
 refine wpAny_newFunctionEnv_cells S.kind hkind fun env he s1 x => ?_
 subst he
 refine ⟨lim.keeps x.toInCall.keep, codeAny_func ?_⟩
 obtain ⟨t, ht, hq⟩ := hbody A outer s H vs Q E (hr.deeper _) hsp
 have I : Inv (cxOf CX P w K mg base N qual scope f cdv A outer s H E) [] (start N vs) H s1 := inv_start S hr.hd e0 hl r x
 refine wpAny_mono (ht [] s1 (start N vs) H _ I hq) (fun fl s' hs => ?_) fun e s' hs => hs
 have fin : ∀ {σ' : St} {H' : Hp} {v : V} {u : Value}, Inv (cxOf CX P w K mg base N qual scope f cdv A outer s H E) [] σ' H' s' → RelV v u → Q v H' → CE outer P w H s Q u s' :=
  fun {σ' H' v u} J rv q => ⟨v, H', J.os, J.bare, J.base, J.hok, rv, q⟩
 cases fl with
 | ret u =>
  obtain ⟨v, σ', H', J, rv, q⟩ := hs
  exact fin J rv q
 | next =>
  obtain ⟨σ', H', J, q⟩ := hs
  exact fin (v := V.non) (u := Value.none) J rfl q
 | brk =>
  obtain ⟨_, _, _, q⟩ := hs
  exact False.elim q
 | cont =>
  obtain ⟨_, _, _, q⟩ := hs
  exact False.elim q
end L2
namespace L2
open PySem PySem.Spec PyProof.Rows
section
variable {X : Cx} {x : Str} {p pos : Pos} {e : Expr} {es : List Expr} {t : TA} {id T : String} {r : List V → Hp → VK → Prop}
def tCB (r : List V → Hp → VK → Prop) (t : TA) : TE := fun σ H Q => t σ H fun vs H1 => r vs H1 Q
theorem pe_callB (hc : CallR X (.builtin id) r) (hg : Gl X x) (hm : X.mg x = none) (hv : bootBuiltins x = some (.builtin id)) (ha : PA X (e :: es) t) (hn : x ≠ "__name__" := by decide) (hdb : (x == ("__debug__" : Str)) = false := by decide)
  (he : starEach (e :: es) X.env = (false, eval e X.env) :: starEach es X.env := by rfl) (hpl : (backTo pos (starEach es X.env)).any (·.1) = false := by rfl) : PE X (.Call (.Name x p) (e :: es) [] pos) (tCB r t) := by
 intro pins s σ H Q I h
 refine wpAny_Call_Name_kw (ld_blt I hg hm hv ?_ hn hdb)
 (refine PyProof.Rows.callWith_builtin1 (thn (ha pos pins s σ H _ I h) ?_) he hpl; rintro us s1 ⟨vs, H1, I1, r1, q1⟩; exact hc pins s1 σ H1 vs us Q I1 r1 q1)
theorem pe_callTy (hc : CallR X (.type T) r) (hg : Gl X x) (hm : X.mg x = none) (hv : bootBuiltins x = some (.type T)) (ha : PA X (e :: es) t) (hn : x ≠ "__name__" := by decide) (hdb : (x == ("__debug__" : Str)) = false := by decide)
  (he : starEach (e :: es) X.env = (false, eval e X.env) :: starEach es X.env := by rfl) (hpl : (backTo pos (starEach es X.env)).any (·.1) = false := by rfl) : PE X (.Call (.Name x p) (e :: es) [] pos) (tCB r t) := by
 intro pins s σ H Q I h
 refine wpAny_Call_Name_kw (ld_blt I hg hm hv ?_ hn hdb)
 (refine PyProof.Rows.callWith_type1 (thn (ha pos pins s σ H _ I h) ?_) he hpl; rintro us s1 ⟨vs, H1, I1, r1, q1⟩; exact hc pins s1 σ H1 vs us Q I1 r1 q1)
end
end L2
namespace L2
open PySem PySem.Spec PyProof.Rows
section
variable {κ : Type} [DecidableEq κ]
noncomputable def valV (kvs : List (κ × V)) (k : κ) : Option V := (kvs.find? fun kv => decide (kv.1 = k)).map (·.2)
noncomputable def putK (kvs : List (κ × V)) (k : κ) (v : V) : List (κ × V) :=
 if (kvs.any fun kv => decide (kv.1 = k)) = true then kvs.map (fun kv => if kv.1 = k then (kv.1, v) else kv) else kvs ++ [(k, v)]
noncomputable def dropK (kvs : List (κ × V)) (k : κ) : List (κ × V) := kvs.filter fun kv => decide (kv.1 ≠ k)
theorem valV_pos {p : κ × V} {r : List (κ × V)} {k : κ} (e : p.1 = k) : valV (p :: r) k = some p.2 := by simp [valV, List.find?_cons, e]
theorem valV_neg {p : κ × V} {r : List (κ × V)} {k : κ} (e : ¬ p.1 = k) : valV (p :: r) k = valV r k := by simp [valV, List.find?_cons, e]
theorem valV_any (k : κ) : ∀ kvs : List (κ × V), (kvs.any fun kv => decide (kv.1 = k)) = (valV kvs k).isSome
 | [] => rfl
 | p :: r => by
  rw [List.any_cons]
  by_cases e : p.1 = k
  ·simp only [valV_pos e, decide_eq_true e, Bool.true_or, Option.isSome_some]
  ·rw [valV_neg e, decide_eq_false e, Bool.false_or]; exact valV_any k r
theorem length_putK (kvs : List (κ × V)) (k : κ) (v : V) : (putK kvs k v).length ≤ kvs.length + 1 := by
 unfold putK
 split
 ·rw [List.length_map]; omega
 ·rw [List.length_append, List.length_cons, List.length_nil]; omega
theorem RelO.isSome_eq {o : Option V} {u : Option Value} (r : RelO o u) : o.isSome = u.isSome := by
 cases o with
 | none => cases u with
  | none => rfl
  | some _ => exact (show False from r).elim
 | some _ => cases u with
  | none => exact (show False from r).elim
  | some _ => rfl
theorem RelO.getD {o : Option V} {u : Option Value} {d : V} {d' : Value} (r : RelO o u) (rd : RelV d d') : RelV (o.getD d) (u.getD d') := by
 cases o with
 | none => cases u with
  | none => exact rd
  | some _ => exact (show False from r).elim
 | some _ => cases u with
  | none => exact (show False from r).elim
  | some _ => exact r
theorem KV.val {kvs : List (κ × V)} {vs : List (κ × Value)} (r : KV kvs vs) (k : κ) : RelO (valV kvs k) (valueAt vs k) := by
 unfold KV at r
 induction r with
 | nil => exact True.intro
 | @cons p q ps qs h t ih =>
  obtain ⟨h1, h2⟩ := h
  by_cases e : p.1 = k
  ·have e' : q.1 = k := h1.symm.trans e
   have b : valueAt (q :: qs) k = some q.2 := by simp [valueAt, List.find?_cons, e']
   rw [valV_pos e, b]; exact h2
  ·have e' : ¬ q.1 = k := fun z => e (h1.trans z)
   have b : valueAt (q :: qs) k = valueAt qs k := by simp [valueAt, List.find?_cons, e']
   rw [valV_neg e, b]; exact ih
theorem KV.any {kvs : List (κ × V)} {vs : List (κ × Value)} (r : KV kvs vs) (k : κ) : (kvs.any fun kv => decide (kv.1 = k)) = vs.any fun kv => decide (kv.1 = k) := by
 unfold KV at r
 induction r with
 | nil => rfl
 | cons h t ih => rw [List.any_cons, List.any_cons, ih, h.1]
theorem KV.repl {kvs : List (κ × V)} {vs : List (κ × Value)} (r : KV kvs vs) (k : κ) {y : V} {u : Value} (ry : RelV y u) :
  KV (kvs.map fun kv => if kv.1 = k then (kv.1, y) else kv) (vs.map fun kv => if kv.1 = k then (kv.1, u) else kv) := by
 unfold KV at r ⊢
 induction r with
 | nil => exact .nil
 | @cons p q ps qs h t ih =>
  rw [List.map_cons, List.map_cons]
  refine .cons ?_ ih
  obtain ⟨h1, h2⟩ := h
  by_cases e : p.1 = k
  ·rw [if_pos e, if_pos (h1.symm.trans e)]; exact ⟨h1, ry⟩
  ·rw [if_neg e, if_neg (fun z => e (h1.trans z))]; exact ⟨h1, h2⟩
theorem KV.put {kvs : List (κ × V)} {vs : List (κ × Value)} (r : KV kvs vs) (k : κ) {y : V} {u : Value} (ry : RelV y u) : KV (putK kvs k y) (stored vs k u) := by
 unfold putK stored
 rw [r.any k]
 by_cases e : (vs.any fun kv => decide (kv.1 = k)) = true
 ·rw [if_pos e, if_pos e]; exact r.repl k ry
 ·rw [if_neg e, if_neg e]; exact Paired.snoc r ⟨rfl, ry⟩
theorem KV.drop {kvs : List (κ × V)} {vs : List (κ × Value)} (r : KV kvs vs) (k : κ) : KV (dropK kvs k) (without vs k) := by
 unfold KV at r ⊢
 unfold dropK without
 induction r with
 | nil => exact .nil
 | @cons p q ps qs h t ih =>
  obtain ⟨h1, h2⟩ := h
  rw [List.filter_cons, List.filter_cons]
  by_cases e : p.1 = k
  ·have a : ¬ decide (p.1 ≠ k) = true := by simp [e]
   have b : ¬ decide (q.1 ≠ k) = true := by simp [h1.symm.trans e]
   rw [if_neg a, if_neg b]; exact ih
  ·have e' : ¬ q.1 = k := fun z => e (h1.trans z)
   have a : decide (p.1 ≠ k) = true := by simp [e]
   have b : decide (q.1 ≠ k) = true := by simp [e']
   rw [if_pos a, if_pos b]; exact .cons ⟨h1, h2⟩ ih
theorem KV.keys {kvs : List (κ × V)} {vs : List (κ × Value)} (r : KV kvs vs) : kvs.map (·.1) = vs.map (·.1) := by
 unfold KV at r
 induction r with
 | nil => rfl
 | cons h t ih => rw [List.map_cons, List.map_cons, ih, h.1]
theorem KV.length {kvs : List (κ × V)} {vs : List (κ × Value)} (r : KV kvs vs) : kvs.length = vs.length := Paired.length r
end
theorem kV_is {P : Program} {w : World} {k : Key} {u : Value} (r : RelV (kV k) u) : (mixKind P w).is k u = true := by
 cases k with
 | inl i => obtain ⟨t, e⟩ := (show ∃ t, u = Value.int i t from r); subst e; exact mixKind_int P w i t
 | inr x => obtain ⟨t, e⟩ := (show ∃ t, u = Value.str x t from r); subst e; exact mixKind_str P w x t
theorem items_are {P : Program} {w : World} : ∀ {ks : List Key} {us : List Value}, Vals (ks.map kV) us → ItemsAre (mixKind P w) ks us
 | [], _, r => by rw [List.map_nil] at r; cases r; exact .nil
 | k :: ks, _, r => by
  rw [List.map_cons] at r
  cases r with
  | cons h t => exact .cons (kV_is h) (items_are t)
noncomputable abbrev KT (H : Hp) : List (List Key × V) → List (List Key × Addr × Value) → Prop := Paired fun p q => p.1 = q.1 ∧ H q.2.1 = some (.tup (p.1.map kV)) ∧ RelV p.2 q.2.2
theorem KT.val {H : Hp} {kvs : List (List Key × V)} {xs : List (List Key × Addr × Value)} (r : KT H kvs xs) (k : List Key) : RelO (valV kvs k) ((atKey xs k).map (·.2)) := by
 induction r with
 | nil => exact True.intro
 | @cons p q ps qs h t ih =>
  obtain ⟨h1, _, h2⟩ := h
  by_cases e : p.1 = k
  ·have e' : q.1 = k := h1.symm.trans e
   have b : atKey (q :: qs) k = some q.2 := by simp [atKey, List.find?_cons, e']
   rw [valV_pos e, b]; exact h2
  ·have e' : ¬ q.1 = k := fun z => e (h1.trans z)
   have b : atKey (q :: qs) k = atKey qs k := by simp [atKey, List.find?_cons, e']
   rw [valV_neg e, b]; exact ih
theorem KT.repl {H : Hp} {kvs : List (List Key × V)} {xs : List (List Key × Addr × Value)} (r : KT H kvs xs) (k : List Key) {y : V} {u : Value} (ry : RelV y u) :
  KT H (kvs.map fun kv => if kv.1 = k then (kv.1, y) else kv) (xs.map (putAt k u)) := by
 induction r with
 | nil => exact .nil
 | @cons p q ps qs h t ih =>
  rw [List.map_cons, List.map_cons]
  refine .cons ?_ ih
  obtain ⟨h1, h2, h3⟩ := h
  unfold putAt
  by_cases e : p.1 = k
  ·rw [if_pos e, if_pos (h1.symm.trans e)]; exact ⟨h1, h2, ry⟩
  ·rw [if_neg e, if_neg (fun z => e (h1.trans z))]; exact ⟨h1, h2, h3⟩
theorem KT.put {H : Hp} {kvs : List (List Key × V)} {xs : List (List Key × Addr × Value)} (r : KT H kvs xs) (k : List Key) {b : Addr} {y : V} {u : Value} (hb : H b = some (.tup (k.map kV))) (ry : RelV y u) :
  KT H (putK kvs k y) (storedH xs k b u) := by
 have e : (kvs.any fun kv => decide (kv.1 = k)) = (atKey xs k).isSome := by
  rw [valV_any, (r.val k).isSome_eq, Option.isSome_map]
 unfold putK storedH
 rw [e]
 by_cases q : (atKey xs k).isSome = true
 ·rw [if_pos q, if_pos q]; exact r.repl k ry
 ·rw [if_neg q, if_neg q]; exact Paired.snoc r ⟨rfl, hb, ry⟩
theorem KT.keeps {H H' : Hp} {kvs : List (List Key × V)} {xs : List (List Key × Addr × Value)} (r : KT H kvs xs) (ht : ∀ b ys, H b = some (.tup ys) → H' b = some (.tup ys)) : KT H' kvs xs :=
 Paired.mapP r fun _ _ z => ⟨z.1, ht _ _ z.2.1, z.2.2⟩
section
variable {P : Program} {w : World} {H : Hp} {h : Heap} {a : Addr}
theorem rd_of {u : HO} (ok : HOk P w H h) (e : Rd H a u) : ObjOk P w H h a u := e.ok ok
theorem dk_rd {kvs : List (Key × V)} (ok : HOk P w H h) (e : Rd H a (.dK kvs)) : kvs.length ≤ sizeLine ∧ (a == sysModules) = false ∧ ∃ vs, KV kvs vs ∧ h.DictOf (mixKind P w) a vs :=
 show ObjOk P w H h a (.dK kvs) from rd_of ok e
theorem dk_of {kvs : List (Key × V)} (ok : HOk P w H h) (e : H a = some (.dK kvs)) : kvs.length ≤ sizeLine ∧ (a == sysModules) = false ∧ ∃ vs, KV kvs vs ∧ h.DictOf (mixKind P w) a vs := dk_rd ok (.inl e)
theorem key_of {ks : List Key} (ok : HOk P w H h) (e : H a = some (.tup (ks.map kV))) : (tupleKind (mixKind P w)).is h ks a := by
 obtain ⟨_, its, r, o, h1, h2, ⟨n, h3⟩, _⟩ := (show ObjOk P w H h a (.tup (ks.map kV)) from ok a _ e)
 exact ⟨o, its.toArray, n, h1, h2, h3, by simpa using items_are r⟩
theorem dt_rd {kvs : List (List Key × V)} (ok : HOk P w H h) (e : Rd H a (.dT kvs)) : kvs.length ≤ sizeLine ∧ (a == sysModules) = false ∧
  ∃ xs, KT H kvs xs ∧ h.DictOfH (tupleKind (mixKind P w)) a xs := by
 obtain ⟨z, y, xs, r, o, es, ep, h1, h2, h3, h4, h5⟩ := (show ObjOk P w H h a (.dT kvs) from rd_of ok e)
 refine ⟨z, y, xs, r, o, es, ep, h1, h2, h3, h4, fun x hx => ?_, h5⟩
 have all : ∀ {l : List (List Key × V)} {m : List (List Key × Addr × Value)}, KT H l m → ∀ x ∈ m, (tupleKind (mixKind P w)).is h x.1 x.2.1 := by
  intro l m q
  induction q with
  | nil => intro x hx; exact nomatch hx
  | @cons p q ps qs hq t ih =>
   intro x hx
   rcases List.mem_cons.mp hx with e | hx
   ·subst e
    exact key_of ok (by rw [← hq.1]; exact hq.2.1)
   ·exact ih x hx
 exact all r x hx
theorem dt_of {kvs : List (List Key × V)} (ok : HOk P w H h) (e : H a = some (.dT kvs)) : kvs.length ≤ sizeLine ∧ (a == sysModules) = false ∧
  ∃ xs, KT H kvs xs ∧ h.DictOfH (tupleKind (mixKind P w)) a xs := dt_rd ok (.inl e)
end
def DGet (H : Hp) (a : Addr) (y : V) (r : Option V) : Prop :=
 (∃ kvs k, Rd H a (.dK kvs) ∧ y = kV k ∧ r = valV kvs k) ∨ ∃ kvs k b, Rd H a (.dT kvs) ∧ y = .ref b ∧ H b = some (.tup (k.map kV)) ∧ r = valV kvs k
def DPut (H : Hp) (a : Addr) (y v : V) (H' : Hp) : Prop :=
 (∃ kvs k, H a = some (.dK kvs) ∧ y = kV k ∧ kvs.length < sizeLine ∧ H' = upd H a (.dK (putK kvs k v))) ∨
 ∃ kvs k b, H a = some (.dT kvs) ∧ y = .ref b ∧ H b = some (.tup (k.map kV)) ∧ kvs.length < sizeLine ∧ H' = upd H a (.dT (putK kvs k v))
theorem DGet.k {H : Hp} {a : Addr} {kvs : List (Key × V)} {k : Key} (e : H a = some (.dK kvs)) : DGet H a (kV k) (valV kvs k) := .inl ⟨kvs, k, .inl e, rfl, rfl⟩
theorem DGet.t {H : Hp} {a b : Addr} {kvs : List (List Key × V)} {k : List Key} (e : H a = some (.dT kvs)) (eb : H b = some (.tup (k.map kV))) : DGet H a (.ref b) (valV kvs k) := .inr ⟨kvs, k, b, .inl e, rfl, eb, rfl⟩
theorem DPut.k {H : Hp} {a : Addr} {kvs : List (Key × V)} {k : Key} {v : V} (e : H a = some (.dK kvs)) (hl : kvs.length < sizeLine) : DPut H a (kV k) v (upd H a (.dK (putK kvs k v))) := .inl ⟨kvs, k, e, rfl, hl, rfl⟩
theorem DPut.t {H : Hp} {a b : Addr} {kvs : List (List Key × V)} {k : List Key} {v : V} (e : H a = some (.dT kvs)) (eb : H b = some (.tup (k.map kV))) (hl : kvs.length < sizeLine) :
  DPut H a (.ref b) v (upd H a (.dT (putK kvs k v))) := .inr ⟨kvs, k, b, e, rfl, eb, hl, rfl⟩
section
variable {X : Cx} {pins : List (Addr × Obj)} {σ : St} {H : Hp} {s : Shared} {a : Addr} {y v : V} {u r : Value} {o : Option V} {A : Around} {E : Value → Shared → Prop}
theorem Inv.big (I : Inv X pins σ H s) : sysModules < s.heap.objs.size := by
 have h : mainGlobals < s.heap.objs.size := (I.mod.glob.keeps I.bk).lt
 exact Nat.lt_trans (by decide) h
theorem d_in {Q : Value → Shared → Prop} (hu : A.units + 1 < cLine) (I : Inv X pins σ H s) (g : DGet H a y o) (ry : RelV y u) (h : ∀ s', Inv X pins σ H s' → Q (.bool o.isSome) s') :
  wpAny (model X.prog X.w) A (compareOp .In u (.ref a)) Q E s := by
 rcases g with ⟨kvs, k, e, ey, l⟩ | ⟨kvs, k, b, e, ey, eb, l⟩
 ·subst ey
  obtain ⟨z, hd, vs, rel, dd⟩ := dk_rd I.hok e
  refine wpAny_in_of (kV_is ry) hd dd.mapOf ?_
  rw [← (rel.val k).isSome_eq, ← l]
  exact h _ (I.tok _)
 ·subst ey
  cases (show u = Value.ref b from ry)
  obtain ⟨z, hd, xs, rel, dd⟩ := dt_rd I.hok e
  refine wpAny_in_heap (tupleKind_room_in1 hu) (key_of I.hok eb) hd dd ?_
  have q := (rel.val k).isSome_eq
  rw [Option.isSome_map] at q
  rw [← q, ← l]
  exact h _ (I.tok _)
theorem d_notIn {Q : Value → Shared → Prop} (hu : A.units + 1 < cLine) (I : Inv X pins σ H s) (g : DGet H a y o) (ry : RelV y u) (h : ∀ s', Inv X pins σ H s' → Q (.bool (!o.isSome)) s') :
  wpAny (model X.prog X.w) A (compareOp .NotIn u (.ref a)) Q E s := by
 rcases g with ⟨kvs, k, e, ey, l⟩ | ⟨kvs, k, b, e, ey, eb, l⟩
 ·subst ey
  obtain ⟨z, hd, vs, rel, dd⟩ := dk_rd I.hok e
  refine wpAny_notIn_of (kV_is ry) hd dd.mapOf ?_
  rw [← (rel.val k).isSome_eq, ← l]
  exact h _ (I.tok _)
 ·subst ey
  cases (show u = Value.ref b from ry)
  obtain ⟨z, hd, xs, rel, dd⟩ := dt_rd I.hok e
  refine wpAny_notIn_heap (tupleKind_room_in1 hu) (key_of I.hok eb) hd dd ?_
  have q := (rel.val k).isSome_eq
  rw [Option.isSome_map] at q
  rw [← q, ← l]
  exact h _ (I.tok _)
theorem d_write {h' : Heap} {t' : Nat} {ob : HO} (I : Inv X pins σ H s) (mu : Mut (H a)) (hs : Heap.SameBut a s.heap h') (he : ∃ q, h'.get? a = some q) (new : ObjOk X.prog X.w (upd H a ob) h' a ob) :
  Inv X pins σ (upd H a ob) { s with heap := h', toks := t' } :=
 I.write (x := a) (e := a) mu (.inl rfl) (fun b q hb z => (hs.2 b hb).trans z) he new
theorem dk_new {P : Program} {w : World} {H' : Hp} {h' : Heap} {kvs : List (Key × V)} {vs : List (Key × Value)} (z : kvs.length ≤ sizeLine) (hd : (a == sysModules) = false) (rel : KV kvs vs) (dd : h'.DictOf (mixKind P w) a vs) :
  ObjOk P w H' h' a (.dK kvs) := ⟨z, hd, vs, rel, dd⟩
theorem d_setItem {H' : Hp} {Q : Unit → Shared → Prop} (hu : A.units + 1 < cLine) (I : Inv X pins σ H s) (g : DPut H a y v H') (ry : RelV y u) (rv : RelV v r) (h : ∀ s', Inv X pins σ H' s' → Q () s') :
  wpAny (model X.prog X.w) A (setItem (.ref a) u r) Q E s := by
 rcases g with ⟨kvs, k, e, ey, l, eH⟩ | ⟨kvs, k, b, e, ey, eb, l, eH⟩
 ·subst ey eH
  obtain ⟨z, hd, vs, rel, dd⟩ := dk_of I.hok e
  have hz : vs.length ≤ sizeLine := by rw [← rel.length]; exact z
  have hl : (putK kvs k v).length ≤ sizeLine := by have := length_putK kvs k v; omega
  refine wpAny_setItem_pairs (hsz := hz) (kV_is ry) dd fun h' dd' hs => h _ ?_
  have he : ∃ q, h'.get? a = some q := let ⟨q, _, _, hq, _⟩ := dd'; ⟨q, hq⟩
  exact d_write I (by rw [e]; exact True.intro) hs he (dk_new hl hd (rel.put k rv) dd')
 ·subst ey eH
  cases (show u = Value.ref b from ry)
  obtain ⟨z, hd, xs, rel, dd⟩ := dt_of I.hok e
  have hz : xs.length ≤ sizeLine := by rw [← Paired.length rel]; exact z
  have hl : (putK kvs k v).length ≤ sizeLine := by have := length_putK kvs k v; omega
  refine wpAny_setItem_heap (hsz := hz) (tupleKind_room_in1 hu) (key_of I.hok eb) dd fun h' dd' hs => h _ ?_
  obtain ⟨q, es, ep, hq, h2, h3, h4, _, h5⟩ := dd'
  refine d_write I (by rw [e]; exact True.intro) hs ⟨q, hq⟩ ⟨hl, hd, _, (rel.put k eb rv).keeps fun c ys ec => ?_, q, es, ep, hq, h2, h3, h4, h5⟩
  rw [upd_ne (ne_of ec e (fun z => nomatch z))]
  exact ec
end
section
variable {X : Cx} {pins : List (Addr × Obj)} {σ : St} {H : Hp} {s : Shared} {a : Addr} {kvs : List (Key × V)} {k : Key} {u : Value} {A : Around} {E : Value → Shared → Prop}
end
def NoSl (i : Expr) : Prop := ∀ ov iv, subscripted i false ov iv = operate [ov, iv] (getItem ov iv)
theorem subD_of {prog : Program} {w : World} {A : Around} {E : Value → Shared → Prop} {s : Shared} {env : Env} {value slice : Expr} {pos : Pos} {T id : String} {Q : Value → Shared → Prop}
  (hl : typeLookup (.type T) "__getitem__" = pure (some (.builtin id))) (hs : NoSl slice)
  (h : wpAny (model prog w) A (eval value env) (fun o s₁ => wpAny (model prog w) A (eval slice env) (fun i s₂ => s₂.TypeIs o T ∧ wpAny (model prog w) A (getItem o i) Q E s₂) E s₁) E s) :
  wpAny (model prog w) A (eval (.Subscript value slice pos) env) Q E s := by
 refine Subscript_ (wpAny_mono h (fun o s₁ h₁ => wpAny_mono h₁ (fun i s₂ h₂ => ?_) fun _ _ x => x) fun _ _ x => x)
 obtain ⟨hT, h₂⟩ := h₂
 unfold subscriptTail
 refine wpAny_bind ?_
 rw [getitemInPython_of_ne hT.not_modules]
 refine wpAny_bind (wpAny_specialOf hT hl ?_)
 have fin : wpAny (model prog w) A (subscripted slice false o i) (fun r s₃ => wpAny (model prog w) A (letTemporaryGo value o r >>= fun _ => pure r) Q E s₃) E s₂ := by
  rw [hs o i]
  exact wpAny_operating (wpAny_mono h₂ (fun r s₃ h₃ => wpAny_bind (wpAny_letTemporaryGo (wpAny_pure h₃))) fun _ _ x => x)
 first
  | exact wpAny_pure (wpAny_bind fin)
  | exact wpAny_bind (wpAny_pure (wpAny_bind fin))
  | exact wpAny_bind fin
def sDPut (td ty tv : TE) : TS := fun D σ H => tv σ H fun v H1 => td σ H1 fun x H2 => ty σ H2 fun y H3 => ∃ a H4, x = .ref a ∧ DPut H3 a y v H4 ∧ D.nx σ H4
section
variable {X : Cx} {o i e value : Expr} {pos pos' tpos : Pos} {td ty tv : TE}
theorem ps_dput (hu : X.A.units + 1 < cLine) (ho : PE X o td) (hi : PE X i ty) (hv : PE X value tv) (hs : swapsWith value (some (.Subscript o i pos')) pos.line X.env = pure false) :
  PS X (.Assign [.Subscript o i pos'] value pos) (sDPut td ty tv) := by
 intro pins s σ H D I h
 (refine wpAny_Assign_Subscript (thn (hv pins s σ H _ I h) ?_) hs; rintro r s1 ⟨v, H1, I1, rv, q1⟩; refine thn (ho pins s1 σ H1 _ I1 q1) ?_; rintro u s2 ⟨x, H2, I2, rx, q2⟩; refine thn (hi pins s2 σ H2 _ I2 q2) ?_; rintro iv s3 ⟨y, H3, I3, ry, a, H4, ex, g, q3⟩)
 subst ex
 obtain rfl : u = Value.ref a := rx
 exact d_setItem hu I3 g ry rv fun s4 I4 => ⟨σ, H4, I4, q3⟩
end
theorem dk_empty {P : Program} {w : World} {H : Hp} (h : Heap) (hb : sysModules < h.objs.size) : ObjOk P w H (h.push { cls := .type "dict", data := .dict #[] }) h.objs.size (.dK []) :=
 ⟨Nat.zero_le _, beq_eq_false_iff_ne.mpr (Ne.symm (Nat.ne_of_lt hb)), [], .nil, Heap.DictOf.new h⟩
theorem dt_empty {P : Program} {w : World} {H : Hp} (h : Heap) (hb : sysModules < h.objs.size) : ObjOk P w H (h.push { cls := .type "dict", data := .dict #[] }) h.objs.size (.dT []) :=
 ⟨Nat.zero_le _, beq_eq_false_iff_ne.mpr (Ne.symm (Nat.ne_of_lt hb)), [], .nil, _, #[], 0, Heap.get?_push_size _ rfl, ⟨rfl, rfl, rfl⟩, rfl, rfl, List.nodup_nil⟩
def tDNewT : TE := fun _ H Q => ∀ p, H p = none → Q (.ref p) (upd H p (.dT []))
section
variable {X : Cx} {pos : Pos}
theorem pe_dnewT : PE X (.Dict [] [] pos) tDNewT := fun pins s σ H Q I h =>
 wpAny_Dict_empty ⟨.ref s.heap.objs.size, _, I.laid (a := s.heap.objs.size) (o := .dT []) (t' := s.toks) (fun _ _ q => Heap.get?_push_of_some _ q) (Nat.le_refl _) (dt_empty s.heap I.big), rfl, h _ (I.hok.fresh (Nat.le_refl _))⟩
end
def tPairs : List (TE × TE) → St → Hp → (List (V × V) → Hp → Prop) → Prop
 | [], _, H, Q => Q [] H
 | (tk, tv) :: r, σ, H, Q => tk σ H fun x H1 => tv σ H1 fun y H2 => tPairs r σ H2 fun ps H3 => Q ((x, y) :: ps) H3
noncomputable abbrev VV : List (V × V) → List (Value × Value) → Prop := Paired fun p q => RelV p.1 q.1 ∧ RelV p.2 q.2
def PPs (X : Cx) (pos : Pos) (keys : List (Option Expr)) (values : List Expr) (trs : List (TE × TE)) : Prop :=
 ∀ (pins : List (Addr × Obj)) (s : Shared) (σ : St) (H : Hp) (Q : List (V × V) → Hp → Prop), Inv X pins σ H s → tPairs trs σ H Q →
  wpAny (model X.prog X.w) X.A (evalPairs (pairTrees keys values X.env pos)) (fun vs s' => ∃ ps H', Inv X pins σ H' s' ∧ VV ps vs ∧ Q ps H') X.xe s
theorem pps_nil {X : Cx} {pos : Pos} : PPs X pos [] [] [] := fun pins s σ H Q I h => pairTrees_nil_walk ⟨[], H, I, .nil, h⟩
theorem pps_cons {X : Cx} {pos : Pos} {k v : Expr} {ks : List (Option Expr)} {vs : List Expr} {tk tv : TE} {trs : List (TE × TE)} (hk : PE X k tk) (hv : PE X v tv) (hr : PPs X pos ks vs trs) :
  PPs X pos (some k :: ks) (v :: vs) ((tk, tv) :: trs) := fun pins s σ H Q I h =>
 pairTrees_cons_walk (thn (hk pins s σ H _ I h) fun u s1 ⟨x, H1, I1, rx, q1⟩ => thn (hv pins s1 σ H1 _ I1 q1) fun w2 s2 ⟨y, H2, I2, ry, q2⟩ =>
  thn (hr pins s2 σ H2 _ I2 q2) fun ws s3 ⟨ps, H3, I3, rel, q3⟩ => ⟨(x, y) :: ps, H3, I3, .cons ⟨rx, ry⟩ rel, q3⟩)
noncomputable def mergeK (kvs more : List (Key × V)) : List (Key × V) := more.foldl (fun acc kv => putK acc kv.1 kv.2) kvs
theorem KV.merge : ∀ {more : List (Key × V)} {rs : List (Key × Value)} {kvs : List (Key × V)} {vs : List (Key × Value)}, KV more rs → KV kvs vs → KV (mergeK kvs more) (merged vs rs) := by
 intro more rs kvs vs r
 unfold KV at r
 induction r generalizing kvs vs with
 | nil => intro q; exact q
 | @cons p q ps qs h t ih =>
  intro r0
  have e : KV (putK kvs p.1 p.2) (stored vs q.1 q.2) := by
   have := r0.put p.1 h.2
   rw [← h.1]; exact this
  exact ih e
theorem length_mergeK : ∀ (more kvs : List (Key × V)), (mergeK kvs more).length ≤ kvs.length + more.length
 | [], kvs => by show kvs.length ≤ kvs.length + 0; omega
 | p :: r, kvs => by
  have h1 := length_mergeK r (putK kvs p.1 p.2)
  have h2 := length_putK kvs p.1 p.2
  show (mergeK (putK kvs p.1 p.2) r).length ≤ _
  rw [List.length_cons]; omega
theorem carries_of {P : Program} {w : World} : ∀ {kvs : List (Key × V)} {ws : List (Value × Value)}, VV (kvs.map fun kv => (kV kv.1, kv.2)) ws → ∃ rs, Carries (mixKind P w) ws rs ∧ KV kvs rs
 | [], _, r => by rw [List.map_nil] at r; cases r; exact ⟨[], True.intro, .nil⟩
 | p :: kvs, _, r => by
  rw [List.map_cons] at r
  cases r with
  | @cons a b as bs h t =>
   obtain ⟨rs, c, q⟩ := carries_of (P := P) (w := w) t
   obtain ⟨b1, b2⟩ := b
   exact ⟨(p.1, b2) :: rs, ⟨kV_is h.1, rfl, c⟩, .cons ⟨rfl, h.2⟩ q⟩
def tDisp (trs : List (TE × TE)) : TE := fun σ H Q => ∀ p, H p = none → tPairs trs σ (upd H p (.dK [])) fun ps H2 => H2 p = some (.dK []) ∧ ∃ kvs : List (Key × V), ps = kvs.map (fun kv => (kV kv.1, kv.2)) ∧ kvs.length ≤ 15 ∧ Q (.ref p) (upd H2 p (.dK (mergeK [] kvs)))
theorem pe_disp {X : Cx} {pos : Pos} {keys : List (Option Expr)} {values : List Expr} {trs : List (TE × TE)} (h : PPs X pos keys values trs) (hall : keys.all (·.isSome) = true) (hl : keys.length = values.length) (h0 : keys ≠ [])
  (h15 : keys.length ≤ 15) : PE X (.Dict keys values pos) (tDisp trs) := by
 intro pins s σ H Q I q
 have hn := I.hok.fresh (Nat.le_refl s.heap.objs.size)
 have I1 := I.laid (a := s.heap.objs.size) (o := .dK []) (h' := s.heap.push { cls := .type "dict", data := .dict #[] }) (t' := s.toks) (fun _ _ q => Heap.get?_push_of_some _ q) (Nat.le_refl _) (dk_empty s.heap I.big)
 (refine wpAny_Dict_walk (knd := mixKind X.prog X.w) hall hl h0 h15 (thn (h pins _ σ _ _ I1 (q _ hn)) ?_); rintro ws s2 ⟨ps, H2, I2, rel, e, kvs, ep, lk, q2⟩)
 subst ep
 obtain ⟨rs, c, rk⟩ := carries_of (P := X.prog) (w := X.w) rel
 obtain ⟨z, hd, vs0, r0, dd⟩ := dk_of I2.hok e
 cases r0
 refine ⟨rs, c, dd, fun h' dd' hs => ⟨.ref s.heap.objs.size, _, ?_, rfl, q2⟩⟩
 have hz : (mergeK [] kvs).length ≤ sizeLine := by
  have h1 := length_mergeK kvs []
  rw [List.length_nil] at h1
  rw [sizeLine_eq]; omega
 have he : ∃ q, h'.get? s.heap.objs.size = some q := let ⟨q, _, _, hq, _⟩ := dd'; ⟨q, hq⟩
 exact d_write I2 (by rw [e]; exact True.intro) hs he (dk_new hz hd (rk.merge .nil) dd')
structure M1 (X : Cx) (o : Expr) (m : Str) (apos : Pos) (e : Expr) (cpos : Pos) : Prop where
 base : attributeBase o m X.env (eval o X.env) = eval o X.env
 few : ((backTo cpos (starEach [e] X.env)).all (fun x => !x.1) && (backToKw cpos (keywordEach [] X.env)).all (fun x => x.1.isSome)
  && decide (([e] : List Expr).length + ([] : List Keyword).length + (if ([] : List Keyword).isEmpty then 0 else 1) < 30)) = true
 line : (apos.endLine == cpos.line) = true
 trees : backTo cpos (starEach [e] X.env) = [(false, eval e X.env)]
structure M2 (X : Cx) (o : Expr) (m : Str) (apos : Pos) (e f : Expr) (cpos : Pos) : Prop where
 base : attributeBase o m X.env (eval o X.env) = eval o X.env
 few : ((backTo cpos (starEach [e, f] X.env)).all (fun x => !x.1) && (backToKw cpos (keywordEach [] X.env)).all (fun x => x.1.isSome)
  && decide (([e, f] : List Expr).length + ([] : List Keyword).length + (if ([] : List Keyword).isEmpty then 0 else 1) < 30)) = true
 line : (apos.endLine == cpos.line) = true
 trees : backTo cpos (starEach [e, f] X.env) = [(false, eval e X.env), (false, eval f X.env)]
section
variable {X : Cx} {pins : List (Addr × Obj)} {σ : St} {H : Hp} {s : Shared} {a : Addr} {y d : V} {u r : Value} {o : Option V} {A : Around} {E : Value → Shared → Prop}
end
section
variable {X : Cx} {o e f : Expr} {apos cpos : Pos} {td ty tx : TE}
end
section
variable {X : Cx} {pins : List (Addr × Obj)} {σ : St} {H : Hp} {s : Shared} {a : Addr} {kvs : List (Key × V)} {A : Around} {E : Value → Shared → Prop}
end
section
variable {X : Cx} {pins : List (Addr × Obj)} {σ : St} {H : Hp} {s : Shared} {a : Addr} {y : V} {u : Value} {A : Around} {E : Value → Shared → Prop}
end
end L2
namespace HT
open PySem PyProof.Rows
noncomputable def lexLt : List Int → List Int → Bool
 | [], [] => false
 | [], _ :: _ => true
 | _ :: _, [] => false
 | x :: xs, y :: ys => if x = y then lexLt xs ys else decide (x < y)
theorem lexLt_cons (x y : Int) (xs ys : List Int) : lexLt (x :: xs) (y :: ys) = if x = y then lexLt xs ys else decide (x < y) := rfl
theorem lexLt_nil_nil : lexLt [] [] = false := rfl
theorem lexLt_nil_cons (y : Int) (ys : List Int) : lexLt [] (y :: ys) = true := rfl
theorem lexLt_cons_nil (x : Int) (xs : List Int) : lexLt (x :: xs) [] = false := rfl
theorem eqAt_int (A : Around) (s : Shared) (a : Int) (t : Tok) (c : Int) (u : Tok) : ∃ e, SeqAt.EqAt A s (.int a t) (.int c u) e ∧ (e = true ↔ a = c) :=
 ⟨(a == c), SeqAt.EqAt.int_int a t c u, by simp⟩
theorem rcLt_int (A : Around) (s : Shared) (a : Int) (t : Tok) (c : Int) (u : Tok) (prog : Program) (w : World) (E : Value → Shared → Prop) (Q : Value → Shared → Prop) (h : Q (.bool (decide (a < c))) s) :
  wpAny (model prog w) A (richCompare .Lt (.int a t) (.int c u)) Q E s :=
 (PyProof.Rows.lt_int h : wpAny (model prog w) A (compareOp .Lt (.int a t) (.int c u)) Q E s)
section
open PySem.SeqAt
open PySem.AutoSeq1 (wpAny_loadPart')
open PySem.MeetsSeq PySem.MeetsSeq2 PySem.MeetsSeq3
theorem tuple_lt_ints (l b : Addr) (items items2 : Array Value) (n n2 : Nat) (dd dd2 : Option Addr) (sl sl2 : Array (Option Value)) (ns ms : List Int) (hi : IntsAre items.toList ns) (hj : IntsAre items2.toList ms) :
  Meets (Builtin.«tuple.__lt__» ⟨[.ref l, .ref b], []⟩)
   (fun _ R s => s.heap.get? l = some { cls := .type "tuple", dict := dd, data := .seq items n, slots := sl } ∧ s.heap.get? b = some { cls := .type "tuple", dict := dd2, data := .seq items2 n2, slots := sl2 } ∧
    R (.ok (.ret (.bool (lexLt ns ms)))) s) :=
 .of_wp fun prog w A R s h => by
  obtain ⟨hp, g, d, tk, os⟩ := s; obtain ⟨hl, hb, h⟩ := h
  have f2 := AutoSeq1.sub_tuple_tuple
  have z1 : items.size = ns.length := by rw [← hi.length]; simp
  have z2 : items2.size = ms.length := by rw [← hj.length]; simp
  wp_walk using wpAny_loadPart' hl, wpAny_loadPart' hb, wpAny_forIn_list _ (fun rest b s' => b.1 = none ∧ s' = ⟨hp, g, d, tk, os⟩ ∧ ∃ (vs ws : List Value) (ns' ms' : List Int), rest = vs.zip ws ∧
   IntsAre vs ns' ∧ IntsAre ws ms' ∧ ns'.length + items2.size = ms'.length + items.size ∧ R (.ok (.ret (.bool (lexLt ns' ms')))) ⟨hp, g, d, tk, os⟩) _
  case turn =>
   rintro ⟨y, x⟩ rest b s' ⟨hb', rfl, vs, ws, ns', ms', hz, hvi, hwi, hlen, hR⟩
   cases hvi with
   | nil => rw [List.zip_nil_left] at hz; cases hz
   | cons a t hvi' =>
    cases hwi with
    | nil => rw [List.zip_nil_right] at hz; cases hz
    | cons c u hwi' =>
     rw [List.zip_cons_cons] at hz
     injection hz with hyx hrest
     injection hyx with hy hx
     subst hy hx
     rw [lexLt_cons] at hR
     simp only [List.length_cons] at hlen
     obtain ⟨e, he, hiff⟩ := eqAt_int A.in1 ⟨hp, g, d, tk, os⟩ a t c u
     refine wpAny_bind (he prog w _ _ ?_)
     cases e with
     | true =>
      rw [if_pos (hiff.mp rfl)] at hR
      wp_walk
      exact ⟨rfl, rfl, _, _, _, _, hrest, hvi', hwi', by omega, hR⟩
     | false =>
      rw [if_neg (fun q => absurd (hiff.mpr q) Bool.false_ne_true)] at hR
      have hri := rcLt_int A.in1 ⟨hp, g, d, tk, os⟩ a t c u prog w
      wp_walk using hri
      exact ⟨_, rfl, by simpa using hR⟩
  case fin =>
   rintro ⟨b1, b2⟩ s' ⟨hb', rfl, vs, ws, ns', ms', hz, hvi, hwi, hlen, hR⟩
   simp only at hb'
   subst hb'
   have hv : lexLt ns' ms' = decide (items.size < items2.size) := by
    cases hvi with
    | nil =>
     cases hwi with
     | nil =>
      simp only [List.length_nil] at hlen
      rw [lexLt_nil_nil]
      exact (decide_eq_false (by omega)).symm
     | cons c u hw =>
      simp only [List.length_nil, List.length_cons] at hlen
      rw [lexLt_nil_cons]
      exact (decide_eq_true (by omega)).symm
    | cons a t hv =>
     cases hwi with
     | nil =>
      simp only [List.length_nil, List.length_cons] at hlen
      rw [lexLt_cons_nil]
      exact (decide_eq_false (by omega)).symm
     | cons c u hw =>
      rw [List.zip_cons_cons] at hz
      cases hz
   rw [hv] at hR
   wp_walk
   exact ⟨_, rfl, by simpa [Builtin.Tuple.tupleCompareSizes] using hR⟩
  case h =>
   exact ⟨rfl, rfl, items.toList, items2.toList, ns, ms, rfl, hi, hj, by omega, h⟩
end
section
variable {prog : Program} {w : World} {A : Around} {E : Value → Shared → Prop} {s : Shared}
theorem lt_tupInts {l b : Addr} {items items2 : Array Value} {ns ms : List Int} {Q : Value → Shared → Prop} (hl : IsTup s.heap l items) (hb : IsTup s.heap b items2) (hi : IntsAre items.toList ns) (hj : IntsAre items2.toList ms)
  (hu : A.units < cLine) (h : Q (.bool (lexLt ns ms)) s) : wpAny (model prog w) A (compareOp .Lt (.ref l) (.ref b)) Q E s := by
 obtain ⟨⟨cls, dd, data, sl⟩, ho, hc, n, hd⟩ := id hl
 obtain ⟨⟨cls2, dd2, data2, sl2⟩, ho2, hc2, n2, hd2⟩ := id hb
 simp only at hc hd hc2 hd2
 subst hc hd hc2 hd2
 exact richCompare_meets_room (op := .Lt) ⟨_, ho, rfl⟩ ⟨_, ho2, rfl⟩ PySem.F.slot_tuple_lt PySem.F.entry_tuple_lt (PySem.F.args_tuple_lt_2 _ _) (tuple_lt_ints l b items items2 n n2 dd dd2 sl sl2 ns ms hi hj)
  ⟨ho, ho2, show Value.bool (lexLt ns ms) ≠ Value.notImplemented ∧ Q (.bool (lexLt ns ms)) s from ⟨(fun x => nomatch x), h⟩⟩ hu
theorem cat_tup {t b : Addr} {vs ws : List Value} {Q : Value → Shared → Prop} (ht : IsTup s.heap t vs.toArray) (hb : IsTup s.heap b ws.toArray) (hv : vs ≠ [])
  (h1 : ws = [] → Q (.ref t) s) (h2 : ws ≠ [] → Q (.ref s.heap.objs.size) { s with heap := s.heap.push { cls := .type "tuple", data := .seq (vs ++ ws).toArray } })
  (hsz : vs.length + ws.length ≤ sizeLine) : wpAny (model prog w) A (binaryOp .Add (.ref t) (.ref b)) Q E s := by
 obtain ⟨⟨cls, dd, data, sl⟩, ho, hc, n, hd⟩ := id ht
 obtain ⟨⟨cls2, dd2, data2, sl2⟩, ho2, hc2, n2, hd2⟩ := id hb
 simp only at hc hd hc2 hd2
 subst hc hd hc2 hd2
 have e : vs.toArray ++ ws.toArray = (vs ++ ws).toArray := by simp
 by_cases hw : ws = []
 ·exact concat_meets ⟨_, ho, rfl⟩ ⟨_, ho2, rfl⟩ noFill_tuple_add seq_tuple_add PySem.F.slot_tuple_add PySem.F.entry_tuple_add (PySem.F.args_tuple_add_2 _ _)
   (tuple_addW1 t b vs.toArray ws.toArray n n2 dd dd2 sl sl2 (by simpa using hv) (by simp [hw])) ⟨ho, ho2, h1 hw⟩
 ·refine concat_meets ⟨_, ho, rfl⟩ ⟨_, ho2, rfl⟩ noFill_tuple_add seq_tuple_add PySem.F.slot_tuple_add PySem.F.entry_tuple_add (PySem.F.args_tuple_add_2 _ _)
   (tuple_addW2 t b vs.toArray ws.toArray n n2 dd dd2 sl sl2 (by simpa using hv) (by simpa using hw) (by rw [List.size_toArray, List.size_toArray]; exact hsz)) ⟨ho, ho2, ?_⟩
  rw [e]
  exact h2 hw
noncomputable def sIx (n d : Nat) : Option Int → Nat
 | none => d
 | some v => if v < 0 then (v + (n : Int)).toNat else min v.toNat n
end
end HT
namespace L2
open PySem PySem.Spec PyProof.Rows
noncomputable abbrev TO := St → Hp → (Option Int → Hp → Prop) → Prop
theorem intsAre_of {ns : List Int} : ∀ {us : List Value}, Vals (ns.map V.int) us → IntsAre us ns := by
 induction ns with
 | nil => intro us r; rw [List.map_nil] at r; cases r; exact .nil
 | cons n ns ih =>
  intro us r
  rw [List.map_cons] at r
  cases r with
  | cons r1 r2 =>
   obtain ⟨t, e⟩ := r1
   subst e
   exact .cons n t (ih r2)
section
variable {X : Cx} {e : Expr} {te : TE} {lo hi : Option Expr} {tl th : TO} {pos p2 : Pos}
def SlR (X : Cx) (r : V → Option Int → Option Int → Hp → VK → Prop) : Prop :=
 ∀ (pins : List (Addr × Obj)) (s : Shared) (σ : St) (H : Hp) (x : V) (v vl vu : Value) (lo hi : Option Int) (sl : Addr) (Q : VK), Inv X pins σ H s → RelV x v → s.heap.IsSliceOf sl vl vu .none → IsPart vl lo → IsPart vu hi → r x lo hi H Q →
  ∃ T id, typeLookup (.type T) "__getitem__" = pure (some (.builtin id)) ∧ s.TypeIs v T ∧ wpAny (model X.prog X.w) X.A (getItem v (.ref sl)) (EP X pins σ Q) X.xe s
theorem SlR.or {r r' : V → Option Int → Option Int → Hp → VK → Prop} (h : SlR X r) (h' : SlR X r') : SlR X (fun x lo hi H Q => r x lo hi H Q ∨ r' x lo hi H Q) := by
 intro pins s σ H x v vl vu lo hi sl Q I rx hs pl pu q
 rcases q with q | q
 ·exact h pins s σ H x v vl vu lo hi sl Q I rx hs pl pu q
 ·exact h' pins s σ H x v vl vu lo hi sl Q I rx hs pl pu q
noncomputable def cutV (xs : List V) (lo hi : Option Int) : List V := (xs.drop (HT.sIx xs.length 0 lo)).take (HT.sIx xs.length xs.length hi - HT.sIx xs.length 0 lo)
theorem cutV_length (xs : List V) (lo hi : Option Int) : (cutV xs lo hi).length ≤ xs.length := by
 unfold cutV
 rw [List.length_take, List.length_drop]
 omega
def rCatT (K : PySem.W.Frag) : R2 := fun x y H Q => ∃ a b xs ys, x = .ref a ∧ y = .ref b ∧ SqT K H a xs ∧ SqT K H b ys ∧ xs ≠ [] ∧ xs.length + ys.length ≤ sizeLine ∧
 (ys = [] → Q (.ref a) H) ∧ (ys ≠ [] → ∀ p, H p = none → Q (.ref p) (upd H p (.tup (xs ++ ys))))
theorem Vals.nil_iff {xs : List V} {us : List Value} (r : Vals xs us) : us = [] ↔ xs = [] := by
 cases r with
 | nil => simp
 | cons _ _ => simp
theorem op_catT : OpR X (binaryOp .Add) (rCatT X.K) := by
 intro pins s σ H x y v u Q I rx ry h
 obtain ⟨a, b, xs, ys, rfl, rfl, ha, hb, hx, hz, q1, q2⟩ := h
 cases rx
 cases ry
 obtain ⟨its, r1, p1, _⟩ := I.tuple ha
 obtain ⟨its2, r2, p2, _⟩ := I.tuple hb
 refine HT.cat_tup p1 p2 (fun z => hx (r1.nil_iff.mp z)) (fun z => ⟨.ref a, H, I, rfl, q1 (r2.nil_iff.mp z)⟩) (fun z => ?_) (by rw [← r1.length, ← r2.length]; exact hz)
 refine ⟨.ref s.heap.objs.size, _, I.laid (t' := s.toks) (o := .tup (xs ++ ys)) (fun b ob q => Heap.get?_push_of_some _ q) (Nat.le_refl _) ?_, rfl, q2 (fun w => z (r2.nil_iff.mpr w)) _ (I.hok.fresh (Nat.le_refl _))⟩
 exact ⟨by rw [List.length_append]; exact hz, _, r1.append r2, TupD.new _ _⟩
end
end L2
namespace L2
open PySem PySem.Spec PyProof.Rows
noncomputable def ixN (n : Nat) (i : Int) : Option Nat := if 0 ≤ i then (if i < n then some i.toNat else none) else if -(n : Int) ≤ i then some (i + n).toNat else none
noncomputable def atI {α : Type} (xs : List α) (i : Int) : Option α := (ixN xs.length i).bind fun j => xs[j]?
theorem ixN_seq {n : Nat} {i : Int} {j : Nat} (h : ixN n i = some j) : seqIndex? i n = some j ∧ j < n ∧ -(n : Int) ≤ i ∧ i < n := by
 unfold ixN at h
 by_cases h0 : 0 ≤ i
 ·rw [if_pos h0] at h
  by_cases h1 : i < n
  ·rw [if_pos h1] at h
   have e : i.toNat = j := Option.some.inj h
   exact ⟨by rw [seqIndex_of h0 h1, e], by omega, by omega, h1⟩
  ·rw [if_neg h1] at h; cases h
 ·rw [if_neg h0] at h
  by_cases h1 : -(n : Int) ≤ i
  ·rw [if_pos h1] at h
   have e : (i + n).toNat = j := Option.some.inj h
   exact ⟨by rw [seqIndex_neg (by omega) h1, e], by omega, h1, by omega⟩
  ·rw [if_neg h1] at h; cases h
theorem atI_get {α : Type} {xs : List α} {i : Int} {v : α} (h : atI xs i = some v) : ∃ j, seqIndex? i xs.length = some j ∧ xs[j]? = some v ∧ j < xs.length ∧ -(xs.length : Int) ≤ i ∧ i < xs.length := by
 unfold atI at h
 cases e : ixN xs.length i with
 | none => rw [e] at h; cases h
 | some j =>
  rw [e] at h
  obtain ⟨h1, h2, h3, h4⟩ := ixN_seq e
  exact ⟨j, h1, h, h2, h3, h4⟩
theorem atI_nat {α : Type} {xs : List α} {j : Nat} {v : α} (h : xs[j]? = some v) : atI xs (j : Int) = some v := by
 have hj : j < xs.length := (List.getElem?_eq_some_iff.mp h).1
 have e : ixN xs.length (j : Int) = some j := by
  unfold ixN
  rw [if_pos (by omega), if_pos (by omega)]; simp
 unfold atI; rw [e]; exact h
def PlainIx (b : Expr) : Prop := ∀ o i, subscripted b false o i = operate [o, i] (getItem o i)
def IxR (X : Cx) (r : R2) : Prop :=
 ∀ (value slice : Expr) (pins : List (Addr × Obj)) (s : Shared) (σ : St) (H : Hp) (x y : V) (v u : Value) (Q : VK), Inv X pins σ H s → RelV x v → RelV y u → r x y H Q →
  subscripted slice false v u = operate [v, u] (getItem v u) → wpAny (model X.prog X.w) X.A (subscriptTail value slice v u) (EP X pins σ Q) X.xe s
def MtR (X : Cx) (id : String) (r : V → List V → Hp → VK → Prop) : Prop :=
 ∀ (pins : List (Addr × Obj)) (s : Shared) (σ : St) (H : Hp) (x : V) (xs : List V) (v : Value) (us : List Value) (Q : VK), Inv X pins σ H s → RelV x v → Vals xs us → r x xs H Q →
  wpAny (model X.prog X.w) X.A (call (.builtin id) (v :: us)) (EP X pins σ Q) X.xe s
section
variable {X : Cx} {a b : Expr} {ta tb : TE} {pos : Pos}
theorem IxR.or {r r' : R2} (h : IxR X r) (h' : IxR X r') : IxR X (fun x y H Q => r x y H Q ∨ r' x y H Q) := by
 intro value slice pins s σ H x y v u Q I rx ry q hs
 rcases q with q | q
 ·exact h value slice pins s σ H x y v u Q I rx ry q hs
 ·exact h' value slice pins s σ H x y v u Q I rx ry q hs
theorem MtR.or {id : String} {r r' : V → List V → Hp → VK → Prop} (h : MtR X id r) (h' : MtR X id r') : MtR X id (fun x xs H Q => r x xs H Q ∨ r' x xs H Q) := by
 intro pins s σ H x xs v us Q I rx rs q
 rcases q with q | q
 ·exact h pins s σ H x xs v us Q I rx rs q
 ·exact h' pins s σ H x xs v us Q I rx rs q
theorem pe_ix {r : R2} (hr : IxR X r) (ha : PE X a ta) (hb : PE X b tb) (hs : PlainIx b) : PE X (.Subscript a b pos) (tOp r ta tb) := by
 intro pins s σ H Q I h
 exact Subscript_ (binT ha hb I h fun v u s2 x y H2 I2 rx ry q => hr a b pins s2 σ H2 x y v u Q I2 rx ry q (hs _ _))
def rIxL (K : PySem.W.Frag) : R2 := fun x y H Q => ∃ p xs i v, x = .ref p ∧ y = .int i ∧ SqL K H p xs ∧ atI xs i = some v ∧ Q v H
def rIxT (K : PySem.W.Frag) : R2 := fun x y H Q => ∃ p xs i v, x = .ref p ∧ y = .int i ∧ SqT K H p xs ∧ atI xs i = some v ∧ Q v H
def rIxS : R2 := fun x y H Q => ∃ z i c, x = .str z ∧ y = .int i ∧ z.length ≤ sizeLine ∧ atI z.cps.toList i = some c ∧ Q (.str ⟨#[c]⟩) H
theorem ix_list : IxR X (rIxL X.K) := by
 intro value slice pins s σ H x y v u Q I rx ry h hs
 obtain ⟨p, xs, i, z, rfl, rfl, hq, he, q⟩ := h
 cases rx
 obtain ⟨t, rfl⟩ := ry
 obtain ⟨its, r, pl, hz⟩ := I.list hq
 obtain ⟨j, h1, h2, h3, h4, h5⟩ := atI_get he
 obtain ⟨w, ew, rw'⟩ := r.get h2
 have hl := r.length
 have hn := line63
 have fin : EP X pins σ Q w s := ⟨z, H, I, rw', q⟩
 by_cases h0 : 0 ≤ i
 ·have hj : i.toNat = j := by
   rw [seqIndex_of h0 h5] at h1
   exact Option.some.inj h1
  exact item_listR pl.isList h0 (by omega) (by rw [hj]; simpa using ew) fin hs
 ·have hj : (i + (its.toArray.size : Int)).toNat = j := by
   rw [seqIndex_neg (by omega) h4] at h1
   rw [List.size_toArray, ← hl]
   exact Option.some.inj h1
  exact subscriptTail_builtinR (x := w) pl.isList.typeIs slot_list_getitem.lookup
   (wpAny_getItem_list_neg (Q := fun r s' => r = w ∧ EP X pins σ Q r s') pl.isList (by omega) (by rw [List.size_toArray] <;> omega) (by omega) (by rw [hj]; simpa using ew) ⟨rfl, fin⟩) hs
theorem ix_tup : IxR X (rIxT X.K) := by
 intro value slice pins s σ H x y v u Q I rx ry h hs
 obtain ⟨p, xs, i, z, rfl, rfl, hq, he, q⟩ := h
 cases rx
 obtain ⟨t, rfl⟩ := ry
 obtain ⟨its, r, pl, hz⟩ := I.tuple hq
 obtain ⟨j, h1, h2, h3, h4, h5⟩ := atI_get he
 obtain ⟨w, ew, rw'⟩ := r.get h2
 have hl := r.length
 have hn := line63
 have fin : EP X pins σ Q w s := ⟨z, H, I, rw', q⟩
 exact subscriptTail_builtinR (x := w) pl.typeIs slot_tuple_getitem.lookup
  (getItem_tuple (j := j) (Q := fun r s' => r = w ∧ EP X pins σ Q r s') pl (by omega) (by omega) (by rw [List.size_toArray, ← hl]; exact h1) (by simpa using ew) ⟨rfl, fin⟩) hs
theorem ix_str : IxR X rIxS := by
 intro value slice pins s σ H x y v u Q I rx ry h hs
 obtain ⟨z, i, c, rfl, rfl, hz, he, q⟩ := h
 obtain ⟨t, rfl⟩ := rx
 obtain ⟨t', rfl⟩ := ry
 obtain ⟨j, h1, h2, h3, h4, h5⟩ := atI_get he
 have hl : z.cps.toList.length = z.length := by simp [Str.length]
 rw [hl] at h1 h4 h5
 have hn := line63
 exact tail_any (typeIs_str s z t) slot_str_getitem.lookup (getItem_str (c := c) (by
  have e1 : decide (i < -(2 ^ 63 : Int)) = false := decide_eq_false (by omega)
  have e2 : decide (i ≥ 2 ^ 63) = false := decide_eq_false (by omega)
  rw [e1, e2, Bool.or_false]) (by rw [h1]; simpa using h2) ⟨.str ⟨#[c]⟩, H, I.tok _, ⟨_, rfl⟩, q⟩) hs
def rIx (K : PySem.W.Frag) : R2 := fun x y H Q => rIxL K x y H Q ∨ rIxT K x y H Q ∨ rIxS x y H Q
theorem ix_seq : IxR X (rIx X.K) := ix_list.or (ix_tup.or ix_str)
theorem mapSeq_set (its : List Value) (n j : Nat) (u : Value) : Obj.mapSeq (·.setIfInBounds j u) { cls := .type "list", data := .seq its.toArray n } = { cls := .type "list", data := .seq (its.set j u).toArray n } := by
 simp [Obj.mapSeq]
theorem Inv.lst {pins : List (Addr × Obj)} {σ : St} {H : Hp} {s : Shared} {p : Addr} {xs : List V} (I : Inv X pins σ H s) (h : H p = some (.lst xs)) :
  ∃ (its : List Value) (n : Nat), Vals xs its ∧ s.heap.get? p = some { cls := .type "list", data := .seq its.toArray n } ∧ xs.length ≤ sizeLine := by
 obtain ⟨z, its, n, r, e⟩ := I.hok p _ h
 exact ⟨its, n, r, e, z⟩
theorem Inv.lstUpd {pins : List (Addr × Obj)} {σ : St} {H : Hp} {s : Shared} {p : Addr} {xs ys : List V} {its its' : List Value} {n n' : Nat} {f : Obj → Obj} (I : Inv X pins σ H s) (h : H p = some (.lst xs))
  (ho : s.heap.get? p = some { cls := .type "list", data := .seq its.toArray n }) (hf : f { cls := .type "list", data := .seq its.toArray n } = { cls := .type "list", data := .seq its'.toArray n' }) (r : Vals ys its') (hz : ys.length ≤ sizeLine) (t : Nat) :
  Inv X pins σ (upd H p (.lst ys)) { s with heap := s.heap.update p f, toks := t } := by
 have e : (s.heap.update p f).get? p = some { cls := .type "list", data := .seq its'.toArray n' } := by
  rw [Heap.get?_update_self f ho (by rw [hf] <;> rfl), hf]
 refine I.write (x := p) (e := p) (by rw [h]; trivial) (.inl rfl) (fun b u hb q => (Heap.get?_update_other _ _ (Ne.symm hb)).trans q) ⟨_, e⟩ ?_
 exact ⟨hz, its', n', r, e⟩
def rSetL : V → V → V → Hp → (Hp → Prop) → Prop := fun o i v H Q => ∃ p xs k j, o = .ref p ∧ i = .int k ∧ H p = some (.lst xs) ∧ ixN xs.length k = some j ∧ Q (upd H p (.lst (xs.set j v)))
theorem set_list : PSet X rSetL := by
 intro pins s σ H o i v ov iv u Q I ro ri rv h
 obtain ⟨p, xs, k, j, rfl, rfl, hp, hj, q⟩ := h
 cases ro
 obtain ⟨t, rfl⟩ := ri
 obtain ⟨its, n, r, ho, hz⟩ := I.lst hp
 obtain ⟨h1, h2, h3, h4⟩ := ixN_seq hj
 have hl := r.length
 have hn := line63
 have I' : Inv X pins σ (upd H p (.lst (xs.set j v))) { s with heap := s.heap.update p (Obj.mapSeq (·.setIfInBounds j u)) } :=
  I.lstUpd hp ho (mapSeq_set its n j u) (r.set rv j) (by rw [List.length_set]; exact hz) s.toks
 by_cases h0 : 0 ≤ k
 ·have hk : k.toNat = j := by
   rw [seqIndex_of h0 h4] at h1
   exact Option.some.inj h1
  exact PySem.W.ki_setAt ho h0 (by omega) (by rw [List.size_toArray, ← hl]; exact h4) (by rw [hk]; exact ⟨_, I', q⟩)
 ·have hk : (k + (its.toArray.size : Int)).toNat = j := by
   rw [seqIndex_neg (by omega) h3] at h1
   rw [List.size_toArray, ← hl]
   exact Option.some.inj h1
  exact PySem.W.ki_setBack ho (by omega) (by rw [List.size_toArray, ← hl]; exact h3) (by omega) (by rw [hk]; exact ⟨_, I', q⟩)
theorem slice_bounds (lo hi : Option Int) (n : Nat) : (sliceBounds lo hi none n).1 = ((HT.sIx n 0 lo : Nat) : Int) ∧ (sliceBounds lo hi none n).2.1 = ((HT.sIx n n hi : Nat) : Int) ∧ (sliceBounds lo hi none n).2.2 = 1 := by
 refine ⟨?_, ?_, rfl⟩
 ·cases lo with
  | none => simp [sliceBounds, HT.sIx]
  | some i =>
   simp only [sliceBounds, HT.sIx, Option.getD_none, show (1 : Int) > 0 by decide, if_true]
   by_cases h : i < 0
   ·simp only [h, if_true] <;> omega
   ·simp only [h, if_false] <;> omega
 ·cases hi with
  | none => simp [sliceBounds, HT.sIx]
  | some i =>
   simp only [sliceBounds, HT.sIx, Option.getD_none, show (1 : Int) > 0 by decide, if_true]
   by_cases h : i < 0
   ·simp only [h, if_true] <;> omega
   ·simp only [h, if_false] <;> omega
theorem slicePick_cut (its : List Value) (lo hi : Option Int) : slicePick its.toArray lo hi none = ((its.drop (HT.sIx its.length 0 lo)).take (HT.sIx its.length its.length hi - HT.sIx its.length 0 lo)).toArray := by
 obtain ⟨h1, h2, h3⟩ := slice_bounds lo hi its.toArray.size
 unfold slicePick
 rw [h1, h2, h3]
 simp only [sliceRange_one, pick_run, List.size_toArray] <;> rfl
def rSlL (K : PySem.W.Frag) : V → Option Int → Option Int → Hp → VK → Prop := fun x lo hi H Q => ∃ a xs, x = .ref a ∧ SqL K H a xs ∧ ∀ p, H p = none → Q (.ref p) (upd H p (.lst (cutV xs lo hi)))
theorem sl_list : SlR X (rSlL X.K) := by
 intro pins s σ H x v vl vu lo hi sl Q I rx hs pl pu h
 obtain ⟨a, xs, rfl, hx, q⟩ := h
 cases rx
 obtain ⟨its, r, ht, hz⟩ := I.list hx
 have hlen := r.length
 refine ⟨"list", _, slot_list_getitem.lookup, ht.isList.typeIs, ?_⟩
 refine wpAny_getItem_list_slice ht.isList hs pl pu .none (by simp) ?_ (by rw [List.size_toArray] <;> omega)
 rw [slicePick_cut, ← hlen]
 refine ⟨.ref s.heap.objs.size, _, I.laid (t' := s.toks) (o := .lst (cutV xs lo hi)) (fun b ob q => Heap.get?_push_of_some _ q) (Nat.le_refl _) ?_, rfl, q _ (I.hok.fresh (Nat.le_refl _))⟩
 exact ⟨Nat.le_trans (cutV_length xs lo hi) hz, _, 0, (r.drop (HT.sIx xs.length 0 lo)).take (HT.sIx xs.length xs.length hi - HT.sIx xs.length 0 lo), Heap.get?_push_size _ rfl⟩
noncomputable def flatV : V → Bool
 | .non => true
 | .bl _ => true
 | .int _ => true
 | .str _ => true
 | _ => false
noncomputable def eqV : V → V → Bool
 | .non, .non => true
 | .bl a, .bl b => a == b
 | .bl a, .int b => (if a then 1 else 0) == b
 | .int a, .bl b => a == (if b then 1 else 0)
 | .int a, .int b => a == b
 | .str a, .str b => a == b
 | _, _ => false
theorem eqAt_V {A : Around} {s : Shared} {y x : V} {u v : Value} (ry : RelV y u) (rx : RelV x v) (fy : flatV y = true) (fx : flatV x = true) : SeqAt.EqAt A s u v (eqV y x) := by
 cases y with
 | non =>
  cases ry
  cases x with
  | non => cases rx; exact SeqAt.EqAt.same _
  | bl b => cases rx; exact SeqAt.EqAt.none_bool b
  | int b => obtain ⟨t, rfl⟩ := rx; exact SeqAt.EqAt.none_int b t
  | str b => obtain ⟨t, rfl⟩ := rx; exact SeqAt.EqAt.none_str b t
  | _ => exact absurd (show false = true from fx) Bool.false_ne_true
 | bl a =>
  cases ry
  cases x with
  | non => cases rx; exact SeqAt.EqAt.bool_none a
  | bl b => cases rx; exact SeqAt.EqAt.bool_bool a b
  | int b => obtain ⟨t, rfl⟩ := rx; exact SeqAt.EqAt.bool_int a b t
  | str b => obtain ⟨t, rfl⟩ := rx; exact SeqAt.EqAt.bool_str a b t
  | _ => exact absurd (show false = true from fx) Bool.false_ne_true
 | int a =>
  obtain ⟨t', rfl⟩ := ry
  cases x with
  | non => cases rx; exact SeqAt.EqAt.int_none a t'
  | bl b => cases rx; exact SeqAt.EqAt.int_bool a t' b
  | int b => obtain ⟨t, rfl⟩ := rx; exact SeqAt.EqAt.int_int a t' b t
  | str b => obtain ⟨t, rfl⟩ := rx; exact SeqAt.EqAt.int_str a t' b t
  | _ => exact absurd (show false = true from fx) Bool.false_ne_true
 | str a =>
  obtain ⟨t', rfl⟩ := ry
  cases x with
  | non => cases rx; exact SeqAt.EqAt.str_none a t'
  | bl b => cases rx; exact SeqAt.EqAt.str_bool a t' b
  | int b => obtain ⟨t, rfl⟩ := rx; exact SeqAt.EqAt.str_int a t' b t
  | str b => obtain ⟨t, rfl⟩ := rx; exact SeqAt.EqAt.str_str a t' b t
  | _ => exact absurd (show false = true from fx) Bool.false_ne_true
 | _ => exact absurd (show false = true from fy) Bool.false_ne_true
theorem call_len_seq : CallR X (.builtin "len") (fun xs H Q => ∃ p ys, xs = [.ref p] ∧ (SqL X.K H p ys ∨ SqT X.K H p ys) ∧ Q (.int ys.length) H) := by
 intro pins s σ H xs us Q I r h
 obtain ⟨p, ys, rfl, hq, q⟩ := h
 obtain ⟨u, rfl, rx⟩ := vals1 r
 cases rx
 have hn := line63
 rcases hq with hq | hq
 ·obtain ⟨its, r', pl, hz⟩ := I.list hq
  have hlen := r'.length
  exact Calls.call_len_list pl.isList (by simp only [List.size_toArray] <;> omega) ⟨.int ys.length, H, I.tok _, ⟨s.toks + 1, by rw [List.size_toArray, hlen]⟩, q⟩
 ·obtain ⟨its, r', pl, hz⟩ := I.tuple hq
  have hlen := r'.length
  exact len_tuple pl (by simp only [List.size_toArray] <;> omega) ⟨.int ys.length, H, I.tok _, ⟨s.toks + 1, by rw [List.size_toArray, hlen]⟩, q⟩
theorem call_len_str : CallR X (.builtin "len") (fun xs H Q => ∃ z, xs = [.str z] ∧ z.length ≤ sizeLine ∧ Q (.int z.length) H) := by
 intro pins s σ H xs us Q I r h
 obtain ⟨z, rfl, hz, q⟩ := h
 obtain ⟨u, rfl, t, rfl⟩ := vals1 r
 have hn := line63
 exact len_str (by omega) ⟨.int z.length, H, I.tok _, ⟨_, rfl⟩, q⟩
theorem CallR.or {f : Value} {r r' : List V → Hp → VK → Prop} (h : CallR X f r) (h' : CallR X f r') : CallR X f (fun xs H Q => r xs H Q ∨ r' xs H Q) := by
 intro pins s σ H xs us Q I rs q
 rcases q with q | q
 ·exact h pins s σ H xs us Q I rs q
 ·exact h' pins s σ H xs us Q I rs q
theorem call_list_of : CallR X (.type "list") (fun xs H Q => ∃ p ys, xs = [.ref p] ∧ (SqL X.K H p ys ∨ SqT X.K H p ys) ∧ ∀ l, H l = none → Q (.ref l) (upd H l (.lst ys))) := by
 intro pins s σ H xs us Q I r h
 obtain ⟨p, ys, rfl, hq, q⟩ := h
 obtain ⟨u, rfl, rx⟩ := vals1 r
 cases rx
 have fin : ∀ (its : List Value), Vals ys its → ys.length ≤ sizeLine → ∀ (h' : Heap) (c' : Nat), (∀ b o', s.heap.get? b = some o' → h'.get? b = some o') →
   h'.get? s.heap.objs.size = some { cls := .type "list", dict := none, data := .seq its.toArray c', slots := #[] } → EP X pins σ Q (.ref s.heap.objs.size) { s with heap := h' } := fun its r' hz h' c' kp e =>
  ⟨.ref s.heap.objs.size, _, I.laid (t' := s.toks) kp (Nat.le_refl _) (show ObjOk X.prog X.w _ h' _ (.lst ys) from ⟨hz, its, c', r', e⟩), rfl, q _ (I.hok.fresh (Nat.le_refl _))⟩
 rcases hq with hq | hq
 ·obtain ⟨its, r', pl, hz⟩ := I.list hq
  have hlen := r'.length
  obtain ⟨o, ho, hc, n, hd⟩ := pl.isList
  exact call_list_seq p (.inl rfl) ho hc hd (fun h' c' kp e => fin its r' hz h' c' kp e) (by simp only [List.size_toArray] <;> omega)
 ·obtain ⟨its, r', pl, hz⟩ := I.tuple hq
  have hlen := r'.length
  obtain ⟨o, ho, hc, n, hd⟩ := pl
  exact call_list_seq p (.inr rfl) ho hc hd (fun h' c' kp e => fin its r' hz h' c' kp e) (by simp only [List.size_toArray] <;> omega)
def tyV (K : PySem.W.Frag) (T : String) (x : V) (H : Hp) : Prop := match x with
 | .str _ => T = "str"
 | .int _ => T = "int"
 | .ref p => (T = "list" ∧ ∃ xs, SqL K H p xs) ∨ (T = "tuple" ∧ ∃ o, K.lookup p = some o ∧ o.cls = .type "tuple" ∧ o.dict = none) ∨
   (T = "dict" ∧ ((∃ kvs, H p = some (.dK kvs)) ∨ ∃ kvs, H p = some (.dT kvs))) ∨ (T = "set" ∧ ∃ S n, H p = some (.set S n))
 | _ => False
theorem tyV_is {pins : List (Addr × Obj)} {σ : St} {H : Hp} {s : Shared} {T : String} {x : V} {v : Value} (I : Inv X pins σ H s) (r : RelV x v) (ty : tyV X.K T x H) :
  s.TypeIs v T ∧ ∀ a, v = .ref a → ∃ ob, s.heap.get? a = some ob ∧ ob.dict = none := by
 cases x with
 | str z =>
  obtain ⟨t, rfl⟩ := r
  cases (show T = "str" from ty)
  exact ⟨typeIs_str s z t, fun _ e => nomatch e⟩
 | int i =>
  obtain ⟨t, rfl⟩ := r
  cases (show T = "int" from ty)
  exact ⟨typeIs_int s i t, fun _ e => nomatch e⟩
 | ref p =>
  cases r
  rcases ty with ⟨rfl, xs, hq⟩ | ⟨rfl, o, hk, hc, hd⟩ | ⟨rfl, hk⟩ | ⟨rfl, S, n, hk⟩
  ·obtain ⟨its, _, pl, _⟩ := I.list hq
   refine ⟨pl.isList.typeIs, fun a e => ?_⟩
   cases e
   obtain ⟨o, n, e, c, hd, _⟩ := pl
   exact ⟨o, e, hd⟩
  ·refine ⟨⟨o, I.kIn p o hk, hc⟩, fun a e => ?_⟩
   cases e
   exact ⟨o, I.kIn _ o hk, hd⟩
  ·have z : ∃ o, s.heap.get? p = some o ∧ o.ExactDict := by
    rcases hk with ⟨kvs, hk⟩ | ⟨kvs, hk⟩
    ·obtain ⟨_, _, _, _, o, _, _, e, ex, _⟩ := I.hok p _ hk
     exact ⟨o, e, ex⟩
    ·obtain ⟨_, _, _, _, o, _, _, e, ex, _⟩ := I.hok p _ hk
     exact ⟨o, e, ex⟩
   obtain ⟨o, e, ex⟩ := z
   refine ⟨⟨o, e, ex.1⟩, fun a e2 => ?_⟩
   cases e2
   exact ⟨o, e, ex.2.1⟩
  ·obtain ⟨o, _, _, _, e, ex, _⟩ := I.hok p _ hk
   refine ⟨⟨o, e, ex.1⟩, fun a e2 => ?_⟩
   cases e2
   exact ⟨o, e, ex.2.1⟩
 | _ => exact False.elim ty
def tBM0 (K : PySem.W.Frag) (T : String) (r : V → List V → Hp → VK → Prop) (to : TE) : TE := fun σ H Q => to σ H fun x H1 => tyV K T x H1 ∧ r x [] H1 Q
def tBM (K : PySem.W.Frag) (T : String) (r : V → List V → Hp → VK → Prop) (to : TE) (t : TA) : TE := fun σ H Q => to σ H fun x H1 => tyV K T x H1 ∧ t σ H1 fun xs H2 => r x xs H2 Q
variable {o e : Expr} {es : List Expr} {to : TE} {t : TA} {name : Str} {apos cpos : Pos} {T id : String} {r : V → List V → Hp → VK → Prop}
theorem pe_bm0 (pa : PlainAttrs T) (slot : Slot T name id) (hty : typeOf (.builtin id) = pure (.type "method_descriptor")) (hm : MtR X id r) (ho : PE X o to)
  (hbase : attributeBase o name X.env (eval o X.env) = eval o X.env := by rfl) (hline : (apos.endLine == cpos.line) = true := by rfl) : PE X (.Call (.Attribute o name apos) [] [] cpos) (tBM0 X.K T r to) := by
 intro pins s σ H Q I h
 (refine wpAny_Call_method0_late hbase hline (thn (ho pins s σ H _ I h) ?_); rintro v s1 ⟨x, H1, I1, r1, ty, q1⟩)
 obtain ⟨h1, h2⟩ := tyV_is I1 r1 ty
 exact ⟨T, id, pa, slot, hty, h1, h2, Calls.callWith_builtin rfl (PySem.evalArgs_none (hm pins s1 σ H1 x [] v [] Q I1 r1 .nil q1))⟩
theorem pe_bm (pa : PlainAttrs T) (slot : Slot T name id) (hty : typeOf (.builtin id) = pure (.type "method_descriptor")) (hm : MtR X id r) (ho : PE X o to) (ha : PA X (e :: es) t)
  (hbase : attributeBase o name X.env (eval o X.env) = eval o X.env := by rfl)
  (hfew : ((backTo cpos (starEach (e :: es) X.env)).all (fun x => !x.1) && (backToKw cpos (keywordEach [] X.env)).all (fun x => x.1.isSome)
   && decide ((e :: es).length + ([] : List Keyword).length + (if ([] : List Keyword).isEmpty then 0 else 1) < 30)) = true := by rfl)
  (hline : (apos.endLine == cpos.line) = true := by rfl) (hs : starEach (e :: es) X.env = (false, eval e X.env) :: starEach es X.env := by rfl) (hplain : (backTo cpos (starEach es X.env)).any (·.1) = false := by rfl) :
  PE X (.Call (.Attribute o name apos) (e :: es) [] cpos) (tBM X.K T r to t) := by
 intro pins s σ H Q I h
 (refine wpAny_Call_method_late hbase hfew hline rfl (thn (ho pins s σ H _ I h) ?_); rintro v s1 ⟨x, H1, I1, r1, ty, q1⟩)
 obtain ⟨h1, h2⟩ := tyV_is I1 r1 ty
 refine ⟨T, id, pa, slot, hty, h1, h2, ?_⟩
 have hA := ha cpos pins s1 σ H1 _ I1 q1
 rw [hs] at hA ⊢
 refine Calls.callWith_builtin (by show (false || (backTo cpos (starEach es X.env)).any (·.1)) = false; rw [hplain] <;> rfl) (Calls.evalArgs_plain ?_)
 (refine thn hA ?_; rintro us s2 ⟨vs, H2, I2, r2, q2⟩; exact hm pins s2 σ H2 x vs v us Q I2 r1 r2 q2)
/- xs.append(e), list.index on a module's tuple .. are MtR facts of 06m -/
end
end L2
namespace L2
open PySem PySem.Spec PyProof.Rows
def MtM (X : Cx) (id : String) (r : V → List V → Hp → VK → Prop) : Prop :=
 ∀ (pins : List (Addr × Obj)) (s : Shared) (σ : St) (H : Hp) (x : V) (xs : List V) (v : Value) (us : List Value) (Q : VK), Inv X pins σ H s → RelV x v → Vals xs us → r x xs H Q →
  wpAny (model X.prog X.w) X.A (call (.builtin id) (v :: us)) (EP X pins σ Q) X.xe s
theorem Vals.one : ∀ {x : V} {us : List Value}, Vals [x] us → ∃ u, us = [u] ∧ RelV x u
 | _, _, .cons r .nil => ⟨_, rfl, r⟩
theorem Vals.two : ∀ {x y : V} {us : List Value}, Vals [x, y] us → ∃ u v, us = [u, v] ∧ RelV x u ∧ RelV y v
 | _, _, _, .cons r (.cons q .nil) => ⟨_, _, rfl, r, q⟩
theorem Vals.zero : ∀ {us : List Value}, Vals [] us → us = []
 | _, .nil => rfl
theorem Vals.dropLast {xs : List V} {us : List Value} (h : Vals xs us) : Vals xs.dropLast us.dropLast := by
 induction h with
 | nil => exact .nil
 | cons r t ih =>
  cases t with
  | nil => exact .nil
  | cons q t' => exact .cons r ih
theorem Vals.reverse {xs : List V} {us : List Value} (h : Vals xs us) : Vals xs.reverse us.reverse := by
 induction h with
 | nil => exact .nil
 | cons r t ih => rw [List.reverse_cons, List.reverse_cons]; exact Vals.append ih (.cons r .nil)
theorem Vals.rep {xs : List V} {us : List Value} (h : Vals xs us) : ∀ k : Nat, Vals (List.replicate k xs).flatten (List.replicate k us).flatten
 | 0 => .nil
 | k + 1 => by
  rw [List.replicate_succ, List.replicate_succ, List.flatten_cons, List.flatten_cons]
  exact Vals.append h (Vals.rep h k)
theorem erase_last {α : Type} (l : List α) : l.eraseIdx (l.length - 1) = l.dropLast := by
 induction l with
 | nil => rfl
 | cons a r ih =>
  cases r with
  | nil => rfl
  | cons b r =>
   have e : (a :: b :: r).length - 1 = ((b :: r).length - 1) + 1 := by
    have h1 : (a :: b :: r).length = r.length + 2 := rfl
    have h2 : (b :: r).length = r.length + 1 := rfl
    omega
   rw [e, List.eraseIdx_cons_succ, ih]
   all_goals rfl
theorem foldl_rep (its : List Value) : ∀ (k : Nat) (acc : List Value),
  List.foldl (fun x1 x2 => x1 ++ x2) acc.toArray (List.replicate k its.toArray) = (acc ++ (List.replicate k its).flatten).toArray
 | 0, acc => by simp
 | k + 1, acc => by
  have e : acc.toArray ++ its.toArray = (acc ++ its).toArray := by simp
  have e2 : (acc ++ its) ++ (List.replicate k its).flatten = acc ++ (List.replicate (k + 1) its).flatten := by
   rw [List.replicate_succ, List.flatten_cons, List.append_assoc]
  rw [← e2, ← foldl_rep its k (acc ++ its), ← e, List.replicate_succ, List.foldl_cons]
section
variable {X : Cx} {pins : List (Addr × Obj)} {σ : St} {H : Hp} {s : Shared} {l b : Addr} {xs ys zs : List V}
theorem Inv.lset {its its' : List Value} {n : Nat} {f : Array Value → Array Value} {t' : Nat} (I : Inv X pins σ H s) (hH : H l = some (.lst xs))
  (e : s.heap.get? l = some { cls := .type "list", data := .seq its.toArray n }) (hf : f its.toArray = its'.toArray) (hv : Vals ys its') (hz : ys.length ≤ sizeLine) :
  Inv X pins σ (upd H l (.lst ys)) { s with heap := s.heap.update l (Obj.mapSeq f), toks := t' } := by
 have q := PySem.IsL.update e f
 rw [hf] at q
 refine I.write (x := l) (e := l) (by rw [hH]; exact trivial) (.inl rfl) (fun b' u hb hu => (Heap.get?_update_other s.heap (Obj.mapSeq f) (Ne.symm hb)).trans hu) ⟨_, q⟩ ?_
 exact ⟨hz, its', _, hv, q⟩
theorem Inv.lnew {its : List Value} {t' : Nat} (I : Inv X pins σ H s) (hv : Vals ys its) (hz : ys.length ≤ sizeLine) :
  Inv X pins σ (upd H s.heap.objs.size (.lst ys)) { s with heap := s.heap.push { cls := .type "list", data := .seq its.toArray }, toks := t' } :=
 I.laid (fun _ _ q => Heap.get?_push_of_some _ q) (Nat.le_refl _) ⟨hz, its, 0, hv, Heap.get?_push_size _ rfl⟩
theorem Inv.fresh (I : Inv X pins σ H s) : H s.heap.objs.size = none := I.hok.fresh (Nat.le_refl _)
theorem Inv.lstM (I : Inv X pins σ H s) (hH : H l = some (.lst xs)) : xs.length ≤ sizeLine ∧ ∃ (its : List Value) (n : Nat), Vals xs its ∧ xs.length = its.length ∧ s.heap.get? l = some { cls := .type "list", data := .seq its.toArray n } := by
 obtain ⟨z, its, n, r, e⟩ := I.hok l _ hH
 exact ⟨z, its, n, r, r.length, e⟩
theorem notLongL {n : Nat} (h : n ≤ sizeLine) : Builtin.List.listTooLong n = false := by
 unfold Builtin.List.listTooLong
 exact decide_eq_false (by omega)
end
section
variable {X : Cx}
def rAppend : V → List V → Hp → VK → Prop := fun x vs H Q => ∃ l xs y, x = .ref l ∧ vs = [y] ∧ H l = some (.lst xs) ∧ xs.length < sizeLine ∧ Q .non (upd H l (.lst (xs ++ [y])))
theorem mt_append : MtM X "list.append" rAppend := by
 intro pins s σ H x vs v us Q I rx rv h
 obtain ⟨l, xs, y, rfl, rfl, hH, hz, q⟩ := h
 cases rx
 obtain ⟨u, rfl, ru⟩ := rv.one
 obtain ⟨z, its, n, r, hl, e⟩ := I.lstM hH
 refine call_meets F.slot_list_append ⟨_, e, rfl⟩ F.entry_list_append (F.args_list_append_2 _ _) (PySem.list_append l its.toArray n u (by rw [List.size_toArray]; omega)) ⟨e, ?_⟩
 refine ⟨.non, _, I.lset (its' := its ++ [u]) hH e (by simp) (r.append (.cons ru .nil)) ?_, rfl, q⟩
 rw [List.length_append, List.length_singleton]
 omega
def rExtend : V → List V → Hp → VK → Prop := fun x vs H Q => ∃ l b xs zs, x = .ref l ∧ vs = [.ref b] ∧ H l = some (.lst xs) ∧ H b = some (.lst zs) ∧ xs.length + zs.length ≤ sizeLine ∧ Q .non (upd H l (.lst (xs ++ zs)))
theorem mt_extend : MtM X "list.extend" rExtend := by
 intro pins s σ H x vs v us Q I rx rv h
 obtain ⟨l, b, xs, zs, rfl, rfl, hH, hB, hz, q⟩ := h
 cases rx
 obtain ⟨u, rfl, ru⟩ := rv.one
 cases ru
 obtain ⟨z, its, n, r, hl, e⟩ := I.lstM hH
 obtain ⟨z2, its2, n2, r2, hl2, e2⟩ := I.lstM hB
 have hsz : its.toArray.size + its2.toArray.size ≤ sizeLine := by rw [List.size_toArray, List.size_toArray]; omega
 have hlong : ¬ (!its.toArray.isEmpty && Builtin.List.listTooLong (its.toArray.size + its2.toArray.size)) = true := by
  rw [notLongL hsz, Bool.and_false]
  exact Bool.false_ne_true
 refine call_meets F.slot_list_extend ⟨_, e, rfl⟩ F.entry_list_extend (F.args_list_extend_2 _ _)
  (AutoSeq1.list_extend_list_list_0 l its.toArray n b its2.toArray n2 hlong (by rw [List.size_toArray]; omega) (by omega)) ⟨e, e2, ?_⟩
 refine ⟨.non, _, I.lset (its' := its ++ its2) hH e (by simp) (r.append r2) ?_, rfl, q⟩
 rw [List.length_append]
 omega
def rPop : V → List V → Hp → VK → Prop := fun x vs H Q => ∃ l xs y, x = .ref l ∧ vs = [] ∧ H l = some (.lst xs) ∧ xs[xs.length - 1]? = some y ∧ Q y (upd H l (.lst xs.dropLast))
theorem mt_pop : MtM X "list.pop" rPop := by
 intro pins s σ H x vs v us Q I rx rv h
 obtain ⟨l, xs, y, rfl, rfl, hH, hy, q⟩ := h
 cases rx
 have hus := rv.zero
 subst hus
 obtain ⟨z, its, n, r, hl, e⟩ := I.lstM hH
 obtain ⟨u, hu, ru⟩ := r.get hy
 have hy' : its.toArray[its.toArray.size - 1]? = some u := by
  show its.toArray[its.length - 1]? = some u
  rw [← Array.getElem?_toList, ← hl]
  exact hu
 refine call_meets F.slot_list_pop ⟨_, e, rfl⟩ F.entry_list_pop (F.args_list_pop_1 _) (MeetsSeq.list_pop_last l its.toArray n u hy' (by rw [List.size_toArray]; omega)) ⟨e, ?_⟩
 refine ⟨y, _, I.lset (its' := its.dropLast) hH e ?_ r.dropLast ?_, ru, q⟩
 ·show its.toArray.eraseIdxIfInBounds (its.toArray.size - 1) = its.dropLast.toArray
  rw [List.size_toArray, List.eraseIdxIfInBounds_toArray, erase_last]
 ·rw [List.length_dropLast]
  omega
def rCat : R2 := fun x y H Q => ∃ l b xs zs, x = .ref l ∧ y = .ref b ∧ H l = some (.lst xs) ∧ H b = some (.lst zs) ∧ xs.length + zs.length ≤ sizeLine ∧ ∀ p, H p = none → Q (.ref p) (upd H p (.lst (xs ++ zs)))
theorem op_cat : OpR X (binaryOp .Add) rCat := by
 intro pins s σ H x y v u Q I rx ry h
 obtain ⟨l, b, xs, zs, rfl, rfl, hH, hB, hz, q⟩ := h
 cases rx
 cases ry
 obtain ⟨z, its, n, r, hl, e⟩ := I.lstM hH
 obtain ⟨z2, its2, n2, r2, hl2, e2⟩ := I.lstM hB
 refine PySem.P.add_list e e2 ?_ (by rw [List.size_toArray, List.size_toArray]; omega)
 have ea : its.toArray ++ its2.toArray = (its ++ its2).toArray := by simp
 rw [ea]
 exact ⟨.ref _, _, I.lnew (t' := s.toks) (r.append r2) (by rw [List.length_append]; omega), rfl, q _ I.fresh⟩
def rRep : R2 := fun x y H Q => ∃ l k xs, x = .ref l ∧ y = .int k ∧ H l = some (.lst xs) ∧ -(2 ^ 63) ≤ k ∧ k < 2 ^ 63 ∧ xs.length * k.toNat ≤ sizeLine ∧
 ∀ p, H p = none → Q (.ref p) (upd H p (.lst (List.replicate k.toNat xs).flatten))
theorem len_rep {α : Type} (xs : List α) (k : Nat) : (List.replicate k xs).flatten.length = k * xs.length := by
 induction k with
 | zero => simp
 | succ k ih => rw [List.replicate_succ, List.flatten_cons, List.length_append, ih, Nat.succ_mul, Nat.add_comm]
theorem op_rep : OpR X (binaryOp .Mult) rRep := by
 intro pins s σ H x y v u Q I rx ry h
 obtain ⟨l, k, xs, rfl, rfl, hH, h1, h2, hz, q⟩ := h
 cases rx
 obtain ⟨t, rfl⟩ := ry
 obtain ⟨z, its, n, r, hl, e⟩ := I.lstM hH
 have hlen : its.toArray.size * k.toNat ≤ sizeLine := by rw [List.size_toArray, ← hl]; exact hz
 have hcap : ¬ its.toArray.size * k.toNat > (2 ^ 63 - 1) / 8 := by
  have : (sizeLine : Nat) ≤ (2 ^ 63 - 1) / 8 := by decide
  omega
 have hfit : ¬ (!Builtin.List.listFitsIndex k) = true := by
  rw [fitsIndex_both h1 h2]
  exact Bool.false_ne_true
 have hlong : ¬ Builtin.List.listTooLong (its.toArray.size * k.toNat) = true := by
  rw [notLongL hlen]
  exact Bool.false_ne_true
 have hnew : List.foldl (fun x1 x2 => x1 ++ x2) #[] (List.replicate (if its.toArray.isEmpty = true then 0 else k.toNat) its.toArray) = (List.replicate k.toNat its).flatten.toArray := by
  have f0 : ∀ m : Nat, List.foldl (fun x1 x2 => x1 ++ x2) #[] (List.replicate m its.toArray) = (List.replicate m its).flatten.toArray := fun m => by
   have := foldl_rep its m []
   rw [List.nil_append] at this
   exact this
  rw [f0]
  cases its with
  | nil => simp
  | cons a r' => rw [if_neg (by simp)]
 refine wpAny_binaryOp_repeat_ref (T := "list") (U := "int") (by decide) ⟨_, e, rfl⟩ (fun s' => typeIs_int s' k t) noFill_list_mul F.fills_int_mul F.slot_int_rmul repeat_list F.slot_int_index.lookup
  (call_meets F.slot_int_rmul (typeIs_int s k t) F.entry_int_rmul (F.args_int_rmul_2 _ _) (int___rmul___int_list k t l its.toArray n)
   ⟨e, rfl, ⟨_, e, rfl⟩, call_meets F.slot_list_mul ⟨_, e, rfl⟩ F.entry_list_mul (F.args_list_mul_2 _ _) (AutoListH.list___mul___list_int_3 l its.toArray n k t hfit hcap hlong) ⟨e, ?_⟩⟩)
 rw [hnew]
 exact ⟨.ref _, _, I.lnew (t' := s.toks) (r.rep k.toNat) (by rw [len_rep, Nat.mul_comm]; exact hz), rfl, q _ I.fresh⟩
end
section
variable {prog : Program} {w : World} {A : Around} {E : Value → Shared → Prop} {s : Shared}
end
section
variable {X : Cx}
end
end L2
namespace Att
open PySem PySem.W PySem.Calls PyProof.Rows
theorem ints_of_wellAll {P : Params} {h : Heap} : ∀ (ns : List Int) (vs : List Value), WellAll P h vs (ns.map WData.int) → IntsAre vs ns := by
 intro ns
 induction ns with
 | nil =>
  intro vs w
  rw [List.map_nil] at w
  cases w
  exact .nil
 | cons n ns ih =>
  intro vs w
  rw [List.map_cons] at w
  cases w with
  | cons a b =>
   cases a
   exact .cons _ _ (ih _ b)
theorem script_of {l : OpenLaw} {n : Nat} (hn : l.most = some n) {P : Params} {h : Heap} {args : List WData} {vals : List Value}
  (hpre : l.row.toRowW.claim.pre args = true) (hwl : WellAll P h vals args) :
  ∃ a vs ns, vals = [Value.ref a] ∧ args = [WData.list (ns.map WData.int)] ∧ h.get? a = some { cls := .type "list", data := .seq vs.toArray } ∧ IntsAre vs ns ∧ ns.length ≤ n := by
 have hsh : WShape.hasAll [] args [.list .int] = true := (pre_splitW hpre).1
 have hc : l.pre.holds [] { args := args } = true := (pre_splitW hpre).2
 obtain ⟨d, r, rfl, h1, h2⟩ := hasAllW_cons hsh
 obtain rfl := hasAllW_nil h2
 obtain ⟨xs, rfl, h3⟩ := hasW_list h1
 obtain ⟨ns, rfl⟩ := items_int h3
 have hlen : ns.length ≤ n := by
  unfold OpenLaw.pre at hc
  have h4 : (WTm.not (.lt (.lit (.int (n : Int))) (.len (.arg 0)))).holds [] { args := [.list (ns.map .int)] } = true := by
   have h4 := (holds_andW hc).1
   rw [hn] at h4
   exact h4
  have h5 := condW_of h4 (w_not (w_lt w_lit (w_len_list (w_arg rfl))))
  rw [List.length_map] at h5
  refine Nat.le_of_not_lt fun q => ?_
  have q' : (n : Int) < ((ns.length : Nat) : Int) := by omega
  first
   | (rw [decide_eq_true q'] at h5; exact absurd h5 (by decide))
   | (simp at h5; omega)
 cases hwl with
 | cons w1 w2 =>
  cases w2
  cases w1 with
  | list ho hall => exact ⟨_, _, ns, rfl, rfl, ho, ints_of_wellAll ns _ hall, hlen⟩
theorem post_true (l : OpenLaw) (args : List WData) : l.row.toRowW.claim.post args (.bool true) args = true :=
 postW_of (r := l.row.toRowW) (X := (true == true))
  (show WShape.has [] (.bool true) .bool = true by first | rfl | decide | simp [WShape.has, WShape.arms, WShape.armsAll])
  (show (WTm.eq .res (.lit (.bool true))).value [] { args := args, res := some (.bool true), after := args } = some (.bool (true == true)) from w_eq_bool (w_res rfl) w_lit) rfl
theorem attach_call {l : OpenLaw} {n : Nat} {q : Program} {loose : List Str} {XP : (Str → Option Value) → Heap → Prop} {YP : World → Heap → Prop} {d : DefRec}
  (hn : l.most = some n) (hdf : d.params.defaults = [])
  (call : ∀ (w : World) (s₀ s₁ : Shared) (mg mb : Str → Option Value) (fa : Addr) (o : Obj) (pm cd doc : Value) (a : Addr) (vs : List Value) (ns : List Int),
   Ground q loose [] XP w s₀ mg mb s₁.heap → YP w s₁.heap →
   s₁.heap.get? fa = some o → o.data = .func (docDef d.name d.params d.body d.scope pm cd doc) → s₁.heap.CodeRec cd d.name → mg d.name = some (.ref fa) →
   s₁.heap.get? a = some { cls := .type "list", data := .seq vs.toArray } → IntsAre vs ns → ns.length ≤ n → s₁.gens = #[] →
   codeAny (model l.prog w) callerA (.call (.ref fa) ⟨[.ref a], []⟩) (fun r s' => r = .ok (.ret (.bool true)) ∧ OldK s₁.heap s'.heap ∧ s'.os = s₁.os ∧ AllBare s'.gens) s₁) :
  WalkO q loose XP YP l.row.toRowW d [] (fun f vs => PySem.call f vs) := by
 intro w s₀ s₁ mg mb G Y fa o pm cd doc dV kV ho hd hcd hD hmg hg args vals as hpre hlay hrd hwl hlo
 obtain rfl : dV = .none := Dflts.none hD hdf
 obtain rfl : kV = .none := Dflts.noKw hD
 obtain ⟨a, vs, ns, rfl, rfl, hobj, hints, hlen⟩ := script_of hn hpre hwl
 refine enter_call (codeAny_mono (call w s₀ s₁ mg mb fa o pm cd doc a vs ns G Y ho (fd_plain hd) hcd hmg hobj hints hlen hg) fun r s' hq => ?_)
 obtain ⟨rfl, h2, h3, h4⟩ := hq
 exact ⟨.inl ⟨.bool true, .bool true, [], rfl, fun _ => rfl, .bool true, post_true l _, fun _ => ⟨List.Pairwise.nil, fun _ hm => (nomatch hm)⟩⟩, h2, h3, h4⟩
section
variable {prog : Program} {w : World} {A : Around} {E : Value → Shared → Prop} {s : Shared} {K : Frag}
end
end Att
namespace L2
open PySem PySem.Spec PyProof.Rows
theorem vals_ints : ∀ {vs : List Value} {ns : List Int}, IntsAre vs ns → Vals (ns.map V.int) vs
 | _, _, .nil => .nil
 | _, _, .cons n t h => .cons ⟨t, rfl⟩ (vals_ints h)
def Only (H : Hp) : Prop := ∀ b, H b = none ∨ ∃ o xs, H b = some (.frz o (.lst xs))
theorem law_call {P : Program} {w : World} {K : PySem.W.Frag} {mg mb : Str → Option Value} {CX : CXT} {k : Nat} {fa a : Addr} {fd : FuncData} {x : Str} {sp : Sp} {s₁ : Shared} {vs : List Value} {ns : List Int}
  (KX : K.In s₁.heap) (hns : s₁.heap.Ns mainGlobals mg) (hb : s₁.heap.Ns builtinsNs mb) (hbb : ∀ x : Str, x ≠ "__name__" → mb x = bootBuiltins x) (hlim : s₁.heap.NoLimit) (hg : s₁.gens = #[])
  (ha : s₁.heap.get? a = some { cls := .type "list", data := .seq vs.toArray }) (hi : IntsAre vs ns) (hl : ns.length ≤ sizeLine) (hr : Room k callerA)
  (F : ∀ base : Heap, K.In base → base.Ns mainGlobals mg → FnOk P w K mg base CX k fa fd [x] sp) (hbind : ∀ (s : Shared) (u : Value), BindsTo s fd ⟨[u], []⟩ [(x, u)])
  (hsp : ∀ H : Hp, Only H → SqL K H a (ns.map V.int) → sp [.ref a] H (fun v _ => v = .bl true) fun _ _ _ => False)
  (hCX : ∀ H e s', CX [] H s₁ (fun _ _ _ => False) e s' → False) :
  codeAny (model P w) callerA (.call (.ref fa) ⟨[.ref a], []⟩) (fun r s' => r = .ok (.ret (.bool true)) ∧ OldK s₁.heap s'.heap ∧ s'.os = s₁.os ∧ AllBare s'.gens) s₁ := by
 have rv := vals_ints hi
 have lenV := hi.length
 have core : ∀ H : Hp, Only H → SqL K H a (ns.map V.int) → HOk P w H s₁.heap → (∀ b, H b ≠ none → b = a) → (H a ≠ none → K.lookup a = none) →
   codeAny (model P w) callerA (.call (.ref fa) ⟨[.ref a], []⟩) (fun r s' => r = .ok (.ret (.bool true)) ∧ OldK s₁.heap s'.heap ∧ s'.os = s₁.os ∧ AllBare s'.gens) s₁ := by
  intro H hO hS hok hA hK
  have base_of : ∀ {b : Addr} {o : Obj}, s₁.heap.get? b = some o → H b = none → (hidT s₁.heap H).get? b = some o := fun e n => hidT_get e n
  have noA : ∀ {b : Addr} {o : Obj} {es : Array DictEntry} {ep : Nat}, s₁.heap.get? b = some o → o.data = .dict es ep → H b = none := fun {b o es ep} e d => by
   cases q : H b with
   | none => rfl
   | some u =>
    have e' : b = a := hA b (by rw [q]; simp)
    subst e'
    rw [ha] at e; cases e
    have d' : Data.seq vs.toArray _ = Data.dict es ep := d
    cases d'
  have nsK : ∀ {b : Addr} {m : Str → Option Value}, s₁.heap.Ns b m → (hidT s₁.heap H).Ns b m := fun {b m} ⟨o, es, ep, e, d, r⟩ => ⟨o, es, ep, base_of e (noA e d), d, r⟩
  have hKb : K.In (hidT s₁.heap H) := fun b o e => base_of (KX b o e) (by
   cases q : H b with
   | none => rfl
   | some u =>
    have e' : b = a := hA b (by rw [q]; simp)
    subst e'
    rw [hK (by rw [q]; simp)] at e; cases e)
  have hM : Mod K mg (hidT s₁.heap H) := ⟨hKb, nsK hns, ⟨mb, nsK hb, hbb⟩, let ⟨mc, h1, h2⟩ := hlim; ⟨mc, nsK h1, h2⟩⟩
  have e0 : Env0 P w K mg (hidT s₁.heap H) callerA [] s₁ H := ⟨rfl, hM, fun b o e => of_hidT e, Nat.le_of_eq (hidT_size _ _), trivial, fun b hb => absurd (show b ∈ ([] : List Addr) from hb) (by simp), hok, .of_eq hg⟩
  refine codeAny_mono ((F _ hKb (nsK hns)).run callerA [] s₁ H ⟨[.ref a], []⟩ [.ref a] [.ref a] _ _ hr e0 (hbind s₁ (.ref a)) (.cons rfl .nil) (hsp H hO hS)) fun r s' h => ?_
  cases r with
  | error e => exact (hCX H e s' h).elim
  | ok fl =>
   cases fl with
   | next => exact False.elim h
   | brk => exact False.elim h
   | cont => exact False.elim h
   | ret u =>
    obtain ⟨v, H', os, bare, un, hok', r', q⟩ := h
    have q' : v = .bl true := q
    subst q'
    obtain rfl : u = Value.bool true := r'
    refine ⟨rfl, OldK.of_keep fun b o e => ?_, os, bare⟩
    cases q : H b with
    | none => exact un.keep b o e q (by intro z; exact absurd (show b ∈ ([] : List Addr) from z) (by simp)) (by simp)
    | some u =>
     rcases hO b with z | ⟨ob, xs, z⟩
     ·rw [q] at z; cases z
     ·have z2 := un.frzs b ob _ z
      obtain ⟨e1, _⟩ := hok b _ z
      obtain ⟨e2, _⟩ := hok' b _ z2
      rw [e] at e1; cases e1
      exact e2
 cases hk : K.lookup a with
 | some o =>
  have e := KX a o hk
  rw [ha] at e
  cases e
  refine core (fun _ => none) (fun _ => .inl rfl) (.inr ⟨_, vs.toArray, _, hk, rfl, rfl, rfl, by rw [List.size_toArray, lenV]; exact hl, by simpa using rv⟩) (fun b u z => by have z' : (none : Option HO) = some u := z; cases z') (fun b z => absurd rfl z) fun z => absurd rfl z
 | none =>
  refine core (fun b => if b = a then some (.frz { cls := .type "list", data := .seq vs.toArray } (.lst (ns.map V.int))) else none) (fun b => ?_) (.inl (.inr ⟨{ cls := .type "list", data := .seq vs.toArray }, if_pos rfl⟩)) (fun b u z => ?_) (fun b z => ?_) fun _ => hk
  ·by_cases hb : b = a
   ·exact .inr ⟨_, _, if_pos hb⟩
   ·exact .inl (if_neg hb)
  ·by_cases hb : b = a
   ·have z' := (if_pos hb).symm.trans z
    cases z'
    subst hb
    exact ⟨ha, by rw [List.length_map]; exact hl, vs, _, rv, ha⟩
   ·have z' := (if_neg hb).symm.trans z
    cases z'
  ·by_cases hb : b = a
   ·exact hb
   ·exact absurd (if_neg hb) z
end L2
namespace L2
open PySem PySem.Spec PyProof.Rows
theorem walk_of {l : PySem.W.OpenLaw} {n k : Nat} {q : Program} {loose : List Str} {XP : (Str → Option Value) → Heap → Prop} {YP : World → Heap → Prop} {d : DefRec} {K : Params → PySem.W.Frag} {CX : World → CXT} {sp : World → Sp} {x : Str}
  (hn : l.most = some n) (hn2 : n ≤ sizeLine) (hdf : d.params.defaults = []) (hr : Room k callerA)
  (hY : ∀ (w : World) (h : Heap), YP w h → (K w.params).In h)
  (F : ∀ (w : World) (mg : Str → Option Value) (fa : Addr) (h : Heap), (K w.params).In h → h.Ns mainGlobals mg → mg d.name = some (.ref fa) →
   ∃ fd : FuncData, (∀ (s : Shared) (u : Value), BindsTo s fd ⟨[u], []⟩ [(x, u)]) ∧
    ∀ base : Heap, (K w.params).In base → base.Ns mainGlobals mg → FnOk l.prog w (K w.params) mg base (CX w) k fa fd [x] (sp w))
  (hsp : ∀ (w : World) (H : Hp) (a : Addr) (ns : List Int), ns.length ≤ n → Only H → SqL (K w.params) H a (ns.map V.int) → sp w [.ref a] H (fun v _ => v = .bl true) fun _ _ _ => False)
  (hCX : ∀ (w : World) (H : Hp) (s : Shared) (e : Value) (s' : Shared), CX w [] H s (fun _ _ _ => False) e s' → False) :
  PySem.W.WalkO q loose XP YP l.row.toRowW d [] (fun f vs => PySem.call f vs) := by
 refine Att.attach_call hn hdf fun w s₀ s₁ mg mb fa o pm cd doc a vs ns G Y ho hd hcd hmg hobj hints hlen hg => ?_
 have KX := hY w _ Y
 obtain ⟨fd, hb, hF⟩ := F w mg fa _ KX G.T.g hmg
 exact law_call KX G.T.g G.T.b G.T.builtins G.T.nolimit hg hobj hints (Nat.le_trans hlen hn2) hr hF hb (fun H hO hS => hsp w H a ns hlen hO hS) fun H e s' => hCX w H s₁ e s'
end L2
/- THE LAST THEOREM (shape; LID, My.* are yours):
   My.Adr: a structure of the addresses that your layer names (classes, functions); My.Txt K t: a structure (Prop) of the equations over K;
   My.txt_mk : {K} {implicit addresses ..} (e1 : nsIn K mainGlobals "law" = some (some (.ref f))) (e2 : K.lookup f = some ⟨oc, od, .func (fnOf "law" "law" params body scope dV kV doc pm an cdv ct), sl⟩) (e3 : codeIn K cdv "law" = true) .. : ∃ t, My.Txt K t
set_option maxHeartbeats 0 in
theorem PySem.Challenge.cw_LID_holds : PySem.Challenge.rw_LID.Holds := by
 w_on; o_law; k_head; (case hw => w_witness2)
 k_fill
 refine L2.walk_of (l := PySem.Challenge.rw_LID) (n := 63) (k := 40) (x := "script") (CX := fun w => ..) (sp := fun _ => My.sp_law) rfl (by decide) rfl ⟨rfl, by decide, by decide⟩ (fun w h Y => PySem.W.kIn_of Y) ?F ?S ?C
 case F =>
  intro w mg fa h KX G hmg
  have T : ∃ t, My.Txt (L2.KOf KX) t := by
   dsimp only [L2.KOf]                          -- K must stand as «<heap const> w.params» for k_is
   refine' My.txt_mk ?e1 ?e2 ?e3 ..
   (case e1 => PySem.W.k_is)                    -- in the order: a name -> its address -> its object -> its parts
   (case e2 => PySem.W.k_is)
   ..
  obtain ⟨t, T⟩ := T
  have e0 := hmg.symm.trans (PySem.W.mg_of KX G T.law)
  cases e0                                       -- fa is the law's own address
  exact ⟨_, fun s u => .of_eq rfl, fun base kb nb => My.law_fn T kb nb⟩     -- if «.of_eq rfl» comes too early: refine' ⟨_, ?b, fun base kb nb => My.law_fn T kb nb⟩; exact fun s u => .of_eq rfl
 case S => exact fun w H a ns hl hO hS => ..
 case C => exact ..
(the tactic k_is has no namespace: write k_is) -/
namespace L2
open PySem PySem.Spec PyProof.Rows
noncomputable def defArgs (s : Stmt) : Arguments := match s with
 | .FunctionDef _ a _ _ _ _ _ _ _ _ => a
 | _ => { posonlyargs := [], args := [], vararg := none, kwonlyargs := [], kw_defaults := [], kwarg := none, defaults := [] }
noncomputable def defBody (s : Stmt) : List Stmt := match s with
 | .FunctionDef _ _ b _ _ _ _ _ _ _ => b
 | _ => []
noncomputable def defScope (s : Stmt) : Scope := match s with
 | .FunctionDef _ _ _ _ _ _ sc _ _ _ => sc
 | _ => { kind := .function, names := [], isGenerator := false, isCoroutine := false }
noncomputable abbrev CX0 : CXT := fun _ _ _ _ _ _ => False
noncomputable abbrev E0 : XK := fun _ _ _ => False
theorem pass0 {X : Cx} : Passes CX0 X E0 := fun _ _ _ _ _ _ _ h => h.elim
structure Fun (K : PySem.W.Frag) (x qual : Str) (st : Stmt) (f : Addr) (fd : FuncData) : Prop where
 ex : ∃ (oc : Value) (od : Option Addr) (kV doc pm : Value) (an : Option Addr) (cdv ct : Value) (osl : Array (Option Value)),
  fd = PySem.W.fnOf x qual (defArgs st) (defBody st) (defScope st) .none kV doc pm an cdv ct ∧ K.lookup f = some ⟨oc, od, .func fd, osl⟩ ∧ PySem.W.codeIn K cdv qual = true
 kp : PySem.W.keepIn K (.ref f) = true
section
variable {P : Program} {w : World} {K : PySem.W.Frag} {mg : Str → Option Value} {base : Heap}
theorem Fun.ok {x qual : Str} {st : Stmt} {f : Addr} {fd : FuncData} {N ps : List Str} {k : Nat} {sp : Sp} (F : Fun K x qual st f fd) (S : FnScope N ps (defScope st)) (len : ∀ vs H Q E, sp vs H Q E → vs.length = ps.length)
  (hbody : ∀ (cdv : Value) (A : Around) (outer : List Env) (s : Shared) (H : Hp) (vs : List V) (Q : VK) (E : XK), Room k (A.deeper (envOfC qual (defScope st) s.heap.objs.size f cdv)) → sp vs H Q E →
   ∃ t, PSs (cxOf CX0 P w K mg base N qual (defScope st) f cdv A outer s H E).nox (defBody st) t ∧ t { nx := fun _ H' => Q .non H', rt := Q } (start N vs) H) : FnOk P w K mg base CX0 (k + 1) f fd ps sp := by
 obtain ⟨oc, od, kV, doc, pm, an, cdv, ct, osl, rfl, lk, hcd⟩ := F.ex
 refine fn_of lk hcd S len fun A outer s H vs Q E hr hsp => ?_
 obtain ⟨t, h, q⟩ := hbody cdv A outer s H vs Q E hr hsp
 exact ⟨t, h.nox, q⟩
theorem Fun.binds {x qual : Str} {st : Stmt} {f : Addr} {fd : FuncData} {ps : List Str} (F : Fun K x qual st f fd)
  (h : ∀ (kV doc pm : Value) (an : Option Addr) (cdv ct : Value) (us : List Value), us.length = ps.length → bindArgs (PySem.W.fnOf x qual (defArgs st) (defBody st) (defScope st) .none kV doc pm an cdv ct) ⟨us, []⟩ = pure (ps.zip us)) : Binds K fd ps [] := by
 obtain ⟨oc, od, kV, doc, pm, an, cdv, ct, osl, rfl, lk, hcd⟩ := F.ex
 exact .all (h kV doc pm an cdv ct)
end
theorem hu_of {A : Around} {k : Nat} (hr : Room k A) : A.units + 1 < cLine := Nat.lt_of_le_of_lt (Nat.add_le_add_left (by decide : 1 ≤ 64) _) hr.units
section
variable {X : Cx}
end
def Same (H H' : Hp) : Prop := ∀ b o, H b = some o → H' b = some o
theorem Same.refl (H : Hp) : Same H H := fun _ _ h => h
theorem Same.trans {H H1 H2 : Hp} (a : Same H H1) (b : Same H1 H2) : Same H H2 := fun c o h => b c o (a c o h)
theorem Same.free {H H' : Hp} (e : Same H H') {l : Addr} (h : H' l = Option.none) : H l = Option.none := by
 cases q : H l with
 | none => rfl
 | some o =>
  rw [e l o q] at h
  cases h
theorem Same.seq {K : PySem.W.Frag} {H H' : Hp} {a : Addr} {xs : List V} (e : Same H H') (h : SqL K H a xs) : SqL K H' a xs := by
 rcases h with (h | ⟨o, h⟩) | h
 ·exact .inl (.inl (e _ _ h))
 ·exact .inl (.inr ⟨o, e _ _ h⟩)
 ·exact .inr h
end L2
namespace L2
open PySem PySem.Spec PyProof.Rows
section
variable {X : Cx}
end
section
variable {κ : Type} [DecidableEq κ]
end
end L2
namespace L2
open PySem PySem.Spec PyProof.Rows
theorem loop_go {prog : Program} {w : World} {A : Around} {R : Result → Shared → Prop} {s : Shared} {elt target iter : Expr} {ifs : List Expr} {scope : Scope} {pos : Pos} {it acc : Value} {env : Env} (I : Nat → Shared → Prop)
  (turn : ∀ n s, I n s → wpAny (model prog w) A (pyNext it) (fun r s₁ => match r with
   | none => R (.ok .next) s₁
   | some v => wpAny (model prog w) A (letOwnedTupleGo target it v) (fun _ s₁ => wpAny (model prog w) A (assign target env v) (fun _ s₂ =>
     wpAny (model prog w) A (forIn ifs true fun c r => if r = true then do let ok ← isTrue c env (eval c env); pure (ForInStep.yield ok) else pure (ForInStep.yield r)) (fun ok s₃ =>
      if ok = true then wpAny (model prog w) A (eval elt env) (fun x s₄ =>
       wpAny (model prog w) A (call (.builtin "list.append") [acc, x]) (fun _ s₅ => ∃ m, m < n ∧ I m s₅) (fun _ _ => False) s₄) (fun _ _ => False) s₃
      else ∃ m, m < n ∧ I m s₃) (fun _ _ => False) s₂) (fun _ _ => False) s₁) (fun _ _ => False) s₁) (fun _ _ => False) s)
  (n : Nat) (h : I n s) :
  codeAny (model prog w) A (.compLoop (.ListComp elt [⟨target, iter, ifs, 0⟩] scope pos) 0 it acc env) R s := by
 refine codeAny_loop rfl I (fun n s hI => ?_) n h
 show wpAny _ A ((compTurn (.ListComp elt [⟨target, iter, ifs, 0⟩] scope pos) 0 it acc env).onRaise (fun x => do noteFrame x env; theTreesLotGoes x)) _ _ s
 refine wpAny_noted ?_
 rw [compTurn_list]
 refine wpAny_bind (wpAny_standAt (wpAny_bind (wpAny_mono (turn n s hI) (fun r s₁ h₁ => ?_) fun _ _ h' => h'.elim)))
 cases r with
 | none => exact wpAny_pure h₁
 | some v =>
  refine wpAny_bind (wpAny_mono h₁ (fun _ s₂ h₂ => ?_) fun _ _ h' => h'.elim)
  refine wpAny_bind (wpAny_mono h₂ (fun _ s₂ h₂ => wpAny_bind (wpAny_mono h₂ (fun ok s₃ h₃ => ?_) fun _ _ h' => h'.elim)) fun _ _ h' => h'.elim)
  cases ok with
  | false => exact wpAny_pure ⟨rfl, h₃⟩
  | true =>
   exact wpAny_bind (wpAny_bind (wpAny_mono h₃ (fun x s₄ h₄ => wpAny_bind (wpAny_mono h₄ (fun _ s₅ h₅ => wpAny_pure (wpAny_pure ⟨rfl, h₅⟩)) fun _ _ h' => h'.elim)) fun _ _ h' => h'.elim))
noncomputable def clOf (env : Env) : List (Str × NameKind) → List (Str × Addr) → List (Str × Addr)
 | [], cs => cs
 | (x, k) :: r, cs => clOf env r (if (k == .free) = true then (x, (env.cells.lookup x).getD 0) :: cs else cs)
theorem cellOf_some {env : Env} {x : Str} {c : Addr} (h : env.cells.lookup x = some c) : cellOf env x = pure c := by
 unfold cellOf; rw [h]
theorem closure_is {scope : Scope} {env : Env} (h : ∀ y ∈ scope.names, y.2 = .free → ∃ c, env.cells.lookup y.1 = some c) : closureFor scope env = pure (clOf env scope.names []) := by
 have key : ∀ (l : List (Str × NameKind)) (cs : List (Str × Addr)), (∀ y ∈ l, y.2 = .free → ∃ c, env.cells.lookup y.1 = some c) →
   (forIn l cs fun (y : Str × NameKind) r => if (y.2 == NameKind.free) = true then do let c ← cellOf env y.1; pure (ForInStep.yield ((y.1, c) :: r)) else pure (ForInStep.yield r) : Sem (List (Str × Addr))) = pure (clOf env l cs) := by
  intro l
  induction l with
  | nil => intro cs _; rfl
  | cons y r ih =>
   intro cs hl
   obtain ⟨x, k⟩ := y
   rw [List.forIn_cons]
   by_cases hk : k = .free
   ·subst hk
    obtain ⟨c, hc⟩ := hl (x, .free) List.mem_cons_self rfl
    have e : ((NameKind.free == NameKind.free) : Bool) = true := rfl
    simp only [e, if_true, cellOf_some hc, pure_bind]
    rw [ih _ fun z hz => hl z (List.mem_cons_of_mem _ hz)]
    show _ = pure (clOf env r (if (NameKind.free == NameKind.free) = true then _ else _))
    rw [e, if_pos rfl, hc] <;> rfl
   ·have e : (k == NameKind.free) = false := by simpa using hk
    simp only [e, Bool.false_eq_true, if_false, pure_bind]
    rw [ih _ fun z hz => hl z (List.mem_cons_of_mem _ hz)]
    show _ = pure (clOf env r (if (k == NameKind.free) = true then _ else _))
    rw [e, if_neg Bool.false_ne_true]
 have e : closureFor scope env = ((forIn scope.names ([] : List (Str × Addr)) fun (y : Str × NameKind) r => if (y.2 == NameKind.free) = true then do let c ← cellOf env y.1; pure (ForInStep.yield ((y.1, c) :: r)) else pure (ForInStep.yield r) : Sem (List (Str × Addr))) >>= fun cs => pure cs) := rfl
 rw [e, key scope.names [] h]
 rfl
theorem clOf_lookup {env : Env} {x : Str} {c : Addr} : ∀ {l : List (Str × NameKind)} {cs : List (Str × Addr)}, (∀ y ∈ l, y.2 = .free → ∃ c, env.cells.lookup y.1 = some c) → (∀ x c, cs.lookup x = some c → env.cells.lookup x = some c) →
  (clOf env l cs).lookup x = some c → env.cells.lookup x = some c
 | [], _, _, h, e => h x c e
 | (y, k) :: r, cs, hl, h, e => by
  refine clOf_lookup (l := r) (fun z hz => hl z (List.mem_cons_of_mem _ hz)) (fun x c e => ?_) e
  by_cases hk : k = .free
  ·subst hk
   obtain ⟨d, hd⟩ := hl (y, .free) List.mem_cons_self rfl
   rw [if_pos (show (NameKind.free == NameKind.free) = true from rfl), List.lookup_cons] at e
   cases hx : x == y with
   | true => rw [hx, hd] at e; cases e; rw [eq_of_beq hx]; exact hd
   | false => rw [hx] at e; exact h x c e
  ·rw [if_neg (by simpa using hk)] at e; exact h x c e
theorem clOf_has {env : Env} {x : Str} : ∀ {l : List (Str × NameKind)} {cs : List (Str × Addr)}, ((∃ c, cs.lookup x = some c) ∨ (x, NameKind.free) ∈ l) → ∃ c, (clOf env l cs).lookup x = some c
 | [], _, h => by
  rcases h with h | h
  ·exact h
  ·simp at h
 | (y, k) :: r, cs, h => by
  refine clOf_has (l := r) ?_
  rcases h with ⟨c, h⟩ | h
  ·left
   by_cases hk : (k == NameKind.free) = true
   ·rw [if_pos hk, List.lookup_cons]
    cases hx : x == y with
    | true => exact ⟨_, rfl⟩
    | false => exact ⟨c, h⟩
   ·rw [if_neg hk]; exact ⟨c, h⟩
  ·rcases List.mem_cons.mp h with e | h
   ·injection e with e1 e2
    subst e1; subst e2
    left
    rw [if_pos (show (NameKind.free == NameKind.free) = true from rfl), List.lookup_cons]
    simp
   ·exact .inr h
noncomputable def cxComp (X : Cx) (N' : List Str) (scope : Scope) (C : Addr) (s : Shared) (H : Hp) (fp : List Addr) : Cx :=
 { X with N := N', s₀ := s, H₀ := H, env := compEnvC scope (clOf X.env scope.names []) C X.env, outer := X.stack, ex := fp, fn := fun _ => false, pn := [], xe := fun _ _ => False }
structure BlkOk (X : Cx) (N' : List Str) (ix : List (Option Nat)) (scope : Scope) : Prop where
 kind : scope.kind = .function
 nocell : ∀ y ∈ scope.names, y.2 ≠ .cell
 names : ∀ y ∈ scope.names, y.2 = .local → scope.names.lookup y.1 = some .local
 frees : ∀ y ∈ scope.names, y.2 = .free → X.env.kindOf y.1 = some .cell ∨ X.env.kindOf y.1 = some .free
 len : ix.length = N'.length
 at_ : ∀ (i j : Nat) (x : Str), N'[i]? = some x → ix[i]? = some (some j) → X.N[j]? = some x ∧ scope.names.lookup x = some .free
noncomputable def inner (ix : List (Option Nat)) (σ : St) : St := ix.map fun o => o.bind fun j => (σ[j]?).bind id
def tComp (ix : List (Option Nat)) (wi : TI) (g : TG) (tc : TT) (te : TE) : TE := fun σ H Q => wi σ H fun J H1 => ∀ D, H1 D = none → ∃ W : Nat → Nat → St → Hp → Prop, (∃ m, W 0 m (inner ix σ) (upd H1 D (.lst []))) ∧ ∀ i m σi H, W i m σi H →
 (J.stop i H ∧ Q (.ref D) H) ∨ (J.go i H ∧ ∃ N : St → Hp → Prop, (∀ σ' H', N σ' H' → ∃ m', m' < m ∧ W (i + 1) m' σ' H') ∧ ∀ x H', J.yld i H x H' → g x σi H' fun σ2 H2 => tc σ2 H2 fun b H3 =>
  if b = true then te σ2 H3 fun v H4 => ∃ ys, H4 D = some (.lst ys) ∧ ys.length < sizeLine ∧ N σ2 (upd H4 D (.lst (ys ++ [v]))) else N σ2 H3)
theorem lookup_relabel_free {env : Env} {x : Str} : ∀ {names : List (Str × NameKind)}, names.lookup x = some .free → (env.kindOf x = some .cell ∨ env.kindOf x = some .free) →
  (names.map fun (n, k) => if (k == NameKind.free && env.scope.kind == .function && env.kindOf n == some .cell) then (n, NameKind.cell) else (n, k)).lookup x = some .cell ∨
  (names.map fun (n, k) => if (k == NameKind.free && env.scope.kind == .function && env.kindOf n == some .cell) then (n, NameKind.cell) else (n, k)).lookup x = some .free
 | [], h, _ => by simp at h
 | (n, k) :: r, h, ho => by
  cases hx : x == n with
  | true =>
   simp only [List.lookup_cons, hx] at h
   cases h
   by_cases hc : (NameKind.free == NameKind.free && env.scope.kind == .function && env.kindOf n == some .cell) = true
   ·left
    show List.lookup x ((if (NameKind.free == NameKind.free && env.scope.kind == .function && env.kindOf n == some .cell) = true then (n, NameKind.cell) else (n, .free)) :: _) = _
    rw [if_pos hc]; simp only [List.lookup_cons, hx]
   ·right
    show List.lookup x ((if (NameKind.free == NameKind.free && env.scope.kind == .function && env.kindOf n == some .cell) = true then (n, NameKind.cell) else (n, .free)) :: _) = _
    rw [if_neg hc]; simp only [List.lookup_cons, hx]
  | false =>
   simp only [List.lookup_cons, hx] at h
   have ih := lookup_relabel_free (env := env) h ho
   show List.lookup x ((if (k == NameKind.free && env.scope.kind == .function && env.kindOf n == some .cell) = true then (n, NameKind.cell) else (n, k)) :: _) = _ ∨
    List.lookup x ((if (k == NameKind.free && env.scope.kind == .function && env.kindOf n == some .cell) = true then (n, NameKind.cell) else (n, k)) :: _) = _
   by_cases hc : (k == NameKind.free && env.scope.kind == .function && env.kindOf n == some .cell) = true
   ·rw [if_pos hc]; simp only [List.lookup_cons, hx]; exact ih
   ·rw [if_neg hc]; simp only [List.lookup_cons, hx]; exact ih
theorem lookup_relabel_back {env : Env} {x : Str} : ∀ {names : List (Str × NameKind)}, (∀ y ∈ names, y.2 ≠ .cell) →
  ((names.map fun (n, k) => if (k == NameKind.free && env.scope.kind == .function && env.kindOf n == some .cell) then (n, NameKind.cell) else (n, k)).lookup x = some .cell ∨
  (names.map fun (n, k) => if (k == NameKind.free && env.scope.kind == .function && env.kindOf n == some .cell) then (n, NameKind.cell) else (n, k)).lookup x = some .free) → (x, NameKind.free) ∈ names
 | [], _, h => by simp at h
 | (n, k) :: r, hn, h => by
  have h : List.lookup x ((if (k == NameKind.free && env.scope.kind == .function && env.kindOf n == some .cell) = true then (n, NameKind.cell) else (n, k)) :: (r.map fun (n, k) => if (k == NameKind.free && env.scope.kind == .function && env.kindOf n == some .cell) then (n, NameKind.cell) else (n, k))) = some .cell ∨
   List.lookup x ((if (k == NameKind.free && env.scope.kind == .function && env.kindOf n == some .cell) = true then (n, NameKind.cell) else (n, k)) :: (r.map fun (n, k) => if (k == NameKind.free && env.scope.kind == .function && env.kindOf n == some .cell) then (n, NameKind.cell) else (n, k))) = some .free := h
  cases hx : x == n with
  | true =>
   have e : x = n := eq_of_beq hx
   subst e
   by_cases hc : (k == NameKind.free && env.scope.kind == .function && env.kindOf x == some .cell) = true
   ·have hk : k = .free := by
     simp only [Bool.and_eq_true, beq_iff_eq] at hc
     exact hc.1.1
    subst hk; exact List.mem_cons_self
   ·rw [if_neg hc] at h
    simp only [List.lookup_cons, hx, Option.some.injEq] at h
    rcases h with h | h
    ·exact absurd h (hn (x, k) List.mem_cons_self)
    ·subst h; exact List.mem_cons_self
  | false =>
   refine List.mem_cons_of_mem _ (lookup_relabel_back (env := env) (fun y hy => hn y (List.mem_cons_of_mem _ hy)) ?_)
   by_cases hc : (k == NameKind.free && env.scope.kind == .function && env.kindOf n == some .cell) = true
   ·rw [if_pos hc] at h; simp only [List.lookup_cons, hx] at h; exact h
   ·rw [if_neg hc] at h; simp only [List.lookup_cons, hx] at h; exact h
end L2
namespace L2
open PySem PySem.Spec PyProof.Rows
def PIfs (X : Cx) (ifs : List Expr) (t : TT) : Prop :=
 ∀ (pins : List (Addr × Obj)) (s : Shared) (σ : St) (H : Hp) (Q : Bool → Hp → Prop), Inv X pins σ H s → t σ H Q →
  wpAny (model X.prog X.w) X.A (forIn ifs true fun c r => if r = true then do let ok ← isTrue c X.env (eval c X.env); pure (ForInStep.yield ok) else pure (ForInStep.yield r)) (TP X pins σ Q) X.xe s
def tYes : TT := fun _ H Q => Q true H
section
variable {X : Cx} {pins : List (Addr × Obj)} {σ : St} {H : Hp} {s : Shared}
theorem pifs_nil : PIfs X [] tYes := fun _ _ _ H _ I h => wpAny_tests_nil ⟨H, I, h⟩
theorem pifs_one {c : Expr} {t : TT} (h : PT X c t) : PIfs X [c] t := fun pins s σ H Q I hw => wpAny_tests_one (h pins s σ H Q I hw)
theorem Inv.blk {N' : List Str} {ix : List (Option Nat)} {scope : Scope} {fp : List Addr} {h1 : Heap} {tk : Nat} (I : Inv X pins σ H s) (B : BlkOk X N' ix scope) (f : ∀ b ∈ fp, FpOk X pins H b) (hlt : ∀ b ∈ fp, b < s.heap.objs.size)
  (ns : h1.Ns s.heap.objs.size (fun _ => none)) (old : ∀ b o, s.heap.get? b = some o → h1.get? b = some o) :
  Inv (cxComp X N' scope s.heap.objs.size s H fp) [] (inner ix σ) H { s with heap := h1, toks := tk } := by
 have hfree : ∀ y ∈ scope.names, y.2 = .free → ∃ c, X.env.cells.lookup y.1 = some c := fun y hy e => I.ok.has y.1 (B.frees y hy e)
 have hc : ∀ x c, (clOf X.env scope.names []).lookup x = some c → X.env.cells.lookup x = some c := fun x c e => clOf_lookup hfree (fun _ _ z => by cases z) e
 have stk : ∀ b ∈ fp, b ∉ frs X.stack := fun b hb z => by
  rcases List.mem_cons.mp (I.stkSub b z) with e | e
  ·exact (f b hb).2.1 e
  ·exact (f b hb).2.2.1 e
 refine ⟨⟨I.ok.mod, B.kind, I.ok.glob, I.ok.blt, Nat.le_refl _, fun x y c h1 h2 => I.ok.inj x y c (hc x c h1) (hc y c h2), fun x hx => ?_, fun x c h => (by cases h), I.ok.hd, I.ok.frames, .inl rfl, fun b hb => ⟨Nat.ne_of_lt (hlt b hb), fun x c e => (f b hb).2.2.2.2.1 x c (hc x c e)⟩,
   I.bs, Nat.le_trans I.ok.bsz I.sz, fun b o e hb => ?_, stk, I.stack, I.stkFree⟩, rfl, I.bare, Un.kept old, ⟨_, ns, fun i x v h1 h2 h3 => ?_⟩, fun x c e => ?_, I.hok.fresh (Nat.le_refl _), fun x c e => I.freeC x c (hc x c e), fun p hp => absurd (show p ∈ ([] : List (Addr × Obj)) from hp) (by simp), I.hok.kept old, ?_⟩
 ·exact clOf_has (.inr (lookup_relabel_back B.nocell hx))
 ·rcases (f b hb).2.2.2.1 with z | z
  ·exact I.ok.noex b o e z
  ·exact absurd (Nat.lt_of_lt_of_le (Heap.lt_size e) (Nat.le_trans I.ok.bsz z)) (Nat.lt_irrefl _)
 ·have h2 : (ix.map fun o => o.bind fun j => (σ[j]?).bind id)[i]? = some (some v) := h2
  rw [List.getElem?_map] at h2
  cases ho : ix[i]? with
  | none => rw [ho] at h2; cases h2
  | some o =>
   rw [ho] at h2
   cases o with
   | none => cases h2
   | some j =>
    have h2 : (σ[j]?).bind id = some v := Option.some.inj h2
    have h2 : σ[j]? = some (some v) := by
     cases hs : σ[j]? with
     | none => rw [hs] at h2; cases h2
     | some w => rw [hs] at h2; cases h2; rfl
    obtain ⟨hN, hf⟩ := B.at_ i j x h1 ho
    have hk := B.frees (x, .free) (PySem.mem_of_lookup hf) rfl
    obtain ⟨m, hn, hl⟩ := I.loc
    obtain ⟨u, r, lk⟩ := hl j x v hN h2 (hk.elim (fun z => .inr (.inl z)) fun z => .inr (.inr z))
    refine ⟨u, r, .inr ?_⟩
    rcases lk with ⟨z, _⟩ | ⟨_, c, e, z⟩
    ·rcases hk with hk | hk
     ·exact absurd (hk.symm.trans z) (by decide)
     ·exact absurd (hk.symm.trans z) (by decide)
    ·obtain ⟨c', e'⟩ := clOf_has (env := X.env) (cs := []) (.inr (PySem.mem_of_lookup hf))
     have ec : c' = c := Option.some.inj ((hc x c' e').symm.trans e)
     subst ec
     refine ⟨lookup_relabel_free hf hk, c', e', ?_⟩
     obtain ⟨o, ho, hd⟩ := z
     exact ⟨o, old _ _ ho, hd⟩
 ·obtain ⟨v, o, ho, hd⟩ := I.cell x c (hc x c e)
  exact ⟨v, o, old _ _ ho, hd⟩
 ·show (inner ix σ).length = N'.length
  unfold inner
  rw [List.length_map]
  exact B.len
theorem blk_run {elt tg iter : Expr} {ifs : List Expr} {scope : Scope} {pos : Pos} {N' : List Str} {ix : List (Option Nat)} {g : TG} {tc : TT} {te : TE} {J : It} {fp : List Addr} {it : Addr} {tn : Nat → Heap → Prop} (B : BlkOk X N' ix scope)
  (hg : ∀ C s H fp, PG (cxComp X N' scope C s H fp) tg g) (hi : ∀ C s H fp, PIfs (cxComp X N' scope C s H fp) ifs tc) (he : ∀ C s H fp, PE (cxComp X N' scope C s H fp) elt te) (hc : X.calm = true)
  (I : Inv X pins σ H s) (T : Turn X.prog X.w X.K tg J fp it tn) (st : tn 0 s.heap) (f : ∀ b ∈ fp, FpOk X pins H b) {Q : VK} {E : Value → Shared → Prop}
  (w : ∃ W : Nat → Nat → St → Hp → Prop, (∃ m, W 0 m (inner ix σ) (upd H s.heap.objs.size (.lst []))) ∧ ∀ i m σi H, W i m σi H →
   (J.stop i H ∧ Q (.ref s.heap.objs.size) H) ∨ (J.go i H ∧ ∃ N : St → Hp → Prop, (∀ σ' H', N σ' H' → ∃ m', m' < m ∧ W (i + 1) m' σ' H') ∧ ∀ x H', J.yld i H x H' → g x σi H' fun σ2 H2 => tc σ2 H2 fun b H3 =>
    if b = true then te σ2 H3 fun v H4 => ∃ ys, H4 s.heap.objs.size = some (.lst ys) ∧ ys.length < sizeLine ∧ N σ2 (upd H4 s.heap.objs.size (.lst (ys ++ [v]))) else N σ2 H3))
  {RR : Value → Addr → Result → Shared → Prop} (hRR : ∀ C H' s' m, Inv X pins σ H' s' → FpOk X pins H' C → s'.heap.Ns C m → Q (.ref s.heap.objs.size) H' → RR (.ref s.heap.objs.size) C (.ok .next) s') :
  wpAny (model X.prog X.w) X.A (newList []) (fun acc s₃ => wpAny (model X.prog X.w) X.A (newFunctionEnv scope X.env.globals (clOf X.env scope.names []) [] X.env.qual none .none (some X.env)) (fun cenv s₄ =>
   codeAny (model X.prog X.w) X.A (.compStart (.ListComp elt [⟨tg, iter, ifs, 0⟩] scope pos) 0 (.ref it) acc { cenv with scope := relabel scope X.env }) (RR acc cenv.locals) s₄) E s₃) E s := by
 obtain ⟨W, ⟨m0, w0⟩, turn⟩ := w
 have flt : ∀ b ∈ fp, b < s.heap.objs.size := fun b hb => by
  obtain ⟨o, ho, _⟩ := T.obj 0 _ st b hb
  exact Heap.lt_size ho
 have I3 : Inv X pins σ (upd H s.heap.objs.size (.lst [])) { s with heap := s.heap.push { cls := .type "list", data := .seq ([] : List Value).toArray }, toks := s.toks } := I.lnew .nil (Nat.zero_le _)
 have hfr : ∀ b ∈ fp, (upd H s.heap.objs.size (.lst [])) b = none := fun b hb => by rw [upd_ne (Nat.ne_of_lt (flt b hb))]; exact (f b hb).1
 have f3 : ∀ b ∈ fp, FpOk X pins (upd H s.heap.objs.size (.lst [])) b := fun b hb => ⟨hfr b hb, (f b hb).2⟩
 refine wpAny_newObj_type (wpAny_newFunctionEnv B.nocell (by intro y hy; simp at hy) (fun h₁ hns₁ hsb₁ => ?_) B.kind)
 dsimp only at hns₁ hsb₁ ⊢
 generalize hH3 : s.heap.push { cls := .type "list", data := .seq ([] : List Value).toArray } = h3 at hns₁ hsb₁ I3 ⊢
 obtain ⟨s3, e3⟩ : ∃ s3 : Shared, s3 = { s with heap := h3 } := ⟨_, rfl⟩
 obtain rfl : h3 = s3.heap := by rw [e3]
 have I3 : Inv X pins σ (upd H s.heap.objs.size (.lst [])) s3 := by
  have e : s3 = { s with heap := s3.heap, toks := s.toks } := e3
  rw [e]; exact I3
 have eT : s3.toks = s.toks := by rw [e3]
 have eS : ({ s with heap := h₁, toks := s.toks + ([] : List (Str × Value)).length } : Shared) = { s3 with heap := h₁, toks := s3.toks + ([] : List (Str × Value)).length } := by rw [e3]
 rw [eS]
 have hz3 : s3.heap.objs.size = s.heap.objs.size + 1 := by rw [← hH3]; exact Heap.size_push _ _
 have old : ∀ b o, s3.heap.get? b = some o → h₁.get? b = some o := fun b o e => hsb₁.extBut b o (Nat.ne_of_lt (Heap.lt_size e)) (Heap.get?_push_of_some _ e)
 have st3 : tn 0 s3.heap := T.keep _ _ _ st fun b hb o e => by rw [← hH3]; exact Heap.get?_push_of_some _ e
 have st4 : tn 0 h₁ := T.keep _ _ _ st3 fun b _ o e => old b o e
 have I4 := I3.blk (tk := s3.toks + ([] : List (Str × Value)).length) B f3 (fun b hb => Nat.lt_of_lt_of_le (flt b hb) (by rw [hz3]; exact Nat.le_succ _)) (show h₁.Ns s3.heap.objs.size (fun _ => none) from hns₁) old
 generalize hX' : cxComp X N' scope s3.heap.objs.size s3 (upd H s.heap.objs.size (.lst [])) fp = X' at I4
 have eX : X'.prog = X.prog ∧ X'.w = X.w ∧ X'.K = X.K ∧ X'.A = X.A ∧ X'.calm = X.calm ∧ X'.env = compEnvC scope (clOf X.env scope.names []) s3.heap.objs.size X.env ∧ X'.ex = fp ∧ X'.outer = X.stack ∧ X'.s₀ = s3 ∧ X'.H₀ = upd H s.heap.objs.size (.lst []) ∧ X'.pn = [] ∧ X'.xe = (fun _ _ => False) := by
  rw [← hX']; exact ⟨rfl, rfl, rfl, rfl, rfl, rfl, rfl, rfl, rfl, rfl, rfl, rfl⟩
 have hg' : PG X' tg g := hX' ▸ hg _ _ _ _
 have hi' : PIfs X' ifs tc := hX' ▸ hi _ _ _ _
 have he' : PE X' elt te := hX' ▸ he _ _ _ _
 obtain ⟨e1, e2, e3, e4, e5, e6, e7, e8, e9, e10, e11, e12⟩ := eX
 have stat : ∀ {H' : Hp}, (∀ b ∈ fp, H' b = none) → ∀ b ∈ fp, FpOk X' [] H' b := fun {H'} hn b hb => by
  have q := I4.ok.exf b (by rw [e7]; exact hb)
  refine ⟨hn b hb, q.1, ?_, .inl (by rw [e7]; exact hb), q.2, fun p hp => ?_⟩
  ·exact I4.ok.exfs b (by rw [e7]; exact hb)
  ·rw [e11] at hp; simp at hp
 have loop : codeAny (model X.prog X.w) X.A (.compLoop (.ListComp elt [⟨tg, iter, ifs, 0⟩] scope pos) 0 (.ref it) (.ref s.heap.objs.size) (compEnvC scope (clOf X.env scope.names []) s3.heap.objs.size X.env))
   (RR (.ref s.heap.objs.size) s3.heap.objs.size) { s3 with heap := h₁, toks := s3.toks + ([] : List (Str × Value)).length } := by
  refine loop_go (fun n s' => ∃ i σi Hi, Inv X' [] σi Hi s' ∧ tn i s'.heap ∧ (∀ b ∈ fp, Hi b = none) ∧ W i n σi Hi) ?_ m0 ⟨0, _, _, I4, st4, hfr, w0⟩
  rintro n s5 ⟨i, σ5, H5, I5, st5, fr5, w5⟩
  rcases turn i n σ5 H5 w5 with ⟨stop, qn⟩ | ⟨go, N, hN, step⟩
  ·have d := T.done X' e1 e2 e3 (by rw [e5]; exact hc) i [] s5 σ5 H5 (fun _ _ => False) I5 (stat fr5) st5 stop
   rw [e4] at d
   (refine thn d ?_; rintro r s6 ⟨hr, I6⟩)
   subst hr
   have u := I6.base
   rw [e7, e9, e10] at u
   have u : Un (frs X'.outer) fp (upd H s.heap.objs.size (.lst [])) H5 s3.heap s6.heap := u
   rw [e8] at u
   have ok6 := I6.hok
   rw [e1, e2] at ok6
   have I7 : Inv X pins σ H5 s6 := I3.call' (ch := fp) (by have := I6.os; rw [e9] at this; exact this) u ok6 I6.bare fun b hb => ⟨(f b hb).2.2.2.1, (f b hb).2.1, (f b hb).2.2.2.2.1, (f b hb).2.2.2.2.2⟩
   have hfree := I6.free
   obtain ⟨m, hm, _⟩ := I6.loc
   rw [e6] at hfree hm
   exact hRR _ H5 s6 m I7 (I3.fpOk (Nat.le_refl _) hfree) hm qn
  ·have d := T.item X' e1 e2 e3 (by rw [e5]; exact hc) i [] s5 σ5 H5 (fun _ _ => False) I5 (stat fr5) st5 go
   rw [e4] at d
   (refine thn d ?_; rintro r s6 ⟨u, hr, h6⟩)
   subst hr
   (refine thn h6 ?_; rintro _ s7 ⟨x, H7, I7, r7, y7, st7, fr7⟩)
   have I7' := I7.pinned (stat fr7) (T.obj _ _ st7)
   have a := hg' _ s7 σ5 H7 x u _ I7' r7 (step x H7 y7)
   rw [e1, e2, e4, e6, e12] at a
   (refine thn a ?_; rintro _ s8 ⟨σ8, H8, I8, q8⟩)
   have t := hi' _ s8 σ8 H8 _ I8 q8
   rw [e1, e2, e4, e6, e12] at t
   have again : ∀ {σ9 : St} {H9 : Hp} {s9 : Shared}, Inv X' ([] ++ pinsAt fp s7.heap) σ9 H9 s9 → N σ9 H9 → ∃ m, m < n ∧ ∃ i σi Hi, Inv X' [] σi Hi s9 ∧ tn i s9.heap ∧ (∀ b ∈ fp, Hi b = none) ∧ W i m σi Hi := fun {σ9 H9 s9} I9 n9 => by
    obtain ⟨m', hm, w9⟩ := hN σ9 H9 n9
    refine ⟨m', hm, i + 1, σ9, H9, I9.unpinned, T.keep _ _ _ st7 fun b hb o e => (I9.pin (b, o) (List.mem_append_right _ (List.mem_append_right _ (mem_pinsAt hb e)))).1, fun b hb => ?_, w9⟩
    obtain ⟨o, e, d⟩ := T.obj _ _ st7 b hb
    exact (I9.pin (b, o) (List.mem_append_right _ (List.mem_append_right _ (mem_pinsAt hb e)))).2.1
   (refine thn t ?_; rintro ok s9 ⟨H9, I9, q9⟩)
   cases ok with
   | false =>
    rw [if_neg Bool.false_ne_true] at q9 ⊢
    exact again I9 q9
   | true =>
    rw [if_pos rfl] at q9 ⊢
    have v := he' _ s9 σ8 H9 _ I9 q9
    rw [e1, e2, e4, e6, e12] at v
    (refine thn v ?_; rintro y s10 ⟨z, H10, I10, r10, ys, hD, hz, q10⟩)
    have ap := mt_append _ s10 σ8 H10 (.ref s.heap.objs.size) [z] (.ref s.heap.objs.size) [y] (fun _ H' => N σ8 H') I10 rfl (.cons r10 .nil) ⟨_, ys, z, rfl, rfl, hD, hz, q10⟩
    rw [e1, e2, e4, e12] at ap
    (refine thn ap ?_; rintro _ s11 ⟨_, H11, I11, _, q11⟩; exact again I11 q11)
 exact codeAny_compStart_list loop (T.self _ _ _ _ _ st4 loop)
variable {elt tg iter : Expr} {ifs : List Expr} {scope : Scope} {pos : Pos} {N' : List Str} {ix : List (Option Nat)} {wi : TI} {g : TG} {tc : TT} {te : TE}
theorem pe_comp (B : BlkOk X N' ix scope) (hc : X.calm = true) (hw : PI X tg iter wi)
  (hg : ∀ C s H fp, PG (cxComp X N' scope C s H fp) tg g) (hi : ∀ C s H fp, PIfs (cxComp X N' scope C s H fp) ifs tc) (he : ∀ C s H fp, PE (cxComp X N' scope C s H fp) elt te)
  (hs : ∀ x, foldedSetIterable iter X.env x = pure x := by intro _; rfl) :
  PE X (.ListComp elt [⟨tg, iter, ifs, 0⟩] scope pos) (tComp ix wi g tc te) := by
 intro pins s σ H Q I h
 rw [eval_ListComp]
 refine wpAny_comprehension_free (use := none) rfl hs (closure_is fun y hy e => I.ok.has y.1 (B.frees y hy e)) B.kind B.names ?_
 refine thn (hw pins s σ H _ I h) fun v s1 h1 => thn h1 fun itv s2 h2 => ?_
 obtain ⟨it, fp, tn, J, H2, e, I2, T, st2, f2, q2⟩ := h2
 subst e
 refine blk_run B hg hi he hc I2 T st2 f2 (Q := Q) (q2 _ I2.fresh) fun C H' s' m I' fC hm q => ?_
 refine ⟨m, hm, fun h' sb => ⟨.ref s2.heap.objs.size, H', ?_, rfl, q⟩⟩
 exact I'.turned (t' := s'.toks) (it := C) (fun b o hb e => sb.extBut b o hb e) fC.1 fC.2.1 fC.2.2.2.1 fC.2.2.2.2.1 fC.2.2.2.2.2
def tAsgC (i : Nat) (t : TE) : TS := fun D σ H => t σ H fun x H1 => D.nx (σ.set i (some x)) H1
theorem ps_setC {i : Nat} {y : Str} {py spos : Pos} (B : BlkOk X N' ix scope) (hc : X.calm = true) (hN : X.N.Nodup) (hy : X.N[i]? = some y) (hl : Loc X.env.scope y) (hw : PI X tg iter wi)
  (hg : ∀ C s H fp, PG (cxComp X N' scope C s H fp) tg g) (hi : ∀ C s H fp, PIfs (cxComp X N' scope C s H fp) ifs tc) (he : ∀ C s H fp, PE (cxComp X N' scope C s H fp) elt te)
  (hsw : swapsWith (.ListComp elt [⟨tg, iter, ifs, 0⟩] scope pos) (some (.Name y py)) spos.line X.env = pure true := by rfl)
  (hf : X.fn y = true ∨ X.env.scope.names.lookup y = some .local := by first | exact .inl rfl | exact .inr rfl | assumption)
  (hs : ∀ x, foldedSetIterable iter X.env x = pure x := by intro _; rfl) :
  PS X (.Assign [.Name y py] (.ListComp elt [⟨tg, iter, ifs, 0⟩] scope pos) spos) (tAsgC i (tComp ix wi g tc te)) := by
 intro pins s σ H D I h
 rw [exec_Assign_Name_used _ _ _ _ hsw]
 refine wpAny_bind (wpAny_standAt (wpAny_bind ?_))
 show wpAny _ X.A (do let _ ← comprehension (.ListComp elt [⟨tg, iter, ifs, 0⟩] scope pos) scope X.env _ (newList []) false (eval iter X.env) (some (assign (.Name y py) X.env))) _ _ s
 refine wpAny_bind (wpAny_mono (wpAny_comprehension_free (use := some (assign (.Name y py) X.env)) (Q := fun _ s' => SP X pins D .next s') rfl hs (closure_is fun y hy e => I.ok.has y.1 (B.frees y hy e)) B.kind B.names
  (thn (hw pins s σ H _ I h) fun v s1 h1 => thn h1 fun itv s2 h2 => ?_)) (fun _ s' hq => wpAny_pure (wpAny_pure hq)) fun _ _ e => e)
 obtain ⟨it, fp, tn, J, H2, e, I2, T, st2, f2, q2⟩ := h2
 subst e
 refine blk_run B hg hi he hc I2 T st2 f2 (Q := fun x H1 => D.nx (σ.set i (some x)) H1) (q2 _ I2.fresh) fun C H' s' m I' fC hm q => ?_
 show wpAny _ _ (assign (.Name y py) X.env (.ref s2.heap.objs.size)) _ _ _
 (refine wpAny_assign_Name (store_ok2 I' hN hy hl (v := .ref s2.heap.objs.size) rfl (?_) hf); rintro s'' I'' ⟨a, hsame, ha⟩)
 have hCa : C ≠ a := by
  rcases ha with z | z
  ·rw [z]; exact fC.2.1
  ·intro e; exact fC.2.2.2.2.1 _ _ z e.symm
 refine ⟨m, hm.sameBut hsame hCa, fun h' sb => ⟨_, H', ?_, q⟩⟩
 exact I''.turned (t' := s''.toks) (it := C) (fun b o hb e => sb.extBut b o hb e) fC.1 fC.2.1 fC.2.2.2.1 fC.2.2.2.2.1 fC.2.2.2.2.2
end
end L2
namespace L2
open PySem PySem.Spec PyProof.Rows
section
variable {X : Cx} {pos : Pos}
def gLst (K : PySem.W.Frag) (n : Nat) (t : TGs) : TG := fun v σ H Q => ∃ a xs, v = .ref a ∧ SqL K H a xs ∧ xs.length = n ∧ t xs σ H Q
theorem pg_list {es : List Expr} {k : Nat} {t : TGs} {n : Nat} (hc : X.calm = true) (h : PGs X es t)
  (hn : (assignEach es X.env).length = n := by rfl) (hst : (assignEach es X.env).findIdx? (·.1) = none := by rfl) : PG X (.Tuple es k pos) (gLst X.K n t) := by
 intro pins s σ H v u Q I r hw
 obtain ⟨a, xs, e1, hq, hl, hw⟩ := hw
 subst e1
 cases r
 obtain ⟨its, rv, ht, hz⟩ := I.list hq
 rw [PyProof.Rows.assign_Tuple]
 refine wpAny_bind (wpAny_standAt ?_)
 unfold unpack
 have hsz : (assignEach es X.env).length = its.toArray.size := by simp [hn, ← hl, rv.length]
 rw [hsz, hst]
 refine wpAny_bind (wpAny_holding (PySem.W.kun_itemsOf (I.ok.hd hc) ht.isList fun h' hx => ?_))
 have I1 : Inv X pins σ H { s with heap := h' } := I.kept (t' := s.toks) fun b o e => hx b o (Nat.ne_of_lt (Heap.lt_size e)) e
 exact h pins _ σ H xs _ Q I1 (by simpa using rv) hw
theorem pg_or {tg : Expr} {t t' : TG} (h : PG X tg t) (h' : PG X tg t') : PG X tg (fun v σ H Q => t v σ H Q ∨ t' v σ H Q) := by
 intro pins s σ H v u Q I r q
 rcases q with q | q
 ·exact h pins s σ H v u Q I r q
 ·exact h' pins s σ H v u Q I r q
def iSeq (K : PySem.W.Frag) (tl : TE) : TI := fun σ H R => tl σ H fun x H1 => ∃ a, x = .ref a ∧ (((∃ xs, SqL K H1 a xs) ∧ R (Itl K a) H1) ∨ ((∃ xs, SqT K H1 a xs) ∧ R (Itt K a) H1))
theorem pi_seq {tg l : Expr} {tl : TE} (hl : PE X l tl) : PI X tg l (iSeq X.K tl) := by
 intro pins s σ H R I h
 (refine thn (hl pins s σ H _ I h) ?_; rintro v s1 ⟨x, H1, I1, r1, q1⟩)
 obtain ⟨a, e, ⟨⟨xs, hq⟩, q⟩ | ⟨⟨xs, hq⟩, q⟩⟩ := q1
 ·subst e
  cases r1
  obtain ⟨its, rv, p, hz⟩ := I1.list hq
  refine wpAny_pyIter_list p.isList ?_
  refine ⟨s1.heap.objs.size, [s1.heap.objs.size], _, _, H1, rfl, I1.kept (t' := s1.toks) fun b o e => Heap.get?_push_of_some _ e, turn_list a _, ⟨_, Heap.get?_push_size _ rfl, rfl, rfl⟩, fun b hb => ?_, q⟩
  have e : b = s1.heap.objs.size := by simpa using hb
  subst e
  exact I1.fpOk (Nat.le_refl _) (I1.hok.fresh (Nat.le_refl _))
 ·subst e
  cases r1
  obtain ⟨its, rv, p, hz⟩ := I1.tuple hq
  refine wpAny_pyIter_tuple (show s1.heap.IsTuple a its.toArray from p) ?_
  refine ⟨s1.heap.objs.size, [s1.heap.objs.size], _, _, H1, rfl, I1.kept (t' := s1.toks) fun b o e => Heap.get?_push_of_some _ e, turn_tuple a _, ⟨_, Heap.get?_push_size _ rfl, rfl, rfl⟩, fun b hb => ?_, q⟩
  have e : b = s1.heap.objs.size := by simpa using hb
  subst e
  exact I1.fpOk (Nat.le_refl _) (I1.hok.fresh (Nat.le_refl _))
theorem op_isB : OpR X (compareOp .Is) (fun x y H Q => ∃ b, y = .bl b ∧ Q (.bl (decide (x = .bl b))) H) := by
 intro pins s σ H x y v u Q I rx ry h
 obtain ⟨b, rfl, q⟩ := h
 cases ry
 refine wpAny_is_plain ?_ (fin_bl I q ?_)
 ·cases x <;> first
   | (cases rx; rfl)
   | (obtain ⟨t, rfl⟩ := rx; rfl)
 ·cases x <;> first
   | (obtain ⟨t, rfl⟩ := rx; rfl)
   | (cases rx; cases b <;> rfl)
   | (cases rx; rename_i c; cases b <;> cases c <;> rfl)
theorem op_isNotB : OpR X (compareOp .IsNot) (fun x y H Q => ∃ b, y = .bl b ∧ Q (.bl (!decide (x = .bl b))) H) := by
 intro pins s σ H x y v u Q I rx ry h
 obtain ⟨b, rfl, q⟩ := h
 cases ry
 refine wpAny_isNot_plain ?_ (fin_bl I q ?_)
 ·cases x <;> first
   | (cases rx; rfl)
   | (obtain ⟨t, rfl⟩ := rx; rfl)
 ·cases x <;> first
   | (obtain ⟨t, rfl⟩ := rx; rfl)
   | (cases rx; cases b <;> rfl)
   | (cases rx; rename_i c; cases b <;> cases c <;> rfl)
def kindOfV (K : PySem.W.Frag) (H : Hp) : V → String → Prop
 | .non, n => n = "NoneType"
 | .bl _, n => n = "bool"
 | .int _, n => n = "int"
 | .str _, n => n = "str"
 | .ref a, n => (n = "list" ∧ ((∃ xs, H a = some (.lst xs)) ∨ ∃ o xs, H a = some (.frz o (.lst xs)))) ∨ (n = "tuple" ∧ ∃ xs, H a = some (.tup xs)) ∨ (n = "dict" ∧ ∃ xs, H a = some (.dK xs))
 | _, _ => False
noncomputable def subK (n T : String) : Bool := n == T || (n == "bool" && T == "int")
theorem kit_sub {K : PySem.W.Frag} {n T : String} (hn : n = "NoneType" ∨ n = "bool" ∨ n = "int" ∨ n = "str" ∨ n = "list" ∨ n = "tuple" ∨ n = "dict") (hT : T = "int" ∨ T = "str" ∨ T = "bool" ∨ T = "list" ∨ T = "tuple" ∨ T = "dict") : PySem.W.kitOne K (.type n) (.type T) = some (subK n T) := by
 rcases hn with rfl | rfl | rfl | rfl | rfl | rfl | rfl <;> rcases hT with rfl | rfl | rfl | rfl | rfl | rfl <;> rfl
theorem call_isinst : CallR X (.builtin "isinstance") (fun xs H Q => ∃ x n T, xs = [x, .ty T] ∧ kindOfV X.K H x n ∧ (T = "int" ∨ T = "str" ∨ T = "bool" ∨ T = "list" ∨ T = "tuple" ∨ T = "dict") ∧ Q (.bl (subK n T)) H) := by
 intro pins s σ H xs us Q I r h
 obtain ⟨x, n, T, rfl, hk, hT, q⟩ := h
 obtain ⟨u, w, rfl, rx, rt⟩ := vals2 r
 cases rt
 have fin : ∀ tk, EP X pins σ Q (.bool (subK n T)) { s with toks := tk } := fun tk => ⟨.bl (subK n T), H, I.tok tk, rfl, q⟩
 cases x with
 | non => cases (show n = "NoneType" from hk); exact isinst_ok I rx .non (kit_sub (by simp) hT) fin
 | bl b => cases (show n = "bool" from hk); exact isinst_ok I rx (.bl b) (kit_sub (by simp) hT) fin
 | int i => cases (show n = "int" from hk); exact isinst_ok I rx (.int i) (kit_sub (by simp) hT) fin
 | str i => cases (show n = "str" from hk); exact isinst_ok I rx (.str i) (kit_sub (by simp) hT) fin
 | ref a =>
  rcases (show (n = "list" ∧ ((∃ xs, H a = some (.lst xs)) ∨ ∃ o xs, H a = some (.frz o (.lst xs)))) ∨ (n = "tuple" ∧ ∃ xs, H a = some (.tup xs)) ∨ (n = "dict" ∧ ∃ xs, H a = some (.dK xs)) from hk) with ⟨e, ⟨xs, h1⟩ | ⟨o, xs, h1⟩⟩ | ⟨e, xs, h1⟩ | ⟨e, xs, h1⟩
  ·cases e; exact isinst_ok I rx (.lst h1) (kit_sub (by simp) hT) fin
  ·cases e; exact isinst_ok I rx (.frz h1) (kit_sub (by simp) hT) fin
  ·cases e; exact isinst_ok I rx (.tup h1) (kit_sub (by simp) hT) fin
  ·cases e; exact isinst_ok I rx (.dK h1) (kit_sub (by simp) hT) fin
 | _ => exact (show False from hk).elim
end
end L2
namespace L2
open PySem
def XH (a C : Addr) (dx : Option Addr) (h : Heap) : Prop := ∃ o vs, h.get? a = some o ∧ o.cls = .ref C ∧ o.dict = dx ∧ o.data = .fields vs
def XDict (H : Hp) : Option Addr → List (Str × V) → Prop
 | none, ys => ys = []
 | some d, ys => ∃ o, H d = some (.frz o (.xd ys))
end L2
namespace L3
open PySem L2
set_option maxHeartbeats 4000000
inductive D where
 | non | bl (b : Bool) | int (i : Int) | str (x : Str) | tup (xs : List D) | ref (a : Addr) | ty (n : String)
inductive DO where
 | lst (xs : List D) | fro (xs : List D) | dic (kvs : List (Key × D)) | dit (kvs : List (List Key × D)) | ins (C : Addr) (fs : List (Str × D)) | exc (C : Addr) (fs : List (Str × D)) | frd (kvs : List (Key × D))
noncomputable abbrev Gp := Addr → Option DO
noncomputable def gup (G : Gp) (a : Addr) (o : DO) : Gp := fun b => if b = a then some o else G b
theorem gup_same {G : Gp} {a : Addr} {o : DO} : gup G a o a = some o := by unfold gup; rw [if_pos rfl]
theorem gup_ne {G : Gp} {a b : Addr} {o : DO} (h : b ≠ a) : gup G a o b = G b := by unfold gup; rw [if_neg h]
theorem gup_gup {G : Gp} {a : Addr} {o u : DO} : gup (gup G a o) a u = gup G a u := by
 funext b; unfold gup; split <;> rfl
theorem gne {G : Gp} {a b : Addr} {o : DO} (h : G a = some o) (h' : G b = none) : a ≠ b := by
 intro e; subst e; rw [h] at h'; cases h'
structure Le (H H' : Hp) : Prop where
 tups : ∀ b xs, H b = some (.tup xs) → H' b = some (.tup xs)
 frzs : ∀ b o u, H b = some (.frz o u) → H' b = some (.frz o u)
theorem Le.refl (H : Hp) : Le H H := ⟨fun _ _ h => h, fun _ _ _ h => h⟩
theorem Le.trans {H H1 H2 : Hp} (a : Le H H1) (b : Le H1 H2) : Le H H2 := ⟨fun c xs h => b.tups c xs (a.tups c xs h), fun c o u h => b.frzs c o u (a.frzs c o u h)⟩
theorem Le.sqT {K : PySem.W.Frag} {H H' : Hp} (l : Le H H') {a : Addr} {xs : List V} (h : SqT K H a xs) : SqT K H' a xs := by
 rcases h with (h | ⟨o, h⟩) | h
 ·exact .inl (.inl (l.tups _ _ h))
 ·exact .inl (.inr ⟨o, l.frzs _ _ _ h⟩)
 ·exact .inr h
theorem Le.fresh {H : Hp} {p : Addr} {o : HO} (h : H p = none) : Le H (upd H p o) :=
 ⟨fun b xs q => by rw [upd_ne (ne_of_none q h)]; exact q, fun b o u q => by rw [upd_ne (ne_of_none q h)]; exact q⟩
mutual
def RelD (K : PySem.W.Frag) (H : Hp) : D → V → Prop
 | .non, v => v = .non
 | .bl b, v => v = .bl b
 | .int i, v => v = .int i
 | .str x, v => v = .str x
 | .ref a, v => v = .ref a
 | .ty n, v => v = .ty n
 | .tup ds, v => ∃ a xs, v = .ref a ∧ SqT K H a xs ∧ RelDs K H ds xs
def RelDs (K : PySem.W.Frag) (H : Hp) : List D → List V → Prop
 | [], xs => xs = []
 | d :: ds, xs => ∃ x r, xs = x :: r ∧ RelD K H d x ∧ RelDs K H ds r
end
section
variable {K : PySem.W.Frag} {H H' : Hp}
mutual
theorem RelD.le (l : Le H H') : ∀ {d : D} {v : V}, RelD K H d v → RelD K H' d v
 | .non, _, h => by simpa [RelD] using h
 | .bl _, _, h => by simpa [RelD] using h
 | .int _, _, h => by simpa [RelD] using h
 | .str _, _, h => by simpa [RelD] using h
 | .ref _, _, h => by simpa [RelD] using h
 | .ty _, _, h => by simpa [RelD] using h
 | .tup ds, _, h => by
  rw [RelD] at h ⊢
  obtain ⟨a, xs, e, s, r⟩ := h
  exact ⟨a, xs, e, l.sqT s, RelDs.le l r⟩
theorem RelDs.le (l : Le H H') : ∀ {ds : List D} {xs : List V}, RelDs K H ds xs → RelDs K H' ds xs
 | [], _, h => by simpa [RelDs] using h
 | d :: ds, _, h => by
  rw [RelDs] at h ⊢
  obtain ⟨x, r, e, h1, h2⟩ := h
  exact ⟨x, r, e, RelD.le l h1, RelDs.le l h2⟩
end
theorem RelDs.nil : RelDs K H [] [] := by rw [RelDs]
theorem RelDs.cons {d : D} {ds : List D} {x : V} {xs : List V} (h : RelD K H d x) (t : RelDs K H ds xs) : RelDs K H (d :: ds) (x :: xs) := by
 rw [RelDs]; exact ⟨x, xs, rfl, h, t⟩
theorem RelDs.inv_nil {xs : List V} (h : RelDs K H [] xs) : xs = [] := by rw [RelDs] at h; exact h
theorem RelDs.inv_cons {d : D} {ds : List D} {xs : List V} (h : RelDs K H (d :: ds) xs) : ∃ x r, xs = x :: r ∧ RelD K H d x ∧ RelDs K H ds r := by rw [RelDs] at h; exact h
theorem RelDs.length : ∀ {ds : List D} {xs : List V}, RelDs K H ds xs → ds.length = xs.length
 | [], _, h => by rw [h.inv_nil]; rfl
 | _ :: _, _, h => by obtain ⟨x, r, e, _, t⟩ := h.inv_cons; rw [e, List.length_cons, List.length_cons, t.length]
theorem RelDs.get : ∀ {ds : List D} {xs : List V} {i : Nat} {d : D}, RelDs K H ds xs → ds[i]? = some d → ∃ x, xs[i]? = some x ∧ RelD K H d x
 | [], _, _, _, _, e => by simp at e
 | _ :: _, _, 0, _, h, e => by
  obtain ⟨x, r, rfl, h1, t⟩ := h.inv_cons
  simp at e; subst e; exact ⟨x, rfl, h1⟩
 | _ :: _, _, i + 1, d, h, e => by
  obtain ⟨x, r, rfl, h1, t⟩ := h.inv_cons
  obtain ⟨y, h2, h3⟩ := RelDs.get (i := i) t (by simpa using e)
  exact ⟨y, by simpa using h2, h3⟩
theorem RelDs.of : ∀ {ds : List D} {xs : List V}, ds.length = xs.length → (∀ (i : Nat) d x, ds[i]? = some d → xs[i]? = some x → RelD K H d x) → RelDs K H ds xs
 | [], [], _, _ => .nil
 | [], _ :: _, h, _ => by simp at h
 | _ :: _, [], h, _ => by simp at h
 | d :: ds, x :: xs, h, f => .cons (f 0 d x rfl rfl) (RelDs.of (by simpa using h) fun i d x a b => f (i + 1) d x (by simpa using a) (by simpa using b))
theorem RelDs.append : ∀ {ds es : List D} {xs ys : List V}, RelDs K H ds xs → RelDs K H es ys → RelDs K H (ds ++ es) (xs ++ ys)
 | [], _, _, _, h, t => by rw [h.inv_nil]; exact t
 | _ :: _, _, _, _, h, t => by
  obtain ⟨x, r, rfl, h1, h2⟩ := h.inv_cons
  exact .cons h1 (h2.append t)
theorem RelDs.set {d : D} {x : V} (q : RelD K H d x) : ∀ {ds : List D} {xs : List V} (i : Nat), RelDs K H ds xs → RelDs K H (ds.set i d) (xs.set i x)
 | [], _, _, h => by rw [h.inv_nil]; exact .nil
 | _ :: _, _, 0, h => by
  obtain ⟨x, r, rfl, h1, h2⟩ := h.inv_cons
  exact .cons q h2
 | _ :: _, _, i + 1, h => by
  obtain ⟨x, r, rfl, h1, h2⟩ := h.inv_cons
  exact .cons h1 (h2.set q i)
theorem RelDs.take : ∀ {ds : List D} {xs : List V} (n : Nat), RelDs K H ds xs → RelDs K H (ds.take n) (xs.take n)
 | _, _, 0, _ => by simpa using RelDs.nil
 | [], _, _ + 1, h => by rw [h.inv_nil]; exact .nil
 | _ :: _, _, n + 1, h => by
  obtain ⟨x, r, rfl, h1, h2⟩ := h.inv_cons
  exact .cons h1 (h2.take n)
theorem RelDs.drop : ∀ {ds : List D} {xs : List V} (n : Nat), RelDs K H ds xs → RelDs K H (ds.drop n) (xs.drop n)
 | _, _, 0, h => by simpa using h
 | [], _, _ + 1, h => by rw [h.inv_nil]; exact .nil
 | _ :: _, _, n + 1, h => by
  obtain ⟨x, r, rfl, h1, h2⟩ := h.inv_cons
  exact h2.drop n
theorem RelDs.reverse : ∀ {ds : List D} {xs : List V}, RelDs K H ds xs → RelDs K H ds.reverse xs.reverse
 | [], _, h => by rw [h.inv_nil]; exact .nil
 | _ :: _, _, h => by
  obtain ⟨x, r, rfl, h1, h2⟩ := h.inv_cons
  rw [List.reverse_cons, List.reverse_cons]
  exact h2.reverse.append (.cons h1 .nil)
theorem RelDs.dropLast {ds : List D} {xs : List V} (h : RelDs K H ds xs) : RelDs K H ds.dropLast xs.dropLast := by
 rw [List.dropLast_eq_take, List.dropLast_eq_take, h.length]; exact h.take _
theorem RelDs.rep {ds : List D} {xs : List V} (h : RelDs K H ds xs) : ∀ k : Nat, RelDs K H (List.replicate k ds).flatten (List.replicate k xs).flatten
 | 0 => .nil
 | k + 1 => by rw [List.replicate_succ, List.replicate_succ, List.flatten_cons, List.flatten_cons]; exact h.append (h.rep k)
def RelPs {κ : Type} (K : PySem.W.Frag) (H : Hp) (ps : List (κ × D)) (qs : List (κ × V)) : Prop := ps.map (·.1) = qs.map (·.1) ∧ RelDs K H (ps.map (·.2)) (qs.map (·.2))
theorem RelPs.le {κ : Type} (l : Le H H') {ps : List (κ × D)} {qs : List (κ × V)} (h : RelPs K H ps qs) : RelPs K H' ps qs := ⟨h.1, RelDs.le l h.2⟩
end
def ObjD (K : PySem.W.Frag) (H : Hp) (a : Addr) : DO → Prop
 | .lst ds => ∃ xs, H a = some (.lst xs) ∧ RelDs K H ds xs
 | .fro ds => ∃ o xs, H a = some (.frz o (.lst xs)) ∧ RelDs K H ds xs
 | .dic kvs => ∃ ys, H a = some (.dK ys) ∧ RelPs K H kvs ys
 | .dit kvs => ∃ ys, H a = some (.dT ys) ∧ RelPs K H kvs ys
 | .ins C fs => ∃ dx ys, H a = some (.ins C dx ys) ∧ RelPs K H fs ys
 | .exc C fs => ∃ dx ys, H a = some (.ext (XH a C dx)) ∧ XDict H dx ys ∧ RelPs K H fs ys
 | .frd kvs => ∃ o ys, H a = some (.frz o (.dK ys)) ∧ RelPs K H kvs ys
theorem _root_.L2.XDict.le {H H' : Hp} (l : Le H H') {dx : Option Addr} {ys : List (Str × V)} (h : XDict H dx ys) : XDict H' dx ys := by
 cases dx with
 | none => exact h
 | some d => obtain ⟨o, e⟩ := h; exact ⟨o, l.frzs _ _ _ e⟩
def Con (K : PySem.W.Frag) (G : Gp) (H : Hp) : Prop := ∀ a o, G a = some o → ObjD K H a o
section
variable {K : PySem.W.Frag} {G : Gp} {H H' : Hp} {a p : Addr} {o : DO}
theorem ObjD.some (h : ObjD K H a o) : ∃ u, H a = some u := by
 cases o with
 | lst ds => obtain ⟨xs, e, _⟩ := h; exact ⟨_, e⟩
 | fro ds => obtain ⟨_, xs, e, _⟩ := h; exact ⟨_, e⟩
 | dic ds => obtain ⟨xs, e, _⟩ := h; exact ⟨_, e⟩
 | dit ds => obtain ⟨xs, e, _⟩ := h; exact ⟨_, e⟩
 | ins C ds => obtain ⟨_, xs, e, _⟩ := h; exact ⟨_, e⟩
 | exc C ds => obtain ⟨_, xs, e, _⟩ := h; exact ⟨_, e⟩
 | frd ds => obtain ⟨_, xs, e, _⟩ := h; exact ⟨_, e⟩
theorem ObjD.stay (h : ObjD K H a o) (l : Le H H') (e : H' a = H a) : ObjD K H' a o := by
 cases o with
 | lst ds => obtain ⟨xs, q, r⟩ := h; exact ⟨xs, e.trans q, RelDs.le l r⟩
 | fro ds => obtain ⟨o, xs, q, r⟩ := h; exact ⟨o, xs, e.trans q, RelDs.le l r⟩
 | dic ds => obtain ⟨xs, q, r⟩ := h; exact ⟨xs, e.trans q, r.le l⟩
 | dit ds => obtain ⟨xs, q, r⟩ := h; exact ⟨xs, e.trans q, r.le l⟩
 | ins C ds => obtain ⟨dx, xs, q, r⟩ := h; exact ⟨dx, xs, e.trans q, r.le l⟩
 | exc C ds => obtain ⟨dx, xs, q, z, r⟩ := h; exact ⟨dx, xs, e.trans q, z.le l, r.le l⟩
 | frd ds => obtain ⟨o, xs, q, r⟩ := h; exact ⟨o, xs, e.trans q, r.le l⟩
theorem Con.fresh (c : Con K G H) (h : H p = none) : G p = none := by
 cases e : G p with
 | none => rfl
 | some o => obtain ⟨u, q⟩ := (c p o e).some; rw [h] at q; cases q
theorem Con.stay (c : Con K G H) (l : Le H H') (e : ∀ a o, G a = some o → H' a = H a) : Con K G H' := fun a o q => (c a o q).stay l (e a o q)
theorem Con.side {u : HO} (c : Con K G H) (h : H p = none) : Con K G (upd H p u) := c.stay (Le.fresh h) fun a o q => by
 obtain ⟨u, e⟩ := (c a o q).some
 exact upd_ne (ne_of_none e h)
theorem Con.put {u : HO} (c : Con K G H) (l : Le H (upd H p u)) (n : ObjD K (upd H p u) p o) : Con K (gup G p o) (upd H p u) := fun b q e => by
 by_cases hb : b = p
 ·subst hb; rw [gup_same] at e; cases e; exact n
 ·rw [gup_ne hb] at e
  exact (c b q e).stay l (upd_ne hb)
theorem Le.lst {xs ys : List V} (h : H p = some (.lst xs)) : Le H (upd H p (.lst ys)) :=
  ⟨fun b zs q => by by_cases e : b = p
                    · subst e; rw [h] at q; cases q
                    · rw [upd_ne e]; exact q,
   fun b o u q => by by_cases e : b = p
                     · subst e; rw [h] at q; cases q
                     · rw [upd_ne e]; exact q⟩
theorem Le.dK {xs ys : List (Key × V)} (h : H p = some (.dK xs)) : Le H (upd H p (.dK ys)) :=
  ⟨fun b zs q => by by_cases e : b = p
                    · subst e; rw [h] at q; cases q
                    · rw [upd_ne e]; exact q,
   fun b o u q => by by_cases e : b = p
                     · subst e; rw [h] at q; cases q
                     · rw [upd_ne e]; exact q⟩
theorem Le.ins {C dx C' dx' : Addr} {xs ys : List (Str × V)} (h : H p = some (.ins C dx xs)) : Le H (upd H p (.ins C' dx' ys)) :=
  ⟨fun b zs q => by by_cases e : b = p
                    · subst e; rw [h] at q; cases q
                    · rw [upd_ne e]; exact q,
   fun b o u q => by by_cases e : b = p
                     · subst e; rw [h] at q; cases q
                     · rw [upd_ne e]; exact q⟩
theorem Con.lstNew {ds : List D} {xs : List V} (c : Con K G H) (h : H p = none) (r : RelDs K H ds xs) : Con K (gup G p (.lst ds)) (upd H p (.lst xs)) :=
 c.put (Le.fresh h) ⟨xs, upd_same, RelDs.le (Le.fresh h) r⟩
theorem Con.lstSet {ds : List D} {xs ys : List V} (c : Con K G H) (h : H p = some (.lst ys)) (r : RelDs K H ds xs) : Con K (gup G p (.lst ds)) (upd H p (.lst xs)) :=
 c.put (Le.lst h) ⟨xs, upd_same, RelDs.le (Le.lst h) r⟩
end
noncomputable abbrev DSt := List (Option D)
def RelSt (K : PySem.W.Frag) (H : Hp) (σd : DSt) (σ : St) : Prop := σd.length = σ.length ∧ ∀ (i : Nat) d, σd[i]? = some (some d) → ∃ v, σ[i]? = some (some v) ∧ RelD K H d v
theorem RelSt.le {K : PySem.W.Frag} {H H' : Hp} {σd : DSt} {σ : St} (h : RelSt K H σd σ) (l : Le H H') : RelSt K H' σd σ :=
 ⟨h.1, fun i d e => let ⟨v, a, b⟩ := h.2 i d e; ⟨v, a, RelD.le l b⟩⟩
theorem RelSt.set {K : PySem.W.Frag} {H : Hp} {σd : DSt} {σ : St} {d : D} {v : V} (h : RelSt K H σd σ) (i : Nat) (r : RelD K H d v) : RelSt K H (σd.set i (some d)) (σ.set i (some v)) := by
 refine ⟨by rw [List.length_set, List.length_set]; exact h.1, fun j e q => ?_⟩
 rw [List.getElem?_set] at q
 split at q
 ·rename_i hij; subst hij
  split at q
  ·rename_i hl; cases q
   exact ⟨v, by rw [List.getElem?_set_self (by rw [← h.1]; exact hl)], r⟩
  ·cases q
 ·rename_i hij
  obtain ⟨w, a, b⟩ := h.2 j e q
  exact ⟨w, by rw [List.getElem?_set_ne hij]; exact a, b⟩
noncomputable abbrev DK := D → Gp → Prop
noncomputable abbrev TE3 := DSt → Gp → DK → Prop
noncomputable abbrev TT3 := DSt → Gp → (Bool → Gp → Prop) → Prop
noncomputable abbrev TA3 := DSt → Gp → (List D → Gp → Prop) → Prop
structure Ends3 where
 nx : DSt → Gp → Prop
 rt : DK
 bk : DSt → Gp → Prop := fun _ _ => False
 ct : DSt → Gp → Prop := fun _ _ => False
noncomputable abbrev TS3 := Ends3 → DSt → Gp → Prop
def FutE (K : PySem.W.Frag) (H : Hp) (q : DK) (Q : VK) : Prop := ∀ d G' v H', RelD K H' d v → Con K G' H' → Le H H' → q d G' → Q v H'
def FutT (K : PySem.W.Frag) (H : Hp) (q : Bool → Gp → Prop) (Q : Bool → Hp → Prop) : Prop := ∀ b G' H', Con K G' H' → Le H H' → q b G' → Q b H'
def FutA (K : PySem.W.Frag) (H : Hp) (q : List D → Gp → Prop) (Q : List V → Hp → Prop) : Prop := ∀ ds G' vs H', RelDs K H' ds vs → Con K G' H' → Le H H' → q ds G' → Q vs H'
def FutS (K : PySem.W.Frag) (H : Hp) (q : DSt → Gp → Prop) (Q : St → Hp → Prop) : Prop := ∀ σd G' σ H', RelSt K H' σd σ → Con K G' H' → Le H H' → q σd G' → Q σ H'
theorem FutE.le {K : PySem.W.Frag} {H H1 : Hp} {q : DK} {Q : VK} (f : FutE K H q Q) (l : Le H H1) : FutE K H1 q Q := fun d G v H' r c l' => f d G v H' r c (l.trans l')
theorem FutS.le {K : PySem.W.Frag} {H H1 : Hp} {q : DSt → Gp → Prop} {Q : St → Hp → Prop} (f : FutS K H q Q) (l : Le H H1) : FutS K H1 q Q := fun d G v H' r c l' => f d G v H' r c (l.trans l')
structure FutD (K : PySem.W.Frag) (H : Hp) (d : Ends3) (D : Ends) : Prop where
 nx : FutS K H d.nx D.nx
 rt : FutE K H d.rt D.rt
 bk : FutS K H d.bk D.bk
 ct : FutS K H d.ct D.ct
theorem FutD.le {K : PySem.W.Frag} {H H1 : Hp} {d : Ends3} {D : Ends} (f : FutD K H d D) (l : Le H H1) : FutD K H1 d D := ⟨f.nx.le l, f.rt.le l, f.bk.le l, f.ct.le l⟩
def lowE (K : PySem.W.Frag) (t : TE3) : TE := fun σ H Q => ∃ σd G q, RelSt K H σd σ ∧ Con K G H ∧ t σd G q ∧ FutE K H q Q
def lowT (K : PySem.W.Frag) (t : TT3) : TT := fun σ H Q => ∃ σd G q, RelSt K H σd σ ∧ Con K G H ∧ t σd G q ∧ FutT K H q Q
def lowA (K : PySem.W.Frag) (t : TA3) : TA := fun σ H Q => ∃ σd G q, RelSt K H σd σ ∧ Con K G H ∧ t σd G q ∧ FutA K H q Q
def lowS (K : PySem.W.Frag) (t : TS3) : TS := fun D σ H => ∃ σd G d, RelSt K H σd σ ∧ Con K G H ∧ t d σd G ∧ FutD K H d D
noncomputable abbrev R3 := D → D → Gp → DK → Prop
def lowR (K : PySem.W.Frag) (r : R3) : R2 := fun x y H Q => ∃ d e G q, RelD K H d x ∧ RelD K H e y ∧ Con K G H ∧ r d e G q ∧ FutE K H q Q
noncomputable abbrev U3 := D → Gp → DK → Prop
def lowU (K : PySem.W.Frag) (r : U3) : V → Hp → VK → Prop := fun x H Q => ∃ d G q, RelD K H d x ∧ Con K G H ∧ r d G q ∧ FutE K H q Q
noncomputable abbrev C3 := List D → Gp → DK → Prop
def lowC (K : PySem.W.Frag) (r : C3) : List V → Hp → VK → Prop := fun xs H Q => ∃ ds G q, RelDs K H ds xs ∧ Con K G H ∧ r ds G q ∧ FutE K H q Q
def dVar (i : Nat) : TE3 := fun σ G q => match σ[i]? with | some (some d) => q d G | _ => False
def dC (d : D) : TE3 := fun _ G q => q d G
def dOp (r : R3) (ta tb : TE3) : TE3 := fun σ G q => ta σ G fun x G1 => tb σ G1 fun y G2 => r x y G2 q
def dUn (r : U3) (ta : TE3) : TE3 := fun σ G q => ta σ G fun x G1 => r x G1 q
def dNil : TA3 := fun _ G q => q [] G
def dCons (ta : TE3) (tr : TA3) : TA3 := fun σ G q => ta σ G fun x G1 => tr σ G1 fun xs G2 => q (x :: xs) G2
def dTup (t : TA3) : TE3 := fun σ G q => t σ G fun xs G1 => xs.length ≤ sizeLine ∧ q (.tup xs) G1
def dLst (t : TA3) : TE3 := fun σ G q => t σ G fun xs G1 => xs.length ≤ sizeLine ∧ ∀ p, G1 p = none → q (.ref p) (gup G1 p (.lst xs))
def dB (t : TE3) : TT3 := fun σ G q => t σ G fun x G1 => match x with | .bl c => q c G1 | _ => False
def dAnd (t u : TT3) : TT3 := fun σ G q => t σ G fun c G1 => if c = true then u σ G1 q else q false G1
def dOr (t u : TT3) : TT3 := fun σ G q => t σ G fun c G1 => if c = true then q true G1 else u σ G1 q
def dNot (t : TT3) : TT3 := fun σ G q => t σ G fun c G1 => q (!c) G1
def dAndV (ta tb : TE3) : TE3 := fun σ G q => ta σ G fun x G1 => match x with | .bl c => if c = true then tb σ G1 q else q (.bl false) G1 | _ => False
def dOrV (ta tb : TE3) : TE3 := fun σ G q => ta σ G fun x G1 => match x with | .bl c => if c = true then q (.bl true) G1 else tb σ G1 q | _ => False
def dNotV (ta : TE3) : TE3 := fun σ G q => ta σ G fun x G1 => match x with | .bl c => q (.bl (!c)) G1 | _ => False
def dIf (t : TT3) (ta tb : TE3) : TE3 := fun σ G q => t σ G fun c G1 => if c = true then ta σ G1 q else tb σ G1 q
section
variable {K : PySem.W.Frag} {σ : St} {H : Hp} {Q : VK}
theorem low_var {i : Nat} (h : lowE K (dVar i) σ H Q) : tVar i σ H Q := by
 obtain ⟨σd, G, q, rs, c, t, f⟩ := h
 unfold dVar at t
 split at t
 ·rename_i d e
  obtain ⟨v, hv, r⟩ := rs.2 i d e
  exact ⟨v, hv, f d G v H r c (Le.refl H) t⟩
 ·exact t.elim
theorem low_c {d : D} {v : V} (r : ∀ H, RelD K H d v) (h : lowE K (dC d) σ H Q) : tC v σ H Q := by
 obtain ⟨σd, G, q, rs, c, t, f⟩ := h
 exact f d G v H (r H) c (Le.refl H) t
theorem low_op {r : R3} {ta tb : TE3} (h : lowE K (dOp r ta tb) σ H Q) : tOp (lowR K r) (lowE K ta) (lowE K tb) σ H Q := by
 obtain ⟨σd, G, q, rs, c, t, f⟩ := h
 exact ⟨σd, G, _, rs, c, t, fun d G1 v H1 r1 c1 l1 t1 => ⟨σd, G1, _, rs.le l1, c1, t1, fun e G2 u H2 r2 c2 l2 t2 => ⟨d, e, G2, q, RelD.le l2 r1, r2, c2, t2, f.le (l1.trans l2)⟩⟩⟩
theorem low_un {r : U3} {ta : TE3} (h : lowE K (dUn r ta) σ H Q) : tUn (lowU K r) (lowE K ta) σ H Q := by
 obtain ⟨σd, G, q, rs, c, t, f⟩ := h
 exact ⟨σd, G, _, rs, c, t, fun d G1 v H1 r1 c1 l1 t1 => ⟨d, G1, q, r1, c1, t1, f.le l1⟩⟩
theorem low_nil {Q : List V → Hp → Prop} (h : lowA K dNil σ H Q) : tNil σ H Q := by
 obtain ⟨σd, G, q, rs, c, t, f⟩ := h
 exact f [] G [] H .nil c (Le.refl H) t
theorem low_cons {ta : TE3} {tr : TA3} {Q : List V → Hp → Prop} (h : lowA K (dCons ta tr) σ H Q) : tCons (lowE K ta) (lowA K tr) σ H Q := by
 obtain ⟨σd, G, q, rs, c, t, f⟩ := h
 exact ⟨σd, G, _, rs, c, t, fun d G1 v H1 r1 c1 l1 t1 => ⟨σd, G1, _, rs.le l1, c1, t1, fun ds G2 vs H2 r2 c2 l2 t2 => f (d :: ds) G2 (v :: vs) H2 (.cons (RelD.le l2 r1) r2) c2 (l1.trans l2) t2⟩⟩
theorem low_tup {ta : TA3} (h : lowE K (dTup ta) σ H Q) : tTup (lowA K ta) σ H Q := by
 obtain ⟨σd, G, q, rs, c, t, f⟩ := h
 refine ⟨σd, G, _, rs, c, t, fun ds G1 vs H1 r1 c1 l1 t1 => ⟨by rw [← r1.length]; exact t1.1, fun p hp => ?_⟩⟩
 refine f (.tup ds) G1 (.ref p) _ ?_ (c1.side hp) (l1.trans (Le.fresh hp)) t1.2
 rw [RelD]
 exact ⟨p, vs, rfl, SqT.of upd_same, RelDs.le (Le.fresh hp) r1⟩
theorem low_lst {ta : TA3} (h : lowE K (dLst ta) σ H Q) : tLst (lowA K ta) σ H Q := by
 obtain ⟨σd, G, q, rs, c, t, f⟩ := h
 refine ⟨σd, G, _, rs, c, t, fun ds G1 vs H1 r1 c1 l1 t1 => ⟨by rw [← r1.length]; exact t1.1, fun p hp => ?_⟩⟩
 exact f (.ref p) _ (.ref p) _ (by rw [RelD]) (c1.lstNew hp r1) (l1.trans (Le.fresh hp)) (t1.2 p (c1.fresh hp))
theorem RelD.bl_inv {c : Bool} {v : V} (h : RelD K H (.bl c) v) : v = .bl c := by rw [RelD] at h; exact h
theorem low_andT {t u : TT3} {Q : Bool → Hp → Prop} (h : lowT K (dAnd t u) σ H Q) : tAnd (lowT K t) (lowT K u) σ H Q := by
 obtain ⟨σd, G, q, rs, c, t, f⟩ := h
 refine ⟨σd, G, _, rs, c, t, fun b G1 H1 c1 l1 t1 => ?_⟩
 cases b with
 | true => rw [if_pos rfl] at t1 ⊢; exact ⟨σd, G1, q, rs.le l1, c1, t1, fun b G2 H2 c2 l2 t2 => f b G2 H2 c2 (l1.trans l2) t2⟩
 | false => rw [if_neg Bool.false_ne_true] at t1 ⊢; exact f _ _ _ c1 l1 t1
theorem low_orT {t u : TT3} {Q : Bool → Hp → Prop} (h : lowT K (dOr t u) σ H Q) : tOr (lowT K t) (lowT K u) σ H Q := by
 obtain ⟨σd, G, q, rs, c, t, f⟩ := h
 refine ⟨σd, G, _, rs, c, t, fun b G1 H1 c1 l1 t1 => ?_⟩
 cases b with
 | false => rw [if_neg Bool.false_ne_true] at t1 ⊢; exact ⟨σd, G1, q, rs.le l1, c1, t1, fun b G2 H2 c2 l2 t2 => f b G2 H2 c2 (l1.trans l2) t2⟩
 | true => rw [if_pos rfl] at t1 ⊢; exact f _ _ _ c1 l1 t1
theorem low_notT {t : TT3} {Q : Bool → Hp → Prop} (h : lowT K (dNot t) σ H Q) : tNot (lowT K t) σ H Q := by
 obtain ⟨σd, G, q, rs, c, t, f⟩ := h
 exact ⟨σd, G, _, rs, c, t, fun b G1 H1 c1 l1 t1 => f _ _ _ c1 l1 t1⟩
theorem low_if {t : TT3} {ta tb : TE3} (h : lowE K (dIf t ta tb) σ H Q) : tIf (lowT K t) (lowE K ta) (lowE K tb) σ H Q := by
 obtain ⟨σd, G, q, rs, c, t, f⟩ := h
 refine ⟨σd, G, _, rs, c, t, fun b G1 H1 c1 l1 t1 => ?_⟩
 cases b with
 | true => rw [if_pos rfl] at t1 ⊢; exact ⟨σd, G1, q, rs.le l1, c1, t1, f.le l1⟩
 | false => rw [if_neg Bool.false_ne_true] at t1 ⊢; exact ⟨σd, G1, q, rs.le l1, c1, t1, f.le l1⟩
end
end L3
namespace L3
open PySem L2
set_option maxHeartbeats 4000000
def dNext : TS3 := fun E σ G => E.nx σ G
def Go (k : DSt → Gp → Prop) (σ : DSt) (G : Gp) : Prop := k σ G
def dSeq (t u : TS3) : TS3 := fun E σ G => t { E with nx := Go (u E) } σ G
def dDrop (te : TE3) : TS3 := fun E σ G => te σ G fun _ G1 => E.nx σ G1
def dRet (te : TE3) : TS3 := fun E σ G => te σ G E.rt
def dRetN : TS3 := fun E _ G => E.rt .non G
def dIfS (c : TT3) (t u : TS3) : TS3 := fun E σ G => c σ G fun b G1 => if b = true then t E σ G1 else u E σ G1
noncomputable abbrev TG3 := D → DSt → Gp → (DSt → Gp → Prop) → Prop
noncomputable abbrev TGs3 := List D → DSt → Gp → (DSt → Gp → Prop) → Prop
def lowG (K : PySem.W.Frag) (t : TG3) : TG := fun v σ H Q => ∃ d σd G q, RelD K H d v ∧ RelSt K H σd σ ∧ Con K G H ∧ t d σd G q ∧ FutS K H q Q
def lowGs (K : PySem.W.Frag) (t : TGs3) : TGs := fun vs σ H Q => ∃ ds σd G q, RelDs K H ds vs ∧ RelSt K H σd σ ∧ Con K G H ∧ t ds σd G q ∧ FutS K H q Q
def jName (i : Nat) : TG3 := fun d σ G q => q (σ.set i (some d)) G
def jNil : TGs3 := fun ds σ G q => ds = [] ∧ q σ G
def jCons (t : TG3) (u : TGs3) : TGs3 := fun ds σ G q => match ds with | d :: r => t d σ G fun σ' G' => u r σ' G' q | [] => False
noncomputable abbrev TSet3 := D → D → D → Gp → (Gp → Prop) → Prop
def lowSet (K : PySem.W.Frag) (t : TSet3) : TSet := fun o i v H Q => ∃ d e x G q, RelD K H d o ∧ RelD K H e i ∧ RelD K H x v ∧ Con K G H ∧ t d e x G q ∧ ∀ G' H', Con K G' H' → Le H H' → q G' → Q H'
def jSub (to ti : TE3) (t : TSet3) : TG3 := fun d σ G q => to σ G fun o G1 => ti σ G1 fun i G2 => t o i d G2 fun G3 => q σ G3
def dAsg (te : TE3) (g : TG3) : TS3 := fun E σ G => te σ G fun x G1 => g x σ G1 E.nx
section
variable {K : PySem.W.Frag} {σ : St} {H : Hp} {E : Ends}
theorem low_next (h : lowS K dNext E σ H) : tNext E σ H := by
 obtain ⟨σd, G, d, rs, c, t, f⟩ := h
 exact f.nx _ _ _ _ rs c (Le.refl H) t
theorem low_seq {t u : TS3} (h : lowS K (dSeq t u) E σ H) : tSeq (lowS K t) (lowS K u) E σ H := by
 obtain ⟨σd, G, d, rs, c, t, f⟩ := h
 exact ⟨σd, G, _, rs, c, t, fun σd' G' σ' H' rs' c' l' t' => ⟨σd', G', d, rs', c', t', f.le l'⟩, f.rt, f.bk, f.ct⟩
theorem low_drop {te : TE3} (h : lowS K (dDrop te) E σ H) : tDrop (lowE K te) E σ H := by
 obtain ⟨σd, G, d, rs, c, t, f⟩ := h
 exact ⟨σd, G, _, rs, c, t, fun x G1 v H1 r1 c1 l1 t1 => f.nx _ _ _ _ (rs.le l1) c1 l1 t1⟩
theorem low_ret {te : TE3} (h : lowS K (dRet te) E σ H) : tRet (lowE K te) E σ H := by
 obtain ⟨σd, G, d, rs, c, t, f⟩ := h
 exact ⟨σd, G, _, rs, c, t, f.rt⟩
theorem low_ifS {tc : TT3} {t u : TS3} (h : lowS K (dIfS tc t u) E σ H) : tIfS (lowT K tc) (lowS K t) (lowS K u) E σ H := by
 obtain ⟨σd, G, d, rs, c, t, f⟩ := h
 refine ⟨σd, G, _, rs, c, t, fun b G1 H1 c1 l1 t1 => ?_⟩
 cases b with
 | true => rw [if_pos rfl] at t1 ⊢; exact ⟨σd, G1, d, rs.le l1, c1, t1, f.le l1⟩
 | false => rw [if_neg Bool.false_ne_true] at t1 ⊢; exact ⟨σd, G1, d, rs.le l1, c1, t1, f.le l1⟩
theorem low_jName {i : Nat} {v : V} {Q : St → Hp → Prop} (h : lowG K (jName i) v σ H Q) : gName i v σ H Q := by
 obtain ⟨d, σd, G, q, r, rs, c, t, f⟩ := h
 exact f _ _ _ _ (rs.set i r) c (Le.refl H) t
theorem low_jNil {vs : List V} {Q : St → Hp → Prop} (h : lowGs K jNil vs σ H Q) : gNil vs σ H Q := by
 obtain ⟨ds, σd, G, q, r, rs, c, ⟨e, t⟩, f⟩ := h
 subst e
 exact ⟨r.inv_nil, f _ _ _ _ rs c (Le.refl H) t⟩
theorem low_jCons {t : TG3} {u : TGs3} {vs : List V} {Q : St → Hp → Prop} (h : lowGs K (jCons t u) vs σ H Q) : gCons (lowG K t) (lowGs K u) vs σ H Q := by
 obtain ⟨ds, σd, G, q, r, rs, c, t, f⟩ := h
 cases ds with
 | nil => exact t.elim
 | cons d ds =>
  obtain ⟨x, xs, rfl, r1, r2⟩ := r.inv_cons
  exact ⟨x, xs, rfl, d, σd, G, _, r1, rs, c, t, fun σd' G' σ' H' rs' c' l' t' => ⟨ds, σd', G', q, RelDs.le l' r2, rs', c', t', f.le l'⟩⟩
theorem low_jSub {to ti : TE3} {t : TSet3} {v : V} {Q : St → Hp → Prop} (h : lowG K (jSub to ti t) v σ H Q) : gSub (lowE K to) (lowE K ti) (lowSet K t) v σ H Q := by
 obtain ⟨d, σd, G, q, r, rs, c, t, f⟩ := h
 exact ⟨σd, G, _, rs, c, t, fun o G1 vo H1 r1 c1 l1 t1 => ⟨σd, G1, _, rs.le l1, c1, t1, fun i G2 vi H2 r2 c2 l2 t2 => ⟨o, i, d, G2, _, RelD.le l2 r1, r2, RelD.le (l1.trans l2) r, c2, t2, fun G3 H3 c3 l3 t3 =>
  f _ _ _ _ (rs.le (l1.trans (l2.trans l3))) c3 (l1.trans (l2.trans l3)) t3⟩⟩⟩
theorem low_asg {te : TE3} {g : TG3} (h : lowS K (dAsg te g) E σ H) : tAsg (lowE K te) (lowG K g) E σ H := by
 obtain ⟨σd, G, d, rs, c, t, f⟩ := h
 exact ⟨σd, G, _, rs, c, t, fun x G1 v H1 r1 c1 l1 t1 => ⟨x, σd, G1, _, r1, rs.le l1, c1, t1, f.nx.le l1⟩⟩
end
def whN (c : TT3) (tb : TS3) (E : Ends3) : Nat → DSt → Gp → Prop
 | 0, _, _ => False
 | n + 1, σ, G => c σ G fun b G1 => if b = true then tb { E with nx := whN c tb E n, ct := whN c tb E n, bk := E.nx } σ G1 else E.nx σ G1
def dWhile (c : TT3) (tb : TS3) : TS3 := fun E σ G => ∃ n, whN c tb E n σ G
theorem low_while {K : PySem.W.Frag} {c : TT3} {tb : TS3} {σ : St} {H : Hp} {E : Ends} (h : lowS K (dWhile c tb) E σ H) : tWhile (lowT K c) (lowS K tb) E σ H := by
 obtain ⟨σd, G, d, rs, cc, ⟨n, t⟩, f⟩ := h
 refine ⟨fun m σ' H' => ∃ σd' G', Le H H' ∧ RelSt K H' σd' σ' ∧ Con K G' H' ∧ whN c tb d m σd' G', ⟨n, σd, G, Le.refl H, rs, cc, t⟩, ?_⟩
 rintro m σ1 H1 ⟨σd1, G1, l1, rs1, c1, t1⟩
 cases m with
 | zero => exact t1.elim
 | succ m =>
  refine ⟨σd1, G1, _, rs1, c1, t1, fun b G2 H2 c2 l2 t2 => ?_⟩
  cases b with
  | true =>
   rw [if_pos rfl] at t2 ⊢
   refine ⟨fun σ' H' => ∃ σd' G', Le H H' ∧ RelSt K H' σd' σ' ∧ Con K G' H' ∧ whN c tb d m σd' G', fun σ' H' w => ⟨m, Nat.lt_succ_self m, w⟩, σd1, G2, _, rs1.le l2, c2, t2, ?_, ?_, ?_, ?_⟩
   ·exact fun σd3 G3 σ3 H3 rs3 c3 l3 t3 => ⟨σd3, G3, l1.trans (l2.trans l3), rs3, c3, t3⟩
   ·exact f.rt.le (l1.trans l2)
   ·exact f.nx.le (l1.trans l2)
   ·exact fun σd3 G3 σ3 H3 rs3 c3 l3 t3 => ⟨σd3, G3, l1.trans (l2.trans l3), rs3, c3, t3⟩
  | false =>
   rw [if_neg Bool.false_ne_true] at t2 ⊢
   exact f.nx _ _ _ _ (rs1.le l2) c2 (l1.trans l2) t2
structure IT where
 items : List D
 ok : Gp → Prop
structure ItRel (K : PySem.W.Frag) (H0 : Hp) (it : IT) (J : It) : Prop where
 go : ∀ (i : Nat) G H, Le H0 H → Con K G H → it.ok G → i < it.items.length → J.go i H
 stop : ∀ (i : Nat) G H, Le H0 H → Con K G H → it.ok G → it.items.length ≤ i → J.stop i H
 yld : ∀ (i : Nat) G H x H', Le H0 H → Con K G H → it.ok G → i < it.items.length → J.yld i H x H' → Con K G H' ∧ Le H H' ∧ ∃ d, it.items[i]? = some d ∧ RelD K H' d x
noncomputable abbrev TI3 := DSt → Gp → (IT → Gp → Prop) → Prop
def lowI (K : PySem.W.Frag) (t : TI3) : TI := fun σ H R => ∃ σd G r, RelSt K H σd σ ∧ Con K G H ∧ t σd G r ∧ ∀ it J G' H', ItRel K H' it J → Con K G' H' → Le H H' → r it G' → R J H'
def forL (ok : Gp → Prop) (g : TG3) (tb : TS3) (E : Ends3) : List D → DSt → Gp → Prop
 | [], σ, G => ok G ∧ E.nx σ G
 | x :: r, σ, G => ok G ∧ g x σ G fun σ1 G1 => tb { E with nx := forL ok g tb E r, ct := forL ok g tb E r, bk := E.nx } σ1 G1
def dFor (wi : TI3) (g : TG3) (tb : TS3) : TS3 := fun E σ G => wi σ G fun it G1 => forL it.ok g tb E it.items σ G1
theorem low_for {K : PySem.W.Frag} {wi : TI3} {g : TG3} {tb : TS3} {σ : St} {H : Hp} {E : Ends} (h : lowS K (dFor wi g tb) E σ H) : tFor (lowI K wi) (lowG K g) (lowS K tb) E σ H := by
 obtain ⟨σd, G, d, rs, cc, t, f⟩ := h
 refine ⟨σd, G, _, rs, cc, t, fun it J G1 H1 ir c1 l1 t1 => ?_⟩
 refine ⟨fun i m σ' H' => ∃ σd' G', Le H1 H' ∧ RelSt K H' σd' σ' ∧ Con K G' H' ∧ i + m = it.items.length ∧ forL it.ok g tb d (it.items.drop i) σd' G', ⟨it.items.length, σd, G1, Le.refl _, rs.le l1, c1, by omega, by rw [List.drop_zero]; exact t1⟩, ?_⟩
 rintro i m σ2 H2 ⟨σd2, G2, l2, rs2, c2, e2, t2⟩
 by_cases hi : i < it.items.length
 ·rw [List.drop_eq_getElem_cons hi] at t2
  obtain ⟨ok2, t2⟩ := t2
  refine .inr ⟨ir.go i G2 H2 l2 c2 ok2 hi, fun σ' H' => ∃ σd' G', Le H1 H' ∧ RelSt K H' σd' σ' ∧ Con K G' H' ∧ forL it.ok g tb d (it.items.drop (i + 1)) σd' G', ?_, ?_⟩
  ·rintro σ' H' ⟨σd', G', a1, a2, a3, a4⟩
   exact ⟨m - 1, by omega, σd', G', a1, a2, a3, by omega, a4⟩
  ·intro x H3 y
   obtain ⟨c3, l3, e, he, r3⟩ := ir.yld i G2 H2 x H3 l2 c2 ok2 hi y
   rw [List.getElem?_eq_getElem hi] at he
   cases he
   refine ⟨_, σd2, G2, _, r3, rs2.le l3, c3, t2, fun σd4 G4 σ4 H4 rs4 c4 l4 t4 => ?_⟩
   have l14 : Le H1 H4 := l2.trans (l3.trans l4)
   have key : FutS K H4 (forL it.ok g tb d (it.items.drop (i + 1))) (fun σ' H' => ∃ σd' G', Le H1 H' ∧ RelSt K H' σd' σ' ∧ Con K G' H' ∧ forL it.ok g tb d (it.items.drop (i + 1)) σd' G') :=
    fun σd5 G5 σ5 H5 rs5 c5 l5 t5 => ⟨σd5, G5, l14.trans l5, rs5, c5, t5⟩
   exact ⟨σd4, G4, _, rs4, c4, t4, key, f.rt.le (l1.trans l14), f.nx.le (l1.trans l14), key⟩
 ·rw [List.drop_eq_nil_of_le (by omega)] at t2
  exact .inl ⟨ir.stop i G2 H2 l2 c2 t2.1 (by omega), f.nx _ _ _ _ rs2 c2 (l1.trans l2) t2.2⟩
theorem RelDs.at_ {K : PySem.W.Frag} {H : Hp} {ds : List D} {xs : List V} {i : Nat} {x : V} (h : RelDs K H ds xs) (e : xs[i]? = some x) : ∃ d, ds[i]? = some d ∧ RelD K H d x := by
 have hl : i < ds.length := by rw [h.length]; exact (List.getElem?_eq_some_iff.mp e).1
 obtain ⟨y, hy, r⟩ := h.get (List.getElem?_eq_getElem hl)
 rw [e] at hy; cases hy
 exact ⟨_, List.getElem?_eq_getElem hl, r⟩
theorem itrel_tup {K : PySem.W.Frag} {H0 : Hp} {a : Addr} {ds : List D} {xs : List V} (s : SqT K H0 a xs) (r : RelDs K H0 ds xs) : ItRel K H0 ⟨ds, fun _ => True⟩ (Itt K a) where
 go := fun i G H l c _ hi => ⟨xs, xs[i]'(by rw [← r.length]; exact hi), l.sqT s, List.getElem?_eq_getElem _⟩
 stop := fun i G H l c _ hi => ⟨xs, l.sqT s, by rw [← r.length]; exact hi⟩
 yld := fun i G H x H' l c _ hi y => by
  obtain ⟨e, y⟩ := y
  subst e
  have hx := y xs (l.sqT s)
  obtain ⟨d, hd, rd⟩ := (RelDs.le l r).at_ hx
  exact ⟨c, Le.refl _, d, hd, rd⟩
noncomputable def seqOf : Option DO → Option (List D)
 | some (.lst xs) => some xs
 | some (.fro xs) => some xs
 | _ => none
theorem sql_of {K : PySem.W.Frag} {G : Gp} {H : Hp} {a : Addr} {ds : List D} (c : Con K G H) (h : seqOf (G a) = some ds) : ∃ xs, SqL K H a xs ∧ RelDs K H ds xs := by
 cases e : G a with
 | none => rw [e] at h; cases h
 | some o =>
  rw [e] at h
  have q := c a o e
  cases o with
  | lst xs => cases h; obtain ⟨ys, q, r⟩ := q; exact ⟨ys, .inl (.inl q), r⟩
  | fro xs => cases h; obtain ⟨o, ys, q, r⟩ := q; exact ⟨ys, .inl (.inr ⟨o, q⟩), r⟩
  | dic _ => cases h
  | dit _ => cases h
  | ins _ _ => cases h
  | exc _ _ => cases h
  | frd _ => cases h
theorem itrel_list {K : PySem.W.Frag} {H0 : Hp} {a : Addr} {ds : List D} : ItRel K H0 ⟨ds, fun G => seqOf (G a) = some ds⟩ (Itl K a) where
 go := fun i G H l c ok hi => by
  obtain ⟨xs, s, r⟩ := sql_of c ok
  exact ⟨xs, xs[i]'(by rw [← r.length]; exact hi), s, List.getElem?_eq_getElem _⟩
 stop := fun i G H l c ok hi => by
  obtain ⟨xs, s, r⟩ := sql_of c ok
  exact ⟨xs, s, by rw [← r.length]; exact hi⟩
 yld := fun i G H x H' l c ok hi y => by
  obtain ⟨e, y⟩ := y
  subst e
  obtain ⟨xs, s, r⟩ := sql_of c ok
  obtain ⟨d, hd, rd⟩ := r.at_ (y xs s)
  exact ⟨c, Le.refl _, d, hd, rd⟩
noncomputable def rngD (lo : Int) (n : Nat) : List D := (List.range n).map fun (i : Nat) => .int (lo + i)
theorem itrel_range {K : PySem.W.Frag} {H0 : Hp} {lo : Int} {n : Nat} : ItRel K H0 ⟨rngD lo n, fun _ => True⟩ (Itr lo n) where
 go := fun i G H l c _ hi => by
  have : i < n := by simpa [rngD] using hi
  exact this
 stop := fun i G H l c _ hi => by
  have : n ≤ i := by simpa [rngD] using hi
  exact this
 yld := fun i G H x H' l c _ hi y => by
  obtain ⟨e, y⟩ := y
  subst e; subst y
  refine ⟨c, Le.refl _, .int (lo + i), ?_, by rw [RelD]⟩
  have : i < n := by simpa [rngD] using hi
  simp [rngD, this]
end L3
namespace L3
open PySem L2
set_option maxHeartbeats 4000000
noncomputable abbrev Sp3 := List D → Gp → DK → Prop
def lowSp (K : PySem.W.Frag) (S : Sp3) : Sp := fun vs H Q _ => ∃ ds G R, RelDs K H ds vs ∧ Con K G H ∧ S ds G R ∧ FutE K H R Q
def dCall (S : Sp3) (dds : List D) (t : TA3) : TE3 := fun σ G q => t σ G fun ds G1 => ∃ R, S (ds ++ dds) G1 R ∧ ∀ d G', R d G' → q d G'
def dMeth (C : Addr) (m : Str) (S : Sp3) (dds : List D) (ta : TE3) (t : TA3) : TE3 := fun σ G q => ta σ G fun x G1 => match x with
 | .ref a => (match G1 a with
  | some (.ins C' fs) => C' = C ∧ fs.lookup m = none ∧ t σ G1 fun ds G2 => ∃ R, S (.ref a :: (ds ++ dds)) G2 R ∧ ∀ d G', R d G' → q d G'
  | _ => False)
 | _ => False
def dMake (C : Addr) (S : Sp3) (dds : List D) (t : TA3) : TE3 := fun σ G q => t σ G fun ds G1 => ∀ x, G1 x = none →
 ∃ R, S (.ref x :: (ds ++ dds)) (gup G1 x (.ins C [])) R ∧ ∀ d G', R d G' → d = .non ∧ q (.ref x) G'
noncomputable def putD (f : Str) (v : D) : List (Str × D) → List (Str × D)
 | [] => [(f, v)]
 | (g, u) :: r => if g = f then (g, v) :: r else (g, u) :: putD f v r
def dFld (C : Addr) (ta : TE3) (f : Str) : TE3 := fun σ G q => ta σ G fun x G1 => match x with
 | .ref a => (match G1 a with
  | some (.ins C' fs) => C' = C ∧ (match fs.lookup f with | some d => q d G1 | none => False)
  | _ => False)
 | _ => False
def dSetF (C : Addr) (ta tv : TE3) (f : Str) : TS3 := fun E σ G => tv σ G fun y G1 => ta σ G1 fun x G2 => match x with
 | .ref a => (match G2 a with
  | some (.ins C' fs) => C' = C ∧ fs.length < 1000 ∧ E.nx σ (gup G2 a (.ins C (putD f y fs)))
  | _ => False)
 | _ => False
def dAugF (C : Addr) (ta tv : TE3) (r : R3) (f : Str) : TS3 := fun E σ G => ta σ G fun x G1 => match x with
 | .ref a => (match G1 a with
  | some (.ins C' fs) => C' = C ∧ (match fs.lookup f with
   | some d => tv σ G1 fun y G2 => r d y G2 fun z G3 => (match G3 a with
    | some (.ins C'' fs') => C'' = C ∧ fs'.length < 1000 ∧ E.nx σ (gup G3 a (.ins C (putD f z fs')))
    | _ => False)
   | none => False)
  | _ => False)
 | _ => False
section
variable {K : PySem.W.Frag} {σ : St} {H : Hp} {Q : VK} {E : Ends}
theorem low_call {S : Sp3} {dds : List D} {dvs : List V} {t : TA3} {XE : XK} (hd : ∀ H, RelDs K H dds dvs) (h : lowE K (dCall S dds t) σ H Q) : tCall (lowSp K S) dvs XE (lowA K t) σ H Q := by
 obtain ⟨σd, G, q, rs, c, t, f⟩ := h
 exact ⟨σd, G, _, rs, c, t, fun ds G1 vs H1 r1 c1 l1 ⟨R, s1, t1⟩ => ⟨_, G1, R, r1.append (hd H1), c1, s1, fun d G2 v H2 r2 c2 l2 t2 => f d G2 v H2 r2 c2 (l1.trans l2) (t1 d G2 t2)⟩⟩
theorem RelD.refI {a : Addr} : RelD K H (.ref a) (.ref a) := by rw [RelD]
theorem RelD.ref_inv {a : Addr} {v : V} (h : RelD K H (.ref a) v) : v = .ref a := by rw [RelD] at h; exact h
theorem RelPs.lookup_none {κ : Type} [BEq κ] {k : κ} : ∀ {ps : List (κ × D)} {qs : List (κ × V)}, RelPs K H ps qs → ps.lookup k = none → qs.lookup k = none
 | [], qs, h, _ => by
  cases qs with
  | nil => rfl
  | cons _ _ => have := h.1; simp at this
 | (g, d) :: ps, qs, h, e => by
  cases qs with
  | nil => have := h.1; simp at this
  | cons q qs =>
   obtain ⟨g', v⟩ := q
   have h1 := h.1
   simp only [List.map_cons, List.cons.injEq] at h1
   obtain ⟨rfl, h1⟩ := h1
   obtain ⟨x, r, e2, _, h2⟩ := (show RelDs K H (d :: ps.map (·.2)) (v :: qs.map (·.2)) from h.2).inv_cons
   cases e2
   rw [List.lookup_cons] at e ⊢
   cases hk : k == g with
   | true => rw [hk] at e; cases e
   | false => rw [hk] at e; exact RelPs.lookup_none ⟨h1, h2⟩ e
theorem RelPs.lookup {κ : Type} [BEq κ] {k : κ} {d : D} : ∀ {ps : List (κ × D)} {qs : List (κ × V)}, RelPs K H ps qs → ps.lookup k = some d → ∃ v, qs.lookup k = some v ∧ RelD K H d v
 | [], qs, h, e => by cases e
 | (g, d') :: ps, qs, h, e => by
  cases qs with
  | nil => have := h.1; simp at this
  | cons q qs =>
   obtain ⟨g', v⟩ := q
   have h1 := h.1
   simp only [List.map_cons, List.cons.injEq] at h1
   obtain ⟨rfl, h1⟩ := h1
   obtain ⟨x, r, e2, r1, h2⟩ := (show RelDs K H (d' :: ps.map (·.2)) (v :: qs.map (·.2)) from h.2).inv_cons
   cases e2
   rw [List.lookup_cons] at e ⊢
   cases hk : k == g with
   | true => rw [hk] at e; cases e; exact ⟨v, rfl, r1⟩
   | false => rw [hk] at e; exact RelPs.lookup ⟨h1, h2⟩ e
theorem RelPs.nil {κ : Type} : RelPs (κ := κ) K H [] [] := ⟨rfl, .nil⟩
theorem RelPs.cons {κ : Type} {k : κ} {d : D} {v : V} {ps : List (κ × D)} {qs : List (κ × V)} (r : RelD K H d v) (h : RelPs K H ps qs) : RelPs K H ((k, d) :: ps) ((k, v) :: qs) :=
 ⟨by simp [h.1], .cons r h.2⟩
theorem RelPs.inv_cons {κ : Type} {k : κ} {d : D} {ps : List (κ × D)} {qs : List (κ × V)} (h : RelPs K H ((k, d) :: ps) qs) : ∃ v r, qs = (k, v) :: r ∧ RelD K H d v ∧ RelPs K H ps r := by
 cases qs with
 | nil => have := h.1; simp at this
 | cons q qs =>
  obtain ⟨g', v⟩ := q
  have h1 := h.1
  simp only [List.map_cons, List.cons.injEq] at h1
  obtain ⟨rfl, h1⟩ := h1
  obtain ⟨x, r, e2, r1, h2⟩ := (show RelDs K H (d :: ps.map (·.2)) (v :: qs.map (·.2)) from h.2).inv_cons
  cases e2
  exact ⟨v, qs, rfl, r1, h1, h2⟩
theorem RelPs.inv_nil {κ : Type} {qs : List (κ × V)} (h : RelPs K H [] qs) : qs = [] := by
 cases qs with
 | nil => rfl
 | cons _ _ => have := h.1; simp at this
theorem RelPs.length {κ : Type} {ps : List (κ × D)} {qs : List (κ × V)} (h : RelPs K H ps qs) : ps.length = qs.length := by
 have := h.2.length; simpa using this
theorem low_meth {C : Addr} {m : Str} {S : Sp3} {dds : List D} {dvs : List V} {ta : TE3} {t : TA3} {XE : XK} (hd : ∀ H, RelDs K H dds dvs) (h : lowE K (dMeth C m S dds ta t) σ H Q) : tMeth C m (lowSp K S) dvs XE (lowE K ta) (lowA K t) σ H Q := by
 obtain ⟨σd, G, q, rs, c, t, f⟩ := h
 refine ⟨σd, G, _, rs, c, t, fun x G1 v H1 r1 c1 l1 t1 => ?_⟩
 split at t1
 ·rename_i a
  split at t1
  ·rename_i C' fs e
   obtain ⟨rfl, n, t1⟩ := t1
   obtain ⟨dx, ys, e2, rf⟩ := c1 _ _ e
   refine ⟨a, dx, ys, r1.ref_inv, e2, rf.lookup_none n, σd, G1, _, rs.le l1, c1, t1, fun ds G2 vs H2 r2 c2 l2 ⟨R, s2, t2⟩ => ?_⟩
   exact ⟨_, G2, R, .cons (RelD.le l2 r1) (r2.append (hd H2)), c2, s2, fun d G3 v H3 r3 c3 l3 t3 => f d G3 v H3 r3 c3 (l1.trans (l2.trans l3)) (t2 d G3 t3)⟩
  ·exact t1.elim
 ·exact t1.elim
theorem low_b {te : TE3} {Q : Bool → Hp → Prop} (h : lowT K (dB te) σ H Q) : tB (lowE K te) σ H Q := by
 obtain ⟨σd, G, q, rs, c, t, f⟩ := h
 refine ⟨σd, G, _, rs, c, t, fun x G1 v H1 r1 c1 l1 t1 => ?_⟩
 split at t1
 ·rename_i k
  exact ⟨k, r1.bl_inv, f _ _ _ c1 l1 t1⟩
 ·exact t1.elim
theorem low_andV {ta tb : TE3} (h : lowE K (dAndV ta tb) σ H Q) : tAndV (lowE K ta) (lowE K tb) σ H Q := by
 obtain ⟨σd, G, q, rs, c, t, f⟩ := h
 refine ⟨σd, G, _, rs, c, t, fun x G1 v H1 r1 c1 l1 t1 => ?_⟩
 split at t1
 ·rename_i k
  refine ⟨k, r1.bl_inv, ?_⟩
  cases k with
  | true => rw [if_pos rfl] at t1 ⊢; exact ⟨σd, G1, q, rs.le l1, c1, t1, f.le l1⟩
  | false => rw [if_neg Bool.false_ne_true] at t1 ⊢; exact f _ _ _ _ (by rw [RelD]) c1 l1 t1
 ·exact t1.elim
theorem low_orV {ta tb : TE3} (h : lowE K (dOrV ta tb) σ H Q) : tOrV (lowE K ta) (lowE K tb) σ H Q := by
 obtain ⟨σd, G, q, rs, c, t, f⟩ := h
 refine ⟨σd, G, _, rs, c, t, fun x G1 v H1 r1 c1 l1 t1 => ?_⟩
 split at t1
 ·rename_i k
  refine ⟨k, r1.bl_inv, ?_⟩
  cases k with
  | false => rw [if_neg Bool.false_ne_true] at t1 ⊢; exact ⟨σd, G1, q, rs.le l1, c1, t1, f.le l1⟩
  | true => rw [if_pos rfl] at t1 ⊢; exact f _ _ _ _ (by rw [RelD]) c1 l1 t1
 ·exact t1.elim
theorem low_notV {ta : TE3} (h : lowE K (dNotV ta) σ H Q) : tNotV (lowE K ta) σ H Q := by
 obtain ⟨σd, G, q, rs, c, t, f⟩ := h
 refine ⟨σd, G, _, rs, c, t, fun x G1 v H1 r1 c1 l1 t1 => ?_⟩
 split at t1
 ·rename_i k
  exact ⟨k, r1.bl_inv, f _ _ _ _ (by rw [RelD]) c1 l1 t1⟩
 ·exact t1.elim
def dAug (i : Nat) (te : TE3) (r : R3) : TS3 := fun E σ G => match σ[i]? with
 | some (some x) => te σ G fun y G1 => r x y G1 fun z G2 => E.nx (σ.set i (some z)) G2
 | _ => False
theorem low_aug {i : Nat} {te : TE3} {r : R3} (h : lowS K (dAug i te r) E σ H) : tAug i (lowE K te) (lowR K r) E σ H := by
 obtain ⟨σd, G, d, rs, c, t, fu⟩ := h
 unfold dAug at t
 split at t
 ·rename_i x e
  obtain ⟨v, hv, r1⟩ := rs.2 i x e
  refine ⟨v, hv, σd, G, _, rs, c, t, fun y G1 u H1 r2 c1 l1 t1 => ?_⟩
  exact ⟨x, y, G1, _, RelD.le l1 r1, r2, c1, t1, fun z G2 vz H2 r3 c2 l2 t2 => fu.nx _ _ _ _ ((rs.le (l1.trans l2)).set i r3) c2 (l1.trans l2) t2⟩
 ·exact t.elim
noncomputable abbrev TO3 := DSt → Gp → (Option Int → Gp → Prop) → Prop
noncomputable def dNoPart : TO3 := fun _ G q => q none G
noncomputable def dPart (t : TE3) : TO3 := fun σ G q => t σ G fun x G1 => match x with | .int i => q (some i) G1 | _ => False
noncomputable abbrev RS3 := D → Option Int → Option Int → Gp → DK → Prop
def dSl (r : RS3) (te : TE3) (tl th : TO3) : TE3 := fun σ G q => te σ G fun x G1 => tl σ G1 fun l G2 => th σ G2 fun u G3 => r x l u G3 q
def dCB (r : C3) (t : TA3) : TE3 := fun σ G q => t σ G fun ds G1 => r ds G1 q
theorem low_cb {r : C3} {t : TA3} (h : lowE K (dCB r t) σ H Q) : tCB (lowC K r) (lowA K t) σ H Q := by
 obtain ⟨σd, G, q, rs, c, t, f⟩ := h
 exact ⟨σd, G, _, rs, c, t, fun ds G1 vs H1 r1 c1 l1 t1 => ⟨ds, G1, q, r1, c1, t1, f.le l1⟩⟩
noncomputable abbrev M3 := D → List D → Gp → DK → Prop
def lowM (K : PySem.W.Frag) (r : M3) : V → List V → Hp → VK → Prop := fun x xs H Q => ∃ d ds G q, RelD K H d x ∧ RelDs K H ds xs ∧ Con K G H ∧ r d ds G q ∧ FutE K H q Q
def tyD (G : Gp) (T : String) : D → Prop
 | .str _ => T = "str"
 | .int _ => T = "int"
 | .ref a => match G a with
  | some (.lst _) => T = "list"
  | some (.fro _) => T = "list"
  | some (.dic _) => T = "dict"
  | _ => False
 | _ => False
def dBM (T : String) (r : M3) (to : TE3) (t : TA3) : TE3 := fun σ G q => to σ G fun x G1 => tyD G1 T x ∧ t σ G1 fun ds G2 => r x ds G2 q
def dBM0 (T : String) (r : M3) (to : TE3) : TE3 := fun σ G q => to σ G fun x G1 => tyD G1 T x ∧ r x [] G1 q
theorem low_bm {T : String} {r : M3} {to : TE3} {t : TA3} (ty : ∀ G H x v, Con K G H → RelD K H x v → tyD G T x → tyV K T v H) (h : lowE K (dBM T r to t) σ H Q) : tBM K T (lowM K r) (lowE K to) (lowA K t) σ H Q := by
 obtain ⟨σd, G, q, rs, c, t, f⟩ := h
 exact ⟨σd, G, _, rs, c, t, fun x G1 v H1 r1 c1 l1 ⟨y, t1⟩ => ⟨ty G1 H1 x v c1 r1 y, σd, G1, _, rs.le l1, c1, t1, fun ds G2 vs H2 r2 c2 l2 t2 => ⟨x, ds, G2, q, RelD.le l2 r1, r2, c2, t2, f.le (l1.trans l2)⟩⟩⟩
theorem low_bm0 {T : String} {r : M3} {to : TE3} (ty : ∀ G H x v, Con K G H → RelD K H x v → tyD G T x → tyV K T v H) (h : lowE K (dBM0 T r to) σ H Q) : tBM0 K T (lowM K r) (lowE K to) σ H Q := by
 obtain ⟨σd, G, q, rs, c, t, f⟩ := h
 exact ⟨σd, G, _, rs, c, t, fun x G1 v H1 r1 c1 l1 ⟨y, t1⟩ => ⟨ty G1 H1 x v c1 r1 y, x, [], G1, q, r1, .nil, c1, t1, f.le l1⟩⟩
end
end L3
namespace L3
open PySem PySem.Spec PyProof.Rows L2
set_option maxHeartbeats 4000000
section
variable {X : Cx}
theorem weakE {e : Expr} {t t' : TE} (h : PE X e t) (w : ∀ σ H Q, t' σ H Q → t σ H Q) : PE X e t' := fun pins s σ H Q I q => h pins s σ H Q I (w _ _ _ q)
theorem weakT {e : Expr} {t t' : TT} (h : PT X e t) (w : ∀ σ H Q, t' σ H Q → t σ H Q) : PT X e t' := fun pins s σ H Q I q => h pins s σ H Q I (w _ _ _ q)
theorem weakW {e : Expr} {t t' : TT} (h : PW X e t) (w : ∀ σ H Q, t' σ H Q → t σ H Q) : PW X e t' := fun wh pins s σ H Q I q => h wh pins s σ H Q I (w _ _ _ q)
theorem weakA {e : List Expr} {t t' : TA} (h : PA X e t) (w : ∀ σ H Q, t' σ H Q → t σ H Q) : PA X e t' := fun pos pins s σ H Q I q => h pos pins s σ H Q I (w _ _ _ q)
theorem weakS {e : Stmt} {t t' : TS} (h : PS X e t) (w : ∀ D σ H, t' D σ H → t D σ H) : PS X e t' := fun pins s σ H D I q => h pins s σ H D I (w _ _ _ q)
theorem weakSs {e : List Stmt} {t t' : TS} (h : PSs X e t) (w : ∀ D σ H, t' D σ H → t D σ H) : PSs X e t' := fun pins s σ H D I q => h pins s σ H D I (w _ _ _ q)
theorem weakG {e : Expr} {t t' : TG} (h : PG X e t) (w : ∀ v σ H Q, t' v σ H Q → t v σ H Q) : PG X e t' := fun pins s σ H v u Q I r q => h pins s σ H v u Q I r (w _ _ _ _ q)
theorem weakGs {e : List Expr} {t t' : TGs} (h : PGs X e t) (w : ∀ v σ H Q, t' v σ H Q → t v σ H Q) : PGs X e t' := fun pins s σ H v u Q I r q => h pins s σ H v u Q I r (w _ _ _ _ q)
theorem weakSet {t t' : TSet} (h : PSet X t) (w : ∀ o i v H Q, t' o i v H Q → t o i v H Q) : PSet X t' := fun pins s σ H o i v ov iv u Q I r1 r2 r3 q => h pins s σ H o i v ov iv u Q I r1 r2 r3 (w _ _ _ _ _ q)
theorem weakI {tg e : Expr} {t t' : TI} (h : PI X tg e t) (w : ∀ σ H R, t' σ H R → t σ H R) : PI X tg e t' := fun pins s σ H R I q => h pins s σ H R I (w _ _ _ q)
theorem weakOp {f : Value → Value → Sem Value} {r r' : R2} (h : OpR X f r) (w : ∀ x y H Q, r' x y H Q → r x y H Q) : OpR X f r' := fun pins s σ H x y v u Q I a b q => h pins s σ H x y v u Q I a b (w _ _ _ _ q)
theorem weakUn {f : Value → Sem Value} {r r' : V → Hp → VK → Prop} (h : UnR X f r) (w : ∀ x H Q, r' x H Q → r x H Q) : UnR X f r' := fun pins s σ H x v Q I a q => h pins s σ H x v Q I a (w _ _ _ q)
theorem weakCall {f : Value} {r r' : List V → Hp → VK → Prop} (h : CallR X f r) (w : ∀ x H Q, r' x H Q → r x H Q) : CallR X f r' := fun pins s σ H x v Q I a q => h pins s σ H x v Q I a (w _ _ _ q)
theorem weakMt {id : String} {r r' : V → List V → Hp → VK → Prop} (h : MtR X id r) (w : ∀ x xs H Q, r' x xs H Q → r x xs H Q) : MtR X id r' := fun pins s σ H x xs v us Q I a b q => h pins s σ H x xs v us Q I a b (w _ _ _ _ q)
theorem weakIx {r r' : R2} (h : IxR X r) (w : ∀ x y H Q, r' x y H Q → r x y H Q) : IxR X r' := fun va sl pins s σ H x y v u Q I a b q => h va sl pins s σ H x y v u Q I a b (w _ _ _ _ q)
theorem weakIfs {e : List Expr} {t t' : TT} (h : PIfs X e t) (w : ∀ σ H Q, t' σ H Q → t σ H Q) : PIfs X e t' := fun pins s σ H Q I q => h pins s σ H Q I (w _ _ _ q)
end
def E3 (X : Cx) (e : Expr) (t : TE3) : Prop := PE X e (lowE X.K t)
def T3 (X : Cx) (e : Expr) (t : TT3) : Prop := PT X e (lowT X.K t)
def W3 (X : Cx) (e : Expr) (t : TT3) : Prop := PW X e (lowT X.K t)
def A3 (X : Cx) (es : List Expr) (t : TA3) : Prop := PA X es (lowA X.K t)
def S3 (X : Cx) (st : Stmt) (t : TS3) : Prop := PS X st (lowS X.K t)
def Ss3 (X : Cx) (sts : List Stmt) (t : TS3) : Prop := PSs X sts (lowS X.K t)
def J3 (X : Cx) (e : Expr) (t : TG3) : Prop := PG X e (lowG X.K t)
def Js3 (X : Cx) (es : List Expr) (t : TGs3) : Prop := PGs X es (lowGs X.K t)
def I3 (X : Cx) (tg e : Expr) (t : TI3) : Prop := PI X tg e (lowI X.K t)
def Ifs3 (X : Cx) (es : List Expr) (t : TT3) : Prop := PIfs X es (lowT X.K t)
noncomputable abbrev Op3 (X : Cx) (f : Value → Value → Sem Value) (r : R3) : Prop := OpR X f (lowR X.K r)
noncomputable abbrev Call3 (X : Cx) (f : Value) (r : C3) : Prop := CallR X f (lowC X.K r)
section
variable {X : Cx} {a b c e o : Expr} {es : List Expr} {pos apos cpos p p2 : Pos} {ta tb tc te : TE3} {t u : TT3} {ts us : TA3}
theorem ev (i : Nat) {x : Str} {pos : Pos} (hN : X.N[i]? = some x := by rfl) (hv : Vis X.env.scope x := by first | exact Or.inl rfl | exact Or.inr (Or.inl rfl) | exact Or.inr (Or.inr rfl)) (hd : (x == ("__debug__" : Str)) = false := by decide)
  (hcd : (x == ("__classdict__" : Str)) = false := by decide) : E3 X (.Name x pos) (dVar i) := weakE (pe_var hN hv hd hcd) fun _ _ _ => low_var
theorem e_int {i j pos} : E3 X (.Constant (.int i) j pos) (dC (.int i)) := weakE pe_int fun _ _ _ => low_c fun _ => by rw [RelD]
theorem e_bl {i j pos} : E3 X (.Constant (.bool i) j pos) (dC (.bl i)) := weakE pe_bl fun _ _ _ => low_c fun _ => by rw [RelD]
theorem e_non {j pos} : E3 X (.Constant .none j pos) (dC .non) := weakE pe_non fun _ _ _ => low_c fun _ => by rw [RelD]
theorem e_str {x j pos} : E3 X (.Constant (.str x) j pos) (dC (.str x)) := weakE pe_str fun _ _ _ => low_c fun _ => by rw [RelD]
theorem e_bin {op : Operator} {r : R3} (ho : Op3 X (binaryOp op) r) (ha : E3 X a ta) (hb : E3 X b tb) : E3 X (.BinOp a op b pos) (dOp r ta tb) := weakE (pe_op ho ha hb) fun _ _ _ => low_op
theorem e_un {op : UnaryOp} {r : U3} (ho : UnR X (unaryOp op) (lowU X.K r)) (ha : E3 X a ta) : E3 X (.UnaryOp op a pos) (dUn r ta) := weakE (pe_un ho ha) fun _ _ _ => low_un
theorem e_cmp {op : CmpOp} {r : R3} (ho : Op3 X (compareOp op) r) (ha : E3 X a ta) (hb : E3 X b tb) (hm : behindInMarks op b = false) : E3 X (.Compare a [op] [b] pos) (dOp r ta tb) := weakE (pe_cmpR ho ha hb hm) fun _ _ _ => low_op
theorem t_cmp {op : CmpOp} {r : R3} (ho : Op3 X (compareOp op) r) (ha : E3 X a ta) (hb : E3 X b tb) (hm : behindInMarks op b = false) : T3 X (.Compare a [op] [b] pos) (dB (dOp r ta tb)) :=
 weakT (pt_cmpR ho ha hb hm) fun σ H Q h => by
  obtain ⟨σd, G, q, rs, c, t, f⟩ := h
  exact low_op (K := X.K) ⟨σd, G, _, rs, c, t, fun x G1 v H1 r1 c1 l1 t1 => by
   split at t1
   ·rename_i k
    exact ⟨k, r1.bl_inv, f _ _ _ c1 l1 t1⟩
   ·exact t1.elim⟩
theorem t_val (h : E3 X e te) (he : ∀ whole, isTrue e X.env whole = (do let v ← whole; standAt e.pos; holding [v] (truthy v)) := by intro _; rfl) : T3 X e (dB te) := weakT (pt_val h he) fun _ _ _ => low_b
theorem w_and1 (ha : T3 X a t) : W3 X (.BoolOp .And [a] pos) t := pw_and1 ha
theorem w_or1 (ha : T3 X a t) : W3 X (.BoolOp .Or [a] pos) t := pw_or1 ha
theorem w_and {rest : List Expr} (ha : T3 X a t) (hb : W3 X (.BoolOp .And (b :: rest) pos) u) : W3 X (.BoolOp .And (a :: b :: rest) pos) (dAnd t u) := weakW (pw_and ha hb) fun _ _ _ => low_andT
theorem w_or {rest : List Expr} (ha : T3 X a t) (hb : W3 X (.BoolOp .Or (b :: rest) pos) u) : W3 X (.BoolOp .Or (a :: b :: rest) pos) (dOr t u) := weakW (pw_or ha hb) fun _ _ _ => low_orT
theorem t_w (h : W3 X e t) : T3 X e t := PW.pt h
theorem t_not (ha : T3 X a t) : T3 X (.UnaryOp .Not a pos) (dNot t) := weakT (pt_not ha) fun _ _ _ => low_notT
theorem e_one {op} (h : E3 X a ta) : E3 X (.BoolOp op [a] pos) ta := pe_one h
theorem e_and {rest : List Expr} (ha : E3 X a ta) (hb : E3 X (.BoolOp .And (b :: rest) pos) tb) : E3 X (.BoolOp .And (a :: b :: rest) pos) (dAndV ta tb) := weakE (pe_and ha hb) fun _ _ _ => low_andV
theorem e_or {rest : List Expr} (ha : E3 X a ta) (hb : E3 X (.BoolOp .Or (b :: rest) pos) tb) : E3 X (.BoolOp .Or (a :: b :: rest) pos) (dOrV ta tb) := weakE (pe_or ha hb) fun _ _ _ => low_orV
theorem e_not (ha : E3 X a ta) : E3 X (.UnaryOp .Not a pos) (dNotV ta) := weakE (pe_not ha) fun _ _ _ => low_notV
theorem e_if (hc : T3 X c t) (ha : E3 X a ta) (hb : E3 X b tb) : E3 X (.IfExp c a b pos) (dIf t ta tb) := weakE (pe_ifExp hc ha hb) fun _ _ _ => low_if
theorem a_nil : A3 X [] dNil := weakA pa_nil fun _ _ _ => low_nil
theorem a_cons (ha : E3 X e te) (hr : A3 X es ts) (hs : starEach (e :: es) X.env = (false, eval e X.env) :: starEach es X.env := by rfl) : A3 X (e :: es) (dCons te ts) := weakA (pa_cons ha hr hs) fun _ _ _ => low_cons
theorem e_tup {x1} (h : A3 X es ts) : E3 X (.Tuple es x1 pos) (dTup ts) := weakE (pe_tup h) fun _ _ _ => low_tup
theorem e_lst (h : A3 X es ts) : E3 X (.List es pos) (dLst ts) := weakE (pe_lst h) fun _ _ _ => low_lst
theorem e_ix {r : R3} (hr : IxR X (lowR X.K r)) (ha : E3 X a ta) (hb : E3 X b tb) (hs : PlainIx b := by exact fun _ _ => rfl) : E3 X (.Subscript a b pos) (dOp r ta tb) := weakE (pe_ix hr ha hb hs) fun _ _ _ => low_op
end
section
variable {X : Cx} {a b c e o value : Expr} {es : List Expr} {st : Stmt} {sts sts2 : List Stmt} {pos pos' spos tpos : Pos} {te ta tv : TE3} {t : TT3} {s1 s2 : TS3} {g : TG3}
theorem ss_nil : Ss3 X [] dNext := weakSs pss_nil fun _ _ _ => low_next
theorem ss_cons (h1 : S3 X st s1) (h2 : Ss3 X sts s2) : Ss3 X (st :: sts) (dSeq s1 s2) := weakSs (pss_cons h1 h2) fun _ _ _ => low_seq
theorem ss_one (h1 : S3 X st s1) : Ss3 X [st] s1 := pss_one h1
theorem s_expr (he : E3 X e te) (hs : swapsWith e none pos.line X.env = pure false := by rfl) : S3 X (.Expr e pos) (dDrop te) := weakS (ps_expr he hs) fun _ _ _ => low_drop
theorem s_ret (he : E3 X e te) : S3 X (.Return (some e) pos) (dRet te) := weakS (ps_ret he) fun _ _ _ => low_ret
theorem s_if (hc : T3 X c t) (ha : Ss3 X sts s1) (hb : Ss3 X sts2 s2) : S3 X (.If c sts sts2 pos) (dIfS t s1 s2) := weakS (ps_if hc ha hb) fun _ _ _ => low_ifS
def dNever : TS3 := fun _ _ _ => False
theorem s_never : S3 X st dNever := weakS ps_never fun _ _ _ h => by obtain ⟨_, _, _, _, _, h, _⟩ := h; exact h.elim
theorem j_name (i : Nat) {x : Str} (hN : X.N.Nodup) (hi : X.N[i]? = some x := by rfl) (hx : Loc X.env.scope x := by first | exact Or.inl rfl | exact Or.inr rfl) (hf : X.fn x = true ∨ X.env.scope.names.lookup x = some .local := by first | exact .inl rfl | exact .inr rfl | assumption) : J3 X (.Name x pos) (jName i) :=
 weakG (pg_name hN hi hx hf) fun _ _ _ _ => low_jName
theorem js_nil : Js3 X [] jNil := weakGs pgs_nil fun _ _ _ _ => low_jNil
theorem js_cons {t : TG3} {u : TGs3} (h1 : J3 X e t) (h2 : Js3 X es u) (hs : (assignEach (e :: es) X.env).map (·.2) = assign e X.env :: (assignEach es X.env).map (·.2) := by rfl) : Js3 X (e :: es) (jCons t u) := weakGs (pgs_cons h1 h2 hs) fun _ _ _ _ => low_jCons
theorem j_sub {i : Expr} {to ti : TE3} {t : TSet3} (ho : E3 X o to) (hi : E3 X i ti) (hs : PSet X (lowSet X.K t))
  (ha : ∀ v, assign (.Subscript o i pos) X.env v = (do
   let ov ← holding [v] (eval o X.env)
   let iv ← holding [v, ov] (eval i X.env)
   standAt pos
   holding [v, ov, iv] (setItem ov iv v)
   release [v, ov, iv] []) := by intro _; rfl) : J3 X (.Subscript o i pos) (jSub to ti t) := weakG (pg_sub ho hi hs ha) fun _ _ _ _ => low_jSub
theorem s_asg {tg : Expr} (he : E3 X e te) (hg : J3 X tg g) (hs : swapsWithSole [tg] e pos.line X.env = pure false := by rfl) (hw : swappedStores [tg] e X.env = pure none := by rfl)
  (h1 : (assignEach [tg] X.env).map (·.2) = [assign tg X.env] := by rfl) : S3 X (.Assign [tg] e pos) (dAsg te g) := weakS (ps_asg he hg hs hw h1) fun _ _ _ => low_asg
theorem s_set (i : Nat) {x : Str} (hN : X.N.Nodup) (he : E3 X e te) (hi : X.N[i]? = some x := by rfl) (hx : Loc X.env.scope x := by first | exact Or.inl rfl | exact Or.inr rfl) (hs : swapsWith e (some (.Name x pos')) pos.line X.env = pure false := by rfl)
  (hf : X.fn x = true ∨ X.env.scope.names.lookup x = some .local := by first | exact .inl rfl | exact .inr rfl | assumption) : S3 X (.Assign [.Name x pos'] e pos) (dAsg te (jName i)) :=
 weakS (ps_set hN hi hx he hs hf) fun D σ H h => by
  obtain ⟨σd, G, q, rs, c, t, f⟩ := h
  exact ⟨σd, G, _, rs, c, t, fun x G1 v H1 r1 c1 l1 t1 => f.nx _ _ _ _ ((rs.le l1).set i r1) c1 l1 t1⟩
theorem s_aug (i : Nat) {x : Str} {op : Operator} {r : R3} (hN : X.N.Nodup) (he : E3 X e te) (ho : Op3 X (inplaceOp op) r) (hi : X.N[i]? = some x := by rfl) (hx : Loc X.env.scope x := by first | exact Or.inl rfl | exact Or.inr rfl)
  (hf : X.fn x = true ∨ X.env.scope.names.lookup x = some .local := by first | exact .inl rfl | exact .inr rfl | assumption) : S3 X (.AugAssign (.Name x pos') op e pos) (dAug i te r) := weakS (ps_aug hN hi hx he ho hf) fun _ _ _ => low_aug
theorem s_while {body : List Stmt} (hc : T3 X c t) (hb : Ss3 X body s1) (hp : PassesOwn (model X.prog X.w) X.A X.env X.xe := by exact PassesOwn.never) : S3 X (.While c body [] pos) (dWhile t s1) := weakS (ps_while hp hc hb) fun _ _ _ => low_while
theorem s_for {tg iter : Expr} {body : List Stmt} {wi : TI3} (hi : I3 X tg iter wi) (hg : J3 X tg g) (hb : Ss3 X body s1) (hc : X.calm = true := by rfl) (hp : PassesOwn (model X.prog X.w) X.A X.env X.xe := by exact PassesOwn.never)
  (hs : ∀ x, foldedSetIterable iter X.env x = pure x := by intro _; rfl) : S3 X (.For tg iter body [] pos) (dFor wi g s1) := weakS (ps_for hp hc hi hg hb hs) fun _ _ _ => low_for
end
theorem low_wRng1 {K : PySem.W.Frag} {σ : L2.St} {H : Hp} {ta : TA3} {R : It → Hp → Prop} (h : lowI K (fun σ G r => ta σ G fun ds G1 => match ds with | [.int j] => (-(2 ^ 62) ≤ j ∧ j < 2 ^ 62) ∧ r ⟨rngD 0 j.toNat, fun _ => True⟩ G1 | _ => False) σ H R) : iRng1 (lowA K ta) σ H R := by
 obtain ⟨σd, G, q, rs, c, t, f⟩ := h
 refine ⟨σd, G, _, rs, c, t, fun ds G1 vs H1 r1 c1 l1 t1 => ?_⟩
 split at t1
 ·rename_i j
  obtain ⟨x, r, rfl, rx, rr⟩ := r1.inv_cons
  rw [RelD] at rx
  subst rx
  rw [rr.inv_nil]
  exact ⟨j, rfl, t1.1.1, t1.1.2, f _ _ _ _ itrel_range c1 l1 t1.2⟩
 ·exact t1.elim
theorem low_wRng2 {K : PySem.W.Frag} {σ : L2.St} {H : Hp} {ta : TA3} {R : It → Hp → Prop} (h : lowI K (fun σ G r => ta σ G fun ds G1 => match ds with | [.int i, .int j] => (-(2 ^ 62) ≤ i ∧ i < 2 ^ 62 ∧ -(2 ^ 62) ≤ j ∧ j < 2 ^ 62) ∧ r ⟨rngD i (j - i).toNat, fun _ => True⟩ G1 | _ => False) σ H R) : iRng2 (lowA K ta) σ H R := by
 obtain ⟨σd, G, q, rs, c, t, f⟩ := h
 refine ⟨σd, G, _, rs, c, t, fun ds G1 vs H1 r1 c1 l1 t1 => ?_⟩
 split at t1
 ·rename_i i j
  obtain ⟨x, r, rfl, rx, rr⟩ := r1.inv_cons
  obtain ⟨y, r', rfl, ry, rr2⟩ := rr.inv_cons
  rw [RelD] at rx ry
  subst rx ry
  rw [rr2.inv_nil]
  exact ⟨i, j, rfl, t1.1, f _ _ _ _ itrel_range c1 l1 t1.2⟩
 ·exact t1.elim
def wRng1 (ta : TA3) : TI3 := fun σ G r => ta σ G fun ds G1 => match ds with | [.int j] => (-(2 ^ 62) ≤ j ∧ j < 2 ^ 62) ∧ r ⟨rngD 0 j.toNat, fun _ => True⟩ G1 | _ => False
def wRng2 (ta : TA3) : TI3 := fun σ G r => ta σ G fun ds G1 => match ds with | [.int i, .int j] => (-(2 ^ 62) ≤ i ∧ i < 2 ^ 62 ∧ -(2 ^ 62) ≤ j ∧ j < 2 ^ 62) ∧ r ⟨rngD i (j - i).toNat, fun _ => True⟩ G1 | _ => False
section
variable {X : Cx} {a b e o tg : Expr} {es : List Expr} {p pos apos cpos : Pos} {ta : TE3} {ts : TA3}
theorem i_rng1 (hg : Gl X "range") (hm : X.mg "range" = none) (ha : A3 X [a] ts) (hs : starEach [a] X.env = [(false, eval a X.env)] := by rfl) : I3 X tg (.Call (.Name "range" p) [a] [] pos) (wRng1 ts) := weakI (pi_range1 hg hm ha hs) fun _ _ _ => low_wRng1
theorem i_rng2 (hg : Gl X "range") (hm : X.mg "range" = none) (ha : A3 X [a, b] ts) (hs : starEach [a, b] X.env = [(false, eval a X.env), (false, eval b X.env)] := by rfl) (hs2 : starEach [b] X.env = [(false, eval b X.env)] := by rfl) :
  I3 X tg (.Call (.Name "range" p) [a, b] [] pos) (wRng2 ts) := weakI (pi_range2 hg hm ha hs hs2) fun _ _ _ => low_wRng2
variable {k : Nat} {f C : Addr} {fd : FuncData} {ps : List Str} {S : Sp3} {dds : List D} {dvs : List V} {ds : List Value} {x m : Str}
theorem e_call (F : FnOk X.prog X.w X.K X.mg X.base CX0 k f fd ps (lowSp X.K S)) (hr : Room k X.A) (hg : Gl X x) (hm : X.mg x = some (.ref f)) (hk : PySem.W.keepIn X.K (.ref f) = true) (hb : Binds X.K fd ps ds) (hd : Vals dvs ds) (hdd : ∀ H, RelDs X.K H dds dvs)
  (ha : A3 X (e :: es) ts) (hdb : (x == ("__debug__" : Str)) = false := by decide) (he : starEach (e :: es) X.env = (false, eval e X.env) :: starEach es X.env := by rfl) (hpl : (backTo pos (starEach es X.env)).any (·.1) = false := by rfl) :
  E3 X (.Call (.Name x p) (e :: es) [] pos) (dCall S dds ts) := weakE (pe_call F hr hg hm hk hb hd pass0 ha hdb he hpl) fun _ _ _ => low_call hdd
theorem e_meth {pl : Sem Bool} (he : E3 X o ta) (c : Cls X.K C) (hm : Meth X.K C m f) (F : FnOk X.prog X.w X.K X.mg X.base CX0 k f fd ps (lowSp X.K S)) (hr : Room k X.A) (hb : Binds X.K fd ps ds) (hd : Vals dvs ds) (hdd : ∀ H, RelDs X.K H dds dvs) (ha : A3 X (e :: es) ts)
  (hse : starEach (e :: es) X.env = (false, eval e X.env) :: starEach es X.env := by rfl) (hpl : (backTo pos (starEach es X.env)).any (·.1) = false := by rfl)
  (ht : eval (.Call (.Attribute o m apos) (e :: es) [] pos) X.env = (do
   let ov ← eval o X.env
   standAt apos.atName
   let (f, first) ← holding [ov] (getMethod ov m pl)
   callWith pos f first (backTo pos (starEach (e :: es) X.env)) (backToKw pos (keywordEach [] X.env))) := by rfl) : E3 X (.Call (.Attribute o m apos) (e :: es) [] pos) (dMeth C m S dds ta ts) :=
 weakE (pe_meth he c hm F hr hb hd pass0 ha hse hpl ht) fun _ _ _ => low_meth hdd
variable {id T : String} {r : C3} {rm : M3} {name : Str}
theorem e_callB (hc : Call3 X (.builtin id) r) (hg : Gl X x) (hm : X.mg x = none) (hv : bootBuiltins x = some (.builtin id)) (ha : A3 X (e :: es) ts) (hn : x ≠ "__name__" := by decide) (hdb : (x == ("__debug__" : Str)) = false := by decide)
  (he : starEach (e :: es) X.env = (false, eval e X.env) :: starEach es X.env := by rfl) (hpl : (backTo pos (starEach es X.env)).any (·.1) = false := by rfl) : E3 X (.Call (.Name x p) (e :: es) [] pos) (dCB r ts) :=
 weakE (pe_callB hc hg hm hv ha hn hdb he hpl) fun _ _ _ => low_cb
theorem e_callTy (hc : Call3 X (.type T) r) (hg : Gl X x) (hm : X.mg x = none) (hv : bootBuiltins x = some (.type T)) (ha : A3 X (e :: es) ts) (hn : x ≠ "__name__" := by decide) (hdb : (x == ("__debug__" : Str)) = false := by decide)
  (he : starEach (e :: es) X.env = (false, eval e X.env) :: starEach es X.env := by rfl) (hpl : (backTo pos (starEach es X.env)).any (·.1) = false := by rfl) : E3 X (.Call (.Name x p) (e :: es) [] pos) (dCB r ts) :=
 weakE (pe_callTy hc hg hm hv ha hn hdb he hpl) fun _ _ _ => low_cb
end
end L3
namespace L3
open PySem PySem.Spec PyProof.Rows L2
set_option maxHeartbeats 4000000
noncomputable def innerD (ix : List (Option Nat)) (σ : DSt) : DSt := ix.map fun o => o.bind fun j => (σ[j]?).bind id
def compL (ok : Gp → Prop) (g : TG3) (tc : TT3) (te : TE3) (p : Addr) (q : DK) : List D → DSt → Gp → Prop
 | [], _, G => ok G ∧ q (.ref p) G
 | x :: r, σ, G => ok G ∧ g x σ G fun σ2 G2 => tc σ2 G2 fun b G3 =>
  if b = true then te σ2 G3 fun d G4 => (match G4 p with | some (.lst ys) => ys.length < sizeLine ∧ compL ok g tc te p q r σ2 (gup G4 p (.lst (ys ++ [d]))) | _ => False)
  else compL ok g tc te p q r σ2 G3
def dComp (ix : List (Option Nat)) (wi : TI3) (g : TG3) (tc : TT3) (te : TE3) : TE3 := fun σ G q => wi σ G fun it G1 => ∀ p, G1 p = none → compL it.ok g tc te p q it.items (innerD ix σ) (gup G1 p (.lst []))
theorem RelSt.inn {K : PySem.W.Frag} {H : Hp} {σd : DSt} {σ : L2.St} (h : RelSt K H σd σ) (ix : List (Option Nat)) : RelSt K H (innerD ix σd) (L2.inner ix σ) := by
 refine ⟨by unfold innerD L2.inner; rw [List.length_map, List.length_map], fun i d e => ?_⟩
 unfold innerD at e
 unfold L2.inner
 rw [List.getElem?_map] at e ⊢
 cases ho : ix[i]? with
 | none => rw [ho] at e; cases e
 | some o =>
  rw [ho] at e
  cases o with
  | none => cases e
  | some j =>
   have e : (σd[j]?).bind id = some d := Option.some.inj e
   have e : σd[j]? = some (some d) := by
    cases hs : σd[j]? with
    | none => rw [hs] at e; cases e
    | some w => rw [hs] at e; cases e; rfl
   obtain ⟨v, hv, r⟩ := h.2 j d e
   exact ⟨v, by show some ((σ[j]?).bind id) = _; rw [hv]; rfl, r⟩
theorem low_comp {K : PySem.W.Frag} {ix : List (Option Nat)} {wi : TI3} {g : TG3} {tc : TT3} {te : TE3} {σ : L2.St} {H : Hp} {Q : VK} (h : lowE K (dComp ix wi g tc te) σ H Q) : tComp ix (lowI K wi) (lowG K g) (lowT K tc) (lowE K te) σ H Q := by
 obtain ⟨σd, G, q, rs, cc, t, f⟩ := h
 refine ⟨σd, G, _, rs, cc, t, fun it J G1 H1 ir c1 l1 t1 => ?_⟩
 intro p hp
 have t1 := t1 p (c1.fresh hp)
 have c2 : Con K (gup G1 p (.lst [])) (upd H1 p (.lst [])) := c1.lstNew hp .nil
 have l2 : Le H1 (upd H1 p (.lst [])) := Le.fresh hp
 refine ⟨fun i m σ' H' => ∃ σd' G', Le (upd H1 p (.lst [])) H' ∧ RelSt K H' σd' σ' ∧ Con K G' H' ∧ i + m = it.items.length ∧ compL it.ok g tc te p q (it.items.drop i) σd' G',
  ⟨it.items.length, innerD ix σd, _, Le.refl _, (rs.le (l1.trans l2)).inn ix, c2, by omega, by rw [List.drop_zero]; exact t1⟩, ?_⟩
 rintro i m σ2 H2 ⟨σd2, G2, l3, rs2, c2, e2, t2⟩
 have l12 : Le H1 H2 := l2.trans l3
 by_cases hi : i < it.items.length
 ·rw [List.drop_eq_getElem_cons hi] at t2
  obtain ⟨ok2, t2⟩ := t2
  refine .inr ⟨ir.go i G2 H2 l12 c2 ok2 hi, fun σ' H' => ∃ σd' G', Le (upd H1 p (.lst [])) H' ∧ RelSt K H' σd' σ' ∧ Con K G' H' ∧ compL it.ok g tc te p q (it.items.drop (i + 1)) σd' G', ?_, ?_⟩
  ·rintro σ' H' ⟨σd', G', a1, a2, a3, a4⟩
   exact ⟨m - 1, by omega, σd', G', a1, a2, a3, by omega, a4⟩
  ·intro x H3 y
   obtain ⟨c3, l4, e, he, r3⟩ := ir.yld i G2 H2 x H3 l12 c2 ok2 hi y
   rw [List.getElem?_eq_getElem hi] at he
   cases he
   refine ⟨_, σd2, G2, _, r3, rs2.le l4, c3, t2, fun σd4 G4 σ4 H4 rs4 c4 l5 t4 => ?_⟩
   refine ⟨σd4, G4, _, rs4, c4, t4, fun b G5 H5 c5 l6 t5 => ?_⟩
   cases b with
   | false =>
    rw [if_neg Bool.false_ne_true] at t5 ⊢
    exact ⟨σd4, G5, l3.trans (l4.trans (l5.trans l6)), rs4.le l6, c5, t5⟩
   | true =>
    rw [if_pos rfl] at t5 ⊢
    refine ⟨σd4, G5, _, rs4.le l6, c5, t5, fun d G6 v H6 r6 c6 l7 t6 => ?_⟩
    split at t6
    ·rename_i ys eg
     obtain ⟨xs, ex, rx⟩ := c6 p _ eg
     have l8 := Le.lst (ys := xs ++ [v]) ex
     exact ⟨xs, ex, by rw [← rx.length]; exact t6.1, σd4, _, l3.trans (l4.trans (l5.trans (l6.trans (l7.trans l8)))), rs4.le (l6.trans (l7.trans l8)), c6.lstSet ex (rx.append (.cons r6 .nil)), t6.2⟩
    ·exact t6.elim
 ·rw [List.drop_eq_nil_of_le (by omega)] at t2
  exact .inl ⟨ir.stop i G2 H2 l12 c2 t2.1 (by omega), f _ _ _ _ RelD.refI c2 (l1.trans l12) t2.2⟩
def dYes : TT3 := fun _ G q => q true G
section
variable {X : Cx} {elt tg iter : Expr} {ifs : List Expr} {scope : Scope} {pos : Pos} {N' : List Str} {ix : List (Option Nat)} {wi : TI3} {g : TG3} {tc : TT3} {te : TE3}
theorem ifs_nil : Ifs3 X [] dYes := weakIfs pifs_nil fun σ H Q h => by
 obtain ⟨σd, G, q, rs, c, t, f⟩ := h
 exact f _ _ _ c (Le.refl H) t
theorem ifs_one {c : Expr} (h : T3 X c tc) : Ifs3 X [c] tc := pifs_one h
theorem e_comp (B : BlkOk X N' ix scope) (hw : I3 X tg iter wi) (hg : ∀ C s H fp, J3 (cxComp X N' scope C s H fp) tg g) (hi : ∀ C s H fp, Ifs3 (cxComp X N' scope C s H fp) ifs tc) (he : ∀ C s H fp, E3 (cxComp X N' scope C s H fp) elt te)
  (hc : X.calm = true := by rfl) (hs : ∀ x, foldedSetIterable iter X.env x = pure x := by intro _; rfl) : E3 X (.ListComp elt [⟨tg, iter, ifs, 0⟩] scope pos) (dComp ix wi g tc te) :=
 weakE (pe_comp (g := lowG X.K g) (tc := lowT X.K tc) (te := lowE X.K te) B hc hw hg hi he hs) fun _ _ _ => low_comp
theorem s_setC (i : Nat) {y : Str} {py spos : Pos} (hN : X.N.Nodup) (B : BlkOk X N' ix scope) (hw : I3 X tg iter wi) (hg : ∀ C s H fp, J3 (cxComp X N' scope C s H fp) tg g) (hi : ∀ C s H fp, Ifs3 (cxComp X N' scope C s H fp) ifs tc) (he : ∀ C s H fp, E3 (cxComp X N' scope C s H fp) elt te)
  (hy : X.N[i]? = some y := by rfl) (hl : Loc X.env.scope y := by first | exact Or.inl rfl | exact Or.inr rfl)
  (hc : X.calm = true := by rfl) (hsw : swapsWith (.ListComp elt [⟨tg, iter, ifs, 0⟩] scope pos) (some (.Name y py)) spos.line X.env = pure true := by rfl)
  (hf : X.fn y = true ∨ X.env.scope.names.lookup y = some .local := by first | exact .inl rfl | exact .inr rfl | assumption)
  (hs : ∀ x, foldedSetIterable iter X.env x = pure x := by intro _; rfl) : S3 X (.Assign [.Name y py] (.ListComp elt [⟨tg, iter, ifs, 0⟩] scope pos) spos) (dAsg (dComp ix wi g tc te) (jName i)) :=
 weakS (ps_setC (g := lowG X.K g) (tc := lowT X.K tc) (te := lowE X.K te) B hc hN hy hl hw hg hi he hsw hf hs) fun D σ H h => by
  obtain ⟨σd, G, d, rs, c, t, f⟩ := h
  exact low_comp (K := X.K) ⟨σd, G, _, rs, c, t, fun x G1 v H1 r1 c1 l1 t1 => f.nx _ _ _ _ ((rs.le l1).set i r1) c1 l1 t1⟩
end
end L3
namespace L3
open PySem PySem.Spec PyProof.Rows L2
set_option maxHeartbeats 4000000
def xAdd : R3 := fun x y G q => match x, y with
 | .int i, .int j => q (.int (i + j)) G
 | .str a, .str b => a.length + b.length ≤ sizeLine ∧ q (.str (a ++ b)) G
 | .tup a, .tup b => a ≠ [] ∧ a.length + b.length ≤ sizeLine ∧ q (.tup (a ++ b)) G
 | .ref a, .ref b => (match G a, G b with
  | some (.lst xs), some (.lst ys) => xs.length + ys.length ≤ sizeLine ∧ ∀ p, G p = none → q (.ref p) (gup G p (.lst (xs ++ ys)))
  | _, _ => False)
 | _, _ => False
def xInt (f : Int → Int → Int) : R3 := fun x y G q => match x, y with | .int i, .int j => q (.int (f i j)) G | _, _ => False
def xIntC (C : Int → Int → Prop) (f : Int → Int → Int) : R3 := fun x y G q => match x, y with | .int i, .int j => C i j ∧ q (.int (f i j)) G | _, _ => False
def xSub : R3 := xInt fun i j => i - j
def xMul : R3 := fun x y G q => match x, y with
 | .int i, .int j => CMul i j ∧ q (.int (i * j)) G
 | .ref a, .int k => (match G a with
  | some (.lst xs) => (-(2 ^ 63) ≤ k ∧ k < 2 ^ 63 ∧ xs.length * k.toNat ≤ sizeLine) ∧ ∀ p, G p = none → q (.ref p) (gup G p (.lst (List.replicate k.toNat xs).flatten))
  | _ => False)
 | _, _ => False
def CDivL (_ j : Int) : Prop := 0 < j ∧ j < 18446744073709551616
def xDiv : R3 := xIntC CDivL fun i j => i / j
def xMod : R3 := xIntC (fun _ j => 0 < j) fun i j => i % j
def xPow : R3 := xIntC CPow fun i j => i ^ j.toNat
def xShl : R3 := xIntC CPow fun i j => i * 2 ^ j.toNat
def xShr : R3 := xIntC (fun _ j => 0 ≤ j) fun i j => i / 2 ^ j.toNat
def xAnd : R3 := xInt Builtin.bitAnd
def xOr : R3 := xInt Builtin.bitOr
def xXor : R3 := xInt Builtin.bitXor
def xLt : R3 := fun x y G q => match x, y with | .int i, .int j => q (.bl (decide (i < j))) G | .str a, .str b => q (.bl (decide (a.cps.toList < b.cps.toList))) G | _, _ => False
def xLe : R3 := fun x y G q => match x, y with | .int i, .int j => q (.bl (decide (i ≤ j))) G | _, _ => False
def xGt : R3 := fun x y G q => match x, y with | .int i, .int j => q (.bl (decide (j < i))) G | _, _ => False
def xGe : R3 := fun x y G q => match x, y with | .int i, .int j => q (.bl (decide (j ≤ i))) G | _, _ => False
section
variable {X : Cx} {K : PySem.W.Frag} {H : Hp}
theorem RelD.int_inv {i : Int} {v : V} (h : RelD K H (.int i) v) : v = .int i := by rw [RelD] at h; exact h
theorem RelD.str_inv {i : Str} {v : V} (h : RelD K H (.str i) v) : v = .str i := by rw [RelD] at h; exact h
theorem RelD.non_inv {v : V} (h : RelD K H .non v) : v = .non := by rw [RelD] at h; exact h
theorem RelD.tup_inv {ds : List D} {v : V} (h : RelD K H (.tup ds) v) : ∃ a xs, v = .ref a ∧ SqT K H a xs ∧ RelDs K H ds xs := by rw [RelD] at h; exact h
theorem RelD.intI {i : Int} : RelD K H (.int i) (.int i) := by rw [RelD]
theorem RelD.strI {i : Str} : RelD K H (.str i) (.str i) := by rw [RelD]
theorem RelD.blI {i : Bool} : RelD K H (.bl i) (.bl i) := by rw [RelD]
theorem RelD.nonI : RelD K H .non .non := by rw [RelD]
theorem x_int {f : Value → Value → Sem Value} {g : Int → Int → Int} (h : OpR X f (rI0 fun i j => .int (g i j))) : Op3 X f (xInt g) := weakOp h fun x y H Q ⟨d, e, G, q, r1, r2, c, t, f⟩ => by
 unfold xInt at t
 split at t
 ·exact ⟨_, _, r1.int_inv, r2.int_inv, f _ _ _ _ RelD.intI c (Le.refl H) t⟩
 ·exact t.elim
theorem x_intC {f : Value → Value → Sem Value} {C : Int → Int → Prop} {g : Int → Int → Int} (h : OpR X f (rI C fun i j => .int (g i j))) : Op3 X f (xIntC C g) := weakOp h fun x y H Q ⟨d, e, G, q, r1, r2, c, t, f⟩ => by
 unfold xIntC at t
 split at t
 ·exact ⟨_, _, r1.int_inv, r2.int_inv, t.1, f _ _ _ _ RelD.intI c (Le.refl H) t.2⟩
 ·exact t.elim
theorem x_sub : Op3 X (binaryOp .Sub) xSub := x_int op_sub
theorem op_fdivL : OpR X (binaryOp .FloorDiv) (rI CDivL fun i j => .int (i / j)) := opI fun i j _ _ _ _ _ hc q => by
 have hl : j.natAbs.log2 < 9000 := by
  have h1 := hc.1
  have h2 := hc.2
  have hn : j.natAbs ≠ 0 := by omega
  have : j.natAbs.log2 < 64 := (Nat.log2_lt hn).mpr (by omega)
  omega
 refine floordiv_int (by have := hc.1; omega) ?_ (.inl (PyProof.noPylong_of_log2 hl))
 rw [Int.fdiv_eq_ediv_of_nonneg i (by have := hc.1; omega)]
 exact q
theorem x_div : Op3 X (binaryOp .FloorDiv) xDiv := x_intC op_fdivL
theorem x_mod : Op3 X (binaryOp .Mod) xMod := x_intC op_mod
theorem x_pow : Op3 X (binaryOp .Pow) xPow := x_intC op_pow
theorem x_shl : Op3 X (binaryOp .LShift) xShl := x_intC op_shl
theorem x_shr : Op3 X (binaryOp .RShift) xShr := x_intC op_shr
theorem x_and : Op3 X (binaryOp .BitAnd) xAnd := x_int op_and
theorem x_or : Op3 X (binaryOp .BitOr) xOr := x_int op_or
theorem x_xor : Op3 X (binaryOp .BitXor) xXor := x_int op_xor
theorem x_iadd : Op3 X (inplaceOp .Add) (xInt fun i j => i + j) := x_int iop_add
theorem x_add : Op3 X (binaryOp .Add) xAdd := weakOp (op_add.or (op_add_str.or (op_catT.or op_cat))) <| by
 rintro x y H Q ⟨d, e, G, q, r1, r2, c, t, f⟩
 unfold xAdd at t
 split at t
 ·exact .inl ⟨_, _, r1.int_inv, r2.int_inv, f _ _ _ _ RelD.intI c (Le.refl H) t⟩
 ·exact .inr (.inl ⟨_, _, r1.str_inv, r2.str_inv, t.1, f _ _ _ _ RelD.strI c (Le.refl H) t.2⟩)
 ·obtain ⟨a, xs, rfl, s1, q1⟩ := r1.tup_inv
  obtain ⟨b, ys, rfl, s2, q2⟩ := r2.tup_inv
  refine .inr (.inr (.inl ⟨a, b, xs, ys, rfl, rfl, s1, s2, fun z => t.1 ?_, by rw [← q1.length, ← q2.length]; exact t.2.1, fun z => ?_, fun _ p hp => ?_⟩))
  ·have := q1.length; rw [z] at this; exact List.eq_nil_of_length_eq_zero this
  ·refine f (.tup _) G (.ref a) _ ?_ c (Le.refl _) t.2.2
   rw [RelD]
   subst z
   have e : ∀ {bs : List D}, RelDs X.K H bs [] → bs = [] := fun h => List.eq_nil_of_length_eq_zero h.length
   rw [e q2, List.append_nil]
   exact ⟨a, _, rfl, s1, q1⟩
  ·refine f (.tup _) G (.ref p) _ ?_ (c.side hp) (Le.fresh hp) t.2.2
   rw [RelD]
   exact ⟨p, _, rfl, SqT.of upd_same, RelDs.le (Le.fresh hp) (q1.append q2)⟩
 ·rename_i a b
  split at t
  ·rename_i xs ys e1 e2
   obtain ⟨vs, h1, q1⟩ := c _ _ e1
   obtain ⟨ws, h2, q2⟩ := c _ _ e2
   exact .inr (.inr (.inr ⟨a, b, vs, ws, r1.ref_inv, r2.ref_inv, h1, h2, by rw [← q1.length, ← q2.length]; exact t.1, fun p hp => f _ _ _ _ RelD.refI (c.lstNew hp (q1.append q2)) (Le.fresh hp) (t.2 p (c.fresh hp))⟩))
  ·exact t.elim
 ·exact t.elim
theorem x_mul : Op3 X (binaryOp .Mult) xMul := weakOp (op_mul.or op_rep) <| by
 rintro x y H Q ⟨d, e, G, q, r1, r2, c, t, f⟩
 unfold xMul at t
 split at t
 ·exact .inl ⟨_, _, r1.int_inv, r2.int_inv, t.1, f _ _ _ _ RelD.intI c (Le.refl H) t.2⟩
 ·rename_i a k
  split at t
  ·rename_i xs e1
   obtain ⟨vs, h1, q1⟩ := c _ _ e1
   refine .inr ⟨a, k, vs, r1.ref_inv, r2.int_inv, h1, t.1.1, t.1.2.1, by rw [← q1.length]; exact t.1.2.2, ?_⟩
   intro p hp
   exact f _ _ _ _ RelD.refI (c.lstNew hp (q1.rep _)) (Le.fresh hp) (t.2 p (c.fresh hp))
  ·exact t.elim
 ·exact t.elim
theorem x_cmpI {f : Value → Value → Sem Value} {g : Int → Int → Bool} (h : OpR X f (rI0 fun i j => .bl (g i j))) : Op3 X f (fun x y G q => match x, y with | .int i, .int j => q (.bl (g i j)) G | _, _ => False) := weakOp h fun x y H Q ⟨d, e, G, q, r1, r2, c, t, f⟩ => by
 dsimp only at t
 split at t
 ·exact ⟨_, _, r1.int_inv, r2.int_inv, f _ _ _ _ RelD.blI c (Le.refl H) t⟩
 ·exact t.elim
theorem x_le : Op3 X (compareOp .LtE) xLe := x_cmpI op_le
theorem x_gt : Op3 X (compareOp .Gt) xGt := x_cmpI op_gt
theorem x_ge : Op3 X (compareOp .GtE) xGe := x_cmpI op_ge
theorem x_lt : Op3 X (compareOp .Lt) xLt := weakOp (op_lt.or op_lt_str) <| by
 rintro x y H Q ⟨d, e, G, q, r1, r2, c, t, f⟩
 unfold xLt at t
 split at t
 ·exact .inl ⟨_, _, r1.int_inv, r2.int_inv, f _ _ _ _ RelD.blI c (Le.refl H) t⟩
 ·exact .inr ⟨_, _, r1.str_inv, r2.str_inv, f _ _ _ _ RelD.blI c (Le.refl H) t⟩
 ·exact t.elim
theorem RelD.not_non {d : D} {v : V} (h : RelD K H d v) (n : d ≠ .non) : v ≠ .non := by
 cases d with
 | non => exact absurd rfl n
 | bl _ => rw [h.bl_inv]; exact fun z => nomatch z
 | int _ => rw [h.int_inv]; exact fun z => nomatch z
 | str _ => rw [h.str_inv]; exact fun z => nomatch z
 | ref _ => rw [h.ref_inv]; exact fun z => nomatch z
 | ty _ => rw [RelD] at h; rw [h]; exact fun z => nomatch z
 | tup _ => obtain ⟨a, xs, e, _⟩ := h.tup_inv; rw [e]; exact fun z => nomatch z
def xNeg : U3 := fun x G q => match x with | .int i => q (.int (-i)) G | _ => False
theorem x_neg : UnR X (unaryOp .USub) (lowU X.K xNeg) := weakUn un_neg <| by
 rintro x H Q ⟨d, G, q, r1, c, t, f⟩
 unfold xNeg at t
 split at t
 ·exact ⟨_, r1.int_inv, f _ _ _ _ RelD.intI c (Le.refl H) t⟩
 ·exact t.elim
def xIx : R3 := fun x y G q => match x, y with
 | .tup ds, .int i => (match atI ds i with | some d => q d G | none => False)
 | .ref a, .int i => (match seqOf (G a) with | some ds => (match atI ds i with | some d => q d G | none => False) | none => False)
 | .str z, .int i => z.length ≤ sizeLine ∧ (match atI z.cps.toList i with | some c => q (.str ⟨#[c]⟩) G | none => False)
 | _, _ => False
theorem RelDs.atI {ds : List D} {xs : List V} {i : Int} {d : D} (h : RelDs K H ds xs) (e : L2.atI ds i = some d) : ∃ v, L2.atI xs i = some v ∧ RelD K H d v := by
 unfold L2.atI at e ⊢
 rw [← h.length]
 cases hj : ixN ds.length i with
 | none => rw [hj] at e; cases e
 | some j =>
  rw [hj] at e
  exact h.get e
theorem x_ix : IxR X (lowR X.K xIx) := weakIx ix_seq <| by
 rintro x y H Q ⟨d, e, G, q, r1, r2, c, t, f⟩
 unfold xIx at t
 split at t
 ·rename_i ds i
  obtain ⟨a, xs, rfl, s1, q1⟩ := r1.tup_inv
  split at t
  ·rename_i w ew
   obtain ⟨v, hv, rv⟩ := q1.atI ew
   exact .inr (.inl ⟨a, xs, i, v, rfl, r2.int_inv, s1, hv, f _ _ _ _ rv c (Le.refl H) t⟩)
  ·exact t.elim
 ·rename_i a i
  split at t
  ·rename_i ds es
   obtain ⟨xs, s1, q1⟩ := sql_of c es
   split at t
   ·rename_i w ew
    obtain ⟨v, hv, rv⟩ := q1.atI ew
    exact .inl ⟨a, xs, i, v, r1.ref_inv, r2.int_inv, s1, hv, f _ _ _ _ rv c (Le.refl H) t⟩
   ·exact t.elim
  ·exact t.elim
 ·rename_i z i
  obtain ⟨hz, t⟩ := t
  split at t
  ·rename_i w ew
   exact .inr (.inr ⟨z, i, w, r1.str_inv, r2.int_inv, hz, ew, f _ _ _ _ RelD.strI c (Le.refl H) t⟩)
  ·exact t.elim
 ·exact t.elim
noncomputable def cutD {α : Type} (xs : List α) (lo hi : Option Int) : List α := (xs.drop (HT.sIx xs.length 0 lo)).take (HT.sIx xs.length xs.length hi - HT.sIx xs.length 0 lo)
def xSet : TSet3 := fun o i v G q => match o, i with
 | .ref a, .int k => (match G a with | some (.lst ds) => (match ixN ds.length k with | some j => q (gup G a (.lst (ds.set j v))) | none => False) | _ => False)
 | _, _ => False
theorem x_set : PSet X (lowSet X.K xSet) := weakSet set_list <| by
 rintro o i v H Q ⟨d, e, x, G, q, r1, r2, r3, c, t, f⟩
 unfold xSet at t
 split at t
 ·rename_i a k
  split at t
  ·rename_i ds e1
   obtain ⟨xs, h1, q1⟩ := c _ _ e1
   split at t
   ·rename_i j ej
    exact ⟨a, xs, k, j, r1.ref_inv, r2.int_inv, h1, by rw [← q1.length]; exact ej, f _ _ (c.lstSet h1 (q1.set r3 j)) (Le.lst h1) t⟩
   ·exact t.elim
  ·exact t.elim
 ·exact t.elim
end
end L3
namespace L3
open PySem PySem.Spec PyProof.Rows L2
set_option maxHeartbeats 4000000
inductive Sn where
 | non | bl (b : Bool) | int (i : Int) | str (x : Str) | tup (xs : List Sn) | lst (xs : List Sn)
noncomputable def snap (G : Gp) : Nat → D → Option Sn
 | _, .non => some .non
 | _, .bl b => some (.bl b)
 | _, .int i => some (.int i)
 | _, .str x => some (.str x)
 | n + 1, .tup ds => (ds.mapM (snap G n)).map .tup
 | n + 1, .ref a => (seqOf (G a)).bind fun ds => (ds.mapM (snap G n)).map .lst
 | _, _ => none
noncomputable def flatS : Sn → Bool
 | .non => true | .bl _ => true | .int _ => true | .str _ => true | _ => false
noncomputable def eqF : Sn → Sn → Bool
 | .non, .non => true
 | .bl a, .bl b => a == b
 | .bl a, .int b => (if a then 1 else 0) == b
 | .int a, .bl b => a == (if b then 1 else 0)
 | .int a, .int b => a == b
 | .str a, .str b => a == b
 | _, _ => false
noncomputable def eqN : Nat → Sn → Sn → Option Bool
 | n + 1, .tup xs, .tup ys => if xs.length = ys.length then ((xs.zip ys).mapM fun p => eqN n p.1 p.2).map fun bs => bs.all id else none
 | n + 1, .lst xs, .lst ys => if xs.length = ys.length then ((xs.zip ys).mapM fun p => eqN n p.1 p.2).map fun bs => bs.all id else some false
 | _, x, y => if (flatS x && flatS y) = true then some (eqF x y) else none
theorem mapM_some {α β : Type} {f : α → Option β} : ∀ {xs : List α} {ys : List β}, xs.mapM f = some ys → xs.length = ys.length ∧ ∀ (i : Nat) x, xs[i]? = some x → ∃ y, ys[i]? = some y ∧ f x = some y
 | [], ys, h => by
  have : ys = [] := by simpa using h.symm
  subst this
  exact ⟨rfl, fun i x e => by simp at e⟩
 | x :: xs, ys, h => by
  rw [List.mapM_cons] at h
  cases hx : f x with
  | none => rw [hx] at h; cases h
  | some y =>
   rw [hx] at h
   cases hr : xs.mapM f with
   | none => rw [hr] at h; cases h
   | some r =>
    rw [hr] at h
    have e : y :: r = ys := Option.some.inj h
    subst e
    obtain ⟨h1, h2⟩ := mapM_some hr
    refine ⟨by simp [h1], fun i z e => ?_⟩
    cases i with
    | zero => cases (show x = z from Option.some.inj e); exact ⟨y, rfl, hx⟩
    | succ i => exact h2 i z e
theorem all_of {bs : List Bool} {e : Nat → Bool} {n : Nat} (hl : bs.length = n) (h : ∀ (i : Nat) b, bs[i]? = some b → e i = b) : (List.range n).all e = bs.all id := by
 rw [Bool.eq_iff_iff, List.all_eq_true, List.all_eq_true]
 constructor
 ·intro q b hb
  obtain ⟨i, hi, eb⟩ := List.mem_iff_getElem.mp hb
  have := q i (List.mem_range.mpr (by omega))
  rw [h i b (by rw [List.getElem?_eq_getElem hi, eb])] at this
  exact this
 ·intro q i hi
  have hi := List.mem_range.mp hi
  rw [h i bs[i] (List.getElem?_eq_getElem (by omega))]
  exact q _ (List.getElem_mem _)
section
variable {X : Cx} {pins : List (Addr × Obj)} {σ : L2.St} {H : Hp} {s : Shared} {G : Gp}
theorem flat_of {n : Nat} {d : D} {sd : Sn} {x : V} {u : Value} (h : snap G n d = some sd) (fl : flatS sd = true) (r : RelD X.K H d x) : flatV x = true ∧ ∀ (e : D) (se : Sn) (y : V), snap G n e = some se → flatS se = true → RelD X.K H e y → eqV x y = eqF sd se := by
  have key : ∀ (d : D) (sd : Sn) (x : V), snap G n d = some sd → flatS sd = true → RelD X.K H d x → (sd = .non ∧ x = .non) ∨ (∃ b, sd = .bl b ∧ x = .bl b) ∨ (∃ i, sd = .int i ∧ x = .int i) ∨ (∃ z, sd = .str z ∧ x = .str z) := by
    intro d sd x h fl r
    cases d with
    | non => have e : Sn.non = sd := by cases n <;> exact Option.some.inj h
             subst e; exact .inl ⟨rfl, r.non_inv⟩
    | bl b => have e : Sn.bl b = sd := by cases n <;> exact Option.some.inj h
              subst e; exact .inr (.inl ⟨b, rfl, r.bl_inv⟩)
    | int b => have e : Sn.int b = sd := by cases n <;> exact Option.some.inj h
               subst e; exact .inr (.inr (.inl ⟨b, rfl, r.int_inv⟩))
    | str b => have e : Sn.str b = sd := by cases n <;> exact Option.some.inj h
               subst e; exact .inr (.inr (.inr ⟨b, rfl, r.str_inv⟩))
    | tup ds =>
      cases n with
      | zero => cases h
      | succ n =>
        have h : (ds.mapM (snap G n)).map Sn.tup = some sd := h
        obtain ⟨a, _, rfl⟩ := Option.map_eq_some_iff.mp h
        cases fl
    | ref a =>
      cases n with
      | zero => cases h
      | succ n =>
        have h : ((seqOf (G a)).bind fun ds => (ds.mapM (snap G n)).map Sn.lst) = some sd := h
        obtain ⟨ds, _, h⟩ := Option.bind_eq_some_iff.mp h
        obtain ⟨a, _, rfl⟩ := Option.map_eq_some_iff.mp h
        cases fl
    | ty t => cases n <;> cases h
  rcases key d sd x h fl r with ⟨rfl, rfl⟩ | ⟨b, rfl, rfl⟩ | ⟨b, rfl, rfl⟩ | ⟨b, rfl, rfl⟩ <;> refine ⟨rfl, fun e se y h' fl' r' => ?_⟩ <;>
    rcases key e se y h' fl' r' with ⟨rfl, rfl⟩ | ⟨c, rfl, rfl⟩ | ⟨c, rfl, rfl⟩ | ⟨c, rfl, rfl⟩ <;> rfl
theorem snap_tup {n : Nat} {ds : List D} {sd : Sn} (h : snap G n (.tup ds) = some sd) : ∃ m ss, n = m + 1 ∧ sd = .tup ss ∧ ds.mapM (snap G m) = some ss := by
 cases n with
 | zero => cases h
 | succ n =>
  obtain ⟨ss, h1, rfl⟩ := Option.map_eq_some_iff.mp (show (ds.mapM (snap G n)).map Sn.tup = some sd from h)
  exact ⟨n, ss, rfl, rfl, h1⟩
theorem snap_ref {n : Nat} {a : Addr} {sd : Sn} (h : snap G n (.ref a) = some sd) : ∃ m ds ss, n = m + 1 ∧ sd = .lst ss ∧ seqOf (G a) = some ds ∧ ds.mapM (snap G m) = some ss := by
 cases n with
 | zero => cases h
 | succ n =>
  obtain ⟨ds, h0, h⟩ := Option.bind_eq_some_iff.mp (show ((seqOf (G a)).bind fun ds => (ds.mapM (snap G n)).map Sn.lst) = some sd from h)
  obtain ⟨ss, h1, rfl⟩ := Option.map_eq_some_iff.mp h
  exact ⟨n, ds, ss, rfl, rfl, h0, h1⟩
theorem eqN_flat {n : Nat} {x y : Sn} (hx : flatS x = true) : eqN n x y = if (flatS x && flatS y) = true then some (eqF x y) else none := by
 cases x with
 | tup _ => cases hx
 | lst _ => cases hx
 | non => cases n <;> rfl
 | bl _ => cases n <;> rfl
 | int _ => cases n <;> rfl
 | str _ => cases n <;> rfl
theorem eqN_some {n : Nat} {x y : Sn} {b : Bool} (h : eqN n x y = some b) (fl : ¬ (flatS x && flatS y) = true) : (∃ m xs ys, n = m + 1 ∧ x = .tup xs ∧ y = .tup ys) ∨ (∃ m xs ys, n = m + 1 ∧ x = .lst xs ∧ y = .lst ys) := by
 unfold eqN at h
 split at h
 ·exact .inl ⟨_, _, _, rfl, rfl, rfl⟩
 ·exact .inr ⟨_, _, _, rfl, rfl, rfl⟩
 ·rw [if_neg fl] at h; cases h
theorem snap_isT {n : Nat} {d : D} {ss : List Sn} (h : snap G n d = some (.tup ss)) : ∃ ds, d = .tup ds := by
 cases d with
 | tup ds => exact ⟨ds, rfl⟩
 | ref a => obtain ⟨_, _, _, _, e', _⟩ := snap_ref h; cases e'
 | _ => cases n <;> cases h
theorem snap_isL {n : Nat} {d : D} {ss : List Sn} (h : snap G n d = some (.lst ss)) : ∃ a, d = .ref a := by
 cases d with
 | ref a => exact ⟨a, rfl⟩
 | tup ds => obtain ⟨_, _, _, e', _⟩ := snap_tup h; cases e'
 | _ => cases n <;> cases h
theorem same_flat {n : Nat} {d e : D} {x : V} {sd se : Sn} {b : Bool} (r1 : RelD X.K H d x) (r2 : RelD X.K H e x) (h1 : snap G n d = some sd) (h2 : snap G n e = some se) (hb : eqN n sd se = some b) (fl : (flatS sd && flatS se) = true) : b = true := by
 rw [Bool.and_eq_true] at fl
 have z := hb
 rw [eqN_flat fl.1, if_pos (by rw [fl.1, fl.2]; rfl)] at z
 obtain ⟨fx, k⟩ := flat_of (u := Value.none) h1 fl.1 r1
 rw [← Option.some.inj z, ← k e se x h2 fl.2 r2]
 cases x with
 | non => rfl
 | bl b => exact beq_self_eq_true b
 | int i => exact beq_self_eq_true i
 | str w => exact beq_self_eq_true w
 | _ => cases fx
theorem same_eq (I : Inv X pins σ H s) (c : Con X.K G H) : ∀ (n : Nat) (d e : D) (x : V) (sd se : Sn) (b : Bool), RelD X.K H d x → RelD X.K H e x → snap G n d = some sd → snap G n e = some se → eqN n sd se = some b → b = true := by
 intro n
 induction n with
 | zero =>
  intro d e x sd se b r1 r2 h1 h2 hb
  by_cases fl : (flatS sd && flatS se) = true
  ·exact same_flat r1 r2 h1 h2 hb fl
  ·rcases eqN_some hb fl with ⟨_, _, _, z, _⟩ | ⟨_, _, _, z, _⟩ <;> cases z
 | succ m ih =>
  intro d e x sd se b r1 r2 h1 h2 hb
  by_cases fl : (flatS sd && flatS se) = true
  ·exact same_flat r1 r2 h1 h2 hb fl
  have items : ∀ (ds es : List D) (xs : List V) (ss ts : List Sn) (bs : List Bool), RelDs X.K H ds xs → RelDs X.K H es xs → ds.mapM (snap G m) = some ss → es.mapM (snap G m) = some ts → ((ss.zip ts).mapM fun p => eqN m p.1 p.2) = some bs → bs.all id = true := by
   intro ds es xs ss ts bs q1 q2 k1 k2 kb
   rw [List.all_eq_true]
   intro b hb
   obtain ⟨i, hi, eb⟩ := List.mem_iff_getElem.mp hb
   obtain ⟨l1, f1⟩ := mapM_some k1
   obtain ⟨l2, f2⟩ := mapM_some k2
   obtain ⟨l3, f3⟩ := mapM_some kb
   have hz : (ss.zip ts).length = min ss.length ts.length := List.length_zip
   have e1 := q1.length
   have e2 := q2.length
   have hds : i < ds.length := by omega
   have hes : i < es.length := by omega
   obtain ⟨y1, g1, s1⟩ := f1 i ds[i] (List.getElem?_eq_getElem hds)
   obtain ⟨y2, g2, s2⟩ := f2 i es[i] (List.getElem?_eq_getElem hes)
   have hzip : (ss.zip ts)[i]? = some (y1, y2) := by rw [List.getElem?_zip_eq_some]; exact ⟨g1, g2⟩
   obtain ⟨b', g3, s3⟩ := f3 i _ hzip
   rw [List.getElem?_eq_getElem hi, eb] at g3
   cases g3
   obtain ⟨z1, hz1, rz1⟩ := q1.get (List.getElem?_eq_getElem hds)
   obtain ⟨z2, hz2, rz2⟩ := q2.get (List.getElem?_eq_getElem hes)
   rw [hz1] at hz2; cases hz2
   exact ih ds[i] es[i] z1 y1 y2 b rz1 rz2 s1 s2 s3
  rcases eqN_some hb fl with ⟨m', ss, ts, em, rfl, rfl⟩ | ⟨m', ss, ts, em, rfl, rfl⟩
  ·cases em
   obtain ⟨ds, rfl⟩ := snap_isT h1
   obtain ⟨es, rfl⟩ := snap_isT h2
   obtain ⟨_, _, em, ez, k1⟩ := snap_tup h1
   cases em
   cases ez
   obtain ⟨_, _, em, ez, k2⟩ := snap_tup h2
   cases em
   cases ez
   obtain ⟨a, xs, rfl, q1, rr1⟩ := r1.tup_inv
   obtain ⟨a', ys, e', q2, rr2⟩ := r2.tup_inv
   cases e'
   have := I.tuple_inj q1 q2
   subst this
   unfold eqN at hb
   split at hb
   ·obtain ⟨bs, kb, rfl⟩ := Option.map_eq_some_iff.mp hb
    exact items ds es xs ss ts bs rr1 rr2 k1 k2 kb
   ·cases hb
  ·cases em
   obtain ⟨a, rfl⟩ := snap_isL h1
   obtain ⟨a', rfl⟩ := snap_isL h2
   cases r1.ref_inv
   have e' := r2.ref_inv
   cases e'
   obtain ⟨_, ds, _, em, ez, hs1, k1⟩ := snap_ref h1
   cases em
   cases ez
   obtain ⟨_, es, _, em, ez, hs2, k2⟩ := snap_ref h2
   cases em
   cases ez
   rw [hs1] at hs2
   cases hs2
   rw [k1] at k2
   cases k2
   obtain ⟨xs, _, rr⟩ := sql_of c hs1
   unfold eqN at hb
   split at hb
   ·obtain ⟨bs, kb, rfl⟩ := Option.map_eq_some_iff.mp hb
    exact items ds ds xs ss ss bs rr rr k1 k1 kb
   ·rename_i h; exact absurd rfl h
structure SeqPair (G : Gp) (K : PySem.W.Frag) (H : Hp) (m : Nat) (its its2 : List Value) (bs : List Bool) : Prop where
 len : its.length = its2.length
 bl : bs.length = its.length
 at_ : ∀ (j : Nat) (h1 : j < its.length) (h2 : j < its2.length) (h3 : j < bs.length), ∃ d e x y sd se, RelD K H d x ∧ RelV x its[j] ∧ RelD K H e y ∧ RelV y its2[j] ∧ snap G m d = some sd ∧ snap G m e = some se ∧ eqN m sd se = some bs[j]
theorem seqPair {m : Nat} {ds es : List D} {xs ys : List V} {its its2 : List Value} {ss ts : List Sn} {bs : List Bool} (q1 : RelDs X.K H ds xs) (v1 : Vals xs its) (q2 : RelDs X.K H es ys) (v2 : Vals ys its2)
  (k1 : ds.mapM (snap G m) = some ss) (k2 : es.mapM (snap G m) = some ts) (hl : ss.length = ts.length) (kb : ((ss.zip ts).mapM fun p => eqN m p.1 p.2) = some bs) : SeqPair G X.K H m its its2 bs := by
 obtain ⟨l1, f1⟩ := mapM_some k1
 obtain ⟨l2, f2⟩ := mapM_some k2
 obtain ⟨l3, f3⟩ := mapM_some kb
 have hz : (ss.zip ts).length = min ss.length ts.length := List.length_zip
 have e1 := q1.length
 have e2 := q2.length
 have e3 := v1.length
 have e4 := v2.length
 refine ⟨by omega, by omega, fun j h1 h2 h3 => ?_⟩
 have hds : j < ds.length := by omega
 have hes : j < es.length := by omega
 obtain ⟨y1, g1, s1⟩ := f1 j ds[j] (List.getElem?_eq_getElem hds)
 obtain ⟨y2, g2, s2⟩ := f2 j es[j] (List.getElem?_eq_getElem hes)
 have hzip : (ss.zip ts)[j]? = some (y1, y2) := by rw [List.getElem?_zip_eq_some]; exact ⟨g1, g2⟩
 obtain ⟨b', g3, s3⟩ := f3 j _ hzip
 rw [List.getElem?_eq_getElem h3] at g3
 cases g3
 obtain ⟨z1, hz1, rz1⟩ := q1.get (List.getElem?_eq_getElem hds)
 obtain ⟨z2, hz2, rz2⟩ := q2.get (List.getElem?_eq_getElem hes)
 obtain ⟨u1, hu1, ru1⟩ := v1.get hz1
 obtain ⟨u2, hu2, ru2⟩ := v2.get hz2
 rw [List.getElem?_eq_getElem h1] at hu1
 rw [List.getElem?_eq_getElem h2] at hu2
 cases hu1
 cases hu2
 exact ⟨ds[j], es[j], z1, z2, y1, y2, rz1, ru1, rz2, ru2, s1, s2, s3⟩
end
end L3
namespace L3
open PySem PySem.Spec PyProof.Rows L2
set_option maxHeartbeats 4000000
section
variable {X : Cx} {pins : List (Addr × Obj)} {σ : L2.St} {H : Hp} {s : Shared} {G : Gp}
theorem eq_flat (I : Inv X pins σ H s) {n : Nat} {A : Around} {d e : D} {x y : V} {u v : Value} {sd se : Sn} {b : Bool} (r1 : RelD X.K H d x) (v1 : RelV x u) (r2 : RelD X.K H e y) (v2 : RelV y v) (h1 : snap G n d = some sd) (h2 : snap G n e = some se) (hb : eqN n sd se = some b) (fl : (flatS sd && flatS se) = true) : SeqAt.EqAt A s u v b := by
 rw [Bool.and_eq_true] at fl
 have hb' : b = eqF sd se := by
  have z := hb
  rw [eqN_flat fl.1, if_pos (by rw [fl.1, fl.2]; rfl)] at z
  exact (Option.some.inj z).symm
 obtain ⟨fx, k⟩ := flat_of (u := u) h1 fl.1 r1
 obtain ⟨fy, _⟩ := flat_of (u := v) h2 fl.2 r2
 rw [hb', ← k e se y h2 fl.2 r2]
 exact eqAt_V v1 v2 fx fy
theorem eq_at (I : Inv X pins σ H s) (c : Con X.K G H) : ∀ (n : Nat) (A : Around) (d e : D) (x y : V) (u v : Value) (sd se : Sn) (b : Bool), RelD X.K H d x → RelV x u → RelD X.K H e y → RelV y v → snap G n d = some sd → snap G n e = some se → eqN n sd se = some b → A.units + n < cLine → SeqAt.EqAt A s u v b := by
 intro n
 induction n with
 | zero =>
  intro A d e x y u v sd se b r1 v1 r2 v2 h1 h2 hb hu
  by_cases fl : (flatS sd && flatS se) = true
  ·exact eq_flat I r1 v1 r2 v2 h1 h2 hb fl
  ·rcases eqN_some hb fl with ⟨_, _, _, z, _⟩ | ⟨_, _, _, z, _⟩ <;> cases z
 | succ m ih =>
  intro A d e x y u v sd se b r1 v1 r2 v2 h1 h2 hb hu
  by_cases fl : (flatS sd && flatS se) = true
  ·exact eq_flat I r1 v1 r2 v2 h1 h2 hb fl
  ·have inner : ∀ (its its2 : List Value) (bs : List Bool), SeqPair G X.K H m its its2 bs → ∀ j (h1 : j < its.toArray.size) (h2 : j < its2.toArray.size), SeqAt.EqAt A.in1 s its.toArray[j] its2.toArray[j] ((bs[j]?).getD true) := by
    intro its its2 bs P j h1 h2
    have h1' : j < its.length := by simpa using h1
    have h2' : j < its2.length := by simpa using h2
    have h3' : j < bs.length := by rw [P.bl]; exact h1'
    obtain ⟨d', e', x', y', sd', se', a1, a2, a3, a4, a5, a6, a7⟩ := P.at_ j h1' h2' h3'
    rw [List.getElem?_eq_getElem h3']
    have hu' : A.in1.units + m < cLine := by
     have : A.in1.units = A.units + 1 := rfl
     omega
    have := ih A.in1 d' e' x' y' _ _ sd' se' _ a1 a2 a3 a4 a5 a6 a7 hu'
    simpa using this
   rcases eqN_some hb fl with ⟨m', ss, ts, em, rfl, rfl⟩ | ⟨m', ss, ts, em, rfl, rfl⟩
   ·cases em
    obtain ⟨ds, rfl⟩ := snap_isT h1
    obtain ⟨es, rfl⟩ := snap_isT h2
    obtain ⟨_, _, em, ez, k1⟩ := snap_tup h1
    cases em
    cases ez
    obtain ⟨_, _, em, ez, k2⟩ := snap_tup h2
    cases em
    cases ez
    obtain ⟨a, xs, rfl, q1, rr1⟩ := r1.tup_inv
    obtain ⟨a', ys, rfl, q2, rr2⟩ := r2.tup_inv
    cases v1
    cases v2
    by_cases haa : a = a'
    ·subst haa
     rw [same_eq I c (m + 1) (.tup ds) (.tup es) (.ref a) _ _ b r1 r2 h1 h2 hb]
     exact SeqAt.EqAt.same _
    ·unfold eqN at hb
     split at hb
     ·rename_i hlen
      obtain ⟨bs, kb, rfl⟩ := Option.map_eq_some_iff.mp hb
      obtain ⟨its, w1, t1, _⟩ := I.tuple q1
      obtain ⟨its2, w2, t2, _⟩ := I.tuple q2
      have P := seqPair rr1 w1 rr2 w2 k1 k2 hlen kb
      have R := SeqAt.RcAt.tuples (A := A) (s := s) (e := fun j => (bs[j]?).getD true) (show s.heap.IsTuple a its.toArray from t1) (show s.heap.IsTuple a' its2.toArray from t2) (by omega) (inner its its2 bs P)
      have e1 : ((List.range (min its.toArray.size its2.toArray.size)).all (fun j => (bs[j]?).getD true) && its.toArray.size == its2.toArray.size) = bs.all id := by
       have el : its.toArray.size = its2.toArray.size := by simpa using P.len
       rw [el, Nat.min_self, beq_self_eq_true, Bool.and_true]
       exact all_of (by rw [← el]; simpa using P.bl) fun i b hb => by rw [hb]; rfl
      rw [e1] at R
      exact SeqAt.EqAt.of_refs haa R
     ·cases hb
   ·cases em
    obtain ⟨a, rfl⟩ := snap_isL h1
    obtain ⟨a', rfl⟩ := snap_isL h2
    obtain ⟨_, ds, _, em, ez, hs1, k1⟩ := snap_ref h1
    cases em
    cases ez
    obtain ⟨_, es, _, em, ez, hs2, k2⟩ := snap_ref h2
    cases em
    cases ez
    cases r1.ref_inv
    cases r2.ref_inv
    cases v1
    cases v2
    by_cases haa : a = a'
    ·subst haa
     rw [same_eq I c (m + 1) (.ref a) (.ref a) (.ref a) _ _ b r1 r2 h1 h2 hb]
     exact SeqAt.EqAt.same _
    ·obtain ⟨xs, q1, rr1⟩ := sql_of c hs1
     obtain ⟨ys, q2, rr2⟩ := sql_of c hs2
     obtain ⟨its, w1, t1, _⟩ := I.list q1
     obtain ⟨its2, w2, t2, _⟩ := I.list q2
     unfold eqN at hb
     split at hb
     ·rename_i hlen
      obtain ⟨bs, kb, rfl⟩ := Option.map_eq_some_iff.mp hb
      have P := seqPair rr1 w1 rr2 w2 k1 k2 hlen kb
      have el : its.toArray.size = its2.toArray.size := by simpa using P.len
      have R := SeqAt.RcAt.lists (A := A) (s := s) (e := fun j => (bs[j]?).getD true) t1.isList t2.isList el (by omega) (inner its its2 bs P)
      have e1 : ((List.range its.toArray.size).all (fun j => (bs[j]?).getD true)) = bs.all id :=
       all_of (by simpa using P.bl) fun i b hb => by rw [hb]; rfl
      rw [e1] at R
      exact SeqAt.EqAt.of_refs haa R
     ·rename_i hlen
      cases hb
      have n1 := (mapM_some k1).1
      have n2 := (mapM_some k2).1
      have m1 := rr1.length
      have m2 := rr2.length
      have m3 := w1.length
      have m4 := w2.length
      exact SeqAt.EqAt.of_refs haa (SeqAt.RcAt.lists_lengths t1.isList t2.isList (by simp; omega) (by omega))
end
def rEqD (K : PySem.W.Frag) (neg : Bool) : R2 := fun x y H Q => ∃ (d e : D) (G : Gp) (n : Nat) (sd se : Sn) (b : Bool), RelD K H d x ∧ RelD K H e y ∧ Con K G H ∧ n ≤ 40 ∧ snap G n d = some sd ∧ snap G n e = some se ∧ eqN n sd se = some b ∧ flatS sd = false ∧ Q (.bl (if neg then !b else b)) H
section
variable {X : Cx} {k : Nat}
theorem op_eqD (hr : Room k X.A) : OpR X (compareOp .Eq) (rEqD X.K false) := by
  intro pins s σ H x y v u Q I rx ry h
  obtain ⟨d, e, G, n, sd, se, b, r1, r2, c, hn, h1, h2, hb, fl, q⟩ := h
  have hu := hr.units
  have fin : EP X pins σ Q (.bool b) s := ⟨.bl b, H, I, rfl, q⟩
  rcases eqN_some hb (fun z => by rw [fl] at z; cases z) with ⟨m, ss, ts, rfl, rfl, rfl⟩ | ⟨m, ss, ts, rfl, rfl, rfl⟩
  · obtain ⟨ds, rfl⟩ := snap_isT h1
    obtain ⟨es, rfl⟩ := snap_isT h2
    · · · obtain ⟨_, ss', em, ez, k1⟩ := snap_tup h1
          cases em
          cases ez
          obtain ⟨m', ts', em, es', k2⟩ := snap_tup h2
          cases em
          cases es'
          obtain ⟨a, xs, rfl, q1, rr1⟩ := r1.tup_inv
          obtain ⟨a', ys, rfl, q2, rr2⟩ := r2.tup_inv
          cases rx
          cases ry
          unfold eqN at hb
          split at hb
          · rename_i hlen
            obtain ⟨bs, kb, rfl⟩ := Option.map_eq_some_iff.mp hb
            obtain ⟨its, w1, t1, _⟩ := I.tuple q1
            obtain ⟨its2, w2, t2, _⟩ := I.tuple q2
            have P := seqPair rr1 w1 rr2 w2 k1 k2 hlen kb
            refine SeqAt.eq_tupleAt (e := fun j => (bs[j]?).getD true) (show s.heap.IsTuple a its.toArray from t1) (show s.heap.IsTuple a' its2.toArray from t2) (by omega) ?_ ?_
            · intro j h1 h2
              have h1' : j < its.length := by simpa using h1
              have h2' : j < its2.length := by simpa using h2
              have h3' : j < bs.length := by rw [P.bl]; exact h1'
              obtain ⟨d', e', x', y', sd', se', a1, a2, a3, a4, a5, a6, a7⟩ := P.at_ j h1' h2' h3'
              rw [List.getElem?_eq_getElem h3']
              have := eq_at I c m X.A.in1 d' e' x' y' _ _ sd' se' _ a1 a2 a3 a4 a5 a6 a7 (by have : X.A.in1.units = X.A.units + 1 := rfl; omega)
              simpa using this
            · have e1 : ((List.range (min its.toArray.size its2.toArray.size)).all (fun j => (bs[j]?).getD true) && its.toArray.size == its2.toArray.size) = bs.all id := by
                have el : its.toArray.size = its2.toArray.size := by simpa using P.len
                rw [el, Nat.min_self, beq_self_eq_true, Bool.and_true]
                exact all_of (by rw [← el]; simpa using P.bl) fun i b hb => by rw [hb]; rfl
              rw [e1]
              exact fin
          · cases hb
  · obtain ⟨a, rfl⟩ := snap_isL h1
    obtain ⟨a', rfl⟩ := snap_isL h2
    · · · obtain ⟨_, ds, ss', em, ez, hs1, k1⟩ := snap_ref h1
          cases em
          cases ez
          obtain ⟨m', es, ts', em, es', hs2, k2⟩ := snap_ref h2
          cases em
          cases es'
          cases r1.ref_inv
          cases r2.ref_inv
          cases rx
          cases ry
          obtain ⟨xs, q1, rr1⟩ := sql_of c hs1
          obtain ⟨ys, q2, rr2⟩ := sql_of c hs2
          obtain ⟨its, w1, t1, _⟩ := I.list q1
          obtain ⟨its2, w2, t2, _⟩ := I.list q2
          unfold eqN at hb
          split at hb
          · rename_i hlen
            obtain ⟨bs, kb, rfl⟩ := Option.map_eq_some_iff.mp hb
            have P := seqPair rr1 w1 rr2 w2 k1 k2 hlen kb
            have el : its.toArray.size = its2.toArray.size := by simpa using P.len
            refine SeqAt.eq_listAt (e := fun j => (bs[j]?).getD true) t1.isList t2.isList el (by omega) ?_ ?_
            · intro j h1 h2
              have h1' : j < its.length := by simpa using h1
              have h2' : j < its2.length := by simpa using h2
              have h3' : j < bs.length := by rw [P.bl]; exact h1'
              obtain ⟨d', e', x', y', sd', se', a1, a2, a3, a4, a5, a6, a7⟩ := P.at_ j h1' h2' h3'
              rw [List.getElem?_eq_getElem h3']
              have := eq_at I c m X.A.in1 d' e' x' y' _ _ sd' se' _ a1 a2 a3 a4 a5 a6 a7 (by have : X.A.in1.units = X.A.units + 1 := rfl; omega)
              simpa using this
            · have e1 : ((List.range its.toArray.size).all (fun j => (bs[j]?).getD true)) = bs.all id :=
                all_of (by simpa using P.bl) fun i b hb => by rw [hb]; rfl
              rw [e1]
              exact fin
          · rename_i hlen
            cases hb
            have n1 := (mapM_some k1).1
            have n2 := (mapM_some k2).1
            have m1 := rr1.length
            have m2 := rr2.length
            have m3 := w1.length
            have m4 := w2.length
            exact SeqAt.eq_list_lengthsAt t1.isList t2.isList (by simp; omega) (by omega) fin
theorem op_neD (hr : Room k X.A) : OpR X (compareOp .NotEq) (rEqD X.K true) := by
  intro pins s σ H x y v u Q I rx ry h
  obtain ⟨d, e, G, n, sd, se, b, r1, r2, c, hn, h1, h2, hb, fl, q⟩ := h
  have hu := hr.units
  have fin : EP X pins σ Q (.bool (!b)) s := ⟨.bl (!b), H, I, rfl, q⟩
  rcases eqN_some hb (fun z => by rw [fl] at z; cases z) with ⟨m, ss, ts, rfl, rfl, rfl⟩ | ⟨m, ss, ts, rfl, rfl, rfl⟩
  · obtain ⟨ds, rfl⟩ := snap_isT h1
    obtain ⟨es, rfl⟩ := snap_isT h2
    · · · obtain ⟨_, ss', em, ez, k1⟩ := snap_tup h1
          cases em
          cases ez
          obtain ⟨m', ts', em, es', k2⟩ := snap_tup h2
          cases em
          cases es'
          obtain ⟨a, xs, rfl, q1, rr1⟩ := r1.tup_inv
          obtain ⟨a', ys, rfl, q2, rr2⟩ := r2.tup_inv
          cases rx
          cases ry
          unfold eqN at hb
          split at hb
          · rename_i hlen
            obtain ⟨bs, kb, rfl⟩ := Option.map_eq_some_iff.mp hb
            obtain ⟨its, w1, t1, _⟩ := I.tuple q1
            obtain ⟨its2, w2, t2, _⟩ := I.tuple q2
            have P := seqPair rr1 w1 rr2 w2 k1 k2 hlen kb
            refine SeqAt.RcNeAt.tuples (e := fun j => (bs[j]?).getD true) (show s.heap.IsTuple a its.toArray from t1) (show s.heap.IsTuple a' its2.toArray from t2) (by omega) ?_ X.prog X.w X.xe _ ?_
            · intro j h1 h2
              have h1' : j < its.length := by simpa using h1
              have h2' : j < its2.length := by simpa using h2
              have h3' : j < bs.length := by rw [P.bl]; exact h1'
              obtain ⟨d', e', x', y', sd', se', a1, a2, a3, a4, a5, a6, a7⟩ := P.at_ j h1' h2' h3'
              rw [List.getElem?_eq_getElem h3']
              have := eq_at I c m X.A.in1 d' e' x' y' _ _ sd' se' _ a1 a2 a3 a4 a5 a6 a7 (by have : X.A.in1.units = X.A.units + 1 := rfl; omega)
              simpa using this
            · have e1 : ((List.range (min its.toArray.size its2.toArray.size)).all (fun j => (bs[j]?).getD true) && its.toArray.size == its2.toArray.size) = bs.all id := by
                have el : its.toArray.size = its2.toArray.size := by simpa using P.len
                rw [el, Nat.min_self, beq_self_eq_true, Bool.and_true]
                exact all_of (by rw [← el]; simpa using P.bl) fun i b hb => by rw [hb]; rfl
              rw [e1]
              exact fin
          · cases hb
  · obtain ⟨a, rfl⟩ := snap_isL h1
    obtain ⟨a', rfl⟩ := snap_isL h2
    · · · obtain ⟨_, ds, ss', em, ez, hs1, k1⟩ := snap_ref h1
          cases em
          cases ez
          obtain ⟨m', es, ts', em, es', hs2, k2⟩ := snap_ref h2
          cases em
          cases es'
          cases r1.ref_inv
          cases r2.ref_inv
          cases rx
          cases ry
          obtain ⟨xs, q1, rr1⟩ := sql_of c hs1
          obtain ⟨ys, q2, rr2⟩ := sql_of c hs2
          obtain ⟨its, w1, t1, _⟩ := I.list q1
          obtain ⟨its2, w2, t2, _⟩ := I.list q2
          unfold eqN at hb
          split at hb
          · rename_i hlen
            obtain ⟨bs, kb, rfl⟩ := Option.map_eq_some_iff.mp hb
            have P := seqPair rr1 w1 rr2 w2 k1 k2 hlen kb
            have el : its.toArray.size = its2.toArray.size := by simpa using P.len
            refine SeqAt.RcNeAt.lists (e := fun j => (bs[j]?).getD true) t1.isList t2.isList el (by omega) ?_ X.prog X.w X.xe _ ?_
            · intro j h1 h2
              have h1' : j < its.length := by simpa using h1
              have h2' : j < its2.length := by simpa using h2
              have h3' : j < bs.length := by rw [P.bl]; exact h1'
              obtain ⟨d', e', x', y', sd', se', a1, a2, a3, a4, a5, a6, a7⟩ := P.at_ j h1' h2' h3'
              rw [List.getElem?_eq_getElem h3']
              have := eq_at I c m X.A.in1 d' e' x' y' _ _ sd' se' _ a1 a2 a3 a4 a5 a6 a7 (by have : X.A.in1.units = X.A.units + 1 := rfl; omega)
              simpa using this
            · have e1 : ((List.range its.toArray.size).all (fun j => (bs[j]?).getD true)) = bs.all id :=
                all_of (by simpa using P.bl) fun i b hb => by rw [hb]; rfl
              rw [e1]
              exact fin
          · rename_i hlen
            cases hb
            have n1 := (mapM_some k1).1
            have n2 := (mapM_some k2).1
            have m1 := rr1.length
            have m2 := rr2.length
            have m3 := w1.length
            have m4 := w2.length
            exact SeqAt.RcNeAt.lists_lengths t1.isList t2.isList (by simp; omega) (by omega) X.prog X.w X.xe _ fin
end
end L3
namespace L3
open PySem PySem.Spec PyProof.Rows L2
set_option maxHeartbeats 4000000
structure FnAt (K : PySem.W.Frag) (x qual : Str) (st : Stmt) (ps : List Str) where
 a : Addr
 fd : FuncData
 ex : ∃ (oc : Value) (od : Option Addr) (dV kV doc pm : Value) (an : Option Addr) (cdv ct : Value) (osl : Array (Option Value)),
  fd = PySem.W.fnOf x qual (defArgs st) (defBody st) (defScope st) dV kV doc pm an cdv ct ∧ K.lookup a = some ⟨oc, od, .func fd, osl⟩ ∧ PySem.W.codeIn K cdv qual = true
 kp : PySem.W.keepIn K (.ref a) = true
 b : Binds K fd ps []
noncomputable abbrev Ok (P : Program) (w : World) {K : PySem.W.Frag} (mg : Str → Option Value) (base : Heap) (n : Nat) {x qual : Str} {st : Stmt} {ps : List Str} (d : FnAt K x qual st ps) (S : Sp3) : Prop := FnOk P w K mg base CX0 n d.a d.fd ps (lowSp K S)
noncomputable def startD (N : List Str) (ds : List D) : DSt := ds.map some ++ List.replicate (N.length - ds.length) none
theorem startD_rel {K : PySem.W.Frag} {H : Hp} {N : List Str} {ds : List D} {vs : List V} (r : RelDs K H ds vs) : RelSt K H (startD N ds) (L2.start N vs) := by
 unfold startD L2.start
 refine ⟨by simp [r.length], fun i d e => ?_⟩
 by_cases hi : i < ds.length
 ·rw [List.getElem?_append_left (by simpa using hi), List.getElem?_map] at e
  rw [List.getElem?_append_left (by simpa [← r.length] using hi), List.getElem?_map]
  cases h : ds[i]? with
  | none => rw [h] at e; cases e
  | some d' =>
   rw [h] at e; cases e
   obtain ⟨v, hv, rv⟩ := r.get h
   exact ⟨v, by rw [hv]; rfl, rv⟩
 ·rw [List.getElem?_append_right (by simpa using hi), List.getElem?_replicate] at e
  split at e <;> cases e
section
variable {P : Program} {w : World} {K : PySem.W.Frag} {mg : Str → Option Value} {base : Heap}
theorem def_ok {x qual : Str} {st : Stmt} {ps N : List Str} {k : Nat} (d : FnAt K x qual st ps) {S : Sp3} (sc : FnScope N ps (defScope st)) (hl : ∀ ds G R, S ds G R → ds.length = ps.length) {t : TS3}
  (ht : ∀ (cdv : Value) (A : Around) (outer : List Env) (s : Shared) (H : Hp) (E : XK), Room k (A.deeper (envOfC qual (defScope st) s.heap.objs.size d.a cdv)) → Ss3 (cxOf CX0 P w K mg base N qual (defScope st) d.a cdv A outer s H E).nox (defBody st) t)
  (hb : ∀ ds G R, S ds G R → t { nx := fun _ G' => R .non G', rt := R } (startD N ds) G) : Ok P w mg base (k + 1) d S := by
 obtain ⟨oc, od, dV, kV, doc, pm, an, cdv, ct, osl, e, lk, hcd⟩ := d.ex
 have lk' : K.lookup d.a = some ⟨oc, od, .func (PySem.W.fnOf x qual (defArgs st) (defBody st) (defScope st) dV kV doc pm an cdv ct), osl⟩ := e ▸ lk
 have F : FnOk P w K mg base CX0 (k + 1) d.a (PySem.W.fnOf x qual (defArgs st) (defBody st) (defScope st) dV kV doc pm an cdv ct) ps (lowSp K S) := by
  refine fn_of lk' hcd sc (fun vs H Q E h => ?_) fun A outer s H vs Q E hr h => ?_
  ·obtain ⟨ds, G, R, r, _, hS, _⟩ := h
   rw [← r.length]; exact hl ds G R hS
  ·obtain ⟨ds, G, R, r, c, hS, f⟩ := h
   refine ⟨_, (show PSs _ _ _ from ht cdv A outer s H E hr).nox, startD N ds, G, _, startD_rel r, c, hb ds G R hS, fun σd' G' σ' H' _ c' l' q => ?_, f, fun _ _ _ _ _ _ _ q => q.elim, fun _ _ _ _ _ _ _ q => q.elim⟩
   exact f .non G' .non H' RelD.nonI c' l' q
 have F2 := F
 rw [← e] at F2
 exact F2
end
section
variable {X : Cx} {e o : Expr} {es : List Expr} {p pos apos : Pos} {ta : TE3} {ts : TA3} {k n : Nat} {S : Sp3} {x m qual : Str} {st : Stmt} {ps : List Str} {C : Addr}
theorem ec (d : FnAt X.K x qual st ps) (hm : X.mg x = some (.ref d.a)) (G : FnOk X.prog X.w X.K X.mg X.base CX0 k d.a d.fd ps (lowSp X.K S)) (hr : Room k X.A) (ha : A3 X (e :: es) ts) (hg : Gl X x := by rfl) (hdb : (x == ("__debug__" : Str)) = false := by decide)
  (he : starEach (e :: es) X.env = (false, eval e X.env) :: starEach es X.env := by rfl) (hpl : (backTo pos (starEach es X.env)).any (·.1) = false := by rfl) : E3 X (.Call (.Name x p) (e :: es) [] pos) (dCall S [] ts) :=
 e_call G hr hg hm d.kp d.b .nil (fun _ => .nil) ha hdb he hpl
theorem em {pl : Sem Bool} (c : Cls X.K C) (d : FnAt X.K m qual st ps) (hm : Meth X.K C m d.a) (G : FnOk X.prog X.w X.K X.mg X.base CX0 k d.a d.fd ps (lowSp X.K S)) (hr : Room k X.A) (he : E3 X o ta) (ha : A3 X (e :: es) ts)
  (hse : starEach (e :: es) X.env = (false, eval e X.env) :: starEach es X.env := by rfl) (hpl : (backTo pos (starEach es X.env)).any (·.1) = false := by rfl)
  (ht : eval (.Call (.Attribute o m apos) (e :: es) [] pos) X.env = (do
   let ov ← eval o X.env
   standAt apos.atName
   let (f, first) ← holding [ov] (getMethod ov m pl)
   callWith pos f first (backTo pos (starEach (e :: es) X.env)) (backToKw pos (keywordEach [] X.env))) := by rfl) : E3 X (.Call (.Attribute o m apos) (e :: es) [] pos) (dMeth C m S [] ta ts) :=
 e_meth he c hm G hr d.b .nil (fun _ => .nil) ha hse hpl ht
end
noncomputable def blkOk (osc : Scope) (N N' : List Str) (ix : List (Option Nat)) (scope : Scope) : Bool :=
 (scope.kind == .function) && scope.names.all (fun y => y.2 != .cell) && scope.names.all (fun y => y.2 != .local || scope.names.lookup y.1 == some .local) &&
 scope.names.all (fun y => y.2 != .free || osc.names.lookup y.1 == some .cell || osc.names.lookup y.1 == some .free) && (ix.length == N'.length) &&
 (N'.zip ix).all (fun p => match p.2 with | none => true | some j => N[j]? == some p.1 && scope.names.lookup p.1 == some .free)
theorem blk {X : Cx} {osc : Scope} {N N' : List Str} {ix : List (Option Nat)} {scope : Scope} (h1 : X.env.scope = osc) (h2 : X.N = N) (h : blkOk osc N N' ix scope = true) : BlkOk X N' ix scope := by
 unfold blkOk at h
 simp only [Bool.and_eq_true] at h
 obtain ⟨⟨⟨⟨⟨a1, a2⟩, a3⟩, a4⟩, a5⟩, a6⟩ := h
 rw [List.all_eq_true] at a2 a3 a4 a6
 refine ⟨eq_of_beq a1, fun y hy => by simpa using a2 y hy, fun y hy e => ?_, fun y hy e => ?_, eq_of_beq a5, fun i j x e1 e2 => ?_⟩
 ·have := a3 y hy
  simp only [e, bne_self_eq_false, Bool.false_or] at this
  exact eq_of_beq this
 ·have := a4 y hy
  simp only [e, bne_self_eq_false, Bool.false_or, Bool.or_eq_true, beq_iff_eq] at this
  unfold Env.kindOf
  rw [h1]
  exact this
 ·have hz : (N'.zip ix)[i]? = some (x, some j) := by rw [List.getElem?_zip_eq_some]; exact ⟨e1, e2⟩
  have := a6 _ (List.mem_of_getElem? hz)
  simp only [Bool.and_eq_true, beq_iff_eq] at this
  rw [h2]
  exact this
end L3
namespace L3
open PySem PySem.Spec PyProof.Rows L2
set_option maxHeartbeats 4000000
section
variable {X : Cx} {K : PySem.W.Frag} {H : Hp}
def xSlice : RS3 := fun x lo hi G q => match x with
 | .ref a => (match seqOf (G a) with | some ds => ∀ p, G p = none → q (.ref p) (gup G p (.lst (cutD ds lo hi))) | none => False)
 | .tup ds => ¬ (HT.sIx ds.length 0 lo = 0 ∧ HT.sIx ds.length ds.length hi = ds.length) ∧ q (.tup (cutD ds lo hi)) G
 | _ => False
def xLen : C3 := fun ds G q => match ds with
 | [.str z] => z.length ≤ sizeLine ∧ q (.int z.length) G
 | [.tup xs] => q (.int xs.length) G
 | [.ref a] => (match seqOf (G a) with | some xs => q (.int xs.length) G | none => False)
 | _ => False
theorem RelDs.one {d : D} {vs : List V} (h : RelDs K H [d] vs) : ∃ v, vs = [v] ∧ RelD K H d v := by
 obtain ⟨x, r, rfl, h1, h2⟩ := h.inv_cons
 rw [h2.inv_nil]
 exact ⟨x, rfl, h1⟩
theorem RelDs.two {d e : D} {vs : List V} (h : RelDs K H [d, e] vs) : ∃ v u, vs = [v, u] ∧ RelD K H d v ∧ RelD K H e u := by
 obtain ⟨x, r, rfl, h1, h2⟩ := h.inv_cons
 obtain ⟨y, rfl, h3⟩ := h2.one
 exact ⟨x, y, rfl, h1, h3⟩
theorem x_len : Call3 X (.builtin "len") xLen := weakCall (call_len_seq.or call_len_str) <| by
 rintro xs H Q ⟨ds, G, q, r, c, t, f⟩
 unfold xLen at t
 split at t
 ·obtain ⟨v, rfl, r1⟩ := r.one
  cases r1.str_inv
  exact .inr ⟨_, rfl, t.1, f _ _ _ _ RelD.intI c (Le.refl H) t.2⟩
 ·obtain ⟨v, rfl, r1⟩ := r.one
  obtain ⟨a, ys, rfl, s1, q1⟩ := r1.tup_inv
  refine .inl ⟨a, ys, rfl, .inr s1, ?_⟩
  rw [← q1.length]
  exact f _ _ _ _ RelD.intI c (Le.refl H) t
 ·obtain ⟨v, rfl, r1⟩ := r.one
  cases r1.ref_inv
  split at t
  ·rename_i ds e
   obtain ⟨ys, s1, q1⟩ := sql_of c e
   refine .inl ⟨_, ys, rfl, .inl s1, ?_⟩
   rw [← q1.length]
   exact f _ _ _ _ RelD.intI c (Le.refl H) t
  ·exact t.elim
 ·exact t.elim
def xAbs : C3 := fun ds G q => match ds with | [.int i] => q (.int (if i < 0 then -i else i)) G | _ => False
theorem x_abs : Call3 X (.builtin "abs") xAbs := weakCall call_abs <| by
 rintro xs H Q ⟨ds, G, q, r, c, t, f⟩
 unfold xAbs at t
 split at t
 ·obtain ⟨v, rfl, r1⟩ := r.one
  cases r1.int_inv
  exact ⟨_, rfl, f _ _ _ _ RelD.intI c (Le.refl H) t⟩
 ·exact t.elim
def xDivmod : C3 := fun ds G q => match ds with | [.int i, .int j] => CDiv i j ∧ q (.tup [.int (i / j), .int (i % j)]) G | _ => False
def xMax2 : C3 := fun ds G q => match ds with | [.int i, .int j] => q (.int (if j > i then j else i)) G | _ => False
def xMin2 : C3 := fun ds G q => match ds with | [.int i, .int j] => q (.int (if j < i then j else i)) G | _ => False
theorem x_max2 (hc : X.calm = true := by rfl) : Call3 X (.builtin "max") xMax2 := weakCall (call_max2 hc) <| by
 rintro xs H Q ⟨ds, G, q, r, c, t, f⟩
 unfold xMax2 at t
 split at t
 ·obtain ⟨v, u, rfl, r1, r2⟩ := r.two
  cases r1.int_inv
  cases r2.int_inv
  exact ⟨_, _, rfl, f _ _ _ _ RelD.intI c (Le.refl H) t⟩
 ·exact t.elim
theorem x_min2 (hc : X.calm = true := by rfl) : Call3 X (.builtin "min") xMin2 := weakCall (call_min2 hc) <| by
 rintro xs H Q ⟨ds, G, q, r, c, t, f⟩
 unfold xMin2 at t
 split at t
 ·obtain ⟨v, u, rfl, r1, r2⟩ := r.two
  cases r1.int_inv
  cases r2.int_inv
  exact ⟨_, _, rfl, f _ _ _ _ RelD.intI c (Le.refl H) t⟩
 ·exact t.elim
def xToInt : C3 := fun ds G q => match ds with | [.int i] => q (.int i) G | [.bl b] => q (.int (if b then 1 else 0)) G | _ => False
def xToList : C3 := fun ds G q => match ds with
 | [.tup xs] => ∀ p, G p = none → q (.ref p) (gup G p (.lst xs))
 | [.ref a] => (match seqOf (G a) with | some xs => ∀ p, G p = none → q (.ref p) (gup G p (.lst xs)) | none => False)
 | _ => False
theorem x_toList : Call3 X (.type "list") xToList := weakCall call_list_of <| by
 rintro xs H Q ⟨ds, G, q, r, c, t, f⟩
 unfold xToList at t
 split at t
 ·obtain ⟨v, rfl, r1⟩ := r.one
  obtain ⟨a, ys, rfl, s1, q1⟩ := r1.tup_inv
  exact ⟨a, ys, rfl, .inr s1, fun p hp => f _ _ _ _ RelD.refI (c.lstNew hp q1) (Le.fresh hp) (t p (c.fresh hp))⟩
 ·obtain ⟨v, rfl, r1⟩ := r.one
  cases r1.ref_inv
  split at t
  ·rename_i ds e
   obtain ⟨ys, s1, q1⟩ := sql_of c e
   exact ⟨_, ys, rfl, .inl s1, fun p hp => f _ _ _ _ RelD.refI (c.lstNew hp q1) (Le.fresh hp) (t p (c.fresh hp))⟩
  ·exact t.elim
 ·exact t.elim
def xToTuple : C3 := fun ds G q => match ds with
 | [.tup xs] => q (.tup xs) G
 | [.ref a] => (match seqOf (G a) with | some xs => q (.tup xs) G | none => False)
 | _ => False
noncomputable def allBl : List D → Option (List Bool)
 | [] => some []
 | .bl b :: r => (allBl r).map (b :: ·)
 | _ => none
def xAll : C3 := fun ds G q => match ds with
 | [.ref a] => (match seqOf (G a) with | some xs => (match allBl xs with | some bs => q (.bl (bs.all id)) G | none => False) | none => False)
 | _ => False
noncomputable def kindD (G : Gp) : D → Option String
 | .non => some "NoneType"
 | .bl _ => some "bool"
 | .int _ => some "int"
 | .str _ => some "str"
 | .ref a => match G a with | some (.lst _) => some "list" | some (.fro _) => some "list" | some (.dic _) => some "dict" | _ => none
 | _ => none
def xIsinst : C3 := fun ds G q => match ds with
 | [x, .ty T] => (T = "int" ∨ T = "str" ∨ T = "bool" ∨ T = "list" ∨ T = "tuple" ∨ T = "dict") ∧ (match kindD G x with | some n => q (.bl (subK n T)) G | none => False)
 | _ => False
theorem x_isinst : Call3 X (.builtin "isinstance") xIsinst := weakCall call_isinst <| by
 rintro xs H Q ⟨ds, G, q, r, c, t, f⟩
 unfold xIsinst at t
 split at t
 ·rename_i d T
  obtain ⟨v, u, rfl, r1, r2⟩ := r.two
  rw [RelD] at r2
  subst r2
  obtain ⟨hT, t⟩ := t
  split at t
  ·rename_i n en
   refine ⟨v, n, T, rfl, ?_, hT, f _ _ _ _ RelD.blI c (Le.refl H) t⟩
   unfold kindD at en
   split at en
   ·cases r1.non_inv; cases en; rfl
   ·cases r1.bl_inv; cases en; rfl
   ·cases r1.int_inv; cases en; rfl
   ·cases r1.str_inv; cases en; rfl
   ·rename_i a
    cases r1.ref_inv
    split at en
    ·rename_i xs ea; cases en; obtain ⟨ys, h1, _⟩ := c _ _ ea; exact .inl ⟨rfl, .inl ⟨ys, h1⟩⟩
    ·rename_i xs ea; cases en; obtain ⟨o, ys, h1, _⟩ := c _ _ ea; exact .inl ⟨rfl, .inr ⟨o, ys, h1⟩⟩
    ·rename_i xs ea; cases en; obtain ⟨ys, h1, _⟩ := c _ _ ea; exact .inr (.inr ⟨rfl, ys, h1⟩)
    ·cases en
   ·cases en
  ·exact t.elim
 ·exact t.elim
theorem e_type {x : Str} {T : String} {pos : Pos} (hm : X.mg x = none) (hv : bootBuiltins x = some (.type T)) (hg : Gl X x := by rfl) (hn : x ≠ "__name__" := by decide) (hd : (x == ("__debug__" : Str)) = false := by decide) : E3 X (.Name x pos) (dC (.ty T)) :=
 weakE (pe_bltn (v := .ty T) hg hm hv rfl hn hd) fun _ _ _ => low_c fun _ => by rw [RelD]
def xIs2 : R3 := fun x y G q => match y with
 | .non => (match x with | .non => q (.bl true) G | _ => q (.bl false) G)
 | .bl b => (match x with | .bl c => q (.bl (decide (c = b))) G | _ => q (.bl false) G)
 | _ => False
def xIsNot2 : R3 := fun x y G q => match y with
 | .non => (match x with | .non => q (.bl false) G | _ => q (.bl true) G)
 | .bl b => (match x with | .bl c => q (.bl (!decide (c = b))) G | _ => q (.bl true) G)
 | _ => False
theorem RelD.not_bl {d : D} {v : V} (h : RelD K H d v) (b : Bool) (n : ∀ c, d ≠ .bl c) : v ≠ .bl b := by
 cases d with
 | bl c => exact absurd rfl (n c)
 | non => rw [h.non_inv]; exact fun z => nomatch z
 | int _ => rw [h.int_inv]; exact fun z => nomatch z
 | str _ => rw [h.str_inv]; exact fun z => nomatch z
 | ref _ => rw [h.ref_inv]; exact fun z => nomatch z
 | ty _ => rw [RelD] at h; rw [h]; exact fun z => nomatch z
 | tup _ => obtain ⟨a, xs, e, _⟩ := h.tup_inv; rw [e]; exact fun z => nomatch z
theorem dec_blbl {c b : Bool} : decide (V.bl c = V.bl b) = decide (c = b) := by cases c <;> cases b <;> rfl
theorem x_is2 : Op3 X (compareOp .Is) xIs2 := weakOp (op_isN.or op_isB) <| by
 rintro x y H Q ⟨d, e, G, q, r1, r2, c, t, f⟩
 unfold xIs2 at t
 split at t
 ·refine .inl ⟨r2.non_inv, ?_⟩
  split at t
  ·rw [r1.non_inv]
   exact f _ _ _ _ RelD.blI c (Le.refl H) t
  ·rename_i hd
   rw [decide_eq_false (r1.not_non fun z => hd z)]
   exact f _ _ _ _ RelD.blI c (Le.refl H) t
 ·rename_i b
  refine .inr ⟨b, r2.bl_inv, ?_⟩
  split at t
  ·rw [r1.bl_inv, dec_blbl]
   exact f _ _ _ _ RelD.blI c (Le.refl H) t
  ·rename_i hd
   rw [decide_eq_false (r1.not_bl b fun z hz => hd z hz)]
   exact f _ _ _ _ RelD.blI c (Le.refl H) t
 ·exact t.elim
theorem x_isNot2 : Op3 X (compareOp .IsNot) xIsNot2 := weakOp (op_notN.or op_isNotB) <| by
 rintro x y H Q ⟨d, e, G, q, r1, r2, c, t, f⟩
 unfold xIsNot2 at t
 split at t
 ·refine .inl ⟨r2.non_inv, ?_⟩
  split at t
  ·rw [r1.non_inv]
   exact f _ _ _ _ RelD.blI c (Le.refl H) t
  ·rename_i hd
   rw [decide_eq_false (r1.not_non fun z => hd z)]
   exact f _ _ _ _ RelD.blI c (Le.refl H) t
 ·rename_i b
  refine .inr ⟨b, r2.bl_inv, ?_⟩
  split at t
  ·rw [r1.bl_inv, dec_blbl]
   exact f _ _ _ _ RelD.blI c (Le.refl H) t
  ·rename_i hd
   rw [decide_eq_false (r1.not_bl b fun z hz => hd z hz)]
   exact f _ _ _ _ RelD.blI c (Le.refl H) t
 ·exact t.elim
end
def jSeq (n : Nat) (t : TGs3) : TG3 := fun d σ G q => match d with
 | .tup ds => ds.length = n ∧ t ds σ G q
 | .ref a => (match seqOf (G a) with | some ds => ds.length = n ∧ t ds σ G q | none => False)
 | _ => False
def wAny (te : TE3) : TI3 := fun σ G r => te σ G fun x G1 => match x with
 | .ref a => (match seqOf (G1 a) with | some ds => r ⟨ds, fun G => seqOf (G a) = some ds⟩ G1 | none => False)
 | .tup ds => r ⟨ds, fun _ => True⟩ G1
 | _ => False
section
variable {X : Cx} {es : List Expr} {e tg : Expr} {te : TE3} {pos : Pos}
theorem j_seq {k n : Nat} {t : TGs3} (hc : X.calm = true) (h : Js3 X es t) (hn : (assignEach es X.env).length = n := by rfl) (hst : (assignEach es X.env).findIdx? (·.1) = none := by rfl) : J3 X (.Tuple es k pos) (jSeq n t) :=
 weakG (pg_or (pg_tup hc h hn hst) (pg_list hc h hn hst)) fun v σ H Q hh => by
  obtain ⟨d, σd, G, q, r, rs, c, t, f⟩ := hh
  unfold jSeq at t
  split at t
  ·rename_i ds
   obtain ⟨a, xs, rfl, s, r2⟩ := r.tup_inv
   exact .inl ⟨a, xs, rfl, s, by rw [← r2.length]; exact t.1, ds, σd, G, q, r2, rs, c, t.2, f⟩
  ·rename_i a
   split at t
   ·rename_i ds e
    obtain ⟨xs, s, r'⟩ := sql_of c e
    exact .inr ⟨a, xs, r.ref_inv, s, by rw [← r'.length]; exact t.1, ds, σd, G, q, r', rs, c, t.2, f⟩
   ·exact t.elim
  ·exact t.elim
theorem i_any (h : E3 X e te) : I3 X tg e (wAny te) := weakI (pi_seq h) fun σ H R hh => by
 obtain ⟨σd, G, q, rs, c, t, f⟩ := hh
 refine ⟨σd, G, _, rs, c, t, fun x G1 v H1 r1 c1 l1 t1 => ?_⟩
 split at t1
 ·rename_i a
  split at t1
  ·rename_i ds e
   obtain ⟨xs, s, _⟩ := sql_of c1 e
   exact ⟨a, r1.ref_inv, .inl ⟨⟨xs, s⟩, f _ _ _ _ itrel_list c1 l1 t1⟩⟩
  ·exact t1.elim
 ·rename_i ds
  obtain ⟨a, xs, rfl, s, r⟩ := r1.tup_inv
  exact ⟨a, rfl, .inr ⟨⟨xs, s⟩, f _ _ _ _ (itrel_tup s r) c1 l1 t1⟩⟩
 ·exact t1.elim
end
section
variable {X : Cx} {e o : Expr} {es : List Expr} {to : TE3} {ts : TA3} {apos cpos : Pos}
theorem ty_list (K : PySem.W.Frag) : ∀ G H x v, Con K G H → RelD K H x v → tyD G "list" x → tyV K "list" v H := by
 intro G H x v c r t
 cases x with
 | ref a =>
  cases r.ref_inv
  cases e : G a with
  | none => simp [tyD, e] at t
  | some o =>
   cases o with
   | lst ds => obtain ⟨xs, s, _⟩ := sql_of (ds := ds) c (by rw [e]; rfl); exact .inl ⟨rfl, xs, s⟩
   | fro ds => obtain ⟨xs, s, _⟩ := sql_of (ds := ds) c (by rw [e]; rfl); exact .inl ⟨rfl, xs, s⟩
   | dic _ => simp [tyD, e] at t
   | dit _ => simp [tyD, e] at t
   | ins _ _ => simp [tyD, e] at t
   | exc _ _ => simp [tyD, e] at t
   | frd _ => simp [tyD, e] at t
 | str _ => simp [tyD] at t
 | int _ => simp [tyD] at t
 | _ => exact t.elim
def mAppend : M3 := fun x ds G q => match x, ds with
 | .ref a, [d] => (match G a with | some (.lst xs) => xs.length < sizeLine ∧ q .non (gup G a (.lst (xs ++ [d]))) | _ => False)
 | _, _ => False
theorem e_append (ho : E3 X o to) (ha : A3 X (e :: es) ts) (hbase : attributeBase o "append" X.env (eval o X.env) = eval o X.env := by rfl)
  (hfew : ((backTo cpos (starEach (e :: es) X.env)).all (fun x => !x.1) && (backToKw cpos (keywordEach [] X.env)).all (fun x => x.1.isSome)
   && decide ((e :: es).length + ([] : List Keyword).length + (if ([] : List Keyword).isEmpty then 0 else 1) < 30)) = true := by rfl)
  (hline : (apos.endLine == cpos.line) = true := by rfl) (hs : starEach (e :: es) X.env = (false, eval e X.env) :: starEach es X.env := by rfl) (hplain : (backTo cpos (starEach es X.env)).any (·.1) = false := by rfl) :
  E3 X (.Call (.Attribute o "append" apos) (e :: es) [] cpos) (dBM "list" mAppend to ts) :=
 weakE (pe_bm PySem.F.plainAttrs_list PySem.F.slot_list_append PySem.F.type_list_append (weakMt (r' := lowM X.K mAppend) mt_append <| by
  rintro x xs H Q ⟨d, ds, G, q, r1, r2, c, t, f⟩
  unfold mAppend at t
  split at t
  ·rename_i a d'
   split at t
   ·rename_i ys ea
    cases r1.ref_inv
    obtain ⟨v, rfl, rv⟩ := r2.one
    obtain ⟨zs, h1, q1⟩ := c _ _ ea
    exact ⟨a, zs, v, rfl, rfl, h1, by rw [← q1.length]; exact t.1, f _ _ _ _ RelD.nonI (c.lstSet h1 (q1.append (.cons rv .nil))) (Le.lst h1) t.2⟩
   ·exact t.elim
  ·exact t.elim) ho ha hbase hfew hline hs hplain) fun _ _ _ => low_bm (ty_list X.K)
def mExtend : M3 := fun x ds G q => match x, ds with
 | .ref a, [.ref b] => (match G a, G b with | some (.lst xs), some (.lst ys) => xs.length + ys.length ≤ sizeLine ∧ q .non (gup G a (.lst (xs ++ ys))) | _, _ => False)
 | _, _ => False
def mPop0 : M3 := fun x ds G q => match x, ds with
 | .ref a, [] => (match G a with | some (.lst xs) => (match xs[xs.length - 1]? with | some y => q y (gup G a (.lst xs.dropLast)) | none => False) | _ => False)
 | _, _ => False
theorem e_pop0 (ho : E3 X o to) (hbase : attributeBase o "pop" X.env (eval o X.env) = eval o X.env := by rfl) (hline : (apos.endLine == cpos.line) = true := by rfl) : E3 X (.Call (.Attribute o "pop" apos) [] [] cpos) (dBM0 "list" mPop0 to) :=
 weakE (pe_bm0 PySem.F.plainAttrs_list PySem.F.slot_list_pop PySem.F.type_list_pop (weakMt (r' := lowM X.K mPop0) mt_pop <| by
  rintro x xs H Q ⟨d, ds, G, q, r1, r2, c, t, f⟩
  unfold mPop0 at t
  split at t
  ·rename_i a
   split at t
   ·rename_i ys ea
    split at t
    ·rename_i y ey
     cases r1.ref_inv
     cases r2.inv_nil
     obtain ⟨zs, h1, q1⟩ := c _ _ ea
     obtain ⟨v, hv, rv⟩ := q1.get ey
     exact ⟨a, zs, v, rfl, rfl, h1, by rw [← q1.length]; exact hv, f _ _ _ _ (RelD.le (Le.lst h1) rv) (c.lstSet h1 q1.dropLast) (Le.lst h1) t⟩
    ·exact t.elim
   ·exact t.elim
  ·exact t.elim) ho hbase hline) fun _ _ _ => low_bm0 (ty_list X.K)
def mClear0 : M3 := fun x ds G q => match x, ds with
 | .ref a, [] => (match G a with | some (.lst _) => q .non (gup G a (.lst [])) | _ => False)
 | _, _ => False
end
def xEqB (neg : Bool) : R3 := fun x y G q => match x, y with
 | .int i, .int j => q (.bl (if neg then !decide (i = j) else decide (i = j))) G
 | .str i, .str j => q (.bl (if neg then !decide (i = j) else decide (i = j))) G
 | .bl i, .bl j => q (.bl (if neg then !decide (i = j) else decide (i = j))) G
 | .non, .non => q (.bl (!neg)) G
 | .non, .int _ => q (.bl neg) G
 | .int _, .non => q (.bl neg) G
 | .non, .bl _ => q (.bl neg) G
 | .bl _, .non => q (.bl neg) G
 | .non, .str _ => q (.bl neg) G
 | .str _, .non => q (.bl neg) G
 | .int _, .str _ => q (.bl neg) G
 | .str _, .int _ => q (.bl neg) G
 | .tup xs, .tup ys => ∃ n sd se b, n ≤ 40 ∧ snap G n (.tup xs) = some sd ∧ snap G n (.tup ys) = some se ∧ eqN n sd se = some b ∧ q (.bl (if neg then !b else b)) G
 | .ref a, .ref c => ∃ n sd se b, n ≤ 40 ∧ snap G n (.ref a) = some sd ∧ snap G n (.ref c) = some se ∧ eqN n sd se = some b ∧ q (.bl (if neg then !b else b)) G
 | _, _ => False
section
variable {X : Cx} {k : Nat}
theorem dec_int' {i j : Int} : decide (V.int i = V.int j) = decide (i = j) := by
 by_cases h : i = j
 ·subst h; simp
 ·simp [h]
theorem dec_str' {i j : Str} : decide (V.str i = V.str j) = decide (i = j) := by
 by_cases h : i = j
 ·subst h; simp
 ·simp [h]
theorem snap_nonflat_tup {G : Gp} {n : Nat} {xs : List D} {sd : Sn} (h : snap G n (.tup xs) = some sd) : flatS sd = false := by
 obtain ⟨_, _, _, rfl, _⟩ := snap_tup h; rfl
theorem snap_nonflat_ref {G : Gp} {n : Nat} {a : Addr} {sd : Sn} (h : snap G n (.ref a) = some sd) : flatS sd = false := by
 obtain ⟨_, _, _, _, rfl, _⟩ := snap_ref h; rfl
theorem x_eq (hr : Room k X.A) : Op3 X (compareOp .Eq) (xEqB false) := weakOp (op_eq.or (op_eqD hr)) <| by
 rintro x y H Q ⟨d, e, G, q, r1, r2, c, t, f⟩
 have fin : ∀ b, q (.bl b) G → Q (.bl b) H := fun b z => f _ _ _ _ RelD.blI c (Le.refl H) z
 unfold xEqB at t
 split at t
 ·cases r1.int_inv; cases r2.int_inv; exact .inl ⟨rfl, by rw [dec_int']; exact fin _ t⟩
 ·cases r1.str_inv; cases r2.str_inv; exact .inl ⟨rfl, by rw [dec_str']; exact fin _ t⟩
 ·cases r1.bl_inv; cases r2.bl_inv; exact .inl ⟨rfl, by rw [dec_blbl]; exact fin _ t⟩
 ·cases r1.non_inv; cases r2.non_inv; exact .inl ⟨rfl, fin _ t⟩
 ·cases r1.non_inv; cases r2.int_inv; exact .inl ⟨rfl, fin _ t⟩
 ·cases r1.int_inv; cases r2.non_inv; exact .inl ⟨rfl, fin _ t⟩
 ·cases r1.non_inv; cases r2.bl_inv; exact .inl ⟨rfl, fin _ t⟩
 ·cases r1.bl_inv; cases r2.non_inv; exact .inl ⟨rfl, fin _ t⟩
 ·cases r1.non_inv; cases r2.str_inv; exact .inl ⟨rfl, fin _ t⟩
 ·cases r1.str_inv; cases r2.non_inv; exact .inl ⟨rfl, fin _ t⟩
 ·cases r1.int_inv; cases r2.str_inv; exact .inl ⟨rfl, fin _ t⟩
 ·cases r1.str_inv; cases r2.int_inv; exact .inl ⟨rfl, fin _ t⟩
 ·obtain ⟨n, sd, se, b, hn, h1, h2, hb, t⟩ := t
  exact .inr ⟨_, _, G, n, sd, se, b, r1, r2, c, hn, h1, h2, hb, snap_nonflat_tup h1, fin _ t⟩
 ·obtain ⟨n, sd, se, b, hn, h1, h2, hb, t⟩ := t
  exact .inr ⟨_, _, G, n, sd, se, b, r1, r2, c, hn, h1, h2, hb, snap_nonflat_ref h1, fin _ t⟩
 ·exact t.elim
theorem x_ne (hr : Room k X.A) : Op3 X (compareOp .NotEq) (xEqB true) := weakOp (op_ne.or (op_neD hr)) <| by
 rintro x y H Q ⟨d, e, G, q, r1, r2, c, t, f⟩
 have fin : ∀ b, q (.bl b) G → Q (.bl b) H := fun b z => f _ _ _ _ RelD.blI c (Le.refl H) z
 unfold xEqB at t
 split at t
 ·cases r1.int_inv; cases r2.int_inv; exact .inl ⟨rfl, by rw [dec_int']; exact fin _ t⟩
 ·cases r1.str_inv; cases r2.str_inv; exact .inl ⟨rfl, by rw [dec_str']; exact fin _ t⟩
 ·cases r1.bl_inv; cases r2.bl_inv; exact .inl ⟨rfl, by rw [dec_blbl]; exact fin _ t⟩
 ·cases r1.non_inv; cases r2.non_inv; exact .inl ⟨rfl, fin _ t⟩
 ·cases r1.non_inv; cases r2.int_inv; exact .inl ⟨rfl, fin _ t⟩
 ·cases r1.int_inv; cases r2.non_inv; exact .inl ⟨rfl, fin _ t⟩
 ·cases r1.non_inv; cases r2.bl_inv; exact .inl ⟨rfl, fin _ t⟩
 ·cases r1.bl_inv; cases r2.non_inv; exact .inl ⟨rfl, fin _ t⟩
 ·cases r1.non_inv; cases r2.str_inv; exact .inl ⟨rfl, fin _ t⟩
 ·cases r1.str_inv; cases r2.non_inv; exact .inl ⟨rfl, fin _ t⟩
 ·cases r1.int_inv; cases r2.str_inv; exact .inl ⟨rfl, fin _ t⟩
 ·cases r1.str_inv; cases r2.int_inv; exact .inl ⟨rfl, fin _ t⟩
 ·obtain ⟨n, sd, se, b, hn, h1, h2, hb, t⟩ := t
  exact .inr ⟨_, _, G, n, sd, se, b, r1, r2, c, hn, h1, h2, hb, snap_nonflat_tup h1, fin _ t⟩
 ·obtain ⟨n, sd, se, b, hn, h1, h2, hb, t⟩ := t
  exact .inr ⟨_, _, G, n, sd, se, b, r1, r2, c, hn, h1, h2, hb, snap_nonflat_ref h1, fin _ t⟩
 ·exact t.elim
end
end L3
namespace L3
open PySem PySem.Spec PyProof.Rows L2
set_option maxHeartbeats 4000000
section
variable {X : Cx} {e : Expr} {es : List Expr} {p pos : Pos} {ts : TA3} {k : Nat} {S : Sp3} {x m qual : Str} {st : Stmt} {ps : List Str} {C : Addr}
end
section
variable {X : Cx} {e : Expr} {es : List Expr} {p pos : Pos} {ts : TA3} {k : Nat} {S : Sp3} {x m qual : Str} {st : Stmt} {ps : List Str} {C f : Addr} {fd : FuncData}
end
theorem ite_d {c A B : Prop} [Decidable c] (h1 : c → A) (h2 : ¬ c → B) : if decide c = true then A else B := by
 by_cases h : c
 ·simpa [h] using h1 h
 ·simpa [h] using h2 h
theorem seqOf_lst {xs : List D} : seqOf (some (.lst xs)) = some xs := rfl
theorem seqOf_fro {xs : List D} : seqOf (some (.fro xs)) = some xs := rfl
theorem atI_0 {α : Type} {x : α} {xs : List α} : atI (x :: xs) 0 = some x := atI_nat (j := 0) rfl
theorem atI_1 {α : Type} {x y : α} {xs : List α} : atI (x :: y :: xs) 1 = some y := atI_nat (j := 1) rfl
theorem atI_2 {α : Type} {x y z : α} {xs : List α} : atI (x :: y :: z :: xs) 2 = some z := atI_nat (j := 2) rfl
theorem atI_3 {α : Type} {x y z u : α} {xs : List α} : atI (x :: y :: z :: u :: xs) 3 = some u := atI_nat (j := 3) rfl
theorem atI_4 {α : Type} {x y z u v : α} {xs : List α} : atI (x :: y :: z :: u :: v :: xs) 4 = some v := atI_nat (j := 4) rfl
theorem ixN_30 : ixN 3 0 = some 0 := rfl
theorem ixN_31 : ixN 3 1 = some 1 := rfl
theorem ixN_32 : ixN 3 2 = some 2 := rfl
theorem ixN_20 : ixN 2 0 = some 0 := rfl
theorem ixN_21 : ixN 2 1 = some 1 := rfl
theorem cmul_l {i j : Int} (h0 : 0 ≤ i) (h : i < 18446744073709551616) : CMul i j := .inl ⟨by omega, by omega⟩
theorem cmul_r {i j : Int} (h0 : 0 ≤ j) (h : j < 18446744073709551616) : CMul i j := .inr ⟨by omega, by omega⟩
theorem cpow_2 {j : Int} (h0 : 0 ≤ j) (h : j ≤ 1000) : CPow 2 j := ⟨h0, by omega, by decide⟩
theorem cpow_1 {j : Int} (h0 : 0 ≤ j) (h : j ≤ 1000) : CPow 1 j := ⟨h0, by omega, by decide⟩
end L3
namespace L3
theorem call_det {S : Sp3} {ds : List D} {G G1 : Gp} {v : D} {q : DK} (h : ∀ R : DK, R v G1 → S ds G R) (k : q v G1) : ∃ R, S ds G R ∧ ∀ d G', R d G' → q d G' :=
 ⟨fun d G' => d = v ∧ G' = G1, h _ ⟨rfl, rfl⟩, fun _ _ ⟨e1, e2⟩ => by subst e1; subst e2; exact k⟩
theorem call_nd {S : Sp3} {ds : List D} {G : Gp} {post : DK} {q : DK} (h : ∀ R : DK, (∀ d G', post d G' → R d G') → S ds G R) (k : ∀ d G', post d G' → q d G') : ∃ R, S ds G R ∧ ∀ d G', R d G' → q d G' :=
 ⟨post, h _ fun _ _ z => z, k⟩
end L3
namespace L3
theorem forL_ind {ok : Gp → Prop} {g : TG3} {tb : TS3} {E : Ends3} (I : List D → DSt → Gp → Prop) {items : List D} {σ : DSt} {G : Gp} (h0 : I items σ G) (nil : ∀ σ G, I [] σ G → ok G ∧ E.nx σ G)
  (cons : ∀ x r σ G, I (x :: r) σ G → (∀ σ' G', I r σ' G' → forL ok g tb E r σ' G') → ok G ∧ g x σ G fun σ1 G1 => tb { E with nx := forL ok g tb E r, ct := forL ok g tb E r, bk := E.nx } σ1 G1) : forL ok g tb E items σ G := by
 induction items generalizing σ G with
 | nil => exact nil σ G h0
 | cons x r ih => exact cons x r σ G h0 fun σ' G' h => ih h
theorem compL_ind {ok : Gp → Prop} {g : TG3} {tc : TT3} {te : TE3} {p : PySem.Addr} {q : DK} (I : List D → DSt → Gp → Prop) {items : List D} {σ : DSt} {G : Gp} (h0 : I items σ G) (nil : ∀ σ G, I [] σ G → ok G ∧ q (.ref p) G)
  (cons : ∀ x r σ G, I (x :: r) σ G → (∀ σ' G', I r σ' G' → compL ok g tc te p q r σ' G') → ok G ∧ g x σ G fun σ2 G2 => tc σ2 G2 fun b G3 =>
   if b = true then te σ2 G3 fun d G4 => (match G4 p with | some (.lst ys) => ys.length < PySem.sizeLine ∧ compL ok g tc te p q r σ2 (gup G4 p (.lst (ys ++ [d]))) | _ => False)
   else compL ok g tc te p q r σ2 G3) : compL ok g tc te p q items σ G := by
 induction items generalizing σ G with
 | nil => exact nil σ G h0
 | cons x r ih => exact cons x r σ G h0 fun σ' G' h => ih h
theorem while_ind {c : TT3} {tb : TS3} {E : Ends3} (I : Nat → DSt → Gp → Prop) {m : Nat} {σ : DSt} {G : Gp} (h0 : I m σ G)
  (step : ∀ m σ G N, I m σ G → (∀ σ' G' m', m = m' + 1 → I m' σ' G' → N σ' G') → c σ G fun b G1 => if b = true then tb { E with nx := N, ct := N, bk := E.nx } σ G1 else E.nx σ G1) : dWhile c tb E σ G := by
 refine ⟨m + 1, ?_⟩
 induction m generalizing σ G with
 | zero => exact step 0 σ G (whN c tb E 0) h0 fun σ' G' m' e => absurd e (by omega)
 | succ m ih => exact step (m + 1) σ G (whN c tb E (m + 1)) h0 fun σ' G' m' e h => ih (by cases e; exact h)
end L3
namespace L3
open PySem
end L3
namespace Rw
open PySem PyProof.Rows L2 L3
inductive Opd where
 | num (n : Int) | box (y : Nat)
 deriving DecidableEq
inductive Row where
 | add (x : Nat) (o : Opd) | take (x : Nat) (o : Opd) | turn (x i : Nat) (cs : List (Nat × Nat)) | swap (x y : Nat) | go (x : Nat) (n : Int) (k : Nat) | come (x : Nat) (n : Int) (k : Nat)
 deriving DecidableEq
noncomputable def Opd.d : Opd → D
 | .num n => .tup [.str "num", .int n]
 | .box y => .tup [.str "box", .int (y : Int)]
noncomputable def cd (c : Nat × Nat) : D := .tup [.int (c.1 : Int), .int (c.2 : Int)]
noncomputable def Row.d : Row → D
 | .add x o => .tup [.str "add", .int (x : Int), o.d]
 | .take x o => .tup [.str "take", .int (x : Int), o.d]
 | .turn x i cs => .tup [.str "turn", .int (x : Int), .int (i : Int), .tup (cs.map cd)]
 | .swap x y => .tup [.str "swap", .int (x : Int), .int (y : Int)]
 | .go x n k => .tup [.str "go", .int (x : Int), .int n, .int (k : Int)]
 | .come x n k => .tup [.str "come", .int (x : Int), .int n, .int (k : Int)]
def Opd.ok (sz x : Nat) : Opd → Prop
 | .num n => 0 ≤ n ∧ n < 4294967296
 | .box y => y < sz ∧ y ≠ x
def Row.ok (sz : Nat) : Row → Prop
 | .add x o => x < sz ∧ o.ok sz x
 | .take x o => x < sz ∧ o.ok sz x
 | .turn x i cs => x < sz ∧ i < 32 ∧ cs.length ≤ 2 ∧ ∀ c ∈ cs, c.1 < sz ∧ c.1 ≠ x ∧ c.2 < 32
 | .swap x y => x < sz ∧ y < sz ∧ y ≠ x
 | .go x n _ => x < sz ∧ 0 ≤ n ∧ n < 4294967296
 | .come x n _ => x < sz ∧ 0 ≤ n ∧ n < 4294967296
noncomputable def Row.plain : Row → Bool
 | .go _ _ _ => false
 | .come _ _ _ => false
 | _ => true
noncomputable def gt (bs : List Int) (x : Nat) : Int := bs.getD x 0
noncomputable def bit (v : Int) (j : Nat) : Int := v / 2 ^ j % 2
noncomputable def flp (v : Int) (i : Nat) : Int := v + 2 ^ i * (1 - 2 * bit v i)
noncomputable def val (bs : List Int) : Opd → Int
 | .num n => n
 | .box y => gt bs y
noncomputable def con (bs : List Int) (cs : List (Nat × Nat)) : Bool := cs.all fun c => !decide (bit (gt bs c.1) c.2 = 0)
noncomputable def stp (s : Int) (bs : List Int) : Row → List Int
 | .add x o => bs.set x ((gt bs x + s * val bs o) % 4294967296)
 | .take x o => bs.set x ((gt bs x - s * val bs o) % 4294967296)
 | .turn x i cs => if con bs cs = true then bs.set x (flp (gt bs x) i) else bs
 | .swap x y => (bs.set x (gt bs y)).set y (gt bs x)
 | .go _ _ _ => bs
 | .come _ _ _ => bs
structure BsOk (sz : Nat) (bs : List Int) : Prop where
 len : bs.length = sz
 rng : ∀ v ∈ bs, 0 ≤ v ∧ v < 4294967296
end Rw
namespace Rw
open PySem L2 L3
theorem snaps_ints {G : Gp} : ∀ ks : List Int, (ks.map D.int).mapM (snap G 0) = some (ks.map Sn.int)
 | [] => rfl
 | k :: ks => by
  rw [List.map_cons, List.mapM_cons, snaps_ints ks]
  rfl
theorem snap_ints {G : Gp} {a : Addr} {ks : List Int} (h : seqOf (G a) = some (ks.map .int)) : snap G 1 (.ref a) = some (.lst (ks.map .int)) := by
 show ((seqOf (G a)).bind fun ds => (ds.mapM (snap G 0)).map Sn.lst) = _
 rw [h, Option.bind_some, snaps_ints]
 rfl
theorem eq_zip : ∀ ks ms : List Int, ks.length = ms.length → ∃ bs, (((ks.map Sn.int).zip (ms.map Sn.int)).mapM fun p => eqN 0 p.1 p.2) = some bs ∧ bs.all id = decide (ks = ms)
 | [], [], _ => ⟨[], rfl, rfl⟩
 | [], _ :: _, h => by simp at h
 | _ :: _, [], h => by simp at h
 | k :: ks, m :: ms, h => by
  obtain ⟨bs, e, q⟩ := eq_zip ks ms (by simpa using h)
  refine ⟨(k == m) :: bs, ?_, ?_⟩
  ·rw [List.map_cons, List.map_cons, List.zip_cons_cons, List.mapM_cons, e]
   rfl
  ·rw [List.all_cons, q]
   by_cases hk : k = m
   ·subst hk; simp
   ·simp [hk]
theorem eq_ints {ks ms : List Int} : eqN 1 (.lst (ks.map .int)) (.lst (ms.map .int)) = some (decide (ks = ms)) := by
 show (if (ks.map Sn.int).length = (ms.map Sn.int).length then (((ks.map Sn.int).zip (ms.map Sn.int)).mapM fun p => eqN 0 p.1 p.2).map (fun bs => bs.all id) else some false) = _
 by_cases h : ks.length = ms.length
 ·rw [if_pos (by simpa using h)]
  obtain ⟨bs, e, q⟩ := eq_zip ks ms h
  rw [e, Option.map_some, q]
 ·rw [if_neg (by simpa using h)]
  have : ks ≠ ms := fun e => h (by rw [e])
  simp [this]
theorem cmp_ints {G : Gp} {a b : Addr} {ks ms : List Int} {Q : Bool → Prop} (h1 : seqOf (G a) = some (ks.map .int)) (h2 : seqOf (G b) = some (ms.map .int)) (h : Q (decide (ks = ms))) :
  ∃ n sd se r, n ≤ 40 ∧ snap G n (.ref a) = some sd ∧ snap G n (.ref b) = some se ∧ eqN n sd se = some r ∧ Q r :=
 ⟨1, _, _, _, by decide, snap_ints h1, snap_ints h2, eq_ints, h⟩
end Rw
namespace Rw
open PySem L2 L3
theorem rngD_succ (lo : Int) (n : Nat) : rngD lo (n + 1) = .int lo :: rngD (lo + 1) n := by
 unfold rngD
 rw [List.range_succ_eq_map, List.map_cons, List.map_map]
 congr 1
 ·simp
 ·apply List.map_congr_left
  intro i _
  show D.int _ = D.int _
  congr 1
  simp
  omega
end Rw
namespace Rw
open PySem L2 L3
theorem div_bit {v : Int} {j : Nat} : v / (1 * 2 ^ j) % 2 = bit v j := by rw [Int.one_mul]; rfl
structure Grow (G G' : Gp) : Prop where
 kp : ∀ b o, G b = some o → G' b = some o
theorem Grow.refl {G : Gp} : Grow G G := ⟨fun _ _ h => h⟩
theorem Grow.trans {G G1 G2 : Gp} (a : Grow G G1) (b : Grow G1 G2) : Grow G G2 := ⟨fun c o h => b.kp c o (a.kp c o h)⟩
theorem Grow.new {G G1 : Gp} {p : Addr} {o : DO} (a : Grow G G1) (h : G1 p = none) : Grow G (gup G1 p o) := ⟨fun b u e => by rw [gup_ne (gne (a.kp b u e) h)]; exact a.kp b u e⟩
theorem Grow.own {G G1 : Gp} {p : Addr} {o : DO} (a : Grow G G1) (h : G p = none) : Grow G (gup G1 p o) := ⟨fun b u e => by rw [gup_ne (gne e h)]; exact a.kp b u e⟩
theorem Grow.none {G G1 : Gp} {p : Addr} (a : Grow G G1) (h : G1 p = none) : G p = none := by
 cases e : G p with
 | none => rfl
 | some o => rw [a.kp p o e] at h; cases h
end Rw
namespace L3
open PySem
end L3
namespace L3
open PySem PySem.Spec PyProof.Rows L2
theorem xr_all : (∀ i j G q, xEqB false (.int i) (.int j) G q = q (.bl (decide (i = j))) G) ∧ (∀ i j G q, xEqB true (.int i) (.int j) G q = q (.bl (!decide (i = j))) G) ∧
  (∀ i j G q, xEqB false (.str i) (.str j) G q = q (.bl (decide (i = j))) G) ∧ (∀ i j G q, xEqB true (.str i) (.str j) G q = q (.bl (!decide (i = j))) G) ∧
  (∀ a c G q, xEqB false (.ref a) (.ref c) G q = ∃ n sd se b, n ≤ 40 ∧ snap G n (.ref a) = some sd ∧ snap G n (.ref c) = some se ∧ eqN n sd se = some b ∧ q (.bl b) G) ∧
  (∀ a c G q, xEqB true (.ref a) (.ref c) G q = ∃ n sd se b, n ≤ 40 ∧ snap G n (.ref a) = some sd ∧ snap G n (.ref c) = some se ∧ eqN n sd se = some b ∧ q (.bl (!b)) G) ∧
  (∀ a c G q, xEqB false (.tup a) (.tup c) G q = ∃ n sd se b, n ≤ 40 ∧ snap G n (.tup a) = some sd ∧ snap G n (.tup c) = some se ∧ eqN n sd se = some b ∧ q (.bl b) G) ∧
  (∀ a c G q, xEqB true (.tup a) (.tup c) G q = ∃ n sd se b, n ≤ 40 ∧ snap G n (.tup a) = some sd ∧ snap G n (.tup c) = some se ∧ eqN n sd se = some b ∧ q (.bl (!b)) G) ∧
  (∀ i j G q, xAdd (.int i) (.int j) G q = q (.int (i + j)) G) ∧ (∀ i j G q, xMul (.int i) (.int j) G q = (CMul i j ∧ q (.int (i * j)) G)) ∧
  (∀ a k G q, xMul (.ref a) (.int k) G q = (match G a with | some (.lst xs) => (-(2 ^ 63) ≤ k ∧ k < 2 ^ 63 ∧ xs.length * k.toNat ≤ sizeLine) ∧ ∀ p, G p = none → q (.ref p) (gup G p (.lst (List.replicate k.toNat xs).flatten)) | _ => False)) ∧
  (∀ i j G q, xLt (.int i) (.int j) G q = q (.bl (decide (i < j))) G) ∧
  (∀ ds i G q, xIx (.tup ds) (.int i) G q = (match atI ds i with | some d => q d G | none => False)) ∧
  (∀ a i G q, xIx (.ref a) (.int i) G q = (match seqOf (G a) with | some ds => (match atI ds i with | some d => q d G | none => False) | none => False)) ∧
  (∀ xs G q, xLen [.tup xs] G q = q (.int xs.length) G) ∧ (∀ a G q, xLen [.ref a] G q = (match seqOf (G a) with | some xs => q (.int xs.length) G | none => False)) :=
 ⟨fun _ _ _ _ => rfl, fun _ _ _ _ => rfl, fun _ _ _ _ => rfl, fun _ _ _ _ => rfl, fun _ _ _ _ => rfl, fun _ _ _ _ => rfl, fun _ _ _ _ => rfl, fun _ _ _ _ => rfl, fun _ _ _ _ => rfl, fun _ _ _ _ => rfl, fun _ _ _ _ => rfl, fun _ _ _ _ => rfl, fun _ _ _ _ => rfl, fun _ _ _ _ => rfl, fun _ _ _ => rfl, fun _ _ _ => rfl⟩
theorem xs_all : (∀ f i j G q, xInt f (.int i) (.int j) G q = q (.int (f i j)) G) ∧ (∀ C f i j G q, xIntC C f (.int i) (.int j) G q = (C i j ∧ q (.int (f i j)) G)) ∧ (∀ i j G q, xLe (.int i) (.int j) G q = q (.bl (decide (i ≤ j))) G) ∧
  (∀ i j G q, xGt (.int i) (.int j) G q = q (.bl (decide (j < i))) G) ∧ (∀ i j G q, xGe (.int i) (.int j) G q = q (.bl (decide (j ≤ i))) G) ∧ (∀ i G q, xNeg (.int i) G q = q (.int (-i)) G) ∧
  (∀ a k v G q, xSet (.ref a) (.int k) v G q = (match G a with | some (.lst ds) => (match ixN ds.length k with | some j => q (gup G a (.lst (ds.set j v))) | none => False) | _ => False)) ∧
  (∀ a lo hi G q, xSlice (.ref a) lo hi G q = (match seqOf (G a) with | some ds => ∀ p, G p = none → q (.ref p) (gup G p (.lst (cutD ds lo hi))) | none => False)) ∧
  (∀ ds lo hi G q, xSlice (.tup ds) lo hi G q = (¬ (HT.sIx ds.length 0 lo = 0 ∧ HT.sIx ds.length ds.length hi = ds.length) ∧ q (.tup (cutD ds lo hi)) G)) ∧
  (∀ x G q, xIs2 x .non G q = (match x with | .non => q (.bl true) G | _ => q (.bl false) G)) ∧ (∀ x b G q, xIs2 x (.bl b) G q = (match x with | .bl c => q (.bl (decide (c = b))) G | _ => q (.bl false) G)) ∧
  (∀ x G q, xIsNot2 x .non G q = (match x with | .non => q (.bl false) G | _ => q (.bl true) G)) ∧ (∀ x b G q, xIsNot2 x (.bl b) G q = (match x with | .bl c => q (.bl (!decide (c = b))) G | _ => q (.bl true) G)) ∧
  (∀ i G q, xAbs [.int i] G q = q (.int (if i < 0 then -i else i)) G) ∧ (∀ i j G q, xDivmod [.int i, .int j] G q = (CDiv i j ∧ q (.tup [.int (i / j), .int (i % j)]) G)) ∧
  (∀ i j G q, xMax2 [.int i, .int j] G q = q (.int (if j > i then j else i)) G) ∧ (∀ i j G q, xMin2 [.int i, .int j] G q = q (.int (if j < i then j else i)) G) ∧
  (∀ i G q, xToInt [.int i] G q = q (.int i) G) ∧ (∀ b G q, xToInt [.bl b] G q = q (.int (if b then 1 else 0)) G) ∧
  (∀ xs G q, xToList [.tup xs] G q = ∀ p, G p = none → q (.ref p) (gup G p (.lst xs))) ∧ (∀ a G q, xToList [.ref a] G q = (match seqOf (G a) with | some xs => ∀ p, G p = none → q (.ref p) (gup G p (.lst xs)) | none => False)) ∧
  (∀ xs G q, xToTuple [.tup xs] G q = q (.tup xs) G) ∧ (∀ a G q, xToTuple [.ref a] G q = (match seqOf (G a) with | some xs => q (.tup xs) G | none => False)) ∧
  (∀ a G q, xAll [.ref a] G q = (match seqOf (G a) with | some xs => (match allBl xs with | some bs => q (.bl (bs.all id)) G | none => False) | none => False)) ∧
  (∀ x T G q, xIsinst [x, .ty T] G q = ((T = "int" ∨ T = "str" ∨ T = "bool" ∨ T = "list" ∨ T = "tuple" ∨ T = "dict") ∧ (match kindD G x with | some n => q (.bl (subK n T)) G | none => False))) ∧
  (∀ a d G q, mAppend (.ref a) [d] G q = (match G a with | some (.lst xs) => xs.length < sizeLine ∧ q .non (gup G a (.lst (xs ++ [d]))) | _ => False)) ∧
  (∀ a b G q, mExtend (.ref a) [.ref b] G q = (match G a, G b with | some (.lst xs), some (.lst ys) => xs.length + ys.length ≤ sizeLine ∧ q .non (gup G a (.lst (xs ++ ys))) | _, _ => False)) ∧
  (∀ a G q, mClear0 (.ref a) [] G q = (match G a with | some (.lst _) => q .non (gup G a (.lst [])) | _ => False)) := by
 refine ⟨?_, ?_, ?_, ?_, ?_, ?_, ?_, ?_, ?_, ?_, ?_, ?_, ?_, ?_, ?_, ?_, ?_, ?_, ?_, ?_, ?_, ?_, ?_, ?_, ?_, ?_, ?_, ?_⟩ <;> intros <;> rfl
end L3
namespace L2
open PySem PySem.Spec PyProof.Rows
section
variable {X : Cx} {e : Expr} {st : Expr} {te : TE} {ts : TO} {pos p2 : Pos}
end
end L2
namespace L3
open PySem PySem.Spec PyProof.Rows L2
section
variable {X : Cx} {e : Expr} {te : TE3} {pos p2 p3 p4 : Pos} {K : PySem.W.Frag} {σ : L2.St} {H : Hp} {Q : VK}
def dBack (te : TE3) : TE3 := fun σ G q => te σ G fun x G1 => match x with
 | .ref a => (match seqOf (G1 a) with | some ds => ∀ p, G1 p = none → q (.ref p) (gup G1 p (.lst ds.reverse)) | none => False)
 | _ => False
end
end L3
namespace L3
open PySem PySem.Spec PyProof.Rows L2
section
variable {X : Cx} {K : PySem.W.Frag} {H : Hp}
end
end L3
namespace L2
open PySem PySem.Spec PyProof.Rows
noncomputable def Ite (K : PySem.W.Frag) (a : Addr) : It :=
 ⟨fun i H => ∃ xs x, SqL K H a xs ∧ xs[i]? = some x, fun i H v H' => ∃ p x, v = .ref p ∧ H p = none ∧ H' = upd H p (.tup [.int (i : Int), x]) ∧ ∀ xs, SqL K H a xs → xs[i]? = some x, fun i H => ∃ xs, SqL K H a xs ∧ xs.length ≤ i⟩
theorem Inv.turnedT {X : Cx} {pins : List (Addr × Obj)} {σ : List (Option V)} {H : Hp} {s : Shared} {h' : Heap} {t' : Nat} {e it : Addr} {o : HO} (I : Inv X pins σ H s) (k : ∀ b o, b ≠ e → b ≠ it → s.heap.get? b = some o → h'.get? b = some o)
  (f : ∀ b ∈ [e, it], FpOk X pins H b) (new : ObjOk X.prog X.w (upd H s.heap.objs.size o) h' s.heap.objs.size o) : Inv X pins σ (upd H s.heap.objs.size o) { s with heap := h', toks := t' } := by
 have hn : H s.heap.objs.size = none := I.hok.fresh (Nat.le_refl _)
 have f1 := f e (by simp)
 have f2 := f it (by simp)
 have old : ∀ b u, H b = some u → b ≠ s.heap.objs.size := fun b u q z => by rw [z, hn] at q; cases q
 have nit : ∀ b u, H b = some u → b ≠ e ∧ b ≠ it := fun b u q => ⟨fun z => (by rw [z, f1.1] at q; cases q), fun z => (by rw [z, f2.1] at q; cases q)⟩
 have nch : ∀ {b : Addr}, b ∉ [e, it] → b ≠ e ∧ b ≠ it := fun hc => ⟨fun z => hc (by simp [z]), fun z => hc (by simp [z])⟩
 refine I.step (g' := s.gens) (d' := s.drawn) (ch := [e, it]) (fun b hb => ?_) (fun b o _ _ hc q _ => k b o (nch hc).1 (nch hc).2 q) (fun b o _ _ hc q _ => ⟨o.slots, k b o (nch hc).1 (nch hc).2 q⟩) (fun b u _ q n => ?_)
  (fun b o hc q => ⟨o, k b o (nch hc).1 (nch hc).2 q⟩) (fun b xs q => ?_) (fun b o u q => ?_) (fun b ps q => ⟨#[], ?_⟩) (fun m hm => ?_) (fun b u q => ?_) I.bare
 ·obtain ⟨g0, g1, g2, g3, g4, g5⟩ := f b hb
  exact ⟨g3, g1, g4, g5⟩
 ·rw [upd_ne (Nat.ne_of_lt (Heap.lt_size q))]; exact n
 ·rw [upd_ne (old b _ q)]; exact q
 ·rw [upd_ne (old b _ q)]; exact q
 ·rw [upd_ne (old b _ q), q]; simp
 ·obtain ⟨o, es, ep, ho, r⟩ := hm
  exact ⟨o, es, ep, k _ o (Ne.symm f1.2.1) (Ne.symm f2.2.1) ho, r⟩
 ·by_cases hb : b = s.heap.objs.size
  ·subst hb; rw [upd_same] at q; cases q; exact new
  ·rw [upd_ne hb] at q
   refine (I.hok b u q).stay (fun c v hc z => ?_) (fun c z => by rw [upd_ne (old c _ z)]; exact z) fun c xs z => by rw [upd_ne (old c _ z)]; exact z
   rcases hc with y | y
   ·subst y; exact k _ v (nit _ u q).1 (nit _ u q).2 z
   ·exact k c v (nit c _ y).1 (nit c _ y).2 z
theorem turn_enum {P : Program} {w : World} {K : PySem.W.Frag} {elts : List Expr} {x1} {pos : Pos} (a e it : Addr) (hne : e ≠ it) : Turn P w K (.Tuple elts x1 pos) (Ite K a) [e, it] e (fun i h => (∃ old, IsEnum h e it (i : Int) old) ∧ h.IsListIter it a i) where
 mem := by simp
 obj := fun i h st b hb => by
  obtain ⟨⟨old, st1⟩, st2⟩ := st
  rcases List.mem_cons.mp hb with q | q
  ·subst q
   exact ⟨_, st1, fun v z => by
    have z' : Data.fields _ = Data.cell v := z
    cases z'⟩
  ·have q : b = it := by simpa using q
   subst q
   obtain ⟨o, e, c, d⟩ := st2
   exact ⟨o, e, fun v z => by rw [d] at z; cases z⟩
 keep := fun i h h' st k => ⟨st.1.elim fun old q => ⟨old, k e (by simp) _ q⟩, st.2.at fun o q => k it (by simp) o q⟩
 item := by
  intro X hP hw hK hc i pins s σ H E I hf st hg
  subst hP hw hK
  obtain ⟨⟨old, st1⟩, st2⟩ := st
  obtain ⟨xs, x, hq, hx⟩ := hg
  obtain ⟨its, rv, p, hz⟩ := I.list hq
  obtain ⟨u, hu, ru⟩ := rv.get hx
  have hel : e < s.heap.objs.size := Heap.lt_size st1
  have hn : H s.heap.objs.size = none := I.hok.fresh (Nat.le_refl _)
  refine wpAny_pyNext_enum_item st1 st2 p.isList (x := u) (by simpa using hu) hne fun h1 ho hit1 ht1 hz1 hk1 => ?_
  refine ⟨_, rfl, wpAny_letOwnedTupleGo_enum ho fun h2 he2 hs2 => ?_⟩
  replace hs2 : Heap.SameBut e h1 h2 := hs2
  have hk2 : ∀ b o, b ≠ e → b ≠ it → s.heap.get? b = some o → h2.get? b = some o := fun b o h1' h2' q => (hs2.2 b h1').trans (hk1 b o h1' h2' q)
  have ht2 := (hs2.2 s.heap.objs.size (Nat.ne_of_gt hel)).trans ht1
  refine ⟨.ref s.heap.objs.size, upd H s.heap.objs.size (.tup [.int (i : Int), x]), I.turnedT (t' := s.toks + 1) hk2 hf ?_, rfl, ⟨_, x, rfl, hn, rfl, fun ys hy => by rw [I.list_inj hy hq]; exact hx⟩, ⟨⟨u, by simpa using he2⟩, ?_⟩, fun b hb => ?_⟩
  ·exact ⟨show 2 ≤ sizeLine by decide, [.int i s.toks, u], .cons ⟨s.toks, rfl⟩ (.cons ru .nil), ⟨_, ht2, rfl, ⟨_, rfl⟩, rfl⟩⟩
  ·exact hit1.at fun o q => (hs2.2 it (Ne.symm hne)).trans q
  ·rw [upd_ne ?_]; exact (hf b hb).1
   intro z
   rcases List.mem_cons.mp hb with q | q
   ·exact Nat.ne_of_lt hel (q ▸ z)
   ·have q : b = it := by simpa using q
    obtain ⟨o, y, _⟩ := st2
    exact Nat.ne_of_lt (Heap.lt_size y) (q ▸ z)
 done := by
  intro X hP hw hK hc i pins s σ H E I hf st hg
  subst hP hw hK
  obtain ⟨⟨old, st1⟩, st2⟩ := st
  obtain ⟨xs, hq, hx⟩ := hg
  obtain ⟨its, rv, p, hz⟩ := I.list hq
  obtain ⟨f0, f1, f2, f3, f4, f5⟩ := hf it (by simp)
  have hl := rv.length
  exact wpAny_pyNext_enum_end (I.ok.hd hc) st1 st2 p.isList (by simp; omega) fun h' eb => ⟨rfl, I.turned (t' := s.toks) (fun b o hb q => eb b o hb q) f0 f1 f3 f4 f5⟩
 self := fun _ _ _ _ _ st h => st.1.elim fun _ q => wpAny_pyIter_enum q h
def iEnum (K : PySem.W.Frag) (ta : TA) : TI := fun σ H R => ta σ H fun vs H1 => ∃ a, vs = [.ref a] ∧ (∃ xs, SqL K H1 a xs) ∧ R (Ite K a) H1
theorem boot_enum : bootBuiltins "enumerate" = some (.type "enumerate") := by decide +kernel
theorem pi_enum {X : Cx} {elts : List Expr} {x1} {tpos : Pos} {a : Expr} {ta : TA} {p pos : Pos} (hg : Gl X "enumerate") (hm : X.mg "enumerate" = none) (ha : PA X [a] ta) (hs : starEach [a] X.env = [(false, eval a X.env)] := by rfl) :
  PI X (.Tuple elts x1 tpos) (.Call (.Name "enumerate" p) [a] [] pos) (iEnum X.K ta) := by
 intro pins s σ H R I h
 refine Call_ (ld_blt I hg hm boot_enum (PyProof.Rows.callWith_type1 (thn (ha pos pins s σ H _ I h) fun us s1 ⟨vs, H1, I1, r1, q1⟩ => ?_) hs rfl))
 obtain ⟨l, e, ⟨xs, hq⟩, q⟩ := q1
 subst e
 cases r1 with
 | cons r rr =>
  cases rr
  cases r
  obtain ⟨its, rv, pl, hz⟩ := I1.list hq
  refine call_enumerate_list pl.isList fun h' he hit hsz hk => ?_
  refine wpAny_pyIter_enum he ?_
  have I2 : Inv X pins σ H1 { s1 with heap := h' } := I1.kept (t' := s1.toks) hk
  refine ⟨s1.heap.objs.size + 1, [s1.heap.objs.size + 1, s1.heap.objs.size], _, _, H1, rfl, I2, turn_enum l _ _ (Nat.succ_ne_self _), ⟨⟨.none, he⟩, hit⟩, fun b hb => ?_, q⟩
  have hb : s1.heap.objs.size ≤ b := by
   rcases List.mem_cons.mp hb with z | z
   ·rw [z]; exact Nat.le_succ _
   ·have e : b = s1.heap.objs.size := by simpa using z
    rw [e]; exact Nat.le_refl _
  exact I1.fpOk hb (I1.hok.fresh hb)
end L2
namespace L3
open PySem PySem.Spec PyProof.Rows L2
noncomputable def enD : Nat → List D → List D
 | _, [] => []
 | i, d :: r => .tup [.int (i : Int), d] :: enD (i + 1) r
theorem enD_length : ∀ {i : Nat} {ds : List D}, (enD i ds).length = ds.length
 | _, [] => rfl
 | _, _ :: r => by show (enD _ r).length + 1 = r.length + 1; rw [enD_length]
theorem enD_get : ∀ {j i : Nat} {ds : List D} {d : D}, ds[i]? = some d → (enD j ds)[i]? = some (.tup [.int ((j + i : Nat) : Int), d])
 | j, 0, d :: r, _, h => by cases h; rfl
 | j, i + 1, d :: r, e, h => by
  have := enD_get (j := j + 1) (i := i) (ds := r) (d := e) (by simpa using h)
  show (enD (j + 1) r)[i]? = _
  rw [this, show j + 1 + i = j + (i + 1) by omega]
 | _, _, [], _, h => by simp at h
theorem itrel_enum {K : PySem.W.Frag} {H0 : Hp} {a : Addr} {ds : List D} : ItRel K H0 ⟨enD 0 ds, fun G => seqOf (G a) = some ds⟩ (Ite K a) where
 go := fun i G H l c ok hi => by
  obtain ⟨xs, s, r⟩ := sql_of c ok
  rw [enD_length] at hi
  exact ⟨xs, xs[i]'(by rw [← r.length]; exact hi), s, List.getElem?_eq_getElem _⟩
 stop := fun i G H l c ok hi => by
  obtain ⟨xs, s, r⟩ := sql_of c ok
  rw [enD_length] at hi
  exact ⟨xs, s, by rw [← r.length]; exact hi⟩
 yld := fun i G H x H' l c ok hi y => by
  obtain ⟨p, v, rfl, hp, rfl, y⟩ := y
  obtain ⟨xs, s, r⟩ := sql_of c ok
  obtain ⟨d, hd, rd⟩ := r.at_ (y xs s)
  refine ⟨c.side hp, Le.fresh hp, .tup [.int (i : Int), d], by rw [enD_get hd, Nat.zero_add], ?_⟩
  rw [RelD]
  exact ⟨p, _, rfl, SqT.of upd_same, .cons RelD.intI (.cons (RelD.le (Le.fresh hp) rd) .nil)⟩
def wEnum (t : TA3) : TI3 := fun σ G r => t σ G fun ds G1 => match ds with
 | [.ref a] => (match seqOf (G1 a) with | some ds => r ⟨enD 0 ds, fun G => seqOf (G a) = some ds⟩ G1 | none => False)
 | _ => False
theorem low_wEnum {K : PySem.W.Frag} {t : TA3} {σ : L2.St} {H : Hp} {R : It → Hp → Prop} (h : lowI K (wEnum t) σ H R) : iEnum K (lowA K t) σ H R := by
 obtain ⟨σd, G, q, rs, c, t, f⟩ := h
 refine ⟨σd, G, _, rs, c, t, fun ds G1 vs H1 r1 c1 l1 t1 => ?_⟩
 split at t1
 ·rename_i a
  split at t1
  ·rename_i ds e
   obtain ⟨v, rfl, rv⟩ := r1.one
   cases rv.ref_inv
   obtain ⟨xs, s1, q1⟩ := sql_of c1 e
   exact ⟨a, rfl, ⟨xs, s1⟩, f _ _ _ _ itrel_enum c1 l1 t1⟩
  ·exact t1.elim
 ·exact t1.elim
theorem i_enumerate {X : Cx} {elts : List Expr} {x1} {tpos : Pos} {a : Expr} {ts : TA3} {p pos : Pos} (hg : Gl X "enumerate") (hm : X.mg "enumerate" = none) (ha : A3 X [a] ts) (hs : starEach [a] X.env = [(false, eval a X.env)] := by rfl) :
  I3 X (.Tuple elts x1 tpos) (.Call (.Name "enumerate" p) [a] [] pos) (wEnum ts) := weakI (pi_enum hg hm ha hs) fun _ _ _ => low_wEnum
end L3
namespace L2
open PySem PySem.Spec PyProof.Rows
noncomputable def Itv (K : PySem.W.Frag) (a : Addr) (n : Nat) : It :=
 ⟨fun i H => i < n ∧ ∃ xs, SqL K H a xs ∧ xs.length = n, fun i H x H' => H' = H ∧ ∀ xs, SqL K H a xs → xs[n - 1 - i]? = some x, fun i _ => n ≤ i⟩
theorem turn_rev {P : Program} {w : World} {K : PySem.W.Frag} {tg : Expr} (a it : Addr) (n : Nat) : Turn P w K tg (Itv K a n) [it] it (fun i h => i ≤ n ∧ h.IsRevIter it a ((n : Int) - 1 - (i : Nat))) where
 mem := by simp
 obj := fun i h st b hb => by
  have e : b = it := by simpa using hb
  subst e
  obtain ⟨o, e, c, d⟩ := st.2
  exact ⟨o, e, fun v z => by rw [d] at z; cases z⟩
 keep := fun i h h' st k => ⟨st.1, st.2.at fun o e => k it (by simp) o e⟩
 item := by
  intro X hP hw hK hc i pins s σ H E I hf st hg
  subst hP hw hK
  obtain ⟨hi, xs, hq, hn⟩ := hg
  obtain ⟨its, rv, p, hz⟩ := I.list hq
  have hl := rv.length
  obtain ⟨f0, f1, f2, f3, f4, f5⟩ := hf it (by simp)
  have hx : xs[n - 1 - i]? = some (xs[n - 1 - i]'(by omega)) := List.getElem?_eq_getElem _
  obtain ⟨u, hu, ru⟩ := rv.get hx
  have e1 : (n : Int) - 1 - (i : Nat) = ((n - 1 - i : Nat) : Int) := by omega
  have st2 := st.2
  rw [e1] at st2
  refine wpAny_pyNext_rev_item st2 p.isList (x := u) (by simpa using hu) fun h' st' sb => ?_
  have I1 : Inv X pins σ H { s with heap := h' } := I.turned (t' := s.toks) (fun b o hb e => (sb.2 b hb).trans e) f0 f1 f3 f4 f5
  obtain ⟨o, e, c, d⟩ := id st'
  refine ⟨u, rfl, go_of (s := { s with heap := h' }) e c d (by decide) ⟨_, H, I1, ru, ⟨rfl, fun ys hy => by rw [I.list_inj hy hq]; exact hx⟩, ⟨by omega, ?_⟩, fun b hb => (hf b hb).1⟩⟩
  have e2 : (n : Int) - 1 - ((i + 1 : Nat) : Int) = ((n - 1 - i : Nat) : Int) - 1 := by omega
  rw [e2]
  exact st'
 done := by
  intro X hP hw hK hc i pins s σ H E I hf st hg
  subst hP hw hK
  have hg : n ≤ i := hg
  obtain ⟨f0, f1, f2, f3, f4, f5⟩ := hf it (by simp)
  have e1 : (n : Int) - 1 - (i : Nat) = -1 := by have := st.1; omega
  have st2 := st.2
  rw [e1] at st2
  exact wpAny_pyNext_rev_end (I.ok.hd hc) st2 fun h' eb => ⟨rfl, I.turned (t' := s.toks) (fun b o hb q => eb b o hb q) f0 f1 f3 f4 f5⟩
 self := fun _ _ _ _ _ st h => wpAny_pyIter_revIter st.2 h
def iRev (K : PySem.W.Frag) (ta : TA) : TI := fun σ H R => ta σ H fun vs H1 => ∃ a xs, vs = [.ref a] ∧ SqL K H1 a xs ∧ R (Itv K a xs.length) H1
theorem pi_rev {X : Cx} {tg : Expr} {a : Expr} {ta : TA} {p pos : Pos} (hg : Gl X "reversed") (hm : X.mg "reversed" = none) (ha : PA X [a] ta) (hs : starEach [a] X.env = [(false, eval a X.env)] := by rfl) :
  PI X tg (.Call (.Name "reversed" p) [a] [] pos) (iRev X.K ta) := by
 intro pins s σ H R I h
 refine Call_ (ld_blt I hg hm boot_reversed (PyProof.Rows.callWith_type1 (thn (ha pos pins s σ H _ I h) fun us s1 ⟨vs, H1, I1, r1, q1⟩ => ?_) hs rfl))
 obtain ⟨l, xs, e, hq, q⟩ := q1
 subst e
 cases r1 with
 | cons r rr =>
  cases rr
  cases r
  obtain ⟨its, rv, pl, hz⟩ := I1.list hq
  have hl := rv.length
  refine call_reversed_list pl.isList ?_
  have st : (s1.heap.push (revObj l ((its.toArray.size : Int) - 1))).IsRevIter s1.heap.objs.size l ((its.toArray.size : Int) - 1) := ⟨_, Heap.get?_push_size _ rfl, rfl, rfl⟩
  have I2 : Inv X pins σ H1 { s1 with heap := s1.heap.push (revObj l ((its.toArray.size : Int) - 1)) } := I1.kept (t' := s1.toks) fun b o e => Heap.get?_push_of_some _ e
  refine wpAny_pyIter_revIter st ?_
  refine ⟨s1.heap.objs.size, [s1.heap.objs.size], _, _, H1, rfl, I2, turn_rev l _ xs.length, ⟨Nat.zero_le _, ?_⟩, fun b hb => ?_, q⟩
  ·have e1 : (xs.length : Int) - 1 - ((0 : Nat) : Int) = (its.toArray.size : Int) - 1 := by simp; omega
   rw [e1]
   exact st
  ·have e : b = s1.heap.objs.size := by simpa using hb
   subst e
   exact I1.fpOk (Nat.le_refl _) (I1.hok.fresh (Nat.le_refl _))
end L2
namespace L3
open PySem PySem.Spec PyProof.Rows L2
theorem itrel_rev {K : PySem.W.Frag} {H0 : Hp} {a : Addr} {ds : List D} {n : Nat} (hn : ds.length = n) : ItRel K H0 ⟨ds.reverse, fun G => seqOf (G a) = some ds⟩ (Itv K a n) where
 go := fun i G H l c ok hi => by
  obtain ⟨xs, s, r⟩ := sql_of c ok
  rw [List.length_reverse] at hi
  exact ⟨by omega, xs, s, by rw [← r.length]; exact hn⟩
 stop := fun i G H l c ok hi => by
  rw [List.length_reverse] at hi
  show n ≤ i
  omega
 yld := fun i G H x H' l c ok hi y => by
  obtain ⟨rfl, y⟩ := y
  obtain ⟨xs, s, r⟩ := sql_of c ok
  rw [List.length_reverse] at hi
  obtain ⟨d, hd, rd⟩ := r.at_ (y xs s)
  refine ⟨c, Le.refl _, d, ?_, rd⟩
  rw [List.getElem?_reverse hi, hn]
  exact hd
def wRev (t : TA3) : TI3 := fun σ G r => t σ G fun ds G1 => match ds with
 | [.ref a] => (match seqOf (G1 a) with | some ds => r ⟨ds.reverse, fun G => seqOf (G a) = some ds⟩ G1 | none => False)
 | _ => False
theorem low_wRev {K : PySem.W.Frag} {t : TA3} {σ : L2.St} {H : Hp} {R : It → Hp → Prop} (h : lowI K (wRev t) σ H R) : iRev K (lowA K t) σ H R := by
 obtain ⟨σd, G, q, rs, c, t, f⟩ := h
 refine ⟨σd, G, _, rs, c, t, fun ds G1 vs H1 r1 c1 l1 t1 => ?_⟩
 split at t1
 ·rename_i a
  split at t1
  ·rename_i ds e
   obtain ⟨v, rfl, rv⟩ := r1.one
   cases rv.ref_inv
   obtain ⟨xs, s1, q1⟩ := sql_of c1 e
   exact ⟨a, xs, rfl, s1, f _ _ _ _ (itrel_rev q1.length) c1 l1 t1⟩
  ·exact t1.elim
 ·exact t1.elim
theorem i_reversed {X : Cx} {tg : Expr} {a : Expr} {ts : TA3} {p pos : Pos} (hg : Gl X "reversed") (hm : X.mg "reversed" = none) (ha : A3 X [a] ts) (hs : starEach [a] X.env = [(false, eval a X.env)] := by rfl) :
  I3 X tg (.Call (.Name "reversed" p) [a] [] pos) (wRev ts) := weakI (pi_rev hg hm ha hs) fun _ _ _ => low_wRev
end L3
namespace L2
open PySem PySem.Spec PyProof.Rows
section
variable {X : Cx}
end
end L2
namespace L3
open PySem PySem.Spec PyProof.Rows L2
section
variable {X : Cx}
end
end L3
namespace Law
open PySem L2 L3 Rw
set_option maxHeartbeats 4000000
theorem rng_ok {m : Nat} (h : m ≤ 100000) : -(2 ^ 62) ≤ (m : Int) ∧ (m : Int) < 2 ^ 62 := ⟨by omega, by omega⟩
structure StAt (G : Gp) (st : Addr) : Prop where
 ex : ∃ (a : Addr) (ns : List Int) (k r : Int), G st = some (.lst [.ref a, .int k, .int r]) ∧ G a = some (.fro (ns.map .int)) ∧ 0 ≤ k ∧ 0 ≤ r ∧ a ≠ st ∧ ns.length ≤ 63
structure Adv (st : Addr) (G G' : Gp) : Prop where
 at_ : StAt G' st
 kp : ∀ b o, b ≠ st → G b = some o → G' b = some o
structure Upd1 (a : Addr) (bs : List Int) (G G' : Gp) : Prop where
 at_ : G' a = some (.lst (bs.map .int))
 kp : ∀ b, b ≠ a → G' b = G b
noncomputable def flds (ra ha : Addr) (s : Nat) : List (Str × D) := [("rows", .ref ra), ("held", .ref ha), ("spot", .int (s : Int))]
structure RideAt (C : Addr) (G : Gp) (p ra ha : Addr) (rs : List Row) (bs : List Int) (s : Nat) : Prop where
 ob : G p = some (.ins C (flds ra ha s))
 ro : G ra = some (.lst (rs.map Row.d))
 he : G ha = some (.lst (bs.map .int))
 ne : ra ≠ ha
structure Cde (sz : Nat) (rs : List Row) (bs : List Int) (s : Nat) : Prop where
 bo : BsOk sz bs
 ro : ∀ r ∈ rs, r.ok sz
 le : s ≤ rs.length
noncomputable def mayF (rs : List Row) (bs : List Int) (s : Nat) : Bool := match rs[s]? with
 | none => false
 | some (.come x n _) => !decide (gt bs x = n)
 | some _ => true
noncomputable def mayB (rs : List Row) (bs : List Int) (s : Nat) : Bool := if s = 0 then false else match rs[s - 1]? with
 | none => false
 | some (.go x n _) => !decide (gt bs x = n)
 | some _ => true
noncomputable def nxF (rs : List Row) (bs : List Int) (s : Nat) : Nat × List Int := match rs[s]? with
 | some (.go x n k) => if gt bs x = n then (k + 1, bs) else (s + 1, bs)
 | some r => (s + 1, stp 1 bs r)
 | none => (s, bs)
noncomputable def nxB (rs : List Row) (bs : List Int) (s : Nat) : Nat × List Int := match rs[s - 1]? with
 | some (.come x n k) => if gt bs x = n then (k, bs) else (s - 1, bs)
 | some r => (s - 1, stp (-1) bs r)
 | none => (s, bs)
theorem RideAt.pr {C : Addr} {G : Gp} {p ra ha : Addr} {rs : List Row} {bs : List Int} {s : Nat} (h : RideAt C G p ra ha rs bs s) : p ≠ ra := by
 intro e; have := h.ob; rw [e, h.ro] at this; cases this
theorem StAt.new {G : Gp} {st p : Addr} {o : DO} (h : StAt G st) (hp : G p = none) : StAt (gup G p o) st := by
 obtain ⟨a, ns, k, r, h1, h2, h3⟩ := h.ex
 exact ⟨a, ns, k, r, by rw [gup_ne (gne h1 hp)]; exact h1, by rw [gup_ne (gne h2 hp)]; exact h2, h3⟩
theorem StAt.ne {G : Gp} {st p : Addr} (h : StAt G st) (hp : G p = none) : p ≠ st := by
 obtain ⟨a, ns, k, r, h1, h2, h3⟩ := h.ex
 exact Ne.symm (gne h1 hp)
theorem StAt.set {G : Gp} {st p : Addr} {xs ys : List D} (h : StAt G st) (hp : G p = some (.lst xs)) (hne : p ≠ st) : StAt (gup G p (.lst ys)) st := by
 obtain ⟨a, ns, k, r, h1, h2, h3⟩ := h.ex
 have : a ≠ p := by intro e; rw [e, hp] at h2; cases h2
 exact ⟨a, ns, k, r, by rw [gup_ne (Ne.symm hne)]; exact h1, by rw [gup_ne this]; exact h2, h3⟩
theorem Adv.refl {G : Gp} {st : Addr} (h : StAt G st) : Adv st G G := ⟨h, fun _ _ _ e => e⟩
theorem Adv.trans {st : Addr} {G G1 G2 : Gp} (a : Adv st G G1) (b : Adv st G1 G2) : Adv st G G2 := ⟨b.at_, fun c o hc e => b.kp c o hc (a.kp c o hc e)⟩
theorem Adv.new {st p : Addr} {G G1 : Gp} {o : DO} (a : Adv st G G1) (hp : G1 p = none) : Adv st G (gup G1 p o) := ⟨a.at_.new hp, fun c u hc e => by rw [gup_ne (gne (a.kp c u hc e) hp)]; exact a.kp c u hc e⟩
theorem Adv.own {st p : Addr} {G G1 : Gp} {xs ys : List D} (a : Adv st G G1) (hp : G p = none) (h1 : G1 p = some (.lst xs)) (hne : p ≠ st) : Adv st G (gup G1 p (.lst ys)) :=
 ⟨a.at_.set h1 hne, fun c u hc e => by rw [gup_ne (gne e hp)]; exact a.kp c u hc e⟩
theorem Adv.none {st p : Addr} {G G1 : Gp} (a : Adv st G G1) (hp : G1 p = none) (hne : p ≠ st) : G p = none := by
 cases e : G p with
 | none => rfl
 | some o => rw [a.kp p o hne e] at hp; cases hp
theorem RideAt.grow {C : Addr} {G G' : Gp} {p ra ha : Addr} {rs : List Row} {bs : List Int} {s : Nat} (h : RideAt C G p ra ha rs bs s) (g : Grow G G') : RideAt C G' p ra ha rs bs s :=
 ⟨g.kp _ _ h.ob, g.kp _ _ h.ro, g.kp _ _ h.he, h.ne⟩
structure Kept (p ha : Addr) (G G' : Gp) : Prop where
 kp : ∀ b o, b ≠ p → b ≠ ha → G b = some o → G' b = some o
theorem Kept.refl {p ha : Addr} {G : Gp} : Kept p ha G G := ⟨fun _ _ _ _ h => h⟩
theorem Kept.trans {p ha : Addr} {G G1 G2 : Gp} (a : Kept p ha G G1) (b : Kept p ha G1 G2) : Kept p ha G G2 := ⟨fun c o h1 h2 h => b.kp c o h1 h2 (a.kp c o h1 h2 h)⟩
theorem Kept.grow {p ha : Addr} {G G1 G2 : Gp} (a : Kept p ha G G1) (b : Grow G1 G2) : Kept p ha G G2 := ⟨fun c o h1 h2 h => b.kp c o (a.kp c o h1 h2 h)⟩
theorem Kept.none {p ha q : Addr} {G G1 : Gp} (a : Kept p ha G G1) (h1 : q ≠ p) (h2 : q ≠ ha) (h : G1 q = none) : G q = none := by
 cases e : G q with
 | none => rfl
 | some o => rw [a.kp q o h1 h2 e] at h; cases h
structure AllIn (C : Addr) (G : Gp) (p ra ha rr a : Addr) (rs : List Row) (bs : List Int) (s sz : Nat) : Prop where
 A : RideAt C G p ra ha rs bs s
 c : Cde sz rs bs s
 pl : ∀ r ∈ rs, r.plain = true
 le : sz ≤ 1000
 r : G rr = some (.lst (rs.map Row.d))
 b : G a = some (.lst (bs.map .int))
 rh : rr ≠ ha
 ah : a ≠ ha
structure AllOut (C : Addr) (G G' : Gp) (p ra ha a q : Addr) (rs : List Row) (bs : List Int) (s : Nat) : Prop where
 A : RideAt C G' p ra ha rs bs s
 b : G' q = some (.lst (bs.map .int))
 k : Kept p ha G G'
 q : q = a ∨ G q = none
end Law
namespace Rw
open PySem L2 L3
theorem mapM_all {α β : Type} {f : α → Option β} : ∀ {xs : List α}, (∀ x ∈ xs, ∃ y, f x = some y) → ∃ ys, xs.mapM f = some ys
 | [], _ => ⟨[], rfl⟩
 | x :: xs, h => by
  obtain ⟨y, hy⟩ := h x List.mem_cons_self
  obtain ⟨ys, hys⟩ := mapM_all (xs := xs) fun z hz => h z (List.mem_cons_of_mem _ hz)
  exact ⟨y :: ys, by rw [List.mapM_cons, hy, hys]; rfl⟩
theorem eq_selfs {n : Nat} : ∀ {ys : List Sn}, (∀ y ∈ ys, eqN n y y = some true) → ∃ bs, ((ys.zip ys).mapM fun p => eqN n p.1 p.2) = some bs ∧ bs.all id = true
 | [], _ => ⟨[], rfl, rfl⟩
 | y :: ys, h => by
  obtain ⟨bs, e, q⟩ := eq_selfs (ys := ys) fun z hz => h z (List.mem_cons_of_mem _ hz)
  refine ⟨true :: bs, ?_, by rw [List.all_cons, q]; rfl⟩
  rw [List.zip_cons_cons, List.mapM_cons, e, h y List.mem_cons_self]
  rfl
theorem mapM_mem {α β : Type} {f : α → Option β} : ∀ {xs : List α} {ys : List β}, xs.mapM f = some ys → ∀ y ∈ ys, ∃ x, f x = some y
 | [], ys, h, y, hy => by
  have : ys = [] := by simpa using h.symm
  subst this; cases hy
 | x :: xs, ys, h, y, hy => by
  rw [List.mapM_cons] at h
  cases hx : f x with
  | none => rw [hx] at h; cases h
  | some z =>
   rw [hx] at h
   cases hr : xs.mapM f with
   | none => rw [hr] at h; cases h
   | some r =>
    rw [hr] at h
    have e : z :: r = ys := Option.some.inj h
    subst e
    rcases List.mem_cons.mp hy with rfl | q
    ·exact ⟨x, hx⟩
    ·exact mapM_mem hr y q
theorem eq_self {G : Gp} : ∀ (n : Nat) {d : D} {s : Sn}, snap G n d = some s → eqN n s s = some true
 | n, .non, s, h => by cases n <;> (cases h; rfl)
 | n, .bl b, s, h => by cases n <;> (cases h; cases b <;> rfl)
 | n, .int i, s, h => by cases n <;> (cases h; simp [eqN, flatS, eqF])
 | n, .str i, s, h => by cases n <;> (cases h; simp [eqN, flatS, eqF])
 | n, .ty _, s, h => by cases n <;> cases h
 | 0, .tup _, s, h => by cases h
 | 0, .ref _, s, h => by cases h
 | n + 1, .tup ds, s, h => by
  obtain ⟨ys, e, rfl⟩ := Option.map_eq_some_iff.mp (show (ds.mapM (snap G n)).map Sn.tup = some s from h)
  obtain ⟨bs, e2, q⟩ := eq_selfs (n := n) (ys := ys) fun y hy => by obtain ⟨x, hx⟩ := mapM_mem e y hy; exact eq_self n hx
  show (if ys.length = ys.length then ((ys.zip ys).mapM fun p => eqN n p.1 p.2).map (fun bs => bs.all id) else none) = _
  rw [if_pos rfl, e2, Option.map_some, q]
 | n + 1, .ref a, s, h => by
  obtain ⟨ds, e0, h⟩ := Option.bind_eq_some_iff.mp (show ((seqOf (G a)).bind fun ds => (ds.mapM (snap G n)).map Sn.lst) = some s from h)
  obtain ⟨ys, e, rfl⟩ := Option.map_eq_some_iff.mp h
  obtain ⟨bs, e2, q⟩ := eq_selfs (n := n) (ys := ys) fun y hy => by obtain ⟨x, hx⟩ := mapM_mem e y hy; exact eq_self n hx
  show (if ys.length = ys.length then ((ys.zip ys).mapM fun p => eqN n p.1 p.2).map (fun bs => bs.all id) else some false) = _
  rw [if_pos rfl, e2, Option.map_some, q]
theorem snap_tup {G : Gp} {n : Nat} {ds : List D} (h : ∀ d ∈ ds, ∃ s, snap G n d = some s) : ∃ s, snap G (n + 1) (.tup ds) = some s := by
 obtain ⟨ys, e⟩ := mapM_all h
 exact ⟨.tup ys, by show (ds.mapM (snap G n)).map Sn.tup = _; rw [e]; rfl⟩
theorem snap_int {G : Gp} {n : Nat} {i : Int} : ∃ s, snap G n (.int i) = some s := by cases n <;> exact ⟨_, rfl⟩
theorem all1 {p : D → Prop} {a : D} (h : p a) : ∀ d ∈ [a], p d := fun d hd => by cases List.mem_singleton.mp hd; exact h
theorem all2 {p : D → Prop} {a : D} {r : List D} (h : p a) (hr : ∀ d ∈ r, p d) : ∀ d ∈ a :: r, p d := fun d hd => by
 rcases List.mem_cons.mp hd with rfl | q
 ·exact h
 ·exact hr d q
theorem snap_ref {G : Gp} {n : Nat} {a b : Addr} (h : seqOf (G a) = seqOf (G b)) : snap G n (.ref a) = snap G n (.ref b) := by
 cases n with
 | zero => rfl
 | succ n => show ((seqOf (G a)).bind _) = ((seqOf (G b)).bind _); rw [h]
end Rw
namespace Law
open PySem L2 L3 Rw
set_option maxHeartbeats 4000000
structure Pairs (rs : List Row) : Prop where
 go : ∀ (j x : Nat) (n : Int) (k : Nat), rs[j]? = some (Row.go x n k) → rs[k]? = some (.come x n j)
 co : ∀ (j x : Nat) (n : Int) (k : Nat), rs[j]? = some (Row.come x n k) → rs[k]? = some (.go x n j)
theorem lt_of {α : Type} {xs : List α} {i : Nat} {x : α} (h : xs[i]? = some x) : i < xs.length := (List.getElem?_eq_some_iff.mp h).1
noncomputable def od : Option Row → D
 | none => .non
 | some r => r.d
structure PairsO (os : List (Option Row)) : Prop where
 go : ∀ (j x : Nat) (n : Int) (k : Nat), os[j]? = some (some (Row.go x n k)) → os[k]? = some (some (.come x n j))
 co : ∀ (j x : Nat) (n : Int) (k : Nat), os[j]? = some (some (Row.come x n k)) → os[k]? = some (some (.go x n j))
theorem PairsO.plain {os : List (Option Row)} {i : Nat} {r : Row} (h : PairsO os) (hi : os[i]? = some none) (hr : r.plain = true) : PairsO (os.set i (some r)) := by
 have hl := lt_of hi
 refine ⟨fun j x n k e => ?_, fun j x n k e => ?_⟩
 ·rw [List.getElem?_set] at e ⊢
  by_cases hj : i = j
  ·subst hj; rw [if_pos rfl, if_pos hl] at e; cases e; cases hr
  ·rw [if_neg hj] at e
   have q := h.go j x n k e
   by_cases hk : i = k
   ·subst hk; rw [hi] at q; cases q
   ·rw [if_neg hk]; exact q
 ·rw [List.getElem?_set] at e ⊢
  by_cases hj : i = j
  ·subst hj; rw [if_pos rfl, if_pos hl] at e; cases e; cases hr
  ·rw [if_neg hj] at e
   have q := h.co j x n k e
   by_cases hk : i = k
   ·subst hk; rw [hi] at q; cases q
   ·rw [if_neg hk]; exact q
theorem PairsO.pair {os : List (Option Row)} {i l : Nat} {x : Nat} {n : Int} {a b : Row} (h : PairsO os) (hi : os[i]? = some none) (hl : os[l]? = some none) (hne : l ≠ i) (hab : (a = .go x n l ∧ b = .come x n i) ∨ (a = .come x n l ∧ b = .go x n i)) :
  PairsO ((os.set i (some a)).set l (some b)) := by
 have li := lt_of hi
 have ll := lt_of hl
 have at_ : ∀ j, ((os.set i (some a)).set l (some b))[j]? = if j = l then some (some b) else if j = i then some (some a) else os[j]? := by
  intro j
  rw [List.getElem?_set, List.getElem?_set, List.length_set]
  by_cases h1 : l = j
  ·subst h1; simp [ll]
  ·rw [if_neg h1, if_neg (Ne.symm h1)]
   by_cases h2 : i = j
   ·subst h2; simp [li]
   ·rw [if_neg h2, if_neg (Ne.symm h2)]
 refine ⟨fun j y m k e => ?_, fun j y m k e => ?_⟩
 ·rw [at_] at e ⊢
  by_cases hj : j = l
  ·subst hj
   rw [if_pos rfl] at e
   rcases hab with ⟨ha, hb⟩ | ⟨ha, hb⟩
   ·rw [hb] at e; cases e
   ·rw [hb] at e; cases e; rw [if_neg (Ne.symm hne), if_pos rfl, ha]
  ·rw [if_neg hj] at e
   by_cases hji : j = i
   ·subst hji
    rw [if_pos rfl] at e
    rcases hab with ⟨ha, hb⟩ | ⟨ha, hb⟩
    ·rw [ha] at e; cases e; rw [if_pos rfl, hb]
    ·rw [ha] at e; cases e
   ·rw [if_neg hji] at e
    have q := h.go j y m k e
    by_cases k1 : k = l
    ·subst k1; rw [hl] at q; cases q
    ·by_cases k2 : k = i
     ·subst k2; rw [hi] at q; cases q
     ·rw [if_neg k1, if_neg k2]; exact q
 ·rw [at_] at e ⊢
  by_cases hj : j = l
  ·subst hj
   rw [if_pos rfl] at e
   rcases hab with ⟨ha, hb⟩ | ⟨ha, hb⟩
   ·rw [hb] at e; cases e; rw [if_neg (Ne.symm hne), if_pos rfl, ha]
   ·rw [hb] at e; cases e
  ·rw [if_neg hj] at e
   by_cases hji : j = i
   ·subst hji
    rw [if_pos rfl] at e
    rcases hab with ⟨ha, hb⟩ | ⟨ha, hb⟩
    ·rw [ha] at e; cases e
    ·rw [ha] at e; cases e; rw [if_pos rfl, hb]
   ·rw [if_neg hji] at e
    have q := h.co j y m k e
    by_cases k1 : k = l
    ·subst k1; rw [hl] at q; cases q
    ·by_cases k2 : k = i
     ·subst k2; rw [hi] at q; cases q
     ·rw [if_neg k1, if_neg k2]; exact q
theorem PairsO.empty {m : Nat} : PairsO (List.replicate m none) := by
 refine ⟨fun j x n k e => ?_, fun j x n k e => ?_⟩ <;> (rw [List.getElem?_replicate] at e; split at e <;> cases e)
theorem PairsO.pairs {rs : List Row} (h : PairsO (rs.map some)) : Pairs rs := by
 have e : ∀ {j : Nat} {r : Row}, rs[j]? = some r ↔ (rs.map some)[j]? = some (some r) := fun {j r} => by
  rw [List.getElem?_map]
  cases rs[j]? <;> simp
 exact ⟨fun j x n k q => e.mpr (h.go j x n k (e.mp q)), fun j x n k q => e.mpr (h.co j x n k (e.mp q))⟩
end Law
namespace Law
open PySem L2 L3 Rw
structure Ent where
 s : Nat
 q : Addr
 bs : List Int
noncomputable def Ent.d (e : Ent) : D := .tup [.int (e.s : Int), .ref e.q]
theorem StAt.grow {G G' : Gp} {st : Addr} (h : StAt G st) (g : Grow G G') : StAt G' st := by
 obtain ⟨a, ns, k, r, h1, h2, h3⟩ := h.ex
 exact ⟨a, ns, k, r, g.kp _ _ h1, g.kp _ _ h2, h3⟩
end Law
namespace Law
open PySem L2 L3 Rw
end Law
namespace Law
open PySem L2 L3 Rw
end Law
namespace L3
open PySem PySem.Spec PyProof.Rows L2
end L3
namespace Rw
open PySem L2 L3
noncomputable def Row.x : Row → Nat
 | .add x _ => x
 | .take x _ => x
 | .turn x _ _ => x
 | .swap x _ => x
 | .go x _ _ => x
 | .come x _ _ => x
end Rw
namespace Law
open PySem L2 L3 Rw
noncomputable def mayX (fw : Bool) (rs : List Row) (bs : List Int) (s : Nat) : Bool := if fw = true then mayF rs bs s else mayB rs bs s
noncomputable def nxX (fw : Bool) (rs : List Row) (bs : List Int) (s : Nat) : Nat × List Int := if fw = true then nxF rs bs s else nxB rs bs s
structure Ent2 where
 fw : Bool
 s : Nat
 q : Addr
 bs : List Int
noncomputable def Ent2.d (e : Ent2) : D := .tup [.bl e.fw, .int (e.s : Int), .ref e.q]
end Law
namespace L2
open PySem PySem.Spec PyProof.Rows
section
variable {X : Cx}
end
end L2
namespace L3
open PySem PySem.Spec PyProof.Rows L2
section
variable {X : Cx}
end
end L3
namespace Law
open PySem L2 L3 Rw
noncomputable def rn (fw : Bool) (rs : List Row) : Nat → Nat → List Int → Nat × Nat × List Int
 | 0, s, bs => (0, s, bs)
 | n + 1, s, bs => if mayX fw rs bs s = true then ((rn fw rs n (nxX fw rs bs s).1 (nxX fw rs bs s).2).1 + 1, (rn fw rs n (nxX fw rs bs s).1 (nxX fw rs bs s).2).2) else (0, s, bs)
theorem rn_go {fw : Bool} {rs : List Row} {n s : Nat} {bs : List Int} (h : mayX fw rs bs s = true) : rn fw rs (n + 1) s bs = ((rn fw rs n (nxX fw rs bs s).1 (nxX fw rs bs s).2).1 + 1, (rn fw rs n (nxX fw rs bs s).1 (nxX fw rs bs s).2).2) := by
 show (if mayX fw rs bs s = true then _ else _) = _
 rw [if_pos h]
theorem rn_stop {fw : Bool} {rs : List Row} {n s : Nat} {bs : List Int} (h : mayX fw rs bs s = false) : rn fw rs n s bs = (0, s, bs) := by
 cases n with
 | zero => rfl
 | succ n => show (if mayX fw rs bs s = true then _ else _) = _; rw [if_neg (by rw [h]; exact Bool.false_ne_true)]
structure RnI (fw : Bool) (rs : List Row) (most s0 : Nat) (bs0 : List Int) (k s : Nat) (bs : List Int) : Prop where
 le : k ≤ most
 eq : rn fw rs most s0 bs0 = (k + (rn fw rs (most - k) s bs).1, (rn fw rs (most - k) s bs).2)
theorem RnI.init {fw : Bool} {rs : List Row} {most s0 : Nat} {bs0 : List Int} : RnI fw rs most s0 bs0 0 s0 bs0 := ⟨Nat.zero_le _, by rw [Nat.sub_zero, Nat.zero_add]⟩
theorem RnI.step {fw : Bool} {rs : List Row} {most s0 k s : Nat} {bs0 bs : List Int} (h : RnI fw rs most s0 bs0 k s bs) (hk : k < most) (hm : mayX fw rs bs s = true) : RnI fw rs most s0 bs0 (k + 1) (nxX fw rs bs s).1 (nxX fw rs bs s).2 := by
 refine ⟨hk, ?_⟩
 rw [h.eq, show most - k = (most - (k + 1)) + 1 by omega, rn_go hm]
 show (k + ((rn fw rs (most - (k + 1)) _ _).1 + 1), _) = _
 rw [show ∀ a : Nat, k + (a + 1) = k + 1 + a from fun a => by omega]
theorem RnI.stop {fw : Bool} {rs : List Row} {most s0 k s : Nat} {bs0 bs : List Int} (h : RnI fw rs most s0 bs0 k s bs) (hk : ¬ k < most ∨ mayX fw rs bs s = false) : rn fw rs most s0 bs0 = (k, s, bs) := by
 have e : rn fw rs (most - k) s bs = (0, s, bs) := by
  rcases hk with hk | hk
  ·have := h.le
   rw [show most - k = 0 by omega]; rfl
  ·exact rn_stop hk
 rw [h.eq, e]; rfl
theorem snap_out {G : Gp} {a b : Addr} {ks : List Int} {pre post : List D} (h1 : seqOf (G a) = some (ks.map .int)) (h2 : seqOf (G b) = some (ks.map .int)) (hpre : ∀ d ∈ pre, ∃ s, snap G 1 d = some s) (hpost : ∀ d ∈ post, ∃ s, snap G 1 d = some s) :
  ∃ s, snap G 2 (.tup (pre ++ .ref a :: post)) = some s ∧ snap G 2 (.tup (pre ++ .ref b :: post)) = some s := by
 have e : snap G 1 (.ref a) = snap G 1 (.ref b) := snap_ref (by rw [h1, h2])
 obtain ⟨s, hs⟩ := snap_tup (G := G) (n := 1) (ds := pre ++ .ref a :: post) fun d hd => by
  rcases List.mem_append.mp hd with q | q
  ·exact hpre d q
  ·rcases List.mem_cons.mp q with rfl | q
   ·exact ⟨_, snap_ints h1⟩
   ·exact hpost d q
 refine ⟨s, hs, ?_⟩
 rw [← hs]
 show ((pre ++ .ref b :: post).mapM (snap G 1)).map Sn.tup = ((pre ++ .ref a :: post).mapM (snap G 1)).map Sn.tup
 rw [List.mapM_append, List.mapM_append, List.mapM_cons, List.mapM_cons, e]
end Law
namespace L2
open PySem PySem.Spec PyProof.Rows
end L2
namespace L3
open PySem PySem.Spec PyProof.Rows L2
end L3
namespace L2
open PySem PySem.Spec PyProof.Rows
theorem lrv_nolen : typeLookup (.type "list_reverseiterator") (Str.ofString "__len__") = pure none := by
 rw [typeLookup_type, builtinLookup_eq_fast]
 rfl
theorem lrv_hint : typeLookup (.type "list_reverseiterator") (Str.ofString "__length_hint__") = pure (some (.builtin "list_reverseiterator.__length_hint__")) := by
 rw [typeLookup_type, builtinLookup_eq_fast]
 rfl
theorem lrv_sub : isSubtype (.type "list_reverseiterator") (.type "list_reverseiterator") = pure true := by rfl
theorem lrv_hinted {prog : Program} {w : World} {A : Around} {E : Value → Shared → Prop} {s : Shared} {r : Addr} {Q : Bool → Shared → Prop} (ht : s.TypeIs (.ref r) "list_reverseiterator") (q : Q false s) : wpAny (model prog w) A (Builtin.List.listLengthHint (.ref r)) Q E s := by
 refine wpAny_bind (wpAny_specialOf ht lrv_nolen ?_)
 refine wpAny_bind (wpAny_specialOf ht lrv_hint ?_)
 refine wpAny_bind (wpAny_isInstance ht lrv_sub ?_)
 exact wpAny_pure q
def LrvSt (it l : Addr) (its : Array Value) (i : Nat) (s : Shared) : Prop := i ≤ its.size ∧ s.heap.IsRevIter it l ((its.size : Int) - 1 - (i : Nat)) ∧ s.heap.IsList l its
theorem lrv_ty {it l : Addr} {its : Array Value} {i : Nat} {s : Shared} (h : LrvSt it l its i s) : s.TypeIs (.ref it) "list_reverseiterator" := by
 obtain ⟨_, ⟨o, e, c, d⟩, _⟩ := h
 exact ⟨o, e, c⟩
theorem lrv_walk {prog : Program} {w : World} {A : Around} {it l : Addr} {its : Array Value} (hh : A.handled = none) (hne : l ≠ it) : WalksS prog w A it [it, l] [it] (fun a b => a = b) its.size (fun i v => its[its.size - 1 - i]? = some v) (LrvSt it l its) where
 sub := fun b hb => by simp at hb; subst hb; simp
 grefl := fun _ => rfl
 gtrans := fun _ _ _ a b => a.trans b
 frame := fun i s h' tk st _ kp => by
  obtain ⟨hi, st1, st2⟩ := st
  exact ⟨hi, st1.at fun o e => kp it (by simp) o e, st2.at fun o e => kp l (by simp) o e⟩
 item := fun i s Q E hi st q => by
  obtain ⟨_, st1, st2⟩ := st
  have e1 : (its.size : Int) - 1 - (i : Nat) = ((its.size - 1 - i : Nat) : Int) := by omega
  rw [e1] at st1
  have hx : its[its.size - 1 - i]? = some (its[its.size - 1 - i]'(by omega)) := Array.getElem?_eq_getElem _
  refine wpAny_pyNext_rev_item st1 st2 hx fun h' st' sb => ?_
  refine q _ _ hx ⟨by omega, ?_, st2.at fun o e => (sb.2 l hne).trans e⟩ ⟨fun b o hb e => (sb.2 b (by simpa using hb)).trans e, rfl, rfl, rfl, Nat.le_refl _⟩
  have e2 : (its.size : Int) - 1 - ((i + 1 : Nat) : Int) = ((its.size - 1 - i : Nat) : Int) - 1 := by omega
  rw [e2]
  exact st'
 done := fun s Q E st q => by
  obtain ⟨_, st1, st2⟩ := st
  have e1 : (its.size : Int) - 1 - (its.size : Nat) = -1 := by omega
  rw [e1] at st1
  exact wpAny_pyNext_rev_end hh st1 fun h' eb => q _ ⟨fun b o hb e => eb b o (by simpa using hb) e, rfl, rfl, rfl, Nat.le_refl _⟩
 self := fun i s Q E st q => wpAny_pyIter_revIter st.2.1 q
theorem lrv_extend {prog : Program} {w : World} {A : Around} {s : Shared} {R : Result → Shared → Prop} {it l S : Addr} {its : Array Value} {c0 : Nat} (hh : A.in1.handled = none) (hne : l ≠ it) (hSi : S ≠ it) (hSl : S ≠ l) (hst : LrvSt it l its 0 s) (hS : s.heap.get? S = some { cls := .type "list", data := .seq #[] c0 })
  (hn : its.size ≤ sizeLine) (hR : ∀ (s' : Shared) (acc : Array Value) (c : Nat), Moved [S, it] (fun a b => a = b) s s' → s'.heap.get? S = some { cls := .type "list", data := .seq acc c } → ItemsOf (fun i v => its[its.size - 1 - i]? = some v) acc its.size → R (.ok (.ret .none)) s') :
  wpAny (model prog w) A.in1 (Builtin.List.listExtendWith (.ref S) (.ref it) .none)
   (fun fin s' => match fin with | .done f => R (.ok f) s' | .again c' => c'.quiet = true ∧ codeAny (model prog w) A c' R s') (fun e s' => R (.error e) s') s := by
 have h1 : Builtin.List.listSameRef (.ref S) (.ref it) = false := by
  show (S == it) = false
  exact beq_eq_false_iff_ne.mpr hSi
 have h2 : ((Value.type "list_reverseiterator") == (Value.type "list")) = false := by decide
 have h3 : ((Value.type "list_reverseiterator") == (Value.type "tuple")) = false := by decide
 refine wpAny_bind (wpAny_typeOf (lrv_ty hst) ?_)
 simp only [h1, h2, h3, Bool.or_false, Bool.false_eq_true, if_false]
 refine wpAny_bind (wpAny_pyIter_revIter hst.2.1 ?_)
 refine wpAny_bind (wpAny_holding (lrv_hinted (lrv_ty hst) ?_))
 exact wpAny_pure ⟨plainId_quiet F.plain_extend_loop _, codeAny_extend_loopS (lrv_walk hh hne) hn S (by simp [hSi, hSl]) .none its.size 0 s #[] c0 (by omega) (by omega) hst hS ⟨rfl, fun j v e => by simp at e⟩ hR⟩
theorem lrv_init {prog : Program} {w : World} {A : Around} {s : Shared} {R : Result → Shared → Prop} {it l S : Addr} {its : Array Value} (hh : A.in1.handled = none) (hne : l ≠ it) (hSi : S ≠ it) (hSl : S ≠ l) (hst : LrvSt it l its 0 s) (hS : s.heap.get? S = some { cls := .type "list", data := .seq #[] })
  (hn : its.size ≤ sizeLine) (hR : ∀ (s' : Shared) (acc : Array Value) (c : Nat), Moved [S, it] (fun a b => a = b) s s' → s'.heap.get? S = some { cls := .type "list", data := .seq acc c } → ItemsOf (fun i v => its[its.size - 1 - i]? = some v) acc its.size → R (.ok (.ret .none)) s') :
  wpAny (model prog w) A.in1 (Builtin.«list.__init__» { pos := [.ref S, .ref it] })
   (fun fin s' => match fin with | .done f => R (.ok f) s' | .again c' => c'.quiet = true ∧ codeAny (model prog w) A c' R s') (fun e s' => R (.error e) s') s := by
 refine wpAny_bind (wpAny_bind (wpAny_seqItems hS rfl (wpAny_pure (wpAny_bind (wpAny_updateSeq hS rfl ?_ (by decide) (by decide))))))
 have hS2 := Heap.get?_update_self (Obj.mapSeq fun _ => #[]) hS rfl
 have oth : ∀ b o, b ≠ S → s.heap.get? b = some o → (s.heap.update S (Obj.mapSeq fun _ => #[])).get? b = some o := fun b o hb e => (Heap.get?_update_other s.heap (Obj.mapSeq fun _ => #[]) (Ne.symm hb)).trans e
 refine wpAny_bind (wpAny_letGo ?_)
 refine lrv_extend hh hne hSi hSl ?_ hS2 hn fun s' acc c m hs ha => hR s' acc c ?_ hs ha
 ·exact (lrv_walk (prog := prog) (w := w) hh hne).frame 0 s _ s.toks hst (Nat.le_refl _) fun b hb o e => oth b o (fun z => by subst z; simp at hb; rcases hb with z | z; exact hSi z; exact hSl z) e
 ·exact ⟨fun b o hb e => m.heap b o hb (oth b o (fun z => hb (by simp [z])) e), m.gens, m.drawn, m.os, m.toks⟩
theorem call_list_rev {prog : Program} {w : World} {A : Around} {E : Value → Shared → Prop} {s : Shared} {it l : Addr} {its : Array Value} {Q : Value → Shared → Prop} (hh : A.in1.in1.handled = none) (hne : l ≠ it) (hst : LrvSt it l its 0 s) (hn : its.size ≤ sizeLine)
  (q : ∀ (s' : Shared) (acc : Array Value) (c : Nat), (∀ b o, b ≠ it → s.heap.get? b = some o → s'.heap.get? b = some o) → s'.gens = s.gens → s'.drawn = s.drawn → s'.os = s.os → s'.heap.get? s.heap.objs.size = some { cls := .type "list", data := .seq acc c } →
   ItemsOf (fun i v => its[its.size - 1 - i]? = some v) acc its.size → Q (.ref s.heap.objs.size) s') : wpAny (model prog w) A (call (.type "list") [.ref it]) Q E s := by
 have hl : l < s.heap.objs.size := by obtain ⟨o, e, _⟩ := hst.2.2; exact Heap.lt_size e
 have hi : it < s.heap.objs.size := by obtain ⟨o, e, _⟩ := hst.2.1; exact Heap.lt_size e
 refine callType_codes (Q₁ := fun obj s1 => obj = .ref s.heap.objs.size ∧ s1 = { s with heap := s.heap.push { cls := .type "list", data := .seq #[] } }) F.called_list (F.typeCall_list_1 (.ref it)) F.entry_list_init (code_list_new (.ref it) ⟨rfl, rfl⟩) fun obj s1 h1 => ?_
 obtain ⟨e1, e2⟩ := h1
 subst e1
 subst e2
 have hS := Heap.get?_push_size (o := { cls := .type "list", data := .seq #[] }) s.heap rfl
 refine ⟨⟨_, hS, rfl⟩, F.args_list_init_2 _ _, ?_⟩
 refine lrv_init hh hne (Nat.ne_of_gt hi) (Nat.ne_of_gt hl) ?_ hS hn fun s' acc c m hs ha => ⟨rfl, q s' acc c (fun b o hb e => ?_) m.gens.symm m.drawn m.os hs ha⟩
 ·exact (lrv_walk (prog := prog) (w := w) hh hne).frame 0 s _ s.toks hst (Nat.le_refl _) fun b hb o e => Heap.get?_push_of_some _ e
 ·exact m.heap b o (by simp [hb]; exact Nat.ne_of_lt (Heap.lt_size e)) (Heap.get?_push_of_some _ e)
def tListRev (K : PySem.W.Frag) (ta : TA) : TE := fun σ H Q => ta σ H fun vs H1 => ∃ a xs, vs = [.ref a] ∧ SqL K H1 a xs ∧ ∀ l, H1 l = none → Q (.ref l) (upd H1 l (.lst xs.reverse))
theorem boot_list0 : bootBuiltins "list" = some (.type "list") := by decide +kernel
theorem pe_listRev {X : Cx} {a : Expr} {ta : TA} {p p2 pos pos2 : Pos} {k : Nat} (hr : Room k X.A) (hg : Gl X "reversed") (hm : X.mg "reversed" = none) (hg2 : Gl X "list") (hm2 : X.mg "list" = none) (ha : PA X [a] ta) (hs : starEach [a] X.env = [(false, eval a X.env)] := by rfl)
  (hs2 : starEach [.Call (.Name "reversed" p) [a] [] pos] X.env = [(false, eval (.Call (.Name "reversed" p) [a] [] pos) X.env)] := by rfl) :
  PE X (.Call (.Name "list" p2) [.Call (.Name "reversed" p) [a] [] pos] [] pos2) (tListRev X.K ta) := by
 intro pins s σ H Q I h
 refine wpAny_Call_Name_kw (ld_blt I hg2 hm2 boot_list0 ?_)
 refine PyProof.Rows.callWith_type1 ?_ hs2 rfl
 rw [hs2]
 show wpAny _ _ (spliced ((false, eval (.Call (.Name "reversed" p) [a] [] pos) X.env) :: backTo pos2 [])) _ _ s
 refine Calls.spliced_cons ?_
 refine wpAny_Call_Name_kw (ld_blt I hg hm boot_reversed (PyProof.Rows.callWith_type1 (thn (ha pos pins s σ H _ I h) fun us s1 ⟨vs, H1, I1, r1, q1⟩ => ?_) hs rfl))
 obtain ⟨l, xs, e, hq, q⟩ := q1
 subst e
 cases r1 with
 | cons r rr =>
  cases rr
  cases r
  obtain ⟨its, rv, pl, hz⟩ := I1.list hq
  have hl := rv.length
  have hll : l < s1.heap.objs.size := by obtain ⟨o, e, _⟩ := pl.isList; exact Heap.lt_size e
  refine call_reversed_list pl.isList ?_
  refine Calls.spliced_nil ?_
  have st : LrvSt s1.heap.objs.size l its.toArray 0 { s1 with heap := s1.heap.push (revObj l ((its.toArray.size : Int) - 1)) } :=
   ⟨Nat.zero_le _, ⟨_, Heap.get?_push_size _ rfl, rfl, by simp [revObj]⟩, pl.isList.at fun o e => Heap.get?_push_of_some _ e⟩
  refine call_list_rev hr.hd (Nat.ne_of_lt hll) st (by simp; omega) fun s' acc c kp hg hd ho hnew hit => ?_
  have kp' : ∀ b o, s1.heap.get? b = some o → s'.heap.get? b = some o := fun b o e => kp b o (Nat.ne_of_lt (Heap.lt_size e)) (Heap.get?_push_of_some _ e)
  have ha : Vals xs.reverse acc.toList := by
   have e : acc.toList = its.reverse := by
    have hz1 : acc.size = its.length := by simpa using hit.1
    refine List.ext_getElem (by simp [hz1]) fun j h1 h2 => ?_
    have hj : j < acc.size := by simpa using h1
    have := hit.2 j acc[j] (Array.getElem?_eq_getElem hj)
    have e2 : its[its.length - 1 - j]? = some acc[j] := by simpa using this
    rw [List.getElem_reverse, Array.getElem_toList]
    exact (Option.some.inj ((List.getElem?_eq_getElem (by omega)).symm.trans e2)).symm
   rw [e]
   exact rv.reverse
  have I2 := I1.laid (h' := s'.heap) (a := s1.heap.objs.size + 1) (o := .lst xs.reverse) (t' := s'.toks) kp' (Nat.le_succ _) ⟨by simp; omega, acc.toList, c, ha, by simpa using hnew⟩
  have es : s' = { s1 with heap := s'.heap, toks := s'.toks } := by cases s'; cases hg; cases hd; cases ho; rfl
  rw [es]
  exact ⟨_, _, I2, by simp; rfl, q _ (I1.hok.fresh (Nat.le_succ _))⟩
end L2
namespace L3
open PySem PySem.Spec PyProof.Rows L2
def dListRev (t : TA3) : TE3 := fun σ G q => t σ G fun ds G1 => match ds with
 | [.ref a] => (match seqOf (G1 a) with | some ds => ∀ p, G1 p = none → q (.ref p) (gup G1 p (.lst ds.reverse)) | none => False)
 | _ => False
theorem low_listRev {K : PySem.W.Frag} {t : TA3} {σ : L2.St} {H : Hp} {Q : VK} (h : lowE K (dListRev t) σ H Q) : tListRev K (lowA K t) σ H Q := by
 obtain ⟨σd, G, q, rs, c, t, f⟩ := h
 refine ⟨σd, G, _, rs, c, t, fun ds G1 vs H1 r1 c1 l1 t1 => ?_⟩
 split at t1
 ·rename_i a
  split at t1
  ·rename_i ds e
   obtain ⟨v, rfl, rv⟩ := r1.one
   cases rv.ref_inv
   obtain ⟨xs, s1, q1⟩ := sql_of c1 e
   exact ⟨a, xs, rfl, s1, fun p hp => f _ _ _ _ RelD.refI (c1.lstNew hp q1.reverse) (l1.trans (Le.fresh hp)) (t1 p (c1.fresh hp))⟩
  ·exact t1.elim
 ·exact t1.elim
theorem e_listRev {X : Cx} {a : Expr} {ts : TA3} {p p2 pos pos2 : Pos} {k : Nat} (hr : Room k X.A) (hg : Gl X "reversed") (hm : X.mg "reversed" = none) (hg2 : Gl X "list") (hm2 : X.mg "list" = none) (ha : A3 X [a] ts) (hs : starEach [a] X.env = [(false, eval a X.env)] := by rfl)
  (hs2 : starEach [.Call (.Name "reversed" p) [a] [] pos] X.env = [(false, eval (.Call (.Name "reversed" p) [a] [] pos) X.env)] := by rfl) :
  E3 X (.Call (.Name "list" p2) [.Call (.Name "reversed" p) [a] [] pos] [] pos2) (dListRev ts) := weakE (pe_listRev hr hg hm hg2 hm2 ha hs hs2) fun _ _ _ => low_listRev
end L3
namespace L3
open PySem PySem.Spec PyProof.Rows L2 Rw
noncomputable def stn (k m : Nat) : Bool := k == 0 || m.testBit (k - 1)
noncomputable def pc (b m : Nat) : Nat := (List.range b).countP fun i => m.testBit i
theorem pc_succ (b m : Nat) : pc (b + 1) m = m % 2 + pc b (m / 2) := by
 unfold pc
 rw [List.range_succ_eq_map, List.countP_cons, List.countP_map]
 have e : ((fun i => m.testBit i) ∘ Nat.succ) = fun i => (m / 2).testBit i := by
  funext i
  show m.testBit (i + 1) = _
  rw [Nat.testBit_succ]
 rw [e, Nat.testBit_zero]
 rcases Nat.mod_two_eq_zero_or_one m with h | h <;> simp [h] <;> omega
theorem pc_zero (b : Nat) : pc b 0 = 0 := by simp [pc]
theorem and_nat (a b : Nat) : Builtin.bitAnd (a : Int) (b : Int) = ((a &&& b : Nat) : Int) := by
 unfold Builtin.bitAnd
 simp
theorem or_nat (a b : Nat) : Builtin.bitOr (a : Int) (b : Int) = ((a ||| b : Nat) : Int) := by
 have h1 : ∀ x : Nat, ¬ (0 ≤ Builtin.bitNot (x : Int)) := fun x => by unfold Builtin.bitNot; omega
 have h2 : ∀ x : Int, Builtin.bitNot (Builtin.bitNot x) = x := fun x => by unfold Builtin.bitNot; omega
 unfold Builtin.bitOr Builtin.bitAnd
 simp only [h1, decide_false, h2, Int.toNat_natCast]
theorem and_pow (m i : Nat) : (Builtin.bitAnd (m : Int) (1 * 2 ^ i) = 0) ↔ m.testBit i = false := by
 have e : (1 * 2 ^ i : Int) = ((2 ^ i : Nat) : Int) := by simp
 rw [e, and_nat]
 have q : (m &&& 2 ^ i = 0) ↔ m.testBit i = false := by
  constructor
  ·intro h
   have := congrArg (fun x => Nat.testBit x i) h
   simpa [Nat.testBit_and, Nat.testBit_two_pow_self] using this
  ·intro h
   refine Nat.eq_of_testBit_eq fun j => ?_
   rw [Nat.testBit_and, Nat.zero_testBit, Nat.testBit_two_pow]
   by_cases hj : i = j
   ·subst hj; rw [h]; rfl
   ·simp [hj]
 rw [← q]
 omega
theorem shr_bit (m i : Nat) : (Builtin.bitAnd ((m : Int) / 2 ^ i) 1 = 1) ↔ m.testBit i = true := by
 have e : ((m : Int) / 2 ^ i) = ((m / 2 ^ i : Nat) : Int) := by simp
 have e1 : (1 : Int) = ((1 : Nat) : Int) := rfl
 rw [e, e1, and_nat, Nat.and_one_is_mod, Nat.testBit_eq_decide_div_mod_eq]
 simp
 omega
noncomputable def pD (p : Str × Int) : D := .tup [.str p.1, .int p.2]
def Src (G : Gp) (s a : Addr) : Prop := ∃ (ns : List Int) (x y : Int), G s = some (.lst [.ref a, .int x, .int y]) ∧ G a = some (.lst (ns.map .int)) ∧ 0 ≤ x ∧ s ≠ a
structure Ady (s a : Addr) (G G' : Gp) : Prop where
 at_ : Src G' s a
 kp : ∀ c o, c ≠ s → c ≠ a → G c = some o → G' c = some o
theorem Src.ne {G : Gp} {s a p : Addr} (h : Src G s a) (hp : G p = none) : p ≠ s ∧ p ≠ a := by
 obtain ⟨ns, x, y, h1, h2, _⟩ := h
 exact ⟨fun e => (by rw [e, h1] at hp; cases hp), fun e => (by rw [e, h2] at hp; cases hp)⟩
theorem Src.put {G : Gp} {s a p : Addr} {o : DO} (h : Src G s a) (hs : p ≠ s) (ha : p ≠ a) : Src (gup G p o) s a := by
 obtain ⟨ns, x, y, h1, h2, h3, h4⟩ := h
 exact ⟨ns, x, y, by rw [gup_ne (Ne.symm hs)]; exact h1, by rw [gup_ne (Ne.symm ha)]; exact h2, h3, h4⟩
theorem Src.grow {G G' : Gp} {s a : Addr} (h : Src G s a) (g : Grow G G') : Src G' s a := by
 obtain ⟨ns, x, y, h1, h2, h3⟩ := h
 exact ⟨ns, x, y, g.kp _ _ h1, g.kp _ _ h2, h3⟩
theorem Ady.trans {s a : Addr} {G G1 G2 : Gp} (h : Ady s a G G1) (k : Ady s a G1 G2) : Ady s a G G2 := ⟨k.at_, fun c o h1 h2 e => k.kp c o h1 h2 (h.kp c o h1 h2 e)⟩
theorem Ady.refl {s a : Addr} {G : Gp} (h : Src G s a) : Ady s a G G := ⟨h, fun _ _ _ _ e => e⟩
theorem Ady.new {s a p : Addr} {G G1 : Gp} {o : DO} (h : Ady s a G G1) (hp : G1 p = none) : Ady s a G (gup G1 p o) :=
 ⟨h.at_.put (h.at_.ne hp).1 (h.at_.ne hp).2, fun c u h1 h2 e => by rw [gup_ne (gne (h.kp c u h1 h2 e) hp)]; exact h.kp c u h1 h2 e⟩
theorem at2 {x y : Int} {t : Int} (h0 : 0 ≤ t) (h1 : t < 2) : atI [.int x, .int y] t = some (D.int (if t = 0 then x else y)) := by
 have : t = 0 ∨ t = 1 := by omega
 rcases this with e | e <;> subst e <;> rfl
theorem at_last (ns : List Int) (c : Int) : atI ((ns ++ [c]).map D.int) (-1) = some (.int c) := by
 unfold atI ixN
 rw [if_neg (by decide), if_pos (by simp; omega)]
 have e : (-1 + (((ns ++ [c]).map D.int).length : Int)).toNat = ns.length := by simp; omega
 rw [Option.bind_some, e]
 simp
theorem pop_last {G : Gp} {a : Addr} {ns : List Int} {c : Int} {q : DK} (h : G a = some (.lst ((ns ++ [c]).map .int))) : mPop0 (.ref a) [] G q = q (.int c) (gup G a (.lst (ns.map .int))) := by
 unfold mPop0
 simp only [h]
 simp
end L3
namespace L2
open PySem PySem.Spec PyProof.Rows
noncomputable abbrev IsZipO (h : Heap) (z TI TO T : Addr) (f : Bool) : Prop := h.get? z = some { cls := .type "zip", data := .fields #[rawInt (T : Int), .bool f, .bool false, .ref TI, .ref TO] }
theorem far {z t : Addr} {n : Nat} (a : z < n) (b : n ≤ t) : t ≠ z := Nat.ne_of_gt (Nat.lt_of_lt_of_le a b)
structure LzSt (l1 l2 z TI TO i1 i2 S : Addr) (xs ys : Array Value) (i : Nat) (h : Heap) : Prop where
 zz : IsZip h z TI TO .none ∨ ∃ T f oT, IsZipO h z TI TO T f ∧ h.get? T = some oT ∧ T ≠ z ∧ T ≠ TO ∧ T ≠ i1 ∧ T ≠ i2 ∧ T ≠ S
 ti : IsPair h TI (.ref i1) (.ref i2)
 to : ∃ u v, IsPair h TO u v
 h1 : h.IsListIter i1 l1 i
 h2 : h.IsListIter i2 l2 i
 m1 : h.IsList l1 xs
 m2 : h.IsList l2 ys
structure LzTs (n0 : Nat) (xs ys : Array Value) (h : Heap) (ts : List Addr) : Prop where
 nd : ts.Nodup
 at_ : ∀ (j : Nat) (t : Addr), ts[j]? = some t → n0 ≤ t ∧ ∃ x y, xs[j]? = some x ∧ ys[j]? = some y ∧ IsPair h t x y
end L2
namespace L3
open PySem PySem.Spec PyProof.Rows L2
end L3
namespace L3
open PySem PySem.Spec PyProof.Rows L2
section
variable {X : Cx} {o : Expr} {to : TE3} {apos cpos : Pos}
def xInv : U3 := fun x G q => match x with | .int i => q (.int (Builtin.bitNot i)) G | _ => False
theorem x_inv : UnR X (unaryOp .Invert) (lowU X.K xInv) := weakUn un_inv <| by
 rintro x H Q ⟨d, G, q, r1, c, t, f⟩
 unfold xInv at t
 split at t
 ·exact ⟨_, r1.int_inv, f _ _ _ _ RelD.intI c (Le.refl H) t⟩
 ·exact t.elim
end
end L3
namespace L3
open PySem PySem.Spec PyProof.Rows L2 Rw
noncomputable abbrev Mv := Bool × Nat
noncomputable def mP (p : Mv) : Str × Int := (if p.1 then "lay" else "clear", (p.2 : Int))
noncomputable def mD (p : Mv) : D := pD (mP p)
noncomputable def nD (x : Nat) : D := .int (x : Int)
noncomputable def stb (k m : Nat) : Bool := m.testBit (k - 1)
noncomputable def xr (m k : Nat) : Nat := m ^^^ 2 ^ (k - 1)
noncomputable def hi (m : Nat) : Nat := if m = 0 then 0 else m.log2 + 1
theorem or_xr {m i : Nat} (h : m.testBit i = false) : m ||| 2 ^ i = m ^^^ 2 ^ i := Nat.eq_of_testBit_eq fun j => by
 rw [Nat.testBit_or, Nat.testBit_xor, Nat.testBit_two_pow]
 by_cases e : i = j
 ·subst e; rw [h]; simp
 ·simp [e]
theorem or_set {m i : Nat} (h : m.testBit i = true) : m ||| 2 ^ i = m := Nat.eq_of_testBit_eq fun j => by
 rw [Nat.testBit_or, Nat.testBit_two_pow]
 by_cases e : i = j
 ·subst e; rw [h]; rfl
 ·simp [e]
theorem and_set {m i : Nat} (h : m.testBit i = true) : m &&& 2 ^ i = 2 ^ i := Nat.eq_of_testBit_eq fun j => by
 rw [Nat.testBit_and, Nat.testBit_two_pow]
 by_cases e : i = j
 ·subst e; rw [h]; rfl
 ·simp [e]
theorem and_no {m i : Nat} (h : m.testBit i = false) : m &&& 2 ^ i = 0 := Nat.eq_of_testBit_eq fun j => by
 rw [Nat.testBit_and, Nat.testBit_two_pow, Nat.zero_testBit]
 by_cases e : i = j
 ·subst e; rw [h]; rfl
 ·simp [e]
theorem xr_add : ∀ {i m : Nat}, m.testBit i = true → (m ^^^ 2 ^ i) + 2 ^ i = m
 | 0, m, h => by
  have h1 : m % 2 = 1 := by rw [Nat.testBit_zero] at h; simpa using h
  have h2 : (m ^^^ 1) / 2 = m / 2 := by rw [Nat.xor_div_two]; simp
  have h3 : (m ^^^ 1) % 2 = 0 := by
   have : (m ^^^ 1).testBit 0 = false := by rw [Nat.testBit_xor, h]; rfl
   rw [Nat.testBit_zero] at this
   have := of_decide_eq_false this
   omega
  show (m ^^^ 1) + 1 = m
  omega
 | i + 1, m, h => by
  have h0 : (m / 2).testBit i = true := by rw [← Nat.testBit_succ]; exact h
  have ih := xr_add h0
  have e1 : 2 ^ (i + 1) / 2 = 2 ^ i := by rw [Nat.pow_succ]; omega
  have h2 : (m ^^^ 2 ^ (i + 1)) / 2 = m / 2 ^^^ 2 ^ i := by rw [Nat.xor_div_two, e1]
  have h3 : (m ^^^ 2 ^ (i + 1)) % 2 = m % 2 := by
   have a : (m ^^^ 2 ^ (i + 1)).testBit 0 = m.testBit 0 := by
    rw [Nat.testBit_xor, Nat.testBit_two_pow]
    simp
   rw [Nat.testBit_zero, Nat.testBit_zero] at a
   have b := decide_eq_decide.mp a
   omega
  rw [Nat.pow_succ] at h2 h3 ⊢
  omega
theorem xor_int (m i : Nat) : Builtin.bitXor (m : Int) (1 * 2 ^ i) = ((m ^^^ 2 ^ i : Nat) : Int) := by
 have e : (1 * 2 ^ i : Int) = ((2 ^ i : Nat) : Int) := by simp
 unfold Builtin.bitXor
 rw [e, or_nat, and_nat]
 cases h : m.testBit i with
 | true =>
  rw [or_set h, and_set h]
  have := xr_add h
  omega
 | false =>
  rw [or_xr h, and_no h]
  simp
theorem clr_int {m i : Nat} (h : m.testBit i = true) : Builtin.bitAnd (m : Int) (Builtin.bitNot (1 * 2 ^ i)) = ((m ^^^ 2 ^ i : Nat) : Int) := by
 have e : (1 * 2 ^ i : Int) = ((2 ^ i : Nat) : Int) := by simp
 have h0 : (0 : Int) ≤ ((2 ^ i : Nat) : Int) := Int.natCast_nonneg _
 have h1 : ¬ (0 ≤ Builtin.bitNot ((2 ^ i : Nat) : Int)) := by unfold Builtin.bitNot; omega
 have h2 : Builtin.bitNot (Builtin.bitNot ((2 ^ i : Nat) : Int)) = ((2 ^ i : Nat) : Int) := by unfold Builtin.bitNot; omega
 rw [e]
 unfold Builtin.bitAnd
 simp only [h1, decide_false, h2, Int.natCast_nonneg, decide_true, Int.toNat_natCast]
 rw [and_set h]
 have := xr_add h
 omega
theorem lay_int {m i : Nat} (h : m.testBit i = false) : Builtin.bitOr (m : Int) (1 * 2 ^ i) = ((m ^^^ 2 ^ i : Nat) : Int) := by
 have e : (1 * 2 ^ i : Int) = ((2 ^ i : Nat) : Int) := by simp
 rw [e, or_nat, or_xr h]
theorem lt_hi (m : Nat) : m < 2 ^ hi m := by
 unfold hi
 by_cases h : m = 0
 ·subst h; simp
 ·rw [if_neg h]; exact Nat.lt_log2_self
def okw : Nat → List Mv → Prop
 | _, [] => True
 | m, p :: r => (1 ≤ p.2 ∧ p.2 ≤ 900) ∧ p.1 = !stb p.2 m ∧ okw (xr m p.2) r
noncomputable def fin : Nat → List Mv → Nat
 | m, [] => m
 | m, p :: r => fin (xr m p.2) r
noncomputable def low : Nat → List Mv → Nat
 | m, [] => hi m
 | m, p :: r => min (low (xr m p.2) r) (hi m)
noncomputable def thw : Nat → List Mv → List Mv
 | _, [] => []
 | m, p :: r => if p.2 ≤ low (xr m p.2) r then p :: thw (xr m p.2) r else thw (xr m p.2) r
noncomputable def once (w : List Mv) : List Mv := thw 0 w
noncomputable def sbh : Nat → List Mv → List Nat
 | _, [] => []
 | m, p :: r => xr m p.2 :: sbh (xr m p.2) r
theorem fin_app : ∀ {l r : List Mv} {m : Nat}, fin m (l ++ r) = fin (fin m l) r
 | [], _, _ => rfl
 | p :: l, r, m => by show fin (xr m p.2) (l ++ r) = _; rw [fin_app]; rfl
theorem sbh_len : ∀ {w : List Mv} {m : Nat}, (sbh m w).length = w.length
 | [], _ => rfl
 | p :: r, m => by show (sbh _ r).length + 1 = r.length + 1; rw [sbh_len]
theorem sbh_app : ∀ {l r : List Mv} {m : Nat}, sbh m (l ++ r) = sbh m l ++ sbh (fin m l) r
 | [], _, _ => rfl
 | p :: l, r, m => by show _ :: sbh (xr m p.2) (l ++ r) = _; rw [sbh_app]; rfl
theorem low_le : ∀ {w : List Mv} {m k : Nat}, k ≤ low m w ↔ ∀ x ∈ m :: sbh m w, k ≤ hi x
 | [], m, k => by simp [low, sbh]
 | p :: r, m, k => by
  have ih := low_le (w := r) (m := xr m p.2) (k := k)
  show k ≤ min (low (xr m p.2) r) (hi m) ↔ ∀ x ∈ m :: xr m p.2 :: sbh (xr m p.2) r, k ≤ hi x
  rw [Nat.le_min, ih]
  constructor
  ·rintro ⟨h1, h2⟩ x hx
   rcases List.mem_cons.mp hx with e | e
   ·subst e; exact h2
   ·exact h1 x e
  ·intro h
   exact ⟨fun x hx => h x (List.mem_cons_of_mem _ hx), h m (by simp)⟩
theorem thw_sub : ∀ {w : List Mv} {m : Nat}, (thw m w).Sublist w
 | [], _ => .slnil
 | p :: r, m => by
  rw [thw]
  split
  ·exact thw_sub.cons₂ _
  ·exact thw_sub.cons _
theorem mod_min {m l : Nat} : m % 2 ^ (min l (hi m)) = m % 2 ^ l := by
 rcases Nat.le_total l (hi m) with h | h
 ·rw [Nat.min_eq_left h]
 ·rw [Nat.min_eq_right h, Nat.mod_eq_of_lt (lt_hi m), Nat.mod_eq_of_lt (Nat.lt_of_lt_of_le (lt_hi m) (Nat.pow_le_pow_right (by decide) h))]
theorem xr_mod {m k l : Nat} (h1 : 1 ≤ k) (h : k ≤ l) : xr (m % 2 ^ l) k = xr m k % 2 ^ l := Nat.eq_of_testBit_eq fun j => by
 unfold xr
 rw [Nat.testBit_xor, Nat.testBit_mod_two_pow, Nat.testBit_mod_two_pow, Nat.testBit_xor, Nat.testBit_two_pow]
 by_cases e : k - 1 = j
 ·have : j < l := by omega
  simp [e, this]
 ·simp [e]
theorem xr_mod2 {m k l : Nat} (h : l < k) : m % 2 ^ l = xr m k % 2 ^ l := Nat.eq_of_testBit_eq fun j => by
 unfold xr
 rw [Nat.testBit_mod_two_pow, Nat.testBit_mod_two_pow, Nat.testBit_xor, Nat.testBit_two_pow]
 by_cases e : k - 1 = j
 ·have : ¬ j < l := by omega
  simp [this]
 ·simp [e]
theorem stb_mod {m k l : Nat} (h1 : 1 ≤ k) (h : k ≤ l) : stb k (m % 2 ^ l) = stb k m := by
 unfold stb
 rw [Nat.testBit_mod_two_pow]
 have : k - 1 < l := by omega
 simp [this]
theorem okw_thw : ∀ {w : List Mv} {m : Nat}, okw m w → okw (m % 2 ^ low m w) (thw m w)
 | [], _, _ => trivial
 | p :: r, m, ⟨h1, h2, h3⟩ => by
  have ih := okw_thw h3
  show okw (m % 2 ^ min (low (xr m p.2) r) (hi m)) (if p.2 ≤ low (xr m p.2) r then p :: thw (xr m p.2) r else thw (xr m p.2) r)
  rw [mod_min]
  split
  ·rename_i hk
   refine ⟨h1, by rw [stb_mod h1.1 hk]; exact h2, ?_⟩
   rw [xr_mod h1.1 hk]
   exact ih
  ·rename_i hk
   rw [xr_mod2 (by omega : low (xr m p.2) r < p.2)]
   exact ih
theorem okw_once {w : List Mv} (h : okw 0 w) : okw 0 (once w) := by
 have := okw_thw h
 rw [Nat.zero_mod] at this
 exact this
theorem once_len (w : List Mv) : (once w).length ≤ w.length := thw_sub.length_le
theorem once_fix {w : List Mv} (h : (once w).length = w.length) : once w = w := thw_sub.eq_of_length h
noncomputable def itn : Nat → List Mv → List Mv
 | 0, w => w
 | n + 1, w => once (itn n w)
theorem okw_itn {w : List Mv} (h : okw 0 w) : ∀ n, okw 0 (itn n w)
 | 0 => h
 | n + 1 => okw_once (okw_itn h n)
theorem itn_len {w : List Mv} : ∀ n, (itn n w).length ≤ w.length
 | 0 => Nat.le_refl _
 | n + 1 => Nat.le_trans (once_len _) (itn_len n)
def Fx (w x : List Mv) : Prop := (∃ n, x = itn n w) ∧ once x = x
theorem Fx.self {w x : List Mv} (h : Fx w x) : Fx x x := ⟨⟨0, rfl⟩, h.2⟩
theorem Fx.ok {w x : List Mv} (h : Fx w x) (hw : okw 0 w) : okw 0 x := by obtain ⟨⟨a, rfl⟩, _⟩ := h; exact okw_itn hw a
theorem Fx.len {w x : List Mv} (h : Fx w x) : x.length ≤ w.length := by obtain ⟨⟨a, rfl⟩, _⟩ := h; exact itn_len a
theorem at_getD {α : Type} {xs : List α} {v : Int} (h0 : 0 ≤ v) (h1 : v < (xs.length : Int)) : ∃ x, x ∈ xs ∧ atI xs v = some x := by
 have h2 : v.toNat < xs.length := by omega
 refine ⟨xs[v.toNat], List.getElem_mem _, ?_⟩
 unfold atI ixN
 rw [if_pos h0, if_pos h1, Option.bind_some, List.getElem?_eq_getElem h2]
noncomputable def hD (x : Nat) : D := nD (hi x)
theorem thw_len {w : List Mv} {m : Nat} : (thw m w).length ≤ w.length := thw_sub.length_le
end L3
namespace L2
open PySem PySem.Spec PyProof.Rows
section
variable {X : Cx}
end
end L2
namespace L3
open PySem PySem.Spec PyProof.Rows L2
section
variable {X : Cx} {K : PySem.W.Frag} {H : Hp}
theorem snap_pD {G : Gp} {p : Str × Int} : snap G 1 (pD p) = some (.tup [.str p.1, .int p.2]) := rfl
theorem eqN_pD {p p' : Str × Int} : eqN 1 (.tup [.str p.1, .int p.2]) (.tup [.str p'.1, .int p'.2]) = some (decide (p = p')) := by
 have e : eqN 1 (.tup [.str p.1, .int p.2]) (.tup [.str p'.1, .int p'.2]) = some ((p.1 == p'.1) && ((p.2 == p'.2) && true)) := rfl
 rw [e, Option.some.injEq, Bool.eq_iff_iff, Bool.and_eq_true, Bool.and_eq_true, beq_iff_eq, beq_iff_eq, decide_eq_true_iff, Prod.ext_iff]
 simp
theorem relV_inj {x y : V} {u : Value} (h1 : RelV x u) (h2 : RelV y u) (hx : ∃ a, x = .ref a) : y = x := by
 obtain ⟨a, rfl⟩ := hx
 have h1 : u = Value.ref a := h1
 subst h1
 cases y with
 | ref b => have h2 : Value.ref a = Value.ref b := h2; cases h2; rfl
 | non => have h2 : Value.ref a = Value.none := h2; cases h2
 | bl b => have h2 : Value.ref a = Value.bool b := h2; cases h2
 | int i => obtain ⟨t, h2⟩ := h2; cases h2
 | str i => obtain ⟨t, h2⟩ := h2; cases h2
 | byt i => obtain ⟨t, h2⟩ := h2; cases h2
 | flt i => obtain ⟨t, h2⟩ := h2; cases h2
 | ty n => have h2 : Value.ref a = Value.type n := h2; cases h2
@[reducible] def xInP (neg : Bool) : R3 := fun x y G q => ∃ (p : Str × Int) (ps : List (Str × Int)) (a : Addr), x = pD p ∧ y = .ref a ∧ seqOf (G a) = some (ps.map pD) ∧ q (.bl (if neg then !decide (p ∈ ps) else decide (p ∈ ps))) G
theorem in_key {pins : List (Addr × Obj)} {σ : L2.St} {s : Shared} {G : Gp} (I : Inv X pins σ H s) (c : Con X.K G H) {A : Around} {p : Str × Int} {x : V} {v : Value} (r1 : RelD X.K H (pD p) x) (rx : RelV x v) (hA : A.units + 1 < cLine) :
  ∃ ev : Value → Bool, ∀ (ps : List (Str × Int)) (xs : List V) (its : List Value), RelDs X.K H (ps.map pD) xs → Vals xs its → (∀ u ∈ its, SeqAt.EqAt A s u v (ev u)) ∧ its.any ev = decide (p ∈ ps) := by
 classical
 refine ⟨fun u => decide (∃ y, RelV y u ∧ RelD X.K H (pD p) y), fun ps => ?_⟩
 induction ps with
 | nil =>
  intro xs its q r
  have := q.inv_nil
  subst this
  cases r
  exact ⟨fun u hu => by simp at hu, by simp⟩
 | cons p' ps ih =>
  intro xs its q r
  obtain ⟨y, ys, rfl, q1, q2⟩ := q.inv_cons
  cases r with
  | cons rv rs =>
   rename_i u us
   obtain ⟨i1, i2⟩ := ih ys us q2 rs
   have key : decide (∃ y, RelV y u ∧ RelD X.K H (pD p) y) = decide (p' = p) := by
    rw [Bool.eq_iff_iff, decide_eq_true_iff, decide_eq_true_iff]
    constructor
    ·rintro ⟨z, z1, z2⟩
     obtain ⟨a, xs', rfl, _, _⟩ := q1.tup_inv
     have := relV_inj rv z1 ⟨a, rfl⟩
     subst this
     have e := same_eq I c 1 (pD p') (pD p) _ _ _ _ q1 z2 snap_pD snap_pD eqN_pD
     exact of_decide_eq_true e
    ·rintro rfl
     exact ⟨y, rv, q1⟩
   refine ⟨fun u' hu => ?_, ?_⟩
   ·rcases List.mem_cons.mp hu with e | hu
    ·subst e
     show SeqAt.EqAt A s u' v (decide (∃ y, RelV y u' ∧ RelD X.K H (pD p) y))
     rw [key]
     exact eq_at I c 1 A (pD p') (pD p) y x u' v _ _ _ q1 rv r1 rx snap_pD snap_pD eqN_pD hA
    ·exact i1 u' hu
   ·rw [List.any_cons, i2, key, Bool.eq_iff_iff, Bool.or_eq_true, decide_eq_true_iff, decide_eq_true_iff, decide_eq_true_iff, List.mem_cons]
    exact ⟨fun z => z.imp Eq.symm id, fun z => z.imp Eq.symm id⟩
theorem x_inP {k : Nat} (hr : Room k X.A) : Op3 X (compareOp .In) (xInP false) := by
 intro pins s σ H x y v u Q I rx ry h
 obtain ⟨d, e, G, q, r1, r2, c, ⟨p, ps, a, rfl, rfl, hs, hq⟩, f⟩ := h
 cases r2.ref_inv
 cases ry
 obtain ⟨xs, s1, q1⟩ := sql_of c hs
 obtain ⟨its, r', pl, hz⟩ := I.list s1
 have hu := hr.units
 obtain ⟨ev, hev⟩ := in_key I c (A := X.A.in1) r1 rx (by show X.A.units + 1 + 1 < cLine; omega)
 obtain ⟨e1, e2⟩ := hev ps xs its q1 r'
 refine SeqAt.in_listAt ev pl.isList (fun w hw => e1 w (by simpa using hw)) ⟨.bl (decide (p ∈ ps)), H, I, ?_, f _ _ _ _ RelD.blI c (Le.refl H) hq⟩
 show Value.bool (its.toArray.any ev) = Value.bool (decide (p ∈ ps))
 rw [show its.toArray.any ev = its.any ev by simp, e2]
theorem x_notInP {k : Nat} (hr : Room k X.A) : Op3 X (compareOp .NotIn) (xInP true) := by
 intro pins s σ H x y v u Q I rx ry h
 obtain ⟨d, e, G, q, r1, r2, c, ⟨p, ps, a, rfl, rfl, hs, hq⟩, f⟩ := h
 cases r2.ref_inv
 cases ry
 obtain ⟨xs, s1, q1⟩ := sql_of c hs
 obtain ⟨its, r', pl, hz⟩ := I.list s1
 have hu := hr.units
 obtain ⟨ev, hev⟩ := in_key I c (A := X.A.in1) r1 rx (by show X.A.units + 1 + 1 < cLine; omega)
 obtain ⟨e1, e2⟩ := hev ps xs its q1 r'
 refine SeqAt.notIn_listAt ev pl.isList (fun w hw => e1 w (by simpa using hw)) ⟨.bl (!decide (p ∈ ps)), H, I, ?_, f _ _ _ _ RelD.blI c (Le.refl H) hq⟩
 show Value.bool (!its.toArray.any ev) = Value.bool (!decide (p ∈ ps))
 rw [show its.toArray.any ev = its.any ev by simp, e2]
end
end L3
namespace L2
open PySem PySem.Spec PyProof.Rows
structure BlkOkC (X : Cx) (N' : List Str) (ix : List (Option Nat)) (scope : Scope) : Prop where
 kind : scope.kind = .function
 own : ∀ y ∈ scope.names, scope.names.lookup y.1 = some y.2
 frees : ∀ y ∈ scope.names, y.2 = .free → X.env.kindOf y.1 = some .cell ∨ X.env.kindOf y.1 = some .free
 len : ix.length = N'.length
 at_ : ∀ (i j : Nat) (x : Str), N'[i]? = some x → ix[i]? = some (some j) → X.N[j]? = some x ∧ scope.names.lookup x = some .free
section
variable {X : Cx} {pins : List (Addr × Obj)} {σ : L2.St} {H : Hp} {s : Shared}
variable {elt tg iter : Expr} {ifs : List Expr} {scope : Scope} {pos : Pos} {N' : List Str} {ix : List (Option Nat)} {wi : TI} {g : TG} {tc : TT} {te : TE}
end
end L2
namespace L3
open PySem PySem.Spec PyProof.Rows L2
end L3
namespace L3
open PySem PySem.Spec PyProof.Rows L2 Rw
noncomputable def cnt : Nat → Nat → Nat
 | 0, _ => 0
 | n + 1, m => cnt n m + (if m.testBit n then 1 else 0)
theorem cnt_le : ∀ {n m : Nat}, cnt n m ≤ n
 | 0, _ => Nat.le_refl _
 | n + 1, m => by
  have := @cnt_le n m
  rw [cnt]
  split <;> omega
theorem cnt_mono : ∀ {n m m' : Nat}, (∀ i, m.testBit i = true → m'.testBit i = true) → cnt n m ≤ cnt n m'
 | 0, _, _, _ => Nat.le_refl _
 | n + 1, m, m', h => by
  have ih := cnt_mono (n := n) h
  rw [cnt, cnt]
  cases e : m.testBit n with
  | true => rw [h n e]; simp; omega
  | false => simp; omega
theorem cnt_mod {n m l : Nat} : cnt n (m % 2 ^ l) ≤ cnt n m := cnt_mono fun i h => by
 rw [Nat.testBit_mod_two_pow] at h
 simp at h
 exact h.2
theorem cnt_same : ∀ {n m m' : Nat}, (∀ i, i < n → m.testBit i = m'.testBit i) → cnt n m = cnt n m'
 | 0, _, _, _ => rfl
 | n + 1, m, m', h => by
  rw [cnt, cnt, cnt_same (n := n) fun i hi => h i (by omega), h n (by omega)]
theorem xr_bit {m k j : Nat} : (xr m k).testBit j = (m.testBit j ^^ decide (k - 1 = j)) := by
 unfold xr
 rw [Nat.testBit_xor, Nat.testBit_two_pow]
theorem cnt_up : ∀ {n m k : Nat}, 1 ≤ k → k ≤ n → stb k m = false → cnt n (xr m k) = cnt n m + 1
 | 0, _, _, h1, h2, _ => by omega
 | n + 1, m, k, h1, h2, h => by
  unfold stb at h
  by_cases e : k - 1 = n
  ·subst e
   have e1 : cnt (k - 1) (xr m k) = cnt (k - 1) m := cnt_same fun i hi => by
    have : ¬ (k - 1 = i) := by omega
    rw [xr_bit]; simp [this]
   rw [cnt, cnt, e1, xr_bit, h]
   simp
  ·have ih := cnt_up (n := n) (m := m) h1 (by omega) h
   rw [cnt, cnt, ih, xr_bit]
   simp [e]
   omega
theorem cnt_down : ∀ {n m k : Nat}, 1 ≤ k → k ≤ n → stb k m = true → cnt n (xr m k) + 1 = cnt n m
 | 0, _, _, h1, h2, _ => by omega
 | n + 1, m, k, h1, h2, h => by
  unfold stb at h
  by_cases e : k - 1 = n
  ·subst e
   have e1 : cnt (k - 1) (xr m k) = cnt (k - 1) m := cnt_same fun i hi => by
    have : ¬ (k - 1 = i) := by omega
    rw [xr_bit]; simp [this]
   rw [cnt, cnt, e1, xr_bit, h]
   simp
  ·have ih := cnt_down (n := n) (m := m) h1 (by omega) h
   rw [cnt, cnt, xr_bit]
   simp [e]
   omega
def lgl (n s m : Nat) (p : Mv) : Prop := (1 ≤ p.2 ∧ p.2 ≤ n) ∧ (p.2 = 1 ∨ m.testBit (p.2 - 2) = true) ∧ p.1 = (!stb p.2 m) ∧ (p.1 = true → cnt n m < s)
def lgw (n s : Nat) : Nat → List Mv → Prop
 | _, [] => True
 | m, p :: r => lgl n s m p ∧ lgw n s (xr m p.2) r
theorem lgw_app {n s : Nat} : ∀ {l r : List Mv} {m : Nat}, lgw n s m (l ++ r) ↔ lgw n s m l ∧ lgw n s (fin m l) r
 | [], r, m => by show lgw n s m r ↔ True ∧ lgw n s m r; simp
 | p :: l, r, m => by
  show lgl n s m p ∧ lgw n s (xr m p.2) (l ++ r) ↔ (lgl n s m p ∧ lgw n s (xr m p.2) l) ∧ lgw n s (fin (xr m p.2) l) r
  rw [lgw_app, and_assoc]
theorem lgw_ok {n s : Nat} (hn : n ≤ 900) : ∀ {w : List Mv} {m : Nat}, lgw n s m w → okw m w
 | [], _, _ => trivial
 | p :: r, m, ⟨⟨h1, h2, h3, h4⟩, h5⟩ => ⟨⟨h1.1, by omega⟩, h3, lgw_ok hn h5⟩
theorem lgw_thw {n s : Nat} : ∀ {w : List Mv} {m : Nat}, lgw n s m w → lgw n s (m % 2 ^ low m w) (thw m w)
 | [], _, _ => trivial
 | p :: r, m, ⟨⟨h1, h2, h3, h4⟩, h5⟩ => by
  have ih := lgw_thw h5
  show lgw n s (m % 2 ^ min (low (xr m p.2) r) (hi m)) (if p.2 ≤ low (xr m p.2) r then p :: thw (xr m p.2) r else thw (xr m p.2) r)
  rw [mod_min]
  split
  ·rename_i hk
   refine ⟨⟨h1, ?_, by rw [stb_mod h1.1 hk]; exact h3, fun e => Nat.lt_of_le_of_lt cnt_mod (h4 e)⟩, ?_⟩
   ·rcases h2 with h2 | h2
    ·exact .inl h2
    ·right
     rw [Nat.testBit_mod_two_pow, h2]
     simp
     omega
   ·rw [xr_mod h1.1 hk]
    exact ih
  ·rename_i hk
   rw [xr_mod2 (by omega : low (xr m p.2) r < p.2)]
   exact ih
theorem fin_thw : ∀ {w : List Mv} {m : Nat}, okw m w → fin (m % 2 ^ low m w) (thw m w) = fin m w
 | [], m, _ => by
  show m % 2 ^ hi m = m
  exact Nat.mod_eq_of_lt (lt_hi m)
 | p :: r, m, ⟨h1, _, h5⟩ => by
  have ih := fin_thw h5
  show fin (m % 2 ^ min (low (xr m p.2) r) (hi m)) (if p.2 ≤ low (xr m p.2) r then p :: thw (xr m p.2) r else thw (xr m p.2) r) = fin (xr m p.2) r
  rw [mod_min]
  split
  ·rename_i hk
   show fin (xr (m % 2 ^ low (xr m p.2) r) p.2) (thw (xr m p.2) r) = _
   rw [xr_mod h1.1 hk]
   exact ih
  ·rename_i hk
   rw [xr_mod2 (by omega : low (xr m p.2) r < p.2)]
   exact ih
theorem sets_thw : ∀ {w : List Mv} {m : Nat}, okw m w → ∀ x, x ∈ (m % 2 ^ low m w) :: sbh (m % 2 ^ low m w) (thw m w) → ∃ y l, y ∈ m :: sbh m w ∧ x = y % 2 ^ l
 | [], m, _, x, hx => by
  have : x = m % 2 ^ low m [] := by simpa [thw, sbh] using hx
  exact ⟨m, _, by simp, this⟩
 | p :: r, m, ⟨h1, _, h5⟩, x, hx => by
  have ih := sets_thw h5
  have e : low m (p :: r) = min (low (xr m p.2) r) (hi m) := rfl
  rw [e, mod_min] at hx
  rw [thw] at hx
  split at hx
  ·rename_i hk
   rcases List.mem_cons.mp hx with hx | hx
   ·exact ⟨m, _, by simp, hx⟩
   ·have hx : x ∈ xr (m % 2 ^ low (xr m p.2) r) p.2 :: sbh (xr (m % 2 ^ low (xr m p.2) r) p.2) (thw (xr m p.2) r) := hx
    rw [xr_mod h1.1 hk] at hx
    obtain ⟨y, l, hy, e⟩ := ih x hx
    exact ⟨y, l, List.mem_cons_of_mem _ hy, e⟩
  ·rename_i hk
   rw [xr_mod2 (by omega : low (xr m p.2) r < p.2)] at hx
   obtain ⟨y, l, hy, e⟩ := ih x hx
   exact ⟨y, l, List.mem_cons_of_mem _ hy, e⟩
structure Thn (n s : Nat) (w x : List Mv) : Prop where
 leg : lgw n s 0 x
 fin : fin 0 x = fin 0 w
 sub : x.Sublist w
 cnt : ∀ a ∈ 0 :: sbh 0 x, ∃ b ∈ 0 :: sbh 0 w, cnt 24 a ≤ cnt 24 b
theorem Thn.once {n s : Nat} {w x : List Mv} (hn : n ≤ 900) (h : Thn n s w x) : Thn n s w (once x) := by
 have ok := lgw_ok hn h.leg
 have z : 0 % 2 ^ low 0 x = 0 := Nat.zero_mod _
 refine ⟨?_, ?_, thw_sub.trans h.sub, fun a ha => ?_⟩
 ·have := lgw_thw h.leg
  rw [z] at this; exact this
 ·have := fin_thw ok
  rw [z] at this
  exact this.trans h.fin
 ·have := sets_thw ok a
  rw [z] at this
  obtain ⟨y, l, hy, rfl⟩ := this ha
  obtain ⟨b, hb, e⟩ := h.cnt y hy
  exact ⟨b, hb, Nat.le_trans cnt_mod e⟩
theorem Thn.itn {n s : Nat} {w : List Mv} (hn : n ≤ 900) (h : lgw n s 0 w) : ∀ k, Thn n s w (itn k w)
 | 0 => ⟨h, rfl, List.Sublist.refl _, fun a ha => ⟨a, ha, Nat.le_refl _⟩⟩
 | k + 1 => (Thn.itn hn h k).once hn
theorem Fx.thn {n s : Nat} {w x : List Mv} (hn : n ≤ 900) (h : lgw n s 0 w) (f : Fx w x) : Thn n s w x := by
 obtain ⟨⟨k, rfl⟩, _⟩ := f
 exact Thn.itn hn h k
def nrm : Nat → List Mv → Prop
 | _, [] => True
 | m, p :: r => p.2 ≤ low (xr m p.2) r ∧ nrm (xr m p.2) r
theorem nrm_of : ∀ {w : List Mv} {m : Nat}, thw m w = w → nrm m w
 | [], _, _ => trivial
 | p :: r, m, h => by
  rw [thw] at h
  split at h
  ·rename_i hk
   exact ⟨hk, nrm_of (List.cons.inj h).2⟩
  ·have := thw_len (w := r) (m := xr m p.2)
   rw [h, List.length_cons] at this
   omega
theorem hi_top {m : Nat} (h : 0 < hi m) : m.testBit (hi m - 1) = true := by
 have h0 : m ≠ 0 := fun e => by subst e; simp [hi] at h
 unfold hi
 rw [if_neg h0]
 show m.testBit m.log2 = true
 exact Nat.testBit_log2 h0
theorem fin_mem : ∀ {w : List Mv} {m : Nat}, fin m w ∈ m :: sbh m w
 | [], m => by simp [fin]
 | p :: r, m => List.mem_cons_of_mem _ (fin_mem (w := r) (m := xr m p.2))
theorem sbh_lt {n : Nat} : ∀ {w : List Mv} {m : Nat}, m < 2 ^ n → (∀ p ∈ w, 1 ≤ p.2 ∧ p.2 ≤ n) → ∀ x ∈ m :: sbh m w, x < 2 ^ n
 | [], m, h, _, x, hx => by
  have : x = m := by simpa [sbh] using hx
  subst this; exact h
 | p :: r, m, h, hw, x, hx => by
  rcases List.mem_cons.mp hx with e | hx
  ·subst e; exact h
  ·refine sbh_lt (m := xr m p.2) ?_ (fun q hq => hw q (List.mem_cons_of_mem _ hq)) x hx
   have := hw p (by simp)
   exact Nat.xor_lt_two_pow h (Nat.pow_lt_pow_right (by decide) (by omega))
theorem lgw_mem {n s : Nat} : ∀ {w : List Mv} {m : Nat}, lgw n s m w → ∀ p ∈ w, 1 ≤ p.2 ∧ p.2 ≤ n
 | [], _, _, p, hp => by simp at hp
 | q :: r, m, ⟨h1, h2⟩, p, hp => by
  rcases List.mem_cons.mp hp with e | hp
  ·subst e; exact h1.1
  ·exact lgw_mem h2 p hp
noncomputable def bkw (w : List Mv) : List Mv := (w.map fun p => (!p.1, p.2)).reverse
theorem stb_xr {m k : Nat} : stb k (xr m k) = !stb k m := by
 unfold stb
 rw [xr_bit]
 simp
theorem xr_xr {m k : Nat} : xr (xr m k) k = m := Nat.eq_of_testBit_eq fun j => by
 rw [xr_bit, xr_bit]
 cases m.testBit j <;> cases decide (k - 1 = j) <;> rfl
theorem lgw_cnt {n s : Nat} : ∀ {w : List Mv} {m : Nat}, cnt n m ≤ s → lgw n s m w → cnt n (fin m w) ≤ s
 | [], _, h, _ => h
 | p :: r, m, h, ⟨⟨h1, _, h3, h4⟩, h5⟩ => by
  refine lgw_cnt (m := xr m p.2) ?_ h5
  cases e : stb p.2 m with
  | true => have := cnt_down h1.1 h1.2 e; omega
  | false =>
   rw [e] at h3
   rw [cnt_up h1.1 h1.2 e]
   exact h4 h3
theorem lgw_bkw {n s : Nat} : ∀ {w : List Mv} {m : Nat}, cnt n m ≤ s → lgw n s m w → lgw n s (fin m w) (bkw w) ∧ fin (fin m w) (bkw w) = m
 | [], _, _, _ => ⟨trivial, rfl⟩
 | p :: r, m, h, ⟨⟨h1, h2, h3, h4⟩, h5⟩ => by
  have hc : cnt n (xr m p.2) ≤ s := by
   cases e : stb p.2 m with
   | true => have := cnt_down h1.1 h1.2 e; omega
   | false =>
    rw [e] at h3
    rw [cnt_up h1.1 h1.2 e]
    exact h4 h3
  obtain ⟨i1, i2⟩ := lgw_bkw hc h5
  have e : bkw (p :: r) = bkw r ++ [(!p.1, p.2)] := by unfold bkw; rw [List.map_cons, List.reverse_cons]
  have ef : fin m (p :: r) = fin (xr m p.2) r := rfl
  rw [e, ef, lgw_app, fin_app, i2]
  refine ⟨⟨i1, ⟨h1, ?_, ?_, fun hb => ?_⟩, trivial⟩, xr_xr⟩
  ·rcases h2 with h2 | h2
   ·exact .inl h2
   ·by_cases hk : p.2 = 1
    ·exact .inl hk
    ·right
     show (xr m p.2).testBit (p.2 - 2) = true
     rw [xr_bit, h2]
     have : ¬ (p.2 - 1 = p.2 - 2) := by omega
     simp [this]
  ·show (!p.1) = !stb p.2 (xr m p.2)
   rw [stb_xr, h3]
  ·have hp : p.1 = false := by simpa using hb
   rw [hp] at h3
   have hs : stb p.2 m = true := by simpa using h3.symm
   have := cnt_down h1.1 h1.2 hs
   omega
theorem bkw_len {w : List Mv} : (bkw w).length = w.length := by simp [bkw]
theorem mem_add {n s m i : Nat} {b : Bool} {ps : List Mv} (h : ∀ p, p ∈ ps ↔ lgl n s m p ∧ p.2 ≤ i) (hb : lgl n s m (b, i + 1)) : ∀ p, p ∈ ps ++ [(b, i + 1)] ↔ lgl n s m p ∧ p.2 ≤ i + 1 := by
 intro p
 rw [List.mem_append, h p, List.mem_singleton]
 constructor
 ·rintro (⟨a, c⟩ | rfl)
  ·exact ⟨a, by omega⟩
  ·exact ⟨hb, Nat.le_refl _⟩
 ·rintro ⟨a, c⟩
  by_cases e : p.2 ≤ i
  ·exact .inl ⟨a, e⟩
  ·right
   obtain ⟨b', k⟩ := p
   have e2 : k = i + 1 := by have : k ≤ i + 1 := c; have : ¬ k ≤ i := e; omega
   subst e2
   have h1 : b' = !stb (i + 1) m := a.2.2.1
   have h2 : b = !stb (i + 1) m := hb.2.2.1
   rw [h1, h2]
theorem mem_no {n s m i : Nat} {ps : List Mv} (h : ∀ p, p ∈ ps ↔ lgl n s m p ∧ p.2 ≤ i) (hb : ∀ b, ¬ lgl n s m (b, i + 1)) : ∀ p, p ∈ ps ↔ lgl n s m p ∧ p.2 ≤ i + 1 := by
 intro p
 rw [h p]
 constructor
 ·rintro ⟨a, c⟩
  exact ⟨a, by omega⟩
 ·rintro ⟨a, c⟩
  refine ⟨a, ?_⟩
  by_cases e : p.2 ≤ i
  ·exact e
  ·obtain ⟨b', k⟩ := p
   have e2 : k = i + 1 := by have : k ≤ i + 1 := c; have : ¬ k ≤ i := e; omega
   subst e2
   exact absurd a (hb b')
theorem mP_inj {p q : Mv} (h : mP p = mP q) : p = q := by
 obtain ⟨a, k⟩ := p
 obtain ⟨b, l⟩ := q
 have h1 := congrArg Prod.fst h
 have h2 := congrArg Prod.snd h
 have h2 : (k : Int) = (l : Int) := h2
 have h3 : k = l := by omega
 subst h3
 cases a <;> cases b
 ·rfl
 ·exact absurd (show ("clear" : Str) = "lay" from h1) (by decide)
 ·exact absurd (show ("lay" : Str) = "clear" from h1) (by decide)
 ·rfl
theorem mP_mem {p : Mv} {ps : List Mv} : mP p ∈ ps.map mP ↔ p ∈ ps := by
 rw [List.mem_map]
 constructor
 ·rintro ⟨q, hq, e⟩
  rw [← mP_inj e]; exact hq
 ·intro h
  exact ⟨p, h, rfl⟩
theorem mD_map (x : List Mv) : x.map mD = (x.map mP).map pD := by rw [List.map_map]; rfl
theorem cnt_zero : ∀ {n : Nat}, cnt n 0 = 0
 | 0 => rfl
 | n + 1 => by rw [cnt, cnt_zero, Nat.zero_testBit]; rfl
end L3
namespace L3
open PySem PySem.Spec PyProof.Rows L2 Rw
noncomputable def cap : Nat → Bool → Nat
 | 0, _ => 0
 | s + 1, true => 2 ^ s
 | s + 1, false => 2 ^ (s + 1) - 1
def WOK (f l s : Nat) (b : Bool) (w : List Mv) : Prop := ∀ n S m, l ≤ n → (f = 0 ∨ m.testBit (f - 1) = true) → (∀ i, f ≤ i → i < l → m.testBit i = false) → cnt n m + s ≤ S →
 lgw n S m w ∧ (∀ i, (i < f ∨ l ≤ i) → (fin m w).testBit i = m.testBit i) ∧ (fin m w).testBit (l - 1) = true ∧ (b = true → ∀ i, f ≤ i → i + 1 < l → (fin m w).testBit i = false)
theorem wok_one {f s : Nat} {b : Bool} (hs : 1 ≤ s) : WOK f (f + 1) s b [(true, f + 1)] := by
 intro n S m hn hf hz hc
 have hb := hz f (Nat.le_refl _) (Nat.lt_succ_self _)
 refine ⟨⟨⟨⟨by show 1 ≤ f + 1; omega, hn⟩, ?_, ?_, fun _ => by omega⟩, trivial⟩, fun i hi => ?_, ?_, fun _ i h1 h2 => by omega⟩
 ·rcases hf with h | h
  ·left; show f + 1 = 1; omega
  ·by_cases h0 : f = 0
   ·left; show f + 1 = 1; omega
   ·right
    show m.testBit (f + 1 - 2) = true
    have : f + 1 - 2 = f - 1 := by omega
    rw [this]; exact h
 ·show true = !m.testBit f
  rw [hb]; rfl
 ·show (xr m (f + 1)).testBit i = _
  have : ¬ (f + 1 - 1 = i) := by omega
  rw [xr_bit, decide_eq_false this, Bool.xor_false]
 ·show (xr m (f + 1)).testBit (f + 1 - 1) = true
  rw [xr_bit]
  show (m.testBit f ^^ decide (f = f)) = true
  rw [hb]; simp
theorem WOK.fin_xr {f l s : Nat} {w : List Mv} (hl : f < l) (h : WOK f l s true w) {n S m : Nat} (hn : l ≤ n) (hf : f = 0 ∨ m.testBit (f - 1) = true) (hz : ∀ i, f ≤ i → i < l → m.testBit i = false) (hc : cnt n m + s ≤ S) : fin m w = xr m l := by
 obtain ⟨_, h2, h3, h4⟩ := h n S m hn hf hz hc
 refine Nat.eq_of_testBit_eq fun i => ?_
 rw [xr_bit]
 by_cases e : l - 1 = i
 ·subst e
  rw [h3, hz _ (by omega) (by omega)]
  simp
 ·have : decide (l - 1 = i) = false := decide_eq_false e
  rw [this, Bool.xor_false]
  by_cases h5 : i < f ∨ l ≤ i
  ·exact h2 i h5
  ·rw [h4 rfl i (by omega) (by omega), hz i (by omega) (by omega)]
theorem xr_comm {m k l : Nat} : xr (xr m k) l = xr (xr m l) k := Nat.eq_of_testBit_eq fun j => by
 rw [xr_bit, xr_bit, xr_bit, xr_bit]
 cases m.testBit j <;> cases decide (k - 1 = j) <;> cases decide (l - 1 = j) <;> rfl
theorem xr_other {m k i : Nat} (h : ¬ k - 1 = i) : (xr m k).testBit i = m.testBit i := by
 rw [xr_bit, decide_eq_false h, Bool.xor_false]
theorem xr_self {m k : Nat} (h : m.testBit (k - 1) = false) : (xr m k).testBit (k - 1) = true := by
 rw [xr_bit, h]; simp
theorem wok_alone {f c l s : Nat} {w1 w2 w3 : List Mv} (h1 : f < c) (h2 : c < l) (W1 : WOK f c (s + 1) true w1) (W2 : WOK c l s true w2) (W3 : WOK f c s true w3) : WOK f l (s + 1) true (w1 ++ w2 ++ bkw w3) := by
 intro n S m hn hf hz hc
 have z1 : ∀ i, f ≤ i → i < c → m.testBit i = false := fun i a b => hz i a (by omega)
 have e1 := W1.fin_xr h1 (n := n) (S := S) (by omega) hf z1 hc
 obtain ⟨L1, _⟩ := W1 n S m (by omega) hf z1 hc
 have hb1 : stb c m = false := hz (c - 1) (by omega) (by omega)
 have c1 : cnt n (xr m c) = cnt n m + 1 := cnt_up (by omega) (by omega) hb1
 have f2 : c = 0 ∨ (xr m c).testBit (c - 1) = true := .inr (xr_self hb1)
 have z2 : ∀ i, c ≤ i → i < l → (xr m c).testBit i = false := fun i a b => by rw [xr_other (by omega)]; exact hz i (by omega) b
 have e2 := W2.fin_xr h2 (n := n) (S := S) hn f2 z2 (by omega)
 obtain ⟨L2, _⟩ := W2 n S (xr m c) hn f2 z2 (by omega)
 have hbl : stb l m = false := hz (l - 1) (by omega) (by omega)
 have c3 : cnt n (xr m l) = cnt n m + 1 := cnt_up (by omega) hn hbl
 have f3 : f = 0 ∨ (xr m l).testBit (f - 1) = true := by
  rcases hf with h | h
  ·exact .inl h
  ·by_cases h0 : f = 0
   ·exact .inl h0
   ·exact .inr (by rw [xr_other (by omega)]; exact h)
 have z3 : ∀ i, f ≤ i → i < c → (xr m l).testBit i = false := fun i a b => by rw [xr_other (by omega)]; exact hz i a (by omega)
 have e3 := W3.fin_xr h1 (n := n) (S := S) (by omega) f3 z3 (by omega)
 obtain ⟨L3, _⟩ := W3 n S (xr m l) (by omega) f3 z3 (by omega)
 obtain ⟨B1, B2⟩ := lgw_bkw (by omega : cnt n (xr m l) ≤ S) L3
 rw [e3, xr_comm] at B1 B2
 have et : fin m (w1 ++ w2 ++ bkw w3) = xr m l := by rw [fin_app, fin_app, e1, e2, B2]
 refine ⟨?_, ?_⟩
 ·rw [lgw_app, lgw_app, fin_app, e1, e2]
  exact ⟨⟨L1, L2⟩, B1⟩
 ·rw [et]
  refine ⟨fun i hi => xr_other (by omega), xr_self hbl, fun _ i a b => by rw [xr_other (by omega)]; exact hz i a (by omega)⟩
theorem wok_some {f c l s : Nat} {w1 w2 : List Mv} (h1 : f < c) (h2 : c < l) (W1 : WOK f c (s + 1) true w1) (W2 : WOK c l s false w2) : WOK f l (s + 1) false (w1 ++ w2) := by
 intro n S m hn hf hz hc
 have z1 : ∀ i, f ≤ i → i < c → m.testBit i = false := fun i a b => hz i a (by omega)
 have e1 := W1.fin_xr h1 (n := n) (S := S) (by omega) hf z1 hc
 obtain ⟨L1, _⟩ := W1 n S m (by omega) hf z1 hc
 have hb1 : stb c m = false := hz (c - 1) (by omega) (by omega)
 have c1 : cnt n (xr m c) = cnt n m + 1 := cnt_up (by omega) (by omega) hb1
 have f2 : c = 0 ∨ (xr m c).testBit (c - 1) = true := .inr (xr_self hb1)
 have z2 : ∀ i, c ≤ i → i < l → (xr m c).testBit i = false := fun i a b => by rw [xr_other (by omega)]; exact hz i (by omega) b
 obtain ⟨L2, q1, q2, _⟩ := W2 n S (xr m c) hn f2 z2 (by omega)
 refine ⟨by rw [lgw_app, e1]; exact ⟨L1, L2⟩, fun i hi => ?_, by rw [fin_app, e1]; exact q2, fun h => by cases h⟩
 rw [fin_app, e1, q1 i (by omega), xr_other (by omega)]
theorem WOK.start {l s n S : Nat} {b : Bool} {w : List Mv} (h : WOK 0 l s b w) (hn : l ≤ n) (hs : s ≤ S) : lgw n S 0 w ∧ (fin 0 w).testBit (l - 1) = true := by
 obtain ⟨a, _, c, _⟩ := h n S 0 hn (.inl rfl) (fun i _ _ => Nat.zero_testBit i) (by rw [cnt_zero]; omega)
 exact ⟨a, c⟩
theorem WOK.left {l s n S : Nat} {w : List Mv} (h0 : 0 < l) (h : WOK 0 l s true w) (hn : l ≤ n) (hs : s ≤ S) : fin 0 w = 2 ^ (l - 1) := by
 have e := h.fin_xr h0 (n := n) (S := S) hn (.inl rfl) (fun i _ _ => Nat.zero_testBit i) (by rw [cnt_zero]; omega)
 rw [e]
 unfold xr
 exact Nat.zero_xor _
theorem fits_some {f l s : Nat} {b : Bool} (h : 2 ≤ l - f) (hc : l - f ≤ cap s b) : ∃ s', s = s' + 1 ∧ f + (l - f + 1) / 2 - f ≤ cap (if b then s' else s) true ∧ l - (f + (l - f + 1) / 2) ≤ cap s' b := by
 cases s with
 | zero => simp [cap] at hc; omega
 | succ s =>
  refine ⟨s, rfl, ?_⟩
  cases s with
  | zero => cases b <;> simp [cap] at hc <;> omega
  | succ s =>
   cases b
   ·simp only [cap] at hc ⊢
    rw [Nat.pow_succ] at hc
    rw [Nat.pow_succ]
    simp
    rw [Nat.pow_succ]
    omega
   ·simp only [cap] at hc ⊢
    rw [Nat.pow_succ] at hc
    simp [cap]
    omega
theorem cap_mono {s : Nat} : cap s true ≤ cap (s + 1) true := by
 cases s with
 | zero => simp [cap]
 | succ s => simp only [cap]; rw [Nat.pow_succ]; omega
theorem cap_pos {s : Nat} {b : Bool} (h : 1 ≤ s) : 1 ≤ cap s b := by
 cases s with
 | zero => omega
 | succ s =>
  have := Nat.two_pow_pos s
  cases b
  ·simp only [cap]; rw [Nat.pow_succ]; omega
  ·simp only [cap]; omega
theorem rng_cnt {m : Nat} : ∀ n, ((List.range n).filter fun i => m.testBit i).length = cnt n m
 | 0 => rfl
 | n + 1 => by
  rw [List.range_succ, List.filter_append, List.length_append, rng_cnt n, cnt]
  cases h : m.testBit n <;> simp [h]
theorem cnt_ext {n m : Nat} (h : m < 2 ^ n) : ∀ k, cnt (n + k) m = cnt n m
 | 0 => rfl
 | k + 1 => by
  rw [← Nat.add_assoc, cnt, cnt_ext h k, Nat.testBit_lt_two_pow (Nat.lt_of_lt_of_le h (Nat.pow_le_pow_right (by decide) (by omega)))]
  rfl
theorem lgw_lt {n s : Nat} {w : List Mv} (h : lgw n s 0 w) : fin 0 w < 2 ^ n := sbh_lt (Nat.two_pow_pos _) (lgw_mem h) _ fin_mem
noncomputable abbrev Pm := Option Mv
noncomputable def pmD : Pm → D
 | none => .tup [.str "show"]
 | some p => mD p
noncomputable def nxp (m : Nat) : Pm → Nat
 | none => m
 | some p => xr m p.2
def okm (m : Nat) : Pm → Prop
 | none => True
 | some p => (1 ≤ p.2 ∧ p.2 ≤ 24) ∧ p.1 = !stb p.2 m
def okp : Nat → List Pm → Prop
 | _, [] => True
 | m, p :: r => okm m p ∧ okp (nxp m p) r
noncomputable def finp : Nat → List Pm → Nat
 | m, [] => m
 | m, p :: r => finp (nxp m p) r
theorem okp_app : ∀ {l r : List Pm} {m : Nat}, okp m (l ++ r) ↔ okp m l ∧ okp (finp m l) r
 | [], r, m => by show okp m r ↔ True ∧ okp m r; simp
 | p :: l, r, m => by
  show okm m p ∧ okp (nxp m p) (l ++ r) ↔ (okm m p ∧ okp (nxp m p) l) ∧ okp (finp (nxp m p) l) r
  rw [okp_app, and_assoc]
theorem finp_app : ∀ {l r : List Pm} {m : Nat}, finp m (l ++ r) = finp (finp m l) r
 | [], _, _ => rfl
 | p :: l, r, m => by show finp (nxp m p) (l ++ r) = _; rw [finp_app]; rfl
theorem okp_some {n s : Nat} (hn : n ≤ 24) : ∀ {w : List Mv} {m : Nat}, lgw n s m w → okp m (w.map some)
 | [], _, _ => trivial
 | p :: r, m, ⟨⟨h1, _, h3, _⟩, h5⟩ => ⟨⟨⟨h1.1, by omega⟩, h3⟩, okp_some hn h5⟩
theorem finp_some : ∀ {w : List Mv} {m : Nat}, finp m (w.map some) = fin m w
 | [], _ => rfl
 | p :: r, m => finp_some (w := r) (m := xr m p.2)
theorem pmD_some {w : List Mv} : (w.map some).map pmD = w.map mD := by rw [List.map_map]; rfl
noncomputable def flp : Pm → Pm
 | none => none
 | some p => some (!p.1, p.2)
noncomputable def bkp (w : List Pm) : List Pm := (w.map flp).reverse
theorem bkp_some {w : List Mv} : bkp (w.map some) = (bkw w).map some := by
 unfold bkp bkw
 rw [List.map_map, List.map_reverse, List.map_map]
 rfl
theorem bkp_len {w : List Pm} : (bkp w).length = w.length := by simp [bkp]
def PLN (n s : Nat) (left : Bool) (P : List Pm) : Prop :=
 if left then ∃ w : List Mv, P = w.map some ∧ lgw n s 0 w ∧ fin 0 w = 2 ^ (n - 1)
 else ∃ u v : List Mv, P = u.map some ++ [none] ++ (bkw v).map some ∧ lgw n s 0 u ∧ lgw n s 0 v ∧ fin 0 u = fin 0 v ∧ (fin 0 u).testBit (n - 1) = true
theorem PLN.okp {n s : Nat} {left : Bool} {P : List Pm} (hn : n ≤ 24) (h : PLN n s left P) : okp 0 P := by
 unfold PLN at h
 split at h
 ·obtain ⟨w, rfl, hw, _⟩ := h
  exact okp_some hn hw
 ·obtain ⟨u, v, rfl, hu, hv, e, _⟩ := h
  rw [okp_app, okp_app, finp_app, finp_some]
  refine ⟨⟨okp_some hn hu, trivial, trivial⟩, ?_⟩
  show L3.okp (fin 0 u) _
  rw [e]
  exact okp_some hn (lgw_bkw (by rw [cnt_zero]; exact Nat.zero_le _) hv).1
theorem bkw_mem {w : List Mv} {p : Mv} (h : p ∈ bkw w) : ∃ q ∈ w, q.2 = p.2 := by
 unfold bkw at h
 rw [List.mem_reverse, List.mem_map] at h
 obtain ⟨q, hq, rfl⟩ := h
 exact ⟨q, hq, rfl⟩
theorem PLN.mem {n s : Nat} {left : Bool} {P : List Pm} (h : PLN n s left P) : ∀ p, some p ∈ P → 1 ≤ p.2 ∧ p.2 ≤ n := by
 unfold PLN at h
 intro p hp
 split at h
 ·obtain ⟨w, rfl, hw, _⟩ := h
  obtain ⟨q, hq, e⟩ := List.mem_map.mp hp
  cases e
  exact lgw_mem hw p hq
 ·obtain ⟨u, v, rfl, hu, hv, _⟩ := h
  rcases List.mem_append.mp hp with hp | hp
  ·rcases List.mem_append.mp hp with hp | hp
   ·obtain ⟨q, hq, e⟩ := List.mem_map.mp hp
    cases e
    exact lgw_mem hu p hq
   ·simp at hp
  ·obtain ⟨q, hq, e⟩ := List.mem_map.mp hp
   cases e
   obtain ⟨r, hr, er⟩ := bkw_mem hq
   rw [← er]
   exact lgw_mem hv r hr
theorem nD_map {xs : List Nat} : xs.map nD = (xs.map fun x : Nat => (x : Int)).map .int := by rw [List.map_map]; rfl
theorem pc_cnt {b m : Nat} : pc b m = cnt b m := by
 unfold pc
 rw [List.countP_eq_length_filter, rng_cnt]
theorem ok_false {P : Program} {w : World} {K : PySem.W.Frag} {mg : Str → Option Value} {base : Heap} {n : Nat} {x qual : Str} {st : Stmt} {ps : List Str} {d : FnAt K x qual st ps} {S : Sp3} (h : ∀ ds G R, ¬ S ds G R) : Ok P w mg base n d S :=
 ⟨fun vs H Q E ⟨ds, G, R, _, _, s, _⟩ => absurd s (h ds G R), fun A outer s H args us vs Q E _ _ _ _ ⟨ds, G, R, _, _, s, _⟩ => absurd s (h ds G R)⟩
end L3
namespace Law
open PySem L2 L3 Rw
theorem Adv.grow {G G1 G2 : Gp} {st : Addr} (a : Adv st G G1) (g : Grow G1 G2) : Adv st G G2 := ⟨a.at_.grow g, fun c o h e => g.kp _ _ (a.kp c o h e)⟩
end Law
namespace L3
open PySem PySem.Spec PyProof.Rows L2 Rw
theorem bkp_cons {p : Pm} {r : List Pm} : bkp (p :: r) = bkp r ++ [flp p] := by unfold bkp; rw [List.map_cons, List.reverse_cons]
theorem bkw_bkw {w : List Mv} : bkw (bkw w) = w := by
 unfold bkw
 rw [List.map_reverse, List.reverse_reverse, List.map_map]
 have : ((fun p : Mv => (!p.1, p.2)) ∘ fun p : Mv => (!p.1, p.2)) = id := by funext p; show (!(!p.1), p.2) = p; rw [Bool.not_not]
 rw [this, List.map_id]
theorem PLN.turned {n s : Nat} {P : List Pm} (h : PLN n s false P) : PLN n s false (bkp P) := by
 unfold PLN at h ⊢
 rw [if_neg Bool.false_ne_true] at h ⊢
 obtain ⟨u, v, rfl, hu, hv, e, hb⟩ := h
 refine ⟨v, u, ?_, hv, hu, e.symm, by rw [← e]; exact hb⟩
 have : bkp (u.map some ++ [none] ++ (bkw v).map some) = bkp ((bkw v).map some) ++ [none] ++ bkp (u.map some) := by
  unfold bkp
  simp [flp]
 rw [this, bkp_some, bkp_some, bkw_bkw]
def ckp (n s : Nat) : Nat → Bool → List Pm → Prop
 | _, _, [] => True
 | m, sh, none :: r => (m.testBit (n - 1) = true ∧ sh = false) ∧ ckp n s m true r
 | m, sh, some p :: r => lgl n s m p ∧ ckp n s (xr m p.2) sh r
noncomputable def shw : Bool → List Pm → Bool
 | sh, [] => sh
 | _, none :: r => shw true r
 | sh, some _ :: r => shw sh r
theorem ckp_app {n s : Nat} : ∀ {l r : List Pm} {m : Nat} {sh : Bool}, ckp n s m sh (l ++ r) ↔ ckp n s m sh l ∧ ckp n s (finp m l) (shw sh l) r
 | [], r, m, sh => by show ckp n s m sh r ↔ True ∧ ckp n s m sh r; simp
 | none :: l, r, m, sh => by
  show _ ∧ ckp n s m true (l ++ r) ↔ (_ ∧ ckp n s m true l) ∧ ckp n s (finp m l) (shw true l) r
  rw [ckp_app]
  exact and_assoc.symm
 | some p :: l, r, m, sh => by
  show _ ∧ ckp n s (xr m p.2) sh (l ++ r) ↔ (_ ∧ ckp n s (xr m p.2) sh l) ∧ ckp n s (finp (xr m p.2) l) (shw sh l) r
  rw [ckp_app, and_assoc]
theorem shw_app : ∀ {l r : List Pm} {sh : Bool}, shw sh (l ++ r) = shw (shw sh l) r
 | [], _, _ => rfl
 | none :: l, r, sh => shw_app (l := l)
 | some _ :: l, r, sh => shw_app (l := l)
theorem ckp_some {n s : Nat} {sh : Bool} : ∀ {w : List Mv} {m : Nat}, lgw n s m w → ckp n s m sh (w.map some)
 | [], _, _ => trivial
 | p :: r, m, ⟨h1, h2⟩ => ⟨h1, ckp_some h2⟩
theorem shw_some {sh : Bool} : ∀ {w : List Mv}, shw sh (w.map some) = sh
 | [] => rfl
 | p :: r => shw_some (w := r)
theorem PLN.ckp {n s : Nat} {left : Bool} {P : List Pm} (h : PLN n s left P) : ckp n s 0 false P ∧ shw false P = (!left) ∧ finp 0 P = if left then 2 ^ (n - 1) else 0 := by
 unfold PLN at h
 split at h
 ·rename_i hl
  obtain ⟨w, rfl, hw, e⟩ := h
  refine ⟨ckp_some hw, by rw [shw_some, hl]; rfl, by rw [finp_some, hl, if_pos rfl]; exact e⟩
 ·rename_i hl
  have hl : left = false := by simpa using hl
  obtain ⟨u, v, rfl, hu, hv, e, hb⟩ := h
  obtain ⟨b1, b2⟩ := lgw_bkw (by rw [cnt_zero]; exact Nat.zero_le _) hv
  subst hl
  refine ⟨?_, ?_, ?_⟩
  ·rw [ckp_app, ckp_app, finp_app, finp_some, shw_some]
   refine ⟨⟨ckp_some hu, ⟨hb, rfl⟩, trivial⟩, ?_⟩
   show L3.ckp n s (fin 0 u) _ _
   rw [e]
   exact ckp_some b1
  ·rw [shw_app, shw_app, shw_some, shw_some]; rfl
  ·rw [finp_app, finp_app, if_neg Bool.false_ne_true, finp_some]
   show fin (finp 0 (u.map some)) (bkw v) = 0
   rw [finp_some, e]
   exact b2
theorem ckp_lt {n s : Nat} : ∀ {w : List Pm} {m : Nat} {sh : Bool}, m < 2 ^ n → ckp n s m sh w → finp m w < 2 ^ n
 | [], _, _, h, _ => h
 | none :: r, m, sh, h, ⟨_, h2⟩ => ckp_lt (w := r) h h2
 | some p :: r, m, sh, h, ⟨h1, h2⟩ => ckp_lt (w := r) (Nat.xor_lt_two_pow h (Nat.pow_lt_pow_right (by decide) (by have := h1.1; omega))) h2
end L3
namespace L2
open PySem PySem.Spec PyProof.Rows
section
variable {X : Cx} {pins : List (Addr × Obj)} {σ : L2.St} {H : Hp} {s : Shared} {a b : Addr} {A : Around} {E : Value → Shared → Prop}
theorem key_sq {ks : List Key} (I : Inv X pins σ H s) (h : SqT X.K H b (ks.map kV)) : (tupleKind (mixKind X.prog X.w)).is s.heap ks b := by
 obtain ⟨its, r, ⟨o, e, c, n, d⟩, _⟩ := I.tuple h
 exact ⟨o, its.toArray, n, e, c, d, by simpa using items_are r⟩
def tDGetS (K : PySem.W.Frag) (td ty : TE) : TE := fun σ H Q => td σ H fun x H1 => ty σ H1 fun y H2 => ∃ a b kvs k v, x = .ref a ∧ y = .ref b ∧ H2 a = some (.dT kvs) ∧ SqT K H2 b (k.map kV) ∧ valV kvs k = some v ∧ Q v H2
theorem pe_dgetS {o i : Expr} {pos : Pos} {td ty : TE} (hu : X.A.units + 1 < cLine) (ho : PE X o td) (hi : PE X i ty) (hs : NoSl i) : PE X (.Subscript o i pos) (tDGetS X.K td ty) := by
 intro pins s σ H Q I h
 (refine subD_of PySem.F.slot_dict_getitem.lookup hs (thn (ho pins s σ H _ I h) ?_); rintro u s1 ⟨x, H1, I1, rx, q1⟩; refine thn (hi pins s1 σ H1 _ I1 q1) ?_; rintro iv s2 ⟨y, H2, I2, ry, a, b, kvs, k, v, ex, ey, ha, hb, l, q2⟩)
 subst ex
 subst ey
 obtain rfl : u = Value.ref a := rx
 obtain rfl : iv = Value.ref b := ry
 obtain ⟨z, hd, xs, rel, dd⟩ := dt_rd I2.hok (.inl ha)
 refine ⟨dd.typeIs, ?_⟩
 obtain ⟨w', hw, rw'⟩ := RelO.some_of (v := v) (o := (atKey xs k).map (·.2)) (by rw [← l]; exact rel.val k)
 obtain ⟨p, hp, hp2⟩ := Option.map_eq_some_iff.mp hw
 refine wpAny_getItem_heap (tupleKind_room_in1 hu) (key_sq I2 hb) dd hp ?_
 rw [hp2]
 exact ⟨v, H2, I2.tok _, rw', q2⟩
def rInD (K : PySem.W.Frag) (neg : Bool) : R2 := fun x y H Q => ∃ a b kvs k, x = .ref b ∧ y = .ref a ∧ H a = some (.dT kvs) ∧ SqT K H b (k.map kV) ∧ Q (.bl (if neg then !(valV kvs k).isSome else (valV kvs k).isSome)) H
theorem op_inD (hu : X.A.units + 1 < cLine) : OpR X (compareOp .In) (rInD X.K false) := by
 intro pins s σ H x y v u Q I rx ry h
 obtain ⟨a, b, kvs, k, rfl, rfl, ha, hb, q⟩ := h
 obtain rfl : v = Value.ref b := rx
 obtain rfl : u = Value.ref a := ry
 obtain ⟨z, hd, xs, rel, dd⟩ := dt_rd I.hok (.inl ha)
 refine wpAny_in_heap (tupleKind_room_in1 hu) (key_sq I hb) hd dd ?_
 have e := (rel.val k).isSome_eq
 rw [Option.isSome_map] at e
 rw [← e]
 exact ⟨.bl (valV kvs k).isSome, H, I.tok _, rfl, q⟩
theorem op_notInD (hu : X.A.units + 1 < cLine) : OpR X (compareOp .NotIn) (rInD X.K true) := by
 intro pins s σ H x y v u Q I rx ry h
 obtain ⟨a, b, kvs, k, rfl, rfl, ha, hb, q⟩ := h
 obtain rfl : v = Value.ref b := rx
 obtain rfl : u = Value.ref a := ry
 obtain ⟨z, hd, xs, rel, dd⟩ := dt_rd I.hok (.inl ha)
 refine wpAny_notIn_heap (tupleKind_room_in1 hu) (key_sq I hb) hd dd ?_
 have e := (rel.val k).isSome_eq
 rw [Option.isSome_map] at e
 rw [← e]
 exact ⟨.bl (!(valV kvs k).isSome), H, I.tok _, rfl, q⟩
end
end L2
namespace L3
open PySem PySem.Spec PyProof.Rows L2
noncomputable def kD : Key → D
 | .inl i => .int i
 | .inr x => .str x
noncomputable def valD (kvs : List (List Key × D)) (k : List Key) : Option D := (kvs.find? fun kv => decide (kv.1 = k)).map (·.2)
noncomputable def putT (kvs : List (List Key × D)) (k : List Key) (v : D) : List (List Key × D) :=
 if (kvs.any fun kv => decide (kv.1 = k)) = true then kvs.map (fun kv => if kv.1 = k then (kv.1, v) else kv) else kvs ++ [(k, v)]
section
variable {X : Cx} {K : PySem.W.Frag} {G : Gp} {H : Hp} {p : Addr}
theorem relK_inv : ∀ {ks : List Key} {xs : List V}, RelDs K H (ks.map kD) xs → xs = ks.map kV
 | [], xs, r => r.inv_nil
 | .inl i :: ks, xs, r => by
  obtain ⟨x, xs', rfl, h1, h2⟩ := r.inv_cons
  rw [(show RelD K H (.int i) x from h1).int_inv, relK_inv h2]; rfl
 | .inr z :: ks, xs, r => by
  obtain ⟨x, xs', rfl, h1, h2⟩ := r.inv_cons
  rw [(show RelD K H (.str z) x from h1).str_inv, relK_inv h2]; rfl
theorem val_rel {k : List Key} : ∀ {kvs : List (List Key × D)} {ys : List (List Key × V)}, RelPs K H kvs ys → (valD kvs k = none ∧ valV ys k = none) ∨ ∃ d v, valD kvs k = some d ∧ valV ys k = some v ∧ RelD K H d v
 | [], ys, ⟨h1, h2⟩ => by
  have : ys = [] := by cases ys with | nil => rfl | cons y ys => simp at h1
  subst this
  exact .inl ⟨rfl, rfl⟩
 | (k', d) :: kvs, [], ⟨h1, h2⟩ => by simp at h1
 | (k', d) :: kvs, (k2, v) :: ys, ⟨h1, h2⟩ => by
  rw [List.map_cons, List.map_cons] at h1
  obtain ⟨e1, e2⟩ := List.cons.inj h1
  have e1 : k' = k2 := e1
  subst e1
  obtain ⟨x, xs', e3, q1, q2⟩ := h2.inv_cons
  rw [List.map_cons] at e3
  obtain ⟨e4, e5⟩ := List.cons.inj e3
  have e4 : v = x := e4
  subst e4
  by_cases hk : k' = k
  ·right
   exact ⟨d, v, by simp [valD, List.find?_cons, hk], valV_pos hk, q1⟩
  ·have ih := val_rel (k := k) (kvs := kvs) (ys := ys) ⟨e2, by rw [e5]; exact q2⟩
   have a1 : valD ((k', d) :: kvs) k = valD kvs k := by simp [valD, List.find?_cons, hk]
   rw [a1, valV_neg hk]
   exact ih
theorem map_rel {k : List Key} {d : D} {v : V} (q : RelD K H d v) : ∀ {kvs : List (List Key × D)} {ys : List (List Key × V)}, RelPs K H kvs ys → RelPs K H (kvs.map (fun kv => if kv.1 = k then (kv.1, d) else kv)) (ys.map (fun kv => if kv.1 = k then (kv.1, v) else kv)) ∧ (kvs.any fun kv => decide (kv.1 = k)) = (ys.any fun kv => decide (kv.1 = k))
 | [], ys, ⟨h1, h2⟩ => by
  have : ys = [] := by cases ys with | nil => rfl | cons y ys => simp at h1
  subst this
  exact ⟨⟨rfl, .nil⟩, rfl⟩
 | (k', d') :: kvs, [], ⟨h1, h2⟩ => by simp at h1
 | (k', d') :: kvs, (k2, v') :: ys, ⟨h1, h2⟩ => by
  rw [List.map_cons, List.map_cons] at h1
  obtain ⟨e1, e2⟩ := List.cons.inj h1
  have e1 : k' = k2 := e1
  subst e1
  obtain ⟨x, xs', e3, q1, q2⟩ := h2.inv_cons
  rw [List.map_cons] at e3
  obtain ⟨e4, e5⟩ := List.cons.inj e3
  have e4 : v' = x := e4
  subst e4
  obtain ⟨⟨i1, i2⟩, i3⟩ := map_rel (k := k) q (kvs := kvs) (ys := ys) ⟨e2, by rw [e5]; exact q2⟩
  refine ⟨⟨?_, ?_⟩, by rw [List.any_cons, List.any_cons, i3]⟩
  ·rw [List.map_cons, List.map_cons, List.map_cons, List.map_cons, i1]
   by_cases hk : k' = k <;> simp [hk]
  ·rw [List.map_cons, List.map_cons, List.map_cons, List.map_cons]
   by_cases hk : k' = k
   ·simp only [hk, if_true]; exact .cons q i2
   ·simp only [hk, if_false]; exact .cons q1 i2
theorem put_rel {k : List Key} {d : D} {v : V} (q : RelD K H d v) {kvs : List (List Key × D)} {ys : List (List Key × V)} (h : RelPs K H kvs ys) : RelPs K H (putT kvs k d) (putK ys k v) := by
 obtain ⟨i1, i3⟩ := map_rel (k := k) q h
 unfold putT putK
 rw [i3]
 split
 ·exact i1
 ·exact ⟨by rw [List.map_append, List.map_append, h.1]; rfl, by rw [List.map_append, List.map_append]; exact h.2.append (.cons q .nil)⟩
theorem Le.dT {xs ys : List (List Key × V)} (h : H p = some (.dT xs)) : Le H (upd H p (.dT ys)) :=
  ⟨fun b zs q => by by_cases e : b = p
                    · subst e; rw [h] at q; cases q
                    · rw [upd_ne e]; exact q,
   fun b o u q => by by_cases e : b = p
                     · subst e; rw [h] at q; cases q
                     · rw [upd_ne e]; exact q⟩
def dGetD (td ti : TE3) : TE3 := fun σ G q => td σ G fun x G1 => ti σ G1 fun y G2 => ∃ a kvs ks d, x = .ref a ∧ y = .tup (ks.map kD) ∧ G2 a = some (.dit kvs) ∧ valD kvs ks = some d ∧ q d G2
theorem low_getD {td ti : TE3} {σ : L2.St} {Q : VK} (h : lowE K (dGetD td ti) σ H Q) : tDGetS K (lowE K td) (lowE K ti) σ H Q := by
 obtain ⟨σd, G, q, rs, c, t, f⟩ := h
 refine ⟨σd, G, _, rs, c, t, fun x G1 v H1 r1 c1 l1 t1 => ⟨σd, G1, _, rs.le l1, c1, t1, fun y G2 u H2 r2 c2 l2 t2 => ?_⟩⟩
 obtain ⟨a, kvs, ks, d, rfl, rfl, hg, hv, t3⟩ := t2
 have r1' := RelD.le l2 r1
 cases r1'.ref_inv
 obtain ⟨b, xs, rfl, s1, q1⟩ := r2.tup_inv
 obtain rfl := relK_inv q1
 obtain ⟨ys, e, rp⟩ := c2 a _ hg
 rcases val_rel (k := ks) rp with ⟨z, _⟩ | ⟨d', w, z1, z2, z3⟩
 ·rw [hv] at z; cases z
 ·rw [hv] at z1; cases z1
  exact ⟨a, b, ys, ks, w, rfl, rfl, e, s1, z2, f _ _ _ _ z3 c2 (l1.trans l2) t3⟩
theorem e_dgetD {k : Nat} {o i : Expr} {pos : Pos} {to ti : TE3} (hr : Room k X.A) (ho : E3 X o to) (hi : E3 X i ti) (hs : NoSl i := by exact fun _ _ => rfl) : E3 X (.Subscript o i pos) (dGetD to ti) :=
 weakE (pe_dgetS (hu_of hr) ho hi hs) fun _ _ _ => low_getD
@[reducible] def xInD (neg : Bool) : R3 := fun x y G q => ∃ (ks : List Key) (kvs : List (List Key × D)) (a : Addr), x = .tup (ks.map kD) ∧ y = .ref a ∧ G a = some (.dit kvs) ∧ q (.bl (if neg then !(valD kvs ks).isSome else (valD kvs ks).isSome)) G
theorem low_inD {neg : Bool} {x y : V} {Q : VK} (h : lowR K (xInD neg) x y H Q) : rInD K neg x y H Q := by
 obtain ⟨d, e, G, q, r1, r2, c, ⟨ks, kvs, a, rfl, rfl, hg, t⟩, f⟩ := h
 cases r2.ref_inv
 obtain ⟨b, xs, rfl, s1, q1⟩ := r1.tup_inv
 obtain rfl := relK_inv q1
 obtain ⟨ys, e, rp⟩ := c a _ hg
 refine ⟨a, b, ys, ks, rfl, rfl, e, s1, ?_⟩
 have es : (valD kvs ks).isSome = (valV ys ks).isSome := by
  rcases val_rel (k := ks) rp with ⟨z1, z2⟩ | ⟨d', w, z1, z2, _⟩ <;> rw [z1, z2] <;> rfl
 rw [es] at t
 exact f _ _ _ _ RelD.blI c (Le.refl H) t
theorem x_inD {k : Nat} (hr : Room k X.A) : Op3 X (compareOp .In) (xInD false) := weakOp (op_inD (hu_of hr)) fun _ _ _ _ h => low_inD h
theorem x_notInD {k : Nat} (hr : Room k X.A) : Op3 X (compareOp .NotIn) (xInD true) := weakOp (op_notInD (hu_of hr)) fun _ _ _ _ h => low_inD h
def dNewD : TE3 := fun _ G q => ∀ p, G p = none → q (.ref p) (gup G p (.dit []))
theorem e_dnewT {pos : Pos} : E3 X (.Dict [] [] pos) dNewD := weakE pe_dnewT fun σ H Q h => by
 obtain ⟨σd, G, q, rs, c, t, f⟩ := h
 exact fun p hp => f (.ref p) _ (.ref p) _ (by rw [RelD]) (c.put (o := .dit []) (Le.fresh hp) ⟨[], upd_same, rfl, .nil⟩) (Le.fresh hp) (t p (c.fresh hp))
def dPutD (td : TE3) (ta : TA3) (tv : TE3) : TS3 := fun Dn σ G => tv σ G fun v G1 => td σ G1 fun x G2 => ta σ G2 fun ds G3 => ∃ (a : Addr) (kvs : List (List Key × D)) (ks : List Key), x = .ref a ∧ ds = ks.map kD ∧ ds.length ≤ sizeLine ∧ G3 a = some (.dit kvs) ∧ kvs.length < sizeLine ∧ Dn.nx σ (gup G3 a (.dit (putT kvs ks v)))
theorem s_dputD {k : Nat} {o value : Expr} {es : List Expr} {x1 : Nat} {pos pos' pt : Pos} {to tv : TE3} {ta : TA3} (hr : Room k X.A) (ho : E3 X o to) (ha : A3 X es ta) (hv : E3 X value tv)
  (hs : swapsWith value (some (.Subscript o (.Tuple es x1 pt) pos')) pos.line X.env = pure false := by rfl) : S3 X (.Assign [.Subscript o (.Tuple es x1 pt) pos'] value pos) (dPutD to ta tv) :=
 weakS (ps_dput (hu_of hr) ho (pe_tup ha) hv hs) fun D σ H h => by
  obtain ⟨σd, G, d, rs, c, t, f⟩ := h
  refine ⟨σd, G, _, rs, c, t, fun v G1 w H1 r1 c1 l1 t1 => ⟨σd, G1, _, rs.le l1, c1, t1, fun x G2 u H2 r2 c2 l2 t2 => ⟨σd, G2, _, rs.le (l1.trans l2), c2, t2, fun ds G3 vs H3 r3 c3 l3 t3 => ?_⟩⟩⟩
  obtain ⟨a, kvs, ks, rfl, rfl, hz, hg, hl, t4⟩ := t3
  have r2' := RelD.le l3 r2
  cases r2'.ref_inv
  obtain rfl := relK_inv r3
  refine ⟨by rw [← r3.length]; exact hz, fun b hb => ?_⟩
  obtain ⟨ys, e, rp⟩ := c3 a _ hg
  have hab : a ≠ b := ne_of_none e hb
  have e' : upd H3 b (.tup (ks.map kV)) a = some (.dT ys) := by rw [upd_ne hab]; exact e
  have l4 : Le H3 (upd H3 b (.tup (ks.map kV))) := Le.fresh hb
  have l5 : Le (upd H3 b (.tup (ks.map kV))) (upd (upd H3 b (.tup (ks.map kV))) a (.dT (putK ys ks w))) := Le.dT e'
  have c4 : Con X.K G3 (upd H3 b (.tup (ks.map kV))) := c3.side hb
  have lys : ys.length = kvs.length := by
   have := congrArg List.length rp.1
   rw [List.length_map, List.length_map] at this
   exact this.symm
  refine ⟨a, _, rfl, DPut.t e' upd_same (by rw [lys]; exact hl), ?_⟩
  refine f.nx _ _ _ _ ((((rs.le l1).le l2).le l3).le (l4.trans l5)) ?_ (l1.trans (l2.trans (l3.trans (l4.trans l5)))) t4
  exact c4.put l5 ⟨_, upd_same, (put_rel (RelD.le (l2.trans (l3.trans l4)) r1) (rp.le l4)).le l5⟩
end
end L3
namespace L2
open PySem PySem.Spec PyProof.Rows
structure CmpIn (prog : Program) (w : World) (A : Around) (P : Nat → Value → Prop) (bt : Nat → Nat → Bool) (no : List Addr) (T : Heap → Prop) : Prop where
 keep : ∀ h h', T h → (∀ b o, b ∉ no → h.get? b = some o → h'.get? b = some o) → T h'
 cmp : ∀ i j x y (s : Shared) (Q : Value → Shared → Prop) (E : Value → Shared → Prop), T s.heap → P i x → P j y → Q (.bool (bt i j)) s → wpAny (model prog w) A (richCompare .Lt x y) Q E s
section
variable {prog : Program} {w : World} {A : Around} {R : Result → Shared → Prop} {it : Addr} {fp wr : List Addr} {n : Nat} {P : Nat → Value → Prop} {St : Nat → Heap → Prop} {T : Heap → Prop} {bt : Nat → Nat → Bool} {S : Addr}
theorem mnp_name : (toString "min" ++ toString ".loop" : String) = "min.loop" := by decide
theorem mnp_loop (W : Walks prog w A.in1 it fp wr n P St) (C : CmpIn prog w A.in1 P bt (S :: wr) T) (hS : S ∉ fp) : ∀ (m j : Nat) (s : Shared) (x : Value) (c : Nat), m + (j + 1) = n → St (j + 1) s.heap → T s.heap → P (argBest bt j) x →
  s.heap.get? S = some { cls := .type "list", dict := none, data := .seq #[x, x] c, slots := #[] } →
  (∀ y h' tk, P (argBest bt (n - 1)) y → (∀ b o, b ∉ S :: wr → s.heap.get? b = some o → h'.get? b = some o) → R (.ok (.ret y)) { s with heap := h', toks := tk }) → codeAny (model prog w) A (.builtin "min.loop" ⟨[.ref it, .none, .ref S], []⟩) R s := by
 have nw : S ∉ wr := fun z => hS (W.sub _ z)
 intro m
 induction m with
 | zero =>
  rintro j s x c hj st tt px hs hR
  have ej : j + 1 = n := by omega
  (refine codeAny_builtin F.entry_min_loop ?_; rw [Around.under_plainId F.plain_min_loop _])
  (show wpAny _ A.in1 (seqItems? (.ref S) >>= _) _ _ s; refine wpAny_bind (wpAny_seqItems hs rfl ?_))
  show wpAny _ A.in1 (tryCatch (pyNext (.ref it)) _ >>= _) _ _ s
  refine wpAny_bind (wpAny_tryCatch (W.done s _ _ (ej ▸ st) ?_))
  intro h' tk kp
  have hs2 := kp S _ nw hs
  (show wpAny _ A.in1 (updateSeq S (fun _ => #[]) >>= _) _ _ _; refine wpAny_bind ?_)
  refine wpAny_updateSeq hs2 rfl ?_
  refine wpAny_bind (wpAny_letGo (wpAny_pure ?_))
  refine hR x _ tk (by rw [← ej]; exact px) ?_
  intro b o hb e
  have hb1 : b ≠ S := fun z => hb (by simp [z])
  exact (Heap.get?_update_other _ _ (Ne.symm hb1)).trans (kp b o (fun z => hb (List.mem_cons_of_mem _ z)) e)
 | succ m ih =>
  rintro j s x c hj st tt px hs hR
  (refine codeAny_builtin F.entry_min_loop ?_; rw [Around.under_plainId F.plain_min_loop _])
  (show wpAny _ A.in1 (seqItems? (.ref S) >>= _) _ _ s; refine wpAny_bind (wpAny_seqItems hs rfl ?_))
  show wpAny _ A.in1 (tryCatch (pyNext (.ref it)) _ >>= _) _ _ s
  refine wpAny_bind (wpAny_tryCatch (W.item (j + 1) s _ _ (by omega) st ?_))
  intro y h' tk py st' kp
  have hs2 := kp S _ nw hs
  have tt' : T h' := C.keep _ _ tt fun b o hb e => kp b o (fun z => hb (List.mem_cons_of_mem _ z)) e
  show wpAny _ A.in1 (tryCatch (holding [y, y] (richCompare .Lt y x >>= _)) _ >>= _) _ _ _
  refine wpAny_bind (wpAny_tryCatch (wpAny_holding (wpAny_bind ?_)))
  refine C.cmp (j + 1) (argBest bt j) y x _ _ _ tt' py px ?_
  (refine wpAny_bind (wpAny_holding (wpAny_truthy_bool ?_)); refine wpAny_bind (wpAny_letGo (wpAny_pure ?_)))
  cases hb : bt (j + 1) (argBest bt j) with
  | false =>
   (simp only [Bool.false_eq_true, if_false]; refine wpAny_bind (wpAny_letGo ?_))
   rw [mnp_name]
   refine wpAny_pure ⟨plainId_quiet F.plain_min_loop _, ?_⟩
   refine ih (j + 1) _ x c (by omega) st' tt' (by simp only [argBest, hb, Bool.false_eq_true, if_false]; exact px) hs2 ?_
   intro z h2 tk2 pz kp2
   exact hR z h2 tk2 pz fun b o hb e => kp2 b o hb (kp b o (fun q => hb (List.mem_cons_of_mem _ q)) e)
  | true =>
   simp only [if_true]
   refine wpAny_bind ?_
   refine wpAny_updateSeq hs2 rfl ?_
   refine wpAny_bind (wpAny_letGo ?_)
   rw [mnp_name]
   have oth : ∀ (f : Obj → Obj) b o, b ≠ S → h'.get? b = some o → (h'.update S f).get? b = some o := fun f b o hb e => (Heap.get?_update_other _ _ (Ne.symm hb)).trans e
   refine wpAny_pure ⟨plainId_quiet F.plain_min_loop _, ?_⟩
   refine ih (j + 1) _ y _ (by omega) (W.frame _ _ _ st' fun b hbf o e => oth _ b o (fun z => hS (z ▸ hbf)) e) (C.keep _ _ tt' fun b o hb e => oth _ b o (fun z => hb (by simp [z])) e) (by simp only [argBest, hb, if_true]; exact py) (Heap.get?_update_self _ hs2 rfl) ?_
   intro z h2 tk2 pz kp2
   exact hR z h2 tk2 pz fun b o hb e => kp2 b o hb (oth _ b o (fun q => hb (by simp [q])) (kp b o (fun q => hb (List.mem_cons_of_mem _ q)) e))
theorem mnp_first (W : Walks prog w A.in1 it fp wr n P St) (C : CmpIn prog w A.in1 P bt (S :: wr) T) (hS : S ∉ fp) (hn : 0 < n) {s : Shared} {c : Nat} (st : St 0 s.heap) (tt : T s.heap) (hs : s.heap.get? S = some { cls := .type "list", dict := none, data := .seq #[] c, slots := #[] })
  (hR : ∀ y h' tk, P (argBest bt (n - 1)) y → (∀ b o, b ∉ S :: wr → s.heap.get? b = some o → h'.get? b = some o) → R (.ok (.ret y)) { s with heap := h', toks := tk }) : codeAny (model prog w) A (.builtin "min.loop" ⟨[.ref it, .none, .ref S], []⟩) R s := by
 have nw : S ∉ wr := fun z => hS (W.sub _ z)
 (refine codeAny_builtin F.entry_min_loop ?_; rw [Around.under_plainId F.plain_min_loop _])
 (show wpAny _ A.in1 (seqItems? (.ref S) >>= _) _ _ s; refine wpAny_bind (wpAny_seqItems hs rfl ?_))
 show wpAny _ A.in1 (tryCatch (pyNext (.ref it)) _ >>= _) _ _ s
 refine wpAny_bind (wpAny_tryCatch (W.item 0 s _ _ hn st ?_))
 intro y h' tk py st' kp
 have hs2 := kp S _ nw hs
 have tt' : T h' := C.keep _ _ tt fun b o hb e => kp b o (fun z => hb (List.mem_cons_of_mem _ z)) e
 have oth : ∀ (f : Obj → Obj) b o, b ≠ S → h'.get? b = some o → (h'.update S f).get? b = some o := fun f b o hb e => (Heap.get?_update_other _ _ (Ne.symm hb)).trans e
 show wpAny _ A.in1 (updateSeq S (fun _ => #[y, y]) >>= _) _ _ _
 refine wpAny_bind ?_
 refine wpAny_updateSeq hs2 rfl ?_
 rw [mnp_name]
 refine wpAny_pure ⟨plainId_quiet F.plain_min_loop _, ?_⟩
 refine mnp_loop W C hS (n - 1) 0 _ y _ (by omega) (W.frame _ _ _ st' fun b hbf o e => oth _ b o (fun z => hS (z ▸ hbf)) e) (C.keep _ _ tt' fun b o hb e => oth _ b o (fun z => hb (by simp [z])) e) py (Heap.get?_update_self _ hs2 rfl) ?_
 intro z h2 tk2 pz kp2
 exact hR z h2 tk2 pz fun b o hb e => kp2 b o hb (oth _ b o (fun q => hb (by simp [q])) (kp b o (fun q => hb (List.mem_cons_of_mem _ q)) e))
end
theorem lex_irr : ∀ a : List Int, HT.lexLt a a = false
 | [] => rfl
 | x :: a => by rw [HT.lexLt_cons, if_pos rfl]; exact lex_irr a
theorem lex_tr : ∀ {a b c : List Int}, HT.lexLt a b = true → HT.lexLt b c = true → HT.lexLt a c = true
 | [], [], _, h, _ => by rw [HT.lexLt_nil_nil] at h; cases h
 | [], y :: b, [], _, h => by rw [HT.lexLt_cons_nil] at h; cases h
 | [], y :: b, z :: c, _, _ => rfl
 | x :: a, [], _, h, _ => by rw [HT.lexLt_cons_nil] at h; cases h
 | x :: a, y :: b, [], _, h => by rw [HT.lexLt_cons_nil] at h; cases h
 | x :: a, y :: b, z :: c, h1, h2 => by
  rw [HT.lexLt_cons] at h1 h2 ⊢
  split at h1
  ·rename_i e
   subst e
   split at h2
   ·rename_i e
    subst e
    rw [if_pos rfl]
    exact lex_tr h1 h2
   ·rename_i e
    rw [if_neg e]; exact h2
  ·rename_i e
   split at h2
   ·rename_i e2
    subst e2
    rw [if_neg e]; exact h1
   ·have a1 := of_decide_eq_true h1
    have a2 := of_decide_eq_true h2
    rw [if_neg (by omega)]
    exact decide_eq_true (by omega)
theorem best_lex (f : Nat → List Int) : ∀ k, argBest (fun i j => HT.lexLt (f i) (f j)) k ≤ k ∧ ∀ j, j ≤ k → HT.lexLt (f j) (f (argBest (fun i j => HT.lexLt (f i) (f j)) k)) = false
  | 0 => ⟨Nat.le_refl _, fun j hj => by have : j = 0 := by omega
                                        subst this; exact lex_irr _⟩
  | k + 1 => by
    obtain ⟨i1, i2⟩ := best_lex f k
    rw [argBest]
    split
    · rename_i h
      refine ⟨Nat.le_refl _, fun j hj => ?_⟩
      by_cases e : j = k + 1
      · subst e; exact lex_irr _
      · cases q : HT.lexLt (f j) (f (k + 1)) with
        | false => rfl
        | true =>
          have := lex_tr q h
          rw [i2 j (by omega)] at this; cases this
    · rename_i h
      refine ⟨by omega, fun j hj => ?_⟩
      by_cases e : j = k + 1
      · subst e; simpa using h
      · exact i2 j (by omega)
section
variable {X : Cx}
theorem call_minP (hc : X.calm = true) (hu : X.A.units + 1 < cLine) : CallR X (.builtin "min") (fun xs H Q => ∃ (p : Addr) (tp : List (Addr × List Int)), xs = [.ref p] ∧ SqL X.K H p (tp.map fun t => V.ref t.1) ∧ (∀ t ∈ tp, SqT X.K H t.1 (t.2.map V.int)) ∧ 0 < tp.length ∧
  ∀ t ∈ tp, (∀ u ∈ tp, HT.lexLt u.2 t.2 = false) → Q (.ref t.1) H) := by
 intro pins s σ H xs us Q I r h
 obtain ⟨p, tp, rfl, hq, ht, hne, q⟩ := h
 obtain ⟨u, rfl, rx⟩ := vals1 r
 cases rx
 obtain ⟨its, r', pl, hz⟩ := I.list hq
 have hlen := r'.length
 rw [List.length_map] at hlen
 have hit : ∀ i x, its[i]? = some x → ∃ t ∈ tp, tp[i]? = some t ∧ x = Value.ref t.1 := fun i x e => by
  have hi : i < its.length := (List.getElem?_eq_some_iff.mp e).1
  have e1 : (tp.map fun t => V.ref t.1)[i]? = some (V.ref (tp[i]'(by omega)).1) := by rw [List.getElem?_map, List.getElem?_eq_getElem (by omega)]; rfl
  obtain ⟨y, ey, ry⟩ := r'.get e1
  rw [e] at ey; cases ey
  exact ⟨tp[i]'(by omega), List.getElem_mem _, List.getElem?_eq_getElem _, ry⟩
 have hlp : p < s.heap.objs.size := by obtain ⟨o, e, _⟩ := pl.isList; exact Heap.lt_size e
 (refine call_function_tree F.kind_min F.plain_min F.entry_min (F.args_min1 _) ?_; show wpAny _ X.A.in1 (Builtin.Builtins.bindParams "min" ["key", "default"] 0 ⟨[], []⟩ >>= _) _ _ s)
 (refine wpAny_bind (wpAny_of_eq (show Builtin.Builtins.bindParams "min" ["key", "default"] 0 ⟨[], []⟩ = pure [none, none] from rfl) ?_); refine wpAny_bind (wpAny_pure ?_))
 refine wpAny_bind (wpAny_pyIter_list pl.isList ?_)
 (refine wpAny_bind (wpAny_newObj_type ?_); rw [mnp_name])
 obtain ⟨f, hf⟩ : ∃ f : Nat → List Int, f = fun i => ((tp[i]?).map (·.2)).getD [] := ⟨_, rfl⟩
 have tkeep : ∀ {h' : Heap}, (∀ b o, s.heap.get? b = some o → h'.get? b = some o) → ∀ t ∈ tp, ∃ vs : List Value, IsTup h' t.1 vs.toArray ∧ IntsAre vs t.2 := fun {h'} kp t htm => by
  obtain ⟨vs, rv, ⟨o, e, c, n, d⟩, _⟩ := I.tuple (ht t htm)
  exact ⟨vs, ⟨o, kp _ _ e, c, n, d⟩, intsAre_of rv⟩
 have tlt : ∀ t ∈ tp, t.1 < s.heap.objs.size := fun t htm => by
  obtain ⟨vs, rv, ⟨o, e, c, n, d⟩, _⟩ := I.tuple (ht t htm)
  exact Heap.lt_size e
 have hh : X.A.handled = none := I.ok.hd hc
 have W := Walks.list (prog := X.prog) (w := X.w) (A := X.A.in1) hh s.heap.objs.size p (Nat.ne_of_lt hlp) its.toArray
 have s1 : (s.heap.push { cls := Value.type "list_iterator", data := Data.fields #[Value.ref p, Value.int 0 0] }).objs.size = s.heap.objs.size + 1 := Heap.size_push _ _
 have pat : ∀ i x, its.toArray[i]? = some x → ∃ t ∈ tp, x = Value.ref t.1 ∧ f i = t.2 := fun i x e => by
  rw [List.getElem?_toArray] at e
  obtain ⟨t, htm, e1, e2⟩ := hit i x e
  exact ⟨t, htm, e2, by rw [hf]; show ((tp[i]?).map (·.2)).getD [] = _; rw [e1]; rfl⟩
 have C : CmpIn X.prog X.w X.A.in1 (fun i v => its.toArray[i]? = some v) (fun i j => HT.lexLt (f i) (f j)) [s.heap.objs.size + 1, s.heap.objs.size] (fun h' => ∀ t ∈ tp, ∃ vs : List Value, IsTup h' t.1 vs.toArray ∧ IntsAre vs t.2) := by
  refine ⟨fun h1 h2 tt kp t htm => ?_, fun i j x y s' Q' E' tt px py q' => ?_⟩
  ·obtain ⟨vs, ⟨o, e, c, n, d⟩, iv⟩ := tt t htm
   have := tlt t htm
   exact ⟨vs, ⟨o, kp _ _ (fun z => by
    rcases List.mem_cons.mp z with z | z
    ·exact Nat.ne_of_lt (Nat.lt_succ_of_lt this) z
    ·exact Nat.ne_of_lt this (by simpa using z)) e, c, n, d⟩, iv⟩
  ·obtain ⟨t1, m1, rfl, f1⟩ := pat i x px
   obtain ⟨t2, m2, rfl, f2⟩ := pat j y py
   obtain ⟨vs1, p1, i1⟩ := tt t1 m1
   obtain ⟨vs2, p2, i2⟩ := tt t2 m2
   show wpAny _ X.A.in1 (compareOp .Lt (.ref t1.1) (.ref t2.1)) Q' E' s'
   refine HT.lt_tupInts p1 p2 (by simpa using i1) (by simpa using i2) (show X.A.units + 1 < cLine from hu) ?_
   have q' : Q' (.bool (HT.lexLt (f i) (f j))) s' := q'
   rw [f1, f2] at q'
   exact q'
 refine wpAny_pure ⟨plainId_quiet F.plain_min_loop _, ?_⟩
 have nS : (s.heap.push { cls := Value.type "list_iterator", data := Data.fields #[Value.ref p, Value.int 0 0] }).objs.size ∉ [s.heap.objs.size, p] := fun z => by
  rw [s1] at z
  rcases List.mem_cons.mp z with z | z
  ·exact Nat.succ_ne_self _ z
  ·have z : s.heap.objs.size + 1 = p := by simpa using z
   exact Nat.ne_of_lt (Nat.lt_succ_of_lt hlp) z.symm
 have kp0 : ∀ b o, s.heap.get? b = some o → ((s.heap.push { cls := Value.type "list_iterator", data := Data.fields #[Value.ref p, Value.int 0 0] }).push { cls := Value.type "list", data := Data.seq #[] }).get? b = some o := fun b o e => Heap.get?_push_of_some _ (Heap.get?_push_of_some _ e)
 refine mnp_first (n := its.toArray.size) W (by rw [s1]; exact C) nS (by simp; omega) ?_ (tkeep kp0) (Heap.get?_push_size _ rfl) ?_
 ·exact W.frame 0 _ _ ⟨⟨_, Heap.get?_push_size _ rfl, rfl, rfl⟩, pl.isList.push _⟩ fun b _ o e => Heap.get?_push_of_some _ e
 ·intro y h' tk py kp
  obtain ⟨t, htm, rfl, ft⟩ := pat _ y py
  have kp1 : ∀ b o, s.heap.get? b = some o → h'.get? b = some o := fun b o e => kp b o (fun z => by
   rw [s1] at z
   have := Heap.lt_size e
   rcases List.mem_cons.mp z with z | z
   ·exact Nat.ne_of_lt (Nat.lt_succ_of_lt this) z
   ·exact Nat.ne_of_lt this (by simpa using z)) (kp0 b o e)
  refine ⟨.ref t.1, H, I.kept kp1, rfl, q t htm fun u hum => ?_⟩
  obtain ⟨j, hj, ej⟩ := List.mem_iff_getElem.mp hum
  have fj : f j = u.2 := by rw [hf]; show ((tp[j]?).map (·.2)).getD [] = _; rw [List.getElem?_eq_getElem hj, ej]; rfl
  have := (best_lex f (its.toArray.size - 1)).2 j (by simp; omega)
  rw [ft, fj] at this
  exact this
end
end L2
namespace L3
open PySem PySem.Spec PyProof.Rows L2
section
variable {X : Cx} {K : PySem.W.Frag}
@[reducible] def xMinP : C3 := fun ds G q => ∃ (a : Addr) (ts : List (List Int)), ds = [.ref a] ∧ seqOf (G a) = some (ts.map fun t => .tup (t.map .int)) ∧ 0 < ts.length ∧ ∀ t ∈ ts, (∀ u ∈ ts, HT.lexLt u t = false) → q (.tup (t.map .int)) G
theorem ints_inv {H : Hp} : ∀ {ns : List Int} {xs : List V}, RelDs K H (ns.map D.int) xs → xs = ns.map V.int
 | [], xs, r => r.inv_nil
 | n :: ns, xs, r => by
  obtain ⟨x, xs', rfl, h1, h2⟩ := r.inv_cons
  rw [h1.int_inv, ints_inv h2]; rfl
theorem rel_intq {H : Hp} : ∀ ns : List Int, RelDs K H (ns.map D.int) (ns.map V.int)
 | [] => .nil
 | _ :: ns => .cons RelD.intI (rel_intq ns)
theorem tups_inv {H : Hp} : ∀ {ts : List (List Int)} {xs : List V}, RelDs K H (ts.map fun t => D.tup (t.map .int)) xs → ∃ tp : List (Addr × List Int), tp.map (·.2) = ts ∧ xs = tp.map (fun t => V.ref t.1) ∧ ∀ t ∈ tp, SqT K H t.1 (t.2.map V.int)
 | [], xs, r => ⟨[], rfl, r.inv_nil, fun t h => by simp at h⟩
 | t :: ts, xs, r => by
  obtain ⟨x, xs', rfl, h1, h2⟩ := r.inv_cons
  obtain ⟨a, ys, rfl, s1, q1⟩ := h1.tup_inv
  obtain rfl := ints_inv q1
  obtain ⟨tp, e1, rfl, e3⟩ := tups_inv h2
  refine ⟨(a, t) :: tp, by rw [List.map_cons, e1], rfl, fun u hu => ?_⟩
  rcases List.mem_cons.mp hu with e | hu
  ·subst e; exact s1
  ·exact e3 u hu
theorem x_minP {k : Nat} (hr : Room k X.A) (hc : X.calm = true := by rfl) : Call3 X (.builtin "min") xMinP := weakCall (call_minP hc (hu_of hr)) <| by
 rintro xs H Q ⟨ds, G, q, r, c, t, f⟩
 obtain ⟨a, ts, rfl, hs, hl, t⟩ := t
 obtain ⟨v, rfl, r1⟩ := r.one
 cases r1.ref_inv
 obtain ⟨ys, s1, q1⟩ := sql_of c hs
 obtain ⟨tp, e1, rfl, e3⟩ := tups_inv q1
 refine ⟨a, tp, rfl, s1, e3, by rw [← e1, List.length_map] at hl; exact hl, fun u hu hm => ?_⟩
 have hu' : u.2 ∈ ts := by rw [← e1]; exact List.mem_map.mpr ⟨u, hu, rfl⟩
 refine f (.tup (u.2.map .int)) G (.ref u.1) H ?_ c (Le.refl H) (t u.2 hu' fun w hw => ?_)
 ·rw [RelD]
  exact ⟨u.1, _, rfl, e3 u hu, rel_intq u.2⟩
 ·rw [← e1] at hw
  obtain ⟨z, hz, rfl⟩ := List.mem_map.mp hw
  exact hm z hz
end
end L3
namespace L2
open PySem PySem.Spec PyProof.Rows
def tListRng (ta : TA) : TE := fun σ H Q => ta σ H fun vs H1 => ∃ i j : Int, vs = [.int i, .int j] ∧ (-1000000 ≤ i ∧ i ≤ 1000000 ∧ -1000000 ≤ j ∧ j ≤ 1000000) ∧ ∀ l, H1 l = none → Q (.ref l) (upd H1 l (.lst ((List.range (j - i).toNat).map fun k : Nat => V.int (i + k))))
theorem boot_lst : bootBuiltins "list" = some (.type "list") := by decide +kernel
theorem pe_listRng {X : Cx} {a b : Expr} {ta : TA} {p p2 pos pos2 : Pos} {k : Nat} (hr : Room k X.A) (hg : Gl X "range") (hm : X.mg "range" = none) (hg2 : Gl X "list") (hm2 : X.mg "list" = none) (ha : PA X [a, b] ta)
  (hs : starEach [a, b] X.env = [(false, eval a X.env), (false, eval b X.env)] := by rfl) (hs1 : starEach [b] X.env = [(false, eval b X.env)] := by rfl)
  (hs2 : starEach [.Call (.Name "range" p) [a, b] [] pos] X.env = [(false, eval (.Call (.Name "range" p) [a, b] [] pos) X.env)] := by rfl) :
  PE X (.Call (.Name "list" p2) [.Call (.Name "range" p) [a, b] [] pos] [] pos2) (tListRng ta) := by
 intro pins s σ H Q I h
 refine wpAny_Call_Name_kw (ld_blt I hg2 hm2 boot_lst ?_)
 refine PyProof.Rows.callWith_type1 ?_ hs2 rfl
 rw [hs2]
 show wpAny _ _ (spliced ((false, eval (.Call (.Name "range" p) [a, b] [] pos) X.env) :: backTo pos2 [])) _ _ s
 refine Calls.spliced_cons ?_
 refine wpAny_Call_Name_kw (ld_blt I hg hm boot_range (PyProof.Rows.callWith_type1 (thn (ha pos pins s σ H _ I h) fun us s1 ⟨vs, H1, I1, r1, q1⟩ => ?_) (by rw [hs, hs1]) (by rw [hs1]; rfl)))
 obtain ⟨i, j, e, ⟨b1, b2, b3, b4⟩, q⟩ := q1
 subst e
 cases r1 with
 | cons r rr =>
  cases rr with
  | cons r2 rr =>
   cases rr
   obtain ⟨t, rfl⟩ := r
   obtain ⟨t2, rfl⟩ := r2
   refine call_range_2 ?_
   refine Calls.spliced_nil ?_
   have hn : Builtin.Range.rangeSize i j 1 = (((j - i).toNat : Nat) : Int) := by rw [rangeSize_one]; split <;> omega
   refine call_list_range (hh := hr.hd) (IsRange.new ..) (small_one (by omega) (by omega) (by omega) (by omega)) hn (by omega) fun h' tk acc c kp hnew hit => ?_
   have kp' : ∀ b o, s1.heap.get? b = some o → h'.get? b = some o := fun b o e => kp b o (Heap.get?_push_of_some _ e)
   have hv : Vals ((List.range (j - i).toNat).map fun k : Nat => V.int (i + k)) acc.toList := by
    have hz : acc.size = (j - i).toNat := hit.1
    have key : ∀ (m : Nat) (l : List Value), (∀ (y : Nat) v, l[y]? = some v → ∃ t, v = .int (i + (y : Int)) t) → l.length = m → Vals ((List.range m).map fun k : Nat => V.int (i + k)) l := by
     intro m
     induction m with
     | zero => intro l _ hl; have : l = [] := List.eq_nil_of_length_eq_zero hl; subst this; exact .nil
     | succ m ih =>
      intro l hl hz
      rcases List.eq_nil_or_concat l with e | ⟨l', v, e⟩
      ·subst e; simp at hz
      ·rw [List.concat_eq_append] at e
       subst e
       have hz' : l'.length = m := by simpa using hz
       rw [List.range_succ, List.map_append]
       refine (ih l' (fun y v e => hl y v ?_) hz').append (.cons ?_ .nil)
       ·rw [List.getElem?_append_left (List.getElem?_eq_some_iff.mp e).1]; exact e
       ·obtain ⟨t, e⟩ := hl m v (by rw [← hz']; simp)
        exact ⟨t, e⟩
    refine key _ acc.toList (fun y v e => ?_) (by simpa using hz)
    obtain ⟨t, e⟩ := hit.2 y v (by simpa using e)
    exact ⟨t, by rw [e, Int.mul_one]⟩
   have hll : ((List.range (j - i).toNat).map fun k : Nat => V.int (i + k)).length ≤ sizeLine := by
    rw [List.length_map, List.length_range]
    exact Nat.le_of_lt (Nat.lt_of_le_of_lt (m := 3000000) (by omega) (by decide))
   have I2 := I1.laid (h' := h') (a := s1.heap.objs.size + 1) (o := .lst ((List.range (j - i).toNat).map fun k : Nat => V.int (i + k))) (t' := tk) kp' (Nat.le_succ _) ⟨hll, acc.toList, c, hv, by simpa using hnew⟩
   exact ⟨_, _, I2, by simp; rfl, q _ (I1.hok.fresh (Nat.le_succ _))⟩
end L2
namespace L3
open PySem PySem.Spec PyProof.Rows L2
def dListRng (t : TA3) : TE3 := fun σ G q => t σ G fun ds G1 => match ds with
 | [.int i, .int j] => (-1000000 ≤ i ∧ i ≤ 1000000 ∧ -1000000 ≤ j ∧ j ≤ 1000000) ∧ ∀ p, G1 p = none → q (.ref p) (gup G1 p (.lst (rngD i (j - i).toNat)))
 | _ => False
theorem rel_rng {K : PySem.W.Frag} {H : Hp} {i : Int} : ∀ l : List Nat, RelDs K H (l.map fun k : Nat => D.int (i + k)) (l.map fun k : Nat => V.int (i + k))
 | [] => .nil
 | _ :: l => .cons RelD.intI (rel_rng l)
theorem low_listRng {K : PySem.W.Frag} {t : TA3} {σ : L2.St} {H : Hp} {Q : VK} (h : lowE K (dListRng t) σ H Q) : tListRng (lowA K t) σ H Q := by
 obtain ⟨σd, G, q, rs, c, t, f⟩ := h
 refine ⟨σd, G, _, rs, c, t, fun ds G1 vs H1 r1 c1 l1 t1 => ?_⟩
 split at t1
 ·rename_i i j
  obtain ⟨x, y, rfl, x1, x2⟩ := r1.two
  cases x1.int_inv
  cases x2.int_inv
  exact ⟨i, j, rfl, t1.1, fun p hp => f _ _ _ _ RelD.refI (c1.lstNew hp (rel_rng _)) (l1.trans (Le.fresh hp)) (t1.2 p (c1.fresh hp))⟩
 ·exact t1.elim
theorem e_listRng {X : Cx} {a b : Expr} {ts : TA3} {p p2 pos pos2 : Pos} {k : Nat} (hr : Room k X.A) (hg : Gl X "range") (hm : X.mg "range" = none) (hg2 : Gl X "list") (hm2 : X.mg "list" = none) (ha : A3 X [a, b] ts)
  (hs : starEach [a, b] X.env = [(false, eval a X.env), (false, eval b X.env)] := by rfl) (hs1 : starEach [b] X.env = [(false, eval b X.env)] := by rfl)
  (hs2 : starEach [.Call (.Name "range" p) [a, b] [] pos] X.env = [(false, eval (.Call (.Name "range" p) [a, b] [] pos) X.env)] := by rfl) :
  E3 X (.Call (.Name "list" p2) [.Call (.Name "range" p) [a, b] [] pos] [] pos2) (dListRng ts) := weakE (pe_listRng hr hg hm hg2 hm2 ha hs hs1 hs2) fun _ _ _ => low_listRng
end L3
namespace L3
open PySem PySem.Spec PyProof.Rows L2 Rw
noncomputable def k3 (p b e : Nat) : List Key := [.inl (p : Int), .inl (b : Int), .inl (e : Int)]
noncomputable def k2 (p b : Nat) : List Key := [.inl (p : Int), .inl (b : Int)]
theorem k3_inj {p b e p' b' e' : Nat} (h : k3 p b e = k3 p' b' e') : p = p' ∧ b = b' ∧ e = e' := by
 unfold k3 at h
 simp at h
 omega
theorem k2_inj {p b p' b' : Nat} (h : k2 p b = k2 p' b') : p = p' ∧ b = b' := by
 unfold k2 at h
 simp at h
 omega
theorem find_app {kvs : List (List Key × D)} {k k' : List Key} {v : D} (hn : (kvs.any fun kv => decide (kv.1 = k)) = false) : valD (kvs ++ [(k, v)]) k' = if k' = k then some v else valD kvs k' := by
 induction kvs with
 | nil =>
  by_cases h : k' = k
  ·subst h; simp [valD]
  ·rw [if_neg h]
   have : ¬ k = k' := fun z => h z.symm
   simp [valD, this]
 | cons q r ih =>
  rw [List.any_cons, Bool.or_eq_false_iff] at hn
  have hq : ¬ q.1 = k := of_decide_eq_false hn.1
  have ih := ih hn.2
  by_cases h1 : q.1 = k'
  ·have h2 : ¬ k' = k := fun z => hq (h1.trans z)
   rw [if_neg h2]
   simp [valD, List.find?_cons, h1]
  ·have e1 : valD (q :: r ++ [(k, v)]) k' = valD (r ++ [(k, v)]) k' := by simp [valD, List.find?_cons, h1]
   have e2 : valD (q :: r) k' = valD r k' := by simp [valD, List.find?_cons, h1]
   rw [e1, e2, ih]
theorem valD_none {kvs : List (List Key × D)} {k : List Key} (h : valD kvs k = none) : (kvs.any fun kv => decide (kv.1 = k)) = false := by
 unfold valD at h
 rw [Option.map_eq_none_iff] at h
 rw [List.any_eq_false]
 intro x hx
 have := List.find?_eq_none.mp h x hx
 simpa using this
theorem val_put {kvs : List (List Key × D)} {k k' : List Key} {v : D} (h : valD kvs k = none) : valD (putT kvs k v) k' = if k' = k then some v else valD kvs k' := by
 have hn := valD_none h
 unfold putT
 rw [if_neg (by rw [hn]; decide)]
 exact find_app hn
theorem len_put {kvs : List (List Key × D)} {k : List Key} {v : D} (h : valD kvs k = none) : (putT kvs k v).length = kvs.length + 1 := by
 have hn := valD_none h
 unfold putT
 rw [if_neg (by rw [hn]; decide)]
 simp
def mA (p b e m : Nat) : Prop := if e - b = 1 then m = e else 2 ≤ p ∧ b < m ∧ m < e ∧ m - b ≤ cap (p - 1) true ∧ e - m ≤ cap (p - 1) true
def mR (n p b m : Nat) : Prop := if n - b = 1 then m = n else 2 ≤ p ∧ b < m ∧ m < n ∧ m - b ≤ cap p true ∧ n - m ≤ cap (p - 1) false
noncomputable def vD (w : Int) (m : Nat) : D := .tup [.int w, .int (m : Int)]
def TA (Dm : Nat → Nat → Nat → Prop) (kvs : List (List Key × D)) : Prop := ∀ p b e, (Dm p b e → ∃ w m, valD kvs (k3 p b e) = some (vD w m) ∧ mA p b e m) ∧ (¬ Dm p b e → valD kvs (k3 p b e) = none)
def TR (n : Nat) (Dm : Nat → Nat → Prop) (kvs : List (List Key × D)) : Prop := ∀ p b, (Dm p b → ∃ w m, valD kvs (k2 p b) = some (vD w m) ∧ mR n p b m) ∧ (¬ Dm p b → valD kvs (k2 p b) = none)
def inA (n s p b e : Nat) : Prop := 1 ≤ p ∧ p ≤ s ∧ b < e ∧ e ≤ n ∧ e - b ≤ cap p true
def inR (n s p b : Nat) : Prop := 1 ≤ p ∧ p ≤ s ∧ b < n ∧ n - b ≤ cap p false
def upA (n P M B p b e : Nat) : Prop := inA n P p b e ∧ (p < P ∨ e - b < M ∨ (e - b = M ∧ b < B))
def upR (n P M p b : Nat) : Prop := inR n P p b ∧ (p < P ∨ n - b < M)
theorem TA.congr {D1 D2 : Nat → Nat → Nat → Prop} {kvs : List (List Key × D)} (h : TA D1 kvs) (e : ∀ p b e, D1 p b e ↔ D2 p b e) : TA D2 kvs := fun p b e' => ⟨fun z => (h p b e').1 ((e p b e').mpr z), fun z => (h p b e').2 fun q => z ((e p b e').mp q)⟩
theorem TR.congr {n : Nat} {D1 D2 : Nat → Nat → Prop} {kvs : List (List Key × D)} (h : TR n D1 kvs) (e : ∀ p b, D1 p b ↔ D2 p b) : TR n D2 kvs := fun p b => ⟨fun z => (h p b).1 ((e p b).mpr z), fun z => (h p b).2 fun q => z ((e p b).mp q)⟩
theorem cap_two {p : Nat} (h : 2 ≤ p) : cap p true = 2 * cap (p - 1) true ∧ cap p false = cap p true + cap (p - 1) false := by
 obtain ⟨q, rfl⟩ : ∃ q, p = q + 2 := ⟨p - 2, by omega⟩
 have := Nat.two_pow_pos q
 show 2 ^ (q + 1) = 2 * 2 ^ q ∧ 2 ^ (q + 2) - 1 = 2 ^ (q + 1) + (2 ^ (q + 1) - 1)
 rw [Nat.pow_succ, Nat.pow_succ, Nat.pow_succ]
 omega
theorem cap_one {b : Bool} : cap 1 b = 1 := by cases b <;> rfl
theorem pow_lem {a c : Nat} (ha : 1 ≤ a) (hc : 1 ≤ c) : 2 * 2 ^ a + 2 ^ c ≤ 2 ^ (a + c) + 2 := by
 obtain ⟨x, rfl⟩ : ∃ x, a = x + 1 := ⟨a - 1, by omega⟩
 obtain ⟨y, rfl⟩ : ∃ y, c = y + 1 := ⟨c - 1, by omega⟩
 have e : 2 ^ (x + 1 + (y + 1)) = 4 * (2 ^ x * 2 ^ y) := by
  rw [show x + 1 + (y + 1) = (x + y) + 1 + 1 by omega, Nat.pow_succ, Nat.pow_succ, Nat.pow_add]; omega
 rw [e, Nat.pow_succ, Nat.pow_succ]
 have h1 := Nat.two_pow_pos x
 have h2 := Nat.two_pow_pos y
 obtain ⟨u, hu⟩ : ∃ u, 2 ^ x = u + 1 := ⟨2 ^ x - 1, by omega⟩
 obtain ⟨v, hv⟩ : ∃ v, 2 ^ y = v + 1 := ⟨2 ^ y - 1, by omega⟩
 have e3 : (u + 1) * (v + 1) = u * v + u + v + 1 := by rw [Nat.add_mul, Nat.mul_add]; omega
 rw [hu, hv, e3]
 omega
theorem upA_next {n P M B p b e : Nat} : upA n P M (B + 1) p b e ↔ upA n P M B p b e ∨ (p = P ∧ b = B ∧ e = B + M ∧ inA n P P B (B + M)) := by
 unfold upA inA
 constructor
 ·rintro ⟨h1, h2⟩
  by_cases h : p < P ∨ e - b < M ∨ (e - b = M ∧ b < B)
  ·exact .inl ⟨h1, h⟩
  ·right
   have e1 : p = P := by omega
   have e2 : b = B := by omega
   have e3 : e = B + M := by omega
   subst e1; subst e2; subst e3
   exact ⟨rfl, rfl, rfl, h1⟩
 ·rintro (⟨h1, h2⟩ | ⟨rfl, rfl, rfl, h⟩)
  ·exact ⟨h1, by omega⟩
  ·refine ⟨h, ?_⟩
   have : b + M - b = M := by omega
   omega
theorem mid_lem {b e x y : Nat} (h1 : b + 2 ≤ e) (h2 : e ≤ b + (x + y)) (hx : 1 ≤ x) (hy : 1 ≤ y) : ∃ L C : Nat, (if (e : Int) - (y : Int) > (b : Int) + 1 then (e : Int) - (y : Int) else (b : Int) + 1) = (L : Int) ∧ ((if (b : Int) + (x : Int) < (e : Int) - 1 then (b : Int) + (x : Int) else (e : Int) - 1) + 1 - (L : Int)).toNat = C + 1 ∧
  (∀ m, L ≤ m → m < L + (C + 1) → b < m ∧ m < e ∧ m - b ≤ x ∧ e - m ≤ y) ∧ L ≤ e ∧ (if (b : Int) + (x : Int) < (e : Int) - 1 then (b : Int) + (x : Int) else (e : Int) - 1) ≤ (e : Int) ∧ 0 ≤ (if (b : Int) + (x : Int) < (e : Int) - 1 then (b : Int) + (x : Int) else (e : Int) - 1) := by
 refine ⟨max (b + 1) (e - y), min (e - 1) (b + x) - max (b + 1) (e - y), ?_, ?_, fun m h3 h4 => ?_, ?_, ?_, ?_⟩
 ·split <;> omega
 ·split <;> omega
 ·omega
 ·omega
 ·split <;> omega
 ·split <;> omega
theorem add_lst7 {G : Gp} {a b : Addr} {xs ys : List D} {q : DK} (h1 : G a = some (.lst xs)) (h2 : G b = some (.lst ys)) (hl : xs.length + ys.length ≤ sizeLine) (k : ∀ p, G p = none → q (.ref p) (gup G p (.lst (xs ++ ys)))) : xAdd (.ref a) (.ref b) G q := by
 show (match G a, G b with
  | some (.lst xs), some (.lst ys) => xs.length + ys.length ≤ sizeLine ∧ ∀ p, G p = none → q (.ref p) (gup G p (.lst (xs ++ ys)))
  | _, _ => False)
 rw [h1, h2]
 exact ⟨hl, k⟩
end L3
namespace L3
open PySem PySem.Spec PyProof.Rows L2 Rw
inductive Pa (c : Nat → Int) : Nat → Nat → Nat → Int → Prop
 | one {p b : Nat} : Pa c (p + 1) b (b + 1) (c b)
 | two {p b m e : Nat} {w1 w2 w3 : Int} : Pa c (p + 1) b m w1 → Pa c p m e w2 → Pa c p b m w3 → Pa c (p + 1) b e (w1 + w2 + w3)
inductive Pr (c : Nat → Int) (n : Nat) : Nat → Nat → Int → Prop
 | one {p b : Nat} : b + 1 = n → Pr c n (p + 1) b (c b)
 | two {p b m : Nat} {w1 w2 : Int} : Pa c (p + 1) b m w1 → Pr c n p m w2 → Pr c n (p + 1) b (w1 + w2)
variable {c c' : Nat → Int} {n p b e : Nat} {w : Int}
theorem Pa.lt (h : Pa c p b e w) : b < e ∧ 1 ≤ p := by
 induction h with
 | one => omega
 | two _ _ _ i1 i2 i3 => omega
theorem Pr.lt (h : Pr c n p b w) : b < n ∧ 1 ≤ p := by
 induction h with
 | one => omega
 | two h1 _ i => have := h1.lt; omega
theorem Pa.cap (h : Pa c p b e w) : e - b ≤ L3.cap p true := by
 induction h with
 | @one p b => have := cap_pos (s := p + 1) (b := true) (by omega); omega
 | @two p b m e w1 w2 w3 h1 h2 h3 i1 i2 i3 =>
  have q := (cap_two (p := p + 1) (by have := h2.lt; omega)).1
  rw [show p + 1 - 1 = p by omega] at q
  omega
theorem Pr.cap (h : Pr c n p b w) : n - b ≤ L3.cap p false := by
 induction h with
 | @one p b h => have := cap_pos (s := p + 1) (b := false) (by omega); omega
 | @two p b m w1 w2 h1 h2 i2 =>
  have q := (cap_two (p := p + 1) (by have := h2.lt; omega)).2
  rw [show p + 1 - 1 = p by omega] at q
  have := h1.cap
  omega
theorem Pa.more (h : Pa c p b e w) : Pa c (p + 1) b e w := by
 induction h with
 | one => exact .one
 | two _ _ _ i1 i2 i3 => exact .two i1 i2 i3
theorem Pr.more (h : Pr c n p b w) : Pr c n (p + 1) b w := by
 induction h with
 | one h => exact .one h
 | two h1 _ i2 => exact .two h1.more i2
theorem Pa.pos (hc : ∀ i, 0 ≤ c i) (h : Pa c p b e w) : 0 ≤ w := by
 induction h with
 | one => exact hc _
 | two _ _ _ i1 i2 i3 => omega
theorem Pa.pr (hc : ∀ i, 0 ≤ c i) (h : Pa c p b e w) : ∃ v, Pr c e p b v ∧ v ≤ w := by
 induction h with
 | one => exact ⟨_, .one rfl, Int.le_refl _⟩
 | two h1 _ h3 i1 i2 i3 =>
  obtain ⟨v2, q2, r2⟩ := i2
  have := h3.pos hc
  exact ⟨_, .two h1 q2, by omega⟩
theorem Pr.last (hc : ∀ i, 0 ≤ c i) {N : Nat} (h : Pr c N p b w) : ∀ n, N = n + 1 → b < n → ∃ v, Pr c n p b v ∧ v + c n ≤ w := by
 induction h with
 | one h => intro n e hb; omega
 | @two p b m w1 w2 h1 h2 i2 =>
  intro n e hb
  subst e
  rcases Nat.lt_or_ge m n with z | z
  ·obtain ⟨v, q, r⟩ := i2 n rfl z
   exact ⟨w1 + v, .two h1 q, by omega⟩
  ·have hm : m = n := by have := h2.lt; omega
   subst hm
   obtain ⟨v, q, r⟩ := h1.pr hc
   refine ⟨v, q, ?_⟩
   have hw : w2 = c m := by
    cases h2 with
    | one _ => rfl
    | two h3 h4 => have := h3.lt; have := h4.lt; omega
   omega
def LeastA (c : Nat → Int) (p b e : Nat) (w : Int) : Prop := Pa c p b e w ∧ ∀ v, Pa c p b e v → w ≤ v
def LeastR (c : Nat → Int) (n p b : Nat) (w : Int) : Prop := Pr c n p b w ∧ ∀ v, Pr c n p b v → w ≤ v
theorem LeastA.one {p b : Nat} : LeastA c (p + 1) b (b + 1) (c b) := by
 refine ⟨.one, fun v h => ?_⟩
 generalize he : b + 1 = e at h
 cases h with
 | one => exact Int.le_refl _
 | two h1 h2 _ => have := h1.lt; have := h2.lt; omega
theorem LeastR.one {p b : Nat} : LeastR c (b + 1) (p + 1) b (c b) := by
 refine ⟨.one rfl, fun v h => ?_⟩
 cases h with
 | one _ => exact Int.le_refl _
 | two h1 h2 => have := h1.lt; have := h2.lt; omega
theorem LeastA.two {p b e : Nat} {w : Int} (hb : b + 1 < e) (hw : ∃ m w1 w2 w3, LeastA c (p + 1) b m w1 ∧ LeastA c p m e w2 ∧ LeastA c p b m w3 ∧ w = w1 + w2 + w3)
  (hl : ∀ m, b < m → m < e → m - b ≤ L3.cap p true → e - m ≤ L3.cap p true → ∃ w1 w2 w3, LeastA c (p + 1) b m w1 ∧ LeastA c p m e w2 ∧ LeastA c p b m w3 ∧ w ≤ w1 + w2 + w3) : LeastA c (p + 1) b e w := by
 obtain ⟨m, w1, w2, w3, h1, h2, h3, rfl⟩ := hw
 refine ⟨.two h1.1 h2.1 h3.1, fun v h => ?_⟩
 cases h with
 | one => omega
 | @two _ _ m' _ u1 u2 u3 q1 q2 q3 =>
  obtain ⟨x1, x2, x3, y1, y2, y3, y⟩ := hl m' q1.lt.1 q2.lt.1 q3.cap q2.cap
  have := y1.2 _ q1
  have := y2.2 _ q2
  have := y3.2 _ q3
  omega
theorem LeastR.two {n p b : Nat} {w : Int} (hb : b + 1 < n) (hw : ∃ m w1 w2, LeastA c (p + 1) b m w1 ∧ LeastR c n p m w2 ∧ w = w1 + w2)
  (hl : ∀ m, b < m → m < n → m - b ≤ L3.cap (p + 1) true → n - m ≤ L3.cap p false → ∃ w1 w2, LeastA c (p + 1) b m w1 ∧ LeastR c n p m w2 ∧ w ≤ w1 + w2) : LeastR c n (p + 1) b w := by
 obtain ⟨m, w1, w2, h1, h2, rfl⟩ := hw
 refine ⟨.two h1.1 h2.1, fun v h => ?_⟩
 cases h with
 | one h => omega
 | @two _ _ m' u1 u2 q1 q2 =>
  obtain ⟨x1, x2, y1, y2, y⟩ := hl m' q1.lt.1 q2.lt.1 q1.cap q2.cap
  have := y1.2 _ q1
  have := y2.2 _ q2
  omega
theorem Pa.congr (h : Pa c p b e w) : (∀ i, i < e → c i = c' i) → Pa c' p b e w := by
 induction h with
 | @one p b => intro hc; rw [hc b (by omega)]; exact .one
 | two h1 h2 h3 i1 i2 i3 =>
  intro hc
  have := h2.lt
  exact .two (i1 fun i hi => hc i (by omega)) (i2 hc) (i3 fun i hi => hc i (by omega))
theorem Pr.congr (h : Pr c n p b w) : (∀ i, i < n → c i = c' i) → Pr c' n p b w := by
 induction h with
 | @one p b hb => intro hc; rw [hc b (by omega)]; exact .one hb
 | two h1 h2 i2 =>
  intro hc
  have := h2.lt
  exact .two (h1.congr fun i hi => hc i (by omega)) (i2 hc)
theorem LeastA.congr (h : LeastA c p b e w) (hc : ∀ i, i < e → c i = c' i) : LeastA c' p b e w :=
 ⟨h.1.congr hc, fun v hv => h.2 v (hv.congr fun i hi => (hc i hi).symm)⟩
theorem LeastR.congr (h : LeastR c n p b w) (hc : ∀ i, i < n → c i = c' i) : LeastR c' n p b w :=
 ⟨h.1.congr hc, fun v hv => h.2 v (hv.congr fun i hi => (hc i hi).symm)⟩
end L3
namespace L3
open PySem PySem.Spec PyProof.Rows L2 Rw
noncomputable def cf (pl : List Int) (i : Nat) : Int := pl.getD i 0
theorem cf_at {pl : List Int} {i : Nat} (h : i < pl.length) : cf pl i = pl[i] := by simp [cf, h]
def TAv (c : Nat → Int) (Dm : Nat → Nat → Nat → Prop) (kvs : List (List Key × D)) : Prop := ∀ p b e, (Dm p b e → ∃ w m, valD kvs (k3 p b e) = some (vD w m) ∧ LeastA c p b e w) ∧ (¬ Dm p b e → valD kvs (k3 p b e) = none)
def TRv (c : Nat → Int) (n : Nat) (Dm : Nat → Nat → Prop) (kvs : List (List Key × D)) : Prop := ∀ p b, (Dm p b → ∃ w m, valD kvs (k2 p b) = some (vD w m) ∧ LeastR c n p b w) ∧ (¬ Dm p b → valD kvs (k2 p b) = none)
theorem TAv.congr {c : Nat → Int} {D1 D2 : Nat → Nat → Nat → Prop} {kvs : List (List Key × D)} (h : TAv c D1 kvs) (e : ∀ p b e, D1 p b e ↔ D2 p b e) : TAv c D2 kvs := fun p b e' => ⟨fun z => (h p b e').1 ((e p b e').mpr z), fun z => (h p b e').2 fun q => z ((e p b e').mp q)⟩
theorem TRv.congr {n : Nat} {c : Nat → Int} {D1 D2 : Nat → Nat → Prop} {kvs : List (List Key × D)} (h : TRv c n D1 kvs) (e : ∀ p b, D1 p b ↔ D2 p b) : TRv c n D2 kvs := fun p b => ⟨fun z => (h p b).1 ((e p b).mpr z), fun z => (h p b).2 fun q => z ((e p b).mp q)⟩
theorem lex_le {a b x y : Int} (h : HT.lexLt [a, x] [b, y] = false) : b ≤ a := by
 rcases Int.lt_or_le a b with z | z
 ·simp [HT.lexLt, z] at h
  omega
 ·exact z
end L3
namespace L3
open PySem PySem.Spec PyProof.Rows L2 Rw
noncomputable def oD : Option Int → D
 | none => .non
 | some w => .int w
def AnsA (pl : List Int) (s : Nat) (x : Option Int) : Prop := (∃ W, x = some W ∧ LeastA (cf pl) s 0 pl.length W) ∨ (¬ pl.length ≤ cap s true ∧ x = none)
def AnsR (pl : List Int) (s : Nat) (x : Option Int) : Prop := (∃ W, x = some W ∧ LeastR (cf pl) pl.length s 0 W) ∨ (¬ pl.length ≤ cap s false ∧ x = none)
variable {pl pl' : List Int} {s : Nat} {x y : Option Int}
theorem AnsA.get (h : AnsA pl s x) {W : Int} (e : x = some W) : LeastA (cf pl) s 0 pl.length W := by
 rcases h with ⟨V, rfl, hV⟩ | ⟨_, rfl⟩
 ·cases e; exact hV
 ·cases e
theorem AnsR.get (h : AnsR pl s x) {W : Int} (e : x = some W) : LeastR (cf pl) pl.length s 0 W := by
 rcases h with ⟨V, rfl, hV⟩ | ⟨_, rfl⟩
 ·cases e; exact hV
 ·cases e
end L3
namespace L3
open PySem PySem.Spec PyProof.Rows L2 Rw
section
variable {X : Cx} {K : PySem.W.Frag} {H : Hp}
end
def OA (c : Nat → Int) (p b e : Nat) (x : Option Int) : Prop := (∃ W, x = some W ∧ LeastA c p b e W) ∨ (x = none ∧ ∀ w, ¬ Pa c p b e w)
def OR (c : Nat → Int) (n p b : Nat) (x : Option Int) : Prop := (∃ W, x = some W ∧ LeastR c n p b W) ∨ (x = none ∧ ∀ w, ¬ Pr c n p b w)
variable {c : Nat → Int} {n p b e f z M : Nat} {x y : Option Int} {w : Int}
theorem OA.of (h : OA c p b e x) (q : Pa c p b e w) : ∃ W, x = some W ∧ W ≤ w := by
 rcases h with ⟨W, rfl, hW⟩ | ⟨_, h⟩
 ·exact ⟨W, rfl, hW.2 _ q⟩
 ·exact absurd q (h _)
theorem OR.of (h : OR c n p b x) (q : Pr c n p b w) : ∃ W, x = some W ∧ W ≤ w := by
 rcases h with ⟨W, rfl, hW⟩ | ⟨_, h⟩
 ·exact ⟨W, rfl, hW.2 _ q⟩
 ·exact absurd q (h _)
theorem OA.pa (h : OA c p b e (some w)) : Pa c p b e w := by
 rcases h with ⟨W, e, hW⟩ | ⟨e, _⟩
 ·cases e; exact hW.1
 ·cases e
theorem OR.pr (h : OR c n p b (some w)) : Pr c n p b w := by
 rcases h with ⟨W, e, hW⟩ | ⟨e, _⟩
 ·cases e; exact hW.1
 ·cases e
theorem OA.eq (h : OA c p b e x) (h' : OA c p b e y) : x = y := by
 rcases h with ⟨W, rfl, hW⟩ | ⟨rfl, h⟩
 ·obtain ⟨V, rfl, hV⟩ := h'.of hW.1
  have := hW.2 _ h'.pa
  congr 1; omega
 ·rcases h' with ⟨W, rfl, hW⟩ | ⟨rfl, _⟩
  ·exact absurd hW.1 (h _)
  ·rfl
theorem OR.eq (h : OR c n p b x) (h' : OR c n p b y) : x = y := by
 rcases h with ⟨W, rfl, hW⟩ | ⟨rfl, h⟩
 ·obtain ⟨V, rfl, hV⟩ := h'.of hW.1
  have := hW.2 _ h'.pr
  congr 1; omega
 ·rcases h' with ⟨W, rfl, hW⟩ | ⟨rfl, _⟩
  ·exact absurd hW.1 (h _)
  ·rfl
theorem OA.zero : OA c 0 b e none := .inr ⟨rfl, fun w q => by have := q.lt; omega⟩
theorem OR.zero : OR c n 0 b none := .inr ⟨rfl, fun w q => by have := q.lt; omega⟩
def Hts (P : Nat → Option Int → Prop) (M : Nat) (xs : List (Option Int)) : Prop := (∀ y ∈ xs, y = none ∨ ∃ m, 1 ≤ m ∧ m < M ∧ P m y) ∧ ∀ m, 1 ≤ m → m < M → ∃ y ∈ xs, P m y
theorem Hts.nil {P : Nat → Option Int → Prop} : Hts P 1 [none] := ⟨fun y h => .inl (by simpa using h), fun m h1 h2 => by omega⟩
theorem Hts.add {P : Nat → Option Int → Prop} {xs : List (Option Int)} (h : Hts P M xs) (hM : 1 ≤ M) (hy : P M y) : Hts P (M + 1) (xs ++ [y]) := by
 refine ⟨fun v hv => ?_, fun m h1 h2 => ?_⟩
 ·rcases List.mem_append.mp hv with q | q
  ·rcases h.1 v q with r | ⟨m, r1, r2, r3⟩
   ·exact .inl r
   ·exact .inr ⟨m, r1, by omega, r3⟩
  ·rw [List.mem_singleton.mp q]; exact .inr ⟨M, hM, by omega, hy⟩
 ·rcases Nat.lt_or_ge m M with q | q
  ·obtain ⟨v, r1, r2⟩ := h.2 m h1 q
   exact ⟨v, List.mem_append_left _ r1, r2⟩
  ·have : m = M := by omega
   subst this
   exact ⟨y, List.mem_append_right _ (List.mem_singleton.mpr rfl), hy⟩
theorem OA.one : OA c (p + 1) b (b + 1) (some (c b)) := .inl ⟨_, rfl, LeastA.one⟩
theorem OR.one : OR c (b + 1) (p + 1) b (some (c b)) := .inl ⟨_, rfl, LeastR.one⟩
def TG (Dm : Nat → Nat → Prop) (Pv : Nat → Nat → D → Prop) (kvs : List (List Key × D)) : Prop := ∀ f z, (Dm f z → ∃ d, valD kvs (k2 f z) = some d ∧ Pv f z d) ∧ (¬ Dm f z → valD kvs (k2 f z) = none)
theorem TG.congr {D1 D2 : Nat → Nat → Prop} {Pv : Nat → Nat → D → Prop} {kvs : List (List Key × D)} (h : TG D1 Pv kvs) (e : ∀ f z, D1 f z ↔ D2 f z) : TG D2 Pv kvs := fun f z => ⟨fun q => (h f z).1 ((e f z).mpr q), fun q => (h f z).2 fun r => q ((e f z).mp r)⟩
end L3
namespace L2
open PySem PySem.Spec PyProof.Rows
section
variable {X : Cx}
end
end L2
namespace L3
open PySem PySem.Spec PyProof.Rows L2
section
variable {X : Cx} {K : PySem.W.Frag} {H : Hp} {σ : L2.St} {a b c : Expr} {ta tb tc : TE3} {pos : Pos}
end
end L3
namespace L3
open PySem PySem.Spec PyProof.Rows L2 Rw
noncomputable def wk (c : Nat → Int) : List Mv → Int
 | [] => 0
 | p :: r => c (p.2 - 1) + wk c r
noncomputable def wkp (c : Nat → Int) : List Pm → Int
 | [] => 0
 | none :: r => wkp c r
 | some p :: r => c (p.2 - 1) + wkp c r
variable {c : Nat → Int} {n p b e : Nat} {w v : Int}
theorem wk_app : ∀ {l r : List Mv}, wk c (l ++ r) = wk c l + wk c r
 | [], r => by show wk c r = 0 + wk c r; omega
 | x :: l, r => by show c (x.2 - 1) + wk c (l ++ r) = c (x.2 - 1) + wk c l + wk c r; rw [wk_app]; omega
theorem wk_bkw : ∀ {l : List Mv}, wk c (bkw l) = wk c l
 | [] => rfl
 | x :: l => by
  have : bkw (x :: l) = bkw l ++ [(!x.1, x.2)] := by simp [bkw]
  rw [this, wk_app, wk_bkw]
  show wk c l + (c (x.2 - 1) + 0) = c (x.2 - 1) + wk c l
  omega
theorem wkp_app : ∀ {l r : List Pm}, wkp c (l ++ r) = wkp c l + wkp c r
 | [], r => by show wkp c r = 0 + wkp c r; omega
 | none :: l, r => by show wkp c (l ++ r) = wkp c l + wkp c r; rw [wkp_app]
 | some x :: l, r => by show c (x.2 - 1) + wkp c (l ++ r) = c (x.2 - 1) + wkp c l + wkp c r; rw [wkp_app]; omega
theorem wkp_some : ∀ {l : List Mv}, wkp c (l.map some) = wk c l
 | [] => rfl
 | x :: l => by show c (x.2 - 1) + wkp c (l.map some) = c (x.2 - 1) + wk c l; rw [wkp_some]
theorem LeastA.eq (h : LeastA c p b e w) (h' : LeastA c p b e v) : w = v := by
 have := h.2 _ h'.1
 have := h'.2 _ h.1
 omega
theorem LeastR.eq (h : LeastR c n p b w) (h' : LeastR c n p b v) : w = v := by
 have := h.2 _ h'.1
 have := h'.2 _ h.1
 omega
def VA (c : Nat → Int) (p b e : Nat) (w : Int) (m : Nat) : Prop := LeastA c p b e w ∧ mA p b e m ∧ (e - b ≠ 1 → ∃ w1 w2 w3, LeastA c p b m w1 ∧ LeastA c (p - 1) m e w2 ∧ LeastA c (p - 1) b m w3 ∧ w = w1 + w2 + w3)
def VR (c : Nat → Int) (n p b : Nat) (w : Int) (m : Nat) : Prop := LeastR c n p b w ∧ mR n p b m ∧ (n - b ≠ 1 → ∃ w1 w2, LeastA c p b m w1 ∧ LeastR c n (p - 1) m w2 ∧ w = w1 + w2)
def TAw (c : Nat → Int) (Dm : Nat → Nat → Nat → Prop) (kvs : List (List Key × D)) : Prop := ∀ p b e, (Dm p b e → ∃ w m, valD kvs (k3 p b e) = some (vD w m) ∧ VA c p b e w m) ∧ (¬ Dm p b e → valD kvs (k3 p b e) = none)
def TRw (c : Nat → Int) (n : Nat) (Dm : Nat → Nat → Prop) (kvs : List (List Key × D)) : Prop := ∀ p b, (Dm p b → ∃ w m, valD kvs (k2 p b) = some (vD w m) ∧ VR c n p b w m) ∧ (¬ Dm p b → valD kvs (k2 p b) = none)
theorem TAw.congr {D1 D2 : Nat → Nat → Nat → Prop} {kvs : List (List Key × D)} (h : TAw c D1 kvs) (e : ∀ p b e, D1 p b e ↔ D2 p b e) : TAw c D2 kvs := fun p b e' => ⟨fun z => (h p b e').1 ((e p b e').mpr z), fun z => (h p b e').2 fun q => z ((e p b e').mp q)⟩
theorem TRw.congr {D1 D2 : Nat → Nat → Prop} {kvs : List (List Key × D)} (h : TRw c n D1 kvs) (e : ∀ p b, D1 p b ↔ D2 p b) : TRw c n D2 kvs := fun p b => ⟨fun z => (h p b).1 ((e p b).mpr z), fun z => (h p b).2 fun q => z ((e p b).mp q)⟩
theorem TAw.put {Dm : Nat → Nat → Nat → Prop} {kvs : List (List Key × D)} {m : Nat} (h : TAw c Dm kvs) (hn : ¬ Dm p b e) (hm : VA c p b e w m) : TAw c (fun p' b' e' => Dm p' b' e' ∨ (p' = p ∧ b' = b ∧ e' = e)) (putT kvs (k3 p b e) (vD w m)) := by
 intro p' b' e'
 rw [val_put ((h p b e).2 hn)]
 by_cases hk : k3 p' b' e' = k3 p b e
 ·obtain ⟨rfl, rfl, rfl⟩ := k3_inj hk
  rw [if_pos rfl]
  exact ⟨fun _ => ⟨w, m, rfl, hm⟩, fun z => absurd (.inr ⟨rfl, rfl, rfl⟩) z⟩
 ·rw [if_neg hk]
  refine ⟨fun z => (h p' b' e').1 (z.resolve_right fun q => hk ?_), fun z => (h p' b' e').2 fun q => z (.inl q)⟩
  obtain ⟨rfl, rfl, rfl⟩ := q
  rfl
theorem TRw.put {Dm : Nat → Nat → Prop} {kvs : List (List Key × D)} {m : Nat} (h : TRw c n Dm kvs) (hn : ¬ Dm p b) (hm : VR c n p b w m) : TRw c n (fun p' b' => Dm p' b' ∨ (p' = p ∧ b' = b)) (putT kvs (k2 p b) (vD w m)) := by
 intro p' b'
 rw [val_put ((h p b).2 hn)]
 by_cases hk : k2 p' b' = k2 p b
 ·obtain ⟨rfl, rfl⟩ := k2_inj hk
  rw [if_pos rfl]
  exact ⟨fun _ => ⟨w, m, rfl, hm⟩, fun z => absurd (.inr ⟨rfl, rfl⟩) z⟩
 ·rw [if_neg hk]
  refine ⟨fun z => (h p' b').1 (z.resolve_right fun q => hk ?_), fun z => (h p' b').2 fun q => z (.inl q)⟩
  obtain ⟨rfl, rfl⟩ := q
  rfl
theorem pln_left {l s : Nat} {w : List Mv} (h0 : 0 < l) (h : WOK 0 l s true w) : PLN l s true (w.map some) := by
 unfold PLN
 rw [if_pos rfl]
 exact ⟨w, rfl, (h.start (Nat.le_refl _) (Nat.le_refl _)).1, h.left h0 (Nat.le_refl _) (Nat.le_refl _)⟩
theorem pln_shown {l s : Nat} {w : List Mv} (h : WOK 0 l s false w) : PLN l s false (w.map some ++ [none] ++ (bkw w).map some) := by
 unfold PLN
 rw [if_neg (by decide)]
 have := h.start (Nat.le_refl l) (Nat.le_refl s)
 exact ⟨w, w, rfl, this.1, this.1, rfl, this.2⟩
theorem wkp_shown {w : List Mv} : wkp c (w.map some ++ [none] ++ (bkw w).map some) = wk c w + wk c w := by
 rw [wkp_app, wkp_app, wkp_some, wkp_some, wk_bkw]
 show wk c w + 0 + wk c w = _
 omega
end L3
namespace L2
open PySem PySem.Spec PyProof.Rows
section
variable {X : Cx}
end
end L2
namespace L3
open PySem PySem.Spec PyProof.Rows L2
section
variable {X : Cx} {K : PySem.W.Frag} {H : Hp} {o e : Expr} {es : List Expr} {to : TE3} {ts : TA3} {apos cpos : Pos}
end
end L3
namespace L2
open PySem PySem.Spec PyProof.Rows
noncomputable def tyN : Bool → String
 | true => "tuple_iterator"
 | false => "list_iterator"
def SIt (c : Bool) (h : Heap) (it l : Addr) (i : Nat) : Prop := ∃ o, h.get? it = some o ∧ o.cls = .type (tyN c) ∧ o.data = .fields #[.ref l, .int i 0]
def SOf (c : Bool) (h : Heap) (l : Addr) (xs : Array Value) : Prop := ∃ o, h.get? l = some o ∧ o.cls = .type (cond c "tuple" "list") ∧ ∃ n, o.data = .seq xs n
theorem SIt.at {c : Bool} {h h' : Heap} {it l : Addr} {i : Nat} (x : SIt c h it l i) (e : ∀ o, h.get? it = some o → h'.get? it = some o) : SIt c h' it l i := let ⟨o, ho, r⟩ := x; ⟨o, e _ ho, r⟩
theorem SOf.at {c : Bool} {h h' : Heap} {l : Addr} {xs : Array Value} (x : SOf c h l xs) (e : ∀ o, h.get? l = some o → h'.get? l = some o) : SOf c h' l xs := let ⟨o, ho, r⟩ := x; ⟨o, e _ ho, r⟩
section
variable {prog : Program} {w : World} {A : Around} {E : Value → Shared → Prop} {s : Shared}
end
end L2
namespace L2
open PySem PySem.Spec PyProof.Rows
theorem SOf.push {c : Bool} {h : Heap} {l : Addr} {xs : Array Value} (x : SOf c h l xs) (o : Obj) : SOf c (h.push o) l xs := x.at fun _ e => Heap.get?_push_of_some o e
set_option maxHeartbeats 4000000 in
section
variable {prog : Program} {w : World} {A : Around} {E : Value → Shared → Prop} {s : Shared}
end
def Sq (c : Bool) (K : PySem.W.Frag) (H : Hp) (a : Addr) (xs : List V) : Prop := match c with
 | true => SqT K H a xs
 | false => SqL K H a xs
theorem Inv.sq {X : Cx} {pins : List (Addr × Obj)} {σ : List (Option V)} {H : Hp} {s : Shared} {c : Bool} {a : Addr} {xs : List V} (I : Inv X pins σ H s) (h : Sq c X.K H a xs) : ∃ its : List Value, Vals xs its ∧ SOf c s.heap a its.toArray := by
 cases c with
 | true =>
  obtain ⟨its, r, p, _⟩ := I.tuple h
  exact ⟨its, r, p⟩
 | false =>
  obtain ⟨its, r, p, _⟩ := I.list h
  obtain ⟨o, e, h1, h2⟩ := p.isList
  exact ⟨its, r, o, e, h1, h2⟩
end L2
namespace L3
open PySem PySem.Spec PyProof.Rows L2
end L3
namespace L2
open PySem PySem.Spec PyProof.Rows
section
variable {prog : Program} {w : World} {A : Around} {E : Value → Shared → Prop} {s : Shared}
end
structure DzSt (c d : Bool) (l1 l2 z TI TO i1 i2 S : Addr) (xs ys : Array Value) (i : Nat) (h : Heap) : Prop where
 zz : IsZip h z TI TO .none ∨ ∃ T f oT, IsZipO h z TI TO T f ∧ h.get? T = some oT ∧ T ≠ z ∧ T ≠ TO ∧ T ≠ i1 ∧ T ≠ i2 ∧ T ≠ S
 ti : IsPair h TI (.ref i1) (.ref i2)
 to : ∃ u v, IsPair h TO u v
 h1 : SIt c h i1 l1 i
 h2 : SIt d h i2 l2 i
 m1 : SOf c h l1 xs
 m2 : SOf d h l2 ys
end L2
namespace L2
open PySem PySem.Spec PyProof.Rows
section
variable {prog : Program} {w : World} {A : Around} {E : Value → Shared → Prop} {s : Shared}
end
end L2
namespace L2
open PySem PySem.Spec PyProof.Rows
end L2
namespace L3
open PySem PySem.Spec PyProof.Rows L2
noncomputable def valK (kvs : List (Key × D)) (k : Key) : Option D := (kvs.find? fun kv => decide (kv.1 = k)).map (·.2)
noncomputable def putKD (kvs : List (Key × D)) (k : Key) (v : D) : List (Key × D) :=
 if (kvs.any fun kv => decide (kv.1 = k)) = true then kvs.map (fun kv => if kv.1 = k then (kv.1, v) else kv) else kvs ++ [(k, v)]
section
variable {X : Cx} {K : PySem.W.Frag} {G : Gp} {H : Hp} {p : Addr}
theorem valK_rel {k : Key} : ∀ {kvs : List (Key × D)} {ys : List (Key × V)}, RelPs K H kvs ys → (valK kvs k = none ∧ valV ys k = none) ∨ ∃ d v, valK kvs k = some d ∧ valV ys k = some v ∧ RelD K H d v
 | [], ys, ⟨h1, h2⟩ => by
  have : ys = [] := by cases ys with | nil => rfl | cons y ys => simp at h1
  subst this
  exact .inl ⟨rfl, rfl⟩
 | (k', d) :: kvs, [], ⟨h1, h2⟩ => by simp at h1
 | (k', d) :: kvs, (k2, v) :: ys, ⟨h1, h2⟩ => by
  rw [List.map_cons, List.map_cons] at h1
  obtain ⟨e1, e2⟩ := List.cons.inj h1
  have e1 : k' = k2 := e1
  subst e1
  obtain ⟨x, xs', e3, q1, q2⟩ := h2.inv_cons
  rw [List.map_cons] at e3
  obtain ⟨e4, e5⟩ := List.cons.inj e3
  have e4 : v = x := e4
  subst e4
  by_cases hk : k' = k
  ·right
   exact ⟨d, v, by simp [valK, List.find?_cons, hk], valV_pos hk, q1⟩
  ·have ih := valK_rel (k := k) (kvs := kvs) (ys := ys) ⟨e2, by rw [e5]; exact q2⟩
   have a1 : valK ((k', d) :: kvs) k = valK kvs k := by simp [valK, List.find?_cons, hk]
   rw [a1, valV_neg hk]
   exact ih
theorem mapK_rel {k : Key} {d : D} {v : V} (q : RelD K H d v) : ∀ {kvs : List (Key × D)} {ys : List (Key × V)}, RelPs K H kvs ys → RelPs K H (kvs.map (fun kv => if kv.1 = k then (kv.1, d) else kv)) (ys.map (fun kv => if kv.1 = k then (kv.1, v) else kv)) ∧ (kvs.any fun kv => decide (kv.1 = k)) = (ys.any fun kv => decide (kv.1 = k))
 | [], ys, ⟨h1, h2⟩ => by
  have : ys = [] := by cases ys with | nil => rfl | cons y ys => simp at h1
  subst this
  exact ⟨⟨rfl, .nil⟩, rfl⟩
 | (k', d') :: kvs, [], ⟨h1, h2⟩ => by simp at h1
 | (k', d') :: kvs, (k2, v') :: ys, ⟨h1, h2⟩ => by
  rw [List.map_cons, List.map_cons] at h1
  obtain ⟨e1, e2⟩ := List.cons.inj h1
  have e1 : k' = k2 := e1
  subst e1
  obtain ⟨x, xs', e3, q1, q2⟩ := h2.inv_cons
  rw [List.map_cons] at e3
  obtain ⟨e4, e5⟩ := List.cons.inj e3
  have e4 : v' = x := e4
  subst e4
  obtain ⟨⟨i1, i2⟩, i3⟩ := mapK_rel (k := k) q (kvs := kvs) (ys := ys) ⟨e2, by rw [e5]; exact q2⟩
  refine ⟨⟨?_, ?_⟩, by rw [List.any_cons, List.any_cons, i3]⟩
  ·rw [List.map_cons, List.map_cons, List.map_cons, List.map_cons, i1]
   by_cases hk : k' = k <;> simp [hk]
  ·rw [List.map_cons, List.map_cons, List.map_cons, List.map_cons]
   by_cases hk : k' = k
   ·simp only [hk, if_true]; exact .cons q i2
   ·simp only [hk, if_false]; exact .cons q1 i2
theorem putK_rel {k : Key} {d : D} {v : V} (q : RelD K H d v) {kvs : List (Key × D)} {ys : List (Key × V)} (h : RelPs K H kvs ys) : RelPs K H (putKD kvs k d) (putK ys k v) := by
 obtain ⟨i1, i3⟩ := mapK_rel (k := k) q h
 unfold putKD putK
 rw [i3]
 split
 ·exact i1
 ·exact ⟨by rw [List.map_append, List.map_append, h.1]; rfl, by rw [List.map_append, List.map_append]; exact h.2.append (.cons q .nil)⟩
theorem kD_inv {k : Key} {v : V} (r : RelD K H (kD k) v) : v = kV k := by
 cases k with
 | inl i => exact (show RelD K H (.int i) v from r).int_inv
 | inr x => exact (show RelD K H (.str x) v from r).str_inv
def dPutK (td ti tv : TE3) : TS3 := fun Dn σ G => tv σ G fun v G1 => td σ G1 fun x G2 => ti σ G2 fun y G3 => ∃ (a : Addr) (kvs : List (Key × D)) (k : Key), x = .ref a ∧ y = kD k ∧ G3 a = some (.dic kvs) ∧ kvs.length < sizeLine ∧ Dn.nx σ (gup G3 a (.dic (putKD kvs k v)))
theorem s_dputK {k : Nat} {o i value : Expr} {pos pos' : Pos} {to ti tv : TE3} (hr : Room k X.A) (ho : E3 X o to) (hi : E3 X i ti) (hv : E3 X value tv)
  (hs : swapsWith value (some (.Subscript o i pos')) pos.line X.env = pure false := by rfl) : S3 X (.Assign [.Subscript o i pos'] value pos) (dPutK to ti tv) :=
 weakS (ps_dput (hu_of hr) ho hi hv hs) fun D σ H h => by
  obtain ⟨σd, G, d, rs, c, t, f⟩ := h
  refine ⟨σd, G, _, rs, c, t, fun v G1 w H1 r1 c1 l1 t1 => ⟨σd, G1, _, rs.le l1, c1, t1, fun x G2 u H2 r2 c2 l2 t2 => ⟨σd, G2, _, rs.le (l1.trans l2), c2, t2, fun y G3 z H3 r3 c3 l3 t3 => ?_⟩⟩⟩
  obtain ⟨a, kvs, k, rfl, rfl, hg, hl, t4⟩ := t3
  have r2' := RelD.le l3 r2
  cases r2'.ref_inv
  obtain rfl := kD_inv r3
  obtain ⟨ys, e, rp⟩ := c3 a _ hg
  have l5 : Le H3 (upd H3 a (.dK (putK ys k w))) := Le.dK e
  have lys : ys.length = kvs.length := by
   have := congrArg List.length rp.1
   rw [List.length_map, List.length_map] at this
   exact this.symm
  refine ⟨a, _, rfl, DPut.k e (by rw [lys]; exact hl), ?_⟩
  refine f.nx _ _ _ _ (((rs.le l1).le l2).le (l3.trans l5)) ?_ (l1.trans (l2.trans (l3.trans l5))) t4
  exact c3.put l5 ⟨_, upd_same, (putK_rel (RelD.le (l2.trans l3) r1) rp).le l5⟩
end
end L3
namespace L3
open PySem L2
set_option maxHeartbeats 4000000
noncomputable abbrev Gm := Option (Bool × Int)
noncomputable def toG : Pm → Gm
 | none => none
 | some p => some (p.1, (p.2 : Int))
noncomputable def lgg (n s m : Nat) (p : Bool × Int) : Bool := decide (1 ≤ p.2 ∧ p.2 ≤ n) && stn (p.2.toNat - 1) m && (if p.1 then !stn p.2.toNat m && decide (cnt n m < s) else stn p.2.toNat m)
noncomputable def nxg (m : Nat) : Gm → Nat
 | none => m
 | some p => xr m p.2.toNat
noncomputable def okg (n s m : Nat) (sh : Bool) : Gm → Bool
 | none => stn n m && !sh
 | some p => lgg n s m p
noncomputable def out (n s : Nat) : Nat → Bool → Nat → List Gm → Sum Nat (Nat × Bool)
 | m, sh, _, [] => .inr (m, sh)
 | m, sh, i, p :: r => if okg n s m sh p = true then out n s (nxg m p) (sh || p.isNone) (i + 1) r else .inl i
noncomputable def told (n s : Nat) (w : List Gm) : Sum Nat Bool :=
 match out n s 0 false 0 w with
 | .inl i => .inl i
 | .inr (m, sh) => if sh = true then (if m = 0 then .inr false else .inl w.length) else if m = 2 ^ (n - 1) then .inr true else .inl w.length
theorem lgg_of {n s m : Nat} {p : Mv} (h : lgl n s m p) : lgg n s m (p.1, (p.2 : Int)) = true := by
 obtain ⟨⟨h1, h2⟩, h3, h4, h5⟩ := h
 have e1 : stn (p.2 - 1) m = true := by
  unfold stn
  rcases h3 with z | z
  ·have : p.2 - 1 = 0 := by omega
   rw [this]; rfl
  ·have : p.2 - 1 - 1 = p.2 - 2 := by omega
   rw [this, z]; simp
 have e2 : stn p.2 m = stb p.2 m := by
  unfold stn stb
  have : (p.2 == 0) = false := by rw [beq_eq_false_iff_ne]; omega
  rw [this]; simp
 unfold lgg
 dsimp only
 rw [Int.toNat_natCast, e1, e2, decide_eq_true (by omega)]
 cases hp : p.1 with
 | true =>
  rw [hp] at h4
  have : stb p.2 m = false := by simpa using h4.symm
  rw [this, decide_eq_true (h5 hp)]; rfl
 | false =>
  rw [hp] at h4
  have : stb p.2 m = true := by simpa using h4.symm
  rw [this]; rfl
theorem stn_pos {k m : Nat} (h : 1 ≤ k) : stn k m = m.testBit (k - 1) := by
 unfold stn
 have : (k == 0) = false := by rw [beq_eq_false_iff_ne]; omega
 rw [this]; simp
theorem okg_ckp {n s : Nat} (hn : 1 ≤ n) : ∀ {w : List Pm} {m i : Nat} {sh : Bool}, ckp n s m sh w → out n s m sh i (w.map toG) = .inr (finp m w, shw sh w)
 | [], _, _, _, _ => rfl
 | none :: r, m, i, sh, ⟨⟨h1, h2⟩, h3⟩ => by
  show (if okg n s m sh none = true then _ else _) = _
  rw [if_pos (by show (stn n m && !sh) = true; rw [stn_pos hn, h1, h2]; rfl)]
  show out n s m (sh || true) (i + 1) (r.map toG) = _
  rw [Bool.or_true]
  exact okg_ckp hn h3
 | some p :: r, m, i, sh, ⟨h1, h3⟩ => by
  show (if okg n s m sh (some (p.1, (p.2 : Int))) = true then _ else _) = _
  rw [if_pos (show okg n s m sh (some (p.1, (p.2 : Int))) = true from lgg_of h1)]
  show out n s (xr m (p.2 : Int).toNat) (sh || false) (i + 1) (r.map toG) = _
  rw [Bool.or_false, Int.toNat_natCast]
  exact okg_ckp hn h3
theorem told_ckp {n s : Nat} (hn : 1 ≤ n) {w : List Pm} (h : ckp n s 0 false w) : told n s (w.map toG) = if shw false w = true then (if finp 0 w = 0 then .inr false else .inl w.length) else if finp 0 w = 2 ^ (n - 1) then .inr true else .inl w.length := by
 unfold told
 rw [okg_ckp hn h]
 dsimp only
 rw [List.length_map]
theorem ckp_mono {n s s' : Nat} (h : s ≤ s') : ∀ {w : List Pm} {m : Nat} {sh : Bool}, ckp n s m sh w → ckp n s' m sh w
 | [], _, _, _ => trivial
 | none :: r, m, sh, ⟨h1, h2⟩ => ⟨h1, ckp_mono h h2⟩
 | some p :: r, m, sh, ⟨⟨h1, h2, h3, h4⟩, h5⟩ => ⟨⟨h1, h2, h3, fun z => Nat.lt_of_lt_of_le (h4 z) h⟩, ckp_mono h h5⟩
theorem ckp_moves {n s : Nat} : ∀ {w : List Pm} {m : Nat} {sh sh' : Bool}, ckp n s m sh w → ckp n s m sh' (w.filter (·.isSome)) ∧ finp m (w.filter (·.isSome)) = finp m w ∧ shw sh' (w.filter (·.isSome)) = sh'
 | [], _, _, _, _ => ⟨trivial, rfl, rfl⟩
 | none :: r, m, sh, sh', ⟨_, h2⟩ => by
  rw [List.filter_cons_of_neg (by decide)]
  exact ckp_moves (w := r) h2
 | some p :: r, m, sh, sh', ⟨h1, h2⟩ => by
  rw [List.filter_cons_of_pos (by rfl)]
  obtain ⟨a, b, c⟩ := ckp_moves (w := r) (sh' := sh') h2
  exact ⟨⟨h1, a⟩, b, c⟩
theorem lay_one {n s : Nat} (hn : 1 ≤ n) (hs : 1 ≤ s) : lgl n s 0 (true, 1) := ⟨⟨Nat.le_refl _, hn⟩, .inl rfl, by show true = !stb 1 0; rfl, fun _ => by rw [cnt_zero]; omega⟩
theorem clear_one {n s : Nat} (hn : 1 ≤ n) : lgl n s 1 (false, 1) := ⟨⟨Nat.le_refl _, hn⟩, .inl rfl, by show false = !stb 1 1; rfl, fun z => nomatch z⟩
theorem ckp_pair {n s : Nat} (hn : 1 ≤ n) (hs : 1 ≤ s) {sh : Bool} : ckp n s 0 sh [some (true, 1), some (false, 1)] ∧ finp 0 [some (true, 1), some (false, 1)] = 0 := ⟨⟨lay_one hn hs, clear_one hn, trivial⟩, rfl⟩
theorem ckp_pairs {n s : Nat} (hn : 1 ≤ n) (hs : 1 ≤ s) {sh : Bool} : ∀ k, ckp n s 0 sh (List.replicate k [some (true, 1), some (false, 1)]).flatten ∧ finp 0 (List.replicate k [some (true, 1), some (false, 1)]).flatten = 0 ∧ shw sh (List.replicate k [some (true, 1), some (false, 1)]).flatten = sh
 | 0 => ⟨trivial, rfl, rfl⟩
 | k + 1 => by
  obtain ⟨a, b, c⟩ := ckp_pairs (sh := sh) hn hs k
  rw [List.replicate_succ, List.flatten_cons, ckp_app, finp_app, shw_app]
  have e := (ckp_pair (n := n) (s := s) (sh := sh) hn hs)
  rw [e.2]
  exact ⟨⟨e.1, a⟩, b, c⟩
structure CKD (n s : Nat) (lf : Bool) (w : List Pm) : Prop where
 ck : ckp n s 0 false w
 sh : shw false w = !lf
 fi : finp 0 w = if lf then 2 ^ (n - 1) else 0
 la : lf = false → ∃ l p, w = l ++ [some p]
section
variable {n s : Nat} {lf : Bool} {w : List Pm}
theorem CKD.more {s' : Nat} (h : CKD n s lf w) (hs : s ≤ s') : CKD n s' lf w := ⟨ckp_mono hs h.ck, h.sh, h.fi, h.la⟩
theorem CKD.ahead (h : CKD n s lf w) (hn : 1 ≤ n) (hs : 1 ≤ s) (k : Nat) : CKD n s lf ((List.replicate k [some (true, 1), some (false, 1)]).flatten ++ w) := by
 obtain ⟨a, b, c⟩ := ckp_pairs (sh := false) hn hs k
 refine ⟨ckp_app.mpr ⟨a, by rw [b, c]; exact h.ck⟩, by rw [shw_app, c]; exact h.sh, by rw [finp_app, b]; exact h.fi, fun e => ?_⟩
 obtain ⟨l, p, rfl⟩ := h.la e
 exact ⟨(List.replicate k [some (true, 1), some (false, 1)]).flatten ++ l, p, by rw [List.append_assoc]⟩
theorem CKD.again (h : CKD n s false w) (hn : 1 ≤ n) : told n s ((w ++ w.filter (·.isSome)).map toG) = .inr false := by
 have f : finp 0 w = 0 := h.fi
 have sh : shw false w = true := h.sh
 obtain ⟨a, b, c⟩ := ckp_moves (sh' := true) h.ck
 have d : ckp n s 0 false (w ++ w.filter (·.isSome)) := ckp_app.mpr ⟨h.ck, by rw [f, sh]; exact a⟩
 rw [told_ckp hn d, shw_app, finp_app, f, sh, b, c, f]; rfl
theorem CKD.shown (h : CKD n s true w) (hn : 1 ≤ n) : told n s ((w ++ [none]).map toG) = .inl (w.length + 1) := by
 have f : finp 0 w = 2 ^ (n - 1) := h.fi
 have sh : shw false w = false := h.sh
 have c : ckp n s 0 false (w ++ [none]) := ckp_app.mpr ⟨h.ck, by rw [f]; exact ⟨⟨Nat.testBit_two_pow_self, sh⟩, trivial⟩⟩
 have f0 : finp (finp 0 w) [none] ≠ 0 := by
  show finp 0 w ≠ 0
  rw [f]; exact Nat.ne_of_gt (Nat.two_pow_pos _)
 rw [told_ckp hn c, shw_app, finp_app, if_pos (show shw (shw false w) [none] = true from rfl), if_neg f0, List.length_append]; rfl
end
end L3
namespace L3
open PySem L2
end L3
namespace L2
open PySem PySem.Spec PyProof.Rows
set_option maxHeartbeats 4000000
section
variable {X : Cx}
end
end L2
namespace L3
open PySem PySem.Spec PyProof.Rows L2
set_option maxHeartbeats 4000000
section
variable {X : Cx} {e o : Expr} {es : List Expr} {to : TE3} {ts : TA3} {apos cpos : Pos}
end
section
variable {X : Cx} {α : Type} [DecidableEq α]
end
section
variable {X : Cx} {pins : List (Addr × Obj)} {σ : L2.St} {s : Shared} {G : Gp} {H : Hp} {A : Around}
theorem tup_its (I : Inv X pins σ H s) {ds : List D} {y : V} (r : RelD X.K H (.tup ds) y) : ∃ a xs its, y = .ref a ∧ RelDs X.K H ds xs ∧ Vals xs its ∧ IsTup s.heap a its.toArray := by
 obtain ⟨a, xs, rfl, sq, rs⟩ := r.tup_inv
 obtain ⟨its, v, t, _⟩ := I.tuple sq
 exact ⟨a, xs, its, rfl, rs, v, t⟩
end
end L3
namespace L2
open PySem PySem.Spec PyProof.Rows
section
variable {X : Cx} {tg : Expr}
end
end L2
namespace L3
open PySem PySem.Spec PyProof.Rows L2
section
variable {X : Cx} {K : PySem.W.Frag} {H : Hp} {o e tg : Expr} {es : List Expr} {te to : TE3} {ts : TA3} {apos cpos pos : Pos} {x : Str}
end
end L3
namespace L2
open PySem PySem.Spec PyProof.Rows
set_option maxHeartbeats 4000000
section
variable {X : Cx} {tg : Expr}
noncomputable def Itd (a : Addr) (o : Obj) (kvs : List (Key × V)) : It := ⟨fun i H => H a = some (.frz o (.dK kvs)) ∧ i < kvs.length, fun i H v H' => H' = H ∧ ∃ p, kvs[i]? = some p ∧ v = kV p.1, fun i H => H a = some (.frz o (.dK kvs)) ∧ kvs.length ≤ i⟩
theorem kV_of {P : Program} {w : World} {k : Key} {u : Value} (h : (mixKind P w).is k u = true) : RelV (kV k) u := by
 rcases keyIs_shape h with ⟨i, t, rfl, rfl⟩ | ⟨x, t, rfl, rfl⟩
 ·exact ⟨t, rfl⟩
 ·exact ⟨t, rfl⟩
theorem frz_at {P : Program} {w : World} {H : Hp} {h : Heap} {a : Addr} {o : Obj} {kvs : List (Key × V)} {es : Array DictEntry} {ep : Nat} (ok : HOk P w H h) (e : H a = some (.frz o (.dK kvs))) (hd : o.data = .dict es ep) : (a == sysModules) = false ∧ ∃ vs, KV kvs vs ∧ h.DictAt (mixKind P w) a vs ep := by
 obtain ⟨ho, z, hs, vs, rel, o', es', ep', ho', hc, hd', hk, hp, hn⟩ := (show ObjOk P w H h a (.frz o (.dK kvs)) from ok a _ e)
 rw [ho] at ho'
 cases ho'
 rw [hd] at hd'
 cases hd'
 exact ⟨hs, vs, rel, o, es, ho, hc, hd, hk, hp, hn⟩
theorem turn_dict {P : Program} {w : World} {K : PySem.W.Frag} (it a : Addr) (o : Obj) (kvs : List (Key × V)) {es : Array DictEntry} {ep : Nat} (hd : o.data = .dict es ep) : Turn P w K tg (Itd a o kvs) [it] it (fun i h => h.IsKeyIter it a i kvs.length ep) where
 mem := by simp
 obj := fun i h st b hb => by
  have e : b = it := by simpa using hb
  subst e
  obtain ⟨o, e, c, d⟩ := st
  exact ⟨o, e, fun v z => by rw [d] at z; cases z⟩
 keep := fun i h h' st k => let ⟨o, e, r⟩ := st; ⟨o, k it (by simp) o e, r⟩
 item := by
  intro X hP hw hK hc i pins s σ H E I hf st hg
  subst hP hw hK
  obtain ⟨f0, f1, f2, f3, f4, f5⟩ := hf it (by simp)
  obtain ⟨hg1, hg2⟩ : H a = some (.frz o (.dK kvs)) ∧ i < kvs.length := hg
  obtain ⟨_, vs, rel, at_⟩ := frz_at I.hok hg1 hd
  have hlv := rel.length
  have hk := rel.keys
  obtain ⟨p, hp⟩ : ∃ p, vs[i]? = some p := ⟨_, List.getElem?_eq_getElem (by omega)⟩
  have hkey : kvs[i]?.map (·.1) = some p.1 := by rw [← List.getElem?_map, hk, List.getElem?_map, hp]; rfl
  obtain ⟨q, hq, hq2⟩ := Option.map_eq_some_iff.mp hkey
  rw [hlv] at st
  refine wpAny_pyNext_dict_item (k := p.1) (v := p.2) st at_ hp fun key h' hkk st' sb => ?_
  have I1 : Inv X pins σ H { s with heap := h' } := I.turned (t' := s.toks) (fun b o hb e => (sb.2 b hb).trans e) f0 f1 f3 f4 f5
  obtain ⟨o2, e, cc, d⟩ := id st'
  exact ⟨_, rfl, go_of (s := { s with heap := h' }) e cc d (by decide) ⟨kV p.1, H, I1, kV_of hkk, ⟨rfl, q, hq, by rw [hq2]⟩, by rw [hlv]; exact st', fun b hb => (hf b hb).1⟩⟩
 done := by
  intro X hP hw hK hc i pins s σ H E I hf st hg
  subst hP hw hK
  obtain ⟨f0, f1, f2, f3, f4, f5⟩ := hf it (by simp)
  obtain ⟨hg1, hg2⟩ : H a = some (.frz o (.dK kvs)) ∧ kvs.length ≤ i := hg
  obtain ⟨_, vs, rel, at_⟩ := frz_at I.hok hg1 hd
  have hlv := rel.length
  rw [hlv] at st
  exact wpAny_pyNext_dict_end (I.ok.hd hc) st at_ (List.getElem?_eq_none (by omega)) fun h' eb => ⟨rfl, I.turned (t' := s.toks) (fun b o hb e => eb b o hb e) f0 f1 f3 f4 f5⟩
 self := fun _ _ _ _ _ st h => wpAny_pyIter_keyiter st h
def iDictK (tl : TE) : TI := fun σ H R => tl σ H fun v H1 => ∃ a kvs, v = .ref a ∧ H1 a = some (.dK kvs) ∧ ∀ o, R (Itd a o kvs) (upd H1 a (.frz o (.dK kvs)))
theorem pi_dictK {l : Expr} {tl : TE} (hl : PE X l tl) : PI X tg l (iDictK tl) := by
 intro pins s σ H R I h
 (refine thn (hl pins s σ H _ I h) ?_; rintro v s1 ⟨y, H1, I1, r1, q1⟩)
 obtain ⟨a, kvs, rfl, ha, q⟩ := q1
 obtain rfl : v = Value.ref a := r1
 obtain ⟨z, hd, vs, rel, dd⟩ := dk_of I1.hok ha
 obtain ⟨o, es, ep, ho, hc, hdat, hk, hp, hn⟩ := id dd
 have I2 : Inv X pins σ (upd H1 a (.frz o (.dK kvs))) { s1 with heap := s1.heap, toks := s1.toks } := d_write I1 (by rw [ha]; exact True.intro) (Heap.SameBut.refl _ _) ⟨o, ho⟩ ⟨ho, z, hd, vs, rel, dd⟩
 have fp : ∀ b ∈ [s1.heap.objs.size], FpOk X pins (upd H1 a (.frz o (.dK kvs))) b := fun b hb => by
  have e : b = s1.heap.objs.size := by simpa using hb
  subst e
  exact I2.fpOk (Nat.le_refl _) (I2.hok.fresh (Nat.le_refl _))
 refine wpAny_pyIter_dict hd (kvs := vs) (ep := ep) ⟨o, es, ho, hc, hdat, hk, hp, hn⟩ ?_
 refine ⟨s1.heap.objs.size, [s1.heap.objs.size], _, _, _, rfl, I2.kept (t' := s1.toks) fun b o e => Heap.get?_push_of_some _ e, turn_dict (s1.heap.objs.size) a o kvs hdat, ?_, fp, q o⟩
 rw [rel.length]
 exact ⟨_, Heap.get?_push_size _ rfl, rfl, rfl⟩
end
end L2
namespace L3
open PySem PySem.Spec PyProof.Rows L2
set_option maxHeartbeats 4000000
section
variable {X : Cx} {K : PySem.W.Frag} {G : Gp} {H : Hp} {tg e : Expr} {te : TE3}
theorem Le.frz {a : Addr} {o : Obj} {ys : List (Key × V)} (h : H a = some (.dK ys)) : Le H (upd H a (.frz o (.dK ys))) :=
 ⟨fun b zs q => by
  by_cases e : b = a
  ·subst e; rw [h] at q; cases q
  ·rw [upd_ne e]; exact q, fun b o u q => by
  by_cases e : b = a
  ·subst e; rw [h] at q; cases q
  ·rw [upd_ne e]; exact q⟩
theorem itrel_dict {H0 : Hp} {a : Addr} {o : Obj} {kvs : List (Key × D)} {ys : List (Key × V)} (h0 : H0 a = some (.frz o (.dK ys))) (hk : kvs.map (·.1) = ys.map (·.1)) : ItRel K H0 ⟨kvs.map fun kv => kD kv.1, fun G => G a = some (.frd kvs)⟩ (Itd a o ys) where
 go := fun i G H l c _ hi => by
  have hi : i < (kvs.map fun kv => kD kv.1).length := hi
  have hl := congrArg List.length hk
  rw [List.length_map, List.length_map] at hl
  rw [List.length_map] at hi
  exact ⟨l.frzs _ _ _ h0, by omega⟩
 stop := fun i G H l c _ hi => by
  have hi : (kvs.map fun kv => kD kv.1).length ≤ i := hi
  have hl := congrArg List.length hk
  rw [List.length_map, List.length_map] at hl
  rw [List.length_map] at hi
  exact ⟨l.frzs _ _ _ h0, by omega⟩
 yld := fun i G H v H' l c _ hi y => by
  obtain ⟨rfl, p, hp, rfl⟩ := y
  refine ⟨c, Le.refl _, kD p.1, ?_, ?_⟩
  ·show (kvs.map fun kv => kD kv.1)[i]? = _
   have e : (kvs.map (·.1))[i]? = some p.1 := by rw [hk, List.getElem?_map, hp]; rfl
   rw [List.getElem?_map] at e ⊢
   obtain ⟨w, hw, hw2⟩ := Option.map_eq_some_iff.mp e
   rw [hw]; show some (kD w.1) = _; rw [hw2]
  ·cases p.1 with
   | inl i => show RelD K _ (.int i) (.int i); rw [RelD]
   | inr x => show RelD K _ (.str x) (.str x); rw [RelD]
def wDictK (te : TE3) : TI3 := fun σ G r => te σ G fun d G1 => ∃ a kvs, d = .ref a ∧ G1 a = some (.dic kvs) ∧ r ⟨kvs.map fun kv => kD kv.1, fun G => G a = some (.frd kvs)⟩ (gup G1 a (.frd kvs))
theorem i_dictK (h : E3 X e te) : I3 X tg e (wDictK te) := weakI (pi_dictK h) fun σ H R hh => by
 obtain ⟨σd, G, q, rs, c, t, f⟩ := hh
 refine ⟨σd, G, _, rs, c, t, fun d G1 v H1 r1 c1 l1 t1 => ?_⟩
 obtain ⟨a, kvs, rfl, ha, t2⟩ := t1
 obtain ⟨ys, e, rp⟩ := c1 a _ ha
 refine ⟨a, ys, r1.ref_inv, e, fun o => f _ _ _ _ (itrel_dict upd_same rp.1) (c1.put (o := .frd kvs) (Le.frz e) ⟨o, ys, upd_same, rp.le (Le.frz e)⟩) (l1.trans (Le.frz e)) t2⟩
end
end L3
namespace L3
open PySem PySem.Spec PyProof.Rows L2 Rw
noncomputable def lo (m : Nat) (w : List Mv) : List Mv := w.filter fun p => decide (p.2 ≤ m)
noncomputable def up (m : Nat) (w : List Mv) : List Mv := (w.filter fun p => decide (m < p.2)).map fun p => (p.1, p.2 - m)
section
variable {m : Nat} {p : Mv} {w u v : List Mv} {c : Nat → Int}
theorem lo_in (h : p.2 ≤ m) : lo m (p :: w) = p :: lo m w := by simp [lo, h]
theorem lo_out (h : m < p.2) : lo m (p :: w) = lo m w := by simp [lo, Nat.not_le.mpr h]
theorem up_in (h : m < p.2) : up m (p :: w) = (p.1, p.2 - m) :: up m w := by simp [up, h]
theorem up_out (h : p.2 ≤ m) : up m (p :: w) = up m w := by simp [up, Nat.not_lt.mpr h]
theorem lo_app : lo m (u ++ v) = lo m u ++ lo m v := by simp [lo]
theorem wk_parts : ∀ {w : List Mv}, wk c w = wk c (lo m w) + wk (fun i => c (i + m)) (up m w)
 | [] => rfl
 | p :: w => by
  have ih := wk_parts (w := w)
  rcases Nat.lt_or_ge m p.2 with h | h
  ·rw [lo_out h, up_in h]
   show c (p.2 - 1) + wk c w = wk c (lo m w) + (c (p.2 - m - 1 + m) + wk (fun i => c (i + m)) (up m w))
   rw [show p.2 - m - 1 + m = p.2 - 1 by omega]; omega
  ·rw [lo_in h, up_out h]
   show c (p.2 - 1) + wk c w = c (p.2 - 1) + wk c (lo m w) + wk (fun i => c (i + m)) (up m w)
   omega
theorem wk_nn (hc : ∀ i, 0 ≤ c i) : ∀ {w : List Mv}, 0 ≤ wk c w
 | [] => Int.le_refl _
 | p :: w => by have := hc (p.2 - 1); have := wk_nn hc (w := w); show 0 ≤ c (p.2 - 1) + wk c w; omega
theorem wk_sub (hc : ∀ i, 0 ≤ c i) (h : u.Sublist w) : wk c u ≤ wk c w := by
 induction h with
 | slnil => exact Int.le_refl _
 | cons a _ ih => have := hc (a.2 - 1); show _ ≤ c (a.2 - 1) + wk c _; omega
 | cons_cons a _ ih => show c (a.2 - 1) + wk c _ ≤ c (a.2 - 1) + wk c _; omega
end
theorem div_bit {x m i : Nat} : (x / 2 ^ m).testBit i = x.testBit (i + m) := by
 rw [Nat.testBit_div_two_pow]
theorem xr_up {x m k : Nat} (h : m < k) : xr x k / 2 ^ m = xr (x / 2 ^ m) (k - m) := Nat.eq_of_testBit_eq fun j => by
 rw [div_bit, xr_bit, xr_bit, div_bit]
 congr 1
 exact decide_eq_decide.mpr (by omega)
theorem xr_dn {x m k : Nat} (h1 : 1 ≤ k) (h : k ≤ m) : xr x k / 2 ^ m = x / 2 ^ m := Nat.eq_of_testBit_eq fun j => by
 rw [div_bit, xr_bit, div_bit, decide_eq_false (by omega : ¬ k - 1 = j + m), Bool.xor_false]
def lgr (n : Nat) : Nat → List Mv → Prop
 | _, [] => True
 | x, p :: r => ((1 ≤ p.2 ∧ p.2 ≤ n) ∧ (p.2 = 1 ∨ x.testBit (p.2 - 2) = true) ∧ p.1 = !stb p.2 x) ∧ lgr n (xr x p.2) r
section
variable {n s m : Nat}
theorem lgw_r : ∀ {w : List Mv} {x : Nat}, lgw n s x w → lgr n x w
 | [], _, _ => trivial
 | p :: r, x, ⟨⟨h1, h2, h3, _⟩, h5⟩ => ⟨⟨h1, h2, h3⟩, lgw_r h5⟩
theorem lgw_all : ∀ {w : List Mv} {x : Nat}, cnt n x ≤ s → lgw n s x w → ∀ y ∈ x :: sbh x w, cnt n y ≤ s
  | [], x, h, _, y, hy => by have : y = x := by simpa [sbh] using hy
                             subst this; exact h
  | p :: r, x, h, h', y, hy => by
    rcases List.mem_cons.mp hy with e | hy
    · subst e; exact h
    · exact lgw_all (x := xr x p.2) (lgw_cnt (w := [p]) h ⟨h'.1, trivial⟩) h'.2 y hy
theorem lgw_of : ∀ {w : List Mv} {x : Nat}, lgr n x w → (∀ y ∈ sbh x w, cnt n y ≤ s) → lgw n s x w
 | [], _, _, _ => trivial
 | p :: r, x, ⟨⟨h1, h2, h3⟩, h5⟩, h => by
  refine ⟨⟨h1, h2, h3, fun hp => ?_⟩, lgw_of h5 fun y hy => h y (List.mem_cons_of_mem _ hy)⟩
  have hf : stb p.2 x = false := by rw [hp] at h3; simpa using h3.symm
  have := h (xr x p.2) (List.mem_cons_self ..)
  rw [cnt_up h1.1 h1.2 hf] at this
  omega
theorem lgr_lo : ∀ {w : List Mv} {x : Nat}, lgr n x w → lgr m (x % 2 ^ m) (lo m w) ∧ fin (x % 2 ^ m) (lo m w) = fin x w % 2 ^ m ∧ ∀ y ∈ sbh (x % 2 ^ m) (lo m w), ∃ z ∈ sbh x w, y = z % 2 ^ m
 | [], _, _ => ⟨trivial, rfl, fun y hy => by simp [lo, sbh] at hy⟩
 | p :: r, x, ⟨⟨h1, h2, h3⟩, h5⟩ => by
  obtain ⟨i1, i2, i3⟩ := lgr_lo (w := r) h5
  rcases Nat.lt_or_ge m p.2 with h | h
  ·rw [lo_out h]
   rw [← xr_mod2 h] at i1 i2 i3
   exact ⟨i1, i2, fun y hy => by obtain ⟨z, hz, e⟩ := i3 y hy; exact ⟨z, List.mem_cons_of_mem _ hz, e⟩⟩
  ·rw [lo_in h]
   rw [← xr_mod h1.1 h] at i1 i2 i3
   refine ⟨⟨⟨⟨h1.1, h⟩, ?_, by rw [stb_mod h1.1 h]; exact h3⟩, i1⟩, i2, fun y hy => ?_⟩
   ·rcases h2 with h2 | h2
    ·exact .inl h2
    ·right
     rw [Nat.testBit_mod_two_pow, h2]
     simp
     omega
   ·rcases List.mem_cons.mp hy with e | hy
    ·exact ⟨xr x p.2, List.mem_cons_self .., by rw [e, xr_mod h1.1 h]⟩
    ·obtain ⟨z, hz, e⟩ := i3 y hy
     exact ⟨z, List.mem_cons_of_mem _ hz, e⟩
theorem lgr_up : ∀ {w : List Mv} {x : Nat}, lgr n x w → lgr (n - m) (x / 2 ^ m) (up m w) ∧ fin (x / 2 ^ m) (up m w) = fin x w / 2 ^ m ∧ ∀ y ∈ sbh (x / 2 ^ m) (up m w), ∃ z ∈ sbh x w, y = z / 2 ^ m
 | [], _, _ => ⟨trivial, rfl, fun y hy => by simp [up, sbh] at hy⟩
 | p :: r, x, ⟨⟨h1, h2, h3⟩, h5⟩ => by
  obtain ⟨i1, i2, i3⟩ := lgr_up (w := r) h5
  rcases Nat.lt_or_ge m p.2 with h | h
  ·rw [up_in h]
   rw [xr_up h] at i1 i2 i3
   refine ⟨⟨⟨⟨by show 1 ≤ p.2 - m; omega, by show p.2 - m ≤ n - m; omega⟩, ?_, ?_⟩, i1⟩, i2, fun y hy => ?_⟩
   ·rcases h2 with h2 | h2
    ·left; show p.2 - m = 1; omega
    ·by_cases e : p.2 - m = 1
     ·exact .inl e
     ·right
      show (x / 2 ^ m).testBit (p.2 - m - 2) = true
      rw [div_bit, show p.2 - m - 2 + m = p.2 - 2 by omega]; exact h2
   ·show p.1 = !(x / 2 ^ m).testBit (p.2 - m - 1)
    rw [div_bit, show p.2 - m - 1 + m = p.2 - 1 by omega]; exact h3
   ·rcases List.mem_cons.mp hy with e | hy
    ·exact ⟨xr x p.2, List.mem_cons_self .., by rw [e, xr_up h]⟩
    ·obtain ⟨z, hz, e⟩ := i3 y hy
     exact ⟨z, List.mem_cons_of_mem _ hz, e⟩
  ·rw [up_out h]
   rw [xr_dn h1.1 h] at i1 i2 i3
   exact ⟨i1, i2, fun y hy => by obtain ⟨z, hz, e⟩ := i3 y hy; exact ⟨z, List.mem_cons_of_mem _ hz, e⟩⟩
theorem cnt_parts {x : Nat} : ∀ d, cnt (m + d) x = cnt m x + cnt d (x / 2 ^ m)
 | 0 => rfl
 | d + 1 => by
  rw [← Nat.add_assoc, cnt, cnt, cnt_parts d, div_bit, Nat.add_comm d m]
  omega
theorem cnt_at {x : Nat} (h : m ≤ n) : cnt n x = cnt m x + cnt (n - m) (x / 2 ^ m) := by
 have := cnt_parts (m := m) (x := x) (n - m)
 rwa [show m + (n - m) = n by omega] at this
theorem cnt_lo {x : Nat} : cnt m (x % 2 ^ m) = cnt m x := cnt_same fun i hi => by
 rw [Nat.testBit_mod_two_pow]; simp [hi]
theorem cnt_bit : ∀ {m x i : Nat}, i < m → x.testBit i = true → 1 ≤ cnt m x
 | 0, _, _, h, _ => by omega
 | m + 1, x, i, h, hb => by
  rw [cnt]
  by_cases e : i = m
  ·subst e; rw [hb]; simp
  ·have := cnt_bit (m := m) (i := i) (by omega) hb; omega
theorem cnt_some {x : Nat} (h : x % 2 ^ m ≠ 0) : 1 ≤ cnt m x := by
 have h0 : 0 < hi (x % 2 ^ m) := by
  rcases Nat.eq_zero_or_pos (hi (x % 2 ^ m)) with e | e
  ·have := lt_hi (x % 2 ^ m)
   rw [e] at this
   omega
  ·exact e
 have hb := hi_top h0
 rw [Nat.testBit_mod_two_pow] at hb
 simp at hb
 exact cnt_bit hb.1 hb.2
theorem low_mark {x : Nat} : ∀ {N : Nat}, x % 2 ^ N ≠ 0 → ∃ j, 1 ≤ j ∧ j ≤ N ∧ x % 2 ^ j = 2 ^ (j - 1)
 | 0, h => by simp [Nat.mod_one] at h
 | N + 1, h => by
  by_cases e : x % 2 ^ N = 0
  ·refine ⟨N + 1, by omega, Nat.le_refl _, ?_⟩
   rw [Nat.mod_pow_succ, e] at h ⊢
   have := Nat.mod_lt (x / 2 ^ N) (by decide : 0 < 2)
   have h2 : x / 2 ^ N % 2 = 1 := by
    rcases Nat.eq_zero_or_pos (x / 2 ^ N % 2) with z | z
    ·rw [z] at h; simp at h
    ·omega
   rw [h2]; simp
  ·obtain ⟨j, h1, h2, h3⟩ := low_mark e
   exact ⟨j, h1, by omega, h3⟩
theorem greatest {P : Nat → Prop} : ∀ {N : Nat}, (∃ j, j ≤ N ∧ P j) → ∃ m, m ≤ N ∧ P m ∧ ∀ j, j ≤ N → P j → j ≤ m
 | 0, ⟨j, h1, h2⟩ => ⟨0, Nat.le_refl _, by rwa [show j = 0 by omega] at h2, fun j h _ => h⟩
 | N + 1, h => by
  by_cases e : P (N + 1)
  ·exact ⟨N + 1, Nat.le_refl _, e, fun j h _ => h⟩
  ·obtain ⟨j, h1, h2⟩ := h
   have hj : j ≤ N := by
    rcases Nat.lt_or_ge N j with z | z
    ·exact absurd (by rwa [show j = N + 1 by omega] at h2) e
    ·exact z
   obtain ⟨m, q1, q2, q3⟩ := greatest ⟨j, hj, h2⟩
   refine ⟨m, by omega, q2, fun i hi hp => ?_⟩
   rcases Nat.lt_or_ge N i with z | z
   ·exact absurd (by rwa [show i = N + 1 by omega] at hp) e
   ·exact q3 i z hp
theorem last_at {P : Nat → Prop} : ∀ {w : List Mv} {x : Nat}, (∃ y ∈ x :: sbh x w, P y) → ∃ u v, w = u ++ v ∧ P (fin x u) ∧ ∀ y ∈ sbh (fin x u) v, ¬ P y
 | [], x, ⟨y, hy, h⟩ => by
  have e : y = x := by simpa [sbh] using hy
  subst e
  exact ⟨[], [], rfl, h, fun z hz => by simp [sbh] at hz⟩
 | p :: r, x, h => by
  by_cases e : ∃ y ∈ xr x p.2 :: sbh (xr x p.2) r, P y
  ·obtain ⟨u, v, h1, h2, h3⟩ := last_at e
   exact ⟨p :: u, v, by rw [h1]; rfl, h2, h3⟩
  ·obtain ⟨y, hy, hP⟩ := h
   have hx : y = x := by
    rcases List.mem_cons.mp hy with z | z
    ·exact z
    ·exact absurd ⟨y, z, hP⟩ e
   subst hx
   exact ⟨[], p :: r, rfl, hP, fun z hz hp => e ⟨z, hz, hp⟩⟩
theorem sbh_in : ∀ {u v : List Mv} {x y : Nat}, y ∈ fin x u :: sbh (fin x u) v → y ∈ x :: sbh x (u ++ v)
 | [], _, _, _, h => h
 | p :: u, v, x, y, h => List.mem_cons_of_mem _ (sbh_in (u := u) h)
theorem sbh_in0 {u v : List Mv} {x y : Nat} (h : y ∈ x :: sbh x u) : y ∈ x :: sbh x (u ++ v) := by
 rw [sbh_app]
 rcases List.mem_cons.mp h with e | e
 ·subst e; exact List.mem_cons_self ..
 ·exact List.mem_cons_of_mem _ (List.mem_append_left _ e)
end
section
variable {c : Nat → Int} {s a b e n : Nat} {x : Int}
theorem Pa.upw (h : Pa (fun i => c (i + a)) s b e x) : Pa c s (b + a) (e + a) x := by
 generalize hc' : (fun i => c (i + a)) = c' at h
 induction h with
 | @one p b =>
  subst hc'
  show Pa c (p + 1) (b + a) (b + 1 + a) (c (b + a))
  rw [show b + 1 + a = b + a + 1 by omega]; exact .one
 | two _ _ _ i1 i2 i3 => exact .two i1 i2 i3
theorem Pr.upw (h : Pr (fun i => c (i + a)) n s b x) : Pr c (n + a) s (b + a) x := by
 generalize hc' : (fun i => c (i + a)) = c' at h
 induction h with
 | @one p b he =>
  subst hc'
  exact .one (by omega)
 | two h1 _ i2 => subst hc'; exact .two h1.upw i2
theorem Pa.dnw (h : Pa c s b e x) : a ≤ b → Pa (fun i => c (i + a)) s (b - a) (e - a) x := by
 induction h with
 | @one p b =>
  intro ha
  have : Pa (fun i => c (i + a)) (p + 1) (b - a) (b - a + 1) ((fun i => c (i + a)) (b - a)) := .one
  rw [show b + 1 - a = b - a + 1 by omega]
  simpa only [show b - a + a = b by omega] using this
 | two h1 _ _ i1 i2 i3 => intro ha; have := h1.lt; exact .two (i1 ha) (i2 (by omega)) (i3 ha)
theorem Pa.wok (h : Pa c s b e x) : ∃ g, WOK b e s true g ∧ wk c g = x := by
 induction h with
 | @one p b => exact ⟨_, wok_one (by omega), by show c (b + 1 - 1) + 0 = c b; rw [Nat.add_sub_cancel]; omega⟩
 | two h1 h2 h3 i1 i2 i3 =>
  obtain ⟨g1, a1, e1⟩ := i1
  obtain ⟨g2, a2, e2⟩ := i2
  obtain ⟨g3, a3, e3⟩ := i3
  exact ⟨_, wok_alone h1.lt.1 h2.lt.1 a1 a2 a3, by rw [wk_app, wk_app, wk_bkw, e1, e2, e3]⟩
theorem Pa.way (h : Pa c s b e x) : ∃ g, lgw (e - b) s 0 g ∧ fin 0 g = 2 ^ (e - b - 1) ∧ wk (fun i => c (i + b)) g = x := by
 have h' := h.dnw (Nat.le_refl b)
 rw [Nat.sub_self] at h'
 obtain ⟨g, h1, h2⟩ := h'.wok
 exact ⟨g, (h1.start (Nat.le_refl _) (Nat.le_refl _)).1, h1.left (by have := h.lt; omega) (Nat.le_refl _) (Nat.le_refl _), h2⟩
theorem Pa.less (hc : ∀ i, 0 ≤ c i) (h : Pa c s b e x) : ∀ q, b ≤ q → q < e → ∃ y, Pa c s q e y ∧ y ≤ x := by
  induction h with
  | @one p b => intro q h1 h2; have : q = b := by omega
                subst this; exact ⟨_, .one, Int.le_refl _⟩
  | @two p b m e w1 w2 w3 h1 h2 h3 i1 i2 i3 =>
    intro q q1 q2
    have p1 := h1.pos hc
    have p2 := h2.pos hc
    have p3 := h3.pos hc
    rcases Nat.lt_or_ge q m with z | z
    · obtain ⟨y1, r1, s1⟩ := i1 q q1 z
      obtain ⟨y3, r3, s3⟩ := i3 q q1 z
      exact ⟨_, .two r1 h2 r3, by omega⟩
    · obtain ⟨y2, r2, s2⟩ := i2 q z q2
      exact ⟨y2, r2.more, by omega⟩
theorem lgw_more {w : List Mv} {N : Nat} (hN : n ≤ N) (h : lgw n s 0 w) : lgw N s 0 w := by
 have hall := lgw_all (by rw [cnt_zero]; omega) h
 have hlt := sbh_lt (Nat.two_pow_pos n) (lgw_mem h)
 refine lgw_of ?_ fun y hy => ?_
 ·have : ∀ {w : List Mv} {x : Nat}, lgr n x w → lgr N x w := by
   intro w
   induction w with
   | nil => intro _ _; trivial
   | cons p r ih => intro x hx; exact ⟨⟨⟨hx.1.1.1, by have := hx.1.1.2; omega⟩, hx.1.2⟩, ih hx.2⟩
  exact this (lgw_r h)
 ·obtain ⟨k, rfl⟩ : ∃ k, N = n + k := ⟨N - n, by omega⟩
  rw [cnt_ext (hlt y (List.mem_cons_of_mem _ hy))]
  exact hall y (List.mem_cons_of_mem _ hy)
end
theorem pow_lo {n m : Nat} (h : m < n) : 2 ^ (n - 1) % 2 ^ m = 0 := by
 rw [show n - 1 = (n - 1 - m) + m by omega, Nat.pow_add]
 exact Nat.mul_mod_left _ _
theorem pow_up {n m : Nat} (h : m < n) : 2 ^ (n - 1) / 2 ^ m = 2 ^ (n - m - 1) := by
 rw [show n - 1 = (n - m - 1) + m by omega, Nat.pow_add, Nat.mul_div_cancel _ (Nat.two_pow_pos m)]
theorem cnt_one {n x : Nat} (h : x % 2 ^ n = 0) : cnt (n + 1) x ≤ 1 := by
 have : cnt n x = 0 := by
  rw [← cnt_lo, h, cnt_zero]
 rw [cnt, this]
 split <;> omega
theorem two_places {n s : Nat} {w : List Mv} (hn : 2 ≤ n) (h : lgw n s 0 w) (hb : (fin 0 w).testBit (n - 1) = true) : 2 ≤ s := by
 obtain ⟨u, v, rfl, h1, h2⟩ := last_at (w := w) (P := fun y => y.testBit (n - 1) = false) ⟨0, List.mem_cons_self .., Nat.zero_testBit _⟩
 cases v with
 | nil => rw [List.append_nil, h1] at hb; cases hb
 | cons p r =>
  obtain ⟨⟨q1, q2, q3, q4⟩, _⟩ := (lgw_app.mp h).2
  have hx := h2 (xr (fin 0 u) p.2) (List.mem_cons_self ..)
  have hp : p.2 - 1 = n - 1 := by
   by_cases e : p.2 - 1 = n - 1
   ·exact e
   ·rw [xr_bit, decide_eq_false e, Bool.xor_false] at hx
    exact absurd h1 hx
  have hs : stb p.2 (fin 0 u) = false := by unfold stb; rw [hp]; exact h1
  rw [hs] at q3
  have := q4 q3
  rcases q2 with z | z
  ·omega
  ·have := cnt_bit (m := n) (by omega) z
   omega
theorem bit_pow {n m : Nat} : (2 ^ n).testBit m = decide (n = m) := Nat.testBit_two_pow
theorem lt_up {x m : Nat} (h : x / 2 ^ m = 0) : x < 2 ^ m := by
 rcases (Nat.div_eq_zero_iff).mp h with z | z
 ·have := Nat.two_pow_pos m; omega
 ·exact z
theorem nrm_all : ∀ {u v : List Mv} {x : Nat}, nrm x (u ++ v) → ∀ p ∈ u, ∀ y ∈ fin x u :: sbh (fin x u) v, p.2 ≤ hi y
 | [], _, _, _, p, hp => by simp at hp
 | q :: u, v, x, ⟨h1, h2⟩, p, hp => by
  intro y hy
  rcases List.mem_cons.mp hp with e | hp
  ·subst e
   exact low_le.mp h1 y (sbh_in (u := u) hy)
  ·exact nrm_all (u := u) h2 p hp y hy
theorem lo_all {m : Nat} : ∀ {w : List Mv}, (∀ p ∈ w, p.2 ≤ m) → lo m w = w
 | [], _ => rfl
 | p :: w, h => by rw [lo_in (h p (List.mem_cons_self ..)), lo_all fun q hq => h q (List.mem_cons_of_mem _ hq)]
theorem hi_small {x m : Nat} (h : x < 2 ^ m) : hi x ≤ m := by
 rcases Nat.lt_or_ge m (hi x) with z | z
 ·have hb := hi_top (m := x) (by omega)
  have := Nat.ge_two_pow_of_testBit hb
  have := Nat.pow_le_pow_right (n := 2) (by decide) (by omega : m ≤ hi x - 1)
  omega
 ·exact z
theorem hi_big {x m : Nat} (h : m + 1 ≤ hi x) : x / 2 ^ m ≠ 0 := fun e => by
 have := hi_small (lt_up e); omega
theorem pow_rest {x n : Nat} (hx : x < 2 ^ n) (hn : 1 ≤ n) (h : x % 2 ^ (n - 1) = 0) (h0 : x ≠ 0) : x = 2 ^ (n - 1) := by
 have e := Nat.div_add_mod x (2 ^ (n - 1))
 have e2 : 2 ^ n = 2 ^ (n - 1) * 2 := by rw [← Nat.pow_succ]; congr 1; omega
 rw [h] at e
 have : x / 2 ^ (n - 1) < 2 := by rw [Nat.div_lt_iff_lt_mul (Nat.two_pow_pos _), Nat.mul_comm, ← e2]; exact hx
 have : x / 2 ^ (n - 1) = 1 := by
  rcases Nat.eq_zero_or_pos (x / 2 ^ (n - 1)) with z | z
  ·rw [z] at e; omega
  ·omega
 rw [this] at e; omega
theorem mod_of {x q p : Nat} (h : q ≤ p) (hx : x % 2 ^ q ≠ 0) : x % 2 ^ p ≠ 0 := fun e => hx (by
 rw [← Nat.mod_mod_of_dvd x (Nat.pow_dvd_pow 2 h), e, Nat.zero_mod])
section
variable {c : Nat → Int} {n s : Nat}
theorem joined_up {m p : Nat} {v : List Mv} {y : Int} (hs : 1 ≤ s) (hpm : p < m) (hmn : m < n) (hv : lgr n (2 ^ (m - 1)) v) (hf : fin (2 ^ (m - 1)) v = 2 ^ (n - 1))
  (hcn : ∀ x ∈ sbh (2 ^ (m - 1)) v, cnt (n - p) (x / 2 ^ p) ≤ s) (hy : Pa c s p m y)
  (IH : ∀ (c : Nat → Int) (w : List Mv), (∀ i, 0 ≤ c i) → lgw (n - p) s 0 w → fin 0 w = 2 ^ (n - p - 1) → ∃ x, Pa c s 0 (n - p) x ∧ x ≤ wk c w) (hc : ∀ i, 0 ≤ c i) :
  ∃ z, Pa c s p n z ∧ z ≤ y + wk (fun i => c (i + p)) (up p v) := by
 obtain ⟨g, g1, g2, g3⟩ := hy.way
 obtain ⟨u1, u2, u3⟩ := lgr_up (m := p) hv
 rw [pow_up hpm] at u1 u2 u3
 rw [hf, pow_up (by omega)] at u2
 have hw : lgw (n - p) s 0 (g ++ up p v) := by
  rw [lgw_app, g2]
  refine ⟨lgw_more (by omega) g1, lgw_of u1 fun x hx => ?_⟩
  obtain ⟨z, hz, rfl⟩ := u3 x hx
  exact hcn z hz
 obtain ⟨z, z1, z2⟩ := IH (fun i => c (i + p)) _ (fun i => hc _) hw (by rw [fin_app, g2, u2])
 have z3 := z1.upw
 rw [Nat.zero_add, show n - p + p = n by omega] at z3
 exact ⟨z, z3, by rw [wk_app, g3] at z2; exact z2⟩
theorem part_lo {m : Nat} {u : List Mv} {y : Nat} (hu : lgr n y u) (hy : y % 2 ^ m = 0) (hf : fin y u % 2 ^ m = 2 ^ (m - 1)) (hcn : ∀ x ∈ sbh y u, cnt m x ≤ s)
  (IH : ∀ (c : Nat → Int) (w : List Mv), (∀ i, 0 ≤ c i) → lgw m s 0 w → fin 0 w = 2 ^ (m - 1) → ∃ x, Pa c s 0 m x ∧ x ≤ wk c w) (hc : ∀ i, 0 ≤ c i) :
  ∃ x, Pa c s 0 m x ∧ x ≤ wk c (lo m u) := by
 obtain ⟨u1, u2, u3⟩ := lgr_lo (m := m) hu
 rw [hy] at u1 u2 u3
 refine IH c _ hc (lgw_of u1 fun x hx => ?_) (u2.trans hf)
 obtain ⟨z, hz, rfl⟩ := u3 x hx
 rw [cnt_lo]; exact hcn z hz
theorem part_back {m : Nat} {u : List Mv} {y : Nat} (hu : lgr n y u) (hy : y % 2 ^ m = 2 ^ (m - 1)) (hf : fin y u % 2 ^ m = 0) (hcn : ∀ x ∈ y :: sbh y u, cnt m x ≤ s)
  (IH : ∀ (c : Nat → Int) (w : List Mv), (∀ i, 0 ≤ c i) → lgw m s 0 w → fin 0 w = 2 ^ (m - 1) → ∃ x, Pa c s 0 m x ∧ x ≤ wk c w) (hc : ∀ i, 0 ≤ c i) :
  ∃ x, Pa c s 0 m x ∧ x ≤ wk c (lo m u) := by
 obtain ⟨u1, u2, u3⟩ := lgr_lo (m := m) hu
 have h0 := hcn y (List.mem_cons_self ..)
 rw [← cnt_lo] at h0
 have hw : lgw m s (y % 2 ^ m) (lo m u) := lgw_of u1 fun x hx => by
  obtain ⟨z, hz, rfl⟩ := u3 x hx
  rw [cnt_lo]; exact hcn z (List.mem_cons_of_mem _ hz)
 obtain ⟨b1, b2⟩ := lgw_bkw h0 hw
 rw [u2, hf] at b1 b2
 obtain ⟨x, x1, x2⟩ := IH c _ hc b1 (b2.trans hy)
 exact ⟨x, x1, by rwa [wk_bkw] at x2⟩
end
theorem no_left_cheaper : ∀ (n : Nat) (c : Nat → Int) (s : Nat) (w : List Mv), n ≤ 900 → 1 ≤ n → (∀ i, 0 ≤ c i) → lgw n s 0 w → fin 0 w = 2 ^ (n - 1) → ∃ x, Pa c s 0 n x ∧ x ≤ wk c w := by
  intro n
  induction n using Nat.strongRecOn with
  | _ n ihn =>
  intro c s w h900 hn hc hw hf
  have IH : ∀ (m s : Nat), 1 ≤ m → m < n → ∀ (c : Nat → Int) (w : List Mv), (∀ i, 0 ≤ c i) → lgw m s 0 w → fin 0 w = 2 ^ (m - 1) → ∃ x, Pa c s 0 m x ∧ x ≤ wk c w := fun m s h1 h2 c w => ihn m h2 c s w (by omega) h1
  clear ihn
  generalize hlen : w.length = len
  induction len using Nat.strongRecOn generalizing w with
  | _ len ihl =>
  by_cases hth : once w = w
  case neg =>
    have hlt : (once w).length < w.length := by
      rcases Nat.lt_or_ge (once w).length w.length with z | z
      · exact z
      · exact absurd (once_fix (by have := once_len w; omega)) hth
    have z0 : 0 % 2 ^ low 0 w = 0 := Nat.zero_mod _
    have l1 := lgw_thw hw
    rw [z0] at l1
    have l2 := fin_thw (lgw_ok h900 hw)
    rw [z0] at l2
    obtain ⟨x, x1, x2⟩ := ihl _ (by rw [← hlen]; exact hlt) (once w) l1 (l2.trans hf) rfl
    exact ⟨x, x1, Int.le_trans x2 (wk_sub hc thw_sub)⟩
  case pos =>
  clear ihl hlen
  have thin := nrm_of hth
  have hall := lgw_all (by rw [cnt_zero]; omega) hw
  have hlt := sbh_lt (Nat.two_pow_pos n) (lgw_mem hw)
  have hne : ∃ r, w = (true, 1) :: r := by
    cases w with
    | nil => have h0 : 0 = 2 ^ (n - 1) := hf
             have := Nat.two_pow_pos (n - 1); omega
    | cons p r =>
      obtain ⟨⟨q1, q2, q3, q4⟩, _⟩ := hw
      have e2 : p.2 = 1 := q2.resolve_right (by rw [Nat.zero_testBit]; exact Bool.false_ne_true)
      have e1 : p.1 = true := by rw [q3]; unfold stb; rw [Nat.zero_testBit]; rfl
      exact ⟨r, by rw [← e1, ← e2]⟩
  obtain ⟨r, hr⟩ := hne
  have hs1 : 1 ≤ s := by
    rw [hr] at hw
    have := hw.1.2.2.2 rfl
    rw [cnt_zero] at this; omega
  by_cases hn1 : n = 1
  · subst hn1
    obtain ⟨s, rfl⟩ : ∃ k, s = k + 1 := ⟨s - 1, by omega⟩
    refine ⟨c 0, .one, ?_⟩
    rw [hr]
    have := wk_nn hc (w := r)
    show c 0 ≤ c 0 + wk c r
    omega
  have hs2 : 2 ≤ s := two_places (by omega) hw (by rw [hf, bit_pow, decide_eq_true rfl])
  obtain ⟨s, rfl⟩ : ∃ k, s = k + 1 := ⟨s - 1, by omega⟩
  have hs : 1 ≤ s := by omega
  obtain ⟨m, hm1, ⟨hm0, hmx⟩, hmax⟩ := greatest (N := n - 1) (P := fun m => 1 ≤ m ∧ ∃ x ∈ 0 :: sbh 0 w, x % 2 ^ m = 2 ^ (m - 1)) ⟨1, by omega, Nat.le_refl _, xr 0 1, by rw [hr]; simp [sbh], by unfold xr; simp⟩
  have H : ∀ x ∈ 0 :: sbh 0 w, x % 2 ^ (n - 1) ≠ 0 → x % 2 ^ m ≠ 0 := by
    intro x hx h
    obtain ⟨j, j1, j2, j3⟩ := low_mark h
    have := hmax j j2 ⟨j1, x, hx, j3⟩
    exact mod_of this (by rw [j3]; exact Nat.ne_of_gt (Nat.two_pow_pos _))
  have H0 : ∀ q x, x ∈ 0 :: sbh 0 w → q < n → (x % 2 ^ q ≠ 0 ∨ x = 0 ∨ x = 2 ^ (n - 1)) → cnt (n - q) (x / 2 ^ q) ≤ s := by
    intro q x hx hq h
    rcases h with h | h | h
    · have h1 := cnt_some h
      have h2 := hall x hx
      rw [cnt_at (by omega : q ≤ n)] at h2
      omega
    · rw [h, Nat.zero_div, cnt_zero]; omega
    · rw [h, pow_up hq]
      have := cnt_one (n := n - q - 1) (x := 2 ^ (n - q - 1)) (Nat.mod_self _)
      rw [show n - q - 1 + 1 = n - q by omega] at this
      omega
  have H1 : ∀ q x, x ∈ 0 :: sbh 0 w → q ≤ n → x / 2 ^ q ≠ 0 → cnt q x ≤ s := by
    intro q x hx hq h
    have h2 := hall x hx
    rw [cnt_at hq] at h2
    have h3 : x / 2 ^ q < 2 ^ (n - q) := by
      rw [Nat.div_lt_iff_lt_mul (Nat.two_pow_pos _), ← Nat.pow_add, show n - q + q = n by omega]
      exact hlt x hx
    have := cnt_some (m := n - q) (x := x / 2 ^ q) (by rw [Nat.mod_eq_of_lt h3]; exact h)
    omega
  obtain ⟨u, v, rfl, hu, hv⟩ := last_at hmx
  have lr := lgw_r hw
  obtain ⟨lu, lv⟩ := lgw_app.mp hw
  have ru := lgw_r lu
  have rv := lgw_r lv
  rw [fin_app] at hf
  have inu : ∀ x ∈ sbh 0 u, x ∈ 0 :: sbh 0 (u ++ v) := fun x hx => sbh_in0 (List.mem_cons_of_mem _ hx)
  have inv : ∀ x ∈ fin 0 u :: sbh (fin 0 u) v, x ∈ 0 :: sbh 0 (u ++ v) := fun x hx => sbh_in hx
  have hcm : ∀ x ∈ sbh 0 u, cnt m x ≤ s + 1 := fun x hx => by
    have := hall x (inu x hx)
    rw [cnt_at (by omega : m ≤ n)] at this
    omega
  by_cases hcase : ∀ x ∈ fin 0 u :: sbh (fin 0 u) v, x / 2 ^ m ≠ 0
  · obtain ⟨x1, a1, b1⟩ := part_lo ru (Nat.zero_mod _) hu hcm (IH m (s + 1) hm0 (by omega)) hc
    obtain ⟨x3, a3, b3⟩ := part_back (s := s) rv hu (by rw [hf]; exact pow_lo (by omega)) (fun x hx => H1 m x (inv x hx) (by omega) (hcase x hx)) (IH m s hm0 (by omega)) hc
    obtain ⟨u1, u2, u3⟩ := lgr_up (m := m) lr
    rw [Nat.zero_div] at u1 u2 u3
    have hup : lgw (n - m) s 0 (up m (u ++ v)) := lgw_of u1 fun y hy => by
      obtain ⟨z, hz, rfl⟩ := u3 y hy
      have hz := List.mem_cons_of_mem 0 hz
      refine H0 m z hz (by omega) ?_
      by_cases e : z % 2 ^ (n - 1) = 0
      · by_cases e0 : z = 0
        · exact .inr (.inl e0)
        · exact .inr (.inr (pow_rest (hlt z hz) hn e e0))
      · exact .inl (H z hz e)
    obtain ⟨x2, a2, b2⟩ := IH (n - m) s (by omega) (by omega) (fun i => c (i + m)) _ (fun i => hc _) hup (by rw [u2, fin_app, hf, pow_up (by omega)])
    have a2 := a2.upw
    rw [Nat.zero_add, show n - m + m = n by omega] at a2
    refine ⟨_, .two a1 a2 a3, ?_⟩
    rw [wk_parts (m := m), lo_app, wk_app]
    omega
  · -- it goes back to no mark above m
    have hcase : ∃ x, x ∈ fin 0 u :: sbh (fin 0 u) v ∧ x / 2 ^ m = 0 := by
      by_cases e : ∃ x, x ∈ fin 0 u :: sbh (fin 0 u) v ∧ x / 2 ^ m = 0
      · exact e
      · exact absurd (fun x hx h => e ⟨x, hx, h⟩) hcase
    obtain ⟨t, ht, ht0⟩ := hcase
    have ule : ∀ p ∈ u, p.2 ≤ m := fun p hp => Nat.le_trans (nrm_all thin p hp t ht) (hi_small (lt_up ht0))
    have eu : fin 0 u = 2 ^ (m - 1) := by
      have h1 : fin 0 u < 2 ^ m := sbh_lt (Nat.two_pow_pos m) (fun p hp => ⟨(lgw_mem lu p hp).1, ule p hp⟩) _ fin_mem
      rw [Nat.mod_eq_of_lt h1] at hu
      exact hu
    obtain ⟨x1, a1, b1⟩ := part_lo ru (Nat.zero_mod _) hu hcm (IH m (s + 1) hm0 (by omega)) hc
    rw [lo_all ule] at b1
    rw [eu] at hf hv rv lv inv
    have hlay : ∃ p ∈ u, p.2 = m := by
      by_cases e : ∃ p ∈ u, p.2 = m
      · exact e
      · have h1 : fin 0 u < 2 ^ (m - 1) := sbh_lt (Nat.two_pow_pos _) (fun p hp => ⟨(lgw_mem lu p hp).1, by
          have := ule p hp
          rcases Nat.lt_or_ge p.2 m with z | z
          · omega
          · exact absurd ⟨p, hp, by omega⟩ e⟩) _ fin_mem
        rw [eu] at h1
        exact absurd h1 (Nat.lt_irrefl _)
    obtain ⟨pm, hpm, epm⟩ := hlay
    have hhi : ∀ x ∈ 2 ^ (m - 1) :: sbh (2 ^ (m - 1)) v, m ≤ hi x := fun x hx => by
      have := nrm_all thin pm hpm x (by rw [eu]; exact hx)
      omega
    have hvne : v ≠ [] := fun e => by
      subst e
      have hf : 2 ^ (m - 1) = 2 ^ (n - 1) := hf
      have := Nat.pow_lt_pow_right (a := 2) (by decide) (by omega : m - 1 < n - 1)
      omega
    have hfirst : 1 < m ∧ xr (2 ^ (m - 1)) 1 ∈ sbh (2 ^ (m - 1)) v := by
      cases v with
      | nil => exact absurd rfl hvne
      | cons p v' =>
        obtain ⟨q1, q2, q3⟩ := rv.1
        have hx : xr (2 ^ (m - 1)) p.2 ∈ sbh (2 ^ (m - 1)) (p :: v') := List.mem_cons_self ..
        have k1 : p.2 = 1 := by
          rcases q2 with z | z
          · exact z
          · rw [bit_pow] at z
            have z : m - 1 = p.2 - 2 := of_decide_eq_true z
            by_cases z1 : p.2 = 1
            · exact z1
            · have hk : m < p.2 := by omega
              refine absurd ?_ (hv _ hx)
              rw [← xr_mod2 hk]
              exact Nat.mod_eq_of_lt (Nat.pow_lt_pow_right (by decide) (by omega))
        rw [k1] at hx
        have hm2 : 1 < m := by
          rcases Nat.lt_or_ge 1 m with z | z
          · exact z
          · have e : m = 1 := by omega
            subst e
            have := hhi _ (List.mem_cons_of_mem _ hx)
            unfold xr at this
            simp [hi] at this
        exact ⟨hm2, hx⟩
    obtain ⟨hm2, hone⟩ := hfirst
    obtain ⟨q, hq1, ⟨hq0, hqx⟩, hqmax⟩ := greatest (N := m - 1) (P := fun q => 1 ≤ q ∧ ∃ x ∈ 2 ^ (m - 1) :: sbh (2 ^ (m - 1)) v, x % 2 ^ q = 2 ^ (q - 1)) ⟨1, by omega, Nat.le_refl _, _, List.mem_cons_of_mem _ hone, by
      have hb : (xr (2 ^ (m - 1)) 1).testBit 0 = true := by rw [xr_bit, bit_pow, decide_eq_false (by omega : ¬ m - 1 = 0)]; rfl
      rw [Nat.testBit_zero] at hb
      exact of_decide_eq_true hb⟩
    have H2 : ∀ x ∈ sbh (2 ^ (m - 1)) v, x % 2 ^ q ≠ 0 ∨ x = 0 ∨ x = 2 ^ (n - 1) := by
      intro x hx
      have hxw := inv x (List.mem_cons_of_mem _ hx)
      by_cases e : x % 2 ^ (m - 1) = 0
      · by_cases e1 : x % 2 ^ (n - 1) = 0
        · by_cases e0 : x = 0
          · exact .inr (.inl e0)
          · exact .inr (.inr (pow_rest (hlt x hxw) hn e1 e0))
        · have e2 := H x hxw e1
          obtain ⟨j, j1, j2, j3⟩ := low_mark e2
          rcases Nat.lt_or_ge j m with z | z
          · have := mod_of (x := x) (q := j) (p := m - 1) (by omega) (by rw [j3]; exact Nat.ne_of_gt (Nat.two_pow_pos _))
            exact absurd e this
          · have : j = m := by omega
            subst this
            exact absurd j3 (hv x hx)
      · obtain ⟨j, j1, j2, j3⟩ := low_mark e
        have := hqmax j j2 ⟨j1, x, List.mem_cons_of_mem _ hx, j3⟩
        exact .inl (mod_of this (by rw [j3]; exact Nat.ne_of_gt (Nat.two_pow_pos _)))
    rw [wk_app]
    generalize hgM : m = M at a1
    cases a1 with
    | one => omega
    | @two _ _ p _ y1 y2 y3 d1 d2 d3 =>
    subst hgM
    have hp1 := d1.lt
    have hp2 := d2.lt
    rcases Nat.lt_or_ge p q with hpq | hpq
    · obtain ⟨y2', d2', l2'⟩ := d2.less hc q (by omega) (by omega)
      obtain ⟨z2, e2, f2⟩ := joined_up hs (by omega) (by omega) rv hf (fun x hx => H0 q x (inv x (List.mem_cons_of_mem _ hx)) (by omega) (H2 x hx)) d2' (IH (n - q) s (by omega) (by omega)) hc
      obtain ⟨v1, v2, rfl, hv1, _⟩ := last_at hqx
      obtain ⟨lv1, lv2⟩ := lgw_app.mp lv
      rw [fin_app] at hf
      have hq' : ∀ x ∈ 2 ^ (m - 1) :: sbh (2 ^ (m - 1)) (v1 ++ v2), cnt q x ≤ s := fun x hx => H1 q x (inv x hx) (by omega) (hi_big (by have := hhi x hx; omega))
      obtain ⟨z1, e1, f1⟩ := part_lo (s := s) (lgw_r lv1) (pow_lo (by omega)) hv1 (fun x hx => hq' x (sbh_in0 (List.mem_cons_of_mem _ hx))) (IH q s hq0 (by omega)) hc
      obtain ⟨z3, e3, f3⟩ := part_back (s := s) (lgw_r lv2) hv1 (by rw [hf]; exact pow_lo (by omega)) (fun x hx => hq' x (sbh_in hx)) (IH q s hq0 (by omega)) hc
      refine ⟨_, .two e1.more e2 e3, ?_⟩
      have := d1.pos hc
      have := d3.pos hc
      rw [wk_parts (m := q) (w := v1 ++ v2), lo_app, wk_app]
      omega
    · obtain ⟨z2, e2, f2⟩ := joined_up hs (by omega) (by omega) rv hf (fun x hx => H0 p x (inv x (List.mem_cons_of_mem _ hx)) (by omega) ((H2 x hx).imp_left (mod_of hpq))) d2 (IH (n - p) s (by omega) (by omega)) hc
      refine ⟨_, .two d1 e2 d3, ?_⟩
      have := wk_nn hc (w := lo p v)
      rw [wk_parts (m := p) (w := v)]
      omega
theorem no_way_cheaper : ∀ (n : Nat) (c : Nat → Int) (s : Nat) (w : List Mv), n ≤ 900 → 1 ≤ n → (∀ i, 0 ≤ c i) → lgw n s 0 w → (fin 0 w).testBit (n - 1) = true → ∃ x, Pr c n s 0 x ∧ x ≤ wk c w := by
 intro n
 induction n using Nat.strongRecOn with
 | _ n ih =>
 intro c s w h900 hn hc hw hf
 have hall := lgw_all (by rw [cnt_zero]; omega) hw
 have hlt := sbh_lt (Nat.two_pow_pos n) (lgw_mem hw)
 have hend : (fin 0 w) % 2 ^ n ≠ 0 := fun e => by
  have h1 := hlt _ fin_mem
  rw [Nat.mod_eq_of_lt h1] at e
  rw [e, Nat.zero_testBit] at hf; cases hf
 obtain ⟨j, j1, j2, j3⟩ := low_mark hend
 obtain ⟨m, hm1, ⟨hm0, hmx⟩, hmax⟩ := greatest (N := n) (P := fun m => 1 ≤ m ∧ ∃ x ∈ 0 :: sbh 0 w, x % 2 ^ m = 2 ^ (m - 1)) ⟨j, j2, j1, _, fin_mem, j3⟩
 obtain ⟨u, v, rfl, hu, _⟩ := last_at hmx
 have lr := lgw_r hw
 obtain ⟨lu, lv⟩ := lgw_app.mp hw
 obtain ⟨x1, a1, b1⟩ := part_lo (s := s) (lgw_r lu) (Nat.zero_mod _) hu (fun x hx => by
  have := hall x (sbh_in0 (List.mem_cons_of_mem _ hx))
  rw [cnt_at hm1] at this
  omega) (fun c w h1 h2 h3 => no_left_cheaper m c s w (by omega) hm0 h1 h2 h3) hc
 have hwk : wk c (u ++ v) = wk c (lo m u) + wk c (lo m v) + wk (fun i => c (i + m)) (up m (u ++ v)) := by
  rw [wk_parts (m := m), lo_app, wk_app]
 have n1 := wk_nn hc (w := lo m v)
 have n2 := wk_nn (c := fun i => c (i + m)) (fun i => hc _) (w := up m (u ++ v))
 rw [hwk]
 by_cases e : m = n
 ·subst e
  obtain ⟨y, y1, y2⟩ := a1.pr hc
  exact ⟨y, y1, by omega⟩
 ·obtain ⟨s, rfl⟩ : ∃ k, s = k + 1 := ⟨s - 1, by have := a1.lt; omega⟩
  obtain ⟨u1, u2, u3⟩ := lgr_up (m := m) lr
  rw [Nat.zero_div] at u1 u2 u3
  have hup : lgw (n - m) s 0 (up m (u ++ v)) := lgw_of u1 fun y hy => by
   obtain ⟨z, hz, rfl⟩ := u3 y hy
   have hz := List.mem_cons_of_mem 0 hz
   by_cases e0 : z = 0
   ·rw [e0, Nat.zero_div, cnt_zero]; omega
   ·obtain ⟨i, i1, i2, i3⟩ := low_mark (x := z) (N := n) (by rw [Nat.mod_eq_of_lt (hlt z hz)]; exact e0)
    have hz2 := mod_of (hmax i i2 ⟨i1, z, hz, i3⟩) (by rw [i3]; exact Nat.ne_of_gt (Nat.two_pow_pos _))
    have h1 := cnt_some hz2
    have h2 := hall z hz
    rw [cnt_at hm1] at h2
    omega
  obtain ⟨x2, a2, b2⟩ := ih (n - m) (by omega) (fun i => c (i + m)) s _ (by omega) (by omega) (fun i => hc _) hup (by
   rw [u2, div_bit, show n - m - 1 + m = n - 1 by omega]; exact hf)
  have a2 := a2.upw
  rw [Nat.zero_add, show n - m + m = n by omega] at a2
  exact ⟨_, .two a1 a2, by omega⟩
theorem first_lay {n s : Nat} {w : List Mv} (h : lgw n s 0 w) (hb : (fin 0 w).testBit (n - 1) = true) : ∃ l t, w = l ++ (true, n) :: t ∧ ¬ (true, n) ∈ l ∧ lgw n s 0 (l ++ [(true, n)]) ∧ (fin 0 (l ++ [(true, n)])).testBit (n - 1) = true := by
 have hm : (true, n) ∈ w := by
  obtain ⟨u, v, rfl, h1, h2⟩ := last_at (w := w) (P := fun y => y.testBit (n - 1) = false) ⟨0, List.mem_cons_self .., Nat.zero_testBit _⟩
  cases v with
  | nil => rw [List.append_nil, h1] at hb; cases hb
  | cons p r =>
   obtain ⟨⟨q1, q2, q3, q4⟩, _⟩ := (lgw_app.mp h).2
   have hx := h2 (xr (fin 0 u) p.2) (List.mem_cons_self ..)
   have hp : p.2 - 1 = n - 1 := by
    by_cases e : p.2 - 1 = n - 1
    ·exact e
    ·rw [xr_bit, decide_eq_false e, Bool.xor_false] at hx
     exact absurd h1 hx
   have hs : stb p.2 (fin 0 u) = false := by unfold stb; rw [hp]; exact h1
   rw [hs] at q3
   have e : p = (true, n) := Prod.ext q3 (by show p.2 = n; omega)
   rw [← e]
   exact List.mem_append_right _ (List.mem_cons_self ..)
 obtain ⟨l, t, e, hl⟩ := List.eq_append_cons_of_mem hm
 subst e
 obtain ⟨h1, h2, h3⟩ := lgw_app.mp h
 refine ⟨l, t, rfl, hl, lgw_app.mpr ⟨h1, h2, trivial⟩, ?_⟩
 rw [fin_app]
 show (xr (fin 0 l) n).testBit (n - 1) = true
 refine xr_self ?_
 have := h2.2.2.1
 unfold stb at this
 simpa using this.symm
theorem PLN.first {n s : Nat} {b : Bool} {P : List Pm} (h : PLN n s b P) : ∃ (l : List Mv) (t : List Pm), P = l.map some ++ some (true, n) :: t ∧ ¬ (true, n) ∈ l ∧ lgw n s 0 (l ++ [(true, n)]) ∧ (fin 0 (l ++ [(true, n)])).testBit (n - 1) = true := by
 unfold PLN at h
 split at h
 ·obtain ⟨w, rfl, hw, e⟩ := h
  obtain ⟨l, t, rfl, h1, h2, h3⟩ := first_lay hw (by rw [e, bit_pow, decide_eq_true rfl])
  exact ⟨l, t.map some, by simp, h1, h2, h3⟩
 ·obtain ⟨u, v, rfl, hu, hv, e, hb⟩ := h
  obtain ⟨l, t, rfl, h1, h2, h3⟩ := first_lay hu hb
  exact ⟨l, t.map some ++ [none] ++ (bkw v).map some, by simp, h1, h2, h3⟩
end L3
namespace L2
open PySem PySem.Spec PyProof.Rows
section
variable {X : Cx}
theorem op_inK2 (hu : X.A.units + 1 < cLine) : OpR X (compareOp .In) (fun x y H Q => ∃ a kvs k, x = kV k ∧ y = .ref a ∧ (H a = some (.dK kvs) ∨ ∃ o, H a = some (.frz o (.dK kvs))) ∧ Q (.bl (valV kvs k).isSome) H) := by
 intro pins s σ H x y v u Q I rx ry h
 obtain ⟨a, kvs, k, rfl, rfl, ha, q⟩ := h
 obtain rfl : u = Value.ref a := ry
 exact d_in hu I (.inl ⟨kvs, k, ha, rfl, rfl⟩) rx fun s' I' => ⟨.bl _, H, I', rfl, q⟩
theorem op_notInK2 (hu : X.A.units + 1 < cLine) : OpR X (compareOp .NotIn) (fun x y H Q => ∃ a kvs k, x = kV k ∧ y = .ref a ∧ (H a = some (.dK kvs) ∨ ∃ o, H a = some (.frz o (.dK kvs))) ∧ Q (.bl (!(valV kvs k).isSome)) H) := by
 intro pins s σ H x y v u Q I rx ry h
 obtain ⟨a, kvs, k, rfl, rfl, ha, q⟩ := h
 obtain rfl : u = Value.ref a := ry
 exact d_notIn hu I (.inl ⟨kvs, k, ha, rfl, rfl⟩) rx fun s' I' => ⟨.bl _, H, I', rfl, q⟩
end
end L2
namespace L3
open PySem PySem.Spec PyProof.Rows L2
section
variable {X : Cx} {K : PySem.W.Frag} {H : Hp}
@[reducible] def xInK2 (neg : Bool) : R3 := fun x y G q => ∃ (k : Key) (kvs : List (Key × D)) (a : Addr), x = kD k ∧ y = .ref a ∧ (G a = some (.dic kvs) ∨ G a = some (.frd kvs)) ∧ q (.bl (if neg then !(valK kvs k).isSome else (valK kvs k).isSome)) G
theorem some_rel {kvs : List (Key × D)} {ys : List (Key × V)} {k : Key} (rp : RelPs K H kvs ys) : (valK kvs k).isSome = (valV ys k).isSome := by
 rcases valK_rel (k := k) rp with ⟨z1, z2⟩ | ⟨d', w, z1, z2, z3⟩
 ·rw [z1, z2]; rfl
 ·rw [z1, z2]; rfl
theorem x_inK2 {k : Nat} (hr : Room k X.A) : Op3 X (compareOp .In) (xInK2 false) := weakOp (op_inK2 (hu_of hr)) <| by
 rintro x y H Q ⟨d, e, G, q, r1, r2, c, ⟨k, kvs, a, rfl, rfl, hg, t⟩, f⟩
 cases r2.ref_inv
 obtain rfl := kD_inv r1
 rcases hg with hg | hg
 ·obtain ⟨ys, e, rp⟩ := c a _ hg
  exact ⟨a, ys, k, rfl, rfl, .inl e, by rw [← some_rel rp]; exact f _ _ _ _ RelD.blI c (Le.refl H) t⟩
 ·obtain ⟨o, ys, e, rp⟩ := c a _ hg
  exact ⟨a, ys, k, rfl, rfl, .inr ⟨o, e⟩, by rw [← some_rel rp]; exact f _ _ _ _ RelD.blI c (Le.refl H) t⟩
theorem x_notInK2 {k : Nat} (hr : Room k X.A) : Op3 X (compareOp .NotIn) (xInK2 true) := weakOp (op_notInK2 (hu_of hr)) <| by
 rintro x y H Q ⟨d, e, G, q, r1, r2, c, ⟨k, kvs, a, rfl, rfl, hg, t⟩, f⟩
 cases r2.ref_inv
 obtain rfl := kD_inv r1
 rcases hg with hg | hg
 ·obtain ⟨ys, e, rp⟩ := c a _ hg
  exact ⟨a, ys, k, rfl, rfl, .inl e, by rw [← some_rel rp]; exact f _ _ _ _ RelD.blI c (Le.refl H) t⟩
 ·obtain ⟨o, ys, e, rp⟩ := c a _ hg
  exact ⟨a, ys, k, rfl, rfl, .inr ⟨o, e⟩, by rw [← some_rel rp]; exact f _ _ _ _ RelD.blI c (Le.refl H) t⟩
def dDisp1 (tk tv : TE3) : TE3 := fun σ G q => ∀ p, G p = none → tk σ (gup G p (.dic [])) fun x G1 => tv σ G1 fun y G2 => G2 p = some (.dic []) ∧ ∃ k : Key, x = kD k ∧ q (.ref p) (gup G2 p (.dic [(k, y)]))
theorem e_disp1 {ek ev : Expr} {tk tv : TE3} {pos : Pos} (hk : E3 X ek tk) (hv : E3 X ev tv) : E3 X (.Dict [some ek] [ev] pos) (dDisp1 tk tv) :=
 weakE (pe_disp (pps_cons hk hv pps_nil) rfl rfl (by simp) (by show 1 ≤ 15; decide)) fun σ H Q h => by
  obtain ⟨σd, G, q, rs, c, t, f⟩ := h
  intro p hp
  have l0 : Le H (upd H p (.dK [])) := Le.fresh hp
  have c0 : Con X.K (gup G p (.dic [])) (upd H p (.dK [])) := c.put (o := .dic []) l0 ⟨[], upd_same, rfl, .nil⟩
  refine ⟨σd, _, _, rs.le l0, c0, t p (c.fresh hp), fun x G1 v H1 r1 c1 l1 t1 => ⟨σd, G1, _, rs.le (l0.trans l1), c1, t1, fun y G2 u H2 r2 c2 l2 t2 => ?_⟩⟩
  obtain ⟨hg, k, rfl, t3⟩ := t2
  obtain rfl := kD_inv r1
  obtain ⟨ys, e, rp⟩ := c2 p _ hg
  have hy : ys = [] := by have := congrArg List.length rp.1; simpa using this.symm
  subst hy
  have l5 : Le H2 (upd H2 p (.dK (putK [] k u))) := Le.dK e
  refine ⟨e, [(k, u)], rfl, by show 1 ≤ 15; decide, ?_⟩
  exact f _ _ _ _ RelD.refI (c2.put (o := .dic [(k, y)]) l5 ⟨_, upd_same, (putK_rel (k := k) r2 (K := X.K) (H := H2) (kvs := []) (ys := []) ⟨rfl, .nil⟩).le l5⟩) (l0.trans (l1.trans (l2.trans l5))) t3
end
end L3
namespace L3
open PySem PySem.Spec PyProof.Rows L2 Rw
def RS (n s m : Nat) : Prop := ∃ w, lgw n s 0 w ∧ fin 0 w = m
section
variable {n s m : Nat}
theorem RS.zero : RS n s 0 := ⟨[], trivial, rfl⟩
theorem RS.step {p : Mv} (h : RS n s m) (hp : lgl n s m p) : RS n s (xr m p.2) := by
 obtain ⟨w, h1, h2⟩ := h
 refine ⟨w ++ [p], lgw_app.mpr ⟨h1, ?_, trivial⟩, ?_⟩
 ·rw [h2]; exact hp
 ·rw [fin_app, h2]; rfl
theorem RS.lt (h : RS n s m) : m < 2 ^ n := by
 obtain ⟨w, h1, h2⟩ := h
 rw [← h2]; exact lgw_lt h1
theorem RS.all {F : List Nat} (h0 : 0 ∈ F) (hc : ∀ x ∈ F, ∀ p, lgl n s x p → xr x p.2 ∈ F) (h : RS n s m) : m ∈ F := by
 obtain ⟨w, h1, rfl⟩ := h
 have : ∀ (w : List Mv) (x : Nat), x ∈ F → lgw n s x w → fin x w ∈ F := by
  intro w
  induction w with
  | nil => intro x hx _; exact hx
  | cons p r ih => intro x hx hw; exact ih _ (hc x hx p hw.1) hw.2
 exact this w 0 h0 h1
theorem nat_len : ∀ {l : List Nat} {N : Nat}, l.Nodup → (∀ x ∈ l, x < N) → l.length ≤ N
 | l, 0, _, h => by
  cases l with
  | nil => exact Nat.le_refl _
  | cons x l => have := h x List.mem_cons_self; omega
 | l, N + 1, hn, h => by
  have h1 := nat_len (l := l.erase N) (N := N) (hn.erase N) fun x hx => by
   have := h x (List.mem_of_mem_erase hx)
   have hne : x ≠ N := fun e => by rw [e] at hx; exact (List.Nodup.not_mem_erase hn) hx
   omega
  by_cases hm : N ∈ l
  ·rw [List.length_erase_of_mem hm] at h1; omega
  ·rw [List.erase_of_not_mem hm] at h1; omega
noncomputable def fdD (F : List Nat) : List (Key × D) := F.map fun (x : Nat) => (Sum.inl (x : Int), D.bl true)
theorem fd_in {F : List Nat} {x : Nat} : (valK (fdD F) (.inl (x : Int))).isSome = decide (x ∈ F) := by
 induction F with
 | nil => rfl
 | cons y F ih =>
  unfold valK fdD at ih ⊢
  rw [List.map_cons, List.find?_cons]
  by_cases e : y = x
  ·subst e; simp
  ·have e2 : ¬ (y : Int) = (x : Int) := fun z => e (by omega)
   have e3 : ¬ x = y := fun z => e z.symm
   simp only [Sum.inl.injEq, e2, decide_false, List.mem_cons, e3, false_or]
   exact ih
theorem fd_put {F : List Nat} {x : Nat} (h : ¬ x ∈ F) : putKD (fdD F) (.inl (x : Int)) (.bl true) = fdD (F ++ [x]) := by
 have ha : ((fdD F).any fun kv => decide (kv.1 = Sum.inl (x : Int))) = false := by
  rw [List.any_eq_false]
  intro kv hk hd
  obtain ⟨y, hy, rfl⟩ := List.mem_map.mp hk
  have e : (Sum.inl (y : Int) : Key) = Sum.inl (x : Int) := of_decide_eq_true hd
  injection e with e
  have : y = x := by omega
  exact h (by rw [← this]; exact hy)
 unfold putKD
 rw [if_neg (by rw [ha]; exact Bool.false_ne_true)]
 unfold fdD
 rw [List.map_append]; rfl
end
theorem wok_ex : ∀ (d f l s : Nat) (b : Bool), l - f ≤ d → f < l → l - f ≤ cap s b → ∃ w, WOK f l s b w
  | 0, f, l, s, b, h, h1, _ => by omega
  | d + 1, f, l, s, b, h, h1, h2 => by
    by_cases e : l - f = 1
    · have hl : l = f + 1 := by omega
      subst hl
      have hs : 1 ≤ s := by
        cases s with
        | zero => have : cap 0 b = 0 := by cases b <;> rfl
                  omega
        | succ s => omega
      exact ⟨_, wok_one hs⟩
    · obtain ⟨s', rfl, c1, c2⟩ := fits_some (by omega) h2
      obtain ⟨w2, W2⟩ := wok_ex d (f + (l - f + 1) / 2) l s' b (by omega) (by omega) c2
      cases b with
      | true =>
        have c1 : f + (l - f + 1) / 2 - f ≤ cap s' true := c1
        obtain ⟨w1, W1⟩ := wok_ex d f (f + (l - f + 1) / 2) (s' + 1) true (by omega) (by omega) (Nat.le_trans c1 cap_mono)
        obtain ⟨w3, W3⟩ := wok_ex d f (f + (l - f + 1) / 2) s' true (by omega) (by omega) c1
        exact ⟨_, wok_alone (by omega) (by omega) W1 W2 W3⟩
      | false =>
        have c1 : f + (l - f + 1) / 2 - f ≤ cap (s' + 1) true := c1
        obtain ⟨w1, W1⟩ := wok_ex d f (f + (l - f + 1) / 2) (s' + 1) true (by omega) (by omega) c1
        exact ⟨_, wok_some (by omega) (by omega) W1 W2⟩
theorem reach_iff {n s : Nat} (hn : 1 ≤ n) (h9 : n ≤ 900) : (∃ m, RS n s m ∧ m.testBit (n - 1) = true) ↔ n ≤ cap s false := by
 constructor
 ·rintro ⟨m, ⟨w, h1, h2⟩, hb⟩
  obtain ⟨x, hx, _⟩ := no_way_cheaper n (fun _ => 0) s w h9 hn (fun _ => Int.le_refl _) h1 (by rw [h2]; exact hb)
  have := hx.cap
  omega
 ·intro h
  obtain ⟨w, hw⟩ := wok_ex n 0 n s false (by omega) (by omega) (by omega)
  obtain ⟨h1, h2⟩ := hw.start (n := n) (S := s) (Nat.le_refl _) (Nat.le_refl _)
  exact ⟨_, ⟨w, h1, rfl⟩, h2⟩
theorem alone_iff {n s : Nat} (hn : 1 ≤ n) (h9 : n ≤ 900) : RS n s (2 ^ (n - 1)) ↔ n ≤ cap s true := by
 constructor
 ·rintro ⟨w, h1, h2⟩
  obtain ⟨x, hx, _⟩ := no_left_cheaper n (fun _ => 0) s w h9 hn (fun _ => Int.le_refl _) h1 h2
  have := hx.cap
  omega
 ·intro h
  obtain ⟨w, hw⟩ := wok_ex n 0 n s true (by omega) (by omega) (by omega)
  obtain ⟨h1, h2⟩ := hw.start (n := n) (S := s) (Nat.le_refl _) (Nat.le_refl _)
  exact ⟨w, h1, hw.left (by omega) (Nat.le_refl _) (Nat.le_refl _)⟩
end L3
namespace L3
open PySem PySem.Spec PyProof.Rows L2 Rw
section
variable {X : Cx} {K : PySem.W.Frag} {H : Hp}
@[reducible] def xEqSh : R3 := fun x y G q => ∃ p : Pm, x = pmD p ∧ y = .tup [.str "show"] ∧ q (.bl (decide (p = none))) G
theorem x_eqSh {k : Nat} (hr : Room k X.A) : Op3 X (compareOp .Eq) xEqSh := by
 intro pins s σ H x y v u Q I rx ry h
 obtain ⟨d, e, G, q, r1, r2, c, ⟨p, rfl, rfl, hq⟩, f⟩ := h
 cases p with
 | none => exact op_eqD hr pins s σ H x y v u Q I rx ry ⟨pmD none, pmD none, G, 1, .tup [.str "show"], .tup [.str "show"], true, r1, r2, c, by decide, rfl, rfl, rfl, rfl, f _ _ _ _ RelD.blI c (Le.refl H) hq⟩
 | some p =>
  have hu := hr.units
  obtain ⟨a, xs, its, rfl, rs, w1, t1⟩ := tup_its I (show RelD X.K H (.tup [.str (mP p).1, .int (mP p).2]) x from r1)
  obtain ⟨a', xs', its', rfl, rs', w2, t2⟩ := tup_its I r2
  cases rx; cases ry
  obtain ⟨x1, ys, rfl, rx1, rs2⟩ := rs.inv_cons
  obtain ⟨x2, rfl, rx2⟩ := rs2.one
  obtain ⟨y1, rfl, ry1⟩ := rs'.one
  rw [rx1.str_inv, rx2.int_inv] at w1
  rw [ry1.str_inv] at w2
  obtain ⟨u1, u2, rfl, q1, q2⟩ := Vals.two w1
  obtain ⟨u3, rfl, q3⟩ := w2.one
  obtain ⟨tk1, rfl⟩ := q1
  obtain ⟨tk2, rfl⟩ := q2
  obtain ⟨tk3, rfl⟩ := q3
  refine SeqAt.eq_tupleAt (e := fun _ => (mP p).1 == Str.ofString "show") (show s.heap.IsTuple a #[Value.str (mP p).1 tk1, Value.int (mP p).2 tk2] from t1) (show s.heap.IsTuple a' #[Value.str (Str.ofString "show") tk3] from t2) (by omega) ?_ ?_
  ·intro j h1 h2
   have : j = 0 := by simpa using h2
   subst this
   exact SeqAt.EqAt.str_str _ tk1 _ tk3
  ·rw [show ((List.range (min (#[Value.str (mP p).1 tk1, Value.int (mP p).2 tk2] : Array Value).size (#[Value.str (Str.ofString "show") tk3] : Array Value).size)).all (fun _ => (mP p).1 == Str.ofString "show") && (#[Value.str (mP p).1 tk1, Value.int (mP p).2 tk2] : Array Value).size == (#[Value.str (Str.ofString "show") tk3] : Array Value).size) = false by simp]
   exact ⟨.bl false, H, I, rfl, f _ _ _ _ RelD.blI c (Le.refl H) hq⟩
end
end L3
namespace Law
open PySem L2 L3
set_option maxHeartbeats 4000000
noncomputable def top (i : Nat) : Stmt := PySem.Challenge.pw_nolitter_k74_whole_how_far_marks_reach.main.body.getD i (.Pass ⟨0, 0, 0, 0⟩)
noncomputable abbrev s_checked : Stmt := top 4
noncomputable abbrev s_may_do : Stmt := top 5
noncomputable abbrev s_set_of : Stmt := top 6
noncomputable abbrev s_stands : Stmt := top 7
noncomputable abbrev s_many_in : Stmt := top 8
noncomputable abbrev s_behind : Stmt := top 9
noncomputable abbrev s_turned_plan : Stmt := top 10
noncomputable abbrev s_turned_move : Stmt := top 11
noncomputable abbrev s_alone : Stmt := top 13
noncomputable abbrev s_reached : Stmt := top 14
noncomputable abbrev s_reach : Stmt := top 15
noncomputable abbrev s_alone_reach : Stmt := top 16
noncomputable abbrev s_work_at : Stmt := top 17
noncomputable abbrev s_alone_table : Stmt := top 18
noncomputable abbrev s_least_alone : Stmt := top 19
noncomputable abbrev s_alone_by : Stmt := top 20
noncomputable abbrev s_reached_table : Stmt := top 21
noncomputable abbrev s_least_reached : Stmt := top 22
noncomputable abbrev s_left_plan : Stmt := top 24
noncomputable abbrev s_shown_plan : Stmt := top 25
noncomputable abbrev s_left_way : Stmt := top 26
noncomputable abbrev s_reached_way : Stmt := top 27
noncomputable abbrev s_law_source : Stmt := top 29
noncomputable abbrev s_law_draw : Stmt := top 30
noncomputable abbrev s_law_moves : Stmt := top 31
noncomputable abbrev s_law_costs : Stmt := top 32
noncomputable abbrev s_law_grown : Stmt := top 33
noncomputable abbrev s_law_sizes : Stmt := top 34
noncomputable abbrev s_law_walked : Stmt := top 35
noncomputable abbrev s_law_told : Stmt := top 36
noncomputable abbrev s_law : Stmt := top 37
local macro_rules | `(tactic| ac_nf) => `(tactic| exact ⟨rfl, rfl, rfl, by decide +kernel, rfl, by decide +kernel, by decide +kernel⟩)
theorem sc_checked : FnScope ["plan", "n", "s", "marks", "shown", "at", "move", "may_be"] ["plan", "n", "s"] (defScope s_checked) := by ac_nf
theorem sc_may_do : FnScope ["move", "marks", "n", "s", "k"] ["move", "marks", "n", "s"] (defScope s_may_do) := by ac_nf
theorem sc_set_of : FnScope ["k"] ["k"] (defScope s_set_of) := by ac_nf
theorem sc_stands : FnScope ["k", "marks"] ["k", "marks"] (defScope s_stands) := by ac_nf
theorem sc_many_in : FnScope ["marks", "many"] ["marks"] (defScope s_many_in) := by ac_nf
theorem sc_behind : FnScope ["move", "marks"] ["move", "marks"] (defScope s_behind) := by ac_nf
theorem sc_turned_plan : FnScope ["plan"] ["plan"] (defScope s_turned_plan) := by ac_nf
theorem sc_turned_move : FnScope ["move"] ["move"] (defScope s_turned_move) := by ac_nf
theorem sc_alone : FnScope ["costs", "s"] ["costs", "s"] (defScope s_alone) := by ac_nf
theorem sc_reached : FnScope ["costs", "s"] ["costs", "s"] (defScope s_reached) := by ac_nf
theorem sc_reach : FnScope ["s"] ["s"] (defScope s_reach) := by ac_nf
theorem sc_alone_reach : FnScope ["s"] ["s"] (defScope s_alone_reach) := by ac_nf
theorem sc_work_at : FnScope ["table", "key"] ["table", "key"] (defScope s_work_at) := by ac_nf
theorem sc_alone_table : FnScope ["costs", "s", "table", "places", "many", "begin"] ["costs", "s"] (defScope s_alone_table) := by ac_nf
theorem sc_least_alone : FnScope ["costs", "places", "begin", "end", "table", "most", "middles"] ["costs", "places", "begin", "end", "table"] (defScope s_least_alone) := by ac_nf
theorem sc_alone_by : FnScope ["places", "begin", "middle", "end", "table"] ["places", "begin", "middle", "end", "table"] (defScope s_alone_by) := by ac_nf
theorem sc_reached_table : FnScope ["costs", "s", "alones", "table", "places", "many", "begin"] ["costs", "s", "alones"] (defScope s_reached_table) := by ac_nf
theorem sc_least_reached : FnScope ["costs", "places", "begin", "alones", "table", "end", "middles"] ["costs", "places", "begin", "alones", "table"] (defScope s_least_reached) := by ac_nf
theorem sc_left_plan : FnScope ["costs", "s", "alones"] ["costs", "s"] (defScope s_left_plan) := by ac_nf
theorem sc_shown_plan : FnScope ["costs", "s", "alones", "reacheds", "way"] ["costs", "s"] (defScope s_shown_plan) := by ac_nf
theorem sc_left_way : FnScope ["places", "begin", "end", "alones", "middle"] ["places", "begin", "end", "alones"] (defScope s_left_way) := by ac_nf
theorem sc_reached_way : FnScope ["places", "begin", "end", "alones", "reacheds", "middle"] ["places", "begin", "end", "alones", "reacheds"] (defScope s_reached_way) := by ac_nf
theorem sc_law_source : FnScope ["_law_script"] ["_law_script"] (defScope s_law_source) := by ac_nf
theorem sc_law_draw : FnScope ["_law_source_here", "_law_many", "_law_digit", "_law_cell", "_law_one", "_law_other"] ["_law_source_here", "_law_many"] (defScope s_law_draw) := by ac_nf
theorem sc_law_moves : FnScope ["_law_marks", "_law_n", "_law_s", "_law_many", "_law_found", "_law_k"] ["_law_marks", "_law_n", "_law_s"] (defScope s_law_moves) := by ac_nf
theorem sc_law_costs : FnScope ["_law_source_here", "_law_n", "_law_found", "_law_k", "_law_cost"] ["_law_source_here", "_law_n"] (defScope s_law_costs) := by ac_nf
theorem sc_law_grown : FnScope ["_law_n", "_law_s", "_law_found", "_law_due", "_law_marks", "_law_word", "_law_k", "_law_other"] ["_law_n", "_law_s"] (defScope s_law_grown) := by ac_nf
theorem sc_law_sizes : FnScope ["_law_source_here", "_law_s", "_law_many"] ["_law_source_here"] (defScope s_law_sizes) := by ac_nf
theorem sc_law_walked : FnScope ["_law_plan", "_law_prices", "_law_s", "_law_marks", "_law_spent", "_law_shown", "_law_move"] ["_law_plan", "_law_prices", "_law_s"] (defScope s_law_walked) := by ac_nf
theorem sc_law_told : FnScope ["_law_plan", "_law_word", "_law_prices", "_law_s", "_law_due"] ["_law_plan", "_law_word", "_law_prices", "_law_s", "_law_due"] (defScope s_law_told) := by ac_nf
theorem sc_law : FnScope ["_law_script", "_law_source_here", "_law_n", "_law_s", "_law_prices", "_law_sets", "_law_last", "_law_have", "_law_much", "_law_left", "_law_shown_due", "_law_left_due"] ["_law_script"] (defScope s_law) := by ac_nf
set_option genInjectivity false in
set_option genSizeOf false in
structure Txt (K : PySem.W.Frag) (mg : Str → Option Value) where
 f_checked : FnAt K "checked" "checked" s_checked ["plan", "n", "s"]
 g_checked : mg "checked" = some (.ref f_checked.a)
 f_may_do : FnAt K "may_do" "may_do" s_may_do ["move", "marks", "n", "s"]
 g_may_do : mg "may_do" = some (.ref f_may_do.a)
 f_set_of : FnAt K "set_of" "set_of" s_set_of ["k"]
 g_set_of : mg "set_of" = some (.ref f_set_of.a)
 f_stands : FnAt K "stands" "stands" s_stands ["k", "marks"]
 g_stands : mg "stands" = some (.ref f_stands.a)
 f_many_in : FnAt K "many_in" "many_in" s_many_in ["marks"]
 g_many_in : mg "many_in" = some (.ref f_many_in.a)
 f_behind : FnAt K "behind" "behind" s_behind ["move", "marks"]
 g_behind : mg "behind" = some (.ref f_behind.a)
 f_turned_plan : FnAt K "turned_plan" "turned_plan" s_turned_plan ["plan"]
 g_turned_plan : mg "turned_plan" = some (.ref f_turned_plan.a)
 f_turned_move : FnAt K "turned_move" "turned_move" s_turned_move ["move"]
 g_turned_move : mg "turned_move" = some (.ref f_turned_move.a)
 f_alone : FnAt K "alone" "alone" s_alone ["costs", "s"]
 g_alone : mg "alone" = some (.ref f_alone.a)
 f_reached : FnAt K "reached" "reached" s_reached ["costs", "s"]
 g_reached : mg "reached" = some (.ref f_reached.a)
 f_reach : FnAt K "reach" "reach" s_reach ["s"]
 g_reach : mg "reach" = some (.ref f_reach.a)
 f_alone_reach : FnAt K "alone_reach" "alone_reach" s_alone_reach ["s"]
 g_alone_reach : mg "alone_reach" = some (.ref f_alone_reach.a)
 f_work_at : FnAt K "work_at" "work_at" s_work_at ["table", "key"]
 g_work_at : mg "work_at" = some (.ref f_work_at.a)
 f_alone_table : FnAt K "alone_table" "alone_table" s_alone_table ["costs", "s"]
 g_alone_table : mg "alone_table" = some (.ref f_alone_table.a)
 f_least_alone : FnAt K "least_alone" "least_alone" s_least_alone ["costs", "places", "begin", "end", "table"]
 g_least_alone : mg "least_alone" = some (.ref f_least_alone.a)
 f_alone_by : FnAt K "alone_by" "alone_by" s_alone_by ["places", "begin", "middle", "end", "table"]
 g_alone_by : mg "alone_by" = some (.ref f_alone_by.a)
 f_reached_table : FnAt K "reached_table" "reached_table" s_reached_table ["costs", "s", "alones"]
 g_reached_table : mg "reached_table" = some (.ref f_reached_table.a)
 f_least_reached : FnAt K "least_reached" "least_reached" s_least_reached ["costs", "places", "begin", "alones", "table"]
 g_least_reached : mg "least_reached" = some (.ref f_least_reached.a)
 f_left_plan : FnAt K "left_plan" "left_plan" s_left_plan ["costs", "s"]
 g_left_plan : mg "left_plan" = some (.ref f_left_plan.a)
 f_shown_plan : FnAt K "shown_plan" "shown_plan" s_shown_plan ["costs", "s"]
 g_shown_plan : mg "shown_plan" = some (.ref f_shown_plan.a)
 f_left_way : FnAt K "left_way" "left_way" s_left_way ["places", "begin", "end", "alones"]
 g_left_way : mg "left_way" = some (.ref f_left_way.a)
 f_reached_way : FnAt K "reached_way" "reached_way" s_reached_way ["places", "begin", "end", "alones", "reacheds"]
 g_reached_way : mg "reached_way" = some (.ref f_reached_way.a)
 f_law_source : FnAt K "_law_source" "_law_source" s_law_source ["_law_script"]
 g_law_source : mg "_law_source" = some (.ref f_law_source.a)
 f_law_draw : FnAt K "_law_draw" "_law_draw" s_law_draw ["_law_source_here", "_law_many"]
 g_law_draw : mg "_law_draw" = some (.ref f_law_draw.a)
 f_law_moves : FnAt K "_law_moves" "_law_moves" s_law_moves ["_law_marks", "_law_n", "_law_s"]
 g_law_moves : mg "_law_moves" = some (.ref f_law_moves.a)
 f_law_costs : FnAt K "_law_costs" "_law_costs" s_law_costs ["_law_source_here", "_law_n"]
 g_law_costs : mg "_law_costs" = some (.ref f_law_costs.a)
 f_law_grown : FnAt K "_law_grown" "_law_grown" s_law_grown ["_law_n", "_law_s"]
 g_law_grown : mg "_law_grown" = some (.ref f_law_grown.a)
 f_law_sizes : FnAt K "_law_sizes" "_law_sizes" s_law_sizes ["_law_source_here"]
 g_law_sizes : mg "_law_sizes" = some (.ref f_law_sizes.a)
 f_law_walked : FnAt K "_law_walked" "_law_walked" s_law_walked ["_law_plan", "_law_prices", "_law_s"]
 g_law_walked : mg "_law_walked" = some (.ref f_law_walked.a)
 f_law_told : FnAt K "_law_told" "_law_told" s_law_told ["_law_plan", "_law_word", "_law_prices", "_law_s", "_law_due"]
 g_law_told : mg "_law_told" = some (.ref f_law_told.a)
 f_law : FnAt K "law" "law" s_law ["_law_script"]
 g_law : mg "law" = some (.ref f_law.a)
 b_abs : mg "abs" = none
 b_enumerate : mg "enumerate" = none
 b_isinstance : mg "isinstance" = none
 b_len : mg "len" = none
 b_list : mg "list" = none
 b_max : mg "max" = none
 b_min : mg "min" = none
 b_range : mg "range" = none
 b_reversed : mg "reversed" = none
end Law
namespace Law
open PySem L2 L3 Rw
set_option maxHeartbeats 4000000
section
variable {P : Program} {w : World} {K : PySem.W.Frag} {mg : Str → Option Value} {base : Heap} (T : Txt K mg)
def S_law_source (_ : Txt K mg) : Sp3 := fun ds G R => ∃ (a : Addr) (ns : List Int), ds = [.ref a] ∧ G a = some (.fro (ns.map .int)) ∧ ∀ q l G', Src G' q l → R (.ref q) G'
def S_law_draw (_ : Txt K mg) : Sp3 := fun ds G R => ∃ (s a : Addr) (m : Int), ds = [.ref s, .int m] ∧ Src G s a ∧ 0 < m ∧ m < 1073741824 ∧ ∀ (v : Int) G', Ady s a G G' → 0 ≤ v → v < m → R (.int v) G'
def S_law_moves (_ : Txt K mg) : Sp3 := fun ds G R => ∃ (m n s : Nat), ds = [.int (m : Int), .int (n : Int), .int (s : Int)] ∧ n ≤ 900 ∧ ∀ (q : Addr) (ps : List Mv) (G' : Gp), G q = none → G' q = some (.lst (ps.map mD)) → (∀ p, p ∈ ps ↔ lgl n s m p) → ps.length ≤ 1000 → Grow G G' → R (.ref q) G'
theorem c_draw {G : Gp} {s a : Addr} {m : Int} {q : DK} (h : Src G s a) (h0 : 0 < m) (h1 : m < 1073741824) (k : ∀ (v : Int) (G' : Gp), Ady s a G G' → 0 ≤ v → v < m → q (.int v) G') : ∃ R, S_law_draw T [.ref s, .int m] G R ∧ ∀ d G', R d G' → q d G' :=
 call_nd (post := fun d G' => ∃ v : Int, d = .int v ∧ Ady s a G G' ∧ 0 ≤ v ∧ v < m) (fun R h' => ⟨s, a, m, rfl, h, h0, h1, fun v G' x y z => h' _ _ ⟨v, rfl, x, y, z⟩⟩) fun d G' ⟨v, e, x, y, z⟩ => by subst e; exact k v G' x y z
theorem c_moves {G : Gp} {m n s : Nat} {q : DK} (hn : n ≤ 900) (k : ∀ (q' : Addr) (ps : List Mv) (G' : Gp), G q' = none → G' q' = some (.lst (ps.map mD)) → (∀ p, p ∈ ps ↔ lgl n s m p) → ps.length ≤ 1000 → Grow G G' → q (.ref q') G') : ∃ R, S_law_moves T [.int (m : Int), .int (n : Int), .int (s : Int)] G R ∧ ∀ d G', R d G' → q d G' :=
 call_nd (post := fun d G' => ∃ (q' : Addr) (ps : List Mv), d = .ref q' ∧ G q' = none ∧ G' q' = some (.lst (ps.map mD)) ∧ (∀ p, p ∈ ps ↔ lgl n s m p) ∧ ps.length ≤ 1000 ∧ Grow G G') (fun R h' => ⟨m, n, s, rfl, hn, fun q' ps G' y1 y2 y3 y4 y5 => h' _ _ ⟨q', ps, rfl, y1, y2, y3, y4, y5⟩⟩) fun d G' ⟨q', ps, e, y1, y2, y3, y4, y5⟩ => by subst e; exact k q' ps G' y1 y2 y3 y4 y5
def S_set_of (_ : Txt K mg) : Sp3 := fun ds G R => ∃ (k : Nat), ds = [.int (k : Int)] ∧ k ≤ 1000 ∧ (k = 0 → R (.int 0) G) ∧ (∀ i, k = i + 1 → R (.int (1 * 2 ^ i)) G)
def S_many_in (_ : Txt K mg) : Sp3 := fun ds G R => ∃ (b m : Nat), ds = [.int (m : Int)] ∧ m < 2 ^ b ∧ R (.int (pc b m : Int)) G
def S_behind (_ : Txt K mg) : Sp3 := fun ds G R => ∃ (p : Pm) (m : Nat), ds = [pmD p, .int (m : Int)] ∧ okm m p ∧ R (.int (nxp m p : Int)) G
def S_stands (_ : Txt K mg) : Sp3 := fun ds G R => ∃ (k m : Nat), ds = [.int (k : Int), .int (m : Int)] ∧ k ≤ 1000 ∧ R (.bl (stn k m)) G
theorem c_stands {G : Gp} {k m : Nat} {q : DK} (h : k ≤ 1000) (hq : q (.bl (stn k m)) G) : ∃ R, S_stands T [.int (k : Int), .int (m : Int)] G R ∧ ∀ d G', R d G' → q d G' := call_det (v := .bl (stn k m)) (G1 := G) (fun R h' => ⟨k, m, rfl, h, h'⟩) hq
def S_may_do (_ : Txt K mg) : Sp3 := fun ds G R => ∃ (p : Mv) (m n s : Nat), ds = [mD p, .int (m : Int), .int (n : Int), .int (s : Int)] ∧ lgl n s m p ∧ n ≤ 1000 ∧ m < 2 ^ n ∧ R (.bl true) G
def S_checked (_ : Txt K mg) : Sp3 := fun ds G R => ∃ (a : Addr) (w : List Pm) (n s : Nat) (b : Bool), ds = [.ref a, .int (n : Int), .int (s : Int)] ∧ G a = some (.lst (w.map pmD)) ∧ PLN n s b w ∧ 1 ≤ n ∧ n ≤ 24 ∧ w.length ≤ 4000000 ∧ R (.str (if b then "left" else "shown")) G
theorem c_checked {G : Gp} {a : Addr} {w : List Pm} {n s : Nat} {b : Bool} {q : DK} (h : G a = some (.lst (w.map pmD))) (hP : PLN n s b w) (h1 : 1 ≤ n) (h2 : n ≤ 24) (hl : w.length ≤ 4000000) (k : q (.str (if b then "left" else "shown")) G) : ∃ R, S_checked T [.ref a, .int (n : Int), .int (s : Int)] G R ∧ ∀ d G', R d G' → q d G' :=
 call_det (v := .str (if b then "left" else "shown")) (G1 := G) (fun R h' => ⟨a, w, n, s, b, rfl, h, hP, h1, h2, hl, h'⟩) k
def S_reach (_ : Txt K mg) : Sp3 := fun ds G R => ∃ (s : Nat), ds = [.int (s : Int)] ∧ s ≤ 100 ∧ R (.int (cap s false : Int)) G
def S_alone_reach (_ : Txt K mg) : Sp3 := fun ds G R => ∃ (s : Nat), ds = [.int (s : Int)] ∧ s ≤ 100 ∧ R (.int (cap s true : Int)) G
def S_alone_by (_ : Txt K mg) : Sp3 := fun ds G R => ∃ (a : Addr) (p b m e : Nat) (kvs : List (List Key × D)) (w1 w2 w3 : Int) (m1 m2 m3 : Nat), ds = [.int (p : Int), .int (b : Int), .int (m : Int), .int (e : Int), .ref a] ∧ G a = some (.dit kvs) ∧ 1 ≤ p ∧ valD kvs (k3 p b m) = some (vD w1 m1) ∧ valD kvs (k3 (p - 1) m e) = some (vD w2 m2) ∧ valD kvs (k3 (p - 1) b m) = some (vD w3 m3) ∧ R (.int (w1 + w2 + w3)) G
def S_least_alone (_ : Txt K mg) : Sp3 := fun ds G R => ∃ (c a : Addr) (p b e : Nat) (pl : List Int) (kvs : List (List Key × D)) (Dm : Nat → Nat → Nat → Prop), ds = [.ref c, .int (p : Int), .int (b : Int), .int (e : Int), .ref a] ∧ G c = some (.lst (pl.map .int)) ∧ G a = some (.dit kvs) ∧ TAw (cf pl) Dm kvs ∧ 1 ≤ p ∧ p ≤ 100 ∧ b < e ∧ e ≤ pl.length ∧ pl.length ≤ 24 ∧ e - b ≤ cap p true ∧
 (∀ b' e', 2 ≤ p → b' < e' → e' ≤ pl.length → e' - b' ≤ cap (p - 1) true → Dm (p - 1) b' e') ∧ (∀ b' e', b' < e' → e' ≤ pl.length → e' - b' < e - b → e' - b' ≤ cap p true → Dm p b' e') ∧ ∀ (W : Int) (m : Nat) (G' : Gp), Grow G G' → VA (cf pl) p b e W m → R (vD W m) G'
def S_alone_table (_ : Txt K mg) : Sp3 := fun ds G R => ∃ (c : Addr) (s : Nat) (pl : List Int), ds = [.ref c, .int (s : Int)] ∧ G c = some (.lst (pl.map .int)) ∧ 1 ≤ pl.length ∧ pl.length ≤ 24 ∧ s ≤ 8 ∧ ∀ (q : Addr) (kvs : List (List Key × D)) (G' : Gp), G q = none → G' q = some (.dit kvs) → TAw (cf pl) (inA pl.length s) kvs → Grow G G' → R (.ref q) G'
def S_least_reached (_ : Txt K mg) : Sp3 := fun ds G R => ∃ (c a t : Addr) (p b s : Nat) (pl : List Int) (ka kt : List (List Key × D)) (Dm : Nat → Nat → Prop), ds = [.ref c, .int (p : Int), .int (b : Int), .ref a, .ref t] ∧ G c = some (.lst (pl.map .int)) ∧ G a = some (.dit ka) ∧ G t = some (.dit kt) ∧ TAw (cf pl) (inA pl.length s) ka ∧ TRw (cf pl) pl.length Dm kt ∧ 1 ≤ p ∧ p ≤ s ∧ s ≤ 8 ∧ b < pl.length ∧ pl.length ≤ 24 ∧ pl.length - b ≤ cap p false ∧
 (∀ m, 2 ≤ p → m < pl.length → pl.length - m ≤ cap (p - 1) false → Dm (p - 1) m) ∧ ∀ (W : Int) (m : Nat) (G' : Gp), Grow G G' → VR (cf pl) pl.length p b W m → R (vD W m) G'
def S_reached_table (_ : Txt K mg) : Sp3 := fun ds G R => ∃ (c a : Addr) (s : Nat) (pl : List Int) (ka : List (List Key × D)), ds = [.ref c, .int (s : Int), .ref a] ∧ G c = some (.lst (pl.map .int)) ∧ G a = some (.dit ka) ∧ TAw (cf pl) (inA pl.length s) ka ∧ 1 ≤ pl.length ∧ pl.length ≤ 24 ∧ s ≤ 8 ∧ ∀ (q : Addr) (kvs : List (List Key × D)) (G' : Gp), G q = none → G' q = some (.dit kvs) → TRw (cf pl) pl.length (inR pl.length s) kvs → Grow G G' → R (.ref q) G'
theorem c_reach {G : Gp} {s : Nat} {q : DK} (hs : s ≤ 100) (k : q (.int (cap s false : Int)) G) : ∃ R, S_reach T [.int (s : Int)] G R ∧ ∀ d G', R d G' → q d G' :=
 call_det (v := .int (cap s false : Int)) (G1 := G) (fun R h => ⟨s, rfl, hs, h⟩) k
theorem c_areach {G : Gp} {s : Nat} {q : DK} (hs : s ≤ 100) (k : q (.int (cap s true : Int)) G) : ∃ R, S_alone_reach T [.int (s : Int)] G R ∧ ∀ d G', R d G' → q d G' :=
 call_det (v := .int (cap s true : Int)) (G1 := G) (fun R h => ⟨s, rfl, hs, h⟩) k
theorem c_atable {G : Gp} {c : Addr} {s : Nat} {pl : List Int} {q : DK} (h : G c = some (.lst (pl.map .int))) (h1 : 1 ≤ pl.length) (h2 : pl.length ≤ 24) (h3 : s ≤ 8) (k : ∀ (q' : Addr) (kvs : List (List Key × D)) (G' : Gp), G q' = none → G' q' = some (.dit kvs) → TAw (cf pl) (inA pl.length s) kvs → Grow G G' → q (.ref q') G') : ∃ R, S_alone_table T [.ref c, .int (s : Int)] G R ∧ ∀ d G', R d G' → q d G' :=
 call_nd (post := fun d G' => ∃ (q' : Addr) (kvs : List (List Key × D)), d = .ref q' ∧ G q' = none ∧ G' q' = some (.dit kvs) ∧ TAw (cf pl) (inA pl.length s) kvs ∧ Grow G G') (fun R h' => ⟨c, s, pl, rfl, h, h1, h2, h3, fun q' kvs G' x y z w => h' _ _ ⟨q', kvs, rfl, x, y, z, w⟩⟩) fun d G' ⟨q', kvs, e, x, y, z, w⟩ => by subst e; exact k q' kvs G' x y z w
theorem c_rtable {G : Gp} {c a : Addr} {s : Nat} {pl : List Int} {ka : List (List Key × D)} {q : DK} (h : G c = some (.lst (pl.map .int))) (ha : G a = some (.dit ka)) (hT : TAw (cf pl) (inA pl.length s) ka) (h1 : 1 ≤ pl.length) (h2 : pl.length ≤ 24) (h3 : s ≤ 8) (k : ∀ (q' : Addr) (kvs : List (List Key × D)) (G' : Gp), G q' = none → G' q' = some (.dit kvs) → TRw (cf pl) pl.length (inR pl.length s) kvs → Grow G G' → q (.ref q') G') : ∃ R, S_reached_table T [.ref c, .int (s : Int), .ref a] G R ∧ ∀ d G', R d G' → q d G' :=
 call_nd (post := fun d G' => ∃ (q' : Addr) (kvs : List (List Key × D)), d = .ref q' ∧ G q' = none ∧ G' q' = some (.dit kvs) ∧ TRw (cf pl) pl.length (inR pl.length s) kvs ∧ Grow G G') (fun R h' => ⟨c, a, s, pl, ka, rfl, h, ha, hT, h1, h2, h3, fun q' kvs G' x y z w => h' _ _ ⟨q', kvs, rfl, x, y, z, w⟩⟩) fun d G' ⟨q', kvs, e, x, y, z, w⟩ => by subst e; exact k q' kvs G' x y z w
def S_turned_move (_ : Txt K mg) : Sp3 := fun ds G R => ∃ (p : Pm), ds = [pmD p] ∧ R (pmD (flp p)) G
def S_turned_plan (_ : Txt K mg) : Sp3 := fun ds G R => ∃ (a : Addr) (w : List Pm), ds = [.ref a] ∧ G a = some (.lst (w.map pmD)) ∧ w.length ≤ 4000000 ∧ ∀ q G', G q = none → G' q = some (.lst ((bkp w).map pmD)) → Grow G G' → R (.ref q) G'
def S_left_way_r (_ : Txt K mg) (dp : Nat) : Sp3 := fun ds G R => ∃ (a : Addr) (n s p b e : Nat) (c : Nat → Int) (kvs : List (List Key × D)), ds = [.int (p : Int), .int (b : Int), .int (e : Int), .ref a] ∧ G a = some (.dit kvs) ∧ TAw c (inA n s) kvs ∧ inA n s p b e ∧ e - b ≤ dp ∧ n ≤ 20 ∧ ∀ (q : Addr) (w : List Mv) (G' : Gp), G q = none → G' q = some (.lst (w.map mD)) → w.length < 2 ^ (e - b) → WOK b e p true w → LeastA c p b e (wk c w) → Grow G G' → R (.ref q) G'
def S_left_way (T : Txt K mg) : Sp3 := S_left_way_r T 26
def S_reached_way_r (_ : Txt K mg) (dp : Nat) : Sp3 := fun ds G R => ∃ (a t : Addr) (n s p b : Nat) (c : Nat → Int) (ka kt : List (List Key × D)), ds = [.int (p : Int), .int (b : Int), .int (n : Int), .ref a, .ref t] ∧ G a = some (.dit ka) ∧ G t = some (.dit kt) ∧ TAw c (inA n s) ka ∧ TRw c n (inR n s) kt ∧ inR n s p b ∧ n - b ≤ dp ∧ n ≤ 20 ∧ ∀ (q : Addr) (w : List Mv) (G' : Gp), G q = none → G' q = some (.lst (w.map mD)) → w.length < 2 ^ (n - b) → WOK b n p false w → LeastR c n p b (wk c w) → Grow G G' → R (.ref q) G'
def S_reached_way (T : Txt K mg) : Sp3 := S_reached_way_r T 26
def S_left_plan (_ : Txt K mg) : Sp3 := fun ds G R => ∃ (c : Addr) (s : Nat) (pl : List Int), ds = [.ref c, .int (s : Int)] ∧ G c = some (.lst (pl.map .int)) ∧ 1 ≤ pl.length ∧ pl.length ≤ 20 ∧ s ≤ 8 ∧ ∀ G', Grow G G' → (∀ (q : Addr) (P : List Pm), G q = none → G' q = some (.lst (P.map pmD)) → P.length ≤ 4000000 → PLN pl.length s true P → LeastA (cf pl) s 0 pl.length (wkp (cf pl) P) → R (.ref q) G') ∧ (¬ pl.length ≤ cap s true → R .non G')
def S_shown_plan (_ : Txt K mg) : Sp3 := fun ds G R => ∃ (c : Addr) (s : Nat) (pl : List Int), ds = [.ref c, .int (s : Int)] ∧ G c = some (.lst (pl.map .int)) ∧ 1 ≤ pl.length ∧ pl.length ≤ 20 ∧ s ≤ 8 ∧ ∀ G', Grow G G' → (∀ (q : Addr) (P : List Pm) (W : Int), G q = none → G' q = some (.lst (P.map pmD)) → P.length ≤ 4000000 → PLN pl.length s false P → LeastR (cf pl) pl.length s 0 W → wkp (cf pl) P = W + W → R (.ref q) G') ∧ (¬ pl.length ≤ cap s false → R .non G')
theorem c_tplan {G : Gp} {a : Addr} {w : List Pm} {q : DK} (h : G a = some (.lst (w.map pmD))) (hl : w.length ≤ 4000000) (k : ∀ q' G', G q' = none → G' q' = some (.lst ((bkp w).map pmD)) → Grow G G' → q (.ref q') G') : ∃ R, S_turned_plan T [.ref a] G R ∧ ∀ d G', R d G' → q d G' :=
 call_nd (post := fun d G' => ∃ q', d = .ref q' ∧ G q' = none ∧ G' q' = some (.lst ((bkp w).map pmD)) ∧ Grow G G') (fun R h' => ⟨a, w, rfl, h, hl, fun q' G' x y z => h' _ _ ⟨q', rfl, x, y, z⟩⟩) fun d G' ⟨q', e, x, y, z⟩ => by subst e; exact k q' G' x y z
theorem c_lway {G : Gp} {a : Addr} {n s p b e dp : Nat} {c : Nat → Int} {kvs : List (List Key × D)} {q : DK} (h : G a = some (.dit kvs)) (hT : TAw c (inA n s) kvs) (hi : inA n s p b e) (hd : e - b ≤ dp) (hn : n ≤ 20) (k : ∀ (q' : Addr) (w : List Mv) (G' : Gp), G q' = none → G' q' = some (.lst (w.map mD)) → w.length < 2 ^ (e - b) → WOK b e p true w → LeastA c p b e (wk c w) → Grow G G' → q (.ref q') G') : ∃ R, S_left_way_r T dp [.int (p : Int), .int (b : Int), .int (e : Int), .ref a] G R ∧ ∀ d G', R d G' → q d G' :=
 call_nd (post := fun d G' => ∃ (q' : Addr) (w : List Mv), d = .ref q' ∧ G q' = none ∧ G' q' = some (.lst (w.map mD)) ∧ w.length < 2 ^ (e - b) ∧ WOK b e p true w ∧ LeastA c p b e (wk c w) ∧ Grow G G') (fun R h' => ⟨a, n, s, p, b, e, c, kvs, rfl, h, hT, hi, hd, hn, fun q' w G' x y z u v t => h' _ _ ⟨q', w, rfl, x, y, z, u, v, t⟩⟩) fun d G' ⟨q', w, ed, x, y, z, u, v, t⟩ => by subst ed; exact k q' w G' x y z u v t
theorem c_rway {G : Gp} {a t : Addr} {n s p b dp : Nat} {c : Nat → Int} {ka kt : List (List Key × D)} {q : DK} (h : G a = some (.dit ka)) (ht : G t = some (.dit kt)) (hA : TAw c (inA n s) ka) (hT : TRw c n (inR n s) kt) (hi : inR n s p b) (hd : n - b ≤ dp) (hn : n ≤ 20) (k : ∀ (q' : Addr) (w : List Mv) (G' : Gp), G q' = none → G' q' = some (.lst (w.map mD)) → w.length < 2 ^ (n - b) → WOK b n p false w → LeastR c n p b (wk c w) → Grow G G' → q (.ref q') G') : ∃ R, S_reached_way_r T dp [.int (p : Int), .int (b : Int), .int (n : Int), .ref a, .ref t] G R ∧ ∀ d G', R d G' → q d G' :=
 call_nd (post := fun d G' => ∃ (q' : Addr) (w : List Mv), d = .ref q' ∧ G q' = none ∧ G' q' = some (.lst (w.map mD)) ∧ w.length < 2 ^ (n - b) ∧ WOK b n p false w ∧ LeastR c n p b (wk c w) ∧ Grow G G') (fun R h' => ⟨a, t, n, s, p, b, c, ka, kt, rfl, h, ht, hA, hT, hi, hd, hn, fun q' w G' x y z u v r => h' _ _ ⟨q', w, rfl, x, y, z, u, v, r⟩⟩) fun d G' ⟨q', w, ed, x, y, z, u, v, r⟩ => by subst ed; exact k q' w G' x y z u v r
theorem z_left_way {n : Nat} : Ok P w mg base n T.f_left_way (S_left_way_r T 0) := ok_false fun ds G R ⟨a, n, s, p, b, e, c, kvs, _, _, _, hi, h2, _⟩ => by have := hi.2.2.1; omega
theorem z_reached_way {n : Nat} : Ok P w mg base n T.f_reached_way (S_reached_way_r T 0) := ok_false fun ds G R ⟨a, t, n, s, p, b, c, ka, kt, _, _, _, _, _, hi, h2, _⟩ => by have := hi.2.2.1; omega
def S_work_at (_ : Txt K mg) : Sp3 := fun ds G R => ∃ (a : Addr) (ks : List Key) (kvs : List (List Key × D)), ds = [.ref a, .tup (ks.map kD)] ∧ G a = some (.dit kvs) ∧ (∀ d, valD kvs ks = some d → ∃ w m, d = vD w m ∧ R (.int w) G) ∧ (valD kvs ks = none → R .non G)
def S_alone (_ : Txt K mg) : Sp3 := fun ds G R => ∃ (c : Addr) (s : Nat) (pl : List Int), ds = [.ref c, .int (s : Int)] ∧ G c = some (.lst (pl.map .int)) ∧ 1 ≤ pl.length ∧ pl.length ≤ 24 ∧ s ≤ 8 ∧ ∀ G', Grow G G' → (pl.length ≤ cap s true → ∀ W, LeastA (cf pl) s 0 pl.length W → R (.int W) G') ∧ (¬ pl.length ≤ cap s true → R .non G')
def S_reached (_ : Txt K mg) : Sp3 := fun ds G R => ∃ (c : Addr) (s : Nat) (pl : List Int), ds = [.ref c, .int (s : Int)] ∧ G c = some (.lst (pl.map .int)) ∧ 1 ≤ pl.length ∧ pl.length ≤ 24 ∧ s ≤ 8 ∧ ∀ G', Grow G G' → (pl.length ≤ cap s false → ∀ W, LeastR (cf pl) pl.length s 0 W → R (.int W) G') ∧ (¬ pl.length ≤ cap s false → R .non G')
theorem c_alone {G : Gp} {c : Addr} {s : Nat} {pl : List Int} {q : DK} (h : G c = some (.lst (pl.map .int))) (h1 : 1 ≤ pl.length) (h2 : pl.length ≤ 24) (h3 : s ≤ 8) (k : ∀ (x : Option Int) (G' : Gp), AnsA pl s x → Grow G G' → q (oD x) G') : ∃ R, S_alone T [.ref c, .int (s : Int)] G R ∧ ∀ d G', R d G' → q d G' :=
 call_nd (post := fun d G' => ∃ x, d = oD x ∧ AnsA pl s x ∧ Grow G G') (fun R h' => ⟨c, s, pl, rfl, h, h1, h2, h3, fun G' g => ⟨fun _ W hW => h' _ _ ⟨some W, rfl, .inl ⟨W, rfl, hW⟩, g⟩, fun hn => h' _ _ ⟨none, rfl, .inr ⟨hn, rfl⟩, g⟩⟩⟩) fun d G' ⟨x, e, y, z⟩ => by subst e; exact k x G' y z
theorem c_reached {G : Gp} {c : Addr} {s : Nat} {pl : List Int} {q : DK} (h : G c = some (.lst (pl.map .int))) (h1 : 1 ≤ pl.length) (h2 : pl.length ≤ 24) (h3 : s ≤ 8) (k : ∀ (x : Option Int) (G' : Gp), AnsR pl s x → Grow G G' → q (oD x) G') : ∃ R, S_reached T [.ref c, .int (s : Int)] G R ∧ ∀ d G', R d G' → q d G' :=
 call_nd (post := fun d G' => ∃ x, d = oD x ∧ AnsR pl s x ∧ Grow G G') (fun R h' => ⟨c, s, pl, rfl, h, h1, h2, h3, fun G' g => ⟨fun _ W hW => h' _ _ ⟨some W, rfl, .inl ⟨W, rfl, hW⟩, g⟩, fun hn => h' _ _ ⟨none, rfl, .inr ⟨hn, rfl⟩, g⟩⟩⟩) fun d G' ⟨x, e, y, z⟩ => by subst e; exact k x G' y z
theorem c_lplan {G : Gp} {c : Addr} {s : Nat} {pl : List Int} {q : DK} (h : G c = some (.lst (pl.map .int))) (h1 : 1 ≤ pl.length) (h2 : pl.length ≤ 20) (h3 : s ≤ 8) (k : ∀ (d : D) (G' : Gp), Grow G G' → ((d = .non ∧ ¬ pl.length ≤ cap s true) ∨ ∃ (q' : Addr) (P : List Pm), d = .ref q' ∧ G q' = none ∧ G' q' = some (.lst (P.map pmD)) ∧ P.length ≤ 4000000 ∧ PLN pl.length s true P ∧ LeastA (cf pl) s 0 pl.length (wkp (cf pl) P)) → q d G') : ∃ R, S_left_plan T [.ref c, .int (s : Int)] G R ∧ ∀ d G', R d G' → q d G' :=
 call_nd (post := fun d G' => Grow G G' ∧ ((d = .non ∧ ¬ pl.length ≤ cap s true) ∨ ∃ (q' : Addr) (P : List Pm), d = .ref q' ∧ G q' = none ∧ G' q' = some (.lst (P.map pmD)) ∧ P.length ≤ 4000000 ∧ PLN pl.length s true P ∧ LeastA (cf pl) s 0 pl.length (wkp (cf pl) P))) (fun R h' => ⟨c, s, pl, rfl, h, h1, h2, h3, fun G' g => ⟨fun q P x1 x2 x3 x4 x5 => h' _ _ ⟨g, .inr ⟨q, P, rfl, x1, x2, x3, x4, x5⟩⟩, fun hn => h' _ _ ⟨g, .inl ⟨rfl, hn⟩⟩⟩⟩) fun d G' ⟨g, x⟩ => k d G' g x
theorem c_splan2 {G : Gp} {c : Addr} {s : Nat} {pl : List Int} {q : DK} (h : G c = some (.lst (pl.map .int))) (h1 : 1 ≤ pl.length) (h2 : pl.length ≤ 20) (h3 : s ≤ 8) (k : ∀ (d : D) (G' : Gp), Grow G G' → ((d = .non ∧ ¬ pl.length ≤ cap s false) ∨ ∃ (q' : Addr) (P : List Pm) (W : Int), d = .ref q' ∧ G q' = none ∧ G' q' = some (.lst (P.map pmD)) ∧ P.length ≤ 4000000 ∧ PLN pl.length s false P ∧ LeastR (cf pl) pl.length s 0 W ∧ wkp (cf pl) P = W + W) → q d G') : ∃ R, S_shown_plan T [.ref c, .int (s : Int)] G R ∧ ∀ d G', R d G' → q d G' :=
 call_nd (post := fun d G' => Grow G G' ∧ ((d = .non ∧ ¬ pl.length ≤ cap s false) ∨ ∃ (q' : Addr) (P : List Pm) (W : Int), d = .ref q' ∧ G q' = none ∧ G' q' = some (.lst (P.map pmD)) ∧ P.length ≤ 4000000 ∧ PLN pl.length s false P ∧ LeastR (cf pl) pl.length s 0 W ∧ wkp (cf pl) P = W + W)) (fun R h' => ⟨c, s, pl, rfl, h, h1, h2, h3, fun G' g => ⟨fun q P W x1 x2 x3 x4 x5 x6 => h' _ _ ⟨g, .inr ⟨q, P, W, rfl, x1, x2, x3, x4, x5, x6⟩⟩, fun hn => h' _ _ ⟨g, .inl ⟨rfl, hn⟩⟩⟩⟩) (by rintro d G' ⟨g, x⟩; exact k d G' g x)
def S_law_costs (_ : Txt K mg) : Sp3 := fun ds G R => ∃ (s a : Addr) (n : Nat), ds = [.ref s, .int (n : Int)] ∧ Src G s a ∧ n ≤ 8 ∧ ∀ (q : Addr) (pl : List Int) (G' : Gp), Ady s a G G' → q ≠ s → q ≠ a → G' q = some (.lst (pl.map .int)) → pl.length = n → (∀ x ∈ pl, 1 ≤ x ∧ x ≤ 1000000000) → R (.ref q) G'
def S_law_grown (_ : Txt K mg) : Sp3 := fun ds G R => ∃ (n s : Nat), ds = [.int (n : Int), .int (s : Int)] ∧ 1 ≤ n ∧ n ≤ 8 ∧ ∀ (q : Addr) (F : List Nat) (G' : Gp), G q = none → G' q = some (.dic (fdD F)) → (∀ x, x ∈ F ↔ RS n s x) → F.length ≤ 256 → Grow G G' → R (.ref q) G'
def S_law_sizes (_ : Txt K mg) : Sp3 := fun ds G R => ∃ (s a : Addr), ds = [.ref s] ∧ Src G s a ∧ ∀ (n sp : Nat) (G' : Gp), Ady s a G G' → 1 ≤ n → n ≤ 8 → sp ≤ 8 → R (.tup [.int (n : Int), .int (sp : Int)]) G'
def S_law_walked (_ : Txt K mg) : Sp3 := fun ds G R => ∃ (a c : Addr) (P : List Pm) (pl : List Int) (s : Nat) (left : Bool), ds = [.ref a, .ref c, .int (s : Int)] ∧ G a = some (.lst (P.map pmD)) ∧ G c = some (.lst (pl.map .int)) ∧ PLN pl.length s left P ∧ 1 ≤ pl.length ∧ pl.length ≤ 8 ∧ P.length ≤ 4000000 ∧ ∀ (q : Addr) (G' : Gp), G q = none → G' q = some (.lst (if left then [] else [.int 1])) → Grow G G' → R (.tup [.int (if left then ((2 ^ (pl.length - 1) : Nat) : Int) else 0), .int (wkp (cf pl) P), .ref q]) G'
def S_law_told (_ : Txt K mg) : Sp3 := fun ds G R => ∃ (c : Addr) (pl : List Int) (s : Nat) (left : Bool) (d due : D), ds = [d, .str (if left then "left" else "shown"), .ref c, .int (s : Int), due] ∧ G c = some (.lst (pl.map .int)) ∧ 1 ≤ pl.length ∧ pl.length ≤ 8 ∧ ((due = .non ∧ d = .non) ∨ ∃ (q e : Addr) (P : List Pm), d = .ref q ∧ G q = some (.lst (P.map pmD)) ∧ PLN pl.length s left P ∧ P.length ≤ 4000000 ∧ due = .tup [.int (if left then ((2 ^ (pl.length - 1) : Nat) : Int) else 0), .int (wkp (cf pl) P), .ref e] ∧ G e = some (.lst (if left then [] else [.int 1]))) ∧ ∀ G', Grow G G' → R (.bl true) G'
def S_law (_ : Txt K mg) : Sp3 := fun ds G R => ∃ (a : Addr) (ns : List Int), ds = [.ref a] ∧ G a = some (.fro (ns.map .int)) ∧ ns.length ≤ 63 ∧ ∀ G', R (.bl true) G'
theorem cmp_o3 {G : Gp} {a b : Addr} {ks : List Int} {i j : Int} {Q : Bool → Prop} (h1 : seqOf (G a) = some (ks.map .int)) (h2 : seqOf (G b) = some (ks.map .int)) (h : Q true) :
  ∃ n sd se r, n ≤ 40 ∧ snap G n (.tup [.int i, .int j, .ref a]) = some sd ∧ snap G n (.tup [.int i, .int j, .ref b]) = some se ∧ eqN n sd se = some r ∧ Q r := by
 obtain ⟨s, e1, e2⟩ := snap_out (pre := [.int i, .int j]) (post := []) h1 h2 (all2 snap_int (all1 snap_int)) (fun d hd => by cases hd)
 exact ⟨2, s, s, true, by decide, e1, e2, eq_self 2 e1, h⟩
end
end Law
set_option compiler.extract_closed false
open PySem L2 L3 Rw in
set_option hygiene false in
local macro_rules | `(tactic| simp! [$xs,*]) => `(tactic| try simp only [dComp, Int.toNat_natCast, dCall, dMeth, dMake, List.append_nil, dSeq, dNext, dAsg, dDrop, dRet, dRetN, dIfS, dB, dAnd, dOr, dNot, dAndV, dOrV, dNotV, dIf, dVar, dC, dOp, dUn, dNil, dCons, dTup, dLst, dCB, dSl, dPart, dNoPart, dBM, dBM0, dAug, dFld, dSetF, dAugF, dYes, jName, jSub, jSeq, jCons, jNil, wRng1, wRng2, wAny, dFor, xSub, xDiv, xMod, xPow, xShl, xShr, xAnd, xOr, xXor, kindD, tyD, startD, innerD, List.map_cons, List.map_nil, List.cons_append, List.nil_append, List.length_cons, List.length_nil, List.replicate, List.getElem?_cons_zero, List.getElem?_cons_succ, List.set_cons_zero, List.set_cons_succ, Nat.reduceAdd, Nat.reduceSub, Nat.sub_self, seqOf_lst, seqOf_fro, gup_same, Option.bind_some, Option.bind_none, id, Bool.false_eq_true, if_true, if_false, reduceIte, true_and, and_true, decide_true, decide_false, Bool.not_true, Bool.not_false, atI_0, atI_1, atI_2, atI_3, atI_4, ixN_30, ixN_31, ixN_32, ixN_20, ixN_21, xr_all, xs_all, dBack, $xs,*])
open L3 in
set_option hygiene false in
local macro_rules | `(tactic| dsimp! [$xs,*]) => `(tactic| (simp only [Go]; simp! [$xs,*]))
namespace Law
open PySem L2 L3 Rw
set_option maxHeartbeats 4000000
section
variable {P : Program} {w : World} {K : PySem.W.Frag} {mg : Str → Option Value} {base : Heap} (T : Txt K mg)
theorem ok_set_of {n : Nat} : Ok P w mg base (n + 1) T.f_set_of (S_set_of T) := by
 refine def_ok T.f_set_of sc_set_of (fun ds G R h => ?_) (fun cdv A outer s H E hr =>
   (ss_one (s_ret (e_if (t_cmp (x_gt) (ev 0) e_int (nomark _)) (e_bin x_shl e_int (e_bin x_sub (ev 0) e_int)) e_int)))) (fun ds G R h => ?_)
 ·obtain ⟨k, rfl, _⟩ := h; rfl
 ·obtain ⟨k, rfl, hk, h0, h1⟩ := h
  cases k with
  | zero =>
   simp! [id]
   exact h0 rfl
  | succ i =>
   have e1 : (((i + 1 : Nat) : Int) - 1) = (i : Int) := by omega
   have c : CPow 1 (i : Int) := cpow_1 (by omega) (by omega)
   have p : ((0 : Int) < ((i + 1 : Nat) : Int)) = True := eq_true (by omega)
   simp! [e1, c, p]
   exact h1 i rfl
theorem ok_stands {n : Nat} (G_set_of : Ok P w mg base n T.f_set_of (S_set_of T)) : Ok P w mg base (n + 1) T.f_stands (S_stands T) := by
 refine def_ok T.f_stands sc_stands (fun ds G R h => ?_) (fun cdv A outer s H E hr =>
   (ss_one (s_ret (e_or (e_cmp (x_eq hr) (ev 0) e_int (nomark _)) (e_one (e_cmp (x_ne hr) (e_bin x_and (ev 1) (ec T.f_set_of T.g_set_of G_set_of hr (a_cons (ev 0) a_nil))) e_int (nomark _))))))) (fun ds G R h => ?_)
 ·obtain ⟨k, m, rfl, _⟩ := h; rfl
 ·obtain ⟨k, m, rfl, hk, post⟩ := h
  cases k with
  | zero =>
   simp! [id]
   exact post
  | succ i =>
   have p : (((i + 1 : Nat) : Int) = 0) = False := eq_false (by omega)
   simp! [p]
   refine call_det (v := .int (1 * 2 ^ i)) (G1 := G) (fun R h => ⟨i + 1, rfl, hk, (fun e => by cases e), fun j e => by cases e; exact h⟩) ?_
   simp! [id]
   have e : (!decide (Builtin.bitAnd (m : Int) (1 * 2 ^ i) = 0)) = stn (i + 1) m := by
    unfold stn
    rw [Bool.eq_iff_iff]
    simp only [and_pow, Bool.not_eq_true', decide_eq_false_iff_not, Nat.add_sub_cancel, Bool.or_eq_true, beq_iff_eq, Nat.add_one_ne_zero, false_or, Bool.not_eq_false]
   rw [e]
   exact post
theorem ok_many_in {n : Nat} : Ok P w mg base (n + 1) T.f_many_in (S_many_in T) := by
 refine def_ok T.f_many_in sc_many_in (fun ds G R h => ?_) (fun cdv A outer s H E hr =>
   (ss_cons (s_set 1 sc_many_in.nd e_int)
   (ss_cons (s_while (t_cmp (x_gt) (ev 0) e_int (nomark _)) (ss_cons (s_aug 1 sc_many_in.nd (e_bin x_and (ev 0) e_int) x_iadd)
   (ss_one (s_set 0 sc_many_in.nd (e_bin x_shr (ev 0) e_int)))))
   (ss_one (s_ret (ev 1)))))) (fun ds G R h => ?_)
 ·obtain ⟨b, m, rfl, _⟩ := h; rfl
 ·obtain ⟨b, m, rfl, hb, post⟩ := h
  simp! [id]
  dsimp! [id]
  refine while_ind (fun c σ G' => ∃ (x y : Nat), G' = G ∧ σ = [some (.int (x : Int)), some (.int (y : Int))] ∧ x < 2 ^ c ∧ y + pc c x = pc b m) ⟨m, 0, rfl, rfl, hb, by omega⟩ ?_
  rintro c σ G' N ⟨x, y, rfl, rfl, hx, hy⟩ ih
  by_cases h0 : x = 0
  ·subst h0
   simp! [id]
   rw [pc_zero] at hy
   have : y = pc b m := by omega
   subst this
   (simp! [id]; repeat (simp only [Go]; simp! [id]))
   exact post
  ·have p : ((0 : Int) < (x : Int)) = True := eq_true (by omega)
   simp! [p]
   cases c with
   | zero => exact absurd hx (by omega)
   | succ c =>
    have e : Builtin.bitAnd (x : Int) 1 = ((x % 2 : Nat) : Int) := by
     rw [show (1 : Int) = ((1 : Nat) : Int) from rfl, and_nat, Nat.and_one_is_mod]
    have e2 : (x : Int) / 2 ^ (Int.toNat 1) = ((x / 2 : Nat) : Int) := by simp
    have e3 : (y : Int) + ((x % 2 : Nat) : Int) = ((y + x % 2 : Nat) : Int) := by omega
    (simp! [e, e2, e3]; repeat (simp only [Go]; simp! [e, e2, e3]))
    refine ⟨by decide, ?_⟩
    refine ih _ _ c rfl ⟨x / 2, y + x % 2, rfl, rfl, ?_, ?_⟩
    ·rw [Nat.pow_succ] at hx; omega
    ·rw [pc_succ] at hy; omega
theorem ok_may_do {n : Nat} (G_stands : Ok P w mg base n T.f_stands (S_stands T)) (G_many_in : Ok P w mg base n T.f_many_in (S_many_in T)) : Ok P w mg base (n + 1) T.f_may_do (S_may_do T) := by
 refine def_ok T.f_may_do sc_may_do (fun ds G R h => ?_) (fun cdv A outer s H E hr =>
   (ss_cons (s_set 4 sc_may_do.nd (e_ix x_ix (ev 0) e_int))
   (ss_cons (s_if (t_w (w_or (t_cmp (x_lt) (ev 4) e_int (nomark _)) (w_or (t_cmp (x_gt) (ev 4) (ev 2) (nomark _)) (w_or1 (t_not (t_val (ec T.f_stands T.g_stands G_stands hr (a_cons (e_bin x_sub (ev 4) e_int) (a_cons (ev 1) a_nil))))))))) (ss_one (s_ret e_bl)) ss_nil)
   (ss_cons (s_if (t_cmp (x_eq hr) (e_ix x_ix (ev 0) e_int) e_str (nomark _)) (ss_one (s_ret (e_and (e_not (ec T.f_stands T.g_stands G_stands hr (a_cons (ev 4) (a_cons (ev 1) a_nil)))) (e_one (e_cmp (x_lt) (ec T.f_many_in T.g_many_in G_many_in hr (a_cons (ev 1) a_nil)) (ev 3) (nomark _)))))) ss_nil)
   (ss_one (s_ret (ec T.f_stands T.g_stands G_stands hr (a_cons (ev 4) (a_cons (ev 1) a_nil))))))))) (fun ds G R h => ?_)
 ·obtain ⟨p, m, n, s, rfl, _⟩ := h; rfl
 ·obtain ⟨p, m, n', s, rfl, hl, h3, hm, post⟩ := h
  obtain ⟨⟨h1, h2⟩, hpre, hb, hc⟩ := hl
  have p1 : ((p.2 : Int) < 1) = False := eq_false (by omega)
  have p2 : ((n' : Int) < (p.2 : Int)) = False := eq_false (by omega)
  have e1 : (p.2 : Int) - 1 = ((p.2 - 1 : Nat) : Int) := by omega
  have st1 : stn (p.2 - 1) m = true := by
   unfold stn
   rcases hpre with z | z
   ·have : p.2 - 1 = 0 := by omega
    rw [this]; rfl
   ·have : p.2 - 1 - 1 = p.2 - 2 := by omega
    rw [this, z]; simp
  have sk : stn p.2 m = stb p.2 m := by
   unfold stn stb
   have : (p.2 == 0) = false := by rw [beq_eq_false_iff_ne]; omega
   rw [this]; simp
  simp! [mD, pD, mP]
  dsimp! [p1, p2, e1]
  refine c_stands T (by omega) ?_
  rw [st1]
  cases hp : p.1 with
  | true =>
   rw [hp] at hb
   have hk : stb p.2 m = false := by simpa using hb.symm
   (simp! [hp]; repeat (simp only [Go]; simp! [hp]))
   refine c_stands T (by omega) ?_
   rw [sk, hk]
   simp! [id]
   refine call_det (v := .int (pc n' m : Int)) (G1 := G) (fun R h => ⟨n', m, rfl, hm, h⟩) ?_
   have hcc := hc hp
   have : ((pc n' m : Int) < (s : Int)) = True := eq_true (by rw [pc_cnt]; omega)
   simp! [this]
   exact post
  | false =>
   rw [hp] at hb
   have hk : stb p.2 m = true := by simpa using hb.symm
   have l1 : (("clear" : Str) = "lay") = False := eq_false (by decide)
   (simp! [hp, l1]; repeat (simp only [Go]; simp! [hp, l1]))
   refine c_stands T (by omega) ?_
   rw [sk, hk]
   exact post
theorem ok_behind {n : Nat} (G_set_of : Ok P w mg base n T.f_set_of (S_set_of T)) : Ok P w mg base (n + 1) T.f_behind (S_behind T) := by
 refine def_ok T.f_behind sc_behind (fun ds G R h => ?_) (fun cdv A outer s H E hr =>
   (ss_cons (s_if (t_cmp (x_eq hr) (e_ix x_ix (ev 0) e_int) e_str (nomark _)) (ss_one (s_ret (e_bin x_or (ev 1) (ec T.f_set_of T.g_set_of G_set_of hr (a_cons (e_ix x_ix (ev 0) e_int) a_nil))))) ss_nil)
   (ss_cons (s_if (t_cmp (x_eq hr) (e_ix x_ix (ev 0) e_int) e_str (nomark _)) (ss_one (s_ret (e_bin x_and (ev 1) (e_un x_inv (ec T.f_set_of T.g_set_of G_set_of hr (a_cons (e_ix x_ix (ev 0) e_int) a_nil)))))) ss_nil)
   (ss_one (s_ret (ev 1)))))) (fun ds G R h => ?_)
 ·obtain ⟨p, m, rfl, _⟩ := h; rfl
 ·obtain ⟨p, m, rfl, hok, post⟩ := h
  cases p with
  | none =>
   have l1 : (("show" : Str) = "lay") = False := eq_false (by decide)
   have l2 : (("show" : Str) = "clear") = False := eq_false (by decide)
   (simp! [pmD, l1, l2]; repeat (simp only [Go]; simp! [pmD, l1, l2]))
   exact post
  | some p =>
   obtain ⟨w0, k⟩ := p
   obtain ⟨⟨h1, h2⟩, hv⟩ := hok
   obtain ⟨i, rfl⟩ : ∃ i, k = i + 1 := ⟨k - 1, by have : 1 ≤ k := h1; omega⟩
   have h2 : i + 1 ≤ 24 := h2
   have hb : (!m.testBit i) = w0 := hv.symm
   have post : R (.int ((m ^^^ 2 ^ i : Nat) : Int)) G := post
   have l1 : (("clear" : Str) = "lay") = False := eq_false (by decide)
   cases w0 with
   | true =>
    have hb' : m.testBit i = false := by simpa using hb
    simp! [pmD, mD, pD, mP]
    refine call_det (v := .int (1 * 2 ^ i)) (G1 := G) (fun R h => ⟨i + 1, rfl, by omega, (fun e => by cases e), fun j e => by cases e; exact h⟩) ?_
    simp! [lay_int hb']
    exact post
   | false =>
    have hb' : m.testBit i = true := by simpa using hb
    simp! [pmD, mD, pD, mP, l1]
    dsimp! [id]
    refine call_det (v := .int (1 * 2 ^ i)) (G1 := G) (fun R h => ⟨i + 1, rfl, by omega, (fun e => by cases e), fun j e => by cases e; exact h⟩) ?_
    simp! [xInv, clr_int hb']
    exact post
theorem ok_checked {n : Nat} (G_may_do : Ok P w mg base n T.f_may_do (S_may_do T)) (G_set_of : Ok P w mg base n T.f_set_of (S_set_of T)) (G_stands : Ok P w mg base n T.f_stands (S_stands T)) (G_behind : Ok P w mg base n T.f_behind (S_behind T)) : Ok P w mg base (n + 1) T.f_checked (S_checked T) := by
 refine def_ok T.f_checked sc_checked (fun ds G R h => ?_) (fun cdv A outer s H E hr =>
   (ss_cons (s_set 3 sc_checked.nd e_int)
   (ss_cons (s_set 4 sc_checked.nd e_bl)
   (ss_cons (s_for (i_enumerate rfl T.b_enumerate (a_cons (ev 0) a_nil)) (j_seq (n := 2) rfl (js_cons (j_name 5 sc_checked.nd) (js_cons (j_name 6 sc_checked.nd) js_nil))) (ss_cons (s_if (t_cmp (x_eq hr) (e_ix x_ix (ev 6) e_int) e_str (nomark _)) (ss_cons (s_set 7 sc_checked.nd (e_and (ec T.f_stands T.g_stands G_stands hr (a_cons (ev 1) (a_cons (ev 3) a_nil))) (e_one (e_not (ev 4)))))
   (ss_one (s_set 4 sc_checked.nd e_bl))) (ss_one (s_set 7 sc_checked.nd (ec T.f_may_do T.g_may_do G_may_do hr (a_cons (ev 6) (a_cons (ev 3) (a_cons (ev 1) (a_cons (ev 2) a_nil))))))))
   (ss_cons (s_if (t_not (t_val (ev 7))) (ss_one s_never) ss_nil)
   (ss_one (s_set 3 sc_checked.nd (ec T.f_behind T.g_behind G_behind hr (a_cons (ev 6) (a_cons (ev 3) a_nil))))))))
   (ss_cons (s_if (t_w (w_and (t_val (ev 4)) (w_and1 (t_cmp (x_eq hr) (ev 3) e_int (nomark _))))) (ss_one (s_ret e_str)) ss_nil)
   (ss_cons (s_if (t_w (w_and (t_not (t_val (ev 4))) (w_and1 (t_cmp (x_eq hr) (ev 3) (ec T.f_set_of T.g_set_of G_set_of hr (a_cons (ev 1) a_nil)) (nomark _))))) (ss_one (s_ret e_str)) ss_nil)
   (ss_one s_never))))))) (fun ds G R h => ?_)
 ·obtain ⟨a, w, n, s, b, rfl, _⟩ := h; rfl
 ·obtain ⟨a, w, n', s, b, rfl, ha, hP, hn1, hn2, hl, post⟩ := h
  obtain ⟨hck, hsh, hfi⟩ := hP.ckp
  simp! [id]
  dsimp! [id]
  dsimp! [wEnum, ha]
  refine forL_ind (fun r σ G' => ∃ (l t : List Pm) (v5 v6 v7 : Option D), l ++ t = w ∧ r = enD l.length (t.map pmD) ∧ G' = G ∧ σ = [some (.ref a), some (.int (n' : Int)), some (.int (s : Int)), some (.int (finp 0 l : Int)), some (.bl (shw false l)), v5, v6, v7]) ⟨[], w, none, none, none, rfl, rfl, rfl, rfl⟩ ?_ ?_
  ·rintro σ G' ⟨l, t, v5, v6, v7, e, e2, rfl, rfl⟩
   have ht : t = [] := by
    cases t with
    | nil => rfl
    | cons x t => cases e2
   subst ht
   rw [List.append_nil] at e
   subst e
   refine ⟨by rw [ha]; rfl, ?_⟩
   rw [hsh, hfi]
   cases b with
   | false =>
    (simp! [id]; repeat (simp only [Go]; simp! [id]))
    exact post
   | true =>
    (simp! [id]; repeat (simp only [Go]; simp! [id]))
    refine call_det (v := .int (1 * 2 ^ (n' - 1))) (G1 := G') (fun R h => ⟨n', rfl, by omega, (fun e => by omega), fun j e => by subst e; exact h⟩) ?_
    have e3 : (((2 ^ (n' - 1) : Nat) : Int) = 1 * 2 ^ (n' - 1)) = True := eq_true (by simp)
    simp! [e3]
    exact post
  ·rintro z r σ G' ⟨l, t, v5, v6, v7, e, e2, rfl, rfl⟩ ih
   cases t with
   | nil => cases e2
   | cons p0 t =>
    cases e2
    refine ⟨by rw [ha]; rfl, ?_⟩
    have hck2 : ckp n' s 0 false (l ++ p0 :: t) := by rw [e]; exact hck
    obtain ⟨hcl, o1⟩ := ckp_app.mp hck2
    have hlt := ckp_lt (Nat.two_pow_pos n') hcl
    cases p0 with
    | none =>
     obtain ⟨⟨q1, q2⟩, _⟩ := o1
     have sn : stn n' (finp 0 l) = true := by unfold stn; rw [q1]; simp
     simp! [pmD]
     refine c_stands T (by omega) ?_
     rw [sn, q2]
     simp! [id]
     dsimp! [id]
     dsimp! [id]
     refine call_det (v := .int (finp 0 l : Int)) (G1 := G') (fun R h => ⟨none, finp 0 l, rfl, trivial, h⟩) ?_
     simp! [id]
     exact ih _ _ ⟨l ++ [none], t, _, _, _, by rw [← e, List.append_assoc]; rfl, by rw [List.length_append]; rfl, rfl, by rw [finp_app, shw_app]; rfl⟩
    | some p =>
     obtain ⟨o1, _⟩ := o1
     have hns : ((if p.1 = true then ("lay" : Str) else "clear") = "show") = False := eq_false (by cases p.1 <;> decide)
     simp! [pmD, mD, pD, mP, hns]
     refine call_det (v := .bl true) (G1 := G') (fun R h => ⟨p, finp 0 l, n', s, rfl, o1, by omega, hlt, h⟩) ?_
     simp! [id]
     dsimp! [id]
     refine call_det (v := .int (xr (finp 0 l) p.2 : Int)) (G1 := G') (fun R h => ⟨some p, finp 0 l, rfl, ⟨⟨o1.1.1, by have := o1.1.2; omega⟩, o1.2.2.1⟩, h⟩) ?_
     simp! [id]
     exact ih _ _ ⟨l ++ [some p], t, _, _, _, by rw [← e, List.append_assoc]; rfl, by rw [List.length_append]; rfl, rfl, by rw [finp_app, shw_app]; rfl⟩
theorem ok_turned_move {n : Nat} : Ok P w mg base (n + 1) T.f_turned_move (S_turned_move T) := by
 refine def_ok T.f_turned_move sc_turned_move (fun ds G R h => ?_) (fun cdv A outer s H E hr =>
   (ss_cons (s_if (t_cmp (x_eq hr) (e_ix x_ix (ev 0) e_int) e_str (nomark _)) (ss_one (s_ret (e_tup (a_cons e_str (a_cons (e_ix x_ix (ev 0) e_int) a_nil))))) ss_nil)
   (ss_cons (s_if (t_cmp (x_eq hr) (e_ix x_ix (ev 0) e_int) e_str (nomark _)) (ss_one (s_ret (e_tup (a_cons e_str (a_cons (e_ix x_ix (ev 0) e_int) a_nil))))) ss_nil)
   (ss_one (s_ret (ev 0)))))) (fun ds G R h => ?_)
 ·obtain ⟨p, rfl, _⟩ := h; rfl
 ·obtain ⟨p, rfl, post⟩ := h
  cases p with
  | none =>
   have l1 : (("show" : Str) = "lay") = False := eq_false (by decide)
   have l2 : (("show" : Str) = "clear") = False := eq_false (by decide)
   (simp! [pmD, l1, l2]; repeat (simp only [Go]; simp! [pmD, l1, l2]))
   exact post
  | some p =>
   obtain ⟨b, k⟩ := p
   have l1 : (("clear" : Str) = "lay") = False := eq_false (by decide)
   cases b with
   | true =>
    (simp! [pmD, mD, pD, mP]; repeat (simp only [Go]; simp! [pmD, mD, pD, mP]))
    exact ⟨by decide, post⟩
   | false =>
    (simp! [pmD, mD, pD, mP, l1]; repeat (simp only [Go]; simp! [pmD, mD, pD, mP, l1]))
    exact ⟨by decide, post⟩
theorem ok_turned_plan {n : Nat} (G_turned_move : Ok P w mg base n T.f_turned_move (S_turned_move T)) : Ok P w mg base (n + 1) T.f_turned_plan (S_turned_plan T) := by
 refine def_ok T.f_turned_plan sc_turned_plan (fun ds G R h => ?_) (fun cdv A outer s H E hr =>
   (ss_one (s_ret (e_comp (N' := ["move"]) (ix := [none]) (blk (osc := defScope s_turned_plan) (N := ["plan"]) rfl rfl (by decide +kernel)) (i_reversed rfl T.b_reversed (a_cons (ev 0) a_nil)) (fun _ _ _ _ => (j_name 0 (show (["move"] : List Str).Nodup by decide +kernel))) (fun _ _ _ _ => ifs_nil) (fun _ _ _ _ => (ec T.f_turned_move T.g_turned_move G_turned_move hr (a_cons (ev 0) a_nil))))))) (fun ds G R h => ?_)
 ·obtain ⟨a, w, rfl, _⟩ := h; rfl
 ·obtain ⟨a, w, rfl, ha, hl, post⟩ := h
  simp! [wRev, ha]
  intro p hp
  have ha1 : ∀ {o : DO}, gup G p o a = some (.lst (w.map pmD)) := fun {o} => by rw [gup_ne (gne ha hp)]; exact ha
  refine compL_ind (fun r σ G' => ∃ (l t : List Pm) (v : Option D), t ++ l = w ∧ r = (t.map pmD).reverse ∧ G' = gup G p (.lst ((bkp l).map pmD)) ∧ σ = [v]) ⟨[], w, none, by simp, rfl, rfl, rfl⟩ ?_ ?_
  ·rintro σ G' ⟨l, t, v, e, e2, rfl, rfl⟩
   have ht : t = [] := by simpa using e2.symm
   subst ht
   rw [List.nil_append] at e
   subst e
   refine ⟨by rw [ha1]; rfl, ?_⟩
   exact post p _ hp gup_same (Grow.refl.new hp)
  ·rintro z r σ G' ⟨l, t, v, e, e2, rfl, rfl⟩ ih
   rcases List.eq_nil_or_concat t with ht | ⟨t, p0, ht⟩
   ·subst ht; cases e2
   ·rw [List.concat_eq_append] at ht
    subst ht
    rw [List.map_append, List.reverse_append] at e2
    cases e2
    refine ⟨by rw [ha1]; rfl, ?_⟩
    have hlen := congrArg List.length e
    rw [List.length_append, List.length_append] at hlen
    have hbl := bkp_len (w := l)
    simp! [id]
    refine call_det (v := pmD (flp p0)) (G1 := gup G p (.lst ((bkp l).map pmD))) (fun R h => ⟨p0, rfl, h⟩) ?_
    simp! [id]
    refine ⟨by rw [List.length_map, hbl]; exact Nat.lt_of_le_of_lt (m := 4000000) (by omega) (by decide), ih _ _ ⟨p0 :: l, t, _, by rw [← e, List.append_assoc]; rfl, rfl, ?_, rfl⟩⟩
    rw [gup_gup, bkp_cons, List.map_append]; rfl
theorem ok_reach {n : Nat} : Ok P w mg base (n + 1) T.f_reach (S_reach T) := by
 refine def_ok T.f_reach sc_reach (fun ds G R h => ?_) (fun cdv A outer s H E hr =>
   (ss_one (s_ret (e_bin x_sub (e_bin x_shl e_int (ev 0)) e_int)))) (fun ds G R h => ?_)
 ·obtain ⟨s, rfl, _⟩ := h; rfl
 ·obtain ⟨s, rfl, hs, post⟩ := h
  have cp : CPow 1 (s : Int) := cpow_1 (by omega) (by omega)
  have e2 : (1 * 2 ^ s - 1 : Int) = (cap s false : Int) := by
   cases s with
   | zero => rfl
   | succ s =>
    have := Nat.two_pow_pos (s + 1)
    show _ = ((2 ^ (s + 1) - 1 : Nat) : Int)
    rw [Int.natCast_sub (by omega)]; simp
  simp! [cp, e2]
  exact post
theorem ok_alone_reach {n : Nat} : Ok P w mg base (n + 1) T.f_alone_reach (S_alone_reach T) := by
 refine def_ok T.f_alone_reach sc_alone_reach (fun ds G R h => ?_) (fun cdv A outer s H E hr =>
   (ss_one (s_ret (e_if (t_cmp (x_gt) (ev 0) e_int (nomark _)) (e_bin x_shl e_int (e_bin x_sub (ev 0) e_int)) e_int)))) (fun ds G R h => ?_)
 ·obtain ⟨s, rfl, _⟩ := h; rfl
 ·obtain ⟨s, rfl, hs, post⟩ := h
  cases s with
  | zero =>
   simp! [id]
   exact post
  | succ s =>
   have e1 : ((s + 1 : Nat) : Int) - 1 = (s : Int) := by omega
   have cp : CPow 1 (s : Int) := cpow_1 (by omega) (by omega)
   have p0 : ((0 : Int) < ((s + 1 : Nat) : Int)) = True := eq_true (by omega)
   have e2 : (1 * 2 ^ s : Int) = (cap (s + 1) true : Int) := by show _ = ((2 ^ s : Nat) : Int); simp
   simp! [p0, e1, cp, e2]
   exact post
theorem ok_work_at {n : Nat} : Ok P w mg base (n + 1) T.f_work_at (S_work_at T) := by
 refine def_ok T.f_work_at sc_work_at (fun ds G R h => ?_) (fun cdv A outer s H E hr =>
   (ss_one (s_ret (e_if (t_cmp (x_inD hr) (ev 1) (ev 0) (by with_unfolding_all rfl)) (e_ix x_ix (e_dgetD hr (ev 0) (ev 1)) e_int) e_non)))) (fun ds G R h => ?_)
 ·obtain ⟨a, ks, kvs, rfl, _⟩ := h; rfl
 ·obtain ⟨a, ks, kvs, rfl, ha, h1, h2⟩ := h
  simp! [id]
  refine ⟨ks, kvs, a, rfl, rfl, ha, ?_⟩
  cases e : valD kvs ks with
  | none =>
   simp! [id]
   exact h2 e
  | some d =>
   obtain ⟨w, m, rfl, hr⟩ := h1 d e
   simp! [dGetD]
   refine ⟨a, kvs, ks, _, rfl, rfl, ha, e, ?_⟩
   simp! [vD]
   exact hr
theorem ok_alone_by {n : Nat} : Ok P w mg base (n + 1) T.f_alone_by (S_alone_by T) := by
 refine def_ok T.f_alone_by sc_alone_by (fun ds G R h => ?_) (fun cdv A outer s H E hr =>
   (ss_one (s_ret (e_bin x_add (e_bin x_add (e_ix x_ix (e_dgetD hr (ev 4) (e_tup (a_cons (ev 0) (a_cons (ev 1) (a_cons (ev 2) a_nil))))) e_int) (e_ix x_ix (e_dgetD hr (ev 4) (e_tup (a_cons (e_bin x_sub (ev 0) e_int) (a_cons (ev 2) (a_cons (ev 3) a_nil))))) e_int)) (e_ix x_ix (e_dgetD hr (ev 4) (e_tup (a_cons (e_bin x_sub (ev 0) e_int) (a_cons (ev 1) (a_cons (ev 2) a_nil))))) e_int))))) (fun ds G R h => ?_)
 ·obtain ⟨a, p, b, m, e, kvs, w1, w2, w3, m1, m2, m3, rfl, _⟩ := h; rfl
 ·obtain ⟨a, p, b, m, e, kvs, w1, w2, w3, m1, m2, m3, rfl, ha, hp, e1, e2, e3, post⟩ := h
  have ep : (p : Int) - 1 = ((p - 1 : Nat) : Int) := by omega
  simp! [dGetD, ep]
  refine ⟨by decide, a, kvs, k3 p b m, _, rfl, rfl, ha, e1, ?_⟩
  simp! [dGetD, vD, ep]
  refine ⟨by decide, a, kvs, k3 (p - 1) m e, _, rfl, rfl, ha, e2, ?_⟩
  simp! [dGetD, vD, ep]
  refine ⟨by decide, a, kvs, k3 (p - 1) b m, _, rfl, rfl, ha, e3, ?_⟩
  simp! [dGetD, vD, ep]
  exact post
theorem ok_least_alone {n : Nat} (G_alone_reach : Ok P w mg base n T.f_alone_reach (S_alone_reach T)) (G_alone_by : Ok P w mg base n T.f_alone_by (S_alone_by T)) : Ok P w mg base (n + 1) T.f_least_alone (S_least_alone T) := by
 refine def_ok T.f_least_alone sc_least_alone (fun ds G R h => ?_) (fun cdv A outer s H E hr =>
   (ss_cons (s_if (t_cmp (x_eq hr) (e_bin x_sub (ev 3) (ev 2)) e_int (nomark _)) (ss_one (s_ret (e_tup (a_cons (e_ix x_ix (ev 0) (ev 2)) (a_cons (ev 3) a_nil))))) ss_nil)
   (ss_cons (s_set 5 sc_least_alone.nd (ec T.f_alone_reach T.g_alone_reach G_alone_reach hr (a_cons (e_bin x_sub (ev 1) e_int) a_nil)))
   (ss_cons (s_set 6 sc_least_alone.nd (e_listRng hr rfl T.b_range rfl T.b_list (a_cons (e_callB x_max2 rfl T.b_max (by decide +kernel) (a_cons (e_bin x_add (ev 2) e_int) (a_cons (e_bin x_sub (ev 3) (ev 5)) a_nil))) (a_cons (e_bin x_add (e_callB x_min2 rfl T.b_min (by decide +kernel) (a_cons (e_bin x_sub (ev 3) e_int) (a_cons (e_bin x_add (ev 2) (ev 5)) a_nil))) e_int) a_nil))))
   (ss_one (s_ret (e_callB (x_minP hr) rfl T.b_min (by decide +kernel) (a_cons (e_comp (N' := ["middle", "places", "begin", "end", "table"]) (ix := [none, some 1, some 2, some 3, some 4]) (blk (osc := defScope s_least_alone) (N := ["costs", "places", "begin", "end", "table", "most", "middles"]) rfl rfl (by decide +kernel)) (i_any (ev 6)) (fun _ _ _ _ => (j_name 0 (show (["middle", "places", "begin", "end", "table"] : List Str).Nodup by decide +kernel))) (fun _ _ _ _ => ifs_nil) (fun _ _ _ _ => (e_tup (a_cons (ec T.f_alone_by T.g_alone_by G_alone_by hr (a_cons (ev 1) (a_cons (ev 2) (a_cons (ev 0) (a_cons (ev 3) (a_cons (ev 4) a_nil)))))) (a_cons (ev 0) a_nil))))) a_nil)))))))) (fun ds G R h => ?_)
 ·obtain ⟨c, a, p, b, e, pl, kvs, Dm, rfl, _⟩ := h; rfl
 ·obtain ⟨c, a, p, b, e, pl, kvs, Dm, rfl, hc, ha, hT, hp, hp2, hb, he, hl, hcap, dl, dh, post⟩ := h
  by_cases h1 : e - b = 1
  ·have e1 : (e : Int) - (b : Int) = 1 := by omega
   simp! [e1, hc, seqOf]
   have hbl : b < pl.length := by omega
   rw [show atI (pl.map D.int) (b : Int) = some (.int pl[b]) from atI_nat (by simp [hbl])]
   refine ⟨by decide, post _ e G .refl ?_⟩
   have e3 : e = b + 1 := by omega
   subst e3
   obtain ⟨r, rfl⟩ : ∃ r, p = r + 1 := ⟨p - 1, by omega⟩
   rw [← cf_at hbl]
   exact ⟨LeastA.one, by unfold mA; rw [if_pos (by omega)], fun h => absurd (by omega) h⟩
  ·have e1 : ¬ ((e : Int) - (b : Int) = 1) := by omega
   have hp1 : 2 ≤ p := by
    rcases Nat.lt_or_ge p 2 with h | h
    ·have : p = 1 := by omega
     subst this
     rw [cap_one] at hcap
     omega
    ·exact h
   have ep : (p : Int) - 1 = ((p - 1 : Nat) : Int) := by omega
   simp! [ep]
   rw [if_neg (by simpa using e1)]
   dsimp! [ep]
   refine c_areach T (by omega) ?_
   dsimp! [dListRng]
   have hc2 := (cap_two hp1).1
   obtain ⟨L, C, eL, eC, hm, hL1, hh1, hh2⟩ := mid_lem (b := b) (e := e) (x := cap (p - 1) true) (y := cap (p - 1) true) (by omega) (by omega) (cap_pos (by omega)) (cap_pos (by omega))
   rw [eL, eC]
   refine ⟨⟨by omega, by omega, by omega, by omega⟩, fun l hll => ?_⟩
   obtain ⟨G1, hG1⟩ : ∃ G1, G1 = gup G l (.lst (rngD (L : Int) (C + 1))) := ⟨_, rfl⟩
   have g1 : Grow G G1 := by rw [hG1]; exact Grow.refl.new hll
   have kl : G1 l = some (.lst (rngD (L : Int) (C + 1))) := by rw [hG1]; exact gup_same
   rw [← hG1]
   dsimp! [kl, seqOf]
   intro q hq
   have kl2 : ∀ {o : DO}, gup G1 q o l = some (.lst (rngD (L : Int) (C + 1))) := fun {o} => by rw [gup_ne (gne kl hq)]; exact kl
   have ka2 : ∀ {o : DO}, gup G1 q o a = some (.dit kvs) := fun {o} => by rw [gup_ne (gne (g1.kp _ _ ha) hq)]; exact g1.kp _ _ ha
   refine compL_ind (fun r σ G' => ∃ (i n : Nat) (ts : List (List Int)) (v : Option D), i + n = C + 1 ∧ r = rngD ((L + i : Nat) : Int) n ∧ G' = gup G1 q (.lst (ts.map fun t => .tup (t.map .int))) ∧ ts.length = i ∧ (∀ t ∈ ts, ∃ (W : Int) (m : Nat), t = [W, (m : Int)] ∧ ∃ w1 w2 w3, LeastA (cf pl) p b m w1 ∧ LeastA (cf pl) (p - 1) m e w2 ∧ LeastA (cf pl) (p - 1) b m w3 ∧ W = w1 + w2 + w3) ∧ (∀ j, L ≤ j → j < L + i → ∃ W : Int, [W, (j : Int)] ∈ ts) ∧ σ = [v, some (.int (p : Int)), some (.int (b : Int)), some (.int (e : Int)), some (.ref a)]) ⟨0, C + 1, [], none, by omega, rfl, rfl, rfl, by simp, fun j x y => by omega, rfl⟩ ?_ ?_
   ·rintro σ G' ⟨i, n, ts, v, e1, e2, rfl, hl2, hts, hall, rfl⟩
    have hn0 : n = 0 := by
     cases n with
     | zero => rfl
     | succ n => rw [rngD_succ] at e2; cases e2
    refine ⟨by rw [kl2], q, ts, rfl, by rw [gup_same]; rfl, by omega, fun t ht hmin => ?_⟩
    obtain ⟨W, m, rfl, w1, w2, w3, q1, q2, q3, rfl⟩ := hts t ht
    refine post _ m _ (g1.new hq) ?_
    have hless : ∀ (m' : Nat), b < m' → m' < e → m' - b ≤ cap (p - 1) true → e - m' ≤ cap (p - 1) true → ∃ u1 u2 u3, LeastA (cf pl) p b m' u1 ∧ LeastA (cf pl) (p - 1) m' e u2 ∧ LeastA (cf pl) (p - 1) b m' u3 ∧ w1 + w2 + w3 ≤ u1 + u2 + u3 := by
     intro m' y1 y2 y3 y4
     have z : L ≤ m' ∧ m' < L + (C + 1) := by
      split at eL <;> split at eC <;> omega
     obtain ⟨W', hW'⟩ := hall m' z.1 (by omega)
     obtain ⟨W2, m2, e4, u1, u2, u3, r1, r2, r3, rfl⟩ := hts _ hW'
     have e5 : W' = u1 + u2 + u3 ∧ m' = m2 := by simp at e4; omega
     obtain ⟨e6, e7⟩ := e5
     subst e6; subst e7
     refine ⟨u1, u2, u3, r1, r2, r3, lex_le (hmin _ hW')⟩
    have fin : ∀ r, p = r + 1 → LeastA (cf pl) p b e (w1 + w2 + w3) := by
     intro r hr
     subst hr
     exact LeastA.two (by omega) ⟨m, w1, w2, w3, q1, q2, q3, rfl⟩ hless
    refine ⟨fin (p - 1) (by omega), ?_, fun _ => ⟨w1, w2, w3, q1, q2, q3, rfl⟩⟩
    unfold mA
    rw [if_neg h1]
    exact ⟨hp1, q1.1.lt.1, q2.1.lt.1, q3.1.cap, q2.1.cap⟩
   ·rintro z r σ G' ⟨i, n, ts, v, e1, e2, rfl, hl2, hts, hall, rfl⟩ ih
    cases n with
    | zero => cases e2
    | succ n =>
     rw [rngD_succ] at e2
     cases e2
     have hmi := hm (L + i) (by omega) (by omega)
     refine ⟨by rw [kl2], ?_⟩
     simp! [id]
     obtain ⟨w1, m1, v1, q1, _⟩ := (hT p b (L + i)).1 (dh _ _ hmi.1 (by omega) (by omega) (by omega))
     obtain ⟨w2, m2, v2, q2, _⟩ := (hT (p - 1) (L + i) e).1 (dl _ _ hp1 hmi.2.1 (by omega) hmi.2.2.2)
     obtain ⟨w3, m3, v3, q3, _⟩ := (hT (p - 1) b (L + i)).1 (dl _ _ hp1 hmi.1 (by omega) hmi.2.2.1)
     refine call_det (v := .int (w1 + w2 + w3)) (G1 := gup G1 q (.lst (ts.map fun t => .tup (t.map .int)))) (fun R h => ⟨a, p, b, L + i, e, kvs, w1, w2, w3, m1, m2, m3, rfl, ka2, hp, v1, v2, v3, h⟩) ?_
     simp! [gup_same, gup_gup]
     refine ⟨by decide, by rw [List.length_map]; exact Nat.lt_of_le_of_lt (m := 1000000) (by omega) (by decide), ih _ _ ⟨i + 1, n, ts ++ [[w1 + w2 + w3, ((L + i : Nat) : Int)]], _, by omega, ?_, ?_, by simp [hl2], ?_, ?_, rfl⟩⟩
     ·congr 1
     ·rw [List.map_append]; rfl
     ·intro t ht
      rcases List.mem_append.mp ht with h | h
      ·exact hts t h
      ·cases List.mem_singleton.mp h
       exact ⟨_, L + i, rfl, w1, w2, w3, q1, q2, q3, rfl⟩
     ·intro j x y
      rcases Nat.lt_or_ge j (L + i) with h | h
      ·obtain ⟨W, hW⟩ := hall j x h
       exact ⟨W, List.mem_append_left _ hW⟩
      ·have : j = L + i := by omega
       subst this
       exact ⟨_, List.mem_append_right _ (List.mem_singleton.mpr rfl)⟩
theorem ok_alone_table {n : Nat} (G_alone_reach : Ok P w mg base n T.f_alone_reach (S_alone_reach T)) (G_least_alone : Ok P w mg base n T.f_least_alone (S_least_alone T)) : Ok P w mg base (n + 1) T.f_alone_table (S_alone_table T) := by
 refine def_ok T.f_alone_table sc_alone_table (fun ds G R h => ?_) (fun cdv A outer s H E hr =>
   (ss_cons (s_set 2 sc_alone_table.nd e_dnewT)
   (ss_cons (s_for (i_rng2 rfl T.b_range (a_cons e_int (a_cons (e_bin x_add (ev 1) e_int) a_nil))) (j_name 3 sc_alone_table.nd) (ss_one (s_for (i_rng2 rfl T.b_range (a_cons e_int (a_cons (e_bin x_add (e_callB x_min2 rfl T.b_min (by decide +kernel) (a_cons (e_callB x_len rfl T.b_len (by decide +kernel) (a_cons (ev 0) a_nil)) (a_cons (ec T.f_alone_reach T.g_alone_reach G_alone_reach hr (a_cons (ev 3) a_nil)) a_nil))) e_int) a_nil))) (j_name 4 sc_alone_table.nd) (ss_one (s_for (i_rng1 rfl T.b_range (a_cons (e_bin x_add (e_bin x_sub (e_callB x_len rfl T.b_len (by decide +kernel) (a_cons (ev 0) a_nil)) (ev 4)) e_int) a_nil)) (j_name 5 sc_alone_table.nd) (ss_one (s_dputD hr (ev 2) (a_cons (ev 3) (a_cons (ev 5) (a_cons (e_bin x_add (ev 5) (ev 4)) a_nil))) (ec T.f_least_alone T.g_least_alone G_least_alone hr (a_cons (ev 0) (a_cons (ev 3) (a_cons (ev 5) (a_cons (e_bin x_add (ev 5) (ev 4)) (a_cons (ev 2) a_nil)))))))))))))
   (ss_one (s_ret (ev 2)))))) (fun ds G R h => ?_)
 ·obtain ⟨c, s, pl, rfl, _⟩ := h; rfl
 ·obtain ⟨c, s, pl, rfl, hc, hl1, hl, hs, post⟩ := h
  simp! [dNewD]
  intro q hq
  have hcq : c ≠ q := gne hc hq
  dsimp! [id]
  rw [show ((s : Int) + 1 - 1).toNat = s by omega]
  refine ⟨⟨by decide, by decide, by omega, by omega⟩, ?_⟩
  refine forL_ind (fun r σ G' => ∃ (P k : Nat) (kvs : List (List Key × D)) (v3 v4 v5 : Option D), 1 ≤ P ∧ P + k = s + 1 ∧ r = rngD (P : Int) k ∧ Grow G G' ∧ G' q = some (.dit kvs) ∧ TAw (cf pl) (upA pl.length P 1 0) kvs ∧ kvs.length ≤ (P * 32 + 1) * 32 ∧ σ = [some (.ref c), some (.int (s : Int)), some (.ref q), v3, v4, v5]) ⟨1, s, [], none, none, none, by omega, by omega, rfl, Grow.refl.new hq, gup_same, ?_, by simp, rfl⟩ ?_ ?_
  ·intro p b e
   refine ⟨fun h => ?_, fun _ => rfl⟩
   obtain ⟨⟨x1, x2, x3, _⟩, x4⟩ := h
   omega
  ·rintro σ G1 ⟨P, k, kvs, v3, v4, v5, hP, hk, e2, g1, k1, hT, hlen, rfl⟩
   have hk0 : k = 0 := by
    cases k with
    | zero => rfl
    | succ n => rw [rngD_succ] at e2; cases e2
   refine ⟨trivial, ?_⟩
   dsimp! [id]
   refine post q kvs G1 hq k1 (hT.congr fun p b e => ?_) g1
   have : P = s + 1 := by omega
   subst this
   unfold upA inA
   constructor
   ·rintro ⟨⟨x1, x2, x3, x4, x5⟩, x6⟩
    exact ⟨x1, by omega, x3, x4, x5⟩
   ·rintro ⟨x1, x2, x3, x4, x5⟩
    exact ⟨⟨x1, by omega, x3, x4, x5⟩, by omega⟩
  ·rintro z r σ G1 ⟨P, k, kvs, v3, v4, v5, hP, hk, e2, g1, k1, hT, hlen, rfl⟩ ih
   cases k with
   | zero => cases e2
   | succ k =>
    rw [rngD_succ] at e2
    cases e2
    refine ⟨trivial, ?_⟩
    simp! [g1.kp _ _ hc, seqOf, List.length_map]
    refine c_areach T (by omega) ?_
    simp! [id]
    obtain ⟨K, hK, hK1, hK2, hK3⟩ : ∃ K : Nat, (if ((cap P true : Nat) : Int) < (pl.length : Int) then ((cap P true : Nat) : Int) else (pl.length : Int)) = (K : Int) ∧ K ≤ pl.length ∧ K ≤ cap P true ∧ ∀ x, x ≤ pl.length → x ≤ cap P true → x ≤ K := by
     refine ⟨min (cap P true) pl.length, ?_, by omega, by omega, by omega⟩
     split <;> omega
    rw [hK, show ((K : Int) + 1 - 1).toNat = K by omega]
    refine ⟨⟨by decide, by decide, by omega, by omega⟩, ?_⟩
    refine forL_ind (fun r σ G' => ∃ (M k : Nat) (kvs : List (List Key × D)) (v4 v5 : Option D), 1 ≤ M ∧ M + k = K + 1 ∧ r = rngD (M : Int) k ∧ Grow G G' ∧ G' q = some (.dit kvs) ∧ TAw (cf pl) (upA pl.length P M 0) kvs ∧ kvs.length ≤ (P * 32 + M) * 32 ∧ σ = [some (.ref c), some (.int (s : Int)), some (.ref q), some (.int (P : Int)), v4, v5]) ⟨1, K, kvs, v4, v5, by omega, by omega, rfl, g1, k1, hT, by omega, rfl⟩ ?_ ?_
    ·rintro σ G2 ⟨M, k2, kv2, v4, v5, hM, hk2, e2, g2, k2', hT2, hlen2, rfl⟩
     have hk0 : k2 = 0 := by
      cases k2 with
      | zero => rfl
      | succ n => rw [rngD_succ] at e2; cases e2
     refine ⟨trivial, ih _ _ ⟨P + 1, k, kv2, _, _, _, by omega, by omega, by congr 1, g2, k2', hT2.congr fun p b e => ?_, by omega, rfl⟩⟩
     unfold upA inA
     constructor
     ·rintro ⟨⟨x1, x2, x3, x4, x5⟩, x6⟩
      exact ⟨⟨x1, by omega, x3, x4, x5⟩, by omega⟩
     ·rintro ⟨⟨x1, x2, x3, x4, x5⟩, x6⟩
      have hp : p ≤ P := by omega
      refine ⟨⟨x1, hp, x3, x4, x5⟩, ?_⟩
      rcases Nat.lt_or_ge p P with h | h
      ·exact .inl h
      ·have : p = P := by omega
       subst this
       have := hK3 (e - b) (by omega) x5
       exact .inr (.inl (by omega))
    ·rintro z r σ G2 ⟨M, k2, kv2, v4, v5, hM, hk2, e2, g2, k2', hT2, hlen2, rfl⟩ ih2
     cases k2 with
     | zero => cases e2
     | succ k2 =>
      rw [rngD_succ] at e2
      cases e2
      refine ⟨trivial, ?_⟩
      simp! [g2.kp _ _ hc, seqOf, List.length_map]
      obtain ⟨Q, hQ⟩ : ∃ Q : Nat, pl.length = M + Q := ⟨pl.length - M, by omega⟩
      rw [show ((pl.length : Int) - (M : Int) + 1).toNat = Q + 1 by omega]
      refine ⟨by omega, ?_⟩
      refine forL_ind (fun r σ G' => ∃ (B k : Nat) (kvs : List (List Key × D)) (v5 : Option D), B + k = Q + 1 ∧ r = rngD (B : Int) k ∧ Grow G G' ∧ G' q = some (.dit kvs) ∧ TAw (cf pl) (upA pl.length P M B) kvs ∧ kvs.length ≤ (P * 32 + M) * 32 + B ∧ σ = [some (.ref c), some (.int (s : Int)), some (.ref q), some (.int (P : Int)), some (.int (M : Int)), v5]) ⟨0, Q + 1, kv2, v5, by omega, rfl, g2, k2', hT2, by omega, rfl⟩ ?_ ?_
      ·rintro σ G3 ⟨B, k3', kv3, v5, hk3, e2, g3, k3'', hT3, hlen3, rfl⟩
       have hk0 : k3' = 0 := by
        cases k3' with
        | zero => rfl
        | succ n => rw [rngD_succ] at e2; cases e2
       refine ⟨trivial, ih2 _ _ ⟨M + 1, k2, kv3, _, _, by omega, by omega, by congr 1, g3, k3'', hT3.congr fun p b e => ?_, by omega, rfl⟩⟩
       unfold upA inA
       constructor
       ·rintro ⟨⟨x1, x2, x3, x4, x5⟩, x6⟩
        exact ⟨⟨x1, x2, x3, x4, x5⟩, by omega⟩
       ·rintro ⟨⟨x1, x2, x3, x4, x5⟩, x6⟩
        exact ⟨⟨x1, x2, x3, x4, x5⟩, by omega⟩
      ·rintro z r σ G3 ⟨B, k3', kv3, v5, hk3, e2, g3, k3'', hT3, hlen3, rfl⟩ ih3
       cases k3' with
       | zero => cases e2
       | succ k3' =>
        rw [rngD_succ] at e2
        cases e2
        refine ⟨trivial, ?_⟩
        have eBM : (B : Int) + (M : Int) = ((B + M : Nat) : Int) := by omega
        simp! [dPutD, eBM]
        refine call_nd (post := fun d G' => ∃ (W : Int) (m : Nat), d = vD W m ∧ Grow G3 G' ∧ VA (cf pl) P B (B + M) W m) (fun R h => ⟨c, q, P, B, B + M, pl, kv3, _, rfl, g3.kp _ _ hc, k3'', hT3, hP, by omega, by omega, by omega, hl, by omega, ?_, ?_, fun W m G' x1 x2 => h _ _ ⟨W, m, rfl, x1, x2⟩⟩) ?_
        ·intro b' e' x1 x2 x3 x4
         exact ⟨⟨by omega, by omega, x2, x3, x4⟩, .inl (by omega)⟩
        ·intro b' e' x2 x3 x4 x5
         exact ⟨⟨by omega, by omega, x2, x3, x5⟩, .inr (.inl (by omega))⟩
        rintro d G4 ⟨W, m, rfl, g4, hm⟩
        simp! [eBM]
        have hnot : ¬ upA pl.length P M B P B (B + M) := by
         rintro ⟨_, x⟩
         omega
        refine ⟨q, kv3, k3 P B (B + M), rfl, rfl, by decide, g4.kp _ _ k3'', Nat.lt_of_le_of_lt (m := 1000000) (by omega) (by decide), ih3 _ _ ⟨B + 1, k3', _, _, by omega, by congr 1, (g3.trans g4).own hq, gup_same, (hT3.put hnot hm).congr fun p b e => ?_, ?_, rfl⟩⟩
        ·rw [upA_next]
         constructor
         ·rintro (x | ⟨rfl, rfl, rfl⟩)
          ·exact .inl x
          ·exact .inr ⟨rfl, rfl, rfl, by omega, by omega, by omega, by omega, by omega⟩
         ·rintro (x | ⟨x1, x2, x3, _⟩)
          ·exact .inl x
          ·exact .inr ⟨x1, x2, x3⟩
        ·rw [len_put ((hT3 P B (B + M)).2 hnot)]
         omega
theorem ok_alone {n : Nat} (G_work_at : Ok P w mg base n T.f_work_at (S_work_at T)) (G_alone_table : Ok P w mg base n T.f_alone_table (S_alone_table T)) : Ok P w mg base (n + 1) T.f_alone (S_alone T) := by
 refine def_ok T.f_alone sc_alone (fun ds G R h => ?_) (fun cdv A outer s H E hr =>
   (ss_one (s_ret (ec T.f_work_at T.g_work_at G_work_at hr (a_cons (ec T.f_alone_table T.g_alone_table G_alone_table hr (a_cons (ev 0) (a_cons (ev 1) a_nil))) (a_cons (e_tup (a_cons (ev 1) (a_cons e_int (a_cons (e_callB x_len rfl T.b_len (by decide +kernel) (a_cons (ev 0) a_nil)) a_nil)))) a_nil)))))) (fun ds G R h => ?_)
 ·obtain ⟨c, s, pl, rfl, _⟩ := h; rfl
 ·obtain ⟨c, s, pl, rfl, hc, h1, h2, h3, post⟩ := h
  simp! [id]
  refine c_atable T hc h1 h2 h3 fun q kvs G1 f1 k1 hT g1 => ?_
  simp! [g1.kp _ _ hc, seqOf, List.length_map]
  refine ⟨by decide, ?_⟩
  have hk := hT s 0 pl.length
  refine call_nd (post := fun d G' => G' = G1 ∧ ((pl.length ≤ cap s true ∧ ∃ W, LeastA (cf pl) s 0 pl.length W ∧ d = .int W) ∨ (¬ pl.length ≤ cap s true ∧ d = .non))) (fun R h => ⟨q, k3 s 0 pl.length, kvs, rfl, k1, ?_, fun hv => h _ _ ⟨rfl, .inr ⟨?_, rfl⟩⟩⟩) ?_
  ·intro d hd
   by_cases hi : inA pl.length s s 0 pl.length
   ·obtain ⟨w, m, e, hw, _⟩ := hk.1 hi
    rw [e] at hd
    cases hd
    exact ⟨w, m, rfl, h _ _ ⟨rfl, .inl ⟨hi.2.2.2.2, w, hw, rfl⟩⟩⟩
   ·rw [hk.2 hi] at hd; cases hd
  ·intro hle
   have hs : 1 ≤ s := by
    rcases Nat.eq_zero_or_pos s with e | e
    ·subst e
     have : cap 0 true = 0 := rfl
     omega
    ·exact e
   obtain ⟨w, m, e, _, _⟩ := hk.1 ⟨hs, Nat.le_refl _, h1, Nat.le_refl _, hle⟩
   rw [e] at hv
   cases hv
  ·rintro d G' ⟨rfl, ⟨x, W, hW, rfl⟩ | ⟨x, rfl⟩⟩
   ·exact (post _ g1).1 x W hW
   ·exact (post _ g1).2 x
theorem ok_least_reached {n : Nat} (G_reach : Ok P w mg base n T.f_reach (S_reach T)) (G_alone_reach : Ok P w mg base n T.f_alone_reach (S_alone_reach T)) : Ok P w mg base (n + 1) T.f_least_reached (S_least_reached T) := by
 refine def_ok T.f_least_reached sc_least_reached (fun ds G R h => ?_) (fun cdv A outer s H E hr =>
   (ss_cons (s_set 5 sc_least_reached.nd (e_callB x_len rfl T.b_len (by decide +kernel) (a_cons (ev 0) a_nil)))
   (ss_cons (s_if (t_cmp (x_eq hr) (e_bin x_sub (ev 5) (ev 2)) e_int (nomark _)) (ss_one (s_ret (e_tup (a_cons (e_ix x_ix (ev 0) (ev 2)) (a_cons (ev 5) a_nil))))) ss_nil)
   (ss_cons (s_set 6 sc_least_reached.nd (e_listRng hr rfl T.b_range rfl T.b_list (a_cons (e_callB x_max2 rfl T.b_max (by decide +kernel) (a_cons (e_bin x_add (ev 2) e_int) (a_cons (e_bin x_sub (ev 5) (ec T.f_reach T.g_reach G_reach hr (a_cons (e_bin x_sub (ev 1) e_int) a_nil))) a_nil))) (a_cons (e_bin x_add (e_callB x_min2 rfl T.b_min (by decide +kernel) (a_cons (e_bin x_sub (ev 5) e_int) (a_cons (e_bin x_add (ev 2) (ec T.f_alone_reach T.g_alone_reach G_alone_reach hr (a_cons (ev 1) a_nil))) a_nil))) e_int) a_nil))))
   (ss_one (s_ret (e_callB (x_minP hr) rfl T.b_min (by decide +kernel) (a_cons (e_comp (N' := ["middle", "alones", "places", "begin", "table"]) (ix := [none, some 3, some 1, some 2, some 4]) (blk (osc := defScope s_least_reached) (N := ["costs", "places", "begin", "alones", "table", "end", "middles"]) rfl rfl (by decide +kernel)) (i_any (ev 6)) (fun _ _ _ _ => (j_name 0 (show (["middle", "alones", "places", "begin", "table"] : List Str).Nodup by decide +kernel))) (fun _ _ _ _ => ifs_nil) (fun _ _ _ _ => (e_tup (a_cons (e_bin x_add (e_ix x_ix (e_dgetD hr (ev 1) (e_tup (a_cons (ev 2) (a_cons (ev 3) (a_cons (ev 0) a_nil))))) e_int) (e_ix x_ix (e_dgetD hr (ev 4) (e_tup (a_cons (e_bin x_sub (ev 2) e_int) (a_cons (ev 0) a_nil)))) e_int)) (a_cons (ev 0) a_nil))))) a_nil)))))))) (fun ds G R h => ?_)
 ·obtain ⟨c, a, t, p, b, s, pl, ka, kt, Dm, rfl, _⟩ := h; rfl
 ·obtain ⟨c, a, t, p, b, s, pl, ka, kt, Dm, rfl, hc, ha, ht, hA, hT, hp, hps, hs, hb, hl, hcap, dl, post⟩ := h
  by_cases h1 : pl.length - b = 1
  ·have e1 : (pl.length : Int) - (b : Int) = 1 := by omega
   simp! [hc, seqOf, List.length_map]
   dsimp! [e1, hc, seqOf]
   rw [show atI (pl.map D.int) (b : Int) = some (.int pl[b]) from atI_nat (by simp [hb])]
   refine ⟨by decide, post _ pl.length G .refl ?_⟩
   have e3 : pl.length = b + 1 := by omega
   obtain ⟨r, rfl⟩ : ∃ r, p = r + 1 := ⟨p - 1, by omega⟩
   rw [← cf_at hb, e3]
   exact ⟨LeastR.one, by unfold mR; rw [if_pos (by omega)], fun h => absurd (by omega) h⟩
  ·have e1 : ¬ ((pl.length : Int) - (b : Int) = 1) := by omega
   have hp1 : 2 ≤ p := by
    rcases Nat.lt_or_ge p 2 with h | h
    ·have : p = 1 := by omega
     subst this
     rw [cap_one] at hcap
     omega
    ·exact h
   have ep : (p : Int) - 1 = ((p - 1 : Nat) : Int) := by omega
   simp! [hc, seqOf, List.length_map]
   dsimp! [id]
   rw [if_neg (by simpa using e1)]
   dsimp! [dListRng, ep]
   refine c_reach T (by omega) ?_
   simp! [id]
   refine c_areach T (by omega) ?_
   simp! [id]
   have hc2 := (cap_two hp1).2
   obtain ⟨L, C, eL, eC, hm, hL1, hh1, hh2⟩ := mid_lem (b := b) (e := pl.length) (x := cap p true) (y := cap (p - 1) false) (by omega) (by omega) (cap_pos (by omega)) (cap_pos (by omega))
   rw [eL, eC]
   refine ⟨⟨by omega, by omega, by omega, by omega⟩, fun l hll => ?_⟩
   obtain ⟨G1, hG1⟩ : ∃ G1, G1 = gup G l (.lst (rngD (L : Int) (C + 1))) := ⟨_, rfl⟩
   have g1 : Grow G G1 := by rw [hG1]; exact Grow.refl.new hll
   have kl : G1 l = some (.lst (rngD (L : Int) (C + 1))) := by rw [hG1]; exact gup_same
   rw [← hG1]
   dsimp! [kl, seqOf]
   intro q hq
   have kl2 : ∀ {o : DO}, gup G1 q o l = some (.lst (rngD (L : Int) (C + 1))) := fun {o} => by rw [gup_ne (gne kl hq)]; exact kl
   have ka2 : ∀ {o : DO}, gup G1 q o a = some (.dit ka) := fun {o} => by rw [gup_ne (gne (g1.kp _ _ ha) hq)]; exact g1.kp _ _ ha
   have kt2 : ∀ {o : DO}, gup G1 q o t = some (.dit kt) := fun {o} => by rw [gup_ne (gne (g1.kp _ _ ht) hq)]; exact g1.kp _ _ ht
   refine compL_ind (fun r σ G' => ∃ (i n : Nat) (ts : List (List Int)) (v : Option D), i + n = C + 1 ∧ r = rngD ((L + i : Nat) : Int) n ∧ G' = gup G1 q (.lst (ts.map fun t => .tup (t.map .int))) ∧ ts.length = i ∧ (∀ t ∈ ts, ∃ (W : Int) (m : Nat), t = [W, (m : Int)] ∧ ∃ w1 w2, LeastA (cf pl) p b m w1 ∧ LeastR (cf pl) pl.length (p - 1) m w2 ∧ W = w1 + w2) ∧ (∀ j, L ≤ j → j < L + i → ∃ W : Int, [W, (j : Int)] ∈ ts) ∧ σ = [v, some (.ref a), some (.int (p : Int)), some (.int (b : Int)), some (.ref t)]) ⟨0, C + 1, [], none, by omega, rfl, rfl, rfl, by simp, fun j x y => by omega, rfl⟩ ?_ ?_
   ·rintro σ G' ⟨i, n, ts, v, e1, e2, rfl, hl2, hts, hall, rfl⟩
    have hn0 : n = 0 := by
     cases n with
     | zero => rfl
     | succ n => rw [rngD_succ] at e2; cases e2
    refine ⟨by rw [kl2], q, ts, rfl, by rw [gup_same]; rfl, by omega, fun t ht hmin => ?_⟩
    obtain ⟨W, m, rfl, w1, w2, q1, q2, rfl⟩ := hts t ht
    refine post _ m _ (g1.new hq) ?_
    have hless : ∀ (m' : Nat), b < m' → m' < pl.length → m' - b ≤ cap p true → pl.length - m' ≤ cap (p - 1) false → ∃ u1 u2, LeastA (cf pl) p b m' u1 ∧ LeastR (cf pl) pl.length (p - 1) m' u2 ∧ w1 + w2 ≤ u1 + u2 := by
     intro m' y1 y2 y3 y4
     have z : L ≤ m' ∧ m' < L + (C + 1) := by
      split at eL <;> split at eC <;> omega
     obtain ⟨W', hW'⟩ := hall m' z.1 (by omega)
     obtain ⟨W2, m2, e4, u1, u2, r1, r2, rfl⟩ := hts _ hW'
     have e5 : W' = u1 + u2 ∧ m' = m2 := by simp at e4; omega
     obtain ⟨e6, e7⟩ := e5
     subst e6; subst e7
     refine ⟨u1, u2, r1, r2, lex_le (hmin _ hW')⟩
    have fin : ∀ r, p = r + 1 → LeastR (cf pl) pl.length p b (w1 + w2) := by
     intro r hr
     subst hr
     exact LeastR.two (by omega) ⟨m, w1, w2, q1, q2, rfl⟩ hless
    refine ⟨fin (p - 1) (by omega), ?_, fun _ => ⟨w1, w2, q1, q2, rfl⟩⟩
    unfold mR
    rw [if_neg h1]
    exact ⟨hp1, q1.1.lt.1, q2.1.lt.1, q1.1.cap, q2.1.cap⟩
   ·rintro z r σ G' ⟨i, n, ts, v, e1, e2, rfl, hl2, hts, hall, rfl⟩ ih
    cases n with
    | zero => cases e2
    | succ n =>
     rw [rngD_succ] at e2
     cases e2
     have hmi := hm (L + i) (by omega) (by omega)
     refine ⟨by rw [kl2], ?_⟩
     obtain ⟨w1, m1, v1, q1, _⟩ := (hA p b (L + i)).1 ⟨hp, hps, hmi.1, by omega, hmi.2.2.1⟩
     obtain ⟨w2, m2, v2, q2, _⟩ := (hT (p - 1) (L + i)).1 (dl _ hp1 hmi.2.1 hmi.2.2.2)
     simp! [dGetD, ep]
     refine ⟨by decide, a, ka, k3 p b (L + i), _, rfl, rfl, ka2, v1, ?_⟩
     simp! [dGetD, vD, ep]
     refine ⟨by decide, t, kt, L3.k2 (p - 1) (L + i), _, rfl, rfl, kt2, v2, ?_⟩
     simp! [vD, gup_same, gup_gup]
     refine ⟨by decide, by rw [List.length_map]; exact Nat.lt_of_le_of_lt (m := 1000000) (by omega) (by decide), ih _ _ ⟨i + 1, n, ts ++ [[w1 + w2, ((L + i : Nat) : Int)]], _, by omega, ?_, ?_, by simp [hl2], ?_, ?_, rfl⟩⟩
     ·congr 1
     ·rw [List.map_append]; rfl
     ·intro t ht
      rcases List.mem_append.mp ht with h | h
      ·exact hts t h
      ·cases List.mem_singleton.mp h
       exact ⟨_, L + i, rfl, w1, w2, q1, q2, rfl⟩
     ·intro j x y
      rcases Nat.lt_or_ge j (L + i) with h | h
      ·obtain ⟨W, hW⟩ := hall j x h
       exact ⟨W, List.mem_append_left _ hW⟩
      ·have : j = L + i := by omega
       subst this
       exact ⟨_, List.mem_append_right _ (List.mem_singleton.mpr rfl)⟩
theorem ok_reached_table {n : Nat} (G_reach : Ok P w mg base n T.f_reach (S_reach T)) (G_least_reached : Ok P w mg base n T.f_least_reached (S_least_reached T)) : Ok P w mg base (n + 1) T.f_reached_table (S_reached_table T) := by
 refine def_ok T.f_reached_table sc_reached_table (fun ds G R h => ?_) (fun cdv A outer s H E hr =>
   (ss_cons (s_set 3 sc_reached_table.nd e_dnewT)
   (ss_cons (s_for (i_rng2 rfl T.b_range (a_cons e_int (a_cons (e_bin x_add (ev 1) e_int) a_nil))) (j_name 4 sc_reached_table.nd) (ss_one (s_for (i_rng2 rfl T.b_range (a_cons e_int (a_cons (e_bin x_add (e_callB x_min2 rfl T.b_min (by decide +kernel) (a_cons (e_callB x_len rfl T.b_len (by decide +kernel) (a_cons (ev 0) a_nil)) (a_cons (ec T.f_reach T.g_reach G_reach hr (a_cons (ev 4) a_nil)) a_nil))) e_int) a_nil))) (j_name 5 sc_reached_table.nd) (ss_cons (s_set 6 sc_reached_table.nd (e_bin x_sub (e_callB x_len rfl T.b_len (by decide +kernel) (a_cons (ev 0) a_nil)) (ev 5)))
   (ss_one (s_dputD hr (ev 3) (a_cons (ev 4) (a_cons (ev 6) a_nil)) (ec T.f_least_reached T.g_least_reached G_least_reached hr (a_cons (ev 0) (a_cons (ev 4) (a_cons (ev 6) (a_cons (ev 2) (a_cons (ev 3) a_nil))))))))))))
   (ss_one (s_ret (ev 3)))))) (fun ds G R h => ?_)
 ·obtain ⟨c, a, s, pl, ka, rfl, _⟩ := h; rfl
 ·obtain ⟨c, a, s, pl, ka, rfl, hc, ha, hA, hl1, hl, hs, post⟩ := h
  simp! [dNewD]
  intro q hq
  dsimp! [id]
  rw [show ((s : Int) + 1 - 1).toNat = s by omega]
  refine ⟨⟨by decide, by decide, by omega, by omega⟩, ?_⟩
  refine forL_ind (fun r σ G' => ∃ (P k : Nat) (kvs : List (List Key × D)) (v3 v4 v5 : Option D), 1 ≤ P ∧ P + k = s + 1 ∧ r = rngD (P : Int) k ∧ Grow G G' ∧ G' q = some (.dit kvs) ∧ TRw (cf pl) pl.length (upR pl.length P 1) kvs ∧ kvs.length ≤ P * 32 + 1 ∧ σ = [some (.ref c), some (.int (s : Int)), some (.ref a), some (.ref q), v3, v4, v5]) ⟨1, s, [], none, none, none, by omega, by omega, rfl, Grow.refl.new hq, gup_same, ?_, by simp, rfl⟩ ?_ ?_
  ·intro p b
   refine ⟨fun h => ?_, fun _ => rfl⟩
   obtain ⟨⟨x1, x2, x3, _⟩, x4⟩ := h
   omega
  ·rintro σ G1 ⟨P, k, kvs, v3, v4, v5, hP, hk, e2, g1, k1, hT, hlen, rfl⟩
   have hk0 : k = 0 := by
    cases k with
    | zero => rfl
    | succ n => rw [rngD_succ] at e2; cases e2
   refine ⟨trivial, ?_⟩
   dsimp! [id]
   refine post q kvs G1 hq k1 (hT.congr fun p b => ?_) g1
   have : P = s + 1 := by omega
   subst this
   unfold upR inR
   constructor
   ·rintro ⟨⟨x1, x2, x3, x4⟩, x6⟩
    exact ⟨x1, by omega, x3, x4⟩
   ·rintro ⟨x1, x2, x3, x4⟩
    exact ⟨⟨x1, by omega, x3, x4⟩, by omega⟩
  ·rintro z r σ G1 ⟨P, k, kvs, v3, v4, v5, hP, hk, e2, g1, k1, hT, hlen, rfl⟩ ih
   cases k with
   | zero => cases e2
   | succ k =>
    rw [rngD_succ] at e2
    cases e2
    refine ⟨trivial, ?_⟩
    simp! [g1.kp _ _ hc, seqOf, List.length_map]
    refine c_reach T (by omega) ?_
    simp! [id]
    obtain ⟨K, hK, hK1, hK2, hK3⟩ : ∃ K : Nat, (if ((cap P false : Nat) : Int) < (pl.length : Int) then ((cap P false : Nat) : Int) else (pl.length : Int)) = (K : Int) ∧ K ≤ pl.length ∧ K ≤ cap P false ∧ ∀ x, x ≤ pl.length → x ≤ cap P false → x ≤ K := by
     refine ⟨min (cap P false) pl.length, ?_, by omega, by omega, by omega⟩
     split <;> omega
    rw [hK, show ((K : Int) + 1 - 1).toNat = K by omega]
    refine ⟨⟨by decide, by decide, by omega, by omega⟩, ?_⟩
    refine forL_ind (fun r σ G' => ∃ (M k : Nat) (kvs : List (List Key × D)) (v4 v5 : Option D), 1 ≤ M ∧ M + k = K + 1 ∧ r = rngD (M : Int) k ∧ Grow G G' ∧ G' q = some (.dit kvs) ∧ TRw (cf pl) pl.length (upR pl.length P M) kvs ∧ kvs.length ≤ P * 32 + M ∧ σ = [some (.ref c), some (.int (s : Int)), some (.ref a), some (.ref q), some (.int (P : Int)), v4, v5]) ⟨1, K, kvs, v4, v5, by omega, by omega, rfl, g1, k1, hT, by omega, rfl⟩ ?_ ?_
    ·rintro σ G2 ⟨M, k2, kv2, v4, v5, hM, hk2, e2, g2, k2', hT2, hlen2, rfl⟩
     have hk0 : k2 = 0 := by
      cases k2 with
      | zero => rfl
      | succ n => rw [rngD_succ] at e2; cases e2
     refine ⟨trivial, ih _ _ ⟨P + 1, k, kv2, _, _, _, by omega, by omega, by congr 1, g2, k2', hT2.congr fun p b => ?_, by omega, rfl⟩⟩
     unfold upR inR
     constructor
     ·rintro ⟨⟨x1, x2, x3, x4⟩, x6⟩
      exact ⟨⟨x1, by omega, x3, x4⟩, by omega⟩
     ·rintro ⟨⟨x1, x2, x3, x4⟩, x6⟩
      have hp : p ≤ P := by omega
      refine ⟨⟨x1, hp, x3, x4⟩, ?_⟩
      rcases Nat.lt_or_ge p P with h | h
      ·exact .inl h
      ·have : p = P := by omega
       subst this
       have := hK3 (pl.length - b) (by omega) x4
       exact .inr (by omega)
    ·rintro z r σ G2 ⟨M, k2, kv2, v4, v5, hM, hk2, e2, g2, k2', hT2, hlen2, rfl⟩ ih2
     cases k2 with
     | zero => cases e2
     | succ k2 =>
      rw [rngD_succ] at e2
      cases e2
      refine ⟨trivial, ?_⟩
      obtain ⟨B, hB⟩ : ∃ B : Nat, pl.length = M + B := ⟨pl.length - M, by omega⟩
      have eB : (pl.length : Int) - (M : Int) = (B : Int) := by omega
      simp! [g2.kp _ _ hc, seqOf, List.length_map, eB]
      dsimp! [dPutD]
      refine call_nd (post := fun d G' => ∃ (W : Int) (m : Nat), d = vD W m ∧ Grow G2 G' ∧ VR (cf pl) pl.length P B W m) (fun R h => ⟨c, a, q, P, B, s, pl, ka, kv2, _, rfl, g2.kp _ _ hc, g2.kp _ _ ha, k2', hA, hT2, hP, by omega, hs, by omega, hl, by omega, ?_, fun W m G' x1 x2 => h _ _ ⟨W, m, rfl, x1, x2⟩⟩) ?_
      ·intro m x1 x2 x3
       exact ⟨⟨by omega, by omega, x2, x3⟩, .inl (by omega)⟩
      rintro d G4 ⟨W, m, rfl, g4, hm⟩
      simp! [id]
      have hnot : ¬ upR pl.length P M P B := by
       rintro ⟨_, x⟩
       omega
      refine ⟨q, kv2, L3.k2 P B, rfl, rfl, by decide, g4.kp _ _ k2', Nat.lt_of_le_of_lt (m := 1000000) (by omega) (by decide), ih2 _ _ ⟨M + 1, k2, _, _, _, by omega, by omega, by congr 1, (g2.trans g4).own hq, gup_same, (hT2.put hnot hm).congr fun p b => ?_, ?_, rfl⟩⟩
      ·unfold upR inR
       constructor
       ·rintro (⟨⟨x1, x2, x3, x4⟩, x6⟩ | ⟨rfl, rfl⟩)
        ·exact ⟨⟨x1, x2, x3, x4⟩, by omega⟩
        ·exact ⟨⟨by omega, by omega, by omega, by omega⟩, by omega⟩
       ·rintro ⟨⟨x1, x2, x3, x4⟩, x6⟩
        by_cases hh : p < P ∨ pl.length - b < M
        ·exact .inl ⟨⟨x1, x2, x3, x4⟩, hh⟩
        ·exact .inr ⟨by omega, by omega⟩
      ·rw [len_put ((hT2 P B).2 hnot)]
       omega
theorem ok_reached {n : Nat} (G_work_at : Ok P w mg base n T.f_work_at (S_work_at T)) (G_alone_table : Ok P w mg base n T.f_alone_table (S_alone_table T)) (G_reached_table : Ok P w mg base n T.f_reached_table (S_reached_table T)) : Ok P w mg base (n + 1) T.f_reached (S_reached T) := by
 refine def_ok T.f_reached sc_reached (fun ds G R h => ?_) (fun cdv A outer s H E hr =>
   (ss_one (s_ret (ec T.f_work_at T.g_work_at G_work_at hr (a_cons (ec T.f_reached_table T.g_reached_table G_reached_table hr (a_cons (ev 0) (a_cons (ev 1) (a_cons (ec T.f_alone_table T.g_alone_table G_alone_table hr (a_cons (ev 0) (a_cons (ev 1) a_nil))) a_nil)))) (a_cons (e_tup (a_cons (ev 1) (a_cons e_int a_nil))) a_nil)))))) (fun ds G R h => ?_)
 ·obtain ⟨c, s, pl, rfl, _⟩ := h; rfl
 ·obtain ⟨c, s, pl, rfl, hc, h1, h2, h3, post⟩ := h
  simp! [id]
  refine c_atable T hc h1 h2 h3 fun q0 kv0 G0 f0 k0 hT0 g0 => ?_
  simp! [id]
  refine c_rtable T (g0.kp _ _ hc) k0 hT0 h1 h2 h3 fun q kvs G1 f1 k1 hT g1 => ?_
  simp! [id]
  refine ⟨by decide, ?_⟩
  have hk := hT s 0
  refine call_nd (post := fun d G' => G' = G1 ∧ ((pl.length ≤ cap s false ∧ ∃ W, LeastR (cf pl) pl.length s 0 W ∧ d = .int W) ∨ (¬ pl.length ≤ cap s false ∧ d = .non))) (fun R h => ⟨q, L3.k2 s 0, kvs, rfl, k1, ?_, fun hv => h _ _ ⟨rfl, .inr ⟨?_, rfl⟩⟩⟩) ?_
  ·intro d hd
   by_cases hi : inR pl.length s s 0
   ·obtain ⟨w, m, e, hw, _⟩ := hk.1 hi
    rw [e] at hd
    cases hd
    exact ⟨w, m, rfl, h _ _ ⟨rfl, .inl ⟨hi.2.2.2, w, hw, rfl⟩⟩⟩
   ·rw [hk.2 hi] at hd; cases hd
  ·intro hle
   have hs : 1 ≤ s := by
    rcases Nat.eq_zero_or_pos s with e | e
    ·subst e
     have : cap 0 false = 0 := rfl
     omega
    ·exact e
   obtain ⟨w, m, e, _, _⟩ := hk.1 ⟨hs, Nat.le_refl _, h1, hle⟩
   rw [e] at hv
   cases hv
  ·rintro d G' ⟨rfl, ⟨x, W, hW, rfl⟩ | ⟨x, rfl⟩⟩
   ·exact (post _ (g0.trans g1)).1 x W hW
   ·exact (post _ (g0.trans g1)).2 x
theorem ok_left_way {n dp : Nat} (G_turned_plan : Ok P w mg base n T.f_turned_plan (S_turned_plan T)) (G_left_way : Ok P w mg base n T.f_left_way (S_left_way_r T dp)) : Ok P w mg base (n + 1) T.f_left_way (S_left_way_r T (dp + 1)) := by
 refine def_ok T.f_left_way sc_left_way (fun ds G R h => ?_) (fun cdv A outer s H E hr =>
   (ss_cons (s_if (t_cmp (x_eq hr) (e_bin x_sub (ev 2) (ev 1)) e_int (nomark _)) (ss_one (s_ret (e_lst (a_cons (e_tup (a_cons e_str (a_cons (ev 2) a_nil))) a_nil)))) ss_nil)
   (ss_cons (s_set 4 sc_left_way.nd (e_ix x_ix (e_dgetD hr (ev 3) (e_tup (a_cons (ev 0) (a_cons (ev 1) (a_cons (ev 2) a_nil))))) e_int))
   (ss_one (s_ret (e_bin x_add (e_bin x_add (ec T.f_left_way T.g_left_way G_left_way hr (a_cons (ev 0) (a_cons (ev 1) (a_cons (ev 4) (a_cons (ev 3) a_nil))))) (ec T.f_left_way T.g_left_way G_left_way hr (a_cons (e_bin x_sub (ev 0) e_int) (a_cons (ev 4) (a_cons (ev 2) (a_cons (ev 3) a_nil)))))) (ec T.f_turned_plan T.g_turned_plan G_turned_plan hr (a_cons (ec T.f_left_way T.g_left_way G_left_way hr (a_cons (e_bin x_sub (ev 0) e_int) (a_cons (ev 1) (a_cons (ev 4) (a_cons (ev 3) a_nil))))) a_nil)))))))) (fun ds G R h => ?_)
 ·obtain ⟨a, n, s, p, b, e, c, kvs, rfl, _⟩ := h; rfl
 ·obtain ⟨a, nn, s, p, b, e, c, kvs, rfl, ha, hT, hi, hd, hn, post⟩ := h
  have hbe := hi.2.2.1
  have hen := hi.2.2.2.1
  by_cases h1 : e - b = 1
  ·have e1 : (e : Int) - (b : Int) = 1 := by omega
   simp! [e1]
   refine ⟨by decide, by decide, fun q hq => ?_⟩
   have eb : e = b + 1 := by omega
   subst eb
   have hp1 := hi.1
   have one : ∀ r, p = r + 1 → LeastA c p b (b + 1) (wk c [(true, b + 1)]) := fun r hr => by
    subst hr
    show LeastA c (r + 1) b (b + 1) (c b + 0)
    rw [Int.add_zero]
    exact LeastA.one
   exact post q [(true, b + 1)] _ hq gup_same (by rw [h1]; exact Nat.lt_succ_self 1) (wok_one hi.1) (one (p - 1) (by omega)) (Grow.refl.new hq)
  ·have e1 : ¬ ((e : Int) - (b : Int) = 1) := by omega
   obtain ⟨w0, m, e0, hW, hm, hs3⟩ := (hT p b e).1 hi
   obtain ⟨u1, u2, u3, y1, y2, y3, ew⟩ := hs3 h1
   clear hs3
   unfold mA at hm
   rw [if_neg h1] at hm
   obtain ⟨hp2, hbm, hme, hc1, hc2⟩ := hm
   have hcp := (cap_two hp2).1
   have i1 : inA nn s p b m := ⟨hi.1, hi.2.1, hbm, by omega, by omega⟩
   have i2 : inA nn s (p - 1) m e := ⟨by omega, by have := hi.2.1; omega, hme, by omega, by omega⟩
   have i3 : inA nn s (p - 1) b m := ⟨by omega, by have := hi.2.1; omega, hbm, by omega, by omega⟩
   have ep : (p : Int) - 1 = ((p - 1 : Nat) : Int) := by omega
   simp! [id]
   rw [if_neg (by simpa using e1)]
   dsimp! [dGetD]
   refine ⟨by decide, a, kvs, k3 p b e, _, rfl, rfl, ha, e0, ?_⟩
   simp! [vD]
   dsimp! [ep]
   refine c_lway T ha hT i1 (by omega) hn fun q1 w1 G1 f1 k1 l1 o1 a1 g1 => ?_
   simp! [ep]
   refine c_lway T (g1.kp _ _ ha) hT i2 (by omega) hn fun q2 w2 G2 f2 k2 l2 o2 a2 g2 => ?_
   have z1 : 2 ^ (m - b) ≤ 2 ^ 20 := Nat.pow_le_pow_right (by decide) (by omega)
   have z2 : 2 ^ (e - m) ≤ 2 ^ 20 := Nat.pow_le_pow_right (by decide) (by omega)
   have z3 : 2 * 2 ^ (m - b) + 2 ^ (e - m) ≤ 2 ^ (e - b) + 2 := by
    have := pow_lem (a := m - b) (c := e - m) (by omega) (by omega)
    rw [show m - b + (e - m) = e - b by omega] at this
    exact this
   have k1' := g2.kp _ _ k1
   simp! [ep]
   refine add_lst7 k1' k2 (by rw [List.length_map, List.length_map]; exact Nat.le_trans (m := 4000000) (by omega) (by decide)) fun q3 h3 => ?_
   obtain ⟨G3, hG3⟩ : ∃ G3, G3 = gup G2 q3 (.lst (w1.map mD ++ w2.map mD)) := ⟨_, rfl⟩
   have g3 : Grow G2 G3 := by rw [hG3]; exact Grow.refl.new h3
   have k3' : G3 q3 = some (.lst (w1.map mD ++ w2.map mD)) := by rw [hG3]; exact gup_same
   rw [← hG3]
   have g03 := (g1.trans g2).trans g3
   refine c_lway T (g03.kp _ _ ha) hT i3 (by omega) hn fun q4 w4 G4 f4 k4 l4 o4 a4 g4 => ?_
   simp! [id]
   refine c_tplan T (w := w4.map some) (by rw [pmD_some]; exact k4) (by rw [List.length_map]; omega) fun q5 G5 f5 k5 g5 => ?_
   rw [bkp_some, pmD_some] at k5
   have k35 := g5.kp _ _ (g4.kp _ _ k3')
   simp! [id]
   have hb4 := bkw_len (w := w4)
   refine add_lst7 k35 k5 (by rw [List.length_append, List.length_map, List.length_map, List.length_map]; exact Nat.le_trans (m := 4000000) (by omega) (by decide)) fun q6 h6 => ?_
   have g05 := g03.trans (g4.trans g5)
   have fin : ∀ r, p = r + 1 → WOK b e p true (w1 ++ w2 ++ bkw w4) := by
    intro r hr
    subst hr
    exact wok_alone hbm hme o1 o2 o4
   have ewk : wk c (w1 ++ w2 ++ bkw w4) = w0 := by
    rw [wk_app, wk_app, wk_bkw, ew, y1.eq a1, y2.eq a2, y3.eq a4]
   refine post q6 (w1 ++ w2 ++ bkw w4) _ (g05.none h6) (by rw [gup_same, List.map_append, List.map_append]) ?_ (fin (p - 1) (by omega)) (by rw [ewk]; exact hW) (g05.new h6)
   rw [List.length_append, List.length_append]
   omega
theorem ok_reached_way {n dp : Nat} (G_left_way : Ok P w mg base n T.f_left_way (S_left_way T)) (G_reached_way : Ok P w mg base n T.f_reached_way (S_reached_way_r T dp)) : Ok P w mg base (n + 1) T.f_reached_way (S_reached_way_r T (dp + 1)) := by
 refine def_ok T.f_reached_way sc_reached_way (fun ds G R h => ?_) (fun cdv A outer s H E hr =>
   (ss_cons (s_if (t_cmp (x_eq hr) (e_bin x_sub (ev 2) (ev 1)) e_int (nomark _)) (ss_one (s_ret (e_lst (a_cons (e_tup (a_cons e_str (a_cons (ev 2) a_nil))) a_nil)))) ss_nil)
   (ss_cons (s_set 5 sc_reached_way.nd (e_ix x_ix (e_dgetD hr (ev 4) (e_tup (a_cons (ev 0) (a_cons (ev 1) a_nil)))) e_int))
   (ss_one (s_ret (e_bin x_add (ec T.f_left_way T.g_left_way G_left_way hr (a_cons (ev 0) (a_cons (ev 1) (a_cons (ev 5) (a_cons (ev 3) a_nil))))) (ec T.f_reached_way T.g_reached_way G_reached_way hr (a_cons (e_bin x_sub (ev 0) e_int) (a_cons (ev 5) (a_cons (ev 2) (a_cons (ev 3) (a_cons (ev 4) a_nil)))))))))))) (fun ds G R h => ?_)
 ·obtain ⟨a, t, n, s, p, b, c, ka, kt, rfl, _⟩ := h; rfl
 ·obtain ⟨a, t, nn, s, p, b, c, ka, kt, rfl, ha, ht, hA, hT, hi, hd, hn, post⟩ := h
  have hbe := hi.2.2.1
  by_cases h1 : nn - b = 1
  ·have e1 : (nn : Int) - (b : Int) = 1 := by omega
   simp! [e1]
   refine ⟨by decide, by decide, fun q hq => ?_⟩
   have eb : nn = b + 1 := by omega
   subst eb
   have hp1 := hi.1
   have one : ∀ r, p = r + 1 → LeastR c (b + 1) p b (wk c [(true, b + 1)]) := fun r hr => by
    subst hr
    show LeastR c (b + 1) (r + 1) b (c b + 0)
    rw [Int.add_zero]
    exact LeastR.one
   exact post q [(true, b + 1)] _ hq gup_same (by rw [h1]; exact Nat.lt_succ_self 1) (wok_one hi.1) (one (p - 1) (by omega)) (Grow.refl.new hq)
  ·have e1 : ¬ ((nn : Int) - (b : Int) = 1) := by omega
   obtain ⟨w0, m, e0, hW, hm, hs3⟩ := (hT p b).1 hi
   obtain ⟨u1, u2, y1, y2, ew⟩ := hs3 h1
   clear hs3
   unfold mR at hm
   rw [if_neg h1] at hm
   obtain ⟨hp2, hbm, hme, hc1, hc2⟩ := hm
   have i1 : inA nn s p b m := ⟨hi.1, hi.2.1, hbm, by omega, hc1⟩
   have i2 : inR nn s (p - 1) m := ⟨by omega, by have := hi.2.1; omega, hme, hc2⟩
   have ep : (p : Int) - 1 = ((p - 1 : Nat) : Int) := by omega
   simp! [id]
   rw [if_neg (by simpa using e1)]
   dsimp! [dGetD]
   refine ⟨by decide, t, kt, L3.k2 p b, _, rfl, rfl, ht, e0, ?_⟩
   simp! [vD]
   dsimp! [ep]
   refine c_lway T ha hA i1 (by omega) hn fun q1 w1 G1 f1 k1 l1 o1 a1 g1 => ?_
   simp! [ep]
   refine c_rway T (g1.kp _ _ ha) (g1.kp _ _ ht) hA hT i2 (by omega) hn fun q2 w2 G2 f2 k2 l2 o2 a2 g2 => ?_
   have z1 : 2 ^ (m - b) ≤ 2 ^ 20 := Nat.pow_le_pow_right (by decide) (by omega)
   have z2 : 2 ^ (nn - m) ≤ 2 ^ 20 := Nat.pow_le_pow_right (by decide) (by omega)
   have z3 : 2 * 2 ^ (m - b) + 2 ^ (nn - m) ≤ 2 ^ (nn - b) + 2 := by
    have := pow_lem (a := m - b) (c := nn - m) (by omega) (by omega)
    rw [show m - b + (nn - m) = nn - b by omega] at this
    exact this
   have k1' := g2.kp _ _ k1
   simp! [ep]
   refine add_lst7 k1' k2 (by rw [List.length_map, List.length_map]; exact Nat.le_trans (m := 4000000) (by omega) (by decide)) fun q6 h6 => ?_
   have g05 := g1.trans g2
   have fin : ∀ r, p = r + 1 → WOK b nn p false (w1 ++ w2) := by
    intro r hr
    subst hr
    exact wok_some hbm hme o1 o2
   have ewk : wk c (w1 ++ w2) = w0 := by
    rw [wk_app, ew, y1.eq a1, y2.eq a2]
   refine post q6 (w1 ++ w2) _ (g05.none h6) (by rw [gup_same, List.map_append]) ?_ (fin (p - 1) (by omega)) (by rw [ewk]; exact hW) (g05.new h6)
   rw [List.length_append]
   omega
theorem ok_left_plan {n : Nat} (G_alone_table : Ok P w mg base n T.f_alone_table (S_alone_table T)) (G_left_way : Ok P w mg base n T.f_left_way (S_left_way T)) : Ok P w mg base (n + 1) T.f_left_plan (S_left_plan T) := by
 refine def_ok T.f_left_plan sc_left_plan (fun ds G R h => ?_) (fun cdv A outer s H E hr =>
   (ss_cons (s_set 2 sc_left_plan.nd (ec T.f_alone_table T.g_alone_table G_alone_table hr (a_cons (ev 0) (a_cons (ev 1) a_nil))))
   (ss_cons (s_if (t_cmp (x_notInD hr) (e_tup (a_cons (ev 1) (a_cons e_int (a_cons (e_callB x_len rfl T.b_len (by decide +kernel) (a_cons (ev 0) a_nil)) a_nil)))) (ev 2) (by with_unfolding_all rfl)) (ss_one (s_ret e_non)) ss_nil)
   (ss_one (s_ret (ec T.f_left_way T.g_left_way G_left_way hr (a_cons (ev 1) (a_cons e_int (a_cons (e_callB x_len rfl T.b_len (by decide +kernel) (a_cons (ev 0) a_nil)) (a_cons (ev 2) a_nil)))))))))) (fun ds G R h => ?_)
 ·obtain ⟨c, s, pl, rfl, _⟩ := h; rfl
 ·obtain ⟨c, s, pl, rfl, hc, h1, h2, h3, post⟩ := h
  simp! [id]
  refine c_atable T hc h1 (by omega) h3 fun q kvs G1 f1 k1 hT g1 => ?_
  dsimp! [g1.kp _ _ hc, seqOf, List.length_map]
  refine ⟨by decide, k3 s 0 pl.length, kvs, q, rfl, rfl, k1, ?_⟩
  have hk := hT s 0 pl.length
  by_cases hi : inA pl.length s s 0 pl.length
  ·obtain ⟨w, m, e, _, _⟩ := hk.1 hi
   simp! [e]
   rw [if_neg (by simp)]
   dsimp! [g1.kp _ _ hc, seqOf, List.length_map]
   refine c_lway T (b := 0) (n := pl.length) (s := s) k1 hT hi (by omega) h2 fun q2 w2 G2 f2 k2 l2 o2 a2 g2 => ?_
   have z1 : 2 ^ (pl.length - 0) ≤ 2 ^ 20 := Nat.pow_le_pow_right (by decide) (by omega)
   exact (post G2 (g1.trans g2)).1 q2 (w2.map some) (g1.none f2) (by rw [pmD_some]; exact k2) (by rw [List.length_map]; omega) (pln_left (by omega) o2) (by rw [wkp_some]; exact a2)
  ·simp! [hk.2 hi]
   rw [if_pos (by simp)]
   refine (post G1 g1).2 fun hle => hi ⟨?_, Nat.le_refl _, h1, Nat.le_refl _, hle⟩
   rcases Nat.eq_zero_or_pos s with e | e
   ·subst e
    have : cap 0 true = 0 := rfl
    omega
   ·exact e
theorem ok_shown_plan {n : Nat} (G_turned_plan : Ok P w mg base n T.f_turned_plan (S_turned_plan T)) (G_alone_table : Ok P w mg base n T.f_alone_table (S_alone_table T)) (G_reached_table : Ok P w mg base n T.f_reached_table (S_reached_table T)) (G_reached_way : Ok P w mg base n T.f_reached_way (S_reached_way T)) : Ok P w mg base (n + 1) T.f_shown_plan (S_shown_plan T) := by
 refine def_ok T.f_shown_plan sc_shown_plan (fun ds G R h => ?_) (fun cdv A outer s H E hr =>
   (ss_cons (s_set 2 sc_shown_plan.nd (ec T.f_alone_table T.g_alone_table G_alone_table hr (a_cons (ev 0) (a_cons (ev 1) a_nil))))
   (ss_cons (s_set 3 sc_shown_plan.nd (ec T.f_reached_table T.g_reached_table G_reached_table hr (a_cons (ev 0) (a_cons (ev 1) (a_cons (ev 2) a_nil)))))
   (ss_cons (s_if (t_cmp (x_notInD hr) (e_tup (a_cons (ev 1) (a_cons e_int a_nil))) (ev 3) (by with_unfolding_all rfl)) (ss_one (s_ret e_non)) ss_nil)
   (ss_cons (s_set 4 sc_shown_plan.nd (ec T.f_reached_way T.g_reached_way G_reached_way hr (a_cons (ev 1) (a_cons e_int (a_cons (e_callB x_len rfl T.b_len (by decide +kernel) (a_cons (ev 0) a_nil)) (a_cons (ev 2) (a_cons (ev 3) a_nil)))))))
   (ss_one (s_ret (e_bin x_add (e_bin x_add (ev 4) (e_lst (a_cons (e_tup (a_cons e_str a_nil)) a_nil))) (ec T.f_turned_plan T.g_turned_plan G_turned_plan hr (a_cons (ev 4) a_nil)))))))))) (fun ds G R h => ?_)
 ·obtain ⟨c, s, pl, rfl, _⟩ := h; rfl
 ·obtain ⟨c, s, pl, rfl, hc, h1, h2, h3, post⟩ := h
  simp! [id]
  refine c_atable T hc h1 (by omega) h3 fun q0 kv0 G0 f0 k0 hT0 g0 => ?_
  dsimp! [id]
  refine c_rtable T (g0.kp _ _ hc) k0 hT0 h1 (by omega) h3 fun q kvs G1 f1 k1 hT g1 => ?_
  dsimp! [id]
  refine ⟨by decide, L3.k2 s 0, kvs, q, rfl, rfl, k1, ?_⟩
  have hk := hT s 0
  have g01 := g0.trans g1
  by_cases hi : inR pl.length s s 0
  ·obtain ⟨w, m, e, _, _⟩ := hk.1 hi
   simp! [e]
   rw [if_neg (by simp)]
   dsimp! [g01.kp _ _ hc, seqOf, List.length_map]
   refine c_rway T (b := 0) (n := pl.length) (s := s) (g1.kp _ _ k0) k1 hT0 hT hi (by omega) h2 fun q2 w2 G2 f2 k2 l2 o2 a2 g2 => ?_
   have z1 : 2 ^ (pl.length - 0) ≤ 2 ^ 20 := Nat.pow_le_pow_right (by decide) (by omega)
   dsimp! [id]
   refine ⟨by decide, by decide, fun q3 h3 => ?_⟩
   refine add_lst7 (by rw [gup_ne (gne k2 h3)]; exact k2) gup_same (by rw [List.length_map]; exact Nat.le_trans (m := 4000000) (by show w2.length + 1 ≤ 4000000; omega) (by decide)) fun q4 h4 => ?_
   obtain ⟨G4, hG4⟩ : ∃ G4, G4 = gup (gup G2 q3 (.lst [D.tup [D.str "show"]])) q4 (.lst (w2.map mD ++ [D.tup [D.str "show"]])) := ⟨_, rfl⟩
   have g4 : Grow G2 G4 := by rw [hG4]; exact (Grow.refl.new h3).new h4
   have k4 : G4 q4 = some (.lst (w2.map mD ++ [D.tup [D.str "show"]])) := by rw [hG4]; exact gup_same
   rw [← hG4]
   refine c_tplan T (w := w2.map some) (by rw [pmD_some]; exact g4.kp _ _ k2) (by rw [List.length_map]; omega) fun q5 G5 f5 k5 g5 => ?_
   rw [bkp_some, pmD_some] at k5
   have k45 := g5.kp _ _ k4
   have hb2 := bkw_len (w := w2)
   simp! [id]
   refine add_lst7 k45 k5 (by rw [List.length_append, List.length_map, List.length_map]; exact Nat.le_trans (m := 4000000) (by show w2.length + 1 + (bkw w2).length ≤ 4000000; omega) (by decide)) fun q6 h6 => ?_
   have gg := ((g01.trans g2).trans g4).trans g5
   refine (post _ (gg.new h6)).1 q6 (w2.map some ++ [none] ++ (bkw w2).map some) (wk (cf pl) w2) (gg.none h6) ?_ ?_ (pln_shown o2) a2 wkp_shown
   ·rw [gup_same, List.map_append, List.map_append, pmD_some, pmD_some]; rfl
   ·rw [List.length_append, List.length_append, List.length_map, List.length_map]
    show w2.length + 1 + (bkw w2).length ≤ 4000000
    omega
  ·simp! [hk.2 hi]
   rw [if_pos (by simp)]
   refine (post G1 g01).2 fun hle => hi ⟨?_, Nat.le_refl _, h1, hle⟩
   rcases Nat.eq_zero_or_pos s with e | e
   ·subst e
    have : cap 0 false = 0 := rfl
    omega
   ·exact e
theorem ok_law_source {n : Nat} : Ok P w mg base (n + 1) T.f_law_source (S_law_source T) := by
 refine def_ok T.f_law_source sc_law_source (fun ds G R h => ?_) (fun cdv A outer s H E hr =>
   (ss_one (s_ret (e_lst (a_cons (e_listRev hr rfl T.b_reversed rfl T.b_list (a_cons (ev 0) a_nil)) (a_cons e_int (a_cons e_int a_nil))))))) (fun ds G R h => ?_)
 ·obtain ⟨a, ns, rfl, _⟩ := h; rfl
 ·obtain ⟨a, ns, rfl, ha, post⟩ := h
  simp! [dListRev, ha]
  intro p hp
  refine ⟨by decide, fun q hq => post q p _ ⟨ns.reverse, 0, 40503, gup_same, ?_, by decide, ?_⟩⟩
  ·rw [gup_ne (fun z => by rw [z, ← z, gup_same] at hq; cases hq), gup_same, List.map_reverse]
  ·exact fun z => by rw [z, gup_same] at hq; cases hq
theorem ok_law_draw {n : Nat} : Ok P w mg base (n + 1) T.f_law_draw (S_law_draw T) := by
 refine def_ok T.f_law_draw sc_law_draw (fun ds G R h => ?_) (fun cdv A outer s H E hr =>
   (ss_cons (s_if (t_w (w_and (t_cmp (x_eq hr) (e_ix x_ix (ev 0) e_int) e_int (nomark _)) (w_and (t_cmp (x_ne hr) (e_ix x_ix (ev 0) e_int) (e_lst a_nil) (nomark _)) (w_and1 (t_cmp (x_ge) (e_callB x_abs rfl T.b_abs (by decide +kernel) (a_cons (e_ix x_ix (e_ix x_ix (ev 0) e_int) (e_un x_neg e_int)) a_nil)) (e_bin x_pow e_int e_int) (nomark _)))))) (ss_one (s_asg (e_callB x_abs rfl T.b_abs (by decide +kernel) (a_cons (e_pop0 (e_ix x_ix (ev 0) e_int)) a_nil)) (j_sub (ev 0) e_int x_set))) ss_nil)
   (ss_cons (s_if (t_cmp (x_gt) (e_ix x_ix (ev 0) e_int) e_int (nomark _)) (ss_cons (s_set 2 sc_law_draw.nd (e_bin x_mod (e_ix x_ix (ev 0) e_int) (ev 1)))
   (ss_cons (s_asg (e_bin x_div (e_ix x_ix (ev 0) e_int) (ev 1)) (j_sub (ev 0) e_int x_set))
   (ss_one (s_ret (ev 2))))) ss_nil)
   (ss_cons (s_set 3 sc_law_draw.nd e_int)
   (ss_cons (s_if (t_cmp (x_ne hr) (e_ix x_ix (ev 0) e_int) (e_lst a_nil) (nomark _)) (ss_one (s_set 3 sc_law_draw.nd (e_callB x_abs rfl T.b_abs (by decide +kernel) (a_cons (e_pop0 (e_ix x_ix (ev 0) e_int)) a_nil)))) ss_nil)
   (ss_cons (s_asg (e_bin x_mod (e_bin x_add (e_bin x_add (e_bin x_mul (e_ix x_ix (ev 0) e_int) e_int) (e_bin x_mod (ev 3) e_int)) e_int) e_int) (j_sub (ev 0) e_int x_set))
   (ss_cons (s_set 4 sc_law_draw.nd (e_bin x_mod (e_bin x_add (e_bin x_mul (e_ix x_ix (ev 0) e_int) e_int) e_int) e_int))
   (ss_cons (s_set 5 sc_law_draw.nd (e_bin x_mod (e_bin x_add (e_bin x_mul (ev 4) (ev 4)) (e_ix x_ix (ev 0) e_int)) e_int))
   (ss_one (s_ret (e_bin x_mod (e_bin x_div (e_bin x_mod (e_bin x_mul (ev 5) (e_bin x_add (e_bin x_mod (ev 5) e_int) e_int)) e_int) e_int) (ev 1)))))))))))) (fun ds G R h => ?_)
 ·obtain ⟨s, a, m, rfl, _⟩ := h; rfl
 ·obtain ⟨s, a, m, rfl, ⟨ns, x, y, hs, ha, hx, hne⟩, hm0, hm1, post⟩ := h
  have p4 : ((0 : Int) < m) = True := eq_true hm0
  have cp : CPow 10 18 := ⟨by decide, by decide, by decide⟩
  have cd : ∀ c : Int, CDivL c m := fun c => ⟨hm0, by omega⟩
  have c1 : ∀ c : Int, CMul c 16807 := fun c => Or.inr ⟨by decide, by decide⟩
  have c2 : ∀ c : Int, CMul c 48271 := fun c => Or.inr ⟨by decide, by decide⟩
  have c3 : ∀ c y : Int, CMul (c % 2147483629) y := fun c y => cmul_l (by omega) (by omega)
  have c4 : ∀ c y : Int, CMul (c % 2147483587) y := fun c y => cmul_l (by omega) (by omega)
  have c5 : ∀ c : Int, CDivL c 3 := fun c => ⟨by decide, by decide⟩
  have p1 : ((0 : Int) < 2147483629) = True := by decide
  have p2 : ((0 : Int) < 2147483587) = True := by decide
  have p3 : ((0 : Int) < 2147483647) = True := by decide
  have p5 : ((0 : Int) < 65537) = True := by decide
  have p6 : ((0 : Int) < 2147483579) = True := by decide
  have s0 : (0 ≤ sizeLine) = True := eq_true (Nat.zero_le _)
  have fin : ∀ (G1 : Gp) (v : Int) (ns' : List Int) (x' y' : Int), (∀ c o, c ≠ s → c ≠ a → G c = some o → G1 c = some o) → G1 s = some (.lst [.ref a, .int x', .int y']) → G1 a = some (.lst (ns'.map .int)) → 0 ≤ x' → 0 ≤ v → v < m → R (.int v) G1 :=
   fun G1 v ns' x' y' kp h1 h2 h3 h4 h5 => post v G1 ⟨⟨ns', x', y', h1, h2, h3, hne⟩, kp⟩ h4 h5
  by_cases hx0 : x = 0
  ·subst hx0
   simp! [hs, ha]
   refine ⟨by decide, fun p hp => ?_⟩
   have nps : s ≠ p := gne hs hp
   have npa : a ≠ p := gne ha hp
   have hs1 : gup G p (.lst []) s = some (.lst [.ref a, .int 0, .int y]) := by rw [gup_ne nps]; exact hs
   have ha1 : gup G p (.lst []) a = some (.lst (ns.map .int)) := by rw [gup_ne npa]; exact ha
   have kp1 : ∀ c o, G c = some o → gup G p (.lst []) c = some o := fun c o e => by rw [gup_ne (gne e hp)]; exact e
   refine cmp_ints (ks := ns) (ms := []) (by rw [ha1]; rfl) (by rw [gup_same]; rfl) ?_
   rcases List.eq_nil_or_concat ns with e | ⟨ns', c, e⟩
   ·subst e
    simp! [id]
    dsimp! [hs1, Int.lt_irrefl]
    dsimp! [id]
    dsimp! [hs1]
    refine ⟨Nat.zero_le _, fun pp hpp => ?_⟩
    have nps2 : s ≠ pp := gne hs1 hpp
    have npa2 : a ≠ pp := gne ha1 hpp
    have hs2 : gup (gup G p (.lst [])) pp (.lst []) s = some (.lst [.ref a, .int 0, .int y]) := by rw [gup_ne nps2]; exact hs1
    have ha2 : gup (gup G p (.lst [])) pp (.lst []) a = some (.lst []) := by rw [gup_ne npa2]; exact ha1
    have kp2 : ∀ c o, G c = some o → gup (gup G p (.lst [])) pp (.lst []) c = some o := fun c o e => by rw [gup_ne (gne (kp1 c o e) hpp)]; exact kp1 c o e
    refine cmp_ints (ks := []) (ms := []) (by rw [ha2]; rfl) (by rw [gup_same]; rfl) ?_
    simp! [id]
    (simp! [hs2, c1, c2, c3, c4, c5, p1, p2, p3, p4, p5, p6]; repeat (simp only [Go]; simp! [hs2, c1, c2, c3, c4, c5, p1, p2, p3, p4, p5, p6]))
    exact fin _ _ [] 0 _ (fun c o h1 h2 e => by rw [gup_ne h1]; exact kp2 c o e) gup_same (by rw [gup_ne (Ne.symm hne)]; exact ha2) (by decide) (Int.emod_nonneg _ (by omega)) (Int.emod_lt_of_pos _ hm0)
   ·rw [List.concat_eq_append] at e
    subst e
    have hnn : ((ns' ++ [c]) = []) = False := eq_false (by simp)
    simp! [hnn, hs1, ha1, at_last, cp]
    refine ite_d (fun hb => ?_) (fun hb => ?_)
    ·rw [pop_last ha1]
     have q0 : (0 : Int) < (if c < 0 then -c else c) := Int.lt_of_lt_of_le (by decide) hb
     have q2 : ((0 : Int) < (if c < 0 then -c else c)) = True := eq_true q0
     have hs3 : gup (gup G p (.lst [])) a (.lst (ns'.map .int)) s = some (.lst [.ref a, .int 0, .int y]) := by rw [gup_ne hne]; exact hs1
     simp! [hs3]
     (simp! [q2, p4, cd, gup_gup]; repeat (simp only [Go]; simp! [q2, p4, cd, gup_gup]))
     exact fin _ _ ns' _ y (fun d o h1 h2 e => by rw [gup_ne h1, gup_ne h2]; exact kp1 d o e) gup_same (by rw [gup_ne (Ne.symm hne), gup_same]) (Int.ediv_nonneg (Int.le_of_lt q0) (by omega)) (Int.emod_nonneg _ (by omega)) (Int.emod_lt_of_pos _ hm0)
    ·dsimp! [hs1, Int.lt_irrefl]
     dsimp! [id]
     dsimp! [hs1]
     refine ⟨Nat.zero_le _, fun pp hpp => ?_⟩
     have nps2 : s ≠ pp := gne hs1 hpp
     have npa2 : a ≠ pp := gne ha1 hpp
     have hs2 : gup (gup G p (.lst [])) pp (.lst []) s = some (.lst [.ref a, .int 0, .int y]) := by rw [gup_ne nps2]; exact hs1
     have ha2 : gup (gup G p (.lst [])) pp (.lst []) a = some (.lst ((ns' ++ [c]).map .int)) := by rw [gup_ne npa2]; exact ha1
     have kp2 : ∀ d o, G d = some o → gup (gup G p (.lst [])) pp (.lst []) d = some o := fun d o e => by rw [gup_ne (gne (kp1 d o e) hpp)]; exact kp1 d o e
     refine cmp_ints (ks := ns' ++ [c]) (ms := []) (by rw [ha2]; rfl) (by rw [gup_same]; rfl) ?_
     simp! [hnn, hs2, ha2]
     rw [pop_last ha2]
     have hs3 : gup (gup (gup G p (.lst [])) pp (.lst [])) a (.lst (ns'.map .int)) s = some (.lst [.ref a, .int 0, .int y]) := by rw [gup_ne hne]; exact hs2
     simp! [id]
     (simp! [hs3, c1, c2, c3, c4, c5, p1, p2, p3, p4, p5, p6, gup_gup]; repeat (simp only [Go]; simp! [hs3, c1, c2, c3, c4, c5, p1, p2, p3, p4, p5, p6, gup_gup]))
     exact fin _ _ ns' 0 _ (fun d o h1 h2 e => by rw [gup_ne h1, gup_ne h2]; exact kp2 d o e) gup_same (by rw [gup_ne (Ne.symm hne), gup_same]) (by decide) (Int.emod_nonneg _ (by omega)) (Int.emod_lt_of_pos _ hm0)
  ·have q1 : (x = 0) = False := eq_false hx0
   have q2 : ((0 : Int) < x) = True := eq_true (by omega)
   simp! [hs, ha, q1]
   (simp! [hs, q2, p4, cd]; repeat (simp only [Go]; simp! [hs, q2, p4, cd]))
   exact fin _ _ ns _ y (fun c o h1 h2 e => by rw [gup_ne h1]; exact e) gup_same (by rw [gup_ne (Ne.symm hne)]; exact ha) (Int.ediv_nonneg hx (by omega)) (Int.emod_nonneg _ (by omega)) (Int.emod_lt_of_pos _ hm0)
theorem ok_law_moves {n : Nat} : Ok P w mg base (n + 1) T.f_law_moves (S_law_moves T) := by
 refine def_ok T.f_law_moves sc_law_moves (fun ds G R h => ?_) (fun cdv A outer s H E hr =>
   (ss_cons (s_set 3 sc_law_moves.nd (e_callB x_len rfl T.b_len (by decide +kernel) (a_cons (e_comp (N' := ["_law_k", "_law_marks"]) (ix := [none, some 0]) (blk (osc := defScope s_law_moves) (N := ["_law_marks", "_law_n", "_law_s", "_law_many", "_law_found", "_law_k"]) rfl rfl (by decide +kernel)) (i_rng1 rfl T.b_range (a_cons (ev 1) a_nil)) (fun _ _ _ _ => (j_name 0 (show (["_law_k", "_law_marks"] : List Str).Nodup by decide +kernel))) (fun _ _ _ _ => (ifs_one (t_cmp (x_eq hr) (e_bin x_and (e_bin x_shr (ev 1) (ev 0)) e_int) e_int (nomark _)))) (fun _ _ _ _ => (ev 0))) a_nil)))
   (ss_cons (s_set 4 sc_law_moves.nd (e_lst a_nil))
   (ss_cons (s_for (i_rng2 rfl T.b_range (a_cons e_int (a_cons (e_bin x_add (ev 1) e_int) a_nil))) (j_name 5 sc_law_moves.nd) (ss_one (s_if (t_w (w_or (t_cmp (x_eq hr) (ev 5) e_int (nomark _)) (w_or1 (t_cmp (x_eq hr) (e_bin x_and (e_bin x_shr (ev 0) (e_bin x_sub (ev 5) e_int)) e_int) e_int (nomark _))))) (ss_one (s_if (t_cmp (x_eq hr) (e_bin x_and (e_bin x_shr (ev 0) (e_bin x_sub (ev 5) e_int)) e_int) e_int (nomark _)) (ss_one (s_expr (e_append (ev 4) (a_cons (e_tup (a_cons e_str (a_cons (ev 5) a_nil))) a_nil)))) (ss_one (s_if (t_cmp (x_lt) (ev 3) (ev 2) (nomark _)) (ss_one (s_expr (e_append (ev 4) (a_cons (e_tup (a_cons e_str (a_cons (ev 5) a_nil))) a_nil)))) ss_nil)))) ss_nil)))
   (ss_one (s_ret (ev 4))))))) (fun ds G R h => ?_)
 ·obtain ⟨m, n, s, rfl, _⟩ := h; rfl
 ·obtain ⟨m, n', s, rfl, hn, post⟩ := h
  have en : ((n' : Int) + 1 - 1).toNat = n' := by omega
  have rok : (-2 ^ 62 ≤ (1 : Int) ∧ (1 : Int) < 2 ^ 62 ∧ -2 ^ 62 ≤ (n' : Int) + 1 ∧ (n' : Int) + 1 < 2 ^ 62) := ⟨by decide, by decide, by omega, by omega⟩
  simp! [id]
  refine ⟨rng_ok (by omega), fun p hp => ?_⟩
  refine compL_ind (fun r σ G' => ∃ (j c : Nat) (xs : List D) (v : Option D), j + c = n' ∧ r = rngD (j : Int) c ∧ G' = gup G p (.lst xs) ∧ xs.length = cnt j m ∧ σ = [v, some (.int (m : Int))]) ⟨0, n', [], none, by omega, rfl, rfl, rfl, rfl⟩ ?_ ?_
  ·rintro σ G' ⟨j, c, xs, v, e, e2, rfl, hx, rfl⟩
   refine ⟨trivial, ?_⟩
   have g1 : Grow G (gup G p (.lst xs)) := Grow.refl.new hp
   have ec : c = 0 := by
    cases c with
    | zero => rfl
    | succ c => rw [rngD_succ] at e2; cases e2
   subst ec
   have ej : j = n' := by omega
   subst ej
   simp! [id]
   dsimp! [id]
   refine ⟨by decide, fun pf hpf => ?_⟩
   dsimp! [en]
   refine ⟨rok, ?_⟩
   refine forL_ind (fun r σ G' => ∃ (i c : Nat) (ps : List Mv) (v : Option D), i + c = j ∧ r = rngD ((i : Int) + 1) c ∧ G' = gup (gup G p (.lst xs)) pf (.lst (ps.map mD)) ∧ ps.length ≤ i ∧ (∀ p, p ∈ ps ↔ lgl j s m p ∧ p.2 ≤ i) ∧ σ = [some (.int (m : Int)), some (.int (j : Int)), some (.int (s : Int)), some (.int (xs.length : Int)), some (.ref pf), v]) ⟨0, j, [], none, by omega, rfl, rfl, by simp, (fun p => ⟨fun z => by simp at z, fun z => by have := z.1.1.1; omega⟩), rfl⟩ ?_ ?_
   ·rintro σ G' ⟨i, c, ps, v, e, e2, rfl, hp1, hp2, rfl⟩
    refine ⟨trivial, ?_⟩
    dsimp! [id]
    have ec : c = 0 := by
     cases c with
     | zero => rfl
     | succ c => rw [rngD_succ] at e2; cases e2
    subst ec
    exact post pf ps _ (g1.none hpf) gup_same (fun p => (hp2 p).trans ⟨fun z => z.1, fun z => ⟨z, by have := z.1.2; omega⟩⟩) (by omega) (g1.new hpf)
   ·rintro z r σ G' ⟨i, c, ps, v, e, e2, rfl, hp1, hp2, rfl⟩ ih
    cases c with
    | zero => cases e2
    | succ c =>
     rw [rngD_succ] at e2
     cases e2
     refine ⟨trivial, ?_⟩
     have ei : (i : Int) + 1 = ((i + 1 : Nat) : Int) := by omega
     have ei2 : ((i + 1 : Nat) : Int) - 1 = (i : Int) := by omega
     have pi : (0 ≤ (i : Int)) = True := eq_true (by omega)
     have sz : (ps.map mD).length < sizeLine := by rw [List.length_map]; exact Nat.lt_of_le_of_lt (m := 1000) (by omega) (by decide)
     have s2 : (2 ≤ sizeLine) = True := eq_true (by decide)
     have mk : ∀ (N : DSt → Gp → Prop), True := fun _ => trivial
     have tail : (i = 0 ∨ m.testBit (i - 1) = true) → (m.testBit i = true → lgl j s m (false, i + 1)) ∧ (m.testBit i = false → cnt j m < s → lgl j s m (true, i + 1)) ∧ (m.testBit i = false → ¬ cnt j m < s → ∀ b, ¬ lgl j s m (b, i + 1)) := fun h => by
      have a1 : (i + 1 = 1 ∨ m.testBit (i + 1 - 2) = true) := by
       rcases h with h | h
       ·left; omega
       ·by_cases h0 : i = 0
        ·left; omega
        ·right
         have : i + 1 - 2 = i - 1 := by omega
         rw [this]; exact h
      refine ⟨fun hb => ⟨⟨by omega, by show i + 1 ≤ j; omega⟩, a1, ?_, fun z => by cases z⟩, fun hb hc => ⟨⟨by omega, by show i + 1 ≤ j; omega⟩, a1, ?_, fun _ => hc⟩, fun hb hc b hl => ?_⟩
      ·show false = !m.testBit i; rw [hb]; rfl
      ·show true = !m.testBit i; rw [hb]; rfl
      ·have h1 : b = !m.testBit i := hl.2.2.1
       rw [hb] at h1
       exact hc (hl.2.2.2 h1)
     have none_ : ¬ i = 0 → ¬ m.testBit (i - 1) = true → ∀ b, ¬ lgl j s m (b, i + 1) := fun h0 h1 b hl => by
      rcases hl.2.1 with z | z
      ·have z : i + 1 = 1 := z
       omega
      ·have z : m.testBit (i + 1 - 2) = true := z
       have : i + 1 - 2 = i - 1 := by omega
       rw [this] at z
       exact h1 z
     have nb : ¬ (Builtin.bitAnd ((m : Int) / 2 ^ i) 1 = 1) → m.testBit i = false := fun hb => by
      cases hc : m.testBit i with
      | false => rfl
      | true => exact absurd ((shr_bit m i).mpr hc) hb
     have xl : (xs.length : Int) = (cnt j m : Int) := by rw [hx]
     simp! [ei, ei2, pi]
     refine ite_d (fun h0 => ?_) (fun h0 => ?_)
     ·have h0' : i = 0 := by omega
      refine ite_d (fun hb => ?_) (fun hb => ?_)
      ·rw [shr_bit] at hb
       refine ⟨by decide, sz, ih _ _ ⟨i + 1, c, ps ++ [(false, i + 1)], _, by omega, rfl, ?_, by simp; omega, mem_add hp2 ((tail (.inl h0')).1 hb), rfl⟩⟩
       rw [gup_gup, List.map_append]; rfl
      ·have hb' := nb hb
       refine ite_d (fun hc => ?_) (fun hc => ?_)
       ·refine ⟨by decide, sz, ih _ _ ⟨i + 1, c, ps ++ [(true, i + 1)], _, by omega, rfl, ?_, by simp; omega, mem_add hp2 ((tail (.inl h0')).2.1 hb' (by omega)), rfl⟩⟩
        rw [gup_gup, List.map_append]; rfl
       ·exact ih _ _ ⟨i + 1, c, ps, _, by omega, rfl, rfl, by omega, mem_no hp2 ((tail (.inl h0')).2.2 hb' (by omega)), rfl⟩
     ·have h0' : ¬ i = 0 := by omega
      obtain ⟨i', rfl⟩ : ∃ i', i = i' + 1 := ⟨i - 1, by omega⟩
      refine ⟨by omega, ?_⟩
      have e2' : (((i' + 1 + 1 : Nat) : Int) - 2).toNat = i' := by omega
      rw [e2']
      refine ite_d (fun h1 => ?_) (fun h1 => ?_)
      ·rw [shr_bit] at h1
       refine ite_d (fun hb => ?_) (fun hb => ?_)
       ·rw [shr_bit] at hb
        refine ⟨by decide, sz, ih _ _ ⟨i' + 1 + 1, c, ps ++ [(false, i' + 1 + 1)], _, by omega, rfl, ?_, by simp; omega, mem_add hp2 ((tail (.inr h1)).1 hb), rfl⟩⟩
        rw [gup_gup, List.map_append]; rfl
       ·have hb' := nb hb
        refine ite_d (fun hc => ?_) (fun hc => ?_)
        ·refine ⟨by decide, sz, ih _ _ ⟨i' + 1 + 1, c, ps ++ [(true, i' + 1 + 1)], _, by omega, rfl, ?_, by simp; omega, mem_add hp2 ((tail (.inr h1)).2.1 hb' (by omega)), rfl⟩⟩
         rw [gup_gup, List.map_append]; rfl
        ·exact ih _ _ ⟨i' + 1 + 1, c, ps, _, by omega, rfl, rfl, by omega, mem_no hp2 ((tail (.inr h1)).2.2 hb' (by omega)), rfl⟩
      ·rw [shr_bit] at h1
       exact ih _ _ ⟨i' + 1 + 1, c, ps, _, by omega, rfl, rfl, by omega, mem_no hp2 (none_ h0' h1), rfl⟩
  ·rintro z r σ G' ⟨j, c, xs, v, e, e2, rfl, hx, rfl⟩ ih
   cases c with
   | zero => cases e2
   | succ c =>
    rw [rngD_succ] at e2
    cases e2
    refine ⟨trivial, ?_⟩
    have ej : (j : Int) + 1 = ((j + 1 : Nat) : Int) := by omega
    have pj : (0 ≤ (j : Int)) = True := eq_true (by omega)
    simp! [ej, pj]
    refine ite_d (fun hb => ?_) (fun hb => ?_)
    ·simp! [id]
     refine ⟨Nat.lt_of_le_of_lt (m := 1000) (by have := @cnt_le j m; omega) (by decide), ih _ _ ⟨j + 1, c, xs ++ [.int (j : Int)], _, by omega, by rw [ej], by rw [gup_gup], by rw [List.length_append, hx, cnt, (shr_bit m j).mp hb]; rfl, rfl⟩⟩
    ·exact ih _ _ ⟨j + 1, c, xs, _, by omega, by rw [ej], rfl, by rw [cnt, hx]; cases hc : m.testBit j with | false => rfl | true => exact absurd ((shr_bit m j).mpr hc) hb, rfl⟩
theorem ok_law_costs {n : Nat} (G_law_draw : Ok P w mg base n T.f_law_draw (S_law_draw T)) : Ok P w mg base (n + 1) T.f_law_costs (S_law_costs T) := by
 refine def_ok T.f_law_costs sc_law_costs (fun ds G R h => ?_) (fun cdv A outer s H E hr =>
   (ss_cons (s_set 2 sc_law_costs.nd (e_lst a_nil))
   (ss_cons (s_for (i_rng1 rfl T.b_range (a_cons (ev 1) a_nil)) (j_name 3 sc_law_costs.nd) (ss_cons (s_set 4 sc_law_costs.nd (e_bin x_add (e_bin x_add e_int (e_bin x_mul (ec T.f_law_draw T.g_law_draw G_law_draw hr (a_cons (ev 0) (a_cons e_int a_nil))) e_int)) (ec T.f_law_draw T.g_law_draw G_law_draw hr (a_cons (ev 0) (a_cons e_int a_nil)))))
   (ss_one (s_expr (e_append (ev 2) (a_cons (e_ix x_ix (e_lst (a_cons e_int (a_cons (e_bin x_add e_int (e_bin x_mod (ev 4) e_int)) (a_cons (ev 4) (a_cons (ev 4) a_nil))))) (ec T.f_law_draw T.g_law_draw G_law_draw hr (a_cons (ev 0) (a_cons e_int a_nil)))) a_nil))))))
   (ss_one (s_ret (ev 2)))))) (fun ds G R h => ?_)
 ·obtain ⟨s, a, n, rfl, _⟩ := h; rfl
 ·obtain ⟨s', a, n', rfl, S, hn, post⟩ := h
  simp! [id]
  refine ⟨by decide, fun p hp => ?_⟩
  have n0 := S.ne hp
  dsimp! [id]
  refine ⟨by omega, ?_⟩
  refine forL_ind (fun r σ G' => ∃ (i c : Nat) (pl : List Int) (v3 v4 : Option D), i + c = n' ∧ r = rngD (i : Int) c ∧ Ady s' a G G' ∧ G' p = some (.lst (pl.map .int)) ∧ pl.length = i ∧ (∀ x ∈ pl, 1 ≤ x ∧ x ≤ 1000000000) ∧ σ = [some (.ref s'), some (.int (n' : Int)), some (.ref p), v3, v4]) ⟨0, n', [], none, none, by omega, rfl, (Ady.refl S).new hp, gup_same, rfl, (fun x hx => by cases hx), rfl⟩ ?_ ?_
  ·rintro σ G1 ⟨i, c, pl, v3, v4, e, e2, A1, k1, hl, hb, rfl⟩
   refine ⟨trivial, ?_⟩
   have hc : c = 0 := by
    cases c with
    | zero => rfl
    | succ c => rw [rngD_succ] at e2; cases e2
   subst hc
   dsimp! [id]
   exact post p pl G1 A1 n0.1 n0.2 k1 (by omega) hb
  ·rintro z r σ G1 ⟨i, c, pl, v3, v4, e, e2, A1, k1, hl, hb, rfl⟩ ih
   cases c with
   | zero => cases e2
   | succ c =>
    rw [rngD_succ] at e2
    cases e2
    refine ⟨trivial, ?_⟩
    have ei : (i : Int) + 1 = ((i + 1 : Nat) : Int) := by omega
    simp! [id]
    refine c_draw T A1.at_ (by decide) (by decide) fun x1 G2 a2 b1 b2 => ?_
    have cm : CMul x1 32000 := cmul_r (by decide) (by decide)
    simp! [cm]
    refine c_draw T a2.at_ (by decide) (by decide) fun x2 G3 a3 b3 b4 => ?_
    obtain ⟨C, hC, C1, C2⟩ : ∃ C : Int, 1 + x1 * 32000 + x2 = C ∧ 1 ≤ C ∧ C ≤ 1000000000 := ⟨_, rfl, by omega, by omega⟩
    have k3 := a3.kp _ _ n0.1 n0.2 (a2.kp _ _ n0.1 n0.2 k1)
    simp! [hC]
    dsimp! [k3]
    refine ⟨by decide, by decide, fun p4 hp4 => ?_⟩
    have n4 := a3.at_.ne hp4
    have A4 := ((A1.trans a2).trans a3).new (o := .lst [.int 1, .int (1 + C % 9), .int C, .int C]) hp4
    refine c_draw T A4.at_ (by decide) (by decide) fun x5 G5 a5 d1 d2 => ?_
    have k45 := a5.kp _ _ n4.1 n4.2 gup_same
    have k5 : G5 p = some (.lst (pl.map .int)) := a5.kp _ _ n0.1 n0.2 (by rw [gup_ne (gne k3 hp4)]; exact k3)
    obtain ⟨u, hu, u1, u2⟩ : ∃ u : Int, atI [D.int 1, .int (1 + C % 9), .int C, .int C] x5 = some (.int u) ∧ 1 ≤ u ∧ u ≤ 1000000000 := by
     have : x5 = 0 ∨ x5 = 1 ∨ x5 = 2 ∨ x5 = 3 := by omega
     rcases this with e | e | e | e <;> subst e
     ·exact ⟨1, rfl, by decide, by decide⟩
     ·exact ⟨1 + C % 9, rfl, by omega, by omega⟩
     ·exact ⟨C, rfl, C1, C2⟩
     ·exact ⟨C, rfl, C1, C2⟩
    simp! [k45, hu, k5]
    have A5 := A4.trans a5
    refine ⟨Nat.lt_of_le_of_lt (m := 1000) (by rw [List.length_map]; omega) (by decide), ih _ _ ⟨i + 1, c, pl ++ [u], _, _, by omega, by rw [ei], ⟨A5.at_.put n0.1 n0.2, fun b o h1 h2 hb => ?_⟩, by rw [gup_same, List.map_append]; rfl, by rw [List.length_append, hl]; rfl, fun x hx => ?_, rfl⟩⟩
    ·by_cases hbp : b = p
     ·subst hbp; rw [hp] at hb; cases hb
     ·rw [gup_ne hbp]; exact A5.kp b o h1 h2 hb
    ·rcases List.mem_append.mp hx with w | w
     ·exact hb x w
     ·rw [List.mem_singleton.mp w]; exact ⟨u1, u2⟩
theorem ok_law_grown {n : Nat} (G_law_moves : Ok P w mg base n T.f_law_moves (S_law_moves T)) : Ok P w mg base (n + 1) T.f_law_grown (S_law_grown T) := by
 refine def_ok T.f_law_grown sc_law_grown (fun ds G R h => ?_) (fun cdv A outer s H E hr =>
   (ss_cons (s_set 2 sc_law_grown.nd (e_disp1 e_int e_bl))
   (ss_cons (s_set 3 sc_law_grown.nd (e_lst (a_cons e_int a_nil)))
   (ss_cons (s_while (t_cmp (x_ne hr) (ev 3) (e_lst a_nil) (nomark _)) (ss_cons (s_set 4 sc_law_grown.nd (e_pop0 (ev 3)))
   (ss_one (s_for (i_any (ec T.f_law_moves T.g_law_moves G_law_moves hr (a_cons (ev 4) (a_cons (ev 0) (a_cons (ev 1) a_nil))))) (j_seq (n := 2) rfl (js_cons (j_name 5 sc_law_grown.nd) (js_cons (j_name 6 sc_law_grown.nd) js_nil))) (ss_cons (s_set 7 sc_law_grown.nd (e_bin x_xor (ev 4) (e_bin x_shl e_int (e_bin x_sub (ev 6) e_int))))
   (ss_one (s_if (t_cmp (x_notInK2 hr) (ev 7) (ev 2) (by with_unfolding_all rfl)) (ss_cons (s_dputK hr (ev 2) (ev 7) e_bl)
   (ss_one (s_expr (e_append (ev 3) (a_cons (ev 7) a_nil))))) ss_nil)))))))
   (ss_one (s_ret (ev 2))))))) (fun ds G R h => ?_)
 ·obtain ⟨n, s, rfl, _⟩ := h; rfl
 ·obtain ⟨n', s', rfl, h1, h8, post⟩ := h
  simp! [dDisp1]
  intro q hq
  refine ⟨.inl 0, rfl, ?_⟩
  rw [gup_gup]
  dsimp! [id]
  refine ⟨by decide, fun d hd => ?_⟩
  have nqd : q ≠ d := gne gup_same hd
  have g1 : Grow G (gup (gup G q (.dic [(.inl 0, .bl true)])) d (.lst [.int 0])) := (Grow.refl.new hq).new hd
  have fd : G d = none := (Grow.refl.new (o := .dic [(.inl 0, .bl true)]) hq).none hd
  have h256 : 2 ^ n' ≤ 256 := Nat.pow_le_pow_right (n := 2) (by decide) h8
  dsimp! [id]
  refine while_ind (fun m σ G' => ∃ (F D' : List Nat) (v4 v5 v6 v7 : Option D), (2 * (2 ^ n' - F.length) + D'.length ≤ m ∧ D'.length ≤ F.length) ∧ Grow G G' ∧ G' q = some (.dic (fdD F)) ∧ G' d = some (.lst (D'.map nD)) ∧ F.Nodup ∧ 0 ∈ F ∧ (∀ x ∈ F, RS n' s' x) ∧ (∀ x ∈ D', x ∈ F) ∧ (∀ x ∈ F, x ∈ D' ∨ ∀ p, lgl n' s' x p → xr x p.2 ∈ F) ∧ σ = [some (.int (n' : Int)), some (.int (s' : Int)), some (.ref q), some (.ref d), v4, v5, v6, v7])
   (m := 1000) ⟨[0], [0], none, none, none, none, ⟨by show 2 * (2 ^ n' - 1) + 1 ≤ 1000; omega, Nat.le_refl _⟩, g1, by rw [gup_ne nqd]; exact gup_same, gup_same, by simp, by simp, fun x hx => by rw [List.mem_singleton.mp hx]; exact RS.zero, fun x hx => hx, fun x hx => .inl hx, rfl⟩ ?_
  rintro m σ G2 N ⟨F, D', v4, v5, v6, v7, ⟨hm, hdf⟩, g2, kq, kd, hnd, h0, hrs, hsub, hcl, rfl⟩ ih
  simp! [id]
  refine ⟨by decide, fun p3 hp3 => ?_⟩
  have kq3 : ∀ {o : DO}, gup G2 p3 o q = some (.dic (fdD F)) := fun {o} => by rw [gup_ne (gne kq hp3)]; exact kq
  have kd3 : ∀ {o : DO}, gup G2 p3 o d = some (.lst (D'.map nD)) := fun {o} => by rw [gup_ne (gne kd hp3)]; exact kd
  have g3 : ∀ {o : DO}, Grow G (gup G2 p3 o) := g2.new hp3
  have hfl : F.length ≤ 2 ^ n' := nat_len hnd fun x hx => (hrs x hx).lt
  refine cmp_ints (ks := D'.map fun x : Nat => (x : Int)) (ms := []) (by rw [kd3]; show some _ = _; rw [nD_map]) (by rw [gup_same]; rfl) ?_
  rcases List.eq_nil_or_concat D' with e | ⟨D0, x, e⟩
  ·subst e
   simp! [id]
   dsimp! [id]
   refine post q F _ hq kq3 (fun y => ⟨hrs y, fun hy => hy.all h0 fun z hz => ?_⟩) (by omega) g3
   rcases hcl z hz with w | w
   ·cases w
   ·exact w
  ·rw [List.concat_eq_append] at e
   subst e
   have hne : (((D0 ++ [x]).map fun x : Nat => (x : Int)) = []) = False := eq_false (by simp)
   have hx : x ∈ F := hsub x (by simp)
   simp! [hne]
   have ekd : ((D0 ++ [x]).map nD) = ((D0.map (fun x : Nat => (x : Int))) ++ [(x : Int)]).map D.int := by rw [nD_map, List.map_append]; rfl
   rw [kd3]
   refine ⟨trivial, ?_⟩
   rw [pop_last (ns := D0.map (fun x : Nat => (x : Int))) (c := (x : Int)) (by rw [kd3, ekd])]
   rw [← nD_map]
   obtain ⟨G4, hG4⟩ : ∃ G4, G4 = gup (gup G2 p3 (.lst [])) d (.lst (D0.map nD)) := ⟨_, rfl⟩
   have g4 : Grow G G4 := by rw [hG4]; exact g3.own fd
   have kq4 : G4 q = some (.dic (fdD F)) := by rw [hG4, gup_ne nqd]; exact kq3
   have kd4 : G4 d = some (.lst (D0.map nD)) := by rw [hG4]; exact gup_same
   rw [← hG4]
   clear hG4
   dsimp! [id]
   refine c_moves T (m := x) (by omega) fun qm ps G5 f5 k5 hps hpl g5 => ?_
   simp! [k5]
   have nqm : q ≠ qm := gne kq4 f5
   have ndm : d ≠ qm := gne kd4 f5
   refine forL_ind (fun r σ G' => ∃ (l t : List Mv) (F1 D1 : List Nat) (v5 v6 v7 : Option D), l ++ t = ps ∧ r = t.map mD ∧ Grow G G' ∧ G' qm = some (.lst (ps.map mD)) ∧ G' q = some (.dic (fdD F1)) ∧ G' d = some (.lst (D1.map nD)) ∧ F1.Nodup ∧ 0 ∈ F1 ∧ x ∈ F1 ∧ (∀ y ∈ F1, RS n' s' y) ∧ (∀ y ∈ D1, y ∈ F1) ∧ (∀ y ∈ F1, y ∈ D1 ∨ y = x ∨ ∀ p, lgl n' s' y p → xr y p.2 ∈ F1) ∧ (∀ p ∈ l, xr x p.2 ∈ F1) ∧ (2 * (2 ^ n' - F1.length) + D1.length + 1 ≤ m ∧ D1.length ≤ F1.length) ∧ σ = [some (.int (n' : Int)), some (.int (s' : Int)), some (.ref q), some (.ref d), some (.int (x : Int)), v5, v6, v7])
    ⟨[], ps, F, D0, v5, v6, v7, rfl, rfl, g4.trans g5, k5, g5.kp _ _ kq4, g5.kp _ _ kd4, hnd, h0, hx, hrs, fun y hy => hsub y (by simp [hy]), fun y hy => ?_, (fun p hp => by cases hp), by rw [List.length_append, List.length_singleton] at hm hdf; omega, rfl⟩ ?_ ?_
   ·rcases hcl y hy with w | w
    ·rcases List.mem_append.mp w with w | w
     ·exact .inl w
     ·exact .inr (.inl (List.mem_singleton.mp w))
    ·exact .inr (.inr w)
   ·rintro σ G6 ⟨l, t, F1, D1, v5, v6, v7, e, e2, g6, k6, kq6, kd6, n1, z1, x1, r1, s1, c1, m1, ⟨mm, mdf⟩, rfl⟩
    have ht : t = [] := by simpa using e2.symm
    subst ht
    rw [List.append_nil] at e
    subst e
    refine ⟨by rw [k6]; rfl, ?_⟩
    obtain ⟨m', rfl⟩ : ∃ m', m = m' + 1 := ⟨m - 1, by omega⟩
    refine ih _ _ m' rfl ⟨F1, D1, _, _, _, _, ⟨by omega, mdf⟩, g6, kq6, kd6, n1, z1, r1, s1, fun y hy => ?_, rfl⟩
    rcases c1 y hy with w | w | w
    ·exact .inl w
    ·subst w; exact .inr fun p hp => m1 p ((hps p).mpr hp)
    ·exact .inr w
   ·rintro z r σ G6 ⟨l, t, F1, D1, v5, v6, v7, e, e2, g6, k6, kq6, kd6, n1, z1, x1, r1, s1, c1, m1, ⟨mm, mdf⟩, rfl⟩ ih2
    cases t with
    | nil => cases e2
    | cons p t =>
     cases e2
     refine ⟨by rw [k6]; rfl, ?_⟩
     have hp : p ∈ ps := by rw [← e]; simp
     have lp := (hps p).mp hp
     have e1 : (p.2 : Int) - 1 = ((p.2 - 1 : Nat) : Int) := by have := lp.1.1; omega
     have cp : CPow 1 ((p.2 - 1 : Nat) : Int) := cpow_1 (by omega) (by have := lp.1.2; omega)
     have ex : Builtin.bitXor (x : Int) (1 * 2 ^ (p.2 - 1)) = ((xr x p.2 : Nat) : Int) := xor_int x (p.2 - 1)
     have hfl1 : F1.length ≤ 2 ^ n' := nat_len n1 fun y hy => (r1 y hy).lt
     have hrx : RS n' s' (xr x p.2) := (r1 x x1).step lp
     simp! [mD, pD, mP, e1, cp, ex]
     dsimp! [id]
     refine ⟨.inl ((xr x p.2 : Nat) : Int), fdD F1, q, rfl, rfl, .inl kq6, ?_⟩
     rw [fd_in]
     by_cases hin : xr x p.2 ∈ F1
     ·rw [decide_eq_true hin]
      refine ih2 _ _ ⟨l ++ [p], t, F1, D1, _, _, _, by rw [← e, List.append_assoc]; rfl, rfl, g6, k6, kq6, kd6, n1, z1, x1, r1, s1, c1, fun p' hp' => ?_, ⟨mm, mdf⟩, rfl⟩
      rcases List.mem_append.mp hp' with w | w
      ·exact m1 p' w
      ·rw [List.mem_singleton.mp w]; exact hin
     ·rw [decide_eq_false hin]
      simp! [dPutK]
      have hfle : (fdD F1).length = F1.length := by unfold fdD; rw [List.length_map]
      refine ⟨q, fdD F1, .inl ((xr x p.2 : Nat) : Int), rfl, rfl, kq6, Nat.lt_of_le_of_lt (m := 1000) (by omega) (by decide), ?_⟩
      rw [fd_put hin]
      have kd7 : ∀ {o : DO}, gup G6 q o d = some (.lst (D1.map nD)) := fun {o} => by rw [gup_ne (Ne.symm nqd)]; exact kd6
      have g7 : Grow G (gup G6 q (.dic (fdD (F1 ++ [xr x p.2])))) := g6.own hq
      have n2 : (F1 ++ [xr x p.2]).Nodup := List.nodup_append.mpr ⟨n1, by simp, fun a ha b hb => by rw [List.mem_singleton.mp hb]; exact fun z => hin (by rw [← z]; exact ha)⟩
      have hl2 : (F1 ++ [xr x p.2]).length ≤ 2 ^ n' := nat_len n2 fun y hy => by
       rcases List.mem_append.mp hy with w | w
       ·exact (r1 y w).lt
       ·rw [List.mem_singleton.mp w]; exact hrx.lt
      rw [List.length_append, List.length_singleton] at hl2
      dsimp! [kd7]
      refine ⟨Nat.lt_of_le_of_lt (m := 2000) (by rw [List.length_map]; omega) (by decide), ?_⟩
      refine ih2 _ _ ⟨l ++ [p], t, F1 ++ [xr x p.2], D1 ++ [xr x p.2], _, _, _, by rw [← e, List.append_assoc]; rfl, rfl, g7.own fd, ?_, ?_, ?_, n2, List.mem_append_left _ z1, List.mem_append_left _ x1, fun y hy => ?_, fun y hy => ?_, fun y hy => ?_, fun p' hp' => ?_, ?_, rfl⟩
      ·rw [gup_ne (Ne.symm ndm), gup_ne (Ne.symm nqm)]; exact k6
      ·rw [gup_ne nqd]; exact gup_same
      ·rw [gup_same, List.map_append]; rfl
      ·rcases List.mem_append.mp hy with w | w
       ·exact r1 y w
       ·rw [List.mem_singleton.mp w]; exact hrx
      ·rcases List.mem_append.mp hy with w | w
       ·exact List.mem_append_left _ (s1 y w)
       ·exact List.mem_append_right _ w
      ·rcases List.mem_append.mp hy with w | w
       ·rcases c1 y w with v | v | v
        ·exact .inl (List.mem_append_left _ v)
        ·exact .inr (.inl v)
        ·exact .inr (.inr fun p' hp' => List.mem_append_left _ (v p' hp'))
       ·exact .inl (List.mem_append_right _ w)
      ·rcases List.mem_append.mp hp' with w | w
       ·exact List.mem_append_left _ (m1 p' w)
       ·rw [List.mem_singleton.mp w]; exact List.mem_append_right _ (by simp)
      ·rw [List.length_append, List.length_append, List.length_singleton]; omega
theorem ok_law_sizes {n : Nat} (G_law_draw : Ok P w mg base n T.f_law_draw (S_law_draw T)) : Ok P w mg base (n + 1) T.f_law_sizes (S_law_sizes T) := by
 refine def_ok T.f_law_sizes sc_law_sizes (fun ds G R h => ?_) (fun cdv A outer s H E hr =>
   (ss_cons (s_set 1 sc_law_sizes.nd (e_ix x_ix (e_lst (a_cons (ec T.f_law_draw T.g_law_draw G_law_draw hr (a_cons (ev 0) (a_cons e_int a_nil))) (a_cons (ec T.f_law_draw T.g_law_draw G_law_draw hr (a_cons (ev 0) (a_cons e_int a_nil))) a_nil))) (ec T.f_law_draw T.g_law_draw G_law_draw hr (a_cons (ev 0) (a_cons e_int a_nil)))))
   (ss_cons (s_set 2 sc_law_sizes.nd (e_lst (a_cons (e_bin x_sub (e_bin x_shl e_int (ev 1)) e_int) (a_cons (e_bin x_shl e_int (ev 1)) (a_cons (e_bin x_div (e_bin x_shl e_int (ev 1)) e_int) (a_cons (e_bin x_add (e_bin x_div (e_bin x_shl e_int (ev 1)) e_int) e_int) (a_cons (e_bin x_add e_int (ec T.f_law_draw T.g_law_draw G_law_draw hr (a_cons (ev 0) (a_cons e_int a_nil)))) (a_cons (e_bin x_add e_int (ec T.f_law_draw T.g_law_draw G_law_draw hr (a_cons (ev 0) (a_cons e_int a_nil)))) a_nil))))))))
   (ss_one (s_ret (e_tup (a_cons (e_callB x_max2 rfl T.b_max (by decide +kernel) (a_cons e_int (a_cons (e_callB x_min2 rfl T.b_min (by decide +kernel) (a_cons e_int (a_cons (e_ix x_ix (ev 2) (ec T.f_law_draw T.g_law_draw G_law_draw hr (a_cons (ev 0) (a_cons e_int a_nil)))) a_nil))) a_nil))) (a_cons (ev 1) a_nil)))))))) (fun ds G R h => ?_)
 ·obtain ⟨s, a, rfl, _⟩ := h; rfl
 ·obtain ⟨st, a, rfl, hS, post⟩ := h
  simp! [id]
  refine c_draw T hS (by decide) (by decide) fun x G1 A1 x0 x1 => ?_
  simp! [id]
  refine c_draw T A1.at_ (by decide) (by decide) fun y G2 A2 y0 y1 => ?_
  simp! [id]
  refine ⟨by decide, fun p hp => ?_⟩
  have B3 := (A1.trans A2).new (o := .lst [.int x, .int y]) hp
  refine c_draw T B3.at_ (by decide) (by decide) fun t G4 A4 t0 t1 => ?_
  have hp4 : G4 p = some (.lst [.int x, .int y]) := A4.kp _ _ (A2.at_.ne hp).1 (A2.at_.ne hp).2 gup_same
  obtain ⟨s', hs, es⟩ : ∃ s' : Nat, s' ≤ 8 ∧ (if t = 0 then x else y) = (s' : Int) := by
   split
   ·exact ⟨x.toNat, by omega, by omega⟩
   ·exact ⟨y.toNat, by omega, by omega⟩
  have cp : CPow 1 (s' : Int) := cpow_1 (by omega) (by omega)
  have cd : CDivL (1 * 2 ^ s') 2 := ⟨by omega, by omega⟩
  simp! [hp4, at2 t0 t1, es]
  dsimp! [cp, cd]
  refine c_draw T A4.at_ (by decide) (by decide) fun u G5 A5 u0 u1 => ?_
  simp! [id]
  refine c_draw T A5.at_ (by decide) (by decide) fun v G6 A6 v0 v1 => ?_
  simp! [id]
  refine ⟨by decide, fun p7 hp7 => ?_⟩
  obtain ⟨LL, hLL⟩ : ∃ LL : List Int, LL = [1 * 2 ^ s' - 1, 1 * 2 ^ s', 1 * 2 ^ s' / 2, 1 * 2 ^ s' / 2 + 1, 1 + u, 1 + v] := ⟨_, rfl⟩
  have eLL : ([D.int (1 * 2 ^ s' - 1), D.int (1 * 2 ^ s'), D.int (1 * 2 ^ s' / 2), D.int (1 * 2 ^ s' / 2 + 1), D.int (1 + u), D.int (1 + v)] : List D) = LL.map D.int := by rw [hLL]; rfl
  rw [eLL]
  have B7 := ((B3.trans A4).trans (A5.trans A6)).new (o := .lst (LL.map .int)) hp7
  have n7 := A6.at_.ne hp7
  dsimp! [id]
  refine c_draw T B7.at_ (by decide) (by decide) fun w G8 A8 w0 w1 => ?_
  have k8 := A8.kp _ _ n7.1 n7.2 gup_same
  obtain ⟨y', hy', hat⟩ : ∃ y' : Int, y' ∈ LL ∧ atI (LL.map D.int) w = some (.int y') := by
   obtain ⟨d, hd, he⟩ := at_getD (xs := LL.map D.int) w0 (by rw [List.length_map, hLL]; exact w1)
   obtain ⟨y', hy, rfl⟩ := List.mem_map.mp hd
   exact ⟨y', hy, he⟩
  simp! [k8, hat]
  obtain ⟨nn, hnn, nn1, nn8⟩ : ∃ nn : Nat, (if (if y' < 8 then y' else 8) > 1 then (if y' < 8 then y' else 8) else 1) = (nn : Int) ∧ 1 ≤ nn ∧ nn ≤ 8 := by
   by_cases h8 : y' < 8
   ·rw [if_pos h8]
    by_cases h1 : y' > 1
    ·rw [if_pos h1]; exact ⟨y'.toNat, by omega, by omega, by omega⟩
    ·rw [if_neg h1]; exact ⟨1, rfl, by omega, by omega⟩
   ·rw [if_neg h8, if_pos (by decide)]; exact ⟨8, rfl, by omega, by omega⟩
  rw [hnn]
  exact ⟨by decide, post nn s' G8 (B7.trans A8) nn1 nn8 hs⟩
theorem ok_law_walked {n : Nat} (G_law_moves : Ok P w mg base n T.f_law_moves (S_law_moves T)) : Ok P w mg base (n + 1) T.f_law_walked (S_law_walked T) := by
 refine def_ok T.f_law_walked sc_law_walked (fun ds G R h => ?_) (fun cdv A outer s H E hr =>
   (ss_cons (s_set 3 sc_law_walked.nd e_int)
   (ss_cons (s_set 4 sc_law_walked.nd e_int)
   (ss_cons (s_set 5 sc_law_walked.nd (e_lst a_nil))
   (ss_cons (s_for (i_any (ev 0)) (j_name 6 sc_law_walked.nd) (ss_one (s_if (t_cmp (x_eqSh hr) (ev 6) (e_tup (a_cons e_str a_nil)) (nomark _)) (ss_one (s_expr (e_append (ev 5) (a_cons (e_bin x_and (e_bin x_shr (ev 3) (e_bin x_sub (e_callB x_len rfl T.b_len (by decide +kernel) (a_cons (ev 1) a_nil)) e_int)) e_int) a_nil)))) (ss_one (s_if (t_cmp (x_notInP hr) (ev 6) (ec T.f_law_moves T.g_law_moves G_law_moves hr (a_cons (ev 3) (a_cons (e_callB x_len rfl T.b_len (by decide +kernel) (a_cons (ev 1) a_nil)) (a_cons (ev 2) a_nil)))) (by with_unfolding_all rfl)) (ss_one (s_ret e_non)) (ss_cons (s_set 3 sc_law_walked.nd (e_bin x_xor (ev 3) (e_bin x_shl e_int (e_bin x_sub (e_ix x_ix (ev 6) e_int) e_int))))
   (ss_one (s_set 4 sc_law_walked.nd (e_bin x_add (ev 4) (e_ix x_ix (ev 1) (e_bin x_sub (e_ix x_ix (ev 6) e_int) e_int)))))))))))
   (ss_one (s_ret (e_tup (a_cons (ev 3) (a_cons (ev 4) (a_cons (ev 5) a_nil))))))))))) (fun ds G R h => ?_)
 ·obtain ⟨a, c, P, pl, s, left, rfl, _⟩ := h; rfl
 ·obtain ⟨a, c, P, pl, s', left, rfl, ha, hc, hP, h1, h8, hl, post⟩ := h
  obtain ⟨hck, hsh, hfi⟩ := hP.ckp
  simp! [id]
  dsimp! [id]
  dsimp! [id]
  refine ⟨by decide, fun q hq => ?_⟩
  have naq : a ≠ q := gne ha hq
  have ncq : c ≠ q := gne hc hq
  have ha1 : ∀ {o : DO}, gup G q o a = some (.lst (P.map pmD)) := fun {o} => by rw [gup_ne naq]; exact ha
  dsimp! [ha1]
  generalize hN : Go (dRet _ _) = N
  refine forL_ind (fun r σ G' => ∃ (l t : List Pm) (v6 : Option D), l ++ t = P ∧ r = t.map pmD ∧ Grow G G' ∧ G' q = some (.lst (if shw false l then [.int 1] else [])) ∧ σ = [some (.ref a), some (.ref c), some (.int (s' : Int)), some (.int (finp 0 l : Int)), some (.int (wkp (cf pl) l)), some (.ref q), v6]) ⟨[], P, none, rfl, rfl, Grow.refl.new hq, gup_same, rfl⟩ ?_ ?_
  ·rintro σ G1 ⟨l, t, v6, e, e2, g1, k1, rfl⟩
   have ht : t = [] := by simpa using e2.symm
   subst ht
   rw [List.append_nil] at e
   subst e
   refine ⟨by rw [g1.kp _ _ ha]; rfl, ?_⟩
   rw [← hN]
   dsimp! [id]
   refine ⟨by decide, ?_⟩
   have := post q G1 hq (by rw [k1, hsh]; cases left <;> rfl) g1
   rw [hfi]
   cases left with
   | true => exact this
   | false => exact this
  ·rintro z r σ G1 ⟨l, t, v6, e, e2, g1, k1, rfl⟩ ih
   cases t with
   | nil => cases e2
   | cons p t =>
    cases e2
    refine ⟨by rw [g1.kp _ _ ha]; rfl, ?_⟩
    have hck2 : ckp pl.length s' 0 false (l ++ p :: t) := by rw [e]; exact hck
    obtain ⟨hcl, o1⟩ := ckp_app.mp hck2
    have hlt := ckp_lt (Nat.two_pow_pos pl.length) hcl
    have hc1 := g1.kp _ _ hc
    simp! [id]
    refine ⟨by decide, p, rfl, rfl, ?_⟩
    cases p with
    | none =>
     obtain ⟨⟨o2, o3⟩, _⟩ := o1
     rw [decide_eq_true rfl]
     rw [o3] at k1
     have eN : ((pl.length : Nat) : Int) - 1 = ((pl.length - 1 : Nat) : Int) := by omega
     have eb : Builtin.bitAnd ((finp 0 l : Int) / 2 ^ (pl.length - 1)) 1 = 1 := (shr_bit _ _).mpr o2
     simp! [hc1, k1, List.length_map, eN, eb]
     have ef : finp 0 (l ++ [none]) = finp 0 l := by rw [finp_app]; rfl
     have ew : wkp (cf pl) (l ++ [none]) = wkp (cf pl) l := by rw [wkp_app]; show wkp (cf pl) l + 0 = _; omega
     have es : shw false (l ++ [none]) = true := by rw [shw_app]; rfl
     exact ⟨by omega, by decide, ih _ _ ⟨l ++ [none], t, some (pmD none), by rw [← e, List.append_assoc]; rfl, rfl, g1.own hq, by rw [gup_same, es]; rfl, by rw [ef, ew]⟩⟩
    | some p =>
     obtain ⟨o1, _⟩ := o1
     rw [decide_eq_false (by simp)]
     simp! [hc1, List.length_map]
     refine c_moves T (m := finp 0 l) (by omega) fun qm ps G2 f2 k2 hps hpl g2 => ?_
     have hp := o1.1
     refine ⟨mP p, ps.map mP, qm, rfl, rfl, by rw [k2]; show some _ = _; rw [mD_map], ?_⟩
     have hin : mP p ∈ ps.map mP := mP_mem.mpr ((hps p).mpr o1)
     rw [decide_eq_true hin]
     have hc2 := g2.kp _ _ hc1
     have k12 := g2.kp _ _ k1
     have e1 : (p.2 : Int) - 1 = ((p.2 - 1 : Nat) : Int) := by omega
     have cp : CPow 1 ((p.2 - 1 : Nat) : Int) := cpow_1 (by omega) (by omega)
     have ex : Builtin.bitXor (finp 0 l : Int) (1 * 2 ^ (p.2 - 1)) = ((xr (finp 0 l) p.2 : Nat) : Int) := xor_int _ (p.2 - 1)
     have hat : atI (pl.map D.int) ((p.2 - 1 : Nat) : Int) = some (.int (cf pl (p.2 - 1))) := by
      refine atI_nat ?_
      rw [List.getElem?_map, List.getElem?_eq_getElem (by omega), cf_at (by omega)]
      rfl
     simp! [pmD, mD, pD, mP, e1, cp, ex]
     dsimp! [hc2, e1, hat]
     have ef : finp 0 (l ++ [some p]) = xr (finp 0 l) p.2 := by rw [finp_app]; rfl
     have ew : wkp (cf pl) (l ++ [some p]) = wkp (cf pl) l + cf pl (p.2 - 1) := by rw [wkp_app]; show wkp (cf pl) l + (cf pl (p.2 - 1) + 0) = _; omega
     have es : shw false (l ++ [some p]) = shw false l := by rw [shw_app]; rfl
     exact ih _ _ ⟨l ++ [some p], t, some (pmD (some p)), by rw [← e, List.append_assoc]; rfl, rfl, g1.trans g2, by rw [k12, es], by rw [ef, ew]; rfl⟩
theorem ok_law_told {n : Nat} (G_checked : Ok P w mg base n T.f_checked (S_checked T)) (G_law_walked : Ok P w mg base n T.f_law_walked (S_law_walked T)) : Ok P w mg base (n + 1) T.f_law_told (S_law_told T) := by
 refine def_ok T.f_law_told sc_law_told (fun ds G R h => ?_) (fun cdv A outer s H E hr =>
   (ss_cons (s_if (t_cmp (x_is2) (ev 4) e_non (nomark _)) (ss_one (s_ret (e_cmp (x_is2) (ev 0) e_non (nomark _)))) ss_nil)
   (ss_cons (s_if (t_w (w_or (t_not (t_val (e_callB x_isinst rfl T.b_isinstance (by decide +kernel) (a_cons (ev 0) (a_cons (e_type (T := "list") T.b_list (by decide +kernel)) a_nil))))) (w_or1 (t_cmp (x_ne hr) (ec T.f_checked T.g_checked G_checked hr (a_cons (ev 0) (a_cons (e_callB x_len rfl T.b_len (by decide +kernel) (a_cons (ev 2) a_nil)) (a_cons (ev 3) a_nil)))) (ev 1) (nomark _))))) (ss_one (s_ret e_bl)) ss_nil)
   (ss_one (s_ret (e_cmp (x_eq hr) (ec T.f_law_walked T.g_law_walked G_law_walked hr (a_cons (ev 0) (a_cons (ev 2) (a_cons (ev 3) a_nil)))) (ev 4) (nomark _))))))) (fun ds G R h => ?_)
 ·obtain ⟨c, pl, s, left, d, due, rfl, _⟩ := h; rfl
 ·obtain ⟨c, pl, s', left, d, due, rfl, hc, h1, h8, hd, post⟩ := h
  rcases hd with ⟨rfl, rfl⟩ | ⟨q, e, P, rfl, kq, hP, hl, rfl, ke⟩
  ·(simp! [id]; repeat (simp only [Go]; simp! [id]))
   exact post _ Grow.refl
  ·simp! [id]
   dsimp! [kq, hc, List.length_map]
   refine ⟨by decide, ?_⟩
   rw [if_neg (by decide)]
   refine c_checked T kq hP h1 (by omega) hl ?_
   simp! [id]
   dsimp! [id]
   refine call_nd (post := fun d G' => ∃ q', d = .tup [.int (if left then ((2 ^ (pl.length - 1) : Nat) : Int) else 0), .int (wkp (cf pl) P), .ref q'] ∧ G q' = none ∧ G' q' = some (.lst (if left then [] else [.int 1])) ∧ Grow G G') (fun R h => ⟨q, c, P, pl, s', left, rfl, kq, hc, hP, h1, h8, hl, fun q' G' x y z => h _ _ ⟨q', rfl, x, y, z⟩⟩) ?_
   rintro d' G1 ⟨q', rfl, f1, k1, g1⟩
   have e0 : (if left = true then ([] : List D) else [.int 1]) = (if left = true then ([] : List Int) else [1]).map D.int := by cases left <;> rfl
   refine cmp_o3 (ks := if left = true then [] else [1]) (by rw [k1]; show some _ = _; rw [e0]) (by rw [g1.kp _ _ ke]; show some _ = _; rw [e0]) ?_
   exact post _ g1
theorem ok_law {n : Nat} (G_alone : Ok P w mg base n T.f_alone (S_alone T)) (G_reached : Ok P w mg base n T.f_reached (S_reached T)) (G_reach : Ok P w mg base n T.f_reach (S_reach T)) (G_alone_reach : Ok P w mg base n T.f_alone_reach (S_alone_reach T)) (G_left_plan : Ok P w mg base n T.f_left_plan (S_left_plan T)) (G_shown_plan : Ok P w mg base n T.f_shown_plan (S_shown_plan T)) (G_law_source : Ok P w mg base n T.f_law_source (S_law_source T)) (G_law_costs : Ok P w mg base n T.f_law_costs (S_law_costs T)) (G_law_grown : Ok P w mg base n T.f_law_grown (S_law_grown T)) (G_law_sizes : Ok P w mg base n T.f_law_sizes (S_law_sizes T)) (G_law_told : Ok P w mg base n T.f_law_told (S_law_told T)) : Ok P w mg base (n + 1) T.f_law (S_law T) := by
 refine def_ok T.f_law sc_law (fun ds G R h => ?_) (fun cdv A outer s H E hr =>
   (ss_cons (s_set 1 sc_law.nd (ec T.f_law_source T.g_law_source G_law_source hr (a_cons (ev 0) a_nil)))
   (ss_cons (s_asg (ec T.f_law_sizes T.g_law_sizes G_law_sizes hr (a_cons (ev 1) a_nil)) (j_seq (n := 2) rfl (js_cons (j_name 2 sc_law.nd) (js_cons (j_name 3 sc_law.nd) js_nil))))
   (ss_cons (s_set 4 sc_law.nd (ec T.f_law_costs T.g_law_costs G_law_costs hr (a_cons (ev 1) (a_cons (ev 2) a_nil))))
   (ss_cons (s_set 5 sc_law.nd (ec T.f_law_grown T.g_law_grown G_law_grown hr (a_cons (ev 2) (a_cons (ev 3) a_nil))))
   (ss_cons (s_set 6 sc_law.nd (e_bin x_shl e_int (e_bin x_sub (ev 2) e_int)))
   (ss_cons (s_setC 7 sc_law.nd (N' := ["_law_marks", "_law_last"]) (ix := [none, some 6]) (blk (osc := defScope s_law) (N := ["_law_script", "_law_source_here", "_law_n", "_law_s", "_law_prices", "_law_sets", "_law_last", "_law_have", "_law_much", "_law_left", "_law_shown_due", "_law_left_due"]) rfl rfl (by decide +kernel)) (i_dictK (ev 5)) (fun _ _ _ _ => (j_name 0 (show (["_law_marks", "_law_last"] : List Str).Nodup by decide +kernel))) (fun _ _ _ _ => (ifs_one (t_cmp (x_gt) (e_bin x_and (ev 0) (ev 1)) e_int (nomark _)))) (fun _ _ _ _ => (ev 0)))
   (ss_cons (s_if (t_w (w_or (t_cmp (x_ne hr) (e_cmp (x_ne hr) (ev 7) (e_lst a_nil) (nomark _)) (e_cmp (x_le) (ev 2) (e_bin x_sub (e_bin x_shl e_int (ev 3)) e_int) (nomark _)) (nomark _)) (w_or1 (t_cmp (x_ne hr) (e_cmp (x_inK2 hr) (ev 6) (ev 5) (by with_unfolding_all rfl)) (e_cmp (x_le) (ev 2) (e_bin x_div (e_bin x_shl e_int (ev 3)) e_int) (nomark _)) (nomark _))))) (ss_one (s_ret e_bl)) ss_nil)
   (ss_cons (s_if (t_cmp (x_ne hr) (e_lst (a_cons (ec T.f_reach T.g_reach G_reach hr (a_cons (ev 3) a_nil)) (a_cons (ec T.f_alone_reach T.g_alone_reach G_alone_reach hr (a_cons (ev 3) a_nil)) a_nil))) (e_lst (a_cons (e_bin x_sub (e_bin x_shl e_int (ev 3)) e_int) (a_cons (e_bin x_div (e_bin x_shl e_int (ev 3)) e_int) a_nil))) (nomark _)) (ss_one (s_ret e_bl)) ss_nil)
   (ss_cons (s_set 8 sc_law.nd (ec T.f_reached T.g_reached G_reached hr (a_cons (e_callTy x_toList rfl T.b_list (by decide +kernel) (a_cons (ev 4) a_nil)) (a_cons (ev 3) a_nil))))
   (ss_cons (s_set 9 sc_law.nd (ec T.f_alone T.g_alone G_alone hr (a_cons (e_callTy x_toList rfl T.b_list (by decide +kernel) (a_cons (ev 4) a_nil)) (a_cons (ev 3) a_nil))))
   (ss_cons (s_if (t_w (w_or (t_cmp (x_ne hr) (e_cmp (x_is2) (ev 8) e_non (nomark _)) (e_cmp (x_eq hr) (ev 7) (e_lst a_nil) (nomark _)) (nomark _)) (w_or1 (t_cmp (x_ne hr) (e_cmp (x_is2) (ev 9) e_non (nomark _)) (e_cmp (x_notInK2 hr) (ev 6) (ev 5) (by with_unfolding_all rfl)) (nomark _))))) (ss_one (s_ret e_bl)) ss_nil)
   (ss_cons (s_set 10 sc_law.nd e_non)
   (ss_cons (s_if (t_cmp (x_isNot2) (ev 8) e_non (nomark _)) (ss_one (s_set 10 sc_law.nd (e_tup (a_cons e_int (a_cons (e_bin x_mul e_int (ev 8)) (a_cons (e_lst (a_cons e_int a_nil)) a_nil)))))) ss_nil)
   (ss_cons (s_set 11 sc_law.nd e_non)
   (ss_cons (s_if (t_cmp (x_isNot2) (ev 9) e_non (nomark _)) (ss_one (s_set 11 sc_law.nd (e_tup (a_cons (ev 6) (a_cons (ev 9) (a_cons (e_lst a_nil) a_nil)))))) ss_nil)
   (ss_cons (s_if (t_not (t_val (ec T.f_law_told T.g_law_told G_law_told hr (a_cons (ec T.f_shown_plan T.g_shown_plan G_shown_plan hr (a_cons (e_callTy x_toList rfl T.b_list (by decide +kernel) (a_cons (ev 4) a_nil)) (a_cons (ev 3) a_nil))) (a_cons e_str (a_cons (ev 4) (a_cons (ev 3) (a_cons (ev 10) a_nil)))))))) (ss_one (s_ret e_bl)) ss_nil)
   (ss_one (s_ret (ec T.f_law_told T.g_law_told G_law_told hr (a_cons (ec T.f_left_plan T.g_left_plan G_left_plan hr (a_cons (e_callTy x_toList rfl T.b_list (by decide +kernel) (a_cons (ev 4) a_nil)) (a_cons (ev 3) a_nil))) (a_cons e_str (a_cons (ev 4) (a_cons (ev 3) (a_cons (ev 11) a_nil))))))))))))))))))))))))) (fun ds G R h => ?_)
 ·obtain ⟨a, ns, rfl, _⟩ := h; rfl
 ·obtain ⟨a, ns, rfl, ha, hns, post⟩ := h
  simp! [id]
  refine call_nd (post := fun d G' => ∃ q l, d = .ref q ∧ Src G' q l) (fun R h => ⟨a, ns, rfl, ha, fun q l G' x => h _ _ ⟨q, l, rfl, x⟩⟩) ?_
  rintro d G1 ⟨st, ad, rfl, S1⟩
  simp! [id]
  dsimp! [id]
  refine call_nd (post := fun d G' => ∃ n s : Nat, d = .tup [.int (n : Int), .int (s : Int)] ∧ Ady st ad G1 G' ∧ 1 ≤ n ∧ n ≤ 8 ∧ s ≤ 8) (fun R h => ⟨st, ad, rfl, S1, fun n s G' x1 x2 x3 x4 => h _ _ ⟨n, s, rfl, x1, x2, x3, x4⟩⟩) ?_
  rintro d G2 ⟨n', s', rfl, a2, n1, n8, s8⟩
  simp! [id]
  dsimp! [id]
  refine call_nd (post := fun d G' => ∃ (c : Addr) (pl : List Int), d = .ref c ∧ Ady st ad G2 G' ∧ G' c = some (.lst (pl.map .int)) ∧ pl.length = n' ∧ (∀ x ∈ pl, 1 ≤ x ∧ x ≤ 1000000000)) (fun R h => ⟨st, ad, n', rfl, a2.at_, n8, fun q pl G' x1 _ _ x2 x3 x4 => h _ _ ⟨q, pl, rfl, x1, x2, x3, x4⟩⟩) ?_
  rintro d G3 ⟨c, pl, rfl, a3, kc, hpl, hpos⟩
  subst hpl
  simp! [id]
  dsimp! [id]
  refine call_nd (post := fun d G' => ∃ (fq : Addr) (F : List Nat), d = .ref fq ∧ G3 fq = none ∧ G' fq = some (.dic (fdD F)) ∧ (∀ x, x ∈ F ↔ RS pl.length s' x) ∧ F.length ≤ 256 ∧ Grow G3 G') (fun R h => ⟨pl.length, s', rfl, n1, n8, fun q F G' x1 x2 x3 x4 x5 => h _ _ ⟨q, F, rfl, x1, x2, x3, x4, x5⟩⟩) ?_
  rintro d G4 ⟨fq, F, rfl, ff, kf, hF, hF2, g4⟩
  have kc4 := g4.kp _ _ kc
  have ncf : c ≠ fq := gne kc ff
  have eN : ((pl.length : Nat) : Int) - 1 = ((pl.length - 1 : Nat) : Int) := by omega
  have cp : CPow 1 ((pl.length - 1 : Nat) : Int) := cpow_1 (by omega) (by omega)
  have eL : (1 * 2 ^ (pl.length - 1) : Int) = ((2 ^ (pl.length - 1) : Nat) : Int) := by simp
  simp! [id]
  dsimp! [eN, cp, eL]
  dsimp! [wDictK]
  refine ⟨fq, fdD F, rfl, kf, fun hv hhv => ?_⟩
  have nfh : fq ≠ hv := gne gup_same hhv
  have nch : c ≠ hv := gne (show gup G4 fq (.frd (fdD F)) c = some (.lst (pl.map .int)) by rw [gup_ne ncf]; exact kc4) hhv
  have eks : (fdD F).map (fun kv => kD kv.1) = F.map nD := by unfold fdD; rw [List.map_map]; rfl
  have hgt : ∀ x : Nat, (Builtin.bitAnd (x : Int) ((2 ^ (pl.length - 1) : Nat) : Int) > 0) ↔ x.testBit (pl.length - 1) = true := fun x => by
   have := and_pow x (pl.length - 1)
   rw [eL] at this
   rw [and_nat] at this ⊢
   cases hb : x.testBit (pl.length - 1) with
   | true => rw [hb] at this; simp at this ⊢; omega
   | false => rw [hb] at this; simp at this ⊢; omega
  rw [eks]
  refine compL_ind (fun r σ G' => ∃ (x1 x2 : List Nat) (v : Option D), x1 ++ x2 = F ∧ r = x2.map nD ∧ G' = gup (gup G4 fq (.frd (fdD F))) hv (.lst ((x1.filter fun x => x.testBit (pl.length - 1)).map nD)) ∧ σ = [v, some (.int ((2 ^ (pl.length - 1) : Nat) : Int))]) ⟨[], F, none, rfl, rfl, rfl, rfl⟩ ?_ ?_
  ·rintro σ G5 ⟨x1, x2, v, e, e2, rfl, rfl⟩
   have ht : x2 = [] := by simpa using e2.symm
   subst ht
   rw [List.append_nil] at e
   subst e
   refine ⟨by rw [gup_ne nfh]; exact gup_same, ?_⟩
   obtain ⟨HV, hHV⟩ : ∃ HV, HV = x1.filter fun x => x.testBit (pl.length - 1) := ⟨_, rfl⟩
   obtain ⟨G5, hG5⟩ : ∃ G5, G5 = gup (gup G4 fq (.frd (fdD x1))) hv (.lst (HV.map nD)) := ⟨_, rfl⟩
   have kf5 : G5 fq = some (.frd (fdD x1)) := by rw [hG5, gup_ne nfh]; exact gup_same
   have kh5 : G5 hv = some (.lst (HV.map nD)) := by rw [hG5]; exact gup_same
   have kc5 : G5 c = some (.lst (pl.map .int)) := by rw [hG5, gup_ne nch, gup_ne ncf]; exact kc4
   rw [← hHV, ← hG5]
   clear hG5
   dsimp! [id]
   refine ⟨by decide, fun p6 hp6 => ?_⟩
   refine cmp_ints (ks := HV.map fun x : Nat => (x : Int)) (ms := []) (by rw [gup_ne (gne kh5 hp6), kh5]; show some _ = _; rw [nD_map]) (by rw [gup_same]; rfl) ?_
   have cp2 : CPow 1 (s' : Int) := cpow_1 (by omega) (by omega)
   have cd : CDivL (1 * 2 ^ s') 2 := ⟨by omega, by omega⟩
   have eqb : ∀ (i j : Bool) (G : Gp) (q : DK), q (.bl (!decide (i = j))) G → xEqB true (.bl i) (.bl j) G q := fun i j G q h => h
   have capF : (1 * 2 ^ s' - 1 : Int) = ((cap s' false : Nat) : Int) := by
    have hp := Nat.two_pow_pos s'
    have e : (1 * 2 ^ s' : Int) = ((2 ^ s' : Nat) : Int) := by simp
    rw [e]
    cases s' with
    | zero => rfl
    | succ k => show _ = ((2 ^ (k + 1) - 1 : Nat) : Int); omega
   have capT : (1 * 2 ^ s' / 2 : Int) = ((cap s' true : Nat) : Int) := by
    have e : (1 * 2 ^ s' : Int) = ((2 ^ s' : Nat) : Int) := by simp
    rw [e]
    cases s' with
    | zero => rfl
    | succ k => show _ = ((2 ^ k : Nat) : Int); rw [Nat.pow_succ]; omega
   have hHV2 : HV = [] ↔ ¬ pl.length ≤ cap s' false := by
    rw [← reach_iff n1 (by omega), hHV, List.filter_eq_nil_iff]
    constructor
    ·rintro h ⟨m, hm, hb⟩; exact h m ((hF m).mpr hm) hb
    ·intro h m hm hb; exact h ⟨m, (hF m).mp hm, hb⟩
   have B1 : decide ((HV.map fun x : Nat => (x : Int)) = []) = !decide (pl.length ≤ cap s' false) := by
    rw [Bool.eq_iff_iff]; simp only [decide_eq_true_eq, List.map_eq_nil_iff, Bool.not_eq_true', decide_eq_false_iff_not]; exact hHV2
   have B2 : decide (2 ^ (pl.length - 1) ∈ x1) = decide (pl.length ≤ cap s' true) := by
    rw [Bool.eq_iff_iff]; simp only [decide_eq_true_eq]; rw [hF]; exact alone_iff n1 (by omega)
   have B3 : decide (((pl.length : Nat) : Int) ≤ 1 * 2 ^ s' - 1) = decide (pl.length ≤ cap s' false) := by rw [capF]; exact decide_eq_decide.mpr (by omega)
   have B4 : decide (((pl.length : Nat) : Int) ≤ 1 * 2 ^ s' / 2) = decide (pl.length ≤ cap s' true) := by rw [capT]; exact decide_eq_decide.mpr (by omega)
   have g6 : Grow G5 (gup G5 p6 (.lst [])) := Grow.refl.new hp6
   simp! [cp2, cd]
   refine eqb _ _ _ _ ?_
   rw [B1, B3, Bool.not_not, decide_eq_true rfl]
   simp! [id]
   refine ⟨.inl ((2 ^ (pl.length - 1) : Nat) : Int), fdD x1, fq, rfl, rfl, .inr (g6.kp _ _ kf5), ?_⟩
   refine eqb _ _ _ _ ?_
   rw [fd_in, B2, B4]
   rw [show (if false = true then !decide (pl.length ≤ cap s' true) else decide (pl.length ≤ cap s' true)) = decide (pl.length ≤ cap s' true) from rfl, decide_eq_true rfl]
   simp! [id]
   dsimp! [id]
   refine c_reach T (by omega) ?_
   simp! [id]
   refine c_areach T (by omega) ?_
   simp! [cp2, cd]
   refine ⟨by decide, fun p7 hp7 => ⟨by decide, fun p8 hp8 => ?_⟩⟩
   have n78 : p7 ≠ p8 := gne gup_same hp8
   refine cmp_ints (ks := [((cap s' false : Nat) : Int), ((cap s' true : Nat) : Int)]) (ms := [1 * 2 ^ s' - 1, 1 * 2 ^ s' / 2]) (by rw [gup_ne n78, gup_same]; rfl) (by rw [gup_same]; rfl) ?_
   rw [capF, capT, decide_eq_true rfl]
   have g8 : Grow G5 (gup (gup (gup G5 p6 (.lst [])) p7 (.lst [.int ((cap s' false : Nat) : Int), .int ((cap s' true : Nat) : Int)])) p8 (.lst [.int ((cap s' false : Nat) : Int), .int ((cap s' true : Nat) : Int)])) := (g6.new hp7).new (by rw [capF, capT] at *; exact hp8)
   obtain ⟨G8, hG8⟩ : ∃ G8, G8 = gup (gup (gup G5 p6 (.lst [])) p7 (.lst [.int ((cap s' false : Nat) : Int), .int ((cap s' true : Nat) : Int)])) p8 (.lst [.int ((cap s' false : Nat) : Int), .int ((cap s' true : Nat) : Int)]) := ⟨_, rfl⟩
   rw [← hG8] at g8 ⊢
   clear hG8
   have kc8 := g8.kp _ _ kc5
   have kf8 := g8.kp _ _ kf5
   have kh8 := g8.kp _ _ kh5
   simp! [id]
   dsimp! [kc8]
   intro l9 hl9
   have g9 : Grow G8 (gup G8 l9 (.lst (pl.map D.int))) := Grow.refl.new hl9
   refine c_reached T gup_same n1 (by omega) s8 fun xm G10 hxm g10 => ?_
   have g810 := g9.trans g10
   simp! [id]
   dsimp! [g810.kp _ _ kc8]
   intro l11 hl11
   have g11 : Grow G10 (gup G10 l11 (.lst (pl.map D.int))) := Grow.refl.new hl11
   refine c_alone T gup_same n1 (by omega) s8 fun xa G12 hxa g12 => ?_
   have g812 := g810.trans (g11.trans g12)
   have kc12 := g812.kp _ _ kc8
   have kf12 := g812.kp _ _ kf8
   have kh12 := g812.kp _ _ kh8
   clear g9 g10 g11 g12 g810
   simp! [id]
   dsimp! [id]
   generalize hN5 : Go (dSeq (dAsg (dC D.non) (jName 10)) _ _) = N5
   have rest : ∀ (G' : Gp), Grow G12 G' → AnsA pl s' xa → N5 [some (.ref a), some (.ref st), some (.int (pl.length : Int)), some (.int (s' : Int)), some (.ref c), some (.ref fq), some (.int ((2 ^ (pl.length - 1) : Nat) : Int)), some (.ref hv), some (oD xm), some (oD xa), none, none] G' := by
    intro G13 g13 hxa
    rw [← hN5]
    have kc13 := g13.kp _ _ kc12
    have cm : ∀ W : Int, CMul 2 W := fun W => cmul_l (by decide) (by decide)
    dsimp! [id]
    dsimp! [id]
    generalize hN6 : Go (dSeq (dAsg (dC D.non) (jName 11)) _ _) = N6
    have rest2 : ∀ (due : D) (G' : Gp), Grow G13 G' → ((due = .non ∧ ¬ pl.length ≤ cap s' false) ∨ ∃ (W : Int) (e : Addr), due = .tup [.int 0, .int (2 * W), .ref e] ∧ G' e = some (.lst [.int 1]) ∧ LeastR (cf pl) pl.length s' 0 W) → N6 [some (.ref a), some (.ref st), some (.int (pl.length : Int)), some (.int (s' : Int)), some (.ref c), some (.ref fq), some (.int ((2 ^ (pl.length - 1) : Nat) : Int)), some (.ref hv), some (oD xm), some (oD xa), some due, none] G' := by
     intro due G14 g14 hdue
     rw [← hN6]
     dsimp! [id]
     dsimp! [id]
     generalize hN7 : Go (dSeq (dIfS (dNot _) _ _) _ _) = N7
     have rest3 : ∀ (due2 : D) (G' : Gp), Grow G14 G' → ((due2 = .non ∧ ¬ pl.length ≤ cap s' true) ∨ ∃ (W : Int) (e : Addr), due2 = .tup [.int ((2 ^ (pl.length - 1) : Nat) : Int), .int W, .ref e] ∧ G' e = some (.lst []) ∧ LeastA (cf pl) s' 0 pl.length W) → N7 [some (.ref a), some (.ref st), some (.int (pl.length : Int)), some (.int (s' : Int)), some (.ref c), some (.ref fq), some (.int ((2 ^ (pl.length - 1) : Nat) : Int)), some (.ref hv), some (oD xm), some (oD xa), some due, some due2] G' := by
      intro due2 G15 g15 hdue2
      have kc15 := g15.kp _ _ (g14.kp _ _ kc13)
      rw [← hN7]
      dsimp! [kc15]
      intro l16 hl16
      have g16 : Grow G15 (gup G15 l16 (.lst (pl.map D.int))) := Grow.refl.new hl16
      refine c_splan2 T gup_same n1 (by omega) s8 fun d G17 g17 hd => ?_
      have g1517 := g16.trans g17
      have kc17 := g1517.kp _ _ kc15
      refine call_nd (post := fun d G' => d = .bl true ∧ Grow G17 G') (fun R h => ⟨c, pl, s', false, d, due, rfl, kc17, n1, n8, ?_, fun G' x => h _ _ ⟨rfl, x⟩⟩) ?_
      ·rcases hdue with ⟨rfl, hno⟩ | ⟨W, e, rfl, ke, hW⟩
       ·rcases hd with ⟨rfl, _⟩ | ⟨q', P, W', rfl, f1, k1, l1, hP, hW', ew⟩
        ·exact .inl ⟨rfl, rfl⟩
        ·exact absurd (by have := hW'.1.cap; omega) hno
       ·rcases hd with ⟨rfl, hno⟩ | ⟨q', P, W', rfl, f1, k1, l1, hP, hW', ew⟩
        ·exact absurd (by have := hW.1.cap; omega) hno
        ·have eW := hW.eq hW'
         refine .inr ⟨q', e, P, rfl, k1, hP, l1, ?_, g1517.kp _ _ (g15.kp _ _ ke)⟩
         rw [ew, ← eW, show W + W = 2 * W by omega]; rfl
      rintro _ G18 ⟨rfl, g18⟩
      have kc18 := g18.kp _ _ kc17
      simp! [id]
      dsimp! [kc18]
      intro l19 hl19
      have g19 : Grow G18 (gup G18 l19 (.lst (pl.map D.int))) := Grow.refl.new hl19
      refine c_lplan T gup_same n1 (by omega) s8 fun d2 G20 g20 hd2 => ?_
      have g1520 := (g1517.trans g18).trans (g19.trans g20)
      refine call_nd (post := fun d G' => d = .bl true ∧ Grow G20 G') (fun R h => ⟨c, pl, s', true, d2, due2, rfl, g1520.kp _ _ kc15, n1, n8, ?_, fun G' x => h _ _ ⟨rfl, x⟩⟩) ?_
      ·rcases hdue2 with ⟨rfl, hno⟩ | ⟨W, e, rfl, ke, hW⟩
       ·rcases hd2 with ⟨rfl, _⟩ | ⟨q', P, rfl, f1, k1, l1, hP, hW'⟩
        ·exact .inl ⟨rfl, rfl⟩
        ·exact absurd (by have := hW'.1.cap; omega) hno
       ·rcases hd2 with ⟨rfl, hno⟩ | ⟨q', P, rfl, f1, k1, l1, hP, hW'⟩
        ·exact absurd (by have := hW.1.cap; omega) hno
        ·refine .inr ⟨q', e, P, rfl, k1, hP, l1, ?_, g1520.kp _ _ ke⟩
         rw [hW.eq hW']; rfl
      rintro _ G21 ⟨rfl, g21⟩
      exact post _
     rcases hxa with ⟨Wa, rfl, hWa⟩ | ⟨hna, rfl⟩
     ·simp! [oD]
      refine ⟨by decide, fun p hp => ⟨by decide, rest3 _ _ (Grow.refl.new hp) (.inr ⟨Wa, p, rfl, gup_same, hWa⟩)⟩⟩
     ·simp! [oD]
      exact rest3 _ _ Grow.refl (.inl ⟨rfl, hna⟩)
    rcases hxm with ⟨Wm, rfl, hWm⟩ | ⟨hnm, rfl⟩
    ·simp! [oD, cm]
     refine ⟨by decide, fun p hp => ⟨by decide, rest2 _ _ (Grow.refl.new hp) (.inr ⟨Wm, p, rfl, gup_same, hWm⟩)⟩⟩
    ·simp! [oD]
     exact rest2 _ _ Grow.refl (.inl ⟨rfl, hnm⟩)
   have part : ∀ (b : Bool) (G' : Gp) (q : DK) (p : Addr), G12 p = none → q (.bl (!decide (pl.length ≤ cap s' false))) (gup G12 p (.lst [])) → ∃ n sd se b, n ≤ 40 ∧ snap (gup G12 p (.lst [])) n (.ref hv) = some sd ∧ snap (gup G12 p (.lst [])) n (.ref p) = some se ∧ eqN n sd se = some b ∧ q (.bl b) (gup G12 p (.lst [])) := fun b G' q p hp hq =>
    cmp_ints (Q := fun b => q (.bl b) (gup G12 p (.lst []))) (ks := HV.map fun x : Nat => (x : Int)) (ms := []) (by rw [gup_ne (gne kh12 hp), kh12]; show some _ = _; rw [nD_map]) (by rw [gup_same]; rfl) (by rw [B1]; exact hq)
   rcases hxm with ⟨Wm, rfl, hWm⟩ | ⟨hnm, rfl⟩
   ·have hnf : decide (pl.length ≤ cap s' false) = true := decide_eq_true (by have := hWm.1.cap; omega)
    simp! [oD]
    refine ⟨by decide, fun p13 hp13 => ?_⟩
    have g13 : Grow G12 (gup G12 p13 (.lst [])) := Grow.refl.new hp13
    refine part true G12 (fun x G1 => xEqB true (.bl false) x G1 _) p13 hp13 ?_
    rw [hnf]
    refine eqb _ _ _ _ ?_
    simp! [id]
    rcases hxa with ⟨Wa, rfl, hWa⟩ | ⟨hna, rfl⟩
    ·have hin : decide (pl.length ≤ cap s' true) = true := decide_eq_true (by have := hWa.1.cap; omega)
     simp! [oD]
     refine ⟨.inl ((2 ^ (pl.length - 1) : Nat) : Int), fdD x1, fq, rfl, rfl, .inr (g13.kp _ _ kf12), ?_⟩
     rw [fd_in, B2, hin]
     refine eqb _ _ _ _ ?_
     simp! [id]
     exact rest _ g13 (.inl ⟨Wa, rfl, hWa⟩)
    ·have hin : decide (pl.length ≤ cap s' true) = false := decide_eq_false hna
     simp! [oD]
     refine ⟨.inl ((2 ^ (pl.length - 1) : Nat) : Int), fdD x1, fq, rfl, rfl, .inr (g13.kp _ _ kf12), ?_⟩
     rw [fd_in, B2, hin]
     refine eqb _ _ _ _ ?_
     simp! [id]
     exact rest _ g13 (.inr ⟨hna, rfl⟩)
   ·have hnf : decide (pl.length ≤ cap s' false) = false := decide_eq_false hnm
    simp! [oD]
    refine ⟨by decide, fun p13 hp13 => ?_⟩
    have g13 : Grow G12 (gup G12 p13 (.lst [])) := Grow.refl.new hp13
    refine part true G12 (fun x G1 => xEqB true (.bl true) x G1 _) p13 hp13 ?_
    rw [hnf]
    refine eqb _ _ _ _ ?_
    simp! [id]
    rcases hxa with ⟨Wa, rfl, hWa⟩ | ⟨hna, rfl⟩
    ·have hin : decide (pl.length ≤ cap s' true) = true := decide_eq_true (by have := hWa.1.cap; omega)
     simp! [oD]
     refine ⟨.inl ((2 ^ (pl.length - 1) : Nat) : Int), fdD x1, fq, rfl, rfl, .inr (g13.kp _ _ kf12), ?_⟩
     rw [fd_in, B2, hin]
     refine eqb _ _ _ _ ?_
     simp! [id]
     exact rest _ g13 (.inl ⟨Wa, rfl, hWa⟩)
    ·have hin : decide (pl.length ≤ cap s' true) = false := decide_eq_false hna
     simp! [oD]
     refine ⟨.inl ((2 ^ (pl.length - 1) : Nat) : Int), fdD x1, fq, rfl, rfl, .inr (g13.kp _ _ kf12), ?_⟩
     rw [fd_in, B2, hin]
     refine eqb _ _ _ _ ?_
     simp! [id]
     exact rest _ g13 (.inr ⟨hna, rfl⟩)
  ·rintro z r σ G5 ⟨x1, x2, v, e, e2, rfl, rfl⟩ ih
   cases x2 with
   | nil => cases e2
   | cons x x2 =>
    cases e2
    refine ⟨by rw [gup_ne nfh]; exact gup_same, ?_⟩
    have ex : nD x = .int (x : Int) := rfl
    have hlen := congrArg List.length e
    rw [List.length_append, List.length_cons] at hlen
    have hfl := List.length_filter_le (fun x : Nat => x.testBit (pl.length - 1)) x1
    simp! [ex]
    by_cases hb : x.testBit (pl.length - 1) = true
    ·rw [if_pos (decide_eq_true ((hgt x).mpr hb))]
     refine ⟨Nat.lt_of_le_of_lt (m := 1000) (by rw [List.length_map]; omega) (by decide), ih _ _ ⟨x1 ++ [x], x2, some (nD x), by rw [← e, List.append_assoc]; rfl, rfl, ?_, rfl⟩⟩
     have ef : List.filter (fun x : Nat => x.testBit (pl.length - 1)) [x] = [x] := by simp [hb]
     rw [gup_gup, List.filter_append, List.map_append, ef]; rfl
    ·rw [if_neg (by rw [decide_eq_false fun z => hb ((hgt x).mp z)]; exact Bool.false_ne_true)]
     refine ih _ _ ⟨x1 ++ [x], x2, some (nD x), by rw [← e, List.append_assoc]; rfl, rfl, ?_, rfl⟩
     have ef : List.filter (fun x : Nat => x.testBit (pl.length - 1)) [x] = [] := by simp [hb]
     rw [List.filter_append, ef, List.append_nil]
end
end Law
namespace Law
open PySem PySem.Spec PyProof.Rows L2 L3
noncomputable def noL : PySem.W.Frag → Bool
 | [] => true
 | p :: r => (match p.2.data with | .seq _ _ => (match p.2.cls with | .type s => !(s == "list") | _ => true) | _ => true) && noL r
theorem noL_of : ∀ {K : PySem.W.Frag} {a : Addr} {o : Obj} {its : Array Value} {n : Nat}, noL K = true → K.lookup a = some o → o.cls = .type "list" → o.data = .seq its n → False
 | [], a, o, its, n, _, e, _, _ => by cases e
 | p :: r, a, o, its, n, h, e, h1, h2 => by
  unfold noL at h
  rw [Bool.and_eq_true] at h
  rw [List.lookup_cons] at e
  split at e
  ·cases e
   have q := h.1
   rw [h2] at q
   simp only [h1] at q
   exact absurd q (by decide)
  ·exact noL_of h.2 e h1 h2
theorem arZ {P : List Value → Prop} (h : P []) : ∀ us : List Value, us.length = 0 → P us := fun us e => by rw [List.eq_nil_of_length_eq_zero e]; exact h
theorem arS {n : Nat} {P : List Value → Prop} (h : ∀ (a : Value) (us : List Value), us.length = n → P (a :: us)) : ∀ us : List Value, us.length = n + 1 → P us := fun us e => by
 cases us with
 | nil => cases e
 | cons a us => exact h a us (Nat.succ.inj e)
theorem ar1 {P : List Value → Prop} (h : ∀ a0, P [a0]) : ∀ us : List Value, us.length = 1 → P us := arS fun a0 => arZ (h a0)
theorem ar2 {P : List Value → Prop} (h : ∀ a0 a1, P [a0, a1]) : ∀ us : List Value, us.length = 2 → P us := arS fun a0 => arS fun a1 => arZ (h a0 a1)
theorem ar3 {P : List Value → Prop} (h : ∀ a0 a1 a2, P [a0, a1, a2]) : ∀ us : List Value, us.length = 3 → P us := arS fun a0 => arS fun a1 => arS fun a2 => arZ (h a0 a1 a2)
theorem ar4 {P : List Value → Prop} (h : ∀ a0 a1 a2 a3, P [a0, a1, a2, a3]) : ∀ us : List Value, us.length = 4 → P us := arS fun a0 => arS fun a1 => arS fun a2 => arS fun a3 => arZ (h a0 a1 a2 a3)
theorem ar5 {P : List Value → Prop} (h : ∀ a0 a1 a2 a3 a4, P [a0, a1, a2, a3, a4]) : ∀ us : List Value, us.length = 5 → P us := arS fun a0 => arS fun a1 => arS fun a2 => arS fun a3 => arS fun a4 => arZ (h a0 a1 a2 a3 a4)
noncomputable def fnAt_mk {K : PySem.W.Frag} {x qual : Str} {st : Stmt} {ps : List Str} {f : Addr} {oc : Value} {od an : Option Addr} {osl : Array (Option Value)} {kV doc pm cdv ct : Value} (l : K.lookup f = some ⟨oc, od, .func (PySem.W.fnOf x qual (defArgs st) (defBody st) (defScope st) .none kV doc pm an cdv ct), osl⟩)
  (c : PySem.W.codeIn K cdv qual = true) (k : PySem.W.keepIn K (.ref f) = true) (hb : ∀ us : List Value, us.length = ps.length → bindArgs (PySem.W.fnOf x qual (defArgs st) (defBody st) (defScope st) .none kV doc pm an cdv ct) ⟨us, []⟩ = pure (ps.zip us)) : FnAt K x qual st ps :=
 ⟨f, _, ⟨oc, od, .none, kV, doc, pm, an, cdv, ct, osl, rfl, l, c⟩, k, .all hb⟩
def DF (K : PySem.W.Frag) (x : Str) (st : Stmt) : Prop := ∃ (p : Addr) (oc : Value) (od an : Option Addr) (sl : Array (Option Value)) (kV dc pm cd ct : Value), PySem.W.nsIn K mainGlobals x = some (some (.ref p)) ∧ K.lookup p = some ⟨oc, od, .func (PySem.W.fnOf x x (defArgs st) (defBody st) (defScope st) .none kV dc pm an cd ct), sl⟩ ∧ PySem.W.codeIn K cd x = true ∧ PySem.W.keepIn K (.ref p) = true
def DM (K : PySem.W.Frag) (C : Addr) (x q : Str) (st : Stmt) : Prop := ∃ (p : Addr) (oc : Value) (od an : Option Addr) (sl : Array (Option Value)) (kV dc pm cd ct : Value), PySem.W.findIn K (.ref C) x = some (some (.ref p)) ∧ PySem.W.isFn K (.ref p) = true ∧ K.lookup p = some ⟨oc, od, .func (PySem.W.fnOf x q (defArgs st) (defBody st) (defScope st) .none kV dc pm an cd ct), sl⟩ ∧ PySem.W.codeIn K cd q = true ∧ PySem.W.keepIn K (.ref p) = true
section
variable {K : PySem.W.Frag} {h : Heap} {mg : Str → Option Value} {C : Addr} {x q : Str} {st : Stmt} {ps : List Str}
theorem df_m {p : Addr} {oc : Value} {od an : Option Addr} {sl : Array (Option Value)} {kV dc pm cd ct : Value} (a : PySem.W.nsIn K mainGlobals x = some (some (.ref p))) (l : K.lookup p = some ⟨oc, od, .func (PySem.W.fnOf x x (defArgs st) (defBody st) (defScope st) .none kV dc pm an cd ct), sl⟩) (c : PySem.W.codeIn K cd x = true) (k : PySem.W.keepIn K (.ref p) = true) : DF K x st := ⟨p, oc, od, an, sl, kV, dc, pm, cd, ct, a, l, c, k⟩
theorem dm_m {p : Addr} {oc : Value} {od an : Option Addr} {sl : Array (Option Value)} {kV dc pm cd ct : Value} (a : PySem.W.findIn K (.ref C) x = some (some (.ref p))) (i : PySem.W.isFn K (.ref p) = true) (l : K.lookup p = some ⟨oc, od, .func (PySem.W.fnOf x q (defArgs st) (defBody st) (defScope st) .none kV dc pm an cd ct), sl⟩) (c : PySem.W.codeIn K cd q = true) (k : PySem.W.keepIn K (.ref p) = true) : DM K C x q st := ⟨p, oc, od, an, sl, kV, dc, pm, cd, ct, a, i, l, c, k⟩
theorem df_f {N : List Str} (_ : FnScope N ps (defScope st)) (X : K.In h) (G : h.Ns mainGlobals mg) (hb : ∀ kV dc pm an cd ct, ∀ us : List Value, us.length = ps.length → bindArgs (PySem.W.fnOf x x (defArgs st) (defBody st) (defScope st) .none kV dc pm an cd ct) ⟨us, []⟩ = pure (ps.zip us)) (d : DF K x st) :
  ∃ f : FnAt K x x st ps, mg x = some (.ref f.a) ∧ ∀ (s : Shared) (us : List Value), us.length = ps.length → BindsTo s f.fd ⟨us, []⟩ (ps.zip us) := by
 obtain ⟨p, oc, od, an, sl, kV, dc, pm, cd, ct, a, l, c, k⟩ := d
 exact ⟨fnAt_mk l c k (hb kV dc pm an cd ct), PySem.W.mg_of X G a, fun s us e => .of_eq (hb kV dc pm an cd ct us e)⟩
theorem dm_f {N : List Str} (_ : FnScope N ps (defScope st)) (hb : ∀ kV dc pm an cd ct, ∀ us : List Value, us.length = ps.length → bindArgs (PySem.W.fnOf x q (defArgs st) (defBody st) (defScope st) .none kV dc pm an cd ct) ⟨us, []⟩ = pure (ps.zip us)) (d : DM K C x q st) :
  ∃ f : FnAt K x q st ps, PySem.W.findIn K (.ref C) x = some (some (.ref f.a)) ∧ PySem.W.isFn K (.ref f.a) = true := by
 obtain ⟨p, oc, od, an, sl, kV, dc, pm, cd, ct, a, i, l, c, k⟩ := d
 exact ⟨fnAt_mk l c k (hb kV dc pm an cd ct), a, i⟩
end
def spLaw3 : Sp3 := fun ds G R => ∃ (a : Addr) (ns : List Int), ds = [.ref a] ∧ G a = some (.fro (ns.map .int)) ∧ ns.length ≤ 63 ∧ ∀ G', R (.bl true) G'
theorem rel_ints {K : PySem.W.Frag} {H : Hp} : ∀ ns : List Int, RelDs K H (ns.map D.int) (ns.map V.int)
 | [] => .nil
 | _ :: ns => .cons RelD.intI (rel_ints ns)
theorem law_sp {K : PySem.W.Frag} {H : Hp} {a : Addr} {ns : List Int} (hL : noL K = true) (hl : ns.length ≤ 63) (hO : Only H) (hS : SqL K H a (ns.map V.int)) : lowSp K spLaw3 [.ref a] H (fun v _ => v = .bl true) fun _ _ _ => False := by
 have ha : ∃ o, H a = some (.frz o (.lst (ns.map V.int))) := by
  rcases hS with (h | h) | ⟨o, its, n, h1, h2, _, h3, _⟩
  ·rcases hO a with z | ⟨o, xs, z⟩
   ·rw [h] at z; cases z
   ·rw [h] at z; cases z
  ·exact h
  ·exact (noL_of hL h1 h2 h3).elim
 obtain ⟨o, ha⟩ := ha
 refine ⟨[.ref a], gup (fun _ => none) a (.fro (ns.map .int)), fun d _ => d = .bl true, .cons ?_ .nil, fun b u e => ?_, ⟨a, ns, rfl, gup_same, hl, fun _ => rfl⟩, fun d G' v H' r _ _ e => ?_⟩
 ·rw [RelD]
 ·by_cases hb : b = a
  ·subst hb
   rw [gup_same] at e
   cases e
   exact ⟨o, _, ha, rel_ints ns⟩
  ·rw [gup_ne hb] at e; cases e
 ·subst e
  rw [RelD] at r
  exact r
end Law
namespace Law
open PySem PySem.Spec PyProof.Rows L2 L3 Rw
set_option maxHeartbeats 4000000
theorem txt_mk {K : PySem.W.Frag} {h : Heap} {mg : Str → Option Value} (X : K.In h) (G : h.Ns mainGlobals mg) 
  (pm_5 : DF K "checked" s_checked)
  (pm_20 : DF K "may_do" s_may_do)
  (pm_25 : DF K "set_of" s_set_of)
  (pm_27 : DF K "stands" s_stands)
  (pm_19 : DF K "many_in" s_many_in)
  (pm_4 : DF K "behind" s_behind)
  (pm_29 : DF K "turned_plan" s_turned_plan)
  (pm_28 : DF K "turned_move" s_turned_move)
  (pm_0 : DF K "alone" s_alone)
  (pm_22 : DF K "reached" s_reached)
  (pm_21 : DF K "reach" s_reach)
  (pm_2 : DF K "alone_reach" s_alone_reach)
  (pm_30 : DF K "work_at" s_work_at)
  (pm_3 : DF K "alone_table" s_alone_table)
  (pm_15 : DF K "least_alone" s_least_alone)
  (pm_1 : DF K "alone_by" s_alone_by)
  (pm_23 : DF K "reached_table" s_reached_table)
  (pm_16 : DF K "least_reached" s_least_reached)
  (pm_17 : DF K "left_plan" s_left_plan)
  (pm_26 : DF K "shown_plan" s_shown_plan)
  (pm_18 : DF K "left_way" s_left_way)
  (pm_24 : DF K "reached_way" s_reached_way)
  (pm_12 : DF K "_law_source" s_law_source)
  (pm_8 : DF K "_law_draw" s_law_draw)
  (pm_10 : DF K "_law_moves" s_law_moves)
  (pm_7 : DF K "_law_costs" s_law_costs)
  (pm_9 : DF K "_law_grown" s_law_grown)
  (pm_11 : DF K "_law_sizes" s_law_sizes)
  (pm_14 : DF K "_law_walked" s_law_walked)
  (pm_13 : DF K "_law_told" s_law_told)
  (pm_6 : DF K "law" s_law)
  (b_abs : PySem.W.nsIn K mainGlobals "abs" = some none)
  (b_enumerate : PySem.W.nsIn K mainGlobals "enumerate" = some none)
  (b_isinstance : PySem.W.nsIn K mainGlobals "isinstance" = some none)
  (b_len : PySem.W.nsIn K mainGlobals "len" = some none)
  (b_list : PySem.W.nsIn K mainGlobals "list" = some none)
  (b_max : PySem.W.nsIn K mainGlobals "max" = some none)
  (b_min : PySem.W.nsIn K mainGlobals "min" = some none)
  (b_range : PySem.W.nsIn K mainGlobals "range" = some none)
  (b_reversed : PySem.W.nsIn K mainGlobals "reversed" = some none) :
  ∃ T : Txt K mg, ∀ (s : Shared) (v : Value), BindsTo s T.f_law.fd ⟨[v], []⟩ [("_law_script", v)] := by
 obtain ⟨f_checked, g_checked, _⟩ := df_f sc_checked X G (fun _ _ _ _ _ _ => ar3 fun _ _ _ => rfl) pm_5
 obtain ⟨f_may_do, g_may_do, _⟩ := df_f sc_may_do X G (fun _ _ _ _ _ _ => ar4 fun _ _ _ _ => rfl) pm_20
 obtain ⟨f_set_of, g_set_of, _⟩ := df_f sc_set_of X G (fun _ _ _ _ _ _ => ar1 fun _ => rfl) pm_25
 obtain ⟨f_stands, g_stands, _⟩ := df_f sc_stands X G (fun _ _ _ _ _ _ => ar2 fun _ _ => rfl) pm_27
 obtain ⟨f_many_in, g_many_in, _⟩ := df_f sc_many_in X G (fun _ _ _ _ _ _ => ar1 fun _ => rfl) pm_19
 obtain ⟨f_behind, g_behind, _⟩ := df_f sc_behind X G (fun _ _ _ _ _ _ => ar2 fun _ _ => rfl) pm_4
 obtain ⟨f_turned_plan, g_turned_plan, _⟩ := df_f sc_turned_plan X G (fun _ _ _ _ _ _ => ar1 fun _ => rfl) pm_29
 obtain ⟨f_turned_move, g_turned_move, _⟩ := df_f sc_turned_move X G (fun _ _ _ _ _ _ => ar1 fun _ => rfl) pm_28
 obtain ⟨f_alone, g_alone, _⟩ := df_f sc_alone X G (fun _ _ _ _ _ _ => ar2 fun _ _ => rfl) pm_0
 obtain ⟨f_reached, g_reached, _⟩ := df_f sc_reached X G (fun _ _ _ _ _ _ => ar2 fun _ _ => rfl) pm_22
 obtain ⟨f_reach, g_reach, _⟩ := df_f sc_reach X G (fun _ _ _ _ _ _ => ar1 fun _ => rfl) pm_21
 obtain ⟨f_alone_reach, g_alone_reach, _⟩ := df_f sc_alone_reach X G (fun _ _ _ _ _ _ => ar1 fun _ => rfl) pm_2
 obtain ⟨f_work_at, g_work_at, _⟩ := df_f sc_work_at X G (fun _ _ _ _ _ _ => ar2 fun _ _ => rfl) pm_30
 obtain ⟨f_alone_table, g_alone_table, _⟩ := df_f sc_alone_table X G (fun _ _ _ _ _ _ => ar2 fun _ _ => rfl) pm_3
 obtain ⟨f_least_alone, g_least_alone, _⟩ := df_f sc_least_alone X G (fun _ _ _ _ _ _ => ar5 fun _ _ _ _ _ => rfl) pm_15
 obtain ⟨f_alone_by, g_alone_by, _⟩ := df_f sc_alone_by X G (fun _ _ _ _ _ _ => ar5 fun _ _ _ _ _ => rfl) pm_1
 obtain ⟨f_reached_table, g_reached_table, _⟩ := df_f sc_reached_table X G (fun _ _ _ _ _ _ => ar3 fun _ _ _ => rfl) pm_23
 obtain ⟨f_least_reached, g_least_reached, _⟩ := df_f sc_least_reached X G (fun _ _ _ _ _ _ => ar5 fun _ _ _ _ _ => rfl) pm_16
 obtain ⟨f_left_plan, g_left_plan, _⟩ := df_f sc_left_plan X G (fun _ _ _ _ _ _ => ar2 fun _ _ => rfl) pm_17
 obtain ⟨f_shown_plan, g_shown_plan, _⟩ := df_f sc_shown_plan X G (fun _ _ _ _ _ _ => ar2 fun _ _ => rfl) pm_26
 obtain ⟨f_left_way, g_left_way, _⟩ := df_f sc_left_way X G (fun _ _ _ _ _ _ => ar4 fun _ _ _ _ => rfl) pm_18
 obtain ⟨f_reached_way, g_reached_way, _⟩ := df_f sc_reached_way X G (fun _ _ _ _ _ _ => ar5 fun _ _ _ _ _ => rfl) pm_24
 obtain ⟨f_law_source, g_law_source, _⟩ := df_f sc_law_source X G (fun _ _ _ _ _ _ => ar1 fun _ => rfl) pm_12
 obtain ⟨f_law_draw, g_law_draw, _⟩ := df_f sc_law_draw X G (fun _ _ _ _ _ _ => ar2 fun _ _ => rfl) pm_8
 obtain ⟨f_law_moves, g_law_moves, _⟩ := df_f sc_law_moves X G (fun _ _ _ _ _ _ => ar3 fun _ _ _ => rfl) pm_10
 obtain ⟨f_law_costs, g_law_costs, _⟩ := df_f sc_law_costs X G (fun _ _ _ _ _ _ => ar2 fun _ _ => rfl) pm_7
 obtain ⟨f_law_grown, g_law_grown, _⟩ := df_f sc_law_grown X G (fun _ _ _ _ _ _ => ar2 fun _ _ => rfl) pm_9
 obtain ⟨f_law_sizes, g_law_sizes, _⟩ := df_f sc_law_sizes X G (fun _ _ _ _ _ _ => ar1 fun _ => rfl) pm_11
 obtain ⟨f_law_walked, g_law_walked, _⟩ := df_f sc_law_walked X G (fun _ _ _ _ _ _ => ar3 fun _ _ _ => rfl) pm_14
 obtain ⟨f_law_told, g_law_told, _⟩ := df_f sc_law_told X G (fun _ _ _ _ _ _ => ar5 fun _ _ _ _ _ => rfl) pm_13
 obtain ⟨f_law, g_law, b_law⟩ := df_f sc_law X G (fun _ _ _ _ _ _ => ar1 fun _ => rfl) pm_6
 exact ⟨⟨f_checked, g_checked, f_may_do, g_may_do, f_set_of, g_set_of, f_stands, g_stands, f_many_in, g_many_in, f_behind, g_behind, f_turned_plan, g_turned_plan, f_turned_move, g_turned_move, f_alone, g_alone, f_reached, g_reached, f_reach, g_reach, f_alone_reach, g_alone_reach, f_work_at, g_work_at, f_alone_table, g_alone_table, f_least_alone, g_least_alone, f_alone_by, g_alone_by, f_reached_table, g_reached_table, f_least_reached, g_least_reached, f_left_plan, g_left_plan, f_shown_plan, g_shown_plan, f_left_way, g_left_way, f_reached_way, g_reached_way, f_law_source, g_law_source, f_law_draw, g_law_draw, f_law_moves, g_law_moves, f_law_costs, g_law_costs, f_law_grown, g_law_grown, f_law_sizes, g_law_sizes, f_law_walked, g_law_walked, f_law_told, g_law_told, f_law, g_law, PySem.W.mg_none_of X G b_abs, PySem.W.mg_none_of X G b_enumerate, PySem.W.mg_none_of X G b_isinstance, PySem.W.mg_none_of X G b_len, PySem.W.mg_none_of X G b_list, PySem.W.mg_none_of X G b_max, PySem.W.mg_none_of X G b_min, PySem.W.mg_none_of X G b_range, PySem.W.mg_none_of X G b_reversed⟩, fun s v => b_law s [v] rfl⟩
theorem all_ok {P : Program} {w : World} {K : PySem.W.Frag} {mg : Str → Option Value} {base : Heap} (T : Txt K mg) : Ok P w mg base 56 T.f_law (S_law T) := by
 have H_work_at := @ok_work_at P w K mg base T 0
 have H_alone_reach := @ok_alone_reach P w K mg base T 0
 have H_alone_by := @ok_alone_by P w K mg base T 0
 have H_least_alone := @ok_least_alone P w K mg base T 1 (FnOk.mono H_alone_reach (by decide)) (FnOk.mono H_alone_by (by decide))
 have H_alone_table := @ok_alone_table P w K mg base T 2 (FnOk.mono H_alone_reach (by decide)) (FnOk.mono H_least_alone (by decide))
 have H_alone := @ok_alone P w K mg base T 3 (FnOk.mono H_work_at (by decide)) (FnOk.mono H_alone_table (by decide))
 have H_reach := @ok_reach P w K mg base T 0
 have H_least_reached := @ok_least_reached P w K mg base T 1 (FnOk.mono H_reach (by decide)) (FnOk.mono H_alone_reach (by decide))
 have H_reached_table := @ok_reached_table P w K mg base T 2 (FnOk.mono H_reach (by decide)) (FnOk.mono H_least_reached (by decide))
 have H_reached := @ok_reached P w K mg base T 3 (FnOk.mono H_work_at (by decide)) (FnOk.mono H_alone_table (by decide)) (FnOk.mono H_reached_table (by decide))
 have H_turned_move := @ok_turned_move P w K mg base T 0
 have H_turned_plan := @ok_turned_plan P w K mg base T 1 (FnOk.mono H_turned_move (by decide))
 have R_left_way : ∀ dp, Ok P w mg base (2 + dp) T.f_left_way (S_left_way_r T dp) := by
  intro dp
  induction dp with
  | zero => exact z_left_way T
  | succ dp ih => exact ok_left_way T (n := 2 + dp) (dp := dp) (FnOk.mono H_turned_plan (by omega)) ih
 have H_left_way : Ok P w mg base 28 T.f_left_way (S_left_way T) := R_left_way 26
 have H_left_plan := @ok_left_plan P w K mg base T 28 (FnOk.mono H_alone_table (by decide)) (FnOk.mono H_left_way (by decide))
 have R_reached_way : ∀ dp, Ok P w mg base (28 + dp) T.f_reached_way (S_reached_way_r T dp) := by
  intro dp
  induction dp with
  | zero => exact z_reached_way T
  | succ dp ih => exact ok_reached_way T (n := 28 + dp) (dp := dp) (FnOk.mono H_left_way (by omega)) ih
 have H_reached_way : Ok P w mg base 54 T.f_reached_way (S_reached_way T) := R_reached_way 26
 have H_shown_plan := @ok_shown_plan P w K mg base T 54 (FnOk.mono H_turned_plan (by decide)) (FnOk.mono H_alone_table (by decide)) (FnOk.mono H_reached_table (by decide)) (FnOk.mono H_reached_way (by decide))
 have H_law_source := @ok_law_source P w K mg base T 0
 have H_law_draw := @ok_law_draw P w K mg base T 0
 have H_law_costs := @ok_law_costs P w K mg base T 1 (FnOk.mono H_law_draw (by decide))
 have H_law_moves := @ok_law_moves P w K mg base T 0
 have H_law_grown := @ok_law_grown P w K mg base T 1 (FnOk.mono H_law_moves (by decide))
 have H_law_sizes := @ok_law_sizes P w K mg base T 1 (FnOk.mono H_law_draw (by decide))
 have H_set_of := @ok_set_of P w K mg base T 0
 have H_stands := @ok_stands P w K mg base T 1 (FnOk.mono H_set_of (by decide))
 have H_many_in := @ok_many_in P w K mg base T 0
 have H_may_do := @ok_may_do P w K mg base T 2 (FnOk.mono H_stands (by decide)) (FnOk.mono H_many_in (by decide))
 have H_behind := @ok_behind P w K mg base T 1 (FnOk.mono H_set_of (by decide))
 have H_checked := @ok_checked P w K mg base T 3 (FnOk.mono H_may_do (by decide)) (FnOk.mono H_set_of (by decide)) (FnOk.mono H_stands (by decide)) (FnOk.mono H_behind (by decide))
 have H_law_walked := @ok_law_walked P w K mg base T 1 (FnOk.mono H_law_moves (by decide))
 have H_law_told := @ok_law_told P w K mg base T 4 (FnOk.mono H_checked (by decide)) (FnOk.mono H_law_walked (by decide))
 have H_law := @ok_law P w K mg base T 55 (FnOk.mono H_alone (by decide)) (FnOk.mono H_reached (by decide)) (FnOk.mono H_reach (by decide)) (FnOk.mono H_alone_reach (by decide)) (FnOk.mono H_left_plan (by decide)) (FnOk.mono H_shown_plan (by decide)) (FnOk.mono H_law_source (by decide)) (FnOk.mono H_law_costs (by decide)) (FnOk.mono H_law_grown (by decide)) (FnOk.mono H_law_sizes (by decide)) (FnOk.mono H_law_told (by decide))
 exact H_law
theorem walk {l : PySem.W.OpenLaw} {q : Program} {loose : List Str} {XP : (Str → Option Value) → Heap → Prop} {YP : World → Heap → Prop} {d : DefRec} {K : Params → PySem.W.Frag} (hn : l.most = some 63) (hdf : d.params.defaults = [])
  (hY : ∀ (w : World) (h : Heap), YP w h → (K w.params).In h) (hL : ∀ w : World, noL (K w.params) = true)
  (F : ∀ (w : World) (mg : Str → Option Value) (fa : Addr) (h : Heap), (K w.params).In h → h.Ns mainGlobals mg → mg d.name = some (.ref fa) → ∃ T : Txt (K w.params) mg, ∀ (s : Shared) (v : Value), BindsTo s T.f_law.fd ⟨[v], []⟩ [("_law_script", v)]) (hdn : d.name = "law" := by rfl) :
  PySem.W.WalkO q loose XP YP l.row.toRowW d [] (fun f vs => PySem.call f vs) := by
 refine L2.walk_of (n := 63) (k := 56) (x := "_law_script") (CX := fun _ => CX0) (sp := fun w => lowSp (K w.params) spLaw3) hn (by decide) hdf ⟨rfl, by decide, by decide⟩ hY (fun w mg fa h hK hN hm => ?_) (fun w H a ns hl hO hS => law_sp (hL w) hl hO hS) fun _ _ _ _ _ z => z
 obtain ⟨T, hb⟩ := F w mg fa h hK hN hm
 rw [hdn] at hm
 have e := hm.symm.trans T.g_law
 cases e
 exact ⟨T.f_law.fd, hb, fun base _ _ => all_ok T⟩
end Law
namespace PySem.W.Fast
noncomputable def tw9329373320285003525:=0
noncomputable def tw3506524559802769202:=0
noncomputable def tw4557445329696389001:=0
noncomputable def tw2354859638391071469:=0
noncomputable def tw7393622811248745007:=0
noncomputable def tw11483310265063175535:=0
noncomputable def tw17462361606577981222:=0
noncomputable def tw9740574111292146180:=0
noncomputable def tw16412602643090963029:=0
noncomputable def tw7061910647057071906:=0
noncomputable def tw2540822778287891667:=0
noncomputable def tw9997766774766019221:=0
noncomputable def tw14232115826152854810:=0
noncomputable def tw7639775356466848739:=0
noncomputable def tw1177200573896495821:=0
noncomputable def tw928861784582327882:=0
noncomputable def tw7877305808059191233:=0
noncomputable def tw2728405570498592158:=0
noncomputable def tw11189792136088180233:=0
noncomputable def tw15750687668427704588:=0
noncomputable def tw4808047643717305677:=0
noncomputable def tw12560562587381424713:=0
noncomputable def tw6716095464740455789:=0
noncomputable def tw14536943203800214640:=0
noncomputable def tw12472287440809359687:=0
noncomputable def tw16786142195849952085:=0
noncomputable def tw486182846946044477:=0
noncomputable def tw18192139814325614814:=0
noncomputable def tw3331907997122423230:=0
noncomputable def tw9305281794175952747:=0
noncomputable def tw6791547972088878724:=0
noncomputable def tw18246861054150039603:=0
noncomputable def tw2017757006667045373:=0
noncomputable def tw16642780031176734329:=0
noncomputable def tw10595092320464024828:=0
noncomputable def tw18372525303831977555:=0
noncomputable def tw9692095065805584080:=0
noncomputable def tw363290511135647052:=0
noncomputable def tw10349301138077530572:=0
noncomputable def tw13317428292437507229:=0
noncomputable def tw11273946861894659909:=0
noncomputable def tw3988746089564015997:=0
noncomputable def tw13193020604102594421:=0
noncomputable def tw3529499060910024952:=0
noncomputable def tw1612041024495012559:=0
noncomputable def tw14239886294511941838:=0
noncomputable def tw3463082818415221616:=0
noncomputable def tw13010977420450407208:=0
noncomputable def tw3207736461362083296:=0
noncomputable def tw4588543500589820515:=0
noncomputable def tw11277010481694950627:=0
noncomputable def tw12011357194017521779:=0
noncomputable def tw15930157181023971274:=0
noncomputable def tw2787707245386120000:=0
noncomputable def tw207646783465135652:=0
noncomputable def tw18051192682149561418:=0
noncomputable def tw15727647086654619246:=0
noncomputable def tw5536169351789397033:=0
noncomputable def tw4373649554372080579:=0
noncomputable def tw3910693474297108788:=0
noncomputable def tw8362744407867977871:=0
noncomputable def tw14137568381327689655:=0
noncomputable def tw36531868534964906:=0
end PySem.W.Fast
open PySem PySem.W PyProof.Rows
local macro_rules | `(tactic| ac_rfl) => `(tactic| (refine' Law.df_m ?a ?b ?c ?d; (case a => k_is); (case b => k_is); (case c => k_is); (case d => k_is)))
local macro_rules | `(tactic| bv_omega) => `(tactic| (refine' Law.dm_m ?a ?b ?c ?d ?e; (case a => k_is); (case b => k_is); (case c => k_is); (case d => k_is); (case e => k_is)))
set_option maxHeartbeats 0 in
theorem PySem.Challenge.cw_nolitter_k74_whole_how_far_marks_reach_holds : PySem.Challenge.rw_nolitter_k74_whole_how_far_marks_reach.Holds := by
 w_on; o_law; k_head; (case hw => w_witness2)
 k_fill
 refine Law.walk (l := PySem.Challenge.rw_nolitter_k74_whole_how_far_marks_reach) rfl rfl (fun w h Y => PySem.W.kIn_of Y) ?L ?F
 case L => exact fun w => rfl
 case F =>
  intro w mg fa h KX G hmg
  refine' Law.txt_mk KX G ?pm_5 ?pm_20 ?pm_25 ?pm_27 ?pm_19 ?pm_4 ?pm_29 ?pm_28 ?pm_0 ?pm_22 ?pm_21 ?pm_2 ?pm_30 ?pm_3 ?pm_15 ?pm_1 ?pm_23 ?pm_16 ?pm_17 ?pm_26 ?pm_18 ?pm_24 ?pm_12 ?pm_8 ?pm_10 ?pm_7 ?pm_9 ?pm_11 ?pm_14 ?pm_13 ?pm_6 ?b_abs ?b_enumerate ?b_isinstance ?b_len ?b_list ?b_max ?b_min ?b_range ?b_reversed
  (case pm_5 => ac_rfl)
  (case pm_20 => ac_rfl)
  (case pm_25 => ac_rfl)
  (case pm_27 => ac_rfl)
  (case pm_19 => ac_rfl)
  (case pm_4 => ac_rfl)
  (case pm_29 => ac_rfl)
  (case pm_28 => ac_rfl)
  (case pm_0 => ac_rfl)
  (case pm_22 => ac_rfl)
  (case pm_21 => ac_rfl)
  (case pm_2 => ac_rfl)
  (case pm_30 => ac_rfl)
  (case pm_3 => ac_rfl)
  (case pm_15 => ac_rfl)
  (case pm_1 => ac_rfl)
  (case pm_23 => ac_rfl)
  (case pm_16 => ac_rfl)
  (case pm_17 => ac_rfl)
  (case pm_26 => ac_rfl)
  (case pm_18 => ac_rfl)
  (case pm_24 => ac_rfl)
  (case pm_12 => ac_rfl)
  (case pm_8 => ac_rfl)
  (case pm_10 => ac_rfl)
  (case pm_7 => ac_rfl)
  (case pm_9 => ac_rfl)
  (case pm_11 => ac_rfl)
  (case pm_14 => ac_rfl)
  (case pm_13 => ac_rfl)
  (case pm_6 => ac_rfl)
  (case b_abs => k_is)
  (case b_enumerate => k_is)
  (case b_isinstance => k_is)
  (case b_len => k_is)
  (case b_list => k_is)
  (case b_max => k_is)
  (case b_min => k_is)
  (case b_range => k_is)
  (case b_reversed => k_is)
