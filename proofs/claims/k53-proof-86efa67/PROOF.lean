import PyProof.Rows.All
import Wide.All
import OpenK.AllK
import Wide.FinOn
import Lean
import PyProof.EqAt
import PyProof.EqKinds
import PyProof.TupleCall
import PyProof.NeKinds
import PyProof.Rows.SeqMore
import PyProof.FactsAll.tuple_2
import KE.KDictOf
import PyProof.ExcInit
import PyProof.ExcClass3
import PyProof.NsDelKeeps
import PyProof.RulesAs
import PyProof.Rows.CountFlat
import PyProof.AutoListH
import KE.KIntText
import PyProof.Rows.CatFin
import PyProof.Rows.Range3
import PyProof.Rows.CallKwBuiltin
import PyProof.NoPylong
import PyProof.EnumMake
import PyProof.Draws
import PySem.Challenge.RW_nolitter_k53_codes_as_texts
set_option Elab.async false
set_option linter.all false
set_option maxRecDepth 100000
namespace L2
open PySem PySem.Spec PyProof.Rows
noncomputable abbrev Key := Sum Int Str
noncomputable def keyIs : Key → Value → Bool
 | .inl k, v => Value.isInt k v
 | .inr x, v => Value.isStrOf x v
noncomputable def keyH (w : World) : Key → Int
 | .inl k => hashInt k
 | .inr x => hashStr w x
theorem keyIs_shape : ∀ {k : Key} {v : Value}, keyIs k v = true → (∃ i t, k = Sum.inl i ∧ v = Value.int i t) ∨ (∃ x t, k = Sum.inr x ∧ v = Value.str x t)
 | .inl i, v, h => by
  obtain ⟨t, e⟩ := Value.isInt_shape (k := i) (v := v) h
  exact .inl ⟨i, t, rfl, e⟩
 | .inr x, v, h => by
  obtain ⟨t, e⟩ := Value.isStrOf_shape (x := x) (v := v) h
  exact .inr ⟨x, t, rfl, e⟩
theorem key_ll (a b : Int) : decide ((Sum.inl a : Key) = Sum.inl b) = (a == b) := by
 by_cases e : a = b
 ·subst e; simp
 ·have h : ¬ (Sum.inl a : Key) = Sum.inl b := fun q => e (Sum.inl.inj q)
  rw [decide_eq_false h]
  exact (beq_eq_false_iff_ne.mpr e).symm
theorem key_rr (a b : Str) : decide ((Sum.inr a : Key) = Sum.inr b) = decide (a = b) := by
 by_cases e : a = b
 ·subst e; simp
 ·have h : ¬ (Sum.inr a : Key) = Sum.inr b := fun q => e (Sum.inr.inj q)
  rw [decide_eq_false h, decide_eq_false e]
theorem key_lr (a : Int) (b : Str) : decide ((Sum.inl a : Key) = Sum.inr b) = false := decide_eq_false (fun q => nomatch q)
theorem key_rl (a : Str) (b : Int) : decide ((Sum.inr a : Key) = Sum.inl b) = false := decide_eq_false (fun q => nomatch q)
noncomputable def mixKind (prog : Program) (w : World) : PySem.KeyKind prog w Key where
 is := keyIs
 hash := keyH w
 inj := fun v a b ha hb => by
  rcases keyIs_shape ha with ⟨i, t, rfl, rfl⟩ | ⟨x, t, rfl, rfl⟩
  ·rcases keyIs_shape hb with ⟨j, u, rfl, e⟩ | ⟨y, u, rfl, e⟩
   ·injection e with e1 _; rw [e1]
   ·exact nomatch e
  ·rcases keyIs_shape hb with ⟨j, u, rfl, e⟩ | ⟨y, u, rfl, e⟩
   ·exact nomatch e
   ·injection e with e1 _; rw [e1]
 byValue := fun k v h => by
  rcases keyIs_shape h with ⟨i, t, rfl, rfl⟩ | ⟨x, t, rfl, rfl⟩ <;> rfl
 pyHash := fun hv h => by
  rcases keyIs_shape hv with ⟨i, t, rfl, rfl⟩ | ⟨x, t, rfl, rfl⟩
  ·exact wpAny_pyHash_int h
  ·exact wpAny_pyHash_str h
 eqBool := fun hu hv h => by
  rcases keyIs_shape hu with ⟨i, t, rfl, rfl⟩ | ⟨x, t, rfl, rfl⟩
  ·rcases keyIs_shape hv with ⟨j, u, rfl, rfl⟩ | ⟨y, u, rfl, rfl⟩
   ·rw [key_ll] at h; exact wpAny_eqBool_int h
   ·rw [key_lr] at h; exact SeqAt.EqAt.int_str i t y u _ _ _ _ h
  ·rcases keyIs_shape hv with ⟨j, u, rfl, rfl⟩ | ⟨y, u, rfl, rfl⟩
   ·rw [key_rl] at h; exact SeqAt.EqAt.str_int x t j u _ _ _ _ h
   ·rw [key_rr] at h; exact wpAny_eqBool_str h
 «strs» := fun k x t v h => by
  rcases keyIs_shape h with ⟨i, u, rfl, e⟩ | ⟨y, u, rfl, e⟩
  ·exact nomatch e
  ·injection e with e1 _
   subst e1
   cases v <;> rfl
end L2
namespace L2
open PySem PySem.Spec PyProof.Rows
inductive V where
 | non | bl (b : Bool) | int (i : Int) | str (x : Str) | byt (b : Array UInt8) | flt (b : UInt64) | ref (a : Addr) | ty (n : String)
 deriving DecidableEq
def RelV : V → Value → Prop
 | .non, u => u = Value.none
 | .bl b, u => u = Value.bool b
 | .int i, u => ∃ t, u = Value.int i t
 | .str x, u => ∃ t, u = Value.str x t
 | .byt b, u => ∃ t, u = Value.bytes b t
 | .flt b, u => ∃ t, u = Value.float b t
 | .ref a, u => u = Value.ref a
 | .ty n, u => u = Value.type n
noncomputable abbrev Vals : List V → List Value → Prop := Paired RelV
theorem Vals.length {xs : List V} {us : List Value} (r : Vals xs us) : xs.length = us.length := Paired.length r
theorem Vals.get : ∀ {xs : List V} {us : List Value} {i : Nat} {x : V}, Vals xs us → xs[i]? = some x → ∃ u, us[i]? = some u ∧ RelV x u
 | _, _, _, _, .nil, e => by simp at e
 | _, _, 0, _, .cons r _, e => by simp at e; subst e; exact ⟨_, rfl, r⟩
 | _, _, i + 1, x, .cons _ t, e => by
  obtain ⟨u, h1, h2⟩ := Vals.get (i := i) (x := x) t (by simpa using e)
  exact ⟨u, by simpa using h1, h2⟩
theorem Vals.set {x : V} {u : Value} (r : RelV x u) : ∀ {xs : List V} {us : List Value} (i : Nat), Vals xs us → Vals (xs.set i x) (us.set i u)
 | _, _, _, .nil => .nil
 | _, _, 0, .cons _ t => .cons r t
 | _, _, i + 1, .cons q t => .cons q (Vals.set r i t)
theorem Vals.append : ∀ {xs ys : List V} {us ws : List Value}, Vals xs us → Vals ys ws → Vals (xs ++ ys) (us ++ ws)
 | _, _, _, _, .nil, s => s
 | _, _, _, _, .cons r t, s => .cons r (Vals.append t s)
theorem Vals.take : ∀ {xs : List V} {us : List Value} (n : Nat), Vals xs us → Vals (xs.take n) (us.take n)
 | _, _, 0, _ => .nil
 | _, _, _ + 1, .nil => .nil
 | _, _, n + 1, .cons r t => .cons r (Vals.take n t)
theorem Vals.drop : ∀ {xs : List V} {us : List Value} (n : Nat), Vals xs us → Vals (xs.drop n) (us.drop n)
 | _, _, 0, r => r
 | _, _, _ + 1, .nil => .nil
 | _, _, n + 1, .cons _ t => Vals.drop n t
theorem Vals.none_of : ∀ {xs : List V} {us : List Value} {i : Nat}, Vals xs us → xs[i]? = none → us[i]? = none := fun {xs us i} r e => by
 have h1 := r.length
 have h2 : xs.length ≤ i := List.getElem?_eq_none_iff.mp e
 exact List.getElem?_eq_none_iff.mpr (by omega)
def RelO : Option V → Option Value → Prop
 | some v, some u => RelV v u
 | none, none => True
 | _, _ => False
def KV {κ : Type} : List (κ × V) → List (κ × Value) → Prop := Paired fun (p : κ × V) (q : κ × Value) => p.1 = q.1 ∧ RelV p.2 q.2
noncomputable def kV : Key → V
 | .inl i => .int i
 | .inr x => .str x
inductive HO where
 | lst (xs : List V)
 | tup (xs : List V)
 | dK (kvs : List (Key × V)) | dT (kvs : List (List Key × V))
 | set (S : Int → Bool) (n : Nat)
 | ins (C dx : Addr) (fs : List (Str × V))
 | own (x : Addr)
 | xd (fs : List (Str × V))
 | met (f x : Addr)
 | rng (lo hi : Int)
 | frz (o : Obj) (u : HO)
 | tbl (ps : Array Value)
 | ext (φ : Heap → Prop)
noncomputable abbrev Hp := Addr → Option HO
noncomputable def upd (H : Hp) (a : Addr) (o : HO) : Hp := fun b => if b = a then some o else H b
theorem upd_same {H : Hp} {a : Addr} {o : HO} : upd H a o a = some o := by unfold upd; rw [if_pos rfl]
theorem upd_ne {H : Hp} {a b : Addr} {o : HO} (h : b ≠ a) : upd H a o b = H b := by unfold upd; rw [if_neg h]
theorem ne_of_none {H : Hp} {a b : Addr} {o : HO} (h : H a = some o) (h' : H b = none) : a ≠ b := by
 intro e; subst e; rw [h] at h'; cases h'
section
variable (P : Program) (w : World)
def TupD (h : Heap) (a : Addr) (its : Array Value) : Prop := ∃ o, h.get? a = some o ∧ o.cls = .type "tuple" ∧ (∃ n, o.data = .seq its n) ∧ o.dict = none
theorem TupD.tup {h : Heap} {a : Addr} {its : Array Value} (x : TupD h a its) : IsTup h a its := let ⟨o, e, c, d, _⟩ := x; ⟨o, e, c, d⟩
theorem TupD.new (h : Heap) (its : Array Value) : TupD (h.push { cls := .type "tuple", data := .seq its }) h.objs.size its := ⟨_, Heap.get?_push_size _ rfl, rfl, ⟨_, rfl⟩, rfl⟩
def ObjOk (H : Hp) (h : Heap) (a : Addr) : HO → Prop
 | .lst xs => xs.length ≤ sizeLine ∧ ∃ (its : List Value) (n : Nat), Vals xs its ∧ h.get? a = some { cls := .type "list", data := .seq its.toArray n }
 | .tup xs => xs.length ≤ sizeLine ∧ ∃ its : List Value, Vals xs its ∧ TupD h a its.toArray
 | .dK kvs => kvs.length ≤ sizeLine ∧ (a == sysModules) = false ∧ ∃ vs, KV kvs vs ∧ h.DictOf (mixKind P w) a vs
 | .dT kvs => kvs.length ≤ sizeLine ∧ (a == sysModules) = false ∧ ∃ xs : List (List Key × Addr × Value),
   Paired (fun (p : List Key × V) (q : List Key × Addr × Value) => p.1 = q.1 ∧ H q.2.1 = some (.tup (p.1.map kV)) ∧ RelV p.2 q.2.2) kvs xs ∧
   ∃ o es ep, h.get? a = some o ∧ o.ExactDict ∧ o.data = .dict es ep ∧ es.toList = xs.map (entryOfKey (tupleKind (mixKind P w))) ∧ (xs.map (·.1)).Nodup
 | .set S n => h.SetOf (intKind P w) a S n
 | .ins C dx fs => H dx = some (.own a) ∧ fs.length ≤ 1000 ∧ dx ≠ a ∧ h.get? a = some (PySem.W.instObj C dx) ∧
   ∃ mA, h.Ns1 dx mA ∧ (∀ f, RelO (fs.lookup f) (mA f)) ∧ PySem.Within mA (fs.map (·.1))
 | .own _ => ∃ o, h.get? a = some o
 | .xd fs => ∃ mA, h.Ns1 a mA ∧ ∀ f, RelO (fs.lookup f) (mA f)
 | .rng lo hi => ∃ t u v, h.get? a = some { cls := .type "range", data := .fields #[.int lo t, .int hi u, .int 1 v] }
 | .frz o u => h.get? a = some o ∧ ObjOk H h a u
 | .tbl ps => h.get? a = some { cls := .none, data := .fields ps }
 | .met f x => h.get? a = some (PySem.W.methodObj (.ref f) (.ref x))
 | .ext φ => φ h ∧ (∃ o, h.get? a = some o) ∧ ∀ h1 h2 : Heap, φ h1 → (∀ o, h1.get? a = some o → h2.get? a = some o) → φ h2
def HOk (H : Hp) (h : Heap) : Prop := ∀ a o, H a = some o → ObjOk P w H h a o
end
section
variable {P : Program} {w : World} {H H' : Hp} {h h' : Heap} {a : Addr} {o : HO}
theorem ObjOk.lt (x : ObjOk P w H h a o) : a < h.objs.size := by
 cases o with
 | lst xs => obtain ⟨_, _, _, _, e⟩ := x; exact Heap.lt_size e
 | tup xs => obtain ⟨_, _, _, p⟩ := x; exact p.tup.lt
 | dK kvs => obtain ⟨_, _, _, _, o, _, _, e, _⟩ := x; exact Heap.lt_size e
 | dT kvs => obtain ⟨_, _, _, _, o, _, _, e, _⟩ := x; exact Heap.lt_size e
 | set S n => obtain ⟨o, _, _, _, e, _⟩ := x; exact Heap.lt_size e
 | ins C dx fs => obtain ⟨_, _, _, e, _⟩ := x; exact Heap.lt_size e
 | own y => obtain ⟨_, e⟩ := x; exact Heap.lt_size e
 | xd fs => obtain ⟨_, ⟨_, _, _, e, _⟩, _⟩ := x; exact Heap.lt_size e
 | rng lo hi => obtain ⟨_, _, _, e⟩ := x; exact Heap.lt_size e
 | frz ob u => obtain ⟨e, _⟩ := x; exact Heap.lt_size e
 | tbl ps => exact Heap.lt_size (show h.get? a = some _ from x)
 | met f y => exact Heap.lt_size (show h.get? a = some _ from x)
 | ext φ => obtain ⟨_, ⟨_, e⟩, _⟩ := x; exact Heap.lt_size e
theorem Paired.mapP {α β : Type} {F G : α → β → Prop} : ∀ {l₁ : List α} {l₂ : List β}, Paired F l₁ l₂ → (∀ a b, F a b → G a b) → Paired G l₁ l₂
 | _, _, .nil, _ => .nil
 | _, _, .cons r t, f => .cons (f _ _ r) (Paired.mapP t f)
theorem ObjOk.stay (x : ObjOk P w H h a o) (k : ∀ b u, (b = a ∨ H b = some (.own a)) → h.get? b = some u → h'.get? b = some u)
  (ho : ∀ b, H b = some (.own a) → H' b = some (.own a)) (ht : ∀ b xs, H b = some (.tup xs) → H' b = some (.tup xs)) : ObjOk P w H' h' a o := by
 induction o with
 | lst xs => obtain ⟨z, its, n, r, e⟩ := x; exact ⟨z, its, n, r, k _ _ (.inl rfl) e⟩
 | tup xs => obtain ⟨z, its, r, ob, e, c⟩ := x; exact ⟨z, its, r, ob, k _ _ (.inl rfl) e, c⟩
 | dK kvs => obtain ⟨z, y, vs, r, ob, es, ep, e, c⟩ := x; exact ⟨z, y, vs, r, ob, es, ep, k _ _ (.inl rfl) e, c⟩
 | dT kvs =>
  obtain ⟨z, y, xs, r, ob, es, ep, e, c⟩ := x
  exact ⟨z, y, xs, Paired.mapP r fun p q z => ⟨z.1, ht _ _ z.2.1, z.2.2⟩, ob, es, ep, k _ _ (.inl rfl) e, c⟩
 | set S n => obtain ⟨ob, es, ep, t, e, c⟩ := x; exact ⟨ob, es, ep, t, k _ _ (.inl rfl) e, c⟩
 | ins C dx fs =>
  obtain ⟨d, z, ne, e, mA, ⟨od, es, ep, e2, c⟩, r⟩ := x
  exact ⟨ho _ d, z, ne, k _ _ (.inl rfl) e, mA, ⟨od, es, ep, k _ _ (.inr d) e2, c⟩, r⟩
 | own y => obtain ⟨ob, e⟩ := x; exact ⟨ob, k _ _ (.inl rfl) e⟩
 | xd fs => obtain ⟨mA, ⟨od, es, ep, e, c⟩, r⟩ := x; exact ⟨mA, ⟨od, es, ep, k _ _ (.inl rfl) e, c⟩, r⟩
 | rng lo hi => obtain ⟨t, u, v, e⟩ := x; exact ⟨t, u, v, k _ _ (.inl rfl) e⟩
 | frz ob u ih => obtain ⟨e, q⟩ := x; exact ⟨k _ _ (.inl rfl) e, ih q⟩
 | tbl ps =>
  have e : h.get? a = some { cls := .none, data := .fields ps } := x
  show h'.get? a = some { cls := .none, data := .fields ps }
  exact k a _ (.inl rfl) e
 | met f y =>
  have e : h.get? a = some (PySem.W.methodObj (.ref f) (.ref y)) := x
  show h'.get? a = some (PySem.W.methodObj (.ref f) (.ref y))
  exact k a _ (.inl rfl) e
 | ext φ => obtain ⟨p, ⟨o, e⟩, st⟩ := x; exact ⟨st _ _ p fun o q => k _ _ (.inl rfl) q, ⟨o, k _ _ (.inl rfl) e⟩, st⟩
theorem HOk.lt (x : HOk P w H h) (e : H a = some o) : a < h.objs.size := (x a o e).lt
theorem HOk.fresh (x : HOk P w H h) (e : h.objs.size ≤ a) : H a = none := by
 cases q : H a with
 | none => rfl
 | some u => exact absurd (Nat.lt_of_lt_of_le (x.lt q) e) (Nat.lt_irrefl _)
theorem HOk.kept (x : HOk P w H h) (k : ∀ b u, h.get? b = some u → h'.get? b = some u) : HOk P w H h' := fun a o e =>
 (x a o e).stay (fun b u _ q => k b u q) (fun _ q => q) fun _ _ q => q
theorem HOk.laid (x : HOk P w H h) (k : ∀ b u, h.get? b = some u → h'.get? b = some u) (hp : h.objs.size ≤ a) (new : ObjOk P w (upd H a o) h' a o) : HOk P w (upd H a o) h' := fun b u e => by
 have hn := x.fresh hp
 by_cases hb : b = a
 ·subst hb; rw [upd_same] at e; cases e; exact new
 ·rw [upd_ne hb] at e
  exact (x b u e).stay (fun c v _ q => k c v q) (fun c q => by rw [upd_ne (ne_of_none q hn)]; exact q) fun c xs q => by rw [upd_ne (ne_of_none q hn)]; exact q
end
def Rd (H : Hp) (a : Addr) (u : HO) : Prop := H a = some u ∨ ∃ o, H a = some (.frz o u)
theorem Rd.of {H : Hp} {a : Addr} {u : HO} (h : H a = some u) : Rd H a u := .inl h
theorem Rd.ok {P : Program} {w : World} {H : Hp} {h : Heap} {a : Addr} {u : HO} (r : Rd H a u) (x : HOk P w H h) : ObjOk P w H h a u := by
 rcases r with r | ⟨o, r⟩
 ·exact x a u r
 ·obtain ⟨_, q⟩ := x a _ r
  exact q
def Mut : Option HO → Prop
 | some (.lst _) => True
 | some (.dK _) => True
 | some (.dT _) => True
 | some (.set _ _) => True
 | some (.ins _ _ _) => True
 | some (.ext _) => True
 | _ => False
section
variable {P : Program} {w : World} {H : Hp} {h h' : Heap} {x e : Addr} {o' : HO}
theorem HOk.write (ok : HOk P w H h) (mu : Mut (H x)) (he : e = x ∨ H e = some (.own x)) (k : ∀ b u, b ≠ e → h.get? b = some u → h'.get? b = some u) (heo : ∃ u, h'.get? e = some u)
  (new : ObjOk P w (upd H x o') h' x o') : HOk P w (upd H x o') h' := fun b u q => by
 have nown : ∀ c y, H c = some (.own y) → c ≠ x := fun c y r z => by subst z; rw [r] at mu; exact mu
 have ntup : ∀ c xs, H c = some (.tup xs) → c ≠ x := fun c xs r z => by subst z; rw [r] at mu; exact mu
 by_cases hb : b = x
 ·subst hb; rw [upd_same] at q; cases q; exact new
 ·rw [upd_ne hb] at q
  by_cases hbe : b = e
  ·have q' : H b = some (.own x) := by
    rcases he with z | z
    ·exact absurd (hbe.trans z) hb
    ·rw [hbe]; exact z
   rw [q] at q'; cases q'
   obtain ⟨v, hv⟩ := heo
   exact ⟨v, by rw [hbe]; exact hv⟩
  ·refine (ok b u q).stay (fun c v hc r => k c v ?_ r) (fun c r => by rw [upd_ne (nown c b r)]; exact r) fun c xs r => by rw [upd_ne (ntup c xs r)]; exact r
   rcases hc with rfl | hc
   ·exact hbe
   ·rintro rfl
    rcases he with z | z
    ·exact nown c b hc z
    ·rw [hc] at z; cases z; exact hb rfl
end
structure Un (fs ex : List Addr) (H H' : Hp) (h h' : Heap) : Prop where
 keep : ∀ b o, h.get? b = some o → H b = none → b ∉ fs → b ∉ ex → h'.get? b = some o
 slot : ∀ b o, h.get? b = some o → H b = none → b ∈ fs → b ∉ ex → ∃ sl, h'.get? b = some { o with slots := sl }
 free : ∀ b o, h.get? b = some o → H b = none → b ∉ ex → H' b = none
 there : ∀ b o, h.get? b = some o → b ∉ ex → ∃ o', h'.get? b = some o'
 tups : ∀ b xs, H b = some (.tup xs) → H' b = some (.tup xs)
 frzs : ∀ b o u, H b = some (.frz o u) → H' b = some (.frz o u)
 tbls : ∀ b ps, H b = some (.tbl ps) → ∃ more, H' b = some (.tbl (ps ++ more))
section
variable {fs fs' ex ex' : List Addr} {H H1 H2 : Hp} {h h1 h2 h' : Heap} {a x e : Addr} {o : HO}
theorem Un.any (u : Un fs ex H H1 h h1) {b : Addr} {ob : Obj} (q : h.get? b = some ob) (n : H b = none) (hx : b ∉ ex) : ∃ sl, h1.get? b = some { ob with slots := sl } := by
 by_cases hb : b ∈ fs
 ·exact u.slot b ob q n hb hx
 ·exact ⟨ob.slots, u.keep b ob q n hb hx⟩
theorem Un.trans (a : Un fs ex H H1 h h1) (b : Un fs ex H1 H2 h1 h2) : Un fs ex H H2 h h2 where
 keep := fun c ob q n hc hx => b.keep c ob (a.keep c ob q n hc hx) (a.free c ob q n hx) hc hx
 slot := fun c ob q n hc hx => by
  obtain ⟨sl, e1⟩ := a.slot c ob q n hc hx
  obtain ⟨sl', e2⟩ := b.slot c _ e1 (a.free c ob q n hx) hc hx
  exact ⟨sl', e2⟩
 free := fun c ob q n hx => by
  obtain ⟨o', e1⟩ := a.there c ob q hx
  exact b.free c o' e1 (a.free c ob q n hx) hx
 there := fun c ob q hx => by
  obtain ⟨o', e1⟩ := a.there c ob q hx
  exact b.there c o' e1 hx
 tups := fun c xs q => b.tups c xs (a.tups c xs q)
 frzs := fun c ob xs q => b.frzs c ob xs (a.frzs c ob xs q)
 tbls := fun c ps q => by
  obtain ⟨m1, e1⟩ := a.tbls c ps q
  obtain ⟨m2, e2⟩ := b.tbls c _ e1
  exact ⟨m1 ++ m2, by rw [e2, Array.append_assoc]⟩
theorem Un.kept (k : ∀ b u, h.get? b = some u → h'.get? b = some u) : Un fs ex H H h h' :=
 ⟨fun b ob q _ _ _ => k b ob q, fun b ob q _ _ _ => ⟨ob.slots, k b ob q⟩, fun _ _ _ n _ => n, fun b ob q _ => ⟨ob, k b ob q⟩, fun _ _ q => q, fun _ _ _ q => q, fun _ ps q => ⟨#[], by rw [q]; simp⟩⟩
theorem Un.refl : Un fs ex H H h h := Un.kept fun _ _ q => q
theorem Un.laid (k : ∀ b u, h.get? b = some u → h'.get? b = some u) (hp : h.objs.size ≤ a) (hn : H a = none) : Un fs ex H (upd H a o) h h' where
 keep := fun b u q _ _ _ => k b u q
 slot := fun b u q _ _ _ => ⟨u.slots, k b u q⟩
 free := fun b u q n _ => by rw [upd_ne (Nat.ne_of_lt (Nat.lt_of_lt_of_le (Heap.lt_size q) hp))]; exact n
 there := fun b u q _ => ⟨u, k b u q⟩
 tups := fun b xs q => by rw [upd_ne (ne_of_none q hn)]; exact q
 frzs := fun b u xs q => by rw [upd_ne (ne_of_none q hn)]; exact q
 tbls := fun b ps q => ⟨#[], by rw [upd_ne (ne_of_none q hn), q]; simp⟩
theorem Un.write (mu : Mut (H x)) (he : e = x ∨ H e = some (.own x)) (k : ∀ b u, b ≠ e → h.get? b = some u → h'.get? b = some u) (heo : ∃ u, h'.get? e = some u) : Un fs ex H (upd H x o) h h' := by
 have hx : ∀ b, H b = none → b ≠ x := fun b n z => by subst z; rw [n] at mu; exact mu
 have hb : ∀ b, H b = none → b ≠ e := fun b n z => by
  subst z
  rcases he with r | r
  ·exact hx b n r
  ·rw [n] at r; cases r
 have hm : ∀ b u, H b = some u → ¬ Mut (some u) → b ≠ x := fun b u q nm z => by subst z; rw [q] at mu; exact nm mu
 refine ⟨fun b u q n _ _ => k b u (hb b n) q, fun b u q n _ _ => ⟨u.slots, k b u (hb b n) q⟩, fun b u q n _ => by rw [upd_ne (hx b n)]; exact n, fun b u q _ => ?_,
  fun b xs q => by rw [upd_ne (hm b _ q fun z => z)]; exact q, fun b u xs q => by rw [upd_ne (hm b _ q fun z => z)]; exact q, fun b ps q => ⟨#[], by rw [upd_ne (hm b _ q fun z => z), q]; simp⟩⟩
 by_cases hbe : b = e
 ·subst hbe; exact heo
 ·exact ⟨u, k b u hbe q⟩
end
noncomputable def trk (h : Heap) (H : Hp) : List Addr := (List.range h.objs.size).filter fun a => (H a).isSome
noncomputable def hidT (h : Heap) (H : Hp) : Heap := PySem.W.hideAll h (trk h H)
theorem hidT_size (h : Heap) (H : Hp) : (hidT h H).objs.size = h.objs.size := PySem.W.hideAll_size _ _
theorem hidT_get {h : Heap} {H : Hp} {b : Addr} {o : Obj} (e : h.get? b = some o) (n : H b = none) : (hidT h H).get? b = some o :=
 PySem.W.hideAll_get _ e fun hm => by
  have q : (H b).isSome = true := (List.mem_filter.mp hm).2
  rw [n] at q; simp at q
theorem of_hidT {h : Heap} {H : Hp} {b : Addr} {o : Obj} (e : (hidT h H).get? b = some o) : h.get? b = some o ∧ H b = none := by
 have e' : h.get? b = some o := PySem.W.of_hideAll (trk h H) e
 refine ⟨e', ?_⟩
 cases q : H b with
 | none => rfl
 | some x =>
  have hm : b ∈ trk h H := List.mem_filter.mpr ⟨List.mem_range.mpr (Heap.lt_size e'), by simp [q]⟩
  have z : (hidT h H).get? b = none := PySem.W.hideAll_none (trk h H) hm
  rw [z] at e; cases e
noncomputable def allNews (g h : Heap) (L : Addr) : List (Addr × Obj) := (List.range h.objs.size).filterMap fun a => if a = L ∨ (g.get? a).isSome = true then none else (h.get? a).map fun o => (a, o)
noncomputable def rest (g h : Heap) (L d : Addr) : List (Addr × Obj) := (allNews g h L).filter fun p => decide (p.1 ≠ d)
end L2
namespace L2
open PySem PySem.Spec PyProof.Rows
structure Mod (K : PySem.W.Frag) (mg : Str → Option Value) (base : Heap) : Prop where
 kin : K.In base
 glob : base.Ns mainGlobals mg
 blt : ∃ mb, base.Ns builtinsNs mb ∧ ∀ x : Str, x ≠ "__name__" → mb x = bootBuiltins x
 nolimit : base.NoLimit
/-- the context: a def's body (or a comprehension's block) running. base: fixed through the whole law; s₀, H₀: the entry; outer: the frames whose slots others may change (a def's callers); stack: all frames that run;
   ex: iterators that were made ahead of the entry and are walked here (a comprehension's); fn: the names whose cells were made at the entry (a def: all; a comprehension's block: its own); calm: not within an except suite; pn: pins that every state bears; xe: what is wanted of an exception that leaves the code -/
structure Cx where
 prog : Program
 w : World
 K : PySem.W.Frag
 mg : Str → Option Value
 base : Heap
 A : Around
 N : List Str
 s₀ : Shared
 H₀ : Hp
 env : Env
 outer : List Env
 stack : List Env
 ex : List Addr
 fn : Str → Bool
 calm : Bool
 pn : List (Addr × Obj)
 xe : Value → Shared → Prop
noncomputable def frs (l : List Env) : List Addr := l.filterMap (·.frame)
noncomputable abbrev Cx.fs (X : Cx) : List Addr := frs X.outer
def Vis (sc : Scope) (x : Str) : Prop := sc.names.lookup x = some .local ∨ sc.names.lookup x = some .cell ∨ sc.names.lookup x = some .free
def Loc (sc : Scope) (x : Str) : Prop := sc.names.lookup x = some .local ∨ sc.names.lookup x = some .cell
def Look (env : Env) (h : Heap) (m : Str → Option Value) (x : Str) (u : Value) : Prop :=
 (env.kindOf x = some .local ∧ m x = some u) ∨ ((env.kindOf x = some .cell ∨ env.kindOf x = some .free) ∧ ∃ c, env.cells.lookup x = some c ∧ h.IsCell c (some u))
structure Cx.Ok (X : Cx) : Prop where
 mod : Mod X.K X.mg X.base
 kind : X.env.scope.kind = .function
 glob : X.env.globals = mainGlobals
 blt : X.env.builtins = builtinsNs
 above : X.s₀.heap.objs.size ≤ X.env.locals
 inj : ∀ x y c, X.env.cells.lookup x = some c → X.env.cells.lookup y = some c → x = y
 has : ∀ x, (X.env.kindOf x = some .cell ∨ X.env.kindOf x = some .free) → ∃ c, X.env.cells.lookup x = some c
 cab : ∀ x c, X.fn x = true → X.env.cells.lookup x = some c → X.s₀.heap.objs.size ≤ c
 hd : X.calm = true → X.A.handled = none
 frames : X.A.frames = some X.stack
 stk : X.stack = X.outer ∨ (X.stack = X.env :: X.outer ∧ X.env.frame = some X.env.locals)
 exf : ∀ b ∈ X.ex, b ≠ X.env.locals ∧ ∀ x c, X.env.cells.lookup x = some c → c ≠ b
 bs : ∀ b o, X.base.get? b = some o → X.s₀.heap.get? b = some o ∧ X.H₀ b = none
 bsz : X.base.objs.size ≤ X.s₀.heap.objs.size
 noex : ∀ b o, X.base.get? b = some o → b ∉ X.ex
 exfs : ∀ b ∈ X.ex, b ∉ X.fs
 funs : X.s₀.heap.FunFrames X.base X.outer
 frf : ∀ b ∈ X.fs, X.H₀ b = none
structure Inv (X : Cx) (pins : List (Addr × Obj)) (σ : List (Option V)) (H : Hp) (s : Shared) : Prop where
 ok : X.Ok
 os : s.os = X.s₀.os
 bare : AllBare s.gens
 base : Un X.fs X.ex X.H₀ H X.s₀.heap s.heap
 loc : ∃ m, s.heap.Ns X.env.locals m ∧ ∀ (i : Nat) (x : Str) (v : V), X.N[i]? = some x → σ[i]? = some (some v) → Vis X.env.scope x → ∃ u, RelV v u ∧ Look X.env s.heap m x u
 cell : ∀ x c, X.env.cells.lookup x = some c → ∃ v, s.heap.IsCell c v
 free : H X.env.locals = none
 freeC : ∀ x c, X.env.cells.lookup x = some c → H c = none
 pin : ∀ p ∈ X.pn ++ pins, s.heap.get? p.1 = some p.2 ∧ H p.1 = none ∧ p.1 ≠ X.env.locals ∧ p.1 ∉ X.fs ∧ ∀ v, p.2.data ≠ .cell v
 hok : HOk X.prog X.w H s.heap
 len : σ.length = X.N.length
section
variable {X : Cx} {pins : List (Addr × Obj)} {σ : List (Option V)} {H H' : Hp} {s : Shared} {h' : Heap}
theorem Cx.Ok.nofr (ok : X.Ok) {b : Addr} {o : Obj} (e : X.base.get? b = some o) : b ∉ X.fs := fun hb => by
 have := (ok.funs.mem hb).1
 rw [e] at this; cases this
theorem Inv.bs (I : Inv X pins σ H s) : ∀ b o, X.base.get? b = some o → s.heap.get? b = some o ∧ H b = none := fun b o e =>
 ⟨I.base.keep b o (I.ok.bs b o e).1 (I.ok.bs b o e).2 (I.ok.nofr e) (I.ok.noex b o e), I.base.free b o (I.ok.bs b o e).1 (I.ok.bs b o e).2 (I.ok.noex b o e)⟩
theorem Inv.bk (I : Inv X pins σ H s) : ∀ b o, X.base.get? b = some o → s.heap.get? b = some o := fun b o e => (I.bs b o e).1
theorem Inv.mod (I : Inv X pins σ H s) : Mod X.K X.mg X.base := I.ok.mod
theorem Inv.kIn (I : Inv X pins σ H s) : X.K.In s.heap := I.ok.mod.kin.keeps I.bk
theorem Inv.nolimit (I : Inv X pins σ H s) : s.heap.NoLimit := I.ok.mod.nolimit.keeps I.bk
theorem Inv.fr (I : Inv X pins σ H s) : ∃ m, Fr X.base X.env.locals s.heap m :=
 let ⟨m, hn, _⟩ := I.loc
 ⟨m, hn, I.bk, Nat.le_trans I.ok.bsz I.ok.above⟩
theorem Inv.lt (I : Inv X pins σ H s) : X.env.locals < s.heap.objs.size := let ⟨_, hn, _⟩ := I.loc; hn.lt
theorem Inv.sz (I : Inv X pins σ H s) : X.s₀.heap.objs.size ≤ s.heap.objs.size := Nat.le_trans I.ok.above (Nat.le_of_lt I.lt)
theorem Inv.nofs (I : Inv X pins σ H s) {a : Addr} (h : s.heap.objs.size ≤ a) : a ∉ X.fs := fun hb => by
 obtain ⟨_, o, ho, _⟩ := I.ok.funs.mem hb
 exact absurd (Nat.lt_of_lt_of_le (Heap.lt_size ho) (Nat.le_trans I.sz h)) (Nat.lt_irrefl _)
theorem Inv.cne (I : Inv X pins σ H s) : ∀ x c, X.env.cells.lookup x = some c → c ≠ X.env.locals := fun x c e z => by
 obtain ⟨v, o, ho, hd⟩ := I.cell x c e
 obtain ⟨m, ⟨o', es, ep, ho', hd', _⟩, _⟩ := I.loc
 rw [z, ho'] at ho; cases ho; rw [hd'] at hd; cases hd
theorem Inv.funs (I : Inv X pins σ H s) : s.heap.FunFrames X.base X.outer := by
 have all : ∀ (l : List Env), (∀ b ∈ frs l, b ∈ X.fs) → X.s₀.heap.FunFrames X.base l → s.heap.FunFrames X.base l := by
  intro l
  induction l with
  | nil => intro _ _; trivial
  | cons env r ih =>
   intro hs hl
   obtain ⟨hk, ⟨L, o, hf, hn, ho, hd⟩, hr⟩ := hl
   have hL : L ∈ X.fs := hs L (by unfold frs; rw [List.filterMap_cons, hf]; exact List.mem_cons_self)
   obtain ⟨sl, e⟩ := I.base.slot L o ho (I.ok.frf L hL) hL fun z => I.ok.exfs L z hL
   exact ⟨hk, ⟨L, _, hf, hn, e, hd⟩, ih (fun b hb => hs b (by unfold frs; rw [List.filterMap_cons, hf]; exact List.mem_cons_of_mem _ hb)) hr⟩
 exact all X.outer (fun _ hb => hb) I.ok.funs
theorem Inv.stack (I : Inv X pins σ H s) : s.heap.FunFrames X.base X.stack := by
 rcases I.ok.stk with e | ⟨e, hf⟩
 ·rw [e]; exact I.funs
 ·rw [e]
  obtain ⟨m, hn, _⟩ := I.loc
  refine .cons (by rw [I.ok.kind]; decide) hf hn ?_ I.funs
  exact Heap.get?_none_of_le (Nat.le_trans I.ok.bsz I.ok.above)
theorem Inv.stkSub (I : Inv X pins σ H s) : ∀ b ∈ frs X.stack, b ∈ X.env.locals :: X.fs := fun b hb => by
 rcases I.ok.stk with e | ⟨e, hf⟩
 ·rw [e] at hb; exact List.mem_cons_of_mem _ hb
 ·rw [e] at hb
  unfold frs at hb
  rw [List.filterMap_cons, hf] at hb
  exact hb
theorem Inv.stkFree (I : Inv X pins σ H s) : ∀ b ∈ frs X.stack, H b = none := fun b hb => by
 rcases List.mem_cons.mp (I.stkSub b hb) with e | hb
 ·rw [e]; exact I.free
 ·obtain ⟨_, o, ho, _⟩ := I.ok.funs.mem hb
  exact I.base.free b o ho (I.ok.frf b hb) fun z => I.ok.exfs b z hb
theorem Inv.step {g' : Array GenState} {t' : Nat} {d' : Drawn} {ch : List Addr} (I : Inv X pins σ H s)
  (hch : ∀ b ∈ ch, (b ∈ X.ex ∨ X.s₀.heap.objs.size ≤ b) ∧ b ≠ X.env.locals ∧ (∀ x c, X.env.cells.lookup x = some c → c ≠ b) ∧ ∀ p ∈ X.pn ++ pins, p.1 ≠ b)
  (keep : ∀ b o, b ≠ X.env.locals → b ∉ X.fs → b ∉ ch → s.heap.get? b = some o → H b = none → h'.get? b = some o)
  (slot : ∀ b o, b ≠ X.env.locals → b ∈ X.fs → b ∉ ch → s.heap.get? b = some o → H b = none → ∃ sl, h'.get? b = some { o with slots := sl }) (free : ∀ b o, b ∉ ch → s.heap.get? b = some o → H b = none → H' b = none)
  (there : ∀ b o, b ∉ ch → s.heap.get? b = some o → ∃ o', h'.get? b = some o')
  (tups : ∀ b xs, H b = some (.tup xs) → H' b = some (.tup xs)) (frzs : ∀ b o u, H b = some (.frz o u) → H' b = some (.frz o u)) (tbls : ∀ b ps, H b = some (.tbl ps) → ∃ more, H' b = some (.tbl (ps ++ more)))
  (ns : ∀ m, s.heap.Ns X.env.locals m → h'.Ns X.env.locals m) (hok : HOk X.prog X.w H' h') (hg : AllBare g') :
  Inv X pins σ H' { s with heap := h', gens := g', drawn := d', toks := t' } := by
 have neL : ∀ b o, X.s₀.heap.get? b = some o → b ≠ X.env.locals := fun b o e => Nat.ne_of_lt (Nat.lt_of_lt_of_le (Heap.lt_size e) I.ok.above)
 have neC : ∀ b o, X.s₀.heap.get? b = some o → b ∉ X.ex → b ∉ ch := fun b o e hx hb => by
  rcases (hch b hb).1 with z | z
  ·exact hx z
  ·exact absurd (Nat.lt_of_lt_of_le (Heap.lt_size e) z) (Nat.lt_irrefl _)
 have cellK : ∀ x c, X.env.cells.lookup x = some c → ∀ v, s.heap.IsCell c v → h'.IsCell c v := fun x c e v ⟨o, ho, hd⟩ => by
  have nch : c ∉ ch := fun z => (hch c z).2.2.1 x c e rfl
  by_cases hc : c ∈ X.fs
  ·obtain ⟨sl, q⟩ := slot c o (I.cne x c e) hc nch ho (I.freeC x c e)
   exact ⟨_, q, hd⟩
  ·exact ⟨o, keep c o (I.cne x c e) hc nch ho (I.freeC x c e), hd⟩
 refine ⟨I.ok, I.os, hg, ⟨fun b o e n hb hx => ?_, fun b o e n hb hx => ?_, fun b o e n hx => ?_, fun b o e hx => ?_, fun b xs e => tups b xs (I.base.tups b xs e), fun b o xs e => frzs b o xs (I.base.frzs b o xs e), fun b ps e => ?_⟩, ?_, fun x c e => ?_, ?_, fun x c e => ?_, fun p hp => ?_, hok, I.len⟩
 ·exact keep b o (neL b o e) hb (neC b o e hx) (I.base.keep b o e n hb hx) (I.base.free b o e n hx)
 ·obtain ⟨sl, e1⟩ := I.base.slot b o e n hb hx
  obtain ⟨sl', e2⟩ := slot b _ (neL b o e) hb (neC b o e hx) e1 (I.base.free b o e n hx)
  exact ⟨sl', e2⟩
 ·obtain ⟨o', e1⟩ := I.base.there b o e hx
  exact free b o' (neC b o e hx) e1 (I.base.free b o e n hx)
 ·obtain ⟨o', e1⟩ := I.base.there b o e hx
  exact there b o' (neC b o e hx) e1
 ·obtain ⟨m1, e1⟩ := I.base.tbls b ps e
  obtain ⟨m2, e2⟩ := tbls b _ e1
  exact ⟨m1 ++ m2, by rw [e2, Array.append_assoc]⟩
 ·obtain ⟨m, hn, hl⟩ := I.loc
  refine ⟨m, ns m hn, fun i x v e1 e2 e3 => ?_⟩
  obtain ⟨u, r, l⟩ := hl i x v e1 e2 e3
  refine ⟨u, r, ?_⟩
  rcases l with l | ⟨k, c, e, z⟩
  ·exact .inl l
  ·exact .inr ⟨k, c, e, cellK x c e _ z⟩
 ·obtain ⟨v, z⟩ := I.cell x c e
  exact ⟨v, cellK x c e v z⟩
 ·obtain ⟨m, ⟨o, _, _, ho, _⟩, _⟩ := I.loc
  exact free _ o (fun z => (hch _ z).2.1 rfl) ho I.free
 ·obtain ⟨v, o, ho, hd⟩ := I.cell x c e
  exact free c o (fun z => (hch c z).2.2.1 x c e rfl) ho (I.freeC x c e)
 ·obtain ⟨e, n, ne, nf, d⟩ := I.pin p hp
  have nch : p.1 ∉ ch := fun z => (hch p.1 z).2.2.2 p hp rfl
  exact ⟨keep p.1 p.2 ne nf nch e n, free p.1 p.2 nch e n, ne, nf, d⟩
theorem Inv.un {t' : Nat} (I : Inv X pins σ H s) (u : Un X.fs [] H H' s.heap h') (hok : HOk X.prog X.w H' h') : Inv X pins σ H' { s with heap := h', toks := t' } := by
 obtain ⟨m, ⟨o, es, ep, ho, r⟩, _⟩ := id I.loc
 obtain ⟨sl, hL⟩ := u.any ho I.free (by simp)
 exact I.step (g' := s.gens) (d' := s.drawn) (ch := []) (fun _ z => nomatch z) (fun b o _ hb _ e n => u.keep b o e n hb (by simp)) (fun b o _ hb _ e n => u.slot b o e n hb (by simp)) (fun b o _ e n => u.free b o e n (by simp)) (fun b o _ e => u.there b o e (by simp)) u.tups u.frzs u.tbls (fun m' hm => by
  obtain ⟨o', es', ep', ho', r'⟩ := hm
  rw [ho] at ho'; cases ho'
  exact ⟨_, es', ep', hL, r'⟩) hok I.bare
theorem Inv.call {g' : Array GenState} {t' : Nat} {d' : Drawn} {ch : List Addr} (I : Inv X pins σ H s) (u : Un (frs X.stack) ch H H' s.heap h') (hok : HOk X.prog X.w H' h') (hg : AllBare g')
  (hch : ∀ b ∈ ch, (b ∈ X.ex ∨ X.s₀.heap.objs.size ≤ b) ∧ b ≠ X.env.locals ∧ (∀ x c, X.env.cells.lookup x = some c → c ≠ b) ∧ ∀ p ∈ X.pn ++ pins, p.1 ≠ b) :
  Inv X pins σ H' { s with heap := h', gens := g', drawn := d', toks := t' } := by
 obtain ⟨m, ⟨o, es, ep, ho, r⟩, _⟩ := id I.loc
 obtain ⟨sl, hL⟩ := u.any ho I.free fun z => (hch _ z).2.1 rfl
 exact I.step (ch := ch) hch (fun b o hL hb hc e n => u.keep b o e n (fun z => (List.mem_cons.mp (I.stkSub b z)).elim hL hb) hc) (fun b o _ _ hc e n => u.any e n hc) (fun b o hc e n => u.free b o e n hc) (fun b o hc e => u.there b o e hc) u.tups u.frzs u.tbls (fun m' hm => by
  obtain ⟨o', es', ep', ho', r'⟩ := hm
  rw [ho] at ho'; cases ho'
  exact ⟨_, es', ep', hL, r'⟩) hok hg
theorem Inv.turned {t' : Nat} {it : Addr} (I : Inv X pins σ H s) (k : ∀ b o, b ≠ it → s.heap.get? b = some o → h'.get? b = some o) (hn : H it = none) (hL : it ≠ X.env.locals)
  (h1 : it ∈ X.ex ∨ X.s₀.heap.objs.size ≤ it) (h2 : ∀ x c, X.env.cells.lookup x = some c → c ≠ it) (h3 : ∀ p ∈ X.pn ++ pins, p.1 ≠ it) : Inv X pins σ H { s with heap := h', toks := t' } := by
 have nit : ∀ b u, H b = some u → b ≠ it := fun b u e z => by rw [z, hn] at e; cases e
 refine I.step (g' := s.gens) (d' := s.drawn) (ch := [it]) (fun b hb => ?_) (fun b o _ _ hc e _ => k b o (fun z => hc (by simp [z])) e) (fun b o _ _ hc e _ => ⟨o.slots, k b o (fun z => hc (by simp [z])) e⟩) (fun _ _ _ _ n => n)
  (fun b o hc e => ⟨o, k b o (fun z => hc (by simp [z])) e⟩) (fun _ _ e => e) (fun _ _ _ e => e) (fun b ps e => ⟨#[], by rw [e]; simp⟩) (fun m hm => ?_) (fun b u e => ?_) I.bare
 ·have e : b = it := by simpa using hb
  subst e
  exact ⟨h1, hL, h2, h3⟩
 ·obtain ⟨o, es, ep, ho, r⟩ := hm
  exact ⟨o, es, ep, k _ o (Ne.symm hL) ho, r⟩
 ·refine (I.hok b u e).stay (fun c v hc q => k c v ?_ q) (fun _ q => q) fun _ _ q => q
  rcases hc with z | z
  ·rw [z]; exact nit b u e
  ·exact nit c _ z
theorem Inv.tok (I : Inv X pins σ H s) (t : Nat) : Inv X pins σ H { s with toks := t } := I.un (h' := s.heap) (t' := t) Un.refl I.hok
theorem Inv.kept {t' : Nat} (I : Inv X pins σ H s) (k : ∀ b u, s.heap.get? b = some u → h'.get? b = some u) : Inv X pins σ H { s with heap := h', toks := t' } := I.un (Un.kept k) (I.hok.kept k)
theorem Inv.laid {a : Addr} {o : HO} {t' : Nat} (I : Inv X pins σ H s) (k : ∀ b u, s.heap.get? b = some u → h'.get? b = some u) (hp : s.heap.objs.size ≤ a) (new : ObjOk X.prog X.w (upd H a o) h' a o) :
  Inv X pins σ (upd H a o) { s with heap := h', toks := t' } := I.un (Un.laid k hp (I.hok.fresh hp)) (I.hok.laid k hp new)
theorem Inv.write {x e : Addr} {o : HO} {t' : Nat} (I : Inv X pins σ H s) (mu : Mut (H x)) (he : e = x ∨ H e = some (.own x)) (k : ∀ b u, b ≠ e → s.heap.get? b = some u → h'.get? b = some u) (heo : ∃ u, h'.get? e = some u)
  (new : ObjOk X.prog X.w (upd H x o) h' x o) : Inv X pins σ (upd H x o) { s with heap := h', toks := t' } := I.un (Un.write mu he k heo) (I.hok.write mu he k heo new)
theorem Inv.pins_of {pins' : List (Addr × Obj)} (I : Inv X pins σ H s) (h : ∀ p ∈ pins', s.heap.get? p.1 = some p.2 ∧ H p.1 = none ∧ p.1 ≠ X.env.locals ∧ p.1 ∉ X.fs ∧ ∀ v, p.2.data ≠ .cell v) : Inv X pins' σ H s :=
 ⟨I.ok, I.os, I.bare, I.base, I.loc, I.cell, I.free, I.freeC, fun p hp => (List.mem_append.mp hp).elim (fun z => I.pin p (List.mem_append_left _ z)) (h p), I.hok, I.len⟩
theorem nodup_ix {N : List Str} (hN : N.Nodup) {i j : Nat} {x : Str} (a : N[i]? = some x) (b : N[j]? = some x) : i = j := by
 obtain ⟨h1, e1⟩ := List.getElem?_eq_some_iff.mp a
 obtain ⟨h2, e2⟩ := List.getElem?_eq_some_iff.mp b
 exact (List.getElem_inj hN).mp (e1.trans e2.symm)
theorem store_ok2 {M : Model} {A : Around} {E : Value → Shared → Prop} {i : Nat} {x : Str} {v : V} {u : Value} {Q : Unit → Shared → Prop} (I : Inv X pins σ H s) (hN : X.N.Nodup) (hi : X.N[i]? = some x) (hx : Loc X.env.scope x) (r : RelV v u)
  (h : ∀ s', Inv X pins (σ.set i (some v)) H s' → (∃ a, Heap.SameBut a s.heap s'.heap ∧ (a = X.env.locals ∨ X.env.cells.lookup x = some a)) → Q () s') (hf : X.fn x = true ∨ X.env.scope.names.lookup x = some .local := by first | exact .inl rfl | exact .inr rfl | assumption) : wpAny M A (storeName X.env x u) Q E s := by
 obtain ⟨m, hn, hl⟩ := id I.loc
 have hcls : (X.env.scope.kind == .class || (X.env.scope.kind == .module && X.env.locals != X.env.globals)) = false := by rw [I.ok.kind]; rfl
 have hiσ : i < σ.length := by rw [I.len]; exact (List.getElem?_eq_some_iff.mp hi).1
 have cne := I.cne
 have tracked : ∀ {a : Addr} {h' : Heap}, (∃ o, s.heap.get? a = some o ∧ H a = none) → Heap.SameBut a s.heap h' → HOk X.prog X.w H h' := fun {a h'} ha hs b ob e => by
  obtain ⟨_, _, hfree⟩ := ha
  refine (I.hok b ob e).stay (fun c w' hc q => (hs.2 c ?_).trans q) (fun _ q => q) fun _ _ q => q
  rintro rfl
  rcases hc with rfl | hc
  ·rw [hfree] at e; cases e
  ·rw [hfree] at hc; cases hc
 rcases hx with hk | hk
 ·refine wpAny_storeName_local hk hn (fun h' hn' hs => ?_) hcls
  obtain ⟨oL, _, _, hoL, _⟩ := id hn
  refine h _ ⟨I.ok, I.os, I.bare, ⟨fun b o e n hb hx => ?_, fun b o e n hb hx => ?_, I.base.free, fun b o e hx => ?_, I.base.tups, I.base.frzs, I.base.tbls⟩, ⟨_, hn', fun j y v' e1 e2 e3 => ?_⟩, fun y c e => ?_, I.free, I.freeC, fun p hp => ?_, tracked ⟨oL, hoL, I.free⟩ hs, by simpa using I.len⟩ ⟨_, hs, .inl rfl⟩
  ·exact (hs.2 b (Nat.ne_of_lt (Nat.lt_of_lt_of_le (Heap.lt_size e) I.ok.above))).trans (I.base.keep b o e n hb hx)
  ·obtain ⟨sl, e1⟩ := I.base.slot b o e n hb hx
   exact ⟨sl, (hs.2 b (Nat.ne_of_lt (Nat.lt_of_lt_of_le (Heap.lt_size e) I.ok.above))).trans e1⟩
  ·obtain ⟨o', e1⟩ := I.base.there b o e hx
   exact ⟨o', (hs.2 b (Nat.ne_of_lt (Nat.lt_of_lt_of_le (Heap.lt_size e) I.ok.above))).trans e1⟩
  ·by_cases hj : j = i
   ·subst hj
    rw [hi] at e1; cases e1
    rw [List.getElem?_set_self hiσ] at e2
    cases e2
    exact ⟨u, r, .inl ⟨hk, by simp⟩⟩
   ·rw [List.getElem?_set_ne (Ne.symm hj)] at e2
    obtain ⟨u', r', q⟩ := hl j y v' e1 e2 e3
    refine ⟨u', r', ?_⟩
    rcases q with ⟨k, e⟩ | ⟨k, c, e, z⟩
    ·refine .inl ⟨k, ?_⟩
     have : y ≠ x := fun e => hj (nodup_ix hN e1 (e ▸ hi))
     simp [this, e]
    ·exact .inr ⟨k, c, e, z.sameBut hs (cne y c e)⟩
  ·obtain ⟨w', z⟩ := I.cell y c e
   exact ⟨w', z.sameBut hs (cne y c e)⟩
  ·obtain ⟨e, n, ne, nf, d⟩ := I.pin p hp
   exact ⟨(hs.2 p.1 ne).trans e, n, ne, nf, d⟩
 ·have hfn : X.fn x = true := by
   rcases hf with z | z
   ·exact z
   ·rw [z] at hk; cases hk
  obtain ⟨c, hc⟩ := I.ok.has x (.inl hk)
  obtain ⟨w', z⟩ := I.cell x c hc
  refine wpAny_storeName_cell I.ok.kind hk hc z (fun h' hc' hs => ?_)
  obtain ⟨oc, hoc, hocd⟩ := id z
  refine h { s with heap := h' } ⟨I.ok, I.os, I.bare, ⟨fun b o e n hb hx => ?_, fun b o e n hb hx => ?_, I.base.free, fun b o e hx => ?_, I.base.tups, I.base.frzs, I.base.tbls⟩, ⟨m, hn.sameBut hs (Ne.symm (cne x c hc)), fun j y v' e1 e2 e3 => ?_⟩, fun y c' e => ?_, I.free, I.freeC, fun p hp => ?_, tracked ⟨oc, hoc, I.freeC x c hc⟩ hs, by simpa using I.len⟩ ⟨c, hs, .inr hc⟩
  ·exact (hs.2 b (Nat.ne_of_lt (Nat.lt_of_lt_of_le (Heap.lt_size e) (I.ok.cab x c hfn hc)))).trans (I.base.keep b o e n hb hx)
  ·obtain ⟨sl, e1⟩ := I.base.slot b o e n hb hx
   exact ⟨sl, (hs.2 b (Nat.ne_of_lt (Nat.lt_of_lt_of_le (Heap.lt_size e) (I.ok.cab x c hfn hc)))).trans e1⟩
  ·obtain ⟨o', e1⟩ := I.base.there b o e hx
   exact ⟨o', (hs.2 b (Nat.ne_of_lt (Nat.lt_of_lt_of_le (Heap.lt_size e) (I.ok.cab x c hfn hc)))).trans e1⟩
  ·by_cases hj : j = i
   ·subst hj
    rw [hi] at e1; cases e1
    rw [List.getElem?_set_self hiσ] at e2
    cases e2
    exact ⟨u, r, .inr ⟨.inl hk, c, hc, hc'⟩⟩
   ·rw [List.getElem?_set_ne (Ne.symm hj)] at e2
    obtain ⟨u', r', q⟩ := hl j y v' e1 e2 e3
    refine ⟨u', r', ?_⟩
    rcases q with q | ⟨k, c', e, z'⟩
    ·exact .inl q
    ·refine .inr ⟨k, c', e, z'.sameBut hs ?_⟩
     rintro rfl
     exact hj (nodup_ix hN e1 (I.ok.inj _ _ _ e hc ▸ hi))
  ·by_cases hcc : c' = c
   ·subst hcc; exact ⟨_, hc'⟩
   ·obtain ⟨w2, z2⟩ := I.cell y c' e
    exact ⟨w2, z2.sameBut hs hcc⟩
  ·obtain ⟨e, n, ne, nf, d⟩ := I.pin p hp
   refine ⟨(hs.2 p.1 ?_).trans e, n, ne, nf, d⟩
   intro q
   rw [q, hoc] at e
   have q' : oc = p.2 := Option.some.inj e
   exact d w' (by rw [← q']; exact hocd)
theorem store_ok {M : Model} {A : Around} {E : Value → Shared → Prop} {i : Nat} {x : Str} {v : V} {u : Value} {Q : Unit → Shared → Prop} (I : Inv X pins σ H s) (hN : X.N.Nodup) (hi : X.N[i]? = some x) (hx : Loc X.env.scope x) (r : RelV v u)
  (h : ∀ s', Inv X pins (σ.set i (some v)) H s' → Q () s') (hf : X.fn x = true ∨ X.env.scope.names.lookup x = some .local := by first | exact .inl rfl | exact .inr rfl | assumption) : wpAny M A (storeName X.env x u) Q E s :=
 store_ok2 I hN hi hx r (fun s' I' _ => h s' I') hf
theorem Inv.call' {s' : Shared} {ch : List Addr} (I : Inv X pins σ H s) (ho : s'.os = s.os) (u : Un (frs X.stack) ch H H' s.heap s'.heap) (hok : HOk X.prog X.w H' s'.heap) (hg : AllBare s'.gens)
  (hch : ∀ b ∈ ch, (b ∈ X.ex ∨ X.s₀.heap.objs.size ≤ b) ∧ b ≠ X.env.locals ∧ (∀ x c, X.env.cells.lookup x = some c → c ≠ b) ∧ ∀ p ∈ X.pn ++ pins, p.1 ≠ b) : Inv X pins σ H' s' := by
 obtain ⟨h', g', d', t', o'⟩ := s'
 have e : o' = s.os := ho
 subst e
 exact I.call (g' := g') (t' := t') (d' := d') u hok hg hch
end
noncomputable abbrev XK := Value → Option Addr → Hp → Prop
noncomputable abbrev St := List (Option V)
noncomputable abbrev VK := V → Hp → Prop
noncomputable abbrev TE := St → Hp → VK → Prop
noncomputable abbrev TT := St → Hp → (Bool → Hp → Prop) → Prop
noncomputable abbrev TA := St → Hp → (List V → Hp → Prop) → Prop
structure Ends where
 nx : St → Hp → Prop
 rt : VK
 bk : St → Hp → Prop := fun _ _ => False
 ct : St → Hp → Prop := fun _ _ => False
noncomputable abbrev TS := Ends → St → Hp → Prop
def EP (X : Cx) (pins : List (Addr × Obj)) (σ : St) (Q : VK) (u : Value) (s' : Shared) : Prop := ∃ v H', Inv X pins σ H' s' ∧ RelV v u ∧ Q v H'
def TP (X : Cx) (pins : List (Addr × Obj)) (σ : St) (Q : Bool → Hp → Prop) (b : Bool) (s' : Shared) : Prop := ∃ H', Inv X pins σ H' s' ∧ Q b H'
def AP (X : Cx) (pins : List (Addr × Obj)) (σ : St) (Q : List V → Hp → Prop) (us : List Value) (s' : Shared) : Prop := ∃ vs H', Inv X pins σ H' s' ∧ Vals vs us ∧ Q vs H'
def SP (X : Cx) (pins : List (Addr × Obj)) (D : Ends) (f : Flow) (s' : Shared) : Prop :=
 match f with
 | .next => ∃ σ' H', Inv X pins σ' H' s' ∧ D.nx σ' H'
 | .brk => ∃ σ' H', Inv X pins σ' H' s' ∧ D.bk σ' H'
 | .cont => ∃ σ' H', Inv X pins σ' H' s' ∧ D.ct σ' H'
 | .ret u => ∃ v σ' H', Inv X pins σ' H' s' ∧ RelV v u ∧ D.rt v H'
def PE (X : Cx) (e : Expr) (t : TE) : Prop :=
 ∀ (pins : List (Addr × Obj)) (s : Shared) (σ : St) (H : Hp) (Q : VK), Inv X pins σ H s → t σ H Q → wpAny (model X.prog X.w) X.A (eval e X.env) (EP X pins σ Q) X.xe s
def PT (X : Cx) (e : Expr) (t : TT) : Prop :=
 ∀ (pins : List (Addr × Obj)) (s : Shared) (σ : St) (H : Hp) (Q : Bool → Hp → Prop), Inv X pins σ H s → t σ H Q → wpAny (model X.prog X.w) X.A (isTrue e X.env (eval e X.env)) (TP X pins σ Q) X.xe s
def PW (X : Cx) (e : Expr) (t : TT) : Prop :=
 ∀ (whole : Sem Value) (pins : List (Addr × Obj)) (s : Shared) (σ : St) (H : Hp) (Q : Bool → Hp → Prop), Inv X pins σ H s → t σ H Q → wpAny (model X.prog X.w) X.A (isTrue e X.env whole) (TP X pins σ Q) X.xe s
theorem PW.pt {X : Cx} {e : Expr} {t : TT} (h : PW X e t) : PT X e t := h _
def PA (X : Cx) (es : List Expr) (t : TA) : Prop :=
 ∀ (pos : Pos) (pins : List (Addr × Obj)) (s : Shared) (σ : St) (H : Hp) (Q : List V → Hp → Prop), Inv X pins σ H s → t σ H Q → wpAny (model X.prog X.w) X.A (spliced (backTo pos (starEach es X.env))) (AP X pins σ Q) X.xe s
def PS (X : Cx) (st : Stmt) (t : TS) : Prop :=
 ∀ (pins : List (Addr × Obj)) (s : Shared) (σ : St) (H : Hp) (D : Ends), Inv X pins σ H s → t D σ H → wpAny (model X.prog X.w) X.A (exec st X.env) (SP X pins D) X.xe s
def PSs (X : Cx) (st : List Stmt) (t : TS) : Prop :=
 ∀ (pins : List (Addr × Obj)) (s : Shared) (σ : St) (H : Hp) (D : Ends), Inv X pins σ H s → t D σ H → wpAny (model X.prog X.w) X.A (execs st X.env) (SP X pins D) X.xe s
theorem thn {α : Type} {t : Sem α} {Q Q' : α → Shared → Prop} {M : Model} {A : Around} {E : Value → Shared → Prop} {s : Shared} (h : wpAny M A t Q E s) (hQ : ∀ a s, Q a s → Q' a s) : wpAny M A t Q' E s := wpAny_mono h hQ fun _ _ x => x
end L2
namespace L2
open PySem PySem.Spec PyProof.Rows
section
variable {X : Cx}
def tVar (i : Nat) : TE := fun σ H Q => ∃ v, σ[i]? = some (some v) ∧ Q v H
def tC (v : V) : TE := fun _ H Q => Q v H
theorem pe_var {i : Nat} {x : Str} {pos : Pos} (hN : X.N[i]? = some x) (hv : Vis X.env.scope x) (hd : (x == ("__debug__" : Str)) = false := by decide) (hcd : (x == ("__classdict__" : Str)) = false := by decide) : PE X (.Name x pos) (tVar i) := by
 intro pins s σ H Q I h
 obtain ⟨v, e, h⟩ := h
 obtain ⟨m, hn, hl⟩ := I.loc
 obtain ⟨u, r, l⟩ := hl i x v hN e hv
 have fin : EP X pins σ Q u s := ⟨v, H, I, r, h⟩
 rcases l with ⟨hk, hm⟩ | ⟨hk, c, hc, hcell⟩
 ·exact wpAny_Name (wpAny_loadName_local I.ok.kind hk hn hm fin) hd
 ·rcases hk with hk | hk
  ·exact wpAny_Name (wpAny_loadName_cell I.ok.kind hk hc hcell fin) hd
  ·exact wpAny_Name (wpAny_loadName_free I.ok.kind hk hc hcell fin hcd) hd
theorem pe_int {i j pos} : PE X (.Constant (.int i) j pos) (tC (.int i)) := fun _ _ _ H _ I h => wpAny_Constant_int ⟨.int i, H, I.tok _, ⟨_, rfl⟩, h⟩
theorem pe_bl {b j pos} : PE X (.Constant (.bool b) j pos) (tC (.bl b)) := fun _ _ _ H _ I h => Constant_bool ⟨.bl b, H, I, rfl, h⟩
theorem pe_non {j pos} : PE X (.Constant .none j pos) (tC .non) := fun _ _ _ H _ I h => Constant_none ⟨.non, H, I, rfl, h⟩
theorem pe_str {x j pos} : PE X (.Constant (.str x) j pos) (tC (.str x)) := fun _ _ _ H _ I h => Calls.Constant_str ⟨.str x, H, I.tok _, ⟨_, rfl⟩, h⟩
def Gl (X : Cx) (x : Str) : Prop := X.env.kindOf x = some .globalImplicit
theorem ld_glob {E : Value → Shared → Prop} {pins : List (Addr × Obj)} {s : Shared} {σ : St} {H : Hp} {x : Str} {u : Value} {pos : Pos} {Q : Value → Shared → Prop} (I : Inv X pins σ H s) (hg : Gl X x) (hm : X.mg x = some u) (h : Q u s)
  (hd : (x == ("__debug__" : Str)) = false := by decide) : wpAny (model X.prog X.w) X.A (eval (.Name x pos) X.env) Q E s :=
 Calls.Name_function_global I.ok.kind hg (Calls.loadGlobal_global (by rw [I.ok.glob]; exact I.mod.glob.keeps I.bk) hm h) hd
theorem ld_blt {E : Value → Shared → Prop} {pins : List (Addr × Obj)} {s : Shared} {σ : St} {H : Hp} {x : Str} {u : Value} {pos : Pos} {Q : Value → Shared → Prop} (I : Inv X pins σ H s) (hg : Gl X x) (hm : X.mg x = none) (hv : bootBuiltins x = some u) (h : Q u s)
  (hn : x ≠ "__name__" := by decide) (hd : (x == ("__debug__" : Str)) = false := by decide) : wpAny (model X.prog X.w) X.A (eval (.Name x pos) X.env) Q E s := by
 obtain ⟨mb, h1, h2⟩ := I.mod.blt
 exact Calls.Name_function_global I.ok.kind hg (Calls.loadGlobal_builtin (by rw [I.ok.glob]; exact I.mod.glob.keeps I.bk) hm (by rw [I.ok.blt]; exact h1.keeps I.bk) ((h2 x hn).trans hv) h) hd
theorem pe_glob {x : Str} {v : V} {u : Value} {pos : Pos} (hg : Gl X x) (hm : X.mg x = some u) (r : RelV v u) (hd : (x == ("__debug__" : Str)) = false := by decide) : PE X (.Name x pos) (tC v) :=
 fun _ _ _ H _ I h => ld_glob I hg hm ⟨v, H, I, r, h⟩ hd
theorem pe_bltn {x : Str} {v : V} {u : Value} {pos : Pos} (hg : Gl X x) (hm : X.mg x = none) (hv : bootBuiltins x = some u) (r : RelV v u) (hn : x ≠ "__name__" := by decide) (hd : (x == ("__debug__" : Str)) = false := by decide) : PE X (.Name x pos) (tC v) :=
 fun _ _ _ H _ I h => ld_blt I hg hm hv ⟨v, H, I, r, h⟩ hn hd
variable {a b : Expr} {ta tb : TE} {pos : Pos}
def tB (t : TE) : TT := fun σ H Q => t σ H fun x H1 => ∃ c, x = .bl c ∧ Q c H1
theorem pt_val {e : Expr} {t : TE} (h : PE X e t) (he : ∀ whole, isTrue e X.env whole = (do let v ← whole; standAt e.pos; holding [v] (truthy v)) := by intro _; rfl) : PT X e (tB t) := by
 intro pins s σ H Q I hw
 (refine isTrue_plain (thn (h pins s σ H _ I hw) ?_) (he _); rintro v s1 ⟨x, H1, I1, r1, q1⟩)
 obtain ⟨d, rfl, q⟩ := q1
 cases r1
 exact wpAny_truthy_bool ⟨H1, I1, q⟩
variable {tA tB' : TT} {rest : List Expr}
def tAnd (t u : TT) : TT := fun σ H Q => t σ H fun c H1 => if c = true then u σ H1 Q else Q false H1
def tOr (t u : TT) : TT := fun σ H Q => t σ H fun c H1 => if c = true then Q true H1 else u σ H1 Q
def tNot (t : TT) : TT := fun σ H Q => t σ H fun c H1 => Q (!c) H1
theorem pw_and1 (ha : PT X a tA) : PW X (.BoolOp .And [a] pos) tA := by
 intro wh pins s σ H Q I h
 refine isTrue_and (thn (ha pins s σ H Q I h) fun c s1 e => ?_)
 cases c with
 | true => exact isTrue_and_nil e
 | false => exact e
theorem pw_or1 (ha : PT X a tA) : PW X (.BoolOp .Or [a] pos) tA := by
 intro wh pins s σ H Q I h
 refine isTrue_or (thn (ha pins s σ H Q I h) fun c s1 e => ?_)
 cases c with
 | false => exact isTrue_or_nil e
 | true => exact e
theorem pw_and (ha : PT X a tA) (hb : PW X (.BoolOp .And (b :: rest) pos) tB') : PW X (.BoolOp .And (a :: b :: rest) pos) (tAnd tA tB') := by
 intro wh pins s σ H Q I h
 (refine isTrue_and (thn (ha pins s σ H _ I h) ?_); rintro c s1 ⟨H1, I1, q1⟩)
 cases c with
 | true => exact hb wh pins s1 σ H1 Q I1 q1
 | false => exact ⟨H1, I1, q1⟩
theorem pw_or (ha : PT X a tA) (hb : PW X (.BoolOp .Or (b :: rest) pos) tB') : PW X (.BoolOp .Or (a :: b :: rest) pos) (tOr tA tB') := by
 intro wh pins s σ H Q I h
 (refine isTrue_or (thn (ha pins s σ H _ I h) ?_); rintro c s1 ⟨H1, I1, q1⟩)
 cases c with
 | true => exact ⟨H1, I1, q1⟩
 | false => exact hb wh pins s1 σ H1 Q I1 q1
theorem pt_not (ha : PT X a tA) : PT X (.UnaryOp .Not a pos) (tNot tA) := by
 intro pins s σ H Q I h
 exact isTrue_not (ha pins s σ H (fun c H1 => Q (!c) H1) I h)
def tAndV (ta tb : TE) : TE := fun σ H Q => ta σ H fun x H1 => ∃ c, x = .bl c ∧ if c = true then tb σ H1 Q else Q (.bl false) H1
def tNotV (ta : TE) : TE := fun σ H Q => ta σ H fun x H1 => ∃ c, x = .bl c ∧ Q (.bl (!c)) H1
theorem pe_one {op} {t : TE} (h : PE X a t) : PE X (.BoolOp op [a] pos) t := fun pins s σ H Q I hw => BoolOp_one (h pins s σ H Q I hw)
theorem pe_and (ha : PE X a ta) (hb : PE X (.BoolOp .And (b :: rest) pos) tb) : PE X (.BoolOp .And (a :: b :: rest) pos) (tAndV ta tb) := by
 intro pins s σ H Q I h
 (refine BoolOp_and (thn (ha pins s σ H _ I h) ?_); rintro v s1 ⟨x, H1, I1, r1, q1⟩)
 obtain ⟨c, rfl, q1⟩ := q1
 cases r1
 refine wpAny_truthy_bool ?_
 cases c with
 | true => exact hb pins s1 σ H1 Q I1 q1
 | false => exact ⟨.bl false, H1, I1, rfl, q1⟩
theorem pe_not (ha : PE X a ta) : PE X (.UnaryOp .Not a pos) (tNotV ta) := by
 intro pins s σ H Q I h
 (refine UnaryOp_ (thn (ha pins s σ H _ I h) ?_); rintro v s1 ⟨x, H1, I1, r1, q1⟩)
 obtain ⟨c, rfl, q1⟩ := q1
 cases r1
 exact not_of (wpAny_truthy_bool ⟨.bl (!c), H1, I1, rfl, q1⟩)
def tIf (t : TT) (ta tb : TE) : TE := fun σ H Q => t σ H fun c H1 => if c = true then ta σ H1 Q else tb σ H1 Q
theorem pe_ifExp {c : Expr} (hc : PT X c tA) (ha : PE X a ta) (hb : PE X b tb) : PE X (.IfExp c a b pos) (tIf tA ta tb) := by
 intro pins s σ H Q I h
 (refine wpAny_IfExp (thn (hc pins s σ H _ I h) ?_); rintro d s1 ⟨H1, I1, q1⟩)
 cases d with
 | true => exact ha pins s1 σ H1 Q I1 q1
 | false => exact hb pins s1 σ H1 Q I1 q1
end
end L2
namespace L2
open PySem PySem.Spec PyProof.Rows
def SqL (K : PySem.W.Frag) (H : Hp) (a : Addr) (xs : List V) : Prop :=
 Rd H a (.lst xs) ∨
  ∃ (o : Obj) (its : Array Value) (n : Nat), K.lookup a = some o ∧ o.cls = .type "list" ∧ o.dict = none ∧ o.data = .seq its n ∧ its.size ≤ sizeLine ∧ Vals xs its.toList
def SqT (K : PySem.W.Frag) (H : Hp) (a : Addr) (xs : List V) : Prop :=
 Rd H a (.tup xs) ∨
  ∃ (o : Obj) (its : Array Value) (n : Nat), K.lookup a = some o ∧ o.cls = .type "tuple" ∧ o.data = .seq its n ∧ its.size ≤ sizeLine ∧ Vals xs its.toList ∧ o.dict = none
noncomputable def absV : Value → Option V
 | .none => some .non
 | .bool b => some (.bl b)
 | .int i _ => some (.int i)
 | .str x _ => some (.str x)
 | .bytes b _ => some (.byt b)
 | .float b _ => some (.flt b)
 | .ref a => some (.ref a)
 | .type n => some (.ty n)
 | _ => none
theorem RelV.abs {x : V} {u : Value} (r : RelV x u) : absV u = some x := by
 cases x with
 | non => cases r; rfl
 | bl _ => cases r; rfl
 | int _ => obtain ⟨t, rfl⟩ := r; rfl
 | str _ => obtain ⟨t, rfl⟩ := r; rfl
 | byt _ => obtain ⟨t, rfl⟩ := r; rfl
 | flt _ => obtain ⟨t, rfl⟩ := r; rfl
 | ref _ => cases r; rfl
 | ty _ => cases r; rfl
theorem RelV.inj {x y : V} {u : Value} (r : RelV x u) (q : RelV y u) : x = y := Option.some.inj (r.abs.symm.trans q.abs)
theorem Vals.inj : ∀ {xs ys : List V} {us : List Value}, Vals xs us → Vals ys us → xs = ys
 | _, _, _, .nil, .nil => rfl
 | _, _, _, .cons r t, .cons r' t' => by rw [r.inj r', Vals.inj t t']
section
variable {X : Cx} {pins : List (Addr × Obj)} {σ : St} {H : Hp} {s : Shared} {a : Addr} {xs ys : List V}
theorem SqL.of {K : PySem.W.Frag} (h : H a = some (.lst xs)) : SqL K H a xs := .inl (.inl h)
theorem SqT.of {K : PySem.W.Frag} (h : H a = some (.tup xs)) : SqT K H a xs := .inl (.inl h)
theorem Inv.list (I : Inv X pins σ H s) (h : SqL X.K H a xs) : ∃ its : List Value, Vals xs its ∧ PlainL s.heap a its.toArray ∧ xs.length ≤ sizeLine := by
 rcases h with h | ⟨o, its, n, hk, hc, hd, hs, hz, r⟩
 ·obtain ⟨z, its, n, r, e⟩ := h.ok I.hok
  exact ⟨its, r, ⟨_, n, e, rfl, rfl, rfl⟩, z⟩
 ·refine ⟨its.toList, r, ⟨o, n, I.kIn a o hk, hc, hd, by simpa using hs⟩, ?_⟩
  have e := r.length
  simp only [Array.length_toList] at e
  omega
theorem Inv.tuple (I : Inv X pins σ H s) (h : SqT X.K H a xs) : ∃ its : List Value, Vals xs its ∧ IsTup s.heap a its.toArray ∧ xs.length ≤ sizeLine := by
 rcases h with h | ⟨o, its, n, hk, hc, hs, hz, r, _⟩
 ·obtain ⟨z, its, r, p⟩ := h.ok I.hok
  exact ⟨its, r, p.tup, z⟩
 ·refine ⟨its.toList, r, ⟨o, I.kIn a o hk, hc, n, by simpa using hs⟩, ?_⟩
  have e := r.length
  simp only [Array.length_toList] at e
  omega
theorem Inv.list_inj (I : Inv X pins σ H s) (h : SqL X.K H a xs) (h' : SqL X.K H a ys) : xs = ys := by
 obtain ⟨its, r, ⟨o, n, e, _, _, d⟩, _⟩ := I.list h
 obtain ⟨its', r', ⟨o', n', e', _, _, d'⟩, _⟩ := I.list h'
 rw [e] at e'; cases e'
 rw [d] at d'
 injection d' with d1 _
 have : its = its' := by simpa using congrArg Array.toList d1
 subst this
 exact r.inj r'
theorem Inv.tuple_inj (I : Inv X pins σ H s) (h : SqT X.K H a xs) (h' : SqT X.K H a ys) : xs = ys := by
 obtain ⟨its, r, ⟨o, e, _, n, d⟩, _⟩ := I.tuple h
 obtain ⟨its', r', ⟨o', e', _, n', d'⟩, _⟩ := I.tuple h'
 rw [e] at e'; cases e'
 rw [d] at d'
 injection d' with d1 _
 have : its = its' := by simpa using congrArg Array.toList d1
 subst this
 exact r.inj r'
end
noncomputable abbrev Cx.wish (X : Cx) (E : Value → Shared → Prop) : Cx := { X with xe := E }
noncomputable abbrev Cx.nox (X : Cx) : Cx := X.wish fun _ _ => False
theorem Cx.Ok.wish {X : Cx} (ok : X.Ok) (E : Value → Shared → Prop) : (X.wish E).Ok :=
 ⟨ok.mod, ok.kind, ok.glob, ok.blt, ok.above, ok.inj, ok.has, ok.cab, ok.hd, ok.frames, ok.stk, ok.exf, ok.bs, ok.bsz, ok.noex, ok.exfs, ok.funs, ok.frf⟩
theorem Cx.Ok.unwish {X : Cx} {E : Value → Shared → Prop} (ok : (X.wish E).Ok) : X.Ok :=
 ⟨ok.mod, ok.kind, ok.glob, ok.blt, ok.above, ok.inj, ok.has, ok.cab, ok.hd, ok.frames, ok.stk, ok.exf, ok.bs, ok.bsz, ok.noex, ok.exfs, ok.funs, ok.frf⟩
section
variable {X : Cx} {pins : List (Addr × Obj)} {σ : St} {H : Hp} {s : Shared} {E : Value → Shared → Prop}
theorem Inv.wish (I : Inv X pins σ H s) (E : Value → Shared → Prop) : Inv (X.wish E) pins σ H s := ⟨I.ok.wish E, I.os, I.bare, I.base, I.loc, I.cell, I.free, I.freeC, I.pin, I.hok, I.len⟩
theorem Inv.unwish (I : Inv (X.wish E) pins σ H s) : Inv X pins σ H s := ⟨I.ok.unwish, I.os, I.bare, I.base, I.loc, I.cell, I.free, I.freeC, I.pin, I.hok, I.len⟩
theorem SP.unwish {D : Ends} {f : Flow} {s' : Shared} (h : SP (X.wish E) pins D f s') : SP X pins D f s' := by
 cases f with
 | next => obtain ⟨σ', H', I, q⟩ := h; exact ⟨σ', H', I.unwish, q⟩
 | brk => obtain ⟨σ', H', I, q⟩ := h; exact ⟨σ', H', I.unwish, q⟩
 | cont => obtain ⟨σ', H', I, q⟩ := h; exact ⟨σ', H', I.unwish, q⟩
 | ret u => obtain ⟨v, σ', H', I, r, q⟩ := h; exact ⟨v, σ', H', I.unwish, r, q⟩
theorem PE.nox {e : Expr} {t : TE} (h : PE X.nox e t) : PE X e t := fun pins s σ H Q I hw =>
 wpAny_mono (h pins s σ H Q (I.wish _) hw) (fun _ _ ⟨v, H', I', r, q⟩ => ⟨v, H', I'.unwish, r, q⟩) fun _ _ z => False.elim z
theorem PT.nox {e : Expr} {t : TT} (h : PT X.nox e t) : PT X e t := fun pins s σ H Q I hw =>
 wpAny_mono (h pins s σ H Q (I.wish _) hw) (fun _ _ ⟨H', I', q⟩ => ⟨H', I'.unwish, q⟩) fun _ _ z => False.elim z
theorem PSs.nox {st : List Stmt} {t : TS} (h : PSs X.nox st t) : PSs X st t := fun pins s σ H D I hw =>
 wpAny_mono (h pins s σ H D (I.wish _) hw) (fun _ _ q => q.unwish) fun _ _ z => False.elim z
end
section
variable {X : Cx} {st : Stmt} {rest : List Stmt} {t u : TS} {e : Expr} {te : TE} {pos : Pos}
def tNext : TS := fun D σ H => D.nx σ H
def tSeq (t u : TS) : TS := fun D σ H => t { D with nx := u D } σ H
theorem pss_nil : PSs X [] tNext := fun _ _ σ H _ I h => wpAny_execs_nil ⟨σ, H, I, h⟩
theorem pss_cons (h1 : PS X st t) (h2 : PSs X rest u) : PSs X (st :: rest) (tSeq t u) := by
 intro pins s σ H D I h
 refine wpAny_execs_cons (thn (h1 pins s σ H { D with nx := u D } I h) fun f s1 q => ?_)
 cases f with
 | next =>
  obtain ⟨σ', H', I', q⟩ := q
  exact h2 pins s1 σ' H' D I' q
 | ret v => exact q
 | brk => exact q
 | cont => exact q
theorem pss_one (h1 : PS X st t) : PSs X [st] t := by
 intro pins s σ H D I h
 refine wpAny_execs_cons (thn (h1 pins s σ H D I h) fun f s1 q => ?_)
 cases f with
 | next => exact wpAny_execs_nil q
 | ret v => exact q
 | brk => exact q
 | cont => exact q
theorem Inv.quiet {pins : List (Addr × Obj)} {σ : St} {H : Hp} {s : Shared} (I : Inv X pins σ H s) : interactive X.env = false := by simp [interactive, I.ok.kind]
def tDrop (te : TE) : TS := fun D σ H => te σ H fun _ H1 => D.nx σ H1
theorem ps_expr (he : PE X e te) (hs : swapsWith e none pos.line X.env = pure false := by rfl) : PS X (.Expr e pos) (tDrop te) := by
 intro pins s σ H D I h
 (refine wpAny_Expr_any (thn (he pins s σ H _ I h) ?_) I.quiet hs; rintro v s1 ⟨x, H1, I1, r1, q1⟩; exact ⟨σ, H1, I1, q1⟩)
def tRet (te : TE) : TS := fun D σ H => te σ H D.rt
theorem ps_ret (he : PE X e te) : PS X (.Return (some e) pos) (tRet te) := by
 intro pins s σ H D I h
 (refine wpAny_Return_some (thn (he pins s σ H _ I h) ?_); rintro v s1 ⟨x, H1, I1, r1, q1⟩; exact ⟨x, σ, H1, I1, r1, q1⟩)
def tIfS (c : TT) (t u : TS) : TS := fun D σ H => c σ H fun b H1 => if b = true then t D σ H1 else u D σ H1
theorem ps_if {c : Expr} {a b : List Stmt} {tc : TT} (hc : PT X c tc) (ha : PSs X a t) (hb : PSs X b u) : PS X (.If c a b pos) (tIfS tc t u) := by
 intro pins s σ H D I h
 (refine wpAny_If (thn (hc pins s σ H _ I h) ?_); rintro d s1 ⟨H1, I1, q1⟩)
 cases d with
 | true => exact ha pins s1 σ H1 D I1 q1
 | false => exact hb pins s1 σ H1 D I1 q1
def tNever : TS := fun _ _ _ => False
theorem ps_never : PS X st tNever := fun _ _ _ _ _ _ h => h.elim
end
noncomputable abbrev TG := V → St → Hp → (St → Hp → Prop) → Prop
noncomputable abbrev TGs := List V → St → Hp → (St → Hp → Prop) → Prop
def PG (X : Cx) (target : Expr) (t : TG) : Prop :=
 ∀ (pins : List (Addr × Obj)) (s : Shared) (σ : St) (H : Hp) (v : V) (u : Value) (Q : St → Hp → Prop), Inv X pins σ H s → RelV v u → t v σ H Q →
  wpAny (model X.prog X.w) X.A (assign target X.env u) (fun _ s' => ∃ σ' H', Inv X pins σ' H' s' ∧ Q σ' H') X.xe s
def PGs (X : Cx) (ts : List Expr) (t : TGs) : Prop :=
 ∀ (pins : List (Addr × Obj)) (s : Shared) (σ : St) (H : Hp) (vs : List V) (us : List Value) (Q : St → Hp → Prop), Inv X pins σ H s → Vals vs us → t vs σ H Q →
  wpAny (model X.prog X.w) X.A (assignInOrder ((assignEach ts X.env).map (·.2)) us) (fun _ s' => ∃ σ' H', Inv X pins σ' H' s' ∧ Q σ' H') X.xe s
noncomputable abbrev TSet := V → V → V → Hp → (Hp → Prop) → Prop
def PSet (X : Cx) (t : TSet) : Prop :=
 ∀ (pins : List (Addr × Obj)) (s : Shared) (σ : St) (H : Hp) (o i v : V) (ov iv u : Value) (Q : Hp → Prop), Inv X pins σ H s → RelV o ov → RelV i iv → RelV v u → t o i v H Q →
  wpAny (model X.prog X.w) X.A (setItem ov iv u) (fun _ s' => ∃ H', Inv X pins σ H' s' ∧ Q H') X.xe s
section
variable {X : Cx} {pos : Pos}
def gName (i : Nat) : TG := fun v σ H Q => Q (σ.set i (some v)) H
theorem pg_name {i : Nat} {x : Str} (hN : X.N.Nodup) (hi : X.N[i]? = some x) (hx : Loc X.env.scope x) (hf : X.fn x = true ∨ X.env.scope.names.lookup x = some .local := by first | exact .inl rfl | exact .inr rfl | assumption) : PG X (.Name x pos) (gName i) := by
 intro pins s σ H v u Q I r h
 exact wpAny_assign_Name (store_ok I hN hi hx r (fun s' I' => ⟨_, H, I', h⟩) hf)
def gNil : TGs := fun vs σ H Q => vs = [] ∧ Q σ H
def gCons (t : TG) (u : TGs) : TGs := fun vs σ H Q => ∃ v r, vs = v :: r ∧ t v σ H fun σ' H' => u r σ' H' Q
theorem pgs_nil : PGs X [] gNil := by
 intro pins s σ H vs us Q I r h
 obtain ⟨e, h⟩ := h
 subst e
 cases r
 exact assignInOrder_nil ⟨σ, H, I, h⟩
theorem pgs_cons {e : Expr} {es : List Expr} {t : TG} {u : TGs} (h1 : PG X e t) (h2 : PGs X es u)
  (hs : (assignEach (e :: es) X.env).map (·.2) = assign e X.env :: (assignEach es X.env).map (·.2) := by rfl) : PGs X (e :: es) (gCons t u) := by
 intro pins s σ H vs us Q I r h
 obtain ⟨v, vr, e1, h⟩ := h
 subst e1
 cases r with
 | cons r rr =>
  rw [hs]
  (refine assignInOrder_cons (thn (h1 pins s σ H _ _ _ I r h) ?_); rintro _ s1 ⟨σ1, H1, I1, q1⟩)
  exact h2 pins s1 σ1 H1 _ _ Q I1 rr q1
def gTup (K : PySem.W.Frag) (n : Nat) (t : TGs) : TG := fun v σ H Q => ∃ a xs, v = .ref a ∧ SqT K H a xs ∧ xs.length = n ∧ t xs σ H Q
theorem pg_tup {es : List Expr} {k : Nat} {t : TGs} {n : Nat} (hc : X.calm = true) (h : PGs X es t)
  (hn : (assignEach es X.env).length = n := by rfl) (hst : (assignEach es X.env).findIdx? (·.1) = none := by rfl) : PG X (.Tuple es k pos) (gTup X.K n t) := by
 intro pins s σ H v u Q I r hw
 obtain ⟨a, xs, e1, hq, hl, hw⟩ := hw
 subst e1
 cases r
 obtain ⟨its, rv, ht, hz⟩ := I.tuple hq
 refine assign_Tuple_tuple (I.ok.hd hc) ht (by simp [hn, ← hl, rv.length]) hst fun h' hx => ?_
 have I1 : Inv X pins σ H { s with heap := h' } := I.kept (t' := s.toks) fun b o e => hx b o (Nat.ne_of_lt (Heap.lt_size e)) e
 exact h pins _ σ H xs _ Q I1 (by simpa using rv) hw
def gSub (to ti : TE) (t : TSet) : TG := fun v σ H Q => to σ H fun o H1 => ti σ H1 fun i H2 => t o i v H2 fun H3 => Q σ H3
theorem pg_sub {o i : Expr} {to ti : TE} {t : TSet} (ho : PE X o to) (hi : PE X i ti) (hs : PSet X t)
  (ha : ∀ v, assign (.Subscript o i pos) X.env v = (do
   let ov ← holding [v] (eval o X.env)
   let iv ← holding [v, ov] (eval i X.env)
   standAt pos
   holding [v, ov, iv] (setItem ov iv v)
   release [v, ov, iv] []) := by intro _; rfl) : PG X (.Subscript o i pos) (gSub to ti t) := by
 intro pins s σ H v u Q I r h
 rw [ha]
 (refine wpAny_bind (wpAny_holding (thn (ho pins s σ H _ I h) ?_)); rintro ov s1 ⟨x, H1, I1, r1, q1⟩)
 (refine wpAny_bind (wpAny_holding (thn (hi pins s1 σ H1 _ I1 q1) ?_)); rintro iv s2 ⟨y, H2, I2, r2, q2⟩)
 (refine wpAny_bind (wpAny_standAt (wpAny_bind (wpAny_holding (thn (hs pins s2 σ H2 x y v ov iv u _ I2 r1 r2 r q2) ?_)))); rintro _ s3 ⟨H3, I3, q3⟩)
 exact wpAny_release ⟨σ, H3, I3, q3⟩
def tAsg (te : TE) (g : TG) : TS := fun D σ H => te σ H fun x H1 => g x σ H1 D.nx
theorem ps_asg {tg e : Expr} {te : TE} {g : TG} (he : PE X e te) (hg : PG X tg g) (hs : swapsWithSole [tg] e pos.line X.env = pure false := by rfl) (hw : swappedStores [tg] e X.env = pure none := by rfl)
  (h1 : (assignEach [tg] X.env).map (·.2) = [assign tg X.env] := by rfl) : PS X (.Assign [tg] e pos) (tAsg te g) := by
 intro pins s σ H D I h
 (refine wpAny_Assign_stores (thn (he pins s σ H _ I h) ?_) hs hw; rintro v s1 ⟨x, H1, I1, r1, q1⟩)
 rw [h1]
 exact thn (hg pins s1 σ H1 x v _ I1 r1 q1) fun _ s2 q => q
theorem ps_set {i : Nat} {x : Str} {e : Expr} {te : TE} {pos' : Pos} (hN : X.N.Nodup) (hi : X.N[i]? = some x) (hx : Loc X.env.scope x) (he : PE X e te) (hs : swapsWith e (some (.Name x pos')) pos.line X.env = pure false := by rfl) (hf : X.fn x = true ∨ X.env.scope.names.lookup x = some .local := by first | exact .inl rfl | exact .inr rfl | assumption) :
  PS X (.Assign [.Name x pos'] e pos) (tAsg te (gName i)) := by
 intro pins s σ H D I h
 (refine wpAny_Assign_Name (thn (he pins s σ H _ I h) ?_) hs; rintro v s1 ⟨y, H1, I1, r1, q1⟩)
 exact store_ok I1 hN hi hx r1 (fun s2 I2 => ⟨_, H1, I2, q1⟩) hf
end
section
variable {X : Cx} {pos : Pos}
end
structure It where
 go : Nat → Hp → Prop
 yld : Nat → Hp → V → Hp → Prop
 stop : Nat → Hp → Prop
def FpOk (X : Cx) (pins : List (Addr × Obj)) (H : Hp) (b : Addr) : Prop :=
 H b = none ∧ b ≠ X.env.locals ∧ b ∉ X.fs ∧ (b ∈ X.ex ∨ X.s₀.heap.objs.size ≤ b) ∧ (∀ x c, X.env.cells.lookup x = some c → c ≠ b) ∧ ∀ p ∈ X.pn ++ pins, p.1 ≠ b
theorem Inv.fpOk {X : Cx} {pins : List (Addr × Obj)} {σ : St} {H H' : Hp} {s : Shared} {b : Addr} (I : Inv X pins σ H s) (hb : s.heap.objs.size ≤ b) (hn : H' b = none) : FpOk X pins H' b := by
 refine ⟨hn, Nat.ne_of_gt (Nat.lt_of_lt_of_le I.lt hb), I.nofs hb, .inr (Nat.le_trans I.sz hb), fun x c e z => ?_, fun p hp z => ?_⟩
 ·obtain ⟨v, q⟩ := I.cell x c e
  exact absurd (Nat.lt_of_lt_of_le q.lt (by rw [z]; exact hb)) (Nat.lt_irrefl _)
 ·exact absurd (Nat.lt_of_lt_of_le (Heap.lt_size (I.pin p hp).1) (by rw [z]; exact hb)) (Nat.lt_irrefl _)
structure Turn (P : Program) (w : World) (K : PySem.W.Frag) (tg : Expr) (J : It) (fp : List Addr) (it : Addr) (tn : Nat → Heap → Prop) : Prop where
 mem : it ∈ fp
 obj : ∀ i h, tn i h → ∀ b ∈ fp, ∃ o, h.get? b = some o ∧ ∀ v, o.data ≠ .cell v
 keep : ∀ i h h', tn i h → (∀ b ∈ fp, ∀ o, h.get? b = some o → h'.get? b = some o) → tn i h'
 item : ∀ (X : Cx), X.prog = P → X.w = w → X.K = K → X.calm = true → ∀ (i : Nat) (pins : List (Addr × Obj)) (s : Shared) (σ : St) (H : Hp) (E : Value → Shared → Prop), Inv X pins σ H s → (∀ b ∈ fp, FpOk X pins H b) → tn i s.heap → J.go i H →
  wpAny (model P w) X.A (pyNext (.ref it)) (fun r s1 => ∃ u, r = some u ∧
   wpAny (model P w) X.A (letOwnedTupleGo tg (.ref it) u) (fun _ s2 => ∃ x H', Inv X pins σ H' s2 ∧ RelV x u ∧ J.yld i H x H' ∧ tn (i + 1) s2.heap ∧ ∀ b ∈ fp, H' b = none) E s1) E s
 done : ∀ (X : Cx), X.prog = P → X.w = w → X.K = K → X.calm = true → ∀ (i : Nat) (pins : List (Addr × Obj)) (s : Shared) (σ : St) (H : Hp) (E : Value → Shared → Prop), Inv X pins σ H s → (∀ b ∈ fp, FpOk X pins H b) → tn i s.heap → J.stop i H →
  wpAny (model P w) X.A (pyNext (.ref it)) (fun r s1 => r = none ∧ Inv X pins σ H s1) E s
 self : ∀ (A : Around) (i : Nat) (s : Shared) (Q : Value → Shared → Prop) (E : Value → Shared → Prop), tn i s.heap → Q (.ref it) s → wpAny (model P w) A (pyIter (.ref it)) Q E s
noncomputable abbrev TI := St → Hp → (It → Hp → Prop) → Prop
def PIE (X : Cx) (pins : List (Addr × Obj)) (σ : St) (tg : Expr) (R : It → Hp → Prop) (itv : Value) (s2 : Shared) : Prop :=
 ∃ (it : Addr) (fp : List Addr) (tn : Nat → Heap → Prop) (J : It) (H' : Hp), itv = .ref it ∧ Inv X pins σ H' s2 ∧ Turn X.prog X.w X.K tg J fp it tn ∧ tn 0 s2.heap ∧ (∀ b ∈ fp, FpOk X pins H' b) ∧ R J H'
def PI (X : Cx) (tg iter : Expr) (wi : TI) : Prop :=
 ∀ (pins : List (Addr × Obj)) (s : Shared) (σ : St) (H : Hp) (R : It → Hp → Prop), Inv X pins σ H s → wi σ H R →
  wpAny (model X.prog X.w) X.A (eval iter X.env) (fun v s1 => wpAny (model X.prog X.w) X.A (pyIter v) (PIE X pins σ tg R) X.xe s1) X.xe s
theorem go_of {M : Model} {A : Around} {E : Value → Shared → Prop} {s : Shared} {tg : Expr} {it : Addr} {u : Value} {o : Obj} {n : String} {vs : Array Value} {Q : Unit → Shared → Prop} (ho : s.heap.get? it = some o) (hc : o.cls = .type n) (hd : o.data = .fields vs)
    (hn : ["enumerate", "zip", "dict_itemiterator", "dict_reverseitemiterator", "odict_iterator", "itertools.zip_longest", "itertools.pairwise"].contains n = false) (hQ : Q () s) : wpAny M A (letOwnedTupleGo tg (.ref it) u) Q E s := by
  unfold letOwnedTupleGo
  cases tg <;> first
    | exact wpAny_pure hQ
    | (cases u <;> first
        | exact wpAny_pure hQ
        | (refine wpAny_bind (wpAny_load ho ?_)
           rw [hc, hd]
           show wpAny M A (if (["enumerate", "zip", "dict_itemiterator", "dict_reverseitemiterator", "odict_iterator", "itertools.zip_longest", "itertools.pairwise"].contains n && vs[0]? == some (rawInt _)) = true then _ else _) Q E s
           rw [if_neg (by intro h; rw [hn, Bool.false_and] at h; cases h)]
           exact wpAny_pure hQ))
noncomputable def Itl (K : PySem.W.Frag) (a : Addr) : It :=
 ⟨fun i H => ∃ xs x, SqL K H a xs ∧ xs[i]? = some x, fun i H x H' => H' = H ∧ ∀ xs, SqL K H a xs → xs[i]? = some x, fun i H => ∃ xs, SqL K H a xs ∧ xs.length ≤ i⟩
noncomputable def Itt (K : PySem.W.Frag) (a : Addr) : It :=
 ⟨fun i H => ∃ xs x, SqT K H a xs ∧ xs[i]? = some x, fun i H x H' => H' = H ∧ ∀ xs, SqT K H a xs → xs[i]? = some x, fun i H => ∃ xs, SqT K H a xs ∧ xs.length ≤ i⟩
noncomputable def Itr (lo : Int) (n : Nat) : It := ⟨fun i _ => i < n, fun i H x H' => H' = H ∧ x = .int (lo + i), fun i _ => n ≤ i⟩
theorem turn_list {P : Program} {w : World} {K : PySem.W.Frag} {tg : Expr} (a it : Addr) : Turn P w K tg (Itl K a) [it] it (fun i h => h.IsListIter it a i) where
 mem := by simp
 obj := fun i h st b hb => by
  have e : b = it := by simpa using hb
  subst e
  obtain ⟨o, e, c, d⟩ := st
  exact ⟨o, e, fun v z => by rw [d] at z; cases z⟩
 keep := fun i h h' st k => st.at fun o e => k it (by simp) o e
 item := by
  intro X hP hw hK hc i pins s σ H E I hf st hg
  subst hP hw hK
  obtain ⟨xs, x, hq, hx⟩ := hg
  obtain ⟨its, rv, p, hz⟩ := I.list hq
  obtain ⟨u, hu, ru⟩ := rv.get hx
  obtain ⟨f0, f1, f2, f3, f4, f5⟩ := hf it (by simp)
  refine wpAny_pyNext_list_item st p.isList (x := u) (by simpa using hu) fun h' st' sb => ?_
  have I1 : Inv X pins σ H { s with heap := h' } := I.turned (t' := s.toks) (fun b o hb e => (sb.2 b hb).trans e) f0 f1 f3 f4 f5
  obtain ⟨o, e, c, d⟩ := id st'
  exact ⟨u, rfl, go_of (s := { s with heap := h' }) e c d (by decide) ⟨x, H, I1, ru, ⟨rfl, fun ys hy => by rw [I.list_inj hy hq]; exact hx⟩, st', fun b hb => (hf b hb).1⟩⟩
 done := by
  intro X hP hw hK hc i pins s σ H E I hf st hg
  subst hP hw hK
  obtain ⟨xs, hq, hx⟩ := hg
  obtain ⟨its, rv, p, hz⟩ := I.list hq
  obtain ⟨f0, f1, f2, f3, f4, f5⟩ := hf it (by simp)
  have hl := rv.length
  exact wpAny_pyNext_list_end (I.ok.hd hc) st p.isList (by simp; omega) fun h' eb => ⟨rfl, I.turned (t' := s.toks) (fun b o hb e => eb b o hb e) f0 f1 f3 f4 f5⟩
 self := fun _ _ _ _ _ st h => wpAny_pyIter_listiter st h
theorem turn_tuple {P : Program} {w : World} {K : PySem.W.Frag} {tg : Expr} (a it : Addr) : Turn P w K tg (Itt K a) [it] it (fun i h => h.IsTupleIter it a i) where
 mem := by simp
 obj := fun i h st b hb => by
  have e : b = it := by simpa using hb
  subst e
  obtain ⟨o, e, c, d⟩ := st
  exact ⟨o, e, fun v z => by rw [d] at z; cases z⟩
 keep := fun i h h' st k => st.at fun o e => k it (by simp) o e
 item := by
  intro X hP hw hK hc i pins s σ H E I hf st hg
  subst hP hw hK
  obtain ⟨xs, x, hq, hx⟩ := hg
  obtain ⟨its, rv, p, hz⟩ := I.tuple hq
  obtain ⟨u, hu, ru⟩ := rv.get hx
  obtain ⟨f0, f1, f2, f3, f4, f5⟩ := hf it (by simp)
  refine wpAny_pyNext_tuple_item st (show s.heap.IsTuple a its.toArray from p) (x := u) (by simpa using hu) fun h' st' sb => ?_
  have I1 : Inv X pins σ H { s with heap := h' } := I.turned (t' := s.toks) (fun b o hb e => (sb.2 b hb).trans e) f0 f1 f3 f4 f5
  obtain ⟨o, e, c, d⟩ := id st'
  exact ⟨u, rfl, go_of (s := { s with heap := h' }) e c d (by decide) ⟨x, H, I1, ru, ⟨rfl, fun ys hy => by rw [I.tuple_inj hy hq]; exact hx⟩, st', fun b hb => (hf b hb).1⟩⟩
 done := by
  intro X hP hw hK hc i pins s σ H E I hf st hg
  subst hP hw hK
  obtain ⟨xs, hq, hx⟩ := hg
  obtain ⟨its, rv, p, hz⟩ := I.tuple hq
  obtain ⟨f0, f1, f2, f3, f4, f5⟩ := hf it (by simp)
  have hl := rv.length
  exact wpAny_pyNext_tuple_end (I.ok.hd hc) st (show s.heap.IsTuple a its.toArray from p) (by simp; omega) fun h' eb => ⟨rfl, I.turned (t' := s.toks) (fun b o hb e => eb b o hb e) f0 f1 f3 f4 f5⟩
 self := fun _ _ _ _ _ st h => wpAny_pyIter_tupleiter st h
theorem turn_range {P : Program} {w : World} {K : PySem.W.Frag} {tg : Expr} (it : Addr) (lo : Int) (n : Nat) : Turn P w K tg (Itr lo n) [it] it (fun i h => IsRangeIter h it (lo + (i : Nat) * 1) ((n : Int) - (i : Nat)) 1) where
 mem := by simp
 obj := fun i h st b hb => by
  have e : b = it := by simpa using hb
  subst e
  exact ⟨_, st, fun v z => by
   have z' : Data.fields _ = Data.cell v := z
   cases z'⟩
 keep := fun i h h' st k => k it (by simp) _ st
 item := by
  intro X hP hw hK hc i pins s σ H E I hf st hg
  subst hP hw hK
  obtain ⟨f0, f1, f2, f3, f4, f5⟩ := hf it (by simp)
  have W := Walks.range (prog := X.prog) (w := X.w) (I.ok.hd hc) it lo 1 n
  refine W.item i s _ _ hg st fun v h' tk hv st' kk => ?_
  obtain ⟨t, rfl⟩ := hv
  have I1 : Inv X pins σ H { s with heap := h', toks := tk } := I.turned (fun b o hb e => kk b o (by simpa using hb) e) f0 f1 f3 f4 f5
  refine ⟨_, rfl, go_of (s := { s with heap := h', toks := tk }) (n := "range_iterator") st' rfl rfl (by decide) ⟨.int (lo + i), H, I1, ⟨t, ?_⟩, ⟨rfl, rfl⟩, st', fun b hb => (hf b hb).1⟩⟩
  rw [Int.mul_one]
 done := by
  intro X hP hw hK hc i pins s σ H E I hf st hg
  subst hP hw hK
  obtain ⟨f0, f1, f2, f3, f4, f5⟩ := hf it (by simp)
  exact wpAny_pyNext_range_end (I.ok.hd hc) st (by have : n ≤ i := hg; omega) fun h' eb => ⟨rfl, I.turned (t' := s.toks) (fun b o hb e => eb b o hb e) f0 f1 f3 f4 f5⟩
 self := fun _ _ _ _ _ st h => wpAny_pyIter_rangeiter st h
end L2
namespace L2
open PySem PySem.Spec PyProof.Rows
section
variable {X : Cx} {tg : Expr}
theorem range_it {pins : List (Addr × Obj)} {σ : St} {H : Hp} {s : Shared} {R : It → Hp → Prop} {E : Value → Shared → Prop} {lo hi : Int} {t u v : Tok} {tk : Nat} (I : Inv X pins σ H s) (h1 : -(2 ^ 62) ≤ lo) (h2 : lo < 2 ^ 62) (h3 : -(2 ^ 62) ≤ hi) (h4 : hi < 2 ^ 62)
  (q : R (Itr lo (hi - lo).toNat) H) : wpAny (model X.prog X.w) X.A (pyIter (.ref s.heap.objs.size)) (PIE X pins σ tg R) E { s with heap := s.heap.push { cls := .type "range", data := .fields #[.int lo t, .int hi u, .int 1 v] }, toks := tk } := by
 refine wpAny_pyIter_range (IsRange.new ..) (small_one h1 h2 h3 h4) ?_
 have I1 : Inv X pins σ H { s with heap := s.heap.push { cls := .type "range", data := .fields #[.int lo t, .int hi u, .int 1 v] }, toks := tk } := I.kept fun b o e => Heap.get?_push_of_some _ e
 refine ⟨(s.heap.push { cls := .type "range", data := .fields #[.int lo t, .int hi u, .int 1 v] }).objs.size, [(s.heap.push { cls := .type "range", data := .fields #[.int lo t, .int hi u, .int 1 v] }).objs.size], _, _, H, rfl,
  I1.kept (t' := tk) fun b o e => Heap.get?_push_of_some _ e, turn_range _ lo (hi - lo).toNat, ?_, fun b hb => ?_, q⟩
 ·have e1 : lo + ((0 : Nat) : Int) * 1 = lo := by simp
  have e2 : (((hi - lo).toNat : Nat) : Int) - ((0 : Nat) : Int) = Builtin.Range.rangeSize lo hi 1 := by rw [rangeSize_one]; split <;> omega
  show IsRangeIter _ _ (lo + ((0 : Nat) : Int) * 1) ((((hi - lo).toNat : Nat) : Int) - ((0 : Nat) : Int)) 1
  rw [e1, e2]
  exact Heap.get?_push_size _ rfl
 ·have e : b = (s.heap.push { cls := .type "range", data := .fields #[.int lo t, .int hi u, .int 1 v] }).objs.size := by simpa using hb
  subst e
  exact I1.fpOk (Nat.le_refl _) (I1.hok.fresh (Nat.le_refl _))
def iRng1 (ta : TA) : TI := fun σ H R => ta σ H fun vs H1 => ∃ j : Int, vs = [.int j] ∧ -(2 ^ 62) ≤ j ∧ j < 2 ^ 62 ∧ R (Itr 0 j.toNat) H1
theorem pi_range1 {a : Expr} {ta : TA} {p pos : Pos} (hg : Gl X "range") (hm : X.mg "range" = none) (ha : PA X [a] ta) (hs : starEach [a] X.env = [(false, eval a X.env)] := by rfl) : PI X tg (.Call (.Name "range" p) [a] [] pos) (iRng1 ta) := by
 intro pins s σ H R I h
 (refine Call_ (ld_blt I hg hm boot_range (PyProof.Rows.callWith_type1 (thn (ha pos pins s σ H _ I h) ?_) hs rfl)); rintro us s1 ⟨vs, H1, I1, r1, q1⟩)
 obtain ⟨j, e, q1, q2, q⟩ := q1
 subst e
 cases r1 with
 | cons r rr =>
  cases rr
  obtain ⟨t, rfl⟩ := r
  exact call_range_1 (range_it I1 (by omega) (by omega) q1 q2 (by simpa using q))
def tFor (wi : TI) (g : TG) (tb : TS) : TS := fun D σ H => wi σ H fun J H1 => ∃ W : Nat → Nat → St → Hp → Prop, (∃ m, W 0 m σ H1) ∧ ∀ i m σ H, W i m σ H →
 (J.stop i H ∧ D.nx σ H) ∨ (J.go i H ∧ ∃ N : St → Hp → Prop, (∀ σ' H', N σ' H' → ∃ m', m' < m ∧ W (i + 1) m' σ' H') ∧ ∀ x H', J.yld i H x H' → g x σ H' fun σ2 H2 => tb { D with nx := N, ct := N, bk := D.nx } σ2 H2)
noncomputable def pinsAt (fp : List Addr) (h : Heap) : List (Addr × Obj) := fp.filterMap fun b => (h.get? b).map fun o => (b, o)
theorem mem_pinsAt {fp : List Addr} {h : Heap} {b : Addr} {o : Obj} (hb : b ∈ fp) (e : h.get? b = some o) : (b, o) ∈ pinsAt fp h := List.mem_filterMap.mpr ⟨b, hb, by rw [e]; rfl⟩
theorem of_pinsAt {fp : List Addr} {h : Heap} {p : Addr × Obj} (hp : p ∈ pinsAt fp h) : p.1 ∈ fp ∧ h.get? p.1 = some p.2 := by
 obtain ⟨b, hb, e⟩ := List.mem_filterMap.mp hp
 cases q : h.get? b with
 | none => rw [q] at e; cases e
 | some o =>
  rw [q] at e
  have e' : (b, o) = p := Option.some.inj e
  subst e'
  exact ⟨hb, q⟩
theorem Inv.pinned {pins : List (Addr × Obj)} {σ : St} {H : Hp} {s : Shared} {fp : List Addr} (I : Inv X pins σ H s) (hf : ∀ b ∈ fp, FpOk X pins H b) (ho : ∀ b ∈ fp, ∃ o, s.heap.get? b = some o ∧ ∀ v, o.data ≠ .cell v) : Inv X (pins ++ pinsAt fp s.heap) σ H s :=
 I.pins_of fun p hp => (List.mem_append.mp hp).elim (fun z => I.pin p (List.mem_append_right _ z)) fun z => by
  obtain ⟨hb, e⟩ := of_pinsAt z
  obtain ⟨f0, f1, f2, _⟩ := hf p.1 hb
  obtain ⟨o, e', d⟩ := ho p.1 hb
  rw [e] at e'; cases e'
  exact ⟨e, f0, f1, f2, d⟩
theorem Inv.unpinned {pins pl : List (Addr × Obj)} {σ : St} {H : Hp} {s : Shared} (I : Inv X (pins ++ pl) σ H s) : Inv X pins σ H s := I.pins_of fun p hp => I.pin p (List.mem_append_right _ (List.mem_append_left _ hp))
theorem ps_for {iter : Expr} {body : List Stmt} {wi : TI} {g : TG} {tb : TS} {pos : Pos} (hp : PassesOwn (model X.prog X.w) X.A X.env X.xe) (hc : X.calm = true) (hi : PI X tg iter wi) (hg : PG X tg g) (hb : PSs X body tb)
  (hs : ∀ x, foldedSetIterable iter X.env x = pure x := by intro _; rfl) : PS X (.For tg iter body [] pos) (tFor wi g tb) := by
 intro pins s σ H D I h
 refine wpAny_For (thn (hi pins s σ H _ I h) fun v s1 h1 => thn h1 fun itv s2 h2 => ?_) hs
 obtain ⟨it, fp, tn, J, H2, e, I2, T, st2, f2, W, ⟨m0, w0⟩, turn⟩ := h2
 subst e
 have stat : ∀ {H' : Hp}, (∀ b ∈ fp, H' b = none) → ∀ b ∈ fp, FpOk X pins H' b := fun hn b hb => ⟨hn b hb, (f2 b hb).2⟩
 refine codeAny_forLoop_any (fun n s' => ∃ i σ' H', Inv X pins σ' H' s' ∧ tn i s'.heap ∧ (∀ b ∈ fp, H' b = none) ∧ W i n σ' H') ?_ m0 ⟨0, σ, H2, I2, st2, fun b hb => (f2 b hb).1, w0⟩
 rintro n s3 ⟨i, σ3, H3, I3, st3, fr3, w3⟩
 rcases turn i n σ3 H3 w3 with ⟨stop, qn⟩ | ⟨go, N, hN, step⟩
 ·(refine wpAny_passesOwn hp (thn (T.done X rfl rfl rfl hc i pins s3 σ3 H3 X.xe I3 (stat fr3) st3 stop) ?_); rintro r s4 ⟨hr, I4⟩)
  subst hr
  exact wpAny_execs_nil ⟨σ3, H3, I4, qn⟩
 ·(refine wpAny_passesOwn hp (thn (T.item X rfl rfl rfl hc i pins s3 σ3 H3 X.xe I3 (stat fr3) st3 go) ?_); rintro r s4 ⟨u, hr, h4⟩)
  subst hr
  (refine wpAny_passesOwn hp (thn h4 ?_); rintro _ s5 ⟨x, H5, I5, r5, y5, st5, fr5⟩)
  have I5' := I5.pinned (stat fr5) (T.obj _ _ st5)
  (refine wpAny_passesOwn hp (thn (hg _ s5 σ3 H5 x u _ I5' r5 (step x H5 y5)) ?_); rintro _ s6 ⟨σ6, H6, I6, q6⟩)
  refine wpAny_passesOwn hp (thn (hb _ s6 σ6 H6 _ I6 q6) fun f s7 q7 => ?_)
  have again : ∀ {σ7 : St} {H7 : Hp}, Inv X (pins ++ pinsAt fp s5.heap) σ7 H7 s7 → N σ7 H7 → ∃ m, m < n ∧ ∃ i σ' H', Inv X pins σ' H' s7 ∧ tn i s7.heap ∧ (∀ b ∈ fp, H' b = none) ∧ W i m σ' H' := fun {σ7 H7} I7 n7 => by
   obtain ⟨m', hm, w7⟩ := hN σ7 H7 n7
   refine ⟨m', hm, i + 1, σ7, H7, I7.unpinned, T.keep _ _ _ st5 fun b hb o e => (I7.pin (b, o) (List.mem_append_right _ (List.mem_append_right _ (mem_pinsAt hb e)))).1, fun b hb => ?_, w7⟩
   obtain ⟨o, e, d⟩ := T.obj _ _ st5 b hb
   exact (I7.pin (b, o) (List.mem_append_right _ (List.mem_append_right _ (mem_pinsAt hb e)))).2.1
  cases f with
  | next => obtain ⟨σ7, H7, I7, n7⟩ := q7; exact again I7 n7
  | cont => obtain ⟨σ7, H7, I7, n7⟩ := q7; exact again I7 n7
  | brk => obtain ⟨σ7, H7, I7, q7⟩ := q7; exact ⟨σ7, H7, I7.unpinned, q7⟩
  | ret v => obtain ⟨x7, σ7, H7, I7, r7, q7⟩ := q7; exact ⟨x7, σ7, H7, I7.unpinned, r7, q7⟩
end
end L2
namespace L2
open PySem PySem.Spec PyProof.Rows
noncomputable abbrev R2 := V → V → Hp → VK → Prop
def OpR (X : Cx) (f : Value → Value → Sem Value) (r : R2) : Prop :=
 ∀ (pins : List (Addr × Obj)) (s : Shared) (σ : St) (H : Hp) (x y : V) (v u : Value) (Q : VK), Inv X pins σ H s → RelV x v → RelV y u → r x y H Q →
  wpAny (model X.prog X.w) X.A (f v u) (EP X pins σ Q) X.xe s
def CallR (X : Cx) (f : Value) (r : List V → Hp → VK → Prop) : Prop :=
 ∀ (pins : List (Addr × Obj)) (s : Shared) (σ : St) (H : Hp) (xs : List V) (us : List Value) (Q : VK), Inv X pins σ H s → Vals xs us → r xs H Q →
  wpAny (model X.prog X.w) X.A (call f us) (EP X pins σ Q) X.xe s
def tOp (r : R2) (ta tb : TE) : TE := fun σ H Q => ta σ H fun x H1 => tb σ H1 fun y H2 => r x y H2 Q
def rI (C : Int → Int → Prop) (g : Int → Int → V) : R2 := fun x y H Q => ∃ i j, x = .int i ∧ y = .int j ∧ C i j ∧ Q (g i j) H
def rI0 (g : Int → Int → V) : R2 := fun x y H Q => ∃ i j, x = .int i ∧ y = .int j ∧ Q (g i j) H
section
variable {X : Cx} {a b c : Expr} {ta tb tc : TE} {pos : Pos}
theorem binT (ha : PE X a ta) (hb : PE X b tb) {pins : List (Addr × Obj)} {s : Shared} {σ : St} {H : Hp} {R : V → V → Hp → Prop} (I : Inv X pins σ H s)
  (h : ta σ H fun x H1 => tb σ H1 fun y H2 => R x y H2) {Q : Value → Shared → Prop} {f : Value → Value → Sem Value}
  (hf : ∀ v u s2 x y H2, Inv X pins σ H2 s2 → RelV x v → RelV y u → R x y H2 → wpAny (model X.prog X.w) X.A (f v u) Q X.xe s2) :
  wpAny (model X.prog X.w) X.A (eval a X.env) (fun v s₁ => wpAny (model X.prog X.w) X.A (eval b X.env) (fun u s₂ => wpAny (model X.prog X.w) X.A (f v u) Q X.xe s₂) X.xe s₁) X.xe s := by
 (refine thn (ha pins s σ H _ I h) ?_; rintro v s1 ⟨x, H1, I1, r1, q1⟩)
 (refine thn (hb pins s1 σ H1 _ I1 q1) ?_; rintro u s2 ⟨y, H2, I2, r2, q2⟩)
 exact hf v u s2 x y H2 I2 r1 r2 q2
theorem pe_op {op : Operator} {r : R2} (ho : OpR X (binaryOp op) r) (ha : PE X a ta) (hb : PE X b tb) : PE X (.BinOp a op b pos) (tOp r ta tb) := by
 intro pins s σ H Q I h
 exact wpAny_BinOp (binT ha hb I h fun v u s2 x y H2 I2 rx ry q => ho pins s2 σ H2 x y v u Q I2 rx ry q)
theorem opI {f : Value → Value → Sem Value} {C : Int → Int → Prop} {g : Int → Int → Int}
  (rule : ∀ (i j : Int) (t u : Tok) (s : Shared) (Q : Value → Shared → Prop) (E : Value → Shared → Prop), C i j → Q (.int (g i j) s.toks) { s with toks := s.toks + 1 } → wpAny (model X.prog X.w) X.A (f (.int i t) (.int j u)) Q E s) :
  OpR X f (rI C fun i j => .int (g i j)) := by
 intro pins s σ H x y v u Q I rx ry h
 obtain ⟨i, j, rfl, rfl, hc, q⟩ := h
 obtain ⟨t, rfl⟩ := rx
 obtain ⟨t', rfl⟩ := ry
 exact rule i j t t' s _ _ hc ⟨.int (g i j), H, I.tok _, ⟨_, rfl⟩, q⟩
theorem opI0 {f : Value → Value → Sem Value} {g : Int → Int → Int}
  (rule : ∀ (i j : Int) (t u : Tok) (s : Shared) (Q : Value → Shared → Prop) (E : Value → Shared → Prop), Q (.int (g i j) s.toks) { s with toks := s.toks + 1 } → wpAny (model X.prog X.w) X.A (f (.int i t) (.int j u)) Q E s) :
  OpR X f (rI0 fun i j => .int (g i j)) := by
 intro pins s σ H x y v u Q I rx ry h
 obtain ⟨i, j, rfl, rfl, q⟩ := h
 obtain ⟨t, rfl⟩ := rx
 obtain ⟨t', rfl⟩ := ry
 exact rule i j t t' s _ _ ⟨.int (g i j), H, I.tok _, ⟨_, rfl⟩, q⟩
theorem opB0 {f : Value → Value → Sem Value} {g : Int → Int → Bool}
  (rule : ∀ (i j : Int) (t u : Tok) (s : Shared) (Q : Value → Shared → Prop) (E : Value → Shared → Prop), Q (.bool (g i j)) s → wpAny (model X.prog X.w) X.A (f (.int i t) (.int j u)) Q E s) :
  OpR X f (rI0 fun i j => .bl (g i j)) := by
 intro pins s σ H x y v u Q I rx ry h
 obtain ⟨i, j, rfl, rfl, q⟩ := h
 obtain ⟨t, rfl⟩ := rx
 obtain ⟨t', rfl⟩ := ry
 exact rule i j t t' s _ _ ⟨.bl (g i j), H, I, rfl, q⟩
def CDiv (i j : Int) : Prop := 0 < j ∧ j < 1073741824
def CPow (i j : Int) : Prop := 0 ≤ j ∧ j ≤ 1000000 ∧ i.natAbs < 2 ^ 64
def CMul (i j : Int) : Prop := (-(2 ^ 64) < i ∧ i < 2 ^ 64) ∨ (-(2 ^ 64) < j ∧ j < 2 ^ 64)
theorem CMul.ok {i j : Int} (h : CMul i j) : IntMulOk i j := by
 rcases h with ⟨h1, h2⟩ | ⟨h1, h2⟩
 ·exact .of_left (intBits_le_64 h1 h2)
 ·exact .of_right (intBits_le_64 h1 h2)
theorem op_add : OpR X (binaryOp .Add) (rI0 fun i j => .int (i + j)) := opI0 fun _ _ _ _ _ _ _ q => add_int q
theorem op_sub : OpR X (binaryOp .Sub) (rI0 fun i j => .int (i - j)) := opI0 fun _ _ _ _ _ _ _ q => sub_int q
theorem op_mul : OpR X (binaryOp .Mult) (rI CMul fun i j => .int (i * j)) := opI fun _ _ _ _ _ _ _ hc q => mul_int q hc.ok
theorem op_mod : OpR X (binaryOp .Mod) (rI (fun _ j => 0 < j) fun i j => .int (i % j)) := opI fun i j _ _ _ _ _ hc q => by
 have h1 : (0 : Int) < j := hc
 exact mod_int' (by omega) (by rw [Int.fmod_eq_emod_of_nonneg i (by omega)]; exact q)
theorem op_pow : OpR X (binaryOp .Pow) (rI CPow fun i j => .int (i ^ j.toNat)) := opI fun _ _ _ _ _ _ _ hc q => pow_int_small hc.1 hc.2.1 hc.2.2 q
end
noncomputable def scal : V → V → Bool
 | .non, .non => true | .non, .int _ => true | .int _, .non => true | .non, .bl _ => true | .bl _, .non => true | .non, .str _ => true | .str _, .non => true
 | .int _, .int _ => true | .bl _, .bl _ => true | .str _, .str _ => true | .byt _, .byt _ => true
 | .int _, .str _ => true | .str _, .int _ => true | .bl _, .str _ => true | .str _, .bl _ => true
 | _, _ => false
def rEq : R2 := fun x y H Q => scal x y = true ∧ Q (.bl (decide (x = y))) H
def rNe : R2 := fun x y H Q => scal x y = true ∧ Q (.bl (!decide (x = y))) H
theorem dec_int {i j : Int} : decide (V.int i = V.int j) = (i == j) := by
 rw [Bool.eq_iff_iff]
 simp
theorem dec_bl {i j : Bool} : decide (V.bl i = V.bl j) = (i == j) := by
 rw [Bool.eq_iff_iff]
 simp
theorem dec_str {i j : Str} : decide (V.str i = V.str j) = (i == j) := by
 rw [Bool.eq_iff_iff]
 simp
theorem dec_byt {i j : Array UInt8} : decide (V.byt i = V.byt j) = (i.toList == j.toList) := by
 rw [Bool.eq_iff_iff]
 cases i
 cases j
 simp
section
variable {X : Cx} {a b c : Expr} {ta tb tc : TE} {pos : Pos}
theorem fin_bl {pins : List (Addr × Obj)} {σ : St} {H : Hp} {s : Shared} {Q : VK} {k k' : Bool} (I : Inv X pins σ H s) (q : Q (.bl k) H) (e : k = k') : EP X pins σ Q (.bool k') s := by
 subst e
 exact ⟨.bl k, H, I, rfl, q⟩
theorem op_eq : OpR X (compareOp .Eq) rEq := by
 intro pins s σ H x y v u Q I rx ry h
 obtain ⟨hs, q⟩ := h
 cases x with
 | non =>
  cases rx
  cases y with
  | non => cases ry; exact PySem.EqNone.eq_none_none (fin_bl I q (by simp))
  | bl j => cases ry; exact PySem.EqNone.eq_none_bool (fin_bl I q (by simp))
  | int j => obtain ⟨t', rfl⟩ := ry; exact PySem.EqNone.eq_none_int (fin_bl I q (by simp))
  | str j => obtain ⟨t', rfl⟩ := ry; exact PySem.EqNone.eq_none_str (fin_bl I q (by simp))
  | _ => exact absurd (show false = true from hs) Bool.false_ne_true
 | bl i =>
  cases rx
  cases y with
  | non => cases ry; exact PySem.EqNone.eq_bool_none (fin_bl I q (by simp))
  | bl j => cases ry; exact eq_bool (fin_bl I q dec_bl)
  | str j => obtain ⟨t', rfl⟩ := ry; exact PySem.EqMixed.eq_bool_str (fin_bl I q (by simp))
  | _ => exact absurd (show false = true from hs) Bool.false_ne_true
 | int i =>
  obtain ⟨t, rfl⟩ := rx
  cases y with
  | non => cases ry; exact PySem.EqNone.eq_int_none (fin_bl I q (by simp))
  | int j => obtain ⟨t', rfl⟩ := ry; exact eq_int (fin_bl I q dec_int)
  | str j => obtain ⟨t', rfl⟩ := ry; exact PySem.EqMixed.eq_int_str (fin_bl I q (by simp))
  | _ => exact absurd (show false = true from hs) Bool.false_ne_true
 | str i =>
  obtain ⟨t, rfl⟩ := rx
  cases y with
  | non => cases ry; exact PySem.EqNone.eq_str_none (fin_bl I q (by simp))
  | bl j => cases ry; exact PySem.EqMixed.eq_str_bool (fin_bl I q (by simp))
  | int j => obtain ⟨t', rfl⟩ := ry; exact PySem.EqMixed.eq_str_int (fin_bl I q (by simp))
  | str j => obtain ⟨t', rfl⟩ := ry; exact eq_str (fin_bl I q dec_str)
  | _ => exact absurd (show false = true from hs) Bool.false_ne_true
 | byt i =>
  obtain ⟨t, rfl⟩ := rx
  cases y with
  | byt j => obtain ⟨t', rfl⟩ := ry; exact PySem.W.eq_bytes (fin_bl I q dec_byt)
  | _ => exact absurd (show false = true from hs) Bool.false_ne_true
 | _ => cases y <;> exact absurd (show false = true from hs) Bool.false_ne_true
theorem op_ne : OpR X (compareOp .NotEq) rNe := by
 intro pins s σ H x y v u Q I rx ry h
 obtain ⟨hs, q⟩ := h
 cases x with
 | non =>
  cases rx
  cases y with
  | non => cases ry; exact PySem.EqNone.ne_none_none (fin_bl I q (by simp))
  | bl j => cases ry; exact PySem.EqNone.ne_none_bool (fin_bl I q (by simp))
  | int j => obtain ⟨t', rfl⟩ := ry; exact PySem.EqNone.ne_none_int (fin_bl I q (by simp))
  | str j => obtain ⟨t', rfl⟩ := ry; exact PySem.EqNone.ne_none_str (fin_bl I q (by simp))
  | _ => exact absurd (show false = true from hs) Bool.false_ne_true
 | bl i =>
  cases rx
  cases y with
  | non => cases ry; exact PySem.EqNone.ne_bool_none (fin_bl I q (by simp))
  | bl j => cases ry; exact ne_bool (fin_bl I q (congrArg not dec_bl))
  | str j => obtain ⟨t', rfl⟩ := ry; exact PySem.EqMixed.ne_bool_str (fin_bl I q (by simp))
  | _ => exact absurd (show false = true from hs) Bool.false_ne_true
 | int i =>
  obtain ⟨t, rfl⟩ := rx
  cases y with
  | non => cases ry; exact PySem.EqNone.ne_int_none (fin_bl I q (by simp))
  | int j => obtain ⟨t', rfl⟩ := ry; exact ne_int (fin_bl I q (congrArg not dec_int))
  | str j => obtain ⟨t', rfl⟩ := ry; exact PySem.EqMixed.ne_int_str (fin_bl I q (by simp))
  | _ => exact absurd (show false = true from hs) Bool.false_ne_true
 | str i =>
  obtain ⟨t, rfl⟩ := rx
  cases y with
  | non => cases ry; exact PySem.EqNone.ne_str_none (fin_bl I q (by simp))
  | bl j => cases ry; exact PySem.EqMixed.ne_str_bool (fin_bl I q (by simp))
  | int j => obtain ⟨t', rfl⟩ := ry; exact PySem.EqMixed.ne_str_int (fin_bl I q (by simp))
  | str j => obtain ⟨t', rfl⟩ := ry; exact ne_str (fin_bl I q (congrArg not dec_str))
  | _ => exact absurd (show false = true from hs) Bool.false_ne_true
 | byt i =>
  obtain ⟨t, rfl⟩ := rx
  cases y with
  | byt j => obtain ⟨t', rfl⟩ := ry; exact PySem.W.ne_bytes (fin_bl I q (congrArg not dec_byt))
  | _ => exact absurd (show false = true from hs) Bool.false_ne_true
 | _ => cases y <;> exact absurd (show false = true from hs) Bool.false_ne_true
theorem op_lt : OpR X (compareOp .Lt) (rI0 fun i j => .bl (decide (i < j))) := opB0 fun _ _ _ _ _ _ _ q => lt_int q
theorem op_le : OpR X (compareOp .LtE) (rI0 fun i j => .bl (decide (i ≤ j))) := opB0 fun _ _ _ _ _ _ _ q => le_int q
theorem op_gt : OpR X (compareOp .Gt) (rI0 fun i j => .bl (decide (j < i))) := opB0 fun _ _ _ _ _ _ _ q => gt_int q
theorem op_ge : OpR X (compareOp .GtE) (rI0 fun i j => .bl (decide (j ≤ i))) := opB0 fun _ _ _ _ _ _ _ q => ge_int q
theorem op_lt_str : OpR X (compareOp .Lt) (fun x y H Q => ∃ i j, x = .str i ∧ y = .str j ∧ Q (.bl (decide (i.cps.toList < j.cps.toList))) H) := by
 intro pins s σ H x y v u Q I rx ry h
 obtain ⟨i, j, rfl, rfl, q⟩ := h
 obtain ⟨t, rfl⟩ := rx
 obtain ⟨t', rfl⟩ := ry
 exact lt_str (fin_bl I q rfl)
theorem op_in_str : OpR X (compareOp .In) (fun x y H Q => ∃ i j, x = .str i ∧ y = .str j ∧ Q (.bl (!(Builtin.Str.occurrences j i 0 j.length 1).isEmpty)) H) := by
 intro pins s σ H x y v u Q I rx ry h
 obtain ⟨i, j, rfl, rfl, q⟩ := h
 obtain ⟨t, rfl⟩ := rx
 obtain ⟨t', rfl⟩ := ry
 exact in_str (fin_bl I q rfl)
theorem op_isN : OpR X (compareOp .Is) (fun x y H Q => y = .non ∧ Q (.bl (decide (x = .non))) H) := by
 intro pins s σ H x y v u Q I rx ry h
 obtain ⟨rfl, q⟩ := h
 cases ry
 refine is_none_gen (fin_bl I q ?_)
 cases x <;> first
  | (cases rx; rfl)
  | (obtain ⟨t, rfl⟩ := rx; rfl)
theorem op_notN : OpR X (compareOp .IsNot) (fun x y H Q => y = .non ∧ Q (.bl (!decide (x = .non))) H) := by
 intro pins s σ H x y v u Q I rx ry h
 obtain ⟨rfl, q⟩ := h
 cases ry
 refine isnot_none_gen (fin_bl I q ?_)
 cases x <;> first
  | (cases rx; rfl)
  | (obtain ⟨t, rfl⟩ := rx; rfl)
theorem OpR.or {f : Value → Value → Sem Value} {r r' : R2} (h : OpR X f r) (h' : OpR X f r') : OpR X f (fun x y H Q => r x y H Q ∨ r' x y H Q) := by
 intro pins s σ H x y v u Q I rx ry q
 rcases q with q | q
 ·exact h pins s σ H x y v u Q I rx ry q
 ·exact h' pins s σ H x y v u Q I rx ry q
theorem nomark (b : Expr) {op : CmpOp} (h : op ≠ .In := by decide) (h2 : op ≠ .NotIn := by decide) : behindInMarks op b = false := by
 have e1 : (op == CmpOp.In) = false := by cases op <;> first | rfl | exact absurd rfl h
 have e2 : (op == CmpOp.NotIn) = false := by cases op <;> first | rfl | exact absurd rfl h2
 cases b <;> simp [behindInMarks, e1, e2]
theorem pe_cmpR {op : CmpOp} {r : R2} (ho : OpR X (compareOp op) r) (ha : PE X a ta) (hb : PE X b tb) (hm : behindInMarks op b = false) : PE X (.Compare a [op] [b] pos) (tOp r ta tb) := by
 intro pins s σ H Q I h
 exact wpAny_Compare1 (binT ha hb I h fun v u s2 x y H2 I2 rx ry q => ho pins s2 σ H2 x y v u Q I2 rx ry q) hm
def tTest (t : TE) : TT := fun σ H Q => t σ H fun x H' => ∃ k, x = .bl k ∧ Q k H'
theorem pt_cmpR {op : CmpOp} {r : R2} (ho : OpR X (compareOp op) r) (ha : PE X a ta) (hb : PE X b tb) (hm : behindInMarks op b = false) : PT X (.Compare a [op] [b] pos) (tTest (tOp r ta tb)) := by
 intro pins s σ H Q I h
 refine wpAny_isTrue_Compare1 (thn (ha pins s σ H _ I h) fun v s1 ⟨x, H1, I1, r1, q1⟩ => thn (hb pins s1 σ H1 _ I1 q1) fun u s2 ⟨y, H2, I2, r2, q2⟩ =>
  thn (ho pins s2 σ H2 x y v u _ I2 r1 r2 q2) fun c s3 ⟨z, H3, I3, r3, k, e, q3⟩ => ?_) hm
 subst e
 cases r3
 exact wpAny_truthy_bool ⟨H3, I3, q3⟩
theorem line63 : (sizeLine : Nat) < 2 ^ 63 := by rw [sizeLine_eq]; decide
theorem op_add_str : OpR X (binaryOp .Add) (fun x y H Q => ∃ i j, x = .str i ∧ y = .str j ∧ i.length + j.length ≤ sizeLine ∧ Q (.str (i ++ j)) H) := by
 intro pins s σ H x y v u Q I rx ry h
 obtain ⟨i, j, rfl, rfl, hz, q⟩ := h
 obtain ⟨t, rfl⟩ := rx
 obtain ⟨t', rfl⟩ := ry
 exact add_str (fun t' tk => ⟨.str (i ++ j), H, I.tok _, ⟨_, rfl⟩, q⟩) hz
theorem vals1 {x : V} {us : List Value} (r : Vals [x] us) : ∃ u, us = [u] ∧ RelV x u := by
 cases r with
 | cons r1 r2 => cases r2; exact ⟨_, rfl, r1⟩
theorem vals2 {x y : V} {us : List Value} (r : Vals [x, y] us) : ∃ u w', us = [u, w'] ∧ RelV x u ∧ RelV y w' := by
 cases r with
 | cons r1 r2 =>
  cases r2 with
  | cons r3 r4 => cases r4; exact ⟨_, _, rfl, r1, r3⟩
theorem call_abs : CallR X (.builtin "abs") (fun xs H Q => ∃ i, xs = [.int i] ∧ Q (.int (if i < 0 then -i else i)) H) := by
 intro pins s σ H xs us Q I r h
 obtain ⟨i, rfl, q⟩ := h
 obtain ⟨u, rfl, t, rfl⟩ := vals1 r
 exact call_abs_int fun u tk => ⟨.int (if i < 0 then -i else i), H, I.tok _, ⟨_, rfl⟩, q⟩
theorem call_int1 : CallR X (.type "int") (fun xs H Q => (∃ i, xs = [.int i] ∧ Q (.int i) H) ∨ ∃ k, xs = [.bl k] ∧ Q (.int (if k then 1 else 0)) H) := by
 intro pins s σ H xs us Q I r h
 rcases h with ⟨i, rfl, q⟩ | ⟨k, rfl, q⟩
 ·obtain ⟨u, rfl, t, rfl⟩ := vals1 r
  exact call_int_int ⟨.int i, H, I, ⟨_, rfl⟩, q⟩
 ·obtain ⟨u, rfl, r1⟩ := vals1 r
  cases r1
  exact call_int_bool ⟨.int (if k then 1 else 0), H, I.tok _, ⟨_, rfl⟩, q⟩
end
end L2
namespace L2
open PySem PySem.Spec PyProof.Rows
structure ObjM (h : Heap) (x dx C : Addr) (mA : Str → Option Value) : Prop where
 obj : h.get? x = some (PySem.W.instObj C dx)
 ns : h.Ns1 dx mA
 ne : dx ≠ x
theorem lookIn_ns {h : Heap} {dx : Addr} {mA : Str → Option Value} (n : h.Ns1 dx mA) : ∃ od, h.get? dx = some od ∧ ∀ name, PySem.W.lookIn name od = some (mA name) := by
 obtain ⟨o, es, ep, ho, hd, hk, _, hm⟩ := n
 refine ⟨o, ho, fun name => ?_⟩
 have e := hm name
 unfold nsFind findBy at e
 rw [← Array.find?_toList] at e
 unfold PySem.W.lookIn
 rw [hd]
 dsimp only
 split
 ·rename_i y q
  rw [q] at e
  exact congrArg some e
 ·rename_i q
  rw [q] at e
  have a : es.toList.any (·.refKey) = false := by
   rw [List.any_eq_false]
   intro y hy
   obtain ⟨z, t, hkey⟩ := hk y (Array.mem_toList_iff.mp hy)
   simp [DictEntry.refKey, hkey]
  have a' : ¬ es.toList.any (·.refKey) = true := by rw [a]; exact Bool.false_ne_true
  rw [if_neg a']
  exact congrArg some e
theorem ObjM.look {h : Heap} {x dx C : Addr} {mA : Str → Option Value} (I : ObjM h x dx C mA) : ∃ od, PySem.W.InstAt h x (PySem.W.instObj C dx) C (some od) ∧ ∀ name, PySem.W.lookIn name od = some (mA name) :=
 let ⟨od, ho, hl⟩ := lookIn_ns I.ns
 ⟨od, ⟨I.obj, rfl, rfl, ho⟩, hl⟩
section
variable {prog : Program} {w : World} {A : Around} {E : Value → Shared → Prop} {s : Shared} {K : PySem.W.Frag} {x dx C f : Addr} {mA : Str → Option Value} {name : Str} {v : Value}
theorem get_meth {pl : Sem Bool} {Q : Value × List Value → Shared → Prop} (X : K.In s.heap) (I : ObjM s.heap x dx C mA) (hg : PySem.W.plainGet K C name = true)
  (hf : PySem.W.findIn K (.ref C) name = some (some (.ref f))) (ht : PySem.W.isFn K (.ref f) = true) (hv : mA name = none) (h : Q (.ref f, [.ref x]) s) :
  wpAny (model prog w) A (getMethod (.ref x) name pl) Q E s := by
 obtain ⟨od, J, hl⟩ := I.look
 exact PySem.W.method_fn X J (PySem.W.plainGet_of hg).1 (PySem.W.plainGet_of hg).2 hf (beq_iff_eq.mp ht) (by show (PySem.W.lookIn name od).map (·.isSome) = some false; rw [hl, hv]; rfl) h
end
theorem RelO.none_of {o : Option Value} (r : RelO none o) : o = none := by
 cases o with
 | none => rfl
 | some u => exact (show False from r).elim
section
variable {P : Program} {w : World} {H H' : Hp} {h h' : Heap} {a C dx : Addr} {fs fs' : List (Str × V)}
theorem ins_get (hok : HOk P w H h) (e : H a = some (.ins C dx fs)) : ∃ mA, ObjM h a dx C mA ∧ (∀ f, RelO (fs.lookup f) (mA f)) ∧ PySem.Within mA (fs.map (·.1)) ∧ fs.length ≤ 1000 ∧ H dx = some (.own a) := by
 obtain ⟨d, z, ne, ob, mA, n, r, q⟩ := (show ObjOk P w H h a (.ins C dx fs) from hok a _ e)
 exact ⟨mA, ⟨ob, n, ne⟩, r, q, z, d⟩
end
structure Cls (K : PySem.W.Frag) (C : Addr) : Prop where
 pg : PySem.W.plainGet K C Str.empty = true
 hd : PySem.W.hasDictIn K C = true
 po : PySem.W.plainOver K C = true
 sa : PySem.W.findIn K (.ref C) "__setattr__" = some (some (.builtin "object.__setattr__"))
theorem Cls.get {K : PySem.W.Frag} {C : Addr} (c : Cls K C) (f : Str) : PySem.W.plainGet K C f = true := c.pg
structure Con (K : PySem.W.Frag) (C : Addr) (f : Str) (v : V) (u : Value) : Prop where
 at_ : PySem.W.findIn K (.ref C) f = some (some u)
 rel : RelV v u
 get : PySem.W.specialIn K u "__get__" = some none
 cp : PySem.W.copiedNames.contains f = false
structure Meth (K : PySem.W.Frag) (C : Addr) (m : Str) (f : Addr) : Prop where
 at_ : PySem.W.findIn K (.ref C) m = some (some (.ref f))
 fn : PySem.W.isFn K (.ref f) = true
 kp : PySem.W.keepIn K (.ref f) = true
section
variable {X : Cx} {pins : List (Addr × Obj)} {σ : St} {H : Hp} {s : Shared} {a C dx : Addr} {fs : List (Str × V)} {f : Str} {v : V} {A : Around} {E : Value → Shared → Prop}
theorem getmeth_ok {m : Str} {g : Addr} {pl : Sem Bool} {Q : Value × List Value → Shared → Prop} (I : Inv X pins σ H s) (e : H a = some (.ins C dx fs)) (c : Cls X.K C) (k : Meth X.K C m g) (l : fs.lookup m = none)
  (h : Q (.ref g, [.ref a]) s) : wpAny (model X.prog X.w) A (getMethod (.ref a) m pl) Q E s := by
 obtain ⟨mA, O, r, _, _, _⟩ := ins_get I.hok e
 have hn : mA m = none := RelO.none_of (by rw [← l]; exact r m)
 exact get_meth I.kIn O (c.get m) k.at_ k.fn hn h
theorem Inv.made (I : Inv X pins σ H s) : Inv X pins σ (upd (upd H s.heap.objs.size (.own (s.heap.objs.size + 1))) (s.heap.objs.size + 1) (.ins C s.heap.objs.size []))
  { s with heap := (s.heap.push PySem.W.emptyDict).push (PySem.W.instObj C s.heap.objs.size) } := by
 have e1 : (s.heap.push PySem.W.emptyDict).get? s.heap.objs.size = some PySem.W.emptyDict := Heap.get?_push_size s.heap rfl
 have e2 : ((s.heap.push PySem.W.emptyDict).push (PySem.W.instObj C s.heap.objs.size)).get? (s.heap.objs.size + 1) = some (PySem.W.instObj C s.heap.objs.size) := by
  have := Heap.get?_push_size (s.heap.push PySem.W.emptyDict) (o := PySem.W.instObj C s.heap.objs.size) rfl
  rwa [Heap.size_push] at this
 have e3 : (s.heap.push PySem.W.emptyDict).Ns s.heap.objs.size (fun _ => none) := ⟨PySem.W.emptyDict, #[], _, e1, rfl, (fun e he => absurd he (by simp)), fun _ => rfl⟩
 have I1 := I.laid (a := s.heap.objs.size) (o := .own (s.heap.objs.size + 1)) (h' := s.heap.push PySem.W.emptyDict) (t' := s.toks) (fun b u q => Heap.get?_push_of_some _ q) (Nat.le_refl _) ⟨_, e1⟩
 refine I1.laid (a := s.heap.objs.size + 1) (o := .ins C s.heap.objs.size []) (t' := s.toks) (fun b u q => Heap.get?_push_of_some _ q) (Nat.le_of_eq (Heap.size_push _ _)) ?_
 have ne : s.heap.objs.size ≠ s.heap.objs.size + 1 := Nat.ne_of_lt (Nat.lt_succ_self _)
 refine ⟨by rw [upd_ne ne, upd_same], Nat.zero_le _, ne, e2, fun _ => none, (Heap.Ns1.of_empty e3).at fun o q => Heap.get?_push_of_some _ q, fun _ => True.intro, fun y hy => absurd rfl hy⟩
end
section
variable {X : Cx} {o e value : Expr} {f : Str} {pos pos' tpos : Pos} {ta tv : TE}
end
section
variable {X : Cx} {pins : List (Addr × Obj)} {σ : St} {H : Hp} {s : Shared} {A : Around} {E : Value → Shared → Prop} {Q : Value → Shared → Prop} {c : Value} {b : Bool}
inductive TyOf (K : PySem.W.Frag) (H : Hp) : V → Value → Prop where
 | non : TyOf K H .non (.type "NoneType")
 | bl (x : Bool) : TyOf K H (.bl x) (.type "bool")
 | int (i : Int) : TyOf K H (.int i) (.type "int")
 | str (x : Str) : TyOf K H (.str x) (.type "str")
 | flt (x : UInt64) : TyOf K H (.flt x) (.type "float")
 | lst {a : Addr} {xs : List V} (e : H a = some (.lst xs)) : TyOf K H (.ref a) (.type "list")
 | frz {a : Addr} {o : Obj} {xs : List V} (e : H a = some (.frz o (.lst xs))) : TyOf K H (.ref a) (.type "list")
 | tup {a : Addr} {xs : List V} (e : H a = some (.tup xs)) : TyOf K H (.ref a) (.type "tuple")
 | dK {a : Addr} {kvs : List (Key × V)} (e : H a = some (.dK kvs)) : TyOf K H (.ref a) (.type "dict")
 | dT {a : Addr} {kvs : List (List Key × V)} (e : H a = some (.dT kvs)) : TyOf K H (.ref a) (.type "dict")
 | ins {a C dx : Addr} {fs : List (Str × V)} (e : H a = some (.ins C dx fs)) (cl : Cls K C) (ha : PySem.W.findIn K (.ref C) "__class__" = some (some (.builtin "object.__class__")))
   (hn : PySem.W.specialIn K (.builtin "object.__class__") "__get__" = some (some (.builtin "getset_descriptor.__get__"))) (htk : PySem.W.takesIn K (.builtin "object.__class__") = some true)
   (hm : PySem.W.mroIn K C (.type "object") = some true) : TyOf K H (.ref a) (.ref C)
theorem isinst_ok {x : V} {u t : Value} (I : Inv X pins σ H s) (rx : RelV x u) (ty : TyOf X.K H x t) (e : PySem.W.kitOne X.K t c = some b) (h : ∀ tk, Q (.bool b) { s with toks := tk }) :
  wpAny (model X.prog X.w) A (call (.builtin "isinstance") [u, c]) Q E s := by
 cases ty with
 | non => cases (show u = Value.none from rx); exact PySem.W.kia_one PySem.W.kitx_none I.kIn True.intro e (fun z => nomatch z) h
 | bl y => cases (show u = Value.bool y from rx); exact PySem.W.kia_one PySem.W.kitx_bool I.kIn True.intro e (fun z => nomatch z) h
 | int i => obtain ⟨t, q⟩ := (show ∃ t, u = Value.int i t from rx); cases q; exact PySem.W.kia_one PySem.W.kitx_int I.kIn True.intro e (fun z => nomatch z) h
 | str y => obtain ⟨t, q⟩ := (show ∃ t, u = Value.str y t from rx); cases q; exact PySem.W.kia_one PySem.W.kitx_str I.kIn True.intro e (fun z => nomatch z) h
 | flt y => obtain ⟨t, q⟩ := (show ∃ t, u = Value.float y t from rx); cases q; exact PySem.W.kia_one PySem.W.kitx_float I.kIn True.intro e (fun z => nomatch z) h
 | @lst a xs ea =>
  cases (show u = Value.ref a from rx)
  obtain ⟨_, _, n, _, h1⟩ := (show ObjOk X.prog X.w H s.heap a (.lst xs) from I.hok a _ ea)
  exact PySem.W.kia_one PySem.W.kitx_list I.kIn ⟨_, h1, rfl⟩ e (fun z => nomatch z) h
 | @frz a ob xs ea =>
  cases (show u = Value.ref a from rx)
  obtain ⟨_, _, _, n, _, h1⟩ := (show ObjOk X.prog X.w H s.heap a (.frz ob (.lst xs)) from I.hok a _ ea)
  exact PySem.W.kia_one PySem.W.kitx_list I.kIn ⟨_, h1, rfl⟩ e (fun z => nomatch z) h
 | @tup a xs ea =>
  cases (show u = Value.ref a from rx)
  obtain ⟨_, _, _, p⟩ := (show ObjOk X.prog X.w H s.heap a (.tup xs) from I.hok a _ ea)
  obtain ⟨o, h1, h2, _⟩ := p
  exact PySem.W.kia_one PySem.W.kitx_tuple I.kIn ⟨o, h1, h2⟩ e (fun z => nomatch z) h
 | @dK a kvs ea =>
  cases (show u = Value.ref a from rx)
  obtain ⟨_, _, vs, _, p⟩ := (show ObjOk X.prog X.w H s.heap a (.dK kvs) from I.hok a _ ea)
  obtain ⟨o, es, ep, h1, h2, _⟩ := p
  exact PySem.W.kia_one PySem.W.kitx_dict I.kIn ⟨o, h1, h2.1⟩ e (fun z => nomatch z) h
 | @dT a kvs ea =>
  cases (show u = Value.ref a from rx)
  obtain ⟨_, _, xs, _, o, es, ep, h1, h2, _⟩ := (show ObjOk X.prog X.w H s.heap a (.dT kvs) from I.hok a _ ea)
  exact PySem.W.kia_one PySem.W.kitx_dict I.kIn ⟨o, h1, h2.1⟩ e (fun z => nomatch z) h
 | @ins a C dx fs ea cl ha hn htk hm =>
  cases (show u = Value.ref a from rx)
  obtain ⟨mA, O, _⟩ := ins_get I.hok ea
  obtain ⟨od, J, _⟩ := O.look
  exact PySem.W.kia_one (PySem.W.kitx_own (cl.get _) cl.hd ha hn htk hm) I.kIn J e (fun z => nomatch z) h
end
end L2
namespace L2
open PySem PySem.Spec PyProof.Rows
structure Room (k : Nat) (A : Around) : Prop where
 hd : A.handled = none
 dp : A.depth + 3 * k + 5 < recursionLimit
 un : A.units + 16 * k + 200 < cLine
theorem Room.mono {j k : Nat} {A : Around} (r : Room k A) (h : j ≤ k) : Room j A := ⟨r.hd, by have := r.dp; omega, by have := r.un; omega⟩
theorem Room.deeper {k : Nat} {A : Around} (r : Room (k + 1) A) (env : Env) : Room k (A.deeper env) :=
 ⟨r.hd, by have := r.dp; show A.depth + 1 + 3 * k + 5 < _; omega, by have := r.un; show A.units + 3 + 16 * k + 200 < _; omega⟩
theorem Room.depth {k : Nat} {A : Around} (r : Room k A) : A.depth < recursionLimit := by have := r.dp; omega
theorem Room.units {k : Nat} {A : Around} (r : Room k A) : A.units + 64 < cLine := by have := r.un; omega
def tNil : TA := fun _ H Q => Q [] H
def tCons (ta : TE) (tr : TA) : TA := fun σ H Q => ta σ H fun x H1 => tr σ H1 fun xs H2 => Q (x :: xs) H2
section
variable {X : Cx} {e : Expr} {es : List Expr} {te : TE} {t : TA} {pos : Pos}
theorem pa_nil : PA X [] tNil := fun _ _ _ _ H Q I h => Calls.spliced_nil ⟨[], H, I, .nil, h⟩
theorem pa_cons (ha : PE X e te) (hr : PA X es t) (hs : starEach (e :: es) X.env = (false, eval e X.env) :: starEach es X.env := by rfl) : PA X (e :: es) (tCons te t) := by
 intro pos pins s σ H Q I h
 rw [hs]
 show wpAny _ _ (spliced ((false, eval e X.env) :: backTo pos (starEach es X.env))) _ _ s
 (refine Calls.spliced_cons (thn (ha pins s σ H _ I h) ?_); rintro u s1 ⟨x, H1, I1, r1, q1⟩)
 (refine thn (hr pos pins s1 σ H1 _ I1 q1) ?_; rintro us s2 ⟨xs, H2, I2, r2, q2⟩; exact ⟨x :: xs, H2, I2, .cons r1 r2, q2⟩)
def tTup (t : TA) : TE := fun σ H Q => t σ H fun xs H1 => xs.length ≤ sizeLine ∧ ∀ p, H1 p = none → Q (.ref p) (upd H1 p (.tup xs))
def tLst (t : TA) : TE := fun σ H Q => t σ H fun xs H1 => xs.length ≤ sizeLine ∧ ∀ p, H1 p = none → Q (.ref p) (upd H1 p (.lst xs))
theorem pe_tup {x1} (h : PA X es t) : PE X (.Tuple es x1 pos) (tTup t) := by
 intro pins s σ H Q I hq
 refine wpAny_Tuple_spliced (thn (h pos pins s σ H _ I hq) fun us s1 ⟨xs, H1, I1, r, z, q⟩ => ⟨by rw [← r.length]; exact z, ?_⟩)
 have hf : H1 s1.heap.objs.size = none := I1.hok.fresh (Nat.le_refl _)
 refine ⟨.ref s1.heap.objs.size, upd H1 s1.heap.objs.size (.tup xs), I1.laid (t' := s1.toks) (fun b u e => Heap.get?_push_of_some _ e) (Nat.le_refl _) ?_, rfl, q _ hf⟩
 exact ⟨z, us, r, ⟨_, Heap.get?_push_size _ rfl, rfl, ⟨_, rfl⟩, rfl⟩⟩
theorem pe_lst (h : PA X es t) : PE X (.List es pos) (tLst t) := by
 intro pins s σ H Q I hq
 refine wpAny_List_spliced (thn (h pos pins s σ H _ I hq) fun us s1 ⟨xs, H1, I1, r, z, q⟩ => ⟨by rw [← r.length]; exact z, ?_⟩)
 have hf : H1 s1.heap.objs.size = none := I1.hok.fresh (Nat.le_refl _)
 refine ⟨.ref s1.heap.objs.size, upd H1 s1.heap.objs.size (.lst xs), I1.laid (t' := s1.toks) (fun b u e => Heap.get?_push_of_some _ e) (Nat.le_refl _) ?_, rfl, q _ hf⟩
 exact ⟨z, us, 0, r, Heap.get?_push_size _ rfl⟩
end
noncomputable abbrev Sp := List V → Hp → VK → XK → Prop
noncomputable abbrev CXT := List Env → Hp → Shared → XK → Value → Shared → Prop
structure Env0 (P : Program) (w : World) (K : PySem.W.Frag) (mg : Str → Option Value) (base : Heap) (A : Around) (outer : List Env) (s : Shared) (H : Hp) : Prop where
 frames : A.frames = some outer
 mod : Mod K mg base
 bs : ∀ b o, base.get? b = some o → s.heap.get? b = some o ∧ H b = none
 bsz : base.objs.size ≤ s.heap.objs.size
 funs : s.heap.FunFrames base outer
 frf : ∀ b ∈ frs outer, H b = none
 hok : HOk P w H s.heap
 bare : AllBare s.gens
def CE (outer : List Env) (P : Program) (w : World) (H : Hp) (s : Shared) (Q : VK) (u : Value) (s' : Shared) : Prop :=
 ∃ v H', s'.os = s.os ∧ AllBare s'.gens ∧ Un (frs outer) [] H H' s.heap s'.heap ∧ HOk P w H' s'.heap ∧ RelV v u ∧ Q v H'
def CR (CX : CXT) (outer : List Env) (P : Program) (w : World) (H : Hp) (s : Shared) (Q : VK) (E : XK) (r : Result) (s' : Shared) : Prop :=
 match r with
 | .ok (.ret u) => CE outer P w H s Q u s'
 | .ok _ => False
 | .error e => CX outer H s E e s'
structure FnOk (P : Program) (w : World) (K : PySem.W.Frag) (mg : Str → Option Value) (base : Heap) (CX : CXT) (k : Nat) (f : Addr) (fd : FuncData) (ps : List Str) (sp : Sp) : Prop where
 len : ∀ vs H Q E, sp vs H Q E → vs.length = ps.length
 run : ∀ (A : Around) (outer : List Env) (s : Shared) (H : Hp) (args : Args) (us : List Value) (vs : List V) (Q : VK) (E : XK), Room k A → Env0 P w K mg base A outer s H → BindsTo s fd args (ps.zip us) → Vals vs us → sp vs H Q E →
  codeAny (model P w) A (.call (.ref f) args) (CR CX outer P w H s Q E) s
theorem FnOk.mono {P : Program} {w : World} {K : PySem.W.Frag} {mg : Str → Option Value} {base : Heap} {CX : CXT} {j k : Nat} {f : Addr} {fd : FuncData} {ps : List Str} {sp : Sp} (F : FnOk P w K mg base CX j f fd ps sp) (h : j ≤ k) :
  FnOk P w K mg base CX k f fd ps sp := ⟨F.len, fun A outer s H args us vs Q E hr => F.run A outer s H args us vs Q E (hr.mono h)⟩
theorem FnOk.imp {P : Program} {w : World} {K : PySem.W.Frag} {mg : Str → Option Value} {base : Heap} {CX : CXT} {k : Nat} {f : Addr} {fd : FuncData} {ps : List Str} {sp sp' : Sp} (F : FnOk P w K mg base CX k f fd ps sp)
  (h : ∀ vs H Q E, sp' vs H Q E → sp vs H Q E) : FnOk P w K mg base CX k f fd ps sp' :=
 ⟨fun vs H Q E q => F.len vs H Q E (h _ _ _ _ q), fun A outer s H args us vs Q E hr he hb hv hs => F.run A outer s H args us vs Q E hr he hb hv (h _ _ _ _ hs)⟩
section
variable {X : Cx} {pins : List (Addr × Obj)} {σ : St} {H : Hp} {s s' : Shared}
theorem Inv.env0 (I : Inv X pins σ H s) : Env0 X.prog X.w X.K X.mg X.base X.A X.stack s H :=
 ⟨I.ok.frames, I.ok.mod, I.bs, Nat.le_trans I.ok.bsz I.sz, I.stack, I.stkFree, I.hok, I.bare⟩
theorem Inv.after {Q : VK} {u : Value} (I : Inv X pins σ H s) (h : CE X.stack X.prog X.w H s Q u s') : EP X pins σ Q u s' := by
 obtain ⟨v, H', os, bare, un, hok, r, q⟩ := h
 obtain ⟨hh, g, d, t, os'⟩ := s'
 obtain rfl : os' = s.os := os
 exact ⟨v, H', I.call (h' := hh) (g' := g) (d' := d) (t' := t) (ch := []) un hok bare (fun b z => absurd z (by simp)), r, q⟩
end
def tCall (sp : Sp) (dvs : List V) (E : XK) (t : TA) : TE := fun σ H Q => t σ H fun vs H1 => sp (vs ++ dvs) H1 Q E
def tMeth (C : Addr) (m : Str) (sp : Sp) (dvs : List V) (E : XK) (ta : TE) (t : TA) : TE := fun σ H Q => ta σ H fun x H1 => ∃ a dx fs, x = .ref a ∧ H1 a = some (.ins C dx fs) ∧ fs.lookup m = none ∧
 t σ H1 fun vs H2 => sp (x :: (vs ++ dvs)) H2 Q E
def Binds (K : PySem.W.Frag) (fd : FuncData) (ps : List Str) (ds : List Value) : Prop :=
 ∀ (s : Shared) (us : List Value), K.In s.heap → (us ++ ds).length = ps.length → BindsTo s fd ⟨us, []⟩ (ps.zip (us ++ ds))
theorem Binds.all {K : PySem.W.Frag} {fd : FuncData} {ps : List Str} (h : ∀ us : List Value, us.length = ps.length → bindArgs fd ⟨us, []⟩ = pure (ps.zip us)) : Binds K fd ps [] := fun s us _ hl => by
 rw [List.append_nil] at hl ⊢
 exact .of_eq (h us hl)
def Passes (CX : CXT) (X : Cx) (E : XK) : Prop := ∀ (pins : List (Addr × Obj)) (σ : St) (H : Hp) (s : Shared) (e : Value) (s' : Shared), Inv X pins σ H s → CX X.stack H s E e s' → X.xe e s'
section
variable {X : Cx} {CX : CXT} {k : Nat} {f C : Addr} {fd : FuncData} {ps : List Str} {sp : Sp} {dvs : List V} {ds : List Value} {E : XK} {x m : Str} {p pos apos : Pos} {e o : Expr} {es : List Expr} {ta : TE} {t : TA}
theorem run_fn {pins : List (Addr × Obj)} {σ : St} {H : Hp} {s : Shared} {Q : VK} {us : List Value} {vs : List V} (F : FnOk X.prog X.w X.K X.mg X.base CX k f fd ps sp) (hr : Room k X.A) (hb : Binds X.K fd ps ds) (hd : Vals dvs ds) (hx : Passes CX X E)
  (I : Inv X pins σ H s) (r : Vals vs us) (h : sp (vs ++ dvs) H Q E) : wpAny (model X.prog X.w) X.A (call (.ref f) us) (EP X pins σ Q) X.xe s := by
 have r2 : Vals (vs ++ dvs) (us ++ ds) := r.append hd
 have hl : (us ++ ds).length = ps.length := by rw [← r2.length]; exact F.len _ _ _ _ h
 refine wpAny_call (codeAny_mono (F.run X.A X.stack s H ⟨us, []⟩ (us ++ ds) (vs ++ dvs) Q E hr I.env0 (hb s us I.kIn hl) r2 h) fun r s' hq => ?_)
 cases r with
 | error e => exact hx pins σ H s e s' I hq
 | ok fl =>
  cases fl with
  | ret u => exact I.after hq
  | next => exact False.elim hq
  | brk => exact False.elim hq
  | cont => exact False.elim hq
theorem pe_call (F : FnOk X.prog X.w X.K X.mg X.base CX k f fd ps sp) (hr : Room k X.A) (hg : Gl X x) (hm : X.mg x = some (.ref f)) (hk : PySem.W.keepIn X.K (.ref f) = true) (hb : Binds X.K fd ps ds) (hd : Vals dvs ds) (hx : Passes CX X E)
  (ha : PA X (e :: es) t) (hdb : (x == ("__debug__" : Str)) = false := by decide) (he : starEach (e :: es) X.env = (false, eval e X.env) :: starEach es X.env := by rfl) (hpl : (backTo pos (starEach es X.env)).any (·.1) = false := by rfl) :
  PE X (.Call (.Name x p) (e :: es) [] pos) (tCall sp dvs E t) := by
 intro pins s σ H Q I h
 refine wpAny_Call_Name_kw (ld_glob I hg hm ?_ hdb)
 (refine PySem.W.callWith_K (h₀ := X.base) I.ok.mod.kin hk (thn (ha pos pins s σ H _ I h) ?_) he hpl; rintro us s1 ⟨vs, H1, I1, r, q⟩; refine ⟨I1.kIn, ?_⟩)
 exact run_fn F hr hb hd hx I1 r q
theorem pe_meth {pl : Sem Bool} (he : PE X o ta) (c : Cls X.K C) (hm : Meth X.K C m f) (F : FnOk X.prog X.w X.K X.mg X.base CX k f fd ps sp) (hr : Room k X.A) (hb : Binds X.K fd ps ds) (hd : Vals dvs ds) (hx : Passes CX X E) (ha : PA X (e :: es) t)
  (hst : starEach (e :: es) X.env = (false, eval e X.env) :: starEach es X.env := by rfl) (hpl : (backTo pos (starEach es X.env)).any (·.1) = false := by rfl)
  (ht : eval (.Call (.Attribute o m apos) (e :: es) [] pos) X.env = (do
   let ov ← eval o X.env
   standAt apos.atName
   let (f, first) ← holding [ov] (getMethod ov m pl)
   callWith pos f first (backTo pos (starEach (e :: es) X.env)) (backToKw pos (keywordEach [] X.env))) := by rfl) :
  PE X (.Call (.Attribute o m apos) (e :: es) [] pos) (tMeth C m sp dvs E ta t) := by
 intro pins s σ H Q I h
 (refine PySem.W.methodCall_KW (pl := pl) (thn (he pins s σ H _ I h) ?_) ht; rintro u s1 ⟨x, H1, I1, rx, a, dx, fs, ex, ea, l, q⟩)
 subst ex
 obtain rfl : u = Value.ref a := rx
 refine getmeth_ok I1 ea c hm l ?_
 (refine PySem.W.callWith_K (first := [.ref a]) (h₀ := X.base) I.ok.mod.kin hm.kp (thn (ha pos pins s1 σ H1 _ I1 q) ?_) hst hpl; rintro us s2 ⟨vs, H2, I2, r, q2⟩; refine ⟨I2.kIn, ?_⟩)
 exact run_fn (us := .ref a :: us) (vs := .ref a :: vs) F hr hb hd hx I2 (.cons rfl r) q2
structure Mk (K : PySem.W.Frag) (C f : Addr) : Prop where
 makes : PySem.W.makesIn K C = true
 init : PySem.W.findIn K (.ref C) "__init__" = some (some (.ref f))
 fn : PySem.W.isFn K (.ref f) = true
 kp : PySem.W.keepIn K (.ref C) = true
end
section
variable {X : Cx} {CX : CXT} {k : Nat} {f C : Addr} {fd : FuncData} {ps ks : List Str} {sp : Sp} {E : XK} {x m : Str} {p pos apos kpos : Pos} {e o : Expr} {es : List Expr} {kws : List Keyword} {te ta : TE} {t tk : TA} {nm : Option Str}
structure KBinds (K : PySem.W.Frag) (fd : FuncData) (ps ks : List Str) (g : List Value → List Value → List Value) (gV : List V → List V → List V) : Prop where
 to : ∀ (s : Shared) (us ws : List Value), K.In s.heap → (g us ws).length = ps.length → BindsTo s fd ⟨us, ks.zip ws⟩ (ps.zip (g us ws))
 rel : ∀ {vs : List V} {us : List Value} {zs : List V} {ws : List Value}, Vals vs us → Vals zs ws → Vals (gV vs zs) (g us ws)
variable {g : List Value → List Value → List Value} {gV : List V → List V → List V}
end
structure FnScope (N P : List Str) (sc : Scope) : Prop where
 kind : sc.kind = .function
 co : sc.isCoroutine = false
 gen : sc.isGenerator = false
 nd : N.Nodup
 pre : N.take P.length = P
 par : ∀ x ∈ P, sc.names.lookup x = some .local ∨ sc.names.lookup x = some .cell
 nofree : ∀ y ∈ sc.names, y.2 ≠ .free
theorem bindL_out {kindOf : Str → Option NameKind} {x : Str} : ∀ {binds : List (Str × Value)} {m : Str → Option Value}, (∀ v, (x, v) ∉ binds) → bindL kindOf binds m x = m x
 | [], _, _ => rfl
 | (n, v) :: r, m, h => by
  unfold bindL
  rw [bindL_out fun w hw => h w (List.mem_cons_of_mem _ hw)]
  split
  ·have : x ≠ n := by rintro rfl; exact h v List.mem_cons_self
   simp [this]
  ·rfl
theorem bindC_out {kindOf : Str → Option NameKind} {x : Str} : ∀ {binds : List (Str × Value)} {m : Str → Option Value}, (∀ v, (x, v) ∉ binds) → bindC kindOf binds m x = m x
 | [], _, _ => rfl
 | (n, v) :: r, m, h => by
  unfold bindC
  rw [bindC_out fun w hw => h w (List.mem_cons_of_mem _ hw)]
  split
  ·rfl
  ·have : x ≠ n := by rintro rfl; exact h v List.mem_cons_self
   simp [this]
theorem bindL_get {kindOf : Str → Option NameKind} {x : Str} {v : Value} : ∀ {P : List Str} {vs : List Value} {i : Nat} {m : Str → Option Value}, P.Nodup → P[i]? = some x → vs[i]? = some v → kindOf x = some .local →
  bindL kindOf (P.zip vs) m x = some v
 | [], _, _, _, _, h, _, _ => by simp at h
 | _ :: _, [], _, _, _, _, h, _ => by simp at h
 | p :: P, w :: vs, 0, m, nd, h1, h2, hk => by
  simp at h1 h2; subst h1; subst h2
  show bindL kindOf ((p, w) :: P.zip vs) m p = _
  unfold bindL
  rw [bindL_out fun v hv => (List.nodup_cons.mp nd).1 (List.of_mem_zip hv).1, if_pos hk]
  simp
 | p :: P, w :: vs, i + 1, m, nd, h1, h2, hk => by
  show bindL kindOf ((p, w) :: P.zip vs) m x = _
  unfold bindL
  exact bindL_get (i := i) (List.nodup_cons.mp nd).2 (by simpa using h1) (by simpa using h2) hk
theorem bindC_get {kindOf : Str → Option NameKind} {x : Str} {v : Value} : ∀ {P : List Str} {vs : List Value} {i : Nat} {m : Str → Option Value}, P.Nodup → P[i]? = some x → vs[i]? = some v → kindOf x ≠ some .local →
  bindC kindOf (P.zip vs) m x = some v
 | [], _, _, _, _, h, _, _ => by simp at h
 | _ :: _, [], _, _, _, _, h, _ => by simp at h
 | p :: P, w :: vs, 0, m, nd, h1, h2, hk => by
  simp at h1 h2; subst h1; subst h2
  show bindC kindOf ((p, w) :: P.zip vs) m p = _
  unfold bindC
  rw [bindC_out fun v hv => (List.nodup_cons.mp nd).1 (List.of_mem_zip hv).1, if_neg hk]
  simp
 | p :: P, w :: vs, i + 1, m, nd, h1, h2, hk => by
  show bindC kindOf ((p, w) :: P.zip vs) m x = _
  unfold bindC
  exact bindC_get (i := i) (List.nodup_cons.mp nd).2 (by simpa using h1) (by simpa using h2) hk
noncomputable def start (N : List Str) (vs : List V) : St := vs.map some ++ List.replicate (N.length - vs.length) none
noncomputable def cxOf (CX : CXT) (P : Program) (w : World) (K : PySem.W.Frag) (mg : Str → Option Value) (base : Heap) (N : List Str) (qual : Str) (scope : Scope) (f : Addr) (cd : Value) (A : Around) (outer : List Env) (s : Shared) (H : Hp) (E : XK) : Cx where
 prog := P
 w := w
 K := K
 mg := mg
 base := base
 A := A.deeper (envOfC qual scope s.heap.objs.size f cd)
 N := N
 s₀ := s
 H₀ := H
 env := envOfC qual scope s.heap.objs.size f cd
 outer := outer
 stack := envOfC qual scope s.heap.objs.size f cd :: outer
 ex := []
 calm := true
 fn := fun _ => true
 pn := []
 xe := fun e s' => wpAny (model P w) (A.deeper (envOfC qual scope s.heap.objs.size f cd)) (leaving (envOfC qual scope s.heap.objs.size f cd) e) (fun _ s'' => CX outer H s E e s'') (fun e' s'' => CX outer H s E e' s'') s'
theorem cell_has {sc : Scope} {n : Nat} {x : Str} (h : sc.names.lookup x = some .cell) : ∃ c, (cellsFrom n sc.names []).lookup x = some c := by
 have q := PySem.W.cellsFrom_some sc.names n [] (.inl h)
 exact Option.isSome_iff_exists.mp q
theorem inv_start {CX : CXT} {P : Program} {w : World} {K : PySem.W.Frag} {mg : Str → Option Value} {base : Heap} {N ps : List Str} {qual : Str} {scope : Scope} {f : Addr} {cd : Value} {A : Around} {outer : List Env} {s s1 : Shared} {H : Hp} {E : XK} {us : List Value} {vs : List V}
  (S : FnScope N ps scope) (hd : A.handled = none) (e0 : Env0 P w K mg base A outer s H) (hl : vs.length = ps.length) (r : Vals vs us)
  (x : InCallC s s.heap.objs.size (bindL (envOfC qual scope s.heap.objs.size f cd).kindOf (ps.zip us) fun _ => none) (cellsFrom (s.heap.objs.size + 1) scope.names []) (bindC (envOfC qual scope s.heap.objs.size f cd).kindOf (ps.zip us) fun _ => none) s1) :
  Inv (cxOf CX P w K mg base N qual scope f cd A outer s H E) [] (start N vs) H s1 := by
 have hpl : ps.length ≤ N.length := by have := congrArg List.length S.pre; rw [List.length_take] at this; omega
 obtain ⟨h1, tk, rfl, hk⟩ := x.done
 have noA : ∀ b : Addr, b ∉ (cxOf CX P w K mg base N qual scope f cd A outer s H E).ex := fun b z => absurd (show b ∈ ([] : List Addr) from z) (by simp)
 refine ⟨⟨e0.mod, S.kind, rfl, rfl, Nat.le_refl _, fun y z c h1 h2 => ?_, fun y hy => ?_, fun y c _ h => ?_, fun _ => hd, Around.frames_deeper e0.frames, .inr ⟨rfl, rfl⟩, fun b z => absurd z (noA b), e0.bs, e0.bsz, fun b _ _ => noA b, fun b z => absurd z (noA b), e0.funs, e0.frf⟩,
  rfl, e0.bare, Un.kept hk, ⟨_, x.toInCall.ns, fun i y v h1 h2 h3 => ?_⟩, fun y c h => ⟨_, x.cell y c h⟩, e0.hok.fresh (Nat.le_refl _), fun y c h => ?_, fun p hp => absurd (show p ∈ ([] : List (Addr × Obj)) from hp) (by simp), e0.hok.kept hk, ?_⟩
 ·exact name_of_addr x.apart (PySem.mem_of_lookup h1) (PySem.mem_of_lookup h2)
 ·have hy : scope.names.lookup y = some .cell ∨ scope.names.lookup y = some .free := hy
  rcases hy with hy | hy
  ·exact cell_has hy
  ·exact absurd rfl (S.nofree _ (PySem.mem_of_lookup hy))
 ·exact Nat.le_of_lt (x.above y c (PySem.mem_of_lookup h))
 ·have hi : i < vs.length := by
   unfold start at h2
   by_cases hi : i < vs.length
   ·exact hi
   ·rw [List.getElem?_append_right (by simpa using hi)] at h2
    rw [List.getElem?_replicate] at h2
    split at h2 <;> cases h2
  have ha : vs[i]? = some v := by
   unfold start at h2
   rw [List.getElem?_append_left (by simpa using hi), List.getElem?_map] at h2
   cases e : vs[i]? with
   | none => rw [e] at h2; cases h2
   | some a => rw [e] at h2; cases h2; rfl
  obtain ⟨u, hu, rv⟩ := r.get ha
  have hp : ps[i]? = some y := by
   rw [← S.pre, List.getElem?_take_of_lt (by omega)]; exact h1
  have ndP : ps.Nodup := by rw [← S.pre]; exact S.nd.sublist (List.take_sublist _ _)
  refine ⟨u, rv, ?_⟩
  rcases S.par y (List.mem_of_getElem? hp) with k | k
  ·exact .inl ⟨k, bindL_get ndP hp hu k⟩
  ·obtain ⟨c, e⟩ := cell_has (n := s.heap.objs.size + 1) k
   refine .inr ⟨.inl k, c, e, ?_⟩
   have q := x.cell y c e
   rw [bindC_get ndP hp hu (by show scope.names.lookup y ≠ _; rw [k]; decide)] at q
   exact q
 ·exact e0.hok.fresh (Nat.le_of_lt (x.above y c (PySem.mem_of_lookup h)))
 ·unfold start
  show _ = N.length
  rw [List.length_append, List.length_map, List.length_replicate]
  omega
theorem fn_of {CX : CXT} {P : Program} {w : World} {K : PySem.W.Frag} {mg : Str → Option Value} {base : Heap} {k : Nat} {f : Addr} {name qual : Str} {params : Arguments} {body : List Stmt} {scope : Scope} {dV kV doc pm cdv ct oc : Value} {an od : Option Addr}
  {osl : Array (Option Value)} {N ps : List Str} {sp : Sp} (lk : K.lookup f = some ⟨oc, od, .func (PySem.W.fnOf name qual params body scope dV kV doc pm an cdv ct), osl⟩) (hcd : PySem.W.codeIn K cdv qual = true) (S : FnScope N ps scope)
  (len : ∀ vs H Q E, sp vs H Q E → vs.length = ps.length)
  (hbody : ∀ (A : Around) (outer : List Env) (s : Shared) (H : Hp) (vs : List V) (Q : VK) (E : XK), Room k (A.deeper (envOfC qual scope s.heap.objs.size f cdv)) → sp vs H Q E →
   ∃ t, PSs (cxOf CX P w K mg base N qual scope f cdv A outer s H E) body t ∧ t { nx := fun _ H' => Q .non H', rt := Q } (start N vs) H) :
  FnOk P w K mg base CX (k + 1) f (PySem.W.fnOf name qual params body scope dV kV doc pm an cdv ct) ps sp := by
 refine ⟨len, fun A outer s H args us vs Q E hr e0 hb r hsp => ?_⟩
 have hl := len _ _ _ _ hsp
 have KX : K.In s.heap := e0.mod.kin.keeps fun b o e => (e0.bs b o e).1
 have lim : s.heap.NoLimit := e0.mod.nolimit.keeps fun b o e => (e0.bs b o e).1
 have hkind : ∀ y ∈ ps.zip us, scope.names.lookup y.1 = some .local ∨ (scope.names.lookup y.1 = some .cell ∧ ((cellsFrom (s.heap.objs.size + 1) scope.names []).lookup y.1).isSome = true) := fun ⟨n, v⟩ hy => by
  rcases S.par n (List.of_mem_zip hy).1 with q | q
  ·exact .inl q
  ·exact .inr ⟨q, PySem.W.cellsFrom_some _ _ _ (.inl q)⟩
 refine codeAny_call_function hr.depth (KX _ _ lk) rfl S.co S.gen rfl (PySem.W.codeRec_of KX hcd) (hb _ _ _ _ ?_)
 refine wpAny_newFunctionEnv_cells S.kind hkind fun env he s1 x => ?_
 subst he
 refine ⟨lim.keeps x.toInCall.keep, codeAny_func ?_⟩
 obtain ⟨t, ht, hq⟩ := hbody A outer s H vs Q E (hr.deeper _) hsp
 have I : Inv (cxOf CX P w K mg base N qual scope f cdv A outer s H E) [] (start N vs) H s1 := inv_start S hr.hd e0 hl r x
 refine wpAny_mono (ht [] s1 (start N vs) H _ I hq) (fun fl s' hs => ?_) fun e s' hs => hs
 have fin : ∀ {σ' : St} {H' : Hp} {v : V} {u : Value}, Inv (cxOf CX P w K mg base N qual scope f cdv A outer s H E) [] σ' H' s' → RelV v u → Q v H' → CE outer P w H s Q u s' :=
  fun {σ' H' v u} J rv q => ⟨v, H', J.os, J.bare, J.base, J.hok, rv, q⟩
 cases fl with
 | ret u =>
  obtain ⟨v, σ', H', J, rv, q⟩ := hs
  exact fin J rv q
 | next =>
  obtain ⟨σ', H', J, q⟩ := hs
  exact fin (v := V.non) (u := Value.none) J rfl q
 | brk =>
  obtain ⟨_, _, _, q⟩ := hs
  exact False.elim q
 | cont =>
  obtain ⟨_, _, _, q⟩ := hs
  exact False.elim q
end L2
namespace L2
open PySem PySem.Spec PyProof.Rows
section
variable {X : Cx} {x : Str} {p pos : Pos} {e : Expr} {es : List Expr} {t : TA} {id T : String} {r : List V → Hp → VK → Prop}
def tCB (r : List V → Hp → VK → Prop) (t : TA) : TE := fun σ H Q => t σ H fun vs H1 => r vs H1 Q
theorem pe_callB (hc : CallR X (.builtin id) r) (hg : Gl X x) (hm : X.mg x = none) (hv : bootBuiltins x = some (.builtin id)) (ha : PA X (e :: es) t) (hn : x ≠ "__name__" := by decide) (hdb : (x == ("__debug__" : Str)) = false := by decide)
  (he : starEach (e :: es) X.env = (false, eval e X.env) :: starEach es X.env := by rfl) (hpl : (backTo pos (starEach es X.env)).any (·.1) = false := by rfl) : PE X (.Call (.Name x p) (e :: es) [] pos) (tCB r t) := by
 intro pins s σ H Q I h
 refine wpAny_Call_Name_kw (ld_blt I hg hm hv ?_ hn hdb)
 (refine PyProof.Rows.callWith_builtin1 (thn (ha pos pins s σ H _ I h) ?_) he hpl; rintro us s1 ⟨vs, H1, I1, r1, q1⟩; exact hc pins s1 σ H1 vs us Q I1 r1 q1)
theorem pe_callTy (hc : CallR X (.type T) r) (hg : Gl X x) (hm : X.mg x = none) (hv : bootBuiltins x = some (.type T)) (ha : PA X (e :: es) t) (hn : x ≠ "__name__" := by decide) (hdb : (x == ("__debug__" : Str)) = false := by decide)
  (he : starEach (e :: es) X.env = (false, eval e X.env) :: starEach es X.env := by rfl) (hpl : (backTo pos (starEach es X.env)).any (·.1) = false := by rfl) : PE X (.Call (.Name x p) (e :: es) [] pos) (tCB r t) := by
 intro pins s σ H Q I h
 refine wpAny_Call_Name_kw (ld_blt I hg hm hv ?_ hn hdb)
 (refine PyProof.Rows.callWith_type1 (thn (ha pos pins s σ H _ I h) ?_) he hpl; rintro us s1 ⟨vs, H1, I1, r1, q1⟩; exact hc pins s1 σ H1 vs us Q I1 r1 q1)
end
end L2
namespace L2
open PySem PySem.Spec PyProof.Rows
section
variable {κ : Type} [DecidableEq κ]
noncomputable def valV (kvs : List (κ × V)) (k : κ) : Option V := (kvs.find? fun kv => decide (kv.1 = k)).map (·.2)
noncomputable def putK (kvs : List (κ × V)) (k : κ) (v : V) : List (κ × V) :=
 if (kvs.any fun kv => decide (kv.1 = k)) = true then kvs.map (fun kv => if kv.1 = k then (kv.1, v) else kv) else kvs ++ [(k, v)]
noncomputable def dropK (kvs : List (κ × V)) (k : κ) : List (κ × V) := kvs.filter fun kv => decide (kv.1 ≠ k)
theorem valV_pos {p : κ × V} {r : List (κ × V)} {k : κ} (e : p.1 = k) : valV (p :: r) k = some p.2 := by simp [valV, List.find?_cons, e]
theorem valV_neg {p : κ × V} {r : List (κ × V)} {k : κ} (e : ¬ p.1 = k) : valV (p :: r) k = valV r k := by simp [valV, List.find?_cons, e]
theorem valV_any (k : κ) : ∀ kvs : List (κ × V), (kvs.any fun kv => decide (kv.1 = k)) = (valV kvs k).isSome
 | [] => rfl
 | p :: r => by
  rw [List.any_cons]
  by_cases e : p.1 = k
  ·simp only [valV_pos e, decide_eq_true e, Bool.true_or, Option.isSome_some]
  ·rw [valV_neg e, decide_eq_false e, Bool.false_or]; exact valV_any k r
theorem RelO.isSome_eq {o : Option V} {u : Option Value} (r : RelO o u) : o.isSome = u.isSome := by
 cases o with
 | none => cases u with
  | none => rfl
  | some _ => exact (show False from r).elim
 | some _ => cases u with
  | none => exact (show False from r).elim
  | some _ => rfl
theorem RelO.getD {o : Option V} {u : Option Value} {d : V} {d' : Value} (r : RelO o u) (rd : RelV d d') : RelV (o.getD d) (u.getD d') := by
 cases o with
 | none => cases u with
  | none => exact rd
  | some _ => exact (show False from r).elim
 | some _ => cases u with
  | none => exact (show False from r).elim
  | some _ => exact r
theorem KV.val {kvs : List (κ × V)} {vs : List (κ × Value)} (r : KV kvs vs) (k : κ) : RelO (valV kvs k) (valueAt vs k) := by
 unfold KV at r
 induction r with
 | nil => exact True.intro
 | @cons p q ps qs h t ih =>
  obtain ⟨h1, h2⟩ := h
  by_cases e : p.1 = k
  ·have e' : q.1 = k := h1.symm.trans e
   have b : valueAt (q :: qs) k = some q.2 := by simp [valueAt, List.find?_cons, e']
   rw [valV_pos e, b]; exact h2
  ·have e' : ¬ q.1 = k := fun z => e (h1.trans z)
   have b : valueAt (q :: qs) k = valueAt qs k := by simp [valueAt, List.find?_cons, e']
   rw [valV_neg e, b]; exact ih
theorem KV.any {kvs : List (κ × V)} {vs : List (κ × Value)} (r : KV kvs vs) (k : κ) : (kvs.any fun kv => decide (kv.1 = k)) = vs.any fun kv => decide (kv.1 = k) := by
 unfold KV at r
 induction r with
 | nil => rfl
 | cons h t ih => rw [List.any_cons, List.any_cons, ih, h.1]
theorem KV.repl {kvs : List (κ × V)} {vs : List (κ × Value)} (r : KV kvs vs) (k : κ) {y : V} {u : Value} (ry : RelV y u) :
  KV (kvs.map fun kv => if kv.1 = k then (kv.1, y) else kv) (vs.map fun kv => if kv.1 = k then (kv.1, u) else kv) := by
 unfold KV at r ⊢
 induction r with
 | nil => exact .nil
 | @cons p q ps qs h t ih =>
  rw [List.map_cons, List.map_cons]
  refine .cons ?_ ih
  obtain ⟨h1, h2⟩ := h
  by_cases e : p.1 = k
  ·rw [if_pos e, if_pos (h1.symm.trans e)]; exact ⟨h1, ry⟩
  ·rw [if_neg e, if_neg (fun z => e (h1.trans z))]; exact ⟨h1, h2⟩
theorem KV.put {kvs : List (κ × V)} {vs : List (κ × Value)} (r : KV kvs vs) (k : κ) {y : V} {u : Value} (ry : RelV y u) : KV (putK kvs k y) (stored vs k u) := by
 unfold putK stored
 rw [r.any k]
 by_cases e : (vs.any fun kv => decide (kv.1 = k)) = true
 ·rw [if_pos e, if_pos e]; exact r.repl k ry
 ·rw [if_neg e, if_neg e]; exact Paired.snoc r ⟨rfl, ry⟩
theorem KV.drop {kvs : List (κ × V)} {vs : List (κ × Value)} (r : KV kvs vs) (k : κ) : KV (dropK kvs k) (without vs k) := by
 unfold KV at r ⊢
 unfold dropK without
 induction r with
 | nil => exact .nil
 | @cons p q ps qs h t ih =>
  obtain ⟨h1, h2⟩ := h
  rw [List.filter_cons, List.filter_cons]
  by_cases e : p.1 = k
  ·have a : ¬ decide (p.1 ≠ k) = true := by simp [e]
   have b : ¬ decide (q.1 ≠ k) = true := by simp [h1.symm.trans e]
   rw [if_neg a, if_neg b]; exact ih
  ·have e' : ¬ q.1 = k := fun z => e (h1.trans z)
   have a : decide (p.1 ≠ k) = true := by simp [e]
   have b : decide (q.1 ≠ k) = true := by simp [e']
   rw [if_pos a, if_pos b]; exact .cons ⟨h1, h2⟩ ih
theorem KV.keys {kvs : List (κ × V)} {vs : List (κ × Value)} (r : KV kvs vs) : kvs.map (·.1) = vs.map (·.1) := by
 unfold KV at r
 induction r with
 | nil => rfl
 | cons h t ih => rw [List.map_cons, List.map_cons, ih, h.1]
theorem KV.length {kvs : List (κ × V)} {vs : List (κ × Value)} (r : KV kvs vs) : kvs.length = vs.length := Paired.length r
end
noncomputable abbrev KT (H : Hp) : List (List Key × V) → List (List Key × Addr × Value) → Prop := Paired fun p q => p.1 = q.1 ∧ H q.2.1 = some (.tup (p.1.map kV)) ∧ RelV p.2 q.2.2
theorem KT.val {H : Hp} {kvs : List (List Key × V)} {xs : List (List Key × Addr × Value)} (r : KT H kvs xs) (k : List Key) : RelO (valV kvs k) ((atKey xs k).map (·.2)) := by
 induction r with
 | nil => exact True.intro
 | @cons p q ps qs h t ih =>
  obtain ⟨h1, _, h2⟩ := h
  by_cases e : p.1 = k
  ·have e' : q.1 = k := h1.symm.trans e
   have b : atKey (q :: qs) k = some q.2 := by simp [atKey, List.find?_cons, e']
   rw [valV_pos e, b]; exact h2
  ·have e' : ¬ q.1 = k := fun z => e (h1.trans z)
   have b : atKey (q :: qs) k = atKey qs k := by simp [atKey, List.find?_cons, e']
   rw [valV_neg e, b]; exact ih
theorem KT.repl {H : Hp} {kvs : List (List Key × V)} {xs : List (List Key × Addr × Value)} (r : KT H kvs xs) (k : List Key) {y : V} {u : Value} (ry : RelV y u) :
  KT H (kvs.map fun kv => if kv.1 = k then (kv.1, y) else kv) (xs.map (putAt k u)) := by
 induction r with
 | nil => exact .nil
 | @cons p q ps qs h t ih =>
  rw [List.map_cons, List.map_cons]
  refine .cons ?_ ih
  obtain ⟨h1, h2, h3⟩ := h
  unfold putAt
  by_cases e : p.1 = k
  ·rw [if_pos e, if_pos (h1.symm.trans e)]; exact ⟨h1, h2, ry⟩
  ·rw [if_neg e, if_neg (fun z => e (h1.trans z))]; exact ⟨h1, h2, h3⟩
theorem KT.put {H : Hp} {kvs : List (List Key × V)} {xs : List (List Key × Addr × Value)} (r : KT H kvs xs) (k : List Key) {b : Addr} {y : V} {u : Value} (hb : H b = some (.tup (k.map kV))) (ry : RelV y u) :
  KT H (putK kvs k y) (storedH xs k b u) := by
 have e : (kvs.any fun kv => decide (kv.1 = k)) = (atKey xs k).isSome := by
  rw [valV_any, (r.val k).isSome_eq, Option.isSome_map]
 unfold putK storedH
 rw [e]
 by_cases q : (atKey xs k).isSome = true
 ·rw [if_pos q, if_pos q]; exact r.repl k ry
 ·rw [if_neg q, if_neg q]; exact Paired.snoc r ⟨rfl, hb, ry⟩
theorem KT.keeps {H H' : Hp} {kvs : List (List Key × V)} {xs : List (List Key × Addr × Value)} (r : KT H kvs xs) (ht : ∀ b ys, H b = some (.tup ys) → H' b = some (.tup ys)) : KT H' kvs xs :=
 Paired.mapP r fun _ _ z => ⟨z.1, ht _ _ z.2.1, z.2.2⟩
section
variable {P : Program} {w : World} {H : Hp} {h : Heap} {a : Addr}
end
def DGet (H : Hp) (a : Addr) (y : V) (r : Option V) : Prop :=
 (∃ kvs k, Rd H a (.dK kvs) ∧ y = kV k ∧ r = valV kvs k) ∨ ∃ kvs k b, Rd H a (.dT kvs) ∧ y = .ref b ∧ H b = some (.tup (k.map kV)) ∧ r = valV kvs k
def DPut (H : Hp) (a : Addr) (y v : V) (H' : Hp) : Prop :=
 (∃ kvs k, H a = some (.dK kvs) ∧ y = kV k ∧ kvs.length < sizeLine ∧ H' = upd H a (.dK (putK kvs k v))) ∨
 ∃ kvs k b, H a = some (.dT kvs) ∧ y = .ref b ∧ H b = some (.tup (k.map kV)) ∧ kvs.length < sizeLine ∧ H' = upd H a (.dT (putK kvs k v))
theorem DGet.k {H : Hp} {a : Addr} {kvs : List (Key × V)} {k : Key} (e : H a = some (.dK kvs)) : DGet H a (kV k) (valV kvs k) := .inl ⟨kvs, k, .inl e, rfl, rfl⟩
theorem DGet.t {H : Hp} {a b : Addr} {kvs : List (List Key × V)} {k : List Key} (e : H a = some (.dT kvs)) (eb : H b = some (.tup (k.map kV))) : DGet H a (.ref b) (valV kvs k) := .inr ⟨kvs, k, b, .inl e, rfl, eb, rfl⟩
theorem DPut.k {H : Hp} {a : Addr} {kvs : List (Key × V)} {k : Key} {v : V} (e : H a = some (.dK kvs)) (hl : kvs.length < sizeLine) : DPut H a (kV k) v (upd H a (.dK (putK kvs k v))) := .inl ⟨kvs, k, e, rfl, hl, rfl⟩
theorem DPut.t {H : Hp} {a b : Addr} {kvs : List (List Key × V)} {k : List Key} {v : V} (e : H a = some (.dT kvs)) (eb : H b = some (.tup (k.map kV))) (hl : kvs.length < sizeLine) :
  DPut H a (.ref b) v (upd H a (.dT (putK kvs k v))) := .inr ⟨kvs, k, b, e, rfl, eb, hl, rfl⟩
section
variable {X : Cx} {pins : List (Addr × Obj)} {σ : St} {H : Hp} {s : Shared} {a : Addr} {y v : V} {u r : Value} {o : Option V} {A : Around} {E : Value → Shared → Prop}
end
section
variable {X : Cx} {pins : List (Addr × Obj)} {σ : St} {H : Hp} {s : Shared} {a : Addr} {kvs : List (Key × V)} {k : Key} {u : Value} {A : Around} {E : Value → Shared → Prop}
end
section
variable {X : Cx} {o i e value : Expr} {pos pos' tpos : Pos} {td ty tv : TE}
end
section
variable {X : Cx} {pos : Pos}
end
structure M1 (X : Cx) (o : Expr) (m : Str) (apos : Pos) (e : Expr) (cpos : Pos) : Prop where
 base : attributeBase o m X.env (eval o X.env) = eval o X.env
 few : ((backTo cpos (starEach [e] X.env)).all (fun x => !x.1) && (backToKw cpos (keywordEach [] X.env)).all (fun x => x.1.isSome)
  && decide (([e] : List Expr).length + ([] : List Keyword).length + (if ([] : List Keyword).isEmpty then 0 else 1) < 30)) = true
 line : (apos.endLine == cpos.line) = true
 trees : backTo cpos (starEach [e] X.env) = [(false, eval e X.env)]
structure M2 (X : Cx) (o : Expr) (m : Str) (apos : Pos) (e f : Expr) (cpos : Pos) : Prop where
 base : attributeBase o m X.env (eval o X.env) = eval o X.env
 few : ((backTo cpos (starEach [e, f] X.env)).all (fun x => !x.1) && (backToKw cpos (keywordEach [] X.env)).all (fun x => x.1.isSome)
  && decide (([e, f] : List Expr).length + ([] : List Keyword).length + (if ([] : List Keyword).isEmpty then 0 else 1) < 30)) = true
 line : (apos.endLine == cpos.line) = true
 trees : backTo cpos (starEach [e, f] X.env) = [(false, eval e X.env), (false, eval f X.env)]
section
variable {X : Cx} {pins : List (Addr × Obj)} {σ : St} {H : Hp} {s : Shared} {a : Addr} {y d : V} {u r : Value} {o : Option V} {A : Around} {E : Value → Shared → Prop}
end
section
variable {X : Cx} {o e f : Expr} {apos cpos : Pos} {td ty tx : TE}
end
section
variable {X : Cx} {pins : List (Addr × Obj)} {σ : St} {H : Hp} {s : Shared} {a : Addr} {kvs : List (Key × V)} {A : Around} {E : Value → Shared → Prop}
end
section
variable {X : Cx} {pins : List (Addr × Obj)} {σ : St} {H : Hp} {s : Shared} {a : Addr} {y : V} {u : Value} {A : Around} {E : Value → Shared → Prop}
end
end L2
namespace HT
open PySem PyProof.Rows
section
open PySem.SeqAt
open PySem.AutoSeq1 (wpAny_loadPart')
open PySem.MeetsSeq PySem.MeetsSeq2 PySem.MeetsSeq3
end
section
variable {prog : Program} {w : World} {A : Around} {E : Value → Shared → Prop} {s : Shared}
theorem cat_tup {t b : Addr} {vs ws : List Value} {Q : Value → Shared → Prop} (ht : IsTup s.heap t vs.toArray) (hb : IsTup s.heap b ws.toArray) (hv : vs ≠ [])
  (h1 : ws = [] → Q (.ref t) s) (h2 : ws ≠ [] → Q (.ref s.heap.objs.size) { s with heap := s.heap.push { cls := .type "tuple", data := .seq (vs ++ ws).toArray } })
  (hsz : vs.length + ws.length ≤ sizeLine) : wpAny (model prog w) A (binaryOp .Add (.ref t) (.ref b)) Q E s := by
 obtain ⟨⟨cls, dd, data, sl⟩, ho, hc, n, hd⟩ := id ht
 obtain ⟨⟨cls2, dd2, data2, sl2⟩, ho2, hc2, n2, hd2⟩ := id hb
 simp only at hc hd hc2 hd2
 subst hc hd hc2 hd2
 have e : vs.toArray ++ ws.toArray = (vs ++ ws).toArray := by simp
 by_cases hw : ws = []
 ·exact concat_meets ⟨_, ho, rfl⟩ ⟨_, ho2, rfl⟩ noFill_tuple_add seq_tuple_add PySem.F.slot_tuple_add PySem.F.entry_tuple_add (PySem.F.args_tuple_add_2 _ _)
   (tuple_addW1 t b vs.toArray ws.toArray n n2 dd dd2 sl sl2 (by simpa using hv) (by simp [hw])) ⟨ho, ho2, h1 hw⟩
 ·refine concat_meets ⟨_, ho, rfl⟩ ⟨_, ho2, rfl⟩ noFill_tuple_add seq_tuple_add PySem.F.slot_tuple_add PySem.F.entry_tuple_add (PySem.F.args_tuple_add_2 _ _)
   (tuple_addW2 t b vs.toArray ws.toArray n n2 dd dd2 sl sl2 (by simpa using hv) (by simpa using hw) (by rw [List.size_toArray, List.size_toArray]; exact hsz)) ⟨ho, ho2, ?_⟩
  rw [e]
  exact h2 hw
noncomputable def sIx (n d : Nat) : Option Int → Nat
 | none => d
 | some v => if v < 0 then (v + (n : Int)).toNat else min v.toNat n
theorem sIx_none (n d : Nat) : sIx n d none = d := rfl
theorem sIx_nat (n d k : Nat) : sIx n d (some (k : Int)) = min k n := by
 show (if (k : Int) < 0 then ((k : Int) + (n : Int)).toNat else min (k : Int).toNat n) = min k n
 rw [if_neg (by omega), Int.toNat_natCast]
theorem sIx_le (n d : Nat) (hd : d ≤ n) (o : Option Int) : sIx n d o ≤ n := by
 cases o with
 | none => exact hd
 | some v =>
  show (if v < 0 then (v + (n : Int)).toNat else min v.toNat n) ≤ n
  by_cases hv : v < 0
  ·rw [if_pos hv]; omega
  ·rw [if_neg hv]; exact Nat.min_le_right _ _
theorem clip_eq (v : Int) (n d : Nat) : (if v < 0 then max (v + (n : Int)) 0 else min v (n : Int)) = ((sIx n d (some v) : Nat) : Int) := by
 show (if v < 0 then max (v + (n : Int)) 0 else min v (n : Int)) = (((if v < 0 then (v + (n : Int)).toNat else min v.toNat n) : Nat) : Int)
 by_cases hv : v < 0
 ·simp only [if_pos hv]; omega
 ·simp only [if_neg hv]; omega
theorem adjust_gen (lo hi : Option Int) (n : Nat) : Builtin.Slice.sliceAdjust lo hi 1 (n : Int) = (((sIx n 0 lo : Nat) : Int), ((sIx n n hi : Nat) : Int)) := by
 have h1 : ¬ ((1 : Int) < 0) := by omega
 unfold Builtin.Slice.sliceAdjust
 simp only [h1, if_false]
 refine Prod.ext ?_ ?_
 ·cases lo with
  | none => rfl
  | some v => exact clip_eq v n 0
 ·cases hi with
  | none => rfl
  | some v => exact clip_eq v n n
theorem places_gen (i j : Nat) : Builtin.Slice.slicePlaces (i : Int) (j : Int) 1 = j - i := by
 unfold Builtin.Slice.slicePlaces
 have h1 : (1 : Int) > 0 := by omega
 simp only [h1, if_true, Int.ediv_one]
 split <;> omega
theorem slicePart_ {v : Value} {o : Option Int} {Q : Option Int → Shared → Prop} (p : IsPart v o) (h : Q o s) : wpAny (model prog w) A (Builtin.Slice.slicePartIndex v) Q E s := by
 cases p with
 | none => exact slicePart_none h
 | int i t => exact slicePart_int h
theorem sliceApplied_gen {sl : Addr} {vl vu : Value} {lo hi : Option Int} {n : Nat} {Q : Int × Int × Nat → Shared → Prop} (hs : s.heap.IsSliceOf sl vl vu .none) (pl : IsPart vl lo) (pu : IsPart vu hi)
  (h : Q (((sIx n 0 lo : Nat) : Int), 1, sIx n n hi - sIx n 0 lo) s) : wpAny (model prog w) A (Builtin.Slice.sliceApplied (.ref sl) (pure (n : Int))) Q E s := by
 obtain ⟨os, hos, hcs, hds⟩ := id hs
 unfold Builtin.Slice.sliceApplied Builtin.Slice.sliceFields
 refine wpAny_bind (wpAny_bind (wpAny_field hos hds (x := vl) rfl (wpAny_bind (wpAny_field hos hds (x := vu) rfl (wpAny_bind (wpAny_field hos hds (x := .none) rfl (wpAny_pure ?_)))))))
 refine wpAny_bind (slicePart_none ?_)
 show wpAny _ _ (if ((1 : Int) == 0) = true then _ else _) _ _ s
 rw [if_neg (by decide)]
 refine wpAny_bind (slicePart_ pl (wpAny_bind (slicePart_ pu (wpAny_bind (wpAny_pure ?_)))))
 show wpAny _ _ (match Builtin.Slice.sliceAdjust lo hi 1 (n : Int) with | (lo, hi) => pure (lo, (1 : Int), Builtin.Slice.slicePlaces lo hi 1)) _ _ s
 rw [adjust_gen lo hi n]
 show wpAny _ _ (pure (((sIx n 0 lo : Nat) : Int), (1 : Int), Builtin.Slice.slicePlaces ((sIx n 0 lo : Nat) : Int) ((sIx n n hi : Nat) : Int) 1)) _ _ s
 rw [places_gen]
 exact wpAny_pure h
theorem pick_gen (xs : Array Value) (i k : Nat) : ((List.range k).filterMap fun (m : Nat) => xs[((i : Int) + (m : Int) * 1).toNat]?).toArray = ((xs.toList.drop i).take k).toArray := by
 have e : (fun (m : Nat) => xs[((i : Int) + (m : Int) * 1).toNat]?) = fun m => xs[i + m]? := by
  funext m
  have : ((i : Int) + (m : Int) * 1).toNat = i + m := by omega
  rw [this]
 rw [e]
 have := pick_run xs i k
 rw [List.filterMap_map] at this
 have e2 : ((fun x => xs[x]?) ∘ fun x => i + x) = fun m => xs[i + m]? := rfl
 rw [e2] at this
 rw [this]
theorem getItem_tuple_cut {t sl : Addr} {items : Array Value} {vl vu : Value} {lo hi : Option Int} {Q : Value → Shared → Prop} (ht : IsTup s.heap t items) (hs : s.heap.IsSliceOf sl vl vu .none) (pl : IsPart vl lo) (pu : IsPart vu hi)
  (hw : ¬ (sIx items.size 0 lo = 0 ∧ sIx items.size items.size hi = items.size))
  (h : Q (.ref s.heap.objs.size) { s with heap := s.heap.push { cls := .type "tuple", data := .seq ((items.toList.drop (sIx items.size 0 lo)).take (sIx items.size items.size hi - sIx items.size 0 lo)).toArray } })
  (hsz : items.size ≤ sizeLine) : wpAny (model prog w) A (getItem (.ref t) (.ref sl)) Q E s := by
 have htake : sizeOk (.seq ((items.toList.drop (sIx items.size 0 lo)).take (sIx items.size items.size hi - sIx items.size 0 lo)).toArray) := by
  show ((items.toList.drop (sIx items.size 0 lo)).take (sIx items.size items.size hi - sIx items.size 0 lo)).toArray.size ≤ sizeLine
  rw [List.size_toArray, List.length_take, List.length_drop, Array.length_toList]
  omega
 have hj : sIx items.size items.size hi ≤ items.size := sIx_le _ _ (Nat.le_refl _) hi
 obtain ⟨os, hos, hcs, hds⟩ := id hs
 have hTs : s.TypeIs (.ref sl) "slice" := ⟨os, hos, hcs⟩
 unfold getItem
 try with_reducible refine wpAny_holding ?_
 first | refine wpAny_bind (wpAny_pure ?_) | skip
 refine wpAny_bind (wpAny_sequenceKey ht.typeIs (by decide) ?_)
 refine wpAny_bind (wpAny_callSpecial?_slot (name := Str.ofString "__getitem__") ht.typeIs PyProof.Rows.slot_tuple_getitem
  (wpAny_call_entry PyProof.Rows.slot_tuple_getitem ht.typeIs entry_tuple_getitem ?_ (args_tuple_getitem _ _)))
 show wpAny _ _ (Builtin.Tuple.tupleItemsOf (.ref t) >>= _) _ _ s
 refine wpAny_bind (tupleItemsOf_ ht ?_)
 refine wpAny_bind (wpAny_typeOf hTs ?_)
 rw [if_pos (by decide)]
 refine wpAny_bind (sliceApplied_gen hs pl pu ?_)
 have hno : ¬ ((((sIx items.size 0 lo : Nat) : Int) == 0 && (1 : Int) == 1 && (sIx items.size items.size hi - sIx items.size 0 lo) == items.size) = true) := by
  intro q
  rw [Bool.and_eq_true, Bool.and_eq_true] at q
  have q1 : ((sIx items.size 0 lo : Nat) : Int) = 0 := eq_of_beq q.1.1
  have q2 : sIx items.size items.size hi - sIx items.size 0 lo = items.size := eq_of_beq q.2
  exact hw ⟨by omega, by omega⟩
 show wpAny _ _ (if (((sIx items.size 0 lo : Nat) : Int) == 0 && (1 : Int) == 1 && (sIx items.size items.size hi - sIx items.size 0 lo) == items.size) = true then _ else _) _ _ s
 rw [if_neg hno, pick_gen]
 first
  | exact wpAny_bind (m := Builtin.Tuple.tupleExact _) (wpAny_newObj_type (wpAny_pure ⟨_, rfl, wpAny_pure h⟩) htake)
  | exact wpAny_bind (m := Builtin.Tuple.tupleExact _) (wpAny_newObj_type (wpAny_bind (wpAny_pure (wpAny_pure ⟨_, rfl, wpAny_pure h⟩))) htake)
  | exact wpAny_bind (wpAny_bind (m := Builtin.Tuple.tupleExact _) (wpAny_newObj_type (wpAny_pure (wpAny_pure ⟨_, rfl, wpAny_pure h⟩)) htake))
  | exact wpAny_bind (wpAny_bind (m := Builtin.Tuple.tupleExact _) (wpAny_newObj_type (wpAny_pure ⟨_, rfl, wpAny_pure h⟩) htake))
end
end HT
namespace L2
open PySem PySem.Spec PyProof.Rows
noncomputable abbrev TO := St → Hp → (Option Int → Hp → Prop) → Prop
def PO (X : Cx) (e : Option Expr) (t : TO) : Prop :=
 ∀ (pins : List (Addr × Obj)) (s : Shared) (σ : St) (H : Hp) (Q : Option Int → Hp → Prop), Inv X pins σ H s → t σ H Q →
  wpAny (model X.prog X.w) X.A (evalPart e X.env) (fun u s' => ∃ o H', Inv X pins σ H' s' ∧ IsPart u o ∧ Q o H') X.xe s
noncomputable def tNoPart : TO := fun _ H Q => Q none H
noncomputable def tPart (t : TE) : TO := fun σ H Q => t σ H fun x H1 => ∃ i, x = .int i ∧ Q (some i) H1
section
variable {X : Cx} {e : Expr} {te : TE} {lo hi : Option Expr} {tl th : TO} {pos p2 : Pos}
theorem po_none : PO X none tNoPart := by
 intro pins s σ H Q I h
 rw [evalPart_none]
 exact wpAny_pure ⟨none, H, I, .none, h⟩
theorem po_some (h : PE X e te) : PO X (some e) (tPart te) := by
 intro pins s σ H Q I hw
 rw [evalPart_some]
 (refine thn (h pins s σ H _ I hw) ?_; rintro u s1 ⟨x, H1, I1, r1, q1⟩)
 obtain ⟨i, rfl, q⟩ := q1
 obtain ⟨t, rfl⟩ := r1
 exact ⟨some i, H1, I1, .int i t, q⟩
def SlR (X : Cx) (r : V → Option Int → Option Int → Hp → VK → Prop) : Prop :=
 ∀ (pins : List (Addr × Obj)) (s : Shared) (σ : St) (H : Hp) (x : V) (v vl vu : Value) (lo hi : Option Int) (sl : Addr) (Q : VK), Inv X pins σ H s → RelV x v → s.heap.IsSliceOf sl vl vu .none → IsPart vl lo → IsPart vu hi → r x lo hi H Q →
  ∃ T id, typeLookup (.type T) "__getitem__" = pure (some (.builtin id)) ∧ s.TypeIs v T ∧ wpAny (model X.prog X.w) X.A (getItem v (.ref sl)) (EP X pins σ Q) X.xe s
theorem SlR.or {r r' : V → Option Int → Option Int → Hp → VK → Prop} (h : SlR X r) (h' : SlR X r') : SlR X (fun x lo hi H Q => r x lo hi H Q ∨ r' x lo hi H Q) := by
 intro pins s σ H x v vl vu lo hi sl Q I rx hs pl pu q
 rcases q with q | q
 ·exact h pins s σ H x v vl vu lo hi sl Q I rx hs pl pu q
 ·exact h' pins s σ H x v vl vu lo hi sl Q I rx hs pl pu q
def tSl (r : V → Option Int → Option Int → Hp → VK → Prop) (te : TE) (tl th : TO) : TE := fun σ H Q => te σ H fun x H1 => tl σ H1 fun l H2 => th σ H2 fun u H3 => r x l u H3 Q
theorem pe_slice {r : V → Option Int → Option Int → Hp → VK → Prop} (hr : SlR X r) (he : PE X e te) (hl : PO X lo tl) (hu : PO X hi th) : PE X (.Subscript e (.Slice lo hi none p2) pos) (tSl r te tl th) := by
 intro pins s σ H Q I h
 (refine Subscript_ (thn (he pins s σ H _ I h) ?_); rintro v s1 ⟨x, H1, I1, r1, q1⟩)
 (refine wpAny_Slice (thn (hl pins s1 σ H1 _ I1 q1) ?_); rintro vl s2 ⟨l, H2, I2, pl, q2⟩; refine thn (hu pins s2 σ H2 _ I2 q2) ?_; rintro vu s3 ⟨u, H3, I3, pu, q3⟩)
 rw [evalPart_none]
 refine wpAny_pure ?_
 have I4 : Inv X pins σ H3 { s3 with heap := s3.heap.push { cls := .type "slice", data := .fields #[vl, vu, .none] } } := I3.kept (t' := s3.toks) fun b ob q => Heap.get?_push_of_some _ q
 obtain ⟨T, id, hT, ht, hg⟩ := hr pins { s3 with heap := s3.heap.push { cls := .type "slice", data := .fields #[vl, vu, .none] } } σ H3 x v vl vu l u s3.heap.objs.size Q I4 r1 (Heap.IsSliceOf.new ..) pl pu q3
 show wpAny (model X.prog X.w) X.A (subscriptTail e (.Slice lo hi none p2) v (.ref s3.heap.objs.size)) (EP X pins σ Q) X.xe { s3 with heap := s3.heap.push { cls := .type "slice", data := .fields #[vl, vu, .none] } }
 exact tail_any (ops := [.ref s3.heap.objs.size, v]) ht hT hg (by with_unfolding_all rfl)
noncomputable def cutV (xs : List V) (lo hi : Option Int) : List V := (xs.drop (HT.sIx xs.length 0 lo)).take (HT.sIx xs.length xs.length hi - HT.sIx xs.length 0 lo)
theorem cutV_length (xs : List V) (lo hi : Option Int) : (cutV xs lo hi).length ≤ xs.length := by
 unfold cutV
 rw [List.length_take, List.length_drop]
 omega
def rSlT (K : PySem.W.Frag) : V → Option Int → Option Int → Hp → VK → Prop := fun x lo hi H Q => ∃ a xs, x = .ref a ∧ SqT K H a xs ∧
 ¬ (HT.sIx xs.length 0 lo = 0 ∧ HT.sIx xs.length xs.length hi = xs.length) ∧ ∀ p, H p = none → Q (.ref p) (upd H p (.tup (cutV xs lo hi)))
theorem sl_tup : SlR X (rSlT X.K) := by
 intro pins s σ H x v vl vu lo hi sl Q I rx hs pl pu h
 obtain ⟨a, xs, rfl, hx, hw, q⟩ := h
 cases rx
 obtain ⟨its, r, ht, hz⟩ := I.tuple hx
 have hlen : its.toArray.size = xs.length := by rw [List.size_toArray]; exact r.length.symm
 refine ⟨"tuple", _, PyProof.Rows.slot_tuple_getitem.lookup, ht.typeIs, ?_⟩
 refine HT.getItem_tuple_cut ht hs pl pu (by rw [hlen]; exact hw) ?_ (by rw [hlen]; exact hz)
 rw [hlen]
 refine ⟨.ref s.heap.objs.size, _, I.laid (t' := s.toks) (o := .tup (cutV xs lo hi)) (fun b ob q => Heap.get?_push_of_some _ q) (Nat.le_refl _) ?_, rfl, q _ (I.hok.fresh (Nat.le_refl _))⟩
 exact ⟨Nat.le_trans (cutV_length xs lo hi) hz, _, (r.drop (HT.sIx xs.length 0 lo)).take (HT.sIx xs.length xs.length hi - HT.sIx xs.length 0 lo), TupD.new _ _⟩
def rCatT (K : PySem.W.Frag) : R2 := fun x y H Q => ∃ a b xs ys, x = .ref a ∧ y = .ref b ∧ SqT K H a xs ∧ SqT K H b ys ∧ xs ≠ [] ∧ xs.length + ys.length ≤ sizeLine ∧
 (ys = [] → Q (.ref a) H) ∧ (ys ≠ [] → ∀ p, H p = none → Q (.ref p) (upd H p (.tup (xs ++ ys))))
theorem Vals.nil_iff {xs : List V} {us : List Value} (r : Vals xs us) : us = [] ↔ xs = [] := by
 cases r with
 | nil => simp
 | cons _ _ => simp
theorem op_catT : OpR X (binaryOp .Add) (rCatT X.K) := by
 intro pins s σ H x y v u Q I rx ry h
 obtain ⟨a, b, xs, ys, rfl, rfl, ha, hb, hx, hz, q1, q2⟩ := h
 cases rx
 cases ry
 obtain ⟨its, r1, p1, _⟩ := I.tuple ha
 obtain ⟨its2, r2, p2, _⟩ := I.tuple hb
 refine HT.cat_tup p1 p2 (fun z => hx (r1.nil_iff.mp z)) (fun z => ⟨.ref a, H, I, rfl, q1 (r2.nil_iff.mp z)⟩) (fun z => ?_) (by rw [← r1.length, ← r2.length]; exact hz)
 refine ⟨.ref s.heap.objs.size, _, I.laid (t' := s.toks) (o := .tup (xs ++ ys)) (fun b ob q => Heap.get?_push_of_some _ q) (Nat.le_refl _) ?_, rfl, q2 (fun w => z (r2.nil_iff.mpr w)) _ (I.hok.fresh (Nat.le_refl _))⟩
 exact ⟨by rw [List.length_append]; exact hz, _, r1.append r2, TupD.new _ _⟩
end
end L2
namespace L2
open PySem PySem.Spec PyProof.Rows
noncomputable def ixN (n : Nat) (i : Int) : Option Nat := if 0 ≤ i then (if i < n then some i.toNat else none) else if -(n : Int) ≤ i then some (i + n).toNat else none
noncomputable def atI {α : Type} (xs : List α) (i : Int) : Option α := (ixN xs.length i).bind fun j => xs[j]?
theorem ixN_seq {n : Nat} {i : Int} {j : Nat} (h : ixN n i = some j) : seqIndex? i n = some j ∧ j < n ∧ -(n : Int) ≤ i ∧ i < n := by
 unfold ixN at h
 by_cases h0 : 0 ≤ i
 ·rw [if_pos h0] at h
  by_cases h1 : i < n
  ·rw [if_pos h1] at h
   have e : i.toNat = j := Option.some.inj h
   exact ⟨by rw [seqIndex_of h0 h1, e], by omega, by omega, h1⟩
  ·rw [if_neg h1] at h; cases h
 ·rw [if_neg h0] at h
  by_cases h1 : -(n : Int) ≤ i
  ·rw [if_pos h1] at h
   have e : (i + n).toNat = j := Option.some.inj h
   exact ⟨by rw [seqIndex_neg (by omega) h1, e], by omega, h1, by omega⟩
  ·rw [if_neg h1] at h; cases h
theorem atI_get {α : Type} {xs : List α} {i : Int} {v : α} (h : atI xs i = some v) : ∃ j, seqIndex? i xs.length = some j ∧ xs[j]? = some v ∧ j < xs.length ∧ -(xs.length : Int) ≤ i ∧ i < xs.length := by
 unfold atI at h
 cases e : ixN xs.length i with
 | none => rw [e] at h; cases h
 | some j =>
  rw [e] at h
  obtain ⟨h1, h2, h3, h4⟩ := ixN_seq e
  exact ⟨j, h1, h, h2, h3, h4⟩
theorem atI_nat {α : Type} {xs : List α} {j : Nat} {v : α} (h : xs[j]? = some v) : atI xs (j : Int) = some v := by
 have hj : j < xs.length := (List.getElem?_eq_some_iff.mp h).1
 have e : ixN xs.length (j : Int) = some j := by
  unfold ixN
  rw [if_pos (by omega), if_pos (by omega)]; simp
 unfold atI; rw [e]; exact h
def PlainIx (b : Expr) : Prop := ∀ o i, subscripted b false o i = operate [o, i] (getItem o i)
def IxR (X : Cx) (r : R2) : Prop :=
 ∀ (value slice : Expr) (pins : List (Addr × Obj)) (s : Shared) (σ : St) (H : Hp) (x y : V) (v u : Value) (Q : VK), Inv X pins σ H s → RelV x v → RelV y u → r x y H Q →
  subscripted slice false v u = operate [v, u] (getItem v u) → wpAny (model X.prog X.w) X.A (subscriptTail value slice v u) (EP X pins σ Q) X.xe s
def MtR (X : Cx) (id : String) (r : V → List V → Hp → VK → Prop) : Prop :=
 ∀ (pins : List (Addr × Obj)) (s : Shared) (σ : St) (H : Hp) (x : V) (xs : List V) (v : Value) (us : List Value) (Q : VK), Inv X pins σ H s → RelV x v → Vals xs us → r x xs H Q →
  wpAny (model X.prog X.w) X.A (call (.builtin id) (v :: us)) (EP X pins σ Q) X.xe s
section
variable {X : Cx} {a b : Expr} {ta tb : TE} {pos : Pos}
theorem IxR.or {r r' : R2} (h : IxR X r) (h' : IxR X r') : IxR X (fun x y H Q => r x y H Q ∨ r' x y H Q) := by
 intro value slice pins s σ H x y v u Q I rx ry q hs
 rcases q with q | q
 ·exact h value slice pins s σ H x y v u Q I rx ry q hs
 ·exact h' value slice pins s σ H x y v u Q I rx ry q hs
theorem MtR.or {id : String} {r r' : V → List V → Hp → VK → Prop} (h : MtR X id r) (h' : MtR X id r') : MtR X id (fun x xs H Q => r x xs H Q ∨ r' x xs H Q) := by
 intro pins s σ H x xs v us Q I rx rs q
 rcases q with q | q
 ·exact h pins s σ H x xs v us Q I rx rs q
 ·exact h' pins s σ H x xs v us Q I rx rs q
theorem pe_ix {r : R2} (hr : IxR X r) (ha : PE X a ta) (hb : PE X b tb) (hs : PlainIx b) : PE X (.Subscript a b pos) (tOp r ta tb) := by
 intro pins s σ H Q I h
 exact Subscript_ (binT ha hb I h fun v u s2 x y H2 I2 rx ry q => hr a b pins s2 σ H2 x y v u Q I2 rx ry q (hs _ _))
def rIxL (K : PySem.W.Frag) : R2 := fun x y H Q => ∃ p xs i v, x = .ref p ∧ y = .int i ∧ SqL K H p xs ∧ atI xs i = some v ∧ Q v H
def rIxT (K : PySem.W.Frag) : R2 := fun x y H Q => ∃ p xs i v, x = .ref p ∧ y = .int i ∧ SqT K H p xs ∧ atI xs i = some v ∧ Q v H
def rIxS : R2 := fun x y H Q => ∃ z i c, x = .str z ∧ y = .int i ∧ z.length ≤ sizeLine ∧ atI z.cps.toList i = some c ∧ Q (.str ⟨#[c]⟩) H
theorem ix_list : IxR X (rIxL X.K) := by
 intro value slice pins s σ H x y v u Q I rx ry h hs
 obtain ⟨p, xs, i, z, rfl, rfl, hq, he, q⟩ := h
 cases rx
 obtain ⟨t, rfl⟩ := ry
 obtain ⟨its, r, pl, hz⟩ := I.list hq
 obtain ⟨j, h1, h2, h3, h4, h5⟩ := atI_get he
 obtain ⟨w, ew, rw'⟩ := r.get h2
 have hl := r.length
 have hn := line63
 have fin : EP X pins σ Q w s := ⟨z, H, I, rw', q⟩
 by_cases h0 : 0 ≤ i
 ·have hj : i.toNat = j := by
   rw [seqIndex_of h0 h5] at h1
   exact Option.some.inj h1
  exact item_listR pl.isList h0 (by omega) (by rw [hj]; simpa using ew) fin hs
 ·have hj : (i + (its.toArray.size : Int)).toNat = j := by
   rw [seqIndex_neg (by omega) h4] at h1
   rw [List.size_toArray, ← hl]
   exact Option.some.inj h1
  exact subscriptTail_builtinR (x := w) pl.isList.typeIs slot_list_getitem.lookup
   (wpAny_getItem_list_neg (Q := fun r s' => r = w ∧ EP X pins σ Q r s') pl.isList (by omega) (by rw [List.size_toArray] <;> omega) (by omega) (by rw [hj]; simpa using ew) ⟨rfl, fin⟩) hs
theorem ix_tup : IxR X (rIxT X.K) := by
 intro value slice pins s σ H x y v u Q I rx ry h hs
 obtain ⟨p, xs, i, z, rfl, rfl, hq, he, q⟩ := h
 cases rx
 obtain ⟨t, rfl⟩ := ry
 obtain ⟨its, r, pl, hz⟩ := I.tuple hq
 obtain ⟨j, h1, h2, h3, h4, h5⟩ := atI_get he
 obtain ⟨w, ew, rw'⟩ := r.get h2
 have hl := r.length
 have hn := line63
 have fin : EP X pins σ Q w s := ⟨z, H, I, rw', q⟩
 exact subscriptTail_builtinR (x := w) pl.typeIs slot_tuple_getitem.lookup
  (getItem_tuple (j := j) (Q := fun r s' => r = w ∧ EP X pins σ Q r s') pl (by omega) (by omega) (by rw [List.size_toArray, ← hl]; exact h1) (by simpa using ew) ⟨rfl, fin⟩) hs
theorem ix_str : IxR X rIxS := by
 intro value slice pins s σ H x y v u Q I rx ry h hs
 obtain ⟨z, i, c, rfl, rfl, hz, he, q⟩ := h
 obtain ⟨t, rfl⟩ := rx
 obtain ⟨t', rfl⟩ := ry
 obtain ⟨j, h1, h2, h3, h4, h5⟩ := atI_get he
 have hl : z.cps.toList.length = z.length := by simp [Str.length]
 rw [hl] at h1 h4 h5
 have hn := line63
 exact tail_any (typeIs_str s z t) slot_str_getitem.lookup (getItem_str (c := c) (by
  have e1 : decide (i < -(2 ^ 63 : Int)) = false := decide_eq_false (by omega)
  have e2 : decide (i ≥ 2 ^ 63) = false := decide_eq_false (by omega)
  rw [e1, e2, Bool.or_false]) (by rw [h1]; simpa using h2) ⟨.str ⟨#[c]⟩, H, I.tok _, ⟨_, rfl⟩, q⟩) hs
def rIx (K : PySem.W.Frag) : R2 := fun x y H Q => rIxL K x y H Q ∨ rIxT K x y H Q ∨ rIxS x y H Q
theorem ix_seq : IxR X (rIx X.K) := ix_list.or (ix_tup.or ix_str)
theorem mapSeq_set (its : List Value) (n j : Nat) (u : Value) : Obj.mapSeq (·.setIfInBounds j u) { cls := .type "list", data := .seq its.toArray n } = { cls := .type "list", data := .seq (its.set j u).toArray n } := by
 simp [Obj.mapSeq]
theorem Inv.lst {pins : List (Addr × Obj)} {σ : St} {H : Hp} {s : Shared} {p : Addr} {xs : List V} (I : Inv X pins σ H s) (h : H p = some (.lst xs)) :
  ∃ (its : List Value) (n : Nat), Vals xs its ∧ s.heap.get? p = some { cls := .type "list", data := .seq its.toArray n } ∧ xs.length ≤ sizeLine := by
 obtain ⟨z, its, n, r, e⟩ := I.hok p _ h
 exact ⟨its, n, r, e, z⟩
theorem Inv.lstUpd {pins : List (Addr × Obj)} {σ : St} {H : Hp} {s : Shared} {p : Addr} {xs ys : List V} {its its' : List Value} {n n' : Nat} {f : Obj → Obj} (I : Inv X pins σ H s) (h : H p = some (.lst xs))
  (ho : s.heap.get? p = some { cls := .type "list", data := .seq its.toArray n }) (hf : f { cls := .type "list", data := .seq its.toArray n } = { cls := .type "list", data := .seq its'.toArray n' }) (r : Vals ys its') (hz : ys.length ≤ sizeLine) (t : Nat) :
  Inv X pins σ (upd H p (.lst ys)) { s with heap := s.heap.update p f, toks := t } := by
 have e : (s.heap.update p f).get? p = some { cls := .type "list", data := .seq its'.toArray n' } := by
  rw [Heap.get?_update_self f ho (by rw [hf] <;> rfl), hf]
 refine I.write (x := p) (e := p) (by rw [h]; trivial) (.inl rfl) (fun b u hb q => (Heap.get?_update_other _ _ (Ne.symm hb)).trans q) ⟨_, e⟩ ?_
 exact ⟨hz, its', n', r, e⟩
def rSetL : V → V → V → Hp → (Hp → Prop) → Prop := fun o i v H Q => ∃ p xs k j, o = .ref p ∧ i = .int k ∧ H p = some (.lst xs) ∧ ixN xs.length k = some j ∧ Q (upd H p (.lst (xs.set j v)))
theorem set_list : PSet X rSetL := by
 intro pins s σ H o i v ov iv u Q I ro ri rv h
 obtain ⟨p, xs, k, j, rfl, rfl, hp, hj, q⟩ := h
 cases ro
 obtain ⟨t, rfl⟩ := ri
 obtain ⟨its, n, r, ho, hz⟩ := I.lst hp
 obtain ⟨h1, h2, h3, h4⟩ := ixN_seq hj
 have hl := r.length
 have hn := line63
 have I' : Inv X pins σ (upd H p (.lst (xs.set j v))) { s with heap := s.heap.update p (Obj.mapSeq (·.setIfInBounds j u)) } :=
  I.lstUpd hp ho (mapSeq_set its n j u) (r.set rv j) (by rw [List.length_set]; exact hz) s.toks
 by_cases h0 : 0 ≤ k
 ·have hk : k.toNat = j := by
   rw [seqIndex_of h0 h4] at h1
   exact Option.some.inj h1
  exact PySem.W.ki_setAt ho h0 (by omega) (by rw [List.size_toArray, ← hl]; exact h4) (by rw [hk]; exact ⟨_, I', q⟩)
 ·have hk : (k + (its.toArray.size : Int)).toNat = j := by
   rw [seqIndex_neg (by omega) h3] at h1
   rw [List.size_toArray, ← hl]
   exact Option.some.inj h1
  exact PySem.W.ki_setBack ho (by omega) (by rw [List.size_toArray, ← hl]; exact h3) (by omega) (by rw [hk]; exact ⟨_, I', q⟩)
theorem slice_bounds (lo hi : Option Int) (n : Nat) : (sliceBounds lo hi none n).1 = ((HT.sIx n 0 lo : Nat) : Int) ∧ (sliceBounds lo hi none n).2.1 = ((HT.sIx n n hi : Nat) : Int) ∧ (sliceBounds lo hi none n).2.2 = 1 := by
 refine ⟨?_, ?_, rfl⟩
 ·cases lo with
  | none => simp [sliceBounds, HT.sIx]
  | some i =>
   simp only [sliceBounds, HT.sIx, Option.getD_none, show (1 : Int) > 0 by decide, if_true]
   by_cases h : i < 0
   ·simp only [h, if_true] <;> omega
   ·simp only [h, if_false] <;> omega
 ·cases hi with
  | none => simp [sliceBounds, HT.sIx]
  | some i =>
   simp only [sliceBounds, HT.sIx, Option.getD_none, show (1 : Int) > 0 by decide, if_true]
   by_cases h : i < 0
   ·simp only [h, if_true] <;> omega
   ·simp only [h, if_false] <;> omega
theorem slicePick_cut (its : List Value) (lo hi : Option Int) : slicePick its.toArray lo hi none = ((its.drop (HT.sIx its.length 0 lo)).take (HT.sIx its.length its.length hi - HT.sIx its.length 0 lo)).toArray := by
 obtain ⟨h1, h2, h3⟩ := slice_bounds lo hi its.toArray.size
 unfold slicePick
 rw [h1, h2, h3]
 simp only [sliceRange_one, pick_run, List.size_toArray] <;> rfl
def rSlL (K : PySem.W.Frag) : V → Option Int → Option Int → Hp → VK → Prop := fun x lo hi H Q => ∃ a xs, x = .ref a ∧ SqL K H a xs ∧ ∀ p, H p = none → Q (.ref p) (upd H p (.lst (cutV xs lo hi)))
theorem sl_list : SlR X (rSlL X.K) := by
 intro pins s σ H x v vl vu lo hi sl Q I rx hs pl pu h
 obtain ⟨a, xs, rfl, hx, q⟩ := h
 cases rx
 obtain ⟨its, r, ht, hz⟩ := I.list hx
 have hlen := r.length
 refine ⟨"list", _, slot_list_getitem.lookup, ht.isList.typeIs, ?_⟩
 refine wpAny_getItem_list_slice ht.isList hs pl pu .none (by simp) ?_ (by rw [List.size_toArray] <;> omega)
 rw [slicePick_cut, ← hlen]
 refine ⟨.ref s.heap.objs.size, _, I.laid (t' := s.toks) (o := .lst (cutV xs lo hi)) (fun b ob q => Heap.get?_push_of_some _ q) (Nat.le_refl _) ?_, rfl, q _ (I.hok.fresh (Nat.le_refl _))⟩
 exact ⟨Nat.le_trans (cutV_length xs lo hi) hz, _, 0, (r.drop (HT.sIx xs.length 0 lo)).take (HT.sIx xs.length xs.length hi - HT.sIx xs.length 0 lo), Heap.get?_push_size _ rfl⟩
noncomputable def flatV : V → Bool
 | .non => true
 | .bl _ => true
 | .int _ => true
 | .str _ => true
 | _ => false
noncomputable def eqV : V → V → Bool
 | .non, .non => true
 | .bl a, .bl b => a == b
 | .bl a, .int b => (if a then 1 else 0) == b
 | .int a, .bl b => a == (if b then 1 else 0)
 | .int a, .int b => a == b
 | .str a, .str b => a == b
 | _, _ => false
theorem eqAt_V {A : Around} {s : Shared} {y x : V} {u v : Value} (ry : RelV y u) (rx : RelV x v) (fy : flatV y = true) (fx : flatV x = true) : SeqAt.EqAt A s u v (eqV y x) := by
 cases y with
 | non =>
  cases ry
  cases x with
  | non => cases rx; exact SeqAt.EqAt.same _
  | bl b => cases rx; exact SeqAt.EqAt.none_bool b
  | int b => obtain ⟨t, rfl⟩ := rx; exact SeqAt.EqAt.none_int b t
  | str b => obtain ⟨t, rfl⟩ := rx; exact SeqAt.EqAt.none_str b t
  | _ => exact absurd (show false = true from fx) Bool.false_ne_true
 | bl a =>
  cases ry
  cases x with
  | non => cases rx; exact SeqAt.EqAt.bool_none a
  | bl b => cases rx; exact SeqAt.EqAt.bool_bool a b
  | int b => obtain ⟨t, rfl⟩ := rx; exact SeqAt.EqAt.bool_int a b t
  | str b => obtain ⟨t, rfl⟩ := rx; exact SeqAt.EqAt.bool_str a b t
  | _ => exact absurd (show false = true from fx) Bool.false_ne_true
 | int a =>
  obtain ⟨t', rfl⟩ := ry
  cases x with
  | non => cases rx; exact SeqAt.EqAt.int_none a t'
  | bl b => cases rx; exact SeqAt.EqAt.int_bool a t' b
  | int b => obtain ⟨t, rfl⟩ := rx; exact SeqAt.EqAt.int_int a t' b t
  | str b => obtain ⟨t, rfl⟩ := rx; exact SeqAt.EqAt.int_str a t' b t
  | _ => exact absurd (show false = true from fx) Bool.false_ne_true
 | str a =>
  obtain ⟨t', rfl⟩ := ry
  cases x with
  | non => cases rx; exact SeqAt.EqAt.str_none a t'
  | bl b => cases rx; exact SeqAt.EqAt.str_bool a t' b
  | int b => obtain ⟨t, rfl⟩ := rx; exact SeqAt.EqAt.str_int a t' b t
  | str b => obtain ⟨t, rfl⟩ := rx; exact SeqAt.EqAt.str_str a t' b t
  | _ => exact absurd (show false = true from fx) Bool.false_ne_true
 | _ => exact absurd (show false = true from fy) Bool.false_ne_true
noncomputable def eqU (x : V) (u : Value) : Bool := match u with
 | .none => eqV .non x
 | .bool b => eqV (.bl b) x
 | .int i _ => eqV (.int i) x
 | .str z _ => eqV (.str z) x
 | _ => false
theorem eqU_of {x y : V} {u : Value} (r : RelV y u) (f : flatV y = true) : eqU x u = eqV y x := by
 cases y with
 | non => cases r; rfl
 | bl b => cases r; rfl
 | int i => obtain ⟨t, rfl⟩ := r; rfl
 | str z => obtain ⟨t, rfl⟩ := r; rfl
 | _ => exact absurd (show false = true from f) Bool.false_ne_true
theorem any_eqU {x : V} : ∀ {xs : List V} {us : List Value}, Vals xs us → xs.all flatV = true → us.any (eqU x) = xs.any fun y => eqV y x
 | _, _, .nil, _ => rfl
 | y :: xs, u :: us, .cons r t, f => by
  rw [List.all_cons, Bool.and_eq_true] at f
  rw [List.any_cons, List.any_cons, eqU_of r f.1, any_eqU t f.2]
theorem mem_eqAt {A : Around} {s : Shared} {x : V} {v : Value} (rx : RelV x v) (fx : flatV x = true) : ∀ {xs : List V} {us : List Value}, Vals xs us → xs.all flatV = true → ∀ u ∈ us, SeqAt.EqAt A s u v (eqU x u)
 | _, _, .nil, _ => fun u hu => by cases hu
 | y :: xs, u :: us, .cons r t, f => fun u' hu => by
  rw [List.all_cons, Bool.and_eq_true] at f
  rcases List.mem_cons.mp hu with rfl | hu
  ·rw [eqU_of r f.1]; exact eqAt_V r rx f.1 fx
  ·exact mem_eqAt rx fx t f.2 u' hu
noncomputable def inV (x : V) (xs : List V) : Bool := xs.any fun y => eqV y x
def rIn (K : PySem.W.Frag) (neg : Bool) : R2 := fun x y H Q => ∃ p xs, y = .ref p ∧ (SqL K H p xs ∨ SqT K H p xs) ∧ flatV x = true ∧ xs.all flatV = true ∧ Q (.bl (if neg then !inV x xs else inV x xs)) H
theorem op_in_seq : OpR X (compareOp .In) (rIn X.K false) := by
 intro pins s σ H x y v u Q I rx ry h
 obtain ⟨p, xs, rfl, hq, fx, fs, q⟩ := h
 cases ry
 rcases hq with hq | hq
 ·obtain ⟨its, r, pl, hz⟩ := I.list hq
  refine SeqAt.in_listAt (eqU x) pl.isList (fun w hw => mem_eqAt rx fx r fs w (by simpa using hw)) ⟨.bl _, H, I, rfl, ?_⟩
  rw [show its.toArray.any (eqU x) = its.any (eqU x) by simp, any_eqU r fs]
  exact q
 ·obtain ⟨its, r, pl, hz⟩ := I.tuple hq
  refine SeqAt.in_tupleAt (eqU x) pl (fun w hw => mem_eqAt rx fx r fs w (by simpa using hw)) ⟨.bl _, H, I, rfl, ?_⟩
  rw [show its.toArray.any (eqU x) = its.any (eqU x) by simp, any_eqU r fs]
  exact q
theorem op_notIn_seq : OpR X (compareOp .NotIn) (rIn X.K true) := by
 intro pins s σ H x y v u Q I rx ry h
 obtain ⟨p, xs, rfl, hq, fx, fs, q⟩ := h
 cases ry
 rcases hq with hq | hq
 ·obtain ⟨its, r, pl, hz⟩ := I.list hq
  refine SeqAt.notIn_listAt (eqU x) pl.isList (fun w hw => mem_eqAt rx fx r fs w (by simpa using hw)) ⟨.bl _, H, I, rfl, ?_⟩
  rw [show its.toArray.any (eqU x) = its.any (eqU x) by simp, any_eqU r fs]
  exact q
 ·obtain ⟨its, r, pl, hz⟩ := I.tuple hq
  refine SeqAt.notIn_tupleAt (eqU x) pl (fun w hw => mem_eqAt rx fx r fs w (by simpa using hw)) ⟨.bl _, H, I, rfl, ?_⟩
  rw [show its.toArray.any (eqU x) = its.any (eqU x) by simp, any_eqU r fs]
  exact q
theorem call_len_seq : CallR X (.builtin "len") (fun xs H Q => ∃ p ys, xs = [.ref p] ∧ (SqL X.K H p ys ∨ SqT X.K H p ys) ∧ Q (.int ys.length) H) := by
 intro pins s σ H xs us Q I r h
 obtain ⟨p, ys, rfl, hq, q⟩ := h
 obtain ⟨u, rfl, rx⟩ := vals1 r
 cases rx
 have hn := line63
 rcases hq with hq | hq
 ·obtain ⟨its, r', pl, hz⟩ := I.list hq
  have hlen := r'.length
  exact Calls.call_len_list pl.isList (by simp only [List.size_toArray] <;> omega) ⟨.int ys.length, H, I.tok _, ⟨s.toks + 1, by rw [List.size_toArray, hlen]⟩, q⟩
 ·obtain ⟨its, r', pl, hz⟩ := I.tuple hq
  have hlen := r'.length
  exact len_tuple pl (by simp only [List.size_toArray] <;> omega) ⟨.int ys.length, H, I.tok _, ⟨s.toks + 1, by rw [List.size_toArray, hlen]⟩, q⟩
theorem call_len_str : CallR X (.builtin "len") (fun xs H Q => ∃ z, xs = [.str z] ∧ z.length ≤ sizeLine ∧ Q (.int z.length) H) := by
 intro pins s σ H xs us Q I r h
 obtain ⟨z, rfl, hz, q⟩ := h
 obtain ⟨u, rfl, t, rfl⟩ := vals1 r
 have hn := line63
 exact len_str (by omega) ⟨.int z.length, H, I.tok _, ⟨_, rfl⟩, q⟩
theorem CallR.or {f : Value} {r r' : List V → Hp → VK → Prop} (h : CallR X f r) (h' : CallR X f r') : CallR X f (fun xs H Q => r xs H Q ∨ r' xs H Q) := by
 intro pins s σ H xs us Q I rs q
 rcases q with q | q
 ·exact h pins s σ H xs us Q I rs q
 ·exact h' pins s σ H xs us Q I rs q
theorem call_list_of : CallR X (.type "list") (fun xs H Q => ∃ p ys, xs = [.ref p] ∧ (SqL X.K H p ys ∨ SqT X.K H p ys) ∧ ∀ l, H l = none → Q (.ref l) (upd H l (.lst ys))) := by
 intro pins s σ H xs us Q I r h
 obtain ⟨p, ys, rfl, hq, q⟩ := h
 obtain ⟨u, rfl, rx⟩ := vals1 r
 cases rx
 have fin : ∀ (its : List Value), Vals ys its → ys.length ≤ sizeLine → ∀ (h' : Heap) (c' : Nat), (∀ b o', s.heap.get? b = some o' → h'.get? b = some o') →
   h'.get? s.heap.objs.size = some { cls := .type "list", dict := none, data := .seq its.toArray c', slots := #[] } → EP X pins σ Q (.ref s.heap.objs.size) { s with heap := h' } := fun its r' hz h' c' kp e =>
  ⟨.ref s.heap.objs.size, _, I.laid (t' := s.toks) kp (Nat.le_refl _) (show ObjOk X.prog X.w _ h' _ (.lst ys) from ⟨hz, its, c', r', e⟩), rfl, q _ (I.hok.fresh (Nat.le_refl _))⟩
 rcases hq with hq | hq
 ·obtain ⟨its, r', pl, hz⟩ := I.list hq
  have hlen := r'.length
  obtain ⟨o, ho, hc, n, hd⟩ := pl.isList
  exact call_list_seq p (.inl rfl) ho hc hd (fun h' c' kp e => fin its r' hz h' c' kp e) (by simp only [List.size_toArray] <;> omega)
 ·obtain ⟨its, r', pl, hz⟩ := I.tuple hq
  have hlen := r'.length
  obtain ⟨o, ho, hc, n, hd⟩ := pl
  exact call_list_seq p (.inr rfl) ho hc hd (fun h' c' kp e => fin its r' hz h' c' kp e) (by simp only [List.size_toArray] <;> omega)
theorem call_tuple_of : CallR X (.type "tuple") (fun xs H Q => ∃ p ys, xs = [.ref p] ∧ ((SqL X.K H p ys ∧ ∀ l, H l = none → Q (.ref l) (upd H l (.tup ys))) ∨ (SqT X.K H p ys ∧ Q (.ref p) H))) := by
 intro pins s σ H xs us Q I r h
 obtain ⟨p, ys, rfl, h⟩ := h
 obtain ⟨u, rfl, rx⟩ := vals1 r
 cases rx
 rcases h with ⟨hq, q⟩ | ⟨hq, q⟩
 ·obtain ⟨its, r', pl, hz⟩ := I.list hq
  have hlen := r'.length
  refine call_tuple_list pl.isList (fun h' kp => ?_) (by simp only [List.size_toArray] <;> omega)
  have I1 : Inv X pins σ H { s with heap := h' } := I.kept (t' := s.toks) kp
  have I2 : Inv X pins σ (upd H h'.objs.size (.tup ys)) { s with heap := h'.push { cls := .type "tuple", data := .seq its.toArray } } :=
   I1.laid (t' := s.toks) (fun b o e => Heap.get?_push_of_some _ e) (Nat.le_refl _) (show ObjOk X.prog X.w _ _ _ (.tup ys) from ⟨hz, its, r', TupD.new _ _⟩)
  exact ⟨.ref h'.objs.size, _, I2, rfl, q _ (I1.hok.fresh (Nat.le_refl _))⟩
 ·obtain ⟨its, r', pl, hz⟩ := I.tuple hq
  exact call_tuple_same pl ⟨.ref p, H, I, rfl, q⟩
def tyV (K : PySem.W.Frag) (T : String) (x : V) (H : Hp) : Prop := match x with
 | .str _ => T = "str"
 | .int _ => T = "int"
 | .ref p => (T = "list" ∧ ∃ xs, SqL K H p xs) ∨ (T = "tuple" ∧ ∃ o, K.lookup p = some o ∧ o.cls = .type "tuple" ∧ o.dict = none) ∨
   (T = "dict" ∧ ((∃ kvs, H p = some (.dK kvs)) ∨ ∃ kvs, H p = some (.dT kvs))) ∨ (T = "set" ∧ ∃ S n, H p = some (.set S n))
 | _ => False
theorem tyV_is {pins : List (Addr × Obj)} {σ : St} {H : Hp} {s : Shared} {T : String} {x : V} {v : Value} (I : Inv X pins σ H s) (r : RelV x v) (ty : tyV X.K T x H) :
  s.TypeIs v T ∧ ∀ a, v = .ref a → ∃ ob, s.heap.get? a = some ob ∧ ob.dict = none := by
 cases x with
 | str z =>
  obtain ⟨t, rfl⟩ := r
  cases (show T = "str" from ty)
  exact ⟨typeIs_str s z t, fun _ e => nomatch e⟩
 | int i =>
  obtain ⟨t, rfl⟩ := r
  cases (show T = "int" from ty)
  exact ⟨typeIs_int s i t, fun _ e => nomatch e⟩
 | ref p =>
  cases r
  rcases ty with ⟨rfl, xs, hq⟩ | ⟨rfl, o, hk, hc, hd⟩ | ⟨rfl, hk⟩ | ⟨rfl, S, n, hk⟩
  ·obtain ⟨its, _, pl, _⟩ := I.list hq
   refine ⟨pl.isList.typeIs, fun a e => ?_⟩
   cases e
   obtain ⟨o, n, e, c, hd, _⟩ := pl
   exact ⟨o, e, hd⟩
  ·refine ⟨⟨o, I.kIn p o hk, hc⟩, fun a e => ?_⟩
   cases e
   exact ⟨o, I.kIn _ o hk, hd⟩
  ·have z : ∃ o, s.heap.get? p = some o ∧ o.ExactDict := by
    rcases hk with ⟨kvs, hk⟩ | ⟨kvs, hk⟩
    ·obtain ⟨_, _, _, _, o, _, _, e, ex, _⟩ := I.hok p _ hk
     exact ⟨o, e, ex⟩
    ·obtain ⟨_, _, _, _, o, _, _, e, ex, _⟩ := I.hok p _ hk
     exact ⟨o, e, ex⟩
   obtain ⟨o, e, ex⟩ := z
   refine ⟨⟨o, e, ex.1⟩, fun a e2 => ?_⟩
   cases e2
   exact ⟨o, e, ex.2.1⟩
  ·obtain ⟨o, _, _, _, e, ex, _⟩ := I.hok p _ hk
   refine ⟨⟨o, e, ex.1⟩, fun a e2 => ?_⟩
   cases e2
   exact ⟨o, e, ex.2.1⟩
 | _ => exact False.elim ty
def tBM (K : PySem.W.Frag) (T : String) (r : V → List V → Hp → VK → Prop) (to : TE) (t : TA) : TE := fun σ H Q => to σ H fun x H1 => tyV K T x H1 ∧ t σ H1 fun xs H2 => r x xs H2 Q
variable {o e : Expr} {es : List Expr} {to : TE} {t : TA} {name : Str} {apos cpos : Pos} {T id : String} {r : V → List V → Hp → VK → Prop}
theorem pe_bm (pa : PlainAttrs T) (slot : Slot T name id) (hty : typeOf (.builtin id) = pure (.type "method_descriptor")) (hm : MtR X id r) (ho : PE X o to) (ha : PA X (e :: es) t)
  (hbase : attributeBase o name X.env (eval o X.env) = eval o X.env := by rfl)
  (hfew : ((backTo cpos (starEach (e :: es) X.env)).all (fun x => !x.1) && (backToKw cpos (keywordEach [] X.env)).all (fun x => x.1.isSome)
   && decide ((e :: es).length + ([] : List Keyword).length + (if ([] : List Keyword).isEmpty then 0 else 1) < 30)) = true := by rfl)
  (hline : (apos.endLine == cpos.line) = true := by rfl) (hs : starEach (e :: es) X.env = (false, eval e X.env) :: starEach es X.env := by rfl) (hplain : (backTo cpos (starEach es X.env)).any (·.1) = false := by rfl) :
  PE X (.Call (.Attribute o name apos) (e :: es) [] cpos) (tBM X.K T r to t) := by
 intro pins s σ H Q I h
 (refine wpAny_Call_method_late hbase hfew hline rfl (thn (ho pins s σ H _ I h) ?_); rintro v s1 ⟨x, H1, I1, r1, ty, q1⟩)
 obtain ⟨h1, h2⟩ := tyV_is I1 r1 ty
 refine ⟨T, id, pa, slot, hty, h1, h2, ?_⟩
 have hA := ha cpos pins s1 σ H1 _ I1 q1
 rw [hs] at hA ⊢
 refine Calls.callWith_builtin (by show (false || (backTo cpos (starEach es X.env)).any (·.1)) = false; rw [hplain] <;> rfl) (Calls.evalArgs_plain ?_)
 (refine thn hA ?_; rintro us s2 ⟨vs, H2, I2, r2, q2⟩; exact hm pins s2 σ H2 x vs v us Q I2 r1 r2 q2)
/- xs.append(e), list.index on a module's tuple .. are MtR facts of 06m -/
end
end L2
namespace L2
open PySem PySem.Spec PyProof.Rows
def MtM (X : Cx) (id : String) (r : V → List V → Hp → VK → Prop) : Prop :=
 ∀ (pins : List (Addr × Obj)) (s : Shared) (σ : St) (H : Hp) (x : V) (xs : List V) (v : Value) (us : List Value) (Q : VK), Inv X pins σ H s → RelV x v → Vals xs us → r x xs H Q →
  wpAny (model X.prog X.w) X.A (call (.builtin id) (v :: us)) (EP X pins σ Q) X.xe s
theorem Vals.one : ∀ {x : V} {us : List Value}, Vals [x] us → ∃ u, us = [u] ∧ RelV x u
 | _, _, .cons r .nil => ⟨_, rfl, r⟩
theorem Vals.two : ∀ {x y : V} {us : List Value}, Vals [x, y] us → ∃ u v, us = [u, v] ∧ RelV x u ∧ RelV y v
 | _, _, _, .cons r (.cons q .nil) => ⟨_, _, rfl, r, q⟩
theorem Vals.zero : ∀ {us : List Value}, Vals [] us → us = []
 | _, .nil => rfl
theorem Vals.reverse {xs : List V} {us : List Value} (h : Vals xs us) : Vals xs.reverse us.reverse := by
 induction h with
 | nil => exact .nil
 | cons r t ih => rw [List.reverse_cons, List.reverse_cons]; exact Vals.append ih (.cons r .nil)
theorem Vals.rep {xs : List V} {us : List Value} (h : Vals xs us) : ∀ k : Nat, Vals (List.replicate k xs).flatten (List.replicate k us).flatten
 | 0 => .nil
 | k + 1 => by
  rw [List.replicate_succ, List.replicate_succ, List.flatten_cons, List.flatten_cons]
  exact Vals.append h (Vals.rep h k)
theorem foldl_rep (its : List Value) : ∀ (k : Nat) (acc : List Value),
  List.foldl (fun x1 x2 => x1 ++ x2) acc.toArray (List.replicate k its.toArray) = (acc ++ (List.replicate k its).flatten).toArray
 | 0, acc => by simp
 | k + 1, acc => by
  have e : acc.toArray ++ its.toArray = (acc ++ its).toArray := by simp
  have e2 : (acc ++ its) ++ (List.replicate k its).flatten = acc ++ (List.replicate (k + 1) its).flatten := by
   rw [List.replicate_succ, List.flatten_cons, List.append_assoc]
  rw [← e2, ← foldl_rep its k (acc ++ its), ← e, List.replicate_succ, List.foldl_cons]
section
variable {X : Cx} {pins : List (Addr × Obj)} {σ : St} {H : Hp} {s : Shared} {l b : Addr} {xs ys zs : List V}
theorem Inv.lset {its its' : List Value} {n : Nat} {f : Array Value → Array Value} {t' : Nat} (I : Inv X pins σ H s) (hH : H l = some (.lst xs))
  (e : s.heap.get? l = some { cls := .type "list", data := .seq its.toArray n }) (hf : f its.toArray = its'.toArray) (hv : Vals ys its') (hz : ys.length ≤ sizeLine) :
  Inv X pins σ (upd H l (.lst ys)) { s with heap := s.heap.update l (Obj.mapSeq f), toks := t' } := by
 have q := PySem.IsL.update e f
 rw [hf] at q
 refine I.write (x := l) (e := l) (by rw [hH]; exact trivial) (.inl rfl) (fun b' u hb hu => (Heap.get?_update_other s.heap (Obj.mapSeq f) (Ne.symm hb)).trans hu) ⟨_, q⟩ ?_
 exact ⟨hz, its', _, hv, q⟩
theorem Inv.lnew {its : List Value} {t' : Nat} (I : Inv X pins σ H s) (hv : Vals ys its) (hz : ys.length ≤ sizeLine) :
  Inv X pins σ (upd H s.heap.objs.size (.lst ys)) { s with heap := s.heap.push { cls := .type "list", data := .seq its.toArray }, toks := t' } :=
 I.laid (fun _ _ q => Heap.get?_push_of_some _ q) (Nat.le_refl _) ⟨hz, its, 0, hv, Heap.get?_push_size _ rfl⟩
theorem Inv.fresh (I : Inv X pins σ H s) : H s.heap.objs.size = none := I.hok.fresh (Nat.le_refl _)
theorem Inv.lstM (I : Inv X pins σ H s) (hH : H l = some (.lst xs)) : xs.length ≤ sizeLine ∧ ∃ (its : List Value) (n : Nat), Vals xs its ∧ xs.length = its.length ∧ s.heap.get? l = some { cls := .type "list", data := .seq its.toArray n } := by
 obtain ⟨z, its, n, r, e⟩ := I.hok l _ hH
 exact ⟨z, its, n, r, r.length, e⟩
theorem notLongL {n : Nat} (h : n ≤ sizeLine) : Builtin.List.listTooLong n = false := by
 unfold Builtin.List.listTooLong
 exact decide_eq_false (by omega)
end
section
variable {X : Cx}
def rAppend : V → List V → Hp → VK → Prop := fun x vs H Q => ∃ l xs y, x = .ref l ∧ vs = [y] ∧ H l = some (.lst xs) ∧ xs.length < sizeLine ∧ Q .non (upd H l (.lst (xs ++ [y])))
theorem mt_append : MtM X "list.append" rAppend := by
 intro pins s σ H x vs v us Q I rx rv h
 obtain ⟨l, xs, y, rfl, rfl, hH, hz, q⟩ := h
 cases rx
 obtain ⟨u, rfl, ru⟩ := rv.one
 obtain ⟨z, its, n, r, hl, e⟩ := I.lstM hH
 refine call_meets F.slot_list_append ⟨_, e, rfl⟩ F.entry_list_append (F.args_list_append_2 _ _) (PySem.list_append l its.toArray n u (by rw [List.size_toArray]; omega)) ⟨e, ?_⟩
 refine ⟨.non, _, I.lset (its' := its ++ [u]) hH e (by simp) (r.append (.cons ru .nil)) ?_, rfl, q⟩
 rw [List.length_append, List.length_singleton]
 omega
def rExtend : V → List V → Hp → VK → Prop := fun x vs H Q => ∃ l b xs zs, x = .ref l ∧ vs = [.ref b] ∧ H l = some (.lst xs) ∧ H b = some (.lst zs) ∧ xs.length + zs.length ≤ sizeLine ∧ Q .non (upd H l (.lst (xs ++ zs)))
theorem mt_extend : MtM X "list.extend" rExtend := by
 intro pins s σ H x vs v us Q I rx rv h
 obtain ⟨l, b, xs, zs, rfl, rfl, hH, hB, hz, q⟩ := h
 cases rx
 obtain ⟨u, rfl, ru⟩ := rv.one
 cases ru
 obtain ⟨z, its, n, r, hl, e⟩ := I.lstM hH
 obtain ⟨z2, its2, n2, r2, hl2, e2⟩ := I.lstM hB
 have hsz : its.toArray.size + its2.toArray.size ≤ sizeLine := by rw [List.size_toArray, List.size_toArray]; omega
 have hlong : ¬ (!its.toArray.isEmpty && Builtin.List.listTooLong (its.toArray.size + its2.toArray.size)) = true := by
  rw [notLongL hsz, Bool.and_false]
  exact Bool.false_ne_true
 refine call_meets F.slot_list_extend ⟨_, e, rfl⟩ F.entry_list_extend (F.args_list_extend_2 _ _)
  (AutoSeq1.list_extend_list_list_0 l its.toArray n b its2.toArray n2 hlong (by rw [List.size_toArray]; omega) (by omega)) ⟨e, e2, ?_⟩
 refine ⟨.non, _, I.lset (its' := its ++ its2) hH e (by simp) (r.append r2) ?_, rfl, q⟩
 rw [List.length_append]
 omega
def rCat : R2 := fun x y H Q => ∃ l b xs zs, x = .ref l ∧ y = .ref b ∧ H l = some (.lst xs) ∧ H b = some (.lst zs) ∧ xs.length + zs.length ≤ sizeLine ∧ ∀ p, H p = none → Q (.ref p) (upd H p (.lst (xs ++ zs)))
theorem op_cat : OpR X (binaryOp .Add) rCat := by
 intro pins s σ H x y v u Q I rx ry h
 obtain ⟨l, b, xs, zs, rfl, rfl, hH, hB, hz, q⟩ := h
 cases rx
 cases ry
 obtain ⟨z, its, n, r, hl, e⟩ := I.lstM hH
 obtain ⟨z2, its2, n2, r2, hl2, e2⟩ := I.lstM hB
 refine PySem.P.add_list e e2 ?_ (by rw [List.size_toArray, List.size_toArray]; omega)
 have ea : its.toArray ++ its2.toArray = (its ++ its2).toArray := by simp
 rw [ea]
 exact ⟨.ref _, _, I.lnew (t' := s.toks) (r.append r2) (by rw [List.length_append]; omega), rfl, q _ I.fresh⟩
def rRep : R2 := fun x y H Q => ∃ l k xs, x = .ref l ∧ y = .int k ∧ H l = some (.lst xs) ∧ -(2 ^ 63) ≤ k ∧ k < 2 ^ 63 ∧ xs.length * k.toNat ≤ sizeLine ∧
 ∀ p, H p = none → Q (.ref p) (upd H p (.lst (List.replicate k.toNat xs).flatten))
theorem len_rep {α : Type} (xs : List α) (k : Nat) : (List.replicate k xs).flatten.length = k * xs.length := by
 induction k with
 | zero => simp
 | succ k ih => rw [List.replicate_succ, List.flatten_cons, List.length_append, ih, Nat.succ_mul, Nat.add_comm]
theorem op_rep : OpR X (binaryOp .Mult) rRep := by
 intro pins s σ H x y v u Q I rx ry h
 obtain ⟨l, k, xs, rfl, rfl, hH, h1, h2, hz, q⟩ := h
 cases rx
 obtain ⟨t, rfl⟩ := ry
 obtain ⟨z, its, n, r, hl, e⟩ := I.lstM hH
 have hlen : its.toArray.size * k.toNat ≤ sizeLine := by rw [List.size_toArray, ← hl]; exact hz
 have hcap : ¬ its.toArray.size * k.toNat > (2 ^ 63 - 1) / 8 := by
  have : (sizeLine : Nat) ≤ (2 ^ 63 - 1) / 8 := by decide
  omega
 have hfit : ¬ (!Builtin.List.listFitsIndex k) = true := by
  rw [fitsIndex_both h1 h2]
  exact Bool.false_ne_true
 have hlong : ¬ Builtin.List.listTooLong (its.toArray.size * k.toNat) = true := by
  rw [notLongL hlen]
  exact Bool.false_ne_true
 have hnew : List.foldl (fun x1 x2 => x1 ++ x2) #[] (List.replicate (if its.toArray.isEmpty = true then 0 else k.toNat) its.toArray) = (List.replicate k.toNat its).flatten.toArray := by
  have f0 : ∀ m : Nat, List.foldl (fun x1 x2 => x1 ++ x2) #[] (List.replicate m its.toArray) = (List.replicate m its).flatten.toArray := fun m => by
   have := foldl_rep its m []
   rw [List.nil_append] at this
   exact this
  rw [f0]
  cases its with
  | nil => simp
  | cons a r' => rw [if_neg (by simp)]
 refine wpAny_binaryOp_repeat_ref (T := "list") (U := "int") (by decide) ⟨_, e, rfl⟩ (fun s' => typeIs_int s' k t) noFill_list_mul F.fills_int_mul F.slot_int_rmul repeat_list F.slot_int_index.lookup
  (call_meets F.slot_int_rmul (typeIs_int s k t) F.entry_int_rmul (F.args_int_rmul_2 _ _) (int___rmul___int_list k t l its.toArray n)
   ⟨e, rfl, ⟨_, e, rfl⟩, call_meets F.slot_list_mul ⟨_, e, rfl⟩ F.entry_list_mul (F.args_list_mul_2 _ _) (AutoListH.list___mul___list_int_3 l its.toArray n k t hfit hcap hlong) ⟨e, ?_⟩⟩)
 rw [hnew]
 exact ⟨.ref _, _, I.lnew (t' := s.toks) (r.rep k.toNat) (by rw [len_rep, Nat.mul_comm]; exact hz), rfl, q _ I.fresh⟩
end
section
variable {prog : Program} {w : World} {A : Around} {E : Value → Shared → Prop} {s : Shared}
end
section
variable {X : Cx}
end
end L2
namespace Att
open PySem PySem.W PySem.Calls PyProof.Rows
theorem ints_of_wellAll {P : Params} {h : Heap} : ∀ (ns : List Int) (vs : List Value), WellAll P h vs (ns.map WData.int) → IntsAre vs ns := by
 intro ns
 induction ns with
 | nil =>
  intro vs w
  rw [List.map_nil] at w
  cases w
  exact .nil
 | cons n ns ih =>
  intro vs w
  rw [List.map_cons] at w
  cases w with
  | cons a b =>
   cases a
   exact .cons _ _ (ih _ b)
theorem script_of {l : OpenLaw} {n : Nat} (hn : l.most = some n) {P : Params} {h : Heap} {args : List WData} {vals : List Value}
  (hpre : l.row.toRowW.claim.pre args = true) (hwl : WellAll P h vals args) :
  ∃ a vs ns, vals = [Value.ref a] ∧ args = [WData.list (ns.map WData.int)] ∧ h.get? a = some { cls := .type "list", data := .seq vs.toArray } ∧ IntsAre vs ns ∧ ns.length ≤ n := by
 have hsh : WShape.hasAll [] args [.list .int] = true := (pre_splitW hpre).1
 have hc : l.pre.holds [] { args := args } = true := (pre_splitW hpre).2
 obtain ⟨d, r, rfl, h1, h2⟩ := hasAllW_cons hsh
 obtain rfl := hasAllW_nil h2
 obtain ⟨xs, rfl, h3⟩ := hasW_list h1
 obtain ⟨ns, rfl⟩ := items_int h3
 have hlen : ns.length ≤ n := by
  unfold OpenLaw.pre at hc
  have h4 : (WTm.not (.lt (.lit (.int (n : Int))) (.len (.arg 0)))).holds [] { args := [.list (ns.map .int)] } = true := by
   have h4 := (holds_andW hc).1
   rw [hn] at h4
   exact h4
  have h5 := condW_of h4 (w_not (w_lt w_lit (w_len_list (w_arg rfl))))
  rw [List.length_map] at h5
  refine Nat.le_of_not_lt fun q => ?_
  have q' : (n : Int) < ((ns.length : Nat) : Int) := by omega
  first
   | (rw [decide_eq_true q'] at h5; exact absurd h5 (by decide))
   | (simp at h5; omega)
 cases hwl with
 | cons w1 w2 =>
  cases w2
  cases w1 with
  | list ho hall => exact ⟨_, _, ns, rfl, rfl, ho, ints_of_wellAll ns _ hall, hlen⟩
theorem post_true (l : OpenLaw) (args : List WData) : l.row.toRowW.claim.post args (.bool true) args = true :=
 postW_of (r := l.row.toRowW) (X := (true == true))
  (show WShape.has [] (.bool true) .bool = true by first | rfl | decide | simp [WShape.has, WShape.arms, WShape.armsAll])
  (show (WTm.eq .res (.lit (.bool true))).value [] { args := args, res := some (.bool true), after := args } = some (.bool (true == true)) from w_eq_bool (w_res rfl) w_lit) rfl
theorem attach_call {l : OpenLaw} {n : Nat} {q : Program} {loose : List Str} {XP : (Str → Option Value) → Heap → Prop} {YP : World → Heap → Prop} {d : DefRec}
  (hn : l.most = some n) (hdf : d.params.defaults = [])
  (call : ∀ (w : World) (s₀ s₁ : Shared) (mg mb : Str → Option Value) (fa : Addr) (o : Obj) (pm cd doc : Value) (a : Addr) (vs : List Value) (ns : List Int),
   Ground q loose [] XP w s₀ mg mb s₁.heap → YP w s₁.heap →
   s₁.heap.get? fa = some o → o.data = .func (docDef d.name d.params d.body d.scope pm cd doc) → s₁.heap.CodeRec cd d.name → mg d.name = some (.ref fa) →
   s₁.heap.get? a = some { cls := .type "list", data := .seq vs.toArray } → IntsAre vs ns → ns.length ≤ n → s₁.gens = #[] →
   codeAny (model l.prog w) callerA (.call (.ref fa) ⟨[.ref a], []⟩) (fun r s' => r = .ok (.ret (.bool true)) ∧ OldK s₁.heap s'.heap ∧ s'.os = s₁.os ∧ AllBare s'.gens) s₁) :
  WalkO q loose XP YP l.row.toRowW d [] (fun f vs => PySem.call f vs) := by
 intro w s₀ s₁ mg mb G Y fa o pm cd doc dV kV ho hd hcd hD hmg hg args vals as hpre hlay hrd hwl hlo
 obtain rfl : dV = .none := Dflts.none hD hdf
 obtain rfl : kV = .none := Dflts.noKw hD
 obtain ⟨a, vs, ns, rfl, rfl, hobj, hints, hlen⟩ := script_of hn hpre hwl
 refine enter_call (codeAny_mono (call w s₀ s₁ mg mb fa o pm cd doc a vs ns G Y ho (fd_plain hd) hcd hmg hobj hints hlen hg) fun r s' hq => ?_)
 obtain ⟨rfl, h2, h3, h4⟩ := hq
 exact ⟨.inl ⟨.bool true, .bool true, [], rfl, fun _ => rfl, .bool true, post_true l _, fun _ => ⟨List.Pairwise.nil, fun _ hm => (nomatch hm)⟩⟩, h2, h3, h4⟩
section
variable {prog : Program} {w : World} {A : Around} {E : Value → Shared → Prop} {s : Shared} {K : Frag}
end
end Att
namespace L2
open PySem PySem.Spec PyProof.Rows
theorem vals_ints : ∀ {vs : List Value} {ns : List Int}, IntsAre vs ns → Vals (ns.map V.int) vs
 | _, _, .nil => .nil
 | _, _, .cons n t h => .cons ⟨t, rfl⟩ (vals_ints h)
def Only (H : Hp) : Prop := ∀ b, H b = none ∨ ∃ o xs, H b = some (.frz o (.lst xs))
theorem law_call {P : Program} {w : World} {K : PySem.W.Frag} {mg mb : Str → Option Value} {CX : CXT} {k : Nat} {fa a : Addr} {fd : FuncData} {x : Str} {sp : Sp} {s₁ : Shared} {vs : List Value} {ns : List Int}
  (KX : K.In s₁.heap) (hns : s₁.heap.Ns mainGlobals mg) (hb : s₁.heap.Ns builtinsNs mb) (hbb : ∀ x : Str, x ≠ "__name__" → mb x = bootBuiltins x) (hlim : s₁.heap.NoLimit) (hg : s₁.gens = #[])
  (ha : s₁.heap.get? a = some { cls := .type "list", data := .seq vs.toArray }) (hi : IntsAre vs ns) (hl : ns.length ≤ sizeLine) (hr : Room k callerA)
  (F : ∀ base : Heap, K.In base → base.Ns mainGlobals mg → FnOk P w K mg base CX k fa fd [x] sp) (hbind : ∀ (s : Shared) (u : Value), BindsTo s fd ⟨[u], []⟩ [(x, u)])
  (hsp : ∀ H : Hp, Only H → SqL K H a (ns.map V.int) → sp [.ref a] H (fun v _ => v = .bl true) fun _ _ _ => False)
  (hCX : ∀ H e s', CX [] H s₁ (fun _ _ _ => False) e s' → False) :
  codeAny (model P w) callerA (.call (.ref fa) ⟨[.ref a], []⟩) (fun r s' => r = .ok (.ret (.bool true)) ∧ OldK s₁.heap s'.heap ∧ s'.os = s₁.os ∧ AllBare s'.gens) s₁ := by
 have rv := vals_ints hi
 have lenV := hi.length
 have core : ∀ H : Hp, Only H → SqL K H a (ns.map V.int) → HOk P w H s₁.heap → (∀ b, H b ≠ none → b = a) → (H a ≠ none → K.lookup a = none) →
   codeAny (model P w) callerA (.call (.ref fa) ⟨[.ref a], []⟩) (fun r s' => r = .ok (.ret (.bool true)) ∧ OldK s₁.heap s'.heap ∧ s'.os = s₁.os ∧ AllBare s'.gens) s₁ := by
  intro H hO hS hok hA hK
  have base_of : ∀ {b : Addr} {o : Obj}, s₁.heap.get? b = some o → H b = none → (hidT s₁.heap H).get? b = some o := fun e n => hidT_get e n
  have noA : ∀ {b : Addr} {o : Obj} {es : Array DictEntry} {ep : Nat}, s₁.heap.get? b = some o → o.data = .dict es ep → H b = none := fun {b o es ep} e d => by
   cases q : H b with
   | none => rfl
   | some u =>
    have e' : b = a := hA b (by rw [q]; simp)
    subst e'
    rw [ha] at e; cases e
    have d' : Data.seq vs.toArray _ = Data.dict es ep := d
    cases d'
  have nsK : ∀ {b : Addr} {m : Str → Option Value}, s₁.heap.Ns b m → (hidT s₁.heap H).Ns b m := fun {b m} ⟨o, es, ep, e, d, r⟩ => ⟨o, es, ep, base_of e (noA e d), d, r⟩
  have hKb : K.In (hidT s₁.heap H) := fun b o e => base_of (KX b o e) (by
   cases q : H b with
   | none => rfl
   | some u =>
    have e' : b = a := hA b (by rw [q]; simp)
    subst e'
    rw [hK (by rw [q]; simp)] at e; cases e)
  have hM : Mod K mg (hidT s₁.heap H) := ⟨hKb, nsK hns, ⟨mb, nsK hb, hbb⟩, let ⟨mc, h1, h2⟩ := hlim; ⟨mc, nsK h1, h2⟩⟩
  have e0 : Env0 P w K mg (hidT s₁.heap H) callerA [] s₁ H := ⟨rfl, hM, fun b o e => of_hidT e, Nat.le_of_eq (hidT_size _ _), trivial, fun b hb => absurd (show b ∈ ([] : List Addr) from hb) (by simp), hok, .of_eq hg⟩
  refine codeAny_mono ((F _ hKb (nsK hns)).run callerA [] s₁ H ⟨[.ref a], []⟩ [.ref a] [.ref a] _ _ hr e0 (hbind s₁ (.ref a)) (.cons rfl .nil) (hsp H hO hS)) fun r s' h => ?_
  cases r with
  | error e => exact (hCX H e s' h).elim
  | ok fl =>
   cases fl with
   | next => exact False.elim h
   | brk => exact False.elim h
   | cont => exact False.elim h
   | ret u =>
    obtain ⟨v, H', os, bare, un, hok', r', q⟩ := h
    have q' : v = .bl true := q
    subst q'
    obtain rfl : u = Value.bool true := r'
    refine ⟨rfl, OldK.of_keep fun b o e => ?_, os, bare⟩
    cases q : H b with
    | none => exact un.keep b o e q (by intro z; exact absurd (show b ∈ ([] : List Addr) from z) (by simp)) (by simp)
    | some u =>
     rcases hO b with z | ⟨ob, xs, z⟩
     ·rw [q] at z; cases z
     ·have z2 := un.frzs b ob _ z
      obtain ⟨e1, _⟩ := hok b _ z
      obtain ⟨e2, _⟩ := hok' b _ z2
      rw [e] at e1; cases e1
      exact e2
 cases hk : K.lookup a with
 | some o =>
  have e := KX a o hk
  rw [ha] at e
  cases e
  refine core (fun _ => none) (fun _ => .inl rfl) (.inr ⟨_, vs.toArray, _, hk, rfl, rfl, rfl, by rw [List.size_toArray, lenV]; exact hl, by simpa using rv⟩) (fun b u z => by have z' : (none : Option HO) = some u := z; cases z') (fun b z => absurd rfl z) fun z => absurd rfl z
 | none =>
  refine core (fun b => if b = a then some (.frz { cls := .type "list", data := .seq vs.toArray } (.lst (ns.map V.int))) else none) (fun b => ?_) (.inl (.inr ⟨{ cls := .type "list", data := .seq vs.toArray }, if_pos rfl⟩)) (fun b u z => ?_) (fun b z => ?_) fun _ => hk
  ·by_cases hb : b = a
   ·exact .inr ⟨_, _, if_pos hb⟩
   ·exact .inl (if_neg hb)
  ·by_cases hb : b = a
   ·have z' := (if_pos hb).symm.trans z
    cases z'
    subst hb
    exact ⟨ha, by rw [List.length_map]; exact hl, vs, _, rv, ha⟩
   ·have z' := (if_neg hb).symm.trans z
    cases z'
  ·by_cases hb : b = a
   ·exact hb
   ·exact absurd (if_neg hb) z
end L2
namespace L2
open PySem PySem.Spec PyProof.Rows
theorem walk_of {l : PySem.W.OpenLaw} {n k : Nat} {q : Program} {loose : List Str} {XP : (Str → Option Value) → Heap → Prop} {YP : World → Heap → Prop} {d : DefRec} {K : Params → PySem.W.Frag} {CX : World → CXT} {sp : World → Sp} {x : Str}
  (hn : l.most = some n) (hn2 : n ≤ sizeLine) (hdf : d.params.defaults = []) (hr : Room k callerA)
  (hY : ∀ (w : World) (h : Heap), YP w h → (K w.params).In h)
  (F : ∀ (w : World) (mg : Str → Option Value) (fa : Addr) (h : Heap), (K w.params).In h → h.Ns mainGlobals mg → mg d.name = some (.ref fa) →
   ∃ fd : FuncData, (∀ (s : Shared) (u : Value), BindsTo s fd ⟨[u], []⟩ [(x, u)]) ∧
    ∀ base : Heap, (K w.params).In base → base.Ns mainGlobals mg → FnOk l.prog w (K w.params) mg base (CX w) k fa fd [x] (sp w))
  (hsp : ∀ (w : World) (H : Hp) (a : Addr) (ns : List Int), ns.length ≤ n → Only H → SqL (K w.params) H a (ns.map V.int) → sp w [.ref a] H (fun v _ => v = .bl true) fun _ _ _ => False)
  (hCX : ∀ (w : World) (H : Hp) (s : Shared) (e : Value) (s' : Shared), CX w [] H s (fun _ _ _ => False) e s' → False) :
  PySem.W.WalkO q loose XP YP l.row.toRowW d [] (fun f vs => PySem.call f vs) := by
 refine Att.attach_call hn hdf fun w s₀ s₁ mg mb fa o pm cd doc a vs ns G Y ho hd hcd hmg hobj hints hlen hg => ?_
 have KX := hY w _ Y
 obtain ⟨fd, hb, hF⟩ := F w mg fa _ KX G.T.g hmg
 exact law_call KX G.T.g G.T.b G.T.builtins G.T.nolimit hg hobj hints (Nat.le_trans hlen hn2) hr hF hb (fun H hO hS => hsp w H a ns hlen hO hS) fun H e s' => hCX w H s₁ e s'
end L2
/- THE LAST THEOREM (shape; LID, My.* are yours):
   My.Adr: a structure of the addresses that your layer names (classes, functions); My.Txt K t: a structure (Prop) of the equations over K;
   My.txt_mk : {K} {implicit addresses ..} (e1 : nsIn K mainGlobals "law" = some (some (.ref f))) (e2 : K.lookup f = some ⟨oc, od, .func (fnOf "law" "law" params body scope dV kV doc pm an cdv ct), sl⟩) (e3 : codeIn K cdv "law" = true) .. : ∃ t, My.Txt K t
set_option maxHeartbeats 0 in
theorem PySem.Challenge.cw_LID_holds : PySem.Challenge.rw_LID.Holds := by
 w_on; o_law; k_head; (case hw => w_witness2)
 k_fill
 refine L2.walk_of (l := PySem.Challenge.rw_LID) (n := 63) (k := 40) (x := "script") (CX := fun w => ..) (sp := fun _ => My.sp_law) rfl (by decide) rfl ⟨rfl, by decide, by decide⟩ (fun w h Y => PySem.W.kIn_of Y) ?F ?S ?C
 case F =>
  intro w mg fa h KX G hmg
  have T : ∃ t, My.Txt (L2.KOf KX) t := by
   dsimp only [L2.KOf]                          -- K must stand as «<heap const> w.params» for k_is
   refine' My.txt_mk ?e1 ?e2 ?e3 ..
   (case e1 => PySem.W.k_is)                    -- in the order: a name -> its address -> its object -> its parts
   (case e2 => PySem.W.k_is)
   ..
  obtain ⟨t, T⟩ := T
  have e0 := hmg.symm.trans (PySem.W.mg_of KX G T.law)
  cases e0                                       -- fa is the law's own address
  exact ⟨_, fun s u => .of_eq rfl, fun base kb nb => My.law_fn T kb nb⟩     -- if «.of_eq rfl» comes too early: refine' ⟨_, ?b, fun base kb nb => My.law_fn T kb nb⟩; exact fun s u => .of_eq rfl
 case S => exact fun w H a ns hl hO hS => ..
 case C => exact ..
(the tactic k_is has no namespace: write k_is) -/
namespace L2
open PySem PySem.Spec PyProof.Rows
noncomputable def defArgs (s : Stmt) : Arguments := match s with
 | .FunctionDef _ a _ _ _ _ _ _ _ _ => a
 | _ => { posonlyargs := [], args := [], vararg := none, kwonlyargs := [], kw_defaults := [], kwarg := none, defaults := [] }
noncomputable def defBody (s : Stmt) : List Stmt := match s with
 | .FunctionDef _ _ b _ _ _ _ _ _ _ => b
 | _ => []
noncomputable def defScope (s : Stmt) : Scope := match s with
 | .FunctionDef _ _ _ _ _ _ sc _ _ _ => sc
 | _ => { kind := .function, names := [], isGenerator := false, isCoroutine := false }
noncomputable abbrev CX0 : CXT := fun _ _ _ _ _ _ => False
noncomputable abbrev E0 : XK := fun _ _ _ => False
theorem pass0 {X : Cx} : Passes CX0 X E0 := fun _ _ _ _ _ _ _ h => h.elim
structure Fun (K : PySem.W.Frag) (x qual : Str) (st : Stmt) (f : Addr) (fd : FuncData) : Prop where
 ex : ∃ (oc : Value) (od : Option Addr) (kV doc pm : Value) (an : Option Addr) (cdv ct : Value) (osl : Array (Option Value)),
  fd = PySem.W.fnOf x qual (defArgs st) (defBody st) (defScope st) .none kV doc pm an cdv ct ∧ K.lookup f = some ⟨oc, od, .func fd, osl⟩ ∧ PySem.W.codeIn K cdv qual = true
 kp : PySem.W.keepIn K (.ref f) = true
section
variable {P : Program} {w : World} {K : PySem.W.Frag} {mg : Str → Option Value} {base : Heap}
theorem Fun.ok {x qual : Str} {st : Stmt} {f : Addr} {fd : FuncData} {N ps : List Str} {k : Nat} {sp : Sp} (F : Fun K x qual st f fd) (S : FnScope N ps (defScope st)) (len : ∀ vs H Q E, sp vs H Q E → vs.length = ps.length)
  (hbody : ∀ (cdv : Value) (A : Around) (outer : List Env) (s : Shared) (H : Hp) (vs : List V) (Q : VK) (E : XK), Room k (A.deeper (envOfC qual (defScope st) s.heap.objs.size f cdv)) → sp vs H Q E →
   ∃ t, PSs (cxOf CX0 P w K mg base N qual (defScope st) f cdv A outer s H E).nox (defBody st) t ∧ t { nx := fun _ H' => Q .non H', rt := Q } (start N vs) H) : FnOk P w K mg base CX0 (k + 1) f fd ps sp := by
 obtain ⟨oc, od, kV, doc, pm, an, cdv, ct, osl, rfl, lk, hcd⟩ := F.ex
 refine fn_of lk hcd S len fun A outer s H vs Q E hr hsp => ?_
 obtain ⟨t, h, q⟩ := hbody cdv A outer s H vs Q E hr hsp
 exact ⟨t, h.nox, q⟩
theorem Fun.binds {x qual : Str} {st : Stmt} {f : Addr} {fd : FuncData} {ps : List Str} (F : Fun K x qual st f fd)
  (h : ∀ (kV doc pm : Value) (an : Option Addr) (cdv ct : Value) (us : List Value), us.length = ps.length → bindArgs (PySem.W.fnOf x qual (defArgs st) (defBody st) (defScope st) .none kV doc pm an cdv ct) ⟨us, []⟩ = pure (ps.zip us)) : Binds K fd ps [] := by
 obtain ⟨oc, od, kV, doc, pm, an, cdv, ct, osl, rfl, lk, hcd⟩ := F.ex
 exact .all (h kV doc pm an cdv ct)
end
section
variable {X : Cx}
end
def Same (H H' : Hp) : Prop := ∀ b o, H b = some o → H' b = some o
theorem Same.refl (H : Hp) : Same H H := fun _ _ h => h
theorem Same.trans {H H1 H2 : Hp} (a : Same H H1) (b : Same H1 H2) : Same H H2 := fun c o h => b c o (a c o h)
theorem Same.free {H H' : Hp} (e : Same H H') {l : Addr} (h : H' l = Option.none) : H l = Option.none := by
 cases q : H l with
 | none => rfl
 | some o =>
  rw [e l o q] at h
  cases h
theorem Same.seq {K : PySem.W.Frag} {H H' : Hp} {a : Addr} {xs : List V} (e : Same H H') (h : SqL K H a xs) : SqL K H' a xs := by
 rcases h with (h | ⟨o, h⟩) | h
 ·exact .inl (.inl (e _ _ h))
 ·exact .inl (.inr ⟨o, e _ _ h⟩)
 ·exact .inr h
end L2
namespace L2
open PySem PySem.Spec PyProof.Rows
section
variable {X : Cx}
end
section
variable {κ : Type} [DecidableEq κ]
end
end L2
namespace L2
open PySem PySem.Spec PyProof.Rows
theorem loop_go {prog : Program} {w : World} {A : Around} {R : Result → Shared → Prop} {s : Shared} {elt target iter : Expr} {ifs : List Expr} {scope : Scope} {pos : Pos} {it acc : Value} {env : Env} (I : Nat → Shared → Prop)
  (turn : ∀ n s, I n s → wpAny (model prog w) A (pyNext it) (fun r s₁ => match r with
   | none => R (.ok .next) s₁
   | some v => wpAny (model prog w) A (letOwnedTupleGo target it v) (fun _ s₁ => wpAny (model prog w) A (assign target env v) (fun _ s₂ =>
     wpAny (model prog w) A (forIn ifs true fun c r => if r = true then do let ok ← isTrue c env (eval c env); pure (ForInStep.yield ok) else pure (ForInStep.yield r)) (fun ok s₃ =>
      if ok = true then wpAny (model prog w) A (eval elt env) (fun x s₄ =>
       wpAny (model prog w) A (call (.builtin "list.append") [acc, x]) (fun _ s₅ => ∃ m, m < n ∧ I m s₅) (fun _ _ => False) s₄) (fun _ _ => False) s₃
      else ∃ m, m < n ∧ I m s₃) (fun _ _ => False) s₂) (fun _ _ => False) s₁) (fun _ _ => False) s₁) (fun _ _ => False) s)
  (n : Nat) (h : I n s) :
  codeAny (model prog w) A (.compLoop (.ListComp elt [⟨target, iter, ifs, 0⟩] scope pos) 0 it acc env) R s := by
 refine codeAny_loop rfl I (fun n s hI => ?_) n h
 show wpAny _ A ((compTurn (.ListComp elt [⟨target, iter, ifs, 0⟩] scope pos) 0 it acc env).onRaise (fun x => do noteFrame x env; theTreesLotGoes x)) _ _ s
 refine wpAny_noted ?_
 rw [compTurn_list]
 refine wpAny_bind (wpAny_standAt (wpAny_bind (wpAny_mono (turn n s hI) (fun r s₁ h₁ => ?_) fun _ _ h' => h'.elim)))
 cases r with
 | none => exact wpAny_pure h₁
 | some v =>
  refine wpAny_bind (wpAny_mono h₁ (fun _ s₂ h₂ => ?_) fun _ _ h' => h'.elim)
  refine wpAny_bind (wpAny_mono h₂ (fun _ s₂ h₂ => wpAny_bind (wpAny_mono h₂ (fun ok s₃ h₃ => ?_) fun _ _ h' => h'.elim)) fun _ _ h' => h'.elim)
  cases ok with
  | false => exact wpAny_pure ⟨rfl, h₃⟩
  | true =>
   exact wpAny_bind (wpAny_bind (wpAny_mono h₃ (fun x s₄ h₄ => wpAny_bind (wpAny_mono h₄ (fun _ s₅ h₅ => wpAny_pure (wpAny_pure ⟨rfl, h₅⟩)) fun _ _ h' => h'.elim)) fun _ _ h' => h'.elim))
noncomputable def clOf (env : Env) : List (Str × NameKind) → List (Str × Addr) → List (Str × Addr)
 | [], cs => cs
 | (x, k) :: r, cs => clOf env r (if (k == .free) = true then (x, (env.cells.lookup x).getD 0) :: cs else cs)
theorem cellOf_some {env : Env} {x : Str} {c : Addr} (h : env.cells.lookup x = some c) : cellOf env x = pure c := by
 unfold cellOf; rw [h]
theorem closure_is {scope : Scope} {env : Env} (h : ∀ y ∈ scope.names, y.2 = .free → ∃ c, env.cells.lookup y.1 = some c) : closureFor scope env = pure (clOf env scope.names []) := by
 have key : ∀ (l : List (Str × NameKind)) (cs : List (Str × Addr)), (∀ y ∈ l, y.2 = .free → ∃ c, env.cells.lookup y.1 = some c) →
   (forIn l cs fun (y : Str × NameKind) r => if (y.2 == NameKind.free) = true then do let c ← cellOf env y.1; pure (ForInStep.yield ((y.1, c) :: r)) else pure (ForInStep.yield r) : Sem (List (Str × Addr))) = pure (clOf env l cs) := by
  intro l
  induction l with
  | nil => intro cs _; rfl
  | cons y r ih =>
   intro cs hl
   obtain ⟨x, k⟩ := y
   rw [List.forIn_cons]
   by_cases hk : k = .free
   ·subst hk
    obtain ⟨c, hc⟩ := hl (x, .free) List.mem_cons_self rfl
    have e : ((NameKind.free == NameKind.free) : Bool) = true := rfl
    simp only [e, if_true, cellOf_some hc, pure_bind]
    rw [ih _ fun z hz => hl z (List.mem_cons_of_mem _ hz)]
    show _ = pure (clOf env r (if (NameKind.free == NameKind.free) = true then _ else _))
    rw [e, if_pos rfl, hc] <;> rfl
   ·have e : (k == NameKind.free) = false := by simpa using hk
    simp only [e, Bool.false_eq_true, if_false, pure_bind]
    rw [ih _ fun z hz => hl z (List.mem_cons_of_mem _ hz)]
    show _ = pure (clOf env r (if (k == NameKind.free) = true then _ else _))
    rw [e, if_neg Bool.false_ne_true]
 have e : closureFor scope env = ((forIn scope.names ([] : List (Str × Addr)) fun (y : Str × NameKind) r => if (y.2 == NameKind.free) = true then do let c ← cellOf env y.1; pure (ForInStep.yield ((y.1, c) :: r)) else pure (ForInStep.yield r) : Sem (List (Str × Addr))) >>= fun cs => pure cs) := rfl
 rw [e, key scope.names [] h]
 rfl
theorem clOf_lookup {env : Env} {x : Str} {c : Addr} : ∀ {l : List (Str × NameKind)} {cs : List (Str × Addr)}, (∀ y ∈ l, y.2 = .free → ∃ c, env.cells.lookup y.1 = some c) → (∀ x c, cs.lookup x = some c → env.cells.lookup x = some c) →
  (clOf env l cs).lookup x = some c → env.cells.lookup x = some c
 | [], _, _, h, e => h x c e
 | (y, k) :: r, cs, hl, h, e => by
  refine clOf_lookup (l := r) (fun z hz => hl z (List.mem_cons_of_mem _ hz)) (fun x c e => ?_) e
  by_cases hk : k = .free
  ·subst hk
   obtain ⟨d, hd⟩ := hl (y, .free) List.mem_cons_self rfl
   rw [if_pos (show (NameKind.free == NameKind.free) = true from rfl), List.lookup_cons] at e
   cases hx : x == y with
   | true => rw [hx, hd] at e; cases e; rw [eq_of_beq hx]; exact hd
   | false => rw [hx] at e; exact h x c e
  ·rw [if_neg (by simpa using hk)] at e; exact h x c e
theorem clOf_has {env : Env} {x : Str} : ∀ {l : List (Str × NameKind)} {cs : List (Str × Addr)}, ((∃ c, cs.lookup x = some c) ∨ (x, NameKind.free) ∈ l) → ∃ c, (clOf env l cs).lookup x = some c
 | [], _, h => by
  rcases h with h | h
  ·exact h
  ·simp at h
 | (y, k) :: r, cs, h => by
  refine clOf_has (l := r) ?_
  rcases h with ⟨c, h⟩ | h
  ·left
   by_cases hk : (k == NameKind.free) = true
   ·rw [if_pos hk, List.lookup_cons]
    cases hx : x == y with
    | true => exact ⟨_, rfl⟩
    | false => exact ⟨c, h⟩
   ·rw [if_neg hk]; exact ⟨c, h⟩
  ·rcases List.mem_cons.mp h with e | h
   ·injection e with e1 e2
    subst e1; subst e2
    left
    rw [if_pos (show (NameKind.free == NameKind.free) = true from rfl), List.lookup_cons]
    simp
   ·exact .inr h
noncomputable def cxComp (X : Cx) (N' : List Str) (scope : Scope) (C : Addr) (s : Shared) (H : Hp) (fp : List Addr) : Cx :=
 { X with N := N', s₀ := s, H₀ := H, env := compEnvC scope (clOf X.env scope.names []) C X.env, outer := X.stack, ex := fp, fn := fun _ => false, pn := [], xe := fun _ _ => False }
structure BlkOk (X : Cx) (N' : List Str) (ix : List (Option Nat)) (scope : Scope) : Prop where
 kind : scope.kind = .function
 nocell : ∀ y ∈ scope.names, y.2 ≠ .cell
 names : ∀ y ∈ scope.names, y.2 = .local → scope.names.lookup y.1 = some .local
 frees : ∀ y ∈ scope.names, y.2 = .free → X.env.kindOf y.1 = some .cell ∨ X.env.kindOf y.1 = some .free
 len : ix.length = N'.length
 at_ : ∀ (i j : Nat) (x : Str), N'[i]? = some x → ix[i]? = some (some j) → X.N[j]? = some x ∧ scope.names.lookup x = some .free
noncomputable def inner (ix : List (Option Nat)) (σ : St) : St := ix.map fun o => o.bind fun j => (σ[j]?).bind id
def tComp (ix : List (Option Nat)) (wi : TI) (g : TG) (tc : TT) (te : TE) : TE := fun σ H Q => wi σ H fun J H1 => ∀ D, H1 D = none → ∃ W : Nat → Nat → St → Hp → Prop, (∃ m, W 0 m (inner ix σ) (upd H1 D (.lst []))) ∧ ∀ i m σi H, W i m σi H →
 (J.stop i H ∧ Q (.ref D) H) ∨ (J.go i H ∧ ∃ N : St → Hp → Prop, (∀ σ' H', N σ' H' → ∃ m', m' < m ∧ W (i + 1) m' σ' H') ∧ ∀ x H', J.yld i H x H' → g x σi H' fun σ2 H2 => tc σ2 H2 fun b H3 =>
  if b = true then te σ2 H3 fun v H4 => ∃ ys, H4 D = some (.lst ys) ∧ ys.length < sizeLine ∧ N σ2 (upd H4 D (.lst (ys ++ [v]))) else N σ2 H3)
theorem lookup_relabel_free {env : Env} {x : Str} : ∀ {names : List (Str × NameKind)}, names.lookup x = some .free → (env.kindOf x = some .cell ∨ env.kindOf x = some .free) →
  (names.map fun (n, k) => if (k == NameKind.free && env.scope.kind == .function && env.kindOf n == some .cell) then (n, NameKind.cell) else (n, k)).lookup x = some .cell ∨
  (names.map fun (n, k) => if (k == NameKind.free && env.scope.kind == .function && env.kindOf n == some .cell) then (n, NameKind.cell) else (n, k)).lookup x = some .free
 | [], h, _ => by simp at h
 | (n, k) :: r, h, ho => by
  cases hx : x == n with
  | true =>
   simp only [List.lookup_cons, hx] at h
   cases h
   by_cases hc : (NameKind.free == NameKind.free && env.scope.kind == .function && env.kindOf n == some .cell) = true
   ·left
    show List.lookup x ((if (NameKind.free == NameKind.free && env.scope.kind == .function && env.kindOf n == some .cell) = true then (n, NameKind.cell) else (n, .free)) :: _) = _
    rw [if_pos hc]; simp only [List.lookup_cons, hx]
   ·right
    show List.lookup x ((if (NameKind.free == NameKind.free && env.scope.kind == .function && env.kindOf n == some .cell) = true then (n, NameKind.cell) else (n, .free)) :: _) = _
    rw [if_neg hc]; simp only [List.lookup_cons, hx]
  | false =>
   simp only [List.lookup_cons, hx] at h
   have ih := lookup_relabel_free (env := env) h ho
   show List.lookup x ((if (k == NameKind.free && env.scope.kind == .function && env.kindOf n == some .cell) = true then (n, NameKind.cell) else (n, k)) :: _) = _ ∨
    List.lookup x ((if (k == NameKind.free && env.scope.kind == .function && env.kindOf n == some .cell) = true then (n, NameKind.cell) else (n, k)) :: _) = _
   by_cases hc : (k == NameKind.free && env.scope.kind == .function && env.kindOf n == some .cell) = true
   ·rw [if_pos hc]; simp only [List.lookup_cons, hx]; exact ih
   ·rw [if_neg hc]; simp only [List.lookup_cons, hx]; exact ih
theorem lookup_relabel_back {env : Env} {x : Str} : ∀ {names : List (Str × NameKind)}, (∀ y ∈ names, y.2 ≠ .cell) →
  ((names.map fun (n, k) => if (k == NameKind.free && env.scope.kind == .function && env.kindOf n == some .cell) then (n, NameKind.cell) else (n, k)).lookup x = some .cell ∨
  (names.map fun (n, k) => if (k == NameKind.free && env.scope.kind == .function && env.kindOf n == some .cell) then (n, NameKind.cell) else (n, k)).lookup x = some .free) → (x, NameKind.free) ∈ names
 | [], _, h => by simp at h
 | (n, k) :: r, hn, h => by
  have h : List.lookup x ((if (k == NameKind.free && env.scope.kind == .function && env.kindOf n == some .cell) = true then (n, NameKind.cell) else (n, k)) :: (r.map fun (n, k) => if (k == NameKind.free && env.scope.kind == .function && env.kindOf n == some .cell) then (n, NameKind.cell) else (n, k))) = some .cell ∨
   List.lookup x ((if (k == NameKind.free && env.scope.kind == .function && env.kindOf n == some .cell) = true then (n, NameKind.cell) else (n, k)) :: (r.map fun (n, k) => if (k == NameKind.free && env.scope.kind == .function && env.kindOf n == some .cell) then (n, NameKind.cell) else (n, k))) = some .free := h
  cases hx : x == n with
  | true =>
   have e : x = n := eq_of_beq hx
   subst e
   by_cases hc : (k == NameKind.free && env.scope.kind == .function && env.kindOf x == some .cell) = true
   ·have hk : k = .free := by
     simp only [Bool.and_eq_true, beq_iff_eq] at hc
     exact hc.1.1
    subst hk; exact List.mem_cons_self
   ·rw [if_neg hc] at h
    simp only [List.lookup_cons, hx, Option.some.injEq] at h
    rcases h with h | h
    ·exact absurd h (hn (x, k) List.mem_cons_self)
    ·subst h; exact List.mem_cons_self
  | false =>
   refine List.mem_cons_of_mem _ (lookup_relabel_back (env := env) (fun y hy => hn y (List.mem_cons_of_mem _ hy)) ?_)
   by_cases hc : (k == NameKind.free && env.scope.kind == .function && env.kindOf n == some .cell) = true
   ·rw [if_pos hc] at h; simp only [List.lookup_cons, hx] at h; exact h
   ·rw [if_neg hc] at h; simp only [List.lookup_cons, hx] at h; exact h
end L2
namespace L2
open PySem PySem.Spec PyProof.Rows
def PIfs (X : Cx) (ifs : List Expr) (t : TT) : Prop :=
 ∀ (pins : List (Addr × Obj)) (s : Shared) (σ : St) (H : Hp) (Q : Bool → Hp → Prop), Inv X pins σ H s → t σ H Q →
  wpAny (model X.prog X.w) X.A (forIn ifs true fun c r => if r = true then do let ok ← isTrue c X.env (eval c X.env); pure (ForInStep.yield ok) else pure (ForInStep.yield r)) (TP X pins σ Q) X.xe s
def tYes : TT := fun _ H Q => Q true H
section
variable {X : Cx} {pins : List (Addr × Obj)} {σ : St} {H : Hp} {s : Shared}
theorem pifs_nil : PIfs X [] tYes := fun _ _ _ H _ I h => wpAny_tests_nil ⟨H, I, h⟩
theorem pifs_one {c : Expr} {t : TT} (h : PT X c t) : PIfs X [c] t := fun pins s σ H Q I hw => wpAny_tests_one (h pins s σ H Q I hw)
theorem Inv.blk {N' : List Str} {ix : List (Option Nat)} {scope : Scope} {fp : List Addr} {h1 : Heap} {tk : Nat} (I : Inv X pins σ H s) (B : BlkOk X N' ix scope) (f : ∀ b ∈ fp, FpOk X pins H b) (hlt : ∀ b ∈ fp, b < s.heap.objs.size)
  (ns : h1.Ns s.heap.objs.size (fun _ => none)) (old : ∀ b o, s.heap.get? b = some o → h1.get? b = some o) :
  Inv (cxComp X N' scope s.heap.objs.size s H fp) [] (inner ix σ) H { s with heap := h1, toks := tk } := by
 have hfree : ∀ y ∈ scope.names, y.2 = .free → ∃ c, X.env.cells.lookup y.1 = some c := fun y hy e => I.ok.has y.1 (B.frees y hy e)
 have hc : ∀ x c, (clOf X.env scope.names []).lookup x = some c → X.env.cells.lookup x = some c := fun x c e => clOf_lookup hfree (fun _ _ z => by cases z) e
 have stk : ∀ b ∈ fp, b ∉ frs X.stack := fun b hb z => by
  rcases List.mem_cons.mp (I.stkSub b z) with e | e
  ·exact (f b hb).2.1 e
  ·exact (f b hb).2.2.1 e
 refine ⟨⟨I.ok.mod, B.kind, I.ok.glob, I.ok.blt, Nat.le_refl _, fun x y c h1 h2 => I.ok.inj x y c (hc x c h1) (hc y c h2), fun x hx => ?_, fun x c h => (by cases h), I.ok.hd, I.ok.frames, .inl rfl, fun b hb => ⟨Nat.ne_of_lt (hlt b hb), fun x c e => (f b hb).2.2.2.2.1 x c (hc x c e)⟩,
   I.bs, Nat.le_trans I.ok.bsz I.sz, fun b o e hb => ?_, stk, I.stack, I.stkFree⟩, rfl, I.bare, Un.kept old, ⟨_, ns, fun i x v h1 h2 h3 => ?_⟩, fun x c e => ?_, I.hok.fresh (Nat.le_refl _), fun x c e => I.freeC x c (hc x c e), fun p hp => absurd (show p ∈ ([] : List (Addr × Obj)) from hp) (by simp), I.hok.kept old, ?_⟩
 ·exact clOf_has (.inr (lookup_relabel_back B.nocell hx))
 ·rcases (f b hb).2.2.2.1 with z | z
  ·exact I.ok.noex b o e z
  ·exact absurd (Nat.lt_of_lt_of_le (Heap.lt_size e) (Nat.le_trans I.ok.bsz z)) (Nat.lt_irrefl _)
 ·have h2 : (ix.map fun o => o.bind fun j => (σ[j]?).bind id)[i]? = some (some v) := h2
  rw [List.getElem?_map] at h2
  cases ho : ix[i]? with
  | none => rw [ho] at h2; cases h2
  | some o =>
   rw [ho] at h2
   cases o with
   | none => cases h2
   | some j =>
    have h2 : (σ[j]?).bind id = some v := Option.some.inj h2
    have h2 : σ[j]? = some (some v) := by
     cases hs : σ[j]? with
     | none => rw [hs] at h2; cases h2
     | some w => rw [hs] at h2; cases h2; rfl
    obtain ⟨hN, hf⟩ := B.at_ i j x h1 ho
    have hk := B.frees (x, .free) (PySem.mem_of_lookup hf) rfl
    obtain ⟨m, hn, hl⟩ := I.loc
    obtain ⟨u, r, lk⟩ := hl j x v hN h2 (hk.elim (fun z => .inr (.inl z)) fun z => .inr (.inr z))
    refine ⟨u, r, .inr ?_⟩
    rcases lk with ⟨z, _⟩ | ⟨_, c, e, z⟩
    ·rcases hk with hk | hk
     ·exact absurd (hk.symm.trans z) (by decide)
     ·exact absurd (hk.symm.trans z) (by decide)
    ·obtain ⟨c', e'⟩ := clOf_has (env := X.env) (cs := []) (.inr (PySem.mem_of_lookup hf))
     have ec : c' = c := Option.some.inj ((hc x c' e').symm.trans e)
     subst ec
     refine ⟨lookup_relabel_free hf hk, c', e', ?_⟩
     obtain ⟨o, ho, hd⟩ := z
     exact ⟨o, old _ _ ho, hd⟩
 ·obtain ⟨v, o, ho, hd⟩ := I.cell x c (hc x c e)
  exact ⟨v, o, old _ _ ho, hd⟩
 ·show (inner ix σ).length = N'.length
  unfold inner
  rw [List.length_map]
  exact B.len
theorem blk_run {elt tg iter : Expr} {ifs : List Expr} {scope : Scope} {pos : Pos} {N' : List Str} {ix : List (Option Nat)} {g : TG} {tc : TT} {te : TE} {J : It} {fp : List Addr} {it : Addr} {tn : Nat → Heap → Prop} (B : BlkOk X N' ix scope)
  (hg : ∀ C s H fp, PG (cxComp X N' scope C s H fp) tg g) (hi : ∀ C s H fp, PIfs (cxComp X N' scope C s H fp) ifs tc) (he : ∀ C s H fp, PE (cxComp X N' scope C s H fp) elt te) (hc : X.calm = true)
  (I : Inv X pins σ H s) (T : Turn X.prog X.w X.K tg J fp it tn) (st : tn 0 s.heap) (f : ∀ b ∈ fp, FpOk X pins H b) {Q : VK} {E : Value → Shared → Prop}
  (w : ∃ W : Nat → Nat → St → Hp → Prop, (∃ m, W 0 m (inner ix σ) (upd H s.heap.objs.size (.lst []))) ∧ ∀ i m σi H, W i m σi H →
   (J.stop i H ∧ Q (.ref s.heap.objs.size) H) ∨ (J.go i H ∧ ∃ N : St → Hp → Prop, (∀ σ' H', N σ' H' → ∃ m', m' < m ∧ W (i + 1) m' σ' H') ∧ ∀ x H', J.yld i H x H' → g x σi H' fun σ2 H2 => tc σ2 H2 fun b H3 =>
    if b = true then te σ2 H3 fun v H4 => ∃ ys, H4 s.heap.objs.size = some (.lst ys) ∧ ys.length < sizeLine ∧ N σ2 (upd H4 s.heap.objs.size (.lst (ys ++ [v]))) else N σ2 H3))
  {RR : Value → Addr → Result → Shared → Prop} (hRR : ∀ C H' s' m, Inv X pins σ H' s' → FpOk X pins H' C → s'.heap.Ns C m → Q (.ref s.heap.objs.size) H' → RR (.ref s.heap.objs.size) C (.ok .next) s') :
  wpAny (model X.prog X.w) X.A (newList []) (fun acc s₃ => wpAny (model X.prog X.w) X.A (newFunctionEnv scope X.env.globals (clOf X.env scope.names []) [] X.env.qual none .none (some X.env)) (fun cenv s₄ =>
   codeAny (model X.prog X.w) X.A (.compStart (.ListComp elt [⟨tg, iter, ifs, 0⟩] scope pos) 0 (.ref it) acc { cenv with scope := relabel scope X.env }) (RR acc cenv.locals) s₄) E s₃) E s := by
 obtain ⟨W, ⟨m0, w0⟩, turn⟩ := w
 have flt : ∀ b ∈ fp, b < s.heap.objs.size := fun b hb => by
  obtain ⟨o, ho, _⟩ := T.obj 0 _ st b hb
  exact Heap.lt_size ho
 have I3 : Inv X pins σ (upd H s.heap.objs.size (.lst [])) { s with heap := s.heap.push { cls := .type "list", data := .seq ([] : List Value).toArray }, toks := s.toks } := I.lnew .nil (Nat.zero_le _)
 have hfr : ∀ b ∈ fp, (upd H s.heap.objs.size (.lst [])) b = none := fun b hb => by rw [upd_ne (Nat.ne_of_lt (flt b hb))]; exact (f b hb).1
 have f3 : ∀ b ∈ fp, FpOk X pins (upd H s.heap.objs.size (.lst [])) b := fun b hb => ⟨hfr b hb, (f b hb).2⟩
 refine wpAny_newObj_type (wpAny_newFunctionEnv B.nocell (by intro y hy; simp at hy) (fun h₁ hns₁ hsb₁ => ?_) B.kind)
 dsimp only at hns₁ hsb₁ ⊢
 generalize hH3 : s.heap.push { cls := .type "list", data := .seq ([] : List Value).toArray } = h3 at hns₁ hsb₁ I3 ⊢
 obtain ⟨s3, e3⟩ : ∃ s3 : Shared, s3 = { s with heap := h3 } := ⟨_, rfl⟩
 obtain rfl : h3 = s3.heap := by rw [e3]
 have I3 : Inv X pins σ (upd H s.heap.objs.size (.lst [])) s3 := by
  have e : s3 = { s with heap := s3.heap, toks := s.toks } := e3
  rw [e]; exact I3
 have eT : s3.toks = s.toks := by rw [e3]
 have eS : ({ s with heap := h₁, toks := s.toks + ([] : List (Str × Value)).length } : Shared) = { s3 with heap := h₁, toks := s3.toks + ([] : List (Str × Value)).length } := by rw [e3]
 rw [eS]
 have hz3 : s3.heap.objs.size = s.heap.objs.size + 1 := by rw [← hH3]; exact Heap.size_push _ _
 have old : ∀ b o, s3.heap.get? b = some o → h₁.get? b = some o := fun b o e => hsb₁.extBut b o (Nat.ne_of_lt (Heap.lt_size e)) (Heap.get?_push_of_some _ e)
 have st3 : tn 0 s3.heap := T.keep _ _ _ st fun b hb o e => by rw [← hH3]; exact Heap.get?_push_of_some _ e
 have st4 : tn 0 h₁ := T.keep _ _ _ st3 fun b _ o e => old b o e
 have I4 := I3.blk (tk := s3.toks + ([] : List (Str × Value)).length) B f3 (fun b hb => Nat.lt_of_lt_of_le (flt b hb) (by rw [hz3]; exact Nat.le_succ _)) (show h₁.Ns s3.heap.objs.size (fun _ => none) from hns₁) old
 generalize hX' : cxComp X N' scope s3.heap.objs.size s3 (upd H s.heap.objs.size (.lst [])) fp = X' at I4
 have eX : X'.prog = X.prog ∧ X'.w = X.w ∧ X'.K = X.K ∧ X'.A = X.A ∧ X'.calm = X.calm ∧ X'.env = compEnvC scope (clOf X.env scope.names []) s3.heap.objs.size X.env ∧ X'.ex = fp ∧ X'.outer = X.stack ∧ X'.s₀ = s3 ∧ X'.H₀ = upd H s.heap.objs.size (.lst []) ∧ X'.pn = [] ∧ X'.xe = (fun _ _ => False) := by
  rw [← hX']; exact ⟨rfl, rfl, rfl, rfl, rfl, rfl, rfl, rfl, rfl, rfl, rfl, rfl⟩
 have hg' : PG X' tg g := hX' ▸ hg _ _ _ _
 have hi' : PIfs X' ifs tc := hX' ▸ hi _ _ _ _
 have he' : PE X' elt te := hX' ▸ he _ _ _ _
 obtain ⟨e1, e2, e3, e4, e5, e6, e7, e8, e9, e10, e11, e12⟩ := eX
 have stat : ∀ {H' : Hp}, (∀ b ∈ fp, H' b = none) → ∀ b ∈ fp, FpOk X' [] H' b := fun {H'} hn b hb => by
  have q := I4.ok.exf b (by rw [e7]; exact hb)
  refine ⟨hn b hb, q.1, ?_, .inl (by rw [e7]; exact hb), q.2, fun p hp => ?_⟩
  ·exact I4.ok.exfs b (by rw [e7]; exact hb)
  ·rw [e11] at hp; simp at hp
 have loop : codeAny (model X.prog X.w) X.A (.compLoop (.ListComp elt [⟨tg, iter, ifs, 0⟩] scope pos) 0 (.ref it) (.ref s.heap.objs.size) (compEnvC scope (clOf X.env scope.names []) s3.heap.objs.size X.env))
   (RR (.ref s.heap.objs.size) s3.heap.objs.size) { s3 with heap := h₁, toks := s3.toks + ([] : List (Str × Value)).length } := by
  refine loop_go (fun n s' => ∃ i σi Hi, Inv X' [] σi Hi s' ∧ tn i s'.heap ∧ (∀ b ∈ fp, Hi b = none) ∧ W i n σi Hi) ?_ m0 ⟨0, _, _, I4, st4, hfr, w0⟩
  rintro n s5 ⟨i, σ5, H5, I5, st5, fr5, w5⟩
  rcases turn i n σ5 H5 w5 with ⟨stop, qn⟩ | ⟨go, N, hN, step⟩
  ·have d := T.done X' e1 e2 e3 (by rw [e5]; exact hc) i [] s5 σ5 H5 (fun _ _ => False) I5 (stat fr5) st5 stop
   rw [e4] at d
   (refine thn d ?_; rintro r s6 ⟨hr, I6⟩)
   subst hr
   have u := I6.base
   rw [e7, e9, e10] at u
   have u : Un (frs X'.outer) fp (upd H s.heap.objs.size (.lst [])) H5 s3.heap s6.heap := u
   rw [e8] at u
   have ok6 := I6.hok
   rw [e1, e2] at ok6
   have I7 : Inv X pins σ H5 s6 := I3.call' (ch := fp) (by have := I6.os; rw [e9] at this; exact this) u ok6 I6.bare fun b hb => ⟨(f b hb).2.2.2.1, (f b hb).2.1, (f b hb).2.2.2.2.1, (f b hb).2.2.2.2.2⟩
   have hfree := I6.free
   obtain ⟨m, hm, _⟩ := I6.loc
   rw [e6] at hfree hm
   exact hRR _ H5 s6 m I7 (I3.fpOk (Nat.le_refl _) hfree) hm qn
  ·have d := T.item X' e1 e2 e3 (by rw [e5]; exact hc) i [] s5 σ5 H5 (fun _ _ => False) I5 (stat fr5) st5 go
   rw [e4] at d
   (refine thn d ?_; rintro r s6 ⟨u, hr, h6⟩)
   subst hr
   (refine thn h6 ?_; rintro _ s7 ⟨x, H7, I7, r7, y7, st7, fr7⟩)
   have I7' := I7.pinned (stat fr7) (T.obj _ _ st7)
   have a := hg' _ s7 σ5 H7 x u _ I7' r7 (step x H7 y7)
   rw [e1, e2, e4, e6, e12] at a
   (refine thn a ?_; rintro _ s8 ⟨σ8, H8, I8, q8⟩)
   have t := hi' _ s8 σ8 H8 _ I8 q8
   rw [e1, e2, e4, e6, e12] at t
   have again : ∀ {σ9 : St} {H9 : Hp} {s9 : Shared}, Inv X' ([] ++ pinsAt fp s7.heap) σ9 H9 s9 → N σ9 H9 → ∃ m, m < n ∧ ∃ i σi Hi, Inv X' [] σi Hi s9 ∧ tn i s9.heap ∧ (∀ b ∈ fp, Hi b = none) ∧ W i m σi Hi := fun {σ9 H9 s9} I9 n9 => by
    obtain ⟨m', hm, w9⟩ := hN σ9 H9 n9
    refine ⟨m', hm, i + 1, σ9, H9, I9.unpinned, T.keep _ _ _ st7 fun b hb o e => (I9.pin (b, o) (List.mem_append_right _ (List.mem_append_right _ (mem_pinsAt hb e)))).1, fun b hb => ?_, w9⟩
    obtain ⟨o, e, d⟩ := T.obj _ _ st7 b hb
    exact (I9.pin (b, o) (List.mem_append_right _ (List.mem_append_right _ (mem_pinsAt hb e)))).2.1
   (refine thn t ?_; rintro ok s9 ⟨H9, I9, q9⟩)
   cases ok with
   | false =>
    rw [if_neg Bool.false_ne_true] at q9 ⊢
    exact again I9 q9
   | true =>
    rw [if_pos rfl] at q9 ⊢
    have v := he' _ s9 σ8 H9 _ I9 q9
    rw [e1, e2, e4, e6, e12] at v
    (refine thn v ?_; rintro y s10 ⟨z, H10, I10, r10, ys, hD, hz, q10⟩)
    have ap := mt_append _ s10 σ8 H10 (.ref s.heap.objs.size) [z] (.ref s.heap.objs.size) [y] (fun _ H' => N σ8 H') I10 rfl (.cons r10 .nil) ⟨_, ys, z, rfl, rfl, hD, hz, q10⟩
    rw [e1, e2, e4, e12] at ap
    (refine thn ap ?_; rintro _ s11 ⟨_, H11, I11, _, q11⟩; exact again I11 q11)
 exact codeAny_compStart_list loop (T.self _ _ _ _ _ st4 loop)
variable {elt tg iter : Expr} {ifs : List Expr} {scope : Scope} {pos : Pos} {N' : List Str} {ix : List (Option Nat)} {wi : TI} {g : TG} {tc : TT} {te : TE}
theorem pe_comp (B : BlkOk X N' ix scope) (hc : X.calm = true) (hw : PI X tg iter wi)
  (hg : ∀ C s H fp, PG (cxComp X N' scope C s H fp) tg g) (hi : ∀ C s H fp, PIfs (cxComp X N' scope C s H fp) ifs tc) (he : ∀ C s H fp, PE (cxComp X N' scope C s H fp) elt te)
  (hs : ∀ x, foldedSetIterable iter X.env x = pure x := by intro _; rfl) :
  PE X (.ListComp elt [⟨tg, iter, ifs, 0⟩] scope pos) (tComp ix wi g tc te) := by
 intro pins s σ H Q I h
 rw [eval_ListComp]
 refine wpAny_comprehension_free (use := none) rfl hs (closure_is fun y hy e => I.ok.has y.1 (B.frees y hy e)) B.kind B.names ?_
 refine thn (hw pins s σ H _ I h) fun v s1 h1 => thn h1 fun itv s2 h2 => ?_
 obtain ⟨it, fp, tn, J, H2, e, I2, T, st2, f2, q2⟩ := h2
 subst e
 refine blk_run B hg hi he hc I2 T st2 f2 (Q := Q) (q2 _ I2.fresh) fun C H' s' m I' fC hm q => ?_
 refine ⟨m, hm, fun h' sb => ⟨.ref s2.heap.objs.size, H', ?_, rfl, q⟩⟩
 exact I'.turned (t' := s'.toks) (it := C) (fun b o hb e => sb.extBut b o hb e) fC.1 fC.2.1 fC.2.2.2.1 fC.2.2.2.2.1 fC.2.2.2.2.2
def tAsgC (i : Nat) (t : TE) : TS := fun D σ H => t σ H fun x H1 => D.nx (σ.set i (some x)) H1
theorem ps_setC {i : Nat} {y : Str} {py spos : Pos} (B : BlkOk X N' ix scope) (hc : X.calm = true) (hN : X.N.Nodup) (hy : X.N[i]? = some y) (hl : Loc X.env.scope y) (hw : PI X tg iter wi)
  (hg : ∀ C s H fp, PG (cxComp X N' scope C s H fp) tg g) (hi : ∀ C s H fp, PIfs (cxComp X N' scope C s H fp) ifs tc) (he : ∀ C s H fp, PE (cxComp X N' scope C s H fp) elt te)
  (hsw : swapsWith (.ListComp elt [⟨tg, iter, ifs, 0⟩] scope pos) (some (.Name y py)) spos.line X.env = pure true := by rfl)
  (hf : X.fn y = true ∨ X.env.scope.names.lookup y = some .local := by first | exact .inl rfl | exact .inr rfl | assumption)
  (hs : ∀ x, foldedSetIterable iter X.env x = pure x := by intro _; rfl) :
  PS X (.Assign [.Name y py] (.ListComp elt [⟨tg, iter, ifs, 0⟩] scope pos) spos) (tAsgC i (tComp ix wi g tc te)) := by
 intro pins s σ H D I h
 rw [exec_Assign_Name_used _ _ _ _ hsw]
 refine wpAny_bind (wpAny_standAt (wpAny_bind ?_))
 show wpAny _ X.A (do let _ ← comprehension (.ListComp elt [⟨tg, iter, ifs, 0⟩] scope pos) scope X.env _ (newList []) false (eval iter X.env) (some (assign (.Name y py) X.env))) _ _ s
 refine wpAny_bind (wpAny_mono (wpAny_comprehension_free (use := some (assign (.Name y py) X.env)) (Q := fun _ s' => SP X pins D .next s') rfl hs (closure_is fun y hy e => I.ok.has y.1 (B.frees y hy e)) B.kind B.names
  (thn (hw pins s σ H _ I h) fun v s1 h1 => thn h1 fun itv s2 h2 => ?_)) (fun _ s' hq => wpAny_pure (wpAny_pure hq)) fun _ _ e => e)
 obtain ⟨it, fp, tn, J, H2, e, I2, T, st2, f2, q2⟩ := h2
 subst e
 refine blk_run B hg hi he hc I2 T st2 f2 (Q := fun x H1 => D.nx (σ.set i (some x)) H1) (q2 _ I2.fresh) fun C H' s' m I' fC hm q => ?_
 show wpAny _ _ (assign (.Name y py) X.env (.ref s2.heap.objs.size)) _ _ _
 (refine wpAny_assign_Name (store_ok2 I' hN hy hl (v := .ref s2.heap.objs.size) rfl (?_) hf); rintro s'' I'' ⟨a, hsame, ha⟩)
 have hCa : C ≠ a := by
  rcases ha with z | z
  ·rw [z]; exact fC.2.1
  ·intro e; exact fC.2.2.2.2.1 _ _ z e.symm
 refine ⟨m, hm.sameBut hsame hCa, fun h' sb => ⟨_, H', ?_, q⟩⟩
 exact I''.turned (t' := s''.toks) (it := C) (fun b o hb e => sb.extBut b o hb e) fC.1 fC.2.1 fC.2.2.2.1 fC.2.2.2.2.1 fC.2.2.2.2.2
end
end L2
namespace L2
open PySem PySem.Spec PyProof.Rows
section
variable {X : Cx} {pos : Pos}
def gLst (K : PySem.W.Frag) (n : Nat) (t : TGs) : TG := fun v σ H Q => ∃ a xs, v = .ref a ∧ SqL K H a xs ∧ xs.length = n ∧ t xs σ H Q
theorem pg_list {es : List Expr} {k : Nat} {t : TGs} {n : Nat} (hc : X.calm = true) (h : PGs X es t)
  (hn : (assignEach es X.env).length = n := by rfl) (hst : (assignEach es X.env).findIdx? (·.1) = none := by rfl) : PG X (.Tuple es k pos) (gLst X.K n t) := by
 intro pins s σ H v u Q I r hw
 obtain ⟨a, xs, e1, hq, hl, hw⟩ := hw
 subst e1
 cases r
 obtain ⟨its, rv, ht, hz⟩ := I.list hq
 rw [PyProof.Rows.assign_Tuple]
 refine wpAny_bind (wpAny_standAt ?_)
 unfold unpack
 have hsz : (assignEach es X.env).length = its.toArray.size := by simp [hn, ← hl, rv.length]
 rw [hsz, hst]
 refine wpAny_bind (wpAny_holding (PySem.W.kun_itemsOf (I.ok.hd hc) ht.isList fun h' hx => ?_))
 have I1 : Inv X pins σ H { s with heap := h' } := I.kept (t' := s.toks) fun b o e => hx b o (Nat.ne_of_lt (Heap.lt_size e)) e
 exact h pins _ σ H xs _ Q I1 (by simpa using rv) hw
theorem pg_or {tg : Expr} {t t' : TG} (h : PG X tg t) (h' : PG X tg t') : PG X tg (fun v σ H Q => t v σ H Q ∨ t' v σ H Q) := by
 intro pins s σ H v u Q I r q
 rcases q with q | q
 ·exact h pins s σ H v u Q I r q
 ·exact h' pins s σ H v u Q I r q
def iSeq (K : PySem.W.Frag) (tl : TE) : TI := fun σ H R => tl σ H fun x H1 => ∃ a, x = .ref a ∧ (((∃ xs, SqL K H1 a xs) ∧ R (Itl K a) H1) ∨ ((∃ xs, SqT K H1 a xs) ∧ R (Itt K a) H1))
theorem pi_seq {tg l : Expr} {tl : TE} (hl : PE X l tl) : PI X tg l (iSeq X.K tl) := by
 intro pins s σ H R I h
 (refine thn (hl pins s σ H _ I h) ?_; rintro v s1 ⟨x, H1, I1, r1, q1⟩)
 obtain ⟨a, e, ⟨⟨xs, hq⟩, q⟩ | ⟨⟨xs, hq⟩, q⟩⟩ := q1
 ·subst e
  cases r1
  obtain ⟨its, rv, p, hz⟩ := I1.list hq
  refine wpAny_pyIter_list p.isList ?_
  refine ⟨s1.heap.objs.size, [s1.heap.objs.size], _, _, H1, rfl, I1.kept (t' := s1.toks) fun b o e => Heap.get?_push_of_some _ e, turn_list a _, ⟨_, Heap.get?_push_size _ rfl, rfl, rfl⟩, fun b hb => ?_, q⟩
  have e : b = s1.heap.objs.size := by simpa using hb
  subst e
  exact I1.fpOk (Nat.le_refl _) (I1.hok.fresh (Nat.le_refl _))
 ·subst e
  cases r1
  obtain ⟨its, rv, p, hz⟩ := I1.tuple hq
  refine wpAny_pyIter_tuple (show s1.heap.IsTuple a its.toArray from p) ?_
  refine ⟨s1.heap.objs.size, [s1.heap.objs.size], _, _, H1, rfl, I1.kept (t' := s1.toks) fun b o e => Heap.get?_push_of_some _ e, turn_tuple a _, ⟨_, Heap.get?_push_size _ rfl, rfl, rfl⟩, fun b hb => ?_, q⟩
  have e : b = s1.heap.objs.size := by simpa using hb
  subst e
  exact I1.fpOk (Nat.le_refl _) (I1.hok.fresh (Nat.le_refl _))
theorem op_isB : OpR X (compareOp .Is) (fun x y H Q => ∃ b, y = .bl b ∧ Q (.bl (decide (x = .bl b))) H) := by
 intro pins s σ H x y v u Q I rx ry h
 obtain ⟨b, rfl, q⟩ := h
 cases ry
 refine wpAny_is_plain ?_ (fin_bl I q ?_)
 ·cases x <;> first
   | (cases rx; rfl)
   | (obtain ⟨t, rfl⟩ := rx; rfl)
 ·cases x <;> first
   | (obtain ⟨t, rfl⟩ := rx; rfl)
   | (cases rx; cases b <;> rfl)
   | (cases rx; rename_i c; cases b <;> cases c <;> rfl)
theorem op_isNotB : OpR X (compareOp .IsNot) (fun x y H Q => ∃ b, y = .bl b ∧ Q (.bl (!decide (x = .bl b))) H) := by
 intro pins s σ H x y v u Q I rx ry h
 obtain ⟨b, rfl, q⟩ := h
 cases ry
 refine wpAny_isNot_plain ?_ (fin_bl I q ?_)
 ·cases x <;> first
   | (cases rx; rfl)
   | (obtain ⟨t, rfl⟩ := rx; rfl)
 ·cases x <;> first
   | (obtain ⟨t, rfl⟩ := rx; rfl)
   | (cases rx; cases b <;> rfl)
   | (cases rx; rename_i c; cases b <;> cases c <;> rfl)
theorem vals_bools : ∀ {bs : List Bool} {us : List Value}, Vals (bs.map V.bl) us → us = bs.map Value.bool
 | [], _, .nil => rfl
 | b :: bs, _, .cons r t => by cases r; rw [vals_bools t]; rfl
theorem call_all (hc : X.calm = true) : CallR X (.builtin "all") (fun xs H Q => ∃ (p : Addr) (bs : List Bool), xs = [.ref p] ∧ SqL X.K H p (bs.map V.bl) ∧ Q (.bl (bs.all id)) H) := by
 intro pins s σ H xs us Q I r h
 obtain ⟨p, bs, rfl, hq, q⟩ := h
 obtain ⟨u, rfl, rx⟩ := vals1 r
 cases rx
 obtain ⟨its, r', pl, hz⟩ := I.list hq
 have e := vals_bools r'
 subst e
 have hl := pl.isList
 have hlt : p < s.heap.objs.size := by obtain ⟨_, e, _⟩ := hl; exact Heap.lt_size e
 refine call_all_walk (wpAny_pyIter_list hl ?_)
 refine ⟨s.heap.objs.size, [s.heap.objs.size, p], [s.heap.objs.size], (bs.map Value.bool).toArray.size, _, _, fun i => (bs[i]?).getD true, rfl, Walks.list (A := X.A.in1) (I.ok.hd hc) _ p (Nat.ne_of_lt hlt) (bs.map Value.bool).toArray,
  ⟨⟨_, Heap.get?_push_size _ rfl, rfl, rfl⟩, hl.push _⟩, fun i v s' Q' E' hP hQ => ?_, fun h' tk hk => ?_⟩
 ·have hP : (bs.map Value.bool)[i]? = some v := by simpa using hP
  rw [List.getElem?_map] at hP
  cases hb : bs[i]? with
  | none => rw [hb] at hP; cases hP
  | some b =>
   rw [hb] at hP; cases hP
   simp only [hb, Option.getD_some] at hQ
   exact wpAny_truthy_bool hQ
 ·have e : ((List.range (bs.map Value.bool).toArray.size).all fun i => (bs[i]?).getD true) = bs.all id := by
   rw [List.size_toArray, List.length_map, Bool.eq_iff_iff, List.all_eq_true, List.all_eq_true]
   constructor
   ·intro h b hb
    obtain ⟨i, hi, e⟩ := List.mem_iff_getElem.mp hb
    have := h i (List.mem_range.mpr hi)
    rw [List.getElem?_eq_getElem hi, e] at this
    exact this
   ·intro h i hi
    have hi := List.mem_range.mp hi
    rw [List.getElem?_eq_getElem hi]
    exact h _ (List.getElem_mem hi)
  rw [e]
  refine ⟨.bl _, H, ?_, rfl, q⟩
  exact I.kept fun b x e => hk b x (fun hm => by rw [List.mem_singleton.mp hm] at e; exact Nat.lt_irrefl _ (Heap.lt_size e)) (Heap.get?_push_of_some _ e)
def kindOfV (K : PySem.W.Frag) (H : Hp) : V → String → Prop
 | .non, n => n = "NoneType"
 | .bl _, n => n = "bool"
 | .int _, n => n = "int"
 | .str _, n => n = "str"
 | .ref a, n => (n = "list" ∧ ((∃ xs, H a = some (.lst xs)) ∨ ∃ o xs, H a = some (.frz o (.lst xs)))) ∨ (n = "tuple" ∧ ∃ xs, H a = some (.tup xs)) ∨ (n = "dict" ∧ ∃ xs, H a = some (.dK xs))
 | _, _ => False
noncomputable def subK (n T : String) : Bool := n == T || (n == "bool" && T == "int")
theorem kit_sub {K : PySem.W.Frag} {n T : String} (hn : n = "NoneType" ∨ n = "bool" ∨ n = "int" ∨ n = "str" ∨ n = "list" ∨ n = "tuple" ∨ n = "dict") (hT : T = "int" ∨ T = "str" ∨ T = "bool" ∨ T = "list" ∨ T = "tuple" ∨ T = "dict") : PySem.W.kitOne K (.type n) (.type T) = some (subK n T) := by
 rcases hn with rfl | rfl | rfl | rfl | rfl | rfl | rfl <;> rcases hT with rfl | rfl | rfl | rfl | rfl | rfl <;> rfl
theorem call_isinst : CallR X (.builtin "isinstance") (fun xs H Q => ∃ x n T, xs = [x, .ty T] ∧ kindOfV X.K H x n ∧ (T = "int" ∨ T = "str" ∨ T = "bool" ∨ T = "list" ∨ T = "tuple" ∨ T = "dict") ∧ Q (.bl (subK n T)) H) := by
 intro pins s σ H xs us Q I r h
 obtain ⟨x, n, T, rfl, hk, hT, q⟩ := h
 obtain ⟨u, w, rfl, rx, rt⟩ := vals2 r
 cases rt
 have fin : ∀ tk, EP X pins σ Q (.bool (subK n T)) { s with toks := tk } := fun tk => ⟨.bl (subK n T), H, I.tok tk, rfl, q⟩
 cases x with
 | non => cases (show n = "NoneType" from hk); exact isinst_ok I rx .non (kit_sub (by simp) hT) fin
 | bl b => cases (show n = "bool" from hk); exact isinst_ok I rx (.bl b) (kit_sub (by simp) hT) fin
 | int i => cases (show n = "int" from hk); exact isinst_ok I rx (.int i) (kit_sub (by simp) hT) fin
 | str i => cases (show n = "str" from hk); exact isinst_ok I rx (.str i) (kit_sub (by simp) hT) fin
 | ref a =>
  rcases (show (n = "list" ∧ ((∃ xs, H a = some (.lst xs)) ∨ ∃ o xs, H a = some (.frz o (.lst xs)))) ∨ (n = "tuple" ∧ ∃ xs, H a = some (.tup xs)) ∨ (n = "dict" ∧ ∃ xs, H a = some (.dK xs)) from hk) with ⟨e, ⟨xs, h1⟩ | ⟨o, xs, h1⟩⟩ | ⟨e, xs, h1⟩ | ⟨e, xs, h1⟩
  ·cases e; exact isinst_ok I rx (.lst h1) (kit_sub (by simp) hT) fin
  ·cases e; exact isinst_ok I rx (.frz h1) (kit_sub (by simp) hT) fin
  ·cases e; exact isinst_ok I rx (.tup h1) (kit_sub (by simp) hT) fin
  ·cases e; exact isinst_ok I rx (.dK h1) (kit_sub (by simp) hT) fin
 | _ => exact (show False from hk).elim
end
end L2
namespace L2
open PySem
def XH (a C : Addr) (dx : Option Addr) (h : Heap) : Prop := ∃ o vs, h.get? a = some o ∧ o.cls = .ref C ∧ o.dict = dx ∧ o.data = .fields vs
def XDict (H : Hp) : Option Addr → List (Str × V) → Prop
 | none, ys => ys = []
 | some d, ys => ∃ o, H d = some (.frz o (.xd ys))
end L2
namespace L3
open PySem L2
set_option maxHeartbeats 4000000
inductive D where
 | non | bl (b : Bool) | int (i : Int) | str (x : Str) | tup (xs : List D) | ref (a : Addr) | ty (n : String)
inductive DO where
 | lst (xs : List D) | fro (xs : List D) | dic (kvs : List (Key × D)) | dit (kvs : List (List Key × D)) | ins (C : Addr) (fs : List (Str × D)) | exc (C : Addr) (fs : List (Str × D))
noncomputable abbrev Gp := Addr → Option DO
noncomputable def gup (G : Gp) (a : Addr) (o : DO) : Gp := fun b => if b = a then some o else G b
theorem gup_same {G : Gp} {a : Addr} {o : DO} : gup G a o a = some o := by unfold gup; rw [if_pos rfl]
theorem gup_ne {G : Gp} {a b : Addr} {o : DO} (h : b ≠ a) : gup G a o b = G b := by unfold gup; rw [if_neg h]
theorem gup_gup {G : Gp} {a : Addr} {o u : DO} : gup (gup G a o) a u = gup G a u := by
 funext b; unfold gup; split <;> rfl
theorem gne {G : Gp} {a b : Addr} {o : DO} (h : G a = some o) (h' : G b = none) : a ≠ b := by
 intro e; subst e; rw [h] at h'; cases h'
theorem gne' {G : Gp} {a b : Addr} {o : DO} (h' : G b = none) (h : G a = some o) : b ≠ a := Ne.symm (gne h h')
structure Le (H H' : Hp) : Prop where
 tups : ∀ b xs, H b = some (.tup xs) → H' b = some (.tup xs)
 frzs : ∀ b o u, H b = some (.frz o u) → H' b = some (.frz o u)
theorem Le.refl (H : Hp) : Le H H := ⟨fun _ _ h => h, fun _ _ _ h => h⟩
theorem Le.trans {H H1 H2 : Hp} (a : Le H H1) (b : Le H1 H2) : Le H H2 := ⟨fun c xs h => b.tups c xs (a.tups c xs h), fun c o u h => b.frzs c o u (a.frzs c o u h)⟩
theorem Le.sqT {K : PySem.W.Frag} {H H' : Hp} (l : Le H H') {a : Addr} {xs : List V} (h : SqT K H a xs) : SqT K H' a xs := by
 rcases h with (h | ⟨o, h⟩) | h
 ·exact .inl (.inl (l.tups _ _ h))
 ·exact .inl (.inr ⟨o, l.frzs _ _ _ h⟩)
 ·exact .inr h
theorem Le.fresh {H : Hp} {p : Addr} {o : HO} (h : H p = none) : Le H (upd H p o) :=
 ⟨fun b xs q => by rw [upd_ne (ne_of_none q h)]; exact q, fun b o u q => by rw [upd_ne (ne_of_none q h)]; exact q⟩
mutual
def RelD (K : PySem.W.Frag) (H : Hp) : D → V → Prop
 | .non, v => v = .non
 | .bl b, v => v = .bl b
 | .int i, v => v = .int i
 | .str x, v => v = .str x
 | .ref a, v => v = .ref a
 | .ty n, v => v = .ty n
 | .tup ds, v => ∃ a xs, v = .ref a ∧ SqT K H a xs ∧ RelDs K H ds xs
def RelDs (K : PySem.W.Frag) (H : Hp) : List D → List V → Prop
 | [], xs => xs = []
 | d :: ds, xs => ∃ x r, xs = x :: r ∧ RelD K H d x ∧ RelDs K H ds r
end
section
variable {K : PySem.W.Frag} {H H' : Hp}
mutual
theorem RelD.le (l : Le H H') : ∀ {d : D} {v : V}, RelD K H d v → RelD K H' d v
 | .non, _, h => by simpa [RelD] using h
 | .bl _, _, h => by simpa [RelD] using h
 | .int _, _, h => by simpa [RelD] using h
 | .str _, _, h => by simpa [RelD] using h
 | .ref _, _, h => by simpa [RelD] using h
 | .ty _, _, h => by simpa [RelD] using h
 | .tup ds, _, h => by
  rw [RelD] at h ⊢
  obtain ⟨a, xs, e, s, r⟩ := h
  exact ⟨a, xs, e, l.sqT s, RelDs.le l r⟩
theorem RelDs.le (l : Le H H') : ∀ {ds : List D} {xs : List V}, RelDs K H ds xs → RelDs K H' ds xs
 | [], _, h => by simpa [RelDs] using h
 | d :: ds, _, h => by
  rw [RelDs] at h ⊢
  obtain ⟨x, r, e, h1, h2⟩ := h
  exact ⟨x, r, e, RelD.le l h1, RelDs.le l h2⟩
end
theorem RelDs.nil : RelDs K H [] [] := by rw [RelDs]
theorem RelDs.cons {d : D} {ds : List D} {x : V} {xs : List V} (h : RelD K H d x) (t : RelDs K H ds xs) : RelDs K H (d :: ds) (x :: xs) := by
 rw [RelDs]; exact ⟨x, xs, rfl, h, t⟩
theorem RelDs.inv_nil {xs : List V} (h : RelDs K H [] xs) : xs = [] := by rw [RelDs] at h; exact h
theorem RelDs.inv_cons {d : D} {ds : List D} {xs : List V} (h : RelDs K H (d :: ds) xs) : ∃ x r, xs = x :: r ∧ RelD K H d x ∧ RelDs K H ds r := by rw [RelDs] at h; exact h
theorem RelDs.length : ∀ {ds : List D} {xs : List V}, RelDs K H ds xs → ds.length = xs.length
 | [], _, h => by rw [h.inv_nil]; rfl
 | _ :: _, _, h => by obtain ⟨x, r, e, _, t⟩ := h.inv_cons; rw [e, List.length_cons, List.length_cons, t.length]
theorem RelDs.get : ∀ {ds : List D} {xs : List V} {i : Nat} {d : D}, RelDs K H ds xs → ds[i]? = some d → ∃ x, xs[i]? = some x ∧ RelD K H d x
 | [], _, _, _, _, e => by simp at e
 | _ :: _, _, 0, _, h, e => by
  obtain ⟨x, r, rfl, h1, t⟩ := h.inv_cons
  simp at e; subst e; exact ⟨x, rfl, h1⟩
 | _ :: _, _, i + 1, d, h, e => by
  obtain ⟨x, r, rfl, h1, t⟩ := h.inv_cons
  obtain ⟨y, h2, h3⟩ := RelDs.get (i := i) t (by simpa using e)
  exact ⟨y, by simpa using h2, h3⟩
theorem RelDs.of : ∀ {ds : List D} {xs : List V}, ds.length = xs.length → (∀ (i : Nat) d x, ds[i]? = some d → xs[i]? = some x → RelD K H d x) → RelDs K H ds xs
 | [], [], _, _ => .nil
 | [], _ :: _, h, _ => by simp at h
 | _ :: _, [], h, _ => by simp at h
 | d :: ds, x :: xs, h, f => .cons (f 0 d x rfl rfl) (RelDs.of (by simpa using h) fun i d x a b => f (i + 1) d x (by simpa using a) (by simpa using b))
theorem RelDs.append : ∀ {ds es : List D} {xs ys : List V}, RelDs K H ds xs → RelDs K H es ys → RelDs K H (ds ++ es) (xs ++ ys)
 | [], _, _, _, h, t => by rw [h.inv_nil]; exact t
 | _ :: _, _, _, _, h, t => by
  obtain ⟨x, r, rfl, h1, h2⟩ := h.inv_cons
  exact .cons h1 (h2.append t)
theorem RelDs.set {d : D} {x : V} (q : RelD K H d x) : ∀ {ds : List D} {xs : List V} (i : Nat), RelDs K H ds xs → RelDs K H (ds.set i d) (xs.set i x)
 | [], _, _, h => by rw [h.inv_nil]; exact .nil
 | _ :: _, _, 0, h => by
  obtain ⟨x, r, rfl, h1, h2⟩ := h.inv_cons
  exact .cons q h2
 | _ :: _, _, i + 1, h => by
  obtain ⟨x, r, rfl, h1, h2⟩ := h.inv_cons
  exact .cons h1 (h2.set q i)
theorem RelDs.take : ∀ {ds : List D} {xs : List V} (n : Nat), RelDs K H ds xs → RelDs K H (ds.take n) (xs.take n)
 | _, _, 0, _ => by simpa using RelDs.nil
 | [], _, _ + 1, h => by rw [h.inv_nil]; exact .nil
 | _ :: _, _, n + 1, h => by
  obtain ⟨x, r, rfl, h1, h2⟩ := h.inv_cons
  exact .cons h1 (h2.take n)
theorem RelDs.drop : ∀ {ds : List D} {xs : List V} (n : Nat), RelDs K H ds xs → RelDs K H (ds.drop n) (xs.drop n)
 | _, _, 0, h => by simpa using h
 | [], _, _ + 1, h => by rw [h.inv_nil]; exact .nil
 | _ :: _, _, n + 1, h => by
  obtain ⟨x, r, rfl, h1, h2⟩ := h.inv_cons
  exact h2.drop n
theorem RelDs.reverse : ∀ {ds : List D} {xs : List V}, RelDs K H ds xs → RelDs K H ds.reverse xs.reverse
 | [], _, h => by rw [h.inv_nil]; exact .nil
 | _ :: _, _, h => by
  obtain ⟨x, r, rfl, h1, h2⟩ := h.inv_cons
  rw [List.reverse_cons, List.reverse_cons]
  exact h2.reverse.append (.cons h1 .nil)
theorem RelDs.rep {ds : List D} {xs : List V} (h : RelDs K H ds xs) : ∀ k : Nat, RelDs K H (List.replicate k ds).flatten (List.replicate k xs).flatten
 | 0 => .nil
 | k + 1 => by rw [List.replicate_succ, List.replicate_succ, List.flatten_cons, List.flatten_cons]; exact h.append (h.rep k)
def RelPs {κ : Type} (K : PySem.W.Frag) (H : Hp) (ps : List (κ × D)) (qs : List (κ × V)) : Prop := ps.map (·.1) = qs.map (·.1) ∧ RelDs K H (ps.map (·.2)) (qs.map (·.2))
theorem RelPs.le {κ : Type} (l : Le H H') {ps : List (κ × D)} {qs : List (κ × V)} (h : RelPs K H ps qs) : RelPs K H' ps qs := ⟨h.1, RelDs.le l h.2⟩
end
def ObjD (K : PySem.W.Frag) (H : Hp) (a : Addr) : DO → Prop
 | .lst ds => ∃ xs, H a = some (.lst xs) ∧ RelDs K H ds xs
 | .fro ds => ∃ o xs, H a = some (.frz o (.lst xs)) ∧ RelDs K H ds xs
 | .dic kvs => ∃ ys, H a = some (.dK ys) ∧ RelPs K H kvs ys
 | .dit kvs => ∃ ys, H a = some (.dT ys) ∧ RelPs K H kvs ys
 | .ins C fs => ∃ dx ys, H a = some (.ins C dx ys) ∧ RelPs K H fs ys
 | .exc C fs => ∃ dx ys, H a = some (.ext (XH a C dx)) ∧ XDict H dx ys ∧ RelPs K H fs ys
theorem _root_.L2.XDict.le {H H' : Hp} (l : Le H H') {dx : Option Addr} {ys : List (Str × V)} (h : XDict H dx ys) : XDict H' dx ys := by
 cases dx with
 | none => exact h
 | some d => obtain ⟨o, e⟩ := h; exact ⟨o, l.frzs _ _ _ e⟩
def Con (K : PySem.W.Frag) (G : Gp) (H : Hp) : Prop := ∀ a o, G a = some o → ObjD K H a o
section
variable {K : PySem.W.Frag} {G : Gp} {H H' : Hp} {a p : Addr} {o : DO}
theorem ObjD.some (h : ObjD K H a o) : ∃ u, H a = some u := by
 cases o with
 | lst ds => obtain ⟨xs, e, _⟩ := h; exact ⟨_, e⟩
 | fro ds => obtain ⟨_, xs, e, _⟩ := h; exact ⟨_, e⟩
 | dic ds => obtain ⟨xs, e, _⟩ := h; exact ⟨_, e⟩
 | dit ds => obtain ⟨xs, e, _⟩ := h; exact ⟨_, e⟩
 | ins C ds => obtain ⟨_, xs, e, _⟩ := h; exact ⟨_, e⟩
 | exc C ds => obtain ⟨_, xs, e, _⟩ := h; exact ⟨_, e⟩
theorem ObjD.stay (h : ObjD K H a o) (l : Le H H') (e : H' a = H a) : ObjD K H' a o := by
 cases o with
 | lst ds => obtain ⟨xs, q, r⟩ := h; exact ⟨xs, e.trans q, RelDs.le l r⟩
 | fro ds => obtain ⟨o, xs, q, r⟩ := h; exact ⟨o, xs, e.trans q, RelDs.le l r⟩
 | dic ds => obtain ⟨xs, q, r⟩ := h; exact ⟨xs, e.trans q, r.le l⟩
 | dit ds => obtain ⟨xs, q, r⟩ := h; exact ⟨xs, e.trans q, r.le l⟩
 | ins C ds => obtain ⟨dx, xs, q, r⟩ := h; exact ⟨dx, xs, e.trans q, r.le l⟩
 | exc C ds => obtain ⟨dx, xs, q, z, r⟩ := h; exact ⟨dx, xs, e.trans q, z.le l, r.le l⟩
theorem Con.fresh (c : Con K G H) (h : H p = none) : G p = none := by
 cases e : G p with
 | none => rfl
 | some o => obtain ⟨u, q⟩ := (c p o e).some; rw [h] at q; cases q
theorem Con.stay (c : Con K G H) (l : Le H H') (e : ∀ a o, G a = some o → H' a = H a) : Con K G H' := fun a o q => (c a o q).stay l (e a o q)
theorem Con.side {u : HO} (c : Con K G H) (h : H p = none) : Con K G (upd H p u) := c.stay (Le.fresh h) fun a o q => by
 obtain ⟨u, e⟩ := (c a o q).some
 exact upd_ne (ne_of_none e h)
theorem Con.put {u : HO} (c : Con K G H) (l : Le H (upd H p u)) (n : ObjD K (upd H p u) p o) : Con K (gup G p o) (upd H p u) := fun b q e => by
 by_cases hb : b = p
 ·subst hb; rw [gup_same] at e; cases e; exact n
 ·rw [gup_ne hb] at e
  exact (c b q e).stay l (upd_ne hb)
theorem Le.lst {xs ys : List V} (h : H p = some (.lst xs)) : Le H (upd H p (.lst ys)) :=
  ⟨fun b zs q => by by_cases e : b = p
                    · subst e; rw [h] at q; cases q
                    · rw [upd_ne e]; exact q,
   fun b o u q => by by_cases e : b = p
                     · subst e; rw [h] at q; cases q
                     · rw [upd_ne e]; exact q⟩
theorem Le.dK {xs ys : List (Key × V)} (h : H p = some (.dK xs)) : Le H (upd H p (.dK ys)) :=
  ⟨fun b zs q => by by_cases e : b = p
                    · subst e; rw [h] at q; cases q
                    · rw [upd_ne e]; exact q,
   fun b o u q => by by_cases e : b = p
                     · subst e; rw [h] at q; cases q
                     · rw [upd_ne e]; exact q⟩
theorem Le.ins {C dx C' dx' : Addr} {xs ys : List (Str × V)} (h : H p = some (.ins C dx xs)) : Le H (upd H p (.ins C' dx' ys)) :=
  ⟨fun b zs q => by by_cases e : b = p
                    · subst e; rw [h] at q; cases q
                    · rw [upd_ne e]; exact q,
   fun b o u q => by by_cases e : b = p
                     · subst e; rw [h] at q; cases q
                     · rw [upd_ne e]; exact q⟩
theorem Con.lstNew {ds : List D} {xs : List V} (c : Con K G H) (h : H p = none) (r : RelDs K H ds xs) : Con K (gup G p (.lst ds)) (upd H p (.lst xs)) :=
 c.put (Le.fresh h) ⟨xs, upd_same, RelDs.le (Le.fresh h) r⟩
theorem Con.lstSet {ds : List D} {xs ys : List V} (c : Con K G H) (h : H p = some (.lst ys)) (r : RelDs K H ds xs) : Con K (gup G p (.lst ds)) (upd H p (.lst xs)) :=
 c.put (Le.lst h) ⟨xs, upd_same, RelDs.le (Le.lst h) r⟩
end
noncomputable abbrev DSt := List (Option D)
def RelSt (K : PySem.W.Frag) (H : Hp) (σd : DSt) (σ : St) : Prop := σd.length = σ.length ∧ ∀ (i : Nat) d, σd[i]? = some (some d) → ∃ v, σ[i]? = some (some v) ∧ RelD K H d v
theorem RelSt.le {K : PySem.W.Frag} {H H' : Hp} {σd : DSt} {σ : St} (h : RelSt K H σd σ) (l : Le H H') : RelSt K H' σd σ :=
 ⟨h.1, fun i d e => let ⟨v, a, b⟩ := h.2 i d e; ⟨v, a, RelD.le l b⟩⟩
theorem RelSt.set {K : PySem.W.Frag} {H : Hp} {σd : DSt} {σ : St} {d : D} {v : V} (h : RelSt K H σd σ) (i : Nat) (r : RelD K H d v) : RelSt K H (σd.set i (some d)) (σ.set i (some v)) := by
 refine ⟨by rw [List.length_set, List.length_set]; exact h.1, fun j e q => ?_⟩
 rw [List.getElem?_set] at q
 split at q
 ·rename_i hij; subst hij
  split at q
  ·rename_i hl; cases q
   exact ⟨v, by rw [List.getElem?_set_self (by rw [← h.1]; exact hl)], r⟩
  ·cases q
 ·rename_i hij
  obtain ⟨w, a, b⟩ := h.2 j e q
  exact ⟨w, by rw [List.getElem?_set_ne hij]; exact a, b⟩
noncomputable abbrev DK := D → Gp → Prop
noncomputable abbrev TE3 := DSt → Gp → DK → Prop
noncomputable abbrev TT3 := DSt → Gp → (Bool → Gp → Prop) → Prop
noncomputable abbrev TA3 := DSt → Gp → (List D → Gp → Prop) → Prop
structure Ends3 where
 nx : DSt → Gp → Prop
 rt : DK
 bk : DSt → Gp → Prop := fun _ _ => False
 ct : DSt → Gp → Prop := fun _ _ => False
noncomputable abbrev TS3 := Ends3 → DSt → Gp → Prop
def FutE (K : PySem.W.Frag) (H : Hp) (q : DK) (Q : VK) : Prop := ∀ d G' v H', RelD K H' d v → Con K G' H' → Le H H' → q d G' → Q v H'
def FutT (K : PySem.W.Frag) (H : Hp) (q : Bool → Gp → Prop) (Q : Bool → Hp → Prop) : Prop := ∀ b G' H', Con K G' H' → Le H H' → q b G' → Q b H'
def FutA (K : PySem.W.Frag) (H : Hp) (q : List D → Gp → Prop) (Q : List V → Hp → Prop) : Prop := ∀ ds G' vs H', RelDs K H' ds vs → Con K G' H' → Le H H' → q ds G' → Q vs H'
def FutS (K : PySem.W.Frag) (H : Hp) (q : DSt → Gp → Prop) (Q : St → Hp → Prop) : Prop := ∀ σd G' σ H', RelSt K H' σd σ → Con K G' H' → Le H H' → q σd G' → Q σ H'
theorem FutE.le {K : PySem.W.Frag} {H H1 : Hp} {q : DK} {Q : VK} (f : FutE K H q Q) (l : Le H H1) : FutE K H1 q Q := fun d G v H' r c l' => f d G v H' r c (l.trans l')
theorem FutS.le {K : PySem.W.Frag} {H H1 : Hp} {q : DSt → Gp → Prop} {Q : St → Hp → Prop} (f : FutS K H q Q) (l : Le H H1) : FutS K H1 q Q := fun d G v H' r c l' => f d G v H' r c (l.trans l')
structure FutD (K : PySem.W.Frag) (H : Hp) (d : Ends3) (D : Ends) : Prop where
 nx : FutS K H d.nx D.nx
 rt : FutE K H d.rt D.rt
 bk : FutS K H d.bk D.bk
 ct : FutS K H d.ct D.ct
theorem FutD.le {K : PySem.W.Frag} {H H1 : Hp} {d : Ends3} {D : Ends} (f : FutD K H d D) (l : Le H H1) : FutD K H1 d D := ⟨f.nx.le l, f.rt.le l, f.bk.le l, f.ct.le l⟩
def lowE (K : PySem.W.Frag) (t : TE3) : TE := fun σ H Q => ∃ σd G q, RelSt K H σd σ ∧ Con K G H ∧ t σd G q ∧ FutE K H q Q
def lowT (K : PySem.W.Frag) (t : TT3) : TT := fun σ H Q => ∃ σd G q, RelSt K H σd σ ∧ Con K G H ∧ t σd G q ∧ FutT K H q Q
def lowA (K : PySem.W.Frag) (t : TA3) : TA := fun σ H Q => ∃ σd G q, RelSt K H σd σ ∧ Con K G H ∧ t σd G q ∧ FutA K H q Q
def lowS (K : PySem.W.Frag) (t : TS3) : TS := fun D σ H => ∃ σd G d, RelSt K H σd σ ∧ Con K G H ∧ t d σd G ∧ FutD K H d D
noncomputable abbrev R3 := D → D → Gp → DK → Prop
def lowR (K : PySem.W.Frag) (r : R3) : R2 := fun x y H Q => ∃ d e G q, RelD K H d x ∧ RelD K H e y ∧ Con K G H ∧ r d e G q ∧ FutE K H q Q
noncomputable abbrev U3 := D → Gp → DK → Prop
noncomputable abbrev C3 := List D → Gp → DK → Prop
def lowC (K : PySem.W.Frag) (r : C3) : List V → Hp → VK → Prop := fun xs H Q => ∃ ds G q, RelDs K H ds xs ∧ Con K G H ∧ r ds G q ∧ FutE K H q Q
def dVar (i : Nat) : TE3 := fun σ G q => match σ[i]? with | some (some d) => q d G | _ => False
def dC (d : D) : TE3 := fun _ G q => q d G
def dOp (r : R3) (ta tb : TE3) : TE3 := fun σ G q => ta σ G fun x G1 => tb σ G1 fun y G2 => r x y G2 q
def dUn (r : U3) (ta : TE3) : TE3 := fun σ G q => ta σ G fun x G1 => r x G1 q
def dNil : TA3 := fun _ G q => q [] G
def dCons (ta : TE3) (tr : TA3) : TA3 := fun σ G q => ta σ G fun x G1 => tr σ G1 fun xs G2 => q (x :: xs) G2
def dTup (t : TA3) : TE3 := fun σ G q => t σ G fun xs G1 => xs.length ≤ sizeLine ∧ q (.tup xs) G1
def dLst (t : TA3) : TE3 := fun σ G q => t σ G fun xs G1 => xs.length ≤ sizeLine ∧ ∀ p, G1 p = none → q (.ref p) (gup G1 p (.lst xs))
def dB (t : TE3) : TT3 := fun σ G q => t σ G fun x G1 => match x with | .bl c => q c G1 | _ => False
def dAnd (t u : TT3) : TT3 := fun σ G q => t σ G fun c G1 => if c = true then u σ G1 q else q false G1
def dOr (t u : TT3) : TT3 := fun σ G q => t σ G fun c G1 => if c = true then q true G1 else u σ G1 q
def dNot (t : TT3) : TT3 := fun σ G q => t σ G fun c G1 => q (!c) G1
def dAndV (ta tb : TE3) : TE3 := fun σ G q => ta σ G fun x G1 => match x with | .bl c => if c = true then tb σ G1 q else q (.bl false) G1 | _ => False
def dOrV (ta tb : TE3) : TE3 := fun σ G q => ta σ G fun x G1 => match x with | .bl c => if c = true then q (.bl true) G1 else tb σ G1 q | _ => False
def dNotV (ta : TE3) : TE3 := fun σ G q => ta σ G fun x G1 => match x with | .bl c => q (.bl (!c)) G1 | _ => False
def dIf (t : TT3) (ta tb : TE3) : TE3 := fun σ G q => t σ G fun c G1 => if c = true then ta σ G1 q else tb σ G1 q
section
variable {K : PySem.W.Frag} {σ : St} {H : Hp} {Q : VK}
theorem low_var {i : Nat} (h : lowE K (dVar i) σ H Q) : tVar i σ H Q := by
 obtain ⟨σd, G, q, rs, c, t, f⟩ := h
 unfold dVar at t
 split at t
 ·rename_i d e
  obtain ⟨v, hv, r⟩ := rs.2 i d e
  exact ⟨v, hv, f d G v H r c (Le.refl H) t⟩
 ·exact t.elim
theorem low_c {d : D} {v : V} (r : ∀ H, RelD K H d v) (h : lowE K (dC d) σ H Q) : tC v σ H Q := by
 obtain ⟨σd, G, q, rs, c, t, f⟩ := h
 exact f d G v H (r H) c (Le.refl H) t
theorem low_op {r : R3} {ta tb : TE3} (h : lowE K (dOp r ta tb) σ H Q) : tOp (lowR K r) (lowE K ta) (lowE K tb) σ H Q := by
 obtain ⟨σd, G, q, rs, c, t, f⟩ := h
 exact ⟨σd, G, _, rs, c, t, fun d G1 v H1 r1 c1 l1 t1 => ⟨σd, G1, _, rs.le l1, c1, t1, fun e G2 u H2 r2 c2 l2 t2 => ⟨d, e, G2, q, RelD.le l2 r1, r2, c2, t2, f.le (l1.trans l2)⟩⟩⟩
theorem low_nil {Q : List V → Hp → Prop} (h : lowA K dNil σ H Q) : tNil σ H Q := by
 obtain ⟨σd, G, q, rs, c, t, f⟩ := h
 exact f [] G [] H .nil c (Le.refl H) t
theorem low_cons {ta : TE3} {tr : TA3} {Q : List V → Hp → Prop} (h : lowA K (dCons ta tr) σ H Q) : tCons (lowE K ta) (lowA K tr) σ H Q := by
 obtain ⟨σd, G, q, rs, c, t, f⟩ := h
 exact ⟨σd, G, _, rs, c, t, fun d G1 v H1 r1 c1 l1 t1 => ⟨σd, G1, _, rs.le l1, c1, t1, fun ds G2 vs H2 r2 c2 l2 t2 => f (d :: ds) G2 (v :: vs) H2 (.cons (RelD.le l2 r1) r2) c2 (l1.trans l2) t2⟩⟩
theorem low_tup {ta : TA3} (h : lowE K (dTup ta) σ H Q) : tTup (lowA K ta) σ H Q := by
 obtain ⟨σd, G, q, rs, c, t, f⟩ := h
 refine ⟨σd, G, _, rs, c, t, fun ds G1 vs H1 r1 c1 l1 t1 => ⟨by rw [← r1.length]; exact t1.1, fun p hp => ?_⟩⟩
 refine f (.tup ds) G1 (.ref p) _ ?_ (c1.side hp) (l1.trans (Le.fresh hp)) t1.2
 rw [RelD]
 exact ⟨p, vs, rfl, SqT.of upd_same, RelDs.le (Le.fresh hp) r1⟩
theorem low_lst {ta : TA3} (h : lowE K (dLst ta) σ H Q) : tLst (lowA K ta) σ H Q := by
 obtain ⟨σd, G, q, rs, c, t, f⟩ := h
 refine ⟨σd, G, _, rs, c, t, fun ds G1 vs H1 r1 c1 l1 t1 => ⟨by rw [← r1.length]; exact t1.1, fun p hp => ?_⟩⟩
 exact f (.ref p) _ (.ref p) _ (by rw [RelD]) (c1.lstNew hp r1) (l1.trans (Le.fresh hp)) (t1.2 p (c1.fresh hp))
theorem RelD.bl_inv {c : Bool} {v : V} (h : RelD K H (.bl c) v) : v = .bl c := by rw [RelD] at h; exact h
theorem low_andT {t u : TT3} {Q : Bool → Hp → Prop} (h : lowT K (dAnd t u) σ H Q) : tAnd (lowT K t) (lowT K u) σ H Q := by
 obtain ⟨σd, G, q, rs, c, t, f⟩ := h
 refine ⟨σd, G, _, rs, c, t, fun b G1 H1 c1 l1 t1 => ?_⟩
 cases b with
 | true => rw [if_pos rfl] at t1 ⊢; exact ⟨σd, G1, q, rs.le l1, c1, t1, fun b G2 H2 c2 l2 t2 => f b G2 H2 c2 (l1.trans l2) t2⟩
 | false => rw [if_neg Bool.false_ne_true] at t1 ⊢; exact f _ _ _ c1 l1 t1
theorem low_orT {t u : TT3} {Q : Bool → Hp → Prop} (h : lowT K (dOr t u) σ H Q) : tOr (lowT K t) (lowT K u) σ H Q := by
 obtain ⟨σd, G, q, rs, c, t, f⟩ := h
 refine ⟨σd, G, _, rs, c, t, fun b G1 H1 c1 l1 t1 => ?_⟩
 cases b with
 | false => rw [if_neg Bool.false_ne_true] at t1 ⊢; exact ⟨σd, G1, q, rs.le l1, c1, t1, fun b G2 H2 c2 l2 t2 => f b G2 H2 c2 (l1.trans l2) t2⟩
 | true => rw [if_pos rfl] at t1 ⊢; exact f _ _ _ c1 l1 t1
theorem low_notT {t : TT3} {Q : Bool → Hp → Prop} (h : lowT K (dNot t) σ H Q) : tNot (lowT K t) σ H Q := by
 obtain ⟨σd, G, q, rs, c, t, f⟩ := h
 exact ⟨σd, G, _, rs, c, t, fun b G1 H1 c1 l1 t1 => f _ _ _ c1 l1 t1⟩
theorem low_if {t : TT3} {ta tb : TE3} (h : lowE K (dIf t ta tb) σ H Q) : tIf (lowT K t) (lowE K ta) (lowE K tb) σ H Q := by
 obtain ⟨σd, G, q, rs, c, t, f⟩ := h
 refine ⟨σd, G, _, rs, c, t, fun b G1 H1 c1 l1 t1 => ?_⟩
 cases b with
 | true => rw [if_pos rfl] at t1 ⊢; exact ⟨σd, G1, q, rs.le l1, c1, t1, f.le l1⟩
 | false => rw [if_neg Bool.false_ne_true] at t1 ⊢; exact ⟨σd, G1, q, rs.le l1, c1, t1, f.le l1⟩
end
end L3
namespace L3
open PySem L2
set_option maxHeartbeats 4000000
def dNext : TS3 := fun E σ G => E.nx σ G
def Go (k : DSt → Gp → Prop) (σ : DSt) (G : Gp) : Prop := k σ G
def dSeq (t u : TS3) : TS3 := fun E σ G => t { E with nx := Go (u E) } σ G
def dDrop (te : TE3) : TS3 := fun E σ G => te σ G fun _ G1 => E.nx σ G1
def dRet (te : TE3) : TS3 := fun E σ G => te σ G E.rt
def dRetN : TS3 := fun E _ G => E.rt .non G
def dIfS (c : TT3) (t u : TS3) : TS3 := fun E σ G => c σ G fun b G1 => if b = true then t E σ G1 else u E σ G1
noncomputable abbrev TG3 := D → DSt → Gp → (DSt → Gp → Prop) → Prop
noncomputable abbrev TGs3 := List D → DSt → Gp → (DSt → Gp → Prop) → Prop
def lowG (K : PySem.W.Frag) (t : TG3) : TG := fun v σ H Q => ∃ d σd G q, RelD K H d v ∧ RelSt K H σd σ ∧ Con K G H ∧ t d σd G q ∧ FutS K H q Q
def lowGs (K : PySem.W.Frag) (t : TGs3) : TGs := fun vs σ H Q => ∃ ds σd G q, RelDs K H ds vs ∧ RelSt K H σd σ ∧ Con K G H ∧ t ds σd G q ∧ FutS K H q Q
def jName (i : Nat) : TG3 := fun d σ G q => q (σ.set i (some d)) G
def jNil : TGs3 := fun ds σ G q => ds = [] ∧ q σ G
def jCons (t : TG3) (u : TGs3) : TGs3 := fun ds σ G q => match ds with | d :: r => t d σ G fun σ' G' => u r σ' G' q | [] => False
noncomputable abbrev TSet3 := D → D → D → Gp → (Gp → Prop) → Prop
def lowSet (K : PySem.W.Frag) (t : TSet3) : TSet := fun o i v H Q => ∃ d e x G q, RelD K H d o ∧ RelD K H e i ∧ RelD K H x v ∧ Con K G H ∧ t d e x G q ∧ ∀ G' H', Con K G' H' → Le H H' → q G' → Q H'
def jSub (to ti : TE3) (t : TSet3) : TG3 := fun d σ G q => to σ G fun o G1 => ti σ G1 fun i G2 => t o i d G2 fun G3 => q σ G3
def dAsg (te : TE3) (g : TG3) : TS3 := fun E σ G => te σ G fun x G1 => g x σ G1 E.nx
section
variable {K : PySem.W.Frag} {σ : St} {H : Hp} {E : Ends}
theorem low_next (h : lowS K dNext E σ H) : tNext E σ H := by
 obtain ⟨σd, G, d, rs, c, t, f⟩ := h
 exact f.nx _ _ _ _ rs c (Le.refl H) t
theorem low_seq {t u : TS3} (h : lowS K (dSeq t u) E σ H) : tSeq (lowS K t) (lowS K u) E σ H := by
 obtain ⟨σd, G, d, rs, c, t, f⟩ := h
 exact ⟨σd, G, _, rs, c, t, fun σd' G' σ' H' rs' c' l' t' => ⟨σd', G', d, rs', c', t', f.le l'⟩, f.rt, f.bk, f.ct⟩
theorem low_drop {te : TE3} (h : lowS K (dDrop te) E σ H) : tDrop (lowE K te) E σ H := by
 obtain ⟨σd, G, d, rs, c, t, f⟩ := h
 exact ⟨σd, G, _, rs, c, t, fun x G1 v H1 r1 c1 l1 t1 => f.nx _ _ _ _ (rs.le l1) c1 l1 t1⟩
theorem low_ret {te : TE3} (h : lowS K (dRet te) E σ H) : tRet (lowE K te) E σ H := by
 obtain ⟨σd, G, d, rs, c, t, f⟩ := h
 exact ⟨σd, G, _, rs, c, t, f.rt⟩
theorem low_ifS {tc : TT3} {t u : TS3} (h : lowS K (dIfS tc t u) E σ H) : tIfS (lowT K tc) (lowS K t) (lowS K u) E σ H := by
 obtain ⟨σd, G, d, rs, c, t, f⟩ := h
 refine ⟨σd, G, _, rs, c, t, fun b G1 H1 c1 l1 t1 => ?_⟩
 cases b with
 | true => rw [if_pos rfl] at t1 ⊢; exact ⟨σd, G1, d, rs.le l1, c1, t1, f.le l1⟩
 | false => rw [if_neg Bool.false_ne_true] at t1 ⊢; exact ⟨σd, G1, d, rs.le l1, c1, t1, f.le l1⟩
theorem low_jName {i : Nat} {v : V} {Q : St → Hp → Prop} (h : lowG K (jName i) v σ H Q) : gName i v σ H Q := by
 obtain ⟨d, σd, G, q, r, rs, c, t, f⟩ := h
 exact f _ _ _ _ (rs.set i r) c (Le.refl H) t
theorem low_jNil {vs : List V} {Q : St → Hp → Prop} (h : lowGs K jNil vs σ H Q) : gNil vs σ H Q := by
 obtain ⟨ds, σd, G, q, r, rs, c, ⟨e, t⟩, f⟩ := h
 subst e
 exact ⟨r.inv_nil, f _ _ _ _ rs c (Le.refl H) t⟩
theorem low_jCons {t : TG3} {u : TGs3} {vs : List V} {Q : St → Hp → Prop} (h : lowGs K (jCons t u) vs σ H Q) : gCons (lowG K t) (lowGs K u) vs σ H Q := by
 obtain ⟨ds, σd, G, q, r, rs, c, t, f⟩ := h
 cases ds with
 | nil => exact t.elim
 | cons d ds =>
  obtain ⟨x, xs, rfl, r1, r2⟩ := r.inv_cons
  exact ⟨x, xs, rfl, d, σd, G, _, r1, rs, c, t, fun σd' G' σ' H' rs' c' l' t' => ⟨ds, σd', G', q, RelDs.le l' r2, rs', c', t', f.le l'⟩⟩
theorem low_jSub {to ti : TE3} {t : TSet3} {v : V} {Q : St → Hp → Prop} (h : lowG K (jSub to ti t) v σ H Q) : gSub (lowE K to) (lowE K ti) (lowSet K t) v σ H Q := by
 obtain ⟨d, σd, G, q, r, rs, c, t, f⟩ := h
 exact ⟨σd, G, _, rs, c, t, fun o G1 vo H1 r1 c1 l1 t1 => ⟨σd, G1, _, rs.le l1, c1, t1, fun i G2 vi H2 r2 c2 l2 t2 => ⟨o, i, d, G2, _, RelD.le l2 r1, r2, RelD.le (l1.trans l2) r, c2, t2, fun G3 H3 c3 l3 t3 =>
  f _ _ _ _ (rs.le (l1.trans (l2.trans l3))) c3 (l1.trans (l2.trans l3)) t3⟩⟩⟩
theorem low_asg {te : TE3} {g : TG3} (h : lowS K (dAsg te g) E σ H) : tAsg (lowE K te) (lowG K g) E σ H := by
 obtain ⟨σd, G, d, rs, c, t, f⟩ := h
 exact ⟨σd, G, _, rs, c, t, fun x G1 v H1 r1 c1 l1 t1 => ⟨x, σd, G1, _, r1, rs.le l1, c1, t1, f.nx.le l1⟩⟩
end
structure IT where
 items : List D
 ok : Gp → Prop
structure ItRel (K : PySem.W.Frag) (H0 : Hp) (it : IT) (J : It) : Prop where
 go : ∀ (i : Nat) G H, Le H0 H → Con K G H → it.ok G → i < it.items.length → J.go i H
 stop : ∀ (i : Nat) G H, Le H0 H → Con K G H → it.ok G → it.items.length ≤ i → J.stop i H
 yld : ∀ (i : Nat) G H x H', Le H0 H → Con K G H → it.ok G → i < it.items.length → J.yld i H x H' → Con K G H' ∧ Le H H' ∧ ∃ d, it.items[i]? = some d ∧ RelD K H' d x
noncomputable abbrev TI3 := DSt → Gp → (IT → Gp → Prop) → Prop
def lowI (K : PySem.W.Frag) (t : TI3) : TI := fun σ H R => ∃ σd G r, RelSt K H σd σ ∧ Con K G H ∧ t σd G r ∧ ∀ it J G' H', ItRel K H' it J → Con K G' H' → Le H H' → r it G' → R J H'
def forL (ok : Gp → Prop) (g : TG3) (tb : TS3) (E : Ends3) : List D → DSt → Gp → Prop
 | [], σ, G => ok G ∧ E.nx σ G
 | x :: r, σ, G => ok G ∧ g x σ G fun σ1 G1 => tb { E with nx := forL ok g tb E r, ct := forL ok g tb E r, bk := E.nx } σ1 G1
def dFor (wi : TI3) (g : TG3) (tb : TS3) : TS3 := fun E σ G => wi σ G fun it G1 => forL it.ok g tb E it.items σ G1
theorem low_for {K : PySem.W.Frag} {wi : TI3} {g : TG3} {tb : TS3} {σ : St} {H : Hp} {E : Ends} (h : lowS K (dFor wi g tb) E σ H) : tFor (lowI K wi) (lowG K g) (lowS K tb) E σ H := by
 obtain ⟨σd, G, d, rs, cc, t, f⟩ := h
 refine ⟨σd, G, _, rs, cc, t, fun it J G1 H1 ir c1 l1 t1 => ?_⟩
 refine ⟨fun i m σ' H' => ∃ σd' G', Le H1 H' ∧ RelSt K H' σd' σ' ∧ Con K G' H' ∧ i + m = it.items.length ∧ forL it.ok g tb d (it.items.drop i) σd' G', ⟨it.items.length, σd, G1, Le.refl _, rs.le l1, c1, by omega, by rw [List.drop_zero]; exact t1⟩, ?_⟩
 rintro i m σ2 H2 ⟨σd2, G2, l2, rs2, c2, e2, t2⟩
 by_cases hi : i < it.items.length
 ·rw [List.drop_eq_getElem_cons hi] at t2
  obtain ⟨ok2, t2⟩ := t2
  refine .inr ⟨ir.go i G2 H2 l2 c2 ok2 hi, fun σ' H' => ∃ σd' G', Le H1 H' ∧ RelSt K H' σd' σ' ∧ Con K G' H' ∧ forL it.ok g tb d (it.items.drop (i + 1)) σd' G', ?_, ?_⟩
  ·rintro σ' H' ⟨σd', G', a1, a2, a3, a4⟩
   exact ⟨m - 1, by omega, σd', G', a1, a2, a3, by omega, a4⟩
  ·intro x H3 y
   obtain ⟨c3, l3, e, he, r3⟩ := ir.yld i G2 H2 x H3 l2 c2 ok2 hi y
   rw [List.getElem?_eq_getElem hi] at he
   cases he
   refine ⟨_, σd2, G2, _, r3, rs2.le l3, c3, t2, fun σd4 G4 σ4 H4 rs4 c4 l4 t4 => ?_⟩
   have l14 : Le H1 H4 := l2.trans (l3.trans l4)
   have key : FutS K H4 (forL it.ok g tb d (it.items.drop (i + 1))) (fun σ' H' => ∃ σd' G', Le H1 H' ∧ RelSt K H' σd' σ' ∧ Con K G' H' ∧ forL it.ok g tb d (it.items.drop (i + 1)) σd' G') :=
    fun σd5 G5 σ5 H5 rs5 c5 l5 t5 => ⟨σd5, G5, l14.trans l5, rs5, c5, t5⟩
   exact ⟨σd4, G4, _, rs4, c4, t4, key, f.rt.le (l1.trans l14), f.nx.le (l1.trans l14), key⟩
 ·rw [List.drop_eq_nil_of_le (by omega)] at t2
  exact .inl ⟨ir.stop i G2 H2 l2 c2 t2.1 (by omega), f.nx _ _ _ _ rs2 c2 (l1.trans l2) t2.2⟩
theorem RelDs.at_ {K : PySem.W.Frag} {H : Hp} {ds : List D} {xs : List V} {i : Nat} {x : V} (h : RelDs K H ds xs) (e : xs[i]? = some x) : ∃ d, ds[i]? = some d ∧ RelD K H d x := by
 have hl : i < ds.length := by rw [h.length]; exact (List.getElem?_eq_some_iff.mp e).1
 obtain ⟨y, hy, r⟩ := h.get (List.getElem?_eq_getElem hl)
 rw [e] at hy; cases hy
 exact ⟨_, List.getElem?_eq_getElem hl, r⟩
theorem itrel_tup {K : PySem.W.Frag} {H0 : Hp} {a : Addr} {ds : List D} {xs : List V} (s : SqT K H0 a xs) (r : RelDs K H0 ds xs) : ItRel K H0 ⟨ds, fun _ => True⟩ (Itt K a) where
 go := fun i G H l c _ hi => ⟨xs, xs[i]'(by rw [← r.length]; exact hi), l.sqT s, List.getElem?_eq_getElem _⟩
 stop := fun i G H l c _ hi => ⟨xs, l.sqT s, by rw [← r.length]; exact hi⟩
 yld := fun i G H x H' l c _ hi y => by
  obtain ⟨e, y⟩ := y
  subst e
  have hx := y xs (l.sqT s)
  obtain ⟨d, hd, rd⟩ := (RelDs.le l r).at_ hx
  exact ⟨c, Le.refl _, d, hd, rd⟩
noncomputable def seqOf : Option DO → Option (List D)
 | some (.lst xs) => some xs
 | some (.fro xs) => some xs
 | _ => none
theorem sql_of {K : PySem.W.Frag} {G : Gp} {H : Hp} {a : Addr} {ds : List D} (c : Con K G H) (h : seqOf (G a) = some ds) : ∃ xs, SqL K H a xs ∧ RelDs K H ds xs := by
 cases e : G a with
 | none => rw [e] at h; cases h
 | some o =>
  rw [e] at h
  have q := c a o e
  cases o with
  | lst xs => cases h; obtain ⟨ys, q, r⟩ := q; exact ⟨ys, .inl (.inl q), r⟩
  | fro xs => cases h; obtain ⟨o, ys, q, r⟩ := q; exact ⟨ys, .inl (.inr ⟨o, q⟩), r⟩
  | dic _ => cases h
  | dit _ => cases h
  | ins _ _ => cases h
  | exc _ _ => cases h
theorem itrel_list {K : PySem.W.Frag} {H0 : Hp} {a : Addr} {ds : List D} : ItRel K H0 ⟨ds, fun G => seqOf (G a) = some ds⟩ (Itl K a) where
 go := fun i G H l c ok hi => by
  obtain ⟨xs, s, r⟩ := sql_of c ok
  exact ⟨xs, xs[i]'(by rw [← r.length]; exact hi), s, List.getElem?_eq_getElem _⟩
 stop := fun i G H l c ok hi => by
  obtain ⟨xs, s, r⟩ := sql_of c ok
  exact ⟨xs, s, by rw [← r.length]; exact hi⟩
 yld := fun i G H x H' l c ok hi y => by
  obtain ⟨e, y⟩ := y
  subst e
  obtain ⟨xs, s, r⟩ := sql_of c ok
  obtain ⟨d, hd, rd⟩ := r.at_ (y xs s)
  exact ⟨c, Le.refl _, d, hd, rd⟩
noncomputable def rngD (lo : Int) (n : Nat) : List D := (List.range n).map fun (i : Nat) => .int (lo + i)
theorem itrel_range {K : PySem.W.Frag} {H0 : Hp} {lo : Int} {n : Nat} : ItRel K H0 ⟨rngD lo n, fun _ => True⟩ (Itr lo n) where
 go := fun i G H l c _ hi => by
  have : i < n := by simpa [rngD] using hi
  exact this
 stop := fun i G H l c _ hi => by
  have : n ≤ i := by simpa [rngD] using hi
  exact this
 yld := fun i G H x H' l c _ hi y => by
  obtain ⟨e, y⟩ := y
  subst e; subst y
  refine ⟨c, Le.refl _, .int (lo + i), ?_, by rw [RelD]⟩
  have : i < n := by simpa [rngD] using hi
  simp [rngD, this]
end L3
namespace L3
open PySem L2
set_option maxHeartbeats 4000000
noncomputable abbrev Sp3 := List D → Gp → DK → Prop
def lowSp (K : PySem.W.Frag) (S : Sp3) : Sp := fun vs H Q _ => ∃ ds G R, RelDs K H ds vs ∧ Con K G H ∧ S ds G R ∧ FutE K H R Q
def dCall (S : Sp3) (dds : List D) (t : TA3) : TE3 := fun σ G q => t σ G fun ds G1 => ∃ R, S (ds ++ dds) G1 R ∧ ∀ d G', R d G' → q d G'
def dMeth (C : Addr) (m : Str) (S : Sp3) (dds : List D) (ta : TE3) (t : TA3) : TE3 := fun σ G q => ta σ G fun x G1 => match x with
 | .ref a => (match G1 a with
  | some (.ins C' fs) => C' = C ∧ fs.lookup m = none ∧ t σ G1 fun ds G2 => ∃ R, S (.ref a :: (ds ++ dds)) G2 R ∧ ∀ d G', R d G' → q d G'
  | _ => False)
 | _ => False
def dMake (C : Addr) (S : Sp3) (dds : List D) (t : TA3) : TE3 := fun σ G q => t σ G fun ds G1 => ∀ x, G1 x = none →
 ∃ R, S (.ref x :: (ds ++ dds)) (gup G1 x (.ins C [])) R ∧ ∀ d G', R d G' → d = .non ∧ q (.ref x) G'
noncomputable def putD (f : Str) (v : D) : List (Str × D) → List (Str × D)
 | [] => [(f, v)]
 | (g, u) :: r => if g = f then (g, v) :: r else (g, u) :: putD f v r
def dFld (C : Addr) (ta : TE3) (f : Str) : TE3 := fun σ G q => ta σ G fun x G1 => match x with
 | .ref a => (match G1 a with
  | some (.ins C' fs) => C' = C ∧ (match fs.lookup f with | some d => q d G1 | none => False)
  | _ => False)
 | _ => False
def dSetF (C : Addr) (ta tv : TE3) (f : Str) : TS3 := fun E σ G => tv σ G fun y G1 => ta σ G1 fun x G2 => match x with
 | .ref a => (match G2 a with
  | some (.ins C' fs) => C' = C ∧ fs.length < 1000 ∧ E.nx σ (gup G2 a (.ins C (putD f y fs)))
  | _ => False)
 | _ => False
def dAugF (C : Addr) (ta tv : TE3) (r : R3) (f : Str) : TS3 := fun E σ G => ta σ G fun x G1 => match x with
 | .ref a => (match G1 a with
  | some (.ins C' fs) => C' = C ∧ (match fs.lookup f with
   | some d => tv σ G1 fun y G2 => r d y G2 fun z G3 => (match G3 a with
    | some (.ins C'' fs') => C'' = C ∧ fs'.length < 1000 ∧ E.nx σ (gup G3 a (.ins C (putD f z fs')))
    | _ => False)
   | none => False)
  | _ => False)
 | _ => False
section
variable {K : PySem.W.Frag} {σ : St} {H : Hp} {Q : VK} {E : Ends}
theorem low_call {S : Sp3} {dds : List D} {dvs : List V} {t : TA3} {XE : XK} (hd : ∀ H, RelDs K H dds dvs) (h : lowE K (dCall S dds t) σ H Q) : tCall (lowSp K S) dvs XE (lowA K t) σ H Q := by
 obtain ⟨σd, G, q, rs, c, t, f⟩ := h
 exact ⟨σd, G, _, rs, c, t, fun ds G1 vs H1 r1 c1 l1 ⟨R, s1, t1⟩ => ⟨_, G1, R, r1.append (hd H1), c1, s1, fun d G2 v H2 r2 c2 l2 t2 => f d G2 v H2 r2 c2 (l1.trans l2) (t1 d G2 t2)⟩⟩
theorem RelD.refI {a : Addr} : RelD K H (.ref a) (.ref a) := by rw [RelD]
theorem RelD.ref_inv {a : Addr} {v : V} (h : RelD K H (.ref a) v) : v = .ref a := by rw [RelD] at h; exact h
theorem RelPs.lookup_none {κ : Type} [BEq κ] {k : κ} : ∀ {ps : List (κ × D)} {qs : List (κ × V)}, RelPs K H ps qs → ps.lookup k = none → qs.lookup k = none
 | [], qs, h, _ => by
  cases qs with
  | nil => rfl
  | cons _ _ => have := h.1; simp at this
 | (g, d) :: ps, qs, h, e => by
  cases qs with
  | nil => have := h.1; simp at this
  | cons q qs =>
   obtain ⟨g', v⟩ := q
   have h1 := h.1
   simp only [List.map_cons, List.cons.injEq] at h1
   obtain ⟨rfl, h1⟩ := h1
   obtain ⟨x, r, e2, _, h2⟩ := (show RelDs K H (d :: ps.map (·.2)) (v :: qs.map (·.2)) from h.2).inv_cons
   cases e2
   rw [List.lookup_cons] at e ⊢
   cases hk : k == g with
   | true => rw [hk] at e; cases e
   | false => rw [hk] at e; exact RelPs.lookup_none ⟨h1, h2⟩ e
theorem RelPs.lookup {κ : Type} [BEq κ] {k : κ} {d : D} : ∀ {ps : List (κ × D)} {qs : List (κ × V)}, RelPs K H ps qs → ps.lookup k = some d → ∃ v, qs.lookup k = some v ∧ RelD K H d v
 | [], qs, h, e => by cases e
 | (g, d') :: ps, qs, h, e => by
  cases qs with
  | nil => have := h.1; simp at this
  | cons q qs =>
   obtain ⟨g', v⟩ := q
   have h1 := h.1
   simp only [List.map_cons, List.cons.injEq] at h1
   obtain ⟨rfl, h1⟩ := h1
   obtain ⟨x, r, e2, r1, h2⟩ := (show RelDs K H (d' :: ps.map (·.2)) (v :: qs.map (·.2)) from h.2).inv_cons
   cases e2
   rw [List.lookup_cons] at e ⊢
   cases hk : k == g with
   | true => rw [hk] at e; cases e; exact ⟨v, rfl, r1⟩
   | false => rw [hk] at e; exact RelPs.lookup ⟨h1, h2⟩ e
theorem RelPs.nil {κ : Type} : RelPs (κ := κ) K H [] [] := ⟨rfl, .nil⟩
theorem RelPs.cons {κ : Type} {k : κ} {d : D} {v : V} {ps : List (κ × D)} {qs : List (κ × V)} (r : RelD K H d v) (h : RelPs K H ps qs) : RelPs K H ((k, d) :: ps) ((k, v) :: qs) :=
 ⟨by simp [h.1], .cons r h.2⟩
theorem RelPs.inv_cons {κ : Type} {k : κ} {d : D} {ps : List (κ × D)} {qs : List (κ × V)} (h : RelPs K H ((k, d) :: ps) qs) : ∃ v r, qs = (k, v) :: r ∧ RelD K H d v ∧ RelPs K H ps r := by
 cases qs with
 | nil => have := h.1; simp at this
 | cons q qs =>
  obtain ⟨g', v⟩ := q
  have h1 := h.1
  simp only [List.map_cons, List.cons.injEq] at h1
  obtain ⟨rfl, h1⟩ := h1
  obtain ⟨x, r, e2, r1, h2⟩ := (show RelDs K H (d :: ps.map (·.2)) (v :: qs.map (·.2)) from h.2).inv_cons
  cases e2
  exact ⟨v, qs, rfl, r1, h1, h2⟩
theorem RelPs.inv_nil {κ : Type} {qs : List (κ × V)} (h : RelPs K H [] qs) : qs = [] := by
 cases qs with
 | nil => rfl
 | cons _ _ => have := h.1; simp at this
theorem RelPs.length {κ : Type} {ps : List (κ × D)} {qs : List (κ × V)} (h : RelPs K H ps qs) : ps.length = qs.length := by
 have := h.2.length; simpa using this
theorem low_meth {C : Addr} {m : Str} {S : Sp3} {dds : List D} {dvs : List V} {ta : TE3} {t : TA3} {XE : XK} (hd : ∀ H, RelDs K H dds dvs) (h : lowE K (dMeth C m S dds ta t) σ H Q) : tMeth C m (lowSp K S) dvs XE (lowE K ta) (lowA K t) σ H Q := by
 obtain ⟨σd, G, q, rs, c, t, f⟩ := h
 refine ⟨σd, G, _, rs, c, t, fun x G1 v H1 r1 c1 l1 t1 => ?_⟩
 split at t1
 ·rename_i a
  split at t1
  ·rename_i C' fs e
   obtain ⟨rfl, n, t1⟩ := t1
   obtain ⟨dx, ys, e2, rf⟩ := c1 _ _ e
   refine ⟨a, dx, ys, r1.ref_inv, e2, rf.lookup_none n, σd, G1, _, rs.le l1, c1, t1, fun ds G2 vs H2 r2 c2 l2 ⟨R, s2, t2⟩ => ?_⟩
   exact ⟨_, G2, R, .cons (RelD.le l2 r1) (r2.append (hd H2)), c2, s2, fun d G3 v H3 r3 c3 l3 t3 => f d G3 v H3 r3 c3 (l1.trans (l2.trans l3)) (t2 d G3 t3)⟩
  ·exact t1.elim
 ·exact t1.elim
theorem low_b {te : TE3} {Q : Bool → Hp → Prop} (h : lowT K (dB te) σ H Q) : tB (lowE K te) σ H Q := by
 obtain ⟨σd, G, q, rs, c, t, f⟩ := h
 refine ⟨σd, G, _, rs, c, t, fun x G1 v H1 r1 c1 l1 t1 => ?_⟩
 split at t1
 ·rename_i k
  exact ⟨k, r1.bl_inv, f _ _ _ c1 l1 t1⟩
 ·exact t1.elim
theorem low_andV {ta tb : TE3} (h : lowE K (dAndV ta tb) σ H Q) : tAndV (lowE K ta) (lowE K tb) σ H Q := by
 obtain ⟨σd, G, q, rs, c, t, f⟩ := h
 refine ⟨σd, G, _, rs, c, t, fun x G1 v H1 r1 c1 l1 t1 => ?_⟩
 split at t1
 ·rename_i k
  refine ⟨k, r1.bl_inv, ?_⟩
  cases k with
  | true => rw [if_pos rfl] at t1 ⊢; exact ⟨σd, G1, q, rs.le l1, c1, t1, f.le l1⟩
  | false => rw [if_neg Bool.false_ne_true] at t1 ⊢; exact f _ _ _ _ (by rw [RelD]) c1 l1 t1
 ·exact t1.elim
theorem low_notV {ta : TE3} (h : lowE K (dNotV ta) σ H Q) : tNotV (lowE K ta) σ H Q := by
 obtain ⟨σd, G, q, rs, c, t, f⟩ := h
 refine ⟨σd, G, _, rs, c, t, fun x G1 v H1 r1 c1 l1 t1 => ?_⟩
 split at t1
 ·rename_i k
  exact ⟨k, r1.bl_inv, f _ _ _ _ (by rw [RelD]) c1 l1 t1⟩
 ·exact t1.elim
def dAug (i : Nat) (te : TE3) (r : R3) : TS3 := fun E σ G => match σ[i]? with
 | some (some x) => te σ G fun y G1 => r x y G1 fun z G2 => E.nx (σ.set i (some z)) G2
 | _ => False
noncomputable abbrev TO3 := DSt → Gp → (Option Int → Gp → Prop) → Prop
noncomputable def lowO (K : PySem.W.Frag) (t : TO3) : TO := fun σ H Q => ∃ σd G q, RelSt K H σd σ ∧ Con K G H ∧ t σd G q ∧ ∀ o G' H', Con K G' H' → Le H H' → q o G' → Q o H'
noncomputable def dNoPart : TO3 := fun _ G q => q none G
noncomputable def dPart (t : TE3) : TO3 := fun σ G q => t σ G fun x G1 => match x with | .int i => q (some i) G1 | _ => False
theorem low_noPart {Q : Option Int → Hp → Prop} (h : lowO K dNoPart σ H Q) : tNoPart σ H Q := by
 obtain ⟨σd, G, q, rs, c, t, f⟩ := h
 exact f _ _ _ c (Le.refl H) t
theorem low_part {t : TE3} {Q : Option Int → Hp → Prop} (h : lowO K (dPart t) σ H Q) : tPart (lowE K t) σ H Q := by
 obtain ⟨σd, G, q, rs, c, t, f⟩ := h
 refine ⟨σd, G, _, rs, c, t, fun x G1 v H1 r1 c1 l1 t1 => ?_⟩
 split at t1
 ·rename_i k
  rw [RelD] at r1
  exact ⟨k, r1, f _ _ _ c1 l1 t1⟩
 ·exact t1.elim
noncomputable abbrev RS3 := D → Option Int → Option Int → Gp → DK → Prop
def lowRS (K : PySem.W.Frag) (r : RS3) : V → Option Int → Option Int → Hp → VK → Prop := fun x l u H Q => ∃ d G q, RelD K H d x ∧ Con K G H ∧ r d l u G q ∧ FutE K H q Q
def dSl (r : RS3) (te : TE3) (tl th : TO3) : TE3 := fun σ G q => te σ G fun x G1 => tl σ G1 fun l G2 => th σ G2 fun u G3 => r x l u G3 q
theorem low_sl {r : RS3} {te : TE3} {tl th : TO3} (h : lowE K (dSl r te tl th) σ H Q) : tSl (lowRS K r) (lowE K te) (lowO K tl) (lowO K th) σ H Q := by
 obtain ⟨σd, G, q, rs, c, t, f⟩ := h
 exact ⟨σd, G, _, rs, c, t, fun x G1 v H1 r1 c1 l1 t1 => ⟨σd, G1, _, rs.le l1, c1, t1, fun o G2 H2 c2 l2 t2 => ⟨σd, G2, _, rs.le (l1.trans l2), c2, t2, fun u G3 H3 c3 l3 t3 =>
  ⟨x, G3, q, RelD.le (l2.trans l3) r1, c3, t3, f.le (l1.trans (l2.trans l3))⟩⟩⟩⟩
def dCB (r : C3) (t : TA3) : TE3 := fun σ G q => t σ G fun ds G1 => r ds G1 q
theorem low_cb {r : C3} {t : TA3} (h : lowE K (dCB r t) σ H Q) : tCB (lowC K r) (lowA K t) σ H Q := by
 obtain ⟨σd, G, q, rs, c, t, f⟩ := h
 exact ⟨σd, G, _, rs, c, t, fun ds G1 vs H1 r1 c1 l1 t1 => ⟨ds, G1, q, r1, c1, t1, f.le l1⟩⟩
noncomputable abbrev M3 := D → List D → Gp → DK → Prop
def lowM (K : PySem.W.Frag) (r : M3) : V → List V → Hp → VK → Prop := fun x xs H Q => ∃ d ds G q, RelD K H d x ∧ RelDs K H ds xs ∧ Con K G H ∧ r d ds G q ∧ FutE K H q Q
def tyD (G : Gp) (T : String) : D → Prop
 | .str _ => T = "str"
 | .int _ => T = "int"
 | .ref a => match G a with
  | some (.lst _) => T = "list"
  | some (.fro _) => T = "list"
  | some (.dic _) => T = "dict"
  | _ => False
 | _ => False
def dBM (T : String) (r : M3) (to : TE3) (t : TA3) : TE3 := fun σ G q => to σ G fun x G1 => tyD G1 T x ∧ t σ G1 fun ds G2 => r x ds G2 q
def dBM0 (T : String) (r : M3) (to : TE3) : TE3 := fun σ G q => to σ G fun x G1 => tyD G1 T x ∧ r x [] G1 q
theorem low_bm {T : String} {r : M3} {to : TE3} {t : TA3} (ty : ∀ G H x v, Con K G H → RelD K H x v → tyD G T x → tyV K T v H) (h : lowE K (dBM T r to t) σ H Q) : tBM K T (lowM K r) (lowE K to) (lowA K t) σ H Q := by
 obtain ⟨σd, G, q, rs, c, t, f⟩ := h
 exact ⟨σd, G, _, rs, c, t, fun x G1 v H1 r1 c1 l1 ⟨y, t1⟩ => ⟨ty G1 H1 x v c1 r1 y, σd, G1, _, rs.le l1, c1, t1, fun ds G2 vs H2 r2 c2 l2 t2 => ⟨x, ds, G2, q, RelD.le l2 r1, r2, c2, t2, f.le (l1.trans l2)⟩⟩⟩
end
end L3
namespace L3
open PySem PySem.Spec PyProof.Rows L2
set_option maxHeartbeats 4000000
section
variable {X : Cx}
theorem weakE {e : Expr} {t t' : TE} (h : PE X e t) (w : ∀ σ H Q, t' σ H Q → t σ H Q) : PE X e t' := fun pins s σ H Q I q => h pins s σ H Q I (w _ _ _ q)
theorem weakT {e : Expr} {t t' : TT} (h : PT X e t) (w : ∀ σ H Q, t' σ H Q → t σ H Q) : PT X e t' := fun pins s σ H Q I q => h pins s σ H Q I (w _ _ _ q)
theorem weakW {e : Expr} {t t' : TT} (h : PW X e t) (w : ∀ σ H Q, t' σ H Q → t σ H Q) : PW X e t' := fun wh pins s σ H Q I q => h wh pins s σ H Q I (w _ _ _ q)
theorem weakA {e : List Expr} {t t' : TA} (h : PA X e t) (w : ∀ σ H Q, t' σ H Q → t σ H Q) : PA X e t' := fun pos pins s σ H Q I q => h pos pins s σ H Q I (w _ _ _ q)
theorem weakS {e : Stmt} {t t' : TS} (h : PS X e t) (w : ∀ D σ H, t' D σ H → t D σ H) : PS X e t' := fun pins s σ H D I q => h pins s σ H D I (w _ _ _ q)
theorem weakSs {e : List Stmt} {t t' : TS} (h : PSs X e t) (w : ∀ D σ H, t' D σ H → t D σ H) : PSs X e t' := fun pins s σ H D I q => h pins s σ H D I (w _ _ _ q)
theorem weakG {e : Expr} {t t' : TG} (h : PG X e t) (w : ∀ v σ H Q, t' v σ H Q → t v σ H Q) : PG X e t' := fun pins s σ H v u Q I r q => h pins s σ H v u Q I r (w _ _ _ _ q)
theorem weakGs {e : List Expr} {t t' : TGs} (h : PGs X e t) (w : ∀ v σ H Q, t' v σ H Q → t v σ H Q) : PGs X e t' := fun pins s σ H v u Q I r q => h pins s σ H v u Q I r (w _ _ _ _ q)
theorem weakSet {t t' : TSet} (h : PSet X t) (w : ∀ o i v H Q, t' o i v H Q → t o i v H Q) : PSet X t' := fun pins s σ H o i v ov iv u Q I r1 r2 r3 q => h pins s σ H o i v ov iv u Q I r1 r2 r3 (w _ _ _ _ _ q)
theorem weakI {tg e : Expr} {t t' : TI} (h : PI X tg e t) (w : ∀ σ H R, t' σ H R → t σ H R) : PI X tg e t' := fun pins s σ H R I q => h pins s σ H R I (w _ _ _ q)
theorem weakOp {f : Value → Value → Sem Value} {r r' : R2} (h : OpR X f r) (w : ∀ x y H Q, r' x y H Q → r x y H Q) : OpR X f r' := fun pins s σ H x y v u Q I a b q => h pins s σ H x y v u Q I a b (w _ _ _ _ q)
theorem weakCall {f : Value} {r r' : List V → Hp → VK → Prop} (h : CallR X f r) (w : ∀ x H Q, r' x H Q → r x H Q) : CallR X f r' := fun pins s σ H x v Q I a q => h pins s σ H x v Q I a (w _ _ _ q)
theorem weakMt {id : String} {r r' : V → List V → Hp → VK → Prop} (h : MtR X id r) (w : ∀ x xs H Q, r' x xs H Q → r x xs H Q) : MtR X id r' := fun pins s σ H x xs v us Q I a b q => h pins s σ H x xs v us Q I a b (w _ _ _ _ q)
theorem weakIx {r r' : R2} (h : IxR X r) (w : ∀ x y H Q, r' x y H Q → r x y H Q) : IxR X r' := fun va sl pins s σ H x y v u Q I a b q => h va sl pins s σ H x y v u Q I a b (w _ _ _ _ q)
theorem weakSl {r r' : V → Option Int → Option Int → Hp → VK → Prop} (h : SlR X r) (w : ∀ x l u H Q, r' x l u H Q → r x l u H Q) : SlR X r' := by
 intro pins s σ H x lo hi
 intros
 apply h <;> first | assumption | (apply w; assumption)
theorem weakO {e : Option Expr} {t t' : TO} (h : PO X e t) (w : ∀ σ H Q, t' σ H Q → t σ H Q) : PO X e t' := by
 intro pins s σ H Q I q
 exact h pins s σ H Q I (w _ _ _ q)
theorem weakIfs {e : List Expr} {t t' : TT} (h : PIfs X e t) (w : ∀ σ H Q, t' σ H Q → t σ H Q) : PIfs X e t' := fun pins s σ H Q I q => h pins s σ H Q I (w _ _ _ q)
end
def E3 (X : Cx) (e : Expr) (t : TE3) : Prop := PE X e (lowE X.K t)
def T3 (X : Cx) (e : Expr) (t : TT3) : Prop := PT X e (lowT X.K t)
def W3 (X : Cx) (e : Expr) (t : TT3) : Prop := PW X e (lowT X.K t)
def A3 (X : Cx) (es : List Expr) (t : TA3) : Prop := PA X es (lowA X.K t)
def S3 (X : Cx) (st : Stmt) (t : TS3) : Prop := PS X st (lowS X.K t)
def Ss3 (X : Cx) (sts : List Stmt) (t : TS3) : Prop := PSs X sts (lowS X.K t)
def J3 (X : Cx) (e : Expr) (t : TG3) : Prop := PG X e (lowG X.K t)
def Js3 (X : Cx) (es : List Expr) (t : TGs3) : Prop := PGs X es (lowGs X.K t)
def I3 (X : Cx) (tg e : Expr) (t : TI3) : Prop := PI X tg e (lowI X.K t)
def O3 (X : Cx) (e : Option Expr) (t : TO3) : Prop := PO X e (lowO X.K t)
def Ifs3 (X : Cx) (es : List Expr) (t : TT3) : Prop := PIfs X es (lowT X.K t)
noncomputable abbrev Op3 (X : Cx) (f : Value → Value → Sem Value) (r : R3) : Prop := OpR X f (lowR X.K r)
noncomputable abbrev Call3 (X : Cx) (f : Value) (r : C3) : Prop := CallR X f (lowC X.K r)
section
variable {X : Cx} {a b c e o : Expr} {es : List Expr} {pos apos cpos p p2 : Pos} {ta tb tc te : TE3} {t u : TT3} {ts us : TA3}
theorem ev (i : Nat) {x : Str} {pos : Pos} (hN : X.N[i]? = some x := by rfl) (hv : Vis X.env.scope x := by first | exact Or.inl rfl | exact Or.inr (Or.inl rfl) | exact Or.inr (Or.inr rfl)) (hd : (x == ("__debug__" : Str)) = false := by decide)
  (hcd : (x == ("__classdict__" : Str)) = false := by decide) : E3 X (.Name x pos) (dVar i) := weakE (pe_var hN hv hd hcd) fun _ _ _ => low_var
theorem e_int {i j pos} : E3 X (.Constant (.int i) j pos) (dC (.int i)) := weakE pe_int fun _ _ _ => low_c fun _ => by rw [RelD]
theorem e_bl {i j pos} : E3 X (.Constant (.bool i) j pos) (dC (.bl i)) := weakE pe_bl fun _ _ _ => low_c fun _ => by rw [RelD]
theorem e_non {j pos} : E3 X (.Constant .none j pos) (dC .non) := weakE pe_non fun _ _ _ => low_c fun _ => by rw [RelD]
theorem e_str {x j pos} : E3 X (.Constant (.str x) j pos) (dC (.str x)) := weakE pe_str fun _ _ _ => low_c fun _ => by rw [RelD]
theorem e_glob {x : Str} {d : D} {v : V} {w : Value} (hg : Gl X x) (hm : X.mg x = some w) (r : RelV v w) (rd : ∀ H, RelD X.K H d v) (hd : (x == ("__debug__" : Str)) = false := by decide) : E3 X (.Name x pos) (dC d) :=
 weakE (pe_glob hg hm r hd) fun _ _ _ => low_c rd
theorem e_bin {op : Operator} {r : R3} (ho : Op3 X (binaryOp op) r) (ha : E3 X a ta) (hb : E3 X b tb) : E3 X (.BinOp a op b pos) (dOp r ta tb) := weakE (pe_op ho ha hb) fun _ _ _ => low_op
theorem e_cmp {op : CmpOp} {r : R3} (ho : Op3 X (compareOp op) r) (ha : E3 X a ta) (hb : E3 X b tb) (hm : behindInMarks op b = false) : E3 X (.Compare a [op] [b] pos) (dOp r ta tb) := weakE (pe_cmpR ho ha hb hm) fun _ _ _ => low_op
theorem t_cmp {op : CmpOp} {r : R3} (ho : Op3 X (compareOp op) r) (ha : E3 X a ta) (hb : E3 X b tb) (hm : behindInMarks op b = false) : T3 X (.Compare a [op] [b] pos) (dB (dOp r ta tb)) :=
 weakT (pt_cmpR ho ha hb hm) fun σ H Q h => by
  obtain ⟨σd, G, q, rs, c, t, f⟩ := h
  exact low_op (K := X.K) ⟨σd, G, _, rs, c, t, fun x G1 v H1 r1 c1 l1 t1 => by
   split at t1
   ·rename_i k
    exact ⟨k, r1.bl_inv, f _ _ _ c1 l1 t1⟩
   ·exact t1.elim⟩
theorem t_val (h : E3 X e te) (he : ∀ whole, isTrue e X.env whole = (do let v ← whole; standAt e.pos; holding [v] (truthy v)) := by intro _; rfl) : T3 X e (dB te) := weakT (pt_val h he) fun _ _ _ => low_b
theorem w_and1 (ha : T3 X a t) : W3 X (.BoolOp .And [a] pos) t := pw_and1 ha
theorem w_or1 (ha : T3 X a t) : W3 X (.BoolOp .Or [a] pos) t := pw_or1 ha
theorem w_and {rest : List Expr} (ha : T3 X a t) (hb : W3 X (.BoolOp .And (b :: rest) pos) u) : W3 X (.BoolOp .And (a :: b :: rest) pos) (dAnd t u) := weakW (pw_and ha hb) fun _ _ _ => low_andT
theorem w_or {rest : List Expr} (ha : T3 X a t) (hb : W3 X (.BoolOp .Or (b :: rest) pos) u) : W3 X (.BoolOp .Or (a :: b :: rest) pos) (dOr t u) := weakW (pw_or ha hb) fun _ _ _ => low_orT
theorem t_w (h : W3 X e t) : T3 X e t := PW.pt h
theorem t_not (ha : T3 X a t) : T3 X (.UnaryOp .Not a pos) (dNot t) := weakT (pt_not ha) fun _ _ _ => low_notT
theorem e_one {op} (h : E3 X a ta) : E3 X (.BoolOp op [a] pos) ta := pe_one h
theorem e_and {rest : List Expr} (ha : E3 X a ta) (hb : E3 X (.BoolOp .And (b :: rest) pos) tb) : E3 X (.BoolOp .And (a :: b :: rest) pos) (dAndV ta tb) := weakE (pe_and ha hb) fun _ _ _ => low_andV
theorem e_not (ha : E3 X a ta) : E3 X (.UnaryOp .Not a pos) (dNotV ta) := weakE (pe_not ha) fun _ _ _ => low_notV
theorem e_if (hc : T3 X c t) (ha : E3 X a ta) (hb : E3 X b tb) : E3 X (.IfExp c a b pos) (dIf t ta tb) := weakE (pe_ifExp hc ha hb) fun _ _ _ => low_if
theorem a_nil : A3 X [] dNil := weakA pa_nil fun _ _ _ => low_nil
theorem a_cons (ha : E3 X e te) (hr : A3 X es ts) (hs : starEach (e :: es) X.env = (false, eval e X.env) :: starEach es X.env := by rfl) : A3 X (e :: es) (dCons te ts) := weakA (pa_cons ha hr hs) fun _ _ _ => low_cons
theorem e_tup {x1} (h : A3 X es ts) : E3 X (.Tuple es x1 pos) (dTup ts) := weakE (pe_tup h) fun _ _ _ => low_tup
theorem e_lst (h : A3 X es ts) : E3 X (.List es pos) (dLst ts) := weakE (pe_lst h) fun _ _ _ => low_lst
theorem e_ix {r : R3} (hr : IxR X (lowR X.K r)) (ha : E3 X a ta) (hb : E3 X b tb) (hs : PlainIx b := by exact fun _ _ => rfl) : E3 X (.Subscript a b pos) (dOp r ta tb) := weakE (pe_ix hr ha hb hs) fun _ _ _ => low_op
theorem o_none : O3 X none dNoPart := weakO po_none fun _ _ _ => low_noPart
theorem o_some (h : E3 X e te) : O3 X (some e) (dPart te) := weakO (po_some h) fun _ _ _ => low_part
theorem e_sl {r : RS3} {lo hi : Option Expr} {tl th : TO3} (hr : SlR X (lowRS X.K r)) (he : E3 X e te) (hl : O3 X lo tl) (hu : O3 X hi th) : E3 X (.Subscript e (.Slice lo hi none p2) pos) (dSl r te tl th) := weakE (pe_slice hr he hl hu) fun _ _ _ => low_sl
end
section
variable {X : Cx} {a b c e o value : Expr} {es : List Expr} {st : Stmt} {sts sts2 : List Stmt} {pos pos' spos tpos : Pos} {te ta tv : TE3} {t : TT3} {s1 s2 : TS3} {g : TG3}
theorem ss_nil : Ss3 X [] dNext := weakSs pss_nil fun _ _ _ => low_next
theorem ss_cons (h1 : S3 X st s1) (h2 : Ss3 X sts s2) : Ss3 X (st :: sts) (dSeq s1 s2) := weakSs (pss_cons h1 h2) fun _ _ _ => low_seq
theorem ss_one (h1 : S3 X st s1) : Ss3 X [st] s1 := pss_one h1
theorem s_expr (he : E3 X e te) (hs : swapsWith e none pos.line X.env = pure false := by rfl) : S3 X (.Expr e pos) (dDrop te) := weakS (ps_expr he hs) fun _ _ _ => low_drop
theorem s_ret (he : E3 X e te) : S3 X (.Return (some e) pos) (dRet te) := weakS (ps_ret he) fun _ _ _ => low_ret
theorem s_if (hc : T3 X c t) (ha : Ss3 X sts s1) (hb : Ss3 X sts2 s2) : S3 X (.If c sts sts2 pos) (dIfS t s1 s2) := weakS (ps_if hc ha hb) fun _ _ _ => low_ifS
def dNever : TS3 := fun _ _ _ => False
theorem s_never : S3 X st dNever := weakS ps_never fun _ _ _ h => by obtain ⟨_, _, _, _, _, h, _⟩ := h; exact h.elim
theorem j_name (i : Nat) {x : Str} (hN : X.N.Nodup) (hi : X.N[i]? = some x := by rfl) (hx : Loc X.env.scope x := by first | exact Or.inl rfl | exact Or.inr rfl) (hf : X.fn x = true ∨ X.env.scope.names.lookup x = some .local := by first | exact .inl rfl | exact .inr rfl | assumption) : J3 X (.Name x pos) (jName i) :=
 weakG (pg_name hN hi hx hf) fun _ _ _ _ => low_jName
theorem js_nil : Js3 X [] jNil := weakGs pgs_nil fun _ _ _ _ => low_jNil
theorem js_cons {t : TG3} {u : TGs3} (h1 : J3 X e t) (h2 : Js3 X es u) (hs : (assignEach (e :: es) X.env).map (·.2) = assign e X.env :: (assignEach es X.env).map (·.2) := by rfl) : Js3 X (e :: es) (jCons t u) := weakGs (pgs_cons h1 h2 hs) fun _ _ _ _ => low_jCons
theorem j_sub {i : Expr} {to ti : TE3} {t : TSet3} (ho : E3 X o to) (hi : E3 X i ti) (hs : PSet X (lowSet X.K t))
  (ha : ∀ v, assign (.Subscript o i pos) X.env v = (do
   let ov ← holding [v] (eval o X.env)
   let iv ← holding [v, ov] (eval i X.env)
   standAt pos
   holding [v, ov, iv] (setItem ov iv v)
   release [v, ov, iv] []) := by intro _; rfl) : J3 X (.Subscript o i pos) (jSub to ti t) := weakG (pg_sub ho hi hs ha) fun _ _ _ _ => low_jSub
theorem s_asg {tg : Expr} (he : E3 X e te) (hg : J3 X tg g) (hs : swapsWithSole [tg] e pos.line X.env = pure false := by rfl) (hw : swappedStores [tg] e X.env = pure none := by rfl)
  (h1 : (assignEach [tg] X.env).map (·.2) = [assign tg X.env] := by rfl) : S3 X (.Assign [tg] e pos) (dAsg te g) := weakS (ps_asg he hg hs hw h1) fun _ _ _ => low_asg
theorem s_set (i : Nat) {x : Str} (hN : X.N.Nodup) (he : E3 X e te) (hi : X.N[i]? = some x := by rfl) (hx : Loc X.env.scope x := by first | exact Or.inl rfl | exact Or.inr rfl) (hs : swapsWith e (some (.Name x pos')) pos.line X.env = pure false := by rfl)
  (hf : X.fn x = true ∨ X.env.scope.names.lookup x = some .local := by first | exact .inl rfl | exact .inr rfl | assumption) : S3 X (.Assign [.Name x pos'] e pos) (dAsg te (jName i)) :=
 weakS (ps_set hN hi hx he hs hf) fun D σ H h => by
  obtain ⟨σd, G, q, rs, c, t, f⟩ := h
  exact ⟨σd, G, _, rs, c, t, fun x G1 v H1 r1 c1 l1 t1 => f.nx _ _ _ _ ((rs.le l1).set i r1) c1 l1 t1⟩
theorem s_for {tg iter : Expr} {body : List Stmt} {wi : TI3} (hi : I3 X tg iter wi) (hg : J3 X tg g) (hb : Ss3 X body s1) (hc : X.calm = true := by rfl) (hp : PassesOwn (model X.prog X.w) X.A X.env X.xe := by exact PassesOwn.never)
  (hs : ∀ x, foldedSetIterable iter X.env x = pure x := by intro _; rfl) : S3 X (.For tg iter body [] pos) (dFor wi g s1) := weakS (ps_for hp hc hi hg hb hs) fun _ _ _ => low_for
end
theorem low_wRng1 {K : PySem.W.Frag} {σ : L2.St} {H : Hp} {ta : TA3} {R : It → Hp → Prop} (h : lowI K (fun σ G r => ta σ G fun ds G1 => match ds with | [.int j] => (-(2 ^ 62) ≤ j ∧ j < 2 ^ 62) ∧ r ⟨rngD 0 j.toNat, fun _ => True⟩ G1 | _ => False) σ H R) : iRng1 (lowA K ta) σ H R := by
 obtain ⟨σd, G, q, rs, c, t, f⟩ := h
 refine ⟨σd, G, _, rs, c, t, fun ds G1 vs H1 r1 c1 l1 t1 => ?_⟩
 split at t1
 ·rename_i j
  obtain ⟨x, r, rfl, rx, rr⟩ := r1.inv_cons
  rw [RelD] at rx
  subst rx
  rw [rr.inv_nil]
  exact ⟨j, rfl, t1.1.1, t1.1.2, f _ _ _ _ itrel_range c1 l1 t1.2⟩
 ·exact t1.elim
def wRng1 (ta : TA3) : TI3 := fun σ G r => ta σ G fun ds G1 => match ds with | [.int j] => (-(2 ^ 62) ≤ j ∧ j < 2 ^ 62) ∧ r ⟨rngD 0 j.toNat, fun _ => True⟩ G1 | _ => False
def wRng2 (ta : TA3) : TI3 := fun σ G r => ta σ G fun ds G1 => match ds with | [.int i, .int j] => (-(2 ^ 62) ≤ i ∧ i < 2 ^ 62 ∧ -(2 ^ 62) ≤ j ∧ j < 2 ^ 62) ∧ r ⟨rngD i (j - i).toNat, fun _ => True⟩ G1 | _ => False
section
variable {X : Cx} {a b e o tg : Expr} {es : List Expr} {p pos apos cpos : Pos} {ta : TE3} {ts : TA3}
theorem i_rng1 (hg : Gl X "range") (hm : X.mg "range" = none) (ha : A3 X [a] ts) (hs : starEach [a] X.env = [(false, eval a X.env)] := by rfl) : I3 X tg (.Call (.Name "range" p) [a] [] pos) (wRng1 ts) := weakI (pi_range1 hg hm ha hs) fun _ _ _ => low_wRng1
variable {k : Nat} {f C : Addr} {fd : FuncData} {ps : List Str} {S : Sp3} {dds : List D} {dvs : List V} {ds : List Value} {x m : Str}
theorem e_call (F : FnOk X.prog X.w X.K X.mg X.base CX0 k f fd ps (lowSp X.K S)) (hr : Room k X.A) (hg : Gl X x) (hm : X.mg x = some (.ref f)) (hk : PySem.W.keepIn X.K (.ref f) = true) (hb : Binds X.K fd ps ds) (hd : Vals dvs ds) (hdd : ∀ H, RelDs X.K H dds dvs)
  (ha : A3 X (e :: es) ts) (hdb : (x == ("__debug__" : Str)) = false := by decide) (he : starEach (e :: es) X.env = (false, eval e X.env) :: starEach es X.env := by rfl) (hpl : (backTo pos (starEach es X.env)).any (·.1) = false := by rfl) :
  E3 X (.Call (.Name x p) (e :: es) [] pos) (dCall S dds ts) := weakE (pe_call F hr hg hm hk hb hd pass0 ha hdb he hpl) fun _ _ _ => low_call hdd
theorem e_meth {pl : Sem Bool} (he : E3 X o ta) (c : Cls X.K C) (hm : Meth X.K C m f) (F : FnOk X.prog X.w X.K X.mg X.base CX0 k f fd ps (lowSp X.K S)) (hr : Room k X.A) (hb : Binds X.K fd ps ds) (hd : Vals dvs ds) (hdd : ∀ H, RelDs X.K H dds dvs) (ha : A3 X (e :: es) ts)
  (hse : starEach (e :: es) X.env = (false, eval e X.env) :: starEach es X.env := by rfl) (hpl : (backTo pos (starEach es X.env)).any (·.1) = false := by rfl)
  (ht : eval (.Call (.Attribute o m apos) (e :: es) [] pos) X.env = (do
   let ov ← eval o X.env
   standAt apos.atName
   let (f, first) ← holding [ov] (getMethod ov m pl)
   callWith pos f first (backTo pos (starEach (e :: es) X.env)) (backToKw pos (keywordEach [] X.env))) := by rfl) : E3 X (.Call (.Attribute o m apos) (e :: es) [] pos) (dMeth C m S dds ta ts) :=
 weakE (pe_meth he c hm F hr hb hd pass0 ha hse hpl ht) fun _ _ _ => low_meth hdd
variable {id T : String} {r : C3} {rm : M3} {name : Str}
theorem e_callB (hc : Call3 X (.builtin id) r) (hg : Gl X x) (hm : X.mg x = none) (hv : bootBuiltins x = some (.builtin id)) (ha : A3 X (e :: es) ts) (hn : x ≠ "__name__" := by decide) (hdb : (x == ("__debug__" : Str)) = false := by decide)
  (he : starEach (e :: es) X.env = (false, eval e X.env) :: starEach es X.env := by rfl) (hpl : (backTo pos (starEach es X.env)).any (·.1) = false := by rfl) : E3 X (.Call (.Name x p) (e :: es) [] pos) (dCB r ts) :=
 weakE (pe_callB hc hg hm hv ha hn hdb he hpl) fun _ _ _ => low_cb
theorem e_callTy (hc : Call3 X (.type T) r) (hg : Gl X x) (hm : X.mg x = none) (hv : bootBuiltins x = some (.type T)) (ha : A3 X (e :: es) ts) (hn : x ≠ "__name__" := by decide) (hdb : (x == ("__debug__" : Str)) = false := by decide)
  (he : starEach (e :: es) X.env = (false, eval e X.env) :: starEach es X.env := by rfl) (hpl : (backTo pos (starEach es X.env)).any (·.1) = false := by rfl) : E3 X (.Call (.Name x p) (e :: es) [] pos) (dCB r ts) :=
 weakE (pe_callTy hc hg hm hv ha hn hdb he hpl) fun _ _ _ => low_cb
end
end L3
namespace L3
open PySem PySem.Spec PyProof.Rows L2
set_option maxHeartbeats 4000000
noncomputable def innerD (ix : List (Option Nat)) (σ : DSt) : DSt := ix.map fun o => o.bind fun j => (σ[j]?).bind id
def compL (ok : Gp → Prop) (g : TG3) (tc : TT3) (te : TE3) (p : Addr) (q : DK) : List D → DSt → Gp → Prop
 | [], _, G => ok G ∧ q (.ref p) G
 | x :: r, σ, G => ok G ∧ g x σ G fun σ2 G2 => tc σ2 G2 fun b G3 =>
  if b = true then te σ2 G3 fun d G4 => (match G4 p with | some (.lst ys) => ys.length < sizeLine ∧ compL ok g tc te p q r σ2 (gup G4 p (.lst (ys ++ [d]))) | _ => False)
  else compL ok g tc te p q r σ2 G3
def dComp (ix : List (Option Nat)) (wi : TI3) (g : TG3) (tc : TT3) (te : TE3) : TE3 := fun σ G q => wi σ G fun it G1 => ∀ p, G1 p = none → compL it.ok g tc te p q it.items (innerD ix σ) (gup G1 p (.lst []))
theorem RelSt.inn {K : PySem.W.Frag} {H : Hp} {σd : DSt} {σ : L2.St} (h : RelSt K H σd σ) (ix : List (Option Nat)) : RelSt K H (innerD ix σd) (L2.inner ix σ) := by
 refine ⟨by unfold innerD L2.inner; rw [List.length_map, List.length_map], fun i d e => ?_⟩
 unfold innerD at e
 unfold L2.inner
 rw [List.getElem?_map] at e ⊢
 cases ho : ix[i]? with
 | none => rw [ho] at e; cases e
 | some o =>
  rw [ho] at e
  cases o with
  | none => cases e
  | some j =>
   have e : (σd[j]?).bind id = some d := Option.some.inj e
   have e : σd[j]? = some (some d) := by
    cases hs : σd[j]? with
    | none => rw [hs] at e; cases e
    | some w => rw [hs] at e; cases e; rfl
   obtain ⟨v, hv, r⟩ := h.2 j d e
   exact ⟨v, by show some ((σ[j]?).bind id) = _; rw [hv]; rfl, r⟩
theorem low_comp {K : PySem.W.Frag} {ix : List (Option Nat)} {wi : TI3} {g : TG3} {tc : TT3} {te : TE3} {σ : L2.St} {H : Hp} {Q : VK} (h : lowE K (dComp ix wi g tc te) σ H Q) : tComp ix (lowI K wi) (lowG K g) (lowT K tc) (lowE K te) σ H Q := by
 obtain ⟨σd, G, q, rs, cc, t, f⟩ := h
 refine ⟨σd, G, _, rs, cc, t, fun it J G1 H1 ir c1 l1 t1 => ?_⟩
 intro p hp
 have t1 := t1 p (c1.fresh hp)
 have c2 : Con K (gup G1 p (.lst [])) (upd H1 p (.lst [])) := c1.lstNew hp .nil
 have l2 : Le H1 (upd H1 p (.lst [])) := Le.fresh hp
 refine ⟨fun i m σ' H' => ∃ σd' G', Le (upd H1 p (.lst [])) H' ∧ RelSt K H' σd' σ' ∧ Con K G' H' ∧ i + m = it.items.length ∧ compL it.ok g tc te p q (it.items.drop i) σd' G',
  ⟨it.items.length, innerD ix σd, _, Le.refl _, (rs.le (l1.trans l2)).inn ix, c2, by omega, by rw [List.drop_zero]; exact t1⟩, ?_⟩
 rintro i m σ2 H2 ⟨σd2, G2, l3, rs2, c2, e2, t2⟩
 have l12 : Le H1 H2 := l2.trans l3
 by_cases hi : i < it.items.length
 ·rw [List.drop_eq_getElem_cons hi] at t2
  obtain ⟨ok2, t2⟩ := t2
  refine .inr ⟨ir.go i G2 H2 l12 c2 ok2 hi, fun σ' H' => ∃ σd' G', Le (upd H1 p (.lst [])) H' ∧ RelSt K H' σd' σ' ∧ Con K G' H' ∧ compL it.ok g tc te p q (it.items.drop (i + 1)) σd' G', ?_, ?_⟩
  ·rintro σ' H' ⟨σd', G', a1, a2, a3, a4⟩
   exact ⟨m - 1, by omega, σd', G', a1, a2, a3, by omega, a4⟩
  ·intro x H3 y
   obtain ⟨c3, l4, e, he, r3⟩ := ir.yld i G2 H2 x H3 l12 c2 ok2 hi y
   rw [List.getElem?_eq_getElem hi] at he
   cases he
   refine ⟨_, σd2, G2, _, r3, rs2.le l4, c3, t2, fun σd4 G4 σ4 H4 rs4 c4 l5 t4 => ?_⟩
   refine ⟨σd4, G4, _, rs4, c4, t4, fun b G5 H5 c5 l6 t5 => ?_⟩
   cases b with
   | false =>
    rw [if_neg Bool.false_ne_true] at t5 ⊢
    exact ⟨σd4, G5, l3.trans (l4.trans (l5.trans l6)), rs4.le l6, c5, t5⟩
   | true =>
    rw [if_pos rfl] at t5 ⊢
    refine ⟨σd4, G5, _, rs4.le l6, c5, t5, fun d G6 v H6 r6 c6 l7 t6 => ?_⟩
    split at t6
    ·rename_i ys eg
     obtain ⟨xs, ex, rx⟩ := c6 p _ eg
     have l8 := Le.lst (ys := xs ++ [v]) ex
     exact ⟨xs, ex, by rw [← rx.length]; exact t6.1, σd4, _, l3.trans (l4.trans (l5.trans (l6.trans (l7.trans l8)))), rs4.le (l6.trans (l7.trans l8)), c6.lstSet ex (rx.append (.cons r6 .nil)), t6.2⟩
    ·exact t6.elim
 ·rw [List.drop_eq_nil_of_le (by omega)] at t2
  exact .inl ⟨ir.stop i G2 H2 l12 c2 t2.1 (by omega), f _ _ _ _ RelD.refI c2 (l1.trans l12) t2.2⟩
def dYes : TT3 := fun _ G q => q true G
section
variable {X : Cx} {elt tg iter : Expr} {ifs : List Expr} {scope : Scope} {pos : Pos} {N' : List Str} {ix : List (Option Nat)} {wi : TI3} {g : TG3} {tc : TT3} {te : TE3}
theorem ifs_nil : Ifs3 X [] dYes := weakIfs pifs_nil fun σ H Q h => by
 obtain ⟨σd, G, q, rs, c, t, f⟩ := h
 exact f _ _ _ c (Le.refl H) t
theorem ifs_one {c : Expr} (h : T3 X c tc) : Ifs3 X [c] tc := pifs_one h
theorem e_comp (B : BlkOk X N' ix scope) (hw : I3 X tg iter wi) (hg : ∀ C s H fp, J3 (cxComp X N' scope C s H fp) tg g) (hi : ∀ C s H fp, Ifs3 (cxComp X N' scope C s H fp) ifs tc) (he : ∀ C s H fp, E3 (cxComp X N' scope C s H fp) elt te)
  (hc : X.calm = true := by rfl) (hs : ∀ x, foldedSetIterable iter X.env x = pure x := by intro _; rfl) : E3 X (.ListComp elt [⟨tg, iter, ifs, 0⟩] scope pos) (dComp ix wi g tc te) :=
 weakE (pe_comp (g := lowG X.K g) (tc := lowT X.K tc) (te := lowE X.K te) B hc hw hg hi he hs) fun _ _ _ => low_comp
theorem s_setC (i : Nat) {y : Str} {py spos : Pos} (hN : X.N.Nodup) (B : BlkOk X N' ix scope) (hw : I3 X tg iter wi) (hg : ∀ C s H fp, J3 (cxComp X N' scope C s H fp) tg g) (hi : ∀ C s H fp, Ifs3 (cxComp X N' scope C s H fp) ifs tc) (he : ∀ C s H fp, E3 (cxComp X N' scope C s H fp) elt te)
  (hy : X.N[i]? = some y := by rfl) (hl : Loc X.env.scope y := by first | exact Or.inl rfl | exact Or.inr rfl)
  (hc : X.calm = true := by rfl) (hsw : swapsWith (.ListComp elt [⟨tg, iter, ifs, 0⟩] scope pos) (some (.Name y py)) spos.line X.env = pure true := by rfl)
  (hf : X.fn y = true ∨ X.env.scope.names.lookup y = some .local := by first | exact .inl rfl | exact .inr rfl | assumption)
  (hs : ∀ x, foldedSetIterable iter X.env x = pure x := by intro _; rfl) : S3 X (.Assign [.Name y py] (.ListComp elt [⟨tg, iter, ifs, 0⟩] scope pos) spos) (dAsg (dComp ix wi g tc te) (jName i)) :=
 weakS (ps_setC (g := lowG X.K g) (tc := lowT X.K tc) (te := lowE X.K te) B hc hN hy hl hw hg hi he hsw hf hs) fun D σ H h => by
  obtain ⟨σd, G, d, rs, c, t, f⟩ := h
  exact low_comp (K := X.K) ⟨σd, G, _, rs, c, t, fun x G1 v H1 r1 c1 l1 t1 => f.nx _ _ _ _ ((rs.le l1).set i r1) c1 l1 t1⟩
end
end L3
namespace L3
open PySem PySem.Spec PyProof.Rows L2
set_option maxHeartbeats 4000000
def xAdd : R3 := fun x y G q => match x, y with
 | .int i, .int j => q (.int (i + j)) G
 | .str a, .str b => a.length + b.length ≤ sizeLine ∧ q (.str (a ++ b)) G
 | .tup a, .tup b => a ≠ [] ∧ a.length + b.length ≤ sizeLine ∧ q (.tup (a ++ b)) G
 | .ref a, .ref b => (match G a, G b with
  | some (.lst xs), some (.lst ys) => xs.length + ys.length ≤ sizeLine ∧ ∀ p, G p = none → q (.ref p) (gup G p (.lst (xs ++ ys)))
  | _, _ => False)
 | _, _ => False
def xInt (f : Int → Int → Int) : R3 := fun x y G q => match x, y with | .int i, .int j => q (.int (f i j)) G | _, _ => False
def xIntC (C : Int → Int → Prop) (f : Int → Int → Int) : R3 := fun x y G q => match x, y with | .int i, .int j => C i j ∧ q (.int (f i j)) G | _, _ => False
def xSub : R3 := xInt fun i j => i - j
def xMul : R3 := fun x y G q => match x, y with
 | .int i, .int j => CMul i j ∧ q (.int (i * j)) G
 | .ref a, .int k => (match G a with
  | some (.lst xs) => (-(2 ^ 63) ≤ k ∧ k < 2 ^ 63 ∧ xs.length * k.toNat ≤ sizeLine) ∧ ∀ p, G p = none → q (.ref p) (gup G p (.lst (List.replicate k.toNat xs).flatten))
  | _ => False)
 | _, _ => False
def CDivL (_ j : Int) : Prop := 0 < j ∧ j < 18446744073709551616
def xDiv : R3 := xIntC CDivL fun i j => i / j
def xMod : R3 := xIntC (fun _ j => 0 < j) fun i j => i % j
def xPow : R3 := xIntC CPow fun i j => i ^ j.toNat
def xShl : R3 := xIntC CPow fun i j => i * 2 ^ j.toNat
def xShr : R3 := xIntC (fun _ j => 0 ≤ j) fun i j => i / 2 ^ j.toNat
def xAnd : R3 := xInt Builtin.bitAnd
def xOr : R3 := xInt Builtin.bitOr
def xXor : R3 := xInt Builtin.bitXor
def xLt : R3 := fun x y G q => match x, y with | .int i, .int j => q (.bl (decide (i < j))) G | .str a, .str b => q (.bl (decide (a.cps.toList < b.cps.toList))) G | _, _ => False
def xLe : R3 := fun x y G q => match x, y with | .int i, .int j => q (.bl (decide (i ≤ j))) G | _, _ => False
def xGt : R3 := fun x y G q => match x, y with | .int i, .int j => q (.bl (decide (j < i))) G | _, _ => False
def xGe : R3 := fun x y G q => match x, y with | .int i, .int j => q (.bl (decide (j ≤ i))) G | _, _ => False
section
variable {X : Cx} {K : PySem.W.Frag} {H : Hp}
theorem RelD.int_inv {i : Int} {v : V} (h : RelD K H (.int i) v) : v = .int i := by rw [RelD] at h; exact h
theorem RelD.str_inv {i : Str} {v : V} (h : RelD K H (.str i) v) : v = .str i := by rw [RelD] at h; exact h
theorem RelD.non_inv {v : V} (h : RelD K H .non v) : v = .non := by rw [RelD] at h; exact h
theorem RelD.tup_inv {ds : List D} {v : V} (h : RelD K H (.tup ds) v) : ∃ a xs, v = .ref a ∧ SqT K H a xs ∧ RelDs K H ds xs := by rw [RelD] at h; exact h
theorem RelD.intI {i : Int} : RelD K H (.int i) (.int i) := by rw [RelD]
theorem RelD.strI {i : Str} : RelD K H (.str i) (.str i) := by rw [RelD]
theorem RelD.blI {i : Bool} : RelD K H (.bl i) (.bl i) := by rw [RelD]
theorem RelD.nonI : RelD K H .non .non := by rw [RelD]
theorem x_int {f : Value → Value → Sem Value} {g : Int → Int → Int} (h : OpR X f (rI0 fun i j => .int (g i j))) : Op3 X f (xInt g) := weakOp h fun x y H Q ⟨d, e, G, q, r1, r2, c, t, f⟩ => by
 unfold xInt at t
 split at t
 ·exact ⟨_, _, r1.int_inv, r2.int_inv, f _ _ _ _ RelD.intI c (Le.refl H) t⟩
 ·exact t.elim
theorem x_intC {f : Value → Value → Sem Value} {C : Int → Int → Prop} {g : Int → Int → Int} (h : OpR X f (rI C fun i j => .int (g i j))) : Op3 X f (xIntC C g) := weakOp h fun x y H Q ⟨d, e, G, q, r1, r2, c, t, f⟩ => by
 unfold xIntC at t
 split at t
 ·exact ⟨_, _, r1.int_inv, r2.int_inv, t.1, f _ _ _ _ RelD.intI c (Le.refl H) t.2⟩
 ·exact t.elim
theorem x_sub : Op3 X (binaryOp .Sub) xSub := x_int op_sub
theorem x_mod : Op3 X (binaryOp .Mod) xMod := x_intC op_mod
theorem x_pow : Op3 X (binaryOp .Pow) xPow := x_intC op_pow
theorem x_add : Op3 X (binaryOp .Add) xAdd := weakOp (op_add.or (op_add_str.or (op_catT.or op_cat))) <| by
 rintro x y H Q ⟨d, e, G, q, r1, r2, c, t, f⟩
 unfold xAdd at t
 split at t
 ·exact .inl ⟨_, _, r1.int_inv, r2.int_inv, f _ _ _ _ RelD.intI c (Le.refl H) t⟩
 ·exact .inr (.inl ⟨_, _, r1.str_inv, r2.str_inv, t.1, f _ _ _ _ RelD.strI c (Le.refl H) t.2⟩)
 ·obtain ⟨a, xs, rfl, s1, q1⟩ := r1.tup_inv
  obtain ⟨b, ys, rfl, s2, q2⟩ := r2.tup_inv
  refine .inr (.inr (.inl ⟨a, b, xs, ys, rfl, rfl, s1, s2, fun z => t.1 ?_, by rw [← q1.length, ← q2.length]; exact t.2.1, fun z => ?_, fun _ p hp => ?_⟩))
  ·have := q1.length; rw [z] at this; exact List.eq_nil_of_length_eq_zero this
  ·refine f (.tup _) G (.ref a) _ ?_ c (Le.refl _) t.2.2
   rw [RelD]
   subst z
   have e : ∀ {bs : List D}, RelDs X.K H bs [] → bs = [] := fun h => List.eq_nil_of_length_eq_zero h.length
   rw [e q2, List.append_nil]
   exact ⟨a, _, rfl, s1, q1⟩
  ·refine f (.tup _) G (.ref p) _ ?_ (c.side hp) (Le.fresh hp) t.2.2
   rw [RelD]
   exact ⟨p, _, rfl, SqT.of upd_same, RelDs.le (Le.fresh hp) (q1.append q2)⟩
 ·rename_i a b
  split at t
  ·rename_i xs ys e1 e2
   obtain ⟨vs, h1, q1⟩ := c _ _ e1
   obtain ⟨ws, h2, q2⟩ := c _ _ e2
   exact .inr (.inr (.inr ⟨a, b, vs, ws, r1.ref_inv, r2.ref_inv, h1, h2, by rw [← q1.length, ← q2.length]; exact t.1, fun p hp => f _ _ _ _ RelD.refI (c.lstNew hp (q1.append q2)) (Le.fresh hp) (t.2 p (c.fresh hp))⟩))
  ·exact t.elim
 ·exact t.elim
theorem x_mul : Op3 X (binaryOp .Mult) xMul := weakOp (op_mul.or op_rep) <| by
 rintro x y H Q ⟨d, e, G, q, r1, r2, c, t, f⟩
 unfold xMul at t
 split at t
 ·exact .inl ⟨_, _, r1.int_inv, r2.int_inv, t.1, f _ _ _ _ RelD.intI c (Le.refl H) t.2⟩
 ·rename_i a k
  split at t
  ·rename_i xs e1
   obtain ⟨vs, h1, q1⟩ := c _ _ e1
   refine .inr ⟨a, k, vs, r1.ref_inv, r2.int_inv, h1, t.1.1, t.1.2.1, by rw [← q1.length]; exact t.1.2.2, ?_⟩
   intro p hp
   exact f _ _ _ _ RelD.refI (c.lstNew hp (q1.rep _)) (Le.fresh hp) (t.2 p (c.fresh hp))
  ·exact t.elim
 ·exact t.elim
theorem x_cmpI {f : Value → Value → Sem Value} {g : Int → Int → Bool} (h : OpR X f (rI0 fun i j => .bl (g i j))) : Op3 X f (fun x y G q => match x, y with | .int i, .int j => q (.bl (g i j)) G | _, _ => False) := weakOp h fun x y H Q ⟨d, e, G, q, r1, r2, c, t, f⟩ => by
 dsimp only at t
 split at t
 ·exact ⟨_, _, r1.int_inv, r2.int_inv, f _ _ _ _ RelD.blI c (Le.refl H) t⟩
 ·exact t.elim
theorem x_le : Op3 X (compareOp .LtE) xLe := x_cmpI op_le
theorem x_gt : Op3 X (compareOp .Gt) xGt := x_cmpI op_gt
theorem x_ge : Op3 X (compareOp .GtE) xGe := x_cmpI op_ge
theorem x_lt : Op3 X (compareOp .Lt) xLt := weakOp (op_lt.or op_lt_str) <| by
 rintro x y H Q ⟨d, e, G, q, r1, r2, c, t, f⟩
 unfold xLt at t
 split at t
 ·exact .inl ⟨_, _, r1.int_inv, r2.int_inv, f _ _ _ _ RelD.blI c (Le.refl H) t⟩
 ·exact .inr ⟨_, _, r1.str_inv, r2.str_inv, f _ _ _ _ RelD.blI c (Le.refl H) t⟩
 ·exact t.elim
theorem RelD.not_non {d : D} {v : V} (h : RelD K H d v) (n : d ≠ .non) : v ≠ .non := by
 cases d with
 | non => exact absurd rfl n
 | bl _ => rw [h.bl_inv]; exact fun z => nomatch z
 | int _ => rw [h.int_inv]; exact fun z => nomatch z
 | str _ => rw [h.str_inv]; exact fun z => nomatch z
 | ref _ => rw [h.ref_inv]; exact fun z => nomatch z
 | ty _ => rw [RelD] at h; rw [h]; exact fun z => nomatch z
 | tup _ => obtain ⟨a, xs, e, _⟩ := h.tup_inv; rw [e]; exact fun z => nomatch z
def xNeg : U3 := fun x G q => match x with | .int i => q (.int (-i)) G | _ => False
def xIx : R3 := fun x y G q => match x, y with
 | .tup ds, .int i => (match atI ds i with | some d => q d G | none => False)
 | .ref a, .int i => (match seqOf (G a) with | some ds => (match atI ds i with | some d => q d G | none => False) | none => False)
 | .str z, .int i => z.length ≤ sizeLine ∧ (match atI z.cps.toList i with | some c => q (.str ⟨#[c]⟩) G | none => False)
 | _, _ => False
theorem RelDs.atI {ds : List D} {xs : List V} {i : Int} {d : D} (h : RelDs K H ds xs) (e : L2.atI ds i = some d) : ∃ v, L2.atI xs i = some v ∧ RelD K H d v := by
 unfold L2.atI at e ⊢
 rw [← h.length]
 cases hj : ixN ds.length i with
 | none => rw [hj] at e; cases e
 | some j =>
  rw [hj] at e
  exact h.get e
theorem x_ix : IxR X (lowR X.K xIx) := weakIx ix_seq <| by
 rintro x y H Q ⟨d, e, G, q, r1, r2, c, t, f⟩
 unfold xIx at t
 split at t
 ·rename_i ds i
  obtain ⟨a, xs, rfl, s1, q1⟩ := r1.tup_inv
  split at t
  ·rename_i w ew
   obtain ⟨v, hv, rv⟩ := q1.atI ew
   exact .inr (.inl ⟨a, xs, i, v, rfl, r2.int_inv, s1, hv, f _ _ _ _ rv c (Le.refl H) t⟩)
  ·exact t.elim
 ·rename_i a i
  split at t
  ·rename_i ds es
   obtain ⟨xs, s1, q1⟩ := sql_of c es
   split at t
   ·rename_i w ew
    obtain ⟨v, hv, rv⟩ := q1.atI ew
    exact .inl ⟨a, xs, i, v, r1.ref_inv, r2.int_inv, s1, hv, f _ _ _ _ rv c (Le.refl H) t⟩
   ·exact t.elim
  ·exact t.elim
 ·rename_i z i
  obtain ⟨hz, t⟩ := t
  split at t
  ·rename_i w ew
   exact .inr (.inr ⟨z, i, w, r1.str_inv, r2.int_inv, hz, ew, f _ _ _ _ RelD.strI c (Le.refl H) t⟩)
  ·exact t.elim
 ·exact t.elim
noncomputable def cutD {α : Type} (xs : List α) (lo hi : Option Int) : List α := (xs.drop (HT.sIx xs.length 0 lo)).take (HT.sIx xs.length xs.length hi - HT.sIx xs.length 0 lo)
theorem RelDs.cut {ds : List D} {xs : List V} (h : RelDs K H ds xs) (lo hi : Option Int) : RelDs K H (cutD ds lo hi) (cutV xs lo hi) := by
 unfold cutD cutV
 rw [h.length]
 exact (h.drop _).take _
def xSet : TSet3 := fun o i v G q => match o, i with
 | .ref a, .int k => (match G a with | some (.lst ds) => (match ixN ds.length k with | some j => q (gup G a (.lst (ds.set j v))) | none => False) | _ => False)
 | _, _ => False
theorem x_set : PSet X (lowSet X.K xSet) := weakSet set_list <| by
 rintro o i v H Q ⟨d, e, x, G, q, r1, r2, r3, c, t, f⟩
 unfold xSet at t
 split at t
 ·rename_i a k
  split at t
  ·rename_i ds e1
   obtain ⟨xs, h1, q1⟩ := c _ _ e1
   split at t
   ·rename_i j ej
    exact ⟨a, xs, k, j, r1.ref_inv, r2.int_inv, h1, by rw [← q1.length]; exact ej, f _ _ (c.lstSet h1 (q1.set r3 j)) (Le.lst h1) t⟩
   ·exact t.elim
  ·exact t.elim
 ·exact t.elim
end
end L3
namespace L3
open PySem PySem.Spec PyProof.Rows L2
set_option maxHeartbeats 4000000
inductive Sn where
 | non | bl (b : Bool) | int (i : Int) | str (x : Str) | tup (xs : List Sn) | lst (xs : List Sn)
noncomputable def snap (G : Gp) : Nat → D → Option Sn
 | _, .non => some .non
 | _, .bl b => some (.bl b)
 | _, .int i => some (.int i)
 | _, .str x => some (.str x)
 | n + 1, .tup ds => (ds.mapM (snap G n)).map .tup
 | n + 1, .ref a => (seqOf (G a)).bind fun ds => (ds.mapM (snap G n)).map .lst
 | _, _ => none
noncomputable def flatS : Sn → Bool
 | .non => true | .bl _ => true | .int _ => true | .str _ => true | _ => false
noncomputable def eqF : Sn → Sn → Bool
 | .non, .non => true
 | .bl a, .bl b => a == b
 | .bl a, .int b => (if a then 1 else 0) == b
 | .int a, .bl b => a == (if b then 1 else 0)
 | .int a, .int b => a == b
 | .str a, .str b => a == b
 | _, _ => false
noncomputable def eqN : Nat → Sn → Sn → Option Bool
 | n + 1, .tup xs, .tup ys => if xs.length = ys.length then ((xs.zip ys).mapM fun p => eqN n p.1 p.2).map fun bs => bs.all id else none
 | n + 1, .lst xs, .lst ys => if xs.length = ys.length then ((xs.zip ys).mapM fun p => eqN n p.1 p.2).map fun bs => bs.all id else some false
 | _, x, y => if (flatS x && flatS y) = true then some (eqF x y) else none
theorem mapM_some {α β : Type} {f : α → Option β} : ∀ {xs : List α} {ys : List β}, xs.mapM f = some ys → xs.length = ys.length ∧ ∀ (i : Nat) x, xs[i]? = some x → ∃ y, ys[i]? = some y ∧ f x = some y
 | [], ys, h => by
  have : ys = [] := by simpa using h.symm
  subst this
  exact ⟨rfl, fun i x e => by simp at e⟩
 | x :: xs, ys, h => by
  rw [List.mapM_cons] at h
  cases hx : f x with
  | none => rw [hx] at h; cases h
  | some y =>
   rw [hx] at h
   cases hr : xs.mapM f with
   | none => rw [hr] at h; cases h
   | some r =>
    rw [hr] at h
    have e : y :: r = ys := Option.some.inj h
    subst e
    obtain ⟨h1, h2⟩ := mapM_some hr
    refine ⟨by simp [h1], fun i z e => ?_⟩
    cases i with
    | zero => cases (show x = z from Option.some.inj e); exact ⟨y, rfl, hx⟩
    | succ i => exact h2 i z e
theorem all_of {bs : List Bool} {e : Nat → Bool} {n : Nat} (hl : bs.length = n) (h : ∀ (i : Nat) b, bs[i]? = some b → e i = b) : (List.range n).all e = bs.all id := by
 rw [Bool.eq_iff_iff, List.all_eq_true, List.all_eq_true]
 constructor
 ·intro q b hb
  obtain ⟨i, hi, eb⟩ := List.mem_iff_getElem.mp hb
  have := q i (List.mem_range.mpr (by omega))
  rw [h i b (by rw [List.getElem?_eq_getElem hi, eb])] at this
  exact this
 ·intro q i hi
  have hi := List.mem_range.mp hi
  rw [h i bs[i] (List.getElem?_eq_getElem (by omega))]
  exact q _ (List.getElem_mem _)
section
variable {X : Cx} {pins : List (Addr × Obj)} {σ : L2.St} {H : Hp} {s : Shared} {G : Gp}
theorem flat_of {n : Nat} {d : D} {sd : Sn} {x : V} {u : Value} (h : snap G n d = some sd) (fl : flatS sd = true) (r : RelD X.K H d x) : flatV x = true ∧ ∀ (e : D) (se : Sn) (y : V), snap G n e = some se → flatS se = true → RelD X.K H e y → eqV x y = eqF sd se := by
  have key : ∀ (d : D) (sd : Sn) (x : V), snap G n d = some sd → flatS sd = true → RelD X.K H d x → (sd = .non ∧ x = .non) ∨ (∃ b, sd = .bl b ∧ x = .bl b) ∨ (∃ i, sd = .int i ∧ x = .int i) ∨ (∃ z, sd = .str z ∧ x = .str z) := by
    intro d sd x h fl r
    cases d with
    | non => have e : Sn.non = sd := by cases n <;> exact Option.some.inj h
             subst e; exact .inl ⟨rfl, r.non_inv⟩
    | bl b => have e : Sn.bl b = sd := by cases n <;> exact Option.some.inj h
              subst e; exact .inr (.inl ⟨b, rfl, r.bl_inv⟩)
    | int b => have e : Sn.int b = sd := by cases n <;> exact Option.some.inj h
               subst e; exact .inr (.inr (.inl ⟨b, rfl, r.int_inv⟩))
    | str b => have e : Sn.str b = sd := by cases n <;> exact Option.some.inj h
               subst e; exact .inr (.inr (.inr ⟨b, rfl, r.str_inv⟩))
    | tup ds =>
      cases n with
      | zero => cases h
      | succ n =>
        have h : (ds.mapM (snap G n)).map Sn.tup = some sd := h
        obtain ⟨a, _, rfl⟩ := Option.map_eq_some_iff.mp h
        cases fl
    | ref a =>
      cases n with
      | zero => cases h
      | succ n =>
        have h : ((seqOf (G a)).bind fun ds => (ds.mapM (snap G n)).map Sn.lst) = some sd := h
        obtain ⟨ds, _, h⟩ := Option.bind_eq_some_iff.mp h
        obtain ⟨a, _, rfl⟩ := Option.map_eq_some_iff.mp h
        cases fl
    | ty t => cases n <;> cases h
  rcases key d sd x h fl r with ⟨rfl, rfl⟩ | ⟨b, rfl, rfl⟩ | ⟨b, rfl, rfl⟩ | ⟨b, rfl, rfl⟩ <;> refine ⟨rfl, fun e se y h' fl' r' => ?_⟩ <;>
    rcases key e se y h' fl' r' with ⟨rfl, rfl⟩ | ⟨c, rfl, rfl⟩ | ⟨c, rfl, rfl⟩ | ⟨c, rfl, rfl⟩ <;> rfl
theorem snap_tup {n : Nat} {ds : List D} {sd : Sn} (h : snap G n (.tup ds) = some sd) : ∃ m ss, n = m + 1 ∧ sd = .tup ss ∧ ds.mapM (snap G m) = some ss := by
 cases n with
 | zero => cases h
 | succ n =>
  obtain ⟨ss, h1, rfl⟩ := Option.map_eq_some_iff.mp (show (ds.mapM (snap G n)).map Sn.tup = some sd from h)
  exact ⟨n, ss, rfl, rfl, h1⟩
theorem snap_ref {n : Nat} {a : Addr} {sd : Sn} (h : snap G n (.ref a) = some sd) : ∃ m ds ss, n = m + 1 ∧ sd = .lst ss ∧ seqOf (G a) = some ds ∧ ds.mapM (snap G m) = some ss := by
 cases n with
 | zero => cases h
 | succ n =>
  obtain ⟨ds, h0, h⟩ := Option.bind_eq_some_iff.mp (show ((seqOf (G a)).bind fun ds => (ds.mapM (snap G n)).map Sn.lst) = some sd from h)
  obtain ⟨ss, h1, rfl⟩ := Option.map_eq_some_iff.mp h
  exact ⟨n, ds, ss, rfl, rfl, h0, h1⟩
theorem eqN_flat {n : Nat} {x y : Sn} (hx : flatS x = true) : eqN n x y = if (flatS x && flatS y) = true then some (eqF x y) else none := by
 cases x with
 | tup _ => cases hx
 | lst _ => cases hx
 | non => cases n <;> rfl
 | bl _ => cases n <;> rfl
 | int _ => cases n <;> rfl
 | str _ => cases n <;> rfl
theorem eqN_some {n : Nat} {x y : Sn} {b : Bool} (h : eqN n x y = some b) (fl : ¬ (flatS x && flatS y) = true) : (∃ m xs ys, n = m + 1 ∧ x = .tup xs ∧ y = .tup ys) ∨ (∃ m xs ys, n = m + 1 ∧ x = .lst xs ∧ y = .lst ys) := by
 unfold eqN at h
 split at h
 ·exact .inl ⟨_, _, _, rfl, rfl, rfl⟩
 ·exact .inr ⟨_, _, _, rfl, rfl, rfl⟩
 ·rw [if_neg fl] at h; cases h
theorem snap_isT {n : Nat} {d : D} {ss : List Sn} (h : snap G n d = some (.tup ss)) : ∃ ds, d = .tup ds := by
 cases d with
 | tup ds => exact ⟨ds, rfl⟩
 | ref a => obtain ⟨_, _, _, _, e', _⟩ := snap_ref h; cases e'
 | _ => cases n <;> cases h
theorem snap_isL {n : Nat} {d : D} {ss : List Sn} (h : snap G n d = some (.lst ss)) : ∃ a, d = .ref a := by
 cases d with
 | ref a => exact ⟨a, rfl⟩
 | tup ds => obtain ⟨_, _, _, e', _⟩ := snap_tup h; cases e'
 | _ => cases n <;> cases h
theorem same_flat {n : Nat} {d e : D} {x : V} {sd se : Sn} {b : Bool} (r1 : RelD X.K H d x) (r2 : RelD X.K H e x) (h1 : snap G n d = some sd) (h2 : snap G n e = some se) (hb : eqN n sd se = some b) (fl : (flatS sd && flatS se) = true) : b = true := by
 rw [Bool.and_eq_true] at fl
 have z := hb
 rw [eqN_flat fl.1, if_pos (by rw [fl.1, fl.2]; rfl)] at z
 obtain ⟨fx, k⟩ := flat_of (u := Value.none) h1 fl.1 r1
 rw [← Option.some.inj z, ← k e se x h2 fl.2 r2]
 cases x with
 | non => rfl
 | bl b => exact beq_self_eq_true b
 | int i => exact beq_self_eq_true i
 | str w => exact beq_self_eq_true w
 | _ => cases fx
theorem same_eq (I : Inv X pins σ H s) (c : Con X.K G H) : ∀ (n : Nat) (d e : D) (x : V) (sd se : Sn) (b : Bool), RelD X.K H d x → RelD X.K H e x → snap G n d = some sd → snap G n e = some se → eqN n sd se = some b → b = true := by
 intro n
 induction n with
 | zero =>
  intro d e x sd se b r1 r2 h1 h2 hb
  by_cases fl : (flatS sd && flatS se) = true
  ·exact same_flat r1 r2 h1 h2 hb fl
  ·rcases eqN_some hb fl with ⟨_, _, _, z, _⟩ | ⟨_, _, _, z, _⟩ <;> cases z
 | succ m ih =>
  intro d e x sd se b r1 r2 h1 h2 hb
  by_cases fl : (flatS sd && flatS se) = true
  ·exact same_flat r1 r2 h1 h2 hb fl
  have items : ∀ (ds es : List D) (xs : List V) (ss ts : List Sn) (bs : List Bool), RelDs X.K H ds xs → RelDs X.K H es xs → ds.mapM (snap G m) = some ss → es.mapM (snap G m) = some ts → ((ss.zip ts).mapM fun p => eqN m p.1 p.2) = some bs → bs.all id = true := by
   intro ds es xs ss ts bs q1 q2 k1 k2 kb
   rw [List.all_eq_true]
   intro b hb
   obtain ⟨i, hi, eb⟩ := List.mem_iff_getElem.mp hb
   obtain ⟨l1, f1⟩ := mapM_some k1
   obtain ⟨l2, f2⟩ := mapM_some k2
   obtain ⟨l3, f3⟩ := mapM_some kb
   have hz : (ss.zip ts).length = min ss.length ts.length := List.length_zip
   have e1 := q1.length
   have e2 := q2.length
   have hds : i < ds.length := by omega
   have hes : i < es.length := by omega
   obtain ⟨y1, g1, s1⟩ := f1 i ds[i] (List.getElem?_eq_getElem hds)
   obtain ⟨y2, g2, s2⟩ := f2 i es[i] (List.getElem?_eq_getElem hes)
   have hzip : (ss.zip ts)[i]? = some (y1, y2) := by rw [List.getElem?_zip_eq_some]; exact ⟨g1, g2⟩
   obtain ⟨b', g3, s3⟩ := f3 i _ hzip
   rw [List.getElem?_eq_getElem hi, eb] at g3
   cases g3
   obtain ⟨z1, hz1, rz1⟩ := q1.get (List.getElem?_eq_getElem hds)
   obtain ⟨z2, hz2, rz2⟩ := q2.get (List.getElem?_eq_getElem hes)
   rw [hz1] at hz2; cases hz2
   exact ih ds[i] es[i] z1 y1 y2 b rz1 rz2 s1 s2 s3
  rcases eqN_some hb fl with ⟨m', ss, ts, em, rfl, rfl⟩ | ⟨m', ss, ts, em, rfl, rfl⟩
  ·cases em
   obtain ⟨ds, rfl⟩ := snap_isT h1
   obtain ⟨es, rfl⟩ := snap_isT h2
   obtain ⟨_, _, em, ez, k1⟩ := snap_tup h1
   cases em
   cases ez
   obtain ⟨_, _, em, ez, k2⟩ := snap_tup h2
   cases em
   cases ez
   obtain ⟨a, xs, rfl, q1, rr1⟩ := r1.tup_inv
   obtain ⟨a', ys, e', q2, rr2⟩ := r2.tup_inv
   cases e'
   have := I.tuple_inj q1 q2
   subst this
   unfold eqN at hb
   split at hb
   ·obtain ⟨bs, kb, rfl⟩ := Option.map_eq_some_iff.mp hb
    exact items ds es xs ss ts bs rr1 rr2 k1 k2 kb
   ·cases hb
  ·cases em
   obtain ⟨a, rfl⟩ := snap_isL h1
   obtain ⟨a', rfl⟩ := snap_isL h2
   cases r1.ref_inv
   have e' := r2.ref_inv
   cases e'
   obtain ⟨_, ds, _, em, ez, hs1, k1⟩ := snap_ref h1
   cases em
   cases ez
   obtain ⟨_, es, _, em, ez, hs2, k2⟩ := snap_ref h2
   cases em
   cases ez
   rw [hs1] at hs2
   cases hs2
   rw [k1] at k2
   cases k2
   obtain ⟨xs, _, rr⟩ := sql_of c hs1
   unfold eqN at hb
   split at hb
   ·obtain ⟨bs, kb, rfl⟩ := Option.map_eq_some_iff.mp hb
    exact items ds ds xs ss ss bs rr rr k1 k1 kb
   ·rename_i h; exact absurd rfl h
structure SeqPair (G : Gp) (K : PySem.W.Frag) (H : Hp) (m : Nat) (its its2 : List Value) (bs : List Bool) : Prop where
 len : its.length = its2.length
 bl : bs.length = its.length
 at_ : ∀ (j : Nat) (h1 : j < its.length) (h2 : j < its2.length) (h3 : j < bs.length), ∃ d e x y sd se, RelD K H d x ∧ RelV x its[j] ∧ RelD K H e y ∧ RelV y its2[j] ∧ snap G m d = some sd ∧ snap G m e = some se ∧ eqN m sd se = some bs[j]
theorem seqPair {m : Nat} {ds es : List D} {xs ys : List V} {its its2 : List Value} {ss ts : List Sn} {bs : List Bool} (q1 : RelDs X.K H ds xs) (v1 : Vals xs its) (q2 : RelDs X.K H es ys) (v2 : Vals ys its2)
  (k1 : ds.mapM (snap G m) = some ss) (k2 : es.mapM (snap G m) = some ts) (hl : ss.length = ts.length) (kb : ((ss.zip ts).mapM fun p => eqN m p.1 p.2) = some bs) : SeqPair G X.K H m its its2 bs := by
 obtain ⟨l1, f1⟩ := mapM_some k1
 obtain ⟨l2, f2⟩ := mapM_some k2
 obtain ⟨l3, f3⟩ := mapM_some kb
 have hz : (ss.zip ts).length = min ss.length ts.length := List.length_zip
 have e1 := q1.length
 have e2 := q2.length
 have e3 := v1.length
 have e4 := v2.length
 refine ⟨by omega, by omega, fun j h1 h2 h3 => ?_⟩
 have hds : j < ds.length := by omega
 have hes : j < es.length := by omega
 obtain ⟨y1, g1, s1⟩ := f1 j ds[j] (List.getElem?_eq_getElem hds)
 obtain ⟨y2, g2, s2⟩ := f2 j es[j] (List.getElem?_eq_getElem hes)
 have hzip : (ss.zip ts)[j]? = some (y1, y2) := by rw [List.getElem?_zip_eq_some]; exact ⟨g1, g2⟩
 obtain ⟨b', g3, s3⟩ := f3 j _ hzip
 rw [List.getElem?_eq_getElem h3] at g3
 cases g3
 obtain ⟨z1, hz1, rz1⟩ := q1.get (List.getElem?_eq_getElem hds)
 obtain ⟨z2, hz2, rz2⟩ := q2.get (List.getElem?_eq_getElem hes)
 obtain ⟨u1, hu1, ru1⟩ := v1.get hz1
 obtain ⟨u2, hu2, ru2⟩ := v2.get hz2
 rw [List.getElem?_eq_getElem h1] at hu1
 rw [List.getElem?_eq_getElem h2] at hu2
 cases hu1
 cases hu2
 exact ⟨ds[j], es[j], z1, z2, y1, y2, rz1, ru1, rz2, ru2, s1, s2, s3⟩
end
end L3
namespace L3
open PySem PySem.Spec PyProof.Rows L2
set_option maxHeartbeats 4000000
section
variable {X : Cx} {pins : List (Addr × Obj)} {σ : L2.St} {H : Hp} {s : Shared} {G : Gp}
theorem eq_flat (I : Inv X pins σ H s) {n : Nat} {A : Around} {d e : D} {x y : V} {u v : Value} {sd se : Sn} {b : Bool} (r1 : RelD X.K H d x) (v1 : RelV x u) (r2 : RelD X.K H e y) (v2 : RelV y v) (h1 : snap G n d = some sd) (h2 : snap G n e = some se) (hb : eqN n sd se = some b) (fl : (flatS sd && flatS se) = true) : SeqAt.EqAt A s u v b := by
 rw [Bool.and_eq_true] at fl
 have hb' : b = eqF sd se := by
  have z := hb
  rw [eqN_flat fl.1, if_pos (by rw [fl.1, fl.2]; rfl)] at z
  exact (Option.some.inj z).symm
 obtain ⟨fx, k⟩ := flat_of (u := u) h1 fl.1 r1
 obtain ⟨fy, _⟩ := flat_of (u := v) h2 fl.2 r2
 rw [hb', ← k e se y h2 fl.2 r2]
 exact eqAt_V v1 v2 fx fy
theorem eq_at (I : Inv X pins σ H s) (c : Con X.K G H) : ∀ (n : Nat) (A : Around) (d e : D) (x y : V) (u v : Value) (sd se : Sn) (b : Bool), RelD X.K H d x → RelV x u → RelD X.K H e y → RelV y v → snap G n d = some sd → snap G n e = some se → eqN n sd se = some b → A.units + n < cLine → SeqAt.EqAt A s u v b := by
 intro n
 induction n with
 | zero =>
  intro A d e x y u v sd se b r1 v1 r2 v2 h1 h2 hb hu
  by_cases fl : (flatS sd && flatS se) = true
  ·exact eq_flat I r1 v1 r2 v2 h1 h2 hb fl
  ·rcases eqN_some hb fl with ⟨_, _, _, z, _⟩ | ⟨_, _, _, z, _⟩ <;> cases z
 | succ m ih =>
  intro A d e x y u v sd se b r1 v1 r2 v2 h1 h2 hb hu
  by_cases fl : (flatS sd && flatS se) = true
  ·exact eq_flat I r1 v1 r2 v2 h1 h2 hb fl
  ·have inner : ∀ (its its2 : List Value) (bs : List Bool), SeqPair G X.K H m its its2 bs → ∀ j (h1 : j < its.toArray.size) (h2 : j < its2.toArray.size), SeqAt.EqAt A.in1 s its.toArray[j] its2.toArray[j] ((bs[j]?).getD true) := by
    intro its its2 bs P j h1 h2
    have h1' : j < its.length := by simpa using h1
    have h2' : j < its2.length := by simpa using h2
    have h3' : j < bs.length := by rw [P.bl]; exact h1'
    obtain ⟨d', e', x', y', sd', se', a1, a2, a3, a4, a5, a6, a7⟩ := P.at_ j h1' h2' h3'
    rw [List.getElem?_eq_getElem h3']
    have hu' : A.in1.units + m < cLine := by
     have : A.in1.units = A.units + 1 := rfl
     omega
    have := ih A.in1 d' e' x' y' _ _ sd' se' _ a1 a2 a3 a4 a5 a6 a7 hu'
    simpa using this
   rcases eqN_some hb fl with ⟨m', ss, ts, em, rfl, rfl⟩ | ⟨m', ss, ts, em, rfl, rfl⟩
   ·cases em
    obtain ⟨ds, rfl⟩ := snap_isT h1
    obtain ⟨es, rfl⟩ := snap_isT h2
    obtain ⟨_, _, em, ez, k1⟩ := snap_tup h1
    cases em
    cases ez
    obtain ⟨_, _, em, ez, k2⟩ := snap_tup h2
    cases em
    cases ez
    obtain ⟨a, xs, rfl, q1, rr1⟩ := r1.tup_inv
    obtain ⟨a', ys, rfl, q2, rr2⟩ := r2.tup_inv
    cases v1
    cases v2
    by_cases haa : a = a'
    ·subst haa
     rw [same_eq I c (m + 1) (.tup ds) (.tup es) (.ref a) _ _ b r1 r2 h1 h2 hb]
     exact SeqAt.EqAt.same _
    ·unfold eqN at hb
     split at hb
     ·rename_i hlen
      obtain ⟨bs, kb, rfl⟩ := Option.map_eq_some_iff.mp hb
      obtain ⟨its, w1, t1, _⟩ := I.tuple q1
      obtain ⟨its2, w2, t2, _⟩ := I.tuple q2
      have P := seqPair rr1 w1 rr2 w2 k1 k2 hlen kb
      have R := SeqAt.RcAt.tuples (A := A) (s := s) (e := fun j => (bs[j]?).getD true) (show s.heap.IsTuple a its.toArray from t1) (show s.heap.IsTuple a' its2.toArray from t2) (by omega) (inner its its2 bs P)
      have e1 : ((List.range (min its.toArray.size its2.toArray.size)).all (fun j => (bs[j]?).getD true) && its.toArray.size == its2.toArray.size) = bs.all id := by
       have el : its.toArray.size = its2.toArray.size := by simpa using P.len
       rw [el, Nat.min_self, beq_self_eq_true, Bool.and_true]
       exact all_of (by rw [← el]; simpa using P.bl) fun i b hb => by rw [hb]; rfl
      rw [e1] at R
      exact SeqAt.EqAt.of_refs haa R
     ·cases hb
   ·cases em
    obtain ⟨a, rfl⟩ := snap_isL h1
    obtain ⟨a', rfl⟩ := snap_isL h2
    obtain ⟨_, ds, _, em, ez, hs1, k1⟩ := snap_ref h1
    cases em
    cases ez
    obtain ⟨_, es, _, em, ez, hs2, k2⟩ := snap_ref h2
    cases em
    cases ez
    cases r1.ref_inv
    cases r2.ref_inv
    cases v1
    cases v2
    by_cases haa : a = a'
    ·subst haa
     rw [same_eq I c (m + 1) (.ref a) (.ref a) (.ref a) _ _ b r1 r2 h1 h2 hb]
     exact SeqAt.EqAt.same _
    ·obtain ⟨xs, q1, rr1⟩ := sql_of c hs1
     obtain ⟨ys, q2, rr2⟩ := sql_of c hs2
     obtain ⟨its, w1, t1, _⟩ := I.list q1
     obtain ⟨its2, w2, t2, _⟩ := I.list q2
     unfold eqN at hb
     split at hb
     ·rename_i hlen
      obtain ⟨bs, kb, rfl⟩ := Option.map_eq_some_iff.mp hb
      have P := seqPair rr1 w1 rr2 w2 k1 k2 hlen kb
      have el : its.toArray.size = its2.toArray.size := by simpa using P.len
      have R := SeqAt.RcAt.lists (A := A) (s := s) (e := fun j => (bs[j]?).getD true) t1.isList t2.isList el (by omega) (inner its its2 bs P)
      have e1 : ((List.range its.toArray.size).all (fun j => (bs[j]?).getD true)) = bs.all id :=
       all_of (by simpa using P.bl) fun i b hb => by rw [hb]; rfl
      rw [e1] at R
      exact SeqAt.EqAt.of_refs haa R
     ·rename_i hlen
      cases hb
      have n1 := (mapM_some k1).1
      have n2 := (mapM_some k2).1
      have m1 := rr1.length
      have m2 := rr2.length
      have m3 := w1.length
      have m4 := w2.length
      exact SeqAt.EqAt.of_refs haa (SeqAt.RcAt.lists_lengths t1.isList t2.isList (by simp; omega) (by omega))
end
def rEqD (K : PySem.W.Frag) (neg : Bool) : R2 := fun x y H Q => ∃ (d e : D) (G : Gp) (n : Nat) (sd se : Sn) (b : Bool), RelD K H d x ∧ RelD K H e y ∧ Con K G H ∧ n ≤ 40 ∧ snap G n d = some sd ∧ snap G n e = some se ∧ eqN n sd se = some b ∧ flatS sd = false ∧ Q (.bl (if neg then !b else b)) H
section
variable {X : Cx} {k : Nat}
theorem op_eqD (hr : Room k X.A) : OpR X (compareOp .Eq) (rEqD X.K false) := by
  intro pins s σ H x y v u Q I rx ry h
  obtain ⟨d, e, G, n, sd, se, b, r1, r2, c, hn, h1, h2, hb, fl, q⟩ := h
  have hu := hr.units
  have fin : EP X pins σ Q (.bool b) s := ⟨.bl b, H, I, rfl, q⟩
  rcases eqN_some hb (fun z => by rw [fl] at z; cases z) with ⟨m, ss, ts, rfl, rfl, rfl⟩ | ⟨m, ss, ts, rfl, rfl, rfl⟩
  · obtain ⟨ds, rfl⟩ := snap_isT h1
    obtain ⟨es, rfl⟩ := snap_isT h2
    · · · obtain ⟨_, ss', em, ez, k1⟩ := snap_tup h1
          cases em
          cases ez
          obtain ⟨m', ts', em, es', k2⟩ := snap_tup h2
          cases em
          cases es'
          obtain ⟨a, xs, rfl, q1, rr1⟩ := r1.tup_inv
          obtain ⟨a', ys, rfl, q2, rr2⟩ := r2.tup_inv
          cases rx
          cases ry
          unfold eqN at hb
          split at hb
          · rename_i hlen
            obtain ⟨bs, kb, rfl⟩ := Option.map_eq_some_iff.mp hb
            obtain ⟨its, w1, t1, _⟩ := I.tuple q1
            obtain ⟨its2, w2, t2, _⟩ := I.tuple q2
            have P := seqPair rr1 w1 rr2 w2 k1 k2 hlen kb
            refine SeqAt.eq_tupleAt (e := fun j => (bs[j]?).getD true) (show s.heap.IsTuple a its.toArray from t1) (show s.heap.IsTuple a' its2.toArray from t2) (by omega) ?_ ?_
            · intro j h1 h2
              have h1' : j < its.length := by simpa using h1
              have h2' : j < its2.length := by simpa using h2
              have h3' : j < bs.length := by rw [P.bl]; exact h1'
              obtain ⟨d', e', x', y', sd', se', a1, a2, a3, a4, a5, a6, a7⟩ := P.at_ j h1' h2' h3'
              rw [List.getElem?_eq_getElem h3']
              have := eq_at I c m X.A.in1 d' e' x' y' _ _ sd' se' _ a1 a2 a3 a4 a5 a6 a7 (by have : X.A.in1.units = X.A.units + 1 := rfl; omega)
              simpa using this
            · have e1 : ((List.range (min its.toArray.size its2.toArray.size)).all (fun j => (bs[j]?).getD true) && its.toArray.size == its2.toArray.size) = bs.all id := by
                have el : its.toArray.size = its2.toArray.size := by simpa using P.len
                rw [el, Nat.min_self, beq_self_eq_true, Bool.and_true]
                exact all_of (by rw [← el]; simpa using P.bl) fun i b hb => by rw [hb]; rfl
              rw [e1]
              exact fin
          · cases hb
  · obtain ⟨a, rfl⟩ := snap_isL h1
    obtain ⟨a', rfl⟩ := snap_isL h2
    · · · obtain ⟨_, ds, ss', em, ez, hs1, k1⟩ := snap_ref h1
          cases em
          cases ez
          obtain ⟨m', es, ts', em, es', hs2, k2⟩ := snap_ref h2
          cases em
          cases es'
          cases r1.ref_inv
          cases r2.ref_inv
          cases rx
          cases ry
          obtain ⟨xs, q1, rr1⟩ := sql_of c hs1
          obtain ⟨ys, q2, rr2⟩ := sql_of c hs2
          obtain ⟨its, w1, t1, _⟩ := I.list q1
          obtain ⟨its2, w2, t2, _⟩ := I.list q2
          unfold eqN at hb
          split at hb
          · rename_i hlen
            obtain ⟨bs, kb, rfl⟩ := Option.map_eq_some_iff.mp hb
            have P := seqPair rr1 w1 rr2 w2 k1 k2 hlen kb
            have el : its.toArray.size = its2.toArray.size := by simpa using P.len
            refine SeqAt.eq_listAt (e := fun j => (bs[j]?).getD true) t1.isList t2.isList el (by omega) ?_ ?_
            · intro j h1 h2
              have h1' : j < its.length := by simpa using h1
              have h2' : j < its2.length := by simpa using h2
              have h3' : j < bs.length := by rw [P.bl]; exact h1'
              obtain ⟨d', e', x', y', sd', se', a1, a2, a3, a4, a5, a6, a7⟩ := P.at_ j h1' h2' h3'
              rw [List.getElem?_eq_getElem h3']
              have := eq_at I c m X.A.in1 d' e' x' y' _ _ sd' se' _ a1 a2 a3 a4 a5 a6 a7 (by have : X.A.in1.units = X.A.units + 1 := rfl; omega)
              simpa using this
            · have e1 : ((List.range its.toArray.size).all (fun j => (bs[j]?).getD true)) = bs.all id :=
                all_of (by simpa using P.bl) fun i b hb => by rw [hb]; rfl
              rw [e1]
              exact fin
          · rename_i hlen
            cases hb
            have n1 := (mapM_some k1).1
            have n2 := (mapM_some k2).1
            have m1 := rr1.length
            have m2 := rr2.length
            have m3 := w1.length
            have m4 := w2.length
            exact SeqAt.eq_list_lengthsAt t1.isList t2.isList (by simp; omega) (by omega) fin
theorem op_neD (hr : Room k X.A) : OpR X (compareOp .NotEq) (rEqD X.K true) := by
  intro pins s σ H x y v u Q I rx ry h
  obtain ⟨d, e, G, n, sd, se, b, r1, r2, c, hn, h1, h2, hb, fl, q⟩ := h
  have hu := hr.units
  have fin : EP X pins σ Q (.bool (!b)) s := ⟨.bl (!b), H, I, rfl, q⟩
  rcases eqN_some hb (fun z => by rw [fl] at z; cases z) with ⟨m, ss, ts, rfl, rfl, rfl⟩ | ⟨m, ss, ts, rfl, rfl, rfl⟩
  · obtain ⟨ds, rfl⟩ := snap_isT h1
    obtain ⟨es, rfl⟩ := snap_isT h2
    · · · obtain ⟨_, ss', em, ez, k1⟩ := snap_tup h1
          cases em
          cases ez
          obtain ⟨m', ts', em, es', k2⟩ := snap_tup h2
          cases em
          cases es'
          obtain ⟨a, xs, rfl, q1, rr1⟩ := r1.tup_inv
          obtain ⟨a', ys, rfl, q2, rr2⟩ := r2.tup_inv
          cases rx
          cases ry
          unfold eqN at hb
          split at hb
          · rename_i hlen
            obtain ⟨bs, kb, rfl⟩ := Option.map_eq_some_iff.mp hb
            obtain ⟨its, w1, t1, _⟩ := I.tuple q1
            obtain ⟨its2, w2, t2, _⟩ := I.tuple q2
            have P := seqPair rr1 w1 rr2 w2 k1 k2 hlen kb
            refine SeqAt.RcNeAt.tuples (e := fun j => (bs[j]?).getD true) (show s.heap.IsTuple a its.toArray from t1) (show s.heap.IsTuple a' its2.toArray from t2) (by omega) ?_ X.prog X.w X.xe _ ?_
            · intro j h1 h2
              have h1' : j < its.length := by simpa using h1
              have h2' : j < its2.length := by simpa using h2
              have h3' : j < bs.length := by rw [P.bl]; exact h1'
              obtain ⟨d', e', x', y', sd', se', a1, a2, a3, a4, a5, a6, a7⟩ := P.at_ j h1' h2' h3'
              rw [List.getElem?_eq_getElem h3']
              have := eq_at I c m X.A.in1 d' e' x' y' _ _ sd' se' _ a1 a2 a3 a4 a5 a6 a7 (by have : X.A.in1.units = X.A.units + 1 := rfl; omega)
              simpa using this
            · have e1 : ((List.range (min its.toArray.size its2.toArray.size)).all (fun j => (bs[j]?).getD true) && its.toArray.size == its2.toArray.size) = bs.all id := by
                have el : its.toArray.size = its2.toArray.size := by simpa using P.len
                rw [el, Nat.min_self, beq_self_eq_true, Bool.and_true]
                exact all_of (by rw [← el]; simpa using P.bl) fun i b hb => by rw [hb]; rfl
              rw [e1]
              exact fin
          · cases hb
  · obtain ⟨a, rfl⟩ := snap_isL h1
    obtain ⟨a', rfl⟩ := snap_isL h2
    · · · obtain ⟨_, ds, ss', em, ez, hs1, k1⟩ := snap_ref h1
          cases em
          cases ez
          obtain ⟨m', es, ts', em, es', hs2, k2⟩ := snap_ref h2
          cases em
          cases es'
          cases r1.ref_inv
          cases r2.ref_inv
          cases rx
          cases ry
          obtain ⟨xs, q1, rr1⟩ := sql_of c hs1
          obtain ⟨ys, q2, rr2⟩ := sql_of c hs2
          obtain ⟨its, w1, t1, _⟩ := I.list q1
          obtain ⟨its2, w2, t2, _⟩ := I.list q2
          unfold eqN at hb
          split at hb
          · rename_i hlen
            obtain ⟨bs, kb, rfl⟩ := Option.map_eq_some_iff.mp hb
            have P := seqPair rr1 w1 rr2 w2 k1 k2 hlen kb
            have el : its.toArray.size = its2.toArray.size := by simpa using P.len
            refine SeqAt.RcNeAt.lists (e := fun j => (bs[j]?).getD true) t1.isList t2.isList el (by omega) ?_ X.prog X.w X.xe _ ?_
            · intro j h1 h2
              have h1' : j < its.length := by simpa using h1
              have h2' : j < its2.length := by simpa using h2
              have h3' : j < bs.length := by rw [P.bl]; exact h1'
              obtain ⟨d', e', x', y', sd', se', a1, a2, a3, a4, a5, a6, a7⟩ := P.at_ j h1' h2' h3'
              rw [List.getElem?_eq_getElem h3']
              have := eq_at I c m X.A.in1 d' e' x' y' _ _ sd' se' _ a1 a2 a3 a4 a5 a6 a7 (by have : X.A.in1.units = X.A.units + 1 := rfl; omega)
              simpa using this
            · have e1 : ((List.range its.toArray.size).all (fun j => (bs[j]?).getD true)) = bs.all id :=
                all_of (by simpa using P.bl) fun i b hb => by rw [hb]; rfl
              rw [e1]
              exact fin
          · rename_i hlen
            cases hb
            have n1 := (mapM_some k1).1
            have n2 := (mapM_some k2).1
            have m1 := rr1.length
            have m2 := rr2.length
            have m3 := w1.length
            have m4 := w2.length
            exact SeqAt.RcNeAt.lists_lengths t1.isList t2.isList (by simp; omega) (by omega) X.prog X.w X.xe _ fin
end
end L3
namespace L3
open PySem PySem.Spec PyProof.Rows L2
set_option maxHeartbeats 4000000
structure FnAt (K : PySem.W.Frag) (x qual : Str) (st : Stmt) (ps : List Str) where
 a : Addr
 fd : FuncData
 ex : ∃ (oc : Value) (od : Option Addr) (dV kV doc pm : Value) (an : Option Addr) (cdv ct : Value) (osl : Array (Option Value)),
  fd = PySem.W.fnOf x qual (defArgs st) (defBody st) (defScope st) dV kV doc pm an cdv ct ∧ K.lookup a = some ⟨oc, od, .func fd, osl⟩ ∧ PySem.W.codeIn K cdv qual = true
 kp : PySem.W.keepIn K (.ref a) = true
 b : Binds K fd ps []
noncomputable abbrev Ok (P : Program) (w : World) {K : PySem.W.Frag} (mg : Str → Option Value) (base : Heap) (n : Nat) {x qual : Str} {st : Stmt} {ps : List Str} (d : FnAt K x qual st ps) (S : Sp3) : Prop := FnOk P w K mg base CX0 n d.a d.fd ps (lowSp K S)
noncomputable def startD (N : List Str) (ds : List D) : DSt := ds.map some ++ List.replicate (N.length - ds.length) none
theorem startD_rel {K : PySem.W.Frag} {H : Hp} {N : List Str} {ds : List D} {vs : List V} (r : RelDs K H ds vs) : RelSt K H (startD N ds) (L2.start N vs) := by
 unfold startD L2.start
 refine ⟨by simp [r.length], fun i d e => ?_⟩
 by_cases hi : i < ds.length
 ·rw [List.getElem?_append_left (by simpa using hi), List.getElem?_map] at e
  rw [List.getElem?_append_left (by simpa [← r.length] using hi), List.getElem?_map]
  cases h : ds[i]? with
  | none => rw [h] at e; cases e
  | some d' =>
   rw [h] at e; cases e
   obtain ⟨v, hv, rv⟩ := r.get h
   exact ⟨v, by rw [hv]; rfl, rv⟩
 ·rw [List.getElem?_append_right (by simpa using hi), List.getElem?_replicate] at e
  split at e <;> cases e
section
variable {P : Program} {w : World} {K : PySem.W.Frag} {mg : Str → Option Value} {base : Heap}
theorem def_ok {x qual : Str} {st : Stmt} {ps N : List Str} {k : Nat} (d : FnAt K x qual st ps) {S : Sp3} (sc : FnScope N ps (defScope st)) (hl : ∀ ds G R, S ds G R → ds.length = ps.length) {t : TS3}
  (ht : ∀ (cdv : Value) (A : Around) (outer : List Env) (s : Shared) (H : Hp) (E : XK), Room k (A.deeper (envOfC qual (defScope st) s.heap.objs.size d.a cdv)) → Ss3 (cxOf CX0 P w K mg base N qual (defScope st) d.a cdv A outer s H E).nox (defBody st) t)
  (hb : ∀ ds G R, S ds G R → t { nx := fun _ G' => R .non G', rt := R } (startD N ds) G) : Ok P w mg base (k + 1) d S := by
 obtain ⟨oc, od, dV, kV, doc, pm, an, cdv, ct, osl, e, lk, hcd⟩ := d.ex
 have lk' : K.lookup d.a = some ⟨oc, od, .func (PySem.W.fnOf x qual (defArgs st) (defBody st) (defScope st) dV kV doc pm an cdv ct), osl⟩ := e ▸ lk
 have F : FnOk P w K mg base CX0 (k + 1) d.a (PySem.W.fnOf x qual (defArgs st) (defBody st) (defScope st) dV kV doc pm an cdv ct) ps (lowSp K S) := by
  refine fn_of lk' hcd sc (fun vs H Q E h => ?_) fun A outer s H vs Q E hr h => ?_
  ·obtain ⟨ds, G, R, r, _, hS, _⟩ := h
   rw [← r.length]; exact hl ds G R hS
  ·obtain ⟨ds, G, R, r, c, hS, f⟩ := h
   refine ⟨_, (show PSs _ _ _ from ht cdv A outer s H E hr).nox, startD N ds, G, _, startD_rel r, c, hb ds G R hS, fun σd' G' σ' H' _ c' l' q => ?_, f, fun _ _ _ _ _ _ _ q => q.elim, fun _ _ _ _ _ _ _ q => q.elim⟩
   exact f .non G' .non H' RelD.nonI c' l' q
 have F2 := F
 rw [← e] at F2
 exact F2
end
section
variable {X : Cx} {e o : Expr} {es : List Expr} {p pos apos : Pos} {ta : TE3} {ts : TA3} {k n : Nat} {S : Sp3} {x m qual : Str} {st : Stmt} {ps : List Str} {C : Addr}
theorem ec (d : FnAt X.K x qual st ps) (hm : X.mg x = some (.ref d.a)) (G : FnOk X.prog X.w X.K X.mg X.base CX0 k d.a d.fd ps (lowSp X.K S)) (hr : Room k X.A) (ha : A3 X (e :: es) ts) (hg : Gl X x := by rfl) (hdb : (x == ("__debug__" : Str)) = false := by decide)
  (he : starEach (e :: es) X.env = (false, eval e X.env) :: starEach es X.env := by rfl) (hpl : (backTo pos (starEach es X.env)).any (·.1) = false := by rfl) : E3 X (.Call (.Name x p) (e :: es) [] pos) (dCall S [] ts) :=
 e_call G hr hg hm d.kp d.b .nil (fun _ => .nil) ha hdb he hpl
theorem em {pl : Sem Bool} (c : Cls X.K C) (d : FnAt X.K m qual st ps) (hm : Meth X.K C m d.a) (G : FnOk X.prog X.w X.K X.mg X.base CX0 k d.a d.fd ps (lowSp X.K S)) (hr : Room k X.A) (he : E3 X o ta) (ha : A3 X (e :: es) ts)
  (hse : starEach (e :: es) X.env = (false, eval e X.env) :: starEach es X.env := by rfl) (hpl : (backTo pos (starEach es X.env)).any (·.1) = false := by rfl)
  (ht : eval (.Call (.Attribute o m apos) (e :: es) [] pos) X.env = (do
   let ov ← eval o X.env
   standAt apos.atName
   let (f, first) ← holding [ov] (getMethod ov m pl)
   callWith pos f first (backTo pos (starEach (e :: es) X.env)) (backToKw pos (keywordEach [] X.env))) := by rfl) : E3 X (.Call (.Attribute o m apos) (e :: es) [] pos) (dMeth C m S [] ta ts) :=
 e_meth he c hm G hr d.b .nil (fun _ => .nil) ha hse hpl ht
end
def spec (pre : List D → Gp → Prop) (post : List D → Gp → D → Gp → Prop) : Sp3 := fun ds G R => pre ds G ∧ ∀ d G', post ds G d G' → R d G'
theorem spec_call {pre : List D → Gp → Prop} {post : List D → Gp → D → Gp → Prop} {ds : List D} {G : Gp} {q : DK} (h : pre ds G) (k : ∀ d G', post ds G d G' → q d G') : ∃ R, spec pre post ds G R ∧ ∀ d G', R d G' → q d G' :=
 ⟨post ds G, ⟨h, fun _ _ z => z⟩, k⟩
noncomputable def blkOk (osc : Scope) (N N' : List Str) (ix : List (Option Nat)) (scope : Scope) : Bool :=
 (scope.kind == .function) && scope.names.all (fun y => y.2 != .cell) && scope.names.all (fun y => y.2 != .local || scope.names.lookup y.1 == some .local) &&
 scope.names.all (fun y => y.2 != .free || osc.names.lookup y.1 == some .cell || osc.names.lookup y.1 == some .free) && (ix.length == N'.length) &&
 (N'.zip ix).all (fun p => match p.2 with | none => true | some j => N[j]? == some p.1 && scope.names.lookup p.1 == some .free)
theorem blk {X : Cx} {osc : Scope} {N N' : List Str} {ix : List (Option Nat)} {scope : Scope} (h1 : X.env.scope = osc) (h2 : X.N = N) (h : blkOk osc N N' ix scope = true) : BlkOk X N' ix scope := by
 unfold blkOk at h
 simp only [Bool.and_eq_true] at h
 obtain ⟨⟨⟨⟨⟨a1, a2⟩, a3⟩, a4⟩, a5⟩, a6⟩ := h
 rw [List.all_eq_true] at a2 a3 a4 a6
 refine ⟨eq_of_beq a1, fun y hy => by simpa using a2 y hy, fun y hy e => ?_, fun y hy e => ?_, eq_of_beq a5, fun i j x e1 e2 => ?_⟩
 ·have := a3 y hy
  simp only [e, bne_self_eq_false, Bool.false_or] at this
  exact eq_of_beq this
 ·have := a4 y hy
  simp only [e, bne_self_eq_false, Bool.false_or, Bool.or_eq_true, beq_iff_eq] at this
  unfold Env.kindOf
  rw [h1]
  exact this
 ·have hz : (N'.zip ix)[i]? = some (x, some j) := by rw [List.getElem?_zip_eq_some]; exact ⟨e1, e2⟩
  have := a6 _ (List.mem_of_getElem? hz)
  simp only [Bool.and_eq_true, beq_iff_eq] at this
  rw [h2]
  exact this
end L3
namespace L3
open PySem PySem.Spec PyProof.Rows L2
set_option maxHeartbeats 4000000
section
variable {X : Cx} {K : PySem.W.Frag} {H : Hp}
def xSlice : RS3 := fun x lo hi G q => match x with
 | .ref a => (match seqOf (G a) with | some ds => ∀ p, G p = none → q (.ref p) (gup G p (.lst (cutD ds lo hi))) | none => False)
 | .tup ds => ¬ (HT.sIx ds.length 0 lo = 0 ∧ HT.sIx ds.length ds.length hi = ds.length) ∧ q (.tup (cutD ds lo hi)) G
 | _ => False
theorem x_sl : SlR X (lowRS X.K xSlice) := weakSl (sl_list.or sl_tup) <| by
 rintro x lo hi H Q ⟨d, G, q, r1, c, t, f⟩
 unfold xSlice at t
 split at t
 ·rename_i a
  split at t
  ·rename_i ds e
   obtain ⟨xs, s1, q1⟩ := sql_of c e
   exact .inl ⟨a, xs, r1.ref_inv, s1, fun p hp => f _ _ _ _ RelD.refI (c.lstNew hp (q1.cut lo hi)) (Le.fresh hp) (t p (c.fresh hp))⟩
  ·exact t.elim
 ·rename_i ds
  obtain ⟨a, xs, rfl, s1, q1⟩ := r1.tup_inv
  refine .inr ⟨a, xs, rfl, s1, by rw [← q1.length]; exact t.1, fun p hp => ?_⟩
  refine f (.tup _) G (.ref p) _ ?_ (c.side hp) (Le.fresh hp) t.2
  rw [RelD]
  exact ⟨p, _, rfl, SqT.of upd_same, RelDs.le (Le.fresh hp) (q1.cut lo hi)⟩
 ·exact t.elim
def xLen : C3 := fun ds G q => match ds with
 | [.str z] => z.length ≤ sizeLine ∧ q (.int z.length) G
 | [.tup xs] => q (.int xs.length) G
 | [.ref a] => (match seqOf (G a) with | some xs => q (.int xs.length) G | none => False)
 | _ => False
theorem RelDs.one {d : D} {vs : List V} (h : RelDs K H [d] vs) : ∃ v, vs = [v] ∧ RelD K H d v := by
 obtain ⟨x, r, rfl, h1, h2⟩ := h.inv_cons
 rw [h2.inv_nil]
 exact ⟨x, rfl, h1⟩
theorem RelDs.two {d e : D} {vs : List V} (h : RelDs K H [d, e] vs) : ∃ v u, vs = [v, u] ∧ RelD K H d v ∧ RelD K H e u := by
 obtain ⟨x, r, rfl, h1, h2⟩ := h.inv_cons
 obtain ⟨y, rfl, h3⟩ := h2.one
 exact ⟨x, y, rfl, h1, h3⟩
theorem x_len : Call3 X (.builtin "len") xLen := weakCall (call_len_seq.or call_len_str) <| by
 rintro xs H Q ⟨ds, G, q, r, c, t, f⟩
 unfold xLen at t
 split at t
 ·obtain ⟨v, rfl, r1⟩ := r.one
  cases r1.str_inv
  exact .inr ⟨_, rfl, t.1, f _ _ _ _ RelD.intI c (Le.refl H) t.2⟩
 ·obtain ⟨v, rfl, r1⟩ := r.one
  obtain ⟨a, ys, rfl, s1, q1⟩ := r1.tup_inv
  refine .inl ⟨a, ys, rfl, .inr s1, ?_⟩
  rw [← q1.length]
  exact f _ _ _ _ RelD.intI c (Le.refl H) t
 ·obtain ⟨v, rfl, r1⟩ := r.one
  cases r1.ref_inv
  split at t
  ·rename_i ds e
   obtain ⟨ys, s1, q1⟩ := sql_of c e
   refine .inl ⟨_, ys, rfl, .inl s1, ?_⟩
   rw [← q1.length]
   exact f _ _ _ _ RelD.intI c (Le.refl H) t
  ·exact t.elim
 ·exact t.elim
def xAbs : C3 := fun ds G q => match ds with | [.int i] => q (.int (if i < 0 then -i else i)) G | _ => False
theorem x_abs : Call3 X (.builtin "abs") xAbs := weakCall call_abs <| by
 rintro xs H Q ⟨ds, G, q, r, c, t, f⟩
 unfold xAbs at t
 split at t
 ·obtain ⟨v, rfl, r1⟩ := r.one
  cases r1.int_inv
  exact ⟨_, rfl, f _ _ _ _ RelD.intI c (Le.refl H) t⟩
 ·exact t.elim
def xDivmod : C3 := fun ds G q => match ds with | [.int i, .int j] => CDiv i j ∧ q (.tup [.int (i / j), .int (i % j)]) G | _ => False
def xMax2 : C3 := fun ds G q => match ds with | [.int i, .int j] => q (.int (if j > i then j else i)) G | _ => False
def xMin2 : C3 := fun ds G q => match ds with | [.int i, .int j] => q (.int (if j < i then j else i)) G | _ => False
def xToInt : C3 := fun ds G q => match ds with | [.int i] => q (.int i) G | [.bl b] => q (.int (if b then 1 else 0)) G | _ => False
theorem x_toInt : Call3 X (.type "int") xToInt := weakCall call_int1 <| by
 rintro xs H Q ⟨ds, G, q, r, c, t, f⟩
 unfold xToInt at t
 split at t
 ·obtain ⟨v, rfl, r1⟩ := r.one
  cases r1.int_inv
  exact .inl ⟨_, rfl, f _ _ _ _ RelD.intI c (Le.refl H) t⟩
 ·obtain ⟨v, rfl, r1⟩ := r.one
  cases r1.bl_inv
  exact .inr ⟨_, rfl, f _ _ _ _ RelD.intI c (Le.refl H) t⟩
 ·exact t.elim
def xToList : C3 := fun ds G q => match ds with
 | [.tup xs] => ∀ p, G p = none → q (.ref p) (gup G p (.lst xs))
 | [.ref a] => (match seqOf (G a) with | some xs => ∀ p, G p = none → q (.ref p) (gup G p (.lst xs)) | none => False)
 | _ => False
theorem x_toList : Call3 X (.type "list") xToList := weakCall call_list_of <| by
 rintro xs H Q ⟨ds, G, q, r, c, t, f⟩
 unfold xToList at t
 split at t
 ·obtain ⟨v, rfl, r1⟩ := r.one
  obtain ⟨a, ys, rfl, s1, q1⟩ := r1.tup_inv
  exact ⟨a, ys, rfl, .inr s1, fun p hp => f _ _ _ _ RelD.refI (c.lstNew hp q1) (Le.fresh hp) (t p (c.fresh hp))⟩
 ·obtain ⟨v, rfl, r1⟩ := r.one
  cases r1.ref_inv
  split at t
  ·rename_i ds e
   obtain ⟨ys, s1, q1⟩ := sql_of c e
   exact ⟨_, ys, rfl, .inl s1, fun p hp => f _ _ _ _ RelD.refI (c.lstNew hp q1) (Le.fresh hp) (t p (c.fresh hp))⟩
  ·exact t.elim
 ·exact t.elim
def xToTuple : C3 := fun ds G q => match ds with
 | [.tup xs] => q (.tup xs) G
 | [.ref a] => (match seqOf (G a) with | some xs => q (.tup xs) G | none => False)
 | _ => False
theorem x_toTuple : Call3 X (.type "tuple") xToTuple := weakCall call_tuple_of <| by
 rintro xs H Q ⟨ds, G, q, r, c, t, f⟩
 unfold xToTuple at t
 split at t
 ·obtain ⟨v, rfl, r1⟩ := r.one
  obtain ⟨a, ys, rfl, s1, q1⟩ := r1.tup_inv
  exact ⟨a, ys, rfl, .inr ⟨s1, f _ _ _ _ r1 c (Le.refl H) t⟩⟩
 ·obtain ⟨v, rfl, r1⟩ := r.one
  cases r1.ref_inv
  split at t
  ·rename_i ds e
   obtain ⟨ys, s1, q1⟩ := sql_of c e
   refine ⟨_, ys, rfl, .inl ⟨s1, fun p hp => f (.tup _) G (.ref p) _ ?_ (c.side hp) (Le.fresh hp) t⟩⟩
   rw [RelD]
   exact ⟨p, _, rfl, SqT.of upd_same, RelDs.le (Le.fresh hp) q1⟩
  ·exact t.elim
 ·exact t.elim
noncomputable def allBl : List D → Option (List Bool)
 | [] => some []
 | .bl b :: r => (allBl r).map (b :: ·)
 | _ => none
theorem allBl_rel : ∀ {ds : List D} {bs : List Bool} {vs : List V}, allBl ds = some bs → RelDs K H ds vs → vs = bs.map V.bl
 | [], bs, vs, e, r => by cases e; rw [r.inv_nil]; rfl
 | .bl b :: ds, bs, vs, e, r => by
  obtain ⟨x, xs, rfl, h1, h2⟩ := r.inv_cons
  obtain ⟨bs', e', rfl⟩ := Option.map_eq_some_iff.mp (show (allBl ds).map (b :: ·) = some bs from e)
  rw [h1.bl_inv, allBl_rel e' h2]
  rfl
 | .non :: _, _, _, e, _ => by cases e
 | .int _ :: _, _, _, e, _ => by cases e
 | .str _ :: _, _, _, e, _ => by cases e
 | .tup _ :: _, _, _, e, _ => by cases e
 | .ref _ :: _, _, _, e, _ => by cases e
 | .ty _ :: _, _, _, e, _ => by cases e
def xAll : C3 := fun ds G q => match ds with
 | [.ref a] => (match seqOf (G a) with | some xs => (match allBl xs with | some bs => q (.bl (bs.all id)) G | none => False) | none => False)
 | _ => False
theorem x_all (hc : X.calm = true := by rfl) : Call3 X (.builtin "all") xAll := weakCall (call_all hc) <| by
 rintro xs H Q ⟨ds, G, q, r, c, t, f⟩
 unfold xAll at t
 split at t
 ·obtain ⟨v, rfl, r1⟩ := r.one
  cases r1.ref_inv
  split at t
  ·rename_i ds e
   obtain ⟨ys, s1, q1⟩ := sql_of c e
   split at t
   ·rename_i bs eb
    have := allBl_rel eb q1
    subst this
    exact ⟨_, bs, rfl, s1, f _ _ _ _ RelD.blI c (Le.refl H) t⟩
   ·exact t.elim
  ·exact t.elim
 ·exact t.elim
noncomputable def kindD (G : Gp) : D → Option String
 | .non => some "NoneType"
 | .bl _ => some "bool"
 | .int _ => some "int"
 | .str _ => some "str"
 | .ref a => match G a with | some (.lst _) => some "list" | some (.fro _) => some "list" | some (.dic _) => some "dict" | _ => none
 | _ => none
def xIsinst : C3 := fun ds G q => match ds with
 | [x, .ty T] => (T = "int" ∨ T = "str" ∨ T = "bool" ∨ T = "list" ∨ T = "tuple" ∨ T = "dict") ∧ (match kindD G x with | some n => q (.bl (subK n T)) G | none => False)
 | _ => False
theorem x_isinst : Call3 X (.builtin "isinstance") xIsinst := weakCall call_isinst <| by
 rintro xs H Q ⟨ds, G, q, r, c, t, f⟩
 unfold xIsinst at t
 split at t
 ·rename_i d T
  obtain ⟨v, u, rfl, r1, r2⟩ := r.two
  rw [RelD] at r2
  subst r2
  obtain ⟨hT, t⟩ := t
  split at t
  ·rename_i n en
   refine ⟨v, n, T, rfl, ?_, hT, f _ _ _ _ RelD.blI c (Le.refl H) t⟩
   unfold kindD at en
   split at en
   ·cases r1.non_inv; cases en; rfl
   ·cases r1.bl_inv; cases en; rfl
   ·cases r1.int_inv; cases en; rfl
   ·cases r1.str_inv; cases en; rfl
   ·rename_i a
    cases r1.ref_inv
    split at en
    ·rename_i xs ea; cases en; obtain ⟨ys, h1, _⟩ := c _ _ ea; exact .inl ⟨rfl, .inl ⟨ys, h1⟩⟩
    ·rename_i xs ea; cases en; obtain ⟨o, ys, h1, _⟩ := c _ _ ea; exact .inl ⟨rfl, .inr ⟨o, ys, h1⟩⟩
    ·rename_i xs ea; cases en; obtain ⟨ys, h1, _⟩ := c _ _ ea; exact .inr (.inr ⟨rfl, ys, h1⟩)
    ·cases en
   ·cases en
  ·exact t.elim
 ·exact t.elim
theorem e_type {x : Str} {T : String} {pos : Pos} (hm : X.mg x = none) (hv : bootBuiltins x = some (.type T)) (hg : Gl X x := by rfl) (hn : x ≠ "__name__" := by decide) (hd : (x == ("__debug__" : Str)) = false := by decide) : E3 X (.Name x pos) (dC (.ty T)) :=
 weakE (pe_bltn (v := .ty T) hg hm hv rfl hn hd) fun _ _ _ => low_c fun _ => by rw [RelD]
def xIs2 : R3 := fun x y G q => match y with
 | .non => (match x with | .non => q (.bl true) G | _ => q (.bl false) G)
 | .bl b => (match x with | .bl c => q (.bl (decide (c = b))) G | _ => q (.bl false) G)
 | _ => False
def xIsNot2 : R3 := fun x y G q => match y with
 | .non => (match x with | .non => q (.bl false) G | _ => q (.bl true) G)
 | .bl b => (match x with | .bl c => q (.bl (!decide (c = b))) G | _ => q (.bl true) G)
 | _ => False
theorem RelD.not_bl {d : D} {v : V} (h : RelD K H d v) (b : Bool) (n : ∀ c, d ≠ .bl c) : v ≠ .bl b := by
 cases d with
 | bl c => exact absurd rfl (n c)
 | non => rw [h.non_inv]; exact fun z => nomatch z
 | int _ => rw [h.int_inv]; exact fun z => nomatch z
 | str _ => rw [h.str_inv]; exact fun z => nomatch z
 | ref _ => rw [h.ref_inv]; exact fun z => nomatch z
 | ty _ => rw [RelD] at h; rw [h]; exact fun z => nomatch z
 | tup _ => obtain ⟨a, xs, e, _⟩ := h.tup_inv; rw [e]; exact fun z => nomatch z
theorem dec_blbl {c b : Bool} : decide (V.bl c = V.bl b) = decide (c = b) := by cases c <;> cases b <;> rfl
theorem x_is2 : Op3 X (compareOp .Is) xIs2 := weakOp (op_isN.or op_isB) <| by
 rintro x y H Q ⟨d, e, G, q, r1, r2, c, t, f⟩
 unfold xIs2 at t
 split at t
 ·refine .inl ⟨r2.non_inv, ?_⟩
  split at t
  ·rw [r1.non_inv]
   exact f _ _ _ _ RelD.blI c (Le.refl H) t
  ·rename_i hd
   rw [decide_eq_false (r1.not_non fun z => hd z)]
   exact f _ _ _ _ RelD.blI c (Le.refl H) t
 ·rename_i b
  refine .inr ⟨b, r2.bl_inv, ?_⟩
  split at t
  ·rw [r1.bl_inv, dec_blbl]
   exact f _ _ _ _ RelD.blI c (Le.refl H) t
  ·rename_i hd
   rw [decide_eq_false (r1.not_bl b fun z hz => hd z hz)]
   exact f _ _ _ _ RelD.blI c (Le.refl H) t
 ·exact t.elim
theorem x_isNot2 : Op3 X (compareOp .IsNot) xIsNot2 := weakOp (op_notN.or op_isNotB) <| by
 rintro x y H Q ⟨d, e, G, q, r1, r2, c, t, f⟩
 unfold xIsNot2 at t
 split at t
 ·refine .inl ⟨r2.non_inv, ?_⟩
  split at t
  ·rw [r1.non_inv]
   exact f _ _ _ _ RelD.blI c (Le.refl H) t
  ·rename_i hd
   rw [decide_eq_false (r1.not_non fun z => hd z)]
   exact f _ _ _ _ RelD.blI c (Le.refl H) t
 ·rename_i b
  refine .inr ⟨b, r2.bl_inv, ?_⟩
  split at t
  ·rw [r1.bl_inv, dec_blbl]
   exact f _ _ _ _ RelD.blI c (Le.refl H) t
  ·rename_i hd
   rw [decide_eq_false (r1.not_bl b fun z hz => hd z hz)]
   exact f _ _ _ _ RelD.blI c (Le.refl H) t
 ·exact t.elim
end
def jSeq (n : Nat) (t : TGs3) : TG3 := fun d σ G q => match d with
 | .tup ds => ds.length = n ∧ t ds σ G q
 | .ref a => (match seqOf (G a) with | some ds => ds.length = n ∧ t ds σ G q | none => False)
 | _ => False
def wAny (te : TE3) : TI3 := fun σ G r => te σ G fun x G1 => match x with
 | .ref a => (match seqOf (G1 a) with | some ds => r ⟨ds, fun G => seqOf (G a) = some ds⟩ G1 | none => False)
 | .tup ds => r ⟨ds, fun _ => True⟩ G1
 | _ => False
section
variable {X : Cx} {es : List Expr} {e tg : Expr} {te : TE3} {pos : Pos}
theorem j_seq {k n : Nat} {t : TGs3} (hc : X.calm = true) (h : Js3 X es t) (hn : (assignEach es X.env).length = n := by rfl) (hst : (assignEach es X.env).findIdx? (·.1) = none := by rfl) : J3 X (.Tuple es k pos) (jSeq n t) :=
 weakG (pg_or (pg_tup hc h hn hst) (pg_list hc h hn hst)) fun v σ H Q hh => by
  obtain ⟨d, σd, G, q, r, rs, c, t, f⟩ := hh
  unfold jSeq at t
  split at t
  ·rename_i ds
   obtain ⟨a, xs, rfl, s, r2⟩ := r.tup_inv
   exact .inl ⟨a, xs, rfl, s, by rw [← r2.length]; exact t.1, ds, σd, G, q, r2, rs, c, t.2, f⟩
  ·rename_i a
   split at t
   ·rename_i ds e
    obtain ⟨xs, s, r'⟩ := sql_of c e
    exact .inr ⟨a, xs, r.ref_inv, s, by rw [← r'.length]; exact t.1, ds, σd, G, q, r', rs, c, t.2, f⟩
   ·exact t.elim
  ·exact t.elim
theorem i_any (h : E3 X e te) : I3 X tg e (wAny te) := weakI (pi_seq h) fun σ H R hh => by
 obtain ⟨σd, G, q, rs, c, t, f⟩ := hh
 refine ⟨σd, G, _, rs, c, t, fun x G1 v H1 r1 c1 l1 t1 => ?_⟩
 split at t1
 ·rename_i a
  split at t1
  ·rename_i ds e
   obtain ⟨xs, s, _⟩ := sql_of c1 e
   exact ⟨a, r1.ref_inv, .inl ⟨⟨xs, s⟩, f _ _ _ _ itrel_list c1 l1 t1⟩⟩
  ·exact t1.elim
 ·rename_i ds
  obtain ⟨a, xs, rfl, s, r⟩ := r1.tup_inv
  exact ⟨a, rfl, .inr ⟨⟨xs, s⟩, f _ _ _ _ (itrel_tup s r) c1 l1 t1⟩⟩
 ·exact t1.elim
end
section
variable {X : Cx} {e o : Expr} {es : List Expr} {to : TE3} {ts : TA3} {apos cpos : Pos}
theorem ty_list (K : PySem.W.Frag) : ∀ G H x v, Con K G H → RelD K H x v → tyD G "list" x → tyV K "list" v H := by
 intro G H x v c r t
 cases x with
 | ref a =>
  cases r.ref_inv
  cases e : G a with
  | none => simp [tyD, e] at t
  | some o =>
   cases o with
   | lst ds => obtain ⟨xs, s, _⟩ := sql_of (ds := ds) c (by rw [e]; rfl); exact .inl ⟨rfl, xs, s⟩
   | fro ds => obtain ⟨xs, s, _⟩ := sql_of (ds := ds) c (by rw [e]; rfl); exact .inl ⟨rfl, xs, s⟩
   | dic _ => simp [tyD, e] at t
   | dit _ => simp [tyD, e] at t
   | ins _ _ => simp [tyD, e] at t
   | exc _ _ => simp [tyD, e] at t
 | str _ => simp [tyD] at t
 | int _ => simp [tyD] at t
 | _ => exact t.elim
def mAppend : M3 := fun x ds G q => match x, ds with
 | .ref a, [d] => (match G a with | some (.lst xs) => xs.length < sizeLine ∧ q .non (gup G a (.lst (xs ++ [d]))) | _ => False)
 | _, _ => False
theorem e_append (ho : E3 X o to) (ha : A3 X (e :: es) ts) (hbase : attributeBase o "append" X.env (eval o X.env) = eval o X.env := by rfl)
  (hfew : ((backTo cpos (starEach (e :: es) X.env)).all (fun x => !x.1) && (backToKw cpos (keywordEach [] X.env)).all (fun x => x.1.isSome)
   && decide ((e :: es).length + ([] : List Keyword).length + (if ([] : List Keyword).isEmpty then 0 else 1) < 30)) = true := by rfl)
  (hline : (apos.endLine == cpos.line) = true := by rfl) (hs : starEach (e :: es) X.env = (false, eval e X.env) :: starEach es X.env := by rfl) (hplain : (backTo cpos (starEach es X.env)).any (·.1) = false := by rfl) :
  E3 X (.Call (.Attribute o "append" apos) (e :: es) [] cpos) (dBM "list" mAppend to ts) :=
 weakE (pe_bm PySem.F.plainAttrs_list PySem.F.slot_list_append PySem.F.type_list_append (weakMt (r' := lowM X.K mAppend) mt_append <| by
  rintro x xs H Q ⟨d, ds, G, q, r1, r2, c, t, f⟩
  unfold mAppend at t
  split at t
  ·rename_i a d'
   split at t
   ·rename_i ys ea
    cases r1.ref_inv
    obtain ⟨v, rfl, rv⟩ := r2.one
    obtain ⟨zs, h1, q1⟩ := c _ _ ea
    exact ⟨a, zs, v, rfl, rfl, h1, by rw [← q1.length]; exact t.1, f _ _ _ _ RelD.nonI (c.lstSet h1 (q1.append (.cons rv .nil))) (Le.lst h1) t.2⟩
   ·exact t.elim
  ·exact t.elim) ho ha hbase hfew hline hs hplain) fun _ _ _ => low_bm (ty_list X.K)
def mExtend : M3 := fun x ds G q => match x, ds with
 | .ref a, [.ref b] => (match G a, G b with | some (.lst xs), some (.lst ys) => xs.length + ys.length ≤ sizeLine ∧ q .non (gup G a (.lst (xs ++ ys))) | _, _ => False)
 | _, _ => False
theorem e_extend (ho : E3 X o to) (ha : A3 X (e :: es) ts) (hbase : attributeBase o "extend" X.env (eval o X.env) = eval o X.env := by rfl)
  (hfew : ((backTo cpos (starEach (e :: es) X.env)).all (fun x => !x.1) && (backToKw cpos (keywordEach [] X.env)).all (fun x => x.1.isSome)
   && decide ((e :: es).length + ([] : List Keyword).length + (if ([] : List Keyword).isEmpty then 0 else 1) < 30)) = true := by rfl)
  (hline : (apos.endLine == cpos.line) = true := by rfl) (hs : starEach (e :: es) X.env = (false, eval e X.env) :: starEach es X.env := by rfl) (hplain : (backTo cpos (starEach es X.env)).any (·.1) = false := by rfl) :
  E3 X (.Call (.Attribute o "extend" apos) (e :: es) [] cpos) (dBM "list" mExtend to ts) :=
 weakE (pe_bm PySem.F.plainAttrs_list PySem.F.slot_list_extend PySem.F.type_list_extend (weakMt (r' := lowM X.K mExtend) mt_extend <| by
  rintro x xs H Q ⟨d, ds, G, q, r1, r2, c, t, f⟩
  unfold mExtend at t
  split at t
  ·rename_i a b
   split at t
   ·rename_i ys zs ea eb
    cases r1.ref_inv
    obtain ⟨v, rfl, rv⟩ := r2.one
    cases rv.ref_inv
    obtain ⟨us, h1, q1⟩ := c _ _ ea
    obtain ⟨ws, h2, q2⟩ := c _ _ eb
    exact ⟨a, b, us, ws, rfl, rfl, h1, h2, by rw [← q1.length, ← q2.length]; exact t.1, f _ _ _ _ RelD.nonI (c.lstSet h1 (q1.append q2)) (Le.lst h1) t.2⟩
   ·exact t.elim
  ·exact t.elim) ho ha hbase hfew hline hs hplain) fun _ _ _ => low_bm (ty_list X.K)
def mPop0 : M3 := fun x ds G q => match x, ds with
 | .ref a, [] => (match G a with | some (.lst xs) => (match xs[xs.length - 1]? with | some y => q y (gup G a (.lst xs.dropLast)) | none => False) | _ => False)
 | _, _ => False
def mClear0 : M3 := fun x ds G q => match x, ds with
 | .ref a, [] => (match G a with | some (.lst _) => q .non (gup G a (.lst [])) | _ => False)
 | _, _ => False
end
def xEqB (neg : Bool) : R3 := fun x y G q => match x, y with
 | .int i, .int j => q (.bl (if neg then !decide (i = j) else decide (i = j))) G
 | .str i, .str j => q (.bl (if neg then !decide (i = j) else decide (i = j))) G
 | .bl i, .bl j => q (.bl (if neg then !decide (i = j) else decide (i = j))) G
 | .non, .non => q (.bl (!neg)) G
 | .non, .int _ => q (.bl neg) G
 | .int _, .non => q (.bl neg) G
 | .non, .bl _ => q (.bl neg) G
 | .bl _, .non => q (.bl neg) G
 | .non, .str _ => q (.bl neg) G
 | .str _, .non => q (.bl neg) G
 | .int _, .str _ => q (.bl neg) G
 | .str _, .int _ => q (.bl neg) G
 | .tup xs, .tup ys => ∃ n sd se b, n ≤ 40 ∧ snap G n (.tup xs) = some sd ∧ snap G n (.tup ys) = some se ∧ eqN n sd se = some b ∧ q (.bl (if neg then !b else b)) G
 | .ref a, .ref c => ∃ n sd se b, n ≤ 40 ∧ snap G n (.ref a) = some sd ∧ snap G n (.ref c) = some se ∧ eqN n sd se = some b ∧ q (.bl (if neg then !b else b)) G
 | _, _ => False
section
variable {X : Cx} {k : Nat}
theorem dec_int' {i j : Int} : decide (V.int i = V.int j) = decide (i = j) := by
 by_cases h : i = j
 ·subst h; simp
 ·simp [h]
theorem dec_str' {i j : Str} : decide (V.str i = V.str j) = decide (i = j) := by
 by_cases h : i = j
 ·subst h; simp
 ·simp [h]
theorem snap_nonflat_tup {G : Gp} {n : Nat} {xs : List D} {sd : Sn} (h : snap G n (.tup xs) = some sd) : flatS sd = false := by
 obtain ⟨_, _, _, rfl, _⟩ := snap_tup h; rfl
theorem snap_nonflat_ref {G : Gp} {n : Nat} {a : Addr} {sd : Sn} (h : snap G n (.ref a) = some sd) : flatS sd = false := by
 obtain ⟨_, _, _, _, rfl, _⟩ := snap_ref h; rfl
theorem x_eq (hr : Room k X.A) : Op3 X (compareOp .Eq) (xEqB false) := weakOp (op_eq.or (op_eqD hr)) <| by
 rintro x y H Q ⟨d, e, G, q, r1, r2, c, t, f⟩
 have fin : ∀ b, q (.bl b) G → Q (.bl b) H := fun b z => f _ _ _ _ RelD.blI c (Le.refl H) z
 unfold xEqB at t
 split at t
 ·cases r1.int_inv; cases r2.int_inv; exact .inl ⟨rfl, by rw [dec_int']; exact fin _ t⟩
 ·cases r1.str_inv; cases r2.str_inv; exact .inl ⟨rfl, by rw [dec_str']; exact fin _ t⟩
 ·cases r1.bl_inv; cases r2.bl_inv; exact .inl ⟨rfl, by rw [dec_blbl]; exact fin _ t⟩
 ·cases r1.non_inv; cases r2.non_inv; exact .inl ⟨rfl, fin _ t⟩
 ·cases r1.non_inv; cases r2.int_inv; exact .inl ⟨rfl, fin _ t⟩
 ·cases r1.int_inv; cases r2.non_inv; exact .inl ⟨rfl, fin _ t⟩
 ·cases r1.non_inv; cases r2.bl_inv; exact .inl ⟨rfl, fin _ t⟩
 ·cases r1.bl_inv; cases r2.non_inv; exact .inl ⟨rfl, fin _ t⟩
 ·cases r1.non_inv; cases r2.str_inv; exact .inl ⟨rfl, fin _ t⟩
 ·cases r1.str_inv; cases r2.non_inv; exact .inl ⟨rfl, fin _ t⟩
 ·cases r1.int_inv; cases r2.str_inv; exact .inl ⟨rfl, fin _ t⟩
 ·cases r1.str_inv; cases r2.int_inv; exact .inl ⟨rfl, fin _ t⟩
 ·obtain ⟨n, sd, se, b, hn, h1, h2, hb, t⟩ := t
  exact .inr ⟨_, _, G, n, sd, se, b, r1, r2, c, hn, h1, h2, hb, snap_nonflat_tup h1, fin _ t⟩
 ·obtain ⟨n, sd, se, b, hn, h1, h2, hb, t⟩ := t
  exact .inr ⟨_, _, G, n, sd, se, b, r1, r2, c, hn, h1, h2, hb, snap_nonflat_ref h1, fin _ t⟩
 ·exact t.elim
theorem x_ne (hr : Room k X.A) : Op3 X (compareOp .NotEq) (xEqB true) := weakOp (op_ne.or (op_neD hr)) <| by
 rintro x y H Q ⟨d, e, G, q, r1, r2, c, t, f⟩
 have fin : ∀ b, q (.bl b) G → Q (.bl b) H := fun b z => f _ _ _ _ RelD.blI c (Le.refl H) z
 unfold xEqB at t
 split at t
 ·cases r1.int_inv; cases r2.int_inv; exact .inl ⟨rfl, by rw [dec_int']; exact fin _ t⟩
 ·cases r1.str_inv; cases r2.str_inv; exact .inl ⟨rfl, by rw [dec_str']; exact fin _ t⟩
 ·cases r1.bl_inv; cases r2.bl_inv; exact .inl ⟨rfl, by rw [dec_blbl]; exact fin _ t⟩
 ·cases r1.non_inv; cases r2.non_inv; exact .inl ⟨rfl, fin _ t⟩
 ·cases r1.non_inv; cases r2.int_inv; exact .inl ⟨rfl, fin _ t⟩
 ·cases r1.int_inv; cases r2.non_inv; exact .inl ⟨rfl, fin _ t⟩
 ·cases r1.non_inv; cases r2.bl_inv; exact .inl ⟨rfl, fin _ t⟩
 ·cases r1.bl_inv; cases r2.non_inv; exact .inl ⟨rfl, fin _ t⟩
 ·cases r1.non_inv; cases r2.str_inv; exact .inl ⟨rfl, fin _ t⟩
 ·cases r1.str_inv; cases r2.non_inv; exact .inl ⟨rfl, fin _ t⟩
 ·cases r1.int_inv; cases r2.str_inv; exact .inl ⟨rfl, fin _ t⟩
 ·cases r1.str_inv; cases r2.int_inv; exact .inl ⟨rfl, fin _ t⟩
 ·obtain ⟨n, sd, se, b, hn, h1, h2, hb, t⟩ := t
  exact .inr ⟨_, _, G, n, sd, se, b, r1, r2, c, hn, h1, h2, hb, snap_nonflat_tup h1, fin _ t⟩
 ·obtain ⟨n, sd, se, b, hn, h1, h2, hb, t⟩ := t
  exact .inr ⟨_, _, G, n, sd, se, b, r1, r2, c, hn, h1, h2, hb, snap_nonflat_ref h1, fin _ t⟩
 ·exact t.elim
end
end L3
namespace L3
open PySem PySem.Spec PyProof.Rows L2
set_option maxHeartbeats 4000000
section
variable {X : Cx} {e : Expr} {es : List Expr} {p pos : Pos} {ts : TA3} {k : Nat} {S : Sp3} {x m qual : Str} {st : Stmt} {ps : List Str} {C : Addr}
end
section
variable {X : Cx} {e : Expr} {es : List Expr} {p pos : Pos} {ts : TA3} {k : Nat} {S : Sp3} {x m qual : Str} {st : Stmt} {ps : List Str} {C f : Addr} {fd : FuncData}
theorem e_const {i : Int} (h : ∃ t, X.mg x = some (.int i t)) (hg : Gl X x := by rfl) (hdb : (x == ("__debug__" : Str)) = false := by decide) : E3 X (.Name x pos) (dC (.int i)) := by
 obtain ⟨t, h⟩ := h
 exact e_glob hg h (v := .int i) ⟨t, rfl⟩ (fun _ => RelD.intI) hdb
end
theorem ite_b {b : Bool} {A B : Prop} (h1 : b = true → A) (h2 : b = false → B) : if b = true then A else B := by
 cases b
 ·simpa using h2 rfl
 ·simpa using h1 rfl
theorem ite_d {c A B : Prop} [Decidable c] (h1 : c → A) (h2 : ¬ c → B) : if decide c = true then A else B := by
 by_cases h : c
 ·simpa [h] using h1 h
 ·simpa [h] using h2 h
theorem seqOf_lst {xs : List D} : seqOf (some (.lst xs)) = some xs := rfl
theorem seqOf_fro {xs : List D} : seqOf (some (.fro xs)) = some xs := rfl
theorem atI_0 {α : Type} {x : α} {xs : List α} : atI (x :: xs) 0 = some x := atI_nat (j := 0) rfl
theorem atI_1 {α : Type} {x y : α} {xs : List α} : atI (x :: y :: xs) 1 = some y := atI_nat (j := 1) rfl
theorem atI_2 {α : Type} {x y z : α} {xs : List α} : atI (x :: y :: z :: xs) 2 = some z := atI_nat (j := 2) rfl
theorem atI_3 {α : Type} {x y z u : α} {xs : List α} : atI (x :: y :: z :: u :: xs) 3 = some u := atI_nat (j := 3) rfl
theorem atI_4 {α : Type} {x y z u v : α} {xs : List α} : atI (x :: y :: z :: u :: v :: xs) 4 = some v := atI_nat (j := 4) rfl
theorem ixN_30 : ixN 3 0 = some 0 := rfl
theorem ixN_31 : ixN 3 1 = some 1 := rfl
theorem ixN_32 : ixN 3 2 = some 2 := rfl
theorem ixN_20 : ixN 2 0 = some 0 := rfl
theorem ixN_21 : ixN 2 1 = some 1 := rfl
theorem ixN_of {n j : Nat} (h : j < n) : ixN n (j : Int) = some j := by
 unfold ixN
 rw [if_pos (by omega), if_pos (by omega)]
 simp
theorem ixN_int {n : Nat} {i : Int} (h0 : 0 ≤ i) (h : i < n) : ixN n i = some i.toNat := by
 unfold ixN
 rw [if_pos h0, if_pos h]
theorem atI_int {α : Type} {xs : List α} {i : Int} (h0 : 0 ≤ i) (h : i < xs.length) : atI xs i = some (xs[i.toNat]'(by omega)) := by
 unfold atI
 rw [ixN_int h0 h]
 exact List.getElem?_eq_getElem _
theorem atI_map {α β : Type} {f : α → β} {xs : List α} {i : Int} (h0 : 0 ≤ i) (h : i < xs.length) : atI (xs.map f) i = some (f (xs[i.toNat]'(by omega))) := by
 rw [atI_int h0 (by simpa using h)]
 simp
theorem cmul_l {i j : Int} (h0 : 0 ≤ i) (h : i < 18446744073709551616) : CMul i j := .inl ⟨by omega, by omega⟩
theorem cpow_2 {j : Int} (h0 : 0 ≤ j) (h : j ≤ 1000) : CPow 2 j := ⟨h0, by omega, by decide⟩
end L3
namespace L3
theorem call_det {S : Sp3} {ds : List D} {G G1 : Gp} {v : D} {q : DK} (h : ∀ R : DK, R v G1 → S ds G R) (k : q v G1) : ∃ R, S ds G R ∧ ∀ d G', R d G' → q d G' :=
 ⟨fun d G' => d = v ∧ G' = G1, h _ ⟨rfl, rfl⟩, fun _ _ ⟨e1, e2⟩ => by subst e1; subst e2; exact k⟩
theorem call_nd {S : Sp3} {ds : List D} {G : Gp} {post : DK} {q : DK} (h : ∀ R : DK, (∀ d G', post d G' → R d G') → S ds G R) (k : ∀ d G', post d G' → q d G') : ∃ R, S ds G R ∧ ∀ d G', R d G' → q d G' :=
 ⟨post, h _ fun _ _ z => z, k⟩
end L3
namespace L3
theorem forL_ind {ok : Gp → Prop} {g : TG3} {tb : TS3} {E : Ends3} (I : List D → DSt → Gp → Prop) {items : List D} {σ : DSt} {G : Gp} (h0 : I items σ G) (nil : ∀ σ G, I [] σ G → ok G ∧ E.nx σ G)
  (cons : ∀ x r σ G, I (x :: r) σ G → (∀ σ' G', I r σ' G' → forL ok g tb E r σ' G') → ok G ∧ g x σ G fun σ1 G1 => tb { E with nx := forL ok g tb E r, ct := forL ok g tb E r, bk := E.nx } σ1 G1) : forL ok g tb E items σ G := by
 induction items generalizing σ G with
 | nil => exact nil σ G h0
 | cons x r ih => exact cons x r σ G h0 fun σ' G' h => ih h
theorem compL_ind {ok : Gp → Prop} {g : TG3} {tc : TT3} {te : TE3} {p : PySem.Addr} {q : DK} (I : List D → DSt → Gp → Prop) {items : List D} {σ : DSt} {G : Gp} (h0 : I items σ G) (nil : ∀ σ G, I [] σ G → ok G ∧ q (.ref p) G)
  (cons : ∀ x r σ G, I (x :: r) σ G → (∀ σ' G', I r σ' G' → compL ok g tc te p q r σ' G') → ok G ∧ g x σ G fun σ2 G2 => tc σ2 G2 fun b G3 =>
   if b = true then te σ2 G3 fun d G4 => (match G4 p with | some (.lst ys) => ys.length < PySem.sizeLine ∧ compL ok g tc te p q r σ2 (gup G4 p (.lst (ys ++ [d]))) | _ => False)
   else compL ok g tc te p q r σ2 G3) : compL ok g tc te p q items σ G := by
 induction items generalizing σ G with
 | nil => exact nil σ G h0
 | cons x r ih => exact cons x r σ G h0 fun σ' G' h => ih h
end L3
namespace L3
open PySem
theorem sn_add_take : (("add" : Str) = "take") = False := eq_false (by decide +kernel)
theorem sn_add_turn : (("add" : Str) = "turn") = False := eq_false (by decide +kernel)
theorem sn_add_swap : (("add" : Str) = "swap") = False := eq_false (by decide +kernel)
theorem sn_add_go : (("add" : Str) = "go") = False := eq_false (by decide +kernel)
theorem sn_add_come : (("add" : Str) = "come") = False := eq_false (by decide +kernel)
theorem sn_add_box : (("add" : Str) = "box") = False := eq_false (by decide +kernel)
theorem sn_add_num : (("add" : Str) = "num") = False := eq_false (by decide +kernel)
theorem sn_take_add : (("take" : Str) = "add") = False := eq_false (by decide +kernel)
theorem sn_take_turn : (("take" : Str) = "turn") = False := eq_false (by decide +kernel)
theorem sn_take_swap : (("take" : Str) = "swap") = False := eq_false (by decide +kernel)
theorem sn_take_go : (("take" : Str) = "go") = False := eq_false (by decide +kernel)
theorem sn_take_come : (("take" : Str) = "come") = False := eq_false (by decide +kernel)
theorem sn_take_box : (("take" : Str) = "box") = False := eq_false (by decide +kernel)
theorem sn_take_num : (("take" : Str) = "num") = False := eq_false (by decide +kernel)
theorem sn_turn_add : (("turn" : Str) = "add") = False := eq_false (by decide +kernel)
theorem sn_turn_take : (("turn" : Str) = "take") = False := eq_false (by decide +kernel)
theorem sn_turn_swap : (("turn" : Str) = "swap") = False := eq_false (by decide +kernel)
theorem sn_turn_go : (("turn" : Str) = "go") = False := eq_false (by decide +kernel)
theorem sn_turn_come : (("turn" : Str) = "come") = False := eq_false (by decide +kernel)
theorem sn_turn_box : (("turn" : Str) = "box") = False := eq_false (by decide +kernel)
theorem sn_turn_num : (("turn" : Str) = "num") = False := eq_false (by decide +kernel)
theorem sn_swap_add : (("swap" : Str) = "add") = False := eq_false (by decide +kernel)
theorem sn_swap_take : (("swap" : Str) = "take") = False := eq_false (by decide +kernel)
theorem sn_swap_turn : (("swap" : Str) = "turn") = False := eq_false (by decide +kernel)
theorem sn_swap_go : (("swap" : Str) = "go") = False := eq_false (by decide +kernel)
theorem sn_swap_come : (("swap" : Str) = "come") = False := eq_false (by decide +kernel)
theorem sn_swap_box : (("swap" : Str) = "box") = False := eq_false (by decide +kernel)
theorem sn_swap_num : (("swap" : Str) = "num") = False := eq_false (by decide +kernel)
theorem sn_go_add : (("go" : Str) = "add") = False := eq_false (by decide +kernel)
theorem sn_go_take : (("go" : Str) = "take") = False := eq_false (by decide +kernel)
theorem sn_go_turn : (("go" : Str) = "turn") = False := eq_false (by decide +kernel)
theorem sn_go_swap : (("go" : Str) = "swap") = False := eq_false (by decide +kernel)
theorem sn_go_come : (("go" : Str) = "come") = False := eq_false (by decide +kernel)
theorem sn_go_box : (("go" : Str) = "box") = False := eq_false (by decide +kernel)
theorem sn_go_num : (("go" : Str) = "num") = False := eq_false (by decide +kernel)
theorem sn_come_add : (("come" : Str) = "add") = False := eq_false (by decide +kernel)
theorem sn_come_take : (("come" : Str) = "take") = False := eq_false (by decide +kernel)
theorem sn_come_turn : (("come" : Str) = "turn") = False := eq_false (by decide +kernel)
theorem sn_come_swap : (("come" : Str) = "swap") = False := eq_false (by decide +kernel)
theorem sn_come_go : (("come" : Str) = "go") = False := eq_false (by decide +kernel)
theorem sn_come_box : (("come" : Str) = "box") = False := eq_false (by decide +kernel)
theorem sn_come_num : (("come" : Str) = "num") = False := eq_false (by decide +kernel)
theorem sn_box_add : (("box" : Str) = "add") = False := eq_false (by decide +kernel)
theorem sn_box_take : (("box" : Str) = "take") = False := eq_false (by decide +kernel)
theorem sn_box_turn : (("box" : Str) = "turn") = False := eq_false (by decide +kernel)
theorem sn_box_swap : (("box" : Str) = "swap") = False := eq_false (by decide +kernel)
theorem sn_box_go : (("box" : Str) = "go") = False := eq_false (by decide +kernel)
theorem sn_box_come : (("box" : Str) = "come") = False := eq_false (by decide +kernel)
theorem sn_box_num : (("box" : Str) = "num") = False := eq_false (by decide +kernel)
theorem sn_num_add : (("num" : Str) = "add") = False := eq_false (by decide +kernel)
theorem sn_num_take : (("num" : Str) = "take") = False := eq_false (by decide +kernel)
theorem sn_num_turn : (("num" : Str) = "turn") = False := eq_false (by decide +kernel)
theorem sn_num_swap : (("num" : Str) = "swap") = False := eq_false (by decide +kernel)
theorem sn_num_go : (("num" : Str) = "go") = False := eq_false (by decide +kernel)
theorem sn_num_come : (("num" : Str) = "come") = False := eq_false (by decide +kernel)
theorem sn_num_box : (("num" : Str) = "box") = False := eq_false (by decide +kernel)
end L3
namespace Rw
open PySem PyProof.Rows L2 L3
inductive Opd where
 | num (n : Int) | box (y : Nat)
 deriving DecidableEq
inductive Row where
 | add (x : Nat) (o : Opd) | take (x : Nat) (o : Opd) | turn (x i : Nat) (cs : List (Nat × Nat)) | swap (x y : Nat) | go (x : Nat) (n : Int) (k : Nat) | come (x : Nat) (n : Int) (k : Nat)
 deriving DecidableEq
noncomputable def Opd.d : Opd → D
 | .num n => .tup [.str "num", .int n]
 | .box y => .tup [.str "box", .int (y : Int)]
noncomputable def cd (c : Nat × Nat) : D := .tup [.int (c.1 : Int), .int (c.2 : Int)]
noncomputable def Row.d : Row → D
 | .add x o => .tup [.str "add", .int (x : Int), o.d]
 | .take x o => .tup [.str "take", .int (x : Int), o.d]
 | .turn x i cs => .tup [.str "turn", .int (x : Int), .int (i : Int), .tup (cs.map cd)]
 | .swap x y => .tup [.str "swap", .int (x : Int), .int (y : Int)]
 | .go x n k => .tup [.str "go", .int (x : Int), .int n, .int (k : Int)]
 | .come x n k => .tup [.str "come", .int (x : Int), .int n, .int (k : Int)]
def Opd.ok (sz x : Nat) : Opd → Prop
 | .num n => 0 ≤ n ∧ n < 4294967296
 | .box y => y < sz ∧ y ≠ x
def Row.ok (sz : Nat) : Row → Prop
 | .add x o => x < sz ∧ o.ok sz x
 | .take x o => x < sz ∧ o.ok sz x
 | .turn x i cs => x < sz ∧ i < 32 ∧ cs.length ≤ 2 ∧ ∀ c ∈ cs, c.1 < sz ∧ c.1 ≠ x ∧ c.2 < 32
 | .swap x y => x < sz ∧ y < sz ∧ y ≠ x
 | .go x n _ => x < sz ∧ 0 ≤ n ∧ n < 4294967296
 | .come x n _ => x < sz ∧ 0 ≤ n ∧ n < 4294967296
noncomputable def Row.plain : Row → Bool
 | .go _ _ _ => false
 | .come _ _ _ => false
 | _ => true
noncomputable def gt (bs : List Int) (x : Nat) : Int := bs.getD x 0
noncomputable def bit (v : Int) (j : Nat) : Int := v / 2 ^ j % 2
noncomputable def flp (v : Int) (i : Nat) : Int := v + 2 ^ i * (1 - 2 * bit v i)
noncomputable def val (bs : List Int) : Opd → Int
 | .num n => n
 | .box y => gt bs y
structure BsOk (sz : Nat) (bs : List Int) : Prop where
 len : bs.length = sz
 rng : ∀ v ∈ bs, 0 ≤ v ∧ v < 4294967296
end Rw
namespace Rw
open PySem L2 L3
theorem snaps_ints {G : Gp} : ∀ ks : List Int, (ks.map D.int).mapM (snap G 0) = some (ks.map Sn.int)
 | [] => rfl
 | k :: ks => by
  rw [List.map_cons, List.mapM_cons, snaps_ints ks]
  rfl
theorem snap_ints {G : Gp} {a : Addr} {ks : List Int} (h : seqOf (G a) = some (ks.map .int)) : snap G 1 (.ref a) = some (.lst (ks.map .int)) := by
 show ((seqOf (G a)).bind fun ds => (ds.mapM (snap G 0)).map Sn.lst) = _
 rw [h, Option.bind_some, snaps_ints]
 rfl
theorem eq_zip : ∀ ks ms : List Int, ks.length = ms.length → ∃ bs, (((ks.map Sn.int).zip (ms.map Sn.int)).mapM fun p => eqN 0 p.1 p.2) = some bs ∧ bs.all id = decide (ks = ms)
 | [], [], _ => ⟨[], rfl, rfl⟩
 | [], _ :: _, h => by simp at h
 | _ :: _, [], h => by simp at h
 | k :: ks, m :: ms, h => by
  obtain ⟨bs, e, q⟩ := eq_zip ks ms (by simpa using h)
  refine ⟨(k == m) :: bs, ?_, ?_⟩
  ·rw [List.map_cons, List.map_cons, List.zip_cons_cons, List.mapM_cons, e]
   rfl
  ·rw [List.all_cons, q]
   by_cases hk : k = m
   ·subst hk; simp
   ·simp [hk]
theorem eq_ints {ks ms : List Int} : eqN 1 (.lst (ks.map .int)) (.lst (ms.map .int)) = some (decide (ks = ms)) := by
 show (if (ks.map Sn.int).length = (ms.map Sn.int).length then (((ks.map Sn.int).zip (ms.map Sn.int)).mapM fun p => eqN 0 p.1 p.2).map (fun bs => bs.all id) else some false) = _
 by_cases h : ks.length = ms.length
 ·rw [if_pos (by simpa using h)]
  obtain ⟨bs, e, q⟩ := eq_zip ks ms h
  rw [e, Option.map_some, q]
 ·rw [if_neg (by simpa using h)]
  have : ks ≠ ms := fun e => h (by rw [e])
  simp [this]
theorem cmp_ints {G : Gp} {a b : Addr} {ks ms : List Int} {Q : Bool → Prop} (h1 : seqOf (G a) = some (ks.map .int)) (h2 : seqOf (G b) = some (ms.map .int)) (h : Q (decide (ks = ms))) :
  ∃ n sd se r, n ≤ 40 ∧ snap G n (.ref a) = some sd ∧ snap G n (.ref b) = some se ∧ eqN n sd se = some r ∧ Q r :=
 ⟨1, _, _, _, by decide, snap_ints h1, snap_ints h2, eq_ints, h⟩
end Rw
namespace Rw
open PySem L2 L3
theorem rngD_succ (lo : Int) (n : Nat) : rngD lo (n + 1) = .int lo :: rngD (lo + 1) n := by
 unfold rngD
 rw [List.range_succ_eq_map, List.map_cons, List.map_map]
 congr 1
 ·simp
 ·apply List.map_congr_left
  intro i _
  show D.int _ = D.int _
  congr 1
  simp
  omega
theorem flat_one {α : Type} (x : α) : ∀ n : Nat, (List.replicate n [x]).flatten = List.replicate n x
 | 0 => rfl
 | n + 1 => by rw [List.replicate_succ, List.flatten_cons, flat_one x n, List.replicate_succ]; rfl
end Rw
namespace Rw
open PySem L2 L3
structure Grow (G G' : Gp) : Prop where
 kp : ∀ b o, G b = some o → G' b = some o
theorem Grow.refl {G : Gp} : Grow G G := ⟨fun _ _ h => h⟩
theorem Grow.trans {G G1 G2 : Gp} (a : Grow G G1) (b : Grow G1 G2) : Grow G G2 := ⟨fun c o h => b.kp c o (a.kp c o h)⟩
theorem Grow.new {G G1 : Gp} {p : Addr} {o : DO} (a : Grow G G1) (h : G1 p = none) : Grow G (gup G1 p o) := ⟨fun b u e => by rw [gup_ne (gne (a.kp b u e) h)]; exact a.kp b u e⟩
theorem Grow.own {G G1 : Gp} {p : Addr} {o : DO} (a : Grow G G1) (h : G p = none) : Grow G (gup G1 p o) := ⟨fun b u e => by rw [gup_ne (gne e h)]; exact a.kp b u e⟩
theorem Grow.none {G G1 : Gp} {p : Addr} (a : Grow G G1) (h : G1 p = none) : G p = none := by
 cases e : G p with
 | none => rfl
 | some o => rw [a.kp p o e] at h; cases h
end Rw
namespace L3
open PySem
theorem sw_all : ((("add" : Str) = "take") = False) ∧ ((("add" : Str) = "turn") = False) ∧ ((("add" : Str) = "swap") = False) ∧ ((("add" : Str) = "go") = False) ∧ ((("add" : Str) = "come") = False) ∧ ((("add" : Str) = "box") = False) ∧ ((("add" : Str) = "num") = False) ∧ ((("take" : Str) = "add") = False) ∧ ((("take" : Str) = "turn") = False) ∧ ((("take" : Str) = "swap") = False) ∧ ((("take" : Str) = "go") = False) ∧ ((("take" : Str) = "come") = False) ∧ ((("take" : Str) = "box") = False) ∧ ((("take" : Str) = "num") = False) ∧ ((("turn" : Str) = "add") = False) ∧ ((("turn" : Str) = "take") = False) ∧ ((("turn" : Str) = "swap") = False) ∧ ((("turn" : Str) = "go") = False) ∧ ((("turn" : Str) = "come") = False) ∧ ((("turn" : Str) = "box") = False) ∧ ((("turn" : Str) = "num") = False) ∧ ((("swap" : Str) = "add") = False) ∧ ((("swap" : Str) = "take") = False) ∧ ((("swap" : Str) = "turn") = False) ∧ ((("swap" : Str) = "go") = False) ∧ ((("swap" : Str) = "come") = False) ∧ ((("swap" : Str) = "box") = False) ∧ ((("swap" : Str) = "num") = False) ∧ ((("go" : Str) = "add") = False) ∧ ((("go" : Str) = "take") = False) ∧ ((("go" : Str) = "turn") = False) ∧ ((("go" : Str) = "swap") = False) ∧ ((("go" : Str) = "come") = False) ∧ ((("go" : Str) = "box") = False) ∧ ((("go" : Str) = "num") = False) ∧ ((("come" : Str) = "add") = False) ∧ ((("come" : Str) = "take") = False) ∧ ((("come" : Str) = "turn") = False) ∧ ((("come" : Str) = "swap") = False) ∧ ((("come" : Str) = "go") = False) ∧ ((("come" : Str) = "box") = False) ∧ ((("come" : Str) = "num") = False) ∧ ((("box" : Str) = "add") = False) ∧ ((("box" : Str) = "take") = False) ∧ ((("box" : Str) = "turn") = False) ∧ ((("box" : Str) = "swap") = False) ∧ ((("box" : Str) = "go") = False) ∧ ((("box" : Str) = "come") = False) ∧ ((("box" : Str) = "num") = False) ∧ ((("num" : Str) = "add") = False) ∧ ((("num" : Str) = "take") = False) ∧ ((("num" : Str) = "turn") = False) ∧ ((("num" : Str) = "swap") = False) ∧ ((("num" : Str) = "go") = False) ∧ ((("num" : Str) = "come") = False) ∧ ((("num" : Str) = "box") = False) := ⟨sn_add_take, sn_add_turn, sn_add_swap, sn_add_go, sn_add_come, sn_add_box, sn_add_num, sn_take_add, sn_take_turn, sn_take_swap, sn_take_go, sn_take_come, sn_take_box, sn_take_num, sn_turn_add, sn_turn_take, sn_turn_swap, sn_turn_go, sn_turn_come, sn_turn_box, sn_turn_num, sn_swap_add, sn_swap_take, sn_swap_turn, sn_swap_go, sn_swap_come, sn_swap_box, sn_swap_num, sn_go_add, sn_go_take, sn_go_turn, sn_go_swap, sn_go_come, sn_go_box, sn_go_num, sn_come_add, sn_come_take, sn_come_turn, sn_come_swap, sn_come_go, sn_come_box, sn_come_num, sn_box_add, sn_box_take, sn_box_turn, sn_box_swap, sn_box_go, sn_box_come, sn_box_num, sn_num_add, sn_num_take, sn_num_turn, sn_num_swap, sn_num_go, sn_num_come, sn_num_box⟩
end L3
namespace L3
open PySem PySem.Spec PyProof.Rows L2
theorem xr_all : (∀ i j G q, xEqB false (.int i) (.int j) G q = q (.bl (decide (i = j))) G) ∧ (∀ i j G q, xEqB true (.int i) (.int j) G q = q (.bl (!decide (i = j))) G) ∧
  (∀ i j G q, xEqB false (.str i) (.str j) G q = q (.bl (decide (i = j))) G) ∧ (∀ i j G q, xEqB true (.str i) (.str j) G q = q (.bl (!decide (i = j))) G) ∧
  (∀ a c G q, xEqB false (.ref a) (.ref c) G q = ∃ n sd se b, n ≤ 40 ∧ snap G n (.ref a) = some sd ∧ snap G n (.ref c) = some se ∧ eqN n sd se = some b ∧ q (.bl b) G) ∧
  (∀ a c G q, xEqB true (.ref a) (.ref c) G q = ∃ n sd se b, n ≤ 40 ∧ snap G n (.ref a) = some sd ∧ snap G n (.ref c) = some se ∧ eqN n sd se = some b ∧ q (.bl (!b)) G) ∧
  (∀ a c G q, xEqB false (.tup a) (.tup c) G q = ∃ n sd se b, n ≤ 40 ∧ snap G n (.tup a) = some sd ∧ snap G n (.tup c) = some se ∧ eqN n sd se = some b ∧ q (.bl b) G) ∧
  (∀ a c G q, xEqB true (.tup a) (.tup c) G q = ∃ n sd se b, n ≤ 40 ∧ snap G n (.tup a) = some sd ∧ snap G n (.tup c) = some se ∧ eqN n sd se = some b ∧ q (.bl (!b)) G) ∧
  (∀ i j G q, xAdd (.int i) (.int j) G q = q (.int (i + j)) G) ∧ (∀ i j G q, xMul (.int i) (.int j) G q = (CMul i j ∧ q (.int (i * j)) G)) ∧
  (∀ a k G q, xMul (.ref a) (.int k) G q = (match G a with | some (.lst xs) => (-(2 ^ 63) ≤ k ∧ k < 2 ^ 63 ∧ xs.length * k.toNat ≤ sizeLine) ∧ ∀ p, G p = none → q (.ref p) (gup G p (.lst (List.replicate k.toNat xs).flatten)) | _ => False)) ∧
  (∀ i j G q, xLt (.int i) (.int j) G q = q (.bl (decide (i < j))) G) ∧
  (∀ ds i G q, xIx (.tup ds) (.int i) G q = (match atI ds i with | some d => q d G | none => False)) ∧
  (∀ a i G q, xIx (.ref a) (.int i) G q = (match seqOf (G a) with | some ds => (match atI ds i with | some d => q d G | none => False) | none => False)) ∧
  (∀ xs G q, xLen [.tup xs] G q = q (.int xs.length) G) ∧ (∀ a G q, xLen [.ref a] G q = (match seqOf (G a) with | some xs => q (.int xs.length) G | none => False)) :=
 ⟨fun _ _ _ _ => rfl, fun _ _ _ _ => rfl, fun _ _ _ _ => rfl, fun _ _ _ _ => rfl, fun _ _ _ _ => rfl, fun _ _ _ _ => rfl, fun _ _ _ _ => rfl, fun _ _ _ _ => rfl, fun _ _ _ _ => rfl, fun _ _ _ _ => rfl, fun _ _ _ _ => rfl, fun _ _ _ _ => rfl, fun _ _ _ _ => rfl, fun _ _ _ _ => rfl, fun _ _ _ => rfl, fun _ _ _ => rfl⟩
theorem xs_all : (∀ f i j G q, xInt f (.int i) (.int j) G q = q (.int (f i j)) G) ∧ (∀ C f i j G q, xIntC C f (.int i) (.int j) G q = (C i j ∧ q (.int (f i j)) G)) ∧ (∀ i j G q, xLe (.int i) (.int j) G q = q (.bl (decide (i ≤ j))) G) ∧
  (∀ i j G q, xGt (.int i) (.int j) G q = q (.bl (decide (j < i))) G) ∧ (∀ i j G q, xGe (.int i) (.int j) G q = q (.bl (decide (j ≤ i))) G) ∧ (∀ i G q, xNeg (.int i) G q = q (.int (-i)) G) ∧
  (∀ a k v G q, xSet (.ref a) (.int k) v G q = (match G a with | some (.lst ds) => (match ixN ds.length k with | some j => q (gup G a (.lst (ds.set j v))) | none => False) | _ => False)) ∧
  (∀ a lo hi G q, xSlice (.ref a) lo hi G q = (match seqOf (G a) with | some ds => ∀ p, G p = none → q (.ref p) (gup G p (.lst (cutD ds lo hi))) | none => False)) ∧
  (∀ ds lo hi G q, xSlice (.tup ds) lo hi G q = (¬ (HT.sIx ds.length 0 lo = 0 ∧ HT.sIx ds.length ds.length hi = ds.length) ∧ q (.tup (cutD ds lo hi)) G)) ∧
  (∀ x G q, xIs2 x .non G q = (match x with | .non => q (.bl true) G | _ => q (.bl false) G)) ∧ (∀ x b G q, xIs2 x (.bl b) G q = (match x with | .bl c => q (.bl (decide (c = b))) G | _ => q (.bl false) G)) ∧
  (∀ x G q, xIsNot2 x .non G q = (match x with | .non => q (.bl false) G | _ => q (.bl true) G)) ∧ (∀ x b G q, xIsNot2 x (.bl b) G q = (match x with | .bl c => q (.bl (!decide (c = b))) G | _ => q (.bl true) G)) ∧
  (∀ i G q, xAbs [.int i] G q = q (.int (if i < 0 then -i else i)) G) ∧ (∀ i j G q, xDivmod [.int i, .int j] G q = (CDiv i j ∧ q (.tup [.int (i / j), .int (i % j)]) G)) ∧
  (∀ i j G q, xMax2 [.int i, .int j] G q = q (.int (if j > i then j else i)) G) ∧ (∀ i j G q, xMin2 [.int i, .int j] G q = q (.int (if j < i then j else i)) G) ∧
  (∀ i G q, xToInt [.int i] G q = q (.int i) G) ∧ (∀ b G q, xToInt [.bl b] G q = q (.int (if b then 1 else 0)) G) ∧
  (∀ xs G q, xToList [.tup xs] G q = ∀ p, G p = none → q (.ref p) (gup G p (.lst xs))) ∧ (∀ a G q, xToList [.ref a] G q = (match seqOf (G a) with | some xs => ∀ p, G p = none → q (.ref p) (gup G p (.lst xs)) | none => False)) ∧
  (∀ xs G q, xToTuple [.tup xs] G q = q (.tup xs) G) ∧ (∀ a G q, xToTuple [.ref a] G q = (match seqOf (G a) with | some xs => q (.tup xs) G | none => False)) ∧
  (∀ a G q, xAll [.ref a] G q = (match seqOf (G a) with | some xs => (match allBl xs with | some bs => q (.bl (bs.all id)) G | none => False) | none => False)) ∧
  (∀ x T G q, xIsinst [x, .ty T] G q = ((T = "int" ∨ T = "str" ∨ T = "bool" ∨ T = "list" ∨ T = "tuple" ∨ T = "dict") ∧ (match kindD G x with | some n => q (.bl (subK n T)) G | none => False))) ∧
  (∀ a d G q, mAppend (.ref a) [d] G q = (match G a with | some (.lst xs) => xs.length < sizeLine ∧ q .non (gup G a (.lst (xs ++ [d]))) | _ => False)) ∧
  (∀ a b G q, mExtend (.ref a) [.ref b] G q = (match G a, G b with | some (.lst xs), some (.lst ys) => xs.length + ys.length ≤ sizeLine ∧ q .non (gup G a (.lst (xs ++ ys))) | _, _ => False)) ∧
  (∀ a G q, mClear0 (.ref a) [] G q = (match G a with | some (.lst _) => q .non (gup G a (.lst [])) | _ => False)) := by
 refine ⟨?_, ?_, ?_, ?_, ?_, ?_, ?_, ?_, ?_, ?_, ?_, ?_, ?_, ?_, ?_, ?_, ?_, ?_, ?_, ?_, ?_, ?_, ?_, ?_, ?_, ?_, ?_, ?_⟩ <;> intros <;> rfl
end L3
namespace L2
open PySem PySem.Spec PyProof.Rows
section
variable {X : Cx} {e : Expr} {st : Expr} {te : TE} {ts : TO} {pos p2 : Pos}
end
end L2
namespace L3
open PySem PySem.Spec PyProof.Rows L2
section
variable {X : Cx} {e : Expr} {te : TE3} {pos p2 p3 p4 : Pos} {K : PySem.W.Frag} {σ : L2.St} {H : Hp} {Q : VK}
def dBack (te : TE3) : TE3 := fun σ G q => te σ G fun x G1 => match x with
 | .ref a => (match seqOf (G1 a) with | some ds => ∀ p, G1 p = none → q (.ref p) (gup G1 p (.lst ds.reverse)) | none => False)
 | _ => False
end
end L3
namespace L3
open PySem PySem.Spec PyProof.Rows L2
noncomputable def strsOf : List D → Option (List Str)
 | [] => some []
 | .str x :: r => (strsOf r).map (x :: ·)
 | _ => none
noncomputable def intsOf : List D → Option (List Int)
 | [] => some []
 | .int x :: r => (intsOf r).map (x :: ·)
 | _ => none
section
variable {X : Cx} {K : PySem.W.Frag} {H : Hp}
theorem strsOf_rel : ∀ {ds : List D} {ws : List Str} {vs : List V}, strsOf ds = some ws → RelDs K H ds vs → vs = ws.map V.str
 | [], ws, vs, e, r => by cases e; rw [r.inv_nil]; rfl
 | .str b :: ds, ws, vs, e, r => by
  obtain ⟨x, xs, rfl, h1, h2⟩ := r.inv_cons
  obtain ⟨ws', e', rfl⟩ := Option.map_eq_some_iff.mp (show (strsOf ds).map (b :: ·) = some ws from e)
  rw [h1.str_inv, strsOf_rel e' h2]; rfl
 | .non :: _, _, _, e, _ => by cases e
 | .bl _ :: _, _, _, e, _ => by cases e
 | .int _ :: _, _, _, e, _ => by cases e
 | .tup _ :: _, _, _, e, _ => by cases e
 | .ref _ :: _, _, _, e, _ => by cases e
 | .ty _ :: _, _, _, e, _ => by cases e
theorem intsOf_rel : ∀ {ds : List D} {ws : List Int} {vs : List V}, intsOf ds = some ws → RelDs K H ds vs → vs = ws.map V.int
 | [], ws, vs, e, r => by cases e; rw [r.inv_nil]; rfl
 | .int b :: ds, ws, vs, e, r => by
  obtain ⟨x, xs, rfl, h1, h2⟩ := r.inv_cons
  obtain ⟨ws', e', rfl⟩ := Option.map_eq_some_iff.mp (show (intsOf ds).map (b :: ·) = some ws from e)
  rw [h1.int_inv, intsOf_rel e' h2]; rfl
 | .non :: _, _, _, e, _ => by cases e
 | .bl _ :: _, _, _, e, _ => by cases e
 | .str _ :: _, _, _, e, _ => by cases e
 | .tup _ :: _, _, _, e, _ => by cases e
 | .ref _ :: _, _, _, e, _ => by cases e
 | .ty _ :: _, _, _, e, _ => by cases e
theorem in_strs {w : Str} {ws : List Str} : inV (V.str w) (ws.map V.str) = decide (w ∈ ws) := by
 unfold inV
 induction ws with
 | nil => rfl
 | cons x xs ih =>
  rw [List.map_cons, List.any_cons, ih]
  show ((x == w) || decide (w ∈ xs)) = _
  by_cases h : x = w
  ·subst h; simp
  ·have h' : ¬ w = x := fun e => h e.symm
   have : (x == w) = false := by simpa using h
   rw [this]; simp [h']
theorem in_ints {w : Int} {ws : List Int} : inV (V.int w) (ws.map V.int) = decide (w ∈ ws) := by
 unfold inV
 induction ws with
 | nil => rfl
 | cons x xs ih =>
  rw [List.map_cons, List.any_cons, ih]
  show ((x == w) || decide (w ∈ xs)) = _
  by_cases h : x = w
  ·subst h; simp
  ·have h' : ¬ w = x := fun e => h e.symm
   have : (x == w) = false := by simpa using h
   rw [this]; simp [h']
theorem flat_strs : ∀ ws : List Str, (ws.map V.str).all flatV = true
 | [] => rfl
 | _ :: ws => by rw [List.map_cons, List.all_cons, flat_strs ws]; rfl
theorem flat_ints : ∀ ws : List Int, (ws.map V.int).all flatV = true
 | [] => rfl
 | _ :: ws => by rw [List.map_cons, List.all_cons, flat_ints ws]; rfl
def xInB (neg : Bool) : R3 := fun x y G q => match x, y with
 | .str w, .tup ds => (match strsOf ds with | some ws => q (.bl (if neg then !decide (w ∈ ws) else decide (w ∈ ws))) G | none => False)
 | .str w, .ref a => (match seqOf (G a) with | some ds => (match strsOf ds with | some ws => q (.bl (if neg then !decide (w ∈ ws) else decide (w ∈ ws))) G | none => False) | none => False)
 | .int w, .tup ds => (match intsOf ds with | some ws => q (.bl (if neg then !decide (w ∈ ws) else decide (w ∈ ws))) G | none => False)
 | .int w, .ref a => (match seqOf (G a) with | some ds => (match intsOf ds with | some ws => q (.bl (if neg then !decide (w ∈ ws) else decide (w ∈ ws))) G | none => False) | none => False)
 | _, _ => False
theorem low_in {neg : Bool} {x y : V} {Q : VK} (h : lowR K (xInB neg) x y H Q) : rIn K neg x y H Q := by
 obtain ⟨d, e, G, q, r1, r2, c, t, f⟩ := h
 unfold xInB at t
 split at t
 ·rename_i w ds
  split at t
  ·rename_i ws es
   obtain ⟨a, xs, rfl, s1, q1⟩ := r2.tup_inv
   cases r1.str_inv
   obtain rfl := strsOf_rel es q1
   exact ⟨a, _, rfl, .inr s1, rfl, flat_strs ws, f _ _ _ _ (by rw [in_strs]; exact RelD.blI) c (Le.refl H) t⟩
  ·exact t.elim
 ·rename_i w a
  split at t
  ·rename_i ds eq
   split at t
   ·rename_i ws es
    obtain ⟨xs, s1, q1⟩ := sql_of c eq
    cases r1.str_inv
    obtain rfl := strsOf_rel es q1
    exact ⟨a, _, r2.ref_inv, .inl s1, rfl, flat_strs ws, f _ _ _ _ (by rw [in_strs]; exact RelD.blI) c (Le.refl H) t⟩
   ·exact t.elim
  ·exact t.elim
 ·rename_i w ds
  split at t
  ·rename_i ws es
   obtain ⟨a, xs, rfl, s1, q1⟩ := r2.tup_inv
   cases r1.int_inv
   obtain rfl := intsOf_rel es q1
   exact ⟨a, _, rfl, .inr s1, rfl, flat_ints ws, f _ _ _ _ (by rw [in_ints]; exact RelD.blI) c (Le.refl H) t⟩
  ·exact t.elim
 ·rename_i w a
  split at t
  ·rename_i ds eq
   split at t
   ·rename_i ws es
    obtain ⟨xs, s1, q1⟩ := sql_of c eq
    cases r1.int_inv
    obtain rfl := intsOf_rel es q1
    exact ⟨a, _, r2.ref_inv, .inl s1, rfl, flat_ints ws, f _ _ _ _ (by rw [in_ints]; exact RelD.blI) c (Le.refl H) t⟩
   ·exact t.elim
  ·exact t.elim
 ·exact t.elim
theorem x_in {k : Nat} {A : Around} (_ : Room k A) : Op3 X (compareOp .In) (xInB false) := weakOp op_in_seq fun _ _ _ _ h => low_in h
theorem x_notIn {k : Nat} {A : Around} (_ : Room k A) : Op3 X (compareOp .NotIn) (xInB true) := weakOp op_notIn_seq fun _ _ _ _ h => low_in h
end
end L3
namespace L2
open PySem PySem.Spec PyProof.Rows
theorem Inv.turnedT {X : Cx} {pins : List (Addr × Obj)} {σ : List (Option V)} {H : Hp} {s : Shared} {h' : Heap} {t' : Nat} {e it : Addr} {o : HO} (I : Inv X pins σ H s) (k : ∀ b o, b ≠ e → b ≠ it → s.heap.get? b = some o → h'.get? b = some o)
  (f : ∀ b ∈ [e, it], FpOk X pins H b) (new : ObjOk X.prog X.w (upd H s.heap.objs.size o) h' s.heap.objs.size o) : Inv X pins σ (upd H s.heap.objs.size o) { s with heap := h', toks := t' } := by
 have hn : H s.heap.objs.size = none := I.hok.fresh (Nat.le_refl _)
 have f1 := f e (by simp)
 have f2 := f it (by simp)
 have old : ∀ b u, H b = some u → b ≠ s.heap.objs.size := fun b u q z => by rw [z, hn] at q; cases q
 have nit : ∀ b u, H b = some u → b ≠ e ∧ b ≠ it := fun b u q => ⟨fun z => (by rw [z, f1.1] at q; cases q), fun z => (by rw [z, f2.1] at q; cases q)⟩
 have nch : ∀ {b : Addr}, b ∉ [e, it] → b ≠ e ∧ b ≠ it := fun hc => ⟨fun z => hc (by simp [z]), fun z => hc (by simp [z])⟩
 refine I.step (g' := s.gens) (d' := s.drawn) (ch := [e, it]) (fun b hb => ?_) (fun b o _ _ hc q _ => k b o (nch hc).1 (nch hc).2 q) (fun b o _ _ hc q _ => ⟨o.slots, k b o (nch hc).1 (nch hc).2 q⟩) (fun b u _ q n => ?_)
  (fun b o hc q => ⟨o, k b o (nch hc).1 (nch hc).2 q⟩) (fun b xs q => ?_) (fun b o u q => ?_) (fun b ps q => ⟨#[], ?_⟩) (fun m hm => ?_) (fun b u q => ?_) I.bare
 ·obtain ⟨g0, g1, g2, g3, g4, g5⟩ := f b hb
  exact ⟨g3, g1, g4, g5⟩
 ·rw [upd_ne (Nat.ne_of_lt (Heap.lt_size q))]; exact n
 ·rw [upd_ne (old b _ q)]; exact q
 ·rw [upd_ne (old b _ q)]; exact q
 ·rw [upd_ne (old b _ q), q]; simp
 ·obtain ⟨o, es, ep, ho, r⟩ := hm
  exact ⟨o, es, ep, k _ o (Ne.symm f1.2.1) (Ne.symm f2.2.1) ho, r⟩
 ·by_cases hb : b = s.heap.objs.size
  ·subst hb; rw [upd_same] at q; cases q; exact new
  ·rw [upd_ne hb] at q
   refine (I.hok b u q).stay (fun c v hc z => ?_) (fun c z => by rw [upd_ne (old c _ z)]; exact z) fun c xs z => by rw [upd_ne (old c _ z)]; exact z
   rcases hc with y | y
   ·subst y; exact k _ v (nit _ u q).1 (nit _ u q).2 z
   ·exact k c v (nit c _ y).1 (nit c _ y).2 z
theorem boot_enum : bootBuiltins "enumerate" = some (.type "enumerate") := by decide +kernel
end L2
namespace L3
open PySem PySem.Spec PyProof.Rows L2
noncomputable def enD : Nat → List D → List D
 | _, [] => []
 | i, d :: r => .tup [.int (i : Int), d] :: enD (i + 1) r
theorem enD_length : ∀ {i : Nat} {ds : List D}, (enD i ds).length = ds.length
 | _, [] => rfl
 | _, _ :: r => by show (enD _ r).length + 1 = r.length + 1; rw [enD_length]
theorem enD_get : ∀ {j i : Nat} {ds : List D} {d : D}, ds[i]? = some d → (enD j ds)[i]? = some (.tup [.int ((j + i : Nat) : Int), d])
 | j, 0, d :: r, _, h => by cases h; rfl
 | j, i + 1, d :: r, e, h => by
  have := enD_get (j := j + 1) (i := i) (ds := r) (d := e) (by simpa using h)
  show (enD (j + 1) r)[i]? = _
  rw [this, show j + 1 + i = j + (i + 1) by omega]
 | _, _, [], _, h => by simp at h
end L3
namespace L2
open PySem PySem.Spec PyProof.Rows
end L2
namespace L3
open PySem PySem.Spec PyProof.Rows L2
end L3
namespace L2
open PySem PySem.Spec PyProof.Rows
section
variable {X : Cx}
theorem call_isinstT : CallR X (.builtin "isinstance") (fun xs H Q => ∃ a ys T, xs = [.ref a, .ty T] ∧ SqT X.K H a ys ∧ (T = "int" ∨ T = "str" ∨ T = "bool" ∨ T = "list" ∨ T = "tuple" ∨ T = "dict") ∧ Q (.bl (subK "tuple" T)) H) := by
 intro pins s σ H xs us Q I r h
 obtain ⟨a, ys, T, rfl, hq, hT, q⟩ := h
 obtain ⟨u, w, rfl, rx, rt⟩ := vals2 r
 cases rt
 cases rx
 obtain ⟨its, rv, p, hz⟩ := I.tuple hq
 obtain ⟨o, h1, h2, _⟩ := p
 exact PySem.W.kia_one PySem.W.kitx_tuple I.kIn ⟨o, h1, h2⟩ (kit_sub (by simp) hT) (fun z => nomatch z) fun tk => ⟨.bl (subK "tuple" T), H, I.tok tk, rfl, q⟩
end
end L2
namespace L3
open PySem PySem.Spec PyProof.Rows L2
section
variable {X : Cx}
end
end L3
namespace Law
open PySem L2 L3 Rw
set_option maxHeartbeats 4000000
theorem st_step {i k m : Nat} (h : i + (k + 1) = m) : i + 1 + k = m := by omega
theorem to_nat {v : Int} (h : 0 ≤ v) : ∃ x : Nat, v = (x : Int) := ⟨v.toNat, by omega⟩
theorem rng_ok {m : Nat} (h : m ≤ 100000) : -(2 ^ 62) ≤ (m : Int) ∧ (m : Int) < 2 ^ 62 := ⟨by omega, by omega⟩
theorem lt_ne {j i : Nat} (h : j < i + 1) (e : ¬ i = j) : j < i := by omega
theorem lt_ne' {j i : Nat} (h : j < i + 1) (e : ¬ j = i) : j < i := by omega
theorem i_lt {i k m : Nat} (h : i + (k + 1) = m) : i < m := by omega
theorem nlt {x sz : Nat} (h : (x : Int) < (sz : Int)) : x < sz := by omega
theorem tn_lt {v : Int} {n : Nat} (h0 : 0 ≤ v) (h : v < (n : Int)) : v.toNat < n := by omega
theorem cases4 {t : Int} (h0 : 0 ≤ t) (h : t < 4) : t = 0 ∨ t = 1 ∨ t = 2 ∨ t = 3 := by omega
theorem ipos {n : Nat} (h : 0 < n) : (0 : Int) < (n : Int) := by omega
theorem ismall {n : Nat} (h : n ≤ 1000) : (n : Int) < 1073741824 := by omega
theorem nint {i j : Nat} (h : ¬ i = j) : ¬ (i : Int) = (j : Int) := by omega
theorem le_step {a k m : Nat} (h : a + (k + 1) ≤ m) : a + k ≤ m := by omega
theorem le_step1 {a k m : Nat} (h : a + (k + 1) ≤ m) : a + 1 + k ≤ m := by omega
theorem le_lt {a k m : Nat} (h : a + (k + 1) ≤ m) : a ≤ m := by omega
structure StAt (G : Gp) (st : Addr) : Prop where
 ex : ∃ (a : Addr) (ns : List Int) (k r : Int), G st = some (.lst [.ref a, .int k, .int r]) ∧ G a = some (.fro (ns.map .int)) ∧ 0 ≤ k ∧ 0 ≤ r ∧ a ≠ st ∧ ns.length ≤ 63
structure Adv (st : Addr) (G G' : Gp) : Prop where
 at_ : StAt G' st
 kp : ∀ b o, b ≠ st → G b = some o → G' b = some o
structure Upd1 (a : Addr) (bs : List Int) (G G' : Gp) : Prop where
 at_ : G' a = some (.lst (bs.map .int))
 kp : ∀ b, b ≠ a → G' b = G b
noncomputable def flds (ra ha : Addr) (s : Nat) : List (Str × D) := [("rows", .ref ra), ("held", .ref ha), ("spot", .int (s : Int))]
structure RideAt (C : Addr) (G : Gp) (p ra ha : Addr) (rs : List Row) (bs : List Int) (s : Nat) : Prop where
 ob : G p = some (.ins C (flds ra ha s))
 ro : G ra = some (.lst (rs.map Row.d))
 he : G ha = some (.lst (bs.map .int))
 ne : ra ≠ ha
structure Cde (sz : Nat) (rs : List Row) (bs : List Int) (s : Nat) : Prop where
 bo : BsOk sz bs
 ro : ∀ r ∈ rs, r.ok sz
 le : s ≤ rs.length
theorem RideAt.pr {C : Addr} {G : Gp} {p ra ha : Addr} {rs : List Row} {bs : List Int} {s : Nat} (h : RideAt C G p ra ha rs bs s) : p ≠ ra := by
 intro e; have := h.ob; rw [e, h.ro] at this; cases this
theorem ite_and {c1 c2 A B : Prop} [Decidable c1] [Decidable c2] (h1 : c1 → c2 → A) (h2 : ¬ (c1 ∧ c2) → B) : if decide c1 = true then (if decide c2 = true then A else B) else B := by
 by_cases a : c1
 ·by_cases b : c2
  ·simpa [a, b] using h1 a b
  ·simpa [a, b] using h2 fun z => b z.2
 ·simpa [a] using h2 fun z => a z.1
theorem StAt.new {G : Gp} {st p : Addr} {o : DO} (h : StAt G st) (hp : G p = none) : StAt (gup G p o) st := by
 obtain ⟨a, ns, k, r, h1, h2, h3⟩ := h.ex
 exact ⟨a, ns, k, r, by rw [gup_ne (gne h1 hp)]; exact h1, by rw [gup_ne (gne h2 hp)]; exact h2, h3⟩
theorem StAt.ne {G : Gp} {st p : Addr} (h : StAt G st) (hp : G p = none) : p ≠ st := by
 obtain ⟨a, ns, k, r, h1, h2, h3⟩ := h.ex
 exact Ne.symm (gne h1 hp)
theorem StAt.set {G : Gp} {st p : Addr} {xs ys : List D} (h : StAt G st) (hp : G p = some (.lst xs)) (hne : p ≠ st) : StAt (gup G p (.lst ys)) st := by
 obtain ⟨a, ns, k, r, h1, h2, h3⟩ := h.ex
 have : a ≠ p := by intro e; rw [e, hp] at h2; cases h2
 exact ⟨a, ns, k, r, by rw [gup_ne (Ne.symm hne)]; exact h1, by rw [gup_ne this]; exact h2, h3⟩
theorem Adv.refl {G : Gp} {st : Addr} (h : StAt G st) : Adv st G G := ⟨h, fun _ _ _ e => e⟩
theorem Adv.trans {st : Addr} {G G1 G2 : Gp} (a : Adv st G G1) (b : Adv st G1 G2) : Adv st G G2 := ⟨b.at_, fun c o hc e => b.kp c o hc (a.kp c o hc e)⟩
theorem Adv.new {st p : Addr} {G G1 : Gp} {o : DO} (a : Adv st G G1) (hp : G1 p = none) : Adv st G (gup G1 p o) := ⟨a.at_.new hp, fun c u hc e => by rw [gup_ne (gne (a.kp c u hc e) hp)]; exact a.kp c u hc e⟩
theorem Adv.own {st p : Addr} {G G1 : Gp} {xs ys : List D} (a : Adv st G G1) (hp : G p = none) (h1 : G1 p = some (.lst xs)) (hne : p ≠ st) : Adv st G (gup G1 p (.lst ys)) :=
 ⟨a.at_.set h1 hne, fun c u hc e => by rw [gup_ne (gne e hp)]; exact a.kp c u hc e⟩
theorem Adv.none {st p : Addr} {G G1 : Gp} (a : Adv st G G1) (hp : G1 p = none) (hne : p ≠ st) : G p = none := by
 cases e : G p with
 | none => rfl
 | some o => rw [a.kp p o hne e] at hp; cases hp
theorem RideAt.grow {C : Addr} {G G' : Gp} {p ra ha : Addr} {rs : List Row} {bs : List Int} {s : Nat} (h : RideAt C G p ra ha rs bs s) (g : Grow G G') : RideAt C G' p ra ha rs bs s :=
 ⟨g.kp _ _ h.ob, g.kp _ _ h.ro, g.kp _ _ h.he, h.ne⟩
structure Kept (p ha : Addr) (G G' : Gp) : Prop where
 kp : ∀ b o, b ≠ p → b ≠ ha → G b = some o → G' b = some o
theorem Kept.refl {p ha : Addr} {G : Gp} : Kept p ha G G := ⟨fun _ _ _ _ h => h⟩
theorem Kept.trans {p ha : Addr} {G G1 G2 : Gp} (a : Kept p ha G G1) (b : Kept p ha G1 G2) : Kept p ha G G2 := ⟨fun c o h1 h2 h => b.kp c o h1 h2 (a.kp c o h1 h2 h)⟩
theorem Kept.grow {p ha : Addr} {G G1 G2 : Gp} (a : Kept p ha G G1) (b : Grow G1 G2) : Kept p ha G G2 := ⟨fun c o h1 h2 h => b.kp c o (a.kp c o h1 h2 h)⟩
theorem Kept.none {p ha q : Addr} {G G1 : Gp} (a : Kept p ha G G1) (h1 : q ≠ p) (h2 : q ≠ ha) (h : G1 q = none) : G q = none := by
 cases e : G q with
 | none => rfl
 | some o => rw [a.kp q o h1 h2 e] at h; cases h
structure AllIn (C : Addr) (G : Gp) (p ra ha rr a : Addr) (rs : List Row) (bs : List Int) (s sz : Nat) : Prop where
 A : RideAt C G p ra ha rs bs s
 c : Cde sz rs bs s
 pl : ∀ r ∈ rs, r.plain = true
 le : sz ≤ 1000
 r : G rr = some (.lst (rs.map Row.d))
 b : G a = some (.lst (bs.map .int))
 rh : rr ≠ ha
 ah : a ≠ ha
structure AllOut (C : Addr) (G G' : Gp) (p ra ha a q : Addr) (rs : List Row) (bs : List Int) (s : Nat) : Prop where
 A : RideAt C G' p ra ha rs bs s
 b : G' q = some (.lst (bs.map .int))
 k : Kept p ha G G'
 q : q = a ∨ G q = none
end Law
namespace Rw
open PySem L2 L3
theorem mapM_all {α β : Type} {f : α → Option β} : ∀ {xs : List α}, (∀ x ∈ xs, ∃ y, f x = some y) → ∃ ys, xs.mapM f = some ys
 | [], _ => ⟨[], rfl⟩
 | x :: xs, h => by
  obtain ⟨y, hy⟩ := h x List.mem_cons_self
  obtain ⟨ys, hys⟩ := mapM_all (xs := xs) fun z hz => h z (List.mem_cons_of_mem _ hz)
  exact ⟨y :: ys, by rw [List.mapM_cons, hy, hys]; rfl⟩
theorem eq_selfs {n : Nat} : ∀ {ys : List Sn}, (∀ y ∈ ys, eqN n y y = some true) → ∃ bs, ((ys.zip ys).mapM fun p => eqN n p.1 p.2) = some bs ∧ bs.all id = true
 | [], _ => ⟨[], rfl, rfl⟩
 | y :: ys, h => by
  obtain ⟨bs, e, q⟩ := eq_selfs (ys := ys) fun z hz => h z (List.mem_cons_of_mem _ hz)
  refine ⟨true :: bs, ?_, by rw [List.all_cons, q]; rfl⟩
  rw [List.zip_cons_cons, List.mapM_cons, e, h y List.mem_cons_self]
  rfl
theorem mapM_mem {α β : Type} {f : α → Option β} : ∀ {xs : List α} {ys : List β}, xs.mapM f = some ys → ∀ y ∈ ys, ∃ x, f x = some y
 | [], ys, h, y, hy => by
  have : ys = [] := by simpa using h.symm
  subst this; cases hy
 | x :: xs, ys, h, y, hy => by
  rw [List.mapM_cons] at h
  cases hx : f x with
  | none => rw [hx] at h; cases h
  | some z =>
   rw [hx] at h
   cases hr : xs.mapM f with
   | none => rw [hr] at h; cases h
   | some r =>
    rw [hr] at h
    have e : z :: r = ys := Option.some.inj h
    subst e
    rcases List.mem_cons.mp hy with rfl | q
    ·exact ⟨x, hx⟩
    ·exact mapM_mem hr y q
theorem eq_self {G : Gp} : ∀ (n : Nat) {d : D} {s : Sn}, snap G n d = some s → eqN n s s = some true
 | n, .non, s, h => by cases n <;> (cases h; rfl)
 | n, .bl b, s, h => by cases n <;> (cases h; cases b <;> rfl)
 | n, .int i, s, h => by cases n <;> (cases h; simp [eqN, flatS, eqF])
 | n, .str i, s, h => by cases n <;> (cases h; simp [eqN, flatS, eqF])
 | n, .ty _, s, h => by cases n <;> cases h
 | 0, .tup _, s, h => by cases h
 | 0, .ref _, s, h => by cases h
 | n + 1, .tup ds, s, h => by
  obtain ⟨ys, e, rfl⟩ := Option.map_eq_some_iff.mp (show (ds.mapM (snap G n)).map Sn.tup = some s from h)
  obtain ⟨bs, e2, q⟩ := eq_selfs (n := n) (ys := ys) fun y hy => by obtain ⟨x, hx⟩ := mapM_mem e y hy; exact eq_self n hx
  show (if ys.length = ys.length then ((ys.zip ys).mapM fun p => eqN n p.1 p.2).map (fun bs => bs.all id) else none) = _
  rw [if_pos rfl, e2, Option.map_some, q]
 | n + 1, .ref a, s, h => by
  obtain ⟨ds, e0, h⟩ := Option.bind_eq_some_iff.mp (show ((seqOf (G a)).bind fun ds => (ds.mapM (snap G n)).map Sn.lst) = some s from h)
  obtain ⟨ys, e, rfl⟩ := Option.map_eq_some_iff.mp h
  obtain ⟨bs, e2, q⟩ := eq_selfs (n := n) (ys := ys) fun y hy => by obtain ⟨x, hx⟩ := mapM_mem e y hy; exact eq_self n hx
  show (if ys.length = ys.length then ((ys.zip ys).mapM fun p => eqN n p.1 p.2).map (fun bs => bs.all id) else some false) = _
  rw [if_pos rfl, e2, Option.map_some, q]
theorem snap_tup {G : Gp} {n : Nat} {ds : List D} (h : ∀ d ∈ ds, ∃ s, snap G n d = some s) : ∃ s, snap G (n + 1) (.tup ds) = some s := by
 obtain ⟨ys, e⟩ := mapM_all h
 exact ⟨.tup ys, by show (ds.mapM (snap G n)).map Sn.tup = _; rw [e]; rfl⟩
theorem snap_int {G : Gp} {n : Nat} {i : Int} : ∃ s, snap G n (.int i) = some s := by cases n <;> exact ⟨_, rfl⟩
theorem snap_str {G : Gp} {n : Nat} {i : Str} : ∃ s, snap G n (.str i) = some s := by cases n <;> exact ⟨_, rfl⟩
theorem all1 {p : D → Prop} {a : D} (h : p a) : ∀ d ∈ [a], p d := fun d hd => by cases List.mem_singleton.mp hd; exact h
theorem all2 {p : D → Prop} {a : D} {r : List D} (h : p a) (hr : ∀ d ∈ r, p d) : ∀ d ∈ a :: r, p d := fun d hd => by
 rcases List.mem_cons.mp hd with rfl | q
 ·exact h
 ·exact hr d q
theorem snap_opd {G : Gp} {n : Nat} (o : Opd) : ∃ s, snap G (n + 1) o.d = some s := by
 cases o with
 | num m => exact snap_tup (all2 snap_str (all1 snap_int))
 | box y => exact snap_tup (all2 snap_str (all1 snap_int))
theorem snap_row {G : Gp} {n : Nat} (r : Row) : ∃ s, snap G (n + 3) r.d = some s := by
 cases r with
 | add x o => exact snap_tup (all2 snap_str (all2 snap_int (all1 (snap_opd o))))
 | take x o => exact snap_tup (all2 snap_str (all2 snap_int (all1 (snap_opd o))))
 | turn x i cs =>
  refine snap_tup (all2 snap_str (all2 snap_int (all2 snap_int (all1 (snap_tup fun d hd => ?_)))))
  obtain ⟨c, _, rfl⟩ := List.mem_map.mp hd
  exact snap_tup (all2 snap_int (all1 snap_int))
 | swap x y => exact snap_tup (all2 snap_str (all2 snap_int (all1 snap_int)))
 | go x m k => exact snap_tup (all2 snap_str (all2 snap_int (all2 snap_int (all1 snap_int))))
 | come x m k => exact snap_tup (all2 snap_str (all2 snap_int (all2 snap_int (all1 snap_int))))
theorem snap_rows {G : Gp} {n : Nat} {a : Addr} {rs : List Row} (h : seqOf (G a) = some (rs.map Row.d)) : ∃ s, snap G (n + 4) (.ref a) = some s := by
 obtain ⟨ys, e⟩ := mapM_all (f := snap G (n + 3)) (xs := rs.map Row.d) fun d hd => by
  obtain ⟨r, _, rfl⟩ := List.mem_map.mp hd
  exact snap_row r
 exact ⟨.lst ys, by show ((seqOf (G a)).bind fun ds => (ds.mapM (snap G (n + 3))).map Sn.lst) = _; rw [h, Option.bind_some, e]; rfl⟩
theorem snap_ref {G : Gp} {n : Nat} {a b : Addr} (h : seqOf (G a) = seqOf (G b)) : snap G n (.ref a) = snap G n (.ref b) := by
 cases n with
 | zero => rfl
 | succ n => show ((seqOf (G a)).bind _) = ((seqOf (G b)).bind _); rw [h]
end Rw
namespace Law
open PySem L2 L3 Rw
set_option maxHeartbeats 4000000
structure Pairs (rs : List Row) : Prop where
 go : ∀ (j x : Nat) (n : Int) (k : Nat), rs[j]? = some (Row.go x n k) → rs[k]? = some (.come x n j)
 co : ∀ (j x : Nat) (n : Int) (k : Nat), rs[j]? = some (Row.come x n k) → rs[k]? = some (.go x n j)
theorem lt_of {α : Type} {xs : List α} {i : Nat} {x : α} (h : xs[i]? = some x) : i < xs.length := (List.getElem?_eq_some_iff.mp h).1
noncomputable def od : Option Row → D
 | none => .non
 | some r => r.d
structure PairsO (os : List (Option Row)) : Prop where
 go : ∀ (j x : Nat) (n : Int) (k : Nat), os[j]? = some (some (Row.go x n k)) → os[k]? = some (some (.come x n j))
 co : ∀ (j x : Nat) (n : Int) (k : Nat), os[j]? = some (some (Row.come x n k)) → os[k]? = some (some (.go x n j))
theorem PairsO.plain {os : List (Option Row)} {i : Nat} {r : Row} (h : PairsO os) (hi : os[i]? = some none) (hr : r.plain = true) : PairsO (os.set i (some r)) := by
 have hl := lt_of hi
 refine ⟨fun j x n k e => ?_, fun j x n k e => ?_⟩
 ·rw [List.getElem?_set] at e ⊢
  by_cases hj : i = j
  ·subst hj; rw [if_pos rfl, if_pos hl] at e; cases e; cases hr
  ·rw [if_neg hj] at e
   have q := h.go j x n k e
   by_cases hk : i = k
   ·subst hk; rw [hi] at q; cases q
   ·rw [if_neg hk]; exact q
 ·rw [List.getElem?_set] at e ⊢
  by_cases hj : i = j
  ·subst hj; rw [if_pos rfl, if_pos hl] at e; cases e; cases hr
  ·rw [if_neg hj] at e
   have q := h.co j x n k e
   by_cases hk : i = k
   ·subst hk; rw [hi] at q; cases q
   ·rw [if_neg hk]; exact q
theorem PairsO.pair {os : List (Option Row)} {i l : Nat} {x : Nat} {n : Int} {a b : Row} (h : PairsO os) (hi : os[i]? = some none) (hl : os[l]? = some none) (hne : l ≠ i) (hab : (a = .go x n l ∧ b = .come x n i) ∨ (a = .come x n l ∧ b = .go x n i)) :
  PairsO ((os.set i (some a)).set l (some b)) := by
 have li := lt_of hi
 have ll := lt_of hl
 have at_ : ∀ j, ((os.set i (some a)).set l (some b))[j]? = if j = l then some (some b) else if j = i then some (some a) else os[j]? := by
  intro j
  rw [List.getElem?_set, List.getElem?_set, List.length_set]
  by_cases h1 : l = j
  ·subst h1; simp [ll]
  ·rw [if_neg h1, if_neg (Ne.symm h1)]
   by_cases h2 : i = j
   ·subst h2; simp [li]
   ·rw [if_neg h2, if_neg (Ne.symm h2)]
 refine ⟨fun j y m k e => ?_, fun j y m k e => ?_⟩
 ·rw [at_] at e ⊢
  by_cases hj : j = l
  ·subst hj
   rw [if_pos rfl] at e
   rcases hab with ⟨ha, hb⟩ | ⟨ha, hb⟩
   ·rw [hb] at e; cases e
   ·rw [hb] at e; cases e; rw [if_neg (Ne.symm hne), if_pos rfl, ha]
  ·rw [if_neg hj] at e
   by_cases hji : j = i
   ·subst hji
    rw [if_pos rfl] at e
    rcases hab with ⟨ha, hb⟩ | ⟨ha, hb⟩
    ·rw [ha] at e; cases e; rw [if_pos rfl, hb]
    ·rw [ha] at e; cases e
   ·rw [if_neg hji] at e
    have q := h.go j y m k e
    by_cases k1 : k = l
    ·subst k1; rw [hl] at q; cases q
    ·by_cases k2 : k = i
     ·subst k2; rw [hi] at q; cases q
     ·rw [if_neg k1, if_neg k2]; exact q
 ·rw [at_] at e ⊢
  by_cases hj : j = l
  ·subst hj
   rw [if_pos rfl] at e
   rcases hab with ⟨ha, hb⟩ | ⟨ha, hb⟩
   ·rw [hb] at e; cases e; rw [if_neg (Ne.symm hne), if_pos rfl, ha]
   ·rw [hb] at e; cases e
  ·rw [if_neg hj] at e
   by_cases hji : j = i
   ·subst hji
    rw [if_pos rfl] at e
    rcases hab with ⟨ha, hb⟩ | ⟨ha, hb⟩
    ·rw [ha] at e; cases e
    ·rw [ha] at e; cases e; rw [if_pos rfl, hb]
   ·rw [if_neg hji] at e
    have q := h.co j y m k e
    by_cases k1 : k = l
    ·subst k1; rw [hl] at q; cases q
    ·by_cases k2 : k = i
     ·subst k2; rw [hi] at q; cases q
     ·rw [if_neg k1, if_neg k2]; exact q
theorem PairsO.empty {m : Nat} : PairsO (List.replicate m none) := by
 refine ⟨fun j x n k e => ?_, fun j x n k e => ?_⟩ <;> (rw [List.getElem?_replicate] at e; split at e <;> cases e)
theorem all_laid {os : List (Option Row)} (h : ∀ j, j < os.length → ∃ r, os[j]? = some (some r)) : ∃ rs : List Row, os = rs.map some := by
 induction os with
 | nil => exact ⟨[], rfl⟩
 | cons o os ih =>
  obtain ⟨r, hr⟩ := h 0 (by simp)
  obtain ⟨rs, hrs⟩ := ih fun j hj => by
   obtain ⟨r, e⟩ := h (j + 1) (by simpa using hj)
   exact ⟨r, by simpa using e⟩
  refine ⟨r :: rs, ?_⟩
  have : o = some r := by simpa using hr
  rw [this, hrs]; rfl
theorem PairsO.pairs {rs : List Row} (h : PairsO (rs.map some)) : Pairs rs := by
 have e : ∀ {j : Nat} {r : Row}, rs[j]? = some r ↔ (rs.map some)[j]? = some (some r) := fun {j r} => by
  rw [List.getElem?_map]
  cases rs[j]? <;> simp
 exact ⟨fun j x n k q => e.mpr (h.go j x n k (e.mp q)), fun j x n k q => e.mpr (h.co j x n k (e.mp q))⟩
theorem od_laid {rs : List Row} : (rs.map some).map od = rs.map Row.d := by rw [List.map_map]; rfl
end Law
namespace Law
open PySem L2 L3 Rw
structure Ent where
 s : Nat
 q : Addr
 bs : List Int
noncomputable def Ent.d (e : Ent) : D := .tup [.int (e.s : Int), .ref e.q]
theorem StAt.grow {G G' : Gp} {st : Addr} (h : StAt G st) (g : Grow G G') : StAt G' st := by
 obtain ⟨a, ns, k, r, h1, h2, h3⟩ := h.ex
 exact ⟨a, ns, k, r, g.kp _ _ h1, g.kp _ _ h2, h3⟩
end Law
namespace Law
open PySem L2 L3 Rw
end Law
namespace Law
open PySem L2 L3 Rw
end Law
namespace L3
open PySem PySem.Spec PyProof.Rows L2
theorem mem2 {w a b : Str} : decide (w ∈ [a, b]) = (decide (w = a) || decide (w = b)) := by
 by_cases h1 : w = a
 ·simp [h1]
 ·by_cases h2 : w = b
  ·simp [h2]
  ·simp [h1, h2]
theorem xin_all : (∀ w a b G q, xInB false (.str w) (.tup [.str a, .str b]) G q = q (.bl (decide (w = a) || decide (w = b))) G) ∧ (∀ w a b G q, xInB true (.str w) (.tup [.str a, .str b]) G q = q (.bl (!(decide (w = a) || decide (w = b)))) G) ∧
  (∀ v a G q, xInB true (.int v) (.ref a) G q = (match seqOf (G a) with | some ds => (match intsOf ds with | some ws => q (.bl (!decide (v ∈ ws))) G | none => False) | none => False)) ∧
  (∀ v a G q, xInB false (.int v) (.ref a) G q = (match seqOf (G a) with | some ds => (match intsOf ds with | some ws => q (.bl (decide (v ∈ ws))) G | none => False) | none => False)) ∧
  (∀ i j G q, xEqB true (.bl i) (.bl j) G q = q (.bl (!decide (i = j))) G) ∧ (∀ i j G q, xEqB false (.bl i) (.bl j) G q = q (.bl (decide (i = j))) G) ∧
  (∀ a b G q, xAdd (.ref a) (.ref b) G q = (match G a, G b with | some (.lst xs), some (.lst ys) => xs.length + ys.length ≤ sizeLine ∧ ∀ p, G p = none → q (.ref p) (gup G p (.lst (xs ++ ys))) | _, _ => False)) ∧ ((2 ≤ sizeLine) = True) := by
 refine ⟨fun w a b G q => ?_, fun w a b G q => ?_, fun _ _ _ _ => rfl, fun _ _ _ _ => rfl, fun _ _ _ _ => rfl, fun _ _ _ _ => rfl, fun _ _ _ _ => rfl, eq_true (by decide)⟩
 ·show q (.bl (decide (w ∈ [a, b]))) G = _
  rw [mem2]
 ·show q (.bl (!decide (w ∈ [a, b]))) G = _
  rw [mem2]
theorem allBl_rep : ∀ m : Nat, allBl (List.replicate m (.bl true)) = some (List.replicate m true)
 | 0 => rfl
 | m + 1 => by rw [List.replicate_succ, allBl, allBl_rep m]; rfl
theorem all_rep (m : Nat) : (List.replicate m true).all id = true := by simp
end L3
namespace Rw
open PySem L2 L3
noncomputable def rb : Row → List Int
 | .add _ (.box y) => [(y : Int)]
 | .take _ (.box y) => [(y : Int)]
 | .turn _ _ cs => cs.map fun c => (c.1 : Int)
 | .swap _ y => [(y : Int)]
 | _ => []
noncomputable def Row.x : Row → Nat
 | .add x _ => x
 | .take x _ => x
 | .turn x _ _ => x
 | .swap x _ => x
 | .go x _ _ => x
 | .come x _ _ => x
theorem kindsT (r : Row) : (∃ w x o, (r = .add x o ∨ r = .take x o) ∧ r.d = .tup [.str w, .int (x : Int), o.d] ∧ (decide (w = ("add" : Str)) || decide (w = ("take" : Str))) = true) ∨ (∃ x i cs, r = .turn x i cs) ∨ (∃ x y, r = .swap x y) ∨
  ∃ w x n k, (r = .go x n k ∨ r = .come x n k) ∧ r.d = .tup [.str w, .int (x : Int), .int n, .int (k : Int)] ∧ (decide (w = ("add" : Str)) || decide (w = ("take" : Str))) = false ∧ (w = ("turn" : Str)) = False ∧ (w = ("swap" : Str)) = False ∧ (decide (w = ("go" : Str)) || decide (w = ("come" : Str))) = true := by
 cases r with
 | add x o => exact .inl ⟨_, x, o, .inl rfl, rfl, by decide⟩
 | take x o => exact .inl ⟨_, x, o, .inr rfl, rfl, by decide⟩
 | turn x i cs => exact .inr (.inl ⟨x, i, cs, rfl⟩)
 | swap x y => exact .inr (.inr (.inl ⟨x, y, rfl⟩))
 | go x n k => exact .inr (.inr (.inr ⟨_, x, n, k, .inl rfl, rfl, by decide, sn_go_turn, sn_go_swap, by decide⟩))
 | come x n k => exact .inr (.inr (.inr ⟨_, x, n, k, .inr rfl, rfl, by decide, sn_come_turn, sn_come_swap, by decide⟩))
end Rw
namespace Law
open PySem L2 L3 Rw
structure Ent2 where
 fw : Bool
 s : Nat
 q : Addr
 bs : List Int
noncomputable def Ent2.d (e : Ent2) : D := .tup [.bl e.fw, .int (e.s : Int), .ref e.q]
end Law
namespace Law
open PySem L2 L3 Rw
theorem Pairs.lt {rs : List Row} (hp : Pairs rs) {j : Nat} {r : Row} (h : rs[j]? = some r) : ∀ x n k, (r = .go x n k ∨ r = .come x n k) → k < rs.length := by
 intro x n k hr
 rcases hr with rfl | rfl
 ·exact lt_of (hp.go _ _ _ _ h)
 ·exact lt_of (hp.co _ _ _ _ h)
end Law
namespace L2
open PySem PySem.Spec PyProof.Rows
section
variable {X : Cx}
end
end L2
namespace L3
open PySem PySem.Spec PyProof.Rows L2
section
variable {X : Cx}
end
end L3
namespace L2
open PySem PySem.Spec PyProof.Rows
theorem Inv.turnedN {X : Cx} {pins : List (Addr × Obj)} {σ : List (Option V)} {H : Hp} {s : Shared} {h' : Heap} {t' : Nat} {fp : List Addr} (I : Inv X pins σ H s) (k : ∀ b o, b ∉ fp → s.heap.get? b = some o → h'.get? b = some o)
  (f : ∀ b ∈ fp, FpOk X pins H b) : Inv X pins σ H { s with heap := h', toks := t' } := by
 have nit : ∀ b u, H b = some u → b ∉ fp := fun b u e z => by rw [(f b z).1] at e; cases e
 refine I.step (g' := s.gens) (d' := s.drawn) (ch := fp) (fun b hb => ?_) (fun b o _ _ hc e _ => k b o hc e) (fun b o _ _ hc e _ => ⟨o.slots, k b o hc e⟩) (fun _ _ _ _ n => n)
  (fun b o hc e => ⟨o, k b o hc e⟩) (fun _ _ e => e) (fun _ _ _ e => e) (fun b ps e => ⟨#[], by rw [e]; simp⟩) (fun m hm => ?_) (fun b u e => ?_) I.bare
 ·obtain ⟨g0, g1, g2, g3, g4, g5⟩ := f b hb
  exact ⟨g3, g1, g4, g5⟩
 ·obtain ⟨o, es, ep, ho, r⟩ := hm
  exact ⟨o, es, ep, k _ o (fun z => (f _ z).2.1 rfl) ho, r⟩
 ·refine (I.hok b u e).stay (fun c v hc q => k c v ?_ q) (fun _ q => q) fun _ _ q => q
  rcases hc with z | z
  ·rw [z]; exact nit b u e
  ·exact nit c _ z
theorem Inv.turnedL {X : Cx} {pins : List (Addr × Obj)} {σ : List (Option V)} {H : Hp} {s : Shared} {h' : Heap} {t' : Nat} {fp : List Addr} {o : HO} (I : Inv X pins σ H s) (k : ∀ b o, b ∉ fp → s.heap.get? b = some o → h'.get? b = some o)
  (f : ∀ b ∈ fp, FpOk X pins H b) (new : ObjOk X.prog X.w (upd H s.heap.objs.size o) h' s.heap.objs.size o) : Inv X pins σ (upd H s.heap.objs.size o) { s with heap := h', toks := t' } := by
 have hn : H s.heap.objs.size = none := I.hok.fresh (Nat.le_refl _)
 have old : ∀ b u, H b = some u → b ≠ s.heap.objs.size := fun b u q z => by rw [z, hn] at q; cases q
 have nit : ∀ b u, H b = some u → b ∉ fp := fun b u e z => by rw [(f b z).1] at e; cases e
 refine I.step (g' := s.gens) (d' := s.drawn) (ch := fp) (fun b hb => ?_) (fun b o _ _ hc q _ => k b o hc q) (fun b o _ _ hc q _ => ⟨o.slots, k b o hc q⟩) (fun b u _ q n => ?_)
  (fun b o hc q => ⟨o, k b o hc q⟩) (fun b xs q => ?_) (fun b o u q => ?_) (fun b ps q => ⟨#[], ?_⟩) (fun m hm => ?_) (fun b u q => ?_) I.bare
 ·obtain ⟨g0, g1, g2, g3, g4, g5⟩ := f b hb
  exact ⟨g3, g1, g4, g5⟩
 ·rw [upd_ne (Nat.ne_of_lt (Heap.lt_size q))]; exact n
 ·rw [upd_ne (old b _ q)]; exact q
 ·rw [upd_ne (old b _ q)]; exact q
 ·rw [upd_ne (old b _ q), q]; simp
 ·obtain ⟨o, es, ep, ho, r⟩ := hm
  exact ⟨o, es, ep, k _ o (fun z => (f _ z).2.1 rfl) ho, r⟩
 ·by_cases hb : b = s.heap.objs.size
  ·subst hb; rw [upd_same] at q; cases q; exact new
  ·rw [upd_ne hb] at q
   refine (I.hok b u q).stay (fun c v hc z => ?_) (fun c z => by rw [upd_ne (old c _ z)]; exact z) fun c xs z => by rw [upd_ne (old c _ z)]; exact z
   rcases hc with y | y
   ·subst y; exact k _ v (nit _ u q) z
   ·exact k c v (nit c _ y) z
noncomputable def Itz (K : PySem.W.Frag) (a b : Addr) : It :=
 ⟨fun i H => ∃ xs ys x y, SqL K H a xs ∧ SqL K H b ys ∧ xs[i]? = some x ∧ ys[i]? = some y, fun i H v H' => ∃ p x y, v = .ref p ∧ H p = none ∧ H' = upd H p (.tup [x, y]) ∧ (∀ xs, SqL K H a xs → xs[i]? = some x) ∧ ∀ ys, SqL K H b ys → ys[i]? = some y,
  fun i H => ∃ xs ys, SqL K H a xs ∧ SqL K H b ys ∧ (xs.length ≤ i ∨ ys.length ≤ i)⟩
def ZpSt (a b z TI TO i1 i2 : Addr) (i : Nat) (h : Heap) : Prop := IsZip h z TI TO .none ∧ IsPair h TI (.ref i1) (.ref i2) ∧ (∃ u v, IsPair h TO u v) ∧ h.IsListIter i1 a i ∧ h.IsListIter i2 b i
theorem turn_zip {P : Program} {w : World} {K : PySem.W.Frag} {elts : List Expr} {x1} {pos : Pos} {a b z TI TO i1 i2 : Addr} (ap : ZipApart z TI TO i1 i2 a b) : Turn P w K (.Tuple elts x1 pos) (Itz K a b) [z, TI, TO, i1, i2] z (ZpSt a b z TI TO i1 i2) where
 mem := by simp
 obj := fun i h st c hc => by
  obtain ⟨h1, h2, ⟨u, v, h3⟩, h4, h5⟩ := st
  simp only [List.mem_cons, List.not_mem_nil, or_false] at hc
  rcases hc with q | q | q | q | q <;> subst q
  ·exact ⟨_, h1, fun v z => by cases (show Data.fields _ = Data.cell v from z)⟩
  ·exact ⟨_, h2, fun v z => by cases (show Data.seq _ _ = Data.cell v from z)⟩
  ·exact ⟨_, h3, fun v z => by cases (show Data.seq _ _ = Data.cell v from z)⟩
  ·obtain ⟨o, e, c, d⟩ := h4
   exact ⟨o, e, fun v z => by rw [d] at z; cases z⟩
  ·obtain ⟨o, e, c, d⟩ := h5
   exact ⟨o, e, fun v z => by rw [d] at z; cases z⟩
 keep := fun i h h' st k => by
  obtain ⟨h1, h2, ⟨u, v, h3⟩, h4, h5⟩ := st
  exact ⟨k z (by simp) _ h1, k TI (by simp) _ h2, ⟨u, v, k TO (by simp) _ h3⟩, h4.at fun o q => k i1 (by simp) o q, h5.at fun o q => k i2 (by simp) o q⟩
 item := by
  intro X hP hw hK hc i pins s σ H E I hf st hg
  subst hP hw hK
  obtain ⟨h1, h2, ⟨u0, v0, h3⟩, h4, h5⟩ := st
  obtain ⟨xs, ys, x, y, hq, hq2, hx, hy⟩ := hg
  obtain ⟨its, rv, p, hz⟩ := I.list hq
  obtain ⟨its2, rv2, p2, hz2⟩ := I.list hq2
  obtain ⟨u, hu, ru⟩ := rv.get hx
  obtain ⟨u2, hu2, ru2⟩ := rv2.get hy
  have hn : H s.heap.objs.size = none := I.hok.fresh (Nat.le_refl _)
  have lt : ∀ {c o}, s.heap.get? c = some o → c ≠ s.heap.objs.size := fun e => Nat.ne_of_lt (Heap.lt_size e)
  refine wpAny_pyNext_zip_item ap h1 h2 h3 h4 h5 p.isList p2.isList (x := u) (y := u2) (by simpa using hu) (by simpa using hu2) fun h' k1 k2 k3 k4 k5 k6 k7 => ?_
  refine ⟨_, rfl, wpAny_letOwnedTupleGo_zip k1 fun h'' m1 m2 => ?_⟩
  replace m2 : Heap.SameBut z h' h'' := m2
  have hk : ∀ c o, c ∉ [z, TI, TO, i1, i2] → s.heap.get? c = some o → h''.get? c = some o := fun c o hc q => by
   simp only [List.mem_cons, List.not_mem_nil, or_false, not_or] at hc
   exact (m2.2 c hc.1).trans (k7 c o hc.1 hc.2.2.1 hc.2.2.2.1 hc.2.2.2.2 q)
  have k5' := (m2.2 s.heap.objs.size (Ne.symm (lt h1))).trans k5
  refine ⟨.ref s.heap.objs.size, upd H s.heap.objs.size (.tup [x, y]), I.turnedL (t' := s.toks) hk hf ?_, rfl, ⟨_, x, y, rfl, hn, rfl, fun ws hy' => by rw [I.list_inj hy' hq]; exact hx, fun ws hy' => by rw [I.list_inj hy' hq2]; exact hy⟩, ⟨m1, ?_, ⟨u, u2, ?_⟩, ?_, ?_⟩, fun c hc => ?_⟩
  ·exact ⟨show 2 ≤ sizeLine by decide, [u, u2], .cons ru (.cons ru2 .nil), ⟨_, k5', rfl, ⟨_, rfl⟩, rfl⟩⟩
  ·exact (m2.2 TI ap.TIz).trans (k7 TI _ ap.TIz ap.TITO ap.TIi1 ap.TIi2 h2)
  ·exact (m2.2 TO ap.TOz).trans k2
  ·exact k3.at fun o q => (m2.2 i1 ap.i1z).trans q
  ·exact k4.at fun o q => (m2.2 i2 ap.i2z).trans q
  ·rw [upd_ne ?_]; exact (hf c hc).1
   simp only [List.mem_cons, List.not_mem_nil, or_false] at hc
   rcases hc with q | q | q | q | q <;> subst q
   ·exact lt h1
   ·exact lt h2
   ·exact lt h3
   ·obtain ⟨o, e, _⟩ := h4; exact lt e
   ·obtain ⟨o, e, _⟩ := h5; exact lt e
 done := by
  intro X hP hw hK hc i pins s σ H E I hf st hg
  subst hP hw hK
  obtain ⟨h1, h2, ⟨u0, v0, h3⟩, h4, h5⟩ := st
  obtain ⟨xs, ys, hq, hq2, hx⟩ := hg
  obtain ⟨its, rv, p, hz⟩ := I.list hq
  obtain ⟨its2, rv2, p2, hz2⟩ := I.list hq2
  have hl := rv.length
  have hl2 := rv2.length
  refine wpAny_pyNext_zip_end (I.ok.hd hc) ap h1 h2 h3 h4 h5 p.isList p2.isList (by simp; omega) fun h' k => ⟨rfl, I.turnedN (fp := [z, TI, TO, i1, i2]) (t' := s.toks) (fun c o hc q => ?_) hf⟩
  simp only [List.mem_cons, List.not_mem_nil, or_false, not_or] at hc
  exact k c o hc.1 hc.2.2.1 hc.2.2.2.1 hc.2.2.2.2 q
 self := fun _ _ _ _ _ st h => wpAny_pyIter_zip st.1 h
def iZip (K : PySem.W.Frag) (ta : TA) : TI := fun σ H R => ta σ H fun vs H1 => ∃ a b, vs = [.ref a, .ref b] ∧ (∃ xs, SqL K H1 a xs) ∧ (∃ xs, SqL K H1 b xs) ∧ R (Itz K a b) H1
theorem pi_zip {X : Cx} {elts : List Expr} {x1} {tpos : Pos} {a b : Expr} {ta : TA} {p pos : Pos} (hg : Gl X "zip") (hm : X.mg "zip" = none) (ha : PA X [a, b] ta) (hs : starEach [a, b] X.env = (false, eval a X.env) :: starEach [b] X.env := by rfl) (hs2 : (backTo pos (starEach [b] X.env)).any (·.1) = false := by rfl) :
  PI X (.Tuple elts x1 tpos) (.Call (.Name "zip" p) [a, b] [] pos) (iZip X.K ta) := by
 intro pins s σ H R I h
 refine Call_ (ld_blt I hg hm boot_zip (PyProof.Rows.callWith_type1 (thn (ha pos pins s σ H _ I h) fun us s1 ⟨vs, H1, I1, r1, q1⟩ => ?_) hs hs2))
 obtain ⟨l, m, e, ⟨xs, hq⟩, ⟨ys, hq2⟩, q⟩ := q1
 subst e
 cases r1 with
 | cons r rr =>
  cases rr with
  | cons r2 rr =>
   cases rr
   cases r
   cases r2
   obtain ⟨its, rv, pl, hz⟩ := I1.list hq
   obtain ⟨its2, rv2, pl2, hz2⟩ := I1.list hq2
   have hll : l < s1.heap.objs.size := by obtain ⟨o, e, _⟩ := pl.isList; exact Heap.lt_size e
   have hlm : m < s1.heap.objs.size := by obtain ⟨o, e, _⟩ := pl2.isList; exact Heap.lt_size e
   refine call_zip_2 pl.isList pl2.isList fun h' k1 k2 k3 k4 k5 k6 k7 => ?_
   refine wpAny_pyIter_zip k1 ?_
   have I2 : Inv X pins σ H1 { s1 with heap := h' } := I1.kept (t' := s1.toks) k7
   refine ⟨_, _, _, _, H1, rfl, I2, turn_zip (zipApart_new hll hlm), ⟨k1, k2, ⟨_, _, k3⟩, k4, k5⟩, fun c hc => ?_, q⟩
   have hb : s1.heap.objs.size ≤ c := by
    simp only [List.mem_cons, List.not_mem_nil, or_false] at hc
    rcases hc with q | q | q | q | q <;> subst q <;> omega
   exact I1.fpOk hb (I1.hok.fresh hb)
end L2
namespace L3
open PySem PySem.Spec PyProof.Rows L2
noncomputable def zpD : List D → List D → List D
 | d :: r, e :: t => .tup [d, e] :: zpD r t
 | _, _ => []
theorem zpD_len : ∀ {ds es : List D}, (zpD ds es).length = min ds.length es.length
 | [], [] => rfl
 | [], _ :: _ => by simp [zpD]
 | _ :: _, [] => by simp [zpD]
 | _ :: r, _ :: t => by show (zpD r t).length + 1 = _; rw [zpD_len]; simp
theorem zpD_get : ∀ {i : Nat} {ds es : List D} {d e : D}, ds[i]? = some d → es[i]? = some e → (zpD ds es)[i]? = some (.tup [d, e])
 | 0, d :: r, e :: t, _, _, h1, h2 => by cases h1; cases h2; rfl
 | i + 1, d :: r, e :: t, _, _, h1, h2 => zpD_get (i := i) (ds := r) (es := t) (by simpa using h1) (by simpa using h2)
 | _, [], _, _, _, h, _ => by simp at h
 | _, _ :: _, [], _, _, _, h => by simp at h
theorem itrel_zip {K : PySem.W.Frag} {H0 : Hp} {a b : Addr} {ds es : List D} : ItRel K H0 ⟨zpD ds es, fun G => seqOf (G a) = some ds ∧ seqOf (G b) = some es⟩ (Itz K a b) where
 go := fun i G H l c ok hi => by
  obtain ⟨xs, s, r⟩ := sql_of c ok.1
  obtain ⟨ys, s2, r2⟩ := sql_of c ok.2
  rw [zpD_len] at hi
  exact ⟨xs, ys, xs[i]'(by rw [← r.length]; omega), ys[i]'(by rw [← r2.length]; omega), s, s2, List.getElem?_eq_getElem _, List.getElem?_eq_getElem _⟩
 stop := fun i G H l c ok hi => by
  obtain ⟨xs, s, r⟩ := sql_of c ok.1
  obtain ⟨ys, s2, r2⟩ := sql_of c ok.2
  rw [zpD_len] at hi
  exact ⟨xs, ys, s, s2, by rw [← r.length, ← r2.length]; omega⟩
 yld := fun i G H x H' l c ok hi y => by
  obtain ⟨p, v, v2, rfl, hp, rfl, y, y2⟩ := y
  obtain ⟨xs, s, r⟩ := sql_of c ok.1
  obtain ⟨ys, s2, r2⟩ := sql_of c ok.2
  obtain ⟨d, hd, rd⟩ := r.at_ (y xs s)
  obtain ⟨e, he, re⟩ := r2.at_ (y2 ys s2)
  refine ⟨c.side hp, Le.fresh hp, .tup [d, e], zpD_get hd he, ?_⟩
  rw [RelD]
  exact ⟨p, _, rfl, SqT.of upd_same, .cons (RelD.le (Le.fresh hp) rd) (.cons (RelD.le (Le.fresh hp) re) .nil)⟩
def wZip (t : TA3) : TI3 := fun σ G r => t σ G fun ds G1 => match ds with
 | [.ref a, .ref b] => (match seqOf (G1 a), seqOf (G1 b) with | some ds, some es => r ⟨zpD ds es, fun G => seqOf (G a) = some ds ∧ seqOf (G b) = some es⟩ G1 | _, _ => False)
 | _ => False
theorem low_wZip {K : PySem.W.Frag} {t : TA3} {σ : L2.St} {H : Hp} {R : It → Hp → Prop} (h : lowI K (wZip t) σ H R) : iZip K (lowA K t) σ H R := by
 obtain ⟨σd, G, q, rs, c, t, f⟩ := h
 refine ⟨σd, G, _, rs, c, t, fun ds G1 vs H1 r1 c1 l1 t1 => ?_⟩
 split at t1
 ·rename_i a b
  split at t1
  ·rename_i ds es e e2
   obtain ⟨v, vs', rfl, rv, r2⟩ := r1.inv_cons
   obtain ⟨v2, rfl, rv2⟩ := r2.one
   cases rv.ref_inv
   cases rv2.ref_inv
   obtain ⟨xs, s1, q1⟩ := sql_of c1 e
   obtain ⟨ys, s2, q2⟩ := sql_of c1 e2
   exact ⟨a, b, rfl, ⟨xs, s1⟩, ⟨ys, s2⟩, f _ _ _ _ itrel_zip c1 l1 t1⟩
  ·exact t1.elim
 ·exact t1.elim
theorem i_zip {X : Cx} {elts : List Expr} {x1} {tpos : Pos} {a b : Expr} {ts : TA3} {p pos : Pos} (hg : Gl X "zip") (hm : X.mg "zip" = none) (ha : A3 X [a, b] ts) (hs : starEach [a, b] X.env = (false, eval a X.env) :: starEach [b] X.env := by rfl) (hs2 : (backTo pos (starEach [b] X.env)).any (·.1) = false := by rfl) :
  I3 X (.Tuple elts x1 tpos) (.Call (.Name "zip" p) [a, b] [] pos) (wZip ts) := weakI (pi_zip hg hm ha hs hs2) fun _ _ _ => low_wZip
end L3
namespace L2
open PySem PySem.Spec PyProof.Rows
end L2
namespace L3
open PySem PySem.Spec PyProof.Rows L2
end L3
namespace L3
open PySem PySem.Spec PyProof.Rows L2 Rw
noncomputable def stn (k m : Nat) : Bool := k == 0 || m.testBit (k - 1)
def Src (G : Gp) (s a : Addr) : Prop := ∃ (ns : List Int) (x y : Int), G s = some (.lst [.ref a, .int x, .int y]) ∧ G a = some (.lst (ns.map .int)) ∧ 0 ≤ x ∧ s ≠ a
structure Ady (s a : Addr) (G G' : Gp) : Prop where
 at_ : Src G' s a
 kp : ∀ c o, c ≠ s → c ≠ a → G c = some o → G' c = some o
theorem Src.ne {G : Gp} {s a p : Addr} (h : Src G s a) (hp : G p = none) : p ≠ s ∧ p ≠ a := by
 obtain ⟨ns, x, y, h1, h2, _⟩ := h
 exact ⟨fun e => (by rw [e, h1] at hp; cases hp), fun e => (by rw [e, h2] at hp; cases hp)⟩
theorem Src.put {G : Gp} {s a p : Addr} {o : DO} (h : Src G s a) (hs : p ≠ s) (ha : p ≠ a) : Src (gup G p o) s a := by
 obtain ⟨ns, x, y, h1, h2, h3, h4⟩ := h
 exact ⟨ns, x, y, by rw [gup_ne (Ne.symm hs)]; exact h1, by rw [gup_ne (Ne.symm ha)]; exact h2, h3, h4⟩
theorem Src.grow {G G' : Gp} {s a : Addr} (h : Src G s a) (g : Grow G G') : Src G' s a := by
 obtain ⟨ns, x, y, h1, h2, h3⟩ := h
 exact ⟨ns, x, y, g.kp _ _ h1, g.kp _ _ h2, h3⟩
theorem Ady.trans {s a : Addr} {G G1 G2 : Gp} (h : Ady s a G G1) (k : Ady s a G1 G2) : Ady s a G G2 := ⟨k.at_, fun c o h1 h2 e => k.kp c o h1 h2 (h.kp c o h1 h2 e)⟩
theorem Ady.refl {s a : Addr} {G : Gp} (h : Src G s a) : Ady s a G G := ⟨h, fun _ _ _ _ e => e⟩
theorem Ady.new {s a p : Addr} {G G1 : Gp} {o : DO} (h : Ady s a G G1) (hp : G1 p = none) : Ady s a G (gup G1 p o) :=
 ⟨h.at_.put (h.at_.ne hp).1 (h.at_.ne hp).2, fun c u h1 h2 e => by rw [gup_ne (gne (h.kp c u h1 h2 e) hp)]; exact h.kp c u h1 h2 e⟩
end L3
namespace L2
open PySem PySem.Spec PyProof.Rows
noncomputable abbrev IsZipO (h : Heap) (z TI TO T : Addr) (f : Bool) : Prop := h.get? z = some { cls := .type "zip", data := .fields #[rawInt (T : Int), .bool f, .bool false, .ref TI, .ref TO] }
theorem far {z t : Addr} {n : Nat} (a : z < n) (b : n ≤ t) : t ≠ z := Nat.ne_of_gt (Nat.lt_of_lt_of_le a b)
structure LzSt (l1 l2 z TI TO i1 i2 S : Addr) (xs ys : Array Value) (i : Nat) (h : Heap) : Prop where
 zz : IsZip h z TI TO .none ∨ ∃ T f oT, IsZipO h z TI TO T f ∧ h.get? T = some oT ∧ T ≠ z ∧ T ≠ TO ∧ T ≠ i1 ∧ T ≠ i2 ∧ T ≠ S
 ti : IsPair h TI (.ref i1) (.ref i2)
 to : ∃ u v, IsPair h TO u v
 h1 : h.IsListIter i1 l1 i
 h2 : h.IsListIter i2 l2 i
 m1 : h.IsList l1 xs
 m2 : h.IsList l2 ys
structure LzTs (n0 : Nat) (xs ys : Array Value) (h : Heap) (ts : List Addr) : Prop where
 nd : ts.Nodup
 at_ : ∀ (j : Nat) (t : Addr), ts[j]? = some t → n0 ≤ t ∧ ∃ x y, xs[j]? = some x ∧ ys[j]? = some y ∧ IsPair h t x y
end L2
namespace L3
open PySem PySem.Spec PyProof.Rows L2
end L3
namespace L3
open PySem PySem.Spec PyProof.Rows L2
section
variable {X : Cx} {o : Expr} {to : TE3} {apos cpos : Pos}
end
end L3
namespace L3
open PySem PySem.Spec PyProof.Rows L2 Rw
noncomputable abbrev Mv := Bool × Nat
noncomputable def nD (x : Nat) : D := .int (x : Int)
noncomputable def stb (k m : Nat) : Bool := m.testBit (k - 1)
noncomputable def xr (m k : Nat) : Nat := m ^^^ 2 ^ (k - 1)
noncomputable def hi (m : Nat) : Nat := if m = 0 then 0 else m.log2 + 1
theorem lt_hi (m : Nat) : m < 2 ^ hi m := by
 unfold hi
 by_cases h : m = 0
 ·subst h; simp
 ·rw [if_neg h]; exact Nat.lt_log2_self
def okw : Nat → List Mv → Prop
 | _, [] => True
 | m, p :: r => (1 ≤ p.2 ∧ p.2 ≤ 900) ∧ p.1 = !stb p.2 m ∧ okw (xr m p.2) r
noncomputable def fin : Nat → List Mv → Nat
 | m, [] => m
 | m, p :: r => fin (xr m p.2) r
noncomputable def low : Nat → List Mv → Nat
 | m, [] => hi m
 | m, p :: r => min (low (xr m p.2) r) (hi m)
noncomputable def thw : Nat → List Mv → List Mv
 | _, [] => []
 | m, p :: r => if p.2 ≤ low (xr m p.2) r then p :: thw (xr m p.2) r else thw (xr m p.2) r
noncomputable def once (w : List Mv) : List Mv := thw 0 w
noncomputable def sbh : Nat → List Mv → List Nat
 | _, [] => []
 | m, p :: r => xr m p.2 :: sbh (xr m p.2) r
theorem fin_app : ∀ {l r : List Mv} {m : Nat}, fin m (l ++ r) = fin (fin m l) r
 | [], _, _ => rfl
 | p :: l, r, m => by show fin (xr m p.2) (l ++ r) = _; rw [fin_app]; rfl
theorem thw_sub : ∀ {w : List Mv} {m : Nat}, (thw m w).Sublist w
 | [], _ => .slnil
 | p :: r, m => by
  rw [thw]
  split
  ·exact thw_sub.cons₂ _
  ·exact thw_sub.cons _
theorem mod_min {m l : Nat} : m % 2 ^ (min l (hi m)) = m % 2 ^ l := by
 rcases Nat.le_total l (hi m) with h | h
 ·rw [Nat.min_eq_left h]
 ·rw [Nat.min_eq_right h, Nat.mod_eq_of_lt (lt_hi m), Nat.mod_eq_of_lt (Nat.lt_of_lt_of_le (lt_hi m) (Nat.pow_le_pow_right (by decide) h))]
theorem xr_mod {m k l : Nat} (h1 : 1 ≤ k) (h : k ≤ l) : xr (m % 2 ^ l) k = xr m k % 2 ^ l := Nat.eq_of_testBit_eq fun j => by
 unfold xr
 rw [Nat.testBit_xor, Nat.testBit_mod_two_pow, Nat.testBit_mod_two_pow, Nat.testBit_xor, Nat.testBit_two_pow]
 by_cases e : k - 1 = j
 ·have : j < l := by omega
  simp [e, this]
 ·simp [e]
theorem xr_mod2 {m k l : Nat} (h : l < k) : m % 2 ^ l = xr m k % 2 ^ l := Nat.eq_of_testBit_eq fun j => by
 unfold xr
 rw [Nat.testBit_mod_two_pow, Nat.testBit_mod_two_pow, Nat.testBit_xor, Nat.testBit_two_pow]
 by_cases e : k - 1 = j
 ·have : ¬ j < l := by omega
  simp [this]
 ·simp [e]
theorem stb_mod {m k l : Nat} (h1 : 1 ≤ k) (h : k ≤ l) : stb k (m % 2 ^ l) = stb k m := by
 unfold stb
 rw [Nat.testBit_mod_two_pow]
 have : k - 1 < l := by omega
 simp [this]
theorem okw_thw : ∀ {w : List Mv} {m : Nat}, okw m w → okw (m % 2 ^ low m w) (thw m w)
 | [], _, _ => trivial
 | p :: r, m, ⟨h1, h2, h3⟩ => by
  have ih := okw_thw h3
  show okw (m % 2 ^ min (low (xr m p.2) r) (hi m)) (if p.2 ≤ low (xr m p.2) r then p :: thw (xr m p.2) r else thw (xr m p.2) r)
  rw [mod_min]
  split
  ·rename_i hk
   refine ⟨h1, by rw [stb_mod h1.1 hk]; exact h2, ?_⟩
   rw [xr_mod h1.1 hk]
   exact ih
  ·rename_i hk
   rw [xr_mod2 (by omega : low (xr m p.2) r < p.2)]
   exact ih
theorem okw_once {w : List Mv} (h : okw 0 w) : okw 0 (once w) := by
 have := okw_thw h
 rw [Nat.zero_mod] at this
 exact this
theorem once_len (w : List Mv) : (once w).length ≤ w.length := thw_sub.length_le
noncomputable def itn : Nat → List Mv → List Mv
 | 0, w => w
 | n + 1, w => once (itn n w)
theorem okw_itn {w : List Mv} (h : okw 0 w) : ∀ n, okw 0 (itn n w)
 | 0 => h
 | n + 1 => okw_once (okw_itn h n)
theorem itn_len {w : List Mv} : ∀ n, (itn n w).length ≤ w.length
 | 0 => Nat.le_refl _
 | n + 1 => Nat.le_trans (once_len _) (itn_len n)
def Fx (w x : List Mv) : Prop := (∃ n, x = itn n w) ∧ once x = x
theorem Fx.self {w x : List Mv} (h : Fx w x) : Fx x x := ⟨⟨0, rfl⟩, h.2⟩
theorem Fx.ok {w x : List Mv} (h : Fx w x) (hw : okw 0 w) : okw 0 x := by obtain ⟨⟨a, rfl⟩, _⟩ := h; exact okw_itn hw a
theorem Fx.len {w x : List Mv} (h : Fx w x) : x.length ≤ w.length := by obtain ⟨⟨a, rfl⟩, _⟩ := h; exact itn_len a
noncomputable def hD (x : Nat) : D := nD (hi x)
end L3
namespace L2
open PySem PySem.Spec PyProof.Rows
section
variable {X : Cx}
end
end L2
namespace L3
open PySem PySem.Spec PyProof.Rows L2
section
variable {X : Cx} {K : PySem.W.Frag} {H : Hp}
end
end L3
namespace L3
open PySem PySem.Spec PyProof.Rows L2 Rw
noncomputable def cnt : Nat → Nat → Nat
 | 0, _ => 0
 | n + 1, m => cnt n m + (if m.testBit n then 1 else 0)
theorem cnt_mono : ∀ {n m m' : Nat}, (∀ i, m.testBit i = true → m'.testBit i = true) → cnt n m ≤ cnt n m'
 | 0, _, _, _ => Nat.le_refl _
 | n + 1, m, m', h => by
  have ih := cnt_mono (n := n) h
  rw [cnt, cnt]
  cases e : m.testBit n with
  | true => rw [h n e]; simp; omega
  | false => simp; omega
theorem cnt_mod {n m l : Nat} : cnt n (m % 2 ^ l) ≤ cnt n m := cnt_mono fun i h => by
 rw [Nat.testBit_mod_two_pow] at h
 simp at h
 exact h.2
theorem cnt_same : ∀ {n m m' : Nat}, (∀ i, i < n → m.testBit i = m'.testBit i) → cnt n m = cnt n m'
 | 0, _, _, _ => rfl
 | n + 1, m, m', h => by
  rw [cnt, cnt, cnt_same (n := n) fun i hi => h i (by omega), h n (by omega)]
theorem xr_bit {m k j : Nat} : (xr m k).testBit j = (m.testBit j ^^ decide (k - 1 = j)) := by
 unfold xr
 rw [Nat.testBit_xor, Nat.testBit_two_pow]
theorem cnt_up : ∀ {n m k : Nat}, 1 ≤ k → k ≤ n → stb k m = false → cnt n (xr m k) = cnt n m + 1
 | 0, _, _, h1, h2, _ => by omega
 | n + 1, m, k, h1, h2, h => by
  unfold stb at h
  by_cases e : k - 1 = n
  ·subst e
   have e1 : cnt (k - 1) (xr m k) = cnt (k - 1) m := cnt_same fun i hi => by
    have : ¬ (k - 1 = i) := by omega
    rw [xr_bit]; simp [this]
   rw [cnt, cnt, e1, xr_bit, h]
   simp
  ·have ih := cnt_up (n := n) (m := m) h1 (by omega) h
   rw [cnt, cnt, ih, xr_bit]
   simp [e]
   omega
theorem cnt_down : ∀ {n m k : Nat}, 1 ≤ k → k ≤ n → stb k m = true → cnt n (xr m k) + 1 = cnt n m
 | 0, _, _, h1, h2, _ => by omega
 | n + 1, m, k, h1, h2, h => by
  unfold stb at h
  by_cases e : k - 1 = n
  ·subst e
   have e1 : cnt (k - 1) (xr m k) = cnt (k - 1) m := cnt_same fun i hi => by
    have : ¬ (k - 1 = i) := by omega
    rw [xr_bit]; simp [this]
   rw [cnt, cnt, e1, xr_bit, h]
   simp
  ·have ih := cnt_down (n := n) (m := m) h1 (by omega) h
   rw [cnt, cnt, xr_bit]
   simp [e]
   omega
def lgl (n s m : Nat) (p : Mv) : Prop := (1 ≤ p.2 ∧ p.2 ≤ n) ∧ (p.2 = 1 ∨ m.testBit (p.2 - 2) = true) ∧ p.1 = (!stb p.2 m) ∧ (p.1 = true → cnt n m < s)
def lgw (n s : Nat) : Nat → List Mv → Prop
 | _, [] => True
 | m, p :: r => lgl n s m p ∧ lgw n s (xr m p.2) r
theorem lgw_app {n s : Nat} : ∀ {l r : List Mv} {m : Nat}, lgw n s m (l ++ r) ↔ lgw n s m l ∧ lgw n s (fin m l) r
 | [], r, m => by show lgw n s m r ↔ True ∧ lgw n s m r; simp
 | p :: l, r, m => by
  show lgl n s m p ∧ lgw n s (xr m p.2) (l ++ r) ↔ (lgl n s m p ∧ lgw n s (xr m p.2) l) ∧ lgw n s (fin (xr m p.2) l) r
  rw [lgw_app, and_assoc]
theorem lgw_ok {n s : Nat} (hn : n ≤ 900) : ∀ {w : List Mv} {m : Nat}, lgw n s m w → okw m w
 | [], _, _ => trivial
 | p :: r, m, ⟨⟨h1, h2, h3, h4⟩, h5⟩ => ⟨⟨h1.1, by omega⟩, h3, lgw_ok hn h5⟩
theorem lgw_thw {n s : Nat} : ∀ {w : List Mv} {m : Nat}, lgw n s m w → lgw n s (m % 2 ^ low m w) (thw m w)
 | [], _, _ => trivial
 | p :: r, m, ⟨⟨h1, h2, h3, h4⟩, h5⟩ => by
  have ih := lgw_thw h5
  show lgw n s (m % 2 ^ min (low (xr m p.2) r) (hi m)) (if p.2 ≤ low (xr m p.2) r then p :: thw (xr m p.2) r else thw (xr m p.2) r)
  rw [mod_min]
  split
  ·rename_i hk
   refine ⟨⟨h1, ?_, by rw [stb_mod h1.1 hk]; exact h3, fun e => Nat.lt_of_le_of_lt cnt_mod (h4 e)⟩, ?_⟩
   ·rcases h2 with h2 | h2
    ·exact .inl h2
    ·right
     rw [Nat.testBit_mod_two_pow, h2]
     simp
     omega
   ·rw [xr_mod h1.1 hk]
    exact ih
  ·rename_i hk
   rw [xr_mod2 (by omega : low (xr m p.2) r < p.2)]
   exact ih
theorem fin_thw : ∀ {w : List Mv} {m : Nat}, okw m w → fin (m % 2 ^ low m w) (thw m w) = fin m w
 | [], m, _ => by
  show m % 2 ^ hi m = m
  exact Nat.mod_eq_of_lt (lt_hi m)
 | p :: r, m, ⟨h1, _, h5⟩ => by
  have ih := fin_thw h5
  show fin (m % 2 ^ min (low (xr m p.2) r) (hi m)) (if p.2 ≤ low (xr m p.2) r then p :: thw (xr m p.2) r else thw (xr m p.2) r) = fin (xr m p.2) r
  rw [mod_min]
  split
  ·rename_i hk
   show fin (xr (m % 2 ^ low (xr m p.2) r) p.2) (thw (xr m p.2) r) = _
   rw [xr_mod h1.1 hk]
   exact ih
  ·rename_i hk
   rw [xr_mod2 (by omega : low (xr m p.2) r < p.2)]
   exact ih
theorem sets_thw : ∀ {w : List Mv} {m : Nat}, okw m w → ∀ x, x ∈ (m % 2 ^ low m w) :: sbh (m % 2 ^ low m w) (thw m w) → ∃ y l, y ∈ m :: sbh m w ∧ x = y % 2 ^ l
 | [], m, _, x, hx => by
  have : x = m % 2 ^ low m [] := by simpa [thw, sbh] using hx
  exact ⟨m, _, by simp, this⟩
 | p :: r, m, ⟨h1, _, h5⟩, x, hx => by
  have ih := sets_thw h5
  have e : low m (p :: r) = min (low (xr m p.2) r) (hi m) := rfl
  rw [e, mod_min] at hx
  rw [thw] at hx
  split at hx
  ·rename_i hk
   rcases List.mem_cons.mp hx with hx | hx
   ·exact ⟨m, _, by simp, hx⟩
   ·have hx : x ∈ xr (m % 2 ^ low (xr m p.2) r) p.2 :: sbh (xr (m % 2 ^ low (xr m p.2) r) p.2) (thw (xr m p.2) r) := hx
    rw [xr_mod h1.1 hk] at hx
    obtain ⟨y, l, hy, e⟩ := ih x hx
    exact ⟨y, l, List.mem_cons_of_mem _ hy, e⟩
  ·rename_i hk
   rw [xr_mod2 (by omega : low (xr m p.2) r < p.2)] at hx
   obtain ⟨y, l, hy, e⟩ := ih x hx
   exact ⟨y, l, List.mem_cons_of_mem _ hy, e⟩
structure Thn (n s : Nat) (w x : List Mv) : Prop where
 leg : lgw n s 0 x
 fin : fin 0 x = fin 0 w
 sub : x.Sublist w
 cnt : ∀ a ∈ 0 :: sbh 0 x, ∃ b ∈ 0 :: sbh 0 w, cnt 24 a ≤ cnt 24 b
theorem Thn.once {n s : Nat} {w x : List Mv} (hn : n ≤ 900) (h : Thn n s w x) : Thn n s w (once x) := by
 have ok := lgw_ok hn h.leg
 have z : 0 % 2 ^ low 0 x = 0 := Nat.zero_mod _
 refine ⟨?_, ?_, thw_sub.trans h.sub, fun a ha => ?_⟩
 ·have := lgw_thw h.leg
  rw [z] at this; exact this
 ·have := fin_thw ok
  rw [z] at this
  exact this.trans h.fin
 ·have := sets_thw ok a
  rw [z] at this
  obtain ⟨y, l, hy, rfl⟩ := this ha
  obtain ⟨b, hb, e⟩ := h.cnt y hy
  exact ⟨b, hb, Nat.le_trans cnt_mod e⟩
theorem Thn.itn {n s : Nat} {w : List Mv} (hn : n ≤ 900) (h : lgw n s 0 w) : ∀ k, Thn n s w (itn k w)
 | 0 => ⟨h, rfl, List.Sublist.refl _, fun a ha => ⟨a, ha, Nat.le_refl _⟩⟩
 | k + 1 => (Thn.itn hn h k).once hn
theorem Fx.thn {n s : Nat} {w x : List Mv} (hn : n ≤ 900) (h : lgw n s 0 w) (f : Fx w x) : Thn n s w x := by
 obtain ⟨⟨k, rfl⟩, _⟩ := f
 exact Thn.itn hn h k
theorem lgw_mem {n s : Nat} : ∀ {w : List Mv} {m : Nat}, lgw n s m w → ∀ p ∈ w, 1 ≤ p.2 ∧ p.2 ≤ n
 | [], _, _, p, hp => by simp at hp
 | q :: r, m, ⟨h1, h2⟩, p, hp => by
  rcases List.mem_cons.mp hp with e | hp
  ·subst e; exact h1.1
  ·exact lgw_mem h2 p hp
noncomputable def bkw (w : List Mv) : List Mv := (w.map fun p => (!p.1, p.2)).reverse
theorem stb_xr {m k : Nat} : stb k (xr m k) = !stb k m := by
 unfold stb
 rw [xr_bit]
 simp
theorem xr_xr {m k : Nat} : xr (xr m k) k = m := Nat.eq_of_testBit_eq fun j => by
 rw [xr_bit, xr_bit]
 cases m.testBit j <;> cases decide (k - 1 = j) <;> rfl
theorem lgw_bkw {n s : Nat} : ∀ {w : List Mv} {m : Nat}, cnt n m ≤ s → lgw n s m w → lgw n s (fin m w) (bkw w) ∧ fin (fin m w) (bkw w) = m
 | [], _, _, _ => ⟨trivial, rfl⟩
 | p :: r, m, h, ⟨⟨h1, h2, h3, h4⟩, h5⟩ => by
  have hc : cnt n (xr m p.2) ≤ s := by
   cases e : stb p.2 m with
   | true => have := cnt_down h1.1 h1.2 e; omega
   | false =>
    rw [e] at h3
    rw [cnt_up h1.1 h1.2 e]
    exact h4 h3
  obtain ⟨i1, i2⟩ := lgw_bkw hc h5
  have e : bkw (p :: r) = bkw r ++ [(!p.1, p.2)] := by unfold bkw; rw [List.map_cons, List.reverse_cons]
  have ef : fin m (p :: r) = fin (xr m p.2) r := rfl
  rw [e, ef, lgw_app, fin_app, i2]
  refine ⟨⟨i1, ⟨h1, ?_, ?_, fun hb => ?_⟩, trivial⟩, xr_xr⟩
  ·rcases h2 with h2 | h2
   ·exact .inl h2
   ·by_cases hk : p.2 = 1
    ·exact .inl hk
    ·right
     show (xr m p.2).testBit (p.2 - 2) = true
     rw [xr_bit, h2]
     have : ¬ (p.2 - 1 = p.2 - 2) := by omega
     simp [this]
  ·show (!p.1) = !stb p.2 (xr m p.2)
   rw [stb_xr, h3]
  ·have hp : p.1 = false := by simpa using hb
   rw [hp] at h3
   have hs : stb p.2 m = true := by simpa using h3.symm
   have := cnt_down h1.1 h1.2 hs
   omega
theorem xadd_lst {G : Gp} {a b : Addr} {xs ys : List D} {q : DK} (ha : G a = some (.lst xs)) (hb : G b = some (.lst ys)) (hz : xs.length + ys.length ≤ sizeLine) (k : ∀ p, G p = none → q (.ref p) (gup G p (.lst (xs ++ ys)))) : xAdd (.ref a) (.ref b) G q := by
 unfold xAdd
 simp only [ha, hb]
 exact ⟨hz, k⟩
theorem cut_take {α : Type} {xs : List α} {n : Nat} : cutD xs none (some (n : Int)) = xs.take n := by
 unfold cutD
 rw [HT.sIx_none, HT.sIx_nat, List.drop_zero, Nat.sub_zero]
 rcases Nat.le_total n xs.length with h | h
 ·rw [Nat.min_eq_left h]
 ·rw [Nat.min_eq_right h, List.take_of_length_le (Nat.le_refl _), List.take_of_length_le h]
theorem cnt_zero : ∀ {n : Nat}, cnt n 0 = 0
 | 0 => rfl
 | n + 1 => by rw [cnt, cnt_zero, Nat.zero_testBit]; rfl
end L3
namespace L3
open PySem PySem.Spec PyProof.Rows L2 Rw
noncomputable def cap : Nat → Bool → Nat
 | 0, _ => 0
 | s + 1, true => 2 ^ s
 | s + 1, false => 2 ^ (s + 1) - 1
def WOK (f l s : Nat) (b : Bool) (w : List Mv) : Prop := ∀ n S m, l ≤ n → (f = 0 ∨ m.testBit (f - 1) = true) → (∀ i, f ≤ i → i < l → m.testBit i = false) → cnt n m + s ≤ S →
 lgw n S m w ∧ (∀ i, (i < f ∨ l ≤ i) → (fin m w).testBit i = m.testBit i) ∧ (fin m w).testBit (l - 1) = true ∧ (b = true → ∀ i, f ≤ i → i + 1 < l → (fin m w).testBit i = false)
theorem WOK.fin_xr {f l s : Nat} {w : List Mv} (hl : f < l) (h : WOK f l s true w) {n S m : Nat} (hn : l ≤ n) (hf : f = 0 ∨ m.testBit (f - 1) = true) (hz : ∀ i, f ≤ i → i < l → m.testBit i = false) (hc : cnt n m + s ≤ S) : fin m w = xr m l := by
 obtain ⟨_, h2, h3, h4⟩ := h n S m hn hf hz hc
 refine Nat.eq_of_testBit_eq fun i => ?_
 rw [xr_bit]
 by_cases e : l - 1 = i
 ·subst e
  rw [h3, hz _ (by omega) (by omega)]
  simp
 ·have : decide (l - 1 = i) = false := decide_eq_false e
  rw [this, Bool.xor_false]
  by_cases h5 : i < f ∨ l ≤ i
  ·exact h2 i h5
  ·rw [h4 rfl i (by omega) (by omega), hz i (by omega) (by omega)]
theorem WOK.start {l s n S : Nat} {b : Bool} {w : List Mv} (h : WOK 0 l s b w) (hn : l ≤ n) (hs : s ≤ S) : lgw n S 0 w ∧ (fin 0 w).testBit (l - 1) = true := by
 obtain ⟨a, _, c, _⟩ := h n S 0 hn (.inl rfl) (fun i _ _ => Nat.zero_testBit i) (by rw [cnt_zero]; omega)
 exact ⟨a, c⟩
theorem WOK.left {l s n S : Nat} {w : List Mv} (h0 : 0 < l) (h : WOK 0 l s true w) (hn : l ≤ n) (hs : s ≤ S) : fin 0 w = 2 ^ (l - 1) := by
 have e := h.fin_xr h0 (n := n) (S := S) hn (.inl rfl) (fun i _ _ => Nat.zero_testBit i) (by rw [cnt_zero]; omega)
 rw [e]
 unfold xr
 exact Nat.zero_xor _
theorem cap_pos {s : Nat} {b : Bool} (h : 1 ≤ s) : 1 ≤ cap s b := by
 cases s with
 | zero => omega
 | succ s =>
  have := Nat.two_pow_pos s
  cases b
  ·simp only [cap]; rw [Nat.pow_succ]; omega
  ·simp only [cap]; omega
noncomputable abbrev Pm := Option Mv
noncomputable def nxp (m : Nat) : Pm → Nat
 | none => m
 | some p => xr m p.2
def okm (m : Nat) : Pm → Prop
 | none => True
 | some p => (1 ≤ p.2 ∧ p.2 ≤ 24) ∧ p.1 = !stb p.2 m
def okp : Nat → List Pm → Prop
 | _, [] => True
 | m, p :: r => okm m p ∧ okp (nxp m p) r
noncomputable def finp : Nat → List Pm → Nat
 | m, [] => m
 | m, p :: r => finp (nxp m p) r
theorem okp_app : ∀ {l r : List Pm} {m : Nat}, okp m (l ++ r) ↔ okp m l ∧ okp (finp m l) r
 | [], r, m => by show okp m r ↔ True ∧ okp m r; simp
 | p :: l, r, m => by
  show okm m p ∧ okp (nxp m p) (l ++ r) ↔ (okm m p ∧ okp (nxp m p) l) ∧ okp (finp (nxp m p) l) r
  rw [okp_app, and_assoc]
theorem finp_app : ∀ {l r : List Pm} {m : Nat}, finp m (l ++ r) = finp (finp m l) r
 | [], _, _ => rfl
 | p :: l, r, m => by show finp (nxp m p) (l ++ r) = _; rw [finp_app]; rfl
theorem okp_some {n s : Nat} (hn : n ≤ 24) : ∀ {w : List Mv} {m : Nat}, lgw n s m w → okp m (w.map some)
 | [], _, _ => trivial
 | p :: r, m, ⟨⟨h1, _, h3, _⟩, h5⟩ => ⟨⟨⟨h1.1, by omega⟩, h3⟩, okp_some hn h5⟩
theorem finp_some : ∀ {w : List Mv} {m : Nat}, finp m (w.map some) = fin m w
 | [], _ => rfl
 | p :: r, m => finp_some (w := r) (m := xr m p.2)
noncomputable def flp : Pm → Pm
 | none => none
 | some p => some (!p.1, p.2)
noncomputable def bkp (w : List Pm) : List Pm := (w.map flp).reverse
theorem bkp_some {w : List Mv} : bkp (w.map some) = (bkw w).map some := by
 unfold bkp bkw
 rw [List.map_map, List.map_reverse, List.map_map]
 rfl
def PLN (n s : Nat) (left : Bool) (P : List Pm) : Prop :=
 if left then ∃ w : List Mv, P = w.map some ∧ lgw n s 0 w ∧ fin 0 w = 2 ^ (n - 1)
 else ∃ u v : List Mv, P = u.map some ++ [none] ++ (bkw v).map some ∧ lgw n s 0 u ∧ lgw n s 0 v ∧ fin 0 u = fin 0 v ∧ (fin 0 u).testBit (n - 1) = true
theorem PLN.okp {n s : Nat} {left : Bool} {P : List Pm} (hn : n ≤ 24) (h : PLN n s left P) : okp 0 P := by
 unfold PLN at h
 split at h
 ·obtain ⟨w, rfl, hw, _⟩ := h
  exact okp_some hn hw
 ·obtain ⟨u, v, rfl, hu, hv, e, _⟩ := h
  rw [okp_app, okp_app, finp_app, finp_some]
  refine ⟨⟨okp_some hn hu, trivial, trivial⟩, ?_⟩
  show L3.okp (fin 0 u) _
  rw [e]
  exact okp_some hn (lgw_bkw (by rw [cnt_zero]; exact Nat.zero_le _) hv).1
theorem bkw_mem {w : List Mv} {p : Mv} (h : p ∈ bkw w) : ∃ q ∈ w, q.2 = p.2 := by
 unfold bkw at h
 rw [List.mem_reverse, List.mem_map] at h
 obtain ⟨q, hq, rfl⟩ := h
 exact ⟨q, hq, rfl⟩
theorem PLN.mem {n s : Nat} {left : Bool} {P : List Pm} (h : PLN n s left P) : ∀ p, some p ∈ P → 1 ≤ p.2 ∧ p.2 ≤ n := by
 unfold PLN at h
 intro p hp
 split at h
 ·obtain ⟨w, rfl, hw, _⟩ := h
  obtain ⟨q, hq, e⟩ := List.mem_map.mp hp
  cases e
  exact lgw_mem hw p hq
 ·obtain ⟨u, v, rfl, hu, hv, _⟩ := h
  rcases List.mem_append.mp hp with hp | hp
  ·rcases List.mem_append.mp hp with hp | hp
   ·obtain ⟨q, hq, e⟩ := List.mem_map.mp hp
    cases e
    exact lgw_mem hu p hq
   ·simp at hp
  ·obtain ⟨q, hq, e⟩ := List.mem_map.mp hp
   cases e
   obtain ⟨r, hr, er⟩ := bkw_mem hq
   rw [← er]
   exact lgw_mem hv r hr
theorem ok_false {P : Program} {w : World} {K : PySem.W.Frag} {mg : Str → Option Value} {base : Heap} {n : Nat} {x qual : Str} {st : Stmt} {ps : List Str} {d : FnAt K x qual st ps} {S : Sp3} (h : ∀ ds G R, ¬ S ds G R) : Ok P w mg base n d S :=
 ⟨fun vs H Q E ⟨ds, G, R, _, _, s, _⟩ => absurd s (h ds G R), fun A outer s H args us vs Q E _ _ _ _ ⟨ds, G, R, _, _, s, _⟩ => absurd s (h ds G R)⟩
theorem xadd_ls {G : Gp} {a b : Addr} {xs ys : List D} {q : DK} (ha : G a = some (.lst xs)) (hb : G b = some (.lst ys)) (hz : xs.length + ys.length ≤ 100000) (k : ∀ p, G p = none → q (.ref p) (gup G p (.lst (xs ++ ys)))) : xAdd (.ref a) (.ref b) G q :=
 xadd_lst ha hb (Nat.le_of_lt (Nat.lt_of_le_of_lt hz (by decide))) k
end L3
namespace Law
open PySem L2 L3 Rw
theorem Adv.grow {G G1 G2 : Gp} {st : Addr} (a : Adv st G G1) (g : Grow G1 G2) : Adv st G G2 := ⟨a.at_.grow g, fun c o h e => g.kp _ _ (a.kp c o h e)⟩
end Law
namespace L3
open PySem PySem.Spec PyProof.Rows L2 Rw
theorem bkw_bkw {w : List Mv} : bkw (bkw w) = w := by
 unfold bkw
 rw [List.map_reverse, List.reverse_reverse, List.map_map]
 have : ((fun p : Mv => (!p.1, p.2)) ∘ fun p : Mv => (!p.1, p.2)) = id := by funext p; show (!(!p.1), p.2) = p; rw [Bool.not_not]
 rw [this, List.map_id]
theorem PLN.turned {n s : Nat} {P : List Pm} (h : PLN n s false P) : PLN n s false (bkp P) := by
 unfold PLN at h ⊢
 rw [if_neg Bool.false_ne_true] at h ⊢
 obtain ⟨u, v, rfl, hu, hv, e, hb⟩ := h
 refine ⟨v, u, ?_, hv, hu, e.symm, by rw [← e]; exact hb⟩
 have : bkp (u.map some ++ [none] ++ (bkw v).map some) = bkp ((bkw v).map some) ++ [none] ++ bkp (u.map some) := by
  unfold bkp
  simp [flp]
 rw [this, bkp_some, bkp_some, bkw_bkw]
def ckp (n s : Nat) : Nat → Bool → List Pm → Prop
 | _, _, [] => True
 | m, sh, none :: r => (m.testBit (n - 1) = true ∧ sh = false) ∧ ckp n s m true r
 | m, sh, some p :: r => lgl n s m p ∧ ckp n s (xr m p.2) sh r
noncomputable def shw : Bool → List Pm → Bool
 | sh, [] => sh
 | _, none :: r => shw true r
 | sh, some _ :: r => shw sh r
theorem ckp_app {n s : Nat} : ∀ {l r : List Pm} {m : Nat} {sh : Bool}, ckp n s m sh (l ++ r) ↔ ckp n s m sh l ∧ ckp n s (finp m l) (shw sh l) r
 | [], r, m, sh => by show ckp n s m sh r ↔ True ∧ ckp n s m sh r; simp
 | none :: l, r, m, sh => by
  show _ ∧ ckp n s m true (l ++ r) ↔ (_ ∧ ckp n s m true l) ∧ ckp n s (finp m l) (shw true l) r
  rw [ckp_app]
  exact and_assoc.symm
 | some p :: l, r, m, sh => by
  show _ ∧ ckp n s (xr m p.2) sh (l ++ r) ↔ (_ ∧ ckp n s (xr m p.2) sh l) ∧ ckp n s (finp (xr m p.2) l) (shw sh l) r
  rw [ckp_app, and_assoc]
theorem shw_app : ∀ {l r : List Pm} {sh : Bool}, shw sh (l ++ r) = shw (shw sh l) r
 | [], _, _ => rfl
 | none :: l, r, sh => shw_app (l := l)
 | some _ :: l, r, sh => shw_app (l := l)
theorem ckp_some {n s : Nat} {sh : Bool} : ∀ {w : List Mv} {m : Nat}, lgw n s m w → ckp n s m sh (w.map some)
 | [], _, _ => trivial
 | p :: r, m, ⟨h1, h2⟩ => ⟨h1, ckp_some h2⟩
theorem shw_some {sh : Bool} : ∀ {w : List Mv}, shw sh (w.map some) = sh
 | [] => rfl
 | p :: r => shw_some (w := r)
theorem PLN.ckp {n s : Nat} {left : Bool} {P : List Pm} (h : PLN n s left P) : ckp n s 0 false P ∧ shw false P = (!left) ∧ finp 0 P = if left then 2 ^ (n - 1) else 0 := by
 unfold PLN at h
 split at h
 ·rename_i hl
  obtain ⟨w, rfl, hw, e⟩ := h
  refine ⟨ckp_some hw, by rw [shw_some, hl]; rfl, by rw [finp_some, hl, if_pos rfl]; exact e⟩
 ·rename_i hl
  have hl : left = false := by simpa using hl
  obtain ⟨u, v, rfl, hu, hv, e, hb⟩ := h
  obtain ⟨b1, b2⟩ := lgw_bkw (by rw [cnt_zero]; exact Nat.zero_le _) hv
  subst hl
  refine ⟨?_, ?_, ?_⟩
  ·rw [ckp_app, ckp_app, finp_app, finp_some, shw_some]
   refine ⟨⟨ckp_some hu, ⟨hb, rfl⟩, trivial⟩, ?_⟩
   show L3.ckp n s (fin 0 u) _ _
   rw [e]
   exact ckp_some b1
  ·rw [shw_app, shw_app, shw_some, shw_some]; rfl
  ·rw [finp_app, finp_app, if_neg Bool.false_ne_true, finp_some]
   show fin (finp 0 (u.map some)) (bkw v) = 0
   rw [finp_some, e]
   exact b2
end L3
namespace L2
open PySem PySem.Spec PyProof.Rows
section
variable {X : Cx} {pins : List (Addr × Obj)} {σ : L2.St} {H : Hp} {s : Shared} {a b : Addr} {A : Around} {E : Value → Shared → Prop}
end
end L2
namespace L3
open PySem PySem.Spec PyProof.Rows L2
noncomputable def valD (kvs : List (List Key × D)) (k : List Key) : Option D := (kvs.find? fun kv => decide (kv.1 = k)).map (·.2)
noncomputable def putT (kvs : List (List Key × D)) (k : List Key) (v : D) : List (List Key × D) :=
 if (kvs.any fun kv => decide (kv.1 = k)) = true then kvs.map (fun kv => if kv.1 = k then (kv.1, v) else kv) else kvs ++ [(k, v)]
section
variable {X : Cx} {K : PySem.W.Frag} {G : Gp} {H : Hp} {p : Addr}
theorem Le.dT {xs ys : List (List Key × V)} (h : H p = some (.dT xs)) : Le H (upd H p (.dT ys)) :=
  ⟨fun b zs q => by by_cases e : b = p
                    · subst e; rw [h] at q; cases q
                    · rw [upd_ne e]; exact q,
   fun b o u q => by by_cases e : b = p
                     · subst e; rw [h] at q; cases q
                     · rw [upd_ne e]; exact q⟩
end
end L3
namespace L2
open PySem PySem.Spec PyProof.Rows
structure CmpIn (prog : Program) (w : World) (A : Around) (P : Nat → Value → Prop) (bt : Nat → Nat → Bool) (no : List Addr) (T : Heap → Prop) : Prop where
 keep : ∀ h h', T h → (∀ b o, b ∉ no → h.get? b = some o → h'.get? b = some o) → T h'
 cmp : ∀ i j x y (s : Shared) (Q : Value → Shared → Prop) (E : Value → Shared → Prop), T s.heap → P i x → P j y → Q (.bool (bt i j)) s → wpAny (model prog w) A (richCompare .Lt x y) Q E s
section
variable {prog : Program} {w : World} {A : Around} {R : Result → Shared → Prop} {it : Addr} {fp wr : List Addr} {n : Nat} {P : Nat → Value → Prop} {St : Nat → Heap → Prop} {T : Heap → Prop} {bt : Nat → Nat → Bool} {S : Addr}
end
section
variable {X : Cx}
end
end L2
namespace L3
open PySem PySem.Spec PyProof.Rows L2
section
variable {X : Cx} {K : PySem.W.Frag}
end
end L3
namespace L2
open PySem PySem.Spec PyProof.Rows
end L2
namespace L3
open PySem PySem.Spec PyProof.Rows L2
end L3
namespace L3
open PySem PySem.Spec PyProof.Rows L2 Rw
noncomputable def k3 (p b e : Nat) : List Key := [.inl (p : Int), .inl (b : Int), .inl (e : Int)]
noncomputable def k2 (p b : Nat) : List Key := [.inl (p : Int), .inl (b : Int)]
theorem k3_inj {p b e p' b' e' : Nat} (h : k3 p b e = k3 p' b' e') : p = p' ∧ b = b' ∧ e = e' := by
 unfold k3 at h
 simp at h
 omega
theorem k2_inj {p b p' b' : Nat} (h : k2 p b = k2 p' b') : p = p' ∧ b = b' := by
 unfold k2 at h
 simp at h
 omega
theorem find_app {kvs : List (List Key × D)} {k k' : List Key} {v : D} (hn : (kvs.any fun kv => decide (kv.1 = k)) = false) : valD (kvs ++ [(k, v)]) k' = if k' = k then some v else valD kvs k' := by
 induction kvs with
 | nil =>
  by_cases h : k' = k
  ·subst h; simp [valD]
  ·rw [if_neg h]
   have : ¬ k = k' := fun z => h z.symm
   simp [valD, this]
 | cons q r ih =>
  rw [List.any_cons, Bool.or_eq_false_iff] at hn
  have hq : ¬ q.1 = k := of_decide_eq_false hn.1
  have ih := ih hn.2
  by_cases h1 : q.1 = k'
  ·have h2 : ¬ k' = k := fun z => hq (h1.trans z)
   rw [if_neg h2]
   simp [valD, List.find?_cons, h1]
  ·have e1 : valD (q :: r ++ [(k, v)]) k' = valD (r ++ [(k, v)]) k' := by simp [valD, List.find?_cons, h1]
   have e2 : valD (q :: r) k' = valD r k' := by simp [valD, List.find?_cons, h1]
   rw [e1, e2, ih]
theorem valD_none {kvs : List (List Key × D)} {k : List Key} (h : valD kvs k = none) : (kvs.any fun kv => decide (kv.1 = k)) = false := by
 unfold valD at h
 rw [Option.map_eq_none_iff] at h
 rw [List.any_eq_false]
 intro x hx
 have := List.find?_eq_none.mp h x hx
 simpa using this
theorem val_put {kvs : List (List Key × D)} {k k' : List Key} {v : D} (h : valD kvs k = none) : valD (putT kvs k v) k' = if k' = k then some v else valD kvs k' := by
 have hn := valD_none h
 unfold putT
 rw [if_neg (by rw [hn]; decide)]
 exact find_app hn
def mA (p b e m : Nat) : Prop := if e - b = 1 then m = e else 2 ≤ p ∧ b < m ∧ m < e ∧ m - b ≤ cap (p - 1) true ∧ e - m ≤ cap (p - 1) true
def mR (n p b m : Nat) : Prop := if n - b = 1 then m = n else 2 ≤ p ∧ b < m ∧ m < n ∧ m - b ≤ cap p true ∧ n - m ≤ cap (p - 1) false
noncomputable def vD (w : Int) (m : Nat) : D := .tup [.int w, .int (m : Int)]
def TA (Dm : Nat → Nat → Nat → Prop) (kvs : List (List Key × D)) : Prop := ∀ p b e, (Dm p b e → ∃ w m, valD kvs (k3 p b e) = some (vD w m) ∧ mA p b e m) ∧ (¬ Dm p b e → valD kvs (k3 p b e) = none)
def TR (n : Nat) (Dm : Nat → Nat → Prop) (kvs : List (List Key × D)) : Prop := ∀ p b, (Dm p b → ∃ w m, valD kvs (k2 p b) = some (vD w m) ∧ mR n p b m) ∧ (¬ Dm p b → valD kvs (k2 p b) = none)
theorem TA.congr {D1 D2 : Nat → Nat → Nat → Prop} {kvs : List (List Key × D)} (h : TA D1 kvs) (e : ∀ p b e, D1 p b e ↔ D2 p b e) : TA D2 kvs := fun p b e' => ⟨fun z => (h p b e').1 ((e p b e').mpr z), fun z => (h p b e').2 fun q => z ((e p b e').mp q)⟩
theorem TR.congr {n : Nat} {D1 D2 : Nat → Nat → Prop} {kvs : List (List Key × D)} (h : TR n D1 kvs) (e : ∀ p b, D1 p b ↔ D2 p b) : TR n D2 kvs := fun p b => ⟨fun z => (h p b).1 ((e p b).mpr z), fun z => (h p b).2 fun q => z ((e p b).mp q)⟩
theorem TA.put {Dm : Nat → Nat → Nat → Prop} {kvs : List (List Key × D)} {p b e m : Nat} {w : Int} (h : TA Dm kvs) (hn : ¬ Dm p b e) (hm : mA p b e m) : TA (fun p' b' e' => Dm p' b' e' ∨ (p' = p ∧ b' = b ∧ e' = e)) (putT kvs (k3 p b e) (vD w m)) := by
 intro p' b' e'
 rw [val_put ((h p b e).2 hn)]
 by_cases hk : k3 p' b' e' = k3 p b e
 ·obtain ⟨rfl, rfl, rfl⟩ := k3_inj hk
  rw [if_pos rfl]
  exact ⟨fun _ => ⟨w, m, rfl, hm⟩, fun z => absurd (.inr ⟨rfl, rfl, rfl⟩) z⟩
 ·rw [if_neg hk]
  refine ⟨fun z => (h p' b' e').1 (z.resolve_right fun q => hk ?_), fun z => (h p' b' e').2 fun q => z (.inl q)⟩
  obtain ⟨rfl, rfl, rfl⟩ := q
  rfl
theorem TR.put {n : Nat} {Dm : Nat → Nat → Prop} {kvs : List (List Key × D)} {p b m : Nat} {w : Int} (h : TR n Dm kvs) (hn : ¬ Dm p b) (hm : mR n p b m) : TR n (fun p' b' => Dm p' b' ∨ (p' = p ∧ b' = b)) (putT kvs (k2 p b) (vD w m)) := by
 intro p' b'
 rw [val_put ((h p b).2 hn)]
 by_cases hk : k2 p' b' = k2 p b
 ·obtain ⟨rfl, rfl⟩ := k2_inj hk
  rw [if_pos rfl]
  exact ⟨fun _ => ⟨w, m, rfl, hm⟩, fun z => absurd (.inr ⟨rfl, rfl⟩) z⟩
 ·rw [if_neg hk]
  refine ⟨fun z => (h p' b').1 (z.resolve_right fun q => hk ?_), fun z => (h p' b').2 fun q => z (.inl q)⟩
  obtain ⟨rfl, rfl⟩ := q
  rfl
theorem cap_two {p : Nat} (h : 2 ≤ p) : cap p true = 2 * cap (p - 1) true ∧ cap p false = cap p true + cap (p - 1) false := by
 obtain ⟨q, rfl⟩ : ∃ q, p = q + 2 := ⟨p - 2, by omega⟩
 have := Nat.two_pow_pos q
 show 2 ^ (q + 1) = 2 * 2 ^ q ∧ 2 ^ (q + 2) - 1 = 2 ^ (q + 1) + (2 ^ (q + 1) - 1)
 rw [Nat.pow_succ, Nat.pow_succ, Nat.pow_succ]
 omega
end L3
namespace L3
open PySem PySem.Spec PyProof.Rows L2 Rw
inductive Pa (c : Nat → Int) : Nat → Nat → Nat → Int → Prop
 | one {p b : Nat} : Pa c (p + 1) b (b + 1) (c b)
 | two {p b m e : Nat} {w1 w2 w3 : Int} : Pa c (p + 1) b m w1 → Pa c p m e w2 → Pa c p b m w3 → Pa c (p + 1) b e (w1 + w2 + w3)
inductive Pr (c : Nat → Int) (n : Nat) : Nat → Nat → Int → Prop
 | one {p b : Nat} : b + 1 = n → Pr c n (p + 1) b (c b)
 | two {p b m : Nat} {w1 w2 : Int} : Pa c (p + 1) b m w1 → Pr c n p m w2 → Pr c n (p + 1) b (w1 + w2)
variable {c c' : Nat → Int} {n p b e : Nat} {w : Int}
theorem Pa.lt (h : Pa c p b e w) : b < e ∧ 1 ≤ p := by
 induction h with
 | one => omega
 | two _ _ _ i1 i2 i3 => omega
theorem Pr.lt (h : Pr c n p b w) : b < n ∧ 1 ≤ p := by
 induction h with
 | one => omega
 | two h1 _ i => have := h1.lt; omega
theorem Pa.cap (h : Pa c p b e w) : e - b ≤ L3.cap p true := by
 induction h with
 | @one p b => have := cap_pos (s := p + 1) (b := true) (by omega); omega
 | @two p b m e w1 w2 w3 h1 h2 h3 i1 i2 i3 =>
  have q := (cap_two (p := p + 1) (by have := h2.lt; omega)).1
  rw [show p + 1 - 1 = p by omega] at q
  omega
theorem Pr.cap (h : Pr c n p b w) : n - b ≤ L3.cap p false := by
 induction h with
 | @one p b h => have := cap_pos (s := p + 1) (b := false) (by omega); omega
 | @two p b m w1 w2 h1 h2 i2 =>
  have q := (cap_two (p := p + 1) (by have := h2.lt; omega)).2
  rw [show p + 1 - 1 = p by omega] at q
  have := h1.cap
  omega
theorem Pa.more (h : Pa c p b e w) : Pa c (p + 1) b e w := by
 induction h with
 | one => exact .one
 | two _ _ _ i1 i2 i3 => exact .two i1 i2 i3
theorem Pr.more (h : Pr c n p b w) : Pr c n (p + 1) b w := by
 induction h with
 | one h => exact .one h
 | two h1 _ i2 => exact .two h1.more i2
theorem Pa.mul {k : Int} (h : Pa c p b e w) : Pa (fun i => c i * k) p b e (w * k) := by
 induction h with
 | @one p b => exact Pa.one (c := fun i => c i * k)
 | two _ _ _ i1 i2 i3 => rw [Int.add_mul, Int.add_mul]; exact .two i1 i2 i3
theorem Pr.mul {k : Int} (h : Pr c n p b w) : Pr (fun i => c i * k) n p b (w * k) := by
 induction h with
 | @one p b h => exact Pr.one (c := fun i => c i * k) h
 | two h1 _ i2 => rw [Int.add_mul]; exact .two h1.mul i2
theorem Pa.pos (hc : ∀ i, 0 ≤ c i) (h : Pa c p b e w) : 0 ≤ w := by
 induction h with
 | one => exact hc _
 | two _ _ _ i1 i2 i3 => omega
theorem Pa.pr (hc : ∀ i, 0 ≤ c i) (h : Pa c p b e w) : ∃ v, Pr c e p b v ∧ v ≤ w := by
 induction h with
 | one => exact ⟨_, .one rfl, Int.le_refl _⟩
 | two h1 _ h3 i1 i2 i3 =>
  obtain ⟨v2, q2, r2⟩ := i2
  have := h3.pos hc
  exact ⟨_, .two h1 q2, by omega⟩
theorem Pr.last (hc : ∀ i, 0 ≤ c i) {N : Nat} (h : Pr c N p b w) : ∀ n, N = n + 1 → b < n → ∃ v, Pr c n p b v ∧ v + c n ≤ w := by
 induction h with
 | one h => intro n e hb; omega
 | @two p b m w1 w2 h1 h2 i2 =>
  intro n e hb
  subst e
  rcases Nat.lt_or_ge m n with z | z
  ·obtain ⟨v, q, r⟩ := i2 n rfl z
   exact ⟨w1 + v, .two h1 q, by omega⟩
  ·have hm : m = n := by have := h2.lt; omega
   subst hm
   obtain ⟨v, q, r⟩ := h1.pr hc
   refine ⟨v, q, ?_⟩
   have hw : w2 = c m := by
    cases h2 with
    | one _ => rfl
    | two h3 h4 => have := h3.lt; have := h4.lt; omega
   omega
def LeastA (c : Nat → Int) (p b e : Nat) (w : Int) : Prop := Pa c p b e w ∧ ∀ v, Pa c p b e v → w ≤ v
def LeastR (c : Nat → Int) (n p b : Nat) (w : Int) : Prop := Pr c n p b w ∧ ∀ v, Pr c n p b v → w ≤ v
theorem LeastA.one {p b : Nat} : LeastA c (p + 1) b (b + 1) (c b) := by
 refine ⟨.one, fun v h => ?_⟩
 generalize he : b + 1 = e at h
 cases h with
 | one => exact Int.le_refl _
 | two h1 h2 _ => have := h1.lt; have := h2.lt; omega
theorem LeastR.one {p b : Nat} : LeastR c (b + 1) (p + 1) b (c b) := by
 refine ⟨.one rfl, fun v h => ?_⟩
 cases h with
 | one _ => exact Int.le_refl _
 | two h1 h2 => have := h1.lt; have := h2.lt; omega
theorem LeastA.two {p b e : Nat} {w : Int} (hb : b + 1 < e) (hw : ∃ m w1 w2 w3, LeastA c (p + 1) b m w1 ∧ LeastA c p m e w2 ∧ LeastA c p b m w3 ∧ w = w1 + w2 + w3)
  (hl : ∀ m, b < m → m < e → m - b ≤ L3.cap p true → e - m ≤ L3.cap p true → ∃ w1 w2 w3, LeastA c (p + 1) b m w1 ∧ LeastA c p m e w2 ∧ LeastA c p b m w3 ∧ w ≤ w1 + w2 + w3) : LeastA c (p + 1) b e w := by
 obtain ⟨m, w1, w2, w3, h1, h2, h3, rfl⟩ := hw
 refine ⟨.two h1.1 h2.1 h3.1, fun v h => ?_⟩
 cases h with
 | one => omega
 | @two _ _ m' _ u1 u2 u3 q1 q2 q3 =>
  obtain ⟨x1, x2, x3, y1, y2, y3, y⟩ := hl m' q1.lt.1 q2.lt.1 q3.cap q2.cap
  have := y1.2 _ q1
  have := y2.2 _ q2
  have := y3.2 _ q3
  omega
theorem LeastR.two {n p b : Nat} {w : Int} (hb : b + 1 < n) (hw : ∃ m w1 w2, LeastA c (p + 1) b m w1 ∧ LeastR c n p m w2 ∧ w = w1 + w2)
  (hl : ∀ m, b < m → m < n → m - b ≤ L3.cap (p + 1) true → n - m ≤ L3.cap p false → ∃ w1 w2, LeastA c (p + 1) b m w1 ∧ LeastR c n p m w2 ∧ w ≤ w1 + w2) : LeastR c n (p + 1) b w := by
 obtain ⟨m, w1, w2, h1, h2, rfl⟩ := hw
 refine ⟨.two h1.1 h2.1, fun v h => ?_⟩
 cases h with
 | one h => omega
 | @two _ _ m' u1 u2 q1 q2 =>
  obtain ⟨x1, x2, y1, y2, y⟩ := hl m' q1.lt.1 q2.lt.1 q1.cap q2.cap
  have := y1.2 _ q1
  have := y2.2 _ q2
  omega
theorem Pa.congr (h : Pa c p b e w) : (∀ i, i < e → c i = c' i) → Pa c' p b e w := by
 induction h with
 | @one p b => intro hc; rw [hc b (by omega)]; exact .one
 | two h1 h2 h3 i1 i2 i3 =>
  intro hc
  have := h2.lt
  exact .two (i1 fun i hi => hc i (by omega)) (i2 hc) (i3 fun i hi => hc i (by omega))
theorem Pr.congr (h : Pr c n p b w) : (∀ i, i < n → c i = c' i) → Pr c' n p b w := by
 induction h with
 | @one p b hb => intro hc; rw [hc b (by omega)]; exact .one hb
 | two h1 h2 i2 =>
  intro hc
  have := h2.lt
  exact .two (h1.congr fun i hi => hc i (by omega)) (i2 hc)
theorem LeastA.congr (h : LeastA c p b e w) (hc : ∀ i, i < e → c i = c' i) : LeastA c' p b e w :=
 ⟨h.1.congr hc, fun v hv => h.2 v (hv.congr fun i hi => (hc i hi).symm)⟩
theorem LeastR.congr (h : LeastR c n p b w) (hc : ∀ i, i < n → c i = c' i) : LeastR c' n p b w :=
 ⟨h.1.congr hc, fun v hv => h.2 v (hv.congr fun i hi => (hc i hi).symm)⟩
end L3
namespace L3
open PySem PySem.Spec PyProof.Rows L2 Rw
noncomputable def cf (pl : List Int) (i : Nat) : Int := pl.getD i 0
def TAv (c : Nat → Int) (Dm : Nat → Nat → Nat → Prop) (kvs : List (List Key × D)) : Prop := ∀ p b e, (Dm p b e → ∃ w m, valD kvs (k3 p b e) = some (vD w m) ∧ LeastA c p b e w) ∧ (¬ Dm p b e → valD kvs (k3 p b e) = none)
def TRv (c : Nat → Int) (n : Nat) (Dm : Nat → Nat → Prop) (kvs : List (List Key × D)) : Prop := ∀ p b, (Dm p b → ∃ w m, valD kvs (k2 p b) = some (vD w m) ∧ LeastR c n p b w) ∧ (¬ Dm p b → valD kvs (k2 p b) = none)
theorem TAv.congr {c : Nat → Int} {D1 D2 : Nat → Nat → Nat → Prop} {kvs : List (List Key × D)} (h : TAv c D1 kvs) (e : ∀ p b e, D1 p b e ↔ D2 p b e) : TAv c D2 kvs := fun p b e' => ⟨fun z => (h p b e').1 ((e p b e').mpr z), fun z => (h p b e').2 fun q => z ((e p b e').mp q)⟩
theorem TRv.congr {n : Nat} {c : Nat → Int} {D1 D2 : Nat → Nat → Prop} {kvs : List (List Key × D)} (h : TRv c n D1 kvs) (e : ∀ p b, D1 p b ↔ D2 p b) : TRv c n D2 kvs := fun p b => ⟨fun z => (h p b).1 ((e p b).mpr z), fun z => (h p b).2 fun q => z ((e p b).mp q)⟩
theorem TAv.put {c : Nat → Int} {Dm : Nat → Nat → Nat → Prop} {kvs : List (List Key × D)} {p b e m : Nat} {w : Int} (h : TAv c Dm kvs) (hn : ¬ Dm p b e) (hm : LeastA c p b e w) : TAv c (fun p' b' e' => Dm p' b' e' ∨ (p' = p ∧ b' = b ∧ e' = e)) (putT kvs (k3 p b e) (vD w m)) := by
 intro p' b' e'
 rw [val_put ((h p b e).2 hn)]
 by_cases hk : k3 p' b' e' = k3 p b e
 ·obtain ⟨rfl, rfl, rfl⟩ := k3_inj hk
  rw [if_pos rfl]
  exact ⟨fun _ => ⟨w, m, rfl, hm⟩, fun z => absurd (.inr ⟨rfl, rfl, rfl⟩) z⟩
 ·rw [if_neg hk]
  refine ⟨fun z => (h p' b' e').1 (z.resolve_right fun q => hk ?_), fun z => (h p' b' e').2 fun q => z (.inl q)⟩
  obtain ⟨rfl, rfl, rfl⟩ := q
  rfl
theorem TRv.put {n : Nat} {c : Nat → Int} {Dm : Nat → Nat → Prop} {kvs : List (List Key × D)} {p b m : Nat} {w : Int} (h : TRv c n Dm kvs) (hn : ¬ Dm p b) (hm : LeastR c n p b w) : TRv c n (fun p' b' => Dm p' b' ∨ (p' = p ∧ b' = b)) (putT kvs (k2 p b) (vD w m)) := by
 intro p' b'
 rw [val_put ((h p b).2 hn)]
 by_cases hk : k2 p' b' = k2 p b
 ·obtain ⟨rfl, rfl⟩ := k2_inj hk
  rw [if_pos rfl]
  exact ⟨fun _ => ⟨w, m, rfl, hm⟩, fun z => absurd (.inr ⟨rfl, rfl⟩) z⟩
 ·rw [if_neg hk]
  refine ⟨fun z => (h p' b').1 (z.resolve_right fun q => hk ?_), fun z => (h p' b').2 fun q => z (.inl q)⟩
  obtain ⟨rfl, rfl⟩ := q
  rfl
end L3
namespace L3
open PySem PySem.Spec PyProof.Rows L2 Rw
noncomputable def oD : Option Int → D
 | none => .non
 | some w => .int w
def AnsA (pl : List Int) (s : Nat) (x : Option Int) : Prop := (∃ W, x = some W ∧ LeastA (cf pl) s 0 pl.length W) ∨ (¬ pl.length ≤ cap s true ∧ x = none)
def AnsR (pl : List Int) (s : Nat) (x : Option Int) : Prop := (∃ W, x = some W ∧ LeastR (cf pl) pl.length s 0 W) ∨ (¬ pl.length ≤ cap s false ∧ x = none)
variable {pl pl' : List Int} {s : Nat} {x y : Option Int}
theorem AnsA.get (h : AnsA pl s x) {W : Int} (e : x = some W) : LeastA (cf pl) s 0 pl.length W := by
 rcases h with ⟨V, rfl, hV⟩ | ⟨_, rfl⟩
 ·cases e; exact hV
 ·cases e
theorem AnsR.get (h : AnsR pl s x) {W : Int} (e : x = some W) : LeastR (cf pl) pl.length s 0 W := by
 rcases h with ⟨V, rfl, hV⟩ | ⟨_, rfl⟩
 ·cases e; exact hV
 ·cases e
end L3
namespace L3
open PySem PySem.Spec PyProof.Rows L2 Rw
section
variable {X : Cx} {K : PySem.W.Frag} {H : Hp}
noncomputable def oV : Option Int → V
 | none => .non
 | some w => .int w
theorem relO_inv : ∀ {xs : List (Option Int)} {vs : List V}, RelDs K H (xs.map oD) vs → vs = xs.map oV
 | [], vs, r => r.inv_nil
 | none :: xs, vs, r => by
  obtain ⟨x, ys, rfl, h1, h2⟩ := r.inv_cons
  rw [relO_inv h2, show x = V.non from h1.non_inv]; rfl
 | some a :: xs, vs, r => by
  obtain ⟨x, ys, rfl, h1, h2⟩ := r.inv_cons
  rw [relO_inv h2, show x = V.int a from h1.int_inv]; rfl
theorem flatO : ∀ xs : List (Option Int), (xs.map oV).all flatV = true
 | [] => rfl
 | none :: xs => by rw [List.map_cons, List.all_cons, flatO xs]; rfl
 | some _ :: xs => by rw [List.map_cons, List.all_cons, flatO xs]; rfl
theorem in_O : ∀ xs : List (Option Int), inV V.non (xs.map oV) = decide (none ∈ xs)
 | [] => rfl
 | none :: xs => by simp [inV, oV, eqV]
 | some a :: xs => by
  have := in_O xs
  unfold inV at this ⊢
  rw [List.map_cons, List.any_cons, this]
  simp [oV, eqV]
@[reducible] def xInN : R3 := fun x y G q => ∃ (a : Addr) (xs : List (Option Int)), x = .non ∧ y = .ref a ∧ seqOf (G a) = some (xs.map oD) ∧ q (.bl (decide (none ∈ xs))) G
theorem x_inN {k : Nat} {A : Around} (_ : Room k A) : Op3 X (compareOp .In) xInN := weakOp op_in_seq fun x y H Q ⟨d, e, G, q, r1, r2, c, t, f⟩ => by
 obtain ⟨a, xs, rfl, rfl, es, t⟩ := t
 obtain ⟨vs, s1, q1⟩ := sql_of c es
 cases r1.non_inv
 obtain rfl := relO_inv q1
 exact ⟨a, _, r2.ref_inv, .inl s1, rfl, flatO xs, f _ _ _ _ (by rw [in_O]; exact RelD.blI) c (Le.refl H) t⟩
end
def OA (c : Nat → Int) (p b e : Nat) (x : Option Int) : Prop := (∃ W, x = some W ∧ LeastA c p b e W) ∨ (x = none ∧ ∀ w, ¬ Pa c p b e w)
def OR (c : Nat → Int) (n p b : Nat) (x : Option Int) : Prop := (∃ W, x = some W ∧ LeastR c n p b W) ∨ (x = none ∧ ∀ w, ¬ Pr c n p b w)
variable {c : Nat → Int} {n p b e f z M : Nat} {x y : Option Int} {w : Int}
theorem OA.of (h : OA c p b e x) (q : Pa c p b e w) : ∃ W, x = some W ∧ W ≤ w := by
 rcases h with ⟨W, rfl, hW⟩ | ⟨_, h⟩
 ·exact ⟨W, rfl, hW.2 _ q⟩
 ·exact absurd q (h _)
theorem OR.of (h : OR c n p b x) (q : Pr c n p b w) : ∃ W, x = some W ∧ W ≤ w := by
 rcases h with ⟨W, rfl, hW⟩ | ⟨_, h⟩
 ·exact ⟨W, rfl, hW.2 _ q⟩
 ·exact absurd q (h _)
theorem OA.pa (h : OA c p b e (some w)) : Pa c p b e w := by
 rcases h with ⟨W, e, hW⟩ | ⟨e, _⟩
 ·cases e; exact hW.1
 ·cases e
theorem OR.pr (h : OR c n p b (some w)) : Pr c n p b w := by
 rcases h with ⟨W, e, hW⟩ | ⟨e, _⟩
 ·cases e; exact hW.1
 ·cases e
theorem OA.eq (h : OA c p b e x) (h' : OA c p b e y) : x = y := by
 rcases h with ⟨W, rfl, hW⟩ | ⟨rfl, h⟩
 ·obtain ⟨V, rfl, hV⟩ := h'.of hW.1
  have := hW.2 _ h'.pa
  congr 1; omega
 ·rcases h' with ⟨W, rfl, hW⟩ | ⟨rfl, _⟩
  ·exact absurd hW.1 (h _)
  ·rfl
theorem OR.eq (h : OR c n p b x) (h' : OR c n p b y) : x = y := by
 rcases h with ⟨W, rfl, hW⟩ | ⟨rfl, h⟩
 ·obtain ⟨V, rfl, hV⟩ := h'.of hW.1
  have := hW.2 _ h'.pr
  congr 1; omega
 ·rcases h' with ⟨W, rfl, hW⟩ | ⟨rfl, _⟩
  ·exact absurd hW.1 (h _)
  ·rfl
theorem OA.zero : OA c 0 b e none := .inr ⟨rfl, fun w q => by have := q.lt; omega⟩
theorem OR.zero : OR c n 0 b none := .inr ⟨rfl, fun w q => by have := q.lt; omega⟩
def Hts (P : Nat → Option Int → Prop) (M : Nat) (xs : List (Option Int)) : Prop := (∀ y ∈ xs, y = none ∨ ∃ m, 1 ≤ m ∧ m < M ∧ P m y) ∧ ∀ m, 1 ≤ m → m < M → ∃ y ∈ xs, P m y
theorem Hts.nil {P : Nat → Option Int → Prop} : Hts P 1 [none] := ⟨fun y h => .inl (by simpa using h), fun m h1 h2 => by omega⟩
theorem Hts.add {P : Nat → Option Int → Prop} {xs : List (Option Int)} (h : Hts P M xs) (hM : 1 ≤ M) (hy : P M y) : Hts P (M + 1) (xs ++ [y]) := by
 refine ⟨fun v hv => ?_, fun m h1 h2 => ?_⟩
 ·rcases List.mem_append.mp hv with q | q
  ·rcases h.1 v q with r | ⟨m, r1, r2, r3⟩
   ·exact .inl r
   ·exact .inr ⟨m, r1, by omega, r3⟩
  ·rw [List.mem_singleton.mp q]; exact .inr ⟨M, hM, by omega, hy⟩
 ·rcases Nat.lt_or_ge m M with q | q
  ·obtain ⟨v, r1, r2⟩ := h.2 m h1 q
   exact ⟨v, List.mem_append_left _ r1, r2⟩
  ·have : m = M := by omega
   subst this
   exact ⟨y, List.mem_append_right _ (List.mem_singleton.mpr rfl), hy⟩
theorem OA.one : OA c (p + 1) b (b + 1) (some (c b)) := .inl ⟨_, rfl, LeastA.one⟩
theorem OR.one : OR c (b + 1) (p + 1) b (some (c b)) := .inl ⟨_, rfl, LeastR.one⟩
def TG (Dm : Nat → Nat → Prop) (Pv : Nat → Nat → D → Prop) (kvs : List (List Key × D)) : Prop := ∀ f z, (Dm f z → ∃ d, valD kvs (k2 f z) = some d ∧ Pv f z d) ∧ (¬ Dm f z → valD kvs (k2 f z) = none)
theorem TG.congr {D1 D2 : Nat → Nat → Prop} {Pv : Nat → Nat → D → Prop} {kvs : List (List Key × D)} (h : TG D1 Pv kvs) (e : ∀ f z, D1 f z ↔ D2 f z) : TG D2 Pv kvs := fun f z => ⟨fun q => (h f z).1 ((e f z).mpr q), fun q => (h f z).2 fun r => q ((e f z).mp r)⟩
theorem TG.put {Dm : Nat → Nat → Prop} {Pv : Nat → Nat → D → Prop} {kvs : List (List Key × D)} {d : D} (h : TG Dm Pv kvs) (hn : ¬ Dm f z) (hd : Pv f z d) : TG (fun f' z' => Dm f' z' ∨ (f' = f ∧ z' = z)) Pv (putT kvs (k2 f z) d) := by
 intro f' z'
 rw [val_put ((h f z).2 hn)]
 by_cases hk : k2 f' z' = k2 f z
 ·obtain ⟨rfl, rfl⟩ := k2_inj hk
  rw [if_pos rfl]
  exact ⟨fun _ => ⟨d, rfl, hd⟩, fun q => absurd (.inr ⟨rfl, rfl⟩) q⟩
 ·rw [if_neg hk]
  refine ⟨fun q => (h f' z').1 (q.resolve_right fun r => hk ?_), fun q => (h f' z').2 fun r => q (.inl r)⟩
  obtain ⟨rfl, rfl⟩ := r
  rfl
end L3
namespace L3
open PySem PySem.Spec PyProof.Rows L2 Rw
variable {c : Nat → Int} {n p b e : Nat} {w v : Int}
theorem LeastA.eq (h : LeastA c p b e w) (h' : LeastA c p b e v) : w = v := by
 have := h.2 _ h'.1
 have := h'.2 _ h.1
 omega
theorem LeastR.eq (h : LeastR c n p b w) (h' : LeastR c n p b v) : w = v := by
 have := h.2 _ h'.1
 have := h'.2 _ h.1
 omega
def VA (c : Nat → Int) (p b e : Nat) (w : Int) (m : Nat) : Prop := LeastA c p b e w ∧ mA p b e m ∧ (e - b ≠ 1 → ∃ w1 w2 w3, LeastA c p b m w1 ∧ LeastA c (p - 1) m e w2 ∧ LeastA c (p - 1) b m w3 ∧ w = w1 + w2 + w3)
def VR (c : Nat → Int) (n p b : Nat) (w : Int) (m : Nat) : Prop := LeastR c n p b w ∧ mR n p b m ∧ (n - b ≠ 1 → ∃ w1 w2, LeastA c p b m w1 ∧ LeastR c n (p - 1) m w2 ∧ w = w1 + w2)
def TAw (c : Nat → Int) (Dm : Nat → Nat → Nat → Prop) (kvs : List (List Key × D)) : Prop := ∀ p b e, (Dm p b e → ∃ w m, valD kvs (k3 p b e) = some (vD w m) ∧ VA c p b e w m) ∧ (¬ Dm p b e → valD kvs (k3 p b e) = none)
def TRw (c : Nat → Int) (n : Nat) (Dm : Nat → Nat → Prop) (kvs : List (List Key × D)) : Prop := ∀ p b, (Dm p b → ∃ w m, valD kvs (k2 p b) = some (vD w m) ∧ VR c n p b w m) ∧ (¬ Dm p b → valD kvs (k2 p b) = none)
theorem TAw.congr {D1 D2 : Nat → Nat → Nat → Prop} {kvs : List (List Key × D)} (h : TAw c D1 kvs) (e : ∀ p b e, D1 p b e ↔ D2 p b e) : TAw c D2 kvs := fun p b e' => ⟨fun z => (h p b e').1 ((e p b e').mpr z), fun z => (h p b e').2 fun q => z ((e p b e').mp q)⟩
theorem TRw.congr {D1 D2 : Nat → Nat → Prop} {kvs : List (List Key × D)} (h : TRw c n D1 kvs) (e : ∀ p b, D1 p b ↔ D2 p b) : TRw c n D2 kvs := fun p b => ⟨fun z => (h p b).1 ((e p b).mpr z), fun z => (h p b).2 fun q => z ((e p b).mp q)⟩
theorem TAw.put {Dm : Nat → Nat → Nat → Prop} {kvs : List (List Key × D)} {m : Nat} (h : TAw c Dm kvs) (hn : ¬ Dm p b e) (hm : VA c p b e w m) : TAw c (fun p' b' e' => Dm p' b' e' ∨ (p' = p ∧ b' = b ∧ e' = e)) (putT kvs (k3 p b e) (vD w m)) := by
 intro p' b' e'
 rw [val_put ((h p b e).2 hn)]
 by_cases hk : k3 p' b' e' = k3 p b e
 ·obtain ⟨rfl, rfl, rfl⟩ := k3_inj hk
  rw [if_pos rfl]
  exact ⟨fun _ => ⟨w, m, rfl, hm⟩, fun z => absurd (.inr ⟨rfl, rfl, rfl⟩) z⟩
 ·rw [if_neg hk]
  refine ⟨fun z => (h p' b' e').1 (z.resolve_right fun q => hk ?_), fun z => (h p' b' e').2 fun q => z (.inl q)⟩
  obtain ⟨rfl, rfl, rfl⟩ := q
  rfl
theorem TRw.put {Dm : Nat → Nat → Prop} {kvs : List (List Key × D)} {m : Nat} (h : TRw c n Dm kvs) (hn : ¬ Dm p b) (hm : VR c n p b w m) : TRw c n (fun p' b' => Dm p' b' ∨ (p' = p ∧ b' = b)) (putT kvs (k2 p b) (vD w m)) := by
 intro p' b'
 rw [val_put ((h p b).2 hn)]
 by_cases hk : k2 p' b' = k2 p b
 ·obtain ⟨rfl, rfl⟩ := k2_inj hk
  rw [if_pos rfl]
  exact ⟨fun _ => ⟨w, m, rfl, hm⟩, fun z => absurd (.inr ⟨rfl, rfl⟩) z⟩
 ·rw [if_neg hk]
  refine ⟨fun z => (h p' b').1 (z.resolve_right fun q => hk ?_), fun z => (h p' b').2 fun q => z (.inl q)⟩
  obtain ⟨rfl, rfl⟩ := q
  rfl
end L3
namespace L2
open PySem PySem.Spec PyProof.Rows
noncomputable def jn (sep : Str) (ws : List Str) : Str := Builtin.Str.glued sep ws
section
variable {X : Cx}
theorem vals_strs : ∀ {ws : List Str} {us : List Value}, Vals (ws.map V.str) us → ∃ l : List (Str × Tok), us = strValues l ∧ l.map (·.1) = ws
 | [], _, .nil => ⟨[], rfl, rfl⟩
 | w :: ws, _, .cons r t => by
  obtain ⟨l, rfl, e⟩ := vals_strs t
  obtain ⟨k, rfl⟩ := r
  exact ⟨(w, k) :: l, rfl, by rw [List.map_cons, e]⟩
def rJoin (K : PySem.W.Frag) : V → List V → Hp → VK → Prop := fun x vs H Q => ∃ (sep : Str) (p : Addr) (ws : List Str), x = .str sep ∧ vs = [.ref p] ∧ SqL K H p (ws.map V.str) ∧ Builtin.Str.tooLong ((ws.toArray).foldl (· + ·.length + sep.length) 0) = false ∧ (jn sep ws).length ≤ sizeLine ∧ Q (.str (jn sep ws)) H
theorem mt_join : MtR X "str.join" (rJoin X.K) := by
 intro pins s σ H x vs v us Q I rx rv h
 obtain ⟨sep, p, ws, rfl, rfl, hq, hl, hz, q⟩ := h
 obtain ⟨t, rfl⟩ := rx
 obtain ⟨u, rfl, ru⟩ := rv.one
 cases ru
 obtain ⟨its, r', pl, _⟩ := I.list hq
 obtain ⟨l, rfl, e⟩ := vals_strs r'
 refine call_meets F.slot_str_join (typeIs_str _ _ _) F.entry_str_join (F.args_str_join_2 _ _) (meets_str_join_list sep t p l (by rw [e]; exact hl)) ⟨pl.isList, ?_⟩
 match l, e with
 | [], e =>
  subst e
  exact ⟨hz, .str _, H, I.tok _, ⟨_, rfl⟩, q⟩
 | [a], e =>
  subst e
  exact ⟨.str _, H, I, ⟨_, rfl⟩, q⟩
 | a :: b :: l, e =>
  subst e
  exact ⟨hz, .str _, H, I.tok _, ⟨_, rfl⟩, q⟩
end
end L2
namespace L3
open PySem PySem.Spec PyProof.Rows L2
section
variable {X : Cx} {K : PySem.W.Frag} {H : Hp} {o e : Expr} {es : List Expr} {to : TE3} {ts : TA3} {apos cpos : Pos}
@[reducible] def mJoin : M3 := fun x ds G q => ∃ (sep : Str) (a : Addr) (ws : List Str), x = .str sep ∧ ds = [.ref a] ∧ seqOf (G a) = some (ws.map .str) ∧ Builtin.Str.tooLong ((ws.toArray).foldl (· + ·.length + sep.length) 0) = false ∧ (jn sep ws).length ≤ sizeLine ∧ q (.str (jn sep ws)) G
theorem relS_inv : ∀ {ws : List Str} {vs : List V}, RelDs K H (ws.map .str) vs → vs = ws.map V.str
 | [], vs, r => r.inv_nil
 | w :: ws, vs, r => by
  obtain ⟨x, ys, rfl, h1, h2⟩ := r.inv_cons
  rw [relS_inv h2, h1.str_inv]; rfl
theorem ty_str (K : PySem.W.Frag) : ∀ G H x v, Con K G H → RelD K H x v → tyD G "str" x → tyV K "str" v H := by
 intro G H x v c r t
 cases x with
 | str i => cases r.str_inv; exact rfl
 | int _ => simp [tyD] at t
 | ref a => cases e : G a with
  | none => simp [tyD, e] at t
  | some o => cases o <;> simp [tyD, e] at t
 | _ => exact t.elim
theorem e_join (ho : E3 X o to) (ha : A3 X (e :: es) ts) (hbase : attributeBase o "join" X.env (eval o X.env) = eval o X.env := by rfl)
  (hfew : ((backTo cpos (starEach (e :: es) X.env)).all (fun x => !x.1) && (backToKw cpos (keywordEach [] X.env)).all (fun x => x.1.isSome)
   && decide ((e :: es).length + ([] : List Keyword).length + (if ([] : List Keyword).isEmpty then 0 else 1) < 30)) = true := by rfl)
  (hline : (apos.endLine == cpos.line) = true := by rfl) (hs : starEach (e :: es) X.env = (false, eval e X.env) :: starEach es X.env := by rfl) (hplain : (backTo cpos (starEach es X.env)).any (·.1) = false := by rfl) :
  E3 X (.Call (.Attribute o "join" apos) (e :: es) [] cpos) (dBM "str" mJoin to ts) :=
 weakE (pe_bm PySem.F.plainAttrs_str PySem.F.slot_str_join PySem.F.type_str_join (weakMt (r' := lowM X.K mJoin) mt_join <| by
  rintro x xs H Q ⟨d, ds, G, q, r1, r2, c, ⟨sep, a, ws, rfl, rfl, es, h1, h2, t⟩, f⟩
  obtain ⟨v, rfl, r3⟩ := r2.one
  cases r3.ref_inv
  cases r1.str_inv
  obtain ⟨ys, s1, q1⟩ := sql_of c es
  obtain rfl := relS_inv q1
  exact ⟨sep, a, ws, rfl, rfl, s1, h1, h2, f _ _ _ _ RelD.strI c (Le.refl H) t⟩) ho ha hbase hfew hline hs hplain) fun _ _ _ => low_bm (ty_str X.K)
end
end L3
namespace L2
open PySem PySem.Spec PyProof.Rows
section
variable {X : Cx}
end
end L2
namespace L3
open PySem PySem.Spec PyProof.Rows L2
section
variable {X : Cx}
end
end L3
namespace L3
open PySem PySem.Spec PyProof.Rows L2 Rw
inductive Atm
 | num (i : Nat)
 | box (x : Str)
noncomputable def aD : Atm → D
 | .num i => .int (i : Int)
 | .box x => .str x
inductive Rowp
 | is (x : Str) (a : Atm)
 | op (x o : Str) (a b : Atm)
 | cho (a : Atm) (ys ns : List Rowp)
 | tim (k : Nat) (ys : List Rowp)
mutual
noncomputable def rowD : Rowp → D
 | .is x a => .tup [.str "is", .str x, aD a]
 | .op x o a b => .tup [.str "op", .str x, .str o, aD a, aD b]
 | .cho a ys ns => .tup [.str "choose", aD a, .tup (rowsD ys), .tup (rowsD ns)]
 | .tim k ys => .tup [.str "times", .int (k : Int), .tup (rowsD ys)]
noncomputable def rowsD : List Rowp → List D
 | [] => []
 | r :: rs => rowD r :: rowsD rs
end
theorem rowsD_map : ∀ rs : List Rowp, rowsD rs = rs.map rowD
 | [] => rfl
 | r :: rs => by rw [rowsD, rowsD_map rs]; rfl
def okA (W : Nat) (bs : List Str) : Atm → Prop
 | .num i => i < 2 ^ W
 | .box x => x ∈ bs
noncomputable def signs : List Str := ["+", "-", "&", "|", "^", "<", "="]
mutual
def okR (W : Nat) (bs : List Str) : Rowp → Prop
 | .is x a => x ∈ bs ∧ okA W bs a
 | .op x o a b => x ∈ bs ∧ o ∈ signs ∧ okA W bs a ∧ okA W bs b
 | .cho a ys ns => okA W bs a ∧ okL W bs ys ∧ okL W bs ns
 | .tim k ys => k ≤ 20 ∧ okL W bs ys
def okL (W : Nat) (bs : List Str) : List Rowp → Prop
 | [] => True
 | r :: rs => okR W bs r ∧ okL W bs rs
end
theorem okL_app {W : Nat} {bs : List Str} : ∀ {a b : List Rowp}, okL W bs (a ++ b) ↔ okL W bs a ∧ okL W bs b
 | [], b => by simp [okL]
 | r :: a, b => by
  show okR W bs r ∧ okL W bs (a ++ b) ↔ (okR W bs r ∧ okL W bs a) ∧ okL W bs b
  rw [okL_app, and_assoc]
mutual
noncomputable def depR : Rowp → Nat
 | .is _ _ => 0
 | .op _ _ _ _ => 0
 | .cho _ ys ns => 1 + max (depL ys) (depL ns)
 | .tim _ ys => 1 + depL ys
noncomputable def depL : List Rowp → Nat
 | [] => 0
 | r :: rs => max (depR r) (depL rs)
end
theorem depL_app : ∀ {a b : List Rowp}, depL (a ++ b) = max (depL a) (depL b)
 | [], b => by simp [depL]
 | r :: a, b => by
  show max (depR r) (depL (a ++ b)) = max (max (depR r) (depL a)) (depL b)
  rw [depL_app]; omega
mutual
noncomputable def wtR : Rowp → Nat
 | .is _ _ => 1
 | .op _ _ _ _ => 1
 | .cho _ ys ns => 1 + wtL ys + wtL ns
 | .tim k ys => k * wtL ys
noncomputable def wtL : List Rowp → Nat
 | [] => 0
 | r :: rs => wtR r + wtL rs
end
theorem wtL_app : ∀ {a b : List Rowp}, wtL (a ++ b) = wtL a + wtL b
 | [], b => by simp [wtL]
 | r :: a, b => by
  show wtR r + wtL (a ++ b) = wtR r + wtL a + wtL b
  rw [wtL_app]; omega
mutual
noncomputable def szR : Rowp → Nat
 | .is _ _ => 1
 | .op _ _ _ _ => 1
 | .cho _ ys ns => 1 + szL ys + szL ns
 | .tim _ ys => 1 + szL ys
noncomputable def szL : List Rowp → Nat
 | [] => 0
 | r :: rs => szR r + szL rs
end
theorem szL_app : ∀ {a b : List Rowp}, szL (a ++ b) = szL a + szL b
 | [], b => by simp [szL]
 | r :: a, b => by
  show szR r + szL (a ++ b) = szR r + szL a + szL b
  rw [szL_app]; omega
theorem szR_pos : ∀ r : Rowp, 1 ≤ szR r
 | .is _ _ => Nat.le_refl _
 | .op _ _ _ _ => Nat.le_refl _
 | .cho _ ys ns => by show 1 ≤ 1 + szL ys + szL ns; omega
 | .tim _ ys => by show 1 ≤ 1 + szL ys; omega
theorem len_sz : ∀ rs : List Rowp, rs.length ≤ szL rs
 | [] => Nat.le_refl _
 | r :: rs => by
  have := szR_pos r
  have := len_sz rs
  show rs.length + 1 ≤ szR r + szL rs
  omega
inductive Hd
 | c1 (a : Atm)
 | c2 (a : Atm) (ys : List Rowp)
 | tm (k : Nat)
structure Fr where
 p : Addr
 ahead : List Rowp
 hd : Hd
 o : Nat
noncomputable def Hd.mul : Hd → Nat
 | .tm k => k
 | _ => 1
noncomputable def Hd.wt : Hd → Nat
 | .c1 _ => 1
 | .c2 _ ys => 1 + wtL ys
 | .tm _ => 0
noncomputable def Hd.ys : Hd → List Rowp
 | .c2 _ ys => ys
 | _ => []
def Hd.ok (W : Nat) (bs : List Str) : Hd → Prop
 | .c1 a => okA W bs a
 | .c2 a ys => okA W bs a ∧ okL W bs ys
 | .tm k => k ≤ 20
def SK (W : Nat) (bs : List Str) : List Fr → Nat → List Rowp → Nat → Nat → Prop
 | [], o, rows, w, z => o = 1 ∧ wtL rows = w ∧ szL rows = z ∧ depL rows ≤ 5 ∧ okL W bs rows
 | f :: fs, o, rows, w, z => o = f.o * f.hd.mul ∧ depL rows + (fs.length + 1) ≤ 5 ∧ depL f.hd.ys + (fs.length + 1) ≤ 5 ∧ okL W bs rows ∧ f.hd.ok W bs ∧
  ∃ w' z', w = w' + o * wtL rows + f.o * f.hd.wt ∧ z = z' + szL rows + 1 + szL f.hd.ys ∧ SK W bs fs f.o f.ahead w' z'
def PuAt (G : Gp) (pr : Addr) : Prop := ∃ a b : Int, 0 ≤ a ∧ 0 ≤ b ∧ b < 2147483648 ∧ G pr = some (.lst [.int a, .int b])
structure PAdv (pr : Addr) (G G' : Gp) : Prop where
 at_ : PuAt G' pr
 kp : ∀ c o, c ≠ pr → G c = some o → G' c = some o
theorem PuAt.grow {G G' : Gp} {pr : Addr} (h : PuAt G pr) (g : Grow G G') : PuAt G' pr := by
 obtain ⟨a, b, h1, h2, h3, h4⟩ := h
 exact ⟨a, b, h1, h2, h3, g.kp _ _ h4⟩
theorem PuAt.ne {G : Gp} {pr p : Addr} (h : PuAt G pr) (hp : G p = none) : p ≠ pr := by
 obtain ⟨a, b, _, _, _, h4⟩ := h
 exact fun e => by rw [e, h4] at hp; cases hp
theorem PAdv.refl {pr : Addr} {G : Gp} (h : PuAt G pr) : PAdv pr G G := ⟨h, fun _ _ _ e => e⟩
theorem PAdv.trans {pr : Addr} {G G1 G2 : Gp} (a : PAdv pr G G1) (b : PAdv pr G1 G2) : PAdv pr G G2 := ⟨b.at_, fun c o h e => b.kp c o h (a.kp c o h e)⟩
theorem PAdv.grow {pr : Addr} {G G1 G2 : Gp} (a : PAdv pr G G1) (g : Grow G1 G2) : PAdv pr G G2 := ⟨a.at_.grow g, fun c o h e => g.kp _ _ (a.kp c o h e)⟩
theorem PAdv.own {pr p : Addr} {G G1 : Gp} {o : DO} (a : PAdv pr G G1) (hp : G p = none) (hne : p ≠ pr) : PAdv pr G (gup G1 p o) := by
 refine ⟨?_, fun c u hc e => by rw [gup_ne (gne e hp)]; exact a.kp c u hc e⟩
 obtain ⟨x, y, h1, h2, h3, h4⟩ := a.at_
 exact ⟨x, y, h1, h2, h3, by rw [gup_ne (Ne.symm hne)]; exact h4⟩
theorem PAdv.fresh {pr p : Addr} {G G1 : Gp} (a : PAdv pr G G1) (hp : G1 p = none) (hne : p ≠ pr) : G p = none := by
 cases e : G p with
 | none => rfl
 | some o => rw [a.kp p o hne e] at hp; cases hp
theorem PAdv.back {pr : Addr} {G G1 G2 : Gp} (g : Grow G G1) (hp : G pr = none) (a : PAdv pr G1 G2) : Grow G G2 := ⟨fun c o e => a.kp c o (gne e hp) (g.kp c o e)⟩
theorem SK.row {W : Nat} {bs : List Str} {fs : List Fr} {o : Nat} {rows : List Rowp} {w z : Nat} {r : Rowp} (h : SK W bs fs o rows w z) (hr : okR W bs r) (h1 : wtR r = 1) (h2 : szR r = 1) (h3 : depR r = 0) : SK W bs fs o (rows ++ [r]) (w + o) (z + 1) := by
 cases fs with
 | nil =>
  obtain ⟨q1, q2, q3, q4, q5⟩ := h
  subst q1
  refine ⟨rfl, ?_, ?_, ?_, okL_app.mpr ⟨q5, hr, trivial⟩⟩
  ·rw [wtL_app]; simp only [wtL]; omega
  ·rw [szL_app]; simp only [szL]; omega
  ·rw [depL_app]; simp only [depL]; omega
 | cons g gs =>
  obtain ⟨q1, q2, q3, q4, q5, w2, z2, e3, e4, q6⟩ := h
  refine ⟨q1, ?_, q3, okL_app.mpr ⟨q4, hr, trivial⟩, q5, w2, z2, ?_, ?_, q6⟩
  ·rw [depL_app]; simp only [depL]; omega
  ·rw [wtL_app]; simp only [wtL, Nat.mul_add, h1, Nat.mul_one, Nat.mul_zero]; omega
  ·rw [szL_app]; simp only [szL]; omega
theorem snap_rows {G : Gp} : ∀ (d k : Nat) (r : Rowp), depR r ≤ d → ∃ s, snap G (k + 2 * d + 1) (rowD r) = some s := by
 intro d k
 induction d with
 | zero =>
  intro r h
  cases r with
  | is x a =>
   refine Rw.snap_tup (n := k + 2 * 0) fun e he => ?_
   simp only [List.mem_cons, List.not_mem_nil, or_false] at he
   rcases he with rfl | rfl | rfl
   ·exact Rw.snap_str
   ·exact Rw.snap_str
   ·cases a <;> first | exact Rw.snap_int | exact Rw.snap_str
  | op x o a b =>
   refine Rw.snap_tup (n := k + 2 * 0) fun e he => ?_
   simp only [List.mem_cons, List.not_mem_nil, or_false] at he
   rcases he with rfl | rfl | rfl | rfl | rfl
   ·exact Rw.snap_str
   ·exact Rw.snap_str
   ·exact Rw.snap_str
   ·cases a <;> first | exact Rw.snap_int | exact Rw.snap_str
   ·cases b <;> first | exact Rw.snap_int | exact Rw.snap_str
  | cho a ys ns => simp only [depR] at h; omega
  | tim k2 ys => simp only [depR] at h; omega
 | succ d ih =>
  intro r h
  have hin : ∀ ys : List Rowp, depL ys ≤ d → ∃ s, snap G (k + 2 * d + 2) (.tup (rowsD ys)) = some s := by
   intro ys hy
   refine Rw.snap_tup (n := k + 2 * d + 1) fun e he => ?_
   rw [rowsD_map] at he
   obtain ⟨r', hr', rfl⟩ := List.mem_map.mp he
   refine ih r' ?_
   clear he
   induction ys with
   | nil => cases hr'
   | cons y ys ih2 =>
    simp only [depL] at hy
    rcases List.mem_cons.mp hr' with e | e
    ·subst e; omega
    ·exact ih2 (by omega) e
  have at_ : ∀ a : Atm, ∃ s, snap G (k + 2 * d + 2) (aD a) = some s := fun a => by
   cases a <;> first | exact Rw.snap_int | exact Rw.snap_str
  cases r with
  | is x a =>
   refine Rw.snap_tup (n := k + 2 * d + 2) fun e he => ?_
   simp only [List.mem_cons, List.not_mem_nil, or_false] at he
   rcases he with rfl | rfl | rfl
   ·exact Rw.snap_str
   ·exact Rw.snap_str
   ·exact at_ a
  | op x o a b =>
   refine Rw.snap_tup (n := k + 2 * d + 2) fun e he => ?_
   simp only [List.mem_cons, List.not_mem_nil, or_false] at he
   rcases he with rfl | rfl | rfl | rfl | rfl
   ·exact Rw.snap_str
   ·exact Rw.snap_str
   ·exact Rw.snap_str
   ·exact at_ a
   ·exact at_ b
  | cho a ys ns =>
   simp only [depR] at h
   refine Rw.snap_tup (n := k + 2 * d + 2) fun e he => ?_
   simp only [List.mem_cons, List.not_mem_nil, or_false] at he
   rcases he with rfl | rfl | rfl | rfl
   ·exact Rw.snap_str
   ·exact at_ a
   ·exact hin ys (by omega)
   ·exact hin ns (by omega)
  | tim k2 ys =>
   simp only [depR] at h
   refine Rw.snap_tup (n := k + 2 * d + 2) fun e he => ?_
   simp only [List.mem_cons, List.not_mem_nil, or_false] at he
   rcases he with rfl | rfl | rfl
   ·exact Rw.snap_str
   ·exact Rw.snap_int
   ·exact hin ys (by omega)
theorem mapM_len {α β : Type} {f : α → Option β} : ∀ {xs : List α} {ys : List β}, xs.mapM f = some ys → ys.length = xs.length
 | [], ys, h => by cases h; rfl
 | x :: xs, ys, h => by
  rw [List.mapM_cons] at h
  cases h1 : f x with
  | none => rw [h1] at h; cases h
  | some y =>
   rw [h1] at h
   cases h2 : xs.mapM f with
   | none => rw [h2] at h; cases h
   | some zs => rw [h2] at h; cases h; rw [List.length_cons, List.length_cons, mapM_len h2]
theorem SK.len {W : Nat} {bs : List Str} : ∀ {fs : List Fr} {o : Nat} {rows : List Rowp} {w z : Nat}, SK W bs fs o rows w z → rows.length ≤ z ∧ ∀ f ∈ fs, f.ahead.length ≤ z
 | [], _, rows, _, _, ⟨_, _, h, _, _⟩ => ⟨by have := len_sz rows; omega, fun f hf => by cases hf⟩
 | f :: fs, _, rows, _, _, ⟨_, _, _, _, _, w', z', _, e2, h6⟩ => by
  have q := SK.len h6
  have := len_sz rows
  refine ⟨by omega, fun g hg => ?_⟩
  rcases List.mem_cons.mp hg with e | e
  ·subst e; have := q.1; omega
  ·have := q.2 g e; omega
theorem SK.fl {W : Nat} {bs : List Str} : ∀ {fs : List Fr} {o : Nat} {rows : List Rowp} {w z : Nat}, SK W bs fs o rows w z → fs.length ≤ 5
 | [], _, _, _, _, _ => by simp
 | f :: fs, _, _, _, _, ⟨_, h, _⟩ => by simp only [List.length_cons]; omega
end L3
namespace L2
open PySem PySem.Spec PyProof.Rows PySem.SeqAt
open AutoSeq1 (wpAny_loadPart')
end L2
namespace HT
open PySem PySem.Spec PyProof.Rows
variable {prog : Program} {w : World} {A : Around} {E : Value → Shared → Prop} {s : Shared}
theorem getItem_tuple_whole {t sl : Addr} {items : Array Value} {vl vu : Value} {lo hi : Option Int} {Q : Value → Shared → Prop} (ht : IsTup s.heap t items) (hs : s.heap.IsSliceOf sl vl vu .none) (pl : IsPart vl lo) (pu : IsPart vu hi)
  (hw : sIx items.size 0 lo = 0 ∧ sIx items.size items.size hi = items.size) (h : Q (.ref t) s) : wpAny (model prog w) A (getItem (.ref t) (.ref sl)) Q E s := by
 obtain ⟨os, hos, hcs, hds⟩ := id hs
 have hTs : s.TypeIs (.ref sl) "slice" := ⟨os, hos, hcs⟩
 unfold getItem
 try with_reducible refine wpAny_holding ?_
 first | refine wpAny_bind (wpAny_pure ?_) | skip
 refine wpAny_bind (wpAny_sequenceKey ht.typeIs (by decide) ?_)
 refine wpAny_bind (wpAny_callSpecial?_slot (name := Str.ofString "__getitem__") ht.typeIs PyProof.Rows.slot_tuple_getitem
  (wpAny_call_entry PyProof.Rows.slot_tuple_getitem ht.typeIs entry_tuple_getitem ?_ (args_tuple_getitem _ _)))
 show wpAny _ _ (Builtin.Tuple.tupleItemsOf (.ref t) >>= _) _ _ s
 refine wpAny_bind (tupleItemsOf_ ht ?_)
 refine wpAny_bind (wpAny_typeOf hTs ?_)
 rw [if_pos (by decide)]
 refine wpAny_bind (sliceApplied_gen hs pl pu ?_)
 have hyes : ((((sIx items.size 0 lo : Nat) : Int) == 0 && (1 : Int) == 1 && (sIx items.size items.size hi - sIx items.size 0 lo) == items.size) = true) := by
  rw [hw.1, hw.2]
  simp
 show wpAny _ _ (if (((sIx items.size 0 lo : Nat) : Int) == 0 && (1 : Int) == 1 && (sIx items.size items.size hi - sIx items.size 0 lo) == items.size) = true then _ else _) _ _ s
 rw [if_pos hyes]
 refine wpAny_bind (m := Builtin.Tuple.tupleIsExact (.ref t)) (wpAny_bind (wpAny_typeOf ht.typeIs (wpAny_pure ?_)))
 rw [if_pos (by decide)]
 exact wpAny_bind (wpAny_rule (wpAny_pure ⟨_, rfl, wpAny_pure h⟩))
end HT
namespace L2
open PySem PySem.Spec PyProof.Rows
section
variable {X : Cx}
def rCat0 (K : PySem.W.Frag) : R2 := fun x y H Q => ∃ a b xs ys, x = .ref a ∧ y = .ref b ∧ SqT K H a xs ∧ SqT K H b ys ∧ xs.length + ys.length ≤ sizeLine ∧
 (xs = [] → Q (.ref b) H) ∧ (xs ≠ [] → ys = [] → Q (.ref a) H) ∧ (∀ p, H p = none → Q (.ref p) (upd H p (.tup (xs ++ ys))))
theorem op_cat0 : OpR X (binaryOp .Add) (rCat0 X.K) := by
 intro pins s σ H x y v u Q I rx ry h
 obtain ⟨a, b, xs, ys, rfl, rfl, ha, hb, hz, q0, q1, q2⟩ := h
 by_cases hx : xs = []
 ·cases rx
  cases ry
  obtain ⟨its, r1, p1, _⟩ := I.tuple ha
  obtain ⟨its2, r2, p2, _⟩ := I.tuple hb
  obtain ⟨⟨cls, dd, data, sl⟩, ho, hc, n, hd⟩ := id p1
  obtain ⟨⟨cls2, dd2, data2, sl2⟩, ho2, hc2, n2, hd2⟩ := id p2
  simp only at hc hd hc2 hd2
  subst hc hd hc2 hd2
  exact concat_meets ⟨_, ho, rfl⟩ ⟨_, ho2, rfl⟩ noFill_tuple_add seq_tuple_add PySem.F.slot_tuple_add PySem.F.entry_tuple_add (PySem.F.args_tuple_add_2 _ _)
   (tuple_addW0 a b its.toArray its2.toArray n n2 dd dd2 sl sl2 (by simp [r1.nil_iff.mpr hx])) ⟨ho, ho2, ⟨.ref b, H, I, rfl, q0 hx⟩⟩
 ·exact op_catT pins s σ H (.ref a) (.ref b) v u Q I rx ry ⟨a, b, xs, ys, rfl, rfl, ha, hb, hx, hz, q1 hx, fun _ => q2⟩
def rSlW (K : PySem.W.Frag) : V → Option Int → Option Int → Hp → VK → Prop := fun x lo hi H Q => ∃ a xs, x = .ref a ∧ SqT K H a xs ∧
 (HT.sIx xs.length 0 lo = 0 ∧ HT.sIx xs.length xs.length hi = xs.length) ∧ Q (.ref a) H
theorem sl_tupW : SlR X (rSlW X.K) := by
 intro pins s σ H x v vl vu lo hi sl Q I rx hs pl pu h
 obtain ⟨a, xs, rfl, hx, hw, q⟩ := h
 cases rx
 obtain ⟨its, r, ht, hz⟩ := I.tuple hx
 have hlen : its.toArray.size = xs.length := by rw [List.size_toArray]; exact r.length.symm
 refine ⟨"tuple", _, PyProof.Rows.slot_tuple_getitem.lookup, ht.typeIs, ?_⟩
 exact HT.getItem_tuple_whole ht hs pl pu (by rw [hlen]; exact hw) ⟨.ref a, H, I, rfl, q⟩
end
end L2
namespace L3
open PySem PySem.Spec PyProof.Rows L2
section
variable {X : Cx}
def xAddT : R3 := fun x y G q => match x, y with
 | .tup a, .tup b => a.length + b.length ≤ sizeLine ∧ q (.tup (a ++ b)) G
 | _, _ => False
theorem x_addT : Op3 X (binaryOp .Add) xAddT := weakOp op_cat0 <| by
 rintro x y H Q ⟨d, e, G, q, r1, r2, c, t, f⟩
 unfold xAddT at t
 split at t
 ·obtain ⟨a, xs, rfl, s1, q1⟩ := r1.tup_inv
  obtain ⟨b, ys, rfl, s2, q2⟩ := r2.tup_inv
  have e : ∀ {bs : List D}, RelDs X.K H bs [] → bs = [] := fun h => List.eq_nil_of_length_eq_zero h.length
  refine ⟨a, b, xs, ys, rfl, rfl, s1, s2, by rw [← q1.length, ← q2.length]; exact t.1, fun z => ?_, fun _ z => ?_, fun p hp => ?_⟩
  ·refine f (.tup _) G (.ref b) _ ?_ c (Le.refl _) t.2
   rw [RelD]
   subst z
   rw [e q1, List.nil_append]
   exact ⟨b, _, rfl, s2, q2⟩
  ·refine f (.tup _) G (.ref a) _ ?_ c (Le.refl _) t.2
   rw [RelD]
   subst z
   rw [e q2, List.append_nil]
   exact ⟨a, _, rfl, s1, q1⟩
  ·refine f (.tup _) G (.ref p) _ ?_ (c.side hp) (Le.fresh hp) t.2
   rw [RelD]
   exact ⟨p, _, rfl, SqT.of upd_same, RelDs.le (Le.fresh hp) (q1.append q2)⟩
 ·exact t.elim
def xSlT : RS3 := fun x lo hi G q => match x with
 | .tup ds => q (.tup (cutD ds lo hi)) G
 | _ => False
theorem x_slT : SlR X (lowRS X.K xSlT) := weakSl (sl_tupW.or sl_tup) <| by
 rintro x lo hi H Q ⟨d, G, q, r1, c, t, f⟩
 unfold xSlT at t
 split at t
 ·rename_i ds
  obtain ⟨a, xs, rfl, s1, q1⟩ := r1.tup_inv
  by_cases hw : HT.sIx xs.length 0 lo = 0 ∧ HT.sIx xs.length xs.length hi = xs.length
  ·refine .inl ⟨a, xs, rfl, s1, hw, ?_⟩
   refine f (.tup _) G (.ref a) _ ?_ c (Le.refl _) t
   rw [RelD]
   have e : cutD ds lo hi = ds := by
    unfold cutD
    rw [q1.length, hw.1, hw.2, List.drop_zero, Nat.sub_zero, ← q1.length, List.take_length]
   rw [e]
   exact ⟨a, _, rfl, s1, q1⟩
  ·refine .inr ⟨a, xs, rfl, s1, hw, fun p hp => ?_⟩
   refine f (.tup _) G (.ref p) _ ?_ (c.side hp) (Le.fresh hp) t
   rw [RelD]
   exact ⟨p, _, rfl, SqT.of upd_same, RelDs.le (Le.fresh hp) (q1.cut lo hi)⟩
 ·exact t.elim
end
end L3
namespace L3
open PySem PySem.Spec PyProof.Rows L2
section
variable {X : Cx}
noncomputable def kindA (G : Gp) : D → Option String
 | .tup _ => some "tuple"
 | x => kindD G x
def xIsinstA : C3 := fun ds G q => match ds with
 | [x, .ty T] => (T = "int" ∨ T = "str" ∨ T = "bool" ∨ T = "list" ∨ T = "tuple" ∨ T = "dict") ∧ (match kindA G x with | some n => q (.bl (subK n T)) G | none => False)
 | _ => False
theorem x_isinstA : Call3 X (.builtin "isinstance") xIsinstA := weakCall (call_isinst.or call_isinstT) <| by
  rintro xs H Q ⟨ds, G, q, r, c, t, f⟩
  unfold xIsinstA at t
  split at t
  ·rename_i d T
   obtain ⟨v, u, rfl, r1, r2⟩ := r.two
   rw [RelD] at r2
   subst r2
   obtain ⟨hT, t⟩ := t
   split at t
   ·rename_i n en
    unfold kindA at en
    split at en
    ·cases en
     obtain ⟨a, ys, rfl, s1, q1⟩ := r1.tup_inv
     exact .inr ⟨a, ys, T, rfl, s1, hT, f _ _ _ _ RelD.blI c (Le.refl H) t⟩
    ·refine .inl ⟨v, n, T, rfl, ?_, hT, f _ _ _ _ RelD.blI c (Le.refl H) t⟩
     unfold kindD at en
     split at en
     ·cases r1.non_inv; cases en; rfl
     ·cases r1.bl_inv; cases en; rfl
     ·cases r1.int_inv; cases en; rfl
     ·cases r1.str_inv; cases en; rfl
     ·rename_i a
      cases r1.ref_inv
      split at en
      ·rename_i xs ea; cases en; obtain ⟨ys, h1, _⟩ := c _ _ ea; exact .inl ⟨rfl, .inl ⟨ys, h1⟩⟩
      ·rename_i xs ea; cases en; obtain ⟨o, ys, h1, _⟩ := c _ _ ea; exact .inl ⟨rfl, .inr ⟨o, ys, h1⟩⟩
      ·rename_i xs ea; cases en; obtain ⟨ys, h1, _⟩ := c _ _ ea; exact .inr (.inr ⟨rfl, ys, h1⟩)
      ·cases en
     ·cases en
   ·exact t.elim
  ·exact t.elim
end
end L3
namespace L2
open PySem PySem.Spec PyProof.Rows
noncomputable def tyN : Bool → String
 | true => "tuple_iterator"
 | false => "list_iterator"
def SIt (c : Bool) (h : Heap) (it l : Addr) (i : Nat) : Prop := ∃ o, h.get? it = some o ∧ o.cls = .type (tyN c) ∧ o.data = .fields #[.ref l, .int i 0]
def SOf (c : Bool) (h : Heap) (l : Addr) (xs : Array Value) : Prop := ∃ o, h.get? l = some o ∧ o.cls = .type (cond c "tuple" "list") ∧ ∃ n, o.data = .seq xs n
theorem SIt.at {c : Bool} {h h' : Heap} {it l : Addr} {i : Nat} (x : SIt c h it l i) (e : ∀ o, h.get? it = some o → h'.get? it = some o) : SIt c h' it l i := let ⟨o, ho, r⟩ := x; ⟨o, e _ ho, r⟩
theorem SOf.at {c : Bool} {h h' : Heap} {l : Addr} {xs : Array Value} (x : SOf c h l xs) (e : ∀ o, h.get? l = some o → h'.get? l = some o) : SOf c h' l xs := let ⟨o, ho, r⟩ := x; ⟨o, e _ ho, r⟩
section
variable {prog : Program} {w : World} {A : Around} {E : Value → Shared → Prop} {s : Shared}
theorem nx_tup {j l : Addr} {i : Nat} {xs : Array Value} {x : Value} {Q : Value → Shared → Prop} (hj : s.heap.IsTupleIter j l i) (hl : s.heap.IsTuple l xs) (hx : xs[i]? = some x)
  (q : ∀ h', h'.IsTupleIter j l (i + 1) → Heap.SameBut j s.heap h' → Q x { s with heap := h' }) : wpAny (model prog w) A (Builtin.SmallTypes.nextOf (.ref j)) Q E s := by
 obtain ⟨u, eu, cu, du⟩ := id hj
 obtain ⟨v, ev, _, nv, dv⟩ := hl
 unfold Builtin.SmallTypes.nextOf
 refine wpAny_bind (wpAny_callSpecial?_slot (name := Str.ofString "__next__") hj.typeIs F.slot_tuple_iterator_next (wpAny_call_entry F.slot_tuple_iterator_next hj.typeIs F.entry_tuple_iterator_next ?_ (F.args_tuple_iterator_next_1 _)))
 show wpAny _ _ (field (.ref j) 0 >>= _) _ _ s
 refine wpAny_bind (wpAny_field eu du (x := .ref l) rfl ?_)
 show wpAny _ _ (if (Value.ref l == Value.none) = true then _ else _) _ _ s
 rw [if_neg (c := (Value.ref l == Value.none) = true) fun z => Bool.false_ne_true z]
 show wpAny _ _ (field (.ref j) 1 >>= _) _ _ s
 refine wpAny_bind (wpAny_field eu du (x := .int i 0) rfl ?_)
 show wpAny _ _ (seqItems? (.ref l) >>= _) _ _ s
 refine wpAny_bind (wpAny_seqItems ev dv ?_)
 simp only [Int.toNat_natCast, hx]
 refine wpAny_bind (wpAny_setField eu du (by simp) (wpAny_pure ⟨x, rfl, wpAny_pure (q _ ?_ (Heap.SameBut.update ..))⟩))
 refine ⟨_, Heap.get?_update_self _ eu (Obj.isFreed_of_fields (Obj.data_mapFields du _)), (Obj.cls_mapFields ..).trans cu, ?_⟩
 rw [Obj.data_mapFields du]
 simp [rawInt]
theorem nx_tup_end {j l : Addr} {i : Nat} {xs : Array Value} {Q : Value → Shared → Prop} (hh : A.handled = none) (hj : s.heap.IsTupleIter j l i) (hl : s.heap.IsTuple l xs) (hx : xs[i]? = none)
  (q : ∀ h' e, Heap.ExtBut j s.heap h' → (∃ o, h'.get? e = some o ∧ o.cls = .type "StopIteration") → E (.ref e) { s with heap := h' }) : wpAny (model prog w) A (Builtin.SmallTypes.nextOf (.ref j)) Q E s := by
 obtain ⟨u, eu, cu, du⟩ := id hj
 obtain ⟨v, ev, _, nv, dv⟩ := hl
 unfold Builtin.SmallTypes.nextOf
 refine wpAny_bind (wpAny_callSpecial?_slot (name := Str.ofString "__next__") hj.typeIs F.slot_tuple_iterator_next (wpAny_call_entry F.slot_tuple_iterator_next hj.typeIs F.entry_tuple_iterator_next ?_ (F.args_tuple_iterator_next_1 _)))
 show wpAny _ _ (field (.ref j) 0 >>= _) _ _ s
 refine wpAny_bind (wpAny_field eu du (x := .ref l) rfl ?_)
 show wpAny _ _ (if (Value.ref l == Value.none) = true then _ else _) _ _ s
 rw [if_neg (c := (Value.ref l == Value.none) = true) fun z => Bool.false_ne_true z]
 show wpAny _ _ (field (.ref j) 1 >>= _) _ _ s
 refine wpAny_bind (wpAny_field eu du (x := .int i 0) rfl ?_)
 show wpAny _ _ (seqItems? (.ref l) >>= _) _ _ s
 refine wpAny_bind (wpAny_seqItems ev dv ?_)
 simp only [Int.toNat_natCast, hx]
 refine wpAny_bind (wpAny_rule (wpAny_bind (wpAny_setField eu du (by simp) ?_)))
 show wpAny _ _ (newExc (.type "StopIteration") [] >>= _) _ _ _
 refine wpAny_bind ?_
 simp only [newExc, newTuple]
 refine wpAny_bind (wpAny_newObj_type ?_ (by size_fits))
 refine wpAny_bind (m := firstArgMember _ _) (wpAny_of_eq (a := Value.none) (by first | rfl | (simp only [firstArgMember]; rfl)) ?_)
 refine wpAny_newObj_type ?_ (by size_fits)
 simp only [raiseNew]
 refine wpAny_bind (wpAny_handled ?_)
 first | rw [show A.in1.handled = none from hh] | rw [hh]
 refine wpAny_bind (wpAny_pure (wpAny_throw ?_))
 exact q _ _ (((Heap.SameBut.update ..).extBut.push _).push _) ⟨_, Heap.get?_push_size _ rfl, rfl⟩
theorem nx_item {c : Bool} {j l : Addr} {i : Nat} {xs : Array Value} {x : Value} {Q : Value → Shared → Prop} (hj : SIt c s.heap j l i) (hl : SOf c s.heap l xs) (hx : xs[i]? = some x)
  (q : ∀ h', SIt c h' j l (i + 1) → Heap.SameBut j s.heap h' → Q x { s with heap := h' }) : wpAny (model prog w) A (Builtin.SmallTypes.nextOf (.ref j)) Q E s := by
 cases c with
 | true => exact nx_tup hj hl hx q
 | false => exact wpAny_nextOf_list_item hj hl hx q
theorem nx_end {c : Bool} {j l : Addr} {i : Nat} {xs : Array Value} {Q : Value → Shared → Prop} (hh : A.handled = none) (hj : SIt c s.heap j l i) (hl : SOf c s.heap l xs) (hx : xs[i]? = none)
  (q : ∀ h' e, Heap.ExtBut j s.heap h' → (∃ o, h'.get? e = some o ∧ o.cls = .type "StopIteration") → E (.ref e) { s with heap := h' }) : wpAny (model prog w) A (Builtin.SmallTypes.nextOf (.ref j)) Q E s := by
 cases c with
 | true => exact nx_tup_end hh hj hl hx q
 | false => exact wpAny_nextOf_list_end hh hj hl hx q
theorem zt_item {c d : Bool} {z TI TO i1 i2 l1 l2 : Addr} {k1 k2 : Nat} {xs ys : Array Value} {x y a b : Value} {Q : Value → Shared → Prop} (D : ZipApart z TI TO i1 i2 l1 l2)
  (ez : IsZip s.heap z TI TO .none) (eI : IsPair s.heap TI (.ref i1) (.ref i2)) (eO : IsPair s.heap TO a b) (j1 : SIt c s.heap i1 l1 k1) (j2 : SIt d s.heap i2 l2 k2) (m1 : SOf c s.heap l1 xs) (m2 : SOf d s.heap l2 ys) (hx : xs[k1]? = some x) (hy : ys[k2]? = some y)
  (q : ∀ h', IsZip h' z TI TO (rawInt s.heap.objs.size) → IsPair h' TO x y → SIt c h' i1 l1 (k1 + 1) → SIt d h' i2 l2 (k2 + 1) → IsPair h' s.heap.objs.size x y → h'.objs.size = s.heap.objs.size + 1 → (∀ e o, e ≠ z → e ≠ TO → e ≠ i1 → e ≠ i2 → s.heap.get? e = some o → h'.get? e = some o) → Q (.ref s.heap.objs.size) { s with heap := h' }) :
  wpAny (model prog w) A (Builtin.«zip.__next__» ⟨[.ref z], []⟩) (fun fin s' => ∃ v, fin = .done (.ret v) ∧ Q v s') E s := by
 show wpAny _ _ (field (.ref z) 2 >>= _) _ _ _
 refine wpAny_bind (wpAny_field ez rfl (x := .bool false) rfl ?_)
 show wpAny _ _ (field (.ref z) 3 >>= _) _ _ _
 refine wpAny_bind (wpAny_field ez rfl (x := .ref TI) rfl ?_)
 refine wpAny_bind (wpAny_seqItems eI rfl ?_)
 show wpAny _ _ (Builtin.SmallTypes.ownedTupleIsFree (.ref z) >>= _) _ _ _
 refine wpAny_bind ?_
 unfold Builtin.SmallTypes.ownedTupleIsFree
 refine wpAny_bind (wpAny_field ez rfl (x := .none) rfl (wpAny_pure ?_))
 simp only [if_true]
 refine wpAny_bind (wpAny_rule ?_)
 refine wpAny_bind (wpAny_field ez rfl (x := .ref TO) rfl ?_)
 refine wpAny_bind (wpAny_setField_rec ez (by simp) fun g1 e1 b1 => ?_)
 replace e1 : IsZip g1 z TI TO .ellipsis := e1
 have u1 : ∀ {e o}, e ≠ z → s.heap.get? e = some o → g1.get? e = some o := fun n z => (b1.2 _ n).trans z
 refine wpAny_bind ?_
 simp only [List.zipIdx_cons, List.zipIdx_nil, List.forIn_cons, List.forIn_nil]
 refine wpAny_bind (wpAny_bind (wpAny_onRaise ?_))
 show wpAny _ _ (Builtin.SmallTypes.nextOf (.ref i1) >>= _) _ _ _
 refine wpAny_bind (nx_item (j1.at fun o => u1 D.i1z) (m1.at fun o => u1 D.l1z) hx fun g2 n1 b2 => wpAny_pure ?_)
 have u2 : ∀ {e o}, e ≠ i1 → g1.get? e = some o → g2.get? e = some o := fun n z => (b2.2 _ n).trans z
 have o2 : IsPair g2 TO a b := u2 D.TOi1 (u1 D.TOz eO)
 refine wpAny_bind (wpAny_seqItems o2 rfl ?_)
 refine wpAny_bind (wpAny_updateSeq_pair o2 fun g3 o3 b3 => ?_)
 replace o3 : IsPair g3 TO x b := o3
 have u3 : ∀ {e o}, e ≠ TO → g2.get? e = some o → g3.get? e = some o := fun n z => (b3.2 _ n).trans z
 refine wpAny_bind (wpAny_letGo (wpAny_pure ?_))
 refine wpAny_bind (wpAny_bind (wpAny_onRaise ?_))
 show wpAny _ _ (Builtin.SmallTypes.nextOf (.ref i2) >>= _) _ _ _
 refine wpAny_bind (nx_item (j2.at fun o e => u3 (Ne.symm D.TOi2) (u2 (Ne.symm D.i12) (u1 D.i2z e))) (m2.at fun o e => u3 D.l2TO (u2 D.l2i1 (u1 D.l2z e))) hy fun g4 n2 b4 => wpAny_pure ?_)
 have u4 : ∀ {e o}, e ≠ i2 → g3.get? e = some o → g4.get? e = some o := fun n z => (b4.2 _ n).trans z
 have o4 : IsPair g4 TO x b := u4 D.TOi2 o3
 refine wpAny_bind (wpAny_seqItems o4 rfl ?_)
 refine wpAny_bind (wpAny_updateSeq_pair o4 fun g5 o5 b5 => ?_)
 replace o5 : IsPair g5 TO x y := o5
 have u5 : ∀ {e o}, e ≠ TO → g4.get? e = some o → g5.get? e = some o := fun n z => (b5.2 _ n).trans z
 refine wpAny_bind (wpAny_letGo (wpAny_pure (wpAny_pure ?_)))
 refine wpAny_bind (wpAny_seqItems o5 rfl ?_)
 refine wpAny_bind (wpAny_newTuple ?_)
 have sz : g5.objs.size = s.heap.objs.size := by rw [b5.1, b4.1, b3.1, b2.1, b1.1]
 have z5 : IsZip g5 z TI TO .ellipsis := u5 (Ne.symm D.TOz) (u4 (Ne.symm D.i2z) (u3 (Ne.symm D.TOz) (u2 (Ne.symm D.i1z) e1)))
 have zl : z < g5.objs.size := Heap.lt_size z5
 show wpAny _ _ (Builtin.SmallTypes.ownedTupleHandOut (.ref z) (.ref g5.objs.size) >>= _) _ _ _
 refine wpAny_bind ?_
 unfold Builtin.SmallTypes.ownedTupleHandOut
 have z6 : IsZip (g5.push { cls := .type "tuple", data := .seq #[x, y] }) z TI TO .ellipsis := Heap.get?_push_of_some _ z5
 refine wpAny_bind (wpAny_setField_rec z6 (by simp) fun g7 z7 b7 => ?_)
 replace z7 : IsZip g7 z TI TO (rawInt g5.objs.size) := z7
 refine wpAny_setField_rec z7 (by simp) fun g8 z8 b8 => ?_
 replace z8 : IsZip g8 z TI TO (rawInt g5.objs.size) := z8
 have u8 : ∀ {e o}, e ≠ z → (g5.push { cls := .type "tuple", data := .seq #[x, y] }).get? e = some o → g8.get? e = some o := fun n z => (b8.2 _ n).trans ((b7.2 _ n).trans z)
 have t8 : IsPair g8 g5.objs.size x y := u8 (Nat.ne_of_gt zl) (Heap.get?_push_size _ rfl)
 have s8 : g8.objs.size = g5.objs.size + 1 := by rw [b8.1, b7.1, Heap.size_push]
 rw [sz] at z8 t8 s8
 refine wpAny_pure ⟨_, rfl, ?_⟩
 show Q (.ref g5.objs.size) _
 rw [sz]
 have v8 : ∀ {e o}, e ≠ z → g5.get? e = some o → g8.get? e = some o := fun n z => u8 n (Heap.get?_push_of_some _ z)
 exact q g8 z8 (v8 D.TOz o5) (n1.at fun o e => v8 D.i1z (u5 (Ne.symm D.TOi1) (u4 D.i12 (u3 (Ne.symm D.TOi1) e)))) (n2.at fun o e => v8 D.i2z (u5 (Ne.symm D.TOi2) e)) t8 s8
  fun e o p1 p2 p3 p4 h => v8 p1 (u5 p2 (u4 p4 (u3 p2 (u2 p3 (u1 p1 h)))))
theorem zt_end {c d : Bool} {z TI TO i1 i2 l1 l2 : Addr} {k1 k2 : Nat} {xs ys : Array Value} {a b : Value} {Q : Fin → Shared → Prop} (hh : A.handled = none) (D : ZipApart z TI TO i1 i2 l1 l2)
  (ez : IsZip s.heap z TI TO .none) (eI : IsPair s.heap TI (.ref i1) (.ref i2)) (eO : IsPair s.heap TO a b) (j1 : SIt c s.heap i1 l1 k1) (j2 : SIt d s.heap i2 l2 k2) (m1 : SOf c s.heap l1 xs) (m2 : SOf d s.heap l2 ys) (hend : xs[k1]? = none ∨ ys[k2]? = none)
  (q : ∀ h' e, (∀ e o, e ≠ z → e ≠ TO → e ≠ i1 → e ≠ i2 → s.heap.get? e = some o → h'.get? e = some o) → (∃ o, h'.get? e = some o ∧ o.cls = .type "StopIteration") → E (.ref e) { s with heap := h' }) :
  wpAny (model prog w) A (Builtin.«zip.__next__» ⟨[.ref z], []⟩) Q E s := by
 show wpAny _ _ (field (.ref z) 2 >>= _) _ _ _
 refine wpAny_bind (wpAny_field ez rfl (x := .bool false) rfl ?_)
 show wpAny _ _ (field (.ref z) 3 >>= _) _ _ _
 refine wpAny_bind (wpAny_field ez rfl (x := .ref TI) rfl ?_)
 refine wpAny_bind (wpAny_seqItems eI rfl ?_)
 show wpAny _ _ (Builtin.SmallTypes.ownedTupleIsFree (.ref z) >>= _) _ _ _
 refine wpAny_bind ?_
 unfold Builtin.SmallTypes.ownedTupleIsFree
 refine wpAny_bind (wpAny_field ez rfl (x := .none) rfl (wpAny_pure ?_))
 simp only [if_true]
 refine wpAny_bind (wpAny_rule ?_)
 refine wpAny_bind (wpAny_field ez rfl (x := .ref TO) rfl ?_)
 refine wpAny_bind (wpAny_setField_rec ez (by simp) fun g1 e1 b1 => ?_)
 replace e1 : IsZip g1 z TI TO .ellipsis := e1
 have u1 : ∀ {e o}, e ≠ z → s.heap.get? e = some o → g1.get? e = some o := fun n z => (b1.2 _ n).trans z
 refine wpAny_bind ?_
 simp only [List.zipIdx_cons, List.zipIdx_nil, List.forIn_cons, List.forIn_nil]
 refine wpAny_bind (wpAny_bind (wpAny_onRaise ?_))
 show wpAny _ _ (Builtin.SmallTypes.nextOf (.ref i1) >>= _) _ _ _
 have stopz : ∀ {g : Heap} {e : Addr}, IsZip g z TI TO .ellipsis → (∃ o, g.get? e = some o ∧ o.cls = .type "StopIteration") → e ≠ z := fun hz ⟨o, h1, h2⟩ n => by
  subst n; rw [hz] at h1; cases h1; simp at h2
 cases hx : xs[k1]? with
 | none =>
  refine wpAny_bind (nx_end hh (j1.at fun o => u1 D.i1z) (m1.at fun o => u1 D.l1z) hx fun g2 e b2 he => ?_)
  have z2 : IsZip g2 z TI TO .ellipsis := b2 _ _ (Ne.symm D.i1z) e1
  have ne := stopz z2 he
  obtain ⟨oe, k1, k2⟩ := he
  refine wpAny_setField_rec z2 (by simp) fun g3 _ b3 => q g3 e (fun f o p1 _ p3 _ h => (b3.2 _ p1).trans (b2 _ _ p3 (u1 p1 h))) ⟨oe, (b3.2 _ ne).trans k1, k2⟩
 | some x =>
  have hy : ys[k2]? = none := by
   rcases hend with h | h
   ·rw [hx] at h; cases h
   ·exact h
  refine wpAny_bind (nx_item (j1.at fun o => u1 D.i1z) (m1.at fun o => u1 D.l1z) hx fun g2 n1 b2 => wpAny_pure ?_)
  have u2 : ∀ {e o}, e ≠ i1 → g1.get? e = some o → g2.get? e = some o := fun n z => (b2.2 _ n).trans z
  have o2 : IsPair g2 TO a b := u2 D.TOi1 (u1 D.TOz eO)
  refine wpAny_bind (wpAny_seqItems o2 rfl ?_)
  refine wpAny_bind (wpAny_updateSeq_pair o2 fun g3 o3 b3 => ?_)
  have u3 : ∀ {e o}, e ≠ TO → g2.get? e = some o → g3.get? e = some o := fun n z => (b3.2 _ n).trans z
  refine wpAny_bind (wpAny_letGo (wpAny_pure ?_))
  refine wpAny_bind (wpAny_bind (wpAny_onRaise ?_))
  show wpAny _ _ (Builtin.SmallTypes.nextOf (.ref i2) >>= _) _ _ _
  refine wpAny_bind (nx_end hh (j2.at fun o e => u3 (Ne.symm D.TOi2) (u2 (Ne.symm D.i12) (u1 D.i2z e))) (m2.at fun o e => u3 D.l2TO (u2 D.l2i1 (u1 D.l2z e))) hy fun g4 e b4 he => ?_)
  have z4 : IsZip g4 z TI TO .ellipsis := b4 _ _ (Ne.symm D.i2z) (u3 (Ne.symm D.TOz) (u2 (Ne.symm D.i1z) e1))
  have ne := stopz z4 he
  obtain ⟨oe, k1, k2⟩ := he
  refine wpAny_setField_rec z4 (by simp) fun g5 _ b5 => q g5 e (fun f o p1 p2 p3 p4 h => (b5.2 _ p1).trans (b4 _ _ p4 (u3 p2 (u2 p3 (u1 p1 h))))) ⟨oe, (b5.2 _ ne).trans k1, k2⟩
theorem zt_next {c d : Bool} {z TI TO i1 i2 l1 l2 : Addr} {k1 k2 : Nat} {xs ys : Array Value} {x y a b : Value} {Q : Option Value → Shared → Prop} (D : ZipApart z TI TO i1 i2 l1 l2)
  (ez : IsZip s.heap z TI TO .none) (eI : IsPair s.heap TI (.ref i1) (.ref i2)) (eO : IsPair s.heap TO a b) (j1 : SIt c s.heap i1 l1 k1) (j2 : SIt d s.heap i2 l2 k2) (m1 : SOf c s.heap l1 xs) (m2 : SOf d s.heap l2 ys) (hx : xs[k1]? = some x) (hy : ys[k2]? = some y)
  (q : ∀ h', IsZip h' z TI TO (rawInt s.heap.objs.size) → IsPair h' TO x y → SIt c h' i1 l1 (k1 + 1) → SIt d h' i2 l2 (k2 + 1) → IsPair h' s.heap.objs.size x y → h'.objs.size = s.heap.objs.size + 1 → (∀ e o, e ≠ z → e ≠ TO → e ≠ i1 → e ≠ i2 → s.heap.get? e = some o → h'.get? e = some o) → Q (some (.ref s.heap.objs.size)) { s with heap := h' }) :
  wpAny (model prog w) A (pyNext (.ref z)) Q E s := by
 have ty : s.TypeIs (.ref z) "zip" := ⟨_, ez, rfl⟩
 unfold pyNext
 refine wpAny_bind (wpAny_attempt (wpAny_callSpecial?_slot (name := Str.ofString "__next__") ty F.slot_zip_next (wpAny_call_entry F.slot_zip_next ty F.entry_zip_next ?_ (F.args_zip_next_1 _))))
 exact zt_item D ez eI eO j1 j2 m1 m2 hx hy fun h' a1 a2 a3 a4 a5 a6 a7 => wpAny_pure (q h' a1 a2 a3 a4 a5 a6 a7)
theorem zt_over {c d : Bool} {z TI TO i1 i2 l1 l2 : Addr} {k1 k2 : Nat} {xs ys : Array Value} {a b : Value} {Q : Option Value → Shared → Prop} (hh : A.handled = none) (D : ZipApart z TI TO i1 i2 l1 l2)
  (ez : IsZip s.heap z TI TO .none) (eI : IsPair s.heap TI (.ref i1) (.ref i2)) (eO : IsPair s.heap TO a b) (j1 : SIt c s.heap i1 l1 k1) (j2 : SIt d s.heap i2 l2 k2) (m1 : SOf c s.heap l1 xs) (m2 : SOf d s.heap l2 ys) (hend : xs[k1]? = none ∨ ys[k2]? = none)
  (q : ∀ h', (∀ e o, e ≠ z → e ≠ TO → e ≠ i1 → e ≠ i2 → s.heap.get? e = some o → h'.get? e = some o) → Q none { s with heap := h' }) : wpAny (model prog w) A (pyNext (.ref z)) Q E s := by
 have ty : s.TypeIs (.ref z) "zip" := ⟨_, ez, rfl⟩
 unfold pyNext
 refine wpAny_bind (wpAny_attempt (wpAny_callSpecial?_slot (name := Str.ofString "__next__") ty F.slot_zip_next (wpAny_call_entry F.slot_zip_next ty F.entry_zip_next ?_ (F.args_zip_next_1 _))))
 refine zt_end hh D ez eI eO j1 j2 m1 m2 hend fun h' e hk ⟨o, k1, k2⟩ => ?_
 exact wpAny_bind (wpAny_isInstance (T := "StopIteration") (b := true) ⟨o, k1, k2⟩ isSubtype_stop (wpAny_pure (q _ hk)))
end
end L2
namespace L2
open PySem PySem.Spec PyProof.Rows
noncomputable abbrev itO (c : Bool) (l : Addr) : Obj := { cls := .type (tyN c), data := .fields #[.ref l, .int 0 0] }
noncomputable abbrev zt1 (h : Heap) (c : Bool) (l1 : Addr) : Heap := h.push (itO c l1)
noncomputable abbrev zt2 (h : Heap) (c d : Bool) (l1 l2 : Addr) : Heap := (zt1 h c l1).push (itO d l2)
noncomputable abbrev zt3 (h : Heap) (c d : Bool) (l1 l2 : Addr) : Heap := (zt2 h c d l1 l2).push { cls := .type "tuple", data := .seq #[.ref h.objs.size, .ref (zt1 h c l1).objs.size] }
noncomputable abbrev zt4 (h : Heap) (c d : Bool) (l1 l2 : Addr) : Heap := (zt3 h c d l1 l2).push { cls := .type "tuple", data := .seq #[.none, .none] }
noncomputable abbrev zt5 (h : Heap) (c d : Bool) (l1 l2 : Addr) : Heap := (zt4 h c d l1 l2).push { cls := .type "zip", data := .fields #[.none, .bool false, .bool false, .ref (zt2 h c d l1 l2).objs.size, .ref (zt3 h c d l1 l2).objs.size] }
theorem SOf.push {c : Bool} {h : Heap} {l : Addr} {xs : Array Value} (x : SOf c h l xs) (o : Obj) : SOf c (h.push o) l xs := x.at fun _ e => Heap.get?_push_of_some o e
set_option maxHeartbeats 4000000 in
theorem zt_new (c d : Bool) (l1 l2 : Addr) (xs ys : Array Value) :
  Meets (Builtin.«zip.__new__» ⟨[.type "zip", .ref l1, .ref l2], []⟩) (fun _ R s => SOf c s.heap l1 xs ∧ SOf d s.heap l2 ys ∧ R (.ok (.ret (.ref (zt4 s.heap c d l1 l2).objs.size))) { s with heap := zt5 s.heap c d l1 l2 }) :=
 .of_wp fun prog w A R s h => by
  obtain ⟨hp, g, dd, tk, os⟩ := s
  obtain ⟨m1, m2, h⟩ := h
  have sub := sub_zip
  cases c with
  | true =>
   have a1 : Heap.IsTuple (Shared.heap ⟨hp, g, dd, tk, os⟩) l1 xs := m1
   cases d with
   | true =>
    have a2 : Heap.IsTuple (Shared.heap ⟨hp.push { cls := .type "tuple_iterator", data := .fields #[.ref l1, .int 0 0] }, g, dd, tk, os⟩) l2 ys := m2.push _
    wp_walk using wpAny_pyIter_tuple a1, wpAny_pyIter_tuple a2
    exact ⟨_, rfl, h⟩
   | false =>
    have a2 : Heap.IsList (Shared.heap ⟨hp.push { cls := .type "tuple_iterator", data := .fields #[.ref l1, .int 0 0] }, g, dd, tk, os⟩) l2 ys := m2.push _
    wp_walk using wpAny_pyIter_tuple a1, wpAny_pyIter_list a2
    exact ⟨_, rfl, h⟩
  | false =>
   have a1 : Heap.IsList (Shared.heap ⟨hp, g, dd, tk, os⟩) l1 xs := m1
   cases d with
   | true =>
    have a2 : Heap.IsTuple (Shared.heap ⟨hp.push { cls := .type "list_iterator", data := .fields #[.ref l1, .int 0 0] }, g, dd, tk, os⟩) l2 ys := m2.push _
    wp_walk using wpAny_pyIter_list a1, wpAny_pyIter_tuple a2
    exact ⟨_, rfl, h⟩
   | false =>
    have a2 : Heap.IsList (Shared.heap ⟨hp.push { cls := .type "list_iterator", data := .fields #[.ref l1, .int 0 0] }, g, dd, tk, os⟩) l2 ys := m2.push _
    wp_walk using wpAny_pyIter_list a1, wpAny_pyIter_list a2
    exact ⟨_, rfl, h⟩
section
variable {prog : Program} {w : World} {A : Around} {E : Value → Shared → Prop} {s : Shared}
theorem zt_call {c d : Bool} {l1 l2 : Addr} {xs ys : Array Value} {Q : Value → Shared → Prop} (m1 : SOf c s.heap l1 xs) (m2 : SOf d s.heap l2 ys)
  (q : ∀ h', IsZip h' (s.heap.objs.size + 4) (s.heap.objs.size + 2) (s.heap.objs.size + 3) .none → IsPair h' (s.heap.objs.size + 2) (.ref s.heap.objs.size) (.ref (s.heap.objs.size + 1)) → IsPair h' (s.heap.objs.size + 3) .none .none →
   SIt c h' s.heap.objs.size l1 0 → SIt d h' (s.heap.objs.size + 1) l2 0 → (∀ e o, s.heap.get? e = some o → h'.get? e = some o) → Q (.ref (s.heap.objs.size + 4)) { s with heap := h' }) :
  wpAny (model prog w) A (call (.type "zip") [.ref l1, .ref l2]) Q E s := by
 refine callType_new F.called_zip (by decide) (F.typeCall_zip_2 _ _) (F.newCall_zip_2 _ _) (fun obj => F.args_object_init_3 obj _ _) F.entry_zip_new (zt_new c d l1 l2 xs ys) ⟨m1, m2, ?_⟩
 have n1 : (zt1 s.heap c l1).objs.size = s.heap.objs.size + 1 := Heap.size_push ..
 have n2 : (zt2 s.heap c d l1 l2).objs.size = s.heap.objs.size + 2 := by rw [Heap.size_push, n1]
 have n3 : (zt3 s.heap c d l1 l2).objs.size = s.heap.objs.size + 3 := by rw [Heap.size_push, n2]
 have n4 : (zt4 s.heap c d l1 l2).objs.size = s.heap.objs.size + 4 := by rw [Heap.size_push, n3]
 have r5 : (zt5 s.heap c d l1 l2).get? (zt4 s.heap c d l1 l2).objs.size = some _ := Heap.get?_push_size _ rfl
 have r4 : (zt5 s.heap c d l1 l2).get? (zt3 s.heap c d l1 l2).objs.size = some _ := Heap.get?_push_of_some _ (Heap.get?_push_size _ rfl)
 have r3 : (zt5 s.heap c d l1 l2).get? (zt2 s.heap c d l1 l2).objs.size = some _ := Heap.get?_push_of_some _ (Heap.get?_push_of_some _ (Heap.get?_push_size _ rfl))
 have r2 : (zt5 s.heap c d l1 l2).get? (zt1 s.heap c l1).objs.size = some _ := Heap.get?_push_of_some _ (Heap.get?_push_of_some _ (Heap.get?_push_of_some _ (Heap.get?_push_size _ rfl)))
 have r1 : (zt5 s.heap c d l1 l2).get? s.heap.objs.size = some _ := Heap.get?_push_of_some _ (Heap.get?_push_of_some _ (Heap.get?_push_of_some _ (Heap.get?_push_of_some _ (Heap.get?_push_size _ rfl))))
 show _ ∧ _
 rw [n2, n3, n4] at r5
 rw [n1, n2] at r3
 rw [n3] at r4
 rw [n1] at r2
 rw [n4]
 refine ⟨⟨_, r5, rfl⟩, q _ r5 r3 r4 ⟨_, r1, rfl, rfl⟩ ⟨_, r2, rfl, rfl⟩ fun e o x => ?_⟩
 exact Heap.get?_push_of_some _ (Heap.get?_push_of_some _ (Heap.get?_push_of_some _ (Heap.get?_push_of_some _ (Heap.get?_push_of_some _ x))))
end
def Sq (c : Bool) (K : PySem.W.Frag) (H : Hp) (a : Addr) (xs : List V) : Prop := match c with
 | true => SqT K H a xs
 | false => SqL K H a xs
theorem Inv.sq {X : Cx} {pins : List (Addr × Obj)} {σ : List (Option V)} {H : Hp} {s : Shared} {c : Bool} {a : Addr} {xs : List V} (I : Inv X pins σ H s) (h : Sq c X.K H a xs) : ∃ its : List Value, Vals xs its ∧ SOf c s.heap a its.toArray := by
 cases c with
 | true =>
  obtain ⟨its, r, p, _⟩ := I.tuple h
  exact ⟨its, r, p⟩
 | false =>
  obtain ⟨its, r, p, _⟩ := I.list h
  obtain ⟨o, e, h1, h2⟩ := p.isList
  exact ⟨its, r, o, e, h1, h2⟩
theorem Inv.sq_inj {X : Cx} {pins : List (Addr × Obj)} {σ : List (Option V)} {H : Hp} {s : Shared} {c : Bool} {a : Addr} {xs ys : List V} (I : Inv X pins σ H s) (h : Sq c X.K H a xs) (h' : Sq c X.K H a ys) : xs = ys := by
 cases c with
 | true => exact I.tuple_inj h h'
 | false => exact I.list_inj h h'
noncomputable def ItZ (K : PySem.W.Frag) (c d : Bool) (a b : Addr) : It :=
 ⟨fun i H => ∃ xs ys x y, Sq c K H a xs ∧ Sq d K H b ys ∧ xs[i]? = some x ∧ ys[i]? = some y, fun i H v H' => ∃ p x y, v = .ref p ∧ H p = none ∧ H' = upd H p (.tup [x, y]) ∧ (∀ xs, Sq c K H a xs → xs[i]? = some x) ∧ ∀ ys, Sq d K H b ys → ys[i]? = some y,
  fun i H => ∃ xs ys, Sq c K H a xs ∧ Sq d K H b ys ∧ (xs.length ≤ i ∨ ys.length ≤ i)⟩
def ZtSt (c d : Bool) (a b z TI TO i1 i2 : Addr) (i : Nat) (h : Heap) : Prop := IsZip h z TI TO .none ∧ IsPair h TI (.ref i1) (.ref i2) ∧ (∃ u v, IsPair h TO u v) ∧ SIt c h i1 a i ∧ SIt d h i2 b i
theorem turn_zt {P : Program} {w : World} {K : PySem.W.Frag} {elts : List Expr} {x1} {pos : Pos} {c d : Bool} {a b z TI TO i1 i2 : Addr} (ap : ZipApart z TI TO i1 i2 a b) : Turn P w K (.Tuple elts x1 pos) (ItZ K c d a b) [z, TI, TO, i1, i2] z (ZtSt c d a b z TI TO i1 i2) where
 mem := by simp
 obj := fun i h st e he => by
  obtain ⟨h1, h2, ⟨u, v, h3⟩, h4, h5⟩ := st
  simp only [List.mem_cons, List.not_mem_nil, or_false] at he
  rcases he with q | q | q | q | q <;> subst q
  ·exact ⟨_, h1, fun v z => by cases (show Data.fields _ = Data.cell v from z)⟩
  ·exact ⟨_, h2, fun v z => by cases (show Data.seq _ _ = Data.cell v from z)⟩
  ·exact ⟨_, h3, fun v z => by cases (show Data.seq _ _ = Data.cell v from z)⟩
  ·obtain ⟨o, e, _, k⟩ := h4
   exact ⟨o, e, fun v z => by rw [k] at z; cases z⟩
  ·obtain ⟨o, e, _, k⟩ := h5
   exact ⟨o, e, fun v z => by rw [k] at z; cases z⟩
 keep := fun i h h' st k => by
  obtain ⟨h1, h2, ⟨u, v, h3⟩, h4, h5⟩ := st
  exact ⟨k z (by simp) _ h1, k TI (by simp) _ h2, ⟨u, v, k TO (by simp) _ h3⟩, h4.at fun o q => k i1 (by simp) o q, h5.at fun o q => k i2 (by simp) o q⟩
 item := by
  intro X hP hw hK hc i pins s σ H E I hf st hg
  subst hP hw hK
  obtain ⟨h1, h2, ⟨u0, v0, h3⟩, h4, h5⟩ := st
  obtain ⟨xs, ys, x, y, hq, hq2, hx, hy⟩ := hg
  obtain ⟨its, rv, p⟩ := I.sq hq
  obtain ⟨its2, rv2, p2⟩ := I.sq hq2
  obtain ⟨u, hu, ru⟩ := rv.get hx
  obtain ⟨u2, hu2, ru2⟩ := rv2.get hy
  have hn : H s.heap.objs.size = none := I.hok.fresh (Nat.le_refl _)
  have lt : ∀ {c o}, s.heap.get? c = some o → c ≠ s.heap.objs.size := fun e => Nat.ne_of_lt (Heap.lt_size e)
  refine zt_next ap h1 h2 h3 h4 h5 p p2 (x := u) (y := u2) (by simpa using hu) (by simpa using hu2) fun h' k1 k2 k3 k4 k5 k6 k7 => ?_
  refine ⟨_, rfl, wpAny_letOwnedTupleGo_zip k1 fun h'' m1 m2 => ?_⟩
  replace m2 : Heap.SameBut z h' h'' := m2
  have hk : ∀ e o, e ∉ [z, TI, TO, i1, i2] → s.heap.get? e = some o → h''.get? e = some o := fun e o he q => by
   simp only [List.mem_cons, List.not_mem_nil, or_false, not_or] at he
   exact (m2.2 e he.1).trans (k7 e o he.1 he.2.2.1 he.2.2.2.1 he.2.2.2.2 q)
  have k5' := (m2.2 s.heap.objs.size (Ne.symm (lt h1))).trans k5
  refine ⟨.ref s.heap.objs.size, upd H s.heap.objs.size (.tup [x, y]), I.turnedL (t' := s.toks) hk hf ?_, rfl, ⟨_, x, y, rfl, hn, rfl, fun ws e => by rw [I.sq_inj e hq]; exact hx, fun ws e => by rw [I.sq_inj e hq2]; exact hy⟩, ⟨m1, ?_, ⟨u, u2, ?_⟩, ?_, ?_⟩, fun e he => ?_⟩
  ·exact ⟨show 2 ≤ sizeLine by decide, [u, u2], .cons ru (.cons ru2 .nil), ⟨_, k5', rfl, ⟨_, rfl⟩, rfl⟩⟩
  ·exact (m2.2 TI ap.TIz).trans (k7 TI _ ap.TIz ap.TITO ap.TIi1 ap.TIi2 h2)
  ·exact (m2.2 TO ap.TOz).trans k2
  ·exact k3.at fun o q => (m2.2 i1 ap.i1z).trans q
  ·exact k4.at fun o q => (m2.2 i2 ap.i2z).trans q
  ·rw [upd_ne ?_]
   ·exact (hf e he).1
   ·simp only [List.mem_cons, List.not_mem_nil, or_false] at he
    rcases he with q | q | q | q | q <;> subst q
    ·exact lt h1
    ·exact lt h2
    ·exact lt h3
    ·obtain ⟨o, e, _⟩ := h4; exact lt e
    ·obtain ⟨o, e, _⟩ := h5; exact lt e
 done := by
  intro X hP hw hK hc i pins s σ H E I hf st hg
  subst hP hw hK
  obtain ⟨h1, h2, ⟨u0, v0, h3⟩, h4, h5⟩ := st
  obtain ⟨xs, ys, hq, hq2, hx⟩ := hg
  obtain ⟨its, rv, p⟩ := I.sq hq
  obtain ⟨its2, rv2, p2⟩ := I.sq hq2
  have hl := rv.length
  have hl2 := rv2.length
  refine zt_over (I.ok.hd hc) ap h1 h2 h3 h4 h5 p p2 (by simp; omega) fun h' k => ⟨rfl, I.turnedN (fp := [z, TI, TO, i1, i2]) (t' := s.toks) (fun e o he q => ?_) hf⟩
  simp only [List.mem_cons, List.not_mem_nil, or_false, not_or] at he
  exact k e o he.1 he.2.2.1 he.2.2.2.1 he.2.2.2.2 q
 self := fun _ _ _ _ _ st h => wpAny_pyIter_zip st.1 h
def iZt (K : PySem.W.Frag) (ta : TA) : TI := fun σ H R => ta σ H fun vs H1 => ∃ c d a b, vs = [.ref a, .ref b] ∧ (∃ xs, Sq c K H1 a xs) ∧ (∃ xs, Sq d K H1 b xs) ∧ R (ItZ K c d a b) H1
theorem pi_zt {X : Cx} {elts : List Expr} {x1} {tpos : Pos} {a b : Expr} {ta : TA} {p pos : Pos} (hg : Gl X "zip") (hm : X.mg "zip" = none) (ha : PA X [a, b] ta) (hs : starEach [a, b] X.env = (false, eval a X.env) :: starEach [b] X.env := by rfl) (hs2 : (backTo pos (starEach [b] X.env)).any (·.1) = false := by rfl) :
  PI X (.Tuple elts x1 tpos) (.Call (.Name "zip" p) [a, b] [] pos) (iZt X.K ta) := by
 intro pins s σ H R I h
 refine Call_ (ld_blt I hg hm boot_zip (PyProof.Rows.callWith_type1 (thn (ha pos pins s σ H _ I h) fun us s1 ⟨vs, H1, I1, r1, q1⟩ => ?_) hs hs2))
 obtain ⟨c, d, l, m, e, ⟨xs, hq⟩, ⟨ys, hq2⟩, q⟩ := q1
 subst e
 cases r1 with
 | cons r rr =>
  cases rr with
  | cons r2 rr =>
   cases rr
   cases r
   cases r2
   obtain ⟨its, rv, pl⟩ := I1.sq hq
   obtain ⟨its2, rv2, pl2⟩ := I1.sq hq2
   have hll : l < s1.heap.objs.size := by obtain ⟨o, e, _⟩ := pl; exact Heap.lt_size e
   have hlm : m < s1.heap.objs.size := by obtain ⟨o, e, _⟩ := pl2; exact Heap.lt_size e
   refine zt_call pl pl2 fun h' k1 k2 k3 k4 k5 k7 => ?_
   refine wpAny_pyIter_zip k1 ?_
   have I2 : Inv X pins σ H1 { s1 with heap := h' } := I1.kept (t' := s1.toks) k7
   refine ⟨_, _, _, _, H1, rfl, I2, turn_zt (zipApart_new hll hlm), ⟨k1, k2, ⟨_, _, k3⟩, k4, k5⟩, fun e he => ?_, q⟩
   have hb : s1.heap.objs.size ≤ e := by
    simp only [List.mem_cons, List.not_mem_nil, or_false] at he
    rcases he with q | q | q | q | q <;> subst q <;> omega
   exact I1.fpOk hb (I1.hok.fresh hb)
end L2
namespace L3
open PySem PySem.Spec PyProof.Rows L2
noncomputable def sqD (G : Gp) : D → Option (List D)
 | .tup ds => some ds
 | .ref a => seqOf (G a)
 | _ => none
theorem sq_of {K : PySem.W.Frag} {G : Gp} {H0 : Hp} {x : D} {v : V} {ds : List D} (r : RelD K H0 x v) (c0 : Con K G H0) (h : sqD G x = some ds) : ∃ c a, v = .ref a ∧ (∃ xs, Sq c K H0 a xs) ∧ ∀ G' H', Le H0 H' → Con K G' H' → sqD G' x = some ds → ∃ xs, Sq c K H' a xs ∧ RelDs K H' ds xs := by
 cases x with
 | tup es =>
  cases h
  obtain ⟨a, xs, rfl, s1, q1⟩ := r.tup_inv
  exact ⟨true, a, rfl, ⟨xs, s1⟩, fun G' H' l c _ => ⟨xs, l.sqT s1, RelDs.le l q1⟩⟩
 | ref a =>
  cases r.ref_inv
  obtain ⟨xs, s1, q1⟩ := sql_of c0 h
  refine ⟨false, a, rfl, ⟨xs, s1⟩, fun G' H' l c h' => sql_of c h'⟩
 | _ => cases h
theorem itrel_zt {K : PySem.W.Frag} {H0 : Hp} {c d : Bool} {a b : Addr} {ds es : List D} {x y : D} (hx : ∀ G' H', Le H0 H' → Con K G' H' → sqD G' x = some ds → ∃ xs, Sq c K H' a xs ∧ RelDs K H' ds xs) (hy : ∀ G' H', Le H0 H' → Con K G' H' → sqD G' y = some es → ∃ xs, Sq d K H' b xs ∧ RelDs K H' es xs) :
  ItRel K H0 ⟨zpD ds es, fun G => sqD G x = some ds ∧ sqD G y = some es⟩ (ItZ K c d a b) where
 go := fun i G H l c ok hi => by
  obtain ⟨xs, s, r⟩ := hx G H l c ok.1
  obtain ⟨ys, s2, r2⟩ := hy G H l c ok.2
  rw [zpD_len] at hi
  exact ⟨xs, ys, xs[i]'(by rw [← r.length]; omega), ys[i]'(by rw [← r2.length]; omega), s, s2, List.getElem?_eq_getElem _, List.getElem?_eq_getElem _⟩
 stop := fun i G H l c ok hi => by
  obtain ⟨xs, s, r⟩ := hx G H l c ok.1
  obtain ⟨ys, s2, r2⟩ := hy G H l c ok.2
  rw [zpD_len] at hi
  exact ⟨xs, ys, s, s2, by rw [← r.length, ← r2.length]; omega⟩
 yld := fun i G H v H' l c ok hi y => by
  obtain ⟨p, v1, v2, rfl, hp, rfl, y1, y2⟩ := y
  obtain ⟨xs, s, r⟩ := hx G H l c ok.1
  obtain ⟨ys, s2, r2⟩ := hy G H l c ok.2
  obtain ⟨d, hd, rd⟩ := r.at_ (y1 xs s)
  obtain ⟨e, he, re⟩ := r2.at_ (y2 ys s2)
  refine ⟨c.side hp, Le.fresh hp, .tup [d, e], zpD_get hd he, ?_⟩
  rw [RelD]
  exact ⟨p, _, rfl, SqT.of upd_same, .cons (RelD.le (Le.fresh hp) rd) (.cons (RelD.le (Le.fresh hp) re) .nil)⟩
def wZt (t : TA3) : TI3 := fun σ G r => t σ G fun ds G1 => match ds with
 | [x, y] => (match sqD G1 x, sqD G1 y with | some ds, some es => r ⟨zpD ds es, fun G => sqD G x = some ds ∧ sqD G y = some es⟩ G1 | _, _ => False)
 | _ => False
theorem low_wZt {K : PySem.W.Frag} {t : TA3} {σ : L2.St} {H : Hp} {R : It → Hp → Prop} (h : lowI K (wZt t) σ H R) : iZt K (lowA K t) σ H R := by
 obtain ⟨σd, G, q, rs, c, t, f⟩ := h
 refine ⟨σd, G, _, rs, c, t, fun ds G1 vs H1 r1 c1 l1 t1 => ?_⟩
 split at t1
 ·rename_i x y
  split at t1
  ·rename_i ds es e e2
   obtain ⟨v, vs', rfl, rv, r2⟩ := r1.inv_cons
   obtain ⟨v2, rfl, rv2⟩ := r2.one
   obtain ⟨k1, a, rfl, s1, q1⟩ := sq_of rv c1 e
   obtain ⟨k2, b, rfl, s2, q2⟩ := sq_of rv2 c1 e2
   exact ⟨k1, k2, a, b, rfl, s1, s2, f _ _ _ _ (itrel_zt q1 q2) c1 l1 t1⟩
  ·exact t1.elim
 ·exact t1.elim
theorem i_zipS {X : Cx} {elts : List Expr} {x1} {tpos : Pos} {a b : Expr} {ts : TA3} {p pos : Pos} (hg : Gl X "zip") (hm : X.mg "zip" = none) (ha : A3 X [a, b] ts) (hs : starEach [a, b] X.env = (false, eval a X.env) :: starEach [b] X.env := by rfl) (hs2 : (backTo pos (starEach [b] X.env)).any (·.1) = false := by rfl) :
  I3 X (.Tuple elts x1 tpos) (.Call (.Name "zip" p) [a, b] [] pos) (wZt ts) := weakI (pi_zt hg hm ha hs hs2) fun _ _ _ => low_wZt
end L3
namespace L3
open PySem PySem.Spec PyProof.Rows L2 Rw
end L3
namespace L3
open PySem PySem.Spec PyProof.Rows L2 Rw
theorem isA_all : (∀ ds G q, xIsinstA [.tup ds, .ty "tuple"] G q = q (.bl true) G) ∧ (∀ i G q, xIsinstA [.int i, .ty "tuple"] G q = q (.bl false) G) ∧ (∀ i G q, xIsinstA [.int i, .ty "bool"] G q = q (.bl false) G) ∧ (∀ i G q, xIsinstA [.int i, .ty "str"] G q = q (.bl false) G) ∧
  (∀ i G q, xIsinstA [.str i, .ty "tuple"] G q = q (.bl false) G) ∧ (∀ i G q, xIsinstA [.str i, .ty "bool"] G q = q (.bl false) G) ∧ (∀ i G q, xIsinstA [.str i, .ty "str"] G q = q (.bl true) G) := by
 refine ⟨?_, ?_, ?_, ?_, ?_, ?_, ?_⟩ <;> intros <;> simp [xIsinstA, kindA, kindD] <;> rfl
end L3
namespace L3
open PySem PySem.Spec PyProof.Rows L2 Rw
end L3
namespace L3
open PySem PySem.Spec PyProof.Rows L2 Rw
end L3
namespace L3
open PySem PySem.Spec PyProof.Rows L2 Rw
end L3
namespace L3
end L3
namespace L3
open PySem PySem.Spec PyProof.Rows L2 Rw
end L3
namespace L2
open PySem PySem.Spec PyProof.Rows
section
variable {prog : Program} {w : World} {A : Around} {E : Value → Shared → Prop} {s : Shared}
end
structure DzSt (c d : Bool) (l1 l2 z TI TO i1 i2 S : Addr) (xs ys : Array Value) (i : Nat) (h : Heap) : Prop where
 zz : IsZip h z TI TO .none ∨ ∃ T f oT, IsZipO h z TI TO T f ∧ h.get? T = some oT ∧ T ≠ z ∧ T ≠ TO ∧ T ≠ i1 ∧ T ≠ i2 ∧ T ≠ S
 ti : IsPair h TI (.ref i1) (.ref i2)
 to : ∃ u v, IsPair h TO u v
 h1 : SIt c h i1 l1 i
 h2 : SIt d h i2 l2 i
 m1 : SOf c h l1 xs
 m2 : SOf d h l2 ys
end L2
namespace L2
open PySem PySem.Spec PyProof.Rows
section
variable {prog : Program} {w : World} {A : Around} {E : Value → Shared → Prop} {s : Shared}
end
end L2
namespace L2
open PySem PySem.Spec PyProof.Rows
end L2
namespace L3
open PySem PySem.Spec PyProof.Rows L2
section
variable {X : Cx} {K : PySem.W.Frag} {G : Gp} {H : Hp} {p : Addr}
end
end L3
namespace L3
open PySem PySem.Spec PyProof.Rows L2 Rw
noncomputable def ixB : List Str → Str → Nat
 | [], _ => 0
 | b :: bs, x => if b = x then 0 else 1 + ixB bs x
noncomputable def ptB (bs : List Str) (vs : List Nat) (x : Str) (v : Nat) : List Nat := vs.set (ixB bs x) v
theorem ptB_len {bs : List Str} {vs : List Nat} {x : Str} {v : Nat} : (ptB bs vs x v).length = vs.length := by simp [ptB]
def StW (W : Nat) (bs : List Str) (vs : List Nat) : Prop := vs.length = bs.length ∧ ∀ v ∈ vs, v < 2 ^ W
theorem StW.put {W : Nat} {bs : List Str} {vs : List Nat} (h : StW W bs vs) {x : Str} {v : Nat} (hv : v < 2 ^ W) : StW W bs (ptB bs vs x v) := by
 refine ⟨by rw [ptB_len]; exact h.1, fun u hu => ?_⟩
 rcases List.mem_or_eq_of_mem_set hu with z | z
 ·exact h.2 u z
 ·rw [z]; exact hv
end L3
namespace L3
open PySem PySem.Spec PyProof.Rows L2 Rw
end L3
namespace L3
open PySem PySem.Spec PyProof.Rows L2 Rw
end L3
namespace L3
open PySem PySem.Spec PyProof.Rows L2 Rw
end L3
namespace L2
open PySem PySem.Spec PyProof.Rows PySem.SeqAt
open AutoSeq1 (wpAny_loadPart')
open PySem.MeetsSeq PySem.MeetsSeq2 PySem.MeetsSeq3
section
variable {X : Cx}
end
end L2
namespace L3
open PySem PySem.Spec PyProof.Rows L2
section
variable {X : Cx}
end
end L3
namespace L3
open PySem PySem.Spec PyProof.Rows L2 Rw
noncomputable def bt (x k : Nat) : Nat := x / 2 ^ k % 2
end L3
namespace L3
open PySem PySem.Spec PyProof.Rows L2 Rw
end L3
namespace L3
open PySem PySem.Spec PyProof.Rows L2 Rw
end L3
namespace L3
open PySem PySem.Spec PyProof.Rows L2 Rw
end L3
namespace L3
open PySem PySem.Spec PyProof.Rows L2 Rw
end L3
namespace L3
open PySem PySem.Spec PyProof.Rows L2 Rw
end L3
namespace L3
open PySem PySem.Spec PyProof.Rows L2 Rw
end L3
namespace L3
open PySem L2
set_option maxHeartbeats 4000000
noncomputable abbrev Gm := Option (Bool × Int)
noncomputable def toG : Pm → Gm
 | none => none
 | some p => some (p.1, (p.2 : Int))
noncomputable def lgg (n s m : Nat) (p : Bool × Int) : Bool := decide (1 ≤ p.2 ∧ p.2 ≤ n) && stn (p.2.toNat - 1) m && (if p.1 then !stn p.2.toNat m && decide (cnt n m < s) else stn p.2.toNat m)
noncomputable def nxg (m : Nat) : Gm → Nat
 | none => m
 | some p => xr m p.2.toNat
noncomputable def okg (n s m : Nat) (sh : Bool) : Gm → Bool
 | none => stn n m && !sh
 | some p => lgg n s m p
noncomputable def out (n s : Nat) : Nat → Bool → Nat → List Gm → Sum Nat (Nat × Bool)
 | m, sh, _, [] => .inr (m, sh)
 | m, sh, i, p :: r => if okg n s m sh p = true then out n s (nxg m p) (sh || p.isNone) (i + 1) r else .inl i
noncomputable def told (n s : Nat) (w : List Gm) : Sum Nat Bool :=
 match out n s 0 false 0 w with
 | .inl i => .inl i
 | .inr (m, sh) => if sh = true then (if m = 0 then .inr false else .inl w.length) else if m = 2 ^ (n - 1) then .inr true else .inl w.length
theorem lgg_of {n s m : Nat} {p : Mv} (h : lgl n s m p) : lgg n s m (p.1, (p.2 : Int)) = true := by
 obtain ⟨⟨h1, h2⟩, h3, h4, h5⟩ := h
 have e1 : stn (p.2 - 1) m = true := by
  unfold stn
  rcases h3 with z | z
  ·have : p.2 - 1 = 0 := by omega
   rw [this]; rfl
  ·have : p.2 - 1 - 1 = p.2 - 2 := by omega
   rw [this, z]; simp
 have e2 : stn p.2 m = stb p.2 m := by
  unfold stn stb
  have : (p.2 == 0) = false := by rw [beq_eq_false_iff_ne]; omega
  rw [this]; simp
 unfold lgg
 dsimp only
 rw [Int.toNat_natCast, e1, e2, decide_eq_true (by omega)]
 cases hp : p.1 with
 | true =>
  rw [hp] at h4
  have : stb p.2 m = false := by simpa using h4.symm
  rw [this, decide_eq_true (h5 hp)]; rfl
 | false =>
  rw [hp] at h4
  have : stb p.2 m = true := by simpa using h4.symm
  rw [this]; rfl
theorem stn_pos {k m : Nat} (h : 1 ≤ k) : stn k m = m.testBit (k - 1) := by
 unfold stn
 have : (k == 0) = false := by rw [beq_eq_false_iff_ne]; omega
 rw [this]; simp
theorem okg_ckp {n s : Nat} (hn : 1 ≤ n) : ∀ {w : List Pm} {m i : Nat} {sh : Bool}, ckp n s m sh w → out n s m sh i (w.map toG) = .inr (finp m w, shw sh w)
 | [], _, _, _, _ => rfl
 | none :: r, m, i, sh, ⟨⟨h1, h2⟩, h3⟩ => by
  show (if okg n s m sh none = true then _ else _) = _
  rw [if_pos (by show (stn n m && !sh) = true; rw [stn_pos hn, h1, h2]; rfl)]
  show out n s m (sh || true) (i + 1) (r.map toG) = _
  rw [Bool.or_true]
  exact okg_ckp hn h3
 | some p :: r, m, i, sh, ⟨h1, h3⟩ => by
  show (if okg n s m sh (some (p.1, (p.2 : Int))) = true then _ else _) = _
  rw [if_pos (show okg n s m sh (some (p.1, (p.2 : Int))) = true from lgg_of h1)]
  show out n s (xr m (p.2 : Int).toNat) (sh || false) (i + 1) (r.map toG) = _
  rw [Bool.or_false, Int.toNat_natCast]
  exact okg_ckp hn h3
theorem told_ckp {n s : Nat} (hn : 1 ≤ n) {w : List Pm} (h : ckp n s 0 false w) : told n s (w.map toG) = if shw false w = true then (if finp 0 w = 0 then .inr false else .inl w.length) else if finp 0 w = 2 ^ (n - 1) then .inr true else .inl w.length := by
 unfold told
 rw [okg_ckp hn h]
 dsimp only
 rw [List.length_map]
theorem ckp_mono {n s s' : Nat} (h : s ≤ s') : ∀ {w : List Pm} {m : Nat} {sh : Bool}, ckp n s m sh w → ckp n s' m sh w
 | [], _, _, _ => trivial
 | none :: r, m, sh, ⟨h1, h2⟩ => ⟨h1, ckp_mono h h2⟩
 | some p :: r, m, sh, ⟨⟨h1, h2, h3, h4⟩, h5⟩ => ⟨⟨h1, h2, h3, fun z => Nat.lt_of_lt_of_le (h4 z) h⟩, ckp_mono h h5⟩
theorem ckp_moves {n s : Nat} : ∀ {w : List Pm} {m : Nat} {sh sh' : Bool}, ckp n s m sh w → ckp n s m sh' (w.filter (·.isSome)) ∧ finp m (w.filter (·.isSome)) = finp m w ∧ shw sh' (w.filter (·.isSome)) = sh'
 | [], _, _, _, _ => ⟨trivial, rfl, rfl⟩
 | none :: r, m, sh, sh', ⟨_, h2⟩ => by
  rw [List.filter_cons_of_neg (by decide)]
  exact ckp_moves (w := r) h2
 | some p :: r, m, sh, sh', ⟨h1, h2⟩ => by
  rw [List.filter_cons_of_pos (by rfl)]
  obtain ⟨a, b, c⟩ := ckp_moves (w := r) (sh' := sh') h2
  exact ⟨⟨h1, a⟩, b, c⟩
theorem lay_one {n s : Nat} (hn : 1 ≤ n) (hs : 1 ≤ s) : lgl n s 0 (true, 1) := ⟨⟨Nat.le_refl _, hn⟩, .inl rfl, by show true = !stb 1 0; rfl, fun _ => by rw [cnt_zero]; omega⟩
theorem clear_one {n s : Nat} (hn : 1 ≤ n) : lgl n s 1 (false, 1) := ⟨⟨Nat.le_refl _, hn⟩, .inl rfl, by show false = !stb 1 1; rfl, fun z => nomatch z⟩
theorem ckp_pair {n s : Nat} (hn : 1 ≤ n) (hs : 1 ≤ s) {sh : Bool} : ckp n s 0 sh [some (true, 1), some (false, 1)] ∧ finp 0 [some (true, 1), some (false, 1)] = 0 := ⟨⟨lay_one hn hs, clear_one hn, trivial⟩, rfl⟩
theorem ckp_pairs {n s : Nat} (hn : 1 ≤ n) (hs : 1 ≤ s) {sh : Bool} : ∀ k, ckp n s 0 sh (List.replicate k [some (true, 1), some (false, 1)]).flatten ∧ finp 0 (List.replicate k [some (true, 1), some (false, 1)]).flatten = 0 ∧ shw sh (List.replicate k [some (true, 1), some (false, 1)]).flatten = sh
 | 0 => ⟨trivial, rfl, rfl⟩
 | k + 1 => by
  obtain ⟨a, b, c⟩ := ckp_pairs (sh := sh) hn hs k
  rw [List.replicate_succ, List.flatten_cons, ckp_app, finp_app, shw_app]
  have e := (ckp_pair (n := n) (s := s) (sh := sh) hn hs)
  rw [e.2]
  exact ⟨⟨e.1, a⟩, b, c⟩
structure CKD (n s : Nat) (lf : Bool) (w : List Pm) : Prop where
 ck : ckp n s 0 false w
 sh : shw false w = !lf
 fi : finp 0 w = if lf then 2 ^ (n - 1) else 0
 la : lf = false → ∃ l p, w = l ++ [some p]
section
variable {n s : Nat} {lf : Bool} {w : List Pm}
theorem CKD.more {s' : Nat} (h : CKD n s lf w) (hs : s ≤ s') : CKD n s' lf w := ⟨ckp_mono hs h.ck, h.sh, h.fi, h.la⟩
theorem CKD.ahead (h : CKD n s lf w) (hn : 1 ≤ n) (hs : 1 ≤ s) (k : Nat) : CKD n s lf ((List.replicate k [some (true, 1), some (false, 1)]).flatten ++ w) := by
 obtain ⟨a, b, c⟩ := ckp_pairs (sh := false) hn hs k
 refine ⟨ckp_app.mpr ⟨a, by rw [b, c]; exact h.ck⟩, by rw [shw_app, c]; exact h.sh, by rw [finp_app, b]; exact h.fi, fun e => ?_⟩
 obtain ⟨l, p, rfl⟩ := h.la e
 exact ⟨(List.replicate k [some (true, 1), some (false, 1)]).flatten ++ l, p, by rw [List.append_assoc]⟩
theorem CKD.again (h : CKD n s false w) (hn : 1 ≤ n) : told n s ((w ++ w.filter (·.isSome)).map toG) = .inr false := by
 have f : finp 0 w = 0 := h.fi
 have sh : shw false w = true := h.sh
 obtain ⟨a, b, c⟩ := ckp_moves (sh' := true) h.ck
 have d : ckp n s 0 false (w ++ w.filter (·.isSome)) := ckp_app.mpr ⟨h.ck, by rw [f, sh]; exact a⟩
 rw [told_ckp hn d, shw_app, finp_app, f, sh, b, c, f]; rfl
theorem CKD.shown (h : CKD n s true w) (hn : 1 ≤ n) : told n s ((w ++ [none]).map toG) = .inl (w.length + 1) := by
 have f : finp 0 w = 2 ^ (n - 1) := h.fi
 have sh : shw false w = false := h.sh
 have c : ckp n s 0 false (w ++ [none]) := ckp_app.mpr ⟨h.ck, by rw [f]; exact ⟨⟨Nat.testBit_two_pow_self, sh⟩, trivial⟩⟩
 have f0 : finp (finp 0 w) [none] ≠ 0 := by
  show finp 0 w ≠ 0
  rw [f]; exact Nat.ne_of_gt (Nat.two_pow_pos _)
 rw [told_ckp hn c, shw_app, finp_app, if_pos (show shw (shw false w) [none] = true from rfl), if_neg f0, List.length_append]; rfl
end
end L3
namespace L3
open PySem L2
end L3
namespace L2
open PySem PySem.Spec PyProof.Rows
set_option maxHeartbeats 4000000
noncomputable abbrev VM : List Value := [.type "ValueError", .type "Exception", .type "BaseException", .type "object"]
noncomputable abbrev xcObj (nm q : Str) (C N : Addr) (bs bm : List Value) (sn : List Str) (sub : List Value) (ab : Bool) (col : Option Bool) (dd : Option Addr) (k0 k1 k2 k3 k5 : Option Value) : Obj := excClassObj nm q C N bs bm true sn sub ab col dd k0 k1 k2 k3 k5 "ValueError.__new__"
noncomputable def xcIn (K : PySem.W.Frag) (C : Addr) (bm : List Value) : Bool :=
  match K.lookup C with
  | some ⟨.type "type", _, .cls cd, sl⟩ =>
    (match cd.mro, sl.toList with
     | .ref B :: r, [_, _, _, _, some (.builtin i), _] => B == C && r == bm && i == "ValueError.__new__" && cd.hasDict && !cd.hasDel && PySem.W.tailIn K VM bm
     | _, _ => false)
  | _ => false
def XcAt (C : Addr) (bm : List Value) (h : Heap) : Prop := ∃ nm q N bs sn sub ab col dd k0 k1 k2 k3 k5, h.get? C = some (xcObj nm q C N bs bm sn sub ab col dd k0 k1 k2 k3 k5)
theorem XcAt.keeps {C : Addr} {bm : List Value} {h h' : Heap} (x : XcAt C bm h) (k : ∀ b o, h.get? b = some o → h'.get? b = some o) : XcAt C bm h' := by
 obtain ⟨nm, q, N, bs, sn, sub, ab, col, dd, k0, k1, k2, k3, k5, e⟩ := x
 exact ⟨nm, q, N, bs, sn, sub, ab, col, dd, k0, k1, k2, k3, k5, k _ _ e⟩
section
variable {prog : Program} {w : World} {A : Around} {E : Value → Shared → Prop} {K : PySem.W.Frag} {C fI : Addr} {bm : List Value}
end
end L2
namespace L2
open PySem PySem.Spec PyProof.Rows
set_option maxHeartbeats 4000000
structure FlyO (lim : Nat) (H : Hp) (a C : Addr) (dx : Option Addr) (h : Heap) (oe : Obj) (vs : Array Value) : Prop where
 la : lim ≤ a
 ha : H a = none
 ge : h.get? a = some oe
 cl : oe.cls = .ref C
 di : oe.dict = dx
 da : oe.data = .fields vs
structure FlyT (lim : Nat) (H : Hp) (a T : Addr) (h : Heap) (v : Value) (oT : Obj) (ts : Array Value) : Prop where
 lt : lim ≤ T
 ne : T ≠ a
 hT : H T = none
 gT : h.get? T = some oT
 dT : oT.data = .fields ts
 t3 : ts[3]? = some v
def Fly (fl : Value → Prop) (lim : Nat) (H : Hp) (a C : Addr) (dx : Option Addr) (h : Heap) : Prop :=
 ∃ oe vs T oT ts v, FlyO lim H a C dx h oe vs ∧ vs[1]? = some (.ref T) ∧ FlyT lim H a T h v oT ts ∧ fl v
def FlyN (lim : Nat) (H : Hp) (a C : Addr) (dx : Option Addr) (h : Heap) : Prop := ∃ oe vs, FlyO lim H a C dx h oe vs ∧ vs[1]? = some .none
theorem Fly.imp {f g : Value → Prop} {lim : Nat} {H : Hp} {a C : Addr} {dx : Option Addr} {h : Heap} (x : Fly f lim H a C dx h) (k : ∀ v, f v → g v) : Fly g lim H a C dx h := by
 obtain ⟨oe, vs, T, oT, ts, v, o, e, t, z⟩ := x
 exact ⟨oe, vs, T, oT, ts, v, o, e, t, k v z⟩
theorem FlyO.low {lim lim' : Nat} {H : Hp} {a C : Addr} {dx : Option Addr} {h : Heap} {oe : Obj} {vs : Array Value} (x : FlyO lim H a C dx h oe vs) (l : lim' ≤ lim) : FlyO lim' H a C dx h oe vs := ⟨Nat.le_trans l x.la, x.ha, x.ge, x.cl, x.di, x.da⟩
theorem Fly.low {f : Value → Prop} {lim lim' : Nat} {H : Hp} {a C : Addr} {dx : Option Addr} {h : Heap} (x : Fly f lim H a C dx h) (l : lim' ≤ lim) : Fly f lim' H a C dx h := by
 obtain ⟨oe, vs, T, oT, ts, v, o, e, t, z⟩ := x
 exact ⟨oe, vs, T, oT, ts, v, o.low l, e, ⟨Nat.le_trans l t.lt, t.ne, t.hT, t.gT, t.dT, t.t3⟩, z⟩
section
variable {M : Model} {A : Around} {E : Value → Shared → Prop} {s : Shared}
theorem note_entry {base : Heap} {env : Env} {outer : List Env} {L a : Addr} {oe : Obj} {vs : Array Value} {head : Value} {had : Bool} {Q : Unit → Shared → Prop}
  (hfr : A.frames = some (env :: outer)) (hl : s.heap.FunFrames base (env :: outer)) (hf : env.frame = some L) (ha : s.heap.get? a = some oe) (hd : oe.data = .fields vs) (hz : 1 < vs.size)
  (k : ∀ (h' : Heap) (oT : Obj) (ts : Array Value), (∀ b o, b ≠ a → b ∉ frs (env :: outer) → s.heap.get? b = some o → h'.get? b = some o) → (∀ b o, b ≠ a → s.heap.get? b = some o → ∃ sl, h'.get? b = some { o with slots := sl }) →
   h'.get? a = some (oe.mapFields (·.setIfInBounds 1 (.ref s.heap.objs.size))) → h'.get? s.heap.objs.size = some oT → oT.data = .fields ts → ts[3]? = some (rawInt L) → Q () { s with heap := h' }) :
  wpAny M A (do let x ← frameOf env; let pl ← entryPlaceOf L had; let b ← EntryCells.newEntry head x .none (rawInt L) .none pl; setField (.ref a) 1 b) Q E s := by
 have na : a ∉ frs (env :: outer) := fun hm => by
  obtain ⟨_, o, ho, nf⟩ := hl.mem hm
  rw [ha] at ho
  cases ho
  exact nf vs hd
 refine wpAny_bind (wpAny_frameOf_fun hfr hl hf fun h1 hs => wpAny_bind (wpAny_entryPlaceOf fun pl hp => ?_))
 have ha1 : h1.get? a = some oe := by rw [hs.2.1 a na]; exact ha
 have z1 : h1.objs.size = s.heap.objs.size := hs.1
 unfold EntryCells.newEntry newFields
 refine wpAny_bind (wpAny_newObj_type (wpAny_setField (Heap.get?_push_of_some _ ha1) hd hz ?_) (hp.sizeOk5 _ _ _ _ _))
 rw [← z1] at k
 have nT : h1.objs.size ≠ a := Nat.ne_of_gt (Heap.lt_size ha1)
 have up : ∀ b o, b ≠ a → h1.get? b = some o → ((h1.push { cls := .type "traceback", dict := none, data := .fields ([head, .ref L, .none, rawInt L, .none] ++ (if pl.isEmpty then List.replicate 6 Value.none else pl)).toArray }).update a (Obj.mapFields (·.setIfInBounds 1 (Value.ref h1.objs.size)))).get? b = some o :=
  fun b o n e => (Heap.get?_update_other _ _ (Ne.symm n)).trans (Heap.get?_push_of_some _ e)
 refine k _ { cls := .type "traceback", dict := none, data := .fields ([head, .ref L, .none, rawInt L, .none] ++ (if pl.isEmpty then List.replicate 6 Value.none else pl)).toArray } _ (fun b o n nb e => up b o n ?_) (fun b o n e => ?_) ?_ ?_ rfl ?_
 ·rw [hs.2.1 b nb]; exact e
 ·obtain ⟨sl, q⟩ := hs.2.2 b o e
  exact ⟨sl, up b _ n q⟩
 ·exact Heap.get?_update_self _ (Heap.get?_push_of_some _ ha1) (Obj.isFreed_of_fields (Obj.data_mapFields hd _))
 ·rw [Heap.get?_update_other _ _ (Ne.symm nT)]
  exact Heap.get?_push_size h1 rfl
 ·simp
end
section
variable {X : Cx} {pins : List (Addr × Obj)} {σ : St} {H : Hp} {s : Shared} {a C T : Addr} {dx : Option Addr} {lim : Nat}
theorem Inv.rec_ne (I : Inv X pins σ H s) {o : Obj} {vs : Array Value} (h : s.heap.get? a = some o) (hd : o.data = .fields vs) : a ≠ X.env.locals ∧ (∀ x c, X.env.cells.lookup x = some c → c ≠ a) ∧ a ∉ X.fs := by
 refine ⟨fun e => ?_, fun x c e z => ?_, fun hb => ?_⟩
 ·obtain ⟨m, ⟨o', es, ep, ho, hd', _⟩, _⟩ := I.loc
  rw [← e, h] at ho; cases ho; rw [hd] at hd'; cases hd'
 ·obtain ⟨v, o', ho, hd'⟩ := I.cell x c e
  rw [z, h] at ho; cases ho; rw [hd] at hd'; cases hd'
 ·obtain ⟨_, o', ho, hd'⟩ := I.funs.mem hb
  rw [h] at ho; cases ho; exact hd' vs hd
theorem Inv.noted {h' : Heap} {ch : List Addr} (I : Inv X pins σ H s) (hs : X.stack = X.env :: X.outer) (hf : X.env.frame = some X.env.locals) (hc : ∀ b ∈ ch, X.s₀.heap.objs.size ≤ b ∧ H b = none ∧ (∀ p ∈ X.pn ++ pins, p.1 ≠ b) ∧ (∀ o, s.heap.get? b = some o → ∃ vs, o.data = .fields vs) ∧ ∃ o, s.heap.get? b = some o)
  (k : ∀ b o, b ∉ ch → b ∉ frs (X.env :: X.outer) → s.heap.get? b = some o → h'.get? b = some o) (sl : ∀ b o, b ∉ ch → s.heap.get? b = some o → ∃ sl, h'.get? b = some { o with slots := sl }) : Inv X pins σ H { s with heap := h' } := by
 have fr : ∀ b, b ∈ frs (X.env :: X.outer) ↔ b = X.env.locals ∨ b ∈ X.fs := fun b => by
  unfold Cx.fs frs
  rw [List.filterMap_cons, hf]
  exact List.mem_cons
 have hcc : ∀ b ∈ ch, b ≠ X.env.locals ∧ (∀ x c, X.env.cells.lookup x = some c → c ≠ b) ∧ b ∉ X.fs := fun b hb => by
  obtain ⟨_, _, _, f, o, e⟩ := hc b hb
  obtain ⟨vs, d⟩ := f o e
  exact I.rec_ne e d
 have lc : X.env.locals ∉ ch := fun z => (hcc _ z).1 rfl
 refine I.step (g' := s.gens) (t' := s.toks) (d' := s.drawn) (ch := ch) (fun b hb => ⟨.inr (hc b hb).1, (hcc b hb).1, (hcc b hb).2.1, (hc b hb).2.2.1⟩) (fun b o n1 n2 n3 e n => k b o n3 (fun z => ((fr b).mp z).elim n1 n2) e)
  (fun b o n1 n2 n3 e n => sl b o n3 e) (fun _ _ _ _ n => n) (fun b o n e => let ⟨_, q⟩ := sl b o n e; ⟨_, q⟩) (fun _ _ e => e) (fun _ _ _ e => e) (fun b ps e => ⟨#[], by rw [e]; simp⟩) (fun m hm => ?_) (fun b u e => ?_) I.bare
 ·obtain ⟨o, es, ep, ho, r⟩ := hm
  obtain ⟨sl', q⟩ := sl _ o lc ho
  exact ⟨_, es, ep, q, r⟩
 ·have nb : ∀ c u, H c = some u → c ∉ ch ∧ c ∉ frs (X.env :: X.outer) := fun c u q => by
   refine ⟨fun z => ?_, fun z => ?_⟩
   ·rw [(hc c z).2.1] at q; cases q
   ·rw [I.stkFree c (by rw [hs]; exact z)] at q; cases q
  refine (I.hok b u e).stay (fun c v hc' q => ?_) (fun _ q => q) fun _ _ q => q
  rcases hc' with z | z
  ·subst z; exact k c v (nb c u e).1 (nb c u e).2 q
  ·exact k c v (nb c _ z).1 (nb c _ z).2 q
theorem FlyO.moved {oe oe' : Obj} {vs vs' : Array Value} {h h' : Heap} (x : FlyO lim H a C dx h oe vs) (e : h'.get? a = some oe') (c : oe'.cls = oe.cls) (d : oe'.dict = oe.dict) (v : oe'.data = .fields vs') : FlyO lim H a C dx h' oe' vs' :=
 ⟨x.la, x.ha, e, c.trans x.cl, d.trans x.di, v⟩
theorem dict_mapFields (f : Array Value → Array Value) (o : Obj) : (o.mapFields f).dict = o.dict := by
 unfold Obj.mapFields; split <;> rfl
theorem note_fly {M : Model} {E : Value → Shared → Prop} {Q : Unit → Shared → Prop} (I : Inv X pins σ H s) (hs : X.stack = X.env :: X.outer) (hf : X.env.frame = some X.env.locals) (hl : X.s₀.heap.objs.size ≤ lim) (hp : ∀ p ∈ X.pn ++ pins, p.1 < lim)
  (F : FlyN lim H a C dx s.heap ∨ Fly (fun v => v = .none ∨ v = rawInt X.env.locals) lim H a C dx s.heap)
  (k : ∀ h', Inv X pins σ H { s with heap := h' } → Fly (fun v => v = rawInt X.env.locals) lim H a C dx h' → Q () { s with heap := h' }) : wpAny M X.A (noteFrame (.ref a) X.env) Q E s := by
 have hfr : X.A.frames = some (X.env :: X.outer) := by rw [← hs]; exact I.ok.frames
 have hFF : s.heap.FunFrames X.base (X.env :: X.outer) := by rw [← hs]; exact I.stack
 have pn : ∀ b, lim ≤ b → ∀ p ∈ X.pn ++ pins, p.1 ≠ b := fun b l p h e => absurd (hp p h) (by rw [e]; exact Nat.not_lt.mpr l)
 unfold noteFrame
 simp only [hf]
 rcases F with ⟨oe, vs, o, v1⟩ | ⟨oe, vs, T, oT, ts, v, o, v1, t, fl⟩
 ·refine wpAny_bind (wpAny_field o.ge o.da v1 ?_)
  rw [if_neg (by decide)]
  refine note_entry hfr hFF hf o.ge o.da (Array.getElem?_eq_some_iff.mp v1).1 fun h' oT ts k1 k2 e1 e2 e3 e4 => k h' ?_ ?_
  ·refine I.noted hs hf (ch := [a]) (fun b hb => ?_) (fun b o' n1 n2 e => k1 b o' (by simpa using n1) n2 e) fun b o' n1 e => k2 b o' (by simpa using n1) e
   have hb : b = a := by simpa using hb
   subst hb
   exact ⟨Nat.le_trans hl o.la, o.ha, pn b o.la, fun o' e => by rw [o.ge] at e; cases e; exact ⟨_, o.da⟩, _, o.ge⟩
  ·refine ⟨_, _, s.heap.objs.size, oT, ts, _, o.moved e1 (Obj.cls_mapFields _ _) (dict_mapFields _ _) (Obj.data_mapFields o.da _), by simp [(Array.getElem?_eq_some_iff.mp v1).1], ⟨Nat.le_trans o.la (Nat.le_of_lt (Heap.lt_size o.ge)), Nat.ne_of_gt (Heap.lt_size o.ge), I.hok.fresh (Nat.le_refl _), e2, e3, e4⟩, rfl⟩
 ·refine wpAny_bind (wpAny_field o.ge o.da v1 ?_)
  rw [if_pos (show (Value.ref T != Value.none) = true from by simp)]
  refine wpAny_bind (wpAny_field t.gT t.dT t.t3 ?_)
  rcases fl with rfl | rfl
  ·rw [if_neg (show ¬ ((Value.none == rawInt X.env.locals) = true) from by simp [rawInt])]
   refine wpAny_bind (wpAny_setField t.gT t.dT (Array.getElem?_eq_some_iff.mp t.t3).1 ?_)
   have oth : ∀ b, b ≠ T → (s.heap.update T (Obj.mapFields (·.setIfInBounds 3 Value.none))).get? b = s.heap.get? b := fun b hb => Heap.get?_update_other _ _ (Ne.symm hb)
   have z : (s.heap.update T (Obj.mapFields (·.setIfInBounds 3 Value.none))).objs.size = s.heap.objs.size := Heap.size_after_update ..
   have nr : ∀ b o', s.heap.get? b = some o' → (∀ vs, o'.data ≠ .fields vs) → b ≠ T := fun b o' e nf q => by rw [q, t.gT] at e; cases e; exact nf ts t.dT
   have hFF2 : (s.heap.update T (Obj.mapFields (·.setIfInBounds 3 Value.none))).FunFrames X.base (X.env :: X.outer) := hFF.of_keeps fun b o' e nf => ⟨o', (oth b (nr b o' e nf)).trans e, rfl⟩
   refine note_entry hfr hFF2 hf ((oth a (Ne.symm t.ne)).trans o.ge) o.da (Array.getElem?_eq_some_iff.mp v1).1 fun h' oT2 ts2 k1 k2 e1 e2 e3 e4 => k h' ?_ ?_
   ·refine I.noted hs hf (ch := [a, T]) (fun b hb => ?_) (fun b o' n1 n2 e => ?_) fun b o' n1 e => ?_
    ·have hb : b = a ∨ b = T := by simpa using hb
     rcases hb with rfl | rfl
     ·exact ⟨Nat.le_trans hl o.la, o.ha, pn b o.la, fun o' e => by rw [o.ge] at e; cases e; exact ⟨_, o.da⟩, _, o.ge⟩
     ·exact ⟨Nat.le_trans hl t.lt, t.hT, pn b t.lt, fun o' e => by rw [t.gT] at e; cases e; exact ⟨_, t.dT⟩, _, t.gT⟩
    ·have n1 : b ≠ a ∧ b ≠ T := by simpa using n1
     exact k1 b o' n1.1 n2 ((oth b n1.2).trans e)
    ·have n1 : b ≠ a ∧ b ≠ T := by simpa using n1
     exact k2 b o' n1.1 ((oth b n1.2).trans e)
   ·have la := Heap.lt_size o.ge
    rw [z] at e1 e2
    exact ⟨_, _, s.heap.objs.size, oT2, ts2, _, o.moved e1 (Obj.cls_mapFields _ _) (dict_mapFields _ _) (Obj.data_mapFields o.da _), by simp [(Array.getElem?_eq_some_iff.mp v1).1], ⟨Nat.le_trans o.la (Nat.le_of_lt la), Nat.ne_of_gt la, I.hok.fresh (Nat.le_refl _), e2, e3, e4⟩, rfl⟩
  ·rw [if_pos (show (rawInt X.env.locals == rawInt X.env.locals) = true from by simp)]
   exact wpAny_pure (k s.heap I ⟨oe, vs, T, oT, ts, _, o, v1, t, rfl⟩)
theorem flight_fly {M : Model} {A : Around} {E : Value → Shared → Prop} {Q : Unit → Shared → Prop} {fl : Value → Prop} {fr : Option Addr} (I : Inv X pins σ H s) (hs : X.stack = X.env :: X.outer) (hf : X.env.frame = some X.env.locals) (hl : X.s₀.heap.objs.size ≤ lim) (hp : ∀ p ∈ X.pn ++ pins, p.1 < lim)
  (F : Fly fl lim H a C dx s.heap) (k : ∀ h', Inv X pins σ H { s with heap := h' } → Fly (fun v => v = fr.elim .none fun f => rawInt f) lim H a C dx h' → Q () { s with heap := h' }) : wpAny M A (setFlight (.ref a) fr) Q E s := by
 obtain ⟨oe, vs, T, oT, ts, v, o, v1, t, _⟩ := F
 unfold setFlight
 refine wpAny_bind (wpAny_field o.ge o.da v1 ?_)
 rw [if_pos (show (Value.ref T != Value.none) = true from by simp)]
 have l3 := (Array.getElem?_eq_some_iff.mp t.t3).1
 refine wpAny_setField t.gT t.dT l3 (k _ ?_ ?_)
 ·refine I.noted hs hf (ch := [T]) (fun b hb => ?_) (fun b o' n1 n2 e => ?_) fun b o' n1 e => ⟨o'.slots, ?_⟩
  ·have hb : b = T := by simpa using hb
   subst hb
   exact ⟨Nat.le_trans hl t.lt, t.hT, fun p h e => absurd (hp p h) (by rw [e]; exact Nat.not_lt.mpr t.lt), fun o' e => by rw [t.gT] at e; cases e; exact ⟨_, t.dT⟩, _, t.gT⟩
  ·exact (Heap.get?_update_other _ _ (Ne.symm (by simpa using n1))).trans e
  ·exact (Heap.get?_update_other _ _ (Ne.symm (by simpa using n1))).trans e
 ·exact ⟨oe, vs, T, _, _, _, o.moved ((Heap.get?_update_other _ _ t.ne).trans o.ge) rfl rfl o.da, v1, ⟨t.lt, t.ne, t.hT, Heap.get?_update_self _ t.gT (Obj.isFreed_of_fields (Obj.data_mapFields t.dT _)), Obj.data_mapFields t.dT _, by simp [l3]⟩, rfl⟩
end
end L2
namespace L2
open PySem PySem.Spec PyProof.Rows PySem.W Builtin Builtin.ObjectAttr
set_option maxHeartbeats 4000000
section
variable {prog : Program} {w : World} {A : Around} {E : Value → Shared → Prop} {K : Frag} {C L x : Addr} {o : Obj} {vs : Array Value} {name : Str} {s : Shared}
end
end L2
namespace L2
open PySem PySem.Spec PyProof.Rows PySem.W Builtin Builtin.ObjectAttr
set_option maxHeartbeats 4000000
section
variable {prog : Program} {w : World} {A : Around} {E : Value → Shared → Prop} {K : Frag} {C L x : Addr} {o : Obj} {vs : Array Value} {name : Str} {h : Heap} {g : Array GenState} {d : Drawn} {t : Nat} {os : OsState}
end
end L2
namespace L2
open PySem PySem.Spec PyProof.Rows
set_option maxHeartbeats 4000000
def XN (a C : Addr) (dx : Option Addr) (h : Heap) : Prop := ∃ o vs t0, h.get? a = some o ∧ o.cls = .ref C ∧ o.dict = dx ∧ o.data = .fields vs ∧ vs[0]? = some (.ref t0) ∧ vs[1]? = some .none
theorem XN.stays {a C : Addr} {dx : Option Addr} : ∀ h1 h2 : Heap, XN a C dx h1 → (∀ o, h1.get? a = some o → h2.get? a = some o) → XN a C dx h2 := fun _ _ ⟨o, vs, t0, e, r⟩ k => ⟨o, vs, t0, k _ e, r⟩
theorem XH.stays {a C : Addr} {dx : Option Addr} : ∀ h1 h2 : Heap, XH a C dx h1 → (∀ o, h1.get? a = some o → h2.get? a = some o) → XH a C dx h2 := fun _ _ ⟨o, vs, e, r⟩ k => ⟨o, vs, k _ e, r⟩
noncomputable def del (H : Hp) (a : Addr) : Hp := fun b => if b = a then none else H b
theorem del_same {H : Hp} {a : Addr} : del H a a = none := by unfold del; rw [if_pos rfl]
theorem del_ne {H : Hp} {a b : Addr} (h : b ≠ a) : del H a b = H b := by unfold del; rw [if_neg h]
section
variable {X : Cx} {pins : List (Addr × Obj)} {σ : St} {H : Hp} {s : Shared}
theorem Inv.track {b : Addr} {o : HO} (I : Inv X pins σ H s) (hb : H b = none) (h1 : X.s₀.heap.objs.size ≤ b) (hp : ∀ p ∈ X.pn ++ pins, p.1 ≠ b) (hL : b ≠ X.env.locals) (hc : ∀ x c, X.env.cells.lookup x = some c → c ≠ b)
  (ok : ObjOk X.prog X.w (upd H b o) s.heap b o) : Inv X pins σ (upd H b o) s := by
 have ne : ∀ c u, H c = some u → c ≠ b := fun c u e z => by rw [z, hb] at e; cases e
 refine I.step (h' := s.heap) (g' := s.gens) (t' := s.toks) (d' := s.drawn) (ch := [b]) (fun c hc' => ?_) (fun _ _ _ _ _ e _ => e) (fun _ o _ _ _ e _ => ⟨o.slots, e⟩) (fun c o' n e z => ?_) (fun _ o' _ e => ⟨o', e⟩)
  (fun c xs e => by rw [upd_ne (ne c _ e)]; exact e) (fun c o' u e => by rw [upd_ne (ne c _ e)]; exact e) (fun c ps e => ⟨#[], by rw [upd_ne (ne c _ e), e]; simp⟩) (fun _ m => m) (fun c u e => ?_) I.bare
 ·have z : c = b := by simpa using hc'
  subst z
  exact ⟨.inr h1, hL, hc, hp⟩
 ·rw [upd_ne (by simpa using n)]; exact z
 ·by_cases z : c = b
  ·subst z; rw [upd_same] at e; cases e; exact ok
  ·rw [upd_ne z] at e
   exact (I.hok c u e).stay (fun _ _ _ q => q) (fun d q => by rw [upd_ne (ne d _ q)]; exact q) fun d xs q => by rw [upd_ne (ne d _ q)]; exact q
theorem Inv.untrack {b : Addr} {φ : Heap → Prop} (I : Inv X pins σ H s) (hb : H b = some (.ext φ)) : Inv X pins σ (del H b) s := by
 have ne : ∀ c u, H c = some u → (∀ ψ, u ≠ .ext ψ) → c ≠ b := fun c u e n z => by rw [z, hb] at e; cases e; exact n _ rfl
 refine I.step (h' := s.heap) (g' := s.gens) (t' := s.toks) (d' := s.drawn) (ch := []) (fun c hc' => nomatch hc') (fun _ _ _ _ _ e _ => e) (fun _ o _ _ _ e _ => ⟨o.slots, e⟩) (fun c o' n e z => ?_) (fun _ o' _ e => ⟨o', e⟩)
  (fun c xs e => by rw [del_ne (ne c _ e (by intro _ z; cases z))]; exact e) (fun c o' u e => by rw [del_ne (ne c _ e (by intro _ z; cases z))]; exact e) (fun c ps e => ⟨#[], by rw [del_ne (ne c _ e (by intro _ z; cases z)), e]; simp⟩) (fun _ m => m) (fun c u e => ?_) I.bare
 ·unfold del; split
  ·rfl
  ·exact z
 ·have z : c ≠ b := fun z => by rw [z, del_same] at e; cases e
  rw [del_ne z] at e
  exact (I.hok c u e).stay (fun _ _ _ q => q) (fun d q => by rw [del_ne (ne d _ q (by intro _ z; cases z))]; exact q) fun d xs q => by rw [del_ne (ne d _ q (by intro _ z; cases z))]; exact q
end
section
variable {X : Cx} {L : Addr} {LN f : Str} {p apos pos pos' : Pos} {e o value : Expr} {es : List Expr} {t : TA} {ta tv : TE}
end
end L2
namespace L2
open PySem PySem.Spec PyProof.Rows
set_option maxHeartbeats 4000000
section
variable {M : Model} {A : Around} {E : Value → Shared → Prop} {K : PySem.W.Frag} {L : Addr} {env : Env}
end
noncomputable def CX1 (P : Program) (w : World) : CXT := fun outer H s E e s' => ∃ a C dx H', e = .ref a ∧ s'.os = s.os ∧ AllBare s'.gens ∧ Un (frs outer) [] H H' s.heap s'.heap ∧ HOk P w H' s'.heap ∧ Fly (fun v => v = .none) s.heap.objs.size H' a C dx s'.heap ∧ E (.ref C) dx H'
def FlyIn (X : Cx) (E : XK) (e : Value) (s : Shared) : Prop := ∃ σ H a C dx, e = .ref a ∧ Inv X [] σ H s ∧ (FlyN X.s₀.heap.objs.size H a C dx s.heap ∨ Fly (fun v => v = .none ∨ v = rawInt X.env.locals) X.s₀.heap.objs.size H a C dx s.heap) ∧ E (.ref C) dx H
structure Def (X : Cx) : Prop where
 st : X.stack = X.env :: X.outer
 fr : X.env.frame = some X.env.locals
 pn : X.pn = []
 ex : X.ex = []
section
variable {X : Cx} {E : XK}
theorem Def.low (D : Def X) : ∀ p ∈ X.pn ++ ([] : List (Addr × Obj)), p.1 < X.s₀.heap.objs.size := fun p h => by rw [D.pn] at h; exact nomatch h
theorem FlyIn.own (D : Def X) : PassesOwn (model X.prog X.w) X.A X.env (FlyIn X E) := by
 rintro e s ⟨σ, H, a, C, dx, rfl, I, F, q⟩
 refine note_fly I D.st D.fr (Nat.le_refl _) D.low F fun h1 I1 F1 => ?_
 obtain ⟨oe, vs, T, oT, ts, v, o, v1, t, fl⟩ := id F1
 refine wpAny_bind (wpAny_field o.ge o.da v1 ?_)
 rw [if_neg (by simp)]
 refine flight_fly I1 D.st D.fr (Nat.le_refl _) D.low F1 fun h2 I2 F2 => ?_
 exact ⟨σ, H, a, C, dx, rfl, I2, .inr (F2.imp fun v e => .inr (by rw [e, D.fr]; rfl)), q⟩
theorem FlyIn.leaves (D : Def X) {e : Value} {s : Shared} {E2 : Value → Shared → Prop} (F : FlyIn X E e s) : wpAny (model X.prog X.w) X.A (leaving X.env e) (fun _ s' => CX1 X.prog X.w X.outer X.H₀ X.s₀ E e s') E2 s := by
 obtain ⟨σ, H, a, C, dx, rfl, I, F, q⟩ := F
 unfold leaving
 refine wpAny_bind (note_fly I D.st D.fr (Nat.le_refl _) D.low F fun h1 I1 F1 => flight_fly I1 D.st D.fr (Nat.le_refl _) D.low F1 fun h2 I2 F2 => ?_)
 refine ⟨a, C, dx, H, rfl, I2.os, I2.bare, ?_, I2.hok, F2, q⟩
 have := I2.base
 rw [D.ex] at this
 exact this
end
structure XMk (K : PySem.W.Frag) (C L fI : Addr) : Prop where
 xc : xcIn K C (.ref L :: VM) = true
 init : PySem.W.findIn K (.ref C) "__init__" = some (some (.ref fI))
 fn : PySem.W.isFn K (.ref fI) = true
 kp : PySem.W.keepIn K (.ref C) = true
section
variable {X : Cx} {E : XK} {k : Nat} {C L fI : Addr} {fd : FuncData} {ps : List Str} {f x : Str} {p pos cpos : Pos} {e : Expr} {t : TA}
end
end L2
namespace L3
open PySem PySem.Spec PyProof.Rows L2
set_option maxHeartbeats 4000000
noncomputable abbrev XD := Addr → List (Str × D) → Gp → Prop
def lowX (K : PySem.W.Frag) (r : XD) : XK := fun cls dx H => ∃ C fs ys G, cls = .ref C ∧ Con K G H ∧ XDict H dx ys ∧ RelPs K H fs ys ∧ r C fs G
theorem PSs.wish {X : Cx} {E : Value → Shared → Prop} {st : List Stmt} {t : TS} (h : PSs (X.wish E) st t) (k : ∀ e s, E e s → X.xe e s) : PSs X st t := fun pins s σ H D I hw =>
 wpAny_mono (h pins s σ H D (I.wish _) hw) (fun _ _ q => q.unwish) k
section
variable {X : Cx} {r : XD}
end
section
variable {P : Program} {w : World} {K : PySem.W.Frag} {mg : Str → Option Value} {base : Heap}
end
section
variable {X : Cx} {r : XD} {e : Expr} {es : List Expr} {p pos cpos : Pos} {ta : TE3} {ts : TA3} {k : Nat} {S : Spx3} {x qual f : Str} {st : Stmt} {ps ps' : List Str} {C L fI : Addr} {fd : FuncData}
end
end L3
namespace L3
open PySem PySem.Spec PyProof.Rows L2
set_option maxHeartbeats 4000000
structure XBase (K : PySem.W.Frag) (L : Addr) : Prop where
 sp : PySem.W.specialIn K (.ref L) "__getattribute__" = some (some (.builtin "type.__getattribute__"))
 rd : PySem.W.readsIn K L (.type "type") = true
 fc : PySem.W.findCls K (.ref L) (.type "type") "__init__" = some (.val (.builtin "ValueError.__init__"))
structure XAttr (K : PySem.W.Frag) (C : Addr) (f : Str) : Prop where
 sa : PySem.W.findIn K (.ref C) "__setattr__" = some (some (.builtin "object.__setattr__"))
 na : PySem.W.findIn K (.ref C) f = some none
 ga : PySem.W.findIn K (.ref C) "__getattribute__" = some (some (.builtin "BaseException.__getattribute__"))
 gt : PySem.W.findIn K (.ref C) "__getattr__" = some none
section
variable {P : Program} {w : World} {K : PySem.W.Frag} {mg : Str → Option Value} {base : Heap} {C L : Addr} {f v qual : Str} {st : Stmt} {k : Nat}
end
section
variable {X : Cx} {e : Expr} {f : Str} {pos : Pos} {ta : TE3}
end
end L3
namespace L3
open PySem PySem.Spec PyProof.Rows L2
set_option maxHeartbeats 4000000
section
variable {X : Cx} {pins : List (Addr × Obj)} {σ : L2.St} {H : Hp} {s : Shared} {a : Addr}
theorem Inv.names {h' : Heap} {m' : Str → Option Value} {σ' : L2.St} {t' : Nat} (I : Inv X pins σ H s) (hn : h'.Ns X.env.locals m') (sb : Heap.SameBut X.env.locals s.heap h') (hl : σ'.length = σ.length)
  (k : ∀ m, s.heap.Ns X.env.locals m → (∀ (i : Nat) (x : Str) (v : V), X.N[i]? = some x → σ[i]? = some (some v) → Vis X.env.scope x → ∃ u, RelV v u ∧ Look X.env s.heap m x u) →
   ∀ (i : Nat) (x : Str) (v : V), X.N[i]? = some x → σ'[i]? = some (some v) → Vis X.env.scope x → ∃ u, RelV v u ∧ Look X.env s.heap m' x u) : Inv X pins σ' H { s with heap := h', toks := t' } := by
 obtain ⟨m, hm, lk⟩ := id I.loc
 obtain ⟨oL, _, _, hoL, _⟩ := id hm
 have nb : ∀ b o, X.s₀.heap.get? b = some o → b ≠ X.env.locals := fun b o e => Nat.ne_of_lt (Nat.lt_of_lt_of_le (Heap.lt_size e) I.ok.above)
 refine ⟨I.ok, I.os, I.bare, ⟨fun b o e n hb hx => ?_, fun b o e n hb hx => ?_, I.base.free, fun b o e hx => ?_, I.base.tups, I.base.frzs, I.base.tbls⟩, ⟨m', hn, fun j y v e1 e2 e3 => ?_⟩, fun y c e => ?_, I.free, I.freeC, fun p hp => ?_, fun b ob e => ?_, hl.trans I.len⟩
 ·exact (sb.2 b (nb b o e)).trans (I.base.keep b o e n hb hx)
 ·obtain ⟨sl, e1⟩ := I.base.slot b o e n hb hx
  exact ⟨sl, (sb.2 b (nb b o e)).trans e1⟩
 ·obtain ⟨o', e1⟩ := I.base.there b o e hx
  exact ⟨o', (sb.2 b (nb b o e)).trans e1⟩
 ·obtain ⟨u, r, l⟩ := k m hm lk j y v e1 e2 e3
  refine ⟨u, r, ?_⟩
  rcases l with l | ⟨z, c, e, q⟩
  ·exact .inl l
  ·exact .inr ⟨z, c, e, q.sameBut sb (I.cne y c e)⟩
 ·obtain ⟨v, q⟩ := I.cell y c e
  exact ⟨v, q.sameBut sb (I.cne y c e)⟩
 ·obtain ⟨e, n, ne, nf, d⟩ := I.pin p hp
  exact ⟨(sb.2 p.1 ne).trans e, n, ne, nf, d⟩
 ·refine (I.hok b ob e).stay (fun c w' hc q => (sb.2 c ?_).trans q) (fun _ q => q) fun _ _ q => q
  rintro rfl
  rcases hc with rfl | hc
  ·rw [I.free] at e; cases e
  ·rw [I.free] at hc; cases hc
end
end L3
namespace L3
open PySem PySem.Spec PyProof.Rows L2
set_option maxHeartbeats 4000000
def XP (X : Cx) (pins : List (Addr × Obj)) (σ : L2.St) (H : Hp) (r : XD) (e : Value) (s' : Shared) : Prop := ∃ H1 s1, Inv X pins σ H1 s1 ∧ Le H H1 ∧ CX1 X.prog X.w X.stack H1 s1 (lowX X.K r) e s'
section
variable {X : Cx} {e c : Expr} {es : List Expr} {p pos : Pos} {ts : TA3} {k : Nat} {S : Spx3} {x qual : Str} {st : Stmt} {ps : List Str} {t : XD → TE3} {tc : TT3} {a b : List Stmt} {ta tb : XD → TS3}
theorem XP.le {pins : List (Addr × Obj)} {σ : L2.St} {H H1 : Hp} {r : XD} {e : Value} {s' : Shared} (h : XP X pins σ H1 r e s') (l : Le H H1) : XP X pins σ H r e s' := by
 obtain ⟨H2, s1, I, l2, q⟩ := h
 exact ⟨H2, s1, I, l.trans l2, q⟩
end
def H3 (X : Cx) (hs : List ExceptHandler) (th : Addr → List (Str × D) → TS3) : Prop :=
 ∀ (pins : List (Addr × Obj)) (s : Shared) (σ : L2.St) (H : Hp) (D : Ends) (a C : Addr) (dx : Option Addr) (ys : List (Str × V)) (fs : List (Str × L3.D)) (lim : Nat), Inv X pins σ H s → X.s₀.heap.objs.size ≤ lim → (∀ p ∈ X.pn ++ pins, p.1 < lim) →
  Fly (fun v => v = .none) lim H a C dx s.heap → XDict H dx ys → RelPs X.K H fs ys → lowS X.K (th C fs) D σ H → wpAny (model X.prog X.w) X.A (handleBy (.ref a) X.env hs) (SP X pins D) X.xe s
section
variable {M : Model} {A : Around} {E : Value → Shared → Prop} {K : PySem.W.Frag} {C L C2 a : Addr} {bm : List Value} {o : Obj}
end
section
variable {X : Cx} {np pos : Pos} {c n : Str} {C2 : Addr} {bm : List Value} {b₀ : Stmt} {suite : List Stmt} {rest : List ExceptHandler} {ts : TS3} {th : Addr → List (Str × D) → TS3}
end
end L3
namespace L2
open PySem PySem.Spec PyProof.Rows PySem.W
set_option maxHeartbeats 4000000
section
variable {prog : Program} {w : World} {A : Around} {E : Value → Shared → Prop} {K : Frag} {C C2 L x : Addr} {o : Obj} {vs : Array Value}
def XcX (K : Frag) (C : Addr) : Prop := findIn K (.ref C) "__getattribute__" = some (some (.builtin "BaseException.__getattribute__")) ∧ findIn K (.ref C) "__getattr__" = some none ∧ findIn K (.ref C) "__class__" = some (some (.builtin "object.__class__"))
end
end L2
namespace L3
open PySem PySem.Spec PyProof.Rows L2
set_option maxHeartbeats 4000000
section
variable {X : Cx}
end
end L3
namespace L3
open PySem PySem.Spec PyProof.Rows L2
set_option maxHeartbeats 4000000
structure XL (K : PySem.W.Frag) (mg : Str → Option Value) (nm : Str) where
 C : Addr
 m : mg nm = some (.ref C)
 xc : xcIn K C VM = true
 b : XBase K C
structure XE (K : PySem.W.Frag) (mg : Str → Option Value) (L : Addr) (nm : Str) where
 C : Addr
 m : mg nm = some (.ref C)
 xc : xcIn K C (.ref L :: VM) = true
 x : XcX K C
 ne : C ≠ L
section
variable {X : Cx} {e : Expr} {es : List Expr} {p pos : Pos} {ts : TA3} {k : Nat} {S : Spx3} {x qual : Str} {st : Stmt} {ps : List Str} {C : Addr}
end
end L3
namespace L2
open PySem PySem.Spec PyProof.Rows
set_option maxHeartbeats 4000000
section
variable {X : Cx} {k : Nat} {C L fI : Addr} {fd : FuncData} {ps : List Str} {f x : Str} {p cpos : Pos} {e : Expr} {t : TA}
theorem held {pins : List (Addr × Obj)} {σ : St} {H : Hp} {s : Shared} {a : Addr} {dx : Option Addr} {n : Nat} (I : Inv X pins σ H s) (ta : H a = some (.ext (XN a C dx))) (I0 : X.s₀.heap.objs.size ≤ a) (hp : ∀ p ∈ X.pn ++ pins, p.1 ≠ a) (hL : a ≠ X.env.locals) (hc : ∀ x c, X.env.cells.lookup x = some c → c ≠ a) : Inv X pins σ (upd (del H a) a (.ext (XH a C dx))) s := by
 obtain ⟨ob, ws, t0, g1, g2, g3, g4, g5, g6⟩ := (I.hok a _ ta).1
 exact (I.untrack ta).track del_same I0 hp hL hc ⟨⟨ob, ws, g1, g2, g3, g4⟩, ⟨_, g1⟩, XH.stays⟩
theorem apart {pins : List (Addr × Obj)} {σ : St} {H : Hp} {s : Shared} {a : Addr} (I : Inv X pins σ H s) (le : s.heap.objs.size ≤ a) : X.s₀.heap.objs.size ≤ a ∧ (∀ p ∈ X.pn ++ pins, p.1 ≠ a) ∧ a ≠ X.env.locals ∧ ∀ x c, X.env.cells.lookup x = some c → c ≠ a := by
 refine ⟨Nat.le_trans I.sz le, fun p hp z => ?_, Nat.ne_of_gt (Nat.lt_of_lt_of_le I.lt le), fun x c e z => ?_⟩
 ·obtain ⟨e1, _⟩ := I.pin p hp
  exact absurd (Nat.lt_of_lt_of_le (Heap.lt_size e1) le) (by rw [z]; exact Nat.lt_irrefl _)
 ·obtain ⟨v, oc, e1, _⟩ := I.cell x c e
  exact absurd (Nat.lt_of_lt_of_le (Heap.lt_size e1) le) (by rw [z]; exact Nat.lt_irrefl _)
end
end L2
namespace L3
open PySem PySem.Spec PyProof.Rows L2
set_option maxHeartbeats 4000000
section
variable {X : Cx} {k : Nat} {C L fI : Addr} {fd : FuncData} {ps : List Str} {f x : Str} {p cpos : Pos} {e : Expr} {ts : TA3}
end
end L3
namespace L2
open PySem PySem.Spec PyProof.Rows
set_option maxHeartbeats 4000000
section
variable {X : Cx}
end
end L2
namespace L3
open PySem PySem.Spec PyProof.Rows L2
set_option maxHeartbeats 4000000
section
variable {X : Cx} {e o : Expr} {es : List Expr} {to : TE3} {ts : TA3} {apos cpos : Pos}
end
section
variable {X : Cx} {α : Type} [DecidableEq α]
end
section
variable {X : Cx} {pins : List (Addr × Obj)} {σ : L2.St} {s : Shared} {G : Gp} {H : Hp} {A : Around}
end
end L3
namespace L3
open PySem PySem.Spec PyProof.Rows L2
set_option maxHeartbeats 4000000
section
variable {X : Cx} {e o : Expr} {es : List Expr} {to : TE3} {ts : TA3} {apos cpos : Pos}
end
end L3
namespace Rw
open PySem PySem.Spec PyProof.Rows L2 L3
noncomputable def jmp : Row → Bool
 | .go _ _ _ => true
 | .come _ _ _ => true
 | _ => false
section
variable {X : Cx} {pins : List (Addr × Obj)} {σ : L2.St} {s : Shared} {G : Gp} {H : Hp} {A : Around}
end
end Rw
namespace Rw
open PySem PySem.Spec PyProof.Rows L2 L3
end Rw
namespace L3
open PySem PySem.Spec PyProof.Rows L2
end L3
namespace Rw
open PySem PySem.Spec PyProof.Rows L2 L3
theorem cut2 {α : Type} (a b : α) (rest : List α) : L3.cutD (a :: b :: rest) (some 2) none = rest := by
 unfold L3.cutD
 rw [HT.sIx_none, show (some (2 : Int)) = some ((2 : Nat) : Int) from rfl, HT.sIx_nat, Nat.min_eq_left (by simp)]
 show List.take _ rest = rest
 apply List.take_of_length_le
 simp
end Rw
namespace L3
open PySem L2
theorem addT {a b : List D} {G : Gp} {q : DK} : xAdd (.tup a) (.tup b) G q = (a ≠ [] ∧ a.length + b.length ≤ sizeLine ∧ q (.tup (a ++ b)) G) := rfl
end L3
namespace Rw
open PySem PySem.Spec PyProof.Rows L2 L3
theorem cut_skipG {α : Type} {xs : List α} {n : Nat} : L3.cutD xs (some (n : Int)) none = xs.drop n := by
 unfold L3.cutD
 rw [HT.sIx_none, HT.sIx_nat]
 rcases Nat.le_total n xs.length with h | h
 ·rw [Nat.min_eq_left h]
  exact List.take_of_length_le (by rw [List.length_drop]; exact Nat.le_refl _)
 ·rw [Nat.min_eq_right h, List.drop_eq_nil_of_le (Nat.le_refl _), List.drop_eq_nil_of_le h, List.take_nil]
theorem cmp_rnil {G : Gp} {a b : Addr} {rs : List Row} {Q : Bool → Prop} (h1 : seqOf (G a) = some (rs.map Row.d)) (h2 : seqOf (G b) = some []) (h : Q (decide (rs = []))) :
  ∃ n sd se r, n ≤ 40 ∧ snap G n (.ref a) = some sd ∧ snap G n (.ref b) = some se ∧ eqN n sd se = some r ∧ Q r := by
 cases rs with
 | nil => exact cmp_ints (ks := []) (ms := []) h1 h2 h
 | cons r0 rs =>
  obtain ⟨ys, e⟩ := mapM_all (f := snap G 3) (xs := (r0 :: rs).map Row.d) fun d hd => by
   obtain ⟨r, _, rfl⟩ := List.mem_map.mp hd
   exact snap_row (n := 0) r
  have hl := mapM_len e
  rw [List.length_map] at hl
  refine ⟨4, .lst ys, .lst [], decide (r0 :: rs = []), by decide, ?_, ?_, ?_, h⟩
  ·show ((seqOf (G a)).bind fun ds => (ds.mapM (snap G 3)).map Sn.lst) = _
   rw [h1]
   show (((r0 :: rs).map Row.d).mapM (snap G 3)).map Sn.lst = _
   rw [e]; rfl
  ·show ((seqOf (G b)).bind fun ds => (ds.mapM (snap G 3)).map Sn.lst) = _
   rw [h2]; rfl
  ·show (if ys.length = ([] : List Sn).length then ((ys.zip []).mapM fun p => eqN 3 p.1 p.2).map fun bs => bs.all id else some false) = _
   rw [if_neg (by rw [hl]; simp)]
   rfl
end Rw
namespace Rw
end Rw
namespace L2
open PySem PySem.Spec PyProof.Rows
noncomputable def Its (x : Str) : It := ⟨fun i _ => i < x.cps.size, fun i H v H' => H' = H ∧ ∃ c, x.cps[i]? = some c ∧ v = .str ⟨#[c]⟩, fun i _ => x.cps.size ≤ i⟩
theorem turn_strA {P : Program} {w : World} {K : PySem.W.Frag} {tg : Expr} (it : Addr) (x : Str) (t : Tok) : Turn P w K tg (Its x) [it] it (fun i h => h.IsStrIter it "str_ascii_iterator" x t i) where
 mem := by simp
 obj := fun i h st b hb => by
  have e : b = it := by simpa using hb
  subst e
  obtain ⟨o, e, c, d⟩ := st
  exact ⟨o, e, fun v z => by rw [d] at z; cases z⟩
 keep := fun i h h' st k => let ⟨o, e, r⟩ := st; ⟨o, k it (by simp) o e, r⟩
 item := by
  intro X hP hw hK hc i pins s σ H E I hf st hg
  subst hP hw hK
  obtain ⟨f0, f1, f2, f3, f4, f5⟩ := hf it (by simp)
  refine (Walks.strAscii (prog := X.prog) (w := X.w) (I.ok.hd hc) it x t).item i s _ _ hg st fun v h' tk hv st' kk => ?_
  obtain ⟨c, u, hc', rfl⟩ := hv
  have I1 : Inv X pins σ H { s with heap := h', toks := tk } := I.turned (fun b o hb e => kk b o (by simpa using hb) e) f0 f1 f3 f4 f5
  obtain ⟨o, e, cc, d⟩ := id st'
  exact ⟨_, rfl, go_of (s := { s with heap := h', toks := tk }) e cc d (by decide) ⟨.str ⟨#[c]⟩, H, I1, ⟨u, rfl⟩, ⟨rfl, c, hc', rfl⟩, st', fun b hb => (hf b hb).1⟩⟩
 done := by
  intro X hP hw hK hc i pins s σ H E I hf st hg
  subst hP hw hK
  obtain ⟨f0, f1, f2, f3, f4, f5⟩ := hf it (by simp)
  have hg : x.cps.size ≤ i := hg
  exact wpAny_pyNext_ascii_end (I.ok.hd hc) st (by simpa using hg) fun h' eb => ⟨rfl, I.turned (t' := s.toks) (fun b o hb e => eb b o hb e) f0 f1 f3 f4 f5⟩
 self := fun _ _ _ _ _ st h => wpAny_pyIter_striter_ascii st h
theorem turn_strW {P : Program} {w : World} {K : PySem.W.Frag} {tg : Expr} (it : Addr) (x : Str) (t : Tok) : Turn P w K tg (Its x) [it] it (fun i h => h.IsStrIter it "str_iterator" x t i) where
 mem := by simp
 obj := fun i h st b hb => by
  have e : b = it := by simpa using hb
  subst e
  obtain ⟨o, e, c, d⟩ := st
  exact ⟨o, e, fun v z => by rw [d] at z; cases z⟩
 keep := fun i h h' st k => let ⟨o, e, r⟩ := st; ⟨o, k it (by simp) o e, r⟩
 item := by
  intro X hP hw hK hc i pins s σ H E I hf st hg
  subst hP hw hK
  obtain ⟨f0, f1, f2, f3, f4, f5⟩ := hf it (by simp)
  refine (Walks.strWide (prog := X.prog) (w := X.w) (I.ok.hd hc) it x t).item i s _ _ hg st fun v h' tk hv st' kk => ?_
  obtain ⟨c, u, hc', rfl⟩ := hv
  have I1 : Inv X pins σ H { s with heap := h', toks := tk } := I.turned (fun b o hb e => kk b o (by simpa using hb) e) f0 f1 f3 f4 f5
  obtain ⟨o, e, cc, d⟩ := id st'
  exact ⟨_, rfl, go_of (s := { s with heap := h', toks := tk }) e cc d (by decide) ⟨.str ⟨#[c]⟩, H, I1, ⟨u, rfl⟩, ⟨rfl, c, hc', rfl⟩, st', fun b hb => (hf b hb).1⟩⟩
 done := by
  intro X hP hw hK hc i pins s σ H E I hf st hg
  subst hP hw hK
  obtain ⟨f0, f1, f2, f3, f4, f5⟩ := hf it (by simp)
  have hg : x.cps.size ≤ i := hg
  exact wpAny_pyNext_wide_end (I.ok.hd hc) st (by simpa using hg) fun h' eb => ⟨rfl, I.turned (t' := s.toks) (fun b o hb e => eb b o hb e) f0 f1 f3 f4 f5⟩
 self := fun _ _ _ _ _ st h => wpAny_pyIter_striter_wide st h
section
variable {X : Cx} {tg : Expr}
def iStr (tl : TE) : TI := fun σ H R => tl σ H fun v H1 => ∃ x, v = .str x ∧ R (Its x) H1
theorem pi_str {l : Expr} {tl : TE} (hl : PE X l tl) : PI X tg l (iStr tl) := by
 intro pins s σ H R I h
 (refine thn (hl pins s σ H _ I h) ?_; rintro v s1 ⟨y, H1, I1, r1, q1⟩)
 obtain ⟨x, rfl, q⟩ := q1
 obtain ⟨t, rfl⟩ := r1
 have fp : ∀ b ∈ [s1.heap.objs.size], FpOk X pins H1 b := fun b hb => by
  have e : b = s1.heap.objs.size := by simpa using hb
  subst e
  exact I1.fpOk (Nat.le_refl _) (I1.hok.fresh (Nat.le_refl _))
 cases ha : x.cps.all (· < 128)
 ·exact wpAny_pyIter_wide ha ⟨s1.heap.objs.size, [s1.heap.objs.size], _, _, H1, rfl, I1.kept (t' := s1.toks) fun b o e => Heap.get?_push_of_some _ e, turn_strW _ x t, ⟨_, Heap.get?_push_size _ rfl, rfl, rfl⟩, fp, q⟩
 ·exact wpAny_pyIter_ascii ha ⟨s1.heap.objs.size, [s1.heap.objs.size], _, _, H1, rfl, I1.kept (t' := s1.toks) fun b o e => Heap.get?_push_of_some _ e, turn_strA _ x t, ⟨_, Heap.get?_push_size _ rfl, rfl, rfl⟩, fp, q⟩
noncomputable def partsOf (s t : Str) : List Str := Builtin.Str.partsBetween s (Builtin.Str.occurrences s t 0 s.length (s.length + 1)) t.length
theorem strsFrom_vals : ∀ (ws : List Str) (n : Nat), Vals (ws.map V.str) (strsFrom n ws)
 | [], _ => .nil
 | w :: ws, n => .cons ⟨n, rfl⟩ (strsFrom_vals ws (n + 1))
end
end L2
namespace L3
open PySem PySem.Spec PyProof.Rows L2
section
variable {X : Cx} {K : PySem.W.Frag} {H : Hp} {o e tg : Expr} {es : List Expr} {te to : TE3} {ts : TA3} {apos cpos pos : Pos} {x : Str}
@[reducible] def sgns (x : Str) : List D := x.cps.toList.map fun c => .str ⟨#[c]⟩
theorem itrel_str {H0 : Hp} {x : Str} : ItRel K H0 ⟨sgns x, fun _ => True⟩ (Its x) where
 go := fun i G H l c _ hi => by
  have hi : i < (sgns x).length := hi
  show i < x.cps.size
  simpa [sgns] using hi
 stop := fun i G H l c _ hi => by
  have hi : (sgns x).length ≤ i := hi
  show x.cps.size ≤ i
  simpa [sgns] using hi
 yld := fun i G H v H' l c _ hi y => by
  obtain ⟨rfl, n, hn, rfl⟩ := y
  refine ⟨c, Le.refl _, .str ⟨#[n]⟩, ?_, by rw [RelD]⟩
  show (sgns x)[i]? = _
  unfold sgns
  rw [List.getElem?_map, Array.getElem?_toList, hn]; rfl
def wStr (te : TE3) : TI3 := fun σ G r => te σ G fun d G1 => ∃ x, d = .str x ∧ r ⟨sgns x, fun _ => True⟩ G1
theorem i_str (h : E3 X e te) : I3 X tg e (wStr te) := weakI (pi_str h) fun σ H R hh => by
 obtain ⟨σd, G, q, rs, c, t, f⟩ := hh
 refine ⟨σd, G, _, rs, c, t, fun d G1 v H1 r1 c1 l1 t1 => ?_⟩
 obtain ⟨y, rfl, t2⟩ := t1
 exact ⟨y, r1.str_inv, f _ _ _ _ itrel_str c1 l1 t2⟩
@[reducible] def xInS : R3 := fun x y G q => ∃ (c : Nat) (j : Str), x = .str ⟨#[c]⟩ ∧ y = .str j ∧ q (.bl (decide (c ∈ j.cps.toList))) G
theorem x_inS : Op3 X (compareOp .In) xInS := weakOp op_in_str fun x y H Q ⟨d, e, G, q, r1, r2, c, ⟨i, j, e1, e2, t⟩, f⟩ => by
 subst e1 e2
 exact ⟨_, j, r1.str_inv, r2.str_inv, by rw [StrLaws.found_one]; exact f _ _ _ _ RelD.blI c (Le.refl H) t⟩
theorem relS : ∀ (ws : List Str), RelDs K H (ws.map .str) (ws.map V.str)
 | [] => .nil
 | w :: ws => .cons (by rw [RelD]) (relS ws)
theorem e_constS {s : Str} (h : ∃ t, X.mg x = some (.str s t)) (hg : Gl X x := by rfl) (hdb : (x == ("__debug__" : Str)) = false := by decide) : E3 X (.Name x pos) (dC (.str s)) := by
 obtain ⟨t, h⟩ := h
 exact e_glob hg h (v := .str s) ⟨t, rfl⟩ (fun _ => by rw [RelD]) hdb
end
end L3
namespace L2
open PySem PySem.Spec PyProof.Rows
set_option maxHeartbeats 4000000
section
variable {X : Cx}
theorem call_intS : CallR X (.type "int") (fun xs H Q => ∃ (x : Str) (n : Int), xs = [.str x] ∧ intText? x = some n ∧ x.length ≤ 640 ∧ Q (.int n) H) := by
 intro pins s σ H xs us Q I r h
 obtain ⟨x, n, rfl, hn, hl, q⟩ := h
 obtain ⟨u, rfl, rx⟩ := vals1 r
 obtain ⟨t, rfl⟩ := rx
 exact PySem.W.KIN.call_text hn hl ⟨.int n, H, I.tok _, ⟨_, rfl⟩, q⟩
theorem call_strI : CallR X (.type "str") (fun xs H Q => ∃ i : Int, xs = [.int i] ∧ i.natAbs.log2 < 1920 ∧ Q (.str (Str.ofString (toString i))) H) := by
 intro pins s σ H xs us Q I r h
 obtain ⟨i, rfl, hl, q⟩ := h
 obtain ⟨u, rfl, rx⟩ := vals1 r
 obtain ⟨t, rfl⟩ := rx
 exact PySem.P.str_of_int hl ⟨.str _, H, I.tok _, ⟨_, rfl⟩, q⟩
theorem sl_strX : SlR X (fun x lo hi H Q => ∃ y : Str, x = .str y ∧ y.length ≤ sizeLine ∧ Q (.str (Txt.slice y lo hi)) H) := by
 intro pins s σ H x v vl vu lo hi sl Q I rx hs pl pu h
 obtain ⟨y, rfl, hy, q⟩ := h
 obtain ⟨t, rfl⟩ := rx
 refine ⟨"str", _, PySem.F.slot_str_getitem.lookup, typeIs_str _ _ _, ?_⟩
 obtain ⟨l, rfl, el⟩ : ∃ l : Option (Int × Tok), vl = partValue l ∧ l.map (·.1) = lo := by cases pl with
  | none => exact ⟨none, rfl, rfl⟩
  | int i t => exact ⟨some (i, t), rfl, rfl⟩
 obtain ⟨u, rfl, eu⟩ : ∃ l : Option (Int × Tok), vu = partValue l ∧ l.map (·.1) = hi := by cases pu with
  | none => exact ⟨none, rfl, rfl⟩
  | int i t => exact ⟨some (i, t), rfl, rfl⟩
 subst el
 subst eu
 refine wpAny_getItem_str_slice (l := l) (u := u) (st := none) hs rfl ?_
 refine post_val_or_str ⟨Nat.le_trans (Txt.slice_le y _ _) hy, fun t' k => ?_⟩
 exact ⟨.str _, H, I.tok k, ⟨t', rfl⟩, q⟩
theorem mt_splitA : MtR X "str.split" (fun x vs H Q => ∃ s t : Str, x = .str s ∧ vs = [.str t] ∧ (t.length == 0) = false ∧ s.length ≤ sizeLine ∧ (Txt.split s t).length ≤ sizeLine ∧ ∀ p, H p = none → Q (.ref p) (upd H p (.lst ((Txt.split s t).map V.str)))) := by
 intro pins s σ H x vs v us Q I rx rv h
 obtain ⟨y, z, rfl, rfl, h2, h4, h5, q⟩ := h
 obtain ⟨t, rfl⟩ := rx
 obtain ⟨u, rfl, ru⟩ := rv.one
 obtain ⟨t', rfl⟩ := ru
 have one : Txt.split y z = [y] → EP X pins σ Q (.ref s.heap.objs.size) { s with heap := s.heap.push { cls := .type "list", data := .seq [Value.str y t].toArray } } := fun e => by
  rw [e] at q
  refine ⟨.ref s.heap.objs.size, _, I.laid (a := s.heap.objs.size) (o := .lst [V.str y]) (t' := s.toks) (fun b ob q => Heap.get?_push_of_some _ q) (Nat.le_refl _) ?_, rfl, q _ (I.hok.fresh (Nat.le_refl _))⟩
  exact ⟨by show 1 ≤ sizeLine; decide, _, 0, .cons ⟨t, rfl⟩ .nil, Heap.get?_push_size _ rfl⟩
 cases h1 : (decide (y.length < z.length) || decide (Builtin.Str.strKind y < Builtin.Str.strKind z)) with
 | true => exact call_meets PySem.F.slot_str_split (typeIs_str _ _ _) PySem.F.entry_str_split (PySem.F.args_str_split_2 _ _) (meets_str_split_cannot_occur y z t t' h1) (one (if_pos h1))
 | false =>
  cases h3 : (Builtin.Str.occurrences y z 0 y.length (y.length + 1)).isEmpty with
  | true => exact call_meets PySem.F.slot_str_split (typeIs_str _ _ _) PySem.F.entry_str_split (PySem.F.args_str_split_2 _ _) (meets_str_split_not_found y z t t' h1 h2 h3) (one ((if_neg (ne_true_of_eq_false h1)).trans (if_pos h3)))
  | false =>
   have e : Txt.split y z = partsOf y z := (if_neg (ne_true_of_eq_false h1)).trans (if_neg (ne_true_of_eq_false h3))
   rw [e] at h5 q
   refine call_meets PySem.F.slot_str_split (typeIs_str _ _ _) PySem.F.entry_str_split (PySem.F.args_str_split_2 _ _) (meets_str_split_sep y z t t' h1 h2 h3 h4 h5) ?_
   refine ⟨.ref s.heap.objs.size, _, I.laid (a := s.heap.objs.size) (o := .lst ((partsOf y z).map V.str)) (fun b ob q => Heap.get?_push_of_some _ q) (Nat.le_refl _) ?_, rfl, q _ (I.hok.fresh (Nat.le_refl _))⟩
   exact ⟨by rw [List.length_map]; exact h5, _, 0, strsFrom_vals _ _, Heap.get?_push_size _ rfl⟩
theorem call_isTL : CallR X (.builtin "isinstance") (fun xs H Q => ∃ (x : V) (ta : Addr) (b : Bool), xs = [x, .ref ta] ∧ SqT X.K H ta [.ty "tuple", .ty "list"] ∧ (((∃ i, x = .int i) ∧ b = false) ∨ ((∃ i, x = .str i) ∧ b = false) ∨ ((∃ a ys, x = .ref a ∧ SqT X.K H a ys) ∧ b = true) ∨ ((∃ a ys, x = .ref a ∧ H a = some (.lst ys)) ∧ b = true)) ∧ Q (.bl b) H) := by
 intro pins s σ H xs us Q I r h
 obtain ⟨x, ta, b, rfl, hq, hk, q⟩ := h
 obtain ⟨u, w, rfl, rx, rt⟩ := vals2 r
 cases rt
 obtain ⟨its, rvs, tp, _⟩ := I.tuple hq
 obtain ⟨o, e1, e2, n, e3⟩ := tp
 obtain ⟨u1, u2, rfl, q1, q2⟩ := Vals.two rvs
 cases q1
 cases q2
 obtain ⟨oc, od, oda, osl⟩ := o
 dsimp only at e2 e3
 subst e2; subst e3
 have fin : ∀ tk, EP X pins σ Q (.bool b) { s with toks := tk } := fun tk => ⟨.bl b, H, I.tok tk, rfl, q⟩
 rcases hk with ⟨⟨i, rfl⟩, rfl⟩ | ⟨⟨i, rfl⟩, rfl⟩ | ⟨⟨a, ys, rfl, hs⟩, rfl⟩ | ⟨⟨a, ys, rfl, hs⟩, rfl⟩
 ·obtain ⟨t, rfl⟩ := rx
  exact PySem.W.kia_tup PySem.W.kitx_int I.kIn trivial e1 rfl (fun z => nomatch z) fin
 ·obtain ⟨t, rfl⟩ := rx
  exact PySem.W.kia_tup PySem.W.kitx_str I.kIn trivial e1 rfl (fun z => nomatch z) fin
 ·cases rx
  obtain ⟨its2, _, p, _⟩ := I.tuple hs
  obtain ⟨o2, h1, h2, _⟩ := p
  exact PySem.W.kia_tup PySem.W.kitx_tuple I.kIn ⟨o2, h1, h2⟩ e1 rfl (fun z => nomatch z) fin
 ·cases rx
  obtain ⟨_, its2, m2, _, _, h1⟩ := I.lstM hs
  exact PySem.W.kia_tup PySem.W.kitx_list I.kIn ⟨_, h1, rfl⟩ e1 rfl (fun z => nomatch z) fin
end
end L2
namespace L3
open PySem PySem.Spec PyProof.Rows L2
set_option maxHeartbeats 4000000
section
variable {X : Cx} {K : PySem.W.Frag} {H : Hp} {o e tg : Expr} {es : List Expr} {te to : TE3} {ts : TA3} {apos cpos pos : Pos} {x : Str}
@[reducible] def xToIntS : C3 := fun ds G q => ∃ (x : Str) (n : Int), ds = [.str x] ∧ intText? x = some n ∧ x.length ≤ 640 ∧ q (.int n) G
theorem x_toIntS : Call3 X (.type "int") xToIntS := weakCall call_intS <| by
 rintro xs H Q ⟨ds, G, q, r, c, ⟨x, n, rfl, h1, h2, t⟩, f⟩
 obtain ⟨v, rfl, r1⟩ := r.one
 cases r1.str_inv
 exact ⟨x, n, rfl, h1, h2, f _ _ _ _ RelD.intI c (Le.refl H) t⟩
@[reducible] def xToStr : C3 := fun ds G q => ∃ i : Int, ds = [.int i] ∧ i.natAbs.log2 < 1920 ∧ q (.str (Str.ofString (toString i))) G
theorem x_toStr : Call3 X (.type "str") xToStr := weakCall call_strI <| by
 rintro xs H Q ⟨ds, G, q, r, c, ⟨i, rfl, h1, t⟩, f⟩
 obtain ⟨v, rfl, r1⟩ := r.one
 cases r1.int_inv
 exact ⟨i, rfl, h1, f _ _ _ _ (by rw [RelD]) c (Le.refl H) t⟩
@[reducible] def xSlX : RS3 := fun x lo hi G q => ∃ y : Str, x = .str y ∧ y.length ≤ sizeLine ∧ q (.str (Txt.slice y lo hi)) G
theorem x_slX : SlR X (lowRS X.K xSlX) := weakSl sl_strX <| by
 rintro x lo hi H Q ⟨d, G, q, r1, c, ⟨y, rfl, hy, t⟩, f⟩
 exact ⟨y, r1.str_inv, hy, f _ _ _ _ (by rw [RelD]) c (Le.refl H) t⟩
@[reducible] def mSplitA : M3 := fun x ds G q => ∃ s t : Str, x = .str s ∧ ds = [.str t] ∧ (t.length == 0) = false ∧ s.length ≤ sizeLine ∧ (Txt.split s t).length ≤ sizeLine ∧ ∀ p, G p = none → q (.ref p) (gup G p (.lst ((Txt.split s t).map .str)))
theorem e_splitA (ho : E3 X o to) (ha : A3 X (e :: es) ts) (hbase : attributeBase o "split" X.env (eval o X.env) = eval o X.env := by rfl)
  (hfew : ((backTo cpos (starEach (e :: es) X.env)).all (fun x => !x.1) && (backToKw cpos (keywordEach [] X.env)).all (fun x => x.1.isSome)
   && decide ((e :: es).length + ([] : List Keyword).length + (if ([] : List Keyword).isEmpty then 0 else 1) < 30)) = true := by rfl)
  (hline : (apos.endLine == cpos.line) = true := by rfl) (hs : starEach (e :: es) X.env = (false, eval e X.env) :: starEach es X.env := by rfl) (hplain : (backTo cpos (starEach es X.env)).any (·.1) = false := by rfl) :
  E3 X (.Call (.Attribute o "split" apos) (e :: es) [] cpos) (dBM "str" mSplitA to ts) :=
 weakE (pe_bm PySem.F.plainAttrs_str PySem.F.slot_str_split PySem.F.type_str_split (weakMt (r' := lowM X.K mSplitA) mt_splitA <| by
  rintro x xs H Q ⟨d, ds, G, q, r1, r2, c, ⟨s, t, rfl, rfl, h1, h2, h3, tt⟩, f⟩
  obtain ⟨u, rfl, ru⟩ := r2.one
  cases ru.str_inv
  exact ⟨s, t, r1.str_inv, rfl, h1, h2, h3, fun p hp => f _ _ _ _ RelD.refI (c.lstNew hp (relS _)) (Le.fresh hp) (tt p (c.fresh hp))⟩) ho ha hbase hfew hline hs hplain) fun _ _ _ => low_bm (ty_str _)
noncomputable def isTL (G : Gp) : D → Option Bool
 | .int _ => some false
 | .str _ => some false
 | .tup _ => some true
 | .ref a => (match G a with | some (.lst _) => some true | _ => none)
 | _ => none
@[reducible] def xIsTL : C3 := fun ds G q => ∃ (x : D) (b : Bool), ds = [x, .tup [.ty "tuple", .ty "list"]] ∧ isTL G x = some b ∧ q (.bl b) G
theorem x_isTL : Call3 X (.builtin "isinstance") xIsTL := weakCall call_isTL <| by
 rintro xs H Q ⟨ds, G, q, r, c, ⟨x, b, rfl, hb, t⟩, f⟩
 obtain ⟨v, u, rfl, r1, r2⟩ := r.two
 obtain ⟨ta, ys, rfl, sq, rs⟩ := r2.tup_inv
 obtain ⟨y1, ys1, rfl, q1, rs1⟩ := rs.inv_cons
 obtain ⟨y2, rfl, q2⟩ := rs1.one
 rw [RelD] at q1 q2
 subst q1
 subst q2
 refine ⟨v, ta, b, rfl, sq, ?_, f _ _ _ _ RelD.blI c (Le.refl H) t⟩
 cases x with
 | int i => cases hb; exact .inl ⟨⟨i, r1.int_inv⟩, rfl⟩
 | str i => cases hb; exact .inr (.inl ⟨⟨i, r1.str_inv⟩, rfl⟩)
 | tup ds =>
  cases hb
  obtain ⟨a, zs, rfl, s1, _⟩ := r1.tup_inv
  exact .inr (.inr (.inl ⟨⟨a, zs, rfl, s1⟩, rfl⟩))
 | ref a =>
  have hb : (match G a with | some (.lst _) => some true | _ => none) = some b := hb
  cases e1 : G a with
  | none => rw [e1] at hb; cases hb
  | some oo =>
   cases oo with
   | lst zs =>
    rw [e1] at hb
    cases hb
    obtain ⟨ws, h1, _⟩ := c _ _ e1
    exact .inr (.inr (.inr ⟨⟨a, ws, r1.ref_inv, h1⟩, rfl⟩))
   | _ => rw [e1] at hb; cases hb
 | _ => cases hb
end
end L3
namespace L3
open PySem PySem.Spec PyProof.Rows L2
set_option maxHeartbeats 4000000
theorem str_len (x : Str) : x.length = x.cps.toList.length := by simp [Str.length]
theorem cps_app (a b : Str) : (a ++ b).cps.toList = a.cps.toList ++ b.cps.toList := by
 show (a.cps ++ b.cps).toList = _
 rw [Array.toList_append]
theorem str_ext {a b : Str} (h : a.cps.toList = b.cps.toList) : a = b := Str.ext' (Array.toList_inj.mp h)
theorem join_cps (c : Nat) : ∀ (w : Str) (v : Str) (r : List Str), (Str.join ⟨#[c]⟩ (w :: v :: r)).cps.toList = w.cps.toList ++ c :: (Str.join ⟨#[c]⟩ (v :: r)).cps.toList := fun w v r => by
 show ((w ++ (⟨#[c]⟩ : Str)) ++ Str.join ⟨#[c]⟩ (v :: r)).cps.toList = _
 rw [cps_app, cps_app, List.append_assoc]; rfl
theorem cut_same {c : Nat} : ∀ {a a' r r' : List Nat}, c ∉ a → c ∉ a' → a ++ c :: r = a' ++ c :: r' → a = a' ∧ r = r'
 | [], [], r, r', _, _, e => by cases e; exact ⟨rfl, rfl⟩
 | [], x :: a', r, r', _, h, e => by
  have e : c :: r = x :: (a' ++ c :: r') := e
  cases e
  exact absurd List.mem_cons_self h
 | x :: a, [], r, r', h, _, e => by
  have e : x :: (a ++ c :: r) = c :: r' := e
  cases e
  exact absurd List.mem_cons_self h
 | x :: a, y :: a', r, r', h, h', e => by
  have e : x :: (a ++ c :: r) = y :: (a' ++ c :: r') := e
  injection e with e1 e2
  obtain ⟨z1, z2⟩ := cut_same (fun z => h (List.mem_cons_of_mem _ z)) (fun z => h' (List.mem_cons_of_mem _ z)) e2
  exact ⟨by rw [e1, z1], z2⟩
theorem join_same {c : Nat} : ∀ {ws vs : List Str}, ws ≠ [] → vs ≠ [] → (∀ w ∈ ws, c ∉ w.cps.toList) → (∀ w ∈ vs, c ∉ w.cps.toList) → Str.join ⟨#[c]⟩ ws = Str.join ⟨#[c]⟩ vs → ws = vs
 | [], _, h, _, _, _, _ => absurd rfl h
 | _, [], _, h, _, _, _ => absurd rfl h
 | [w], [v], _, _, _, _, e => by
  have e : w = v := e
  rw [e]
 | [w], v :: v' :: r, _, _, h, _, e => by
  have e1 := congrArg (fun x : Str => x.cps.toList) e
  rw [join_cps] at e1
  have e1 : w.cps.toList = v.cps.toList ++ c :: (Str.join ⟨#[c]⟩ (v' :: r)).cps.toList := e1
  exact absurd (by rw [e1]; simp) (h w List.mem_cons_self)
 | w :: w' :: r, [v], _, _, _, h, e => by
  have e1 := congrArg (fun x : Str => x.cps.toList) e
  rw [join_cps] at e1
  have e1 : w.cps.toList ++ c :: (Str.join ⟨#[c]⟩ (w' :: r)).cps.toList = v.cps.toList := e1
  exact absurd (by rw [← e1]; simp) (h v List.mem_cons_self)
 | w :: w' :: r, v :: v' :: r', _, _, h, h', e => by
  have e1 := congrArg (fun x : Str => x.cps.toList) e
  rw [join_cps, join_cps] at e1
  obtain ⟨z1, z2⟩ := cut_same (h w List.mem_cons_self) (h' v List.mem_cons_self) e1
  rw [str_ext z1, join_same (ws := w' :: r) (vs := v' :: r') (by simp) (by simp) (fun x hx => h x (List.mem_cons_of_mem _ hx)) (fun x hx => h' x (List.mem_cons_of_mem _ hx)) (str_ext z2)]
theorem split_ne (x y : Str) : Txt.split x y ≠ [] := by
 unfold Txt.split
 split
 ·simp
 ·split
  ·simp
  ·intro e
   have := congrArg List.length e
   rw [length_partsBetween] at this
   simp at this
theorem blank : (" " : Str) = ⟨#[32]⟩ := by decide
end L3
namespace L3
open PySem PySem.Spec PyProof.Rows L2
theorem lenS {z : Str} {G : Gp} {q : DK} : xLen [.str z] G q = (z.length ≤ sizeLine ∧ q (.int z.length) G) := rfl
theorem ixS {z : Str} {i : Int} {G : Gp} {q : DK} : xIx (.str z) (.int i) G q = (z.length ≤ sizeLine ∧ (match atI z.cps.toList i with | some c => q (.str ⟨#[c]⟩) G | none => False)) := rfl
theorem addS {a b : Str} {G : Gp} {q : DK} : xAdd (.str a) (.str b) G q = (a.length + b.length ≤ sizeLine ∧ q (.str (a ++ b)) G) := rfl
theorem at0 {α : Type} {c : α} {r : List α} : atI (c :: r) 0 = some c := by
 unfold atI ixN
 rw [if_pos (by decide), if_pos (by rw [List.length_cons]; omega)]; rfl
theorem one_eq {c d : Nat} : ((⟨#[c]⟩ : Str) = ⟨#[d]⟩) = (c = d) := by
 apply propext
 constructor
 ·intro e
  have := congrArg (fun x : Str => x.cps.toList) e
  simpa using this
 ·rintro rfl; rfl
theorem zero_mk : ("0" : Str) = ⟨#[48]⟩ := by decide
theorem figures {c : Nat} (h : 48 ≤ c ∧ c ≤ 57) : decide (c ∈ ("0123456789" : Str).cps.toList) = true := by
 have : c = 48 ∨ c = 49 ∨ c = 50 ∨ c = 51 ∨ c = 52 ∨ c = 53 ∨ c = 54 ∨ c = 55 ∨ c = 56 ∨ c = 57 := by omega
 rcases this with e | e | e | e | e | e | e | e | e | e <;> subst e <;> decide
end L3
namespace L3
open PySem PySem.Spec PyProof.Rows L2
theorem isB_all : (∀ i G q, xIsinstA [.int i, .ty "int"] G q = q (.bl true) G) ∧ (∀ i G q, xEqB false (.int i) (.int i) G q = q (.bl true) G) ∧ (∀ i G q, xEqB false (.str i) (.str i) G q = q (.bl true) G) ∧ (∀ G q, xEqB true (.bl true) (.bl true) G q = q (.bl false) G) ∧ (∀ G q, xEqB true (.bl false) (.bl false) G q = q (.bl false) G) := by
 refine ⟨?_, ?_, ?_, ?_, ?_⟩
 ·intros; simp [xIsinstA, kindA, kindD]; rfl
 ·intro i G q
  show q (.bl (decide (i = i))) G = _
  rw [decide_eq_true rfl]
 ·intro i G q
  show q (.bl (decide (i = i))) G = _
  rw [decide_eq_true rfl]
 ·intros; rfl
 ·intros; rfl
theorem isL_all : ∀ a G q, xIsinstA [.ref a, .ty "tuple"] G q = (match G a with | some (.lst _) => q (.bl false) G | some (.fro _) => q (.bl false) G | some (.dic _) => q (.bl false) G | _ => False) := by
 intro a G q
 apply propext
 simp only [xIsinstA, kindA, kindD]
 constructor
 ·rintro ⟨_, h⟩
  cases e : G a with
  | none => rw [e] at h; exact h.elim
  | some o => cases o <;> rw [e] at h <;> exact h
 ·intro h
  refine ⟨by simp, ?_⟩
  cases e : G a with
  | none => rw [e] at h; exact h.elim
  | some o => cases o <;> rw [e] at h <;> exact h
end L3
namespace L2
open PySem PySem.Spec PyProof.Rows
set_option maxHeartbeats 4000000
noncomputable def Itrs (lo st : Int) (n : Nat) : It := ⟨fun i _ => i < n, fun i H x H' => H' = H ∧ x = .int (lo + i * st), fun i _ => n ≤ i⟩
theorem turn_rangeS {P : Program} {w : World} {K : PySem.W.Frag} {tg : Expr} (it : Addr) (lo c : Int) (n : Nat) : Turn P w K tg (Itrs lo c n) [it] it (fun i h => IsRangeIter h it (lo + (i : Nat) * c) ((n : Int) - (i : Nat)) c) where
 mem := by simp
 obj := fun i h st b hb => by
  have e : b = it := by simpa using hb
  subst e
  exact ⟨_, st, fun v z => by
   have z' : Data.fields _ = Data.cell v := z
   cases z'⟩
 keep := fun i h h' st k => k it (by simp) _ st
 item := by
  intro X hP hw hK hc i pins s σ H E I hf st hg
  subst hP hw hK
  obtain ⟨f0, f1, f2, f3, f4, f5⟩ := hf it (by simp)
  have W := Walks.range (prog := X.prog) (w := X.w) (I.ok.hd hc) it lo c n
  refine W.item i s _ _ hg st fun v h' tk hv st' kk => ?_
  obtain ⟨t, rfl⟩ := hv
  have I1 : Inv X pins σ H { s with heap := h', toks := tk } := I.turned (fun b o hb e => kk b o (by simpa using hb) e) f0 f1 f3 f4 f5
  exact ⟨_, rfl, go_of (s := { s with heap := h', toks := tk }) (n := "range_iterator") st' rfl rfl (by decide) ⟨.int (lo + i * c), H, I1, ⟨t, rfl⟩, ⟨rfl, rfl⟩, st', fun b hb => (hf b hb).1⟩⟩
 done := by
  intro X hP hw hK hc i pins s σ H E I hf st hg
  subst hP hw hK
  obtain ⟨f0, f1, f2, f3, f4, f5⟩ := hf it (by simp)
  exact wpAny_pyNext_range_end (I.ok.hd hc) st (by have : n ≤ i := hg; omega) fun h' eb => ⟨rfl, I.turned (t' := s.toks) (fun b o hb e => eb b o hb e) f0 f1 f3 f4 f5⟩
 self := fun _ _ _ _ _ st h => wpAny_pyIter_rangeiter st h
section
variable {X : Cx} {tg : Expr}
theorem rsize {lo hi c : Int} (hc : 0 < c) : Builtin.Range.rangeSize lo hi c = (((if lo < hi then (hi - lo - 1) / c + 1 else 0 : Int).toNat : Nat) : Int) := by
 unfold Builtin.Range.rangeSize
 rw [if_pos hc]
 split
 ·rw [Int.toNat_of_nonneg]
  have := Int.ediv_nonneg (show 0 ≤ hi - lo - 1 by omega) (Int.le_of_lt hc)
  omega
 ·rfl
theorem small_step {a b c : Int} (hc : 0 < c) (hc2 : c < 2 ^ 40) (ha : -(2 ^ 40) ≤ a) (ha' : a < 2 ^ 40) (hb : -(2 ^ 40) ≤ b) (hb' : b < 2 ^ 40) : Builtin.Range.small a b c = true := by
 have h := rsize (lo := a) (hi := b) hc
 have hs : Builtin.Range.rangeSize a b c ≤ 2 ^ 42 := by
  unfold Builtin.Range.rangeSize
  rw [if_pos hc]
  split
  ·have : (b - a - 1) / c ≤ b - a - 1 := Int.ediv_le_self _ (by omega)
   omega
  ·decide
 have fits : ∀ x : Int, -(2 ^ 42) ≤ x → x ≤ 2 ^ 42 → Builtin.Range.rangeFitsLong x = true := by
  intro x h1 h2
  unfold Builtin.Range.rangeFitsLong
  simp; omega
 unfold Builtin.Range.small
 rw [fits a (by omega) (by omega), fits b (by omega) (by omega), fits c (by omega) (by omega), fits _ (by omega) hs, if_pos hc, fits (b + (c - 1)) (by omega) (by omega)]
 simp
theorem range_itS {pins : List (Addr × Obj)} {σ : St} {H : Hp} {s : Shared} {R : It → Hp → Prop} {E : Value → Shared → Prop} {lo hi c : Int} {t u v : Tok} {tk : Nat} (I : Inv X pins σ H s) (hc : 0 < c) (hc2 : c < 2 ^ 40) (h1 : -(2 ^ 40) ≤ lo) (h2 : lo < 2 ^ 40) (h3 : -(2 ^ 40) ≤ hi) (h4 : hi < 2 ^ 40)
  (q : R (Itrs lo c (if lo < hi then (hi - lo - 1) / c + 1 else 0 : Int).toNat) H) : wpAny (model X.prog X.w) X.A (pyIter (.ref s.heap.objs.size)) (PIE X pins σ tg R) E { s with heap := s.heap.push { cls := .type "range", data := .fields #[.int lo t, .int hi u, .int c v] }, toks := tk } := by
 refine wpAny_pyIter_range (IsRange.new ..) (small_step hc hc2 h1 h2 h3 h4) ?_
 have I1 : Inv X pins σ H { s with heap := s.heap.push { cls := .type "range", data := .fields #[.int lo t, .int hi u, .int c v] }, toks := tk } := I.kept fun b o e => Heap.get?_push_of_some _ e
 refine ⟨(s.heap.push { cls := .type "range", data := .fields #[.int lo t, .int hi u, .int c v] }).objs.size, [(s.heap.push { cls := .type "range", data := .fields #[.int lo t, .int hi u, .int c v] }).objs.size], _, _, H, rfl,
  I1.kept (t' := tk) fun b o e => Heap.get?_push_of_some _ e, turn_rangeS _ lo c _, ?_, fun b hb => ?_, q⟩
 ·have e1 : lo + ((0 : Nat) : Int) * c = lo := by simp
  have e2 := rsize (lo := lo) (hi := hi) hc
  show IsRangeIter _ _ (lo + ((0 : Nat) : Int) * c) ((((if lo < hi then (hi - lo - 1) / c + 1 else 0 : Int).toNat : Nat) : Int) - ((0 : Nat) : Int)) c
  rw [e1, ← e2, show (Builtin.Range.rangeSize lo hi c - ((0 : Nat) : Int)) = Builtin.Range.rangeSize lo hi c by simp]
  exact Heap.get?_push_size _ rfl
 ·have e : b = (s.heap.push { cls := .type "range", data := .fields #[.int lo t, .int hi u, .int c v] }).objs.size := by simpa using hb
  subst e
  exact I1.fpOk (Nat.le_refl _) (I1.hok.fresh (Nat.le_refl _))
def iRng3 (ta : TA) : TI := fun σ H R => ta σ H fun vs H1 => ∃ i j c : Int, vs = [.int i, .int j, .int c] ∧ (0 < c ∧ c < 2 ^ 40 ∧ -(2 ^ 40) ≤ i ∧ i < 2 ^ 40 ∧ -(2 ^ 40) ≤ j ∧ j < 2 ^ 40) ∧ R (Itrs i c (if i < j then (j - i - 1) / c + 1 else 0 : Int).toNat) H1
theorem pi_range3 {a b d : Expr} {ta : TA} {p pos : Pos} (hg : Gl X "range") (hm : X.mg "range" = none) (ha : PA X [a, b, d] ta) (hs : starEach [a, b, d] X.env = (false, eval a X.env) :: starEach [b, d] X.env := by rfl) (hs2 : (backTo pos (starEach [b, d] X.env)).any (·.1) = false := by rfl) :
  PI X tg (.Call (.Name "range" p) [a, b, d] [] pos) (iRng3 ta) := by
 intro pins s σ H R I h
 refine Call_ (ld_blt I hg hm boot_range (PyProof.Rows.callWith_type1 (thn (ha pos pins s σ H _ I h) fun us s1 ⟨vs, H1, I1, r1, q1⟩ => ?_) hs hs2))
 obtain ⟨i, j, c, e, ⟨c0, c1, q1, q2, q3, q4⟩, q⟩ := q1
 subst e
 cases r1 with
 | cons r rr =>
  cases rr with
  | cons r' rr =>
   cases rr with
   | cons r'' rr =>
    cases rr
    obtain ⟨t, rfl⟩ := r
    obtain ⟨t', rfl⟩ := r'
    obtain ⟨t'', rfl⟩ := r''
    exact call_range_3 (by omega) (range_itS I1 c0 c1 q1 q2 q3 q4 q) (.inl (PyProof.noPylong_of_log2 (Nat.lt_trans ((Nat.log2_lt (by omega)).mpr (show c.natAbs < 2 ^ 50 by omega)) (by decide))))
end
section
variable {prog : Program} {w : World} {A : Around} {E : Value → Shared → Prop} {s : Shared}
theorem typeCall_enumS (a b : Value) : checkTypeCall "enumerate" ⟨[a], [("start", b)]⟩ = pure () := by kernel_rfl
theorem newCall_enumS (a b : Value) : checkBuiltinCall "enumerate.__new__" ⟨[.type "enumerate", a], [("start", b)]⟩ = pure () := by kernel_rfl
theorem args_initS (a b c : Value) : argsOk "object.__init__" ⟨[a, b], [("start", c)]⟩ := by
 unfold argsOk; rw [signature?_of (id := "object.__init__") (n := ['_', '_', 't', 'i', 'n', 'i', '_', '_']) (o := ['t', 'c', 'e', 'j', 'b', 'o']) (by kernel_rfl) PySem.F.owner_object]; kernel_rfl
theorem callType_meetsK {T newId initId : String} {Bn Bi : Builtin} {args : List Value} {kw : List (Str × Value)} {S : PySem.Spec} {Q Q₁ : Value → Shared → Prop} (ft : TypeCalled T newId initId)
  (hct : checkTypeCall T ⟨args, kw⟩ = pure ()) (hcn : checkBuiltinCall newId ⟨.type T :: args, kw⟩ = pure ())
  (entryN : entryFor table newId = some Bn) (entryI : entryFor table initId = some Bi) (g : Meets (Bn ⟨.type T :: args, kw⟩) S)
  (h : S A.in1 (wants Q₁ E) s)
  (hnext : ∀ obj s₁, Q₁ obj s₁ → s₁.TypeIs obj T ∧ argsOk initId ⟨obj :: args, kw⟩ ∧ ∃ Si, Meets (Bi ⟨obj :: args, kw⟩) Si ∧ Si A.in1 (wants (fun r s₂ => r = .none ∧ Q obj s₂) E) s₁) :
  wpAny (model prog w) A (call (.type T) args kw) Q E s := by
 obtain ⟨c, tl, hmro⟩ := ft.mro
 have hmade := ft.made
 have hsub := ft.sub
 refine wpAny_call (codeAny_of_tree ?_)
 show wpAny _ _ (callAny (.type T) _) _ _ _
 refine wpAny_pure ⟨Code.quiet_builtin _ (by decide +kernel), codeAny_builtin PySem.F.entry_type_call ?_⟩
 rw [Around.under_plain (weight_type_call_type T args kw) (units_type_call_type T args kw)]
 have h1 := ft.notType
 have h2 := ft.canCreate
 repeat (any_goals (first | assumption | wp_step))
 refine codeAny_mono (codeAny_call_builtin ft.plain entryN (wpAny_of_eq hcn (g prog w A.in1 _ s h))) fun r s₁ hr => ?_
 cases r with
 | error e => exact hr
 | ok fl =>
  cases fl with
  | ret obj =>
   obtain ⟨hT, hok, Si, gi, hsi⟩ := hnext _ _ hr
   have hli := ft.init.lookup
   have hbi := ft.init.bind obj
   repeat (any_goals (first | assumption | wp_step))
   refine codeAny_mono (codeAny_call_builtin ft.init.plain entryI (ft.init.check _ _ _ _ _ _ _ _ hT hok (gi prog w A.in1 _ s₁ hsi))) fun r₂ s₂ hr₂ => ?_
   cases r₂ with
   | error e => exact hr₂
   | ok fl₂ =>
    cases fl₂ with
    | ret r =>
     obtain ⟨rfl, hq⟩ := hr₂
     repeat (any_goals (first | assumption | wp_step))
    | _ => exact hr₂.elim
  | _ => exact hr.elim
theorem object_initK {T newId : String} {self : Value} {rest : List Value} {kw : List (Str × Value)} (hl : typeLookup (.type T) "__init__" = pure (some (.builtin "object.__init__")))
  (hm : Bind.madeBy (.type T) = pure (some newId)) (hne : (some newId != some "object.__new__") = true) :
  Meets (Builtin.«object.__init__» ⟨self :: rest, kw⟩) (fun _ R s => s.TypeIs self T ∧ R (.ok (.ret .none)) s) := by
 refine Meets.of_wp fun prog w A R s hs => ?_
 obtain ⟨hT, hq⟩ := hs
 cases rest with
 | nil =>
  cases kw with
  | nil => exact wpAny_pure ⟨_, rfl, hq⟩
  | cons k kw =>
   repeat (any_goals (first | assumption | wp_step))
   exact ⟨_, rfl, hq⟩
 | cons a rest =>
  repeat (any_goals (first | assumption | wp_step))
  exact ⟨_, rfl, hq⟩
theorem meets_enumS (l : Addr) (items : Array Value) (n : Nat) (dct : Option Addr) (sl : Array (Option Value)) (tt : Tok) :
  Meets (Builtin.«enumerate.__new__» ⟨[.type "enumerate", .ref l], [("start", .int 1 tt)]⟩) (fun _ R s => s.heap.get? l = some { cls := .type "list", dict := dct, data := .seq items n, slots := sl } ∧
   R (.ok (.ret (.ref (s.heap.push { cls := .type "list_iterator", data := .fields #[.ref l, .int 0 0] }).objs.size)))
    { s with heap := (s.heap.push { cls := .type "list_iterator", data := .fields #[.ref l, .int 0 0] }).push { cls := .type "enumerate", data := .fields #[.none, .bool false, .ref s.heap.objs.size, rawInt 1, .none, .none] } }) :=
 .of_wp fun prog w A R s h => by
  obtain ⟨hp, g, d, tk, os⟩ := s; obtain ⟨hl, h⟩ := h
  have hsub := PySem.sub_enumerate
  have hL : Heap.IsList (Shared.heap ⟨hp, g, d, tk, os⟩) l items := ⟨_, hl, rfl, n, rfl⟩
  wp_walk using PySem.AutoSeq1.wpAny_loadPart' hl
  refine wpAny_stack_any fun st => wpAny_pure ?_
  split
  ·rename_i c _ _ _ _ _
   cases (c == Value.type "enumerate")
   ·wp_walk using PySem.AutoSeq1.wpAny_loadPart' hl, wpAny_pyIter_list hL
    exact ⟨_, rfl, h⟩
   ·wp_walk using PySem.AutoSeq1.wpAny_loadPart' hl, wpAny_pyIter_list hL
    exact ⟨_, rfl, h⟩
  ·wp_walk using PySem.AutoSeq1.wpAny_loadPart' hl, wpAny_pyIter_list hL
   exact ⟨_, rfl, h⟩
end
end L2
namespace L2
open PySem PySem.Spec PyProof.Rows
set_option maxHeartbeats 4000000
noncomputable def IteS (K : PySem.W.Frag) (a : Addr) : It :=
 ⟨fun i H => ∃ xs x, SqL K H a xs ∧ xs[i]? = some x, fun i H v H' => ∃ p x, v = .ref p ∧ H p = none ∧ H' = upd H p (.tup [.int ((i + 1 : Nat) : Int), x]) ∧ ∀ xs, SqL K H a xs → xs[i]? = some x, fun i H => ∃ xs, SqL K H a xs ∧ xs.length ≤ i⟩
theorem enum_end {prog : Program} {w : World} {A : Around} {E : Value → Shared → Prop} {s : Shared} {e it l : Addr} {m : Int} {i : Nat} {items : Array Value} {old : Value} {Q : Option Value → Shared → Prop} (hh : A.handled = none)
  (he : IsEnum s.heap e it m old) (hit : s.heap.IsListIter it l i) (hl : s.heap.IsList l items) (hx : items[i]? = none)
  (hQ : ∀ h', Heap.ExtBut it s.heap h' → Q none { s with heap := h' }) : wpAny (model prog w) A (pyNext (.ref e)) Q E s := by
 have hT : s.TypeIs (.ref e) "enumerate" := ⟨_, he, rfl⟩
 unfold pyNext
 refine wpAny_bind (wpAny_attempt (wpAny_callSpecial?_slot (name := Str.ofString "__next__") hT PySem.F.slot_enumerate_next
  (wpAny_call_entry PySem.F.slot_enumerate_next hT PySem.F.entry_enumerate_next ?_ (PySem.F.args_enumerate_next_1 _))))
 show wpAny _ _ (field (.ref e) 2 >>= _) _ _ _
 refine wpAny_bind (wpAny_field he rfl (x := .ref it) rfl (wpAny_bind (wpAny_nextOf_list_end hh hit hl hx fun h' x he' hx' => ?_)))
 obtain ⟨o, ho, hc⟩ := hx'
 exact wpAny_bind (wpAny_isInstance (T := "StopIteration") (b := true) ⟨o, ho, hc⟩ isSubtype_stop (wpAny_pure (hQ _ he')))
theorem dshift {prog : Program} {w : World} {A : Around} {it : Addr} {fp : List Addr} {n : Nat} {P : Nat → Value → Prop} {St : Nat → Heap → Prop} (D : Draws prog w A it fp n P St) : Draws prog w A it fp (n + 1) (fun j x => ∃ i, j = i + 1 ∧ P i x) (fun j h => ∃ i, j = i + 1 ∧ St i h) where
 live := fun j h ⟨i, _, z⟩ => D.live i h z
 frame := fun j h h' ⟨i, e, z⟩ k => ⟨i, e, D.frame i h h' z k⟩
 item := fun j s Q E hj ⟨i, e, z⟩ k => D.item i s Q E (by omega) z fun x h' tk p st sb => k x h' tk ⟨i, e, p⟩ ⟨i + 1, by omega, st⟩ sb
 done := fun s Q E ⟨i, e, z⟩ k => by
  obtain rfl : n = i := by omega
  exact D.done s Q E z k
theorem turn_enumS {P : Program} {w : World} {K : PySem.W.Frag} {elts : List Expr} {x1} {pos : Pos} (a e it : Addr) (hne : e ≠ it) : Turn P w K (.Tuple elts x1 pos) (IteS K a) [e, it] e (fun i h => (∃ old, IsEnum h e it ((i + 1 : Nat) : Int) old) ∧ h.IsListIter it a i) where
 mem := by simp
 obj := fun i h st b hb => by
  obtain ⟨⟨old, st1⟩, st2⟩ := st
  rcases List.mem_cons.mp hb with q | q
  ·subst q
   exact ⟨_, st1, fun v z => by
    have z' : Data.fields _ = Data.cell v := z
    cases z'⟩
  ·have q : b = it := by simpa using q
   subst q
   obtain ⟨o, e, c, d⟩ := st2
   exact ⟨o, e, fun v z => by rw [d] at z; cases z⟩
 keep := fun i h h' st k => ⟨st.1.elim fun old q => ⟨old, k e (by simp) _ q⟩, st.2.at fun o q => k it (by simp) o q⟩
 item := by
  intro X hP hw hK hc i pins s σ H E I hf st hg
  subst hP hw hK
  obtain ⟨⟨old, st1⟩, st2⟩ := st
  obtain ⟨xs, x, hq, hx⟩ := hg
  obtain ⟨its, rv, p, hz⟩ := I.list hq
  obtain ⟨u, hu, ru⟩ := rv.get hx
  have hel : e < s.heap.objs.size := Heap.lt_size st1
  have hn : H s.heap.objs.size = none := I.hok.fresh (Nat.le_refl _)
  have hla : a ≠ it := fun z => by
   subst z
   obtain ⟨o1, z1, z2, _⟩ := st2
   obtain ⟨o2, z3, z4, _⟩ := p.isList
   rw [z1] at z3; cases z3; rw [z2] at z4; exact absurd (Value.type.inj z4) (by decide)
  have hea : e ≠ a := fun z => by
   subst z
   obtain ⟨o2, z3, z4, _⟩ := p.isList
   rw [st1] at z3; cases z3; exact absurd (Value.type.inj z4) (by decide)
  have D := dshift (Draws.list (prog := X.prog) (w := X.w) (A := X.A.in1) (I.ok.hd hc) it a hla its.toArray)
  have hil : i < its.toArray.size := by
   have := (List.getElem?_eq_some_iff.mp hu).1
   simpa using this
  refine wpAny_pyNext_enum_itemD D st1 ⟨i, rfl, st2, p.isList⟩ (by omega) hne (by simp; exact ⟨hne, hea⟩) fun x' h1 tk hx1 ho hst ht1 hz1 hk1 => ?_
  obtain ⟨i1, ei1, hx1⟩ := hx1
  obtain rfl : i = i1 := by omega
  obtain rfl : x' = u := by
   have hx2 : its.toArray[i]? = some x' := hx1
   rw [List.getElem?_toArray, hu] at hx2
   exact (Option.some.inj hx2).symm
  obtain ⟨i2, ei2, hit1, _⟩ := hst
  obtain rfl : i + 1 = i2 := by omega
  refine ⟨_, rfl, wpAny_letOwnedTupleGo_enum ho fun h2 he2 hs2 => ?_⟩
  replace hs2 : Heap.SameBut e h1 h2 := hs2
  have hk2 : ∀ b o, b ≠ e → b ≠ it → s.heap.get? b = some o → h2.get? b = some o := fun b o h1' h2' q => (hs2.2 b h1').trans (hk1 b o h1' h2' q)
  have ht2 := (hs2.2 s.heap.objs.size (Nat.ne_of_gt hel)).trans ht1
  refine ⟨.ref s.heap.objs.size, upd H s.heap.objs.size (.tup [.int ((i + 1 : Nat) : Int), x]), I.turnedT (t' := tk + 1) hk2 hf ?_, rfl, ⟨_, x, rfl, hn, rfl, fun ys hy => by rw [I.list_inj hy hq]; exact hx⟩, ⟨⟨_, by simpa using he2⟩, ?_⟩, fun b hb => ?_⟩
  ·exact ⟨show 2 ≤ sizeLine by decide, [.int ((i + 1 : Nat) : Int) tk, _], .cons ⟨tk, rfl⟩ (.cons ru .nil), ⟨_, ht2, rfl, ⟨_, rfl⟩, rfl⟩⟩
  ·exact hit1.at fun o q => (hs2.2 it (Ne.symm hne)).trans q
  ·rw [upd_ne ?_]; exact (hf b hb).1
   intro z
   rcases List.mem_cons.mp hb with q | q
   ·exact Nat.ne_of_lt hel (q ▸ z)
   ·have q : b = it := by simpa using q
    obtain ⟨o, y, _⟩ := st2
    exact Nat.ne_of_lt (Heap.lt_size y) (q ▸ z)
 done := by
  intro X hP hw hK hc i pins s σ H E I hf st hg
  subst hP hw hK
  obtain ⟨⟨old, st1⟩, st2⟩ := st
  obtain ⟨xs, hq, hx⟩ := hg
  obtain ⟨its, rv, p, hz⟩ := I.list hq
  obtain ⟨f0, f1, f2, f3, f4, f5⟩ := hf it (by simp)
  have hl := rv.length
  exact enum_end (I.ok.hd hc) st1 st2 p.isList (by simp; omega) fun h' eb => ⟨rfl, I.turned (t' := s.toks) (fun b o hb q => eb b o hb q) f0 f1 f3 f4 f5⟩
 self := fun _ _ _ _ _ st h => st.1.elim fun _ q => wpAny_pyIter_enum q h
section
variable {prog : Program} {w : World} {A : Around} {E : Value → Shared → Prop} {s : Shared}
theorem call_enumS {l : Addr} {items : Array Value} {tt : Tok} {Q : Value → Shared → Prop} (hL : s.heap.IsList l items)
  (h : ∀ h', IsEnum h' (s.heap.objs.size + 1) s.heap.objs.size 1 .none → h'.IsListIter s.heap.objs.size l 0 → h'.objs.size = s.heap.objs.size + 2 →
   (∀ b o, s.heap.get? b = some o → h'.get? b = some o) → Q (.ref (s.heap.objs.size + 1)) { s with heap := h' }) :
  wpAny (model prog w) A (call (.type "enumerate") [.ref l] [("start", .int 1 tt)]) Q E s := by
 obtain ⟨⟨c, dct, dt, sl⟩, hl, hc, n, hd⟩ := hL
 replace hc : c = .type "list" := hc
 replace hd : dt = .seq items n := hd
 subst hc hd
 have hz : (s.heap.push { cls := .type "list_iterator", data := .fields #[.ref l, .int 0 0] }).objs.size = s.heap.objs.size + 1 := Heap.size_push ..
 have he : IsEnum ((s.heap.push { cls := .type "list_iterator", data := .fields #[.ref l, .int 0 0] }).push
   { cls := .type "enumerate", data := .fields #[.none, .bool false, .ref s.heap.objs.size, rawInt 1, .none, .none] }) (s.heap.objs.size + 1) s.heap.objs.size 1 .none := by
  have := Heap.get?_push_size (s.heap.push { cls := .type "list_iterator", data := .fields #[.ref l, .int 0 0] })
   (o := { cls := .type "enumerate", data := .fields #[.none, .bool false, .ref s.heap.objs.size, rawInt 1, .none, .none] }) rfl
  rw [hz] at this; exact this
 refine callType_meetsK (Q₁ := fun obj s₁ => s₁.TypeIs obj "enumerate" ∧ Q obj s₁) PySem.F.called_enumerate (typeCall_enumS _ _) (newCall_enumS _ _) PySem.F.entry_enumerate_new PySem.F.entry_object_init (meets_enumS l items n dct sl tt) ⟨hl, ?_⟩ fun obj s₁ hq => ⟨hq.1, args_initS _ _ _, _, object_initK PySem.F.called_enumerate.init.lookup PySem.F.called_enumerate.made (by decide), hq.1, rfl, hq.2⟩
 show _ ∧ _
 rw [hz]
 exact ⟨⟨_, he, rfl⟩, h _ he ⟨_, Heap.get?_push_of_some _ (Heap.get?_push_size _ rfl), rfl, rfl⟩ (by rw [Heap.size_push, hz]) fun b o x => Heap.get?_push_of_some _ (Heap.get?_push_of_some _ x)⟩
end
section
variable {M : Model} {A : Around} {E : Value → Shared → Prop} {s : Shared} {env : Env}
theorem callWith_typeK {pos : Pos} {T : String} {e : Expr} {rest : List Expr} {kws : List Keyword} {Q : Value → Shared → Prop}
  (h : wpAny M A (spliced (backTo pos (starEach (e :: rest) env))) (fun vs s₁ => wpAny M A (evalAll ((backToKw pos (keywordEach kws env)).map (·.2)))
   (fun kvs s₂ => wpAny M A (call (.type T) vs (((backToKw pos (keywordEach kws env)).filterMap (·.1)).zip kvs)) Q E s₂) E s₁) E s)
  (he : backTo pos (starEach (e :: rest) env) = (false, eval e env) :: backTo pos (starEach rest env))
  (hplain : (backTo pos (starEach (e :: rest) env)).any (·.1) = false)
  (hall : (backToKw pos (keywordEach kws env)).all (·.1.isSome) = true)
  (hkw : (backToKw pos (keywordEach kws env)).any (·.1.isNone) = false) :
  wpAny M A (callWith pos (.type T) [] (backTo pos (starEach (e :: rest) env)) (backToKw pos (keywordEach kws env))) Q E s := by
 unfold callWith
 rw [he] at h hplain ⊢
 refine wpAny_bind (wpAny_holding (wpAny_mono (evalArgs_kwB (Q := fun a s₁ => wpAny M A (call (.type T) ([] ++ a.pos) a.kw) Q E s₁) hall h) (fun a s₁ h₁ => wpAny_bind (wpAny_standAt ?_)) fun _ _ x => x))
 simp only [hplain, hkw, Bool.or_false]
 refine wpAny_bind (wpAny_pure ?_)
 exact wpAny_bind (wpAny_mono h₁ (fun r s₂ hr => wpAny_bind (wpAny_holding (wpAny_point (wpAny_pure hr)))) fun _ _ x => x)
end
def iEnumS (K : PySem.W.Frag) (ta : TA) : TI := fun σ H R => ta σ H fun vs H1 => ∃ a, vs = [.ref a] ∧ (∃ xs, SqL K H1 a xs) ∧ R (IteS K a) H1
theorem pi_enumS {X : Cx} {elts : List Expr} {x1} {tpos : Pos} {a : Expr} {ta : TA} {p pos kp vp : Pos} {vk : Nat} (hg : Gl X "enumerate") (hm : X.mg "enumerate" = none) (ha : PA X [a] ta) (hs : starEach [a] X.env = [(false, eval a X.env)] := by rfl) :
  PI X (.Tuple elts x1 tpos) (.Call (.Name "enumerate" p) [a] [⟨some "start", .Constant (.int 1) vk vp, kp⟩] pos) (iEnumS X.K ta) := by
 intro pins s σ H R I h
 refine wpAny_bind (ld_blt I hg hm boot_enum (callWith_typeK (thn (ha pos pins s σ H _ I h) fun us s1 ⟨vs, H1, I1, r1, q1⟩ => ?_) (by rw [hs]; rfl) (by rw [hs]; rfl) rfl rfl))
 obtain ⟨l, e, ⟨xs, hq⟩, q⟩ := q1
 subst e
 cases r1 with
 | cons r rr =>
  cases rr
  cases r
  refine kws_cons ?_
  refine wpAny_Constant_int (kws_nil ?_)
  obtain ⟨its, rv, pl, hz⟩ := I1.list hq
  refine call_enumS (s := { s1 with toks := s1.toks + 1 }) pl.isList fun h' he hit hsz hk => ?_
  refine wpAny_pyIter_enum he ?_
  have I2 : Inv X pins σ H1 { s1 with heap := h', toks := s1.toks + 1 } := I1.kept (t' := s1.toks + 1) hk
  refine ⟨s1.heap.objs.size + 1, [s1.heap.objs.size + 1, s1.heap.objs.size], _, _, H1, rfl, I2, turn_enumS l _ _ (Nat.succ_ne_self _), ⟨⟨.none, he⟩, hit⟩, fun b hb => ?_, q⟩
  have hb : s1.heap.objs.size ≤ b := by
   rcases List.mem_cons.mp hb with z | z
   ·rw [z]; exact Nat.le_succ _
   ·have e : b = s1.heap.objs.size := by simpa using z
    rw [e]; exact Nat.le_refl _
  exact I1.fpOk hb (I1.hok.fresh hb)
end L2
namespace L3
open PySem PySem.Spec PyProof.Rows L2
set_option maxHeartbeats 4000000
theorem itrel_enumS {K : PySem.W.Frag} {H0 : Hp} {a : Addr} {ds : List D} : ItRel K H0 ⟨enD 1 ds, fun G => seqOf (G a) = some ds⟩ (IteS K a) where
 go := fun i G H l c ok hi => by
  obtain ⟨xs, s, r⟩ := sql_of c ok
  rw [enD_length] at hi
  exact ⟨xs, xs[i]'(by rw [← r.length]; exact hi), s, List.getElem?_eq_getElem _⟩
 stop := fun i G H l c ok hi => by
  obtain ⟨xs, s, r⟩ := sql_of c ok
  rw [enD_length] at hi
  exact ⟨xs, s, by rw [← r.length]; exact hi⟩
 yld := fun i G H x H' l c ok hi y => by
  obtain ⟨p, v, rfl, hp, rfl, y⟩ := y
  obtain ⟨xs, s, r⟩ := sql_of c ok
  obtain ⟨d, hd, rd⟩ := r.at_ (y xs s)
  refine ⟨c.side hp, Le.fresh hp, .tup [.int ((i + 1 : Nat) : Int), d], by rw [enD_get hd, Nat.add_comm], ?_⟩
  rw [RelD]
  exact ⟨p, _, rfl, SqT.of upd_same, .cons RelD.intI (.cons (RelD.le (Le.fresh hp) rd) .nil)⟩
def wEnumS (t : TA3) : TI3 := fun σ G r => t σ G fun ds G1 => match ds with
 | [.ref a] => (match seqOf (G1 a) with | some ds => r ⟨enD 1 ds, fun G => seqOf (G a) = some ds⟩ G1 | none => False)
 | _ => False
theorem low_wEnumS {K : PySem.W.Frag} {t : TA3} {σ : L2.St} {H : Hp} {R : It → Hp → Prop} (h : lowI K (wEnumS t) σ H R) : iEnumS K (lowA K t) σ H R := by
 obtain ⟨σd, G, q, rs, c, t, f⟩ := h
 refine ⟨σd, G, _, rs, c, t, fun ds G1 vs H1 r1 c1 l1 t1 => ?_⟩
 split at t1
 ·rename_i a
  split at t1
  ·rename_i ds e
   obtain ⟨v, rfl, rv⟩ := r1.one
   cases rv.ref_inv
   obtain ⟨xs, s1, q1⟩ := sql_of c1 e
   exact ⟨a, rfl, ⟨xs, s1⟩, f _ _ _ _ itrel_enumS c1 l1 t1⟩
  ·exact t1.elim
 ·exact t1.elim
theorem i_enumS {X : Cx} {elts : List Expr} {x1} {tpos : Pos} {a : Expr} {ts : TA3} {p pos kp vp : Pos} {vk : Nat} (hg : Gl X "enumerate") (hm : X.mg "enumerate" = none) (ha : A3 X [a] ts) (hs : starEach [a] X.env = [(false, eval a X.env)] := by rfl) :
  I3 X (.Tuple elts x1 tpos) (.Call (.Name "enumerate" p) [a] [⟨some "start", .Constant (.int 1) vk vp, kp⟩] pos) (wEnumS ts) := weakI (pi_enumS hg hm ha hs) fun _ _ _ => low_wEnumS
noncomputable def rngS (lo c : Int) (n : Nat) : List D := (List.range n).map fun (i : Nat) => D.int (lo + (i : Int) * c)
theorem itrel_rngS {K : PySem.W.Frag} {H0 : Hp} {lo c : Int} {n : Nat} : ItRel K H0 ⟨rngS lo c n, fun _ => True⟩ (Itrs lo c n) where
 go := fun i G H l c _ hi => by
  have hi : i < (rngS lo _ n).length := hi
  show i < n
  simpa [rngS] using hi
 stop := fun i G H l c _ hi => by
  have hi : (rngS lo _ n).length ≤ i := hi
  show n ≤ i
  simpa [rngS] using hi
 yld := fun i G H v H' l c _ hi y => by
  obtain ⟨rfl, rfl⟩ := y
  refine ⟨c, Le.refl _, .int (lo + i * _), ?_, RelD.intI⟩
  have hi : i < (rngS lo _ n).length := hi
  have hi : i < n := by simpa [rngS] using hi
  show (rngS lo _ n)[i]? = _
  unfold rngS
  rw [List.getElem?_map, List.getElem?_range hi]; rfl
def wRng3 (ta : TA3) : TI3 := fun σ G r => ta σ G fun ds G1 => match ds with | [.int i, .int j, .int c] => (0 < c ∧ c < 2 ^ 40 ∧ -(2 ^ 40) ≤ i ∧ i < 2 ^ 40 ∧ -(2 ^ 40) ≤ j ∧ j < 2 ^ 40) ∧ r ⟨rngS i c (if i < j then (j - i - 1) / c + 1 else 0 : Int).toNat, fun _ => True⟩ G1 | _ => False
theorem low_wRng3 {K : PySem.W.Frag} {σ : L2.St} {H : Hp} {ta : TA3} {R : It → Hp → Prop} (h : lowI K (wRng3 ta) σ H R) : iRng3 (lowA K ta) σ H R := by
 obtain ⟨σd, G, q, rs, c, t, f⟩ := h
 refine ⟨σd, G, _, rs, c, t, fun ds G1 vs H1 r1 c1 l1 t1 => ?_⟩
 split at t1
 ·rename_i i j c
  obtain ⟨x, r, rfl, rx, rr⟩ := r1.inv_cons
  obtain ⟨y, r', rfl, ry, rr2⟩ := rr.inv_cons
  obtain ⟨z, r'', rfl, rz, rr3⟩ := rr2.inv_cons
  rw [RelD] at rx ry rz
  subst rx ry rz
  rw [rr3.inv_nil]
  exact ⟨i, j, c, rfl, t1.1, f _ _ _ _ itrel_rngS c1 l1 t1.2⟩
 ·exact t1.elim
theorem i_rng3 {X : Cx} {a b d tg : Expr} {ts : TA3} {p pos : Pos} (hg : Gl X "range") (hm : X.mg "range" = none) (ha : A3 X [a, b, d] ts) (hs : starEach [a, b, d] X.env = (false, eval a X.env) :: starEach [b, d] X.env := by rfl) (hs2 : (backTo pos (starEach [b, d] X.env)).any (·.1) = false := by rfl) :
  I3 X tg (.Call (.Name "range" p) [a, b, d] [] pos) (wRng3 ts) := weakI (pi_range3 hg hm ha hs hs2) fun _ _ _ => low_wRng3
end L3
namespace Rw
open PySem PySem.Spec PyProof.Rows L2 L3
set_option maxHeartbeats 4000000
noncomputable def numI (k : Int) : Str := Str.ofString (toString k)
theorem numI_cps (k : Nat) : (numI (k : Int)).cps.toList = (Nat.toDigits 10 k).map Char.toNat := PySem.W.KIN.signs_num k
theorem dig_ok {k c : Nat} (h : c ∈ (numI (k : Int)).cps.toList) : 48 ≤ c ∧ c ≤ 57 := by
 rw [numI_cps] at h
 obtain ⟨d, hd, rfl⟩ := List.mem_map.mp h
 have := Nat.isDigit_of_mem_toDigits (by decide) (by decide) hd
 unfold Char.isDigit at this
 rw [Bool.and_eq_true, decide_eq_true_eq, decide_eq_true_eq, ge_iff_le, UInt32.le_iff_toNat_le, UInt32.le_iff_toNat_le] at this
 exact this
theorem head_ne : ∀ (n k : Nat), k ≤ n → 1 ≤ k → (Nat.toDigits 10 k).head? ≠ some '0'
 | 0, k, h, h1 => by omega
 | n + 1, k, h, h1 => by
  by_cases hk : k < 10
  ·rw [Nat.toDigits_of_lt_base hk]
   have : ∀ d : Nat, d < 10 → 1 ≤ d → [Nat.digitChar d].head? ≠ some '0' := by decide
   exact this k hk h1
  ·rw [Nat.toDigits_of_base_le (by decide) (by omega), List.head?_append]
   have ih := head_ne n (k / 10) (by omega) (by omega)
   cases e : (Nat.toDigits 10 (k / 10)).head? with
   | none => rw [List.head?_eq_none_iff] at e; exact absurd e Nat.toDigits_ne_nil
   | some c => rw [e] at ih; exact ih
theorem numI_len (k : Nat) : (numI (k : Int)).length = (Nat.toDigits 10 k).length := by rw [str_len, numI_cps, List.length_map]
theorem num_pos (k : Nat) : 1 ≤ (numI (k : Int)).length := by rw [numI_len]; exact Nat.length_toDigits_pos
theorem num_le {k m : Nat} (h : k ≤ m) : (numI (k : Int)).length ≤ (numI (m : Int)).length := by
 rw [numI_len, numI_len]
 rw [Nat.length_toDigits_le_iff (by decide) Nat.length_toDigits_pos]
 have := (Nat.length_toDigits_le_iff (b := 10) (n := m) (k := (Nat.toDigits 10 m).length) (by decide) Nat.length_toDigits_pos).mp (Nat.le_refl _)
 omega
theorem big_len : (numI 9999999999).length = 10 := by decide +kernel
theorem num_10 {k : Nat} (h : k ≤ 9999999999) : (numI (k : Int)).length ≤ 10 := by
 have := num_le h
 rw [show ((9999999999 : Nat) : Int) = 9999999999 from rfl, big_len] at this
 exact this
theorem numI_cons (k : Nat) : ∃ c r, (numI (k : Int)).cps.toList = c :: r ∧ (c = 48 → (numI (k : Int)).length = 1) := by
 by_cases h0 : k = 0
 ·subst h0
  exact ⟨48, [], by decide +kernel, fun _ => by decide +kernel⟩
 ·have h := head_ne k k (Nat.le_refl _) (by omega)
  rw [numI_cps]
  cases e : Nat.toDigits 10 k with
  | nil => exact absurd e Nat.toDigits_ne_nil
  | cons c r =>
   rw [e] at h
   refine ⟨c.toNat, r.map Char.toNat, rfl, fun z => absurd ?_ h⟩
   have : c = '0' := Char.ext (UInt32.toNat_inj.mp z)
   rw [this]; rfl
theorem numI_int {k : Nat} (h : k ≤ 9999999999) : intText? (numI (k : Int)) = some (k : Int) := by
 have e : (10 : Int) ^ 10 = 10000000000 := by decide
 exact PySem.W.KIN.num_reads (by omega) (by rw [e]; omega)
theorem logI {k : Int} (h0 : 0 ≤ k) (h : k ≤ 9999999999) : k.natAbs.log2 < 1920 := by
 by_cases z : k.natAbs = 0
 ·rw [z]; decide
 ·exact Nat.lt_trans ((Nat.log2_lt z).mpr (show k.natAbs < 2 ^ 40 by omega)) (by decide)
noncomputable def bw (k : Nat) : Str := "b" ++ numI (k : Int)
theorem bw_cps (k : Nat) : (bw k).cps.toList = 98 :: (numI (k : Int)).cps.toList := by
 show (("b" : Str) ++ numI (k : Int)).cps.toList = _
 rw [cps_app]; rfl
theorem bw_len (k : Nat) : (bw k).length = (numI (k : Int)).length + 1 := by rw [str_len, bw_cps, List.length_cons, ← str_len]
noncomputable def opS : Opd → Str
 | .num n => numI n
 | .box y => bw y
noncomputable def csS (cs : List (Nat × Nat)) : List Str := cs.flatMap fun c => [bw c.1, numI (c.2 : Int)]
noncomputable def rwS : Row → List Str
 | .add x o => ["add", numI (x : Int), opS o]
 | .take x o => ["take", numI (x : Int), opS o]
 | .turn x i cs => "turn" :: numI (x : Int) :: numI (i : Int) :: csS cs
 | .swap x y => ["swap", numI (x : Int), numI (y : Int)]
 | .go x n k => ["go", numI (x : Int), numI n, numI (k : Int)]
 | .come x n k => ["come", numI (x : Int), numI n, numI (k : Int)]
def opK : Opd → Prop
 | .num n => 0 ≤ n ∧ n < 4294967296
 | .box y => y ≤ 9999999999
def rK : Row → Prop
 | .add x o => x ≤ 9999999999 ∧ opK o
 | .take x o => x ≤ 9999999999 ∧ opK o
 | .turn x i cs => x ≤ 9999999999 ∧ i < 32 ∧ cs.length ≤ 2 ∧ ∀ c ∈ cs, c.1 ≤ 9999999999 ∧ c.2 < 32
 | .swap x y => x ≤ 9999999999 ∧ y ≤ 9999999999
 | .go x n k => x ≤ 9999999999 ∧ (0 ≤ n ∧ n < 4294967296) ∧ k ≤ 9999999999
 | .come x n k => x ≤ 9999999999 ∧ (0 ≤ n ∧ n < 4294967296) ∧ k ≤ 9999999999
def wd (x : Str) : Prop := x.length ≤ 11 ∧ ∀ c ∈ x.cps.toList, 33 ≤ c
theorem wd_num {k : Nat} (h : k ≤ 9999999999) : wd (numI (k : Int)) := ⟨by have := num_10 h; omega, fun c hc => by have := dig_ok hc; omega⟩
theorem wd_bw {k : Nat} (h : k ≤ 9999999999) : wd (bw k) := ⟨by rw [bw_len]; have := num_10 h; omega, fun c hc => by
 rw [bw_cps] at hc
 rcases List.mem_cons.mp hc with e | e
 ·omega
 ·have := dig_ok e; omega⟩
theorem nat_of {n : Int} (h : 0 ≤ n) : ∃ k : Nat, n = (k : Int) := ⟨n.toNat, by omega⟩
theorem wd_int {n : Int} (h : 0 ≤ n ∧ n < 4294967296) : wd (numI n) := by
 obtain ⟨k, rfl⟩ := nat_of h.1
 exact wd_num (by omega)
theorem wd_op {o : Opd} (h : opK o) : wd (opS o) := by
 cases o with
 | num n => exact wd_int h
 | box y => exact wd_bw h
theorem csS_len (cs : List (Nat × Nat)) : (csS cs).length = 2 * cs.length := by
 induction cs with
 | nil => rfl
 | cons c cs ih => show ((csS cs).length + 1) + 1 = 2 * (cs.length + 1); omega
theorem wd_cs {cs : List (Nat × Nat)} (h : ∀ c ∈ cs, c.1 ≤ 9999999999 ∧ c.2 < 32) : ∀ x ∈ csS cs, wd x := fun x hx => by
 obtain ⟨c, hc, hx⟩ := List.mem_flatMap.mp hx
 have := h c hc
 rcases List.mem_cons.mp hx with e | e
 ·rw [e]; exact wd_bw this.1
 ·rw [List.mem_singleton.mp e]; exact wd_num (by omega)
theorem wd_lit : wd "add" ∧ wd "take" ∧ wd "turn" ∧ wd "swap" ∧ wd "go" ∧ wd "come" ∧ wd "size" := by
 have : ∀ x : Str, (decide (x.length ≤ 11) && x.cps.toList.all (fun c => decide (33 ≤ c))) = true → wd x := fun x h => by
  rw [Bool.and_eq_true, decide_eq_true_eq, List.all_eq_true] at h
  exact ⟨h.1, fun c hc => of_decide_eq_true (h.2 c hc)⟩
 exact ⟨this _ (by decide), this _ (by decide), this _ (by decide), this _ (by decide), this _ (by decide), this _ (by decide), this _ (by decide)⟩
theorem rw_wd {r : Row} (h : rK r) : ∀ x ∈ rwS r, wd x := by
 have L := wd_lit
 have c3 : ∀ {a b c : Str}, wd a → wd b → wd c → ∀ x ∈ [a, b, c], wd x := fun ha hb hc x hx => by
  rcases List.mem_cons.mp hx with e | hx
  ·rw [e]; exact ha
  rcases List.mem_cons.mp hx with e | hx
  ·rw [e]; exact hb
  rw [List.mem_singleton.mp hx]; exact hc
 have c4 : ∀ {a b c d : Str}, wd a → wd b → wd c → wd d → ∀ x ∈ [a, b, c, d], wd x := fun ha hb hc hd x hx => by
  rcases List.mem_cons.mp hx with e | hx
  ·rw [e]; exact ha
  exact c3 hb hc hd x hx
 cases r with
 | add x o => exact c3 L.1 (wd_num h.1) (wd_op h.2)
 | take x o => exact c3 L.2.1 (wd_num h.1) (wd_op h.2)
 | turn x i cs =>
  intro y hy
  have hi : i ≤ 9999999999 := by have := h.2.1; omega
  rcases List.mem_cons.mp hy with e | hy
  ·rw [e]; exact L.2.2.1
  rcases List.mem_cons.mp hy with e | hy
  ·rw [e]; exact wd_num h.1
  rcases List.mem_cons.mp hy with e | hy
  ·rw [e]; exact wd_num hi
  exact wd_cs h.2.2.2 y hy
 | swap x y => exact c3 L.2.2.2.1 (wd_num h.1) (wd_num h.2)
 | go x n k => exact c4 L.2.2.2.2.1 (wd_num h.1) (wd_int h.2.1) (wd_num h.2.2)
 | come x n k => exact c4 L.2.2.2.2.2.1 (wd_num h.1) (wd_int h.2.1) (wd_num h.2.2)
theorem rw_len {r : Row} (h : rK r) : (rwS r).length ≤ 7 := by
 cases r with
 | turn x i cs =>
  show (csS cs).length + 1 + 1 + 1 ≤ 7
  rw [csS_len]; have := h.2.2.1; omega
 | add => exact (by decide : 3 ≤ 7)
 | take => exact (by decide : 3 ≤ 7)
 | swap => exact (by decide : 3 ≤ 7)
 | go => exact (by decide : 4 ≤ 7)
 | come => exact (by decide : 4 ≤ 7)
theorem rw_ne (r : Row) : rwS r ≠ [] := by cases r <;> exact List.cons_ne_nil _ _
theorem mk_sp : (" " : Str) = ⟨#[32]⟩ := by decide
theorem mk_nl : ("\n" : Str) = ⟨#[10]⟩ := by decide
theorem split_jc {c : Nat} {sep : Str} (hs : sep = ⟨#[c]⟩) {ws : List Str} (h0 : ws ≠ []) (h : ∀ w ∈ ws, c ∉ w.cps.toList) : Txt.split (jn sep ws) sep = ws := by
 have e : jn sep ws = Str.join sep ws := StrLaws.glued_eq_join _ _
 subst hs
 refine join_same (c := c) (split_ne _ _) h0 (StrLaws.split_free _ c) h ?_
 rw [StrLaws.join_split, e]
theorem jn_mem {c s : Nat} : ∀ {ws : List Str}, s ∈ (Str.join ⟨#[c]⟩ ws).cps.toList → s = c ∨ ∃ w ∈ ws, s ∈ w.cps.toList
 | [], h => by
  have : s ∈ ([] : List Nat) := h
  cases this
 | [w], h => .inr ⟨w, List.mem_singleton.mpr rfl, h⟩
 | w :: v :: r, h => by
  rw [join_cps] at h
  rcases List.mem_append.mp h with h | h
  ·exact .inr ⟨w, List.mem_cons_self, h⟩
  rcases List.mem_cons.mp h with h | h
  ·exact .inl h
  rcases jn_mem (ws := v :: r) h with h | ⟨u, hu, h⟩
  ·exact .inl h
  ·exact .inr ⟨u, List.mem_cons_of_mem _ hu, h⟩
theorem jn_len1 {sep : Str} (hs : sep.length = 1) (ws : List Str) : (jn sep ws).length = (ws.map (·.length)).sum + (ws.length - 1) := by
 show (Builtin.Str.glued sep ws).length = _
 rw [size_glued sep ws, hs, Nat.mul_one]
theorem sum_leB {B : Nat} {ws : List Str} (h : ∀ w ∈ ws, w.length ≤ B) : (ws.map (·.length)).sum ≤ B * ws.length := by
 induction ws with
 | nil => simp
 | cons w ws ih =>
  rw [List.map_cons, List.sum_cons, List.length_cons]
  have := h w List.mem_cons_self
  have := ih fun x hx => h x (List.mem_cons_of_mem _ hx)
  rw [Nat.mul_succ]; omega
theorem fold_len1 {sep : Str} (hs : sep.length = 1) (ws : List Str) : ∀ a : Nat, ws.foldl (· + ·.length + sep.length) a = a + (ws.map (·.length)).sum + ws.length := by
 induction ws with
 | nil => intro a; simp
 | cons w ws ih =>
  intro a
  rw [List.foldl_cons, ih, List.map_cons, List.sum_cons, List.length_cons, hs]
  omega
theorem jn_fitsB {sep : Str} (hs : sep.length = 1) {B N : Nat} {ws : List Str} (h : ∀ w ∈ ws, w.length ≤ B) (hl : ws.length ≤ N) (hz : B * N + N ≤ 4000000) : Builtin.Str.tooLong ((ws.toArray).foldl (· + ·.length + sep.length) 0) = false ∧ (jn sep ws).length ≤ sizeLine := by
 have s := sum_leB h
 have z : (4000000 : Nat) ≤ sizeLine := by decide
 have m : B * ws.length ≤ B * N := Nat.mul_le_mul_left _ hl
 refine ⟨?_, ?_⟩
 ·rw [List.foldl_toArray, fold_len1 hs]
  unfold Builtin.Str.tooLong
  exact decide_eq_false (by omega)
 ·rw [jn_len1 hs]; omega
noncomputable def lnS (r : Row) : Str := jn " " (rwS r)
noncomputable def szS (sz : Nat) : Str := jn " " ["size", numI (sz : Int)]
noncomputable def cdS (sz : Nat) (rs : List Row) : Str := jn "\n" (szS sz :: rs.map lnS)
theorem sp1 : (" " : Str).length = 1 := by decide
theorem nl1 : ("\n" : Str).length = 1 := by decide
theorem jw_free {ws : List Str} (h : ∀ x ∈ ws, wd x) : 10 ∉ (jn " " ws).cps.toList := fun hh => by
 have e : jn " " ws = Str.join " " ws := StrLaws.glued_eq_join _ _
 rw [e, mk_sp] at hh
 rcases jn_mem hh with z | ⟨w, hw, z⟩
 ·omega
 ·have := (h w hw).2 _ z; omega
theorem jw_len {ws : List Str} (h : ∀ x ∈ ws, wd x) (hl : ws.length ≤ 7) : (jn " " ws).length ≤ 90 := by
 rw [jn_len1 sp1]
 have := sum_leB (B := 11) fun w hw => (h w hw).1
 omega
theorem sz_wd {sz : Nat} (h : sz ≤ 9999999999) : ∀ x ∈ (["size", numI (sz : Int)] : List Str), wd x := fun x hx => by
 rcases List.mem_cons.mp hx with e | e
 ·rw [e]; exact wd_lit.2.2.2.2.2.2
 ·rw [List.mem_singleton.mp e]; exact wd_num h
theorem ln_free {r : Row} (h : rK r) : 10 ∉ (lnS r).cps.toList := jw_free (rw_wd h)
theorem ln_len {r : Row} (h : rK r) : (lnS r).length ≤ 90 := jw_len (rw_wd h) (rw_len h)
theorem ln_split {r : Row} (h : rK r) : Txt.split (lnS r) " " = rwS r := split_jc mk_sp (rw_ne r) fun w hw z => by have := (rw_wd h w hw).2 _ z; omega
theorem sz_split {sz : Nat} (h : sz ≤ 9999999999) : Txt.split (szS sz) " " = (["size", numI (sz : Int)] : List Str) := split_jc mk_sp (List.cons_ne_nil _ _) fun w hw z => by have := (sz_wd h w hw).2 _ z; omega
theorem sz_len {sz : Nat} (h : sz ≤ 9999999999) : (szS sz).length ≤ 90 := jw_len (sz_wd h) (by exact (by decide : 2 ≤ 7))
theorem cd_lines {sz : Nat} {rs : List Row} (h : sz ≤ 9999999999) (hr : ∀ r ∈ rs, rK r) : ∀ x ∈ szS sz :: rs.map lnS, 10 ∉ x.cps.toList ∧ x.length ≤ 90 := fun x hx => by
 rcases List.mem_cons.mp hx with e | e
 ·rw [e]; exact ⟨jw_free (sz_wd h), sz_len h⟩
 ·obtain ⟨r, h1, rfl⟩ := List.mem_map.mp e
  exact ⟨ln_free (hr r h1), ln_len (hr r h1)⟩
theorem cd_split {sz : Nat} {rs : List Row} (h : sz ≤ 9999999999) (hr : ∀ r ∈ rs, rK r) : Txt.split (cdS sz rs) "\n" = szS sz :: rs.map lnS := split_jc mk_nl (List.cons_ne_nil _ _) fun w hw => (cd_lines h hr w hw).1
theorem cd_fits {sz : Nat} {rs : List Row} (h : sz ≤ 9999999999) (hr : ∀ r ∈ rs, rK r) (hl : rs.length ≤ 4000) : Builtin.Str.tooLong (((szS sz :: rs.map lnS).toArray).foldl (· + ·.length + ("\n" : Str).length) 0) = false ∧ (cdS sz rs).length ≤ sizeLine :=
 jn_fitsB nl1 (B := 90) (N := 4001) (fun w hw => (cd_lines h hr w hw).2) (by simp; omega) (by decide)
theorem bw_tail (k : Nat) (h : k ≤ 9999999999) : Txt.slice (bw k) (some 1) none = numI (k : Int) := by
 have hl := bw_len k
 have hp := num_pos k
 rw [slice_from_eq (b := ((bw k).length : Int)) (by decide) (by omega) rfl]
 apply str_ext
 show List.take _ (List.drop (1 : Int).toNat (bw k).cps.toList) = _
 rw [bw_cps]
 show List.take _ (numI (k : Int)).cps.toList = _
 apply List.take_of_length_le
 rw [← str_len]
 omega
end Rw
namespace L2
open PySem PySem.Spec PyProof.Rows
section
variable {X : Cx}
theorem mt_starts : MtR X "str.startswith" (fun x vs H Q => ∃ s t : Str, x = .str s ∧ vs = [.str t] ∧ Q (.bl (Txt.startswith s t)) H) := by
 intro pins s σ H x vs v us Q I rx rv h
 obtain ⟨y, z, rfl, rfl, q⟩ := h
 obtain ⟨t, rfl⟩ := rx
 obtain ⟨u, rfl, ru⟩ := rv.one
 obtain ⟨t', rfl⟩ := ru
 exact call_gives PySem.F.slot_str_startswith (typeIs_str _ _ _) PySem.F.entry_str_startswith (PySem.F.args_str_startswith_2 _ _) (gives_str_startswith y z t t') ⟨.bl _, H, I, rfl, q⟩
theorem op_inNT {k : Nat} (hr : Room k X.A) : OpR X (compareOp .In) (fun x y H Q => ∃ p xs, x = .non ∧ y = .ref p ∧ SqL X.K H p xs ∧ (∀ z ∈ xs, ∃ a ys, z = .ref a ∧ SqT X.K H a ys) ∧ Q (.bl false) H) := by
 intro pins s σ H x y v u Q I rx ry h
 obtain ⟨p, xs, rfl, rfl, hq, ht, q⟩ := h
 cases rx
 cases ry
 obtain ⟨its, r, pl, hz⟩ := I.list hq
 have hu := hr.units
 refine SeqAt.in_listAt (fun _ => false) pl.isList (fun w hw => ?_) ⟨.bl false, H, I, ?_, q⟩
 ·have hw : w ∈ its := by simpa using hw
  obtain ⟨z, hz, rz⟩ : ∃ z ∈ xs, RelV z w := by
   obtain ⟨i, hi⟩ := List.getElem?_of_mem hw
   have hl := r.length
   have hil := (List.getElem?_eq_some_iff.mp hi).1
   have hx : xs[i]? = some (xs[i]'(by omega)) := List.getElem?_eq_getElem _
   obtain ⟨u, h1, h2⟩ := r.get hx
   rw [hi] at h1
   cases h1
   exact ⟨_, List.getElem_mem _, h2⟩
  obtain ⟨a, ys, rfl, sq⟩ := ht z hz
  cases rz
  obtain ⟨its2, _, tp, _⟩ := I.tuple sq
  exact SeqAt.EqAt.tuple_none tp (by show X.A.units + 1 < cLine; omega)
 ·show Value.bool _ = Value.bool false
  simp
end
end L2
namespace L3
open PySem PySem.Spec PyProof.Rows L2
section
variable {X : Cx} {o e : Expr} {es : List Expr} {to : TE3} {ts : TA3} {apos cpos : Pos}
@[reducible] def mStarts : M3 := fun x ds G q => ∃ s t : Str, x = .str s ∧ ds = [.str t] ∧ q (.bl (Txt.startswith s t)) G
theorem e_startswith (ho : E3 X o to) (ha : A3 X (e :: es) ts) (hbase : attributeBase o "startswith" X.env (eval o X.env) = eval o X.env := by rfl)
  (hfew : ((backTo cpos (starEach (e :: es) X.env)).all (fun x => !x.1) && (backToKw cpos (keywordEach [] X.env)).all (fun x => x.1.isSome)
   && decide ((e :: es).length + ([] : List Keyword).length + (if ([] : List Keyword).isEmpty then 0 else 1) < 30)) = true := by rfl)
  (hline : (apos.endLine == cpos.line) = true := by rfl) (hs : starEach (e :: es) X.env = (false, eval e X.env) :: starEach es X.env := by rfl) (hplain : (backTo cpos (starEach es X.env)).any (·.1) = false := by rfl) :
  E3 X (.Call (.Attribute o "startswith" apos) (e :: es) [] cpos) (dBM "str" mStarts to ts) :=
 weakE (pe_bm PySem.F.plainAttrs_str PySem.F.slot_str_startswith PySem.F.type_str_startswith (weakMt (r' := lowM X.K mStarts) mt_starts <| by
  rintro x xs H Q ⟨d, ds, G, q, r1, r2, c, ⟨s, t, rfl, rfl, tt⟩, f⟩
  obtain ⟨u, rfl, ru⟩ := r2.one
  cases ru.str_inv
  exact ⟨s, t, r1.str_inv, rfl, f _ _ _ _ RelD.blI c (Le.refl H) tt⟩) ho ha hbase hfew hline hs hplain) fun _ _ _ => low_bm (ty_str _)
@[reducible] def xInNT : R3 := fun x y G q => ∃ (a : Addr) (ds : List D), x = .non ∧ y = .ref a ∧ seqOf (G a) = some ds ∧ (∀ d ∈ ds, ∃ es, d = .tup es) ∧ q (.bl false) G
theorem x_inNT {k : Nat} (hr : Room k X.A) : Op3 X (compareOp .In) xInNT := weakOp (op_inNT hr) fun x y H Q ⟨d, e, G, q, r1, r2, c, t, f⟩ => by
 obtain ⟨a, ds, rfl, rfl, es, hd, t⟩ := t
 obtain ⟨vs, s1, q1⟩ := sql_of c es
 refine ⟨a, vs, r1.non_inv, r2.ref_inv, s1, fun z hz => ?_, f _ _ _ _ RelD.blI c (Le.refl H) t⟩
 obtain ⟨i, hi⟩ := List.getElem?_of_mem hz
 obtain ⟨d, h1, h2⟩ := q1.at_ hi
 obtain ⟨es', rfl⟩ := hd d (List.mem_of_getElem? h1)
 obtain ⟨a', xs, rfl, s2, _⟩ := h2.tup_inv
 exact ⟨a', xs, rfl, s2⟩
end
end L3
namespace L2
open PySem PySem.Spec PyProof.Rows
theorem call_divmodL {X : Cx} : CallR X (.builtin "divmod") (fun xs H Q => ∃ i j, xs = [.int i, .int j] ∧ L3.CDivL i j ∧ ∀ p, H p = none → Q (.ref p) (upd H p (.tup [.int (i / j), .int (i % j)]))) := by
 intro pins s σ H xs us Q I r h
 obtain ⟨i, j, rfl, ⟨h1, h2⟩, q⟩ := h
 obtain ⟨u, w', rfl, ⟨t, rfl⟩, ⟨t', rfl⟩⟩ := vals2 r
 refine divmod_int (by omega) ?_ (.inl (PyProof.noPylong_of_log2 (Nat.lt_trans ((Nat.log2_lt (by omega)).mpr (show j.natAbs < 2 ^ 64 by omega)) (by decide))))
 rw [Int.fdiv_eq_ediv_of_nonneg i (by omega), Int.fmod_eq_emod_of_nonneg i (by omega)]
 have hn : H s.heap.objs.size = none := I.hok.fresh (Nat.le_refl _)
 refine ⟨.ref s.heap.objs.size, _, ?_, rfl, q _ hn⟩
 refine I.laid (fun b o e => Heap.get?_push_of_some _ e) (Nat.le_refl _) ⟨by simp only [List.length_cons, List.length_nil]; rw [sizeLine_eq]; decide, [.int (i / j) s.toks, .int (i % j) (s.toks + 1)], .cons ⟨_, rfl⟩ (.cons ⟨_, rfl⟩ .nil), ?_⟩
 exact ⟨_, Heap.get?_push_size s.heap rfl, rfl, ⟨0, rfl⟩, rfl⟩
end L2
namespace L3
open PySem PySem.Spec PyProof.Rows L2
def xDivmodL : C3 := fun ds G q => match ds with | [.int i, .int j] => CDivL i j ∧ q (.tup [.int (i / j), .int (i % j)]) G | _ => False
theorem x_divmodL {X : Cx} : Call3 X (.builtin "divmod") xDivmodL := weakCall call_divmodL <| by
 rintro xs H Q ⟨ds, G, q, r, c, t, f⟩
 unfold xDivmodL at t
 split at t
 ·obtain ⟨v, u, rfl, r1, r2⟩ := r.two
  cases r1.int_inv
  cases r2.int_inv
  refine ⟨_, _, rfl, t.1, fun p hp => f (.tup _) G (.ref p) _ ?_ (c.side hp) (Le.fresh hp) t.2⟩
  rw [RelD]
  exact ⟨p, _, rfl, SqT.of upd_same, .cons RelD.intI (.cons RelD.intI .nil)⟩
 ·exact t.elim
end L3
namespace Law
open PySem L2 L3
set_option maxHeartbeats 4000000
noncomputable def top (i : Nat) : Stmt := PySem.Challenge.pw_nolitter_k53_codes_as_texts.main.body.getD i (.Pass ⟨0, 0, 0, 0⟩)
noncomputable abbrev s_number_in : Stmt := top 7
noncomputable abbrev s_show_code : Stmt := top 10
noncomputable abbrev s_words_of : Stmt := top 11
noncomputable abbrev s_operand_word : Stmt := top 12
noncomputable abbrev s_box_word : Stmt := top 13
noncomputable abbrev s_read_code : Stmt := top 14
noncomputable abbrev s_read_size : Stmt := top 15
noncomputable abbrev s_read_row : Stmt := top 16
noncomputable abbrev s_read_numbers : Stmt := top 17
noncomputable abbrev s_read_change : Stmt := top 18
noncomputable abbrev s_read_operand : Stmt := top 19
noncomputable abbrev s_read_box : Stmt := top 20
noncomputable abbrev s_read_turn : Stmt := top 21
noncomputable abbrev s_read_cond : Stmt := top 22
noncomputable abbrev s_law_draw : Stmt := top 24
noncomputable abbrev s_law_number : Stmt := top 25
noncomputable abbrev s_law_other : Stmt := top 26
noncomputable abbrev s_law_plain_row : Stmt := top 27
noncomputable abbrev s_law_bit : Stmt := top 28
noncomputable abbrev s_law_code : Stmt := top 29
noncomputable abbrev s_law_row_text : Stmt := top 31
noncomputable abbrev s_law_lines : Stmt := top 32
noncomputable abbrev s_law_kinds : Stmt := top 33
noncomputable abbrev s_law_any : Stmt := top 34
noncomputable abbrev s_law_changed : Stmt := top 35
noncomputable abbrev s_law_both_ways : Stmt := top 36
noncomputable abbrev s_law : Stmt := top 37
theorem sc_number_in : FnScope ["word", "most", "number"] ["word", "most"] (defScope s_number_in) := ⟨rfl, rfl, rfl, by decide +kernel, rfl, by decide +kernel, by decide +kernel⟩
theorem sc_show_code : FnScope ["code", "lines"] ["code"] (defScope s_show_code) := ⟨rfl, rfl, rfl, by decide +kernel, rfl, by decide +kernel, by decide +kernel⟩
theorem sc_words_of : FnScope ["row", "words", "cond"] ["row"] (defScope s_words_of) := ⟨rfl, rfl, rfl, by decide +kernel, rfl, by decide +kernel, by decide +kernel⟩
theorem sc_operand_word : FnScope ["operand"] ["operand"] (defScope s_operand_word) := ⟨rfl, rfl, rfl, by decide +kernel, rfl, by decide +kernel, by decide +kernel⟩
theorem sc_box_word : FnScope ["box"] ["box"] (defScope s_box_word) := ⟨rfl, rfl, rfl, by decide +kernel, rfl, by decide +kernel, by decide +kernel⟩
theorem sc_read_code : FnScope ["text", "lines", "size", "rows", "at", "line", "row"] ["text"] (defScope s_read_code) := ⟨rfl, rfl, rfl, by decide +kernel, rfl, by decide +kernel, by decide +kernel⟩
theorem sc_read_size : FnScope ["words"] ["words"] (defScope s_read_size) := ⟨rfl, rfl, rfl, by decide +kernel, rfl, by decide +kernel, by decide +kernel⟩
theorem sc_read_row : FnScope ["words"] ["words"] (defScope s_read_row) := ⟨rfl, rfl, rfl, by decide +kernel, rfl, by decide +kernel, by decide +kernel⟩
theorem sc_read_numbers : FnScope ["words", "mosts", "numbers"] ["words", "mosts"] (defScope s_read_numbers) := ⟨rfl, rfl, rfl, by decide +kernel, rfl, by decide +kernel, by decide +kernel⟩
theorem sc_read_change : FnScope ["words", "box", "operand"] ["words"] (defScope s_read_change) := ⟨rfl, rfl, rfl, by decide +kernel, rfl, by decide +kernel, by decide +kernel⟩
theorem sc_read_operand : FnScope ["word", "box", "number"] ["word"] (defScope s_read_operand) := ⟨rfl, rfl, rfl, by decide +kernel, rfl, by decide +kernel, by decide +kernel⟩
theorem sc_read_box : FnScope ["word"] ["word"] (defScope s_read_box) := ⟨rfl, rfl, rfl, by decide +kernel, rfl, by decide +kernel, by decide +kernel⟩
theorem sc_read_turn : FnScope ["words", "head", "conds"] ["words"] (defScope s_read_turn) := ⟨rfl, rfl, rfl, by decide +kernel, rfl, by decide +kernel, by decide +kernel⟩
theorem sc_read_cond : FnScope ["box_text", "bit_text", "box", "bit"] ["box_text", "bit_text"] (defScope s_read_cond) := ⟨rfl, rfl, rfl, by decide +kernel, rfl, by decide +kernel, by decide +kernel⟩
theorem sc_law_draw : FnScope ["_law_state", "_law_many", "_law_script", "_law_k", "_law_rest", "_law_cell", "_law_number_here", "_law_digit"] ["_law_state", "_law_many"] (defScope s_law_draw) := ⟨rfl, rfl, rfl, by decide +kernel, rfl, by decide +kernel, by decide +kernel⟩
theorem sc_law_number : FnScope ["_law_state", "_law_sort"] ["_law_state"] (defScope s_law_number) := ⟨rfl, rfl, rfl, by decide +kernel, rfl, by decide +kernel, by decide +kernel⟩
theorem sc_law_other : FnScope ["_law_state", "_law_size", "_law_x", "_law_y"] ["_law_state", "_law_size", "_law_x"] (defScope s_law_other) := ⟨rfl, rfl, rfl, by decide +kernel, rfl, by decide +kernel, by decide +kernel⟩
theorem sc_law_plain_row : FnScope ["_law_state", "_law_size", "_law_x", "_law_sort", "_law_found", "_law_turn", "_law_operand"] ["_law_state", "_law_size"] (defScope s_law_plain_row) := ⟨rfl, rfl, rfl, by decide +kernel, rfl, by decide +kernel, by decide +kernel⟩
theorem sc_law_bit : FnScope ["_law_state"] ["_law_state"] (defScope s_law_bit) := ⟨rfl, rfl, rfl, by decide +kernel, rfl, by decide +kernel, by decide +kernel⟩
theorem sc_law_code : FnScope ["_law_state", "_law_size", "_law_many", "_law_jumps", "_law_rows", "_law_at", "_law_free", "_law_k", "_law_x", "_law_n", "_law_turn"] ["_law_state", "_law_size", "_law_many", "_law_jumps"] (defScope s_law_code) := ⟨rfl, rfl, rfl, by decide +kernel, rfl, by decide +kernel, by decide +kernel⟩
theorem sc_law_row_text : FnScope ["_law_row", "_law_words", "_law_y", "_law_j"] ["_law_row"] (defScope s_law_row_text) := ⟨rfl, rfl, rfl, by decide +kernel, rfl, by decide +kernel, by decide +kernel⟩
theorem sc_law_lines : FnScope ["_law_code_here"] ["_law_code_here"] (defScope s_law_lines) := ⟨rfl, rfl, rfl, by decide +kernel, rfl, by decide +kernel, by decide +kernel⟩
theorem sc_law_kinds : FnScope ["_law_found", "_law_due"] ["_law_found", "_law_due"] (defScope s_law_kinds) := ⟨rfl, rfl, rfl, by decide +kernel, rfl, by decide +kernel, by decide +kernel⟩
theorem sc_law_any : FnScope ["_law_state", "_law_sort"] ["_law_state"] (defScope s_law_any) := ⟨rfl, rfl, rfl, by decide +kernel, rfl, by decide +kernel, by decide +kernel⟩
theorem sc_law_changed : FnScope ["_law_state", "_law_code_here", "_law_size", "_law_rows", "_law_at", "_law_row", "_law_sort", "_law_more"] ["_law_state", "_law_code_here"] (defScope s_law_changed) := ⟨rfl, rfl, rfl, by decide +kernel, rfl, by decide +kernel, by decide +kernel⟩
theorem sc_law_both_ways : FnScope ["_law_code_here", "_law_due", "_law_handed", "_law_text", "_law_found"] ["_law_code_here"] (defScope s_law_both_ways) := ⟨rfl, rfl, rfl, by decide +kernel, rfl, by decide +kernel, by decide +kernel⟩
theorem sc_law : FnScope ["_law_script", "_law_state", "_law_many", "_law_size", "_law_good", "_law_other_here", "_law_turn", "_law_sort", "_law_far", "_law_rows"] ["_law_script"] (defScope s_law) := ⟨rfl, rfl, rfl, by decide +kernel, rfl, by decide +kernel, by decide +kernel⟩
set_option genInjectivity false in
set_option genSizeOf false in
structure Txt (K : PySem.W.Frag) (mg : Str → Option Value) where
 f_number_in : FnAt K "number_in" "number_in" s_number_in ["word", "most"]
 g_number_in : mg "number_in" = some (.ref f_number_in.a)
 f_show_code : FnAt K "show_code" "show_code" s_show_code ["code"]
 g_show_code : mg "show_code" = some (.ref f_show_code.a)
 f_words_of : FnAt K "words_of" "words_of" s_words_of ["row"]
 g_words_of : mg "words_of" = some (.ref f_words_of.a)
 f_operand_word : FnAt K "operand_word" "operand_word" s_operand_word ["operand"]
 g_operand_word : mg "operand_word" = some (.ref f_operand_word.a)
 f_box_word : FnAt K "box_word" "box_word" s_box_word ["box"]
 g_box_word : mg "box_word" = some (.ref f_box_word.a)
 f_read_code : FnAt K "read_code" "read_code" s_read_code ["text"]
 g_read_code : mg "read_code" = some (.ref f_read_code.a)
 f_read_size : FnAt K "read_size" "read_size" s_read_size ["words"]
 g_read_size : mg "read_size" = some (.ref f_read_size.a)
 f_read_row : FnAt K "read_row" "read_row" s_read_row ["words"]
 g_read_row : mg "read_row" = some (.ref f_read_row.a)
 f_read_numbers : FnAt K "read_numbers" "read_numbers" s_read_numbers ["words", "mosts"]
 g_read_numbers : mg "read_numbers" = some (.ref f_read_numbers.a)
 f_read_change : FnAt K "read_change" "read_change" s_read_change ["words"]
 g_read_change : mg "read_change" = some (.ref f_read_change.a)
 f_read_operand : FnAt K "read_operand" "read_operand" s_read_operand ["word"]
 g_read_operand : mg "read_operand" = some (.ref f_read_operand.a)
 f_read_box : FnAt K "read_box" "read_box" s_read_box ["word"]
 g_read_box : mg "read_box" = some (.ref f_read_box.a)
 f_read_turn : FnAt K "read_turn" "read_turn" s_read_turn ["words"]
 g_read_turn : mg "read_turn" = some (.ref f_read_turn.a)
 f_read_cond : FnAt K "read_cond" "read_cond" s_read_cond ["box_text", "bit_text"]
 g_read_cond : mg "read_cond" = some (.ref f_read_cond.a)
 f_law_draw : FnAt K "_law_draw" "_law_draw" s_law_draw ["_law_state", "_law_many"]
 g_law_draw : mg "_law_draw" = some (.ref f_law_draw.a)
 f_law_number : FnAt K "_law_number" "_law_number" s_law_number ["_law_state"]
 g_law_number : mg "_law_number" = some (.ref f_law_number.a)
 f_law_other : FnAt K "_law_other" "_law_other" s_law_other ["_law_state", "_law_size", "_law_x"]
 g_law_other : mg "_law_other" = some (.ref f_law_other.a)
 f_law_plain_row : FnAt K "_law_plain_row" "_law_plain_row" s_law_plain_row ["_law_state", "_law_size"]
 g_law_plain_row : mg "_law_plain_row" = some (.ref f_law_plain_row.a)
 f_law_bit : FnAt K "_law_bit" "_law_bit" s_law_bit ["_law_state"]
 g_law_bit : mg "_law_bit" = some (.ref f_law_bit.a)
 f_law_code : FnAt K "_law_code" "_law_code" s_law_code ["_law_state", "_law_size", "_law_many", "_law_jumps"]
 g_law_code : mg "_law_code" = some (.ref f_law_code.a)
 f_law_row_text : FnAt K "_law_row_text" "_law_row_text" s_law_row_text ["_law_row"]
 g_law_row_text : mg "_law_row_text" = some (.ref f_law_row_text.a)
 f_law_lines : FnAt K "_law_lines" "_law_lines" s_law_lines ["_law_code_here"]
 g_law_lines : mg "_law_lines" = some (.ref f_law_lines.a)
 f_law_kinds : FnAt K "_law_kinds" "_law_kinds" s_law_kinds ["_law_found", "_law_due"]
 g_law_kinds : mg "_law_kinds" = some (.ref f_law_kinds.a)
 f_law_any : FnAt K "_law_any" "_law_any" s_law_any ["_law_state"]
 g_law_any : mg "_law_any" = some (.ref f_law_any.a)
 f_law_changed : FnAt K "_law_changed" "_law_changed" s_law_changed ["_law_state", "_law_code_here"]
 g_law_changed : mg "_law_changed" = some (.ref f_law_changed.a)
 f_law_both_ways : FnAt K "_law_both_ways" "_law_both_ways" s_law_both_ways ["_law_code_here"]
 g_law_both_ways : mg "_law_both_ways" = some (.ref f_law_both_ways.a)
 f_law : FnAt K "law" "law" s_law ["_law_script"]
 g_law : mg "law" = some (.ref f_law.a)
 k_NUMBERS : ∃ t, mg "NUMBERS" = some (.int 4294967296 t)
 k_BITS : ∃ t, mg "BITS" = some (.int 32 t)
 k_FIGURES : ∃ t, mg "FIGURES" = some (.str "0123456789" t)
 k_GREATEST : ∃ t, mg "GREATEST" = some (.int 9999999999 t)
 b_abs : mg "abs" = none
 b_all : mg "all" = none
 b_bool : mg "bool" = none
 b_divmod : mg "divmod" = none
 b_enumerate : mg "enumerate" = none
 b_int : mg "int" = none
 b_isinstance : mg "isinstance" = none
 b_len : mg "len" = none
 b_list : mg "list" = none
 b_range : mg "range" = none
 b_str : mg "str" = none
 b_tuple : mg "tuple" = none
 b_zip : mg "zip" = none
end Law
namespace Law
open PySem L2 L3 Rw
set_option maxHeartbeats 4000000
section
variable {P : Program} {w : World} {K : PySem.W.Frag} {mg : Str → Option Value} {base : Heap} (T : Txt K mg)
def S_law_number (_ : Txt K mg) : Sp3 := fun ds G R => ∃ (st : Addr), ds = [.ref st] ∧ StAt G st ∧ ∀ (v : Int) G', Adv st G G' → 0 ≤ v → v < 4294967296 → R (.int v) G'
def S_law_other (_ : Txt K mg) : Sp3 := fun ds G R => ∃ (st : Addr) (sz x : Nat), ds = [.ref st, .int (sz : Int), .int (x : Int)] ∧ StAt G st ∧ 2 ≤ sz ∧ sz ≤ 1000 ∧ x < sz ∧ ∀ (y : Nat) G', Adv st G G' → y < sz → y ≠ x → R (.int (y : Int)) G'
def S_law_bit (_ : Txt K mg) : Sp3 := fun ds G R => ∃ (st : Addr), ds = [.ref st] ∧ StAt G st ∧ ∀ (j : Nat) G', Adv st G G' → j < 32 → R (.int (j : Int)) G'
def S_law_plain_row (_ : Txt K mg) : Sp3 := fun ds G R => ∃ (st : Addr) (sz : Nat), ds = [.ref st, .int (sz : Int)] ∧ StAt G st ∧ 1 ≤ sz ∧ sz ≤ 1000 ∧ ∀ (row : Row) G', Adv st G G' → row.ok sz → row.plain = true → R row.d G'
def S_law_boxes (_ : Txt K mg) : Sp3 := fun ds G R => ∃ (st : Addr) (sz : Nat), ds = [.ref st, .int (sz : Int)] ∧ StAt G st ∧ sz ≤ 1000 ∧ ∀ (q : Addr) (bs : List Int) G', Adv st G G' → G q = none → G' q = some (.lst (bs.map .int)) → BsOk sz bs → R (.ref q) G'
def S_law_draw (_ : Txt K mg) : Sp3 := spec (fun ds G => ∃ (st : Addr) (m : Int), ds = [.ref st, .int m] ∧ StAt G st ∧ 0 < m ∧ m < 1099511627776)
 (fun ds G d G' => ∃ (st : Addr) (m v : Int), ds = [.ref st, .int m] ∧ Adv st G G' ∧ d = .int v ∧ 0 ≤ v ∧ v < m)
theorem draw_call2 {K : PySem.W.Frag} {mg : Str → Option Value} {T : Txt K mg} {G : Gp} {st : Addr} {m : Int} {q : DK} (h : StAt G st) (h0 : 0 < m) (h1 : m < 1099511627776) (k : ∀ (v : Int) (G' : Gp), Adv st G G' → 0 ≤ v → v < m → q (.int v) G') :
  ∃ R, S_law_draw T [.ref st, .int m] G R ∧ ∀ d G', R d G' → q d G' :=
 spec_call ⟨st, m, rfl, h, h0, h1⟩ fun d G' ⟨st', m', v, e, a, ed, v0, v1⟩ => by
  cases e; subst ed; exact k v G' a v0 v1
theorem draw_call {K : PySem.W.Frag} {mg : Str → Option Value} {T : Txt K mg} {G : Gp} {st : Addr} {m : Int} {q : DK} (h : StAt G st) (h0 : 0 < m) (h1 : m < 1073741824) (k : ∀ (v : Int) (G' : Gp), Adv st G G' → 0 ≤ v → v < m → q (.int v) G') :
  ∃ R, S_law_draw T [.ref st, .int m] G R ∧ ∀ d G', R d G' → q d G' :=
 spec_call ⟨st, m, rfl, h, h0, Int.lt_trans h1 (by decide)⟩ fun d G' ⟨st', m', v, e, a, ed, v0, v1⟩ => by
  cases e; subst ed; exact k v G' a v0 v1
def S_law_code (_ : Txt K mg) : Sp3 := fun ds G R => ∃ (st : Addr) (sz m : Nat) (jm : Int), ds = [.ref st, .int (sz : Int), .int (m : Int), .int jm] ∧ StAt G st ∧ 1 ≤ sz ∧ sz ≤ 1000 ∧ m ≤ 1000 ∧
 ∀ (ra : Addr) (rs : List Row) G', Adv st G G' → G ra = none → G' ra = some (.lst (rs.map Row.d)) → rs.length = m → (∀ r ∈ rs, r.ok sz) → Pairs rs → R (.tup [.int (sz : Int), .ref ra]) G'
def S_number_in (_ : Txt K mg) : Sp3 := fun ds G R => ∃ k m : Nat, ds = [.str (numI (k : Int)), .int (m : Int)] ∧ k ≤ m ∧ m ≤ 9999999999 ∧ ∀ G', Grow G G' → R (.int (k : Int)) G'
def S_box_word (_ : Txt K mg) : Sp3 := fun ds G R => ∃ k : Nat, ds = [.int (k : Int)] ∧ k ≤ 9999999999 ∧ R (.str (bw k)) G
def S_operand_word (_ : Txt K mg) : Sp3 := fun ds G R => ∃ o : Opd, ds = [o.d] ∧ opK o ∧ R (.str (opS o)) G
def S_words_of (_ : Txt K mg) : Sp3 := fun ds G R => ∃ r : Row, ds = [r.d] ∧ rK r ∧ ∀ (q : Addr) (G' : Gp), G q = none → G' q = some (.lst ((rwS r).map .str)) → Grow G G' → R (.ref q) G'
def S_show_code (_ : Txt K mg) : Sp3 := fun ds G R => ∃ (ra : Addr) (rs : List Row) (sz : Nat), ds = [.tup [.int (sz : Int), .ref ra]] ∧ G ra = some (.lst (rs.map Row.d)) ∧ (∀ r ∈ rs, rK r) ∧ sz ≤ 9999999999 ∧ rs.length ≤ 4000 ∧ ∀ G', Grow G G' → R (.str (cdS sz rs)) G'
def S_read_code (_ : Txt K mg) : Sp3 := fun ds G R => ∃ (rs : List Row) (sz : Nat), ds = [.str (cdS sz rs)] ∧ (∀ r ∈ rs, rK r) ∧ sz ≤ 9999999999 ∧ rs.length ≤ 4000 ∧ ∀ (q : Addr) (G' : Gp), G q = none → G' q = some (.lst (rs.map Row.d)) → Grow G G' → R (.tup [.int (sz : Int), .ref q]) G'
def S_read_size (_ : Txt K mg) : Sp3 := fun ds G R => ∃ (wa : Addr) (sz : Nat), ds = [.ref wa] ∧ G wa = some (.lst [.str "size", .str (numI (sz : Int))]) ∧ sz ≤ 9999999999 ∧ ∀ G', Grow G G' → R (.int (sz : Int)) G'
def S_read_row (_ : Txt K mg) : Sp3 := fun ds G R => ∃ (wa : Addr) (r : Row), ds = [.ref wa] ∧ G wa = some (.lst ((rwS r).map .str)) ∧ rK r ∧ ∀ G', Grow G G' → R r.d G'
def S_read_numbers (_ : Txt K mg) : Sp3 := fun ds G R => ∃ (wa ma : Addr) (w0 : Str) (ks : List (Nat × Nat)), ds = [.ref wa, .ref ma] ∧ G wa = some (.lst (.str w0 :: ks.map fun p => .str (numI (p.1 : Int)))) ∧ G ma = some (.lst (ks.map fun p => .int (p.2 : Int))) ∧ (∀ p ∈ ks, p.1 ≤ p.2 ∧ p.2 ≤ 9999999999) ∧ ks.length ≤ 3 ∧ ∀ G', Grow G G' → R (.tup (.str w0 :: ks.map fun p => .int (p.1 : Int))) G'
def S_read_change (_ : Txt K mg) : Sp3 := fun ds G R => ∃ (wa : Addr) (w0 : Str) (x : Nat) (o : Opd), ds = [.ref wa] ∧ G wa = some (.lst [.str w0, .str (numI (x : Int)), .str (opS o)]) ∧ x ≤ 9999999999 ∧ opK o ∧ ∀ G', Grow G G' → R (.tup [.str w0, .int (x : Int), o.d]) G'
def S_read_operand (_ : Txt K mg) : Sp3 := fun ds G R => ∃ o : Opd, ds = [.str (opS o)] ∧ opK o ∧ ∀ G', Grow G G' → R o.d G'
def S_read_box (_ : Txt K mg) : Sp3 := fun ds G R => ∃ x : Str, ds = [.str x] ∧ ((∃ k : Nat, x = bw k ∧ k ≤ 9999999999 ∧ ∀ G', Grow G G' → R (.int (k : Int)) G') ∨ ∃ k : Nat, x = numI (k : Int) ∧ R .non G)
def S_read_turn (_ : Txt K mg) : Sp3 := fun ds G R => ∃ (wa : Addr) (x i : Nat) (cs : List (Nat × Nat)), ds = [.ref wa] ∧ G wa = some (.lst ((rwS (.turn x i cs)).map .str)) ∧ rK (.turn x i cs) ∧ ∀ G', Grow G G' → R (Row.turn x i cs).d G'
def S_read_cond (_ : Txt K mg) : Sp3 := fun ds G R => ∃ c : Nat × Nat, ds = [.str (bw c.1), .str (numI (c.2 : Int))] ∧ c.1 ≤ 9999999999 ∧ c.2 < 32 ∧ ∀ G', Grow G G' → R (cd c) G'
def S_law_row_text (_ : Txt K mg) : Sp3 := fun ds G R => ∃ r : Row, ds = [r.d] ∧ rK r ∧ ∀ G', Grow G G' → R (.str (lnS r)) G'
def S_law_lines (_ : Txt K mg) : Sp3 := fun ds G R => ∃ (ra : Addr) (rs : List Row) (sz : Nat), ds = [.tup [.int (sz : Int), .ref ra]] ∧ G ra = some (.lst (rs.map Row.d)) ∧ (∀ r ∈ rs, rK r) ∧ sz ≤ 9999999999 ∧ rs.length ≤ 4000 ∧ ∀ (q : Addr) (G' : Gp), G q = none → G' q = some (.lst ((szS sz :: rs.map lnS).map .str)) → Grow G G' → R (.ref q) G'
def pureD : Nat → D → Prop
 | 0, _ => False
 | n + 1, d => (∃ i, d = .int i) ∨ (∃ s, d = .str s) ∨ ∃ ds, d = .tup ds ∧ ds.length ≤ 100 ∧ ∀ e ∈ ds, pureD n e
def KD (G : Gp) (x y : D) : Nat → Prop
 | 0 => False
 | n + 1 => (x = y ∧ pureD (n + 1) x) ∨ (∃ (a b : Addr) (ds : List D), x = .ref a ∧ y = .ref b ∧ G a = some (.lst ds) ∧ G b = some (.lst ds) ∧ ds.length ≤ 4001 ∧ ∀ d ∈ ds, pureD n d) ∨
  ∃ (i : Int) (a b : Addr) (ds : List D), x = .tup [.int i, .ref a] ∧ y = .tup [.int i, .ref b] ∧ G a = some (.lst ds) ∧ G b = some (.lst ds) ∧ ds.length ≤ 4001 ∧ ∃ m, n = m + 1 ∧ ∀ d ∈ ds, pureD m d
def S_law_kinds_r (_ : Txt K mg) (dp : Nat) : Sp3 := fun ds G R => ∃ x y, ds = [x, y] ∧ KD G x y dp ∧ ∀ G', Grow G G' → R (.bl true) G'
def S_law_kinds (T : Txt K mg) : Sp3 := S_law_kinds_r T 6
theorem z_law_kinds {n : Nat} : Ok P w mg base n T.f_law_kinds (S_law_kinds_r T 0) := ok_false fun ds G R ⟨_, _, _, h, _⟩ => h
def S_law_any (_ : Txt K mg) : Sp3 := fun ds G R => ∃ st : Addr, ds = [.ref st] ∧ StAt G st ∧ ∀ (v : Nat) (G' : Gp), Adv st G G' → v ≤ 9999999999 → R (.int (v : Int)) G'
def S_law_changed (_ : Txt K mg) : Sp3 := fun ds G R => ∃ (st ra : Addr) (rs : List Row) (sz : Nat), ds = [.ref st, .tup [.int (sz : Int), .ref ra]] ∧ StAt G st ∧ ra ≠ st ∧ G ra = some (.lst (rs.map Row.d)) ∧ (∀ r ∈ rs, rK r) ∧ sz ≤ 9999999999 ∧ rs.length ≤ 100 ∧ ∀ (q : Addr) (sz' : Nat) (rs' : List Row) (G' : Gp), Adv st G G' → q ≠ st → sz' ≤ 9999999999 → G' q = some (.lst (rs'.map Row.d)) → (∀ r ∈ rs', rK r) → rs'.length = rs.length → R (.tup [.int (sz' : Int), .ref q]) G'
def S_law_both_ways (_ : Txt K mg) : Sp3 := fun ds G R => ∃ (ra : Addr) (rs : List Row) (sz : Nat), ds = [.tup [.int (sz : Int), .ref ra]] ∧ G ra = some (.lst (rs.map Row.d)) ∧ (∀ r ∈ rs, rK r) ∧ sz ≤ 9999999999 ∧ rs.length ≤ 4000 ∧ ∀ G', Grow G G' → R (.bl true) G'
def S_law (_ : Txt K mg) : Sp3 := fun ds G R => ∃ (a : Addr) (ns : List Int), ds = [.ref a] ∧ G a = some (.fro (ns.map .int)) ∧ ns.length ≤ 63 ∧ ∀ G', R (.bl true) G'
theorem c_num {G : Gp} {k m : Nat} {q : DK} (h : k ≤ m) (hm : m ≤ 9999999999) (f : ∀ G', Grow G G' → q (.int (k : Int)) G') : ∃ R, S_number_in T [.str (numI (k : Int)), .int (m : Int)] G R ∧ ∀ d G', R d G' → q d G' :=
 call_nd (post := fun d G' => d = .int (k : Int) ∧ Grow G G') (fun R h' => ⟨k, m, rfl, h, hm, fun G' z => h' _ _ ⟨rfl, z⟩⟩) fun d G' ⟨e, z⟩ => by subst e; exact f G' z
theorem c_box {G : Gp} {k : Nat} {q : DK} (h : k ≤ 9999999999) (f : ∀ G', Grow G G' → q (.int (k : Int)) G') : ∃ R, S_read_box T [.str (bw k)] G R ∧ ∀ d G', R d G' → q d G' :=
 call_nd (post := fun d G' => d = .int (k : Int) ∧ Grow G G') (fun R h' => ⟨_, rfl, .inl ⟨k, rfl, h, fun G' z => h' _ _ ⟨rfl, z⟩⟩⟩) fun d G' ⟨e, z⟩ => by subst e; exact f G' z
theorem c_box0 {G : Gp} {k : Nat} {q : DK} (f : q .non G) : ∃ R, S_read_box T [.str (numI (k : Int))] G R ∧ ∀ d G', R d G' → q d G' :=
 call_nd (post := fun d G' => d = .non ∧ G' = G) (fun R h' => ⟨_, rfl, .inr ⟨k, rfl, h' _ _ ⟨rfl, rfl⟩⟩⟩) fun d G' ⟨e, z⟩ => by subst e z; exact f
theorem c_kinds {dp : Nat} {G : Gp} {x y : D} {q : DK} (h : KD G x y dp) (k : ∀ G', Grow G G' → q (.bl true) G') : ∃ R, S_law_kinds_r T dp [x, y] G R ∧ ∀ d G', R d G' → q d G' :=
 call_nd (post := fun d G' => d = .bl true ∧ Grow G G') (fun R h' => ⟨x, y, rfl, h, fun G' z => h' _ _ ⟨rfl, z⟩⟩) fun d G' ⟨e, z⟩ => by subst e; exact k G' z
theorem c_both {G : Gp} {ra : Addr} {rs : List Row} {sz : Nat} {q : DK} (h0 : G ra = some (.lst (rs.map Row.d))) (h : ∀ r ∈ rs, rK r) (hz : sz ≤ 9999999999) (hl : rs.length ≤ 4000) (k : ∀ G', Grow G G' → q (.bl true) G') : ∃ R, S_law_both_ways T [.tup [.int (sz : Int), .ref ra]] G R ∧ ∀ d G', R d G' → q d G' :=
 call_nd (post := fun d G' => d = .bl true ∧ Grow G G') (fun R h' => ⟨ra, rs, sz, rfl, h0, h, hz, hl, fun G' z => h' _ _ ⟨rfl, z⟩⟩) fun d G' ⟨e, z⟩ => by subst e; exact k G' z
theorem c_any {G : Gp} {st : Addr} {q : DK} (hs : StAt G st) (k : ∀ (v : Nat) G', Adv st G G' → v ≤ 9999999999 → q (.int (v : Int)) G') : ∃ R, S_law_any T [.ref st] G R ∧ ∀ d G', R d G' → q d G' :=
 call_nd (post := fun d G' => ∃ v : Nat, d = .int (v : Int) ∧ Adv st G G' ∧ v ≤ 9999999999) (fun R h' => ⟨st, rfl, hs, fun v G' z z2 => h' _ _ ⟨v, rfl, z, z2⟩⟩) fun d G' ⟨v, e, z, z2⟩ => by subst e; exact k v G' z z2
theorem c_nmb {G : Gp} {st : Addr} {q : DK} (hs : StAt G st) (k : ∀ (v : Int) G', Adv st G G' → 0 ≤ v → v < 4294967296 → q (.int v) G') : ∃ R, S_law_number T [.ref st] G R ∧ ∀ d G', R d G' → q d G' :=
 call_nd (post := fun d G' => ∃ v : Int, d = .int v ∧ Adv st G G' ∧ 0 ≤ v ∧ v < 4294967296) (fun R h' => ⟨st, rfl, hs, fun v G' z z2 z3 => h' _ _ ⟨v, rfl, z, z2, z3⟩⟩) fun d G' ⟨v, e, z, z2, z3⟩ => by subst e; exact k v G' z z2 z3
theorem kd_grow {G G' : Gp} {x y : D} (g : Grow G G') : ∀ {n : Nat}, KD G x y n → KD G' x y n
 | 0, h => h
 | n + 1, .inl h => .inl h
 | n + 1, .inr (.inl ⟨a, b, ds, e1, e2, h1, h2, h3, h4⟩) => .inr (.inl ⟨a, b, ds, e1, e2, g.kp _ _ h1, g.kp _ _ h2, h3, h4⟩)
 | n + 1, .inr (.inr ⟨i, a, b, ds, e1, e2, h1, h2, h3, h4⟩) => .inr (.inr ⟨i, a, b, ds, e1, e2, g.kp _ _ h1, g.kp _ _ h2, h3, h4⟩)
theorem pure_row (r : Row) (h : rK r) : pureD 4 r.d := by
 have ii : ∀ {n : Nat} {i : Int}, pureD (n + 1) (.int i) := fun {n i} => .inl ⟨i, rfl⟩
 have ss : ∀ {n : Nat} {i : Str}, pureD (n + 1) (.str i) := fun {n i} => .inr (.inl ⟨i, rfl⟩)
 have c3 : ∀ {n : Nat} {a b c : D}, pureD n a → pureD n b → pureD n c → pureD (n + 1) (.tup [a, b, c]) := fun ha hb hc => .inr (.inr ⟨_, rfl, by simp, fun e he => by
  rcases List.mem_cons.mp he with z | he
  ·rw [z]; exact ha
  rcases List.mem_cons.mp he with z | he
  ·rw [z]; exact hb
  rw [List.mem_singleton.mp he]; exact hc⟩)
 have c4 : ∀ {n : Nat} {a b c d : D}, pureD n a → pureD n b → pureD n c → pureD n d → pureD (n + 1) (.tup [a, b, c, d]) := fun ha hb hc hd => .inr (.inr ⟨_, rfl, by simp, fun e he => by
  rcases List.mem_cons.mp he with z | he
  ·rw [z]; exact ha
  rcases List.mem_cons.mp he with z | he
  ·rw [z]; exact hb
  rcases List.mem_cons.mp he with z | he
  ·rw [z]; exact hc
  rw [List.mem_singleton.mp he]; exact hd⟩)
 have c2 : ∀ {n : Nat} {a b : D}, pureD n a → pureD n b → pureD (n + 1) (.tup [a, b]) := fun ha hb => .inr (.inr ⟨_, rfl, by simp, fun e he => by
  rcases List.mem_cons.mp he with z | he
  ·rw [z]; exact ha
  rw [List.mem_singleton.mp he]; exact hb⟩)
 have oo : ∀ o : Opd, pureD 3 o.d := fun o => by cases o <;> exact c2 ss ii
 cases r with
 | add x o => exact c3 ss ii (oo o)
 | take x o => exact c3 ss ii (oo o)
 | turn x i cs =>
  refine c4 ss ii ii (.inr (.inr ⟨_, rfl, by rw [List.length_map]; have := h.2.2.1; omega, fun e he => ?_⟩))
  obtain ⟨c, _, rfl⟩ := List.mem_map.mp he
  exact c2 ii ii
 | swap x y => exact c3 ss ii ii
 | go x n k => exact c4 ss ii ii ii
 | come x n k => exact c4 ss ii ii ii
theorem kd_code {G : Gp} {a b : Addr} {rs : List Row} {sz : Nat} (ha : G a = some (.lst (rs.map Row.d))) (hb : G b = some (.lst (rs.map Row.d))) (h : ∀ r ∈ rs, rK r) (hl : rs.length ≤ 4000) : KD G (.tup [.int (sz : Int), .ref a]) (.tup [.int (sz : Int), .ref b]) 6 :=
 .inr (.inr ⟨_, a, b, _, rfl, rfl, ha, hb, by rw [List.length_map]; omega, 4, rfl, fun d hd => by
  obtain ⟨r, hr, rfl⟩ := List.mem_map.mp hd
  exact pure_row r (h r hr)⟩)
theorem eq_code {G : Gp} {a b : Addr} {rs : List Row} {sz : Nat} {Q : Bool → Prop} (ha : seqOf (G a) = some (rs.map Row.d)) (hb : seqOf (G b) = some (rs.map Row.d)) (h : Q true) :
  ∃ n sd se r, n ≤ 40 ∧ snap G n (.tup [.int (sz : Int), .ref a]) = some sd ∧ snap G n (.tup [.int (sz : Int), .ref b]) = some se ∧ eqN n sd se = some r ∧ Q r := by
 obtain ⟨s, hs⟩ := snap_tup (n := 4) (ds := [.int (sz : Int), .ref a]) (all2 snap_int (all1 (snap_rows (n := 0) ha)))
 have e : snap G 4 (.ref a) = snap G 4 (.ref b) := snap_ref (ha.trans hb.symm)
 have e2 : snap G 5 (.tup [.int (sz : Int), .ref a]) = snap G 5 (.tup [.int (sz : Int), .ref b]) := by
  show (([D.int (sz : Int), .ref a].mapM (snap G 4)).map Sn.tup) = (([D.int (sz : Int), .ref b].mapM (snap G 4)).map Sn.tup)
  rw [List.mapM_cons, List.mapM_cons, List.mapM_cons, List.mapM_cons, e]
 exact ⟨5, s, s, true, by decide, hs, by rw [← e2]; exact hs, eq_self 5 hs, h⟩
theorem sz_eq (sz : Nat) : ("size " : Str) ++ numI (sz : Int) = szS sz := by
 have e : szS sz = Str.join " " ["size", numI (sz : Int)] := StrLaws.glued_eq_join _ _
 apply str_ext
 rw [e, mk_sp, join_cps, cps_app]; rfl
theorem nI (k : Int) : Str.ofString (toString k) = numI k := rfl
theorem num_sz {k : Nat} (h : k ≤ 9999999999) : ((numI (k : Int)).length ≤ sizeLine) = True := eq_true (Nat.le_trans (num_10 h) (by decide))
theorem cut1 {α : Type} (a : α) (rest : List α) : L3.cutD (a :: rest) (some 1) none = rest := by
 have := cut_skipG (xs := a :: rest) (n := 1)
 exact this
theorem cut_takeG {α : Type} {xs : List α} {n : Nat} : cutD xs none (some (n : Int)) = xs.take n := cut_take
theorem cutT1 {α : Type} (a : α) (rest : List α) : L3.cutD (a :: rest) none (some 1) = [a] := by
 have := cut_takeG (xs := a :: rest) (n := 1)
 exact this
theorem cs_at : ∀ {cs : List (Nat × Nat)} {i : Nat} {c : Nat × Nat}, cs[i]? = some c → (csS cs)[2 * i]? = some (bw c.1) ∧ (csS cs)[2 * i + 1]? = some (numI (c.2 : Int))
 | c :: cs, 0, _, h => by cases h; exact ⟨rfl, rfl⟩
 | d :: cs, i + 1, c, h => by
  have ih := cs_at (cs := cs) (i := i) (c := c) (by simpa using h)
  have e : csS (d :: cs) = bw d.1 :: numI (d.2 : Int) :: csS cs := rfl
  rw [e, show 2 * (i + 1) = (2 * i) + 1 + 1 by omega]
  exact ih
 | [], _, _, h => by simp at h
theorem empty_add (x : Str) : (Str.ofString "") ++ x = x := by
 apply str_ext
 rw [cps_app]; rfl
theorem rng_step (c : Nat) : (if (3 : Int) < ((2 * c + 1 + 1 + 1 : Nat) : Int) then (((2 * c + 1 + 1 + 1 : Nat) : Int) - 3 - 1) / 2 + 1 else 0).toNat = c := by
 split <;> omega
theorem turn_snoc (x i : Nat) (l : List (Nat × Nat)) (c : Nat × Nat) : rwS (.turn x i (l ++ [c])) = rwS (.turn x i l) ++ [bw c.1, numI (c.2 : Int)] := by
 show (Str.ofString "turn") :: _ :: _ :: csS (l ++ [c]) = (Str.ofString "turn") :: _ :: _ :: (csS l ++ _)
 unfold csS
 rw [List.flatMap_append]; rfl
theorem turn_len (x i : Nat) (l : List (Nat × Nat)) : (rwS (.turn x i l)).length = 3 + 2 * l.length := by
 show (csS l).length + 1 + 1 + 1 = _
 rw [csS_len]; omega
theorem pairs_lt {rs : List Row} (hp : Pairs rs) {j : Nat} {r : Row} (h : rs[j]? = some r) : ∀ x n k, (r = .go x n k ∨ r = .come x n k) → k < rs.length := hp.lt h
theorem sw_b {x : Str} {c : Nat} {r : List Nat} (h : x.cps.toList = c :: r) : Txt.startswith x (Str.ofString "b") = decide (c = 98) := by
 have hb : (Str.ofString "b").cps = #[98] := by decide
 have hl : (Str.ofString "b").length = 1 := by decide
 have e : x.cps = (c :: r).toArray := Array.toList_inj.mp (by rw [h])
 unfold Txt.startswith Builtin.Str.subAt
 rw [hl, hb, str_len, h, e]
 have e2 : ((c :: r).toArray.extract 0 (0 + 1)) = #[c] := by simp
 rw [e2]
 have e3 : decide (0 + 1 ≤ (c :: r).length) = true := decide_eq_true (by simp)
 rw [e3, Bool.true_and, Bool.eq_iff_iff, beq_iff_eq, decide_eq_true_iff]
 constructor
 ·intro z
  have := congrArg Array.toList z
  simpa using this
 ·rintro rfl; rfl
end
end Law
set_option compiler.extract_closed false
open PySem L2 L3 Rw in
set_option hygiene false in
local macro_rules | `(tactic| dsimp! only [$xs,*]) => `(tactic| try simp only [dComp, Int.toNat_natCast, dCall, dMeth, dMake, List.append_nil, dSeq, dNext, dAsg, dDrop, dRet, dRetN, dIfS, dB, dAnd, dOr, dNot, dAndV, dOrV, dNotV, dIf, dVar, dC, dOp, dUn, dNil, dCons, dTup, dLst, dCB, dSl, dPart, dNoPart, dBM, dBM0, dAug, dFld, dSetF, dAugF, dYes, jName, jSub, jSeq, jCons, jNil, wRng1, wRng2, wAny, dFor, xSub, xDiv, xMod, xPow, xShl, xShr, xAnd, xOr, xXor, kindD, tyD, startD, innerD, List.map_cons, List.map_nil, List.cons_append, List.nil_append, List.length_cons, List.length_nil, List.replicate, List.getElem?_cons_zero, List.getElem?_cons_succ, List.set_cons_zero, List.set_cons_succ, Nat.reduceAdd, Nat.reduceSub, Nat.sub_self, seqOf_lst, seqOf_fro, gup_same, Option.bind_some, Option.bind_none, id, Bool.false_eq_true, if_true, if_false, reduceIte, true_and, and_true, decide_true, decide_false, Bool.not_true, Bool.not_false, atI_0, atI_1, atI_2, atI_3, atI_4, ixN_30, ixN_31, ixN_32, ixN_20, ixN_21, xr_all, xs_all, dBack, $xs,*])
namespace Law
open PySem L2 L3 Rw
set_option maxHeartbeats 4000000
section
variable {P : Program} {w : World} {K : PySem.W.Frag} {mg : Str → Option Value} {base : Heap} (T : Txt K mg)
theorem ok_number_in {n : Nat} : Ok P w mg base (n + 1) T.f_number_in (S_number_in T) := by
 refine def_ok T.f_number_in sc_number_in (fun ds G R h => ?_) (fun cdv A outer s H E hr =>
   (ss_cons (s_if (t_w (w_or (t_cmp (x_lt) (e_callB x_len rfl T.b_len (by decide +kernel) (a_cons (ev 0) a_nil)) e_int (nomark _)) (w_or1 (t_cmp (x_gt) (e_callB x_len rfl T.b_len (by decide +kernel) (a_cons (ev 0) a_nil)) (e_callB x_len rfl T.b_len (by decide +kernel) (a_cons (e_callTy x_toStr rfl T.b_str (by decide +kernel) (a_cons (ev 1) a_nil)) a_nil)) (nomark _))))) (ss_one (s_ret e_non)) ss_nil)
   (ss_cons (s_if (t_not (t_val (e_callB x_all rfl T.b_all (by decide +kernel) (a_cons (e_comp (N' := ["sign"]) (ix := [none]) (blk (osc := defScope s_number_in) (N := ["word", "most", "number"]) rfl rfl (by decide +kernel)) (i_str (ev 0)) (fun _ _ _ _ => (j_name 0 (show (["sign"] : List Str).Nodup by decide +kernel))) (fun _ _ _ _ => ifs_nil) (fun _ _ _ _ => (e_cmp (x_inS) (ev 0) (e_constS T.k_FIGURES) (by with_unfolding_all rfl)))) a_nil)))) (ss_one (s_ret e_non)) ss_nil)
   (ss_cons (s_if (t_w (w_and (t_cmp (x_eq hr) (e_ix x_ix (ev 0) e_int) e_str (nomark _)) (w_and1 (t_cmp (x_gt) (e_callB x_len rfl T.b_len (by decide +kernel) (a_cons (ev 0) a_nil)) e_int (nomark _))))) (ss_one (s_ret e_non)) ss_nil)
   (ss_cons (s_set 2 sc_number_in.nd (e_callTy x_toIntS rfl T.b_int (by decide +kernel) (a_cons (ev 0) a_nil)))
   (ss_one (s_ret (e_if (t_cmp (x_le) (ev 2) (ev 1) (nomark _)) (ev 2) e_non)))))))) (fun ds G R h => ?_)
 ·obtain ⟨k, m, rfl, _⟩ := h; rfl
 ·obtain ⟨k, m, rfl, hk, hm, post⟩ := h
  have h1 := num_pos k
  have h2 := num_10 (k := k) (by omega)
  have hle := num_le hk
  have hzT := num_sz (k := k) (by omega)
  have hmT := num_sz hm
  have d1 : (((numI (k : Int)).length : Int) < 1) = False := eq_false (by omega)
  dsimp! only [lenS, hzT, d1]
  refine ⟨(m : Int), rfl, logI (by omega) (by omega), ?_⟩
  have d3 : ((numI (k : Int)).length : Int) > ((numI (m : Int)).length : Int) ↔ False := ⟨fun z => by omega, fun z => z.elim⟩
  dsimp! only [lenS, nI, hmT, d3]
  (simp only [Go]; dsimp! only [wStr])
  refine ⟨numI (k : Int), rfl, fun p hp => ?_⟩
  refine compL_ind (fun r σ G' => ∃ (l t : List Nat) (v : Option D), l ++ t = (numI (k : Int)).cps.toList ∧ r = t.map (fun c => D.str ⟨#[c]⟩) ∧ G' = gup G p (.lst (List.replicate l.length (.bl true))) ∧ σ = [v]) ⟨[], _, none, rfl, rfl, rfl, rfl⟩ ?_ ?_
  ·rintro σ G1 ⟨l, t, v, e, e2, rfl, rfl⟩
   refine ⟨trivial, ?_⟩
   obtain ⟨G2, hG2⟩ : ∃ G2, G2 = gup G p (.lst (List.replicate l.length (.bl true))) := ⟨_, rfl⟩
   have k2 : G2 p = some (.lst (List.replicate l.length (.bl true))) := by rw [hG2]; exact gup_same
   have g2 : Grow G G2 := by rw [hG2]; exact Grow.refl.new hp
   rw [← hG2]
   clear hG2
   dsimp! only [k2, seqOf_lst, allBl_rep]
   rw [all_rep]
   obtain ⟨c, r, hc, hc2⟩ := numI_cons k
   dsimp! only [id]
   (simp only [Go]; dsimp! only [ixS, hzT, hc, at0])
   generalize hN : Go (dSeq _ _ _) = N
   have r1 : N [some (.str (numI (k : Int))), some (.int (m : Int)), none] G2 := by
    rw [← hN]
    (simp only [Go]; dsimp! only [id])
    refine ⟨_, (k : Int), rfl, numI_int (by omega), by omega, ?_⟩
    have d5 : ((k : Int) ≤ (m : Int)) = True := eq_true (by omega)
    dsimp! only [id]
    (simp only [Go]; dsimp! only [d5])
    exact post _ g2
   by_cases h0 : c = 48
   ·have d6 : ({ cps := #[c] } : Str) = Str.ofString "0" := by rw [h0]; exact zero_mk.symm
    have d7 := hc2 h0
    rw [if_pos (decide_eq_true d6)]
    have d8 : (((numI (k : Int)).length : Int) > 1) = False := eq_false (by omega)
    dsimp! only [lenS, hzT, d8]
    exact r1
   ·have d6 : ¬ ({ cps := #[c] } : Str) = Str.ofString "0" := fun e => h0 (one_eq.mp (e.trans zero_mk))
    rw [if_neg (by rw [decide_eq_false d6]; decide)]
    exact r1
  ·rintro z r σ G1 ⟨l, t, v, e, e2, rfl, rfl⟩ ih
   cases t with
   | nil => cases e2
   | cons c t =>
    cases e2
    refine ⟨trivial, ?_⟩
    have hc := dig_ok (k := k) (c := c) (by rw [← e]; simp)
    have hlen := congrArg List.length e
    rw [List.length_append, List.length_cons, ← str_len] at hlen
    dsimp! only [id]
    refine ⟨c, _, rfl, rfl, ?_⟩
    rw [figures hc]
    dsimp! only [gup_same]
    refine ⟨Nat.lt_of_le_of_lt (m := 1000) (by rw [List.length_replicate]; omega) (by decide), ih _ _ ⟨l ++ [c], t, _, by rw [← e, List.append_assoc]; rfl, rfl, ?_, rfl⟩⟩
    rw [gup_gup, List.length_append, List.length_singleton, List.replicate_succ']
theorem ok_show_code {n : Nat} (G_words_of : Ok P w mg base n T.f_words_of (S_words_of T)) : Ok P w mg base (n + 1) T.f_show_code (S_show_code T) := by
 refine def_ok T.f_show_code sc_show_code (fun ds G R h => ?_) (fun cdv A outer s H E hr =>
   (ss_cons (s_set 1 sc_show_code.nd (e_lst (a_cons (e_join e_str (a_cons (e_lst (a_cons e_str (a_cons (e_callTy x_toStr rfl T.b_str (by decide +kernel) (a_cons (e_ix x_ix (ev 0) e_int) a_nil)) a_nil))) a_nil)) a_nil)))
   (ss_cons (s_expr (e_extend (ev 1) (a_cons (e_comp (N' := ["row"]) (ix := [none]) (blk (osc := defScope s_show_code) (N := ["code", "lines"]) rfl rfl (by decide +kernel)) (i_any (e_ix x_ix (ev 0) e_int)) (fun _ _ _ _ => (j_name 0 (show (["row"] : List Str).Nodup by decide +kernel))) (fun _ _ _ _ => ifs_nil) (fun _ _ _ _ => (e_join e_str (a_cons (ec T.f_words_of T.g_words_of G_words_of hr (a_cons (ev 0) a_nil)) a_nil)))) a_nil)))
   (ss_one (s_ret (e_join e_str (a_cons (ev 1) a_nil))))))) (fun ds G R h => ?_)
 ·obtain ⟨ra, rs, sz, rfl, _⟩ := h; rfl
 ·obtain ⟨ra, rs, sz, rfl, ha, hr, hz, hl, post⟩ := h
  dsimp! only [id]
  refine ⟨(sz : Int), rfl, logI (by omega) (by omega), by decide, fun p hp => ?_⟩
  obtain ⟨f1, f2⟩ := jn_fitsB sp1 (B := 11) (N := 7) (ws := ["size", numI (sz : Int)]) (fun w hw => (sz_wd hz w hw).1) (by exact (by decide : 2 ≤ 7)) (by decide)
  refine ⟨_, p, ["size", numI (sz : Int)], rfl, rfl, by rw [gup_same]; rfl, f1, f2, ?_⟩
  refine ⟨by decide, fun p2 hp2 => ?_⟩
  obtain ⟨G1, hG1⟩ : ∃ G1, G1 = gup (gup G p (.lst [D.str "size", D.str (Str.ofString (toString (sz : Int)))])) p2 (.lst [D.str (jn " " ["size", numI (sz : Int)])]) := ⟨_, rfl⟩
  have g1 : Grow G G1 := by rw [hG1]; exact (Grow.refl.new hp).trans (Grow.refl.new hp2)
  have k1 : G1 p2 = some (.lst [D.str (szS sz)]) := by rw [hG1]; exact gup_same
  have f2' : G p2 = none := (Grow.refl.new hp).none hp2
  rw [← hG1]
  clear hG1
  have ha1 := g1.kp _ _ ha
  (simp only [Go]; dsimp! only [ha1])
  refine ⟨by rw [k1]; trivial, ?_⟩
  intro p3 hp3
  refine compL_ind (fun r σ G' => ∃ (l t : List Row) (v : Option D), l ++ t = rs ∧ r = t.map Row.d ∧ Grow G1 G' ∧ G' p3 = some (.lst ((l.map lnS).map .str)) ∧ σ = [v]) ⟨[], rs, none, rfl, rfl, Grow.refl.new hp3, gup_same, rfl⟩ ?_ ?_
  ·rintro σ G2 ⟨l, t, v, e, e2, g2, k2, rfl⟩
   have ht : t = [] := by simpa using e2.symm
   subst ht
   rw [List.append_nil] at e
   subst e
   refine ⟨by rw [g2.kp _ _ ha1]; rfl, ?_⟩
   have k12 := g2.kp _ _ k1
   dsimp! only [k12, k2]
   refine ⟨?_, ?_⟩
   ·refine Nat.le_trans (m := 5000) ?_ (by decide)
    rw [List.length_map, List.length_map]; omega
   ·(simp only [Go]; dsimp! only [id])
    obtain ⟨c1, c2⟩ := cd_fits hz hr hl
    exact ⟨_, p2, szS sz :: l.map lnS, rfl, rfl, by rw [gup_same]; rfl, c1, c2, post _ ((g1.trans g2).own f2')⟩
  ·rintro z r σ G2 ⟨l, t, v, e, e2, g2, k2, rfl⟩ ih
   cases t with
   | nil => cases e2
   | cons c t =>
    cases e2
    refine ⟨by rw [g2.kp _ _ ha1]; rfl, ?_⟩
    have hc := hr c (by rw [← e]; simp)
    have hlen := congrArg List.length e
    rw [List.length_append, List.length_cons] at hlen
    dsimp! only [id]
    refine call_nd (post := fun d G' => ∃ q, d = .ref q ∧ G' q = some (.lst ((rwS c).map .str)) ∧ Grow G2 G') (fun R h => ⟨c, rfl, hc, fun q G' z1 z2 z3 => h _ _ ⟨q, rfl, z2, z3⟩⟩) ?_
    rintro d G3 ⟨q, rfl, kq, g3⟩
    obtain ⟨f3, f4⟩ := jn_fitsB sp1 (B := 11) (N := 7) (fun w hw => (rw_wd hc w hw).1) (rw_len hc) (by decide)
    refine ⟨_, q, rwS c, rfl, rfl, by rw [kq]; rfl, f3, f4, ?_⟩
    have k3 := g3.kp _ _ k2
    dsimp! only [k3]
    refine ⟨Nat.lt_of_le_of_lt (m := 5000) (by rw [List.length_map, List.length_map]; omega) (by decide), ih _ _ ⟨l ++ [c], t, _, by rw [← e]; simp, rfl, (g2.trans g3).own hp3, ?_, rfl⟩⟩
    rw [gup_same, List.map_append, List.map_append]; rfl
theorem ok_words_of {n : Nat} (G_operand_word : Ok P w mg base n T.f_operand_word (S_operand_word T)) (G_box_word : Ok P w mg base n T.f_box_word (S_box_word T)) : Ok P w mg base (n + 1) T.f_words_of (S_words_of T) := by
 refine def_ok T.f_words_of sc_words_of (fun ds G R h => ?_) (fun cdv A outer s H E hr =>
   (ss_cons (s_if (t_cmp (x_in hr) (e_ix x_ix (ev 0) e_int) (e_tup (a_cons e_str (a_cons e_str a_nil))) (by with_unfolding_all rfl)) (ss_one (s_ret (e_lst (a_cons (e_ix x_ix (ev 0) e_int) (a_cons (e_callTy x_toStr rfl T.b_str (by decide +kernel) (a_cons (e_ix x_ix (ev 0) e_int) a_nil)) (a_cons (ec T.f_operand_word T.g_operand_word G_operand_word hr (a_cons (e_ix x_ix (ev 0) e_int) a_nil)) a_nil)))))) ss_nil)
   (ss_cons (s_if (t_cmp (x_eq hr) (e_ix x_ix (ev 0) e_int) e_str (nomark _)) (ss_cons (s_set 1 sc_words_of.nd (e_lst (a_cons (e_ix x_ix (ev 0) e_int) (a_cons (e_callTy x_toStr rfl T.b_str (by decide +kernel) (a_cons (e_ix x_ix (ev 0) e_int) a_nil)) (a_cons (e_callTy x_toStr rfl T.b_str (by decide +kernel) (a_cons (e_ix x_ix (ev 0) e_int) a_nil)) a_nil)))))
   (ss_cons (s_for (i_any (e_ix x_ix (ev 0) e_int)) (j_name 2 sc_words_of.nd) (ss_one (s_expr (e_extend (ev 1) (a_cons (e_lst (a_cons (ec T.f_box_word T.g_box_word G_box_word hr (a_cons (e_ix x_ix (ev 2) e_int) a_nil)) (a_cons (e_callTy x_toStr rfl T.b_str (by decide +kernel) (a_cons (e_ix x_ix (ev 2) e_int) a_nil)) a_nil))) a_nil)))))
   (ss_one (s_ret (ev 1))))) ss_nil)
   (ss_one (s_ret (e_bin x_add (e_lst (a_cons (e_ix x_ix (ev 0) e_int) a_nil)) (e_comp (N' := ["number"]) (ix := [none]) (blk (osc := defScope s_words_of) (N := ["row", "words", "cond"]) rfl rfl (by decide +kernel)) (i_any (e_sl x_slT (ev 0) (o_some e_int) o_none)) (fun _ _ _ _ => (j_name 0 (show (["number"] : List Str).Nodup by decide +kernel))) (fun _ _ _ _ => ifs_nil) (fun _ _ _ _ => (e_callTy x_toStr rfl T.b_str (by decide +kernel) (a_cons (ev 0) a_nil)))))))))) (fun ds G R h => ?_)
 ·obtain ⟨r, rfl, _⟩ := h; rfl
 ·obtain ⟨r, rfl, hr, post⟩ := h
  have core : ∀ (w0 : Str) (ns : List Int), (∀ n ∈ ns, 0 ≤ n ∧ n ≤ 9999999999) → ns.length ≤ 3 → (∀ (q : Addr) (G' : Gp), G q = none → G' q = some (.lst (.str w0 :: ns.map fun n => .str (numI n))) → Grow G G' → R (.ref q) G') →
    Go (dRet (dOp xAdd (dLst (dCons (dOp xIx (dVar 0) (dC (D.int 0))) dNil)) (dComp [none] (wAny (dSl xSlT (dVar 0) (dPart (dC (D.int 1))) dNoPart)) (jName 0) dYes (dCB xToStr (dCons (dVar 0) dNil)))) { nx := fun x G' => R D.non G', rt := R }) [some (D.tup (.str w0 :: ns.map .int)), none, none] G := by
   intro w0 ns hn hl post
   (simp only [Go]; dsimp! only [id])
   refine ⟨by decide, fun p hp => ?_⟩
   dsimp! only [xSlT]
   rw [cut1]
   intro p2 hp2
   obtain ⟨G1, hG1⟩ : ∃ G1, G1 = gup G p (.lst [D.str w0]) := ⟨_, rfl⟩
   have g1 : Grow G G1 := by rw [hG1]; exact Grow.refl.new hp
   have kp : G1 p = some (.lst [D.str w0]) := by rw [hG1]; exact gup_same
   rw [← hG1] at hp2 ⊢
   clear hG1
   refine compL_ind (fun r σ G' => ∃ (l t : List Int) (v0 : Option D), l ++ t = ns ∧ r = t.map D.int ∧ Grow G1 G' ∧ G' p2 = some (.lst (l.map fun n => D.str (numI n))) ∧ σ = [v0]) ⟨[], ns, none, rfl, rfl, Grow.refl.new hp2, gup_same, rfl⟩ ?_ ?_
   ·rintro σ G2 ⟨l, t, v0, e, e2, g2, k2, rfl⟩
    have ht : t = [] := by simpa using e2.symm
    subst ht
    rw [List.append_nil] at e
    subst e
    refine ⟨trivial, ?_⟩
    dsimp! only [xin_all, g2.kp _ _ kp, k2]
    refine ⟨Nat.le_trans (m := 10) (by simp; omega) (by decide), fun p4 hp4 => ?_⟩
    exact post p4 _ (g1.none (g2.none hp4)) gup_same ((g1.trans g2).trans (Grow.refl.new hp4))
   ·rintro z r σ G2 ⟨l, t, v0, e, e2, g2, k2, rfl⟩ ih
    cases t with
    | nil => cases e2
    | cons c t =>
     cases e2
     refine ⟨trivial, ?_⟩
     have hc := hn c (by rw [← e]; simp)
     have hlen := congrArg List.length e
     rw [List.length_append, List.length_cons] at hlen
     dsimp! only [id]
     refine ⟨c, rfl, logI hc.1 hc.2, ?_⟩
     dsimp! only [k2]
     refine ⟨Nat.lt_of_le_of_lt (m := 1000) (by rw [List.length_map]; omega) (by decide), ih _ _ ⟨l ++ [c], t, _, by rw [← e]; simp, rfl, g2.own hp2, ?_, rfl⟩⟩
     rw [gup_same, List.map_append]; rfl
  rcases kindsT r with ⟨w0, x, o, hrr, hd, hw⟩ | ⟨x, i, cs, rfl⟩ | ⟨x, y, rfl⟩ | ⟨w0, x, n, k, hrr, hd, h1, h2, h3, h4⟩
  ·have hk : x ≤ 9999999999 ∧ opK o := by rcases hrr with rfl | rfl <;> exact hr
   have e : rwS r = [w0, numI (x : Int), opS o] := by
    rcases hrr with rfl | rfl
    ·cases hd; rfl
    ·cases hd; rfl
   rw [e] at post
   simp only [hd]
   dsimp! only [sw_all, xin_all, hw]
   refine ⟨(x : Int), rfl, logI (by omega) (by omega), ?_⟩
   refine call_det (v := .str (opS o)) (G1 := G) (fun R h => ⟨o, rfl, hk.2, h⟩) ?_
   exact ⟨by decide, fun q hq => post q _ hq gup_same (Grow.refl.new hq)⟩
  ·obtain ⟨hx, hi, hl, hc⟩ := hr
   dsimp! only [Row.d, sw_all, xin_all, Bool.true_or, Bool.false_or, Bool.or_true, Bool.or_false]
   (simp only [Go]; dsimp! only [sw_all])
   refine ⟨(x : Int), rfl, logI (by omega) (by omega), (i : Int), rfl, logI (by omega) (by omega), by decide, fun p hp => ?_⟩
   (simp only [Go]; dsimp! only [id])
   refine forL_ind (fun r σ G' => ∃ (l t : List (Nat × Nat)) (v : Option D), l ++ t = cs ∧ r = t.map cd ∧ Grow G G' ∧ G' p = some (.lst ((rwS (.turn x i l)).map .str)) ∧ σ = [some (Row.turn x i cs).d, some (.ref p), v]) ⟨[], cs, none, rfl, rfl, Grow.refl.new hp, gup_same, rfl⟩ ?_ ?_
   ·rintro σ G2 ⟨l, t, v, e, e2, g2, k2, rfl⟩
    have ht : t = [] := by simpa using e2.symm
    subst ht
    rw [List.append_nil] at e
    subst e
    refine ⟨trivial, ?_⟩
    (simp only [Go]; dsimp! only [id])
    exact post p G2 hp k2 g2
   ·rintro z r σ G2 ⟨l, t, v, e, e2, g2, k2, rfl⟩ ih
    cases t with
    | nil => cases e2
    | cons c t =>
     cases e2
     refine ⟨trivial, ?_⟩
     have hc1 := hc c (by rw [← e]; simp)
     have hlen := congrArg List.length e
     rw [List.length_append, List.length_cons] at hlen
     dsimp! only [cd]
     refine ⟨by rw [k2]; trivial, ?_⟩
     refine call_det (v := .str (bw c.1)) (G1 := G2) (fun R h => ⟨c.1, rfl, hc1.1, h⟩) ?_
     dsimp! only [id]
     refine ⟨(c.2 : Int), rfl, logI (by omega) (by omega), by decide, fun p3 hp3 => ?_⟩
     have k3 : gup G2 p3 (.lst [D.str (bw c.1), D.str (Str.ofString (toString (c.2 : Int)))]) p = some (.lst ((rwS (.turn x i l)).map .str)) := by rw [gup_ne (gne k2 hp3)]; exact k2
     dsimp! only [gup_same, k3]
     refine ⟨?_, ih _ _ ⟨l ++ [c], t, _, by rw [← e]; simp, rfl, ((g2.trans (Grow.refl.new hp3))).own hp, ?_, rfl⟩⟩
     ·refine Nat.le_trans (m := 20) ?_ (by decide)
      show ((csS l).map D.str).length + 1 + 1 + 1 + 2 ≤ 20
      rw [List.length_map, csS_len]; omega
     ·rw [gup_same]
      have e5 : rwS (.turn x i (l ++ [c])) = rwS (.turn x i l) ++ [bw c.1, numI (c.2 : Int)] := by
       show (Str.ofString "turn") :: _ :: _ :: csS (l ++ [c]) = (Str.ofString "turn") :: _ :: _ :: (csS l ++ _)
       unfold csS
       rw [List.flatMap_append]; rfl
      rw [e5, List.map_append]; rfl
  ·have hk : x ≤ 9999999999 ∧ y ≤ 9999999999 := hr
   dsimp! only [Row.d, sw_all, xin_all, Bool.true_or, Bool.false_or, Bool.or_true, Bool.or_false]
   (simp only [Go]; dsimp! only [sw_all])
   refine core _ [(x : Int), (y : Int)] (fun n hn => ?_) (by simp) post
   rcases List.mem_cons.mp hn with e | hn
   ·rw [e]; omega
   ·rw [List.mem_singleton.mp hn]; omega
  ·have hk : x ≤ 9999999999 ∧ (0 ≤ n ∧ n < 4294967296) ∧ k ≤ 9999999999 := by rcases hrr with rfl | rfl <;> exact hr
   have e : rwS r = [w0, numI (x : Int), numI n, numI (k : Int)] := by
    rcases hrr with rfl | rfl
    ·cases hd; rfl
    ·cases hd; rfl
   rw [e] at post
   simp only [hd]
   dsimp! only [sw_all, xin_all, h1, h2, h3, h4]
   (simp only [Go]; dsimp! only [h2])
   refine core _ [(x : Int), n, (k : Int)] (fun n hn => ?_) (by simp) post
   rcases List.mem_cons.mp hn with e | hn
   ·rw [e]; omega
   rcases List.mem_cons.mp hn with e | hn
   ·rw [e]; omega
   ·rw [List.mem_singleton.mp hn]; omega
theorem ok_operand_word {n : Nat} (G_box_word : Ok P w mg base n T.f_box_word (S_box_word T)) : Ok P w mg base (n + 1) T.f_operand_word (S_operand_word T) := by
 refine def_ok T.f_operand_word sc_operand_word (fun ds G R h => ?_) (fun cdv A outer s H E hr =>
   (ss_one (s_ret (e_if (t_cmp (x_eq hr) (e_ix x_ix (ev 0) e_int) e_str (nomark _)) (ec T.f_box_word T.g_box_word G_box_word hr (a_cons (e_ix x_ix (ev 0) e_int) a_nil)) (e_callTy x_toStr rfl T.b_str (by decide +kernel) (a_cons (e_ix x_ix (ev 0) e_int) a_nil)))))) (fun ds G R h => ?_)
 ·obtain ⟨o, rfl, _⟩ := h; rfl
 ·obtain ⟨o, rfl, ho, post⟩ := h
  cases o with
  | num n =>
   dsimp! only [Opd.d]
   refine ⟨n, rfl, logI ho.1 (by have := ho.2; omega), ?_⟩
   exact post
  | box y =>
   dsimp! only [Opd.d]
   exact call_det (v := .str (bw y)) (G1 := G) (fun R h => ⟨y, rfl, ho, h⟩) post
theorem ok_box_word {n : Nat} : Ok P w mg base (n + 1) T.f_box_word (S_box_word T) := by
 refine def_ok T.f_box_word sc_box_word (fun ds G R h => ?_) (fun cdv A outer s H E hr =>
   (ss_one (s_ret (e_bin x_add e_str (e_callTy x_toStr rfl T.b_str (by decide +kernel) (a_cons (ev 0) a_nil)))))) (fun ds G R h => ?_)
 ·obtain ⟨k, rfl, _⟩ := h; rfl
 ·obtain ⟨k, rfl, hk, post⟩ := h
  dsimp! only [id]
  refine ⟨(k : Int), rfl, logI (by omega) (by omega), ?_⟩
  have h2 := num_10 hk
  have d : ((Str.ofString "b").length + (numI (k : Int)).length ≤ sizeLine) = True := eq_true (Nat.le_trans (m := 20) (by show 1 + _ ≤ _; omega) (by decide))
  (dsimp! only [addS, nI, d]; repeat (simp only [Go]; dsimp! only [addS, nI, d]))
  exact post
theorem ok_read_code {n : Nat} (G_read_size : Ok P w mg base n T.f_read_size (S_read_size T)) (G_read_row : Ok P w mg base n T.f_read_row (S_read_row T)) : Ok P w mg base (n + 1) T.f_read_code (S_read_code T) := by
 refine def_ok T.f_read_code sc_read_code (fun ds G R h => ?_) (fun cdv A outer s H E hr =>
   (ss_cons (s_set 1 sc_read_code.nd (e_splitA (ev 0) (a_cons e_str a_nil)))
   (ss_cons (s_set 2 sc_read_code.nd (ec T.f_read_size T.g_read_size G_read_size hr (a_cons (e_splitA (e_ix x_ix (ev 1) e_int) (a_cons e_str a_nil)) a_nil)))
   (ss_cons (s_if (t_cmp (x_is2) (ev 2) e_non (nomark _)) (ss_one s_never) ss_nil)
   (ss_cons (s_set 3 sc_read_code.nd (e_lst a_nil))
   (ss_cons (s_for (i_enumS rfl T.b_enumerate (a_cons (e_sl x_sl (ev 1) (o_some e_int) o_none) a_nil)) (j_seq (n := 2) rfl (js_cons (j_name 4 sc_read_code.nd) (js_cons (j_name 5 sc_read_code.nd) js_nil))) (ss_cons (s_set 6 sc_read_code.nd (ec T.f_read_row T.g_read_row G_read_row hr (a_cons (e_splitA (ev 5) (a_cons e_str a_nil)) a_nil)))
   (ss_cons (s_if (t_cmp (x_is2) (ev 6) e_non (nomark _)) (ss_one s_never) ss_nil)
   (ss_one (s_expr (e_append (ev 3) (a_cons (ev 6) a_nil)))))))
   (ss_one (s_ret (e_tup (a_cons (ev 2) (a_cons (ev 3) a_nil))))))))))) (fun ds G R h => ?_)
 ·obtain ⟨rs, sz, rfl, _⟩ := h; rfl
 ·obtain ⟨rs, sz, rfl, hr, hz, hl, post⟩ := h
  dsimp! only [id]
  obtain ⟨c1, c2⟩ := cd_fits hz hr hl
  have es := cd_split hz hr
  refine ⟨cdS sz rs, _, rfl, rfl, by decide, c2, by rw [es, List.length_cons, List.length_map]; exact Nat.le_trans (m := 5000) (by omega) (by decide), fun p hp => ?_⟩
  rw [es]
  obtain ⟨G1, hG1⟩ : ∃ G1, G1 = gup G p (.lst ((szS sz :: rs.map lnS).map D.str)) := ⟨_, rfl⟩
  have g1 : Grow G G1 := by rw [hG1]; exact Grow.refl.new hp
  have k1 : G1 p = some (.lst (.str (szS sz) :: (rs.map lnS).map D.str)) := by rw [hG1]; exact gup_same
  rw [← hG1]
  clear hG1
  (simp only [Go]; dsimp! only [k1, at0])
  have ez := sz_split hz
  refine ⟨szS sz, _, rfl, rfl, by decide, Nat.le_trans (m := 100) (Nat.le_trans (sz_len hz) (by decide)) (by decide), by rw [ez]; exact (by decide : 2 ≤ sizeLine), fun p2 hp2 => ?_⟩
  rw [ez]
  refine call_nd (post := fun d G' => d = .int (sz : Int) ∧ Grow G1 G') (fun R h => ⟨p2, sz, rfl, gup_same, hz, fun G' z => h _ _ ⟨rfl, (Grow.refl.new hp2).trans z⟩⟩) ?_
  rintro d G2 ⟨rfl, g2⟩
  dsimp! only [id]
  (simp only [Go]; dsimp! only [id])
  (simp only [Go]; dsimp! only [id])
  refine ⟨by decide, fun q hq => ?_⟩
  have fq : G q = none := g1.none (g2.none hq)
  obtain ⟨G3, hG3⟩ : ∃ G3, G3 = gup G2 q (.lst []) := ⟨_, rfl⟩
  have g3 : Grow G2 G3 := by rw [hG3]; exact Grow.refl.new hq
  have k3 : G3 q = some (.lst []) := by rw [hG3]; exact gup_same
  rw [← hG3]
  clear hG3
  have k13 := g3.kp _ _ (g2.kp _ _ k1)
  (simp only [Go]; dsimp! only [wEnumS, k13])
  intro p4 hp4
  rw [cut1]
  dsimp! only [gup_same]
  obtain ⟨G4, hG4⟩ : ∃ G4, G4 = gup G3 p4 (.lst ((rs.map lnS).map D.str)) := ⟨_, rfl⟩
  have g4 : Grow G3 G4 := by rw [hG4]; exact Grow.refl.new hp4
  have k4 : G4 p4 = some (.lst ((rs.map lnS).map D.str)) := by rw [hG4]; exact gup_same
  have kq4 := g4.kp _ _ k3
  rw [← hG4]
  clear hG4
  have gg : Grow G G4 := g1.trans (g2.trans (g3.trans g4))
  have nq : p4 ≠ q := fun z => by rw [z, k3] at hp4; cases hp4
  refine forL_ind (fun r σ G' => ∃ (l t : List Row) (v4 v5 v6 : Option D), l ++ t = rs ∧ r = enD (l.length + 1) ((t.map lnS).map .str) ∧ Grow G G' ∧ G' p4 = some (.lst ((rs.map lnS).map D.str)) ∧ G' q = some (.lst (l.map Row.d)) ∧ σ = [some (.str (cdS sz rs)), some (.ref p), some (.int (sz : Int)), some (.ref q), v4, v5, v6]) ⟨[], rs, none, none, none, rfl, rfl, gg, k4, kq4, rfl⟩ ?_ ?_
  ·rintro σ G5 ⟨l, t, v4, v5, v6, e, e2, g5, k5, kq, rfl⟩
   have ht : t = [] := by
    cases t with
    | nil => rfl
    | cons x t => cases e2
   subst ht
   rw [List.append_nil] at e
   subst e
   refine ⟨by rw [k5]; rfl, ?_⟩
   (simp only [Go]; dsimp! only [id])
   exact ⟨by decide, post q _ fq kq g5⟩
  ·rintro z r σ G5 ⟨l, t, v4, v5, v6, e, e2, g5, k5, kq, rfl⟩ ih
   cases t with
   | nil => cases e2
   | cons c t =>
    cases e2
    refine ⟨by rw [k5]; rfl, ?_⟩
    have hc := hr c (by rw [← e]; simp)
    have hlen := congrArg List.length e
    rw [List.length_append, List.length_cons] at hlen
    have el := ln_split hc
    dsimp! only [id]
    refine ⟨lnS c, _, rfl, rfl, by decide, Nat.le_trans (m := 100) (Nat.le_trans (ln_len hc) (by decide)) (by decide), by rw [el]; exact Nat.le_trans (rw_len hc) (by decide), fun p6 hp6 => ?_⟩
    rw [el]
    refine call_nd (post := fun d G' => d = c.d ∧ Grow G5 G') (fun R h => ⟨p6, c, rfl, gup_same, hc, fun G' z => h _ _ ⟨rfl, (Grow.refl.new hp6).trans z⟩⟩) ?_
    rintro d G6 ⟨rfl, g6⟩
    have k6 := g6.kp _ _ k5
    have kq6 := g6.kp _ _ kq
    obtain ⟨ds, hds⟩ : ∃ ds, c.d = .tup ds := by cases c <;> exact ⟨_, rfl⟩
    rw [hds]
    dsimp! only [id]
    (simp only [Go]; dsimp! only [id])
    (simp only [Go]; dsimp! only [kq6])
    refine ⟨Nat.lt_of_le_of_lt (m := 5000) (by rw [List.length_map]; omega) (by decide), ih _ _ ⟨l ++ [c], t, _, _, _, by rw [← e]; simp, by rw [List.length_append]; rfl, (g5.trans g6).own fq, ?_, ?_, rfl⟩⟩
    ·rw [gup_ne nq]; exact k6
    ·rw [gup_same, ← hds, List.map_append]; rfl
theorem ok_read_size {n : Nat} (G_number_in : Ok P w mg base n T.f_number_in (S_number_in T)) : Ok P w mg base (n + 1) T.f_read_size (S_read_size T) := by
 refine def_ok T.f_read_size sc_read_size (fun ds G R h => ?_) (fun cdv A outer s H E hr =>
   (ss_one (s_ret (e_if (t_w (w_and (t_cmp (x_eq hr) (e_callB x_len rfl T.b_len (by decide +kernel) (a_cons (ev 0) a_nil)) e_int (nomark _)) (w_and1 (t_cmp (x_eq hr) (e_ix x_ix (ev 0) e_int) e_str (nomark _))))) (ec T.f_number_in T.g_number_in G_number_in hr (a_cons (e_ix x_ix (ev 0) e_int) (a_cons (e_const T.k_GREATEST) a_nil))) e_non)))) (fun ds G R h => ?_)
 ·obtain ⟨wa, sz, rfl, _⟩ := h; rfl
 ·obtain ⟨wa, sz, rfl, hw, hz, post⟩ := h
  dsimp! only [hw]
  exact c_num T (k := sz) (m := 9999999999) hz (Nat.le_refl _) post
theorem ok_read_row {n : Nat} (G_read_numbers : Ok P w mg base n T.f_read_numbers (S_read_numbers T)) (G_read_change : Ok P w mg base n T.f_read_change (S_read_change T)) (G_read_turn : Ok P w mg base n T.f_read_turn (S_read_turn T)) : Ok P w mg base (n + 1) T.f_read_row (S_read_row T) := by
 refine def_ok T.f_read_row sc_read_row (fun ds G R h => ?_) (fun cdv A outer s H E hr =>
   (ss_cons (s_if (t_cmp (x_in hr) (e_ix x_ix (ev 0) e_int) (e_tup (a_cons e_str (a_cons e_str a_nil))) (by with_unfolding_all rfl)) (ss_one (s_ret (ec T.f_read_change T.g_read_change G_read_change hr (a_cons (ev 0) a_nil)))) ss_nil)
   (ss_cons (s_if (t_cmp (x_eq hr) (e_ix x_ix (ev 0) e_int) e_str (nomark _)) (ss_one (s_ret (ec T.f_read_turn T.g_read_turn G_read_turn hr (a_cons (ev 0) a_nil)))) ss_nil)
   (ss_cons (s_if (t_cmp (x_eq hr) (e_ix x_ix (ev 0) e_int) e_str (nomark _)) (ss_one (s_ret (ec T.f_read_numbers T.g_read_numbers G_read_numbers hr (a_cons (ev 0) (a_cons (e_lst (a_cons (e_const T.k_GREATEST) (a_cons (e_const T.k_GREATEST) a_nil))) a_nil))))) ss_nil)
   (ss_cons (s_if (t_cmp (x_in hr) (e_ix x_ix (ev 0) e_int) (e_tup (a_cons e_str (a_cons e_str a_nil))) (by with_unfolding_all rfl)) (ss_one (s_ret (ec T.f_read_numbers T.g_read_numbers G_read_numbers hr (a_cons (ev 0) (a_cons (e_lst (a_cons (e_const T.k_GREATEST) (a_cons (e_bin x_sub (e_const T.k_NUMBERS) e_int) (a_cons (e_const T.k_GREATEST) a_nil)))) a_nil))))) ss_nil)
   (ss_one (s_ret e_non))))))) (fun ds G R h => ?_)
 ·obtain ⟨wa, r, rfl, _⟩ := h; rfl
 ·obtain ⟨wa, r, rfl, hw, hr, post⟩ := h
  have nums : ∀ (G1 : Gp) (ma : Addr) (w0 : Str) (ks : List (Nat × Nat)) (q : DK), G1 wa = some (.lst (.str w0 :: ks.map fun p => .str (numI (p.1 : Int)))) → G1 ma = some (.lst (ks.map fun p => .int (p.2 : Int))) → (∀ p ∈ ks, p.1 ≤ p.2 ∧ p.2 ≤ 9999999999) → ks.length ≤ 3 → (∀ G', Grow G1 G' → q (.tup (.str w0 :: ks.map fun p => .int (p.1 : Int))) G') → ∃ R, S_read_numbers T [.ref wa, .ref ma] G1 R ∧ ∀ d G', R d G' → q d G' :=
   fun G1 ma w0 ks q h1 h2 h3 h4 k => call_nd (post := fun d G' => d = .tup (.str w0 :: ks.map fun p => .int (p.1 : Int)) ∧ Grow G1 G') (fun R h' => ⟨wa, ma, w0, ks, rfl, h1, h2, h3, h4, fun G' z => h' _ _ ⟨rfl, z⟩⟩) fun d G' ⟨e, z⟩ => by subst e; exact k G' z
  have chg : ∀ (w0 : Str) (x : Nat) (o : Opd) (q : DK), G wa = some (.lst [.str w0, .str (numI (x : Int)), .str (opS o)]) → x ≤ 9999999999 ∧ opK o → (∀ G', Grow G G' → q (.tup [.str w0, .int (x : Int), o.d]) G') → ∃ R, S_read_change T [.ref wa] G R ∧ ∀ d G', R d G' → q d G' :=
   fun w0 x o q h1 h2 k => call_nd (post := fun d G' => d = .tup [.str w0, .int (x : Int), o.d] ∧ Grow G G') (fun R h' => ⟨wa, w0, x, o, rfl, h1, h2.1, h2.2, fun G' z => h' _ _ ⟨rfl, z⟩⟩) fun d G' ⟨e, z⟩ => by subst e; exact k G' z
  cases r with
  | add x o =>
   have hw := hw
   simp only [rwS, List.map] at hw
   (dsimp! only [hw, sw_all, xin_all, Bool.true_or, Bool.false_or, Bool.or_true, Bool.or_false]; repeat (simp only [Go]; dsimp! only [hw, sw_all, xin_all, Bool.true_or, Bool.false_or, Bool.or_true, Bool.or_false]))
   exact chg _ x o _ hw hr post
  | take x o =>
   have hw := hw
   simp only [rwS, List.map] at hw
   (dsimp! only [hw, sw_all, xin_all, Bool.true_or, Bool.false_or, Bool.or_true, Bool.or_false]; repeat (simp only [Go]; dsimp! only [hw, sw_all, xin_all, Bool.true_or, Bool.false_or, Bool.or_true, Bool.or_false]))
   exact chg _ x o _ hw hr post
  | turn x i cs =>
   have hw := hw
   simp only [rwS, List.map] at hw
   (dsimp! only [hw, sw_all, xin_all, Bool.true_or, Bool.false_or, Bool.or_true, Bool.or_false]; repeat (simp only [Go]; dsimp! only [hw, sw_all, xin_all, Bool.true_or, Bool.false_or, Bool.or_true, Bool.or_false]))
   exact call_nd (post := fun d G' => d = (Row.turn x i cs).d ∧ Grow G G') (fun R h => ⟨wa, x, i, cs, rfl, hw, hr, fun G' z => h _ _ ⟨rfl, z⟩⟩) fun d G' ⟨e, z⟩ => by subst e; exact post G' z
  | swap x y =>
   have hw := hw
   simp only [rwS, List.map] at hw
   (dsimp! only [hw, sw_all, xin_all, Bool.true_or, Bool.false_or, Bool.or_true, Bool.or_false]; repeat (simp only [Go]; dsimp! only [hw, sw_all, xin_all, Bool.true_or, Bool.false_or, Bool.or_true, Bool.or_false]))
   intro p hp
   refine nums _ p "swap" [(x, 9999999999), (y, 9999999999)] _ ((Grow.refl.new hp).kp _ _ hw) gup_same ?_ (by simp) fun G' g => post G' ((Grow.refl.new hp).trans g)
   intro p hp
   rcases List.mem_cons.mp hp with e | hp
   ·rw [e]; exact ⟨hr.1, Nat.le_refl _⟩
   ·rw [List.mem_singleton.mp hp]; exact ⟨hr.2, Nat.le_refl _⟩
  | go x n k =>
   obtain ⟨h1, h2, h3⟩ := hr
   obtain ⟨n, rfl⟩ := nat_of h2.1
   have hw := hw
   simp only [rwS, List.map] at hw
   (dsimp! only [hw, sw_all, xin_all, Bool.true_or, Bool.false_or, Bool.or_true, Bool.or_false]; repeat (simp only [Go]; dsimp! only [hw, sw_all, xin_all, Bool.true_or, Bool.false_or, Bool.or_true, Bool.or_false]))
   refine ⟨by decide, fun p hp => ?_⟩
   refine nums _ p "go" [(x, 9999999999), (n, 4294967295), (k, 9999999999)] _ ((Grow.refl.new hp).kp _ _ hw) gup_same ?_ (by simp) fun G' g => post G' ((Grow.refl.new hp).trans g)
   intro p hp
   rcases List.mem_cons.mp hp with e | hp
   ·rw [e]; exact ⟨h1, Nat.le_refl _⟩
   rcases List.mem_cons.mp hp with e | hp
   ·rw [e]; exact ⟨by show n ≤ 4294967295; omega, (by decide : 4294967295 ≤ 9999999999)⟩
   ·rw [List.mem_singleton.mp hp]; exact ⟨h3, Nat.le_refl _⟩
  | come x n k =>
   obtain ⟨h1, h2, h3⟩ := hr
   obtain ⟨n, rfl⟩ := nat_of h2.1
   have hw := hw
   simp only [rwS, List.map] at hw
   (dsimp! only [hw, sw_all, xin_all, Bool.true_or, Bool.false_or, Bool.or_true, Bool.or_false]; repeat (simp only [Go]; dsimp! only [hw, sw_all, xin_all, Bool.true_or, Bool.false_or, Bool.or_true, Bool.or_false]))
   refine ⟨by decide, fun p hp => ?_⟩
   refine nums _ p "come" [(x, 9999999999), (n, 4294967295), (k, 9999999999)] _ ((Grow.refl.new hp).kp _ _ hw) gup_same ?_ (by simp) fun G' g => post G' ((Grow.refl.new hp).trans g)
   intro p hp
   rcases List.mem_cons.mp hp with e | hp
   ·rw [e]; exact ⟨h1, Nat.le_refl _⟩
   rcases List.mem_cons.mp hp with e | hp
   ·rw [e]; exact ⟨by show n ≤ 4294967295; omega, (by decide : 4294967295 ≤ 9999999999)⟩
   ·rw [List.mem_singleton.mp hp]; exact ⟨h3, Nat.le_refl _⟩
theorem ok_read_numbers {n : Nat} (G_number_in : Ok P w mg base n T.f_number_in (S_number_in T)) : Ok P w mg base (n + 1) T.f_read_numbers (S_read_numbers T) := by
 refine def_ok T.f_read_numbers sc_read_numbers (fun ds G R h => ?_) (fun cdv A outer s H E hr =>
   (ss_cons (s_if (t_cmp (x_ne hr) (e_callB x_len rfl T.b_len (by decide +kernel) (a_cons (ev 0) a_nil)) (e_bin x_add e_int (e_callB x_len rfl T.b_len (by decide +kernel) (a_cons (ev 1) a_nil))) (nomark _)) (ss_one (s_ret e_non)) ss_nil)
   (ss_cons (s_setC 2 sc_read_numbers.nd (N' := ["word", "most"]) (ix := [none, none]) (blk (osc := defScope s_read_numbers) (N := ["words", "mosts", "numbers"]) rfl rfl (by decide +kernel)) (i_zip rfl T.b_zip (a_cons (e_sl x_sl (ev 0) (o_some e_int) o_none) (a_cons (ev 1) a_nil))) (fun _ _ _ _ => (j_seq (n := 2) rfl (js_cons (j_name 0 (show (["word", "most"] : List Str).Nodup by decide +kernel)) (js_cons (j_name 1 (show (["word", "most"] : List Str).Nodup by decide +kernel)) js_nil)))) (fun _ _ _ _ => ifs_nil) (fun _ _ _ _ => (ec T.f_number_in T.g_number_in G_number_in hr (a_cons (ev 0) (a_cons (ev 1) a_nil)))))
   (ss_one (s_ret (e_if (t_cmp (x_inN hr) e_non (ev 2) (by with_unfolding_all rfl)) e_non (e_callTy x_toTuple rfl T.b_tuple (by decide +kernel) (a_cons (e_bin x_add (e_sl x_sl (ev 0) o_none (o_some e_int)) (ev 2)) a_nil)))))))) (fun ds G R h => ?_)
 ·obtain ⟨wa, ma, w0, ks, rfl, _⟩ := h; rfl
 ·obtain ⟨wa, ma, w0, ks, rfl, hw, hm, hk, hl, post⟩ := h
  have e3 : (((ks.length + 1 : Nat) : Int) = 1 + (ks.length : Int)) = True := eq_true (by omega)
  have l1 : (ks.length + 1 ≤ sizeLine) = True := eq_true (Nat.le_trans (m := 10) (by omega) (by decide))
  have l2 : (ks.length ≤ sizeLine) = True := eq_true (Nat.le_trans (m := 10) (by omega) (by decide))
  dsimp! only [hw, hm, List.length_cons, List.length_map, e3, l1, l2]
  (simp only [Go]; dsimp! only [wZip, hw, hm])
  intro p hp
  rw [cut1, gup_ne (gne hm hp), hm]
  dsimp! only [id]
  intro p2 hp2
  obtain ⟨G1, hG1⟩ : ∃ G1, G1 = gup G p (.lst (ks.map fun p => D.str (numI (p.1 : Int)))) := ⟨_, rfl⟩
  have g1 : Grow G G1 := by rw [hG1]; exact Grow.refl.new hp
  have kp : G1 p = some (.lst (ks.map fun p => D.str (numI (p.1 : Int)))) := by rw [hG1]; exact gup_same
  rw [← hG1] at hp2 ⊢
  clear hG1
  have kw := g1.kp _ _ hw
  have km := g1.kp _ _ hm
  refine compL_ind (fun r σ G' => ∃ (l t : List (Nat × Nat)) (v0 v1 : Option D), l ++ t = ks ∧ r = zpD (t.map fun p => D.str (numI (p.1 : Int))) (t.map fun p => D.int (p.2 : Int)) ∧ Grow G1 G' ∧ G' p2 = some (.lst (l.map fun p => D.int (p.1 : Int))) ∧ σ = [v0, v1]) ⟨[], ks, none, none, rfl, rfl, Grow.refl.new hp2, gup_same, rfl⟩ ?_ ?_
  ·rintro σ G2 ⟨l, t, v0, v1, e, e2, g2, k2, rfl⟩
   have ht : t = [] := by
    cases t with
    | nil => rfl
    | cons x t => cases e2
   subst ht
   rw [List.append_nil] at e
   subst e
   refine ⟨⟨by rw [g2.kp _ _ kp]; rfl, by rw [g2.kp _ _ km]; rfl⟩, ?_⟩
   (simp only [Go]; dsimp! only [id])
   refine ⟨p2, l.map fun p => some (p.1 : Int), rfl, rfl, by rw [k2, List.map_map]; rfl, ?_⟩
   have dn : decide ((none : Option Int) ∈ l.map fun p => some (p.1 : Int)) = false := decide_eq_false (by simp)
   rw [dn]
   have kw2 := g2.kp _ _ kw
   dsimp! only [kw2]
   intro p3 hp3
   rw [cutT1]
   have k3 : gup G2 p3 (.lst [D.str w0]) p2 = some (.lst (l.map fun p => D.int (p.1 : Int))) := by rw [gup_ne (gne k2 hp3)]; exact k2
   dsimp! only [xin_all, gup_same, k3]
   refine ⟨Nat.le_trans (m := 10) (by simp; omega) (by decide), fun p4 hp4 => ?_⟩
   dsimp! only [gup_same]
   exact post _ ((g1.trans g2).trans ((Grow.refl.new hp3).trans (Grow.refl.new hp4)))
  ·rintro z r σ G2 ⟨l, t, v0, v1, e, e2, g2, k2, rfl⟩ ih
   cases t with
   | nil => cases e2
   | cons c t =>
    cases e2
    refine ⟨⟨by rw [g2.kp _ _ kp]; rfl, by rw [g2.kp _ _ km]; rfl⟩, ?_⟩
    have hc := hk c (by rw [← e]; simp)
    have hlen := congrArg List.length e
    rw [List.length_append, List.length_cons] at hlen
    dsimp! only [id]
    refine c_num T hc.1 hc.2 fun G3 g3 => ?_
    have k3 := g3.kp _ _ k2
    dsimp! only [k3]
    refine ⟨Nat.lt_of_le_of_lt (m := 1000) (by rw [List.length_map]; omega) (by decide), ih _ _ ⟨l ++ [c], t, _, _, by rw [← e]; simp, rfl, (g2.trans g3).own hp2, ?_, rfl⟩⟩
    rw [gup_same, List.map_append]; rfl
theorem ok_read_change {n : Nat} (G_number_in : Ok P w mg base n T.f_number_in (S_number_in T)) (G_read_operand : Ok P w mg base n T.f_read_operand (S_read_operand T)) : Ok P w mg base (n + 1) T.f_read_change (S_read_change T) := by
 refine def_ok T.f_read_change sc_read_change (fun ds G R h => ?_) (fun cdv A outer s H E hr =>
   (ss_cons (s_if (t_cmp (x_ne hr) (e_callB x_len rfl T.b_len (by decide +kernel) (a_cons (ev 0) a_nil)) e_int (nomark _)) (ss_one (s_ret e_non)) ss_nil)
   (ss_cons (s_set 1 sc_read_change.nd (ec T.f_number_in T.g_number_in G_number_in hr (a_cons (e_ix x_ix (ev 0) e_int) (a_cons (e_const T.k_GREATEST) a_nil))))
   (ss_cons (s_set 2 sc_read_change.nd (ec T.f_read_operand T.g_read_operand G_read_operand hr (a_cons (e_ix x_ix (ev 0) e_int) a_nil)))
   (ss_one (s_ret (e_if (t_w (w_or (t_cmp (x_is2) (ev 1) e_non (nomark _)) (w_or1 (t_cmp (x_is2) (ev 2) e_non (nomark _))))) e_non (e_tup (a_cons (e_ix x_ix (ev 0) e_int) (a_cons (ev 1) (a_cons (ev 2) a_nil))))))))))) (fun ds G R h => ?_)
 ·obtain ⟨wa, w0, x, o, rfl, _⟩ := h; rfl
 ·obtain ⟨wa, w0, x, o, rfl, hw, hx, ho, post⟩ := h
  have e3 : (((3 : Nat) : Int) = 3) = True := eq_true rfl
  dsimp! only [hw, List.length, e3]
  (simp only [Go]; dsimp! only [hw])
  refine c_num T (k := x) (m := 9999999999) hx (Nat.le_refl _) fun G1 g1 => ?_
  have hw1 := g1.kp _ _ hw
  dsimp! only [hw1]
  (simp only [Go]; dsimp! only [hw1])
  refine call_nd (post := fun d G' => d = o.d ∧ Grow G1 G') (fun R h => ⟨o, rfl, ho, fun G' z => h _ _ ⟨rfl, z⟩⟩) ?_
  rintro d G2 ⟨rfl, g2⟩
  have hw2 := g2.kp _ _ hw1
  obtain ⟨ds, hd⟩ : ∃ ds, o.d = .tup ds := by cases o <;> exact ⟨_, rfl⟩
  rw [hd]
  (dsimp! only [hw2]; repeat (simp only [Go]; dsimp! only [hw2]))
  rw [← hd]
  exact ⟨by decide, post G2 (g1.trans g2)⟩
theorem ok_read_operand {n : Nat} (G_number_in : Ok P w mg base n T.f_number_in (S_number_in T)) (G_read_box : Ok P w mg base n T.f_read_box (S_read_box T)) : Ok P w mg base (n + 1) T.f_read_operand (S_read_operand T) := by
 refine def_ok T.f_read_operand sc_read_operand (fun ds G R h => ?_) (fun cdv A outer s H E hr =>
   (ss_cons (s_set 1 sc_read_operand.nd (ec T.f_read_box T.g_read_box G_read_box hr (a_cons (ev 0) a_nil)))
   (ss_cons (s_if (t_cmp (x_isNot2) (ev 1) e_non (nomark _)) (ss_one (s_ret (e_tup (a_cons e_str (a_cons (ev 1) a_nil))))) ss_nil)
   (ss_cons (s_set 2 sc_read_operand.nd (ec T.f_number_in T.g_number_in G_number_in hr (a_cons (ev 0) (a_cons (e_bin x_sub (e_const T.k_NUMBERS) e_int) a_nil))))
   (ss_one (s_ret (e_if (t_cmp (x_is2) (ev 2) e_non (nomark _)) e_non (e_tup (a_cons e_str (a_cons (ev 2) a_nil)))))))))) (fun ds G R h => ?_)
 ·obtain ⟨o, rfl, _⟩ := h; rfl
 ·obtain ⟨o, rfl, ho, post⟩ := h
  cases o with
  | num n =>
   obtain ⟨k, rfl⟩ := nat_of ho.1
   have hk := ho.2
   dsimp! only [opS]
   refine c_box0 T ?_
   dsimp! only [id]
   refine c_num T (k := k) (m := 4294967295) (by omega) (by decide) fun G1 g1 => ?_
   (dsimp! only [id]; repeat (simp only [Go]; dsimp! only [id]))
   exact ⟨by decide, post G1 g1⟩
  | box y =>
   dsimp! only [opS]
   refine c_box T ho fun G1 g1 => ?_
   (dsimp! only [id]; repeat (simp only [Go]; dsimp! only [id]))
   exact ⟨by decide, post G1 g1⟩
theorem ok_read_box {n : Nat} (G_number_in : Ok P w mg base n T.f_number_in (S_number_in T)) : Ok P w mg base (n + 1) T.f_read_box (S_read_box T) := by
 refine def_ok T.f_read_box sc_read_box (fun ds G R h => ?_) (fun cdv A outer s H E hr =>
   (ss_one (s_ret (e_if (t_val (e_startswith (ev 0) (a_cons e_str a_nil))) (ec T.f_number_in T.g_number_in G_number_in hr (a_cons (e_sl x_slX (ev 0) (o_some e_int) o_none) (a_cons (e_const T.k_GREATEST) a_nil))) e_non)))) (fun ds G R h => ?_)
 ·obtain ⟨x, rfl, _⟩ := h; rfl
 ·obtain ⟨x, rfl, h⟩ := h
  rcases h with ⟨k, rfl, hk, post⟩ | ⟨k, rfl, post⟩
  ·dsimp! only [id]
   refine ⟨bw k, _, rfl, rfl, ?_⟩
   have e : Txt.startswith (bw k) (Str.ofString "b") = true := by
    rw [sw_b (bw_cps k)]; rfl
   dsimp! only [e]
   refine ⟨bw k, rfl, by rw [bw_len]; have := num_10 hk; exact Nat.le_trans (m := 20) (by omega) (by decide), ?_⟩
   rw [bw_tail k hk]
   exact c_num T (k := k) (m := 9999999999) hk (Nat.le_refl _) post
  ·dsimp! only [id]
   refine ⟨numI (k : Int), _, rfl, rfl, ?_⟩
   have e : Txt.startswith (numI (k : Int)) (Str.ofString "b") = false := by
    obtain ⟨c, r, hc, _⟩ := numI_cons k
    rw [sw_b hc]
    have := dig_ok (k := k) (c := c) (by rw [hc]; simp)
    exact decide_eq_false (by omega)
   dsimp! only [e]
   exact post
theorem ok_read_turn {n : Nat} (G_read_numbers : Ok P w mg base n T.f_read_numbers (S_read_numbers T)) (G_read_cond : Ok P w mg base n T.f_read_cond (S_read_cond T)) : Ok P w mg base (n + 1) T.f_read_turn (S_read_turn T) := by
 refine def_ok T.f_read_turn sc_read_turn (fun ds G R h => ?_) (fun cdv A outer s H E hr =>
   (ss_cons (s_if (t_cmp (x_notIn hr) (e_callB x_len rfl T.b_len (by decide +kernel) (a_cons (ev 0) a_nil)) (e_tup (a_cons e_int (a_cons e_int (a_cons e_int a_nil)))) (by with_unfolding_all rfl)) (ss_one (s_ret e_non)) ss_nil)
   (ss_cons (s_set 1 sc_read_turn.nd (ec T.f_read_numbers T.g_read_numbers G_read_numbers hr (a_cons (e_sl x_sl (ev 0) o_none (o_some e_int)) (a_cons (e_lst (a_cons (e_const T.k_GREATEST) (a_cons (e_bin x_sub (e_const T.k_BITS) e_int) a_nil))) a_nil))))
   (ss_cons (s_setC 2 sc_read_turn.nd (N' := ["at", "words"]) (ix := [none, some 0]) (blk (osc := defScope s_read_turn) (N := ["words", "head", "conds"]) rfl rfl (by decide +kernel)) (i_rng3 rfl T.b_range (a_cons e_int (a_cons (e_callB x_len rfl T.b_len (by decide +kernel) (a_cons (ev 0) a_nil)) (a_cons e_int a_nil)))) (fun _ _ _ _ => (j_name 0 (show (["at", "words"] : List Str).Nodup by decide +kernel))) (fun _ _ _ _ => ifs_nil) (fun _ _ _ _ => (ec T.f_read_cond T.g_read_cond G_read_cond hr (a_cons (e_ix x_ix (ev 1) (ev 0)) (a_cons (e_ix x_ix (ev 1) (e_bin x_add (ev 0) e_int)) a_nil)))))
   (ss_one (s_ret (e_if (t_w (w_or (t_cmp (x_is2) (ev 1) e_non (nomark _)) (w_or1 (t_cmp (x_inNT hr) e_non (ev 2) (by with_unfolding_all rfl))))) e_non (e_bin x_add (ev 1) (e_tup (a_cons (e_callTy x_toTuple rfl T.b_tuple (by decide +kernel) (a_cons (ev 2) a_nil)) a_nil)))))))))) (fun ds G R h => ?_)
 ·obtain ⟨wa, x, i, cs, rfl, _⟩ := h; rfl
 ·obtain ⟨wa, x, i, cs, rfl, hw, hr, post⟩ := h
  have hw' : G wa = some (.lst (.str "turn" :: .str (numI (x : Int)) :: .str (numI (i : Int)) :: (csS cs).map .str)) := hw
  obtain ⟨hx, hi, hl, hc⟩ := hr
  have hin : ∀ (G' : Gp) (q : DK), q (.bl false) G' → xInB true (.int ((2 * cs.length + 1 + 1 + 1 : Nat) : Int)) (.tup [.int 3, .int 5, .int 7]) G' q := fun G' q h => by
   have : cs.length = 0 ∨ cs.length = 1 ∨ cs.length = 2 := by omega
   rcases this with e | e | e <;> rw [e] <;> exact h
  dsimp! only [hw', List.length_cons, List.length_map, csS_len]
  refine ⟨by decide, hin _ _ ?_⟩
  dsimp! only [id]
  (simp only [Go]; dsimp! only [hw'])
  intro p hp
  refine ⟨by decide, fun p2 hp2 => ?_⟩
  have g1 : Grow G (gup (gup G p (.lst (cutD (D.str "turn" :: D.str (numI (x : Int)) :: D.str (numI (i : Int)) :: (csS cs).map D.str) none (some 3)))) p2 (.lst [D.int 9999999999, D.int (32 - 1)])) := (Grow.refl.new hp).trans (Grow.refl.new hp2)
  refine call_nd (post := fun d G' => d = .tup [.str "turn", .int (x : Int), .int (i : Int)] ∧ Grow G G') (fun R h => ⟨p, p2, "turn", [(x, 9999999999), (i, 31)], rfl, ?_, gup_same, ?_, by simp, fun G' z => h _ _ ⟨rfl, g1.trans z⟩⟩) ?_
  ·rw [gup_ne (gne gup_same hp2), gup_same]
   exact congrArg (fun z => some (DO.lst z)) (cut_takeG (n := 3))
  ·intro q hq
   rcases List.mem_cons.mp hq with e | hq
   ·rw [e]; exact ⟨hx, Nat.le_refl _⟩
   ·rw [List.mem_singleton.mp hq]; exact ⟨by show i ≤ 31; omega, (by decide : 31 ≤ 9999999999)⟩
  rintro d G3 ⟨rfl, g3⟩
  have k3 := g3.kp _ _ hw'
  dsimp! only [id]
  (simp only [Go]; dsimp! only [wRng3, k3, List.length_cons, List.length_map, csS_len])
  rw [rng_step]
  refine ⟨⟨by decide, by decide, by decide, by decide, by omega, by omega⟩, fun p3 hp3 => ?_⟩
  refine compL_ind (fun r σ G' => ∃ (j : Nat) (v0 : Option D), j ≤ cs.length ∧ r = ((List.range cs.length).drop j).map (fun (i : Nat) => D.int (3 + (i : Int) * 2)) ∧ Grow G3 G' ∧ G' p3 = some (.lst ((cs.take j).map cd)) ∧ σ = [v0, some (.ref wa)]) ⟨0, none, by omega, rfl, Grow.refl.new hp3, gup_same, rfl⟩ ?_ ?_
  ·rintro σ G4 ⟨j, v0, hj, e2, g4, k4, rfl⟩
   have hj2 : cs.length ≤ j := by
    have := congrArg List.length e2
    rw [List.length_map, List.length_drop, List.length_range] at this
    simp at this; omega
   rw [List.take_of_length_le hj2] at k4
   refine ⟨trivial, ?_⟩
   (simp only [Go]; dsimp! only [id])
   refine ⟨p3, cs.map cd, rfl, rfl, by rw [k4]; rfl, fun d hd => ?_, ?_⟩
   ·obtain ⟨c, _, rfl⟩ := List.mem_map.mp hd
    exact ⟨_, rfl⟩
   dsimp! only [k4, addT]
   exact ⟨by decide, by simp, by exact (by decide : 4 ≤ sizeLine), post G4 (g3.trans g4)⟩
  ·rintro z r σ G4 ⟨j, v0, hj, e2, g4, k4, rfl⟩ ih
   have hj2 : j < cs.length := by
    have := congrArg List.length e2
    rw [List.length_map, List.length_drop, List.length_range, List.length_cons] at this
    omega
   rw [List.drop_eq_getElem_cons (by simpa using hj2), List.map_cons, List.getElem_range] at e2
   obtain ⟨rfl, rfl⟩ := List.cons.inj e2
   obtain ⟨a1, a2⟩ := cs_at (List.getElem?_eq_getElem hj2)
   have hc1 := hc cs[j] (List.getElem_mem _)
   have w1 : atI (D.str "turn" :: D.str (numI (x : Int)) :: D.str (numI (i : Int)) :: (csS cs).map D.str) (3 + (j : Int) * 2) = some (.str (bw cs[j].1)) := by
    rw [show (3 + (j : Int) * 2) = ((2 * j + 1 + 1 + 1 : Nat) : Int) by omega]
    refine atI_nat ?_
    show ((csS cs).map D.str)[2 * j]? = _
    rw [List.getElem?_map, a1]; rfl
   have w2 : atI (D.str "turn" :: D.str (numI (x : Int)) :: D.str (numI (i : Int)) :: (csS cs).map D.str) (3 + (j : Int) * 2 + 1) = some (.str (numI (cs[j].2 : Int))) := by
    rw [show (3 + (j : Int) * 2 + 1) = ((2 * j + 1 + 1 + 1 + 1 : Nat) : Int) by omega]
    refine atI_nat ?_
    show ((csS cs).map D.str)[2 * j + 1]? = _
    rw [List.getElem?_map, a2]; rfl
   have kw := g4.kp _ _ k3
   refine ⟨trivial, ?_⟩
   dsimp! only [kw, w1, w2]
   refine call_nd (post := fun d G' => d = cd cs[j] ∧ Grow G4 G') (fun R h => ⟨cs[j], rfl, hc1.1, hc1.2, fun G' z => h _ _ ⟨rfl, z⟩⟩) ?_
   rintro d G5 ⟨rfl, g5⟩
   have k5 := g5.kp _ _ k4
   dsimp! only [k5]
   refine ⟨Nat.lt_of_le_of_lt (m := 1000) (by rw [List.length_map, List.length_take]; omega) (by decide), ih _ _ ⟨j + 1, _, by omega, rfl, (g4.trans g5).own hp3, ?_, rfl⟩⟩
   rw [gup_same, List.take_succ_eq_append_getElem hj2, List.map_append]; rfl
theorem ok_read_cond {n : Nat} (G_number_in : Ok P w mg base n T.f_number_in (S_number_in T)) (G_read_box : Ok P w mg base n T.f_read_box (S_read_box T)) : Ok P w mg base (n + 1) T.f_read_cond (S_read_cond T) := by
 refine def_ok T.f_read_cond sc_read_cond (fun ds G R h => ?_) (fun cdv A outer s H E hr =>
   (ss_cons (s_set 2 sc_read_cond.nd (ec T.f_read_box T.g_read_box G_read_box hr (a_cons (ev 0) a_nil)))
   (ss_cons (s_set 3 sc_read_cond.nd (ec T.f_number_in T.g_number_in G_number_in hr (a_cons (ev 1) (a_cons (e_bin x_sub (e_const T.k_BITS) e_int) a_nil))))
   (ss_one (s_ret (e_if (t_w (w_or (t_cmp (x_is2) (ev 2) e_non (nomark _)) (w_or1 (t_cmp (x_is2) (ev 3) e_non (nomark _))))) e_non (e_tup (a_cons (ev 2) (a_cons (ev 3) a_nil))))))))) (fun ds G R h => ?_)
 ·obtain ⟨c, rfl, _⟩ := h; rfl
 ·obtain ⟨c, rfl, h1, h2, post⟩ := h
  dsimp! only [id]
  refine c_box T h1 fun G1 g1 => ?_
  dsimp! only [id]
  refine c_num T (k := c.2) (m := 31) (by omega) (by decide) fun G2 g2 => ?_
  (dsimp! only [id]; repeat (simp only [Go]; dsimp! only [id]))
  exact ⟨by decide, post G2 (g1.trans g2)⟩
theorem ok_law_draw {n : Nat} : Ok P w mg base (n + 1) T.f_law_draw (S_law_draw T) := by
 refine def_ok T.f_law_draw sc_law_draw (fun ds G R h => ?_) (fun cdv A outer s H E hr =>
   (ss_cons (s_asg (ev 0) (j_seq (n := 3) rfl (js_cons (j_name 2 sc_law_draw.nd) (js_cons (j_name 3 sc_law_draw.nd) (js_cons (j_name 4 sc_law_draw.nd) js_nil)))))
   (ss_cons (s_if (t_cmp (x_eq hr) (ev 4) e_int (nomark _)) (ss_cons (s_asg (e_bin x_add (ev 3) e_int) (j_sub (ev 0) e_int x_set))
   (ss_cons (s_set 5 sc_law_draw.nd (e_bin x_add (e_bin x_mul e_int (ev 3)) e_int))
   (ss_cons (s_if (t_cmp (x_gt) (e_callB x_len rfl T.b_len (by decide +kernel) (a_cons (ev 2) a_nil)) e_int (nomark _)) (ss_one (s_set 5 sc_law_draw.nd (e_ix x_ix (ev 2) (e_bin x_mod (ev 3) (e_callB x_len rfl T.b_len (by decide +kernel) (a_cons (ev 2) a_nil)))))) ss_nil)
   (ss_cons (s_set 4 sc_law_draw.nd (e_callB x_abs rfl T.b_abs (by decide +kernel) (a_cons (ev 5) a_nil)))
   (ss_one (s_if (t_w (w_or (t_cmp (x_ge) (ev 3) (e_callB x_len rfl T.b_len (by decide +kernel) (a_cons (ev 2) a_nil)) (nomark _)) (w_or1 (t_cmp (x_lt) (ev 4) (e_bin x_pow e_int e_int) (nomark _))))) (ss_cons (s_set 6 sc_law_draw.nd (e_bin x_mod (e_bin x_add (e_bin x_add (e_bin x_mul (e_bin x_mod (ev 5) e_int) (e_bin x_add e_int (ev 3))) (e_bin x_mul e_int (ev 3))) e_int) e_int))
   (ss_cons (s_set 6 sc_law_draw.nd (e_bin x_mod (e_bin x_mul (ev 6) (ev 6)) e_int))
   (ss_one (s_ret (e_bin x_mod (e_bin x_mod (e_bin x_mul (ev 6) (ev 6)) e_int) (ev 1)))))) ss_nil)))))) ss_nil)
   (ss_cons (s_asg (e_callB x_divmodL rfl T.b_divmod (by decide +kernel) (a_cons (ev 4) (a_cons (ev 1) a_nil))) (j_seq (n := 2) rfl (js_cons (j_sub (ev 0) e_int x_set) (js_cons (j_name 7 sc_law_draw.nd) js_nil))))
   (ss_one (s_ret (ev 7))))))) (fun ds G R h => ?_)
 ·obtain ⟨⟨st, m, rfl, _⟩, _⟩ := h; rfl
 ·obtain ⟨⟨st, m, rfl, ⟨a, ns, k, r, hst, ha, hk, hr0, hne, hlen⟩, hm0, hm1⟩, post⟩ := h
  have fin : ∀ (v k' r' : Int), 0 ≤ v → v < m → 0 ≤ k' → 0 ≤ r' → R (.int v) (gup G st (.lst [.ref a, .int k', .int r'])) := fun v k' r' h1 h2 h3 h4 => post _ _ ⟨st, m, v, rfl,
   ⟨⟨a, ns, k', r', gup_same, by rw [gup_ne hne]; exact ha, h3, h4, hne, hlen⟩, fun b o hb e => by rw [gup_ne hb]; exact e⟩, rfl, h1, h2⟩
  have tail : ∀ (y k' r' : Int), 0 ≤ k' → 0 ≤ r' → R (.int (y % m)) (gup G st (.lst [.ref a, .int k', .int r'])) := fun y k' r' h1 h2 => fin _ _ _ (Int.emod_nonneg _ (by omega)) (Int.emod_lt_of_pos _ hm0) h1 h2
  have cd : ∀ c : Int, CDivL c m := fun c => ⟨hm0, by omega⟩
  have cm : ∀ c y : Int, CMul (c % 2147483629) y := fun c y => cmul_l (by omega) (by omega)
  have cm2 : ∀ c y : Int, CMul (c % 2147483587) y := fun c y => cmul_l (by omega) (by omega)
  have c7 : ∀ y : Int, CMul 7 y := fun y => cmul_l (by decide) (by decide)
  have c79 : ∀ y : Int, CMul 7919 y := fun y => cmul_l (by decide) (by decide)
  have cp : CPow 10 18 := ⟨by decide, by decide, by decide⟩
  have p1 : ((0 : Int) < 2147483629) = True := by decide
  have p2 : ((0 : Int) < 2147483587) = True := by decide
  have p3 : ((0 : Int) < 1999999973) = True := by decide
  have p4 : ((0 : Int) < m) = True := eq_true hm0
  by_cases hn : ns = []
  ·subst hn
   (dsimp! only [xDivmodL, hst, ha, gup_ne hne, gup_gup, cd, cm, cm2, c7, c79, cp, p1, p2, p3, p4]; repeat (simp only [Go]; dsimp! only [xDivmodL, hst, ha, gup_ne hne, gup_gup, cd, cm, cm2, c7, c79, cp, p1, p2, p3, p4]))
   refine ite_d (fun h0 => ?_) (fun h0 => ?_)
   ·simp only [Int.lt_irrefl, Int.natCast_zero, decide_false, Bool.false_eq_true, if_false]
    refine ite_d (fun h1 => ?_) (fun h1 => ?_)
    ·exact tail _ _ _ (by omega) hr0
    ·exact absurd hk h1
   ·exact tail _ _ _ hk (Int.ediv_nonneg hr0 (by omega))
  ·have hpos : 0 < ns.length := List.length_pos_iff.mpr hn
   have hl : ((ns.map D.int).length : Int) = (ns.length : Int) := by simp
   obtain ⟨c, hc⟩ : ∃ c, atI (ns.map D.int) (k % (ns.length : Int)) = some (.int c) := ⟨_, atI_map (Int.emod_nonneg _ (by omega)) (Int.emod_lt_of_pos _ (by omega))⟩
   have p5 : ((0 : Int) < (ns.length : Int)) = True := eq_true (by omega)
   (dsimp! only [xDivmodL, hst, ha, gup_ne hne, gup_gup, cd, cm, cm2, c7, c79, cp, p1, p2, p3, p4, hl, hc, p5]; repeat (simp only [Go]; dsimp! only [xDivmodL, hst, ha, gup_ne hne, gup_gup, cd, cm, cm2, c7, c79, cp, p1, p2, p3, p4, hl, hc, p5]))
   refine ite_d (fun h0 => ?_) (fun h0 => ?_)
   ·refine ite_d (fun h1 => ?_) (fun h1 => ?_)
    ·exact tail _ _ _ (by omega) hr0
    ·refine ite_d (fun h2 => ?_) (fun h2 => ?_)
     ·exact tail _ _ _ (by omega) hr0
     ·refine tail _ _ _ (by omega) (Int.ediv_nonneg ?_ (by omega))
      split <;> omega
   ·exact tail _ _ _ hk (Int.ediv_nonneg hr0 (by omega))
theorem ok_law_number {n : Nat} (G_law_draw : Ok P w mg base n T.f_law_draw (S_law_draw T)) : Ok P w mg base (n + 1) T.f_law_number (S_law_number T) := by
 refine def_ok T.f_law_number sc_law_number (fun ds G R h => ?_) (fun cdv A outer s H E hr =>
   (ss_cons (s_set 1 sc_law_number.nd (ec T.f_law_draw T.g_law_draw G_law_draw hr (a_cons (ev 0) (a_cons e_int a_nil))))
   (ss_cons (s_if (t_cmp (x_eq hr) (ev 1) e_int (nomark _)) (ss_one (s_ret (e_bin x_add (e_bin x_mul (ec T.f_law_draw T.g_law_draw G_law_draw hr (a_cons (ev 0) (a_cons (e_bin x_pow e_int e_int) a_nil))) (e_bin x_pow e_int e_int)) (ec T.f_law_draw T.g_law_draw G_law_draw hr (a_cons (ev 0) (a_cons (e_bin x_pow e_int e_int) a_nil)))))) ss_nil)
   (ss_cons (s_if (t_cmp (x_eq hr) (ev 1) e_int (nomark _)) (ss_one (s_ret (e_bin x_sub (e_bin x_sub (e_bin x_pow e_int e_int) e_int) (ec T.f_law_draw T.g_law_draw G_law_draw hr (a_cons (ev 0) (a_cons e_int a_nil)))))) ss_nil)
   (ss_one (s_ret (ec T.f_law_draw T.g_law_draw G_law_draw hr (a_cons (ev 0) (a_cons e_int a_nil))))))))) (fun ds G R h => ?_)
 ·obtain ⟨st, rfl, _⟩ := h; rfl
 ·obtain ⟨st, rfl, hst, post⟩ := h
  (dsimp! only [id]; repeat (simp only [Go]; dsimp! only [id]))
  refine draw_call hst (by decide) (by decide) fun v1 G1 a1 p1 q1 => ?_
  (dsimp! only [id]; repeat (simp only [Go]; dsimp! only [id]))
  refine ite_d (fun h0 => ?_) (fun h0 => ?_)
  ·(dsimp! only [id]; repeat (simp only [Go]; dsimp! only [id]))
   refine ⟨cpow_2 (by decide) (by decide), ?_⟩
   refine draw_call a1.at_ (by decide) (by decide) fun v2 G2 a2 p2 q2 => ?_
   (dsimp! only [id]; repeat (simp only [Go]; dsimp! only [id]))
   refine ⟨cpow_2 (by decide) (by decide), cmul_l (by omega) (by simp only [Int.reduceToNat, Int.reducePow] at q2; omega), cpow_2 (by decide) (by decide), ?_⟩
   refine draw_call a2.at_ (by decide) (by decide) fun v3 G3 a3 p3 q3 => ?_
   (dsimp! only [id]; repeat (simp only [Go]; dsimp! only [id]))
   simp only [Int.reduceToNat, Int.reducePow] at q2 q3 ⊢
   exact post _ _ (a1.trans (a2.trans a3)) (by omega) (by omega)
  ·(dsimp! only [id]; repeat (simp only [Go]; dsimp! only [id]))
   refine ite_d (fun h1 => ?_) (fun h1 => ?_)
   ·(dsimp! only [id]; repeat (simp only [Go]; dsimp! only [id]))
    refine ⟨cpow_2 (by decide) (by decide), ?_⟩
    refine draw_call a1.at_ (by decide) (by decide) fun v2 G2 a2 p2 q2 => ?_
    (dsimp! only [id]; repeat (simp only [Go]; dsimp! only [id]))
    simp only [Int.reduceToNat, Int.reducePow]
    exact post _ _ (a1.trans a2) (by omega) (by omega)
   ·(dsimp! only [id]; repeat (simp only [Go]; dsimp! only [id]))
    refine draw_call a1.at_ (by decide) (by decide) fun v2 G2 a2 p2 q2 => ?_
    exact post _ _ (a1.trans a2) (by omega) (by omega)
theorem ok_law_other {n : Nat} (G_law_draw : Ok P w mg base n T.f_law_draw (S_law_draw T)) : Ok P w mg base (n + 1) T.f_law_other (S_law_other T) := by
 refine def_ok T.f_law_other sc_law_other (fun ds G R h => ?_) (fun cdv A outer s H E hr =>
   (ss_cons (s_set 3 sc_law_other.nd (ec T.f_law_draw T.g_law_draw G_law_draw hr (a_cons (ev 0) (a_cons (e_bin x_sub (ev 1) e_int) a_nil))))
   (ss_one (s_ret (e_bin x_add (ev 3) (e_callTy x_toInt rfl T.b_int (by decide +kernel) (a_cons (e_cmp (x_ge) (ev 3) (ev 2) (nomark _)) a_nil))))))) (fun ds G R h => ?_)
 ·obtain ⟨st, sz, x, rfl, _⟩ := h; rfl
 ·obtain ⟨st, sz, x, rfl, hst, h2, h1000, hx, post⟩ := h
  (dsimp! only [id]; repeat (simp only [Go]; dsimp! only [id]))
  refine draw_call hst (by omega) (by omega) fun v1 G1 a1 p1 q1 => ?_
  (dsimp! only [id]; repeat (simp only [Go]; dsimp! only [id]))
  by_cases hxv : (x : Int) ≤ v1
  ·have e : v1 + (if decide ((x : Int) ≤ v1) = true then (1 : Int) else 0) = ((v1.toNat + 1 : Nat) : Int) := by simp [hxv]; omega
   rw [e]
   exact post _ _ a1 (by omega) (by omega)
  ·have e : v1 + (if decide ((x : Int) ≤ v1) = true then (1 : Int) else 0) = ((v1.toNat : Nat) : Int) := by simp [hxv]; omega
   rw [e]
   exact post _ _ a1 (by omega) (by omega)
theorem ok_law_plain_row {n : Nat} (G_law_draw : Ok P w mg base n T.f_law_draw (S_law_draw T)) (G_law_number : Ok P w mg base n T.f_law_number (S_law_number T)) (G_law_other : Ok P w mg base n T.f_law_other (S_law_other T)) (G_law_bit : Ok P w mg base n T.f_law_bit (S_law_bit T)) : Ok P w mg base (n + 1) T.f_law_plain_row (S_law_plain_row T) := by
 refine def_ok T.f_law_plain_row sc_law_plain_row (fun ds G R h => ?_) (fun cdv A outer s H E hr =>
   (ss_cons (s_set 2 sc_law_plain_row.nd (ec T.f_law_draw T.g_law_draw G_law_draw hr (a_cons (ev 0) (a_cons (ev 1) a_nil))))
   (ss_cons (s_set 3 sc_law_plain_row.nd (ec T.f_law_draw T.g_law_draw G_law_draw hr (a_cons (ev 0) (a_cons e_int a_nil))))
   (ss_cons (s_if (t_w (w_and (t_cmp (x_eq hr) (ev 3) e_int (nomark _)) (w_and1 (t_cmp (x_gt) (ev 1) e_int (nomark _))))) (ss_one (s_ret (e_tup (a_cons e_str (a_cons (ev 2) (a_cons (ec T.f_law_other T.g_law_other G_law_other hr (a_cons (ev 0) (a_cons (ev 1) (a_cons (ev 2) a_nil)))) a_nil)))))) ss_nil)
   (ss_cons (s_if (t_cmp (x_lt) (ev 3) e_int (nomark _)) (ss_cons (s_set 4 sc_law_plain_row.nd (e_lst a_nil))
   (ss_cons (s_for (i_rng1 rfl T.b_range (a_cons (ec T.f_law_draw T.g_law_draw G_law_draw hr (a_cons (ev 0) (a_cons e_int a_nil))) a_nil)) (j_name 5 sc_law_plain_row.nd) (ss_one (s_if (t_cmp (x_gt) (ev 1) e_int (nomark _)) (ss_one (s_expr (e_append (ev 4) (a_cons (e_tup (a_cons (ec T.f_law_other T.g_law_other G_law_other hr (a_cons (ev 0) (a_cons (ev 1) (a_cons (ev 2) a_nil)))) (a_cons (ec T.f_law_bit T.g_law_bit G_law_bit hr (a_cons (ev 0) a_nil)) a_nil))) a_nil)))) ss_nil)))
   (ss_one (s_ret (e_tup (a_cons e_str (a_cons (ev 2) (a_cons (ec T.f_law_bit T.g_law_bit G_law_bit hr (a_cons (ev 0) a_nil)) (a_cons (e_callTy x_toTuple rfl T.b_tuple (by decide +kernel) (a_cons (ev 4) a_nil)) a_nil))))))))) ss_nil)
   (ss_cons (s_set 6 sc_law_plain_row.nd (e_tup (a_cons e_str (a_cons (ec T.f_law_number T.g_law_number G_law_number hr (a_cons (ev 0) a_nil)) a_nil))))
   (ss_cons (s_if (t_w (w_and (t_cmp (x_gt) (ev 1) e_int (nomark _)) (w_and1 (t_cmp (x_eq hr) (ec T.f_law_draw T.g_law_draw G_law_draw hr (a_cons (ev 0) (a_cons e_int a_nil))) e_int (nomark _))))) (ss_one (s_set 6 sc_law_plain_row.nd (e_tup (a_cons e_str (a_cons (ec T.f_law_other T.g_law_other G_law_other hr (a_cons (ev 0) (a_cons (ev 1) (a_cons (ev 2) a_nil)))) a_nil))))) ss_nil)
   (ss_one (s_ret (e_tup (a_cons (e_ix x_ix (e_lst (a_cons e_str (a_cons e_str a_nil))) (e_bin x_mod (ev 3) e_int)) (a_cons (ev 2) (a_cons (ev 6) a_nil))))))))))))) (fun ds G R h => ?_)
 ·obtain ⟨st, sz, rfl, _⟩ := h; rfl
 ·obtain ⟨st, sz, rfl, hst, h1, h1000, post⟩ := h
  have other : ∀ {G : Gp} {x : Nat} {q : DK}, StAt G st → 2 ≤ sz → x < sz → (∀ (y : Nat) G', Adv st G G' → y < sz → y ≠ x → q (.int (y : Int)) G') → ∃ R, S_law_other T [.ref st, .int (sz : Int), .int (x : Int)] G R ∧ ∀ d G', R d G' → q d G' := fun {G x q} hs h2 hx k =>
   call_nd (post := fun d G' => ∃ y : Nat, d = .int (y : Int) ∧ Adv st G G' ∧ y < sz ∧ y ≠ x) (fun R h => ⟨st, sz, x, rfl, hs, h2, h1000, hx, fun y G' a b c => h _ _ ⟨y, rfl, a, b, c⟩⟩) fun d G' ⟨y, e, a, b, c⟩ => by subst e; exact k y G' a b c
  have bitc : ∀ {G : Gp} {q : DK}, StAt G st → (∀ (j : Nat) G', Adv st G G' → j < 32 → q (.int (j : Int)) G') → ∃ R, S_law_bit T [.ref st] G R ∧ ∀ d G', R d G' → q d G' := fun {G q} hs k =>
   call_nd (post := fun d G' => ∃ y : Nat, d = .int (y : Int) ∧ Adv st G G' ∧ y < 32) (fun R h => ⟨st, rfl, hs, fun y G' a b => h _ _ ⟨y, rfl, a, b⟩⟩) fun d G' ⟨y, e, a, b⟩ => by subst e; exact k y G' a b
  have numc : ∀ {G : Gp} {q : DK}, StAt G st → (∀ (v : Int) G', Adv st G G' → 0 ≤ v → v < 4294967296 → q (.int v) G') → ∃ R, S_law_number T [.ref st] G R ∧ ∀ d G', R d G' → q d G' := fun {G q} hs k =>
   call_nd (post := fun d G' => ∃ v : Int, d = .int v ∧ Adv st G G' ∧ 0 ≤ v ∧ v < 4294967296) (fun R h => ⟨st, rfl, hs, fun y G' a b c => h _ _ ⟨y, rfl, a, b, c⟩⟩) fun d G' ⟨y, e, a, b, c⟩ => by subst e; exact k y G' a b c
  have s3 : 3 ≤ sizeLine := by decide
  have s2 : 2 ≤ sizeLine := by decide
  dsimp! only [id]
  refine draw_call hst (by omega) (by omega) fun v1 G1 a1 p1 q1 => ?_
  obtain ⟨x, rfl⟩ : ∃ x : Nat, v1 = (x : Int) := ⟨v1.toNat, by omega⟩
  have hx : x < sz := by omega
  (simp only [Go]; dsimp! only [id])
  refine draw_call a1.at_ (by decide) (by decide) fun v2 G2 a2 p2 q2 => ?_
  have a12 := a1.trans a2
  have two : ∀ (o : Opd) (G' : Gp) (od : D), od = o.d → Adv st G G' → o.ok sz x → ∀ p, G' p = none → (match atI [D.str "add", D.str "take"] (v2 % 2) with | some d => 3 ≤ sizeLine ∧ R (.tup [d, .int (x : Int), od]) (gup G' p (.lst [.str "add", .str "take"])) | none => False) := by
   intro o G' od eo a ho p hp
   subst eo
   have : v2 % 2 = 0 ∨ v2 % 2 = 1 := by omega
   rcases this with e | e
   ·rw [e, atI_0]; exact ⟨s3, post (.add x o) _ (a.new hp) ⟨hx, ho⟩ rfl⟩
   ·rw [e, atI_1]; exact ⟨s3, post (.take x o) _ (a.new hp) ⟨hx, ho⟩ rfl⟩
  (simp only [Go]; dsimp! only [id])
  refine ite_and (fun h0 h2 => ?_) (fun h0 => ?_)
  ·refine other a12.at_ (by omega) hx fun y G3 a3 hy hne => ?_
   exact ⟨s3, post (.swap x y) _ (a12.trans a3) ⟨hx, hy, hne⟩ rfl⟩
  ·(simp only [Go]; dsimp! only [id])
   refine ite_d (fun h4 => ?_) (fun h4 => ?_)
   ·refine ⟨by decide, fun p hp => ?_⟩
    have hps : p ≠ st := a12.at_.ne hp
    have hGp : G p = none := a12.none hp hps
    (simp only [Go]; dsimp! only [id])
    refine draw_call (a12.new hp).at_ (by decide) (by decide) fun v3 G3 a3 p3 q3 => ?_
    have a13 := (a12.new (o := .lst []) hp).trans a3
    have h3 : G3 p = some (.lst []) := a3.kp _ _ hps gup_same
    dsimp! only [id]
    refine ⟨⟨by omega, by omega⟩, ?_⟩
    refine forL_ind (fun r σ G' => ∃ (cs : List (Nat × Nat)) (i : Nat) (v : Option D), r.length = i ∧ cs.length + i ≤ 2 ∧ (∀ c ∈ cs, c.1 < sz ∧ c.1 ≠ x ∧ c.2 < 32) ∧ Adv st G G' ∧ G' p = some (.lst (cs.map cd)) ∧ σ = [some (.ref st), some (.int (sz : Int)), some (.int (x : Int)), some (.int v2), some (.ref p), v, none])
     ⟨[], _, none, rfl, by simp [rngD]; omega, by simp, a13, h3, rfl⟩ ?_ ?_
    ·rintro σ G' ⟨cs, i, v, _, hlen, hcs, a, hp', rfl⟩
     refine ⟨trivial, ?_⟩
     (simp only [Go]; dsimp! only [id])
     refine bitc a.at_ fun j G4 a4 hj => ?_
     have h4' : G4 p = some (.lst (cs.map cd)) := a4.kp _ _ hps hp'
     dsimp! only [h4']
     exact ⟨by decide, post (.turn x j cs) _ (a.trans a4) ⟨hx, hj, by omega, hcs⟩ rfl⟩
    ·rintro z r σ G' ⟨cs, i, v, hr, hlen, hcs, a, hp', rfl⟩ ih
     refine ⟨trivial, ?_⟩
     dsimp! only [hp']
     rw [List.length_cons] at hr
     refine ite_d (fun h5 => ?_) (fun h5 => ?_)
     ·refine other a.at_ (by omega) hx fun y G4 a4 hy hne => ?_
      dsimp! only [id]
      refine bitc a4.at_ fun j G5 a5 hj => ?_
      have a15 := a.trans (a4.trans a5)
      have h5' : G5 p = some (.lst (cs.map cd)) := (a4.trans a5).kp _ _ hps hp'
      dsimp! only [h5']
      refine ⟨s2, by rw [List.length_map]; exact Nat.lt_of_le_of_lt (m := 2) (by omega) (by decide), ?_⟩
      refine ih _ _ ⟨cs ++ [(y, j)], r.length, _, rfl, by rw [List.length_append, List.length_singleton]; omega, ?_, a15.own hGp h5' hps, by rw [gup_same, List.map_append]; rfl, rfl⟩
      intro c hc
      rcases List.mem_append.mp hc with q | q
      ·exact hcs c q
      ·rw [List.mem_singleton] at q; subst q; exact ⟨hy, hne, hj⟩
     ·exact ih _ _ ⟨cs, r.length, _, rfl, by omega, hcs, a, hp', rfl⟩
   ·(simp only [Go]; dsimp! only [id])
    refine numc a12.at_ fun v G3 a3 hv0 hv1 => ?_
    have a13 := a12.trans a3
    dsimp! only [id]
    refine ⟨s2, ?_⟩
    (simp only [Go]; dsimp! only [id])
    by_cases h2 : 1 < sz
    ·have e : decide ((1 : Int) < (sz : Int)) = true := by simp; omega
     dsimp! only [e]
     refine draw_call a13.at_ (by decide) (by decide) fun v4 G4 a4 p4 q4 => ?_
     have a14 := a13.trans a4
     dsimp! only [id]
     refine ite_d (fun h5 => ?_) (fun h5 => ?_)
     ·refine other a14.at_ (by omega) hx fun y G5 a5 hy hne => ?_
      dsimp! only [id]
      refine ⟨s2, ?_⟩
      (simp only [Go]; dsimp! only [id])
      exact ⟨s2, fun p hp => ⟨by decide, two (.box y) _ _ rfl (a14.trans a5) ⟨hy, hne⟩ p hp⟩⟩
     ·(simp only [Go]; dsimp! only [id])
      exact ⟨s2, fun p hp => ⟨by decide, two (.num v) _ _ rfl a14 ⟨hv0, hv1⟩ p hp⟩⟩
    ·have e : decide ((1 : Int) < (sz : Int)) = false := by simp; omega
     dsimp! only [e]
     (simp only [Go]; dsimp! only [id])
     exact ⟨s2, fun p hp => ⟨by decide, two (.num v) _ _ rfl a13 ⟨hv0, hv1⟩ p hp⟩⟩
theorem ok_law_bit {n : Nat} (G_law_draw : Ok P w mg base n T.f_law_draw (S_law_draw T)) : Ok P w mg base (n + 1) T.f_law_bit (S_law_bit T) := by
 refine def_ok T.f_law_bit sc_law_bit (fun ds G R h => ?_) (fun cdv A outer s H E hr =>
   (ss_one (s_ret (e_ix x_ix (e_lst (a_cons (ec T.f_law_draw T.g_law_draw G_law_draw hr (a_cons (ev 0) (a_cons e_int a_nil))) (a_cons (ec T.f_law_draw T.g_law_draw G_law_draw hr (a_cons (ev 0) (a_cons e_int a_nil))) a_nil))) (ec T.f_law_draw T.g_law_draw G_law_draw hr (a_cons (ev 0) (a_cons e_int a_nil))))))) (fun ds G R h => ?_)
 ·obtain ⟨st, rfl, _⟩ := h; rfl
 ·obtain ⟨st, rfl, hst, post⟩ := h
  (dsimp! only [id]; repeat (simp only [Go]; dsimp! only [id]))
  refine draw_call hst (by decide) (by decide) fun v1 G1 a1 p1 q1 => ?_
  (dsimp! only [id]; repeat (simp only [Go]; dsimp! only [id]))
  refine draw_call a1.at_ (by decide) (by decide) fun v2 G2 a2 p2 q2 => ?_
  (dsimp! only [id]; repeat (simp only [Go]; dsimp! only [id]))
  refine ⟨by decide, fun p hp => ?_⟩
  have a12 := (a1.trans a2).new (o := .lst [.int v1, .int v2]) hp
  refine draw_call a12.at_ (by decide) (by decide) fun v3 G3 a3 p3 q3 => ?_
  have hps : p ≠ st := (a1.trans a2).at_.ne hp
  have h3 : G3 p = some (.lst [.int v1, .int v2]) := a3.kp _ _ hps gup_same
  (dsimp! only [h3]; repeat (simp only [Go]; dsimp! only [h3]))
  have : v3 = 0 ∨ v3 = 1 := by omega
  rcases this with rfl | rfl
  ·(dsimp! only [id]; repeat (simp only [Go]; dsimp! only [id]))
   rw [show v1 = ((v1.toNat : Nat) : Int) by omega]
   exact post _ _ (a12.trans a3) (by omega)
  ·(dsimp! only [id]; repeat (simp only [Go]; dsimp! only [id]))
   rw [show v2 = ((v2.toNat : Nat) : Int) by omega]
   exact post _ _ (a12.trans a3) (by omega)
theorem ok_law_code {n : Nat} (G_law_draw : Ok P w mg base n T.f_law_draw (S_law_draw T)) (G_law_number : Ok P w mg base n T.f_law_number (S_law_number T)) (G_law_plain_row : Ok P w mg base n T.f_law_plain_row (S_law_plain_row T)) : Ok P w mg base (n + 1) T.f_law_code (S_law_code T) := by
 refine def_ok T.f_law_code sc_law_code (fun ds G R h => ?_) (fun cdv A outer s H E hr =>
   (ss_cons (s_set 4 sc_law_code.nd (e_bin x_mul (e_lst (a_cons e_non a_nil)) (ev 2)))
   (ss_cons (s_for (i_rng1 rfl T.b_range (a_cons (ev 2) a_nil)) (j_name 5 sc_law_code.nd) (ss_cons (s_setC 6 sc_law_code.nd (N' := ["_law_k", "_law_at", "_law_rows"]) (ix := [none, some 5, some 4]) (blk (osc := defScope s_law_code) (N := ["_law_state", "_law_size", "_law_many", "_law_jumps", "_law_rows", "_law_at", "_law_free", "_law_k", "_law_x", "_law_n", "_law_turn"]) rfl rfl (by decide +kernel)) (i_rng1 rfl T.b_range (a_cons (ev 2) a_nil)) (fun _ _ _ _ => (j_name 0 (show (["_law_k", "_law_at", "_law_rows"] : List Str).Nodup by decide +kernel))) (fun _ _ _ _ => (ifs_one (t_w (w_and (t_cmp (x_ne hr) (ev 0) (ev 1) (nomark _)) (w_and1 (t_cmp (x_is2) (e_ix x_ix (ev 2) (ev 0)) e_non (nomark _))))))) (fun _ _ _ _ => (ev 0)))
   (ss_one (s_if (t_w (w_and (t_cmp (x_is2) (e_ix x_ix (ev 4) (ev 5)) e_non (nomark _)) (w_and (t_cmp (x_ne hr) (ev 6) (e_lst a_nil) (nomark _)) (w_and1 (t_cmp (x_lt) (ec T.f_law_draw T.g_law_draw G_law_draw hr (a_cons (ev 0) (a_cons e_int a_nil))) (ev 3) (nomark _)))))) (ss_cons (s_set 7 sc_law_code.nd (e_ix x_ix (ev 6) (ec T.f_law_draw T.g_law_draw G_law_draw hr (a_cons (ev 0) (a_cons (e_callB x_len rfl T.b_len (by decide +kernel) (a_cons (ev 6) a_nil)) a_nil)))))
   (ss_cons (s_set 8 sc_law_code.nd (ec T.f_law_draw T.g_law_draw G_law_draw hr (a_cons (ev 0) (a_cons (ev 1) a_nil))))
   (ss_cons (s_set 9 sc_law_code.nd (ec T.f_law_number T.g_law_number G_law_number hr (a_cons (ev 0) a_nil)))
   (ss_cons (s_set 10 sc_law_code.nd (ec T.f_law_draw T.g_law_draw G_law_draw hr (a_cons (ev 0) (a_cons e_int a_nil))))
   (ss_cons (s_asg (e_tup (a_cons (e_ix x_ix (e_lst (a_cons e_str (a_cons e_str (a_cons e_str (a_cons e_str a_nil))))) (ev 10)) (a_cons (ev 8) (a_cons (ev 9) (a_cons (ev 7) a_nil))))) (j_sub (ev 4) (ev 5) x_set))
   (ss_one (s_asg (e_tup (a_cons (e_ix x_ix (e_lst (a_cons e_str (a_cons e_str (a_cons e_str (a_cons e_str a_nil))))) (ev 10)) (a_cons (ev 8) (a_cons (ev 9) (a_cons (ev 5) a_nil))))) (j_sub (ev 4) (ev 7) x_set)))))))) (ss_one (s_if (t_cmp (x_is2) (e_ix x_ix (ev 4) (ev 5)) e_non (nomark _)) (ss_one (s_asg (ec T.f_law_plain_row T.g_law_plain_row G_law_plain_row hr (a_cons (ev 0) (a_cons (ev 1) a_nil))) (j_sub (ev 4) (ev 5) x_set))) ss_nil))))))
   (ss_one (s_ret (e_tup (a_cons (ev 1) (a_cons (ev 4) a_nil)))))))) (fun ds G R h => ?_)
 ·obtain ⟨st, sz, m, jm, rfl, _⟩ := h; rfl
 ·obtain ⟨st, sz, m, jm, rfl, hst, hs1, hs2, hm, post⟩ := h
  have rowc : ∀ {G : Gp} {q : DK}, StAt G st → (∀ (row : Row) G', Adv st G G' → row.ok sz → row.plain = true → q row.d G') → ∃ R, S_law_plain_row T [.ref st, .int (sz : Int)] G R ∧ ∀ d G', R d G' → q d G' := fun {G q} hs k =>
   call_nd (post := fun d G' => ∃ row : Row, d = row.d ∧ Adv st G G' ∧ row.ok sz ∧ row.plain = true) (fun R h => ⟨st, sz, rfl, hs, hs1, hs2, fun y G' a b c => h _ _ ⟨y, rfl, a, b, c⟩⟩) fun d G' ⟨y, e, a, b, c⟩ => by subst e; exact k y G' a b c
  have numc : ∀ {G : Gp} {q : DK}, StAt G st → (∀ (v : Int) G', Adv st G G' → 0 ≤ v → v < 4294967296 → q (.int v) G') → ∃ R, S_law_number T [.ref st] G R ∧ ∀ d G', R d G' → q d G' := fun {G q} hs k =>
   call_nd (post := fun d G' => ∃ v : Int, d = .int v ∧ Adv st G G' ∧ 0 ≤ v ∧ v < 4294967296) (fun R h => ⟨st, rfl, hs, fun y G' a b c => h _ _ ⟨y, rfl, a, b, c⟩⟩) fun d G' ⟨y, e, a, b, c⟩ => by subst e; exact k y G' a b c
  have s2 : 2 ≤ sizeLine := by decide
  have s3 : 3 ≤ sizeLine := by decide
  have s4 : 4 ≤ sizeLine := by decide
  dsimp! only [id]
  refine ⟨by decide, fun p0 hp0 => ⟨⟨by omega, by omega, ?_⟩, fun ra hra => ?_⟩⟩
  ·exact Nat.le_trans (m := 1000) (by omega) (by decide)
  have a0 := (Adv.refl hst).new (o := .lst [.non]) hp0
  have hras : ra ≠ st := a0.at_.ne hra
  have hGra : G ra = none := a0.none hra hras
  have a1 := a0.new (o := .lst (List.replicate m [D.non]).flatten) hra
  (simp only [Go]; dsimp! only [id])
  refine ⟨rng_ok (Nat.le_trans hm (by decide)), ?_⟩
  refine forL_ind (fun r σ G' => ∃ (i k : Nat) (os : List (Option Row)) (v5 v6 v7 v8 v9 v10 : Option D), r = rngD (i : Int) k ∧ i + k = m ∧ os.length = m ∧ PairsO os ∧ (∀ r, some r ∈ os → r.ok sz) ∧ (∀ j, j < i → ∃ r, os[j]? = some (some r)) ∧ Adv st G G' ∧ G' ra = some (.lst (os.map od)) ∧
    σ = [some (.ref st), some (.int (sz : Int)), some (.int (m : Int)), some (.int jm), some (.ref ra), v5, v6, v7, v8, v9, v10])
   ⟨0, m, List.replicate m none, none, none, none, none, none, none, rfl, Nat.zero_add m, by simp, PairsO.empty, fun r h => by (have := (List.mem_replicate.mp h).2; cases this), fun j h => absurd h (Nat.not_lt_zero j), a1, by rw [gup_same, flat_one, List.map_replicate]; rfl, rfl⟩ ?_ ?_
  ·rintro σ G' ⟨i, k, os, v5, v6, v7, v8, v9, v10, e, hik, hos, hpo, hok, hall, a, hg, rfl⟩
   have hk : k = 0 := by
    cases k with
    | zero => rfl
    | succ k => rw [rngD_succ] at e; cases e
   subst hk
   obtain ⟨rs, rfl⟩ := all_laid fun j hj => hall j (by omega)
   refine ⟨trivial, ?_⟩
   (simp only [Go]; dsimp! only [id])
   refine ⟨by decide, post ra rs G' a hGra (by rw [hg, od_laid]) (by simpa using hos) (fun r hr => hok r (List.mem_map_of_mem hr)) hpo.pairs⟩
  ·rintro z r σ G' ⟨i, k, os, v5, v6, v7, v8, v9, v10, e, hik, hos, hpo, hok, hall, a, hg, rfl⟩ ih
   cases k with
   | zero => cases e
   | succ k =>
    rw [rngD_succ] at e
    cases e
    refine ⟨trivial, ?_⟩
    have hi : i < os.length := hos ▸ i_lt hik
    have hlen : (os.map od).length = m := by rw [List.length_map]; exact hos
    have hat : ∀ j, j < os.length → atI (os.map od) (j : Int) = some (od os[j]!) := fun j hj => by
     refine atI_nat ?_
     rw [List.getElem?_map, List.getElem?_eq_getElem hj, List.getElem!_eq_getElem?_getD, List.getElem?_eq_getElem hj]; rfl
    have hget : ∀ j (hj : j < os.length), os[j]? = some os[j]! := fun j hj => by
     rw [List.getElem!_eq_getElem?_getD, List.getElem?_eq_getElem hj]; rfl
    dsimp! only [id]
    refine ⟨rng_ok (Nat.le_trans hm (by decide)), fun p hp => ?_⟩
    have hps : p ≠ st := a.at_.ne hp
    have hpra : p ≠ ra := gne' hp hg
    refine compL_ind (fun r' σ' G'' => ∃ (i' k' : Nat) (ks : List Int) (v : Option D), r' = rngD (i' : Int) k' ∧ i' + k' = m ∧ ks.length + k' ≤ m ∧ (∀ z ∈ ks, ∃ j : Nat, z = (j : Int) ∧ j ≠ i ∧ os[j]? = some none) ∧ G'' = gup G' p (.lst (ks.map .int)) ∧ σ' = [v, some (.int (i : Int)), some (.ref ra)])
     ⟨0, m, [], none, rfl, Nat.zero_add m, by simp, by simp, rfl, rfl⟩ ?_ ?_
    ·rintro σ' G'' ⟨i', k', ks, v, e', hik', hks, hfree, rfl, rfl⟩
     refine ⟨trivial, ?_⟩
     have a2 := a.new (o := .lst (ks.map .int)) hp
     have hg2 : gup G' p (.lst (ks.map .int)) ra = some (.lst (os.map od)) := by rw [gup_ne (Ne.symm hpra)]; exact hg
     have lay : ∀ (G3 : Gp) (w5 : Option D), os[i]? = some none → Adv st G G3 → G3 ra = some (.lst (os.map od)) → ∀ {q : DSt → Gp → Prop}, (∀ (row : Row) (G4 : Gp), row.ok sz → row.plain = true → Adv st G G4 → G4 ra = some (.lst ((os.set i (some row)).map od)) → q [some (.ref st), some (.int (sz : Int)), some (.int (m : Int)), some (.int jm), some (.ref ra), some (.int (i : Int)), w5, v7, v8, v9, v10] G4) →
       dAsg (dCall (S_law_plain_row T) [] (dCons (dVar 0) (dCons (dVar 1) dNil))) (jSub (dVar 4) (dVar 5) xSet) { nx := q, rt := R } [some (.ref st), some (.int (sz : Int)), some (.int (m : Int)), some (.int jm), some (.ref ra), some (.int (i : Int)), w5, v7, v8, v9, v10] G3 := by
      intro G3 w5 hi0 a3 h3 q hq
      dsimp! only [id]
      refine rowc a3.at_ fun row G4 a4 ho hpl => ?_
      have h4 := a4.kp _ _ hras h3
      have hix : ixN (os.map od).length (i : Int) = some i := ixN_of (hlen ▸ i_lt hik)
      dsimp! only [h4, hix]
      refine hq row _ ho hpl ((a3.trans a4).own hGra h4 hras) ?_
      rw [gup_same, List.map_set]
      rfl
     have stays : ∀ (G4 : Gp) (os' : List (Option Row)) (w4 w5 w6 w7 w8 w9 : Option D), os'.length = m → PairsO os' → (∀ r, some r ∈ os' → r.ok sz) → (∀ j, j < i + 1 → ∃ r, os'[j]? = some (some r)) → Adv st G G4 → G4 ra = some (.lst (os'.map od)) → ∃ (i' k' : Nat) (os : List (Option Row)) (v5 v6 v7 v8 v9 v10 : Option D), rngD ((i : Int) + 1) k = rngD (i' : Int) k' ∧ i' + k' = m ∧ os.length = m ∧ PairsO os ∧ (∀ r, some r ∈ os → r.ok sz) ∧ (∀ j, j < i' → ∃ r, os[j]? = some (some r)) ∧ Adv st G G4 ∧ G4 ra = some (.lst (os.map od)) ∧
       [some (.ref st), some (.int (sz : Int)), some (.int (m : Int)), some (.int jm), some (.ref ra), w4, w5, w6, w7, w8, w9] = [some (.ref st), some (.int (sz : Int)), some (.int (m : Int)), some (.int jm), some (.ref ra), v5, v6, v7, v8, v9, v10] :=
      fun G4 os' w4 w5 w6 w7 w8 w9 h1 h2 h3 h4 h5 h6 => ⟨i + 1, k, os', w4, w5, w6, w7, w8, w9, rfl, st_step hik, h1, h2, h3, h4, h5, h6, rfl⟩
     have laid : ∀ (row : Row) (G4 : Gp) (w4 w5 w6 w7 w8 w9 : Option D), os[i]? = some none → row.ok sz → row.plain = true → Adv st G G4 → G4 ra = some (.lst ((os.set i (some row)).map od)) → _ := fun row G4 w4 w5 w6 w7 w8 w9 h0 h1 h2 h3 h4 => stays G4 (os.set i (some row)) w4 w5 w6 w7 w8 w9 (by rw [List.length_set]; exact hos) (hpo.plain h0 h2) (fun r hr => by
      rcases List.mem_or_eq_of_mem_set hr with q | q
      ·exact hok r q
      ·cases q; exact h1) (fun j hj => by
      rw [List.getElem?_set]
      by_cases e : i = j
      ·rw [if_pos e, if_pos hi]; exact ⟨_, rfl⟩
      ·rw [if_neg e]; exact hall j (lt_ne hj e)) h3 h4
     (simp only [Go]; dsimp! only [id])
     dsimp! only [hg2, hat i hi]
     cases ho : os[i]! with
     | some r =>
      have fin := stays (gup G' p (.lst (ks.map .int))) os (some (.int (i : Int))) (some (.ref p)) v7 v8 v9 v10 hos hpo hok (fun j hj => by
       by_cases e : j = i
       ·subst e; exact ⟨r, by rw [hget j hi, ho]⟩
       ·exact hall j (lt_ne' hj e)) a2 hg2
      cases r <;> (dsimp! only [od, Row.d, hg2, hat i hi, ho]; exact ih _ _ fin)
     | none =>
      have hi0 : os[i]? = some none := by rw [hget i hi, ho]
      dsimp! only [od]
      refine ⟨by decide, fun p2 hp2 => ?_⟩
      have hpp2 : p ≠ p2 := fun e => by rw [← e, gup_same] at hp2; cases hp2
      have a3 := a2.new (o := .lst []) hp2
      have hra2 : gup (gup G' p (.lst (ks.map .int))) p2 (.lst []) ra = some (.lst (os.map od)) := by rw [gup_ne (gne hg2 hp2)]; exact hg2
      have hpv : gup (gup G' p (.lst (ks.map .int))) p2 (.lst []) p = some (.lst (ks.map .int)) := by rw [gup_ne hpp2, gup_same]
      refine cmp_ints (ks := ks) (ms := []) (by rw [hpv]; rfl) (by rw [gup_same]; rfl) ?_
      dsimp! only [id]
      refine ite_b (fun hb => ?_) (fun hb => ?_)
      ·have hksm : ks.length ≤ m := Nat.le_trans (Nat.le_add_right _ _) hks
       have hk0 : 0 < ks.length := by
        cases ks with
        | nil => cases hb
        | cons z zs => simp
       refine draw_call a3.at_ (by decide) (by decide) fun v G4 a4 l0 h0 => ?_
       have g4 := a4.kp _ _ hras hra2
       have p4 := a4.kp _ _ hps hpv
       have A4 := a3.trans a4
       refine ite_d (fun hv => ?_) (fun hv => ?_)
       ·dsimp! only [p4, List.length_map]
        refine draw_call a4.at_ (ipos hk0) (ismall (Nat.le_trans hksm hm)) fun w1 G6 a6 l1 h1 => ?_
        have A6 := A4.trans a6
        have p6 : G6 p = some (.lst (ks.map .int)) := a6.kp _ _ hps p4
        have g6 : G6 ra = some (.lst (os.map od)) := a6.kp _ _ hras g4
        dsimp! only [p6, atI_map l1 h1]
        obtain ⟨l, el, hli, hl0⟩ := hfree _ (List.getElem_mem (show w1.toNat < ks.length from tn_lt l1 h1))
        rw [el]
        have hll := lt_of hl0
        (simp only [Go]; dsimp! only [id])
        refine draw_call a6.at_ (ipos hs1) (ismall hs2) fun u1 G7 a7 m1 k1 => ?_
        obtain ⟨x, rfl⟩ : ∃ x : Nat, u1 = (x : Int) := to_nat m1
        have hxs : x < sz := nlt k1
        (simp only [Go]; dsimp! only [id])
        refine numc a7.at_ fun n0 G8 a8 m2 k2 => ?_
        (simp only [Go]; dsimp! only [id])
        refine draw_call a8.at_ (by decide) (by decide) fun t G9 a9 m3 k3 => ?_
        have A9 := ((A6.trans a7).trans a8).trans a9
        have g9 := a9.kp _ _ hras (a8.kp _ _ hras (a7.kp _ _ hras g6))
        have hix : ∀ os' : List (Option Row), os'.length = m → ixN (os'.map od).length (i : Int) = some i := fun os' h => ixN_of (by rw [List.length_map, h]; exact i_lt hik)
        have hixl : ∀ os' : List (Option Row), os'.length = m → ixN (os'.map od).length (l : Int) = some l := fun os' h => ixN_of (by rw [List.length_map, h, ← hos]; exact hll)
        have both : ∀ (ra1 rb : Row) (G12 : Gp), (ra1 = .go x n0 l ∧ rb = .come x n0 i) ∨ (ra1 = .come x n0 l ∧ rb = .go x n0 i) → Adv st G G12 → G12 ra = some (.lst (((os.set i (some ra1)).set l (some rb)).map od)) → ∀ w4 w5 w6 w7 w8 w9, _ := fun ra1 rb G12 hab a12 g12 w4 w5 w6 w7 w8 w9 => stays G12 ((os.set i (some ra1)).set l (some rb)) w4 w5 w6 w7 w8 w9 (by rw [List.length_set, List.length_set]; exact hos) (hpo.pair hi0 hl0 hli hab) (fun r hr => by
         have okp : ra1.ok sz ∧ rb.ok sz := by
          rcases hab with ⟨rfl, rfl⟩ | ⟨rfl, rfl⟩ <;> exact ⟨⟨hxs, m2, k2⟩, ⟨hxs, m2, k2⟩⟩
         rcases List.mem_or_eq_of_mem_set hr with q | q
         ·rcases List.mem_or_eq_of_mem_set q with q | q
          ·exact hok r q
          ·cases q; exact okp.1
         ·cases q; exact okp.2) (fun j hj => by
         rw [List.getElem?_set, List.length_set]
         by_cases e1 : l = j
         ·rw [if_pos e1, if_pos hll]; exact ⟨_, rfl⟩
         ·rw [if_neg e1, List.getElem?_set]
          by_cases e2 : i = j
          ·rw [if_pos e2, if_pos hi]; exact ⟨_, rfl⟩
          ·rw [if_neg e2]; exact hall j (lt_ne hj e2)) a12 g12
        have : (atI [D.str "go", .str "go", .str "go", .str "come"] t = some (.str "go") ∧ atI [D.str "come", .str "come", .str "come", .str "go"] t = some (.str "come")) ∨ (atI [D.str "go", .str "go", .str "go", .str "come"] t = some (.str "come") ∧ atI [D.str "come", .str "come", .str "come", .str "go"] t = some (.str "go")) := by
         have : t = 0 ∨ t = 1 ∨ t = 2 ∨ t = 3 := cases4 m3 k3
         rcases this with rfl | rfl | rfl | rfl
         ·exact .inl ⟨atI_0, atI_0⟩
         ·exact .inl ⟨atI_1, atI_1⟩
         ·exact .inl ⟨atI_2, atI_2⟩
         ·exact .inr ⟨atI_3, atI_3⟩
        rcases this with ⟨e1, e2⟩ | ⟨e1, e2⟩
        ·(simp only [Go]; dsimp! only [g9])
         refine ⟨s4, fun q1 hq1 => ?_⟩
         have gq1 : gup G9 q1 (.lst [.str "go", .str "go", .str "go", .str "come"]) ra = some (.lst (os.map od)) := by rw [gup_ne (gne g9 hq1)]; exact g9
         dsimp! only [gq1, e1, hix os hos]
         refine ⟨s4, ?_⟩
         have A10 := (A9.new (o := .lst [.str "go", .str "go", .str "go", .str "come"]) hq1).own (ys := (os.set i (some (Row.go x n0 l))).map od) hGra gq1 hras
         have e10 : (os.map od).set i (Row.go x n0 l).d = (os.set i (some (Row.go x n0 l))).map od := by rw [List.map_set]; rfl
         have e10' := e10
         simp only [Row.d] at e10'
         rw [e10']
         (simp only [Go]; dsimp! only [id])
         refine ⟨s4, fun q2 hq2 => ?_⟩
         have nq2 : ra ≠ q2 := fun e => by rw [← e, gup_same] at hq2; cases hq2
         dsimp! only [gup_ne nq2, e2, hixl (os.set i (some (Row.go x n0 l))) (by rw [List.length_set]; exact hos)]
         refine ⟨s4, ?_⟩
         have gq2 : gup (gup (gup G9 q1 (.lst [.str "go", .str "go", .str "go", .str "come"])) ra (.lst ((os.set i (some (Row.go x n0 l))).map od))) q2 (.lst [.str "come", .str "come", .str "come", .str "go"]) ra = some (.lst ((os.set i (some (Row.go x n0 l))).map od)) := by rw [gup_ne nq2, gup_same]
         refine ih _ _ (both (Row.go x n0 l) (Row.come x n0 i) _ (.inl ⟨rfl, rfl⟩) ((A10.new hq2).own hGra gq2 hras) ?_ _ _ _ _ _ _)
         simp only [gup_same, List.map_set]
         rfl
        ·(simp only [Go]; dsimp! only [g9])
         refine ⟨s4, fun q1 hq1 => ?_⟩
         have gq1 : gup G9 q1 (.lst [.str "go", .str "go", .str "go", .str "come"]) ra = some (.lst (os.map od)) := by rw [gup_ne (gne g9 hq1)]; exact g9
         dsimp! only [gq1, e1, hix os hos]
         refine ⟨s4, ?_⟩
         have A10 := (A9.new (o := .lst [.str "go", .str "go", .str "go", .str "come"]) hq1).own (ys := (os.set i (some (Row.come x n0 l))).map od) hGra gq1 hras
         have e10 : (os.map od).set i (Row.come x n0 l).d = (os.set i (some (Row.come x n0 l))).map od := by rw [List.map_set]; rfl
         have e10' := e10
         simp only [Row.d] at e10'
         rw [e10']
         (simp only [Go]; dsimp! only [id])
         refine ⟨s4, fun q2 hq2 => ?_⟩
         have nq2 : ra ≠ q2 := fun e => by rw [← e, gup_same] at hq2; cases hq2
         dsimp! only [gup_ne nq2, e2, hixl (os.set i (some (Row.come x n0 l))) (by rw [List.length_set]; exact hos)]
         refine ⟨s4, ?_⟩
         have gq2 : gup (gup (gup G9 q1 (.lst [.str "go", .str "go", .str "go", .str "come"])) ra (.lst ((os.set i (some (Row.come x n0 l))).map od))) q2 (.lst [.str "come", .str "come", .str "come", .str "go"]) ra = some (.lst ((os.set i (some (Row.come x n0 l))).map od)) := by rw [gup_ne nq2, gup_same]
         refine ih _ _ (both (Row.come x n0 l) (Row.go x n0 i) _ (.inr ⟨rfl, rfl⟩) ((A10.new hq2).own hGra gq2 hras) ?_ _ _ _ _ _ _)
         simp only [gup_same, List.map_set]
         rfl
       ·dsimp! only [g4, hat i hi, ho, od]
        exact lay G4 _ hi0 A4 g4 fun row G5 h1 h2 h3 h4 => ih _ _ (laid row G5 _ _ _ _ _ _ hi0 h1 h2 h3 h4)
      ·dsimp! only [hra2, hat i hi, ho, od]
       exact lay _ _ hi0 a3 hra2 fun row G5 h1 h2 h3 h4 => ih _ _ (laid row G5 _ _ _ _ _ _ hi0 h1 h2 h3 h4)
    ·rintro z' r' σ' G'' ⟨i', k', ks, v, e', hik', hks, hfree, rfl, rfl⟩ ih'
     cases k' with
     | zero => cases e'
     | succ k' =>
      rw [rngD_succ] at e'
      cases e'
      refine ⟨trivial, ?_⟩
      have hi' : i' < os.length := hos ▸ i_lt hik'
      have hg2 : gup G' p (.lst (ks.map .int)) ra = some (.lst (os.map od)) := by rw [gup_ne (Ne.symm hpra)]; exact hg
      have skip := ih' [some (.int (i' : Int)), some (.int (i : Int)), some (.ref ra)] (gup G' p (.lst (ks.map .int))) ⟨i' + 1, k', ks, _, rfl, st_step hik', le_step hks, hfree, rfl, rfl⟩
      dsimp! only [hg2, hat i' hi']
      have ne1 : (!decide ((i' : Int) = (i : Int))) = decide (i' ≠ i) := by
       by_cases q : i' = i
       ·simp [q]
       ·have : ¬ (i' : Int) = (i : Int) := nint q
        simp [q, this]
      rw [ne1]
      refine ite_d (fun h0 => ?_) (fun h0 => ?_)
      ·cases ho : os[i']! with
       | some r => cases r <;> (dsimp! only [od, Row.d]; exact skip)
       | none =>
        dsimp! only [od]
        refine ⟨by rw [List.length_map]; exact Nat.lt_of_le_of_lt (m := 1000) (Nat.le_trans (le_lt hks) hm) (by decide), ?_⟩
        refine ih' _ _ ⟨i' + 1, k', ks ++ [(i' : Int)], _, rfl, st_step hik', by rw [List.length_append, List.length_singleton]; exact le_step1 hks, fun z hz => ?_, by rw [gup_gup, List.map_append]; rfl, rfl⟩
        rcases List.mem_append.mp hz with q | q
        ·exact hfree z q
        ·rw [List.mem_singleton] at q; subst q
         exact ⟨i', rfl, h0, by rw [hget i' hi', ho]⟩
      ·exact skip
theorem ok_law_row_text {n : Nat} : Ok P w mg base (n + 1) T.f_law_row_text (S_law_row_text T) := by
 refine def_ok T.f_law_row_text sc_law_row_text (fun ds G R h => ?_) (fun cdv A outer s H E hr =>
   (ss_cons (s_set 1 sc_law_row_text.nd (e_lst (a_cons (e_ix x_ix (ev 0) e_int) (a_cons (e_callTy x_toStr rfl T.b_str (by decide +kernel) (a_cons (e_ix x_ix (ev 0) e_int) a_nil)) a_nil))))
   (ss_cons (s_if (t_cmp (x_in hr) (e_ix x_ix (ev 0) e_int) (e_tup (a_cons e_str (a_cons e_str a_nil))) (by with_unfolding_all rfl)) (ss_one (s_expr (e_append (ev 1) (a_cons (e_bin x_add (e_ix x_ix (e_lst (a_cons e_str (a_cons e_str a_nil))) (e_callTy x_toInt rfl T.b_int (by decide +kernel) (a_cons (e_cmp (x_eq hr) (e_ix x_ix (e_ix x_ix (ev 0) e_int) e_int) e_str (nomark _)) a_nil))) (e_callTy x_toStr rfl T.b_str (by decide +kernel) (a_cons (e_ix x_ix (e_ix x_ix (ev 0) e_int) e_int) a_nil))) a_nil)))) (ss_one (s_if (t_cmp (x_eq hr) (e_ix x_ix (ev 0) e_int) e_str (nomark _)) (ss_cons (s_expr (e_append (ev 1) (a_cons (e_callTy x_toStr rfl T.b_str (by decide +kernel) (a_cons (e_ix x_ix (ev 0) e_int) a_nil)) a_nil)))
   (ss_one (s_for (i_any (e_ix x_ix (ev 0) e_int)) (j_seq (n := 2) rfl (js_cons (j_name 2 sc_law_row_text.nd) (js_cons (j_name 3 sc_law_row_text.nd) js_nil))) (ss_one (s_set 1 sc_law_row_text.nd (e_bin x_add (ev 1) (e_lst (a_cons (e_bin x_add e_str (e_callTy x_toStr rfl T.b_str (by decide +kernel) (a_cons (ev 2) a_nil))) (a_cons (e_callTy x_toStr rfl T.b_str (by decide +kernel) (a_cons (ev 3) a_nil)) a_nil))))))))) (ss_one (s_set 1 sc_law_row_text.nd (e_bin x_add (ev 1) (e_comp (N' := ["_law_number_here"]) (ix := [none]) (blk (osc := defScope s_law_row_text) (N := ["_law_row", "_law_words", "_law_y", "_law_j"]) rfl rfl (by decide +kernel)) (i_any (e_sl x_slT (ev 0) (o_some e_int) o_none)) (fun _ _ _ _ => (j_name 0 (show (["_law_number_here"] : List Str).Nodup by decide +kernel))) (fun _ _ _ _ => ifs_nil) (fun _ _ _ _ => (e_callTy x_toStr rfl T.b_str (by decide +kernel) (a_cons (ev 0) a_nil))))))))))
   (ss_one (s_ret (e_join e_str (a_cons (ev 1) a_nil))))))) (fun ds G R h => ?_)
 ·obtain ⟨r, rfl, _⟩ := h; rfl
 ·obtain ⟨r, rfl, hr, post⟩ := h
  have fin : ∀ (G' : Gp) (p : Addr) (s2 : Str), s2 = " " → Grow G G' → G' p = some (.lst ((rwS r).map .str)) → mJoin (.str s2) [.ref p] G' R := fun G' p s2 es g k => by
   subst es
   obtain ⟨f3, f4⟩ := jn_fitsB sp1 (B := 11) (N := 7) (fun w hw => (rw_wd hr w hw).1) (rw_len hr) (by decide)
   exact ⟨_, p, rwS r, rfl, rfl, by rw [k]; rfl, f3, f4, post G' g⟩
  have core : ∀ (w0 : Str) (x : Nat) (ns : List Int), (∀ n ∈ ns, 0 ≤ n ∧ n ≤ 9999999999) → ns.length ≤ 3 → rwS r = w0 :: numI (x : Int) :: ns.map numI → ∀ (p : Addr) (G1 : Gp), Grow G G1 → G1 p = some (.lst [.str w0, .str (numI (x : Int))]) →
    xSlT (D.tup (.str w0 :: .int (x : Int) :: ns.map .int)) (some 2) none G1 fun x_1 G1 =>
     match x_1 with
     | D.ref a =>
      match seqOf (G1 a) with
      | some ds =>
       ∀ (p_1 : Addr),
        G1 p_1 = none →
         compL (fun G => seqOf (G a) = some ds) (jName 0) dYes (dCB xToStr (dCons (dVar 0) dNil)) p_1
          (fun y_1 G2 =>
           xAdd (D.ref p) y_1 G2 fun x_2 G1 =>
            Go
             (dRet (dBM "str" mJoin (dC (D.str " ")) (dCons (dVar 1) dNil))
              { nx := fun x G' => R D.non G', rt := R })
             [some (D.tup (.str w0 :: .int (x : Int) :: ns.map .int)), some x_2, none, none] G1)
          ds [none] (gup G1 p_1 (DO.lst []))
      | none => False
     | D.tup ds =>
      ∀ (p_1 : Addr),
       G1 p_1 = none →
        compL (fun x => True) (jName 0) dYes (dCB xToStr (dCons (dVar 0) dNil)) p_1
         (fun y_1 G2 =>
          xAdd (D.ref p) y_1 G2 fun x_2 G1 =>
           Go
            (dRet (dBM "str" mJoin (dC (D.str " ")) (dCons (dVar 1) dNil))
             { nx := fun x G' => R D.non G', rt := R })
            [some (D.tup (.str w0 :: .int (x : Int) :: ns.map .int)), some x_2, none, none] G1)
         ds [none] (gup G1 p_1 (DO.lst []))
     | x => False := by
   intro w0 x ns hn hl e p G1 g1 kp
   dsimp! only [xSlT]
   rw [cut2]
   intro p2 hp2
   refine compL_ind (fun r σ G' => ∃ (l t : List Int) (v0 : Option D), l ++ t = ns ∧ r = t.map D.int ∧ Grow G1 G' ∧ G' p2 = some (.lst (l.map fun n => D.str (numI n))) ∧ σ = [v0]) ⟨[], ns, none, rfl, rfl, Grow.refl.new hp2, gup_same, rfl⟩ ?_ ?_
   ·rintro σ G2 ⟨l, t, v0, e1, e2, g2, k2, rfl⟩
    have ht : t = [] := by simpa using e2.symm
    subst ht
    rw [List.append_nil] at e1
    subst e1
    refine ⟨trivial, ?_⟩
    dsimp! only [xin_all, g2.kp _ _ kp, k2]
    refine ⟨Nat.le_trans (m := 10) (by simp; omega) (by decide), fun p4 hp4 => ?_⟩
    (simp only [Go]; dsimp! only [id])
    refine fin _ _ _ rfl ((g1.trans g2).trans (Grow.refl.new hp4)) ?_
    rw [gup_same, e, List.map_cons, List.map_cons, List.map_map]; rfl
   ·rintro z r σ G2 ⟨l, t, v0, e1, e2, g2, k2, rfl⟩ ih
    cases t with
    | nil => cases e2
    | cons c t =>
     cases e2
     refine ⟨trivial, ?_⟩
     have hc := hn c (by rw [← e1]; simp)
     have hlen := congrArg List.length e1
     rw [List.length_append, List.length_cons] at hlen
     dsimp! only [id]
     refine ⟨c, rfl, logI hc.1 hc.2, ?_⟩
     dsimp! only [k2]
     refine ⟨Nat.lt_of_le_of_lt (m := 1000) (by rw [List.length_map]; omega) (by decide), ih _ _ ⟨l ++ [c], t, _, by rw [← e1]; simp, rfl, g2.own hp2, ?_, rfl⟩⟩
     rw [gup_same, List.map_append]; rfl
  rcases kindsT r with ⟨w0, x, o, hrr, hd, hw⟩ | ⟨x, i, cs, rfl⟩ | ⟨x, y, rfl⟩ | ⟨w0, x, n, k, hrr, hd, h1, h2, h3, h4⟩
  ·have hk : x ≤ 9999999999 ∧ opK o := by rcases hrr with rfl | rfl <;> exact hr
   have e : rwS r = [w0, numI (x : Int), opS o] := by
    rcases hrr with rfl | rfl
    ·cases hd; rfl
    ·cases hd; rfl
   rw [e] at fin
   simp only [hd]
   dsimp! only [id]
   refine ⟨(x : Int), rfl, logI (by omega) (by omega), ?_⟩
   refine ⟨by decide, fun p hp => ?_⟩
   cases o with
   | num n =>
    have hn : 0 ≤ n ∧ n < 4294967296 := hk.2
    have hwl := (wd_int hn).1
    have d : ((Str.ofString "").length + (numI n).length ≤ sizeLine) = True := eq_true (Nat.le_trans (m := 20) (by show 0 + _ ≤ _; omega) (by decide))
    (simp only [Go]; dsimp! only [sw_all, xin_all, hw, Opd.d])
    intro p1 hp1
    refine ⟨n, rfl, logI hn.1 (by omega), ?_⟩
    dsimp! only [addS, nI, d, empty_add, gup_ne (gne gup_same hp1), gup_same]
    refine ⟨by decide, ?_⟩
    (simp only [Go]; dsimp! only [id])
    exact fin _ _ _ rfl (((Grow.refl.new hp).trans (Grow.refl.new hp1)).own hp) gup_same
   | box y =>
    have hn : y ≤ 9999999999 := hk.2
    have hwl := num_10 hn
    have d : ((Str.ofString "b").length + (numI (y : Int)).length ≤ sizeLine) = True := eq_true (Nat.le_trans (m := 20) (by show 1 + _ ≤ _; omega) (by decide))
    (simp only [Go]; dsimp! only [sw_all, xin_all, hw, Opd.d])
    intro p1 hp1
    refine ⟨(y : Int), rfl, logI (by omega) (by omega), ?_⟩
    dsimp! only [addS, nI, d, gup_ne (gne gup_same hp1), gup_same]
    refine ⟨by decide, ?_⟩
    (simp only [Go]; dsimp! only [id])
    exact fin _ _ _ rfl (((Grow.refl.new hp).trans (Grow.refl.new hp1)).own hp) gup_same
  ·obtain ⟨hx, hi, hl, hc⟩ := id hr
   dsimp! only [Row.d]
   refine ⟨(x : Int), rfl, logI (by omega) (by omega), ?_⟩
   refine ⟨by decide, fun p hp => ?_⟩
   (simp only [Go]; dsimp! only [sw_all, xin_all, Bool.true_or, Bool.false_or, Bool.or_true, Bool.or_false, gup_same])
   refine ⟨(i : Int), rfl, logI (by omega) (by omega), ?_⟩
   dsimp! only [gup_same]
   refine ⟨by decide, ?_⟩
   (simp only [Go]; dsimp! only [id])
   refine forL_ind (fun r σ G' => ∃ (l t : List (Nat × Nat)) (q : Addr) (v v3 : Option D), l ++ t = cs ∧ r = t.map cd ∧ Grow G G' ∧ G' q = some (.lst ((rwS (.turn x i l)).map .str)) ∧ σ = [some (Row.turn x i cs).d, some (.ref q), v, v3]) ⟨[], cs, p, none, none, rfl, rfl, (Grow.refl.new hp).own hp, gup_same, rfl⟩ ?_ ?_
   ·rintro σ G2 ⟨l, t, q, v, v3, e, e2, g2, k2, rfl⟩
    have ht : t = [] := by simpa using e2.symm
    subst ht
    rw [List.append_nil] at e
    subst e
    refine ⟨trivial, ?_⟩
    (simp only [Go]; dsimp! only [id])
    exact fin _ _ _ rfl g2 k2
   ·rintro z r σ G2 ⟨l, t, q, v, v3, e, e2, g2, k2, rfl⟩ ih
    cases t with
    | nil => cases e2
    | cons c t =>
     cases e2
     refine ⟨trivial, ?_⟩
     have hc1 := hc c (by rw [← e]; simp)
     have hwl := num_10 hc1.1
     have hlen := congrArg List.length e
     rw [List.length_append, List.length_cons] at hlen
     have d : ((Str.ofString "b").length + (numI (c.1 : Int)).length ≤ sizeLine) = True := eq_true (Nat.le_trans (m := 20) (by show 1 + _ ≤ _; omega) (by decide))
     dsimp! only [cd]
     refine ⟨(c.1 : Int), rfl, logI (by omega) (by omega), ?_⟩
     dsimp! only [addS, nI, d]
     refine ⟨(c.2 : Int), rfl, logI (by omega) (by omega), by decide, fun p3 hp3 => ?_⟩
     dsimp! only [xin_all, nI, gup_ne (gne k2 hp3), gup_same, k2]
     refine ⟨?_, fun p4 hp4 => ih _ _ ⟨l ++ [c], t, p4, _, _, by rw [← e]; simp, rfl, g2.trans ((Grow.refl.new hp3).trans (Grow.refl.new hp4)), ?_, rfl⟩⟩
     ·refine Nat.le_trans (m := 20) ?_ (by decide)
      rw [List.length_map, turn_len]; omega
     ·rw [gup_same, turn_snoc, List.map_append]; rfl
  ·have hk : x ≤ 9999999999 ∧ y ≤ 9999999999 := hr
   dsimp! only [Row.d]
   refine ⟨(x : Int), rfl, logI (by omega) (by omega), ?_⟩
   refine ⟨by decide, fun p hp => ?_⟩
   (simp only [Go]; dsimp! only [sw_all, xin_all, Bool.true_or, Bool.false_or, Bool.or_true, Bool.or_false])
   refine core _ x [(y : Int)] (fun n hn => ?_) (by simp) rfl p _ (Grow.refl.new hp) gup_same
   rw [List.mem_singleton.mp hn]; omega
  ·have hk : x ≤ 9999999999 ∧ (0 ≤ n ∧ n < 4294967296) ∧ k ≤ 9999999999 := by rcases hrr with rfl | rfl <;> exact hr
   have e : rwS r = [w0, numI (x : Int), numI n, numI (k : Int)] := by
    rcases hrr with rfl | rfl
    ·cases hd; rfl
    ·cases hd; rfl
   simp only [hd]
   dsimp! only [id]
   refine ⟨(x : Int), rfl, logI (by omega) (by omega), ?_⟩
   refine ⟨by decide, fun p hp => ?_⟩
   (simp only [Go]; dsimp! only [sw_all, xin_all, h1, h2])
   refine core _ x [n, (k : Int)] (fun m hm => ?_) (by simp) e p _ (Grow.refl.new hp) gup_same
   rcases List.mem_cons.mp hm with e | hm
   ·rw [e]; omega
   ·rw [List.mem_singleton.mp hm]; omega
theorem ok_law_lines {n : Nat} (G_law_row_text : Ok P w mg base n T.f_law_row_text (S_law_row_text T)) : Ok P w mg base (n + 1) T.f_law_lines (S_law_lines T) := by
 refine def_ok T.f_law_lines sc_law_lines (fun ds G R h => ?_) (fun cdv A outer s H E hr =>
   (ss_one (s_ret (e_bin x_add (e_lst (a_cons (e_bin x_add e_str (e_callTy x_toStr rfl T.b_str (by decide +kernel) (a_cons (e_ix x_ix (ev 0) e_int) a_nil))) a_nil)) (e_comp (N' := ["_law_row"]) (ix := [none]) (blk (osc := defScope s_law_lines) (N := ["_law_code_here"]) rfl rfl (by decide +kernel)) (i_any (e_ix x_ix (ev 0) e_int)) (fun _ _ _ _ => (j_name 0 (show (["_law_row"] : List Str).Nodup by decide +kernel))) (fun _ _ _ _ => ifs_nil) (fun _ _ _ _ => (ec T.f_law_row_text T.g_law_row_text G_law_row_text hr (a_cons (ev 0) a_nil)))))))) (fun ds G R h => ?_)
 ·obtain ⟨ra, rs, sz, rfl, _⟩ := h; rfl
 ·obtain ⟨ra, rs, sz, rfl, ha, hr, hz, hl, post⟩ := h
  dsimp! only [id]
  refine ⟨(sz : Int), rfl, logI (by omega) (by omega), ?_⟩
  have d : ((Str.ofString "size ").length + (numI (sz : Int)).length ≤ sizeLine) = True := eq_true (Nat.le_trans (m := 20) (by have := num_10 hz; show 5 + _ ≤ _; omega) (by decide))
  dsimp! only [addS, nI, d, sz_eq]
  refine ⟨by decide, fun p hp => ?_⟩
  obtain ⟨G1, hG1⟩ : ∃ G1, G1 = gup G p (.lst [D.str (szS sz)]) := ⟨_, rfl⟩
  have g1 : Grow G G1 := by rw [hG1]; exact Grow.refl.new hp
  have k1 : G1 p = some (.lst [D.str (szS sz)]) := by rw [hG1]; exact gup_same
  rw [← hG1]
  clear hG1
  have ha1 := g1.kp _ _ ha
  dsimp! only [ha1]
  intro p3 hp3
  refine compL_ind (fun r σ G' => ∃ (l t : List Row) (v : Option D), l ++ t = rs ∧ r = t.map Row.d ∧ Grow G1 G' ∧ G' p3 = some (.lst ((l.map lnS).map .str)) ∧ σ = [v]) ⟨[], rs, none, rfl, rfl, Grow.refl.new hp3, gup_same, rfl⟩ ?_ ?_
  ·rintro σ G2 ⟨l, t, v, e, e2, g2, k2, rfl⟩
   have ht : t = [] := by simpa using e2.symm
   subst ht
   rw [List.append_nil] at e
   subst e
   refine ⟨by rw [g2.kp _ _ ha1]; rfl, ?_⟩
   have k12 := g2.kp _ _ k1
   dsimp! only [xin_all, k12, k2]
   refine ⟨Nat.le_trans (m := 5000) (by rw [List.length_map, List.length_map]; omega) (by decide), fun q hq => ?_⟩
   exact post q _ (g1.none (g2.none hq)) gup_same ((g1.trans g2).trans (Grow.refl.new hq))
  ·rintro z r σ G2 ⟨l, t, v, e, e2, g2, k2, rfl⟩ ih
   cases t with
   | nil => cases e2
   | cons c t =>
    cases e2
    refine ⟨by rw [g2.kp _ _ ha1]; rfl, ?_⟩
    have hc := hr c (by rw [← e]; simp)
    have hlen := congrArg List.length e
    rw [List.length_append, List.length_cons] at hlen
    dsimp! only [id]
    refine call_nd (post := fun d G' => d = .str (lnS c) ∧ Grow G2 G') (fun R h => ⟨c, rfl, hc, fun G' z3 => h _ _ ⟨rfl, z3⟩⟩) ?_
    rintro d G3 ⟨rfl, g3⟩
    have k3 := g3.kp _ _ k2
    dsimp! only [k3]
    refine ⟨Nat.lt_of_le_of_lt (m := 5000) (by rw [List.length_map, List.length_map]; omega) (by decide), ih _ _ ⟨l ++ [c], t, _, by rw [← e]; simp, rfl, (g2.trans g3).own hp3, ?_, rfl⟩⟩
    rw [gup_same, List.map_append, List.map_append]; rfl
theorem ok_law_kinds {n dp : Nat} (G_law_kinds : Ok P w mg base n T.f_law_kinds (S_law_kinds_r T dp)) : Ok P w mg base (n + 1) T.f_law_kinds (S_law_kinds_r T (dp + 1)) := by
 refine def_ok T.f_law_kinds sc_law_kinds (fun ds G R h => ?_) (fun cdv A outer s H E hr =>
   (ss_cons (s_if (t_val (e_callB x_isTL rfl T.b_isinstance (by decide +kernel) (a_cons (ev 1) (a_cons (e_tup (a_cons (e_type (T := "tuple") T.b_tuple (by decide +kernel)) (a_cons (e_type (T := "list") T.b_list (by decide +kernel)) a_nil))) a_nil)))) (ss_cons (s_if (t_w (w_or (t_cmp (x_ne hr) (e_callB x_isinstA rfl T.b_isinstance (by decide +kernel) (a_cons (ev 0) (a_cons (e_type (T := "tuple") T.b_tuple (by decide +kernel)) a_nil))) (e_callB x_isinstA rfl T.b_isinstance (by decide +kernel) (a_cons (ev 1) (a_cons (e_type (T := "tuple") T.b_tuple (by decide +kernel)) a_nil))) (nomark _)) (w_or1 (t_not (t_val (e_callB x_isTL rfl T.b_isinstance (by decide +kernel) (a_cons (ev 0) (a_cons (e_tup (a_cons (e_type (T := "tuple") T.b_tuple (by decide +kernel)) (a_cons (e_type (T := "list") T.b_list (by decide +kernel)) a_nil))) a_nil)))))))) (ss_one (s_ret e_bl)) ss_nil)
   (ss_cons (s_if (t_cmp (x_ne hr) (e_callB x_len rfl T.b_len (by decide +kernel) (a_cons (ev 0) a_nil)) (e_callB x_len rfl T.b_len (by decide +kernel) (a_cons (ev 1) a_nil)) (nomark _)) (ss_one (s_ret e_bl)) ss_nil)
   (ss_one (s_ret (e_callB x_all rfl T.b_all (by decide +kernel) (a_cons (e_comp (N' := ["_law_one", "_law_other_here"]) (ix := [none, none]) (blk (osc := defScope s_law_kinds) (N := ["_law_found", "_law_due"]) rfl rfl (by decide +kernel)) (i_zipS rfl T.b_zip (a_cons (ev 0) (a_cons (ev 1) a_nil))) (fun _ _ _ _ => (j_seq (n := 2) rfl (js_cons (j_name 0 (show (["_law_one", "_law_other_here"] : List Str).Nodup by decide +kernel)) (js_cons (j_name 1 (show (["_law_one", "_law_other_here"] : List Str).Nodup by decide +kernel)) js_nil)))) (fun _ _ _ _ => ifs_nil) (fun _ _ _ _ => (ec T.f_law_kinds T.g_law_kinds G_law_kinds hr (a_cons (ev 0) (a_cons (ev 1) a_nil))))) a_nil)))))) ss_nil)
   (ss_cons (s_if (t_val (e_callB x_isinstA rfl T.b_isinstance (by decide +kernel) (a_cons (ev 1) (a_cons (e_type (T := "str") T.b_str (by decide +kernel)) a_nil)))) (ss_one (s_ret (e_and (e_callB x_isinstA rfl T.b_isinstance (by decide +kernel) (a_cons (ev 0) (a_cons (e_type (T := "str") T.b_str (by decide +kernel)) a_nil))) (e_one (e_cmp (x_eq hr) (ev 0) (ev 1) (nomark _)))))) ss_nil)
   (ss_one (s_ret (e_and (e_callB x_isinstA rfl T.b_isinstance (by decide +kernel) (a_cons (ev 0) (a_cons (e_type (T := "int") T.b_int (by decide +kernel)) a_nil))) (e_and (e_not (e_callB x_isinstA rfl T.b_isinstance (by decide +kernel) (a_cons (ev 0) (a_cons (e_type (T := "bool") T.b_bool (by decide +kernel)) a_nil)))) (e_one (e_cmp (x_eq hr) (ev 0) (ev 1) (nomark _)))))))))) (fun ds G R h => ?_)
 ·obtain ⟨x, y, rfl, _⟩ := h; rfl
 ·obtain ⟨x, y, rfl, hk, post⟩ := h
  have two : ((2 : Nat) ≤ sizeLine) = True := eq_true (by decide)
  rcases hk with ⟨rfl, ⟨i, rfl⟩ | ⟨i, rfl⟩ | ⟨ds, rfl, hl, hd⟩⟩ | ⟨a, b, ds, rfl, rfl, ha, hb, hl, hd⟩ | ⟨i, a, b, ds, rfl, rfl, ha, hb, hl, m, rfl, hd⟩
  ·dsimp! only [two]
   refine ⟨_, false, rfl, rfl, ?_⟩
   (dsimp! only [isA_all, isB_all]; repeat (simp only [Go]; dsimp! only [isA_all, isB_all]))
   exact post _ Grow.refl
  ·dsimp! only [two]
   refine ⟨_, false, rfl, rfl, ?_⟩
   (dsimp! only [isA_all, isB_all]; repeat (simp only [Go]; dsimp! only [isA_all, isB_all]))
   exact post _ Grow.refl
  ·have hds : (ds.length ≤ sizeLine) = True := eq_true (Nat.le_trans hl (by decide))
   dsimp! only [two]
   refine ⟨_, true, rfl, rfl, ?_⟩
   dsimp! only [isA_all, isB_all, two]
   refine ⟨_, true, rfl, rfl, ?_⟩
   dsimp! only [id]
   (simp only [Go]; dsimp! only [hds])
   (simp only [Go]; dsimp! only [wZt, sqD])
   intro p hp
   refine compL_ind (fun r σ G' => ∃ (l t : List D) (v0 v1 : Option D), l ++ t = ds ∧ r = zpD t t ∧ Grow G G' ∧ G' p = some (.lst (List.replicate l.length (.bl true))) ∧ σ = [v0, v1]) ⟨[], ds, none, none, rfl, rfl, Grow.refl.new hp, gup_same, rfl⟩ ?_ ?_
   ·rintro σ G1 ⟨l, t, v0, v1, e, e2, g, kp, rfl⟩
    refine ⟨trivial, ?_⟩
    dsimp! only [kp, seqOf_lst, allBl_rep]
    rw [all_rep]
    exact post G1 g
   ·rintro x r σ G1 ⟨l, t, v0, v1, e, e2, g, kp, rfl⟩ ih
    cases t with
    | nil => cases e2
    | cons d0 t =>
     cases e2
     refine ⟨trivial, ?_⟩
     have hm := hd d0 (by rw [← e]; simp)
     have hlen := congrArg List.length e
     rw [List.length_append, List.length_cons] at hlen
     dsimp! only [id]
     refine c_kinds T (dp := dp) (G := G1) (x := d0) (y := d0) ?_ fun G2 g2 => ?_
     ·cases dp with
      | zero => exact hm
      | succ dp => exact .inl ⟨rfl, hm⟩
     have kp2 := g2.kp _ _ kp
     dsimp! only [kp2]
     refine ⟨Nat.lt_of_le_of_lt (m := 1000) (by rw [List.length_replicate]; omega) (by decide), ih _ _ ⟨l ++ [d0], t, _, _, by rw [← e]; simp, rfl, (g.trans g2).own hp, ?_, rfl⟩⟩
     rw [gup_same, List.length_append, List.length_singleton, List.replicate_succ']
  ·have hds : (ds.length ≤ sizeLine) = True := eq_true (Nat.le_trans hl (by decide))
   have ia : isTL G (.ref a) = some true := by show (match G a with | some (.lst _) => some true | _ => none) = _; rw [ha]
   have ib : isTL G (.ref b) = some true := by show (match G b with | some (.lst _) => some true | _ => none) = _; rw [hb]
   dsimp! only [two]
   refine ⟨_, true, rfl, ib, ?_⟩
   dsimp! only [isL_all, ha, hb, isB_all, two]
   refine ⟨_, true, rfl, ia, ?_⟩
   dsimp! only [id]
   (simp only [Go]; dsimp! only [ha, hb, hds])
   (simp only [Go]; dsimp! only [wZt, sqD, ha, hb])
   intro p hp
   refine compL_ind (fun r σ G' => ∃ (l t : List D) (v0 v1 : Option D), l ++ t = ds ∧ r = zpD t t ∧ Grow G G' ∧ G' p = some (.lst (List.replicate l.length (.bl true))) ∧ σ = [v0, v1]) ⟨[], ds, none, none, rfl, rfl, Grow.refl.new hp, gup_same, rfl⟩ ?_ ?_
   ·rintro σ G1 ⟨l, t, v0, v1, e, e2, g, kp, rfl⟩
    refine ⟨⟨by rw [g.kp _ _ ha]; rfl, by rw [g.kp _ _ hb]; rfl⟩, ?_⟩
    dsimp! only [kp, seqOf_lst, allBl_rep]
    rw [all_rep]
    exact post G1 g
   ·rintro x r σ G1 ⟨l, t, v0, v1, e, e2, g, kp, rfl⟩ ih
    cases t with
    | nil => cases e2
    | cons d0 t =>
     cases e2
     refine ⟨⟨by rw [g.kp _ _ ha]; rfl, by rw [g.kp _ _ hb]; rfl⟩, ?_⟩
     have hm := hd d0 (by rw [← e]; simp)
     have hlen := congrArg List.length e
     rw [List.length_append, List.length_cons] at hlen
     dsimp! only [id]
     refine c_kinds T (dp := dp) (G := G1) (x := d0) (y := d0) ?_ fun G2 g2 => ?_
     ·cases dp with
      | zero => exact hm
      | succ dp => exact .inl ⟨rfl, hm⟩
     have kp2 := g2.kp _ _ kp
     dsimp! only [kp2]
     refine ⟨Nat.lt_of_le_of_lt (m := 5000) (by rw [List.length_replicate]; omega) (by decide), ih _ _ ⟨l ++ [d0], t, _, _, by rw [← e]; simp, rfl, (g.trans g2).own hp, ?_, rfl⟩⟩
     rw [gup_same, List.length_append, List.length_singleton, List.replicate_succ']
  ·dsimp! only [two]
   refine ⟨_, true, rfl, rfl, ?_⟩
   dsimp! only [isA_all, isB_all, two]
   refine ⟨_, true, rfl, rfl, ?_⟩
   dsimp! only [id]
   (simp only [Go]; dsimp! only [two])
   (simp only [Go]; dsimp! only [wZt, sqD])
   intro p hp
   refine compL_ind (fun r σ G' => ∃ (v0 v1 : Option D), Grow G G' ∧ σ = [v0, v1] ∧ ((r = zpD [D.int i, D.ref a] [D.int i, D.ref b] ∧ G' p = some (.lst [])) ∨ (r = zpD [D.ref a] [D.ref b] ∧ G' p = some (.lst [.bl true])) ∨ (r = [] ∧ G' p = some (.lst [.bl true, .bl true])))) ⟨none, none, Grow.refl.new hp, rfl, .inl ⟨rfl, gup_same⟩⟩ ?_ ?_
   ·rintro σ G1 ⟨v0, v1, g, rfl, h⟩
    rcases h with ⟨e, _⟩ | ⟨e, _⟩ | ⟨_, kp⟩
    ·cases e
    ·cases e
    refine ⟨trivial, ?_⟩
    dsimp! only [kp, seqOf_lst]
    exact post G1 g
   ·rintro x r σ G1 ⟨v0, v1, g, rfl, h⟩ ih
    refine ⟨trivial, ?_⟩
    rcases h with ⟨e, kp⟩ | ⟨e, kp⟩ | ⟨e, _⟩
    ·cases e
     dsimp! only [id]
     refine c_kinds T (dp := m + 1) (G := G1) (x := .int i) (y := .int i) (.inl ⟨rfl, .inl ⟨i, rfl⟩⟩) fun G2 g2 => ?_
     have kp2 := g2.kp _ _ kp
     dsimp! only [kp2]
     exact ⟨by decide, ih _ _ ⟨_, _, (g.trans g2).own hp, rfl, .inr (.inl ⟨rfl, gup_same⟩)⟩⟩
    ·cases e
     dsimp! only [id]
     refine c_kinds T (dp := m + 1) (G := G1) (x := .ref a) (y := .ref b) (.inr (.inl ⟨a, b, ds, rfl, rfl, g.kp _ _ ha, g.kp _ _ hb, hl, hd⟩)) fun G2 g2 => ?_
     have kp2 := g2.kp _ _ kp
     dsimp! only [kp2]
     exact ⟨by decide, ih _ _ ⟨_, _, (g.trans g2).own hp, rfl, .inr (.inr ⟨rfl, gup_same⟩)⟩⟩
    ·cases e
theorem ok_law_any {n : Nat} (G_law_draw : Ok P w mg base n T.f_law_draw (S_law_draw T)) : Ok P w mg base (n + 1) T.f_law_any (S_law_any T) := by
 refine def_ok T.f_law_any sc_law_any (fun ds G R h => ?_) (fun cdv A outer s H E hr =>
   (ss_cons (s_set 1 sc_law_any.nd (ec T.f_law_draw T.g_law_draw G_law_draw hr (a_cons (ev 0) (a_cons e_int a_nil))))
   (ss_cons (s_if (t_cmp (x_eq hr) (ev 1) e_int (nomark _)) (ss_one (s_ret (e_bin x_sub (e_bin x_sub (e_bin x_pow e_int e_int) e_int) (ec T.f_law_draw T.g_law_draw G_law_draw hr (a_cons (ev 0) (a_cons e_int a_nil)))))) ss_nil)
   (ss_one (s_ret (ec T.f_law_draw T.g_law_draw G_law_draw hr (a_cons (ev 0) (a_cons (e_ix x_ix (e_lst (a_cons e_int (a_cons (e_bin x_pow e_int e_int) a_nil))) (e_bin x_sub (ev 1) e_int)) a_nil)))))))) (fun ds G R h => ?_)
 ·obtain ⟨st, rfl, _⟩ := h; rfl
 ·obtain ⟨st, rfl, hs, post⟩ := h
  dsimp! only [id]
  refine draw_call hs (by decide) (by decide) fun v G1 a1 p1 q1 => ?_
  dsimp! only [id]
  (simp only [Go]; dsimp! only [id])
  refine ite_d (fun h0 => ?_) (fun h0 => ?_)
  ·dsimp! only [id]
   refine ⟨⟨by decide, by decide, by decide⟩, ?_⟩
   refine draw_call a1.at_ (by decide) (by decide) fun v2 G2 a2 p2 q2 => ?_
   dsimp! only [id]
   obtain ⟨v2, rfl⟩ := to_nat p2
   have e : ((10 : Int) ^ Int.toNat 10 - 1 - (v2 : Int)) = ((9999999999 - v2 : Nat) : Int) := by
    rw [show (10 : Int) ^ Int.toNat 10 = 10000000000 from rfl]; omega
   rw [e]
   exact post _ _ (a1.trans a2) (by omega)
  ·dsimp! only [id]
   (simp only [Go]; dsimp! only [id])
   rw [show (2 : Int) ^ Int.toNat 30 = 1073741824 from rfl]
   refine ⟨⟨by decide, by decide, by decide⟩, by decide, fun p hp => ?_⟩
   have A2 := a1.new (o := .lst [D.int 12, D.int 1073741824]) hp
   obtain ⟨m, hm, hm1, hm2⟩ : ∃ m : Int, atI [D.int 12, D.int 1073741824] (v - 1) = some (.int m) ∧ 1 ≤ m ∧ m ≤ 1073741824 := by
    have : v = 1 ∨ v = 2 := by omega
    rcases this with e | e <;> subst e
    ·exact ⟨12, rfl, by decide, by decide⟩
    ·exact ⟨1073741824, rfl, by decide, by decide⟩
   rw [hm]
   dsimp! only [id]
   refine draw_call2 A2.at_ (by omega) (by omega) fun v2 G3 a3 p2 q2 => ?_
   obtain ⟨v2, rfl⟩ := to_nat p2
   exact post _ _ (A2.trans a3) (by omega)
theorem ok_law_changed {n : Nat} (G_law_draw : Ok P w mg base n T.f_law_draw (S_law_draw T)) (G_law_number : Ok P w mg base n T.f_law_number (S_law_number T)) (G_law_any : Ok P w mg base n T.f_law_any (S_law_any T)) : Ok P w mg base (n + 1) T.f_law_changed (S_law_changed T) := by
 refine def_ok T.f_law_changed sc_law_changed (fun ds G R h => ?_) (fun cdv A outer s H E hr =>
   (ss_cons (s_asg (ev 1) (j_seq (n := 2) rfl (js_cons (j_name 2 sc_law_changed.nd) (js_cons (j_name 3 sc_law_changed.nd) js_nil))))
   (ss_cons (s_if (t_cmp (x_eq hr) (ev 3) (e_lst a_nil) (nomark _)) (ss_one (s_ret (e_tup (a_cons (ec T.f_law_any T.g_law_any G_law_any hr (a_cons (ev 0) a_nil)) (a_cons (ev 3) a_nil))))) ss_nil)
   (ss_cons (s_set 4 sc_law_changed.nd (ec T.f_law_draw T.g_law_draw G_law_draw hr (a_cons (ev 0) (a_cons (e_callB x_len rfl T.b_len (by decide +kernel) (a_cons (ev 3) a_nil)) a_nil))))
   (ss_cons (s_set 5 sc_law_changed.nd (e_ix x_ix (ev 3) (ev 4)))
   (ss_cons (s_set 6 sc_law_changed.nd (ec T.f_law_draw T.g_law_draw G_law_draw hr (a_cons (ev 0) (a_cons e_int a_nil))))
   (ss_cons (s_if (t_cmp (x_eq hr) (ev 6) e_int (nomark _)) (ss_one (s_set 5 sc_law_changed.nd (e_bin x_add (e_tup (a_cons (e_ix x_ix (ev 5) e_int) (a_cons (ec T.f_law_any T.g_law_any G_law_any hr (a_cons (ev 0) a_nil)) a_nil))) (e_sl x_slT (ev 5) (o_some e_int) o_none)))) (ss_one (s_if (t_cmp (x_in hr) (e_ix x_ix (ev 5) e_int) (e_tup (a_cons e_str (a_cons e_str a_nil))) (by with_unfolding_all rfl)) (ss_one (s_set 5 sc_law_changed.nd (e_tup (a_cons (e_ix x_ix (e_lst (a_cons e_str (a_cons e_str a_nil))) (ec T.f_law_draw T.g_law_draw G_law_draw hr (a_cons (ev 0) (a_cons e_int a_nil)))) (a_cons (e_ix x_ix (ev 5) e_int) (a_cons (ec T.f_law_number T.g_law_number G_law_number hr (a_cons (ev 0) a_nil)) (a_cons (ec T.f_law_any T.g_law_any G_law_any hr (a_cons (ev 0) a_nil)) a_nil))))))) (ss_one (s_if (t_cmp (x_eq hr) (e_ix x_ix (ev 5) e_int) e_str (nomark _)) (ss_one (s_set 5 sc_law_changed.nd (e_tup (a_cons e_str (a_cons (e_ix x_ix (ev 5) e_int) (a_cons (ec T.f_law_any T.g_law_any G_law_any hr (a_cons (ev 0) a_nil)) a_nil)))))) (ss_one (s_if (t_cmp (x_eq hr) (e_ix x_ix (ev 5) e_int) e_str (nomark _)) (ss_cons (s_set 7 sc_law_changed.nd (e_bin x_addT (e_sl x_slT (e_ix x_ix (ev 5) e_int) o_none (o_some e_int)) (e_tup (a_cons (e_tup (a_cons (ec T.f_law_any T.g_law_any G_law_any hr (a_cons (ev 0) a_nil)) (a_cons (ec T.f_law_draw T.g_law_draw G_law_draw hr (a_cons (ev 0) (a_cons e_int a_nil))) a_nil))) a_nil))))
   (ss_one (s_set 5 sc_law_changed.nd (e_tup (a_cons e_str (a_cons (e_ix x_ix (ev 5) e_int) (a_cons (ec T.f_law_draw T.g_law_draw G_law_draw hr (a_cons (ev 0) (a_cons e_int a_nil))) (a_cons (ev 7) a_nil)))))))) (ss_one (s_set 5 sc_law_changed.nd (e_tup (a_cons (e_ix x_ix (ev 5) e_int) (a_cons (e_ix x_ix (ev 5) e_int) (a_cons (e_ix x_ix (e_lst (a_cons (e_tup (a_cons e_str (a_cons (ec T.f_law_any T.g_law_any G_law_any hr (a_cons (ev 0) a_nil)) a_nil))) (a_cons (e_tup (a_cons e_str (a_cons (ec T.f_law_number T.g_law_number G_law_number hr (a_cons (ev 0) a_nil)) a_nil))) a_nil))) (ec T.f_law_draw T.g_law_draw G_law_draw hr (a_cons (ev 0) (a_cons e_int a_nil)))) a_nil)))))))))))))
   (ss_one (s_ret (e_tup (a_cons (e_ix x_ix (e_lst (a_cons (ev 2) (a_cons (ec T.f_law_any T.g_law_any G_law_any hr (a_cons (ev 0) a_nil)) a_nil))) (e_callTy x_toInt rfl T.b_int (by decide +kernel) (a_cons (e_cmp (x_eq hr) (ev 6) e_int (nomark _)) a_nil))) (a_cons (e_bin x_add (e_bin x_add (e_sl x_sl (ev 3) o_none (o_some (ev 4))) (e_lst (a_cons (ev 5) a_nil))) (e_sl x_sl (ev 3) (o_some (e_bin x_add (ev 4) e_int)) o_none)) a_nil)))))))))))) (fun ds G R h => ?_)
 ·obtain ⟨st, ra, rs, sz, rfl, _⟩ := h; rfl
 ·obtain ⟨st, ra, rs, sz, rfl, S, nst, hra, hsm, hz, hl, post⟩ := h
  have atr : ∀ {k : Nat} {r : Row}, rs[k]? = some r → atI (rs.map Row.d) (k : Int) = some r.d := fun {k r} h => by
   have hk := (List.getElem?_eq_some_iff.mp h).1
   unfold atI
   rw [List.length_map, ixN_of hk, Option.bind_some, List.getElem?_map, h]; rfl
  dsimp! only [id]
  (simp only [Go]; dsimp! only [hra])
  refine ⟨by decide, fun p hp => ?_⟩
  have A1 : Adv st G (gup G p (.lst [])) := (Adv.refl S).new hp
  have k1 : gup G p (.lst []) ra = some (.lst (rs.map Row.d)) := by rw [gup_ne (gne hra hp)]; exact hra
  refine cmp_rnil (rs := rs) (by rw [k1]; rfl) (by rw [gup_same]; rfl) ?_
  by_cases h0 : rs = []
  ·rw [if_pos (decide_eq_true h0)]
   refine c_any T A1.at_ fun v G2 a2 hv => ?_
   dsimp! only [id]
   exact ⟨by decide, post ra v rs _ (A1.trans a2) nst hv (a2.kp _ _ nst k1) hsm rfl⟩
  ·rw [if_neg (by rw [decide_eq_false h0]; decide)]
   have hpos : 0 < rs.length := List.length_pos_iff.mpr h0
   (simp only [Go]; dsimp! only [k1, List.length_map])
   refine draw_call A1.at_ (by omega) (by omega) fun x1 G2 a2 b1 b2 => ?_
   obtain ⟨x1, rfl⟩ := to_nat b1
   have k2 := a2.kp _ _ nst k1
   have A2 := A1.trans a2
   obtain ⟨row, hrow⟩ : ∃ row, rs[x1]? = some row := ⟨_, List.getElem?_eq_getElem (by omega)⟩
   have hk : rK row := hsm row (List.mem_of_getElem? hrow)
   dsimp! only [id]
   (simp only [Go]; dsimp! only [k2, atr hrow])
   (simp only [Go]; dsimp! only [id])
   refine draw_call a2.at_ (by decide) (by decide) fun x2 G3 a3 c1 c2 => ?_
   have k3 := a3.kp _ _ nst k2
   have A3 := A2.trans a3
   have ec : cutD (rs.map Row.d) none (some (x1 : Int)) = (rs.take x1).map Row.d := by rw [List.map_take]; exact cut_take
   have ed1 : cutD (rs.map Row.d) (some ((x1 : Int) + 1)) none = (rs.drop (x1 + 1)).map Row.d := by rw [List.map_drop, show (x1 : Int) + 1 = ((x1 + 1 : Nat) : Int) by omega]; exact cut_skipG
   dsimp! only [id]
   (simp only [Go]; dsimp! only [id])
   generalize hN : Go (dRet _ _) = N
   have rest : ∀ (row' : Row) (v7 : Option D) (G4 : Gp), Adv st G G4 → rK row' → N [some (.ref st), some (.tup [.int (sz : Int), .ref ra]), some (.int (sz : Int)), some (.ref ra), some (.int (x1 : Int)), some row'.d, some (.int x2), v7] G4 := by
    intro row' v7 G4 A4 hk'
    rw [← hN]
    (simp only [Go]; dsimp! only [id])
    refine c_any T A4.at_ fun v G5 a5 hv => ?_
    dsimp! only [id]
    refine ⟨by decide, fun p6 hp6 => ?_⟩
    have A6 := (A4.trans a5).new (o := .lst [D.int (sz : Int), D.int (v : Int)]) hp6
    obtain ⟨sz', hz1, hz2⟩ : ∃ sz' : Nat, atI [D.int (sz : Int), D.int (v : Int)] (if decide (x2 = 2) = true then 1 else 0) = some (.int (sz' : Int)) ∧ sz' ≤ 9999999999 := by
     by_cases q : x2 = 2
     ·rw [if_pos (decide_eq_true q)]; exact ⟨v, rfl, hv⟩
     ·rw [if_neg (by rw [decide_eq_false q]; decide)]; exact ⟨sz, rfl, hz⟩
    have k6 := A6.kp _ _ nst hra
    dsimp! only [gup_same, hz1, k6, ec]
    intro p7 hp7
    refine ⟨by decide, fun p8 hp8 => ?_⟩
    have A8 := (A6.new (o := .lst ((rs.take x1).map Row.d)) hp7).new (o := .lst [row'.d]) hp8
    refine xadd_ls (by rw [gup_ne (gne gup_same hp8)]; exact gup_same) gup_same (by rw [List.length_map, List.length_take]; show _ + 1 ≤ _; omega) fun p9 hp9 => ?_
    have A9 := A8.new (o := .lst ((rs.take x1).map Row.d ++ [row'.d])) hp9
    have k9 := A9.kp _ _ nst hra
    dsimp! only [k9, ed1]
    intro p10 hp10
    refine xadd_ls (by rw [gup_ne (gne gup_same hp10)]; exact gup_same) gup_same (by rw [List.length_append, List.length_map, List.length_map, List.length_take, List.length_drop]; show _ + 1 + _ ≤ _; omega) fun p11 hp11 => ?_
    have A10 := A9.new (o := .lst ((rs.drop (x1 + 1)).map Row.d)) hp10
    dsimp! only [id]
    refine ⟨by decide, post p11 sz' (rs.take x1 ++ [row'] ++ rs.drop (x1 + 1)) _ (A10.new hp11) (A10.at_.ne hp11) hz2 (by rw [gup_same, List.map_append, List.map_append]; rfl) (fun r hr => ?_) (by rw [List.length_append, List.length_append, List.length_take, List.length_drop]; show _ + 1 + _ = _; omega)⟩
    rcases List.mem_append.mp hr with hr | hr
    ·rcases List.mem_append.mp hr with hr | hr
     ·exact hsm r (List.mem_of_mem_take hr)
     ·rw [List.mem_singleton.mp hr]; exact hk'
    ·exact hsm r (List.mem_of_mem_drop hr)
   by_cases q0 : x2 = 0
   ·rw [if_pos (decide_eq_true q0)]
    obtain ⟨w0, x, rst, hd, hrl, hset⟩ : ∃ (w0 : Str) (x : Nat) (rst : List D), row.d = .tup (.str w0 :: .int (x : Int) :: rst) ∧ rst.length ≤ 2 ∧ ∀ v : Nat, v ≤ 9999999999 → ∃ row' : Row, row'.d = .tup (.str w0 :: .int (v : Int) :: rst) ∧ rK row' := by
     cases row with
     | add x o => exact ⟨_, x, _, rfl, by simp, fun v hv => ⟨.add v o, rfl, hv, hk.2⟩⟩
     | take x o => exact ⟨_, x, _, rfl, by simp, fun v hv => ⟨.take v o, rfl, hv, hk.2⟩⟩
     | turn x i cs => exact ⟨_, x, _, rfl, by simp, fun v hv => ⟨.turn v i cs, rfl, hv, hk.2⟩⟩
     | swap x y => exact ⟨_, x, _, rfl, by simp, fun v hv => ⟨.swap v y, rfl, hv, hk.2⟩⟩
     | go x n k => exact ⟨_, x, _, rfl, by simp, fun v hv => ⟨.go v n k, rfl, hv, hk.2⟩⟩
     | come x n k => exact ⟨_, x, _, rfl, by simp, fun v hv => ⟨.come v n k, rfl, hv, hk.2⟩⟩
    rw [hd]
    dsimp! only [id]
    refine c_any T A3.at_ fun v G4 a4 hv => ?_
    dsimp! only [xSlT]
    rw [cut2]
    obtain ⟨row', hd', hk'⟩ := hset v hv
    dsimp! only [addT]
    refine ⟨by decide, by simp, ?_, ?_⟩
    ·exact Nat.le_trans (m := 10) (by show 2 + _ ≤ 10; omega) (by decide)
    ·have := rest row' none G4 (A3.trans a4) hk'
     rw [hd'] at this
     exact this
   ·rw [if_neg (by rw [decide_eq_false q0]; decide)]
    have opd : ∀ (w0 : Str) (x : Nat), (∀ o : Opd, opK o → ∃ row' : Row, row'.d = .tup [.str w0, .int (x : Int), o.d] ∧ rK row') → ∀ (G4 : Gp), Adv st G G4 → ∃ R0, S_law_any T [.ref st] G4 R0 ∧ ∀ (d : D) (G5 : Gp), R0 d G5 → ∃ R1, S_law_number T [.ref st] G5 R1 ∧ ∀ (d1 : D) (G6 : Gp), R1 d1 G6 → ∀ p, G6 p = none → ∃ R2, S_law_draw T [.ref st, .int 2] (gup G6 p (.lst [.tup [.str "box", d], .tup [.str "num", d1]])) R2 ∧ ∀ (d2 : D) (G7 : Gp), R2 d2 G7 → xIx (.ref p) d2 G7 fun z G8 => 3 ≤ sizeLine ∧ N [some (.ref st), some (.tup [.int (sz : Int), .ref ra]), some (.int (sz : Int)), some (.ref ra), some (.int (x1 : Int)), some (.tup [.str w0, .int (x : Int), z]), some (.int x2), none] G8 := by
     intro w0 x mk G4 A4
     refine c_any T A4.at_ fun v G5 a5 hv => ?_
     refine c_nmb T a5.at_ fun n G6 a6 n1 n2 p hp => ?_
     have A6 := ((A4.trans a5).trans a6).new (o := .lst [.tup [.str "box", .int (v : Int)], .tup [.str "num", .int n]]) hp
     have np := a6.at_.ne hp
     refine draw_call A6.at_ (by decide) (by decide) fun x3 G7 a7 l1 l2 => ?_
     have k7 := a7.kp _ _ np gup_same
     obtain ⟨o, eo, ho⟩ : ∃ o : Opd, atI [D.tup [.str "box", .int (v : Int)], .tup [.str "num", .int n]] x3 = some o.d ∧ opK o := by
      have : x3 = 0 ∨ x3 = 1 := by omega
      rcases this with e | e <;> subst e
      ·exact ⟨.box v, rfl, hv⟩
      ·exact ⟨.num n, rfl, n1, n2⟩
     dsimp! only [k7, eo]
     obtain ⟨row', hd', hk'⟩ := mk o ho
     have := rest row' none G7 (A6.trans a7) hk'
     rw [hd'] at this
     exact ⟨by decide, this⟩
    have jmp : ∀ (x : Nat), x ≤ 9999999999 → ∀ (p : Addr), G3 p = none → ∃ R0, S_law_draw T [.ref st, .int 2] (gup G3 p (.lst [.str "go", .str "come"])) R0 ∧ ∀ (d : D) (G4 : Gp), R0 d G4 → xIx (.ref p) d G4 fun z G5 => ∃ R1, S_law_number T [.ref st] G5 R1 ∧ ∀ (d : D) (G6 : Gp), R1 d G6 → ∃ R2, S_law_any T [.ref st] G6 R2 ∧ ∀ (d1 : D) (G7 : Gp), R2 d1 G7 → 4 ≤ sizeLine ∧ N [some (.ref st), some (.tup [.int (sz : Int), .ref ra]), some (.int (sz : Int)), some (.ref ra), some (.int (x1 : Int)), some (.tup [z, .int (x : Int), d, d1]), some (.int x2), none] G7 := by
     intro x hx p hp
     have A4 := A3.new (o := .lst [.str "go", .str "come"]) hp
     have np := A3.at_.ne hp
     refine draw_call A4.at_ (by decide) (by decide) fun x3 G5 a5 l1 l2 => ?_
     have k5 := a5.kp _ _ np gup_same
     obtain ⟨w, ew, hw⟩ : ∃ w : Str, atI [D.str "go", D.str "come"] x3 = some (.str w) ∧ (w = "go" ∨ w = "come") := by
      have : x3 = 0 ∨ x3 = 1 := by omega
      rcases this with e | e <;> subst e
      ·exact ⟨_, rfl, .inl rfl⟩
      ·exact ⟨_, rfl, .inr rfl⟩
     dsimp! only [k5, ew]
     refine c_nmb T a5.at_ fun n G6 a6 n1 n2 => ?_
     refine c_any T a6.at_ fun v G7 a7 hv => ⟨by decide, ?_⟩
     rcases hw with rfl | rfl
     ·exact rest (.go x n v) none G7 (((A4.trans a5).trans a6).trans a7) ⟨hx, ⟨n1, n2⟩, hv⟩
     ·exact rest (.come x n v) none G7 (((A4.trans a5).trans a6).trans a7) ⟨hx, ⟨n1, n2⟩, hv⟩
    cases row with
    | add x o =>
     dsimp! only [Row.d, sw_all, xin_all, Bool.true_or, Bool.false_or, Bool.or_true, Bool.or_false]
     exact opd _ x (fun o ho => ⟨.add x o, rfl, hk.1, ho⟩) G3 A3
    | take x o =>
     dsimp! only [Row.d, sw_all, xin_all, Bool.true_or, Bool.false_or, Bool.or_true, Bool.or_false]
     exact opd _ x (fun o ho => ⟨.take x o, rfl, hk.1, ho⟩) G3 A3
    | turn x i cs =>
     obtain ⟨hx, hi, hcl, hc⟩ := hk
     dsimp! only [Row.d, sw_all, xin_all, Bool.true_or, Bool.false_or, Bool.or_true, Bool.or_false]
     dsimp! only [xSlT]
     rw [show cutD (cs.map cd) none (some 1) = (cs.take 1).map cd by rw [List.map_take]; exact cut_takeG (n := 1)]
     refine c_any T A3.at_ fun v G4 a4 hv => ?_
     dsimp! only [id]
     refine draw_call a4.at_ (by decide) (by decide) fun x3 G5 a5 l1 l2 => ?_
     obtain ⟨x3, rfl⟩ := to_nat l1
     dsimp! only [id]
     refine ⟨by decide, ?_⟩
     dsimp! only [xAddT]
     refine ⟨Nat.le_trans (m := 10) (by rw [List.length_map, List.length_take]; show _ + 1 ≤ _; omega) (by decide), ?_⟩
     (simp only [Go]; dsimp! only [id])
     refine draw_call a5.at_ (by decide) (by decide) fun x4 G6 a6 m1 m2 => ?_
     obtain ⟨x4, rfl⟩ := to_nat m1
     dsimp! only [id]
     refine ⟨by decide, ?_⟩
     have := rest (.turn x x4 (cs.take 1 ++ [(v, x3)])) (some (.tup ((cs.take 1).map cd ++ [cd (v, x3)]))) G6 ((A3.trans a4).trans (a5.trans a6)) ⟨hx, by omega, by rw [List.length_append, List.length_take]; show _ + 1 ≤ _; omega, fun c hcc => by
      rcases List.mem_append.mp hcc with z | z
      ·exact hc c (List.mem_of_mem_take z)
      ·rw [List.mem_singleton.mp z]; exact ⟨hv, by show x3 < 32; omega⟩⟩
     simp only [Row.d, List.map_append] at this
     exact this
    | swap x y =>
     dsimp! only [Row.d, sw_all, xin_all, Bool.true_or, Bool.false_or, Bool.or_true, Bool.or_false]
     refine c_any T A3.at_ fun v G4 a4 hv => ?_
     dsimp! only [id]
     exact ⟨by decide, rest (.swap x v) none G4 (A3.trans a4) ⟨hk.1, hv⟩⟩
    | go x n k =>
     dsimp! only [Row.d, sw_all, xin_all, Bool.true_or, Bool.false_or, Bool.or_true, Bool.or_false]
     exact jmp x hk.1
    | come x n k =>
     dsimp! only [Row.d, sw_all, xin_all, Bool.true_or, Bool.false_or, Bool.or_true, Bool.or_false]
     exact jmp x hk.1
theorem ok_law_both_ways {n : Nat} (G_show_code : Ok P w mg base n T.f_show_code (S_show_code T)) (G_read_code : Ok P w mg base n T.f_read_code (S_read_code T)) (G_law_lines : Ok P w mg base n T.f_law_lines (S_law_lines T)) (G_law_kinds : Ok P w mg base n T.f_law_kinds (S_law_kinds T)) : Ok P w mg base (n + 1) T.f_law_both_ways (S_law_both_ways T) := by
 refine def_ok T.f_law_both_ways sc_law_both_ways (fun ds G R h => ?_) (fun cdv A outer s H E hr =>
   (ss_cons (s_set 1 sc_law_both_ways.nd (e_join e_str (a_cons (ec T.f_law_lines T.g_law_lines G_law_lines hr (a_cons (ev 0) a_nil)) a_nil)))
   (ss_cons (s_set 2 sc_law_both_ways.nd (e_tup (a_cons (e_ix x_ix (ev 0) e_int) (a_cons (e_callTy x_toList rfl T.b_list (by decide +kernel) (a_cons (e_ix x_ix (ev 0) e_int) a_nil)) a_nil))))
   (ss_cons (s_set 3 sc_law_both_ways.nd (ec T.f_show_code T.g_show_code G_show_code hr (a_cons (ev 2) a_nil)))
   (ss_cons (s_if (t_w (w_or (t_not (t_val (e_callB x_isinst rfl T.b_isinstance (by decide +kernel) (a_cons (ev 3) (a_cons (e_type (T := "str") T.b_str (by decide +kernel)) a_nil))))) (w_or (t_cmp (x_ne hr) (ev 3) (ev 1) (nomark _)) (w_or1 (t_cmp (x_ne hr) (ev 2) (ev 0) (nomark _)))))) (ss_one (s_ret e_bl)) ss_nil)
   (ss_cons (s_set 4 sc_law_both_ways.nd (ec T.f_read_code T.g_read_code G_read_code hr (a_cons (ev 1) a_nil)))
   (ss_cons (s_if (t_not (t_val (ec T.f_law_kinds T.g_law_kinds G_law_kinds hr (a_cons (ev 4) (a_cons (ev 0) a_nil))))) (ss_one (s_ret e_bl)) ss_nil)
   (ss_cons (s_expr (e_append (e_ix x_ix (ev 4) e_int) (a_cons (e_tup (a_cons e_str (a_cons e_int (a_cons e_int a_nil)))) a_nil)))
   (ss_one (s_ret (ec T.f_law_kinds T.g_law_kinds G_law_kinds hr (a_cons (ec T.f_read_code T.g_read_code G_read_code hr (a_cons (ev 3) a_nil)) (a_cons (ev 0) a_nil))))))))))))) (fun ds G R h => ?_)
 ·obtain ⟨ra, rs, sz, rfl, _⟩ := h; rfl
 ·obtain ⟨ra, rs, sz, rfl, ha, hr, hz, hl, post⟩ := h
  dsimp! only [id]
  refine call_nd (post := fun d G' => ∃ q, d = .ref q ∧ G' q = some (.lst ((szS sz :: rs.map lnS).map .str)) ∧ Grow G G') (fun R h => ⟨ra, rs, sz, rfl, ha, hr, hz, hl, fun q G' z1 z2 z3 => h _ _ ⟨q, rfl, z2, z3⟩⟩) ?_
  rintro d G1 ⟨q, rfl, kq, g1⟩
  obtain ⟨c1, c2⟩ := cd_fits hz hr hl
  refine ⟨_, q, szS sz :: rs.map lnS, rfl, rfl, by rw [kq]; rfl, c1, c2, ?_⟩
  have ha1 := g1.kp _ _ ha
  dsimp! only [id]
  (simp only [Go]; dsimp! only [ha1])
  intro p hp
  refine ⟨by decide, ?_⟩
  obtain ⟨G2, hG2⟩ : ∃ G2, G2 = gup G1 p (.lst (rs.map Row.d)) := ⟨_, rfl⟩
  have g2 : Grow G1 G2 := by rw [hG2]; exact Grow.refl.new hp
  have k2 : G2 p = some (.lst (rs.map Row.d)) := by rw [hG2]; exact gup_same
  rw [← hG2]
  clear hG2
  have ha2 := g2.kp _ _ ha1
  (simp only [Go]; dsimp! only [id])
  refine call_nd (post := fun d G' => d = .str (cdS sz rs) ∧ Grow G2 G') (fun R h => ⟨p, rs, sz, rfl, k2, hr, hz, hl, fun G' z => h _ _ ⟨rfl, z⟩⟩) ?_
  rintro d G3 ⟨rfl, g3⟩
  have k3 := g3.kp _ _ k2
  have ha3 := g3.kp _ _ ha2
  have ec : (jn (Str.ofString "\n") (szS sz :: rs.map lnS)) = cdS sz rs := rfl
  have es : (cdS sz rs = cdS sz rs) = True := eq_true rfl
  dsimp! only [id]
  (simp only [Go]; dsimp! only [isA_all, isB_all, ec, es])
  refine ⟨.inr (.inl trivial), ?_⟩
  rw [if_neg (by decide)]
  refine eq_code (G := G3) (a := p) (b := ra) (rs := rs) (by rw [k3]; rfl) (by rw [ha3]; rfl) ?_
  dsimp! only [id]
  (simp only [Go]; dsimp! only [ec])
  refine call_nd (post := fun d G' => ∃ q, d = .tup [.int (sz : Int), .ref q] ∧ G3 q = none ∧ G' q = some (.lst (rs.map Row.d)) ∧ Grow G3 G') (fun R h => ⟨rs, sz, rfl, hr, hz, hl, fun q G' z1 z2 z3 => h _ _ ⟨q, rfl, z1, z2, z3⟩⟩) ?_
  rintro d G4 ⟨q4, rfl, f4, k4, g4⟩
  have ha4 := g4.kp _ _ ha3
  dsimp! only [id]
  (simp only [Go]; dsimp! only [id])
  refine c_kinds T (kd_code k4 ha4 hr hl) fun G5 g5 => ?_
  have k5 := g5.kp _ _ k4
  dsimp! only [id]
  (simp only [Go]; dsimp! only [k5])
  refine ⟨by decide, ?_⟩
  dsimp! only [k5]
  refine ⟨by rw [List.length_map]; exact Nat.lt_of_le_of_lt (m := 4000) hl (by decide), ?_⟩
  have g6 : Grow G3 (gup G5 q4 (.lst (rs.map Row.d ++ [.tup [.str "swap", .int 0, .int 1]]))) := (g4.trans g5).own f4
  (simp only [Go]; dsimp! only [id])
  refine call_nd (post := fun d G' => ∃ q, d = .tup [.int (sz : Int), .ref q] ∧ G' q = some (.lst (rs.map Row.d)) ∧ Grow G3 G') (fun R h => ⟨rs, sz, rfl, hr, hz, hl, fun q G' z1 z2 z3 => h _ _ ⟨q, rfl, z2, g6.trans z3⟩⟩) ?_
  rintro d G7 ⟨q7, rfl, k7, g7⟩
  dsimp! only [id]
  exact c_kinds T (kd_code k7 (g7.kp _ _ ha3) hr hl) fun G8 g8 => post G8 (g1.trans (g2.trans (g3.trans (g7.trans g8))))
theorem ok_law {n : Nat} (G_law_draw : Ok P w mg base n T.f_law_draw (S_law_draw T)) (G_law_code : Ok P w mg base n T.f_law_code (S_law_code T)) (G_law_any : Ok P w mg base n T.f_law_any (S_law_any T)) (G_law_changed : Ok P w mg base n T.f_law_changed (S_law_changed T)) (G_law_both_ways : Ok P w mg base n T.f_law_both_ways (S_law_both_ways T)) : Ok P w mg base (n + 1) T.f_law (S_law T) := by
 refine def_ok T.f_law sc_law (fun ds G R h => ?_) (fun cdv A outer s H E hr =>
   (ss_cons (s_set 1 sc_law.nd (e_lst (a_cons (ev 0) (a_cons e_int (a_cons e_int a_nil)))))
   (ss_cons (s_set 2 sc_law.nd (e_bin x_add e_int (ec T.f_law_draw T.g_law_draw G_law_draw hr (a_cons (ev 1) (a_cons e_int a_nil)))))
   (ss_cons (s_set 3 sc_law.nd (e_bin x_add e_int (ec T.f_law_draw T.g_law_draw G_law_draw hr (a_cons (ev 1) (a_cons e_int a_nil)))))
   (ss_cons (s_set 4 sc_law.nd (ec T.f_law_code T.g_law_code G_law_code hr (a_cons (ev 1) (a_cons (ev 3) (a_cons (ec T.f_law_draw T.g_law_draw G_law_draw hr (a_cons (ev 1) (a_cons e_int a_nil))) (a_cons (ec T.f_law_draw T.g_law_draw G_law_draw hr (a_cons (ev 1) (a_cons e_int a_nil))) a_nil))))))
   (ss_cons (s_set 5 sc_law.nd (ev 4))
   (ss_cons (s_for (i_rng1 rfl T.b_range (a_cons (ev 2) a_nil)) (j_name 6 sc_law.nd) (ss_one (s_set 5 sc_law.nd (ec T.f_law_changed T.g_law_changed G_law_changed hr (a_cons (ev 1) (a_cons (ev 5) a_nil))))))
   (ss_cons (s_set 7 sc_law.nd (ec T.f_law_draw T.g_law_draw G_law_draw hr (a_cons (ev 1) (a_cons e_int a_nil))))
   (ss_cons (s_if (t_w (w_and (t_cmp (x_eq hr) (ev 7) e_int (nomark _)) (w_and1 (t_not (t_val (ec T.f_law_both_ways T.g_law_both_ways G_law_both_ways hr (a_cons (e_tup (a_cons (e_ix x_ix (ev 5) e_int) (a_cons (e_bin x_mul (e_bin x_add (e_ix x_ix (ev 4) e_int) (e_ix x_ix (ev 5) e_int)) e_int) a_nil))) a_nil))))))) (ss_one (s_ret e_bl)) ss_nil)
   (ss_cons (s_set 8 sc_law.nd (e_bin x_add (e_bin x_pow e_int e_int) (ec T.f_law_draw T.g_law_draw G_law_draw hr (a_cons (ev 1) (a_cons (e_bin x_sub (e_bin x_pow e_int e_int) (e_bin x_pow e_int e_int)) a_nil)))))
   (ss_cons (s_set 9 sc_law.nd (e_bin x_add (e_bin x_add (e_lst (a_cons (e_tup (a_cons e_str (a_cons e_int (a_cons e_int (a_cons (ev 8) a_nil))))) a_nil)) (e_ix x_ix (ev 5) e_int)) (e_lst (a_cons (e_tup (a_cons e_str (a_cons (ev 8) (a_cons e_int (a_cons (ev 8) a_nil))))) a_nil))))
   (ss_cons (s_if (t_w (w_and (t_cmp (x_eq hr) (ev 7) e_int (nomark _)) (w_and1 (t_not (t_val (ec T.f_law_both_ways T.g_law_both_ways G_law_both_ways hr (a_cons (e_tup (a_cons (ev 3) (a_cons (ev 9) a_nil))) a_nil))))))) (ss_one (s_ret e_bl)) ss_nil)
   (ss_one (s_ret (e_and (ec T.f_law_both_ways T.g_law_both_ways G_law_both_ways hr (a_cons (ev 4) a_nil)) (e_and (ec T.f_law_both_ways T.g_law_both_ways G_law_both_ways hr (a_cons (ev 5) a_nil)) (e_one (ec T.f_law_both_ways T.g_law_both_ways G_law_both_ways hr (a_cons (e_tup (a_cons (ec T.f_law_any T.g_law_any G_law_any hr (a_cons (ev 1) a_nil)) (a_cons (e_lst a_nil) a_nil))) a_nil))))))))))))))))))) (fun ds G R h => ?_)
 ·obtain ⟨a, ns, rfl, _⟩ := h; rfl
 ·obtain ⟨a, ns, rfl, ha, hns, post⟩ := h
  have okK : ∀ {sz : Nat} {rs : List Row}, sz ≤ 8 → Pairs rs → rs.length ≤ 30 → (∀ r ∈ rs, r.ok sz) → ∀ r ∈ rs, rK r := by
   intro sz rs hz hp hl hok r hr
   have h := hok r hr
   have oo : ∀ {x : Nat} {o : Opd}, o.ok sz x → opK o := fun {x o} h => by
    cases o with
    | num n => exact h
    | box y => have h1 : y < sz := h.1; show y ≤ 9999999999; omega
   obtain ⟨j, hj⟩ := List.getElem?_of_mem hr
   have jlt : ∀ {x n k}, (r = .go x n k ∨ r = .come x n k) → k < rs.length := fun z => pairs_lt hp hj _ _ _ z
   cases r with
   | add x o => exact ⟨by have := h.1; omega, oo h.2⟩
   | take x o => exact ⟨by have := h.1; omega, oo h.2⟩
   | turn x i cs => exact ⟨by have := h.1; omega, h.2.1, h.2.2.1, fun c hc => ⟨by have := (h.2.2.2 c hc).1; omega, (h.2.2.2 c hc).2.2⟩⟩
   | swap x y => exact ⟨by have := h.1; omega, by have := h.2.1; omega⟩
   | go x n k => exact ⟨by have := h.1; omega, h.2, by have := jlt (.inl rfl); omega⟩
   | come x n k => exact ⟨by have := h.1; omega, h.2, by have := jlt (.inr rfl); omega⟩
  dsimp! only [id]
  refine ⟨by decide, fun st hst => ?_⟩
  have hast : a ≠ st := gne ha hst
  have S0 : StAt (gup G st (.lst [.ref a, .int 0, .int 0])) st := ⟨a, ns, 0, 0, gup_same, by rw [gup_ne hast]; exact ha, by omega, by omega, hast, hns⟩
  (simp only [Go]; dsimp! only [id])
  refine draw_call S0 (by decide) (by decide) fun x1 G1 a1 b1 b2 => ?_
  obtain ⟨x1, rfl⟩ := to_nat b1
  dsimp! only [id]
  (simp only [Go]; dsimp! only [id])
  refine draw_call a1.at_ (by decide) (by decide) fun x2 G2 a2 c1 c2 => ?_
  obtain ⟨x2, rfl⟩ := to_nat c1
  obtain ⟨sz, hsz, z1, z2⟩ : ∃ sz : Nat, 1 + (x2 : Int) = (sz : Int) ∧ 1 ≤ sz ∧ sz ≤ 8 := ⟨1 + x2, by omega, by omega, by omega⟩
  dsimp! only [hsz]
  (simp only [Go]; dsimp! only [id])
  refine draw_call a2.at_ (by decide) (by decide) fun x3 G3 a3 d1 d2 => ?_
  obtain ⟨x3, rfl⟩ := to_nat d1
  dsimp! only [id]
  refine draw_call a3.at_ (by decide) (by decide) fun x4 G4 a4 e1 e2 => ?_
  dsimp! only [id]
  refine call_nd (post := fun d G' => ∃ (ra : Addr) (rs : List Row), d = .tup [.int sz, .ref ra] ∧ Adv st G4 G' ∧ ra ≠ st ∧ G' ra = some (.lst (rs.map Row.d)) ∧ rs.length = x3 ∧ (∀ r ∈ rs, r.ok sz) ∧ Pairs rs) (fun R h => ⟨st, sz, x3, x4, rfl, a4.at_, z1, by omega, by omega, fun ra rs G' y1 y2 y3 y4 y5 y6 => h _ _ ⟨ra, rs, rfl, y1, a4.at_.ne y2, y3, y4, y5, y6⟩⟩) ?_
  rintro d G5 ⟨ra, rs, rfl, a5, nra, k5, hl, hok, hp⟩
  have hsm : ∀ r ∈ rs, rK r := okK z2 hp (by omega) hok
  dsimp! only [id]
  (simp only [Go]; dsimp! only [id])
  (simp only [Go]; dsimp! only [id])
  refine ⟨⟨by omega, by omega⟩, ?_⟩
  refine forL_ind (fun r σ G' => ∃ (i c sz' : Nat) (q : Addr) (rs' : List Row) (v6 : Option D), i + c = x1 + 1 ∧ r = rngD (i : Int) c ∧ Adv st G5 G' ∧ q ≠ st ∧ G' q = some (.lst (rs'.map Row.d)) ∧ (∀ r ∈ rs', rK r) ∧ sz' ≤ 9999999999 ∧ rs'.length = rs.length ∧ σ = [some (.ref a), some (.ref st), some (.int (1 + (x1 : Int))), some (.int sz), some (.tup [.int sz, .ref ra]), some (.tup [.int (sz' : Int), .ref q]), v6, none, none, none]) ⟨0, x1 + 1, sz, ra, rs, _, by omega, ?_, Adv.refl a5.at_, nra, k5, hsm, by omega, rfl, rfl⟩ ?_ ?_
  ·rw [show (1 + (x1 : Int)).toNat = x1 + 1 by omega]; rfl
  ·rintro σ G6 ⟨i, c, sz', q, rs', v6, e, e2, A6, nq, k6, hsm', y2, hl', rfl⟩
   refine ⟨trivial, ?_⟩
   have kra := A6.kp _ _ nra k5
   (simp only [Go]; dsimp! only [k6])
   refine draw_call A6.at_ (by decide) (by decide) fun x7 G7 a7 l1 l2 => ?_
   have k7 := a7.kp _ _ nq k6
   have kra7 := a7.kp _ _ nra kra
   dsimp! only [id]
   (simp only [Go]; dsimp! only [k7, kra7])
   generalize hN : Go (dSeq _ _ _) = N
   have rest : ∀ G8, Grow G7 G8 → N [some (.ref a), some (.ref st), some (.int (1 + (x1 : Int))), some (.int sz), some (.tup [.int sz, .ref ra]), some (.tup [.int (sz' : Int), .ref q]), v6, some (.int x7), none, none] G8 := by
    intro G8 g8
    rw [← hN]
    have S8 := a7.at_.grow g8
    have k8 := g8.kp _ _ k7
    have kra8 := g8.kp _ _ kra7
    (simp only [Go]; dsimp! only [id])
    refine ⟨⟨by decide, by decide, by decide⟩, ⟨by decide, by decide, by decide⟩, ⟨by decide, by decide, by decide⟩, ?_⟩
    rw [show (10 : Int) ^ Int.toNat 9 - 10 ^ Int.toNat 4 = 999990000 from rfl]
    refine draw_call S8 (by decide) (by decide) fun x9 G9 a9 m1 m2 => ?_
    obtain ⟨x9, rfl⟩ := to_nat m1
    have k9 := a9.kp _ _ nq k8
    have kra9 := a9.kp _ _ nra kra8
    obtain ⟨far, hfar, hf2⟩ : ∃ far : Nat, (10 : Int) ^ Int.toNat 4 + (x9 : Int) = (far : Int) ∧ far ≤ 9999999999 := ⟨10000 + x9, by rw [show (10 : Int) ^ Int.toNat 4 = 10000 from rfl]; omega, by omega⟩
    dsimp! only [hfar]
    (simp only [Go]; dsimp! only [id])
    refine ⟨by decide, by decide, fun p10 hp10 => ?_⟩
    refine xadd_ls gup_same (by rw [gup_ne (gne k9 hp10)]; exact k9) (by rw [List.length_map]; show 1 + _ ≤ _; omega) fun p11 hp11 => ?_
    refine ⟨by decide, by decide, fun p12 hp12 => ?_⟩
    refine xadd_ls (by rw [gup_ne (gne gup_same hp12)]; exact gup_same) gup_same (by rw [List.length_append, List.length_map]; show 1 + _ + 1 ≤ _; omega) fun p13 hp13 => ?_
    obtain ⟨G13, hG13⟩ : ∃ G13, G13 = gup (gup (gup (gup G9 p10 (.lst [.tup [.str "go", .int 0, .int 1, .int (far : Int)]])) p11 (.lst ([.tup [.str "go", .int 0, .int 1, .int (far : Int)]] ++ rs'.map Row.d))) p12 (.lst [.tup [.str "come", .int (far : Int), .int 0, .int (far : Int)]])) p13 (.lst ([.tup [.str "go", .int 0, .int 1, .int (far : Int)]] ++ rs'.map Row.d ++ [.tup [.str "come", .int (far : Int), .int 0, .int (far : Int)]])) := ⟨_, rfl⟩
    have g13 : Grow G9 G13 := by rw [hG13]; exact (((Grow.refl.new hp10).trans (Grow.refl.new hp11)).trans (Grow.refl.new hp12)).trans (Grow.refl.new hp13)
    have k13 : G13 p13 = some (.lst ((Row.go 0 1 far :: rs' ++ [Row.come far 0 far]).map Row.d)) := by rw [hG13, gup_same, List.map_append]; rfl
    rw [← hG13]
    clear hG13
    have S13 := a9.at_.grow g13
    have fin : ∀ G14, Grow G9 G14 → Go (dRet (dAndV (dCall (S_law_both_ways T) [] (dCons (dVar 4) dNil)) (dAndV (dCall (S_law_both_ways T) [] (dCons (dVar 5) dNil)) (dCall (S_law_both_ways T) [] (dCons (dTup (dCons (dCall (S_law_any T) [] (dCons (dVar 1) dNil)) (dCons (dLst dNil) dNil))) dNil)))) { nx := fun x G' => R D.non G', rt := R }) [some (.ref a), some (.ref st), some (.int (1 + (x1 : Int))), some (.int sz), some (.tup [.int sz, .ref ra]), some (.tup [.int (sz' : Int), .ref q]), v6, some (.int x7), some (.int (far : Int)), some (.ref p13)] G14 := by
     intro G14 g14
     (simp only [Go]; dsimp! only [id])
     refine c_both T (g14.kp _ _ kra9) hsm (by omega) (by omega) fun G15 g15 => ?_
     dsimp! only [id]
     refine c_both T ((g14.trans g15).kp _ _ k9) hsm' y2 (by omega) fun G16 g16 => ?_
     dsimp! only [id]
     refine c_any T (a9.at_.grow (g14.trans (g15.trans g16))) fun v G17 a17 hv => ?_
     dsimp! only [id]
     refine ⟨by decide, fun p18 hp18 => ⟨by decide, ?_⟩⟩
     exact c_both T (rs := []) gup_same (fun r hr => by cases hr) hv (by simp) fun G19 g19 => post G19
    (simp only [Go]; dsimp! only [id])
    by_cases q2 : x7 = 2
    ·rw [if_pos (decide_eq_true q2)]
     refine ⟨by decide, ?_⟩
     refine c_both T k13 (fun r hr => ?_) (by omega) (by rw [List.length_append, List.length_cons]; show _ + 1 ≤ _; omega) fun G14 g14 => ?_
     ·rcases List.mem_append.mp hr with hr | hr
      ·rcases List.mem_cons.mp hr with e | hr
       ·rw [e]; exact ⟨by decide, ⟨by decide, by decide⟩, hf2⟩
       ·exact hsm' r hr
      ·rw [List.mem_singleton.mp hr]; exact ⟨hf2, ⟨by decide, by decide⟩, hf2⟩
     dsimp! only [id]
     exact fin G14 (g13.trans g14)
    ·rw [if_neg (by rw [decide_eq_false q2]; decide)]
     exact fin G13 g13
   by_cases q1 : x7 = 1
   ·rw [if_pos (decide_eq_true q1)]
    refine xadd_ls kra7 k7 (by rw [List.length_map, List.length_map]; omega) fun p8 hp8 => ?_
    dsimp! only [xMul, gup_same]
    refine ⟨⟨by decide, by decide, ?_⟩, fun p9 hp9 => ⟨by decide, ?_⟩⟩
    ·rw [List.length_append, List.length_map, List.length_map, show Int.toNat 30 = 30 from rfl]
     exact Nat.le_trans (m := 4000) (by omega) (by decide)
    have kf : ∀ n : Nat, (List.replicate n (rs.map Row.d ++ rs'.map Row.d)).flatten = (List.replicate n (rs ++ rs')).flatten.map Row.d := fun n => by
     rw [List.map_flatten, List.map_replicate, List.map_append]
    refine c_both T (rs := (List.replicate 30 (rs ++ rs')).flatten) (by rw [gup_same, show Int.toNat 30 = 30 from rfl, kf]) (fun r hr => ?_) y2 ?_ fun G10 g10 => ?_
    ·obtain ⟨l, hl1, hr⟩ := List.mem_flatten.mp hr
     rw [(List.mem_replicate.mp hl1).2] at hr
     rcases List.mem_append.mp hr with hr | hr
     ·exact hsm r hr
     ·exact hsm' r hr
    ·rw [List.length_flatten, List.map_replicate, List.sum_replicate_nat, List.length_append]; omega
    dsimp! only [id]
    exact rest G10 ((Grow.refl.new hp8).trans ((Grow.refl.new hp9).trans g10))
   ·rw [if_neg (by rw [decide_eq_false q1]; decide)]
    exact rest G7 Grow.refl
  ·rintro z r σ G6 ⟨i, c, sz', q, rs', v6, e, e2, A6, nq, k6, hsm', y2, hl', rfl⟩ ih
   cases c with
   | zero => cases e2
   | succ c =>
    rw [rngD_succ] at e2
    cases e2
    refine ⟨trivial, ?_⟩
    dsimp! only [id]
    refine call_nd (post := fun d G' => ∃ (q : Addr) (sz' : Nat) (rs' : List Row), d = .tup [.int (sz' : Int), .ref q] ∧ Adv st G6 G' ∧ q ≠ st ∧ sz' ≤ 9999999999 ∧ G' q = some (.lst (rs'.map Row.d)) ∧ (∀ r ∈ rs', rK r) ∧ rs'.length = rs.length) (fun R h => ⟨st, q, rs', sz', rfl, A6.at_, nq, k6, hsm', y2, by omega, fun q sz' rs' G' w1 w2 w3 w4 w5 w6 => h _ _ ⟨q, sz', rs', rfl, w1, w2, w3, w4, w5, by omega⟩⟩) ?_
    rintro d G7 ⟨q7, sz7, rs7, rfl, A7, n7, y7, k7, s7, l7⟩
    dsimp! only [id]
    exact ih _ _ ⟨i + 1, c, sz7, q7, rs7, _, by omega, rfl, A6.trans A7, n7, k7, s7, y7, l7, rfl⟩
end
end Law
namespace Law
open PySem PySem.Spec PyProof.Rows L2 L3
noncomputable def noL : PySem.W.Frag → Bool
 | [] => true
 | p :: r => (match p.2.data with | .seq _ _ => (match p.2.cls with | .type s => !(s == "list") | _ => true) | _ => true) && noL r
theorem noL_of : ∀ {K : PySem.W.Frag} {a : Addr} {o : Obj} {its : Array Value} {n : Nat}, noL K = true → K.lookup a = some o → o.cls = .type "list" → o.data = .seq its n → False
 | [], a, o, its, n, _, e, _, _ => by cases e
 | p :: r, a, o, its, n, h, e, h1, h2 => by
  unfold noL at h
  rw [Bool.and_eq_true] at h
  rw [List.lookup_cons] at e
  split at e
  ·cases e
   have q := h.1
   rw [h2] at q
   simp only [h1] at q
   exact absurd q (by decide)
  ·exact noL_of h.2 e h1 h2
theorem ar1 {P : List Value → Prop} (h : ∀ a0, P [a0]) : ∀ us : List Value, us.length = 1 → P us
 | [a0], _ => h a0
theorem ar2 {P : List Value → Prop} (h : ∀ a0 a1, P [a0, a1]) : ∀ us : List Value, us.length = 2 → P us
 | [a0, a1], _ => h a0 a1
theorem ar3 {P : List Value → Prop} (h : ∀ a0 a1 a2, P [a0, a1, a2]) : ∀ us : List Value, us.length = 3 → P us
 | [a0, a1, a2], _ => h a0 a1 a2
theorem ar4 {P : List Value → Prop} (h : ∀ a0 a1 a2 a3, P [a0, a1, a2, a3]) : ∀ us : List Value, us.length = 4 → P us
 | [a0, a1, a2, a3], _ => h a0 a1 a2 a3
theorem ar5 {P : List Value → Prop} (h : ∀ a0 a1 a2 a3 a4, P [a0, a1, a2, a3, a4]) : ∀ us : List Value, us.length = 5 → P us
 | [a0, a1, a2, a3, a4], _ => h a0 a1 a2 a3 a4
noncomputable def fnAt_mk {K : PySem.W.Frag} {x qual : Str} {st : Stmt} {ps : List Str} {f : Addr} {oc : Value} {od an : Option Addr} {osl : Array (Option Value)} {kV doc pm cdv ct : Value} (l : K.lookup f = some ⟨oc, od, .func (PySem.W.fnOf x qual (defArgs st) (defBody st) (defScope st) .none kV doc pm an cdv ct), osl⟩)
  (c : PySem.W.codeIn K cdv qual = true) (k : PySem.W.keepIn K (.ref f) = true) (hb : ∀ us : List Value, us.length = ps.length → bindArgs (PySem.W.fnOf x qual (defArgs st) (defBody st) (defScope st) .none kV doc pm an cdv ct) ⟨us, []⟩ = pure (ps.zip us)) : FnAt K x qual st ps :=
 ⟨f, _, ⟨oc, od, .none, kV, doc, pm, an, cdv, ct, osl, rfl, l, c⟩, k, .all hb⟩
def spLaw3 : Sp3 := fun ds G R => ∃ (a : Addr) (ns : List Int), ds = [.ref a] ∧ G a = some (.fro (ns.map .int)) ∧ ns.length ≤ 63 ∧ ∀ G', R (.bl true) G'
theorem rel_ints {K : PySem.W.Frag} {H : Hp} : ∀ ns : List Int, RelDs K H (ns.map D.int) (ns.map V.int)
 | [] => .nil
 | _ :: ns => .cons RelD.intI (rel_ints ns)
theorem law_sp {K : PySem.W.Frag} {H : Hp} {a : Addr} {ns : List Int} (hL : noL K = true) (hl : ns.length ≤ 63) (hO : Only H) (hS : SqL K H a (ns.map V.int)) : lowSp K spLaw3 [.ref a] H (fun v _ => v = .bl true) fun _ _ _ => False := by
 have ha : ∃ o, H a = some (.frz o (.lst (ns.map V.int))) := by
  rcases hS with (h | h) | ⟨o, its, n, h1, h2, _, h3, _⟩
  ·rcases hO a with z | ⟨o, xs, z⟩
   ·rw [h] at z; cases z
   ·rw [h] at z; cases z
  ·exact h
  ·exact (noL_of hL h1 h2 h3).elim
 obtain ⟨o, ha⟩ := ha
 refine ⟨[.ref a], gup (fun _ => none) a (.fro (ns.map .int)), fun d _ => d = .bl true, .cons ?_ .nil, fun b u e => ?_, ⟨a, ns, rfl, gup_same, hl, fun _ => rfl⟩, fun d G' v H' r _ _ e => ?_⟩
 ·rw [RelD]
 ·by_cases hb : b = a
  ·subst hb
   rw [gup_same] at e
   cases e
   exact ⟨o, _, ha, rel_ints ns⟩
  ·rw [gup_ne hb] at e; cases e
 ·subst e
  rw [RelD] at r
  exact r
end Law
namespace Law
open PySem PySem.Spec PyProof.Rows L2 L3 Rw
set_option maxHeartbeats 4000000
theorem txt_mk {K : PySem.W.Frag} {h : Heap} {mg : Str → Option Value} (X : K.In h) (G : h.Ns mainGlobals mg) 
  {p_14 : Addr} {od_14 an_14 : Option Addr} {sl_14 : Array (Option Value)} {oc_14 kV_14 dc_14 pm_14 cd_14 ct_14 : Value}
  {p_25 : Addr} {od_25 an_25 : Option Addr} {sl_25 : Array (Option Value)} {oc_25 kV_25 dc_25 pm_25 cd_25 ct_25 : Value}
  {p_26 : Addr} {od_26 an_26 : Option Addr} {sl_26 : Array (Option Value)} {oc_26 kV_26 dc_26 pm_26 cd_26 ct_26 : Value}
  {p_15 : Addr} {od_15 an_15 : Option Addr} {sl_15 : Array (Option Value)} {oc_15 kV_15 dc_15 pm_15 cd_15 ct_15 : Value}
  {p_0 : Addr} {od_0 an_0 : Option Addr} {sl_0 : Array (Option Value)} {oc_0 kV_0 dc_0 pm_0 cd_0 ct_0 : Value}
  {p_18 : Addr} {od_18 an_18 : Option Addr} {sl_18 : Array (Option Value)} {oc_18 kV_18 dc_18 pm_18 cd_18 ct_18 : Value}
  {p_23 : Addr} {od_23 an_23 : Option Addr} {sl_23 : Array (Option Value)} {oc_23 kV_23 dc_23 pm_23 cd_23 ct_23 : Value}
  {p_22 : Addr} {od_22 an_22 : Option Addr} {sl_22 : Array (Option Value)} {oc_22 kV_22 dc_22 pm_22 cd_22 ct_22 : Value}
  {p_20 : Addr} {od_20 an_20 : Option Addr} {sl_20 : Array (Option Value)} {oc_20 kV_20 dc_20 pm_20 cd_20 ct_20 : Value}
  {p_17 : Addr} {od_17 an_17 : Option Addr} {sl_17 : Array (Option Value)} {oc_17 kV_17 dc_17 pm_17 cd_17 ct_17 : Value}
  {p_21 : Addr} {od_21 an_21 : Option Addr} {sl_21 : Array (Option Value)} {oc_21 kV_21 dc_21 pm_21 cd_21 ct_21 : Value}
  {p_16 : Addr} {od_16 an_16 : Option Addr} {sl_16 : Array (Option Value)} {oc_16 kV_16 dc_16 pm_16 cd_16 ct_16 : Value}
  {p_24 : Addr} {od_24 an_24 : Option Addr} {sl_24 : Array (Option Value)} {oc_24 kV_24 dc_24 pm_24 cd_24 ct_24 : Value}
  {p_19 : Addr} {od_19 an_19 : Option Addr} {sl_19 : Array (Option Value)} {oc_19 kV_19 dc_19 pm_19 cd_19 ct_19 : Value}
  {p_7 : Addr} {od_7 an_7 : Option Addr} {sl_7 : Array (Option Value)} {oc_7 kV_7 dc_7 pm_7 cd_7 ct_7 : Value}
  {p_10 : Addr} {od_10 an_10 : Option Addr} {sl_10 : Array (Option Value)} {oc_10 kV_10 dc_10 pm_10 cd_10 ct_10 : Value}
  {p_11 : Addr} {od_11 an_11 : Option Addr} {sl_11 : Array (Option Value)} {oc_11 kV_11 dc_11 pm_11 cd_11 ct_11 : Value}
  {p_12 : Addr} {od_12 an_12 : Option Addr} {sl_12 : Array (Option Value)} {oc_12 kV_12 dc_12 pm_12 cd_12 ct_12 : Value}
  {p_3 : Addr} {od_3 an_3 : Option Addr} {sl_3 : Array (Option Value)} {oc_3 kV_3 dc_3 pm_3 cd_3 ct_3 : Value}
  {p_6 : Addr} {od_6 an_6 : Option Addr} {sl_6 : Array (Option Value)} {oc_6 kV_6 dc_6 pm_6 cd_6 ct_6 : Value}
  {p_13 : Addr} {od_13 an_13 : Option Addr} {sl_13 : Array (Option Value)} {oc_13 kV_13 dc_13 pm_13 cd_13 ct_13 : Value}
  {p_9 : Addr} {od_9 an_9 : Option Addr} {sl_9 : Array (Option Value)} {oc_9 kV_9 dc_9 pm_9 cd_9 ct_9 : Value}
  {p_8 : Addr} {od_8 an_8 : Option Addr} {sl_8 : Array (Option Value)} {oc_8 kV_8 dc_8 pm_8 cd_8 ct_8 : Value}
  {p_2 : Addr} {od_2 an_2 : Option Addr} {sl_2 : Array (Option Value)} {oc_2 kV_2 dc_2 pm_2 cd_2 ct_2 : Value}
  {p_5 : Addr} {od_5 an_5 : Option Addr} {sl_5 : Array (Option Value)} {oc_5 kV_5 dc_5 pm_5 cd_5 ct_5 : Value}
  {p_4 : Addr} {od_4 an_4 : Option Addr} {sl_4 : Array (Option Value)} {oc_4 kV_4 dc_4 pm_4 cd_4 ct_4 : Value}
  {p_1 : Addr} {od_1 an_1 : Option Addr} {sl_1 : Array (Option Value)} {oc_1 kV_1 dc_1 pm_1 cd_1 ct_1 : Value}
  {t_NUMBERS : Tok}
  {t_BITS : Tok}
  {t_FIGURES : Tok}
  {t_GREATEST : Tok}
  (a_14 : PySem.W.nsIn K mainGlobals "number_in" = some (some (.ref p_14)))
  (l_14 : K.lookup p_14 = some ⟨oc_14, od_14, .func (PySem.W.fnOf "number_in" "number_in" (defArgs s_number_in) (defBody s_number_in) (defScope s_number_in) .none kV_14 dc_14 pm_14 an_14 cd_14 ct_14), sl_14⟩)
  (c_14 : PySem.W.codeIn K cd_14 "number_in" = true)
  (k_14 : PySem.W.keepIn K (.ref p_14) = true)
  (a_25 : PySem.W.nsIn K mainGlobals "show_code" = some (some (.ref p_25)))
  (l_25 : K.lookup p_25 = some ⟨oc_25, od_25, .func (PySem.W.fnOf "show_code" "show_code" (defArgs s_show_code) (defBody s_show_code) (defScope s_show_code) .none kV_25 dc_25 pm_25 an_25 cd_25 ct_25), sl_25⟩)
  (c_25 : PySem.W.codeIn K cd_25 "show_code" = true)
  (k_25 : PySem.W.keepIn K (.ref p_25) = true)
  (a_26 : PySem.W.nsIn K mainGlobals "words_of" = some (some (.ref p_26)))
  (l_26 : K.lookup p_26 = some ⟨oc_26, od_26, .func (PySem.W.fnOf "words_of" "words_of" (defArgs s_words_of) (defBody s_words_of) (defScope s_words_of) .none kV_26 dc_26 pm_26 an_26 cd_26 ct_26), sl_26⟩)
  (c_26 : PySem.W.codeIn K cd_26 "words_of" = true)
  (k_26 : PySem.W.keepIn K (.ref p_26) = true)
  (a_15 : PySem.W.nsIn K mainGlobals "operand_word" = some (some (.ref p_15)))
  (l_15 : K.lookup p_15 = some ⟨oc_15, od_15, .func (PySem.W.fnOf "operand_word" "operand_word" (defArgs s_operand_word) (defBody s_operand_word) (defScope s_operand_word) .none kV_15 dc_15 pm_15 an_15 cd_15 ct_15), sl_15⟩)
  (c_15 : PySem.W.codeIn K cd_15 "operand_word" = true)
  (k_15 : PySem.W.keepIn K (.ref p_15) = true)
  (a_0 : PySem.W.nsIn K mainGlobals "box_word" = some (some (.ref p_0)))
  (l_0 : K.lookup p_0 = some ⟨oc_0, od_0, .func (PySem.W.fnOf "box_word" "box_word" (defArgs s_box_word) (defBody s_box_word) (defScope s_box_word) .none kV_0 dc_0 pm_0 an_0 cd_0 ct_0), sl_0⟩)
  (c_0 : PySem.W.codeIn K cd_0 "box_word" = true)
  (k_0 : PySem.W.keepIn K (.ref p_0) = true)
  (a_18 : PySem.W.nsIn K mainGlobals "read_code" = some (some (.ref p_18)))
  (l_18 : K.lookup p_18 = some ⟨oc_18, od_18, .func (PySem.W.fnOf "read_code" "read_code" (defArgs s_read_code) (defBody s_read_code) (defScope s_read_code) .none kV_18 dc_18 pm_18 an_18 cd_18 ct_18), sl_18⟩)
  (c_18 : PySem.W.codeIn K cd_18 "read_code" = true)
  (k_18 : PySem.W.keepIn K (.ref p_18) = true)
  (a_23 : PySem.W.nsIn K mainGlobals "read_size" = some (some (.ref p_23)))
  (l_23 : K.lookup p_23 = some ⟨oc_23, od_23, .func (PySem.W.fnOf "read_size" "read_size" (defArgs s_read_size) (defBody s_read_size) (defScope s_read_size) .none kV_23 dc_23 pm_23 an_23 cd_23 ct_23), sl_23⟩)
  (c_23 : PySem.W.codeIn K cd_23 "read_size" = true)
  (k_23 : PySem.W.keepIn K (.ref p_23) = true)
  (a_22 : PySem.W.nsIn K mainGlobals "read_row" = some (some (.ref p_22)))
  (l_22 : K.lookup p_22 = some ⟨oc_22, od_22, .func (PySem.W.fnOf "read_row" "read_row" (defArgs s_read_row) (defBody s_read_row) (defScope s_read_row) .none kV_22 dc_22 pm_22 an_22 cd_22 ct_22), sl_22⟩)
  (c_22 : PySem.W.codeIn K cd_22 "read_row" = true)
  (k_22 : PySem.W.keepIn K (.ref p_22) = true)
  (a_20 : PySem.W.nsIn K mainGlobals "read_numbers" = some (some (.ref p_20)))
  (l_20 : K.lookup p_20 = some ⟨oc_20, od_20, .func (PySem.W.fnOf "read_numbers" "read_numbers" (defArgs s_read_numbers) (defBody s_read_numbers) (defScope s_read_numbers) .none kV_20 dc_20 pm_20 an_20 cd_20 ct_20), sl_20⟩)
  (c_20 : PySem.W.codeIn K cd_20 "read_numbers" = true)
  (k_20 : PySem.W.keepIn K (.ref p_20) = true)
  (a_17 : PySem.W.nsIn K mainGlobals "read_change" = some (some (.ref p_17)))
  (l_17 : K.lookup p_17 = some ⟨oc_17, od_17, .func (PySem.W.fnOf "read_change" "read_change" (defArgs s_read_change) (defBody s_read_change) (defScope s_read_change) .none kV_17 dc_17 pm_17 an_17 cd_17 ct_17), sl_17⟩)
  (c_17 : PySem.W.codeIn K cd_17 "read_change" = true)
  (k_17 : PySem.W.keepIn K (.ref p_17) = true)
  (a_21 : PySem.W.nsIn K mainGlobals "read_operand" = some (some (.ref p_21)))
  (l_21 : K.lookup p_21 = some ⟨oc_21, od_21, .func (PySem.W.fnOf "read_operand" "read_operand" (defArgs s_read_operand) (defBody s_read_operand) (defScope s_read_operand) .none kV_21 dc_21 pm_21 an_21 cd_21 ct_21), sl_21⟩)
  (c_21 : PySem.W.codeIn K cd_21 "read_operand" = true)
  (k_21 : PySem.W.keepIn K (.ref p_21) = true)
  (a_16 : PySem.W.nsIn K mainGlobals "read_box" = some (some (.ref p_16)))
  (l_16 : K.lookup p_16 = some ⟨oc_16, od_16, .func (PySem.W.fnOf "read_box" "read_box" (defArgs s_read_box) (defBody s_read_box) (defScope s_read_box) .none kV_16 dc_16 pm_16 an_16 cd_16 ct_16), sl_16⟩)
  (c_16 : PySem.W.codeIn K cd_16 "read_box" = true)
  (k_16 : PySem.W.keepIn K (.ref p_16) = true)
  (a_24 : PySem.W.nsIn K mainGlobals "read_turn" = some (some (.ref p_24)))
  (l_24 : K.lookup p_24 = some ⟨oc_24, od_24, .func (PySem.W.fnOf "read_turn" "read_turn" (defArgs s_read_turn) (defBody s_read_turn) (defScope s_read_turn) .none kV_24 dc_24 pm_24 an_24 cd_24 ct_24), sl_24⟩)
  (c_24 : PySem.W.codeIn K cd_24 "read_turn" = true)
  (k_24 : PySem.W.keepIn K (.ref p_24) = true)
  (a_19 : PySem.W.nsIn K mainGlobals "read_cond" = some (some (.ref p_19)))
  (l_19 : K.lookup p_19 = some ⟨oc_19, od_19, .func (PySem.W.fnOf "read_cond" "read_cond" (defArgs s_read_cond) (defBody s_read_cond) (defScope s_read_cond) .none kV_19 dc_19 pm_19 an_19 cd_19 ct_19), sl_19⟩)
  (c_19 : PySem.W.codeIn K cd_19 "read_cond" = true)
  (k_19 : PySem.W.keepIn K (.ref p_19) = true)
  (a_7 : PySem.W.nsIn K mainGlobals "_law_draw" = some (some (.ref p_7)))
  (l_7 : K.lookup p_7 = some ⟨oc_7, od_7, .func (PySem.W.fnOf "_law_draw" "_law_draw" (defArgs s_law_draw) (defBody s_law_draw) (defScope s_law_draw) .none kV_7 dc_7 pm_7 an_7 cd_7 ct_7), sl_7⟩)
  (c_7 : PySem.W.codeIn K cd_7 "_law_draw" = true)
  (k_7 : PySem.W.keepIn K (.ref p_7) = true)
  (a_10 : PySem.W.nsIn K mainGlobals "_law_number" = some (some (.ref p_10)))
  (l_10 : K.lookup p_10 = some ⟨oc_10, od_10, .func (PySem.W.fnOf "_law_number" "_law_number" (defArgs s_law_number) (defBody s_law_number) (defScope s_law_number) .none kV_10 dc_10 pm_10 an_10 cd_10 ct_10), sl_10⟩)
  (c_10 : PySem.W.codeIn K cd_10 "_law_number" = true)
  (k_10 : PySem.W.keepIn K (.ref p_10) = true)
  (a_11 : PySem.W.nsIn K mainGlobals "_law_other" = some (some (.ref p_11)))
  (l_11 : K.lookup p_11 = some ⟨oc_11, od_11, .func (PySem.W.fnOf "_law_other" "_law_other" (defArgs s_law_other) (defBody s_law_other) (defScope s_law_other) .none kV_11 dc_11 pm_11 an_11 cd_11 ct_11), sl_11⟩)
  (c_11 : PySem.W.codeIn K cd_11 "_law_other" = true)
  (k_11 : PySem.W.keepIn K (.ref p_11) = true)
  (a_12 : PySem.W.nsIn K mainGlobals "_law_plain_row" = some (some (.ref p_12)))
  (l_12 : K.lookup p_12 = some ⟨oc_12, od_12, .func (PySem.W.fnOf "_law_plain_row" "_law_plain_row" (defArgs s_law_plain_row) (defBody s_law_plain_row) (defScope s_law_plain_row) .none kV_12 dc_12 pm_12 an_12 cd_12 ct_12), sl_12⟩)
  (c_12 : PySem.W.codeIn K cd_12 "_law_plain_row" = true)
  (k_12 : PySem.W.keepIn K (.ref p_12) = true)
  (a_3 : PySem.W.nsIn K mainGlobals "_law_bit" = some (some (.ref p_3)))
  (l_3 : K.lookup p_3 = some ⟨oc_3, od_3, .func (PySem.W.fnOf "_law_bit" "_law_bit" (defArgs s_law_bit) (defBody s_law_bit) (defScope s_law_bit) .none kV_3 dc_3 pm_3 an_3 cd_3 ct_3), sl_3⟩)
  (c_3 : PySem.W.codeIn K cd_3 "_law_bit" = true)
  (k_3 : PySem.W.keepIn K (.ref p_3) = true)
  (a_6 : PySem.W.nsIn K mainGlobals "_law_code" = some (some (.ref p_6)))
  (l_6 : K.lookup p_6 = some ⟨oc_6, od_6, .func (PySem.W.fnOf "_law_code" "_law_code" (defArgs s_law_code) (defBody s_law_code) (defScope s_law_code) .none kV_6 dc_6 pm_6 an_6 cd_6 ct_6), sl_6⟩)
  (c_6 : PySem.W.codeIn K cd_6 "_law_code" = true)
  (k_6 : PySem.W.keepIn K (.ref p_6) = true)
  (a_13 : PySem.W.nsIn K mainGlobals "_law_row_text" = some (some (.ref p_13)))
  (l_13 : K.lookup p_13 = some ⟨oc_13, od_13, .func (PySem.W.fnOf "_law_row_text" "_law_row_text" (defArgs s_law_row_text) (defBody s_law_row_text) (defScope s_law_row_text) .none kV_13 dc_13 pm_13 an_13 cd_13 ct_13), sl_13⟩)
  (c_13 : PySem.W.codeIn K cd_13 "_law_row_text" = true)
  (k_13 : PySem.W.keepIn K (.ref p_13) = true)
  (a_9 : PySem.W.nsIn K mainGlobals "_law_lines" = some (some (.ref p_9)))
  (l_9 : K.lookup p_9 = some ⟨oc_9, od_9, .func (PySem.W.fnOf "_law_lines" "_law_lines" (defArgs s_law_lines) (defBody s_law_lines) (defScope s_law_lines) .none kV_9 dc_9 pm_9 an_9 cd_9 ct_9), sl_9⟩)
  (c_9 : PySem.W.codeIn K cd_9 "_law_lines" = true)
  (k_9 : PySem.W.keepIn K (.ref p_9) = true)
  (a_8 : PySem.W.nsIn K mainGlobals "_law_kinds" = some (some (.ref p_8)))
  (l_8 : K.lookup p_8 = some ⟨oc_8, od_8, .func (PySem.W.fnOf "_law_kinds" "_law_kinds" (defArgs s_law_kinds) (defBody s_law_kinds) (defScope s_law_kinds) .none kV_8 dc_8 pm_8 an_8 cd_8 ct_8), sl_8⟩)
  (c_8 : PySem.W.codeIn K cd_8 "_law_kinds" = true)
  (k_8 : PySem.W.keepIn K (.ref p_8) = true)
  (a_2 : PySem.W.nsIn K mainGlobals "_law_any" = some (some (.ref p_2)))
  (l_2 : K.lookup p_2 = some ⟨oc_2, od_2, .func (PySem.W.fnOf "_law_any" "_law_any" (defArgs s_law_any) (defBody s_law_any) (defScope s_law_any) .none kV_2 dc_2 pm_2 an_2 cd_2 ct_2), sl_2⟩)
  (c_2 : PySem.W.codeIn K cd_2 "_law_any" = true)
  (k_2 : PySem.W.keepIn K (.ref p_2) = true)
  (a_5 : PySem.W.nsIn K mainGlobals "_law_changed" = some (some (.ref p_5)))
  (l_5 : K.lookup p_5 = some ⟨oc_5, od_5, .func (PySem.W.fnOf "_law_changed" "_law_changed" (defArgs s_law_changed) (defBody s_law_changed) (defScope s_law_changed) .none kV_5 dc_5 pm_5 an_5 cd_5 ct_5), sl_5⟩)
  (c_5 : PySem.W.codeIn K cd_5 "_law_changed" = true)
  (k_5 : PySem.W.keepIn K (.ref p_5) = true)
  (a_4 : PySem.W.nsIn K mainGlobals "_law_both_ways" = some (some (.ref p_4)))
  (l_4 : K.lookup p_4 = some ⟨oc_4, od_4, .func (PySem.W.fnOf "_law_both_ways" "_law_both_ways" (defArgs s_law_both_ways) (defBody s_law_both_ways) (defScope s_law_both_ways) .none kV_4 dc_4 pm_4 an_4 cd_4 ct_4), sl_4⟩)
  (c_4 : PySem.W.codeIn K cd_4 "_law_both_ways" = true)
  (k_4 : PySem.W.keepIn K (.ref p_4) = true)
  (a_1 : PySem.W.nsIn K mainGlobals "law" = some (some (.ref p_1)))
  (l_1 : K.lookup p_1 = some ⟨oc_1, od_1, .func (PySem.W.fnOf "law" "law" (defArgs s_law) (defBody s_law) (defScope s_law) .none kV_1 dc_1 pm_1 an_1 cd_1 ct_1), sl_1⟩)
  (c_1 : PySem.W.codeIn K cd_1 "law" = true)
  (k_1 : PySem.W.keepIn K (.ref p_1) = true)
  (v_NUMBERS : PySem.W.nsIn K mainGlobals "NUMBERS" = some (some (.int 4294967296 t_NUMBERS)))
  (v_BITS : PySem.W.nsIn K mainGlobals "BITS" = some (some (.int 32 t_BITS)))
  (v_FIGURES : PySem.W.nsIn K mainGlobals "FIGURES" = some (some (.str "0123456789" t_FIGURES)))
  (v_GREATEST : PySem.W.nsIn K mainGlobals "GREATEST" = some (some (.int 9999999999 t_GREATEST)))
  (b_abs : PySem.W.nsIn K mainGlobals "abs" = some none)
  (b_all : PySem.W.nsIn K mainGlobals "all" = some none)
  (b_bool : PySem.W.nsIn K mainGlobals "bool" = some none)
  (b_divmod : PySem.W.nsIn K mainGlobals "divmod" = some none)
  (b_enumerate : PySem.W.nsIn K mainGlobals "enumerate" = some none)
  (b_int : PySem.W.nsIn K mainGlobals "int" = some none)
  (b_isinstance : PySem.W.nsIn K mainGlobals "isinstance" = some none)
  (b_len : PySem.W.nsIn K mainGlobals "len" = some none)
  (b_list : PySem.W.nsIn K mainGlobals "list" = some none)
  (b_range : PySem.W.nsIn K mainGlobals "range" = some none)
  (b_str : PySem.W.nsIn K mainGlobals "str" = some none)
  (b_tuple : PySem.W.nsIn K mainGlobals "tuple" = some none)
  (b_zip : PySem.W.nsIn K mainGlobals "zip" = some none) :
  ∃ T : Txt K mg, ∀ (s : Shared) (v : Value), BindsTo s T.f_law.fd ⟨[v], []⟩ [("_law_script", v)] := by
 let f_number_in : FnAt K "number_in" "number_in" s_number_in ["word", "most"] := fnAt_mk (st := s_number_in) l_14 c_14 k_14 (ar2 fun _ _ => rfl)
 let f_show_code : FnAt K "show_code" "show_code" s_show_code ["code"] := fnAt_mk (st := s_show_code) l_25 c_25 k_25 (ar1 fun _ => rfl)
 let f_words_of : FnAt K "words_of" "words_of" s_words_of ["row"] := fnAt_mk (st := s_words_of) l_26 c_26 k_26 (ar1 fun _ => rfl)
 let f_operand_word : FnAt K "operand_word" "operand_word" s_operand_word ["operand"] := fnAt_mk (st := s_operand_word) l_15 c_15 k_15 (ar1 fun _ => rfl)
 let f_box_word : FnAt K "box_word" "box_word" s_box_word ["box"] := fnAt_mk (st := s_box_word) l_0 c_0 k_0 (ar1 fun _ => rfl)
 let f_read_code : FnAt K "read_code" "read_code" s_read_code ["text"] := fnAt_mk (st := s_read_code) l_18 c_18 k_18 (ar1 fun _ => rfl)
 let f_read_size : FnAt K "read_size" "read_size" s_read_size ["words"] := fnAt_mk (st := s_read_size) l_23 c_23 k_23 (ar1 fun _ => rfl)
 let f_read_row : FnAt K "read_row" "read_row" s_read_row ["words"] := fnAt_mk (st := s_read_row) l_22 c_22 k_22 (ar1 fun _ => rfl)
 let f_read_numbers : FnAt K "read_numbers" "read_numbers" s_read_numbers ["words", "mosts"] := fnAt_mk (st := s_read_numbers) l_20 c_20 k_20 (ar2 fun _ _ => rfl)
 let f_read_change : FnAt K "read_change" "read_change" s_read_change ["words"] := fnAt_mk (st := s_read_change) l_17 c_17 k_17 (ar1 fun _ => rfl)
 let f_read_operand : FnAt K "read_operand" "read_operand" s_read_operand ["word"] := fnAt_mk (st := s_read_operand) l_21 c_21 k_21 (ar1 fun _ => rfl)
 let f_read_box : FnAt K "read_box" "read_box" s_read_box ["word"] := fnAt_mk (st := s_read_box) l_16 c_16 k_16 (ar1 fun _ => rfl)
 let f_read_turn : FnAt K "read_turn" "read_turn" s_read_turn ["words"] := fnAt_mk (st := s_read_turn) l_24 c_24 k_24 (ar1 fun _ => rfl)
 let f_read_cond : FnAt K "read_cond" "read_cond" s_read_cond ["box_text", "bit_text"] := fnAt_mk (st := s_read_cond) l_19 c_19 k_19 (ar2 fun _ _ => rfl)
 let f_law_draw : FnAt K "_law_draw" "_law_draw" s_law_draw ["_law_state", "_law_many"] := fnAt_mk (st := s_law_draw) l_7 c_7 k_7 (ar2 fun _ _ => rfl)
 let f_law_number : FnAt K "_law_number" "_law_number" s_law_number ["_law_state"] := fnAt_mk (st := s_law_number) l_10 c_10 k_10 (ar1 fun _ => rfl)
 let f_law_other : FnAt K "_law_other" "_law_other" s_law_other ["_law_state", "_law_size", "_law_x"] := fnAt_mk (st := s_law_other) l_11 c_11 k_11 (ar3 fun _ _ _ => rfl)
 let f_law_plain_row : FnAt K "_law_plain_row" "_law_plain_row" s_law_plain_row ["_law_state", "_law_size"] := fnAt_mk (st := s_law_plain_row) l_12 c_12 k_12 (ar2 fun _ _ => rfl)
 let f_law_bit : FnAt K "_law_bit" "_law_bit" s_law_bit ["_law_state"] := fnAt_mk (st := s_law_bit) l_3 c_3 k_3 (ar1 fun _ => rfl)
 let f_law_code : FnAt K "_law_code" "_law_code" s_law_code ["_law_state", "_law_size", "_law_many", "_law_jumps"] := fnAt_mk (st := s_law_code) l_6 c_6 k_6 (ar4 fun _ _ _ _ => rfl)
 let f_law_row_text : FnAt K "_law_row_text" "_law_row_text" s_law_row_text ["_law_row"] := fnAt_mk (st := s_law_row_text) l_13 c_13 k_13 (ar1 fun _ => rfl)
 let f_law_lines : FnAt K "_law_lines" "_law_lines" s_law_lines ["_law_code_here"] := fnAt_mk (st := s_law_lines) l_9 c_9 k_9 (ar1 fun _ => rfl)
 let f_law_kinds : FnAt K "_law_kinds" "_law_kinds" s_law_kinds ["_law_found", "_law_due"] := fnAt_mk (st := s_law_kinds) l_8 c_8 k_8 (ar2 fun _ _ => rfl)
 let f_law_any : FnAt K "_law_any" "_law_any" s_law_any ["_law_state"] := fnAt_mk (st := s_law_any) l_2 c_2 k_2 (ar1 fun _ => rfl)
 let f_law_changed : FnAt K "_law_changed" "_law_changed" s_law_changed ["_law_state", "_law_code_here"] := fnAt_mk (st := s_law_changed) l_5 c_5 k_5 (ar2 fun _ _ => rfl)
 let f_law_both_ways : FnAt K "_law_both_ways" "_law_both_ways" s_law_both_ways ["_law_code_here"] := fnAt_mk (st := s_law_both_ways) l_4 c_4 k_4 (ar1 fun _ => rfl)
 let f_law : FnAt K "law" "law" s_law ["_law_script"] := fnAt_mk (st := s_law) l_1 c_1 k_1 (ar1 fun _ => rfl)
 exact ⟨⟨f_number_in, PySem.W.mg_of X G a_14, f_show_code, PySem.W.mg_of X G a_25, f_words_of, PySem.W.mg_of X G a_26, f_operand_word, PySem.W.mg_of X G a_15, f_box_word, PySem.W.mg_of X G a_0, f_read_code, PySem.W.mg_of X G a_18, f_read_size, PySem.W.mg_of X G a_23, f_read_row, PySem.W.mg_of X G a_22, f_read_numbers, PySem.W.mg_of X G a_20, f_read_change, PySem.W.mg_of X G a_17, f_read_operand, PySem.W.mg_of X G a_21, f_read_box, PySem.W.mg_of X G a_16, f_read_turn, PySem.W.mg_of X G a_24, f_read_cond, PySem.W.mg_of X G a_19, f_law_draw, PySem.W.mg_of X G a_7, f_law_number, PySem.W.mg_of X G a_10, f_law_other, PySem.W.mg_of X G a_11, f_law_plain_row, PySem.W.mg_of X G a_12, f_law_bit, PySem.W.mg_of X G a_3, f_law_code, PySem.W.mg_of X G a_6, f_law_row_text, PySem.W.mg_of X G a_13, f_law_lines, PySem.W.mg_of X G a_9, f_law_kinds, PySem.W.mg_of X G a_8, f_law_any, PySem.W.mg_of X G a_2, f_law_changed, PySem.W.mg_of X G a_5, f_law_both_ways, PySem.W.mg_of X G a_4, f_law, PySem.W.mg_of X G a_1, ⟨t_NUMBERS, PySem.W.mg_of X G v_NUMBERS⟩, ⟨t_BITS, PySem.W.mg_of X G v_BITS⟩, ⟨t_FIGURES, PySem.W.mg_of X G v_FIGURES⟩, ⟨t_GREATEST, PySem.W.mg_of X G v_GREATEST⟩, PySem.W.mg_none_of X G b_abs, PySem.W.mg_none_of X G b_all, PySem.W.mg_none_of X G b_bool, PySem.W.mg_none_of X G b_divmod, PySem.W.mg_none_of X G b_enumerate, PySem.W.mg_none_of X G b_int, PySem.W.mg_none_of X G b_isinstance, PySem.W.mg_none_of X G b_len, PySem.W.mg_none_of X G b_list, PySem.W.mg_none_of X G b_range, PySem.W.mg_none_of X G b_str, PySem.W.mg_none_of X G b_tuple, PySem.W.mg_none_of X G b_zip⟩, fun s v => .of_eq rfl⟩
theorem all_ok {P : Program} {w : World} {K : PySem.W.Frag} {mg : Str → Option Value} {base : Heap} (T : Txt K mg) : Ok P w mg base 8 T.f_law (S_law T) := by
 have H_law_draw : Ok P w mg base 1 T.f_law_draw (S_law_draw T) := ok_law_draw T (n := 0)
 have H_law_number : Ok P w mg base 2 T.f_law_number (S_law_number T) := ok_law_number T (n := 1) (FnOk.mono H_law_draw (by decide))
 have H_law_other : Ok P w mg base 2 T.f_law_other (S_law_other T) := ok_law_other T (n := 1) (FnOk.mono H_law_draw (by decide))
 have H_law_bit : Ok P w mg base 2 T.f_law_bit (S_law_bit T) := ok_law_bit T (n := 1) (FnOk.mono H_law_draw (by decide))
 have H_law_plain_row : Ok P w mg base 3 T.f_law_plain_row (S_law_plain_row T) := ok_law_plain_row T (n := 2) (FnOk.mono H_law_draw (by decide)) (FnOk.mono H_law_number (by decide)) (FnOk.mono H_law_other (by decide)) (FnOk.mono H_law_bit (by decide))
 have H_law_code : Ok P w mg base 4 T.f_law_code (S_law_code T) := ok_law_code T (n := 3) (FnOk.mono H_law_draw (by decide)) (FnOk.mono H_law_number (by decide)) (FnOk.mono H_law_plain_row (by decide))
 have H_law_any : Ok P w mg base 2 T.f_law_any (S_law_any T) := ok_law_any T (n := 1) (FnOk.mono H_law_draw (by decide))
 have H_law_changed : Ok P w mg base 3 T.f_law_changed (S_law_changed T) := ok_law_changed T (n := 2) (FnOk.mono H_law_draw (by decide)) (FnOk.mono H_law_number (by decide)) (FnOk.mono H_law_any (by decide))
 have H_box_word : Ok P w mg base 1 T.f_box_word (S_box_word T) := ok_box_word T (n := 0)
 have H_operand_word : Ok P w mg base 2 T.f_operand_word (S_operand_word T) := ok_operand_word T (n := 1) (FnOk.mono H_box_word (by decide))
 have H_words_of : Ok P w mg base 3 T.f_words_of (S_words_of T) := ok_words_of T (n := 2) (FnOk.mono H_operand_word (by decide)) (FnOk.mono H_box_word (by decide))
 have H_show_code : Ok P w mg base 4 T.f_show_code (S_show_code T) := ok_show_code T (n := 3) (FnOk.mono H_words_of (by decide))
 have H_number_in : Ok P w mg base 1 T.f_number_in (S_number_in T) := ok_number_in T (n := 0)
 have H_read_size : Ok P w mg base 2 T.f_read_size (S_read_size T) := ok_read_size T (n := 1) (FnOk.mono H_number_in (by decide))
 have H_read_numbers : Ok P w mg base 2 T.f_read_numbers (S_read_numbers T) := ok_read_numbers T (n := 1) (FnOk.mono H_number_in (by decide))
 have H_read_box : Ok P w mg base 2 T.f_read_box (S_read_box T) := ok_read_box T (n := 1) (FnOk.mono H_number_in (by decide))
 have H_read_operand : Ok P w mg base 3 T.f_read_operand (S_read_operand T) := ok_read_operand T (n := 2) (FnOk.mono H_number_in (by decide)) (FnOk.mono H_read_box (by decide))
 have H_read_change : Ok P w mg base 4 T.f_read_change (S_read_change T) := ok_read_change T (n := 3) (FnOk.mono H_number_in (by decide)) (FnOk.mono H_read_operand (by decide))
 have H_read_cond : Ok P w mg base 3 T.f_read_cond (S_read_cond T) := ok_read_cond T (n := 2) (FnOk.mono H_number_in (by decide)) (FnOk.mono H_read_box (by decide))
 have H_read_turn : Ok P w mg base 4 T.f_read_turn (S_read_turn T) := ok_read_turn T (n := 3) (FnOk.mono H_read_numbers (by decide)) (FnOk.mono H_read_cond (by decide))
 have H_read_row : Ok P w mg base 5 T.f_read_row (S_read_row T) := ok_read_row T (n := 4) (FnOk.mono H_read_numbers (by decide)) (FnOk.mono H_read_change (by decide)) (FnOk.mono H_read_turn (by decide))
 have H_read_code : Ok P w mg base 6 T.f_read_code (S_read_code T) := ok_read_code T (n := 5) (FnOk.mono H_read_size (by decide)) (FnOk.mono H_read_row (by decide))
 have H_law_row_text : Ok P w mg base 1 T.f_law_row_text (S_law_row_text T) := ok_law_row_text T (n := 0)
 have H_law_lines : Ok P w mg base 2 T.f_law_lines (S_law_lines T) := ok_law_lines T (n := 1) (FnOk.mono H_law_row_text (by decide))
 have R_law_kinds : ∀ dp, Ok P w mg base (0 + dp) T.f_law_kinds (S_law_kinds_r T dp) := by
  intro dp
  induction dp with
  | zero => exact z_law_kinds T
  | succ dp ih => exact ok_law_kinds T (n := 0 + dp) (dp := dp) ih
 have H_law_kinds : Ok P w mg base 6 T.f_law_kinds (S_law_kinds T) := R_law_kinds 6
 have H_law_both_ways : Ok P w mg base 7 T.f_law_both_ways (S_law_both_ways T) := ok_law_both_ways T (n := 6) (FnOk.mono H_show_code (by decide)) (FnOk.mono H_read_code (by decide)) (FnOk.mono H_law_lines (by decide)) (FnOk.mono H_law_kinds (by decide))
 have H_law : Ok P w mg base 8 T.f_law (S_law T) := ok_law T (n := 7) (FnOk.mono H_law_draw (by decide)) (FnOk.mono H_law_code (by decide)) (FnOk.mono H_law_any (by decide)) (FnOk.mono H_law_changed (by decide)) (FnOk.mono H_law_both_ways (by decide))
 exact H_law
theorem walk {l : PySem.W.OpenLaw} {q : Program} {loose : List Str} {XP : (Str → Option Value) → Heap → Prop} {YP : World → Heap → Prop} {d : DefRec} {K : Params → PySem.W.Frag} (hn : l.most = some 63) (hdf : d.params.defaults = [])
  (hY : ∀ (w : World) (h : Heap), YP w h → (K w.params).In h) (hL : ∀ w : World, noL (K w.params) = true)
  (F : ∀ (w : World) (mg : Str → Option Value) (fa : Addr) (h : Heap), (K w.params).In h → h.Ns mainGlobals mg → mg d.name = some (.ref fa) → ∃ T : Txt (K w.params) mg, ∀ (s : Shared) (v : Value), BindsTo s T.f_law.fd ⟨[v], []⟩ [("_law_script", v)]) (hdn : d.name = "law" := by rfl) :
  PySem.W.WalkO q loose XP YP l.row.toRowW d [] (fun f vs => PySem.call f vs) := by
 refine L2.walk_of (n := 63) (k := 8) (x := "_law_script") (CX := fun _ => CX0) (sp := fun w => lowSp (K w.params) spLaw3) hn (by decide) hdf ⟨rfl, by decide, by decide⟩ hY (fun w mg fa h hK hN hm => ?_) (fun w H a ns hl hO hS => law_sp (hL w) hl hO hS) fun _ _ _ _ _ z => z
 obtain ⟨T, hb⟩ := F w mg fa h hK hN hm
 rw [hdn] at hm
 have e := hm.symm.trans T.g_law
 cases e
 exact ⟨T.f_law.fd, hb, fun base _ _ => all_ok T⟩
end Law
noncomputable def PySem.W.Fast.tw7489437114396837815 : Nat := 0
noncomputable def PySem.W.Fast.tw13277395551860189172 : Nat := 0
noncomputable def PySem.W.Fast.tw5992211725106993095 : Nat := 0
noncomputable def PySem.W.Fast.tw6100334179927900274 : Nat := 0
noncomputable def PySem.W.Fast.tw15279329423853444149 : Nat := 0
noncomputable def PySem.W.Fast.tw8927273165499806154 : Nat := 0
noncomputable def PySem.W.Fast.tw17727110642767333410 : Nat := 0
noncomputable def PySem.W.Fast.tw5590798867685393637 : Nat := 0
noncomputable def PySem.W.Fast.tw6354376298451855520 : Nat := 0
open PySem PySem.W PyProof.Rows
set_option maxHeartbeats 0 in
theorem PySem.Challenge.cw_nolitter_k53_codes_as_texts_holds : PySem.Challenge.rw_nolitter_k53_codes_as_texts.Holds := by
 w_on; o_law; k_head; (case hw => w_witness2)
 k_fill
 refine Law.walk (l := PySem.Challenge.rw_nolitter_k53_codes_as_texts) rfl rfl (fun w h Y => PySem.W.kIn_of Y) ?L ?F
 case L => exact fun w => rfl
 case F =>
  intro w mg fa h KX G hmg
  refine' Law.txt_mk KX G ?a_14 ?l_14 ?c_14 ?k_14 ?a_25 ?l_25 ?c_25 ?k_25 ?a_26 ?l_26 ?c_26 ?k_26 ?a_15 ?l_15 ?c_15 ?k_15 ?a_0 ?l_0 ?c_0 ?k_0 ?a_18 ?l_18 ?c_18 ?k_18 ?a_23 ?l_23 ?c_23 ?k_23 ?a_22 ?l_22 ?c_22 ?k_22 ?a_20 ?l_20 ?c_20 ?k_20 ?a_17 ?l_17 ?c_17 ?k_17 ?a_21 ?l_21 ?c_21 ?k_21 ?a_16 ?l_16 ?c_16 ?k_16 ?a_24 ?l_24 ?c_24 ?k_24 ?a_19 ?l_19 ?c_19 ?k_19 ?a_7 ?l_7 ?c_7 ?k_7 ?a_10 ?l_10 ?c_10 ?k_10 ?a_11 ?l_11 ?c_11 ?k_11 ?a_12 ?l_12 ?c_12 ?k_12 ?a_3 ?l_3 ?c_3 ?k_3 ?a_6 ?l_6 ?c_6 ?k_6 ?a_13 ?l_13 ?c_13 ?k_13 ?a_9 ?l_9 ?c_9 ?k_9 ?a_8 ?l_8 ?c_8 ?k_8 ?a_2 ?l_2 ?c_2 ?k_2 ?a_5 ?l_5 ?c_5 ?k_5 ?a_4 ?l_4 ?c_4 ?k_4 ?a_1 ?l_1 ?c_1 ?k_1 ?v_NUMBERS ?v_BITS ?v_FIGURES ?v_GREATEST ?b_abs ?b_all ?b_bool ?b_divmod ?b_enumerate ?b_int ?b_isinstance ?b_len ?b_list ?b_range ?b_str ?b_tuple ?b_zip
  (case a_14 => k_is)
  (case l_14 => k_is)
  (case c_14 => k_is)
  (case k_14 => k_is)
  (case a_25 => k_is)
  (case l_25 => k_is)
  (case c_25 => k_is)
  (case k_25 => k_is)
  (case a_26 => k_is)
  (case l_26 => k_is)
  (case c_26 => k_is)
  (case k_26 => k_is)
  (case a_15 => k_is)
  (case l_15 => k_is)
  (case c_15 => k_is)
  (case k_15 => k_is)
  (case a_0 => k_is)
  (case l_0 => k_is)
  (case c_0 => k_is)
  (case k_0 => k_is)
  (case a_18 => k_is)
  (case l_18 => k_is)
  (case c_18 => k_is)
  (case k_18 => k_is)
  (case a_23 => k_is)
  (case l_23 => k_is)
  (case c_23 => k_is)
  (case k_23 => k_is)
  (case a_22 => k_is)
  (case l_22 => k_is)
  (case c_22 => k_is)
  (case k_22 => k_is)
  (case a_20 => k_is)
  (case l_20 => k_is)
  (case c_20 => k_is)
  (case k_20 => k_is)
  (case a_17 => k_is)
  (case l_17 => k_is)
  (case c_17 => k_is)
  (case k_17 => k_is)
  (case a_21 => k_is)
  (case l_21 => k_is)
  (case c_21 => k_is)
  (case k_21 => k_is)
  (case a_16 => k_is)
  (case l_16 => k_is)
  (case c_16 => k_is)
  (case k_16 => k_is)
  (case a_24 => k_is)
  (case l_24 => k_is)
  (case c_24 => k_is)
  (case k_24 => k_is)
  (case a_19 => k_is)
  (case l_19 => k_is)
  (case c_19 => k_is)
  (case k_19 => k_is)
  (case a_7 => k_is)
  (case l_7 => k_is)
  (case c_7 => k_is)
  (case k_7 => k_is)
  (case a_10 => k_is)
  (case l_10 => k_is)
  (case c_10 => k_is)
  (case k_10 => k_is)
  (case a_11 => k_is)
  (case l_11 => k_is)
  (case c_11 => k_is)
  (case k_11 => k_is)
  (case a_12 => k_is)
  (case l_12 => k_is)
  (case c_12 => k_is)
  (case k_12 => k_is)
  (case a_3 => k_is)
  (case l_3 => k_is)
  (case c_3 => k_is)
  (case k_3 => k_is)
  (case a_6 => k_is)
  (case l_6 => k_is)
  (case c_6 => k_is)
  (case k_6 => k_is)
  (case a_13 => k_is)
  (case l_13 => k_is)
  (case c_13 => k_is)
  (case k_13 => k_is)
  (case a_9 => k_is)
  (case l_9 => k_is)
  (case c_9 => k_is)
  (case k_9 => k_is)
  (case a_8 => k_is)
  (case l_8 => k_is)
  (case c_8 => k_is)
  (case k_8 => k_is)
  (case a_2 => k_is)
  (case l_2 => k_is)
  (case c_2 => k_is)
  (case k_2 => k_is)
  (case a_5 => k_is)
  (case l_5 => k_is)
  (case c_5 => k_is)
  (case k_5 => k_is)
  (case a_4 => k_is)
  (case l_4 => k_is)
  (case c_4 => k_is)
  (case k_4 => k_is)
  (case a_1 => k_is)
  (case l_1 => k_is)
  (case c_1 => k_is)
  (case k_1 => k_is)
  (case v_NUMBERS => k_is)
  (case v_BITS => k_is)
  (case v_FIGURES => k_is)
  (case v_GREATEST => k_is)
  (case b_abs => k_is)
  (case b_all => k_is)
  (case b_bool => k_is)
  (case b_divmod => k_is)
  (case b_enumerate => k_is)
  (case b_int => k_is)
  (case b_isinstance => k_is)
  (case b_len => k_is)
  (case b_list => k_is)
  (case b_range => k_is)
  (case b_str => k_is)
  (case b_tuple => k_is)
  (case b_zip => k_is)
