import PyProof.Rows.All
import Wide.All
import OpenK.AllK
import Wide.FinOn
import Lean
import PyProof.EqAt
import PyProof.EqKinds
import PyProof.TupleCall
import PyProof.NeKinds
import PyProof.Rows.SeqMore
import PyProof.FactsAll.tuple_2
import KE.KDictOf
import PyProof.ExcInit
import PyProof.ExcClass3
import PyProof.NsDelKeeps
import PyProof.RulesAs
import PyProof.Rows.CountFlat
import PyProof.AutoListH
import KE.KIntText
import PyProof.Rows.CatFin
import PyProof.Rows.Range3
import PyProof.Rows.CallKwBuiltin
import PyProof.NoPylong
import PyProof.EnumMake
import PyProof.Draws
import PyProof.DictWalks
import PyProof.DictUpdate
import PyProof.Rows.SortShell
import KE.KDictSum
import PySem.Challenge.RW_nolitter_k47_cuts
set_option Elab.async false
set_option linter.all false
set_option maxRecDepth 100000
set_option maxHeartbeats 4000000
local macro_rules | `(tactic| decide) => `(tactic| decide +kernel)
noncomputable section
namespace L2
open PySem PySem.Spec PyProof.Rows
abbrev Key:=Sum Int Str
def vt7:Key->Value->Bool
 | .inl k,v=>Value.isInt k v
 | .inr x,v=>Value.isStrOf x v
def keyH (w:World):Key->Int
 | .inl k=>hashInt k
 | .inr x=>hashStr w x
theorem u17:∀ {k:Key} {v:Value},vt7 k v=true->(∃ i t,k=Sum.inl i /\ v=Value.int i t) \/ (∃ x t,k=Sum.inr x /\ v=Value.str x t)
 | .inl i,v,h=>by
  obtain ⟨t,e⟩:=Value.isInt_shape (k:=i) (v:=v) h;exact .inl ⟨i,t,rfl,e⟩
 | .inr x,v,h=>by
  obtain ⟨t,e⟩:=Value.isStrOf_shape (x:=x) (v:=v) h;exact .inr ⟨x,t,rfl,e⟩
theorem vt6 (a b:Int):decide ((Sum.inl a:Key)=Sum.inl b)=(a == b):=by
 by_cases e:a=b
 ·subst e;simp
 ·have h:¬ (Sum.inl a:Key)=Sum.inl b:=fun q=>e (Sum.inl.inj q)
  rw [decide_eq_false h];exact (beq_eq_false_iff_ne.mpr e).symm
theorem vt3 (a b:Str):decide ((Sum.inr a:Key)=Sum.inr b)=decide (a=b):=by
 by_cases e:a=b
 ·subst e;simp
 ·have h:¬ (Sum.inr a:Key)=Sum.inr b:=fun q=>e (Sum.inr.inj q)
  rw [decide_eq_false h,decide_eq_false e]
theorem vt5 (a:Int) (b:Str):decide ((Sum.inl a:Key)=Sum.inr b)=false:=decide_eq_false (fun q=>nomatch q)
theorem vt4 (a:Str) (b:Int):decide ((Sum.inr a:Key)=Sum.inl b)=false:=decide_eq_false (fun q=>nomatch q)
def ub2 (prog:Program) (w:World):PySem.KeyKind prog w Key where
 is:=vt7
 hash:=keyH w
 inj:=fun v a b ha hb=>by
  rcases u17 ha with ⟨i,t,rfl,rfl⟩ | ⟨x,t,rfl,rfl⟩
  ·rcases u17 hb with ⟨j,u,rfl,e⟩ | ⟨y,u,rfl,e⟩
   ·injection e with e1 _;rw [e1]
   ·exact nomatch e
  ·rcases u17 hb with ⟨j,u,rfl,e⟩ | ⟨y,u,rfl,e⟩
   ·exact nomatch e
   ·injection e with e1 _;rw [e1]
 byValue:=fun k v h=>by
  rcases u17 h with ⟨i,t,rfl,rfl⟩ | ⟨x,t,rfl,rfl⟩ <;> rfl
 pyHash:=fun hv h=>by
  rcases u17 hv with ⟨i,t,rfl,rfl⟩ | ⟨x,t,rfl,rfl⟩
  ·exact wpAny_pyHash_int h
  ·exact wpAny_pyHash_str h
 eqBool:=fun hu hv h=>by
  rcases u17 hu with ⟨i,t,rfl,rfl⟩ | ⟨x,t,rfl,rfl⟩
  ·rcases u17 hv with ⟨j,u,rfl,rfl⟩ | ⟨y,u,rfl,rfl⟩
   ·rw [vt6] at h;exact wpAny_eqBool_int h
   ·rw [vt5] at h;exact SeqAt.EqAt.int_str i t y u _ _ _ _ h
  ·rcases u17 hv with ⟨j,u,rfl,rfl⟩ | ⟨y,u,rfl,rfl⟩
   ·rw [vt4] at h;exact SeqAt.EqAt.str_int x t j u _ _ _ _ h
   ·rw [vt3] at h;exact wpAny_eqBool_str h
 «strs»:=fun k x t v h=>by
  rcases u17 h with ⟨i,u,rfl,e⟩ | ⟨y,u,rfl,e⟩
  ·exact nomatch e
  ·injection e with e1 _
   subst e1;cases v <;> rfl
inductive V where
 | non | bl (b:Bool) | int (i:Int) | str (x:Str) | byt (b:Array UInt8) | flt (b:UInt64) | ref (a:Addr) | ty (n:String)
 deriving DecidableEq
def RelV:V->Value->Prop
 | .non,u=>u=Value.none
 | .bl b,u=>u=Value.bool b
 | .int i,u=>∃ t,u=Value.int i t
 | .str x,u=>∃ t,u=Value.str x t
 | .byt b,u=>∃ t,u=Value.bytes b t
 | .flt b,u=>∃ t,u=Value.float b t
 | .ref a,u=>u=Value.ref a
 | .ty n,u=>u=Value.type n
abbrev Vals:List V->List Value->Prop:=Paired RelV
theorem Vals.length {xs:List V} {us:List Value} (r:Vals xs us):xs.length=us.length:=Paired.length r
theorem Vals.get:∀ {xs:List V} {us:List Value} {i:Nat} {x:V},Vals xs us->xs[i]?=some x->∃ u,us[i]?=some u /\ RelV x u
 | _,_,_,_,.nil,e=>by simp at e
 | _,_,0,_,.cons r _,e=>by simp at e;subst e;exact ⟨_,rfl,r⟩
 | _,_,i+1,x,.cons _ t,e=>by
  obtain ⟨u,h1,h2⟩:=Vals.get (i:=i) (x:=x) t (by simpa using e);exact ⟨u,by simpa using h1,h2⟩
theorem Vals.set {x:V} {u:Value} (r:RelV x u):∀ {xs:List V} {us:List Value} (i:Nat),Vals xs us->Vals (xs.set i x) (us.set i u)
 | _,_,_,.nil=>.nil
 | _,_,0,.cons _ t=>.cons r t
 | _,_,i+1,.cons q t=>.cons q (Vals.set r i t)
theorem Vals.append:∀ {xs ys:List V} {us ws:List Value},Vals xs us->Vals ys ws->Vals (xs++ys) (us++ws)
 | _,_,_,_,.nil,s=>s
 | _,_,_,_,.cons r t,s=>.cons r (Vals.append t s)
theorem Vals.take:∀ {xs:List V} {us:List Value} (n:Nat),Vals xs us->Vals (xs.take n) (us.take n)
 | _,_,0,_=>.nil
 | _,_,_+1,.nil=>.nil
 | _,_,n+1,.cons r t=>.cons r (Vals.take n t)
theorem Vals.drop:∀ {xs:List V} {us:List Value} (n:Nat),Vals xs us->Vals (xs.drop n) (us.drop n)
 | _,_,0,r=>r
 | _,_,_+1,.nil=>.nil
 | _,_,n+1,.cons _ t=>Vals.drop n t
def RelO:Option V->Option Value->Prop
 | some v,some u=>RelV v u
 | none,none=>True
 | _,_=>False
def KV {κ:Type}:List (κ × V)->List (κ × Value)->Prop:=Paired fun (p:κ × V) (q:κ × Value)=>p.1=q.1 /\ RelV p.2 q.2
def kV:Key->V
 | .inl i=>.int i
 | .inr x=>.str x
inductive HO where
 | lst (xs:List V)
 | tup (xs:List V)
 | dK (kvs:List (Key × V)) | dT (kvs:List (List Key × V))
 | set (S:Int->Bool) (n:Nat)
 | ins (C dx:Addr) (fs:List (Str × V))
 | own (x:Addr)
 | xd (fs:List (Str × V))
 | met (f x:Addr)
 | rng (lo hi:Int)
 | frz (o:Obj) (u:HO)
 | tbl (ps:Array Value)
 | ext (φ:Heap->Prop)
abbrev Hp:=Addr->Option HO
def upd (H:Hp) (a:Addr) (o:HO):Hp:=fun b=>if b=a then some o else H b
theorem u23 {H:Hp} {a:Addr} {o:HO}:upd H a o a=some o:=by unfold upd;rw [if_pos rfl]
theorem u15 {H:Hp} {a b:Addr} {o:HO} (h:b ≠ a):upd H a o b=H b:=by unfold upd;rw [if_neg h]
theorem u35 {H:Hp} {a b:Addr} {o:HO} (h:H a=some o) (h':H b=none):a ≠ b:=by
 intro e;subst e;rw [h] at h';cases h'
section
variable (P:Program) (w:World)
def TupD (h:Heap) (a:Addr) (its:Array Value):Prop:=∃ o,h.get? a=some o /\ o.cls=.type "tuple" /\ (∃ n,o.data=.seq its n) /\ o.dict=none
theorem TupD.tup {h:Heap} {a:Addr} {its:Array Value} (x:TupD h a its):IsTup h a its:=let ⟨o,e,c,d,_⟩:=x;⟨o,e,c,d⟩
theorem TupD.new (h:Heap) (its:Array Value):TupD (h.push { cls:=.type "tuple",data:=.seq its }) h.objs.size its:=⟨_,Heap.get?_push_size _ rfl,rfl,⟨_,rfl⟩,rfl⟩
def ObjOk (H:Hp) (h:Heap) (a:Addr):HO->Prop
 | .lst xs=>xs.length<=sizeLine /\ ∃ (its:List Value) (n:Nat),Vals xs its /\ h.get? a=some { cls:=.type "list",data:=.seq its.toArray n }
 | .tup xs=>xs.length<=sizeLine /\ ∃ its:List Value,Vals xs its /\ TupD h a its.toArray
 | .dK kvs=>kvs.length<=sizeLine /\ (a == sysModules)=false /\ ∃ vs,KV kvs vs /\ h.DictOf (ub2 P w) a vs
 | .dT kvs=>kvs.length<=sizeLine /\ (a == sysModules)=false /\ ∃ xs:List (List Key × Addr × Value),
   Paired (fun (p:List Key × V) (q:List Key × Addr × Value)=>p.1=q.1 /\ H q.2.1=some (.tup (p.1.map kV)) /\ RelV p.2 q.2.2) kvs xs /\
   ∃ o es ep,h.get? a=some o /\ o.ExactDict /\ o.data=.dict es ep /\ es.toList=xs.map (entryOfKey (tupleKind (ub2 P w))) /\ (xs.map (·.1)).Nodup
 | .set S n=>h.SetOf (intKind P w) a S n
 | .ins C dx fs=>H dx=some (.own a) /\ fs.length<=1000 /\ dx ≠ a /\ h.get? a=some (W.instObj C dx) /\
   ∃ mA,h.Ns1 dx mA /\ (∀ f,RelO (fs.lookup f) (mA f)) /\ PySem.Within mA (fs.map (·.1))
 | .own _=>∃ o,h.get? a=some o
 | .xd fs=>∃ mA,h.Ns1 a mA /\ ∀ f,RelO (fs.lookup f) (mA f)
 | .rng lo hi=>∃ t u v,h.get? a=some { cls:=.type "range",data:=.fields #[.int lo t,.int hi u,.int 1 v] }
 | .frz o u=>h.get? a=some o /\ ObjOk H h a u
 | .tbl ps=>h.get? a=some { cls:=.none,data:=.fields ps }
 | .met f x=>h.get? a=some (W.methodObj (.ref f) (.ref x))
 | .ext φ=>φ h /\ (∃ o,h.get? a=some o) /\ ∀ h1 h2:Heap,φ h1->(∀ o,h1.get? a=some o->h2.get? a=some o)->φ h2
def HOk (H:Hp) (h:Heap):Prop:=∀ a o,H a=some o->ObjOk P w H h a o
end
section
variable {P:Program} {w:World} {H H':Hp} {h h':Heap} {a:Addr} {o:HO}
theorem ObjOk.lt (x:ObjOk P w H h a o):a < h.objs.size:=by
 cases o with
 | lst xs=>obtain ⟨_,_,_,_,e⟩:=x;exact Heap.lt_size e
 | tup xs=>obtain ⟨_,_,_,p⟩:=x;exact p.tup.lt
 | dK kvs=>obtain ⟨_,_,_,_,o,_,_,e,_⟩:=x;exact Heap.lt_size e
 | dT kvs=>obtain ⟨_,_,_,_,o,_,_,e,_⟩:=x;exact Heap.lt_size e
 | set S n=>obtain ⟨o,_,_,_,e,_⟩:=x;exact Heap.lt_size e
 | ins C dx fs=>obtain ⟨_,_,_,e,_⟩:=x;exact Heap.lt_size e
 | own y=>obtain ⟨_,e⟩:=x;exact Heap.lt_size e
 | xd fs=>obtain ⟨_,⟨_,_,_,e,_⟩,_⟩:=x;exact Heap.lt_size e
 | rng lo hi=>obtain ⟨_,_,_,e⟩:=x;exact Heap.lt_size e
 | frz ob u=>obtain ⟨e,_⟩:=x;exact Heap.lt_size e
 | tbl ps=>exact Heap.lt_size (show h.get? a=some _ from x)
 | met f y=>exact Heap.lt_size (show h.get? a=some _ from x)
 | ext φ=>obtain ⟨_,⟨_,e⟩,_⟩:=x;exact Heap.lt_size e
theorem Paired.mapP {α β:Type} {F G:α->β->Prop}:∀ {l₁:List α} {l₂:List β},Paired F l₁ l₂->(∀ a b,F a b->G a b)->Paired G l₁ l₂
 | _,_,.nil,_=>.nil
 | _,_,.cons r t,f=>.cons (f _ _ r) (Paired.mapP t f)
theorem ObjOk.stay (x:ObjOk P w H h a o) (k:∀ b u,(b=a \/ H b=some (.own a))->h.get? b=some u->h'.get? b=some u)
  (ho:∀ b,H b=some (.own a)->H' b=some (.own a)) (ht:∀ b xs,H b=some (.tup xs)->H' b=some (.tup xs)):ObjOk P w H' h' a o:=by
 induction o with
 | lst xs=>obtain ⟨z,its,n,r,e⟩:=x;exact ⟨z,its,n,r,k _ _ (.inl rfl) e⟩
 | tup xs=>obtain ⟨z,its,r,ob,e,c⟩:=x;exact ⟨z,its,r,ob,k _ _ (.inl rfl) e,c⟩
 | dK kvs=>obtain ⟨z,y,vs,r,ob,es,ep,e,c⟩:=x;exact ⟨z,y,vs,r,ob,es,ep,k _ _ (.inl rfl) e,c⟩
 | dT kvs =>
  obtain ⟨z,y,xs,r,ob,es,ep,e,c⟩:=x;exact ⟨z,y,xs,Paired.mapP r fun p q z=>⟨z.1,ht _ _ z.2.1,z.2.2⟩,ob,es,ep,k _ _ (.inl rfl) e,c⟩
 | set S n=>obtain ⟨ob,es,ep,t,e,c⟩:=x;exact ⟨ob,es,ep,t,k _ _ (.inl rfl) e,c⟩
 | ins C dx fs =>
  obtain ⟨d,z,ne,e,mA,⟨od,es,ep,e2,c⟩,r⟩:=x;exact ⟨ho _ d,z,ne,k _ _ (.inl rfl) e,mA,⟨od,es,ep,k _ _ (.inr d) e2,c⟩,r⟩
 | own y=>obtain ⟨ob,e⟩:=x;exact ⟨ob,k _ _ (.inl rfl) e⟩
 | xd fs=>obtain ⟨mA,⟨od,es,ep,e,c⟩,r⟩:=x;exact ⟨mA,⟨od,es,ep,k _ _ (.inl rfl) e,c⟩,r⟩
 | rng lo hi=>obtain ⟨t,u,v,e⟩:=x;exact ⟨t,u,v,k _ _ (.inl rfl) e⟩
 | frz ob u ih=>obtain ⟨e,q⟩:=x;exact ⟨k _ _ (.inl rfl) e,ih q⟩
 | tbl ps =>
  have e:h.get? a=some { cls:=.none,data:=.fields ps }:=x
  show h'.get? a=some { cls:=.none,data:=.fields ps }
  exact k a _ (.inl rfl) e
 | met f y =>
  have e:h.get? a=some (W.methodObj (.ref f) (.ref y)):=x
  show h'.get? a=some (W.methodObj (.ref f) (.ref y))
  exact k a _ (.inl rfl) e
 | ext φ=>obtain ⟨p,⟨o,e⟩,st⟩:=x;exact ⟨st _ _ p fun o q=>k _ _ (.inl rfl) q,⟨o,k _ _ (.inl rfl) e⟩,st⟩
theorem HOk.lt (x:HOk P w H h) (e:H a=some o):a < h.objs.size:=(x a o e).lt
theorem HOk.fresh (x:HOk P w H h) (e:h.objs.size<=a):H a=none:=by
 cases q:H a with
 | none=>rfl
 | some u=>exact absurd (Nat.lt_of_lt_of_le (x.lt q) e) (Nat.lt_irrefl _)
theorem HOk.kept (x:HOk P w H h) (k:∀ b u,h.get? b=some u->h'.get? b=some u):HOk P w H h':=fun a o e =>
 (x a o e).stay (fun b u _ q=>k b u q) (fun _ q=>q) fun _ _ q=>q
theorem HOk.laid (x:HOk P w H h) (k:∀ b u,h.get? b=some u->h'.get? b=some u) (hp:h.objs.size<=a) (new:ObjOk P w (upd H a o) h' a o):HOk P w (upd H a o) h':=fun b u e=>by
 have hn:=x.fresh hp
 by_cases hb:b=a
 ·subst hb;rw [u23] at e;cases e;exact new
 ·rw [u15 hb] at e
  exact (x b u e).stay (fun c v _ q=>k c v q) (fun c q=>by rw [u15 (u35 q hn)];exact q) fun c xs q=>by rw [u15 (u35 q hn)];exact q
end
def Rd (H:Hp) (a:Addr) (u:HO):Prop:=H a=some u \/ ∃ o,H a=some (.frz o u)
theorem Rd.of {H:Hp} {a:Addr} {u:HO} (h:H a=some u):Rd H a u:=.inl h
theorem Rd.ok {P:Program} {w:World} {H:Hp} {h:Heap} {a:Addr} {u:HO} (r:Rd H a u) (x:HOk P w H h):ObjOk P w H h a u:=by
 rcases r with r | ⟨o,r⟩
 ·exact x a u r
 ·obtain ⟨_,q⟩:=x a _ r
  exact q
def Mut:Option HO->Prop
 | some (.lst _)=>True
 | some (.dK _)=>True
 | some (.dT _)=>True
 | some (.set _ _)=>True
 | some (.ins _ _ _)=>True
 | some (.ext _)=>True
 | _=>False
section
variable {P:Program} {w:World} {H:Hp} {h h':Heap} {x e:Addr} {o':HO}
theorem HOk.write (ok:HOk P w H h) (mu:Mut (H x)) (he:e=x \/ H e=some (.own x)) (k:∀ b u,b ≠ e->h.get? b=some u->h'.get? b=some u) (heo:∃ u,h'.get? e=some u)
  (new:ObjOk P w (upd H x o') h' x o'):HOk P w (upd H x o') h':=fun b u q=>by
 have nown:∀ c y,H c=some (.own y)->c ≠ x:=fun c y r z=>by subst z;rw [r] at mu;exact mu
 have ntup:∀ c xs,H c=some (.tup xs)->c ≠ x:=fun c xs r z=>by subst z;rw [r] at mu;exact mu
 by_cases hb:b=x
 ·subst hb;rw [u23] at q;cases q;exact new
 ·rw [u15 hb] at q
  by_cases hbe:b=e
  ·have q':H b=some (.own x):=by
    rcases he with z | z
    ·exact absurd (hbe.trans z) hb
    ·rw [hbe];exact z
   rw [q] at q';cases q';obtain ⟨v,hv⟩:=heo;exact ⟨v,by rw [hbe];exact hv⟩
  ·refine (ok b u q).stay (fun c v hc r=>k c v ?_ r) (fun c r=>by rw [u15 (nown c b r)];exact r) fun c xs r=>by rw [u15 (ntup c xs r)];exact r
   rcases hc with rfl | hc
   ·exact hbe
   ·rintro rfl
    rcases he with z | z
    ·exact nown c b hc z
    ·rw [hc] at z;cases z;exact hb rfl
end
def NK:={ u:HO // ∀ ys,u ≠ .dK ys }
structure Un (fs ex:List Addr) (H H':Hp) (h h':Heap):Prop where
 keep:∀ b o,h.get? b=some o->H b=none->b ∉ fs->b ∉ ex->h'.get? b=some o
 slot:∀ b o,h.get? b=some o->H b=none->b ∈ fs->b ∉ ex->∃ sl,h'.get? b=some { o with slots:=sl }
 free:∀ b o,h.get? b=some o->H b=none->b ∉ ex->H' b=none
 there:∀ b o,h.get? b=some o->b ∉ ex->∃ o',h'.get? b=some o'
 tups:∀ b xs,H b=some (.tup xs)->H' b=some (.tup xs)
 frzs:∀ b o (u:NK),H b=some (.frz o u.1)->H' b=some (.frz o u.1)
 tbls:∀ b ps,H b=some (.tbl ps)->∃ more,H' b=some (.tbl (ps++more))
section
variable {fs fs' ex ex':List Addr} {H H1 H2:Hp} {h h1 h2 h':Heap} {a x e:Addr} {o:HO}
theorem Un.any (u:Un fs ex H H1 h h1) {b:Addr} {ob:Obj} (q:h.get? b=some ob) (n:H b=none) (hx:b ∉ ex):∃ sl,h1.get? b=some { ob with slots:=sl }:=by
 by_cases hb:b ∈ fs
 ·exact u.slot b ob q n hb hx
 ·exact ⟨ob.slots,u.keep b ob q n hb hx⟩
theorem Un.trans (a:Un fs ex H H1 h h1) (b:Un fs ex H1 H2 h1 h2):Un fs ex H H2 h h2 where
 keep:=fun c ob q n hc hx=>b.keep c ob (a.keep c ob q n hc hx) (a.free c ob q n hx) hc hx
 slot:=fun c ob q n hc hx=>by
  obtain ⟨sl,e1⟩:=a.slot c ob q n hc hx;obtain ⟨sl',e2⟩:=b.slot c _ e1 (a.free c ob q n hx) hc hx;exact ⟨sl',e2⟩
 free:=fun c ob q n hx=>by
  obtain ⟨o',e1⟩:=a.there c ob q hx;exact b.free c o' e1 (a.free c ob q n hx) hx
 there:=fun c ob q hx=>by
  obtain ⟨o',e1⟩:=a.there c ob q hx;exact b.there c o' e1 hx
 tups:=fun c xs q=>b.tups c xs (a.tups c xs q)
 frzs:=fun c ob xs q=>b.frzs c ob xs (a.frzs c ob xs q)
 tbls:=fun c ps q=>by
  obtain ⟨m1,e1⟩:=a.tbls c ps q;obtain ⟨m2,e2⟩:=b.tbls c _ e1;exact ⟨m1++m2,by rw [e2,Array.append_assoc]⟩
theorem Un.kept (k:∀ b u,h.get? b=some u->h'.get? b=some u):Un fs ex H H h h' :=
 ⟨fun b ob q _ _ _=>k b ob q,fun b ob q _ _ _=>⟨ob.slots,k b ob q⟩,fun _ _ _ n _=>n,fun b ob q _=>⟨ob,k b ob q⟩,fun _ _ q=>q,fun _ _ _ q=>q,fun _ ps q=>⟨#[],by rw [q];simp⟩⟩
theorem Un.refl:Un fs ex H H h h:=Un.kept fun _ _ q=>q
theorem Un.laid (k:∀ b u,h.get? b=some u->h'.get? b=some u) (hp:h.objs.size<=a) (hn:H a=none):Un fs ex H (upd H a o) h h' where
 keep:=fun b u q _ _ _=>k b u q
 slot:=fun b u q _ _ _=>⟨u.slots,k b u q⟩
 free:=fun b u q n _=>by rw [u15 (Nat.ne_of_lt (Nat.lt_of_lt_of_le (Heap.lt_size q) hp))];exact n
 there:=fun b u q _=>⟨u,k b u q⟩
 tups:=fun b xs q=>by rw [u15 (u35 q hn)];exact q
 frzs:=fun b u xs q=>by rw [u15 (u35 q hn)];exact q
 tbls:=fun b ps q=>⟨#[],by rw [u15 (u35 q hn),q];simp⟩
theorem Un.write (mu:Mut (H x)) (he:e=x \/ H e=some (.own x)) (k:∀ b u,b ≠ e->h.get? b=some u->h'.get? b=some u) (heo:∃ u,h'.get? e=some u):Un fs ex H (upd H x o) h h':=by
 have hx:∀ b,H b=none->b ≠ x:=fun b n z=>by subst z;rw [n] at mu;exact mu
 have hb:∀ b,H b=none->b ≠ e:=fun b n z=>by
  subst z
  rcases he with r | r
  ·exact hx b n r
  ·rw [n] at r;cases r
 have hm:∀ b u,H b=some u->¬ Mut (some u)->b ≠ x:=fun b u q nm z=>by subst z;rw [q] at mu;exact nm mu
 refine ⟨fun b u q n _ _=>k b u (hb b n) q,fun b u q n _ _=>⟨u.slots,k b u (hb b n) q⟩,fun b u q n _=>by rw [u15 (hx b n)];exact n,fun b u q _=>?_,
  fun b xs q=>by rw [u15 (hm b _ q fun z=>z)];exact q,fun b u xs q=>by rw [u15 (hm b _ q fun z=>z)];exact q,fun b ps q=>⟨#[],by rw [u15 (hm b _ q fun z=>z),q];simp⟩⟩
 by_cases hbe:b=e
 ·subst hbe;exact heo
 ·exact ⟨u,k b u hbe q⟩
theorem Un.mono (u:Un fs ex H H1 h h1) (hs:∀ b ∈ fs,b ∈ fs') (hx:∀ b ∈ ex,b ∈ ex'):Un fs' ex' H H1 h h1 :=
 ⟨fun b ob q n hb he=>u.keep b ob q n (fun z=>hb (hs b z)) fun z=>he (hx b z),fun _ _ q n _ he=>u.any q n fun z=>he (hx _ z),fun b ob q n he=>u.free b ob q n fun z=>he (hx b z),fun b ob q he=>u.there b ob q fun z=>he (hx b z),u.tups,u.frzs,u.tbls⟩
end
def trk (h:Heap) (H:Hp):List Addr:=(List.range h.objs.size).filter fun a=>(H a).isSome
def hidT (h:Heap) (H:Hp):Heap:=W.hideAll h (trk h H)
theorem uv9 (h:Heap) (H:Hp):(hidT h H).objs.size=h.objs.size:=W.hideAll_size _ _
theorem v29 {h:Heap} {H:Hp} {b:Addr} {o:Obj} (e:h.get? b=some o) (n:H b=none):(hidT h H).get? b=some o :=
 W.hideAll_get _ e fun hm=>by
  have q:(H b).isSome=true:=(List.mem_filter.mp hm).2;rw [n] at q;simp at q
theorem ve3 {h:Heap} {H:Hp} {b:Addr} {o:Obj} (e:(hidT h H).get? b=some o):h.get? b=some o /\ H b=none:=by
 have e':h.get? b=some o:=W.of_hideAll (trk h H) e;refine ⟨e',?_⟩;cases q:H b with
 | none=>rfl
 | some x =>
  have hm:b ∈ trk h H:=List.mem_filter.mpr ⟨List.mem_range.mpr (Heap.lt_size e'),by simp [q]⟩;have z:(hidT h H).get? b=none:=W.hideAll_none (trk h H) hm;rw [z] at e;cases e
def vi5 (g h:Heap) (L:Addr):List (Addr × Obj):=(List.range h.objs.size).filterMap fun a=>if a=L \/ (g.get? a).isSome=true then none else (h.get? a).map fun o=>(a,o)
def rest (g h:Heap) (L d:Addr):List (Addr × Obj):=(vi5 g h L).filter fun p=>decide (p.1 ≠ d)
structure Mod (K:W.Frag) (mg:Str->Option Value) (base:Heap):Prop where
 kin:K.In base
 glob:base.Ns mainGlobals mg
 blt:∃ mb,base.Ns builtinsNs mb /\ ∀ x:Str,x ≠ "__name__" -> mb x=bootBuiltins x
 nolimit:base.NoLimit
/-- the context: a def's body (or a comprehension's block) running. base: fixed through the whole law; s₀,H₀: the entry; outer: the frames whose slots others may change (a def's callers); stack: all frames that run;
   ex: iterators that were made ahead of the entry and are walked here (a comprehension's);fn: the names whose cells were made at the entry (a def: all;a comprehension's block: its own);calm: not within an except suite;pn: pins that every state bears;xe: what is wanted of an exception that leaves the code -/
structure Cx where
 prog:Program
 w:World
 K:W.Frag
 mg:Str->Option Value
 base:Heap
 A:Around
 N:List Str
 s₀:Shared
 H₀:Hp
 env:Env
 outer:List Env
 stack:List Env
 ex:List Addr
 fn:Str->Bool
 calm:Bool
 pn:List (Addr × Obj)
 xe:Value->Shared->Prop
def frs (l:List Env):List Addr:=l.filterMap (·.frame)
abbrev Cx.fs (X:Cx):List Addr:=frs X.outer
def Vis (sc:Scope) (x:Str):Prop:=sc.names.lookup x=some .local \/ sc.names.lookup x=some .cell \/ sc.names.lookup x=some .free
def Loc (sc:Scope) (x:Str):Prop:=sc.names.lookup x=some .local \/ sc.names.lookup x=some .cell
def Look (env:Env) (h:Heap) (m:Str->Option Value) (x:Str) (u:Value):Prop :=
 (env.kindOf x=some .local /\ m x=some u) \/ ((env.kindOf x=some .cell \/ env.kindOf x=some .free) /\ ∃ c,env.cells.lookup x=some c /\ h.IsCell c (some u))
structure Cx.Ok (X:Cx):Prop where
 mod:Mod X.K X.mg X.base
 kind:X.env.scope.kind=.function
 glob:X.env.globals=mainGlobals
 blt:X.env.builtins=builtinsNs
 above:X.s₀.heap.objs.size<=X.env.locals
 inj:∀ x y c,X.env.cells.lookup x=some c->X.env.cells.lookup y=some c->x=y
 has:∀ x,(X.env.kindOf x=some .cell \/ X.env.kindOf x=some .free)->∃ c,X.env.cells.lookup x=some c
 cab:∀ x c,X.fn x=true->X.env.cells.lookup x=some c->X.s₀.heap.objs.size<=c
 hd:X.calm=true->X.A.handled=none
 frames:X.A.frames=some X.stack
 stk:X.stack=X.outer \/ (X.stack=X.env::X.outer /\ X.env.frame=some X.env.locals)
 exf:∀ b ∈ X.ex,b ≠ X.env.locals /\ ∀ x c,X.env.cells.lookup x=some c->c ≠ b
 bs:∀ b o,X.base.get? b=some o->X.s₀.heap.get? b=some o /\ X.H₀ b=none
 bsz:X.base.objs.size<=X.s₀.heap.objs.size
 noex:∀ b o,X.base.get? b=some o->b ∉ X.ex
 exfs:∀ b ∈ X.ex,b ∉ X.fs
 funs:X.s₀.heap.FunFrames X.base X.outer
 frf:∀ b ∈ X.fs,X.H₀ b=none
structure Inv (X:Cx) (pins:List (Addr × Obj)) (σ:List (Option V)) (H:Hp) (s:Shared):Prop where
 ok:X.Ok
 os:s.os=X.s₀.os
 bare:AllBare s.gens
 base:Un X.fs X.ex X.H₀ H X.s₀.heap s.heap
 loc:∃ m,s.heap.Ns X.env.locals m /\ ∀ (i:Nat) (x:Str) (v:V),X.N[i]?=some x->σ[i]?=some (some v)->Vis X.env.scope x->∃ u,RelV v u /\ Look X.env s.heap m x u
 cell:∀ x c,X.env.cells.lookup x=some c->∃ v,s.heap.IsCell c v
 free:H X.env.locals=none
 freeC:∀ x c,X.env.cells.lookup x=some c->H c=none
 pin:∀ p ∈ X.pn++pins,s.heap.get? p.1=some p.2 /\ H p.1=none /\ p.1 ≠ X.env.locals /\ p.1 ∉ X.fs /\ ∀ v,p.2.data ≠ .cell v
 hok:HOk X.prog X.w H s.heap
 len:σ.length=X.N.length
section
variable {X:Cx} {pins:List (Addr × Obj)} {σ:List (Option V)} {H H':Hp} {s:Shared} {h':Heap}
theorem Cx.Ok.nofr (ok:X.Ok) {b:Addr} {o:Obj} (e:X.base.get? b=some o):b ∉ X.fs:=fun hb=>by
 have:=(ok.funs.mem hb).1;rw [e] at this;cases this
theorem Inv.bs (I:Inv X pins σ H s):∀ b o,X.base.get? b=some o->s.heap.get? b=some o /\ H b=none:=fun b o e =>
 ⟨I.base.keep b o (I.ok.bs b o e).1 (I.ok.bs b o e).2 (I.ok.nofr e) (I.ok.noex b o e),I.base.free b o (I.ok.bs b o e).1 (I.ok.bs b o e).2 (I.ok.noex b o e)⟩
theorem Inv.bk (I:Inv X pins σ H s):∀ b o,X.base.get? b=some o->s.heap.get? b=some o:=fun b o e=>(I.bs b o e).1
theorem Inv.mod (I:Inv X pins σ H s):Mod X.K X.mg X.base:=I.ok.mod
theorem Inv.kIn (I:Inv X pins σ H s):X.K.In s.heap:=I.ok.mod.kin.keeps I.bk
theorem Inv.nolimit (I:Inv X pins σ H s):s.heap.NoLimit:=I.ok.mod.nolimit.keeps I.bk
theorem Inv.fr (I:Inv X pins σ H s):∃ m,Fr X.base X.env.locals s.heap m :=
 let ⟨m,hn,_⟩:=I.loc
 ⟨m,hn,I.bk,Nat.le_trans I.ok.bsz I.ok.above⟩
theorem Inv.lt (I:Inv X pins σ H s):X.env.locals < s.heap.objs.size:=let ⟨_,hn,_⟩:=I.loc;hn.lt
theorem Inv.sz (I:Inv X pins σ H s):X.s₀.heap.objs.size<=s.heap.objs.size:=Nat.le_trans I.ok.above (Nat.le_of_lt I.lt)
theorem Inv.nofs (I:Inv X pins σ H s) {a:Addr} (h:s.heap.objs.size<=a):a ∉ X.fs:=fun hb=>by
 obtain ⟨_,o,ho,_⟩:=I.ok.funs.mem hb;exact absurd (Nat.lt_of_lt_of_le (Heap.lt_size ho) (Nat.le_trans I.sz h)) (Nat.lt_irrefl _)
theorem Inv.cne (I:Inv X pins σ H s):∀ x c,X.env.cells.lookup x=some c->c ≠ X.env.locals:=fun x c e z=>by
 obtain ⟨v,o,ho,hd⟩:=I.cell x c e;obtain ⟨m,⟨o',es,ep,ho',hd',_⟩,_⟩:=I.loc;rw [z,ho'] at ho;cases ho;rw [hd'] at hd;cases hd
theorem Inv.funs (I:Inv X pins σ H s):s.heap.FunFrames X.base X.outer:=by
 have all:∀ (l:List Env),(∀ b ∈ frs l,b ∈ X.fs)->X.s₀.heap.FunFrames X.base l->s.heap.FunFrames X.base l:=by
  intro l
  induction l with
  | nil=>intro _ _;trivial
  | cons env r ih =>
   intro hs hl;obtain ⟨hk,⟨L,o,hf,hn,ho,hd⟩,hr⟩:=hl;have hL:L ∈ X.fs:=hs L (by unfold frs;rw [List.filterMap_cons,hf];exact List.mem_cons_self);obtain ⟨sl,e⟩:=I.base.slot L o ho (I.ok.frf L hL) hL fun z=>I.ok.exfs L z hL
   exact ⟨hk,⟨L,_,hf,hn,e,hd⟩,ih (fun b hb=>hs b (by unfold frs;rw [List.filterMap_cons,hf];exact List.mem_cons_of_mem _ hb)) hr⟩
 exact all X.outer (fun _ hb=>hb) I.ok.funs
theorem Inv.stack (I:Inv X pins σ H s):s.heap.FunFrames X.base X.stack:=by
 rcases I.ok.stk with e | ⟨e,hf⟩
 ·rw [e];exact I.funs
 ·rw [e]
  obtain ⟨m,hn,_⟩:=I.loc;refine .cons (by rw [I.ok.kind];decide) hf hn ?_ I.funs;exact Heap.get?_none_of_le (Nat.le_trans I.ok.bsz I.ok.above)
theorem Inv.stkSub (I:Inv X pins σ H s):∀ b ∈ frs X.stack,b ∈ X.env.locals::X.fs:=fun b hb=>by
 rcases I.ok.stk with e | ⟨e,hf⟩
 ·rw [e] at hb;exact List.mem_cons_of_mem _ hb
 ·rw [e] at hb
  unfold frs at hb;rw [List.filterMap_cons,hf] at hb;exact hb
theorem Inv.stkFree (I:Inv X pins σ H s):∀ b ∈ frs X.stack,H b=none:=fun b hb=>by
 rcases List.mem_cons.mp (I.stkSub b hb) with e | hb
 ·rw [e];exact I.free
 ·obtain ⟨_,o,ho,_⟩:=I.ok.funs.mem hb
  exact I.base.free b o ho (I.ok.frf b hb) fun z=>I.ok.exfs b z hb
theorem Inv.step {g':Array GenState} {t':Nat} {d':Drawn} {ch:List Addr} (I:Inv X pins σ H s)
  (hch:∀ b ∈ ch,(b ∈ X.ex \/ X.s₀.heap.objs.size<=b) /\ b ≠ X.env.locals /\ (∀ x c,X.env.cells.lookup x=some c->c ≠ b) /\ ∀ p ∈ X.pn++pins,p.1 ≠ b)
  (keep:∀ b o,b ≠ X.env.locals->b ∉ X.fs->b ∉ ch->s.heap.get? b=some o->H b=none->h'.get? b=some o)
  (slot:∀ b o,b ≠ X.env.locals->b ∈ X.fs->b ∉ ch->s.heap.get? b=some o->H b=none->∃ sl,h'.get? b=some { o with slots:=sl }) (free:∀ b o,b ∉ ch->s.heap.get? b=some o->H b=none->H' b=none)
  (there:∀ b o,b ∉ ch->s.heap.get? b=some o->∃ o',h'.get? b=some o')
  (tups:∀ b xs,H b=some (.tup xs)->H' b=some (.tup xs)) (frzs:∀ b o (u:NK),H b=some (.frz o u.1)->H' b=some (.frz o u.1)) (tbls:∀ b ps,H b=some (.tbl ps)->∃ more,H' b=some (.tbl (ps++more)))
  (ns:∀ m,s.heap.Ns X.env.locals m->h'.Ns X.env.locals m) (hok:HOk X.prog X.w H' h') (hg:AllBare g') :
  Inv X pins σ H' { s with heap:=h',gens:=g',drawn:=d',toks:=t' }:=by
 have neL:∀ b o,X.s₀.heap.get? b=some o->b ≠ X.env.locals:=fun b o e=>Nat.ne_of_lt (Nat.lt_of_lt_of_le (Heap.lt_size e) I.ok.above)
 have neC:∀ b o,X.s₀.heap.get? b=some o->b ∉ X.ex->b ∉ ch:=fun b o e hx hb=>by
  rcases (hch b hb).1 with z | z
  ·exact hx z
  ·exact absurd (Nat.lt_of_lt_of_le (Heap.lt_size e) z) (Nat.lt_irrefl _)
 have cellK:∀ x c,X.env.cells.lookup x=some c->∀ v,s.heap.IsCell c v->h'.IsCell c v:=fun x c e v ⟨o,ho,hd⟩=>by
  have nch:c ∉ ch:=fun z=>(hch c z).2.2.1 x c e rfl
  by_cases hc:c ∈ X.fs
  ·obtain ⟨sl,q⟩:=slot c o (I.cne x c e) hc nch ho (I.freeC x c e)
   exact ⟨_,q,hd⟩
  ·exact ⟨o,keep c o (I.cne x c e) hc nch ho (I.freeC x c e),hd⟩
 refine ⟨I.ok,I.os,hg,⟨fun b o e n hb hx=>?_,fun b o e n hb hx=>?_,fun b o e n hx=>?_,fun b o e hx=>?_,fun b xs e=>tups b xs (I.base.tups b xs e),fun b o xs e=>frzs b o xs (I.base.frzs b o xs e),fun b ps e=>?_⟩,?_,fun x c e=>?_,?_,fun x c e=>?_,fun p hp=>?_,hok,I.len⟩
 ·exact keep b o (neL b o e) hb (neC b o e hx) (I.base.keep b o e n hb hx) (I.base.free b o e n hx)
 ·obtain ⟨sl,e1⟩:=I.base.slot b o e n hb hx
  obtain ⟨sl',e2⟩:=slot b _ (neL b o e) hb (neC b o e hx) e1 (I.base.free b o e n hx);exact ⟨sl',e2⟩
 ·obtain ⟨o',e1⟩:=I.base.there b o e hx
  exact free b o' (neC b o e hx) e1 (I.base.free b o e n hx)
 ·obtain ⟨o',e1⟩:=I.base.there b o e hx
  exact there b o' (neC b o e hx) e1
 ·obtain ⟨m1,e1⟩:=I.base.tbls b ps e
  obtain ⟨m2,e2⟩:=tbls b _ e1;exact ⟨m1++m2,by rw [e2,Array.append_assoc]⟩
 ·obtain ⟨m,hn,hl⟩:=I.loc
  refine ⟨m,ns m hn,fun i x v e1 e2 e3=>?_⟩;obtain ⟨u,r,l⟩:=hl i x v e1 e2 e3;refine ⟨u,r,?_⟩
  rcases l with l | ⟨k,c,e,z⟩
  ·exact .inl l
  ·exact .inr ⟨k,c,e,cellK x c e _ z⟩
 ·obtain ⟨v,z⟩:=I.cell x c e
  exact ⟨v,cellK x c e v z⟩
 ·obtain ⟨m,⟨o,_,_,ho,_⟩,_⟩:=I.loc
  exact free _ o (fun z=>(hch _ z).2.1 rfl) ho I.free
 ·obtain ⟨v,o,ho,hd⟩:=I.cell x c e
  exact free c o (fun z=>(hch c z).2.2.1 x c e rfl) ho (I.freeC x c e)
 ·obtain ⟨e,n,ne,nf,d⟩:=I.pin p hp
  have nch:p.1 ∉ ch:=fun z=>(hch p.1 z).2.2.2 p hp rfl
  exact ⟨keep p.1 p.2 ne nf nch e n,free p.1 p.2 nch e n,ne,nf,d⟩
theorem Inv.un {t':Nat} (I:Inv X pins σ H s) (u:Un X.fs [] H H' s.heap h') (hok:HOk X.prog X.w H' h'):Inv X pins σ H' { s with heap:=h',toks:=t' }:=by
 obtain ⟨m,⟨o,es,ep,ho,r⟩,_⟩:=id I.loc;obtain ⟨sl,hL⟩:=u.any ho I.free (by simp);exact I.step (g':=s.gens) (d':=s.drawn) (ch:=[]) (fun _ z=>nomatch z) (fun b o _ hb _ e n=>u.keep b o e n hb (by simp)) (fun b o _ hb _ e n=>u.slot b o e n hb (by simp)) (fun b o _ e n=>u.free b o e n (by simp)) (fun b o _ e=>u.there b o e (by simp)) u.tups u.frzs u.tbls (fun m' hm=>by
  obtain ⟨o',es',ep',ho',r'⟩:=hm;rw [ho] at ho';cases ho';exact ⟨_,es',ep',hL,r'⟩) hok I.bare
theorem Inv.call {g':Array GenState} {t':Nat} {d':Drawn} {ch:List Addr} (I:Inv X pins σ H s) (u:Un (frs X.stack) ch H H' s.heap h') (hok:HOk X.prog X.w H' h') (hg:AllBare g')
  (hch:∀ b ∈ ch,(b ∈ X.ex \/ X.s₀.heap.objs.size<=b) /\ b ≠ X.env.locals /\ (∀ x c,X.env.cells.lookup x=some c->c ≠ b) /\ ∀ p ∈ X.pn++pins,p.1 ≠ b) :
  Inv X pins σ H' { s with heap:=h',gens:=g',drawn:=d',toks:=t' }:=by
 obtain ⟨m,⟨o,es,ep,ho,r⟩,_⟩:=id I.loc;obtain ⟨sl,hL⟩:=u.any ho I.free fun z=>(hch _ z).2.1 rfl
 exact I.step (ch:=ch) hch (fun b o hL hb hc e n=>u.keep b o e n (fun z=>(List.mem_cons.mp (I.stkSub b z)).elim hL hb) hc) (fun b o _ _ hc e n=>u.any e n hc) (fun b o hc e n=>u.free b o e n hc) (fun b o hc e=>u.there b o e hc) u.tups u.frzs u.tbls (fun m' hm=>by
  obtain ⟨o',es',ep',ho',r'⟩:=hm;rw [ho] at ho';cases ho';exact ⟨_,es',ep',hL,r'⟩) hok hg
theorem Inv.turned {t':Nat} {it:Addr} (I:Inv X pins σ H s) (k:∀ b o,b ≠ it->s.heap.get? b=some o->h'.get? b=some o) (hn:H it=none) (hL:it ≠ X.env.locals)
  (h1:it ∈ X.ex \/ X.s₀.heap.objs.size<=it) (h2:∀ x c,X.env.cells.lookup x=some c->c ≠ it) (h3:∀ p ∈ X.pn++pins,p.1 ≠ it):Inv X pins σ H { s with heap:=h',toks:=t' }:=by
 have nit:∀ b u,H b=some u->b ≠ it:=fun b u e z=>by rw [z,hn] at e;cases e
 refine I.step (g':=s.gens) (d':=s.drawn) (ch:=[it]) (fun b hb=>?_) (fun b o _ _ hc e _=>k b o (fun z=>hc (by simp [z])) e) (fun b o _ _ hc e _=>⟨o.slots,k b o (fun z=>hc (by simp [z])) e⟩) (fun _ _ _ _ n=>n)
  (fun b o hc e=>⟨o,k b o (fun z=>hc (by simp [z])) e⟩) (fun _ _ e=>e) (fun _ _ _ e=>e) (fun b ps e=>⟨#[],by rw [e];simp⟩) (fun m hm=>?_) (fun b u e=>?_) I.bare
 ·have e:b=it:=by simpa using hb
  subst e;exact ⟨h1,hL,h2,h3⟩
 ·obtain ⟨o,es,ep,ho,r⟩:=hm
  exact ⟨o,es,ep,k _ o (Ne.symm hL) ho,r⟩
 ·refine (I.hok b u e).stay (fun c v hc q=>k c v ?_ q) (fun _ q=>q) fun _ _ q=>q
  rcases hc with z | z
  ·rw [z];exact nit b u e
  ·exact nit c _ z
theorem Inv.tok (I:Inv X pins σ H s) (t:Nat):Inv X pins σ H { s with toks:=t }:=I.un (h':=s.heap) (t':=t) Un.refl I.hok
theorem Inv.kept {t':Nat} (I:Inv X pins σ H s) (k:∀ b u,s.heap.get? b=some u->h'.get? b=some u):Inv X pins σ H { s with heap:=h',toks:=t' }:=I.un (Un.kept k) (I.hok.kept k)
theorem Inv.laid {a:Addr} {o:HO} {t':Nat} (I:Inv X pins σ H s) (k:∀ b u,s.heap.get? b=some u->h'.get? b=some u) (hp:s.heap.objs.size<=a) (new:ObjOk X.prog X.w (upd H a o) h' a o) :
  Inv X pins σ (upd H a o) { s with heap:=h',toks:=t' }:=I.un (Un.laid k hp (I.hok.fresh hp)) (I.hok.laid k hp new)
theorem Inv.write {x e:Addr} {o:HO} {t':Nat} (I:Inv X pins σ H s) (mu:Mut (H x)) (he:e=x \/ H e=some (.own x)) (k:∀ b u,b ≠ e->s.heap.get? b=some u->h'.get? b=some u) (heo:∃ u,h'.get? e=some u)
  (new:ObjOk X.prog X.w (upd H x o) h' x o):Inv X pins σ (upd H x o) { s with heap:=h',toks:=t' }:=I.un (Un.write mu he k heo) (I.hok.write mu he k heo new)
theorem Inv.pins_of {pins':List (Addr × Obj)} (I:Inv X pins σ H s) (h:∀ p ∈ pins',s.heap.get? p.1=some p.2 /\ H p.1=none /\ p.1 ≠ X.env.locals /\ p.1 ∉ X.fs /\ ∀ v,p.2.data ≠ .cell v):Inv X pins' σ H s :=
 ⟨I.ok,I.os,I.bare,I.base,I.loc,I.cell,I.free,I.freeC,fun p hp=>(List.mem_append.mp hp).elim (fun z=>I.pin p (List.mem_append_left _ z)) (h p),I.hok,I.len⟩
theorem ue6 {N:List Str} (hN:N.Nodup) {i j:Nat} {x:Str} (a:N[i]?=some x) (b:N[j]?=some x):i=j:=by
 obtain ⟨h1,e1⟩:=List.getElem?_eq_some_iff.mp a;obtain ⟨h2,e2⟩:=List.getElem?_eq_some_iff.mp b;exact (List.getElem_inj hN).mp (e1.trans e2.symm)
theorem ur8 {M:Model} {A:Around} {E:Value->Shared->Prop} {i:Nat} {x:Str} {v:V} {u:Value} {Q:Unit->Shared->Prop} (I:Inv X pins σ H s) (hN:X.N.Nodup) (hi:X.N[i]?=some x) (hx:Loc X.env.scope x) (r:RelV v u)
  (h:∀ s',Inv X pins (σ.set i (some v)) H s'->(∃ a,Heap.SameBut a s.heap s'.heap /\ (a=X.env.locals \/ X.env.cells.lookup x=some a))->Q () s') (hf:X.fn x=true \/ X.env.scope.names.lookup x=some .local:=by first | exact .inl rfl | exact .inr rfl | assumption):wpAny M A (storeName X.env x u) Q E s:=by
 obtain ⟨m,hn,hl⟩:=id I.loc;have hcls:(X.env.scope.kind == .class || (X.env.scope.kind == .module && X.env.locals != X.env.globals))=false:=by rw [I.ok.kind];rfl
 have hiσ:i < σ.length:=by rw [I.len];exact (List.getElem?_eq_some_iff.mp hi).1
 have cne:=I.cne;have tracked:∀ {a:Addr} {h':Heap},(∃ o,s.heap.get? a=some o /\ H a=none)->Heap.SameBut a s.heap h'->HOk X.prog X.w H h':=fun {a h'} ha hs b ob e=>by
  obtain ⟨_,_,hfree⟩:=ha;refine (I.hok b ob e).stay (fun c w' hc q=>(hs.2 c ?_).trans q) (fun _ q=>q) fun _ _ q=>q
  rintro rfl
  rcases hc with rfl | hc
  ·rw [hfree] at e;cases e
  ·rw [hfree] at hc;cases hc
 rcases hx with hk | hk
 ·refine wpAny_storeName_local hk hn (fun h' hn' hs=>?_) hcls
  obtain ⟨oL,_,_,hoL,_⟩:=id hn;refine h _ ⟨I.ok,I.os,I.bare,⟨fun b o e n hb hx=>?_,fun b o e n hb hx=>?_,I.base.free,fun b o e hx=>?_,I.base.tups,I.base.frzs,I.base.tbls⟩,⟨_,hn',fun j y v' e1 e2 e3=>?_⟩,fun y c e=>?_,I.free,I.freeC,fun p hp=>?_,tracked ⟨oL,hoL,I.free⟩ hs,by simpa using I.len⟩ ⟨_,hs,.inl rfl⟩
  ·exact (hs.2 b (Nat.ne_of_lt (Nat.lt_of_lt_of_le (Heap.lt_size e) I.ok.above))).trans (I.base.keep b o e n hb hx)
  ·obtain ⟨sl,e1⟩:=I.base.slot b o e n hb hx
   exact ⟨sl,(hs.2 b (Nat.ne_of_lt (Nat.lt_of_lt_of_le (Heap.lt_size e) I.ok.above))).trans e1⟩
  ·obtain ⟨o',e1⟩:=I.base.there b o e hx
   exact ⟨o',(hs.2 b (Nat.ne_of_lt (Nat.lt_of_lt_of_le (Heap.lt_size e) I.ok.above))).trans e1⟩
  ·by_cases hj:j=i
   ·subst hj
    rw [hi] at e1;cases e1;rw [List.getElem?_set_self hiσ] at e2;cases e2;exact ⟨u,r,.inl ⟨hk,by simp⟩⟩
   ·rw [List.getElem?_set_ne (Ne.symm hj)] at e2
    obtain ⟨u',r',q⟩:=hl j y v' e1 e2 e3;refine ⟨u',r',?_⟩
    rcases q with ⟨k,e⟩ | ⟨k,c,e,z⟩
    ·refine .inl ⟨k,?_⟩
     have:y ≠ x:=fun e=>hj (ue6 hN e1 (e ▸ hi))
     simp [this,e]
    ·exact .inr ⟨k,c,e,z.sameBut hs (cne y c e)⟩
  ·obtain ⟨w',z⟩:=I.cell y c e
   exact ⟨w',z.sameBut hs (cne y c e)⟩
  ·obtain ⟨e,n,ne,nf,d⟩:=I.pin p hp
   exact ⟨(hs.2 p.1 ne).trans e,n,ne,nf,d⟩
 ·have hfn:X.fn x=true:=by
   rcases hf with z | z
   ·exact z
   ·rw [z] at hk;cases hk
  obtain ⟨c,hc⟩:=I.ok.has x (.inl hk);obtain ⟨w',z⟩:=I.cell x c hc;refine wpAny_storeName_cell I.ok.kind hk hc z (fun h' hc' hs=>?_);obtain ⟨oc,hoc,hocd⟩:=id z;refine h { s with heap:=h' } ⟨I.ok,I.os,I.bare,⟨fun b o e n hb hx=>?_,fun b o e n hb hx=>?_,I.base.free,fun b o e hx=>?_,I.base.tups,I.base.frzs,I.base.tbls⟩,⟨m,hn.sameBut hs (Ne.symm (cne x c hc)),fun j y v' e1 e2 e3=>?_⟩,fun y c' e=>?_,I.free,I.freeC,fun p hp=>?_,tracked ⟨oc,hoc,I.freeC x c hc⟩ hs,by simpa using I.len⟩ ⟨c,hs,.inr hc⟩
  ·exact (hs.2 b (Nat.ne_of_lt (Nat.lt_of_lt_of_le (Heap.lt_size e) (I.ok.cab x c hfn hc)))).trans (I.base.keep b o e n hb hx)
  ·obtain ⟨sl,e1⟩:=I.base.slot b o e n hb hx
   exact ⟨sl,(hs.2 b (Nat.ne_of_lt (Nat.lt_of_lt_of_le (Heap.lt_size e) (I.ok.cab x c hfn hc)))).trans e1⟩
  ·obtain ⟨o',e1⟩:=I.base.there b o e hx
   exact ⟨o',(hs.2 b (Nat.ne_of_lt (Nat.lt_of_lt_of_le (Heap.lt_size e) (I.ok.cab x c hfn hc)))).trans e1⟩
  ·by_cases hj:j=i
   ·subst hj
    rw [hi] at e1;cases e1;rw [List.getElem?_set_self hiσ] at e2;cases e2;exact ⟨u,r,.inr ⟨.inl hk,c,hc,hc'⟩⟩
   ·rw [List.getElem?_set_ne (Ne.symm hj)] at e2
    obtain ⟨u',r',q⟩:=hl j y v' e1 e2 e3;refine ⟨u',r',?_⟩
    rcases q with q | ⟨k,c',e,z'⟩
    ·exact .inl q
    ·refine .inr ⟨k,c',e,z'.sameBut hs ?_⟩
     rintro rfl;exact hj (ue6 hN e1 (I.ok.inj _ _ _ e hc ▸ hi))
  ·by_cases hcc:c'=c
   ·subst hcc;exact ⟨_,hc'⟩
   ·obtain ⟨w2,z2⟩:=I.cell y c' e
    exact ⟨w2,z2.sameBut hs hcc⟩
  ·obtain ⟨e,n,ne,nf,d⟩:=I.pin p hp
   refine ⟨(hs.2 p.1 ?_).trans e,n,ne,nf,d⟩;intro q;rw [q,hoc] at e;have q':oc=p.2:=Option.some.inj e;exact d w' (by rw [<- q'];exact hocd)
theorem u75 {M:Model} {A:Around} {E:Value->Shared->Prop} {i:Nat} {x:Str} {v:V} {u:Value} {Q:Unit->Shared->Prop} (I:Inv X pins σ H s) (hN:X.N.Nodup) (hi:X.N[i]?=some x) (hx:Loc X.env.scope x) (r:RelV v u)
  (h:∀ s',Inv X pins (σ.set i (some v)) H s'->Q () s') (hf:X.fn x=true \/ X.env.scope.names.lookup x=some .local:=by first | exact .inl rfl | exact .inr rfl | assumption):wpAny M A (storeName X.env x u) Q E s :=
 ur8 I hN hi hx r (fun s' I' _=>h s' I') hf
theorem Inv.call' {s':Shared} {ch:List Addr} (I:Inv X pins σ H s) (ho:s'.os=s.os) (u:Un (frs X.stack) ch H H' s.heap s'.heap) (hok:HOk X.prog X.w H' s'.heap) (hg:AllBare s'.gens)
  (hch:∀ b ∈ ch,(b ∈ X.ex \/ X.s₀.heap.objs.size<=b) /\ b ≠ X.env.locals /\ (∀ x c,X.env.cells.lookup x=some c->c ≠ b) /\ ∀ p ∈ X.pn++pins,p.1 ≠ b):Inv X pins σ H' s':=by
 obtain ⟨h',g',d',t',o'⟩:=s';have e:o'=s.os:=ho;subst e;exact I.call (g':=g') (t':=t') (d':=d') u hok hg hch
end
abbrev XK:=Value->Option Addr->Hp->Prop
abbrev St:=List (Option V)
abbrev VK:=V->Hp->Prop
abbrev TE:=St->Hp->VK->Prop
abbrev TT:=St->Hp->(Bool->Hp->Prop)->Prop
abbrev TA:=St->Hp->(List V->Hp->Prop)->Prop
structure Ends where
 nx:St->Hp->Prop
 rt:VK
 bk:St->Hp->Prop:=fun _ _=>False
 ct:St->Hp->Prop:=fun _ _=>False
abbrev TS:=Ends->St->Hp->Prop
def EP (X:Cx) (pins:List (Addr × Obj)) (σ:St) (Q:VK) (u:Value) (s':Shared):Prop:=∃ v H',Inv X pins σ H' s' /\ RelV v u /\ Q v H'
def TP (X:Cx) (pins:List (Addr × Obj)) (σ:St) (Q:Bool->Hp->Prop) (b:Bool) (s':Shared):Prop:=∃ H',Inv X pins σ H' s' /\ Q b H'
def AP (X:Cx) (pins:List (Addr × Obj)) (σ:St) (Q:List V->Hp->Prop) (us:List Value) (s':Shared):Prop:=∃ vs H',Inv X pins σ H' s' /\ Vals vs us /\ Q vs H'
def SP (X:Cx) (pins:List (Addr × Obj)) (D:Ends) (f:Flow) (s':Shared):Prop :=
 match f with
 | .next=>∃ σ' H',Inv X pins σ' H' s' /\ D.nx σ' H'
 | .brk=>∃ σ' H',Inv X pins σ' H' s' /\ D.bk σ' H'
 | .cont=>∃ σ' H',Inv X pins σ' H' s' /\ D.ct σ' H'
 | .ret u=>∃ v σ' H',Inv X pins σ' H' s' /\ RelV v u /\ D.rt v H'
def PE (X:Cx) (e:Expr) (t:TE):Prop :=
 ∀ (pins:List (Addr × Obj)) (s:Shared) (σ:St) (H:Hp) (Q:VK),Inv X pins σ H s->t σ H Q->wpAny (model X.prog X.w) X.A (eval e X.env) (EP X pins σ Q) X.xe s
def PT (X:Cx) (e:Expr) (t:TT):Prop :=
 ∀ (pins:List (Addr × Obj)) (s:Shared) (σ:St) (H:Hp) (Q:Bool->Hp->Prop),Inv X pins σ H s->t σ H Q->wpAny (model X.prog X.w) X.A (isTrue e X.env (eval e X.env)) (TP X pins σ Q) X.xe s
def PW (X:Cx) (e:Expr) (t:TT):Prop :=
 ∀ (whole:Sem Value) (pins:List (Addr × Obj)) (s:Shared) (σ:St) (H:Hp) (Q:Bool->Hp->Prop),Inv X pins σ H s->t σ H Q->wpAny (model X.prog X.w) X.A (isTrue e X.env whole) (TP X pins σ Q) X.xe s
theorem PW.pt {X:Cx} {e:Expr} {t:TT} (h:PW X e t):PT X e t:=h _
def PA (X:Cx) (es:List Expr) (t:TA):Prop :=
 ∀ (pos:Pos) (pins:List (Addr × Obj)) (s:Shared) (σ:St) (H:Hp) (Q:List V->Hp->Prop),Inv X pins σ H s->t σ H Q->wpAny (model X.prog X.w) X.A (spliced (backTo pos (starEach es X.env))) (AP X pins σ Q) X.xe s
def PS (X:Cx) (st:Stmt) (t:TS):Prop :=
 ∀ (pins:List (Addr × Obj)) (s:Shared) (σ:St) (H:Hp) (D:Ends),Inv X pins σ H s->t D σ H->wpAny (model X.prog X.w) X.A (exec st X.env) (SP X pins D) X.xe s
def PSs (X:Cx) (st:List Stmt) (t:TS):Prop :=
 ∀ (pins:List (Addr × Obj)) (s:Shared) (σ:St) (H:Hp) (D:Ends),Inv X pins σ H s->t D σ H->wpAny (model X.prog X.w) X.A (execs st X.env) (SP X pins D) X.xe s
theorem thn {α:Type} {t:Sem α} {Q Q':α->Shared->Prop} {M:Model} {A:Around} {E:Value->Shared->Prop} {s:Shared} (h:wpAny M A t Q E s) (hQ:∀ a s,Q a s->Q' a s):wpAny M A t Q' E s:=wpAny_mono h hQ fun _ _ x=>x
section
variable {X:Cx}
def tVar (i:Nat):TE:=fun σ H Q=>∃ v,σ[i]?=some (some v) /\ Q v H
def tC (v:V):TE:=fun _ H Q=>Q v H
theorem ut7 {i:Nat} {x:Str} {pos:Pos} (hN:X.N[i]?=some x) (hv:Vis X.env.scope x) (hd:(x == ("__debug__" : Str))=false:=by decide) (hcd:(x == ("__classdict__" : Str))=false:=by decide):PE X (.Name x pos) (tVar i):=by
 intro pins s σ H Q I h;obtain ⟨v,e,h⟩:=h;obtain ⟨m,hn,hl⟩:=I.loc;obtain ⟨u,r,l⟩:=hl i x v hN e hv;have fin:EP X pins σ Q u s:=⟨v,H,I,r,h⟩
 rcases l with ⟨hk,hm⟩ | ⟨hk,c,hc,hcell⟩
 ·exact wpAny_Name (wpAny_loadName_local I.ok.kind hk hn hm fin) hd
 ·rcases hk with hk | hk
  ·exact wpAny_Name (wpAny_loadName_cell I.ok.kind hk hc hcell fin) hd
  ·exact wpAny_Name (wpAny_loadName_free I.ok.kind hk hc hcell fin hcd) hd
theorem vo6 {i j pos}:PE X (.Constant (.int i) j pos) (tC (.int i)):=fun _ _ _ H _ I h=>wpAny_Constant_int ⟨.int i,H,I.tok _,⟨_,rfl⟩,h⟩
theorem w02 {b j pos}:PE X (.Constant (.bool b) j pos) (tC (.bl b)):=fun _ _ _ H _ I h=>Constant_bool ⟨.bl b,H,I,rfl,h⟩
theorem vo4 {j pos}:PE X (.Constant .none j pos) (tC .non):=fun _ _ _ H _ I h=>Constant_none ⟨.non,H,I,rfl,h⟩
theorem vo1 {x j pos}:PE X (.Constant (.str x) j pos) (tC (.str x)):=fun _ _ _ H _ I h=>Calls.Constant_str ⟨.str x,H,I.tok _,⟨_,rfl⟩,h⟩
def Gl (X:Cx) (x:Str):Prop:=X.env.kindOf x=some .globalImplicit
theorem ub4 {E:Value->Shared->Prop} {pins:List (Addr × Obj)} {s:Shared} {σ:St} {H:Hp} {x:Str} {u:Value} {pos:Pos} {Q:Value->Shared->Prop} (I:Inv X pins σ H s) (hg:Gl X x) (hm:X.mg x=some u) (h:Q u s)
  (hd:(x == ("__debug__" : Str))=false:=by decide):wpAny (model X.prog X.w) X.A (eval (.Name x pos) X.env) Q E s :=
 Calls.Name_function_global I.ok.kind hg (Calls.loadGlobal_global (by rw [I.ok.glob];exact I.mod.glob.keeps I.bk) hm h) hd
theorem um9 {E:Value->Shared->Prop} {pins:List (Addr × Obj)} {s:Shared} {σ:St} {H:Hp} {x:Str} {u:Value} {pos:Pos} {Q:Value->Shared->Prop} (I:Inv X pins σ H s) (hg:Gl X x) (hm:X.mg x=none) (hv:bootBuiltins x=some u) (h:Q u s)
  (hn:x ≠ "__name__" := by decide) (hd:(x == ("__debug__" : Str))=false:=by decide):wpAny (model X.prog X.w) X.A (eval (.Name x pos) X.env) Q E s:=by
 obtain ⟨mb,h1,h2⟩:=I.mod.blt;exact Calls.Name_function_global I.ok.kind hg (Calls.loadGlobal_builtin (by rw [I.ok.glob];exact I.mod.glob.keeps I.bk) hm (by rw [I.ok.blt];exact h1.keeps I.bk) ((h2 x hn).trans hv) h) hd
theorem vd3 {x:Str} {v:V} {u:Value} {pos:Pos} (hg:Gl X x) (hm:X.mg x=some u) (r:RelV v u) (hd:(x == ("__debug__" : Str))=false:=by decide):PE X (.Name x pos) (tC v) :=
 fun _ _ _ H _ I h=>ub4 I hg hm ⟨v,H,I,r,h⟩ hd
theorem vd7 {x:Str} {v:V} {u:Value} {pos:Pos} (hg:Gl X x) (hm:X.mg x=none) (hv:bootBuiltins x=some u) (r:RelV v u) (hn:x ≠ "__name__" := by decide) (hd:(x == ("__debug__" : Str))=false:=by decide):PE X (.Name x pos) (tC v) :=
 fun _ _ _ H _ I h=>um9 I hg hm hv ⟨v,H,I,r,h⟩ hn hd
variable {a b:Expr} {ta tb:TE} {pos:Pos}
def tB (t:TE):TT:=fun σ H Q=>t σ H fun x H1=>∃ c,x=.bl c /\ Q c H1
theorem vn0 {e:Expr} {t:TE} (h:PE X e t) (he:∀ whole,isTrue e X.env whole=(do let v <- whole;standAt e.pos;holding [v] (truthy v)):=by intro _;rfl):PT X e (tB t):=by
 intro pins s σ H Q I hw
 (refine isTrue_plain (thn (h pins s σ H _ I hw) ?_) (he _);rintro v s1 ⟨x,H1,I1,r1,q1⟩)
 obtain ⟨d,rfl,q⟩:=q1;cases r1;exact wpAny_truthy_bool ⟨H1,I1,q⟩
variable {tA tB':TT} {rest:List Expr}
def tAnd (t u:TT):TT:=fun σ H Q=>t σ H fun c H1=>if c=true then u σ H1 Q else Q false H1
def tOr (t u:TT):TT:=fun σ H Q=>t σ H fun c H1=>if c=true then Q true H1 else u σ H1 Q
def tNot (t:TT):TT:=fun σ H Q=>t σ H fun c H1=>Q (!c) H1
theorem vc5 (ha:PT X a tA):PW X (.BoolOp .And [a] pos) tA:=by
 intro wh pins s σ H Q I h;refine isTrue_and (thn (ha pins s σ H Q I h) fun c s1 e=>?_);cases c with
 | true=>exact isTrue_and_nil e
 | false=>exact e
theorem vm8 (ha:PT X a tA):PW X (.BoolOp .Or [a] pos) tA:=by
 intro wh pins s σ H Q I h;refine isTrue_or (thn (ha pins s σ H Q I h) fun c s1 e=>?_);cases c with
 | false=>exact isTrue_or_nil e
 | true=>exact e
theorem vm9 (ha:PT X a tA) (hb:PW X (.BoolOp .And (b::rest) pos) tB'):PW X (.BoolOp .And (a::b::rest) pos) (tAnd tA tB'):=by
 intro wh pins s σ H Q I h
 (refine isTrue_and (thn (ha pins s σ H _ I h) ?_);rintro c s1 ⟨H1,I1,q1⟩)
 cases c with
 | true=>exact hb wh pins s1 σ H1 Q I1 q1
 | false=>exact ⟨H1,I1,q1⟩
theorem vz6 (ha:PT X a tA) (hb:PW X (.BoolOp .Or (b::rest) pos) tB'):PW X (.BoolOp .Or (a::b::rest) pos) (tOr tA tB'):=by
 intro wh pins s σ H Q I h
 (refine isTrue_or (thn (ha pins s σ H _ I h) ?_);rintro c s1 ⟨H1,I1,q1⟩)
 cases c with
 | true=>exact ⟨H1,I1,q1⟩
 | false=>exact hb wh pins s1 σ H1 Q I1 q1
theorem vn1 (ha:PT X a tA):PT X (.UnaryOp .Not a pos) (tNot tA):=by
 intro pins s σ H Q I h;exact isTrue_not (ha pins s σ H (fun c H1=>Q (!c) H1) I h)
def vm1 (ta tb:TE):TE:=fun σ H Q=>ta σ H fun x H1=>∃ c,x=.bl c /\ if c=true then tb σ H1 Q else Q (.bl false) H1
def vl7 (ta:TE):TE:=fun σ H Q=>ta σ H fun x H1=>∃ c,x=.bl c /\ Q (.bl (!c)) H1
theorem vo2 {op} {t:TE} (h:PE X a t):PE X (.BoolOp op [a] pos) t:=fun pins s σ H Q I hw=>BoolOp_one (h pins s σ H Q I hw)
theorem vo8 (ha:PE X a ta) (hb:PE X (.BoolOp .And (b::rest) pos) tb):PE X (.BoolOp .And (a::b::rest) pos) (vm1 ta tb):=by
 intro pins s σ H Q I h
 (refine BoolOp_and (thn (ha pins s σ H _ I h) ?_);rintro v s1 ⟨x,H1,I1,r1,q1⟩)
 obtain ⟨c,rfl,q1⟩:=q1;cases r1;refine wpAny_truthy_bool ?_;cases c with
 | true=>exact hb pins s1 σ H1 Q I1 q1
 | false=>exact ⟨.bl false,H1,I1,rfl,q1⟩
theorem vo3 (ha:PE X a ta):PE X (.UnaryOp .Not a pos) (vl7 ta):=by
 intro pins s σ H Q I h
 (refine UnaryOp_ (thn (ha pins s σ H _ I h) ?_);rintro v s1 ⟨x,H1,I1,r1,q1⟩)
 obtain ⟨c,rfl,q1⟩:=q1;cases r1;exact not_of (wpAny_truthy_bool ⟨.bl (!c),H1,I1,rfl,q1⟩)
def tIf (t:TT) (ta tb:TE):TE:=fun σ H Q=>t σ H fun c H1=>if c=true then ta σ H1 Q else tb σ H1 Q
theorem v03 {c:Expr} (hc:PT X c tA) (ha:PE X a ta) (hb:PE X b tb):PE X (.IfExp c a b pos) (tIf tA ta tb):=by
 intro pins s σ H Q I h
 (refine wpAny_IfExp (thn (hc pins s σ H _ I h) ?_);rintro d s1 ⟨H1,I1,q1⟩)
 cases d with
 | true=>exact ha pins s1 σ H1 Q I1 q1
 | false=>exact hb pins s1 σ H1 Q I1 q1
end
def SqL (K:W.Frag) (H:Hp) (a:Addr) (xs:List V):Prop :=
 Rd H a (.lst xs) \/
  ∃ (o:Obj) (its:Array Value) (n:Nat),K.lookup a=some o /\ o.cls=.type "list" /\ o.dict=none /\ o.data=.seq its n /\ its.size<=sizeLine /\ Vals xs its.toList
def SqT (K:W.Frag) (H:Hp) (a:Addr) (xs:List V):Prop :=
 Rd H a (.tup xs) \/
  ∃ (o:Obj) (its:Array Value) (n:Nat),K.lookup a=some o /\ o.cls=.type "tuple" /\ o.data=.seq its n /\ its.size<=sizeLine /\ Vals xs its.toList /\ o.dict=none
def absV:Value->Option V
 | .none=>some .non
 | .bool b=>some (.bl b)
 | .int i _=>some (.int i)
 | .str x _=>some (.str x)
 | .bytes b _=>some (.byt b)
 | .float b _=>some (.flt b)
 | .ref a=>some (.ref a)
 | .type n=>some (.ty n)
 | _=>none
theorem RelV.abs {x:V} {u:Value} (r:RelV x u):absV u=some x:=by
 cases x with
 | non=>cases r;rfl
 | bl _=>cases r;rfl
 | int _=>obtain ⟨t,rfl⟩:=r;rfl
 | str _=>obtain ⟨t,rfl⟩:=r;rfl
 | byt _=>obtain ⟨t,rfl⟩:=r;rfl
 | flt _=>obtain ⟨t,rfl⟩:=r;rfl
 | ref _=>cases r;rfl
 | ty _=>cases r;rfl
theorem RelV.inj {x y:V} {u:Value} (r:RelV x u) (q:RelV y u):x=y:=Option.some.inj (r.abs.symm.trans q.abs)
theorem Vals.inj:∀ {xs ys:List V} {us:List Value},Vals xs us->Vals ys us->xs=ys
 | _,_,_,.nil,.nil=>rfl
 | _,_,_,.cons r t,.cons r' t'=>by rw [r.inj r',Vals.inj t t']
section
variable {X:Cx} {pins:List (Addr × Obj)} {σ:St} {H:Hp} {s:Shared} {a:Addr} {xs ys:List V}
theorem SqL.of {K:W.Frag} (h:H a=some (.lst xs)):SqL K H a xs:=.inl (.inl h)
theorem SqT.of {K:W.Frag} (h:H a=some (.tup xs)):SqT K H a xs:=.inl (.inl h)
theorem Inv.list (I:Inv X pins σ H s) (h:SqL X.K H a xs):∃ its:List Value,Vals xs its /\ PlainL s.heap a its.toArray /\ xs.length<=sizeLine:=by
 rcases h with h | ⟨o,its,n,hk,hc,hd,hs,hz,r⟩
 ·obtain ⟨z,its,n,r,e⟩:=h.ok I.hok
  exact ⟨its,r,⟨_,n,e,rfl,rfl,rfl⟩,z⟩
 ·refine ⟨its.toList,r,⟨o,n,I.kIn a o hk,hc,hd,by simpa using hs⟩,?_⟩
  have e:=r.length;simp only [Array.length_toList] at e;omega
theorem Inv.tuple (I:Inv X pins σ H s) (h:SqT X.K H a xs):∃ its:List Value,Vals xs its /\ IsTup s.heap a its.toArray /\ xs.length<=sizeLine:=by
 rcases h with h | ⟨o,its,n,hk,hc,hs,hz,r,_⟩
 ·obtain ⟨z,its,r,p⟩:=h.ok I.hok
  exact ⟨its,r,p.tup,z⟩
 ·refine ⟨its.toList,r,⟨o,I.kIn a o hk,hc,n,by simpa using hs⟩,?_⟩
  have e:=r.length;simp only [Array.length_toList] at e;omega
theorem Inv.list_inj (I:Inv X pins σ H s) (h:SqL X.K H a xs) (h':SqL X.K H a ys):xs=ys:=by
 obtain ⟨its,r,⟨o,n,e,_,_,d⟩,_⟩:=I.list h;obtain ⟨its',r',⟨o',n',e',_,_,d'⟩,_⟩:=I.list h';rw [e] at e';cases e';rw [d] at d';injection d' with d1 _
 have:its=its':=by simpa using congrArg Array.toList d1
 subst this;exact r.inj r'
theorem Inv.tuple_inj (I:Inv X pins σ H s) (h:SqT X.K H a xs) (h':SqT X.K H a ys):xs=ys:=by
 obtain ⟨its,r,⟨o,e,_,n,d⟩,_⟩:=I.tuple h;obtain ⟨its',r',⟨o',e',_,n',d'⟩,_⟩:=I.tuple h';rw [e] at e';cases e';rw [d] at d';injection d' with d1 _
 have:its=its':=by simpa using congrArg Array.toList d1
 subst this;exact r.inj r'
end
abbrev Cx.wish (X:Cx) (E:Value->Shared->Prop):Cx:={ X with xe:=E }
abbrev Cx.nox (X:Cx):Cx:=X.wish fun _ _=>False
theorem Cx.Ok.wish {X:Cx} (ok:X.Ok) (E:Value->Shared->Prop):(X.wish E).Ok :=
 ⟨ok.mod,ok.kind,ok.glob,ok.blt,ok.above,ok.inj,ok.has,ok.cab,ok.hd,ok.frames,ok.stk,ok.exf,ok.bs,ok.bsz,ok.noex,ok.exfs,ok.funs,ok.frf⟩
theorem Cx.Ok.unwish {X:Cx} {E:Value->Shared->Prop} (ok:(X.wish E).Ok):X.Ok :=
 ⟨ok.mod,ok.kind,ok.glob,ok.blt,ok.above,ok.inj,ok.has,ok.cab,ok.hd,ok.frames,ok.stk,ok.exf,ok.bs,ok.bsz,ok.noex,ok.exfs,ok.funs,ok.frf⟩
section
variable {X:Cx} {pins:List (Addr × Obj)} {σ:St} {H:Hp} {s:Shared} {E:Value->Shared->Prop}
theorem Inv.wish (I:Inv X pins σ H s) (E:Value->Shared->Prop):Inv (X.wish E) pins σ H s:=⟨I.ok.wish E,I.os,I.bare,I.base,I.loc,I.cell,I.free,I.freeC,I.pin,I.hok,I.len⟩
theorem Inv.unwish (I:Inv (X.wish E) pins σ H s):Inv X pins σ H s:=⟨I.ok.unwish,I.os,I.bare,I.base,I.loc,I.cell,I.free,I.freeC,I.pin,I.hok,I.len⟩
theorem SP.unwish {D:Ends} {f:Flow} {s':Shared} (h:SP (X.wish E) pins D f s'):SP X pins D f s':=by
 cases f with
 | next=>obtain ⟨σ',H',I,q⟩:=h;exact ⟨σ',H',I.unwish,q⟩
 | brk=>obtain ⟨σ',H',I,q⟩:=h;exact ⟨σ',H',I.unwish,q⟩
 | cont=>obtain ⟨σ',H',I,q⟩:=h;exact ⟨σ',H',I.unwish,q⟩
 | ret u=>obtain ⟨v,σ',H',I,r,q⟩:=h;exact ⟨v,σ',H',I.unwish,r,q⟩
theorem PE.nox {e:Expr} {t:TE} (h:PE X.nox e t):PE X e t:=fun pins s σ H Q I hw =>
 wpAny_mono (h pins s σ H Q (I.wish _) hw) (fun _ _ ⟨v,H',I',r,q⟩=>⟨v,H',I'.unwish,r,q⟩) fun _ _ z=>False.elim z
theorem PT.nox {e:Expr} {t:TT} (h:PT X.nox e t):PT X e t:=fun pins s σ H Q I hw =>
 wpAny_mono (h pins s σ H Q (I.wish _) hw) (fun _ _ ⟨H',I',q⟩=>⟨H',I'.unwish,q⟩) fun _ _ z=>False.elim z
theorem PSs.nox {st:List Stmt} {t:TS} (h:PSs X.nox st t):PSs X st t:=fun pins s σ H D I hw =>
 wpAny_mono (h pins s σ H D (I.wish _) hw) (fun _ _ q=>q.unwish) fun _ _ z=>False.elim z
end
section
variable {X:Cx} {st:Stmt} {rest:List Stmt} {t u:TS} {e:Expr} {te:TE} {pos:Pos}
def vl8:TS:=fun D σ H=>D.nx σ H
def tSeq (t u:TS):TS:=fun D σ H=>t { D with nx:=u D } σ H
theorem vc7:PSs X [] vl8:=fun _ _ σ H _ I h=>wpAny_execs_nil ⟨σ,H,I,h⟩
theorem uz7 (h1:PS X st t) (h2:PSs X rest u):PSs X (st::rest) (tSeq t u):=by
 intro pins s σ H D I h;refine wpAny_execs_cons (thn (h1 pins s σ H { D with nx:=u D } I h) fun f s1 q=>?_);cases f with
 | next =>
  obtain ⟨σ',H',I',q⟩:=q;exact h2 pins s1 σ' H' D I' q
 | ret v=>exact q
 | brk=>exact q
 | cont=>exact q
theorem us9 (h1:PS X st t):PSs X [st] t:=by
 intro pins s σ H D I h;refine wpAny_execs_cons (thn (h1 pins s σ H D I h) fun f s1 q=>?_);cases f with
 | next=>exact wpAny_execs_nil q
 | ret v=>exact q
 | brk=>exact q
 | cont=>exact q
theorem Inv.quiet {pins:List (Addr × Obj)} {σ:St} {H:Hp} {s:Shared} (I:Inv X pins σ H s):interactive X.env=false:=by simp [interactive,I.ok.kind]
def v99 (te:TE):TS:=fun D σ H=>te σ H fun _ H1=>D.nx σ H1
theorem ut1 (he:PE X e te) (hs:swapsWith e none pos.line X.env=pure false:=by rfl):PS X (.Expr e pos) (v99 te):=by
 intro pins s σ H D I h
 (refine wpAny_Expr_any (thn (he pins s σ H _ I h) ?_) I.quiet hs;rintro v s1 ⟨x,H1,I1,r1,q1⟩;exact ⟨σ,H1,I1,q1⟩)
def tRet (te:TE):TS:=fun D σ H=>te σ H D.rt
theorem vn3 (he:PE X e te):PS X (.Return (some e) pos) (tRet te):=by
 intro pins s σ H D I h
 (refine wpAny_Return_some (thn (he pins s σ H _ I h) ?_);rintro v s1 ⟨x,H1,I1,r1,q1⟩;exact ⟨x,σ,H1,I1,r1,q1⟩)
def tIfS (c:TT) (t u:TS):TS:=fun D σ H=>c σ H fun b H1=>if b=true then t D σ H1 else u D σ H1
theorem vz7 {c:Expr} {a b:List Stmt} {tc:TT} (hc:PT X c tc) (ha:PSs X a t) (hb:PSs X b u):PS X (.If c a b pos) (tIfS tc t u):=by
 intro pins s σ H D I h
 (refine wpAny_If (thn (hc pins s σ H _ I h) ?_);rintro d s1 ⟨H1,I1,q1⟩)
 cases d with
 | true=>exact ha pins s1 σ H1 D I1 q1
 | false=>exact hb pins s1 σ H1 D I1 q1
end
abbrev TG:=V->St->Hp->(St->Hp->Prop)->Prop
abbrev TGs:=List V->St->Hp->(St->Hp->Prop)->Prop
def PG (X:Cx) (target:Expr) (t:TG):Prop :=
 ∀ (pins:List (Addr × Obj)) (s:Shared) (σ:St) (H:Hp) (v:V) (u:Value) (Q:St->Hp->Prop),Inv X pins σ H s->RelV v u->t v σ H Q ->
  wpAny (model X.prog X.w) X.A (assign target X.env u) (fun _ s'=>∃ σ' H',Inv X pins σ' H' s' /\ Q σ' H') X.xe s
def PGs (X:Cx) (ts:List Expr) (t:TGs):Prop :=
 ∀ (pins:List (Addr × Obj)) (s:Shared) (σ:St) (H:Hp) (vs:List V) (us:List Value) (Q:St->Hp->Prop),Inv X pins σ H s->Vals vs us->t vs σ H Q ->
  wpAny (model X.prog X.w) X.A (assignInOrder ((assignEach ts X.env).map (·.2)) us) (fun _ s'=>∃ σ' H',Inv X pins σ' H' s' /\ Q σ' H') X.xe s
abbrev TSet:=V->V->V->Hp->(Hp->Prop)->Prop
def PSet (X:Cx) (t:TSet):Prop :=
 ∀ (pins:List (Addr × Obj)) (s:Shared) (σ:St) (H:Hp) (o i v:V) (ov iv u:Value) (Q:Hp->Prop),Inv X pins σ H s->RelV o ov->RelV i iv->RelV v u->t o i v H Q ->
  wpAny (model X.prog X.w) X.A (setItem ov iv u) (fun _ s'=>∃ H',Inv X pins σ H' s' /\ Q H') X.xe s
abbrev TIp:=V->V->Hp->VK->Prop
def PIp (X:Cx) (op:Operator) (t:TIp):Prop :=
 ∀ (pins:List (Addr × Obj)) (s:Shared) (σ:St) (H:Hp) (x y:V) (v u:Value) (Q:VK),Inv X pins σ H s->RelV x v->RelV y u->t x y H Q ->
  wpAny (model X.prog X.w) X.A (inplaceOp op v u) (EP X pins σ Q) X.xe s
section
variable {X:Cx} {pos:Pos}
def vg8 (i:Nat):TG:=fun v σ H Q=>Q (σ.set i (some v)) H
theorem vd1 {i:Nat} {x:Str} (hN:X.N.Nodup) (hi:X.N[i]?=some x) (hx:Loc X.env.scope x) (hf:X.fn x=true \/ X.env.scope.names.lookup x=some .local:=by first | exact .inl rfl | exact .inr rfl | assumption):PG X (.Name x pos) (vg8 i):=by
 intro pins s σ H v u Q I r h;exact wpAny_assign_Name (u75 I hN hi hx r (fun s' I'=>⟨_,H,I',h⟩) hf)
def gNil:TGs:=fun vs σ H Q=>vs=[] /\ Q σ H
def vv0 (t:TG) (u:TGs):TGs:=fun vs σ H Q=>∃ v r,vs=v::r /\ t v σ H fun σ' H'=>u r σ' H' Q
theorem vd0:PGs X [] gNil:=by
 intro pins s σ H vs us Q I r h;obtain ⟨e,h⟩:=h;subst e;cases r;exact assignInOrder_nil ⟨σ,H,I,h⟩
theorem v00 {e:Expr} {es:List Expr} {t:TG} {u:TGs} (h1:PG X e t) (h2:PGs X es u)
  (hs:(assignEach (e::es) X.env).map (·.2)=assign e X.env::(assignEach es X.env).map (·.2):=by rfl):PGs X (e::es) (vv0 t u):=by
 intro pins s σ H vs us Q I r h;obtain ⟨v,vr,e1,h⟩:=h;subst e1;cases r with
 | cons r rr =>
  rw [hs]
  (refine assignInOrder_cons (thn (h1 pins s σ H _ _ _ I r h) ?_);rintro _ s1 ⟨σ1,H1,I1,q1⟩)
  exact h2 pins s1 σ1 H1 _ _ Q I1 rr q1
def gTup (K:W.Frag) (n:Nat) (t:TGs):TG:=fun v σ H Q=>∃ a xs,v=.ref a /\ SqT K H a xs /\ xs.length=n /\ t xs σ H Q
theorem vn8 {es:List Expr} {k:Nat} {t:TGs} {n:Nat} (hc:X.calm=true) (h:PGs X es t)
  (hn:(assignEach es X.env).length=n:=by rfl) (hst:(assignEach es X.env).findIdx? (·.1)=none:=by rfl):PG X (.Tuple es k pos) (gTup X.K n t):=by
 intro pins s σ H v u Q I r hw;obtain ⟨a,xs,e1,hq,hl,hw⟩:=hw;subst e1;cases r;obtain ⟨its,rv,ht,hz⟩:=I.tuple hq;refine assign_Tuple_tuple (I.ok.hd hc) ht (by simp [hn,<- hl,rv.length]) hst fun h' hx=>?_
 have I1:Inv X pins σ H { s with heap:=h' }:=I.kept (t':=s.toks) fun b o e=>hx b o (Nat.ne_of_lt (Heap.lt_size e)) e
 exact h pins _ σ H xs _ Q I1 (by simpa using rv) hw
def gSub (to ti:TE) (t:TSet):TG:=fun v σ H Q=>to σ H fun o H1=>ti σ H1 fun i H2=>t o i v H2 fun H3=>Q σ H3
theorem vn9 {o i:Expr} {to ti:TE} {t:TSet} (ho:PE X o to) (hi:PE X i ti) (hs:PSet X t)
  (ha:∀ v,assign (.Subscript o i pos) X.env v=(do
   let ov <- holding [v] (eval o X.env)
   let iv <- holding [v,ov] (eval i X.env)
   standAt pos
   holding [v,ov,iv] (setItem ov iv v)
   release [v,ov,iv] []):=by intro _;rfl):PG X (.Subscript o i pos) (gSub to ti t):=by
 intro pins s σ H v u Q I r h;rw [ha]
 (refine wpAny_bind (wpAny_holding (thn (ho pins s σ H _ I h) ?_));rintro ov s1 ⟨x,H1,I1,r1,q1⟩)
 (refine wpAny_bind (wpAny_holding (thn (hi pins s1 σ H1 _ I1 q1) ?_));rintro iv s2 ⟨y,H2,I2,r2,q2⟩)
 (refine wpAny_bind (wpAny_standAt (wpAny_bind (wpAny_holding (thn (hs pins s2 σ H2 x y v ov iv u _ I2 r1 r2 r q2) ?_))));rintro _ s3 ⟨H3,I3,q3⟩)
 exact wpAny_release ⟨σ,H3,I3,q3⟩
def tAsg (te:TE) (g:TG):TS:=fun D σ H=>te σ H fun x H1=>g x σ H1 D.nx
theorem vn6 {tg e:Expr} {te:TE} {g:TG} (he:PE X e te) (hg:PG X tg g) (hs:swapsWithSole [tg] e pos.line X.env=pure false:=by rfl) (hw:swappedStores [tg] e X.env=pure none:=by rfl)
  (h1:(assignEach [tg] X.env).map (·.2)=[assign tg X.env]:=by rfl):PS X (.Assign [tg] e pos) (tAsg te g):=by
 intro pins s σ H D I h
 (refine wpAny_Assign_stores (thn (he pins s σ H _ I h) ?_) hs hw;rintro v s1 ⟨x,H1,I1,r1,q1⟩)
 rw [h1];exact thn (hg pins s1 σ H1 x v _ I1 r1 q1) fun _ s2 q=>q
theorem vn2 {i:Nat} {x:Str} {e:Expr} {te:TE} {pos':Pos} (hN:X.N.Nodup) (hi:X.N[i]?=some x) (hx:Loc X.env.scope x) (he:PE X e te) (hs:swapsWith e (some (.Name x pos')) pos.line X.env=pure false:=by rfl) (hf:X.fn x=true \/ X.env.scope.names.lookup x=some .local:=by first | exact .inl rfl | exact .inr rfl | assumption) :
  PS X (.Assign [.Name x pos'] e pos) (tAsg te (vg8 i)):=by
 intro pins s σ H D I h
 (refine wpAny_Assign_Name (thn (he pins s σ H _ I h) ?_) hs;rintro v s1 ⟨y,H1,I1,r1,q1⟩)
 exact u75 I1 hN hi hx r1 (fun s2 I2=>⟨_,H1,I2,q1⟩) hf
def tAug (i:Nat) (te:TE) (ti:TIp):TS:=fun D σ H=>∃ x,σ[i]?=some (some x) /\ te σ H fun y H1=>ti x y H1 fun z H2=>D.nx (σ.set i (some z)) H2
theorem vn5 {i:Nat} {x:Str} {e:Expr} {te:TE} {op:Operator} {ti:TIp} {pos':Pos} (hN:X.N.Nodup) (hi:X.N[i]?=some x) (hx:Loc X.env.scope x) (he:PE X e te) (ho:PIp X op ti) (hf:X.fn x=true \/ X.env.scope.names.lookup x=some .local:=by first | exact .inl rfl | exact .inr rfl | assumption) :
  PS X (.AugAssign (.Name x pos') op e pos) (tAug i te ti):=by
 intro pins s σ H D I h;obtain ⟨v,e1,h⟩:=h;obtain ⟨m,hn,hl⟩:=I.loc;have vis:Vis X.env.scope x:=by rcases hx with k | k;exact .inl k;exact .inr (.inl k)
 obtain ⟨u,r,l⟩:=hl i x v hi e1 vis;refine wpAny_AugAssign_Name ?_;have go:wpAny (model X.prog X.w) X.A (eval e X.env) (fun w s₂=>wpAny (model X.prog X.w) X.A (inplaceOp op u w) (fun r s₃=>wpAny (model X.prog X.w) X.A (storeName X.env x r) (fun _=>SP X pins D .next) X.xe s₃) X.xe s₂) X.xe s:=by
  (refine thn (he pins s σ H _ I h) ?_;rintro w s1 ⟨y,H1,I1,r1,q1⟩)
  (refine thn (ho pins s1 σ H1 v y u w _ I1 r r1 q1) ?_;rintro z s2 ⟨zv,H2,I2,r2,q2⟩)
  exact u75 I2 hN hi hx r2 (fun s3 I3=>⟨_,H2,I3,q2⟩) hf
 rcases l with ⟨hk,hm⟩ | ⟨hk,c,hc,hcell⟩
 ·exact wpAny_loadName_local I.ok.kind hk hn hm go
 ·rcases hk with hk | hk
  ·exact wpAny_loadName_cell I.ok.kind hk hc hcell go
  ·rcases hx with k | k
   ·have:X.env.scope.names.lookup x=some .free:=hk
    rw [k] at this;cases this
   ·have:X.env.scope.names.lookup x=some .free:=hk
    rw [k] at this;cases this
end
structure It where
 go:Nat->Hp->Prop
 yld:Nat->Hp->V->Hp->Prop
 stop:Nat->Hp->Prop
def FpOk (X:Cx) (pins:List (Addr × Obj)) (H:Hp) (b:Addr):Prop :=
 H b=none /\ b ≠ X.env.locals /\ b ∉ X.fs /\ (b ∈ X.ex \/ X.s₀.heap.objs.size<=b) /\ (∀ x c,X.env.cells.lookup x=some c->c ≠ b) /\ ∀ p ∈ X.pn++pins,p.1 ≠ b
theorem Inv.fpOk {X:Cx} {pins:List (Addr × Obj)} {σ:St} {H H':Hp} {s:Shared} {b:Addr} (I:Inv X pins σ H s) (hb:s.heap.objs.size<=b) (hn:H' b=none):FpOk X pins H' b:=by
 refine ⟨hn,Nat.ne_of_gt (Nat.lt_of_lt_of_le I.lt hb),I.nofs hb,.inr (Nat.le_trans I.sz hb),fun x c e z=>?_,fun p hp z=>?_⟩
 ·obtain ⟨v,q⟩:=I.cell x c e
  exact absurd (Nat.lt_of_lt_of_le q.lt (by rw [z];exact hb)) (Nat.lt_irrefl _)
 ·exact absurd (Nat.lt_of_lt_of_le (Heap.lt_size (I.pin p hp).1) (by rw [z];exact hb)) (Nat.lt_irrefl _)
structure Turn (P:Program) (w:World) (K:W.Frag) (tg:Expr) (J:It) (fp:List Addr) (it:Addr) (tn:Nat->Heap->Prop):Prop where
 mem:it ∈ fp
 obj:∀ i h,tn i h->∀ b ∈ fp,∃ o,h.get? b=some o /\ ∀ v,o.data ≠ .cell v
 keep:∀ i h h',tn i h->(∀ b ∈ fp,∀ o,h.get? b=some o->h'.get? b=some o)->tn i h'
 item:∀ (X:Cx),X.prog=P->X.w=w->X.K=K->X.calm=true->∀ (i:Nat) (pins:List (Addr × Obj)) (s:Shared) (σ:St) (H:Hp) (E:Value->Shared->Prop),Inv X pins σ H s->(∀ b ∈ fp,FpOk X pins H b)->tn i s.heap->J.go i H ->
  wpAny (model P w) X.A (pyNext (.ref it)) (fun r s1=>∃ u,r=some u /\
   wpAny (model P w) X.A (letOwnedTupleGo tg (.ref it) u) (fun _ s2=>∃ x H',Inv X pins σ H' s2 /\ RelV x u /\ J.yld i H x H' /\ tn (i+1) s2.heap /\ ∀ b ∈ fp,H' b=none) E s1) E s
 done:∀ (X:Cx),X.prog=P->X.w=w->X.K=K->X.calm=true->∀ (i:Nat) (pins:List (Addr × Obj)) (s:Shared) (σ:St) (H:Hp) (E:Value->Shared->Prop),Inv X pins σ H s->(∀ b ∈ fp,FpOk X pins H b)->tn i s.heap->J.stop i H ->
  wpAny (model P w) X.A (pyNext (.ref it)) (fun r s1=>r=none /\ Inv X pins σ H s1) E s
 self:∀ (A:Around) (i:Nat) (s:Shared) (Q:Value->Shared->Prop) (E:Value->Shared->Prop),tn i s.heap->Q (.ref it) s->wpAny (model P w) A (pyIter (.ref it)) Q E s
abbrev TI:=St->Hp->(It->Hp->Prop)->Prop
def PIE (X:Cx) (pins:List (Addr × Obj)) (σ:St) (tg:Expr) (R:It->Hp->Prop) (itv:Value) (s2:Shared):Prop :=
 ∃ (it:Addr) (fp:List Addr) (tn:Nat->Heap->Prop) (J:It) (H':Hp),itv=.ref it /\ Inv X pins σ H' s2 /\ Turn X.prog X.w X.K tg J fp it tn /\ tn 0 s2.heap /\ (∀ b ∈ fp,FpOk X pins H' b) /\ R J H'
def PI (X:Cx) (tg iter:Expr) (wi:TI):Prop :=
 ∀ (pins:List (Addr × Obj)) (s:Shared) (σ:St) (H:Hp) (R:It->Hp->Prop),Inv X pins σ H s->wi σ H R ->
  wpAny (model X.prog X.w) X.A (eval iter X.env) (fun v s1=>wpAny (model X.prog X.w) X.A (pyIter v) (PIE X pins σ tg R) X.xe s1) X.xe s
theorem vg7 {M : Model} {A : Around} {E : Value -> Shared -> Prop} {s : Shared} {tg : Expr} {it : Addr} {u : Value} {o : Obj} {n : String} {vs : Array Value} {Q : Unit -> Shared -> Prop} (ho : s.heap.get? it = some o) (hc : o.cls = .type n) (hd : o.data = .fields vs)
    (hn:["enumerate", "zip", "dict_itemiterator", "dict_reverseitemiterator", "odict_iterator", "itertools.zip_longest", "itertools.pairwise"].contains n=false) (hQ:Q () s):wpAny M A (letOwnedTupleGo tg (.ref it) u) Q E s:=by
  unfold letOwnedTupleGo;cases tg <;> first
    | exact wpAny_pure hQ
    | (cases u <;> first
        | exact wpAny_pure hQ
        | (refine wpAny_bind (wpAny_load ho ?_)
           rw [hc,hd]
           show wpAny M A (if (["enumerate", "zip", "dict_itemiterator", "dict_reverseitemiterator", "odict_iterator", "itertools.zip_longest", "itertools.pairwise"].contains n && vs[0]? == some (rawInt _))=true then _ else _) Q E s
           rw [if_neg (by intro h;rw [hn,Bool.false_and] at h;cases h)];exact wpAny_pure hQ))
def Itl (K:W.Frag) (a:Addr):It :=
 ⟨fun i H=>∃ xs x,SqL K H a xs /\ xs[i]?=some x,fun i H x H'=>H'=H /\ ∀ xs,SqL K H a xs->xs[i]?=some x,fun i H=>∃ xs,SqL K H a xs /\ xs.length<=i⟩
def Itt (K:W.Frag) (a:Addr):It :=
 ⟨fun i H=>∃ xs x,SqT K H a xs /\ xs[i]?=some x,fun i H x H'=>H'=H /\ ∀ xs,SqT K H a xs->xs[i]?=some x,fun i H=>∃ xs,SqT K H a xs /\ xs.length<=i⟩
def Itr (lo:Int) (n:Nat):It:=⟨fun i _=>i < n,fun i H x H'=>H'=H /\ x=.int (lo+i),fun i _=>n<=i⟩
theorem ur5 {P:Program} {w:World} {K:W.Frag} {tg:Expr} (a it:Addr):Turn P w K tg (Itl K a) [it] it (fun i h=>h.IsListIter it a i) where
 mem:=by simp
 obj:=fun i h st b hb=>by
  have e:b=it:=by simpa using hb
  subst e;obtain ⟨o,e,c,d⟩:=st;exact ⟨o,e,fun v z=>by rw [d] at z;cases z⟩
 keep:=fun i h h' st k=>st.at fun o e=>k it (by simp) o e
 item:=by
  intro X hP hw hK hc i pins s σ H E I hf st hg;subst hP hw hK;obtain ⟨xs,x,hq,hx⟩:=hg;obtain ⟨its,rv,p,hz⟩:=I.list hq;obtain ⟨u,hu,ru⟩:=rv.get hx;obtain ⟨f0,f1,f2,f3,f4,f5⟩:=hf it (by simp);refine wpAny_pyNext_list_item st p.isList (x:=u) (by simpa using hu) fun h' st' sb=>?_
  have I1:Inv X pins σ H { s with heap:=h' }:=I.turned (t':=s.toks) (fun b o hb e=>(sb.2 b hb).trans e) f0 f1 f3 f4 f5
  obtain ⟨o,e,c,d⟩:=id st';exact ⟨u,rfl,vg7 (s:={ s with heap:=h' }) e c d (by decide) ⟨x,H,I1,ru,⟨rfl,fun ys hy=>by rw [I.list_inj hy hq];exact hx⟩,st',fun b hb=>(hf b hb).1⟩⟩
 done:=by
  intro X hP hw hK hc i pins s σ H E I hf st hg;subst hP hw hK;obtain ⟨xs,hq,hx⟩:=hg;obtain ⟨its,rv,p,hz⟩:=I.list hq;obtain ⟨f0,f1,f2,f3,f4,f5⟩:=hf it (by simp);have hl:=rv.length;exact wpAny_pyNext_list_end (I.ok.hd hc) st p.isList (by simp;omega) fun h' eb=>⟨rfl,I.turned (t':=s.toks) (fun b o hb e=>eb b o hb e) f0 f1 f3 f4 f5⟩
 self:=fun _ _ _ _ _ st h=>wpAny_pyIter_listiter st h
theorem uo4 {P:Program} {w:World} {K:W.Frag} {tg:Expr} (a it:Addr):Turn P w K tg (Itt K a) [it] it (fun i h=>h.IsTupleIter it a i) where
 mem:=by simp
 obj:=fun i h st b hb=>by
  have e:b=it:=by simpa using hb
  subst e;obtain ⟨o,e,c,d⟩:=st;exact ⟨o,e,fun v z=>by rw [d] at z;cases z⟩
 keep:=fun i h h' st k=>st.at fun o e=>k it (by simp) o e
 item:=by
  intro X hP hw hK hc i pins s σ H E I hf st hg;subst hP hw hK;obtain ⟨xs,x,hq,hx⟩:=hg;obtain ⟨its,rv,p,hz⟩:=I.tuple hq;obtain ⟨u,hu,ru⟩:=rv.get hx;obtain ⟨f0,f1,f2,f3,f4,f5⟩:=hf it (by simp);refine wpAny_pyNext_tuple_item st (show s.heap.IsTuple a its.toArray from p) (x:=u) (by simpa using hu) fun h' st' sb=>?_
  have I1:Inv X pins σ H { s with heap:=h' }:=I.turned (t':=s.toks) (fun b o hb e=>(sb.2 b hb).trans e) f0 f1 f3 f4 f5
  obtain ⟨o,e,c,d⟩:=id st';exact ⟨u,rfl,vg7 (s:={ s with heap:=h' }) e c d (by decide) ⟨x,H,I1,ru,⟨rfl,fun ys hy=>by rw [I.tuple_inj hy hq];exact hx⟩,st',fun b hb=>(hf b hb).1⟩⟩
 done:=by
  intro X hP hw hK hc i pins s σ H E I hf st hg;subst hP hw hK;obtain ⟨xs,hq,hx⟩:=hg;obtain ⟨its,rv,p,hz⟩:=I.tuple hq;obtain ⟨f0,f1,f2,f3,f4,f5⟩:=hf it (by simp);have hl:=rv.length;exact wpAny_pyNext_tuple_end (I.ok.hd hc) st (show s.heap.IsTuple a its.toArray from p) (by simp;omega) fun h' eb=>⟨rfl,I.turned (t':=s.toks) (fun b o hb e=>eb b o hb e) f0 f1 f3 f4 f5⟩
 self:=fun _ _ _ _ _ st h=>wpAny_pyIter_tupleiter st h
theorem uo5 {P:Program} {w:World} {K:PySem.W.Frag} {tg:Expr} (it:Addr) (lo:Int) (n:Nat):Turn P w K tg (Itr lo n) [it] it (fun i h=>IsRangeIter h it (lo+(i:Nat) * 1) ((n:Int) - (i:Nat)) 1) where
 mem:=by simp
 obj:=fun i h st b hb=>by
  have e:b=it:=by simpa using hb
  subst e;exact ⟨_,st,fun v z=>by
   have z':Data.fields _=Data.cell v:=z;cases z'⟩
 keep:=fun i h h' st k=>k it (by simp) _ st
 item:=by
  intro X hP hw hK hc i pins s σ H E I hf st hg;subst hP hw hK;obtain ⟨f0,f1,f2,f3,f4,f5⟩:=hf it (by simp);have W:=Walks.range (prog:=X.prog) (w:=X.w) (I.ok.hd hc) it lo 1 n;refine W.item i s _ _ hg st fun v h' tk hv st' kk=>?_
  obtain ⟨t,rfl⟩:=hv;have I1:Inv X pins σ H { s with heap:=h',toks:=tk }:=I.turned (fun b o hb e=>kk b o (by simpa using hb) e) f0 f1 f3 f4 f5
  refine ⟨_,rfl,vg7 (s:={ s with heap:=h',toks:=tk }) (n := "range_iterator") st' rfl rfl (by decide) ⟨.int (lo+i),H,I1,⟨t,?_⟩,⟨rfl,rfl⟩,st',fun b hb=>(hf b hb).1⟩⟩;rw [Int.mul_one]
 done:=by
  intro X hP hw hK hc i pins s σ H E I hf st hg;subst hP hw hK;obtain ⟨f0,f1,f2,f3,f4,f5⟩:=hf it (by simp);exact wpAny_pyNext_range_end (I.ok.hd hc) st (by have:n<=i:=hg;omega) fun h' eb=>⟨rfl,I.turned (t':=s.toks) (fun b o hb e=>eb b o hb e) f0 f1 f3 f4 f5⟩
 self:=fun _ _ _ _ _ st h=>wpAny_pyIter_rangeiter st h
section
variable {X:Cx} {tg:Expr}
theorem uz5 {pins:List (Addr × Obj)} {σ:St} {H:Hp} {s:Shared} {R:It->Hp->Prop} {E:Value->Shared->Prop} {lo hi:Int} {t u v:Tok} {tk:Nat} (I:Inv X pins σ H s) (h1:-(2 ^ 62)<=lo) (h2:lo < 2 ^ 62) (h3:-(2 ^ 62)<=hi) (h4:hi < 2 ^ 62)
  (q:R (Itr lo (hi - lo).toNat) H):wpAny (model X.prog X.w) X.A (pyIter (.ref s.heap.objs.size)) (PIE X pins σ tg R) E { s with heap:=s.heap.push { cls:=.type "range",data:=.fields #[.int lo t,.int hi u,.int 1 v] },toks:=tk }:=by
 refine wpAny_pyIter_range (IsRange.new ..) (small_one h1 h2 h3 h4) ?_;have I1:Inv X pins σ H { s with heap:=s.heap.push { cls:=.type "range",data:=.fields #[.int lo t,.int hi u,.int 1 v] },toks:=tk }:=I.kept fun b o e=>Heap.get?_push_of_some _ e
 refine ⟨(s.heap.push { cls:=.type "range",data:=.fields #[.int lo t,.int hi u,.int 1 v] }).objs.size,[(s.heap.push { cls:=.type "range",data:=.fields #[.int lo t,.int hi u,.int 1 v] }).objs.size],_,_,H,rfl,
  I1.kept (t':=tk) fun b o e=>Heap.get?_push_of_some _ e,uo5 _ lo (hi - lo).toNat,?_,fun b hb=>?_,q⟩
 ·have e1:lo+((0:Nat):Int) * 1=lo:=by simp
  have e2:(((hi - lo).toNat:Nat):Int) - ((0:Nat):Int)=Builtin.Range.rangeSize lo hi 1:=by rw [rangeSize_one];split <;> omega
  show IsRangeIter _ _ (lo+((0:Nat):Int) * 1) ((((hi - lo).toNat:Nat):Int) - ((0:Nat):Int)) 1
  rw [e1,e2];exact Heap.get?_push_size _ rfl
 ·have e:b=(s.heap.push { cls:=.type "range",data:=.fields #[.int lo t,.int hi u,.int 1 v] }).objs.size:=by simpa using hb
  subst e;exact I1.fpOk (Nat.le_refl _) (I1.hok.fresh (Nat.le_refl _))
def vu8 (ta:TA):TI:=fun σ H R=>ta σ H fun vs H1=>∃ j:Int,vs=[.int j] /\ -(2 ^ 62)<=j /\ j < 2 ^ 62 /\ R (Itr 0 j.toNat) H1
theorem ut6 {a:Expr} {ta:TA} {p pos:Pos} (hg:Gl X "range") (hm:X.mg "range" = none) (ha:PA X [a] ta) (hs:starEach [a] X.env=[(false,eval a X.env)]:=by rfl):PI X tg (.Call (.Name "range" p) [a] [] pos) (vu8 ta):=by
 intro pins s σ H R I h
 (refine Call_ (um9 I hg hm boot_range (PyProof.Rows.callWith_type1 (thn (ha pos pins s σ H _ I h) ?_) hs rfl));rintro us s1 ⟨vs,H1,I1,r1,q1⟩)
 obtain ⟨j,e,q1,q2,q⟩:=q1;subst e;cases r1 with
 | cons r rr =>
  cases rr;obtain ⟨t,rfl⟩:=r;exact call_range_1 (uz5 I1 (by omega) (by omega) q1 q2 (by simpa using q))
def tFor (wi:TI) (g:TG) (tb:TS):TS:=fun D σ H=>wi σ H fun J H1=>∃ W:Nat->Nat->St->Hp->Prop,(∃ m,W 0 m σ H1) /\ ∀ i m σ H,W i m σ H ->
 (J.stop i H /\ D.nx σ H) \/ (J.go i H /\ ∃ N:St->Hp->Prop,(∀ σ' H',N σ' H'->∃ m',m' < m /\ W (i+1) m' σ' H') /\ ∀ x H',J.yld i H x H'->g x σ H' fun σ2 H2=>tb { D with nx:=N,ct:=N,bk:=D.nx } σ2 H2)
def ug8 (fp:List Addr) (h:Heap):List (Addr × Obj):=fp.filterMap fun b=>(h.get? b).map fun o=>(b,o)
theorem u62 {fp:List Addr} {h:Heap} {b:Addr} {o:Obj} (hb:b ∈ fp) (e:h.get? b=some o):(b,o) ∈ ug8 fp h:=List.mem_filterMap.mpr ⟨b,hb,by rw [e];rfl⟩
theorem uu3 {fp:List Addr} {h:Heap} {p:Addr × Obj} (hp:p ∈ ug8 fp h):p.1 ∈ fp /\ h.get? p.1=some p.2:=by
 obtain ⟨b,hb,e⟩:=List.mem_filterMap.mp hp;cases q:h.get? b with
 | none=>rw [q] at e;cases e
 | some o =>
  rw [q] at e;have e':(b,o)=p:=Option.some.inj e;subst e';exact ⟨hb,q⟩
theorem Inv.pinned {pins:List (Addr × Obj)} {σ:St} {H:Hp} {s:Shared} {fp:List Addr} (I:Inv X pins σ H s) (hf:∀ b ∈ fp,FpOk X pins H b) (ho:∀ b ∈ fp,∃ o,s.heap.get? b=some o /\ ∀ v,o.data ≠ .cell v):Inv X (pins++ug8 fp s.heap) σ H s :=
 I.pins_of fun p hp=>(List.mem_append.mp hp).elim (fun z=>I.pin p (List.mem_append_right _ z)) fun z=>by
  obtain ⟨hb,e⟩:=uu3 z;obtain ⟨f0,f1,f2,_⟩:=hf p.1 hb;obtain ⟨o,e',d⟩:=ho p.1 hb;rw [e] at e';cases e';exact ⟨e,f0,f1,f2,d⟩
theorem Inv.unpinned {pins pl:List (Addr × Obj)} {σ:St} {H:Hp} {s:Shared} (I:Inv X (pins++pl) σ H s):Inv X pins σ H s:=I.pins_of fun p hp=>I.pin p (List.mem_append_right _ (List.mem_append_left _ hp))
theorem vn4 {iter:Expr} {body:List Stmt} {wi:TI} {g:TG} {tb:TS} {pos:Pos} (hp:PassesOwn (model X.prog X.w) X.A X.env X.xe) (hc:X.calm=true) (hi:PI X tg iter wi) (hg:PG X tg g) (hb:PSs X body tb)
  (hs:∀ x,foldedSetIterable iter X.env x=pure x:=by intro _;rfl):PS X (.For tg iter body [] pos) (tFor wi g tb):=by
 intro pins s σ H D I h;refine wpAny_For (thn (hi pins s σ H _ I h) fun v s1 h1=>thn h1 fun itv s2 h2=>?_) hs;obtain ⟨it,fp,tn,J,H2,e,I2,T,st2,f2,W,⟨m0,w0⟩,turn⟩:=h2;subst e;have stat:∀ {H':Hp},(∀ b ∈ fp,H' b=none)->∀ b ∈ fp,FpOk X pins H' b:=fun hn b hb=>⟨hn b hb,(f2 b hb).2⟩
 refine codeAny_forLoop_any (fun n s'=>∃ i σ' H',Inv X pins σ' H' s' /\ tn i s'.heap /\ (∀ b ∈ fp,H' b=none) /\ W i n σ' H') ?_ m0 ⟨0,σ,H2,I2,st2,fun b hb=>(f2 b hb).1,w0⟩;rintro n s3 ⟨i,σ3,H3,I3,st3,fr3,w3⟩
 rcases turn i n σ3 H3 w3 with ⟨stop,qn⟩ | ⟨go,N,hN,step⟩
 ·(refine wpAny_passesOwn hp (thn (T.done X rfl rfl rfl hc i pins s3 σ3 H3 X.xe I3 (stat fr3) st3 stop) ?_);rintro r s4 ⟨hr,I4⟩)
  subst hr;exact wpAny_execs_nil ⟨σ3,H3,I4,qn⟩
 ·(refine wpAny_passesOwn hp (thn (T.item X rfl rfl rfl hc i pins s3 σ3 H3 X.xe I3 (stat fr3) st3 go) ?_);rintro r s4 ⟨u,hr,h4⟩)
  subst hr
  (refine wpAny_passesOwn hp (thn h4 ?_);rintro _ s5 ⟨x,H5,I5,r5,y5,st5,fr5⟩)
  have I5':=I5.pinned (stat fr5) (T.obj _ _ st5)
  (refine wpAny_passesOwn hp (thn (hg _ s5 σ3 H5 x u _ I5' r5 (step x H5 y5)) ?_);rintro _ s6 ⟨σ6,H6,I6,q6⟩)
  refine wpAny_passesOwn hp (thn (hb _ s6 σ6 H6 _ I6 q6) fun f s7 q7=>?_);have again:∀ {σ7:St} {H7:Hp},Inv X (pins++ug8 fp s5.heap) σ7 H7 s7->N σ7 H7->∃ m,m < n /\ ∃ i σ' H',Inv X pins σ' H' s7 /\ tn i s7.heap /\ (∀ b ∈ fp,H' b=none) /\ W i m σ' H':=fun {σ7 H7} I7 n7=>by
   obtain ⟨m',hm,w7⟩:=hN σ7 H7 n7;refine ⟨m',hm,i+1,σ7,H7,I7.unpinned,T.keep _ _ _ st5 fun b hb o e=>(I7.pin (b,o) (List.mem_append_right _ (List.mem_append_right _ (u62 hb e)))).1,fun b hb=>?_,w7⟩;obtain ⟨o,e,d⟩:=T.obj _ _ st5 b hb;exact (I7.pin (b,o) (List.mem_append_right _ (List.mem_append_right _ (u62 hb e)))).2.1
  cases f with
  | next=>obtain ⟨σ7,H7,I7,n7⟩:=q7;exact again I7 n7
  | cont=>obtain ⟨σ7,H7,I7,n7⟩:=q7;exact again I7 n7
  | brk=>obtain ⟨σ7,H7,I7,q7⟩:=q7;exact ⟨σ7,H7,I7.unpinned,q7⟩
  | ret v=>obtain ⟨x7,σ7,H7,I7,r7,q7⟩:=q7;exact ⟨x7,σ7,H7,I7.unpinned,r7,q7⟩
end
abbrev R2:=V->V->Hp->VK->Prop
def OpR (X:Cx) (f:Value->Value->Sem Value) (r:R2):Prop :=
 ∀ (pins:List (Addr × Obj)) (s:Shared) (σ:St) (H:Hp) (x y:V) (v u:Value) (Q:VK),Inv X pins σ H s->RelV x v->RelV y u->r x y H Q ->
  wpAny (model X.prog X.w) X.A (f v u) (EP X pins σ Q) X.xe s
def UnR (X:Cx) (f:Value->Sem Value) (r:V->Hp->VK->Prop):Prop :=
 ∀ (pins:List (Addr × Obj)) (s:Shared) (σ:St) (H:Hp) (x:V) (v:Value) (Q:VK),Inv X pins σ H s->RelV x v->r x H Q ->
  wpAny (model X.prog X.w) X.A (f v) (EP X pins σ Q) X.xe s
def CallR (X:Cx) (f:Value) (r:List V->Hp->VK->Prop):Prop :=
 ∀ (pins:List (Addr × Obj)) (s:Shared) (σ:St) (H:Hp) (xs:List V) (us:List Value) (Q:VK),Inv X pins σ H s->Vals xs us->r xs H Q ->
  wpAny (model X.prog X.w) X.A (call f us) (EP X pins σ Q) X.xe s
def tOp (r:R2) (ta tb:TE):TE:=fun σ H Q=>ta σ H fun x H1=>tb σ H1 fun y H2=>r x y H2 Q
def tUn (r:V->Hp->VK->Prop) (ta:TE):TE:=fun σ H Q=>ta σ H fun x H1=>r x H1 Q
def rI (C:Int->Int->Prop) (g:Int->Int->V):R2:=fun x y H Q=>∃ i j,x=.int i /\ y=.int j /\ C i j /\ Q (g i j) H
def rI0 (g:Int->Int->V):R2:=fun x y H Q=>∃ i j,x=.int i /\ y=.int j /\ Q (g i j) H
def rU (g:Int->V):V->Hp->VK->Prop:=fun x H Q=>∃ i,x=.int i /\ Q (g i) H
section
variable {X:Cx} {a b c:Expr} {ta tb tc:TE} {pos:Pos}
theorem binT (ha:PE X a ta) (hb:PE X b tb) {pins:List (Addr × Obj)} {s:Shared} {σ:St} {H:Hp} {R:V->V->Hp->Prop} (I:Inv X pins σ H s)
  (h:ta σ H fun x H1=>tb σ H1 fun y H2=>R x y H2) {Q:Value->Shared->Prop} {f:Value->Value->Sem Value}
  (hf:∀ v u s2 x y H2,Inv X pins σ H2 s2->RelV x v->RelV y u->R x y H2->wpAny (model X.prog X.w) X.A (f v u) Q X.xe s2) :
  wpAny (model X.prog X.w) X.A (eval a X.env) (fun v s₁=>wpAny (model X.prog X.w) X.A (eval b X.env) (fun u s₂=>wpAny (model X.prog X.w) X.A (f v u) Q X.xe s₂) X.xe s₁) X.xe s:=by
 (refine thn (ha pins s σ H _ I h) ?_;rintro v s1 ⟨x,H1,I1,r1,q1⟩)
 (refine thn (hb pins s1 σ H1 _ I1 q1) ?_;rintro u s2 ⟨y,H2,I2,r2,q2⟩)
 exact hf v u s2 x y H2 I2 r1 r2 q2
theorem w00 {op:Operator} {r:R2} (ho:OpR X (binaryOp op) r) (ha:PE X a ta) (hb:PE X b tb):PE X (.BinOp a op b pos) (tOp r ta tb):=by
 intro pins s σ H Q I h;exact wpAny_BinOp (binT ha hb I h fun v u s2 x y H2 I2 rx ry q=>ho pins s2 σ H2 x y v u Q I2 rx ry q)
theorem vz9 {op:UnaryOp} {r:V->Hp->VK->Prop} (ho:UnR X (unaryOp op) r) (ha:PE X a ta):PE X (.UnaryOp op a pos) (tUn r ta):=by
 intro pins s σ H Q I h
 (refine UnaryOp_ (thn (ha pins s σ H _ I h) ?_);rintro v s1 ⟨x,H1,I1,r1,q1⟩;exact ho pins s1 σ H1 x v Q I1 r1 q1)
theorem opI {f:Value->Value->Sem Value} {C:Int->Int->Prop} {g:Int->Int->Int}
  (rule:∀ (i j:Int) (t u:Tok) (s:Shared) (Q:Value->Shared->Prop) (E:Value->Shared->Prop),C i j->Q (.int (g i j) s.toks) { s with toks:=s.toks+1 }->wpAny (model X.prog X.w) X.A (f (.int i t) (.int j u)) Q E s) :
  OpR X f (rI C fun i j=>.int (g i j)):=by
 intro pins s σ H x y v u Q I rx ry h;obtain ⟨i,j,rfl,rfl,hc,q⟩:=h;obtain ⟨t,rfl⟩:=rx;obtain ⟨t',rfl⟩:=ry;exact rule i j t t' s _ _ hc ⟨.int (g i j),H,I.tok _,⟨_,rfl⟩,q⟩
theorem opI0 {f:Value->Value->Sem Value} {g:Int->Int->Int}
  (rule:∀ (i j:Int) (t u:Tok) (s:Shared) (Q:Value->Shared->Prop) (E:Value->Shared->Prop),Q (.int (g i j) s.toks) { s with toks:=s.toks+1 }->wpAny (model X.prog X.w) X.A (f (.int i t) (.int j u)) Q E s) :
  OpR X f (rI0 fun i j=>.int (g i j)):=by
 intro pins s σ H x y v u Q I rx ry h;obtain ⟨i,j,rfl,rfl,q⟩:=h;obtain ⟨t,rfl⟩:=rx;obtain ⟨t',rfl⟩:=ry;exact rule i j t t' s _ _ ⟨.int (g i j),H,I.tok _,⟨_,rfl⟩,q⟩
theorem opB0 {f:Value->Value->Sem Value} {g:Int->Int->Bool}
  (rule:∀ (i j:Int) (t u:Tok) (s:Shared) (Q:Value->Shared->Prop) (E:Value->Shared->Prop),Q (.bool (g i j)) s->wpAny (model X.prog X.w) X.A (f (.int i t) (.int j u)) Q E s) :
  OpR X f (rI0 fun i j=>.bl (g i j)):=by
 intro pins s σ H x y v u Q I rx ry h;obtain ⟨i,j,rfl,rfl,q⟩:=h;obtain ⟨t,rfl⟩:=rx;obtain ⟨t',rfl⟩:=ry;exact rule i j t t' s _ _ ⟨.bl (g i j),H,I,rfl,q⟩
def CDiv (i j:Int):Prop:=0 < j /\ j < 1073741824
def CPow (i j:Int):Prop:=0<=j /\ j<=1000000 /\ i.natAbs < 2 ^ 64
def CMul (i j:Int):Prop:=(-(2 ^ 64) < i /\ i < 2 ^ 64) \/ (-(2 ^ 64) < j /\ j < 2 ^ 64)
theorem CMul.ok {i j:Int} (h:CMul i j):IntMulOk i j:=by
 rcases h with ⟨h1,h2⟩ | ⟨h1,h2⟩
 ·exact .of_left (intBits_le_64 h1 h2)
 ·exact .of_right (intBits_le_64 h1 h2)
theorem op_add:OpR X (binaryOp .Add) (rI0 fun i j=>.int (i+j)):=opI0 fun _ _ _ _ _ _ _ q=>add_int q
theorem vo9:OpR X (binaryOp .Sub) (rI0 fun i j=>.int (i - j)):=opI0 fun _ _ _ _ _ _ _ q=>sub_int q
theorem op_mul:OpR X (binaryOp .Mult) (rI CMul fun i j=>.int (i * j)):=opI fun _ _ _ _ _ _ _ hc q=>mul_int q hc.ok
theorem w06:OpR X (binaryOp .FloorDiv) (rI CDiv fun i j=>.int (i / j)):=opI fun i j _ _ _ _ _ hc q=>by
 have h1:(0:Int) < j:=hc.1;have h2:j < 1073741824:=hc.2;exact floordiv_int (by omega) (by rw [Int.fdiv_eq_ediv_of_nonneg i (by omega)];exact q) (.inl (PyProof.noPylong_small (by omega)))
theorem vp4:OpR X (binaryOp .Mod) (rI (fun _ j=>0 < j) fun i j=>.int (i % j)):=opI fun i j _ _ _ _ _ hc q=>by
 have h1:(0:Int) < j:=hc;exact mod_int' (by omega) (by rw [Int.fmod_eq_emod_of_nonneg i (by omega)];exact q)
theorem vp2:OpR X (binaryOp .Pow) (rI CPow fun i j=>.int (i ^ j.toNat)):=opI fun _ _ _ _ _ _ _ hc q=>pow_int_small hc.1 hc.2.1 hc.2.2 q
theorem vp0:OpR X (binaryOp .LShift) (rI CPow fun i j=>.int (i * 2 ^ j.toNat)):=opI fun _ _ _ _ _ _ _ hc q=>lshift_int_small hc.1 hc.2.1 hc.2.2 q
theorem vg4:OpR X (inplaceOp .Add) (rI0 fun i j=>.int (i+j)):=opI0 fun _ _ _ _ _ _ _ q=>iadd_int q
theorem unI {f:Value->Sem Value} {g:Int->Int}
  (rule:∀ (i:Int) (t:Tok) (s:Shared) (Q:Value->Shared->Prop) (E:Value->Shared->Prop),Q (.int (g i) s.toks) { s with toks:=s.toks+1 }->wpAny (model X.prog X.w) X.A (f (.int i t)) Q E s) :
  UnR X f (rU fun i=>.int (g i)):=by
 intro pins s σ H x v Q I rx h;obtain ⟨i,rfl,q⟩:=h;obtain ⟨t,rfl⟩:=rx;exact rule i t s _ _ ⟨.int (g i),H,I.tok _,⟨_,rfl⟩,q⟩
theorem vl5:UnR X (unaryOp .USub) (rU fun i=>.int (-i)):=unI fun _ _ _ _ _ q=>neg_int q
end
def scal:V->V->Bool
 | .non,.non=>true | .non,.int _=>true | .int _,.non=>true | .non,.bl _=>true | .bl _,.non=>true | .non,.str _=>true | .str _,.non=>true
 | .int _,.int _=>true | .bl _,.bl _=>true | .str _,.str _=>true | .byt _,.byt _=>true
 | .int _,.str _=>true | .str _,.int _=>true | .bl _,.str _=>true | .str _,.bl _=>true
 | _,_=>false
def rEq:R2:=fun x y H Q=>scal x y=true /\ Q (.bl (decide (x=y))) H
def rNe:R2:=fun x y H Q=>scal x y=true /\ Q (.bl (!decide (x=y))) H
theorem uw3 {i j:Int}:decide (V.int i=V.int j)=(i == j):=by
 rw [Bool.eq_iff_iff];simp
theorem v83 {i j:Bool}:decide (V.bl i=V.bl j)=(i == j):=by
 rw [Bool.eq_iff_iff];simp
theorem uw2 {i j:Str}:decide (V.str i=V.str j)=(i == j):=by
 rw [Bool.eq_iff_iff];simp
theorem uw4 {i j:Array UInt8}:decide (V.byt i=V.byt j)=(i.toList == j.toList):=by
 rw [Bool.eq_iff_iff];cases i;cases j;simp
section
variable {X:Cx} {a b c:Expr} {ta tb tc:TE} {pos:Pos}
theorem u16 {pins:List (Addr × Obj)} {σ:St} {H:Hp} {s:Shared} {Q:VK} {k k':Bool} (I:Inv X pins σ H s) (q:Q (.bl k) H) (e:k=k'):EP X pins σ Q (.bool k') s:=by
 subst e;exact ⟨.bl k,H,I,rfl,q⟩
theorem op_eq:OpR X (compareOp .Eq) rEq:=by
 intro pins s σ H x y v u Q I rx ry h;obtain ⟨hs,q⟩:=h;cases x with
 | non =>
  cases rx;cases y with
  | non=>cases ry;exact PySem.EqNone.eq_none_none (u16 I q (by simp))
  | bl j=>cases ry;exact PySem.EqNone.eq_none_bool (u16 I q (by simp))
  | int j=>obtain ⟨t',rfl⟩:=ry;exact PySem.EqNone.eq_none_int (u16 I q (by simp))
  | str j=>obtain ⟨t',rfl⟩:=ry;exact PySem.EqNone.eq_none_str (u16 I q (by simp))
  | _=>exact absurd (show false=true from hs) Bool.false_ne_true
 | bl i =>
  cases rx;cases y with
  | non=>cases ry;exact PySem.EqNone.eq_bool_none (u16 I q (by simp))
  | bl j=>cases ry;exact eq_bool (u16 I q v83)
  | str j=>obtain ⟨t',rfl⟩:=ry;exact PySem.EqMixed.eq_bool_str (u16 I q (by simp))
  | _=>exact absurd (show false=true from hs) Bool.false_ne_true
 | int i =>
  obtain ⟨t,rfl⟩:=rx;cases y with
  | non=>cases ry;exact PySem.EqNone.eq_int_none (u16 I q (by simp))
  | int j=>obtain ⟨t',rfl⟩:=ry;exact eq_int (u16 I q uw3)
  | str j=>obtain ⟨t',rfl⟩:=ry;exact PySem.EqMixed.eq_int_str (u16 I q (by simp))
  | _=>exact absurd (show false=true from hs) Bool.false_ne_true
 | str i =>
  obtain ⟨t,rfl⟩:=rx;cases y with
  | non=>cases ry;exact PySem.EqNone.eq_str_none (u16 I q (by simp))
  | bl j=>cases ry;exact PySem.EqMixed.eq_str_bool (u16 I q (by simp))
  | int j=>obtain ⟨t',rfl⟩:=ry;exact PySem.EqMixed.eq_str_int (u16 I q (by simp))
  | str j=>obtain ⟨t',rfl⟩:=ry;exact eq_str (u16 I q uw2)
  | _=>exact absurd (show false=true from hs) Bool.false_ne_true
 | byt i =>
  obtain ⟨t,rfl⟩:=rx;cases y with
  | byt j=>obtain ⟨t',rfl⟩:=ry;exact W.eq_bytes (u16 I q uw4)
  | _=>exact absurd (show false=true from hs) Bool.false_ne_true
 | _=>cases y <;> exact absurd (show false=true from hs) Bool.false_ne_true
theorem op_ne:OpR X (compareOp .NotEq) rNe:=by
 intro pins s σ H x y v u Q I rx ry h;obtain ⟨hs,q⟩:=h;cases x with
 | non =>
  cases rx;cases y with
  | non=>cases ry;exact PySem.EqNone.ne_none_none (u16 I q (by simp))
  | bl j=>cases ry;exact PySem.EqNone.ne_none_bool (u16 I q (by simp))
  | int j=>obtain ⟨t',rfl⟩:=ry;exact PySem.EqNone.ne_none_int (u16 I q (by simp))
  | str j=>obtain ⟨t',rfl⟩:=ry;exact PySem.EqNone.ne_none_str (u16 I q (by simp))
  | _=>exact absurd (show false=true from hs) Bool.false_ne_true
 | bl i =>
  cases rx;cases y with
  | non=>cases ry;exact PySem.EqNone.ne_bool_none (u16 I q (by simp))
  | bl j=>cases ry;exact ne_bool (u16 I q (congrArg not v83))
  | str j=>obtain ⟨t',rfl⟩:=ry;exact PySem.EqMixed.ne_bool_str (u16 I q (by simp))
  | _=>exact absurd (show false=true from hs) Bool.false_ne_true
 | int i =>
  obtain ⟨t,rfl⟩:=rx;cases y with
  | non=>cases ry;exact PySem.EqNone.ne_int_none (u16 I q (by simp))
  | int j=>obtain ⟨t',rfl⟩:=ry;exact ne_int (u16 I q (congrArg not uw3))
  | str j=>obtain ⟨t',rfl⟩:=ry;exact PySem.EqMixed.ne_int_str (u16 I q (by simp))
  | _=>exact absurd (show false=true from hs) Bool.false_ne_true
 | str i =>
  obtain ⟨t,rfl⟩:=rx;cases y with
  | non=>cases ry;exact PySem.EqNone.ne_str_none (u16 I q (by simp))
  | bl j=>cases ry;exact PySem.EqMixed.ne_str_bool (u16 I q (by simp))
  | int j=>obtain ⟨t',rfl⟩:=ry;exact PySem.EqMixed.ne_str_int (u16 I q (by simp))
  | str j=>obtain ⟨t',rfl⟩:=ry;exact ne_str (u16 I q (congrArg not uw2))
  | _=>exact absurd (show false=true from hs) Bool.false_ne_true
 | byt i =>
  obtain ⟨t,rfl⟩:=rx;cases y with
  | byt j=>obtain ⟨t',rfl⟩:=ry;exact W.ne_bytes (u16 I q (congrArg not uw4))
  | _=>exact absurd (show false=true from hs) Bool.false_ne_true
 | _=>cases y <;> exact absurd (show false=true from hs) Bool.false_ne_true
theorem op_lt:OpR X (compareOp .Lt) (rI0 fun i j=>.bl (decide (i < j))):=opB0 fun _ _ _ _ _ _ _ q=>lt_int q
theorem w03:OpR X (compareOp .LtE) (rI0 fun i j=>.bl (decide (i<=j))):=opB0 fun _ _ _ _ _ _ _ q=>le_int q
theorem w04:OpR X (compareOp .Gt) (rI0 fun i j=>.bl (decide (j < i))):=opB0 fun _ _ _ _ _ _ _ q=>gt_int q
theorem w05:OpR X (compareOp .GtE) (rI0 fun i j=>.bl (decide (j<=i))):=opB0 fun _ _ _ _ _ _ _ q=>ge_int q
theorem uu1:OpR X (compareOp .Lt) (fun x y H Q=>∃ i j,x=.str i /\ y=.str j /\ Q (.bl (decide (i.cps.toList < j.cps.toList))) H):=by
 intro pins s σ H x y v u Q I rx ry h;obtain ⟨i,j,rfl,rfl,q⟩:=h;obtain ⟨t,rfl⟩:=rx;obtain ⟨t',rfl⟩:=ry;exact lt_str (u16 I q rfl)
theorem OpR.or {f:Value->Value->Sem Value} {r r':R2} (h:OpR X f r) (h':OpR X f r'):OpR X f (fun x y H Q=>r x y H Q \/ r' x y H Q):=by
 intro pins s σ H x y v u Q I rx ry q
 rcases q with q | q
 ·exact h pins s σ H x y v u Q I rx ry q
 ·exact h' pins s σ H x y v u Q I rx ry q
theorem nomark (b:Expr) {op:CmpOp} (h:op ≠ .In:=by decide) (h2:op ≠ .NotIn:=by decide):behindInMarks op b=false:=by
 have e1:(op == CmpOp.In)=false:=by cases op <;> first | rfl | exact absurd rfl h
 have e2:(op == CmpOp.NotIn)=false:=by cases op <;> first | rfl | exact absurd rfl h2
 cases b <;> simp [behindInMarks,e1,e2]
theorem vd5 {op:CmpOp} {r:R2} (ho:OpR X (compareOp op) r) (ha:PE X a ta) (hb:PE X b tb) (hm:behindInMarks op b=false):PE X (.Compare a [op] [b] pos) (tOp r ta tb):=by
 intro pins s σ H Q I h;exact wpAny_Compare1 (binT ha hb I h fun v u s2 x y H2 I2 rx ry q=>ho pins s2 σ H2 x y v u Q I2 rx ry q) hm
def vy8 (t:TE):TT:=fun σ H Q=>t σ H fun x H'=>∃ k,x=.bl k /\ Q k H'
theorem vc6 {op:CmpOp} {r:R2} (ho:OpR X (compareOp op) r) (ha:PE X a ta) (hb:PE X b tb) (hm:behindInMarks op b=false):PT X (.Compare a [op] [b] pos) (vy8 (tOp r ta tb)):=by
 intro pins s σ H Q I h;refine wpAny_isTrue_Compare1 (thn (ha pins s σ H _ I h) fun v s1 ⟨x,H1,I1,r1,q1⟩=>thn (hb pins s1 σ H1 _ I1 q1) fun u s2 ⟨y,H2,I2,r2,q2⟩ =>
  thn (ho pins s2 σ H2 x y v u _ I2 r1 r2 q2) fun c s3 ⟨z,H3,I3,r3,k,e,q3⟩=>?_) hm
 subst e;cases r3;exact wpAny_truthy_bool ⟨H3,I3,q3⟩
theorem line63:(sizeLine:Nat) < 2 ^ 63:=by rw [sizeLine_eq];decide
theorem op_add_str:OpR X (binaryOp .Add) (fun x y H Q=>∃ i j,x=.str i /\ y=.str j /\ i.length+j.length<=sizeLine /\ Q (.str (i++j)) H):=by
 intro pins s σ H x y v u Q I rx ry h;obtain ⟨i,j,rfl,rfl,hz,q⟩:=h;obtain ⟨t,rfl⟩:=rx;obtain ⟨t',rfl⟩:=ry;exact add_str (fun t' tk=>⟨.str (i++j),H,I.tok _,⟨_,rfl⟩,q⟩) hz
theorem vals1 {x:V} {us:List Value} (r:Vals [x] us):∃ u,us=[u] /\ RelV x u:=by
 cases r with
 | cons r1 r2=>cases r2;exact ⟨_,rfl,r1⟩
theorem vals2 {x y:V} {us:List Value} (r:Vals [x,y] us):∃ u w',us=[u,w'] /\ RelV x u /\ RelV y w':=by
 cases r with
 | cons r1 r2 =>
  cases r2 with
  | cons r3 r4=>cases r4;exact ⟨_,_,rfl,r1,r3⟩
theorem v45:CallR X (.builtin "abs") (fun xs H Q=>∃ i,xs=[.int i] /\ Q (.int (if i < 0 then -i else i)) H):=by
 intro pins s σ H xs us Q I r h;obtain ⟨i,rfl,q⟩:=h;obtain ⟨u,rfl,t,rfl⟩:=vals1 r;exact call_abs_int fun u tk=>⟨.int (if i < 0 then -i else i),H,I.tok _,⟨_,rfl⟩,q⟩
theorem ux5 (hc:X.calm=true):CallR X (.builtin "max") (fun xs H Q=>∃ i j,xs=[.int i,.int j] /\ Q (.int (if j > i then j else i)) H):=by
 intro pins s σ H xs us Q I r h;obtain ⟨i,j,rfl,q⟩:=h;obtain ⟨u,w',rfl,⟨t,rfl⟩,⟨t',rfl⟩⟩:=vals2 r;refine max_two_ints (I.ok.hd hc) fun h' tk k=>⟨_,H,I.kept k,?_,q⟩
 by_cases hj:j > i
 ·rw [if_pos hj,if_pos hj];exact ⟨_,rfl⟩
 ·rw [if_neg hj,if_neg hj];exact ⟨_,rfl⟩
theorem ux3 (hc:X.calm=true):CallR X (.builtin "min") (fun xs H Q=>∃ i j,xs=[.int i,.int j] /\ Q (.int (if j < i then j else i)) H):=by
 intro pins s σ H xs us Q I r h;obtain ⟨i,j,rfl,q⟩:=h;obtain ⟨u,w',rfl,⟨t,rfl⟩,⟨t',rfl⟩⟩:=vals2 r;refine min_two_ints (I.ok.hd hc) fun h' tk k=>⟨_,H,I.kept k,?_,q⟩
 by_cases hj:j < i
 ·rw [if_pos hj,if_pos hj];exact ⟨_,rfl⟩
 ·rw [if_neg hj,if_neg hj];exact ⟨_,rfl⟩
theorem ux6:CallR X (.type "int") (fun xs H Q=>(∃ i,xs=[.int i] /\ Q (.int i) H) \/ ∃ k,xs=[.bl k] /\ Q (.int (if k then 1 else 0)) H):=by
 intro pins s σ H xs us Q I r h
 rcases h with ⟨i,rfl,q⟩ | ⟨k,rfl,q⟩
 ·obtain ⟨u,rfl,t,rfl⟩:=vals1 r
  exact call_int_int ⟨.int i,H,I,⟨_,rfl⟩,q⟩
 ·obtain ⟨u,rfl,r1⟩:=vals1 r
  cases r1;exact call_int_bool ⟨.int (if k then 1 else 0),H,I.tok _,⟨_,rfl⟩,q⟩
theorem uk4:CallR X (.builtin "divmod") (fun xs H Q=>∃ i j,xs=[.int i,.int j] /\ CDiv i j /\ ∀ p,H p=none->Q (.ref p) (upd H p (.tup [.int (i / j),.int (i % j)]))):=by
 intro pins s σ H xs us Q I r h;obtain ⟨i,j,rfl,⟨h1,h2⟩,q⟩:=h;obtain ⟨u,w',rfl,⟨t,rfl⟩,⟨t',rfl⟩⟩:=vals2 r;refine divmod_int (by omega) ?_ (.inl (PyProof.noPylong_small (by omega)));rw [Int.fdiv_eq_ediv_of_nonneg i (by omega),Int.fmod_eq_emod_of_nonneg i (by omega)];have hn:H s.heap.objs.size=none:=I.hok.fresh (Nat.le_refl _);refine ⟨.ref s.heap.objs.size,_,?_,rfl,q _ hn⟩;refine I.laid (fun b o e=>Heap.get?_push_of_some _ e) (Nat.le_refl _) ⟨by simp only [List.length_cons,List.length_nil];rw [sizeLine_eq];decide,[.int (i / j) s.toks,.int (i % j) (s.toks+1)],.cons ⟨_,rfl⟩ (.cons ⟨_,rfl⟩ .nil),?_⟩;exact ⟨_,Heap.get?_push_size s.heap rfl,rfl,⟨0,rfl⟩,rfl⟩
end
structure ObjM (h:Heap) (x dx C:Addr) (mA:Str->Option Value):Prop where
 obj:h.get? x=some (W.instObj C dx)
 ns:h.Ns1 dx mA
 ne:dx ≠ x
theorem uv1 {h:Heap} {dx:Addr} {mA:Str->Option Value} (n:h.Ns1 dx mA):∃ od,h.get? dx=some od /\ ∀ name,W.lookIn name od=some (mA name):=by
 obtain ⟨o,es,ep,ho,hd,hk,_,hm⟩:=n;refine ⟨o,ho,fun name=>?_⟩;have e:=hm name;unfold nsFind findBy at e;rw [<- Array.find?_toList] at e;unfold W.lookIn;rw [hd];dsimp only;split
 ·rename_i y q
  rw [q] at e;exact congrArg some e
 ·rename_i q
  rw [q] at e;have a:es.toList.any (·.refKey)=false:=by
   rw [List.any_eq_false];intro y hy;obtain ⟨z,t,hkey⟩:=hk y (Array.mem_toList_iff.mp hy);simp [DictEntry.refKey,hkey]
  have a':¬ es.toList.any (·.refKey)=true:=by rw [a];exact Bool.false_ne_true
  rw [if_neg a'];exact congrArg some e
theorem ObjM.look {h:Heap} {x dx C:Addr} {mA:Str->Option Value} (I:ObjM h x dx C mA):∃ od,W.InstAt h x (W.instObj C dx) C (some od) /\ ∀ name,W.lookIn name od=some (mA name) :=
 let ⟨od,ho,hl⟩:=uv1 I.ns
 ⟨od,⟨I.obj,rfl,rfl,ho⟩,hl⟩
section
variable {P:Program} {w:World} {H H':Hp} {h h':Heap} {a C dx:Addr} {fs fs':List (Str × V)}
theorem vg5 (hok:HOk P w H h) (e:H a=some (.ins C dx fs)):∃ mA,ObjM h a dx C mA /\ (∀ f,RelO (fs.lookup f) (mA f)) /\ PySem.Within mA (fs.map (·.1)) /\ fs.length<=1000 /\ H dx=some (.own a):=by
 obtain ⟨d,z,ne,ob,mA,n,r,q⟩:=(show ObjOk P w H h a (.ins C dx fs) from hok a _ e);exact ⟨mA,⟨ob,n,ne⟩,r,q,z,d⟩
end
structure Cls (K:W.Frag) (C:Addr):Prop where
 pg:W.plainGet K C Str.empty=true
 hd:W.hasDictIn K C=true
 po:W.plainOver K C=true
 sa:W.findIn K (.ref C) "__setattr__" = some (some (.builtin "object.__setattr__"))
theorem Cls.get {K:W.Frag} {C:Addr} (c:Cls K C) (f:Str):W.plainGet K C f=true:=c.pg
def uo2 (K:W.Frag) (C:Addr) (f:Str):Prop:=W.findIn K (.ref C) f=some none
structure Con (K:W.Frag) (C:Addr) (f:Str) (v:V) (u:Value):Prop where
 at_:W.findIn K (.ref C) f=some (some u)
 rel:RelV v u
 get:W.specialIn K u "__get__" = some none
 cp:W.copiedNames.contains f=false
structure Meth (K:W.Frag) (C:Addr) (m:Str) (f:Addr):Prop where
 at_:W.findIn K (.ref C) m=some (some (.ref f))
 fn:W.isFn K (.ref f)=true
 kp:W.keepIn K (.ref f)=true
section
variable {X:Cx} {pins:List (Addr × Obj)} {σ:St} {H:Hp} {s:Shared} {A:Around} {E:Value->Shared->Prop} {Q:Value->Shared->Prop} {c:Value} {b:Bool}
inductive TyOf (K:W.Frag) (H:Hp):V->Value->Prop where
 | non:TyOf K H .non (.type "NoneType")
 | bl (x:Bool):TyOf K H (.bl x) (.type "bool")
 | int (i:Int):TyOf K H (.int i) (.type "int")
 | str (x:Str):TyOf K H (.str x) (.type "str")
 | flt (x:UInt64):TyOf K H (.flt x) (.type "float")
 | lst {a:Addr} {xs:List V} (e:H a=some (.lst xs)):TyOf K H (.ref a) (.type "list")
 | frz {a:Addr} {o:Obj} {xs:List V} (e:H a=some (.frz o (.lst xs))):TyOf K H (.ref a) (.type "list")
 | tup {a:Addr} {xs:List V} (e:H a=some (.tup xs)):TyOf K H (.ref a) (.type "tuple")
 | dK {a:Addr} {kvs:List (Key × V)} (e:H a=some (.dK kvs)):TyOf K H (.ref a) (.type "dict")
 | dT {a:Addr} {kvs:List (List Key × V)} (e:H a=some (.dT kvs)):TyOf K H (.ref a) (.type "dict")
 | ins {a C dx:Addr} {fs:List (Str × V)} (e:H a=some (.ins C dx fs)) (cl:Cls K C) (ha:W.findIn K (.ref C) "__class__" = some (some (.builtin "object.__class__")))
   (hn:W.specialIn K (.builtin "object.__class__") "__get__" = some (some (.builtin "getset_descriptor.__get__"))) (htk:W.takesIn K (.builtin "object.__class__")=some true)
   (hm:W.mroIn K C (.type "object")=some true):TyOf K H (.ref a) (.ref C)
theorem u40 {x:V} {u t:Value} (I:Inv X pins σ H s) (rx:RelV x u) (ty:TyOf X.K H x t) (e:W.kitOne X.K t c=some b) (h:∀ tk,Q (.bool b) { s with toks:=tk }) :
  wpAny (model X.prog X.w) A (call (.builtin "isinstance") [u,c]) Q E s:=by
 cases ty with
 | non=>cases (show u=Value.none from rx);exact W.kia_one W.kitx_none I.kIn True.intro e (fun z=>nomatch z) h
 | bl y=>cases (show u=Value.bool y from rx);exact W.kia_one W.kitx_bool I.kIn True.intro e (fun z=>nomatch z) h
 | int i=>obtain ⟨t,q⟩:=(show ∃ t,u=Value.int i t from rx);cases q;exact W.kia_one W.kitx_int I.kIn True.intro e (fun z=>nomatch z) h
 | str y=>obtain ⟨t,q⟩:=(show ∃ t,u=Value.str y t from rx);cases q;exact W.kia_one W.kitx_str I.kIn True.intro e (fun z=>nomatch z) h
 | flt y=>obtain ⟨t,q⟩:=(show ∃ t,u=Value.float y t from rx);cases q;exact W.kia_one W.kitx_float I.kIn True.intro e (fun z=>nomatch z) h
 | @lst a xs ea =>
  cases (show u=Value.ref a from rx);obtain ⟨_,_,n,_,h1⟩:=(show ObjOk X.prog X.w H s.heap a (.lst xs) from I.hok a _ ea);exact W.kia_one W.kitx_list I.kIn ⟨_,h1,rfl⟩ e (fun z=>nomatch z) h
 | @frz a ob xs ea =>
  cases (show u=Value.ref a from rx);obtain ⟨_,_,_,n,_,h1⟩:=(show ObjOk X.prog X.w H s.heap a (.frz ob (.lst xs)) from I.hok a _ ea);exact W.kia_one W.kitx_list I.kIn ⟨_,h1,rfl⟩ e (fun z=>nomatch z) h
 | @tup a xs ea =>
  cases (show u=Value.ref a from rx);obtain ⟨_,_,_,p⟩:=(show ObjOk X.prog X.w H s.heap a (.tup xs) from I.hok a _ ea);obtain ⟨o,h1,h2,_⟩:=p;exact W.kia_one W.kitx_tuple I.kIn ⟨o,h1,h2⟩ e (fun z=>nomatch z) h
 | @dK a kvs ea =>
  cases (show u=Value.ref a from rx);obtain ⟨_,_,vs,_,p⟩:=(show ObjOk X.prog X.w H s.heap a (.dK kvs) from I.hok a _ ea);obtain ⟨o,es,ep,h1,h2,_⟩:=p;exact W.kia_one W.kitx_dict I.kIn ⟨o,h1,h2.1⟩ e (fun z=>nomatch z) h
 | @dT a kvs ea =>
  cases (show u=Value.ref a from rx);obtain ⟨_,_,xs,_,o,es,ep,h1,h2,_⟩:=(show ObjOk X.prog X.w H s.heap a (.dT kvs) from I.hok a _ ea);exact W.kia_one W.kitx_dict I.kIn ⟨o,h1,h2.1⟩ e (fun z=>nomatch z) h
 | @ins a C dx fs ea cl ha hn htk hm =>
  cases (show u=Value.ref a from rx);obtain ⟨mA,O,_⟩:=vg5 I.hok ea;obtain ⟨od,J,_⟩:=O.look;exact W.kia_one (W.kitx_own (cl.get _) cl.hd ha hn htk hm) I.kIn J e (fun z=>nomatch z) h
end
structure Room (k:Nat) (A:Around):Prop where
 hd:A.handled=none
 dp:A.depth+3 * k+5 < recursionLimit
 un:A.units+16 * k+200 < cLine
theorem Room.mono {j k:Nat} {A:Around} (r:Room k A) (h:j<=k):Room j A:=⟨r.hd,by have:=r.dp;omega,by have:=r.un;omega⟩
theorem Room.deeper {k:Nat} {A:Around} (r:Room (k+1) A) (env:Env):Room k (A.deeper env) :=
 ⟨r.hd,by have:=r.dp;show A.depth+1+3 * k+5 < _;omega,by have:=r.un;show A.units+3+16 * k+200 < _;omega⟩
theorem Room.in1 {k:Nat} {A:Around} (r:Room (k+1) A):Room k A.in1 :=
 ⟨r.hd,by have:=r.dp;show A.depth+3 * k+5 < _;omega,by have:=r.un;show A.units+1+16 * k+200 < _;omega⟩
theorem up2 {A:Around} {C:Addr} {us:List Value} {kw:List (Str × Value)}:(A.under (.builtin "type.__call__" ⟨.ref C::us,kw⟩)).depth=A.depth+1:=by
 first | rfl | simp [Around.under,Code.weight,Code.isCreation,Code.isGuard,Code.isCaller,Code.frames,Code.isFrame,guardIds]
theorem up0 {A:Around} {C:Addr} {us:List Value} {kw:List (Str × Value)}:(A.under (.builtin "type.__call__" ⟨.ref C::us,kw⟩)).units=A.units+1:=by
 first | rfl | simp [Around.under,Code.cUnits,Code.frames,Code.isFrame]
theorem Room.make {k:Nat} {A:Around} (r:Room (k+1) A) (C:Addr) (us:List Value) (kw:List (Str × Value)):Room k (A.under (.builtin "type.__call__" ⟨.ref C::us,kw⟩)) :=
 ⟨r.hd,by have:=r.dp;rw [up2];omega,by have:=r.un;rw [up0];omega⟩
theorem Room.depth {k:Nat} {A:Around} (r:Room k A):A.depth < recursionLimit:=by have:=r.dp;omega
theorem Room.units {k:Nat} {A:Around} (r:Room k A):A.units+64 < cLine:=by have:=r.un;omega
def tNil:TA:=fun _ H Q=>Q [] H
def va0 (ta:TE) (tr:TA):TA:=fun σ H Q=>ta σ H fun x H1=>tr σ H1 fun xs H2=>Q (x::xs) H2
section
variable {X:Cx} {e:Expr} {es:List Expr} {te:TE} {t:TA} {pos:Pos}
theorem v70:PA X [] tNil:=fun _ _ _ _ H Q I h=>Calls.spliced_nil ⟨[],H,I,.nil,h⟩
theorem ut9 (ha:PE X e te) (hr:PA X es t) (hs:starEach (e::es) X.env=(false,eval e X.env)::starEach es X.env:=by rfl):PA X (e::es) (va0 te t):=by
 intro pos pins s σ H Q I h;rw [hs]
 show wpAny _ _ (spliced ((false,eval e X.env)::backTo pos (starEach es X.env))) _ _ s
 (refine Calls.spliced_cons (thn (ha pins s σ H _ I h) ?_);rintro u s1 ⟨x,H1,I1,r1,q1⟩)
 (refine thn (hr pos pins s1 σ H1 _ I1 q1) ?_;rintro us s2 ⟨xs,H2,I2,r2,q2⟩;exact ⟨x::xs,H2,I2,.cons r1 r2,q2⟩)
def tTup (t:TA):TE:=fun σ H Q=>t σ H fun xs H1=>xs.length<=sizeLine /\ ∀ p,H1 p=none->Q (.ref p) (upd H1 p (.tup xs))
def tLst (t:TA):TE:=fun σ H Q=>t σ H fun xs H1=>xs.length<=sizeLine /\ ∀ p,H1 p=none->Q (.ref p) (upd H1 p (.lst xs))
theorem vo0 {x1} (h:PA X es t):PE X (.Tuple es x1 pos) (tTup t):=by
 intro pins s σ H Q I hq;refine wpAny_Tuple_spliced (thn (h pos pins s σ H _ I hq) fun us s1 ⟨xs,H1,I1,r,z,q⟩=>⟨by rw [<- r.length];exact z,?_⟩);have hf:H1 s1.heap.objs.size=none:=I1.hok.fresh (Nat.le_refl _);refine ⟨.ref s1.heap.objs.size,upd H1 s1.heap.objs.size (.tup xs),I1.laid (t':=s1.toks) (fun b u e=>Heap.get?_push_of_some _ e) (Nat.le_refl _) ?_,rfl,q _ hf⟩;exact ⟨z,us,r,⟨_,Heap.get?_push_size _ rfl,rfl,⟨_,rfl⟩,rfl⟩⟩
theorem vo5 (h:PA X es t):PE X (.List es pos) (tLst t):=by
 intro pins s σ H Q I hq;refine wpAny_List_spliced (thn (h pos pins s σ H _ I hq) fun us s1 ⟨xs,H1,I1,r,z,q⟩=>⟨by rw [<- r.length];exact z,?_⟩);have hf:H1 s1.heap.objs.size=none:=I1.hok.fresh (Nat.le_refl _);refine ⟨.ref s1.heap.objs.size,upd H1 s1.heap.objs.size (.lst xs),I1.laid (t':=s1.toks) (fun b u e=>Heap.get?_push_of_some _ e) (Nat.le_refl _) ?_,rfl,q _ hf⟩;exact ⟨z,us,0,r,Heap.get?_push_size _ rfl⟩
end
abbrev Sp:=List V->Hp->VK->XK->Prop
abbrev CXT:=List Env->Hp->Shared->XK->Value->Shared->Prop
structure Env0 (P:Program) (w:World) (K:W.Frag) (mg:Str->Option Value) (base:Heap) (A:Around) (outer:List Env) (s:Shared) (H:Hp):Prop where
 frames:A.frames=some outer
 mod:Mod K mg base
 bs:∀ b o,base.get? b=some o->s.heap.get? b=some o /\ H b=none
 bsz:base.objs.size<=s.heap.objs.size
 funs:s.heap.FunFrames base outer
 frf:∀ b ∈ frs outer,H b=none
 hok:HOk P w H s.heap
 bare:AllBare s.gens
def CE (outer:List Env) (P:Program) (w:World) (H:Hp) (s:Shared) (Q:VK) (u:Value) (s':Shared):Prop :=
 ∃ v H',s'.os=s.os /\ AllBare s'.gens /\ Un (frs outer) [] H H' s.heap s'.heap /\ HOk P w H' s'.heap /\ RelV v u /\ Q v H'
def CR (CX:CXT) (outer:List Env) (P:Program) (w:World) (H:Hp) (s:Shared) (Q:VK) (E:XK) (r:Result) (s':Shared):Prop :=
 match r with
 | .ok (.ret u)=>CE outer P w H s Q u s'
 | .ok _=>False
 | .error e=>CX outer H s E e s'
structure FnOk (P:Program) (w:World) (K:W.Frag) (mg:Str->Option Value) (base:Heap) (CX:CXT) (k:Nat) (f:Addr) (fd:FuncData) (ps:List Str) (sp:Sp):Prop where
 len:∀ vs H Q E,sp vs H Q E->vs.length=ps.length
 run:∀ (A:Around) (outer:List Env) (s:Shared) (H:Hp) (args:Args) (us:List Value) (vs:List V) (Q:VK) (E:XK),Room k A->Env0 P w K mg base A outer s H->BindsTo s fd args (ps.zip us)->Vals vs us->sp vs H Q E ->
  codeAny (model P w) A (.call (.ref f) args) (CR CX outer P w H s Q E) s
theorem FnOk.mono {P:Program} {w:World} {K:W.Frag} {mg:Str->Option Value} {base:Heap} {CX:CXT} {j k:Nat} {f:Addr} {fd:FuncData} {ps:List Str} {sp:Sp} (F:FnOk P w K mg base CX j f fd ps sp) (h:j<=k) :
  FnOk P w K mg base CX k f fd ps sp:=⟨F.len,fun A outer s H args us vs Q E hr=>F.run A outer s H args us vs Q E (hr.mono h)⟩
theorem FnOk.imp {P:Program} {w:World} {K:W.Frag} {mg:Str->Option Value} {base:Heap} {CX:CXT} {k:Nat} {f:Addr} {fd:FuncData} {ps:List Str} {sp sp':Sp} (F:FnOk P w K mg base CX k f fd ps sp)
  (h:∀ vs H Q E,sp' vs H Q E->sp vs H Q E):FnOk P w K mg base CX k f fd ps sp' :=
 ⟨fun vs H Q E q=>F.len vs H Q E (h _ _ _ _ q),fun A outer s H args us vs Q E hr he hb hv hs=>F.run A outer s H args us vs Q E hr he hb hv (h _ _ _ _ hs)⟩
theorem Env0.make {P:Program} {w:World} {K:W.Frag} {mg:Str->Option Value} {base:Heap} {A:Around} {outer:List Env} {s:Shared} {H:Hp} (e:Env0 P w K mg base A outer s H) (C:Addr) (us:List Value) (kw:List (Str × Value)) :
  Env0 P w K mg base (A.under (.builtin "type.__call__" ⟨.ref C::us,kw⟩)) outer s H:=⟨by first | exact e.frames | (simpa [Around.under,Code.envs,Code.isFrame,pushEnvs] using e.frames),e.mod,e.bs,e.bsz,e.funs,e.frf,e.hok,e.bare⟩
theorem Env0.in1 {P:Program} {w:World} {K:W.Frag} {mg:Str->Option Value} {base:Heap} {A:Around} {outer:List Env} {s:Shared} {H:Hp} (e:Env0 P w K mg base A outer s H) :
  Env0 P w K mg base A.in1 outer s H:=⟨e.frames,e.mod,e.bs,e.bsz,e.funs,e.frf,e.hok,e.bare⟩
section
variable {X:Cx} {pins:List (Addr × Obj)} {σ:St} {H:Hp} {s s':Shared}
theorem Inv.env0 (I:Inv X pins σ H s):Env0 X.prog X.w X.K X.mg X.base X.A X.stack s H :=
 ⟨I.ok.frames,I.ok.mod,I.bs,Nat.le_trans I.ok.bsz I.sz,I.stack,I.stkFree,I.hok,I.bare⟩
theorem Inv.after {Q:VK} {u:Value} (I:Inv X pins σ H s) (h:CE X.stack X.prog X.w H s Q u s'):EP X pins σ Q u s':=by
 obtain ⟨v,H',os,bare,un,hok,r,q⟩:=h;obtain ⟨hh,g,d,t,os'⟩:=s';obtain rfl:os'=s.os:=os;exact ⟨v,H',I.call (h':=hh) (g':=g) (d':=d) (t':=t) (ch:=[]) un hok bare (fun b z=>absurd z (by simp)),r,q⟩
end
def va1 (sp:Sp) (dvs:List V) (E:XK) (t:TA):TE:=fun σ H Q=>t σ H fun vs H1=>sp (vs++dvs) H1 Q E
def vy9 (C:Addr) (m:Str) (sp:Sp) (dvs:List V) (E:XK) (ta:TE) (t:TA):TE:=fun σ H Q=>ta σ H fun x H1=>∃ a dx fs,x=.ref a /\ H1 a=some (.ins C dx fs) /\ fs.lookup m=none /\
 t σ H1 fun vs H2=>sp (x::(vs++dvs)) H2 Q E
def Binds (K:W.Frag) (fd:FuncData) (ps:List Str) (ds:List Value):Prop :=
 ∀ (s:Shared) (us:List Value),K.In s.heap->(us++ds).length=ps.length->BindsTo s fd ⟨us,[]⟩ (ps.zip (us++ds))
theorem Binds.all {K:W.Frag} {fd:FuncData} {ps:List Str} (h:∀ us:List Value,us.length=ps.length->bindArgs fd ⟨us,[]⟩=pure (ps.zip us)):Binds K fd ps []:=fun s us _ hl=>by
 rw [List.append_nil] at hl ⊢;exact .of_eq (h us hl)
def Passes (CX:CXT) (X:Cx) (E:XK):Prop:=∀ (pins:List (Addr × Obj)) (σ:St) (H:Hp) (s:Shared) (e:Value) (s':Shared),Inv X pins σ H s->CX X.stack H s E e s'->X.xe e s'
section
variable {X:Cx} {CX:CXT} {k:Nat} {f C:Addr} {fd:FuncData} {ps:List Str} {sp:Sp} {dvs:List V} {ds:List Value} {E:XK} {x m:Str} {p pos apos:Pos} {e o:Expr} {es:List Expr} {ta:TE} {t:TA}
theorem vm6 {pins:List (Addr × Obj)} {σ:St} {H:Hp} {s:Shared} {Q:VK} {us:List Value} {vs:List V} (F:FnOk X.prog X.w X.K X.mg X.base CX k f fd ps sp) (hr:Room k X.A) (hb:Binds X.K fd ps ds) (hd:Vals dvs ds) (hx:Passes CX X E)
  (I:Inv X pins σ H s) (r:Vals vs us) (h:sp (vs++dvs) H Q E):wpAny (model X.prog X.w) X.A (call (.ref f) us) (EP X pins σ Q) X.xe s:=by
 have r2:Vals (vs++dvs) (us++ds):=r.append hd;have hl:(us++ds).length=ps.length:=by rw [<- r2.length];exact F.len _ _ _ _ h
 refine wpAny_call (codeAny_mono (F.run X.A X.stack s H ⟨us,[]⟩ (us++ds) (vs++dvs) Q E hr I.env0 (hb s us I.kIn hl) r2 h) fun r s' hq=>?_);cases r with
 | error e=>exact hx pins σ H s e s' I hq
 | ok fl =>
  cases fl with
  | ret u=>exact I.after hq
  | next=>exact False.elim hq
  | brk=>exact False.elim hq
  | cont=>exact False.elim hq
theorem uj4 (F:FnOk X.prog X.w X.K X.mg X.base CX k f fd ps sp) (hr:Room k X.A) (hg:Gl X x) (hm:X.mg x=some (.ref f)) (hk:W.keepIn X.K (.ref f)=true) (hb:Binds X.K fd ps ds) (hd:Vals dvs ds) (hx:Passes CX X E)
  (ha:PA X (e::es) t) (hdb:(x == ("__debug__" : Str))=false:=by decide) (he:starEach (e::es) X.env=(false,eval e X.env)::starEach es X.env:=by rfl) (hpl:(backTo pos (starEach es X.env)).any (·.1)=false:=by rfl) :
  PE X (.Call (.Name x p) (e::es) [] pos) (va1 sp dvs E t):=by
 intro pins s σ H Q I h;refine wpAny_Call_Name_kw (ub4 I hg hm ?_ hdb)
 (refine W.callWith_K (h₀:=X.base) I.ok.mod.kin hk (thn (ha pos pins s σ H _ I h) ?_) he hpl;rintro us s1 ⟨vs,H1,I1,r,q⟩;refine ⟨I1.kIn,?_⟩)
 exact vm6 F hr hb hd hx I1 r q
end
structure FnScope (N P:List Str) (sc:Scope):Prop where
 kind:sc.kind=.function
 co:sc.isCoroutine=false
 gen:sc.isGenerator=false
 nd:N.Nodup
 pre:N.take P.length=P
 par:∀ x ∈ P,sc.names.lookup x=some .local \/ sc.names.lookup x=some .cell
 nofree:∀ y ∈ sc.names,y.2 ≠ .free
theorem ui3 {kindOf:Str->Option NameKind} {x:Str}:∀ {binds:List (Str × Value)} {m:Str->Option Value},(∀ v,(x,v) ∉ binds)->bindL kindOf binds m x=m x
 | [],_,_=>rfl
 | (n,v)::r,m,h=>by
  unfold bindL;rw [ui3 fun w hw=>h w (List.mem_cons_of_mem _ hw)];split
  ·have:x ≠ n:=by rintro rfl;exact h v List.mem_cons_self
   simp [this]
  ·rfl
theorem ui5 {kindOf:Str->Option NameKind} {x:Str}:∀ {binds:List (Str × Value)} {m:Str->Option Value},(∀ v,(x,v) ∉ binds)->bindC kindOf binds m x=m x
 | [],_,_=>rfl
 | (n,v)::r,m,h=>by
  unfold bindC;rw [ui5 fun w hw=>h w (List.mem_cons_of_mem _ hw)];split
  ·rfl
  ·have:x ≠ n:=by rintro rfl;exact h v List.mem_cons_self
   simp [this]
theorem ui4 {kindOf:Str->Option NameKind} {x:Str} {v:Value}:∀ {P:List Str} {vs:List Value} {i:Nat} {m:Str->Option Value},P.Nodup->P[i]?=some x->vs[i]?=some v->kindOf x=some .local ->
  bindL kindOf (P.zip vs) m x=some v
 | [],_,_,_,_,h,_,_=>by simp at h
 | _::_,[],_,_,_,_,h,_=>by simp at h
 | p::P,w::vs,0,m,nd,h1,h2,hk=>by
  simp at h1 h2;subst h1;subst h2
  show bindL kindOf ((p,w)::P.zip vs) m p=_
  unfold bindL;rw [ui3 fun v hv=>(List.nodup_cons.mp nd).1 (List.of_mem_zip hv).1,if_pos hk];simp
 | p::P,w::vs,i+1,m,nd,h1,h2,hk=>by
  show bindL kindOf ((p,w)::P.zip vs) m x=_
  unfold bindL;exact ui4 (i:=i) (List.nodup_cons.mp nd).2 (by simpa using h1) (by simpa using h2) hk
theorem ui6 {kindOf:Str->Option NameKind} {x:Str} {v:Value}:∀ {P:List Str} {vs:List Value} {i:Nat} {m:Str->Option Value},P.Nodup->P[i]?=some x->vs[i]?=some v->kindOf x ≠ some .local ->
  bindC kindOf (P.zip vs) m x=some v
 | [],_,_,_,_,h,_,_=>by simp at h
 | _::_,[],_,_,_,_,h,_=>by simp at h
 | p::P,w::vs,0,m,nd,h1,h2,hk=>by
  simp at h1 h2;subst h1;subst h2
  show bindC kindOf ((p,w)::P.zip vs) m p=_
  unfold bindC;rw [ui5 fun v hv=>(List.nodup_cons.mp nd).1 (List.of_mem_zip hv).1,if_neg hk];simp
 | p::P,w::vs,i+1,m,nd,h1,h2,hk=>by
  show bindC kindOf ((p,w)::P.zip vs) m x=_
  unfold bindC;exact ui6 (i:=i) (List.nodup_cons.mp nd).2 (by simpa using h1) (by simpa using h2) hk
def start (N:List Str) (vs:List V):St:=vs.map some++List.replicate (N.length - vs.length) none
def cxOf (CX:CXT) (P:Program) (w:World) (K:W.Frag) (mg:Str->Option Value) (base:Heap) (N:List Str) (qual:Str) (scope:Scope) (f:Addr) (cd:Value) (A:Around) (outer:List Env) (s:Shared) (H:Hp) (E:XK):Cx where
 prog:=P
 w:=w
 K:=K
 mg:=mg
 base:=base
 A:=A.deeper (envOfC qual scope s.heap.objs.size f cd)
 N:=N
 s₀:=s
 H₀:=H
 env:=envOfC qual scope s.heap.objs.size f cd
 outer:=outer
 stack:=envOfC qual scope s.heap.objs.size f cd::outer
 ex:=[]
 calm:=true
 fn:=fun _=>true
 pn:=[]
 xe:=fun e s'=>wpAny (model P w) (A.deeper (envOfC qual scope s.heap.objs.size f cd)) (leaving (envOfC qual scope s.heap.objs.size f cd) e) (fun _ s''=>CX outer H s E e s'') (fun e' s''=>CX outer H s E e' s'') s'
theorem uo0 {sc:Scope} {n:Nat} {x:Str} (h:sc.names.lookup x=some .cell):∃ c,(cellsFrom n sc.names []).lookup x=some c:=by
 have q:=W.cellsFrom_some sc.names n [] (.inl h);exact Option.isSome_iff_exists.mp q
theorem uv5 {CX:CXT} {P:Program} {w:World} {K:W.Frag} {mg:Str->Option Value} {base:Heap} {N ps:List Str} {qual:Str} {scope:Scope} {f:Addr} {cd:Value} {A:Around} {outer:List Env} {s s1:Shared} {H:Hp} {E:XK} {us:List Value} {vs:List V}
  (S:FnScope N ps scope) (hd:A.handled=none) (e0:Env0 P w K mg base A outer s H) (hl:vs.length=ps.length) (r:Vals vs us)
  (x:InCallC s s.heap.objs.size (bindL (envOfC qual scope s.heap.objs.size f cd).kindOf (ps.zip us) fun _=>none) (cellsFrom (s.heap.objs.size+1) scope.names []) (bindC (envOfC qual scope s.heap.objs.size f cd).kindOf (ps.zip us) fun _=>none) s1) :
  Inv (cxOf CX P w K mg base N qual scope f cd A outer s H E) [] (start N vs) H s1:=by
 have hpl:ps.length<=N.length:=by have:=congrArg List.length S.pre;rw [List.length_take] at this;omega
 obtain ⟨h1,tk,rfl,hk⟩:=x.done;have noA:∀ b:Addr,b ∉ (cxOf CX P w K mg base N qual scope f cd A outer s H E).ex:=fun b z=>absurd (show b ∈ ([]:List Addr) from z) (by simp)
 refine ⟨⟨e0.mod,S.kind,rfl,rfl,Nat.le_refl _,fun y z c h1 h2=>?_,fun y hy=>?_,fun y c _ h=>?_,fun _=>hd,Around.frames_deeper e0.frames,.inr ⟨rfl,rfl⟩,fun b z=>absurd z (noA b),e0.bs,e0.bsz,fun b _ _=>noA b,fun b z=>absurd z (noA b),e0.funs,e0.frf⟩,
  rfl,e0.bare,Un.kept hk,⟨_,x.toInCall.ns,fun i y v h1 h2 h3=>?_⟩,fun y c h=>⟨_,x.cell y c h⟩,e0.hok.fresh (Nat.le_refl _),fun y c h=>?_,fun p hp=>absurd (show p ∈ ([]:List (Addr × Obj)) from hp) (by simp),e0.hok.kept hk,?_⟩
 ·exact name_of_addr x.apart (PySem.mem_of_lookup h1) (PySem.mem_of_lookup h2)
 ·have hy:scope.names.lookup y=some .cell \/ scope.names.lookup y=some .free:=hy
  rcases hy with hy | hy
  ·exact uo0 hy
  ·exact absurd rfl (S.nofree _ (PySem.mem_of_lookup hy))
 ·exact Nat.le_of_lt (x.above y c (PySem.mem_of_lookup h))
 ·have hi:i < vs.length:=by
   unfold start at h2
   by_cases hi:i < vs.length
   ·exact hi
   ·rw [List.getElem?_append_right (by simpa using hi)] at h2
    rw [List.getElem?_replicate] at h2;split at h2 <;> cases h2
  have ha:vs[i]?=some v:=by
   unfold start at h2;rw [List.getElem?_append_left (by simpa using hi),List.getElem?_map] at h2;cases e:vs[i]? with
   | none=>rw [e] at h2;cases h2
   | some a=>rw [e] at h2;cases h2;rfl
  obtain ⟨u,hu,rv⟩:=r.get ha;have hp:ps[i]?=some y:=by
   rw [<- S.pre,List.getElem?_take_of_lt (by omega)];exact h1
  have ndP:ps.Nodup:=by rw [<- S.pre];exact S.nd.sublist (List.take_sublist _ _)
  refine ⟨u,rv,?_⟩
  rcases S.par y (List.mem_of_getElem? hp) with k | k
  ·exact .inl ⟨k,ui4 ndP hp hu k⟩
  ·obtain ⟨c,e⟩:=uo0 (n:=s.heap.objs.size+1) k
   refine .inr ⟨.inl k,c,e,?_⟩;have q:=x.cell y c e;rw [ui6 ndP hp hu (by show scope.names.lookup y ≠ _;rw [k];decide)] at q;exact q
 ·exact e0.hok.fresh (Nat.le_of_lt (x.above y c (PySem.mem_of_lookup h)))
 ·unfold start
  show _=N.length
  rw [List.length_append,List.length_map,List.length_replicate];omega
theorem vg9 {CX:CXT} {P:Program} {w:World} {K:W.Frag} {mg:Str->Option Value} {base:Heap} {k:Nat} {f:Addr} {name qual:Str} {params:Arguments} {body:List Stmt} {scope:Scope} {dV kV doc pm cdv ct oc:Value} {an od:Option Addr}
  {osl:Array (Option Value)} {N ps:List Str} {sp:Sp} (lk:K.lookup f=some ⟨oc,od,.func (W.fnOf name qual params body scope dV kV doc pm an cdv ct),osl⟩) (hcd:W.codeIn K cdv qual=true) (S:FnScope N ps scope)
  (len:∀ vs H Q E,sp vs H Q E->vs.length=ps.length)
  (hbody:∀ (A:Around) (outer:List Env) (s:Shared) (H:Hp) (vs:List V) (Q:VK) (E:XK),Room k (A.deeper (envOfC qual scope s.heap.objs.size f cdv))->sp vs H Q E ->
   ∃ t,PSs (cxOf CX P w K mg base N qual scope f cdv A outer s H E) body t /\ t { nx:=fun _ H'=>Q .non H',rt:=Q } (start N vs) H) :
  FnOk P w K mg base CX (k+1) f (W.fnOf name qual params body scope dV kV doc pm an cdv ct) ps sp:=by
 refine ⟨len,fun A outer s H args us vs Q E hr e0 hb r hsp=>?_⟩;have hl:=len _ _ _ _ hsp;have KX:K.In s.heap:=e0.mod.kin.keeps fun b o e=>(e0.bs b o e).1
 have lim:s.heap.NoLimit:=e0.mod.nolimit.keeps fun b o e=>(e0.bs b o e).1
 have hkind:∀ y ∈ ps.zip us,scope.names.lookup y.1=some .local \/ (scope.names.lookup y.1=some .cell /\ ((cellsFrom (s.heap.objs.size+1) scope.names []).lookup y.1).isSome=true):=fun ⟨n,v⟩ hy=>by
  rcases S.par n (List.of_mem_zip hy).1 with q | q
  ·exact .inl q
  ·exact .inr ⟨q,W.cellsFrom_some _ _ _ (.inl q)⟩
 refine codeAny_call_function hr.depth (KX _ _ lk) rfl S.co S.gen rfl (W.codeRec_of KX hcd) (hb _ _ _ _ ?_);refine wpAny_newFunctionEnv_cells S.kind hkind fun env he s1 x=>?_
 subst he;refine ⟨lim.keeps x.toInCall.keep,codeAny_func ?_⟩;obtain ⟨t,ht,hq⟩:=hbody A outer s H vs Q E (hr.deeper _) hsp;have I:Inv (cxOf CX P w K mg base N qual scope f cdv A outer s H E) [] (start N vs) H s1:=uv5 S hr.hd e0 hl r x;refine wpAny_mono (ht [] s1 (start N vs) H _ I hq) (fun fl s' hs=>?_) fun e s' hs=>hs
 have fin:∀ {σ':St} {H':Hp} {v:V} {u:Value},Inv (cxOf CX P w K mg base N qual scope f cdv A outer s H E) [] σ' H' s'->RelV v u->Q v H'->CE outer P w H s Q u s' :=
  fun {σ' H' v u} J rv q=>⟨v,H',J.os,J.bare,J.base,J.hok,rv,q⟩
 cases fl with
 | ret u =>
  obtain ⟨v,σ',H',J,rv,q⟩:=hs;exact fin J rv q
 | next =>
  obtain ⟨σ',H',J,q⟩:=hs;exact fin (v:=V.non) (u:=Value.none) J rfl q
 | brk =>
  obtain ⟨_,_,_,q⟩:=hs;exact False.elim q
 | cont =>
  obtain ⟨_,_,_,q⟩:=hs;exact False.elim q
section
variable {X:Cx} {x:Str} {p pos:Pos} {e:Expr} {es:List Expr} {t:TA} {id T:String} {r:List V->Hp->VK->Prop}
def tCB (r:List V->Hp->VK->Prop) (t:TA):TE:=fun σ H Q=>t σ H fun vs H1=>r vs H1 Q
theorem v04 (hc:CallR X (.builtin id) r) (hg:Gl X x) (hm:X.mg x=none) (hv:bootBuiltins x=some (.builtin id)) (ha:PA X (e::es) t) (hn:x ≠ "__name__" := by decide) (hdb:(x == ("__debug__" : Str))=false:=by decide)
  (he:starEach (e::es) X.env=(false,eval e X.env)::starEach es X.env:=by rfl) (hpl:(backTo pos (starEach es X.env)).any (·.1)=false:=by rfl):PE X (.Call (.Name x p) (e::es) [] pos) (tCB r t):=by
 intro pins s σ H Q I h;refine wpAny_Call_Name_kw (um9 I hg hm hv ?_ hn hdb)
 (refine PyProof.Rows.callWith_builtin1 (thn (ha pos pins s σ H _ I h) ?_) he hpl;rintro us s1 ⟨vs,H1,I1,r1,q1⟩;exact hc pins s1 σ H1 vs us Q I1 r1 q1)
theorem ut8 (hc:CallR X (.type T) r) (hg:Gl X x) (hm:X.mg x=none) (hv:bootBuiltins x=some (.type T)) (ha:PA X (e::es) t) (hn:x ≠ "__name__" := by decide) (hdb:(x == ("__debug__" : Str))=false:=by decide)
  (he:starEach (e::es) X.env=(false,eval e X.env)::starEach es X.env:=by rfl) (hpl:(backTo pos (starEach es X.env)).any (·.1)=false:=by rfl):PE X (.Call (.Name x p) (e::es) [] pos) (tCB r t):=by
 intro pins s σ H Q I h;refine wpAny_Call_Name_kw (um9 I hg hm hv ?_ hn hdb)
 (refine PyProof.Rows.callWith_type1 (thn (ha pos pins s σ H _ I h) ?_) he hpl;rintro us s1 ⟨vs,H1,I1,r1,q1⟩;exact hc pins s1 σ H1 vs us Q I1 r1 q1)
end
section
variable {κ:Type} [DecidableEq κ]
def valV (kvs:List (κ × V)) (k:κ):Option V:=(kvs.find? fun kv=>decide (kv.1=k)).map (·.2)
def putK (kvs:List (κ × V)) (k:κ) (v:V):List (κ × V) :=
 if (kvs.any fun kv=>decide (kv.1=k))=true then kvs.map (fun kv=>if kv.1=k then (kv.1,v) else kv) else kvs++[(k,v)]
def vv8 (kvs:List (κ × V)) (k:κ):List (κ × V):=kvs.filter fun kv=>decide (kv.1 ≠ k)
theorem uy9 {p:κ × V} {r:List (κ × V)} {k:κ} (e:p.1=k):valV (p::r) k=some p.2:=by simp [valV,List.find?_cons,e]
theorem uz0 {p:κ × V} {r:List (κ × V)} {k:κ} (e:¬ p.1=k):valV (p::r) k=valV r k:=by simp [valV,List.find?_cons,e]
theorem RelO.getD {o:Option V} {u:Option Value} {d:V} {d':Value} (r:RelO o u) (rd:RelV d d'):RelV (o.getD d) (u.getD d'):=by
 cases o with
 | none=>cases u with
  | none=>exact rd
  | some _=>exact (show False from r).elim
 | some _=>cases u with
  | none=>exact (show False from r).elim
  | some _=>exact r
theorem KV.val {kvs:List (κ × V)} {vs:List (κ × Value)} (r:KV kvs vs) (k:κ):RelO (valV kvs k) (valueAt vs k):=by
 unfold KV at r
 induction r with
 | nil=>exact True.intro
 | @cons p q ps qs h t ih =>
  obtain ⟨h1,h2⟩:=h
  by_cases e:p.1=k
  ·have e':q.1=k:=h1.symm.trans e
   have b:valueAt (q::qs) k=some q.2:=by simp [valueAt,List.find?_cons,e']
   rw [uy9 e,b];exact h2
  ·have e':¬ q.1=k:=fun z=>e (h1.trans z)
   have b:valueAt (q::qs) k=valueAt qs k:=by simp [valueAt,List.find?_cons,e']
   rw [uz0 e,b];exact ih
theorem KV.any {kvs:List (κ × V)} {vs:List (κ × Value)} (r:KV kvs vs) (k:κ):(kvs.any fun kv=>decide (kv.1=k))=vs.any fun kv=>decide (kv.1=k):=by
 unfold KV at r
 induction r with
 | nil=>rfl
 | cons h t ih=>rw [List.any_cons,List.any_cons,ih,h.1]
theorem KV.repl {kvs:List (κ × V)} {vs:List (κ × Value)} (r:KV kvs vs) (k:κ) {y:V} {u:Value} (ry:RelV y u) :
  KV (kvs.map fun kv=>if kv.1=k then (kv.1,y) else kv) (vs.map fun kv=>if kv.1=k then (kv.1,u) else kv):=by
 unfold KV at r ⊢
 induction r with
 | nil=>exact .nil
 | @cons p q ps qs h t ih =>
  rw [List.map_cons,List.map_cons];refine .cons ?_ ih;obtain ⟨h1,h2⟩:=h
  by_cases e:p.1=k
  ·rw [if_pos e,if_pos (h1.symm.trans e)];exact ⟨h1,ry⟩
  ·rw [if_neg e,if_neg (fun z=>e (h1.trans z))];exact ⟨h1,h2⟩
theorem KV.put {kvs:List (κ × V)} {vs:List (κ × Value)} (r:KV kvs vs) (k:κ) {y:V} {u:Value} (ry:RelV y u):KV (putK kvs k y) (stored vs k u):=by
 unfold putK stored;rw [r.any k]
 by_cases e:(vs.any fun kv=>decide (kv.1=k))=true
 ·rw [if_pos e,if_pos e];exact r.repl k ry
 ·rw [if_neg e,if_neg e];exact Paired.snoc r ⟨rfl,ry⟩
theorem KV.drop {kvs:List (κ × V)} {vs:List (κ × Value)} (r:KV kvs vs) (k:κ):KV (vv8 kvs k) (without vs k):=by
 unfold KV at r ⊢;unfold vv8 without
 induction r with
 | nil=>exact .nil
 | @cons p q ps qs h t ih =>
  obtain ⟨h1,h2⟩:=h;rw [List.filter_cons,List.filter_cons]
  by_cases e:p.1=k
  ·have a:¬ decide (p.1 ≠ k)=true:=by simp [e]
   have b:¬ decide (q.1 ≠ k)=true:=by simp [h1.symm.trans e]
   rw [if_neg a,if_neg b];exact ih
  ·have e':¬ q.1=k:=fun z=>e (h1.trans z)
   have a:decide (p.1 ≠ k)=true:=by simp [e]
   have b:decide (q.1 ≠ k)=true:=by simp [e']
   rw [if_pos a,if_pos b];exact .cons ⟨h1,h2⟩ ih
theorem KV.keys {kvs:List (κ × V)} {vs:List (κ × Value)} (r:KV kvs vs):kvs.map (·.1)=vs.map (·.1):=by
 unfold KV at r
 induction r with
 | nil=>rfl
 | cons h t ih=>rw [List.map_cons,List.map_cons,ih,h.1]
theorem KV.length {kvs:List (κ × V)} {vs:List (κ × Value)} (r:KV kvs vs):kvs.length=vs.length:=Paired.length r
end
section
variable {P:Program} {w:World} {H:Hp} {h:Heap} {a:Addr}
theorem rd_of {u:HO} (ok:HOk P w H h) (e:Rd H a u):ObjOk P w H h a u:=e.ok ok
theorem w11 {kvs:List (Key × V)} (ok:HOk P w H h) (e:Rd H a (.dK kvs)):kvs.length<=sizeLine /\ (a == sysModules)=false /\ ∃ vs,KV kvs vs /\ h.DictOf (ub2 P w) a vs :=
 show ObjOk P w H h a (.dK kvs) from rd_of ok e
end
def vs0 (kvs more:List (Key × V)):List (Key × V):=more.foldl (fun acc kv=>putK acc kv.1 kv.2) kvs
theorem KV.merge:∀ {more:List (Key × V)} {rs:List (Key × Value)} {kvs:List (Key × V)} {vs:List (Key × Value)},KV more rs->KV kvs vs->KV (vs0 kvs more) (merged vs rs):=by
 intro more rs kvs vs r;unfold KV at r
 induction r generalizing kvs vs with
 | nil=>intro q;exact q
 | @cons p q ps qs h t ih =>
  intro r0;have e:KV (putK kvs p.1 p.2) (stored vs q.1 q.2):=by
   have:=r0.put p.1 h.2;rw [<- h.1];exact this
  exact ih e
end L2
namespace HT
open PySem PyProof.Rows
section
open PySem.SeqAt
open PySem.AutoSeq1 (wpAny_loadPart')
open PySem.MeetsSeq PySem.MeetsSeq2 PySem.MeetsSeq3
end
section
variable {prog:Program} {w:World} {A:Around} {E:Value->Shared->Prop} {s:Shared}
theorem cat_tup {t b:Addr} {vs ws:List Value} {Q:Value->Shared->Prop} (ht:IsTup s.heap t vs.toArray) (hb:IsTup s.heap b ws.toArray) (hv:vs ≠ [])
  (h1:ws=[]->Q (.ref t) s) (h2:ws ≠ []->Q (.ref s.heap.objs.size) { s with heap:=s.heap.push { cls:=.type "tuple",data:=.seq (vs++ws).toArray } })
  (hsz:vs.length+ws.length<=sizeLine):wpAny (model prog w) A (binaryOp .Add (.ref t) (.ref b)) Q E s:=by
 obtain ⟨⟨cls,dd,data,sl⟩,ho,hc,n,hd⟩:=id ht;obtain ⟨⟨cls2,dd2,data2,sl2⟩,ho2,hc2,n2,hd2⟩:=id hb;simp only at hc hd hc2 hd2;subst hc hd hc2 hd2;have e:vs.toArray++ws.toArray=(vs++ws).toArray:=by simp
 by_cases hw:ws=[]
 ·exact concat_meets ⟨_,ho,rfl⟩ ⟨_,ho2,rfl⟩ noFill_tuple_add seq_tuple_add PySem.F.slot_tuple_add PySem.F.entry_tuple_add (PySem.F.args_tuple_add_2 _ _)
   (tuple_addW1 t b vs.toArray ws.toArray n n2 dd dd2 sl sl2 (by simpa using hv) (by simp [hw])) ⟨ho,ho2,h1 hw⟩
 ·refine concat_meets ⟨_,ho,rfl⟩ ⟨_,ho2,rfl⟩ noFill_tuple_add seq_tuple_add PySem.F.slot_tuple_add PySem.F.entry_tuple_add (PySem.F.args_tuple_add_2 _ _)
   (tuple_addW2 t b vs.toArray ws.toArray n n2 dd dd2 sl sl2 (by simpa using hv) (by simpa using hw) (by rw [List.size_toArray,List.size_toArray];exact hsz)) ⟨ho,ho2,?_⟩
  rw [e];exact h2 hw
def sIx (n d:Nat):Option Int->Nat
 | none=>d
 | some v=>if v < 0 then (v+(n:Int)).toNat else min v.toNat n
theorem sIx_none (n d:Nat):sIx n d none=d:=rfl
theorem sIx_nat (n d k:Nat):sIx n d (some (k:Int))=min k n:=by
 show (if (k:Int) < 0 then ((k:Int)+(n:Int)).toNat else min (k:Int).toNat n)=min k n
 rw [if_neg (by omega),Int.toNat_natCast]
theorem vm5 (n d:Nat) (hd:d<=n) (o:Option Int):sIx n d o<=n:=by
 cases o with
 | none=>exact hd
 | some v =>
  show (if v < 0 then (v+(n:Int)).toNat else min v.toNat n)<=n
  by_cases hv:v < 0
  ·rw [if_pos hv];omega
  ·rw [if_neg hv];exact Nat.min_le_right _ _
theorem ux1 (v:Int) (n d:Nat):(if v < 0 then max (v+(n:Int)) 0 else min v (n:Int))=((sIx n d (some v):Nat):Int):=by
 show (if v < 0 then max (v+(n:Int)) 0 else min v (n:Int))=(((if v < 0 then (v+(n:Int)).toNat else min v.toNat n):Nat):Int)
 by_cases hv:v < 0
 ·simp only [if_pos hv];omega
 ·simp only [if_neg hv];omega
theorem uq4 (lo hi:Option Int) (n:Nat):Builtin.Slice.sliceAdjust lo hi 1 (n:Int)=(((sIx n 0 lo:Nat):Int),((sIx n n hi:Nat):Int)):=by
 have h1:¬ ((1:Int) < 0):=by omega
 unfold Builtin.Slice.sliceAdjust;simp only [h1,if_false];refine Prod.ext ?_ ?_
 ·cases lo with
  | none=>rfl
  | some v=>exact ux1 v n 0
 ·cases hi with
  | none=>rfl
  | some v=>exact ux1 v n n
theorem uo8 (i j:Nat):Builtin.Slice.slicePlaces (i:Int) (j:Int) 1=j - i:=by
 unfold Builtin.Slice.slicePlaces;have h1:(1:Int) > 0:=by omega
 simp only [h1,if_true,Int.ediv_one];split <;> omega
theorem ud4 {v:Value} {o:Option Int} {Q:Option Int->Shared->Prop} (p:IsPart v o) (h:Q o s):wpAny (model prog w) A (Builtin.Slice.slicePartIndex v) Q E s:=by
 cases p with
 | none=>exact slicePart_none h
 | int i t=>exact slicePart_int h
theorem u95 {sl:Addr} {vl vu:Value} {lo hi:Option Int} {n:Nat} {Q:Int × Int × Nat->Shared->Prop} (hs:s.heap.IsSliceOf sl vl vu .none) (pl:IsPart vl lo) (pu:IsPart vu hi)
  (h:Q (((sIx n 0 lo:Nat):Int),1,sIx n n hi - sIx n 0 lo) s):wpAny (model prog w) A (Builtin.Slice.sliceApplied (.ref sl) (pure (n:Int))) Q E s:=by
 obtain ⟨os,hos,hcs,hds⟩:=id hs;unfold Builtin.Slice.sliceApplied Builtin.Slice.sliceFields;refine wpAny_bind (wpAny_bind (wpAny_field hos hds (x:=vl) rfl (wpAny_bind (wpAny_field hos hds (x:=vu) rfl (wpAny_bind (wpAny_field hos hds (x:=.none) rfl (wpAny_pure ?_)))))));refine wpAny_bind (slicePart_none ?_)
 show wpAny _ _ (if ((1:Int) == 0)=true then _ else _) _ _ s
 rw [if_neg (by decide)];refine wpAny_bind (ud4 pl (wpAny_bind (ud4 pu (wpAny_bind (wpAny_pure ?_)))))
 show wpAny _ _ (match Builtin.Slice.sliceAdjust lo hi 1 (n:Int) with | (lo,hi)=>pure (lo,(1:Int),Builtin.Slice.slicePlaces lo hi 1)) _ _ s
 rw [uq4 lo hi n]
 show wpAny _ _ (pure (((sIx n 0 lo:Nat):Int),(1:Int),Builtin.Slice.slicePlaces ((sIx n 0 lo:Nat):Int) ((sIx n n hi:Nat):Int) 1)) _ _ s
 rw [uo8];exact wpAny_pure h
theorem uz9 (xs:Array Value) (i k:Nat):((List.range k).filterMap fun (m:Nat)=>xs[((i:Int)+(m:Int) * 1).toNat]?).toArray=((xs.toList.drop i).take k).toArray:=by
 have e:(fun (m:Nat)=>xs[((i:Int)+(m:Int) * 1).toNat]?)=fun m=>xs[i+m]?:=by
  funext m
  have:((i:Int)+(m:Int) * 1).toNat=i+m:=by omega
  rw [this]
 rw [e];have:=pick_run xs i k;rw [List.filterMap_map] at this;have e2:((fun x=>xs[x]?) ∘ fun x=>i+x)=fun m=>xs[i+m]?:=rfl
 rw [e2] at this;rw [this]
theorem getItem_tuple_cut {t sl:Addr} {items:Array Value} {vl vu:Value} {lo hi:Option Int} {Q:Value->Shared->Prop} (ht:IsTup s.heap t items) (hs:s.heap.IsSliceOf sl vl vu .none) (pl:IsPart vl lo) (pu:IsPart vu hi)
  (hw:¬ (sIx items.size 0 lo=0 /\ sIx items.size items.size hi=items.size))
  (h:Q (.ref s.heap.objs.size) { s with heap:=s.heap.push { cls:=.type "tuple",data:=.seq ((items.toList.drop (sIx items.size 0 lo)).take (sIx items.size items.size hi - sIx items.size 0 lo)).toArray } })
  (hsz:items.size<=sizeLine):wpAny (model prog w) A (getItem (.ref t) (.ref sl)) Q E s:=by
 have htake:sizeOk (.seq ((items.toList.drop (sIx items.size 0 lo)).take (sIx items.size items.size hi - sIx items.size 0 lo)).toArray):=by
  show ((items.toList.drop (sIx items.size 0 lo)).take (sIx items.size items.size hi - sIx items.size 0 lo)).toArray.size<=sizeLine
  rw [List.size_toArray,List.length_take,List.length_drop,Array.length_toList];omega
 have hj:sIx items.size items.size hi<=items.size:=vm5 _ _ (Nat.le_refl _) hi;obtain ⟨os,hos,hcs,hds⟩:=id hs;have hTs:s.TypeIs (.ref sl) "slice" := ⟨os,hos,hcs⟩;unfold getItem
 try with_reducible refine wpAny_holding ?_
 first | refine wpAny_bind (wpAny_pure ?_) | skip
 refine wpAny_bind (wpAny_sequenceKey ht.typeIs (by decide) ?_);refine wpAny_bind (wpAny_callSpecial?_slot (name:=Str.ofString "__getitem__") ht.typeIs PyProof.Rows.slot_tuple_getitem
  (wpAny_call_entry PyProof.Rows.slot_tuple_getitem ht.typeIs entry_tuple_getitem ?_ (args_tuple_getitem _ _)))
 show wpAny _ _ (Builtin.Tuple.tupleItemsOf (.ref t) >>= _) _ _ s
 refine wpAny_bind (tupleItemsOf_ ht ?_);refine wpAny_bind (wpAny_typeOf hTs ?_);rw [if_pos (by decide)];refine wpAny_bind (u95 hs pl pu ?_);have hno:¬ ((((sIx items.size 0 lo:Nat):Int) == 0 && (1:Int) == 1 && (sIx items.size items.size hi - sIx items.size 0 lo) == items.size)=true):=by
  intro q;rw [Bool.and_eq_true,Bool.and_eq_true] at q;have q1:((sIx items.size 0 lo:Nat):Int)=0:=eq_of_beq q.1.1;have q2:sIx items.size items.size hi - sIx items.size 0 lo=items.size:=eq_of_beq q.2;exact hw ⟨by omega,by omega⟩
 show wpAny _ _ (if (((sIx items.size 0 lo:Nat):Int) == 0 && (1:Int) == 1 && (sIx items.size items.size hi - sIx items.size 0 lo) == items.size)=true then _ else _) _ _ s
 rw [if_neg hno,uz9]
 first
  | exact wpAny_bind (m:=Builtin.Tuple.tupleExact _) (wpAny_newObj_type (wpAny_pure ⟨_,rfl,wpAny_pure h⟩) htake)
  | exact wpAny_bind (m:=Builtin.Tuple.tupleExact _) (wpAny_newObj_type (wpAny_bind (wpAny_pure (wpAny_pure ⟨_,rfl,wpAny_pure h⟩))) htake)
  | exact wpAny_bind (wpAny_bind (m:=Builtin.Tuple.tupleExact _) (wpAny_newObj_type (wpAny_pure (wpAny_pure ⟨_,rfl,wpAny_pure h⟩)) htake))
  | exact wpAny_bind (wpAny_bind (m:=Builtin.Tuple.tupleExact _) (wpAny_newObj_type (wpAny_pure ⟨_,rfl,wpAny_pure h⟩) htake))
end
end HT
namespace L2
open PySem PySem.Spec PyProof.Rows
abbrev TO:=St->Hp->(Option Int->Hp->Prop)->Prop
def PO (X:Cx) (e:Option Expr) (t:TO):Prop :=
 ∀ (pins:List (Addr × Obj)) (s:Shared) (σ:St) (H:Hp) (Q:Option Int->Hp->Prop),Inv X pins σ H s->t σ H Q ->
  wpAny (model X.prog X.w) X.A (evalPart e X.env) (fun u s'=>∃ o H',Inv X pins σ H' s' /\ IsPart u o /\ Q o H') X.xe s
def ur6:TO:=fun _ H Q=>Q none H
def vl6 (t:TE):TO:=fun σ H Q=>t σ H fun x H1=>∃ i,x=.int i /\ Q (some i) H1
theorem intsAre_of {ns:List Int}:∀ {us:List Value},Vals (ns.map V.int) us->IntsAre us ns:=by
 induction ns with
 | nil=>intro us r;rw [List.map_nil] at r;cases r;exact .nil
 | cons n ns ih =>
  intro us r;rw [List.map_cons] at r;cases r with
  | cons r1 r2 =>
   obtain ⟨t,e⟩:=r1;subst e;exact .cons n t (ih r2)
section
variable {X:Cx} {e:Expr} {te:TE} {lo hi:Option Expr} {tl th:TO} {pos p2:Pos}
theorem vc9:PO X none ur6:=by
 intro pins s σ H Q I h;rw [evalPart_none];exact wpAny_pure ⟨none,H,I,.none,h⟩
theorem vc8 (h:PE X e te):PO X (some e) (vl6 te):=by
 intro pins s σ H Q I hw;rw [evalPart_some]
 (refine thn (h pins s σ H _ I hw) ?_;rintro u s1 ⟨x,H1,I1,r1,q1⟩)
 obtain ⟨i,rfl,q⟩:=q1;obtain ⟨t,rfl⟩:=r1;exact ⟨some i,H1,I1,.int i t,q⟩
def SlR (X:Cx) (r:V->Option Int->Option Int->Hp->VK->Prop):Prop :=
 ∀ (pins:List (Addr × Obj)) (s:Shared) (σ:St) (H:Hp) (x:V) (v vl vu:Value) (lo hi:Option Int) (sl:Addr) (Q:VK),Inv X pins σ H s->RelV x v->s.heap.IsSliceOf sl vl vu .none->IsPart vl lo->IsPart vu hi->r x lo hi H Q ->
  ∃ T id,typeLookup (.type T) "__getitem__" = pure (some (.builtin id)) /\ s.TypeIs v T /\ wpAny (model X.prog X.w) X.A (getItem v (.ref sl)) (EP X pins σ Q) X.xe s
theorem SlR.or {r r':V->Option Int->Option Int->Hp->VK->Prop} (h:SlR X r) (h':SlR X r'):SlR X (fun x lo hi H Q=>r x lo hi H Q \/ r' x lo hi H Q):=by
 intro pins s σ H x v vl vu lo hi sl Q I rx hs pl pu q
 rcases q with q | q
 ·exact h pins s σ H x v vl vu lo hi sl Q I rx hs pl pu q
 ·exact h' pins s σ H x v vl vu lo hi sl Q I rx hs pl pu q
def tSl (r:V->Option Int->Option Int->Hp->VK->Prop) (te:TE) (tl th:TO):TE:=fun σ H Q=>te σ H fun x H1=>tl σ H1 fun l H2=>th σ H2 fun u H3=>r x l u H3 Q
theorem v02 {r:V->Option Int->Option Int->Hp->VK->Prop} (hr:SlR X r) (he:PE X e te) (hl:PO X lo tl) (hu:PO X hi th):PE X (.Subscript e (.Slice lo hi none p2) pos) (tSl r te tl th):=by
 intro pins s σ H Q I h
 (refine Subscript_ (thn (he pins s σ H _ I h) ?_);rintro v s1 ⟨x,H1,I1,r1,q1⟩)
 (refine wpAny_Slice (thn (hl pins s1 σ H1 _ I1 q1) ?_);rintro vl s2 ⟨l,H2,I2,pl,q2⟩;refine thn (hu pins s2 σ H2 _ I2 q2) ?_;rintro vu s3 ⟨u,H3,I3,pu,q3⟩)
 rw [evalPart_none];refine wpAny_pure ?_;have I4:Inv X pins σ H3 { s3 with heap:=s3.heap.push { cls:=.type "slice",data:=.fields #[vl,vu,.none] } }:=I3.kept (t':=s3.toks) fun b ob q=>Heap.get?_push_of_some _ q
 obtain ⟨T,id,hT,ht,hg⟩:=hr pins { s3 with heap:=s3.heap.push { cls:=.type "slice",data:=.fields #[vl,vu,.none] } } σ H3 x v vl vu l u s3.heap.objs.size Q I4 r1 (Heap.IsSliceOf.new ..) pl pu q3
 show wpAny (model X.prog X.w) X.A (subscriptTail e (.Slice lo hi none p2) v (.ref s3.heap.objs.size)) (EP X pins σ Q) X.xe { s3 with heap:=s3.heap.push { cls:=.type "slice",data:=.fields #[vl,vu,.none] } }
 exact tail_any (ops:=[.ref s3.heap.objs.size,v]) ht hT hg (by with_unfolding_all rfl)
def cutV (xs:List V) (lo hi:Option Int):List V:=(xs.drop (HT.sIx xs.length 0 lo)).take (HT.sIx xs.length xs.length hi - HT.sIx xs.length 0 lo)
theorem uc3 (xs:List V) (lo hi:Option Int):(cutV xs lo hi).length<=xs.length:=by
 unfold cutV;rw [List.length_take,List.length_drop];omega
def rSlT (K:W.Frag):V->Option Int->Option Int->Hp->VK->Prop:=fun x lo hi H Q=>∃ a xs,x=.ref a /\ SqT K H a xs /\
 ¬ (HT.sIx xs.length 0 lo=0 /\ HT.sIx xs.length xs.length hi=xs.length) /\ ∀ p,H p=none->Q (.ref p) (upd H p (.tup (cutV xs lo hi)))
theorem vm2:SlR X (rSlT X.K):=by
 intro pins s σ H x v vl vu lo hi sl Q I rx hs pl pu h;obtain ⟨a,xs,rfl,hx,hw,q⟩:=h;cases rx;obtain ⟨its,r,ht,hz⟩:=I.tuple hx;have hlen:its.toArray.size=xs.length:=by rw [List.size_toArray];exact r.length.symm
 refine ⟨"tuple",_,PyProof.Rows.slot_tuple_getitem.lookup,ht.typeIs,?_⟩;refine HT.getItem_tuple_cut ht hs pl pu (by rw [hlen];exact hw) ?_ (by rw [hlen];exact hz);rw [hlen];refine ⟨.ref s.heap.objs.size,_,I.laid (t':=s.toks) (o:=.tup (cutV xs lo hi)) (fun b ob q=>Heap.get?_push_of_some _ q) (Nat.le_refl _) ?_,rfl,q _ (I.hok.fresh (Nat.le_refl _))⟩;exact ⟨Nat.le_trans (uc3 xs lo hi) hz,_,(r.drop (HT.sIx xs.length 0 lo)).take (HT.sIx xs.length xs.length hi - HT.sIx xs.length 0 lo),TupD.new _ _⟩
def vz4 (K:W.Frag):R2:=fun x y H Q=>∃ a b xs ys,x=.ref a /\ y=.ref b /\ SqT K H a xs /\ SqT K H b ys /\ xs ≠ [] /\ xs.length+ys.length<=sizeLine /\
 (ys=[]->Q (.ref a) H) /\ (ys ≠ []->∀ p,H p=none->Q (.ref p) (upd H p (.tup (xs++ys))))
theorem Vals.nil_iff {xs:List V} {us:List Value} (r:Vals xs us):us=[] ↔ xs=[]:=by
 cases r with
 | nil=>simp
 | cons _ _=>simp
theorem op_catT:OpR X (binaryOp .Add) (vz4 X.K):=by
 intro pins s σ H x y v u Q I rx ry h;obtain ⟨a,b,xs,ys,rfl,rfl,ha,hb,hx,hz,q1,q2⟩:=h;cases rx;cases ry;obtain ⟨its,r1,p1,_⟩:=I.tuple ha;obtain ⟨its2,r2,p2,_⟩:=I.tuple hb;refine HT.cat_tup p1 p2 (fun z=>hx (r1.nil_iff.mp z)) (fun z=>⟨.ref a,H,I,rfl,q1 (r2.nil_iff.mp z)⟩) (fun z=>?_) (by rw [<- r1.length,<- r2.length];exact hz);refine ⟨.ref s.heap.objs.size,_,I.laid (t':=s.toks) (o:=.tup (xs++ys)) (fun b ob q=>Heap.get?_push_of_some _ q) (Nat.le_refl _) ?_,rfl,q2 (fun w=>z (r2.nil_iff.mpr w)) _ (I.hok.fresh (Nat.le_refl _))⟩;exact ⟨by rw [List.length_append];exact hz,_,r1.append r2,TupD.new _ _⟩
end
def ixN (n:Nat) (i:Int):Option Nat:=if 0<=i then (if i < n then some i.toNat else none) else if -(n:Int)<=i then some (i+n).toNat else none
def atI {α:Type} (xs:List α) (i:Int):Option α:=(ixN xs.length i).bind fun j=>xs[j]?
theorem uv3 {n:Nat} {i:Int} {j:Nat} (h:ixN n i=some j):seqIndex? i n=some j /\ j < n /\ -(n:Int)<=i /\ i < n:=by
 unfold ixN at h
 by_cases h0:0<=i
 ·rw [if_pos h0] at h
  by_cases h1:i < n
  ·rw [if_pos h1] at h
   have e:i.toNat=j:=Option.some.inj h;exact ⟨by rw [seqIndex_of h0 h1,e],by omega,by omega,h1⟩
  ·rw [if_neg h1] at h;cases h
 ·rw [if_neg h0] at h
  by_cases h1:-(n:Int)<=i
  ·rw [if_pos h1] at h
   have e:(i+n).toNat=j:=Option.some.inj h;exact ⟨by rw [seqIndex_neg (by omega) h1,e],by omega,h1,by omega⟩
  ·rw [if_neg h1] at h;cases h
theorem uk6 {α:Type} {xs:List α} {i:Int} {v:α} (h:atI xs i=some v):∃ j,seqIndex? i xs.length=some j /\ xs[j]?=some v /\ j < xs.length /\ -(xs.length:Int)<=i /\ i < xs.length:=by
 unfold atI at h;cases e:ixN xs.length i with
 | none=>rw [e] at h;cases h
 | some j =>
  rw [e] at h;obtain ⟨h1,h2,h3,h4⟩:=uv3 e;exact ⟨j,h1,h,h2,h3,h4⟩
theorem u60 {α:Type} {xs:List α} {j:Nat} {v:α} (h:xs[j]?=some v):atI xs (j:Int)=some v:=by
 have hj:j < xs.length:=(List.getElem?_eq_some_iff.mp h).1;have e:ixN xs.length (j:Int)=some j:=by
  unfold ixN;rw [if_pos (by omega),if_pos (by omega)];simp
 unfold atI;rw [e];exact h
theorem atI_last {α:Type} (xs:List α) (v:α):atI (xs++[v]) (-1)=some v:=by
 have hl:(xs++[v]).length=xs.length+1:=by simp
 have e:ixN (xs++[v]).length (-1)=some xs.length:=by
  unfold ixN;rw [hl,if_neg (by decide),if_pos (by omega)]
  congr 1
  omega
 unfold atI;rw [e]
 show (xs++[v])[xs.length]?=some v
 simp
def uy1 (b:Expr):Prop:=∀ o i,subscripted b false o i=operate [o,i] (getItem o i)
def IxR (X:Cx) (r:R2):Prop :=
 ∀ (value slice:Expr) (pins:List (Addr × Obj)) (s:Shared) (σ:St) (H:Hp) (x y:V) (v u:Value) (Q:VK),Inv X pins σ H s->RelV x v->RelV y u->r x y H Q ->
  subscripted slice false v u=operate [v,u] (getItem v u)->wpAny (model X.prog X.w) X.A (subscriptTail value slice v u) (EP X pins σ Q) X.xe s
def MtR (X:Cx) (id:String) (r:V->List V->Hp->VK->Prop):Prop :=
 ∀ (pins:List (Addr × Obj)) (s:Shared) (σ:St) (H:Hp) (x:V) (xs:List V) (v:Value) (us:List Value) (Q:VK),Inv X pins σ H s->RelV x v->Vals xs us->r x xs H Q ->
  wpAny (model X.prog X.w) X.A (call (.builtin id) (v::us)) (EP X pins σ Q) X.xe s
section
variable {X:Cx} {a b:Expr} {ta tb:TE} {pos:Pos}
theorem IxR.or {r r':R2} (h:IxR X r) (h':IxR X r'):IxR X (fun x y H Q=>r x y H Q \/ r' x y H Q):=by
 intro value slice pins s σ H x y v u Q I rx ry q hs
 rcases q with q | q
 ·exact h value slice pins s σ H x y v u Q I rx ry q hs
 ·exact h' value slice pins s σ H x y v u Q I rx ry q hs
theorem MtR.or {id:String} {r r':V->List V->Hp->VK->Prop} (h:MtR X id r) (h':MtR X id r'):MtR X id (fun x xs H Q=>r x xs H Q \/ r' x xs H Q):=by
 intro pins s σ H x xs v us Q I rx rs q
 rcases q with q | q
 ·exact h pins s σ H x xs v us Q I rx rs q
 ·exact h' pins s σ H x xs v us Q I rx rs q
theorem w01 {r:R2} (hr:IxR X r) (ha:PE X a ta) (hb:PE X b tb) (hs:uy1 b):PE X (.Subscript a b pos) (tOp r ta tb):=by
 intro pins s σ H Q I h;exact Subscript_ (binT ha hb I h fun v u s2 x y H2 I2 rx ry q=>hr a b pins s2 σ H2 x y v u Q I2 rx ry q (hs _ _))
def rIxL (K:W.Frag):R2:=fun x y H Q=>∃ p xs i v,x=.ref p /\ y=.int i /\ SqL K H p xs /\ atI xs i=some v /\ Q v H
def rIxT (K:W.Frag):R2:=fun x y H Q=>∃ p xs i v,x=.ref p /\ y=.int i /\ SqT K H p xs /\ atI xs i=some v /\ Q v H
def rIxS:R2:=fun x y H Q=>∃ z i c,x=.str z /\ y=.int i /\ z.length<=sizeLine /\ atI z.cps.toList i=some c /\ Q (.str ⟨#[c]⟩) H
theorem ix_list:IxR X (rIxL X.K):=by
 intro value slice pins s σ H x y v u Q I rx ry h hs;obtain ⟨p,xs,i,z,rfl,rfl,hq,he,q⟩:=h;cases rx;obtain ⟨t,rfl⟩:=ry;obtain ⟨its,r,pl,hz⟩:=I.list hq;obtain ⟨j,h1,h2,h3,h4,h5⟩:=uk6 he;obtain ⟨w,ew,rw'⟩:=r.get h2;have hl:=r.length;have hn:=line63;have fin:EP X pins σ Q w s:=⟨z,H,I,rw',q⟩
 by_cases h0:0<=i
 ·have hj:i.toNat=j:=by
   rw [seqIndex_of h0 h5] at h1;exact Option.some.inj h1
  exact item_listR pl.isList h0 (by omega) (by rw [hj];simpa using ew) fin hs
 ·have hj:(i+(its.toArray.size:Int)).toNat=j:=by
   rw [seqIndex_neg (by omega) h4] at h1;rw [List.size_toArray,<- hl];exact Option.some.inj h1
  exact subscriptTail_builtinR (x:=w) pl.isList.typeIs slot_list_getitem.lookup
   (wpAny_getItem_list_neg (Q:=fun r s'=>r=w /\ EP X pins σ Q r s') pl.isList (by omega) (by rw [List.size_toArray] <;> omega) (by omega) (by rw [hj];simpa using ew) ⟨rfl,fin⟩) hs
theorem ix_tup:IxR X (rIxT X.K):=by
 intro value slice pins s σ H x y v u Q I rx ry h hs;obtain ⟨p,xs,i,z,rfl,rfl,hq,he,q⟩:=h;cases rx;obtain ⟨t,rfl⟩:=ry;obtain ⟨its,r,pl,hz⟩:=I.tuple hq;obtain ⟨j,h1,h2,h3,h4,h5⟩:=uk6 he;obtain ⟨w,ew,rw'⟩:=r.get h2;have hl:=r.length;have hn:=line63;have fin:EP X pins σ Q w s:=⟨z,H,I,rw',q⟩;exact subscriptTail_builtinR (x:=w) pl.typeIs slot_tuple_getitem.lookup
  (getItem_tuple (j:=j) (Q:=fun r s'=>r=w /\ EP X pins σ Q r s') pl (by omega) (by omega) (by rw [List.size_toArray,<- hl];exact h1) (by simpa using ew) ⟨rfl,fin⟩) hs
theorem vu1:IxR X rIxS:=by
 intro value slice pins s σ H x y v u Q I rx ry h hs;obtain ⟨z,i,c,rfl,rfl,hz,he,q⟩:=h;obtain ⟨t,rfl⟩:=rx;obtain ⟨t',rfl⟩:=ry;obtain ⟨j,h1,h2,h3,h4,h5⟩:=uk6 he;have hl:z.cps.toList.length=z.length:=by simp [Str.length]
 rw [hl] at h1 h4 h5;have hn:=line63;exact tail_any (typeIs_str s z t) slot_str_getitem.lookup (getItem_str (c:=c) (by
  have e1:decide (i < -(2 ^ 63:Int))=false:=decide_eq_false (by omega);have e2:decide (i ≥ 2 ^ 63)=false:=decide_eq_false (by omega);rw [e1,e2,Bool.or_false]) (by rw [h1];simpa using h2) ⟨.str ⟨#[c]⟩,H,I.tok _,⟨_,rfl⟩,q⟩) hs
def rIx (K:W.Frag):R2:=fun x y H Q=>rIxL K x y H Q \/ rIxT K x y H Q \/ rIxS x y H Q
theorem vu2:IxR X (rIx X.K):=ix_list.or (ix_tup.or vu1)
theorem uo9 (its:List Value) (n j:Nat) (u:Value):Obj.mapSeq (·.setIfInBounds j u) { cls:=.type "list",data:=.seq its.toArray n }={ cls:=.type "list",data:=.seq (its.set j u).toArray n }:=by
 simp [Obj.mapSeq]
theorem Inv.lst {pins:List (Addr × Obj)} {σ:St} {H:Hp} {s:Shared} {p:Addr} {xs:List V} (I:Inv X pins σ H s) (h:H p=some (.lst xs)) :
  ∃ (its:List Value) (n:Nat),Vals xs its /\ s.heap.get? p=some { cls:=.type "list",data:=.seq its.toArray n } /\ xs.length<=sizeLine:=by
 obtain ⟨z,its,n,r,e⟩:=I.hok p _ h;exact ⟨its,n,r,e,z⟩
theorem Inv.lstUpd {pins:List (Addr × Obj)} {σ:St} {H:Hp} {s:Shared} {p:Addr} {xs ys:List V} {its its':List Value} {n n':Nat} {f:Obj->Obj} (I:Inv X pins σ H s) (h:H p=some (.lst xs))
  (ho:s.heap.get? p=some { cls:=.type "list",data:=.seq its.toArray n }) (hf:f { cls:=.type "list",data:=.seq its.toArray n }={ cls:=.type "list",data:=.seq its'.toArray n' }) (r:Vals ys its') (hz:ys.length<=sizeLine) (t:Nat) :
  Inv X pins σ (upd H p (.lst ys)) { s with heap:=s.heap.update p f,toks:=t }:=by
 have e:(s.heap.update p f).get? p=some { cls:=.type "list",data:=.seq its'.toArray n' }:=by
  rw [Heap.get?_update_self f ho (by rw [hf] <;> rfl),hf]
 refine I.write (x:=p) (e:=p) (by rw [h];trivial) (.inl rfl) (fun b u hb q=>(Heap.get?_update_other _ _ (Ne.symm hb)).trans q) ⟨_,e⟩ ?_;exact ⟨hz,its',n',r,e⟩
def vz3:V->V->V->Hp->(Hp->Prop)->Prop:=fun o i v H Q=>∃ p xs k j,o=.ref p /\ i=.int k /\ H p=some (.lst xs) /\ ixN xs.length k=some j /\ Q (upd H p (.lst (xs.set j v)))
theorem set_list:PSet X vz3:=by
 intro pins s σ H o i v ov iv u Q I ro ri rv h;obtain ⟨p,xs,k,j,rfl,rfl,hp,hj,q⟩:=h;cases ro;obtain ⟨t,rfl⟩:=ri;obtain ⟨its,n,r,ho,hz⟩:=I.lst hp;obtain ⟨h1,h2,h3,h4⟩:=uv3 hj;have hl:=r.length;have hn:=line63;have I':Inv X pins σ (upd H p (.lst (xs.set j v))) { s with heap:=s.heap.update p (Obj.mapSeq (·.setIfInBounds j u)) } :=
  I.lstUpd hp ho (uo9 its n j u) (r.set rv j) (by rw [List.length_set];exact hz) s.toks
 by_cases h0:0<=k
 ·have hk:k.toNat=j:=by
   rw [seqIndex_of h0 h4] at h1;exact Option.some.inj h1
  exact W.ki_setAt ho h0 (by omega) (by rw [List.size_toArray,<- hl];exact h4) (by rw [hk];exact ⟨_,I',q⟩)
 ·have hk:(k+(its.toArray.size:Int)).toNat=j:=by
   rw [seqIndex_neg (by omega) h3] at h1;rw [List.size_toArray,<- hl];exact Option.some.inj h1
  exact W.ki_setBack ho (by omega) (by rw [List.size_toArray,<- hl];exact h3) (by omega) (by rw [hk];exact ⟨_,I',q⟩)
theorem ug6 (lo hi:Option Int) (n:Nat):(sliceBounds lo hi none n).1=((HT.sIx n 0 lo:Nat):Int) /\ (sliceBounds lo hi none n).2.1=((HT.sIx n n hi:Nat):Int) /\ (sliceBounds lo hi none n).2.2=1:=by
 refine ⟨?_,?_,rfl⟩
 ·cases lo with
  | none=>simp [sliceBounds,HT.sIx]
  | some i =>
   simp only [sliceBounds,HT.sIx,Option.getD_none,show (1:Int) > 0 by decide,if_true]
   by_cases h:i < 0
   ·simp only [h,if_true] <;> omega
   ·simp only [h,if_false] <;> omega
 ·cases hi with
  | none=>simp [sliceBounds,HT.sIx]
  | some i =>
   simp only [sliceBounds,HT.sIx,Option.getD_none,show (1:Int) > 0 by decide,if_true]
   by_cases h:i < 0
   ·simp only [h,if_true] <;> omega
   ·simp only [h,if_false] <;> omega
theorem ue3 (its:List Value) (lo hi:Option Int):slicePick its.toArray lo hi none=((its.drop (HT.sIx its.length 0 lo)).take (HT.sIx its.length its.length hi - HT.sIx its.length 0 lo)).toArray:=by
 obtain ⟨h1,h2,h3⟩:=ug6 lo hi its.toArray.size;unfold slicePick;rw [h1,h2,h3];simp only [sliceRange_one,pick_run,List.size_toArray] <;> rfl
def rSlL (K:W.Frag):V->Option Int->Option Int->Hp->VK->Prop:=fun x lo hi H Q=>∃ a xs,x=.ref a /\ SqL K H a xs /\ ∀ p,H p=none->Q (.ref p) (upd H p (.lst (cutV xs lo hi)))
theorem sl_list:SlR X (rSlL X.K):=by
 intro pins s σ H x v vl vu lo hi sl Q I rx hs pl pu h;obtain ⟨a,xs,rfl,hx,q⟩:=h;cases rx;obtain ⟨its,r,ht,hz⟩:=I.list hx;have hlen:=r.length;refine ⟨"list",_,slot_list_getitem.lookup,ht.isList.typeIs,?_⟩;refine wpAny_getItem_list_slice ht.isList hs pl pu .none (by simp) ?_ (by rw [List.size_toArray] <;> omega);rw [ue3,<- hlen];refine ⟨.ref s.heap.objs.size,_,I.laid (t':=s.toks) (o:=.lst (cutV xs lo hi)) (fun b ob q=>Heap.get?_push_of_some _ q) (Nat.le_refl _) ?_,rfl,q _ (I.hok.fresh (Nat.le_refl _))⟩;exact ⟨Nat.le_trans (uc3 xs lo hi) hz,_,0,(r.drop (HT.sIx xs.length 0 lo)).take (HT.sIx xs.length xs.length hi - HT.sIx xs.length 0 lo),Heap.get?_push_size _ rfl⟩
def uc1:V->Bool
 | .non=>true
 | .bl _=>true
 | .int _=>true
 | .str _=>true
 | _=>false
def eqV:V->V->Bool
 | .non,.non=>true
 | .bl a,.bl b=>a == b
 | .bl a,.int b=>(if a then 1 else 0) == b
 | .int a,.bl b=>a == (if b then 1 else 0)
 | .int a,.int b=>a == b
 | .str a,.str b=>a == b
 | _,_=>false
theorem v81 {A:Around} {s:Shared} {y x:V} {u v:Value} (ry:RelV y u) (rx:RelV x v) (fy:uc1 y=true) (fx:uc1 x=true):SeqAt.EqAt A s u v (eqV y x):=by
 cases y with
 | non =>
  cases ry;cases x with
  | non=>cases rx;exact SeqAt.EqAt.same _
  | bl b=>cases rx;exact SeqAt.EqAt.none_bool b
  | int b=>obtain ⟨t,rfl⟩:=rx;exact SeqAt.EqAt.none_int b t
  | str b=>obtain ⟨t,rfl⟩:=rx;exact SeqAt.EqAt.none_str b t
  | _=>exact absurd (show false=true from fx) Bool.false_ne_true
 | bl a =>
  cases ry;cases x with
  | non=>cases rx;exact SeqAt.EqAt.bool_none a
  | bl b=>cases rx;exact SeqAt.EqAt.bool_bool a b
  | int b=>obtain ⟨t,rfl⟩:=rx;exact SeqAt.EqAt.bool_int a b t
  | str b=>obtain ⟨t,rfl⟩:=rx;exact SeqAt.EqAt.bool_str a b t
  | _=>exact absurd (show false=true from fx) Bool.false_ne_true
 | int a =>
  obtain ⟨t',rfl⟩:=ry;cases x with
  | non=>cases rx;exact SeqAt.EqAt.int_none a t'
  | bl b=>cases rx;exact SeqAt.EqAt.int_bool a t' b
  | int b=>obtain ⟨t,rfl⟩:=rx;exact SeqAt.EqAt.int_int a t' b t
  | str b=>obtain ⟨t,rfl⟩:=rx;exact SeqAt.EqAt.int_str a t' b t
  | _=>exact absurd (show false=true from fx) Bool.false_ne_true
 | str a =>
  obtain ⟨t',rfl⟩:=ry;cases x with
  | non=>cases rx;exact SeqAt.EqAt.str_none a t'
  | bl b=>cases rx;exact SeqAt.EqAt.str_bool a t' b
  | int b=>obtain ⟨t,rfl⟩:=rx;exact SeqAt.EqAt.str_int a t' b t
  | str b=>obtain ⟨t,rfl⟩:=rx;exact SeqAt.EqAt.str_str a t' b t
  | _=>exact absurd (show false=true from fx) Bool.false_ne_true
 | _=>exact absurd (show false=true from fy) Bool.false_ne_true
def eqU (x:V) (u:Value):Bool:=match u with
 | .none=>eqV .non x
 | .bool b=>eqV (.bl b) x
 | .int i _=>eqV (.int i) x
 | .str z _=>eqV (.str z) x
 | _=>false
theorem v80 {x y:V} {u:Value} (r:RelV y u) (f:uc1 y=true):eqU x u=eqV y x:=by
 cases y with
 | non=>cases r;rfl
 | bl b=>cases r;rfl
 | int i=>obtain ⟨t,rfl⟩:=r;rfl
 | str z=>obtain ⟨t,rfl⟩:=r;rfl
 | _=>exact absurd (show false=true from f) Bool.false_ne_true
theorem uk7 {x:V}:∀ {xs:List V} {us:List Value},Vals xs us->xs.all uc1=true->us.any (eqU x)=xs.any fun y=>eqV y x
 | _,_,.nil,_=>rfl
 | y::xs,u::us,.cons r t,f=>by
  rw [List.all_cons,Bool.and_eq_true] at f;rw [List.any_cons,List.any_cons,v80 r f.1,uk7 t f.2]
theorem ue7 {A:Around} {s:Shared} {x:V} {v:Value} (rx:RelV x v) (fx:uc1 x=true):∀ {xs:List V} {us:List Value},Vals xs us->xs.all uc1=true->∀ u ∈ us,SeqAt.EqAt A s u v (eqU x u)
 | _,_,.nil,_=>fun u hu=>by cases hu
 | y::xs,u::us,.cons r t,f=>fun u' hu=>by
  rw [List.all_cons,Bool.and_eq_true] at f
  rcases List.mem_cons.mp hu with rfl | hu
  ·rw [v80 r f.1];exact v81 r rx f.1 fx
  ·exact ue7 rx fx t f.2 u' hu
def inV (x:V) (xs:List V):Bool:=xs.any fun y=>eqV y x
def rIn (K:W.Frag) (neg:Bool):R2:=fun x y H Q=>∃ p xs,y=.ref p /\ (SqL K H p xs \/ SqT K H p xs) /\ uc1 x=true /\ xs.all uc1=true /\ Q (.bl (if neg then !inV x xs else inV x xs)) H
theorem uu2:OpR X (compareOp .In) (rIn X.K false):=by
 intro pins s σ H x y v u Q I rx ry h;obtain ⟨p,xs,rfl,hq,fx,fs,q⟩:=h;cases ry
 rcases hq with hq | hq
 ·obtain ⟨its,r,pl,hz⟩:=I.list hq
  refine SeqAt.in_listAt (eqU x) pl.isList (fun w hw=>ue7 rx fx r fs w (by simpa using hw)) ⟨.bl _,H,I,rfl,?_⟩;rw [show its.toArray.any (eqU x)=its.any (eqU x) by simp,uk7 r fs];exact q
 ·obtain ⟨its,r,pl,hz⟩:=I.tuple hq
  refine SeqAt.in_tupleAt (eqU x) pl (fun w hw=>ue7 rx fx r fs w (by simpa using hw)) ⟨.bl _,H,I,rfl,?_⟩;rw [show its.toArray.any (eqU x)=its.any (eqU x) by simp,uk7 r fs];exact q
theorem call_len_seq:CallR X (.builtin "len") (fun xs H Q=>∃ p ys,xs=[.ref p] /\ (SqL X.K H p ys \/ SqT X.K H p ys) /\ Q (.int ys.length) H):=by
 intro pins s σ H xs us Q I r h;obtain ⟨p,ys,rfl,hq,q⟩:=h;obtain ⟨u,rfl,rx⟩:=vals1 r;cases rx;have hn:=line63
 rcases hq with hq | hq
 ·obtain ⟨its,r',pl,hz⟩:=I.list hq
  have hlen:=r'.length;exact Calls.call_len_list pl.isList (by simp only [List.size_toArray] <;> omega) ⟨.int ys.length,H,I.tok _,⟨s.toks+1,by rw [List.size_toArray,hlen]⟩,q⟩
 ·obtain ⟨its,r',pl,hz⟩:=I.tuple hq
  have hlen:=r'.length;exact len_tuple pl (by simp only [List.size_toArray] <;> omega) ⟨.int ys.length,H,I.tok _,⟨s.toks+1,by rw [List.size_toArray,hlen]⟩,q⟩
theorem ui1:CallR X (.builtin "len") (fun xs H Q=>∃ z,xs=[.str z] /\ z.length<=sizeLine /\ Q (.int z.length) H):=by
 intro pins s σ H xs us Q I r h;obtain ⟨z,rfl,hz,q⟩:=h;obtain ⟨u,rfl,t,rfl⟩:=vals1 r;have hn:=line63;exact len_str (by omega) ⟨.int z.length,H,I.tok _,⟨_,rfl⟩,q⟩
theorem CallR.or {f:Value} {r r':List V->Hp->VK->Prop} (h:CallR X f r) (h':CallR X f r'):CallR X f (fun xs H Q=>r xs H Q \/ r' xs H Q):=by
 intro pins s σ H xs us Q I rs q
 rcases q with q | q
 ·exact h pins s σ H xs us Q I rs q
 ·exact h' pins s σ H xs us Q I rs q
theorem ui0:CallR X (.type "list") (fun xs H Q=>∃ p ys,xs=[.ref p] /\ (SqL X.K H p ys \/ SqT X.K H p ys) /\ ∀ l,H l=none->Q (.ref l) (upd H l (.lst ys))):=by
 intro pins s σ H xs us Q I r h;obtain ⟨p,ys,rfl,hq,q⟩:=h;obtain ⟨u,rfl,rx⟩:=vals1 r;cases rx;have fin:∀ (its:List Value),Vals ys its->ys.length<=sizeLine->∀ (h':Heap) (c':Nat),(∀ b o',s.heap.get? b=some o'->h'.get? b=some o') ->
   h'.get? s.heap.objs.size=some { cls:=.type "list",dict:=none,data:=.seq its.toArray c',slots:=#[] }->EP X pins σ Q (.ref s.heap.objs.size) { s with heap:=h' }:=fun its r' hz h' c' kp e =>
  ⟨.ref s.heap.objs.size,_,I.laid (t':=s.toks) kp (Nat.le_refl _) (show ObjOk X.prog X.w _ h' _ (.lst ys) from ⟨hz,its,c',r',e⟩),rfl,q _ (I.hok.fresh (Nat.le_refl _))⟩
 rcases hq with hq | hq
 ·obtain ⟨its,r',pl,hz⟩:=I.list hq
  have hlen:=r'.length;obtain ⟨o,ho,hc,n,hd⟩:=pl.isList;exact call_list_seq p (.inl rfl) ho hc hd (fun h' c' kp e=>fin its r' hz h' c' kp e) (by simp only [List.size_toArray] <;> omega)
 ·obtain ⟨its,r',pl,hz⟩:=I.tuple hq
  have hlen:=r'.length;obtain ⟨o,ho,hc,n,hd⟩:=pl;exact call_list_seq p (.inr rfl) ho hc hd (fun h' c' kp e=>fin its r' hz h' c' kp e) (by simp only [List.size_toArray] <;> omega)
theorem uf7:CallR X (.type "tuple") (fun xs H Q=>∃ p ys,xs=[.ref p] /\ ((SqL X.K H p ys /\ ∀ l,H l=none->Q (.ref l) (upd H l (.tup ys))) \/ (SqT X.K H p ys /\ Q (.ref p) H))):=by
 intro pins s σ H xs us Q I r h;obtain ⟨p,ys,rfl,h⟩:=h;obtain ⟨u,rfl,rx⟩:=vals1 r;cases rx
 rcases h with ⟨hq,q⟩ | ⟨hq,q⟩
 ·obtain ⟨its,r',pl,hz⟩:=I.list hq
  have hlen:=r'.length;refine call_tuple_list pl.isList (fun h' kp=>?_) (by simp only [List.size_toArray] <;> omega);have I1:Inv X pins σ H { s with heap:=h' }:=I.kept (t':=s.toks) kp
  have I2:Inv X pins σ (upd H h'.objs.size (.tup ys)) { s with heap:=h'.push { cls:=.type "tuple",data:=.seq its.toArray } } :=
   I1.laid (t':=s.toks) (fun b o e=>Heap.get?_push_of_some _ e) (Nat.le_refl _) (show ObjOk X.prog X.w _ _ _ (.tup ys) from ⟨hz,its,r',TupD.new _ _⟩)
  exact ⟨.ref h'.objs.size,_,I2,rfl,q _ (I1.hok.fresh (Nat.le_refl _))⟩
 ·obtain ⟨its,r',pl,hz⟩:=I.tuple hq
  exact call_tuple_same pl ⟨.ref p,H,I,rfl,q⟩
def tyV (K:W.Frag) (T:String) (x:V) (H:Hp):Prop:=match x with
 | .str _=>T = "str"
 | .int _=>T = "int"
 | .ref p=>(T = "list" /\ ∃ xs,SqL K H p xs) \/ (T = "tuple" /\ ∃ o,K.lookup p=some o /\ o.cls=.type "tuple" /\ o.dict=none) \/
   (T = "dict" /\ ((∃ kvs,H p=some (.dK kvs)) \/ ∃ kvs,H p=some (.dT kvs))) \/ (T = "set" /\ ∃ S n,H p=some (.set S n))
 | _=>False
theorem v61 {pins:List (Addr × Obj)} {σ:St} {H:Hp} {s:Shared} {T:String} {x:V} {v:Value} (I:Inv X pins σ H s) (r:RelV x v) (ty:tyV X.K T x H) :
  s.TypeIs v T /\ ∀ a,v=.ref a->∃ ob,s.heap.get? a=some ob /\ ob.dict=none:=by
 cases x with
 | str z =>
  obtain ⟨t,rfl⟩:=r;cases (show T = "str" from ty);exact ⟨typeIs_str s z t,fun _ e=>nomatch e⟩
 | int i =>
  obtain ⟨t,rfl⟩:=r;cases (show T = "int" from ty);exact ⟨typeIs_int s i t,fun _ e=>nomatch e⟩
 | ref p =>
  cases r
  rcases ty with ⟨rfl,xs,hq⟩ | ⟨rfl,o,hk,hc,hd⟩ | ⟨rfl,hk⟩ | ⟨rfl,S,n,hk⟩
  ·obtain ⟨its,_,pl,_⟩:=I.list hq
   refine ⟨pl.isList.typeIs,fun a e=>?_⟩;cases e;obtain ⟨o,n,e,c,hd,_⟩:=pl;exact ⟨o,e,hd⟩
  ·refine ⟨⟨o,I.kIn p o hk,hc⟩,fun a e=>?_⟩
   cases e;exact ⟨o,I.kIn _ o hk,hd⟩
  ·have z:∃ o,s.heap.get? p=some o /\ o.ExactDict:=by
    rcases hk with ⟨kvs,hk⟩ | ⟨kvs,hk⟩
    ·obtain ⟨_,_,_,_,o,_,_,e,ex,_⟩:=I.hok p _ hk
     exact ⟨o,e,ex⟩
    ·obtain ⟨_,_,_,_,o,_,_,e,ex,_⟩:=I.hok p _ hk
     exact ⟨o,e,ex⟩
   obtain ⟨o,e,ex⟩:=z;refine ⟨⟨o,e,ex.1⟩,fun a e2=>?_⟩;cases e2;exact ⟨o,e,ex.2.1⟩
  ·obtain ⟨o,_,_,_,e,ex,_⟩:=I.hok p _ hk
   refine ⟨⟨o,e,ex.1⟩,fun a e2=>?_⟩;cases e2;exact ⟨o,e,ex.2.1⟩
 | _=>exact False.elim ty
def tBM0 (K:W.Frag) (T:String) (r:V->List V->Hp->VK->Prop) (to:TE):TE:=fun σ H Q=>to σ H fun x H1=>tyV K T x H1 /\ r x [] H1 Q
def tBM (K:W.Frag) (T:String) (r:V->List V->Hp->VK->Prop) (to:TE) (t:TA):TE:=fun σ H Q=>to σ H fun x H1=>tyV K T x H1 /\ t σ H1 fun xs H2=>r x xs H2 Q
variable {o e:Expr} {es:List Expr} {to:TE} {t:TA} {name:Str} {apos cpos:Pos} {T id:String} {r:V->List V->Hp->VK->Prop}
theorem vo7 (pa:PlainAttrs T) (slot:Slot T name id) (hty:typeOf (.builtin id)=pure (.type "method_descriptor")) (hm:MtR X id r) (ho:PE X o to)
  (hbase:attributeBase o name X.env (eval o X.env)=eval o X.env:=by rfl) (hline:(apos.endLine == cpos.line)=true:=by rfl):PE X (.Call (.Attribute o name apos) [] [] cpos) (tBM0 X.K T r to):=by
 intro pins s σ H Q I h
 (refine wpAny_Call_method0_late hbase hline (thn (ho pins s σ H _ I h) ?_);rintro v s1 ⟨x,H1,I1,r1,ty,q1⟩)
 obtain ⟨h1,h2⟩:=v61 I1 r1 ty;exact ⟨T,id,pa,slot,hty,h1,h2,Calls.callWith_builtin rfl (PySem.evalArgs_none (hm pins s1 σ H1 x [] v [] Q I1 r1 .nil q1))⟩
theorem vd6 (pa:PlainAttrs T) (slot:Slot T name id) (hty:typeOf (.builtin id)=pure (.type "method_descriptor")) (hm:MtR X id r) (ho:PE X o to) (ha:PA X (e::es) t)
  (hbase:attributeBase o name X.env (eval o X.env)=eval o X.env:=by rfl)
  (hfew:((backTo cpos (starEach (e::es) X.env)).all (fun x=>!x.1) && (backToKw cpos (keywordEach [] X.env)).all (fun x=>x.1.isSome)
   && decide ((e::es).length+([]:List Keyword).length+(if ([]:List Keyword).isEmpty then 0 else 1) < 30))=true:=by rfl)
  (hline:(apos.endLine == cpos.line)=true:=by rfl) (hs:starEach (e::es) X.env=(false,eval e X.env)::starEach es X.env:=by rfl) (hplain:(backTo cpos (starEach es X.env)).any (·.1)=false:=by rfl) :
  PE X (.Call (.Attribute o name apos) (e::es) [] cpos) (tBM X.K T r to t):=by
 intro pins s σ H Q I h
 (refine wpAny_Call_method_late hbase hfew hline rfl (thn (ho pins s σ H _ I h) ?_);rintro v s1 ⟨x,H1,I1,r1,ty,q1⟩)
 obtain ⟨h1,h2⟩:=v61 I1 r1 ty;refine ⟨T,id,pa,slot,hty,h1,h2,?_⟩;have hA:=ha cpos pins s1 σ H1 _ I1 q1;rw [hs] at hA ⊢;refine Calls.callWith_builtin (by show (false || (backTo cpos (starEach es X.env)).any (·.1))=false;rw [hplain] <;> rfl) (Calls.evalArgs_plain ?_)
 (refine thn hA ?_;rintro us s2 ⟨vs,H2,I2,r2,q2⟩;exact hm pins s2 σ H2 x vs v us Q I2 r1 r2 q2)
/- xs.append(e),list.index on a module's tuple .. are MtR facts of 06m -/
end
def MtM (X:Cx) (id:String) (r:V->List V->Hp->VK->Prop):Prop :=
 ∀ (pins:List (Addr × Obj)) (s:Shared) (σ:St) (H:Hp) (x:V) (xs:List V) (v:Value) (us:List Value) (Q:VK),Inv X pins σ H s->RelV x v->Vals xs us->r x xs H Q ->
  wpAny (model X.prog X.w) X.A (call (.builtin id) (v::us)) (EP X pins σ Q) X.xe s
theorem Vals.one:∀ {x:V} {us:List Value},Vals [x] us->∃ u,us=[u] /\ RelV x u
 | _,_,.cons r .nil=>⟨_,rfl,r⟩
theorem Vals.two:∀ {x y:V} {us:List Value},Vals [x,y] us->∃ u v,us=[u,v] /\ RelV x u /\ RelV y v
 | _,_,_,.cons r (.cons q .nil)=>⟨_,_,rfl,r,q⟩
theorem Vals.zero:∀ {us:List Value},Vals [] us->us=[]
 | _,.nil=>rfl
theorem Vals.dropLast {xs:List V} {us:List Value} (h:Vals xs us):Vals xs.dropLast us.dropLast:=by
 induction h with
 | nil=>exact .nil
 | cons r t ih =>
  cases t with
  | nil=>exact .nil
  | cons q t'=>exact .cons r ih
theorem Vals.eraseIdx:∀ {xs:List V} {us:List Value} (i:Nat),Vals xs us->Vals (xs.eraseIdx i) (us.eraseIdx i)
 | _,_,_,.nil=>.nil
 | _,_,0,.cons _ t=>t
 | _,_,i+1,.cons r t=>.cons r (Vals.eraseIdx i t)
theorem Vals.reverse {xs:List V} {us:List Value} (h:Vals xs us):Vals xs.reverse us.reverse:=by
 induction h with
 | nil=>exact .nil
 | cons r t ih=>rw [List.reverse_cons,List.reverse_cons];exact Vals.append ih (.cons r .nil)
theorem Vals.rep {xs:List V} {us:List Value} (h:Vals xs us):∀ k:Nat,Vals (List.replicate k xs).flatten (List.replicate k us).flatten
 | 0=>.nil
 | k+1=>by
  rw [List.replicate_succ,List.replicate_succ,List.flatten_cons,List.flatten_cons];exact Vals.append h (Vals.rep h k)
theorem up6 {α:Type} (l:List α):l.eraseIdx (l.length - 1)=l.dropLast:=by
 induction l with
 | nil=>rfl
 | cons a r ih =>
  cases r with
  | nil=>rfl
  | cons b r =>
   have e:(a::b::r).length - 1=((b::r).length - 1)+1:=by
    have h1:(a::b::r).length=r.length+2:=rfl;have h2:(b::r).length=r.length+1:=rfl;omega
   rw [e,List.eraseIdx_cons_succ,ih]
   all_goals rfl
theorem foldl_rep (its:List Value):∀ (k:Nat) (acc:List Value),
  List.foldl (fun x1 x2=>x1++x2) acc.toArray (List.replicate k its.toArray)=(acc++(List.replicate k its).flatten).toArray
 | 0,acc=>by simp
 | k+1,acc=>by
  have e:acc.toArray++its.toArray=(acc++its).toArray:=by simp
  have e2:(acc++its)++(List.replicate k its).flatten=acc++(List.replicate (k+1) its).flatten:=by
   rw [List.replicate_succ,List.flatten_cons,List.append_assoc]
  rw [<- e2,<- foldl_rep its k (acc++its),<- e,List.replicate_succ,List.foldl_cons]
section
variable {X:Cx} {pins:List (Addr × Obj)} {σ:St} {H:Hp} {s:Shared} {l b:Addr} {xs ys zs:List V}
theorem Inv.lset {its its':List Value} {n:Nat} {f:Array Value->Array Value} {t':Nat} (I:Inv X pins σ H s) (hH:H l=some (.lst xs))
  (e:s.heap.get? l=some { cls:=.type "list",data:=.seq its.toArray n }) (hf:f its.toArray=its'.toArray) (hv:Vals ys its') (hz:ys.length<=sizeLine) :
  Inv X pins σ (upd H l (.lst ys)) { s with heap:=s.heap.update l (Obj.mapSeq f),toks:=t' }:=by
 have q:=PySem.IsL.update e f;rw [hf] at q;refine I.write (x:=l) (e:=l) (by rw [hH];exact trivial) (.inl rfl) (fun b' u hb hu=>(Heap.get?_update_other s.heap (Obj.mapSeq f) (Ne.symm hb)).trans hu) ⟨_,q⟩ ?_;exact ⟨hz,its',_,hv,q⟩
theorem Inv.lnew {its:List Value} {t':Nat} (I:Inv X pins σ H s) (hv:Vals ys its) (hz:ys.length<=sizeLine) :
  Inv X pins σ (upd H s.heap.objs.size (.lst ys)) { s with heap:=s.heap.push { cls:=.type "list",data:=.seq its.toArray },toks:=t' } :=
 I.laid (fun _ _ q=>Heap.get?_push_of_some _ q) (Nat.le_refl _) ⟨hz,its,0,hv,Heap.get?_push_size _ rfl⟩
theorem Inv.fresh (I:Inv X pins σ H s):H s.heap.objs.size=none:=I.hok.fresh (Nat.le_refl _)
theorem Inv.lstM (I:Inv X pins σ H s) (hH:H l=some (.lst xs)):xs.length<=sizeLine /\ ∃ (its:List Value) (n:Nat),Vals xs its /\ xs.length=its.length /\ s.heap.get? l=some { cls:=.type "list",data:=.seq its.toArray n }:=by
 obtain ⟨z,its,n,r,e⟩:=I.hok l _ hH;exact ⟨z,its,n,r,r.length,e⟩
theorem um3 {n:Nat} (h:n<=sizeLine):Builtin.List.listTooLong n=false:=by
 unfold Builtin.List.listTooLong;exact decide_eq_false (by omega)
end
section
variable {X:Cx}
def vc4:V->List V->Hp->VK->Prop:=fun x vs H Q=>∃ l xs y,x=.ref l /\ vs=[y] /\ H l=some (.lst xs) /\ xs.length < sizeLine /\ Q .non (upd H l (.lst (xs++[y])))
theorem uh0:MtM X "list.append" vc4:=by
 intro pins s σ H x vs v us Q I rx rv h;obtain ⟨l,xs,y,rfl,rfl,hH,hz,q⟩:=h;cases rx;obtain ⟨u,rfl,ru⟩:=rv.one;obtain ⟨z,its,n,r,hl,e⟩:=I.lstM hH;refine call_meets F.slot_list_append ⟨_,e,rfl⟩ F.entry_list_append (F.args_list_append_2 _ _) (PySem.list_append l its.toArray n u (by rw [List.size_toArray];omega)) ⟨e,?_⟩;refine ⟨.non,_,I.lset (its':=its++[u]) hH e (by simp) (r.append (.cons ru .nil)) ?_,rfl,q⟩;rw [List.length_append,List.length_singleton];omega
def vc3:V->List V->Hp->VK->Prop:=fun x vs H Q=>∃ l b xs zs,x=.ref l /\ vs=[.ref b] /\ H l=some (.lst xs) /\ H b=some (.lst zs) /\ xs.length+zs.length<=sizeLine /\ Q .non (upd H l (.lst (xs++zs)))
theorem uu4:MtM X "list.extend" vc3:=by
 intro pins s σ H x vs v us Q I rx rv h;obtain ⟨l,b,xs,zs,rfl,rfl,hH,hB,hz,q⟩:=h;cases rx;obtain ⟨u,rfl,ru⟩:=rv.one;cases ru;obtain ⟨z,its,n,r,hl,e⟩:=I.lstM hH;obtain ⟨z2,its2,n2,r2,hl2,e2⟩:=I.lstM hB;have hsz:its.toArray.size+its2.toArray.size<=sizeLine:=by rw [List.size_toArray,List.size_toArray];omega
 have hlong:¬ (!its.toArray.isEmpty && Builtin.List.listTooLong (its.toArray.size+its2.toArray.size))=true:=by
  rw [um3 hsz,Bool.and_false];exact Bool.false_ne_true
 refine call_meets F.slot_list_extend ⟨_,e,rfl⟩ F.entry_list_extend (F.args_list_extend_2 _ _)
  (AutoSeq1.list_extend_list_list_0 l its.toArray n b its2.toArray n2 hlong (by rw [List.size_toArray];omega) (by omega)) ⟨e,e2,?_⟩
 refine ⟨.non,_,I.lset (its':=its++its2) hH e (by simp) (r.append r2) ?_,rfl,q⟩;rw [List.length_append];omega
def rPop:V->List V->Hp->VK->Prop:=fun x vs H Q=>∃ l xs y,x=.ref l /\ vs=[] /\ H l=some (.lst xs) /\ xs[xs.length - 1]?=some y /\ Q y (upd H l (.lst xs.dropLast))
theorem w26:MtM X "list.pop" rPop:=by
 intro pins s σ H x vs v us Q I rx rv h;obtain ⟨l,xs,y,rfl,rfl,hH,hy,q⟩:=h;cases rx;have hus:=rv.zero;subst hus;obtain ⟨z,its,n,r,hl,e⟩:=I.lstM hH;obtain ⟨u,hu,ru⟩:=r.get hy;have hy':its.toArray[its.toArray.size - 1]?=some u:=by
  show its.toArray[its.length - 1]?=some u
  rw [<- Array.getElem?_toList,<- hl];exact hu
 refine call_meets F.slot_list_pop ⟨_,e,rfl⟩ F.entry_list_pop (F.args_list_pop_1 _) (MeetsSeq.list_pop_last l its.toArray n u hy' (by rw [List.size_toArray];omega)) ⟨e,?_⟩;refine ⟨y,_,I.lset (its':=its.dropLast) hH e ?_ r.dropLast ?_,ru,q⟩
 ·show its.toArray.eraseIdxIfInBounds (its.toArray.size - 1)=its.dropLast.toArray
  rw [List.size_toArray,List.eraseIdxIfInBounds_toArray,up6]
 ·rw [List.length_dropLast]
  omega
def vm7:V->List V->Hp->VK->Prop:=fun x vs H Q=>∃ l xs,x=.ref l /\ vs=[] /\ H l=some (.lst xs) /\ Q .non (upd H l (.lst []))
theorem v06:MtM X "list.clear" vm7:=by
 intro pins s σ H x vs v us Q I rx rv h;obtain ⟨l,xs,rfl,rfl,hH,q⟩:=h;cases rx;have hus:=rv.zero;subst hus;obtain ⟨z,its,n,r,hl,e⟩:=I.lstM hH;refine call_meets F.slot_list_clear ⟨_,e,rfl⟩ F.entry_list_clear (F.args_list_clear_1 _) (AutoSeq1.list_clear_list_0 l its.toArray n (by rw [List.size_toArray];omega)) ⟨e,?_⟩;exact ⟨.non,_,I.lset (its':=[]) (ys:=[]) hH e rfl .nil (Nat.zero_le _),rfl,q⟩
def rCat:R2:=fun x y H Q=>∃ l b xs zs,x=.ref l /\ y=.ref b /\ H l=some (.lst xs) /\ H b=some (.lst zs) /\ xs.length+zs.length<=sizeLine /\ ∀ p,H p=none->Q (.ref p) (upd H p (.lst (xs++zs)))
theorem vp6:OpR X (binaryOp .Add) rCat:=by
 intro pins s σ H x y v u Q I rx ry h;obtain ⟨l,b,xs,zs,rfl,rfl,hH,hB,hz,q⟩:=h;cases rx;cases ry;obtain ⟨z,its,n,r,hl,e⟩:=I.lstM hH;obtain ⟨z2,its2,n2,r2,hl2,e2⟩:=I.lstM hB;refine PySem.P.add_list e e2 ?_ (by rw [List.size_toArray,List.size_toArray];omega);have ea:its.toArray++its2.toArray=(its++its2).toArray:=by simp
 rw [ea];exact ⟨.ref _,_,I.lnew (t':=s.toks) (r.append r2) (by rw [List.length_append];omega),rfl,q _ I.fresh⟩
def rRep:R2:=fun x y H Q=>∃ l k xs,x=.ref l /\ y=.int k /\ H l=some (.lst xs) /\ -(2 ^ 63)<=k /\ k < 2 ^ 63 /\ xs.length * k.toNat<=sizeLine /\
 ∀ p,H p=none->Q (.ref p) (upd H p (.lst (List.replicate k.toNat xs).flatten))
theorem len_rep {α:Type} (xs:List α) (k:Nat):(List.replicate k xs).flatten.length=k * xs.length:=by
 induction k with
 | zero=>simp
 | succ k ih=>rw [List.replicate_succ,List.flatten_cons,List.length_append,ih,Nat.succ_mul,Nat.add_comm]
theorem vp1:OpR X (binaryOp .Mult) rRep:=by
 intro pins s σ H x y v u Q I rx ry h;obtain ⟨l,k,xs,rfl,rfl,hH,h1,h2,hz,q⟩:=h;cases rx;obtain ⟨t,rfl⟩:=ry;obtain ⟨z,its,n,r,hl,e⟩:=I.lstM hH;have hlen:its.toArray.size * k.toNat<=sizeLine:=by rw [List.size_toArray,<- hl];exact hz
 have hcap:¬ its.toArray.size * k.toNat > (2 ^ 63 - 1) / 8:=by
  have:(sizeLine:Nat)<=(2 ^ 63 - 1) / 8:=by decide
  omega
 have hfit:¬ (!Builtin.List.listFitsIndex k)=true:=by
  rw [fitsIndex_both h1 h2];exact Bool.false_ne_true
 have hlong:¬ Builtin.List.listTooLong (its.toArray.size * k.toNat)=true:=by
  rw [um3 hlen];exact Bool.false_ne_true
 have hnew:List.foldl (fun x1 x2=>x1++x2) #[] (List.replicate (if its.toArray.isEmpty=true then 0 else k.toNat) its.toArray)=(List.replicate k.toNat its).flatten.toArray:=by
  have f0:∀ m:Nat,List.foldl (fun x1 x2=>x1++x2) #[] (List.replicate m its.toArray)=(List.replicate m its).flatten.toArray:=fun m=>by
   have:=foldl_rep its m [];rw [List.nil_append] at this;exact this
  rw [f0];cases its with
  | nil=>simp
  | cons a r'=>rw [if_neg (by simp)]
 refine wpAny_binaryOp_repeat_ref (T := "list") (U := "int") (by decide) ⟨_,e,rfl⟩ (fun s'=>typeIs_int s' k t) noFill_list_mul F.fills_int_mul F.slot_int_rmul repeat_list F.slot_int_index.lookup
  (call_meets F.slot_int_rmul (typeIs_int s k t) F.entry_int_rmul (F.args_int_rmul_2 _ _) (int___rmul___int_list k t l its.toArray n)
   ⟨e,rfl,⟨_,e,rfl⟩,call_meets F.slot_list_mul ⟨_,e,rfl⟩ F.entry_list_mul (F.args_list_mul_2 _ _) (AutoListH.list___mul___list_int_3 l its.toArray n k t hfit hcap hlong) ⟨e,?_⟩⟩)
 rw [hnew];exact ⟨.ref _,_,I.lnew (t':=s.toks) (r.rep k.toNat) (by rw [len_rep,Nat.mul_comm];exact hz),rfl,q _ I.fresh⟩
end
end L2
namespace Att
open PySem PySem.W PySem.Calls PyProof.Rows
theorem ub7 {P:Params} {h:Heap}:∀ (ns:List Int) (vs:List Value),WellAll P h vs (ns.map WData.int)->IntsAre vs ns:=by
 intro ns
 induction ns with
 | nil =>
  intro vs w;rw [List.map_nil] at w;cases w;exact .nil
 | cons n ns ih =>
  intro vs w;rw [List.map_cons] at w;cases w with
  | cons a b =>
   cases a;exact .cons _ _ (ih _ b)
theorem us3 {l:OpenLaw} {n:Nat} (hn:l.most=some n) {P:Params} {h:Heap} {args:List WData} {vals:List Value}
  (hpre:l.row.toRowW.claim.pre args=true) (hwl:WellAll P h vals args) :
  ∃ a vs ns,vals=[Value.ref a] /\ args=[WData.list (ns.map WData.int)] /\ h.get? a=some { cls:=.type "list",data:=.seq vs.toArray } /\ IntsAre vs ns /\ ns.length<=n:=by
 have hsh:WShape.hasAll [] args [.list .int]=true:=(pre_splitW hpre).1;have hc:l.pre.holds [] { args:=args }=true:=(pre_splitW hpre).2;obtain ⟨d,r,rfl,h1,h2⟩:=hasAllW_cons hsh;obtain rfl:=hasAllW_nil h2;obtain ⟨xs,rfl,h3⟩:=hasW_list h1;obtain ⟨ns,rfl⟩:=items_int h3;have hlen:ns.length<=n:=by
  unfold OpenLaw.pre at hc;have h4:(WTm.not (.lt (.lit (.int (n:Int))) (.len (.arg 0)))).holds [] { args:=[.list (ns.map .int)] }=true:=by
   have h4:=(holds_andW hc).1;rw [hn] at h4;exact h4
  have h5:=condW_of h4 (w_not (w_lt w_lit (w_len_list (w_arg rfl))));rw [List.length_map] at h5;refine Nat.le_of_not_lt fun q=>?_
  have q':(n:Int) < ((ns.length:Nat):Int):=by omega
  first
   | (rw [decide_eq_true q'] at h5;exact absurd h5 (by decide))
   | (simp at h5;omega)
 cases hwl with
 | cons w1 w2 =>
  cases w2;cases w1 with
  | list ho hall=>exact ⟨_,_,ns,rfl,rfl,ho,ub7 ns _ hall,hlen⟩
theorem ut4 (l:OpenLaw) (args:List WData):l.row.toRowW.claim.post args (.bool true) args=true :=
 postW_of (r:=l.row.toRowW) (X:=(true == true))
  (show WShape.has [] (.bool true) .bool=true by first | rfl | decide | simp [WShape.has,WShape.arms,WShape.armsAll])
  (show (WTm.eq .res (.lit (.bool true))).value [] { args:=args,res:=some (.bool true),after:=args }=some (.bool (true == true)) from w_eq_bool (w_res rfl) w_lit) rfl
theorem attach_call {l:OpenLaw} {n:Nat} {q:Program} {loose:List Str} {XP:(Str->Option Value)->Heap->Prop} {YP:World->Heap->Prop} {d:DefRec}
  (hn:l.most=some n) (hdf:d.params.defaults=[])
  (call:∀ (w:World) (s₀ s₁:Shared) (mg mb:Str->Option Value) (fa:Addr) (o:Obj) (pm cd doc:Value) (a:Addr) (vs:List Value) (ns:List Int),
   Ground q loose [] XP w s₀ mg mb s₁.heap->YP w s₁.heap ->
   s₁.heap.get? fa=some o->o.data=.func (docDef d.name d.params d.body d.scope pm cd doc)->s₁.heap.CodeRec cd d.name->mg d.name=some (.ref fa) ->
   s₁.heap.get? a=some { cls:=.type "list",data:=.seq vs.toArray }->IntsAre vs ns->ns.length<=n->s₁.gens=#[] ->
   codeAny (model l.prog w) callerA (.call (.ref fa) ⟨[.ref a],[]⟩) (fun r s'=>r=.ok (.ret (.bool true)) /\ OldK s₁.heap s'.heap /\ s'.os=s₁.os /\ AllBare s'.gens) s₁) :
  WalkO q loose XP YP l.row.toRowW d [] (fun f vs=>PySem.call f vs):=by
 intro w s₀ s₁ mg mb G Y fa o pm cd doc dV kV ho hd hcd hD hmg hg args vals as hpre hlay hrd hwl hlo;obtain rfl:dV=.none:=Dflts.none hD hdf;obtain rfl:kV=.none:=Dflts.noKw hD;obtain ⟨a,vs,ns,rfl,rfl,hobj,hints,hlen⟩:=us3 hn hpre hwl;refine enter_call (codeAny_mono (call w s₀ s₁ mg mb fa o pm cd doc a vs ns G Y ho (fd_plain hd) hcd hmg hobj hints hlen hg) fun r s' hq=>?_);obtain ⟨rfl,h2,h3,h4⟩:=hq;exact ⟨.inl ⟨.bool true,.bool true,[],rfl,fun _=>rfl,.bool true,ut4 l _,fun _=>⟨List.Pairwise.nil,fun _ hm=>(nomatch hm)⟩⟩,h2,h3,h4⟩
end Att
namespace L2
open PySem PySem.Spec PyProof.Rows
theorem ua4:∀ {vs:List Value} {ns:List Int},IntsAre vs ns->Vals (ns.map V.int) vs
 | _,_,.nil=>.nil
 | _,_,.cons n t h=>.cons ⟨t,rfl⟩ (ua4 h)
def Only (H:Hp):Prop:=∀ b,H b=none \/ ∃ o xs,H b=some (.frz o (.lst xs))
theorem v24 {P:Program} {w:World} {K:W.Frag} {mg mb:Str->Option Value} {CX:CXT} {k:Nat} {fa a:Addr} {fd:FuncData} {x:Str} {sp:Sp} {s₁:Shared} {vs:List Value} {ns:List Int}
  (KX:K.In s₁.heap) (hns:s₁.heap.Ns mainGlobals mg) (hb:s₁.heap.Ns builtinsNs mb) (hbb:∀ x:Str,x ≠ "__name__" -> mb x=bootBuiltins x) (hlim:s₁.heap.NoLimit) (hg:s₁.gens=#[])
  (ha:s₁.heap.get? a=some { cls:=.type "list",data:=.seq vs.toArray }) (hi:IntsAre vs ns) (hl:ns.length<=sizeLine) (hr:Room k callerA)
  (F:∀ base:Heap,K.In base->base.Ns mainGlobals mg->FnOk P w K mg base CX k fa fd [x] sp) (hbind:∀ (s:Shared) (u:Value),BindsTo s fd ⟨[u],[]⟩ [(x,u)])
  (hsp:∀ H:Hp,Only H->SqL K H a (ns.map V.int)->sp [.ref a] H (fun v _=>v=.bl true) fun _ _ _=>False)
  (hCX:∀ H e s',CX [] H s₁ (fun _ _ _=>False) e s'->False) :
  codeAny (model P w) callerA (.call (.ref fa) ⟨[.ref a],[]⟩) (fun r s'=>r=.ok (.ret (.bool true)) /\ OldK s₁.heap s'.heap /\ s'.os=s₁.os /\ AllBare s'.gens) s₁:=by
 have rv:=ua4 hi;have lenV:=hi.length;have core:∀ H:Hp,Only H->SqL K H a (ns.map V.int)->HOk P w H s₁.heap->(∀ b,H b ≠ none->b=a)->(H a ≠ none->K.lookup a=none) ->
   codeAny (model P w) callerA (.call (.ref fa) ⟨[.ref a],[]⟩) (fun r s'=>r=.ok (.ret (.bool true)) /\ OldK s₁.heap s'.heap /\ s'.os=s₁.os /\ AllBare s'.gens) s₁:=by
  intro H hO hS hok hA hK;have base_of:∀ {b:Addr} {o:Obj},s₁.heap.get? b=some o->H b=none->(hidT s₁.heap H).get? b=some o:=fun e n=>v29 e n
  have noA:∀ {b:Addr} {o:Obj} {es:Array DictEntry} {ep:Nat},s₁.heap.get? b=some o->o.data=.dict es ep->H b=none:=fun {b o es ep} e d=>by
   cases q:H b with
   | none=>rfl
   | some u =>
    have e':b=a:=hA b (by rw [q];simp);subst e';rw [ha] at e;cases e;have d':Data.seq vs.toArray _=Data.dict es ep:=d;cases d'
  have nsK:∀ {b:Addr} {m:Str->Option Value},s₁.heap.Ns b m->(hidT s₁.heap H).Ns b m:=fun {b m} ⟨o,es,ep,e,d,r⟩=>⟨o,es,ep,base_of e (noA e d),d,r⟩
  have hKb:K.In (hidT s₁.heap H):=fun b o e=>base_of (KX b o e) (by
   cases q:H b with
   | none=>rfl
   | some u =>
    have e':b=a:=hA b (by rw [q];simp);subst e';rw [hK (by rw [q];simp)] at e;cases e)
  have hM:Mod K mg (hidT s₁.heap H):=⟨hKb,nsK hns,⟨mb,nsK hb,hbb⟩,let ⟨mc,h1,h2⟩:=hlim;⟨mc,nsK h1,h2⟩⟩;have e0:Env0 P w K mg (hidT s₁.heap H) callerA [] s₁ H:=⟨rfl,hM,fun b o e=>ve3 e,Nat.le_of_eq (uv9 _ _),trivial,fun b hb=>absurd (show b ∈ ([]:List Addr) from hb) (by simp),hok,.of_eq hg⟩;refine codeAny_mono ((F _ hKb (nsK hns)).run callerA [] s₁ H ⟨[.ref a],[]⟩ [.ref a] [.ref a] _ _ hr e0 (hbind s₁ (.ref a)) (.cons rfl .nil) (hsp H hO hS)) fun r s' h=>?_
  cases r with
  | error e=>exact (hCX H e s' h).elim
  | ok fl =>
   cases fl with
   | next=>exact False.elim h
   | brk=>exact False.elim h
   | cont=>exact False.elim h
   | ret u =>
    obtain ⟨v,H',os,bare,un,hok',r',q⟩:=h;have q':v=.bl true:=q;subst q';obtain rfl:u=Value.bool true:=r';refine ⟨rfl,OldK.of_keep fun b o e=>?_,os,bare⟩;cases q:H b with
    | none=>exact un.keep b o e q (by intro z;exact absurd (show b ∈ ([]:List Addr) from z) (by simp)) (by simp)
    | some u =>
     rcases hO b with z | ⟨ob,xs,z⟩
     ·rw [q] at z;cases z
     ·have z2:=un.frzs b ob ⟨_,by intro _ e;cases e⟩ z
      obtain ⟨e1,_⟩:=hok b _ z;obtain ⟨e2,_⟩:=hok' b _ z2;rw [e] at e1;cases e1;exact e2
 cases hk:K.lookup a with
 | some o =>
  have e:=KX a o hk;rw [ha] at e;cases e;refine core (fun _=>none) (fun _=>.inl rfl) (.inr ⟨_,vs.toArray,_,hk,rfl,rfl,rfl,by rw [List.size_toArray,lenV];exact hl,by simpa using rv⟩) (fun b u z=>by have z':(none:Option HO)=some u:=z;cases z') (fun b z=>absurd rfl z) fun z=>absurd rfl z
 | none =>
  refine core (fun b=>if b=a then some (.frz { cls:=.type "list",data:=.seq vs.toArray } (.lst (ns.map V.int))) else none) (fun b=>?_) (.inl (.inr ⟨{ cls:=.type "list",data:=.seq vs.toArray },if_pos rfl⟩)) (fun b u z=>?_) (fun b z=>?_) fun _=>hk
  ·by_cases hb:b=a
   ·exact .inr ⟨_,_,if_pos hb⟩
   ·exact .inl (if_neg hb)
  ·by_cases hb:b=a
   ·have z':=(if_pos hb).symm.trans z
    cases z';subst hb;exact ⟨ha,by rw [List.length_map];exact hl,vs,_,rv,ha⟩
   ·have z':=(if_neg hb).symm.trans z
    cases z'
  ·by_cases hb:b=a
   ·exact hb
   ·exact absurd (if_neg hb) z
abbrev KOf {K:W.Frag} {h:Heap} (_:K.In h):W.Frag:=K
theorem walk_of {l:W.OpenLaw} {n k:Nat} {q:Program} {loose:List Str} {XP:(Str->Option Value)->Heap->Prop} {YP:World->Heap->Prop} {d:DefRec} {K:Params->W.Frag} {CX:World->CXT} {sp:World->Sp} {x:Str}
  (hn:l.most=some n) (hn2:n<=sizeLine) (hdf:d.params.defaults=[]) (hr:Room k callerA)
  (hY:∀ (w:World) (h:Heap),YP w h->(K w.params).In h)
  (F:∀ (w:World) (mg:Str->Option Value) (fa:Addr) (h:Heap),(K w.params).In h->h.Ns mainGlobals mg->mg d.name=some (.ref fa) ->
   ∃ fd:FuncData,(∀ (s:Shared) (u:Value),BindsTo s fd ⟨[u],[]⟩ [(x,u)]) /\
    ∀ base:Heap,(K w.params).In base->base.Ns mainGlobals mg->FnOk l.prog w (K w.params) mg base (CX w) k fa fd [x] (sp w))
  (hsp:∀ (w:World) (H:Hp) (a:Addr) (ns:List Int),ns.length<=n->Only H->SqL (K w.params) H a (ns.map V.int)->sp w [.ref a] H (fun v _=>v=.bl true) fun _ _ _=>False)
  (hCX:∀ (w:World) (H:Hp) (s:Shared) (e:Value) (s':Shared),CX w [] H s (fun _ _ _=>False) e s'->False) :
  W.WalkO q loose XP YP l.row.toRowW d [] (fun f vs=>PySem.call f vs):=by
 refine Att.attach_call hn hdf fun w s₀ s₁ mg mb fa o pm cd doc a vs ns G Y ho hd hcd hmg hobj hints hlen hg=>?_
 have KX:=hY w _ Y;obtain ⟨fd,hb,hF⟩:=F w mg fa _ KX G.T.g hmg;exact v24 KX G.T.g G.T.b G.T.builtins G.T.nolimit hg hobj hints (Nat.le_trans hlen hn2) hr hF hb (fun H hO hS=>hsp w H a ns hlen hO hS) fun H e s'=>hCX w H s₁ e s'
end L2
/- THE LAST THEOREM (shape; LID,My.* are yours):
   My.Adr: a structure of the addresses that your layer names (classes,functions);My.Txt K t: a structure (Prop) of the equations over K;
   My.txt_mk:{K} {implicit addresses ..} (e1:nsIn K mainGlobals "law" = some (some (.ref f))) (e2:K.lookup f=some ⟨oc,od,.func (fnOf "law" "law" params body scope dV kV doc pm an cdv ct),sl⟩) (e3:codeIn K cdv "law" = true) ..:∃ t,My.Txt K t
set_option maxHeartbeats 0 in
theorem PySem.Challenge.cw_LID_holds:PySem.Challenge.rw_LID.Holds:=by
 w_on;o_law;k_head;(case hw=>w_witness2)
 k_fill
 refine L2.walk_of (l:=PySem.Challenge.rw_LID) (n:=63) (k:=40) (x := "script") (CX:=fun w=>..) (sp:=fun _=>My.sp_law) rfl (by decide) rfl ⟨rfl,by decide,by decide⟩ (fun w h Y=>W.kIn_of Y) ?F ?S ?C
 case F =>
  intro w mg fa h KX G hmg;have T:∃ t,My.Txt (L2.KOf KX) t:=by
   dsimp only [L2.KOf]                          -- K must stand as «<heap const> w.params» for k_is;refine' My.txt_mk ?e1 ?e2 ?e3 ..
   (case e1=>W.k_is)                    -- in the order: a name->its address->its object->its parts
   (case e2=>W.k_is)
   ..
  obtain ⟨t,T⟩:=T;have e0:=hmg.symm.trans (W.mg_of KX G T.law);cases e0                                       -- fa is the law's own address;exact ⟨_,fun s u=>.of_eq rfl,fun base kb nb=>My.law_fn T kb nb⟩     -- if «.of_eq rfl» comes too early: refine' ⟨_,?b,fun base kb nb=>My.law_fn T kb nb⟩;exact fun s u=>.of_eq rfl
 case S=>exact fun w H a ns hl hO hS=>..
 case C=>exact ..
(the tactic k_is has no namespace: write k_is) -/
namespace L2
open PySem PySem.Spec PyProof.Rows
def inClass (s:Stmt) (j:Nat):Stmt:=match s with
 | .ClassDef _ _ _ body _ _ _ _ _ _ _=>body.getD j (.Pass ⟨0,0,0,0⟩)
 | _=>.Pass ⟨0,0,0,0⟩
def u33 (s:Stmt):Arguments:=match s with
 | .FunctionDef _ a _ _ _ _ _ _ _ _=>a
 | _=>{ posonlyargs:=[],args:=[],vararg:=none,kwonlyargs:=[],kw_defaults:=[],kwarg:=none,defaults:=[] }
def u26 (s:Stmt):List Stmt:=match s with
 | .FunctionDef _ _ b _ _ _ _ _ _ _=>b
 | _=>[]
def u05 (s:Stmt):Scope:=match s with
 | .FunctionDef _ _ _ _ _ _ sc _ _ _=>sc
 | _=>{ kind:=.function,names:=[],isGenerator:=false,isCoroutine:=false }
abbrev CX0:CXT:=fun _ _ _ _ _ _=>False
abbrev E0:XK:=fun _ _ _=>False
theorem pass0 {X:Cx}:Passes CX0 X E0:=fun _ _ _ _ _ _ _ h=>h.elim
section
variable {X:Cx}
theorem pv (i:Nat) {x:Str} {pos:Pos} (hN:X.N[i]?=some x:=by rfl) (hv:Vis X.env.scope x:=by first | exact Or.inl rfl | exact Or.inr (Or.inl rfl) | exact Or.inr (Or.inr rfl)) (hd:(x == ("__debug__" : Str))=false:=by decide)
  (hcd:(x == ("__classdict__" : Str))=false:=by decide):PE X (.Name x pos) (tVar i):=ut7 hN hv hd hcd
end
def Same (H H':Hp):Prop:=∀ b o,H b=some o->H' b=some o
theorem Same.refl (H:Hp):Same H H:=fun _ _ h=>h
theorem Same.trans {H H1 H2:Hp} (a:Same H H1) (b:Same H1 H2):Same H H2:=fun c o h=>b c o (a c o h)
theorem Same.free {H H':Hp} (e:Same H H') {l:Addr} (h:H' l=Option.none):H l=Option.none:=by
 cases q:H l with
 | none=>rfl
 | some o =>
  rw [e l o q] at h;cases h
theorem Same.seq {K:W.Frag} {H H':Hp} {a:Addr} {xs:List V} (e:Same H H') (h:SqL K H a xs):SqL K H' a xs:=by
 rcases h with (h | ⟨o,h⟩) | h
 ·exact .inl (.inl (e _ _ h))
 ·exact .inl (.inr ⟨o,e _ _ h⟩)
 ·exact .inr h
theorem vf7 {prog:Program} {w:World} {A:Around} {R:Result->Shared->Prop} {s:Shared} {elt target iter:Expr} {ifs:List Expr} {scope:Scope} {pos:Pos} {it acc:Value} {env:Env} (I:Nat->Shared->Prop)
  (turn:∀ n s,I n s->wpAny (model prog w) A (pyNext it) (fun r s₁=>match r with
   | none=>R (.ok .next) s₁
   | some v=>wpAny (model prog w) A (letOwnedTupleGo target it v) (fun _ s₁=>wpAny (model prog w) A (assign target env v) (fun _ s₂ =>
     wpAny (model prog w) A (forIn ifs true fun c r=>if r=true then do let ok <- isTrue c env (eval c env);pure (ForInStep.yield ok) else pure (ForInStep.yield r)) (fun ok s₃ =>
      if ok=true then wpAny (model prog w) A (eval elt env) (fun x s₄ =>
       wpAny (model prog w) A (call (.builtin "list.append") [acc,x]) (fun _ s₅=>∃ m,m < n /\ I m s₅) (fun _ _=>False) s₄) (fun _ _=>False) s₃
      else ∃ m,m < n /\ I m s₃) (fun _ _=>False) s₂) (fun _ _=>False) s₁) (fun _ _=>False) s₁) (fun _ _=>False) s)
  (n:Nat) (h:I n s) :
  codeAny (model prog w) A (.compLoop (.ListComp elt [⟨target,iter,ifs,0⟩] scope pos) 0 it acc env) R s:=by
 refine codeAny_loop rfl I (fun n s hI=>?_) n h
 show wpAny _ A ((compTurn (.ListComp elt [⟨target,iter,ifs,0⟩] scope pos) 0 it acc env).onRaise (fun x=>do noteFrame x env;theTreesLotGoes x)) _ _ s
 refine wpAny_noted ?_;rw [compTurn_list];refine wpAny_bind (wpAny_standAt (wpAny_bind (wpAny_mono (turn n s hI) (fun r s₁ h₁=>?_) fun _ _ h'=>h'.elim)));cases r with
 | none=>exact wpAny_pure h₁
 | some v =>
  refine wpAny_bind (wpAny_mono h₁ (fun _ s₂ h₂=>?_) fun _ _ h'=>h'.elim);refine wpAny_bind (wpAny_mono h₂ (fun _ s₂ h₂=>wpAny_bind (wpAny_mono h₂ (fun ok s₃ h₃=>?_) fun _ _ h'=>h'.elim)) fun _ _ h'=>h'.elim);cases ok with
  | false=>exact wpAny_pure ⟨rfl,h₃⟩
  | true =>
   exact wpAny_bind (wpAny_bind (wpAny_mono h₃ (fun x s₄ h₄=>wpAny_bind (wpAny_mono h₄ (fun _ s₅ h₅=>wpAny_pure (wpAny_pure ⟨rfl,h₅⟩)) fun _ _ h'=>h'.elim)) fun _ _ h'=>h'.elim))
def clOf (env:Env):List (Str × NameKind)->List (Str × Addr)->List (Str × Addr)
 | [],cs=>cs
 | (x,k)::r,cs=>clOf env r (if (k == .free)=true then (x,(env.cells.lookup x).getD 0)::cs else cs)
theorem uk2 {env:Env} {x:Str} {c:Addr} (h:env.cells.lookup x=some c):cellOf env x=pure c:=by
 unfold cellOf;rw [h]
theorem uq1 {scope:Scope} {env:Env} (h:∀ y ∈ scope.names,y.2=.free->∃ c,env.cells.lookup y.1=some c):closureFor scope env=pure (clOf env scope.names []):=by
 have key:∀ (l:List (Str × NameKind)) (cs:List (Str × Addr)),(∀ y ∈ l,y.2=.free->∃ c,env.cells.lookup y.1=some c) ->
   (forIn l cs fun (y:Str × NameKind) r=>if (y.2 == NameKind.free)=true then do let c <- cellOf env y.1;pure (ForInStep.yield ((y.1,c)::r)) else pure (ForInStep.yield r):Sem (List (Str × Addr)))=pure (clOf env l cs):=by
  intro l
  induction l with
  | nil=>intro cs _;rfl
  | cons y r ih =>
   intro cs hl;obtain ⟨x,k⟩:=y;rw [List.forIn_cons]
   by_cases hk:k=.free
   ·subst hk
    obtain ⟨c,hc⟩:=hl (x,.free) List.mem_cons_self rfl;have e:((NameKind.free == NameKind.free):Bool)=true:=rfl;simp only [e,if_true,uk2 hc,pure_bind];rw [ih _ fun z hz=>hl z (List.mem_cons_of_mem _ hz)]
    show _=pure (clOf env r (if (NameKind.free == NameKind.free)=true then _ else _))
    rw [e,if_pos rfl,hc] <;> rfl
   ·have e:(k == NameKind.free)=false:=by simpa using hk
    simp only [e,Bool.false_eq_true,if_false,pure_bind];rw [ih _ fun z hz=>hl z (List.mem_cons_of_mem _ hz)]
    show _=pure (clOf env r (if (k == NameKind.free)=true then _ else _))
    rw [e,if_neg Bool.false_ne_true]
 have e:closureFor scope env=((forIn scope.names ([]:List (Str × Addr)) fun (y:Str × NameKind) r=>if (y.2 == NameKind.free)=true then do let c <- cellOf env y.1;pure (ForInStep.yield ((y.1,c)::r)) else pure (ForInStep.yield r):Sem (List (Str × Addr))) >>= fun cs=>pure cs):=rfl;rw [e,key scope.names [] h];rfl
theorem uc4 {env:Env} {x:Str} {c:Addr}:∀ {l:List (Str × NameKind)} {cs:List (Str × Addr)},(∀ y ∈ l,y.2=.free->∃ c,env.cells.lookup y.1=some c)->(∀ x c,cs.lookup x=some c->env.cells.lookup x=some c) ->
  (clOf env l cs).lookup x=some c->env.cells.lookup x=some c
 | [],_,_,h,e=>h x c e
 | (y,k)::r,cs,hl,h,e=>by
  refine uc4 (l:=r) (fun z hz=>hl z (List.mem_cons_of_mem _ hz)) (fun x c e=>?_) e
  by_cases hk:k=.free
  ·subst hk
   obtain ⟨d,hd⟩:=hl (y,.free) List.mem_cons_self rfl;rw [if_pos (show (NameKind.free == NameKind.free)=true from rfl),List.lookup_cons] at e;cases hx:x == y with
   | true=>rw [hx,hd] at e;cases e;rw [eq_of_beq hx];exact hd
   | false=>rw [hx] at e;exact h x c e
  ·rw [if_neg (by simpa using hk)] at e;exact h x c e
theorem uf6 {env:Env} {x:Str}:∀ {l:List (Str × NameKind)} {cs:List (Str × Addr)},((∃ c,cs.lookup x=some c) \/ (x,NameKind.free) ∈ l)->∃ c,(clOf env l cs).lookup x=some c
 | [],_,h=>by
  rcases h with h | h
  ·exact h
  ·simp at h
 | (y,k)::r,cs,h=>by
  refine uf6 (l:=r) ?_
  rcases h with ⟨c,h⟩ | h
  ·left
   by_cases hk:(k == NameKind.free)=true
   ·rw [if_pos hk,List.lookup_cons]
    cases hx:x == y with
    | true=>exact ⟨_,rfl⟩
    | false=>exact ⟨c,h⟩
   ·rw [if_neg hk];exact ⟨c,h⟩
  ·rcases List.mem_cons.mp h with e | h
   ·injection e with e1 e2
    subst e1;subst e2
    left
    rw [if_pos (show (NameKind.free == NameKind.free)=true from rfl),List.lookup_cons];simp
   ·exact .inr h
def u59 (X:Cx) (N':List Str) (scope:Scope) (C:Addr) (s:Shared) (H:Hp) (fp:List Addr):Cx :=
 { X with N:=N',s₀:=s,H₀:=H,env:=compEnvC scope (clOf X.env scope.names []) C X.env,outer:=X.stack,ex:=fp,fn:=fun _=>false,pn:=[],xe:=fun _ _=>False }
structure BlkOk (X:Cx) (N':List Str) (ix:List (Option Nat)) (scope:Scope):Prop where
 kind:scope.kind=.function
 nocell:∀ y ∈ scope.names,y.2 ≠ .cell
 names:∀ y ∈ scope.names,y.2=.local->scope.names.lookup y.1=some .local
 frees:∀ y ∈ scope.names,y.2=.free->X.env.kindOf y.1=some .cell \/ X.env.kindOf y.1=some .free
 len:ix.length=N'.length
 at_:∀ (i j:Nat) (x:Str),N'[i]?=some x->ix[i]?=some (some j)->X.N[j]?=some x /\ scope.names.lookup x=some .free
def inner (ix:List (Option Nat)) (σ:St):St:=ix.map fun o=>o.bind fun j=>(σ[j]?).bind id
def vl9 (ix:List (Option Nat)) (wi:TI) (g:TG) (tc:TT) (te:TE):TE:=fun σ H Q=>wi σ H fun J H1=>∀ D,H1 D=none->∃ W:Nat->Nat->St->Hp->Prop,(∃ m,W 0 m (inner ix σ) (upd H1 D (.lst []))) /\ ∀ i m σi H,W i m σi H ->
 (J.stop i H /\ Q (.ref D) H) \/ (J.go i H /\ ∃ N:St->Hp->Prop,(∀ σ' H',N σ' H'->∃ m',m' < m /\ W (i+1) m' σ' H') /\ ∀ x H',J.yld i H x H'->g x σi H' fun σ2 H2=>tc σ2 H2 fun b H3 =>
  if b=true then te σ2 H3 fun v H4=>∃ ys,H4 D=some (.lst ys) /\ ys.length < sizeLine /\ N σ2 (upd H4 D (.lst (ys++[v]))) else N σ2 H3)
theorem u44 {env:Env} {x:Str}:∀ {names:List (Str × NameKind)},names.lookup x=some .free->(env.kindOf x=some .cell \/ env.kindOf x=some .free) ->
  (names.map fun (n,k)=>if (k == NameKind.free && env.scope.kind == .function && env.kindOf n == some .cell) then (n,NameKind.cell) else (n,k)).lookup x=some .cell \/
  (names.map fun (n,k)=>if (k == NameKind.free && env.scope.kind == .function && env.kindOf n == some .cell) then (n,NameKind.cell) else (n,k)).lookup x=some .free
 | [],h,_=>by simp at h
 | (n,k)::r,h,ho=>by
  cases hx:x == n with
  | true =>
   simp only [List.lookup_cons,hx] at h;cases h
   by_cases hc:(NameKind.free == NameKind.free && env.scope.kind == .function && env.kindOf n == some .cell)=true
   ·left
    show List.lookup x ((if (NameKind.free == NameKind.free && env.scope.kind == .function && env.kindOf n == some .cell)=true then (n,NameKind.cell) else (n,.free))::_)=_
    rw [if_pos hc];simp only [List.lookup_cons,hx]
   ·right
    show List.lookup x ((if (NameKind.free == NameKind.free && env.scope.kind == .function && env.kindOf n == some .cell)=true then (n,NameKind.cell) else (n,.free))::_)=_
    rw [if_neg hc];simp only [List.lookup_cons,hx]
  | false =>
   simp only [List.lookup_cons,hx] at h;have ih:=u44 (env:=env) h ho
   show List.lookup x ((if (k == NameKind.free && env.scope.kind == .function && env.kindOf n == some .cell)=true then (n,NameKind.cell) else (n,k))::_)=_ \/
    List.lookup x ((if (k == NameKind.free && env.scope.kind == .function && env.kindOf n == some .cell)=true then (n,NameKind.cell) else (n,k))::_)=_
   by_cases hc:(k == NameKind.free && env.scope.kind == .function && env.kindOf n == some .cell)=true
   ·rw [if_pos hc];simp only [List.lookup_cons,hx];exact ih
   ·rw [if_neg hc];simp only [List.lookup_cons,hx];exact ih
theorem u45 {env:Env} {x:Str}:∀ {names:List (Str × NameKind)},(∀ y ∈ names,y.2 ≠ .cell) ->
  ((names.map fun (n,k)=>if (k == NameKind.free && env.scope.kind == .function && env.kindOf n == some .cell) then (n,NameKind.cell) else (n,k)).lookup x=some .cell \/
  (names.map fun (n,k)=>if (k == NameKind.free && env.scope.kind == .function && env.kindOf n == some .cell) then (n,NameKind.cell) else (n,k)).lookup x=some .free)->(x,NameKind.free) ∈ names
 | [],_,h=>by simp at h
 | (n,k)::r,hn,h=>by
  have h:List.lookup x ((if (k == NameKind.free && env.scope.kind == .function && env.kindOf n == some .cell)=true then (n,NameKind.cell) else (n,k))::(r.map fun (n,k)=>if (k == NameKind.free && env.scope.kind == .function && env.kindOf n == some .cell) then (n,NameKind.cell) else (n,k)))=some .cell \/
   List.lookup x ((if (k == NameKind.free && env.scope.kind == .function && env.kindOf n == some .cell)=true then (n,NameKind.cell) else (n,k))::(r.map fun (n,k)=>if (k == NameKind.free && env.scope.kind == .function && env.kindOf n == some .cell) then (n,NameKind.cell) else (n,k)))=some .free:=h
  cases hx:x == n with
  | true =>
   have e:x=n:=eq_of_beq hx;subst e
   by_cases hc:(k == NameKind.free && env.scope.kind == .function && env.kindOf x == some .cell)=true
   ·have hk:k=.free:=by
     simp only [Bool.and_eq_true,beq_iff_eq] at hc;exact hc.1.1
    subst hk;exact List.mem_cons_self
   ·rw [if_neg hc] at h
    simp only [List.lookup_cons,hx,Option.some.injEq] at h
    rcases h with h | h
    ·exact absurd h (hn (x,k) List.mem_cons_self)
    ·subst h;exact List.mem_cons_self
  | false =>
   refine List.mem_cons_of_mem _ (u45 (env:=env) (fun y hy=>hn y (List.mem_cons_of_mem _ hy)) ?_)
   by_cases hc:(k == NameKind.free && env.scope.kind == .function && env.kindOf n == some .cell)=true
   ·rw [if_pos hc] at h;simp only [List.lookup_cons,hx] at h;exact h
   ·rw [if_neg hc] at h;simp only [List.lookup_cons,hx] at h;exact h
def PIfs (X:Cx) (ifs:List Expr) (t:TT):Prop :=
 ∀ (pins:List (Addr × Obj)) (s:Shared) (σ:St) (H:Hp) (Q:Bool->Hp->Prop),Inv X pins σ H s->t σ H Q ->
  wpAny (model X.prog X.w) X.A (forIn ifs true fun c r=>if r=true then do let ok <- isTrue c X.env (eval c X.env);pure (ForInStep.yield ok) else pure (ForInStep.yield r)) (TP X pins σ Q) X.xe s
def tYes:TT:=fun _ H Q=>Q true H
section
variable {X:Cx} {pins:List (Addr × Obj)} {σ:St} {H:Hp} {s:Shared}
theorem uz8:PIfs X [] tYes:=fun _ _ _ H _ I h=>wpAny_tests_nil ⟨H,I,h⟩
theorem Inv.blk {N':List Str} {ix:List (Option Nat)} {scope:Scope} {fp:List Addr} {h1:Heap} {tk:Nat} (I:Inv X pins σ H s) (B:BlkOk X N' ix scope) (f:∀ b ∈ fp,FpOk X pins H b) (hlt:∀ b ∈ fp,b < s.heap.objs.size)
  (ns:h1.Ns s.heap.objs.size (fun _=>none)) (old:∀ b o,s.heap.get? b=some o->h1.get? b=some o) :
  Inv (u59 X N' scope s.heap.objs.size s H fp) [] (inner ix σ) H { s with heap:=h1,toks:=tk }:=by
 have hfree:∀ y ∈ scope.names,y.2=.free->∃ c,X.env.cells.lookup y.1=some c:=fun y hy e=>I.ok.has y.1 (B.frees y hy e)
 have hc:∀ x c,(clOf X.env scope.names []).lookup x=some c->X.env.cells.lookup x=some c:=fun x c e=>uc4 hfree (fun _ _ z=>by cases z) e
 have stk:∀ b ∈ fp,b ∉ frs X.stack:=fun b hb z=>by
  rcases List.mem_cons.mp (I.stkSub b z) with e | e
  ·exact (f b hb).2.1 e
  ·exact (f b hb).2.2.1 e
 refine ⟨⟨I.ok.mod,B.kind,I.ok.glob,I.ok.blt,Nat.le_refl _,fun x y c h1 h2=>I.ok.inj x y c (hc x c h1) (hc y c h2),fun x hx=>?_,fun x c h=>(by cases h),I.ok.hd,I.ok.frames,.inl rfl,fun b hb=>⟨Nat.ne_of_lt (hlt b hb),fun x c e=>(f b hb).2.2.2.2.1 x c (hc x c e)⟩,
   I.bs,Nat.le_trans I.ok.bsz I.sz,fun b o e hb=>?_,stk,I.stack,I.stkFree⟩,rfl,I.bare,Un.kept old,⟨_,ns,fun i x v h1 h2 h3=>?_⟩,fun x c e=>?_,I.hok.fresh (Nat.le_refl _),fun x c e=>I.freeC x c (hc x c e),fun p hp=>absurd (show p ∈ ([]:List (Addr × Obj)) from hp) (by simp),I.hok.kept old,?_⟩
 ·exact uf6 (.inr (u45 B.nocell hx))
 ·rcases (f b hb).2.2.2.1 with z | z
  ·exact I.ok.noex b o e z
  ·exact absurd (Nat.lt_of_lt_of_le (Heap.lt_size e) (Nat.le_trans I.ok.bsz z)) (Nat.lt_irrefl _)
 ·have h2:(ix.map fun o=>o.bind fun j=>(σ[j]?).bind id)[i]?=some (some v):=h2
  rw [List.getElem?_map] at h2;cases ho:ix[i]? with
  | none=>rw [ho] at h2;cases h2
  | some o =>
   rw [ho] at h2;cases o with
   | none=>cases h2
   | some j =>
    have h2:(σ[j]?).bind id=some v:=Option.some.inj h2;have h2:σ[j]?=some (some v):=by
     cases hs:σ[j]? with
     | none=>rw [hs] at h2;cases h2
     | some w=>rw [hs] at h2;cases h2;rfl
    obtain ⟨hN,hf⟩:=B.at_ i j x h1 ho
    have hk:=B.frees (x,.free) (PySem.mem_of_lookup hf) rfl;obtain ⟨m,hn,hl⟩:=I.loc;obtain ⟨u,r,lk⟩:=hl j x v hN h2 (hk.elim (fun z=>.inr (.inl z)) fun z=>.inr (.inr z));refine ⟨u,r,.inr ?_⟩
    rcases lk with ⟨z,_⟩ | ⟨_,c,e,z⟩
    ·rcases hk with hk | hk
     ·exact absurd (hk.symm.trans z) (by decide)
     ·exact absurd (hk.symm.trans z) (by decide)
    ·obtain ⟨c',e'⟩:=uf6 (env:=X.env) (cs:=[]) (.inr (PySem.mem_of_lookup hf))
     have ec:c'=c:=Option.some.inj ((hc x c' e').symm.trans e);subst ec;refine ⟨u44 hf hk,c',e',?_⟩;obtain ⟨o,ho,hd⟩:=z;exact ⟨o,old _ _ ho,hd⟩
 ·obtain ⟨v,o,ho,hd⟩:=I.cell x c (hc x c e)
  exact ⟨v,o,old _ _ ho,hd⟩
 ·show (inner ix σ).length=N'.length
  unfold inner;rw [List.length_map];exact B.len
theorem vi3 {elt tg iter:Expr} {ifs:List Expr} {scope:Scope} {pos:Pos} {N':List Str} {ix:List (Option Nat)} {g:TG} {tc:TT} {te:TE} {J:It} {fp:List Addr} {it:Addr} {tn:Nat->Heap->Prop} (B:BlkOk X N' ix scope)
  (hg:∀ C s H fp,PG (u59 X N' scope C s H fp) tg g) (hi:∀ C s H fp,PIfs (u59 X N' scope C s H fp) ifs tc) (he:∀ C s H fp,PE (u59 X N' scope C s H fp) elt te) (hc:X.calm=true)
  (I:Inv X pins σ H s) (T:Turn X.prog X.w X.K tg J fp it tn) (st:tn 0 s.heap) (f:∀ b ∈ fp,FpOk X pins H b) {Q:VK} {E:Value->Shared->Prop}
  (w:∃ W:Nat->Nat->St->Hp->Prop,(∃ m,W 0 m (inner ix σ) (upd H s.heap.objs.size (.lst []))) /\ ∀ i m σi H,W i m σi H ->
   (J.stop i H /\ Q (.ref s.heap.objs.size) H) \/ (J.go i H /\ ∃ N:St->Hp->Prop,(∀ σ' H',N σ' H'->∃ m',m' < m /\ W (i+1) m' σ' H') /\ ∀ x H',J.yld i H x H'->g x σi H' fun σ2 H2=>tc σ2 H2 fun b H3 =>
    if b=true then te σ2 H3 fun v H4=>∃ ys,H4 s.heap.objs.size=some (.lst ys) /\ ys.length < sizeLine /\ N σ2 (upd H4 s.heap.objs.size (.lst (ys++[v]))) else N σ2 H3))
  {RR:Value->Addr->Result->Shared->Prop} (hRR:∀ C H' s' m,Inv X pins σ H' s'->FpOk X pins H' C->s'.heap.Ns C m->Q (.ref s.heap.objs.size) H'->RR (.ref s.heap.objs.size) C (.ok .next) s') :
  wpAny (model X.prog X.w) X.A (newList []) (fun acc s₃=>wpAny (model X.prog X.w) X.A (newFunctionEnv scope X.env.globals (clOf X.env scope.names []) [] X.env.qual none .none (some X.env)) (fun cenv s₄ =>
   codeAny (model X.prog X.w) X.A (.compStart (.ListComp elt [⟨tg,iter,ifs,0⟩] scope pos) 0 (.ref it) acc { cenv with scope:=relabel scope X.env }) (RR acc cenv.locals) s₄) E s₃) E s:=by
 obtain ⟨W,⟨m0,w0⟩,turn⟩:=w;have flt:∀ b ∈ fp,b < s.heap.objs.size:=fun b hb=>by
  obtain ⟨o,ho,_⟩:=T.obj 0 _ st b hb;exact Heap.lt_size ho
 have I3:Inv X pins σ (upd H s.heap.objs.size (.lst [])) { s with heap:=s.heap.push { cls:=.type "list",data:=.seq ([]:List Value).toArray },toks:=s.toks }:=I.lnew .nil (Nat.zero_le _)
 have hfr:∀ b ∈ fp,(upd H s.heap.objs.size (.lst [])) b=none:=fun b hb=>by rw [u15 (Nat.ne_of_lt (flt b hb))];exact (f b hb).1
 have f3:∀ b ∈ fp,FpOk X pins (upd H s.heap.objs.size (.lst [])) b:=fun b hb=>⟨hfr b hb,(f b hb).2⟩
 refine wpAny_newObj_type (wpAny_newFunctionEnv B.nocell (by intro y hy;simp at hy) (fun h₁ hns₁ hsb₁=>?_) B.kind);dsimp only at hns₁ hsb₁ ⊢;generalize hH3:s.heap.push { cls:=.type "list",data:=.seq ([]:List Value).toArray }=h3 at hns₁ hsb₁ I3 ⊢;obtain ⟨s3,e3⟩:∃ s3:Shared,s3={ s with heap:=h3 }:=⟨_,rfl⟩
 obtain rfl:h3=s3.heap:=by rw [e3]
 have I3:Inv X pins σ (upd H s.heap.objs.size (.lst [])) s3:=by
  have e:s3={ s with heap:=s3.heap,toks:=s.toks }:=e3
  rw [e];exact I3
 have eT:s3.toks=s.toks:=by rw [e3]
 have eS:({ s with heap:=h₁,toks:=s.toks+([]:List (Str × Value)).length }:Shared)={ s3 with heap:=h₁,toks:=s3.toks+([]:List (Str × Value)).length }:=by rw [e3]
 rw [eS];have hz3:s3.heap.objs.size=s.heap.objs.size+1:=by rw [<- hH3];exact Heap.size_push _ _
 have old:∀ b o,s3.heap.get? b=some o->h₁.get? b=some o:=fun b o e=>hsb₁.extBut b o (Nat.ne_of_lt (Heap.lt_size e)) (Heap.get?_push_of_some _ e)
 have st3:tn 0 s3.heap:=T.keep _ _ _ st fun b hb o e=>by rw [<- hH3];exact Heap.get?_push_of_some _ e
 have st4:tn 0 h₁:=T.keep _ _ _ st3 fun b _ o e=>old b o e
 have I4:=I3.blk (tk:=s3.toks+([]:List (Str × Value)).length) B f3 (fun b hb=>Nat.lt_of_lt_of_le (flt b hb) (by rw [hz3];exact Nat.le_succ _)) (show h₁.Ns s3.heap.objs.size (fun _=>none) from hns₁) old;generalize hX':u59 X N' scope s3.heap.objs.size s3 (upd H s.heap.objs.size (.lst [])) fp=X' at I4;have eX:X'.prog=X.prog /\ X'.w=X.w /\ X'.K=X.K /\ X'.A=X.A /\ X'.calm=X.calm /\ X'.env=compEnvC scope (clOf X.env scope.names []) s3.heap.objs.size X.env /\ X'.ex=fp /\ X'.outer=X.stack /\ X'.s₀=s3 /\ X'.H₀=upd H s.heap.objs.size (.lst []) /\ X'.pn=[] /\ X'.xe=(fun _ _=>False):=by
  rw [<- hX'];exact ⟨rfl,rfl,rfl,rfl,rfl,rfl,rfl,rfl,rfl,rfl,rfl,rfl⟩
 have hg':PG X' tg g:=hX' ▸ hg _ _ _ _;have hi':PIfs X' ifs tc:=hX' ▸ hi _ _ _ _;have he':PE X' elt te:=hX' ▸ he _ _ _ _;obtain ⟨e1,e2,e3,e4,e5,e6,e7,e8,e9,e10,e11,e12⟩:=eX;have stat:∀ {H':Hp},(∀ b ∈ fp,H' b=none)->∀ b ∈ fp,FpOk X' [] H' b:=fun {H'} hn b hb=>by
  have q:=I4.ok.exf b (by rw [e7];exact hb);refine ⟨hn b hb,q.1,?_,.inl (by rw [e7];exact hb),q.2,fun p hp=>?_⟩
  ·exact I4.ok.exfs b (by rw [e7];exact hb)
  ·rw [e11] at hp;simp at hp
 have loop:codeAny (model X.prog X.w) X.A (.compLoop (.ListComp elt [⟨tg,iter,ifs,0⟩] scope pos) 0 (.ref it) (.ref s.heap.objs.size) (compEnvC scope (clOf X.env scope.names []) s3.heap.objs.size X.env))
   (RR (.ref s.heap.objs.size) s3.heap.objs.size) { s3 with heap:=h₁,toks:=s3.toks+([]:List (Str × Value)).length }:=by
  refine vf7 (fun n s'=>∃ i σi Hi,Inv X' [] σi Hi s' /\ tn i s'.heap /\ (∀ b ∈ fp,Hi b=none) /\ W i n σi Hi) ?_ m0 ⟨0,_,_,I4,st4,hfr,w0⟩;rintro n s5 ⟨i,σ5,H5,I5,st5,fr5,w5⟩
  rcases turn i n σ5 H5 w5 with ⟨stop,qn⟩ | ⟨go,N,hN,step⟩
  ·have d:=T.done X' e1 e2 e3 (by rw [e5];exact hc) i [] s5 σ5 H5 (fun _ _=>False) I5 (stat fr5) st5 stop
   rw [e4] at d
   (refine thn d ?_;rintro r s6 ⟨hr,I6⟩)
   subst hr;have u:=I6.base;rw [e7,e9,e10] at u;have u:Un (frs X'.outer) fp (upd H s.heap.objs.size (.lst [])) H5 s3.heap s6.heap:=u;rw [e8] at u;have ok6:=I6.hok;rw [e1,e2] at ok6;have I7:Inv X pins σ H5 s6:=I3.call' (ch:=fp) (by have:=I6.os;rw [e9] at this;exact this) u ok6 I6.bare fun b hb=>⟨(f b hb).2.2.2.1,(f b hb).2.1,(f b hb).2.2.2.2.1,(f b hb).2.2.2.2.2⟩
   have hfree:=I6.free;obtain ⟨m,hm,_⟩:=I6.loc;rw [e6] at hfree hm;exact hRR _ H5 s6 m I7 (I3.fpOk (Nat.le_refl _) hfree) hm qn
  ·have d:=T.item X' e1 e2 e3 (by rw [e5];exact hc) i [] s5 σ5 H5 (fun _ _=>False) I5 (stat fr5) st5 go
   rw [e4] at d
   (refine thn d ?_;rintro r s6 ⟨u,hr,h6⟩)
   subst hr
   (refine thn h6 ?_;rintro _ s7 ⟨x,H7,I7,r7,y7,st7,fr7⟩)
   have I7':=I7.pinned (stat fr7) (T.obj _ _ st7);have a:=hg' _ s7 σ5 H7 x u _ I7' r7 (step x H7 y7);rw [e1,e2,e4,e6,e12] at a
   (refine thn a ?_;rintro _ s8 ⟨σ8,H8,I8,q8⟩)
   have t:=hi' _ s8 σ8 H8 _ I8 q8;rw [e1,e2,e4,e6,e12] at t;have again:∀ {σ9:St} {H9:Hp} {s9:Shared},Inv X' ([]++ug8 fp s7.heap) σ9 H9 s9->N σ9 H9->∃ m,m < n /\ ∃ i σi Hi,Inv X' [] σi Hi s9 /\ tn i s9.heap /\ (∀ b ∈ fp,Hi b=none) /\ W i m σi Hi:=fun {σ9 H9 s9} I9 n9=>by
    obtain ⟨m',hm,w9⟩:=hN σ9 H9 n9;refine ⟨m',hm,i+1,σ9,H9,I9.unpinned,T.keep _ _ _ st7 fun b hb o e=>(I9.pin (b,o) (List.mem_append_right _ (List.mem_append_right _ (u62 hb e)))).1,fun b hb=>?_,w9⟩;obtain ⟨o,e,d⟩:=T.obj _ _ st7 b hb;exact (I9.pin (b,o) (List.mem_append_right _ (List.mem_append_right _ (u62 hb e)))).2.1
   (refine thn t ?_;rintro ok s9 ⟨H9,I9,q9⟩)
   cases ok with
   | false =>
    rw [if_neg Bool.false_ne_true] at q9 ⊢;exact again I9 q9
   | true =>
    rw [if_pos rfl] at q9 ⊢;have v:=he' _ s9 σ8 H9 _ I9 q9;rw [e1,e2,e4,e6,e12] at v
    (refine thn v ?_;rintro y s10 ⟨z,H10,I10,r10,ys,hD,hz,q10⟩)
    have ap:=uh0 _ s10 σ8 H10 (.ref s.heap.objs.size) [z] (.ref s.heap.objs.size) [y] (fun _ H'=>N σ8 H') I10 rfl (.cons r10 .nil) ⟨_,ys,z,rfl,rfl,hD,hz,q10⟩;rw [e1,e2,e4,e12] at ap
    (refine thn ap ?_;rintro _ s11 ⟨_,H11,I11,_,q11⟩;exact again I11 q11)
 exact codeAny_compStart_list loop (T.self _ _ _ _ _ st4 loop)
variable {elt tg iter:Expr} {ifs:List Expr} {scope:Scope} {pos:Pos} {N':List Str} {ix:List (Option Nat)} {wi:TI} {g:TG} {tc:TT} {te:TE}
theorem vd4 (B:BlkOk X N' ix scope) (hc:X.calm=true) (hw:PI X tg iter wi)
  (hg:∀ C s H fp,PG (u59 X N' scope C s H fp) tg g) (hi:∀ C s H fp,PIfs (u59 X N' scope C s H fp) ifs tc) (he:∀ C s H fp,PE (u59 X N' scope C s H fp) elt te)
  (hs:∀ x,foldedSetIterable iter X.env x=pure x:=by intro _;rfl) :
  PE X (.ListComp elt [⟨tg,iter,ifs,0⟩] scope pos) (vl9 ix wi g tc te):=by
 intro pins s σ H Q I h;rw [eval_ListComp];refine wpAny_comprehension_free (use:=none) rfl hs (uq1 fun y hy e=>I.ok.has y.1 (B.frees y hy e)) B.kind B.names ?_;refine thn (hw pins s σ H _ I h) fun v s1 h1=>thn h1 fun itv s2 h2=>?_
 obtain ⟨it,fp,tn,J,H2,e,I2,T,st2,f2,q2⟩:=h2;subst e;refine vi3 B hg hi he hc I2 T st2 f2 (Q:=Q) (q2 _ I2.fresh) fun C H' s' m I' fC hm q=>?_
 refine ⟨m,hm,fun h' sb=>⟨.ref s2.heap.objs.size,H',?_,rfl,q⟩⟩;exact I'.turned (t':=s'.toks) (it:=C) (fun b o hb e=>sb.extBut b o hb e) fC.1 fC.2.1 fC.2.2.2.1 fC.2.2.2.2.1 fC.2.2.2.2.2
end
section
variable {X:Cx} {pos:Pos}
def gLst (K:W.Frag) (n:Nat) (t:TGs):TG:=fun v σ H Q=>∃ a xs,v=.ref a /\ SqL K H a xs /\ xs.length=n /\ t xs σ H Q
theorem vd2 {es:List Expr} {k:Nat} {t:TGs} {n:Nat} (hc:X.calm=true) (h:PGs X es t)
  (hn:(assignEach es X.env).length=n:=by rfl) (hst:(assignEach es X.env).findIdx? (·.1)=none:=by rfl):PG X (.Tuple es k pos) (gLst X.K n t):=by
 intro pins s σ H v u Q I r hw;obtain ⟨a,xs,e1,hq,hl,hw⟩:=hw;subst e1;cases r;obtain ⟨its,rv,ht,hz⟩:=I.list hq;rw [PyProof.Rows.assign_Tuple];refine wpAny_bind (wpAny_standAt ?_);unfold unpack;have hsz:(assignEach es X.env).length=its.toArray.size:=by simp [hn,<- hl,rv.length]
 rw [hsz,hst];refine wpAny_bind (wpAny_holding (W.kun_itemsOf (I.ok.hd hc) ht.isList fun h' hx=>?_));have I1:Inv X pins σ H { s with heap:=h' }:=I.kept (t':=s.toks) fun b o e=>hx b o (Nat.ne_of_lt (Heap.lt_size e)) e
 exact h pins _ σ H xs _ Q I1 (by simpa using rv) hw
theorem vz8 {tg:Expr} {t t':TG} (h:PG X tg t) (h':PG X tg t'):PG X tg (fun v σ H Q=>t v σ H Q \/ t' v σ H Q):=by
 intro pins s σ H v u Q I r q
 rcases q with q | q
 ·exact h pins s σ H v u Q I r q
 ·exact h' pins s σ H v u Q I r q
def iSeq (K:W.Frag) (tl:TE):TI:=fun σ H R=>tl σ H fun x H1=>∃ a,x=.ref a /\ (((∃ xs,SqL K H1 a xs) /\ R (Itl K a) H1) \/ ((∃ xs,SqT K H1 a xs) /\ R (Itt K a) H1))
theorem vn7 {tg l:Expr} {tl:TE} (hl:PE X l tl):PI X tg l (iSeq X.K tl):=by
 intro pins s σ H R I h
 (refine thn (hl pins s σ H _ I h) ?_;rintro v s1 ⟨x,H1,I1,r1,q1⟩)
 obtain ⟨a,e,⟨⟨xs,hq⟩,q⟩ | ⟨⟨xs,hq⟩,q⟩⟩:=q1
 ·subst e
  cases r1;obtain ⟨its,rv,p,hz⟩:=I1.list hq;refine wpAny_pyIter_list p.isList ?_;refine ⟨s1.heap.objs.size,[s1.heap.objs.size],_,_,H1,rfl,I1.kept (t':=s1.toks) fun b o e=>Heap.get?_push_of_some _ e,ur5 a _,⟨_,Heap.get?_push_size _ rfl,rfl,rfl⟩,fun b hb=>?_,q⟩;have e:b=s1.heap.objs.size:=by simpa using hb
  subst e;exact I1.fpOk (Nat.le_refl _) (I1.hok.fresh (Nat.le_refl _))
 ·subst e
  cases r1;obtain ⟨its,rv,p,hz⟩:=I1.tuple hq;refine wpAny_pyIter_tuple (show s1.heap.IsTuple a its.toArray from p) ?_;refine ⟨s1.heap.objs.size,[s1.heap.objs.size],_,_,H1,rfl,I1.kept (t':=s1.toks) fun b o e=>Heap.get?_push_of_some _ e,uo4 a _,⟨_,Heap.get?_push_size _ rfl,rfl,rfl⟩,fun b hb=>?_,q⟩;have e:b=s1.heap.objs.size:=by simpa using hb
  subst e;exact I1.fpOk (Nat.le_refl _) (I1.hok.fresh (Nat.le_refl _))
theorem ud1:∀ {bs:List Bool} {us:List Value},Vals (bs.map V.bl) us->us=bs.map Value.bool
 | [],_,.nil=>rfl
 | b::bs,_,.cons r t=>by cases r;rw [ud1 t];rfl
theorem v44 (hc:X.calm=true):CallR X (.builtin "all") (fun xs H Q=>∃ (p:Addr) (bs:List Bool),xs=[.ref p] /\ SqL X.K H p (bs.map V.bl) /\ Q (.bl (bs.all id)) H):=by
 intro pins s σ H xs us Q I r h;obtain ⟨p,bs,rfl,hq,q⟩:=h;obtain ⟨u,rfl,rx⟩:=vals1 r;cases rx;obtain ⟨its,r',pl,hz⟩:=I.list hq;have e:=ud1 r';subst e;have hl:=pl.isList;have hlt:p < s.heap.objs.size:=by obtain ⟨_,e,_⟩:=hl;exact Heap.lt_size e
 refine call_all_walk (wpAny_pyIter_list hl ?_);refine ⟨s.heap.objs.size,[s.heap.objs.size,p],[s.heap.objs.size],(bs.map Value.bool).toArray.size,_,_,fun i=>(bs[i]?).getD true,rfl,Walks.list (A:=X.A.in1) (I.ok.hd hc) _ p (Nat.ne_of_lt hlt) (bs.map Value.bool).toArray,
  ⟨⟨_,Heap.get?_push_size _ rfl,rfl,rfl⟩,hl.push _⟩,fun i v s' Q' E' hP hQ=>?_,fun h' tk hk=>?_⟩
 ·have hP:(bs.map Value.bool)[i]?=some v:=by simpa using hP
  rw [List.getElem?_map] at hP;cases hb:bs[i]? with
  | none=>rw [hb] at hP;cases hP
  | some b =>
   rw [hb] at hP;cases hP;simp only [hb,Option.getD_some] at hQ;exact wpAny_truthy_bool hQ
 ·have e:((List.range (bs.map Value.bool).toArray.size).all fun i=>(bs[i]?).getD true)=bs.all id:=by
   rw [List.size_toArray,List.length_map,Bool.eq_iff_iff,List.all_eq_true,List.all_eq_true]
   constructor
   ·intro h b hb
    obtain ⟨i,hi,e⟩:=List.mem_iff_getElem.mp hb;have:=h i (List.mem_range.mpr hi);rw [List.getElem?_eq_getElem hi,e] at this;exact this
   ·intro h i hi
    have hi:=List.mem_range.mp hi;rw [List.getElem?_eq_getElem hi];exact h _ (List.getElem_mem hi)
  rw [e];refine ⟨.bl _,H,?_,rfl,q⟩;exact I.kept fun b x e=>hk b x (fun hm=>by rw [List.mem_singleton.mp hm] at e;exact Nat.lt_irrefl _ (Heap.lt_size e)) (Heap.get?_push_of_some _ e)
theorem v43 (hc:X.calm=true):CallR X (.builtin "sum") (fun xs H Q=>∃ (p:Addr) (ns:List Int),xs=[.ref p] /\ SqL X.K H p (ns.map V.int) /\ Q (.int ns.sum) H):=by
 intro pins s σ H xs us Q I r h;obtain ⟨p,ns,rfl,hq,q⟩:=h;obtain ⟨u,rfl,rx⟩:=vals1 r;cases rx;obtain ⟨its,r',pl,hz⟩:=I.list hq;obtain ⟨m,F⟩:=I.fr;have hi:IntsAre its ns:=intsAre_of r';obtain ⟨ys,hx⟩:=hi.allInts.items;have hl':s.heap.IsList p (intItems ys):=hx ▸ pl.isList;refine sum_intListG (I.ok.hd hc) hl' fun h' tk t' hk=>?_
 have e1:ns=ys.toList.map (·.1):=by
  rw [<- nums_intItems,<- hx];exact (show numsOf its.toArray.toList=ns from hi.numsOf).symm
 have e2:preSum (numAt ys) ys.size=ns.sum:=by
  rw [preSum_eq,List.take_of_length_le (by simp),e1]
 rw [e2];exact ⟨.int ns.sum,H,I.kept hk,⟨_,rfl⟩,q⟩
def vf9 (K:W.Frag) (H:Hp):V->String->Prop
 | .non,n=>n = "NoneType"
 | .bl _,n=>n = "bool"
 | .int _,n=>n = "int"
 | .str _,n=>n = "str"
 | .ref a,n=>(n = "list" /\ ((∃ xs,H a=some (.lst xs)) \/ ∃ o xs,H a=some (.frz o (.lst xs)))) \/ (n = "tuple" /\ ∃ xs,H a=some (.tup xs)) \/ (n = "dict" /\ ∃ xs,H a=some (.dK xs))
 | _,_=>False
def subK (n T:String):Bool:=n == T || (n == "bool" && T == "int")
theorem u58 {K:W.Frag} {n T:String} (hn:n = "NoneType" \/ n = "bool" \/ n = "int" \/ n = "str" \/ n = "list" \/ n = "tuple" \/ n = "dict") (hT:T = "int" \/ T = "str" \/ T = "bool" \/ T = "list" \/ T = "tuple" \/ T = "dict"):W.kitOne K (.type n) (.type T)=some (subK n T):=by
 rcases hn with rfl | rfl | rfl | rfl | rfl | rfl | rfl <;> rcases hT with rfl | rfl | rfl | rfl | rfl | rfl <;> rfl
theorem uk3:CallR X (.builtin "isinstance") (fun xs H Q=>∃ x n T,xs=[x,.ty T] /\ vf9 X.K H x n /\ (T = "int" \/ T = "str" \/ T = "bool" \/ T = "list" \/ T = "tuple" \/ T = "dict") /\ Q (.bl (subK n T)) H):=by
 intro pins s σ H xs us Q I r h;obtain ⟨x,n,T,rfl,hk,hT,q⟩:=h;obtain ⟨u,w,rfl,rx,rt⟩:=vals2 r;cases rt;have fin:∀ tk,EP X pins σ Q (.bool (subK n T)) { s with toks:=tk }:=fun tk=>⟨.bl (subK n T),H,I.tok tk,rfl,q⟩
 cases x with
 | non=>cases (show n = "NoneType" from hk);exact u40 I rx .non (u58 (by simp) hT) fin
 | bl b=>cases (show n = "bool" from hk);exact u40 I rx (.bl b) (u58 (by simp) hT) fin
 | int i=>cases (show n = "int" from hk);exact u40 I rx (.int i) (u58 (by simp) hT) fin
 | str i=>cases (show n = "str" from hk);exact u40 I rx (.str i) (u58 (by simp) hT) fin
 | ref a =>
  rcases (show (n = "list" /\ ((∃ xs,H a=some (.lst xs)) \/ ∃ o xs,H a=some (.frz o (.lst xs)))) \/ (n = "tuple" /\ ∃ xs,H a=some (.tup xs)) \/ (n = "dict" /\ ∃ xs,H a=some (.dK xs)) from hk) with ⟨e,⟨xs,h1⟩ | ⟨o,xs,h1⟩⟩ | ⟨e,xs,h1⟩ | ⟨e,xs,h1⟩
  ·cases e;exact u40 I rx (.lst h1) (u58 (by simp) hT) fin
  ·cases e;exact u40 I rx (.frz h1) (u58 (by simp) hT) fin
  ·cases e;exact u40 I rx (.tup h1) (u58 (by simp) hT) fin
  ·cases e;exact u40 I rx (.dK h1) (u58 (by simp) hT) fin
 | _=>exact (show False from hk).elim
end
end L2
namespace L2
open PySem
def XH (a C:Addr) (dx:Option Addr) (h:Heap):Prop:=∃ o vs,h.get? a=some o /\ o.cls=.ref C /\ o.dict=dx /\ o.data=.fields vs
def XDict (H:Hp):Option Addr->List (Str × V)->Prop
 | none,ys=>ys=[]
 | some d,ys=>∃ o,H d=some (.frz o (.xd ys))
end L2
namespace L3
open PySem L2
inductive D where
 | non | bl (b:Bool) | int (i:Int) | str (x:Str) | tup (xs:List D) | ref (a:Addr) | ty (n:String)
inductive DO where
 | lst (xs:List D) | fro (xs:List D) | dic (kvs:List (Key × D)) | dit (kvs:List (List Key × D)) | ins (C:Addr) (fs:List (Str × D)) | exc (C:Addr) (fs:List (Str × D)) | frd (o:Obj) (kvs:List (Key × D)) | tb (qn:Str) (bm:Addr)
abbrev Gp:=Addr->Option DO
def gup (G:Gp) (a:Addr) (o:DO):Gp:=fun b=>if b=a then some o else G b
theorem u01 {G:Gp} {a:Addr} {o:DO}:gup G a o a=some o:=by unfold gup;rw [if_pos rfl]
theorem u09 {G:Gp} {a b:Addr} {o:DO} (h:b ≠ a):gup G a o b=G b:=by unfold gup;rw [if_neg h]
theorem u71 {G:Gp} {a:Addr} {o u:DO}:gup (gup G a o) a u=gup G a u:=by
 funext b;unfold gup;split <;> rfl
theorem gne {G:Gp} {a b:Addr} {o:DO} (h:G a=some o) (h':G b=none):a ≠ b:=by
 intro e;subst e;rw [h] at h';cases h'
theorem gne' {G:Gp} {a b:Addr} {o:DO} (h':G b=none) (h:G a=some o):b ≠ a:=Ne.symm (gne h h')
structure Le (H H':Hp):Prop where
 tups:∀ b xs,H b=some (.tup xs)->H' b=some (.tup xs)
 frzs:∀ b o (u:NK),H b=some (.frz o u.1)->H' b=some (.frz o u.1)
theorem Le.refl (H:Hp):Le H H:=⟨fun _ _ h=>h,fun _ _ _ h=>h⟩
theorem Le.trans {H H1 H2:Hp} (a:Le H H1) (b:Le H1 H2):Le H H2:=⟨fun c xs h=>b.tups c xs (a.tups c xs h),fun c o u h=>b.frzs c o u (a.frzs c o u h)⟩
theorem Le.sqT {K:W.Frag} {H H':Hp} (l:Le H H') {a:Addr} {xs:List V} (h:SqT K H a xs):SqT K H' a xs:=by
 rcases h with (h | ⟨o,h⟩) | h
 ·exact .inl (.inl (l.tups _ _ h))
 ·exact .inl (.inr ⟨o,l.frzs _ _ ⟨_,by intro _ e;cases e⟩ h⟩)
 ·exact .inr h
theorem Le.fresh {H:Hp} {p:Addr} {o:HO} (h:H p=none):Le H (upd H p o) :=
 ⟨fun b xs q=>by rw [u15 (u35 q h)];exact q,fun b o u q=>by rw [u15 (u35 q h)];exact q⟩
mutual
def RelD (K:W.Frag) (H:Hp):D->V->Prop
 | .non,v=>v=.non
 | .bl b,v=>v=.bl b
 | .int i,v=>v=.int i
 | .str x,v=>v=.str x
 | .ref a,v=>v=.ref a
 | .ty n,v=>v=.ty n
 | .tup ds,v=>∃ a xs,v=.ref a /\ SqT K H a xs /\ RelDs K H ds xs
def RelDs (K:W.Frag) (H:Hp):List D->List V->Prop
 | [],xs=>xs=[]
 | d::ds,xs=>∃ x r,xs=x::r /\ RelD K H d x /\ RelDs K H ds r
end
section
variable {K:W.Frag} {H H':Hp}
mutual
theorem RelD.le (l:Le H H'):∀ {d:D} {v:V},RelD K H d v->RelD K H' d v
 | .non,_,h=>by simpa [RelD] using h
 | .bl _,_,h=>by simpa [RelD] using h
 | .int _,_,h=>by simpa [RelD] using h
 | .str _,_,h=>by simpa [RelD] using h
 | .ref _,_,h=>by simpa [RelD] using h
 | .ty _,_,h=>by simpa [RelD] using h
 | .tup ds,_,h=>by
  rw [RelD] at h ⊢;obtain ⟨a,xs,e,s,r⟩:=h;exact ⟨a,xs,e,l.sqT s,RelDs.le l r⟩
theorem RelDs.le (l:Le H H'):∀ {ds:List D} {xs:List V},RelDs K H ds xs->RelDs K H' ds xs
 | [],_,h=>by simpa [RelDs] using h
 | d::ds,_,h=>by
  rw [RelDs] at h ⊢;obtain ⟨x,r,e,h1,h2⟩:=h;exact ⟨x,r,e,RelD.le l h1,RelDs.le l h2⟩
end
theorem RelDs.nil:RelDs K H [] []:=by rw [RelDs]
theorem RelDs.cons {d:D} {ds:List D} {x:V} {xs:List V} (h:RelD K H d x) (t:RelDs K H ds xs):RelDs K H (d::ds) (x::xs):=by
 rw [RelDs];exact ⟨x,xs,rfl,h,t⟩
theorem RelDs.inv_nil {xs:List V} (h:RelDs K H [] xs):xs=[]:=by rw [RelDs] at h;exact h
theorem RelDs.inv_cons {d:D} {ds:List D} {xs:List V} (h:RelDs K H (d::ds) xs):∃ x r,xs=x::r /\ RelD K H d x /\ RelDs K H ds r:=by rw [RelDs] at h;exact h
theorem RelDs.length:∀ {ds:List D} {xs:List V},RelDs K H ds xs->ds.length=xs.length
 | [],_,h=>by rw [h.inv_nil];rfl
 | _::_,_,h=>by obtain ⟨x,r,e,_,t⟩:=h.inv_cons;rw [e,List.length_cons,List.length_cons,t.length]
theorem RelDs.get:∀ {ds:List D} {xs:List V} {i:Nat} {d:D},RelDs K H ds xs->ds[i]?=some d->∃ x,xs[i]?=some x /\ RelD K H d x
 | [],_,_,_,_,e=>by simp at e
 | _::_,_,0,_,h,e=>by
  obtain ⟨x,r,rfl,h1,t⟩:=h.inv_cons;simp at e;subst e;exact ⟨x,rfl,h1⟩
 | _::_,_,i+1,d,h,e=>by
  obtain ⟨x,r,rfl,h1,t⟩:=h.inv_cons;obtain ⟨y,h2,h3⟩:=RelDs.get (i:=i) t (by simpa using e);exact ⟨y,by simpa using h2,h3⟩
theorem RelDs.of:∀ {ds:List D} {xs:List V},ds.length=xs.length->(∀ (i:Nat) d x,ds[i]?=some d->xs[i]?=some x->RelD K H d x)->RelDs K H ds xs
 | [],[],_,_=>.nil
 | [],_::_,h,_=>by simp at h
 | _::_,[],h,_=>by simp at h
 | d::ds,x::xs,h,f=>.cons (f 0 d x rfl rfl) (RelDs.of (by simpa using h) fun i d x a b=>f (i+1) d x (by simpa using a) (by simpa using b))
theorem RelDs.append:∀ {ds es:List D} {xs ys:List V},RelDs K H ds xs->RelDs K H es ys->RelDs K H (ds++es) (xs++ys)
 | [],_,_,_,h,t=>by rw [h.inv_nil];exact t
 | _::_,_,_,_,h,t=>by
  obtain ⟨x,r,rfl,h1,h2⟩:=h.inv_cons;exact .cons h1 (h2.append t)
theorem RelDs.set {d:D} {x:V} (q:RelD K H d x):∀ {ds:List D} {xs:List V} (i:Nat),RelDs K H ds xs->RelDs K H (ds.set i d) (xs.set i x)
 | [],_,_,h=>by rw [h.inv_nil];exact .nil
 | _::_,_,0,h=>by
  obtain ⟨x,r,rfl,h1,h2⟩:=h.inv_cons;exact .cons q h2
 | _::_,_,i+1,h=>by
  obtain ⟨x,r,rfl,h1,h2⟩:=h.inv_cons;exact .cons h1 (h2.set q i)
theorem RelDs.take:∀ {ds:List D} {xs:List V} (n:Nat),RelDs K H ds xs->RelDs K H (ds.take n) (xs.take n)
 | _,_,0,_=>by simpa using RelDs.nil
 | [],_,_+1,h=>by rw [h.inv_nil];exact .nil
 | _::_,_,n+1,h=>by
  obtain ⟨x,r,rfl,h1,h2⟩:=h.inv_cons;exact .cons h1 (h2.take n)
theorem RelDs.drop:∀ {ds:List D} {xs:List V} (n:Nat),RelDs K H ds xs->RelDs K H (ds.drop n) (xs.drop n)
 | _,_,0,h=>by simpa using h
 | [],_,_+1,h=>by rw [h.inv_nil];exact .nil
 | _::_,_,n+1,h=>by
  obtain ⟨x,r,rfl,h1,h2⟩:=h.inv_cons;exact h2.drop n
theorem RelDs.eraseIdx:∀ {ds:List D} {xs:List V} (n:Nat),RelDs K H ds xs->RelDs K H (ds.eraseIdx n) (xs.eraseIdx n)
 | [],_,_,h=>by rw [h.inv_nil];exact .nil
 | _::_,_,0,h=>by
  obtain ⟨x,r,rfl,h1,h2⟩:=h.inv_cons;exact h2
 | _::_,_,n+1,h=>by
  obtain ⟨x,r,rfl,h1,h2⟩:=h.inv_cons;exact .cons h1 (h2.eraseIdx n)
theorem RelDs.reverse:∀ {ds:List D} {xs:List V},RelDs K H ds xs->RelDs K H ds.reverse xs.reverse
 | [],_,h=>by rw [h.inv_nil];exact .nil
 | _::_,_,h=>by
  obtain ⟨x,r,rfl,h1,h2⟩:=h.inv_cons;rw [List.reverse_cons,List.reverse_cons];exact h2.reverse.append (.cons h1 .nil)
theorem RelDs.dropLast {ds:List D} {xs:List V} (h:RelDs K H ds xs):RelDs K H ds.dropLast xs.dropLast:=by
 rw [List.dropLast_eq_take,List.dropLast_eq_take,h.length];exact h.take _
theorem RelDs.rep {ds:List D} {xs:List V} (h:RelDs K H ds xs):∀ k:Nat,RelDs K H (List.replicate k ds).flatten (List.replicate k xs).flatten
 | 0=>.nil
 | k+1=>by rw [List.replicate_succ,List.replicate_succ,List.flatten_cons,List.flatten_cons];exact h.append (h.rep k)
def RelPs {κ:Type} (K:W.Frag) (H:Hp) (ps:List (κ × D)) (qs:List (κ × V)):Prop:=ps.map (·.1)=qs.map (·.1) /\ RelDs K H (ps.map (·.2)) (qs.map (·.2))
theorem RelPs.le {κ:Type} (l:Le H H') {ps:List (κ × D)} {qs:List (κ × V)} (h:RelPs K H ps qs):RelPs K H' ps qs:=⟨h.1,RelDs.le l h.2⟩
end
def TbOk (H:Hp) (qn:Str) (ps:Array Value):Prop:=TriplesOk ps.toList /\ ∀ pos cv,codeAmong pos ps.toList=some cv->∃ (c:Addr) (o:Obj) (vs:Array Value) (t:Tok),cv=.ref c /\ o.data=.fields vs /\ vs[1]?=some (.str qn t) /\ H c=some (.frz o (.ext fun h=>h.get? c=some o))
def BmOk (H:Hp) (bm:Addr):Prop:=∃ o:Obj,H bm=some (.frz o (.ext fun h=>h.get? bm=some o)) /\ o.cls=.type "module" /\ o.dict=some builtinsNs /\ o.data=.plain
def ObjD (K:W.Frag) (H:Hp) (a:Addr):DO->Prop
 | .lst ds=>∃ xs,H a=some (.lst xs) /\ RelDs K H ds xs
 | .fro ds=>∃ o xs,H a=some (.frz o (.lst xs)) /\ RelDs K H ds xs
 | .dic kvs=>∃ ys,H a=some (.dK ys) /\ RelPs K H kvs ys
 | .dit kvs=>∃ ys,H a=some (.dT ys) /\ RelPs K H kvs ys
 | .ins C fs=>∃ dx ys,H a=some (.ins C dx ys) /\ RelPs K H fs ys
 | .exc C fs=>∃ dx ys,H a=some (.ext (XH a C dx)) /\ XDict H dx ys /\ RelPs K H fs ys
 | .frd o kvs=>∃ ys,H a=some (.frz o (.dK ys)) /\ RelPs K H kvs ys
 | .tb qn bm=>∃ ps,H a=some (.tbl ps) /\ TbOk H qn ps /\ BmOk H bm
theorem _root_.L2.XDict.le {H H':Hp} (l:Le H H') {dx:Option Addr} {ys:List (Str × V)} (h:XDict H dx ys):XDict H' dx ys:=by
 cases dx with
 | none=>exact h
 | some d=>obtain ⟨o,e⟩:=h;exact ⟨o,l.frzs _ _ ⟨_,by intro _ e;cases e⟩ e⟩
def Con (K:W.Frag) (G:Gp) (H:Hp):Prop:=∀ a o,G a=some o->ObjD K H a o
section
variable {K:W.Frag} {G:Gp} {H H':Hp} {a p:Addr} {o:DO}
theorem ObjD.some (h:ObjD K H a o):∃ u,H a=some u:=by
 cases o with
 | lst ds=>obtain ⟨xs,e,_⟩:=h;exact ⟨_,e⟩
 | fro ds=>obtain ⟨_,xs,e,_⟩:=h;exact ⟨_,e⟩
 | dic ds=>obtain ⟨xs,e,_⟩:=h;exact ⟨_,e⟩
 | dit ds=>obtain ⟨xs,e,_⟩:=h;exact ⟨_,e⟩
 | ins C ds=>obtain ⟨_,xs,e,_⟩:=h;exact ⟨_,e⟩
 | exc C ds=>obtain ⟨_,xs,e,_⟩:=h;exact ⟨_,e⟩
 | frd o ds=>obtain ⟨xs,e,_⟩:=h;exact ⟨_,e⟩
 | tb qn bm=>obtain ⟨_,e,_⟩:=h;exact ⟨_,e⟩
theorem ObjD.stay (h:ObjD K H a o) (l:Le H H') (e:H' a=H a):ObjD K H' a o:=by
 cases o with
 | lst ds=>obtain ⟨xs,q,r⟩:=h;exact ⟨xs,e.trans q,RelDs.le l r⟩
 | fro ds=>obtain ⟨o,xs,q,r⟩:=h;exact ⟨o,xs,e.trans q,RelDs.le l r⟩
 | dic ds=>obtain ⟨xs,q,r⟩:=h;exact ⟨xs,e.trans q,r.le l⟩
 | dit ds=>obtain ⟨xs,q,r⟩:=h;exact ⟨xs,e.trans q,r.le l⟩
 | ins C ds=>obtain ⟨dx,xs,q,r⟩:=h;exact ⟨dx,xs,e.trans q,r.le l⟩
 | exc C ds=>obtain ⟨dx,xs,q,z,r⟩:=h;exact ⟨dx,xs,e.trans q,z.le l,r.le l⟩
 | frd o ds=>obtain ⟨xs,q,r⟩:=h;exact ⟨xs,e.trans q,r.le l⟩
 | tb qn bm=>obtain ⟨ps,q,⟨r1,r2⟩,o,b1,b2⟩:=h;exact ⟨ps,e.trans q,⟨r1,fun pos cv z=>let ⟨c,o,vs,t,z1,z2,z3,z4⟩:=r2 pos cv z;⟨c,o,vs,t,z1,z2,z3,l.frzs _ _ ⟨_,by intro _ e;cases e⟩ z4⟩⟩,o,l.frzs _ _ ⟨_,by intro _ e;cases e⟩ b1,b2⟩
theorem Con.fresh (c:Con K G H) (h:H p=none):G p=none:=by
 cases e:G p with
 | none=>rfl
 | some o=>obtain ⟨u,q⟩:=(c p o e).some;rw [h] at q;cases q
theorem Con.stay (c:Con K G H) (l:Le H H') (e:∀ a o,G a=some o->H' a=H a):Con K G H':=fun a o q=>(c a o q).stay l (e a o q)
theorem Con.side {u:HO} (c:Con K G H) (h:H p=none):Con K G (upd H p u):=c.stay (Le.fresh h) fun a o q=>by
 obtain ⟨u,e⟩:=(c a o q).some;exact u15 (u35 e h)
theorem Con.put {u:HO} (c:Con K G H) (l:Le H (upd H p u)) (n:ObjD K (upd H p u) p o):Con K (gup G p o) (upd H p u):=fun b q e=>by
 by_cases hb:b=p
 ·subst hb;rw [u01] at e;cases e;exact n
 ·rw [u09 hb] at e
  exact (c b q e).stay l (u15 hb)
theorem Le.lst {xs ys:List V} (h:H p=some (.lst xs)):Le H (upd H p (.lst ys)) :=
  ⟨fun b zs q => by by_cases e : b = p
                    · subst e;rw [h] at q;cases q
                    · rw [u15 e];exact q,
   fun b o u q => by by_cases e : b = p
                     · subst e;rw [h] at q;cases q
                     · rw [u15 e];exact q⟩
theorem Le.dK {xs ys:List (Key × V)} (h:H p=some (.dK xs)):Le H (upd H p (.dK ys)) :=
  ⟨fun b zs q => by by_cases e : b = p
                    · subst e;rw [h] at q;cases q
                    · rw [u15 e];exact q,
   fun b o u q => by by_cases e : b = p
                     · subst e;rw [h] at q;cases q
                     · rw [u15 e];exact q⟩
theorem Le.ins {C dx C' dx':Addr} {xs ys:List (Str × V)} (h:H p=some (.ins C dx xs)):Le H (upd H p (.ins C' dx' ys)) :=
  ⟨fun b zs q => by by_cases e : b = p
                    · subst e;rw [h] at q;cases q
                    · rw [u15 e];exact q,
   fun b o u q => by by_cases e : b = p
                     · subst e;rw [h] at q;cases q
                     · rw [u15 e];exact q⟩
theorem Con.lstNew {ds:List D} {xs:List V} (c:Con K G H) (h:H p=none) (r:RelDs K H ds xs):Con K (gup G p (.lst ds)) (upd H p (.lst xs)) :=
 c.put (Le.fresh h) ⟨xs,u23,RelDs.le (Le.fresh h) r⟩
theorem Con.lstSet {ds:List D} {xs ys:List V} (c:Con K G H) (h:H p=some (.lst ys)) (r:RelDs K H ds xs):Con K (gup G p (.lst ds)) (upd H p (.lst xs)) :=
 c.put (Le.lst h) ⟨xs,u23,RelDs.le (Le.lst h) r⟩
end
abbrev DSt:=List (Option D)
def RelSt (K:W.Frag) (H:Hp) (σd:DSt) (σ:St):Prop:=σd.length=σ.length /\ ∀ (i:Nat) d,σd[i]?=some (some d)->∃ v,σ[i]?=some (some v) /\ RelD K H d v
theorem RelSt.le {K:W.Frag} {H H':Hp} {σd:DSt} {σ:St} (h:RelSt K H σd σ) (l:Le H H'):RelSt K H' σd σ :=
 ⟨h.1,fun i d e=>let ⟨v,a,b⟩:=h.2 i d e;⟨v,a,RelD.le l b⟩⟩
theorem RelSt.set {K:W.Frag} {H:Hp} {σd:DSt} {σ:St} {d:D} {v:V} (h:RelSt K H σd σ) (i:Nat) (r:RelD K H d v):RelSt K H (σd.set i (some d)) (σ.set i (some v)):=by
 refine ⟨by rw [List.length_set,List.length_set];exact h.1,fun j e q=>?_⟩;rw [List.getElem?_set] at q;split at q
 ·rename_i hij;subst hij
  split at q
  ·rename_i hl;cases q
   exact ⟨v,by rw [List.getElem?_set_self (by rw [<- h.1];exact hl)],r⟩
  ·cases q
 ·rename_i hij
  obtain ⟨w,a,b⟩:=h.2 j e q;exact ⟨w,by rw [List.getElem?_set_ne hij];exact a,b⟩
abbrev DK:=D->Gp->Prop
abbrev TE3:=DSt->Gp->DK->Prop
abbrev TT3:=DSt->Gp->(Bool->Gp->Prop)->Prop
abbrev TA3:=DSt->Gp->(List D->Gp->Prop)->Prop
structure Ends3 where
 nx:DSt->Gp->Prop
 rt:DK
 bk:DSt->Gp->Prop:=fun _ _=>False
 ct:DSt->Gp->Prop:=fun _ _=>False
abbrev TS3:=Ends3->DSt->Gp->Prop
def FutE (K:W.Frag) (H:Hp) (q:DK) (Q:VK):Prop:=∀ d G' v H',RelD K H' d v->Con K G' H'->Le H H'->q d G'->Q v H'
def FutT (K:W.Frag) (H:Hp) (q:Bool->Gp->Prop) (Q:Bool->Hp->Prop):Prop:=∀ b G' H',Con K G' H'->Le H H'->q b G'->Q b H'
def FutA (K:W.Frag) (H:Hp) (q:List D->Gp->Prop) (Q:List V->Hp->Prop):Prop:=∀ ds G' vs H',RelDs K H' ds vs->Con K G' H'->Le H H'->q ds G'->Q vs H'
def FutS (K:W.Frag) (H:Hp) (q:DSt->Gp->Prop) (Q:St->Hp->Prop):Prop:=∀ σd G' σ H',RelSt K H' σd σ->Con K G' H'->Le H H'->q σd G'->Q σ H'
theorem FutE.le {K:W.Frag} {H H1:Hp} {q:DK} {Q:VK} (f:FutE K H q Q) (l:Le H H1):FutE K H1 q Q:=fun d G v H' r c l'=>f d G v H' r c (l.trans l')
theorem FutS.le {K:W.Frag} {H H1:Hp} {q:DSt->Gp->Prop} {Q:St->Hp->Prop} (f:FutS K H q Q) (l:Le H H1):FutS K H1 q Q:=fun d G v H' r c l'=>f d G v H' r c (l.trans l')
structure FutD (K:W.Frag) (H:Hp) (d:Ends3) (D:Ends):Prop where
 nx:FutS K H d.nx D.nx
 rt:FutE K H d.rt D.rt
 bk:FutS K H d.bk D.bk
 ct:FutS K H d.ct D.ct
theorem FutD.le {K:W.Frag} {H H1:Hp} {d:Ends3} {D:Ends} (f:FutD K H d D) (l:Le H H1):FutD K H1 d D:=⟨f.nx.le l,f.rt.le l,f.bk.le l,f.ct.le l⟩
def lowE (K:W.Frag) (t:TE3):TE:=fun σ H Q=>∃ σd G q,RelSt K H σd σ /\ Con K G H /\ t σd G q /\ FutE K H q Q
def lowT (K:W.Frag) (t:TT3):TT:=fun σ H Q=>∃ σd G q,RelSt K H σd σ /\ Con K G H /\ t σd G q /\ FutT K H q Q
def lowA (K:W.Frag) (t:TA3):TA:=fun σ H Q=>∃ σd G q,RelSt K H σd σ /\ Con K G H /\ t σd G q /\ FutA K H q Q
def lowS (K:W.Frag) (t:TS3):TS:=fun D σ H=>∃ σd G d,RelSt K H σd σ /\ Con K G H /\ t d σd G /\ FutD K H d D
abbrev R3:=D->D->Gp->DK->Prop
def lowR (K:W.Frag) (r:R3):R2:=fun x y H Q=>∃ d e G q,RelD K H d x /\ RelD K H e y /\ Con K G H /\ r d e G q /\ FutE K H q Q
abbrev U3:=D->Gp->DK->Prop
def lowU (K:W.Frag) (r:U3):V->Hp->VK->Prop:=fun x H Q=>∃ d G q,RelD K H d x /\ Con K G H /\ r d G q /\ FutE K H q Q
abbrev C3:=List D->Gp->DK->Prop
def lowC (K:W.Frag) (r:C3):List V->Hp->VK->Prop:=fun xs H Q=>∃ ds G q,RelDs K H ds xs /\ Con K G H /\ r ds G q /\ FutE K H q Q
def dVar (i:Nat):TE3:=fun σ G q=>match σ[i]? with | some (some d)=>q d G | _=>False
def dC (d:D):TE3:=fun _ G q=>q d G
def dOp (r:R3) (ta tb:TE3):TE3:=fun σ G q=>ta σ G fun x G1=>tb σ G1 fun y G2=>r x y G2 q
def dUn (r:U3) (ta:TE3):TE3:=fun σ G q=>ta σ G fun x G1=>r x G1 q
def dNil:TA3:=fun _ G q=>q [] G
def u52 (ta:TE3) (tr:TA3):TA3:=fun σ G q=>ta σ G fun x G1=>tr σ G1 fun xs G2=>q (x::xs) G2
def dTup (t:TA3):TE3:=fun σ G q=>t σ G fun xs G1=>xs.length<=sizeLine /\ q (.tup xs) G1
def dLst (t:TA3):TE3:=fun σ G q=>t σ G fun xs G1=>xs.length<=sizeLine /\ ∀ p,G1 p=none->q (.ref p) (gup G1 p (.lst xs))
def dB (t:TE3):TT3:=fun σ G q=>t σ G fun x G1=>match x with | .bl c=>q c G1 | _=>False
def dAnd (t u:TT3):TT3:=fun σ G q=>t σ G fun c G1=>if c=true then u σ G1 q else q false G1
def dOr (t u:TT3):TT3:=fun σ G q=>t σ G fun c G1=>if c=true then q true G1 else u σ G1 q
def dNot (t:TT3):TT3:=fun σ G q=>t σ G fun c G1=>q (!c) G1
def v39 (ta tb:TE3):TE3:=fun σ G q=>ta σ G fun x G1=>match x with | .bl c=>if c=true then tb σ G1 q else q (.bl false) G1 | _=>False
def dOrV (ta tb:TE3):TE3:=fun σ G q=>ta σ G fun x G1=>match x with | .bl c=>if c=true then q (.bl true) G1 else tb σ G1 q | _=>False
def vh4 (ta:TE3):TE3:=fun σ G q=>ta σ G fun x G1=>match x with | .bl c=>q (.bl (!c)) G1 | _=>False
def dIf (t:TT3) (ta tb:TE3):TE3:=fun σ G q=>t σ G fun c G1=>if c=true then ta σ G1 q else tb σ G1 q
section
variable {K:W.Frag} {σ:St} {H:Hp} {Q:VK}
theorem ve5 {i:Nat} (h:lowE K (dVar i) σ H Q):tVar i σ H Q:=by
 obtain ⟨σd,G,q,rs,c,t,f⟩:=h;unfold dVar at t;split at t
 ·rename_i d e
  obtain ⟨v,hv,r⟩:=rs.2 i d e;exact ⟨v,hv,f d G v H r c (Le.refl H) t⟩
 ·exact t.elim
theorem up4 {d:D} {v:V} (r:∀ H,RelD K H d v) (h:lowE K (dC d) σ H Q):tC v σ H Q:=by
 obtain ⟨σd,G,q,rs,c,t,f⟩:=h;exact f d G v H (r H) c (Le.refl H) t
theorem um6 {r:R3} {ta tb:TE3} (h:lowE K (dOp r ta tb) σ H Q):tOp (lowR K r) (lowE K ta) (lowE K tb) σ H Q:=by
 obtain ⟨σd,G,q,rs,c,t,f⟩:=h;exact ⟨σd,G,_,rs,c,t,fun d G1 v H1 r1 c1 l1 t1=>⟨σd,G1,_,rs.le l1,c1,t1,fun e G2 u H2 r2 c2 l2 t2=>⟨d,e,G2,q,RelD.le l2 r1,r2,c2,t2,f.le (l1.trans l2)⟩⟩⟩
theorem vs7 {r:U3} {ta:TE3} (h:lowE K (dUn r ta) σ H Q):tUn (lowU K r) (lowE K ta) σ H Q:=by
 obtain ⟨σd,G,q,rs,c,t,f⟩:=h;exact ⟨σd,G,_,rs,c,t,fun d G1 v H1 r1 c1 l1 t1=>⟨d,G1,q,r1,c1,t1,f.le l1⟩⟩
theorem vf0 {Q:List V->Hp->Prop} (h:lowA K dNil σ H Q):tNil σ H Q:=by
 obtain ⟨σd,G,q,rs,c,t,f⟩:=h;exact f [] G [] H .nil c (Le.refl H) t
theorem v16 {ta:TE3} {tr:TA3} {Q:List V->Hp->Prop} (h:lowA K (u52 ta tr) σ H Q):va0 (lowE K ta) (lowA K tr) σ H Q:=by
 obtain ⟨σd,G,q,rs,c,t,f⟩:=h;exact ⟨σd,G,_,rs,c,t,fun d G1 v H1 r1 c1 l1 t1=>⟨σd,G1,_,rs.le l1,c1,t1,fun ds G2 vs H2 r2 c2 l2 t2=>f (d::ds) G2 (v::vs) H2 (.cons (RelD.le l2 r1) r2) c2 (l1.trans l2) t2⟩⟩
theorem ve6 {ta:TA3} (h:lowE K (dTup ta) σ H Q):tTup (lowA K ta) σ H Q:=by
 obtain ⟨σd,G,q,rs,c,t,f⟩:=h;refine ⟨σd,G,_,rs,c,t,fun ds G1 vs H1 r1 c1 l1 t1=>⟨by rw [<- r1.length];exact t1.1,fun p hp=>?_⟩⟩;refine f (.tup ds) G1 (.ref p) _ ?_ (c1.side hp) (l1.trans (Le.fresh hp)) t1.2;rw [RelD];exact ⟨p,vs,rfl,SqT.of u23,RelDs.le (Le.fresh hp) r1⟩
theorem vf1 {ta:TA3} (h:lowE K (dLst ta) σ H Q):tLst (lowA K ta) σ H Q:=by
 obtain ⟨σd,G,q,rs,c,t,f⟩:=h;refine ⟨σd,G,_,rs,c,t,fun ds G1 vs H1 r1 c1 l1 t1=>⟨by rw [<- r1.length];exact t1.1,fun p hp=>?_⟩⟩;exact f (.ref p) _ (.ref p) _ (by rw [RelD]) (c1.lstNew hp r1) (l1.trans (Le.fresh hp)) (t1.2 p (c1.fresh hp))
theorem RelD.bl_inv {c:Bool} {v:V} (h:RelD K H (.bl c) v):v=.bl c:=by rw [RelD] at h;exact h
theorem v21 {t u:TT3} {Q:Bool->Hp->Prop} (h:lowT K (dAnd t u) σ H Q):tAnd (lowT K t) (lowT K u) σ H Q:=by
 obtain ⟨σd,G,q,rs,c,t,f⟩:=h;refine ⟨σd,G,_,rs,c,t,fun b G1 H1 c1 l1 t1=>?_⟩;cases b with
 | true=>rw [if_pos rfl] at t1 ⊢;exact ⟨σd,G1,q,rs.le l1,c1,t1,fun b G2 H2 c2 l2 t2=>f b G2 H2 c2 (l1.trans l2) t2⟩
 | false=>rw [if_neg Bool.false_ne_true] at t1 ⊢;exact f _ _ _ c1 l1 t1
theorem ve9 {t u:TT3} {Q:Bool->Hp->Prop} (h:lowT K (dOr t u) σ H Q):tOr (lowT K t) (lowT K u) σ H Q:=by
 obtain ⟨σd,G,q,rs,c,t,f⟩:=h;refine ⟨σd,G,_,rs,c,t,fun b G1 H1 c1 l1 t1=>?_⟩;cases b with
 | false=>rw [if_neg Bool.false_ne_true] at t1 ⊢;exact ⟨σd,G1,q,rs.le l1,c1,t1,fun b G2 H2 c2 l2 t2=>f b G2 H2 c2 (l1.trans l2) t2⟩
 | true=>rw [if_pos rfl] at t1 ⊢;exact f _ _ _ c1 l1 t1
theorem v10 {t:TT3} {Q:Bool->Hp->Prop} (h:lowT K (dNot t) σ H Q):tNot (lowT K t) σ H Q:=by
 obtain ⟨σd,G,q,rs,c,t,f⟩:=h;exact ⟨σd,G,_,rs,c,t,fun b G1 H1 c1 l1 t1=>f _ _ _ c1 l1 t1⟩
theorem vt0 {t:TT3} {ta tb:TE3} (h:lowE K (dIf t ta tb) σ H Q):tIf (lowT K t) (lowE K ta) (lowE K tb) σ H Q:=by
 obtain ⟨σd,G,q,rs,c,t,f⟩:=h;refine ⟨σd,G,_,rs,c,t,fun b G1 H1 c1 l1 t1=>?_⟩;cases b with
 | true=>rw [if_pos rfl] at t1 ⊢;exact ⟨σd,G1,q,rs.le l1,c1,t1,f.le l1⟩
 | false=>rw [if_neg Bool.false_ne_true] at t1 ⊢;exact ⟨σd,G1,q,rs.le l1,c1,t1,f.le l1⟩
end
def vh5:TS3:=fun E σ G=>E.nx σ G
def Go (k:DSt->Gp->Prop) (σ:DSt) (G:Gp):Prop:=k σ G
def dSeq (t u:TS3):TS3:=fun E σ G=>t { E with nx:=Go (u E) } σ G
def up9 (te:TE3):TS3:=fun E σ G=>te σ G fun _ G1=>E.nx σ G1
def dRet (te:TE3):TS3:=fun E σ G=>te σ G E.rt
def w14:TS3:=fun E _ G=>E.rt .non G
def dIfS (c:TT3) (t u:TS3):TS3:=fun E σ G=>c σ G fun b G1=>if b=true then t E σ G1 else u E σ G1
abbrev TG3:=D->DSt->Gp->(DSt->Gp->Prop)->Prop
abbrev TGs3:=List D->DSt->Gp->(DSt->Gp->Prop)->Prop
def lowG (K:W.Frag) (t:TG3):TG:=fun v σ H Q=>∃ d σd G q,RelD K H d v /\ RelSt K H σd σ /\ Con K G H /\ t d σd G q /\ FutS K H q Q
def v23 (K:W.Frag) (t:TGs3):TGs:=fun vs σ H Q=>∃ ds σd G q,RelDs K H ds vs /\ RelSt K H σd σ /\ Con K G H /\ t ds σd G q /\ FutS K H q Q
def u88 (i:Nat):TG3:=fun d σ G q=>q (σ.set i (some d)) G
def jNil:TGs3:=fun ds σ G q=>ds=[] /\ q σ G
def vg1 (t:TG3) (u:TGs3):TGs3:=fun ds σ G q=>match ds with | d::r=>t d σ G fun σ' G'=>u r σ' G' q | []=>False
abbrev TSet3:=D->D->D->Gp->(Gp->Prop)->Prop
def uv0 (K:W.Frag) (t:TSet3):TSet:=fun o i v H Q=>∃ d e x G q,RelD K H d o /\ RelD K H e i /\ RelD K H x v /\ Con K G H /\ t d e x G q /\ ∀ G' H',Con K G' H'->Le H H'->q G'->Q H'
def jSub (to ti:TE3) (t:TSet3):TG3:=fun d σ G q=>to σ G fun o G1=>ti σ G1 fun i G2=>t o i d G2 fun G3=>q σ G3
def dAsg (te:TE3) (g:TG3):TS3:=fun E σ G=>te σ G fun x G1=>g x σ G1 E.nx
section
variable {K:W.Frag} {σ:St} {H:Hp} {E:Ends}
theorem v13 (h:lowS K vh5 E σ H):vl8 E σ H:=by
 obtain ⟨σd,G,d,rs,c,t,f⟩:=h;exact f.nx _ _ _ _ rs c (Le.refl H) t
theorem ve7 {t u:TS3} (h:lowS K (dSeq t u) E σ H):tSeq (lowS K t) (lowS K u) E σ H:=by
 obtain ⟨σd,G,d,rs,c,t,f⟩:=h;exact ⟨σd,G,_,rs,c,t,fun σd' G' σ' H' rs' c' l' t'=>⟨σd',G',d,rs',c',t',f.le l'⟩,f.rt,f.bk,f.ct⟩
theorem um7 {te:TE3} (h:lowS K (up9 te) E σ H):v99 (lowE K te) E σ H:=by
 obtain ⟨σd,G,d,rs,c,t,f⟩:=h;exact ⟨σd,G,_,rs,c,t,fun x G1 v H1 r1 c1 l1 t1=>f.nx _ _ _ _ (rs.le l1) c1 l1 t1⟩
theorem ve8 {te:TE3} (h:lowS K (dRet te) E σ H):tRet (lowE K te) E σ H:=by
 obtain ⟨σd,G,d,rs,c,t,f⟩:=h;exact ⟨σd,G,_,rs,c,t,f.rt⟩
theorem vf2 {tc:TT3} {t u:TS3} (h:lowS K (dIfS tc t u) E σ H):tIfS (lowT K tc) (lowS K t) (lowS K u) E σ H:=by
 obtain ⟨σd,G,d,rs,c,t,f⟩:=h;refine ⟨σd,G,_,rs,c,t,fun b G1 H1 c1 l1 t1=>?_⟩;cases b with
 | true=>rw [if_pos rfl] at t1 ⊢;exact ⟨σd,G1,d,rs.le l1,c1,t1,f.le l1⟩
 | false=>rw [if_neg Bool.false_ne_true] at t1 ⊢;exact ⟨σd,G1,d,rs.le l1,c1,t1,f.le l1⟩
theorem uu7 {i:Nat} {v:V} {Q:St->Hp->Prop} (h:lowG K (u88 i) v σ H Q):vg8 i v σ H Q:=by
 obtain ⟨d,σd,G,q,r,rs,c,t,f⟩:=h;exact f _ _ _ _ (rs.set i r) c (Le.refl H) t
theorem v15 {vs:List V} {Q:St->Hp->Prop} (h:v23 K jNil vs σ H Q):gNil vs σ H Q:=by
 obtain ⟨ds,σd,G,q,r,rs,c,⟨e,t⟩,f⟩:=h;subst e;exact ⟨r.inv_nil,f _ _ _ _ rs c (Le.refl H) t⟩
theorem uu8 {t:TG3} {u:TGs3} {vs:List V} {Q:St->Hp->Prop} (h:v23 K (vg1 t u) vs σ H Q):vv0 (lowG K t) (v23 K u) vs σ H Q:=by
 obtain ⟨ds,σd,G,q,r,rs,c,t,f⟩:=h;cases ds with
 | nil=>exact t.elim
 | cons d ds =>
  obtain ⟨x,xs,rfl,r1,r2⟩:=r.inv_cons;exact ⟨x,xs,rfl,d,σd,G,_,r1,rs,c,t,fun σd' G' σ' H' rs' c' l' t'=>⟨ds,σd',G',q,RelDs.le l' r2,rs',c',t',f.le l'⟩⟩
theorem v14 {to ti:TE3} {t:TSet3} {v:V} {Q:St->Hp->Prop} (h:lowG K (jSub to ti t) v σ H Q):gSub (lowE K to) (lowE K ti) (uv0 K t) v σ H Q:=by
 obtain ⟨d,σd,G,q,r,rs,c,t,f⟩:=h;exact ⟨σd,G,_,rs,c,t,fun o G1 vo H1 r1 c1 l1 t1=>⟨σd,G1,_,rs.le l1,c1,t1,fun i G2 vi H2 r2 c2 l2 t2=>⟨o,i,d,G2,_,RelD.le l2 r1,r2,RelD.le (l1.trans l2) r,c2,t2,fun G3 H3 c3 l3 t3 =>
  f _ _ _ _ (rs.le (l1.trans (l2.trans l3))) c3 (l1.trans (l2.trans l3)) t3⟩⟩⟩
theorem vf6 {te:TE3} {g:TG3} (h:lowS K (dAsg te g) E σ H):tAsg (lowE K te) (lowG K g) E σ H:=by
 obtain ⟨σd,G,d,rs,c,t,f⟩:=h;exact ⟨σd,G,_,rs,c,t,fun x G1 v H1 r1 c1 l1 t1=>⟨x,σd,G1,_,r1,rs.le l1,c1,t1,f.nx.le l1⟩⟩
end
structure IT where
 items:List D
 ok:Gp->Prop
structure ItRel (K:W.Frag) (H0:Hp) (it:IT) (J:It):Prop where
 go:∀ (i:Nat) G H,Le H0 H->Con K G H->it.ok G->i < it.items.length->J.go i H
 stop:∀ (i:Nat) G H,Le H0 H->Con K G H->it.ok G->it.items.length<=i->J.stop i H
 yld:∀ (i:Nat) G H x H',Le H0 H->Con K G H->it.ok G->i < it.items.length->J.yld i H x H'->Con K G H' /\ Le H H' /\ ∃ d,it.items[i]?=some d /\ RelD K H' d x
abbrev TI3:=DSt->Gp->(IT->Gp->Prop)->Prop
def lowI (K:W.Frag) (t:TI3):TI:=fun σ H R=>∃ σd G r,RelSt K H σd σ /\ Con K G H /\ t σd G r /\ ∀ it J G' H',ItRel K H' it J->Con K G' H'->Le H H'->r it G'->R J H'
def forL (ok:Gp->Prop) (g:TG3) (tb:TS3) (E:Ends3):List D->DSt->Gp->Prop
 | [],σ,G=>ok G /\ E.nx σ G
 | x::r,σ,G=>ok G /\ g x σ G fun σ1 G1=>tb { E with nx:=forL ok g tb E r,ct:=forL ok g tb E r,bk:=E.nx } σ1 G1
def dFor (wi:TI3) (g:TG3) (tb:TS3):TS3:=fun E σ G=>wi σ G fun it G1=>forL it.ok g tb E it.items σ G1
theorem vf3 {K:W.Frag} {wi:TI3} {g:TG3} {tb:TS3} {σ:St} {H:Hp} {E:Ends} (h:lowS K (dFor wi g tb) E σ H):tFor (lowI K wi) (lowG K g) (lowS K tb) E σ H:=by
 obtain ⟨σd,G,d,rs,cc,t,f⟩:=h;refine ⟨σd,G,_,rs,cc,t,fun it J G1 H1 ir c1 l1 t1=>?_⟩;refine ⟨fun i m σ' H'=>∃ σd' G',Le H1 H' /\ RelSt K H' σd' σ' /\ Con K G' H' /\ i+m=it.items.length /\ forL it.ok g tb d (it.items.drop i) σd' G',⟨it.items.length,σd,G1,Le.refl _,rs.le l1,c1,by omega,by rw [List.drop_zero];exact t1⟩,?_⟩;rintro i m σ2 H2 ⟨σd2,G2,l2,rs2,c2,e2,t2⟩
 by_cases hi:i < it.items.length
 ·rw [List.drop_eq_getElem_cons hi] at t2
  obtain ⟨ok2,t2⟩:=t2;refine .inr ⟨ir.go i G2 H2 l2 c2 ok2 hi,fun σ' H'=>∃ σd' G',Le H1 H' /\ RelSt K H' σd' σ' /\ Con K G' H' /\ forL it.ok g tb d (it.items.drop (i+1)) σd' G',?_,?_⟩
  ·rintro σ' H' ⟨σd',G',a1,a2,a3,a4⟩
   exact ⟨m - 1,by omega,σd',G',a1,a2,a3,by omega,a4⟩
  ·intro x H3 y
   obtain ⟨c3,l3,e,he,r3⟩:=ir.yld i G2 H2 x H3 l2 c2 ok2 hi y;rw [List.getElem?_eq_getElem hi] at he;cases he;refine ⟨_,σd2,G2,_,r3,rs2.le l3,c3,t2,fun σd4 G4 σ4 H4 rs4 c4 l4 t4=>?_⟩;have l14:Le H1 H4:=l2.trans (l3.trans l4);have key:FutS K H4 (forL it.ok g tb d (it.items.drop (i+1))) (fun σ' H'=>∃ σd' G',Le H1 H' /\ RelSt K H' σd' σ' /\ Con K G' H' /\ forL it.ok g tb d (it.items.drop (i+1)) σd' G') :=
    fun σd5 G5 σ5 H5 rs5 c5 l5 t5=>⟨σd5,G5,l14.trans l5,rs5,c5,t5⟩
   exact ⟨σd4,G4,_,rs4,c4,t4,key,f.rt.le (l1.trans l14),f.nx.le (l1.trans l14),key⟩
 ·rw [List.drop_eq_nil_of_le (by omega)] at t2
  exact .inl ⟨ir.stop i G2 H2 l2 c2 t2.1 (by omega),f.nx _ _ _ _ rs2 c2 (l1.trans l2) t2.2⟩
theorem RelDs.at_ {K:W.Frag} {H:Hp} {ds:List D} {xs:List V} {i:Nat} {x:V} (h:RelDs K H ds xs) (e:xs[i]?=some x):∃ d,ds[i]?=some d /\ RelD K H d x:=by
 have hl:i < ds.length:=by rw [h.length];exact (List.getElem?_eq_some_iff.mp e).1
 obtain ⟨y,hy,r⟩:=h.get (List.getElem?_eq_getElem hl);rw [e] at hy;cases hy;exact ⟨_,List.getElem?_eq_getElem hl,r⟩
theorem uv4 {K:W.Frag} {H0:Hp} {a:Addr} {ds:List D} {xs:List V} (s:SqT K H0 a xs) (r:RelDs K H0 ds xs):ItRel K H0 ⟨ds,fun _=>True⟩ (Itt K a) where
 go:=fun i G H l c _ hi=>⟨xs,xs[i]'(by rw [<- r.length];exact hi),l.sqT s,List.getElem?_eq_getElem _⟩
 stop:=fun i G H l c _ hi=>⟨xs,l.sqT s,by rw [<- r.length];exact hi⟩
 yld:=fun i G H x H' l c _ hi y=>by
  obtain ⟨e,y⟩:=y;subst e;have hx:=y xs (l.sqT s);obtain ⟨d,hd,rd⟩:=(RelDs.le l r).at_ hx
  exact ⟨c,Le.refl _,d,hd,rd⟩
def u11:Option DO->Option (List D)
 | some (.lst xs)=>some xs
 | some (.fro xs)=>some xs
 | _=>none
theorem u19 {K:W.Frag} {G:Gp} {H:Hp} {a:Addr} {ds:List D} (c:Con K G H) (h:u11 (G a)=some ds):∃ xs,SqL K H a xs /\ RelDs K H ds xs:=by
 cases e:G a with
 | none=>rw [e] at h;cases h
 | some o =>
  rw [e] at h;have q:=c a o e;cases o with
  | lst xs=>cases h;obtain ⟨ys,q,r⟩:=q;exact ⟨ys,.inl (.inl q),r⟩
  | fro xs=>cases h;obtain ⟨o,ys,q,r⟩:=q;exact ⟨ys,.inl (.inr ⟨o,q⟩),r⟩
  | dic _=>cases h
  | dit _=>cases h
  | ins _ _=>cases h
  | exc _ _=>cases h
  | frd _ _=>cases h
  | tb _ _=>cases h
theorem up5 {K:W.Frag} {H0:Hp} {a:Addr} {ds:List D}:ItRel K H0 ⟨ds,fun G=>u11 (G a)=some ds⟩ (Itl K a) where
 go:=fun i G H l c ok hi=>by
  obtain ⟨xs,s,r⟩:=u19 c ok;exact ⟨xs,xs[i]'(by rw [<- r.length];exact hi),s,List.getElem?_eq_getElem _⟩
 stop:=fun i G H l c ok hi=>by
  obtain ⟨xs,s,r⟩:=u19 c ok;exact ⟨xs,s,by rw [<- r.length];exact hi⟩
 yld:=fun i G H x H' l c ok hi y=>by
  obtain ⟨e,y⟩:=y;subst e;obtain ⟨xs,s,r⟩:=u19 c ok;obtain ⟨d,hd,rd⟩:=r.at_ (y xs s)
  exact ⟨c,Le.refl _,d,hd,rd⟩
def rngD (lo:Int) (n:Nat):List D:=(List.range n).map fun (i:Nat)=>.int (lo+i)
theorem uj7 {K:W.Frag} {H0:Hp} {lo:Int} {n:Nat}:ItRel K H0 ⟨rngD lo n,fun _=>True⟩ (Itr lo n) where
 go:=fun i G H l c _ hi=>by
  have:i < n:=by simpa [rngD] using hi
  exact this
 stop:=fun i G H l c _ hi=>by
  have:n<=i:=by simpa [rngD] using hi
  exact this
 yld:=fun i G H x H' l c _ hi y=>by
  obtain ⟨e,y⟩:=y;subst e;subst y;refine ⟨c,Le.refl _,.int (lo+i),?_,by rw [RelD]⟩;have:i < n:=by simpa [rngD] using hi
  simp [rngD,this]
abbrev Sp3:=List D->Gp->DK->Prop
def uh2 (K:W.Frag) (S:Sp3):Sp:=fun vs H Q _=>∃ ds G R,RelDs K H ds vs /\ Con K G H /\ S ds G R /\ FutE K H R Q
def dCall (S:Sp3) (dds:List D) (t:TA3):TE3:=fun σ G q=>t σ G fun ds G1=>∃ R,S (ds++dds) G1 R /\ ∀ d G',R d G'->q d G'
def vw0 (C:Addr) (m:Str) (S:Sp3) (dds:List D) (ta:TE3) (t:TA3):TE3:=fun σ G q=>ta σ G fun x G1=>match x with
 | .ref a=>(match G1 a with
  | some (.ins C' fs)=>C'=C /\ fs.lookup m=none /\ t σ G1 fun ds G2=>∃ R,S (.ref a::(ds++dds)) G2 R /\ ∀ d G',R d G'->q d G'
  | _=>False)
 | _=>False
def w15 (C:Addr) (S:Sp3) (dds:List D) (t:TA3):TE3:=fun σ G q=>t σ G fun ds G1=>∀ x,G1 x=none ->
 ∃ R,S (.ref x::(ds++dds)) (gup G1 x (.ins C [])) R /\ ∀ d G',R d G'->d=.non /\ q (.ref x) G'
def putD (f:Str) (v:D):List (Str × D)->List (Str × D)
 | []=>[(f,v)]
 | (g,u)::r=>if g=f then (g,v)::r else (g,u)::putD f v r
def dFld (C:Addr) (ta:TE3) (f:Str):TE3:=fun σ G q=>ta σ G fun x G1=>match x with
 | .ref a=>(match G1 a with
  | some (.ins C' fs)=>C'=C /\ (match fs.lookup f with | some d=>q d G1 | none=>False)
  | _=>False)
 | _=>False
def w13 (C:Addr) (ta tv:TE3) (f:Str):TS3:=fun E σ G=>tv σ G fun y G1=>ta σ G1 fun x G2=>match x with
 | .ref a=>(match G2 a with
  | some (.ins C' fs)=>C'=C /\ fs.length < 1000 /\ E.nx σ (gup G2 a (.ins C (putD f y fs)))
  | _=>False)
 | _=>False
def w16 (C:Addr) (ta tv:TE3) (r:R3) (f:Str):TS3:=fun E σ G=>ta σ G fun x G1=>match x with
 | .ref a=>(match G1 a with
  | some (.ins C' fs)=>C'=C /\ (match fs.lookup f with
   | some d=>tv σ G1 fun y G2=>r d y G2 fun z G3=>(match G3 a with
    | some (.ins C'' fs')=>C''=C /\ fs'.length < 1000 /\ E.nx σ (gup G3 a (.ins C (putD f z fs')))
    | _=>False)
   | none=>False)
  | _=>False)
 | _=>False
section
variable {K:W.Frag} {σ:St} {H:Hp} {Q:VK} {E:Ends}
theorem v18 {S:Sp3} {dds:List D} {dvs:List V} {t:TA3} {XE:XK} (hd:∀ H,RelDs K H dds dvs) (h:lowE K (dCall S dds t) σ H Q):va1 (uh2 K S) dvs XE (lowA K t) σ H Q:=by
 obtain ⟨σd,G,q,rs,c,t,f⟩:=h;exact ⟨σd,G,_,rs,c,t,fun ds G1 vs H1 r1 c1 l1 ⟨R,s1,t1⟩=>⟨_,G1,R,r1.append (hd H1),c1,s1,fun d G2 v H2 r2 c2 l2 t2=>f d G2 v H2 r2 c2 (l1.trans l2) (t1 d G2 t2)⟩⟩
theorem RelD.refI {a:Addr}:RelD K H (.ref a) (.ref a):=by rw [RelD]
theorem RelD.ref_inv {a:Addr} {v:V} (h:RelD K H (.ref a) v):v=.ref a:=by rw [RelD] at h;exact h
theorem RelPs.lookup_none {κ:Type} [BEq κ] {k:κ}:∀ {ps:List (κ × D)} {qs:List (κ × V)},RelPs K H ps qs->ps.lookup k=none->qs.lookup k=none
 | [],qs,h,_=>by
  cases qs with
  | nil=>rfl
  | cons _ _=>have:=h.1;simp at this
 | (g,d)::ps,qs,h,e=>by
  cases qs with
  | nil=>have:=h.1;simp at this
  | cons q qs =>
   obtain ⟨g',v⟩:=q;have h1:=h.1;simp only [List.map_cons,List.cons.injEq] at h1;obtain ⟨rfl,h1⟩:=h1;obtain ⟨x,r,e2,_,h2⟩:=(show RelDs K H (d::ps.map (·.2)) (v::qs.map (·.2)) from h.2).inv_cons;cases e2;rw [List.lookup_cons] at e ⊢;cases hk:k == g with
   | true=>rw [hk] at e;cases e
   | false=>rw [hk] at e;exact RelPs.lookup_none ⟨h1,h2⟩ e
theorem RelPs.lookup {κ:Type} [BEq κ] {k:κ} {d:D}:∀ {ps:List (κ × D)} {qs:List (κ × V)},RelPs K H ps qs->ps.lookup k=some d->∃ v,qs.lookup k=some v /\ RelD K H d v
 | [],qs,h,e=>by cases e
 | (g,d')::ps,qs,h,e=>by
  cases qs with
  | nil=>have:=h.1;simp at this
  | cons q qs =>
   obtain ⟨g',v⟩:=q;have h1:=h.1;simp only [List.map_cons,List.cons.injEq] at h1;obtain ⟨rfl,h1⟩:=h1;obtain ⟨x,r,e2,r1,h2⟩:=(show RelDs K H (d'::ps.map (·.2)) (v::qs.map (·.2)) from h.2).inv_cons;cases e2;rw [List.lookup_cons] at e ⊢;cases hk:k == g with
   | true=>rw [hk] at e;cases e;exact ⟨v,rfl,r1⟩
   | false=>rw [hk] at e;exact RelPs.lookup ⟨h1,h2⟩ e
theorem RelPs.nil {κ:Type}:RelPs (κ:=κ) K H [] []:=⟨rfl,.nil⟩
theorem RelPs.cons {κ:Type} {k:κ} {d:D} {v:V} {ps:List (κ × D)} {qs:List (κ × V)} (r:RelD K H d v) (h:RelPs K H ps qs):RelPs K H ((k,d)::ps) ((k,v)::qs) :=
 ⟨by simp [h.1],.cons r h.2⟩
theorem RelPs.inv_cons {κ:Type} {k:κ} {d:D} {ps:List (κ × D)} {qs:List (κ × V)} (h:RelPs K H ((k,d)::ps) qs):∃ v r,qs=(k,v)::r /\ RelD K H d v /\ RelPs K H ps r:=by
 cases qs with
 | nil=>have:=h.1;simp at this
 | cons q qs =>
  obtain ⟨g',v⟩:=q;have h1:=h.1;simp only [List.map_cons,List.cons.injEq] at h1;obtain ⟨rfl,h1⟩:=h1;obtain ⟨x,r,e2,r1,h2⟩:=(show RelDs K H (d::ps.map (·.2)) (v::qs.map (·.2)) from h.2).inv_cons;cases e2;exact ⟨v,qs,rfl,r1,h1,h2⟩
theorem RelPs.inv_nil {κ:Type} {qs:List (κ × V)} (h:RelPs K H [] qs):qs=[]:=by
 cases qs with
 | nil=>rfl
 | cons _ _=>have:=h.1;simp at this
theorem RelPs.length {κ:Type} {ps:List (κ × D)} {qs:List (κ × V)} (h:RelPs K H ps qs):ps.length=qs.length:=by
 have:=h.2.length;simpa using this
theorem vx2 {C:Addr} {m:Str} {S:Sp3} {dds:List D} {dvs:List V} {ta:TE3} {t:TA3} {XE:XK} (hd:∀ H,RelDs K H dds dvs) (h:lowE K (vw0 C m S dds ta t) σ H Q):vy9 C m (uh2 K S) dvs XE (lowE K ta) (lowA K t) σ H Q:=by
 obtain ⟨σd,G,q,rs,c,t,f⟩:=h;refine ⟨σd,G,_,rs,c,t,fun x G1 v H1 r1 c1 l1 t1=>?_⟩;split at t1
 ·rename_i a
  split at t1
  ·rename_i C' fs e
   obtain ⟨rfl,n,t1⟩:=t1;obtain ⟨dx,ys,e2,rf⟩:=c1 _ _ e;refine ⟨a,dx,ys,r1.ref_inv,e2,rf.lookup_none n,σd,G1,_,rs.le l1,c1,t1,fun ds G2 vs H2 r2 c2 l2 ⟨R,s2,t2⟩=>?_⟩;exact ⟨_,G2,R,.cons (RelD.le l2 r1) (r2.append (hd H2)),c2,s2,fun d G3 v H3 r3 c3 l3 t3=>f d G3 v H3 r3 c3 (l1.trans (l2.trans l3)) (t2 d G3 t3)⟩
  ·exact t1.elim
 ·exact t1.elim
theorem w07 {te:TE3} {Q:Bool->Hp->Prop} (h:lowT K (dB te) σ H Q):tB (lowE K te) σ H Q:=by
 obtain ⟨σd,G,q,rs,c,t,f⟩:=h;refine ⟨σd,G,_,rs,c,t,fun x G1 v H1 r1 c1 l1 t1=>?_⟩;split at t1
 ·rename_i k
  exact ⟨k,r1.bl_inv,f _ _ _ c1 l1 t1⟩
 ·exact t1.elim
theorem v20 {ta tb:TE3} (h:lowE K (v39 ta tb) σ H Q):vm1 (lowE K ta) (lowE K tb) σ H Q:=by
 obtain ⟨σd,G,q,rs,c,t,f⟩:=h;refine ⟨σd,G,_,rs,c,t,fun x G1 v H1 r1 c1 l1 t1=>?_⟩;split at t1
 ·rename_i k
  refine ⟨k,r1.bl_inv,?_⟩;cases k with
  | true=>rw [if_pos rfl] at t1 ⊢;exact ⟨σd,G1,q,rs.le l1,c1,t1,f.le l1⟩
  | false=>rw [if_neg Bool.false_ne_true] at t1 ⊢;exact f _ _ _ _ (by rw [RelD]) c1 l1 t1
 ·exact t1.elim
theorem v09 {ta:TE3} (h:lowE K (vh4 ta) σ H Q):vl7 (lowE K ta) σ H Q:=by
 obtain ⟨σd,G,q,rs,c,t,f⟩:=h;refine ⟨σd,G,_,rs,c,t,fun x G1 v H1 r1 c1 l1 t1=>?_⟩;split at t1
 ·rename_i k
  exact ⟨k,r1.bl_inv,f _ _ _ _ (by rw [RelD]) c1 l1 t1⟩
 ·exact t1.elim
def dAug (i:Nat) (te:TE3) (r:R3):TS3:=fun E σ G=>match σ[i]? with
 | some (some x)=>te σ G fun y G1=>r x y G1 fun z G2=>E.nx (σ.set i (some z)) G2
 | _=>False
theorem vf5 {i:Nat} {te:TE3} {r:R3} (h:lowS K (dAug i te r) E σ H):tAug i (lowE K te) (lowR K r) E σ H:=by
 obtain ⟨σd,G,d,rs,c,t,fu⟩:=h;unfold dAug at t;split at t
 ·rename_i x e
  obtain ⟨v,hv,r1⟩:=rs.2 i x e;refine ⟨v,hv,σd,G,_,rs,c,t,fun y G1 u H1 r2 c1 l1 t1=>?_⟩;exact ⟨x,y,G1,_,RelD.le l1 r1,r2,c1,t1,fun z G2 vz H2 r3 c2 l2 t2=>fu.nx _ _ _ _ ((rs.le (l1.trans l2)).set i r3) c2 (l1.trans l2) t2⟩
 ·exact t.elim
abbrev TO3:=DSt->Gp->(Option Int->Gp->Prop)->Prop
def lowO (K:W.Frag) (t:TO3):TO:=fun σ H Q=>∃ σd G q,RelSt K H σd σ /\ Con K G H /\ t σd G q /\ ∀ o G' H',Con K G' H'->Le H H'->q o G'->Q o H'
def uk0:TO3:=fun _ G q=>q none G
def v38 (t:TE3):TO3:=fun σ G q=>t σ G fun x G1=>match x with | .int i=>q (some i) G1 | _=>False
theorem up3 {Q:Option Int->Hp->Prop} (h:lowO K uk0 σ H Q):ur6 σ H Q:=by
 obtain ⟨σd,G,q,rs,c,t,f⟩:=h;exact f _ _ _ c (Le.refl H) t
theorem v08 {t:TE3} {Q:Option Int->Hp->Prop} (h:lowO K (v38 t) σ H Q):vl6 (lowE K t) σ H Q:=by
 obtain ⟨σd,G,q,rs,c,t,f⟩:=h;refine ⟨σd,G,_,rs,c,t,fun x G1 v H1 r1 c1 l1 t1=>?_⟩;split at t1
 ·rename_i k
  rw [RelD] at r1;exact ⟨k,r1,f _ _ _ c1 l1 t1⟩
 ·exact t1.elim
abbrev RS3:=D->Option Int->Option Int->Gp->DK->Prop
def v22 (K:W.Frag) (r:RS3):V->Option Int->Option Int->Hp->VK->Prop:=fun x l u H Q=>∃ d G q,RelD K H d x /\ Con K G H /\ r d l u G q /\ FutE K H q Q
def dSl (r:RS3) (te:TE3) (tl th:TO3):TE3:=fun σ G q=>te σ G fun x G1=>tl σ G1 fun l G2=>th σ G2 fun u G3=>r x l u G3 q
theorem vs8 {r:RS3} {te:TE3} {tl th:TO3} (h:lowE K (dSl r te tl th) σ H Q):tSl (v22 K r) (lowE K te) (lowO K tl) (lowO K th) σ H Q:=by
 obtain ⟨σd,G,q,rs,c,t,f⟩:=h;exact ⟨σd,G,_,rs,c,t,fun x G1 v H1 r1 c1 l1 t1=>⟨σd,G1,_,rs.le l1,c1,t1,fun o G2 H2 c2 l2 t2=>⟨σd,G2,_,rs.le (l1.trans l2),c2,t2,fun u G3 H3 c3 l3 t3 =>
  ⟨x,G3,q,RelD.le (l2.trans l3) r1,c3,t3,f.le (l1.trans (l2.trans l3))⟩⟩⟩⟩
def dCB (r:C3) (t:TA3):TE3:=fun σ G q=>t σ G fun ds G1=>r ds G1 q
theorem v75 {r:C3} {t:TA3} (h:lowE K (dCB r t) σ H Q):tCB (lowC K r) (lowA K t) σ H Q:=by
 obtain ⟨σd,G,q,rs,c,t,f⟩:=h;exact ⟨σd,G,_,rs,c,t,fun ds G1 vs H1 r1 c1 l1 t1=>⟨ds,G1,q,r1,c1,t1,f.le l1⟩⟩
abbrev M3:=D->List D->Gp->DK->Prop
def lowM (K:W.Frag) (r:M3):V->List V->Hp->VK->Prop:=fun x xs H Q=>∃ d ds G q,RelD K H d x /\ RelDs K H ds xs /\ Con K G H /\ r d ds G q /\ FutE K H q Q
def tyD (G:Gp) (T:String):D->Prop
 | .str _=>T = "str"
 | .int _=>T = "int"
 | .ref a=>match G a with
  | some (.lst _)=>T = "list"
  | some (.fro _)=>T = "list"
  | some (.dic _)=>T = "dict"
  | _=>False
 | _=>False
def dBM (T:String) (r:M3) (to:TE3) (t:TA3):TE3:=fun σ G q=>to σ G fun x G1=>tyD G1 T x /\ t σ G1 fun ds G2=>r x ds G2 q
def dBM0 (T:String) (r:M3) (to:TE3):TE3:=fun σ G q=>to σ G fun x G1=>tyD G1 T x /\ r x [] G1 q
theorem uu9 {T:String} {r:M3} {to:TE3} {t:TA3} (ty:∀ G H x v,Con K G H->RelD K H x v->tyD G T x->tyV K T v H) (h:lowE K (dBM T r to t) σ H Q):tBM K T (lowM K r) (lowE K to) (lowA K t) σ H Q:=by
 obtain ⟨σd,G,q,rs,c,t,f⟩:=h;exact ⟨σd,G,_,rs,c,t,fun x G1 v H1 r1 c1 l1 ⟨y,t1⟩=>⟨ty G1 H1 x v c1 r1 y,σd,G1,_,rs.le l1,c1,t1,fun ds G2 vs H2 r2 c2 l2 t2=>⟨x,ds,G2,q,RelD.le l2 r1,r2,c2,t2,f.le (l1.trans l2)⟩⟩⟩
theorem vf4 {T:String} {r:M3} {to:TE3} (ty:∀ G H x v,Con K G H->RelD K H x v->tyD G T x->tyV K T v H) (h:lowE K (dBM0 T r to) σ H Q):tBM0 K T (lowM K r) (lowE K to) σ H Q:=by
 obtain ⟨σd,G,q,rs,c,t,f⟩:=h;exact ⟨σd,G,_,rs,c,t,fun x G1 v H1 r1 c1 l1 ⟨y,t1⟩=>⟨ty G1 H1 x v c1 r1 y,x,[],G1,q,r1,.nil,c1,t1,f.le l1⟩⟩
end
end L3
namespace L3
open PySem PySem.Spec PyProof.Rows L2
section
variable {X:Cx}
theorem u37 {e:Expr} {t t':TE} (h:PE X e t) (w:∀ σ H Q,t' σ H Q->t σ H Q):PE X e t':=fun pins s σ H Q I q=>h pins s σ H Q I (w _ _ _ q)
theorem v93 {e:Expr} {t t':TT} (h:PT X e t) (w:∀ σ H Q,t' σ H Q->t σ H Q):PT X e t':=fun pins s σ H Q I q=>h pins s σ H Q I (w _ _ _ q)
theorem vk2 {e:Expr} {t t':TT} (h:PW X e t) (w:∀ σ H Q,t' σ H Q->t σ H Q):PW X e t':=fun wh pins s σ H Q I q=>h wh pins s σ H Q I (w _ _ _ q)
theorem vk7 {e:List Expr} {t t':TA} (h:PA X e t) (w:∀ σ H Q,t' σ H Q->t σ H Q):PA X e t':=fun pos pins s σ H Q I q=>h pos pins s σ H Q I (w _ _ _ q)
theorem ug3 {e:Stmt} {t t':TS} (h:PS X e t) (w:∀ D σ H,t' D σ H->t D σ H):PS X e t':=fun pins s σ H D I q=>h pins s σ H D I (w _ _ _ q)
theorem v54 {e:List Stmt} {t t':TS} (h:PSs X e t) (w:∀ D σ H,t' D σ H->t D σ H):PSs X e t':=fun pins s σ H D I q=>h pins s σ H D I (w _ _ _ q)
theorem v96 {e:Expr} {t t':TG} (h:PG X e t) (w:∀ v σ H Q,t' v σ H Q->t v σ H Q):PG X e t':=fun pins s σ H v u Q I r q=>h pins s σ H v u Q I r (w _ _ _ _ q)
theorem v56 {e:List Expr} {t t':TGs} (h:PGs X e t) (w:∀ v σ H Q,t' v σ H Q->t v σ H Q):PGs X e t':=fun pins s σ H v u Q I r q=>h pins s σ H v u Q I r (w _ _ _ _ q)
theorem v94 {t t':TSet} (h:PSet X t) (w:∀ o i v H Q,t' o i v H Q->t o i v H Q):PSet X t':=fun pins s σ H o i v ov iv u Q I r1 r2 r3 q=>h pins s σ H o i v ov iv u Q I r1 r2 r3 (w _ _ _ _ _ q)
theorem vk6 {tg e:Expr} {t t':TI} (h:PI X tg e t) (w:∀ σ H R,t' σ H R->t σ H R):PI X tg e t':=fun pins s σ H R I q=>h pins s σ H R I (w _ _ _ q)
theorem u67 {f:Value->Value->Sem Value} {r r':R2} (h:OpR X f r) (w:∀ x y H Q,r' x y H Q->r x y H Q):OpR X f r':=fun pins s σ H x y v u Q I a b q=>h pins s σ H x y v u Q I a b (w _ _ _ _ q)
theorem vk3 {f:Value->Sem Value} {r r':V->Hp->VK->Prop} (h:UnR X f r) (w:∀ x H Q,r' x H Q->r x H Q):UnR X f r':=fun pins s σ H x v Q I a q=>h pins s σ H x v Q I a (w _ _ _ q)
theorem u29 {f:Value} {r r':List V->Hp->VK->Prop} (h:CallR X f r) (w:∀ x H Q,r' x H Q->r x H Q):CallR X f r':=fun pins s σ H x v Q I a q=>h pins s σ H x v Q I a (w _ _ _ q)
theorem ul4 {id:String} {r r':V->List V->Hp->VK->Prop} (h:MtR X id r) (w:∀ x xs H Q,r' x xs H Q->r x xs H Q):MtR X id r':=fun pins s σ H x xs v us Q I a b q=>h pins s σ H x xs v us Q I a b (w _ _ _ _ q)
theorem vk5 {r r':R2} (h:IxR X r) (w:∀ x y H Q,r' x y H Q->r x y H Q):IxR X r':=fun va sl pins s σ H x y v u Q I a b q=>h va sl pins s σ H x y v u Q I a b (w _ _ _ _ q)
theorem v55 {r r':V->Option Int->Option Int->Hp->VK->Prop} (h:SlR X r) (w:∀ x l u H Q,r' x l u H Q->r x l u H Q):SlR X r':=by
 intro pins s σ H x lo hi
 intros
 apply h <;> first | assumption | (apply w;assumption)
theorem vk4 {e:Option Expr} {t t':TO} (h:PO X e t) (w:∀ σ H Q,t' σ H Q->t σ H Q):PO X e t':=by
 intro pins s σ H Q I q;exact h pins s σ H Q I (w _ _ _ q)
theorem v95 {e:List Expr} {t t':TT} (h:PIfs X e t) (w:∀ σ H Q,t' σ H Q->t σ H Q):PIfs X e t':=fun pins s σ H Q I q=>h pins s σ H Q I (w _ _ _ q)
end
def E3 (X:Cx) (e:Expr) (t:TE3):Prop:=PE X e (lowE X.K t)
def T3 (X:Cx) (e:Expr) (t:TT3):Prop:=PT X e (lowT X.K t)
def W3 (X:Cx) (e:Expr) (t:TT3):Prop:=PW X e (lowT X.K t)
def A3 (X:Cx) (es:List Expr) (t:TA3):Prop:=PA X es (lowA X.K t)
def S3 (X:Cx) (st:Stmt) (t:TS3):Prop:=PS X st (lowS X.K t)
def Ss3 (X:Cx) (sts:List Stmt) (t:TS3):Prop:=PSs X sts (lowS X.K t)
def J3 (X:Cx) (e:Expr) (t:TG3):Prop:=PG X e (lowG X.K t)
def Js3 (X:Cx) (es:List Expr) (t:TGs3):Prop:=PGs X es (v23 X.K t)
def I3 (X:Cx) (tg e:Expr) (t:TI3):Prop:=PI X tg e (lowI X.K t)
def O3 (X:Cx) (e:Option Expr) (t:TO3):Prop:=PO X e (lowO X.K t)
def Ifs3 (X:Cx) (es:List Expr) (t:TT3):Prop:=PIfs X es (lowT X.K t)
abbrev Op3 (X:Cx) (f:Value->Value->Sem Value) (r:R3):Prop:=OpR X f (lowR X.K r)
abbrev Call3 (X:Cx) (f:Value) (r:C3):Prop:=CallR X f (lowC X.K r)
section
variable {X:Cx} {a b c e o:Expr} {es:List Expr} {pos apos cpos p p2:Pos} {ta tb tc te:TE3} {t u:TT3} {ts us:TA3}
theorem ev (i:Nat) {x:Str} {pos:Pos} (hN:X.N[i]?=some x:=by rfl) (hv:Vis X.env.scope x:=by first | exact Or.inl rfl | exact Or.inr (Or.inl rfl) | exact Or.inr (Or.inr rfl)) (hd:(x == ("__debug__" : Str))=false:=by decide)
  (hcd:(x == ("__classdict__" : Str))=false:=by decide):E3 X (.Name x pos) (dVar i):=u37 (ut7 hN hv hd hcd) fun _ _ _=>ve5
theorem u04 {i j pos}:E3 X (.Constant (.int i) j pos) (dC (.int i)):=u37 vo6 fun _ _ _=>up4 fun _=>by rw [RelD]
theorem e_bl {i j pos}:E3 X (.Constant (.bool i) j pos) (dC (.bl i)):=u37 w02 fun _ _ _=>up4 fun _=>by rw [RelD]
theorem w10 {j pos}:E3 X (.Constant .none j pos) (dC .non):=u37 vo4 fun _ _ _=>up4 fun _=>by rw [RelD]
theorem u41 {x j pos}:E3 X (.Constant (.str x) j pos) (dC (.str x)):=u37 vo1 fun _ _ _=>up4 fun _=>by rw [RelD]
theorem v82 {x:Str} {d:D} {v:V} {w:Value} (hg:Gl X x) (hm:X.mg x=some w) (r:RelV v w) (rd:∀ H,RelD X.K H d v) (hd:(x == ("__debug__" : Str))=false:=by decide):E3 X (.Name x pos) (dC d) :=
 u37 (vd3 hg hm r hd) fun _ _ _=>up4 rd
theorem u10 {op:Operator} {r:R3} (ho:Op3 X (binaryOp op) r) (ha:E3 X a ta) (hb:E3 X b tb):E3 X (.BinOp a op b pos) (dOp r ta tb):=u37 (w00 ho ha hb) fun _ _ _=>um6
theorem e_un {op:UnaryOp} {r:U3} (ho:UnR X (unaryOp op) (lowU X.K r)) (ha:E3 X a ta):E3 X (.UnaryOp op a pos) (dUn r ta):=u37 (vz9 ho ha) fun _ _ _=>vs7
theorem uh5 {op:CmpOp} {r:R3} (ho:Op3 X (compareOp op) r) (ha:E3 X a ta) (hb:E3 X b tb) (hm:behindInMarks op b=false):E3 X (.Compare a [op] [b] pos) (dOp r ta tb):=u37 (vd5 ho ha hb hm) fun _ _ _=>um6
theorem u27 {op:CmpOp} {r:R3} (ho:Op3 X (compareOp op) r) (ha:E3 X a ta) (hb:E3 X b tb) (hm:behindInMarks op b=false):T3 X (.Compare a [op] [b] pos) (dB (dOp r ta tb)) :=
 v93 (vc6 ho ha hb hm) fun σ H Q h=>by
  obtain ⟨σd,G,q,rs,c,t,f⟩:=h;exact um6 (K:=X.K) ⟨σd,G,_,rs,c,t,fun x G1 v H1 r1 c1 l1 t1=>by
   split at t1
   ·rename_i k
    exact ⟨k,r1.bl_inv,f _ _ _ c1 l1 t1⟩
   ·exact t1.elim⟩
theorem ua5 (h:E3 X e te) (he:∀ whole,isTrue e X.env whole=(do let v <- whole;standAt e.pos;holding [v] (truthy v)):=by intro _;rfl):T3 X e (dB te):=v93 (vn0 h he) fun _ _ _=>w07
theorem vl4 (ha:T3 X a t):W3 X (.BoolOp .And [a] pos) t:=vc5 ha
theorem uc6 (ha:T3 X a t):W3 X (.BoolOp .Or [a] pos) t:=vm8 ha
theorem w_and {rest:List Expr} (ha:T3 X a t) (hb:W3 X (.BoolOp .And (b::rest) pos) u):W3 X (.BoolOp .And (a::b::rest) pos) (dAnd t u):=vk2 (vm9 ha hb) fun _ _ _=>v21
theorem w_or {rest:List Expr} (ha:T3 X a t) (hb:W3 X (.BoolOp .Or (b::rest) pos) u):W3 X (.BoolOp .Or (a::b::rest) pos) (dOr t u):=vk2 (vz6 ha hb) fun _ _ _=>ve9
theorem t_w (h:W3 X e t):T3 X e t:=PW.pt h
theorem ua6 (ha:T3 X a t):T3 X (.UnaryOp .Not a pos) (dNot t):=v93 (vn1 ha) fun _ _ _=>v10
theorem v33 {op} (h:E3 X a ta):E3 X (.BoolOp op [a] pos) ta:=vo2 h
theorem v37 {rest:List Expr} (ha:E3 X a ta) (hb:E3 X (.BoolOp .And (b::rest) pos) tb):E3 X (.BoolOp .And (a::b::rest) pos) (v39 ta tb):=u37 (vo8 ha hb) fun _ _ _=>v20
theorem vv4 (ha:E3 X a ta):E3 X (.UnaryOp .Not a pos) (vh4 ta):=u37 (vo3 ha) fun _ _ _=>v09
theorem e_if (hc:T3 X c t) (ha:E3 X a ta) (hb:E3 X b tb):E3 X (.IfExp c a b pos) (dIf t ta tb):=u37 (v03 hc ha hb) fun _ _ _=>vt0
theorem u02:A3 X [] dNil:=vk7 v70 fun _ _ _=>vf0
theorem u00 (ha:E3 X e te) (hr:A3 X es ts) (hs:starEach (e::es) X.env=(false,eval e X.env)::starEach es X.env:=by rfl):A3 X (e::es) (u52 te ts):=vk7 (ut9 ha hr hs) fun _ _ _=>v16
theorem u80 {x1} (h:A3 X es ts):E3 X (.Tuple es x1 pos) (dTup ts):=u37 (vo0 h) fun _ _ _=>ve6
theorem u25 (h:A3 X es ts):E3 X (.List es pos) (dLst ts):=u37 (vo5 h) fun _ _ _=>vf1
theorem e_ix {r:R3} (hr:IxR X (lowR X.K r)) (ha:E3 X a ta) (hb:E3 X b tb) (hs:uy1 b:=by exact fun _ _=>rfl):E3 X (.Subscript a b pos) (dOp r ta tb):=u37 (w01 hr ha hb hs) fun _ _ _=>um6
theorem ub1:O3 X none uk0:=vk4 vc9 fun _ _ _=>up3
theorem u69 (h:E3 X e te):O3 X (some e) (v38 te):=vk4 (vc8 h) fun _ _ _=>v08
theorem e_sl {r:RS3} {lo hi:Option Expr} {tl th:TO3} (hr:SlR X (v22 X.K r)) (he:E3 X e te) (hl:O3 X lo tl) (hu:O3 X hi th):E3 X (.Subscript e (.Slice lo hi none p2) pos) (dSl r te tl th):=u37 (v02 hr he hl hu) fun _ _ _=>vs8
end
section
variable {X:Cx} {a b c e o value:Expr} {es:List Expr} {st:Stmt} {sts sts2:List Stmt} {pos pos' spos tpos:Pos} {te ta tv:TE3} {t:TT3} {s1 s2:TS3} {g:TG3}
theorem u18:Ss3 X [] vh5:=v54 vc7 fun _ _ _=>v13
theorem u03 (h1:S3 X st s1) (h2:Ss3 X sts s2):Ss3 X (st::sts) (dSeq s1 s2):=v54 (uz7 h1 h2) fun _ _ _=>ve7
theorem u07 (h1:S3 X st s1):Ss3 X [st] s1:=us9 h1
theorem u68 (he:E3 X e te) (hs:swapsWith e none pos.line X.env=pure false:=by rfl):S3 X (.Expr e pos) (up9 te):=ug3 (ut1 he hs) fun _ _ _=>um7
theorem u20 (he:E3 X e te):S3 X (.Return (some e) pos) (dRet te):=ug3 (vn3 he) fun _ _ _=>ve8
theorem s_if (hc:T3 X c t) (ha:Ss3 X sts s1) (hb:Ss3 X sts2 s2):S3 X (.If c sts sts2 pos) (dIfS t s1 s2):=ug3 (vz7 hc ha hb) fun _ _ _=>vf2
theorem u31 (i:Nat) {x:Str} (hN:X.N.Nodup) (hi:X.N[i]?=some x:=by rfl) (hx:Loc X.env.scope x:=by first | exact Or.inl rfl | exact Or.inr rfl) (hf:X.fn x=true \/ X.env.scope.names.lookup x=some .local:=by first | exact .inl rfl | exact .inr rfl | assumption):J3 X (.Name x pos) (u88 i) :=
 v96 (vd1 hN hi hx hf) fun _ _ _ _=>uu7
theorem v77:Js3 X [] jNil:=v56 vd0 fun _ _ _ _=>v15
theorem ub5 {t:TG3} {u:TGs3} (h1:J3 X e t) (h2:Js3 X es u) (hs:(assignEach (e::es) X.env).map (·.2)=assign e X.env::(assignEach es X.env).map (·.2):=by rfl):Js3 X (e::es) (vg1 t u):=v56 (v00 h1 h2 hs) fun _ _ _ _=>uu8
theorem vg0 {i:Expr} {to ti:TE3} {t:TSet3} (ho:E3 X o to) (hi:E3 X i ti) (hs:PSet X (uv0 X.K t))
  (ha:∀ v,assign (.Subscript o i pos) X.env v=(do
   let ov <- holding [v] (eval o X.env)
   let iv <- holding [v,ov] (eval i X.env)
   standAt pos
   holding [v,ov,iv] (setItem ov iv v)
   release [v,ov,iv] []):=by intro _;rfl):J3 X (.Subscript o i pos) (jSub to ti t):=v96 (vn9 ho hi hs ha) fun _ _ _ _=>v14
theorem uz4 {tg:Expr} (he:E3 X e te) (hg:J3 X tg g) (hs:swapsWithSole [tg] e pos.line X.env=pure false:=by rfl) (hw:swappedStores [tg] e X.env=pure none:=by rfl)
  (h1:(assignEach [tg] X.env).map (·.2)=[assign tg X.env]:=by rfl):S3 X (.Assign [tg] e pos) (dAsg te g):=ug3 (vn6 he hg hs hw h1) fun _ _ _=>vf6
theorem u13 (i:Nat) {x:Str} (hN:X.N.Nodup) (he:E3 X e te) (hi:X.N[i]?=some x:=by rfl) (hx:Loc X.env.scope x:=by first | exact Or.inl rfl | exact Or.inr rfl) (hs:swapsWith e (some (.Name x pos')) pos.line X.env=pure false:=by rfl)
  (hf:X.fn x=true \/ X.env.scope.names.lookup x=some .local:=by first | exact .inl rfl | exact .inr rfl | assumption):S3 X (.Assign [.Name x pos'] e pos) (dAsg te (u88 i)) :=
 ug3 (vn2 hN hi hx he hs hf) fun D σ H h=>by
  obtain ⟨σd,G,q,rs,c,t,f⟩:=h;exact ⟨σd,G,_,rs,c,t,fun x G1 v H1 r1 c1 l1 t1=>f.nx _ _ _ _ ((rs.le l1).set i r1) c1 l1 t1⟩
theorem vz2 (i:Nat) {x:Str} {op:Operator} {r:R3} (hN:X.N.Nodup) (he:E3 X e te) (ho:Op3 X (inplaceOp op) r) (hi:X.N[i]?=some x:=by rfl) (hx:Loc X.env.scope x:=by first | exact Or.inl rfl | exact Or.inr rfl)
  (hf:X.fn x=true \/ X.env.scope.names.lookup x=some .local:=by first | exact .inl rfl | exact .inr rfl | assumption):S3 X (.AugAssign (.Name x pos') op e pos) (dAug i te r):=ug3 (vn5 hN hi hx he ho hf) fun _ _ _=>vf5
theorem u86 {tg iter:Expr} {body:List Stmt} {wi:TI3} (hi:I3 X tg iter wi) (hg:J3 X tg g) (hb:Ss3 X body s1) (hc:X.calm=true:=by rfl) (hp:PassesOwn (model X.prog X.w) X.A X.env X.xe:=by exact PassesOwn.never)
  (hs:∀ x,foldedSetIterable iter X.env x=pure x:=by intro _;rfl):S3 X (.For tg iter body [] pos) (dFor wi g s1):=ug3 (vn4 hp hc hi hg hb hs) fun _ _ _=>vf3
end
theorem uu6 {K:W.Frag} {σ:L2.St} {H:Hp} {ta:TA3} {R:It->Hp->Prop} (h:lowI K (fun σ G r=>ta σ G fun ds G1=>match ds with | [.int j]=>(-(2 ^ 62)<=j /\ j < 2 ^ 62) /\ r ⟨rngD 0 j.toNat,fun _=>True⟩ G1 | _=>False) σ H R):vu8 (lowA K ta) σ H R:=by
 obtain ⟨σd,G,q,rs,c,t,f⟩:=h;refine ⟨σd,G,_,rs,c,t,fun ds G1 vs H1 r1 c1 l1 t1=>?_⟩;split at t1
 ·rename_i j
  obtain ⟨x,r,rfl,rx,rr⟩:=r1.inv_cons;rw [RelD] at rx;subst rx;rw [rr.inv_nil];exact ⟨j,rfl,t1.1.1,t1.1.2,f _ _ _ _ uj7 c1 l1 t1.2⟩
 ·exact t1.elim
def v97 (ta:TA3):TI3:=fun σ G r=>ta σ G fun ds G1=>match ds with | [.int j]=>(-(2 ^ 62)<=j /\ j < 2 ^ 62) /\ r ⟨rngD 0 j.toNat,fun _=>True⟩ G1 | _=>False
def vy7 (ta:TA3):TI3:=fun σ G r=>ta σ G fun ds G1=>match ds with | [.int i,.int j]=>(-(2 ^ 62)<=i /\ i < 2 ^ 62 /\ -(2 ^ 62)<=j /\ j < 2 ^ 62) /\ r ⟨rngD i (j - i).toNat,fun _=>True⟩ G1 | _=>False
section
variable {X:Cx} {a b e o tg:Expr} {es:List Expr} {p pos apos cpos:Pos} {ta:TE3} {ts:TA3}
theorem u93 (hg:Gl X "range") (hm:X.mg "range" = none) (ha:A3 X [a] ts) (hs:starEach [a] X.env=[(false,eval a X.env)]:=by rfl):I3 X tg (.Call (.Name "range" p) [a] [] pos) (v97 ts):=vk6 (ut6 hg hm ha hs) fun _ _ _=>uu6
variable {k:Nat} {f C:Addr} {fd:FuncData} {ps:List Str} {S:Sp3} {dds:List D} {dvs:List V} {ds:List Value} {x m:Str}
theorem vv6 (F:FnOk X.prog X.w X.K X.mg X.base CX0 k f fd ps (uh2 X.K S)) (hr:Room k X.A) (hg:Gl X x) (hm:X.mg x=some (.ref f)) (hk:W.keepIn X.K (.ref f)=true) (hb:Binds X.K fd ps ds) (hd:Vals dvs ds) (hdd:∀ H,RelDs X.K H dds dvs)
  (ha:A3 X (e::es) ts) (hdb:(x == ("__debug__" : Str))=false:=by decide) (he:starEach (e::es) X.env=(false,eval e X.env)::starEach es X.env:=by rfl) (hpl:(backTo pos (starEach es X.env)).any (·.1)=false:=by rfl) :
  E3 X (.Call (.Name x p) (e::es) [] pos) (dCall S dds ts):=u37 (uj4 F hr hg hm hk hb hd pass0 ha hdb he hpl) fun _ _ _=>v18 hdd
variable {id T:String} {r:C3} {rm:M3} {name:Str}
theorem u12 (hc:Call3 X (.builtin id) r) (hg:Gl X x) (hm:X.mg x=none) (hv:bootBuiltins x=some (.builtin id)) (ha:A3 X (e::es) ts) (hn:x ≠ "__name__" := by decide) (hdb:(x == ("__debug__" : Str))=false:=by decide)
  (he:starEach (e::es) X.env=(false,eval e X.env)::starEach es X.env:=by rfl) (hpl:(backTo pos (starEach es X.env)).any (·.1)=false:=by rfl):E3 X (.Call (.Name x p) (e::es) [] pos) (dCB r ts) :=
 u37 (v04 hc hg hm hv ha hn hdb he hpl) fun _ _ _=>v75
theorem u32 (hc:Call3 X (.type T) r) (hg:Gl X x) (hm:X.mg x=none) (hv:bootBuiltins x=some (.type T)) (ha:A3 X (e::es) ts) (hn:x ≠ "__name__" := by decide) (hdb:(x == ("__debug__" : Str))=false:=by decide)
  (he:starEach (e::es) X.env=(false,eval e X.env)::starEach es X.env:=by rfl) (hpl:(backTo pos (starEach es X.env)).any (·.1)=false:=by rfl):E3 X (.Call (.Name x p) (e::es) [] pos) (dCB r ts) :=
 u37 (ut8 hc hg hm hv ha hn hdb he hpl) fun _ _ _=>v75
end
def ud6 (ix:List (Option Nat)) (σ:DSt):DSt:=ix.map fun o=>o.bind fun j=>(σ[j]?).bind id
def uc8 (ok:Gp->Prop) (g:TG3) (tc:TT3) (te:TE3) (p:Addr) (q:DK):List D->DSt->Gp->Prop
 | [],_,G=>ok G /\ q (.ref p) G
 | x::r,σ,G=>ok G /\ g x σ G fun σ2 G2=>tc σ2 G2 fun b G3 =>
  if b=true then te σ2 G3 fun d G4=>(match G4 p with | some (.lst ys)=>ys.length < sizeLine /\ uc8 ok g tc te p q r σ2 (gup G4 p (.lst (ys++[d]))) | _=>False)
  else uc8 ok g tc te p q r σ2 G3
def vh6 (ix:List (Option Nat)) (wi:TI3) (g:TG3) (tc:TT3) (te:TE3):TE3:=fun σ G q=>wi σ G fun it G1=>∀ p,G1 p=none->uc8 it.ok g tc te p q it.items (ud6 ix σ) (gup G1 p (.lst []))
theorem RelSt.inn {K:W.Frag} {H:Hp} {σd:DSt} {σ:L2.St} (h:RelSt K H σd σ) (ix:List (Option Nat)):RelSt K H (ud6 ix σd) (L2.inner ix σ):=by
 refine ⟨by unfold ud6 L2.inner;rw [List.length_map,List.length_map],fun i d e=>?_⟩;unfold ud6 at e;unfold L2.inner;rw [List.getElem?_map] at e ⊢;cases ho:ix[i]? with
 | none=>rw [ho] at e;cases e
 | some o =>
  rw [ho] at e;cases o with
  | none=>cases e
  | some j =>
   have e:(σd[j]?).bind id=some d:=Option.some.inj e;have e:σd[j]?=some (some d):=by
    cases hs:σd[j]? with
    | none=>rw [hs] at e;cases e
    | some w=>rw [hs] at e;cases e;rfl
   obtain ⟨v,hv,r⟩:=h.2 j d e;exact ⟨v,by show some ((σ[j]?).bind id)=_;rw [hv];rfl,r⟩
theorem v17 {K:W.Frag} {ix:List (Option Nat)} {wi:TI3} {g:TG3} {tc:TT3} {te:TE3} {σ:L2.St} {H:Hp} {Q:VK} (h:lowE K (vh6 ix wi g tc te) σ H Q):vl9 ix (lowI K wi) (lowG K g) (lowT K tc) (lowE K te) σ H Q:=by
 obtain ⟨σd,G,q,rs,cc,t,f⟩:=h;refine ⟨σd,G,_,rs,cc,t,fun it J G1 H1 ir c1 l1 t1=>?_⟩;intro p hp;have t1:=t1 p (c1.fresh hp);have c2:Con K (gup G1 p (.lst [])) (upd H1 p (.lst [])):=c1.lstNew hp .nil;have l2:Le H1 (upd H1 p (.lst [])):=Le.fresh hp;refine ⟨fun i m σ' H'=>∃ σd' G',Le (upd H1 p (.lst [])) H' /\ RelSt K H' σd' σ' /\ Con K G' H' /\ i+m=it.items.length /\ uc8 it.ok g tc te p q (it.items.drop i) σd' G',
  ⟨it.items.length,ud6 ix σd,_,Le.refl _,(rs.le (l1.trans l2)).inn ix,c2,by omega,by rw [List.drop_zero];exact t1⟩,?_⟩
 rintro i m σ2 H2 ⟨σd2,G2,l3,rs2,c2,e2,t2⟩;have l12:Le H1 H2:=l2.trans l3
 by_cases hi:i < it.items.length
 ·rw [List.drop_eq_getElem_cons hi] at t2
  obtain ⟨ok2,t2⟩:=t2;refine .inr ⟨ir.go i G2 H2 l12 c2 ok2 hi,fun σ' H'=>∃ σd' G',Le (upd H1 p (.lst [])) H' /\ RelSt K H' σd' σ' /\ Con K G' H' /\ uc8 it.ok g tc te p q (it.items.drop (i+1)) σd' G',?_,?_⟩
  ·rintro σ' H' ⟨σd',G',a1,a2,a3,a4⟩
   exact ⟨m - 1,by omega,σd',G',a1,a2,a3,by omega,a4⟩
  ·intro x H3 y
   obtain ⟨c3,l4,e,he,r3⟩:=ir.yld i G2 H2 x H3 l12 c2 ok2 hi y;rw [List.getElem?_eq_getElem hi] at he;cases he;refine ⟨_,σd2,G2,_,r3,rs2.le l4,c3,t2,fun σd4 G4 σ4 H4 rs4 c4 l5 t4=>?_⟩;refine ⟨σd4,G4,_,rs4,c4,t4,fun b G5 H5 c5 l6 t5=>?_⟩;cases b with
   | false =>
    rw [if_neg Bool.false_ne_true] at t5 ⊢;exact ⟨σd4,G5,l3.trans (l4.trans (l5.trans l6)),rs4.le l6,c5,t5⟩
   | true =>
    rw [if_pos rfl] at t5 ⊢;refine ⟨σd4,G5,_,rs4.le l6,c5,t5,fun d G6 v H6 r6 c6 l7 t6=>?_⟩;split at t6
    ·rename_i ys eg
     obtain ⟨xs,ex,rx⟩:=c6 p _ eg;have l8:=Le.lst (ys:=xs++[v]) ex;exact ⟨xs,ex,by rw [<- rx.length];exact t6.1,σd4,_,l3.trans (l4.trans (l5.trans (l6.trans (l7.trans l8)))),rs4.le (l6.trans (l7.trans l8)),c6.lstSet ex (rx.append (.cons r6 .nil)),t6.2⟩
    ·exact t6.elim
 ·rw [List.drop_eq_nil_of_le (by omega)] at t2
  exact .inl ⟨ir.stop i G2 H2 l12 c2 t2.1 (by omega),f _ _ _ _ RelD.refI c2 (l1.trans l12) t2.2⟩
def dYes:TT3:=fun _ G q=>q true G
section
variable {X:Cx} {elt tg iter:Expr} {ifs:List Expr} {scope:Scope} {pos:Pos} {N':List Str} {ix:List (Option Nat)} {wi:TI3} {g:TG3} {tc:TT3} {te:TE3}
theorem ub8:Ifs3 X [] dYes:=v95 uz8 fun σ H Q h=>by
 obtain ⟨σd,G,q,rs,c,t,f⟩:=h;exact f _ _ _ c (Le.refl H) t
theorem uh4 (B:BlkOk X N' ix scope) (hw:I3 X tg iter wi) (hg:∀ C s H fp,J3 (u59 X N' scope C s H fp) tg g) (hi:∀ C s H fp,Ifs3 (u59 X N' scope C s H fp) ifs tc) (he:∀ C s H fp,E3 (u59 X N' scope C s H fp) elt te)
  (hc:X.calm=true:=by rfl) (hs:∀ x,foldedSetIterable iter X.env x=pure x:=by intro _;rfl):E3 X (.ListComp elt [⟨tg,iter,ifs,0⟩] scope pos) (vh6 ix wi g tc te) :=
 u37 (vd4 (g:=lowG X.K g) (tc:=lowT X.K tc) (te:=lowE X.K te) B hc hw hg hi he hs) fun _ _ _=>v17
end
def xAdd:R3:=fun x y G q=>match x,y with
 | .int i,.int j=>q (.int (i+j)) G
 | .str a,.str b=>a.length+b.length<=sizeLine /\ q (.str (a++b)) G
 | .tup a,.tup b=>a ≠ [] /\ a.length+b.length<=sizeLine /\ q (.tup (a++b)) G
 | .ref a,.ref b=>(match G a,G b with
  | some (.lst xs),some (.lst ys)=>xs.length+ys.length<=sizeLine /\ ∀ p,G p=none->q (.ref p) (gup G p (.lst (xs++ys)))
  | _,_=>False)
 | _,_=>False
def xInt (f:Int->Int->Int):R3:=fun x y G q=>match x,y with | .int i,.int j=>q (.int (f i j)) G | _,_=>False
def ug1 (C:Int->Int->Prop) (f:Int->Int->Int):R3:=fun x y G q=>match x,y with | .int i,.int j=>C i j /\ q (.int (f i j)) G | _,_=>False
def xSub:R3:=xInt fun i j=>i - j
def xMul:R3:=fun x y G q=>match x,y with
 | .int i,.int j=>CMul i j /\ q (.int (i * j)) G
 | .ref a,.int k=>(match G a with
  | some (.lst xs)=>(-(2 ^ 63)<=k /\ k < 2 ^ 63 /\ xs.length * k.toNat<=sizeLine) /\ ∀ p,G p=none->q (.ref p) (gup G p (.lst (List.replicate k.toNat xs).flatten))
  | _=>False)
 | _,_=>False
def uq8 (_ j:Int):Prop:=0 < j /\ j < 18446744073709551616
def xDiv:R3:=ug1 uq8 fun i j=>i / j
def xMod:R3:=ug1 (fun _ j=>0 < j) fun i j=>i % j
def xPow:R3:=ug1 CPow fun i j=>i ^ j.toNat
def xShl:R3:=ug1 CPow fun i j=>i * 2 ^ j.toNat
def xShr:R3:=ug1 (fun _ j=>0<=j) fun i j=>i / 2 ^ j.toNat
def xAnd:R3:=xInt Builtin.bitAnd
def xOr:R3:=xInt Builtin.bitOr
def xXor:R3:=xInt Builtin.bitXor
def xLt:R3:=fun x y G q=>match x,y with | .int i,.int j=>q (.bl (decide (i < j))) G | .str a,.str b=>q (.bl (decide (a.cps.toList < b.cps.toList))) G | _,_=>False
def xLe:R3:=fun x y G q=>match x,y with | .int i,.int j=>q (.bl (decide (i<=j))) G | _,_=>False
def xGt:R3:=fun x y G q=>match x,y with | .int i,.int j=>q (.bl (decide (j < i))) G | _,_=>False
def xGe:R3:=fun x y G q=>match x,y with | .int i,.int j=>q (.bl (decide (j<=i))) G | _,_=>False
section
variable {X:Cx} {K:W.Frag} {H:Hp}
theorem RelD.int_inv {i:Int} {v:V} (h:RelD K H (.int i) v):v=.int i:=by rw [RelD] at h;exact h
theorem RelD.str_inv {i:Str} {v:V} (h:RelD K H (.str i) v):v=.str i:=by rw [RelD] at h;exact h
theorem RelD.non_inv {v:V} (h:RelD K H .non v):v=.non:=by rw [RelD] at h;exact h
theorem RelD.tup_inv {ds:List D} {v:V} (h:RelD K H (.tup ds) v):∃ a xs,v=.ref a /\ SqT K H a xs /\ RelDs K H ds xs:=by rw [RelD] at h;exact h
theorem RelD.intI {i:Int}:RelD K H (.int i) (.int i):=by rw [RelD]
theorem RelD.strI {i:Str}:RelD K H (.str i) (.str i):=by rw [RelD]
theorem RelD.blI {i:Bool}:RelD K H (.bl i) (.bl i):=by rw [RelD]
theorem RelD.nonI:RelD K H .non .non:=by rw [RelD]
theorem vk0 {f:Value->Value->Sem Value} {g:Int->Int->Int} (h:OpR X f (rI0 fun i j=>.int (g i j))):Op3 X f (xInt g):=u67 h fun x y H Q ⟨d,e,G,q,r1,r2,c,t,f⟩=>by
 unfold xInt at t;split at t
 ·exact ⟨_,_,r1.int_inv,r2.int_inv,f _ _ _ _ RelD.intI c (Le.refl H) t⟩
 ·exact t.elim
theorem ul0 {f:Value->Value->Sem Value} {C:Int->Int->Prop} {g:Int->Int->Int} (h:OpR X f (rI C fun i j=>.int (g i j))):Op3 X f (ug1 C g):=u67 h fun x y H Q ⟨d,e,G,q,r1,r2,c,t,f⟩=>by
 unfold ug1 at t;split at t
 ·exact ⟨_,_,r1.int_inv,r2.int_inv,t.1,f _ _ _ _ RelD.intI c (Le.refl H) t.2⟩
 ·exact t.elim
theorem u53:Op3 X (binaryOp .Sub) xSub:=vk0 vo9
theorem v05:OpR X (binaryOp .FloorDiv) (rI uq8 fun i j=>.int (i / j)):=opI fun i j _ _ _ _ _ hc q=>by
 have hl:j.natAbs.log2 < 9000:=by
  have h1:=hc.1;have h2:=hc.2;have hn:j.natAbs ≠ 0:=by omega
  have:j.natAbs.log2 < 64:=(Nat.log2_lt hn).mpr (by omega);omega
 refine floordiv_int (by have:=hc.1;omega) ?_ (.inl (PyProof.noPylong_of_log2 hl));rw [Int.fdiv_eq_ediv_of_nonneg i (by have:=hc.1;omega)];exact q
theorem uy5:Op3 X (binaryOp .FloorDiv) xDiv:=ul0 v05
theorem ue1:Op3 X (binaryOp .Mod) xMod:=ul0 vp4
theorem vx9:Op3 X (binaryOp .Pow) xPow:=ul0 vp2
theorem v87:Op3 X (binaryOp .LShift) xShl:=ul0 vp0
theorem vk1:Op3 X (inplaceOp .Add) (xInt fun i j=>i+j):=vk0 vg4
theorem u24:Op3 X (binaryOp .Add) xAdd:=u67 (op_add.or (op_add_str.or (op_catT.or vp6))) <| by
 rintro x y H Q ⟨d,e,G,q,r1,r2,c,t,f⟩;unfold xAdd at t;split at t
 ·exact .inl ⟨_,_,r1.int_inv,r2.int_inv,f _ _ _ _ RelD.intI c (Le.refl H) t⟩
 ·exact .inr (.inl ⟨_,_,r1.str_inv,r2.str_inv,t.1,f _ _ _ _ RelD.strI c (Le.refl H) t.2⟩)
 ·obtain ⟨a,xs,rfl,s1,q1⟩:=r1.tup_inv
  obtain ⟨b,ys,rfl,s2,q2⟩:=r2.tup_inv;refine .inr (.inr (.inl ⟨a,b,xs,ys,rfl,rfl,s1,s2,fun z=>t.1 ?_,by rw [<- q1.length,<- q2.length];exact t.2.1,fun z=>?_,fun _ p hp=>?_⟩))
  ·have:=q1.length;rw [z] at this;exact List.eq_nil_of_length_eq_zero this
  ·refine f (.tup _) G (.ref a) _ ?_ c (Le.refl _) t.2.2
   rw [RelD];subst z;have e:∀ {bs:List D},RelDs X.K H bs []->bs=[]:=fun h=>List.eq_nil_of_length_eq_zero h.length
   rw [e q2,List.append_nil];exact ⟨a,_,rfl,s1,q1⟩
  ·refine f (.tup _) G (.ref p) _ ?_ (c.side hp) (Le.fresh hp) t.2.2
   rw [RelD];exact ⟨p,_,rfl,SqT.of u23,RelDs.le (Le.fresh hp) (q1.append q2)⟩
 ·rename_i a b
  split at t
  ·rename_i xs ys e1 e2
   obtain ⟨vs,h1,q1⟩:=c _ _ e1;obtain ⟨ws,h2,q2⟩:=c _ _ e2;exact .inr (.inr (.inr ⟨a,b,vs,ws,r1.ref_inv,r2.ref_inv,h1,h2,by rw [<- q1.length,<- q2.length];exact t.1,fun p hp=>f _ _ _ _ RelD.refI (c.lstNew hp (q1.append q2)) (Le.fresh hp) (t.2 p (c.fresh hp))⟩))
  ·exact t.elim
 ·exact t.elim
theorem ua3:Op3 X (binaryOp .Mult) xMul:=u67 (op_mul.or vp1) <| by
 rintro x y H Q ⟨d,e,G,q,r1,r2,c,t,f⟩;unfold xMul at t;split at t
 ·exact .inl ⟨_,_,r1.int_inv,r2.int_inv,t.1,f _ _ _ _ RelD.intI c (Le.refl H) t.2⟩
 ·rename_i a k
  split at t
  ·rename_i xs e1
   obtain ⟨vs,h1,q1⟩:=c _ _ e1;refine .inr ⟨a,k,vs,r1.ref_inv,r2.int_inv,h1,t.1.1,t.1.2.1,by rw [<- q1.length];exact t.1.2.2,?_⟩;intro p hp;exact f _ _ _ _ RelD.refI (c.lstNew hp (q1.rep _)) (Le.fresh hp) (t.2 p (c.fresh hp))
  ·exact t.elim
 ·exact t.elim
theorem ur2 {f:Value->Value->Sem Value} {g:Int->Int->Bool} (h:OpR X f (rI0 fun i j=>.bl (g i j))):Op3 X f (fun x y G q=>match x,y with | .int i,.int j=>q (.bl (g i j)) G | _,_=>False):=u67 h fun x y H Q ⟨d,e,G,q,r1,r2,c,t,f⟩=>by
 dsimp only at t;split at t
 ·exact ⟨_,_,r1.int_inv,r2.int_inv,f _ _ _ _ RelD.blI c (Le.refl H) t⟩
 ·exact t.elim
theorem x_le:Op3 X (compareOp .LtE) xLe:=ur2 w03
theorem x_gt:Op3 X (compareOp .Gt) xGt:=ur2 w04
theorem x_ge:Op3 X (compareOp .GtE) xGe:=ur2 w05
theorem x_lt:Op3 X (compareOp .Lt) xLt:=u67 (op_lt.or uu1) <| by
 rintro x y H Q ⟨d,e,G,q,r1,r2,c,t,f⟩;unfold xLt at t;split at t
 ·exact .inl ⟨_,_,r1.int_inv,r2.int_inv,f _ _ _ _ RelD.blI c (Le.refl H) t⟩
 ·exact .inr ⟨_,_,r1.str_inv,r2.str_inv,f _ _ _ _ RelD.blI c (Le.refl H) t⟩
 ·exact t.elim
def xNeg:U3:=fun x G q=>match x with | .int i=>q (.int (-i)) G | _=>False
theorem ug0:UnR X (unaryOp .USub) (lowU X.K xNeg):=vk3 vl5 <| by
 rintro x H Q ⟨d,G,q,r1,c,t,f⟩;unfold xNeg at t;split at t
 ·exact ⟨_,r1.int_inv,f _ _ _ _ RelD.intI c (Le.refl H) t⟩
 ·exact t.elim
def xIx:R3:=fun x y G q=>match x,y with
 | .tup ds,.int i=>(match atI ds i with | some d=>q d G | none=>False)
 | .ref a,.int i=>(match u11 (G a) with | some ds=>(match atI ds i with | some d=>q d G | none=>False) | none=>False)
 | .str z,.int i=>z.length<=sizeLine /\ (match atI z.cps.toList i with | some c=>q (.str ⟨#[c]⟩) G | none=>False)
 | _,_=>False
theorem RelDs.atI {ds:List D} {xs:List V} {i:Int} {d:D} (h:RelDs K H ds xs) (e:L2.atI ds i=some d):∃ v,L2.atI xs i=some v /\ RelD K H d v:=by
 unfold L2.atI at e ⊢;rw [<- h.length];cases hj:ixN ds.length i with
 | none=>rw [hj] at e;cases e
 | some j =>
  rw [hj] at e;exact h.get e
theorem x_ix:IxR X (lowR X.K xIx):=vk5 vu2 <| by
 rintro x y H Q ⟨d,e,G,q,r1,r2,c,t,f⟩;unfold xIx at t;split at t
 ·rename_i ds i
  obtain ⟨a,xs,rfl,s1,q1⟩:=r1.tup_inv;split at t
  ·rename_i w ew
   obtain ⟨v,hv,rv⟩:=q1.atI ew;exact .inr (.inl ⟨a,xs,i,v,rfl,r2.int_inv,s1,hv,f _ _ _ _ rv c (Le.refl H) t⟩)
  ·exact t.elim
 ·rename_i a i
  split at t
  ·rename_i ds es
   obtain ⟨xs,s1,q1⟩:=u19 c es;split at t
   ·rename_i w ew
    obtain ⟨v,hv,rv⟩:=q1.atI ew;exact .inl ⟨a,xs,i,v,r1.ref_inv,r2.int_inv,s1,hv,f _ _ _ _ rv c (Le.refl H) t⟩
   ·exact t.elim
  ·exact t.elim
 ·rename_i z i
  obtain ⟨hz,t⟩:=t;split at t
  ·rename_i w ew
   exact .inr (.inr ⟨z,i,w,r1.str_inv,r2.int_inv,hz,ew,f _ _ _ _ RelD.strI c (Le.refl H) t⟩)
  ·exact t.elim
 ·exact t.elim
def cutD {α:Type} (xs:List α) (lo hi:Option Int):List α:=(xs.drop (HT.sIx xs.length 0 lo)).take (HT.sIx xs.length xs.length hi - HT.sIx xs.length 0 lo)
theorem RelDs.cut {ds:List D} {xs:List V} (h:RelDs K H ds xs) (lo hi:Option Int):RelDs K H (cutD ds lo hi) (cutV xs lo hi):=by
 unfold cutD cutV;rw [h.length];exact (h.drop _).take _
def xSet:TSet3:=fun o i v G q=>match o,i with
 | .ref a,.int k=>(match G a with | some (.lst ds)=>(match ixN ds.length k with | some j=>q (gup G a (.lst (ds.set j v))) | none=>False) | _=>False)
 | _,_=>False
theorem v88:PSet X (uv0 X.K xSet):=v94 set_list <| by
 rintro o i v H Q ⟨d,e,x,G,q,r1,r2,r3,c,t,f⟩;unfold xSet at t;split at t
 ·rename_i a k
  split at t
  ·rename_i ds e1
   obtain ⟨xs,h1,q1⟩:=c _ _ e1;split at t
   ·rename_i j ej
    exact ⟨a,xs,k,j,r1.ref_inv,r2.int_inv,h1,by rw [<- q1.length];exact ej,f _ _ (c.lstSet h1 (q1.set r3 j)) (Le.lst h1) t⟩
   ·exact t.elim
  ·exact t.elim
 ·exact t.elim
end
inductive Sn where
 | non | bl (b:Bool) | int (i:Int) | str (x:Str) | tup (xs:List Sn) | lst (xs:List Sn)
def snap (G:Gp):Nat->D->Option Sn
 | _,.non=>some .non
 | _,.bl b=>some (.bl b)
 | _,.int i=>some (.int i)
 | _,.str x=>some (.str x)
 | n+1,.tup ds=>(ds.mapM (snap G n)).map .tup
 | n+1,.ref a=>(u11 (G a)).bind fun ds=>(ds.mapM (snap G n)).map .lst
 | _,_=>none
def u39:Sn->Bool
 | .non=>true | .bl _=>true | .int _=>true | .str _=>true | _=>false
def eqF:Sn->Sn->Bool
 | .non,.non=>true
 | .bl a,.bl b=>a == b
 | .bl a,.int b=>(if a then 1 else 0) == b
 | .int a,.bl b=>a == (if b then 1 else 0)
 | .int a,.int b=>a == b
 | .str a,.str b=>a == b
 | _,_=>false
def eqN:Nat->Sn->Sn->Option Bool
 | n+1,.tup xs,.tup ys=>if xs.length=ys.length then ((xs.zip ys).mapM fun p=>eqN n p.1 p.2).map fun bs=>bs.all id else none
 | n+1,.lst xs,.lst ys=>if xs.length=ys.length then ((xs.zip ys).mapM fun p=>eqN n p.1 p.2).map fun bs=>bs.all id else some false
 | _,x,y=>if (u39 x && u39 y)=true then some (eqF x y) else none
theorem u22 {α β:Type} {f:α->Option β}:∀ {xs:List α} {ys:List β},xs.mapM f=some ys->xs.length=ys.length /\ ∀ (i:Nat) x,xs[i]?=some x->∃ y,ys[i]?=some y /\ f x=some y
 | [],ys,h=>by
  have:ys=[]:=by simpa using h.symm
  subst this;exact ⟨rfl,fun i x e=>by simp at e⟩
 | x::xs,ys,h=>by
  rw [List.mapM_cons] at h;cases hx:f x with
  | none=>rw [hx] at h;cases h
  | some y =>
   rw [hx] at h;cases hr:xs.mapM f with
   | none=>rw [hr] at h;cases h
   | some r =>
    rw [hr] at h;have e:y::r=ys:=Option.some.inj h;subst e;obtain ⟨h1,h2⟩:=u22 hr;refine ⟨by simp [h1],fun i z e=>?_⟩;cases i with
    | zero=>cases (show x=z from Option.some.inj e);exact ⟨y,rfl,hx⟩
    | succ i=>exact h2 i z e
theorem ud9 {bs:List Bool} {e:Nat->Bool} {n:Nat} (hl:bs.length=n) (h:∀ (i:Nat) b,bs[i]?=some b->e i=b):(List.range n).all e=bs.all id:=by
 rw [Bool.eq_iff_iff,List.all_eq_true,List.all_eq_true]
 constructor
 ·intro q b hb
  obtain ⟨i,hi,eb⟩:=List.mem_iff_getElem.mp hb;have:=q i (List.mem_range.mpr (by omega));rw [h i b (by rw [List.getElem?_eq_getElem hi,eb])] at this;exact this
 ·intro q i hi
  have hi:=List.mem_range.mp hi;rw [h i bs[i] (List.getElem?_eq_getElem (by omega))];exact q _ (List.getElem_mem _)
section
variable {X:Cx} {pins:List (Addr × Obj)} {σ:L2.St} {H:Hp} {s:Shared} {G:Gp}
theorem uj8 {n:Nat} {d:D} {sd:Sn} {x:V} {u:Value} (h:snap G n d=some sd) (fl:u39 sd=true) (r:RelD X.K H d x):uc1 x=true /\ ∀ (e:D) (se:Sn) (y:V),snap G n e=some se->u39 se=true->RelD X.K H e y->eqV x y=eqF sd se:=by
  have key:∀ (d:D) (sd:Sn) (x:V),snap G n d=some sd->u39 sd=true->RelD X.K H d x->(sd=.non /\ x=.non) \/ (∃ b,sd=.bl b /\ x=.bl b) \/ (∃ i,sd=.int i /\ x=.int i) \/ (∃ z,sd=.str z /\ x=.str z):=by
    intro d sd x h fl r;cases d with
    | non => have e : Sn.non = sd := by cases n <;> exact Option.some.inj h
             subst e;exact .inl ⟨rfl,r.non_inv⟩
    | bl b => have e : Sn.bl b = sd := by cases n <;> exact Option.some.inj h
              subst e;exact .inr (.inl ⟨b,rfl,r.bl_inv⟩)
    | int b => have e : Sn.int b = sd := by cases n <;> exact Option.some.inj h
               subst e;exact .inr (.inr (.inl ⟨b,rfl,r.int_inv⟩))
    | str b => have e : Sn.str b = sd := by cases n <;> exact Option.some.inj h
               subst e;exact .inr (.inr (.inr ⟨b,rfl,r.str_inv⟩))
    | tup ds =>
      cases n with
      | zero=>cases h
      | succ n =>
        have h:(ds.mapM (snap G n)).map Sn.tup=some sd:=h;obtain ⟨a,_,rfl⟩:=Option.map_eq_some_iff.mp h;cases fl
    | ref a =>
      cases n with
      | zero=>cases h
      | succ n =>
        have h:((u11 (G a)).bind fun ds=>(ds.mapM (snap G n)).map Sn.lst)=some sd:=h;obtain ⟨ds,_,h⟩:=Option.bind_eq_some_iff.mp h;obtain ⟨a,_,rfl⟩:=Option.map_eq_some_iff.mp h;cases fl
    | ty t=>cases n <;> cases h
  rcases key d sd x h fl r with ⟨rfl,rfl⟩ | ⟨b,rfl,rfl⟩ | ⟨b,rfl,rfl⟩ | ⟨b,rfl,rfl⟩ <;> refine ⟨rfl,fun e se y h' fl' r'=>?_⟩ <;>
    rcases key e se y h' fl' r' with ⟨rfl,rfl⟩ | ⟨c,rfl,rfl⟩ | ⟨c,rfl,rfl⟩ | ⟨c,rfl,rfl⟩ <;> rfl
theorem snap_tup {n:Nat} {ds:List D} {sd:Sn} (h:snap G n (.tup ds)=some sd):∃ m ss,n=m+1 /\ sd=.tup ss /\ ds.mapM (snap G m)=some ss:=by
 cases n with
 | zero=>cases h
 | succ n =>
  obtain ⟨ss,h1,rfl⟩:=Option.map_eq_some_iff.mp (show (ds.mapM (snap G n)).map Sn.tup=some sd from h);exact ⟨n,ss,rfl,rfl,h1⟩
theorem snap_ref {n:Nat} {a:Addr} {sd:Sn} (h:snap G n (.ref a)=some sd):∃ m ds ss,n=m+1 /\ sd=.lst ss /\ u11 (G a)=some ds /\ ds.mapM (snap G m)=some ss:=by
 cases n with
 | zero=>cases h
 | succ n =>
  obtain ⟨ds,h0,h⟩:=Option.bind_eq_some_iff.mp (show ((u11 (G a)).bind fun ds=>(ds.mapM (snap G n)).map Sn.lst)=some sd from h);obtain ⟨ss,h1,rfl⟩:=Option.map_eq_some_iff.mp h;exact ⟨n,ds,ss,rfl,rfl,h0,h1⟩
theorem un2 {n:Nat} {x y:Sn} (hx:u39 x=true):eqN n x y=if (u39 x && u39 y)=true then some (eqF x y) else none:=by
 cases x with
 | tup _=>cases hx
 | lst _=>cases hx
 | non=>cases n <;> rfl
 | bl _=>cases n <;> rfl
 | int _=>cases n <;> rfl
 | str _=>cases n <;> rfl
theorem u64 {n:Nat} {x y:Sn} {b:Bool} (h:eqN n x y=some b) (fl:¬ (u39 x && u39 y)=true):(∃ m xs ys,n=m+1 /\ x=.tup xs /\ y=.tup ys) \/ (∃ m xs ys,n=m+1 /\ x=.lst xs /\ y=.lst ys):=by
 unfold eqN at h;split at h
 ·exact .inl ⟨_,_,_,rfl,rfl,rfl⟩
 ·exact .inr ⟨_,_,_,rfl,rfl,rfl⟩
 ·rw [if_neg fl] at h;cases h
theorem u46 {n:Nat} {d:D} {ss:List Sn} (h:snap G n d=some (.tup ss)):∃ ds,d=.tup ds:=by
 cases d with
 | tup ds=>exact ⟨ds,rfl⟩
 | ref a=>obtain ⟨_,_,_,_,e',_⟩:=snap_ref h;cases e'
 | _=>cases n <;> cases h
theorem u47 {n:Nat} {d:D} {ss:List Sn} (h:snap G n d=some (.lst ss)):∃ a,d=.ref a:=by
 cases d with
 | ref a=>exact ⟨a,rfl⟩
 | tup ds=>obtain ⟨_,_,_,e',_⟩:=snap_tup h;cases e'
 | _=>cases n <;> cases h
theorem ug7 {n:Nat} {d e:D} {x:V} {sd se:Sn} {b:Bool} (r1:RelD X.K H d x) (r2:RelD X.K H e x) (h1:snap G n d=some sd) (h2:snap G n e=some se) (hb:eqN n sd se=some b) (fl:(u39 sd && u39 se)=true):b=true:=by
 rw [Bool.and_eq_true] at fl;have z:=hb;rw [un2 fl.1,if_pos (by rw [fl.1,fl.2];rfl)] at z;obtain ⟨fx,k⟩:=uj8 (u:=Value.none) h1 fl.1 r1;rw [<- Option.some.inj z,<- k e se x h2 fl.2 r2];cases x with
 | non=>rfl
 | bl b=>exact beq_self_eq_true b
 | int i=>exact beq_self_eq_true i
 | str w=>exact beq_self_eq_true w
 | _=>cases fx
theorem us4 (I:Inv X pins σ H s) (c:Con X.K G H):∀ (n:Nat) (d e:D) (x:V) (sd se:Sn) (b:Bool),RelD X.K H d x->RelD X.K H e x->snap G n d=some sd->snap G n e=some se->eqN n sd se=some b->b=true:=by
 intro n
 induction n with
 | zero =>
  intro d e x sd se b r1 r2 h1 h2 hb
  by_cases fl:(u39 sd && u39 se)=true
  ·exact ug7 r1 r2 h1 h2 hb fl
  ·rcases u64 hb fl with ⟨_,_,_,z,_⟩ | ⟨_,_,_,z,_⟩ <;> cases z
 | succ m ih =>
  intro d e x sd se b r1 r2 h1 h2 hb
  by_cases fl:(u39 sd && u39 se)=true
  ·exact ug7 r1 r2 h1 h2 hb fl
  have items:∀ (ds es:List D) (xs:List V) (ss ts:List Sn) (bs:List Bool),RelDs X.K H ds xs->RelDs X.K H es xs->ds.mapM (snap G m)=some ss->es.mapM (snap G m)=some ts->((ss.zip ts).mapM fun p=>eqN m p.1 p.2)=some bs->bs.all id=true:=by
   intro ds es xs ss ts bs q1 q2 k1 k2 kb;rw [List.all_eq_true];intro b hb;obtain ⟨i,hi,eb⟩:=List.mem_iff_getElem.mp hb;obtain ⟨l1,f1⟩:=u22 k1;obtain ⟨l2,f2⟩:=u22 k2;obtain ⟨l3,f3⟩:=u22 kb;have hz:(ss.zip ts).length=min ss.length ts.length:=List.length_zip;have e1:=q1.length;have e2:=q2.length;have hds:i < ds.length:=by omega
   have hes:i < es.length:=by omega
   obtain ⟨y1,g1,s1⟩:=f1 i ds[i] (List.getElem?_eq_getElem hds);obtain ⟨y2,g2,s2⟩:=f2 i es[i] (List.getElem?_eq_getElem hes);have hzip:(ss.zip ts)[i]?=some (y1,y2):=by rw [List.getElem?_zip_eq_some];exact ⟨g1,g2⟩
   obtain ⟨b',g3,s3⟩:=f3 i _ hzip;rw [List.getElem?_eq_getElem hi,eb] at g3;cases g3;obtain ⟨z1,hz1,rz1⟩:=q1.get (List.getElem?_eq_getElem hds);obtain ⟨z2,hz2,rz2⟩:=q2.get (List.getElem?_eq_getElem hes);rw [hz1] at hz2;cases hz2;exact ih ds[i] es[i] z1 y1 y2 b rz1 rz2 s1 s2 s3
  rcases u64 hb fl with ⟨m',ss,ts,em,rfl,rfl⟩ | ⟨m',ss,ts,em,rfl,rfl⟩
  ·cases em
   obtain ⟨ds,rfl⟩:=u46 h1;obtain ⟨es,rfl⟩:=u46 h2;obtain ⟨_,_,em,ez,k1⟩:=snap_tup h1;cases em;cases ez;obtain ⟨_,_,em,ez,k2⟩:=snap_tup h2;cases em;cases ez;obtain ⟨a,xs,rfl,q1,rr1⟩:=r1.tup_inv;obtain ⟨a',ys,e',q2,rr2⟩:=r2.tup_inv;cases e';have:=I.tuple_inj q1 q2;subst this;unfold eqN at hb;split at hb
   ·obtain ⟨bs,kb,rfl⟩:=Option.map_eq_some_iff.mp hb
    exact items ds es xs ss ts bs rr1 rr2 k1 k2 kb
   ·cases hb
  ·cases em
   obtain ⟨a,rfl⟩:=u47 h1;obtain ⟨a',rfl⟩:=u47 h2;cases r1.ref_inv;have e':=r2.ref_inv;cases e';obtain ⟨_,ds,_,em,ez,hs1,k1⟩:=snap_ref h1;cases em;cases ez;obtain ⟨_,es,_,em,ez,hs2,k2⟩:=snap_ref h2;cases em;cases ez;rw [hs1] at hs2;cases hs2;rw [k1] at k2;cases k2;obtain ⟨xs,_,rr⟩:=u19 c hs1;unfold eqN at hb;split at hb
   ·obtain ⟨bs,kb,rfl⟩:=Option.map_eq_some_iff.mp hb
    exact items ds ds xs ss ss bs rr rr k1 k1 kb
   ·rename_i h;exact absurd rfl h
structure SeqPair (G:Gp) (K:W.Frag) (H:Hp) (m:Nat) (its its2:List Value) (bs:List Bool):Prop where
 len:its.length=its2.length
 bl:bs.length=its.length
 at_:∀ (j:Nat) (h1:j < its.length) (h2:j < its2.length) (h3:j < bs.length),∃ d e x y sd se,RelD K H d x /\ RelV x its[j] /\ RelD K H e y /\ RelV y its2[j] /\ snap G m d=some sd /\ snap G m e=some se /\ eqN m sd se=some bs[j]
theorem u85 {m:Nat} {ds es:List D} {xs ys:List V} {its its2:List Value} {ss ts:List Sn} {bs:List Bool} (q1:RelDs X.K H ds xs) (v1:Vals xs its) (q2:RelDs X.K H es ys) (v2:Vals ys its2)
  (k1:ds.mapM (snap G m)=some ss) (k2:es.mapM (snap G m)=some ts) (hl:ss.length=ts.length) (kb:((ss.zip ts).mapM fun p=>eqN m p.1 p.2)=some bs):SeqPair G X.K H m its its2 bs:=by
 obtain ⟨l1,f1⟩:=u22 k1;obtain ⟨l2,f2⟩:=u22 k2;obtain ⟨l3,f3⟩:=u22 kb;have hz:(ss.zip ts).length=min ss.length ts.length:=List.length_zip;have e1:=q1.length;have e2:=q2.length;have e3:=v1.length;have e4:=v2.length;refine ⟨by omega,by omega,fun j h1 h2 h3=>?_⟩;have hds:j < ds.length:=by omega
 have hes:j < es.length:=by omega
 obtain ⟨y1,g1,s1⟩:=f1 j ds[j] (List.getElem?_eq_getElem hds);obtain ⟨y2,g2,s2⟩:=f2 j es[j] (List.getElem?_eq_getElem hes);have hzip:(ss.zip ts)[j]?=some (y1,y2):=by rw [List.getElem?_zip_eq_some];exact ⟨g1,g2⟩
 obtain ⟨b',g3,s3⟩:=f3 j _ hzip;rw [List.getElem?_eq_getElem h3] at g3;cases g3;obtain ⟨z1,hz1,rz1⟩:=q1.get (List.getElem?_eq_getElem hds);obtain ⟨z2,hz2,rz2⟩:=q2.get (List.getElem?_eq_getElem hes);obtain ⟨u1,hu1,ru1⟩:=v1.get hz1;obtain ⟨u2,hu2,ru2⟩:=v2.get hz2;rw [List.getElem?_eq_getElem h1] at hu1;rw [List.getElem?_eq_getElem h2] at hu2;cases hu1;cases hu2;exact ⟨ds[j],es[j],z1,z2,y1,y2,rz1,ru1,rz2,ru2,s1,s2,s3⟩
end
section
variable {X:Cx} {pins:List (Addr × Obj)} {σ:L2.St} {H:Hp} {s:Shared} {G:Gp}
theorem uw1 (I:Inv X pins σ H s) {n:Nat} {A:Around} {d e:D} {x y:V} {u v:Value} {sd se:Sn} {b:Bool} (r1:RelD X.K H d x) (v1:RelV x u) (r2:RelD X.K H e y) (v2:RelV y v) (h1:snap G n d=some sd) (h2:snap G n e=some se) (hb:eqN n sd se=some b) (fl:(u39 sd && u39 se)=true):SeqAt.EqAt A s u v b:=by
 rw [Bool.and_eq_true] at fl;have hb':b=eqF sd se:=by
  have z:=hb;rw [un2 fl.1,if_pos (by rw [fl.1,fl.2];rfl)] at z;exact (Option.some.inj z).symm
 obtain ⟨fx,k⟩:=uj8 (u:=u) h1 fl.1 r1;obtain ⟨fy,_⟩:=uj8 (u:=v) h2 fl.2 r2;rw [hb',<- k e se y h2 fl.2 r2];exact v81 v1 v2 fx fy
theorem v32 (I:Inv X pins σ H s) (c:Con X.K G H):∀ (n:Nat) (A:Around) (d e:D) (x y:V) (u v:Value) (sd se:Sn) (b:Bool),RelD X.K H d x->RelV x u->RelD X.K H e y->RelV y v->snap G n d=some sd->snap G n e=some se->eqN n sd se=some b->A.units+n < cLine->SeqAt.EqAt A s u v b:=by
 intro n
 induction n with
 | zero =>
  intro A d e x y u v sd se b r1 v1 r2 v2 h1 h2 hb hu
  by_cases fl:(u39 sd && u39 se)=true
  ·exact uw1 I r1 v1 r2 v2 h1 h2 hb fl
  ·rcases u64 hb fl with ⟨_,_,_,z,_⟩ | ⟨_,_,_,z,_⟩ <;> cases z
 | succ m ih =>
  intro A d e x y u v sd se b r1 v1 r2 v2 h1 h2 hb hu
  by_cases fl:(u39 sd && u39 se)=true
  ·exact uw1 I r1 v1 r2 v2 h1 h2 hb fl
  ·have inner:∀ (its its2:List Value) (bs:List Bool),SeqPair G X.K H m its its2 bs->∀ j (h1:j < its.toArray.size) (h2:j < its2.toArray.size),SeqAt.EqAt A.in1 s its.toArray[j] its2.toArray[j] ((bs[j]?).getD true):=by
    intro its its2 bs P j h1 h2;have h1':j < its.length:=by simpa using h1
    have h2':j < its2.length:=by simpa using h2
    have h3':j < bs.length:=by rw [P.bl];exact h1'
    obtain ⟨d',e',x',y',sd',se',a1,a2,a3,a4,a5,a6,a7⟩:=P.at_ j h1' h2' h3'
    rw [List.getElem?_eq_getElem h3'];have hu':A.in1.units+m < cLine:=by
     have:A.in1.units=A.units+1:=rfl;omega
    have:=ih A.in1 d' e' x' y' _ _ sd' se' _ a1 a2 a3 a4 a5 a6 a7 hu';simpa using this
   rcases u64 hb fl with ⟨m',ss,ts,em,rfl,rfl⟩ | ⟨m',ss,ts,em,rfl,rfl⟩
   ·cases em
    obtain ⟨ds,rfl⟩:=u46 h1;obtain ⟨es,rfl⟩:=u46 h2;obtain ⟨_,_,em,ez,k1⟩:=snap_tup h1;cases em;cases ez;obtain ⟨_,_,em,ez,k2⟩:=snap_tup h2;cases em;cases ez;obtain ⟨a,xs,rfl,q1,rr1⟩:=r1.tup_inv;obtain ⟨a',ys,rfl,q2,rr2⟩:=r2.tup_inv;cases v1;cases v2
    by_cases haa:a=a'
    ·subst haa
     rw [us4 I c (m+1) (.tup ds) (.tup es) (.ref a) _ _ b r1 r2 h1 h2 hb];exact SeqAt.EqAt.same _
    ·unfold eqN at hb
     split at hb
     ·rename_i hlen
      obtain ⟨bs,kb,rfl⟩:=Option.map_eq_some_iff.mp hb;obtain ⟨its,w1,t1,_⟩:=I.tuple q1;obtain ⟨its2,w2,t2,_⟩:=I.tuple q2;have P:=u85 rr1 w1 rr2 w2 k1 k2 hlen kb;have R:=SeqAt.RcAt.tuples (A:=A) (s:=s) (e:=fun j=>(bs[j]?).getD true) (show s.heap.IsTuple a its.toArray from t1) (show s.heap.IsTuple a' its2.toArray from t2) (by omega) (inner its its2 bs P);have e1:((List.range (min its.toArray.size its2.toArray.size)).all (fun j=>(bs[j]?).getD true) && its.toArray.size == its2.toArray.size)=bs.all id:=by
       have el:its.toArray.size=its2.toArray.size:=by simpa using P.len
       rw [el,Nat.min_self,beq_self_eq_true,Bool.and_true];exact ud9 (by rw [<- el];simpa using P.bl) fun i b hb=>by rw [hb];rfl
      rw [e1] at R;exact SeqAt.EqAt.of_refs haa R
     ·cases hb
   ·cases em
    obtain ⟨a,rfl⟩:=u47 h1;obtain ⟨a',rfl⟩:=u47 h2;obtain ⟨_,ds,_,em,ez,hs1,k1⟩:=snap_ref h1;cases em;cases ez;obtain ⟨_,es,_,em,ez,hs2,k2⟩:=snap_ref h2;cases em;cases ez;cases r1.ref_inv;cases r2.ref_inv;cases v1;cases v2
    by_cases haa:a=a'
    ·subst haa
     rw [us4 I c (m+1) (.ref a) (.ref a) (.ref a) _ _ b r1 r2 h1 h2 hb];exact SeqAt.EqAt.same _
    ·obtain ⟨xs,q1,rr1⟩:=u19 c hs1
     obtain ⟨ys,q2,rr2⟩:=u19 c hs2;obtain ⟨its,w1,t1,_⟩:=I.list q1;obtain ⟨its2,w2,t2,_⟩:=I.list q2;unfold eqN at hb;split at hb
     ·rename_i hlen
      obtain ⟨bs,kb,rfl⟩:=Option.map_eq_some_iff.mp hb;have P:=u85 rr1 w1 rr2 w2 k1 k2 hlen kb;have el:its.toArray.size=its2.toArray.size:=by simpa using P.len
      have R:=SeqAt.RcAt.lists (A:=A) (s:=s) (e:=fun j=>(bs[j]?).getD true) t1.isList t2.isList el (by omega) (inner its its2 bs P);have e1:((List.range its.toArray.size).all (fun j=>(bs[j]?).getD true))=bs.all id :=
       ud9 (by simpa using P.bl) fun i b hb=>by rw [hb];rfl
      rw [e1] at R;exact SeqAt.EqAt.of_refs haa R
     ·rename_i hlen
      cases hb;have n1:=(u22 k1).1;have n2:=(u22 k2).1;have m1:=rr1.length;have m2:=rr2.length;have m3:=w1.length;have m4:=w2.length;exact SeqAt.EqAt.of_refs haa (SeqAt.RcAt.lists_lengths t1.isList t2.isList (by simp;omega) (by omega))
end
def rEqD (K:W.Frag) (neg:Bool):R2:=fun x y H Q=>∃ (d e:D) (G:Gp) (n:Nat) (sd se:Sn) (b:Bool),RelD K H d x /\ RelD K H e y /\ Con K G H /\ n<=40 /\ snap G n d=some sd /\ snap G n e=some se /\ eqN n sd se=some b /\ u39 sd=false /\ Q (.bl (if neg then !b else b)) H
section
variable {X:Cx} {k:Nat}
theorem vp5 (hr:Room k X.A):OpR X (compareOp .Eq) (rEqD X.K false):=by
  intro pins s σ H x y v u Q I rx ry h;obtain ⟨d,e,G,n,sd,se,b,r1,r2,c,hn,h1,h2,hb,fl,q⟩:=h;have hu:=hr.units;have fin:EP X pins σ Q (.bool b) s:=⟨.bl b,H,I,rfl,q⟩
  rcases u64 hb (fun z=>by rw [fl] at z;cases z) with ⟨m,ss,ts,rfl,rfl,rfl⟩ | ⟨m,ss,ts,rfl,rfl,rfl⟩
  · obtain ⟨ds,rfl⟩:=u46 h1
    obtain ⟨es,rfl⟩:=u46 h2
    · · · obtain ⟨_,ss',em,ez,k1⟩ := snap_tup h1
          cases em;cases ez;obtain ⟨m',ts',em,es',k2⟩:=snap_tup h2;cases em;cases es';obtain ⟨a,xs,rfl,q1,rr1⟩:=r1.tup_inv;obtain ⟨a',ys,rfl,q2,rr2⟩:=r2.tup_inv;cases rx;cases ry;unfold eqN at hb;split at hb
          · rename_i hlen
            obtain ⟨bs,kb,rfl⟩:=Option.map_eq_some_iff.mp hb;obtain ⟨its,w1,t1,_⟩:=I.tuple q1;obtain ⟨its2,w2,t2,_⟩:=I.tuple q2;have P:=u85 rr1 w1 rr2 w2 k1 k2 hlen kb;refine SeqAt.eq_tupleAt (e:=fun j=>(bs[j]?).getD true) (show s.heap.IsTuple a its.toArray from t1) (show s.heap.IsTuple a' its2.toArray from t2) (by omega) ?_ ?_
            · intro j h1 h2
              have h1':j < its.length:=by simpa using h1
              have h2':j < its2.length:=by simpa using h2
              have h3':j < bs.length:=by rw [P.bl];exact h1'
              obtain ⟨d',e',x',y',sd',se',a1,a2,a3,a4,a5,a6,a7⟩:=P.at_ j h1' h2' h3'
              rw [List.getElem?_eq_getElem h3'];have:=v32 I c m X.A.in1 d' e' x' y' _ _ sd' se' _ a1 a2 a3 a4 a5 a6 a7 (by have:X.A.in1.units=X.A.units+1:=rfl;omega);simpa using this
            · have e1 : ((List.range (min its.toArray.size its2.toArray.size)).all (fun j => (bs[j]?).getD true) && its.toArray.size == its2.toArray.size) = bs.all id := by
                have el:its.toArray.size=its2.toArray.size:=by simpa using P.len
                rw [el,Nat.min_self,beq_self_eq_true,Bool.and_true];exact ud9 (by rw [<- el];simpa using P.bl) fun i b hb=>by rw [hb];rfl
              rw [e1];exact fin
          · cases hb
  · obtain ⟨a,rfl⟩:=u47 h1
    obtain ⟨a',rfl⟩:=u47 h2
    · · · obtain ⟨_,ds,ss',em,ez,hs1,k1⟩ := snap_ref h1
          cases em;cases ez;obtain ⟨m',es,ts',em,es',hs2,k2⟩:=snap_ref h2;cases em;cases es';cases r1.ref_inv;cases r2.ref_inv;cases rx;cases ry;obtain ⟨xs,q1,rr1⟩:=u19 c hs1;obtain ⟨ys,q2,rr2⟩:=u19 c hs2;obtain ⟨its,w1,t1,_⟩:=I.list q1;obtain ⟨its2,w2,t2,_⟩:=I.list q2;unfold eqN at hb;split at hb
          · rename_i hlen
            obtain ⟨bs,kb,rfl⟩:=Option.map_eq_some_iff.mp hb;have P:=u85 rr1 w1 rr2 w2 k1 k2 hlen kb;have el:its.toArray.size=its2.toArray.size:=by simpa using P.len
            refine SeqAt.eq_listAt (e:=fun j=>(bs[j]?).getD true) t1.isList t2.isList el (by omega) ?_ ?_
            · intro j h1 h2
              have h1':j < its.length:=by simpa using h1
              have h2':j < its2.length:=by simpa using h2
              have h3':j < bs.length:=by rw [P.bl];exact h1'
              obtain ⟨d',e',x',y',sd',se',a1,a2,a3,a4,a5,a6,a7⟩:=P.at_ j h1' h2' h3'
              rw [List.getElem?_eq_getElem h3'];have:=v32 I c m X.A.in1 d' e' x' y' _ _ sd' se' _ a1 a2 a3 a4 a5 a6 a7 (by have:X.A.in1.units=X.A.units+1:=rfl;omega);simpa using this
            · have e1 : ((List.range its.toArray.size).all (fun j => (bs[j]?).getD true)) = bs.all id :=
                ud9 (by simpa using P.bl) fun i b hb=>by rw [hb];rfl
              rw [e1];exact fin
          · rename_i hlen
            cases hb;have n1:=(u22 k1).1;have n2:=(u22 k2).1;have m1:=rr1.length;have m2:=rr2.length;have m3:=w1.length;have m4:=w2.length;exact SeqAt.eq_list_lengthsAt t1.isList t2.isList (by simp;omega) (by omega) fin
theorem vp3 (hr:Room k X.A):OpR X (compareOp .NotEq) (rEqD X.K true):=by
  intro pins s σ H x y v u Q I rx ry h;obtain ⟨d,e,G,n,sd,se,b,r1,r2,c,hn,h1,h2,hb,fl,q⟩:=h;have hu:=hr.units;have fin:EP X pins σ Q (.bool (!b)) s:=⟨.bl (!b),H,I,rfl,q⟩
  rcases u64 hb (fun z=>by rw [fl] at z;cases z) with ⟨m,ss,ts,rfl,rfl,rfl⟩ | ⟨m,ss,ts,rfl,rfl,rfl⟩
  · obtain ⟨ds,rfl⟩:=u46 h1
    obtain ⟨es,rfl⟩:=u46 h2
    · · · obtain ⟨_,ss',em,ez,k1⟩ := snap_tup h1
          cases em;cases ez;obtain ⟨m',ts',em,es',k2⟩:=snap_tup h2;cases em;cases es';obtain ⟨a,xs,rfl,q1,rr1⟩:=r1.tup_inv;obtain ⟨a',ys,rfl,q2,rr2⟩:=r2.tup_inv;cases rx;cases ry;unfold eqN at hb;split at hb
          · rename_i hlen
            obtain ⟨bs,kb,rfl⟩:=Option.map_eq_some_iff.mp hb;obtain ⟨its,w1,t1,_⟩:=I.tuple q1;obtain ⟨its2,w2,t2,_⟩:=I.tuple q2;have P:=u85 rr1 w1 rr2 w2 k1 k2 hlen kb;refine SeqAt.RcNeAt.tuples (e:=fun j=>(bs[j]?).getD true) (show s.heap.IsTuple a its.toArray from t1) (show s.heap.IsTuple a' its2.toArray from t2) (by omega) ?_ X.prog X.w X.xe _ ?_
            · intro j h1 h2
              have h1':j < its.length:=by simpa using h1
              have h2':j < its2.length:=by simpa using h2
              have h3':j < bs.length:=by rw [P.bl];exact h1'
              obtain ⟨d',e',x',y',sd',se',a1,a2,a3,a4,a5,a6,a7⟩:=P.at_ j h1' h2' h3'
              rw [List.getElem?_eq_getElem h3'];have:=v32 I c m X.A.in1 d' e' x' y' _ _ sd' se' _ a1 a2 a3 a4 a5 a6 a7 (by have:X.A.in1.units=X.A.units+1:=rfl;omega);simpa using this
            · have e1 : ((List.range (min its.toArray.size its2.toArray.size)).all (fun j => (bs[j]?).getD true) && its.toArray.size == its2.toArray.size) = bs.all id := by
                have el:its.toArray.size=its2.toArray.size:=by simpa using P.len
                rw [el,Nat.min_self,beq_self_eq_true,Bool.and_true];exact ud9 (by rw [<- el];simpa using P.bl) fun i b hb=>by rw [hb];rfl
              rw [e1];exact fin
          · cases hb
  · obtain ⟨a,rfl⟩:=u47 h1
    obtain ⟨a',rfl⟩:=u47 h2
    · · · obtain ⟨_,ds,ss',em,ez,hs1,k1⟩ := snap_ref h1
          cases em;cases ez;obtain ⟨m',es,ts',em,es',hs2,k2⟩:=snap_ref h2;cases em;cases es';cases r1.ref_inv;cases r2.ref_inv;cases rx;cases ry;obtain ⟨xs,q1,rr1⟩:=u19 c hs1;obtain ⟨ys,q2,rr2⟩:=u19 c hs2;obtain ⟨its,w1,t1,_⟩:=I.list q1;obtain ⟨its2,w2,t2,_⟩:=I.list q2;unfold eqN at hb;split at hb
          · rename_i hlen
            obtain ⟨bs,kb,rfl⟩:=Option.map_eq_some_iff.mp hb;have P:=u85 rr1 w1 rr2 w2 k1 k2 hlen kb;have el:its.toArray.size=its2.toArray.size:=by simpa using P.len
            refine SeqAt.RcNeAt.lists (e:=fun j=>(bs[j]?).getD true) t1.isList t2.isList el (by omega) ?_ X.prog X.w X.xe _ ?_
            · intro j h1 h2
              have h1':j < its.length:=by simpa using h1
              have h2':j < its2.length:=by simpa using h2
              have h3':j < bs.length:=by rw [P.bl];exact h1'
              obtain ⟨d',e',x',y',sd',se',a1,a2,a3,a4,a5,a6,a7⟩:=P.at_ j h1' h2' h3'
              rw [List.getElem?_eq_getElem h3'];have:=v32 I c m X.A.in1 d' e' x' y' _ _ sd' se' _ a1 a2 a3 a4 a5 a6 a7 (by have:X.A.in1.units=X.A.units+1:=rfl;omega);simpa using this
            · have e1 : ((List.range its.toArray.size).all (fun j => (bs[j]?).getD true)) = bs.all id :=
                ud9 (by simpa using P.bl) fun i b hb=>by rw [hb];rfl
              rw [e1];exact fin
          · rename_i hlen
            cases hb;have n1:=(u22 k1).1;have n2:=(u22 k2).1;have m1:=rr1.length;have m2:=rr2.length;have m3:=w1.length;have m4:=w2.length;exact SeqAt.RcNeAt.lists_lengths t1.isList t2.isList (by simp;omega) (by omega) X.prog X.w X.xe _ fin
end
structure FnAt (K:W.Frag) (x qual:Str) (st:Stmt) (ps:List Str) where
 a:Addr
 fd:FuncData
 ex:∃ (oc:Value) (od:Option Addr) (dV kV doc pm:Value) (an:Option Addr) (cdv ct:Value) (osl:Array (Option Value)),
  fd=W.fnOf x qual (u33 st) (u26 st) (u05 st) dV kV doc pm an cdv ct /\ K.lookup a=some ⟨oc,od,.func fd,osl⟩ /\ W.codeIn K cdv qual=true
 kp:W.keepIn K (.ref a)=true
 b:Binds K fd ps []
abbrev Ok (P:Program) (w:World) {K:W.Frag} (mg:Str->Option Value) (base:Heap) (n:Nat) {x qual:Str} {st:Stmt} {ps:List Str} (d:FnAt K x qual st ps) (S:Sp3):Prop:=FnOk P w K mg base CX0 n d.a d.fd ps (uh2 K S)
def ua7 (N:List Str) (ds:List D):DSt:=ds.map some++List.replicate (N.length - ds.length) none
theorem ud2 {K:W.Frag} {H:Hp} {N:List Str} {ds:List D} {vs:List V} (r:RelDs K H ds vs):RelSt K H (ua7 N ds) (L2.start N vs):=by
 unfold ua7 L2.start;refine ⟨by simp [r.length],fun i d e=>?_⟩
 by_cases hi:i < ds.length
 ·rw [List.getElem?_append_left (by simpa using hi),List.getElem?_map] at e
  rw [List.getElem?_append_left (by simpa [<- r.length] using hi),List.getElem?_map];cases h:ds[i]? with
  | none=>rw [h] at e;cases e
  | some d' =>
   rw [h] at e;cases e;obtain ⟨v,hv,rv⟩:=r.get h;exact ⟨v,by rw [hv];rfl,rv⟩
 ·rw [List.getElem?_append_right (by simpa using hi),List.getElem?_replicate] at e
  split at e <;> cases e
section
variable {P:Program} {w:World} {K:W.Frag} {mg:Str->Option Value} {base:Heap}
theorem u38 {x qual:Str} {st:Stmt} {ps N:List Str} {k:Nat} (d:FnAt K x qual st ps) {S:Sp3} (sc:FnScope N ps (u05 st)) (hl:∀ ds G R,S ds G R->ds.length=ps.length) {t:TS3}
  (ht:∀ (cdv:Value) (A:Around) (outer:List Env) (s:Shared) (H:Hp) (E:XK),Room k (A.deeper (envOfC qual (u05 st) s.heap.objs.size d.a cdv))->Ss3 (cxOf CX0 P w K mg base N qual (u05 st) d.a cdv A outer s H E).nox (u26 st) t)
  (hb:∀ ds G R,S ds G R->t { nx:=fun _ G'=>R .non G',rt:=R } (ua7 N ds) G):Ok P w mg base (k+1) d S:=by
 obtain ⟨oc,od,dV,kV,doc,pm,an,cdv,ct,osl,e,lk,hcd⟩:=d.ex;have lk':K.lookup d.a=some ⟨oc,od,.func (W.fnOf x qual (u33 st) (u26 st) (u05 st) dV kV doc pm an cdv ct),osl⟩:=e ▸ lk;have F:FnOk P w K mg base CX0 (k+1) d.a (W.fnOf x qual (u33 st) (u26 st) (u05 st) dV kV doc pm an cdv ct) ps (uh2 K S):=by
  refine vg9 lk' hcd sc (fun vs H Q E h=>?_) fun A outer s H vs Q E hr h=>?_
  ·obtain ⟨ds,G,R,r,_,hS,_⟩:=h
   rw [<- r.length];exact hl ds G R hS
  ·obtain ⟨ds,G,R,r,c,hS,f⟩:=h
   refine ⟨_,(show PSs _ _ _ from ht cdv A outer s H E hr).nox,ua7 N ds,G,_,ud2 r,c,hb ds G R hS,fun σd' G' σ' H' _ c' l' q=>?_,f,fun _ _ _ _ _ _ _ q=>q.elim,fun _ _ _ _ _ _ _ q=>q.elim⟩;exact f .non G' .non H' RelD.nonI c' l' q
 have F2:=F;rw [<- e] at F2;exact F2
end
section
variable {X:Cx} {e o:Expr} {es:List Expr} {p pos apos:Pos} {ta:TE3} {ts:TA3} {k n:Nat} {S:Sp3} {x m qual:Str} {st:Stmt} {ps:List Str} {C:Addr}
theorem ec (d:FnAt X.K x qual st ps) (hm:X.mg x=some (.ref d.a)) (G:FnOk X.prog X.w X.K X.mg X.base CX0 k d.a d.fd ps (uh2 X.K S)) (hr:Room k X.A) (ha:A3 X (e::es) ts) (hg:Gl X x:=by rfl) (hdb:(x == ("__debug__" : Str))=false:=by decide)
  (he:starEach (e::es) X.env=(false,eval e X.env)::starEach es X.env:=by rfl) (hpl:(backTo pos (starEach es X.env)).any (·.1)=false:=by rfl):E3 X (.Call (.Name x p) (e::es) [] pos) (dCall S [] ts) :=
 vv6 G hr hg hm d.kp d.b .nil (fun _=>.nil) ha hdb he hpl
end
def spec (pre:List D->Gp->Prop) (post:List D->Gp->D->Gp->Prop):Sp3:=fun ds G R=>pre ds G /\ ∀ d G',post ds G d G'->R d G'
theorem ur9 {pre:List D->Gp->Prop} {post:List D->Gp->D->Gp->Prop} {ds:List D} {G:Gp} {q:DK} (h:pre ds G) (k:∀ d G',post ds G d G'->q d G'):∃ R,spec pre post ds G R /\ ∀ d G',R d G'->q d G' :=
 ⟨post ds G,⟨h,fun _ _ z=>z⟩,k⟩
def vw5 (osc:Scope) (N N':List Str) (ix:List (Option Nat)) (scope:Scope):Bool :=
 (scope.kind == .function) && scope.names.all (fun y=>y.2 != .cell) && scope.names.all (fun y=>y.2 != .local || scope.names.lookup y.1 == some .local) &&
 scope.names.all (fun y=>y.2 != .free || osc.names.lookup y.1 == some .cell || osc.names.lookup y.1 == some .free) && (ix.length == N'.length) &&
 (N'.zip ix).all (fun p=>match p.2 with | none=>true | some j=>N[j]? == some p.1 && scope.names.lookup p.1 == some .free)
theorem blk {X:Cx} {osc:Scope} {N N':List Str} {ix:List (Option Nat)} {scope:Scope} (h1:X.env.scope=osc) (h2:X.N=N) (h:vw5 osc N N' ix scope=true):BlkOk X N' ix scope:=by
 unfold vw5 at h;simp only [Bool.and_eq_true] at h;obtain ⟨⟨⟨⟨⟨a1,a2⟩,a3⟩,a4⟩,a5⟩,a6⟩:=h;rw [List.all_eq_true] at a2 a3 a4 a6;refine ⟨eq_of_beq a1,fun y hy=>by simpa using a2 y hy,fun y hy e=>?_,fun y hy e=>?_,eq_of_beq a5,fun i j x e1 e2=>?_⟩
 ·have:=a3 y hy
  simp only [e,bne_self_eq_false,Bool.false_or] at this;exact eq_of_beq this
 ·have:=a4 y hy
  simp only [e,bne_self_eq_false,Bool.false_or,Bool.or_eq_true,beq_iff_eq] at this;unfold Env.kindOf;rw [h1];exact this
 ·have hz:(N'.zip ix)[i]?=some (x,some j):=by rw [List.getElem?_zip_eq_some];exact ⟨e1,e2⟩
  have:=a6 _ (List.mem_of_getElem? hz);simp only [Bool.and_eq_true,beq_iff_eq] at this;rw [h2];exact this
section
variable {X:Cx} {K:W.Frag} {H:Hp}
def ul2:RS3:=fun x lo hi G q=>match x with
 | .ref a=>(match u11 (G a) with | some ds=>∀ p,G p=none->q (.ref p) (gup G p (.lst (cutD ds lo hi))) | none=>False)
 | .tup ds=>¬ (HT.sIx ds.length 0 lo=0 /\ HT.sIx ds.length ds.length hi=ds.length) /\ q (.tup (cutD ds lo hi)) G
 | _=>False
theorem x_sl:SlR X (v22 X.K ul2):=v55 (sl_list.or vm2) <| by
 rintro x lo hi H Q ⟨d,G,q,r1,c,t,f⟩;unfold ul2 at t;split at t
 ·rename_i a
  split at t
  ·rename_i ds e
   obtain ⟨xs,s1,q1⟩:=u19 c e;exact .inl ⟨a,xs,r1.ref_inv,s1,fun p hp=>f _ _ _ _ RelD.refI (c.lstNew hp (q1.cut lo hi)) (Le.fresh hp) (t p (c.fresh hp))⟩
  ·exact t.elim
 ·rename_i ds
  obtain ⟨a,xs,rfl,s1,q1⟩:=r1.tup_inv;refine .inr ⟨a,xs,rfl,s1,by rw [<- q1.length];exact t.1,fun p hp=>?_⟩;refine f (.tup _) G (.ref p) _ ?_ (c.side hp) (Le.fresh hp) t.2;rw [RelD];exact ⟨p,_,rfl,SqT.of u23,RelDs.le (Le.fresh hp) (q1.cut lo hi)⟩
 ·exact t.elim
def xLen:C3:=fun ds G q=>match ds with
 | [.str z]=>z.length<=sizeLine /\ q (.int z.length) G
 | [.tup xs]=>q (.int xs.length) G
 | [.ref a]=>(match u11 (G a) with | some xs=>q (.int xs.length) G | none=>False)
 | _=>False
theorem RelDs.one {d:D} {vs:List V} (h:RelDs K H [d] vs):∃ v,vs=[v] /\ RelD K H d v:=by
 obtain ⟨x,r,rfl,h1,h2⟩:=h.inv_cons;rw [h2.inv_nil];exact ⟨x,rfl,h1⟩
theorem RelDs.two {d e:D} {vs:List V} (h:RelDs K H [d,e] vs):∃ v u,vs=[v,u] /\ RelD K H d v /\ RelD K H e u:=by
 obtain ⟨x,r,rfl,h1,h2⟩:=h.inv_cons;obtain ⟨y,rfl,h3⟩:=h2.one;exact ⟨x,y,rfl,h1,h3⟩
theorem u72:Call3 X (.builtin "len") xLen:=u29 (call_len_seq.or ui1) <| by
 rintro xs H Q ⟨ds,G,q,r,c,t,f⟩;unfold xLen at t;split at t
 ·obtain ⟨v,rfl,r1⟩:=r.one
  cases r1.str_inv;exact .inr ⟨_,rfl,t.1,f _ _ _ _ RelD.intI c (Le.refl H) t.2⟩
 ·obtain ⟨v,rfl,r1⟩:=r.one
  obtain ⟨a,ys,rfl,s1,q1⟩:=r1.tup_inv;refine .inl ⟨a,ys,rfl,.inr s1,?_⟩;rw [<- q1.length];exact f _ _ _ _ RelD.intI c (Le.refl H) t
 ·obtain ⟨v,rfl,r1⟩:=r.one
  cases r1.ref_inv;split at t
  ·rename_i ds e
   obtain ⟨ys,s1,q1⟩:=u19 c e;refine .inl ⟨_,ys,rfl,.inl s1,?_⟩;rw [<- q1.length];exact f _ _ _ _ RelD.intI c (Le.refl H) t
  ·exact t.elim
 ·exact t.elim
def xAbs:C3:=fun ds G q=>match ds with | [.int i]=>q (.int (if i < 0 then -i else i)) G | _=>False
theorem vy1:Call3 X (.builtin "abs") xAbs:=u29 v45 <| by
 rintro xs H Q ⟨ds,G,q,r,c,t,f⟩;unfold xAbs at t;split at t
 ·obtain ⟨v,rfl,r1⟩:=r.one
  cases r1.int_inv;exact ⟨_,rfl,f _ _ _ _ RelD.intI c (Le.refl H) t⟩
 ·exact t.elim
def uj0:C3:=fun ds G q=>match ds with | [.int i,.int j]=>CDiv i j /\ q (.tup [.int (i / j),.int (i % j)]) G | _=>False
theorem uy4:Call3 X (.builtin "divmod") uj0:=u29 uk4 <| by
 rintro xs H Q ⟨ds,G,q,r,c,t,f⟩;unfold uj0 at t;split at t
 ·obtain ⟨v,u,rfl,r1,r2⟩:=r.two
  cases r1.int_inv;cases r2.int_inv;refine ⟨_,_,rfl,t.1,fun p hp=>f (.tup _) G (.ref p) _ ?_ (c.side hp) (Le.fresh hp) t.2⟩;rw [RelD];exact ⟨p,_,rfl,SqT.of u23,.cons RelD.intI (.cons RelD.intI .nil)⟩
 ·exact t.elim
def v92:C3:=fun ds G q=>match ds with | [.int i,.int j]=>q (.int (if j > i then j else i)) G | _=>False
def v90:C3:=fun ds G q=>match ds with | [.int i,.int j]=>q (.int (if j < i then j else i)) G | _=>False
theorem vj9 (hc:X.calm=true:=by rfl):Call3 X (.builtin "max") v92:=u29 (ux5 hc) <| by
 rintro xs H Q ⟨ds,G,q,r,c,t,f⟩;unfold v92 at t;split at t
 ·obtain ⟨v,u,rfl,r1,r2⟩:=r.two
  cases r1.int_inv;cases r2.int_inv;exact ⟨_,_,rfl,f _ _ _ _ RelD.intI c (Le.refl H) t⟩
 ·exact t.elim
theorem v52 (hc:X.calm=true:=by rfl):Call3 X (.builtin "min") v90:=u29 (ux3 hc) <| by
 rintro xs H Q ⟨ds,G,q,r,c,t,f⟩;unfold v90 at t;split at t
 ·obtain ⟨v,u,rfl,r1,r2⟩:=r.two
  cases r1.int_inv;cases r2.int_inv;exact ⟨_,_,rfl,f _ _ _ _ RelD.intI c (Le.refl H) t⟩
 ·exact t.elim
def ul1:C3:=fun ds G q=>match ds with | [.int i]=>q (.int i) G | [.bl b]=>q (.int (if b then 1 else 0)) G | _=>False
theorem ue0:Call3 X (.type "int") ul1:=u29 ux6 <| by
 rintro xs H Q ⟨ds,G,q,r,c,t,f⟩;unfold ul1 at t;split at t
 ·obtain ⟨v,rfl,r1⟩:=r.one
  cases r1.int_inv;exact .inl ⟨_,rfl,f _ _ _ _ RelD.intI c (Le.refl H) t⟩
 ·obtain ⟨v,rfl,r1⟩:=r.one
  cases r1.bl_inv;exact .inr ⟨_,rfl,f _ _ _ _ RelD.intI c (Le.refl H) t⟩
 ·exact t.elim
def ue2:C3:=fun ds G q=>match ds with
 | [.tup xs]=>∀ p,G p=none->q (.ref p) (gup G p (.lst xs))
 | [.ref a]=>(match u11 (G a) with | some xs=>∀ p,G p=none->q (.ref p) (gup G p (.lst xs)) | none=>False)
 | _=>False
theorem uy3:Call3 X (.type "list") ue2:=u29 ui0 <| by
 rintro xs H Q ⟨ds,G,q,r,c,t,f⟩;unfold ue2 at t;split at t
 ·obtain ⟨v,rfl,r1⟩:=r.one
  obtain ⟨a,ys,rfl,s1,q1⟩:=r1.tup_inv;exact ⟨a,ys,rfl,.inr s1,fun p hp=>f _ _ _ _ RelD.refI (c.lstNew hp q1) (Le.fresh hp) (t p (c.fresh hp))⟩
 ·obtain ⟨v,rfl,r1⟩:=r.one
  cases r1.ref_inv;split at t
  ·rename_i ds e
   obtain ⟨ys,s1,q1⟩:=u19 c e;exact ⟨_,ys,rfl,.inl s1,fun p hp=>f _ _ _ _ RelD.refI (c.lstNew hp q1) (Le.fresh hp) (t p (c.fresh hp))⟩
  ·exact t.elim
 ·exact t.elim
def u74:C3:=fun ds G q=>match ds with
 | [.tup xs]=>q (.tup xs) G
 | [.ref a]=>(match u11 (G a) with | some xs=>q (.tup xs) G | none=>False)
 | _=>False
theorem u43:Call3 X (.type "tuple") u74:=u29 uf7 <| by
 rintro xs H Q ⟨ds,G,q,r,c,t,f⟩;unfold u74 at t;split at t
 ·obtain ⟨v,rfl,r1⟩:=r.one
  obtain ⟨a,ys,rfl,s1,q1⟩:=r1.tup_inv;exact ⟨a,ys,rfl,.inr ⟨s1,f _ _ _ _ r1 c (Le.refl H) t⟩⟩
 ·obtain ⟨v,rfl,r1⟩:=r.one
  cases r1.ref_inv;split at t
  ·rename_i ds e
   obtain ⟨ys,s1,q1⟩:=u19 c e;refine ⟨_,ys,rfl,.inl ⟨s1,fun p hp=>f (.tup _) G (.ref p) _ ?_ (c.side hp) (Le.fresh hp) t⟩⟩;rw [RelD];exact ⟨p,_,rfl,SqT.of u23,RelDs.le (Le.fresh hp) q1⟩
  ·exact t.elim
 ·exact t.elim
def uk8:List D->Option (List Bool)
 | []=>some []
 | .bl b::r=>(uk8 r).map (b::·)
 | _=>none
theorem ui7:∀ {ds:List D} {bs:List Bool} {vs:List V},uk8 ds=some bs->RelDs K H ds vs->vs=bs.map V.bl
 | [],bs,vs,e,r=>by cases e;rw [r.inv_nil];rfl
 | .bl b::ds,bs,vs,e,r=>by
  obtain ⟨x,xs,rfl,h1,h2⟩:=r.inv_cons;obtain ⟨bs',e',rfl⟩:=Option.map_eq_some_iff.mp (show (uk8 ds).map (b::·)=some bs from e);rw [h1.bl_inv,ui7 e' h2];rfl
 | .non::_,_,_,e,_=>by cases e
 | .int _::_,_,_,e,_=>by cases e
 | .str _::_,_,_,e,_=>by cases e
 | .tup _::_,_,_,e,_=>by cases e
 | .ref _::_,_,_,e,_=>by cases e
 | .ty _::_,_,_,e,_=>by cases e
def xAll:C3:=fun ds G q=>match ds with
 | [.ref a]=>(match u11 (G a) with | some xs=>(match uk8 xs with | some bs=>q (.bl (bs.all id)) G | none=>False) | none=>False)
 | _=>False
theorem vy0 (hc:X.calm=true:=by rfl):Call3 X (.builtin "all") xAll:=u29 (v44 hc) <| by
 rintro xs H Q ⟨ds,G,q,r,c,t,f⟩;unfold xAll at t;split at t
 ·obtain ⟨v,rfl,r1⟩:=r.one
  cases r1.ref_inv;split at t
  ·rename_i ds e
   obtain ⟨ys,s1,q1⟩:=u19 c e;split at t
   ·rename_i bs eb
    have:=ui7 eb q1;subst this;exact ⟨_,bs,rfl,s1,f _ _ _ _ RelD.blI c (Le.refl H) t⟩
   ·exact t.elim
  ·exact t.elim
 ·exact t.elim
def u94:List D->Option (List Int)
 | []=>some []
 | .int b::r=>(u94 r).map (b::·)
 | _=>none
theorem u90:∀ {ds:List D} {bs:List Int} {vs:List V},u94 ds=some bs->RelDs K H ds vs->vs=bs.map V.int
 | [],bs,vs,e,r=>by cases e;rw [r.inv_nil];rfl
 | .int b::ds,bs,vs,e,r=>by
  obtain ⟨x,xs,rfl,h1,h2⟩:=r.inv_cons;obtain ⟨bs',e',rfl⟩:=Option.map_eq_some_iff.mp (show (u94 ds).map (b::·)=some bs from e);rw [h1.int_inv,u90 e' h2];rfl
 | .non::_,_,_,e,_=>by cases e
 | .bl _::_,_,_,e,_=>by cases e
 | .str _::_,_,_,e,_=>by cases e
 | .tup _::_,_,_,e,_=>by cases e
 | .ref _::_,_,_,e,_=>by cases e
 | .ty _::_,_,_,e,_=>by cases e
def xSum:C3:=fun ds G q=>match ds with
 | [.ref a]=>(match u11 (G a) with | some xs=>(match u94 xs with | some bs=>q (.int bs.sum) G | none=>False) | none=>False)
 | _=>False
theorem vj7 (hc:X.calm=true:=by rfl):Call3 X (.builtin "sum") xSum:=u29 (v43 hc) <| by
 rintro xs H Q ⟨ds,G,q,r,c,t,f⟩;unfold xSum at t;split at t
 ·obtain ⟨v,rfl,r1⟩:=r.one
  cases r1.ref_inv;split at t
  ·rename_i ds e
   obtain ⟨ys,s1,q1⟩:=u19 c e;split at t
   ·rename_i bs eb
    have:=u90 eb q1;subst this;exact ⟨_,bs,rfl,s1,f _ _ _ _ RelD.intI c (Le.refl H) t⟩
   ·exact t.elim
  ·exact t.elim
 ·exact t.elim
def uh3 (G:Gp):D->Option String
 | .non=>some "NoneType"
 | .bl _=>some "bool"
 | .int _=>some "int"
 | .str _=>some "str"
 | .ref a=>match G a with | some (.lst _)=>some "list" | some (.fro _)=>some "list" | some (.dic _)=>some "dict" | _=>none
 | _=>none
def u83:C3:=fun ds G q=>match ds with
 | [x,.ty T]=>(T = "int" \/ T = "str" \/ T = "bool" \/ T = "list" \/ T = "tuple" \/ T = "dict") /\ (match uh3 G x with | some n=>q (.bl (subK n T)) G | none=>False)
 | _=>False
theorem u73:Call3 X (.builtin "isinstance") u83:=u29 uk3 <| by
 rintro xs H Q ⟨ds,G,q,r,c,t,f⟩;unfold u83 at t;split at t
 ·rename_i d T
  obtain ⟨v,u,rfl,r1,r2⟩:=r.two;rw [RelD] at r2;subst r2;obtain ⟨hT,t⟩:=t;split at t
  ·rename_i n en
   refine ⟨v,n,T,rfl,?_,hT,f _ _ _ _ RelD.blI c (Le.refl H) t⟩;unfold uh3 at en;split at en
   ·cases r1.non_inv;cases en;rfl
   ·cases r1.bl_inv;cases en;rfl
   ·cases r1.int_inv;cases en;rfl
   ·cases r1.str_inv;cases en;rfl
   ·rename_i a
    cases r1.ref_inv;split at en
    ·rename_i xs ea;cases en;obtain ⟨ys,h1,_⟩:=c _ _ ea;exact .inl ⟨rfl,.inl ⟨ys,h1⟩⟩
    ·rename_i xs ea;cases en;obtain ⟨o,ys,h1,_⟩:=c _ _ ea;exact .inl ⟨rfl,.inr ⟨o,ys,h1⟩⟩
    ·rename_i xs ea;cases en;obtain ⟨ys,h1,_⟩:=c _ _ ea;exact .inr (.inr ⟨rfl,ys,h1⟩)
    ·cases en
   ·cases en
  ·exact t.elim
 ·exact t.elim
theorem ud7 {x:Str} {T:String} {pos:Pos} (hm:X.mg x=none) (hv:bootBuiltins x=some (.type T)) (hg:Gl X x:=by rfl) (hn:x ≠ "__name__" := by decide) (hd:(x == ("__debug__" : Str))=false:=by decide):E3 X (.Name x pos) (dC (.ty T)) :=
 u37 (vd7 (v:=.ty T) hg hm hv rfl hn hd) fun _ _ _=>up4 fun _=>by rw [RelD]
def xIs2:R3:=fun x y G q=>match y with
 | .non=>(match x with | .non=>q (.bl true) G | _=>q (.bl false) G)
 | .bl b=>(match x with | .bl c=>q (.bl (decide (c=b))) G | _=>q (.bl false) G)
 | _=>False
def ur3:R3:=fun x y G q=>match y with
 | .non=>(match x with | .non=>q (.bl false) G | _=>q (.bl true) G)
 | .bl b=>(match x with | .bl c=>q (.bl (!decide (c=b))) G | _=>q (.bl true) G)
 | _=>False
theorem un7 {c b:Bool}:decide (V.bl c=V.bl b)=decide (c=b):=by cases c <;> cases b <;> rfl
end
def jSeq (n:Nat) (t:TGs3):TG3:=fun d σ G q=>match d with
 | .tup ds=>ds.length=n /\ t ds σ G q
 | .ref a=>(match u11 (G a) with | some ds=>ds.length=n /\ t ds σ G q | none=>False)
 | _=>False
def wAny (te:TE3):TI3:=fun σ G r=>te σ G fun x G1=>match x with
 | .ref a=>(match u11 (G1 a) with | some ds=>r ⟨ds,fun G=>u11 (G a)=some ds⟩ G1 | none=>False)
 | .tup ds=>r ⟨ds,fun _=>True⟩ G1
 | _=>False
section
variable {X:Cx} {es:List Expr} {e tg:Expr} {te:TE3} {pos:Pos}
theorem vu0 {k n:Nat} {t:TGs3} (hc:X.calm=true) (h:Js3 X es t) (hn:(assignEach es X.env).length=n:=by rfl) (hst:(assignEach es X.env).findIdx? (·.1)=none:=by rfl):J3 X (.Tuple es k pos) (jSeq n t) :=
 v96 (vz8 (vn8 hc h hn hst) (vd2 hc h hn hst)) fun v σ H Q hh=>by
  obtain ⟨d,σd,G,q,r,rs,c,t,f⟩:=hh;unfold jSeq at t;split at t
  ·rename_i ds
   obtain ⟨a,xs,rfl,s,r2⟩:=r.tup_inv;exact .inl ⟨a,xs,rfl,s,by rw [<- r2.length];exact t.1,ds,σd,G,q,r2,rs,c,t.2,f⟩
  ·rename_i a
   split at t
   ·rename_i ds e
    obtain ⟨xs,s,r'⟩:=u19 c e;exact .inr ⟨a,xs,r.ref_inv,s,by rw [<- r'.length];exact t.1,ds,σd,G,q,r',rs,c,t.2,f⟩
   ·exact t.elim
  ·exact t.elim
theorem uc7 (h:E3 X e te):I3 X tg e (wAny te):=vk6 (vn7 h) fun σ H R hh=>by
 obtain ⟨σd,G,q,rs,c,t,f⟩:=hh;refine ⟨σd,G,_,rs,c,t,fun x G1 v H1 r1 c1 l1 t1=>?_⟩;split at t1
 ·rename_i a
  split at t1
  ·rename_i ds e
   obtain ⟨xs,s,_⟩:=u19 c1 e;exact ⟨a,r1.ref_inv,.inl ⟨⟨xs,s⟩,f _ _ _ _ up5 c1 l1 t1⟩⟩
  ·exact t1.elim
 ·rename_i ds
  obtain ⟨a,xs,rfl,s,r⟩:=r1.tup_inv;exact ⟨a,rfl,.inr ⟨⟨xs,s⟩,f _ _ _ _ (uv4 s r) c1 l1 t1⟩⟩
 ·exact t1.elim
end
section
variable {X:Cx} {e o:Expr} {es:List Expr} {to:TE3} {ts:TA3} {apos cpos:Pos}
theorem ty_list (K:W.Frag):∀ G H x v,Con K G H->RelD K H x v->tyD G "list" x->tyV K "list" v H:=by
 intro G H x v c r t;cases x with
 | ref a =>
  cases r.ref_inv;cases e:G a with
  | none=>simp [tyD,e] at t
  | some o =>
   cases o with
   | lst ds=>obtain ⟨xs,s,_⟩:=u19 (ds:=ds) c (by rw [e];rfl);exact .inl ⟨rfl,xs,s⟩
   | fro ds=>obtain ⟨xs,s,_⟩:=u19 (ds:=ds) c (by rw [e];rfl);exact .inl ⟨rfl,xs,s⟩
   | dic _=>simp [tyD,e] at t
   | dit _=>simp [tyD,e] at t
   | ins _ _=>simp [tyD,e] at t
   | exc _ _=>simp [tyD,e] at t
   | frd _ _=>simp [tyD,e] at t
   | tb _ _=>simp [tyD,e] at t
 | str _=>simp [tyD] at t
 | int _=>simp [tyD] at t
 | _=>exact t.elim
def u87:M3:=fun x ds G q=>match x,ds with
 | .ref a,[d]=>(match G a with | some (.lst xs)=>xs.length < sizeLine /\ q .non (gup G a (.lst (xs++[d]))) | _=>False)
 | _,_=>False
theorem u48 (ho:E3 X o to) (ha:A3 X (e::es) ts) (hbase:attributeBase o "append" X.env (eval o X.env)=eval o X.env:=by rfl)
  (hfew:((backTo cpos (starEach (e::es) X.env)).all (fun x=>!x.1) && (backToKw cpos (keywordEach [] X.env)).all (fun x=>x.1.isSome)
   && decide ((e::es).length+([]:List Keyword).length+(if ([]:List Keyword).isEmpty then 0 else 1) < 30))=true:=by rfl)
  (hline:(apos.endLine == cpos.line)=true:=by rfl) (hs:starEach (e::es) X.env=(false,eval e X.env)::starEach es X.env:=by rfl) (hplain:(backTo cpos (starEach es X.env)).any (·.1)=false:=by rfl) :
  E3 X (.Call (.Attribute o "append" apos) (e::es) [] cpos) (dBM "list" u87 to ts) :=
 u37 (vd6 PySem.F.plainAttrs_list PySem.F.slot_list_append PySem.F.type_list_append (ul4 (r':=lowM X.K u87) uh0 <| by
  rintro x xs H Q ⟨d,ds,G,q,r1,r2,c,t,f⟩;unfold u87 at t;split at t
  ·rename_i a d'
   split at t
   ·rename_i ys ea
    cases r1.ref_inv;obtain ⟨v,rfl,rv⟩:=r2.one;obtain ⟨zs,h1,q1⟩:=c _ _ ea;exact ⟨a,zs,v,rfl,rfl,h1,by rw [<- q1.length];exact t.1,f _ _ _ _ RelD.nonI (c.lstSet h1 (q1.append (.cons rv .nil))) (Le.lst h1) t.2⟩
   ·exact t.elim
  ·exact t.elim) ho ha hbase hfew hline hs hplain) fun _ _ _=>uu9 (ty_list X.K)
def uf0:M3:=fun x ds G q=>match x,ds with
 | .ref a,[.ref b]=>(match G a,G b with | some (.lst xs),some (.lst ys)=>xs.length+ys.length<=sizeLine /\ q .non (gup G a (.lst (xs++ys))) | _,_=>False)
 | _,_=>False
theorem v34 (ho:E3 X o to) (ha:A3 X (e::es) ts) (hbase:attributeBase o "extend" X.env (eval o X.env)=eval o X.env:=by rfl)
  (hfew:((backTo cpos (starEach (e::es) X.env)).all (fun x=>!x.1) && (backToKw cpos (keywordEach [] X.env)).all (fun x=>x.1.isSome)
   && decide ((e::es).length+([]:List Keyword).length+(if ([]:List Keyword).isEmpty then 0 else 1) < 30))=true:=by rfl)
  (hline:(apos.endLine == cpos.line)=true:=by rfl) (hs:starEach (e::es) X.env=(false,eval e X.env)::starEach es X.env:=by rfl) (hplain:(backTo cpos (starEach es X.env)).any (·.1)=false:=by rfl) :
  E3 X (.Call (.Attribute o "extend" apos) (e::es) [] cpos) (dBM "list" uf0 to ts) :=
 u37 (vd6 PySem.F.plainAttrs_list PySem.F.slot_list_extend PySem.F.type_list_extend (ul4 (r':=lowM X.K uf0) uu4 <| by
  rintro x xs H Q ⟨d,ds,G,q,r1,r2,c,t,f⟩;unfold uf0 at t;split at t
  ·rename_i a b
   split at t
   ·rename_i ys zs ea eb
    cases r1.ref_inv;obtain ⟨v,rfl,rv⟩:=r2.one;cases rv.ref_inv;obtain ⟨us,h1,q1⟩:=c _ _ ea;obtain ⟨ws,h2,q2⟩:=c _ _ eb;exact ⟨a,b,us,ws,rfl,rfl,h1,h2,by rw [<- q1.length,<- q2.length];exact t.1,f _ _ _ _ RelD.nonI (c.lstSet h1 (q1.append q2)) (Le.lst h1) t.2⟩
   ·exact t.elim
  ·exact t.elim) ho ha hbase hfew hline hs hplain) fun _ _ _=>uu9 (ty_list X.K)
def w28:M3:=fun x ds G q=>match x,ds with
 | .ref a,[]=>(match G a with | some (.lst xs)=>(match xs[xs.length - 1]? with | some y=>q y (gup G a (.lst xs.dropLast)) | none=>False) | _=>False)
 | _,_=>False
def uf1:M3:=fun x ds G q=>match x,ds with
 | .ref a,[]=>(match G a with | some (.lst _)=>q .non (gup G a (.lst [])) | _=>False)
 | _,_=>False
theorem v36 (ho:E3 X o to) (hbase:attributeBase o "clear" X.env (eval o X.env)=eval o X.env:=by rfl) (hline:(apos.endLine == cpos.line)=true:=by rfl):E3 X (.Call (.Attribute o "clear" apos) [] [] cpos) (dBM0 "list" uf1 to) :=
 u37 (vo7 PySem.F.plainAttrs_list PySem.F.slot_list_clear PySem.F.type_list_clear (ul4 (r':=lowM X.K uf1) v06 <| by
  rintro x xs H Q ⟨d,ds,G,q,r1,r2,c,t,f⟩;unfold uf1 at t;split at t
  ·rename_i a
   split at t
   ·rename_i ys ea
    cases r1.ref_inv;cases r2.inv_nil;obtain ⟨zs,h1,q1⟩:=c _ _ ea;exact ⟨a,zs,rfl,rfl,h1,f _ _ _ _ RelD.nonI (c.lstSet h1 .nil) (Le.lst h1) t⟩
   ·exact t.elim
  ·exact t.elim) ho hbase hline) fun _ _ _=>vf4 (ty_list X.K)
end
def xEqB (neg:Bool):R3:=fun x y G q=>match x,y with
 | .int i,.int j=>q (.bl (if neg then !decide (i=j) else decide (i=j))) G
 | .str i,.str j=>q (.bl (if neg then !decide (i=j) else decide (i=j))) G
 | .bl i,.bl j=>q (.bl (if neg then !decide (i=j) else decide (i=j))) G
 | .non,.non=>q (.bl (!neg)) G
 | .non,.int _=>q (.bl neg) G
 | .int _,.non=>q (.bl neg) G
 | .non,.bl _=>q (.bl neg) G
 | .bl _,.non=>q (.bl neg) G
 | .non,.str _=>q (.bl neg) G
 | .str _,.non=>q (.bl neg) G
 | .int _,.str _=>q (.bl neg) G
 | .str _,.int _=>q (.bl neg) G
 | .tup xs,.tup ys=>∃ n sd se b,n<=40 /\ snap G n (.tup xs)=some sd /\ snap G n (.tup ys)=some se /\ eqN n sd se=some b /\ q (.bl (if neg then !b else b)) G
 | .ref a,.ref c=>∃ n sd se b,n<=40 /\ snap G n (.ref a)=some sd /\ snap G n (.ref c)=some se /\ eqN n sd se=some b /\ q (.bl (if neg then !b else b)) G
 | _,_=>False
section
variable {X:Cx} {k:Nat}
theorem un6 {i j:Int}:decide (V.int i=V.int j)=decide (i=j):=by
 by_cases h:i=j
 ·subst h;simp
 ·simp [h]
theorem un5 {i j:Str}:decide (V.str i=V.str j)=decide (i=j):=by
 by_cases h:i=j
 ·subst h;simp
 ·simp [h]
theorem u54 {G:Gp} {n:Nat} {xs:List D} {sd:Sn} (h:snap G n (.tup xs)=some sd):u39 sd=false:=by
 obtain ⟨_,_,_,rfl,_⟩:=snap_tup h;rfl
theorem u55 {G:Gp} {n:Nat} {a:Addr} {sd:Sn} (h:snap G n (.ref a)=some sd):u39 sd=false:=by
 obtain ⟨_,_,_,_,rfl,_⟩:=snap_ref h;rfl
theorem x_eq (hr:Room k X.A):Op3 X (compareOp .Eq) (xEqB false):=u67 (op_eq.or (vp5 hr)) <| by
 rintro x y H Q ⟨d,e,G,q,r1,r2,c,t,f⟩;have fin:∀ b,q (.bl b) G->Q (.bl b) H:=fun b z=>f _ _ _ _ RelD.blI c (Le.refl H) z
 unfold xEqB at t;split at t
 ·cases r1.int_inv;cases r2.int_inv;exact .inl ⟨rfl,by rw [un6];exact fin _ t⟩
 ·cases r1.str_inv;cases r2.str_inv;exact .inl ⟨rfl,by rw [un5];exact fin _ t⟩
 ·cases r1.bl_inv;cases r2.bl_inv;exact .inl ⟨rfl,by rw [un7];exact fin _ t⟩
 ·cases r1.non_inv;cases r2.non_inv;exact .inl ⟨rfl,fin _ t⟩
 ·cases r1.non_inv;cases r2.int_inv;exact .inl ⟨rfl,fin _ t⟩
 ·cases r1.int_inv;cases r2.non_inv;exact .inl ⟨rfl,fin _ t⟩
 ·cases r1.non_inv;cases r2.bl_inv;exact .inl ⟨rfl,fin _ t⟩
 ·cases r1.bl_inv;cases r2.non_inv;exact .inl ⟨rfl,fin _ t⟩
 ·cases r1.non_inv;cases r2.str_inv;exact .inl ⟨rfl,fin _ t⟩
 ·cases r1.str_inv;cases r2.non_inv;exact .inl ⟨rfl,fin _ t⟩
 ·cases r1.int_inv;cases r2.str_inv;exact .inl ⟨rfl,fin _ t⟩
 ·cases r1.str_inv;cases r2.int_inv;exact .inl ⟨rfl,fin _ t⟩
 ·obtain ⟨n,sd,se,b,hn,h1,h2,hb,t⟩:=t
  exact .inr ⟨_,_,G,n,sd,se,b,r1,r2,c,hn,h1,h2,hb,u54 h1,fin _ t⟩
 ·obtain ⟨n,sd,se,b,hn,h1,h2,hb,t⟩:=t
  exact .inr ⟨_,_,G,n,sd,se,b,r1,r2,c,hn,h1,h2,hb,u55 h1,fin _ t⟩
 ·exact t.elim
theorem x_ne (hr:Room k X.A):Op3 X (compareOp .NotEq) (xEqB true):=u67 (op_ne.or (vp3 hr)) <| by
 rintro x y H Q ⟨d,e,G,q,r1,r2,c,t,f⟩;have fin:∀ b,q (.bl b) G->Q (.bl b) H:=fun b z=>f _ _ _ _ RelD.blI c (Le.refl H) z
 unfold xEqB at t;split at t
 ·cases r1.int_inv;cases r2.int_inv;exact .inl ⟨rfl,by rw [un6];exact fin _ t⟩
 ·cases r1.str_inv;cases r2.str_inv;exact .inl ⟨rfl,by rw [un5];exact fin _ t⟩
 ·cases r1.bl_inv;cases r2.bl_inv;exact .inl ⟨rfl,by rw [un7];exact fin _ t⟩
 ·cases r1.non_inv;cases r2.non_inv;exact .inl ⟨rfl,fin _ t⟩
 ·cases r1.non_inv;cases r2.int_inv;exact .inl ⟨rfl,fin _ t⟩
 ·cases r1.int_inv;cases r2.non_inv;exact .inl ⟨rfl,fin _ t⟩
 ·cases r1.non_inv;cases r2.bl_inv;exact .inl ⟨rfl,fin _ t⟩
 ·cases r1.bl_inv;cases r2.non_inv;exact .inl ⟨rfl,fin _ t⟩
 ·cases r1.non_inv;cases r2.str_inv;exact .inl ⟨rfl,fin _ t⟩
 ·cases r1.str_inv;cases r2.non_inv;exact .inl ⟨rfl,fin _ t⟩
 ·cases r1.int_inv;cases r2.str_inv;exact .inl ⟨rfl,fin _ t⟩
 ·cases r1.str_inv;cases r2.int_inv;exact .inl ⟨rfl,fin _ t⟩
 ·obtain ⟨n,sd,se,b,hn,h1,h2,hb,t⟩:=t
  exact .inr ⟨_,_,G,n,sd,se,b,r1,r2,c,hn,h1,h2,hb,u54 h1,fin _ t⟩
 ·obtain ⟨n,sd,se,b,hn,h1,h2,hb,t⟩:=t
  exact .inr ⟨_,_,G,n,sd,se,b,r1,r2,c,hn,h1,h2,hb,u55 h1,fin _ t⟩
 ·exact t.elim
end
theorem u42 {c A B:Prop} [Decidable c] (h1:c->A) (h2:¬ c->B):if decide c=true then A else B:=by
 by_cases h:c
 ·simpa [h] using h1 h
 ·simpa [h] using h2 h
theorem us1 {xs:List D}:u11 (some (.lst xs))=some xs:=rfl
theorem us2 {xs:List D}:u11 (some (.fro xs))=some xs:=rfl
theorem uq3 {α:Type} {x:α} {xs:List α}:atI (x::xs) 0=some x:=u60 (j:=0) rfl
theorem w24 {α:Type} {x y:α} {xs:List α}:atI (x::y::xs) 1=some y:=u60 (j:=1) rfl
theorem w23 {α:Type} {x y z:α} {xs:List α}:atI (x::y::z::xs) 2=some z:=u60 (j:=2) rfl
theorem w22 {α:Type} {x y z u:α} {xs:List α}:atI (x::y::z::u::xs) 3=some u:=u60 (j:=3) rfl
theorem w21 {α:Type} {x y z u v:α} {xs:List α}:atI (x::y::z::u::v::xs) 4=some v:=u60 (j:=4) rfl
theorem vu5:ixN 3 0=some 0:=rfl
theorem vu4:ixN 3 1=some 1:=rfl
theorem vu3:ixN 3 2=some 2:=rfl
theorem vu7:ixN 2 0=some 0:=rfl
theorem vu6:ixN 2 1=some 1:=rfl
theorem vg2 {n:Nat} {i:Int} (h0:0<=i) (h:i < n):ixN n i=some i.toNat:=by
 unfold ixN;rw [if_pos h0,if_pos h]
theorem uk5 {α:Type} {xs:List α} {i:Int} (h0:0<=i) (h:i < xs.length):atI xs i=some (xs[i.toNat]'(by omega)):=by
 unfold atI;rw [vg2 h0 h];exact List.getElem?_eq_getElem _
theorem vi4 {α β:Type} {f:α->β} {xs:List α} {i:Int} (h0:0<=i) (h:i < xs.length):atI (xs.map f) i=some (f (xs[i.toNat]'(by omega))):=by
 rw [uk5 h0 (by simpa using h)];simp
theorem ud8 {i j:Int} (h0:0<=i) (h:i < 18446744073709551616):CMul i j:=.inl ⟨by omega,by omega⟩
end L3
namespace L3
theorem u82 {S:Sp3} {ds:List D} {G G1:Gp} {v:D} {q:DK} (h:∀ R:DK,R v G1->S ds G R) (k:q v G1):∃ R,S ds G R /\ ∀ d G',R d G'->q d G' :=
 ⟨fun d G'=>d=v /\ G'=G1,h _ ⟨rfl,rfl⟩,fun _ _ ⟨e1,e2⟩=>by subst e1;subst e2;exact k⟩
theorem u36 {S:Sp3} {ds:List D} {G:Gp} {post:DK} {q:DK} (h:∀ R:DK,(∀ d G',post d G'->R d G')->S ds G R) (k:∀ d G',post d G'->q d G'):∃ R,S ds G R /\ ∀ d G',R d G'->q d G' :=
 ⟨post,h _ fun _ _ z=>z,k⟩
theorem u30 {ok:Gp->Prop} {g:TG3} {tb:TS3} {E:Ends3} (I:List D->DSt->Gp->Prop) {items:List D} {σ:DSt} {G:Gp} (h0:I items σ G) (nil:∀ σ G,I [] σ G->ok G /\ E.nx σ G)
  (cons:∀ x r σ G,I (x::r) σ G->(∀ σ' G',I r σ' G'->forL ok g tb E r σ' G')->ok G /\ g x σ G fun σ1 G1=>tb { E with nx:=forL ok g tb E r,ct:=forL ok g tb E r,bk:=E.nx } σ1 G1):forL ok g tb E items σ G:=by
 induction items generalizing σ G with
 | nil=>exact nil σ G h0
 | cons x r ih=>exact cons x r σ G h0 fun σ' G' h=>ih h
theorem u81 {ok:Gp->Prop} {g:TG3} {tc:TT3} {te:TE3} {p:PySem.Addr} {q:DK} (I:List D->DSt->Gp->Prop) {items:List D} {σ:DSt} {G:Gp} (h0:I items σ G) (nil:∀ σ G,I [] σ G->ok G /\ q (.ref p) G)
  (cons:∀ x r σ G,I (x::r) σ G->(∀ σ' G',I r σ' G'->uc8 ok g tc te p q r σ' G')->ok G /\ g x σ G fun σ2 G2=>tc σ2 G2 fun b G3 =>
   if b=true then te σ2 G3 fun d G4=>(match G4 p with | some (.lst ys)=>ys.length < PySem.sizeLine /\ uc8 ok g tc te p q r σ2 (gup G4 p (.lst (ys++[d]))) | _=>False)
   else uc8 ok g tc te p q r σ2 G3):uc8 ok g tc te p q items σ G:=by
 induction items generalizing σ G with
 | nil=>exact nil σ G h0
 | cons x r ih=>exact cons x r σ G h0 fun σ' G' h=>ih h
end L3
namespace Rw
open PySem L2 L3
theorem ud3 {G:Gp}:∀ ks:List Int,(ks.map D.int).mapM (snap G 0)=some (ks.map Sn.int)
 | []=>rfl
 | k::ks=>by
  rw [List.map_cons,List.mapM_cons,ud3 ks];rfl
theorem ug5 {G:Gp} {a:Addr} {ks:List Int} (h:u11 (G a)=some (ks.map .int)):snap G 1 (.ref a)=some (.lst (ks.map .int)):=by
 show ((u11 (G a)).bind fun ds=>(ds.mapM (snap G 0)).map Sn.lst)=_
 rw [h,Option.bind_some,ud3];rfl
theorem v79:∀ ks ms:List Int,ks.length=ms.length->∃ bs,(((ks.map Sn.int).zip (ms.map Sn.int)).mapM fun p=>eqN 0 p.1 p.2)=some bs /\ bs.all id=decide (ks=ms)
 | [],[],_=>⟨[],rfl,rfl⟩
 | [],_::_,h=>by simp at h
 | _::_,[],h=>by simp at h
 | k::ks,m::ms,h=>by
  obtain ⟨bs,e,q⟩:=v79 ks ms (by simpa using h);refine ⟨(k == m)::bs,?_,?_⟩
  ·rw [List.map_cons,List.map_cons,List.zip_cons_cons,List.mapM_cons,e]
   rfl
  ·rw [List.all_cons,q]
   by_cases hk:k=m
   ·subst hk;simp
   ·simp [hk]
theorem vh2 {ks ms:List Int}:eqN 1 (.lst (ks.map .int)) (.lst (ms.map .int))=some (decide (ks=ms)):=by
 show (if (ks.map Sn.int).length=(ms.map Sn.int).length then (((ks.map Sn.int).zip (ms.map Sn.int)).mapM fun p=>eqN 0 p.1 p.2).map (fun bs=>bs.all id) else some false)=_
 by_cases h:ks.length=ms.length
 ·rw [if_pos (by simpa using h)]
  obtain ⟨bs,e,q⟩:=v79 ks ms h;rw [e,Option.map_some,q]
 ·rw [if_neg (by simpa using h)]
  have:ks ≠ ms:=fun e=>h (by rw [e])
  simp [this]
theorem ua2 {G:Gp} {a b:Addr} {ks ms:List Int} {Q:Bool->Prop} (h1:u11 (G a)=some (ks.map .int)) (h2:u11 (G b)=some (ms.map .int)) (h:Q (decide (ks=ms))) :
  ∃ n sd se r,n<=40 /\ snap G n (.ref a)=some sd /\ snap G n (.ref b)=some se /\ eqN n sd se=some r /\ Q r :=
 ⟨1,_,_,_,by decide,ug5 h1,ug5 h2,vh2,h⟩
theorem u21 (lo:Int) (n:Nat):rngD lo (n+1)=.int lo::rngD (lo+1) n:=by
 unfold rngD;rw [List.range_succ_eq_map,List.map_cons,List.map_map]
 congr 1
 ·simp
 ·apply List.map_congr_left
  intro i _
  show D.int _=D.int _
  congr 1
  simp;omega
structure Grow (G G':Gp):Prop where
 kp:∀ b o,G b=some o->G' b=some o
theorem Grow.refl {G:Gp}:Grow G G:=⟨fun _ _ h=>h⟩
theorem Grow.trans {G G1 G2:Gp} (a:Grow G G1) (b:Grow G1 G2):Grow G G2:=⟨fun c o h=>b.kp c o (a.kp c o h)⟩
theorem Grow.new {G G1:Gp} {p:Addr} {o:DO} (a:Grow G G1) (h:G1 p=none):Grow G (gup G1 p o):=⟨fun b u e=>by rw [u09 (gne (a.kp b u e) h)];exact a.kp b u e⟩
theorem Grow.own {G G1:Gp} {p:Addr} {o:DO} (a:Grow G G1) (h:G p=none):Grow G (gup G1 p o):=⟨fun b u e=>by rw [u09 (gne e h)];exact a.kp b u e⟩
theorem Grow.none {G G1:Gp} {p:Addr} (a:Grow G G1) (h:G1 p=none):G p=none:=by
 cases e:G p with
 | none=>rfl
 | some o=>rw [a.kp p o e] at h;cases h
end Rw
namespace L3
open PySem PySem.Spec PyProof.Rows L2
theorem vj6:(∀ i j G q,xEqB false (.int i) (.int j) G q=q (.bl (decide (i=j))) G) /\ (∀ i j G q,xEqB true (.int i) (.int j) G q=q (.bl (!decide (i=j))) G) /\
  (∀ i j G q,xEqB false (.str i) (.str j) G q=q (.bl (decide (i=j))) G) /\ (∀ i j G q,xEqB true (.str i) (.str j) G q=q (.bl (!decide (i=j))) G) /\
  (∀ a c G q,xEqB false (.ref a) (.ref c) G q=∃ n sd se b,n<=40 /\ snap G n (.ref a)=some sd /\ snap G n (.ref c)=some se /\ eqN n sd se=some b /\ q (.bl b) G) /\
  (∀ a c G q,xEqB true (.ref a) (.ref c) G q=∃ n sd se b,n<=40 /\ snap G n (.ref a)=some sd /\ snap G n (.ref c)=some se /\ eqN n sd se=some b /\ q (.bl (!b)) G) /\
  (∀ a c G q,xEqB false (.tup a) (.tup c) G q=∃ n sd se b,n<=40 /\ snap G n (.tup a)=some sd /\ snap G n (.tup c)=some se /\ eqN n sd se=some b /\ q (.bl b) G) /\
  (∀ a c G q,xEqB true (.tup a) (.tup c) G q=∃ n sd se b,n<=40 /\ snap G n (.tup a)=some sd /\ snap G n (.tup c)=some se /\ eqN n sd se=some b /\ q (.bl (!b)) G) /\
  (∀ i j G q,xAdd (.int i) (.int j) G q=q (.int (i+j)) G) /\ (∀ i j G q,xMul (.int i) (.int j) G q=(CMul i j /\ q (.int (i * j)) G)) /\
  (∀ a k G q,xMul (.ref a) (.int k) G q=(match G a with | some (.lst xs)=>(-(2 ^ 63)<=k /\ k < 2 ^ 63 /\ xs.length * k.toNat<=sizeLine) /\ ∀ p,G p=none->q (.ref p) (gup G p (.lst (List.replicate k.toNat xs).flatten)) | _=>False)) /\
  (∀ i j G q,xLt (.int i) (.int j) G q=q (.bl (decide (i < j))) G) /\
  (∀ ds i G q,xIx (.tup ds) (.int i) G q=(match atI ds i with | some d=>q d G | none=>False)) /\
  (∀ a i G q,xIx (.ref a) (.int i) G q=(match u11 (G a) with | some ds=>(match atI ds i with | some d=>q d G | none=>False) | none=>False)) /\
  (∀ xs G q,xLen [.tup xs] G q=q (.int xs.length) G) /\ (∀ a G q,xLen [.ref a] G q=(match u11 (G a) with | some xs=>q (.int xs.length) G | none=>False)) :=
 ⟨fun _ _ _ _=>rfl,fun _ _ _ _=>rfl,fun _ _ _ _=>rfl,fun _ _ _ _=>rfl,fun _ _ _ _=>rfl,fun _ _ _ _=>rfl,fun _ _ _ _=>rfl,fun _ _ _ _=>rfl,fun _ _ _ _=>rfl,fun _ _ _ _=>rfl,fun _ _ _ _=>rfl,fun _ _ _ _=>rfl,fun _ _ _ _=>rfl,fun _ _ _ _=>rfl,fun _ _ _=>rfl,fun _ _ _=>rfl⟩
theorem vj5:(∀ f i j G q,xInt f (.int i) (.int j) G q=q (.int (f i j)) G) /\ (∀ C f i j G q,ug1 C f (.int i) (.int j) G q=(C i j /\ q (.int (f i j)) G)) /\ (∀ i j G q,xLe (.int i) (.int j) G q=q (.bl (decide (i<=j))) G) /\
  (∀ i j G q,xGt (.int i) (.int j) G q=q (.bl (decide (j < i))) G) /\ (∀ i j G q,xGe (.int i) (.int j) G q=q (.bl (decide (j<=i))) G) /\ (∀ i G q,xNeg (.int i) G q=q (.int (-i)) G) /\
  (∀ a k v G q,xSet (.ref a) (.int k) v G q=(match G a with | some (.lst ds)=>(match ixN ds.length k with | some j=>q (gup G a (.lst (ds.set j v))) | none=>False) | _=>False)) /\
  (∀ a lo hi G q,ul2 (.ref a) lo hi G q=(match u11 (G a) with | some ds=>∀ p,G p=none->q (.ref p) (gup G p (.lst (cutD ds lo hi))) | none=>False)) /\
  (∀ ds lo hi G q,ul2 (.tup ds) lo hi G q=(¬ (HT.sIx ds.length 0 lo=0 /\ HT.sIx ds.length ds.length hi=ds.length) /\ q (.tup (cutD ds lo hi)) G)) /\
  (∀ x G q,xIs2 x .non G q=(match x with | .non=>q (.bl true) G | _=>q (.bl false) G)) /\ (∀ x b G q,xIs2 x (.bl b) G q=(match x with | .bl c=>q (.bl (decide (c=b))) G | _=>q (.bl false) G)) /\
  (∀ x G q,ur3 x .non G q=(match x with | .non=>q (.bl false) G | _=>q (.bl true) G)) /\ (∀ x b G q,ur3 x (.bl b) G q=(match x with | .bl c=>q (.bl (!decide (c=b))) G | _=>q (.bl true) G)) /\
  (∀ i G q,xAbs [.int i] G q=q (.int (if i < 0 then -i else i)) G) /\ (∀ i j G q,uj0 [.int i,.int j] G q=(CDiv i j /\ q (.tup [.int (i / j),.int (i % j)]) G)) /\
  (∀ i j G q,v92 [.int i,.int j] G q=q (.int (if j > i then j else i)) G) /\ (∀ i j G q,v90 [.int i,.int j] G q=q (.int (if j < i then j else i)) G) /\
  (∀ i G q,ul1 [.int i] G q=q (.int i) G) /\ (∀ b G q,ul1 [.bl b] G q=q (.int (if b then 1 else 0)) G) /\
  (∀ xs G q,ue2 [.tup xs] G q=∀ p,G p=none->q (.ref p) (gup G p (.lst xs))) /\ (∀ a G q,ue2 [.ref a] G q=(match u11 (G a) with | some xs=>∀ p,G p=none->q (.ref p) (gup G p (.lst xs)) | none=>False)) /\
  (∀ xs G q,u74 [.tup xs] G q=q (.tup xs) G) /\ (∀ a G q,u74 [.ref a] G q=(match u11 (G a) with | some xs=>q (.tup xs) G | none=>False)) /\
  (∀ a G q,xAll [.ref a] G q=(match u11 (G a) with | some xs=>(match uk8 xs with | some bs=>q (.bl (bs.all id)) G | none=>False) | none=>False)) /\
  (∀ x T G q,u83 [x,.ty T] G q=((T = "int" \/ T = "str" \/ T = "bool" \/ T = "list" \/ T = "tuple" \/ T = "dict") /\ (match uh3 G x with | some n=>q (.bl (subK n T)) G | none=>False))) /\
  (∀ a d G q,u87 (.ref a) [d] G q=(match G a with | some (.lst xs)=>xs.length < sizeLine /\ q .non (gup G a (.lst (xs++[d]))) | _=>False)) /\
  (∀ a b G q,uf0 (.ref a) [.ref b] G q=(match G a,G b with | some (.lst xs),some (.lst ys)=>xs.length+ys.length<=sizeLine /\ q .non (gup G a (.lst (xs++ys))) | _,_=>False)) /\
  (∀ a G q,uf1 (.ref a) [] G q=(match G a with | some (.lst _)=>q .non (gup G a (.lst [])) | _=>False)):=by
 refine ⟨?_,?_,?_,?_,?_,?_,?_,?_,?_,?_,?_,?_,?_,?_,?_,?_,?_,?_,?_,?_,?_,?_,?_,?_,?_,?_,?_,?_⟩ <;> intros <;> rfl
end L3
namespace L2
open PySem PySem.Spec PyProof.Rows
section
variable {X:Cx} {e:Expr} {st:Expr} {te:TE} {ts:TO} {pos p2:Pos}
theorem ut5 (its:List Value):slicePick its.toArray none none (some (-1))=its.reverse.toArray:=by
 unfold slicePick sliceBounds sliceRange;simp only [Option.getD_some,show ¬ ((-1:Int) > 0) by decide,if_false,List.size_toArray]
 congr 1
 have hc:(if (its.length:Int) - 1 > -1 then ((its.length:Int) - 1 - -1 - -1 - 1) / (- -1) else 0).toNat=its.length:=by
  cases its with
  | nil=>rfl
  | cons x xs =>
   rw [if_pos (by simp;omega)];simp
 rw [hc,List.filterMap_map];apply List.ext_getElem?;intro i;have hf:∀ (n:Nat) (f:Nat->Option Value),(∀ k,k < n->∃ v,f k=some v)->∀ i,((List.range n).filterMap f)[i]?=if i < n then f i else none:=by
  intro n f h;obtain ⟨g,hg⟩:∃ g:Nat->Value,∀ k,k < n->f k=some (g k):=⟨fun k=>(f k).getD .none,fun k hk=>by obtain ⟨v,hv⟩:=h k hk;show f k=some ((f k).getD .none);rw [hv];rfl⟩;have e:(List.range n).filterMap f=(List.range n).map g:=by
   have go:∀ l:List Nat,(∀ k ∈ l,k < n)->l.filterMap f=l.map g:=by
    intro l
    induction l with
    | nil=>intro _;rfl
    | cons k l ih=>intro hl;rw [List.filterMap_cons,hg k (hl k List.mem_cons_self),List.map_cons,ih fun z hz=>hl z (List.mem_cons_of_mem _ hz)]
   exact go _ fun k hk=>List.mem_range.mp hk
  intro i;rw [e,List.getElem?_map]
  by_cases hi:i < n
  ·rw [List.getElem?_range hi,if_pos hi,hg i hi];rfl
  ·rw [List.getElem?_eq_none (by simpa using hi),if_neg hi];rfl
 rw [hf]
 ·by_cases hi:i < its.length
  ·rw [if_pos hi,List.getElem?_reverse hi]
   show its.toArray[((its.length:Int) - 1+-1 * (i:Int)).toNat]?=_
   have:((its.length:Int) - 1+-1 * (i:Int)).toNat=its.length - 1 - i:=by omega
   rw [this];simp
  ·rw [if_neg hi,List.getElem?_eq_none (by simpa using hi)]
 ·intro k hk
  show ∃ v,its.toArray[((its.length:Int) - 1+-1 * (k:Int)).toNat]?=some v
  have:((its.length:Int) - 1+-1 * (k:Int)).toNat=its.length - 1 - k:=by omega
  rw [this];exact ⟨its[its.length - 1 - k]'(by omega),by simp⟩
def vm0 (K:W.Frag) (te:TE) (ts:TO):TE:=fun σ H Q=>te σ H fun x H1=>ts σ H1 fun k H2=>k=some (-1) /\ ∃ a xs,x=.ref a /\ SqL K H2 a xs /\ ∀ p,H2 p=none->Q (.ref p) (upd H2 p (.lst xs.reverse))
theorem vd8 (he:PE X e te) (hs:PO X (some st) ts):PE X (.Subscript e (.Slice none none (some st) p2) pos) (vm0 X.K te ts):=by
 intro pins s σ H Q I h;refine Subscript_ (thn (he pins s σ H _ I h) fun v s1 ⟨x,H1,I1,r1,q1⟩=>?_);refine wpAny_Slice ?_;rw [evalPart_none];refine wpAny_pure (wpAny_pure (thn (hs pins s1 σ H1 _ I1 q1) fun vs s3 ⟨k,H3,I3,pk,q3⟩=>?_));obtain ⟨rfl,a,xs,rfl,hx,q⟩:=q3;cases r1;have I4:Inv X pins σ H3 { s3 with heap:=s3.heap.push { cls:=.type "slice",data:=.fields #[.none,.none,vs] } }:=I3.kept (t':=s3.toks) fun b ob q=>Heap.get?_push_of_some _ q
 obtain ⟨its,r,ht,hz⟩:=I4.list hx;have hlen:=r.length
 show wpAny (model X.prog X.w) X.A (subscriptTail e (.Slice none none (some st) p2) (.ref a) (.ref s3.heap.objs.size)) (EP X pins σ Q) X.xe { s3 with heap:=s3.heap.push { cls:=.type "slice",data:=.fields #[.none,.none,vs] } }
 refine tail_any (ops:=[.ref a,.ref s3.heap.objs.size]) ht.isList.typeIs slot_list_getitem.lookup ?_ (by with_unfolding_all rfl);refine wpAny_getItem_list_slice ht.isList (Heap.IsSliceOf.new ..) .none .none pk (by decide) ?_ (by rw [List.size_toArray] <;> omega);rw [ut5];refine ⟨.ref _,_,I4.laid (t':=s3.toks) (o:=.lst xs.reverse) (fun b ob q=>Heap.get?_push_of_some _ q) (Nat.le_refl _) ?_,rfl,q _ (I4.hok.fresh (Nat.le_refl _))⟩;exact ⟨by rw [List.length_reverse];exact hz,_,0,r.reverse,Heap.get?_push_size _ rfl⟩
end
end L2
namespace L3
open PySem PySem.Spec PyProof.Rows L2
section
variable {X:Cx} {e:Expr} {te:TE3} {pos p2 p3 p4:Pos} {K:W.Frag} {σ:L2.St} {H:Hp} {Q:VK}
def vh7 (te:TE3):TE3:=fun σ G q=>te σ G fun x G1=>match x with
 | .ref a=>(match u11 (G1 a) with | some ds=>∀ p,G1 p=none->q (.ref p) (gup G1 p (.lst ds.reverse)) | none=>False)
 | _=>False
theorem v19 (h:lowE K (vh7 te) σ H Q):vm0 K (lowE K te) (lowO K (v38 (dUn xNeg (dC (.int 1))))) σ H Q:=by
 obtain ⟨σd,G,q,rs,c,t,f⟩:=h;refine ⟨σd,G,_,rs,c,t,fun x G1 v H1 r1 c1 l1 t1=>⟨σd,G1,fun o G2=>o=some (-1) /\ G2=G1,rs.le l1,c1,⟨rfl,rfl⟩,fun o G2 H2 c2 l2 e2=>?_⟩⟩;obtain ⟨rfl,rfl⟩:=e2;refine ⟨rfl,?_⟩;split at t1
 ·rename_i a
  split at t1
  ·rename_i ds e
   obtain ⟨xs,s1,q1⟩:=u19 c2 e;exact ⟨a,xs,r1.ref_inv,s1,fun p hp=>f _ _ _ _ RelD.refI (c2.lstNew hp q1.reverse) ((l1.trans l2).trans (Le.fresh hp)) (t1 p (c2.fresh hp))⟩
  ·exact t1.elim
 ·exact t1.elim
theorem vv7 {k:Nat} (he:E3 X e te):E3 X (.Subscript e (.Slice none none (some (.UnaryOp .USub (.Constant (.int 1) k p3) p4)) p2) pos) (vh7 te) :=
 u37 (vd8 he (u69 (e_un ug0 u04))) fun _ _ _=>v19
end
def strsOf:List D->Option (List Str)
 | []=>some []
 | .str x::r=>(strsOf r).map (x::·)
 | _=>none
def intsOf:List D->Option (List Int)
 | []=>some []
 | .int x::r=>(intsOf r).map (x::·)
 | _=>none
section
variable {X:Cx} {K:W.Frag} {H:Hp}
theorem u84:∀ {ds:List D} {ws:List Str} {vs:List V},strsOf ds=some ws->RelDs K H ds vs->vs=ws.map V.str
 | [],ws,vs,e,r=>by cases e;rw [r.inv_nil];rfl
 | .str b::ds,ws,vs,e,r=>by
  obtain ⟨x,xs,rfl,h1,h2⟩:=r.inv_cons;obtain ⟨ws',e',rfl⟩:=Option.map_eq_some_iff.mp (show (strsOf ds).map (b::·)=some ws from e);rw [h1.str_inv,u84 e' h2];rfl
 | .non::_,_,_,e,_=>by cases e
 | .bl _::_,_,_,e,_=>by cases e
 | .int _::_,_,_,e,_=>by cases e
 | .tup _::_,_,_,e,_=>by cases e
 | .ref _::_,_,_,e,_=>by cases e
 | .ty _::_,_,_,e,_=>by cases e
theorem u89:∀ {ds:List D} {ws:List Int} {vs:List V},intsOf ds=some ws->RelDs K H ds vs->vs=ws.map V.int
 | [],ws,vs,e,r=>by cases e;rw [r.inv_nil];rfl
 | .int b::ds,ws,vs,e,r=>by
  obtain ⟨x,xs,rfl,h1,h2⟩:=r.inv_cons;obtain ⟨ws',e',rfl⟩:=Option.map_eq_some_iff.mp (show (intsOf ds).map (b::·)=some ws from e);rw [h1.int_inv,u89 e' h2];rfl
 | .non::_,_,_,e,_=>by cases e
 | .bl _::_,_,_,e,_=>by cases e
 | .str _::_,_,_,e,_=>by cases e
 | .tup _::_,_,_,e,_=>by cases e
 | .ref _::_,_,_,e,_=>by cases e
 | .ty _::_,_,_,e,_=>by cases e
theorem uv7 {w:Str} {ws:List Str}:inV (V.str w) (ws.map V.str)=decide (w ∈ ws):=by
 unfold inV
 induction ws with
 | nil=>rfl
 | cons x xs ih =>
  rw [List.map_cons,List.any_cons,ih]
  show ((x == w) || decide (w ∈ xs))=_
  by_cases h:x=w
  ·subst h;simp
  ·have h':¬ w=x:=fun e=>h e.symm
   have:(x == w)=false:=by simpa using h
   rw [this];simp [h']
theorem uv8 {w:Int} {ws:List Int}:inV (V.int w) (ws.map V.int)=decide (w ∈ ws):=by
 unfold inV
 induction ws with
 | nil=>rfl
 | cons x xs ih =>
  rw [List.map_cons,List.any_cons,ih]
  show ((x == w) || decide (w ∈ xs))=_
  by_cases h:x=w
  ·subst h;simp
  ·have h':¬ w=x:=fun e=>h e.symm
   have:(x == w)=false:=by simpa using h
   rw [this];simp [h']
theorem ub9:∀ ws:List Str,(ws.map V.str).all uc1=true
 | []=>rfl
 | _::ws=>by rw [List.map_cons,List.all_cons,ub9 ws];rfl
theorem uc0:∀ ws:List Int,(ws.map V.int).all uc1=true
 | []=>rfl
 | _::ws=>by rw [List.map_cons,List.all_cons,uc0 ws];rfl
def xInB (neg:Bool):R3:=fun x y G q=>match x,y with
 | .str w,.tup ds=>(match strsOf ds with | some ws=>q (.bl (if neg then !decide (w ∈ ws) else decide (w ∈ ws))) G | none=>False)
 | .str w,.ref a=>(match u11 (G a) with | some ds=>(match strsOf ds with | some ws=>q (.bl (if neg then !decide (w ∈ ws) else decide (w ∈ ws))) G | none=>False) | none=>False)
 | .int w,.tup ds=>(match intsOf ds with | some ws=>q (.bl (if neg then !decide (w ∈ ws) else decide (w ∈ ws))) G | none=>False)
 | .int w,.ref a=>(match u11 (G a) with | some ds=>(match intsOf ds with | some ws=>q (.bl (if neg then !decide (w ∈ ws) else decide (w ∈ ws))) G | none=>False) | none=>False)
 | _,_=>False
theorem vs9 {neg:Bool} {x y:V} {Q:VK} (h:lowR K (xInB neg) x y H Q):rIn K neg x y H Q:=by
 obtain ⟨d,e,G,q,r1,r2,c,t,f⟩:=h;unfold xInB at t;split at t
 ·rename_i w ds
  split at t
  ·rename_i ws es
   obtain ⟨a,xs,rfl,s1,q1⟩:=r2.tup_inv;cases r1.str_inv;obtain rfl:=u84 es q1;exact ⟨a,_,rfl,.inr s1,rfl,ub9 ws,f _ _ _ _ (by rw [uv7];exact RelD.blI) c (Le.refl H) t⟩
  ·exact t.elim
 ·rename_i w a
  split at t
  ·rename_i ds eq
   split at t
   ·rename_i ws es
    obtain ⟨xs,s1,q1⟩:=u19 c eq;cases r1.str_inv;obtain rfl:=u84 es q1;exact ⟨a,_,r2.ref_inv,.inl s1,rfl,ub9 ws,f _ _ _ _ (by rw [uv7];exact RelD.blI) c (Le.refl H) t⟩
   ·exact t.elim
  ·exact t.elim
 ·rename_i w ds
  split at t
  ·rename_i ws es
   obtain ⟨a,xs,rfl,s1,q1⟩:=r2.tup_inv;cases r1.int_inv;obtain rfl:=u89 es q1;exact ⟨a,_,rfl,.inr s1,rfl,uc0 ws,f _ _ _ _ (by rw [uv8];exact RelD.blI) c (Le.refl H) t⟩
  ·exact t.elim
 ·rename_i w a
  split at t
  ·rename_i ds eq
   split at t
   ·rename_i ws es
    obtain ⟨xs,s1,q1⟩:=u19 c eq;cases r1.int_inv;obtain rfl:=u89 es q1;exact ⟨a,_,r2.ref_inv,.inl s1,rfl,uc0 ws,f _ _ _ _ (by rw [uv8];exact RelD.blI) c (Le.refl H) t⟩
   ·exact t.elim
  ·exact t.elim
 ·exact t.elim
theorem x_in {k:Nat} {A:Around} (_:Room k A):Op3 X (compareOp .In) (xInB false):=u67 uu2 fun _ _ _ _ h=>vs9 h
end
end L3
namespace Law
open PySem L2 L3 Rw
theorem u34 {v:Int} (h:0<=v):∃ x:Nat,v=(x:Int):=⟨v.toNat,by omega⟩
structure StAt (G:Gp) (st:Addr):Prop where
 ex:∃ (a:Addr) (ns:List Int) (k r:Int),G st=some (.lst [.ref a,.int k,.int r]) /\ G a=some (.fro (ns.map .int)) /\ 0<=k /\ 0<=r /\ a ≠ st /\ ns.length<=63
structure Adv (st:Addr) (G G':Gp):Prop where
 at_:StAt G' st
 kp:∀ b o,b ≠ st->G b=some o->G' b=some o
theorem StAt.new {G:Gp} {st p:Addr} {o:DO} (h:StAt G st) (hp:G p=none):StAt (gup G p o) st:=by
 obtain ⟨a,ns,k,r,h1,h2,h3⟩:=h.ex;exact ⟨a,ns,k,r,by rw [u09 (gne h1 hp)];exact h1,by rw [u09 (gne h2 hp)];exact h2,h3⟩
theorem StAt.ne {G:Gp} {st p:Addr} (h:StAt G st) (hp:G p=none):p ≠ st:=by
 obtain ⟨a,ns,k,r,h1,h2,h3⟩:=h.ex;exact Ne.symm (gne h1 hp)
theorem StAt.set {G:Gp} {st p:Addr} {xs ys:List D} (h:StAt G st) (hp:G p=some (.lst xs)) (hne:p ≠ st):StAt (gup G p (.lst ys)) st:=by
 obtain ⟨a,ns,k,r,h1,h2,h3⟩:=h.ex;have:a ≠ p:=by intro e;rw [e,hp] at h2;cases h2
 exact ⟨a,ns,k,r,by rw [u09 (Ne.symm hne)];exact h1,by rw [u09 this];exact h2,h3⟩
theorem Adv.refl {G:Gp} {st:Addr} (h:StAt G st):Adv st G G:=⟨h,fun _ _ _ e=>e⟩
theorem Adv.trans {st:Addr} {G G1 G2:Gp} (a:Adv st G G1) (b:Adv st G1 G2):Adv st G G2:=⟨b.at_,fun c o hc e=>b.kp c o hc (a.kp c o hc e)⟩
theorem Adv.new {st p:Addr} {G G1:Gp} {o:DO} (a:Adv st G G1) (hp:G1 p=none):Adv st G (gup G1 p o):=⟨a.at_.new hp,fun c u hc e=>by rw [u09 (gne (a.kp c u hc e) hp)];exact a.kp c u hc e⟩
theorem Adv.own {st p:Addr} {G G1:Gp} {xs ys:List D} (a:Adv st G G1) (hp:G p=none) (h1:G1 p=some (.lst xs)) (hne:p ≠ st):Adv st G (gup G1 p (.lst ys)) :=
 ⟨a.at_.set h1 hne,fun c u hc e=>by rw [u09 (gne e hp)];exact a.kp c u hc e⟩
theorem Adv.none {st p:Addr} {G G1:Gp} (a:Adv st G G1) (hp:G1 p=none) (hne:p ≠ st):G p=none:=by
 cases e:G p with
 | none=>rfl
 | some o=>rw [a.kp p o hne e] at hp;cases hp
end Law
namespace Rw
open PySem L2 L3
theorem ue9 {α β:Type} {f:α->Option β}:∀ {xs:List α},(∀ x ∈ xs,∃ y,f x=some y)->∃ ys,xs.mapM f=some ys
 | [],_=>⟨[],rfl⟩
 | x::xs,h=>by
  obtain ⟨y,hy⟩:=h x List.mem_cons_self;obtain ⟨ys,hys⟩:=ue9 (xs:=xs) fun z hz=>h z (List.mem_cons_of_mem _ hz)
  exact ⟨y::ys,by rw [List.mapM_cons,hy,hys];rfl⟩
theorem uf3 {n:Nat}:∀ {ys:List Sn},(∀ y ∈ ys,eqN n y y=some true)->∃ bs,((ys.zip ys).mapM fun p=>eqN n p.1 p.2)=some bs /\ bs.all id=true
 | [],_=>⟨[],rfl,rfl⟩
 | y::ys,h=>by
  obtain ⟨bs,e,q⟩:=uf3 (ys:=ys) fun z hz=>h z (List.mem_cons_of_mem _ hz)
  refine ⟨true::bs,?_,by rw [List.all_cons,q];rfl⟩;rw [List.zip_cons_cons,List.mapM_cons,e,h y List.mem_cons_self];rfl
theorem ue8 {α β:Type} {f:α->Option β}:∀ {xs:List α} {ys:List β},xs.mapM f=some ys->∀ y ∈ ys,∃ x,f x=some y
 | [],ys,h,y,hy=>by
  have:ys=[]:=by simpa using h.symm
  subst this;cases hy
 | x::xs,ys,h,y,hy=>by
  rw [List.mapM_cons] at h;cases hx:f x with
  | none=>rw [hx] at h;cases h
  | some z =>
   rw [hx] at h;cases hr:xs.mapM f with
   | none=>rw [hr] at h;cases h
   | some r =>
    rw [hr] at h;have e:z::r=ys:=Option.some.inj h;subst e
    rcases List.mem_cons.mp hy with rfl | q
    ·exact ⟨x,hx⟩
    ·exact ue8 hr y q
theorem eq_self {G:Gp}:∀ (n:Nat) {d:D} {s:Sn},snap G n d=some s->eqN n s s=some true
 | n,.non,s,h=>by cases n <;> (cases h;rfl)
 | n,.bl b,s,h=>by cases n <;> (cases h;cases b <;> rfl)
 | n,.int i,s,h=>by cases n <;> (cases h;simp [eqN,u39,eqF])
 | n,.str i,s,h=>by cases n <;> (cases h;simp [eqN,u39,eqF])
 | n,.ty _,s,h=>by cases n <;> cases h
 | 0,.tup _,s,h=>by cases h
 | 0,.ref _,s,h=>by cases h
 | n+1,.tup ds,s,h=>by
  obtain ⟨ys,e,rfl⟩:=Option.map_eq_some_iff.mp (show (ds.mapM (snap G n)).map Sn.tup=some s from h);obtain ⟨bs,e2,q⟩:=uf3 (n:=n) (ys:=ys) fun y hy=>by obtain ⟨x,hx⟩:=ue8 e y hy;exact eq_self n hx
  show (if ys.length=ys.length then ((ys.zip ys).mapM fun p=>eqN n p.1 p.2).map (fun bs=>bs.all id) else none)=_
  rw [if_pos rfl,e2,Option.map_some,q]
 | n+1,.ref a,s,h=>by
  obtain ⟨ds,e0,h⟩:=Option.bind_eq_some_iff.mp (show ((u11 (G a)).bind fun ds=>(ds.mapM (snap G n)).map Sn.lst)=some s from h);obtain ⟨ys,e,rfl⟩:=Option.map_eq_some_iff.mp h;obtain ⟨bs,e2,q⟩:=uf3 (n:=n) (ys:=ys) fun y hy=>by obtain ⟨x,hx⟩:=ue8 e y hy;exact eq_self n hx
  show (if ys.length=ys.length then ((ys.zip ys).mapM fun p=>eqN n p.1 p.2).map (fun bs=>bs.all id) else some false)=_
  rw [if_pos rfl,e2,Option.map_some,q]
theorem snap_tup {G:Gp} {n:Nat} {ds:List D} (h:∀ d ∈ ds,∃ s,snap G n d=some s):∃ s,snap G (n+1) (.tup ds)=some s:=by
 obtain ⟨ys,e⟩:=ue9 h;exact ⟨.tup ys,by show (ds.mapM (snap G n)).map Sn.tup=_;rw [e];rfl⟩
theorem snap_int {G:Gp} {n:Nat} {i:Int}:∃ s,snap G n (.int i)=some s:=by cases n <;> exact ⟨_,rfl⟩
theorem snap_str {G:Gp} {n:Nat} {i:Str}:∃ s,snap G n (.str i)=some s:=by cases n <;> exact ⟨_,rfl⟩
theorem snap_ref {G:Gp} {n:Nat} {a b:Addr} (h:u11 (G a)=u11 (G b)):snap G n (.ref a)=snap G n (.ref b):=by
 cases n with
 | zero=>rfl
 | succ n=>show ((u11 (G a)).bind _)=((u11 (G b)).bind _);rw [h]
end Rw
namespace Law
open PySem L2 L3 Rw
theorem atI_last {α:Type} {xs:List α} {x:α}:atI (xs++[x]) (-1)=some x:=by
 unfold atI ixN;rw [if_neg (by decide),List.length_append,List.length_singleton,if_pos (by omega),Option.bind_some];have:((-1:Int)+((xs.length+1:Nat):Int)).toNat=xs.length:=by omega
 rw [this,List.getElem?_append_right (Nat.le_refl _),Nat.sub_self];rfl
theorem StAt.grow {G G':Gp} {st:Addr} (h:StAt G st) (g:Grow G G'):StAt G' st:=by
 obtain ⟨a,ns,k,r,h1,h2,h3⟩:=h.ex;exact ⟨a,ns,k,r,g.kp _ _ h1,g.kp _ _ h2,h3⟩
end Law
namespace L2
open PySem PySem.Spec PyProof.Rows
section
variable {X:Cx}
theorem vw3 (hc:X.calm=true):CallR X (.builtin "max") (fun xs H Q=>∃ (p:Addr) (ns:List Int),xs=[.ref p] /\ SqL X.K H p (ns.map V.int) /\ 0 < ns.length /\ ∀ M:Int,M ∈ ns->(∀ a ∈ ns,a<=M)->Q (.int M) H):=by
 intro pins s σ H xs us Q I r h;obtain ⟨p,ns,rfl,hq,hne,q⟩:=h;obtain ⟨u,rfl,rx⟩:=vals1 r;cases rx;obtain ⟨its,r',pl,hz⟩:=I.list hq;have hi:IntsAre its ns:=intsAre_of r';obtain ⟨ys,hx⟩:=hi.allInts.items;have hl':s.heap.IsList p (intItems ys):=hx ▸ pl.isList;have e1:ns=ys.toList.map (·.1):=by
  rw [<- nums_intItems,<- hx];exact (show numsOf its.toArray.toList=ns from hi.numsOf).symm
 have hsz:0 < ys.size:=by
  have h3:=hne;rw [e1,List.length_map,Array.length_toList] at h3;exact h3
 refine max_intList (I.ok.hd hc) hl' hsz fun v h' tk hv hk=>?_
 obtain ⟨t,rfl⟩:=intItems_at hv;obtain ⟨h1,h2⟩:=argBest_gt (numAt ys) (ys.size - 1);refine ⟨.int _,H,I.kept hk,⟨_,rfl⟩,q _ ?_ fun a ha=>?_⟩
 ·rw [e1,numAt_eq];exact getD_mem (by rw [List.length_map,Array.length_toList];omega)
 ·rw [e1] at ha
  obtain ⟨j,hj,rfl⟩:=mem_getD ha;rw [List.length_map,Array.length_toList] at hj;rw [<- numAt_eq];exact h2 j (by omega)
theorem ux4 (hc:X.calm=true):CallR X (.builtin "min") (fun xs H Q=>∃ (p:Addr) (ns:List Int),xs=[.ref p] /\ SqL X.K H p (ns.map V.int) /\ 0 < ns.length /\ ∀ M:Int,M ∈ ns->(∀ a ∈ ns,M<=a)->Q (.int M) H):=by
 intro pins s σ H xs us Q I r h;obtain ⟨p,ns,rfl,hq,hne,q⟩:=h;obtain ⟨u,rfl,rx⟩:=vals1 r;cases rx;obtain ⟨its,r',pl,hz⟩:=I.list hq;have hi:IntsAre its ns:=intsAre_of r';obtain ⟨ys,hx⟩:=hi.allInts.items;have hl':s.heap.IsList p (intItems ys):=hx ▸ pl.isList;have e1:ns=ys.toList.map (·.1):=by
  rw [<- nums_intItems,<- hx];exact (show numsOf its.toArray.toList=ns from hi.numsOf).symm
 have hsz:0 < ys.size:=by
  have h3:=hne;rw [e1,List.length_map,Array.length_toList] at h3;exact h3
 refine min_intList (I.ok.hd hc) hl' hsz fun v h' tk hv hk=>?_
 obtain ⟨t,rfl⟩:=intItems_at hv;obtain ⟨h1,h2⟩:=argBest_lt (numAt ys) (ys.size - 1);refine ⟨.int _,H,I.kept hk,⟨_,rfl⟩,q _ ?_ fun a ha=>?_⟩
 ·rw [e1,numAt_eq];exact getD_mem (by rw [List.length_map,Array.length_toList];omega)
 ·rw [e1] at ha
  obtain ⟨j,hj,rfl⟩:=mem_getD ha;rw [List.length_map,Array.length_toList] at hj;rw [<- numAt_eq];exact h2 j (by omega)
end
end L2
namespace L3
open PySem PySem.Spec PyProof.Rows L2
section
variable {X:Cx}
def w27:C3:=fun ds G q=>match ds with
 | [.ref a]=>(match u11 (G a) with | some xs=>(match u94 xs with | some bs=>0 < bs.length /\ ∀ M:Int,M ∈ bs->(∀ z ∈ bs,z<=M)->q (.int M) G | none=>False) | none=>False)
 | _=>False
def v91:C3:=fun ds G q=>match ds with
 | [.ref a]=>(match u11 (G a) with | some xs=>(match u94 xs with | some bs=>0 < bs.length /\ ∀ M:Int,M ∈ bs->(∀ z ∈ bs,M<=z)->q (.int M) G | none=>False) | none=>False)
 | _=>False
theorem vj8 (hc:X.calm=true:=by rfl):Call3 X (.builtin "min") v91:=u29 (ux4 hc) fun xs H Q ⟨ds,G,q,r,c,t,f⟩=>by
 unfold v91 at t;split at t
 ·obtain ⟨v,rfl,r1⟩:=r.one
  cases r1.ref_inv;split at t
  ·rename_i ds e
   obtain ⟨ys,s1,q1⟩:=u19 c e;split at t
   ·rename_i bs eb
    have:=u90 eb q1;subst this;exact ⟨_,bs,rfl,s1,t.1,fun M h1 h2=>f _ _ _ _ RelD.intI c (Le.refl H) (t.2 M h1 h2)⟩
   ·exact t.elim
  ·exact t.elim
 ·exact t.elim
theorem u66:∀ ks:List Int,u94 (ks.map D.int)=some ks
 | []=>rfl
 | k::ks=>by show (u94 (ks.map D.int)).map (k::·)=_;rw [u66 ks];rfl
end
section
variable {X:Cx} {x:Str} {p pos:Pos} {e:Expr} {es:List Expr} {ts:TA3} {k i:Nat} {S1 S2:Sp3}
theorem up7 {a:Addr} (hm:X.mg x=some (.ref a)) (hg:Gl X x:=by rfl) (hdb:(x == ("__debug__" : Str))=false:=by decide):E3 X (.Name x pos) (dC (.ref a)) :=
 v82 hg hm (v:=.ref a) rfl (fun _=>RelD.refI) hdb
end
section
variable {X:Cx} {K:W.Frag} {H:Hp}
theorem ul8 {H:Hp}:∀ ns:List Int,RelDs K H (ns.map D.int) (ns.map V.int)
 | []=>.nil
 | _::ns=>.cons RelD.intI (ul8 ns)
theorem u91 {H:Hp}:∀ {ns:List Int} {xs:List V},RelDs K H (ns.map D.int) xs->xs=ns.map V.int
 | [],xs,r=>r.inv_nil
 | n::ns,xs,r=>by
  obtain ⟨x,xs',rfl,h1,h2⟩:=r.inv_cons;rw [h1.int_inv,u91 h2];rfl
end
end L3
namespace L3
open PySem PySem.Spec PyProof.Rows L2 Rw
def cnt:Nat->Nat->Nat
 | 0,_=>0
 | n+1,m=>cnt n m+(if m.testBit n then 1 else 0)
theorem uo6:∀ {a b:List Int},a.Perm b->a.Pairwise (·<=·)->b.Pairwise (·<=·)->a=b:=by
 intro a b h h1 h2;exact h.eq_of_pairwise (fun x y _ _ h1 h2=>Int.le_antisymm h1 h2) h1 h2
theorem un8 {α:Type} {xs:List α} {n:Nat}:cutD xs none (some (n:Int))=xs.take n:=by
 unfold cutD;rw [HT.sIx_none,HT.sIx_nat,List.drop_zero,Nat.sub_zero]
 rcases Nat.le_total n xs.length with h | h
 ·rw [Nat.min_eq_left h]
 ·rw [Nat.min_eq_right h,List.take_of_length_le (Nat.le_refl _),List.take_of_length_le h]
theorem um2 {P:Program} {w:World} {K:W.Frag} {mg:Str->Option Value} {base:Heap} {n:Nat} {x qual:Str} {st:Stmt} {ps:List Str} {d:FnAt K x qual st ps} {S:Sp3} (h:∀ ds G R,¬ S ds G R):Ok P w mg base n d S :=
 ⟨fun vs H Q E ⟨ds,G,R,_,_,s,_⟩=>absurd s (h ds G R),fun A outer s H args us vs Q E _ _ _ _ ⟨ds,G,R,_,_,s,_⟩=>absurd s (h ds G R)⟩
end L3
namespace Law
open PySem L2 L3 Rw
theorem Adv.grow {G G1 G2:Gp} {st:Addr} (a:Adv st G G1) (g:Grow G1 G2):Adv st G G2:=⟨a.at_.grow g,fun c o h e=>g.kp _ _ (a.kp c o h e)⟩
end Law
namespace L2
open PySem PySem.Spec PyProof.Rows
def jn (sep:Str) (ws:List Str):Str:=Builtin.Str.glued sep ws
section
variable {X:Cx}
theorem ug4:∀ {ws:List Str} {us:List Value},Vals (ws.map V.str) us->∃ l:List (Str × Tok),us=strValues l /\ l.map (·.1)=ws
 | [],_,.nil=>⟨[],rfl,rfl⟩
 | w::ws,_,.cons r t=>by
  obtain ⟨l,rfl,e⟩:=ug4 t;obtain ⟨k,rfl⟩:=r;exact ⟨(w,k)::l,rfl,by rw [List.map_cons,e]⟩
def rJoin (K:W.Frag):V->List V->Hp->VK->Prop:=fun x vs H Q=>∃ (sep:Str) (p:Addr) (ws:List Str),x=.str sep /\ vs=[.ref p] /\ SqL K H p (ws.map V.str) /\ Builtin.Str.tooLong ((ws.toArray).foldl (·+·.length+sep.length) 0)=false /\ (jn sep ws).length<=sizeLine /\ Q (.str (jn sep ws)) H
theorem ve4:MtR X "str.join" (rJoin X.K):=by
 intro pins s σ H x vs v us Q I rx rv h;obtain ⟨sep,p,ws,rfl,rfl,hq,hl,hz,q⟩:=h;obtain ⟨t,rfl⟩:=rx;obtain ⟨u,rfl,ru⟩:=rv.one;cases ru;obtain ⟨its,r',pl,_⟩:=I.list hq;obtain ⟨l,rfl,e⟩:=ug4 r';refine call_meets F.slot_str_join (typeIs_str _ _ _) F.entry_str_join (F.args_str_join_2 _ _) (meets_str_join_list sep t p l (by rw [e];exact hl)) ⟨pl.isList,?_⟩
 match l,e with
 | [],e =>
  subst e;exact ⟨hz,.str _,H,I.tok _,⟨_,rfl⟩,q⟩
 | [a],e =>
  subst e;exact ⟨.str _,H,I,⟨_,rfl⟩,q⟩
 | a::b::l,e =>
  subst e;exact ⟨hz,.str _,H,I.tok _,⟨_,rfl⟩,q⟩
end
end L2
namespace L3
open PySem PySem.Spec PyProof.Rows L2
section
variable {X:Cx} {K:W.Frag} {H:Hp} {o e:Expr} {es:List Expr} {to:TE3} {ts:TA3} {apos cpos:Pos}
@[reducible] def vs4:M3:=fun x ds G q=>∃ (sep:Str) (a:Addr) (ws:List Str),x=.str sep /\ ds=[.ref a] /\ u11 (G a)=some (ws.map .str) /\ Builtin.Str.tooLong ((ws.toArray).foldl (·+·.length+sep.length) 0)=false /\ (jn sep ws).length<=sizeLine /\ q (.str (jn sep ws)) G
theorem ul9:∀ {ws:List Str} {vs:List V},RelDs K H (ws.map .str) vs->vs=ws.map V.str
 | [],vs,r=>r.inv_nil
 | w::ws,vs,r=>by
  obtain ⟨x,ys,rfl,h1,h2⟩:=r.inv_cons;rw [ul9 h2,h1.str_inv];rfl
theorem ty_str (K:W.Frag):∀ G H x v,Con K G H->RelD K H x v->tyD G "str" x->tyV K "str" v H:=by
 intro G H x v c r t;cases x with
 | str i=>cases r.str_inv;exact rfl
 | int _=>simp [tyD] at t
 | ref a=>cases e:G a with
  | none=>simp [tyD,e] at t
  | some o=>cases o <;> simp [tyD,e] at t
 | _=>exact t.elim
theorem vv5 (ho:E3 X o to) (ha:A3 X (e::es) ts) (hbase:attributeBase o "join" X.env (eval o X.env)=eval o X.env:=by rfl)
  (hfew:((backTo cpos (starEach (e::es) X.env)).all (fun x=>!x.1) && (backToKw cpos (keywordEach [] X.env)).all (fun x=>x.1.isSome)
   && decide ((e::es).length+([]:List Keyword).length+(if ([]:List Keyword).isEmpty then 0 else 1) < 30))=true:=by rfl)
  (hline:(apos.endLine == cpos.line)=true:=by rfl) (hs:starEach (e::es) X.env=(false,eval e X.env)::starEach es X.env:=by rfl) (hplain:(backTo cpos (starEach es X.env)).any (·.1)=false:=by rfl) :
  E3 X (.Call (.Attribute o "join" apos) (e::es) [] cpos) (dBM "str" vs4 to ts) :=
 u37 (vd6 PySem.F.plainAttrs_str PySem.F.slot_str_join PySem.F.type_str_join (ul4 (r':=lowM X.K vs4) ve4 <| by
  rintro x xs H Q ⟨d,ds,G,q,r1,r2,c,⟨sep,a,ws,rfl,rfl,es,h1,h2,t⟩,f⟩;obtain ⟨v,rfl,r3⟩:=r2.one;cases r3.ref_inv;cases r1.str_inv;obtain ⟨ys,s1,q1⟩:=u19 c es;obtain rfl:=ul9 q1;exact ⟨sep,a,ws,rfl,rfl,s1,h1,h2,f _ _ _ _ RelD.strI c (Le.refl H) t⟩) ho ha hbase hfew hline hs hplain) fun _ _ _=>uu9 (ty_str X.K)
theorem vt9:∀ ws:List Str,(jn Str.empty ws).length=(ws.map Str.length).sum:=by
 have key:∀ (ws:List Str) (acc:Array Nat),(ws.foldl (fun acc p=>acc++Str.empty.cps++p.cps) acc).size=acc.size+(ws.map Str.length).sum:=by
  intro ws
  induction ws with
  | nil=>intro acc;simp
  | cons w ws ih =>
   intro acc;rw [List.foldl_cons,ih,Array.size_append,Array.size_append]
   show acc.size+0+w.cps.size+_=_
   rw [List.map_cons,List.sum_cons]
   show _=acc.size+(w.cps.size+_)
   omega
 intro ws;cases ws with
 | nil=>rfl
 | cons w ws =>
  show (ws.foldl (fun acc p=>acc++Str.empty.cps++p.cps) w.cps).size=_
  rw [key];rfl
end
end L3
namespace L3
open PySem PySem.Spec PyProof.Rows L2 Rw
inductive Atm
 | num (i:Nat)
 | box (x:Str)
def aD:Atm->D
 | .num i=>.int (i:Int)
 | .box x=>.str x
inductive Rowp
 | is (x:Str) (a:Atm)
 | op (x o:Str) (a b:Atm)
 | cho (a:Atm) (ys ns:List Rowp)
 | tim (k:Nat) (ys:List Rowp)
mutual
def rowD:Rowp->D
 | .is x a=>.tup [.str "is",.str x,aD a]
 | .op x o a b=>.tup [.str "op",.str x,.str o,aD a,aD b]
 | .cho a ys ns=>.tup [.str "choose",aD a,.tup (u08 ys),.tup (u08 ns)]
 | .tim k ys=>.tup [.str "times",.int (k:Int),.tup (u08 ys)]
def u08:List Rowp->List D
 | []=>[]
 | r::rs=>rowD r::u08 rs
end
theorem u28:∀ rs:List Rowp,u08 rs=rs.map rowD
 | []=>rfl
 | r::rs=>by rw [u08,u28 rs];rfl
theorem u14 (rs:List Rowp):(u08 rs).length=rs.length:=by rw [u28,List.length_map]
theorem u51 (a b:List Rowp):u08 (a++b)=u08 a++u08 b:=by rw [u28,u28,u28,List.map_append]
def okA (W:Nat) (bs:List Str):Atm->Prop
 | .num i=>i < 2 ^ W
 | .box x=>x ∈ bs
def signs:List Str:=["+", "-", "&", "|", "^", "<", "="]
mutual
def okR (W:Nat) (bs:List Str):Rowp->Prop
 | .is x a=>x ∈ bs /\ okA W bs a
 | .op x o a b=>x ∈ bs /\ o ∈ signs /\ okA W bs a /\ okA W bs b
 | .cho a ys ns=>okA W bs a /\ okL W bs ys /\ okL W bs ns
 | .tim k ys=>k<=20 /\ okL W bs ys
def okL (W:Nat) (bs:List Str):List Rowp->Prop
 | []=>True
 | r::rs=>okR W bs r /\ okL W bs rs
end
theorem okL_app {W:Nat} {bs:List Str}:∀ {a b:List Rowp},okL W bs (a++b) ↔ okL W bs a /\ okL W bs b
 | [],b=>by simp [okL]
 | r::a,b=>by
  show okR W bs r /\ okL W bs (a++b) ↔ (okR W bs r /\ okL W bs a) /\ okL W bs b
  rw [okL_app,and_assoc]
mutual
def depR:Rowp->Nat
 | .is _ _=>0
 | .op _ _ _ _=>0
 | .cho _ ys ns=>1+max (depL ys) (depL ns)
 | .tim _ ys=>1+depL ys
def depL:List Rowp->Nat
 | []=>0
 | r::rs=>max (depR r) (depL rs)
end
theorem u65:∀ {a b:List Rowp},depL (a++b)=max (depL a) (depL b)
 | [],b=>by simp [depL]
 | r::a,b=>by
  show max (depR r) (depL (a++b))=max (max (depR r) (depL a)) (depL b)
  rw [u65];omega
mutual
def wtR:Rowp->Nat
 | .is _ _=>1
 | .op _ _ _ _=>1
 | .cho _ ys ns=>1+wtL ys+wtL ns
 | .tim k ys=>k * wtL ys
def wtL:List Rowp->Nat
 | []=>0
 | r::rs=>wtR r+wtL rs
end
theorem u70:∀ {a b:List Rowp},wtL (a++b)=wtL a+wtL b
 | [],b=>by simp [wtL]
 | r::a,b=>by
  show wtR r+wtL (a++b)=wtR r+wtL a+wtL b
  rw [u70];omega
mutual
def szR:Rowp->Nat
 | .is _ _=>1
 | .op _ _ _ _=>1
 | .cho _ ys ns=>1+szL ys+szL ns
 | .tim _ ys=>1+szL ys
def szL:List Rowp->Nat
 | []=>0
 | r::rs=>szR r+szL rs
end
theorem uj2:∀ {a b:List Rowp},szL (a++b)=szL a+szL b
 | [],b=>by simp [szL]
 | r::a,b=>by
  show szR r+szL (a++b)=szR r+szL a+szL b
  rw [uj2];omega
theorem va2:∀ r:Rowp,1<=szR r
 | .is _ _=>Nat.le_refl _
 | .op _ _ _ _=>Nat.le_refl _
 | .cho _ ys ns=>by show 1<=1+szL ys+szL ns;omega
 | .tim _ ys=>by show 1<=1+szL ys;omega
theorem um8:∀ rs:List Rowp,rs.length<=szL rs
 | []=>Nat.le_refl _
 | r::rs=>by
  have:=va2 r;have:=um8 rs
  show rs.length+1<=szR r+szL rs
  omega
inductive Hd
 | c1 (a:Atm)
 | c2 (a:Atm) (ys:List Rowp)
 | tm (k:Nat)
structure Fr where
 p:Addr
 ahead:List Rowp
 hd:Hd
 o:Nat
def Hd.ok (W:Nat) (bs:List Str):Hd->Prop
 | .c1 a=>okA W bs a
 | .c2 a ys=>okA W bs a /\ okL W bs ys
 | .tm k=>k<=20
theorem us0 {G:Gp}:∀ (d k:Nat) (r:Rowp),depR r<=d->∃ s,snap G (k+2 * d+1) (rowD r)=some s:=by
 intro d k
 induction d with
 | zero =>
  intro r h;cases r with
  | is x a =>
   refine Rw.snap_tup (n:=k+2 * 0) fun e he=>?_
   simp only [List.mem_cons,List.not_mem_nil,or_false] at he
   rcases he with rfl | rfl | rfl
   ·exact Rw.snap_str
   ·exact Rw.snap_str
   ·cases a <;> first | exact Rw.snap_int | exact Rw.snap_str
  | op x o a b =>
   refine Rw.snap_tup (n:=k+2 * 0) fun e he=>?_
   simp only [List.mem_cons,List.not_mem_nil,or_false] at he
   rcases he with rfl | rfl | rfl | rfl | rfl
   ·exact Rw.snap_str
   ·exact Rw.snap_str
   ·exact Rw.snap_str
   ·cases a <;> first | exact Rw.snap_int | exact Rw.snap_str
   ·cases b <;> first | exact Rw.snap_int | exact Rw.snap_str
  | cho a ys ns=>simp only [depR] at h;omega
  | tim k2 ys=>simp only [depR] at h;omega
 | succ d ih =>
  intro r h;have hin:∀ ys:List Rowp,depL ys<=d->∃ s,snap G (k+2 * d+2) (.tup (u08 ys))=some s:=by
   intro ys hy;refine Rw.snap_tup (n:=k+2 * d+1) fun e he=>?_
   rw [u28] at he;obtain ⟨r',hr',rfl⟩:=List.mem_map.mp he;refine ih r' ?_;clear he
   induction ys with
   | nil=>cases hr'
   | cons y ys ih2 =>
    simp only [depL] at hy
    rcases List.mem_cons.mp hr' with e | e
    ·subst e;omega
    ·exact ih2 (by omega) e
  have at_:∀ a:Atm,∃ s,snap G (k+2 * d+2) (aD a)=some s:=fun a=>by
   cases a <;> first | exact Rw.snap_int | exact Rw.snap_str
  cases r with
  | is x a =>
   refine Rw.snap_tup (n:=k+2 * d+2) fun e he=>?_
   simp only [List.mem_cons,List.not_mem_nil,or_false] at he
   rcases he with rfl | rfl | rfl
   ·exact Rw.snap_str
   ·exact Rw.snap_str
   ·exact at_ a
  | op x o a b =>
   refine Rw.snap_tup (n:=k+2 * d+2) fun e he=>?_
   simp only [List.mem_cons,List.not_mem_nil,or_false] at he
   rcases he with rfl | rfl | rfl | rfl | rfl
   ·exact Rw.snap_str
   ·exact Rw.snap_str
   ·exact Rw.snap_str
   ·exact at_ a
   ·exact at_ b
  | cho a ys ns =>
   simp only [depR] at h;refine Rw.snap_tup (n:=k+2 * d+2) fun e he=>?_
   simp only [List.mem_cons,List.not_mem_nil,or_false] at he
   rcases he with rfl | rfl | rfl | rfl
   ·exact Rw.snap_str
   ·exact at_ a
   ·exact hin ys (by omega)
   ·exact hin ns (by omega)
  | tim k2 ys =>
   simp only [depR] at h;refine Rw.snap_tup (n:=k+2 * d+2) fun e he=>?_
   simp only [List.mem_cons,List.not_mem_nil,or_false] at he
   rcases he with rfl | rfl | rfl
   ·exact Rw.snap_str
   ·exact Rw.snap_int
   ·exact hin ys (by omega)
theorem ub3:∀ {ys:List Rowp} {d:Nat},depL ys<=d->∀ r ∈ ys,depR r<=d
 | [],_,_,r,h=>by cases h
 | y::ys,d,hd,r,h=>by
  simp only [depL] at hd
  rcases List.mem_cons.mp h with e | e
  ·subst e;omega
  ·exact ub3 (by omega) r e
theorem uo7 {G:Gp} {ys:List Rowp} {k:Nat} (h:depL ys<=5):∀ e ∈ u08 ys,∃ s,snap G (k+2 * 5+1) e=some s:=by
 intro e he;rw [u28] at he;obtain ⟨r,hr,rfl⟩:=List.mem_map.mp he;exact us0 5 k r (ub3 h r hr)
end L3
namespace L2
open PySem PySem.Spec PyProof.Rows
section
variable {X:Cx}
def vz5 (K:W.Frag):R2:=fun x y H Q=>∃ a b xs ys,x=.ref a /\ y=.ref b /\ SqT K H a xs /\ SqT K H b ys /\ xs.length+ys.length<=sizeLine /\
 (xs=[]->Q (.ref b) H) /\ (xs ≠ []->ys=[]->Q (.ref a) H) /\ (∀ p,H p=none->Q (.ref p) (upd H p (.tup (xs++ys))))
theorem ve2:OpR X (binaryOp .Add) (vz5 X.K):=by
 intro pins s σ H x y v u Q I rx ry h;obtain ⟨a,b,xs,ys,rfl,rfl,ha,hb,hz,q0,q1,q2⟩:=h
 by_cases hx:xs=[]
 ·cases rx
  cases ry;obtain ⟨its,r1,p1,_⟩:=I.tuple ha;obtain ⟨its2,r2,p2,_⟩:=I.tuple hb;obtain ⟨⟨cls,dd,data,sl⟩,ho,hc,n,hd⟩:=id p1;obtain ⟨⟨cls2,dd2,data2,sl2⟩,ho2,hc2,n2,hd2⟩:=id p2;simp only at hc hd hc2 hd2;subst hc hd hc2 hd2;exact concat_meets ⟨_,ho,rfl⟩ ⟨_,ho2,rfl⟩ noFill_tuple_add seq_tuple_add PySem.F.slot_tuple_add PySem.F.entry_tuple_add (PySem.F.args_tuple_add_2 _ _)
   (tuple_addW0 a b its.toArray its2.toArray n n2 dd dd2 sl sl2 (by simp [r1.nil_iff.mpr hx])) ⟨ho,ho2,⟨.ref b,H,I,rfl,q0 hx⟩⟩
 ·exact op_catT pins s σ H (.ref a) (.ref b) v u Q I rx ry ⟨a,b,xs,ys,rfl,rfl,ha,hb,hx,hz,q1 hx,fun _=>q2⟩
end
end L2
namespace L3
open PySem PySem.Spec PyProof.Rows L2
section
variable {X:Cx}
def uy7:R3:=fun x y G q=>match x,y with
 | .tup a,.tup b=>a.length+b.length<=sizeLine /\ q (.tup (a++b)) G
 | _,_=>False
theorem v53:Op3 X (binaryOp .Add) uy7:=u67 ve2 <| by
 rintro x y H Q ⟨d,e,G,q,r1,r2,c,t,f⟩;unfold uy7 at t;split at t
 ·obtain ⟨a,xs,rfl,s1,q1⟩:=r1.tup_inv
  obtain ⟨b,ys,rfl,s2,q2⟩:=r2.tup_inv;have e:∀ {bs:List D},RelDs X.K H bs []->bs=[]:=fun h=>List.eq_nil_of_length_eq_zero h.length
  refine ⟨a,b,xs,ys,rfl,rfl,s1,s2,by rw [<- q1.length,<- q2.length];exact t.1,fun z=>?_,fun _ z=>?_,fun p hp=>?_⟩
  ·refine f (.tup _) G (.ref b) _ ?_ c (Le.refl _) t.2
   rw [RelD];subst z;rw [e q1,List.nil_append];exact ⟨b,_,rfl,s2,q2⟩
  ·refine f (.tup _) G (.ref a) _ ?_ c (Le.refl _) t.2
   rw [RelD];subst z;rw [e q2,List.append_nil];exact ⟨a,_,rfl,s1,q1⟩
  ·refine f (.tup _) G (.ref p) _ ?_ (c.side hp) (Le.fresh hp) t.2
   rw [RelD];exact ⟨p,_,rfl,SqT.of u23,RelDs.le (Le.fresh hp) (q1.append q2)⟩
 ·exact t.elim
end
def sqD (G:Gp):D->Option (List D)
 | .tup ds=>some ds
 | .ref a=>u11 (G a)
 | _=>none
end L3
namespace L3
open PySem PySem.Spec PyProof.Rows L2 Rw
mutual
def outR:Rowp->List Rowp
 | .is x a=>[.is x a]
 | .op x o a b=>[.op x o a b]
 | .cho a ys ns=>[.cho a (outL ys) (outL ns)]
 | .tim k ys=>(List.replicate k (outL ys)).flatten
def outL:List Rowp->List Rowp
 | []=>[]
 | r::rs=>outR r++outL rs
end
theorem u98:∀ {a b:List Rowp},outL (a++b)=outL a++outL b
 | [],b=>rfl
 | r::a,b=>by
  show outR r++outL (a++b)=(outR r++outL a)++outL b
  rw [u98,List.append_assoc]
theorem ur7 {ys:List Rowp}:∀ k:Nat,szL (List.replicate k ys).flatten=k * szL ys
 | 0=>by simp [szL]
 | k+1=>by rw [List.replicate_succ,List.flatten_cons,uj2,ur7 k,Nat.succ_mul];omega
theorem un3 {ys:List Rowp} {d:Nat} (h:depL ys<=d):∀ k:Nat,depL (List.replicate k ys).flatten<=d
 | 0=>by simp [depL]
 | k+1=>by
  have:=un3 h k;rw [List.replicate_succ,List.flatten_cons,u65];omega
mutual
theorem uu0:∀ r:Rowp,szL (outR r)=wtR r
 | .is _ _=>rfl
 | .op _ _ _ _=>rfl
 | .cho a ys ns=>by
  have h1:=ua9 ys;have h2:=ua9 ns
  show (1+szL (outL ys)+szL (outL ns))+0=1+wtL ys+wtL ns
  omega
 | .tim k ys=>by
  show szL (List.replicate k (outL ys)).flatten=k * wtL ys
  rw [ur7,ua9 ys]
theorem ua9:∀ rs:List Rowp,szL (outL rs)=wtL rs
 | []=>rfl
 | r::rs=>by
  show szL (outR r++outL rs)=wtR r+wtL rs
  rw [uj2,uu0 r,ua9 rs]
end
mutual
theorem ve1:∀ r:Rowp,depL (outR r)<=depR r
 | .is _ _=>Nat.le_refl _
 | .op _ _ _ _=>Nat.le_refl _
 | .cho a ys ns=>by
  have h1:=u78 ys;have h2:=u78 ns
  show max (1+max (depL (outL ys)) (depL (outL ns))) 0<=1+max (depL ys) (depL ns)
  omega
 | .tim k ys=>by
  have h1:=u78 ys
  show depL (List.replicate k (outL ys)).flatten<=1+depL ys
  exact un3 (by omega) k
theorem u78:∀ rs:List Rowp,depL (outL rs)<=depL rs
 | []=>Nat.le_refl _
 | r::rs=>by
  have h1:=ve1 r;have h2:=u78 rs
  show depL (outR r++outL rs)<=max (depR r) (depL rs)
  rw [u65];omega
end
theorem ub0 (rs:List Rowp):(outL rs).length<=wtL rs:=by
 have:=um8 (outL rs);rw [ua9] at this;exact this
theorem ua8 (ys:List Rowp):∀ k:Nat,(List.replicate k (u08 ys)).flatten=u08 (List.replicate k ys).flatten
 | 0=>rfl
 | k+1=>by rw [List.replicate_succ,List.replicate_succ,List.flatten_cons,List.flatten_cons,ua8 ys k,u51]
theorem ul3:∀ {rs:List Rowp} {r:Rowp},r ∈ rs->wtR r<=wtL rs
 | s::rs,r,h=>by
  show wtR r<=wtR s+wtL rs
  rcases List.mem_cons.mp h with e | e
  ·subst e;omega
  ·have:=ul3 e;omega
mutual
def bdR:Rowp->Prop
 | .is _ _=>True
 | .op _ _ _ _=>True
 | .cho _ ys ns=>bdL ys /\ bdL ns
 | .tim k ys=>wtL ys<=10000000 /\ bdL ys /\ k<=20
def bdL:List Rowp->Prop
 | []=>True
 | r::rs=>bdR r /\ bdL rs
end
theorem uo1:∀ {rs:List Rowp} {r:Rowp},bdL rs->r ∈ rs->bdR r
 | s::rs,r,h,m=>by
  rcases List.mem_cons.mp m with e | e
  ·subst e;exact h.1
  ·exact uo1 h.2 e
theorem ug2 {a b:List D} {G:Gp} {q:DK}:uy7 (.tup a) (.tup b) G q=(a.length+b.length<=sizeLine /\ q (.tup (a++b)) G):=rfl
theorem pw (W:Nat):(1:Int) * 2 ^ W=((2 ^ W:Nat):Int):=by rw [Int.one_mul,Int.natCast_pow];rfl
theorem abc_at {x:Int} (h1:0<=x) (h2:x < 26):atI (Str.ofString "abcdefghijklmnopqrstuvwxyz").cps.toList x=some (97+x.toNat):=by
 obtain ⟨n,rfl⟩:=Int.eq_ofNat_of_zero_le h1;have hn:n < 26:=by omega
 have key:∀ n:Fin 26,(Str.ofString "abcdefghijklmnopqrstuvwxyz").cps.toList[n.val]?=some (97+n.val):=by decide
 have e:=uk5 (xs:=(Str.ofString "abcdefghijklmnopqrstuvwxyz").cps.toList) (i:=(n:Int)) h1 (by exact h2);rw [e,<- List.getElem?_eq_getElem];exact key ⟨n,hn⟩
end L3
namespace L3
open PySem L2
abbrev Gm:=Option (Bool × Int)
end L3
namespace L3
open PySem L2
theorem v40 {α:Type} {xs:List α}:cutD xs none (some (-1))=xs.dropLast:=by
 unfold cutD;have e:HT.sIx xs.length xs.length (some (-1))=xs.length - 1:=by
  unfold HT.sIx;simp only [];rw [if_pos (by decide)];omega
 rw [e,HT.sIx_none,List.drop_zero,Nat.sub_zero,List.dropLast_eq_take]
end L3
namespace L2
open PySem PySem.Spec PyProof.Rows
abbrev VM:List Value:=[.type "ValueError",.type "Exception",.type "BaseException",.type "object"]
abbrev vx7 (nm q:Str) (C N:Addr) (bs bm:List Value) (sn:List Str) (sub:List Value) (ab:Bool) (col:Option Bool) (dd:Option Addr) (k0 k1 k2 k3 k5:Option Value):Obj:=excClassObj nm q C N bs bm true sn sub ab col dd k0 k1 k2 k3 k5 "ValueError.__new__"
def xcIn (K:W.Frag) (C:Addr) (bm:List Value):Bool :=
  match K.lookup C with
  | some ⟨.type "type",_,.cls cd,sl⟩ =>
    (match cd.mro,sl.toList with
     | .ref B::r,[_,_,_,_,some (.builtin i),_]=>B == C && r == bm && i == "ValueError.__new__" && cd.hasDict && !cd.hasDel && W.tailIn K VM bm
     | _,_=>false)
  | _=>false
def XcAt (C:Addr) (bm:List Value) (h:Heap):Prop:=∃ nm q N bs sn sub ab col dd k0 k1 k2 k3 k5,h.get? C=some (vx7 nm q C N bs bm sn sub ab col dd k0 k1 k2 k3 k5)
theorem ui9 {K:W.Frag} {C:Addr} {bm:List Value} {h:Heap} (X:K.In h) (e:xcIn K C bm=true):XcAt C bm h /\ OwnTail h VM bm:=by
 unfold xcIn at e;split at e
 ·rename_i dd cd sl ho
  split at e
  ·rename_i B r k0 k1 k2 k3 i k5 hm hs
   simp only [Bool.and_eq_true,beq_iff_eq,Bool.not_eq_true'] at e;obtain ⟨⟨⟨⟨⟨rfl,rfl⟩,rfl⟩,hd⟩,hl⟩,ht⟩:=e;obtain ⟨nm,bs,mro,ns,qn,hdd,sn,sub,ab,col,del⟩:=cd;dsimp only at hm hl hd;subst hm hl hd;have hsl:sl=#[k0,k1,k2,k3,some (.builtin "ValueError.__new__"),k5]:=by
    obtain ⟨l⟩:=sl;simp only at hs;rw [hs]
   subst hsl;exact ⟨⟨nm,qn,ns,bs,sn,sub,ab,col,dd,k0,k1,k2,k3,k5,X _ _ ho⟩,W.tail_of_in X ht⟩
  ·cases e
 ·cases e
section
variable {prog:Program} {w:World} {A:Around} {E:Value->Shared->Prop} {K:W.Frag} {C fI:Addr} {bm:List Value}
theorem v98 {h:Heap} {g:Array GenState} {d:Drawn} {t:Nat} {os:OsState} {us:List Value} {Q:Fin->Shared->Prop} (X:K.In h) (hc:xcIn K C bm=true) (hi:W.findIn K (.ref C) "__init__" = some (some (.ref fI))) (hf:W.isFn K (.ref fI)=true) (hl:us.length<=sizeLine)
  (hq:∀ h' e,Heap.MadeExcOf h h' e (.ref C) us->h.objs.size<=e->wpAny (model prog w) A (call (.ref fI) (.ref e::us)) (fun r s'=>r=.none /\ Q (.done (.ret (.ref e))) s') E ⟨h',g,d,t,os⟩) :
  wpAny (model prog w) A (Builtin.«type.__call__» ⟨.ref C::us,[]⟩) Q E ⟨h,g,d,t,os⟩:=by
 obtain ⟨⟨nm,q,N,bs,sn,sub,ab,col,dd,k0,k1,k2,k3,k5,hC⟩,T⟩:=ui9 X hc;have VF:=PySem.F.excBase_ValueError;have hB:VM.contains (.type "ValueError")=true:=by decide
 repeat (first | with_reducible refine wpAny_madeBy_exc hC ?_ | with_reducible refine wpAny_loadPart_at hC ?_ | wp_step)
 refine codeAny_call_builtin_code (Code.quiet_builtin _ VF.quiet) (wpAny_check_new_subU VF hB T hC (codeAny_exc_new_subU VF hB VF T hC ?_ hl))
 show wpAny _ _ _ _ _ _
 have kk:∀ b o,h.get? b=some o->((h.push { cls:=.type "tuple",data:=.seq us.toArray }).push { cls:=.ref C,data:=.fields #[.ref h.objs.size,.none,.none,.none,.bool false,.none] }).get? b=some o:=fun b o e=>Heap.get?_push_of_some _ (Heap.get?_push_of_some _ e)
 have X1:=X.keeps kk;have hC1:=kk _ _ hC;have ge:((h.push { cls:=.type "tuple",data:=.seq us.toArray }).push { cls:=.ref C,data:=.fields #[.ref h.objs.size,.none,.none,.none,.bool false,.none] }).get? (h.objs.size+1)=some
   { cls:=.ref C,data:=.fields #[.ref h.objs.size,.none,.none,.none,.bool false,.none] }:=by heap_get
 have hcC:(Value.ref C::bm).contains (.ref C)=true:=by simp
 unfold isInstance
 repeat (first | with_reducible refine wpAny_loadPart_at ge ?_ | (with_reducible refine wpAny_isSubtype_exc hC1 ?_;rw [hcC]) | wp_step)
 show wpAny _ _ (typeLookup (.ref C) _) _ _ _
 refine (W.looks_findIn X1 hi).here (wpAny_holding (wpAny_bind ((W.bind_fn X1 _ (beq_iff_eq.mp hf)).here ?_)));refine wpAny_bind (wpAny_mono (hq _ (h.objs.size+1) ⟨kk,Heap.get?_none_of_le (Nat.le_succ _),h.objs.size,ge,Heap.get?_none_of_le (Nat.le_refl _),?_⟩ (Nat.le_succ _)) (fun r s' hr=>?_) fun _ _ x=>x)
 ·exact Heap.get?_push_of_some _ (Heap.get?_push_at rfl rfl)
 ·obtain ⟨rfl,hQ⟩:=hr
  wp_walk
  exact hQ
theorem vi2 {s:Shared} {us:List Value} {Q:Value->Shared->Prop} (X:K.In s.heap) (hc:xcIn K C bm=true) (hi:W.findIn K (.ref C) "__init__" = some (some (.ref fI))) (hf:W.isFn K (.ref fI)=true) (hl:us.length<=sizeLine)
  (hq:∀ h' e,Heap.MadeExcOf s.heap h' e (.ref C) us->s.heap.objs.size<=e->wpAny (model prog w) (A.under (.builtin "type.__call__" ⟨.ref C::us,[]⟩)) (call (.ref fI) (.ref e::us)) (fun r s'=>r=.none /\ Q (.ref e) s') E { s with heap:=h' }) :
  wpAny (model prog w) A (call (.ref C) us) Q E s:=by
 obtain ⟨⟨nm,q,N,bs,sn,sub,ab,col,dd,k0,k1,k2,k3,k5,hC⟩,T⟩:=ui9 X hc;obtain ⟨h,g,d,t,os⟩:=s;have t1:=tc_lookup;have t2:=tc_bind (.ref C);have t3:(⟨h,g,d,t,os⟩:Shared).TypeIs (.ref C) "type" := ⟨_,hC,rfl⟩;refine wpAny_call (codeAny_of_tree ?_)
 show wpAny _ _ (callAny (.ref C) _) _ _ _
 repeat (any_goals (first | assumption | with_reducible refine wpAny_loadPart_at hC ?_ | wp_step))
 exact And.intro rfl (codeAny_call_builtin_at (Code.quiet_builtin _ (by decide)) entry_typeCall (wpAny_check_type_call_sub hC (v98 X hc hi hf hl fun h' e hm le=>hq h' e hm le)))
end
structure FlyO (lim:Nat) (H:Hp) (a C:Addr) (dx:Option Addr) (h:Heap) (oe:Obj) (vs:Array Value):Prop where
 la:lim<=a
 ha:H a=none
 ge:h.get? a=some oe
 cl:oe.cls=.ref C
 di:oe.dict=dx
 da:oe.data=.fields vs
structure FlyT (lim:Nat) (H:Hp) (a T:Addr) (h:Heap) (v:Value) (oT:Obj) (ts:Array Value):Prop where
 lt:lim<=T
 ne:T ≠ a
 hT:H T=none
 gT:h.get? T=some oT
 dT:oT.data=.fields ts
 t3:ts[3]?=some v
def Fly (fl:Value->Prop) (lim:Nat) (H:Hp) (a C:Addr) (dx:Option Addr) (h:Heap):Prop :=
 ∃ oe vs T oT ts v,FlyO lim H a C dx h oe vs /\ vs[1]?=some (.ref T) /\ FlyT lim H a T h v oT ts /\ fl v
def FlyN (lim:Nat) (H:Hp) (a C:Addr) (dx:Option Addr) (h:Heap):Prop:=∃ oe vs,FlyO lim H a C dx h oe vs /\ vs[1]?=some .none
theorem Fly.imp {f g:Value->Prop} {lim:Nat} {H:Hp} {a C:Addr} {dx:Option Addr} {h:Heap} (x:Fly f lim H a C dx h) (k:∀ v,f v->g v):Fly g lim H a C dx h:=by
 obtain ⟨oe,vs,T,oT,ts,v,o,e,t,z⟩:=x;exact ⟨oe,vs,T,oT,ts,v,o,e,t,k v z⟩
theorem FlyO.low {lim lim':Nat} {H:Hp} {a C:Addr} {dx:Option Addr} {h:Heap} {oe:Obj} {vs:Array Value} (x:FlyO lim H a C dx h oe vs) (l:lim'<=lim):FlyO lim' H a C dx h oe vs:=⟨Nat.le_trans l x.la,x.ha,x.ge,x.cl,x.di,x.da⟩
theorem Fly.low {f:Value->Prop} {lim lim':Nat} {H:Hp} {a C:Addr} {dx:Option Addr} {h:Heap} (x:Fly f lim H a C dx h) (l:lim'<=lim):Fly f lim' H a C dx h:=by
 obtain ⟨oe,vs,T,oT,ts,v,o,e,t,z⟩:=x;exact ⟨oe,vs,T,oT,ts,v,o.low l,e,⟨Nat.le_trans l t.lt,t.ne,t.hT,t.gT,t.dT,t.t3⟩,z⟩
section
variable {M:Model} {A:Around} {E:Value->Shared->Prop} {s:Shared}
theorem ud5 {base:Heap} {env:Env} {outer:List Env} {L a:Addr} {oe:Obj} {vs:Array Value} {head:Value} {had:Bool} {Q:Unit->Shared->Prop}
  (hfr:A.frames=some (env::outer)) (hl:s.heap.FunFrames base (env::outer)) (hf:env.frame=some L) (ha:s.heap.get? a=some oe) (hd:oe.data=.fields vs) (hz:1 < vs.size)
  (k:∀ (h':Heap) (oT:Obj) (ts:Array Value),(∀ b o,b ≠ a->b ∉ frs (env::outer)->s.heap.get? b=some o->h'.get? b=some o)->(∀ b o,b ≠ a->s.heap.get? b=some o->∃ sl,h'.get? b=some { o with slots:=sl }) ->
   h'.get? a=some (oe.mapFields (·.setIfInBounds 1 (.ref s.heap.objs.size)))->h'.get? s.heap.objs.size=some oT->oT.data=.fields ts->ts[3]?=some (rawInt L)->Q () { s with heap:=h' }) :
  wpAny M A (do let x <- frameOf env;let pl <- entryPlaceOf L had;let b <- EntryCells.newEntry head x .none (rawInt L) .none pl;setField (.ref a) 1 b) Q E s:=by
 have na:a ∉ frs (env::outer):=fun hm=>by
  obtain ⟨_,o,ho,nf⟩:=hl.mem hm;rw [ha] at ho;cases ho;exact nf vs hd
 refine wpAny_bind (wpAny_frameOf_fun hfr hl hf fun h1 hs=>wpAny_bind (wpAny_entryPlaceOf fun pl hp=>?_));have ha1:h1.get? a=some oe:=by rw [hs.2.1 a na];exact ha
 have z1:h1.objs.size=s.heap.objs.size:=hs.1;unfold EntryCells.newEntry newFields;refine wpAny_bind (wpAny_newObj_type (wpAny_setField (Heap.get?_push_of_some _ ha1) hd hz ?_) (hp.sizeOk5 _ _ _ _ _));rw [<- z1] at k;have nT:h1.objs.size ≠ a:=Nat.ne_of_gt (Heap.lt_size ha1);have up:∀ b o,b ≠ a->h1.get? b=some o->((h1.push { cls:=.type "traceback",dict:=none,data:=.fields ([head,.ref L,.none,rawInt L,.none]++(if pl.isEmpty then List.replicate 6 Value.none else pl)).toArray }).update a (Obj.mapFields (·.setIfInBounds 1 (Value.ref h1.objs.size)))).get? b=some o :=
  fun b o n e=>(Heap.get?_update_other _ _ (Ne.symm n)).trans (Heap.get?_push_of_some _ e)
 refine k _ { cls:=.type "traceback",dict:=none,data:=.fields ([head,.ref L,.none,rawInt L,.none]++(if pl.isEmpty then List.replicate 6 Value.none else pl)).toArray } _ (fun b o n nb e=>up b o n ?_) (fun b o n e=>?_) ?_ ?_ rfl ?_
 ·rw [hs.2.1 b nb];exact e
 ·obtain ⟨sl,q⟩:=hs.2.2 b o e
  exact ⟨sl,up b _ n q⟩
 ·exact Heap.get?_update_self _ (Heap.get?_push_of_some _ ha1) (Obj.isFreed_of_fields (Obj.data_mapFields hd _))
 ·rw [Heap.get?_update_other _ _ (Ne.symm nT)]
  exact Heap.get?_push_size h1 rfl
 ·simp
end
section
variable {X:Cx} {pins:List (Addr × Obj)} {σ:St} {H:Hp} {s:Shared} {a C T:Addr} {dx:Option Addr} {lim:Nat}
theorem Inv.rec_ne (I:Inv X pins σ H s) {o:Obj} {vs:Array Value} (h:s.heap.get? a=some o) (hd:o.data=.fields vs):a ≠ X.env.locals /\ (∀ x c,X.env.cells.lookup x=some c->c ≠ a) /\ a ∉ X.fs:=by
 refine ⟨fun e=>?_,fun x c e z=>?_,fun hb=>?_⟩
 ·obtain ⟨m,⟨o',es,ep,ho,hd',_⟩,_⟩:=I.loc
  rw [<- e,h] at ho;cases ho;rw [hd] at hd';cases hd'
 ·obtain ⟨v,o',ho,hd'⟩:=I.cell x c e
  rw [z,h] at ho;cases ho;rw [hd] at hd';cases hd'
 ·obtain ⟨_,o',ho,hd'⟩:=I.funs.mem hb
  rw [h] at ho;cases ho;exact hd' vs hd
theorem Inv.noted {h':Heap} {ch:List Addr} (I:Inv X pins σ H s) (hs:X.stack=X.env::X.outer) (hf:X.env.frame=some X.env.locals) (hc:∀ b ∈ ch,X.s₀.heap.objs.size<=b /\ H b=none /\ (∀ p ∈ X.pn++pins,p.1 ≠ b) /\ (∀ o,s.heap.get? b=some o->∃ vs,o.data=.fields vs) /\ ∃ o,s.heap.get? b=some o)
  (k:∀ b o,b ∉ ch->b ∉ frs (X.env::X.outer)->s.heap.get? b=some o->h'.get? b=some o) (sl:∀ b o,b ∉ ch->s.heap.get? b=some o->∃ sl,h'.get? b=some { o with slots:=sl }):Inv X pins σ H { s with heap:=h' }:=by
 have fr:∀ b,b ∈ frs (X.env::X.outer) ↔ b=X.env.locals \/ b ∈ X.fs:=fun b=>by
  unfold Cx.fs frs;rw [List.filterMap_cons,hf];exact List.mem_cons
 have hcc:∀ b ∈ ch,b ≠ X.env.locals /\ (∀ x c,X.env.cells.lookup x=some c->c ≠ b) /\ b ∉ X.fs:=fun b hb=>by
  obtain ⟨_,_,_,f,o,e⟩:=hc b hb;obtain ⟨vs,d⟩:=f o e;exact I.rec_ne e d
 have lc:X.env.locals ∉ ch:=fun z=>(hcc _ z).1 rfl
 refine I.step (g':=s.gens) (t':=s.toks) (d':=s.drawn) (ch:=ch) (fun b hb=>⟨.inr (hc b hb).1,(hcc b hb).1,(hcc b hb).2.1,(hc b hb).2.2.1⟩) (fun b o n1 n2 n3 e n=>k b o n3 (fun z=>((fr b).mp z).elim n1 n2) e)
  (fun b o n1 n2 n3 e n=>sl b o n3 e) (fun _ _ _ _ n=>n) (fun b o n e=>let ⟨_,q⟩:=sl b o n e;⟨_,q⟩) (fun _ _ e=>e) (fun _ _ _ e=>e) (fun b ps e=>⟨#[],by rw [e];simp⟩) (fun m hm=>?_) (fun b u e=>?_) I.bare
 ·obtain ⟨o,es,ep,ho,r⟩:=hm
  obtain ⟨sl',q⟩:=sl _ o lc ho;exact ⟨_,es,ep,q,r⟩
 ·have nb:∀ c u,H c=some u->c ∉ ch /\ c ∉ frs (X.env::X.outer):=fun c u q=>by
   refine ⟨fun z=>?_,fun z=>?_⟩
   ·rw [(hc c z).2.1] at q;cases q
   ·rw [I.stkFree c (by rw [hs];exact z)] at q;cases q
  refine (I.hok b u e).stay (fun c v hc' q=>?_) (fun _ q=>q) fun _ _ q=>q
  rcases hc' with z | z
  ·subst z;exact k c v (nb c u e).1 (nb c u e).2 q
  ·exact k c v (nb c _ z).1 (nb c _ z).2 q
theorem FlyO.moved {oe oe':Obj} {vs vs':Array Value} {h h':Heap} (x:FlyO lim H a C dx h oe vs) (e:h'.get? a=some oe') (c:oe'.cls=oe.cls) (d:oe'.dict=oe.dict) (v:oe'.data=.fields vs'):FlyO lim H a C dx h' oe' vs' :=
 ⟨x.la,x.ha,e,c.trans x.cl,d.trans x.di,v⟩
theorem u50 (f:Array Value->Array Value) (o:Obj):(o.mapFields f).dict=o.dict:=by
 unfold Obj.mapFields;split <;> rfl
theorem ue5 {M:Model} {E:Value->Shared->Prop} {Q:Unit->Shared->Prop} (I:Inv X pins σ H s) (hs:X.stack=X.env::X.outer) (hf:X.env.frame=some X.env.locals) (hl:X.s₀.heap.objs.size<=lim) (hp:∀ p ∈ X.pn++pins,p.1 < lim)
  (F:FlyN lim H a C dx s.heap \/ Fly (fun v=>v=.none \/ v=rawInt X.env.locals) lim H a C dx s.heap)
  (k:∀ h',Inv X pins σ H { s with heap:=h' }->Fly (fun v=>v=rawInt X.env.locals) lim H a C dx h'->Q () { s with heap:=h' }):wpAny M X.A (noteFrame (.ref a) X.env) Q E s:=by
 have hfr:X.A.frames=some (X.env::X.outer):=by rw [<- hs];exact I.ok.frames
 have hFF:s.heap.FunFrames X.base (X.env::X.outer):=by rw [<- hs];exact I.stack
 have pn:∀ b,lim<=b->∀ p ∈ X.pn++pins,p.1 ≠ b:=fun b l p h e=>absurd (hp p h) (by rw [e];exact Nat.not_lt.mpr l)
 unfold noteFrame;simp only [hf]
 rcases F with ⟨oe,vs,o,v1⟩ | ⟨oe,vs,T,oT,ts,v,o,v1,t,fl⟩
 ·refine wpAny_bind (wpAny_field o.ge o.da v1 ?_)
  rw [if_neg (by decide)];refine ud5 hfr hFF hf o.ge o.da (Array.getElem?_eq_some_iff.mp v1).1 fun h' oT ts k1 k2 e1 e2 e3 e4=>k h' ?_ ?_
  ·refine I.noted hs hf (ch:=[a]) (fun b hb=>?_) (fun b o' n1 n2 e=>k1 b o' (by simpa using n1) n2 e) fun b o' n1 e=>k2 b o' (by simpa using n1) e
   have hb:b=a:=by simpa using hb
   subst hb;exact ⟨Nat.le_trans hl o.la,o.ha,pn b o.la,fun o' e=>by rw [o.ge] at e;cases e;exact ⟨_,o.da⟩,_,o.ge⟩
  ·refine ⟨_,_,s.heap.objs.size,oT,ts,_,o.moved e1 (Obj.cls_mapFields _ _) (u50 _ _) (Obj.data_mapFields o.da _),by simp [(Array.getElem?_eq_some_iff.mp v1).1],⟨Nat.le_trans o.la (Nat.le_of_lt (Heap.lt_size o.ge)),Nat.ne_of_gt (Heap.lt_size o.ge),I.hok.fresh (Nat.le_refl _),e2,e3,e4⟩,rfl⟩
 ·refine wpAny_bind (wpAny_field o.ge o.da v1 ?_)
  rw [if_pos (show (Value.ref T != Value.none)=true from by simp)];refine wpAny_bind (wpAny_field t.gT t.dT t.t3 ?_)
  rcases fl with rfl | rfl
  ·rw [if_neg (show ¬ ((Value.none == rawInt X.env.locals)=true) from by simp [rawInt])]
   refine wpAny_bind (wpAny_setField t.gT t.dT (Array.getElem?_eq_some_iff.mp t.t3).1 ?_);have oth:∀ b,b ≠ T->(s.heap.update T (Obj.mapFields (·.setIfInBounds 3 Value.none))).get? b=s.heap.get? b:=fun b hb=>Heap.get?_update_other _ _ (Ne.symm hb)
   have z:(s.heap.update T (Obj.mapFields (·.setIfInBounds 3 Value.none))).objs.size=s.heap.objs.size:=Heap.size_after_update ..;have nr:∀ b o',s.heap.get? b=some o'->(∀ vs,o'.data ≠ .fields vs)->b ≠ T:=fun b o' e nf q=>by rw [q,t.gT] at e;cases e;exact nf ts t.dT
   have hFF2:(s.heap.update T (Obj.mapFields (·.setIfInBounds 3 Value.none))).FunFrames X.base (X.env::X.outer):=hFF.of_keeps fun b o' e nf=>⟨o',(oth b (nr b o' e nf)).trans e,rfl⟩
   refine ud5 hfr hFF2 hf ((oth a (Ne.symm t.ne)).trans o.ge) o.da (Array.getElem?_eq_some_iff.mp v1).1 fun h' oT2 ts2 k1 k2 e1 e2 e3 e4=>k h' ?_ ?_
   ·refine I.noted hs hf (ch:=[a,T]) (fun b hb=>?_) (fun b o' n1 n2 e=>?_) fun b o' n1 e=>?_
    ·have hb:b=a \/ b=T:=by simpa using hb
     rcases hb with rfl | rfl
     ·exact ⟨Nat.le_trans hl o.la,o.ha,pn b o.la,fun o' e=>by rw [o.ge] at e;cases e;exact ⟨_,o.da⟩,_,o.ge⟩
     ·exact ⟨Nat.le_trans hl t.lt,t.hT,pn b t.lt,fun o' e=>by rw [t.gT] at e;cases e;exact ⟨_,t.dT⟩,_,t.gT⟩
    ·have n1:b ≠ a /\ b ≠ T:=by simpa using n1
     exact k1 b o' n1.1 n2 ((oth b n1.2).trans e)
    ·have n1:b ≠ a /\ b ≠ T:=by simpa using n1
     exact k2 b o' n1.1 ((oth b n1.2).trans e)
   ·have la:=Heap.lt_size o.ge
    rw [z] at e1 e2;exact ⟨_,_,s.heap.objs.size,oT2,ts2,_,o.moved e1 (Obj.cls_mapFields _ _) (u50 _ _) (Obj.data_mapFields o.da _),by simp [(Array.getElem?_eq_some_iff.mp v1).1],⟨Nat.le_trans o.la (Nat.le_of_lt la),Nat.ne_of_gt la,I.hok.fresh (Nat.le_refl _),e2,e3,e4⟩,rfl⟩
  ·rw [if_pos (show (rawInt X.env.locals == rawInt X.env.locals)=true from by simp)]
   exact wpAny_pure (k s.heap I ⟨oe,vs,T,oT,ts,_,o,v1,t,rfl⟩)
theorem u63 {M:Model} {A:Around} {E:Value->Shared->Prop} {Q:Unit->Shared->Prop} {fl:Value->Prop} {fr:Option Addr} (I:Inv X pins σ H s) (hs:X.stack=X.env::X.outer) (hf:X.env.frame=some X.env.locals) (hl:X.s₀.heap.objs.size<=lim) (hp:∀ p ∈ X.pn++pins,p.1 < lim)
  (F:Fly fl lim H a C dx s.heap) (k:∀ h',Inv X pins σ H { s with heap:=h' }->Fly (fun v=>v=fr.elim .none fun f=>rawInt f) lim H a C dx h'->Q () { s with heap:=h' }):wpAny M A (setFlight (.ref a) fr) Q E s:=by
 obtain ⟨oe,vs,T,oT,ts,v,o,v1,t,_⟩:=F;unfold setFlight;refine wpAny_bind (wpAny_field o.ge o.da v1 ?_);rw [if_pos (show (Value.ref T != Value.none)=true from by simp)];have l3:=(Array.getElem?_eq_some_iff.mp t.t3).1;refine wpAny_setField t.gT t.dT l3 (k _ ?_ ?_)
 ·refine I.noted hs hf (ch:=[T]) (fun b hb=>?_) (fun b o' n1 n2 e=>?_) fun b o' n1 e=>⟨o'.slots,?_⟩
  ·have hb:b=T:=by simpa using hb
   subst hb;exact ⟨Nat.le_trans hl t.lt,t.hT,fun p h e=>absurd (hp p h) (by rw [e];exact Nat.not_lt.mpr t.lt),fun o' e=>by rw [t.gT] at e;cases e;exact ⟨_,t.dT⟩,_,t.gT⟩
  ·exact (Heap.get?_update_other _ _ (Ne.symm (by simpa using n1))).trans e
  ·exact (Heap.get?_update_other _ _ (Ne.symm (by simpa using n1))).trans e
 ·exact ⟨oe,vs,T,_,_,_,o.moved ((Heap.get?_update_other _ _ t.ne).trans o.ge) rfl rfl o.da,v1,⟨t.lt,t.ne,t.hT,Heap.get?_update_self _ t.gT (Obj.isFreed_of_fields (Obj.data_mapFields t.dT _)),Obj.data_mapFields t.dT _,by simp [l3]⟩,rfl⟩
end
end L2
namespace L2
open PySem PySem.Spec PyProof.Rows PySem.W Builtin Builtin.ObjectAttr
theorem ud0 {K:Frag} {C:Addr} {bm:List Value} (e:xcIn K C bm=true):∃ cd,clsIn K C=some cd /\ cd.mro=.ref C::bm /\ cd.hasDict=true:=by
 unfold xcIn at e;unfold clsIn;split at e
 ·rename_i dd cd sl ho
  split at e
  ·rename_i B r k0 k1 k2 k3 i k5 hm hs
   simp only [Bool.and_eq_true,beq_iff_eq,Bool.not_eq_true'] at e;obtain ⟨⟨⟨⟨⟨rfl,rfl⟩,rfl⟩,hd⟩,hl⟩,ht⟩:=e;exact ⟨cd,by rw [ho],hm,hd⟩
  ·cases e
 ·cases e
section
variable {prog:Program} {w:World} {A:Around} {E:Value->Shared->Prop} {K:Frag} {C L x:Addr} {o:Obj} {vs:Array Value} {name:Str} {s:Shared}
theorem v63 {M:Model} {h:Heap} (X:K.In h) (hc:xcIn K C (.ref L::VM)=true) (b:Value):Looks M h (isSubtype (.ref C) b) ((Value.ref C::.ref L::VM).contains b):=by
 obtain ⟨cd,c1,c2,c3⟩:=ud0 hc;exact looks_mroIn X (by unfold mroIn;rw [c1,Option.bind_some,c2];rfl)
theorem uj1 {M:Model} {h:Heap} (hx:h.get? x=some o) (hcl:o.cls=.ref C):Looks M h (typeOf (.ref x)) (.ref C):=hcl ▸ (Looks.ld hx).andThen .now
end
section
variable {prog:Program} {w:World} {A:Around} {E:Value->Shared->Prop} {K:Frag} {C L x:Addr} {o:Obj} {vs:Array Value} {name:Str} {h:Heap} {g:Array GenState} {d:Drawn} {t:Nat} {os:OsState}
theorem uk1 {M:Model} {nv:Value} {Q:Unit->Shared->Prop} (X:K.In h) (hc:xcIn K C (.ref L::VM)=true) (hx:h.get? x=some o) (hcl:o.cls=.ref C) (hq:Q () ⟨h,g,d,t,os⟩) :
  wpAny M A (checkBuiltinCall "BaseException.__getattribute__" ⟨[.ref x,nv],[]⟩) Q E ⟨h,g,d,t,os⟩:=by
 have hT:Looks M h (isInstance (.ref x) (.type "BaseException")) true:=(uj1 hx hcl).andThen (by
  have:=v63 (M:=M) X hc (.type "BaseException")
  rwa [show (Value.ref C::.ref L::VM).contains (.type "BaseException")=true from by simp] at this)
 exact @check_slot M A E ⟨h,g,d,t,os⟩ "BaseException.__getattribute__" "BaseException" "__getattribute__" (.ref x) [nv] [] Q (by decide) (by decide) hT (PySem.F.args_bexc_ga (.ref x) nv) hq
theorem vg6 {us:List Value} {Q:Value->Shared->Prop} (X:K.In h) (hc:xcIn K C (.ref L::VM)=true) (hx:h.get? x=some o) (hcl:o.cls=.ref C) (hda:o.data=.fields vs) {t0:Addr} (h0:vs[0]?=some (.ref t0)) (hl:us.length<=sizeLine)
  (k:∀ h',(∀ b ob,b ≠ x->h.get? b=some ob->h'.get? b=some ob)->h'.get? x=some (o.mapFields (·.setIfInBounds 0 (.ref h.objs.size)))->Q .none ⟨h',g,d,t,os⟩) :
  wpAny (model prog w) A (call (.builtin "ValueError.__init__") (.ref x::us)) Q E ⟨h,g,d,t,os⟩:=by
 have VF:=PySem.F.excBase_ValueError;obtain ⟨⟨nm,q,N,bs,sn,sub,ab,col,dd,k0,k1,k2,k3,k5,hC⟩,T⟩:=ui9 X hc;refine wpAny_call (codeAny_call_builtin VF.init.plain VF.initEntry (wpAny_check_init_subU VF T hC hx hcl ?_));unfold Builtin.«BaseException.__init__»
 repeat (any_goals (first | assumption | wp_step))
 rw [hda];refine wpAny_pure ?_;rw [h0];refine wpAny_pure (wpAny_bind (wpAny_setField (Heap.get?_push_of_some _ hx) hda (Array.getElem?_eq_some_iff.mp h0).1 ?_));dsimp only
 repeat (any_goals (first | assumption | wp_step))
 refine k _ (fun b ob nb e=>?_) ?_
 ·exact (Heap.get?_update_other _ _ (Ne.symm nb)).trans (Heap.get?_push_of_some _ e)
 ·exact Heap.get?_update_self _ (Heap.get?_push_of_some _ hx) (Obj.isFreed_of_fields (Obj.data_mapFields hda _))
end
end L2
namespace L2
open PySem PySem.Spec PyProof.Rows
def XN (a C:Addr) (dx:Option Addr) (h:Heap):Prop:=∃ o vs t0,h.get? a=some o /\ o.cls=.ref C /\ o.dict=dx /\ o.data=.fields vs /\ vs[0]?=some (.ref t0) /\ vs[1]?=some .none
theorem XN.stays {a C:Addr} {dx:Option Addr}:∀ h1 h2:Heap,XN a C dx h1->(∀ o,h1.get? a=some o->h2.get? a=some o)->XN a C dx h2:=fun _ _ ⟨o,vs,t0,e,r⟩ k=>⟨o,vs,t0,k _ e,r⟩
theorem XH.stays {a C:Addr} {dx:Option Addr}:∀ h1 h2:Heap,XH a C dx h1->(∀ o,h1.get? a=some o->h2.get? a=some o)->XH a C dx h2:=fun _ _ ⟨o,vs,e,r⟩ k=>⟨o,vs,k _ e,r⟩
def del (H:Hp) (a:Addr):Hp:=fun b=>if b=a then none else H b
theorem un4 {H:Hp} {a:Addr}:del H a a=none:=by unfold del;rw [if_pos rfl]
theorem uc2 {H:Hp} {a b:Addr} (h:b ≠ a):del H a b=H b:=by unfold del;rw [if_neg h]
theorem uz1 {H:Hp} {a:Addr} {o:HO} (h:H a=some o):upd H a o=H:=by
 funext b;unfold upd;split
 ·rename_i e;rw [e,h]
 ·rfl
section
variable {X:Cx} {pins:List (Addr × Obj)} {σ:St} {H:Hp} {s:Shared}
theorem Inv.track {b:Addr} {o:HO} (I:Inv X pins σ H s) (hb:H b=none) (h1:X.s₀.heap.objs.size<=b) (hp:∀ p ∈ X.pn++pins,p.1 ≠ b) (hL:b ≠ X.env.locals) (hc:∀ x c,X.env.cells.lookup x=some c->c ≠ b)
  (ok:ObjOk X.prog X.w (upd H b o) s.heap b o):Inv X pins σ (upd H b o) s:=by
 have ne:∀ c u,H c=some u->c ≠ b:=fun c u e z=>by rw [z,hb] at e;cases e
 refine I.step (h':=s.heap) (g':=s.gens) (t':=s.toks) (d':=s.drawn) (ch:=[b]) (fun c hc'=>?_) (fun _ _ _ _ _ e _=>e) (fun _ o _ _ _ e _=>⟨o.slots,e⟩) (fun c o' n e z=>?_) (fun _ o' _ e=>⟨o',e⟩)
  (fun c xs e=>by rw [u15 (ne c _ e)];exact e) (fun c o' u e=>by rw [u15 (ne c _ e)];exact e) (fun c ps e=>⟨#[],by rw [u15 (ne c _ e),e];simp⟩) (fun _ m=>m) (fun c u e=>?_) I.bare
 ·have z:c=b:=by simpa using hc'
  subst z;exact ⟨.inr h1,hL,hc,hp⟩
 ·rw [u15 (by simpa using n)];exact z
 ·by_cases z:c=b
  ·subst z;rw [u23] at e;cases e;exact ok
  ·rw [u15 z] at e
   exact (I.hok c u e).stay (fun _ _ _ q=>q) (fun d q=>by rw [u15 (ne d _ q)];exact q) fun d xs q=>by rw [u15 (ne d _ q)];exact q
theorem Inv.untrack {b:Addr} {φ:Heap->Prop} (I:Inv X pins σ H s) (hb:H b=some (.ext φ)):Inv X pins σ (del H b) s:=by
 have ne:∀ c u,H c=some u->(∀ ψ,u ≠ .ext ψ)->c ≠ b:=fun c u e n z=>by rw [z,hb] at e;cases e;exact n _ rfl
 refine I.step (h':=s.heap) (g':=s.gens) (t':=s.toks) (d':=s.drawn) (ch:=[]) (fun c hc'=>nomatch hc') (fun _ _ _ _ _ e _=>e) (fun _ o _ _ _ e _=>⟨o.slots,e⟩) (fun c o' n e z=>?_) (fun _ o' _ e=>⟨o',e⟩)
  (fun c xs e=>by rw [uc2 (ne c _ e (by intro _ z;cases z))];exact e) (fun c o' u e=>by rw [uc2 (ne c _ e (by intro _ z;cases z))];exact e) (fun c ps e=>⟨#[],by rw [uc2 (ne c _ e (by intro _ z;cases z)),e];simp⟩) (fun _ m=>m) (fun c u e=>?_) I.bare
 ·unfold del;split
  ·rfl
  ·exact z
 ·have z:c ≠ b:=fun z=>by rw [z,un4] at e;cases e
  rw [uc2 z] at e;exact (I.hok c u e).stay (fun _ _ _ q=>q) (fun d q=>by rw [uc2 (ne d _ q (by intro _ z;cases z))];exact q) fun d xs q=>by rw [uc2 (ne d _ q (by intro _ z;cases z))];exact q
end
def v62 (K:W.Frag) (L:Addr) (t:TA):TE:=fun σ H Q=>t σ H fun vs H1=>∃ a C rest,vs=.ref a::rest /\ H1 a=some (.ext (XN a C none)) /\ xcIn K C (.ref L::VM)=true /\ rest.length<=1000 /\ Q .non H1
section
variable {X:Cx} {L:Addr} {LN f:Str} {p apos pos pos':Pos} {e o value:Expr} {es:List Expr} {t:TA} {ta tv:TE}
theorem v01 {pl:Sem Bool} (hg:Gl X LN) (hm:X.mg LN=some (.ref L)) (hsp:W.specialIn X.K (.ref L) "__getattribute__" = some (some (.builtin "type.__getattribute__"))) (hr:W.readsIn X.K L (.type "type")=true)
  (hfc:W.findCls X.K (.ref L) (.type "type") "__init__" = some (.val (.builtin "ValueError.__init__"))) (ha:PA X (e::es) t) (hdb:(LN == ("__debug__" : Str))=false:=by decide)
  (hst:starEach (e::es) X.env=(false,eval e X.env)::starEach es X.env:=by rfl) (hpl:(backTo pos (starEach es X.env)).any (·.1)=false:=by rfl)
  (ht:eval (.Call (.Attribute (.Name LN p) "__init__" apos) (e::es) [] pos) X.env=(do
   let ov <- eval (.Name LN p) X.env
   standAt apos.atName
   let (f,first) <- holding [ov] (getMethod ov "__init__" pl)
   callWith pos f first (backTo pos (starEach (e::es) X.env)) (backToKw pos (keywordEach [] X.env))):=by rfl) :
  PE X (.Call (.Attribute (.Name LN p) "__init__" apos) (e::es) [] pos) (v62 X.K L t):=by
 intro pins s σ H Q I h;refine W.methodCall_KW (pl:=pl) (ub4 I hg hm (W.method_cls I.kIn hsp (W.cls_value I.kIn hr hfc rfl ?_)) hdb) ht;have hA:=ha pos pins { s with toks:=s.toks+1 } σ H _ (I.tok _) h
 rw [hst] at hA ⊢;refine Calls.callWith_builtin (by show (false || (backTo pos (starEach es X.env)).any (·.1))=false;rw [hpl] <;> rfl) (Calls.evalArgs_plain ?_);refine thn hA ?_;rintro us s2 ⟨vs,H2,I2,r2,a,C,rest,rfl,h2,hc,hl,q⟩;obtain ⟨o,ws,t0,g1,g2,g3,g4,g5,g6⟩:=(I2.hok a _ h2).1;cases r2 with
 | cons r r' =>
  cases r;obtain ⟨hh,gg,dd,tt,oo⟩:=s2;refine vg6 I2.kIn hc g1 g2 g4 g5 (by rw [<- r'.length,sizeLine_eq];omega) fun h' k1 k2=>?_
  have d2:=Obj.data_mapFields g4 (·.setIfInBounds 0 (Value.ref hh.objs.size));have I3:=I2.write (x:=a) (e:=a) (o:=.ext (XN a C none)) (t':=tt) (by rw [h2];exact True.intro) (.inl rfl) (fun b u nb e=>k1 b u nb e) ⟨_,k2⟩
   ⟨⟨_,_,hh.objs.size,k2,(Obj.cls_mapFields _ _).trans g2,(u50 _ _).trans g3,d2,by simp [(Array.getElem?_eq_some_iff.mp g5).1],by rw [Array.getElem?_setIfInBounds_ne (by decide)];exact g6⟩,⟨_,k2⟩,XN.stays⟩
  rw [uz1 h2] at I3;exact ⟨.non,H2,I3,rfl,q⟩
end
section
variable {M:Model} {A:Around} {E:Value->Shared->Prop} {K:W.Frag} {L:Addr} {env:Env}
theorem uz6 {s:Shared} {x:Sem Value} {Q:Flow->Shared->Prop} (hh:A.handled=none) (h:wpAny M A x (fun v s1=>∃ a C o vs,v=.ref a /\ K.In s1.heap /\ xcIn K C (.ref L::VM)=true /\ s1.heap.get? a=some o /\ o.cls=.ref C /\ o.data=.fields vs /\ vs[1]?=some .none /\ E (.ref a) s1) E s) :
  wpAny M A (raiseStmt env (some x) none) Q E s:=by
 unfold raiseStmt;refine wpAny_bind (wpAny_mono h (fun v s1 h1=>?_) fun _ _ x=>x);obtain ⟨a,C,o,vs,rfl,X,hc,g1,g2,g3,g4,q⟩:=h1;obtain ⟨⟨nm,q',N,bs,sn,sub,ab,col,dd,k0,k1,k2,k3,k5,hC⟩,T⟩:=ui9 X hc;have hcB:(Value.ref C::.ref L::VM).contains (.type "BaseException")=true:=by simp
 obtain ⟨oc,od,oda,osl⟩:=o;dsimp only at g2 g3;subst g2 g3;obtain ⟨hp,g,d,tk,os⟩:=s1
 repeat (first | with_reducible refine wpAny_loadPart_at g1 ?_ | with_reducible refine wpAny_loadPart_at hC ?_ | (with_reducible refine wpAny_isSubtype_exc hC ?_;rw [hcB]) | (with_reducible refine wpAny_field g1 rfl g4 ?_) | wp_step)
 exact wpAny_raiseNew_none hh q
end
def CX1 (P:Program) (w:World):CXT:=fun outer H s E e s'=>∃ a C dx H',e=.ref a /\ s'.os=s.os /\ AllBare s'.gens /\ Un (frs outer) [] H H' s.heap s'.heap /\ HOk P w H' s'.heap /\ Fly (fun v=>v=.none) s.heap.objs.size H' a C dx s'.heap /\ E (.ref C) dx H'
def FlyIn (X:Cx) (E:XK) (e:Value) (s:Shared):Prop:=∃ σ H a C dx,e=.ref a /\ Inv X [] σ H s /\ (FlyN X.s₀.heap.objs.size H a C dx s.heap \/ Fly (fun v=>v=.none \/ v=rawInt X.env.locals) X.s₀.heap.objs.size H a C dx s.heap) /\ E (.ref C) dx H
structure Def (X:Cx):Prop where
 st:X.stack=X.env::X.outer
 fr:X.env.frame=some X.env.locals
 pn:X.pn=[]
 ex:X.ex=[]
section
variable {X:Cx} {E:XK}
theorem Def.low (D:Def X):∀ p ∈ X.pn++([]:List (Addr × Obj)),p.1 < X.s₀.heap.objs.size:=fun p h=>by rw [D.pn] at h;exact nomatch h
theorem FlyIn.own (D:Def X):PassesOwn (model X.prog X.w) X.A X.env (FlyIn X E):=by
 rintro e s ⟨σ,H,a,C,dx,rfl,I,F,q⟩;refine ue5 I D.st D.fr (Nat.le_refl _) D.low F fun h1 I1 F1=>?_
 obtain ⟨oe,vs,T,oT,ts,v,o,v1,t,fl⟩:=id F1;refine wpAny_bind (wpAny_field o.ge o.da v1 ?_);rw [if_neg (by simp)];refine u63 I1 D.st D.fr (Nat.le_refl _) D.low F1 fun h2 I2 F2=>?_
 exact ⟨σ,H,a,C,dx,rfl,I2,.inr (F2.imp fun v e=>.inr (by rw [e,D.fr];rfl)),q⟩
theorem FlyIn.leaves (D:Def X) {e:Value} {s:Shared} {E2:Value->Shared->Prop} (F:FlyIn X E e s):wpAny (model X.prog X.w) X.A (leaving X.env e) (fun _ s'=>CX1 X.prog X.w X.outer X.H₀ X.s₀ E e s') E2 s:=by
 obtain ⟨σ,H,a,C,dx,rfl,I,F,q⟩:=F;unfold leaving;refine wpAny_bind (ue5 I D.st D.fr (Nat.le_refl _) D.low F fun h1 I1 F1=>u63 I1 D.st D.fr (Nat.le_refl _) D.low F1 fun h2 I2 F2=>?_);refine ⟨a,C,dx,H,rfl,I2.os,I2.bare,?_,I2.hok,F2,q⟩;have:=I2.base;rw [D.ex] at this;exact this
theorem FlyIn.pass (D:Def X) {E3:Value->Shared->Prop} (k:∀ e s,FlyIn X E e s->E3 e s):Passes (CX1 X.prog X.w) (X.wish E3) E:=by
 rintro pins σ H s e s' I ⟨a,C,dx,H',rfl,os,ba,un,hok,F,q⟩;have I0:Inv X pins σ H s:=I.unwish;have I1:=I0.call' (ch:=[]) os un hok ba (fun b z=>nomatch z);have I2:Inv X [] σ H' s':=I1.pins_of fun p h=>absurd h (by simp)
 exact k _ _ ⟨σ,H',a,C,dx,rfl,I2,.inr ((F.low I0.sz).imp fun v e=>.inl e),q⟩
end
def u76 (C:Addr):Sp:=fun vs H Q _=>∃ a,vs=[.ref a] /\ H a=some (.ext (XN a C none)) /\ Q .non H
def uz2 (C:Addr) (E:XK):TS:=fun _ σ H=>E (.ref C) none H
structure XMk (K:W.Frag) (C L fI:Addr):Prop where
 xc:xcIn K C (.ref L::VM)=true
 init:W.findIn K (.ref C) "__init__" = some (some (.ref fI))
 fn:W.isFn K (.ref fI)=true
 kp:W.keepIn K (.ref C)=true
section
variable {X:Cx} {E:XK} {k:Nat} {C L fI:Addr} {fd:FuncData} {ps:List Str} {f x:Str} {p pos cpos:Pos} {e:Expr} {t:TA}
theorem vh3 {H:Hp} {a:Addr} {o:HO} (h:H a=none):del (upd H a o) a=H:=by
 funext c
 by_cases z:c=a
 ·subst z;rw [un4,h]
 ·rw [uc2 z,u15 z]
theorem us7 {pins:List (Addr × Obj)} {σ:St} {H:Hp} {s:Shared} {Q:Addr->Hp->Prop} {us:List Value} {vs:List V} {sp:Sp} (M:XMk X.K C L fI) (F:FnOk X.prog X.w X.K X.mg X.base CX0 k fI fd ps sp) (hr:Room (k+1) X.A) (hb:Binds X.K fd ps [])
  (I:Inv X pins σ H s) (r:Vals vs us) (hl:us.length<=sizeLine)
  (h:∀ a,H a=none->s.heap.objs.size<=a->sp (.ref a::vs) (upd H a (.ext (XN a C none))) (fun v H2=>v=.non /\ Q a H2) E0) :
  wpAny (model X.prog X.w) X.A (call (.ref C) us) (fun u s'=>∃ a H2,u=.ref a /\ s.heap.objs.size<=a /\ Inv X pins σ H2 s' /\ Q a H2) X.xe s:=by
 refine vi2 I.kIn M.xc M.init M.fn hl fun h' a hm le=>?_
 obtain ⟨t,g1,_,g2⟩:=hm.there;have I1:Inv X pins σ H { s with heap:=h' }:=I.kept (t':=s.toks) hm.keeps
 have ha:H a=none:=I.hok.fresh le;have I2:Inv X pins σ (upd H a (.ext (XN a C none))) { s with heap:=h' }:=by
  refine I1.track ha (Nat.le_trans I.sz le) (fun p hp z=>?_) (Nat.ne_of_gt (Nat.lt_of_lt_of_le I.lt le)) (fun x c e z=>?_) ⟨⟨_,_,t,g1,rfl,rfl,rfl,rfl,rfl⟩,⟨_,g1⟩,XN.stays⟩
  ·obtain ⟨e1,_⟩:=I.pin p hp
   exact absurd (Nat.lt_of_lt_of_le (Heap.lt_size e1) le) (by rw [z];exact Nat.lt_irrefl _)
  ·obtain ⟨v,oc,e1,_⟩:=I.cell x c e
   exact absurd (Nat.lt_of_lt_of_le (Heap.lt_size e1) le) (by rw [z];exact Nat.lt_irrefl _)
 have hq:=h a ha le;have r2:Vals (V.ref a::vs) (Value.ref a::us):=.cons rfl r;have hln:(Value.ref a::us++[]).length=ps.length:=by
  have z:=r2.length;rw [F.len _ _ _ _ hq] at z;rw [List.append_nil];exact z.symm
 have hbb:=hb { s with heap:=h' } (Value.ref a::us) I2.kIn hln
 rw [List.append_nil] at hbb;refine wpAny_call (codeAny_mono (F.run _ X.stack _ _ ⟨Value.ref a::us,[]⟩ (Value.ref a::us) _ _ E0 (hr.make C us []) (I2.env0.make C us []) hbb r2 hq) fun r' s' hq'=>?_);cases r' with
 | error e=>exact False.elim hq'
 | ok fl =>
  cases fl with
  | ret u =>
   obtain ⟨v,H',I3,rv,ev,q3⟩:=I2.after hq';subst ev;exact ⟨rv,a,H',rfl,le,I3,q3⟩
  | next=>exact False.elim hq'
  | brk=>exact False.elim hq'
  | cont=>exact False.elim hq'
def Flies (X:Cx) (E:XK):Prop:=∀ (pins:List (Addr × Obj)) (σ:St) (H:Hp) (s:Shared) (a C:Addr) (dx:Option Addr),Inv X pins σ H s->FlyN X.s₀.heap.objs.size H a C dx s.heap->E (.ref C) dx H->X.xe (.ref a) s
theorem ut0 (M:XMk X.K C L fI) (F:FnOk X.prog X.w X.K X.mg X.base CX0 k fI fd ps (u76 C)) (hr:Room (k+1) X.A) (hb:Binds X.K fd ps []) (hg:Gl X x) (hm:X.mg x=some (.ref C)) (hc:X.calm=true) (hx:Flies X E)
  (hdb:(x == ("__debug__" : Str))=false:=by decide):PS X (.Raise (some (.Call (.Name x p) [] [] cpos)) none pos) (uz2 C E):=by
 intro pins s σ H D I q;rw [arm_exec_Raise];refine wpAny_bind (wpAny_standAt (uz6 (K:=X.K) (L:=L) (I.ok.hd hc) (wpAny_bind ?_)));refine wpAny_Call_Name_kw (ub4 I hg hm ?_ hdb);refine W.callWith_K0 I.kIn M.kp ?_;refine thn (us7 (us:=[]) (vs:=[]) (Q:=fun a H2=>H a=none /\ H2=upd H a (.ext (XN a C none))) M F hr hb I .nil (Nat.zero_le _) fun a h0 le=>⟨a,rfl,u23,rfl,h0,rfl⟩) ?_;rintro u s2 ⟨a,H2,rfl,le,I2,z1,rfl⟩;refine wpAny_bind (wpAny_standAt (wpAny_pure ?_));obtain ⟨ob,ws,t0,g1,g2,g3,g4,g5,g6⟩:=(I2.hok a _ u23).1;refine ⟨a,C,ob,ws,rfl,I2.kIn,M.xc,g1,g2,g4,g6,?_⟩;have I3:=I2.untrack u23;rw [vh3 z1] at I3;exact hx pins σ _ s2 a C none I3 ⟨ob,ws,⟨Nat.le_trans I.sz le,z1,g1,g2,g3,g4⟩,g6⟩ q
end
end L2
namespace L3
open PySem PySem.Spec PyProof.Rows L2
abbrev XD:=Addr->List (Str × D)->Gp->Prop
abbrev Spx3:=List D->Gp->DK->XD->Prop
def FutX (K:W.Frag) (H:Hp) (r:XD) (E:XK):Prop:=∀ C fs G' dx ys H',Con K G' H'->Le H H'->XDict H' dx ys->RelPs K H' fs ys->r C fs G'->E (.ref C) dx H'
def lowX (K:W.Frag) (r:XD):XK:=fun cls dx H=>∃ C fs ys G,cls=.ref C /\ Con K G H /\ XDict H dx ys /\ RelPs K H fs ys /\ r C fs G
def u92 (K:W.Frag) (S:Spx3):Sp:=fun vs H Q E=>∃ ds G R r,RelDs K H ds vs /\ Con K G H /\ S ds G R r /\ FutE K H R Q /\ FutX K H r E
def uh6 (S:Spx3) (r:XD) (t:TA3):TE3:=fun σ G q=>t σ G fun ds G1=>∃ R,S ds G1 R r /\ ∀ d G',R d G'->q d G'
def vv9 (C:Addr) (f:Str) (r:XD) (ta:TA3):TS3:=fun _ σ G=>ta σ G fun ds G1=>match ds with | [d]=>r C [(f,d)] G1 | _=>False
def uw5 (C:Addr) (r:XD):TS3:=fun _ _ G=>r C [] G
theorem vt1 {fs ex:List Addr} {H H':Hp} {h h':Heap} (u:Un fs ex H H' h h'):Le H H':=⟨u.tups,u.frzs⟩
theorem un1 {K:W.Frag} {H:Hp} {r:XD}:FutX K H r (lowX K r):=fun C fs G dx ys H' c l z p q=>⟨C,fs,ys,G,rfl,c,z,p,q⟩
abbrev xcx (X:Cx) (r:XD):Cx:=X.wish (FlyIn X (lowX X.K r))
theorem PSs.wish {X:Cx} {E:Value->Shared->Prop} {st:List Stmt} {t:TS} (h:PSs (X.wish E) st t) (k:∀ e s,E e s->X.xe e s):PSs X st t:=fun pins s σ H D I hw =>
 wpAny_mono (h pins s σ H D (I.wish _) hw) (fun _ _ q=>q.unwish) k
section
variable {X:Cx} {r:XD}
theorem v86 (D:Def X):PassesOwn (model (xcx X r).prog (xcx X r).w) (xcx X r).A (xcx X r).env (xcx X r).xe:=FlyIn.own D
theorem ur0:Flies (xcx X r) (lowX X.K r):=fun pins σ H s a C dx I F q=>⟨σ,H,a,C,dx,rfl,(I.unwish).pins_of (fun p h=>absurd h (by simp)),.inl F,q⟩
theorem uy2 (D:Def X):Passes (CX1 X.prog X.w) (xcx X r) (lowX X.K r):=FlyIn.pass D fun _ _ z=>z
end
abbrev OkX (P:Program) (w:World) {K:W.Frag} (mg:Str->Option Value) (base:Heap) (n:Nat) {x qual:Str} {st:Stmt} {ps:List Str} (d:FnAt K x qual st ps) (S:Spx3):Prop:=FnOk P w K mg base (CX1 P w) n d.a d.fd ps (u92 K S)
section
variable {P:Program} {w:World} {K:W.Frag} {mg:Str->Option Value} {base:Heap}
theorem uf4 {CX:CXT} {N:List Str} {qual:Str} {sc:Scope} {f:Addr} {cd:Value} {A:Around} {outer:List Env} {s:Shared} {H:Hp} {E:XK}:Def (cxOf CX P w K mg base N qual sc f cd A outer s H E):=⟨rfl,rfl,rfl,rfl⟩
theorem uj9 {x qual:Str} {st:Stmt} {ps N:List Str} {k:Nat} (d:FnAt K x qual st ps) {S:Spx3} (sc:FnScope N ps (u05 st)) (hl:∀ ds G R r,S ds G R r->ds.length=ps.length) {t:XD->TS3}
  (ht:∀ (cdv:Value) (A:Around) (outer:List Env) (s:Shared) (H:Hp) (E:XK) (r:XD),Room k (A.deeper (envOfC qual (u05 st) s.heap.objs.size d.a cdv))->Ss3 (xcx (cxOf (CX1 P w) P w K mg base N qual (u05 st) d.a cdv A outer s H E) r) (u26 st) (t r))
  (hb:∀ ds G R r,S ds G R r->t r { nx:=fun _ G'=>R .non G',rt:=R } (ua7 N ds) G):OkX P w mg base (k+1) d S:=by
 obtain ⟨oc,od,dV,kV,doc,pm,an,cdv,ct,osl,e,lk,hcd⟩:=d.ex;have lk':K.lookup d.a=some ⟨oc,od,.func (W.fnOf x qual (u33 st) (u26 st) (u05 st) dV kV doc pm an cdv ct),osl⟩:=e ▸ lk;have F:FnOk P w K mg base (CX1 P w) (k+1) d.a (W.fnOf x qual (u33 st) (u26 st) (u05 st) dV kV doc pm an cdv ct) ps (u92 K S):=by
  refine vg9 lk' hcd sc (fun vs H Q E h=>?_) fun A outer s H vs Q E hr h=>?_
  ·obtain ⟨ds,G,R,r,rr,_,hS,_⟩:=h
   rw [<- rr.length];exact hl ds G R r hS
  ·obtain ⟨ds,G,R,r,rr,c,hS,f,fx⟩:=h
   have fin:=PSs.wish (show PSs _ _ _ from ht cdv A outer s H E r hr) fun e s' hf=>by
    refine wpAny_mono (FlyIn.leaves uf4 hf) (fun _ s'' hq=>?_) fun _ _ z=>z
    obtain ⟨a,C,dx,H',e1,e2,e3,un,e4,e5,C',fs,ys,G',z1,z2,z3,z4,z5⟩:=hq;cases z1;exact ⟨a,_,dx,H',e1,e2,e3,un,e4,e5,fx _ fs G' dx ys H' z2 (vt1 un) z3 z4 z5⟩
   refine ⟨_,fin,ua7 N ds,G,_,ud2 rr,c,hb ds G R r hS,fun σd' G' σ' H' _ c' l' q=>?_,f,fun _ _ _ _ _ _ _ q=>q.elim,fun _ _ _ _ _ _ _ q=>q.elim⟩;exact f .non G' .non H' RelD.nonI c' l' q
 have F2:=F;rw [<- e] at F2;exact F2
end
section
variable {X:Cx} {r:XD} {e:Expr} {es:List Expr} {p pos cpos:Pos} {ta:TE3} {ts:TA3} {k:Nat} {S:Spx3} {x qual f:Str} {st:Stmt} {ps ps':List Str} {C L fI:Addr} {fd:FuncData}
theorem uh1 {K:W.Frag} {σ:L2.St} {H:Hp} {Q:VK} {t:TA3} (h:lowE K (uh6 S r t) σ H Q):va1 (u92 K S) [] (lowX K r) (lowA K t) σ H Q:=by
 obtain ⟨σd,G,q,rs,c,t,f⟩:=h;refine ⟨σd,G,_,rs,c,t,fun ds G1 vs H1 r1 c1 l1 ⟨R,s1,t1⟩=>⟨ds,G1,R,r,?_,c1,s1,fun d G2 v H2 r2 c2 l2 t2=>f d G2 v H2 r2 c2 (l1.trans l2) (t1 d G2 t2),un1⟩⟩;rw [List.append_nil];exact r1
theorem ecX (D:Def X) (d:FnAt X.K x qual st ps) (hm:X.mg x=some (.ref d.a)) (G:FnOk X.prog X.w X.K X.mg X.base (CX1 X.prog X.w) k d.a d.fd ps (u92 X.K S)) (hr:Room k X.A) (ha:A3 (xcx X r) (e::es) ts) (hg:Gl X x:=by rfl) (hdb:(x == ("__debug__" : Str))=false:=by decide)
  (he:starEach (e::es) X.env=(false,eval e X.env)::starEach es X.env:=by rfl) (hpl:(backTo pos (starEach es X.env)).any (·.1)=false:=by rfl):E3 (xcx X r) (.Call (.Name x p) (e::es) [] pos) (uh6 S r ts) :=
 u37 (uj4 (X:=xcx X r) G hr hg hm d.kp d.b .nil (uy2 D) ha hdb he hpl) fun _ _ _=>uh1
theorem ul6 (M:XMk X.K C L fI) (F:FnOk X.prog X.w X.K X.mg X.base CX0 k fI fd ps (u76 C)) (hr:Room (k+1) X.A) (hb:Binds X.K fd ps []) (hm:X.mg x=some (.ref C)) (hc:X.calm=true:=by rfl) (hg:Gl X x:=by rfl)
  (hdb:(x == ("__debug__" : Str))=false:=by decide):S3 (xcx X r) (.Raise (some (.Call (.Name x p) [] [] cpos)) none pos) (uw5 C r) :=
 ug3 (ut0 (X:=xcx X r) M F hr hb hg hm hc ur0 hdb) fun D σ H h=>by
  obtain ⟨σd,G,d,rs,c,t,fd⟩:=h;exact ⟨C,[],[],G,rfl,c,rfl,.nil,t⟩
end
structure XBase (K:W.Frag) (L:Addr):Prop where
 sp:W.specialIn K (.ref L) "__getattribute__" = some (some (.builtin "type.__getattribute__"))
 rd:W.readsIn K L (.type "type")=true
 fc:W.findCls K (.ref L) (.type "type") "__init__" = some (.val (.builtin "ValueError.__init__"))
structure XAttr (K:W.Frag) (C:Addr) (f:Str):Prop where
 sa:W.findIn K (.ref C) "__setattr__" = some (some (.builtin "object.__setattr__"))
 na:W.findIn K (.ref C) f=some none
 ga:W.findIn K (.ref C) "__getattribute__" = some (some (.builtin "BaseException.__getattribute__"))
 gt:W.findIn K (.ref C) "__getattr__" = some none
section
variable {P:Program} {w:World} {K:W.Frag} {mg:Str->Option Value} {base:Heap} {C L:Addr} {f v qual:Str} {st:Stmt} {k:Nat}
theorem uq9 (d:FnAt K "__init__" qual st ["self"]) (sc:FnScope ["self"] ["self"] (u05 st)) (hc:xcIn K C (.ref L::VM)=true)
  (ht:∀ (cdv:Value) (A:Around) (outer:List Env) (s:Shared) (H:Hp) (E:XK),PSs (cxOf CX0 P w K mg base ["self"] qual (u05 st) d.a cdv A outer s H E).nox (u26 st) (v99 (v62 K L (va0 (tVar 0) tNil)))) :
  FnOk P w K mg base CX0 (k+1) d.a d.fd ["self"] (u76 C):=by
 obtain ⟨oc,od,dV,kV,doc,pm,an,cdv,ct,osl,e,lk,hcd⟩:=d.ex;have lk':K.lookup d.a=some ⟨oc,od,.func (W.fnOf "__init__" qual (u33 st) (u26 st) (u05 st) dV kV doc pm an cdv ct),osl⟩:=e ▸ lk;have F:FnOk P w K mg base CX0 (k+1) d.a (W.fnOf "__init__" qual (u33 st) (u26 st) (u05 st) dV kV doc pm an cdv ct) ["self"] (u76 C):=by
  refine vg9 lk' hcd sc (fun vs H Q E h=>?_) fun A' outer s H vs Q E hr h=>⟨_,(ht cdv A' outer s H E).nox,?_⟩
  ·obtain ⟨a,rfl,_⟩:=h;rfl
  ·obtain ⟨a,rfl,ha,q⟩:=h
   exact ⟨.ref a,rfl,a,C,[],rfl,ha,hc,by simp,q⟩
 have F2:=F;rw [<- e] at F2;exact F2
end
def w12 (K:W.Frag) (L:Addr) (ta:TE3) (f:Str):TE3:=fun σ G q=>ta σ G fun x G1=>match x with
 | .ref a=>(match G1 a with
  | some (.exc C fs)=>xcIn K C (.ref L::VM)=true /\ XAttr K C f /\ (match fs.lookup f with | some d=>q d G1 | none=>False)
  | _=>False)
 | _=>False
def mkd (X:Cx) (a:Addr):Cx:={ X with A:=X.A.mark (some (.ref a)),calm:=false }
section
variable {X:Cx} {pins:List (Addr × Obj)} {σ:L2.St} {H:Hp} {s:Shared} {a:Addr}
theorem vp7 (k:X.Ok):(mkd X a).Ok:=⟨k.mod,k.kind,k.glob,k.blt,k.above,k.inj,k.has,k.cab,(fun z=>nomatch z),k.frames,k.stk,k.exf,k.bs,k.bsz,k.noex,k.exfs,k.funs,k.frf⟩
theorem Inv.mkd (I:Inv X pins σ H s):Inv (mkd X a) pins σ H s:=⟨vp7 I.ok,I.os,I.bare,I.base,I.loc,I.cell,I.free,I.freeC,I.pin,I.hok,I.len⟩
theorem Inv.unmkd (I:Inv (L3.mkd X a) pins σ H s) (k:X.Ok):Inv X pins σ H s:=⟨k,I.os,I.bare,I.base,I.loc,I.cell,I.free,I.freeC,I.pin,I.hok,I.len⟩
theorem SP.unmkd {D:Ends} {f:Flow} (h:SP (L3.mkd X a) pins D f s) (k:X.Ok):SP X pins D f s:=by
 cases f with
 | next=>obtain ⟨σ',H',I,q⟩:=h;exact ⟨σ',H',Inv.unmkd I k,q⟩
 | brk=>obtain ⟨σ',H',I,q⟩:=h;exact ⟨σ',H',Inv.unmkd I k,q⟩
 | cont=>obtain ⟨σ',H',I,q⟩:=h;exact ⟨σ',H',Inv.unmkd I k,q⟩
 | ret u=>obtain ⟨v,σ',H',I,r,q⟩:=h;exact ⟨v,σ',H',Inv.unmkd I k,r,q⟩
theorem Inv.names {h':Heap} {m':Str->Option Value} {σ':L2.St} {t':Nat} (I:Inv X pins σ H s) (hn:h'.Ns X.env.locals m') (sb:Heap.SameBut X.env.locals s.heap h') (hl:σ'.length=σ.length)
  (k:∀ m,s.heap.Ns X.env.locals m->(∀ (i:Nat) (x:Str) (v:V),X.N[i]?=some x->σ[i]?=some (some v)->Vis X.env.scope x->∃ u,RelV v u /\ Look X.env s.heap m x u) ->
   ∀ (i:Nat) (x:Str) (v:V),X.N[i]?=some x->σ'[i]?=some (some v)->Vis X.env.scope x->∃ u,RelV v u /\ Look X.env s.heap m' x u):Inv X pins σ' H { s with heap:=h',toks:=t' }:=by
 obtain ⟨m,hm,lk⟩:=id I.loc;obtain ⟨oL,_,_,hoL,_⟩:=id hm;have nb:∀ b o,X.s₀.heap.get? b=some o->b ≠ X.env.locals:=fun b o e=>Nat.ne_of_lt (Nat.lt_of_lt_of_le (Heap.lt_size e) I.ok.above)
 refine ⟨I.ok,I.os,I.bare,⟨fun b o e n hb hx=>?_,fun b o e n hb hx=>?_,I.base.free,fun b o e hx=>?_,I.base.tups,I.base.frzs,I.base.tbls⟩,⟨m',hn,fun j y v e1 e2 e3=>?_⟩,fun y c e=>?_,I.free,I.freeC,fun p hp=>?_,fun b ob e=>?_,hl.trans I.len⟩
 ·exact (sb.2 b (nb b o e)).trans (I.base.keep b o e n hb hx)
 ·obtain ⟨sl,e1⟩:=I.base.slot b o e n hb hx
  exact ⟨sl,(sb.2 b (nb b o e)).trans e1⟩
 ·obtain ⟨o',e1⟩:=I.base.there b o e hx
  exact ⟨o',(sb.2 b (nb b o e)).trans e1⟩
 ·obtain ⟨u,r,l⟩:=k m hm lk j y v e1 e2 e3
  refine ⟨u,r,?_⟩
  rcases l with l | ⟨z,c,e,q⟩
  ·exact .inl l
  ·exact .inr ⟨z,c,e,q.sameBut sb (I.cne y c e)⟩
 ·obtain ⟨v,q⟩:=I.cell y c e
  exact ⟨v,q.sameBut sb (I.cne y c e)⟩
 ·obtain ⟨e,n,ne,nf,d⟩:=I.pin p hp
  exact ⟨(sb.2 p.1 ne).trans e,n,ne,nf,d⟩
 ·refine (I.hok b ob e).stay (fun c w' hc q=>(sb.2 c ?_).trans q) (fun _ q=>q) fun _ _ q=>q
  rintro rfl
  rcases hc with rfl | hc
  ·rw [I.free] at e;cases e
  ·rw [I.free] at hc;cases hc
theorem u79 {M:Model} {A:Around} {E:Value->Shared->Prop} {i:Nat} {n:Str} {pos:Pos} {Q:Unit->Shared->Prop} (I:Inv X pins σ H s) (hN:X.N.Nodup) (hi:X.N[i]?=some n) (hl:X.env.scope.names.lookup n=some .local)
  (k:∀ s',Inv X pins (σ.set i none) H s'->Q () s'):wpAny M A (do bindName X.env n .none;unbindBehindTheSuite X.env n pos) Q E s:=by
 have hp:(X.env.scope.kind == .class || (X.env.scope.kind == .module && X.env.locals != X.env.globals))=false:=by rw [I.ok.kind];rfl
 have hk:X.env.kindOf n=some .local:=hl;refine wpAny_bind (wpAny_bindName (u75 (v:=.non) (u:=.none) I hN hi (.inl hl) rfl (fun s1 I1=>?_) (.inr hl)));have hiσ:i < σ.length:=by rw [I.len];exact (List.getElem?_eq_some_iff.mp hi).1
 obtain ⟨m,hm,lk⟩:=id I1.loc;unfold unbindBehindTheSuite;refine wpAny_onRaise ?_;unfold unbindName;refine wpAny_bind (wpAny_point (wpAny_bind ?_));unfold deleteName;simp only [hk,hp];rw [if_neg (by decide)];have there:(m n).isSome=true:=by
  obtain ⟨u,ru,l⟩:=lk i n .non hi (by rw [List.getElem?_set_self hiσ]) (.inl hl)
  rcases l with ⟨_,e⟩ | ⟨z,_⟩
  ·rw [e];rfl
  ·rw [hk] at z;rcases z with z | z <;> cases z
 refine wpAny_bind (wpAny_nsDel_keeps hm fun h2 v0 hn2 sb=>?_);rw [there];simp only [Bool.not_true,Bool.false_eq_true,if_false];refine wpAny_pure (wpAny_point (k { s1 with heap:=h2 } ?_));refine Inv.names (t':=s1.toks) I1 hn2 sb (by simp) fun m0 hm0 lk0 j y v e1 e2 e3=>?_
 by_cases hj:j=i
 ·subst hj
  rw [List.getElem?_set_self hiσ] at e2;cases e2
 ·rw [List.getElem?_set_ne (Ne.symm hj)] at e2
  obtain ⟨u,ru,l⟩:=lk j y v e1 (by rw [List.getElem?_set_ne (Ne.symm hj)];exact e2) e3;refine ⟨u,ru,?_⟩
  rcases l with ⟨z,e⟩ | l
  ·refine .inl ⟨z,?_⟩
   have ny:y ≠ n:=fun e=>hj (ue6 hN e1 (e ▸ hi))
   show (if y=n then v0 else m y)=some u
   rw [if_neg ny];exact e
  ·exact .inr l
end
def XP (X:Cx) (pins:List (Addr × Obj)) (σ:L2.St) (H:Hp) (r:XD) (e:Value) (s':Shared):Prop:=∃ H1 s1,Inv X pins σ H1 s1 /\ Le H H1 /\ CX1 X.prog X.w X.stack H1 s1 (lowX X.K r) e s'
def E3X (X:Cx) (e:Expr) (t:XD->TE3):Prop:=∀ (pins:List (Addr × Obj)) (s:Shared) (σ:L2.St) (H:Hp) (Q:VK) (r:XD),Inv X pins σ H s->lowE X.K (t r) σ H Q->wpAny (model X.prog X.w) X.A (eval e X.env) (EP X pins σ Q) (XP X pins σ H r) s
def PB (X:Cx) (st:List Stmt) (t:XD->TS3):Prop:=∀ (pins:List (Addr × Obj)) (s:Shared) (σ:L2.St) (H:Hp) (D:Ends) (r:XD),Inv X pins σ H s->lowS X.K (t r) D σ H->wpAny (model X.prog X.w) X.A (execs st X.env) (SP X pins D) (XP X pins σ H r) s
section
variable {X:Cx} {e c:Expr} {es:List Expr} {p pos:Pos} {ts:TA3} {k:Nat} {S:Spx3} {x qual:Str} {st:Stmt} {ps:List Str} {t:XD->TE3} {tc:TT3} {a b:List Stmt} {ta tb:XD->TS3}
theorem XP.le {pins:List (Addr × Obj)} {σ:L2.St} {H H1:Hp} {r:XD} {e:Value} {s':Shared} (h:XP X pins σ H1 r e s') (l:Le H H1):XP X pins σ H r e s':=by
 obtain ⟨H2,s1,I,l2,q⟩:=h;exact ⟨H2,s1,I,l.trans l2,q⟩
theorem vd9 (h:E3X X e t) (hs:swapsWith e none pos.line X.env=pure false:=by rfl):PB X [.Expr e pos] (fun r=>up9 (t r)):=by
 intro pins s σ H D r I hw;refine wpAny_execs_cons (wpAny_Expr_any (thn (h pins s σ H (fun _ H1=>D.nx σ H1) r I (um7 hw)) ?_) I.quiet hs);rintro v s1 ⟨y,H1,I1,r1,q1⟩;exact wpAny_execs_nil ⟨σ,H1,I1,q1⟩
end
def isX (C L C2:Addr):Bool:=decide (C2=C \/ C2=L)
def H3 (X:Cx) (hs:List ExceptHandler) (th:Addr->List (Str × D)->TS3):Prop :=
 ∀ (pins:List (Addr × Obj)) (s:Shared) (σ:L2.St) (H:Hp) (D:Ends) (a C:Addr) (dx:Option Addr) (ys:List (Str × V)) (fs:List (Str × L3.D)) (lim:Nat),Inv X pins σ H s->X.s₀.heap.objs.size<=lim->(∀ p ∈ X.pn++pins,p.1 < lim) ->
  Fly (fun v=>v=.none) lim H a C dx s.heap->XDict H dx ys->RelPs X.K H fs ys->lowS X.K (th C fs) D σ H->wpAny (model X.prog X.w) X.A (handleBy (.ref a) X.env hs) (SP X pins D) X.xe s
def vw2 (K:W.Frag) (L C2:Addr) (i:Nat) (ts:TS3) (th:Addr->List (Str × D)->TS3):Addr->List (Str × D)->TS3:=fun C fs E σ G=>xcIn K C (.ref L::VM)=true /\
 if isX C L C2=true then ∀ a,G a=none->ts { E with nx:=fun σ' G'=>E.nx (σ'.set i none) G',bk:=fun σ' G'=>E.bk (σ'.set i none) G',ct:=fun σ' G'=>E.ct (σ'.set i none) G' } (σ.set i (some (.ref a))) (gup G a (.exc C fs)) else th C fs E σ G
def vw1 (K:W.Frag) (L C2:Addr) (ts:TS3) (th:Addr->List (Str × D)->TS3):Addr->List (Str × D)->TS3:=fun C fs E σ G=>xcIn K C (.ref L::VM)=true /\
 if isX C L C2=true then ts E σ G else th C fs E σ G
def uw6:Addr->List (Str × D)->TS3:=fun _ _ _ _ _=>False
def dTry (tb:XD->TS3) (th:Addr->List (Str × D)->TS3):TS3:=fun E σ G=>tb (fun C fs G'=>th C fs E σ G') E σ G
theorem w09 {X:Cx}:H3 X [] uw6:=fun _ _ _ _ _ _ _ _ _ _ _ _ _ _ _ _ _ h=>by
 obtain ⟨_,_,_,_,_,z,_⟩:=h;exact z.elim
section
variable {M:Model} {A:Around} {E:Value->Shared->Prop} {K:W.Frag} {C L C2 a:Addr} {bm:List Value} {o:Obj}
theorem v07 {s:Shared} {Q:Bool->Shared->Prop} (X:K.In s.heap) (c2:xcIn K C2 bm=true) (hb:bm.contains (.type "BaseException")=true) (hc:xcIn K C (.ref L::VM)=true) (hx:s.heap.get? a=some o) (hcl:o.cls=.ref C) (q:Q (isX C L C2) s) :
  wpAny M A (excMatches (.ref a) (.ref C2)) Q E s:=by
 obtain ⟨⟨nm,q',N,bs,sn,sub,ab,col,dd,k0,k1,k2,k3,k5,hC2⟩,_⟩:=ui9 X c2;have hcB:(Value.ref C2::bm).contains (.type "BaseException")=true:=by rw [List.contains_cons,hb,Bool.or_true]
 have e1:(Value.ref C::.ref L::VM).contains (.ref C2)=isX C L C2:=by
  unfold isX VM;rw [Bool.eq_iff_iff,List.contains_iff_mem];simp
 obtain ⟨h,g,d,t,os⟩:=s;have T:=uj1 (M:=M) hx hcl;have S1:=v63 (M:=M) X hc (.ref C2);rw [e1] at S1;have S2:isSubtype (.type "type") (.type "tuple")=pure false:=PySem.F.notTuple_ValueError;unfold excMatches
 repeat (any_goals (first | assumption | with_reducible refine wpAny_loadPart_at hC2 ?_ | (with_reducible refine wpAny_isSubtype_exc hC2 ?_;rw [hcB]) | with_reducible refine W.Looks.at (by assumption) ?_ | wp_step))
 generalize isX C L C2=b at q ⊢;cases b <;> (wp_walk;exact q)
end
theorem RelSt.unset {K:W.Frag} {H:Hp} {σd:DSt} {σ:L2.St} (h:RelSt K H σd σ) (i:Nat):RelSt K H (σd.set i none) (σ.set i none):=by
 refine ⟨by rw [List.length_set,List.length_set];exact h.1,fun j d q=>?_⟩
 by_cases hj:i=j
 ·subst hj
  rw [List.getElem?_set] at q;simp at q
 ·rw [List.getElem?_set_ne hj] at q ⊢
  exact h.2 j d q
section
variable {X:Cx} {np pos:Pos} {c n:Str} {C2:Addr} {bm:List Value} {b₀:Stmt} {suite:List Stmt} {rest:List ExceptHandler} {ts:TS3} {th:Addr->List (Str × D)->TS3}
theorem v78 {f:Value->Prop} {lim:Nat} {H:Hp} {a C:Addr} {dx:Option Addr} {h:Heap} (F:Fly f lim H a C dx h):∃ o vs,h.get? a=some o /\ o.cls=.ref C /\ o.dict=dx /\ o.data=.fields vs /\ lim<=a /\ H a=none:=by
 obtain ⟨oe,vs,T,oT,ts,v,o,_⟩:=F;exact ⟨oe,vs,o.ge,o.cl,o.di,o.da,o.la,o.ha⟩
theorem h_as {K:W.Frag} (L:Addr) (i:Nat) (hm:X.mg c=some (.ref C2)) (c2:xcIn K C2 bm=true) (hb:bm.contains (.type "BaseException")=true) (hN:X.N.Nodup) (hsu:∀ a,Ss3 (mkd X a) (b₀::suite) ts) (hr:H3 X rest th)
  (hi:X.N[i]?=some n:=by rfl) (hl:X.env.scope.names.lookup n=some .local:=by rfl) (hg:Gl X c:=by rfl) (hdb:(c == ("__debug__" : Str))=false:=by decide) (hn:∀ e s,¬ X.xe e s:=by exact fun _ _ z=>z) (Df:Def X:=by exact ⟨rfl,rfl,rfl,rfl⟩) (hK:X.K=K:=by rfl):H3 X (.ExceptHandler (some (.Name c np)) (some n) (b₀::suite) pos::rest) (vw2 K L C2 i ts th):=by
 subst hK;intro pins s σ H D a C dx ys fs lim I hlim hp F hx hf h;obtain ⟨σd,G,d,rs,cc,⟨hc,t⟩,f⟩:=h;obtain ⟨o,vs,g1,g2,g3,g4,la,ha⟩:=v78 F;refine wpAny_handleBy_cons (codeAny_handlers_test ?_) (by intro q;cases q);refine wpAny_mono (ub4 (X:=mkd X a) (E:=fun _ _=>False) (Inv.mkd I) hg hm ?_ hdb) (fun _ _ z=>z) fun _ _ z=>z.elim
 refine wpAny_mono (v07 (E:=fun _ _=>False) I.kIn c2 hb hc g1 g2 ?_) (fun _ _ z=>z) fun _ _ z=>z.elim
 by_cases hX:isX C L C2=true
 ·rw [if_pos hX] at t ⊢
  refine codeAny_handlers_suite_as ?_;refine u63 I Df.st Df.fr hlim hp F fun h2 I2 F2=>?_
  obtain ⟨o2,vs2,e1,e2,e3,e4,_,_⟩:=v78 F2;obtain ⟨n1,n2,n3⟩:=I2.rec_ne e1 e4;have hpa:∀ p ∈ X.pn++pins,p.1 ≠ a:=fun p h e=>absurd (hp p h) (by rw [e];exact Nat.not_lt.mpr la)
  have I3:=I2.track (b:=a) (o:=.ext (XH a C dx)) ha (Nat.le_trans hlim la) hpa n1 n2 ⟨⟨o2,vs2,e1,e2,e3,e4⟩,⟨_,e1⟩,XH.stays⟩;have l3:Le H (upd H a (.ext (XH a C dx))):=Le.fresh ha;have c3:Con X.K (gup G a (.exc C fs)) (upd H a (.ext (XH a C dx))):=cc.put l3 ⟨dx,ys,u23,hx.le l3,hf.le l3⟩;refine wpAny_mono (u75 (X:=mkd X a) (v:=.ref a) (E:=fun _ _=>False) (Inv.mkd (a:=a) I3) hN hi (.inl hl) rfl (fun s4 I4=>?_) (.inr hl)) (fun _ _ z=>z) fun _ _ z=>z.elim
  have low:lowS X.K ts { D with nx:=fun σ' H'=>D.nx (σ'.set i none) H',bk:=fun σ' H'=>D.bk (σ'.set i none) H',ct:=fun σ' H'=>D.ct (σ'.set i none) H' } (σ.set i (some (.ref a))) (upd H a (.ext (XH a C dx))) :=
   ⟨σd.set i (some (.ref a)),_,_,(rs.le l3).set i RelD.refI,c3,t a (cc.fresh ha),(fun x1 x2 x3 x4 r1 r2 r3 q=>f.nx _ _ _ _ (r1.unset i) r2 (l3.trans r3) q),f.rt.le l3,(fun x1 x2 x3 x4 r1 r2 r3 q=>f.bk _ _ _ _ (r1.unset i) r2 (l3.trans r3) q),fun x1 x2 x3 x4 r1 r2 r3 q=>f.ct _ _ _ _ (r1.unset i) r2 (l3.trans r3) q⟩
  refine wpAny_mono (hsu a pins s4 _ _ _ I4 low) (fun fl s5 q5=>?_) fun e s' z=>(hn e s' z).elim
  have q6:=SP.unmkd q5 I.ok;cases fl with
  | next=>obtain ⟨σ6,H6,I6,q6⟩:=q6;exact u79 I6 hN hi hl fun s7 I7=>⟨_,H6,I7,q6⟩
  | brk=>obtain ⟨σ6,H6,I6,q6⟩:=q6;exact u79 I6 hN hi hl fun s7 I7=>⟨_,H6,I7,q6⟩
  | cont=>obtain ⟨σ6,H6,I6,q6⟩:=q6;exact u79 I6 hN hi hl fun s7 I7=>⟨_,H6,I7,q6⟩
  | ret u=>obtain ⟨v,σ6,H6,I6,r6,q6⟩:=q6;exact u79 I6 hN hi hl fun s7 I7=>⟨v,_,H6,I7,r6,q6⟩
 ·rw [if_neg hX] at t
  rw [if_neg hX];exact hr pins s σ H D a C dx ys fs lim I hlim hp F hx hf ⟨σd,G,d,rs,cc,t,f⟩
theorem vz1 {h₀:ExceptHandler} {hs:List ExceptHandler} {body:List Stmt} {tb:XD->TS3} (pb:PB X body tb) (hh:H3 X (h₀::hs) th) (Df:Def X:=by exact ⟨rfl,rfl,rfl,rfl⟩):S3 X (.Try body (h₀::hs) [] [] pos) (dTry tb th):=by
 intro pins s σ H D I h;obtain ⟨σd,G,d,rs,cc,t,f⟩:=h;refine wpAny_Try_except (wpAny_mono (pb pins s σ H D (fun C fs G'=>th C fs d σd G') I ⟨σd,G,d,rs,cc,t,f⟩) (fun fl s1 q=>?_) fun e s1 hx=>?_)
 ·cases fl with
  | next=>exact wpAny_execs_nil q
  | ret v=>exact q
  | brk=>exact q
  | cont=>exact q
 ·obtain ⟨H1,s0,I1,l1,a,C,dx,H2,rfl,os,ba,un,hok,F,C',fs,ys,G2,z1,c2,x2,p2,q⟩:=hx
  cases z1;have I2:=I1.call' (ch:=[]) os un hok ba (fun b z=>nomatch z);have hp:∀ p ∈ X.pn++pins,p.1 < s0.heap.objs.size:=fun p h=>Heap.lt_size (I1.pin p h).1
  have l2:=l1.trans (vt1 un);refine ue5 I2 Df.st Df.fr I1.sz hp (.inr (F.imp fun v e=>.inl e)) fun h3 I3 F3=>u63 I3 Df.st Df.fr I1.sz hp F3 fun h4 I4 F4=>?_
  exact hh pins _ σ H2 D a _ dx ys fs _ I4 I1.sz hp F4 x2 p2 ⟨σd,G2,d,rs.le l2,c2,q,f.le l2⟩
end
end L3
namespace L2
open PySem PySem.Spec PyProof.Rows PySem.W
section
variable {prog:Program} {w:World} {A:Around} {E:Value->Shared->Prop} {K:Frag} {C C2 L x:Addr} {o:Obj} {vs:Array Value}
theorem uq0:specialIn K (.builtin "object.__class__") "__get__" = some (some (.builtin "getset_descriptor.__get__")):=by kernel_rfl
theorem ux0:takesIn K (.builtin "object.__class__")=some true:=by kernel_rfl
theorem un9 {od:Option Obj} {s:Shared} {Q:Option Value->Shared->Prop} (X:K.In s.heap) (hc:xcIn K C (.ref L::VM)=true) (hga:findIn K (.ref C) "__getattribute__" = some (some (.builtin "BaseException.__getattribute__"))) (hgt:findIn K (.ref C) "__getattr__" = some none)
  (hcc:findIn K (.ref C) "__class__" = some (some (.builtin "object.__class__"))) (I:InstAt s.heap x o C od) (hq:Q (some (.ref C)) { s with toks:=s.toks+1 }):wpAny (model prog w) A (getAttr? (.ref x) "__class__") Q E s:=by
 have GA:=PySem.F.attr_ValueError.ga;obtain ⟨cd,c1,c2,c3⟩:=ud0 hc;have hf:findObj K C od "__class__" = some (.bind (.builtin "getset_descriptor.__get__") (.builtin "object.__class__")):=by
  unfold findObj;rw [c1,Option.bind_some,hcc,Option.bind_some];dsimp only;rw [uq0,Option.bind_some];dsimp only;rw [ux0,Option.bind_some]
 have hm:mroIn K C (.type "object")=some true:=by unfold mroIn;rw [c1,Option.bind_some,c2];rfl
 obtain ⟨h,g,d,t,os⟩:=s;have T:=I.type (M:=model prog w);have L1:=looks_findIn (M:=model prog w) X hga;have L2:=looks_findIn (M:=model prog w) X hgt;have L3:=looks_find (M:=model prog w) X I hf;have f3:=GA.bind (.ref x);have hx2:(Value.builtin "BaseException.__getattribute__" == Value.builtin "object.__getattribute__")=false:=by decide
 have hx1:(onTheHeap (Value.ref C) && Value.builtin "BaseException.__getattribute__" == Value.builtin "object.__getattribute__")=false:=by rw [hx2];rfl
 unfold getAttr? getAttrBy? getAttrBy
 repeat (any_goals (first | assumption | with_reducible refine Looks.at (by assumption) ?_ | wp_step))
 refine codeAny_call_builtin GA.plain PySem.F.entry_bexc_ga (uk1 X hc I.at_ I.cls ?_)
 show wpAny _ _ (Builtin.«object.__getattribute__» ⟨[.ref x,.str "__class__" t],[]⟩) _ _ _
 unfold Builtin.«object.__getattribute__»
 repeat (any_goals (first | assumption | with_reducible refine Looks.at (by assumption) ?_ | wp_step))
 refine class_get (s:=⟨h,g,d,t+1,os⟩) (ox:=o) (od:=od) X I hm ?_;refine wpAny_pure ?_;exact wpAny_pure (wpAny_pure hq)
def XcX (K:Frag) (C:Addr):Prop:=findIn K (.ref C) "__getattribute__" = some (some (.builtin "BaseException.__getattribute__")) /\ findIn K (.ref C) "__getattr__" = some none /\ findIn K (.ref C) "__class__" = some (some (.builtin "object.__class__"))
theorem uj6 {dx:Option Addr} (hc:xcIn K C (.ref L::VM)=true) (h2:XcX K C):KitX K (.ref x) (.ref C) (fun h=>XH x C dx h /\ ∀ d,dx=some d->∃ od,h.get? d=some od) where
 ty:=fun M h _ p=>by obtain ⟨⟨o,vs,e1,e2,_⟩,_⟩:=p;exact uj1 e1 e2
 it:=fun M h X _=>by
  obtain ⟨⟨nm,q',N,bs,sn,sub,ab,col,dd,k0,k1,k2,k3,k5,hC⟩,_⟩:=ui9 X hc;intro A' Q' E' s' k q;unfold isType loadHead;exact wpAny_bind (wpAny_loadPart (k _ _ hC) (wpAny_pure q))
 ne:=fun h tp dd its n sl X htp=>by
  obtain ⟨⟨nm,q',N,bs,sn,sub,ab,col,dd,k0,k1,k2,k3,k5,hC⟩,_⟩:=ui9 X hc;refine Bool.eq_false_iff.mpr fun q=>?_
  have e:C=tp:=Value.ref.inj (beq_iff_eq.mp q);subst e;have z:=congrArg (fun o:Option Obj=>o.map (·.cls)) (hC.symm.trans htp);exact absurd z (by simp)
 ca:=fun {_ _ _ _ _ s} X p k=>by
  obtain ⟨⟨o,vs,e1,e2,e3,e4⟩,p2⟩:=p;have nc:notCls o=true:=by unfold notCls;rw [e4]
  cases dx with
  | none=>exact un9 (o:=o) (od:=none) X hc h2.1 h2.2.1 h2.2.2 ⟨e1,e2,nc,by rw [e3];trivial⟩ k
  | some d =>
   obtain ⟨od,p3⟩:=p2 d rfl;exact un9 (o:=o) (od:=some od) X hc h2.1 h2.2.1 h2.2.2 ⟨e1,e2,nc,by rw [e3];exact p3⟩ k
theorem v76 {bm:List Value} (hc:xcIn K C (.ref L::VM)=true) (c2:xcIn K C2 bm=true):kitOne K (.ref C) (.ref C2)=some (decide (C2=C \/ C2=L)):=by
 obtain ⟨cd,c1,c3,_⟩:=ud0 hc;obtain ⟨cd2,d1,d3,_⟩:=ud0 c2;have ty:typeIn K (.ref C2)=some (.type "type"):=by
  unfold xcIn at c2;split at c2
  ·rename_i dd cd' sl ho
   show (K.lookup C2).map (·.cls)=_
   rw [ho];rfl
  ·cases c2
 unfold kitOne
 by_cases e:C=C2
 ·subst e;rw [if_pos (by simp)];simp
 ·rw [if_neg (by simpa using e)]
  unfold kitCls;dsimp only;rw [d1,ty,if_pos (by rfl)]
  show mroIn K C (.ref C2)=_
  unfold mroIn;rw [c1,Option.bind_some,c3]
  show some ((Value.ref C::.ref L::VM).contains (.ref C2))=_
  congr 1
  rw [Bool.eq_iff_iff,List.contains_iff_mem];simp
theorem vf8 (hc:xcIn K C (.ref L::VM)=true):kitOne K (.ref C) (.type "ValueError")=some true:=by
 obtain ⟨cd,c1,c3,_⟩:=ud0 hc;unfold kitOne;rw [if_neg (by simp)];unfold kitCls;dsimp only;rw [if_pos (show kitMeta "ValueError" = true by decide)]
 show mroIn K C (.type "ValueError")=_
 unfold mroIn;rw [c1,Option.bind_some,c3];rfl
theorem v26:kitOne K (.type "NoneType") (.type "ValueError")=some false:=by kernel_rfl
theorem v25 {bm:List Value} (c2:xcIn K C2 bm=true):kitOne K (.type "NoneType") (.ref C2)=some false:=by
 obtain ⟨cd2,d1,d3,_⟩:=ud0 c2;have ty:typeIn K (.ref C2)=some (.type "type"):=by
  unfold xcIn at c2;split at c2
  ·rename_i dd cd' sl ho
   show (K.lookup C2).map (·.cls)=_
   rw [ho];rfl
  ·cases c2
 unfold kitOne;rw [if_neg (by simp)];unfold kitCls;dsimp only;rw [d1,ty,if_pos (by rfl)];have m:fastBuiltinMro "NoneType" = some [.type "NoneType",.type "object"]:=by kernel_rfl
 show (fastBuiltinMro "NoneType").map (·.contains (.ref C2))=_
 rw [m];simp
theorem uv2 (hc:xcIn K C (.ref L::VM)=true):∀ {cs:List Addr},(∀ c ∈ cs,∃ bm,xcIn K c bm=true)->kitAny K (.ref C) (cs.map Value.ref)=some (cs.any fun c=>decide (c=C \/ c=L))
 | [],_=>rfl
 | c::cs,h=>by
  obtain ⟨bm,e⟩:=h c List.mem_cons_self;rw [List.map_cons];unfold kitAny;rw [v76 hc e,List.any_cons]
  by_cases z:c=C \/ c=L
  ·rw [decide_eq_true z];rfl
  ·rw [decide_eq_false z];exact uv2 hc fun c' m=>h c' (List.mem_cons_of_mem _ m)
end
end L2
namespace L3
open PySem PySem.Spec PyProof.Rows L2
def ue4:List D->Option (List Addr)
 | []=>some []
 | .ref a::r=>(ue4 r).map (a::·)
 | _::_=>none
def xIsX (K:W.Frag) (L:Addr):C3:=fun ds G q=>match ds with
 | [.non,.ref C2]=>(∃ bm,xcIn K C2 bm=true) /\ q (.bl false) G
 | [.non,.ty "ValueError"]=>q (.bl false) G
 | [.ref a,.ref C2]=>(match G a with | some (.exc C _)=>xcIn K C (.ref L::VM)=true /\ XcX K C /\ (∃ bm,xcIn K C2 bm=true) /\ q (.bl (isX C L C2)) G | _=>False)
 | [.ref a,.ty "ValueError"]=>(match G a with | some (.exc C _)=>xcIn K C (.ref L::VM)=true /\ XcX K C /\ q (.bl true) G | _=>False)
 | [.ref a,.tup cs]=>(match G a,ue4 cs with | some (.exc C _),some l=>xcIn K C (.ref L::VM)=true /\ XcX K C /\ (∀ c ∈ l,∃ bm,xcIn K c bm=true) /\ q (.bl (l.any (isX C L))) G | _,_=>False)
 | _=>False
theorem um0 {K:W.Frag} {H:Hp}:∀ {ds:List D} {xs:List V} {l:List Addr} {us:List Value},ue4 ds=some l->RelDs K H ds xs->Vals xs us->us=l.map Value.ref
 | [],xs,l,us,e,r,v=>by
  cases r.inv_nil;cases v;cases e;rfl
 | d::ds,xs,l,us,e,r,v=>by
  obtain ⟨x,t,rfl,r1,r2⟩:=r.inv_cons;cases v with
  | cons v1 v2 =>
   cases d with
   | ref a =>
    cases r1.ref_inv;cases v1;cases z:ue4 ds with
    | none=>simp [ue4,z] at e
    | some l' =>
     simp only [ue4,z,Option.map_some,Option.some.injEq] at e;subst e;rw [List.map_cons,um0 z r2 v2]
   | _=>simp [ue4] at e
section
variable {X:Cx}
theorem v89 {K:W.Frag} (L:Addr) (hK:X.K=K:=by rfl):Call3 X (.builtin "isinstance") (xIsX K L):=by
 subst hK;intro pins s σ H xs us Q I rv h;obtain ⟨ds,G,q,r,c,t,f⟩:=h;have fin:∀ b tk,q (.bl b) G->EP X pins σ Q (.bool b) { s with toks:=tk }:=fun b tk z=>⟨.bl b,H,I.tok tk,rfl,f (.bl b) G (.bl b) H (by rw [RelD]) c (Le.refl H) z⟩
 have exc:∀ {a C fs},G a=some (.exc C fs)->∃ dx,(XH a C dx s.heap /\ ∀ d,dx=some d->∃ od,s.heap.get? d=some od):=fun {a C fs} e=>by
  obtain ⟨dx,ys,h1,h2,_⟩:=c a _ e;refine ⟨dx,(I.hok a _ h1).1,fun d z=>?_⟩;subst z;obtain ⟨o,h2⟩:=h2;exact ⟨o,(I.hok d _ h2).1⟩
 unfold xIsX at t;split at t
 ·rename_i C2
  obtain ⟨⟨bm,e1⟩,t⟩:=t;obtain ⟨x1,r1,rfl,rx,r2⟩:=r.inv_cons;obtain ⟨x2,r3,rfl,ry,r4⟩:=r2.inv_cons;cases r4.inv_nil;rw [RelD] at rx;subst rx;cases ry.ref_inv;obtain ⟨u,v,rfl,ru,rw'⟩:=Vals.two rv;cases ru;cases rw';exact W.kia_one W.kitx_none I.kIn True.intro (v25 e1) (fun z=>nomatch z) fun tk=>fin _ tk t
 ·obtain ⟨x1,r1,rfl,rx,r2⟩:=r.inv_cons
  obtain ⟨x2,r3,rfl,ry,r4⟩:=r2.inv_cons;cases r4.inv_nil;have rx:=(show x1=V.non by simpa only [RelD] using rx);have ry:=(show x2=V.ty "ValueError" by simpa only [RelD] using ry);subst rx;subst ry;obtain ⟨u,v,rfl,ru,rw'⟩:=Vals.two rv;cases ru;cases rw';exact W.kia_one W.kitx_none I.kIn True.intro v26 (fun z=>nomatch z) fun tk=>fin _ tk t
 ·rename_i a C2
  obtain ⟨x1,r1,rfl,rx,r2⟩:=r.inv_cons;obtain ⟨x2,r3,rfl,ry,r4⟩:=r2.inv_cons;cases r4.inv_nil;cases rx.ref_inv;cases ry.ref_inv;obtain ⟨u,v,rfl,ru,rw'⟩:=Vals.two rv;cases ru;cases rw';split at t
  ·rename_i C fs e
   obtain ⟨t1,t2,⟨bm,e1⟩,t⟩:=t;obtain ⟨dx,p⟩:=exc e;exact W.kia_one (uj6 t1 t2) I.kIn p (v76 t1 e1) (fun z=>nomatch z) fun tk=>fin _ tk t
  ·exact t.elim
 ·rename_i a
  obtain ⟨x1,r1,rfl,rx,r2⟩:=r.inv_cons;obtain ⟨x2,r3,rfl,ry,r4⟩:=r2.inv_cons;cases r4.inv_nil;cases rx.ref_inv;rw [RelD] at ry;subst ry;obtain ⟨u,v,rfl,ru,rw'⟩:=Vals.two rv;cases ru;cases rw';split at t
  ·rename_i C fs e
   obtain ⟨t1,t2,t⟩:=t;obtain ⟨dx,p⟩:=exc e;exact W.kia_one (uj6 t1 t2) I.kIn p (vf8 t1) (fun z=>nomatch z) fun tk=>fin _ tk t
  ·exact t.elim
 ·rename_i a cs
  obtain ⟨x1,r1,rfl,rx,r2⟩:=r.inv_cons;obtain ⟨x2,r3,rfl,ry,r4⟩:=r2.inv_cons;cases r4.inv_nil;cases rx.ref_inv;obtain ⟨u,v,rfl,ru,rw'⟩:=Vals.two rv;cases ru;rw [RelD] at ry;obtain ⟨ta,ys,rfl,sq,ry⟩:=ry;cases rw';split at t
  ·rename_i C fs l e z
   obtain ⟨t1,t2,t3,t⟩:=t;obtain ⟨dx,p⟩:=exc e;obtain ⟨its,rvs,tp,_⟩:=I.tuple sq;obtain ⟨o,e1,e2,n,e3⟩:=tp;have ee:=um0 z ry rvs;subst ee;obtain ⟨oc,od,oda,osl⟩:=o;dsimp only at e2 e3;subst e2;subst e3;exact W.kia_tup (uj6 t1 t2) I.kIn p e1 (uv2 t1 t3) (fun z=>nomatch z) fun tk=>fin _ tk t
  ·exact t.elim
 ·exact t.elim
end
structure XL (K:W.Frag) (mg:Str->Option Value) (nm:Str) where
 C:Addr
 m:mg nm=some (.ref C)
 xc:xcIn K C VM=true
 b:XBase K C
structure XE (K:W.Frag) (mg:Str->Option Value) (L:Addr) (nm:Str) where
 C:Addr
 m:mg nm=some (.ref C)
 xc:xcIn K C (.ref L::VM)=true
 x:XcX K C
 ne:C ≠ L
def noX:XD:=fun _ _ _=>False
section
variable {X:Cx} {e:Expr} {es:List Expr} {p pos:Pos} {ts:TA3} {k:Nat} {S:Spx3} {x qual:Str} {st:Stmt} {ps:List Str} {C:Addr}
theorem up8 (hm:X.mg x=some (.ref C)) (hg:Gl X x:=by rfl) (hd:(x == ("__debug__" : Str))=false:=by decide):E3 X (.Name x pos) (dC (.ref C)):=v82 hg hm (v:=.ref C) rfl (fun _=>RelD.refI) hd
theorem ve0:Passes (CX1 X.prog X.w) X (lowX X.K noX):=by
 rintro pins σ H s e s' I ⟨a,C,dx,H',_,_,_,_,_,_,C',fs,ys,G,_,_,_,_,z⟩;exact z.elim
theorem ecN (d:FnAt X.K x qual st ps) (hm:X.mg x=some (.ref d.a)) (G:FnOk X.prog X.w X.K X.mg X.base (CX1 X.prog X.w) k d.a d.fd ps (u92 X.K S)) (hr:Room k X.A) (ha:A3 X (e::es) ts) (hg:Gl X x:=by rfl) (hdb:(x == ("__debug__" : Str))=false:=by decide)
  (he:starEach (e::es) X.env=(false,eval e X.env)::starEach es X.env:=by rfl) (hpl:(backTo pos (starEach es X.env)).any (·.1)=false:=by rfl):E3 X (.Call (.Name x p) (e::es) [] pos) (uh6 S noX ts) :=
 u37 (uj4 G hr hg hm d.kp d.b .nil ve0 ha hdb he hpl) fun _ _ _=>uh1
end
theorem v27 {C L:Addr}:isX C L C=true:=by unfold isX;simp
theorem v28 {C L:Addr}:isX C L L=true:=by unfold isX;simp
theorem ub6 {C L C2:Addr} (h:C2 ≠ C) (h2:C2 ≠ L):isX C L C2=false:=by unfold isX;simp [h,h2]
theorem vg3:(∀ K L C2 G q,xIsX K L [.non,.ref C2] G q=((∃ bm,xcIn K C2 bm=true) /\ q (.bl false) G)) /\ (∀ K L G q,xIsX K L [.non,.ty "ValueError"] G q=q (.bl false) G) /\
  (∀ K L a C2 G q,xIsX K L [.ref a,.ref C2] G q=(match G a with | some (.exc C _)=>xcIn K C (.ref L::VM)=true /\ XcX K C /\ (∃ bm,xcIn K C2 bm=true) /\ q (.bl (isX C L C2)) G | _=>False)) /\
  (∀ K L a G q,xIsX K L [.ref a,.ty "ValueError"] G q=(match G a with | some (.exc C _)=>xcIn K C (.ref L::VM)=true /\ XcX K C /\ q (.bl true) G | _=>False)) /\
  (∀ K L a cs G q,xIsX K L [.ref a,.tup cs] G q=(match G a,ue4 cs with | some (.exc C _),some l=>xcIn K C (.ref L::VM)=true /\ XcX K C /\ (∀ c ∈ l,∃ bm,xcIn K c bm=true) /\ q (.bl (l.any (isX C L))) G | _,_=>False)) :=
 ⟨fun _ _ _ _ _=>rfl,fun _ _ _ _=>rfl,fun _ _ _ _ _ _=>rfl,fun _ _ _ _ _=>rfl,fun _ _ _ _ _ _=>rfl⟩
theorem uf8 {S:Spx3} {ds:List D} {G:Gp} {r:XD} {q:DK} {post:D->Gp->Prop} (h:∀ R:DK,(∀ d G',post d G'->R d G')->S ds G R r) (k:∀ d G',post d G'->q d G'):∃ R,S ds G R r /\ ∀ d G',R d G'->q d G' :=
 ⟨post,h _ fun _ _ z=>z,k⟩
end L3
namespace Rw
open PySem PySem.Spec PyProof.Rows L2 L3
theorem uw9 {α:Type} {xs:List α} {n:Nat}:L3.cutD xs (some (n:Int)) none=xs.drop n:=by
 unfold L3.cutD;rw [HT.sIx_none,HT.sIx_nat]
 rcases Nat.le_total n xs.length with h | h
 ·rw [Nat.min_eq_left h]
  exact List.take_of_length_le (by rw [List.length_drop];exact Nat.le_refl _)
 ·rw [Nat.min_eq_right h,List.drop_eq_nil_of_le (Nat.le_refl _),List.drop_eq_nil_of_le h,List.take_nil]
end Rw
namespace L2
open PySem PySem.Spec PyProof.Rows
section
variable {X:Cx} {tg:Expr}
theorem vm3:SlR X (fun x _ _ H Q=>∃ y:Str,x=.str y /\ y.length<=sizeLine /\ ∀ z:Str,z.length<=y.length->Q (.str z) H):=by
 intro pins s σ H x v vl vu lo hi sl Q I rx hs pl pu h;obtain ⟨y,rfl,hy,q⟩:=h;obtain ⟨t,rfl⟩:=rx;refine ⟨"str",_,PySem.F.slot_str_getitem.lookup,typeIs_str _ _ _,?_⟩;obtain ⟨l,rfl⟩:∃ l,vl=partValue l:=by cases pl with
  | none=>exact ⟨none,rfl⟩
  | int i t=>exact ⟨some (i,t),rfl⟩
 obtain ⟨u,rfl⟩:∃ l,vu=partValue l:=by cases pu with
  | none=>exact ⟨none,rfl⟩
  | int i t=>exact ⟨some (i,t),rfl⟩
 refine wpAny_getItem_str_slice (l:=l) (u:=u) (st:=none) hs rfl ?_;unfold sliceMade;split
 ·exact ⟨.str y,H,I,⟨t,rfl⟩,q y (Nat.le_refl _)⟩
 ·have hl:(⟨((slicePicked y l u none).filterMap (y.cps[·]?)).toArray⟩:Str).length<=y.length:=by
   show (List.filterMap _ _).toArray.size<=_
   rw [List.size_toArray];exact Nat.le_trans (List.length_filterMap_le _ _) (sliceIndices_le _ _ _)
  exact ⟨Nat.le_trans hl hy,.str _,H,I.tok _,⟨_,rfl⟩,q _ hl⟩
end
end L2
namespace L3
open PySem PySem.Spec PyProof.Rows L2
section
variable {X:Cx} {K:W.Frag} {H:Hp} {o e tg:Expr} {es:List Expr} {te to:TE3} {ts:TA3} {apos cpos pos:Pos} {x:Str}
def xSlS:RS3:=fun x _ _ G q=>∃ y:Str,x=.str y /\ y.length<=sizeLine /\ ∀ z:Str,z.length<=y.length->q (.str z) G
theorem vx8:SlR X (v22 X.K xSlS):=v55 vm3 <| by
 rintro x lo hi H Q ⟨d,G,q,r1,c,⟨y,rfl,hy,t⟩,f⟩;exact ⟨y,r1.str_inv,hy,fun z hz=>f _ _ _ _ (by rw [RelD]) c (Le.refl H) (t z hz)⟩
end
end L3
namespace Rw
open PySem PySem.Spec PyProof.Rows L2 L3 Law
theorem p16 {W:Nat} (h:W<=16):2 ^ W<=65536:=Nat.pow_le_pow_right (by decide) h
theorem o1 {x fr:Nat} (k:Nat) (h:x < fr):x < fr+k:=Nat.lt_add_right k h
theorem o2 {x fr:Nat} (k:Nat) (h:x < fr):x ≠ fr+k:=Nat.ne_of_lt (o1 k h)
theorem o3 {a:Nat} (h:a < 65536):((0:Int)+a) % 4294967296=a:=by omega
theorem o4 {a c:Nat} (h:a < 65536) (h':c < 65536):((a:Int)+c) % 4294967296=((a+c:Nat):Int):=by omega
theorem o5 {v k:Nat} (h:v < 4294967296) (h':k<=v):((v:Int) - k) % 4294967296=((v - k:Nat):Int):=by omega
end Rw
namespace L3
open PySem PySem.Spec PyProof.Rows L2
section
variable {X:Cx}
theorem v85 {w1 w2 w3 w4 w5 w6:Str} {k1 k2 k3 k4 k5 k6:Nat} {p1 p2 p3 p4 p5 p6:Pos} {es:List Expr} {ts:TA3} (hr:A3 X es ts) :
  A3 X (.Constant (.str w1) k1 p1::.Constant (.str w2) k2 p2::.Constant (.str w3) k3 p3::.Constant (.str w4) k4 p4::.Constant (.str w5) k5 p5::.Constant (.str w6) k6 p6::es) (u52 (dC (.str w1)) (u52 (dC (.str w2)) (u52 (dC (.str w3)) (u52 (dC (.str w4)) (u52 (dC (.str w5)) (u52 (dC (.str w6)) ts)))))) :=
 u00 u41 (u00 u41 (u00 u41 (u00 u41 (u00 u41 (u00 u41 hr rfl) rfl) rfl) rfl) rfl) rfl
@[irreducible] def A3' (X:Cx) (es:List Expr) (t:TA3):Prop:=A3 X es t
@[irreducible] def S3' (X:Cx) (st:Stmt) (t:TS3):Prop:=S3 X st t
@[irreducible] def Ss3' (X:Cx) (l:List Stmt) (t:TS3):Prop:=Ss3 X l t
theorem A3'.of {es:List Expr} {t:TA3} (h:A3 X es t):A3' X es t:=by unfold A3';exact h
theorem A3'.to {es:List Expr} {t:TA3} (h:A3' X es t):A3 X es t:=by unfold A3' at h;exact h
theorem S3'.of {st:Stmt} {t:TS3} (h:S3 X st t):S3' X st t:=by unfold S3';exact h
theorem S3'.to {st:Stmt} {t:TS3} (h:S3' X st t):S3 X st t:=by unfold S3' at h;exact h
theorem Ss3'.of {l:List Stmt} {t:TS3} (h:Ss3 X l t):Ss3' X l t:=by unfold Ss3';exact h
theorem Ss3'.to {l:List Stmt} {t:TS3} (h:Ss3' X l t):Ss3 X l t:=by unfold Ss3' at h;exact h
theorem ul5 {st:Stmt} {sts:List Stmt} {s1 s2:TS3} (h1:S3' X st s1) (h2:Ss3' X sts s2):Ss3' X (st::sts) (dSeq s1 s2):=.of (u03 h1.to h2.to)
theorem va3 {st:Stmt} {s1:TS3} (h:S3' X st s1):Ss3' X [st] s1:=.of (u07 h.to)
theorem vw7:A3' X [] dNil:=.of u02
theorem ux8 {w1 w2 w3 w4 w5 w6:Str} {k1 k2 k3 k4 k5 k6:Nat} {p1 p2 p3 p4 p5 p6:Pos} {es:List Expr} {ts:TA3} (hr:A3' X es ts) :
  A3' X (.Constant (.str w1) k1 p1::.Constant (.str w2) k2 p2::.Constant (.str w3) k3 p3::.Constant (.str w4) k4 p4::.Constant (.str w5) k5 p5::.Constant (.str w6) k6 p6::es) (u52 (dC (.str w1)) (u52 (dC (.str w2)) (u52 (dC (.str w3)) (u52 (dC (.str w4)) (u52 (dC (.str w5)) (u52 (dC (.str w6)) ts)))))):=.of (v85 hr.to)
theorem vm4 (i:Nat) {x:Str} {es:List Expr} {ts:TA3} {pos pos' lpos:Pos} (hN:X.N.Nodup) (he:A3' X es ts) (hi:X.N[i]?=some x:=by rfl) (hx:Loc X.env.scope x:=by first | exact Or.inl rfl | exact Or.inr rfl) (hs:swapsWith (.List es lpos) (some (.Name x pos')) pos.line X.env=pure false:=by rfl)
  (hf:X.fn x=true \/ X.env.scope.names.lookup x=some .local:=by first | exact .inl rfl | exact .inr rfl | assumption):S3' X (.Assign [.Name x pos'] (.List es lpos) pos) (dAsg (dLst ts) (u88 i)):=.of (u13 i hN (u25 he.to) hi hx hs hf)
end
end L3
namespace L2
open PySem PySem.Spec PyProof.Rows
section
variable {X:Cx} {tg:Expr}
theorem w08 {P:Program} {w:World} {k:Key} {u:Value} (h:(ub2 P w).is k u=true):RelV (kV k) u:=by
 rcases u17 h with ⟨i,t,rfl,rfl⟩ | ⟨x,t,rfl,rfl⟩
 ·exact ⟨t,rfl⟩
 ·exact ⟨t,rfl⟩
end
end L2
namespace L3
open PySem PySem.Spec PyProof.Rows L2
section
variable {X:Cx} {K:W.Frag} {G:Gp} {H:Hp} {tg e:Expr} {te:TE3}
theorem Le.frz {a:Addr} {o:Obj} {ys:List (Key × V)} (h:H a=some (.dK ys)):Le H (upd H a (.frz o (.dK ys))) :=
 ⟨fun b zs q=>by
  by_cases e:b=a
  ·subst e;rw [h] at q;cases q
  ·rw [u15 e];exact q,fun b o u q=>by
  by_cases e:b=a
  ·subst e;rw [h] at q;cases q
  ·rw [u15 e];exact q⟩
end
end L3
namespace TS
open PySem PyProof.Rows
abbrev S:=StateT SortSt Sem
def gal:Bool->Keyed->Array Keyed->Nat->Nat->Nat->S (Option Nat):=sortPriv% PySem.Builtin.gallop
def ask (l:Bool) (q:Keyed) (xs:Array Keyed) (b i:Nat):S (Option Bool):=do
 let x <- elem' xs (b+i)
 if l then lt' x q else return (<- lt' q x).map (!·)
def galB (B:Nat->S (Option Bool)) (n h:Nat):S (Option Nat):=do
 let mut o':=0
 let mut o:=1
 let mut u:=0
 let mut v:=0
 let some w <- B h | return none
 if w then
  let z:=n - h
  for _ in [0:n] do
   if o ≥ z then break
   let some e <- B (h+o) | return none
   if !e then break
   o':=o
   o:=2 * o+1
  u:=h+o'+1
  v:=h+min o z
 else
  let z:=h+1
  for _ in [0:n] do
   if o ≥ z then break
   let some e <- B (h - o) | return none
   if e then break
   o':=o
   o:=2 * o+1
  u:=h+1 - min o z
  v:=h - o'
 for _ in [0:n] do
  if u ≥ v then break
  let m:=u+(v - u) / 2
  let some e <- B m | return none
  if e then u:=m+1 else v:=m
 return some v
theorem vu9 (l:Bool) (q:Keyed) (xs:Array Keyed) (b n h:Nat):gal l q xs b n h=galB (ask l q xs b) n h:=rfl
def key (x:Keyed):Int:=numOf x.1
def IsI (x:Keyed):Prop:=∃ n t,x.1=.int n t
section
variable {prog:Program} {w:World} {A:Around} {E:Value->Shared->Prop} {s:Shared}
theorem w_lt {st:SortSt} {x y:Keyed} {Q:Option Bool->SortSt->Prop} (hk:kindOf st=oneType') (hx:IsI x) (hy:IsI y) (h:Q (some (decide (key x < key y))) st):wpS (model prog w) A E s (lt' x y) Q st:=by
 obtain ⟨⟨_,p⟩,n,t,rfl⟩:=x,hx;obtain ⟨⟨_,q⟩,m,u,rfl⟩:=y,hy;rw [lt'_eq];refine wpS_bind (wpS_get ?_);rw [hk,keyLt'_oneType];exact wpS_bind (wpS_lift (wpAny_attempt (oneLt_int ⟨rfl,wpS_pure h⟩)))
theorem w_el {st:SortSt} {xs:Array Keyed} {i:Nat} {Q:Keyed->SortSt->Prop} (hi:i < xs.size) (h:Q xs[i] st):wpS (model prog w) A E s (elem' xs i) Q st:=by
 rw [elem'_eq,getElem?_pos xs i hi];exact wpS_pure h
open Classical in
theorem vl1 {st:SortSt} {B:Nat->S (Option Bool)} {P:Nat->Prop} {n h:Nat} {Q:Option Nat->SortSt->Prop} (hh:h < n)
  (hb:∀ (i:Nat) (R:Option Bool->SortSt->Prop),i < n->R (some (decide (P i))) st->wpS (model prog w) A E s (B i) R st)
  (hm:∀ i j,i<=j->j < n->P j->P i)
  (ht:∀ k,k<=n->(∀ i,i < k->P i)->(∀ i,k<=i->i < n->¬ P i)->Q (some k) st):wpS (model prog w) A E s (galB B n h) Q st:=by
 have fin:∀ (u v:Nat),u<=v->v<=n->(∀ i,i < u->P i)->(∀ i,v<=i->i < n->¬ P i)->wpS (model prog w) A E s (do
   let mut u:=u
   let mut v:=v
   for _ in [0:n] do
    if u ≥ v then break
    let m:=u+(v - u) / 2
    let some e <- B m | return none
    if e then u:=m+1 else v:=m
   return some v) Q st:=by
  intro u v h1 h2 h3 h4;refine wpS_bind (wpS_mono (wpS_forRange (I:=fun x c st'=>st'=st /\ ∃ u v,c=(none,u,v) /\ u<=v /\ v<=n /\ v - u+x<=n /\ (∀ i,i < u->P i) /\ ∀ i,v<=i->i < n->¬ P i)
   (Q:=fun c st'=>st'=st /\ ∃ v,c=(none,v,v) /\ v<=n /\ (∀ i,i < v->P i) /\ ∀ i,v<=i->i < n->¬ P i) ?_ ?_ ⟨rfl,u,v,rfl,h1,h2,by omega,h3,h4⟩) ?_)
  ·rintro x _ _ - hx ⟨rfl,u,v,rfl,a1,a2,a3,a4,a5⟩
   dsimp only
   by_cases hg:u ≥ v
   ·rw [if_pos hg]
    obtain rfl:u=v:=by omega
    exact wpS_pure ⟨rfl,u,rfl,a2,a4,a5⟩
   ·rw [if_neg hg]
    refine wpS_bind (hb _ _ (by (clear a5 a4 a3 a1 ht hb hx h4 h3 h2 h1 hm hh;omega)) ?_)
    by_cases hp:P (u+(v - u) / 2)
    ·simp only [hp,decide_true,if_true]
     exact wpS_pure ⟨rfl,_,_,rfl,by (clear a5 a4 a3 a2 a1 ht hb hx h4 h3 h2 h1 hm hh;omega),a2,by (clear a5 a4 a2 a1 ht hb h4 h3 h2 h1 hm hh;omega),fun i hi=>hm _ _ (by omega) (by (clear hi a5 a4 a3 a1 ht hb hx h4 h3 h2 h1 hm hh;omega)) hp,a5⟩
    ·simp only [hp,decide_false,Bool.false_eq_true,if_false]
     exact wpS_pure ⟨rfl,_,_,rfl,by (clear hp hg a5 a4 a3 a2 a1 ht hb hx h4 h3 h2 h1 hm hh;omega),by (clear hp a5 a4 a3 a1 ht hb hx h4 h3 h2 h1 hm hh;omega),by (clear hp hg a5 a4 a2 a1 ht hb h4 h3 h2 h1 hm hh;omega),a4,fun i hi hi' q=>hp (hm _ _ hi hi' q)⟩
  ·rintro _ _ ⟨rfl,u,v,rfl,a1,a2,a3,a4,a5⟩
   obtain rfl:u=v:=by omega
   exact ⟨rfl,u,rfl,a2,a4,a5⟩
  ·rintro _ _ ⟨rfl,v,rfl,a2,a4,a5⟩
   exact wpS_pure (ht _ a2 a4 a5)
 unfold galB;refine wpS_bind (hb h _ hh ?_);dsimp only
 by_cases hw:P h
 ·simp only [hw,decide_true,if_true]
  refine wpS_bind (wpS_mono (wpS_forRange (I:=fun x c st'=>st'=st /\ ∃ o' o,c=(none,o',o) /\ o' < o /\ x+1<=o /\ h+o' < n /\ P (h+o'))
   (Q:=fun c st'=>st'=st /\ ∃ o' o,c=(none,o',o) /\ o' < o /\ h+o' < n /\ P (h+o') /\ (h+o < n->¬ P (h+o))) ?_ ?_ ⟨rfl,0,1,rfl,by omega,by omega,by omega,hw⟩) ?_)
  ·rintro x _ _ - hx ⟨rfl,o',o,rfl,a1,a2,a3,a4⟩
   dsimp only
   by_cases hg:o ≥ n - h
   ·rw [if_pos hg]
    exact wpS_pure ⟨rfl,_,_,rfl,a1,a3,a4,fun _=>by omega⟩
   ·rw [if_neg hg]
    refine wpS_bind (hb _ _ (by omega) ?_)
    by_cases hp:P (h+o)
    ·simp only [hp,decide_true,Bool.not_true,Bool.false_eq_true,if_false]
     exact wpS_pure ⟨rfl,_,_,rfl,by omega,by omega,by omega,hp⟩
    ·simp only [hp,decide_false,Bool.not_false,if_true]
     exact wpS_pure ⟨rfl,_,_,rfl,a1,a3,a4,fun _=>hp⟩
  ·rintro _ _ ⟨rfl,o',o,rfl,a1,a2,a3,a4⟩
   exact ⟨rfl,_,_,rfl,a1,a3,a4,fun _=>by omega⟩
  ·rintro _ _ ⟨rfl,o',o,rfl,a1,a3,a4,a5⟩
   refine fin (h+o'+1) (h+min o (n - h)) (by omega) (by omega) (fun i hi=>hm _ _ (by omega) a3 a4) fun i hi hi' q=>?_
   exact a5 (by omega) (hm _ _ (by omega) hi' q)
 ·simp only [hw,decide_false,Bool.false_eq_true,if_false]
  refine wpS_bind (wpS_mono (wpS_forRange (I:=fun x c st'=>st'=st /\ ∃ o' o,c=(none,o',o) /\ o' < o /\ x+1<=o /\ o'<=h /\ ¬ P (h - o'))
   (Q:=fun c st'=>st'=st /\ ∃ o' o,c=(none,o',o) /\ o' < o /\ o'<=h /\ ¬ P (h - o') /\ (o<=h->P (h - o))) ?_ ?_ ⟨rfl,0,1,rfl,by omega,by omega,by omega,hw⟩) ?_)
  ·rintro x _ _ - hx ⟨rfl,o',o,rfl,a1,a2,a3,a4⟩
   dsimp only
   by_cases hg:o ≥ h+1
   ·rw [if_pos hg]
    exact wpS_pure ⟨rfl,_,_,rfl,a1,a3,a4,fun _=>by omega⟩
   ·rw [if_neg hg]
    refine wpS_bind (hb _ _ (by omega) ?_)
    by_cases hp:P (h - o)
    ·simp only [hp,decide_true,if_true]
     exact wpS_pure ⟨rfl,_,_,rfl,a1,a3,a4,fun _=>hp⟩
    ·simp only [hp,decide_false,Bool.false_eq_true,if_false]
     exact wpS_pure ⟨rfl,_,_,rfl,by omega,by omega,by omega,hp⟩
  ·rintro _ _ ⟨rfl,o',o,rfl,a1,a2,a3,a4⟩
   exact ⟨rfl,_,_,rfl,a1,a3,a4,fun _=>by omega⟩
  ·rintro _ _ ⟨rfl,o',o,rfl,a1,a3,a4,a5⟩
   refine fin (h+1 - min o (h+1)) (h - o') (by omega) (by omega) (fun i hi=>?_) fun i hi hi' q=>a4 (hm _ _ hi hi' q)
   exact hm i (h - o) (by omega) (by omega) (a5 (by (clear a5 a4 a3 a1 fin ht hb hw hm hh;omega)))
def bey (l:Bool) (q x:Keyed):Prop:=if l then key x < key q else key x<=key q
theorem uo3 {st:SortSt} {l:Bool} {q:Keyed} {xs:Array Keyed} {b n h:Nat} {Q:Option Nat->SortSt->Prop} (hk:kindOf st=oneType') (hq:IsI q) (hx:∀ x ∈ xs.toList,IsI x) (hn:b+n<=xs.size) (hh:h < n)
  (hs:∀ i j (hj:j < xs.size),b<=i->(hij:i<=j)->j < b+n->key xs[i]<=key xs[j])
  (ht:∀ k,k<=n->(∀ i (hi:i < xs.size),b<=i->i < b+k->bey l q xs[i])->(∀ i (hi:i < xs.size),b+k<=i->i < b+n->¬ bey l q xs[i])->Q (some k) st):wpS (model prog w) A E s (gal l q xs b n h) Q st:=by
 classical
 rw [vu9];refine vl1 (P:=fun i=>∃ h:b+i < xs.size,bey l q xs[b+i]) hh ?_ ?_ ?_
 ·intro i R hi hr
  have hlt:b+i < xs.size:=by omega
  have hI:IsI xs[b+i]:=hx _ (by simp);refine wpS_bind (w_el hlt ?_);have he:(∃ h:b+i < xs.size,bey l q xs[b+i]) ↔ if l then key xs[b+i] < key q else key xs[b+i]<=key q:=⟨fun ⟨_,h⟩=>h,fun h=>⟨hlt,h⟩⟩
  cases l with
  | true =>
   refine w_lt hk hI hq ?_;simpa only [he,if_true] using hr
  | false =>
   refine wpS_bind (w_lt hk hq hI (wpS_pure ?_));have e:∀ d:Decidable (∃ h:b+i < xs.size,bey false q xs[b+i]),@decide _ d=!decide (key q < key xs[b+i]):=fun d=>by
    rw [Bool.eq_iff_iff];simp [he]
   rw [e] at hr;exact hr
 ·rintro i j hij hj ⟨h1,h2⟩
  have:=hs (b+i) (b+j) h1 (by omega) (by omega) (by omega);refine ⟨by omega,?_⟩;unfold bey at h2 ⊢;cases l with
  | true=>exact Int.lt_of_le_of_lt this h2
  | false=>exact Int.le_trans this h2
 ·intro k h1 h2 h3
  refine ht k h1 (fun i hi a1 a2=>?_) (fun i hi a1 a2 q=>?_)
  ·obtain ⟨_,z⟩:=h2 (i - b) (by omega)
   have e:b+(i - b)=i:=by omega
   simp only [e] at z;exact z
  ·refine h3 (i - b) (by omega) (by omega) ⟨by omega,?_⟩
   have e:b+(i - b)=i:=by omega
   simp only [e];exact q
end
def sGal (g:Nat):S Unit:=modify fun s=>SortSt.mk' (kindOf s) (arrOf s) (pendingOf s) g (failedOf s)
def mLo:Array Keyed->Array Keyed->S (Array Keyed):=sortPriv% PySem.Builtin.mergeLo
def mHi:Array Keyed->Array Keyed->S (Array Keyed):=sortPriv% PySem.Builtin.mergeHi
def loD (a b o:Array Keyed) (i j:Nat):=o++a.extract i a.size++b.extract j b.size
def loA (a b o:Array Keyed) (i j:Nat):=o++b.extract j b.size++a.extract i a.size
abbrev Sg:=Option (Array Keyed) × Array Keyed × Nat × Nat × Nat × Nat × Nat
abbrev Si:=Option (Array Keyed) × Array Keyed × Nat × Nat × Nat × Nat
abbrev So:=Option (Array Keyed) × Array Keyed × Nat × Nat × Nat
def loG3 (a b o:Array Keyed) (i j g ca cb:Nat):S (ForInStep Sg):=do
 let z <- elem' a i
 if i+1+1 == a.size then pure (.done (some (loA a b (o.push z) (i+1) j),o.push z,i+1,j,g,ca,cb)) else
 if ca < 7 && cb < 7 then pure (.done (none,o.push z,i+1,j,g,ca,cb)) else pure (.yield (none,o.push z,i+1,j,g,ca,cb))
def loG2 (a b o:Array Keyed) (i j g ca cb:Nat):S (ForInStep Sg):=do
 let y <- elem' b j
 if j+1 == b.size then pure (.done (some (loD a b (o.push y) i (j+1)),o.push y,i,j+1,g,ca,cb)) else do
 let z <- elem' a i
 match <- gal true z b (j+1) (b.size - (j+1)) 0 with
 | some k =>
  if k > 0 then
   if j+1+k == b.size then pure (.done (some (loD a b (o.push y++b.extract (j+1) (j+1+k)) i (j+1+k)),o.push y++b.extract (j+1) (j+1+k),i,j+1+k,g,ca,k)) else
   loG3 a b (o.push y++b.extract (j+1) (j+1+k)) i (j+1+k) g ca k
  else loG3 a b (o.push y) i (j+1) g ca k
 | _=>pure (.done (some (loD a b (o.push y) i (j+1)),o.push y,i,j+1,g,ca,cb))
def loG1 (a b o:Array Keyed) (i j g ca cb:Nat):S (ForInStep Sg):=do
 sGal g
 let y <- elem' b j
 match <- gal false y a i (a.size - i) 0 with
 | some k =>
  if k > 0 then
   if i+k+1 == a.size then pure (.done (some (loA a b (o++a.extract i (i+k)) (i+k) j),o++a.extract i (i+k),i+k,j,g,k,cb)) else
   if i+k == a.size then pure (.done (some (loD a b (o++a.extract i (i+k)) (i+k) j),o++a.extract i (i+k),i+k,j,g,k,cb)) else
   loG2 a b (o++a.extract i (i+k)) (i+k) j g k cb
  else loG2 a b o i j g k cb
 | _=>pure (.done (some (loD a b o i j),o,i,j,g,ca,cb))
def loI (a b o:Array Keyed) (i j ca cb g:Nat):S (ForInStep Si):=do
 let y <- elem' b j
 let z <- elem' a i
 match <- lt' y z with
 | some c =>
  if c then do
   let y <- elem' b j
   if j+1 == b.size then pure (.done (some (loD a b (o.push y) i (j+1)),o.push y,i,j+1,0,cb+1)) else
   if cb+1 ≥ g then pure (.done (none,o.push y,i,j+1,0,cb+1)) else pure (.yield (none,o.push y,i,j+1,0,cb+1))
  else do
   let z <- elem' a i
   if i+1+1 == a.size then pure (.done (some (loA a b (o.push z) (i+1) j),o.push z,i+1,j,ca+1,0)) else
   if ca+1 ≥ g then pure (.done (none,o.push z,i+1,j,ca+1,0)) else pure (.yield (none,o.push z,i+1,j,ca+1,0))
 | _=>pure (.done (some (loD a b o i j),o,i,j,ca,cb))
theorem vs3 (a b:Array Keyed):mLo a b=(do
 rule "list.sort.merge-lo"
 let y <- elem' b 0
 if 1 == b.size then pure (loD a b #[y] 0 1) else
 if 0+1 == a.size then pure (loA a b #[y] 0 1) else do
 let g:=gallopOf (<- get)
 let c:So <- forIn [0:a.size+b.size] ((none,#[y],0,1,g):So) fun _ (c:So)=>do
  let d:Si <- forIn [0:a.size+b.size] ((none,c.2.1,c.2.2.1,c.2.2.2.1,0,0):Si) fun _ (d:Si)=>loI a b d.2.1 d.2.2.1 d.2.2.2.1 d.2.2.2.2.1 d.2.2.2.2.2 c.2.2.2.2
  match d.1 with
  | some r=>pure (.done ((some r,d.2.1,d.2.2.1,d.2.2.2.1,c.2.2.2.2):So))
  | none=>do
   rule "list.sort.gallop"
   let e:Sg <- forIn [0:a.size+b.size] ((none,d.2.1,d.2.2.1,d.2.2.2.1,c.2.2.2.2+1,d.2.2.2.2.1,d.2.2.2.2.2):Sg) fun _ (e:Sg) =>
    if e.2.2.2.2.1 > 1 then loG1 a b e.2.1 e.2.2.1 e.2.2.2.1 (e.2.2.2.2.1 - 1) e.2.2.2.2.2.1 e.2.2.2.2.2.2 else loG1 a b e.2.1 e.2.2.1 e.2.2.2.1 e.2.2.2.2.1 e.2.2.2.2.2.1 e.2.2.2.2.2.2
   match e.1 with
   | some r=>pure (.done ((some r,e.2.1,e.2.2.1,e.2.2.2.1,e.2.2.2.2.1):So))
   | none=>do
    sGal (e.2.2.2.2.1+1)
    pure (.yield ((none,e.2.1,e.2.2.1,e.2.2.2.1,e.2.2.2.2.1+1):So))
 match c.1 with
 | some r=>pure r
 | none=>unsupported "internal:list.sort.merge-bound"):=by kernel_rfl
def Mg (r:Keyed->Keyed->Prop) (T o p q:List Keyed):Prop:=(o++(p++q)).Perm T /\ o.Pairwise r /\ ∀ x ∈ o,∀ y ∈ p++q,r x y
theorem Mg.left {r:Keyed->Keyed->Prop} {T o l p q:List Keyed} (m:Mg r T o (l++p) q) (h:(l++p).Pairwise r) (h':∀ x ∈ l,∀ y ∈ q,r x y):Mg r T (o++l) p q:=by
 obtain ⟨m1,m2,m3⟩:=m;obtain ⟨p1,p2,p3⟩:=List.pairwise_append.mp h;refine ⟨by simpa [List.append_assoc] using m1,List.pairwise_append.mpr ⟨m2,p1,fun x hx y hy=>m3 x hx y (by simp [hy])⟩,fun x hx y hy=>?_⟩
 rcases List.mem_append.mp hx with hx | hx
 ·exact m3 x hx y (by rcases List.mem_append.mp hy with hy | hy <;> simp [hy])
 ·rcases List.mem_append.mp hy with hy | hy
  ·exact p3 x hx y hy
  ·exact h' x hx y hy
theorem Mg.symm {r:Keyed->Keyed->Prop} {T o p q:List Keyed} (m:Mg r T o p q):Mg r T o q p:=by
 obtain ⟨m1,m2,m3⟩:=m;exact ⟨(List.perm_append_comm.append_left o).trans m1,m2,fun x hx y hy=>m3 x hx y (List.mem_append.mpr (List.mem_append.mp hy).symm)⟩
theorem Mg.right {r:Keyed->Keyed->Prop} {T o l p q:List Keyed} (m:Mg r T o p (l++q)) (h:(l++q).Pairwise r) (h':∀ x ∈ l,∀ y ∈ p,r x y):Mg r T (o++l) p q:=(m.symm.left h h').symm
def le (x y:Keyed):Prop:=key x<=key y
def Rise (a:Array Keyed):Prop:=∀ i j (hj:j < a.size),(hij:i<=j)->key a[i]<=key a[j]
theorem Rise.pw {a:Array Keyed} (h:Rise a) (i:Nat):(a.toList.drop i).Pairwise le:=by
 refine List.Pairwise.sublist (List.drop_sublist _ _) ?_;rw [List.pairwise_iff_getElem];intro x y hx hy hxy;exact h x y (by simpa using hy) (by omega)
theorem ua0 {a:Array Keyed} {i:Nat} {x:Keyed} (h:x ∈ a.toList.drop i):∃ j,∃ (hj:j < a.size),i<=j /\ a[j]=x:=by
 obtain ⟨k,hk,e⟩:=List.mem_iff_getElem.mp h;rw [List.getElem_drop] at e;simp only [List.length_drop,Array.length_toList] at hk;exact ⟨i+k,by omega,by omega,by simpa using e⟩
theorem ua1 {a:Array Keyed} {i k:Nat}:a.toList.drop i=(a.extract i (i+k)).toList++a.toList.drop (i+k):=by
 rw [Array.toList_extract,List.extract_eq_take_drop,show i+k - i=k by omega,<- List.drop_drop,List.take_append_drop]
theorem uj5 {a:Array Keyed} {i k:Nat} {x:Keyed} (h:x ∈ (a.extract i (i+k)).toList):∃ j,∃ (hj:j < a.size),i<=j /\ j < i+k /\ a[j]=x:=by
 rw [Array.toList_extract,List.extract_eq_take_drop] at h;obtain ⟨j,hj,e⟩:=List.mem_iff_getElem.mp h;simp only [List.length_take,List.length_drop,Array.length_toList] at hj;rw [List.getElem_take,List.getElem_drop] at e;exact ⟨i+j,by omega,by omega,by omega,by simpa using e⟩
theorem uf2 {a:Array Keyed} {i:Nat}:(a.extract i a.size).toList=a.toList.drop i:=by
 rw [Array.toList_extract,List.extract_eq_take_drop,<- Array.length_toList,List.take_of_length_le (by simp)]
def Same (st st':SortSt):Prop:=kindOf st'=kindOf st /\ arrOf st'=arrOf st /\ pendingOf st'=pendingOf st /\ failedOf st'=failedOf st
structure Lo (a b o:Array Keyed) (i j:Nat):Prop where
 m:Mg le (a.toList++b.toList) o.toList (a.toList.drop i) (b.toList.drop j)
 i:i+1 < a.size
 j:j < b.size
structure LoP (a b:Array Keyed):Prop where
 ra:Rise a
 rb:Rise b
 ia:∀ x ∈ a.toList,IsI x
 ib:∀ x ∈ b.toList,IsI x
 na:0 < a.size
 nb:0 < b.size
 lt:∀ (x:Nat) (hx:x < b.size),key b[x]<=key a[a.size - 1]
 ft:∀ (x:Nat) (hx:x < a.size),key b[0]<=key a[x]
def MgD (a b o:Array Keyed):Prop:=o.toList.Perm (a.toList++b.toList) /\ o.toList.Pairwise le
theorem Mg.done {a b o:Array Keyed} {i j:Nat} (P:LoP a b) (m:Mg le (a.toList++b.toList) o.toList (a.toList.drop i) (b.toList.drop j)) (h:j=b.size \/ i=a.size):MgD a b (loD a b o i j):=by
 unfold loD MgD;rw [Array.toList_append,Array.toList_append,uf2,uf2]
 rcases h with rfl | rfl
 ·rw [List.drop_of_length_le (l:=b.toList) (by simp)] at m ⊢
  have:=Mg.left (p:=[]) (by simpa using m) (by simpa using P.ra.pw i) (by simp);exact ⟨by simpa using this.1,by simpa using this.2.1⟩
 ·rw [List.drop_of_length_le (l:=a.toList) (by simp)] at m ⊢
  have:=Mg.right (q:=[]) (by simpa using m) (by simpa using P.rb.pw j) (by simp);exact ⟨by simpa using this.1,by simpa using this.2.1⟩
theorem Mg.last {a b o:Array Keyed} {i j:Nat} (P:LoP a b) (m:Mg le (a.toList++b.toList) o.toList (a.toList.drop i) (b.toList.drop j)) (h:i+1=a.size):MgD a b (loA a b o i j):=by
 unfold loA MgD;rw [Array.toList_append,Array.toList_append,uf2,uf2];have m1:=Mg.right (l:=b.toList.drop j) (q:=[]) (by simpa using m) (by simpa using P.rb.pw j) (by
  intro x hx y hy;obtain ⟨j1,hj,_,rfl⟩:=ua0 hx;obtain ⟨i1,hi,hle,rfl⟩:=ua0 hy;obtain rfl:i1=a.size - 1:=by omega
  exact P.lt _ _)
 have m2:=Mg.left (p:=[]) (by simpa using m1) (by simpa using P.ra.pw i) (by simp);exact ⟨by simpa using m2.1,by simpa using m2.2.1⟩
theorem Mg.pa {a b o:Array Keyed} {i j k:Nat} (P:LoP a b) (m:Mg le (a.toList++b.toList) o.toList (a.toList.drop i) (b.toList.drop j)) (hj:j < b.size) (h:∀ x (hx:x < a.size),i<=x->x < i+k->key a[x]<=key b[j]) :
  Mg le (a.toList++b.toList) (o++a.extract i (i+k)).toList (a.toList.drop (i+k)) (b.toList.drop j):=by
 rw [Array.toList_append];rw [ua1 (k:=k)] at m;refine m.left (by rw [<- ua1];exact P.ra.pw i) fun x hx y hy=>?_
 obtain ⟨x',h1,h2,h3,rfl⟩:=uj5 hx;obtain ⟨y',g1,g2,rfl⟩:=ua0 hy;exact Int.le_trans (h _ h1 h2 h3) (P.rb _ _ g1 g2)
theorem Mg.pb {a b o:Array Keyed} {i j k:Nat} (P:LoP a b) (m:Mg le (a.toList++b.toList) o.toList (a.toList.drop i) (b.toList.drop j)) (h:∀ x (hx:x < b.size) (hi:i < a.size),j<=x->x < j+k->key b[x]<=key a[i]) :
  Mg le (a.toList++b.toList) (o++b.extract j (j+k)).toList (a.toList.drop i) (b.toList.drop (j+k)):=by
 rw [Array.toList_append];rw [ua1 (a:=b) (k:=k)] at m;refine m.right (by rw [<- ua1];exact P.rb.pw j) fun x hx y hy=>?_
 obtain ⟨x',h1,h2,h3,rfl⟩:=uj5 hx;obtain ⟨y',g1,g2,rfl⟩:=ua0 hy;exact Int.le_trans (h _ h1 (by omega) h2 h3) (P.ra _ _ g1 g2)
theorem u61 {a o:Array Keyed} {i:Nat} (h:i < a.size):o.push a[i]=o++a.extract i (i+1):=by
 apply Array.ext';rw [Array.toList_push,Array.toList_append,Array.toList_extract,List.extract_eq_take_drop,List.drop_eq_getElem_cons (by simpa using h),show i+1 - i=1 by omega];simp
section
variable {prog:Program} {w:World} {A:Around} {E:Value->Shared->Prop} {s:Shared}
theorem w_sg {st:SortSt} {g:Nat} {Q:Unit->SortSt->Prop} (h:∀ st',Same st st'->Q () st'):wpS (model prog w) A E s (sGal g) Q st:=wpS_modify (h _ ⟨rfl,rfl,rfl,rfl⟩)
theorem Same.trans {a b c:SortSt} (h:Same a b) (h':Same b c):Same a c:=⟨h'.1.trans h.1,h'.2.1.trans h.2.1,h'.2.2.1.trans h.2.2.1,h'.2.2.2.trans h.2.2.2⟩
theorem v57 {st0 st:SortSt} {a b o:Array Keyed} {i j n g ca cb:Nat} {Q:ForInStep Sg->SortSt->Prop} (P:LoP a b) (e:Same st0 st) (L:Lo a b o i j) (hn:n < i+j+1) (hlt:∀ x (hx:x < b.size) (hi:i < a.size),j<=x->key a[i]<=key b[x])
  (hd:∀ o' r st',MgD a b o'->Same st0 st'->Q (.done (some o',r)) st') (hy:∀ o i j g ca cb st',Lo a b o i j->n < i+j->Same st0 st'->Q (.yield (none,o,i,j,g,ca,cb)) st' /\ Q (.done (none,o,i,j,g,ca,cb)) st'):wpS (model prog w) A E s (loG3 a b o i j g ca cb) Q st:=by
 have hi:=L.i;unfold loG3;refine wpS_bind (w_el (by omega) ?_);have m:=Mg.pa (k:=1) P L.m L.j (fun x hx h1 h2=>by obtain rfl:x=i:=(by omega);exact hlt _ L.j (by omega) (Nat.le_refl _));rw [u61 (by omega)]
 by_cases h1:i+1+1=a.size
 ·rw [if_pos (by simpa using h1)]
  exact wpS_pure (hd _ _ _ (m.last P h1) e)
 rw [if_neg (by simpa using h1)];have:=hy _ (i+1) j g ca cb st ⟨m,by omega,L.j⟩ (by omega) e;split
 ·exact wpS_pure this.2
 ·exact wpS_pure this.1
theorem v58 {st0 st:SortSt} {a b o:Array Keyed} {i j n g ca cb:Nat} {Q:ForInStep Sg->SortSt->Prop} (P:LoP a b) (hk:kindOf st0=oneType') (e:Same st0 st) (L:Lo a b o i j) (hn:n < i+j+1) (hlt:∀ x (hx:x < a.size) (hj:j < b.size),i<=x->key b[j]<=key a[x])
  (hd:∀ o' r st',MgD a b o'->Same st0 st'->Q (.done (some o',r)) st') (hy:∀ o i j g ca cb st',Lo a b o i j->n < i+j->Same st0 st'->Q (.yield (none,o,i,j,g,ca,cb)) st' /\ Q (.done (none,o,i,j,g,ca,cb)) st'):wpS (model prog w) A E s (loG2 a b o i j g ca cb) Q st:=by
 have hi:=L.i;have hj:=L.j;unfold loG2;refine wpS_bind (w_el hj ?_);have m:=Mg.pb (k:=1) P L.m (fun x hx hi h1 h2=>by obtain rfl:x=j:=(by omega);exact hlt _ hi hx (Nat.le_refl _));rw [u61 hj]
 by_cases h1:j+1=b.size
 ·rw [if_pos (by simpa using h1)]
  exact wpS_pure (hd _ _ _ (m.done P (.inl h1)) e)
 rw [if_neg (by simpa using h1)];refine wpS_bind (w_el (by omega) (wpS_bind (uo3 (e.1.trans hk) (P.ia _ (by simp)) P.ib (by omega) (by omega) (fun x y hy _ hxy _=>P.rb x y hy hxy) fun k k1 k2 k3=>?_)));dsimp only;have m2:=Mg.pb (k:=k) P m (fun x hx hi h1 h2=>Int.le_of_lt (k2 x hx h1 h2));have rest:∀ x (hx:x < b.size) (hi:i < a.size),j+1+k<=x->key a[i]<=key b[x]:=fun x hx hi h1=>Int.not_lt.mp (k3 x hx h1 (by omega))
 by_cases hk0:k > 0
 ·rw [if_pos hk0]
  by_cases h2:j+1+k=b.size
  ·rw [if_pos (by simpa using h2)]
   exact wpS_pure (hd _ _ _ (m2.done P (.inl h2)) e)
  rw [if_neg (by simpa using h2)];exact v57 P e ⟨m2,hi,by omega⟩ (by omega) rest hd hy
 ·rw [if_neg hk0]
  obtain rfl:k=0:=by omega
  exact v57 P e ⟨m,hi,by omega⟩ (by omega) rest hd hy
theorem vk9 {st0 st:SortSt} {a b o:Array Keyed} {i j n g ca cb:Nat} {Q:ForInStep Sg->SortSt->Prop} (P:LoP a b) (hk:kindOf st0=oneType') (e:Same st0 st) (L:Lo a b o i j) (hn:n < i+j+1)
  (hd:∀ o' r st',MgD a b o'->Same st0 st'->Q (.done (some o',r)) st') (hy:∀ o i j g ca cb st',Lo a b o i j->n < i+j->Same st0 st'->Q (.yield (none,o,i,j,g,ca,cb)) st' /\ Q (.done (none,o,i,j,g,ca,cb)) st'):wpS (model prog w) A E s (loG1 a b o i j g ca cb) Q st:=by
 have hi:=L.i;have hj:=L.j;unfold loG1;refine wpS_bind (w_sg fun st' e'=>wpS_bind (w_el hj (wpS_bind (uo3 ((e.trans e').1.trans hk) (P.ib _ (by simp)) P.ia (by omega) (by omega) (fun x y hy _ hxy _=>P.ra x y hy hxy) fun k k1 k2 k3=>?_))));have e:=e.trans e';dsimp only;have m2:=Mg.pa (k:=k) P L.m hj (fun x hx h1 h2=>k2 x hx h1 h2);have rest:∀ x (hx:x < a.size) (hj:j < b.size),i+k<=x->key b[j]<=key a[x]:=fun x hx hi h1=>Int.le_of_lt (Int.not_le.mp (k3 x hx h1 (by omega)))
 by_cases hk0:k > 0
 ·rw [if_pos hk0]
  by_cases h2:i+k+1=a.size
  ·rw [if_pos (by simpa using h2)]
   exact wpS_pure (hd _ _ _ (m2.last P h2) e)
  rw [if_neg (by simpa using h2)]
  by_cases h3:i+k=a.size
  ·rw [if_pos (by simpa using h3)]
   exact wpS_pure (hd _ _ _ (m2.done P (.inr h3)) e)
  rw [if_neg (by simpa using h3)];exact v58 P hk e ⟨m2,by omega,hj⟩ (by omega) rest hd hy
 ·rw [if_neg hk0]
  obtain rfl:k=0:=by omega
  exact v58 P hk e L hn rest hd hy
theorem vy5 {st0 st:SortSt} {a b o:Array Keyed} {i j n g ca cb:Nat} {Q:ForInStep Si->SortSt->Prop} (P:LoP a b) (hk:kindOf st0=oneType') (e:Same st0 st) (L:Lo a b o i j) (hn:n < i+j+1)
  (hd:∀ o' r,MgD a b o'->Q (.done (some o',r)) st) (hy:∀ o i j ca cb,Lo a b o i j->n < i+j->Q (.yield (none,o,i,j,ca,cb)) st /\ Q (.done (none,o,i,j,ca,cb)) st):wpS (model prog w) A E s (loI a b o i j ca cb g) Q st:=by
 have hi:=L.i;have hj:=L.j;unfold loI;refine wpS_bind (w_el hj (wpS_bind (w_el (by omega) (wpS_bind (w_lt (e.1.trans hk) (P.ib _ (by simp)) (P.ia _ (by simp)) ?_)))));dsimp only
 by_cases hw:key b[j] < key a[i]
 ·simp only [hw,decide_true,if_true]
  refine wpS_bind (w_el hj ?_);have m:=Mg.pb (k:=1) P L.m (fun x hx hi h1 h2=>by obtain rfl:x=j:=(by omega);exact Int.le_of_lt hw);rw [u61 hj]
  by_cases h1:j+1=b.size
  ·rw [if_pos (by simpa using h1)]
   exact wpS_pure (hd _ _ (m.done P (.inl h1)))
  rw [if_neg (by simpa using h1)];have:=fun cb=>hy _ i (j+1) 0 cb ⟨m,hi,by omega⟩ (by omega)
  split
  ·exact wpS_pure (this _).2
  ·exact wpS_pure (this _).1
 ·simp only [hw,decide_false,Bool.false_eq_true,if_false]
  refine wpS_bind (w_el (by omega) ?_);have m:=Mg.pa (k:=1) P L.m L.j (fun x hx h1 h2=>by obtain rfl:x=i:=(by omega);exact Int.not_lt.mp hw);rw [u61 (by omega)]
  by_cases h1:i+1+1=a.size
  ·rw [if_pos (by simpa using h1)]
   exact wpS_pure (hd _ _ (m.last P h1))
  rw [if_neg (by simpa using h1)];have:=fun ca=>hy _ (i+1) j ca 0 ⟨m,by omega,L.j⟩ (by omega)
  split
  ·exact wpS_pure (this _).2
  ·exact wpS_pure (this _).1
theorem w_lo {st:SortSt} {a b:Array Keyed} {Q:Array Keyed->SortSt->Prop} (hk:kindOf st=oneType') (P:LoP a b)
  (h:∀ o st',MgD a b o->Same st st'->Q o st'):wpS (model prog w) A E s (mLo a b) Q st:=by
 rw [vs3];refine wpS_bind (wpS_lift (wpAny_rule ⟨rfl,?_⟩));refine wpS_bind (w_el P.nb ?_);have m0:Mg le (a.toList++b.toList) #[b[0]'P.nb].toList (a.toList.drop 0) (b.toList.drop 1):=by
  have:Mg le (a.toList++b.toList) (#[]:Array Keyed).toList (a.toList.drop 0) (b.toList.drop 0):=⟨by simp,by simp,by simp⟩;have:=Mg.pb (k:=1) P this (fun x hx hi h1 h2=>by obtain rfl:x=0:=(by omega);exact P.ft 0 hi);rw [<- u61 P.nb] at this;exact this
 have rf:Same st st:=⟨rfl,rfl,rfl,rfl⟩
 by_cases h1:1=b.size
 ·rw [if_pos (by simpa using h1)]
  exact wpS_pure (h _ _ (Mg.done P m0 (.inl h1)) rf)
 rw [if_neg (by simpa using h1)]
 by_cases h2:0+1=a.size
 ·rw [if_pos (by simpa using h2)]
  exact wpS_pure (h _ _ (Mg.last P m0 h2) rf)
 rw [if_neg (by simpa using h2)];refine wpS_bind (wpS_get ?_);have hna:=P.na;have hnb:=P.nb;refine wpS_bind (wpS_mono (wpS_forRange (I:=fun x c st'=>Same st st' /\ ∃ o i j g,c=(none,o,i,j,g) /\ Lo a b o i j /\ x < i+j)
  (Q:=fun c st'=>Same st st' /\ ∃ o r,c=(some o,r) /\ MgD a b o) ?_ ?_ ⟨rf,_,_,_,_,rfl,⟨m0,by omega,by omega⟩,by omega⟩) ?_)
 ·rintro x _ st1 - hx ⟨e1,o,i,j,g,rfl,L,hl⟩
  refine wpS_bind (wpS_mono (wpS_forRange (I:=fun y c st'=>st'=st1 /\ ∃ o i j ca cb,c=(none,o,i,j,ca,cb) /\ Lo a b o i j /\ x+y < i+j)
   (Q:=fun c st'=>st'=st1 /\ ((∃ o r,c=(some o,r) /\ MgD a b o) \/ ∃ o i j ca cb,c=(none,o,i,j,ca,cb) /\ Lo a b o i j /\ x+1 < i+j)) ?_ ?_ ⟨rfl,_,_,_,_,_,rfl,L,by omega⟩) ?_)
  ·rintro y _ _ - hy ⟨rfl,o,i,j,ca,cb,rfl,L,hl⟩
   dsimp only;refine vy5 (n:=x+y+1) P hk e1 L (by omega) (fun o' r m=>⟨rfl,.inl ⟨_,_,rfl,m⟩⟩) fun o i j ca cb L h=>⟨⟨rfl,_,_,_,_,_,rfl,L,by omega⟩,rfl,.inr ⟨_,_,_,_,_,rfl,L,by omega⟩⟩
  ·rintro _ _ ⟨rfl,o,i,j,ca,cb,rfl,L,hl⟩
   exact ⟨rfl,.inr ⟨_,_,_,_,_,rfl,L,by omega⟩⟩
  ·rintro _ _ ⟨rfl,⟨o,r,rfl,m⟩ | ⟨o,i,j,ca,cb,rfl,L,hl⟩⟩
   ·exact wpS_pure ⟨e1,_,_,rfl,m⟩
   refine wpS_bind (wpS_lift (wpAny_rule ⟨rfl,?_⟩));refine wpS_bind (wpS_mono (wpS_forRange (I:=fun y c st'=>Same st st' /\ ∃ o i j g ca cb,c=(none,o,i,j,g,ca,cb) /\ Lo a b o i j /\ x+1 < i+j)
    (Q:=fun c st'=>Same st st' /\ ((∃ o r,c=(some o,r) /\ MgD a b o) \/ ∃ o i j g ca cb,c=(none,o,i,j,g,ca,cb) /\ Lo a b o i j /\ x+1 < i+j)) ?_ ?_ ⟨e1,_,_,_,_,_,_,rfl,L,hl⟩) ?_)
   ·rintro y _ st2 - hy ⟨e2,o,i,j,g,ca,cb,rfl,L,hl⟩
    dsimp only;split <;> exact vk9 (n:=x+1) P hk e2 L (by omega) (fun o' r st' m e=>⟨e,.inl ⟨_,_,rfl,m⟩⟩) fun o i j g ca cb st' L h e=>⟨⟨e,_,_,_,_,_,_,rfl,L,h⟩,e,.inr ⟨_,_,_,_,_,_,rfl,L,h⟩⟩
   ·rintro _ _ ⟨e2,o,i,j,g,ca,cb,rfl,L,hl⟩
    exact ⟨e2,.inr ⟨_,_,_,_,_,_,rfl,L,hl⟩⟩
   ·rintro _ _ ⟨e2,⟨o,r,rfl,m⟩ | ⟨o,i,j,g,ca,cb,rfl,L,hl⟩⟩
    ·exact wpS_pure ⟨e2,_,_,rfl,m⟩
    exact wpS_bind (w_sg fun st' e'=>wpS_pure ⟨e2.trans e',_,_,_,_,rfl,L,hl⟩)
 ·rintro _ _ ⟨e1,o,i,j,g,rfl,L,hl⟩
  have h3:=L.i;have h4:=L.j;omega
 ·rintro _ _ ⟨e1,o,r,rfl,m⟩
  exact wpS_pure (h _ _ m e1)
end
def hiD (a b o:Array Keyed) (i j:Nat):=a.extract 0 i++b.extract 0 j++o.reverse
def hiB (a b o:Array Keyed) (i j:Nat):=b.extract 0 j++a.extract 0 i++o.reverse
abbrev Sj:=Option (Array Keyed) × Nat × Nat × Array Keyed × Nat
abbrev Sk:=Option (Array Keyed) × Nat × Nat × Array Keyed × Nat × Nat
abbrev Sl:=Option (Array Keyed) × Nat × Nat × Array Keyed × Nat × Nat × Nat
def hiG3 (a b o:Array Keyed) (i j g ca cb:Nat):S (ForInStep Sl):=do
 let z <- elem' a (i - 1)
 if i - 1 == 0 then pure (.done (some (hiD a b (o.push z) (i - 1) j),i - 1,j,o.push z,g,ca,cb)) else
 if ca < 7 && cb < 7 then pure (.done (none,i - 1,j,o.push z,g,ca,cb)) else pure (.yield (none,i - 1,j,o.push z,g,ca,cb))
def hiG2 (a b o:Array Keyed) (i j g ca cb:Nat):S (ForInStep Sl):=do
 let y <- elem' b (j - 1)
 if j - 1 == 1 then pure (.done (some (hiB a b (o.push y) i (j - 1)),i,j - 1,o.push y,g,ca,cb)) else do
 let z <- elem' a (i - 1)
 match <- gal true z b 0 (j - 1) (j - 1 - 1) with
 | some k =>
  if j - 1 - k > 0 then
   if k == 1 then pure (.done (some (hiB a b (o.push y++(b.extract k (j - 1)).reverse) i k),i,k,o.push y++(b.extract k (j - 1)).reverse,g,ca,j - 1 - k)) else
   if k == 0 then pure (.done (some (hiD a b (o.push y++(b.extract k (j - 1)).reverse) i k),i,k,o.push y++(b.extract k (j - 1)).reverse,g,ca,j - 1 - k)) else
   hiG3 a b (o.push y++(b.extract k (j - 1)).reverse) i k g ca (j - 1 - k)
  else hiG3 a b (o.push y) i (j - 1) g ca (j - 1 - k)
 | _=>pure (.done (some (hiD a b (o.push y) i (j - 1)),i,j - 1,o.push y,g,ca,cb))
def hiG1 (a b o:Array Keyed) (i j g ca cb:Nat):S (ForInStep Sl):=do
 sGal g
 let y <- elem' b (j - 1)
 match <- gal false y a 0 i (i - 1) with
 | some k =>
  if i - k > 0 then
   if k == 0 then pure (.done (some (hiD a b (o++(a.extract k i).reverse) k j),k,j,o++(a.extract k i).reverse,g,i - k,cb)) else
   hiG2 a b (o++(a.extract k i).reverse) k j g (i - k) cb
  else hiG2 a b o i j g (i - k) cb
 | _=>pure (.done (some (hiD a b o i j),i,j,o,g,ca,cb))
def hiI (a b o:Array Keyed) (i j ca cb g:Nat):S (ForInStep Sk):=do
 let y <- elem' b (j - 1)
 let z <- elem' a (i - 1)
 match <- lt' y z with
 | some c =>
  if c then do
   let z <- elem' a (i - 1)
   if i - 1 == 0 then pure (.done (some (hiD a b (o.push z) (i - 1) j),i - 1,j,o.push z,ca+1,0)) else
   if ca+1 ≥ g then pure (.done (none,i - 1,j,o.push z,ca+1,0)) else pure (.yield (none,i - 1,j,o.push z,ca+1,0))
  else do
   let y <- elem' b (j - 1)
   if j - 1 == 1 then pure (.done (some (hiB a b (o.push y) i (j - 1)),i,j - 1,o.push y,0,cb+1)) else
   if cb+1 ≥ g then pure (.done (none,i,j - 1,o.push y,0,cb+1)) else pure (.yield (none,i,j - 1,o.push y,0,cb+1))
 | _=>pure (.done (some (hiD a b o i j),i,j,o,ca,cb))
theorem vs5 (a b:Array Keyed):mHi a b=(do
 rule "list.sort.merge-hi"
 let y <- elem' a (a.size - 1)
 if a.size - 1 == 0 then pure (hiD a b #[y] (a.size - 1) b.size) else
 if b.size == 1 then pure (hiB a b #[y] (a.size - 1) b.size) else do
 let g:=gallopOf (<- get)
 let c:Sj <- forIn [0:a.size+b.size] ((none,a.size - 1,b.size,#[y],g):Sj) fun _ (c:Sj)=>do
  let d:Sk <- forIn [0:a.size+b.size] ((none,c.2.1,c.2.2.1,c.2.2.2.1,0,0):Sk) fun _ (d:Sk)=>hiI a b d.2.2.2.1 d.2.1 d.2.2.1 d.2.2.2.2.1 d.2.2.2.2.2 c.2.2.2.2
  match d.1 with
  | some r=>pure (.done ((some r,d.2.1,d.2.2.1,d.2.2.2.1,c.2.2.2.2):Sj))
  | none=>do
   rule "list.sort.gallop"
   let e:Sl <- forIn [0:a.size+b.size] ((none,d.2.1,d.2.2.1,d.2.2.2.1,c.2.2.2.2+1,d.2.2.2.2.1,d.2.2.2.2.2):Sl) fun _ (e:Sl) =>
    if e.2.2.2.2.1 > 1 then hiG1 a b e.2.2.2.1 e.2.1 e.2.2.1 (e.2.2.2.2.1 - 1) e.2.2.2.2.2.1 e.2.2.2.2.2.2 else hiG1 a b e.2.2.2.1 e.2.1 e.2.2.1 e.2.2.2.2.1 e.2.2.2.2.2.1 e.2.2.2.2.2.2
   match e.1 with
   | some r=>pure (.done ((some r,e.2.1,e.2.2.1,e.2.2.2.1,e.2.2.2.2.1):Sj))
   | none=>do
    sGal (e.2.2.2.2.1+1)
    pure (.yield ((none,e.2.1,e.2.2.1,e.2.2.2.1,e.2.2.2.2.1+1):Sj))
 match c.1 with
 | some r=>pure r
 | none=>unsupported "internal:list.sort.merge-bound"):=by kernel_rfl
def ge (x y:Keyed):Prop:=key y<=key x
theorem Rise.wp {a:Array Keyed} (h:Rise a) (i:Nat):(a.toList.take i).reverse.Pairwise ge:=by
 rw [List.pairwise_reverse];refine List.Pairwise.sublist (List.take_sublist _ _) ?_;have:=h.pw 0
 rwa [List.drop_zero] at this
theorem u99 {a:Array Keyed} {i:Nat} {x:Keyed} (h:x ∈ (a.toList.take i).reverse):∃ j,∃ (hj:j < a.size),j < i /\ a[j]=x:=by
 obtain ⟨k,hk,e⟩:=List.mem_iff_getElem.mp (List.mem_reverse.mp h);rw [List.getElem_take] at e;simp only [List.length_take,Array.length_toList] at hk;exact ⟨k,by omega,by omega,by simpa using e⟩
theorem u97 {a:Array Keyed} {k i:Nat} (h:k<=i):(a.toList.take i).reverse=(a.extract k i).reverse.toList++(a.toList.take k).reverse:=by
 rw [Array.toList_reverse,<- List.reverse_append,Array.toList_extract,List.extract_eq_take_drop]
 congr 1
 conv=>lhs;rw [show i=k+(i - k) by omega,List.take_add]
theorem uu5 {a:Array Keyed} {k i:Nat} {x:Keyed} (hk:k<=i) (h:x ∈ (a.extract k i).reverse.toList):∃ j,∃ (hj:j < a.size),k<=j /\ j < i /\ a[j]=x:=by
 have h:x ∈ (a.extract k (k+(i - k))).toList:=by simpa [show k+(i - k)=i by omega] using h
 obtain ⟨j,h1,h2,h3,h4⟩:=uj5 h;exact ⟨j,h1,h2,by omega,h4⟩
theorem v30 {a:Array Keyed} {i:Nat}:(a.extract 0 i).toList=a.toList.take i:=by
 rw [Array.toList_extract,List.extract_eq_take_drop,List.drop_zero,Nat.sub_zero]
abbrev MH (a b o:Array Keyed) (i j:Nat):Prop:=Mg ge (a.toList++b.toList) o.toList (a.toList.take i).reverse (b.toList.take j).reverse
structure Hi (a b o:Array Keyed) (i j:Nat):Prop where
 m:MH a b o i j
 p1:1<=i
 p2:i<=a.size
 p3:2<=j
 p4:j<=b.size
theorem us8 {l:List Keyed} (h:l.Pairwise ge):l.reverse.Pairwise le:=List.pairwise_reverse.mpr h
theorem Mg.dn {a b o:Array Keyed} {i j:Nat} (P:LoP a b) (m:MH a b o i j) (h:i=0 \/ j=0):MgD a b (hiD a b o i j):=by
 unfold hiD MgD;rw [Array.toList_append,Array.toList_append,v30,v30,Array.toList_reverse]
 rcases h with rfl | rfl
 ·have:=Mg.right (l:=(b.toList.take j).reverse) (q:=[]) (by simpa using m) (by simpa using P.rb.wp j) (by simp)
  have h2:=us8 this.2.1;have h1:=(List.reverse_perm _).trans this.1;simp at h1 h2;exact ⟨by simpa using h1,by simpa using h2⟩
 ·have:=Mg.left (l:=(a.toList.take i).reverse) (p:=[]) (by simpa using m) (by simpa using P.ra.wp i) (by simp)
  have h2:=us8 this.2.1;have h1:=(List.reverse_perm _).trans this.1;simp at h1 h2;exact ⟨by simpa using h1,by simpa using h2⟩
theorem Mg.fst {a b o:Array Keyed} {i j:Nat} (P:LoP a b) (m:MH a b o i j) (h:j=1):MgD a b (hiB a b o i j):=by
 unfold hiB MgD;rw [Array.toList_append,Array.toList_append,v30,v30,Array.toList_reverse];have m1:=Mg.left (l:=(a.toList.take i).reverse) (p:=[]) (by simpa using m) (by simpa using P.ra.wp i) (by
  intro x hx y hy;obtain ⟨i1,hi,_,rfl⟩:=u99 hx;obtain ⟨j1,hj,hle,rfl⟩:=u99 hy;obtain rfl:j1=0:=by omega
  exact P.ft _ _)
 have:=Mg.right (l:=(b.toList.take j).reverse) (q:=[]) (by simpa using m1) (by simpa using P.rb.wp j) (by simp);have h2:=us8 this.2.1;have h1:=(List.reverse_perm _).trans this.1;simp at h1 h2;exact ⟨by simpa using h1,by simpa using h2⟩
theorem Mg.ha {a b o:Array Keyed} {k i j:Nat} (P:LoP a b) (m:MH a b o i j) (hj:1<=j) (hj':j<=b.size) (hk:k<=i) (h:∀ x (hx:x < a.size),k<=x->x < i->key b[j - 1]<=key a[x]):MH a b (o++(a.extract k i).reverse) k j:=by
 show Mg _ _ (o++_).toList _ _
 rw [Array.toList_append];rw [MH,u97 hk] at m;refine m.left (by rw [<- u97 hk];exact P.ra.wp i) fun x hx y hy=>?_
 obtain ⟨x',h1,h2,h3,rfl⟩:=uu5 hk hx;obtain ⟨y',g1,g2,rfl⟩:=u99 hy;exact Int.le_trans (P.rb y' (j - 1) (by omega) (by omega)) (h _ h1 h2 h3)
theorem Mg.hb {a b o:Array Keyed} {k i j:Nat} (P:LoP a b) (m:MH a b o i j) (hi:1<=i) (hi':i<=a.size) (hk:k<=j) (h:∀ x (hx:x < b.size),k<=x->x < j->key a[i - 1]<=key b[x]):MH a b (o++(b.extract k j).reverse) i k:=by
 show Mg _ _ (o++_).toList _ _
 rw [Array.toList_append];rw [MH,u97 (a:=b) hk] at m;refine m.right (by rw [<- u97 hk];exact P.rb.wp j) fun x hx y hy=>?_
 obtain ⟨x',h1,h2,h3,rfl⟩:=uu5 hk hx;obtain ⟨y',g1,g2,rfl⟩:=u99 hy;exact Int.le_trans (P.ra y' (i - 1) (by omega) (by omega)) (h _ h1 h2 h3)
theorem u77 {a o:Array Keyed} {i:Nat} (h:i - 1 < a.size) (h1:1<=i):o.push a[i - 1]=o++(a.extract (i - 1) i).reverse:=by
 have:=u61 (o:=o) h;rw [show i - 1+1=i by omega] at this;rw [this];apply Array.ext';have e:(a.extract (i - 1) i).toList=[a[i - 1]]:=by
  rw [Array.toList_extract,List.extract_eq_take_drop,List.drop_eq_getElem_cons (by simpa using h),show i - (i - 1)=1 by omega];simp
 rw [Array.toList_append,Array.toList_append,Array.toList_reverse,e];rfl
section
variable {prog:Program} {w:World} {A:Around} {E:Value->Shared->Prop} {s:Shared}
theorem v59 {st0 st:SortSt} {a b o:Array Keyed} {i j n g ca cb:Nat} {Q:ForInStep Sl->SortSt->Prop} (P:LoP a b) (e:Same st0 st) (L:Hi a b o i j) (hn:i+j<=n+1) (hlt:∀ x (hx:x < b.size) (hi:i - 1 < a.size),x < j->key b[x]<=key a[i - 1])
  (hd:∀ o' r st',MgD a b o'->Same st0 st'->Q (.done (some o',r)) st') (hy:∀ o i j g ca cb st',Hi a b o i j->i+j<=n->Same st0 st'->Q (.yield (none,i,j,o,g,ca,cb)) st' /\ Q (.done (none,i,j,o,g,ca,cb)) st'):wpS (model prog w) A E s (hiG3 a b o i j g ca cb) Q st:=by
 obtain ⟨m,hi,hi',hj,hj'⟩:=L;unfold hiG3;refine wpS_bind (w_el (by omega) ?_);have m:=Mg.ha (k:=i - 1) P m (by omega) hj' (by omega) (fun x hx h1 h2=>by obtain rfl:x=i - 1:=(by omega);exact hlt _ (by omega) (by omega) (by omega));rw [u77 (by omega) hi]
 by_cases h1:i - 1=0
 ·rw [if_pos (by simpa using h1)]
  exact wpS_pure (hd _ _ _ (m.dn P (.inl h1)) e)
 rw [if_neg (by simpa using h1)];have:=hy _ (i - 1) j g ca cb st ⟨m,by omega,by omega,hj,hj'⟩ (by omega) e;split
 ·exact wpS_pure this.2
 ·exact wpS_pure this.1
theorem v60 {st0 st:SortSt} {a b o:Array Keyed} {i j n g ca cb:Nat} {Q:ForInStep Sl->SortSt->Prop} (P:LoP a b) (hk:kindOf st0=oneType') (e:Same st0 st) (L:Hi a b o i j) (hn:i+j<=n+1) (hlt:∀ x (hx:x < a.size) (hj:j - 1 < b.size),x < i->key a[x]<=key b[j - 1])
  (hd:∀ o' r st',MgD a b o'->Same st0 st'->Q (.done (some o',r)) st') (hy:∀ o i j g ca cb st',Hi a b o i j->i+j<=n->Same st0 st'->Q (.yield (none,i,j,o,g,ca,cb)) st' /\ Q (.done (none,i,j,o,g,ca,cb)) st'):wpS (model prog w) A E s (hiG2 a b o i j g ca cb) Q st:=by
 obtain ⟨m,hi,hi',hj,hj'⟩:=L;unfold hiG2;refine wpS_bind (w_el (by omega) ?_);have m:=Mg.hb (k:=j - 1) P m hi hi' (by omega) (fun x hx h1 h2=>by obtain rfl:x=j - 1:=(by omega);exact hlt _ (by omega) (by omega) (by omega));rw [u77 (by omega) (by omega)]
 by_cases h1:j - 1=1
 ·rw [if_pos (by simpa using h1)]
  exact wpS_pure (hd _ _ _ (m.fst P h1) e)
 rw [if_neg (by simpa using h1)];refine wpS_bind (w_el (by omega) (wpS_bind (uo3 (e.1.trans hk) (P.ia _ (by simp)) P.ib (by omega) (by omega) (fun x y hy _ hxy _=>P.rb x y hy hxy) fun k k1 k2 k3=>?_)));dsimp only;have m2:=Mg.hb (k:=k) P m hi hi' k1 (fun x hx h1 h2=>Int.not_lt.mp (k3 x hx (by omega) (by omega)));have rest:∀ x (hx:x < b.size) (hi:i - 1 < a.size),x < k->key b[x]<=key a[i - 1]:=fun x hx hi h1=>Int.le_of_lt (k2 x hx (by omega) (by omega))
 by_cases hk0:j - 1 - k > 0
 ·rw [if_pos hk0]
  by_cases h2:k=1
  ·rw [if_pos (by simpa using h2)]
   exact wpS_pure (hd _ _ _ (m2.fst P h2) e)
  rw [if_neg (by simpa using h2)]
  by_cases h3:k=0
  ·rw [if_pos (by simpa using h3)]
   exact wpS_pure (hd _ _ _ (m2.dn P (.inr h3)) e)
  rw [if_neg (by simpa using h3)];exact v59 P e ⟨m2,hi,hi',by (clear hk0 rest k3 k2 k1 h1 hj' hj hi' hi hy hd hlt hn hk;omega),by (clear rest k3 k2 k1 h1 hj hi' hi hy hd hlt hn hk;omega)⟩ (by omega) rest hd hy
 ·rw [if_neg hk0]
  obtain rfl:k=j - 1:=by (clear rest k3 k2 h1 hj' hi' hi hy hd hlt hn hk;omega)
  exact v59 P e ⟨m,hi,hi',by (clear rest k3 k2 k1 hj' hi' hi hy hd hlt hn hk;omega),by (clear rest k3 k2 k1 h1 hi' hi hy hd hlt hn hk;omega)⟩ (by (clear rest k3 k2 k1 h1 hj' hi' hi hy hd hlt hk;omega)) rest hd hy
theorem vl0 {st0 st:SortSt} {a b o:Array Keyed} {i j n g ca cb:Nat} {Q:ForInStep Sl->SortSt->Prop} (P:LoP a b) (hk:kindOf st0=oneType') (e:Same st0 st) (L:Hi a b o i j) (hn:i+j<=n+1)
  (hd:∀ o' r st',MgD a b o'->Same st0 st'->Q (.done (some o',r)) st') (hy:∀ o i j g ca cb st',Hi a b o i j->i+j<=n->Same st0 st'->Q (.yield (none,i,j,o,g,ca,cb)) st' /\ Q (.done (none,i,j,o,g,ca,cb)) st'):wpS (model prog w) A E s (hiG1 a b o i j g ca cb) Q st:=by
 obtain ⟨m,hi,hi',hj,hj'⟩:=L;unfold hiG1;refine wpS_bind (w_sg fun st' e'=>wpS_bind (w_el (by omega) (wpS_bind (uo3 ((e.trans e').1.trans hk) (P.ib _ (by simp)) P.ia (by omega) (by omega) (fun x y hy _ hxy _=>P.ra x y hy hxy) fun k k1 k2 k3=>?_))));have e:=e.trans e';dsimp only;have m2:=Mg.ha (k:=k) P m (by omega) hj' k1 (fun x hx h1 h2=>Int.le_of_lt (Int.not_le.mp (k3 x hx (by omega) (by omega))));have rest:∀ x (hx:x < a.size) (hj:j - 1 < b.size),x < k->key a[x]<=key b[j - 1]:=fun x hx hi h1=>k2 x hx (by omega) (by omega)
 by_cases hk0:i - k > 0
 ·rw [if_pos hk0]
  by_cases h3:k=0
  ·rw [if_pos (by simpa using h3)]
   exact wpS_pure (hd _ _ _ (m2.dn P (.inl h3)) e)
  rw [if_neg (by simpa using h3)];exact v60 P hk e ⟨m2,by omega,by omega,hj,hj'⟩ (by omega) rest hd hy
 ·rw [if_neg hk0]
  obtain rfl:k=i:=by omega
  exact v60 P hk e ⟨m,hi,hi',hj,hj'⟩ hn rest hd hy
theorem vy6 {st0 st:SortSt} {a b o:Array Keyed} {i j n g ca cb:Nat} {Q:ForInStep Sk->SortSt->Prop} (P:LoP a b) (hk:kindOf st0=oneType') (e:Same st0 st) (L:Hi a b o i j) (hn:i+j<=n+1)
  (hd:∀ o' r,MgD a b o'->Q (.done (some o',r)) st) (hy:∀ o i j ca cb,Hi a b o i j->i+j<=n->Q (.yield (none,i,j,o,ca,cb)) st /\ Q (.done (none,i,j,o,ca,cb)) st):wpS (model prog w) A E s (hiI a b o i j ca cb g) Q st:=by
 obtain ⟨m,hi,hi',hj,hj'⟩:=L;unfold hiI;refine wpS_bind (w_el (by omega) (wpS_bind (w_el (by omega) (wpS_bind (w_lt (e.1.trans hk) (P.ib _ (by simp)) (P.ia _ (by simp)) ?_)))));dsimp only
 by_cases hw:key b[j - 1] < key a[i - 1]
 ·simp only [hw,decide_true,if_true]
  refine wpS_bind (w_el (by omega) ?_);have m:=Mg.ha (k:=i - 1) P m (by omega) hj' (by omega) (fun x hx h1 h2=>by obtain rfl:x=i - 1:=(by omega);exact Int.le_of_lt hw);rw [u77 (by omega) hi]
  by_cases h1:i - 1=0
  ·rw [if_pos (by simpa using h1)]
   exact wpS_pure (hd _ _ (m.dn P (.inl h1)))
  rw [if_neg (by simpa using h1)];have:=fun ca=>hy _ (i - 1) j ca 0 ⟨m,by omega,by omega,hj,hj'⟩ (by omega)
  split
  ·exact wpS_pure (this _).2
  ·exact wpS_pure (this _).1
 ·simp only [hw,decide_false,Bool.false_eq_true,if_false]
  refine wpS_bind (w_el (by omega) ?_);have m:=Mg.hb (k:=j - 1) P m hi hi' (by omega) (fun x hx h1 h2=>by obtain rfl:x=j - 1:=(by omega);exact Int.not_lt.mp hw);rw [u77 (by omega) (by omega)]
  by_cases h1:j - 1=1
  ·rw [if_pos (by simpa using h1)]
   exact wpS_pure (hd _ _ (m.fst P h1))
  rw [if_neg (by simpa using h1)];have:=fun cb=>hy _ i (j - 1) 0 cb ⟨m,hi,hi',by omega,by omega⟩ (by omega)
  split
  ·exact wpS_pure (this _).2
  ·exact wpS_pure (this _).1
theorem w_hi {st:SortSt} {a b:Array Keyed} {Q:Array Keyed->SortSt->Prop} (hk:kindOf st=oneType') (P:LoP a b)
  (h:∀ o st',MgD a b o->Same st st'->Q o st'):wpS (model prog w) A E s (mHi a b) Q st:=by
 rw [vs5];refine wpS_bind (wpS_lift (wpAny_rule ⟨rfl,?_⟩));have hna:=P.na;have hnb:=P.nb;refine wpS_bind (w_el (by omega) ?_);have m0:MH a b #[a[a.size - 1]] (a.size - 1) b.size:=by
  have m:MH a b #[] a.size b.size:=⟨by rw [List.take_of_length_le (by simp),List.take_of_length_le (by simp)];exact (List.reverse_perm _).append (List.reverse_perm _),by simp,by simp⟩;have:=Mg.ha (k:=a.size - 1) P m hnb (Nat.le_refl _) (by omega) (fun x hx h1 h2=>by obtain rfl:x=a.size - 1:=(by omega);exact P.lt _ _);rw [<- u77 (by omega) hna] at this;exact this
 have rf:Same st st:=⟨rfl,rfl,rfl,rfl⟩
 by_cases h1:a.size - 1=0
 ·rw [if_pos (by simpa using h1)]
  exact wpS_pure (h _ _ (Mg.dn P m0 (.inl h1)) rf)
 rw [if_neg (by simpa using h1)]
 by_cases h2:b.size=1
 ·rw [if_pos (by simpa using h2)]
  exact wpS_pure (h _ _ (Mg.fst P m0 h2) rf)
 rw [if_neg (by simpa using h2)];refine wpS_bind (wpS_get ?_);refine wpS_bind (wpS_mono (wpS_forRange (I:=fun x c st'=>Same st st' /\ ∃ o i j g,c=(none,i,j,o,g) /\ Hi a b o i j /\ i+j+x+1<=a.size+b.size)
  (Q:=fun c st'=>Same st st' /\ ∃ o r,c=(some o,r) /\ MgD a b o) ?_ ?_ ⟨rf,_,_,_,_,rfl,⟨m0,by omega,by omega,by omega,Nat.le_refl _⟩,by omega⟩) ?_)
 ·rintro x _ st1 - hx ⟨e1,o,i,j,g,rfl,L,hl⟩
  refine wpS_bind (wpS_mono (wpS_forRange (I:=fun y c st'=>st'=st1 /\ ∃ o i j ca cb,c=(none,i,j,o,ca,cb) /\ Hi a b o i j /\ i+j+x+y+1<=a.size+b.size)
   (Q:=fun c st'=>st'=st1 /\ ((∃ o r,c=(some o,r) /\ MgD a b o) \/ ∃ o i j ca cb,c=(none,i,j,o,ca,cb) /\ Hi a b o i j /\ i+j+x+2<=a.size+b.size)) ?_ ?_ ⟨rfl,_,_,_,_,_,rfl,L,by omega⟩) ?_)
  ·rintro y _ _ - hy ⟨rfl,o,i,j,ca,cb,rfl,L,hl⟩
   dsimp only;have h5:=L.p1;refine vy6 (n:=i+j - 1) P hk e1 L (by omega) (fun o' r m=>⟨rfl,.inl ⟨_,_,rfl,m⟩⟩) fun o i j ca cb L h=>⟨⟨rfl,_,_,_,_,_,rfl,L,by omega⟩,rfl,.inr ⟨_,_,_,_,_,rfl,L,by omega⟩⟩
  ·rintro _ _ ⟨rfl,o,i,j,ca,cb,rfl,L,hl⟩
   exact ⟨rfl,.inr ⟨_,_,_,_,_,rfl,L,by omega⟩⟩
  ·rintro _ _ ⟨rfl,⟨o,r,rfl,m⟩ | ⟨o,i,j,ca,cb,rfl,L,hl⟩⟩
   ·exact wpS_pure ⟨e1,_,_,rfl,m⟩
   refine wpS_bind (wpS_lift (wpAny_rule ⟨rfl,?_⟩));refine wpS_bind (wpS_mono (wpS_forRange (I:=fun y c st'=>Same st st' /\ ∃ o i j g ca cb,c=(none,i,j,o,g,ca,cb) /\ Hi a b o i j /\ i+j+x+2<=a.size+b.size)
    (Q:=fun c st'=>Same st st' /\ ((∃ o r,c=(some o,r) /\ MgD a b o) \/ ∃ o i j g ca cb,c=(none,i,j,o,g,ca,cb) /\ Hi a b o i j /\ i+j+x+2<=a.size+b.size)) ?_ ?_ ⟨e1,_,_,_,_,_,_,rfl,L,hl⟩) ?_)
   ·rintro y _ st2 - hy ⟨e2,o,i,j,g,ca,cb,rfl,L,hl⟩
    dsimp only;split <;> exact vl0 (n:=i+j) P hk e2 L (by omega) (fun o' r st' m e=>⟨e,.inl ⟨_,_,rfl,m⟩⟩) fun o i j g ca cb st' L h e=>⟨⟨e,_,_,_,_,_,_,rfl,L,by omega⟩,e,.inr ⟨_,_,_,_,_,_,rfl,L,by omega⟩⟩
   ·rintro _ _ ⟨e2,o,i,j,g,ca,cb,rfl,L,hl⟩
    exact ⟨e2,.inr ⟨_,_,_,_,_,_,rfl,L,hl⟩⟩
   ·rintro _ _ ⟨e2,⟨o,r,rfl,m⟩ | ⟨o,i,j,g,ca,cb,rfl,L,hl⟩⟩
    ·exact wpS_pure ⟨e2,_,_,rfl,m⟩
    exact wpS_bind (w_sg fun st' e'=>wpS_pure ⟨e2.trans e',_,_,_,_,rfl,L,by omega⟩)
 ·rintro _ _ ⟨e1,o,i,j,g,rfl,L,hl⟩
  have h3:=L.p1;have h4:=L.p3;omega
 ·rintro _ _ ⟨e1,o,r,rfl,m⟩
  exact wpS_pure (h _ _ m e1)
end
def tl (lo n m:Nat):S (Option Nat):=do
 reverseSlice' lo (lo+n)
 let c:Option (Option Nat) × Nat <- forIn [n:m] ((none,n):Option (Option Nat) × Nat) fun _ (c:Option (Option Nat) × Nat)=>do
  match <- ltAt' (lo+c.2) (lo+c.2 - 1) with
  | some e=>if e then pure (.done (none,c.2)) else pure (.yield (none,c.2+1))
  | _=>pure (.done (some none,c.2))
 match c.1 with
 | some r=>pure r
 | none=>pure (some c.2)
def ds (lo n m:Nat):S (Option Nat):=do
 rule "list.sort.descending-run"
 let c:Option (Option Nat) × Nat × Nat <- forIn [n+1:m] ((none,n+1,0):Option (Option Nat) × Nat × Nat) fun _ (c:Option (Option Nat) × Nat × Nat)=>do
  match <- ltAt' (lo+c.2.1) (lo+c.2.1 - 1) with
  | some e=>if e then (if c.2.2 > 0 then (do reverseSlice' (lo+c.2.1 - (c.2.2+1)) (lo+c.2.1);pure (.yield (none,c.2.1+1,0))) else pure (.yield (none,c.2.1+1,0))) else do
   match <- ltAt' (lo+c.2.1 - 1) (lo+c.2.1) with
   | some e=>if e then pure (.done (none,c.2.1,c.2.2)) else pure (.yield (none,c.2.1+1,c.2.2+1))
   | _=>pure (.done (some none,c.2.1,c.2.2))
  | _=>pure (.done (some none,c.2.1,c.2.2))
 match c.1 with
 | some r=>pure r
 | none=>if c.2.2 > 0 then (do reverseSlice' (lo+c.2.1 - (c.2.2+1)) (lo+c.2.1);tl lo c.2.1 m) else tl lo c.2.1 m
theorem w17 (lo m:Nat):countRun' lo m=(do
 let c:Option (Option Nat) × Nat <- forIn [1:m] ((none,1):Option (Option Nat) × Nat) fun _ (c:Option (Option Nat) × Nat)=>do
  match <- ltAt' (lo+c.2) (lo+c.2 - 1) with
  | some e=>if e then pure (.done (none,c.2)) else pure (.yield (none,c.2+1))
  | _=>pure (.done (some none,c.2))
 match c.1 with
 | some r=>pure r
 | none=>if c.2 == m then pure (some c.2) else if c.2 > 1 then (do
   match <- ltAt' lo (lo+c.2 - 1) with
   | some e=>if e then pure (some c.2) else (do reverseSlice' lo (lo+c.2);ds lo c.2 m)
   | _=>pure none) else ds lo c.2 m):=by kernel_rfl
def Sk' (xs:Array Keyed) (lo hi:Nat):Prop:=∀ i j,lo<=i->i<=j->j < hi->K xs i<=K xs j
def Fk (xs:Array Keyed) (lo hi:Nat):Prop:=∀ i j,lo<=i->i<=j->j < hi->K xs j<=K xs i
abbrev Pd:=Array (Nat × Nat × Nat)
structure Ok (lo:Nat) (a:Array Keyed) (pd:Pd) (st:SortSt):Prop where
 kind:kindOf st=oneType'
 fl:failedOf st=none
 pd:pendingOf st=pd
 pm:(arrOf st).Perm a
 lo:∀ x,x < lo->(arrOf st)[x]?=a[x]?
theorem Ok.size {lo:Nat} {a:Array Keyed} {pd:Pd} {st:SortSt} (h:Ok lo a pd st):(arrOf st).size=a.size:=h.pm.size_eq
theorem Ok.set {lo:Nat} {a:Array Keyed} {pd:Pd} {st:SortSt} (h:Ok lo a pd st) {xs:Array Keyed} (hp:xs.Perm (arrOf st)) (hx:∀ x,x < lo->xs[x]?=(arrOf st)[x]?):Ok lo a pd (setArr st xs):=⟨h.kind,h.fl,h.pd,hp.trans h.pm,fun x hx'=>(hx x hx').trans (h.lo x hx')⟩
def AI (a:Array Keyed):Prop:=∀ x ∈ a.toList,IsI x
theorem AI.perm {a b:Array Keyed} (h:AI a) (p:b.Perm a):AI b:=fun x hx=>h x ((Array.perm_iff_toList_perm.mp p).mem_iff.mp hx)
theorem u56 {a:Array Keyed} {i:Nat} (h:i < a.size):K a i=key a[i]:=by unfold K;rw [getElem?_pos a i h];rfl
theorem Sk'.one {xs:Array Keyed} {lo:Nat}:Sk' xs lo (lo+1):=fun i j _ _ _=>by
 obtain rfl:i=j:=by omega
 exact Int.le_refl _
theorem Sk'.snoc {xs:Array Keyed} {lo x:Nat} (h:Sk' xs lo x) (hx:lo < x) (h':¬ K xs x < K xs (x - 1)):Sk' xs lo (x+1):=fun i j h1 h2 h3=>by
 by_cases hj:j=x
 ·subst hj
  by_cases hi:i=j
  ·subst hi;exact Int.le_refl _
  ·exact Int.le_trans (h i (j - 1) h1 (by omega) (by omega)) (Int.not_lt.mp h')
 ·exact h i j h1 h2 (by omega)
theorem Fk.snoc {xs:Array Keyed} {lo x:Nat} (h:Fk xs lo x) (hx:lo < x) (h':K xs x<=K xs (x - 1)):Fk xs lo (x+1):=fun i j h1 h2 h3=>by
 by_cases hj:j=x
 ·subst hj
  by_cases hi:i=j
  ·subst hi;exact Int.le_refl _
  ·exact Int.le_trans h' (h i (j - 1) h1 (by omega) (by omega))
 ·exact h i j h1 h2 (by omega)
theorem um5 {xs:Array Keyed} {i j lo:Nat} (hj:j<=xs.size) (h:lo<=i) (x:Nat) (hx:x < lo):(mirror xs i j ((j - i) / 2))[x]?=xs[x]?:=by
 rw [getElem?_mirror_all hj,if_neg (by omega)]
section
variable {prog:Program} {w:World} {A:Around} {E:Value->Shared->Prop} {s:Shared} {a:Array Keyed} {pd:Pd}
theorem w_at {lo:Nat} {st:SortSt} {i j:Nat} {Q:Option Bool->SortSt->Prop} (hB:Ok lo a pd st) (h0:AI a) (hi:i < a.size) (hj:j < a.size)
  (h:Q (some (decide (K (arrOf st) i < K (arrOf st) j))) st):wpS (model prog w) A E s (ltAt' i j) Q st:=by
 have hs:=hB.size;have h1:=h0.perm hB.pm;rw [ltAt'_eq];refine wpS_bind (wpS_get (wpS_bind (w_el (by omega) (wpS_bind (w_el (by omega) (w_lt hB.kind (h1 _ (by simp)) (h1 _ (by simp)) ?_))))))
 rwa [u56 (by omega),u56 (by omega)] at h
theorem w_rv {st:SortSt} {i j:Nat} {Q:Unit->SortSt->Prop} (h:Q () (setArr st (mirror (arrOf st) i j ((j - i) / 2)))):wpS (model prog w) A E s (reverseSlice' i j) Q st:=by
 rw [reverseSlice'_eq];exact wpS_modify h
theorem vl3 {lo:Nat} {st:SortSt} {n m:Nat} {Q:Option (Option Nat) × Nat->SortSt->Prop} (h0:AI a) (hm:lo+m<=a.size) (h1:1<=n) (hnm:n<=m) (hB:Ok lo a pd st) (hs:Sk' (arrOf st) lo (lo+n))
  (h:∀ k,n<=k->k<=m->Sk' (arrOf st) lo (lo+k)->(k=m \/ K (arrOf st) (lo+k) < K (arrOf st) (lo+k - 1))->Q (none,k) st):wpS (model prog w) A E s (forIn [n:m] ((none,n):Option (Option Nat) × Nat) fun _ (c:Option (Option Nat) × Nat)=>do
  match <- ltAt' (lo+c.2) (lo+c.2 - 1) with
  | some e=>if e then pure (.done (none,c.2)) else pure (.yield (none,c.2+1))
  | _=>pure (.done (some none,c.2))) Q st:=by
 refine wpS_forRange (I:=fun x c st'=>st'=st /\ c=(none,x) /\ Sk' (arrOf st) lo (lo+x)) ?_ ?_ ⟨rfl,rfl,hs⟩
 ·rintro x _ _ hx1 hx ⟨rfl,rfl,g⟩
  refine wpS_bind (w_at hB h0 (by dsimp only;omega) (by dsimp only;omega) ?_);dsimp only
  by_cases hl:K (arrOf ‹SortSt›) (lo+x) < K (arrOf ‹SortSt›) (lo+x - 1)
  ·simp only [hl,decide_true,if_true]
   exact wpS_pure (h x hx1 (by omega) g (.inr hl))
  ·simp only [hl,decide_false,Bool.false_eq_true,if_false]
   exact wpS_pure ⟨rfl,rfl,g.snoc (by omega) hl⟩
 ·rintro _ _ ⟨rfl,rfl,g⟩
  rw [show max n m=m by omega] at g ⊢;exact h m hnm (Nat.le_refl _) g (.inl rfl)
theorem w_tl {lo:Nat} {st:SortSt} {n m:Nat} {Q:Option Nat->SortSt->Prop} (h0:AI a) (hm:lo+m<=a.size) (h1:1<=n) (hnm:n<=m) (hB:Ok lo a pd st) (hs:Fk (arrOf st) lo (lo+n))
  (h:∀ k st',Ok lo a pd st'->1<=k->k<=m->Sk' (arrOf st') lo (lo+k)->Q (some k) st'):wpS (model prog w) A E s (tl lo n m) Q st:=by
 unfold tl;have hz:=hB.size;have hsz:lo+n<=(arrOf st).size:=by omega
 have hB':Ok lo a pd (setArr st (mirror (arrOf st) lo (lo+n) ((lo+n - lo) / 2))):=hB.set (mirror_perm _ _ _ _) (um5 hsz (Nat.le_refl _));refine wpS_bind (w_rv (wpS_bind (vl3 h0 hm h1 hnm hB' ?_ fun k k1 k2 k3 _=>wpS_pure (h k _ hB' (by omega) k2 k3))));intro i j a1 a2 a3
 show K (mirror _ _ _ _) i<=K (mirror _ _ _ _) j
 rw [K_mirror hsz,K_mirror hsz,if_pos (by omega),if_pos (by omega)];exact hs _ _ (by omega) (by (clear a1 hsz hz h hnm h1 hm;omega)) (by omega)
theorem w_ds {lo:Nat} {st:SortSt} {n m:Nat} {Q:Option Nat->SortSt->Prop} (h0:AI a) (hm:lo+m<=a.size) (hnm:n+1<=m) (hB:Ok lo a pd st) (hs:Fk (arrOf st) lo (lo+n+1))
  (h:∀ k st',Ok lo a pd st'->1<=k->k<=m->Sk' (arrOf st') lo (lo+k)->Q (some k) st'):wpS (model prog w) A E s (ds lo n m) Q st:=by
 unfold ds;refine wpS_bind (wpS_lift (wpAny_rule ⟨rfl,?_⟩));refine wpS_bind (wpS_mono (wpS_forRange (I:=fun x c st'=>∃ e,c=(none,x,e) /\ Ok lo a pd st' /\ Fk (arrOf st') lo (lo+x) /\ e+1<=x /\ ∀ i,lo+x - (e+1)<=i->i < lo+x->K (arrOf st') i=K (arrOf st') (lo+x - 1))
  (Q:=fun c st'=>∃ x e,c=(none,x,e) /\ n+1<=x /\ x<=m /\ Ok lo a pd st' /\ Fk (arrOf st') lo (lo+x) /\ e+1<=x /\ ∀ i,lo+x - (e+1)<=i->i < lo+x->K (arrOf st') i=K (arrOf st') (lo+x - 1))
  ?_ ?_ ⟨0,rfl,hB,hs,by omega,fun i h1 h2=>by congr 1;omega⟩) ?_)
 ·rintro x _ st1 hx1 hx ⟨e,rfl,B,F,e1,e2⟩
  have hz:=B.size;refine wpS_bind (w_at B h0 (by dsimp only;omega) (by dsimp only;omega) ?_);dsimp only
  by_cases hl:K (arrOf st1) (lo+x) < K (arrOf st1) (lo+x - 1)
  ·simp only [hl,decide_true,if_true]
   have hsz:lo+x<=(arrOf st1).size:=by omega
   by_cases he:e > 0
   ·rw [if_pos he]
    refine wpS_bind (w_rv (wpS_pure ⟨0,rfl,B.set (mirror_perm _ _ _ _) (um5 hsz (by (clear he hsz hl hz e2 hx hx1 h hnm hm;omega))),fun i j a1 a2 a3=>?_,by omega,fun i a1 a2=>by congr 1;(clear he hsz hl hz e2 e1 hx h hnm hm;omega)⟩))
    show K (mirror _ _ _ _) j<=K (mirror _ _ _ _) i
    rw [K_mirror_equal hsz e2,K_mirror_equal hsz e2];exact F.snoc (by omega) (Int.le_of_lt hl) i j a1 a2 a3
   ·rw [if_neg he]
    exact wpS_pure ⟨0,rfl,B,F.snoc (by omega) (Int.le_of_lt hl),by omega,fun i a1 a2=>by congr 1;(clear he hsz hl hz e2 e1 hx h hnm hm;omega)⟩
  ·simp only [hl,decide_false,Bool.false_eq_true,if_false]
   refine wpS_bind (w_at B h0 (by omega) (by omega) ?_);dsimp only
   by_cases hg:K (arrOf st1) (lo+x - 1) < K (arrOf st1) (lo+x)
   ·simp only [hg,decide_true,if_true]
    exact wpS_pure ⟨x,e,rfl,hx1,by omega,B,F,e1,e2⟩
   ·simp only [hg,decide_false,Bool.false_eq_true,if_false]
    refine wpS_pure ⟨e+1,rfl,B,F.snoc (by omega) (by omega),by omega,fun i a1 a2=>?_⟩;rw [show lo+(x+1) - 1=lo+x by omega]
    by_cases hi:i=lo+x
    ·rw [hi]
    ·rw [e2 i (by (clear hg hl hz e2 hx hx1 h hnm hm;omega)) (by (clear a1 hg hl hz e2 e1 hx hx1 h hnm hm;omega))];(clear hi a2 a1 hz e2 e1 hx hx1 h hnm hm;omega)
 ·rintro _ _ ⟨e,rfl,B,F,e1,e2⟩
  rw [show max (n+1) m=m by omega] at *;exact ⟨m,e,rfl,hnm,Nat.le_refl _,B,F,e1,e2⟩
 ·rintro _ st1 ⟨x,e,rfl,x1,x2,B,F,e1,e2⟩
  have hz:=B.size;have hsz:lo+x<=(arrOf st1).size:=by omega
  dsimp only
  by_cases he:e > 0
  ·rw [if_pos he]
   refine wpS_bind (w_rv (w_tl h0 hm (by omega) x2 (B.set (mirror_perm _ _ _ _) (um5 hsz (by omega))) (fun i j a1 a2 a3=>?_) h))
   show K (mirror _ _ _ _) j<=K (mirror _ _ _ _) i
   rw [K_mirror_equal hsz e2,K_mirror_equal hsz e2];exact F i j a1 a2 a3
  ·rw [if_neg he]
   exact w_tl h0 hm (by omega) x2 B F h
theorem w_cr {lo:Nat} {st:SortSt} {m:Nat} {Q:Option Nat->SortSt->Prop} (h0:AI a) (hm:lo+m<=a.size) (h1:1<=m) (hB:Ok lo a pd st)
  (h:∀ k st',Ok lo a pd st'->1<=k->k<=m->Sk' (arrOf st') lo (lo+k)->Q (some k) st'):wpS (model prog w) A E s (countRun' lo m) Q st:=by
 rw [w17];have hz:=hB.size;refine wpS_bind (vl3 h0 hm (Nat.le_refl _) h1 hB Sk'.one fun n n1 n2 n3 n4=>?_);dsimp only
 by_cases hn:n=m
 ·rw [if_pos (by simpa using hn)]
  exact wpS_pure (h n st hB n1 n2 n3)
 rw [if_neg (by simpa using hn)];have hlt:=n4.resolve_left hn
 by_cases hg:n > 1
 ·rw [if_pos hg]
  refine wpS_bind (w_at hB h0 (by omega) (by omega) ?_);dsimp only
  by_cases hr:K (arrOf st) lo < K (arrOf st) (lo+n - 1)
  ·simp only [hr,decide_true,if_true]
   exact wpS_pure (h n st hB n1 n2 n3)
  ·simp only [hr,decide_false,Bool.false_eq_true,if_false]
   have hsz:lo+n<=(arrOf st).size:=by omega
   have al:∀ k,lo<=k->k < lo+n->K (arrOf st) k=K (arrOf st) (lo+n - 1):=fun k k1 k2=>by
    have a1:=n3 lo k (by omega) (by omega) k2;have a2:=n3 k (lo+n - 1) (by omega) (by (clear a1 k1 hsz hr hg hlt hn n4 n2 n1 hz h h1 hm;omega)) (by omega)
    (clear k2 k1 hsz hg hlt hn n4 n2 n1 hz h h1 hm;omega)
   refine wpS_bind (w_rv (w_ds h0 hm (by omega) (hB.set (mirror_perm _ _ _ _) (um5 hsz (Nat.le_refl _))) (fun i j a1 a2 a3=>?_) h))
   show K (mirror _ _ _ _) j<=K (mirror _ _ _ _) i
   rw [K_mirror_equal hsz al,K_mirror_equal hsz al];refine Fk.snoc (fun i j b1 b2 b3=>?_) (by omega) (Int.le_of_lt hlt) i j a1 a2 a3;rw [al i b1 (by (clear b1 a3 a2 a1 al hsz hr hg hlt hn n4 n2 n1 hz h h1 hm;omega)),al j (by (clear b3 a3 a2 a1 al hsz hr hg hlt hn n4 n2 n1 hz h h1 hm;omega)) b3];exact Int.le_refl _
 ·rw [if_neg hg]
  obtain rfl:n=1:=by omega
  refine w_ds h0 hm (by omega) hB (Fk.snoc (fun i j b1 b2 b3=>?_) (by omega) (Int.le_of_lt hlt)) h;obtain rfl:i=j:=by omega
  exact Int.le_refl _
theorem w_bs {lo:Nat} {st:SortSt} {n k:Nat} {Q:Bool->SortSt->Prop} (h0:AI a) (hn:lo+n<=a.size) (hk:k<=n) (hk1:1<=k) (hB:Ok lo a pd st) (hs:Sk' (arrOf st) lo (lo+k))
  (h:∀ st',Ok lo a pd st'->Sk' (arrOf st') lo (lo+n)->Q true st'):wpS (model prog w) A E s (binarySort' lo n k) Q st:=by
 rw [binarySort'_eq,show max k 1=k by omega];refine wpS_bind (wpS_mono (wpS_forRange (I:=fun x c st'=>c=(none,()) /\ Ok lo a pd st' /\ Sk' (arrOf st') lo (lo+x))
  (Q:=fun c st'=>c=(none,()) /\ Ok lo a pd st' /\ Sk' (arrOf st') lo (lo+n)) ?_ ?_ ⟨rfl,hB,hs⟩) ?_)
 ·rintro x _ st1 hx1 hx ⟨rfl,B,g⟩
  have hz:=B.size;refine wpS_bind (wpS_mono (wpS_forRange (I:=fun y c st'=>st'=st1 /\ ∃ l r,c=(none,l,r) /\ l<=r /\ r<=x /\ r - l+y<=x /\ (∀ i,i < l->K (arrOf st1) (lo+i)<=K (arrOf st1) (lo+x)) /\ ∀ i,r<=i->i < x->K (arrOf st1) (lo+x) < K (arrOf st1) (lo+i))
   (Q:=fun c st'=>st'=st1 /\ ∃ l,c=(none,l,l) /\ l<=x /\ (∀ i,i < l->K (arrOf st1) (lo+i)<=K (arrOf st1) (lo+x)) /\ ∀ i,l<=i->i < x->K (arrOf st1) (lo+x) < K (arrOf st1) (lo+i))
   ?_ ?_ ⟨rfl,0,x,rfl,by omega,by omega,by omega,fun i hi=>by omega,fun i a1 a2=>by omega⟩) ?_)
  ·rintro y _ _ - hy ⟨rfl,l,r,rfl,b1,b2,b3,b4,b5⟩
   dsimp only
   by_cases hl:l ≥ r
   ·rw [if_pos hl]
    obtain rfl:l=r:=by (clear b5 b4 b3 b2 hz hy hx hx1 h hk1 hk hn;omega)
    exact wpS_pure ⟨rfl,l,rfl,b2,b4,b5⟩
   ·rw [if_neg hl]
    refine wpS_bind (w_at B h0 (by omega) (by omega) ?_)
    by_cases hq:K (arrOf ‹SortSt›) (lo+x) < K (arrOf ‹SortSt›) (lo+(l+r) / 2)
    ·simp only [hq,decide_true,if_true]
     exact wpS_pure ⟨rfl,_,_,rfl,by (clear hq b5 b4 b3 b2 b1 hz hy hx hx1 h hk1 hk hn;omega),by (clear hq b5 b4 b3 b1 hz hy hx hx1 h hk1 hk hn;omega),by (clear hq b5 b4 b2 b1 hz hx hx1 h hk1 hk hn;omega),b4,fun i c1 c2=>Int.lt_of_lt_of_le hq (g _ _ (by (clear c2 c1 hq b5 b4 b3 b2 b1 hz hy hx hx1 h hk1 hk hn;omega)) (by omega) (by omega))⟩
    ·simp only [hq,decide_false,Bool.false_eq_true,if_false]
     exact wpS_pure ⟨rfl,_,_,rfl,by (clear hq b5 b4 b3 b2 b1 hz hy hx hx1 h hk1 hk hn;omega),by omega,by (clear hq b5 b4 b2 b1 hz hx hx1 h hk1 hk hn;omega),fun i c1=>Int.le_trans (g (lo+i) (lo+(l+r) / 2) (by omega) (by (clear hq hl b5 b4 b3 b2 b1 hz hy hx hx1 h hk1 hk hn;omega)) (by (clear c1 hq b5 b4 b3 b1 hz hy hx hx1 h hk1 hk hn;omega))) (Int.not_lt.mp hq),b5⟩
  ·rintro _ _ ⟨rfl,l,r,rfl,b1,b2,b3,b4,b5⟩
   obtain rfl:l=r:=by (clear b5 b4 b2 hz hx hx1 h hk1 hk hn;omega)
   exact ⟨rfl,l,rfl,b2,b4,b5⟩
  ·rintro _ _ ⟨rfl,l,rfl,b2,b4,b5⟩
   show wpS _ _ _ _ (do moveDown' (lo+x) (lo+l);pure (ForInStep.yield (none,()))) _ _
   rw [moveDown'_eq];have hks:lo+x < (arrOf ‹SortSt›).size:=by omega
   refine wpS_bind (wpS_modify (wpS_pure ⟨rfl,B.set (bubble_perm _ _ _) (fun y hy=>?_),fun i j c1 c2 c3=>?_⟩))
   ·rw [getElem?_bubble hks _ (by omega),if_neg (by omega),if_neg (by (clear hks b5 b4 hz hx hx1 h hk1 hk hn;omega))]
   show K (bubble _ _ _) i<=K (bubble _ _ _) j
   rw [K_bubble hks (by omega),K_bubble hks (by omega),show lo+x - (lo+x - (lo+l))=lo+l by omega];have b4':∀ i,lo<=i->i < lo+l->K (arrOf ‹SortSt›) i<=K (arrOf ‹SortSt›) (lo+x):=fun i d1 d2=>by have:=b4 (i - lo) (by (clear c3 c2 c1 hks b5 b4 b2 hz hx hx1 h hk1 hk hn;omega));rwa [show lo+(i - lo)=i by (clear this d2 c3 c2 c1 hks b5 b4 b2 hz hx hx1 h hk1 hk hn;omega)] at this
   have b5':∀ i,lo+l<=i->i < lo+x->K (arrOf ‹SortSt›) (lo+x) < K (arrOf ‹SortSt›) i:=fun i d1 d2=>by have:=b5 (i - lo) (by (clear d2 b4' c3 c2 c1 hks b5 b4 b2 hz hx hx1 h hk1 hk hn;omega)) (by omega);rwa [show lo+(i - lo)=i by (clear this d2 b4' c3 c2 c1 hks b5 b4 b2 hz hx hx1 h hk1 hk hn;omega)] at this
   repeat' split
   all_goals first
    | (exfalso;omega)
    | exact Int.le_refl _
    | exact b4' _ (by omega) (by (clear b5' b4' c1 hks b5 b4 b2 hz hx hx1 h hk1 hk hn;omega))
    | exact Int.le_of_lt (b5' _ (by (clear b5' b4' c3 c2 c1 hks b5 b4 b2 hz hx hx1 h hk1 hk hn;omega)) (by (clear b5' b4' c2 c1 hks b5 b4 b2 hz hx h hk hn;omega)))
    | exact g _ _ (by omega) (by omega) (by omega)
 ·rintro _ _ ⟨rfl,B,g⟩
  rw [show max k n=n by omega] at g;exact ⟨rfl,B,g⟩
 ·rintro _ _ ⟨rfl,B,g⟩
  exact wpS_pure (h _ B g)
end
theorem ur4 (c:Nat):∀ (m:List Keyed) (n:Nat) (a:Array Keyed),c+n+m.length<=a.size->((m.zipIdx n).foldl (fun a (x:Keyed × Nat)=>a.setIfInBounds (c+x.2) x.1) a).toList=a.toList.take (c+n)++m++a.toList.drop (c+n+m.length)
 | [],n,a,h=>by simp
 | p::m,n,a,h=>by
  rw [List.zipIdx_cons,List.foldl_cons,ur4 c m (n+1) _ (by simp at h ⊢;omega)];have hl:c+n < a.toList.length:=by simp at h ⊢;omega
  rw [Array.toList_setIfInBounds,List.set_eq_take_append_cons_drop,if_pos hl,show c+(n+1)=c+n+1 by omega];have h1:(a.toList.take (c+n)++[p]).length=c+n+1:=by simp at hl ⊢;omega
  have e:a.toList.take (c+n)++p::a.toList.drop (c+n+1)=(a.toList.take (c+n)++[p])++a.toList.drop (c+n+1):=by simp
  show List.take (c+n+1) (a.toList.take (c+n)++p::a.toList.drop (c+n+1))++m++List.drop (c+n+1+m.length) (a.toList.take (c+n)++p::a.toList.drop (c+n+1))=_
  rw [e,List.take_left' h1,<- List.drop_drop,List.drop_left' h1,List.drop_drop,List.length_cons,show c+n+(m.length+1)=c+n+1+m.length by omega];simp
theorem vs6 (i:Nat):mergeAt' i=(do
 let st <- get
 match (pendingOf st)[i]?,(pendingOf st)[i+1]? with
 | some (sa,na,p),some (sb,nb,_)=>do
  set (setPending st (((pendingOf st).setIfInBounds i (sa,na+nb,p)).eraseIdxIfInBounds (i+1)))
  let y <- elem' (arrOf st) sb
  match <- gal false y (arrOf st) sa na 0 with
  | some k=>if na - k == 0 then pure true else (do
    let z <- elem' (arrOf st) (sa+k+(na - k) - 1)
    match <- gal true z (arrOf st) sb nb (nb - 1) with
    | some l=>if l == 0 then pure true else (do
      let o <- if na - k<=l then mLo ((arrOf st).extract (sa+k) sb) ((arrOf st).extract sb (sb+l)) else mHi ((arrOf st).extract (sa+k) sb) ((arrOf st).extract sb (sb+l))
      modify fun t=>setArr t (o.toList.zipIdx.foldl (fun a (x:Keyed × Nat)=>a.setIfInBounds (sa+k+x.2) x.1) (arrOf t))
      return (failedOf (<- get)).isNone)
    | _=>pure false)
  | _=>pure false
 | _,_=>unsupported "internal:list.sort.pending"):=by kernel_rfl
theorem Sk'.key {a:Array Keyed} {lo hi:Nat} (h:Sk' a lo hi) (i j:Nat) (hj:j < a.size) (h1:lo<=i) (hij:i<=j) (h2:j < hi):key a[i]<=key a[j]:=by
 have:=h i j h1 hij h2
 rwa [u56 (by omega),u56 hj] at this
def Mrg (a a':Array Keyed) (lo hi:Nat):Prop:=a'.Perm a /\ (∀ x,x < lo \/ hi<=x->a'[x]?=a[x]?) /\ Sk' a' lo hi
theorem w25 {l:List Keyed} {a:Array Keyed} {i:Nat} (h:a.toList=l) (hi:i < l.length):K a i=TS.key l[i]:=by
 subst h;rw [u56 (by simpa using hi)];simp
theorem vs1 {a:Array Keyed} {u v:Nat} (hv:v<=a.size) {x:Keyed} (h:x ∈ (a.extract u v).toList):∃ j,u<=j /\ j < v /\ TS.key x=K a j:=by
 rw [Array.toList_extract,List.extract_eq_take_drop] at h;obtain ⟨j,hj,e⟩:=List.mem_iff_getElem.mp h;simp only [List.length_take,List.length_drop,Array.length_toList] at hj;rw [List.getElem_take,List.getElem_drop] at e;refine ⟨u+j,by omega,by omega,?_⟩;rw [<- e,u56 (by omega)];simp
theorem vr9 {a a' o:Array Keyed} {sa sb k l nb:Nat} (h1:sa+k < sb) (hl:0 < l) (hln:l<=nb) (hz:sb+nb<=a.size) (s1:Sk' a sa sb) (s2:Sk' a sb (sb+nb))
  (g1:∀ x,sa<=x->x < sa+k->K a x<=K a sb) (g2:∀ x,sa+k<=x->x < sb->K a sb<=K a x) (g3:∀ x,sb<=x->x < sb+l->K a x<=K a (sb - 1)) (g4:∀ x,sb+l<=x->x < sb+nb->K a (sb - 1)<=K a x)
  (hm:MgD (a.extract (sa+k) sb) (a.extract sb (sb+l)) o) (he:a'.toList=a.toList.take (sa+k)++o.toList++a.toList.drop (sa+k+o.toList.length)):Mrg a a' sa (sb+nb):=by
 obtain ⟨m1,m2⟩:=hm;have ln:o.toList.length=sb+l - (sa+k):=by
  rw [m1.length_eq,List.length_append,Array.length_toList,Array.length_toList,Array.size_extract,Array.size_extract];omega
 have e2:sa+k+o.toList.length=sb+l:=by omega
 rw [e2] at he;have hu:(a.extract (sa+k) sb).toList++(a.extract sb (sb+l)).toList=(a.toList.drop (sa+k)).take (sb+l - (sa+k)):=by
  rw [Array.toList_extract,Array.toList_extract,List.extract_eq_take_drop,List.extract_eq_take_drop,show sb+l - (sa+k)=(sb - (sa+k))+l by omega,List.take_add,List.drop_drop,show sa+k+(sb - (sa+k))=sb by omega,show sb+l - sb=l by omega]
 have hp:a'.Perm a:=by
  rw [Array.perm_iff_toList_perm,he];have:a.toList=a.toList.take (sa+k)++(a.toList.drop (sa+k)).take (sb+l - (sa+k))++a.toList.drop (sb+l):=by
   rw [List.append_assoc]
   conv=>lhs;rw [<- List.take_append_drop (sa+k) a.toList,<- List.take_append_drop (sb+l - (sa+k)) (a.toList.drop (sa+k)),List.drop_drop,show sa+k+(sb+l - (sa+k))=sb+l by omega]
  conv=>rhs;rw [this]
  rw [<- hu];exact (m1.append_left _).append_right _
 have t1:(a.toList.take (sa+k)).length=sa+k:=by rw [List.length_take,Array.length_toList];omega
 have out:∀ x,x < sa+k \/ sb+l<=x->a'[x]?=a[x]?:=by
  intro x hx;rw [<- Array.getElem?_toList,<- Array.getElem?_toList,he]
  rcases hx with hx | hx
  ·rw [List.append_assoc,List.getElem?_append_left (by (clear hu e2 ln he g4 g3 g2 g1 hz hln hl h1;omega)),List.getElem?_take_of_lt hx]
  ·rw [List.getElem?_append_right (by rw [List.length_append];omega),List.getElem?_drop,List.length_append,t1,ln]
   congr 1;(clear hu he g4 g3 g2 g1 hz hln hl h1;omega)
 have inn:∀ x,sa+k<=x->x < sb+l->∃ hx:x - (sa+k) < o.toList.length,K a' x=TS.key o.toList[x - (sa+k)]:=by
  intro x h1 h2;have hlen:x < (a.toList.take (sa+k)++o.toList++a.toList.drop (sb+l)).length:=by rw [List.length_append,List.length_append];omega
  refine ⟨by (clear hlen out hu he g4 g3 g2 g1 hz hln hl;omega),?_⟩;rw [w25 he hlen]
  congr 1
  rw [List.getElem_append_left (by rw [List.length_append];omega),List.getElem_append_right (by omega)]
  congr 1
  (clear hlen h2 out hu e2 ln he g4 g3 g2 g1 hz hln hl;omega)
 have bd:∀ x,sa+k<=x->x < sb+l->K a sb<=K a' x /\ K a' x<=K a (sb - 1):=by
  intro x h1 h2;obtain ⟨hx,e⟩:=inn x h1 h2;rw [e];have:=m1.mem_iff.mp (List.getElem_mem hx)
  rcases List.mem_append.mp this with q | q
  ·obtain ⟨j,j1,j2,e⟩:=vs1 (by omega) q
   rw [e];exact ⟨g2 j j1 j2,s1 j (sb - 1) (by omega) (by (clear e j1 h2 h1 inn out hu he g4 g3 g2 g1 hz hln hl;omega)) (by omega)⟩
  ·obtain ⟨j,j1,j2,e⟩:=vs1 (by omega) q
   rw [e];exact ⟨s2 sb j (by omega) j1 (by omega),g3 j j1 j2⟩
 refine ⟨hp,fun x hx=>out x (by omega),fun i j i1 ij j1=>?_⟩;have ko:∀ x,x < sa+k \/ sb+l<=x->K a' x=K a x:=fun x hx=>K_congr (out x hx)
 by_cases c1:j < sa+k
 ·rw [ko i (.inl (by (clear ko j1 i1 bd inn out hu e2 ln he g4 g3 g2 g1 hz hln hl h1;omega))),ko j (.inl c1)]
  exact s1 i j i1 ij (by omega)
 by_cases c2:i < sa+k
 ·rw [ko i (.inl c2)]
  refine Int.le_trans (g1 i i1 c2) ?_
  by_cases c3:j < sb+l
  ·exact (bd j (by (clear c3 c2 ko j1 ij i1 bd inn out hu e2 ln he g4 g3 g2 g1 hz hln hl h1;omega)) c3).1
  ·rw [ko j (.inr (by (clear c2 c1 ko j1 ij i1 bd inn out hu he g4 g3 g2 g1 hz hln hl h1;omega)))]
   exact s2 sb j (by omega) (by omega) j1
 by_cases c3:j < sb+l
 ·obtain ⟨hx,ex⟩:=inn i (by (clear c3 c1 ko j1 ij i1 bd inn out hu e2 ln he g4 g3 g2 g1 hz hln hl h1;omega)) (by (clear c2 c1 ko j1 i1 bd inn out hu he g4 g3 g2 g1 hz hln hl h1;omega))
  obtain ⟨hy,ey⟩:=inn j (by (clear ex c3 c2 ko j1 ij i1 bd inn out hu e2 ln he g4 g3 g2 g1 hz hln hl h1;omega)) c3;rw [ex,ey]
  by_cases c:i=j
  ·subst c;exact Int.le_refl _
  ·exact (List.pairwise_iff_getElem.mp m2) _ _ hx hy (by (clear ey ex c3 ko j1 i1 bd inn out hu e2 ln he g4 g3 g2 g1 hz hln hl h1;omega))
 by_cases c4:i < sb+l
 ·rw [ko j (.inr (by (clear c4 c2 c1 ko j1 ij i1 bd inn out hu he g4 g3 g2 g1 hz hln hl h1;omega)))]
  exact Int.le_trans (bd i (by (clear c4 c3 c1 ko j1 ij i1 bd inn out hu e2 ln he g4 g3 g2 g1 hz hln hl h1;omega)) c4).2 (g4 j (by (clear c4 c2 c1 ko j1 ij i1 bd inn out hu he g4 g3 g2 g1 hz hln hl h1;omega)) j1)
 ·rw [ko j (.inr (by (clear c4 c2 c1 ko j1 ij i1 bd inn out hu he g4 g3 g2 g1 hz hln hl h1;omega))),ko i (.inr (by (clear c3 c2 c1 ko j1 ij i1 bd inn out hu he g4 g3 g2 g1 hz hln hl h1;omega)))]
  exact s2 i j (by omega) ij j1
theorem Mrg.idle {a:Array Keyed} {sa sb nb:Nat} (s1:Sk' a sa sb) (s2:Sk' a sb (sb+nb)) (hs:sa < sb) (hn:0 < nb) (h:K a (sb - 1)<=K a sb):Mrg a a sa (sb+nb):=by
 refine ⟨Array.Perm.refl _,fun _ _=>rfl,fun i j i1 ij j1=>?_⟩
 by_cases c1:j < sb
 ·exact s1 i j i1 ij c1
 by_cases c2:i < sb
 ·exact Int.le_trans (s1 i (sb - 1) i1 (by omega) (by omega)) (Int.le_trans h (s2 sb j (by omega) (by omega) j1))
 ·exact s2 i j (by omega) ij j1
section
variable {prog:Program} {w:World} {A:Around} {E:Value->Shared->Prop} {s:Shared} {a:Array Keyed}
theorem vy2 {σ:Type} {st x:σ} {M:Model} {Q:PUnit->σ->Prop} (h:Q ⟨⟩ x):wpS M A E s (set x:StateT σ Sem PUnit) Q st:=by
 unfold wpS;rw [StateT.run_set];exact wpAny_pure ⟨rfl,h⟩
theorem vy4 {st:SortSt} {i sa na p nb q:Nat} {l1 l2:List (Nat × Nat × Nat)} {Q:Bool->SortSt->Prop} (hk:kindOf st=oneType') (hf:failedOf st=none) (h0:AI (arrOf st))
  (hp:pendingOf st=(l1++(sa,na,p)::(sa+na,nb,q)::l2).toArray) (hi:l1.length=i) (n1:1<=na) (n2:1<=nb) (hz:sa+na+nb<=(arrOf st).size) (s1:Sk' (arrOf st) sa (sa+na)) (s2:Sk' (arrOf st) (sa+na) (sa+na+nb))
  (h:∀ st',kindOf st'=oneType'->failedOf st'=none->pendingOf st'=(l1++(sa,na+nb,p)::l2).toArray->Mrg (arrOf st) (arrOf st') sa (sa+na+nb)->Q true st'):wpS (model prog w) A E s (mergeAt' i) Q st:=by
 rw [vs6];refine wpS_bind (wpS_get ?_);have e1:(pendingOf st)[i]?=some (sa,na,p):=by rw [hp,<- hi];simp
 have e2:(pendingOf st)[i+1]?=some (sa+na,nb,q):=by rw [hp,<- hi];simp
 have e3:((pendingOf st).setIfInBounds i (sa,na+nb,p)).eraseIdxIfInBounds (i+1)=(l1++(sa,na+nb,p)::l2).toArray:=by
  rw [hp,<- hi];apply Array.ext';simp [Array.eraseIdxIfInBounds,List.eraseIdx_append_of_length_le]
 rw [e1,e2];dsimp only;rw [e3];refine wpS_bind (vy2 ?_);generalize hs1:setPending st (l1++(sa,na+nb,p)::l2).toArray=st1;have k1:kindOf st1=oneType':=by rw [<- hs1];exact hk
 have f1:failedOf st1=none:=by rw [<- hs1];exact hf
 have p1:pendingOf st1=(l1++(sa,na+nb,p)::l2).toArray:=by rw [<- hs1]
 have a1:arrOf st1=arrOf st:=by rw [<- hs1]
 generalize arrOf st=a at *;refine wpS_bind (w_el (by omega) (wpS_bind (uo3 k1 (h0 _ (by simp)) h0 (by omega) (by omega) s1.key fun k k2 k3 k4=>?_)));dsimp only;have g1:∀ x,sa<=x->x < sa+k->K a x<=K a (sa+na):=fun x x1 x2=>by rw [u56 (by omega),u56 (by omega)];exact k3 x (by omega) x1 x2
 have g2:∀ x,sa+k<=x->x < sa+na->K a (sa+na)<=K a x:=fun x x1 x2=>by rw [u56 (by omega),u56 (by omega)];exact Int.le_of_lt (Int.not_le.mp (k4 x (by omega) x1 x2))
 by_cases c1:na - k=0
 ·rw [if_pos (by simpa using c1)]
  refine wpS_pure (h _ k1 f1 p1 ?_);rw [a1];exact Mrg.idle s1 s2 (by omega) (by omega) (g1 _ (by (clear c1 g2 g1 k4 k3 k2 a1 h hz p1 f1 k1 hs1 e3 e2 e1 n2 hi hp hf hk;omega)) (by (clear g2 g1 k4 k3 k2 a1 h hz p1 f1 k1 hs1 e3 e2 e1 n2 hi hp hf hk;omega)))
 rw [if_neg (by simpa using c1)];have e4:sa+k+(na - k) - 1=sa+na - 1:=by (clear c1 g2 g1 k4 k3 a1 h hz p1 f1 k1 hs1 e3 e2 e1 n2 hi hp hf hk;omega)
 rw [e4];refine wpS_bind (w_el (by omega) (wpS_bind (uo3 k1 (h0 _ (by simp)) h0 (by omega) (by omega) s2.key fun l l2 l3 l4=>?_)));dsimp only;have g3:∀ x,sa+na<=x->x < sa+na+l->K a x<=K a (sa+na - 1):=fun x x1 x2=>by rw [u56 (by omega),u56 (by (clear x1 l4 l3 e4 c1 g2 g1 k4 k3 k2 a1 h p1 f1 k1 hs1 e3 e2 e1 n1 hi hp hf hk;omega))];exact Int.le_of_lt (l3 x (by omega) x1 x2)
 have g4:∀ x,sa+na+l<=x->x < sa+na+nb->K a (sa+na - 1)<=K a x:=fun x x1 x2=>by rw [u56 (by omega),u56 (by omega)];exact Int.not_lt.mp (l4 x (by omega) x1 x2)
 by_cases c2:l=0
 ·rw [if_pos (by simpa using c2)]
  refine wpS_pure (h _ k1 f1 p1 ?_);rw [a1];exact Mrg.idle s1 s2 (by omega) (by omega) (g4 _ (by omega) (by omega))
 rw [if_neg (by simpa using c2)];have z1:(a.extract (sa+k) (sa+na)).size=na - k:=by rw [Array.size_extract];(clear c2 g4 g3 l4 l3 l2 e4 c1 g2 g1 k4 k3 a1 h p1 f1 k1 hs1 e3 e2 e1 n1 hi hp hf hk;omega)
 have z2:(a.extract (sa+na) (sa+na+l)).size=l:=by rw [Array.size_extract];(clear z1 c2 g4 g3 l4 l3 e4 c1 g2 g1 k4 k3 k2 a1 h p1 f1 k1 hs1 e3 e2 e1 n2 n1 hi hp hf hk;omega)
 have P:LoP (a.extract (sa+k) (sa+na)) (a.extract (sa+na) (sa+na+l)):=by
  refine ⟨fun x y hy hxy=>?_,fun x y hy hxy=>?_,fun x hx=>?_,fun x hx=>?_,by (clear g4 g3 l4 l3 l2 e4 g2 g1 k4 k3 a1 h hz p1 f1 k1 hs1 e3 e2 e1 n2 hi hp hf hk;omega),by (clear z1 g4 g3 l4 l3 l2 e4 c1 g2 g1 k4 k3 a1 h hz p1 f1 k1 hs1 e3 e2 e1 n2 n1 hi hp hf hk;omega),fun x hx=>?_,fun x hx=>?_⟩
  ·rw [Array.getElem_extract,Array.getElem_extract]
   exact s1.key _ _ _ (by omega) (by omega) (by (clear hxy z2 c2 g4 g3 l4 l3 l2 e4 c1 g2 g1 k4 k3 a1 h hz p1 f1 k1 hs1 e3 e2 e1 n2 n1 hi hp hf hk;omega))
  ·rw [Array.getElem_extract,Array.getElem_extract]
   exact s2.key _ _ _ (by omega) (by omega) (by (clear hxy z1 c2 g4 g3 l4 l3 e4 c1 g2 g1 k4 k3 k2 a1 h hz p1 f1 k1 hs1 e3 e2 e1 n2 n1 hi hp hf hk;omega))
  ·obtain ⟨j,j1,rfl⟩:=Array.mem_extract_iff_getElem.mp (Array.mem_toList_iff.mp hx)
   exact h0 _ (by simp)
  ·obtain ⟨j,j1,rfl⟩:=Array.mem_extract_iff_getElem.mp (Array.mem_toList_iff.mp hx)
   exact h0 _ (by simp)
  ·rw [Array.getElem_extract,Array.getElem_extract]
   have:=g3 (sa+na+x) (by omega) (by (clear z1 c2 g4 g3 l4 l3 l2 e4 c1 g2 g1 k4 k3 k2 a1 h hz p1 f1 k1 hs1 e3 e2 e1 n2 n1 hi hp hf hk;omega));rw [u56 (by omega),u56 (by (clear this z1 g4 g3 l4 l3 e4 c1 g2 g1 k4 k3 a1 h p1 f1 k1 hs1 e3 e2 e1 hi hp hf hk;omega))] at this;simpa only [z1,show sa+k+(na - k - 1)=sa+na - 1 by (clear this z1 g4 g3 l4 l3 g2 g1 k4 k3 a1 h p1 f1 k1 hs1 e3 e2 e1 hi hp hf hk;omega)] using this
  ·rw [Array.getElem_extract,Array.getElem_extract]
   have:=g2 (sa+k+x) (by omega) (by (clear z2 c2 g4 g3 l4 l3 l2 e4 c1 g2 g1 k4 k3 a1 h hz p1 f1 k1 hs1 e3 e2 e1 n2 n1 hi hp hf hk;omega));rw [u56 (by omega),u56 (by (clear this c2 g4 g3 l4 l3 e4 c1 g2 g1 k4 k3 a1 h p1 f1 k1 hs1 e3 e2 e1 n1 hi hp hf hk;omega))] at this;simpa only [Nat.add_zero] using this
 have fin:∀ (o:Array Keyed) (st2:SortSt),MgD (a.extract (sa+k) (sa+na)) (a.extract (sa+na) (sa+na+l)) o->Same st1 st2->wpS (model prog w) A E s (do
   modify fun t=>setArr t (o.toList.zipIdx.foldl (fun a (x:Keyed × Nat)=>a.setIfInBounds (sa+k+x.2) x.1) (arrOf t))
   return (failedOf (<- get)).isNone:S Bool) Q st2:=by
  intro o st2 m e;refine wpS_bind (wpS_modify (wpS_bind (wpS_get (wpS_pure ?_))));have lo:o.toList.length=na - k+l:=by rw [m.1.length_eq,List.length_append,Array.length_toList,Array.length_toList,z1,z2]
  show Q (failedOf st2).isNone _
  rw [e.2.2.2.trans f1];refine h _ (e.1.trans k1) (e.2.2.2.trans f1) (e.2.2.1.trans p1) ?_
  show Mrg a (o.toList.zipIdx.foldl _ (arrOf st2)) _ _
  rw [e.2.1.trans a1];refine vr9 (k:=k) (l:=l) (by (clear z1 g4 g3 l4 l3 l2 g2 g1 k4 k3 a1 h hz p1 f1 k1 hs1 e3 e2 e1 n2 hi hp hf hk;omega)) (by (clear lo z1 g4 g3 l4 l3 l2 e4 c1 g2 g1 k4 k3 a1 h hz p1 f1 k1 hs1 e3 e2 e1 n2 n1 hi hp hf hk;omega)) l2 (by omega) s1 s2 g1 g2 g3 g4 m ?_;have:=ur4 (sa+k) o.toList 0 a (by (clear z1 c2 g4 g3 l4 l3 e4 c1 g2 g1 k4 k3 a1 h p1 f1 k1 hs1 e3 e2 e1 n2 n1 hi hp hf hk;omega))
  rwa [Nat.add_zero] at this
 split
 ·exact wpS_bind (w_lo k1 P fin)
 ·exact wpS_bind (w_hi k1 P fin)
end
abbrev So2:=Option Unit × Nat
abbrev Su:=Option Unit × Unit
def psh (lo n:Nat):S (ForInStep So2):=do
 modify fun s=>setPending s ((pendingOf s).push (lo,n,0))
 pure (.yield (none,lo+n))
def clI (pw:Nat):S (ForInStep Su):=do
 let p:=pendingOf (<- get)
 match if p.size > 1 then p[p.size - 2]? else none with
 | some (_,_,ol)=>if ol<=pw then pure (.done (none,())) else (do
   let b <- mergeAt' (p.size - 2)
   if !b then pure (.done (some (),())) else pure (.yield (none,())))
 | _=>pure (.done (none,()))
def cll (z lo n:Nat):S (ForInStep So2):=do
 match (pendingOf (<- get)).back? with
 | some (s1,n1,_)=>do
  let c:Su <- forIn [0:z] ((none,()):Su) fun _ (_:Su)=>clI (power' z (2 * s1+n1) (2 * s1+n1+n1+n) z)
  match c.1 with
  | some r=>pure (.done (some r,lo))
  | none=>do
   modify fun s=>setPending s ((pendingOf s).modify ((pendingOf s).size - 1) fun (st,len,_)=>(st,len,power' z (2 * s1+n1) (2 * s1+n1+n1+n) z))
   psh lo n
 | _=>psh lo n
def rnI (z mr lo:Nat):S (ForInStep So2) :=
 if lo ≥ z then pure (.done (none,lo)) else do
 match <- countRun' lo (z - lo) with
 | some n=>if n < mr then (do
   rule "list.sort.binary-insertion"
   let b <- binarySort' lo (min (z - lo) mr) n
   if !b then pure (.done (some (),lo)) else cll z lo (min (z - lo) mr)) else cll z lo n
 | _=>pure (.done (some (),lo))
def fcI:S (ForInStep Su):=do
 let p:=pendingOf (<- get)
 if p.size<=1 then pure (.done (none,())) else do
 let b <- mergeAt' (if (if p.size - 2 > 0 then p[p.size - 2 - 1]?.map (·.2.1) else none).any (· < (p[p.size - 2+1]?.elim 0 (·.2.1))) then p.size - 2 - 1 else p.size - 2)
 if !b then pure (.done (some (),())) else pure (.yield (none,()))
theorem vz0:sortRuns'=(do
 let z:=(arrOf (<- get)).size
 let c:So2 <- forIn [0:z] ((none,0):So2) fun _ (c:So2)=>rnI z (minRun' z z 0) c.2
 match c.1 with
 | some r=>pure r
 | none=>do
  let c:Su <- forIn [0:z] ((none,()):Su) fun _ (_:Su)=>fcI
  match c.1 with
  | some r=>pure r
  | none=>pure ()):=by kernel_rfl
def fst2 (r:Nat × Nat × Nat):Nat × Nat:=(r.1,r.2.1)
def Rs:List (Nat × Nat)->Nat->Nat->Prop
 | [],u,v=>u=v
 | r::l,u,v=>r.1=u /\ 1<=r.2 /\ Rs l (u+r.2) v
theorem Rs.app {m:List (Nat × Nat)}:∀ {l:List (Nat × Nat)} {u v:Nat},Rs (l++m) u v ↔ ∃ w,Rs l u w /\ Rs m w v
 | [],u,v=>by simp [Rs]
 | r::l,u,v=>by
  simp only [List.cons_append,Rs,Rs.app (l:=l)];exact ⟨fun ⟨h1,h2,w,h3,h4⟩=>⟨w,⟨h1,h2,h3⟩,h4⟩,fun ⟨w,⟨h1,h2,h3⟩,h4⟩=>⟨h1,h2,w,h3,h4⟩⟩
theorem Rs.len:∀ {l:List (Nat × Nat)} {u v:Nat},Rs l u v->u+l.length<=v
 | [],u,v,h=>by have h:u=v:=h;simp [h]
 | r::l,u,v,h=>by have:=Rs.len h.2.2;have:=h.2.1;simp;omega
theorem Rs.mem:∀ {l:List (Nat × Nat)} {u v:Nat},Rs l u v->∀ r ∈ l,u<=r.1 /\ r.1+r.2<=v
 | r::l,u,v,h,x,hx=>by
  have:=Rs.len h.2.2
  rcases List.mem_cons.mp hx with rfl | hx
  ·have:=h.1;omega
  ·have:=Rs.mem h.2.2 x hx;omega
structure RI (a:Array Keyed) (lo:Nat) (st:SortSt):Prop where
 kind:kindOf st=oneType'
 fl:failedOf st=none
 pm:(arrOf st).Perm a
 rs:Rs ((pendingOf st).toList.map fst2) 0 lo
 so:∀ r ∈ (pendingOf st).toList.map fst2,Sk' (arrOf st) r.1 (r.1+r.2)
 le:lo<=a.size
theorem Sk'.cg {a b:Array Keyed} {u v:Nat} (h:Sk' a u v) (e:∀ x,u<=x->x < v->b[x]?=a[x]?):Sk' b u v:=fun i j h1 h2 h3=>by
 rw [K_congr (e i h1 (by omega)),K_congr (e j (by omega) h3)];exact h i j h1 h2 h3
theorem RI.psz {a:Array Keyed} {lo:Nat} {st:SortSt} (h:RI a lo st):(pendingOf st).size<=lo:=by
 have:=h.rs.len;simpa using this
section
variable {prog:Program} {w:World} {A:Around} {E:Value->Shared->Prop} {s:Shared} {a:Array Keyed}
theorem w_mI {lo i:Nat} {st:SortSt} {Q:Bool->SortSt->Prop} (h0:AI a) (R:RI a lo st) (hi:i+1 < (pendingOf st).size) (h:∀ st',RI a lo st'->(pendingOf st').size+1=(pendingOf st).size->(∀ x,lo<=x->(arrOf st')[x]?=(arrOf st)[x]?)->Q true st'):wpS (model prog w) A E s (mergeAt' i) Q st:=by
 obtain ⟨l1,x,y,l2,e,hl⟩:∃ l1 x y l2,(pendingOf st).toList=l1++x::y::l2 /\ l1.length=i:=by
  have hi':i+1 < (pendingOf st).toList.length:=by simpa using hi
  refine ⟨(pendingOf st).toList.take i,(pendingOf st).toList[i],(pendingOf st).toList[i+1],(pendingOf st).toList.drop (i+1+1),?_,by rw [List.length_take];omega⟩;rw [<- List.drop_eq_getElem_cons hi',<- List.drop_eq_getElem_cons (by omega),List.take_append_drop]
 obtain ⟨x1,x2,x3⟩:=x;obtain ⟨y1,y2,y3⟩:=y;have rs:=R.rs;have so:=R.so;rw [e] at rs so;simp only [List.map_append,List.map_cons,fst2] at rs so;obtain ⟨u,r1,rfl,r2,hy,r3,r4⟩:=Rs.app.mp rs;simp only at hy r2 r3 r4 so;subst hy;have hle:=r4.len;have hz:=R.pm.size_eq;have hlo:=R.le;refine vy4 (l1:=l1) (l2:=l2) (nb:=y2) R.kind R.fl (h0.perm R.pm) (by rw [<- e]) hl r2 r3 (by omega) (so (x1,x2) (by simp)) (so (x1+x2,y2) (by simp)) fun st' k f p m=>?_
 have e':(pendingOf st').toList.map fst2=l1.map fst2++(x1,x2+y2)::l2.map fst2:=by rw [p];simp [fst2]
 have l1':=fun r hr=>r1.mem r hr
 have l2':=fun r hr=>r4.mem r hr
 refine h st' ⟨k,f,m.1.trans R.pm,?_,?_,hlo⟩ ?_ fun x hx=>m.2.1 x (.inr (by omega))
 ·rw [e']
  exact Rs.app.mpr ⟨_,r1,rfl,by simp only;omega,by simpa only [Nat.add_assoc] using r4⟩
 ·rw [e']
  intro r hr
  rcases List.mem_append.mp hr with hr | hr
  ·exact (so r (by simp only [List.mem_append];exact .inl hr)).cg fun x h1 h2=>m.2.1 x (.inl (by have:=l1' r hr;(clear h1 l2' l1' e' p f k hlo hz hle so e r3 r2 hl h hi;omega)))
  ·rcases List.mem_cons.mp hr with rfl | hr
   ·simpa only [Nat.add_assoc] using m.2.2
   ·exact (so r (by simp only [List.mem_append,List.mem_cons];exact .inr (.inr (.inr hr)))).cg fun x h1 h2=>m.2.1 x (.inr (by have:=l2' r hr;omega))
 ·have z1:(pendingOf st').size=(l1++(x1,x2+y2,x3)::l2).length:=by rw [p];simp
  have z2:(pendingOf st).size=(l1++(x1,x2,x3)::(x1+x2,y2,y3)::l2).length:=by rw [<- Array.length_toList,e]
  rw [z1,z2];simp;(clear z2 z1 l2' l1' e' p f k hlo hz hle so e r3 r2 hl h hi;omega)
theorem vk8 {lo n:Nat} {st:SortSt} {Q:ForInStep So2->SortSt->Prop} (R:RI a lo st) (hn:1<=n) (hz:lo+n<=a.size) (hs:Sk' (arrOf st) lo (lo+n)) (h:∀ st',RI a (lo+n) st'->Q (.yield (none,lo+n)) st'):wpS (model prog w) A E s (psh lo n) Q st:=by
 unfold psh;have e:(((pendingOf st).push (lo,n,0)).toList.map fst2)=(pendingOf st).toList.map fst2++[(lo,n)]:=by simp [fst2]
 refine wpS_bind (wpS_modify (wpS_pure (h _ ⟨R.kind,R.fl,R.pm,?_,?_,hz⟩)))
 ·show Rs (((pendingOf st).push (lo,n,0)).toList.map fst2) _ _
  rw [e];exact Rs.app.mpr ⟨_,R.rs,rfl,hn,rfl⟩
 ·show ∀ r ∈ ((pendingOf st).push (lo,n,0)).toList.map fst2,Sk' (arrOf st) _ _
  rw [e];intro r hr
  rcases List.mem_append.mp hr with hr | hr
  ·exact R.so r hr
  ·rw [List.mem_singleton.mp hr]
   exact hs
theorem v74 (g:Nat × Nat × Nat->Nat × Nat × Nat) (hg:∀ x,fst2 (g x)=fst2 x):∀ (l:List (Nat × Nat × Nat)) (i:Nat),(l.modify i g).map fst2=l.map fst2
 | [],i=>by simp
 | x::l,0=>by simp [hg]
 | x::l,i+1=>by simp [v74 g hg l i]
theorem vl2 {z lo n:Nat} {st:SortSt} {Q:ForInStep So2->SortSt->Prop} (h0:AI a) (R:RI a lo st) (hn:1<=n) (hz:lo+n<=a.size) (hs:Sk' (arrOf st) lo (lo+n)) (h:∀ st',RI a (lo+n) st'->Q (.yield (none,lo+n)) st'):wpS (model prog w) A E s (cll z lo n) Q st:=by
 unfold cll;refine wpS_bind (wpS_get ?_);split
 ·rename_i s1 n1 _ _
  refine wpS_bind (wpS_mono (wpS_forRange (I:=fun _ c st'=>c=(none,()) /\ RI a lo st' /\ Sk' (arrOf st') lo (lo+n)) (Q:=fun c st'=>c=(none,()) /\ RI a lo st' /\ Sk' (arrOf st') lo (lo+n)) ?_ (fun _ _ h=>h) ⟨rfl,R,hs⟩) ?_)
  ·rintro x _ st1 - hx ⟨rfl,R,hs⟩
   unfold clI;refine wpS_bind (wpS_get ?_);dsimp only;split
   ·rename_i ol heq
    split
    ·exact wpS_pure ⟨rfl,R,hs⟩
    ·have hsz:(pendingOf st1).size > 1:=by
      by_cases hc:(pendingOf st1).size > 1
      ·exact hc
      ·rw [if_neg hc] at heq;cases heq
     refine wpS_bind (w_mI h0 R (by omega) fun st' R' _ hx'=>?_);exact wpS_pure ⟨rfl,R',hs.cg fun x h1 _=>hx' x h1⟩
   ·exact wpS_pure ⟨rfl,R,hs⟩
  ·rintro _ st1 ⟨rfl,R,hs⟩
   refine wpS_bind (wpS_modify ?_);have e:=v74 (fun (x:Nat × Nat × Nat)=>(x.1,x.2.1,power' z (2 * s1+n1) (2 * s1+n1+n1+n) z)) (fun _=>rfl) (pendingOf st1).toList ((pendingOf st1).size - 1);refine vk8 ⟨R.kind,R.fl,R.pm,?_,?_,R.le⟩ hn hz hs h
   ·show Rs (((pendingOf st1).modify _ _).toList.map fst2) _ _
    rw [Array.toList_modify];exact e ▸ R.rs
   ·show ∀ r ∈ ((pendingOf st1).modify _ _).toList.map fst2,Sk' (arrOf st1) _ _
    rw [Array.toList_modify];exact e ▸ R.so
 ·exact vk8 R hn hz hs h
theorem vy3 {mr lo:Nat} {st:SortSt} {Q:ForInStep So2->SortSt->Prop} (h0:AI a) (hm:1<=mr) (R:RI a lo st) (hd:a.size<=lo->Q (.done (none,lo)) st) (hy:∀ lo' st',RI a lo' st'->lo < lo'->Q (.yield (none,lo')) st'):wpS (model prog w) A E s (rnI a.size mr lo) Q st:=by
 unfold rnI;have hlo:=R.le
 by_cases hg:lo ≥ a.size
 ·rw [if_pos hg]
  exact wpS_pure (hd hg)
 rw [if_neg hg];have hz:=R.pm.size_eq;refine wpS_bind (w_cr (a:=arrOf st) (pd:=pendingOf st) (h0.perm R.pm) (by omega) (by omega) ⟨R.kind,R.fl,rfl,Array.Perm.refl _,fun _ _=>rfl⟩ fun n st' B n1 n2 n3=>?_);have kp:∀ st',Ok lo (arrOf st) (pendingOf st) st'->RI a lo st':=fun st' B=>by
  refine ⟨B.kind,B.fl,B.pm.trans R.pm,by rw [B.pd];exact R.rs,?_,hlo⟩;rw [B.pd];intro r hr;have:=R.rs.mem r hr;exact (R.so r hr).cg fun x _ h2=>B.lo x (by omega)
 dsimp only
 by_cases hc:n < mr
 ·rw [if_pos hc]
  refine wpS_bind (wpS_lift (wpAny_rule ⟨rfl,?_⟩));refine wpS_bind (w_bs (a:=arrOf st) (pd:=pendingOf st) (h0.perm R.pm) (by omega) (by omega) n1 B n3 fun st2 B2 g=>?_);exact vl2 h0 (kp _ B2) (by omega) (by omega) g fun st3 R3=>hy _ _ R3 (by omega)
 ·rw [if_neg hc]
  exact vl2 h0 (kp _ B) n1 (by omega) n3 fun st3 R3=>hy _ _ R3 (by omega)
theorem v73:∀ (f n r:Nat),1<=n->1<=minRun' f n r
 | 0,n,r,h=>by show 1<=n+r;omega
 | f+1,n,r,h=>by
  rw [minRun'_succ];split
  ·omega
  ·exact v73 f _ _ (by omega)
theorem w_sr {st:SortSt} {Q:Unit->SortSt->Prop} (h0:AI a) (h2:2<=a.size) (hk:kindOf st=oneType') (hf:failedOf st=none) (hp:pendingOf st=#[]) (ha:arrOf st=a)
  (h:∀ st',(arrOf st').Perm a->failedOf st'=none->SortedTo (arrOf st') a.size->Q () st'):wpS (model prog w) A E s sortRuns' Q st:=by
 rw [vz0];refine wpS_bind (wpS_get ?_);rw [ha];refine wpS_bind (wpS_mono (wpS_forRange (I:=fun x c st'=>∃ lo,c=(none,lo) /\ RI a lo st' /\ x<=lo) (Q:=fun c st'=>∃ lo,c=(none,lo) /\ RI a lo st' /\ a.size<=lo) ?_ ?_ ⟨0,rfl,⟨hk,hf,by rw [ha],by rw [hp];rfl,by rw [hp];simp,by omega⟩,Nat.le_refl _⟩) ?_)
 ·rintro x _ st1 - hx ⟨lo,rfl,R,hl⟩
  exact vy3 h0 (v73 _ _ _ (by omega)) R (fun h=>⟨_,rfl,R,h⟩) fun lo' st' R' h=>⟨_,rfl,R',by omega⟩
 ·rintro _ _ ⟨lo,rfl,R,hl⟩
  exact ⟨_,rfl,R,by omega⟩
 ·rintro _ st1 ⟨lo,rfl,R,hl⟩
  have hlo:=R.le;obtain rfl:lo=a.size:=by omega
  refine wpS_bind (wpS_mono (wpS_forRange (I:=fun x c st'=>c=(none,()) /\ RI a a.size st' /\ ((pendingOf st').size+x<=a.size)) (Q:=fun c st'=>c=(none,()) /\ RI a a.size st' /\ (pendingOf st').size<=1) ?_ ?_ ⟨rfl,R,R.psz⟩) ?_)
  ·rintro x _ st2 - hx ⟨rfl,R,hl⟩
   unfold fcI;refine wpS_bind (wpS_get ?_);dsimp only
   by_cases hc:(pendingOf st2).size<=1
   ·rw [if_pos hc]
    exact wpS_pure ⟨rfl,R,hc⟩
   rw [if_neg hc];refine wpS_bind (w_mI h0 R (by split <;> split <;> omega) fun st' R' z _=>?_);exact wpS_pure ⟨rfl,R',by omega⟩
  ·rintro _ _ ⟨rfl,R,hl⟩
   exact ⟨rfl,R,by omega⟩
  ·rintro _ st2 ⟨rfl,R,hl⟩
   refine wpS_pure (h _ R.pm R.fl ?_);have rs:=R.rs;have so:=R.so;have hl':((pendingOf st2).toList.map fst2).length<=1:=by simpa using hl
   generalize (pendingOf st2).toList.map fst2=l at *
   match l,rs,so,hl' with
   | [],rs,_,_=>have rs:0=a.size:=rs;omega
   | [r],rs,so,_ =>
    obtain ⟨r1,_,r2⟩:=rs;have r2:0+r.2=a.size:=r2;have:=so r (by simp);rw [r1,r2] at this;exact fun i j hij hj=>this i j (by omega) hij hj
   | _::_::_,_,_,h=>simp at h
end
end TS
namespace L2
open PySem PySem.Spec PyProof.Rows
section
variable {prog:Program} {w:World} {A:Around} {E:Value->Shared->Prop} {s:Shared}
theorem v47 {a:Addr} {vs:List Value} {ns:List Int} {n:Nat} {P:Fin->Shared->Prop} (ho:s.heap.get? a=some (seqObj "list" vs.toArray n)) (hI:IntsAre vs ns) (hz:vs.length<=sizeLine)
  (h:∀ (out:Array Value) (ns':List Int),IntsAre out.toList ns'->ns'.Perm ns->ns'.Pairwise (·<=·)->P (.done (.ret .none)) { s with heap:=sortedHeap s.heap a vs out }) :
  wpAny (model prog w) A (Builtin.«list.sort» ⟨[.ref a],[]⟩) P E s:=by
 rw [list_sort_plain];have ha:a < s.heap.objs.size:=Heap.lt_size ho;have hzs:vs.toArray.size<=sizeLine:=by simpa using hz
 refine wpAny_bind (listItems_at ho rfl (wpAny_bind (listUpdate_at ho rfl ?_ hzs)));obtain ⟨e1,ho1⟩:∃ e1,(s.heap.update a (Obj.mapSeq fun _=>#[])).get? a=some (seqObj "list" #[] e1):=⟨_,get?_update_seq ho (fun _=>#[])⟩;refine wpAny_bind (seqEpoch_at ho1 rfl (wpAny_bind (wpAny_newTuple ?_ (by simpa using hz))));refine wpAny_bind (wpAny_newList (wpAny_holding ?_));have ho6:(((s.heap.update a (Obj.mapSeq fun _=>#[])).push (seqObj "tuple" vs.toArray 0)).push (seqObj "list" #[] 0)).get? a=some (seqObj "list" #[] e1):=by
  rw [Heap.get?_push_ne,Heap.get?_push_ne]
  ·exact ho1
  ·rw [Heap.size_update];exact Nat.ne_of_lt ha
  ·rw [size_push',Heap.size_update];exact Nat.ne_of_lt (Nat.lt_succ_of_lt ha)
 show wpAny _ A _ P E { s with heap:=((s.heap.update a (Obj.mapSeq fun _=>#[])).push (seqObj "tuple" vs.toArray 0)).push (seqObj "list" #[] 0) }
 dsimp only;have rest:∀ st':SortSt,(arrOf st').Perm (pairsOf vs)->failedOf st'=none->SortedTo (arrOf st') (pairsOf vs).size->wpAny (model prog w) A (do
   let t:=(<- seqEpoch a) != e1
   Builtin.List.listUpdate (.ref a) fun _=>(arrOf st').map (·.2)
   if let some e:=failedOf st' then rule "list.sort.comparison-raised";throw e
   if t then rule "list.sort.modified";raiseError "ValueError" "list modified during sort"
   ret .none) P E { s with heap:=((s.heap.update a (Obj.mapSeq fun _=>#[])).push (seqObj "tuple" vs.toArray 0)).push (seqObj "list" #[] 0) }:=by
  intro st' hp hf hs;have hz2:((arrOf st').map (·.2)).size<=sizeLine+1:=by rw [Array.size_map,hp.size_eq,pairsOf_size];omega
  refine wpAny_bind (seqEpoch_at ho6 rfl (wpAny_bind (listUpdate_at ho6 rfl ?_ (by simp) hz2)));rw [hf];simp only [bne_self_eq_false,Bool.false_eq_true,if_false];obtain ⟨ns',h1,h2,h3⟩:=sorted_out hI hp hs;exact wpAny_pure (h _ ns' h1 h2 h3)
 by_cases h2:vs.toArray.size < 2
 ·rw [if_pos h2,if_pos h2]
  refine wpAny_bind (wpAny_pure ?_);rw [StateT.run_pure];refine wpAny_bind (wpAny_pure (rest (SortSt.mk' general' (vs.toArray.zip vs.toArray) #[] 7 none) (Array.Perm.refl _) rfl fun i j hij hj=>?_));rw [pairsOf_size] at hj;rw [List.size_toArray] at h2;obtain rfl:i=j:=by omega
  exact Int.le_refl _
 ·rw [if_neg h2,if_neg h2]
  obtain ⟨v1,v2,r,rfl⟩:∃ v1 v2 r,vs=v1::v2::r:=by
   match vs,h2 with
   | [],h2=>simp at h2
   | [_],h2=>simp at h2
   | v1::v2::r,_=>exact ⟨v1,v2,r,rfl⟩
  rw [keyKind_ints hI];refine wpAny_bind (wpAny_pure (wpAny_bind (wpAny_mono (TS.w_sr (a:=pairsOf (v1::v2::r)) (st:=SortSt.mk' oneType' (pairsOf (v1::v2::r)) #[] 7 none)
   (Q:=fun _ st'=>(arrOf st').Perm (pairsOf (v1::v2::r)) /\ failedOf st'=none /\ SortedTo (arrOf st') (pairsOf (v1::v2::r)).size) (fun x hx=>hI.intKeys x hx) (by rw [pairsOf_size];simp) rfl rfl rfl rfl fun st' a1 a2 a3=>⟨a1,a2,a3⟩) ?_ fun _ _ e=>e)))
  rintro ⟨⟨⟩,st'⟩ s' ⟨rfl,hp,hf,hs⟩;exact rest st' hp hf hs
end
section
variable {X:Cx}
theorem uv6 {P:Program} {w:World} {ns:List Int} {vs:List (Key × Value)} (hk:vs.map (·.1)=ns.map Sum.inl) {us:List Value} (hl:us.length=vs.length) (hu:∀ (j:Nat) (v:Value),us[j]?=some v->∃ k x,vs[j]?=some (k,x) /\ (ub2 P w).is k v=true):IntsAre us ns:=by
 induction ns generalizing vs us with
 | nil =>
  have:vs=[]:=by simpa using hk
  subst this;have:us=[]:=by simpa using hl
  subst this;exact .nil
 | cons n ns ih =>
  match vs,hk,us,hl with
  | (k,x)::vs,hk,u::us,hl =>
   rw [List.map_cons,List.map_cons,List.cons.injEq] at hk;obtain ⟨k',x',e,hi⟩:=hu 0 u rfl;cases e;obtain rfl:k=.inl n:=hk.1;obtain ⟨t,rfl⟩:=(show ∃ t,u=.int n t from w08 hi);exact .cons n t (ih hk.2 (by simpa using hl) fun j v hv=>hu (j+1) v (by simpa using hv))
def SrcI (H:Hp) (K:W.Frag) (p:Addr) (ns:List Int):Prop:=SqL K H p (ns.map V.int) \/ ∃ kvs:List (Key × V),kvs.map (·.1)=ns.map Sum.inl /\ Rd H p (.dK kvs)
theorem v41 {pins:List (Addr × Obj)} {s:Shared} {σ:St} {H:Hp} {A:Around} {p:Addr} {ns:List Int} {E:Value->Shared->Prop} {R:List Value->Shared->Prop} (hh:A.handled=none) (I:Inv X pins σ H s) (hs:SrcI H X.K p ns)
  (h:∀ (h':Heap) (tk:Nat) (us:List Value),(∀ b o,s.heap.get? b=some o->h'.get? b=some o)->IntsAre us ns->us.length<=sizeLine->R us { s with heap:=h',toks:=tk }) :
  wpAny (model X.prog X.w) A (collect (.ref p)) R E s:=by
 rcases hs with hq | ⟨kvs,hk,hd⟩
 ·obtain ⟨its,r',pl,hz⟩:=I.list hq
  have hz2:its.length<=sizeLine:=by rw [<- r'.length];exact hz
  refine collect_list pl.isList (h _ s.toks its (fun b o e=>?_) (intsAre_of r') hz2) hz2;rw [Heap.get?_update_ne _ _ _ _ (Nat.ne_of_lt (Heap.lt_size e))];exact Heap.get?_push_of_some _ e
 ·obtain ⟨z,hd2,vs,rel,dd⟩:=w11 I.hok hd
  obtain ⟨o,es,ep,ho,hc,hdat,hk2,hp,hn⟩:=id dd;have hkv:=rel.keys;have hlv:=rel.length;refine W.kdu_collect (W.kdl_dict (kvs:=vs) (ep:=ep) hd2) hh ⟨o,es,ho,hc,hdat,hk2,hp,hn⟩ (by omega) fun h' tk acc hk' hacc=>?_
  have hal:acc.toList.length=vs.length:=by rw [Array.length_toList];exact hacc.1
  exact h h' tk acc.toList hk' (uv6 (P:=X.prog) (w:=X.w) (by rw [<- hkv];exact hk) hal fun j v e=>hacc.2 j v (by rw [<- Array.getElem?_toList];exact e)) (by omega)
theorem uh9 (hh:X.A.handled=none):CallR X (.builtin "sorted") (fun xs H Q=>∃ (p:Addr) (ns:List Int),xs=[.ref p] /\ SrcI H X.K p ns /\ ∀ (l:Addr) (ns':List Int),H l=none->ns'.Perm ns->ns'.Pairwise (·<=·)->Q (.ref l) (upd H l (.lst (ns'.map V.int)))):=by
 intro pins s σ H xs us Q I r h;obtain ⟨p,ns,rfl,hq,q⟩:=h;obtain ⟨u,rfl,rx⟩:=vals1 r;cases rx;refine Calls.call_function_entry kind_sorted plain_sorted entry_sorted (args_sorted1 _) ?_;unfold Builtin.«sorted»;refine wpAny_bind (m:=checkCount "sorted" 1 1 _) (wpAny_pure (wpAny_bind (v41 (A:=X.A.in1) hh I hq fun h' tk us hk hi hz=>?_)));have I1:Inv X pins σ H { s with heap:=h',toks:=tk }:=I.kept hk
 refine wpAny_bind (wpAny_newList ?_ hz);have hoL:(h'.push (seqObj "list" us.toArray 0)).get? h'.objs.size=some (seqObj "list" us.toArray 0):=Heap.get?_push_size _ rfl
 show wpAny _ _ _ _ _ { s with heap:=h'.push (seqObj "list" us.toArray 0),toks:=tk }
 refine wpAny_bind (wpAny_holding (wpAny_call_entry slot_list_sort ⟨_,hoL,rfl⟩ entry_list_sort (v47 hoL hi hz fun out ns' a1 a2 a3=>⟨_,rfl,?_⟩) (args_list_sort _)));obtain ⟨c,e⟩:=sortedHeap_at (out:=out) hoL;refine wpAny_pure ⟨_,rfl,.ref h'.objs.size,_,I1.laid (t':=tk) (fun b u hb=>?_) (Nat.le_refl _) (show ObjOk X.prog X.w _ _ _ (.lst (ns'.map V.int)) from ⟨by rw [List.length_map,a2.length_eq,<- hi.length];exact hz,out.toList,c,ua4 a1,e⟩),rfl,q _ _ (I1.hok.fresh (Nat.le_refl _)) a2 a3⟩;have hb':=Heap.lt_size hb;rw [sortedHeap_old (Nat.ne_of_lt hb') (by rw [size_push'];exact Nat.lt_succ_of_lt hb')];exact Heap.get?_push_of_some _ hb
end
end L2
namespace L3
open PySem PySem.Spec PyProof.Rows L2
section
variable {X:Cx} {K:W.Frag} {H:Hp}
def srcI (G:Gp) (a:Addr) (ns:List Int):Prop:=u11 (G a)=some (ns.map .int) \/ ∃ kvs,kvs.map (·.1)=ns.map Sum.inl /\ (G a=some (.dic kvs) \/ ∃ o,G a=some (.frd o kvs))
theorem rd_of {G:Gp} {a:Addr} {kvs:List (Key × D)} (c:Con K G H) (h:G a=some (.dic kvs) \/ ∃ o,G a=some (.frd o kvs)):∃ ys,Rd H a (.dK ys) /\ RelPs K H kvs ys:=by
 rcases h with h | h
 ·obtain ⟨ys,e,rp⟩:=c a _ h
  exact ⟨ys,.inl e,rp⟩
 ·obtain ⟨o,h⟩:=h
  obtain ⟨ys,e,rp⟩:=c a _ h;exact ⟨ys,.inr ⟨o,e⟩,rp⟩
theorem srcI.low {G:Gp} {a:Addr} {ns:List Int} (c:Con K G H) (h:srcI G a ns):SrcI H K a ns:=by
 rcases h with h | ⟨kvs,hk,h⟩
 ·obtain ⟨ys,s1,q1⟩:=u19 c h
  obtain rfl:=u91 q1;exact .inl s1
 ·obtain ⟨ys,e,rp⟩:=rd_of c h
  exact .inr ⟨ys,by rw [<- hk];exact rp.1.symm,e⟩
@[reducible] def uy6:C3:=fun ds G q=>∃ (a:Addr) (ns:List Int),ds=[.ref a] /\ srcI G a ns /\ ∀ (p:Addr) (ns':List Int),G p=none->ns'.Perm ns->ns'.Pairwise (·<=·)->q (.ref p) (gup G p (.lst (ns'.map .int)))
theorem ur1 {k:Nat} (hr:Room k X.A):Call3 X (.builtin "sorted") uy6:=u29 (uh9 hr.hd) <| by
 rintro xs H Q ⟨ds,G,q,r,c,t,f⟩;obtain ⟨a,ns,rfl,hs,t⟩:=t;obtain ⟨v,rfl,r1⟩:=r.one;cases r1.ref_inv;exact ⟨_,ns,rfl,hs.low c,fun p ns' hp h1 h2=>f _ _ _ _ RelD.refI (c.lstNew hp (ul8 ns')) (Le.fresh hp) (t p ns' (c.fresh hp) h1 h2)⟩
end
end L3
namespace L3
open PySem PySem.Spec PyProof.Rows L2
def Cnd (X:Cx) (k:Nat) (f:Addr) (S:Spx3):Prop:=∃ (x qual:Str) (st:Stmt) (ps:List Str) (d:FnAt X.K x qual st ps),f=d.a /\ FnOk X.prog X.w X.K X.mg X.base (CX1 X.prog X.w) k d.a d.fd ps (u92 X.K S)
def uw8 (i:Nat) (Ss:List (Addr × Spx3)) (r:XD) (t:TA3):TE3:=fun σ G q=>∃ p ∈ Ss,σ[i]?=some (some (.ref p.1)) /\ uh6 p.2 r t σ G q
def uw7 (t:TE3):TE3:=fun σ G _=>t σ G fun _ _=>False
section
variable {X:Cx} {e iter elt tg:Expr} {ifs:List Expr} {scope:Scope} {es:List Expr} {p pos:Pos} {ts:TA3} {k i:Nat} {S:Spx3} {x qual:Str} {st:Stmt} {ps:List Str} {t:TE3} {Ss:List (Addr × Spx3)}
theorem vi0:∀ p ∈ ([]:List (Addr × Spx3)),Cnd X k p.1 p.2:=fun _ h=>nomatch h
theorem uf5 {f:Addr} (d:FnAt X.K x qual st ps) (G:FnOk X.prog X.w X.K X.mg X.base (CX1 X.prog X.w) k d.a d.fd ps (u92 X.K S)) (r:∀ p ∈ Ss,Cnd X k p.1 p.2) (hf:f=d.a:=by rfl):∀ p ∈ (f,S)::Ss,Cnd X k p.1 p.2:=fun p h=>by
 subst hf
 rcases List.mem_cons.mp h with rfl | h
 ·exact ⟨x,qual,st,ps,d,rfl,G⟩
 ·exact r p h
theorem ecTV (hC:∀ p ∈ Ss,Cnd X k p.1 p.2) (hr:Room k X.A) (ha:A3 X (e::es) ts) (hN:X.N[i]?=some x:=by rfl) (hv:Vis X.env.scope x:=by first | exact Or.inl rfl | exact Or.inr (Or.inl rfl) | exact Or.inr (Or.inr rfl)) (hdb:(x == ("__debug__" : Str))=false:=by decide) (hcd:(x == ("__classdict__" : Str))=false:=by decide)
  (he:starEach (e::es) X.env=(false,eval e X.env)::starEach es X.env:=by rfl) (hpl:(backTo pos (starEach es X.env)).any (·.1)=false:=by rfl) (hn:∀ e s,¬ X.xe e s:=by exact fun _ _ z=>z):E3X X (.Call (.Name x p) (e::es) [] pos) (fun r=>uw8 i Ss r ts):=by
 intro pins s σ H Q r I h;obtain ⟨σd,G0,q,rs,c,⟨⟨f0,S0⟩,hm,h1,t⟩,f⟩:=h;obtain ⟨_,_,_,ps',d,rfl,G⟩:=hC _ hm;obtain ⟨v0,hv0,rv0⟩:=rs.2 i _ h1;cases rv0.ref_inv;refine wpAny_Call_Name_kw (wpAny_mono (ut7 hN hv hdb hcd pins s σ H (fun v H'=>v=.ref d.a /\ H'=H) I ⟨.ref d.a,hv0,rfl,rfl⟩) (fun u s0 h0=>?_) fun e s' z=>(hn e s' z).elim);obtain ⟨v,H1,I0,r1,rfl,rfl⟩:=h0;cases (show u=Value.ref d.a from r1);refine W.callWith_K (h₀:=X.base) I0.ok.mod.kin d.kp (wpAny_mono (ha pos pins s0 σ H1 (fun vs H2=>Le H1 H2 /\ ∃ ds G1 R,RelDs X.K H2 ds vs /\ Con X.K G1 H2 /\ S0 ds G1 R r /\ FutE X.K H2 R Q) I0 ⟨σd,G0,_,rs,c,t,fun ds G1 vs H2 r1 c1 l1 ⟨R,s1,t1⟩=>⟨l1,ds,G1,R,r1,c1,s1,fun d G2 v H2 r2 c2 l2 t2=>f d G2 v H2 r2 c2 (l1.trans l2) (t1 d G2 t2)⟩⟩) ?_ fun e s' z=>(hn e s' z).elim) he hpl;rintro us s1 ⟨vs,H2,I1,rv,l1,ds,G1,R,r1,c1,hS,fu⟩;refine ⟨I1.kIn,?_⟩;have hsp:u92 X.K S0 vs H2 Q (lowX X.K r):=⟨ds,G1,R,r,r1,c1,hS,fu,un1⟩;have hln:(us++[]).length=ps'.length:=by rw [List.append_nil,<- rv.length];exact G.len _ _ _ _ hsp
 have hb:=d.b s1 us I1.kIn hln;rw [List.append_nil] at hb;refine wpAny_call (codeAny_mono (G.run X.A X.stack s1 H2 ⟨us,[]⟩ us vs Q (lowX X.K r) hr I1.env0 hb rv hsp) fun r' s' hq=>?_);cases r' with
 | error e=>exact ⟨H2,s1,I1,l1,hq⟩
 | ok fl =>
  cases fl with
  | ret u=>exact I1.after hq
  | next=>exact False.elim hq
  | brk=>exact False.elim hq
  | cont=>exact False.elim hq
theorem v35 (hi:E3 X iter t):E3 X (.ListComp elt [⟨tg,iter,ifs,0⟩] scope pos) (uw7 t):=by
 intro pins s σ H Q I h;obtain ⟨σd,G0,q,rs,c,t0,f⟩:=h;rw [eval_ListComp];unfold comprehension;refine wpAny_bind (thn (hi pins s σ H (fun _ _=>False) I ⟨σd,G0,_,rs,c,t0,fun _ _ _ _ _ _ _ z=>z⟩) ?_);rintro v s1 ⟨_,_,_,_,z⟩;exact z.elim
end
end L3
namespace Law
open PySem L2 L3
def top (i:Nat):Stmt:=PySem.Challenge.pw_nolitter_k47_cuts.main.body.getD i (.Pass ⟨0,0,0,0⟩)
abbrev u49:Stmt:=inClass (top 6) 0
abbrev va8:Stmt:=top 29
abbrev va6:Stmt:=top 30
abbrev va5:Stmt:=top 31
abbrev vc1:Stmt:=top 33
abbrev va7:Stmt:=top 34
abbrev vc2:Stmt:=top 35
abbrev vb8:Stmt:=top 37
abbrev us6:Stmt:=top 38
abbrev vb6:Stmt:=top 39
abbrev vc0:Stmt:=top 40
abbrev vb7:Stmt:=top 41
abbrev vb3:Stmt:=top 42
abbrev vb2:Stmt:=top 43
abbrev vb0:Stmt:=top 44
abbrev vb5:Stmt:=top 45
abbrev vb9:Stmt:=top 46
abbrev vb4:Stmt:=top 47
abbrev va9:Stmt:=top 48
abbrev uz3:Stmt:=top 49
abbrev vb1:Stmt:=top 50
abbrev us5:Stmt:=top 51
local macro_rules | `(tactic| ac_nf)=>`(tactic| exact ⟨rfl,rfl,rfl,by decide,rfl,by decide,by decide⟩)
theorem u57:FnScope ["self"] ["self"] (u05 u49):=by ac_nf
theorem v66:FnScope ["program"] ["program"] (u05 va8):=by ac_nf
theorem sc_jax:FnScope ["rows", "plain", "row"] ["rows"] (u05 va6):=by ac_nf
theorem v65:FnScope ["row"] ["row"] (u05 va5):=by ac_nf
theorem sc_jab:FnScope ["many", "n", "size", "greater"] ["many", "n"] (u05 vc1):=by ac_nf
theorem sc_jaw:FnScope ["program", "cuts", "all_pieces", "parts", "begin", "size"] ["program", "cuts"] (u05 va7):=by ac_nf
theorem v69:FnScope ["program", "cuts"] ["program", "cuts"] (u05 vc2):=by ac_nf
theorem sc_jaf:FnScope ["_law_state", "_law_many", "_law_script", "_law_k", "_law_rest", "_law_cell", "_law_number_here", "_law_digit"] ["_law_state", "_law_many"] (u05 vb8):=by ac_nf
theorem sc_jaj:FnScope ["_law_state", "_law_many", "_law_letters", "_law_names_here", "_law_k", "_law_name", "_law_begin", "_law_j", "_law_words", "_law_first"] ["_law_state", "_law_many"] (u05 us6):=by ac_nf
theorem sc_jak:FnScope ["_law_state", "_law_wide", "_law_form"] ["_law_state", "_law_wide"] (u05 vb6):=by ac_nf
theorem v68:FnScope ["_law_state", "_law_names_here", "_law_wide"] ["_law_state", "_law_names_here", "_law_wide"] (u05 vc0):=by ac_nf
theorem sc_jah:FnScope ["_law_rows_here", "_law_total", "_law_row_here"] ["_law_rows_here"] (u05 vb7):=by ac_nf
theorem sc_jan:FnScope ["_law_state", "_law_names_here", "_law_wide", "_law_deep", "_law_room", "_law_spare", "_law_form", "_law_x", "_law_one", "_law_yes", "_law_times"] ["_law_state", "_law_names_here", "_law_wide", "_law_deep", "_law_room", "_law_spare"] (u05 vb3):=by ac_nf
theorem sc_jap:FnScope ["_law_state", "_law_names_here", "_law_wide", "_law_deep", "_law_room", "_law_spare", "_law_rows_here", "_law_k", "_law_left"] ["_law_state", "_law_names_here", "_law_wide", "_law_deep", "_law_room", "_law_spare"] (u05 vb2):=by ac_nf
theorem sc_jas:FnScope ["_law_rows_here", "_law_found", "_law_row_here"] ["_law_rows_here"] (u05 vb0):=by ac_nf
theorem sc_jal:FnScope ["_law_state", "_law_wide", "_law_names_here", "_law_room", "_law_rows_here"] ["_law_state"] (u05 vb5):=by ac_nf
theorem sc_jae:FnScope ["_law_state", "_law_many", "_law_most", "_law_n", "_law_found", "_law_left", "_law_k"] ["_law_state", "_law_many", "_law_most"] (u05 vb9):=by ac_nf
theorem sc_jam:FnScope ["_law_call", "_law_one", "_law_other", "_law_fault", "e"] ["_law_call", "_law_one", "_law_other"] (u05 vb4):=by ac_nf
theorem v67:FnScope ["_law_number_here"] ["_law_number_here"] (u05 va9):=by ac_nf
theorem sc_jag:FnScope ["_law_many", "_law_n", "_law_found"] ["_law_many", "_law_n"] (u05 uz3):=by ac_nf
theorem sc_jar:FnScope ["_law_state", "_law_cuts_here", "_law_k", "_law_more", "_law_some"] ["_law_state", "_law_cuts_here"] (u05 vb1):=by ac_nf
theorem sc_law:FnScope ["_law_script", "_law_state", "_law_k", "_law_many", "_law_n", "_law_program_here", "_law_some", "_law_cuts_here", "_law_handed", "_law_found", "_law_together", "_law_part", "_law_wrong", "_law_bare"] ["_law_script"] (u05 us5):=by ac_nf
set_option genInjectivity false in
set_option genSizeOf false in
structure C_Loom (K:W.Frag) (mg:Str->Option Value) where
 C:Addr
 cl:Cls K C
 m:mg "Loom" = some (.ref C)
 n_wide:uo2 K C "wide"
 n_fresh:uo2 K C "fresh"
 n_rows:uo2 K C "rows"
 n_steps:uo2 K C "steps"
set_option genInjectivity false in
set_option genSizeOf false in
structure Txt (K:W.Frag) (mg:Str->Option Value) where
 f_BadCuts_init:FnAt K "__init__" "BadCuts.__init__" u49 ["self"]
 f_jav:FnAt K "pieces" "pieces" va8 ["program"]
 g_pieces:mg "pieces" = some (.ref f_jav.a)
 f_jax:FnAt K "unrolled" "unrolled" va6 ["rows"]
 g_unrolled:mg "unrolled" = some (.ref f_jax.a)
 f_jaz:FnAt K "unrolled_row" "unrolled_row" va5 ["row"]
 g_unrolled_row:mg "unrolled_row" = some (.ref f_jaz.a)
 f_jab:FnAt K "even" "even" vc1 ["many", "n"]
 g_even:mg "even" = some (.ref f_jab.a)
 f_jaw:FnAt K "stretches" "stretches" va7 ["program", "cuts"]
 g_stretches:mg "stretches" = some (.ref f_jaw.a)
 f_jaa:FnAt K "costs" "costs" vc2 ["program", "cuts"]
 g_costs:mg "costs" = some (.ref f_jaa.a)
 f_jaf:FnAt K "_law_draw" "_law_draw" vb8 ["_law_state", "_law_many"]
 g_law_draw:mg "_law_draw" = some (.ref f_jaf.a)
 f_jaj:FnAt K "_law_names" "_law_names" us6 ["_law_state", "_law_many"]
 g_law_names:mg "_law_names" = some (.ref f_jaj.a)
 f_jak:FnAt K "_law_number" "_law_number" vb6 ["_law_state", "_law_wide"]
 g_law_number:mg "_law_number" = some (.ref f_jak.a)
 f_jad:FnAt K "_law_atom" "_law_atom" vc0 ["_law_state", "_law_names_here", "_law_wide"]
 g_law_atom:mg "_law_atom" = some (.ref f_jad.a)
 f_jah:FnAt K "_law_heavy" "_law_heavy" vb7 ["_law_rows_here"]
 g_law_heavy:mg "_law_heavy" = some (.ref f_jah.a)
 f_jan:FnAt K "_law_row" "_law_row" vb3 ["_law_state", "_law_names_here", "_law_wide", "_law_deep", "_law_room", "_law_spare"]
 g_law_row:mg "_law_row" = some (.ref f_jan.a)
 f_jap:FnAt K "_law_rows" "_law_rows" vb2 ["_law_state", "_law_names_here", "_law_wide", "_law_deep", "_law_room", "_law_spare"]
 g_law_rows:mg "_law_rows" = some (.ref f_jap.a)
 f_jas:FnAt K "_law_unrolled" "_law_unrolled" vb0 ["_law_rows_here"]
 g_law_unrolled:mg "_law_unrolled" = some (.ref f_jas.a)
 f_jal:FnAt K "_law_program" "_law_program" vb5 ["_law_state"]
 g_law_program:mg "_law_program" = some (.ref f_jal.a)
 f_jae:FnAt K "_law_cuts" "_law_cuts" vb9 ["_law_state", "_law_many", "_law_most"]
 g_law_cuts:mg "_law_cuts" = some (.ref f_jae.a)
 f_jam:FnAt K "_law_refused" "_law_refused" vb4 ["_law_call", "_law_one", "_law_other"]
 g_law_refused:mg "_law_refused" = some (.ref f_jam.a)
 f_jau:FnAt K "_law_whole" "_law_whole" va9 ["_law_number_here"]
 g_law_whole:mg "_law_whole" = some (.ref f_jau.a)
 f_jag:FnAt K "_law_even" "_law_even" uz3 ["_law_many", "_law_n"]
 g_law_even:mg "_law_even" = some (.ref f_jag.a)
 f_jar:FnAt K "_law_spoilt" "_law_spoilt" vb1 ["_law_state", "_law_cuts_here"]
 g_law_spoilt:mg "_law_spoilt" = some (.ref f_jar.a)
 f_law:FnAt K "law" "law" us5 ["_law_script"]
 g_law:mg "law" = some (.ref f_law.a)
 c_Loom:C_Loom K mg
 e_LitterError:XL K mg "LitterError"
 e_BadCuts:XE K mg e_LitterError.C "BadCuts"
 e_NoRow:XE K mg e_LitterError.C "NoRow"
 e_NoBox:XE K mg e_LitterError.C "NoBox"
 e_BadText:XE K mg e_LitterError.C "BadText"
 e_BadCode:XE K mg e_LitterError.C "BadCode"
 e_BadPlan:XE K mg e_LitterError.C "BadPlan"
 xm_BadCuts:XMk K e_BadCuts.C e_LitterError.C f_BadCuts_init.a
 ne_BadCuts_NoRow:e_NoRow.C ≠ e_BadCuts.C
 ne_BadCuts_NoBox:e_NoBox.C ≠ e_BadCuts.C
 ne_BadCuts_BadText:e_BadText.C ≠ e_BadCuts.C
 ne_BadCuts_BadCode:e_BadCode.C ≠ e_BadCuts.C
 ne_BadCuts_BadPlan:e_BadPlan.C ≠ e_BadCuts.C
 b_ValueError:mg "ValueError" = none
 b_abs:mg "abs" = none
 b_all:mg "all" = none
 b_bool:mg "bool" = none
 b_divmod:mg "divmod" = none
 b_int:mg "int" = none
 b_isinstance:mg "isinstance" = none
 b_len:mg "len" = none
 b_list:mg "list" = none
 b_max:mg "max" = none
 b_min:mg "min" = none
 b_range:mg "range" = none
 b_sorted:mg "sorted" = none
 b_sum:mg "sum" = none
 b_tuple:mg "tuple" = none
end Law
namespace Law
open PySem L2 L3 Rw
section
variable {P:Program} {w:World} {K:W.Frag} {mg:Str->Option Value} {base:Heap} (T:Txt K mg)
def u96 (_:Txt K mg):Sp3:=spec (fun ds G=>∃ (st:Addr) (m:Int),ds=[.ref st,.int m] /\ StAt G st /\ 0 < m /\ m < 1073741824)
 (fun ds G d G'=>∃ (st:Addr) (m v:Int),ds=[.ref st,.int m] /\ Adv st G G' /\ d=.int v /\ 0<=v /\ v < m)
theorem u06 {K:W.Frag} {mg:Str->Option Value} {T:Txt K mg} {G:Gp} {st:Addr} {m:Int} {q:DK} (h:StAt G st) (h0:0 < m) (h1:m < 1073741824) (k:∀ (v:Int) (G':Gp),Adv st G G'->0<=v->v < m->q (.int v) G') :
  ∃ R,u96 T [.ref st,.int m] G R /\ ∀ d G',R d G'->q d G' :=
 ur9 ⟨st,m,rfl,h,h0,h1⟩ fun d G' ⟨st',m',v,e,a,ed,v0,v1⟩=>by
  cases e;subst ed;exact k v G' a v0 v1
theorem add_l {G:Gp} {a b:Addr} {xs ys:List D} {q:DK} (h1:G a=some (.lst xs)) (h2:G b=some (.lst ys)) (hl:xs.length+ys.length<=10000001) (k:∀ p,G p=none->q (.ref p) (gup G p (.lst (xs++ys)))):xAdd (.ref a) (.ref b) G q:=by
 show (match G a,G b with | some (.lst xs),some (.lst ys)=>xs.length+ys.length<=sizeLine /\ ∀ p,G p=none->q (.ref p) (gup G p (.lst (xs++ys))) | _,_=>False)
 rw [h1,h2];exact ⟨Nat.le_trans hl (by decide),k⟩
def vj1 (_:Txt K mg):Sp3:=fun ds G R=>∃ (st:Addr) (m:Nat),ds=[.ref st,.int (m:Int)] /\ StAt G st /\ 1<=m /\ m<=6 /\ ∀ (bs:List Str) (G':Gp),bs.length=m->(∀ b ∈ bs,b.length<=20)->bs.Nodup->Adv st G G'->R (.tup (bs.map .str)) G'
def v50 (_:Txt K mg):Sp3:=fun ds G R=>∃ (st:Addr) (W:Nat),ds=[.ref st,.int (W:Int)] /\ StAt G st /\ W<=16 /\ ∀ (i:Nat) (G':Gp),i < 2 ^ W->Adv st G G'->R (.int (i:Int)) G'
def v51 (_:Txt K mg):Sp3:=fun ds G R=>∃ (st:Addr) (W:Nat) (bs:List Str),ds=[.ref st,.tup (bs.map .str),.int (W:Int)] /\ StAt G st /\ W<=16 /\ 1<=bs.length /\ bs.length<=6 /\ ∀ (a:Atm) (G':Gp),okA W bs a->Adv st G G'->R (aD a) G'
theorem w18 {G:Gp} {st:Addr} {W:Nat} {q:DK} (hs:StAt G st) (hW:W<=16) (k:∀ (i:Nat) G',i < 2 ^ W->Adv st G G'->q (.int (i:Int)) G'):∃ R,v50 T [.ref st,.int (W:Int)] G R /\ ∀ d G',R d G'->q d G' :=
 u36 (post:=fun d G'=>∃ i:Nat,d=.int (i:Int) /\ i < 2 ^ W /\ Adv st G G') (fun R h'=>⟨st,W,rfl,hs,hW,fun i G' x y=>h' _ _ ⟨i,rfl,x,y⟩⟩) fun d G' ⟨i,e,x,y⟩=>by subst e;exact k i G' x y
theorem v84 {G:Gp} {st:Addr} {W:Nat} {bs:List Str} {q:DK} (hs:StAt G st) (hW:W<=16) (h1:1<=bs.length) (h2:bs.length<=6) (k:∀ (a:Atm) G',okA W bs a->Adv st G G'->q (aD a) G'):∃ R,v51 T [.ref st,.tup (bs.map .str),.int (W:Int)] G R /\ ∀ d G',R d G'->q d G' :=
 u36 (post:=fun d G'=>∃ a:Atm,d=aD a /\ okA W bs a /\ Adv st G G') (fun R h'=>⟨st,W,bs,rfl,hs,hW,h1,h2,fun a G' x y=>h' _ _ ⟨a,rfl,x,y⟩⟩) fun d G' ⟨a,e,x,y⟩=>by subst e;exact k a G' x y
theorem vj4 {α:Type} {xs:List α} {n:Nat}:cutD xs none (some (n:Int))=xs.take n:=un8
theorem ug9:∀ {l m:List Str},l.Nodup->(∀ x ∈ l,x ∈ m)->l.length<=m.length
 | [],m,_,_=>Nat.zero_le _
 | x::l,m,hn,h=>by
  obtain ⟨h1,h2⟩:=List.nodup_cons.mp hn;have hx:=h x List.mem_cons_self;have ih:=ug9 (l:=l) (m:=m.erase x) h2 fun y hy=>(List.mem_erase_of_ne (fun e=>h1 (by rw [<- e];exact hy))).mpr (h y (List.mem_cons_of_mem _ hy))
  rw [List.length_erase_of_mem hx] at ih;have:0 < m.length:=List.length_pos_of_mem hx;rw [List.length_cons];omega
def cand (b:Str) (i:Nat):Str:=b++Str.ofString "z" ++ ⟨#[97+i]⟩
theorem v42 {b:Str} {i j:Nat} (h:cand b i=cand b j):i=j:=by
 have e:=congrArg (fun x:Str=>x.cps.toList) h;have c:∀ k,(cand b k).cps.toList=b.cps.toList++[122,97+k]:=fun k=>by
  show ((b.cps++(Str.ofString "z").cps)++#[97+k]).toList=_
  rw [Array.toList_append,Array.toList_append,List.append_assoc];rfl
 have e:(cand b i).cps.toList=(cand b j).cps.toList:=e;rw [c,c] at e;have:=List.append_cancel_left e;simp at this;exact this
theorem ux2 {b nm:Str} {ws:List Str} (hl:ws.length < 26) (h:nm ∉ ws \/ ∀ i,i < 26->cand b i ∈ ws):nm ∉ ws:=by
 rcases h with h | h
 ·exact h
 ·exfalso
  have hn:((List.range 26).map (cand b)).Nodup:=List.pairwise_map.mpr (List.nodup_range.imp fun hne e=>hne (v42 e));have:=ug9 (m:=ws) hn fun x hx=>by
   obtain ⟨i,hi,rfl⟩:=List.mem_map.mp hx;exact h i (List.mem_range.mp hi)
  rw [List.length_map,List.length_range] at this;omega
theorem vt8 {ws:List Str} (h:∀ w ∈ ws,w.length=1):(ws.map Str.length).sum=ws.length:=by
 induction ws with
 | nil=>rfl
 | cons w ws ih=>rw [List.map_cons,List.sum_cons,List.length_cons,h w List.mem_cons_self,ih fun x hx=>h x (List.mem_cons_of_mem _ hx)];omega
def words12:List Str:=[Str.ofString "box",Str.ofString "num",Str.ofString "is",Str.ofString "op",Str.ofString "go",Str.ofString "add",Str.ofString "take",Str.ofString "turn",Str.ofString "swap",Str.ofString "come",Str.ofString "lay",Str.ofString "show"]
theorem uy8:((List.range 12).all fun f=>(List.range 7).all fun m=>decide (((List.range m).map fun k=>words12.getD ((f+5 * k) % 12) (Str.ofString "")).Nodup) && ((List.range m).map fun k=>words12.getD ((f+5 * k) % 12) (Str.ofString "")).all fun w=>decide (w.length<=20))=true:=by decide
theorem hso22:∀ l:List Str,strsOf (l.map D.str)=some l:=by
 intro l
 induction l with
 | nil=>rfl
 | cons w l ih=>show (strsOf (l.map D.str)).map (w::·)=_;rw [ih];rfl
theorem abc_at {x:Int} (h1:0<=x) (h2:x < 26):atI (Str.ofString "abcdefghijklmnopqrstuvwxyz").cps.toList x=some (97+x.toNat):=by
 obtain ⟨n,rfl⟩:=Int.eq_ofNat_of_zero_le h1;have hn:n < 26:=by omega
 have key:∀ n:Fin 26,(Str.ofString "abcdefghijklmnopqrstuvwxyz").cps.toList[n.val]?=some (97+n.val):=by decide
 have e:=uk5 (xs:=(Str.ofString "abcdefghijklmnopqrstuvwxyz").cps.toList) (i:=(n:Int)) h1 (by exact h2);rw [e,<- List.getElem?_eq_getElem];exact key ⟨n,hn⟩
theorem vv1 {d:D} {xs:List D} {G:Gp} {σ:DSt} {i:Nat} {g:TG3} {tb:TS3} {E:Ends3} (h0:sqD G d=some xs) (hs:σ[i]?=some (some d)) (k:∀ ok:Gp->Prop,(∀ G',sqD G' d=some xs->ok G')->forL ok g tb E xs σ G):dFor (wAny (dVar i)) g tb E σ G:=by
 unfold dFor wAny dVar;rw [hs];cases d with
 | tup ds =>
  have e:ds=xs:=by simpa [sqD] using h0
  subst e;exact k _ fun _ _=>trivial
 | ref a =>
  have h0':u11 (G a)=some xs:=h0;dsimp only;rw [h0'];exact k _ fun G' h=>h
 | _=>exact absurd h0 (by simp [sqD])
def uq5 (_:Txt K mg) (dp:Nat):Sp3:=fun ds G R=>∃ rs:List Rowp,ds=[.tup (u08 rs)] /\ depL rs < dp /\ wtL rs<=1000 /\ bdL rs /\ ∀ (q:Addr) (G':Gp),G q=none->G' q=some (.lst (u08 (outL rs)))->Grow G G'->R (.ref q) G'
def vw8 (T:Txt K mg):Sp3:=uq5 T 8
theorem vx3 {n:Nat}:Ok P w mg base n T.f_jax (uq5 T 0):=um2 fun ds G R ⟨_,_,h,_⟩=>by omega
def vi7 (_:Txt K mg) (dp:Nat):Sp3:=fun ds G R=>∃ r:Rowp,ds=[rowD r] /\ depR r<=dp /\ wtR r<=1000 /\ bdR r /\ ∀ (q:Addr) (G':Gp),G q=none->G' q=some (.lst (u08 (outR r)))->Grow G G'->R (.ref q) G'
def v48 (_:Txt K mg):Sp3:=fun ds G R=>∃ (x y:D) (rs:List Rowp),ds=[.tup [x,y,.tup (u08 rs)]] /\ depL rs<=6 /\ wtL rs<=1000 /\ bdL rs /\ ∀ (q:Addr) (G':Gp),G q=none->G' q=some (.lst (u08 (outL rs)))->Grow G G'->R (.ref q) G'
theorem v46 {dp:Nat} {G:Gp} {rs:List Rowp} {q:DK} (h1:depL rs < dp) (h2:wtL rs<=1000) (h3:bdL rs) (c:∀ (q':Addr) (G':Gp),G q'=none->G' q'=some (.lst (u08 (outL rs)))->Grow G G'->q (.ref q') G'):∃ R,uq5 T dp [.tup (u08 rs)] G R /\ ∀ d G',R d G'->q d G' :=
 u36 (post:=fun d G'=>∃ q',d=.ref q' /\ G q'=none /\ G' q'=some (.lst (u08 (outL rs))) /\ Grow G G') (fun R h=>⟨rs,rfl,h1,h2,h3,fun q' G' x y z=>h _ _ ⟨q',rfl,x,y,z⟩⟩) fun d G' ⟨q',e,x,y,z⟩=>by subst e;exact c q' G' x y z
theorem w20 {G:Gp} {x y:D} {rs:List Rowp} {q:DK} (h1:depL rs<=6) (h2:wtL rs<=1000) (h3:bdL rs) (c:∀ (q':Addr) (G':Gp),G q'=none->G' q'=some (.lst (u08 (outL rs)))->Grow G G'->q (.ref q') G'):∃ R,v48 T [.tup [x,y,.tup (u08 rs)]] G R /\ ∀ d G',R d G'->q d G' :=
 u36 (post:=fun d G'=>∃ q',d=.ref q' /\ G q'=none /\ G' q'=some (.lst (u08 (outL rs))) /\ Grow G G') (fun R h=>⟨x,y,rs,rfl,h1,h2,h3,fun q' G' x y z=>h _ _ ⟨q',rfl,x,y,z⟩⟩) fun d G' ⟨q',e,x,y,z⟩=>by subst e;exact c q' G' x y z
theorem w19 {dp:Nat} {G:Gp} {r:Rowp} {q:DK} (h1:depR r<=dp) (h2:wtR r<=1000) (h3:bdR r) (c:∀ (q':Addr) (G':Gp),G q'=none->G' q'=some (.lst (u08 (outR r)))->Grow G G'->q (.ref q') G'):∃ R,vi7 T dp [rowD r] G R /\ ∀ d G',R d G'->q d G' :=
 u36 (post:=fun d G'=>∃ q',d=.ref q' /\ G q'=none /\ G' q'=some (.lst (u08 (outR r))) /\ Grow G G') (fun R h=>⟨r,rfl,h1,h2,h3,fun q' G' x y z=>h _ _ ⟨q',rfl,x,y,z⟩⟩) fun d G' ⟨q',e,x,y,z⟩=>by subst e;exact c q' G' x y z
structure Ad2 (st sp:Addr) (G G':Gp):Prop where
 at_:StAt G' st
 sp_:∃ s:Int,G' sp=some (.lst [.int s])
 kp:∀ c o,c ≠ st->c ≠ sp->G c=some o->G' c=some o
theorem Ad2.refl {G:Gp} {st sp:Addr} {s:Int} (S:StAt G st) (h:G sp=some (.lst [.int s])):Ad2 st sp G G:=⟨S,⟨s,h⟩,fun _ _ _ _ e=>e⟩
theorem Ad2.trans {st sp:Addr} {G G1 G2:Gp} (a:Ad2 st sp G G1) (b:Ad2 st sp G1 G2):Ad2 st sp G G2:=⟨b.at_,b.sp_,fun c o h1 h2 e=>b.kp c o h1 h2 (a.kp c o h1 h2 e)⟩
theorem Ad2.adv {st sp:Addr} {G G1 G2:Gp} (a:Ad2 st sp G G1) (b:Adv st G1 G2) (n:sp ≠ st):Ad2 st sp G G2:=⟨b.at_,(let ⟨s,e⟩:=a.sp_;⟨s,b.kp _ _ n e⟩),fun c o h1 h2 e=>b.kp c o h1 (a.kp c o h1 h2 e)⟩
theorem Ad2.grow {st sp:Addr} {G G1 G2:Gp} (a:Ad2 st sp G G1) (g:Grow G1 G2):Ad2 st sp G G2:=⟨a.at_.grow g,(let ⟨s,e⟩:=a.sp_;⟨s,g.kp _ _ e⟩),fun c o h1 h2 e=>g.kp _ _ (a.kp c o h1 h2 e)⟩
theorem Ad2.put {st sp:Addr} {G G1:Gp} {xs ys:List D} {q:Addr} (a:Ad2 st sp G G1) (hq:G q=none) (k:G1 q=some (.lst xs)) (n1:q ≠ st) (n2:q ≠ sp):Ad2 st sp G (gup G1 q (.lst ys)):=⟨a.at_.set k n1,(let ⟨s,e⟩:=a.sp_;⟨s,by rw [u09 (Ne.symm n2)];exact e⟩),fun c o h1 h2 e=>by rw [u09 (gne e hq)];exact a.kp c o h1 h2 e⟩
theorem Ad2.less {st sp:Addr} {G G1:Gp} {s s':Int} (a:Ad2 st sp G G1) (h:G1 sp=some (.lst [.int s])) (n:sp ≠ st):Ad2 st sp G (gup G1 sp (.lst [.int s'])):=⟨a.at_.set h n,⟨s',u01⟩,fun c o h1 h2 e=>by rw [u09 h2];exact a.kp c o h1 h2 e⟩
theorem Ad2.out {st sp:Addr} {G G1:Gp} (a:Ad2 st sp G G1) (h:G sp=none):Adv st G G1:=⟨a.at_,fun c o h1 e=>a.kp c o h1 (gne e h) e⟩
theorem bdL_app:∀ {a b:List Rowp},bdL (a++b) ↔ bdL a /\ bdL b
 | [],b=>by simp [bdL]
 | r::a,b=>by
  show bdR r /\ bdL (a++b) ↔ (bdR r /\ bdL a) /\ bdL b
  rw [bdL_app,and_assoc]
def uy0 (_:Txt K mg) (dp:Nat):Sp3:=fun ds G R=>∃ (d:D) (rs:List Rowp),ds=[d] /\ sqD G d=some (u08 rs) /\ bdL rs /\ wtL rs<=10000000 /\ depL rs < dp /\ R (.int (wtL rs:Int)) G
def vx1 (T:Txt K mg):Sp3:=uy0 T 8
theorem vx6 {n:Nat}:Ok P w mg base n T.f_jah (uy0 T 0):=um2 (by rintro ds G R ⟨_,_,_,_,_,_,h,_⟩;omega)
def uq7 (_:Txt K mg) (dp:Nat):Sp3:=fun ds G R=>∃ (st sp:Addr) (W deep room:Nat) (bs:List Str) (s:Int),ds=[.ref st,.tup (bs.map .str),.int (W:Int),.int (deep:Int),.int (room:Int),.ref sp] /\ StAt G st /\ sp ≠ st /\ G sp=some (.lst [.int s]) /\ W<=16 /\ 1<=bs.length /\ bs.length<=6 /\ deep < dp /\ deep<=5 /\ room<=200 /\
 ∀ (rs:List Rowp) (G':Gp),okL W bs rs->bdL rs->wtL rs<=room->depL rs<=deep->rs.length<=4->Ad2 st sp G G'->R (.tup (u08 rs)) G'
def vw9 (T:Txt K mg):Sp3:=uq7 T 8
theorem vx5 {n:Nat}:Ok P w mg base n T.f_jap (uq7 T 0):=um2 (by rintro ds G R ⟨_,_,_,_,_,_,_,_,_,_,_,_,_,_,h,_⟩;omega)
def vx0 (_:Txt K mg) (dp:Nat):Sp3:=fun ds G R=>∃ (st sp:Addr) (W deep room:Nat) (bs:List Str) (s:Int),ds=[.ref st,.tup (bs.map .str),.int (W:Int),.int (deep:Int),.int (room:Int),.ref sp] /\ StAt G st /\ sp ≠ st /\ G sp=some (.lst [.int s]) /\ W<=16 /\ 1<=bs.length /\ bs.length<=6 /\ deep<=dp /\ deep<=5 /\ 1<=room /\ room<=200 /\
 ∀ (r:Rowp) (G':Gp),okR W bs r->bdR r->wtR r<=room->depR r<=deep->Ad2 st sp G G'->R (rowD r) G'
theorem ui2 {dp:Nat} {G:Gp} {st sp:Addr} {W deep room:Nat} {bs:List Str} {s:Int} {q:DK} (S:StAt G st) (n:sp ≠ st) (h:G sp=some (.lst [.int s])) (hW:W<=16) (h1:1<=bs.length) (h2:bs.length<=6) (h3:deep < dp) (h4:deep<=5) (h5:room<=200)
  (c:∀ (rs:List Rowp) (G':Gp),okL W bs rs->bdL rs->wtL rs<=room->depL rs<=deep->rs.length<=4->Ad2 st sp G G'->q (.tup (u08 rs)) G'):∃ R,uq7 T dp [.ref st,.tup (bs.map .str),.int (W:Int),.int (deep:Int),.int (room:Int),.ref sp] G R /\ ∀ d G',R d G'->q d G' :=
 u36 (post:=fun d G'=>∃ rs,d=.tup (u08 rs) /\ okL W bs rs /\ bdL rs /\ wtL rs<=room /\ depL rs<=deep /\ rs.length<=4 /\ Ad2 st sp G G') (fun R h'=>⟨st,sp,W,deep,room,bs,s,rfl,S,n,h,hW,h1,h2,h3,h4,h5,fun rs G' a b c d l e=>h' _ _ ⟨rs,rfl,a,b,c,d,l,e⟩⟩) fun d G' ⟨rs,e,a,b,c',d',l,e'⟩=>by subst e;exact c rs G' a b c' d' l e'
def uq6 (_:Txt K mg) (dp:Nat):Sp3:=fun ds G R=>∃ rs:List Rowp,ds=[.tup (u08 rs)] /\ depL rs < dp /\ bdL rs /\ wtL rs<=10000000 /\ ∀ (q:Addr) (G':Gp),G q=none->G' q=some (.lst (u08 (outL rs)))->Grow G G'->R (.ref q) G'
def vi9 (T:Txt K mg):Sp3:=uq6 T 8
theorem vx4 {n:Nat}:Ok P w mg base n T.f_jas (uq6 T 0):=um2 fun ds G R ⟨_,_,h,_⟩=>by omega
theorem ux7 {dp:Nat} {G:Gp} {rs:List Rowp} {q:DK} (h1:depL rs < dp) (h2:bdL rs) (h3:wtL rs<=10000000) (c:∀ (q':Addr) (G':Gp),G q'=none->G' q'=some (.lst (u08 (outL rs)))->Grow G G'->q (.ref q') G'):∃ R,uq6 T dp [.tup (u08 rs)] G R /\ ∀ d G',R d G'->q d G' :=
 u36 (post:=fun d G'=>∃ q',d=.ref q' /\ G q'=none /\ G' q'=some (.lst (u08 (outL rs))) /\ Grow G G') (fun R h=>⟨rs,rfl,h1,h2,h3,fun q' G' x y z=>h _ _ ⟨q',rfl,x,y,z⟩⟩) fun d G' ⟨q',e,x,y,z⟩=>by subst e;exact c q' G' x y z
def v49 (_:Txt K mg):Sp3:=fun ds G R=>∃ st:Addr,ds=[.ref st] /\ StAt G st /\ ∀ (W:Nat) (bs:List Str) (rs:List Rowp) (G':Gp),bdL rs->depL rs<=3->wtL rs<=20->outL rs ≠ []->Adv st G G'->R (.tup [.int (W:Int),.tup (bs.map .str),.tup (u08 rs)]) G'
def evL (m n:Nat):List Int:=List.replicate (m % n) (((m / n:Nat):Int)+1)++List.replicate (n - m % n) ((m / n:Nat):Int)
def ui8 (T:Txt K mg):Spx3:=fun ds G R r=>∃ (m:Nat) (n:Int),ds=[.int (m:Int),.int n] /\ m<=1000 /\ (∀ k:Nat,n=(k:Int)->1<=k->k<=m->∀ (q:Addr) (G':Gp),G q=none->G' q=some (.lst ((evL m k).map .int))->Grow G G'->R (.ref q) G') /\ ((n < 1 \/ (m:Int) < n)->r T.e_BadCuts.C [] G)
def gd (ks:List Nat) (n:Nat):Prop:=ks ≠ [] /\ (∀ k ∈ ks,1<=k) /\ ks.sum=n
def gdI (cs:List Int) (n:Nat):Prop:=cs ≠ [] /\ (∀ k ∈ cs,1<=k) /\ cs.sum=(n:Int)
def nI (ks:List Nat):List Int:=ks.map fun (k:Nat)=>(k:Int)
theorem um4:∀ ks:List Nat,(nI ks).sum=((ks.sum:Nat):Int)
 | []=>rfl
 | k::ks=>by
  have:=um4 ks
  show (k:Int)+(nI ks).sum=_
  rw [this,List.sum_cons];omega
def prt:List Nat->List Rowp->List (List Rowp)
 | [],_=>[]
 | c::cs,O=>O.take c::prt cs (O.drop c)
theorem um1:∀ (l:List Nat) (c:Nat) (O:List Rowp),prt (l++[c]) O=prt l O++[(O.drop l.sum).take c]
 | [],c,O=>rfl
 | k::l,c,O=>by
  show O.take k::prt (l++[c]) (O.drop k)=O.take k::prt l (O.drop k)++[_]
  rw [um1 l c,List.drop_drop,List.sum_cons];rfl
theorem ut2:∀ (l:List Nat) (O:List Rowp),l.sum<=O.length->(prt l O).map List.length=l
 | [],O,_=>rfl
 | k::l,O,h=>by
  rw [List.sum_cons] at h
  show (O.take k).length::(prt l (O.drop k)).map List.length=k::l
  rw [ut2 l _ (by rw [List.length_drop];omega),List.length_take,Nat.min_eq_left (by omega)]
theorem ut3:∀ (l:List Nat) (O:List Rowp),(prt l O).flatten=O.take l.sum
 | [],O=>by simp [prt]
 | k::l,O=>by
  show O.take k++(prt l (O.drop k)).flatten=_
  rw [ut3 l,List.sum_cons,List.take_add]
def PAt (G:Gp):List Addr->List (List Rowp)->Prop
 | [],ps=>ps=[]
 | a::as,ps=>∃ p t,ps=p::t /\ G a=some (.lst (u08 p)) /\ PAt G as t
theorem PAt.kp {G G':Gp} (g:∀ a o,G a=some o->G' a=some o):∀ {as:List Addr} {ps:List (List Rowp)},PAt G as ps->PAt G' as ps
 | [],_,h=>h
 | _::_,_,⟨p,t,e,h,r⟩=>⟨p,t,e,g _ _ h,r.kp g⟩
theorem PAt.kp2 {G G':Gp}:∀ {as:List Addr} {ps:List (List Rowp)},(∀ a ∈ as,∀ o,G a=some o->G' a=some o)->PAt G as ps->PAt G' as ps
 | [],_,_,h=>h
 | a::_,_,g,⟨p,t,e,h,r⟩=>⟨p,t,e,g a List.mem_cons_self _ h,r.kp2 fun b hb=>g b (List.mem_cons_of_mem _ hb)⟩
theorem PAt.snoc {G:Gp} {a:Addr} {p:List Rowp} (h1:G a=some (.lst (u08 p))):∀ {as:List Addr} {ps:List (List Rowp)},PAt G as ps->PAt G (as++[a]) (ps++[p])
 | [],_,h=>by rw [show _=[] from h];exact ⟨p,[],rfl,h1,rfl⟩
 | _::_,_,⟨p',t,e,h,r⟩=>by rw [e];exact ⟨p',t++[p],rfl,h,r.snoc h1⟩
theorem PAt.len {G:Gp}:∀ {as:List Addr} {ps:List (List Rowp)},PAt G as ps->as.length=ps.length
 | [],_,h=>by rw [show _=[] from h];rfl
 | _::_,_,⟨p',t,e,h,r⟩=>by rw [e,List.length_cons,List.length_cons,r.len]
def uf9 (T:Txt K mg):Spx3:=fun ds G R r=>∃ (x y:D) (rs:List Rowp) (ca:Addr) (cs:List Int),ds=[.tup [x,y,.tup (u08 rs)],.ref ca] /\ G ca=some (.lst (cs.map .int)) /\ depL rs<=6 /\ wtL rs<=1000 /\ bdL rs /\ cs.length<=1000 /\
 (∀ ks:List Nat,cs=nI ks->gd ks (outL rs).length->∀ (q:Addr) (as:List Addr) (G':Gp),G q=none->(∀ a ∈ as,G a=none)->(∀ a ∈ as,a ≠ q)->G' q=some (.lst (as.map .ref))->PAt G' as (prt ks (outL rs))->Grow G G'->R (.ref q) G') /\
 (¬ gdI cs (outL rs).length->∀ G',Grow G G'->r T.e_BadCuts.C [] G')
def BadS (G:Gp) (d e:D):Prop:=∃ (x y:D) (rs:List Rowp) (ca:Addr) (cs:List Int),d=.tup [x,y,.tup (u08 rs)] /\ e=.ref ca /\ G ca=some (.lst (cs.map .int)) /\ depL rs<=6 /\ wtL rs<=1000 /\ bdL rs /\ cs.length<=1000 /\ ¬ gdI cs (outL rs).length
theorem un0 {ks:List Nat} {n:Nat} (h:gd ks n):gdI (nI ks) n:=by
 refine ⟨?_,fun k hk=>?_,by rw [um4,h.2.2]⟩
 ·intro e;exact h.1 (by cases ks with | nil=>rfl | cons _ _=>cases e)
 ·obtain ⟨j,hj,rfl⟩:=List.mem_map.mp hk
  have:=h.2.1 j hj;omega
def uk9 (T:Txt K mg):Spx3:=fun ds G _ r=>∃ d e:D,ds=[d,e] /\ BadS G d e /\ ∀ G',Grow G G'->r T.e_BadCuts.C [] G'
def RefC (T:Txt K mg) (G:Gp) (f:Addr) (d e:D):Prop:=(f=T.f_jab.a /\ ∃ (m:Nat) (n:Int),d=.int (m:Int) /\ e=.int n /\ m<=1000 /\ (n < 1 \/ (m:Int) < n)) \/ (f=T.f_jaw.a /\ BadS G d e) \/ (f=T.f_jaa.a /\ BadS G d e)
def ux9 (T:Txt K mg):Sp3:=fun ds G R=>∃ (f:Addr) (d e:D),ds=[.ref f,d,e] /\ RefC T G f d e /\ ∀ G',Grow G G'->R (.bl true) G'
theorem uc5 {G:Gp} {f:Addr} {d e:D} {q:DK} (h:RefC T G f d e) (c:∀ G',Grow G G'->q (.bl true) G'):∃ R,ux9 T [.ref f,d,e] G R /\ ∀ d G',R d G'->q d G' :=
 u36 (post:=fun d G'=>d=.bl true /\ Grow G G') (fun R h'=>⟨f,d,e,rfl,h,fun G' z=>h' _ _ ⟨rfl,z⟩⟩) fun d G' ⟨e,z⟩=>by subst e;exact c G' z
def vi8 (_:Txt K mg):Sp3:=fun ds G R=>∃ i:Int,ds=[.int i] /\ R (.bl true) G
def vj2 (_:Txt K mg):Sp3:=fun ds G R=>∃ (m:Nat) (n:Int),ds=[.int (m:Int),.int n] /\ m<=1000 /\ ∀ G',Grow G G'->R (.bl true) G'
def vj3 (_:Txt K mg):Sp3:=fun ds G R=>∃ (st:Addr) (m mx:Nat),ds=[.ref st,.int (m:Int),.int (mx:Int)] /\ StAt G st /\ 1<=m /\ m<=1000 /\ 1<=mx /\ mx<=100 /\ ∀ (q:Addr) (ks:List Nat) (G':Gp),gd ks m->ks.length<=101->q ≠ st->G q=none->G' q=some (.lst ((nI ks).map .int))->Adv st G G'->R (.ref q) G'
def vj0 (_:Txt K mg):Sp3:=fun ds G R=>∃ (st ca:Addr) (ks:List Nat) (m:Nat),ds=[.ref st,.ref ca] /\ StAt G st /\ ca ≠ st /\ G ca=some (.lst ((nI ks).map .int)) /\ gd ks m /\ ks.length<=101 /\ ∀ (q:Addr) (cs:List Int) (G':Gp),¬ gdI cs m->cs.length<=200->q ≠ st->G' q=some (.lst (cs.map .int))->Adv st G G'->R (.ref q) G'
def vi6 (_:Txt K mg):Sp3:=fun ds G R=>∃ (a:Addr) (ns:List Int),ds=[.ref a] /\ G a=some (.fro (ns.map .int)) /\ ns.length<=63 /\ ∀ G',R (.bl true) G'
theorem vh8 {O:List Rowp} {a c:Nat} (h:a+c<=O.length):cutD (u08 O) (some (a:Int)) (some ((a:Int)+(c:Int)))=u08 ((O.drop a).take c):=by
 have e1:HT.sIx (u08 O).length 0 (some (a:Int))=a:=by
  have:=u14 O;simp only [HT.sIx];split <;> omega
 have e2:HT.sIx (u08 O).length (u08 O).length (some ((a:Int)+(c:Int)))=a+c:=by
  have:=u14 O;simp only [HT.sIx];split <;> omega
 unfold cutD;rw [e1,e2,u28,u28,<- List.map_drop,<- List.map_take,Nat.add_sub_cancel_left]
theorem uj3 (x:Int):∀ j:Nat,(List.replicate j x).sum=(j:Int) * x
 | 0=>by simp
 | j+1=>by rw [List.replicate_succ,List.sum_cons,uj3 x j,Int.natCast_add,Int.add_mul];simp;omega
theorem vv3 {m k:Nat} (h:1<=k):(evL m k).length=k:=by
 have:=Nat.mod_lt m h;unfold evL;rw [List.length_append,List.length_replicate,List.length_replicate];omega
theorem vv2 {m k:Nat} (h:1<=k):(evL m k).sum=(m:Int):=by
 have h1:=Nat.mod_lt m h;have h2:=Nat.div_add_mod m k;unfold evL;rw [List.sum_append,uj3,uj3,show ((k - m % k:Nat):Int)=(k:Int) - ((m % k:Nat):Int) by omega,Int.sub_mul,Int.mul_add,Int.mul_one];have h3:(k:Int) * ((m / k:Nat):Int)+((m % k:Nat):Int)=(m:Int):=by rw [<- Int.natCast_mul,<- Int.natCast_add,h2]
 omega
theorem v31 {m k:Nat} (h:1<=k):∃ x:Int,atI ((evL m k).map D.int) 0=some (.int x) /\ x - ((m / k:Nat):Int)<=1:=by
 have h1:=Nat.mod_lt m h;unfold evL;cases e:m % k with
 | zero =>
  obtain ⟨j,hj⟩:∃ j,k - 0=j+1:=⟨k - 1,by omega⟩;rw [hj];exact ⟨((m / k:Nat):Int),uq3,by omega⟩
 | succ j=>exact ⟨((m / k:Nat):Int)+1,uq3,by omega⟩
theorem vh1 {m k:Nat} (h:1<=k):atI ((evL m k).map D.int) (-1)=some (.int ((m / k:Nat):Int)):=by
 have h1:=Nat.mod_lt m h;obtain ⟨j,hj⟩:∃ j,k - m % k=j+1:=⟨k - m % k - 1,by omega⟩;unfold evL;rw [hj,List.replicate_succ',<- List.append_assoc,List.map_append];exact atI_last
theorem vh0 {m k:Nat}:(evL m k).reverse.Pairwise (·<=·):=by
 unfold evL;rw [List.reverse_append,List.reverse_replicate,List.reverse_replicate];refine List.pairwise_append.mpr ⟨List.pairwise_replicate.mpr (.inr (by omega)),List.pairwise_replicate.mpr (.inr (by omega)),fun a ha b hb=>?_⟩;rw [(List.mem_replicate.mp ha).2,(List.mem_replicate.mp hb).2];omega
theorem uq2 {G:Gp} {f:Addr} {d e:D} {r:XD} {q:DK} (hc:RefC T G f d e) (fin:∀ G1,Grow G G1->r T.e_BadCuts.C [] G1) :
  uw8 0 [(T.f_jab.a,ui8 T),(T.f_jaw.a,uf9 T),(T.f_jaa.a,uk9 T)] r (u52 (dVar 1) (u52 (dVar 2) dNil)) [some (.ref f),some d,some e,some .non,none] G q:=by
 rcases hc with ⟨rfl,m,n,rfl,rfl,hm,hb⟩ | ⟨rfl,x,y,rs,ca,cs,rfl,rfl,h1,h2,h3,h4,h5,h6⟩ | ⟨rfl,hb⟩
 ·refine ⟨(T.f_jab.a,ui8 T),by simp,rfl,?_⟩
  exact ⟨fun _ _=>False,⟨m,n,rfl,hm,fun k e a b=>by omega,fun _=>fin G Grow.refl⟩,fun _ _ z=>z.elim⟩
 ·refine ⟨(T.f_jaw.a,uf9 T),by simp,rfl,?_⟩
  exact ⟨fun _ _=>False,⟨x,y,rs,ca,cs,rfl,h1,h2,h3,h4,h5,(fun ks e1 e2=>absurd (by rw [e1];exact un0 e2) h6),fun _=>fin⟩,fun _ _ z=>z.elim⟩
 ·refine ⟨(T.f_jaa.a,uk9 T),by simp,rfl,?_⟩
  exact ⟨fun _ _=>False,⟨d,e,rfl,hb,fin⟩,fun _ _ z=>z.elim⟩
theorem uh7 {α:Type} {xs:List α} {n:Nat}:cutD xs (some (n:Int)) none=xs.drop n:=by
 unfold cutD;rw [HT.sIx_none,HT.sIx_nat]
 rcases Nat.le_total n xs.length with h | h
 ·rw [Nat.min_eq_left h,List.take_of_length_le (by rw [List.length_drop];omega)]
 ·rw [Nat.min_eq_right h,List.drop_of_length_le (Nat.le_refl _),List.drop_of_length_le h,List.take_nil]
theorem vh9 {c0:Nat} {kr:List Nat} {cs:List Int} (h:cs=nI (c0::kr)):∃ y:Int,atI (cs.map D.int) (-1)=some (.int y) /\ cs=cs.dropLast++[y]:=by
 have hn:cs ≠ []:=by rw [h];intro z;cases z
 obtain ⟨y,hy⟩:∃ y,cs=cs.dropLast++[y]:=⟨_,(List.dropLast_concat_getLast hn).symm⟩;refine ⟨y,?_,hy⟩;rw [hy,List.map_append];exact atI_last
theorem va4 {G:Gp} {a:Addr} {O:List Rowp} (h:u11 (G a)=some (u08 O)) (hd:depL O<=5):∃ s,snap G 12 (.ref a)=some s:=by
 obtain ⟨ys,e⟩:=ue9 (f:=snap G 11) (xs:=u08 O) (uo7 (k:=0) hd);exact ⟨.lst ys,by show ((u11 (G a)).bind fun ds=>(ds.mapM (snap G 11)).map Sn.lst)=_;rw [h,Option.bind_some,e];rfl⟩
theorem vi1 {G:Gp} {a b:Addr} {O:List Rowp} {Q:Bool->Prop} (h1:u11 (G a)=some (u08 O)) (h2:u11 (G b)=some (u08 O)) (hd:depL O<=5) (h:Q true) :
  ∃ n sd se r,n<=40 /\ snap G n (.ref a)=some sd /\ snap G n (.ref b)=some se /\ eqN n sd se=some r /\ Q r:=by
 obtain ⟨s,hs⟩:=va4 h1 hd;exact ⟨12,s,s,true,by decide,hs,by rw [<- Rw.snap_ref (h1.trans h2.symm)];exact hs,Rw.eq_self 12 hs,h⟩
theorem v72:∀ {a b:List Nat},nI a=nI b->a=b
 | [],[],_=>rfl
 | x::a,y::b,h=>by
  have h:(x:Int)::nI a=(y:Int)::nI b:=h;injection h with h1 h2
  rw [v72 h2,Int.ofNat.inj h1]
 | [],_::_,h=>by cases h
 | _::_,[],h=>by cases h
theorem vw4 {G:Gp} {x y:D} {rs:List Rowp} {ca:Addr} {ks:List Nat} {q:DK} (h:G ca=some (.lst ((nI ks).map .int))) (h1:depL rs<=6) (h2:wtL rs<=1000) (h3:bdL rs) (h4:ks.length<=1000) (hg:gd ks (outL rs).length)
  (c:∀ (q':Addr) (as:List Addr) (G':Gp),G q'=none->(∀ a ∈ as,G a=none)->(∀ a ∈ as,a ≠ q')->G' q'=some (.lst (as.map .ref))->PAt G' as (prt ks (outL rs))->Grow G G'->q (.ref q') G'):∃ R,uf9 T [.tup [x,y,.tup (u08 rs)],.ref ca] G R noX /\ ∀ d G',R d G'->q d G' :=
 uf8 (post:=fun d G'=>∃ q' as,d=.ref q' /\ G q'=none /\ (∀ a ∈ as,G a=none) /\ (∀ a ∈ as,a ≠ q') /\ G' q'=some (.lst (as.map .ref)) /\ PAt G' as (prt ks (outL rs)) /\ Grow G G') (fun R h'=>⟨x,y,rs,ca,nI ks,rfl,h,h1,h2,h3,by unfold nI;rw [List.length_map];exact h4,(fun ks' e1 _ q' as G' b1 b2 b3 b4 b5 b6=>h' _ _ ⟨q',as,rfl,b1,b2,b3,b4,by rw [v72 e1];exact b5,b6⟩),fun z=>absurd (un0 hg) z⟩)
  (by rintro d G' ⟨q',as,rfl,b1,b2,b3,b4,b5,b6⟩;exact c q' as G' b1 b2 b3 b4 b5 b6)
theorem uh8 {G:Gp} {p:Addr} {as:List Addr} {PP:List (List Rowp)} {ok:Gp->Prop} {q:DK} (pa:PAt G as PP) (hp:G p=none) (hok:∀ G',Grow G G'->ok G') (hl:as.length<=1000) (k:q (.ref p) (gup G p (.lst ((nI (PP.map List.length)).map .int)))) :
  uc8 ok (u88 0) dYes (dCB xLen (u52 (dVar 0) dNil)) p q (as.map D.ref) [none] (gup G p (.lst [])):=by
 refine u81 (fun r σ G'=>∃ (t:List Addr) (ps qs:List (List Rowp)) (v0:Option D),r=t.map .ref /\ PAt G t qs /\ ps++qs=PP /\ G'=gup G p (.lst ((nI (ps.map List.length)).map .int)) /\ σ=[v0]) ⟨as,[],PP,none,rfl,pa,rfl,rfl,rfl⟩ ?_ ?_
 ·rintro σ G2 ⟨t,ps,qs,v0,e1,e2,e3,rfl,rfl⟩
  cases t with
  | nil =>
   have e2:qs=[]:=e2;rw [e2,List.append_nil] at e3;subst e3;exact ⟨hok _ (Grow.refl.new hp),k⟩
  | cons x t=>cases e1
 ·rintro x r σ G2 ⟨t,ps,qs,v0,e1,e2,e3,rfl,rfl⟩ ih
  cases t with
  | nil=>cases e1
  | cons b t =>
   cases e1;obtain ⟨p1,qs,rfl,k1,e2⟩:=e2;refine ⟨hok _ (Grow.refl.new hp),?_⟩;have nb:b ≠ p:=gne k1 hp;have hlp:ps.length<=as.length:=by rw [pa.len,<- e3,List.length_append];omega
   simp only [u88,dYes,dCB,u52,dVar,dNil,xLen,List.set_cons_zero,List.getElem?_cons_zero,if_true,u09 nb,k1,u11,u01];refine ⟨Nat.lt_of_le_of_lt (m:=1000) (by unfold nI;rw [List.length_map,List.length_map,List.length_map];omega) (by decide),ih _ _ ⟨t,ps++[p1],qs,some (.ref b),rfl,e2,by rw [<- e3];simp,?_,rfl⟩⟩;rw [u71,u14];unfold nI;rw [List.map_append,List.map_append,List.map_append];rfl
theorem uc9 {k:Nat}:FnOk P w K mg base CX0 (k+1) T.f_BadCuts_init.a T.f_BadCuts_init.fd ["self"] (u76 T.e_BadCuts.C) :=
 uq9 (L:=T.e_LitterError.C) T.f_BadCuts_init u57 T.e_BadCuts.xc (fun cdv A outer s H E=>us9 (ut1 (v01 rfl T.e_LitterError.m T.e_LitterError.b.sp T.e_LitterError.b.rd T.e_LitterError.b.fc (ut9 (pv 0) v70))))
end
end Law
set_option compiler.extract_closed false
open PySem L2 L3 Rw in
set_option hygiene false in
local macro_rules | `(tactic| simp! [$xs,*])=>`(tactic| try simp only [dTry,vw2,vw1,uw6,uh6,vv9,uw5,w12,vg3,v27,v28,ue4,vh6,Int.toNat_natCast,dCall,vw0,w15,List.append_nil,dSeq,vh5,dAsg,up9,dRet,w14,dIfS,dB,dAnd,dOr,dNot,v39,dOrV,vh4,dIf,dVar,dC,dOp,dUn,dNil,u52,dTup,dLst,dCB,dSl,v38,uk0,dBM,dBM0,dAug,dFld,w13,w16,dYes,u88,jSub,jSeq,vg1,jNil,v97,vy7,wAny,dFor,xSub,xDiv,xMod,xPow,xShl,xShr,xAnd,xOr,xXor,uh3,tyD,ua7,ud6,List.map_cons,List.map_nil,List.cons_append,List.nil_append,List.length_cons,List.length_nil,List.replicate,List.getElem?_cons_zero,List.getElem?_cons_succ,List.set_cons_zero,List.set_cons_succ,Nat.reduceAdd,Nat.reduceSub,Nat.sub_self,us1,us2,u01,Option.bind_some,Option.bind_none,id,Bool.false_eq_true,if_true,if_false,reduceIte,true_and,and_true,decide_true,decide_false,Bool.not_true,Bool.not_false,uq3,w24,w23,w22,w21,vu5,vu4,vu3,vu7,vu6,vj6,vj5,vh7,$xs,*])
open L3 in
set_option hygiene false in
local macro_rules | `(tactic| dsimp! [$xs,*])=>`(tactic| (simp only [Go];simp! [$xs,*]))
namespace Law
open PySem L2 L3 Rw
section
variable {P:Program} {w:World} {K:W.Frag} {mg:Str->Option Value} {base:Heap} (T:Txt K mg)
theorem vq2 {n:Nat} (G_jax:Ok P w mg base n T.f_jax (vw8 T)):Ok P w mg base (n+1) T.f_jav (v48 T):=by
 refine u38 T.f_jav v66 (fun ds G R h=>?_) (fun cdv A outer s H E hr =>
   (u07 (u20 (ec T.f_jax T.g_unrolled G_jax hr (u00 (e_ix x_ix (ev 0) u04) u02))))) (fun ds G R h=>?_)
 ·obtain ⟨x,y,rs,rfl,_⟩:=h;rfl
 ·obtain ⟨x,y,rs,rfl,h1,h2,h3,post⟩:=h
  simp! [id];exact v46 T (dp:=8) (by omega) h2 h3 fun q G' a b c=>post q G' a b c
theorem vq0 {n dp:Nat} (G_jaz:Ok P w mg base n T.f_jaz (vi7 T dp)):Ok P w mg base (n+1) T.f_jax (uq5 T (dp+1)):=by
 refine u38 T.f_jax sc_jax (fun ds G R h=>?_) (fun cdv A outer s H E hr =>
   (u03 (u13 1 sc_jax.nd (u25 u02))
   (u03 (u86 (uc7 (ev 0)) (u31 2 sc_jax.nd) (u07 (u68 (v34 (ev 1) (u00 (ec T.f_jaz T.g_unrolled_row G_jaz hr (u00 (ev 2) u02)) u02)))))
   (u07 (u20 (ev 1)))))) (fun ds G R h=>?_)
 ·obtain ⟨rs,rfl,_⟩:=h;rfl
 ·obtain ⟨rs,rfl,hd,hw,hb,post⟩:=h
  simp! [id];refine ⟨by decide,fun p hp=>?_⟩;dsimp! [id];refine u30 (fun r σ G'=>∃ (l t:List Rowp) (v2:Option D),l++t=rs /\ r=u08 t /\ Grow G G' /\ G' p=some (.lst (u08 (outL l))) /\ σ=[some (.tup (u08 rs)),some (.ref p),v2]) ⟨[],rs,none,rfl,rfl,Grow.refl.new hp,u01,rfl⟩ ?_ ?_
  ·rintro σ G1 ⟨l,t,v2,e,e2,g,kp,rfl⟩
   have ht:t=[]:=by
    cases t with
    | nil=>rfl
    | cons x t=>cases e2
   subst ht;rw [List.append_nil] at e;subst e;refine ⟨trivial,?_⟩;dsimp! [id];exact post p G1 hp kp g
  ·rintro x r σ G1 ⟨l,t,v2,e,e2,g,kp,rfl⟩ ih
   cases t with
   | nil=>cases e2
   | cons r0 t =>
    cases e2;refine ⟨trivial,?_⟩;have hm:r0 ∈ rs:=by rw [<- e];simp
    have hdr:=ub3 (Nat.le_of_lt_succ hd) r0 hm;have hwr:=ul3 hm;have hwl:wtL l+(wtR r0+wtL t)=wtL rs:=by rw [<- e,u70];rfl
    have hol:=ub0 l;simp! [kp];refine w19 T hdr (by omega) (uo1 hb hm) fun q G2 f2 k2 g2=>?_
    have kp2:=g2.kp _ _ kp;have npq:p ≠ q:=gne kp f2;have hor:(outR r0).length<=wtR r0:=by
     have:=um8 (outR r0);rw [uu0] at this;exact this
    simp! [kp2,k2];refine ⟨Nat.le_trans (m:=2000) (by rw [u14,u14];omega) (by decide),ih _ _ ⟨l++[r0],t,_,by rw [<- e];simp,rfl,⟨fun c o h=>?_⟩,?_,rfl⟩⟩
    ·rw [u09 (gne h hp)]
     exact g2.kp _ _ (g.kp _ _ h)
    ·rw [u01,u98,<- u51]
     simp [outL]
theorem vp9 {n dp:Nat} (G_jax:Ok P w mg base n T.f_jax (uq5 T dp)):Ok P w mg base (n+1) T.f_jaz (vi7 T dp):=by
 refine u38 T.f_jaz v65 (fun ds G R h=>?_) (fun cdv A outer s H E hr =>
   (u03 (s_if (u27 (x_eq hr) (e_ix x_ix (ev 0) u04) u41 (nomark _)) (u07 (u20 (e_if (u27 (x_eq hr) (e_ix x_ix (ev 0) u04) u04 (nomark _)) (u25 u02) (u10 ua3 (ec T.f_jax T.g_unrolled G_jax hr (u00 (e_ix x_ix (ev 0) u04) u02)) (e_ix x_ix (ev 0) u04))))) u18)
   (u03 (s_if (u27 (x_eq hr) (e_ix x_ix (ev 0) u04) u41 (nomark _)) (u07 (u20 (u25 (u00 (u80 (u00 u41 (u00 (e_ix x_ix (ev 0) u04) (u00 (u32 u43 rfl T.b_tuple (by decide) (u00 (ec T.f_jax T.g_unrolled G_jax hr (u00 (e_ix x_ix (ev 0) u04) u02)) u02)) (u00 (u32 u43 rfl T.b_tuple (by decide) (u00 (ec T.f_jax T.g_unrolled G_jax hr (u00 (e_ix x_ix (ev 0) u04) u02)) u02)) u02))))) u02)))) u18)
   (u07 (u20 (u25 (u00 (ev 0) u02))))))) (fun ds G R h=>?_)
 ·obtain ⟨r,rfl,_⟩:=h;rfl
 ·obtain ⟨r,rfl,hd,hw,hb,post⟩:=h
  cases r with
  | is x a =>
   simp! [rowD];dsimp! [id];dsimp! [id];exact ⟨by decide,fun p hp=>post p _ hp u01 (Grow.refl.new hp)⟩
  | op x o a b =>
   simp! [rowD];dsimp! [id];dsimp! [id];exact ⟨by decide,fun p hp=>post p _ hp u01 (Grow.refl.new hp)⟩
  | cho a ys ns =>
   simp! [rowD];have hd':1+max (depL ys) (depL ns)<=dp:=hd;have hw':1+wtL ys+wtL ns<=1000:=hw;rw [if_neg (by decide)];refine v46 T (by omega) (by omega) hb.1 fun q1 G1 f1 k1 g1=>?_
   simp! [k1,u11];refine v46 T (by omega) (by omega) hb.2 fun q2 G2 f2 k2 g2=>?_
   simp! [k2,u11];refine ⟨by decide,by decide,fun p hp=>post p _ ?_ ?_ ((g1.trans g2).new hp)⟩
   ·exact (g1.trans g2).none hp
   ·rw [u01];rfl
  | tim k ys =>
   have hd':1+depL ys<=dp:=hd;have hw':k * wtL ys<=1000:=hw;simp! [rowD];refine u42 (fun hk=>?_) (fun hk=>?_)
   ·have hk0:k=0:=by omega
    subst hk0;exact ⟨by decide,fun p hp=>post p _ hp (by rw [u01];rfl) (Grow.refl.new hp)⟩
   ·have hk1:wtL ys<=k * wtL ys:=Nat.le_mul_of_pos_left _ (by omega)
    refine v46 T (by omega) (by omega) hb.2.1 fun q1 G1 f1 k1 g1=>?_
    simp! [k1];have hol:=ub0 ys;have hlk:(outL ys).length * k<=1000:=Nat.le_trans (Nat.mul_le_mul_right k hol) (by rw [Nat.mul_comm];exact hw');have hk9:=hb.2.2;refine ⟨⟨by omega,by omega,Nat.le_trans (m:=1000) (by rw [u14];exact hlk) (by decide)⟩,fun p hp=>post p _ (g1.none hp) ?_ (g1.new hp)⟩;rw [u01,ua8];rfl
theorem vr7 {n:Nat}:OkX P w mg base (n+3) T.f_jab (ui8 T):=by
 refine uj9 T.f_jab sc_jab (fun ds G R r h=>?_) (fun cdv A outer s H E r hr =>
   (u03 (s_if (t_w (w_or (u27 (x_lt) (ev 1) u04 (nomark _)) (uc6 (u27 (x_gt) (ev 1) (ev 0) (nomark _))))) (u07 (ul6 T.xm_BadCuts (uc9 T) hr T.f_BadCuts_init.b T.e_BadCuts.m)) u18)
   (u03 (u13 2 sc_jab.nd (u10 uy5 (ev 0) (ev 1)))
   (u03 (u13 3 sc_jab.nd (u10 ue1 (ev 0) (ev 1)))
   (u07 (u20 (u10 u24 (u10 ua3 (u25 (u00 (u10 u24 (ev 2) u04) u02)) (ev 3)) (u10 ua3 (u25 (u00 (ev 2) u02)) (u10 u53 (ev 1) (ev 3)))))))))) (fun ds G R r h=>?_)
 ·obtain ⟨m,n,rfl,_⟩:=h;rfl
 ·obtain ⟨m,n,rfl,hm,good,bad⟩:=h
  simp! [id];refine u42 (fun q=>?_) (fun q=>?_)
  ·simp! [id]
   exact bad (.inl q)
  simp! [id];refine u42 (fun q2=>?_) (fun q2=>?_)
  ·simp! [id]
   exact bad (.inr q2)
  obtain ⟨k,rfl⟩:=u34 (show 0<=n by omega);dsimp! [id];refine ⟨by unfold uq8;omega,?_⟩;dsimp! [id];refine ⟨by omega,?_⟩;dsimp! [id];have e1:((m:Int) % (k:Int))=((m % k:Nat):Int):=by omega
  have e2:((m:Int) / (k:Int))=((m / k:Nat):Int):=by omega
  have hk:1<=k:=by omega
  have hk2:k<=m:=by omega
  have hlt:m % k < k:=Nat.mod_lt _ hk;have e3:((k:Int) - ((m % k:Nat):Int))=((k - m % k:Nat):Int):=by omega
  rw [e1,e2,e3];refine ⟨by decide,fun p1 h1=>⟨⟨by omega,by omega,Nat.le_trans (m:=1000) (by rw [Int.toNat_natCast];omega) (by decide)⟩,fun p2 h2=>⟨by decide,fun p3 h3=>⟨⟨by omega,by omega,Nat.le_trans (m:=1000) (by rw [Int.toNat_natCast];omega) (by decide)⟩,fun p4 h4=>?_⟩⟩⟩⟩;rw [Int.toNat_natCast,Int.toNat_natCast] at *;have g4:=(((Grow.refl.new (o:=.lst [D.int (((m / k:Nat):Int)+1)]) h1).new (o:=.lst (List.replicate (m % k) [D.int (((m / k:Nat):Int)+1)]).flatten) h2).new (o:=.lst [D.int ((m / k:Nat):Int)]) h3).new (o:=.lst (List.replicate (k - m % k) [D.int ((m / k:Nat):Int)]).flatten) h4;have n3:p2 ≠ p3:=fun e=>by rw [<- e,u01] at h3;cases h3
  have n4:p2 ≠ p4:=fun e=>by rw [<- e,u09 n3,u01] at h4;cases h4
  have fl:∀ (j:Nat) (d:D),(List.replicate j [d]).flatten=List.replicate j d:=fun j d=>by
   induction j with
   | zero=>rfl
   | succ j ih=>rw [List.replicate_succ,List.flatten_cons,ih];rfl
  refine add_l (by rw [u09 n4,u09 n3,u01]) u01 (by rw [fl,fl,List.length_replicate,List.length_replicate];omega) fun p5 h5=>good k rfl hk hk2 p5 _ (g4.none h5) ?_ (g4.new h5)
  rw [u01,fl,fl];unfold evL;rw [List.map_append,List.map_replicate,List.map_replicate]
theorem vq1 {n:Nat} (G_jav:Ok P w mg base (n+2) T.f_jav (v48 T)):OkX P w mg base (n+3) T.f_jaw (uf9 T):=by
 refine uj9 T.f_jaw sc_jaw (fun ds G R r h=>?_) (fun cdv A outer s H E r hr =>
   (u03 (u13 2 sc_jaw.nd (ec T.f_jav T.g_pieces G_jav hr (u00 (ev 0) u02)))
   (u03 (s_if (t_w (w_or (u27 (x_eq hr) (u12 u72 rfl T.b_len (by decide) (u00 (ev 1) u02)) u04 (nomark _)) (w_or (u27 (x_lt) (u12 vj8 rfl T.b_min (by decide) (u00 (ev 1) u02)) u04 (nomark _)) (uc6 (u27 (x_ne hr) (u12 vj7 rfl T.b_sum (by decide) (u00 (ev 1) u02)) (u12 u72 rfl T.b_len (by decide) (u00 (ev 2) u02)) (nomark _)))))) (u07 (ul6 T.xm_BadCuts (uc9 T) hr T.f_BadCuts_init.b T.e_BadCuts.m)) u18)
   (u03 (u13 3 sc_jaw.nd (u25 u02))
   (u03 (u13 4 sc_jaw.nd u04)
   (u03 (u86 (uc7 (ev 1)) (u31 5 sc_jaw.nd) (u03 (u68 (u48 (ev 3) (u00 (e_sl x_sl (ev 2) (u69 (ev 4)) (u69 (u10 u24 (ev 4) (ev 5)))) u02)))
   (u07 (vz2 4 sc_jaw.nd (ev 5) vk1))) (hp:=v86 uf4))
   (u07 (u20 (ev 3))))))))) (fun ds G R r h=>?_)
 ·obtain ⟨x,y,rs,ca,cs,rfl,_⟩:=h;rfl
 ·obtain ⟨x,y,rs,ca,cs,rfl,hca,hd,hw,hb,hl,good,bad⟩:=h
  simp! [id];refine w20 T hd hw hb fun qp G1 fp kp g1=>?_
  have hca1:=g1.kp _ _ hca;simp! [hca1,List.length_map];generalize hu:dSeq (dAsg (dLst dNil) (u88 3)) _=u;dsimp! [hca1,List.length_map];have fin:¬ gdI cs (outL rs).length->r T.e_BadCuts.C [] G1:=fun z=>bad z G1 g1
  refine u42 (fun q=>?_) (fun q=>?_)
  ·simp! [id]
   exact fin fun z=>z.1 (List.length_eq_zero_iff.mp (by omega))
  simp! [v91,hca1,u11,u66];refine ⟨by omega,fun M hM hM2=>u42 (fun q1=>?_) (fun q1=>?_)⟩
  ·exact fin fun z=>by have:=z.2.1 M hM;omega
  simp! [xSum,hca1,u11,u66,kp,u14]
  by_cases q2:cs.sum=((outL rs).length:Int)
  ·rw [if_neg (by rw [decide_eq_true q2];decide)]
   obtain ⟨ks,rfl⟩:∃ ks:List Nat,cs=nI ks:=⟨cs.map Int.toNat,by
    unfold nI;rw [List.map_map];refine (List.map_id cs).symm.trans (List.map_congr_left fun c hc=>?_);have:=hM2 c hc
    show c=((c.toNat:Nat):Int)
    omega⟩
   have hg:gd ks (outL rs).length:=by
    refine ⟨fun z=>by (rw [z] at hM;cases hM),fun k hk=>?_,by rw [um4] at q2;omega⟩;have:=hM2 (k:Int) (List.mem_map.mpr ⟨k,hk,rfl⟩);omega
   have good:=good ks rfl hg;clear fin bad;subst hu;generalize hO:outL rs=O at *;dsimp! [id];refine ⟨by decide,fun pp hpp=>?_⟩;have hn1:qp ≠ pp:=gne kp hpp;have hn2:ca ≠ pp:=gne hca1 hpp;have hpG:=g1.none hpp;dsimp! [id];dsimp! [u09 hn2,hca1,u11];have hlk:ks.length<=1000:=by
    unfold nI at hl;rw [List.length_map] at hl;exact hl
   refine u30 (fun r σ G'=>∃ (l t:List Nat) (as:List Addr) (v5:Option D),l++t=ks /\ r=(nI t).map .int /\ Grow G1 G' /\ G' pp=some (.lst (as.map .ref)) /\ (∀ a ∈ as,G a=none) /\ (∀ a ∈ as,a ≠ pp) /\ PAt G' as (prt l O) /\ as.length=l.length /\ σ=[some (.tup [x,y,.tup (u08 rs)]),some (.ref ca),some (.ref qp),some (.ref pp),some (.int (l.sum:Int)),v5]) ⟨[],ks,[],none,rfl,rfl,Grow.refl.new hpp,u01,(fun a h=>nomatch h),(fun a h=>nomatch h),rfl,rfl,rfl⟩ ?_ ?_
   ·rintro σ G2 ⟨l,t,as,v5,e,e2,g2,k2,f1,f2,pa,hle,rfl⟩
    have ht:t=[]:=by
     cases t with
     | nil=>rfl
     | cons x t=>cases e2
    subst ht;rw [List.append_nil] at e;subst e;refine ⟨by rw [g2.kp _ _ hca1],?_⟩;dsimp! [id];exact good pp as G2 hpG f1 f2 k2 pa (g1.trans g2)
   ·rintro z r σ G2 ⟨l,t,as,v5,e,e2,g2,k2,f1,f2,pa,hle,rfl⟩ ih
    cases t with
    | nil=>cases e2
    | cons c t =>
     cases e2;refine ⟨by rw [g2.kp _ _ hca1],?_⟩;have hsum:l.sum+c<=O.length:=by
      rw [<- hg.2.2,<- e,List.sum_append,List.sum_cons];omega
     have hll:l.length < ks.length:=by rw [<- e,List.length_append,List.length_cons];omega
     have kp2:=g2.kp _ _ kp;simp! [kp2,u11,k2];intro p3 h3;have n3:pp ≠ p3:=gne k2 h3;simp! [u09 n3,k2];rw [vh8 hsum];refine ⟨Nat.lt_of_le_of_lt (m:=1000) (by rw [List.length_map];omega) (by decide),?_⟩;dsimp! [id];have g3:=g2.new (o:=.lst (u08 ((O.drop l.sum).take c))) h3;have keep:∀ a ∈ as,∀ o,G2 a=some o->gup (gup G2 p3 (.lst (u08 ((O.drop l.sum).take c)))) pp (.lst (as.map D.ref++[.ref p3])) a=some o:=fun a ha o ho=>by rw [u09 (f2 a ha),u09 (gne ho h3)];exact ho
     refine ih _ _ ⟨l++[c],t,as++[p3],some (.int (c:Int)),by rw [<- e];simp,rfl,g3.own hpp,by rw [u01,List.map_append];rfl,?_,?_,?_,by rw [List.length_append,List.length_append,hle];rfl,by rw [List.sum_append];simp⟩
     ·intro a ha
      rcases List.mem_append.mp ha with ha | ha
      ·exact f1 a ha
      ·rw [List.mem_singleton.mp ha];exact (g1.trans g2).none h3
     ·intro a ha
      rcases List.mem_append.mp ha with ha | ha
      ·exact f2 a ha
      ·rw [List.mem_singleton.mp ha];exact Ne.symm n3
     ·rw [um1]
      exact PAt.snoc (by rw [u09 (Ne.symm n3),u01]) (pa.kp2 keep)
  ·rw [if_pos (by rw [decide_eq_false q2];rfl)]
   exact fin fun z=>q2 z.2.2
theorem vr8 {n:Nat} (G_jaw:OkX P w mg base (n+0) T.f_jaw (uf9 T)):OkX P w mg base (n+1) T.f_jaa (uk9 T):=by
 refine uj9 T.f_jaa v69 (fun ds G R r h=>?_) (fun cdv A outer s H E r hr =>
   (u07 (u20 (v35 (ecX uf4 T.f_jaw T.g_stretches G_jaw hr (u00 (ev 0) (u00 (ev 1) u02))))))) (fun ds G R r h=>?_)
 ·obtain ⟨d,e,rfl,_⟩:=h;rfl
 ·obtain ⟨d,e,rfl,⟨x,y,rs,ca,cs,rfl,rfl,h1,h2,h3,h4,h5,h6⟩,bad⟩:=h
  simp! [uw7];refine uf8 (post:=fun _ _=>False) (fun R h=>⟨x,y,rs,ca,cs,rfl,h1,h2,h3,h4,h5,(fun ks e1 e2=>absurd (by rw [e1];exact un0 e2) h6),fun _=>bad⟩) fun d G' z=>z
theorem vr4 {n:Nat}:Ok P w mg base (n+1) T.f_jaf (u96 T):=by
 refine u38 T.f_jaf sc_jaf (fun ds G R h=>?_) (fun cdv A outer s H E hr =>
   (u03 (uz4 (ev 0) (vu0 (n:=3) rfl (ub5 (u31 2 sc_jaf.nd) (ub5 (u31 3 sc_jaf.nd) (ub5 (u31 4 sc_jaf.nd) v77)))))
   (u03 (s_if (u27 (x_eq hr) (ev 4) u04 (nomark _)) (u03 (uz4 (u10 u24 (ev 3) u04) (vg0 (ev 0) u04 v88))
   (u03 (u13 5 sc_jaf.nd (u10 u24 (u10 ua3 u04 (ev 3)) u04))
   (u03 (s_if (u27 (x_gt) (u12 u72 rfl T.b_len (by decide) (u00 (ev 2) u02)) u04 (nomark _)) (u07 (u13 5 sc_jaf.nd (e_ix x_ix (ev 2) (u10 ue1 (ev 3) (u12 u72 rfl T.b_len (by decide) (u00 (ev 2) u02)))))) u18)
   (u03 (u13 4 sc_jaf.nd (u12 vy1 rfl T.b_abs (by decide) (u00 (ev 5) u02)))
   (u07 (s_if (t_w (w_or (u27 (x_ge) (ev 3) (u12 u72 rfl T.b_len (by decide) (u00 (ev 2) u02)) (nomark _)) (uc6 (u27 (x_lt) (ev 4) (u10 vx9 u04 u04) (nomark _))))) (u03 (u13 6 sc_jaf.nd (u10 ue1 (u10 u24 (u10 u24 (u10 ua3 (u10 ue1 (ev 5) u04) (u10 u24 u04 (ev 3))) (u10 ua3 u04 (ev 3))) u04) u04))
   (u03 (u13 6 sc_jaf.nd (u10 ue1 (u10 ua3 (ev 6) (ev 6)) u04))
   (u07 (u20 (u10 ue1 (u10 ue1 (u10 ua3 (ev 6) (ev 6)) u04) (ev 1)))))) u18)))))) u18)
   (u03 (uz4 (u12 uy4 rfl T.b_divmod (by decide) (u00 (ev 4) (u00 (ev 1) u02))) (vu0 (n:=2) rfl (ub5 (vg0 (ev 0) u04 v88) (ub5 (u31 7 sc_jaf.nd) v77))))
   (u07 (u20 (ev 7))))))) (fun ds G R h=>?_)
 ·obtain ⟨⟨st,m,rfl,_⟩,_⟩:=h;rfl
 ·obtain ⟨⟨st,m,rfl,⟨a,ns,k,r,hst,ha,hk,hr0,hne,hlen⟩,hm0,hm1⟩,post⟩:=h
  have fin:∀ (v k' r':Int),0<=v->v < m->0<=k'->0<=r'->R (.int v) (gup G st (.lst [.ref a,.int k',.int r'])):=fun v k' r' h1 h2 h3 h4=>post _ _ ⟨st,m,v,rfl,
   ⟨⟨a,ns,k',r',u01,by rw [u09 hne];exact ha,h3,h4,hne,hlen⟩,fun b o hb e=>by rw [u09 hb];exact e⟩,rfl,h1,h2⟩
  have tail:∀ (y k' r':Int),0<=k'->0<=r'->R (.int (y % m)) (gup G st (.lst [.ref a,.int k',.int r'])):=fun y k' r' h1 h2=>fin _ _ _ (Int.emod_nonneg _ (by omega)) (Int.emod_lt_of_pos _ hm0) h1 h2
  have cd:∀ c:Int,CDiv c m:=fun c=>⟨hm0,hm1⟩
  have cm:∀ c y:Int,CMul (c % 2147483629) y:=fun c y=>ud8 (by omega) (by omega)
  have cm2:∀ c y:Int,CMul (c % 2147483587) y:=fun c y=>ud8 (by omega) (by omega)
  have c7:∀ y:Int,CMul 7 y:=fun y=>ud8 (by decide) (by decide)
  have c79:∀ y:Int,CMul 7919 y:=fun y=>ud8 (by decide) (by decide)
  have cp:CPow 10 18:=⟨by decide,by decide,by decide⟩;have p1:((0:Int) < 2147483629)=True:=by decide
  have p2:((0:Int) < 2147483587)=True:=by decide
  have p3:((0:Int) < 1999999973)=True:=by decide
  have p4:((0:Int) < m)=True:=eq_true hm0
  by_cases hn:ns=[]
  ·subst hn
   (simp! [hst,ha,u09 hne,u71,cd,cm,cm2,c7,c79,cp,p1,p2,p3,p4];repeat (simp only [Go];simp! [hst,ha,u09 hne,u71,cd,cm,cm2,c7,c79,cp,p1,p2,p3,p4]))
   refine u42 (fun h0=>?_) (fun h0=>?_)
   ·simp only [Int.lt_irrefl,Int.natCast_zero,decide_false,Bool.false_eq_true,if_false]
    refine u42 (fun h1=>?_) (fun h1=>?_)
    ·exact tail _ _ _ (by omega) hr0
    ·exact absurd hk h1
   ·exact tail _ _ _ hk (Int.ediv_nonneg hr0 (by omega))
  ·have hpos:0 < ns.length:=List.length_pos_iff.mpr hn
   have hl:((ns.map D.int).length:Int)=(ns.length:Int):=by simp
   obtain ⟨c,hc⟩:∃ c,atI (ns.map D.int) (k % (ns.length:Int))=some (.int c):=⟨_,vi4 (Int.emod_nonneg _ (by omega)) (Int.emod_lt_of_pos _ (by omega))⟩;have p5:((0:Int) < (ns.length:Int))=True:=eq_true (by omega)
   (simp! [hst,ha,u09 hne,u71,cd,cm,cm2,c7,c79,cp,p1,p2,p3,p4,hl,hc,p5];repeat (simp only [Go];simp! [hst,ha,u09 hne,u71,cd,cm,cm2,c7,c79,cp,p1,p2,p3,p4,hl,hc,p5]))
   refine u42 (fun h0=>?_) (fun h0=>?_)
   ·refine u42 (fun h1=>?_) (fun h1=>?_)
    ·exact tail _ _ _ (by omega) hr0
    ·refine u42 (fun h2=>?_) (fun h2=>?_)
     ·exact tail _ _ _ (by omega) hr0
     ·refine tail _ _ _ (by omega) (Int.ediv_nonneg ?_ (by omega))
      split <;> omega
   ·exact tail _ _ _ hk (Int.ediv_nonneg hr0 (by omega))
theorem vr1 {n:Nat} (G_jaf:Ok P w mg base n T.f_jaf (u96 T)):Ok P w mg base (n+1) T.f_jaj (vj1 T):=by
 refine u38 T.f_jaj sc_jaj (fun ds G R h=>?_) (fun cdv A outer s H E hr =>
   @(u03 @(u13 2 sc_jaj.nd u41)
   @(u03 @(u13 3 sc_jaj.nd @(u25 @(v85 u02)))
   @(u03 @(u86 (u93 rfl T.b_range @(u00 (ev 1) u02)) (u31 4 sc_jaj.nd) @(u03 @(u13 5 sc_jaj.nd @(vv5 u41 @(u00 @(uh4 (N':=["_law_j", "_law_letters", "_law_state"]) (ix:=[none,some 2,some 0]) (blk (osc:=u05 us6) (N:=["_law_state", "_law_many", "_law_letters", "_law_names_here", "_law_k", "_law_name", "_law_begin", "_law_j", "_law_words", "_law_first"]) rfl rfl (by decide)) (u93 rfl T.b_range @(u00 @(u10 u24 u04 (ec T.f_jaf T.g_law_draw G_jaf hr @(u00 (ev 0) @(u00 u04 u02)))) u02)) (fun _ _ _ _=>(u31 0 (show (["_law_j", "_law_letters", "_law_state"]:List Str).Nodup by decide))) (fun _ _ _ _=>ub8) (fun _ _ _ _=>@(e_ix x_ix (ev 1) (ec T.f_jaf T.g_law_draw G_jaf hr @(u00 (ev 2) @(u00 u04 u02)))))) u02)))
   @(u03 @(u13 6 sc_jaj.nd @(e_sl vx8 (ev 5) ub1 (u69 u04)))
   @(u03 @(u86 (u93 rfl T.b_range @(u00 u04 u02)) (u31 7 sc_jaj.nd) @(u07 @(s_if (u27 (x_in hr) (ev 5) (ev 3) (by with_unfolding_all rfl)) @(u07 @(u13 5 sc_jaj.nd @(u10 u24 @(u10 u24 (ev 6) u41) @(e_ix x_ix (ev 2) (ev 7))))) u18)))
   @(u07 @(u68 (u48 (ev 3) @(u00 (ev 5) u02))))))))
   @(u03 @(s_if (u27 (x_eq hr) (ec T.f_jaf T.g_law_draw G_jaf hr @(u00 (ev 0) @(u00 u04 u02))) u04 (nomark _)) (by (with_unfolding_all change Ss3' _ _ _);exact (ul5 (vm4 8 sc_jaj.nd (ux8 (ux8 vw7))) (ul5 (S3'.of @(u13 9 sc_jaj.nd (ec T.f_jaf T.g_law_draw G_jaf hr @(u00 (ev 0) @(u00 u04 u02))))) (va3 (S3'.of @(u20 @(u32 u43 rfl T.b_tuple (by decide) @(u00 @(uh4 (N':=["_law_k", "_law_words", "_law_first"]) (ix:=[none,some 8,some 9]) (blk (osc:=u05 us6) (N:=["_law_state", "_law_many", "_law_letters", "_law_names_here", "_law_k", "_law_name", "_law_begin", "_law_j", "_law_words", "_law_first"]) rfl rfl (by decide)) (u93 rfl T.b_range @(u00 (ev 1) u02)) (fun _ _ _ _=>(u31 0 (show (["_law_k", "_law_words", "_law_first"]:List Str).Nodup by decide))) (fun _ _ _ _=>ub8) (fun _ _ _ _=>@(e_ix x_ix (ev 1) @(u10 ue1 @(u10 u24 (ev 2) @(u10 ua3 u04 (ev 0))) u04)))) u02)))))))) u18)
   @(u07 @(u20 @(u32 u43 rfl T.b_tuple (by decide) @(u00 @(e_sl x_sl (ev 3) (u69 u04) ub1) u02))))))))) (fun ds G R h=>?_)
 ·obtain ⟨st,m,rfl,_⟩:=h;rfl
 ·obtain ⟨st,m,rfl,S,hm1,hm2,post⟩:=h
  have hab:(Str.ofString "abcdefghijklmnopqrstuvwxyz").length<=sizeLine:=by decide
  simp! [id];dsimp! [id];refine ⟨by decide,fun nh hnh=>?_⟩;have nn:nh ≠ st:=S.ne hnh;obtain ⟨six,hsix⟩:∃ six:List Str,six=[Str.ofString "wide",Str.ofString "boxes",Str.ofString "choose",Str.ofString "else",Str.ofString "end",Str.ofString "times"]:=⟨_,rfl⟩;have s1:six.length=6:=by rw [hsix];rfl
  have s2:six.Nodup:=by rw [hsix];decide
  rw [show [D.str "wide",D.str "boxes",D.str "choose",D.str "else",D.str "end",D.str "times"]=six.map D.str by rw [hsix];rfl];clear hsix;have A0:Adv st G (gup G nh (.lst (six.map D.str))):=(Adv.refl S).new hnh;dsimp! [id];refine ⟨⟨by omega,by omega⟩,?_⟩;generalize hN:Go (dSeq _ _ _)=N;refine u30 (fun r σ G'=>∃ (i c:Nat) (ns:List Str) (v4 v5 v6 v7:Option D),i+c=m /\ r=rngD (i:Int) c /\ Adv st G G' /\ G' nh=some (.lst ((six++ns).map D.str)) /\ ns.length=i /\ (six++ns).Nodup /\ (∀ w ∈ ns,w.length<=20) /\ σ=[some (.ref st),some (.int (m:Int)),some (.str (Str.ofString "abcdefghijklmnopqrstuvwxyz")),some (.ref nh),v4,v5,v6,v7,none,none]) ⟨0,m,[],none,none,none,none,by omega,rfl,A0,by rw [List.append_nil];exact u01,rfl,by rw [List.append_nil];exact s2,fun w hw=>(by cases hw),rfl⟩ ?_ ?_
  ·rintro σ G1 ⟨i,c,ns,v4,v5,v6,v7,e,e2,A1,k1,hl,hnd,hw,rfl⟩
   have hc:c=0:=by
    cases c with
    | zero=>rfl
    | succ c=>rw [u21] at e2;cases e2
   subst hc;refine ⟨trivial,?_⟩;rw [<- hN];dsimp! [id];refine u06 A1.at_ (by decide) (by decide) fun x1 G2 a2 b1 b2=>?_
   have A2:=A1.trans a2;have k2:=a2.kp _ _ nn k1;simp! [id];refine u42 (fun q=>?_) (fun q=>?_)
   ·simp! [id]
    refine ⟨by decide,fun pw hpw=>?_⟩;rw [show [D.str "box",D.str "num",D.str "is",D.str "op",D.str "go",D.str "add",D.str "take",D.str "turn",D.str "swap",D.str "come",D.str "lay",D.str "show"]=words12.map D.str from rfl];have A3:=A2.new (o:=.lst (words12.map D.str)) hpw;have nw:=A2.at_.ne hpw
    dsimp! [id];refine u06 A3.at_ (by decide) (by decide) fun x2 G4 a4 c1 c2=>?_
    obtain ⟨x2,rfl⟩:=u34 c1;have A4:=A3.trans a4;have k4:=a4.kp _ _ nw u01;simp! [id];dsimp! [id];refine ⟨⟨by omega,by omega⟩,fun p hp=>?_⟩;have np:=A4.at_.ne hp
    have nwp:pw ≠ p:=gne k4 hp;refine u81 (fun r σ G'=>∃ (j c:Nat) (v:Option D),j+c=m /\ r=rngD (j:Int) c /\ G'=gup G4 p (.lst (((List.range j).map fun k=>words12.getD ((x2+5 * k) % 12) (Str.ofString "")).map .str)) /\ σ=[v,some (.ref pw),some (.int (x2:Int))]) ⟨0,m,none,by omega,rfl,rfl,rfl⟩ ?_ ?_
    ·rintro σ G5 ⟨j,c,v,e5,e6,rfl,rfl⟩
     have hc:c=0:=by
      cases c with
      | zero=>rfl
      | succ c=>rw [u21] at e6;cases e6
     refine ⟨trivial,?_⟩;have hx:x2 < 12:=by omega
     have hj:j=m:=by omega
     subst hj;have hok:=List.all_eq_true.mp (List.all_eq_true.mp uy8 x2 (List.mem_range.mpr hx)) j (List.mem_range.mpr (by omega));rw [Bool.and_eq_true] at hok;unfold u74;simp only [u01,u11];exact post _ _ (by rw [List.length_map,List.length_range]) (fun b hb=>of_decide_eq_true (List.all_eq_true.mp hok.2 b hb)) (of_decide_eq_true hok.1) (A4.new hp)
    ·rintro z r σ G5 ⟨j,c,v,e5,e6,rfl,rfl⟩ ih
     cases c with
     | zero=>cases e6
     | succ c =>
      rw [u21] at e6;cases e6;refine ⟨trivial,?_⟩;have kw:gup G4 p (.lst (((List.range j).map fun k=>words12.getD ((x2+5 * k) % 12) (Str.ofString "")).map .str)) pw=some (.lst (words12.map D.str)):=by rw [u09 nwp];exact k4
      have hi:((x2:Int)+5 * (j:Int)) % 12=(((x2+5 * j) % 12:Nat):Int):=by omega
      have hq:(x2+5 * j) % 12 < 12:=Nat.mod_lt _ (by decide);have hat:atI (words12.map D.str) (((x2+5 * j) % 12:Nat):Int)=some (.str (words12.getD ((x2+5 * j) % 12) (Str.ofString ""))):=by
       generalize (x2+5 * j) % 12=t at hq;refine u60 ?_;rw [List.getElem?_map,List.getD_eq_getElem?_getD,List.getElem?_eq_getElem (by exact hq)];rfl
      simp! [kw,hi,hat];refine ⟨ud8 (by decide) (by decide),by decide,?_,?_⟩
      ·rw [List.length_map,List.length_map,List.length_range]
       exact Nat.lt_of_le_of_lt (m:=1000) (by omega) (by decide)
      ·rw [u71]
       refine ih _ _ ⟨j+1,c,_,by omega,by congr 1,?_,rfl⟩;rw [List.range_succ,List.map_append,List.map_append];rfl
   ·dsimp! [k2]
    intro p hp;rw [show ((6:Int))=((6:Nat):Int) from rfl,uw9,<- List.map_drop,show (six++ns).drop 6=ns by rw [List.drop_append_of_le_length (by omega),List.drop_eq_nil_of_le (by omega),List.nil_append]];exact post ns _ (by omega) hw (List.nodup_append.mp hnd).2.1 (A2.new hp)
  ·rintro z r σ G1 ⟨i,c,ns,v4,v5,v6,v7,e,e2,A1,k1,hl,hnd,hw,rfl⟩ ih
   cases c with
   | zero=>cases e2
   | succ c =>
    rw [u21] at e2;cases e2;refine ⟨trivial,?_⟩;simp! [id];refine u06 A1.at_ (by decide) (by decide) fun x1 G2 a2 b1 b2=>?_
    have A2:=A1.trans a2;have k2:=a2.kp _ _ nn k1;obtain ⟨sz,hsz,hz1,hz2⟩:∃ sz:Nat,1+x1=(sz:Int) /\ 1<=sz /\ sz<=8:=⟨(1+x1).toNat,by omega,by omega,by omega⟩;simp! [hsz];refine ⟨⟨by omega,by omega⟩,fun p hp=>?_⟩;have np:=A2.at_.ne hp
    have fp:G p=none:=A2.none hp np;have npn:nh ≠ p:=gne k2 hp;have happ:∀ a b:Str,(a++b).length=a.length+b.length:=fun a b=>by
     show (a.cps++b.cps).size=_
     rw [Array.size_append];rfl
    generalize hN2:Go (dSeq (dAsg (dSl xSlS _ _ _) _) _ _)=N2;refine u81 (fun r σ G'=>∃ (j c':Nat) (ws:List Str) (v:Option D),j+c'=sz /\ r=rngD (j:Int) c' /\ Adv st G G' /\ G' nh=some (.lst ((six++ns).map D.str)) /\ G' p=some (.lst (ws.map .str)) /\ ws.length=j /\ (∀ w ∈ ws,w.length=1) /\ σ=[v,some (.str (Str.ofString "abcdefghijklmnopqrstuvwxyz")),some (.ref st)]) ⟨0,sz,[],none,by omega,rfl,A2.new hp,by rw [u09 npn];exact k2,u01,rfl,by simp,rfl⟩ ?_ ?_
    ·rintro σ G3 ⟨j,c',ws,v,e5,e6,A3,k3,kp3,hlw,hw1,rfl⟩
     have hc:c'=0:=by
      cases c' with
      | zero=>rfl
      | succ c=>rw [u21] at e6;cases e6
     have hjl:(jn Str.empty ws).length=sz:=by rw [vt9,vt8 hw1];omega
     have hfold:Builtin.Str.tooLong ((ws.toArray).foldl (·+·.length+Str.empty.length) 0)=false:=by
      have:∀ (l:List Str) (n:Nat),(∀ w ∈ l,w.length=1)->l.foldl (·+·.length+Str.empty.length) n=n+l.length:=by
       intro l
       induction l with
       | nil=>intro n _;rfl
       | cons w l ih=>intro n h;rw [List.foldl_cons,ih _ fun v hv=>h v (List.mem_cons_of_mem _ hv),h w (List.mem_cons_self ..),List.length_cons];show n+1+0+l.length=_;omega
      rw [List.foldl_toArray,this ws 0 hw1];unfold Builtin.Str.tooLong;exact decide_eq_false (Nat.not_lt.mpr (Nat.le_of_lt (Nat.lt_of_le_of_lt (m:=1000) (by omega) (by decide))))
     refine ⟨trivial,Str.empty,p,ws,rfl,rfl,by rw [kp3];rfl,hfold,by rw [hjl];exact Nat.le_of_lt (Nat.lt_of_le_of_lt (m:=1000) (by omega) (by decide)),?_⟩;obtain ⟨nm,hnm⟩:∃ nm,nm=jn Str.empty ws:=⟨_,rfl⟩;rw [<- hnm] at hjl ⊢;rw [<- hN2];dsimp! [id];refine ⟨nm,rfl,Nat.le_of_lt (Nat.lt_of_le_of_lt (m:=1000) (by omega) (by decide)),fun bg hbg=>?_⟩;dsimp! [id];refine ⟨⟨by decide,by decide⟩,?_⟩;generalize hN3:Go (up9 (dBM "list" u87 _ _) _)=N3;refine u30 (fun r σ G'=>∃ (t c'':Nat) (nm:Str) (v7:Option D),t+c''=26 /\ r=rngD (t:Int) c'' /\ G'=G3 /\ nm.length<=20 /\ (nm ∉ six++ns \/ ∀ i,i < t->cand bg i ∈ six++ns) /\ σ=[some (.ref st),some (.int (m:Int)),some (.str (Str.ofString "abcdefghijklmnopqrstuvwxyz")),some (.ref nh),some (.int (i:Int)),some (.str nm),some (.str bg),v7,none,none]) ⟨0,26,nm,_,by omega,rfl,rfl,by omega,.inr fun i hi=>absurd hi (Nat.not_lt_zero _),rfl⟩ ?_ ?_
     ·rintro σ G4 ⟨t,c'',nm,v7',e7,e8,rfl,hn7,hfr,rfl⟩
      have hc:c''=0:=by
       cases c'' with
       | zero=>rfl
       | succ c=>rw [u21] at e8;cases e8
      refine ⟨trivial,?_⟩;have ht:t=26:=by omega
      subst ht;have hfree:=ux2 (by rw [List.length_append];omega) hfr;rw [<- hN3];dsimp! [k3];refine ⟨by rw [List.length_map,List.length_append];exact Nat.lt_of_le_of_lt (m:=1000) (by omega) (by decide),ih _ _ ⟨i+1,c,ns++[nm],_,_,_,_,by omega,by congr 1,A3.own hnh k3 nn,by rw [u01,<- List.append_assoc,List.map_append (l₁:=six++ns)];rfl,by simp [hl],?_,?_,rfl⟩⟩
      ·rw [<- List.append_assoc]
       refine List.nodup_append.mpr ⟨hnd,List.nodup_cons.mpr ⟨by simp,List.nodup_nil⟩,fun a ha b hb e=>hfree ?_⟩;rw [<- List.mem_singleton.mp hb,<- e];exact ha
      ·intro w hw'
       rcases List.mem_append.mp hw' with h | h
       ·exact hw w h
       ·rw [List.mem_singleton.mp h];exact hn7
     ·rintro z r σ G4 ⟨t,c'',nm,v7',e7,e8,rfl,hn7,hfr,rfl⟩ ih2
      cases c'' with
      | zero=>cases e8
      | succ c'' =>
       rw [u21] at e8;cases e8;refine ⟨trivial,?_⟩;dsimp! [id];unfold xInB;simp only [k3,u11,hso22];refine u42 (fun q=>?_) (fun q=>?_)
       ·have hin:nm ∈ six++ns:=by simpa using q
        have hch:=abc_at (x:=(t:Int)) (by omega) (by omega);rw [Int.toNat_natCast] at hch;unfold xAdd xIx;simp only [hch];have hz:(Str.ofString "z").length=1:=rfl;refine ⟨Nat.le_of_lt (Nat.lt_of_le_of_lt (m:=1000) (by omega) (by decide)),hab,?_,?_⟩
        ·rw [happ,hz]
         exact Nat.le_of_lt (Nat.lt_of_le_of_lt (m:=1000) (by show bg.length+1+1<=1000;omega) (by decide))
        ·refine ih2 _ _ ⟨t+1,c'',cand bg t,_,by omega,by congr 1,rfl,?_,?_,rfl⟩
         ·unfold cand
          rw [happ,happ,hz]
          show bg.length+1+1<=20
          omega
         ·by_cases hct:cand bg t ∈ six++ns
          ·refine .inr fun i hi=>?_
           rcases Nat.lt_or_ge i t with h | h
           ·rcases hfr with h' | h'
            ·exact absurd hin h'
            ·exact h' i h
           ·rw [show i=t by omega];exact hct
          ·exact .inl hct
       ·have hin:nm ∉ six++ns:=by simpa using q
        exact ih2 _ _ ⟨t+1,c'',nm,_,by omega,by congr 1,rfl,hn7,.inl hin,rfl⟩
    ·rintro z r σ G3 ⟨j,c',ws,v,e5,e6,A3,k3,kp3,hlw,hw1,rfl⟩ ih2
     cases c' with
     | zero=>cases e6
     | succ c' =>
      rw [u21] at e6;cases e6;refine ⟨trivial,?_⟩;simp! [id];refine u06 A3.at_ (by decide) (by decide) fun x3 G4 a4 c1 c2=>?_
      have hch:=abc_at c1 c2;have A4:=A3.trans a4;have k4:=a4.kp _ _ nn k3;have kp4:=a4.kp _ _ np kp3;refine ⟨hab,?_⟩;rw [hch];simp! [kp4];refine ⟨by rw [List.length_map];exact Nat.lt_of_le_of_lt (m:=1000) (by omega) (by decide),ih2 _ _ ⟨j+1,c',ws++[⟨#[97+x3.toNat]⟩],_,by omega,by congr 1,A4.own fp kp4 np,by rw [u09 npn];exact k4,by rw [u01,List.map_append];rfl,by simp [hlw],?_,rfl⟩⟩;intro w hw'
      rcases List.mem_append.mp hw' with h | h
      ·exact hw1 w h
      ·rw [List.mem_singleton.mp h];rfl
theorem vr0 {n:Nat} (G_jaf:Ok P w mg base n T.f_jaf (u96 T)):Ok P w mg base (n+1) T.f_jak (v50 T):=by
 refine u38 T.f_jak sc_jak (fun ds G R h=>?_) (fun cdv A outer s H E hr =>
   (u03 (u13 2 sc_jak.nd (ec T.f_jaf T.g_law_draw G_jaf hr (u00 (ev 0) (u00 u04 u02))))
   (u03 (s_if (u27 (x_eq hr) (ev 2) u04 (nomark _)) (u07 (u20 (e_ix x_ix (u25 (u00 u04 (u00 (u10 u53 (u10 v87 u04 (ev 1)) u04) u02))) (ec T.f_jaf T.g_law_draw G_jaf hr (u00 (ev 0) (u00 u04 u02)))))) u18)
   (u03 (s_if (u27 (x_eq hr) (ev 2) u04 (nomark _)) (u07 (u20 (u10 ue1 (ec T.f_jaf T.g_law_draw G_jaf hr (u00 (ev 0) (u00 u04 u02))) (u10 v87 u04 (ev 1))))) u18)
   (u07 (u20 (ec T.f_jaf T.g_law_draw G_jaf hr (u00 (ev 0) (u00 (u10 v87 u04 (ev 1)) u02))))))))) (fun ds G R h=>?_)
 ·obtain ⟨st,W,rfl,_⟩:=h;rfl
 ·obtain ⟨st,W,rfl,S,hW,post⟩:=h
  have hP:=pw W;have hC:CPow 1 (W:Int):=⟨by omega,by omega,by decide⟩;have hp:=p16 hW;have h0:=Nat.two_pow_pos W;obtain ⟨P,hPe⟩:∃ P,P=2 ^ W:=⟨_,rfl⟩;rw [<- hPe] at hP hp h0 post;simp! [id];refine u06 S (by decide) (by decide) fun x1 G1 a1 b1 b2=>?_
  simp! [id];dsimp! [hP];refine u42 (fun q0=>?_) (fun q0=>?_)
  ·refine ⟨hC,by decide,fun p hp1=>?_⟩
   have A2:=a1.new (o:=.lst [D.int 0,D.int ((P:Int) - 1)]) hp1;have n2:=a1.at_.ne hp1
   refine u06 A2.at_ (by decide) (by decide) fun x2 G3 a3 c1 c2=>?_
   have k3:=a3.kp _ _ n2 u01;obtain ⟨v,ev,hv⟩:∃ v:Nat,atI [D.int 0,D.int ((P:Int) - 1)] x2=some (.int (v:Int)) /\ v < P:=by
    have:x2=0 \/ x2=1:=by omega
    rcases this with e | e <;> subst e
    ·exact ⟨0,rfl,h0⟩
    ·exact ⟨P - 1,by show some (D.int ((P:Int) - 1))=_;rw [show ((P - 1:Nat):Int)=(P:Int) - 1 by omega],by omega⟩
   simp! [k3,ev];exact post v _ hv (A2.trans a3)
  ·dsimp! [hP]
   refine u42 (fun q1=>?_) (fun q1=>?_)
   ·refine u06 a1.at_ (by decide) (by decide) fun x2 G3 a3 c1 c2=>?_
    simp! [id];refine ⟨hC,by omega,?_⟩;obtain ⟨x2,rfl⟩:=u34 c1;rw [<- Int.natCast_emod];exact post _ _ (Nat.mod_lt _ h0) (a1.trans a3)
   ·dsimp! [hP]
    refine ⟨hC,?_⟩;refine u06 a1.at_ (by omega) (by omega) fun x2 G3 a3 c1 c2=>?_
    obtain ⟨x2,rfl⟩:=u34 c1;exact post _ _ (by omega) (a1.trans a3)
theorem vr6 {n:Nat} (G_jaf:Ok P w mg base n T.f_jaf (u96 T)) (G_jak:Ok P w mg base n T.f_jak (v50 T)):Ok P w mg base (n+1) T.f_jad (v51 T):=by
 refine u38 T.f_jad v68 (fun ds G R h=>?_) (fun cdv A outer s H E hr =>
   (u03 (s_if (u27 (x_eq hr) (ec T.f_jaf T.g_law_draw G_jaf hr (u00 (ev 0) (u00 u04 u02))) u04 (nomark _)) (u07 (u20 (ec T.f_jak T.g_law_number G_jak hr (u00 (ev 0) (u00 (ev 2) u02))))) u18)
   (u07 (u20 (e_ix x_ix (ev 1) (ec T.f_jaf T.g_law_draw G_jaf hr (u00 (ev 0) (u00 (u12 u72 rfl T.b_len (by decide) (u00 (ev 1) u02)) u02)))))))) (fun ds G R h=>?_)
 ·obtain ⟨st,W,bs,rfl,_⟩:=h;rfl
 ·obtain ⟨st,W,bs,rfl,S,hW,h1,h2,post⟩:=h
  simp! [id];refine u06 S (by decide) (by decide) fun x1 G1 a1 b1 b2=>?_
  simp! [List.length_map];refine u42 (fun h0=>?_) (fun h0=>?_)
  ·exact w18 T a1.at_ hW fun i G2 hi a2=>post (.num i) G2 hi (a1.trans a2)
  ·dsimp! [List.length_map]
   refine u06 a1.at_ (by omega) (by omega) fun x2 G3 a3 c1 c2=>?_
   obtain ⟨x2,rfl⟩:=u34 c1;obtain ⟨b,hb⟩:∃ b,bs[x2]?=some b:=⟨_,List.getElem?_eq_getElem (by omega)⟩;have eb:atI (bs.map D.str) (x2:Int)=some (.str b):=u60 (by rw [List.getElem?_map,hb];rfl);simp! [eb];exact post (.box b) _ (List.mem_of_getElem? hb) (a1.trans a3)
theorem vr2 {n dp:Nat} (G_jah:Ok P w mg base n T.f_jah (uy0 T dp)):Ok P w mg base (n+1) T.f_jah (uy0 T (dp+1)):=by
 refine u38 T.f_jah sc_jah (fun ds G R h=>?_) (fun cdv A outer s H E hr =>
   (u03 (u13 1 sc_jah.nd u04)
   (u03 (u86 (uc7 (ev 0)) (u31 2 sc_jah.nd) (u03 (s_if (u27 (x_eq hr) (e_ix x_ix (ev 2) u04) u41 (nomark _)) (u07 (u13 1 sc_jah.nd (u10 u24 (ev 1) (u10 ua3 (e_ix x_ix (ev 2) u04) (ec T.f_jah T.g_law_heavy G_jah hr (u00 (e_ix x_ix (ev 2) u04) u02)))))) (u07 (u13 1 sc_jah.nd (u10 u24 (ev 1) u04))))
   (u07 (s_if (u27 (x_eq hr) (e_ix x_ix (ev 2) u04) u41 (nomark _)) (u07 (u13 1 sc_jah.nd (u10 u24 (u10 u24 (ev 1) (ec T.f_jah T.g_law_heavy G_jah hr (u00 (e_ix x_ix (ev 2) u04) u02))) (ec T.f_jah T.g_law_heavy G_jah hr (u00 (e_ix x_ix (ev 2) u04) u02))))) u18))))
   (u07 (u20 (ev 1)))))) (fun ds G R h=>?_)
 ·obtain ⟨d,rs,rfl,_⟩:=h;rfl
 ·obtain ⟨d,rs,rfl,h0,hbd,hwt,hdp,post⟩:=h
  simp! [id];simp only [Go,dSeq];refine vv1 h0 rfl fun ok hok0=>?_
  generalize hN:Go (dRet _ _)=N;refine u30 (fun r σ G'=>∃ (l t:List Rowp) (v2:Option D),l++t=rs /\ r=u08 t /\ G'=G /\ σ=[some d,some (.int (wtL l:Int)),v2]) ⟨[],rs,none,rfl,rfl,rfl,rfl⟩ ?_ ?_
  ·rintro σ G1 ⟨l,t,v2,e,e2,rfl,rfl⟩
   have ht:t=[]:=by
    cases t with
    | nil=>rfl
    | cons x t=>cases e2
   subst ht;rw [List.append_nil] at e;subst e;refine ⟨hok0 _ h0,?_⟩;rw [<- hN];dsimp! [id];exact post
  ·rintro z r σ G1 ⟨l,t,v2,e,e2,rfl,rfl⟩ ih
   cases t with
   | nil=>cases e2
   | cons r0 t =>
    cases e2;refine ⟨hok0 _ h0,?_⟩;have hm:r0 ∈ rs:=by rw [<- e];simp
    have hnr:=uo1 hbd hm;have hwr:=ul3 hm;have hdr:=ub3 (Nat.le_of_lt_succ hdp) r0 hm;have nxt:∀ {k:Int},k=((wtL l+wtR r0:Nat):Int)->∃ (l' t':List Rowp) (v2:Option D),l'++t'=rs /\ u08 t=u08 t' /\ G1=G1 /\ [some d,some (.int k),some (rowD r0)]=[some d,some (.int (wtL l':Int)),v2]:=fun {k} ek=>⟨l++[r0],t,some (rowD r0),by rw [<- e];simp,rfl,rfl,by rw [ek,u70];rfl⟩
    cases r0 with
    | is x a =>
     have d1:(Str.ofString "is" = Str.ofString "choose")=False:=eq_false (by decide);have d2:(Str.ofString "is" = Str.ofString "times")=False:=eq_false (by decide);simp! [rowD,d2];dsimp! [d1];exact ih _ _ (nxt (by show _=((wtL l+1:Nat):Int);omega))
    | op x o a c =>
     have d1:(Str.ofString "op" = Str.ofString "choose")=False:=eq_false (by decide);have d2:(Str.ofString "op" = Str.ofString "times")=False:=eq_false (by decide);simp! [rowD,d2];dsimp! [d1];exact ih _ _ (nxt (by show _=((wtL l+1:Nat):Int);omega))
    | cho a ys ns =>
     obtain ⟨hny,hnn⟩:bdL ys /\ bdL ns:=hnr;have hd':1+max (depL ys) (depL ns)<=dp:=hdr;have hs1:wtR (.cho a ys ns)=1+wtL ys+wtL ns:=rfl;have d2:(Str.ofString "choose" = Str.ofString "times")=False:=eq_false (by decide);simp! [rowD,d2];dsimp! [id];refine u82 (v:=.int (wtL ys:Int)) (G1:=G1) (fun R h=>⟨.tup (u08 ys),ys,rfl,rfl,hny,by omega,by omega,h⟩) ?_;simp! [id];refine u82 (v:=.int (wtL ns:Int)) (G1:=G1) (fun R h=>⟨.tup (u08 ns),ns,rfl,rfl,hnn,by omega,by omega,h⟩) ?_;simp! [id];exact ih _ _ (nxt (by rw [hs1];omega))
    | tim k ys =>
     have hd':1+depL ys<=dp:=hdr;have hs1:wtR (.tim k ys)=k * wtL ys:=rfl;have d1:(Str.ofString "times" = Str.ofString "choose")=False:=eq_false (by decide);simp! [rowD];refine u82 (v:=.int (wtL ys:Int)) (G1:=G1) (fun R h=>⟨.tup (u08 ys),ys,rfl,rfl,hnr.2.1,hnr.1,by omega,h⟩) ?_;simp! [id];have hk:=hnr.2.2;refine ⟨ud8 (by omega) (by omega),?_⟩;dsimp! [d1];exact ih _ _ (nxt (by rw [hs1];rw [Int.natCast_add,Int.natCast_mul]))
theorem vq7 {n dp:Nat} (G_jaf:Ok P w mg base n T.f_jaf (u96 T)) (G_jad:Ok P w mg base n T.f_jad (v51 T)) (G_jap:Ok P w mg base n T.f_jap (uq7 T dp)):Ok P w mg base (n+1) T.f_jan (vx0 T dp):=by
 refine u38 T.f_jan sc_jan (fun ds G R h=>?_) (fun cdv A outer s H E hr =>
   (u03 (uz4 (u10 u53 (e_ix x_ix (ev 5) u04) u04) (vg0 (ev 5) u04 v88))
   (u03 (u13 6 sc_jan.nd (ec T.f_jaf T.g_law_draw G_jaf hr (u00 (ev 0) (u00 u04 u02))))
   (u03 (u13 7 sc_jan.nd (e_ix x_ix (ev 1) (ec T.f_jaf T.g_law_draw G_jaf hr (u00 (ev 0) (u00 (u12 u72 rfl T.b_len (by decide) (u00 (ev 1) u02)) u02)))))
   (u03 (u13 8 sc_jan.nd (ec T.f_jad T.g_law_atom G_jad hr (u00 (ev 0) (u00 (ev 1) (u00 (ev 2) u02)))))
   (u03 (s_if (u27 (x_lt) (ev 6) u04 (nomark _)) (u07 (u20 (u80 (u00 u41 (u00 (ev 7) (u00 (ev 8) u02)))))) u18)
   (u03 (s_if (t_w (w_or (u27 (x_lt) (ev 6) u04 (nomark _)) (w_or (u27 (x_eq hr) (ev 3) u04 (nomark _)) (uc6 (u27 (x_lt) (ev 4) u04 (nomark _)))))) (u07 (u20 (u80 (u00 u41 (u00 (ev 7) (u00 (e_ix x_ix u41 (ec T.f_jaf T.g_law_draw G_jaf hr (u00 (ev 0) (u00 u04 u02)))) (u00 (ev 8) (u00 (ec T.f_jad T.g_law_atom G_jad hr (u00 (ev 0) (u00 (ev 1) (u00 (ev 2) u02)))) u02)))))))) u18)
   (u03 (s_if (u27 (x_lt) (ev 6) u04 (nomark _)) (u03 (u13 9 sc_jan.nd (ec T.f_jap T.g_law_rows G_jap hr (u00 (ev 0) (u00 (ev 1) (u00 (ev 2) (u00 (u10 u53 (ev 3) u04) (u00 (u10 uy5 (u10 u53 (ev 4) u04) u04) (u00 (ev 5) u02))))))))
   (u07 (u20 (u80 (u00 u41 (u00 (ev 8) (u00 (ev 9) (u00 (ec T.f_jap T.g_law_rows G_jap hr (u00 (ev 0) (u00 (ev 1) (u00 (ev 2) (u00 (u10 u53 (ev 3) u04) (u00 (u10 uy5 (u10 u53 (ev 4) u04) u04) (u00 (ev 5) u02))))))) u02)))))))) u18)
   (u03 (u13 10 sc_jan.nd (e_ix x_ix (u25 (u00 (ec T.f_jaf T.g_law_draw G_jaf hr (u00 (ev 0) (u00 u04 u02))) (u00 (ec T.f_jaf T.g_law_draw G_jaf hr (u00 (ev 0) (u00 u04 u02))) u02))) (u32 ue0 rfl T.b_int (by decide) (u00 (uh5 (x_eq hr) (ec T.f_jaf T.g_law_draw G_jaf hr (u00 (ev 0) (u00 u04 u02))) u04 (nomark _)) u02))))
   (u07 (u20 (u80 (u00 u41 (u00 (ev 10) (u00 (ec T.f_jap T.g_law_rows G_jap hr (u00 (ev 0) (u00 (ev 1) (u00 (ev 2) (u00 (u10 u53 (ev 3) u04) (u00 (u10 uy5 (ev 4) (u12 vj9 rfl T.b_max (by decide) (u00 u04 (u00 (ev 10) u02)))) (u00 (ev 5) u02))))))) u02))))))))))))))) (fun ds G R h=>?_)
 ·obtain ⟨st,sp,W,deep,room,bs,s,rfl,_⟩:=h;rfl
 ·obtain ⟨st,sp,W,deep,room,bs,s,rfl,S,nsp,hsp,hW,h1,h2,hd,hd5,hr1,hr2,post⟩:=h
  simp! [hsp];have A0:=(Ad2.refl S hsp).less (s':=s - 1) hsp nsp;dsimp! [id];refine u06 A0.at_ (by decide) (by decide) fun x1 G1 a1 b1 b2=>?_
  simp! [id];dsimp! [List.length_map];refine u06 a1.at_ (by omega) (by omega) fun x2 G2 a2 c1 c2=>?_
  obtain ⟨x2,rfl⟩:=u34 c1;obtain ⟨b,hb⟩:∃ b,bs[x2]?=some b:=⟨_,List.getElem?_eq_getElem (by omega)⟩;have eb:atI (bs.map D.str) (x2:Int)=some (.str b):=u60 (by rw [List.getElem?_map,hb];rfl);have hbm:=List.mem_of_getElem? hb;simp! [eb];dsimp! [id];refine v84 T a2.at_ hW h1 h2 fun a G3 ha a3=>?_
  have A3:=((A0.adv a1 nsp).adv a2 nsp).adv a3 nsp;simp! [id];dsimp! [id];refine u42 (fun q=>?_) (fun q=>?_)
  ·exact ⟨by decide,post (.is b a) G3 ⟨hbm,ha⟩ trivial hr1 (Nat.zero_le _) A3⟩
  dsimp! [id];generalize hOP:@Exists _ _=OP;have op:OP:=by
   rw [<- hOP];refine u06 A3.at_ (by decide) (by decide) fun x3 G4 a4 d1 d2=>?_
   obtain ⟨fm,rfl⟩:=u34 d1;obtain ⟨o,eo,ho⟩:∃ o:Nat,atI (Str.ofString "+-&|^<=").cps.toList (fm:Int)=some o /\ (⟨#[o]⟩:Str) ∈ L3.signs:=by
    have:fm=0 \/ fm=1 \/ fm=2 \/ fm=3 \/ fm=4 \/ fm=5 \/ fm=6:=by omega
    rcases this with e | e | e | e | e | e | e <;> subst e
    ·exact ⟨43,by decide,by decide⟩
    ·exact ⟨45,by decide,by decide⟩
    ·exact ⟨38,by decide,by decide⟩
    ·exact ⟨124,by decide,by decide⟩
    ·exact ⟨94,by decide,by decide⟩
    ·exact ⟨60,by decide,by decide⟩
    ·exact ⟨61,by decide,by decide⟩
   have hx:∀ (G:Gp) (q:DK),xIx (.str (Str.ofString "+-&|^<=")) (.int (fm:Int)) G q=(((Str.ofString "+-&|^<=").length<=sizeLine) /\ q (.str ⟨#[o]⟩) G):=fun G q=>by
    show (_ /\ (match atI (Str.ofString "+-&|^<=").cps.toList (fm:Int) with | some c=>q (.str ⟨#[c]⟩) G | none=>False))=_
    rw [eo]
   simp! [hx];refine ⟨by decide,?_⟩;refine v84 T a4.at_ hW h1 h2 fun c G5 hc a5=>?_
   simp! [id];exact ⟨by decide,post (.op b _ a c) G5 ⟨hbm,ho,ha,hc⟩ trivial hr1 (Nat.zero_le _) ((A3.adv a4 nsp).adv a5 nsp)⟩
  refine u42 (fun _=>op) fun q1=>?_
  simp! [id];refine u42 (fun _=>op) fun q2=>?_
  simp! [id];refine u42 (fun _=>op) fun q3=>?_
  clear op hOP OP;dsimp! [id];obtain ⟨dm,hdm⟩:∃ dm:Nat,deep=dm+1:=⟨deep - 1,by omega⟩;refine u42 (fun q4=>?_) (fun q4=>?_)
  ·have hhalf:((room:Int) - 1) / 2=(((room - 1) / 2:Nat):Int):=by omega
   rw [hhalf,show ((deep:Int) - 1)=(dm:Int) by omega];refine ⟨by unfold uq8;omega,?_⟩;obtain ⟨s3,hs3⟩:=A3.sp_;refine ui2 T A3.at_ nsp hs3 hW h1 h2 (by omega) (by omega) (by omega) fun ys G6 y1 y2 y3 y4 y5 a6=>?_
   simp! [id];dsimp! [id];rw [hhalf,show ((deep:Int) - 1)=(dm:Int) by omega];refine ⟨by unfold uq8;omega,?_⟩;obtain ⟨s4,hs4⟩:=a6.sp_;refine ui2 T a6.at_ nsp hs4 hW h1 h2 (by omega) (by omega) (by omega) fun ns G7 n1 n2 n3 n4 n5 a7=>?_
   simp! [id];refine ⟨by decide,post (.cho a ys ns) G7 ⟨ha,y1,n1⟩ ⟨y2,n2⟩ (by show 1+wtL ys+wtL ns<=room;omega) (by show 1+max (depL ys) (depL ns)<=deep;omega) ((A3.trans a6).trans a7)⟩
  ·dsimp! [id]
   refine u06 A3.at_ (by decide) (by decide) fun t1 G4 a4 d1 d2=>?_
   refine u06 a4.at_ (by decide) (by decide) fun t2 G5 a5 d3 d4=>?_
   refine ⟨by decide,fun p hp=>?_⟩;have A5:=(A3.adv a4 nsp).adv a5 nsp;have np:=A5.at_.ne hp
   have A6:=A5.grow (Grow.refl.new (o:=.lst [D.int t1,D.int t2]) hp);refine u06 A6.at_ (by decide) (by decide) fun t3 G7 a7 d5 d6=>?_
   have k7:=a7.kp _ _ np u01;have A7:=A6.adv a7 nsp;obtain ⟨t1,rfl⟩:=u34 d1;obtain ⟨t2,rfl⟩:=u34 d3;simp! [id];obtain ⟨k,hk,hk2⟩:∃ k:Nat,atI [D.int (t1:Int),D.int (t2:Int)] (if decide (t3=1)=true then 1 else 0)=some (.int (k:Int)) /\ k<=20:=by
    by_cases z:t3=1
    ·rw [if_pos (decide_eq_true z)];exact ⟨t2,rfl,by omega⟩
    ·rw [if_neg (by simpa using z)];exact ⟨t1,rfl,by omega⟩
   simp! [k7,hk];dsimp! [id];have hmx:(if (k:Int) > 1 then (k:Int) else 1)=((max 1 k:Nat):Int):=by split <;> omega
   rw [show ((deep:Int) - 1)=(dm:Int) by omega];rw [hmx,show ((room:Int) / ((max 1 k:Nat):Int))=((room / max 1 k:Nat):Int) by omega];refine ⟨by unfold uq8;omega,?_⟩;obtain ⟨s7,hs7⟩:=A7.sp_;have hle:room / max 1 k<=room:=Nat.div_le_self _ _;refine ui2 T A7.at_ nsp hs7 hW h1 h2 (by omega) (by omega) (by omega) fun ys G8 y1 y2 y3 y4 y5 a8=>?_
   have hml:k * wtL ys<=room:=Nat.le_trans (Nat.mul_le_mul (Nat.le_max_right 1 k) y3) (Nat.mul_div_le _ _);exact ⟨by decide,post (.tim k ys) G8 ⟨hk2,y1⟩ ⟨by omega,y2,hk2⟩ hml (by show 1+depL ys<=deep;omega) (A7.trans a8)⟩
theorem vq6 {n dp:Nat} (G_jaf:Ok P w mg base n T.f_jaf (u96 T)) (G_jah:Ok P w mg base n T.f_jah (vx1 T)) (G_jan:Ok P w mg base n T.f_jan (vx0 T dp)):Ok P w mg base (n+1) T.f_jap (uq7 T (dp+1)):=by
 refine u38 T.f_jap sc_jap (fun ds G R h=>?_) (fun cdv A outer s H E hr =>
   (u03 (u13 6 sc_jap.nd (u25 u02))
   (u03 (u86 (u93 rfl T.b_range (u00 (ec T.f_jaf T.g_law_draw G_jaf hr (u00 (ev 0) (u00 (u10 u24 u04 (u12 v52 rfl T.b_min (by decide) (u00 (ev 4) (u00 u04 u02)))) u02))) u02)) (u31 7 sc_jap.nd) (u03 (u13 8 sc_jap.nd (u10 u53 (ev 4) (ec T.f_jah T.g_law_heavy G_jah hr (u00 (ev 6) u02))))
   (u07 (s_if (t_w (w_and (u27 (x_gt) (ev 8) u04 (nomark _)) (vl4 (u27 (x_gt) (e_ix x_ix (ev 5) u04) u04 (nomark _))))) (u07 (u68 (u48 (ev 6) (u00 (ec T.f_jan T.g_law_row G_jan hr (u00 (ev 0) (u00 (ev 1) (u00 (ev 2) (u00 (ev 3) (u00 (ev 8) (u00 (ev 5) u02))))))) u02)))) u18))))
   (u07 (u20 (u32 u43 rfl T.b_tuple (by decide) (u00 (ev 6) u02))))))) (fun ds G R h=>?_)
 ·obtain ⟨st,sp,W,deep,room,bs,s,rfl,_⟩:=h;rfl
 ·obtain ⟨st,sp,W,deep,room,bs,s,rfl,S,nsp,hsp,hW,h1,h2,hd,hd5,hroom,post⟩:=h
  simp! [id];refine ⟨by decide,fun q hq=>?_⟩;have nq:=S.ne hq;have nq2:q ≠ sp:=gne' hq hsp;dsimp! [id];have A1:=(Ad2.refl S hsp).grow (Grow.refl.new (o:=.lst []) hq);refine u06 A1.at_ (by split <;> omega) (by split <;> omega) fun x1 G1 a1 b1 b2=>?_
  have b3:x1<=4:=by
   revert b2
   split <;> intro b2 <;> omega
  obtain ⟨cnt,rfl⟩:=u34 b1;have k1:=a1.kp _ _ nq u01;have A2:=A1.adv a1 nsp;simp! [id];refine ⟨⟨by omega,by omega⟩,?_⟩;generalize hN:Go (dRet _ _)=N;refine u30 (fun r σ G'=>∃ (i c:Nat) (rs:List Rowp) (v6 v7:Option D),i+c=cnt /\ r=rngD (i:Int) c /\ Ad2 st sp G G' /\ G' q=some (.lst (u08 rs)) /\ okL W bs rs /\ bdL rs /\ wtL rs<=room /\ depL rs<=deep /\ rs.length<=i /\ σ=[some (.ref st),some (.tup (bs.map .str)),some (.int (W:Int)),some (.int (deep:Int)),some (.int (room:Int)),some (.ref sp),some (.ref q),v6,v7]) ⟨0,cnt,[],none,none,by omega,rfl,A2,k1,trivial,trivial,Nat.zero_le _,Nat.zero_le _,Nat.le_refl _,rfl⟩ ?_ ?_
  ·rintro σ G2 ⟨i,c,rs,v6,v7,e,e2,A3,k3,o1,o2,o3,o4,o5,rfl⟩
   refine ⟨trivial,?_⟩;rw [<- hN];dsimp! [k3];exact post rs G2 o1 o2 o3 o4 (by omega) A3
  ·rintro z r σ G2 ⟨i,c,rs,v6,v7,e,e2,A3,k3,o1,o2,o3,o4,o5,rfl⟩ ih
   cases c with
   | zero=>cases e2
   | succ c =>
    rw [u21] at e2;cases e2;refine ⟨trivial,?_⟩;obtain ⟨s2,hs2⟩:=A3.sp_;simp! [id];refine u82 (v:=.int (wtL rs:Int)) (G1:=G2) (fun R h=>⟨.ref q,rs,rfl,by show u11 (G2 q)=_;rw [k3];rfl,o2,by omega,by omega,h⟩) ?_;simp! [id];dsimp! [hs2];refine u42 (fun g=>?_) (fun g=>?_)
    ·simp! [hs2]
     refine u42 (fun g2=>?_) (fun g2=>?_)
     ·rw [show ((room:Int) - (wtL rs:Int))=((room - wtL rs:Nat):Int) by omega]
      simp! [k3];refine u36 (post:=fun d G'=>∃ r0:Rowp,d=rowD r0 /\ okR W bs r0 /\ bdR r0 /\ wtR r0<=room - wtL rs /\ depR r0<=deep /\ Ad2 st sp G2 G') (fun R h=>⟨st,sp,W,deep,room - wtL rs,bs,s2,rfl,A3.at_,nsp,hs2,hW,h1,h2,by omega,hd5,by omega,by omega,fun r0 G' a b c d e=>h _ _ ⟨r0,rfl,a,b,c,d,e⟩⟩) ?_;rintro d G3 ⟨r0,rfl,p1,p2,p3,p4,a3⟩;have k4:=a3.kp _ _ nq nq2 k3;have A4:=A3.trans a3;simp! [k4];have er:u08 rs++[rowD r0]=u08 (rs++[r0]):=by rw [u28,u28,List.map_append];rfl
      rw [er];have hl6:(u08 (rs++[r0])).length=rs.length+1:=by rw [u14,List.length_append];rfl
      have hl7:(u08 rs).length=rs.length:=u14 _;refine ⟨Nat.lt_of_le_of_lt (m:=1000) (by omega) (by decide),ih _ _ ⟨i+1,c,rs++[r0],_,_,by omega,by congr 1,A4.put hq k4 nq nq2,u01,okL_app.mpr ⟨o1,p1,trivial⟩,bdL_app.mpr ⟨o2,p2,trivial⟩,?_,?_,by rw [List.length_append];show rs.length+1<=i+1;omega,rfl⟩⟩
      ·rw [u70];show wtL rs+(wtR r0+0)<=room;omega
      ·rw [u65];show max (depL rs) (max (depR r0) 0)<=deep;omega
     ·exact ih _ _ ⟨i+1,c,rs,_,_,by omega,by congr 1,A3,k3,o1,o2,o3,o4,by omega,rfl⟩
    ·exact ih _ _ ⟨i+1,c,rs,_,_,by omega,by congr 1,A3,k3,o1,o2,o3,o4,by omega,rfl⟩
theorem vq4 {n dp:Nat} (G_jas:Ok P w mg base n T.f_jas (uq6 T dp)):Ok P w mg base (n+1) T.f_jas (uq6 T (dp+1)):=by
 refine u38 T.f_jas sc_jas (fun ds G R h=>?_) (fun cdv A outer s H E hr =>
   (u03 (u13 1 sc_jas.nd (u25 u02))
   (u03 (u86 (uc7 (ev 0)) (u31 2 sc_jas.nd) (u07 (s_if (u27 (x_eq hr) (e_ix x_ix (ev 2) u04) u41 (nomark _)) (u07 (u13 1 sc_jas.nd (u10 u24 (ev 1) (u10 ua3 (ec T.f_jas T.g_law_unrolled G_jas hr (u00 (e_ix x_ix (ev 2) u04) u02)) (e_ix x_ix (ev 2) u04))))) (u07 (s_if (u27 (x_eq hr) (e_ix x_ix (ev 2) u04) u41 (nomark _)) (u07 (u68 (u48 (ev 1) (u00 (u80 (u00 u41 (u00 (e_ix x_ix (ev 2) u04) (u00 (u32 u43 rfl T.b_tuple (by decide) (u00 (ec T.f_jas T.g_law_unrolled G_jas hr (u00 (e_ix x_ix (ev 2) u04) u02)) u02)) (u00 (u32 u43 rfl T.b_tuple (by decide) (u00 (ec T.f_jas T.g_law_unrolled G_jas hr (u00 (e_ix x_ix (ev 2) u04) u02)) u02)) u02))))) u02)))) (u07 (u68 (u48 (ev 1) (u00 (ev 2) u02)))))))))
   (u07 (u20 (ev 1)))))) (fun ds G R h=>?_)
 ·obtain ⟨rs,rfl,_⟩:=h;rfl
 ·obtain ⟨rs,rfl,hd,hb,hw,post⟩:=h
  simp! [id];refine ⟨by decide,fun p hp=>?_⟩;dsimp! [id];refine u30 (fun r σ G'=>∃ (l t:List Rowp) (p:Addr) (v2:Option D),l++t=rs /\ r=u08 t /\ G p=none /\ Grow G G' /\ G' p=some (.lst (u08 (outL l))) /\ σ=[some (.tup (u08 rs)),some (.ref p),v2]) ⟨[],rs,p,none,rfl,rfl,hp,Grow.refl.new hp,u01,rfl⟩ ?_ ?_
  ·rintro σ G1 ⟨l,t,p,v2,e,e2,hp,g,kp,rfl⟩
   have ht:t=[]:=by
    cases t with
    | nil=>rfl
    | cons x t=>cases e2
   subst ht;rw [List.append_nil] at e;subst e;refine ⟨trivial,?_⟩;dsimp! [id];exact post p G1 hp kp g
  ·rintro x r σ G1 ⟨l,t,p,v2,e,e2,hp,g,kp,rfl⟩ ih
   cases t with
   | nil=>cases e2
   | cons r0 t =>
    cases e2;refine ⟨trivial,?_⟩;have hm:r0 ∈ rs:=by rw [<- e];simp
    have hdr:=ub3 (Nat.le_of_lt_succ hd) r0 hm;have hwr:=ul3 hm;have hbr:=uo1 hb hm;have hwl:wtL l+(wtR r0+wtL t)=wtL rs:=by rw [<- e,u70];rfl
    have hol:=ub0 l;have hll:(u08 (outL l)).length=(outL l).length:=u14 _;have hor:(outR r0).length<=wtR r0:=by
     have:=um8 (outR r0);rw [uu0] at this;exact this
    generalize hFL:forL _ _ _ _ (u08 t)=FL at ih ⊢;have nxt:∀ G2 (p2:Addr),G p2=none->Grow G G2->G2 p2=some (.lst (u08 (outL l)++u08 (outR r0)))->∀ (v2:Option D),FL [some (.tup (u08 rs)),some (.ref p2),v2] G2:=fun G2 p2 h2 g2 k2 v2=>ih _ _ ⟨l++[r0],t,p2,v2,by rw [<- e];simp,rfl,h2,g2,by rw [k2,u98,<- u51];simp [outL],rfl⟩
    cases r0 with
    | is x a =>
     have d1:(Str.ofString "is" = Str.ofString "choose")=False:=eq_false (by decide);have d2:(Str.ofString "is" = Str.ofString "times")=False:=eq_false (by decide);simp! [rowD,d1,d2,kp];exact ⟨Nat.lt_of_le_of_lt (m:=10000000) (by omega) (by decide),nxt _ p hp (g.own hp) (by rw [u01];rfl) _⟩
    | op x o a b =>
     have d1:(Str.ofString "op" = Str.ofString "choose")=False:=eq_false (by decide);have d2:(Str.ofString "op" = Str.ofString "times")=False:=eq_false (by decide);simp! [rowD,d1,d2,kp];exact ⟨Nat.lt_of_le_of_lt (m:=10000000) (by omega) (by decide),nxt _ p hp (g.own hp) (by rw [u01];rfl) _⟩
    | cho a ys ns =>
     have d2:(Str.ofString "choose" = Str.ofString "times")=False:=eq_false (by decide);simp! [rowD,d2,kp];have hd':1+max (depL ys) (depL ns)<=dp:=hdr;have hw':1+wtL ys+wtL ns<=wtL rs:=hwr;refine ux7 T (by omega) hbr.1 (by omega) fun q1 G2 f1 k1 g2=>?_
     simp! [k1,u11];refine ux7 T (by omega) hbr.2 (by omega) fun q2 G3 f2 k2 g3=>?_
     have kp3:=(g2.trans g3).kp _ _ kp;simp! [k2,u11,kp3];exact ⟨by decide,Nat.lt_of_le_of_lt (m:=10000000) (by omega) (by decide),nxt _ p hp ((g.trans (g2.trans g3)).own hp) (by rw [u01];rfl) _⟩
    | tim k ys =>
     have hd':1+depL ys<=dp:=hdr;simp! [rowD];refine ux7 T (by omega) hbr.2.1 hbr.1 fun q1 G2 f1 k1 g2=>?_
     have kp2:=g2.kp _ _ kp;simp! [k1];have hoy:=ub0 ys;have hk:k<=20:=hbr.2.2;have hlk:(outL ys).length * k=(outR (.tim k ys)).length:=by
      show _=(List.replicate k (outL ys)).flatten.length
      rw [len_rep,Nat.mul_comm]
     have hz:=hbr.1;have hlk2:(u08 (outL ys)).length * k=(outR (.tim k ys)).length:=by rw [u14];exact hlk
     have hlk3:(List.replicate k (u08 (outL ys))).flatten.length=(outR (.tim k ys)).length:=by rw [len_rep,Nat.mul_comm];exact hlk2
     refine ⟨⟨by omega,by omega,Nat.le_trans (m:=10000001) (by omega) (by decide)⟩,fun q3 h3=>?_⟩;have np:p ≠ q3:=gne kp2 h3;have g4:=(g.trans g2).new (o:=.lst (List.replicate k (u08 (outL ys))).flatten) h3;refine add_l (by rw [u09 np];exact kp2) u01 (by omega) fun q4 h4=>nxt _ q4 (g4.none h4) (g4.new h4) ?_ _
     rw [u01,ua8];rfl
theorem vq9 {n:Nat} (G_jaf:Ok P w mg base n T.f_jaf (u96 T)) (G_jaj:Ok P w mg base n T.f_jaj (vj1 T)) (G_jap:Ok P w mg base n T.f_jap (vw9 T)) (G_jas:Ok P w mg base n T.f_jas (vi9 T)):Ok P w mg base (n+1) T.f_jal (v49 T):=by
 refine u38 T.f_jal sc_jal (fun ds G R h=>?_) (fun cdv A outer s H E hr =>
   (u03 (u13 1 sc_jal.nd (u10 u24 u04 (e_ix x_ix (u25 (u00 (ec T.f_jaf T.g_law_draw G_jaf hr (u00 (ev 0) (u00 u04 u02))) (u00 (ec T.f_jaf T.g_law_draw G_jaf hr (u00 (ev 0) (u00 u04 u02))) u02))) (u32 ue0 rfl T.b_int (by decide) (u00 (uh5 (x_eq hr) (ec T.f_jaf T.g_law_draw G_jaf hr (u00 (ev 0) (u00 u04 u02))) u04 (nomark _)) u02)))))
   (u03 (u13 2 sc_jal.nd (ec T.f_jaj T.g_law_names G_jaj hr (u00 (ev 0) (u00 (u10 u24 u04 (e_ix x_ix (u25 (u00 (ec T.f_jaf T.g_law_draw G_jaf hr (u00 (ev 0) (u00 u04 u02))) (u00 (ec T.f_jaf T.g_law_draw G_jaf hr (u00 (ev 0) (u00 u04 u02))) u02))) (u32 ue0 rfl T.b_int (by decide) (u00 (uh5 (x_eq hr) (ec T.f_jaf T.g_law_draw G_jaf hr (u00 (ev 0) (u00 u04 u02))) u04 (nomark _)) u02)))) u02))))
   (u03 (u13 3 sc_jal.nd (e_ix x_ix (u25 (u00 u04 (u00 u04 u02))) (u32 ue0 rfl T.b_int (by decide) (u00 (v37 (uh5 (x_eq hr) (ec T.f_jaf T.g_law_draw G_jaf hr (u00 (ev 0) (u00 u04 u02))) u04 (nomark _)) (v33 (uh5 (x_lt) (ev 1) u04 (nomark _)))) u02))))
   (u03 (u13 4 sc_jal.nd (u10 v53 (ec T.f_jap T.g_law_rows G_jap hr (u00 (ev 0) (u00 (ev 2) (u00 (ev 1) (u00 u04 (u00 (ev 3) (u00 (u25 (u00 u04 u02)) u02))))))) (ec T.f_jap T.g_law_rows G_jap hr (u00 (ev 0) (u00 (ev 2) (u00 (ev 1) (u00 u04 (u00 u04 (u00 (u25 (u00 u04 u02)) u02)))))))))
   (u03 (s_if (u27 (x_eq hr) (u12 u72 rfl T.b_len (by decide) (u00 (ec T.f_jas T.g_law_unrolled G_jas hr (u00 (ev 4) u02)) u02)) u04 (nomark _)) (u07 (u13 4 sc_jal.nd (u10 v53 (ev 4) (u80 (u00 (u80 (u00 u41 (u00 (e_ix x_ix (ev 2) u04) (u00 u41 (u00 (e_ix x_ix (ev 2) (e_un ug0 u04)) (u00 u04 u02)))))) u02))))) u18)
   (u07 (u20 (u80 (u00 (ev 1) (u00 (ev 2) (u00 (ev 4) u02)))))))))))) (fun ds G R h=>?_)
 ·obtain ⟨st,rfl,_⟩:=h;rfl
 ·obtain ⟨st,rfl,S,post⟩:=h
  simp! [id];refine u06 S (by decide) (by decide) fun x1 G1 a1 b1 b2=>?_
  refine u06 a1.at_ (by decide) (by decide) fun x2 G2 a2 b3 b4=>?_
  refine ⟨by decide,fun p hp=>?_⟩;have A2:=a1.trans a2;have np:=A2.at_.ne hp
  have A3:=A2.new (o:=.lst [D.int x1,D.int x2]) hp;refine u06 A3.at_ (by decide) (by decide) fun x3 G3 a3 b5 b6=>?_
  have k3:=a3.kp _ _ np u01;have A4:=A3.trans a3;obtain ⟨x1,rfl⟩:=u34 b1;obtain ⟨x2,rfl⟩:=u34 b3;simp! [id];obtain ⟨W,hW1,hW2⟩:∃ k:Nat,atI [D.int (x1:Int),D.int (x2:Int)] (if decide (x3=1)=true then 1 else 0)=some (.int (k:Int)) /\ k<=15:=by
   by_cases z:x3=1
   ·rw [if_pos (decide_eq_true z)];exact ⟨x2,rfl,by omega⟩
   ·rw [if_neg (by simpa using z)];exact ⟨x1,rfl,by omega⟩
  simp! [k3,hW1];dsimp! [id];refine u06 A4.at_ (by decide) (by decide) fun y1 G5 a5 c1 c2=>?_
  refine u06 a5.at_ (by decide) (by decide) fun y2 G6 a6 c3 c4=>?_
  refine ⟨by decide,fun p6 hp6=>?_⟩;have A6:=(A4.trans a5).trans a6;have np6:=A6.at_.ne hp6
  have A7:=A6.new (o:=.lst [D.int y1,D.int y2]) hp6;refine u06 A7.at_ (by decide) (by decide) fun y3 G8 a8 c5 c6=>?_
  have k8:=a8.kp _ _ np6 u01;have A8:=A7.trans a8;obtain ⟨y1,rfl⟩:=u34 c1;obtain ⟨y2,rfl⟩:=u34 c3;simp! [id];obtain ⟨mb,hm1,hm2⟩:∃ k:Nat,atI [D.int (y1:Int),D.int (y2:Int)] (if decide (y3=1)=true then 1 else 0)=some (.int (k:Int)) /\ k<=5:=by
   by_cases z:y3=1
   ·rw [if_pos (decide_eq_true z)];exact ⟨y2,rfl,by omega⟩
   ·rw [if_neg (by simpa using z)];exact ⟨y1,rfl,by omega⟩
  simp! [k8,hm1];rw [show ((1:Int)+(mb:Int))=((mb+1:Nat):Int) by omega];refine u36 (post:=fun d G'=>∃ bs:List Str,d=.tup (bs.map .str) /\ bs.length=mb+1 /\ Adv st G8 G') (fun R h=>⟨st,mb+1,rfl,A8.at_,by omega,by omega,fun bs G' e1 e2 e3 e4=>h _ _ ⟨bs,rfl,e1,e4⟩⟩) ?_;rintro d G9 ⟨bs,rfl,hbl,a9⟩;have A9:=A8.trans a9;simp! [id];dsimp! [id];refine ⟨by decide,fun p10 h10=>?_⟩;have A10:=A9.new (o:=.lst [D.int 5,D.int 9]) h10;have n10:=A9.at_.ne h10
  refine u06 A10.at_ (by decide) (by decide) fun z1 G11 a11 u1 u2=>?_
  have k11:=a11.kp _ _ n10 u01;have A11:=A10.trans a11;generalize hu:dSeq (dAsg (dOp uy7 _ _) (u88 4)) _=u;simp! [k11,u11];have rest:∀ rm:Nat,rm<=9->Go (u { nx:=fun x G'=>R D.non G',rt:=R }) [some (.ref st),some (.int (1+(W:Int))),some (.tup (bs.map .str)),some (.int (rm:Int)),none] G11:=by
   intro rm hrm;subst hu;rw [show ((1:Int)+(W:Int))=((W+1:Nat):Int) by omega];dsimp! [id];refine ⟨by decide,fun p12 h12=>?_⟩;have n12:=A11.at_.ne h12
   have S12:=A11.at_.new (o:=.lst [D.int 20]) h12
   refine ui2 T (dp:=8) (deep:=3) S12 n12 u01 (by omega) (by omega) (by omega) (by decide) (by decide) (by omega) fun rs G13 r1 r2 r3 r4 r5 a13=>?_
   have A13:Adv st G G13:=A11.trans ⟨a13.at_,fun b o hb e=>a13.kp _ _ hb (gne e h12) (by rw [u09 (gne e h12)];exact e)⟩;simp! [id];refine ⟨by decide,fun p14 h14=>?_⟩;have n14:=A13.at_.ne h14
   have S14:=A13.at_.new (o:=.lst [D.int 5]) h14
   refine ui2 T (dp:=8) (deep:=1) (room:=3) S14 n14 u01 (by omega) (by omega) (by omega) (by decide) (by decide) (by omega) fun rs2 G15 q1 q2 q3 q4 q5 a15=>?_
   have A15:Adv st G G15:=A13.trans ⟨a15.at_,fun b o hb e=>a15.kp _ _ hb (gne e h14) (by rw [u09 (gne e h14)];exact e)⟩;rw [ug2,<- u51];refine ⟨Nat.le_trans (m:=8) (by rw [u14,u14];omega) (by decide),?_⟩;have bd:bdL (rs++rs2):=bdL_app.mpr ⟨r2,q2⟩;have dp3:depL (rs++rs2)<=3:=by rw [u65];omega
   have wt3:wtL (rs++rs2)<=12:=by rw [u70];omega
   have ln3:(rs++rs2).length<=8:=by rw [List.length_append];omega
   generalize rs++rs2=rr at *;dsimp! [id];refine ux7 T (dp:=8) (by omega) bd (by omega) fun q16 G16 f16 k16 g16=>?_
   have A16:=A15.grow g16;simp! [k16,u11];have hlo:(u08 (outL rr)).length=(outL rr).length:=u14 _;rw [hlo]
   by_cases hz:(outL rr).length=0
   ·rw [if_pos (decide_eq_true (by omega))]
    obtain ⟨b0,br,rfl⟩:∃ b0 br,bs=b0::br:=by
     cases bs with
     | nil=>cases hbl
     | cons a b=>exact ⟨a,b,rfl⟩
    obtain ⟨bl,hb2⟩:∃ bl,atI ((b0::br).map D.str) (-1)=some (.str bl):=by
     rw [<- List.dropLast_concat_getLast (l:=b0::br) (by simp),List.map_append];exact ⟨_,atI_last⟩
    rw [hb2,List.map_cons,uq3];refine ⟨by decide,by decide,?_⟩;rw [ug2];refine ⟨Nat.le_trans (m:=1000) (by rw [u14];show _+1<=_;omega) (by decide),?_⟩;dsimp! [id];have er:u08 rr++[D.tup [.str (Str.ofString "op"),.str b0,.str (Str.ofString "+"),.str bl,.int 1]]=u08 (rr++[Rowp.op b0 (Str.ofString "+") (Atm.box bl) (Atm.num 1)]):=by rw [u51];rfl
    rw [er];refine ⟨by decide,post (W+1) (b0::br) (rr++[Rowp.op b0 (Str.ofString "+") (Atm.box bl) (Atm.num 1)]) G16 (bdL_app.mpr ⟨bd,show bdL [Rowp.op b0 (Str.ofString "+") (Atm.box bl) (Atm.num 1)] from ⟨show bdR (Rowp.op b0 (Str.ofString "+") (Atm.box bl) (Atm.num 1)) from trivial,trivial⟩⟩) (by rw [u65];show max _ (max 0 0)<=3;omega) (by rw [u70];show _+(1+0)<=20;omega) ?_ A16⟩;rw [u98];intro e;have e2:=congrArg List.length e;rw [List.length_append] at e2;simp [outL,outR] at e2
   ·rw [if_neg (by rw [decide_eq_false (by omega)];decide)]
    dsimp! [id];exact ⟨by decide,post (W+1) bs rr G16 bd dp3 (by omega) (fun e=>hz (by rw [e];rfl)) A16⟩
  by_cases hz:z1=1
  ·rw [if_pos (decide_eq_true hz)]
   by_cases hw:(1:Int)+(W:Int) < 5
   ·rw [decide_eq_true hw,if_pos rfl]
    exact rest 9 (by decide)
   ·rw [decide_eq_false hw,if_neg (by decide)]
    exact rest 5 (by decide)
  ·rw [if_neg (by simpa using hz)]
   exact rest 5 (by decide)
theorem vr5 {n:Nat} (G_jaf:Ok P w mg base n T.f_jaf (u96 T)):Ok P w mg base (n+1) T.f_jae (vj3 T):=by
 refine u38 T.f_jae sc_jae (fun ds G R h=>?_) (fun cdv A outer s H E hr =>
   (u03 (u13 3 sc_jae.nd (u10 u24 u04 (ec T.f_jaf T.g_law_draw G_jaf hr (u00 (ev 0) (u00 (u12 v52 rfl T.b_min (by decide) (u00 (ev 1) (u00 (ev 2) u02))) u02)))))
   (u03 (u13 4 sc_jae.nd (u25 u02))
   (u03 (u13 5 sc_jae.nd (ev 1))
   (u03 (u86 (u93 rfl T.b_range (u00 (u10 u53 (ev 3) u04) u02)) (u31 6 sc_jae.nd) (u03 (u68 (u48 (ev 4) (u00 (u10 u24 u04 (ec T.f_jaf T.g_law_draw G_jaf hr (u00 (ev 0) (u00 (u10 u53 (ev 5) (u10 u53 (u10 u53 (ev 3) u04) (ev 6))) u02)))) u02)))
   (u07 (u13 5 sc_jae.nd (u10 u53 (ev 5) (e_ix x_ix (ev 4) (e_un ug0 u04)))))))
   (u07 (u20 (u10 u24 (ev 4) (u25 (u00 (ev 5) u02)))))))))) (fun ds G R h=>?_)
 ·obtain ⟨st,m,mx,rfl,_⟩:=h;rfl
 ·obtain ⟨st,m,mx,rfl,S,h1,h2,h3,h4,post⟩:=h
  simp! [id];refine u06 S (by split <;> omega) (by split <;> omega) fun x1 G1 a1 b1 b2=>?_
  obtain ⟨n1,rfl⟩:=u34 b1;have b3:n1+1<=m /\ n1+1<=mx:=by
   revert b2
   split <;> intro b2 <;> omega
  simp! [id];dsimp! [id];refine ⟨by decide,fun p hp=>?_⟩;have np:=a1.at_.ne hp
  have hpG:=a1.none hp np;have A1:=a1.new (o:=.lst []) hp;dsimp! [id];dsimp! [id];rw [show ((1:Int)+(n1:Int) - 1)=(n1:Int) by omega];refine ⟨⟨by omega,by omega⟩,?_⟩;rw [Int.toNat_natCast];generalize hN:Go (dRet _ _)=N;refine u30 (fun r σ G'=>∃ (i c:Nat) (ks:List Nat) (left:Nat) (v6:Option D),i+c=n1 /\ r=rngD (i:Int) c /\ Adv st G G' /\ G' p=some (.lst ((nI ks).map .int)) /\ ks.length=i /\ (∀ k ∈ ks,1<=k) /\ ks.sum+left=m /\ c+1<=left /\ σ=[some (.ref st),some (.int (m:Int)),some (.int (mx:Int)),some (.int (1+(n1:Int))),some (.ref p),some (.int (left:Int)),v6]) ⟨0,n1,[],m,none,by omega,rfl,A1,u01,rfl,(fun k h=>nomatch h),by simp,by omega,rfl⟩ ?_ ?_
  ·rintro σ G2 ⟨i,c,ks,left,v6,e,e2,A2,k2,hl,hk,hs,hc,rfl⟩
   have hc0:c=0:=by
    cases c with
    | zero=>rfl
    | succ c=>rw [u21] at e2;cases e2
   subst hc0;refine ⟨trivial,?_⟩;rw [<- hN];dsimp! [id];refine ⟨by decide,fun p2 h2=>?_⟩;have n2:p ≠ p2:=gne k2 h2;have n3:=A2.at_.ne h2
   have A3:=A2.new (o:=.lst [.int (left:Int)]) h2;refine add_l (by rw [u09 n2];exact k2) u01 (by unfold nI;rw [List.length_map,List.length_map];show _+1<=_;omega) fun p3 h3=>?_
   have n4:=A3.at_.ne h3
   refine post p3 (ks++[left]) _ ⟨by simp,fun k h=>?_,by rw [List.sum_append];simp;omega⟩ (by rw [List.length_append];show _+1<=_;omega) n4 (A3.none h3 n4) (by rw [u01];unfold nI;rw [List.map_append,List.map_append];rfl) (A3.new h3)
   rcases List.mem_append.mp h with h | h
   ·exact hk k h
   ·rw [List.mem_singleton.mp h];omega
  ·rintro z r σ G2 ⟨i,c,ks,left,v6,e,e2,A2,k2,hl,hk,hs,hc,rfl⟩ ih
   cases c with
   | zero=>cases e2
   | succ c =>
    rw [u21] at e2;cases e2;refine ⟨trivial,?_⟩;simp! [k2];refine u06 A2.at_ (by omega) (by omega) fun x1 G3 a3 d1 d2=>?_
    obtain ⟨x1,rfl⟩:=u34 d1;have k3:=a3.kp _ _ np k2;simp! [k3];refine ⟨Nat.lt_of_le_of_lt (m:=1000) (by unfold nI;rw [List.length_map,List.length_map];omega) (by decide),?_⟩;dsimp! [u01,atI_last];rw [show ((left:Int) - (1+(x1:Int)))=((left - (x1+1):Nat):Int) by omega];refine ih _ _ ⟨i+1,c,ks++[x1+1],left - (x1+1),_,by omega,by congr 1,(A2.trans a3).own hpG k3 np,by rw [u01];unfold nI;rw [List.map_append,List.map_append];simp;omega,by rw [List.length_append,hl];rfl,fun k h=>?_,by rw [List.sum_append];simp;omega,by omega,rfl⟩
    rcases List.mem_append.mp h with h | h
    ·exact hk k h
    ·rw [List.mem_singleton.mp h];omega
theorem vq8 {n:Nat} (G_jab:OkX P w mg base n T.f_jab (ui8 T)) (G_jaw:OkX P w mg base n T.f_jaw (uf9 T)) (G_jaa:OkX P w mg base n T.f_jaa (uk9 T)):Ok P w mg base (n+1) T.f_jam (ux9 T):=by
 refine u38 T.f_jam sc_jam (fun ds G R h=>?_) (fun cdv A outer s H E hr =>
   (u03 (u13 3 sc_jam.nd w10)
   (u03 (vz1 (vd9 (ecTV (i:=0) (Ss:=[(T.f_jab.a,ui8 T),(T.f_jaw.a,uf9 T),(T.f_jaa.a,uk9 T)]) (by refine uf5 T.f_jab G_jab ?_;refine uf5 T.f_jaw G_jaw ?_;refine uf5 T.f_jaa G_jaa ?_;exact vi0) hr (u00 (ev 1) (u00 (ev 2) u02)))) (h_as (K:=K) T.e_LitterError.C 4 T.e_LitterError.m T.e_LitterError.xc (by simp [VM]) sc_jam.nd (fun _=>(u07 (u13 3 sc_jam.nd (ev 4)))) w09))
   (u03 (s_if (t_w (w_or (ua6 (ua5 (u12 (v89 (K:=K) T.e_LitterError.C) rfl T.b_isinstance (by decide) (u00 (ev 3) (u00 (up8 T.e_BadCuts.m) u02))))) (uc6 (ua6 (ua5 (u12 (v89 (K:=K) T.e_LitterError.C) rfl T.b_isinstance (by decide) (u00 (ev 3) (u00 (ud7 (T := "ValueError") T.b_ValueError (by decide)) u02)))))))) (u07 (u20 e_bl)) u18)
   (u07 (u20 (vv4 (u12 (v89 (K:=K) T.e_LitterError.C) rfl T.b_isinstance (by decide) (u00 (ev 3) (u00 (u80 (u00 (up8 T.e_BadPlan.m) (u00 (up8 T.e_BadCode.m) (u00 (up8 T.e_BadText.m) (u00 (up8 T.e_NoBox.m) (u00 (up8 T.e_NoRow.m) u02)))))) u02)))))))))) (fun ds G R h=>?_)
 ·obtain ⟨f,d,e,rfl,_⟩:=h;rfl
 ·obtain ⟨f,d,e,rfl,hc,post⟩:=h
  simp! [id];dsimp! [id];refine uq2 T hc fun G1 g1=>?_
  refine ⟨T.e_BadCuts.xc,fun a ha=>?_⟩;dsimp! [u01];refine ⟨T.e_BadCuts.xc,T.e_BadCuts.x,⟨_,T.e_BadCuts.xc⟩,?_⟩;simp! [u01];refine ⟨T.e_BadCuts.xc,T.e_BadCuts.x,?_⟩;dsimp! [u01];refine ⟨by decide,T.e_BadCuts.xc,T.e_BadCuts.x,?_,?_⟩
  ·intro c hc
   simp only [List.mem_cons,List.not_mem_nil,or_false] at hc
   rcases hc with rfl | rfl | rfl | rfl | rfl
   ·exact ⟨_,T.e_BadPlan.xc⟩
   ·exact ⟨_,T.e_BadCode.xc⟩
   ·exact ⟨_,T.e_BadText.xc⟩
   ·exact ⟨_,T.e_NoBox.xc⟩
   ·exact ⟨_,T.e_NoRow.xc⟩
  ·have e1:[T.e_BadPlan.C,T.e_BadCode.C,T.e_BadText.C,T.e_NoBox.C,T.e_NoRow.C].any (isX T.e_BadCuts.C T.e_LitterError.C)=false:=by
    simp only [List.any_cons,List.any_nil,ub6 T.ne_BadCuts_BadPlan T.e_BadPlan.ne,ub6 T.ne_BadCuts_BadCode T.e_BadCode.ne,ub6 T.ne_BadCuts_BadText T.e_BadText.ne,ub6 T.ne_BadCuts_NoBox T.e_NoBox.ne,ub6 T.ne_BadCuts_NoRow T.e_NoRow.ne,Bool.or_false]
   rw [e1];exact post _ (g1.new ha)
theorem vq3 {n:Nat}:Ok P w mg base (n+1) T.f_jau (vi8 T):=by
 refine u38 T.f_jau v67 (fun ds G R h=>?_) (fun cdv A outer s H E hr =>
   (u07 (u20 (v37 (u12 u73 rfl T.b_isinstance (by decide) (u00 (ev 0) (u00 (ud7 (T := "int") T.b_int (by decide)) u02))) (v33 (vv4 (u12 u73 rfl T.b_isinstance (by decide) (u00 (ev 0) (u00 (ud7 (T := "bool") T.b_bool (by decide)) u02))))))))) (fun ds G R h=>?_)
 ·obtain ⟨i,rfl,_⟩:=h;rfl
 ·obtain ⟨i,rfl,post⟩:=h
  simp! [uh3];refine ⟨.inl trivial,?_⟩;rw [if_pos (by decide)];exact ⟨.inr (.inr (.inl trivial)),post⟩
theorem vr3 {n:Nat} (G_jab:OkX P w mg base n T.f_jab (ui8 T)) (G_jam:Ok P w mg base n T.f_jam (ux9 T)) (G_jau:Ok P w mg base n T.f_jau (vi8 T)):Ok P w mg base (n+1) T.f_jag (vj2 T):=by
 refine u38 T.f_jag sc_jag (fun ds G R h=>?_) (fun cdv A outer s H E hr =>
   (u03 (s_if (t_w (w_or (u27 (x_lt) (ev 1) u04 (nomark _)) (uc6 (u27 (x_gt) (ev 1) (ev 0) (nomark _))))) (u07 (u20 (ec T.f_jam T.g_law_refused G_jam hr (u00 (up7 T.g_even) (u00 (ev 0) (u00 (ev 1) u02)))))) u18)
   (u03 (u13 2 sc_jag.nd (ecN T.f_jab T.g_even G_jab hr (u00 (ev 0) (u00 (ev 1) u02))))
   (u03 (s_if (t_w (w_or (ua6 (ua5 (u12 u73 rfl T.b_isinstance (by decide) (u00 (ev 2) (u00 (ud7 (T := "list") T.b_list (by decide)) u02))))) (w_or (u27 (x_ne hr) (u12 u72 rfl T.b_len (by decide) (u00 (ev 2) u02)) (ev 1) (nomark _)) (uc6 (u27 (x_ne hr) (u12 vj7 rfl T.b_sum (by decide) (u00 (ev 2) u02)) (ev 0) (nomark _)))))) (u07 (u20 e_bl)) u18)
   (u03 (s_if (ua6 (ua5 (u12 vy0 rfl T.b_all (by decide) (u00 (uh4 (N':=["_law_one"]) (ix:=[none]) (blk (osc:=u05 uz3) (N:=["_law_many", "_law_n", "_law_found"]) rfl rfl (by decide)) (uc7 (ev 2)) (fun _ _ _ _=>(u31 0 (show (["_law_one"]:List Str).Nodup by decide))) (fun _ _ _ _=>ub8) (fun _ _ _ _=>(ec T.f_jau T.g_law_whole G_jau hr (u00 (ev 0) u02)))) u02)))) (u07 (u20 e_bl)) u18)
   (u07 (u20 (v37 (uh5 (x_eq hr) (ev 2) (vv7 (u12 (ur1 hr) rfl T.b_sorted (by decide) (u00 (ev 2) u02))) (nomark _)) (v33 (uh5 (x_le) (u10 u53 (e_ix x_ix (ev 2) u04) (e_ix x_ix (ev 2) (e_un ug0 u04))) u04 (nomark _))))))))))) (fun ds G R h=>?_)
 ·obtain ⟨m,n,rfl,_⟩:=h;rfl
 ·obtain ⟨m,n,rfl,hm,post⟩:=h
  simp! [id];have bad:(n < 1 \/ (m:Int) < n)->RefC T G T.f_jab.a (.int (m:Int)) (.int n):=fun z=>.inl ⟨rfl,m,n,rfl,rfl,hm,z⟩
  refine u42 (fun q=>?_) (fun q=>?_)
  ·simp! [id]
   exact uc5 T (bad (.inl q)) post
  simp! [id];refine u42 (fun q2=>?_) (fun q2=>?_)
  ·simp! [id]
   exact uc5 T (bad (.inr q2)) post
  obtain ⟨k,rfl⟩:=u34 (show 0<=n by omega);dsimp! [id];have hk1:1<=k:=by omega
  have hk2:k<=m:=by omega
  refine uf8 (post:=fun d G'=>∃ q',d=.ref q' /\ G q'=none /\ G' q'=some (.lst ((evL m k).map .int)) /\ Grow G G') (fun R h'=>⟨m,(k:Int),rfl,hm,(fun j e h1 h2 q' G' x y z=>h' _ _ ⟨q',rfl,x,(by rw [show j=k by omega] at y;exact y),z⟩),fun z=>by omega⟩) ?_;rintro d G1 ⟨q1,rfl,f1,k1,g1⟩;have hlen:(evL m k).length=k:=vv3 hk1;have hsum:(evL m k).sum=(m:Int):=vv2 hk1;simp! [id];dsimp! [u83,uh3,subK,k1,u11,List.length_map,hlen,xSum,u66,hsum];refine ⟨.inr (.inr (.inr (.inl trivial))),?_⟩;rw [if_neg (by decide)];dsimp! [k1,u11];intro p hp;have npq:q1 ≠ p:=gne k1 hp;refine u81 (fun r σ G'=>∃ (l t:List Int) (v0:Option D),l++t=evL m k /\ r=t.map .int /\ G'=gup G1 p (.lst (l.map fun _=>D.bl true)) /\ σ=[v0]) ⟨[],_,none,rfl,rfl,rfl,rfl⟩ ?_ ?_
  ·rintro σ G2 ⟨l,t,v0,el,e2,rfl,rfl⟩
   have ht:t=[]:=by simpa using e2.symm
   subst ht;have g2:Grow G (gup G1 p (.lst (l.map fun _=>D.bl true))):=g1.new hp;have k2:gup G1 p (.lst (l.map fun _=>D.bl true)) q1=some (.lst ((evL m k).map .int)):=by rw [u09 npq];exact k1
   have k3:gup G1 p (.lst (l.map fun _=>D.bl true)) p=some (.lst (l.map fun _=>D.bl true)):=u01;generalize gup G1 p (.lst (l.map fun _=>D.bl true))=G2 at *;refine ⟨by rw [k2],?_⟩;have hab:∀ l:List Int,uk8 (l.map fun _=>D.bl true)=some (l.map fun _=>true):=fun l=>by
    induction l with
    | nil=>rfl
    | cons x l ih=>rw [List.map_cons,uk8,ih];rfl
   have hat:(l.map fun _=>true).all id=true:=by simp
   unfold xAll;simp! [k3,u11,hab,hat];dsimp! [id];refine ⟨q1,evL m k,rfl,.inl (by rw [k2];rfl),fun p3 ns' h3 hperm hsort=>?_⟩;have e3:ns'=(evL m k).reverse:=uo6 (hperm.trans (List.reverse_perm _).symm) hsort vh0;subst e3;simp! [u01,u11];intro p4 h4;have n13:q1 ≠ p3:=gne k2 h3;have n14:q1 ≠ p4:=fun e=>by rw [<- e,u09 n13,k2] at h4;cases h4
   refine ua2 (ks:=evL m k) (ms:=evL m k) (by rw [u09 n14,u09 n13,k2];rfl) (by rw [u01,<- List.map_reverse,List.reverse_reverse];rfl) ?_;rw [decide_eq_true rfl];obtain ⟨x,hx,hx2⟩:=v31 (m:=m) hk1;have hy:=vh1 (m:=m) hk1;simp! [u09 n14,u09 n13,k2,hx,hy];have g4:=((g2.new (o:=.lst ((evL m k).reverse.map .int)) h3).new (o:=.lst ((evL m k).map .int)) h4);rw [decide_eq_true hx2];have pp:=post _ g4;rw [<- List.map_reverse,List.reverse_reverse];exact pp
  ·rintro x r σ G2 ⟨l,t,v0,el,e2,rfl,rfl⟩ ih
   cases t with
   | nil=>cases e2
   | cons i t =>
    cases e2;refine ⟨by rw [u09 npq,k1],?_⟩;simp! [id];refine u82 (v:=.bl true) (G1:=_) (fun R h=>⟨i,rfl,h⟩) ?_;simp! [u01];have hll:l.length<=k:=by rw [<- hlen,<- el,List.length_append];omega
    refine ⟨Nat.lt_of_le_of_lt (m:=1000) (by rw [List.length_map];omega) (by decide),ih _ _ ⟨l++[i],t,some (.int i),by rw [<- el];simp,rfl,by rw [u71,List.map_append];rfl,rfl⟩⟩
theorem vq5 {n:Nat} (G_jaf:Ok P w mg base n T.f_jaf (u96 T)):Ok P w mg base (n+1) T.f_jar (vj0 T):=by
 refine u38 T.f_jar sc_jar (fun ds G R h=>?_) (fun cdv A outer s H E hr =>
   (u03 (u13 2 sc_jar.nd (ec T.f_jaf T.g_law_draw G_jaf hr (u00 (ev 0) (u00 (u12 u72 rfl T.b_len (by decide) (u00 (ev 1) u02)) u02))))
   (u03 (u13 3 sc_jar.nd (u10 u24 u04 (ec T.f_jaf T.g_law_draw G_jaf hr (u00 (ev 0) (u00 u04 u02)))))
   (u03 (u13 4 sc_jar.nd (u25 (u00 (u25 u02) (u00 (u10 u24 (ev 1) (u25 (u00 u04 u02))) (u00 (u10 u24 (u10 u24 (u25 (u00 (u10 u53 u04 (ev 3)) u02)) (u25 (u00 (u10 u24 (e_ix x_ix (ev 1) u04) (ev 3)) u02))) (e_sl x_sl (ev 1) (u69 u04) ub1)) (u00 (u10 u24 (ev 1) (u25 (u00 (ev 3) u02))) (u00 (u10 u24 (e_sl x_sl (ev 1) ub1 (u69 (e_un ug0 u04))) (u25 (u00 (u10 u24 (e_ix x_ix (ev 1) (e_un ug0 u04)) (ev 3)) u02))) u02)))))))
   (u03 (u68 (u48 (ev 4) (u00 (u10 u24 (e_sl x_sl (ev 1) ub1 (u69 (e_un ug0 u04))) (u25 (u00 (u10 u53 (e_ix x_ix (ev 1) (e_un ug0 u04)) u04) u02))) u02)))
   (u03 (u68 (u48 (ev 4) (u00 (u10 u24 (u10 u24 (e_sl x_sl (ev 1) ub1 (u69 (ev 2))) (u25 (u00 u04 u02))) (e_sl x_sl (ev 1) (u69 (ev 2)) ub1)) u02)))
   (u07 (u20 (e_ix x_ix (ev 4) (ec T.f_jaf T.g_law_draw G_jaf hr (u00 (ev 0) (u00 (u12 u72 rfl T.b_len (by decide) (u00 (ev 4) u02)) u02)))))))))))) (fun ds G R h=>?_)
 ·obtain ⟨st,ca,ks,m,rfl,_⟩:=h;rfl
 ·obtain ⟨st,ca,ks,m,rfl,S,nca,hca,hg,hl,post⟩:=h
  simp! [hca];obtain ⟨c0,kr,rfl⟩:∃ c0 kr,ks=c0::kr:=by
   cases ks with
   | nil=>exact absurd rfl hg.1
   | cons a b=>exact ⟨a,b,rfl⟩
  have hln:((nI (c0::kr)).map D.int).length=kr.length+1:=by unfold nI;simp
  rw [hln];have hl':kr.length+1<=101:=hl;refine u06 S (by omega) (by omega) fun x1 G1 a1 b1 b2=>?_
  obtain ⟨x1,rfl⟩:=u34 b1;simp! [id];dsimp! [id];refine u06 a1.at_ (by decide) (by decide) fun x2 G2 a2 b3 b4=>?_
  obtain ⟨x2,rfl⟩:=u34 b3;have A2:=a1.trans a2;have k2:=A2.kp _ _ nca hca;simp! [id];obtain ⟨cs,hcs⟩:∃ cs:List Int,cs=nI (c0::kr):=⟨_,rfl⟩;obtain ⟨y,hy,hy2⟩:=vh9 hcs;have at0:atI (cs.map D.int) 0=some (.int (c0:Int)):=by rw [hcs];exact uq3
  have hlc:cs.length=kr.length+1:=by rw [hcs];unfold nI;simp
  have hc1:cutD (cs.map D.int) (some 1) none=(cs.drop 1).map D.int:=by rw [List.map_drop];exact uh7 (n:=1)
  have hc2:cutD (cs.map D.int) none (some (-1))=cs.dropLast.map D.int:=by rw [v40,List.map_dropLast]
  have hc3:cutD (cs.map D.int) none (some (x1:Int))=(cs.take x1).map D.int:=by rw [un8,List.map_take]
  have hc4:cutD (cs.map D.int) (some (x1:Int)) none=(cs.drop x1).map D.int:=by rw [List.map_drop];exact uh7
  have hgI:gdI cs m:=by rw [hcs];exact un0 hg
  have kc2:G2 ca=some (.lst (cs.map .int)):=by rw [hcs];exact k2
  obtain ⟨mo,hmo,hmo1,hmo3⟩:∃ mo:Int,mo=1+(x2:Int) /\ 1<=mo /\ mo<=3:=⟨_,rfl,by omega,by omega⟩;rw [<- hmo];have g2:Grow G2 G2:=Grow.refl;generalize hu:dSeq (up9 (dBM "list" u87 (dVar 4) _)) _=u;dsimp! [id];refine ⟨by decide,fun pa ha=>?_⟩;have s3:Grow G2 (gup G2 pa (.lst ([]))):=Grow.refl.new ha;have na:G2 pa=none:=g2.none ha;have g3:=g2.trans s3;have fa_3:gup G2 pa (.lst ([])) pa=some (.lst ([])):=u01;have kc3:=s3.kp _ _ kc2;generalize gup G2 pa (.lst ([]))=G3 at *;refine ⟨by decide,fun pb hb=>?_⟩;have s4:Grow G3 (gup G3 pb (.lst ([D.int 0]))):=Grow.refl.new hb;have nb:G2 pb=none:=g3.none hb;have g4:=g3.trans s4;have fb_4:gup G3 pb (.lst ([D.int 0])) pb=some (.lst ([D.int 0])):=u01;have kc4:=s4.kp _ _ kc3;generalize gup G3 pb (.lst ([D.int 0]))=G4 at *;refine add_l kc4 fb_4 (by simp;try omega) fun pc hc=>?_
  have s5:Grow G4 (gup G4 pc (.lst ((cs.map D.int)++([D.int 0])))):=Grow.refl.new hc;have nc:G2 pc=none:=g4.none hc;have g5:=g4.trans s5;have fc_5:gup G4 pc (.lst ((cs.map D.int)++([D.int 0]))) pc=some (.lst ((cs.map D.int)++([D.int 0]))):=u01;have kc5:=s5.kp _ _ kc4;generalize gup G4 pc (.lst ((cs.map D.int)++([D.int 0])))=G5 at *;refine ⟨by decide,fun pd hd=>?_⟩;have s6:Grow G5 (gup G5 pd (.lst ([D.int (0 - mo)]))):=Grow.refl.new hd;have nd:G2 pd=none:=g5.none hd;have g6:=g5.trans s6;have fd_6:gup G5 pd (.lst ([D.int (0 - mo)])) pd=some (.lst ([D.int (0 - mo)])):=u01;have kc6:=s6.kp _ _ kc5;generalize gup G5 pd (.lst ([D.int (0 - mo)]))=G6 at *;simp! [kc6,u11,at0];refine ⟨by decide,fun pe he=>?_⟩;have s7:Grow G6 (gup G6 pe (.lst ([D.int ((c0:Int)+mo)]))):=Grow.refl.new he;have ne:G2 pe=none:=g6.none he;have g7:=g6.trans s7;have fe_7:gup G6 pe (.lst ([D.int ((c0:Int)+mo)])) pe=some (.lst ([D.int ((c0:Int)+mo)])):=u01;have kc7:=s7.kp _ _ kc6;generalize gup G6 pe (.lst ([D.int ((c0:Int)+mo)]))=G7 at *;have fd_7:=s7.kp _ _ fd_6;refine add_l fd_7 fe_7 (by simp;try omega) fun pf hf=>?_
  have s8:Grow G7 (gup G7 pf (.lst (([D.int (0 - mo)])++([D.int ((c0:Int)+mo)])))):=Grow.refl.new hf;have nf:G2 pf=none:=g7.none hf;have g8:=g7.trans s8;have ff_8:gup G7 pf (.lst (([D.int (0 - mo)])++([D.int ((c0:Int)+mo)]))) pf=some (.lst (([D.int (0 - mo)])++([D.int ((c0:Int)+mo)]))):=u01;have kc8:=s8.kp _ _ kc7;generalize gup G7 pf (.lst (([D.int (0 - mo)])++([D.int ((c0:Int)+mo)])))=G8 at *;simp! [kc8,u11,hc1,at0,hy];intro pg hg;have s9:Grow G8 (gup G8 pg (.lst ((cs.drop 1).map D.int))):=Grow.refl.new hg;have ng:G2 pg=none:=g8.none hg;have g9:=g8.trans s9;have fg_9:gup G8 pg (.lst ((cs.drop 1).map D.int)) pg=some (.lst ((cs.drop 1).map D.int)):=u01;have kc9:=s9.kp _ _ kc8;generalize gup G8 pg (.lst ((cs.drop 1).map D.int))=G9 at *;have ff_9:=s9.kp _ _ ff_8;refine add_l ff_9 fg_9 (by simp;try omega) fun ph hh=>?_
  have s10:Grow G9 (gup G9 ph (.lst ((([D.int (0 - mo)])++([D.int ((c0:Int)+mo)]))++((cs.drop 1).map D.int)))):=Grow.refl.new hh;have nh:G2 ph=none:=g9.none hh;have g10:=g9.trans s10;have fh_10:gup G9 ph (.lst ((([D.int (0 - mo)])++([D.int ((c0:Int)+mo)]))++((cs.drop 1).map D.int))) ph=some (.lst ((([D.int (0 - mo)])++([D.int ((c0:Int)+mo)]))++((cs.drop 1).map D.int))):=u01;have kc10:=s10.kp _ _ kc9;generalize gup G9 ph (.lst ((([D.int (0 - mo)])++([D.int ((c0:Int)+mo)]))++((cs.drop 1).map D.int)))=G10 at *;refine ⟨by decide,fun pi hi=>?_⟩;have s11:Grow G10 (gup G10 pi (.lst ([D.int mo]))):=Grow.refl.new hi;have ni:G2 pi=none:=g10.none hi;have g11:=g10.trans s11;have fi_11:gup G10 pi (.lst ([D.int mo])) pi=some (.lst ([D.int mo])):=u01;have kc11:=s11.kp _ _ kc10;generalize gup G10 pi (.lst ([D.int mo]))=G11 at *;refine add_l kc11 fi_11 (by simp;try omega) fun pj hj=>?_
  have s12:Grow G11 (gup G11 pj (.lst ((cs.map D.int)++([D.int mo])))):=Grow.refl.new hj;have nj:G2 pj=none:=g11.none hj;have g12:=g11.trans s12;have fj_12:gup G11 pj (.lst ((cs.map D.int)++([D.int mo]))) pj=some (.lst ((cs.map D.int)++([D.int mo]))):=u01;have kc12:=s12.kp _ _ kc11;generalize gup G11 pj (.lst ((cs.map D.int)++([D.int mo])))=G12 at *;simp! [kc12,u11,hc2,at0,hy];intro pk hk;have s13:Grow G12 (gup G12 pk (.lst (cs.dropLast.map D.int))):=Grow.refl.new hk;have nk:G2 pk=none:=g12.none hk;have g13:=g12.trans s13;have fk_13:gup G12 pk (.lst (cs.dropLast.map D.int)) pk=some (.lst (cs.dropLast.map D.int)):=u01;have kc13:=s13.kp _ _ kc12;generalize gup G12 pk (.lst (cs.dropLast.map D.int))=G13 at *;simp! [kc13,u11,hy];refine ⟨by decide,fun pl hl=>?_⟩;have s14:Grow G13 (gup G13 pl (.lst ([D.int (y+mo)]))):=Grow.refl.new hl;have nl:G2 pl=none:=g13.none hl;have g14:=g13.trans s14;have fl_14:gup G13 pl (.lst ([D.int (y+mo)])) pl=some (.lst ([D.int (y+mo)])):=u01;have kc14:=s14.kp _ _ kc13;generalize gup G13 pl (.lst ([D.int (y+mo)]))=G14 at *;have fk_14:=s14.kp _ _ fk_13;refine add_l fk_14 fl_14 (by simp;try omega) fun pm hm=>?_
  have s15:Grow G14 (gup G14 pm (.lst ((cs.dropLast.map D.int)++([D.int (y+mo)])))):=Grow.refl.new hm;have nm:G2 pm=none:=g14.none hm;have g15:=g14.trans s15;have fm_15:gup G14 pm (.lst ((cs.dropLast.map D.int)++([D.int (y+mo)]))) pm=some (.lst ((cs.dropLast.map D.int)++([D.int (y+mo)]))):=u01;have kc15:=s15.kp _ _ kc14;generalize gup G14 pm (.lst ((cs.dropLast.map D.int)++([D.int (y+mo)])))=G15 at *;have fa_4:=s4.kp _ _ fa_3;have fa_5:=s5.kp _ _ fa_4;have fa_6:=s6.kp _ _ fa_5;have fa_7:=s7.kp _ _ fa_6;have fa_8:=s8.kp _ _ fa_7;have fa_9:=s9.kp _ _ fa_8;have fa_10:=s10.kp _ _ fa_9;have fa_11:=s11.kp _ _ fa_10;have fa_12:=s12.kp _ _ fa_11;have fa_13:=s13.kp _ _ fa_12;have fa_14:=s14.kp _ _ fa_13;have fa_15:=s15.kp _ _ fa_14;have fc_6:=s6.kp _ _ fc_5;have fc_7:=s7.kp _ _ fc_6;have fc_8:=s8.kp _ _ fc_7;have fc_9:=s9.kp _ _ fc_8;have fc_10:=s10.kp _ _ fc_9;have fc_11:=s11.kp _ _ fc_10;have fc_12:=s12.kp _ _ fc_11;have fc_13:=s13.kp _ _ fc_12;have fc_14:=s14.kp _ _ fc_13;have fc_15:=s15.kp _ _ fc_14;have fh_11:=s11.kp _ _ fh_10;have fh_12:=s12.kp _ _ fh_11;have fh_13:=s13.kp _ _ fh_12;have fh_14:=s14.kp _ _ fh_13;have fh_15:=s15.kp _ _ fh_14;have fj_13:=s13.kp _ _ fj_12;have fj_14:=s14.kp _ _ fj_13;have fj_15:=s15.kp _ _ fj_14;refine ⟨by decide,fun pz hz=>?_⟩;have s16:Grow G15 (gup G15 pz (.lst ([D.ref pa,D.ref pc,D.ref ph,D.ref pj,D.ref pm]))):=Grow.refl.new hz;have nz:G2 pz=none:=g15.none hz;have g16:=g15.trans s16;have fz_16:gup G15 pz (.lst ([D.ref pa,D.ref pc,D.ref ph,D.ref pj,D.ref pm])) pz=some (.lst ([D.ref pa,D.ref pc,D.ref ph,D.ref pj,D.ref pm])):=u01;have kc16:=s16.kp _ _ kc15;generalize gup G15 pz (.lst ([D.ref pa,D.ref pc,D.ref ph,D.ref pj,D.ref pm]))=G16 at *;have fa_16:=s16.kp _ _ fa_15;have fc_16:=s16.kp _ _ fc_15;have fh_16:=s16.kp _ _ fh_15;have fj_16:=s16.kp _ _ fj_15;have fm_16:=s16.kp _ _ fm_15;subst hu;dsimp! [id];have za:=gne fa_15 hz;have zc:=gne fc_15 hz;have zh:=gne fh_15 hz;have zj:=gne fj_15 hz;have zm:=gne fm_15 hz;have zca:=gne kc15 hz;simp! [fz_16,kc16,u11,hc2];intro pn hn;have s17:Grow G16 (gup G16 pn (.lst (cs.dropLast.map D.int))):=Grow.refl.new hn;have nn:G2 pn=none:=g16.none hn;have g17:=g16.trans s17;have fn_17:gup G16 pn (.lst (cs.dropLast.map D.int)) pn=some (.lst (cs.dropLast.map D.int)):=u01;have kc17:=s17.kp _ _ kc16;generalize gup G16 pn (.lst (cs.dropLast.map D.int))=G17 at *;simp! [kc17,u11,hy];refine ⟨by decide,fun po ho=>?_⟩;have s18:Grow G17 (gup G17 po (.lst ([D.int (y - 1)]))):=Grow.refl.new ho;have no:G2 po=none:=g17.none ho;have g18:=g17.trans s18;have fo_18:gup G17 po (.lst ([D.int (y - 1)])) po=some (.lst ([D.int (y - 1)])):=u01;have kc18:=s18.kp _ _ kc17;generalize gup G17 po (.lst ([D.int (y - 1)]))=G18 at *;have fn_18:=s18.kp _ _ fn_17;refine add_l fn_18 fo_18 (by simp;try omega) fun pq hq=>?_
  have s19:Grow G18 (gup G18 pq (.lst ((cs.dropLast.map D.int)++([D.int (y - 1)])))):=Grow.refl.new hq;have nq:G2 pq=none:=g18.none hq;have g19:=g18.trans s19;have fq_19:gup G18 pq (.lst ((cs.dropLast.map D.int)++([D.int (y - 1)]))) pq=some (.lst ((cs.dropLast.map D.int)++([D.int (y - 1)]))):=u01;have kc19:=s19.kp _ _ kc18;generalize gup G18 pq (.lst ((cs.dropLast.map D.int)++([D.int (y - 1)])))=G19 at *;have fz_17:=s17.kp _ _ fz_16;have fz_18:=s18.kp _ _ fz_17;have fz_19:=s19.kp _ _ fz_18;have fa_17:=s17.kp _ _ fa_16;have fa_18:=s18.kp _ _ fa_17;have fa_19:=s19.kp _ _ fa_18;have fc_17:=s17.kp _ _ fc_16;have fc_18:=s18.kp _ _ fc_17;have fc_19:=s19.kp _ _ fc_18;have fh_17:=s17.kp _ _ fh_16;have fh_18:=s18.kp _ _ fh_17;have fh_19:=s19.kp _ _ fh_18;have fj_17:=s17.kp _ _ fj_16;have fj_18:=s18.kp _ _ fj_17;have fj_19:=s19.kp _ _ fj_18;have fm_17:=s17.kp _ _ fm_16;have fm_18:=s18.kp _ _ fm_17;have fm_19:=s19.kp _ _ fm_18;have zq:pq ≠ pz:=gne' hq fz_18;simp! [fz_19];refine ⟨by decide,?_⟩;have g20:Grow G2 (gup G19 pz (.lst ([D.ref pa,D.ref pc,D.ref ph,D.ref pj,D.ref pm,D.ref pq]))):=g19.own nz;have fz_20:gup G19 pz (.lst ([D.ref pa,D.ref pc,D.ref ph,D.ref pj,D.ref pm,D.ref pq])) pz=some (.lst ([D.ref pa,D.ref pc,D.ref ph,D.ref pj,D.ref pm,D.ref pq])):=u01;have kc20:gup G19 pz (.lst ([D.ref pa,D.ref pc,D.ref ph,D.ref pj,D.ref pm,D.ref pq])) ca=_:=(u09 zca).trans kc19;have fa_20:gup G19 pz (.lst ([D.ref pa,D.ref pc,D.ref ph,D.ref pj,D.ref pm,D.ref pq])) pa=_:=(u09 za).trans fa_19;have fc_20:gup G19 pz (.lst ([D.ref pa,D.ref pc,D.ref ph,D.ref pj,D.ref pm,D.ref pq])) pc=_:=(u09 zc).trans fc_19;have fh_20:gup G19 pz (.lst ([D.ref pa,D.ref pc,D.ref ph,D.ref pj,D.ref pm,D.ref pq])) ph=_:=(u09 zh).trans fh_19;have fj_20:gup G19 pz (.lst ([D.ref pa,D.ref pc,D.ref ph,D.ref pj,D.ref pm,D.ref pq])) pj=_:=(u09 zj).trans fj_19;have fm_20:gup G19 pz (.lst ([D.ref pa,D.ref pc,D.ref ph,D.ref pj,D.ref pm,D.ref pq])) pm=_:=(u09 zm).trans fm_19;have fq_20:gup G19 pz (.lst ([D.ref pa,D.ref pc,D.ref ph,D.ref pj,D.ref pm,D.ref pq])) pq=_:=(u09 zq).trans fq_19;generalize gup G19 pz (.lst ([D.ref pa,D.ref pc,D.ref ph,D.ref pj,D.ref pm,D.ref pq]))=G20 at *;dsimp! [fz_20,kc20,u11,hc3];intro pr hr;have s21:Grow G20 (gup G20 pr (.lst ((cs.take x1).map D.int))):=Grow.refl.new hr;have nr:G2 pr=none:=g20.none hr;have g21:=g20.trans s21;have fr_21:gup G20 pr (.lst ((cs.take x1).map D.int)) pr=some (.lst ((cs.take x1).map D.int)):=u01;have kc21:=s21.kp _ _ kc20;generalize gup G20 pr (.lst ((cs.take x1).map D.int))=G21 at *;refine ⟨by decide,fun pt ht=>?_⟩;have s22:Grow G21 (gup G21 pt (.lst ([D.int 0]))):=Grow.refl.new ht;have nt:G2 pt=none:=g21.none ht;have g22:=g21.trans s22;have ft_22:gup G21 pt (.lst ([D.int 0])) pt=some (.lst ([D.int 0])):=u01;have kc22:=s22.kp _ _ kc21
  generalize gup G21 pt (.lst ([D.int 0]))=G22 at *;have fr_22:=s22.kp _ _ fr_21;refine add_l fr_22 ft_22 (by simp;try omega) fun pu hu=>?_
  have s23:Grow G22 (gup G22 pu (.lst (((cs.take x1).map D.int)++([D.int 0])))):=Grow.refl.new hu;have nu:G2 pu=none:=g22.none hu;have g23:=g22.trans s23;have fu_23:gup G22 pu (.lst (((cs.take x1).map D.int)++([D.int 0]))) pu=some (.lst (((cs.take x1).map D.int)++([D.int 0]))):=u01;have kc23:=s23.kp _ _ kc22;generalize gup G22 pu (.lst (((cs.take x1).map D.int)++([D.int 0])))=G23 at *;simp! [kc23,u11,hc4,at0,hy];intro pv hv;have s24:Grow G23 (gup G23 pv (.lst ((cs.drop x1).map D.int))):=Grow.refl.new hv;have nv:G2 pv=none:=g23.none hv;have g24:=g23.trans s24;have fv_24:gup G23 pv (.lst ((cs.drop x1).map D.int)) pv=some (.lst ((cs.drop x1).map D.int)):=u01;have kc24:=s24.kp _ _ kc23;generalize gup G23 pv (.lst ((cs.drop x1).map D.int))=G24 at *;have fu_24:=s24.kp _ _ fu_23;refine add_l fu_24 fv_24 (by simp;try omega) fun px hx=>?_
  have s25:Grow G24 (gup G24 px (.lst ((((cs.take x1).map D.int)++([D.int 0]))++((cs.drop x1).map D.int)))):=Grow.refl.new hx;have nx:G2 px=none:=g24.none hx;have g25:=g24.trans s25;have fx_25:gup G24 px (.lst ((((cs.take x1).map D.int)++([D.int 0]))++((cs.drop x1).map D.int))) px=some (.lst ((((cs.take x1).map D.int)++([D.int 0]))++((cs.drop x1).map D.int))):=u01;have kc25:=s25.kp _ _ kc24;generalize gup G24 px (.lst ((((cs.take x1).map D.int)++([D.int 0]))++((cs.drop x1).map D.int)))=G25 at *;have fz_21:=s21.kp _ _ fz_20;have fz_22:=s22.kp _ _ fz_21;have fz_23:=s23.kp _ _ fz_22;have fz_24:=s24.kp _ _ fz_23;have fz_25:=s25.kp _ _ fz_24;have fa_21:=s21.kp _ _ fa_20;have fa_22:=s22.kp _ _ fa_21;have fa_23:=s23.kp _ _ fa_22;have fa_24:=s24.kp _ _ fa_23;have fa_25:=s25.kp _ _ fa_24;have fc_21:=s21.kp _ _ fc_20;have fc_22:=s22.kp _ _ fc_21;have fc_23:=s23.kp _ _ fc_22;have fc_24:=s24.kp _ _ fc_23;have fc_25:=s25.kp _ _ fc_24;have fh_21:=s21.kp _ _ fh_20;have fh_22:=s22.kp _ _ fh_21;have fh_23:=s23.kp _ _ fh_22;have fh_24:=s24.kp _ _ fh_23;have fh_25:=s25.kp _ _ fh_24;have fj_21:=s21.kp _ _ fj_20;have fj_22:=s22.kp _ _ fj_21;have fj_23:=s23.kp _ _ fj_22;have fj_24:=s24.kp _ _ fj_23;have fj_25:=s25.kp _ _ fj_24;have fm_21:=s21.kp _ _ fm_20;have fm_22:=s22.kp _ _ fm_21;have fm_23:=s23.kp _ _ fm_22;have fm_24:=s24.kp _ _ fm_23;have fm_25:=s25.kp _ _ fm_24;have fq_21:=s21.kp _ _ fq_20;have fq_22:=s22.kp _ _ fq_21;have fq_23:=s23.kp _ _ fq_22;have fq_24:=s24.kp _ _ fq_23;have fq_25:=s25.kp _ _ fq_24;have zx:px ≠ pz:=gne' hx fz_24;simp! [fz_25];refine ⟨by decide,?_⟩;have g26:Grow G2 (gup G25 pz (.lst ([D.ref pa,D.ref pc,D.ref ph,D.ref pj,D.ref pm,D.ref pq,D.ref px]))):=g25.own nz;have fz_26:gup G25 pz (.lst ([D.ref pa,D.ref pc,D.ref ph,D.ref pj,D.ref pm,D.ref pq,D.ref px])) pz=some (.lst ([D.ref pa,D.ref pc,D.ref ph,D.ref pj,D.ref pm,D.ref pq,D.ref px])):=u01;have kc26:gup G25 pz (.lst ([D.ref pa,D.ref pc,D.ref ph,D.ref pj,D.ref pm,D.ref pq,D.ref px])) ca=_:=(u09 zca).trans kc25;have fa_26:gup G25 pz (.lst ([D.ref pa,D.ref pc,D.ref ph,D.ref pj,D.ref pm,D.ref pq,D.ref px])) pa=_:=(u09 za).trans fa_25;have fc_26:gup G25 pz (.lst ([D.ref pa,D.ref pc,D.ref ph,D.ref pj,D.ref pm,D.ref pq,D.ref px])) pc=_:=(u09 zc).trans fc_25;have fh_26:gup G25 pz (.lst ([D.ref pa,D.ref pc,D.ref ph,D.ref pj,D.ref pm,D.ref pq,D.ref px])) ph=_:=(u09 zh).trans fh_25;have fj_26:gup G25 pz (.lst ([D.ref pa,D.ref pc,D.ref ph,D.ref pj,D.ref pm,D.ref pq,D.ref px])) pj=_:=(u09 zj).trans fj_25;have fm_26:gup G25 pz (.lst ([D.ref pa,D.ref pc,D.ref ph,D.ref pj,D.ref pm,D.ref pq,D.ref px])) pm=_:=(u09 zm).trans fm_25;have fq_26:gup G25 pz (.lst ([D.ref pa,D.ref pc,D.ref ph,D.ref pj,D.ref pm,D.ref pq,D.ref px])) pq=_:=(u09 zq).trans fq_25;have fx_26:gup G25 pz (.lst ([D.ref pa,D.ref pc,D.ref ph,D.ref pj,D.ref pm,D.ref pq,D.ref px])) px=_:=(u09 zx).trans fx_25
  generalize gup G25 pz (.lst ([D.ref pa,D.ref pc,D.ref ph,D.ref pj,D.ref pm,D.ref pq,D.ref px]))=G26 at *;have A9:=A2.grow g26;dsimp! [fz_26,u11];refine u06 A9.at_ (by decide) (by decide) fun x7 Gd ad d1 d2=>?_
  have zst:=A2.at_.ne nz
  have kz:=ad.kp _ _ zst fz_26;have fin:∀ (q:Addr) (L:List Int),¬ gdI L m->L.length<=200->G2 q=none->G26 q=some (.lst (L.map .int))->R (.ref q) Gd:=fun q L h1 h2 h3 h4=>post q L Gd h1 h2 (A2.at_.ne h3) (ad.kp _ _ (A2.at_.ne h3) h4) (A9.trans ad)
  have hs1:cs.dropLast.sum+y=cs.sum:=by
   have:=congrArg List.sum hy2;rw [List.sum_append] at this;simpa using this.symm
  have hdl:cs.dropLast.length=kr.length:=by rw [List.length_dropLast,hlc];rfl
  have hsm:=hgI.2.2;have:x7=0 \/ x7=1 \/ x7=2 \/ x7=3 \/ x7=4 \/ x7=5 \/ x7=6:=by
   have:x7 < 7:=d2;omega
  rcases this with rfl | rfl | rfl | rfl | rfl | rfl | rfl
  ·have ez:atI [D.ref pa,D.ref pc,D.ref ph,D.ref pj,D.ref pm,D.ref pq,D.ref px] 0=some (.ref pa):=rfl
   simp! [kz,ez];exact fin pa [] (fun z=>z.1 rfl) (by decide) na fa_26
  ·have ez:atI [D.ref pa,D.ref pc,D.ref ph,D.ref pj,D.ref pm,D.ref pq,D.ref px] 1=some (.ref pc):=rfl
   simp! [kz,ez];exact fin pc (cs++[0]) (fun z=>by have:=z.2.1 0 (by simp);omega) (by simp;omega) nc (by rw [fc_26];simp)
  ·have ez:atI [D.ref pa,D.ref pc,D.ref ph,D.ref pj,D.ref pm,D.ref pq,D.ref px] 2=some (.ref ph):=rfl
   simp! [kz,ez];exact fin ph (([0 - mo]++[(c0:Int)+mo])++cs.drop 1) (fun z=>by have:=z.2.1 (0 - mo) (by simp);omega) (by simp;omega) nh (by rw [fh_26];simp)
  ·have ez:atI [D.ref pa,D.ref pc,D.ref ph,D.ref pj,D.ref pm,D.ref pq,D.ref px] 3=some (.ref pj):=rfl
   simp! [kz,ez];exact fin pj (cs++[mo]) (fun z=>by have:=z.2.2;rw [List.sum_append] at this;simp at this;omega) (by simp;omega) nj (by rw [fj_26];simp)
  ·have ez:atI [D.ref pa,D.ref pc,D.ref ph,D.ref pj,D.ref pm,D.ref pq,D.ref px] 4=some (.ref pm):=rfl
   simp! [kz,ez];exact fin pm (cs.dropLast++[y+mo]) (fun z=>by have:=z.2.2;rw [List.sum_append] at this;simp at this;omega) (by simp;omega) nm (by rw [fm_26];simp)
  ·have ez:atI [D.ref pa,D.ref pc,D.ref ph,D.ref pj,D.ref pm,D.ref pq,D.ref px] 5=some (.ref pq):=rfl
   simp! [kz,ez];exact fin pq (cs.dropLast++[y - 1]) (fun z=>by have:=z.2.2;rw [List.sum_append] at this;simp at this;omega) (by simp;omega) nq (by rw [fq_26];simp)
  ·have ez:atI [D.ref pa,D.ref pc,D.ref ph,D.ref pj,D.ref pm,D.ref pq,D.ref px] 6=some (.ref px):=rfl
   simp! [kz,ez];exact fin px ((cs.take x1++[0])++cs.drop x1) (fun z=>by have:=z.2.1 0 (by simp);omega) (by simp;omega) nx (by rw [fx_26];simp)
theorem vp8 {n:Nat} (G_jab:OkX P w mg base n T.f_jab (ui8 T)) (G_jaw:OkX P w mg base n T.f_jaw (uf9 T)) (G_jaa:OkX P w mg base n T.f_jaa (uk9 T)) (G_jaf:Ok P w mg base n T.f_jaf (u96 T)) (G_jas:Ok P w mg base n T.f_jas (vi9 T)) (G_jal:Ok P w mg base n T.f_jal (v49 T)) (G_jae:Ok P w mg base n T.f_jae (vj3 T)) (G_jam:Ok P w mg base n T.f_jam (ux9 T)) (G_jag:Ok P w mg base n T.f_jag (vj2 T)) (G_jar:Ok P w mg base n T.f_jar (vj0 T)):Ok P w mg base (n+1) T.f_law (vi6 T):=by
 refine u38 T.f_law sc_law (fun ds G R h=>?_) (fun cdv A outer s H E hr =>
   (u03 (u13 1 sc_law.nd (u25 (u00 (ev 0) (u00 u04 (u00 u04 u02)))))
   (u03 (u86 (u93 rfl T.b_range (u00 u04 u02)) (u31 2 sc_law.nd) (u03 (u13 3 sc_law.nd (ec T.f_jaf T.g_law_draw G_jaf hr (u00 (ev 1) (u00 u04 u02))))
   (u07 (u86 (uc7 (u25 (u00 (u10 u53 (ec T.f_jaf T.g_law_draw G_jaf hr (u00 (ev 1) (u00 u04 u02))) u04) (u00 (u10 u53 (u10 u24 (ev 3) (ec T.f_jaf T.g_law_draw G_jaf hr (u00 (ev 1) (u00 u04 u02)))) u04) (u00 (ec T.f_jaf T.g_law_draw G_jaf hr (u00 (ev 1) (u00 (u10 u24 (ev 3) u04) u02))) u02))))) (u31 4 sc_law.nd) (u07 (s_if (ua6 (ua5 (ec T.f_jag T.g_law_even G_jag hr (u00 (ev 3) (u00 (ev 4) u02))))) (u07 (u20 e_bl)) u18))))))
   (u03 (u13 5 sc_law.nd (ec T.f_jal T.g_law_program G_jal hr (u00 (ev 1) u02)))
   (u03 (u13 6 sc_law.nd (ec T.f_jas T.g_law_unrolled G_jas hr (u00 (e_ix x_ix (ev 5) u04) u02)))
   (u03 (u13 7 sc_law.nd (ec T.f_jae T.g_law_cuts G_jae hr (u00 (ev 1) (u00 (u12 u72 rfl T.b_len (by decide) (u00 (ev 6) u02)) (u00 u04 u02)))))
   (u03 (u13 8 sc_law.nd (u32 uy3 rfl T.b_list (by decide) (u00 (ev 7) u02)))
   (u03 (u13 9 sc_law.nd (ecN T.f_jaw T.g_stretches G_jaw hr (u00 (ev 5) (u00 (ev 8) u02))))
   (u03 (s_if (t_w (w_or (ua6 (ua5 (u12 u73 rfl T.b_isinstance (by decide) (u00 (ev 9) (u00 (ud7 (T := "list") T.b_list (by decide)) u02))))) (w_or (u27 (x_ne hr) (uh4 (N':=["_law_part"]) (ix:=[none]) (blk (osc:=u05 us5) (N:=["_law_script", "_law_state", "_law_k", "_law_many", "_law_n", "_law_program_here", "_law_some", "_law_cuts_here", "_law_handed", "_law_found", "_law_together", "_law_part", "_law_wrong", "_law_bare"]) rfl rfl (by decide)) (uc7 (ev 9)) (fun _ _ _ _=>(u31 0 (show (["_law_part"]:List Str).Nodup by decide))) (fun _ _ _ _=>ub8) (fun _ _ _ _=>(u12 u72 rfl T.b_len (by decide) (u00 (ev 0) u02)))) (ev 7) (nomark _)) (uc6 (u27 (x_ne hr) (ev 8) (ev 7) (nomark _)))))) (u07 (u20 e_bl)) u18)
   (u03 (u13 10 sc_law.nd (u25 u02))
   (u03 (u86 (uc7 (ev 9)) (u31 11 sc_law.nd) (u03 (s_if (ua6 (ua5 (u12 u73 rfl T.b_isinstance (by decide) (u00 (ev 11) (u00 (ud7 (T := "list") T.b_list (by decide)) u02))))) (u07 (u20 e_bl)) u18)
   (u07 (u13 10 sc_law.nd (u10 u24 (ev 10) (ev 11))))))
   (u03 (s_if (u27 (x_ne hr) (ev 10) (ev 6) (nomark _)) (u07 (u20 e_bl)) u18)
   (u03 (u68 (v36 (e_ix x_ix (ev 9) u04)))
   (u03 (u86 (u93 rfl T.b_range (u00 u04 u02)) (u31 2 sc_law.nd) (u03 (u13 12 sc_law.nd (ec T.f_jar T.g_law_spoilt G_jar hr (u00 (ev 1) (u00 (ev 7) u02))))
   (u07 (s_if (t_w (w_or (ua6 (ua5 (ec T.f_jam T.g_law_refused G_jam hr (u00 (up7 T.g_stretches) (u00 (ev 5) (u00 (ev 12) u02)))))) (uc6 (ua6 (ua5 (ec T.f_jam T.g_law_refused G_jam hr (u00 (up7 T.g_costs) (u00 (ev 5) (u00 (ev 12) u02))))))))) (u07 (u20 e_bl)) u18))))
   (u03 (u13 13 sc_law.nd (u80 (u00 (e_ix x_ix (ev 5) u04) (u00 (e_ix x_ix (ev 5) u04) (u00 (e_ix x_ix (u25 (u00 (u80 u02) (u00 (u80 (u00 (u80 (u00 u41 (u00 u04 (u00 (e_ix x_ix (ev 5) u04) u02)))) u02)) u02))) (ec T.f_jaf T.g_law_draw G_jaf hr (u00 (ev 1) (u00 u04 u02)))) u02)))))
   (u03 (u86 (uc7 (u25 (u00 (u25 u02) (u00 (u25 (u00 u04 u02)) (u00 (u25 (u00 u04 u02)) (u00 (ev 7) u02)))))) (u31 12 sc_law.nd) (u07 (s_if (t_w (w_or (ua6 (ua5 (ec T.f_jam T.g_law_refused G_jam hr (u00 (up7 T.g_stretches) (u00 (ev 13) (u00 (ev 12) u02)))))) (uc6 (ua6 (ua5 (ec T.f_jam T.g_law_refused G_jam hr (u00 (up7 T.g_costs) (u00 (ev 13) (u00 (ev 12) u02))))))))) (u07 (u20 e_bl)) u18)))
   (u07 (u20 (v37 (uh5 (x_eq hr) (uh4 (N':=["_law_part"]) (ix:=[none]) (blk (osc:=u05 us5) (N:=["_law_script", "_law_state", "_law_k", "_law_many", "_law_n", "_law_program_here", "_law_some", "_law_cuts_here", "_law_handed", "_law_found", "_law_together", "_law_part", "_law_wrong", "_law_bare"]) rfl rfl (by decide)) (uc7 (ecN T.f_jaw T.g_stretches G_jaw hr (u00 (ev 5) (u00 (ev 8) u02)))) (fun _ _ _ _=>(u31 0 (show (["_law_part"]:List Str).Nodup by decide))) (fun _ _ _ _=>ub8) (fun _ _ _ _=>(u12 u72 rfl T.b_len (by decide) (u00 (ev 0) u02)))) (ev 7) (nomark _)) (v33 (ec T.f_jam T.g_law_refused G_jam hr (u00 (up7 T.g_even) (u00 u04 (u00 (ec T.f_jaf T.g_law_draw G_jaf hr (u00 (ev 1) (u00 u04 u02))) u02)))))))))))))))))))))))) (fun ds G R h=>?_)
 ·obtain ⟨a,ns,rfl,_⟩:=h;rfl
 ·obtain ⟨a,ns,rfl,ha,hns,post⟩:=h
  simp! [id];refine ⟨by decide,fun st hst=>?_⟩;have hast:a ≠ st:=gne ha hst;have S0:StAt (gup G st (.lst [.ref a,.int 0,.int 0])) st:=⟨a,ns,0,0,u01,by rw [u09 hast];exact ha,by omega,by omega,hast,hns⟩;generalize gup G st (.lst [.ref a,.int 0,.int 0])=G0 at *;generalize hu:dSeq (dAsg (dCall (v49 T) [] _) (u88 5)) _=u;have rest:∀ (v2 v3 v4:Option D) (G1:Gp),StAt G1 st->Go (u { nx:=fun x G'=>R D.non G',rt:=R }) [some (.ref a),some (.ref st),v2,v3,v4,none,none,none,none,none,none,none,none,none] G1:=by
   intro v2 v3 v4 G1 S1;subst hu;dsimp! [id];refine u36 (post:=fun d G'=>∃ (W:Nat) (bs:List Str) (rs:List Rowp),d=.tup [.int (W:Int),.tup (bs.map .str),.tup (u08 rs)] /\ bdL rs /\ depL rs<=3 /\ wtL rs<=20 /\ outL rs ≠ [] /\ Adv st G1 G') (fun R h=>⟨st,rfl,S1,fun W bs rs G' e1 e2 e3 e4 e5=>h _ _ ⟨W,bs,rs,rfl,e1,e2,e3,e4,e5⟩⟩) ?_;rintro d G2 ⟨W,bs,rs,rfl,hbd,hdp,hwt,hne,a2⟩;simp! [id];dsimp! [id];refine ux7 T (dp:=8) (by omega) hbd (by omega) fun q3 G3 f3 k3 g3=>?_
   have A3:=a2.grow g3;have nq3:=a2.at_.ne f3
   have hol:=ub0 rs;have hol1:1<=(outL rs).length:=by
    cases e:outL rs with
    | nil=>exact absurd e hne
    | cons x y=>simp
   simp! [id];dsimp! [k3,u11,u14];refine u36 (post:=fun d G'=>∃ (q:Addr) (ks:List Nat),d=.ref q /\ gd ks (outL rs).length /\ ks.length<=101 /\ q ≠ st /\ G3 q=none /\ G' q=some (.lst ((nI ks).map .int)) /\ Adv st G3 G') (fun R h=>⟨st,(outL rs).length,9,rfl,A3.at_,hol1,by omega,by decide,by decide,fun q ks G' e1 e2 e3 e4 e5 e6=>h _ _ ⟨q,ks,rfl,e1,e2,e3,e4,e5,e6⟩⟩) ?_;rintro d G4 ⟨q4,ks,rfl,hgd,hkl,nq4,f4,k4,a4⟩;have k34:=a4.kp _ _ nq3 k3;simp! [id];dsimp! [k4,u11];intro p5 h5;have n45:q4 ≠ p5:=gne k4 h5;have A5:=(A3.trans a4).new (o:=.lst ((nI ks).map .int)) h5;have g45:Grow G4 (gup G4 p5 (.lst ((nI ks).map .int))):=Grow.refl.new h5;have k5:gup G4 p5 (.lst ((nI ks).map .int)) p5=some (.lst ((nI ks).map .int)):=u01;have k45:=g45.kp _ _ k4;have k35:=g45.kp _ _ k34;generalize gup G4 p5 (.lst ((nI ks).map .int))=G5 at *;generalize hu2:dSeq (dAsg (dLst dNil) (u88 10)) _=u2;dsimp! [id];refine vw4 T k5 (by omega) (by omega) hbd (by omega) hgd fun q6 as G6 f6 fa6 na6 k6 pa6 g6=>?_
   have hpl:=ut2 ks (outL rs) (Nat.le_of_eq hgd.2.2);have hpf:=ut3 ks (outL rs);rw [hgd.2.2,List.take_length] at hpf;have hl6:=pa6.len;generalize hPP:prt ks (outL rs)=PP at *;simp! [id];dsimp! [u83,uh3,subK,k6,u11];refine ⟨.inr (.inr (.inr (.inl trivial))),?_⟩;rw [if_neg (by decide)];intro p7 h7;refine uh8 pa6 h7 (fun G' g=>by rw [g.kp _ _ k6]) (by rw [hl6,<- List.length_map (f:=List.length),hpl];omega) ?_;rw [hpl];have g7:Grow G6 (gup G6 p7 (.lst ((nI ks).map .int))):=Grow.refl.new h7;have k7:gup G6 p7 (.lst ((nI ks).map .int)) p7=some (.lst ((nI ks).map .int)):=u01;generalize gup G6 p7 (.lst ((nI ks).map .int))=G7 at *;have g57:=g6.trans g7;have k47:=g57.kp _ _ k45;have k57:=g57.kp _ _ k5;have pa7:=pa6.kp g7.kp;have k67:=g7.kp _ _ k6;simp! [id];refine ua2 (ks:=nI ks) (ms:=nI ks) (by rw [k7];rfl) (by rw [k47];rfl) ?_;rw [decide_eq_true rfl];simp! [id];refine ua2 (ks:=nI ks) (ms:=nI ks) (by rw [k57];rfl) (by rw [k47];rfl) ?_;rw [decide_eq_true rfl];simp! [id];subst hu2;generalize hu3:dSeq (dIfS (dB (dOp (xEqB true) (dVar 10) (dVar 6))) _ _) _=u3;dsimp! [id];refine ⟨by decide,fun p8 h8=>?_⟩;have g8:Grow G7 (gup G7 p8 (.lst [])):=Grow.refl.new h8;have k8:gup G7 p8 (.lst []) p8=some (.lst []):=u01;generalize gup G7 p8 (.lst [])=G8 at *;have k68:=g8.kp _ _ k67;dsimp! [k68,u11];have pa8:=pa7.kp g8.kp;have g58:=g57.trans g8;have hd8:depL (outL rs)<=5:=Nat.le_trans (u78 rs) (by omega);generalize hN3:Go (u3 _)=N3;refine u30 (fun r σ G'=>∃ (t:List Addr) (ps qs:List (List Rowp)) (pt:Addr) (v11:Option D),r=t.map .ref /\ PAt G' t qs /\ ps++qs=PP /\ Grow G8 G' /\ G' pt=some (.lst (u08 ps.flatten)) /\ σ=[some (D.ref a),some (D.ref st),v2,v3,v4,some (D.tup [D.int (W:Int),D.tup (List.map D.str bs),D.tup (u08 rs)]),some (D.ref q3),some (D.ref q4),some (D.ref p5),some (D.ref q6),some (D.ref pt),v11,none,none]) ⟨as,[],PP,p8,none,rfl,pa8,rfl,Grow.refl,k8,rfl⟩ ?_ ?_
   ·rintro σ G9 ⟨t,ps,qs,pt,v11,e1,e2,e3,g9,k9,rfl⟩
    cases t with
    | cons x t=>cases e1
    | nil =>
     have e2:qs=[]:=e2;rw [e2,List.append_nil] at e3;subst e3;rw [hpf] at k9;refine ⟨by rw [g9.kp _ _ k68],?_⟩;have g59:=g58.trans g9;have k39:=g59.kp _ _ k35;rw [<- hN3];clear hN3;subst hu3;generalize hu4:dSeq (dFor (v97 (u52 (dC (D.int 3)) dNil)) (u88 2) _) _=u4;dsimp! [id];refine vi1 (O:=outL rs) (by rw [k9];rfl) (by rw [k39];rfl) hd8 ?_;simp! [id];have k69:=g9.kp _ _ k68;obtain ⟨a0,at0,rfl⟩:∃ a0 at0,as=a0::at0:=by
      cases as with
      | nil =>
       have:ks=[]:=by rw [<- hpl,List.length_eq_zero_iff.mp hl6.symm];rfl
       exact absurd this hgd.1
      | cons x y=>exact ⟨x,y,rfl⟩
     obtain ⟨pp0,_,_,k0,_⟩:=pa8;have k09:=g9.kp _ _ k0;dsimp! [k69,u11,k09,List.map_cons,uq3];have a05:G5 a0=none:=fa6 a0 List.mem_cons_self;have g5B:Grow G5 (gup G9 a0 (.lst [])):=g59.own a05;generalize gup G9 a0 (.lst [])=GB at *;have AB:=A5.grow g5B;have k4B:=g5B.kp _ _ k45;have k5B:=g5B.kp _ _ k5;have np5:=a4.at_.ne h5
     subst hu4;generalize hu5:dSeq (dAsg (dTup _) (u88 13)) _=u5;dsimp! [id];refine ⟨⟨by decide,by decide⟩,?_⟩;generalize hN5:Go (u5 _)=N5;refine u30 (fun r σ G'=>∃ (i c:Nat) (v2 v12:Option D),i+c=3 /\ r=rngD (i:Int) c /\ Adv st GB G' /\ σ=[some (D.ref a),some (D.ref st),v2,v3,v4,some (D.tup [D.int (W:Int),D.tup (List.map D.str bs),D.tup (u08 rs)]),some (D.ref q3),some (D.ref q4),some (D.ref p5),some (D.ref q6),some (D.ref pt),v11,v12,none]) ⟨0,3,_,_,by omega,rfl,Adv.refl AB.at_,rfl⟩ ?_ ?_
     ·rintro σ GC ⟨i,c,v2,v12,e1,e2,aC,rfl⟩
      refine ⟨trivial,?_⟩;have k4C:=aC.kp _ _ nq4 k4B;have k5C:=aC.kp _ _ np5 k5B;rw [<- hN5];clear hN5;subst hu5;generalize hu6:dRet (v39 _ _)=u6;dsimp! [id];refine ⟨by decide,by decide,by decide,by decide,fun pE hE=>?_⟩;have nE:=aC.at_.ne hE
      have aE:=aC.new (o:=.lst [D.tup [],D.tup [D.tup [D.str "times",D.int 0,D.tup (u08 rs)]]]) hE;refine u06 aE.at_ (by decide) (by decide) fun x1 GF aF f1 f2=>?_
      have kF:=aF.kp _ _ nE u01;obtain ⟨rs0,hr0,hd0,hw0,hb0,ho0⟩:∃ rs0:List Rowp,atI [D.tup [],D.tup [D.tup [D.str "times",D.int 0,D.tup (u08 rs)]]] x1=some (.tup (u08 rs0)) /\ depL rs0<=6 /\ wtL rs0<=1000 /\ bdL rs0 /\ outL rs0=[]:=by
       have:x1=0 \/ x1=1:=by omega
       rcases this with rfl | rfl
       ·exact ⟨[],rfl,Nat.zero_le _,Nat.zero_le _,trivial,rfl⟩
       ·refine ⟨[Rowp.tim 0 rs],rfl,?_,?_,⟨⟨by omega,hbd,by decide⟩,trivial⟩,rfl⟩
        ·show max (1+depL rs) 0<=6;omega
        ·show 0 * wtL rs+0<=1000;omega
      simp! [kF,u11,hr0];refine ⟨by decide,?_⟩;have AF:=aE.trans aF;have k4F:=AF.kp _ _ nq4 k4B;have k5F:=AF.kp _ _ np5 k5B;dsimp! [id];refine ⟨by decide,fun pG hG=>⟨by decide,fun pH hH=>⟨by decide,fun pI hI=>⟨by decide,fun pJ hJ=>?_⟩⟩⟩⟩;have gG:Grow GF (gup GF pG (.lst [])):=Grow.refl.new hG;have kG:gup GF pG (.lst []) pG=some (.lst []):=u01;generalize gup GF pG (.lst [])=GG at *;have gH:Grow GG (gup GG pH (.lst [.int 0])):=Grow.refl.new hH;have kH:gup GG pH (.lst [.int 0]) pH=some (.lst [.int 0]):=u01;generalize gup GG pH (.lst [.int 0])=GH at *;have gI:Grow GH (gup GH pI (.lst [.int 1])):=Grow.refl.new hI;have kI:gup GH pI (.lst [.int 1]) pI=some (.lst [.int 1]):=u01;generalize gup GH pI (.lst [.int 1])=GI at *;have gJ:Grow GI (gup GI pJ (.lst [.ref pG,.ref pH,.ref pI,.ref q4])):=Grow.refl.new hJ;have kJ:gup GI pJ (.lst [.ref pG,.ref pH,.ref pI,.ref q4]) pJ=some (.lst [.ref pG,.ref pH,.ref pI,.ref q4]):=u01;generalize gup GI pJ (.lst [.ref pG,.ref pH,.ref pI,.ref q4])=GJ at *;have gFJ:=((gG.trans gH).trans gI).trans gJ;have AJ:=AF.grow gFJ;have all4:∀ b ∈ [pG,pH,pI,q4],∃ cs:List Int,GJ b=some (.lst (cs.map .int)) /\ cs.length<=1000 /\ ¬ gdI cs 0:=by
       intro b hb;simp only [List.mem_cons,List.not_mem_nil,or_false] at hb
       rcases hb with rfl | rfl | rfl | rfl
       ·exact ⟨[],((gH.trans gI).trans gJ).kp _ _ kG,by decide,fun z=>z.1 rfl⟩
       ·exact ⟨[0],(gI.trans gJ).kp _ _ kH,by decide,fun z=>by have:=z.2.1 0 (by simp);omega⟩
       ·exact ⟨[1],gJ.kp _ _ kI,by decide,fun z=>by have:=z.2.2;simp at this⟩
       ·refine ⟨nI ks,gFJ.kp _ _ k4F,by unfold nI;rw [List.length_map];omega,fun z=>?_⟩
        have:=z.2.2;rw [um4,hgd.2.2] at this;omega
      simp! [kJ,u11];generalize hN6:Go (u6 _)=N6;refine u30 (fun r σ G'=>∃ (t:List Addr) (v12:Option D),r=t.map .ref /\ (∀ b ∈ t,b ∈ [pG,pH,pI,q4]) /\ Grow GJ G' /\ σ=[some (D.ref a),some (D.ref st),v2,v3,v4,some (D.tup [D.int (W:Int),D.tup (List.map D.str bs),D.tup (u08 rs)]),some (D.ref q3),some (D.ref q4),some (D.ref p5),some (D.ref q6),some (D.ref pt),v11,v12,some (D.tup [D.int (W:Int),D.tup (List.map D.str bs),D.tup (u08 rs0)])]) ⟨[pG,pH,pI,q4],v12,rfl,fun b h=>h,Grow.refl,rfl⟩ ?_ ?_
      ·rintro σ GK ⟨t,v12,e1,e2,gK,rfl⟩
       refine ⟨by rw [gK.kp _ _ kJ],?_⟩;have k4K:=(gFJ.trans gK).kp _ _ k4F;have k5K:=(gFJ.trans gK).kp _ _ k5F;rw [<- hN6];clear hN6;subst hu6;dsimp! [id];refine vw4 T k5K (by omega) (by omega) hbd (by omega) hgd fun qL as2 GL fL faL naL kL paL gL=>?_
       rw [hPP] at paL;simp! [kL,u11];intro pM hM;refine uh8 paL hM (fun G' g=>by rw [g.kp _ _ kL]) (by rw [paL.len,<- List.length_map (f:=List.length),hpl];omega) ?_;rw [hpl];have gM:Grow GL (gup GL pM (.lst ((nI ks).map .int))):=Grow.refl.new hM;have kM:gup GL pM (.lst ((nI ks).map .int)) pM=some (.lst ((nI ks).map .int)):=u01;generalize gup GL pM (.lst ((nI ks).map .int))=GM at *;have k4M:=(gL.trans gM).kp _ _ k4K;simp! [id];refine ua2 (ks:=nI ks) (ms:=nI ks) (by rw [kM];rfl) (by rw [k4M];rfl) ?_;rw [decide_eq_true rfl];simp! [id];have AM:=AJ.grow ((gK.trans gL).trans gM);refine u06 AM.at_ (by decide) (by decide) fun x9 GN aN l1 l2=>?_
       simp! [id];refine uc5 T (.inl ⟨rfl,0,x9,rfl,rfl,by decide,by omega⟩) fun GO gO=>?_
       exact post GO
      ·rintro z r σ GK ⟨t,v12,e1,e2,gK,rfl⟩ ih
       cases t with
       | nil=>cases e1
       | cons b t =>
        cases e1;refine ⟨by rw [gK.kp _ _ kJ],?_⟩;obtain ⟨cs,kb,hcl,hbad⟩:=all4 b (e2 b List.mem_cons_self);have hbad:¬ gdI cs (outL rs0).length:=by rw [ho0];exact hbad
        have BD:∀ {G'},Grow GJ G'->BadS G' (.tup [.int (W:Int),.tup (bs.map .str),.tup (u08 rs0)]) (.ref b):=fun g=>⟨_,_,rs0,b,cs,rfl,rfl,g.kp _ _ kb,hd0,hw0,hb0,hcl,hbad⟩
        simp! [id];refine uc5 T (.inr (.inl ⟨rfl,BD gK⟩)) fun GE gE=>?_
        simp! [id];refine uc5 T (.inr (.inr ⟨rfl,BD (gK.trans gE)⟩)) fun GQ gQ=>?_
        simp! [id];exact ih _ _ ⟨t,_,rfl,fun b h=>e2 b (List.mem_cons_of_mem _ h),(gK.trans gE).trans gQ,rfl⟩
     ·rintro z r σ GC ⟨i,c,v2,v12,e1,e2,aC,rfl⟩ ih
      cases c with
      | zero=>cases e2
      | succ c =>
       rw [u21] at e2;cases e2;refine ⟨trivial,?_⟩;have k4C:=aC.kp _ _ nq4 k4B;simp! [id];refine u36 (post:=fun d G'=>∃ (q:Addr) (cs:List Int),d=.ref q /\ ¬ gdI cs (outL rs).length /\ cs.length<=200 /\ G' q=some (.lst (cs.map .int)) /\ Adv st GC G') (fun R h=>⟨st,q4,ks,(outL rs).length,rfl,aC.at_,nq4,k4C,hgd,hkl,fun q cs G' e1 e2 e3 e4 e5=>h _ _ ⟨q,cs,rfl,e1,e2,e4,e5⟩⟩) ?_;rintro d GD ⟨qw,cs,rfl,hbad,hcl,kD,aD⟩;simp! [id];have BD:BadS GD (.tup [.int (W:Int),.tup (bs.map .str),.tup (u08 rs)]) (.ref qw):=⟨_,_,rs,qw,cs,rfl,rfl,kD,by omega,by omega,hbd,by omega,hbad⟩;dsimp! [id];refine uc5 T (.inr (.inl ⟨rfl,BD⟩)) fun GE gE=>?_
       have BE:BadS GE (.tup [.int (W:Int),.tup (bs.map .str),.tup (u08 rs)]) (.ref qw):=⟨_,_,rs,qw,cs,rfl,rfl,gE.kp _ _ kD,by omega,by omega,hbd,by omega,hbad⟩;simp! [id];refine uc5 T (.inr (.inr ⟨rfl,BE⟩)) fun GF gF=>?_
       simp! [id];exact ih _ _ ⟨i+1,c,_,_,by omega,by congr 1,(aC.trans aD).grow (gE.trans gF),rfl⟩
   ·rintro x r σ G9 ⟨t,ps,qs,pt,v11,e1,e2,e3,g9,k9,rfl⟩ ih
    cases t with
    | nil=>cases e1
    | cons b t =>
     cases e1;obtain ⟨p1,qs,rfl,k1,e2⟩:=e2;refine ⟨by rw [g9.kp _ _ k68],?_⟩;have hsub:subK "list" "list" = true:=by decide
     simp! [u83,uh3,hsub,k1,u11];refine ⟨.inr (.inr (.inr (.inl trivial))),?_⟩;dsimp! [id];have hle:ps.flatten.length+p1.length<=(outL rs).length:=by rw [<- hpf,<- e3];simp
     refine add_l k9 k1 (by rw [u14,u14];omega) fun p10 h10=>?_
     have g10:Grow G9 (gup G9 p10 (.lst (u08 ps.flatten++u08 p1))):=Grow.refl.new h10;exact ih _ _ ⟨t,ps++[p1],qs,p10,_,rfl,e2.kp g10.kp,by rw [<- e3];simp,g9.trans g10,by rw [u01,<- u51];simp,rfl⟩
  dsimp! [id];refine ⟨⟨by decide,by decide⟩,?_⟩;generalize hN:Go (u _)=N at rest ⊢;refine u30 (fun r σ G'=>∃ (i c:Nat) (v2 v3 v4:Option D),i+c=6 /\ r=rngD (i:Int) c /\ StAt G' st /\ σ=[some (.ref a),some (.ref st),v2,v3,v4,none,none,none,none,none,none,none,none,none]) ⟨0,6,none,none,none,by omega,rfl,S0,rfl⟩ ?_ ?_
  ·rintro σ G1 ⟨i,c,v2,v3,v4,e1,e2,S1,rfl⟩
   exact ⟨trivial,rest v2 v3 v4 G1 S1⟩
  ·rintro z r σ G1 ⟨i,c,v2,v3,v4,e1,e2,S1,rfl⟩ ih
   cases c with
   | zero=>cases e2
   | succ c =>
    rw [u21] at e2;cases e2;refine ⟨trivial,?_⟩;generalize hFL:forL _ _ _ _ (rngD _ c)=FL at ih ⊢;simp! [id];refine u06 S1 (by decide) (by decide) fun x1 G2 a2 b1 b2=>?_
    obtain ⟨m,rfl⟩:=u34 b1;simp! [id];dsimp! [id];refine u06 a2.at_ (by decide) (by decide) fun x2 G3 a3 b3 b4=>?_
    simp! [id];refine u06 a3.at_ (by decide) (by decide) fun x3 G4 a4 b5 b6=>?_
    simp! [id];refine u06 a4.at_ (by omega) (by omega) fun x4 G5 a5 b7 b8=>?_
    simp! [id];refine ⟨by decide,fun p hp=>?_⟩;simp! [u01,u11];refine u30 (fun r σ G'=>∃ (t:List Int) (v4:Option D),r=t.map .int /\ Grow (gup G5 p (.lst [.int (x2 - 3),.int ((m:Int)+x3 - 1),.int x4])) G' /\ σ=[some (.ref a),some (.ref st),some (.int (i:Int)),some (.int (m:Int)),v4,none,none,none,none,none,none,none,none,none]) ⟨[x2 - 3,(m:Int)+x3 - 1,x4],v4,rfl,Grow.refl,rfl⟩ ?_ ?_
    ·rintro σ G6 ⟨t,v4,e1,g6,rfl⟩
     have k6:=g6.kp _ _ u01;refine ⟨by rw [k6],?_⟩;exact ih _ _ ⟨i+1,c,_,_,_,by omega,by congr 1,(a5.at_.new hp).grow g6,rfl⟩
    ·rintro z r σ G6 ⟨t,v4,e1,g6,rfl⟩ ih2
     cases t with
     | nil=>cases e1
     | cons y t =>
      cases e1;have k6:=g6.kp _ _ u01;refine ⟨by rw [k6],?_⟩;simp! [id];refine u36 (post:=fun d G'=>d=.bl true /\ Grow G6 G') (fun R h=>⟨m,y,rfl,by omega,fun G' z=>h _ _ ⟨rfl,z⟩⟩) ?_;rintro d G7 ⟨rfl,g7⟩;simp! [id];exact ih2 _ _ ⟨t,_,rfl,g6.trans g7,rfl⟩
end
end Law
namespace Law
open PySem PySem.Spec PyProof.Rows L2 L3
def noL:W.Frag->Bool
 | []=>true
 | p::r=>(match p.2.data with | .seq _ _=>(match p.2.cls with | .type s=>!(s == "list") | _=>true) | _=>true) && noL r
theorem v71:∀ {K:W.Frag} {a:Addr} {o:Obj} {its:Array Value} {n:Nat},noL K=true->K.lookup a=some o->o.cls=.type "list" -> o.data=.seq its n->False
 | [],a,o,its,n,_,e,_,_=>by cases e
 | p::r,a,o,its,n,h,e,h1,h2=>by
  unfold noL at h;rw [Bool.and_eq_true] at h;rw [List.lookup_cons] at e;split at e
  ·cases e
   have q:=h.1;rw [h2] at q;simp only [h1] at q;exact absurd q (by decide)
  ·exact v71 h.2 e h1 h2
theorem arZ {P:List Value->Prop} (h:P []):∀ us:List Value,us.length=0->P us:=fun us e=>by rw [List.eq_nil_of_length_eq_zero e];exact h
theorem arS {n:Nat} {P:List Value->Prop} (h:∀ (a:Value) (us:List Value),us.length=n->P (a::us)):∀ us:List Value,us.length=n+1->P us:=fun us e=>by
 cases us with
 | nil=>cases e
 | cons a us=>exact h a us (Nat.succ.inj e)
theorem ar1 {P:List Value->Prop} (h:∀ a0,P [a0]):∀ us:List Value,us.length=1->P us:=arS fun a0=>arZ (h a0)
theorem ar2 {P:List Value->Prop} (h:∀ a0 a1,P [a0,a1]):∀ us:List Value,us.length=2->P us:=arS fun a0=>arS fun a1=>arZ (h a0 a1)
theorem ar3 {P:List Value->Prop} (h:∀ a0 a1 a2,P [a0,a1,a2]):∀ us:List Value,us.length=3->P us:=arS fun a0=>arS fun a1=>arS fun a2=>arZ (h a0 a1 a2)
theorem ar4 {P:List Value->Prop} (h:∀ a0 a1 a2 a3,P [a0,a1,a2,a3]):∀ us:List Value,us.length=4->P us:=arS fun a0=>arS fun a1=>arS fun a2=>arS fun a3=>arZ (h a0 a1 a2 a3)
theorem ar5 {P:List Value->Prop} (h:∀ a0 a1 a2 a3 a4,P [a0,a1,a2,a3,a4]):∀ us:List Value,us.length=5->P us:=arS fun a0=>arS fun a1=>arS fun a2=>arS fun a3=>arS fun a4=>arZ (h a0 a1 a2 a3 a4)
theorem ar6 {P:List Value->Prop} (h:∀ a0 a1 a2 a3 a4 a5,P [a0,a1,a2,a3,a4,a5]):∀ us:List Value,us.length=6->P us:=arS fun a0=>arS fun a1=>arS fun a2=>arS fun a3=>arS fun a4=>arS fun a5=>arZ (h a0 a1 a2 a3 a4 a5)
def uw0 {K:W.Frag} {x qual:Str} {st:Stmt} {ps:List Str} {f:Addr} {oc:Value} {od an:Option Addr} {osl:Array (Option Value)} {kV doc pm cdv ct:Value} (l:K.lookup f=some ⟨oc,od,.func (W.fnOf x qual (u33 st) (u26 st) (u05 st) .none kV doc pm an cdv ct),osl⟩)
  (c:W.codeIn K cdv qual=true) (k:W.keepIn K (.ref f)=true) (hb:∀ us:List Value,us.length=ps.length->bindArgs (W.fnOf x qual (u33 st) (u26 st) (u05 st) .none kV doc pm an cdv ct) ⟨us,[]⟩=pure (ps.zip us)):FnAt K x qual st ps :=
 ⟨f,_,⟨oc,od,.none,kV,doc,pm,an,cdv,ct,osl,rfl,l,c⟩,k,.all hb⟩
def DF (K:W.Frag) (x:Str) (st:Stmt):Prop:=∃ (p:Addr) (oc:Value) (od an:Option Addr) (sl:Array (Option Value)) (kV dc pm cd ct:Value),W.nsIn K mainGlobals x=some (some (.ref p)) /\ K.lookup p=some ⟨oc,od,.func (W.fnOf x x (u33 st) (u26 st) (u05 st) .none kV dc pm an cd ct),sl⟩ /\ W.codeIn K cd x=true /\ W.keepIn K (.ref p)=true
def DM (K:W.Frag) (C:Addr) (x q:Str) (st:Stmt):Prop:=∃ (p:Addr) (oc:Value) (od an:Option Addr) (sl:Array (Option Value)) (kV dc pm cd ct:Value),W.findIn K (.ref C) x=some (some (.ref p)) /\ W.isFn K (.ref p)=true /\ K.lookup p=some ⟨oc,od,.func (W.fnOf x q (u33 st) (u26 st) (u05 st) .none kV dc pm an cd ct),sl⟩ /\ W.codeIn K cd q=true /\ W.keepIn K (.ref p)=true
section
variable {K:W.Frag} {h:Heap} {mg:Str->Option Value} {C:Addr} {x q:Str} {st:Stmt} {ps:List Str}
theorem df_m {p:Addr} {oc:Value} {od an:Option Addr} {sl:Array (Option Value)} {kV dc pm cd ct:Value} (a:W.nsIn K mainGlobals x=some (some (.ref p))) (l:K.lookup p=some ⟨oc,od,.func (W.fnOf x x (u33 st) (u26 st) (u05 st) .none kV dc pm an cd ct),sl⟩) (c:W.codeIn K cd x=true) (k:W.keepIn K (.ref p)=true):DF K x st:=⟨p,oc,od,an,sl,kV,dc,pm,cd,ct,a,l,c,k⟩
theorem dm_m {p:Addr} {oc:Value} {od an:Option Addr} {sl:Array (Option Value)} {kV dc pm cd ct:Value} (a:W.findIn K (.ref C) x=some (some (.ref p))) (i:W.isFn K (.ref p)=true) (l:K.lookup p=some ⟨oc,od,.func (W.fnOf x q (u33 st) (u26 st) (u05 st) .none kV dc pm an cd ct),sl⟩) (c:W.codeIn K cd q=true) (k:W.keepIn K (.ref p)=true):DM K C x q st:=⟨p,oc,od,an,sl,kV,dc,pm,cd,ct,a,i,l,c,k⟩
theorem df_f {N:List Str} (_:FnScope N ps (u05 st)) (X:K.In h) (G:h.Ns mainGlobals mg) (hb:∀ kV dc pm an cd ct,∀ us:List Value,us.length=ps.length->bindArgs (W.fnOf x x (u33 st) (u26 st) (u05 st) .none kV dc pm an cd ct) ⟨us,[]⟩=pure (ps.zip us)) (d:DF K x st) :
  ∃ f:FnAt K x x st ps,mg x=some (.ref f.a) /\ ∀ (s:Shared) (us:List Value),us.length=ps.length->BindsTo s f.fd ⟨us,[]⟩ (ps.zip us):=by
 obtain ⟨p,oc,od,an,sl,kV,dc,pm,cd,ct,a,l,c,k⟩:=d;exact ⟨uw0 l c k (hb kV dc pm an cd ct),W.mg_of X G a,fun s us e=>.of_eq (hb kV dc pm an cd ct us e)⟩
theorem dm_f {N:List Str} (_:FnScope N ps (u05 st)) (hb:∀ kV dc pm an cd ct,∀ us:List Value,us.length=ps.length->bindArgs (W.fnOf x q (u33 st) (u26 st) (u05 st) .none kV dc pm an cd ct) ⟨us,[]⟩=pure (ps.zip us)) (d:DM K C x q st) :
  ∃ f:FnAt K x q st ps,W.findIn K (.ref C) x=some (some (.ref f.a)) /\ W.isFn K (.ref f.a)=true:=by
 obtain ⟨p,oc,od,an,sl,kV,dc,pm,cd,ct,a,i,l,c,k⟩:=d;exact ⟨uw0 l c k (hb kV dc pm an cd ct),a,i⟩
end
def v64:Sp3:=fun ds G R=>∃ (a:Addr) (ns:List Int),ds=[.ref a] /\ G a=some (.fro (ns.map .int)) /\ ns.length<=63 /\ ∀ G',R (.bl true) G'
theorem ul7 {K:W.Frag} {H:Hp}:∀ ns:List Int,RelDs K H (ns.map D.int) (ns.map V.int)
 | []=>.nil
 | _::ns=>.cons RelD.intI (ul7 ns)
theorem vt2 {K:W.Frag} {H:Hp} {a:Addr} {ns:List Int} (hL:noL K=true) (hl:ns.length<=63) (hO:Only H) (hS:SqL K H a (ns.map V.int)):uh2 K v64 [.ref a] H (fun v _=>v=.bl true) fun _ _ _=>False:=by
 have ha:∃ o,H a=some (.frz o (.lst (ns.map V.int))):=by
  rcases hS with (h | h) | ⟨o,its,n,h1,h2,_,h3,_⟩
  ·rcases hO a with z | ⟨o,xs,z⟩
   ·rw [h] at z;cases z
   ·rw [h] at z;cases z
  ·exact h
  ·exact (v71 hL h1 h2 h3).elim
 obtain ⟨o,ha⟩:=ha;refine ⟨[.ref a],gup (fun _=>none) a (.fro (ns.map .int)),fun d _=>d=.bl true,.cons ?_ .nil,fun b u e=>?_,⟨a,ns,rfl,u01,hl,fun _=>rfl⟩,fun d G' v H' r _ _ e=>?_⟩
 ·rw [RelD]
 ·by_cases hb:b=a
  ·subst hb
   rw [u01] at e;cases e;exact ⟨o,_,ha,ul7 ns⟩
  ·rw [u09 hb] at e;cases e
 ·subst e
  rw [RelD] at r;exact r
end Law
namespace Law
open PySem PySem.Spec PyProof.Rows L2 L3 Rw
theorem txt_mk {K:W.Frag} {h:Heap} {mg:Str->Option Value} (X:K.In h) (G:h.Ns mainGlobals mg) {C_Loom:Addr} {C_LitterError:Addr} {C_BadCuts:Addr} {C_NoRow:Addr} {C_NoBox:Addr} {C_BadText:Addr} {C_BadCode:Addr} {C_BadPlan:Addr} 
  (aC_Loom:W.nsIn K mainGlobals "Loom" = some (some (.ref C_Loom)))
  (aC_LitterError:W.nsIn K mainGlobals "LitterError" = some (some (.ref C_LitterError)))
  (aC_BadCuts:W.nsIn K mainGlobals "BadCuts" = some (some (.ref C_BadCuts)))
  (aC_NoRow:W.nsIn K mainGlobals "NoRow" = some (some (.ref C_NoRow)))
  (aC_NoBox:W.nsIn K mainGlobals "NoBox" = some (some (.ref C_NoBox)))
  (aC_BadText:W.nsIn K mainGlobals "BadText" = some (some (.ref C_BadText)))
  (aC_BadCode:W.nsIn K mainGlobals "BadCode" = some (some (.ref C_BadCode)))
  (aC_BadPlan:W.nsIn K mainGlobals "BadPlan" = some (some (.ref C_BadPlan)))
  (pm_0:DM K C_BadCuts "__init__" "BadCuts.__init__" u49)
  (pm_18:DF K "pieces" va8)
  (pm_20:DF K "unrolled" va6)
  (pm_21:DF K "unrolled_row" va5)
  (pm_2:DF K "even" vc1)
  (pm_19:DF K "stretches" va7)
  (pm_1:DF K "costs" vc2)
  (pm_6:DF K "_law_draw" vb8)
  (pm_9:DF K "_law_names" us6)
  (pm_10:DF K "_law_number" vb6)
  (pm_4:DF K "_law_atom" vc0)
  (pm_8:DF K "_law_heavy" vb7)
  (pm_13:DF K "_law_row" vb3)
  (pm_14:DF K "_law_rows" vb2)
  (pm_16:DF K "_law_unrolled" vb0)
  (pm_11:DF K "_law_program" vb5)
  (pm_5:DF K "_law_cuts" vb9)
  (pm_12:DF K "_law_refused" vb4)
  (pm_17:DF K "_law_whole" va9)
  (pm_7:DF K "_law_even" uz3)
  (pm_15:DF K "_law_spoilt" vb1)
  (pm_3:DF K "law" us5)
  (pg_Loom:W.plainGet K C_Loom Str.empty=true)
  (hd_Loom:W.hasDictIn K C_Loom=true)
  (po_Loom:W.plainOver K C_Loom=true)
  (sa_Loom:W.findIn K (.ref C_Loom) "__setattr__" = some (some (.builtin "object.__setattr__")))
  (mk_Loom:W.makesIn K C_Loom=true)
  (kc_Loom:W.keepIn K (.ref C_Loom)=true)
  (n_Loom_wide:W.findIn K (.ref C_Loom) "wide" = some none)
  (n_Loom_fresh:W.findIn K (.ref C_Loom) "fresh" = some none)
  (n_Loom_rows:W.findIn K (.ref C_Loom) "rows" = some none)
  (n_Loom_steps:W.findIn K (.ref C_Loom) "steps" = some none)
  (xc_LitterError:xcIn K C_LitterError VM=true)
  (xs_LitterError:W.specialIn K (.ref C_LitterError) "__getattribute__" = some (some (.builtin "type.__getattribute__")))
  (xr_LitterError:W.readsIn K C_LitterError (.type "type")=true)
  (xf_LitterError:W.findCls K (.ref C_LitterError) (.type "type") "__init__" = some (.val (.builtin "ValueError.__init__")))
  (xc_BadCuts:xcIn K C_BadCuts (.ref C_LitterError::VM)=true)
  (xg_BadCuts:W.findIn K (.ref C_BadCuts) "__getattribute__" = some (some (.builtin "BaseException.__getattribute__")))
  (xt_BadCuts:W.findIn K (.ref C_BadCuts) "__getattr__" = some none)
  (xk_BadCuts:W.findIn K (.ref C_BadCuts) "__class__" = some (some (.builtin "object.__class__")))
  (zn_BadCuts:C_BadCuts ≠ C_LitterError)
  (xc_NoRow:xcIn K C_NoRow (.ref C_LitterError::VM)=true)
  (xg_NoRow:W.findIn K (.ref C_NoRow) "__getattribute__" = some (some (.builtin "BaseException.__getattribute__")))
  (xt_NoRow:W.findIn K (.ref C_NoRow) "__getattr__" = some none)
  (xk_NoRow:W.findIn K (.ref C_NoRow) "__class__" = some (some (.builtin "object.__class__")))
  (zn_NoRow:C_NoRow ≠ C_LitterError)
  (xc_NoBox:xcIn K C_NoBox (.ref C_LitterError::VM)=true)
  (xg_NoBox:W.findIn K (.ref C_NoBox) "__getattribute__" = some (some (.builtin "BaseException.__getattribute__")))
  (xt_NoBox:W.findIn K (.ref C_NoBox) "__getattr__" = some none)
  (xk_NoBox:W.findIn K (.ref C_NoBox) "__class__" = some (some (.builtin "object.__class__")))
  (zn_NoBox:C_NoBox ≠ C_LitterError)
  (xc_BadText:xcIn K C_BadText (.ref C_LitterError::VM)=true)
  (xg_BadText:W.findIn K (.ref C_BadText) "__getattribute__" = some (some (.builtin "BaseException.__getattribute__")))
  (xt_BadText:W.findIn K (.ref C_BadText) "__getattr__" = some none)
  (xk_BadText:W.findIn K (.ref C_BadText) "__class__" = some (some (.builtin "object.__class__")))
  (zn_BadText:C_BadText ≠ C_LitterError)
  (xc_BadCode:xcIn K C_BadCode (.ref C_LitterError::VM)=true)
  (xg_BadCode:W.findIn K (.ref C_BadCode) "__getattribute__" = some (some (.builtin "BaseException.__getattribute__")))
  (xt_BadCode:W.findIn K (.ref C_BadCode) "__getattr__" = some none)
  (xk_BadCode:W.findIn K (.ref C_BadCode) "__class__" = some (some (.builtin "object.__class__")))
  (zn_BadCode:C_BadCode ≠ C_LitterError)
  (xc_BadPlan:xcIn K C_BadPlan (.ref C_LitterError::VM)=true)
  (xg_BadPlan:W.findIn K (.ref C_BadPlan) "__getattribute__" = some (some (.builtin "BaseException.__getattribute__")))
  (xt_BadPlan:W.findIn K (.ref C_BadPlan) "__getattr__" = some none)
  (xk_BadPlan:W.findIn K (.ref C_BadPlan) "__class__" = some (some (.builtin "object.__class__")))
  (zn_BadPlan:C_BadPlan ≠ C_LitterError)
  (kc_BadCuts:W.keepIn K (.ref C_BadCuts)=true)
  (zn_BadCuts_NoRow:C_NoRow ≠ C_BadCuts)
  (zn_BadCuts_NoBox:C_NoBox ≠ C_BadCuts)
  (zn_BadCuts_BadText:C_BadText ≠ C_BadCuts)
  (zn_BadCuts_BadCode:C_BadCode ≠ C_BadCuts)
  (zn_BadCuts_BadPlan:C_BadPlan ≠ C_BadCuts)
  (b_ValueError:W.nsIn K mainGlobals "ValueError" = some none)
  (b_abs:W.nsIn K mainGlobals "abs" = some none)
  (b_all:W.nsIn K mainGlobals "all" = some none)
  (b_bool:W.nsIn K mainGlobals "bool" = some none)
  (b_divmod:W.nsIn K mainGlobals "divmod" = some none)
  (b_int:W.nsIn K mainGlobals "int" = some none)
  (b_isinstance:W.nsIn K mainGlobals "isinstance" = some none)
  (b_len:W.nsIn K mainGlobals "len" = some none)
  (b_list:W.nsIn K mainGlobals "list" = some none)
  (b_max:W.nsIn K mainGlobals "max" = some none)
  (b_min:W.nsIn K mainGlobals "min" = some none)
  (b_range:W.nsIn K mainGlobals "range" = some none)
  (b_sorted:W.nsIn K mainGlobals "sorted" = some none)
  (b_sum:W.nsIn K mainGlobals "sum" = some none)
  (b_tuple:W.nsIn K mainGlobals "tuple" = some none) :
  ∃ T:Txt K mg,∀ (s:Shared) (v:Value),BindsTo s T.f_law.fd ⟨[v],[]⟩ [("_law_script",v)]:=by
 obtain ⟨f_BadCuts_init,a_0,i_0⟩:=dm_f u57 (fun _ _ _ _ _ _=>ar1 fun _=>rfl) pm_0;obtain ⟨f_jav,g_pieces,_⟩:=df_f v66 X G (fun _ _ _ _ _ _=>ar1 fun _=>rfl) pm_18;obtain ⟨f_jax,g_unrolled,_⟩:=df_f sc_jax X G (fun _ _ _ _ _ _=>ar1 fun _=>rfl) pm_20;obtain ⟨f_jaz,g_unrolled_row,_⟩:=df_f v65 X G (fun _ _ _ _ _ _=>ar1 fun _=>rfl) pm_21;obtain ⟨f_jab,g_even,_⟩:=df_f sc_jab X G (fun _ _ _ _ _ _=>ar2 fun _ _=>rfl) pm_2;obtain ⟨f_jaw,g_stretches,_⟩:=df_f sc_jaw X G (fun _ _ _ _ _ _=>ar2 fun _ _=>rfl) pm_19;obtain ⟨f_jaa,g_costs,_⟩:=df_f v69 X G (fun _ _ _ _ _ _=>ar2 fun _ _=>rfl) pm_1;obtain ⟨f_jaf,g_law_draw,_⟩:=df_f sc_jaf X G (fun _ _ _ _ _ _=>ar2 fun _ _=>rfl) pm_6;obtain ⟨f_jaj,g_law_names,_⟩:=df_f sc_jaj X G (fun _ _ _ _ _ _=>ar2 fun _ _=>rfl) pm_9;obtain ⟨f_jak,g_law_number,_⟩:=df_f sc_jak X G (fun _ _ _ _ _ _=>ar2 fun _ _=>rfl) pm_10;obtain ⟨f_jad,g_law_atom,_⟩:=df_f v68 X G (fun _ _ _ _ _ _=>ar3 fun _ _ _=>rfl) pm_4;obtain ⟨f_jah,g_law_heavy,_⟩:=df_f sc_jah X G (fun _ _ _ _ _ _=>ar1 fun _=>rfl) pm_8;obtain ⟨f_jan,g_law_row,_⟩:=df_f sc_jan X G (fun _ _ _ _ _ _=>ar6 fun _ _ _ _ _ _=>rfl) pm_13;obtain ⟨f_jap,g_law_rows,_⟩:=df_f sc_jap X G (fun _ _ _ _ _ _=>ar6 fun _ _ _ _ _ _=>rfl) pm_14;obtain ⟨f_jas,g_law_unrolled,_⟩:=df_f sc_jas X G (fun _ _ _ _ _ _=>ar1 fun _=>rfl) pm_16;obtain ⟨f_jal,g_law_program,_⟩:=df_f sc_jal X G (fun _ _ _ _ _ _=>ar1 fun _=>rfl) pm_11;obtain ⟨f_jae,g_law_cuts,_⟩:=df_f sc_jae X G (fun _ _ _ _ _ _=>ar3 fun _ _ _=>rfl) pm_5;obtain ⟨f_jam,g_law_refused,_⟩:=df_f sc_jam X G (fun _ _ _ _ _ _=>ar3 fun _ _ _=>rfl) pm_12;obtain ⟨f_jau,g_law_whole,_⟩:=df_f v67 X G (fun _ _ _ _ _ _=>ar1 fun _=>rfl) pm_17;obtain ⟨f_jag,g_law_even,_⟩:=df_f sc_jag X G (fun _ _ _ _ _ _=>ar2 fun _ _=>rfl) pm_7;obtain ⟨f_jar,g_law_spoilt,_⟩:=df_f sc_jar X G (fun _ _ _ _ _ _=>ar2 fun _ _=>rfl) pm_15;obtain ⟨f_law,g_law,b_law⟩:=df_f sc_law X G (fun _ _ _ _ _ _=>ar1 fun _=>rfl) pm_3;exact ⟨⟨f_BadCuts_init,f_jav,g_pieces,f_jax,g_unrolled,f_jaz,g_unrolled_row,f_jab,g_even,f_jaw,g_stretches,f_jaa,g_costs,f_jaf,g_law_draw,f_jaj,g_law_names,f_jak,g_law_number,f_jad,g_law_atom,f_jah,g_law_heavy,f_jan,g_law_row,f_jap,g_law_rows,f_jas,g_law_unrolled,f_jal,g_law_program,f_jae,g_law_cuts,f_jam,g_law_refused,f_jau,g_law_whole,f_jag,g_law_even,f_jar,g_law_spoilt,f_law,g_law,⟨C_Loom,⟨pg_Loom,hd_Loom,po_Loom,sa_Loom⟩,W.mg_of X G aC_Loom,n_Loom_wide,n_Loom_fresh,n_Loom_rows,n_Loom_steps⟩,⟨C_LitterError,W.mg_of X G aC_LitterError,xc_LitterError,⟨xs_LitterError,xr_LitterError,xf_LitterError⟩⟩,⟨C_BadCuts,W.mg_of X G aC_BadCuts,xc_BadCuts,⟨xg_BadCuts,xt_BadCuts,xk_BadCuts⟩,zn_BadCuts⟩,⟨C_NoRow,W.mg_of X G aC_NoRow,xc_NoRow,⟨xg_NoRow,xt_NoRow,xk_NoRow⟩,zn_NoRow⟩,⟨C_NoBox,W.mg_of X G aC_NoBox,xc_NoBox,⟨xg_NoBox,xt_NoBox,xk_NoBox⟩,zn_NoBox⟩,⟨C_BadText,W.mg_of X G aC_BadText,xc_BadText,⟨xg_BadText,xt_BadText,xk_BadText⟩,zn_BadText⟩,⟨C_BadCode,W.mg_of X G aC_BadCode,xc_BadCode,⟨xg_BadCode,xt_BadCode,xk_BadCode⟩,zn_BadCode⟩,⟨C_BadPlan,W.mg_of X G aC_BadPlan,xc_BadPlan,⟨xg_BadPlan,xt_BadPlan,xk_BadPlan⟩,zn_BadPlan⟩,⟨xc_BadCuts,a_0,i_0,kc_BadCuts⟩,zn_BadCuts_NoRow,zn_BadCuts_NoBox,zn_BadCuts_BadText,zn_BadCuts_BadCode,zn_BadCuts_BadPlan,W.mg_none_of X G b_ValueError,W.mg_none_of X G b_abs,W.mg_none_of X G b_all,W.mg_none_of X G b_bool,W.mg_none_of X G b_divmod,W.mg_none_of X G b_int,W.mg_none_of X G b_isinstance,W.mg_none_of X G b_len,W.mg_none_of X G b_list,W.mg_none_of X G b_max,W.mg_none_of X G b_min,W.mg_none_of X G b_range,W.mg_none_of X G b_sorted,W.mg_none_of X G b_sum,W.mg_none_of X G b_tuple⟩,fun s v=>b_law s [v] rfl⟩
theorem vw6 {P:Program} {w:World} {K:W.Frag} {mg:Str->Option Value} {base:Heap} (T:Txt K mg):Ok P w mg base 26 T.f_law (vi6 T):=by
 have H_jab:OkX P w mg base 3 T.f_jab (ui8 T):=vr7 T (n:=0);have R_jax:∀ dp,Ok P w mg base (0+2 * dp) T.f_jax (uq5 T dp):=by
  intro dp
  induction dp with
  | zero=>exact vx3 T
  | succ dp ih=>exact FnOk.mono (vq0 T (n:=0+2 * dp+1) (dp:=dp) (vp9 T (n:=0+2 * dp) (dp:=dp) ih)) (by omega)
 have H_jax:Ok P w mg base 16 T.f_jax (vw8 T):=R_jax 8;have H_jav:Ok P w mg base 17 T.f_jav (v48 T):=vq2 T (n:=16) (FnOk.mono H_jax (by decide));have H_jaw:OkX P w mg base 18 T.f_jaw (uf9 T):=vq1 T (n:=15) (FnOk.mono H_jav (by decide));have H_jaa:OkX P w mg base 19 T.f_jaa (uk9 T):=vr8 T (n:=18) (FnOk.mono H_jaw (by decide));have H_jaf:Ok P w mg base 1 T.f_jaf (u96 T):=vr4 T (n:=0);have R_jas:∀ dp,Ok P w mg base (0+dp) T.f_jas (uq6 T dp):=by
  intro dp
  induction dp with
  | zero=>exact vx4 T
  | succ dp ih=>exact vq4 T (n:=0+dp) (dp:=dp) ih
 have H_jas:Ok P w mg base 8 T.f_jas (vi9 T):=R_jas 8;have H_jaj:Ok P w mg base 2 T.f_jaj (vj1 T):=vr1 T (n:=1) (FnOk.mono H_jaf (by decide));have R_jah:∀ dp,Ok P w mg base (0+dp) T.f_jah (uy0 T dp):=by
  intro dp
  induction dp with
  | zero=>exact vx6 T
  | succ dp ih=>exact vr2 T (n:=0+dp) (dp:=dp) ih
 have H_jah:Ok P w mg base 8 T.f_jah (vx1 T):=R_jah 8;have H_jak:Ok P w mg base 2 T.f_jak (v50 T):=vr0 T (n:=1) (FnOk.mono H_jaf (by decide));have H_jad:Ok P w mg base 3 T.f_jad (v51 T):=vr6 T (n:=2) (FnOk.mono H_jaf (by decide)) (FnOk.mono H_jak (by decide));have R_jap:∀ dp,Ok P w mg base (8+2 * dp) T.f_jap (uq7 T dp):=by
  intro dp
  induction dp with
  | zero=>exact vx5 T
  | succ dp ih=>exact FnOk.mono (vq6 T (n:=8+2 * dp+1) (dp:=dp) (FnOk.mono H_jaf (by omega)) (FnOk.mono H_jah (by omega)) (vq7 T (n:=8+2 * dp) (dp:=dp) (FnOk.mono H_jaf (by omega)) (FnOk.mono H_jad (by omega)) ih)) (by omega)
 have H_jap:Ok P w mg base 24 T.f_jap (vw9 T):=R_jap 8;have H_jal:Ok P w mg base 25 T.f_jal (v49 T):=vq9 T (n:=24) (FnOk.mono H_jaf (by decide)) (FnOk.mono H_jaj (by decide)) (FnOk.mono H_jap (by decide)) (FnOk.mono H_jas (by decide));have H_jae:Ok P w mg base 2 T.f_jae (vj3 T):=vr5 T (n:=1) (FnOk.mono H_jaf (by decide));have H_jam:Ok P w mg base 20 T.f_jam (ux9 T):=vq8 T (n:=19) (FnOk.mono H_jab (by decide)) (FnOk.mono H_jaw (by decide)) (FnOk.mono H_jaa (by decide));have H_jau:Ok P w mg base 1 T.f_jau (vi8 T):=vq3 T (n:=0);have H_jag:Ok P w mg base 21 T.f_jag (vj2 T):=vr3 T (n:=20) (FnOk.mono H_jab (by decide)) (FnOk.mono H_jam (by decide)) (FnOk.mono H_jau (by decide));have H_jar:Ok P w mg base 2 T.f_jar (vj0 T):=vq5 T (n:=1) (FnOk.mono H_jaf (by decide));have H_law:Ok P w mg base 26 T.f_law (vi6 T):=vp8 T (n:=25) (FnOk.mono H_jab (by decide)) (FnOk.mono H_jaw (by decide)) (FnOk.mono H_jaa (by decide)) (FnOk.mono H_jaf (by decide)) (FnOk.mono H_jas (by decide)) (FnOk.mono H_jal (by decide)) (FnOk.mono H_jae (by decide)) (FnOk.mono H_jam (by decide)) (FnOk.mono H_jag (by decide)) (FnOk.mono H_jar (by decide));exact H_law
theorem walk {l:W.OpenLaw} {q:Program} {loose:List Str} {XP:(Str->Option Value)->Heap->Prop} {YP:World->Heap->Prop} {d:DefRec} {K:Params->W.Frag} (hn:l.most=some 63) (hdf:d.params.defaults=[])
  (hY:∀ (w:World) (h:Heap),YP w h->(K w.params).In h) (hL:∀ w:World,noL (K w.params)=true)
  (F:∀ (w:World) (mg:Str->Option Value) (fa:Addr) (h:Heap),(K w.params).In h->h.Ns mainGlobals mg->mg d.name=some (.ref fa)->∃ T:Txt (K w.params) mg,∀ (s:Shared) (v:Value),BindsTo s T.f_law.fd ⟨[v],[]⟩ [("_law_script",v)]) (hdn:d.name = "law" := by rfl) :
  W.WalkO q loose XP YP l.row.toRowW d [] (fun f vs=>PySem.call f vs):=by
 refine L2.walk_of (n:=63) (k:=26) (x := "_law_script") (CX:=fun _=>CX0) (sp:=fun w=>uh2 (K w.params) v64) hn (by decide) hdf ⟨rfl,by decide,by decide⟩ hY (fun w mg fa h hK hN hm=>?_) (fun w H a ns hl hO hS=>vt2 (hL w) hl hO hS) fun _ _ _ _ _ z=>z
 obtain ⟨T,hb⟩:=F w mg fa h hK hN hm;rw [hdn] at hm;have e:=hm.symm.trans T.g_law;cases e;exact ⟨T.f_law.fd,hb,fun base _ _=>vw6 T⟩
end Law
end
namespace PySem.W.Fast
def tw10342088928450306330:=0
def tw9841206545481762081:=0
def tw12273428853423642656:=0
def tw16974170010463404238:=0
def tw1109260644157022515:=0
def tw14610659358027587377:=0
def tw4491815417952689548:=0
def tw10589005095418357671:=0
def tw12597862172261807857:=0
def tw9202959352570260825:=0
def tw17688771613056030325:=0
def tw5534859252057367064:=0
def tw18429998214829758072:=0
def tw16521921582401569001:=0
def tw4349298942408881981:=0
def tw16112862752670745544:=0
def tw5728604859380118675:=0
def tw17831838927026627380:=0
def tw1824816351721847956:=0
def tw15252089304411467998:=0
def tw4969116167415998938:=0
def tw7804969643818568746:=0
def tw7436691634369430634:=0
def tw536846802573724318:=0
def tw10837966572335063965:=0
def tw7888888872313831181:=0
def tw864802981057481444:=0
def tw13196374742334193374:=0
def tw394226857907276953:=0
def tw9954480554715433642:=0
def tw6616493345940236680:=0
def tw11067086880599018315:=0
def tw12876914055688745521:=0
def tw16449920795351869958:=0
def tw7387496413553324373:=0
def tw13981408389927774683:=0
def tw4525471632975910193:=0
def tw6878011928828882539:=0
def tw15210261560494276876:=0
def tw17947348447838856955:=0
def tw6295103363120113824:=0
def tw12402376504929280296:=0
def tw18360203695833961021:=0
def tw11462073588319199236:=0
def tw13001250593477475126:=0
def tw10916010357498466860:=0
def tw15856226243045646258:=0
def tw4599963372412146949:=0
def tw5095261900661758999:=0
def tw16426034350092817287:=0
def tw8472103355088522592:=0
def tw8163280870161000675:=0
def tw8330348331081567165:=0
def tw8914132743454360491:=0
def tw17347200318767720504:=0
def tw15091448460798324762:=0
def tw261156737369561770:=0
def tw16157446885249681567:=0
def tw6935252161168543358:=0
def tw6417764789026194331:=0
def tw7029744181797244712:=0
def tw814906240642876040:=0
def tw7680034452257781165:=0
def tw18272787192091751617:=0
def tw16267344410944151980:=0
def tw3220939953275261100:=0
def tw9130679769186728042:=0
def tw14783554378551364664:=0
def tw1428822463151250219:=0
def tw8260383798817463529:=0
def tw14760328788479077237:=0
def tw12732269941449354919:=0
def tw11234614718549868109:=0
def tw1981506624683927724:=0
def tw14641734746639536745:=0
def tw5354580304021521441:=0
def tw5539745461326541079:=0
def tw14989385399089311192:=0
def tw4797878190142116639:=0
def tw11050720022213850481:=0
def tw3581093251624655096:=0
def tw1234482872387448821:=0
def tw4608739051517517495:=0
def tw12912330001303700885:=0
def tw8645080390126596506:=0
def tw13601420642983243345:=0
def tw2719827407161515544:=0
def tw7388840975234591686:=0
def tw5559505027946537022:=0
def tw4979196672983742348:=0
def tw10574770946430741422:=0
def tw12282488358873350390:=0
def tw2023844485305827738:=0
def tw3986712577754615394:=0
def tw1770026568972126182:=0
def tw16608013807791670506:=0
def tw7323899182544110289:=0
def tw15160575516828127457:=0
def tw7810710789082960207:=0
def tw906946860527978295:=0
def tw11607583187607963221:=0
def tw11441182728508497528:=0
def tw13337723284521428266:=0
def tw15586175210887159580:=0
def tw12276576166643541433:=0
def tw14936149200218379960:=0
def tw5393449741977188268:=0
def tw16263586877503987639:=0
def tw8331515184899185048:=0
end PySem.W.Fast
open PySem PySem.W PyProof.Rows
local macro_rules | `(tactic| ac_rfl) => `(tactic| (refine' Law.df_m ?a ?b ?c ?d; (case a => k_is); (case b => k_is); (case c => k_is); (case d => k_is)))
local macro_rules | `(tactic| bv_omega) => `(tactic| (refine' Law.dm_m ?a ?b ?c ?d ?e; (case a => k_is); (case b => k_is); (case c => k_is); (case d => k_is); (case e => k_is)))
set_option maxHeartbeats 0 in
theorem PySem.Challenge.cw_nolitter_k47_cuts_holds : PySem.Challenge.rw_nolitter_k47_cuts.Holds := by
 w_on; o_law; k_head; (case hw => w_witness2)
 k_fill
 refine Law.walk (l := PySem.Challenge.rw_nolitter_k47_cuts) rfl rfl (fun w h Y => PySem.W.kIn_of Y) ?L ?F
 case L => exact fun w => rfl
 case F =>
  intro w mg fa h KX G hmg
  refine' Law.txt_mk KX G ?aC_Loom ?aC_LitterError ?aC_BadCuts ?aC_NoRow ?aC_NoBox ?aC_BadText ?aC_BadCode ?aC_BadPlan ?pm_0 ?pm_18 ?pm_20 ?pm_21 ?pm_2 ?pm_19 ?pm_1 ?pm_6 ?pm_9 ?pm_10 ?pm_4 ?pm_8 ?pm_13 ?pm_14 ?pm_16 ?pm_11 ?pm_5 ?pm_12 ?pm_17 ?pm_7 ?pm_15 ?pm_3 ?pg_Loom ?hd_Loom ?po_Loom ?sa_Loom ?mk_Loom ?kc_Loom ?n_Loom_wide ?n_Loom_fresh ?n_Loom_rows ?n_Loom_steps ?xc_LitterError ?xs_LitterError ?xr_LitterError ?xf_LitterError ?xc_BadCuts ?xg_BadCuts ?xt_BadCuts ?xk_BadCuts ?zn_BadCuts ?xc_NoRow ?xg_NoRow ?xt_NoRow ?xk_NoRow ?zn_NoRow ?xc_NoBox ?xg_NoBox ?xt_NoBox ?xk_NoBox ?zn_NoBox ?xc_BadText ?xg_BadText ?xt_BadText ?xk_BadText ?zn_BadText ?xc_BadCode ?xg_BadCode ?xt_BadCode ?xk_BadCode ?zn_BadCode ?xc_BadPlan ?xg_BadPlan ?xt_BadPlan ?xk_BadPlan ?zn_BadPlan ?kc_BadCuts ?zn_BadCuts_NoRow ?zn_BadCuts_NoBox ?zn_BadCuts_BadText ?zn_BadCuts_BadCode ?zn_BadCuts_BadPlan ?b_ValueError ?b_abs ?b_all ?b_bool ?b_divmod ?b_int ?b_isinstance ?b_len ?b_list ?b_max ?b_min ?b_range ?b_sorted ?b_sum ?b_tuple
  (case aC_Loom => k_is)
  (case aC_LitterError => k_is)
  (case aC_BadCuts => k_is)
  (case aC_NoRow => k_is)
  (case aC_NoBox => k_is)
  (case aC_BadText => k_is)
  (case aC_BadCode => k_is)
  (case aC_BadPlan => k_is)
  (case pm_0 => bv_omega)
  (case pm_18 => ac_rfl)
  (case pm_20 => ac_rfl)
  (case pm_21 => ac_rfl)
  (case pm_2 => ac_rfl)
  (case pm_19 => ac_rfl)
  (case pm_1 => ac_rfl)
  (case pm_6 => ac_rfl)
  (case pm_9 => ac_rfl)
  (case pm_10 => ac_rfl)
  (case pm_4 => ac_rfl)
  (case pm_8 => ac_rfl)
  (case pm_13 => ac_rfl)
  (case pm_14 => ac_rfl)
  (case pm_16 => ac_rfl)
  (case pm_11 => ac_rfl)
  (case pm_5 => ac_rfl)
  (case pm_12 => ac_rfl)
  (case pm_17 => ac_rfl)
  (case pm_7 => ac_rfl)
  (case pm_15 => ac_rfl)
  (case pm_3 => ac_rfl)
  (case pg_Loom => k_is)
  (case hd_Loom => k_is)
  (case po_Loom => k_is)
  (case sa_Loom => k_is)
  (case mk_Loom => k_is)
  (case kc_Loom => k_is)
  (case n_Loom_wide => k_is)
  (case n_Loom_fresh => k_is)
  (case n_Loom_rows => k_is)
  (case n_Loom_steps => k_is)
  (case xc_LitterError => first | (decide) | kernel_rfl | rfl)
  (case xs_LitterError => k_is)
  (case xr_LitterError => k_is)
  (case xf_LitterError => k_is)
  (case xc_BadCuts => first | (decide) | kernel_rfl | rfl)
  (case xg_BadCuts => k_is)
  (case xt_BadCuts => k_is)
  (case xk_BadCuts => k_is)
  (case zn_BadCuts => decide)
  (case xc_NoRow => first | (decide) | kernel_rfl | rfl)
  (case xg_NoRow => k_is)
  (case xt_NoRow => k_is)
  (case xk_NoRow => k_is)
  (case zn_NoRow => decide)
  (case xc_NoBox => first | (decide) | kernel_rfl | rfl)
  (case xg_NoBox => k_is)
  (case xt_NoBox => k_is)
  (case xk_NoBox => k_is)
  (case zn_NoBox => decide)
  (case xc_BadText => first | (decide) | kernel_rfl | rfl)
  (case xg_BadText => k_is)
  (case xt_BadText => k_is)
  (case xk_BadText => k_is)
  (case zn_BadText => decide)
  (case xc_BadCode => first | (decide) | kernel_rfl | rfl)
  (case xg_BadCode => k_is)
  (case xt_BadCode => k_is)
  (case xk_BadCode => k_is)
  (case zn_BadCode => decide)
  (case xc_BadPlan => first | (decide) | kernel_rfl | rfl)
  (case xg_BadPlan => k_is)
  (case xt_BadPlan => k_is)
  (case xk_BadPlan => k_is)
  (case zn_BadPlan => decide)
  (case kc_BadCuts => k_is)
  (case zn_BadCuts_NoRow => decide)
  (case zn_BadCuts_NoBox => decide)
  (case zn_BadCuts_BadText => decide)
  (case zn_BadCuts_BadCode => decide)
  (case zn_BadCuts_BadPlan => decide)
  (case b_ValueError => k_is)
  (case b_abs => k_is)
  (case b_all => k_is)
  (case b_bool => k_is)
  (case b_divmod => k_is)
  (case b_int => k_is)
  (case b_isinstance => k_is)
  (case b_len => k_is)
  (case b_list => k_is)
  (case b_max => k_is)
  (case b_min => k_is)
  (case b_range => k_is)
  (case b_sorted => k_is)
  (case b_sum => k_is)
  (case b_tuple => k_is)
