import PyProof.Rows.All
import Wide.All
import OpenK.AllK
import Wide.FinOn
import Lean
import PyProof.EqAt
import PyProof.EqKinds
import PyProof.TupleCall
import PyProof.NeKinds
import PyProof.Rows.SeqMore
import PyProof.FactsAll.tuple_2
import KE.KDictOf
import PyProof.ExcInit
import PyProof.ExcClass3
import PyProof.NsDelKeeps
import PyProof.RulesAs
import PyProof.Rows.CountFlat
import PyProof.AutoListH
import KE.KIntText
import PyProof.Rows.CatFin
import PyProof.Rows.Range3
import PyProof.Rows.CallKwBuiltin
import PyProof.NoPylong
import PyProof.EnumMake
import PyProof.Draws
import PyProof.DictWalks
import PyProof.DictUpdate
import PyProof.ReprRoads
import PyProof.ReprBulk
import PySem.Challenge.RW_nolitter_k02_the_first_wrong_thing
set_option Elab.async false
set_option linter.all false
set_option maxRecDepth 100000
set_option maxHeartbeats 4000000
local macro_rules | `(tactic| decide) => `(tactic| decide +kernel)
noncomputable section
namespace L2
open PySem PySem.Spec PyProof.Rows
abbrev Key:=Sum Int Str
def uq6:Key->Value->Bool
 | .inl k,v=>Value.isInt k v
 | .inr x,v=>Value.isStrOf x v
def keyH (w:World):Key->Int
 | .inl k=>hashInt k
 | .inr x=>hashStr w x
theorem u23:∀ {k:Key} {v:Value},uq6 k v=true->(∃ i t,k=Sum.inl i /\ v=Value.int i t) \/ (∃ x t,k=Sum.inr x /\ v=Value.str x t)
 | .inl i,v,h=>by
  obtain ⟨t,e⟩:=Value.isInt_shape (k:=i) (v:=v) h;exact .inl ⟨i,t,rfl,e⟩
 | .inr x,v,h=>by
  obtain ⟨t,e⟩:=Value.isStrOf_shape (x:=x) (v:=v) h;exact .inr ⟨x,t,rfl,e⟩
theorem ux2 (i:Int) (t:Tok):uq6 (.inl i) (.int i t)=true:=by simp [uq6,Value.isInt]
theorem ux1 (x:Str) (t:Tok):uq6 (.inr x) (.str x t)=true:=by simp [uq6,Value.isStrOf]
theorem vx5 (a b:Int):decide ((Sum.inl a:Key)=Sum.inl b)=(a == b):=by
 by_cases e:a=b
 ·subst e;simp
 ·have h:¬ (Sum.inl a:Key)=Sum.inl b:=fun q=>e (Sum.inl.inj q)
  rw [decide_eq_false h];exact (beq_eq_false_iff_ne.mpr e).symm
theorem vx2 (a b:Str):decide ((Sum.inr a:Key)=Sum.inr b)=decide (a=b):=by
 by_cases e:a=b
 ·subst e;simp
 ·have h:¬ (Sum.inr a:Key)=Sum.inr b:=fun q=>e (Sum.inr.inj q)
  rw [decide_eq_false h,decide_eq_false e]
theorem vx4 (a:Int) (b:Str):decide ((Sum.inl a:Key)=Sum.inr b)=false:=decide_eq_false (fun q=>nomatch q)
theorem vx3 (a:Str) (b:Int):decide ((Sum.inr a:Key)=Sum.inl b)=false:=decide_eq_false (fun q=>nomatch q)
def u30 (prog:Program) (w:World):PySem.KeyKind prog w Key where
 is:=uq6
 hash:=keyH w
 inj:=fun v a b ha hb=>by
  rcases u23 ha with ⟨i,t,rfl,rfl⟩ | ⟨x,t,rfl,rfl⟩
  ·rcases u23 hb with ⟨j,u,rfl,e⟩ | ⟨y,u,rfl,e⟩
   ·injection e with e1 _;rw [e1]
   ·exact nomatch e
  ·rcases u23 hb with ⟨j,u,rfl,e⟩ | ⟨y,u,rfl,e⟩
   ·exact nomatch e
   ·injection e with e1 _;rw [e1]
 byValue:=fun k v h=>by
  rcases u23 h with ⟨i,t,rfl,rfl⟩ | ⟨x,t,rfl,rfl⟩ <;> rfl
 pyHash:=fun hv h=>by
  rcases u23 hv with ⟨i,t,rfl,rfl⟩ | ⟨x,t,rfl,rfl⟩
  ·exact wpAny_pyHash_int h
  ·exact wpAny_pyHash_str h
 eqBool:=fun hu hv h=>by
  rcases u23 hu with ⟨i,t,rfl,rfl⟩ | ⟨x,t,rfl,rfl⟩
  ·rcases u23 hv with ⟨j,u,rfl,rfl⟩ | ⟨y,u,rfl,rfl⟩
   ·rw [vx5] at h;exact wpAny_eqBool_int h
   ·rw [vx4] at h;exact SeqAt.EqAt.int_str i t y u _ _ _ _ h
  ·rcases u23 hv with ⟨j,u,rfl,rfl⟩ | ⟨y,u,rfl,rfl⟩
   ·rw [vx3] at h;exact SeqAt.EqAt.str_int x t j u _ _ _ _ h
   ·rw [vx2] at h;exact wpAny_eqBool_str h
 «strs»:=fun k x t v h=>by
  rcases u23 h with ⟨i,u,rfl,e⟩ | ⟨y,u,rfl,e⟩
  ·exact nomatch e
  ·injection e with e1 _
   subst e1;cases v <;> rfl
theorem uk7 (prog:Program) (w:World) (i:Int) (t:Tok):(u30 prog w).is (.inl i) (.int i t)=true:=ux2 i t
theorem uk6 (prog:Program) (w:World) (x:Str) (t:Tok):(u30 prog w).is (.inr x) (.str x t)=true:=ux1 x t
inductive V where
 | non | bl (b:Bool) | int (i:Int) | str (x:Str) | byt (b:Array UInt8) | flt (b:UInt64) | ref (a:Addr) | ty (n:String)
 deriving DecidableEq
def RelV:V->Value->Prop
 | .non,u=>u=Value.none
 | .bl b,u=>u=Value.bool b
 | .int i,u=>∃ t,u=Value.int i t
 | .str x,u=>∃ t,u=Value.str x t
 | .byt b,u=>∃ t,u=Value.bytes b t
 | .flt b,u=>∃ t,u=Value.float b t
 | .ref a,u=>u=Value.ref a
 | .ty n,u=>u=Value.type n
abbrev Vals:List V->List Value->Prop:=Paired RelV
theorem Vals.length {xs:List V} {us:List Value} (r:Vals xs us):xs.length=us.length:=Paired.length r
theorem Vals.get:∀ {xs:List V} {us:List Value} {i:Nat} {x:V},Vals xs us->xs[i]?=some x->∃ u,us[i]?=some u /\ RelV x u
 | _,_,_,_,.nil,e=>by simp at e
 | _,_,0,_,.cons r _,e=>by simp at e;subst e;exact ⟨_,rfl,r⟩
 | _,_,i+1,x,.cons _ t,e=>by
  obtain ⟨u,h1,h2⟩:=Vals.get (i:=i) (x:=x) t (by simpa using e);exact ⟨u,by simpa using h1,h2⟩
theorem Vals.set {x:V} {u:Value} (r:RelV x u):∀ {xs:List V} {us:List Value} (i:Nat),Vals xs us->Vals (xs.set i x) (us.set i u)
 | _,_,_,.nil=>.nil
 | _,_,0,.cons _ t=>.cons r t
 | _,_,i+1,.cons q t=>.cons q (Vals.set r i t)
theorem Vals.append:∀ {xs ys:List V} {us ws:List Value},Vals xs us->Vals ys ws->Vals (xs++ys) (us++ws)
 | _,_,_,_,.nil,s=>s
 | _,_,_,_,.cons r t,s=>.cons r (Vals.append t s)
theorem Vals.take:∀ {xs:List V} {us:List Value} (n:Nat),Vals xs us->Vals (xs.take n) (us.take n)
 | _,_,0,_=>.nil
 | _,_,_+1,.nil=>.nil
 | _,_,n+1,.cons r t=>.cons r (Vals.take n t)
theorem Vals.drop:∀ {xs:List V} {us:List Value} (n:Nat),Vals xs us->Vals (xs.drop n) (us.drop n)
 | _,_,0,r=>r
 | _,_,_+1,.nil=>.nil
 | _,_,n+1,.cons _ t=>Vals.drop n t
def RelO:Option V->Option Value->Prop
 | some v,some u=>RelV v u
 | none,none=>True
 | _,_=>False
def KV {κ:Type}:List (κ × V)->List (κ × Value)->Prop:=Paired fun (p:κ × V) (q:κ × Value)=>p.1=q.1 /\ RelV p.2 q.2
def kV:Key->V
 | .inl i=>.int i
 | .inr x=>.str x
inductive HO where
 | lst (xs:List V)
 | tup (xs:List V)
 | dK (kvs:List (Key × V)) | dT (kvs:List (List Key × V))
 | set (S:Int->Bool) (n:Nat)
 | ins (C dx:Addr) (fs:List (Str × V))
 | own (x:Addr)
 | xd (fs:List (Str × V))
 | met (f x:Addr)
 | rng (lo hi:Int)
 | frz (o:Obj) (u:HO)
 | tbl (ps:Array Value)
 | ext (φ:Heap->Prop)
abbrev Hp:=Addr->Option HO
def upd (H:Hp) (a:Addr) (o:HO):Hp:=fun b=>if b=a then some o else H b
theorem u18 {H:Hp} {a:Addr} {o:HO}:upd H a o a=some o:=by unfold upd;rw [if_pos rfl]
theorem u11 {H:Hp} {a b:Addr} {o:HO} (h:b ≠ a):upd H a o b=H b:=by unfold upd;rw [if_neg h]
theorem vc4 {H:Hp} {a:Addr} {o u:HO}:upd (upd H a o) a u=upd H a u:=by
 funext b;unfold upd;split <;> rfl
theorem w49 {H:Hp} {a b:Addr} {o u:HO} (h:H a=some o) (h':H b=some u) (d:o ≠ u):a ≠ b:=by
 intro e;subst e;rw [h] at h';exact d (Option.some.inj h')
theorem u31 {H:Hp} {a b:Addr} {o:HO} (h:H a=some o) (h':H b=none):a ≠ b:=by
 intro e;subst e;rw [h] at h';cases h'
section
variable (P:Program) (w:World)
def TupD (h:Heap) (a:Addr) (its:Array Value):Prop:=∃ o,h.get? a=some o /\ o.cls=.type "tuple" /\ (∃ n,o.data=.seq its n) /\ o.dict=none
theorem TupD.tup {h:Heap} {a:Addr} {its:Array Value} (x:TupD h a its):IsTup h a its:=let ⟨o,e,c,d,_⟩:=x;⟨o,e,c,d⟩
theorem TupD.new (h:Heap) (its:Array Value):TupD (h.push { cls:=.type "tuple",data:=.seq its }) h.objs.size its:=⟨_,Heap.get?_push_size _ rfl,rfl,⟨_,rfl⟩,rfl⟩
def ObjOk (H:Hp) (h:Heap) (a:Addr):HO->Prop
 | .lst xs=>xs.length<=sizeLine /\ ∃ (its:List Value) (n:Nat),Vals xs its /\ h.get? a=some { cls:=.type "list",data:=.seq its.toArray n }
 | .tup xs=>xs.length<=sizeLine /\ ∃ its:List Value,Vals xs its /\ TupD h a its.toArray
 | .dK kvs=>kvs.length<=sizeLine /\ (a == sysModules)=false /\ ∃ vs,KV kvs vs /\ h.DictOf (u30 P w) a vs
 | .dT kvs=>kvs.length<=sizeLine /\ (a == sysModules)=false /\ ∃ xs:List (List Key × Addr × Value),
   Paired (fun (p:List Key × V) (q:List Key × Addr × Value)=>p.1=q.1 /\ H q.2.1=some (.tup (p.1.map kV)) /\ RelV p.2 q.2.2) kvs xs /\
   ∃ o es ep,h.get? a=some o /\ o.ExactDict /\ o.data=.dict es ep /\ es.toList=xs.map (entryOfKey (tupleKind (u30 P w))) /\ (xs.map (·.1)).Nodup
 | .set S n=>h.SetOf (intKind P w) a S n
 | .ins C dx fs=>H dx=some (.own a) /\ fs.length<=1000 /\ dx ≠ a /\ h.get? a=some (W.instObj C dx) /\
   ∃ mA,h.Ns1 dx mA /\ (∀ f,RelO (fs.lookup f) (mA f)) /\ PySem.Within mA (fs.map (·.1))
 | .own _=>∃ o,h.get? a=some o
 | .xd fs=>∃ mA,h.Ns1 a mA /\ ∀ f,RelO (fs.lookup f) (mA f)
 | .rng lo hi=>∃ t u v,h.get? a=some { cls:=.type "range",data:=.fields #[.int lo t,.int hi u,.int 1 v] }
 | .frz o u=>h.get? a=some o /\ ObjOk H h a u
 | .tbl ps=>h.get? a=some { cls:=.none,data:=.fields ps }
 | .met f x=>h.get? a=some (W.methodObj (.ref f) (.ref x))
 | .ext φ=>φ h /\ (∃ o,h.get? a=some o) /\ ∀ h1 h2:Heap,φ h1->(∀ o,h1.get? a=some o->h2.get? a=some o)->φ h2
def HOk (H:Hp) (h:Heap):Prop:=∀ a o,H a=some o->ObjOk P w H h a o
end
section
variable {P:Program} {w:World} {H H':Hp} {h h':Heap} {a:Addr} {o:HO}
theorem ObjOk.lt (x:ObjOk P w H h a o):a < h.objs.size:=by
 cases o with
 | lst xs=>obtain ⟨_,_,_,_,e⟩:=x;exact Heap.lt_size e
 | tup xs=>obtain ⟨_,_,_,p⟩:=x;exact p.tup.lt
 | dK kvs=>obtain ⟨_,_,_,_,o,_,_,e,_⟩:=x;exact Heap.lt_size e
 | dT kvs=>obtain ⟨_,_,_,_,o,_,_,e,_⟩:=x;exact Heap.lt_size e
 | set S n=>obtain ⟨o,_,_,_,e,_⟩:=x;exact Heap.lt_size e
 | ins C dx fs=>obtain ⟨_,_,_,e,_⟩:=x;exact Heap.lt_size e
 | own y=>obtain ⟨_,e⟩:=x;exact Heap.lt_size e
 | xd fs=>obtain ⟨_,⟨_,_,_,e,_⟩,_⟩:=x;exact Heap.lt_size e
 | rng lo hi=>obtain ⟨_,_,_,e⟩:=x;exact Heap.lt_size e
 | frz ob u=>obtain ⟨e,_⟩:=x;exact Heap.lt_size e
 | tbl ps=>exact Heap.lt_size (show h.get? a=some _ from x)
 | met f y=>exact Heap.lt_size (show h.get? a=some _ from x)
 | ext φ=>obtain ⟨_,⟨_,e⟩,_⟩:=x;exact Heap.lt_size e
theorem Paired.mapP {α β:Type} {F G:α->β->Prop}:∀ {l₁:List α} {l₂:List β},Paired F l₁ l₂->(∀ a b,F a b->G a b)->Paired G l₁ l₂
 | _,_,.nil,_=>.nil
 | _,_,.cons r t,f=>.cons (f _ _ r) (Paired.mapP t f)
theorem ObjOk.stay (x:ObjOk P w H h a o) (k:∀ b u,(b=a \/ H b=some (.own a))->h.get? b=some u->h'.get? b=some u)
  (ho:∀ b,H b=some (.own a)->H' b=some (.own a)) (ht:∀ b xs,H b=some (.tup xs)->H' b=some (.tup xs)):ObjOk P w H' h' a o:=by
 induction o with
 | lst xs=>obtain ⟨z,its,n,r,e⟩:=x;exact ⟨z,its,n,r,k _ _ (.inl rfl) e⟩
 | tup xs=>obtain ⟨z,its,r,ob,e,c⟩:=x;exact ⟨z,its,r,ob,k _ _ (.inl rfl) e,c⟩
 | dK kvs=>obtain ⟨z,y,vs,r,ob,es,ep,e,c⟩:=x;exact ⟨z,y,vs,r,ob,es,ep,k _ _ (.inl rfl) e,c⟩
 | dT kvs =>
  obtain ⟨z,y,xs,r,ob,es,ep,e,c⟩:=x;exact ⟨z,y,xs,Paired.mapP r fun p q z=>⟨z.1,ht _ _ z.2.1,z.2.2⟩,ob,es,ep,k _ _ (.inl rfl) e,c⟩
 | set S n=>obtain ⟨ob,es,ep,t,e,c⟩:=x;exact ⟨ob,es,ep,t,k _ _ (.inl rfl) e,c⟩
 | ins C dx fs =>
  obtain ⟨d,z,ne,e,mA,⟨od,es,ep,e2,c⟩,r⟩:=x;exact ⟨ho _ d,z,ne,k _ _ (.inl rfl) e,mA,⟨od,es,ep,k _ _ (.inr d) e2,c⟩,r⟩
 | own y=>obtain ⟨ob,e⟩:=x;exact ⟨ob,k _ _ (.inl rfl) e⟩
 | xd fs=>obtain ⟨mA,⟨od,es,ep,e,c⟩,r⟩:=x;exact ⟨mA,⟨od,es,ep,k _ _ (.inl rfl) e,c⟩,r⟩
 | rng lo hi=>obtain ⟨t,u,v,e⟩:=x;exact ⟨t,u,v,k _ _ (.inl rfl) e⟩
 | frz ob u ih=>obtain ⟨e,q⟩:=x;exact ⟨k _ _ (.inl rfl) e,ih q⟩
 | tbl ps =>
  have e:h.get? a=some { cls:=.none,data:=.fields ps }:=x
  show h'.get? a=some { cls:=.none,data:=.fields ps }
  exact k a _ (.inl rfl) e
 | met f y =>
  have e:h.get? a=some (W.methodObj (.ref f) (.ref y)):=x
  show h'.get? a=some (W.methodObj (.ref f) (.ref y))
  exact k a _ (.inl rfl) e
 | ext φ=>obtain ⟨p,⟨o,e⟩,st⟩:=x;exact ⟨st _ _ p fun o q=>k _ _ (.inl rfl) q,⟨o,k _ _ (.inl rfl) e⟩,st⟩
theorem HOk.lt (x:HOk P w H h) (e:H a=some o):a < h.objs.size:=(x a o e).lt
theorem HOk.fresh (x:HOk P w H h) (e:h.objs.size<=a):H a=none:=by
 cases q:H a with
 | none=>rfl
 | some u=>exact absurd (Nat.lt_of_lt_of_le (x.lt q) e) (Nat.lt_irrefl _)
theorem HOk.kept (x:HOk P w H h) (k:∀ b u,h.get? b=some u->h'.get? b=some u):HOk P w H h':=fun a o e =>
 (x a o e).stay (fun b u _ q=>k b u q) (fun _ q=>q) fun _ _ q=>q
theorem HOk.laid (x:HOk P w H h) (k:∀ b u,h.get? b=some u->h'.get? b=some u) (hp:h.objs.size<=a) (new:ObjOk P w (upd H a o) h' a o):HOk P w (upd H a o) h':=fun b u e=>by
 have hn:=x.fresh hp
 by_cases hb:b=a
 ·subst hb;rw [u18] at e;cases e;exact new
 ·rw [u11 hb] at e
  exact (x b u e).stay (fun c v _ q=>k c v q) (fun c q=>by rw [u11 (u31 q hn)];exact q) fun c xs q=>by rw [u11 (u31 q hn)];exact q
end
def Rd (H:Hp) (a:Addr) (u:HO):Prop:=H a=some u \/ ∃ o,H a=some (.frz o u)
theorem Rd.of {H:Hp} {a:Addr} {u:HO} (h:H a=some u):Rd H a u:=.inl h
theorem Rd.ok {P:Program} {w:World} {H:Hp} {h:Heap} {a:Addr} {u:HO} (r:Rd H a u) (x:HOk P w H h):ObjOk P w H h a u:=by
 rcases r with r | ⟨o,r⟩
 ·exact x a u r
 ·obtain ⟨_,q⟩:=x a _ r
  exact q
def Mut:Option HO->Prop
 | some (.lst _)=>True
 | some (.dK _)=>True
 | some (.dT _)=>True
 | some (.set _ _)=>True
 | some (.ins _ _ _)=>True
 | some (.ext _)=>True
 | _=>False
section
variable {P:Program} {w:World} {H:Hp} {h h':Heap} {x e:Addr} {o':HO}
theorem HOk.write (ok:HOk P w H h) (mu:Mut (H x)) (he:e=x \/ H e=some (.own x)) (k:∀ b u,b ≠ e->h.get? b=some u->h'.get? b=some u) (heo:∃ u,h'.get? e=some u)
  (new:ObjOk P w (upd H x o') h' x o'):HOk P w (upd H x o') h':=fun b u q=>by
 have nown:∀ c y,H c=some (.own y)->c ≠ x:=fun c y r z=>by subst z;rw [r] at mu;exact mu
 have ntup:∀ c xs,H c=some (.tup xs)->c ≠ x:=fun c xs r z=>by subst z;rw [r] at mu;exact mu
 by_cases hb:b=x
 ·subst hb;rw [u18] at q;cases q;exact new
 ·rw [u11 hb] at q
  by_cases hbe:b=e
  ·have q':H b=some (.own x):=by
    rcases he with z | z
    ·exact absurd (hbe.trans z) hb
    ·rw [hbe];exact z
   rw [q] at q';cases q';obtain ⟨v,hv⟩:=heo;exact ⟨v,by rw [hbe];exact hv⟩
  ·refine (ok b u q).stay (fun c v hc r=>k c v ?_ r) (fun c r=>by rw [u11 (nown c b r)];exact r) fun c xs r=>by rw [u11 (ntup c xs r)];exact r
   rcases hc with rfl | hc
   ·exact hbe
   ·rintro rfl
    rcases he with z | z
    ·exact nown c b hc z
    ·rw [hc] at z;cases z;exact hb rfl
end
def NK:={ u:HO // ∀ ys,u ≠ .dK ys }
structure Un (fs ex:List Addr) (H H':Hp) (h h':Heap):Prop where
 keep:∀ b o,h.get? b=some o->H b=none->b ∉ fs->b ∉ ex->h'.get? b=some o
 slot:∀ b o,h.get? b=some o->H b=none->b ∈ fs->b ∉ ex->∃ sl,h'.get? b=some { o with slots:=sl }
 free:∀ b o,h.get? b=some o->H b=none->b ∉ ex->H' b=none
 there:∀ b o,h.get? b=some o->b ∉ ex->∃ o',h'.get? b=some o'
 tups:∀ b xs,H b=some (.tup xs)->H' b=some (.tup xs)
 frzs:∀ b o (u:NK),H b=some (.frz o u.1)->H' b=some (.frz o u.1)
 tbls:∀ b ps,H b=some (.tbl ps)->∃ more,H' b=some (.tbl (ps++more))
section
variable {fs fs' ex ex':List Addr} {H H1 H2:Hp} {h h1 h2 h':Heap} {a x e:Addr} {o:HO}
theorem Un.any (u:Un fs ex H H1 h h1) {b:Addr} {ob:Obj} (q:h.get? b=some ob) (n:H b=none) (hx:b ∉ ex):∃ sl,h1.get? b=some { ob with slots:=sl }:=by
 by_cases hb:b ∈ fs
 ·exact u.slot b ob q n hb hx
 ·exact ⟨ob.slots,u.keep b ob q n hb hx⟩
theorem Un.trans (a:Un fs ex H H1 h h1) (b:Un fs ex H1 H2 h1 h2):Un fs ex H H2 h h2 where
 keep:=fun c ob q n hc hx=>b.keep c ob (a.keep c ob q n hc hx) (a.free c ob q n hx) hc hx
 slot:=fun c ob q n hc hx=>by
  obtain ⟨sl,e1⟩:=a.slot c ob q n hc hx;obtain ⟨sl',e2⟩:=b.slot c _ e1 (a.free c ob q n hx) hc hx;exact ⟨sl',e2⟩
 free:=fun c ob q n hx=>by
  obtain ⟨o',e1⟩:=a.there c ob q hx;exact b.free c o' e1 (a.free c ob q n hx) hx
 there:=fun c ob q hx=>by
  obtain ⟨o',e1⟩:=a.there c ob q hx;exact b.there c o' e1 hx
 tups:=fun c xs q=>b.tups c xs (a.tups c xs q)
 frzs:=fun c ob xs q=>b.frzs c ob xs (a.frzs c ob xs q)
 tbls:=fun c ps q=>by
  obtain ⟨m1,e1⟩:=a.tbls c ps q;obtain ⟨m2,e2⟩:=b.tbls c _ e1;exact ⟨m1++m2,by rw [e2,Array.append_assoc]⟩
theorem Un.kept (k:∀ b u,h.get? b=some u->h'.get? b=some u):Un fs ex H H h h' :=
 ⟨fun b ob q _ _ _=>k b ob q,fun b ob q _ _ _=>⟨ob.slots,k b ob q⟩,fun _ _ _ n _=>n,fun b ob q _=>⟨ob,k b ob q⟩,fun _ _ q=>q,fun _ _ _ q=>q,fun _ ps q=>⟨#[],by rw [q];simp⟩⟩
theorem Un.refl:Un fs ex H H h h:=Un.kept fun _ _ q=>q
theorem Un.laid (k:∀ b u,h.get? b=some u->h'.get? b=some u) (hp:h.objs.size<=a) (hn:H a=none):Un fs ex H (upd H a o) h h' where
 keep:=fun b u q _ _ _=>k b u q
 slot:=fun b u q _ _ _=>⟨u.slots,k b u q⟩
 free:=fun b u q n _=>by rw [u11 (Nat.ne_of_lt (Nat.lt_of_lt_of_le (Heap.lt_size q) hp))];exact n
 there:=fun b u q _=>⟨u,k b u q⟩
 tups:=fun b xs q=>by rw [u11 (u31 q hn)];exact q
 frzs:=fun b u xs q=>by rw [u11 (u31 q hn)];exact q
 tbls:=fun b ps q=>⟨#[],by rw [u11 (u31 q hn),q];simp⟩
theorem Un.write (mu:Mut (H x)) (he:e=x \/ H e=some (.own x)) (k:∀ b u,b ≠ e->h.get? b=some u->h'.get? b=some u) (heo:∃ u,h'.get? e=some u):Un fs ex H (upd H x o) h h':=by
 have hx:∀ b,H b=none->b ≠ x:=fun b n z=>by subst z;rw [n] at mu;exact mu
 have hb:∀ b,H b=none->b ≠ e:=fun b n z=>by
  subst z
  rcases he with r | r
  ·exact hx b n r
  ·rw [n] at r;cases r
 have hm:∀ b u,H b=some u->¬ Mut (some u)->b ≠ x:=fun b u q nm z=>by subst z;rw [q] at mu;exact nm mu
 refine ⟨fun b u q n _ _=>k b u (hb b n) q,fun b u q n _ _=>⟨u.slots,k b u (hb b n) q⟩,fun b u q n _=>by rw [u11 (hx b n)];exact n,fun b u q _=>?_,
  fun b xs q=>by rw [u11 (hm b _ q fun z=>z)];exact q,fun b u xs q=>by rw [u11 (hm b _ q fun z=>z)];exact q,fun b ps q=>⟨#[],by rw [u11 (hm b _ q fun z=>z),q];simp⟩⟩
 by_cases hbe:b=e
 ·subst hbe;exact heo
 ·exact ⟨u,k b u hbe q⟩
theorem Un.mono (u:Un fs ex H H1 h h1) (hs:∀ b ∈ fs,b ∈ fs') (hx:∀ b ∈ ex,b ∈ ex'):Un fs' ex' H H1 h h1 :=
 ⟨fun b ob q n hb he=>u.keep b ob q n (fun z=>hb (hs b z)) fun z=>he (hx b z),fun _ _ q n _ he=>u.any q n fun z=>he (hx _ z),fun b ob q n he=>u.free b ob q n fun z=>he (hx b z),fun b ob q he=>u.there b ob q fun z=>he (hx b z),u.tups,u.frzs,u.tbls⟩
end
def trk (h:Heap) (H:Hp):List Addr:=(List.range h.objs.size).filter fun a=>(H a).isSome
def hidT (h:Heap) (H:Hp):Heap:=W.hideAll h (trk h H)
theorem uy1 (h:Heap) (H:Hp):(hidT h H).objs.size=h.objs.size:=W.hideAll_size _ _
theorem v61 {h:Heap} {H:Hp} {b:Addr} {o:Obj} (e:h.get? b=some o) (n:H b=none):(hidT h H).get? b=some o :=
 W.hideAll_get _ e fun hm=>by
  have q:(H b).isSome=true:=(List.mem_filter.mp hm).2;rw [n] at q;simp at q
theorem vh3 {h:Heap} {H:Hp} {b:Addr} {o:Obj} (e:(hidT h H).get? b=some o):h.get? b=some o /\ H b=none:=by
 have e':h.get? b=some o:=W.of_hideAll (trk h H) e;refine ⟨e',?_⟩;cases q:H b with
 | none=>rfl
 | some x =>
  have hm:b ∈ trk h H:=List.mem_filter.mpr ⟨List.mem_range.mpr (Heap.lt_size e'),by simp [q]⟩;have z:(hidT h H).get? b=none:=W.hideAll_none (trk h H) hm;rw [z] at e;cases e
def vl9 (g h:Heap) (L:Addr):List (Addr × Obj):=(List.range h.objs.size).filterMap fun a=>if a=L \/ (g.get? a).isSome=true then none else (h.get? a).map fun o=>(a,o)
def rest (g h:Heap) (L d:Addr):List (Addr × Obj):=(vl9 g h L).filter fun p=>decide (p.1 ≠ d)
structure Mod (K:W.Frag) (mg:Str->Option Value) (base:Heap):Prop where
 kin:K.In base
 glob:base.Ns mainGlobals mg
 blt:∃ mb,base.Ns builtinsNs mb /\ ∀ x:Str,x ≠ "__name__" -> mb x=bootBuiltins x
 nolimit:base.NoLimit
/-- the context: a def's body (or a comprehension's block) running. base: fixed through the whole law; s₀,H₀: the entry; outer: the frames whose slots others may change (a def's callers); stack: all frames that run;
   ex: iterators that were made ahead of the entry and are walked here (a comprehension's);fn: the names whose cells were made at the entry (a def: all;a comprehension's block: its own);calm: not within an except suite;pn: pins that every state bears;xe: what is wanted of an exception that leaves the code -/
structure Cx where
 prog:Program
 w:World
 K:W.Frag
 mg:Str->Option Value
 base:Heap
 A:Around
 N:List Str
 s₀:Shared
 H₀:Hp
 env:Env
 outer:List Env
 stack:List Env
 ex:List Addr
 fn:Str->Bool
 calm:Bool
 pn:List (Addr × Obj)
 xe:Value->Shared->Prop
def frs (l:List Env):List Addr:=l.filterMap (·.frame)
abbrev Cx.fs (X:Cx):List Addr:=frs X.outer
def Vis (sc:Scope) (x:Str):Prop:=sc.names.lookup x=some .local \/ sc.names.lookup x=some .cell \/ sc.names.lookup x=some .free
def Loc (sc:Scope) (x:Str):Prop:=sc.names.lookup x=some .local \/ sc.names.lookup x=some .cell
def Look (env:Env) (h:Heap) (m:Str->Option Value) (x:Str) (u:Value):Prop :=
 (env.kindOf x=some .local /\ m x=some u) \/ ((env.kindOf x=some .cell \/ env.kindOf x=some .free) /\ ∃ c,env.cells.lookup x=some c /\ h.IsCell c (some u))
structure Cx.Ok (X:Cx):Prop where
 mod:Mod X.K X.mg X.base
 kind:X.env.scope.kind=.function
 glob:X.env.globals=mainGlobals
 blt:X.env.builtins=builtinsNs
 above:X.s₀.heap.objs.size<=X.env.locals
 inj:∀ x y c,X.env.cells.lookup x=some c->X.env.cells.lookup y=some c->x=y
 has:∀ x,(X.env.kindOf x=some .cell \/ X.env.kindOf x=some .free)->∃ c,X.env.cells.lookup x=some c
 cab:∀ x c,X.fn x=true->X.env.cells.lookup x=some c->X.s₀.heap.objs.size<=c
 hd:X.calm=true->X.A.handled=none
 frames:X.A.frames=some X.stack
 stk:X.stack=X.outer \/ (X.stack=X.env::X.outer /\ X.env.frame=some X.env.locals)
 exf:∀ b ∈ X.ex,b ≠ X.env.locals /\ ∀ x c,X.env.cells.lookup x=some c->c ≠ b
 bs:∀ b o,X.base.get? b=some o->X.s₀.heap.get? b=some o /\ X.H₀ b=none
 bsz:X.base.objs.size<=X.s₀.heap.objs.size
 noex:∀ b o,X.base.get? b=some o->b ∉ X.ex
 exfs:∀ b ∈ X.ex,b ∉ X.fs
 funs:X.s₀.heap.FunFrames X.base X.outer
 frf:∀ b ∈ X.fs,X.H₀ b=none
structure Inv (X:Cx) (pins:List (Addr × Obj)) (σ:List (Option V)) (H:Hp) (s:Shared):Prop where
 ok:X.Ok
 os:s.os=X.s₀.os
 bare:AllBare s.gens
 base:Un X.fs X.ex X.H₀ H X.s₀.heap s.heap
 loc:∃ m,s.heap.Ns X.env.locals m /\ ∀ (i:Nat) (x:Str) (v:V),X.N[i]?=some x->σ[i]?=some (some v)->Vis X.env.scope x->∃ u,RelV v u /\ Look X.env s.heap m x u
 cell:∀ x c,X.env.cells.lookup x=some c->∃ v,s.heap.IsCell c v
 free:H X.env.locals=none
 freeC:∀ x c,X.env.cells.lookup x=some c->H c=none
 pin:∀ p ∈ X.pn++pins,s.heap.get? p.1=some p.2 /\ H p.1=none /\ p.1 ≠ X.env.locals /\ p.1 ∉ X.fs /\ ∀ v,p.2.data ≠ .cell v
 hok:HOk X.prog X.w H s.heap
 len:σ.length=X.N.length
section
variable {X:Cx} {pins:List (Addr × Obj)} {σ:List (Option V)} {H H':Hp} {s:Shared} {h':Heap}
theorem Cx.Ok.nofr (ok:X.Ok) {b:Addr} {o:Obj} (e:X.base.get? b=some o):b ∉ X.fs:=fun hb=>by
 have:=(ok.funs.mem hb).1;rw [e] at this;cases this
theorem Inv.bs (I:Inv X pins σ H s):∀ b o,X.base.get? b=some o->s.heap.get? b=some o /\ H b=none:=fun b o e =>
 ⟨I.base.keep b o (I.ok.bs b o e).1 (I.ok.bs b o e).2 (I.ok.nofr e) (I.ok.noex b o e),I.base.free b o (I.ok.bs b o e).1 (I.ok.bs b o e).2 (I.ok.noex b o e)⟩
theorem Inv.bk (I:Inv X pins σ H s):∀ b o,X.base.get? b=some o->s.heap.get? b=some o:=fun b o e=>(I.bs b o e).1
theorem Inv.mod (I:Inv X pins σ H s):Mod X.K X.mg X.base:=I.ok.mod
theorem Inv.kIn (I:Inv X pins σ H s):X.K.In s.heap:=I.ok.mod.kin.keeps I.bk
theorem Inv.nolimit (I:Inv X pins σ H s):s.heap.NoLimit:=I.ok.mod.nolimit.keeps I.bk
theorem Inv.fr (I:Inv X pins σ H s):∃ m,Fr X.base X.env.locals s.heap m :=
 let ⟨m,hn,_⟩:=I.loc
 ⟨m,hn,I.bk,Nat.le_trans I.ok.bsz I.ok.above⟩
theorem Inv.lt (I:Inv X pins σ H s):X.env.locals < s.heap.objs.size:=let ⟨_,hn,_⟩:=I.loc;hn.lt
theorem Inv.sz (I:Inv X pins σ H s):X.s₀.heap.objs.size<=s.heap.objs.size:=Nat.le_trans I.ok.above (Nat.le_of_lt I.lt)
theorem Inv.nofs (I:Inv X pins σ H s) {a:Addr} (h:s.heap.objs.size<=a):a ∉ X.fs:=fun hb=>by
 obtain ⟨_,o,ho,_⟩:=I.ok.funs.mem hb;exact absurd (Nat.lt_of_lt_of_le (Heap.lt_size ho) (Nat.le_trans I.sz h)) (Nat.lt_irrefl _)
theorem Inv.cne (I:Inv X pins σ H s):∀ x c,X.env.cells.lookup x=some c->c ≠ X.env.locals:=fun x c e z=>by
 obtain ⟨v,o,ho,hd⟩:=I.cell x c e;obtain ⟨m,⟨o',es,ep,ho',hd',_⟩,_⟩:=I.loc;rw [z,ho'] at ho;cases ho;rw [hd'] at hd;cases hd
theorem Inv.funs (I:Inv X pins σ H s):s.heap.FunFrames X.base X.outer:=by
 have all:∀ (l:List Env),(∀ b ∈ frs l,b ∈ X.fs)->X.s₀.heap.FunFrames X.base l->s.heap.FunFrames X.base l:=by
  intro l
  induction l with
  | nil=>intro _ _;trivial
  | cons env r ih =>
   intro hs hl;obtain ⟨hk,⟨L,o,hf,hn,ho,hd⟩,hr⟩:=hl;have hL:L ∈ X.fs:=hs L (by unfold frs;rw [List.filterMap_cons,hf];exact List.mem_cons_self);obtain ⟨sl,e⟩:=I.base.slot L o ho (I.ok.frf L hL) hL fun z=>I.ok.exfs L z hL
   exact ⟨hk,⟨L,_,hf,hn,e,hd⟩,ih (fun b hb=>hs b (by unfold frs;rw [List.filterMap_cons,hf];exact List.mem_cons_of_mem _ hb)) hr⟩
 exact all X.outer (fun _ hb=>hb) I.ok.funs
theorem Inv.stack (I:Inv X pins σ H s):s.heap.FunFrames X.base X.stack:=by
 rcases I.ok.stk with e | ⟨e,hf⟩
 ·rw [e];exact I.funs
 ·rw [e]
  obtain ⟨m,hn,_⟩:=I.loc;refine .cons (by rw [I.ok.kind];decide) hf hn ?_ I.funs;exact Heap.get?_none_of_le (Nat.le_trans I.ok.bsz I.ok.above)
theorem Inv.stkSub (I:Inv X pins σ H s):∀ b ∈ frs X.stack,b ∈ X.env.locals::X.fs:=fun b hb=>by
 rcases I.ok.stk with e | ⟨e,hf⟩
 ·rw [e] at hb;exact List.mem_cons_of_mem _ hb
 ·rw [e] at hb
  unfold frs at hb;rw [List.filterMap_cons,hf] at hb;exact hb
theorem Inv.stkFree (I:Inv X pins σ H s):∀ b ∈ frs X.stack,H b=none:=fun b hb=>by
 rcases List.mem_cons.mp (I.stkSub b hb) with e | hb
 ·rw [e];exact I.free
 ·obtain ⟨_,o,ho,_⟩:=I.ok.funs.mem hb
  exact I.base.free b o ho (I.ok.frf b hb) fun z=>I.ok.exfs b z hb
theorem Inv.step {g':Array GenState} {t':Nat} {d':Drawn} {ch:List Addr} (I:Inv X pins σ H s)
  (hch:∀ b ∈ ch,(b ∈ X.ex \/ X.s₀.heap.objs.size<=b) /\ b ≠ X.env.locals /\ (∀ x c,X.env.cells.lookup x=some c->c ≠ b) /\ ∀ p ∈ X.pn++pins,p.1 ≠ b)
  (keep:∀ b o,b ≠ X.env.locals->b ∉ X.fs->b ∉ ch->s.heap.get? b=some o->H b=none->h'.get? b=some o)
  (slot:∀ b o,b ≠ X.env.locals->b ∈ X.fs->b ∉ ch->s.heap.get? b=some o->H b=none->∃ sl,h'.get? b=some { o with slots:=sl }) (free:∀ b o,b ∉ ch->s.heap.get? b=some o->H b=none->H' b=none)
  (there:∀ b o,b ∉ ch->s.heap.get? b=some o->∃ o',h'.get? b=some o')
  (tups:∀ b xs,H b=some (.tup xs)->H' b=some (.tup xs)) (frzs:∀ b o (u:NK),H b=some (.frz o u.1)->H' b=some (.frz o u.1)) (tbls:∀ b ps,H b=some (.tbl ps)->∃ more,H' b=some (.tbl (ps++more)))
  (ns:∀ m,s.heap.Ns X.env.locals m->h'.Ns X.env.locals m) (hok:HOk X.prog X.w H' h') (hg:AllBare g') :
  Inv X pins σ H' { s with heap:=h',gens:=g',drawn:=d',toks:=t' }:=by
 have neL:∀ b o,X.s₀.heap.get? b=some o->b ≠ X.env.locals:=fun b o e=>Nat.ne_of_lt (Nat.lt_of_lt_of_le (Heap.lt_size e) I.ok.above)
 have neC:∀ b o,X.s₀.heap.get? b=some o->b ∉ X.ex->b ∉ ch:=fun b o e hx hb=>by
  rcases (hch b hb).1 with z | z
  ·exact hx z
  ·exact absurd (Nat.lt_of_lt_of_le (Heap.lt_size e) z) (Nat.lt_irrefl _)
 have cellK:∀ x c,X.env.cells.lookup x=some c->∀ v,s.heap.IsCell c v->h'.IsCell c v:=fun x c e v ⟨o,ho,hd⟩=>by
  have nch:c ∉ ch:=fun z=>(hch c z).2.2.1 x c e rfl
  by_cases hc:c ∈ X.fs
  ·obtain ⟨sl,q⟩:=slot c o (I.cne x c e) hc nch ho (I.freeC x c e)
   exact ⟨_,q,hd⟩
  ·exact ⟨o,keep c o (I.cne x c e) hc nch ho (I.freeC x c e),hd⟩
 refine ⟨I.ok,I.os,hg,⟨fun b o e n hb hx=>?_,fun b o e n hb hx=>?_,fun b o e n hx=>?_,fun b o e hx=>?_,fun b xs e=>tups b xs (I.base.tups b xs e),fun b o xs e=>frzs b o xs (I.base.frzs b o xs e),fun b ps e=>?_⟩,?_,fun x c e=>?_,?_,fun x c e=>?_,fun p hp=>?_,hok,I.len⟩
 ·exact keep b o (neL b o e) hb (neC b o e hx) (I.base.keep b o e n hb hx) (I.base.free b o e n hx)
 ·obtain ⟨sl,e1⟩:=I.base.slot b o e n hb hx
  obtain ⟨sl',e2⟩:=slot b _ (neL b o e) hb (neC b o e hx) e1 (I.base.free b o e n hx);exact ⟨sl',e2⟩
 ·obtain ⟨o',e1⟩:=I.base.there b o e hx
  exact free b o' (neC b o e hx) e1 (I.base.free b o e n hx)
 ·obtain ⟨o',e1⟩:=I.base.there b o e hx
  exact there b o' (neC b o e hx) e1
 ·obtain ⟨m1,e1⟩:=I.base.tbls b ps e
  obtain ⟨m2,e2⟩:=tbls b _ e1;exact ⟨m1++m2,by rw [e2,Array.append_assoc]⟩
 ·obtain ⟨m,hn,hl⟩:=I.loc
  refine ⟨m,ns m hn,fun i x v e1 e2 e3=>?_⟩;obtain ⟨u,r,l⟩:=hl i x v e1 e2 e3;refine ⟨u,r,?_⟩
  rcases l with l | ⟨k,c,e,z⟩
  ·exact .inl l
  ·exact .inr ⟨k,c,e,cellK x c e _ z⟩
 ·obtain ⟨v,z⟩:=I.cell x c e
  exact ⟨v,cellK x c e v z⟩
 ·obtain ⟨m,⟨o,_,_,ho,_⟩,_⟩:=I.loc
  exact free _ o (fun z=>(hch _ z).2.1 rfl) ho I.free
 ·obtain ⟨v,o,ho,hd⟩:=I.cell x c e
  exact free c o (fun z=>(hch c z).2.2.1 x c e rfl) ho (I.freeC x c e)
 ·obtain ⟨e,n,ne,nf,d⟩:=I.pin p hp
  have nch:p.1 ∉ ch:=fun z=>(hch p.1 z).2.2.2 p hp rfl
  exact ⟨keep p.1 p.2 ne nf nch e n,free p.1 p.2 nch e n,ne,nf,d⟩
theorem Inv.un {t':Nat} (I:Inv X pins σ H s) (u:Un X.fs [] H H' s.heap h') (hok:HOk X.prog X.w H' h'):Inv X pins σ H' { s with heap:=h',toks:=t' }:=by
 obtain ⟨m,⟨o,es,ep,ho,r⟩,_⟩:=id I.loc;obtain ⟨sl,hL⟩:=u.any ho I.free (by simp);exact I.step (g':=s.gens) (d':=s.drawn) (ch:=[]) (fun _ z=>nomatch z) (fun b o _ hb _ e n=>u.keep b o e n hb (by simp)) (fun b o _ hb _ e n=>u.slot b o e n hb (by simp)) (fun b o _ e n=>u.free b o e n (by simp)) (fun b o _ e=>u.there b o e (by simp)) u.tups u.frzs u.tbls (fun m' hm=>by
  obtain ⟨o',es',ep',ho',r'⟩:=hm;rw [ho] at ho';cases ho';exact ⟨_,es',ep',hL,r'⟩) hok I.bare
theorem Inv.call {g':Array GenState} {t':Nat} {d':Drawn} {ch:List Addr} (I:Inv X pins σ H s) (u:Un (frs X.stack) ch H H' s.heap h') (hok:HOk X.prog X.w H' h') (hg:AllBare g')
  (hch:∀ b ∈ ch,(b ∈ X.ex \/ X.s₀.heap.objs.size<=b) /\ b ≠ X.env.locals /\ (∀ x c,X.env.cells.lookup x=some c->c ≠ b) /\ ∀ p ∈ X.pn++pins,p.1 ≠ b) :
  Inv X pins σ H' { s with heap:=h',gens:=g',drawn:=d',toks:=t' }:=by
 obtain ⟨m,⟨o,es,ep,ho,r⟩,_⟩:=id I.loc;obtain ⟨sl,hL⟩:=u.any ho I.free fun z=>(hch _ z).2.1 rfl
 exact I.step (ch:=ch) hch (fun b o hL hb hc e n=>u.keep b o e n (fun z=>(List.mem_cons.mp (I.stkSub b z)).elim hL hb) hc) (fun b o _ _ hc e n=>u.any e n hc) (fun b o hc e n=>u.free b o e n hc) (fun b o hc e=>u.there b o e hc) u.tups u.frzs u.tbls (fun m' hm=>by
  obtain ⟨o',es',ep',ho',r'⟩:=hm;rw [ho] at ho';cases ho';exact ⟨_,es',ep',hL,r'⟩) hok hg
theorem Inv.turned {t':Nat} {it:Addr} (I:Inv X pins σ H s) (k:∀ b o,b ≠ it->s.heap.get? b=some o->h'.get? b=some o) (hn:H it=none) (hL:it ≠ X.env.locals)
  (h1:it ∈ X.ex \/ X.s₀.heap.objs.size<=it) (h2:∀ x c,X.env.cells.lookup x=some c->c ≠ it) (h3:∀ p ∈ X.pn++pins,p.1 ≠ it):Inv X pins σ H { s with heap:=h',toks:=t' }:=by
 have nit:∀ b u,H b=some u->b ≠ it:=fun b u e z=>by rw [z,hn] at e;cases e
 refine I.step (g':=s.gens) (d':=s.drawn) (ch:=[it]) (fun b hb=>?_) (fun b o _ _ hc e _=>k b o (fun z=>hc (by simp [z])) e) (fun b o _ _ hc e _=>⟨o.slots,k b o (fun z=>hc (by simp [z])) e⟩) (fun _ _ _ _ n=>n)
  (fun b o hc e=>⟨o,k b o (fun z=>hc (by simp [z])) e⟩) (fun _ _ e=>e) (fun _ _ _ e=>e) (fun b ps e=>⟨#[],by rw [e];simp⟩) (fun m hm=>?_) (fun b u e=>?_) I.bare
 ·have e:b=it:=by simpa using hb
  subst e;exact ⟨h1,hL,h2,h3⟩
 ·obtain ⟨o,es,ep,ho,r⟩:=hm
  exact ⟨o,es,ep,k _ o (Ne.symm hL) ho,r⟩
 ·refine (I.hok b u e).stay (fun c v hc q=>k c v ?_ q) (fun _ q=>q) fun _ _ q=>q
  rcases hc with z | z
  ·rw [z];exact nit b u e
  ·exact nit c _ z
theorem Inv.tok (I:Inv X pins σ H s) (t:Nat):Inv X pins σ H { s with toks:=t }:=I.un (h':=s.heap) (t':=t) Un.refl I.hok
theorem Inv.kept {t':Nat} (I:Inv X pins σ H s) (k:∀ b u,s.heap.get? b=some u->h'.get? b=some u):Inv X pins σ H { s with heap:=h',toks:=t' }:=I.un (Un.kept k) (I.hok.kept k)
theorem Inv.laid {a:Addr} {o:HO} {t':Nat} (I:Inv X pins σ H s) (k:∀ b u,s.heap.get? b=some u->h'.get? b=some u) (hp:s.heap.objs.size<=a) (new:ObjOk X.prog X.w (upd H a o) h' a o) :
  Inv X pins σ (upd H a o) { s with heap:=h',toks:=t' }:=I.un (Un.laid k hp (I.hok.fresh hp)) (I.hok.laid k hp new)
theorem Inv.write {x e:Addr} {o:HO} {t':Nat} (I:Inv X pins σ H s) (mu:Mut (H x)) (he:e=x \/ H e=some (.own x)) (k:∀ b u,b ≠ e->s.heap.get? b=some u->h'.get? b=some u) (heo:∃ u,h'.get? e=some u)
  (new:ObjOk X.prog X.w (upd H x o) h' x o):Inv X pins σ (upd H x o) { s with heap:=h',toks:=t' }:=I.un (Un.write mu he k heo) (I.hok.write mu he k heo new)
theorem Inv.pins_of {pins':List (Addr × Obj)} (I:Inv X pins σ H s) (h:∀ p ∈ pins',s.heap.get? p.1=some p.2 /\ H p.1=none /\ p.1 ≠ X.env.locals /\ p.1 ∉ X.fs /\ ∀ v,p.2.data ≠ .cell v):Inv X pins' σ H s :=
 ⟨I.ok,I.os,I.bare,I.base,I.loc,I.cell,I.free,I.freeC,fun p hp=>(List.mem_append.mp hp).elim (fun z=>I.pin p (List.mem_append_left _ z)) (h p),I.hok,I.len⟩
theorem ug6 {N:List Str} (hN:N.Nodup) {i j:Nat} {x:Str} (a:N[i]?=some x) (b:N[j]?=some x):i=j:=by
 obtain ⟨h1,e1⟩:=List.getElem?_eq_some_iff.mp a;obtain ⟨h2,e2⟩:=List.getElem?_eq_some_iff.mp b;exact (List.getElem_inj hN).mp (e1.trans e2.symm)
theorem uh9 {M:Model} {A:Around} {E:Value->Shared->Prop} {i:Nat} {x:Str} {v:V} {u:Value} {Q:Unit->Shared->Prop} (I:Inv X pins σ H s) (hN:X.N.Nodup) (hi:X.N[i]?=some x) (hx:Loc X.env.scope x) (r:RelV v u)
  (h:∀ s',Inv X pins (σ.set i (some v)) H s'->(∃ a,Heap.SameBut a s.heap s'.heap /\ (a=X.env.locals \/ X.env.cells.lookup x=some a))->Q () s') (hf:X.fn x=true \/ X.env.scope.names.lookup x=some .local:=by first | exact .inl rfl | exact .inr rfl | assumption):wpAny M A (storeName X.env x u) Q E s:=by
 obtain ⟨m,hn,hl⟩:=id I.loc;have hcls:(X.env.scope.kind == .class || (X.env.scope.kind == .module && X.env.locals != X.env.globals))=false:=by rw [I.ok.kind];rfl
 have hiσ:i < σ.length:=by rw [I.len];exact (List.getElem?_eq_some_iff.mp hi).1
 have cne:=I.cne;have tracked:∀ {a:Addr} {h':Heap},(∃ o,s.heap.get? a=some o /\ H a=none)->Heap.SameBut a s.heap h'->HOk X.prog X.w H h':=fun {a h'} ha hs b ob e=>by
  obtain ⟨_,_,hfree⟩:=ha;refine (I.hok b ob e).stay (fun c w' hc q=>(hs.2 c ?_).trans q) (fun _ q=>q) fun _ _ q=>q
  rintro rfl
  rcases hc with rfl | hc
  ·rw [hfree] at e;cases e
  ·rw [hfree] at hc;cases hc
 rcases hx with hk | hk
 ·refine wpAny_storeName_local hk hn (fun h' hn' hs=>?_) hcls
  obtain ⟨oL,_,_,hoL,_⟩:=id hn;refine h _ ⟨I.ok,I.os,I.bare,⟨fun b o e n hb hx=>?_,fun b o e n hb hx=>?_,I.base.free,fun b o e hx=>?_,I.base.tups,I.base.frzs,I.base.tbls⟩,⟨_,hn',fun j y v' e1 e2 e3=>?_⟩,fun y c e=>?_,I.free,I.freeC,fun p hp=>?_,tracked ⟨oL,hoL,I.free⟩ hs,by simpa using I.len⟩ ⟨_,hs,.inl rfl⟩
  ·exact (hs.2 b (Nat.ne_of_lt (Nat.lt_of_lt_of_le (Heap.lt_size e) I.ok.above))).trans (I.base.keep b o e n hb hx)
  ·obtain ⟨sl,e1⟩:=I.base.slot b o e n hb hx
   exact ⟨sl,(hs.2 b (Nat.ne_of_lt (Nat.lt_of_lt_of_le (Heap.lt_size e) I.ok.above))).trans e1⟩
  ·obtain ⟨o',e1⟩:=I.base.there b o e hx
   exact ⟨o',(hs.2 b (Nat.ne_of_lt (Nat.lt_of_lt_of_le (Heap.lt_size e) I.ok.above))).trans e1⟩
  ·by_cases hj:j=i
   ·subst hj
    rw [hi] at e1;cases e1;rw [List.getElem?_set_self hiσ] at e2;cases e2;exact ⟨u,r,.inl ⟨hk,by simp⟩⟩
   ·rw [List.getElem?_set_ne (Ne.symm hj)] at e2
    obtain ⟨u',r',q⟩:=hl j y v' e1 e2 e3;refine ⟨u',r',?_⟩
    rcases q with ⟨k,e⟩ | ⟨k,c,e,z⟩
    ·refine .inl ⟨k,?_⟩
     have:y ≠ x:=fun e=>hj (ug6 hN e1 (e ▸ hi))
     simp [this,e]
    ·exact .inr ⟨k,c,e,z.sameBut hs (cne y c e)⟩
  ·obtain ⟨w',z⟩:=I.cell y c e
   exact ⟨w',z.sameBut hs (cne y c e)⟩
  ·obtain ⟨e,n,ne,nf,d⟩:=I.pin p hp
   exact ⟨(hs.2 p.1 ne).trans e,n,ne,nf,d⟩
 ·have hfn:X.fn x=true:=by
   rcases hf with z | z
   ·exact z
   ·rw [z] at hk;cases hk
  obtain ⟨c,hc⟩:=I.ok.has x (.inl hk);obtain ⟨w',z⟩:=I.cell x c hc;refine wpAny_storeName_cell I.ok.kind hk hc z (fun h' hc' hs=>?_);obtain ⟨oc,hoc,hocd⟩:=id z;refine h { s with heap:=h' } ⟨I.ok,I.os,I.bare,⟨fun b o e n hb hx=>?_,fun b o e n hb hx=>?_,I.base.free,fun b o e hx=>?_,I.base.tups,I.base.frzs,I.base.tbls⟩,⟨m,hn.sameBut hs (Ne.symm (cne x c hc)),fun j y v' e1 e2 e3=>?_⟩,fun y c' e=>?_,I.free,I.freeC,fun p hp=>?_,tracked ⟨oc,hoc,I.freeC x c hc⟩ hs,by simpa using I.len⟩ ⟨c,hs,.inr hc⟩
  ·exact (hs.2 b (Nat.ne_of_lt (Nat.lt_of_lt_of_le (Heap.lt_size e) (I.ok.cab x c hfn hc)))).trans (I.base.keep b o e n hb hx)
  ·obtain ⟨sl,e1⟩:=I.base.slot b o e n hb hx
   exact ⟨sl,(hs.2 b (Nat.ne_of_lt (Nat.lt_of_lt_of_le (Heap.lt_size e) (I.ok.cab x c hfn hc)))).trans e1⟩
  ·obtain ⟨o',e1⟩:=I.base.there b o e hx
   exact ⟨o',(hs.2 b (Nat.ne_of_lt (Nat.lt_of_lt_of_le (Heap.lt_size e) (I.ok.cab x c hfn hc)))).trans e1⟩
  ·by_cases hj:j=i
   ·subst hj
    rw [hi] at e1;cases e1;rw [List.getElem?_set_self hiσ] at e2;cases e2;exact ⟨u,r,.inr ⟨.inl hk,c,hc,hc'⟩⟩
   ·rw [List.getElem?_set_ne (Ne.symm hj)] at e2
    obtain ⟨u',r',q⟩:=hl j y v' e1 e2 e3;refine ⟨u',r',?_⟩
    rcases q with q | ⟨k,c',e,z'⟩
    ·exact .inl q
    ·refine .inr ⟨k,c',e,z'.sameBut hs ?_⟩
     rintro rfl;exact hj (ug6 hN e1 (I.ok.inj _ _ _ e hc ▸ hi))
  ·by_cases hcc:c'=c
   ·subst hcc;exact ⟨_,hc'⟩
   ·obtain ⟨w2,z2⟩:=I.cell y c' e
    exact ⟨w2,z2.sameBut hs hcc⟩
  ·obtain ⟨e,n,ne,nf,d⟩:=I.pin p hp
   refine ⟨(hs.2 p.1 ?_).trans e,n,ne,nf,d⟩;intro q;rw [q,hoc] at e;have q':oc=p.2:=Option.some.inj e;exact d w' (by rw [<- q'];exact hocd)
theorem ua7 {M:Model} {A:Around} {E:Value->Shared->Prop} {i:Nat} {x:Str} {v:V} {u:Value} {Q:Unit->Shared->Prop} (I:Inv X pins σ H s) (hN:X.N.Nodup) (hi:X.N[i]?=some x) (hx:Loc X.env.scope x) (r:RelV v u)
  (h:∀ s',Inv X pins (σ.set i (some v)) H s'->Q () s') (hf:X.fn x=true \/ X.env.scope.names.lookup x=some .local:=by first | exact .inl rfl | exact .inr rfl | assumption):wpAny M A (storeName X.env x u) Q E s :=
 uh9 I hN hi hx r (fun s' I' _=>h s' I') hf
theorem Inv.call' {s':Shared} {ch:List Addr} (I:Inv X pins σ H s) (ho:s'.os=s.os) (u:Un (frs X.stack) ch H H' s.heap s'.heap) (hok:HOk X.prog X.w H' s'.heap) (hg:AllBare s'.gens)
  (hch:∀ b ∈ ch,(b ∈ X.ex \/ X.s₀.heap.objs.size<=b) /\ b ≠ X.env.locals /\ (∀ x c,X.env.cells.lookup x=some c->c ≠ b) /\ ∀ p ∈ X.pn++pins,p.1 ≠ b):Inv X pins σ H' s':=by
 obtain ⟨h',g',d',t',o'⟩:=s';have e:o'=s.os:=ho;subst e;exact I.call (g':=g') (t':=t') (d':=d') u hok hg hch
end
abbrev XK:=Value->Option Addr->Hp->Prop
abbrev St:=List (Option V)
abbrev VK:=V->Hp->Prop
abbrev TE:=St->Hp->VK->Prop
abbrev TT:=St->Hp->(Bool->Hp->Prop)->Prop
abbrev TA:=St->Hp->(List V->Hp->Prop)->Prop
structure Ends where
 nx:St->Hp->Prop
 rt:VK
 bk:St->Hp->Prop:=fun _ _=>False
 ct:St->Hp->Prop:=fun _ _=>False
abbrev TS:=Ends->St->Hp->Prop
def EP (X:Cx) (pins:List (Addr × Obj)) (σ:St) (Q:VK) (u:Value) (s':Shared):Prop:=∃ v H',Inv X pins σ H' s' /\ RelV v u /\ Q v H'
def TP (X:Cx) (pins:List (Addr × Obj)) (σ:St) (Q:Bool->Hp->Prop) (b:Bool) (s':Shared):Prop:=∃ H',Inv X pins σ H' s' /\ Q b H'
def AP (X:Cx) (pins:List (Addr × Obj)) (σ:St) (Q:List V->Hp->Prop) (us:List Value) (s':Shared):Prop:=∃ vs H',Inv X pins σ H' s' /\ Vals vs us /\ Q vs H'
def SP (X:Cx) (pins:List (Addr × Obj)) (D:Ends) (f:Flow) (s':Shared):Prop :=
 match f with
 | .next=>∃ σ' H',Inv X pins σ' H' s' /\ D.nx σ' H'
 | .brk=>∃ σ' H',Inv X pins σ' H' s' /\ D.bk σ' H'
 | .cont=>∃ σ' H',Inv X pins σ' H' s' /\ D.ct σ' H'
 | .ret u=>∃ v σ' H',Inv X pins σ' H' s' /\ RelV v u /\ D.rt v H'
def PE (X:Cx) (e:Expr) (t:TE):Prop :=
 ∀ (pins:List (Addr × Obj)) (s:Shared) (σ:St) (H:Hp) (Q:VK),Inv X pins σ H s->t σ H Q->wpAny (model X.prog X.w) X.A (eval e X.env) (EP X pins σ Q) X.xe s
def PT (X:Cx) (e:Expr) (t:TT):Prop :=
 ∀ (pins:List (Addr × Obj)) (s:Shared) (σ:St) (H:Hp) (Q:Bool->Hp->Prop),Inv X pins σ H s->t σ H Q->wpAny (model X.prog X.w) X.A (isTrue e X.env (eval e X.env)) (TP X pins σ Q) X.xe s
def PW (X:Cx) (e:Expr) (t:TT):Prop :=
 ∀ (whole:Sem Value) (pins:List (Addr × Obj)) (s:Shared) (σ:St) (H:Hp) (Q:Bool->Hp->Prop),Inv X pins σ H s->t σ H Q->wpAny (model X.prog X.w) X.A (isTrue e X.env whole) (TP X pins σ Q) X.xe s
theorem PW.pt {X:Cx} {e:Expr} {t:TT} (h:PW X e t):PT X e t:=h _
def PA (X:Cx) (es:List Expr) (t:TA):Prop :=
 ∀ (pos:Pos) (pins:List (Addr × Obj)) (s:Shared) (σ:St) (H:Hp) (Q:List V->Hp->Prop),Inv X pins σ H s->t σ H Q->wpAny (model X.prog X.w) X.A (spliced (backTo pos (starEach es X.env))) (AP X pins σ Q) X.xe s
def PS (X:Cx) (st:Stmt) (t:TS):Prop :=
 ∀ (pins:List (Addr × Obj)) (s:Shared) (σ:St) (H:Hp) (D:Ends),Inv X pins σ H s->t D σ H->wpAny (model X.prog X.w) X.A (exec st X.env) (SP X pins D) X.xe s
def PSs (X:Cx) (st:List Stmt) (t:TS):Prop :=
 ∀ (pins:List (Addr × Obj)) (s:Shared) (σ:St) (H:Hp) (D:Ends),Inv X pins σ H s->t D σ H->wpAny (model X.prog X.w) X.A (execs st X.env) (SP X pins D) X.xe s
theorem thn {α:Type} {t:Sem α} {Q Q':α->Shared->Prop} {M:Model} {A:Around} {E:Value->Shared->Prop} {s:Shared} (h:wpAny M A t Q E s) (hQ:∀ a s,Q a s->Q' a s):wpAny M A t Q' E s:=wpAny_mono h hQ fun _ _ x=>x
section
variable {X:Cx}
def tVar (i:Nat):TE:=fun σ H Q=>∃ v,σ[i]?=some (some v) /\ Q v H
def tC (v:V):TE:=fun _ H Q=>Q v H
theorem va0 {i:Nat} {x:Str} {pos:Pos} (hN:X.N[i]?=some x) (hv:Vis X.env.scope x) (hd:(x == ("__debug__" : Str))=false:=by decide) (hcd:(x == ("__classdict__" : Str))=false:=by decide):PE X (.Name x pos) (tVar i):=by
 intro pins s σ H Q I h;obtain ⟨v,e,h⟩:=h;obtain ⟨m,hn,hl⟩:=I.loc;obtain ⟨u,r,l⟩:=hl i x v hN e hv;have fin:EP X pins σ Q u s:=⟨v,H,I,r,h⟩
 rcases l with ⟨hk,hm⟩ | ⟨hk,c,hc,hcell⟩
 ·exact wpAny_Name (wpAny_loadName_local I.ok.kind hk hn hm fin) hd
 ·rcases hk with hk | hk
  ·exact wpAny_Name (wpAny_loadName_cell I.ok.kind hk hc hcell fin) hd
  ·exact wpAny_Name (wpAny_loadName_free I.ok.kind hk hc hcell fin hcd) hd
theorem vs1 {i j pos}:PE X (.Constant (.int i) j pos) (tC (.int i)):=fun _ _ _ H _ I h=>wpAny_Constant_int ⟨.int i,H,I.tok _,⟨_,rfl⟩,h⟩
theorem w45 {b j pos}:PE X (.Constant (.bool b) j pos) (tC (.bl b)):=fun _ _ _ H _ I h=>Constant_bool ⟨.bl b,H,I,rfl,h⟩
theorem vr9 {j pos}:PE X (.Constant .none j pos) (tC .non):=fun _ _ _ H _ I h=>Constant_none ⟨.non,H,I,rfl,h⟩
theorem vr7 {x j pos}:PE X (.Constant (.str x) j pos) (tC (.str x)):=fun _ _ _ H _ I h=>Calls.Constant_str ⟨.str x,H,I.tok _,⟨_,rfl⟩,h⟩
def Gl (X:Cx) (x:Str):Prop:=X.env.kindOf x=some .globalImplicit
theorem u84 {E:Value->Shared->Prop} {pins:List (Addr × Obj)} {s:Shared} {σ:St} {H:Hp} {x:Str} {u:Value} {pos:Pos} {Q:Value->Shared->Prop} (I:Inv X pins σ H s) (hg:Gl X x) (hm:X.mg x=some u) (h:Q u s)
  (hd:(x == ("__debug__" : Str))=false:=by decide):wpAny (model X.prog X.w) X.A (eval (.Name x pos) X.env) Q E s :=
 Calls.Name_function_global I.ok.kind hg (Calls.loadGlobal_global (by rw [I.ok.glob];exact I.mod.glob.keeps I.bk) hm h) hd
theorem uo0 {E:Value->Shared->Prop} {pins:List (Addr × Obj)} {s:Shared} {σ:St} {H:Hp} {x:Str} {u:Value} {pos:Pos} {Q:Value->Shared->Prop} (I:Inv X pins σ H s) (hg:Gl X x) (hm:X.mg x=none) (hv:bootBuiltins x=some u) (h:Q u s)
  (hn:x ≠ "__name__" := by decide) (hd:(x == ("__debug__" : Str))=false:=by decide):wpAny (model X.prog X.w) X.A (eval (.Name x pos) X.env) Q E s:=by
 obtain ⟨mb,h1,h2⟩:=I.mod.blt;exact Calls.Name_function_global I.ok.kind hg (Calls.loadGlobal_builtin (by rw [I.ok.glob];exact I.mod.glob.keeps I.bk) hm (by rw [I.ok.blt];exact h1.keeps I.bk) ((h2 x hn).trans hv) h) hd
theorem vg8 {x:Str} {v:V} {u:Value} {pos:Pos} (hg:Gl X x) (hm:X.mg x=some u) (r:RelV v u) (hd:(x == ("__debug__" : Str))=false:=by decide):PE X (.Name x pos) (tC v) :=
 fun _ _ _ H _ I h=>u84 I hg hm ⟨v,H,I,r,h⟩ hd
theorem vh0 {x:Str} {v:V} {u:Value} {pos:Pos} (hg:Gl X x) (hm:X.mg x=none) (hv:bootBuiltins x=some u) (r:RelV v u) (hn:x ≠ "__name__" := by decide) (hd:(x == ("__debug__" : Str))=false:=by decide):PE X (.Name x pos) (tC v) :=
 fun _ _ _ H _ I h=>uo0 I hg hm hv ⟨v,H,I,r,h⟩ hn hd
variable {a b:Expr} {ta tb:TE} {pos:Pos}
def tB (t:TE):TT:=fun σ H Q=>t σ H fun x H1=>∃ c,x=.bl c /\ Q c H1
theorem vq7 {e:Expr} {t:TE} (h:PE X e t) (he:∀ whole,isTrue e X.env whole=(do let v <- whole;standAt e.pos;holding [v] (truthy v)):=by intro _;rfl):PT X e (tB t):=by
 intro pins s σ H Q I hw
 (refine isTrue_plain (thn (h pins s σ H _ I hw) ?_) (he _);rintro v s1 ⟨x,H1,I1,r1,q1⟩)
 obtain ⟨d,rfl,q⟩:=q1;cases r1;exact wpAny_truthy_bool ⟨H1,I1,q⟩
variable {tA tB':TT} {rest:List Expr}
def tAnd (t u:TT):TT:=fun σ H Q=>t σ H fun c H1=>if c=true then u σ H1 Q else Q false H1
def tOr (t u:TT):TT:=fun σ H Q=>t σ H fun c H1=>if c=true then Q true H1 else u σ H1 Q
def tNot (t:TT):TT:=fun σ H Q=>t σ H fun c H1=>Q (!c) H1
theorem vf8 (ha:PT X a tA):PW X (.BoolOp .And [a] pos) tA:=by
 intro wh pins s σ H Q I h;refine isTrue_and (thn (ha pins s σ H Q I h) fun c s1 e=>?_);cases c with
 | true=>exact isTrue_and_nil e
 | false=>exact e
theorem vq5 (ha:PT X a tA):PW X (.BoolOp .Or [a] pos) tA:=by
 intro wh pins s σ H Q I h;refine isTrue_or (thn (ha pins s σ H Q I h) fun c s1 e=>?_);cases c with
 | false=>exact isTrue_or_nil e
 | true=>exact e
theorem vq6 (ha:PT X a tA) (hb:PW X (.BoolOp .And (b::rest) pos) tB'):PW X (.BoolOp .And (a::b::rest) pos) (tAnd tA tB'):=by
 intro wh pins s σ H Q I h
 (refine isTrue_and (thn (ha pins s σ H _ I h) ?_);rintro c s1 ⟨H1,I1,q1⟩)
 cases c with
 | true=>exact hb wh pins s1 σ H1 Q I1 q1
 | false=>exact ⟨H1,I1,q1⟩
theorem w39 (ha:PT X a tA) (hb:PW X (.BoolOp .Or (b::rest) pos) tB'):PW X (.BoolOp .Or (a::b::rest) pos) (tOr tA tB'):=by
 intro wh pins s σ H Q I h
 (refine isTrue_or (thn (ha pins s σ H _ I h) ?_);rintro c s1 ⟨H1,I1,q1⟩)
 cases c with
 | true=>exact ⟨H1,I1,q1⟩
 | false=>exact hb wh pins s1 σ H1 Q I1 q1
theorem vq8 (ha:PT X a tA):PT X (.UnaryOp .Not a pos) (tNot tA):=by
 intro pins s σ H Q I h;exact isTrue_not (ha pins s σ H (fun c H1=>Q (!c) H1) I h)
def vp4 (ta tb:TE):TE:=fun σ H Q=>ta σ H fun x H1=>∃ c,x=.bl c /\ if c=true then tb σ H1 Q else Q (.bl false) H1
theorem vr8 {op} {t:TE} (h:PE X a t):PE X (.BoolOp op [a] pos) t:=fun pins s σ H Q I hw=>BoolOp_one (h pins s σ H Q I hw)
theorem vs3 (ha:PE X a ta) (hb:PE X (.BoolOp .And (b::rest) pos) tb):PE X (.BoolOp .And (a::b::rest) pos) (vp4 ta tb):=by
 intro pins s σ H Q I h
 (refine BoolOp_and (thn (ha pins s σ H _ I h) ?_);rintro v s1 ⟨x,H1,I1,r1,q1⟩)
 obtain ⟨c,rfl,q1⟩:=q1;cases r1;refine wpAny_truthy_bool ?_;cases c with
 | true=>exact hb pins s1 σ H1 Q I1 q1
 | false=>exact ⟨.bl false,H1,I1,rfl,q1⟩
end
def SqL (K:W.Frag) (H:Hp) (a:Addr) (xs:List V):Prop :=
 Rd H a (.lst xs) \/
  ∃ (o:Obj) (its:Array Value) (n:Nat),K.lookup a=some o /\ o.cls=.type "list" /\ o.dict=none /\ o.data=.seq its n /\ its.size<=sizeLine /\ Vals xs its.toList
def SqT (K:W.Frag) (H:Hp) (a:Addr) (xs:List V):Prop :=
 Rd H a (.tup xs) \/
  ∃ (o:Obj) (its:Array Value) (n:Nat),K.lookup a=some o /\ o.cls=.type "tuple" /\ o.data=.seq its n /\ its.size<=sizeLine /\ Vals xs its.toList /\ o.dict=none
def absV:Value->Option V
 | .none=>some .non
 | .bool b=>some (.bl b)
 | .int i _=>some (.int i)
 | .str x _=>some (.str x)
 | .bytes b _=>some (.byt b)
 | .float b _=>some (.flt b)
 | .ref a=>some (.ref a)
 | .type n=>some (.ty n)
 | _=>none
theorem RelV.abs {x:V} {u:Value} (r:RelV x u):absV u=some x:=by
 cases x with
 | non=>cases r;rfl
 | bl _=>cases r;rfl
 | int _=>obtain ⟨t,rfl⟩:=r;rfl
 | str _=>obtain ⟨t,rfl⟩:=r;rfl
 | byt _=>obtain ⟨t,rfl⟩:=r;rfl
 | flt _=>obtain ⟨t,rfl⟩:=r;rfl
 | ref _=>cases r;rfl
 | ty _=>cases r;rfl
theorem RelV.inj {x y:V} {u:Value} (r:RelV x u) (q:RelV y u):x=y:=Option.some.inj (r.abs.symm.trans q.abs)
theorem Vals.inj:∀ {xs ys:List V} {us:List Value},Vals xs us->Vals ys us->xs=ys
 | _,_,_,.nil,.nil=>rfl
 | _,_,_,.cons r t,.cons r' t'=>by rw [r.inj r',Vals.inj t t']
section
variable {X:Cx} {pins:List (Addr × Obj)} {σ:St} {H:Hp} {s:Shared} {a:Addr} {xs ys:List V}
theorem SqL.of {K:W.Frag} (h:H a=some (.lst xs)):SqL K H a xs:=.inl (.inl h)
theorem SqT.of {K:W.Frag} (h:H a=some (.tup xs)):SqT K H a xs:=.inl (.inl h)
theorem Inv.list (I:Inv X pins σ H s) (h:SqL X.K H a xs):∃ its:List Value,Vals xs its /\ PlainL s.heap a its.toArray /\ xs.length<=sizeLine:=by
 rcases h with h | ⟨o,its,n,hk,hc,hd,hs,hz,r⟩
 ·obtain ⟨z,its,n,r,e⟩:=h.ok I.hok
  exact ⟨its,r,⟨_,n,e,rfl,rfl,rfl⟩,z⟩
 ·refine ⟨its.toList,r,⟨o,n,I.kIn a o hk,hc,hd,by simpa using hs⟩,?_⟩
  have e:=r.length;simp only [Array.length_toList] at e;omega
theorem Inv.tuple (I:Inv X pins σ H s) (h:SqT X.K H a xs):∃ its:List Value,Vals xs its /\ IsTup s.heap a its.toArray /\ xs.length<=sizeLine:=by
 rcases h with h | ⟨o,its,n,hk,hc,hs,hz,r,_⟩
 ·obtain ⟨z,its,r,p⟩:=h.ok I.hok
  exact ⟨its,r,p.tup,z⟩
 ·refine ⟨its.toList,r,⟨o,I.kIn a o hk,hc,n,by simpa using hs⟩,?_⟩
  have e:=r.length;simp only [Array.length_toList] at e;omega
theorem Inv.list_inj (I:Inv X pins σ H s) (h:SqL X.K H a xs) (h':SqL X.K H a ys):xs=ys:=by
 obtain ⟨its,r,⟨o,n,e,_,_,d⟩,_⟩:=I.list h;obtain ⟨its',r',⟨o',n',e',_,_,d'⟩,_⟩:=I.list h';rw [e] at e';cases e';rw [d] at d';injection d' with d1 _
 have:its=its':=by simpa using congrArg Array.toList d1
 subst this;exact r.inj r'
theorem Inv.tuple_inj (I:Inv X pins σ H s) (h:SqT X.K H a xs) (h':SqT X.K H a ys):xs=ys:=by
 obtain ⟨its,r,⟨o,e,_,n,d⟩,_⟩:=I.tuple h;obtain ⟨its',r',⟨o',e',_,n',d'⟩,_⟩:=I.tuple h';rw [e] at e';cases e';rw [d] at d';injection d' with d1 _
 have:its=its':=by simpa using congrArg Array.toList d1
 subst this;exact r.inj r'
end
abbrev Cx.wish (X:Cx) (E:Value->Shared->Prop):Cx:={ X with xe:=E }
abbrev Cx.nox (X:Cx):Cx:=X.wish fun _ _=>False
theorem Cx.Ok.wish {X:Cx} (ok:X.Ok) (E:Value->Shared->Prop):(X.wish E).Ok :=
 ⟨ok.mod,ok.kind,ok.glob,ok.blt,ok.above,ok.inj,ok.has,ok.cab,ok.hd,ok.frames,ok.stk,ok.exf,ok.bs,ok.bsz,ok.noex,ok.exfs,ok.funs,ok.frf⟩
theorem Cx.Ok.unwish {X:Cx} {E:Value->Shared->Prop} (ok:(X.wish E).Ok):X.Ok :=
 ⟨ok.mod,ok.kind,ok.glob,ok.blt,ok.above,ok.inj,ok.has,ok.cab,ok.hd,ok.frames,ok.stk,ok.exf,ok.bs,ok.bsz,ok.noex,ok.exfs,ok.funs,ok.frf⟩
section
variable {X:Cx} {pins:List (Addr × Obj)} {σ:St} {H:Hp} {s:Shared} {E:Value->Shared->Prop}
theorem Inv.wish (I:Inv X pins σ H s) (E:Value->Shared->Prop):Inv (X.wish E) pins σ H s:=⟨I.ok.wish E,I.os,I.bare,I.base,I.loc,I.cell,I.free,I.freeC,I.pin,I.hok,I.len⟩
theorem Inv.unwish (I:Inv (X.wish E) pins σ H s):Inv X pins σ H s:=⟨I.ok.unwish,I.os,I.bare,I.base,I.loc,I.cell,I.free,I.freeC,I.pin,I.hok,I.len⟩
theorem SP.unwish {D:Ends} {f:Flow} {s':Shared} (h:SP (X.wish E) pins D f s'):SP X pins D f s':=by
 cases f with
 | next=>obtain ⟨σ',H',I,q⟩:=h;exact ⟨σ',H',I.unwish,q⟩
 | brk=>obtain ⟨σ',H',I,q⟩:=h;exact ⟨σ',H',I.unwish,q⟩
 | cont=>obtain ⟨σ',H',I,q⟩:=h;exact ⟨σ',H',I.unwish,q⟩
 | ret u=>obtain ⟨v,σ',H',I,r,q⟩:=h;exact ⟨v,σ',H',I.unwish,r,q⟩
theorem PE.nox {e:Expr} {t:TE} (h:PE X.nox e t):PE X e t:=fun pins s σ H Q I hw =>
 wpAny_mono (h pins s σ H Q (I.wish _) hw) (fun _ _ ⟨v,H',I',r,q⟩=>⟨v,H',I'.unwish,r,q⟩) fun _ _ z=>False.elim z
theorem PT.nox {e:Expr} {t:TT} (h:PT X.nox e t):PT X e t:=fun pins s σ H Q I hw =>
 wpAny_mono (h pins s σ H Q (I.wish _) hw) (fun _ _ ⟨H',I',q⟩=>⟨H',I'.unwish,q⟩) fun _ _ z=>False.elim z
theorem PSs.nox {st:List Stmt} {t:TS} (h:PSs X.nox st t):PSs X st t:=fun pins s σ H D I hw =>
 wpAny_mono (h pins s σ H D (I.wish _) hw) (fun _ _ q=>q.unwish) fun _ _ z=>False.elim z
end
section
variable {X:Cx} {st:Stmt} {rest:List Stmt} {t u:TS} {e:Expr} {te:TE} {pos:Pos}
def vp1:TS:=fun D σ H=>D.nx σ H
def tSeq (t u:TS):TS:=fun D σ H=>t { D with nx:=u D } σ H
theorem vg0:PSs X [] vp1:=fun _ _ σ H _ I h=>wpAny_execs_nil ⟨σ,H,I,h⟩
theorem ua8 (h1:PS X st t) (h2:PSs X rest u):PSs X (st::rest) (tSeq t u):=by
 intro pins s σ H D I h;refine wpAny_execs_cons (thn (h1 pins s σ H { D with nx:=u D } I h) fun f s1 q=>?_);cases f with
 | next =>
  obtain ⟨σ',H',I',q⟩:=q;exact h2 pins s1 σ' H' D I' q
 | ret v=>exact q
 | brk=>exact q
 | cont=>exact q
theorem ug1 (h1:PS X st t):PSs X [st] t:=by
 intro pins s σ H D I h;refine wpAny_execs_cons (thn (h1 pins s σ H D I h) fun f s1 q=>?_);cases f with
 | next=>exact wpAny_execs_nil q
 | ret v=>exact q
 | brk=>exact q
 | cont=>exact q
theorem Inv.quiet {pins:List (Addr × Obj)} {σ:St} {H:Hp} {s:Shared} (I:Inv X pins σ H s):interactive X.env=false:=by simp [interactive,I.ok.kind]
def vc8 (te:TE):TS:=fun D σ H=>te σ H fun _ H1=>D.nx σ H1
theorem ug2 (he:PE X e te) (hs:swapsWith e none pos.line X.env=pure false:=by rfl):PS X (.Expr e pos) (vc8 te):=by
 intro pins s σ H D I h
 (refine wpAny_Expr_any (thn (he pins s σ H _ I h) ?_) I.quiet hs;rintro v s1 ⟨x,H1,I1,r1,q1⟩;exact ⟨σ,H1,I1,q1⟩)
def tRet (te:TE):TS:=fun D σ H=>te σ H D.rt
theorem vr0 (he:PE X e te):PS X (.Return (some e) pos) (tRet te):=by
 intro pins s σ H D I h
 (refine wpAny_Return_some (thn (he pins s σ H _ I h) ?_);rintro v s1 ⟨x,H1,I1,r1,q1⟩;exact ⟨x,σ,H1,I1,r1,q1⟩)
def tIfS (c:TT) (t u:TS):TS:=fun D σ H=>c σ H fun b H1=>if b=true then t D σ H1 else u D σ H1
theorem w40 {c:Expr} {a b:List Stmt} {tc:TT} (hc:PT X c tc) (ha:PSs X a t) (hb:PSs X b u):PS X (.If c a b pos) (tIfS tc t u):=by
 intro pins s σ H D I h
 (refine wpAny_If (thn (hc pins s σ H _ I h) ?_);rintro d s1 ⟨H1,I1,q1⟩)
 cases d with
 | true=>exact ha pins s1 σ H1 D I1 q1
 | false=>exact hb pins s1 σ H1 D I1 q1
end
abbrev TG:=V->St->Hp->(St->Hp->Prop)->Prop
abbrev TGs:=List V->St->Hp->(St->Hp->Prop)->Prop
def PG (X:Cx) (target:Expr) (t:TG):Prop :=
 ∀ (pins:List (Addr × Obj)) (s:Shared) (σ:St) (H:Hp) (v:V) (u:Value) (Q:St->Hp->Prop),Inv X pins σ H s->RelV v u->t v σ H Q ->
  wpAny (model X.prog X.w) X.A (assign target X.env u) (fun _ s'=>∃ σ' H',Inv X pins σ' H' s' /\ Q σ' H') X.xe s
def PGs (X:Cx) (ts:List Expr) (t:TGs):Prop :=
 ∀ (pins:List (Addr × Obj)) (s:Shared) (σ:St) (H:Hp) (vs:List V) (us:List Value) (Q:St->Hp->Prop),Inv X pins σ H s->Vals vs us->t vs σ H Q ->
  wpAny (model X.prog X.w) X.A (assignInOrder ((assignEach ts X.env).map (·.2)) us) (fun _ s'=>∃ σ' H',Inv X pins σ' H' s' /\ Q σ' H') X.xe s
abbrev TSet:=V->V->V->Hp->(Hp->Prop)->Prop
def PSet (X:Cx) (t:TSet):Prop :=
 ∀ (pins:List (Addr × Obj)) (s:Shared) (σ:St) (H:Hp) (o i v:V) (ov iv u:Value) (Q:Hp->Prop),Inv X pins σ H s->RelV o ov->RelV i iv->RelV v u->t o i v H Q ->
  wpAny (model X.prog X.w) X.A (setItem ov iv u) (fun _ s'=>∃ H',Inv X pins σ H' s' /\ Q H') X.xe s
section
variable {X:Cx} {pos:Pos}
def vk1 (i:Nat):TG:=fun v σ H Q=>Q (σ.set i (some v)) H
theorem vg6 {i:Nat} {x:Str} (hN:X.N.Nodup) (hi:X.N[i]?=some x) (hx:Loc X.env.scope x) (hf:X.fn x=true \/ X.env.scope.names.lookup x=some .local:=by first | exact .inl rfl | exact .inr rfl | assumption):PG X (.Name x pos) (vk1 i):=by
 intro pins s σ H v u Q I r h;exact wpAny_assign_Name (ua7 I hN hi hx r (fun s' I'=>⟨_,H,I',h⟩) hf)
def gNil:TGs:=fun vs σ H Q=>vs=[] /\ Q σ H
def vy7 (t:TG) (u:TGs):TGs:=fun vs σ H Q=>∃ v r,vs=v::r /\ t v σ H fun σ' H'=>u r σ' H' Q
theorem vg5:PGs X [] gNil:=by
 intro pins s σ H vs us Q I r h;obtain ⟨e,h⟩:=h;subst e;cases r;exact assignInOrder_nil ⟨σ,H,I,h⟩
theorem v33 {e:Expr} {es:List Expr} {t:TG} {u:TGs} (h1:PG X e t) (h2:PGs X es u)
  (hs:(assignEach (e::es) X.env).map (·.2)=assign e X.env::(assignEach es X.env).map (·.2):=by rfl):PGs X (e::es) (vy7 t u):=by
 intro pins s σ H vs us Q I r h;obtain ⟨v,vr,e1,h⟩:=h;subst e1;cases r with
 | cons r rr =>
  rw [hs]
  (refine assignInOrder_cons (thn (h1 pins s σ H _ _ _ I r h) ?_);rintro _ s1 ⟨σ1,H1,I1,q1⟩)
  exact h2 pins s1 σ1 H1 _ _ Q I1 rr q1
def gTup (K:W.Frag) (n:Nat) (t:TGs):TG:=fun v σ H Q=>∃ a xs,v=.ref a /\ SqT K H a xs /\ xs.length=n /\ t xs σ H Q
theorem vr4 {es:List Expr} {k:Nat} {t:TGs} {n:Nat} (hc:X.calm=true) (h:PGs X es t)
  (hn:(assignEach es X.env).length=n:=by rfl) (hst:(assignEach es X.env).findIdx? (·.1)=none:=by rfl):PG X (.Tuple es k pos) (gTup X.K n t):=by
 intro pins s σ H v u Q I r hw;obtain ⟨a,xs,e1,hq,hl,hw⟩:=hw;subst e1;cases r;obtain ⟨its,rv,ht,hz⟩:=I.tuple hq;refine assign_Tuple_tuple (I.ok.hd hc) ht (by simp [hn,<- hl,rv.length]) hst fun h' hx=>?_
 have I1:Inv X pins σ H { s with heap:=h' }:=I.kept (t':=s.toks) fun b o e=>hx b o (Nat.ne_of_lt (Heap.lt_size e)) e
 exact h pins _ σ H xs _ Q I1 (by simpa using rv) hw
def gSub (to ti:TE) (t:TSet):TG:=fun v σ H Q=>to σ H fun o H1=>ti σ H1 fun i H2=>t o i v H2 fun H3=>Q σ H3
theorem vr5 {o i:Expr} {to ti:TE} {t:TSet} (ho:PE X o to) (hi:PE X i ti) (hs:PSet X t)
  (ha:∀ v,assign (.Subscript o i pos) X.env v=(do
   let ov <- holding [v] (eval o X.env)
   let iv <- holding [v,ov] (eval i X.env)
   standAt pos
   holding [v,ov,iv] (setItem ov iv v)
   release [v,ov,iv] []):=by intro _;rfl):PG X (.Subscript o i pos) (gSub to ti t):=by
 intro pins s σ H v u Q I r h;rw [ha]
 (refine wpAny_bind (wpAny_holding (thn (ho pins s σ H _ I h) ?_));rintro ov s1 ⟨x,H1,I1,r1,q1⟩)
 (refine wpAny_bind (wpAny_holding (thn (hi pins s1 σ H1 _ I1 q1) ?_));rintro iv s2 ⟨y,H2,I2,r2,q2⟩)
 (refine wpAny_bind (wpAny_standAt (wpAny_bind (wpAny_holding (thn (hs pins s2 σ H2 x y v ov iv u _ I2 r1 r2 r q2) ?_))));rintro _ s3 ⟨H3,I3,q3⟩)
 exact wpAny_release ⟨σ,H3,I3,q3⟩
def tAsg (te:TE) (g:TG):TS:=fun D σ H=>te σ H fun x H1=>g x σ H1 D.nx
theorem vr2 {tg e:Expr} {te:TE} {g:TG} (he:PE X e te) (hg:PG X tg g) (hs:swapsWithSole [tg] e pos.line X.env=pure false:=by rfl) (hw:swappedStores [tg] e X.env=pure none:=by rfl)
  (h1:(assignEach [tg] X.env).map (·.2)=[assign tg X.env]:=by rfl):PS X (.Assign [tg] e pos) (tAsg te g):=by
 intro pins s σ H D I h
 (refine wpAny_Assign_stores (thn (he pins s σ H _ I h) ?_) hs hw;rintro v s1 ⟨x,H1,I1,r1,q1⟩)
 rw [h1];exact thn (hg pins s1 σ H1 x v _ I1 r1 q1) fun _ s2 q=>q
theorem vq9 {i:Nat} {x:Str} {e:Expr} {te:TE} {pos':Pos} (hN:X.N.Nodup) (hi:X.N[i]?=some x) (hx:Loc X.env.scope x) (he:PE X e te) (hs:swapsWith e (some (.Name x pos')) pos.line X.env=pure false:=by rfl) (hf:X.fn x=true \/ X.env.scope.names.lookup x=some .local:=by first | exact .inl rfl | exact .inr rfl | assumption) :
  PS X (.Assign [.Name x pos'] e pos) (tAsg te (vk1 i)):=by
 intro pins s σ H D I h
 (refine wpAny_Assign_Name (thn (he pins s σ H _ I h) ?_) hs;rintro v s1 ⟨y,H1,I1,r1,q1⟩)
 exact ua7 I1 hN hi hx r1 (fun s2 I2=>⟨_,H1,I2,q1⟩) hf
end
section
variable {X:Cx} {pos:Pos}
def v89 (c:TT) (tb:TS):TS:=fun D σ H=>∃ W:Nat->St->Hp->Prop,(∃ m,W m σ H) /\ ∀ m σ H,W m σ H ->
 c σ H fun b H1=>if b=true then ∃ N:St->Hp->Prop,(∀ σ' H',N σ' H'->∃ m',m' < m /\ W m' σ' H') /\ tb { D with nx:=N,ct:=N,bk:=D.nx } σ H1 else D.nx σ H1
theorem v29 {c:Expr} {body:List Stmt} {tc:TT} {tb:TS} (hp:PassesOwn (model X.prog X.w) X.A X.env X.xe) (hc:PT X c tc) (hb:PSs X body tb):PS X (.While c body [] pos) (v89 tc tb):=by
 intro pins s σ H D I h;obtain ⟨W,⟨m0,w0⟩,turn⟩:=h;refine wpAny_While (codeAny_whileLoop (fun n s'=>∃ σ' H',Inv X pins σ' H' s' /\ W n σ' H') ?_ m0 ⟨σ,H,I,w0⟩);rintro n s1 ⟨σ1,H1,I1,w1⟩
 (refine wpAny_passesOwn hp (thn (hc pins s1 σ1 H1 _ I1 (turn n σ1 H1 w1)) ?_);rintro b s2 ⟨H2,I2,q2⟩)
 cases b with
 | true =>
  obtain ⟨N,hN,q2⟩:=q2;rw [if_pos rfl];refine wpAny_passesOwn hp (thn (hb pins s2 σ1 H2 _ I2 q2) fun f s3 q3=>?_);cases f with
  | next =>
   obtain ⟨σ3,H3,I3,n3⟩:=q3;obtain ⟨m',hm,w3⟩:=hN σ3 H3 n3;exact ⟨m',hm,σ3,H3,I3,w3⟩
  | cont =>
   obtain ⟨σ3,H3,I3,n3⟩:=q3;obtain ⟨m',hm,w3⟩:=hN σ3 H3 n3;exact ⟨m',hm,σ3,H3,I3,w3⟩
  | brk=>exact q3
  | ret v=>exact q3
 | false =>
  rw [if_neg Bool.false_ne_true];exact wpAny_execs_nil ⟨σ1,H2,I2,q2⟩
end
structure It where
 go:Nat->Hp->Prop
 yld:Nat->Hp->V->Hp->Prop
 stop:Nat->Hp->Prop
def FpOk (X:Cx) (pins:List (Addr × Obj)) (H:Hp) (b:Addr):Prop :=
 H b=none /\ b ≠ X.env.locals /\ b ∉ X.fs /\ (b ∈ X.ex \/ X.s₀.heap.objs.size<=b) /\ (∀ x c,X.env.cells.lookup x=some c->c ≠ b) /\ ∀ p ∈ X.pn++pins,p.1 ≠ b
theorem Inv.fpOk {X:Cx} {pins:List (Addr × Obj)} {σ:St} {H H':Hp} {s:Shared} {b:Addr} (I:Inv X pins σ H s) (hb:s.heap.objs.size<=b) (hn:H' b=none):FpOk X pins H' b:=by
 refine ⟨hn,Nat.ne_of_gt (Nat.lt_of_lt_of_le I.lt hb),I.nofs hb,.inr (Nat.le_trans I.sz hb),fun x c e z=>?_,fun p hp z=>?_⟩
 ·obtain ⟨v,q⟩:=I.cell x c e
  exact absurd (Nat.lt_of_lt_of_le q.lt (by rw [z];exact hb)) (Nat.lt_irrefl _)
 ·exact absurd (Nat.lt_of_lt_of_le (Heap.lt_size (I.pin p hp).1) (by rw [z];exact hb)) (Nat.lt_irrefl _)
structure Turn (P:Program) (w:World) (K:W.Frag) (tg:Expr) (J:It) (fp:List Addr) (it:Addr) (tn:Nat->Heap->Prop):Prop where
 mem:it ∈ fp
 obj:∀ i h,tn i h->∀ b ∈ fp,∃ o,h.get? b=some o /\ ∀ v,o.data ≠ .cell v
 keep:∀ i h h',tn i h->(∀ b ∈ fp,∀ o,h.get? b=some o->h'.get? b=some o)->tn i h'
 item:∀ (X:Cx),X.prog=P->X.w=w->X.K=K->X.calm=true->∀ (i:Nat) (pins:List (Addr × Obj)) (s:Shared) (σ:St) (H:Hp) (E:Value->Shared->Prop),Inv X pins σ H s->(∀ b ∈ fp,FpOk X pins H b)->tn i s.heap->J.go i H ->
  wpAny (model P w) X.A (pyNext (.ref it)) (fun r s1=>∃ u,r=some u /\
   wpAny (model P w) X.A (letOwnedTupleGo tg (.ref it) u) (fun _ s2=>∃ x H',Inv X pins σ H' s2 /\ RelV x u /\ J.yld i H x H' /\ tn (i+1) s2.heap /\ ∀ b ∈ fp,H' b=none) E s1) E s
 done:∀ (X:Cx),X.prog=P->X.w=w->X.K=K->X.calm=true->∀ (i:Nat) (pins:List (Addr × Obj)) (s:Shared) (σ:St) (H:Hp) (E:Value->Shared->Prop),Inv X pins σ H s->(∀ b ∈ fp,FpOk X pins H b)->tn i s.heap->J.stop i H ->
  wpAny (model P w) X.A (pyNext (.ref it)) (fun r s1=>r=none /\ Inv X pins σ H s1) E s
 self:∀ (A:Around) (i:Nat) (s:Shared) (Q:Value->Shared->Prop) (E:Value->Shared->Prop),tn i s.heap->Q (.ref it) s->wpAny (model P w) A (pyIter (.ref it)) Q E s
abbrev TI:=St->Hp->(It->Hp->Prop)->Prop
def PIE (X:Cx) (pins:List (Addr × Obj)) (σ:St) (tg:Expr) (R:It->Hp->Prop) (itv:Value) (s2:Shared):Prop :=
 ∃ (it:Addr) (fp:List Addr) (tn:Nat->Heap->Prop) (J:It) (H':Hp),itv=.ref it /\ Inv X pins σ H' s2 /\ Turn X.prog X.w X.K tg J fp it tn /\ tn 0 s2.heap /\ (∀ b ∈ fp,FpOk X pins H' b) /\ R J H'
def PI (X:Cx) (tg iter:Expr) (wi:TI):Prop :=
 ∀ (pins:List (Addr × Obj)) (s:Shared) (σ:St) (H:Hp) (R:It->Hp->Prop),Inv X pins σ H s->wi σ H R ->
  wpAny (model X.prog X.w) X.A (eval iter X.env) (fun v s1=>wpAny (model X.prog X.w) X.A (pyIter v) (PIE X pins σ tg R) X.xe s1) X.xe s
theorem vk0 {M : Model} {A : Around} {E : Value -> Shared -> Prop} {s : Shared} {tg : Expr} {it : Addr} {u : Value} {o : Obj} {n : String} {vs : Array Value} {Q : Unit -> Shared -> Prop} (ho : s.heap.get? it = some o) (hc : o.cls = .type n) (hd : o.data = .fields vs)
    (hn:["enumerate", "zip", "dict_itemiterator", "dict_reverseitemiterator", "odict_iterator", "itertools.zip_longest", "itertools.pairwise"].contains n=false) (hQ:Q () s):wpAny M A (letOwnedTupleGo tg (.ref it) u) Q E s:=by
  unfold letOwnedTupleGo;cases tg <;> first
    | exact wpAny_pure hQ
    | (cases u <;> first
        | exact wpAny_pure hQ
        | (refine wpAny_bind (wpAny_load ho ?_)
           rw [hc,hd]
           show wpAny M A (if (["enumerate", "zip", "dict_itemiterator", "dict_reverseitemiterator", "odict_iterator", "itertools.zip_longest", "itertools.pairwise"].contains n && vs[0]? == some (rawInt _))=true then _ else _) Q E s
           rw [if_neg (by intro h;rw [hn,Bool.false_and] at h;cases h)];exact wpAny_pure hQ))
def Itl (K:W.Frag) (a:Addr):It :=
 ⟨fun i H=>∃ xs x,SqL K H a xs /\ xs[i]?=some x,fun i H x H'=>H'=H /\ ∀ xs,SqL K H a xs->xs[i]?=some x,fun i H=>∃ xs,SqL K H a xs /\ xs.length<=i⟩
def Itt (K:W.Frag) (a:Addr):It :=
 ⟨fun i H=>∃ xs x,SqT K H a xs /\ xs[i]?=some x,fun i H x H'=>H'=H /\ ∀ xs,SqT K H a xs->xs[i]?=some x,fun i H=>∃ xs,SqT K H a xs /\ xs.length<=i⟩
def Itr (lo:Int) (n:Nat):It:=⟨fun i _=>i < n,fun i H x H'=>H'=H /\ x=.int (lo+i),fun i _=>n<=i⟩
theorem us8 {P:Program} {w:World} {K:W.Frag} {tg:Expr} (a it:Addr):Turn P w K tg (Itl K a) [it] it (fun i h=>h.IsListIter it a i) where
 mem:=by simp
 obj:=fun i h st b hb=>by
  have e:b=it:=by simpa using hb
  subst e;obtain ⟨o,e,c,d⟩:=st;exact ⟨o,e,fun v z=>by rw [d] at z;cases z⟩
 keep:=fun i h h' st k=>st.at fun o e=>k it (by simp) o e
 item:=by
  intro X hP hw hK hc i pins s σ H E I hf st hg;subst hP hw hK;obtain ⟨xs,x,hq,hx⟩:=hg;obtain ⟨its,rv,p,hz⟩:=I.list hq;obtain ⟨u,hu,ru⟩:=rv.get hx;obtain ⟨f0,f1,f2,f3,f4,f5⟩:=hf it (by simp);refine wpAny_pyNext_list_item st p.isList (x:=u) (by simpa using hu) fun h' st' sb=>?_
  have I1:Inv X pins σ H { s with heap:=h' }:=I.turned (t':=s.toks) (fun b o hb e=>(sb.2 b hb).trans e) f0 f1 f3 f4 f5
  obtain ⟨o,e,c,d⟩:=id st';exact ⟨u,rfl,vk0 (s:={ s with heap:=h' }) e c d (by decide) ⟨x,H,I1,ru,⟨rfl,fun ys hy=>by rw [I.list_inj hy hq];exact hx⟩,st',fun b hb=>(hf b hb).1⟩⟩
 done:=by
  intro X hP hw hK hc i pins s σ H E I hf st hg;subst hP hw hK;obtain ⟨xs,hq,hx⟩:=hg;obtain ⟨its,rv,p,hz⟩:=I.list hq;obtain ⟨f0,f1,f2,f3,f4,f5⟩:=hf it (by simp);have hl:=rv.length;exact wpAny_pyNext_list_end (I.ok.hd hc) st p.isList (by simp;omega) fun h' eb=>⟨rfl,I.turned (t':=s.toks) (fun b o hb e=>eb b o hb e) f0 f1 f3 f4 f5⟩
 self:=fun _ _ _ _ _ st h=>wpAny_pyIter_listiter st h
theorem up7 {P:Program} {w:World} {K:W.Frag} {tg:Expr} (a it:Addr):Turn P w K tg (Itt K a) [it] it (fun i h=>h.IsTupleIter it a i) where
 mem:=by simp
 obj:=fun i h st b hb=>by
  have e:b=it:=by simpa using hb
  subst e;obtain ⟨o,e,c,d⟩:=st;exact ⟨o,e,fun v z=>by rw [d] at z;cases z⟩
 keep:=fun i h h' st k=>st.at fun o e=>k it (by simp) o e
 item:=by
  intro X hP hw hK hc i pins s σ H E I hf st hg;subst hP hw hK;obtain ⟨xs,x,hq,hx⟩:=hg;obtain ⟨its,rv,p,hz⟩:=I.tuple hq;obtain ⟨u,hu,ru⟩:=rv.get hx;obtain ⟨f0,f1,f2,f3,f4,f5⟩:=hf it (by simp);refine wpAny_pyNext_tuple_item st (show s.heap.IsTuple a its.toArray from p) (x:=u) (by simpa using hu) fun h' st' sb=>?_
  have I1:Inv X pins σ H { s with heap:=h' }:=I.turned (t':=s.toks) (fun b o hb e=>(sb.2 b hb).trans e) f0 f1 f3 f4 f5
  obtain ⟨o,e,c,d⟩:=id st';exact ⟨u,rfl,vk0 (s:={ s with heap:=h' }) e c d (by decide) ⟨x,H,I1,ru,⟨rfl,fun ys hy=>by rw [I.tuple_inj hy hq];exact hx⟩,st',fun b hb=>(hf b hb).1⟩⟩
 done:=by
  intro X hP hw hK hc i pins s σ H E I hf st hg;subst hP hw hK;obtain ⟨xs,hq,hx⟩:=hg;obtain ⟨its,rv,p,hz⟩:=I.tuple hq;obtain ⟨f0,f1,f2,f3,f4,f5⟩:=hf it (by simp);have hl:=rv.length;exact wpAny_pyNext_tuple_end (I.ok.hd hc) st (show s.heap.IsTuple a its.toArray from p) (by simp;omega) fun h' eb=>⟨rfl,I.turned (t':=s.toks) (fun b o hb e=>eb b o hb e) f0 f1 f3 f4 f5⟩
 self:=fun _ _ _ _ _ st h=>wpAny_pyIter_tupleiter st h
theorem up8 {P:Program} {w:World} {K:PySem.W.Frag} {tg:Expr} (it:Addr) (lo:Int) (n:Nat):Turn P w K tg (Itr lo n) [it] it (fun i h=>IsRangeIter h it (lo+(i:Nat) * 1) ((n:Int) - (i:Nat)) 1) where
 mem:=by simp
 obj:=fun i h st b hb=>by
  have e:b=it:=by simpa using hb
  subst e;exact ⟨_,st,fun v z=>by
   have z':Data.fields _=Data.cell v:=z;cases z'⟩
 keep:=fun i h h' st k=>k it (by simp) _ st
 item:=by
  intro X hP hw hK hc i pins s σ H E I hf st hg;subst hP hw hK;obtain ⟨f0,f1,f2,f3,f4,f5⟩:=hf it (by simp);have W:=Walks.range (prog:=X.prog) (w:=X.w) (I.ok.hd hc) it lo 1 n;refine W.item i s _ _ hg st fun v h' tk hv st' kk=>?_
  obtain ⟨t,rfl⟩:=hv;have I1:Inv X pins σ H { s with heap:=h',toks:=tk }:=I.turned (fun b o hb e=>kk b o (by simpa using hb) e) f0 f1 f3 f4 f5
  refine ⟨_,rfl,vk0 (s:={ s with heap:=h',toks:=tk }) (n := "range_iterator") st' rfl rfl (by decide) ⟨.int (lo+i),H,I1,⟨t,?_⟩,⟨rfl,rfl⟩,st',fun b hb=>(hf b hb).1⟩⟩;rw [Int.mul_one]
 done:=by
  intro X hP hw hK hc i pins s σ H E I hf st hg;subst hP hw hK;obtain ⟨f0,f1,f2,f3,f4,f5⟩:=hf it (by simp);exact wpAny_pyNext_range_end (I.ok.hd hc) st (by have:n<=i:=hg;omega) fun h' eb=>⟨rfl,I.turned (t':=s.toks) (fun b o hb e=>eb b o hb e) f0 f1 f3 f4 f5⟩
 self:=fun _ _ _ _ _ st h=>wpAny_pyIter_rangeiter st h
section
variable {X:Cx} {tg:Expr}
theorem v25 {pins:List (Addr × Obj)} {σ:St} {H:Hp} {s:Shared} {R:It->Hp->Prop} {E:Value->Shared->Prop} {lo hi:Int} {t u v:Tok} {tk:Nat} (I:Inv X pins σ H s) (h1:-(2 ^ 62)<=lo) (h2:lo < 2 ^ 62) (h3:-(2 ^ 62)<=hi) (h4:hi < 2 ^ 62)
  (q:R (Itr lo (hi - lo).toNat) H):wpAny (model X.prog X.w) X.A (pyIter (.ref s.heap.objs.size)) (PIE X pins σ tg R) E { s with heap:=s.heap.push { cls:=.type "range",data:=.fields #[.int lo t,.int hi u,.int 1 v] },toks:=tk }:=by
 refine wpAny_pyIter_range (IsRange.new ..) (small_one h1 h2 h3 h4) ?_;have I1:Inv X pins σ H { s with heap:=s.heap.push { cls:=.type "range",data:=.fields #[.int lo t,.int hi u,.int 1 v] },toks:=tk }:=I.kept fun b o e=>Heap.get?_push_of_some _ e
 refine ⟨(s.heap.push { cls:=.type "range",data:=.fields #[.int lo t,.int hi u,.int 1 v] }).objs.size,[(s.heap.push { cls:=.type "range",data:=.fields #[.int lo t,.int hi u,.int 1 v] }).objs.size],_,_,H,rfl,
  I1.kept (t':=tk) fun b o e=>Heap.get?_push_of_some _ e,up8 _ lo (hi - lo).toNat,?_,fun b hb=>?_,q⟩
 ·have e1:lo+((0:Nat):Int) * 1=lo:=by simp
  have e2:(((hi - lo).toNat:Nat):Int) - ((0:Nat):Int)=Builtin.Range.rangeSize lo hi 1:=by rw [rangeSize_one];split <;> omega
  show IsRangeIter _ _ (lo+((0:Nat):Int) * 1) ((((hi - lo).toNat:Nat):Int) - ((0:Nat):Int)) 1
  rw [e1,e2];exact Heap.get?_push_size _ rfl
 ·have e:b=(s.heap.push { cls:=.type "range",data:=.fields #[.int lo t,.int hi u,.int 1 v] }).objs.size:=by simpa using hb
  subst e;exact I1.fpOk (Nat.le_refl _) (I1.hok.fresh (Nat.le_refl _))
def vy5 (ta:TA):TI:=fun σ H R=>ta σ H fun vs H1=>∃ j:Int,vs=[.int j] /\ -(2 ^ 62)<=j /\ j < 2 ^ 62 /\ R (Itr 0 j.toNat) H1
theorem uu5 {a:Expr} {ta:TA} {p pos:Pos} (hg:Gl X "range") (hm:X.mg "range" = none) (ha:PA X [a] ta) (hs:starEach [a] X.env=[(false,eval a X.env)]:=by rfl):PI X tg (.Call (.Name "range" p) [a] [] pos) (vy5 ta):=by
 intro pins s σ H R I h
 (refine Call_ (uo0 I hg hm boot_range (PyProof.Rows.callWith_type1 (thn (ha pos pins s σ H _ I h) ?_) hs rfl));rintro us s1 ⟨vs,H1,I1,r1,q1⟩)
 obtain ⟨j,e,q1,q2,q⟩:=q1;subst e;cases r1 with
 | cons r rr =>
  cases rr;obtain ⟨t,rfl⟩:=r;exact call_range_1 (v25 I1 (by omega) (by omega) q1 q2 (by simpa using q))
def tFor (wi:TI) (g:TG) (tb:TS):TS:=fun D σ H=>wi σ H fun J H1=>∃ W:Nat->Nat->St->Hp->Prop,(∃ m,W 0 m σ H1) /\ ∀ i m σ H,W i m σ H ->
 (J.stop i H /\ D.nx σ H) \/ (J.go i H /\ ∃ N:St->Hp->Prop,(∀ σ' H',N σ' H'->∃ m',m' < m /\ W (i+1) m' σ' H') /\ ∀ x H',J.yld i H x H'->g x σ H' fun σ2 H2=>tb { D with nx:=N,ct:=N,bk:=D.nx } σ2 H2)
def ui5 (fp:List Addr) (h:Heap):List (Addr × Obj):=fp.filterMap fun b=>(h.get? b).map fun o=>(b,o)
theorem u75 {fp:List Addr} {h:Heap} {b:Addr} {o:Obj} (hb:b ∈ fp) (e:h.get? b=some o):(b,o) ∈ ui5 fp h:=List.mem_filterMap.mpr ⟨b,hb,by rw [e];rfl⟩
theorem uv2 {fp:List Addr} {h:Heap} {p:Addr × Obj} (hp:p ∈ ui5 fp h):p.1 ∈ fp /\ h.get? p.1=some p.2:=by
 obtain ⟨b,hb,e⟩:=List.mem_filterMap.mp hp;cases q:h.get? b with
 | none=>rw [q] at e;cases e
 | some o =>
  rw [q] at e;have e':(b,o)=p:=Option.some.inj e;subst e';exact ⟨hb,q⟩
theorem Inv.pinned {pins:List (Addr × Obj)} {σ:St} {H:Hp} {s:Shared} {fp:List Addr} (I:Inv X pins σ H s) (hf:∀ b ∈ fp,FpOk X pins H b) (ho:∀ b ∈ fp,∃ o,s.heap.get? b=some o /\ ∀ v,o.data ≠ .cell v):Inv X (pins++ui5 fp s.heap) σ H s :=
 I.pins_of fun p hp=>(List.mem_append.mp hp).elim (fun z=>I.pin p (List.mem_append_right _ z)) fun z=>by
  obtain ⟨hb,e⟩:=uv2 z;obtain ⟨f0,f1,f2,_⟩:=hf p.1 hb;obtain ⟨o,e',d⟩:=ho p.1 hb;rw [e] at e';cases e';exact ⟨e,f0,f1,f2,d⟩
theorem Inv.unpinned {pins pl:List (Addr × Obj)} {σ:St} {H:Hp} {s:Shared} (I:Inv X (pins++pl) σ H s):Inv X pins σ H s:=I.pins_of fun p hp=>I.pin p (List.mem_append_right _ (List.mem_append_left _ hp))
theorem vr1 {iter:Expr} {body:List Stmt} {wi:TI} {g:TG} {tb:TS} {pos:Pos} (hp:PassesOwn (model X.prog X.w) X.A X.env X.xe) (hc:X.calm=true) (hi:PI X tg iter wi) (hg:PG X tg g) (hb:PSs X body tb)
  (hs:∀ x,foldedSetIterable iter X.env x=pure x:=by intro _;rfl):PS X (.For tg iter body [] pos) (tFor wi g tb):=by
 intro pins s σ H D I h;refine wpAny_For (thn (hi pins s σ H _ I h) fun v s1 h1=>thn h1 fun itv s2 h2=>?_) hs;obtain ⟨it,fp,tn,J,H2,e,I2,T,st2,f2,W,⟨m0,w0⟩,turn⟩:=h2;subst e;have stat:∀ {H':Hp},(∀ b ∈ fp,H' b=none)->∀ b ∈ fp,FpOk X pins H' b:=fun hn b hb=>⟨hn b hb,(f2 b hb).2⟩
 refine codeAny_forLoop_any (fun n s'=>∃ i σ' H',Inv X pins σ' H' s' /\ tn i s'.heap /\ (∀ b ∈ fp,H' b=none) /\ W i n σ' H') ?_ m0 ⟨0,σ,H2,I2,st2,fun b hb=>(f2 b hb).1,w0⟩;rintro n s3 ⟨i,σ3,H3,I3,st3,fr3,w3⟩
 rcases turn i n σ3 H3 w3 with ⟨stop,qn⟩ | ⟨go,N,hN,step⟩
 ·(refine wpAny_passesOwn hp (thn (T.done X rfl rfl rfl hc i pins s3 σ3 H3 X.xe I3 (stat fr3) st3 stop) ?_);rintro r s4 ⟨hr,I4⟩)
  subst hr;exact wpAny_execs_nil ⟨σ3,H3,I4,qn⟩
 ·(refine wpAny_passesOwn hp (thn (T.item X rfl rfl rfl hc i pins s3 σ3 H3 X.xe I3 (stat fr3) st3 go) ?_);rintro r s4 ⟨u,hr,h4⟩)
  subst hr
  (refine wpAny_passesOwn hp (thn h4 ?_);rintro _ s5 ⟨x,H5,I5,r5,y5,st5,fr5⟩)
  have I5':=I5.pinned (stat fr5) (T.obj _ _ st5)
  (refine wpAny_passesOwn hp (thn (hg _ s5 σ3 H5 x u _ I5' r5 (step x H5 y5)) ?_);rintro _ s6 ⟨σ6,H6,I6,q6⟩)
  refine wpAny_passesOwn hp (thn (hb _ s6 σ6 H6 _ I6 q6) fun f s7 q7=>?_);have again:∀ {σ7:St} {H7:Hp},Inv X (pins++ui5 fp s5.heap) σ7 H7 s7->N σ7 H7->∃ m,m < n /\ ∃ i σ' H',Inv X pins σ' H' s7 /\ tn i s7.heap /\ (∀ b ∈ fp,H' b=none) /\ W i m σ' H':=fun {σ7 H7} I7 n7=>by
   obtain ⟨m',hm,w7⟩:=hN σ7 H7 n7;refine ⟨m',hm,i+1,σ7,H7,I7.unpinned,T.keep _ _ _ st5 fun b hb o e=>(I7.pin (b,o) (List.mem_append_right _ (List.mem_append_right _ (u75 hb e)))).1,fun b hb=>?_,w7⟩;obtain ⟨o,e,d⟩:=T.obj _ _ st5 b hb;exact (I7.pin (b,o) (List.mem_append_right _ (List.mem_append_right _ (u75 hb e)))).2.1
  cases f with
  | next=>obtain ⟨σ7,H7,I7,n7⟩:=q7;exact again I7 n7
  | cont=>obtain ⟨σ7,H7,I7,n7⟩:=q7;exact again I7 n7
  | brk=>obtain ⟨σ7,H7,I7,q7⟩:=q7;exact ⟨σ7,H7,I7.unpinned,q7⟩
  | ret v=>obtain ⟨x7,σ7,H7,I7,r7,q7⟩:=q7;exact ⟨x7,σ7,H7,I7.unpinned,r7,q7⟩
end
abbrev R2:=V->V->Hp->VK->Prop
def OpR (X:Cx) (f:Value->Value->Sem Value) (r:R2):Prop :=
 ∀ (pins:List (Addr × Obj)) (s:Shared) (σ:St) (H:Hp) (x y:V) (v u:Value) (Q:VK),Inv X pins σ H s->RelV x v->RelV y u->r x y H Q ->
  wpAny (model X.prog X.w) X.A (f v u) (EP X pins σ Q) X.xe s
def UnR (X:Cx) (f:Value->Sem Value) (r:V->Hp->VK->Prop):Prop :=
 ∀ (pins:List (Addr × Obj)) (s:Shared) (σ:St) (H:Hp) (x:V) (v:Value) (Q:VK),Inv X pins σ H s->RelV x v->r x H Q ->
  wpAny (model X.prog X.w) X.A (f v) (EP X pins σ Q) X.xe s
def CallR (X:Cx) (f:Value) (r:List V->Hp->VK->Prop):Prop :=
 ∀ (pins:List (Addr × Obj)) (s:Shared) (σ:St) (H:Hp) (xs:List V) (us:List Value) (Q:VK),Inv X pins σ H s->Vals xs us->r xs H Q ->
  wpAny (model X.prog X.w) X.A (call f us) (EP X pins σ Q) X.xe s
def tOp (r:R2) (ta tb:TE):TE:=fun σ H Q=>ta σ H fun x H1=>tb σ H1 fun y H2=>r x y H2 Q
def tUn (r:V->Hp->VK->Prop) (ta:TE):TE:=fun σ H Q=>ta σ H fun x H1=>r x H1 Q
def rI (C:Int->Int->Prop) (g:Int->Int->V):R2:=fun x y H Q=>∃ i j,x=.int i /\ y=.int j /\ C i j /\ Q (g i j) H
def rI0 (g:Int->Int->V):R2:=fun x y H Q=>∃ i j,x=.int i /\ y=.int j /\ Q (g i j) H
def rU (g:Int->V):V->Hp->VK->Prop:=fun x H Q=>∃ i,x=.int i /\ Q (g i) H
section
variable {X:Cx} {a b c:Expr} {ta tb tc:TE} {pos:Pos}
theorem binT (ha:PE X a ta) (hb:PE X b tb) {pins:List (Addr × Obj)} {s:Shared} {σ:St} {H:Hp} {R:V->V->Hp->Prop} (I:Inv X pins σ H s)
  (h:ta σ H fun x H1=>tb σ H1 fun y H2=>R x y H2) {Q:Value->Shared->Prop} {f:Value->Value->Sem Value}
  (hf:∀ v u s2 x y H2,Inv X pins σ H2 s2->RelV x v->RelV y u->R x y H2->wpAny (model X.prog X.w) X.A (f v u) Q X.xe s2) :
  wpAny (model X.prog X.w) X.A (eval a X.env) (fun v s₁=>wpAny (model X.prog X.w) X.A (eval b X.env) (fun u s₂=>wpAny (model X.prog X.w) X.A (f v u) Q X.xe s₂) X.xe s₁) X.xe s:=by
 (refine thn (ha pins s σ H _ I h) ?_;rintro v s1 ⟨x,H1,I1,r1,q1⟩)
 (refine thn (hb pins s1 σ H1 _ I1 q1) ?_;rintro u s2 ⟨y,H2,I2,r2,q2⟩)
 exact hf v u s2 x y H2 I2 r1 r2 q2
theorem w43 {op:Operator} {r:R2} (ho:OpR X (binaryOp op) r) (ha:PE X a ta) (hb:PE X b tb):PE X (.BinOp a op b pos) (tOp r ta tb):=by
 intro pins s σ H Q I h;exact wpAny_BinOp (binT ha hb I h fun v u s2 x y H2 I2 rx ry q=>ho pins s2 σ H2 x y v u Q I2 rx ry q)
theorem w42 {op:UnaryOp} {r:V->Hp->VK->Prop} (ho:UnR X (unaryOp op) r) (ha:PE X a ta):PE X (.UnaryOp op a pos) (tUn r ta):=by
 intro pins s σ H Q I h
 (refine UnaryOp_ (thn (ha pins s σ H _ I h) ?_);rintro v s1 ⟨x,H1,I1,r1,q1⟩;exact ho pins s1 σ H1 x v Q I1 r1 q1)
theorem opI {f:Value->Value->Sem Value} {C:Int->Int->Prop} {g:Int->Int->Int}
  (rule:∀ (i j:Int) (t u:Tok) (s:Shared) (Q:Value->Shared->Prop) (E:Value->Shared->Prop),C i j->Q (.int (g i j) s.toks) { s with toks:=s.toks+1 }->wpAny (model X.prog X.w) X.A (f (.int i t) (.int j u)) Q E s) :
  OpR X f (rI C fun i j=>.int (g i j)):=by
 intro pins s σ H x y v u Q I rx ry h;obtain ⟨i,j,rfl,rfl,hc,q⟩:=h;obtain ⟨t,rfl⟩:=rx;obtain ⟨t',rfl⟩:=ry;exact rule i j t t' s _ _ hc ⟨.int (g i j),H,I.tok _,⟨_,rfl⟩,q⟩
theorem opI0 {f:Value->Value->Sem Value} {g:Int->Int->Int}
  (rule:∀ (i j:Int) (t u:Tok) (s:Shared) (Q:Value->Shared->Prop) (E:Value->Shared->Prop),Q (.int (g i j) s.toks) { s with toks:=s.toks+1 }->wpAny (model X.prog X.w) X.A (f (.int i t) (.int j u)) Q E s) :
  OpR X f (rI0 fun i j=>.int (g i j)):=by
 intro pins s σ H x y v u Q I rx ry h;obtain ⟨i,j,rfl,rfl,q⟩:=h;obtain ⟨t,rfl⟩:=rx;obtain ⟨t',rfl⟩:=ry;exact rule i j t t' s _ _ ⟨.int (g i j),H,I.tok _,⟨_,rfl⟩,q⟩
theorem opB0 {f:Value->Value->Sem Value} {g:Int->Int->Bool}
  (rule:∀ (i j:Int) (t u:Tok) (s:Shared) (Q:Value->Shared->Prop) (E:Value->Shared->Prop),Q (.bool (g i j)) s->wpAny (model X.prog X.w) X.A (f (.int i t) (.int j u)) Q E s) :
  OpR X f (rI0 fun i j=>.bl (g i j)):=by
 intro pins s σ H x y v u Q I rx ry h;obtain ⟨i,j,rfl,rfl,q⟩:=h;obtain ⟨t,rfl⟩:=rx;obtain ⟨t',rfl⟩:=ry;exact rule i j t t' s _ _ ⟨.bl (g i j),H,I,rfl,q⟩
def CDiv (i j:Int):Prop:=0 < j /\ j < 1073741824
def CPow (i j:Int):Prop:=0<=j /\ j<=1000000 /\ i.natAbs < 2 ^ 64
def CMul (i j:Int):Prop:=(-(2 ^ 64) < i /\ i < 2 ^ 64) \/ (-(2 ^ 64) < j /\ j < 2 ^ 64)
theorem CMul.ok {i j:Int} (h:CMul i j):IntMulOk i j:=by
 rcases h with ⟨h1,h2⟩ | ⟨h1,h2⟩
 ·exact .of_left (intBits_le_64 h1 h2)
 ·exact .of_right (intBits_le_64 h1 h2)
theorem op_add:OpR X (binaryOp .Add) (rI0 fun i j=>.int (i+j)):=opI0 fun _ _ _ _ _ _ _ q=>add_int q
theorem vs4:OpR X (binaryOp .Sub) (rI0 fun i j=>.int (i - j)):=opI0 fun _ _ _ _ _ _ _ q=>sub_int q
theorem op_mul:OpR X (binaryOp .Mult) (rI CMul fun i j=>.int (i * j)):=opI fun _ _ _ _ _ _ _ hc q=>mul_int q hc.ok
theorem vs9:OpR X (binaryOp .Mod) (rI (fun _ j=>0 < j) fun i j=>.int (i % j)):=opI fun i j _ _ _ _ _ hc q=>by
 have h1:(0:Int) < j:=hc;exact mod_int' (by omega) (by rw [Int.fmod_eq_emod_of_nonneg i (by omega)];exact q)
theorem vs7:OpR X (binaryOp .Pow) (rI CPow fun i j=>.int (i ^ j.toNat)):=opI fun _ _ _ _ _ _ _ hc q=>pow_int_small hc.1 hc.2.1 hc.2.2 q
theorem vs5:OpR X (binaryOp .LShift) (rI CPow fun i j=>.int (i * 2 ^ j.toNat)):=opI fun _ _ _ _ _ _ _ hc q=>lshift_int_small hc.1 hc.2.1 hc.2.2 q
theorem unI {f:Value->Sem Value} {g:Int->Int}
  (rule:∀ (i:Int) (t:Tok) (s:Shared) (Q:Value->Shared->Prop) (E:Value->Shared->Prop),Q (.int (g i) s.toks) { s with toks:=s.toks+1 }->wpAny (model X.prog X.w) X.A (f (.int i t)) Q E s) :
  UnR X f (rU fun i=>.int (g i)):=by
 intro pins s σ H x v Q I rx h;obtain ⟨i,rfl,q⟩:=h;obtain ⟨t,rfl⟩:=rx;exact rule i t s _ _ ⟨.int (g i),H,I.tok _,⟨_,rfl⟩,q⟩
theorem vo8:UnR X (unaryOp .USub) (rU fun i=>.int (-i)):=unI fun _ _ _ _ _ q=>neg_int q
end
def scal:V->V->Bool
 | .non,.non=>true | .non,.int _=>true | .int _,.non=>true | .non,.bl _=>true | .bl _,.non=>true | .non,.str _=>true | .str _,.non=>true
 | .int _,.int _=>true | .bl _,.bl _=>true | .str _,.str _=>true | .byt _,.byt _=>true
 | .int _,.str _=>true | .str _,.int _=>true | .bl _,.str _=>true | .str _,.bl _=>true
 | _,_=>false
def rEq:R2:=fun x y H Q=>scal x y=true /\ Q (.bl (decide (x=y))) H
def rNe:R2:=fun x y H Q=>scal x y=true /\ Q (.bl (!decide (x=y))) H
theorem uz2 {i j:Int}:decide (V.int i=V.int j)=(i == j):=by
 rw [Bool.eq_iff_iff];simp
theorem vb1 {i j:Bool}:decide (V.bl i=V.bl j)=(i == j):=by
 rw [Bool.eq_iff_iff];simp
theorem uz1 {i j:Str}:decide (V.str i=V.str j)=(i == j):=by
 rw [Bool.eq_iff_iff];simp
theorem uz3 {i j:Array UInt8}:decide (V.byt i=V.byt j)=(i.toList == j.toList):=by
 rw [Bool.eq_iff_iff];cases i;cases j;simp
section
variable {X:Cx} {a b c:Expr} {ta tb tc:TE} {pos:Pos}
theorem u14 {pins:List (Addr × Obj)} {σ:St} {H:Hp} {s:Shared} {Q:VK} {k k':Bool} (I:Inv X pins σ H s) (q:Q (.bl k) H) (e:k=k'):EP X pins σ Q (.bool k') s:=by
 subst e;exact ⟨.bl k,H,I,rfl,q⟩
theorem op_eq:OpR X (compareOp .Eq) rEq:=by
 intro pins s σ H x y v u Q I rx ry h;obtain ⟨hs,q⟩:=h;cases x with
 | non =>
  cases rx;cases y with
  | non=>cases ry;exact PySem.EqNone.eq_none_none (u14 I q (by simp))
  | bl j=>cases ry;exact PySem.EqNone.eq_none_bool (u14 I q (by simp))
  | int j=>obtain ⟨t',rfl⟩:=ry;exact PySem.EqNone.eq_none_int (u14 I q (by simp))
  | str j=>obtain ⟨t',rfl⟩:=ry;exact PySem.EqNone.eq_none_str (u14 I q (by simp))
  | _=>exact absurd (show false=true from hs) Bool.false_ne_true
 | bl i =>
  cases rx;cases y with
  | non=>cases ry;exact PySem.EqNone.eq_bool_none (u14 I q (by simp))
  | bl j=>cases ry;exact eq_bool (u14 I q vb1)
  | str j=>obtain ⟨t',rfl⟩:=ry;exact PySem.EqMixed.eq_bool_str (u14 I q (by simp))
  | _=>exact absurd (show false=true from hs) Bool.false_ne_true
 | int i =>
  obtain ⟨t,rfl⟩:=rx;cases y with
  | non=>cases ry;exact PySem.EqNone.eq_int_none (u14 I q (by simp))
  | int j=>obtain ⟨t',rfl⟩:=ry;exact eq_int (u14 I q uz2)
  | str j=>obtain ⟨t',rfl⟩:=ry;exact PySem.EqMixed.eq_int_str (u14 I q (by simp))
  | _=>exact absurd (show false=true from hs) Bool.false_ne_true
 | str i =>
  obtain ⟨t,rfl⟩:=rx;cases y with
  | non=>cases ry;exact PySem.EqNone.eq_str_none (u14 I q (by simp))
  | bl j=>cases ry;exact PySem.EqMixed.eq_str_bool (u14 I q (by simp))
  | int j=>obtain ⟨t',rfl⟩:=ry;exact PySem.EqMixed.eq_str_int (u14 I q (by simp))
  | str j=>obtain ⟨t',rfl⟩:=ry;exact eq_str (u14 I q uz1)
  | _=>exact absurd (show false=true from hs) Bool.false_ne_true
 | byt i =>
  obtain ⟨t,rfl⟩:=rx;cases y with
  | byt j=>obtain ⟨t',rfl⟩:=ry;exact W.eq_bytes (u14 I q uz3)
  | _=>exact absurd (show false=true from hs) Bool.false_ne_true
 | _=>cases y <;> exact absurd (show false=true from hs) Bool.false_ne_true
theorem op_ne:OpR X (compareOp .NotEq) rNe:=by
 intro pins s σ H x y v u Q I rx ry h;obtain ⟨hs,q⟩:=h;cases x with
 | non =>
  cases rx;cases y with
  | non=>cases ry;exact PySem.EqNone.ne_none_none (u14 I q (by simp))
  | bl j=>cases ry;exact PySem.EqNone.ne_none_bool (u14 I q (by simp))
  | int j=>obtain ⟨t',rfl⟩:=ry;exact PySem.EqNone.ne_none_int (u14 I q (by simp))
  | str j=>obtain ⟨t',rfl⟩:=ry;exact PySem.EqNone.ne_none_str (u14 I q (by simp))
  | _=>exact absurd (show false=true from hs) Bool.false_ne_true
 | bl i =>
  cases rx;cases y with
  | non=>cases ry;exact PySem.EqNone.ne_bool_none (u14 I q (by simp))
  | bl j=>cases ry;exact ne_bool (u14 I q (congrArg not vb1))
  | str j=>obtain ⟨t',rfl⟩:=ry;exact PySem.EqMixed.ne_bool_str (u14 I q (by simp))
  | _=>exact absurd (show false=true from hs) Bool.false_ne_true
 | int i =>
  obtain ⟨t,rfl⟩:=rx;cases y with
  | non=>cases ry;exact PySem.EqNone.ne_int_none (u14 I q (by simp))
  | int j=>obtain ⟨t',rfl⟩:=ry;exact ne_int (u14 I q (congrArg not uz2))
  | str j=>obtain ⟨t',rfl⟩:=ry;exact PySem.EqMixed.ne_int_str (u14 I q (by simp))
  | _=>exact absurd (show false=true from hs) Bool.false_ne_true
 | str i =>
  obtain ⟨t,rfl⟩:=rx;cases y with
  | non=>cases ry;exact PySem.EqNone.ne_str_none (u14 I q (by simp))
  | bl j=>cases ry;exact PySem.EqMixed.ne_str_bool (u14 I q (by simp))
  | int j=>obtain ⟨t',rfl⟩:=ry;exact PySem.EqMixed.ne_str_int (u14 I q (by simp))
  | str j=>obtain ⟨t',rfl⟩:=ry;exact ne_str (u14 I q (congrArg not uz1))
  | _=>exact absurd (show false=true from hs) Bool.false_ne_true
 | byt i =>
  obtain ⟨t,rfl⟩:=rx;cases y with
  | byt j=>obtain ⟨t',rfl⟩:=ry;exact W.ne_bytes (u14 I q (congrArg not uz3))
  | _=>exact absurd (show false=true from hs) Bool.false_ne_true
 | _=>cases y <;> exact absurd (show false=true from hs) Bool.false_ne_true
theorem op_lt:OpR X (compareOp .Lt) (rI0 fun i j=>.bl (decide (i < j))):=opB0 fun _ _ _ _ _ _ _ q=>lt_int q
theorem w46:OpR X (compareOp .LtE) (rI0 fun i j=>.bl (decide (i<=j))):=opB0 fun _ _ _ _ _ _ _ q=>le_int q
theorem w47:OpR X (compareOp .Gt) (rI0 fun i j=>.bl (decide (j < i))):=opB0 fun _ _ _ _ _ _ _ q=>gt_int q
theorem w48:OpR X (compareOp .GtE) (rI0 fun i j=>.bl (decide (j<=i))):=opB0 fun _ _ _ _ _ _ _ q=>ge_int q
theorem uu9:OpR X (compareOp .Lt) (fun x y H Q=>∃ i j,x=.str i /\ y=.str j /\ Q (.bl (decide (i.cps.toList < j.cps.toList))) H):=by
 intro pins s σ H x y v u Q I rx ry h;obtain ⟨i,j,rfl,rfl,q⟩:=h;obtain ⟨t,rfl⟩:=rx;obtain ⟨t',rfl⟩:=ry;exact lt_str (u14 I q rfl)
theorem op_isN:OpR X (compareOp .Is) (fun x y H Q=>y=.non /\ Q (.bl (decide (x=.non))) H):=by
 intro pins s σ H x y v u Q I rx ry h;obtain ⟨rfl,q⟩:=h;cases ry;refine is_none_gen (u14 I q ?_);cases x <;> first
  | (cases rx;rfl)
  | (obtain ⟨t,rfl⟩:=rx;rfl)
theorem op_notN:OpR X (compareOp .IsNot) (fun x y H Q=>y=.non /\ Q (.bl (!decide (x=.non))) H):=by
 intro pins s σ H x y v u Q I rx ry h;obtain ⟨rfl,q⟩:=h;cases ry;refine isnot_none_gen (u14 I q ?_);cases x <;> first
  | (cases rx;rfl)
  | (obtain ⟨t,rfl⟩:=rx;rfl)
theorem OpR.or {f:Value->Value->Sem Value} {r r':R2} (h:OpR X f r) (h':OpR X f r'):OpR X f (fun x y H Q=>r x y H Q \/ r' x y H Q):=by
 intro pins s σ H x y v u Q I rx ry q
 rcases q with q | q
 ·exact h pins s σ H x y v u Q I rx ry q
 ·exact h' pins s σ H x y v u Q I rx ry q
theorem nomark (b:Expr) {op:CmpOp} (h:op ≠ .In:=by decide) (h2:op ≠ .NotIn:=by decide):behindInMarks op b=false:=by
 have e1:(op == CmpOp.In)=false:=by cases op <;> first | rfl | exact absurd rfl h
 have e2:(op == CmpOp.NotIn)=false:=by cases op <;> first | rfl | exact absurd rfl h2
 cases b <;> simp [behindInMarks,e1,e2]
theorem vg9 {op:CmpOp} {r:R2} (ho:OpR X (compareOp op) r) (ha:PE X a ta) (hb:PE X b tb) (hm:behindInMarks op b=false):PE X (.Compare a [op] [b] pos) (tOp r ta tb):=by
 intro pins s σ H Q I h;exact wpAny_Compare1 (binT ha hb I h fun v u s2 x y H2 I2 rx ry q=>ho pins s2 σ H2 x y v u Q I2 rx ry q) hm
def w28 (t:TE):TT:=fun σ H Q=>t σ H fun x H'=>∃ k,x=.bl k /\ Q k H'
theorem vf9 {op:CmpOp} {r:R2} (ho:OpR X (compareOp op) r) (ha:PE X a ta) (hb:PE X b tb) (hm:behindInMarks op b=false):PT X (.Compare a [op] [b] pos) (w28 (tOp r ta tb)):=by
 intro pins s σ H Q I h;refine wpAny_isTrue_Compare1 (thn (ha pins s σ H _ I h) fun v s1 ⟨x,H1,I1,r1,q1⟩=>thn (hb pins s1 σ H1 _ I1 q1) fun u s2 ⟨y,H2,I2,r2,q2⟩ =>
  thn (ho pins s2 σ H2 x y v u _ I2 r1 r2 q2) fun c s3 ⟨z,H3,I3,r3,k,e,q3⟩=>?_) hm
 subst e;cases r3;exact wpAny_truthy_bool ⟨H3,I3,q3⟩
theorem line63:(sizeLine:Nat) < 2 ^ 63:=by rw [sizeLine_eq];decide
theorem op_add_str:OpR X (binaryOp .Add) (fun x y H Q=>∃ i j,x=.str i /\ y=.str j /\ i.length+j.length<=sizeLine /\ Q (.str (i++j)) H):=by
 intro pins s σ H x y v u Q I rx ry h;obtain ⟨i,j,rfl,rfl,hz,q⟩:=h;obtain ⟨t,rfl⟩:=rx;obtain ⟨t',rfl⟩:=ry;exact add_str (fun t' tk=>⟨.str (i++j),H,I.tok _,⟨_,rfl⟩,q⟩) hz
theorem vals1 {x:V} {us:List Value} (r:Vals [x] us):∃ u,us=[u] /\ RelV x u:=by
 cases r with
 | cons r1 r2=>cases r2;exact ⟨_,rfl,r1⟩
theorem vals2 {x y:V} {us:List Value} (r:Vals [x,y] us):∃ u w',us=[u,w'] /\ RelV x u /\ RelV y w':=by
 cases r with
 | cons r1 r2 =>
  cases r2 with
  | cons r3 r4=>cases r4;exact ⟨_,_,rfl,r1,r3⟩
theorem v72:CallR X (.builtin "abs") (fun xs H Q=>∃ i,xs=[.int i] /\ Q (.int (if i < 0 then -i else i)) H):=by
 intro pins s σ H xs us Q I r h;obtain ⟨i,rfl,q⟩:=h;obtain ⟨u,rfl,t,rfl⟩:=vals1 r;exact call_abs_int fun u tk=>⟨.int (if i < 0 then -i else i),H,I.tok _,⟨_,rfl⟩,q⟩
theorem v02 (hc:X.calm=true):CallR X (.builtin "max") (fun xs H Q=>∃ i j,xs=[.int i,.int j] /\ Q (.int (if j > i then j else i)) H):=by
 intro pins s σ H xs us Q I r h;obtain ⟨i,j,rfl,q⟩:=h;obtain ⟨u,w',rfl,⟨t,rfl⟩,⟨t',rfl⟩⟩:=vals2 r;refine max_two_ints (I.ok.hd hc) fun h' tk k=>⟨_,H,I.kept k,?_,q⟩
 by_cases hj:j > i
 ·rw [if_pos hj,if_pos hj];exact ⟨_,rfl⟩
 ·rw [if_neg hj,if_neg hj];exact ⟨_,rfl⟩
theorem v03:CallR X (.type "int") (fun xs H Q=>(∃ i,xs=[.int i] /\ Q (.int i) H) \/ ∃ k,xs=[.bl k] /\ Q (.int (if k then 1 else 0)) H):=by
 intro pins s σ H xs us Q I r h
 rcases h with ⟨i,rfl,q⟩ | ⟨k,rfl,q⟩
 ·obtain ⟨u,rfl,t,rfl⟩:=vals1 r
  exact call_int_int ⟨.int i,H,I,⟨_,rfl⟩,q⟩
 ·obtain ⟨u,rfl,r1⟩:=vals1 r
  cases r1;exact call_int_bool ⟨.int (if k then 1 else 0),H,I.tok _,⟨_,rfl⟩,q⟩
end
structure ObjM (h:Heap) (x dx C:Addr) (mA:Str->Option Value):Prop where
 obj:h.get? x=some (W.instObj C dx)
 ns:h.Ns1 dx mA
 ne:dx ≠ x
theorem uw8 {h:Heap} {dx:Addr} {mA:Str->Option Value} (n:h.Ns1 dx mA):∃ od,h.get? dx=some od /\ ∀ name,W.lookIn name od=some (mA name):=by
 obtain ⟨o,es,ep,ho,hd,hk,_,hm⟩:=n;refine ⟨o,ho,fun name=>?_⟩;have e:=hm name;unfold nsFind findBy at e;rw [<- Array.find?_toList] at e;unfold W.lookIn;rw [hd];dsimp only;split
 ·rename_i y q
  rw [q] at e;exact congrArg some e
 ·rename_i q
  rw [q] at e;have a:es.toList.any (·.refKey)=false:=by
   rw [List.any_eq_false];intro y hy;obtain ⟨z,t,hkey⟩:=hk y (Array.mem_toList_iff.mp hy);simp [DictEntry.refKey,hkey]
  have a':¬ es.toList.any (·.refKey)=true:=by rw [a];exact Bool.false_ne_true
  rw [if_neg a'];exact congrArg some e
theorem ObjM.look {h:Heap} {x dx C:Addr} {mA:Str->Option Value} (I:ObjM h x dx C mA):∃ od,W.InstAt h x (W.instObj C dx) C (some od) /\ ∀ name,W.lookIn name od=some (mA name) :=
 let ⟨od,ho,hl⟩:=uw8 I.ns
 ⟨od,⟨I.obj,rfl,rfl,ho⟩,hl⟩
theorem RelO.some_of {v:V} {o:Option Value} (r:RelO (some v) o):∃ u,o=some u /\ RelV v u:=by
 cases o with
 | none=>exact (show False from r).elim
 | some u=>exact ⟨u,rfl,r⟩
theorem uy3 {v:V} {u:Value} (r:RelV v u):W.handedIn u=true:=by
 cases v with
 | non=>cases (show u=Value.none from r);rfl
 | bl b=>cases (show u=Value.bool b from r);rfl
 | int i=>obtain ⟨t,e⟩:=(show ∃ t,u=Value.int i t from r);cases e;rfl
 | str x=>obtain ⟨t,e⟩:=(show ∃ t,u=Value.str x t from r);cases e;rfl
 | byt b=>obtain ⟨t,e⟩:=(show ∃ t,u=Value.bytes b t from r);cases e;rfl
 | flt b=>obtain ⟨t,e⟩:=(show ∃ t,u=Value.float b t from r);cases e;rfl
 | ref a=>cases (show u=Value.ref a from r);rfl
 | ty n=>cases (show u=Value.type n from r);rfl
section
variable {P:Program} {w:World} {H H':Hp} {h h':Heap} {a C dx:Addr} {fs fs':List (Str × V)}
theorem vj6 (hok:HOk P w H h) (e:H a=some (.ins C dx fs)):∃ mA,ObjM h a dx C mA /\ (∀ f,RelO (fs.lookup f) (mA f)) /\ PySem.Within mA (fs.map (·.1)) /\ fs.length<=1000 /\ H dx=some (.own a):=by
 obtain ⟨d,z,ne,ob,mA,n,r,q⟩:=(show ObjOk P w H h a (.ins C dx fs) from hok a _ e);exact ⟨mA,⟨ob,n,ne⟩,r,q,z,d⟩
end
structure Cls (K:W.Frag) (C:Addr):Prop where
 pg:W.plainGet K C Str.empty=true
 hd:W.hasDictIn K C=true
 po:W.plainOver K C=true
 sa:W.findIn K (.ref C) "__setattr__" = some (some (.builtin "object.__setattr__"))
theorem Cls.get {K:W.Frag} {C:Addr} (c:Cls K C) (f:Str):W.plainGet K C f=true:=c.pg
structure Con (K:W.Frag) (C:Addr) (f:Str) (v:V) (u:Value):Prop where
 at_:W.findIn K (.ref C) f=some (some u)
 rel:RelV v u
 get:W.specialIn K u "__get__" = some none
 cp:W.copiedNames.contains f=false
structure Meth (K:W.Frag) (C:Addr) (m:Str) (f:Addr):Prop where
 at_:W.findIn K (.ref C) m=some (some (.ref f))
 fn:W.isFn K (.ref f)=true
 kp:W.keepIn K (.ref f)=true
section
variable {X:Cx} {pins:List (Addr × Obj)} {σ:St} {H:Hp} {s:Shared} {a C dx:Addr} {fs:List (Str × V)} {f:Str} {v:V} {A:Around} {E:Value->Shared->Prop}
theorem vl7 {prog:Program} {w:World} {env:Env} {e:Expr} {f:Str} {pos:Pos} {s:Shared} {Q:Value->Shared->Prop} (hb:attributeBase e f env (eval e env)=eval e env)
  (h:wpAny (model prog w) A (eval e env) (fun o s₁=>wpAny (model prog w) A (getAttr o f true) Q E s₁) E s):wpAny (model prog w) A (eval (.Attribute e f pos) env) Q E s :=
 Attribute_any_ h (by rw [arm_eval_Attribute,hb])
end
section
variable {X:Cx} {pins:List (Addr × Obj)} {σ:St} {H:Hp} {s:Shared} {A:Around} {E:Value->Shared->Prop} {Q:Value->Shared->Prop} {c:Value} {b:Bool}
inductive TyOf (K:W.Frag) (H:Hp):V->Value->Prop where
 | non:TyOf K H .non (.type "NoneType")
 | bl (x:Bool):TyOf K H (.bl x) (.type "bool")
 | int (i:Int):TyOf K H (.int i) (.type "int")
 | str (x:Str):TyOf K H (.str x) (.type "str")
 | flt (x:UInt64):TyOf K H (.flt x) (.type "float")
 | lst {a:Addr} {xs:List V} (e:H a=some (.lst xs)):TyOf K H (.ref a) (.type "list")
 | frz {a:Addr} {o:Obj} {xs:List V} (e:H a=some (.frz o (.lst xs))):TyOf K H (.ref a) (.type "list")
 | tup {a:Addr} {xs:List V} (e:H a=some (.tup xs)):TyOf K H (.ref a) (.type "tuple")
 | dK {a:Addr} {kvs:List (Key × V)} (e:H a=some (.dK kvs)):TyOf K H (.ref a) (.type "dict")
 | dT {a:Addr} {kvs:List (List Key × V)} (e:H a=some (.dT kvs)):TyOf K H (.ref a) (.type "dict")
 | ins {a C dx:Addr} {fs:List (Str × V)} (e:H a=some (.ins C dx fs)) (cl:Cls K C) (ha:W.findIn K (.ref C) "__class__" = some (some (.builtin "object.__class__")))
   (hn:W.specialIn K (.builtin "object.__class__") "__get__" = some (some (.builtin "getset_descriptor.__get__"))) (htk:W.takesIn K (.builtin "object.__class__")=some true)
   (hm:W.mroIn K C (.type "object")=some true):TyOf K H (.ref a) (.ref C)
theorem u42 {x:V} {u t:Value} (I:Inv X pins σ H s) (rx:RelV x u) (ty:TyOf X.K H x t) (e:W.kitOne X.K t c=some b) (h:∀ tk,Q (.bool b) { s with toks:=tk }) :
  wpAny (model X.prog X.w) A (call (.builtin "isinstance") [u,c]) Q E s:=by
 cases ty with
 | non=>cases (show u=Value.none from rx);exact W.kia_one W.kitx_none I.kIn True.intro e (fun z=>nomatch z) h
 | bl y=>cases (show u=Value.bool y from rx);exact W.kia_one W.kitx_bool I.kIn True.intro e (fun z=>nomatch z) h
 | int i=>obtain ⟨t,q⟩:=(show ∃ t,u=Value.int i t from rx);cases q;exact W.kia_one W.kitx_int I.kIn True.intro e (fun z=>nomatch z) h
 | str y=>obtain ⟨t,q⟩:=(show ∃ t,u=Value.str y t from rx);cases q;exact W.kia_one W.kitx_str I.kIn True.intro e (fun z=>nomatch z) h
 | flt y=>obtain ⟨t,q⟩:=(show ∃ t,u=Value.float y t from rx);cases q;exact W.kia_one W.kitx_float I.kIn True.intro e (fun z=>nomatch z) h
 | @lst a xs ea =>
  cases (show u=Value.ref a from rx);obtain ⟨_,_,n,_,h1⟩:=(show ObjOk X.prog X.w H s.heap a (.lst xs) from I.hok a _ ea);exact W.kia_one W.kitx_list I.kIn ⟨_,h1,rfl⟩ e (fun z=>nomatch z) h
 | @frz a ob xs ea =>
  cases (show u=Value.ref a from rx);obtain ⟨_,_,_,n,_,h1⟩:=(show ObjOk X.prog X.w H s.heap a (.frz ob (.lst xs)) from I.hok a _ ea);exact W.kia_one W.kitx_list I.kIn ⟨_,h1,rfl⟩ e (fun z=>nomatch z) h
 | @tup a xs ea =>
  cases (show u=Value.ref a from rx);obtain ⟨_,_,_,p⟩:=(show ObjOk X.prog X.w H s.heap a (.tup xs) from I.hok a _ ea);obtain ⟨o,h1,h2,_⟩:=p;exact W.kia_one W.kitx_tuple I.kIn ⟨o,h1,h2⟩ e (fun z=>nomatch z) h
 | @dK a kvs ea =>
  cases (show u=Value.ref a from rx);obtain ⟨_,_,vs,_,p⟩:=(show ObjOk X.prog X.w H s.heap a (.dK kvs) from I.hok a _ ea);obtain ⟨o,es,ep,h1,h2,_⟩:=p;exact W.kia_one W.kitx_dict I.kIn ⟨o,h1,h2.1⟩ e (fun z=>nomatch z) h
 | @dT a kvs ea =>
  cases (show u=Value.ref a from rx);obtain ⟨_,_,xs,_,o,es,ep,h1,h2,_⟩:=(show ObjOk X.prog X.w H s.heap a (.dT kvs) from I.hok a _ ea);exact W.kia_one W.kitx_dict I.kIn ⟨o,h1,h2.1⟩ e (fun z=>nomatch z) h
 | @ins a C dx fs ea cl ha hn htk hm =>
  cases (show u=Value.ref a from rx);obtain ⟨mA,O,_⟩:=vj6 I.hok ea;obtain ⟨od,J,_⟩:=O.look;exact W.kia_one (W.kitx_own (cl.get _) cl.hd ha hn htk hm) I.kIn J e (fun z=>nomatch z) h
end
structure Room (k:Nat) (A:Around):Prop where
 hd:A.handled=none
 dp:A.depth+3 * k+5 < recursionLimit
 un:A.units+16 * k+200 < cLine
theorem Room.mono {j k:Nat} {A:Around} (r:Room k A) (h:j<=k):Room j A:=⟨r.hd,by have:=r.dp;omega,by have:=r.un;omega⟩
theorem Room.deeper {k:Nat} {A:Around} (r:Room (k+1) A) (env:Env):Room k (A.deeper env) :=
 ⟨r.hd,by have:=r.dp;show A.depth+1+3 * k+5 < _;omega,by have:=r.un;show A.units+3+16 * k+200 < _;omega⟩
theorem Room.in1 {k:Nat} {A:Around} (r:Room (k+1) A):Room k A.in1 :=
 ⟨r.hd,by have:=r.dp;show A.depth+3 * k+5 < _;omega,by have:=r.un;show A.units+1+16 * k+200 < _;omega⟩
theorem uq3 {A:Around} {C:Addr} {us:List Value} {kw:List (Str × Value)}:(A.under (.builtin "type.__call__" ⟨.ref C::us,kw⟩)).depth=A.depth+1:=by
 first | rfl | simp [Around.under,Code.weight,Code.isCreation,Code.isGuard,Code.isCaller,Code.frames,Code.isFrame,guardIds]
theorem uq2 {A:Around} {C:Addr} {us:List Value} {kw:List (Str × Value)}:(A.under (.builtin "type.__call__" ⟨.ref C::us,kw⟩)).units=A.units+1:=by
 first | rfl | simp [Around.under,Code.cUnits,Code.frames,Code.isFrame]
theorem Room.make {k:Nat} {A:Around} (r:Room (k+1) A) (C:Addr) (us:List Value) (kw:List (Str × Value)):Room k (A.under (.builtin "type.__call__" ⟨.ref C::us,kw⟩)) :=
 ⟨r.hd,by have:=r.dp;rw [uq3];omega,by have:=r.un;rw [uq2];omega⟩
theorem Room.depth {k:Nat} {A:Around} (r:Room k A):A.depth < recursionLimit:=by have:=r.dp;omega
theorem Room.units {k:Nat} {A:Around} (r:Room k A):A.units+64 < cLine:=by have:=r.un;omega
def tNil:TA:=fun _ H Q=>Q [] H
def v19 (ta:TE) (tr:TA):TA:=fun σ H Q=>ta σ H fun x H1=>tr σ H1 fun xs H2=>Q (x::xs) H2
section
variable {X:Cx} {e:Expr} {es:List Expr} {te:TE} {t:TA} {pos:Pos}
theorem un2:PA X [] tNil:=fun _ _ _ _ H Q I h=>Calls.spliced_nil ⟨[],H,I,.nil,h⟩
theorem u83 (ha:PE X e te) (hr:PA X es t) (hs:starEach (e::es) X.env=(false,eval e X.env)::starEach es X.env:=by rfl):PA X (e::es) (v19 te t):=by
 intro pos pins s σ H Q I h;rw [hs]
 show wpAny _ _ (spliced ((false,eval e X.env)::backTo pos (starEach es X.env))) _ _ s
 (refine Calls.spliced_cons (thn (ha pins s σ H _ I h) ?_);rintro u s1 ⟨x,H1,I1,r1,q1⟩)
 (refine thn (hr pos pins s1 σ H1 _ I1 q1) ?_;rintro us s2 ⟨xs,H2,I2,r2,q2⟩;exact ⟨x::xs,H2,I2,.cons r1 r2,q2⟩)
def tTup (t:TA):TE:=fun σ H Q=>t σ H fun xs H1=>xs.length<=sizeLine /\ ∀ p,H1 p=none->Q (.ref p) (upd H1 p (.tup xs))
def tLst (t:TA):TE:=fun σ H Q=>t σ H fun xs H1=>xs.length<=sizeLine /\ ∀ p,H1 p=none->Q (.ref p) (upd H1 p (.lst xs))
theorem vr6 {x1} (h:PA X es t):PE X (.Tuple es x1 pos) (tTup t):=by
 intro pins s σ H Q I hq;refine wpAny_Tuple_spliced (thn (h pos pins s σ H _ I hq) fun us s1 ⟨xs,H1,I1,r,z,q⟩=>⟨by rw [<- r.length];exact z,?_⟩);have hf:H1 s1.heap.objs.size=none:=I1.hok.fresh (Nat.le_refl _);refine ⟨.ref s1.heap.objs.size,upd H1 s1.heap.objs.size (.tup xs),I1.laid (t':=s1.toks) (fun b u e=>Heap.get?_push_of_some _ e) (Nat.le_refl _) ?_,rfl,q _ hf⟩;exact ⟨z,us,r,⟨_,Heap.get?_push_size _ rfl,rfl,⟨_,rfl⟩,rfl⟩⟩
theorem vs0 (h:PA X es t):PE X (.List es pos) (tLst t):=by
 intro pins s σ H Q I hq;refine wpAny_List_spliced (thn (h pos pins s σ H _ I hq) fun us s1 ⟨xs,H1,I1,r,z,q⟩=>⟨by rw [<- r.length];exact z,?_⟩);have hf:H1 s1.heap.objs.size=none:=I1.hok.fresh (Nat.le_refl _);refine ⟨.ref s1.heap.objs.size,upd H1 s1.heap.objs.size (.lst xs),I1.laid (t':=s1.toks) (fun b u e=>Heap.get?_push_of_some _ e) (Nat.le_refl _) ?_,rfl,q _ hf⟩;exact ⟨z,us,0,r,Heap.get?_push_size _ rfl⟩
end
abbrev Sp:=List V->Hp->VK->XK->Prop
abbrev CXT:=List Env->Hp->Shared->XK->Value->Shared->Prop
structure Env0 (P:Program) (w:World) (K:W.Frag) (mg:Str->Option Value) (base:Heap) (A:Around) (outer:List Env) (s:Shared) (H:Hp):Prop where
 frames:A.frames=some outer
 mod:Mod K mg base
 bs:∀ b o,base.get? b=some o->s.heap.get? b=some o /\ H b=none
 bsz:base.objs.size<=s.heap.objs.size
 funs:s.heap.FunFrames base outer
 frf:∀ b ∈ frs outer,H b=none
 hok:HOk P w H s.heap
 bare:AllBare s.gens
def CE (outer:List Env) (P:Program) (w:World) (H:Hp) (s:Shared) (Q:VK) (u:Value) (s':Shared):Prop :=
 ∃ v H',s'.os=s.os /\ AllBare s'.gens /\ Un (frs outer) [] H H' s.heap s'.heap /\ HOk P w H' s'.heap /\ RelV v u /\ Q v H'
def CR (CX:CXT) (outer:List Env) (P:Program) (w:World) (H:Hp) (s:Shared) (Q:VK) (E:XK) (r:Result) (s':Shared):Prop :=
 match r with
 | .ok (.ret u)=>CE outer P w H s Q u s'
 | .ok _=>False
 | .error e=>CX outer H s E e s'
structure FnOk (P:Program) (w:World) (K:W.Frag) (mg:Str->Option Value) (base:Heap) (CX:CXT) (k:Nat) (f:Addr) (fd:FuncData) (ps:List Str) (sp:Sp):Prop where
 len:∀ vs H Q E,sp vs H Q E->vs.length=ps.length
 run:∀ (A:Around) (outer:List Env) (s:Shared) (H:Hp) (args:Args) (us:List Value) (vs:List V) (Q:VK) (E:XK),Room k A->Env0 P w K mg base A outer s H->BindsTo s fd args (ps.zip us)->Vals vs us->sp vs H Q E ->
  codeAny (model P w) A (.call (.ref f) args) (CR CX outer P w H s Q E) s
theorem FnOk.mono {P:Program} {w:World} {K:W.Frag} {mg:Str->Option Value} {base:Heap} {CX:CXT} {j k:Nat} {f:Addr} {fd:FuncData} {ps:List Str} {sp:Sp} (F:FnOk P w K mg base CX j f fd ps sp) (h:j<=k) :
  FnOk P w K mg base CX k f fd ps sp:=⟨F.len,fun A outer s H args us vs Q E hr=>F.run A outer s H args us vs Q E (hr.mono h)⟩
theorem FnOk.imp {P:Program} {w:World} {K:W.Frag} {mg:Str->Option Value} {base:Heap} {CX:CXT} {k:Nat} {f:Addr} {fd:FuncData} {ps:List Str} {sp sp':Sp} (F:FnOk P w K mg base CX k f fd ps sp)
  (h:∀ vs H Q E,sp' vs H Q E->sp vs H Q E):FnOk P w K mg base CX k f fd ps sp' :=
 ⟨fun vs H Q E q=>F.len vs H Q E (h _ _ _ _ q),fun A outer s H args us vs Q E hr he hb hv hs=>F.run A outer s H args us vs Q E hr he hb hv (h _ _ _ _ hs)⟩
theorem Env0.make {P:Program} {w:World} {K:W.Frag} {mg:Str->Option Value} {base:Heap} {A:Around} {outer:List Env} {s:Shared} {H:Hp} (e:Env0 P w K mg base A outer s H) (C:Addr) (us:List Value) (kw:List (Str × Value)) :
  Env0 P w K mg base (A.under (.builtin "type.__call__" ⟨.ref C::us,kw⟩)) outer s H:=⟨by first | exact e.frames | (simpa [Around.under,Code.envs,Code.isFrame,pushEnvs] using e.frames),e.mod,e.bs,e.bsz,e.funs,e.frf,e.hok,e.bare⟩
theorem Env0.in1 {P:Program} {w:World} {K:W.Frag} {mg:Str->Option Value} {base:Heap} {A:Around} {outer:List Env} {s:Shared} {H:Hp} (e:Env0 P w K mg base A outer s H) :
  Env0 P w K mg base A.in1 outer s H:=⟨e.frames,e.mod,e.bs,e.bsz,e.funs,e.frf,e.hok,e.bare⟩
section
variable {X:Cx} {pins:List (Addr × Obj)} {σ:St} {H:Hp} {s s':Shared}
theorem Inv.env0 (I:Inv X pins σ H s):Env0 X.prog X.w X.K X.mg X.base X.A X.stack s H :=
 ⟨I.ok.frames,I.ok.mod,I.bs,Nat.le_trans I.ok.bsz I.sz,I.stack,I.stkFree,I.hok,I.bare⟩
theorem Inv.after {Q:VK} {u:Value} (I:Inv X pins σ H s) (h:CE X.stack X.prog X.w H s Q u s'):EP X pins σ Q u s':=by
 obtain ⟨v,H',os,bare,un,hok,r,q⟩:=h;obtain ⟨hh,g,d,t,os'⟩:=s';obtain rfl:os'=s.os:=os;exact ⟨v,H',I.call (h':=hh) (g':=g) (d':=d) (t':=t) (ch:=[]) un hok bare (fun b z=>absurd z (by simp)),r,q⟩
end
def v20 (sp:Sp) (dvs:List V) (E:XK) (t:TA):TE:=fun σ H Q=>t σ H fun vs H1=>sp (vs++dvs) H1 Q E
def w30 (C:Addr) (m:Str) (sp:Sp) (dvs:List V) (E:XK) (ta:TE) (t:TA):TE:=fun σ H Q=>ta σ H fun x H1=>∃ a dx fs,x=.ref a /\ H1 a=some (.ins C dx fs) /\ fs.lookup m=none /\
 t σ H1 fun vs H2=>sp (x::(vs++dvs)) H2 Q E
def Binds (K:W.Frag) (fd:FuncData) (ps:List Str) (ds:List Value):Prop :=
 ∀ (s:Shared) (us:List Value),K.In s.heap->(us++ds).length=ps.length->BindsTo s fd ⟨us,[]⟩ (ps.zip (us++ds))
theorem Binds.all {K:W.Frag} {fd:FuncData} {ps:List Str} (h:∀ us:List Value,us.length=ps.length->bindArgs fd ⟨us,[]⟩=pure (ps.zip us)):Binds K fd ps []:=fun s us _ hl=>by
 rw [List.append_nil] at hl ⊢;exact .of_eq (h us hl)
def Passes (CX:CXT) (X:Cx) (E:XK):Prop:=∀ (pins:List (Addr × Obj)) (σ:St) (H:Hp) (s:Shared) (e:Value) (s':Shared),Inv X pins σ H s->CX X.stack H s E e s'->X.xe e s'
section
variable {X:Cx} {CX:CXT} {k:Nat} {f C:Addr} {fd:FuncData} {ps:List Str} {sp:Sp} {dvs:List V} {ds:List Value} {E:XK} {x m:Str} {p pos apos:Pos} {e o:Expr} {es:List Expr} {ta:TE} {t:TA}
theorem vq0 {pins:List (Addr × Obj)} {σ:St} {H:Hp} {s:Shared} {Q:VK} {us:List Value} {vs:List V} (F:FnOk X.prog X.w X.K X.mg X.base CX k f fd ps sp) (hr:Room k X.A) (hb:Binds X.K fd ps ds) (hd:Vals dvs ds) (hx:Passes CX X E)
  (I:Inv X pins σ H s) (r:Vals vs us) (h:sp (vs++dvs) H Q E):wpAny (model X.prog X.w) X.A (call (.ref f) us) (EP X pins σ Q) X.xe s:=by
 have r2:Vals (vs++dvs) (us++ds):=r.append hd;have hl:(us++ds).length=ps.length:=by rw [<- r2.length];exact F.len _ _ _ _ h
 refine wpAny_call (codeAny_mono (F.run X.A X.stack s H ⟨us,[]⟩ (us++ds) (vs++dvs) Q E hr I.env0 (hb s us I.kIn hl) r2 h) fun r s' hq=>?_);cases r with
 | error e=>exact hx pins σ H s e s' I hq
 | ok fl =>
  cases fl with
  | ret u=>exact I.after hq
  | next=>exact False.elim hq
  | brk=>exact False.elim hq
  | cont=>exact False.elim hq
theorem uu7 (F:FnOk X.prog X.w X.K X.mg X.base CX k f fd ps sp) (hr:Room k X.A) (hg:Gl X x) (hm:X.mg x=some (.ref f)) (hk:W.keepIn X.K (.ref f)=true) (hb:Binds X.K fd ps ds) (hd:Vals dvs ds) (hx:Passes CX X E)
  (ha:PA X (e::es) t) (hdb:(x == ("__debug__" : Str))=false:=by decide) (he:starEach (e::es) X.env=(false,eval e X.env)::starEach es X.env:=by rfl) (hpl:(backTo pos (starEach es X.env)).any (·.1)=false:=by rfl) :
  PE X (.Call (.Name x p) (e::es) [] pos) (v20 sp dvs E t):=by
 intro pins s σ H Q I h;refine wpAny_Call_Name_kw (u84 I hg hm ?_ hdb)
 (refine W.callWith_K (h₀:=X.base) I.ok.mod.kin hk (thn (ha pos pins s σ H _ I h) ?_) he hpl;rintro us s1 ⟨vs,H1,I1,r,q⟩;refine ⟨I1.kIn,?_⟩)
 exact vq0 F hr hb hd hx I1 r q
end
structure FnScope (N P:List Str) (sc:Scope):Prop where
 kind:sc.kind=.function
 co:sc.isCoroutine=false
 gen:sc.isGenerator=false
 nd:N.Nodup
 pre:N.take P.length=P
 par:∀ x ∈ P,sc.names.lookup x=some .local \/ sc.names.lookup x=some .cell
 nofree:∀ y ∈ sc.names,y.2 ≠ .free
theorem uj7 {kindOf:Str->Option NameKind} {x:Str}:∀ {binds:List (Str × Value)} {m:Str->Option Value},(∀ v,(x,v) ∉ binds)->bindL kindOf binds m x=m x
 | [],_,_=>rfl
 | (n,v)::r,m,h=>by
  unfold bindL;rw [uj7 fun w hw=>h w (List.mem_cons_of_mem _ hw)];split
  ·have:x ≠ n:=by rintro rfl;exact h v List.mem_cons_self
   simp [this]
  ·rfl
theorem uj8 {kindOf:Str->Option NameKind} {x:Str}:∀ {binds:List (Str × Value)} {m:Str->Option Value},(∀ v,(x,v) ∉ binds)->bindC kindOf binds m x=m x
 | [],_,_=>rfl
 | (n,v)::r,m,h=>by
  unfold bindC;rw [uj8 fun w hw=>h w (List.mem_cons_of_mem _ hw)];split
  ·rfl
  ·have:x ≠ n:=by rintro rfl;exact h v List.mem_cons_self
   simp [this]
theorem uc9 {kindOf:Str->Option NameKind} {x:Str} {v:Value}:∀ {P:List Str} {vs:List Value} {i:Nat} {m:Str->Option Value},P.Nodup->P[i]?=some x->vs[i]?=some v->kindOf x=some .local ->
  bindL kindOf (P.zip vs) m x=some v
 | [],_,_,_,_,h,_,_=>by simp at h
 | _::_,[],_,_,_,_,h,_=>by simp at h
 | p::P,w::vs,0,m,nd,h1,h2,hk=>by
  simp at h1 h2;subst h1;subst h2
  show bindL kindOf ((p,w)::P.zip vs) m p=_
  unfold bindL;rw [uj7 fun v hv=>(List.nodup_cons.mp nd).1 (List.of_mem_zip hv).1,if_pos hk];simp
 | p::P,w::vs,i+1,m,nd,h1,h2,hk=>by
  show bindL kindOf ((p,w)::P.zip vs) m x=_
  unfold bindL;exact uc9 (i:=i) (List.nodup_cons.mp nd).2 (by simpa using h1) (by simpa using h2) hk
theorem ud0 {kindOf:Str->Option NameKind} {x:Str} {v:Value}:∀ {P:List Str} {vs:List Value} {i:Nat} {m:Str->Option Value},P.Nodup->P[i]?=some x->vs[i]?=some v->kindOf x ≠ some .local ->
  bindC kindOf (P.zip vs) m x=some v
 | [],_,_,_,_,h,_,_=>by simp at h
 | _::_,[],_,_,_,_,h,_=>by simp at h
 | p::P,w::vs,0,m,nd,h1,h2,hk=>by
  simp at h1 h2;subst h1;subst h2
  show bindC kindOf ((p,w)::P.zip vs) m p=_
  unfold bindC;rw [uj8 fun v hv=>(List.nodup_cons.mp nd).1 (List.of_mem_zip hv).1,if_neg hk];simp
 | p::P,w::vs,i+1,m,nd,h1,h2,hk=>by
  show bindC kindOf ((p,w)::P.zip vs) m x=_
  unfold bindC;exact ud0 (i:=i) (List.nodup_cons.mp nd).2 (by simpa using h1) (by simpa using h2) hk
def start (N:List Str) (vs:List V):St:=vs.map some++List.replicate (N.length - vs.length) none
def cxOf (CX:CXT) (P:Program) (w:World) (K:W.Frag) (mg:Str->Option Value) (base:Heap) (N:List Str) (qual:Str) (scope:Scope) (f:Addr) (cd:Value) (A:Around) (outer:List Env) (s:Shared) (H:Hp) (E:XK):Cx where
 prog:=P
 w:=w
 K:=K
 mg:=mg
 base:=base
 A:=A.deeper (envOfC qual scope s.heap.objs.size f cd)
 N:=N
 s₀:=s
 H₀:=H
 env:=envOfC qual scope s.heap.objs.size f cd
 outer:=outer
 stack:=envOfC qual scope s.heap.objs.size f cd::outer
 ex:=[]
 calm:=true
 fn:=fun _=>true
 pn:=[]
 xe:=fun e s'=>wpAny (model P w) (A.deeper (envOfC qual scope s.heap.objs.size f cd)) (leaving (envOfC qual scope s.heap.objs.size f cd) e) (fun _ s''=>CX outer H s E e s'') (fun e' s''=>CX outer H s E e' s'') s'
theorem ub1 {sc:Scope} {n:Nat} {x:Str} (h:sc.names.lookup x=some .cell):∃ c,(cellsFrom n sc.names []).lookup x=some c:=by
 have q:=W.cellsFrom_some sc.names n [] (.inl h);exact Option.isSome_iff_exists.mp q
theorem uj1 {CX:CXT} {P:Program} {w:World} {K:W.Frag} {mg:Str->Option Value} {base:Heap} {N ps:List Str} {qual:Str} {scope:Scope} {f:Addr} {cd:Value} {A:Around} {outer:List Env} {s s1:Shared} {H:Hp} {E:XK} {us:List Value} {vs:List V}
  (S:FnScope N ps scope) (hd:A.handled=none) (e0:Env0 P w K mg base A outer s H) (hl:vs.length=ps.length) (r:Vals vs us)
  (x:InCallC s s.heap.objs.size (bindL (envOfC qual scope s.heap.objs.size f cd).kindOf (ps.zip us) fun _=>none) (cellsFrom (s.heap.objs.size+1) scope.names []) (bindC (envOfC qual scope s.heap.objs.size f cd).kindOf (ps.zip us) fun _=>none) s1) :
  Inv (cxOf CX P w K mg base N qual scope f cd A outer s H E) [] (start N vs) H s1:=by
 have hpl:ps.length<=N.length:=by have:=congrArg List.length S.pre;rw [List.length_take] at this;omega
 obtain ⟨h1,tk,rfl,hk⟩:=x.done;have noA:∀ b:Addr,b ∉ (cxOf CX P w K mg base N qual scope f cd A outer s H E).ex:=fun b z=>absurd (show b ∈ ([]:List Addr) from z) (by simp)
 refine ⟨⟨e0.mod,S.kind,rfl,rfl,Nat.le_refl _,fun y z c h1 h2=>?_,fun y hy=>?_,fun y c _ h=>?_,fun _=>hd,Around.frames_deeper e0.frames,.inr ⟨rfl,rfl⟩,fun b z=>absurd z (noA b),e0.bs,e0.bsz,fun b _ _=>noA b,fun b z=>absurd z (noA b),e0.funs,e0.frf⟩,
  rfl,e0.bare,Un.kept hk,⟨_,x.toInCall.ns,fun i y v h1 h2 h3=>?_⟩,fun y c h=>⟨_,x.cell y c h⟩,e0.hok.fresh (Nat.le_refl _),fun y c h=>?_,fun p hp=>absurd (show p ∈ ([]:List (Addr × Obj)) from hp) (by simp),e0.hok.kept hk,?_⟩
 ·exact name_of_addr x.apart (PySem.mem_of_lookup h1) (PySem.mem_of_lookup h2)
 ·have hy:scope.names.lookup y=some .cell \/ scope.names.lookup y=some .free:=hy
  rcases hy with hy | hy
  ·exact ub1 hy
  ·exact absurd rfl (S.nofree _ (PySem.mem_of_lookup hy))
 ·exact Nat.le_of_lt (x.above y c (PySem.mem_of_lookup h))
 ·have hi:i < vs.length:=by
   unfold start at h2
   by_cases hi:i < vs.length
   ·exact hi
   ·rw [List.getElem?_append_right (by simpa using hi)] at h2
    rw [List.getElem?_replicate] at h2;split at h2 <;> cases h2
  have ha:vs[i]?=some v:=by
   unfold start at h2;rw [List.getElem?_append_left (by simpa using hi),List.getElem?_map] at h2;cases e:vs[i]? with
   | none=>rw [e] at h2;cases h2
   | some a=>rw [e] at h2;cases h2;rfl
  obtain ⟨u,hu,rv⟩:=r.get ha;have hp:ps[i]?=some y:=by
   rw [<- S.pre,List.getElem?_take_of_lt (by omega)];exact h1
  have ndP:ps.Nodup:=by rw [<- S.pre];exact S.nd.sublist (List.take_sublist _ _)
  refine ⟨u,rv,?_⟩
  rcases S.par y (List.mem_of_getElem? hp) with k | k
  ·exact .inl ⟨k,uc9 ndP hp hu k⟩
  ·obtain ⟨c,e⟩:=ub1 (n:=s.heap.objs.size+1) k
   refine .inr ⟨.inl k,c,e,?_⟩;have q:=x.cell y c e;rw [ud0 ndP hp hu (by show scope.names.lookup y ≠ _;rw [k];decide)] at q;exact q
 ·exact e0.hok.fresh (Nat.le_of_lt (x.above y c (PySem.mem_of_lookup h)))
 ·unfold start
  show _=N.length
  rw [List.length_append,List.length_map,List.length_replicate];omega
theorem vk2 {CX:CXT} {P:Program} {w:World} {K:W.Frag} {mg:Str->Option Value} {base:Heap} {k:Nat} {f:Addr} {name qual:Str} {params:Arguments} {body:List Stmt} {scope:Scope} {dV kV doc pm cdv ct oc:Value} {an od:Option Addr}
  {osl:Array (Option Value)} {N ps:List Str} {sp:Sp} (lk:K.lookup f=some ⟨oc,od,.func (W.fnOf name qual params body scope dV kV doc pm an cdv ct),osl⟩) (hcd:W.codeIn K cdv qual=true) (S:FnScope N ps scope)
  (len:∀ vs H Q E,sp vs H Q E->vs.length=ps.length)
  (hbody:∀ (A:Around) (outer:List Env) (s:Shared) (H:Hp) (vs:List V) (Q:VK) (E:XK),Room k (A.deeper (envOfC qual scope s.heap.objs.size f cdv))->sp vs H Q E ->
   ∃ t,PSs (cxOf CX P w K mg base N qual scope f cdv A outer s H E) body t /\ t { nx:=fun _ H'=>Q .non H',rt:=Q } (start N vs) H) :
  FnOk P w K mg base CX (k+1) f (W.fnOf name qual params body scope dV kV doc pm an cdv ct) ps sp:=by
 refine ⟨len,fun A outer s H args us vs Q E hr e0 hb r hsp=>?_⟩;have hl:=len _ _ _ _ hsp;have KX:K.In s.heap:=e0.mod.kin.keeps fun b o e=>(e0.bs b o e).1
 have lim:s.heap.NoLimit:=e0.mod.nolimit.keeps fun b o e=>(e0.bs b o e).1
 have hkind:∀ y ∈ ps.zip us,scope.names.lookup y.1=some .local \/ (scope.names.lookup y.1=some .cell /\ ((cellsFrom (s.heap.objs.size+1) scope.names []).lookup y.1).isSome=true):=fun ⟨n,v⟩ hy=>by
  rcases S.par n (List.of_mem_zip hy).1 with q | q
  ·exact .inl q
  ·exact .inr ⟨q,W.cellsFrom_some _ _ _ (.inl q)⟩
 refine codeAny_call_function hr.depth (KX _ _ lk) rfl S.co S.gen rfl (W.codeRec_of KX hcd) (hb _ _ _ _ ?_);refine wpAny_newFunctionEnv_cells S.kind hkind fun env he s1 x=>?_
 subst he;refine ⟨lim.keeps x.toInCall.keep,codeAny_func ?_⟩;obtain ⟨t,ht,hq⟩:=hbody A outer s H vs Q E (hr.deeper _) hsp;have I:Inv (cxOf CX P w K mg base N qual scope f cdv A outer s H E) [] (start N vs) H s1:=uj1 S hr.hd e0 hl r x;refine wpAny_mono (ht [] s1 (start N vs) H _ I hq) (fun fl s' hs=>?_) fun e s' hs=>hs
 have fin:∀ {σ':St} {H':Hp} {v:V} {u:Value},Inv (cxOf CX P w K mg base N qual scope f cdv A outer s H E) [] σ' H' s'->RelV v u->Q v H'->CE outer P w H s Q u s' :=
  fun {σ' H' v u} J rv q=>⟨v,H',J.os,J.bare,J.base,J.hok,rv,q⟩
 cases fl with
 | ret u =>
  obtain ⟨v,σ',H',J,rv,q⟩:=hs;exact fin J rv q
 | next =>
  obtain ⟨σ',H',J,q⟩:=hs;exact fin (v:=V.non) (u:=Value.none) J rfl q
 | brk =>
  obtain ⟨_,_,_,q⟩:=hs;exact False.elim q
 | cont =>
  obtain ⟨_,_,_,q⟩:=hs;exact False.elim q
section
variable {X:Cx} {x:Str} {p pos:Pos} {e:Expr} {es:List Expr} {t:TA} {id T:String} {r:List V->Hp->VK->Prop}
def tCB (r:List V->Hp->VK->Prop) (t:TA):TE:=fun σ H Q=>t σ H fun vs H1=>r vs H1 Q
theorem v38 (hc:CallR X (.builtin id) r) (hg:Gl X x) (hm:X.mg x=none) (hv:bootBuiltins x=some (.builtin id)) (ha:PA X (e::es) t) (hn:x ≠ "__name__" := by decide) (hdb:(x == ("__debug__" : Str))=false:=by decide)
  (he:starEach (e::es) X.env=(false,eval e X.env)::starEach es X.env:=by rfl) (hpl:(backTo pos (starEach es X.env)).any (·.1)=false:=by rfl):PE X (.Call (.Name x p) (e::es) [] pos) (tCB r t):=by
 intro pins s σ H Q I h;refine wpAny_Call_Name_kw (uo0 I hg hm hv ?_ hn hdb)
 (refine PyProof.Rows.callWith_builtin1 (thn (ha pos pins s σ H _ I h) ?_) he hpl;rintro us s1 ⟨vs,H1,I1,r1,q1⟩;exact hc pins s1 σ H1 vs us Q I1 r1 q1)
theorem uu6 (hc:CallR X (.type T) r) (hg:Gl X x) (hm:X.mg x=none) (hv:bootBuiltins x=some (.type T)) (ha:PA X (e::es) t) (hn:x ≠ "__name__" := by decide) (hdb:(x == ("__debug__" : Str))=false:=by decide)
  (he:starEach (e::es) X.env=(false,eval e X.env)::starEach es X.env:=by rfl) (hpl:(backTo pos (starEach es X.env)).any (·.1)=false:=by rfl):PE X (.Call (.Name x p) (e::es) [] pos) (tCB r t):=by
 intro pins s σ H Q I h;refine wpAny_Call_Name_kw (uo0 I hg hm hv ?_ hn hdb)
 (refine PyProof.Rows.callWith_type1 (thn (ha pos pins s σ H _ I h) ?_) he hpl;rintro us s1 ⟨vs,H1,I1,r1,q1⟩;exact hc pins s1 σ H1 vs us Q I1 r1 q1)
end
section
variable {κ:Type} [DecidableEq κ]
def valV (kvs:List (κ × V)) (k:κ):Option V:=(kvs.find? fun kv=>decide (kv.1=k)).map (·.2)
def putK (kvs:List (κ × V)) (k:κ) (v:V):List (κ × V) :=
 if (kvs.any fun kv=>decide (kv.1=k))=true then kvs.map (fun kv=>if kv.1=k then (kv.1,v) else kv) else kvs++[(k,v)]
def vz9 (kvs:List (κ × V)) (k:κ):List (κ × V):=kvs.filter fun kv=>decide (kv.1 ≠ k)
theorem ua5 {p:κ × V} {r:List (κ × V)} {k:κ} (e:p.1=k):valV (p::r) k=some p.2:=by simp [valV,List.find?_cons,e]
theorem ua6 {p:κ × V} {r:List (κ × V)} {k:κ} (e:¬ p.1=k):valV (p::r) k=valV r k:=by simp [valV,List.find?_cons,e]
theorem um7 (k:κ):∀ kvs:List (κ × V),(kvs.any fun kv=>decide (kv.1=k))=(valV kvs k).isSome
 | []=>rfl
 | p::r=>by
  rw [List.any_cons]
  by_cases e:p.1=k
  ·simp only [ua5 e,decide_eq_true e,Bool.true_or,Option.isSome_some]
  ·rw [ua6 e,decide_eq_false e,Bool.false_or];exact um7 k r
theorem ub9 (kvs:List (κ × V)) (k:κ) (v:V):(putK kvs k v).length<=kvs.length+1:=by
 unfold putK;split
 ·rw [List.length_map];omega
 ·rw [List.length_append,List.length_cons,List.length_nil];omega
theorem RelO.isSome_eq {o:Option V} {u:Option Value} (r:RelO o u):o.isSome=u.isSome:=by
 cases o with
 | none=>cases u with
  | none=>rfl
  | some _=>exact (show False from r).elim
 | some _=>cases u with
  | none=>exact (show False from r).elim
  | some _=>rfl
theorem RelO.getD {o:Option V} {u:Option Value} {d:V} {d':Value} (r:RelO o u) (rd:RelV d d'):RelV (o.getD d) (u.getD d'):=by
 cases o with
 | none=>cases u with
  | none=>exact rd
  | some _=>exact (show False from r).elim
 | some _=>cases u with
  | none=>exact (show False from r).elim
  | some _=>exact r
theorem KV.val {kvs:List (κ × V)} {vs:List (κ × Value)} (r:KV kvs vs) (k:κ):RelO (valV kvs k) (valueAt vs k):=by
 unfold KV at r
 induction r with
 | nil=>exact True.intro
 | @cons p q ps qs h t ih =>
  obtain ⟨h1,h2⟩:=h
  by_cases e:p.1=k
  ·have e':q.1=k:=h1.symm.trans e
   have b:valueAt (q::qs) k=some q.2:=by simp [valueAt,List.find?_cons,e']
   rw [ua5 e,b];exact h2
  ·have e':¬ q.1=k:=fun z=>e (h1.trans z)
   have b:valueAt (q::qs) k=valueAt qs k:=by simp [valueAt,List.find?_cons,e']
   rw [ua6 e,b];exact ih
theorem KV.any {kvs:List (κ × V)} {vs:List (κ × Value)} (r:KV kvs vs) (k:κ):(kvs.any fun kv=>decide (kv.1=k))=vs.any fun kv=>decide (kv.1=k):=by
 unfold KV at r
 induction r with
 | nil=>rfl
 | cons h t ih=>rw [List.any_cons,List.any_cons,ih,h.1]
theorem KV.repl {kvs:List (κ × V)} {vs:List (κ × Value)} (r:KV kvs vs) (k:κ) {y:V} {u:Value} (ry:RelV y u) :
  KV (kvs.map fun kv=>if kv.1=k then (kv.1,y) else kv) (vs.map fun kv=>if kv.1=k then (kv.1,u) else kv):=by
 unfold KV at r ⊢
 induction r with
 | nil=>exact .nil
 | @cons p q ps qs h t ih =>
  rw [List.map_cons,List.map_cons];refine .cons ?_ ih;obtain ⟨h1,h2⟩:=h
  by_cases e:p.1=k
  ·rw [if_pos e,if_pos (h1.symm.trans e)];exact ⟨h1,ry⟩
  ·rw [if_neg e,if_neg (fun z=>e (h1.trans z))];exact ⟨h1,h2⟩
theorem KV.put {kvs:List (κ × V)} {vs:List (κ × Value)} (r:KV kvs vs) (k:κ) {y:V} {u:Value} (ry:RelV y u):KV (putK kvs k y) (stored vs k u):=by
 unfold putK stored;rw [r.any k]
 by_cases e:(vs.any fun kv=>decide (kv.1=k))=true
 ·rw [if_pos e,if_pos e];exact r.repl k ry
 ·rw [if_neg e,if_neg e];exact Paired.snoc r ⟨rfl,ry⟩
theorem KV.drop {kvs:List (κ × V)} {vs:List (κ × Value)} (r:KV kvs vs) (k:κ):KV (vz9 kvs k) (without vs k):=by
 unfold KV at r ⊢;unfold vz9 without
 induction r with
 | nil=>exact .nil
 | @cons p q ps qs h t ih =>
  obtain ⟨h1,h2⟩:=h;rw [List.filter_cons,List.filter_cons]
  by_cases e:p.1=k
  ·have a:¬ decide (p.1 ≠ k)=true:=by simp [e]
   have b:¬ decide (q.1 ≠ k)=true:=by simp [h1.symm.trans e]
   rw [if_neg a,if_neg b];exact ih
  ·have e':¬ q.1=k:=fun z=>e (h1.trans z)
   have a:decide (p.1 ≠ k)=true:=by simp [e]
   have b:decide (q.1 ≠ k)=true:=by simp [e']
   rw [if_pos a,if_pos b];exact .cons ⟨h1,h2⟩ ih
theorem KV.length {kvs:List (κ × V)} {vs:List (κ × Value)} (r:KV kvs vs):kvs.length=vs.length:=Paired.length r
end
theorem v59 {P:Program} {w:World} {k:Key} {u:Value} (r:RelV (kV k) u):(u30 P w).is k u=true:=by
 cases k with
 | inl i=>obtain ⟨t,e⟩:=(show ∃ t,u=Value.int i t from r);subst e;exact uk7 P w i t
 | inr x=>obtain ⟨t,e⟩:=(show ∃ t,u=Value.str x t from r);subst e;exact uk6 P w x t
theorem uj0 {P:Program} {w:World}:∀ {ks:List Key} {us:List Value},Vals (ks.map kV) us->ItemsAre (u30 P w) ks us
 | [],_,r=>by rw [List.map_nil] at r;cases r;exact .nil
 | k::ks,_,r=>by
  rw [List.map_cons] at r;cases r with
  | cons h t=>exact .cons (v59 h) (uj0 t)
abbrev KT (H:Hp):List (List Key × V)->List (List Key × Addr × Value)->Prop:=Paired fun p q=>p.1=q.1 /\ H q.2.1=some (.tup (p.1.map kV)) /\ RelV p.2 q.2.2
theorem KT.val {H:Hp} {kvs:List (List Key × V)} {xs:List (List Key × Addr × Value)} (r:KT H kvs xs) (k:List Key):RelO (valV kvs k) ((atKey xs k).map (·.2)):=by
 induction r with
 | nil=>exact True.intro
 | @cons p q ps qs h t ih =>
  obtain ⟨h1,_,h2⟩:=h
  by_cases e:p.1=k
  ·have e':q.1=k:=h1.symm.trans e
   have b:atKey (q::qs) k=some q.2:=by simp [atKey,List.find?_cons,e']
   rw [ua5 e,b];exact h2
  ·have e':¬ q.1=k:=fun z=>e (h1.trans z)
   have b:atKey (q::qs) k=atKey qs k:=by simp [atKey,List.find?_cons,e']
   rw [ua6 e,b];exact ih
theorem KT.repl {H:Hp} {kvs:List (List Key × V)} {xs:List (List Key × Addr × Value)} (r:KT H kvs xs) (k:List Key) {y:V} {u:Value} (ry:RelV y u) :
  KT H (kvs.map fun kv=>if kv.1=k then (kv.1,y) else kv) (xs.map (putAt k u)):=by
 induction r with
 | nil=>exact .nil
 | @cons p q ps qs h t ih =>
  rw [List.map_cons,List.map_cons];refine .cons ?_ ih;obtain ⟨h1,h2,h3⟩:=h;unfold putAt
  by_cases e:p.1=k
  ·rw [if_pos e,if_pos (h1.symm.trans e)];exact ⟨h1,h2,ry⟩
  ·rw [if_neg e,if_neg (fun z=>e (h1.trans z))];exact ⟨h1,h2,h3⟩
theorem KT.put {H:Hp} {kvs:List (List Key × V)} {xs:List (List Key × Addr × Value)} (r:KT H kvs xs) (k:List Key) {b:Addr} {y:V} {u:Value} (hb:H b=some (.tup (k.map kV))) (ry:RelV y u) :
  KT H (putK kvs k y) (storedH xs k b u):=by
 have e:(kvs.any fun kv=>decide (kv.1=k))=(atKey xs k).isSome:=by
  rw [um7,(r.val k).isSome_eq,Option.isSome_map]
 unfold putK storedH;rw [e]
 by_cases q:(atKey xs k).isSome=true
 ·rw [if_pos q,if_pos q];exact r.repl k ry
 ·rw [if_neg q,if_neg q];exact Paired.snoc r ⟨rfl,hb,ry⟩
theorem KT.keeps {H H':Hp} {kvs:List (List Key × V)} {xs:List (List Key × Addr × Value)} (r:KT H kvs xs) (ht:∀ b ys,H b=some (.tup ys)->H' b=some (.tup ys)):KT H' kvs xs :=
 Paired.mapP r fun _ _ z=>⟨z.1,ht _ _ z.2.1,z.2.2⟩
section
variable {P:Program} {w:World} {H:Hp} {h:Heap} {a:Addr}
theorem vq4 {u:HO} (ok:HOk P w H h) (e:Rd H a u):ObjOk P w H h a u:=e.ok ok
theorem v67 {kvs:List (Key × V)} (ok:HOk P w H h) (e:Rd H a (.dK kvs)):kvs.length<=sizeLine /\ (a == sysModules)=false /\ ∃ vs,KV kvs vs /\ h.DictOf (u30 P w) a vs :=
 show ObjOk P w H h a (.dK kvs) from vq4 ok e
theorem w56 {kvs:List (Key × V)} (ok:HOk P w H h) (e:H a=some (.dK kvs)):kvs.length<=sizeLine /\ (a == sysModules)=false /\ ∃ vs,KV kvs vs /\ h.DictOf (u30 P w) a vs:=v67 ok (.inl e)
theorem uo1 {ks:List Key} (ok:HOk P w H h) (e:H a=some (.tup (ks.map kV))):(tupleKind (u30 P w)).is h ks a:=by
 obtain ⟨_,its,r,o,h1,h2,⟨n,h3⟩,_⟩:=(show ObjOk P w H h a (.tup (ks.map kV)) from ok a _ e);exact ⟨o,its.toArray,n,h1,h2,h3,by simpa using uj0 r⟩
theorem v66 {kvs:List (List Key × V)} (ok:HOk P w H h) (e:Rd H a (.dT kvs)):kvs.length<=sizeLine /\ (a == sysModules)=false /\
  ∃ xs,KT H kvs xs /\ h.DictOfH (tupleKind (u30 P w)) a xs:=by
 obtain ⟨z,y,xs,r,o,es,ep,h1,h2,h3,h4,h5⟩:=(show ObjOk P w H h a (.dT kvs) from vq4 ok e);refine ⟨z,y,xs,r,o,es,ep,h1,h2,h3,h4,fun x hx=>?_,h5⟩;have all:∀ {l:List (List Key × V)} {m:List (List Key × Addr × Value)},KT H l m->∀ x ∈ m,(tupleKind (u30 P w)).is h x.1 x.2.1:=by
  intro l m q
  induction q with
  | nil=>intro x hx;exact nomatch hx
  | @cons p q ps qs hq t ih =>
   intro x hx
   rcases List.mem_cons.mp hx with e | hx
   ·subst e
    exact uo1 ok (by rw [<- hq.1];exact hq.2.1)
   ·exact ih x hx
 exact all r x hx
theorem w55 {kvs:List (List Key × V)} (ok:HOk P w H h) (e:H a=some (.dT kvs)):kvs.length<=sizeLine /\ (a == sysModules)=false /\
  ∃ xs,KT H kvs xs /\ h.DictOfH (tupleKind (u30 P w)) a xs:=v66 ok (.inl e)
end
def DGet (H:Hp) (a:Addr) (y:V) (r:Option V):Prop :=
 (∃ kvs k,Rd H a (.dK kvs) /\ y=kV k /\ r=valV kvs k) \/ ∃ kvs k b,Rd H a (.dT kvs) /\ y=.ref b /\ H b=some (.tup (k.map kV)) /\ r=valV kvs k
def DPut (H:Hp) (a:Addr) (y v:V) (H':Hp):Prop :=
 (∃ kvs k,H a=some (.dK kvs) /\ y=kV k /\ kvs.length < sizeLine /\ H'=upd H a (.dK (putK kvs k v))) \/
 ∃ kvs k b,H a=some (.dT kvs) /\ y=.ref b /\ H b=some (.tup (k.map kV)) /\ kvs.length < sizeLine /\ H'=upd H a (.dT (putK kvs k v))
theorem DGet.k {H:Hp} {a:Addr} {kvs:List (Key × V)} {k:Key} (e:H a=some (.dK kvs)):DGet H a (kV k) (valV kvs k):=.inl ⟨kvs,k,.inl e,rfl,rfl⟩
theorem DGet.t {H:Hp} {a b:Addr} {kvs:List (List Key × V)} {k:List Key} (e:H a=some (.dT kvs)) (eb:H b=some (.tup (k.map kV))):DGet H a (.ref b) (valV kvs k):=.inr ⟨kvs,k,b,.inl e,rfl,eb,rfl⟩
theorem DPut.k {H:Hp} {a:Addr} {kvs:List (Key × V)} {k:Key} {v:V} (e:H a=some (.dK kvs)) (hl:kvs.length < sizeLine):DPut H a (kV k) v (upd H a (.dK (putK kvs k v))):=.inl ⟨kvs,k,e,rfl,hl,rfl⟩
theorem DPut.t {H:Hp} {a b:Addr} {kvs:List (List Key × V)} {k:List Key} {v:V} (e:H a=some (.dT kvs)) (eb:H b=some (.tup (k.map kV))) (hl:kvs.length < sizeLine) :
  DPut H a (.ref b) v (upd H a (.dT (putK kvs k v))):=.inr ⟨kvs,k,b,e,rfl,eb,hl,rfl⟩
section
variable {X:Cx} {pins:List (Addr × Obj)} {σ:St} {H:Hp} {s:Shared} {a:Addr} {y v:V} {u r:Value} {o:Option V} {A:Around} {E:Value->Shared->Prop}
theorem Inv.big (I:Inv X pins σ H s):sysModules < s.heap.objs.size:=by
 have h:mainGlobals < s.heap.objs.size:=(I.mod.glob.keeps I.bk).lt;exact Nat.lt_trans (by decide) h
theorem d_in {Q:Value->Shared->Prop} (hu:A.units+1 < cLine) (I:Inv X pins σ H s) (g:DGet H a y o) (ry:RelV y u) (h:∀ s',Inv X pins σ H s'->Q (.bool o.isSome) s') :
  wpAny (model X.prog X.w) A (compareOp .In u (.ref a)) Q E s:=by
 rcases g with ⟨kvs,k,e,ey,l⟩ | ⟨kvs,k,b,e,ey,eb,l⟩
 ·subst ey
  obtain ⟨z,hd,vs,rel,dd⟩:=v67 I.hok e;refine wpAny_in_of (v59 ry) hd dd.mapOf ?_;rw [<- (rel.val k).isSome_eq,<- l];exact h _ (I.tok _)
 ·subst ey
  cases (show u=Value.ref b from ry);obtain ⟨z,hd,xs,rel,dd⟩:=v66 I.hok e;refine wpAny_in_heap (tupleKind_room_in1 hu) (uo1 I.hok eb) hd dd ?_;have q:=(rel.val k).isSome_eq;rw [Option.isSome_map] at q;rw [<- q,<- l];exact h _ (I.tok _)
theorem uz4 {h':Heap} {t':Nat} {ob:HO} (I:Inv X pins σ H s) (mu:Mut (H a)) (hs:Heap.SameBut a s.heap h') (he:∃ q,h'.get? a=some q) (new:ObjOk X.prog X.w (upd H a ob) h' a ob) :
  Inv X pins σ (upd H a ob) { s with heap:=h',toks:=t' } :=
 I.write (x:=a) (e:=a) mu (.inl rfl) (fun b q hb z=>(hs.2 b hb).trans z) he new
theorem w00 {P:Program} {w:World} {H':Hp} {h':Heap} {kvs:List (Key × V)} {vs:List (Key × Value)} (z:kvs.length<=sizeLine) (hd:(a == sysModules)=false) (rel:KV kvs vs) (dd:h'.DictOf (u30 P w) a vs) :
  ObjOk P w H' h' a (.dK kvs):=⟨z,hd,vs,rel,dd⟩
theorem uz5 {H':Hp} {Q:Unit->Shared->Prop} (hu:A.units+1 < cLine) (I:Inv X pins σ H s) (g:DPut H a y v H') (ry:RelV y u) (rv:RelV v r) (h:∀ s',Inv X pins σ H' s'->Q () s') :
  wpAny (model X.prog X.w) A (setItem (.ref a) u r) Q E s:=by
 rcases g with ⟨kvs,k,e,ey,l,eH⟩ | ⟨kvs,k,b,e,ey,eb,l,eH⟩
 ·subst ey eH
  obtain ⟨z,hd,vs,rel,dd⟩:=w56 I.hok e;have hz:vs.length<=sizeLine:=by rw [<- rel.length];exact z
  have hl:(putK kvs k v).length<=sizeLine:=by have:=ub9 kvs k v;omega
  refine wpAny_setItem_pairs (hsz:=hz) (v59 ry) dd fun h' dd' hs=>h _ ?_
  have he:∃ q,h'.get? a=some q:=let ⟨q,_,_,hq,_⟩:=dd';⟨q,hq⟩;exact uz4 I (by rw [e];exact True.intro) hs he (w00 hl hd (rel.put k rv) dd')
 ·subst ey eH
  cases (show u=Value.ref b from ry);obtain ⟨z,hd,xs,rel,dd⟩:=w55 I.hok e;have hz:xs.length<=sizeLine:=by rw [<- Paired.length rel];exact z
  have hl:(putK kvs k v).length<=sizeLine:=by have:=ub9 kvs k v;omega
  refine wpAny_setItem_heap (hsz:=hz) (tupleKind_room_in1 hu) (uo1 I.hok eb) dd fun h' dd' hs=>h _ ?_
  obtain ⟨q,es,ep,hq,h2,h3,h4,_,h5⟩:=dd';refine uz4 I (by rw [e];exact True.intro) hs ⟨q,hq⟩ ⟨hl,hd,_,(rel.put k eb rv).keeps fun c ys ec=>?_,q,es,ep,hq,h2,h3,h4,h5⟩;rw [u11 (w49 ec e (fun z=>nomatch z))];exact ec
end
def w33 (td ty tv:TE):TS:=fun D σ H=>tv σ H fun v H1=>td σ H1 fun x H2=>ty σ H2 fun y H3=>∃ a H4,x=.ref a /\ DPut H3 a y v H4 /\ D.nx σ H4
section
variable {X:Cx} {o i e value:Expr} {pos pos' tpos:Pos} {td ty tv:TE}
theorem vg2 (hu:X.A.units+1 < cLine) (ho:PE X o td) (hi:PE X i ty) (hv:PE X value tv) (hs:swapsWith value (some (.Subscript o i pos')) pos.line X.env=pure false) :
  PS X (.Assign [.Subscript o i pos'] value pos) (w33 td ty tv):=by
 intro pins s σ H D I h
 (refine wpAny_Assign_Subscript (thn (hv pins s σ H _ I h) ?_) hs;rintro r s1 ⟨v,H1,I1,rv,q1⟩;refine thn (ho pins s1 σ H1 _ I1 q1) ?_;rintro u s2 ⟨x,H2,I2,rx,q2⟩;refine thn (hi pins s2 σ H2 _ I2 q2) ?_;rintro iv s3 ⟨y,H3,I3,ry,a,H4,ex,g,q3⟩)
 subst ex;obtain rfl:u=Value.ref a:=rx;exact uz5 hu I3 g ry rv fun s4 I4=>⟨σ,H4,I4,q3⟩
end
theorem v68 {P:Program} {w:World} {H:Hp} (h:Heap) (hb:sysModules < h.objs.size):ObjOk P w H (h.push { cls:=.type "dict",data:=.dict #[] }) h.objs.size (.dK []) :=
 ⟨Nat.zero_le _,beq_eq_false_iff_ne.mpr (Ne.symm (Nat.ne_of_lt hb)),[],.nil,Heap.DictOf.new h⟩
def vp2:TE:=fun _ H Q=>∀ p,H p=none->Q (.ref p) (upd H p (.dK []))
section
variable {X:Cx} {pos:Pos}
theorem v35:PE X (.Dict [] [] pos) vp2:=fun pins s σ H Q I h =>
 wpAny_Dict_empty ⟨.ref s.heap.objs.size,_,I.laid (a:=s.heap.objs.size) (o:=.dK []) (t':=s.toks) (fun _ _ q=>Heap.get?_push_of_some _ q) (Nat.le_refl _) (v68 s.heap I.big),rfl,h _ (I.hok.fresh (Nat.le_refl _))⟩
end
structure M2 (X:Cx) (o:Expr) (m:Str) (apos:Pos) (e f:Expr) (cpos:Pos):Prop where
 base:attributeBase o m X.env (eval o X.env)=eval o X.env
 few:((backTo cpos (starEach [e,f] X.env)).all (fun x=>!x.1) && (backToKw cpos (keywordEach [] X.env)).all (fun x=>x.1.isSome)
  && decide (([e,f]:List Expr).length+([]:List Keyword).length+(if ([]:List Keyword).isEmpty then 0 else 1) < 30))=true
 line:(apos.endLine == cpos.line)=true
 trees:backTo cpos (starEach [e,f] X.env)=[(false,eval e X.env),(false,eval f X.env)]
def IsD (H:Hp) (a:Addr):Prop:=(∃ kvs,Rd H a (.dK kvs)) \/ ∃ kvs,Rd H a (.dT kvs)
theorem vy4 {X:Cx} {pins:List (Addr × Obj)} {σ:St} {H:Hp} {s:Shared} {a:Addr} (I:Inv X pins σ H s) (d:IsD H a) :
  s.TypeIs (.ref a) "dict" /\ (∀ b,Value.ref a=.ref b->∃ ob,s.heap.get? b=some ob /\ ob.dict=none) /\ (a == sysModules)=false:=by
 rcases d with ⟨kvs,e⟩ | ⟨kvs,e⟩
 ·obtain ⟨_,hd,vs,_,dd⟩:=v67 I.hok e
  refine ⟨dd.typeIs,fun b q=>?_,hd⟩;cases q;obtain ⟨ob,_,_,h1,h2,_⟩:=dd;exact ⟨ob,h1,h2.2.1⟩
 ·obtain ⟨_,hd,xs,_,dd⟩:=v66 I.hok e
  refine ⟨dd.typeIs,fun b q=>?_,hd⟩;cases q;obtain ⟨ob,_,_,h1,h2,_⟩:=dd;exact ⟨ob,h1,h2.2.1⟩
section
variable {X:Cx} {pins:List (Addr × Obj)} {σ:St} {H:Hp} {s:Shared} {a:Addr} {y d:V} {u r:Value} {o:Option V} {A:Around} {E:Value->Shared->Prop}
theorem w01 {Q:Value->Shared->Prop} (hu:A.units+1 < cLine) (I:Inv X pins σ H s) (g:DGet H a y o) (ry:RelV y u) (rd:RelV d r) (h:∀ w' s',Inv X pins σ H s'->RelV (o.getD d) w'->Q w' s') :
  wpAny (model X.prog X.w) A (call (.builtin "dict.get") [.ref a,u,r]) Q E s:=by
 rcases g with ⟨kvs,k,e,ey,l⟩ | ⟨kvs,k,b,e,ey,eb,l⟩
 ·subst ey
  obtain ⟨z,hd,vs,rel,dd⟩:=v67 I.hok e;refine call_meetsIn PySem.F.slot_dict_get dd.typeIs PySem.F.entry_dict_get (PySem.F.args_dict_get_3 _ _ _) (meets_dict_get_default (u30 X.prog X.w) a (v59 ry) hd r) ⟨_,dd.mapOf,h _ _ (I.tok _) ?_⟩;rw [l];exact (rel.val k).getD rd
 ·subst ey
  cases (show u=Value.ref b from ry);obtain ⟨z,hd,xs,rel,dd⟩:=v66 I.hok e;refine call_meetsIn PySem.F.slot_dict_get dd.typeIs PySem.F.entry_dict_get (PySem.F.args_dict_get_3 _ _ _) (meetsH_dict_get_default (tupleKind (u30 X.prog X.w)) a b hd r) ⟨tupleKind_room_in1 hu,k,xs,uo1 I.hok eb,dd,h _ _ (I.tok _) ?_⟩;rw [l];exact (rel.val k).getD rd
end
def v91 (td ty tx:TE):TE:=fun σ H Q=>td σ H fun x H1=>∃ a,x=.ref a /\ IsD H1 a /\ ty σ H1 fun y H2=>tx σ H2 fun z H3=>∃ o,DGet H3 a y o /\ Q (o.getD z) H3
section
variable {X:Cx} {o e f:Expr} {apos cpos:Pos} {td ty tx:TE}
theorem v36 (hu:X.A.units+1 < cLine) (ho:PE X o td) (he:PE X e ty) (hf:PE X f tx) (m:M2 X o "get" apos e f cpos):PE X (.Call (.Attribute o "get" apos) [e,f] [] cpos) (v91 td ty tx):=by
 intro pins s σ H Q I h
 (refine wpAny_Call_method m.base m.few m.line PySem.F.plainAttrs_dict PySem.F.slot_dict_get PySem.F.type_dict_get (thn (ho pins s σ H _ I h) ?_);rintro u s1 ⟨x,H1,I1,rx,a,ex,d,q1⟩)
 subst ex;obtain rfl:u=Value.ref a:=rx;obtain ⟨t1,t2,_⟩:=vy4 I1 d;refine ⟨t1,t2,?_⟩;rw [m.trees];refine Calls.callWith_builtin rfl (Calls.evalArgs_plain (Calls.spliced_cons (thn (he pins s1 σ H1 _ I1 q1) fun iv s2 ⟨y,H2,I2,ry,q2⟩ =>
  Calls.spliced_cons (thn (hf pins s2 σ H2 _ I2 q2) fun fv s3 ⟨z,H3,I3,rz,ov,g,q3⟩=>Calls.spliced_nil ?_))))
 exact w01 hu I3 g ry rz fun w' s4 I4 rw'=>⟨_,H3,I4,rw',q3⟩
end
end L2
namespace HT
open PySem PyProof.Rows
section
open PySem.SeqAt
open PySem.AutoSeq1 (wpAny_loadPart')
open PySem.MeetsSeq PySem.MeetsSeq2 PySem.MeetsSeq3
end
section
variable {prog:Program} {w:World} {A:Around} {E:Value->Shared->Prop} {s:Shared}
theorem cat_tup {t b:Addr} {vs ws:List Value} {Q:Value->Shared->Prop} (ht:IsTup s.heap t vs.toArray) (hb:IsTup s.heap b ws.toArray) (hv:vs ≠ [])
  (h1:ws=[]->Q (.ref t) s) (h2:ws ≠ []->Q (.ref s.heap.objs.size) { s with heap:=s.heap.push { cls:=.type "tuple",data:=.seq (vs++ws).toArray } })
  (hsz:vs.length+ws.length<=sizeLine):wpAny (model prog w) A (binaryOp .Add (.ref t) (.ref b)) Q E s:=by
 obtain ⟨⟨cls,dd,data,sl⟩,ho,hc,n,hd⟩:=id ht;obtain ⟨⟨cls2,dd2,data2,sl2⟩,ho2,hc2,n2,hd2⟩:=id hb;simp only at hc hd hc2 hd2;subst hc hd hc2 hd2;have e:vs.toArray++ws.toArray=(vs++ws).toArray:=by simp
 by_cases hw:ws=[]
 ·exact concat_meets ⟨_,ho,rfl⟩ ⟨_,ho2,rfl⟩ noFill_tuple_add seq_tuple_add PySem.F.slot_tuple_add PySem.F.entry_tuple_add (PySem.F.args_tuple_add_2 _ _)
   (tuple_addW1 t b vs.toArray ws.toArray n n2 dd dd2 sl sl2 (by simpa using hv) (by simp [hw])) ⟨ho,ho2,h1 hw⟩
 ·refine concat_meets ⟨_,ho,rfl⟩ ⟨_,ho2,rfl⟩ noFill_tuple_add seq_tuple_add PySem.F.slot_tuple_add PySem.F.entry_tuple_add (PySem.F.args_tuple_add_2 _ _)
   (tuple_addW2 t b vs.toArray ws.toArray n n2 dd dd2 sl sl2 (by simpa using hv) (by simpa using hw) (by rw [List.size_toArray,List.size_toArray];exact hsz)) ⟨ho,ho2,?_⟩
  rw [e];exact h2 hw
def sIx (n d:Nat):Option Int->Nat
 | none=>d
 | some v=>if v < 0 then (v+(n:Int)).toNat else min v.toNat n
theorem sIx_none (n d:Nat):sIx n d none=d:=rfl
theorem sIx_nat (n d k:Nat):sIx n d (some (k:Int))=min k n:=by
 show (if (k:Int) < 0 then ((k:Int)+(n:Int)).toNat else min (k:Int).toNat n)=min k n
 rw [if_neg (by omega),Int.toNat_natCast]
theorem vp9 (n d:Nat) (hd:d<=n) (o:Option Int):sIx n d o<=n:=by
 cases o with
 | none=>exact hd
 | some v =>
  show (if v < 0 then (v+(n:Int)).toNat else min v.toNat n)<=n
  by_cases hv:v < 0
  ·rw [if_pos hv];omega
  ·rw [if_neg hv];exact Nat.min_le_right _ _
theorem v01 (v:Int) (n d:Nat):(if v < 0 then max (v+(n:Int)) 0 else min v (n:Int))=((sIx n d (some v):Nat):Int):=by
 show (if v < 0 then max (v+(n:Int)) 0 else min v (n:Int))=(((if v < 0 then (v+(n:Int)).toNat else min v.toNat n):Nat):Int)
 by_cases hv:v < 0
 ·simp only [if_pos hv];omega
 ·simp only [if_neg hv];omega
theorem ur5 (lo hi:Option Int) (n:Nat):Builtin.Slice.sliceAdjust lo hi 1 (n:Int)=(((sIx n 0 lo:Nat):Int),((sIx n n hi:Nat):Int)):=by
 have h1:¬ ((1:Int) < 0):=by omega
 unfold Builtin.Slice.sliceAdjust;simp only [h1,if_false];refine Prod.ext ?_ ?_
 ·cases lo with
  | none=>rfl
  | some v=>exact v01 v n 0
 ·cases hi with
  | none=>rfl
  | some v=>exact v01 v n n
theorem uq0 (i j:Nat):Builtin.Slice.slicePlaces (i:Int) (j:Int) 1=j - i:=by
 unfold Builtin.Slice.slicePlaces;have h1:(1:Int) > 0:=by omega
 simp only [h1,if_true,Int.ediv_one];split <;> omega
theorem ud7 {v:Value} {o:Option Int} {Q:Option Int->Shared->Prop} (p:IsPart v o) (h:Q o s):wpAny (model prog w) A (Builtin.Slice.slicePartIndex v) Q E s:=by
 cases p with
 | none=>exact slicePart_none h
 | int i t=>exact slicePart_int h
theorem u67 {sl:Addr} {vl vu:Value} {lo hi:Option Int} {n:Nat} {Q:Int × Int × Nat->Shared->Prop} (hs:s.heap.IsSliceOf sl vl vu .none) (pl:IsPart vl lo) (pu:IsPart vu hi)
  (h:Q (((sIx n 0 lo:Nat):Int),1,sIx n n hi - sIx n 0 lo) s):wpAny (model prog w) A (Builtin.Slice.sliceApplied (.ref sl) (pure (n:Int))) Q E s:=by
 obtain ⟨os,hos,hcs,hds⟩:=id hs;unfold Builtin.Slice.sliceApplied Builtin.Slice.sliceFields;refine wpAny_bind (wpAny_bind (wpAny_field hos hds (x:=vl) rfl (wpAny_bind (wpAny_field hos hds (x:=vu) rfl (wpAny_bind (wpAny_field hos hds (x:=.none) rfl (wpAny_pure ?_)))))));refine wpAny_bind (slicePart_none ?_)
 show wpAny _ _ (if ((1:Int) == 0)=true then _ else _) _ _ s
 rw [if_neg (by decide)];refine wpAny_bind (ud7 pl (wpAny_bind (ud7 pu (wpAny_bind (wpAny_pure ?_)))))
 show wpAny _ _ (match Builtin.Slice.sliceAdjust lo hi 1 (n:Int) with | (lo,hi)=>pure (lo,(1:Int),Builtin.Slice.slicePlaces lo hi 1)) _ _ s
 rw [ur5 lo hi n]
 show wpAny _ _ (pure (((sIx n 0 lo:Nat):Int),(1:Int),Builtin.Slice.slicePlaces ((sIx n 0 lo:Nat):Int) ((sIx n n hi:Nat):Int) 1)) _ _ s
 rw [uq0];exact wpAny_pure h
theorem v32 (xs:Array Value) (i k:Nat):((List.range k).filterMap fun (m:Nat)=>xs[((i:Int)+(m:Int) * 1).toNat]?).toArray=((xs.toList.drop i).take k).toArray:=by
 have e:(fun (m:Nat)=>xs[((i:Int)+(m:Int) * 1).toNat]?)=fun m=>xs[i+m]?:=by
  funext m
  have:((i:Int)+(m:Int) * 1).toNat=i+m:=by omega
  rw [this]
 rw [e];have:=pick_run xs i k;rw [List.filterMap_map] at this;have e2:((fun x=>xs[x]?) ∘ fun x=>i+x)=fun m=>xs[i+m]?:=rfl
 rw [e2] at this;rw [this]
theorem getItem_tuple_cut {t sl:Addr} {items:Array Value} {vl vu:Value} {lo hi:Option Int} {Q:Value->Shared->Prop} (ht:IsTup s.heap t items) (hs:s.heap.IsSliceOf sl vl vu .none) (pl:IsPart vl lo) (pu:IsPart vu hi)
  (hw:¬ (sIx items.size 0 lo=0 /\ sIx items.size items.size hi=items.size))
  (h:Q (.ref s.heap.objs.size) { s with heap:=s.heap.push { cls:=.type "tuple",data:=.seq ((items.toList.drop (sIx items.size 0 lo)).take (sIx items.size items.size hi - sIx items.size 0 lo)).toArray } })
  (hsz:items.size<=sizeLine):wpAny (model prog w) A (getItem (.ref t) (.ref sl)) Q E s:=by
 have htake:sizeOk (.seq ((items.toList.drop (sIx items.size 0 lo)).take (sIx items.size items.size hi - sIx items.size 0 lo)).toArray):=by
  show ((items.toList.drop (sIx items.size 0 lo)).take (sIx items.size items.size hi - sIx items.size 0 lo)).toArray.size<=sizeLine
  rw [List.size_toArray,List.length_take,List.length_drop,Array.length_toList];omega
 have hj:sIx items.size items.size hi<=items.size:=vp9 _ _ (Nat.le_refl _) hi;obtain ⟨os,hos,hcs,hds⟩:=id hs;have hTs:s.TypeIs (.ref sl) "slice" := ⟨os,hos,hcs⟩;unfold getItem
 try with_reducible refine wpAny_holding ?_
 first | refine wpAny_bind (wpAny_pure ?_) | skip
 refine wpAny_bind (wpAny_sequenceKey ht.typeIs (by decide) ?_);refine wpAny_bind (wpAny_callSpecial?_slot (name:=Str.ofString "__getitem__") ht.typeIs PyProof.Rows.slot_tuple_getitem
  (wpAny_call_entry PyProof.Rows.slot_tuple_getitem ht.typeIs entry_tuple_getitem ?_ (args_tuple_getitem _ _)))
 show wpAny _ _ (Builtin.Tuple.tupleItemsOf (.ref t) >>= _) _ _ s
 refine wpAny_bind (tupleItemsOf_ ht ?_);refine wpAny_bind (wpAny_typeOf hTs ?_);rw [if_pos (by decide)];refine wpAny_bind (u67 hs pl pu ?_);have hno:¬ ((((sIx items.size 0 lo:Nat):Int) == 0 && (1:Int) == 1 && (sIx items.size items.size hi - sIx items.size 0 lo) == items.size)=true):=by
  intro q;rw [Bool.and_eq_true,Bool.and_eq_true] at q;have q1:((sIx items.size 0 lo:Nat):Int)=0:=eq_of_beq q.1.1;have q2:sIx items.size items.size hi - sIx items.size 0 lo=items.size:=eq_of_beq q.2;exact hw ⟨by omega,by omega⟩
 show wpAny _ _ (if (((sIx items.size 0 lo:Nat):Int) == 0 && (1:Int) == 1 && (sIx items.size items.size hi - sIx items.size 0 lo) == items.size)=true then _ else _) _ _ s
 rw [if_neg hno,v32]
 first
  | exact wpAny_bind (m:=Builtin.Tuple.tupleExact _) (wpAny_newObj_type (wpAny_pure ⟨_,rfl,wpAny_pure h⟩) htake)
  | exact wpAny_bind (m:=Builtin.Tuple.tupleExact _) (wpAny_newObj_type (wpAny_bind (wpAny_pure (wpAny_pure ⟨_,rfl,wpAny_pure h⟩))) htake)
  | exact wpAny_bind (wpAny_bind (m:=Builtin.Tuple.tupleExact _) (wpAny_newObj_type (wpAny_pure (wpAny_pure ⟨_,rfl,wpAny_pure h⟩)) htake))
  | exact wpAny_bind (wpAny_bind (m:=Builtin.Tuple.tupleExact _) (wpAny_newObj_type (wpAny_pure ⟨_,rfl,wpAny_pure h⟩) htake))
end
end HT
namespace L2
open PySem PySem.Spec PyProof.Rows
abbrev TO:=St->Hp->(Option Int->Hp->Prop)->Prop
def PO (X:Cx) (e:Option Expr) (t:TO):Prop :=
 ∀ (pins:List (Addr × Obj)) (s:Shared) (σ:St) (H:Hp) (Q:Option Int->Hp->Prop),Inv X pins σ H s->t σ H Q ->
  wpAny (model X.prog X.w) X.A (evalPart e X.env) (fun u s'=>∃ o H',Inv X pins σ H' s' /\ IsPart u o /\ Q o H') X.xe s
def ut0:TO:=fun _ H Q=>Q none H
def vp0 (t:TE):TO:=fun σ H Q=>t σ H fun x H1=>∃ i,x=.int i /\ Q (some i) H1
theorem intsAre_of {ns:List Int}:∀ {us:List Value},Vals (ns.map V.int) us->IntsAre us ns:=by
 induction ns with
 | nil=>intro us r;rw [List.map_nil] at r;cases r;exact .nil
 | cons n ns ih =>
  intro us r;rw [List.map_cons] at r;cases r with
  | cons r1 r2 =>
   obtain ⟨t,e⟩:=r1;subst e;exact .cons n t (ih r2)
section
variable {X:Cx} {e:Expr} {te:TE} {lo hi:Option Expr} {tl th:TO} {pos p2:Pos}
theorem vg4:PO X none ut0:=by
 intro pins s σ H Q I h;rw [evalPart_none];exact wpAny_pure ⟨none,H,I,.none,h⟩
theorem vg3 (h:PE X e te):PO X (some e) (vp0 te):=by
 intro pins s σ H Q I hw;rw [evalPart_some]
 (refine thn (h pins s σ H _ I hw) ?_;rintro u s1 ⟨x,H1,I1,r1,q1⟩)
 obtain ⟨i,rfl,q⟩:=q1;obtain ⟨t,rfl⟩:=r1;exact ⟨some i,H1,I1,.int i t,q⟩
def SlR (X:Cx) (r:V->Option Int->Option Int->Hp->VK->Prop):Prop :=
 ∀ (pins:List (Addr × Obj)) (s:Shared) (σ:St) (H:Hp) (x:V) (v vl vu:Value) (lo hi:Option Int) (sl:Addr) (Q:VK),Inv X pins σ H s->RelV x v->s.heap.IsSliceOf sl vl vu .none->IsPart vl lo->IsPart vu hi->r x lo hi H Q ->
  ∃ T id,typeLookup (.type T) "__getitem__" = pure (some (.builtin id)) /\ s.TypeIs v T /\ wpAny (model X.prog X.w) X.A (getItem v (.ref sl)) (EP X pins σ Q) X.xe s
theorem SlR.or {r r':V->Option Int->Option Int->Hp->VK->Prop} (h:SlR X r) (h':SlR X r'):SlR X (fun x lo hi H Q=>r x lo hi H Q \/ r' x lo hi H Q):=by
 intro pins s σ H x v vl vu lo hi sl Q I rx hs pl pu q
 rcases q with q | q
 ·exact h pins s σ H x v vl vu lo hi sl Q I rx hs pl pu q
 ·exact h' pins s σ H x v vl vu lo hi sl Q I rx hs pl pu q
def tSl (r:V->Option Int->Option Int->Hp->VK->Prop) (te:TE) (tl th:TO):TE:=fun σ H Q=>te σ H fun x H1=>tl σ H1 fun l H2=>th σ H2 fun u H3=>r x l u H3 Q
theorem v34 {r:V->Option Int->Option Int->Hp->VK->Prop} (hr:SlR X r) (he:PE X e te) (hl:PO X lo tl) (hu:PO X hi th):PE X (.Subscript e (.Slice lo hi none p2) pos) (tSl r te tl th):=by
 intro pins s σ H Q I h
 (refine Subscript_ (thn (he pins s σ H _ I h) ?_);rintro v s1 ⟨x,H1,I1,r1,q1⟩)
 (refine wpAny_Slice (thn (hl pins s1 σ H1 _ I1 q1) ?_);rintro vl s2 ⟨l,H2,I2,pl,q2⟩;refine thn (hu pins s2 σ H2 _ I2 q2) ?_;rintro vu s3 ⟨u,H3,I3,pu,q3⟩)
 rw [evalPart_none];refine wpAny_pure ?_;have I4:Inv X pins σ H3 { s3 with heap:=s3.heap.push { cls:=.type "slice",data:=.fields #[vl,vu,.none] } }:=I3.kept (t':=s3.toks) fun b ob q=>Heap.get?_push_of_some _ q
 obtain ⟨T,id,hT,ht,hg⟩:=hr pins { s3 with heap:=s3.heap.push { cls:=.type "slice",data:=.fields #[vl,vu,.none] } } σ H3 x v vl vu l u s3.heap.objs.size Q I4 r1 (Heap.IsSliceOf.new ..) pl pu q3
 show wpAny (model X.prog X.w) X.A (subscriptTail e (.Slice lo hi none p2) v (.ref s3.heap.objs.size)) (EP X pins σ Q) X.xe { s3 with heap:=s3.heap.push { cls:=.type "slice",data:=.fields #[vl,vu,.none] } }
 exact tail_any (ops:=[.ref s3.heap.objs.size,v]) ht hT hg (by with_unfolding_all rfl)
def cutV (xs:List V) (lo hi:Option Int):List V:=(xs.drop (HT.sIx xs.length 0 lo)).take (HT.sIx xs.length xs.length hi - HT.sIx xs.length 0 lo)
theorem uc6 (xs:List V) (lo hi:Option Int):(cutV xs lo hi).length<=xs.length:=by
 unfold cutV;rw [List.length_take,List.length_drop];omega
def rSlT (K:W.Frag):V->Option Int->Option Int->Hp->VK->Prop:=fun x lo hi H Q=>∃ a xs,x=.ref a /\ SqT K H a xs /\
 ¬ (HT.sIx xs.length 0 lo=0 /\ HT.sIx xs.length xs.length hi=xs.length) /\ ∀ p,H p=none->Q (.ref p) (upd H p (.tup (cutV xs lo hi)))
theorem v94:SlR X (rSlT X.K):=by
 intro pins s σ H x v vl vu lo hi sl Q I rx hs pl pu h;obtain ⟨a,xs,rfl,hx,hw,q⟩:=h;cases rx;obtain ⟨its,r,ht,hz⟩:=I.tuple hx;have hlen:its.toArray.size=xs.length:=by rw [List.size_toArray];exact r.length.symm
 refine ⟨"tuple",_,PyProof.Rows.slot_tuple_getitem.lookup,ht.typeIs,?_⟩;refine HT.getItem_tuple_cut ht hs pl pu (by rw [hlen];exact hw) ?_ (by rw [hlen];exact hz);rw [hlen];refine ⟨.ref s.heap.objs.size,_,I.laid (t':=s.toks) (o:=.tup (cutV xs lo hi)) (fun b ob q=>Heap.get?_push_of_some _ q) (Nat.le_refl _) ?_,rfl,q _ (I.hok.fresh (Nat.le_refl _))⟩;exact ⟨Nat.le_trans (uc6 xs lo hi) hz,_,(r.drop (HT.sIx xs.length 0 lo)).take (HT.sIx xs.length xs.length hi - HT.sIx xs.length 0 lo),TupD.new _ _⟩
def w37 (K:W.Frag):R2:=fun x y H Q=>∃ a b xs ys,x=.ref a /\ y=.ref b /\ SqT K H a xs /\ SqT K H b ys /\ xs ≠ [] /\ xs.length+ys.length<=sizeLine /\
 (ys=[]->Q (.ref a) H) /\ (ys ≠ []->∀ p,H p=none->Q (.ref p) (upd H p (.tup (xs++ys))))
theorem Vals.nil_iff {xs:List V} {us:List Value} (r:Vals xs us):us=[] ↔ xs=[]:=by
 cases r with
 | nil=>simp
 | cons _ _=>simp
theorem op_catT:OpR X (binaryOp .Add) (w37 X.K):=by
 intro pins s σ H x y v u Q I rx ry h;obtain ⟨a,b,xs,ys,rfl,rfl,ha,hb,hx,hz,q1,q2⟩:=h;cases rx;cases ry;obtain ⟨its,r1,p1,_⟩:=I.tuple ha;obtain ⟨its2,r2,p2,_⟩:=I.tuple hb;refine HT.cat_tup p1 p2 (fun z=>hx (r1.nil_iff.mp z)) (fun z=>⟨.ref a,H,I,rfl,q1 (r2.nil_iff.mp z)⟩) (fun z=>?_) (by rw [<- r1.length,<- r2.length];exact hz);refine ⟨.ref s.heap.objs.size,_,I.laid (t':=s.toks) (o:=.tup (xs++ys)) (fun b ob q=>Heap.get?_push_of_some _ q) (Nat.le_refl _) ?_,rfl,q2 (fun w=>z (r2.nil_iff.mpr w)) _ (I.hok.fresh (Nat.le_refl _))⟩;exact ⟨by rw [List.length_append];exact hz,_,r1.append r2,TupD.new _ _⟩
end
def ixN (n:Nat) (i:Int):Option Nat:=if 0<=i then (if i < n then some i.toNat else none) else if -(n:Int)<=i then some (i+n).toNat else none
def atI {α:Type} (xs:List α) (i:Int):Option α:=(ixN xs.length i).bind fun j=>xs[j]?
theorem ux6 {n:Nat} {i:Int} {j:Nat} (h:ixN n i=some j):seqIndex? i n=some j /\ j < n /\ -(n:Int)<=i /\ i < n:=by
 unfold ixN at h
 by_cases h0:0<=i
 ·rw [if_pos h0] at h
  by_cases h1:i < n
  ·rw [if_pos h1] at h
   have e:i.toNat=j:=Option.some.inj h;exact ⟨by rw [seqIndex_of h0 h1,e],by omega,by omega,h1⟩
  ·rw [if_neg h1] at h;cases h
 ·rw [if_neg h0] at h
  by_cases h1:-(n:Int)<=i
  ·rw [if_pos h1] at h
   have e:(i+n).toNat=j:=Option.some.inj h;exact ⟨by rw [seqIndex_neg (by omega) h1,e],by omega,h1,by omega⟩
  ·rw [if_neg h1] at h;cases h
theorem ul9 {α:Type} {xs:List α} {i:Int} {v:α} (h:atI xs i=some v):∃ j,seqIndex? i xs.length=some j /\ xs[j]?=some v /\ j < xs.length /\ -(xs.length:Int)<=i /\ i < xs.length:=by
 unfold atI at h;cases e:ixN xs.length i with
 | none=>rw [e] at h;cases h
 | some j =>
  rw [e] at h;obtain ⟨h1,h2,h3,h4⟩:=ux6 e;exact ⟨j,h1,h,h2,h3,h4⟩
theorem u50 {α:Type} {xs:List α} {j:Nat} {v:α} (h:xs[j]?=some v):atI xs (j:Int)=some v:=by
 have hj:j < xs.length:=(List.getElem?_eq_some_iff.mp h).1;have e:ixN xs.length (j:Int)=some j:=by
  unfold ixN;rw [if_pos (by omega),if_pos (by omega)];simp
 unfold atI;rw [e];exact h
def v14 (b:Expr):Prop:=∀ o i,subscripted b false o i=operate [o,i] (getItem o i)
def IxR (X:Cx) (r:R2):Prop :=
 ∀ (value slice:Expr) (pins:List (Addr × Obj)) (s:Shared) (σ:St) (H:Hp) (x y:V) (v u:Value) (Q:VK),Inv X pins σ H s->RelV x v->RelV y u->r x y H Q ->
  subscripted slice false v u=operate [v,u] (getItem v u)->wpAny (model X.prog X.w) X.A (subscriptTail value slice v u) (EP X pins σ Q) X.xe s
def MtR (X:Cx) (id:String) (r:V->List V->Hp->VK->Prop):Prop :=
 ∀ (pins:List (Addr × Obj)) (s:Shared) (σ:St) (H:Hp) (x:V) (xs:List V) (v:Value) (us:List Value) (Q:VK),Inv X pins σ H s->RelV x v->Vals xs us->r x xs H Q ->
  wpAny (model X.prog X.w) X.A (call (.builtin id) (v::us)) (EP X pins σ Q) X.xe s
section
variable {X:Cx} {a b:Expr} {ta tb:TE} {pos:Pos}
theorem IxR.or {r r':R2} (h:IxR X r) (h':IxR X r'):IxR X (fun x y H Q=>r x y H Q \/ r' x y H Q):=by
 intro value slice pins s σ H x y v u Q I rx ry q hs
 rcases q with q | q
 ·exact h value slice pins s σ H x y v u Q I rx ry q hs
 ·exact h' value slice pins s σ H x y v u Q I rx ry q hs
theorem MtR.or {id:String} {r r':V->List V->Hp->VK->Prop} (h:MtR X id r) (h':MtR X id r'):MtR X id (fun x xs H Q=>r x xs H Q \/ r' x xs H Q):=by
 intro pins s σ H x xs v us Q I rx rs q
 rcases q with q | q
 ·exact h pins s σ H x xs v us Q I rx rs q
 ·exact h' pins s σ H x xs v us Q I rx rs q
theorem w44 {r:R2} (hr:IxR X r) (ha:PE X a ta) (hb:PE X b tb) (hs:v14 b):PE X (.Subscript a b pos) (tOp r ta tb):=by
 intro pins s σ H Q I h;exact Subscript_ (binT ha hb I h fun v u s2 x y H2 I2 rx ry q=>hr a b pins s2 σ H2 x y v u Q I2 rx ry q (hs _ _))
def rIxL (K:W.Frag):R2:=fun x y H Q=>∃ p xs i v,x=.ref p /\ y=.int i /\ SqL K H p xs /\ atI xs i=some v /\ Q v H
def rIxT (K:W.Frag):R2:=fun x y H Q=>∃ p xs i v,x=.ref p /\ y=.int i /\ SqT K H p xs /\ atI xs i=some v /\ Q v H
def rIxS:R2:=fun x y H Q=>∃ z i c,x=.str z /\ y=.int i /\ z.length<=sizeLine /\ atI z.cps.toList i=some c /\ Q (.str ⟨#[c]⟩) H
theorem ix_list:IxR X (rIxL X.K):=by
 intro value slice pins s σ H x y v u Q I rx ry h hs;obtain ⟨p,xs,i,z,rfl,rfl,hq,he,q⟩:=h;cases rx;obtain ⟨t,rfl⟩:=ry;obtain ⟨its,r,pl,hz⟩:=I.list hq;obtain ⟨j,h1,h2,h3,h4,h5⟩:=ul9 he;obtain ⟨w,ew,rw'⟩:=r.get h2;have hl:=r.length;have hn:=line63;have fin:EP X pins σ Q w s:=⟨z,H,I,rw',q⟩
 by_cases h0:0<=i
 ·have hj:i.toNat=j:=by
   rw [seqIndex_of h0 h5] at h1;exact Option.some.inj h1
  exact item_listR pl.isList h0 (by omega) (by rw [hj];simpa using ew) fin hs
 ·have hj:(i+(its.toArray.size:Int)).toNat=j:=by
   rw [seqIndex_neg (by omega) h4] at h1;rw [List.size_toArray,<- hl];exact Option.some.inj h1
  exact subscriptTail_builtinR (x:=w) pl.isList.typeIs slot_list_getitem.lookup
   (wpAny_getItem_list_neg (Q:=fun r s'=>r=w /\ EP X pins σ Q r s') pl.isList (by omega) (by rw [List.size_toArray] <;> omega) (by omega) (by rw [hj];simpa using ew) ⟨rfl,fin⟩) hs
theorem ix_tup:IxR X (rIxT X.K):=by
 intro value slice pins s σ H x y v u Q I rx ry h hs;obtain ⟨p,xs,i,z,rfl,rfl,hq,he,q⟩:=h;cases rx;obtain ⟨t,rfl⟩:=ry;obtain ⟨its,r,pl,hz⟩:=I.tuple hq;obtain ⟨j,h1,h2,h3,h4,h5⟩:=ul9 he;obtain ⟨w,ew,rw'⟩:=r.get h2;have hl:=r.length;have hn:=line63;have fin:EP X pins σ Q w s:=⟨z,H,I,rw',q⟩;exact subscriptTail_builtinR (x:=w) pl.typeIs slot_tuple_getitem.lookup
  (getItem_tuple (j:=j) (Q:=fun r s'=>r=w /\ EP X pins σ Q r s') pl (by omega) (by omega) (by rw [List.size_toArray,<- hl];exact h1) (by simpa using ew) ⟨rfl,fin⟩) hs
theorem vx7:IxR X rIxS:=by
 intro value slice pins s σ H x y v u Q I rx ry h hs;obtain ⟨z,i,c,rfl,rfl,hz,he,q⟩:=h;obtain ⟨t,rfl⟩:=rx;obtain ⟨t',rfl⟩:=ry;obtain ⟨j,h1,h2,h3,h4,h5⟩:=ul9 he;have hl:z.cps.toList.length=z.length:=by simp [Str.length]
 rw [hl] at h1 h4 h5;have hn:=line63;exact tail_any (typeIs_str s z t) slot_str_getitem.lookup (getItem_str (c:=c) (by
  have e1:decide (i < -(2 ^ 63:Int))=false:=decide_eq_false (by omega);have e2:decide (i ≥ 2 ^ 63)=false:=decide_eq_false (by omega);rw [e1,e2,Bool.or_false]) (by rw [h1];simpa using h2) ⟨.str ⟨#[c]⟩,H,I.tok _,⟨_,rfl⟩,q⟩) hs
def rIx (K:W.Frag):R2:=fun x y H Q=>rIxL K x y H Q \/ rIxT K x y H Q \/ rIxS x y H Q
theorem vx8:IxR X (rIx X.K):=ix_list.or (ix_tup.or vx7)
theorem uq1 (its:List Value) (n j:Nat) (u:Value):Obj.mapSeq (·.setIfInBounds j u) { cls:=.type "list",data:=.seq its.toArray n }={ cls:=.type "list",data:=.seq (its.set j u).toArray n }:=by
 simp [Obj.mapSeq]
theorem Inv.lst {pins:List (Addr × Obj)} {σ:St} {H:Hp} {s:Shared} {p:Addr} {xs:List V} (I:Inv X pins σ H s) (h:H p=some (.lst xs)) :
  ∃ (its:List Value) (n:Nat),Vals xs its /\ s.heap.get? p=some { cls:=.type "list",data:=.seq its.toArray n } /\ xs.length<=sizeLine:=by
 obtain ⟨z,its,n,r,e⟩:=I.hok p _ h;exact ⟨its,n,r,e,z⟩
theorem Inv.lstUpd {pins:List (Addr × Obj)} {σ:St} {H:Hp} {s:Shared} {p:Addr} {xs ys:List V} {its its':List Value} {n n':Nat} {f:Obj->Obj} (I:Inv X pins σ H s) (h:H p=some (.lst xs))
  (ho:s.heap.get? p=some { cls:=.type "list",data:=.seq its.toArray n }) (hf:f { cls:=.type "list",data:=.seq its.toArray n }={ cls:=.type "list",data:=.seq its'.toArray n' }) (r:Vals ys its') (hz:ys.length<=sizeLine) (t:Nat) :
  Inv X pins σ (upd H p (.lst ys)) { s with heap:=s.heap.update p f,toks:=t }:=by
 have e:(s.heap.update p f).get? p=some { cls:=.type "list",data:=.seq its'.toArray n' }:=by
  rw [Heap.get?_update_self f ho (by rw [hf] <;> rfl),hf]
 refine I.write (x:=p) (e:=p) (by rw [h];trivial) (.inl rfl) (fun b u hb q=>(Heap.get?_update_other _ _ (Ne.symm hb)).trans q) ⟨_,e⟩ ?_;exact ⟨hz,its',n',r,e⟩
def w35:V->V->V->Hp->(Hp->Prop)->Prop:=fun o i v H Q=>∃ p xs k j,o=.ref p /\ i=.int k /\ H p=some (.lst xs) /\ ixN xs.length k=some j /\ Q (upd H p (.lst (xs.set j v)))
theorem set_list:PSet X w35:=by
 intro pins s σ H o i v ov iv u Q I ro ri rv h;obtain ⟨p,xs,k,j,rfl,rfl,hp,hj,q⟩:=h;cases ro;obtain ⟨t,rfl⟩:=ri;obtain ⟨its,n,r,ho,hz⟩:=I.lst hp;obtain ⟨h1,h2,h3,h4⟩:=ux6 hj;have hl:=r.length;have hn:=line63;have I':Inv X pins σ (upd H p (.lst (xs.set j v))) { s with heap:=s.heap.update p (Obj.mapSeq (·.setIfInBounds j u)) } :=
  I.lstUpd hp ho (uq1 its n j u) (r.set rv j) (by rw [List.length_set];exact hz) s.toks
 by_cases h0:0<=k
 ·have hk:k.toNat=j:=by
   rw [seqIndex_of h0 h4] at h1;exact Option.some.inj h1
  exact W.ki_setAt ho h0 (by omega) (by rw [List.size_toArray,<- hl];exact h4) (by rw [hk];exact ⟨_,I',q⟩)
 ·have hk:(k+(its.toArray.size:Int)).toNat=j:=by
   rw [seqIndex_neg (by omega) h3] at h1;rw [List.size_toArray,<- hl];exact Option.some.inj h1
  exact W.ki_setBack ho (by omega) (by rw [List.size_toArray,<- hl];exact h3) (by omega) (by rw [hk];exact ⟨_,I',q⟩)
theorem ui0 (lo hi:Option Int) (n:Nat):(sliceBounds lo hi none n).1=((HT.sIx n 0 lo:Nat):Int) /\ (sliceBounds lo hi none n).2.1=((HT.sIx n n hi:Nat):Int) /\ (sliceBounds lo hi none n).2.2=1:=by
 refine ⟨?_,?_,rfl⟩
 ·cases lo with
  | none=>simp [sliceBounds,HT.sIx]
  | some i =>
   simp only [sliceBounds,HT.sIx,Option.getD_none,show (1:Int) > 0 by decide,if_true]
   by_cases h:i < 0
   ·simp only [h,if_true] <;> omega
   ·simp only [h,if_false] <;> omega
 ·cases hi with
  | none=>simp [sliceBounds,HT.sIx]
  | some i =>
   simp only [sliceBounds,HT.sIx,Option.getD_none,show (1:Int) > 0 by decide,if_true]
   by_cases h:i < 0
   ·simp only [h,if_true] <;> omega
   ·simp only [h,if_false] <;> omega
theorem uf9 (its:List Value) (lo hi:Option Int):slicePick its.toArray lo hi none=((its.drop (HT.sIx its.length 0 lo)).take (HT.sIx its.length its.length hi - HT.sIx its.length 0 lo)).toArray:=by
 obtain ⟨h1,h2,h3⟩:=ui0 lo hi its.toArray.size;unfold slicePick;rw [h1,h2,h3];simp only [sliceRange_one,pick_run,List.size_toArray] <;> rfl
def rSlL (K:W.Frag):V->Option Int->Option Int->Hp->VK->Prop:=fun x lo hi H Q=>∃ a xs,x=.ref a /\ SqL K H a xs /\ ∀ p,H p=none->Q (.ref p) (upd H p (.lst (cutV xs lo hi)))
theorem sl_list:SlR X (rSlL X.K):=by
 intro pins s σ H x v vl vu lo hi sl Q I rx hs pl pu h;obtain ⟨a,xs,rfl,hx,q⟩:=h;cases rx;obtain ⟨its,r,ht,hz⟩:=I.list hx;have hlen:=r.length;refine ⟨"list",_,slot_list_getitem.lookup,ht.isList.typeIs,?_⟩;refine wpAny_getItem_list_slice ht.isList hs pl pu .none (by simp) ?_ (by rw [List.size_toArray] <;> omega);rw [uf9,<- hlen];refine ⟨.ref s.heap.objs.size,_,I.laid (t':=s.toks) (o:=.lst (cutV xs lo hi)) (fun b ob q=>Heap.get?_push_of_some _ q) (Nat.le_refl _) ?_,rfl,q _ (I.hok.fresh (Nat.le_refl _))⟩;exact ⟨Nat.le_trans (uc6 xs lo hi) hz,_,0,(r.drop (HT.sIx xs.length 0 lo)).take (HT.sIx xs.length xs.length hi - HT.sIx xs.length 0 lo),Heap.get?_push_size _ rfl⟩
def uc4:V->Bool
 | .non=>true
 | .bl _=>true
 | .int _=>true
 | .str _=>true
 | _=>false
def eqV:V->V->Bool
 | .non,.non=>true
 | .bl a,.bl b=>a == b
 | .bl a,.int b=>(if a then 1 else 0) == b
 | .int a,.bl b=>a == (if b then 1 else 0)
 | .int a,.int b=>a == b
 | .str a,.str b=>a == b
 | _,_=>false
theorem vb0 {A:Around} {s:Shared} {y x:V} {u v:Value} (ry:RelV y u) (rx:RelV x v) (fy:uc4 y=true) (fx:uc4 x=true):SeqAt.EqAt A s u v (eqV y x):=by
 cases y with
 | non =>
  cases ry;cases x with
  | non=>cases rx;exact SeqAt.EqAt.same _
  | bl b=>cases rx;exact SeqAt.EqAt.none_bool b
  | int b=>obtain ⟨t,rfl⟩:=rx;exact SeqAt.EqAt.none_int b t
  | str b=>obtain ⟨t,rfl⟩:=rx;exact SeqAt.EqAt.none_str b t
  | _=>exact absurd (show false=true from fx) Bool.false_ne_true
 | bl a =>
  cases ry;cases x with
  | non=>cases rx;exact SeqAt.EqAt.bool_none a
  | bl b=>cases rx;exact SeqAt.EqAt.bool_bool a b
  | int b=>obtain ⟨t,rfl⟩:=rx;exact SeqAt.EqAt.bool_int a b t
  | str b=>obtain ⟨t,rfl⟩:=rx;exact SeqAt.EqAt.bool_str a b t
  | _=>exact absurd (show false=true from fx) Bool.false_ne_true
 | int a =>
  obtain ⟨t',rfl⟩:=ry;cases x with
  | non=>cases rx;exact SeqAt.EqAt.int_none a t'
  | bl b=>cases rx;exact SeqAt.EqAt.int_bool a t' b
  | int b=>obtain ⟨t,rfl⟩:=rx;exact SeqAt.EqAt.int_int a t' b t
  | str b=>obtain ⟨t,rfl⟩:=rx;exact SeqAt.EqAt.int_str a t' b t
  | _=>exact absurd (show false=true from fx) Bool.false_ne_true
 | str a =>
  obtain ⟨t',rfl⟩:=ry;cases x with
  | non=>cases rx;exact SeqAt.EqAt.str_none a t'
  | bl b=>cases rx;exact SeqAt.EqAt.str_bool a t' b
  | int b=>obtain ⟨t,rfl⟩:=rx;exact SeqAt.EqAt.str_int a t' b t
  | str b=>obtain ⟨t,rfl⟩:=rx;exact SeqAt.EqAt.str_str a t' b t
  | _=>exact absurd (show false=true from fx) Bool.false_ne_true
 | _=>exact absurd (show false=true from fy) Bool.false_ne_true
def eqU (x:V) (u:Value):Bool:=match u with
 | .none=>eqV .non x
 | .bool b=>eqV (.bl b) x
 | .int i _=>eqV (.int i) x
 | .str z _=>eqV (.str z) x
 | _=>false
theorem va9 {x y:V} {u:Value} (r:RelV y u) (f:uc4 y=true):eqU x u=eqV y x:=by
 cases y with
 | non=>cases r;rfl
 | bl b=>cases r;rfl
 | int i=>obtain ⟨t,rfl⟩:=r;rfl
 | str z=>obtain ⟨t,rfl⟩:=r;rfl
 | _=>exact absurd (show false=true from f) Bool.false_ne_true
theorem ud1 {x:V}:∀ {xs:List V} {us:List Value},Vals xs us->xs.all uc4=true->us.any (eqU x)=xs.any fun y=>eqV y x
 | _,_,.nil,_=>rfl
 | y::xs,u::us,.cons r t,f=>by
  rw [List.all_cons,Bool.and_eq_true] at f;rw [List.any_cons,List.any_cons,va9 r f.1,ud1 t f.2]
theorem u91 {A:Around} {s:Shared} {x:V} {v:Value} (rx:RelV x v) (fx:uc4 x=true):∀ {xs:List V} {us:List Value},Vals xs us->xs.all uc4=true->∀ u ∈ us,SeqAt.EqAt A s u v (eqU x u)
 | _,_,.nil,_=>fun u hu=>by cases hu
 | y::xs,u::us,.cons r t,f=>fun u' hu=>by
  rw [List.all_cons,Bool.and_eq_true] at f
  rcases List.mem_cons.mp hu with rfl | hu
  ·rw [va9 r f.1];exact vb0 r rx f.1 fx
  ·exact u91 rx fx t f.2 u' hu
def inV (x:V) (xs:List V):Bool:=xs.any fun y=>eqV y x
def rIn (K:W.Frag) (neg:Bool):R2:=fun x y H Q=>∃ p xs,y=.ref p /\ (SqL K H p xs \/ SqT K H p xs) /\ uc4 x=true /\ xs.all uc4=true /\ Q (.bl (if neg then !inV x xs else inV x xs)) H
theorem uv1:OpR X (compareOp .In) (rIn X.K false):=by
 intro pins s σ H x y v u Q I rx ry h;obtain ⟨p,xs,rfl,hq,fx,fs,q⟩:=h;cases ry
 rcases hq with hq | hq
 ·obtain ⟨its,r,pl,hz⟩:=I.list hq
  refine SeqAt.in_listAt (eqU x) pl.isList (fun w hw=>u91 rx fx r fs w (by simpa using hw)) ⟨.bl _,H,I,rfl,?_⟩;rw [show its.toArray.any (eqU x)=its.any (eqU x) by simp,ud1 r fs];exact q
 ·obtain ⟨its,r,pl,hz⟩:=I.tuple hq
  refine SeqAt.in_tupleAt (eqU x) pl (fun w hw=>u91 rx fx r fs w (by simpa using hw)) ⟨.bl _,H,I,rfl,?_⟩;rw [show its.toArray.any (eqU x)=its.any (eqU x) by simp,ud1 r fs];exact q
theorem ui6:OpR X (compareOp .NotIn) (rIn X.K true):=by
 intro pins s σ H x y v u Q I rx ry h;obtain ⟨p,xs,rfl,hq,fx,fs,q⟩:=h;cases ry
 rcases hq with hq | hq
 ·obtain ⟨its,r,pl,hz⟩:=I.list hq
  refine SeqAt.notIn_listAt (eqU x) pl.isList (fun w hw=>u91 rx fx r fs w (by simpa using hw)) ⟨.bl _,H,I,rfl,?_⟩;rw [show its.toArray.any (eqU x)=its.any (eqU x) by simp,ud1 r fs];exact q
 ·obtain ⟨its,r,pl,hz⟩:=I.tuple hq
  refine SeqAt.notIn_tupleAt (eqU x) pl (fun w hw=>u91 rx fx r fs w (by simpa using hw)) ⟨.bl _,H,I,rfl,?_⟩;rw [show its.toArray.any (eqU x)=its.any (eqU x) by simp,ud1 r fs];exact q
theorem call_len_seq:CallR X (.builtin "len") (fun xs H Q=>∃ p ys,xs=[.ref p] /\ (SqL X.K H p ys \/ SqT X.K H p ys) /\ Q (.int ys.length) H):=by
 intro pins s σ H xs us Q I r h;obtain ⟨p,ys,rfl,hq,q⟩:=h;obtain ⟨u,rfl,rx⟩:=vals1 r;cases rx;have hn:=line63
 rcases hq with hq | hq
 ·obtain ⟨its,r',pl,hz⟩:=I.list hq
  have hlen:=r'.length;exact Calls.call_len_list pl.isList (by simp only [List.size_toArray] <;> omega) ⟨.int ys.length,H,I.tok _,⟨s.toks+1,by rw [List.size_toArray,hlen]⟩,q⟩
 ·obtain ⟨its,r',pl,hz⟩:=I.tuple hq
  have hlen:=r'.length;exact len_tuple pl (by simp only [List.size_toArray] <;> omega) ⟨.int ys.length,H,I.tok _,⟨s.toks+1,by rw [List.size_toArray,hlen]⟩,q⟩
theorem uj5:CallR X (.builtin "len") (fun xs H Q=>∃ z,xs=[.str z] /\ z.length<=sizeLine /\ Q (.int z.length) H):=by
 intro pins s σ H xs us Q I r h;obtain ⟨z,rfl,hz,q⟩:=h;obtain ⟨u,rfl,t,rfl⟩:=vals1 r;have hn:=line63;exact len_str (by omega) ⟨.int z.length,H,I.tok _,⟨_,rfl⟩,q⟩
theorem CallR.or {f:Value} {r r':List V->Hp->VK->Prop} (h:CallR X f r) (h':CallR X f r'):CallR X f (fun xs H Q=>r xs H Q \/ r' xs H Q):=by
 intro pins s σ H xs us Q I rs q
 rcases q with q | q
 ·exact h pins s σ H xs us Q I rs q
 ·exact h' pins s σ H xs us Q I rs q
theorem uh3:CallR X (.type "tuple") (fun xs H Q=>∃ p ys,xs=[.ref p] /\ ((SqL X.K H p ys /\ ∀ l,H l=none->Q (.ref l) (upd H l (.tup ys))) \/ (SqT X.K H p ys /\ Q (.ref p) H))):=by
 intro pins s σ H xs us Q I r h;obtain ⟨p,ys,rfl,h⟩:=h;obtain ⟨u,rfl,rx⟩:=vals1 r;cases rx
 rcases h with ⟨hq,q⟩ | ⟨hq,q⟩
 ·obtain ⟨its,r',pl,hz⟩:=I.list hq
  have hlen:=r'.length;refine call_tuple_list pl.isList (fun h' kp=>?_) (by simp only [List.size_toArray] <;> omega);have I1:Inv X pins σ H { s with heap:=h' }:=I.kept (t':=s.toks) kp
  have I2:Inv X pins σ (upd H h'.objs.size (.tup ys)) { s with heap:=h'.push { cls:=.type "tuple",data:=.seq its.toArray } } :=
   I1.laid (t':=s.toks) (fun b o e=>Heap.get?_push_of_some _ e) (Nat.le_refl _) (show ObjOk X.prog X.w _ _ _ (.tup ys) from ⟨hz,its,r',TupD.new _ _⟩)
  exact ⟨.ref h'.objs.size,_,I2,rfl,q _ (I1.hok.fresh (Nat.le_refl _))⟩
 ·obtain ⟨its,r',pl,hz⟩:=I.tuple hq
  exact call_tuple_same pl ⟨.ref p,H,I,rfl,q⟩
def tyV (K:W.Frag) (T:String) (x:V) (H:Hp):Prop:=match x with
 | .str _=>T = "str"
 | .int _=>T = "int"
 | .ref p=>(T = "list" /\ ∃ xs,SqL K H p xs) \/ (T = "tuple" /\ ∃ o,K.lookup p=some o /\ o.cls=.type "tuple" /\ o.dict=none) \/
   (T = "dict" /\ ((∃ kvs,H p=some (.dK kvs)) \/ ∃ kvs,H p=some (.dT kvs))) \/ (T = "set" /\ ∃ S n,H p=some (.set S n))
 | _=>False
theorem v86 {pins:List (Addr × Obj)} {σ:St} {H:Hp} {s:Shared} {T:String} {x:V} {v:Value} (I:Inv X pins σ H s) (r:RelV x v) (ty:tyV X.K T x H) :
  s.TypeIs v T /\ ∀ a,v=.ref a->∃ ob,s.heap.get? a=some ob /\ ob.dict=none:=by
 cases x with
 | str z =>
  obtain ⟨t,rfl⟩:=r;cases (show T = "str" from ty);exact ⟨typeIs_str s z t,fun _ e=>nomatch e⟩
 | int i =>
  obtain ⟨t,rfl⟩:=r;cases (show T = "int" from ty);exact ⟨typeIs_int s i t,fun _ e=>nomatch e⟩
 | ref p =>
  cases r
  rcases ty with ⟨rfl,xs,hq⟩ | ⟨rfl,o,hk,hc,hd⟩ | ⟨rfl,hk⟩ | ⟨rfl,S,n,hk⟩
  ·obtain ⟨its,_,pl,_⟩:=I.list hq
   refine ⟨pl.isList.typeIs,fun a e=>?_⟩;cases e;obtain ⟨o,n,e,c,hd,_⟩:=pl;exact ⟨o,e,hd⟩
  ·refine ⟨⟨o,I.kIn p o hk,hc⟩,fun a e=>?_⟩
   cases e;exact ⟨o,I.kIn _ o hk,hd⟩
  ·have z:∃ o,s.heap.get? p=some o /\ o.ExactDict:=by
    rcases hk with ⟨kvs,hk⟩ | ⟨kvs,hk⟩
    ·obtain ⟨_,_,_,_,o,_,_,e,ex,_⟩:=I.hok p _ hk
     exact ⟨o,e,ex⟩
    ·obtain ⟨_,_,_,_,o,_,_,e,ex,_⟩:=I.hok p _ hk
     exact ⟨o,e,ex⟩
   obtain ⟨o,e,ex⟩:=z;refine ⟨⟨o,e,ex.1⟩,fun a e2=>?_⟩;cases e2;exact ⟨o,e,ex.2.1⟩
  ·obtain ⟨o,_,_,_,e,ex,_⟩:=I.hok p _ hk
   refine ⟨⟨o,e,ex.1⟩,fun a e2=>?_⟩;cases e2;exact ⟨o,e,ex.2.1⟩
 | _=>exact False.elim ty
def tBM0 (K:W.Frag) (T:String) (r:V->List V->Hp->VK->Prop) (to:TE):TE:=fun σ H Q=>to σ H fun x H1=>tyV K T x H1 /\ r x [] H1 Q
def tBM (K:W.Frag) (T:String) (r:V->List V->Hp->VK->Prop) (to:TE) (t:TA):TE:=fun σ H Q=>to σ H fun x H1=>tyV K T x H1 /\ t σ H1 fun xs H2=>r x xs H2 Q
variable {o e:Expr} {es:List Expr} {to:TE} {t:TA} {name:Str} {apos cpos:Pos} {T id:String} {r:V->List V->Hp->VK->Prop}
theorem va1 (pa:PlainAttrs T) (slot:Slot T name id) (hty:typeOf (.builtin id)=pure (.type "method_descriptor")) (hm:MtR X id r) (ho:PE X o to)
  (hbase:attributeBase o name X.env (eval o X.env)=eval o X.env:=by rfl) (hline:(apos.endLine == cpos.line)=true:=by rfl):PE X (.Call (.Attribute o name apos) [] [] cpos) (tBM0 X.K T r to):=by
 intro pins s σ H Q I h
 (refine wpAny_Call_method0_late hbase hline (thn (ho pins s σ H _ I h) ?_);rintro v s1 ⟨x,H1,I1,r1,ty,q1⟩)
 obtain ⟨h1,h2⟩:=v86 I1 r1 ty;exact ⟨T,id,pa,slot,hty,h1,h2,Calls.callWith_builtin rfl (PySem.evalArgs_none (hm pins s1 σ H1 x [] v [] Q I1 r1 .nil q1))⟩
theorem uu8 (pa:PlainAttrs T) (slot:Slot T name id) (hty:typeOf (.builtin id)=pure (.type "method_descriptor")) (hm:MtR X id r) (ho:PE X o to) (ha:PA X (e::es) t)
  (hbase:attributeBase o name X.env (eval o X.env)=eval o X.env:=by rfl)
  (hfew:((backTo cpos (starEach (e::es) X.env)).all (fun x=>!x.1) && (backToKw cpos (keywordEach [] X.env)).all (fun x=>x.1.isSome)
   && decide ((e::es).length+([]:List Keyword).length+(if ([]:List Keyword).isEmpty then 0 else 1) < 30))=true:=by rfl)
  (hline:(apos.endLine == cpos.line)=true:=by rfl) (hs:starEach (e::es) X.env=(false,eval e X.env)::starEach es X.env:=by rfl) (hplain:(backTo cpos (starEach es X.env)).any (·.1)=false:=by rfl) :
  PE X (.Call (.Attribute o name apos) (e::es) [] cpos) (tBM X.K T r to t):=by
 intro pins s σ H Q I h
 (refine wpAny_Call_method_late hbase hfew hline rfl (thn (ho pins s σ H _ I h) ?_);rintro v s1 ⟨x,H1,I1,r1,ty,q1⟩)
 obtain ⟨h1,h2⟩:=v86 I1 r1 ty;refine ⟨T,id,pa,slot,hty,h1,h2,?_⟩;have hA:=ha cpos pins s1 σ H1 _ I1 q1;rw [hs] at hA ⊢;refine Calls.callWith_builtin (by show (false || (backTo cpos (starEach es X.env)).any (·.1))=false;rw [hplain] <;> rfl) (Calls.evalArgs_plain ?_)
 (refine thn hA ?_;rintro us s2 ⟨vs,H2,I2,r2,q2⟩;exact hm pins s2 σ H2 x vs v us Q I2 r1 r2 q2)
/- xs.append(e),list.index on a module's tuple .. are MtR facts of 06m -/
end
def MtM (X:Cx) (id:String) (r:V->List V->Hp->VK->Prop):Prop :=
 ∀ (pins:List (Addr × Obj)) (s:Shared) (σ:St) (H:Hp) (x:V) (xs:List V) (v:Value) (us:List Value) (Q:VK),Inv X pins σ H s->RelV x v->Vals xs us->r x xs H Q ->
  wpAny (model X.prog X.w) X.A (call (.builtin id) (v::us)) (EP X pins σ Q) X.xe s
theorem Vals.one:∀ {x:V} {us:List Value},Vals [x] us->∃ u,us=[u] /\ RelV x u
 | _,_,.cons r .nil=>⟨_,rfl,r⟩
theorem Vals.two:∀ {x y:V} {us:List Value},Vals [x,y] us->∃ u v,us=[u,v] /\ RelV x u /\ RelV y v
 | _,_,_,.cons r (.cons q .nil)=>⟨_,_,rfl,r,q⟩
theorem Vals.zero:∀ {us:List Value},Vals [] us->us=[]
 | _,.nil=>rfl
theorem Vals.dropLast {xs:List V} {us:List Value} (h:Vals xs us):Vals xs.dropLast us.dropLast:=by
 induction h with
 | nil=>exact .nil
 | cons r t ih =>
  cases t with
  | nil=>exact .nil
  | cons q t'=>exact .cons r ih
theorem Vals.eraseIdx:∀ {xs:List V} {us:List Value} (i:Nat),Vals xs us->Vals (xs.eraseIdx i) (us.eraseIdx i)
 | _,_,_,.nil=>.nil
 | _,_,0,.cons _ t=>t
 | _,_,i+1,.cons r t=>.cons r (Vals.eraseIdx i t)
theorem Vals.reverse {xs:List V} {us:List Value} (h:Vals xs us):Vals xs.reverse us.reverse:=by
 induction h with
 | nil=>exact .nil
 | cons r t ih=>rw [List.reverse_cons,List.reverse_cons];exact Vals.append ih (.cons r .nil)
theorem Vals.rep {xs:List V} {us:List Value} (h:Vals xs us):∀ k:Nat,Vals (List.replicate k xs).flatten (List.replicate k us).flatten
 | 0=>.nil
 | k+1=>by
  rw [List.replicate_succ,List.replicate_succ,List.flatten_cons,List.flatten_cons];exact Vals.append h (Vals.rep h k)
theorem ur0 {α:Type} (l:List α):l.eraseIdx (l.length - 1)=l.dropLast:=by
 induction l with
 | nil=>rfl
 | cons a r ih =>
  cases r with
  | nil=>rfl
  | cons b r =>
   have e:(a::b::r).length - 1=((b::r).length - 1)+1:=by
    have h1:(a::b::r).length=r.length+2:=rfl;have h2:(b::r).length=r.length+1:=rfl;omega
   rw [e,List.eraseIdx_cons_succ,ih]
   all_goals rfl
theorem foldl_rep (its:List Value):∀ (k:Nat) (acc:List Value),
  List.foldl (fun x1 x2=>x1++x2) acc.toArray (List.replicate k its.toArray)=(acc++(List.replicate k its).flatten).toArray
 | 0,acc=>by simp
 | k+1,acc=>by
  have e:acc.toArray++its.toArray=(acc++its).toArray:=by simp
  have e2:(acc++its)++(List.replicate k its).flatten=acc++(List.replicate (k+1) its).flatten:=by
   rw [List.replicate_succ,List.flatten_cons,List.append_assoc]
  rw [<- e2,<- foldl_rep its k (acc++its),<- e,List.replicate_succ,List.foldl_cons]
section
variable {X:Cx} {pins:List (Addr × Obj)} {σ:St} {H:Hp} {s:Shared} {l b:Addr} {xs ys zs:List V}
theorem Inv.lset {its its':List Value} {n:Nat} {f:Array Value->Array Value} {t':Nat} (I:Inv X pins σ H s) (hH:H l=some (.lst xs))
  (e:s.heap.get? l=some { cls:=.type "list",data:=.seq its.toArray n }) (hf:f its.toArray=its'.toArray) (hv:Vals ys its') (hz:ys.length<=sizeLine) :
  Inv X pins σ (upd H l (.lst ys)) { s with heap:=s.heap.update l (Obj.mapSeq f),toks:=t' }:=by
 have q:=PySem.IsL.update e f;rw [hf] at q;refine I.write (x:=l) (e:=l) (by rw [hH];exact trivial) (.inl rfl) (fun b' u hb hu=>(Heap.get?_update_other s.heap (Obj.mapSeq f) (Ne.symm hb)).trans hu) ⟨_,q⟩ ?_;exact ⟨hz,its',_,hv,q⟩
theorem Inv.lnew {its:List Value} {t':Nat} (I:Inv X pins σ H s) (hv:Vals ys its) (hz:ys.length<=sizeLine) :
  Inv X pins σ (upd H s.heap.objs.size (.lst ys)) { s with heap:=s.heap.push { cls:=.type "list",data:=.seq its.toArray },toks:=t' } :=
 I.laid (fun _ _ q=>Heap.get?_push_of_some _ q) (Nat.le_refl _) ⟨hz,its,0,hv,Heap.get?_push_size _ rfl⟩
theorem Inv.fresh (I:Inv X pins σ H s):H s.heap.objs.size=none:=I.hok.fresh (Nat.le_refl _)
theorem Inv.lstM (I:Inv X pins σ H s) (hH:H l=some (.lst xs)):xs.length<=sizeLine /\ ∃ (its:List Value) (n:Nat),Vals xs its /\ xs.length=its.length /\ s.heap.get? l=some { cls:=.type "list",data:=.seq its.toArray n }:=by
 obtain ⟨z,its,n,r,e⟩:=I.hok l _ hH;exact ⟨z,its,n,r,r.length,e⟩
theorem ug5 {n:Nat} (h:n<=sizeLine):Builtin.List.listTooLong n=false:=by
 unfold Builtin.List.listTooLong;exact decide_eq_false (by omega)
end
section
variable {X:Cx}
def vf7:V->List V->Hp->VK->Prop:=fun x vs H Q=>∃ l xs y,x=.ref l /\ vs=[y] /\ H l=some (.lst xs) /\ xs.length < sizeLine /\ Q .non (upd H l (.lst (xs++[y])))
theorem ui7:MtM X "list.append" vf7:=by
 intro pins s σ H x vs v us Q I rx rv h;obtain ⟨l,xs,y,rfl,rfl,hH,hz,q⟩:=h;cases rx;obtain ⟨u,rfl,ru⟩:=rv.one;obtain ⟨z,its,n,r,hl,e⟩:=I.lstM hH;refine call_meets F.slot_list_append ⟨_,e,rfl⟩ F.entry_list_append (F.args_list_append_2 _ _) (PySem.list_append l its.toArray n u (by rw [List.size_toArray];omega)) ⟨e,?_⟩;refine ⟨.non,_,I.lset (its':=its++[u]) hH e (by simp) (r.append (.cons ru .nil)) ?_,rfl,q⟩;rw [List.length_append,List.length_singleton];omega
def vf5:V->List V->Hp->VK->Prop:=fun x vs H Q=>∃ l b xs zs,x=.ref l /\ vs=[.ref b] /\ H l=some (.lst xs) /\ H b=some (.lst zs) /\ xs.length+zs.length<=sizeLine /\ Q .non (upd H l (.lst (xs++zs)))
theorem uv4:MtM X "list.extend" vf5:=by
 intro pins s σ H x vs v us Q I rx rv h;obtain ⟨l,b,xs,zs,rfl,rfl,hH,hB,hz,q⟩:=h;cases rx;obtain ⟨u,rfl,ru⟩:=rv.one;cases ru;obtain ⟨z,its,n,r,hl,e⟩:=I.lstM hH;obtain ⟨z2,its2,n2,r2,hl2,e2⟩:=I.lstM hB;have hsz:its.toArray.size+its2.toArray.size<=sizeLine:=by rw [List.size_toArray,List.size_toArray];omega
 have hlong:¬ (!its.toArray.isEmpty && Builtin.List.listTooLong (its.toArray.size+its2.toArray.size))=true:=by
  rw [ug5 hsz,Bool.and_false];exact Bool.false_ne_true
 refine call_meets F.slot_list_extend ⟨_,e,rfl⟩ F.entry_list_extend (F.args_list_extend_2 _ _)
  (AutoSeq1.list_extend_list_list_0 l its.toArray n b its2.toArray n2 hlong (by rw [List.size_toArray];omega) (by omega)) ⟨e,e2,?_⟩
 refine ⟨.non,_,I.lset (its':=its++its2) hH e (by simp) (r.append r2) ?_,rfl,q⟩;rw [List.length_append];omega
def rPop:V->List V->Hp->VK->Prop:=fun x vs H Q=>∃ l xs y,x=.ref l /\ vs=[] /\ H l=some (.lst xs) /\ xs[xs.length - 1]?=some y /\ Q y (upd H l (.lst xs.dropLast))
theorem vw4:MtM X "list.pop" rPop:=by
 intro pins s σ H x vs v us Q I rx rv h;obtain ⟨l,xs,y,rfl,rfl,hH,hy,q⟩:=h;cases rx;have hus:=rv.zero;subst hus;obtain ⟨z,its,n,r,hl,e⟩:=I.lstM hH;obtain ⟨u,hu,ru⟩:=r.get hy;have hy':its.toArray[its.toArray.size - 1]?=some u:=by
  show its.toArray[its.length - 1]?=some u
  rw [<- Array.getElem?_toList,<- hl];exact hu
 refine call_meets F.slot_list_pop ⟨_,e,rfl⟩ F.entry_list_pop (F.args_list_pop_1 _) (MeetsSeq.list_pop_last l its.toArray n u hy' (by rw [List.size_toArray];omega)) ⟨e,?_⟩;refine ⟨y,_,I.lset (its':=its.dropLast) hH e ?_ r.dropLast ?_,ru,q⟩
 ·show its.toArray.eraseIdxIfInBounds (its.toArray.size - 1)=its.dropLast.toArray
  rw [List.size_toArray,List.eraseIdxIfInBounds_toArray,ur0]
 ·rw [List.length_dropLast]
  omega
def rCat:R2:=fun x y H Q=>∃ l b xs zs,x=.ref l /\ y=.ref b /\ H l=some (.lst xs) /\ H b=some (.lst zs) /\ xs.length+zs.length<=sizeLine /\ ∀ p,H p=none->Q (.ref p) (upd H p (.lst (xs++zs)))
theorem vt3:OpR X (binaryOp .Add) rCat:=by
 intro pins s σ H x y v u Q I rx ry h;obtain ⟨l,b,xs,zs,rfl,rfl,hH,hB,hz,q⟩:=h;cases rx;cases ry;obtain ⟨z,its,n,r,hl,e⟩:=I.lstM hH;obtain ⟨z2,its2,n2,r2,hl2,e2⟩:=I.lstM hB;refine PySem.P.add_list e e2 ?_ (by rw [List.size_toArray,List.size_toArray];omega);have ea:its.toArray++its2.toArray=(its++its2).toArray:=by simp
 rw [ea];exact ⟨.ref _,_,I.lnew (t':=s.toks) (r.append r2) (by rw [List.length_append];omega),rfl,q _ I.fresh⟩
def rRep:R2:=fun x y H Q=>∃ l k xs,x=.ref l /\ y=.int k /\ H l=some (.lst xs) /\ -(2 ^ 63)<=k /\ k < 2 ^ 63 /\ xs.length * k.toNat<=sizeLine /\
 ∀ p,H p=none->Q (.ref p) (upd H p (.lst (List.replicate k.toNat xs).flatten))
theorem len_rep {α:Type} (xs:List α) (k:Nat):(List.replicate k xs).flatten.length=k * xs.length:=by
 induction k with
 | zero=>simp
 | succ k ih=>rw [List.replicate_succ,List.flatten_cons,List.length_append,ih,Nat.succ_mul,Nat.add_comm]
theorem vs6:OpR X (binaryOp .Mult) rRep:=by
 intro pins s σ H x y v u Q I rx ry h;obtain ⟨l,k,xs,rfl,rfl,hH,h1,h2,hz,q⟩:=h;cases rx;obtain ⟨t,rfl⟩:=ry;obtain ⟨z,its,n,r,hl,e⟩:=I.lstM hH;have hlen:its.toArray.size * k.toNat<=sizeLine:=by rw [List.size_toArray,<- hl];exact hz
 have hcap:¬ its.toArray.size * k.toNat > (2 ^ 63 - 1) / 8:=by
  have:(sizeLine:Nat)<=(2 ^ 63 - 1) / 8:=by decide
  omega
 have hfit:¬ (!Builtin.List.listFitsIndex k)=true:=by
  rw [fitsIndex_both h1 h2];exact Bool.false_ne_true
 have hlong:¬ Builtin.List.listTooLong (its.toArray.size * k.toNat)=true:=by
  rw [ug5 hlen];exact Bool.false_ne_true
 have hnew:List.foldl (fun x1 x2=>x1++x2) #[] (List.replicate (if its.toArray.isEmpty=true then 0 else k.toNat) its.toArray)=(List.replicate k.toNat its).flatten.toArray:=by
  have f0:∀ m:Nat,List.foldl (fun x1 x2=>x1++x2) #[] (List.replicate m its.toArray)=(List.replicate m its).flatten.toArray:=fun m=>by
   have:=foldl_rep its m [];rw [List.nil_append] at this;exact this
  rw [f0];cases its with
  | nil=>simp
  | cons a r'=>rw [if_neg (by simp)]
 refine wpAny_binaryOp_repeat_ref (T := "list") (U := "int") (by decide) ⟨_,e,rfl⟩ (fun s'=>typeIs_int s' k t) noFill_list_mul F.fills_int_mul F.slot_int_rmul repeat_list F.slot_int_index.lookup
  (call_meets F.slot_int_rmul (typeIs_int s k t) F.entry_int_rmul (F.args_int_rmul_2 _ _) (int___rmul___int_list k t l its.toArray n)
   ⟨e,rfl,⟨_,e,rfl⟩,call_meets F.slot_list_mul ⟨_,e,rfl⟩ F.entry_list_mul (F.args_list_mul_2 _ _) (AutoListH.list___mul___list_int_3 l its.toArray n k t hfit hcap hlong) ⟨e,?_⟩⟩)
 rw [hnew];exact ⟨.ref _,_,I.lnew (t':=s.toks) (r.rep k.toNat) (by rw [len_rep,Nat.mul_comm];exact hz),rfl,q _ I.fresh⟩
end
end L2
namespace Att
open PySem PySem.W PySem.Calls PyProof.Rows
theorem uc1 {P:Params} {h:Heap}:∀ (ns:List Int) (vs:List Value),WellAll P h vs (ns.map WData.int)->IntsAre vs ns:=by
 intro ns
 induction ns with
 | nil =>
  intro vs w;rw [List.map_nil] at w;cases w;exact .nil
 | cons n ns ih =>
  intro vs w;rw [List.map_cons] at w;cases w with
  | cons a b =>
   cases a;exact .cons _ _ (ih _ b)
theorem ut7 {l:OpenLaw} {n:Nat} (hn:l.most=some n) {P:Params} {h:Heap} {args:List WData} {vals:List Value}
  (hpre:l.row.toRowW.claim.pre args=true) (hwl:WellAll P h vals args) :
  ∃ a vs ns,vals=[Value.ref a] /\ args=[WData.list (ns.map WData.int)] /\ h.get? a=some { cls:=.type "list",data:=.seq vs.toArray } /\ IntsAre vs ns /\ ns.length<=n:=by
 have hsh:WShape.hasAll [] args [.list .int]=true:=(pre_splitW hpre).1;have hc:l.pre.holds [] { args:=args }=true:=(pre_splitW hpre).2;obtain ⟨d,r,rfl,h1,h2⟩:=hasAllW_cons hsh;obtain rfl:=hasAllW_nil h2;obtain ⟨xs,rfl,h3⟩:=hasW_list h1;obtain ⟨ns,rfl⟩:=items_int h3;have hlen:ns.length<=n:=by
  unfold OpenLaw.pre at hc;have h4:(WTm.not (.lt (.lit (.int (n:Int))) (.len (.arg 0)))).holds [] { args:=[.list (ns.map .int)] }=true:=by
   have h4:=(holds_andW hc).1;rw [hn] at h4;exact h4
  have h5:=condW_of h4 (w_not (w_lt w_lit (w_len_list (w_arg rfl))));rw [List.length_map] at h5;refine Nat.le_of_not_lt fun q=>?_
  have q':(n:Int) < ((ns.length:Nat):Int):=by omega
  first
   | (rw [decide_eq_true q'] at h5;exact absurd h5 (by decide))
   | (simp at h5;omega)
 cases hwl with
 | cons w1 w2 =>
  cases w2;cases w1 with
  | list ho hall=>exact ⟨_,_,ns,rfl,rfl,ho,uc1 ns _ hall,hlen⟩
theorem uu4 (l:OpenLaw) (args:List WData):l.row.toRowW.claim.post args (.bool true) args=true :=
 postW_of (r:=l.row.toRowW) (X:=(true == true))
  (show WShape.has [] (.bool true) .bool=true by first | rfl | decide | simp [WShape.has,WShape.arms,WShape.armsAll])
  (show (WTm.eq .res (.lit (.bool true))).value [] { args:=args,res:=some (.bool true),after:=args }=some (.bool (true == true)) from w_eq_bool (w_res rfl) w_lit) rfl
theorem attach_call {l:OpenLaw} {n:Nat} {q:Program} {loose:List Str} {XP:(Str->Option Value)->Heap->Prop} {YP:World->Heap->Prop} {d:DefRec}
  (hn:l.most=some n) (hdf:d.params.defaults=[])
  (call:∀ (w:World) (s₀ s₁:Shared) (mg mb:Str->Option Value) (fa:Addr) (o:Obj) (pm cd doc:Value) (a:Addr) (vs:List Value) (ns:List Int),
   Ground q loose [] XP w s₀ mg mb s₁.heap->YP w s₁.heap ->
   s₁.heap.get? fa=some o->o.data=.func (docDef d.name d.params d.body d.scope pm cd doc)->s₁.heap.CodeRec cd d.name->mg d.name=some (.ref fa) ->
   s₁.heap.get? a=some { cls:=.type "list",data:=.seq vs.toArray }->IntsAre vs ns->ns.length<=n->s₁.gens=#[] ->
   codeAny (model l.prog w) callerA (.call (.ref fa) ⟨[.ref a],[]⟩) (fun r s'=>r=.ok (.ret (.bool true)) /\ OldK s₁.heap s'.heap /\ s'.os=s₁.os /\ AllBare s'.gens) s₁) :
  WalkO q loose XP YP l.row.toRowW d [] (fun f vs=>PySem.call f vs):=by
 intro w s₀ s₁ mg mb G Y fa o pm cd doc dV kV ho hd hcd hD hmg hg args vals as hpre hlay hrd hwl hlo;obtain rfl:dV=.none:=Dflts.none hD hdf;obtain rfl:kV=.none:=Dflts.noKw hD;obtain ⟨a,vs,ns,rfl,rfl,hobj,hints,hlen⟩:=ut7 hn hpre hwl;refine enter_call (codeAny_mono (call w s₀ s₁ mg mb fa o pm cd doc a vs ns G Y ho (fd_plain hd) hcd hmg hobj hints hlen hg) fun r s' hq=>?_);obtain ⟨rfl,h2,h3,h4⟩:=hq;exact ⟨.inl ⟨.bool true,.bool true,[],rfl,fun _=>rfl,.bool true,uu4 l _,fun _=>⟨List.Pairwise.nil,fun _ hm=>(nomatch hm)⟩⟩,h2,h3,h4⟩
end Att
namespace L2
open PySem PySem.Spec PyProof.Rows
theorem uh6:∀ {vs:List Value} {ns:List Int},IntsAre vs ns->Vals (ns.map V.int) vs
 | _,_,.nil=>.nil
 | _,_,.cons n t h=>.cons ⟨t,rfl⟩ (uh6 h)
def Only (H:Hp):Prop:=∀ b,H b=none \/ ∃ o xs,H b=some (.frz o (.lst xs))
abbrev KOf {K:W.Frag} {h:Heap} (_:K.In h):W.Frag:=K
end L2
/- THE LAST THEOREM (shape; LID,My.* are yours):
   My.Adr: a structure of the addresses that your layer names (classes,functions);My.Txt K t: a structure (Prop) of the equations over K;
   My.txt_mk:{K} {implicit addresses ..} (e1:nsIn K mainGlobals "law" = some (some (.ref f))) (e2:K.lookup f=some ⟨oc,od,.func (fnOf "law" "law" params body scope dV kV doc pm an cdv ct),sl⟩) (e3:codeIn K cdv "law" = true) ..:∃ t,My.Txt K t
set_option maxHeartbeats 0 in
theorem PySem.Challenge.cw_LID_holds:PySem.Challenge.rw_LID.Holds:=by
 w_on;o_law;k_head;(case hw=>w_witness2)
 k_fill
 refine L2.walk_of (l:=PySem.Challenge.rw_LID) (n:=63) (k:=40) (x := "script") (CX:=fun w=>..) (sp:=fun _=>My.sp_law) rfl (by decide) rfl ⟨rfl,by decide,by decide⟩ (fun w h Y=>W.kIn_of Y) ?F ?S ?C
 case F =>
  intro w mg fa h KX G hmg;have T:∃ t,My.Txt (L2.KOf KX) t:=by
   dsimp only [L2.KOf]                          -- K must stand as «<heap const> w.params» for k_is;refine' My.txt_mk ?e1 ?e2 ?e3 ..
   (case e1=>W.k_is)                    -- in the order: a name->its address->its object->its parts
   (case e2=>W.k_is)
   ..
  obtain ⟨t,T⟩:=T;have e0:=hmg.symm.trans (W.mg_of KX G T.law);cases e0                                       -- fa is the law's own address;exact ⟨_,fun s u=>.of_eq rfl,fun base kb nb=>My.law_fn T kb nb⟩     -- if «.of_eq rfl» comes too early: refine' ⟨_,?b,fun base kb nb=>My.law_fn T kb nb⟩;exact fun s u=>.of_eq rfl
 case S=>exact fun w H a ns hl hO hS=>..
 case C=>exact ..
(the tactic k_is has no namespace: write k_is) -/
namespace L2
open PySem PySem.Spec PyProof.Rows
def inClass (s:Stmt) (j:Nat):Stmt:=match s with
 | .ClassDef _ _ _ body _ _ _ _ _ _ _=>body.getD j (.Pass ⟨0,0,0,0⟩)
 | _=>.Pass ⟨0,0,0,0⟩
def u24 (s:Stmt):Arguments:=match s with
 | .FunctionDef _ a _ _ _ _ _ _ _ _=>a
 | _=>{ posonlyargs:=[],args:=[],vararg:=none,kwonlyargs:=[],kw_defaults:=[],kwarg:=none,defaults:=[] }
def u17 (s:Stmt):List Stmt:=match s with
 | .FunctionDef _ _ b _ _ _ _ _ _ _=>b
 | _=>[]
def u05 (s:Stmt):Scope:=match s with
 | .FunctionDef _ _ _ _ _ _ sc _ _ _=>sc
 | _=>{ kind:=.function,names:=[],isGenerator:=false,isCoroutine:=false }
abbrev CX0:CXT:=fun _ _ _ _ _ _=>False
abbrev E0:XK:=fun _ _ _=>False
theorem pass0 {X:Cx}:Passes CX0 X E0:=fun _ _ _ _ _ _ _ h=>h.elim
theorem vj9 {A:Around} {k:Nat} (hr:Room k A):A.units+1 < cLine:=Nat.lt_of_le_of_lt (Nat.add_le_add_left (by decide:1<=64) _) hr.units
section
variable {X:Cx}
theorem pv (i:Nat) {x:Str} {pos:Pos} (hN:X.N[i]?=some x:=by rfl) (hv:Vis X.env.scope x:=by first | exact Or.inl rfl | exact Or.inr (Or.inl rfl) | exact Or.inr (Or.inr rfl)) (hd:(x == ("__debug__" : Str))=false:=by decide)
  (hcd:(x == ("__classdict__" : Str))=false:=by decide):PE X (.Name x pos) (tVar i):=va0 hN hv hd hcd
end
theorem vi9 {prog:Program} {w:World} {A:Around} {R:Result->Shared->Prop} {s:Shared} {elt target iter:Expr} {ifs:List Expr} {scope:Scope} {pos:Pos} {it acc:Value} {env:Env} (I:Nat->Shared->Prop)
  (turn:∀ n s,I n s->wpAny (model prog w) A (pyNext it) (fun r s₁=>match r with
   | none=>R (.ok .next) s₁
   | some v=>wpAny (model prog w) A (letOwnedTupleGo target it v) (fun _ s₁=>wpAny (model prog w) A (assign target env v) (fun _ s₂ =>
     wpAny (model prog w) A (forIn ifs true fun c r=>if r=true then do let ok <- isTrue c env (eval c env);pure (ForInStep.yield ok) else pure (ForInStep.yield r)) (fun ok s₃ =>
      if ok=true then wpAny (model prog w) A (eval elt env) (fun x s₄ =>
       wpAny (model prog w) A (call (.builtin "list.append") [acc,x]) (fun _ s₅=>∃ m,m < n /\ I m s₅) (fun _ _=>False) s₄) (fun _ _=>False) s₃
      else ∃ m,m < n /\ I m s₃) (fun _ _=>False) s₂) (fun _ _=>False) s₁) (fun _ _=>False) s₁) (fun _ _=>False) s)
  (n:Nat) (h:I n s) :
  codeAny (model prog w) A (.compLoop (.ListComp elt [⟨target,iter,ifs,0⟩] scope pos) 0 it acc env) R s:=by
 refine codeAny_loop rfl I (fun n s hI=>?_) n h
 show wpAny _ A ((compTurn (.ListComp elt [⟨target,iter,ifs,0⟩] scope pos) 0 it acc env).onRaise (fun x=>do noteFrame x env;theTreesLotGoes x)) _ _ s
 refine wpAny_noted ?_;rw [compTurn_list];refine wpAny_bind (wpAny_standAt (wpAny_bind (wpAny_mono (turn n s hI) (fun r s₁ h₁=>?_) fun _ _ h'=>h'.elim)));cases r with
 | none=>exact wpAny_pure h₁
 | some v =>
  refine wpAny_bind (wpAny_mono h₁ (fun _ s₂ h₂=>?_) fun _ _ h'=>h'.elim);refine wpAny_bind (wpAny_mono h₂ (fun _ s₂ h₂=>wpAny_bind (wpAny_mono h₂ (fun ok s₃ h₃=>?_) fun _ _ h'=>h'.elim)) fun _ _ h'=>h'.elim);cases ok with
  | false=>exact wpAny_pure ⟨rfl,h₃⟩
  | true =>
   exact wpAny_bind (wpAny_bind (wpAny_mono h₃ (fun x s₄ h₄=>wpAny_bind (wpAny_mono h₄ (fun _ s₅ h₅=>wpAny_pure (wpAny_pure ⟨rfl,h₅⟩)) fun _ _ h'=>h'.elim)) fun _ _ h'=>h'.elim))
def clOf (env:Env):List (Str × NameKind)->List (Str × Addr)->List (Str × Addr)
 | [],cs=>cs
 | (x,k)::r,cs=>clOf env r (if (k == .free)=true then (x,(env.cells.lookup x).getD 0)::cs else cs)
theorem ul6 {env:Env} {x:Str} {c:Addr} (h:env.cells.lookup x=some c):cellOf env x=pure c:=by
 unfold cellOf;rw [h]
theorem ur4 {scope:Scope} {env:Env} (h:∀ y ∈ scope.names,y.2=.free->∃ c,env.cells.lookup y.1=some c):closureFor scope env=pure (clOf env scope.names []):=by
 have key:∀ (l:List (Str × NameKind)) (cs:List (Str × Addr)),(∀ y ∈ l,y.2=.free->∃ c,env.cells.lookup y.1=some c) ->
   (forIn l cs fun (y:Str × NameKind) r=>if (y.2 == NameKind.free)=true then do let c <- cellOf env y.1;pure (ForInStep.yield ((y.1,c)::r)) else pure (ForInStep.yield r):Sem (List (Str × Addr)))=pure (clOf env l cs):=by
  intro l
  induction l with
  | nil=>intro cs _;rfl
  | cons y r ih =>
   intro cs hl;obtain ⟨x,k⟩:=y;rw [List.forIn_cons]
   by_cases hk:k=.free
   ·subst hk
    obtain ⟨c,hc⟩:=hl (x,.free) List.mem_cons_self rfl;have e:((NameKind.free == NameKind.free):Bool)=true:=rfl;simp only [e,if_true,ul6 hc,pure_bind];rw [ih _ fun z hz=>hl z (List.mem_cons_of_mem _ hz)]
    show _=pure (clOf env r (if (NameKind.free == NameKind.free)=true then _ else _))
    rw [e,if_pos rfl,hc] <;> rfl
   ·have e:(k == NameKind.free)=false:=by simpa using hk
    simp only [e,Bool.false_eq_true,if_false,pure_bind];rw [ih _ fun z hz=>hl z (List.mem_cons_of_mem _ hz)]
    show _=pure (clOf env r (if (k == NameKind.free)=true then _ else _))
    rw [e,if_neg Bool.false_ne_true]
 have e:closureFor scope env=((forIn scope.names ([]:List (Str × Addr)) fun (y:Str × NameKind) r=>if (y.2 == NameKind.free)=true then do let c <- cellOf env y.1;pure (ForInStep.yield ((y.1,c)::r)) else pure (ForInStep.yield r):Sem (List (Str × Addr))) >>= fun cs=>pure cs):=rfl;rw [e,key scope.names [] h];rfl
theorem uc7 {env:Env} {x:Str} {c:Addr}:∀ {l:List (Str × NameKind)} {cs:List (Str × Addr)},(∀ y ∈ l,y.2=.free->∃ c,env.cells.lookup y.1=some c)->(∀ x c,cs.lookup x=some c->env.cells.lookup x=some c) ->
  (clOf env l cs).lookup x=some c->env.cells.lookup x=some c
 | [],_,_,h,e=>h x c e
 | (y,k)::r,cs,hl,h,e=>by
  refine uc7 (l:=r) (fun z hz=>hl z (List.mem_cons_of_mem _ hz)) (fun x c e=>?_) e
  by_cases hk:k=.free
  ·subst hk
   obtain ⟨d,hd⟩:=hl (y,.free) List.mem_cons_self rfl;rw [if_pos (show (NameKind.free == NameKind.free)=true from rfl),List.lookup_cons] at e;cases hx:x == y with
   | true=>rw [hx,hd] at e;cases e;rw [eq_of_beq hx];exact hd
   | false=>rw [hx] at e;exact h x c e
  ·rw [if_neg (by simpa using hk)] at e;exact h x c e
theorem uh2 {env:Env} {x:Str}:∀ {l:List (Str × NameKind)} {cs:List (Str × Addr)},((∃ c,cs.lookup x=some c) \/ (x,NameKind.free) ∈ l)->∃ c,(clOf env l cs).lookup x=some c
 | [],_,h=>by
  rcases h with h | h
  ·exact h
  ·simp at h
 | (y,k)::r,cs,h=>by
  refine uh2 (l:=r) ?_
  rcases h with ⟨c,h⟩ | h
  ·left
   by_cases hk:(k == NameKind.free)=true
   ·rw [if_pos hk,List.lookup_cons]
    cases hx:x == y with
    | true=>exact ⟨_,rfl⟩
    | false=>exact ⟨c,h⟩
   ·rw [if_neg hk];exact ⟨c,h⟩
  ·rcases List.mem_cons.mp h with e | h
   ·injection e with e1 e2
    subst e1;subst e2
    left
    rw [if_pos (show (NameKind.free == NameKind.free)=true from rfl),List.lookup_cons];simp
   ·exact .inr h
def u73 (X:Cx) (N':List Str) (scope:Scope) (C:Addr) (s:Shared) (H:Hp) (fp:List Addr):Cx :=
 { X with N:=N',s₀:=s,H₀:=H,env:=compEnvC scope (clOf X.env scope.names []) C X.env,outer:=X.stack,ex:=fp,fn:=fun _=>false,pn:=[],xe:=fun _ _=>False }
structure BlkOk (X:Cx) (N':List Str) (ix:List (Option Nat)) (scope:Scope):Prop where
 kind:scope.kind=.function
 nocell:∀ y ∈ scope.names,y.2 ≠ .cell
 names:∀ y ∈ scope.names,y.2=.local->scope.names.lookup y.1=some .local
 frees:∀ y ∈ scope.names,y.2=.free->X.env.kindOf y.1=some .cell \/ X.env.kindOf y.1=some .free
 len:ix.length=N'.length
 at_:∀ (i j:Nat) (x:Str),N'[i]?=some x->ix[i]?=some (some j)->X.N[j]?=some x /\ scope.names.lookup x=some .free
def inner (ix:List (Option Nat)) (σ:St):St:=ix.map fun o=>o.bind fun j=>(σ[j]?).bind id
def vp3 (ix:List (Option Nat)) (wi:TI) (g:TG) (tc:TT) (te:TE):TE:=fun σ H Q=>wi σ H fun J H1=>∀ D,H1 D=none->∃ W:Nat->Nat->St->Hp->Prop,(∃ m,W 0 m (inner ix σ) (upd H1 D (.lst []))) /\ ∀ i m σi H,W i m σi H ->
 (J.stop i H /\ Q (.ref D) H) \/ (J.go i H /\ ∃ N:St->Hp->Prop,(∀ σ' H',N σ' H'->∃ m',m' < m /\ W (i+1) m' σ' H') /\ ∀ x H',J.yld i H x H'->g x σi H' fun σ2 H2=>tc σ2 H2 fun b H3 =>
  if b=true then te σ2 H3 fun v H4=>∃ ys,H4 D=some (.lst ys) /\ ys.length < sizeLine /\ N σ2 (upd H4 D (.lst (ys++[v]))) else N σ2 H3)
theorem u48 {env:Env} {x:Str}:∀ {names:List (Str × NameKind)},names.lookup x=some .free->(env.kindOf x=some .cell \/ env.kindOf x=some .free) ->
  (names.map fun (n,k)=>if (k == NameKind.free && env.scope.kind == .function && env.kindOf n == some .cell) then (n,NameKind.cell) else (n,k)).lookup x=some .cell \/
  (names.map fun (n,k)=>if (k == NameKind.free && env.scope.kind == .function && env.kindOf n == some .cell) then (n,NameKind.cell) else (n,k)).lookup x=some .free
 | [],h,_=>by simp at h
 | (n,k)::r,h,ho=>by
  cases hx:x == n with
  | true =>
   simp only [List.lookup_cons,hx] at h;cases h
   by_cases hc:(NameKind.free == NameKind.free && env.scope.kind == .function && env.kindOf n == some .cell)=true
   ·left
    show List.lookup x ((if (NameKind.free == NameKind.free && env.scope.kind == .function && env.kindOf n == some .cell)=true then (n,NameKind.cell) else (n,.free))::_)=_
    rw [if_pos hc];simp only [List.lookup_cons,hx]
   ·right
    show List.lookup x ((if (NameKind.free == NameKind.free && env.scope.kind == .function && env.kindOf n == some .cell)=true then (n,NameKind.cell) else (n,.free))::_)=_
    rw [if_neg hc];simp only [List.lookup_cons,hx]
  | false =>
   simp only [List.lookup_cons,hx] at h;have ih:=u48 (env:=env) h ho
   show List.lookup x ((if (k == NameKind.free && env.scope.kind == .function && env.kindOf n == some .cell)=true then (n,NameKind.cell) else (n,k))::_)=_ \/
    List.lookup x ((if (k == NameKind.free && env.scope.kind == .function && env.kindOf n == some .cell)=true then (n,NameKind.cell) else (n,k))::_)=_
   by_cases hc:(k == NameKind.free && env.scope.kind == .function && env.kindOf n == some .cell)=true
   ·rw [if_pos hc];simp only [List.lookup_cons,hx];exact ih
   ·rw [if_neg hc];simp only [List.lookup_cons,hx];exact ih
theorem u49 {env:Env} {x:Str}:∀ {names:List (Str × NameKind)},(∀ y ∈ names,y.2 ≠ .cell) ->
  ((names.map fun (n,k)=>if (k == NameKind.free && env.scope.kind == .function && env.kindOf n == some .cell) then (n,NameKind.cell) else (n,k)).lookup x=some .cell \/
  (names.map fun (n,k)=>if (k == NameKind.free && env.scope.kind == .function && env.kindOf n == some .cell) then (n,NameKind.cell) else (n,k)).lookup x=some .free)->(x,NameKind.free) ∈ names
 | [],_,h=>by simp at h
 | (n,k)::r,hn,h=>by
  have h:List.lookup x ((if (k == NameKind.free && env.scope.kind == .function && env.kindOf n == some .cell)=true then (n,NameKind.cell) else (n,k))::(r.map fun (n,k)=>if (k == NameKind.free && env.scope.kind == .function && env.kindOf n == some .cell) then (n,NameKind.cell) else (n,k)))=some .cell \/
   List.lookup x ((if (k == NameKind.free && env.scope.kind == .function && env.kindOf n == some .cell)=true then (n,NameKind.cell) else (n,k))::(r.map fun (n,k)=>if (k == NameKind.free && env.scope.kind == .function && env.kindOf n == some .cell) then (n,NameKind.cell) else (n,k)))=some .free:=h
  cases hx:x == n with
  | true =>
   have e:x=n:=eq_of_beq hx;subst e
   by_cases hc:(k == NameKind.free && env.scope.kind == .function && env.kindOf x == some .cell)=true
   ·have hk:k=.free:=by
     simp only [Bool.and_eq_true,beq_iff_eq] at hc;exact hc.1.1
    subst hk;exact List.mem_cons_self
   ·rw [if_neg hc] at h
    simp only [List.lookup_cons,hx,Option.some.injEq] at h
    rcases h with h | h
    ·exact absurd h (hn (x,k) List.mem_cons_self)
    ·subst h;exact List.mem_cons_self
  | false =>
   refine List.mem_cons_of_mem _ (u49 (env:=env) (fun y hy=>hn y (List.mem_cons_of_mem _ hy)) ?_)
   by_cases hc:(k == NameKind.free && env.scope.kind == .function && env.kindOf n == some .cell)=true
   ·rw [if_pos hc] at h;simp only [List.lookup_cons,hx] at h;exact h
   ·rw [if_neg hc] at h;simp only [List.lookup_cons,hx] at h;exact h
def PIfs (X:Cx) (ifs:List Expr) (t:TT):Prop :=
 ∀ (pins:List (Addr × Obj)) (s:Shared) (σ:St) (H:Hp) (Q:Bool->Hp->Prop),Inv X pins σ H s->t σ H Q ->
  wpAny (model X.prog X.w) X.A (forIn ifs true fun c r=>if r=true then do let ok <- isTrue c X.env (eval c X.env);pure (ForInStep.yield ok) else pure (ForInStep.yield r)) (TP X pins σ Q) X.xe s
def tYes:TT:=fun _ H Q=>Q true H
section
variable {X:Cx} {pins:List (Addr × Obj)} {σ:St} {H:Hp} {s:Shared}
theorem v31:PIfs X [] tYes:=fun _ _ _ H _ I h=>wpAny_tests_nil ⟨H,I,h⟩
theorem Inv.blk {N':List Str} {ix:List (Option Nat)} {scope:Scope} {fp:List Addr} {h1:Heap} {tk:Nat} (I:Inv X pins σ H s) (B:BlkOk X N' ix scope) (f:∀ b ∈ fp,FpOk X pins H b) (hlt:∀ b ∈ fp,b < s.heap.objs.size)
  (ns:h1.Ns s.heap.objs.size (fun _=>none)) (old:∀ b o,s.heap.get? b=some o->h1.get? b=some o) :
  Inv (u73 X N' scope s.heap.objs.size s H fp) [] (inner ix σ) H { s with heap:=h1,toks:=tk }:=by
 have hfree:∀ y ∈ scope.names,y.2=.free->∃ c,X.env.cells.lookup y.1=some c:=fun y hy e=>I.ok.has y.1 (B.frees y hy e)
 have hc:∀ x c,(clOf X.env scope.names []).lookup x=some c->X.env.cells.lookup x=some c:=fun x c e=>uc7 hfree (fun _ _ z=>by cases z) e
 have stk:∀ b ∈ fp,b ∉ frs X.stack:=fun b hb z=>by
  rcases List.mem_cons.mp (I.stkSub b z) with e | e
  ·exact (f b hb).2.1 e
  ·exact (f b hb).2.2.1 e
 refine ⟨⟨I.ok.mod,B.kind,I.ok.glob,I.ok.blt,Nat.le_refl _,fun x y c h1 h2=>I.ok.inj x y c (hc x c h1) (hc y c h2),fun x hx=>?_,fun x c h=>(by cases h),I.ok.hd,I.ok.frames,.inl rfl,fun b hb=>⟨Nat.ne_of_lt (hlt b hb),fun x c e=>(f b hb).2.2.2.2.1 x c (hc x c e)⟩,
   I.bs,Nat.le_trans I.ok.bsz I.sz,fun b o e hb=>?_,stk,I.stack,I.stkFree⟩,rfl,I.bare,Un.kept old,⟨_,ns,fun i x v h1 h2 h3=>?_⟩,fun x c e=>?_,I.hok.fresh (Nat.le_refl _),fun x c e=>I.freeC x c (hc x c e),fun p hp=>absurd (show p ∈ ([]:List (Addr × Obj)) from hp) (by simp),I.hok.kept old,?_⟩
 ·exact uh2 (.inr (u49 B.nocell hx))
 ·rcases (f b hb).2.2.2.1 with z | z
  ·exact I.ok.noex b o e z
  ·exact absurd (Nat.lt_of_lt_of_le (Heap.lt_size e) (Nat.le_trans I.ok.bsz z)) (Nat.lt_irrefl _)
 ·have h2:(ix.map fun o=>o.bind fun j=>(σ[j]?).bind id)[i]?=some (some v):=h2
  rw [List.getElem?_map] at h2;cases ho:ix[i]? with
  | none=>rw [ho] at h2;cases h2
  | some o =>
   rw [ho] at h2;cases o with
   | none=>cases h2
   | some j =>
    have h2:(σ[j]?).bind id=some v:=Option.some.inj h2;have h2:σ[j]?=some (some v):=by
     cases hs:σ[j]? with
     | none=>rw [hs] at h2;cases h2
     | some w=>rw [hs] at h2;cases h2;rfl
    obtain ⟨hN,hf⟩:=B.at_ i j x h1 ho
    have hk:=B.frees (x,.free) (PySem.mem_of_lookup hf) rfl;obtain ⟨m,hn,hl⟩:=I.loc;obtain ⟨u,r,lk⟩:=hl j x v hN h2 (hk.elim (fun z=>.inr (.inl z)) fun z=>.inr (.inr z));refine ⟨u,r,.inr ?_⟩
    rcases lk with ⟨z,_⟩ | ⟨_,c,e,z⟩
    ·rcases hk with hk | hk
     ·exact absurd (hk.symm.trans z) (by decide)
     ·exact absurd (hk.symm.trans z) (by decide)
    ·obtain ⟨c',e'⟩:=uh2 (env:=X.env) (cs:=[]) (.inr (PySem.mem_of_lookup hf))
     have ec:c'=c:=Option.some.inj ((hc x c' e').symm.trans e);subst ec;refine ⟨u48 hf hk,c',e',?_⟩;obtain ⟨o,ho,hd⟩:=z;exact ⟨o,old _ _ ho,hd⟩
 ·obtain ⟨v,o,ho,hd⟩:=I.cell x c (hc x c e)
  exact ⟨v,o,old _ _ ho,hd⟩
 ·show (inner ix σ).length=N'.length
  unfold inner;rw [List.length_map];exact B.len
theorem vl5 {elt tg iter:Expr} {ifs:List Expr} {scope:Scope} {pos:Pos} {N':List Str} {ix:List (Option Nat)} {g:TG} {tc:TT} {te:TE} {J:It} {fp:List Addr} {it:Addr} {tn:Nat->Heap->Prop} (B:BlkOk X N' ix scope)
  (hg:∀ C s H fp,PG (u73 X N' scope C s H fp) tg g) (hi:∀ C s H fp,PIfs (u73 X N' scope C s H fp) ifs tc) (he:∀ C s H fp,PE (u73 X N' scope C s H fp) elt te) (hc:X.calm=true)
  (I:Inv X pins σ H s) (T:Turn X.prog X.w X.K tg J fp it tn) (st:tn 0 s.heap) (f:∀ b ∈ fp,FpOk X pins H b) {Q:VK} {E:Value->Shared->Prop}
  (w:∃ W:Nat->Nat->St->Hp->Prop,(∃ m,W 0 m (inner ix σ) (upd H s.heap.objs.size (.lst []))) /\ ∀ i m σi H,W i m σi H ->
   (J.stop i H /\ Q (.ref s.heap.objs.size) H) \/ (J.go i H /\ ∃ N:St->Hp->Prop,(∀ σ' H',N σ' H'->∃ m',m' < m /\ W (i+1) m' σ' H') /\ ∀ x H',J.yld i H x H'->g x σi H' fun σ2 H2=>tc σ2 H2 fun b H3 =>
    if b=true then te σ2 H3 fun v H4=>∃ ys,H4 s.heap.objs.size=some (.lst ys) /\ ys.length < sizeLine /\ N σ2 (upd H4 s.heap.objs.size (.lst (ys++[v]))) else N σ2 H3))
  {RR:Value->Addr->Result->Shared->Prop} (hRR:∀ C H' s' m,Inv X pins σ H' s'->FpOk X pins H' C->s'.heap.Ns C m->Q (.ref s.heap.objs.size) H'->RR (.ref s.heap.objs.size) C (.ok .next) s') :
  wpAny (model X.prog X.w) X.A (newList []) (fun acc s₃=>wpAny (model X.prog X.w) X.A (newFunctionEnv scope X.env.globals (clOf X.env scope.names []) [] X.env.qual none .none (some X.env)) (fun cenv s₄ =>
   codeAny (model X.prog X.w) X.A (.compStart (.ListComp elt [⟨tg,iter,ifs,0⟩] scope pos) 0 (.ref it) acc { cenv with scope:=relabel scope X.env }) (RR acc cenv.locals) s₄) E s₃) E s:=by
 obtain ⟨W,⟨m0,w0⟩,turn⟩:=w;have flt:∀ b ∈ fp,b < s.heap.objs.size:=fun b hb=>by
  obtain ⟨o,ho,_⟩:=T.obj 0 _ st b hb;exact Heap.lt_size ho
 have I3:Inv X pins σ (upd H s.heap.objs.size (.lst [])) { s with heap:=s.heap.push { cls:=.type "list",data:=.seq ([]:List Value).toArray },toks:=s.toks }:=I.lnew .nil (Nat.zero_le _)
 have hfr:∀ b ∈ fp,(upd H s.heap.objs.size (.lst [])) b=none:=fun b hb=>by rw [u11 (Nat.ne_of_lt (flt b hb))];exact (f b hb).1
 have f3:∀ b ∈ fp,FpOk X pins (upd H s.heap.objs.size (.lst [])) b:=fun b hb=>⟨hfr b hb,(f b hb).2⟩
 refine wpAny_newObj_type (wpAny_newFunctionEnv B.nocell (by intro y hy;simp at hy) (fun h₁ hns₁ hsb₁=>?_) B.kind);dsimp only at hns₁ hsb₁ ⊢;generalize hH3:s.heap.push { cls:=.type "list",data:=.seq ([]:List Value).toArray }=h3 at hns₁ hsb₁ I3 ⊢;obtain ⟨s3,e3⟩:∃ s3:Shared,s3={ s with heap:=h3 }:=⟨_,rfl⟩
 obtain rfl:h3=s3.heap:=by rw [e3]
 have I3:Inv X pins σ (upd H s.heap.objs.size (.lst [])) s3:=by
  have e:s3={ s with heap:=s3.heap,toks:=s.toks }:=e3
  rw [e];exact I3
 have eT:s3.toks=s.toks:=by rw [e3]
 have eS:({ s with heap:=h₁,toks:=s.toks+([]:List (Str × Value)).length }:Shared)={ s3 with heap:=h₁,toks:=s3.toks+([]:List (Str × Value)).length }:=by rw [e3]
 rw [eS];have hz3:s3.heap.objs.size=s.heap.objs.size+1:=by rw [<- hH3];exact Heap.size_push _ _
 have old:∀ b o,s3.heap.get? b=some o->h₁.get? b=some o:=fun b o e=>hsb₁.extBut b o (Nat.ne_of_lt (Heap.lt_size e)) (Heap.get?_push_of_some _ e)
 have st3:tn 0 s3.heap:=T.keep _ _ _ st fun b hb o e=>by rw [<- hH3];exact Heap.get?_push_of_some _ e
 have st4:tn 0 h₁:=T.keep _ _ _ st3 fun b _ o e=>old b o e
 have I4:=I3.blk (tk:=s3.toks+([]:List (Str × Value)).length) B f3 (fun b hb=>Nat.lt_of_lt_of_le (flt b hb) (by rw [hz3];exact Nat.le_succ _)) (show h₁.Ns s3.heap.objs.size (fun _=>none) from hns₁) old;generalize hX':u73 X N' scope s3.heap.objs.size s3 (upd H s.heap.objs.size (.lst [])) fp=X' at I4;have eX:X'.prog=X.prog /\ X'.w=X.w /\ X'.K=X.K /\ X'.A=X.A /\ X'.calm=X.calm /\ X'.env=compEnvC scope (clOf X.env scope.names []) s3.heap.objs.size X.env /\ X'.ex=fp /\ X'.outer=X.stack /\ X'.s₀=s3 /\ X'.H₀=upd H s.heap.objs.size (.lst []) /\ X'.pn=[] /\ X'.xe=(fun _ _=>False):=by
  rw [<- hX'];exact ⟨rfl,rfl,rfl,rfl,rfl,rfl,rfl,rfl,rfl,rfl,rfl,rfl⟩
 have hg':PG X' tg g:=hX' ▸ hg _ _ _ _;have hi':PIfs X' ifs tc:=hX' ▸ hi _ _ _ _;have he':PE X' elt te:=hX' ▸ he _ _ _ _;obtain ⟨e1,e2,e3,e4,e5,e6,e7,e8,e9,e10,e11,e12⟩:=eX;have stat:∀ {H':Hp},(∀ b ∈ fp,H' b=none)->∀ b ∈ fp,FpOk X' [] H' b:=fun {H'} hn b hb=>by
  have q:=I4.ok.exf b (by rw [e7];exact hb);refine ⟨hn b hb,q.1,?_,.inl (by rw [e7];exact hb),q.2,fun p hp=>?_⟩
  ·exact I4.ok.exfs b (by rw [e7];exact hb)
  ·rw [e11] at hp;simp at hp
 have loop:codeAny (model X.prog X.w) X.A (.compLoop (.ListComp elt [⟨tg,iter,ifs,0⟩] scope pos) 0 (.ref it) (.ref s.heap.objs.size) (compEnvC scope (clOf X.env scope.names []) s3.heap.objs.size X.env))
   (RR (.ref s.heap.objs.size) s3.heap.objs.size) { s3 with heap:=h₁,toks:=s3.toks+([]:List (Str × Value)).length }:=by
  refine vi9 (fun n s'=>∃ i σi Hi,Inv X' [] σi Hi s' /\ tn i s'.heap /\ (∀ b ∈ fp,Hi b=none) /\ W i n σi Hi) ?_ m0 ⟨0,_,_,I4,st4,hfr,w0⟩;rintro n s5 ⟨i,σ5,H5,I5,st5,fr5,w5⟩
  rcases turn i n σ5 H5 w5 with ⟨stop,qn⟩ | ⟨go,N,hN,step⟩
  ·have d:=T.done X' e1 e2 e3 (by rw [e5];exact hc) i [] s5 σ5 H5 (fun _ _=>False) I5 (stat fr5) st5 stop
   rw [e4] at d
   (refine thn d ?_;rintro r s6 ⟨hr,I6⟩)
   subst hr;have u:=I6.base;rw [e7,e9,e10] at u;have u:Un (frs X'.outer) fp (upd H s.heap.objs.size (.lst [])) H5 s3.heap s6.heap:=u;rw [e8] at u;have ok6:=I6.hok;rw [e1,e2] at ok6;have I7:Inv X pins σ H5 s6:=I3.call' (ch:=fp) (by have:=I6.os;rw [e9] at this;exact this) u ok6 I6.bare fun b hb=>⟨(f b hb).2.2.2.1,(f b hb).2.1,(f b hb).2.2.2.2.1,(f b hb).2.2.2.2.2⟩
   have hfree:=I6.free;obtain ⟨m,hm,_⟩:=I6.loc;rw [e6] at hfree hm;exact hRR _ H5 s6 m I7 (I3.fpOk (Nat.le_refl _) hfree) hm qn
  ·have d:=T.item X' e1 e2 e3 (by rw [e5];exact hc) i [] s5 σ5 H5 (fun _ _=>False) I5 (stat fr5) st5 go
   rw [e4] at d
   (refine thn d ?_;rintro r s6 ⟨u,hr,h6⟩)
   subst hr
   (refine thn h6 ?_;rintro _ s7 ⟨x,H7,I7,r7,y7,st7,fr7⟩)
   have I7':=I7.pinned (stat fr7) (T.obj _ _ st7);have a:=hg' _ s7 σ5 H7 x u _ I7' r7 (step x H7 y7);rw [e1,e2,e4,e6,e12] at a
   (refine thn a ?_;rintro _ s8 ⟨σ8,H8,I8,q8⟩)
   have t:=hi' _ s8 σ8 H8 _ I8 q8;rw [e1,e2,e4,e6,e12] at t;have again:∀ {σ9:St} {H9:Hp} {s9:Shared},Inv X' ([]++ui5 fp s7.heap) σ9 H9 s9->N σ9 H9->∃ m,m < n /\ ∃ i σi Hi,Inv X' [] σi Hi s9 /\ tn i s9.heap /\ (∀ b ∈ fp,Hi b=none) /\ W i m σi Hi:=fun {σ9 H9 s9} I9 n9=>by
    obtain ⟨m',hm,w9⟩:=hN σ9 H9 n9;refine ⟨m',hm,i+1,σ9,H9,I9.unpinned,T.keep _ _ _ st7 fun b hb o e=>(I9.pin (b,o) (List.mem_append_right _ (List.mem_append_right _ (u75 hb e)))).1,fun b hb=>?_,w9⟩;obtain ⟨o,e,d⟩:=T.obj _ _ st7 b hb;exact (I9.pin (b,o) (List.mem_append_right _ (List.mem_append_right _ (u75 hb e)))).2.1
   (refine thn t ?_;rintro ok s9 ⟨H9,I9,q9⟩)
   cases ok with
   | false =>
    rw [if_neg Bool.false_ne_true] at q9 ⊢;exact again I9 q9
   | true =>
    rw [if_pos rfl] at q9 ⊢;have v:=he' _ s9 σ8 H9 _ I9 q9;rw [e1,e2,e4,e6,e12] at v
    (refine thn v ?_;rintro y s10 ⟨z,H10,I10,r10,ys,hD,hz,q10⟩)
    have ap:=ui7 _ s10 σ8 H10 (.ref s.heap.objs.size) [z] (.ref s.heap.objs.size) [y] (fun _ H'=>N σ8 H') I10 rfl (.cons r10 .nil) ⟨_,ys,z,rfl,rfl,hD,hz,q10⟩;rw [e1,e2,e4,e12] at ap
    (refine thn ap ?_;rintro _ s11 ⟨_,H11,I11,_,q11⟩;exact again I11 q11)
 exact codeAny_compStart_list loop (T.self _ _ _ _ _ st4 loop)
variable {elt tg iter:Expr} {ifs:List Expr} {scope:Scope} {pos:Pos} {N':List Str} {ix:List (Option Nat)} {wi:TI} {g:TG} {tc:TT} {te:TE}
def w31 (i:Nat) (t:TE):TS:=fun D σ H=>t σ H fun x H1=>D.nx (σ.set i (some x)) H1
theorem vg1 {i:Nat} {y:Str} {py spos:Pos} (B:BlkOk X N' ix scope) (hc:X.calm=true) (hN:X.N.Nodup) (hy:X.N[i]?=some y) (hl:Loc X.env.scope y) (hw:PI X tg iter wi)
  (hg:∀ C s H fp,PG (u73 X N' scope C s H fp) tg g) (hi:∀ C s H fp,PIfs (u73 X N' scope C s H fp) ifs tc) (he:∀ C s H fp,PE (u73 X N' scope C s H fp) elt te)
  (hsw:swapsWith (.ListComp elt [⟨tg,iter,ifs,0⟩] scope pos) (some (.Name y py)) spos.line X.env=pure true:=by rfl)
  (hf:X.fn y=true \/ X.env.scope.names.lookup y=some .local:=by first | exact .inl rfl | exact .inr rfl | assumption)
  (hs:∀ x,foldedSetIterable iter X.env x=pure x:=by intro _;rfl) :
  PS X (.Assign [.Name y py] (.ListComp elt [⟨tg,iter,ifs,0⟩] scope pos) spos) (w31 i (vp3 ix wi g tc te)):=by
 intro pins s σ H D I h;rw [exec_Assign_Name_used _ _ _ _ hsw];refine wpAny_bind (wpAny_standAt (wpAny_bind ?_))
 show wpAny _ X.A (do let _ <- comprehension (.ListComp elt [⟨tg,iter,ifs,0⟩] scope pos) scope X.env _ (newList []) false (eval iter X.env) (some (assign (.Name y py) X.env))) _ _ s
 refine wpAny_bind (wpAny_mono (wpAny_comprehension_free (use:=some (assign (.Name y py) X.env)) (Q:=fun _ s'=>SP X pins D .next s') rfl hs (ur4 fun y hy e=>I.ok.has y.1 (B.frees y hy e)) B.kind B.names
  (thn (hw pins s σ H _ I h) fun v s1 h1=>thn h1 fun itv s2 h2=>?_)) (fun _ s' hq=>wpAny_pure (wpAny_pure hq)) fun _ _ e=>e)
 obtain ⟨it,fp,tn,J,H2,e,I2,T,st2,f2,q2⟩:=h2;subst e;refine vl5 B hg hi he hc I2 T st2 f2 (Q:=fun x H1=>D.nx (σ.set i (some x)) H1) (q2 _ I2.fresh) fun C H' s' m I' fC hm q=>?_
 show wpAny _ _ (assign (.Name y py) X.env (.ref s2.heap.objs.size)) _ _ _
 (refine wpAny_assign_Name (uh9 I' hN hy hl (v:=.ref s2.heap.objs.size) rfl (?_) hf);rintro s'' I'' ⟨a,hsame,ha⟩)
 have hCa:C ≠ a:=by
  rcases ha with z | z
  ·rw [z];exact fC.2.1
  ·intro e;exact fC.2.2.2.2.1 _ _ z e.symm
 refine ⟨m,hm.sameBut hsame hCa,fun h' sb=>⟨_,H',?_,q⟩⟩;exact I''.turned (t':=s''.toks) (it:=C) (fun b o hb e=>sb.extBut b o hb e) fC.1 fC.2.1 fC.2.2.2.1 fC.2.2.2.2.1 fC.2.2.2.2.2
end
section
variable {X:Cx} {pos:Pos}
def gLst (K:W.Frag) (n:Nat) (t:TGs):TG:=fun v σ H Q=>∃ a xs,v=.ref a /\ SqL K H a xs /\ xs.length=n /\ t xs σ H Q
theorem vg7 {es:List Expr} {k:Nat} {t:TGs} {n:Nat} (hc:X.calm=true) (h:PGs X es t)
  (hn:(assignEach es X.env).length=n:=by rfl) (hst:(assignEach es X.env).findIdx? (·.1)=none:=by rfl):PG X (.Tuple es k pos) (gLst X.K n t):=by
 intro pins s σ H v u Q I r hw;obtain ⟨a,xs,e1,hq,hl,hw⟩:=hw;subst e1;cases r;obtain ⟨its,rv,ht,hz⟩:=I.list hq;rw [PyProof.Rows.assign_Tuple];refine wpAny_bind (wpAny_standAt ?_);unfold unpack;have hsz:(assignEach es X.env).length=its.toArray.size:=by simp [hn,<- hl,rv.length]
 rw [hsz,hst];refine wpAny_bind (wpAny_holding (W.kun_itemsOf (I.ok.hd hc) ht.isList fun h' hx=>?_));have I1:Inv X pins σ H { s with heap:=h' }:=I.kept (t':=s.toks) fun b o e=>hx b o (Nat.ne_of_lt (Heap.lt_size e)) e
 exact h pins _ σ H xs _ Q I1 (by simpa using rv) hw
theorem w41 {tg:Expr} {t t':TG} (h:PG X tg t) (h':PG X tg t'):PG X tg (fun v σ H Q=>t v σ H Q \/ t' v σ H Q):=by
 intro pins s σ H v u Q I r q
 rcases q with q | q
 ·exact h pins s σ H v u Q I r q
 ·exact h' pins s σ H v u Q I r q
def iSeq (K:W.Frag) (tl:TE):TI:=fun σ H R=>tl σ H fun x H1=>∃ a,x=.ref a /\ (((∃ xs,SqL K H1 a xs) /\ R (Itl K a) H1) \/ ((∃ xs,SqT K H1 a xs) /\ R (Itt K a) H1))
theorem vr3 {tg l:Expr} {tl:TE} (hl:PE X l tl):PI X tg l (iSeq X.K tl):=by
 intro pins s σ H R I h
 (refine thn (hl pins s σ H _ I h) ?_;rintro v s1 ⟨x,H1,I1,r1,q1⟩)
 obtain ⟨a,e,⟨⟨xs,hq⟩,q⟩ | ⟨⟨xs,hq⟩,q⟩⟩:=q1
 ·subst e
  cases r1;obtain ⟨its,rv,p,hz⟩:=I1.list hq;refine wpAny_pyIter_list p.isList ?_;refine ⟨s1.heap.objs.size,[s1.heap.objs.size],_,_,H1,rfl,I1.kept (t':=s1.toks) fun b o e=>Heap.get?_push_of_some _ e,us8 a _,⟨_,Heap.get?_push_size _ rfl,rfl,rfl⟩,fun b hb=>?_,q⟩;have e:b=s1.heap.objs.size:=by simpa using hb
  subst e;exact I1.fpOk (Nat.le_refl _) (I1.hok.fresh (Nat.le_refl _))
 ·subst e
  cases r1;obtain ⟨its,rv,p,hz⟩:=I1.tuple hq;refine wpAny_pyIter_tuple (show s1.heap.IsTuple a its.toArray from p) ?_;refine ⟨s1.heap.objs.size,[s1.heap.objs.size],_,_,H1,rfl,I1.kept (t':=s1.toks) fun b o e=>Heap.get?_push_of_some _ e,up7 a _,⟨_,Heap.get?_push_size _ rfl,rfl,rfl⟩,fun b hb=>?_,q⟩;have e:b=s1.heap.objs.size:=by simpa using hb
  subst e;exact I1.fpOk (Nat.le_refl _) (I1.hok.fresh (Nat.le_refl _))
theorem vt0:OpR X (compareOp .Is) (fun x y H Q=>∃ b,y=.bl b /\ Q (.bl (decide (x=.bl b))) H):=by
 intro pins s σ H x y v u Q I rx ry h;obtain ⟨b,rfl,q⟩:=h;cases ry;refine wpAny_is_plain ?_ (u14 I q ?_)
 ·cases x <;> first
   | (cases rx;rfl)
   | (obtain ⟨t,rfl⟩:=rx;rfl)
 ·cases x <;> first
   | (obtain ⟨t,rfl⟩:=rx;rfl)
   | (cases rx;cases b <;> rfl)
   | (cases rx;rename_i c;cases b <;> cases c <;> rfl)
theorem uv0:OpR X (compareOp .IsNot) (fun x y H Q=>∃ b,y=.bl b /\ Q (.bl (!decide (x=.bl b))) H):=by
 intro pins s σ H x y v u Q I rx ry h;obtain ⟨b,rfl,q⟩:=h;cases ry;refine wpAny_isNot_plain ?_ (u14 I q ?_)
 ·cases x <;> first
   | (cases rx;rfl)
   | (obtain ⟨t,rfl⟩:=rx;rfl)
 ·cases x <;> first
   | (obtain ⟨t,rfl⟩:=rx;rfl)
   | (cases rx;cases b <;> rfl)
   | (cases rx;rename_i c;cases b <;> cases c <;> rfl)
theorem v71 (hc:X.calm=true):CallR X (.builtin "sum") (fun xs H Q=>∃ (p:Addr) (ns:List Int),xs=[.ref p] /\ SqL X.K H p (ns.map V.int) /\ Q (.int ns.sum) H):=by
 intro pins s σ H xs us Q I r h;obtain ⟨p,ns,rfl,hq,q⟩:=h;obtain ⟨u,rfl,rx⟩:=vals1 r;cases rx;obtain ⟨its,r',pl,hz⟩:=I.list hq;obtain ⟨m,F⟩:=I.fr;have hi:IntsAre its ns:=intsAre_of r';obtain ⟨ys,hx⟩:=hi.allInts.items;have hl':s.heap.IsList p (intItems ys):=hx ▸ pl.isList;refine sum_intListG (I.ok.hd hc) hl' fun h' tk t' hk=>?_
 have e1:ns=ys.toList.map (·.1):=by
  rw [<- nums_intItems,<- hx];exact (show numsOf its.toArray.toList=ns from hi.numsOf).symm
 have e2:preSum (numAt ys) ys.size=ns.sum:=by
  rw [preSum_eq,List.take_of_length_le (by simp),e1]
 rw [e2];exact ⟨.int ns.sum,H,I.kept hk,⟨_,rfl⟩,q⟩
def vj1 (K:W.Frag) (H:Hp):V->String->Prop
 | .non,n=>n = "NoneType"
 | .bl _,n=>n = "bool"
 | .int _,n=>n = "int"
 | .str _,n=>n = "str"
 | .ref a,n=>(n = "list" /\ ((∃ xs,H a=some (.lst xs)) \/ ∃ o xs,H a=some (.frz o (.lst xs)))) \/ (n = "tuple" /\ ∃ xs,H a=some (.tup xs)) \/ (n = "dict" /\ ∃ xs,H a=some (.dK xs))
 | _,_=>False
def subK (n T:String):Bool:=n == T || (n == "bool" && T == "int")
theorem u72 {K:W.Frag} {n T:String} (hn:n = "NoneType" \/ n = "bool" \/ n = "int" \/ n = "str" \/ n = "list" \/ n = "tuple" \/ n = "dict") (hT:T = "int" \/ T = "str" \/ T = "bool" \/ T = "list" \/ T = "tuple" \/ T = "dict"):W.kitOne K (.type n) (.type T)=some (subK n T):=by
 rcases hn with rfl | rfl | rfl | rfl | rfl | rfl | rfl <;> rcases hT with rfl | rfl | rfl | rfl | rfl | rfl <;> rfl
theorem ul7:CallR X (.builtin "isinstance") (fun xs H Q=>∃ x n T,xs=[x,.ty T] /\ vj1 X.K H x n /\ (T = "int" \/ T = "str" \/ T = "bool" \/ T = "list" \/ T = "tuple" \/ T = "dict") /\ Q (.bl (subK n T)) H):=by
 intro pins s σ H xs us Q I r h;obtain ⟨x,n,T,rfl,hk,hT,q⟩:=h;obtain ⟨u,w,rfl,rx,rt⟩:=vals2 r;cases rt;have fin:∀ tk,EP X pins σ Q (.bool (subK n T)) { s with toks:=tk }:=fun tk=>⟨.bl (subK n T),H,I.tok tk,rfl,q⟩
 cases x with
 | non=>cases (show n = "NoneType" from hk);exact u42 I rx .non (u72 (by simp) hT) fin
 | bl b=>cases (show n = "bool" from hk);exact u42 I rx (.bl b) (u72 (by simp) hT) fin
 | int i=>cases (show n = "int" from hk);exact u42 I rx (.int i) (u72 (by simp) hT) fin
 | str i=>cases (show n = "str" from hk);exact u42 I rx (.str i) (u72 (by simp) hT) fin
 | ref a =>
  rcases (show (n = "list" /\ ((∃ xs,H a=some (.lst xs)) \/ ∃ o xs,H a=some (.frz o (.lst xs)))) \/ (n = "tuple" /\ ∃ xs,H a=some (.tup xs)) \/ (n = "dict" /\ ∃ xs,H a=some (.dK xs)) from hk) with ⟨e,⟨xs,h1⟩ | ⟨o,xs,h1⟩⟩ | ⟨e,xs,h1⟩ | ⟨e,xs,h1⟩
  ·cases e;exact u42 I rx (.lst h1) (u72 (by simp) hT) fin
  ·cases e;exact u42 I rx (.frz h1) (u72 (by simp) hT) fin
  ·cases e;exact u42 I rx (.tup h1) (u72 (by simp) hT) fin
  ·cases e;exact u42 I rx (.dK h1) (u72 (by simp) hT) fin
 | _=>exact (show False from hk).elim
end
end L2
namespace L2
open PySem
def XH (a C:Addr) (dx:Option Addr) (h:Heap):Prop:=∃ o vs,h.get? a=some o /\ o.cls=.ref C /\ o.dict=dx /\ o.data=.fields vs
def XDict (H:Hp):Option Addr->List (Str × V)->Prop
 | none,ys=>ys=[]
 | some d,ys=>∃ o,H d=some (.frz o (.xd ys))
end L2
namespace L3
open PySem L2
inductive D where
 | non | bl (b:Bool) | int (i:Int) | str (x:Str) | tup (xs:List D) | ref (a:Addr) | ty (n:String)
inductive DO where
 | lst (xs:List D) | fro (xs:List D) | dic (kvs:List (Key × D)) | dit (kvs:List (List Key × D)) | ins (C:Addr) (fs:List (Str × D)) | exc (C:Addr) (fs:List (Str × D)) | frd (o:Obj) (kvs:List (Key × D)) | tb (qn:Str) (bm:Addr)
abbrev Gp:=Addr->Option DO
def gup (G:Gp) (a:Addr) (o:DO):Gp:=fun b=>if b=a then some o else G b
theorem u01 {G:Gp} {a:Addr} {o:DO}:gup G a o a=some o:=by unfold gup;rw [if_pos rfl]
theorem u08 {G:Gp} {a b:Addr} {o:DO} (h:b ≠ a):gup G a o b=G b:=by unfold gup;rw [if_neg h]
theorem uy4 {G:Gp} {a:Addr} {o u:DO}:gup (gup G a o) a u=gup G a u:=by
 funext b;unfold gup;split <;> rfl
theorem gne {G:Gp} {a b:Addr} {o:DO} (h:G a=some o) (h':G b=none):a ≠ b:=by
 intro e;subst e;rw [h] at h';cases h'
theorem gne' {G:Gp} {a b:Addr} {o:DO} (h':G b=none) (h:G a=some o):b ≠ a:=Ne.symm (gne h h')
structure Le (H H':Hp):Prop where
 tups:∀ b xs,H b=some (.tup xs)->H' b=some (.tup xs)
 frzs:∀ b o (u:NK),H b=some (.frz o u.1)->H' b=some (.frz o u.1)
theorem Le.refl (H:Hp):Le H H:=⟨fun _ _ h=>h,fun _ _ _ h=>h⟩
theorem Le.trans {H H1 H2:Hp} (a:Le H H1) (b:Le H1 H2):Le H H2:=⟨fun c xs h=>b.tups c xs (a.tups c xs h),fun c o u h=>b.frzs c o u (a.frzs c o u h)⟩
theorem Le.sqT {K:W.Frag} {H H':Hp} (l:Le H H') {a:Addr} {xs:List V} (h:SqT K H a xs):SqT K H' a xs:=by
 rcases h with (h | ⟨o,h⟩) | h
 ·exact .inl (.inl (l.tups _ _ h))
 ·exact .inl (.inr ⟨o,l.frzs _ _ ⟨_,by intro _ e;cases e⟩ h⟩)
 ·exact .inr h
theorem Le.fresh {H:Hp} {p:Addr} {o:HO} (h:H p=none):Le H (upd H p o) :=
 ⟨fun b xs q=>by rw [u11 (u31 q h)];exact q,fun b o u q=>by rw [u11 (u31 q h)];exact q⟩
mutual
def RelD (K:W.Frag) (H:Hp):D->V->Prop
 | .non,v=>v=.non
 | .bl b,v=>v=.bl b
 | .int i,v=>v=.int i
 | .str x,v=>v=.str x
 | .ref a,v=>v=.ref a
 | .ty n,v=>v=.ty n
 | .tup ds,v=>∃ a xs,v=.ref a /\ SqT K H a xs /\ RelDs K H ds xs
def RelDs (K:W.Frag) (H:Hp):List D->List V->Prop
 | [],xs=>xs=[]
 | d::ds,xs=>∃ x r,xs=x::r /\ RelD K H d x /\ RelDs K H ds r
end
section
variable {K:W.Frag} {H H':Hp}
mutual
theorem RelD.le (l:Le H H'):∀ {d:D} {v:V},RelD K H d v->RelD K H' d v
 | .non,_,h=>by simpa [RelD] using h
 | .bl _,_,h=>by simpa [RelD] using h
 | .int _,_,h=>by simpa [RelD] using h
 | .str _,_,h=>by simpa [RelD] using h
 | .ref _,_,h=>by simpa [RelD] using h
 | .ty _,_,h=>by simpa [RelD] using h
 | .tup ds,_,h=>by
  rw [RelD] at h ⊢;obtain ⟨a,xs,e,s,r⟩:=h;exact ⟨a,xs,e,l.sqT s,RelDs.le l r⟩
theorem RelDs.le (l:Le H H'):∀ {ds:List D} {xs:List V},RelDs K H ds xs->RelDs K H' ds xs
 | [],_,h=>by simpa [RelDs] using h
 | d::ds,_,h=>by
  rw [RelDs] at h ⊢;obtain ⟨x,r,e,h1,h2⟩:=h;exact ⟨x,r,e,RelD.le l h1,RelDs.le l h2⟩
end
theorem RelDs.nil:RelDs K H [] []:=by rw [RelDs]
theorem RelDs.cons {d:D} {ds:List D} {x:V} {xs:List V} (h:RelD K H d x) (t:RelDs K H ds xs):RelDs K H (d::ds) (x::xs):=by
 rw [RelDs];exact ⟨x,xs,rfl,h,t⟩
theorem RelDs.inv_nil {xs:List V} (h:RelDs K H [] xs):xs=[]:=by rw [RelDs] at h;exact h
theorem RelDs.inv_cons {d:D} {ds:List D} {xs:List V} (h:RelDs K H (d::ds) xs):∃ x r,xs=x::r /\ RelD K H d x /\ RelDs K H ds r:=by rw [RelDs] at h;exact h
theorem RelDs.length:∀ {ds:List D} {xs:List V},RelDs K H ds xs->ds.length=xs.length
 | [],_,h=>by rw [h.inv_nil];rfl
 | _::_,_,h=>by obtain ⟨x,r,e,_,t⟩:=h.inv_cons;rw [e,List.length_cons,List.length_cons,t.length]
theorem RelDs.get:∀ {ds:List D} {xs:List V} {i:Nat} {d:D},RelDs K H ds xs->ds[i]?=some d->∃ x,xs[i]?=some x /\ RelD K H d x
 | [],_,_,_,_,e=>by simp at e
 | _::_,_,0,_,h,e=>by
  obtain ⟨x,r,rfl,h1,t⟩:=h.inv_cons;simp at e;subst e;exact ⟨x,rfl,h1⟩
 | _::_,_,i+1,d,h,e=>by
  obtain ⟨x,r,rfl,h1,t⟩:=h.inv_cons;obtain ⟨y,h2,h3⟩:=RelDs.get (i:=i) t (by simpa using e);exact ⟨y,by simpa using h2,h3⟩
theorem RelDs.of:∀ {ds:List D} {xs:List V},ds.length=xs.length->(∀ (i:Nat) d x,ds[i]?=some d->xs[i]?=some x->RelD K H d x)->RelDs K H ds xs
 | [],[],_,_=>.nil
 | [],_::_,h,_=>by simp at h
 | _::_,[],h,_=>by simp at h
 | d::ds,x::xs,h,f=>.cons (f 0 d x rfl rfl) (RelDs.of (by simpa using h) fun i d x a b=>f (i+1) d x (by simpa using a) (by simpa using b))
theorem RelDs.append:∀ {ds es:List D} {xs ys:List V},RelDs K H ds xs->RelDs K H es ys->RelDs K H (ds++es) (xs++ys)
 | [],_,_,_,h,t=>by rw [h.inv_nil];exact t
 | _::_,_,_,_,h,t=>by
  obtain ⟨x,r,rfl,h1,h2⟩:=h.inv_cons;exact .cons h1 (h2.append t)
theorem RelDs.set {d:D} {x:V} (q:RelD K H d x):∀ {ds:List D} {xs:List V} (i:Nat),RelDs K H ds xs->RelDs K H (ds.set i d) (xs.set i x)
 | [],_,_,h=>by rw [h.inv_nil];exact .nil
 | _::_,_,0,h=>by
  obtain ⟨x,r,rfl,h1,h2⟩:=h.inv_cons;exact .cons q h2
 | _::_,_,i+1,h=>by
  obtain ⟨x,r,rfl,h1,h2⟩:=h.inv_cons;exact .cons h1 (h2.set q i)
theorem RelDs.take:∀ {ds:List D} {xs:List V} (n:Nat),RelDs K H ds xs->RelDs K H (ds.take n) (xs.take n)
 | _,_,0,_=>by simpa using RelDs.nil
 | [],_,_+1,h=>by rw [h.inv_nil];exact .nil
 | _::_,_,n+1,h=>by
  obtain ⟨x,r,rfl,h1,h2⟩:=h.inv_cons;exact .cons h1 (h2.take n)
theorem RelDs.drop:∀ {ds:List D} {xs:List V} (n:Nat),RelDs K H ds xs->RelDs K H (ds.drop n) (xs.drop n)
 | _,_,0,h=>by simpa using h
 | [],_,_+1,h=>by rw [h.inv_nil];exact .nil
 | _::_,_,n+1,h=>by
  obtain ⟨x,r,rfl,h1,h2⟩:=h.inv_cons;exact h2.drop n
theorem RelDs.eraseIdx:∀ {ds:List D} {xs:List V} (n:Nat),RelDs K H ds xs->RelDs K H (ds.eraseIdx n) (xs.eraseIdx n)
 | [],_,_,h=>by rw [h.inv_nil];exact .nil
 | _::_,_,0,h=>by
  obtain ⟨x,r,rfl,h1,h2⟩:=h.inv_cons;exact h2
 | _::_,_,n+1,h=>by
  obtain ⟨x,r,rfl,h1,h2⟩:=h.inv_cons;exact .cons h1 (h2.eraseIdx n)
theorem RelDs.reverse:∀ {ds:List D} {xs:List V},RelDs K H ds xs->RelDs K H ds.reverse xs.reverse
 | [],_,h=>by rw [h.inv_nil];exact .nil
 | _::_,_,h=>by
  obtain ⟨x,r,rfl,h1,h2⟩:=h.inv_cons;rw [List.reverse_cons,List.reverse_cons];exact h2.reverse.append (.cons h1 .nil)
theorem RelDs.dropLast {ds:List D} {xs:List V} (h:RelDs K H ds xs):RelDs K H ds.dropLast xs.dropLast:=by
 rw [List.dropLast_eq_take,List.dropLast_eq_take,h.length];exact h.take _
theorem RelDs.rep {ds:List D} {xs:List V} (h:RelDs K H ds xs):∀ k:Nat,RelDs K H (List.replicate k ds).flatten (List.replicate k xs).flatten
 | 0=>.nil
 | k+1=>by rw [List.replicate_succ,List.replicate_succ,List.flatten_cons,List.flatten_cons];exact h.append (h.rep k)
def RelPs {κ:Type} (K:W.Frag) (H:Hp) (ps:List (κ × D)) (qs:List (κ × V)):Prop:=ps.map (·.1)=qs.map (·.1) /\ RelDs K H (ps.map (·.2)) (qs.map (·.2))
theorem RelPs.le {κ:Type} (l:Le H H') {ps:List (κ × D)} {qs:List (κ × V)} (h:RelPs K H ps qs):RelPs K H' ps qs:=⟨h.1,RelDs.le l h.2⟩
end
def TbOk (H:Hp) (qn:Str) (ps:Array Value):Prop:=TriplesOk ps.toList /\ ∀ pos cv,codeAmong pos ps.toList=some cv->∃ (c:Addr) (o:Obj) (vs:Array Value) (t:Tok),cv=.ref c /\ o.data=.fields vs /\ vs[1]?=some (.str qn t) /\ H c=some (.frz o (.ext fun h=>h.get? c=some o))
def BmOk (H:Hp) (bm:Addr):Prop:=∃ o:Obj,H bm=some (.frz o (.ext fun h=>h.get? bm=some o)) /\ o.cls=.type "module" /\ o.dict=some builtinsNs /\ o.data=.plain
def ObjD (K:W.Frag) (H:Hp) (a:Addr):DO->Prop
 | .lst ds=>∃ xs,H a=some (.lst xs) /\ RelDs K H ds xs
 | .fro ds=>∃ o xs,H a=some (.frz o (.lst xs)) /\ RelDs K H ds xs
 | .dic kvs=>∃ ys,H a=some (.dK ys) /\ RelPs K H kvs ys
 | .dit kvs=>∃ ys,H a=some (.dT ys) /\ RelPs K H kvs ys
 | .ins C fs=>∃ dx ys,H a=some (.ins C dx ys) /\ RelPs K H fs ys
 | .exc C fs=>∃ dx ys,H a=some (.ext (XH a C dx)) /\ XDict H dx ys /\ RelPs K H fs ys
 | .frd o kvs=>∃ ys,H a=some (.frz o (.dK ys)) /\ RelPs K H kvs ys
 | .tb qn bm=>∃ ps,H a=some (.tbl ps) /\ TbOk H qn ps /\ BmOk H bm
theorem _root_.L2.XDict.le {H H':Hp} (l:Le H H') {dx:Option Addr} {ys:List (Str × V)} (h:XDict H dx ys):XDict H' dx ys:=by
 cases dx with
 | none=>exact h
 | some d=>obtain ⟨o,e⟩:=h;exact ⟨o,l.frzs _ _ ⟨_,by intro _ e;cases e⟩ e⟩
def Con (K:W.Frag) (G:Gp) (H:Hp):Prop:=∀ a o,G a=some o->ObjD K H a o
section
variable {K:W.Frag} {G:Gp} {H H':Hp} {a p:Addr} {o:DO}
theorem ObjD.some (h:ObjD K H a o):∃ u,H a=some u:=by
 cases o with
 | lst ds=>obtain ⟨xs,e,_⟩:=h;exact ⟨_,e⟩
 | fro ds=>obtain ⟨_,xs,e,_⟩:=h;exact ⟨_,e⟩
 | dic ds=>obtain ⟨xs,e,_⟩:=h;exact ⟨_,e⟩
 | dit ds=>obtain ⟨xs,e,_⟩:=h;exact ⟨_,e⟩
 | ins C ds=>obtain ⟨_,xs,e,_⟩:=h;exact ⟨_,e⟩
 | exc C ds=>obtain ⟨_,xs,e,_⟩:=h;exact ⟨_,e⟩
 | frd o ds=>obtain ⟨xs,e,_⟩:=h;exact ⟨_,e⟩
 | tb qn bm=>obtain ⟨_,e,_⟩:=h;exact ⟨_,e⟩
theorem ObjD.stay (h:ObjD K H a o) (l:Le H H') (e:H' a=H a):ObjD K H' a o:=by
 cases o with
 | lst ds=>obtain ⟨xs,q,r⟩:=h;exact ⟨xs,e.trans q,RelDs.le l r⟩
 | fro ds=>obtain ⟨o,xs,q,r⟩:=h;exact ⟨o,xs,e.trans q,RelDs.le l r⟩
 | dic ds=>obtain ⟨xs,q,r⟩:=h;exact ⟨xs,e.trans q,r.le l⟩
 | dit ds=>obtain ⟨xs,q,r⟩:=h;exact ⟨xs,e.trans q,r.le l⟩
 | ins C ds=>obtain ⟨dx,xs,q,r⟩:=h;exact ⟨dx,xs,e.trans q,r.le l⟩
 | exc C ds=>obtain ⟨dx,xs,q,z,r⟩:=h;exact ⟨dx,xs,e.trans q,z.le l,r.le l⟩
 | frd o ds=>obtain ⟨xs,q,r⟩:=h;exact ⟨xs,e.trans q,r.le l⟩
 | tb qn bm=>obtain ⟨ps,q,⟨r1,r2⟩,o,b1,b2⟩:=h;exact ⟨ps,e.trans q,⟨r1,fun pos cv z=>let ⟨c,o,vs,t,z1,z2,z3,z4⟩:=r2 pos cv z;⟨c,o,vs,t,z1,z2,z3,l.frzs _ _ ⟨_,by intro _ e;cases e⟩ z4⟩⟩,o,l.frzs _ _ ⟨_,by intro _ e;cases e⟩ b1,b2⟩
theorem Con.fresh (c:Con K G H) (h:H p=none):G p=none:=by
 cases e:G p with
 | none=>rfl
 | some o=>obtain ⟨u,q⟩:=(c p o e).some;rw [h] at q;cases q
theorem Con.stay (c:Con K G H) (l:Le H H') (e:∀ a o,G a=some o->H' a=H a):Con K G H':=fun a o q=>(c a o q).stay l (e a o q)
theorem Con.side {u:HO} (c:Con K G H) (h:H p=none):Con K G (upd H p u):=c.stay (Le.fresh h) fun a o q=>by
 obtain ⟨u,e⟩:=(c a o q).some;exact u11 (u31 e h)
theorem Con.put {u:HO} (c:Con K G H) (l:Le H (upd H p u)) (n:ObjD K (upd H p u) p o):Con K (gup G p o) (upd H p u):=fun b q e=>by
 by_cases hb:b=p
 ·subst hb;rw [u01] at e;cases e;exact n
 ·rw [u08 hb] at e
  exact (c b q e).stay l (u11 hb)
theorem Le.lst {xs ys:List V} (h:H p=some (.lst xs)):Le H (upd H p (.lst ys)) :=
  ⟨fun b zs q => by by_cases e : b = p
                    · subst e;rw [h] at q;cases q
                    · rw [u11 e];exact q,
   fun b o u q => by by_cases e : b = p
                     · subst e;rw [h] at q;cases q
                     · rw [u11 e];exact q⟩
theorem Le.dK {xs ys:List (Key × V)} (h:H p=some (.dK xs)):Le H (upd H p (.dK ys)) :=
  ⟨fun b zs q => by by_cases e : b = p
                    · subst e;rw [h] at q;cases q
                    · rw [u11 e];exact q,
   fun b o u q => by by_cases e : b = p
                     · subst e;rw [h] at q;cases q
                     · rw [u11 e];exact q⟩
theorem Le.ins {C dx C' dx':Addr} {xs ys:List (Str × V)} (h:H p=some (.ins C dx xs)):Le H (upd H p (.ins C' dx' ys)) :=
  ⟨fun b zs q => by by_cases e : b = p
                    · subst e;rw [h] at q;cases q
                    · rw [u11 e];exact q,
   fun b o u q => by by_cases e : b = p
                     · subst e;rw [h] at q;cases q
                     · rw [u11 e];exact q⟩
theorem Con.lstNew {ds:List D} {xs:List V} (c:Con K G H) (h:H p=none) (r:RelDs K H ds xs):Con K (gup G p (.lst ds)) (upd H p (.lst xs)) :=
 c.put (Le.fresh h) ⟨xs,u18,RelDs.le (Le.fresh h) r⟩
theorem Con.lstSet {ds:List D} {xs ys:List V} (c:Con K G H) (h:H p=some (.lst ys)) (r:RelDs K H ds xs):Con K (gup G p (.lst ds)) (upd H p (.lst xs)) :=
 c.put (Le.lst h) ⟨xs,u18,RelDs.le (Le.lst h) r⟩
end
abbrev DSt:=List (Option D)
def RelSt (K:W.Frag) (H:Hp) (σd:DSt) (σ:St):Prop:=σd.length=σ.length /\ ∀ (i:Nat) d,σd[i]?=some (some d)->∃ v,σ[i]?=some (some v) /\ RelD K H d v
theorem RelSt.le {K:W.Frag} {H H':Hp} {σd:DSt} {σ:St} (h:RelSt K H σd σ) (l:Le H H'):RelSt K H' σd σ :=
 ⟨h.1,fun i d e=>let ⟨v,a,b⟩:=h.2 i d e;⟨v,a,RelD.le l b⟩⟩
theorem RelSt.set {K:W.Frag} {H:Hp} {σd:DSt} {σ:St} {d:D} {v:V} (h:RelSt K H σd σ) (i:Nat) (r:RelD K H d v):RelSt K H (σd.set i (some d)) (σ.set i (some v)):=by
 refine ⟨by rw [List.length_set,List.length_set];exact h.1,fun j e q=>?_⟩;rw [List.getElem?_set] at q;split at q
 ·rename_i hij;subst hij
  split at q
  ·rename_i hl;cases q
   exact ⟨v,by rw [List.getElem?_set_self (by rw [<- h.1];exact hl)],r⟩
  ·cases q
 ·rename_i hij
  obtain ⟨w,a,b⟩:=h.2 j e q;exact ⟨w,by rw [List.getElem?_set_ne hij];exact a,b⟩
abbrev DK:=D->Gp->Prop
abbrev TE3:=DSt->Gp->DK->Prop
abbrev TT3:=DSt->Gp->(Bool->Gp->Prop)->Prop
abbrev TA3:=DSt->Gp->(List D->Gp->Prop)->Prop
structure Ends3 where
 nx:DSt->Gp->Prop
 rt:DK
 bk:DSt->Gp->Prop:=fun _ _=>False
 ct:DSt->Gp->Prop:=fun _ _=>False
abbrev TS3:=Ends3->DSt->Gp->Prop
def FutE (K:W.Frag) (H:Hp) (q:DK) (Q:VK):Prop:=∀ d G' v H',RelD K H' d v->Con K G' H'->Le H H'->q d G'->Q v H'
def FutT (K:W.Frag) (H:Hp) (q:Bool->Gp->Prop) (Q:Bool->Hp->Prop):Prop:=∀ b G' H',Con K G' H'->Le H H'->q b G'->Q b H'
def FutA (K:W.Frag) (H:Hp) (q:List D->Gp->Prop) (Q:List V->Hp->Prop):Prop:=∀ ds G' vs H',RelDs K H' ds vs->Con K G' H'->Le H H'->q ds G'->Q vs H'
def FutS (K:W.Frag) (H:Hp) (q:DSt->Gp->Prop) (Q:St->Hp->Prop):Prop:=∀ σd G' σ H',RelSt K H' σd σ->Con K G' H'->Le H H'->q σd G'->Q σ H'
theorem FutE.le {K:W.Frag} {H H1:Hp} {q:DK} {Q:VK} (f:FutE K H q Q) (l:Le H H1):FutE K H1 q Q:=fun d G v H' r c l'=>f d G v H' r c (l.trans l')
theorem FutS.le {K:W.Frag} {H H1:Hp} {q:DSt->Gp->Prop} {Q:St->Hp->Prop} (f:FutS K H q Q) (l:Le H H1):FutS K H1 q Q:=fun d G v H' r c l'=>f d G v H' r c (l.trans l')
structure FutD (K:W.Frag) (H:Hp) (d:Ends3) (D:Ends):Prop where
 nx:FutS K H d.nx D.nx
 rt:FutE K H d.rt D.rt
 bk:FutS K H d.bk D.bk
 ct:FutS K H d.ct D.ct
theorem FutD.le {K:W.Frag} {H H1:Hp} {d:Ends3} {D:Ends} (f:FutD K H d D) (l:Le H H1):FutD K H1 d D:=⟨f.nx.le l,f.rt.le l,f.bk.le l,f.ct.le l⟩
def lowE (K:W.Frag) (t:TE3):TE:=fun σ H Q=>∃ σd G q,RelSt K H σd σ /\ Con K G H /\ t σd G q /\ FutE K H q Q
def lowT (K:W.Frag) (t:TT3):TT:=fun σ H Q=>∃ σd G q,RelSt K H σd σ /\ Con K G H /\ t σd G q /\ FutT K H q Q
def lowA (K:W.Frag) (t:TA3):TA:=fun σ H Q=>∃ σd G q,RelSt K H σd σ /\ Con K G H /\ t σd G q /\ FutA K H q Q
def lowS (K:W.Frag) (t:TS3):TS:=fun D σ H=>∃ σd G d,RelSt K H σd σ /\ Con K G H /\ t d σd G /\ FutD K H d D
abbrev R3:=D->D->Gp->DK->Prop
def lowR (K:W.Frag) (r:R3):R2:=fun x y H Q=>∃ d e G q,RelD K H d x /\ RelD K H e y /\ Con K G H /\ r d e G q /\ FutE K H q Q
abbrev U3:=D->Gp->DK->Prop
def lowU (K:W.Frag) (r:U3):V->Hp->VK->Prop:=fun x H Q=>∃ d G q,RelD K H d x /\ Con K G H /\ r d G q /\ FutE K H q Q
abbrev C3:=List D->Gp->DK->Prop
def lowC (K:W.Frag) (r:C3):List V->Hp->VK->Prop:=fun xs H Q=>∃ ds G q,RelDs K H ds xs /\ Con K G H /\ r ds G q /\ FutE K H q Q
def dVar (i:Nat):TE3:=fun σ G q=>match σ[i]? with | some (some d)=>q d G | _=>False
def dC (d:D):TE3:=fun _ G q=>q d G
def dOp (r:R3) (ta tb:TE3):TE3:=fun σ G q=>ta σ G fun x G1=>tb σ G1 fun y G2=>r x y G2 q
def dUn (r:U3) (ta:TE3):TE3:=fun σ G q=>ta σ G fun x G1=>r x G1 q
def dNil:TA3:=fun _ G q=>q [] G
def vl1 (ta:TE3) (tr:TA3):TA3:=fun σ G q=>ta σ G fun x G1=>tr σ G1 fun xs G2=>q (x::xs) G2
def dTup (t:TA3):TE3:=fun σ G q=>t σ G fun xs G1=>xs.length<=sizeLine /\ q (.tup xs) G1
def dLst (t:TA3):TE3:=fun σ G q=>t σ G fun xs G1=>xs.length<=sizeLine /\ ∀ p,G1 p=none->q (.ref p) (gup G1 p (.lst xs))
def dB (t:TE3):TT3:=fun σ G q=>t σ G fun x G1=>match x with | .bl c=>q c G1 | _=>False
def dAnd (t u:TT3):TT3:=fun σ G q=>t σ G fun c G1=>if c=true then u σ G1 q else q false G1
def dOr (t u:TT3):TT3:=fun σ G q=>t σ G fun c G1=>if c=true then q true G1 else u σ G1 q
def dNot (t:TT3):TT3:=fun σ G q=>t σ G fun c G1=>q (!c) G1
def v70 (ta tb:TE3):TE3:=fun σ G q=>ta σ G fun x G1=>match x with | .bl c=>if c=true then tb σ G1 q else q (.bl false) G1 | _=>False
def dOrV (ta tb:TE3):TE3:=fun σ G q=>ta σ G fun x G1=>match x with | .bl c=>if c=true then q (.bl true) G1 else tb σ G1 q | _=>False
def w59 (ta:TE3):TE3:=fun σ G q=>ta σ G fun x G1=>match x with | .bl c=>q (.bl (!c)) G1 | _=>False
def dIf (t:TT3) (ta tb:TE3):TE3:=fun σ G q=>t σ G fun c G1=>if c=true then ta σ G1 q else tb σ G1 q
section
variable {K:W.Frag} {σ:St} {H:Hp} {Q:VK}
theorem vh9 {i:Nat} (h:lowE K (dVar i) σ H Q):tVar i σ H Q:=by
 obtain ⟨σd,G,q,rs,c,t,f⟩:=h;unfold dVar at t;split at t
 ·rename_i d e
  obtain ⟨v,hv,r⟩:=rs.2 i d e;exact ⟨v,hv,f d G v H r c (Le.refl H) t⟩
 ·exact t.elim
theorem uq5 {d:D} {v:V} (r:∀ H,RelD K H d v) (h:lowE K (dC d) σ H Q):tC v σ H Q:=by
 obtain ⟨σd,G,q,rs,c,t,f⟩:=h;exact f d G v H (r H) c (Le.refl H) t
theorem un6 {r:R3} {ta tb:TE3} (h:lowE K (dOp r ta tb) σ H Q):tOp (lowR K r) (lowE K ta) (lowE K tb) σ H Q:=by
 obtain ⟨σd,G,q,rs,c,t,f⟩:=h;exact ⟨σd,G,_,rs,c,t,fun d G1 v H1 r1 c1 l1 t1=>⟨σd,G1,_,rs.le l1,c1,t1,fun e G2 u H2 r2 c2 l2 t2=>⟨d,e,G2,q,RelD.le l2 r1,r2,c2,t2,f.le (l1.trans l2)⟩⟩⟩
theorem vw8 {r:U3} {ta:TE3} (h:lowE K (dUn r ta) σ H Q):tUn (lowU K r) (lowE K ta) σ H Q:=by
 obtain ⟨σd,G,q,rs,c,t,f⟩:=h;exact ⟨σd,G,_,rs,c,t,fun d G1 v H1 r1 c1 l1 t1=>⟨d,G1,q,r1,c1,t1,f.le l1⟩⟩
theorem vi4 {Q:List V->Hp->Prop} (h:lowA K dNil σ H Q):tNil σ H Q:=by
 obtain ⟨σd,G,q,rs,c,t,f⟩:=h;exact f [] G [] H .nil c (Le.refl H) t
theorem v51 {ta:TE3} {tr:TA3} {Q:List V->Hp->Prop} (h:lowA K (vl1 ta tr) σ H Q):v19 (lowE K ta) (lowA K tr) σ H Q:=by
 obtain ⟨σd,G,q,rs,c,t,f⟩:=h;exact ⟨σd,G,_,rs,c,t,fun d G1 v H1 r1 c1 l1 t1=>⟨σd,G1,_,rs.le l1,c1,t1,fun ds G2 vs H2 r2 c2 l2 t2=>f (d::ds) G2 (v::vs) H2 (.cons (RelD.le l2 r1) r2) c2 (l1.trans l2) t2⟩⟩
theorem vi0 {ta:TA3} (h:lowE K (dTup ta) σ H Q):tTup (lowA K ta) σ H Q:=by
 obtain ⟨σd,G,q,rs,c,t,f⟩:=h;refine ⟨σd,G,_,rs,c,t,fun ds G1 vs H1 r1 c1 l1 t1=>⟨by rw [<- r1.length];exact t1.1,fun p hp=>?_⟩⟩;refine f (.tup ds) G1 (.ref p) _ ?_ (c1.side hp) (l1.trans (Le.fresh hp)) t1.2;rw [RelD];exact ⟨p,vs,rfl,SqT.of u18,RelDs.le (Le.fresh hp) r1⟩
theorem vi5 {ta:TA3} (h:lowE K (dLst ta) σ H Q):tLst (lowA K ta) σ H Q:=by
 obtain ⟨σd,G,q,rs,c,t,f⟩:=h;refine ⟨σd,G,_,rs,c,t,fun ds G1 vs H1 r1 c1 l1 t1=>⟨by rw [<- r1.length];exact t1.1,fun p hp=>?_⟩⟩;exact f (.ref p) _ (.ref p) _ (by rw [RelD]) (c1.lstNew hp r1) (l1.trans (Le.fresh hp)) (t1.2 p (c1.fresh hp))
theorem RelD.bl_inv {c:Bool} {v:V} (h:RelD K H (.bl c) v):v=.bl c:=by rw [RelD] at h;exact h
theorem v54 {t u:TT3} {Q:Bool->Hp->Prop} (h:lowT K (dAnd t u) σ H Q):tAnd (lowT K t) (lowT K u) σ H Q:=by
 obtain ⟨σd,G,q,rs,c,t,f⟩:=h;refine ⟨σd,G,_,rs,c,t,fun b G1 H1 c1 l1 t1=>?_⟩;cases b with
 | true=>rw [if_pos rfl] at t1 ⊢;exact ⟨σd,G1,q,rs.le l1,c1,t1,fun b G2 H2 c2 l2 t2=>f b G2 H2 c2 (l1.trans l2) t2⟩
 | false=>rw [if_neg Bool.false_ne_true] at t1 ⊢;exact f _ _ _ c1 l1 t1
theorem vi3 {t u:TT3} {Q:Bool->Hp->Prop} (h:lowT K (dOr t u) σ H Q):tOr (lowT K t) (lowT K u) σ H Q:=by
 obtain ⟨σd,G,q,rs,c,t,f⟩:=h;refine ⟨σd,G,_,rs,c,t,fun b G1 H1 c1 l1 t1=>?_⟩;cases b with
 | false=>rw [if_neg Bool.false_ne_true] at t1 ⊢;exact ⟨σd,G1,q,rs.le l1,c1,t1,fun b G2 H2 c2 l2 t2=>f b G2 H2 c2 (l1.trans l2) t2⟩
 | true=>rw [if_pos rfl] at t1 ⊢;exact f _ _ _ c1 l1 t1
theorem v47 {t:TT3} {Q:Bool->Hp->Prop} (h:lowT K (dNot t) σ H Q):tNot (lowT K t) σ H Q:=by
 obtain ⟨σd,G,q,rs,c,t,f⟩:=h;exact ⟨σd,G,_,rs,c,t,fun b G1 H1 c1 l1 t1=>f _ _ _ c1 l1 t1⟩
end
def vk9:TS3:=fun E σ G=>E.nx σ G
def Go (k:DSt->Gp->Prop) (σ:DSt) (G:Gp):Prop:=k σ G
def dSeq (t u:TS3):TS3:=fun E σ G=>t { E with nx:=Go (u E) } σ G
def ur1 (te:TE3):TS3:=fun E σ G=>te σ G fun _ G1=>E.nx σ G1
def dRet (te:TE3):TS3:=fun E σ G=>te σ G E.rt
def w58:TS3:=fun E _ G=>E.rt .non G
def dIfS (c:TT3) (t u:TS3):TS3:=fun E σ G=>c σ G fun b G1=>if b=true then t E σ G1 else u E σ G1
abbrev TG3:=D->DSt->Gp->(DSt->Gp->Prop)->Prop
abbrev TGs3:=List D->DSt->Gp->(DSt->Gp->Prop)->Prop
def lowG (K:W.Frag) (t:TG3):TG:=fun v σ H Q=>∃ d σd G q,RelD K H d v /\ RelSt K H σd σ /\ Con K G H /\ t d σd G q /\ FutS K H q Q
def v55 (K:W.Frag) (t:TGs3):TGs:=fun vs σ H Q=>∃ ds σd G q,RelDs K H ds vs /\ RelSt K H σd σ /\ Con K G H /\ t ds σd G q /\ FutS K H q Q
def uk9 (i:Nat):TG3:=fun d σ G q=>q (σ.set i (some d)) G
def jNil:TGs3:=fun ds σ G q=>ds=[] /\ q σ G
def vj4 (t:TG3) (u:TGs3):TGs3:=fun ds σ G q=>match ds with | d::r=>t d σ G fun σ' G'=>u r σ' G' q | []=>False
abbrev TSet3:=D->D->D->Gp->(Gp->Prop)->Prop
def uw6 (K:W.Frag) (t:TSet3):TSet:=fun o i v H Q=>∃ d e x G q,RelD K H d o /\ RelD K H e i /\ RelD K H x v /\ Con K G H /\ t d e x G q /\ ∀ G' H',Con K G' H'->Le H H'->q G'->Q H'
def jSub (to ti:TE3) (t:TSet3):TG3:=fun d σ G q=>to σ G fun o G1=>ti σ G1 fun i G2=>t o i d G2 fun G3=>q σ G3
def dAsg (te:TE3) (g:TG3):TS3:=fun E σ G=>te σ G fun x G1=>g x σ G1 E.nx
section
variable {K:W.Frag} {σ:St} {H:Hp} {E:Ends}
theorem v48 (h:lowS K vk9 E σ H):vp1 E σ H:=by
 obtain ⟨σd,G,d,rs,c,t,f⟩:=h;exact f.nx _ _ _ _ rs c (Le.refl H) t
theorem vi1 {t u:TS3} (h:lowS K (dSeq t u) E σ H):tSeq (lowS K t) (lowS K u) E σ H:=by
 obtain ⟨σd,G,d,rs,c,t,f⟩:=h;exact ⟨σd,G,_,rs,c,t,fun σd' G' σ' H' rs' c' l' t'=>⟨σd',G',d,rs',c',t',f.le l'⟩,f.rt,f.bk,f.ct⟩
theorem un7 {te:TE3} (h:lowS K (ur1 te) E σ H):vc8 (lowE K te) E σ H:=by
 obtain ⟨σd,G,d,rs,c,t,f⟩:=h;exact ⟨σd,G,_,rs,c,t,fun x G1 v H1 r1 c1 l1 t1=>f.nx _ _ _ _ (rs.le l1) c1 l1 t1⟩
theorem vi2 {te:TE3} (h:lowS K (dRet te) E σ H):tRet (lowE K te) E σ H:=by
 obtain ⟨σd,G,d,rs,c,t,f⟩:=h;exact ⟨σd,G,_,rs,c,t,f.rt⟩
theorem vi6 {tc:TT3} {t u:TS3} (h:lowS K (dIfS tc t u) E σ H):tIfS (lowT K tc) (lowS K t) (lowS K u) E σ H:=by
 obtain ⟨σd,G,d,rs,c,t,f⟩:=h;refine ⟨σd,G,_,rs,c,t,fun b G1 H1 c1 l1 t1=>?_⟩;cases b with
 | true=>rw [if_pos rfl] at t1 ⊢;exact ⟨σd,G1,d,rs.le l1,c1,t1,f.le l1⟩
 | false=>rw [if_neg Bool.false_ne_true] at t1 ⊢;exact ⟨σd,G1,d,rs.le l1,c1,t1,f.le l1⟩
theorem uw1 {i:Nat} {v:V} {Q:St->Hp->Prop} (h:lowG K (uk9 i) v σ H Q):vk1 i v σ H Q:=by
 obtain ⟨d,σd,G,q,r,rs,c,t,f⟩:=h;exact f _ _ _ _ (rs.set i r) c (Le.refl H) t
theorem v50 {vs:List V} {Q:St->Hp->Prop} (h:v55 K jNil vs σ H Q):gNil vs σ H Q:=by
 obtain ⟨ds,σd,G,q,r,rs,c,⟨e,t⟩,f⟩:=h;subst e;exact ⟨r.inv_nil,f _ _ _ _ rs c (Le.refl H) t⟩
theorem uw2 {t:TG3} {u:TGs3} {vs:List V} {Q:St->Hp->Prop} (h:v55 K (vj4 t u) vs σ H Q):vy7 (lowG K t) (v55 K u) vs σ H Q:=by
 obtain ⟨ds,σd,G,q,r,rs,c,t,f⟩:=h;cases ds with
 | nil=>exact t.elim
 | cons d ds =>
  obtain ⟨x,xs,rfl,r1,r2⟩:=r.inv_cons;exact ⟨x,xs,rfl,d,σd,G,_,r1,rs,c,t,fun σd' G' σ' H' rs' c' l' t'=>⟨ds,σd',G',q,RelDs.le l' r2,rs',c',t',f.le l'⟩⟩
theorem v49 {to ti:TE3} {t:TSet3} {v:V} {Q:St->Hp->Prop} (h:lowG K (jSub to ti t) v σ H Q):gSub (lowE K to) (lowE K ti) (uw6 K t) v σ H Q:=by
 obtain ⟨d,σd,G,q,r,rs,c,t,f⟩:=h;exact ⟨σd,G,_,rs,c,t,fun o G1 vo H1 r1 c1 l1 t1=>⟨σd,G1,_,rs.le l1,c1,t1,fun i G2 vi H2 r2 c2 l2 t2=>⟨o,i,d,G2,_,RelD.le l2 r1,r2,RelD.le (l1.trans l2) r,c2,t2,fun G3 H3 c3 l3 t3 =>
  f _ _ _ _ (rs.le (l1.trans (l2.trans l3))) c3 (l1.trans (l2.trans l3)) t3⟩⟩⟩
theorem vi8 {te:TE3} {g:TG3} (h:lowS K (dAsg te g) E σ H):tAsg (lowE K te) (lowG K g) E σ H:=by
 obtain ⟨σd,G,d,rs,c,t,f⟩:=h;exact ⟨σd,G,_,rs,c,t,fun x G1 v H1 r1 c1 l1 t1=>⟨x,σd,G1,_,r1,rs.le l1,c1,t1,f.nx.le l1⟩⟩
end
def whN (c:TT3) (tb:TS3) (E:Ends3):Nat->DSt->Gp->Prop
 | 0,_,_=>False
 | n+1,σ,G=>c σ G fun b G1=>if b=true then tb { E with nx:=whN c tb E n,ct:=whN c tb E n,bk:=E.nx } σ G1 else E.nx σ G1
def uo8 (c:TT3) (tb:TS3):TS3:=fun E σ G=>∃ n,whN c tb E n σ G
theorem uv9 {K:W.Frag} {c:TT3} {tb:TS3} {σ:St} {H:Hp} {E:Ends} (h:lowS K (uo8 c tb) E σ H):v89 (lowT K c) (lowS K tb) E σ H:=by
 obtain ⟨σd,G,d,rs,cc,⟨n,t⟩,f⟩:=h;refine ⟨fun m σ' H'=>∃ σd' G',Le H H' /\ RelSt K H' σd' σ' /\ Con K G' H' /\ whN c tb d m σd' G',⟨n,σd,G,Le.refl H,rs,cc,t⟩,?_⟩;rintro m σ1 H1 ⟨σd1,G1,l1,rs1,c1,t1⟩;cases m with
 | zero=>exact t1.elim
 | succ m =>
  refine ⟨σd1,G1,_,rs1,c1,t1,fun b G2 H2 c2 l2 t2=>?_⟩;cases b with
  | true =>
   rw [if_pos rfl] at t2 ⊢;refine ⟨fun σ' H'=>∃ σd' G',Le H H' /\ RelSt K H' σd' σ' /\ Con K G' H' /\ whN c tb d m σd' G',fun σ' H' w=>⟨m,Nat.lt_succ_self m,w⟩,σd1,G2,_,rs1.le l2,c2,t2,?_,?_,?_,?_⟩
   ·exact fun σd3 G3 σ3 H3 rs3 c3 l3 t3=>⟨σd3,G3,l1.trans (l2.trans l3),rs3,c3,t3⟩
   ·exact f.rt.le (l1.trans l2)
   ·exact f.nx.le (l1.trans l2)
   ·exact fun σd3 G3 σ3 H3 rs3 c3 l3 t3=>⟨σd3,G3,l1.trans (l2.trans l3),rs3,c3,t3⟩
  | false =>
   rw [if_neg Bool.false_ne_true] at t2 ⊢;exact f.nx _ _ _ _ (rs1.le l2) c2 (l1.trans l2) t2
structure IT where
 items:List D
 ok:Gp->Prop
structure ItRel (K:W.Frag) (H0:Hp) (it:IT) (J:It):Prop where
 go:∀ (i:Nat) G H,Le H0 H->Con K G H->it.ok G->i < it.items.length->J.go i H
 stop:∀ (i:Nat) G H,Le H0 H->Con K G H->it.ok G->it.items.length<=i->J.stop i H
 yld:∀ (i:Nat) G H x H',Le H0 H->Con K G H->it.ok G->i < it.items.length->J.yld i H x H'->Con K G H' /\ Le H H' /\ ∃ d,it.items[i]?=some d /\ RelD K H' d x
abbrev TI3:=DSt->Gp->(IT->Gp->Prop)->Prop
def lowI (K:W.Frag) (t:TI3):TI:=fun σ H R=>∃ σd G r,RelSt K H σd σ /\ Con K G H /\ t σd G r /\ ∀ it J G' H',ItRel K H' it J->Con K G' H'->Le H H'->r it G'->R J H'
def forL (ok:Gp->Prop) (g:TG3) (tb:TS3) (E:Ends3):List D->DSt->Gp->Prop
 | [],σ,G=>ok G /\ E.nx σ G
 | x::r,σ,G=>ok G /\ g x σ G fun σ1 G1=>tb { E with nx:=forL ok g tb E r,ct:=forL ok g tb E r,bk:=E.nx } σ1 G1
def dFor (wi:TI3) (g:TG3) (tb:TS3):TS3:=fun E σ G=>wi σ G fun it G1=>forL it.ok g tb E it.items σ G1
theorem vi7 {K:W.Frag} {wi:TI3} {g:TG3} {tb:TS3} {σ:St} {H:Hp} {E:Ends} (h:lowS K (dFor wi g tb) E σ H):tFor (lowI K wi) (lowG K g) (lowS K tb) E σ H:=by
 obtain ⟨σd,G,d,rs,cc,t,f⟩:=h;refine ⟨σd,G,_,rs,cc,t,fun it J G1 H1 ir c1 l1 t1=>?_⟩;refine ⟨fun i m σ' H'=>∃ σd' G',Le H1 H' /\ RelSt K H' σd' σ' /\ Con K G' H' /\ i+m=it.items.length /\ forL it.ok g tb d (it.items.drop i) σd' G',⟨it.items.length,σd,G1,Le.refl _,rs.le l1,c1,by omega,by rw [List.drop_zero];exact t1⟩,?_⟩;rintro i m σ2 H2 ⟨σd2,G2,l2,rs2,c2,e2,t2⟩
 by_cases hi:i < it.items.length
 ·rw [List.drop_eq_getElem_cons hi] at t2
  obtain ⟨ok2,t2⟩:=t2;refine .inr ⟨ir.go i G2 H2 l2 c2 ok2 hi,fun σ' H'=>∃ σd' G',Le H1 H' /\ RelSt K H' σd' σ' /\ Con K G' H' /\ forL it.ok g tb d (it.items.drop (i+1)) σd' G',?_,?_⟩
  ·rintro σ' H' ⟨σd',G',a1,a2,a3,a4⟩
   exact ⟨m - 1,by omega,σd',G',a1,a2,a3,by omega,a4⟩
  ·intro x H3 y
   obtain ⟨c3,l3,e,he,r3⟩:=ir.yld i G2 H2 x H3 l2 c2 ok2 hi y;rw [List.getElem?_eq_getElem hi] at he;cases he;refine ⟨_,σd2,G2,_,r3,rs2.le l3,c3,t2,fun σd4 G4 σ4 H4 rs4 c4 l4 t4=>?_⟩;have l14:Le H1 H4:=l2.trans (l3.trans l4);have key:FutS K H4 (forL it.ok g tb d (it.items.drop (i+1))) (fun σ' H'=>∃ σd' G',Le H1 H' /\ RelSt K H' σd' σ' /\ Con K G' H' /\ forL it.ok g tb d (it.items.drop (i+1)) σd' G') :=
    fun σd5 G5 σ5 H5 rs5 c5 l5 t5=>⟨σd5,G5,l14.trans l5,rs5,c5,t5⟩
   exact ⟨σd4,G4,_,rs4,c4,t4,key,f.rt.le (l1.trans l14),f.nx.le (l1.trans l14),key⟩
 ·rw [List.drop_eq_nil_of_le (by omega)] at t2
  exact .inl ⟨ir.stop i G2 H2 l2 c2 t2.1 (by omega),f.nx _ _ _ _ rs2 c2 (l1.trans l2) t2.2⟩
theorem RelDs.at_ {K:W.Frag} {H:Hp} {ds:List D} {xs:List V} {i:Nat} {x:V} (h:RelDs K H ds xs) (e:xs[i]?=some x):∃ d,ds[i]?=some d /\ RelD K H d x:=by
 have hl:i < ds.length:=by rw [h.length];exact (List.getElem?_eq_some_iff.mp e).1
 obtain ⟨y,hy,r⟩:=h.get (List.getElem?_eq_getElem hl);rw [e] at hy;cases hy;exact ⟨_,List.getElem?_eq_getElem hl,r⟩
theorem ux8 {K:W.Frag} {H0:Hp} {a:Addr} {ds:List D} {xs:List V} (s:SqT K H0 a xs) (r:RelDs K H0 ds xs):ItRel K H0 ⟨ds,fun _=>True⟩ (Itt K a) where
 go:=fun i G H l c _ hi=>⟨xs,xs[i]'(by rw [<- r.length];exact hi),l.sqT s,List.getElem?_eq_getElem _⟩
 stop:=fun i G H l c _ hi=>⟨xs,l.sqT s,by rw [<- r.length];exact hi⟩
 yld:=fun i G H x H' l c _ hi y=>by
  obtain ⟨e,y⟩:=y;subst e;have hx:=y xs (l.sqT s);obtain ⟨d,hd,rd⟩:=(RelDs.le l r).at_ hx
  exact ⟨c,Le.refl _,d,hd,rd⟩
def u15:Option DO->Option (List D)
 | some (.lst xs)=>some xs
 | some (.fro xs)=>some xs
 | _=>none
theorem u27 {K:W.Frag} {G:Gp} {H:Hp} {a:Addr} {ds:List D} (c:Con K G H) (h:u15 (G a)=some ds):∃ xs,SqL K H a xs /\ RelDs K H ds xs:=by
 cases e:G a with
 | none=>rw [e] at h;cases h
 | some o =>
  rw [e] at h;have q:=c a o e;cases o with
  | lst xs=>cases h;obtain ⟨ys,q,r⟩:=q;exact ⟨ys,.inl (.inl q),r⟩
  | fro xs=>cases h;obtain ⟨o,ys,q,r⟩:=q;exact ⟨ys,.inl (.inr ⟨o,q⟩),r⟩
  | dic _=>cases h
  | dit _=>cases h
  | ins _ _=>cases h
  | exc _ _=>cases h
  | frd _ _=>cases h
  | tb _ _=>cases h
theorem uq7 {K:W.Frag} {H0:Hp} {a:Addr} {ds:List D}:ItRel K H0 ⟨ds,fun G=>u15 (G a)=some ds⟩ (Itl K a) where
 go:=fun i G H l c ok hi=>by
  obtain ⟨xs,s,r⟩:=u27 c ok;exact ⟨xs,xs[i]'(by rw [<- r.length];exact hi),s,List.getElem?_eq_getElem _⟩
 stop:=fun i G H l c ok hi=>by
  obtain ⟨xs,s,r⟩:=u27 c ok;exact ⟨xs,s,by rw [<- r.length];exact hi⟩
 yld:=fun i G H x H' l c ok hi y=>by
  obtain ⟨e,y⟩:=y;subst e;obtain ⟨xs,s,r⟩:=u27 c ok;obtain ⟨d,hd,rd⟩:=r.at_ (y xs s)
  exact ⟨c,Le.refl _,d,hd,rd⟩
def rngD (lo:Int) (n:Nat):List D:=(List.range n).map fun (i:Nat)=>.int (lo+i)
theorem ul0 {K:W.Frag} {H0:Hp} {lo:Int} {n:Nat}:ItRel K H0 ⟨rngD lo n,fun _=>True⟩ (Itr lo n) where
 go:=fun i G H l c _ hi=>by
  have:i < n:=by simpa [rngD] using hi
  exact this
 stop:=fun i G H l c _ hi=>by
  have:n<=i:=by simpa [rngD] using hi
  exact this
 yld:=fun i G H x H' l c _ hi y=>by
  obtain ⟨e,y⟩:=y;subst e;subst y;refine ⟨c,Le.refl _,.int (lo+i),?_,by rw [RelD]⟩;have:i < n:=by simpa [rngD] using hi
  simp [rngD,this]
abbrev Sp3:=List D->Gp->DK->Prop
def u97 (K:W.Frag) (S:Sp3):Sp:=fun vs H Q _=>∃ ds G R,RelDs K H ds vs /\ Con K G H /\ S ds G R /\ FutE K H R Q
def dCall (S:Sp3) (dds:List D) (t:TA3):TE3:=fun σ G q=>t σ G fun ds G1=>∃ R,S (ds++dds) G1 R /\ ∀ d G',R d G'->q d G'
def w03 (C:Addr) (m:Str) (S:Sp3) (dds:List D) (ta:TE3) (t:TA3):TE3:=fun σ G q=>ta σ G fun x G1=>match x with
 | .ref a=>(match G1 a with
  | some (.ins C' fs)=>C'=C /\ fs.lookup m=none /\ t σ G1 fun ds G2=>∃ R,S (.ref a::(ds++dds)) G2 R /\ ∀ d G',R d G'->q d G'
  | _=>False)
 | _=>False
def w60 (C:Addr) (S:Sp3) (dds:List D) (t:TA3):TE3:=fun σ G q=>t σ G fun ds G1=>∀ x,G1 x=none ->
 ∃ R,S (.ref x::(ds++dds)) (gup G1 x (.ins C [])) R /\ ∀ d G',R d G'->d=.non /\ q (.ref x) G'
def putD (f:Str) (v:D):List (Str × D)->List (Str × D)
 | []=>[(f,v)]
 | (g,u)::r=>if g=f then (g,v)::r else (g,u)::putD f v r
def dFld (C:Addr) (ta:TE3) (f:Str):TE3:=fun σ G q=>ta σ G fun x G1=>match x with
 | .ref a=>(match G1 a with
  | some (.ins C' fs)=>C'=C /\ (match fs.lookup f with | some d=>q d G1 | none=>False)
  | _=>False)
 | _=>False
def w57 (C:Addr) (ta tv:TE3) (f:Str):TS3:=fun E σ G=>tv σ G fun y G1=>ta σ G1 fun x G2=>match x with
 | .ref a=>(match G2 a with
  | some (.ins C' fs)=>C'=C /\ fs.length < 1000 /\ E.nx σ (gup G2 a (.ins C (putD f y fs)))
  | _=>False)
 | _=>False
def w61 (C:Addr) (ta tv:TE3) (r:R3) (f:Str):TS3:=fun E σ G=>ta σ G fun x G1=>match x with
 | .ref a=>(match G1 a with
  | some (.ins C' fs)=>C'=C /\ (match fs.lookup f with
   | some d=>tv σ G1 fun y G2=>r d y G2 fun z G3=>(match G3 a with
    | some (.ins C'' fs')=>C''=C /\ fs'.length < 1000 /\ E.nx σ (gup G3 a (.ins C (putD f z fs')))
    | _=>False)
   | none=>False)
  | _=>False)
 | _=>False
section
variable {K:W.Frag} {σ:St} {H:Hp} {Q:VK} {E:Ends}
theorem un8 {S:Sp3} {dds:List D} {dvs:List V} {t:TA3} {XE:XK} (hd:∀ H,RelDs K H dds dvs) (h:lowE K (dCall S dds t) σ H Q):v20 (u97 K S) dvs XE (lowA K t) σ H Q:=by
 obtain ⟨σd,G,q,rs,c,t,f⟩:=h;exact ⟨σd,G,_,rs,c,t,fun ds G1 vs H1 r1 c1 l1 ⟨R,s1,t1⟩=>⟨_,G1,R,r1.append (hd H1),c1,s1,fun d G2 v H2 r2 c2 l2 t2=>f d G2 v H2 r2 c2 (l1.trans l2) (t1 d G2 t2)⟩⟩
theorem RelD.refI {a:Addr}:RelD K H (.ref a) (.ref a):=by rw [RelD]
theorem RelD.ref_inv {a:Addr} {v:V} (h:RelD K H (.ref a) v):v=.ref a:=by rw [RelD] at h;exact h
theorem RelPs.lookup_none {κ:Type} [BEq κ] {k:κ}:∀ {ps:List (κ × D)} {qs:List (κ × V)},RelPs K H ps qs->ps.lookup k=none->qs.lookup k=none
 | [],qs,h,_=>by
  cases qs with
  | nil=>rfl
  | cons _ _=>have:=h.1;simp at this
 | (g,d)::ps,qs,h,e=>by
  cases qs with
  | nil=>have:=h.1;simp at this
  | cons q qs =>
   obtain ⟨g',v⟩:=q;have h1:=h.1;simp only [List.map_cons,List.cons.injEq] at h1;obtain ⟨rfl,h1⟩:=h1;obtain ⟨x,r,e2,_,h2⟩:=(show RelDs K H (d::ps.map (·.2)) (v::qs.map (·.2)) from h.2).inv_cons;cases e2;rw [List.lookup_cons] at e ⊢;cases hk:k == g with
   | true=>rw [hk] at e;cases e
   | false=>rw [hk] at e;exact RelPs.lookup_none ⟨h1,h2⟩ e
theorem RelPs.lookup {κ:Type} [BEq κ] {k:κ} {d:D}:∀ {ps:List (κ × D)} {qs:List (κ × V)},RelPs K H ps qs->ps.lookup k=some d->∃ v,qs.lookup k=some v /\ RelD K H d v
 | [],qs,h,e=>by cases e
 | (g,d')::ps,qs,h,e=>by
  cases qs with
  | nil=>have:=h.1;simp at this
  | cons q qs =>
   obtain ⟨g',v⟩:=q;have h1:=h.1;simp only [List.map_cons,List.cons.injEq] at h1;obtain ⟨rfl,h1⟩:=h1;obtain ⟨x,r,e2,r1,h2⟩:=(show RelDs K H (d'::ps.map (·.2)) (v::qs.map (·.2)) from h.2).inv_cons;cases e2;rw [List.lookup_cons] at e ⊢;cases hk:k == g with
   | true=>rw [hk] at e;cases e;exact ⟨v,rfl,r1⟩
   | false=>rw [hk] at e;exact RelPs.lookup ⟨h1,h2⟩ e
theorem RelPs.nil {κ:Type}:RelPs (κ:=κ) K H [] []:=⟨rfl,.nil⟩
theorem RelPs.cons {κ:Type} {k:κ} {d:D} {v:V} {ps:List (κ × D)} {qs:List (κ × V)} (r:RelD K H d v) (h:RelPs K H ps qs):RelPs K H ((k,d)::ps) ((k,v)::qs) :=
 ⟨by simp [h.1],.cons r h.2⟩
theorem RelPs.inv_cons {κ:Type} {k:κ} {d:D} {ps:List (κ × D)} {qs:List (κ × V)} (h:RelPs K H ((k,d)::ps) qs):∃ v r,qs=(k,v)::r /\ RelD K H d v /\ RelPs K H ps r:=by
 cases qs with
 | nil=>have:=h.1;simp at this
 | cons q qs =>
  obtain ⟨g',v⟩:=q;have h1:=h.1;simp only [List.map_cons,List.cons.injEq] at h1;obtain ⟨rfl,h1⟩:=h1;obtain ⟨x,r,e2,r1,h2⟩:=(show RelDs K H (d::ps.map (·.2)) (v::qs.map (·.2)) from h.2).inv_cons;cases e2;exact ⟨v,qs,rfl,r1,h1,h2⟩
theorem RelPs.inv_nil {κ:Type} {qs:List (κ × V)} (h:RelPs K H [] qs):qs=[]:=by
 cases qs with
 | nil=>rfl
 | cons _ _=>have:=h.1;simp at this
theorem RelPs.length {κ:Type} {ps:List (κ × D)} {qs:List (κ × V)} (h:RelPs K H ps qs):ps.length=qs.length:=by
 have:=h.2.length;simpa using this
theorem w14 {C:Addr} {m:Str} {S:Sp3} {dds:List D} {dvs:List V} {ta:TE3} {t:TA3} {XE:XK} (hd:∀ H,RelDs K H dds dvs) (h:lowE K (w03 C m S dds ta t) σ H Q):w30 C m (u97 K S) dvs XE (lowE K ta) (lowA K t) σ H Q:=by
 obtain ⟨σd,G,q,rs,c,t,f⟩:=h;refine ⟨σd,G,_,rs,c,t,fun x G1 v H1 r1 c1 l1 t1=>?_⟩;split at t1
 ·rename_i a
  split at t1
  ·rename_i C' fs e
   obtain ⟨rfl,n,t1⟩:=t1;obtain ⟨dx,ys,e2,rf⟩:=c1 _ _ e;refine ⟨a,dx,ys,r1.ref_inv,e2,rf.lookup_none n,σd,G1,_,rs.le l1,c1,t1,fun ds G2 vs H2 r2 c2 l2 ⟨R,s2,t2⟩=>?_⟩;exact ⟨_,G2,R,.cons (RelD.le l2 r1) (r2.append (hd H2)),c2,s2,fun d G3 v H3 r3 c3 l3 t3=>f d G3 v H3 r3 c3 (l1.trans (l2.trans l3)) (t2 d G3 t3)⟩
  ·exact t1.elim
 ·exact t1.elim
theorem w51 {te:TE3} {Q:Bool->Hp->Prop} (h:lowT K (dB te) σ H Q):tB (lowE K te) σ H Q:=by
 obtain ⟨σd,G,q,rs,c,t,f⟩:=h;refine ⟨σd,G,_,rs,c,t,fun x G1 v H1 r1 c1 l1 t1=>?_⟩;split at t1
 ·rename_i k
  exact ⟨k,r1.bl_inv,f _ _ _ c1 l1 t1⟩
 ·exact t1.elim
theorem v53 {ta tb:TE3} (h:lowE K (v70 ta tb) σ H Q):vp4 (lowE K ta) (lowE K tb) σ H Q:=by
 obtain ⟨σd,G,q,rs,c,t,f⟩:=h;refine ⟨σd,G,_,rs,c,t,fun x G1 v H1 r1 c1 l1 t1=>?_⟩;split at t1
 ·rename_i k
  refine ⟨k,r1.bl_inv,?_⟩;cases k with
  | true=>rw [if_pos rfl] at t1 ⊢;exact ⟨σd,G1,q,rs.le l1,c1,t1,f.le l1⟩
  | false=>rw [if_neg Bool.false_ne_true] at t1 ⊢;exact f _ _ _ _ (by rw [RelD]) c1 l1 t1
 ·exact t1.elim
def dAug (i:Nat) (te:TE3) (r:R3):TS3:=fun E σ G=>match σ[i]? with
 | some (some x)=>te σ G fun y G1=>r x y G1 fun z G2=>E.nx (σ.set i (some z)) G2
 | _=>False
abbrev TO3:=DSt->Gp->(Option Int->Gp->Prop)->Prop
def lowO (K:W.Frag) (t:TO3):TO:=fun σ H Q=>∃ σd G q,RelSt K H σd σ /\ Con K G H /\ t σd G q /\ ∀ o G' H',Con K G' H'->Le H H'->q o G'->Q o H'
def ul5:TO3:=fun _ G q=>q none G
def vk8 (t:TE3):TO3:=fun σ G q=>t σ G fun x G1=>match x with | .int i=>q (some i) G1 | _=>False
theorem uq4 {Q:Option Int->Hp->Prop} (h:lowO K ul5 σ H Q):ut0 σ H Q:=by
 obtain ⟨σd,G,q,rs,c,t,f⟩:=h;exact f _ _ _ c (Le.refl H) t
theorem v46 {t:TE3} {Q:Option Int->Hp->Prop} (h:lowO K (vk8 t) σ H Q):vp0 (lowE K t) σ H Q:=by
 obtain ⟨σd,G,q,rs,c,t,f⟩:=h;refine ⟨σd,G,_,rs,c,t,fun x G1 v H1 r1 c1 l1 t1=>?_⟩;split at t1
 ·rename_i k
  rw [RelD] at r1;exact ⟨k,r1,f _ _ _ c1 l1 t1⟩
 ·exact t1.elim
abbrev RS3:=D->Option Int->Option Int->Gp->DK->Prop
def uw7 (K:W.Frag) (r:RS3):V->Option Int->Option Int->Hp->VK->Prop:=fun x l u H Q=>∃ d G q,RelD K H d x /\ Con K G H /\ r d l u G q /\ FutE K H q Q
def dSl (r:RS3) (te:TE3) (tl th:TO3):TE3:=fun σ G q=>te σ G fun x G1=>tl σ G1 fun l G2=>th σ G2 fun u G3=>r x l u G3 q
theorem vw9 {r:RS3} {te:TE3} {tl th:TO3} (h:lowE K (dSl r te tl th) σ H Q):tSl (uw7 K r) (lowE K te) (lowO K tl) (lowO K th) σ H Q:=by
 obtain ⟨σd,G,q,rs,c,t,f⟩:=h;exact ⟨σd,G,_,rs,c,t,fun x G1 v H1 r1 c1 l1 t1=>⟨σd,G1,_,rs.le l1,c1,t1,fun o G2 H2 c2 l2 t2=>⟨σd,G2,_,rs.le (l1.trans l2),c2,t2,fun u G3 H3 c3 l3 t3 =>
  ⟨x,G3,q,RelD.le (l2.trans l3) r1,c3,t3,f.le (l1.trans (l2.trans l3))⟩⟩⟩⟩
def dCB (r:C3) (t:TA3):TE3:=fun σ G q=>t σ G fun ds G1=>r ds G1 q
theorem va5 {r:C3} {t:TA3} (h:lowE K (dCB r t) σ H Q):tCB (lowC K r) (lowA K t) σ H Q:=by
 obtain ⟨σd,G,q,rs,c,t,f⟩:=h;exact ⟨σd,G,_,rs,c,t,fun ds G1 vs H1 r1 c1 l1 t1=>⟨ds,G1,q,r1,c1,t1,f.le l1⟩⟩
abbrev M3:=D->List D->Gp->DK->Prop
def lowM (K:W.Frag) (r:M3):V->List V->Hp->VK->Prop:=fun x xs H Q=>∃ d ds G q,RelD K H d x /\ RelDs K H ds xs /\ Con K G H /\ r d ds G q /\ FutE K H q Q
def tyD (G:Gp) (T:String):D->Prop
 | .str _=>T = "str"
 | .int _=>T = "int"
 | .ref a=>match G a with
  | some (.lst _)=>T = "list"
  | some (.fro _)=>T = "list"
  | some (.dic _)=>T = "dict"
  | _=>False
 | _=>False
def dBM (T:String) (r:M3) (to:TE3) (t:TA3):TE3:=fun σ G q=>to σ G fun x G1=>tyD G1 T x /\ t σ G1 fun ds G2=>r x ds G2 q
def dBM0 (T:String) (r:M3) (to:TE3):TE3:=fun σ G q=>to σ G fun x G1=>tyD G1 T x /\ r x [] G1 q
theorem ui9 {T:String} {r:M3} {to:TE3} {t:TA3} (ty:∀ G H x v,Con K G H->RelD K H x v->tyD G T x->tyV K T v H) (h:lowE K (dBM T r to t) σ H Q):tBM K T (lowM K r) (lowE K to) (lowA K t) σ H Q:=by
 obtain ⟨σd,G,q,rs,c,t,f⟩:=h;exact ⟨σd,G,_,rs,c,t,fun x G1 v H1 r1 c1 l1 ⟨y,t1⟩=>⟨ty G1 H1 x v c1 r1 y,σd,G1,_,rs.le l1,c1,t1,fun ds G2 vs H2 r2 c2 l2 t2=>⟨x,ds,G2,q,RelD.le l2 r1,r2,c2,t2,f.le (l1.trans l2)⟩⟩⟩
theorem uw5 {T:String} {r:M3} {to:TE3} (ty:∀ G H x v,Con K G H->RelD K H x v->tyD G T x->tyV K T v H) (h:lowE K (dBM0 T r to) σ H Q):tBM0 K T (lowM K r) (lowE K to) σ H Q:=by
 obtain ⟨σd,G,q,rs,c,t,f⟩:=h;exact ⟨σd,G,_,rs,c,t,fun x G1 v H1 r1 c1 l1 ⟨y,t1⟩=>⟨ty G1 H1 x v c1 r1 y,x,[],G1,q,r1,.nil,c1,t1,f.le l1⟩⟩
end
end L3
namespace L3
open PySem PySem.Spec PyProof.Rows L2
section
variable {X:Cx}
theorem u32 {e:Expr} {t t':TE} (h:PE X e t) (w:∀ σ H Q,t' σ H Q->t σ H Q):PE X e t':=fun pins s σ H Q I q=>h pins s σ H Q I (w _ _ _ q)
theorem vc0 {e:Expr} {t t':TT} (h:PT X e t) (w:∀ σ H Q,t' σ H Q->t σ H Q):PT X e t':=fun pins s σ H Q I q=>h pins s σ H Q I (w _ _ _ q)
theorem vo0 {e:Expr} {t t':TT} (h:PW X e t) (w:∀ σ H Q,t' σ H Q->t σ H Q):PW X e t':=fun wh pins s σ H Q I q=>h wh pins s σ H Q I (w _ _ _ q)
theorem vo5 {e:List Expr} {t t':TA} (h:PA X e t) (w:∀ σ H Q,t' σ H Q->t σ H Q):PA X e t':=fun pos pins s σ H Q I q=>h pos pins s σ H Q I (w _ _ _ q)
theorem ud3 {e:Stmt} {t t':TS} (h:PS X e t) (w:∀ D σ H,t' D σ H->t D σ H):PS X e t':=fun pins s σ H D I q=>h pins s σ H D I (w _ _ _ q)
theorem v84 {e:List Stmt} {t t':TS} (h:PSs X e t) (w:∀ D σ H,t' D σ H->t D σ H):PSs X e t':=fun pins s σ H D I q=>h pins s σ H D I (w _ _ _ q)
theorem vc3 {e:Expr} {t t':TG} (h:PG X e t) (w:∀ v σ H Q,t' v σ H Q->t v σ H Q):PG X e t':=fun pins s σ H v u Q I r q=>h pins s σ H v u Q I r (w _ _ _ _ q)
theorem v85 {e:List Expr} {t t':TGs} (h:PGs X e t) (w:∀ v σ H Q,t' v σ H Q->t v σ H Q):PGs X e t':=fun pins s σ H v u Q I r q=>h pins s σ H v u Q I r (w _ _ _ _ q)
theorem vc1 {t t':TSet} (h:PSet X t) (w:∀ o i v H Q,t' o i v H Q->t o i v H Q):PSet X t':=fun pins s σ H o i v ov iv u Q I r1 r2 r3 q=>h pins s σ H o i v ov iv u Q I r1 r2 r3 (w _ _ _ _ _ q)
theorem vo4 {tg e:Expr} {t t':TI} (h:PI X tg e t) (w:∀ σ H R,t' σ H R->t σ H R):PI X tg e t':=fun pins s σ H R I q=>h pins s σ H R I (w _ _ _ q)
theorem u51 {f:Value->Value->Sem Value} {r r':R2} (h:OpR X f r) (w:∀ x y H Q,r' x y H Q->r x y H Q):OpR X f r':=fun pins s σ H x y v u Q I a b q=>h pins s σ H x y v u Q I a b (w _ _ _ _ q)
theorem vo1 {f:Value->Sem Value} {r r':V->Hp->VK->Prop} (h:UnR X f r) (w:∀ x H Q,r' x H Q->r x H Q):UnR X f r':=fun pins s σ H x v Q I a q=>h pins s σ H x v Q I a (w _ _ _ q)
theorem u60 {f:Value} {r r':List V->Hp->VK->Prop} (h:CallR X f r) (w:∀ x H Q,r' x H Q->r x H Q):CallR X f r':=fun pins s σ H x v Q I a q=>h pins s σ H x v Q I a (w _ _ _ q)
theorem ub2 {id:String} {r r':V->List V->Hp->VK->Prop} (h:MtR X id r) (w:∀ x xs H Q,r' x xs H Q->r x xs H Q):MtR X id r':=fun pins s σ H x xs v us Q I a b q=>h pins s σ H x xs v us Q I a b (w _ _ _ _ q)
theorem vo3 {r r':R2} (h:IxR X r) (w:∀ x y H Q,r' x y H Q->r x y H Q):IxR X r':=fun va sl pins s σ H x y v u Q I a b q=>h va sl pins s σ H x y v u Q I a b (w _ _ _ _ q)
theorem us6 {r r':V->Option Int->Option Int->Hp->VK->Prop} (h:SlR X r) (w:∀ x l u H Q,r' x l u H Q->r x l u H Q):SlR X r':=by
 intro pins s σ H x lo hi
 intros
 apply h <;> first | assumption | (apply w;assumption)
theorem vo2 {e:Option Expr} {t t':TO} (h:PO X e t) (w:∀ σ H Q,t' σ H Q->t σ H Q):PO X e t':=by
 intro pins s σ H Q I q;exact h pins s σ H Q I (w _ _ _ q)
theorem vc2 {e:List Expr} {t t':TT} (h:PIfs X e t) (w:∀ σ H Q,t' σ H Q->t σ H Q):PIfs X e t':=fun pins s σ H Q I q=>h pins s σ H Q I (w _ _ _ q)
end
def E3 (X:Cx) (e:Expr) (t:TE3):Prop:=PE X e (lowE X.K t)
def T3 (X:Cx) (e:Expr) (t:TT3):Prop:=PT X e (lowT X.K t)
def W3 (X:Cx) (e:Expr) (t:TT3):Prop:=PW X e (lowT X.K t)
def A3 (X:Cx) (es:List Expr) (t:TA3):Prop:=PA X es (lowA X.K t)
def S3 (X:Cx) (st:Stmt) (t:TS3):Prop:=PS X st (lowS X.K t)
def Ss3 (X:Cx) (sts:List Stmt) (t:TS3):Prop:=PSs X sts (lowS X.K t)
def J3 (X:Cx) (e:Expr) (t:TG3):Prop:=PG X e (lowG X.K t)
def Js3 (X:Cx) (es:List Expr) (t:TGs3):Prop:=PGs X es (v55 X.K t)
def I3 (X:Cx) (tg e:Expr) (t:TI3):Prop:=PI X tg e (lowI X.K t)
def O3 (X:Cx) (e:Option Expr) (t:TO3):Prop:=PO X e (lowO X.K t)
def Ifs3 (X:Cx) (es:List Expr) (t:TT3):Prop:=PIfs X es (lowT X.K t)
abbrev Op3 (X:Cx) (f:Value->Value->Sem Value) (r:R3):Prop:=OpR X f (lowR X.K r)
abbrev Call3 (X:Cx) (f:Value) (r:C3):Prop:=CallR X f (lowC X.K r)
section
variable {X:Cx} {a b c e o:Expr} {es:List Expr} {pos apos cpos p p2:Pos} {ta tb tc te:TE3} {t u:TT3} {ts us:TA3}
theorem ev (i:Nat) {x:Str} {pos:Pos} (hN:X.N[i]?=some x:=by rfl) (hv:Vis X.env.scope x:=by first | exact Or.inl rfl | exact Or.inr (Or.inl rfl) | exact Or.inr (Or.inr rfl)) (hd:(x == ("__debug__" : Str))=false:=by decide)
  (hcd:(x == ("__classdict__" : Str))=false:=by decide):E3 X (.Name x pos) (dVar i):=u32 (va0 hN hv hd hcd) fun _ _ _=>vh9
theorem u04 {i j pos}:E3 X (.Constant (.int i) j pos) (dC (.int i)):=u32 vs1 fun _ _ _=>uq5 fun _=>by rw [RelD]
theorem e_bl {i j pos}:E3 X (.Constant (.bool i) j pos) (dC (.bl i)):=u32 w45 fun _ _ _=>uq5 fun _=>by rw [RelD]
theorem uy9 {j pos}:E3 X (.Constant .none j pos) (dC .non):=u32 vr9 fun _ _ _=>uq5 fun _=>by rw [RelD]
theorem u12 {x j pos}:E3 X (.Constant (.str x) j pos) (dC (.str x)):=u32 vr7 fun _ _ _=>uq5 fun _=>by rw [RelD]
theorem vz4 {x:Str} {d:D} {v:V} {w:Value} (hg:Gl X x) (hm:X.mg x=some w) (r:RelV v w) (rd:∀ H,RelD X.K H d v) (hd:(x == ("__debug__" : Str))=false:=by decide):E3 X (.Name x pos) (dC d) :=
 u32 (vg8 hg hm r hd) fun _ _ _=>uq5 rd
theorem u10 {op:Operator} {r:R3} (ho:Op3 X (binaryOp op) r) (ha:E3 X a ta) (hb:E3 X b tb):E3 X (.BinOp a op b pos) (dOp r ta tb):=u32 (w43 ho ha hb) fun _ _ _=>un6
theorem e_un {op:UnaryOp} {r:U3} (ho:UnR X (unaryOp op) (lowU X.K r)) (ha:E3 X a ta):E3 X (.UnaryOp op a pos) (dUn r ta):=u32 (w42 ho ha) fun _ _ _=>vw8
theorem ul4 {op:CmpOp} {r:R3} (ho:Op3 X (compareOp op) r) (ha:E3 X a ta) (hb:E3 X b tb) (hm:behindInMarks op b=false):E3 X (.Compare a [op] [b] pos) (dOp r ta tb):=u32 (vg9 ho ha hb hm) fun _ _ _=>un6
theorem u20 {op:CmpOp} {r:R3} (ho:Op3 X (compareOp op) r) (ha:E3 X a ta) (hb:E3 X b tb) (hm:behindInMarks op b=false):T3 X (.Compare a [op] [b] pos) (dB (dOp r ta tb)) :=
 vc0 (vf9 ho ha hb hm) fun σ H Q h=>by
  obtain ⟨σd,G,q,rs,c,t,f⟩:=h;exact un6 (K:=X.K) ⟨σd,G,_,rs,c,t,fun x G1 v H1 r1 c1 l1 t1=>by
   split at t1
   ·rename_i k
    exact ⟨k,r1.bl_inv,f _ _ _ c1 l1 t1⟩
   ·exact t1.elim⟩
theorem up9 (h:E3 X e te) (he:∀ whole,isTrue e X.env whole=(do let v <- whole;standAt e.pos;holding [v] (truthy v)):=by intro _;rfl):T3 X e (dB te):=vc0 (vq7 h he) fun _ _ _=>w51
theorem u87 (ha:T3 X a t):W3 X (.BoolOp .And [a] pos) t:=vf8 ha
theorem vo6 (ha:T3 X a t):W3 X (.BoolOp .Or [a] pos) t:=vq5 ha
theorem w_and {rest:List Expr} (ha:T3 X a t) (hb:W3 X (.BoolOp .And (b::rest) pos) u):W3 X (.BoolOp .And (a::b::rest) pos) (dAnd t u):=vo0 (vq6 ha hb) fun _ _ _=>v54
theorem w_or {rest:List Expr} (ha:T3 X a t) (hb:W3 X (.BoolOp .Or (b::rest) pos) u):W3 X (.BoolOp .Or (a::b::rest) pos) (dOr t u):=vo0 (w39 ha hb) fun _ _ _=>vi3
theorem t_w (h:W3 X e t):T3 X e t:=PW.pt h
theorem w27 (ha:T3 X a t):T3 X (.UnaryOp .Not a pos) (dNot t):=vc0 (vq8 ha) fun _ _ _=>v47
theorem w54 {op} (h:E3 X a ta):E3 X (.BoolOp op [a] pos) ta:=vr8 h
theorem vz8 {rest:List Expr} (ha:E3 X a ta) (hb:E3 X (.BoolOp .And (b::rest) pos) tb):E3 X (.BoolOp .And (a::b::rest) pos) (v70 ta tb):=u32 (vs3 ha hb) fun _ _ _=>v53
theorem u03:A3 X [] dNil:=vo5 un2 fun _ _ _=>vi4
theorem u00 (ha:E3 X e te) (hr:A3 X es ts) (hs:starEach (e::es) X.env=(false,eval e X.env)::starEach es X.env:=by rfl):A3 X (e::es) (vl1 te ts):=vo5 (u83 ha hr hs) fun _ _ _=>v51
theorem u44 {x1} (h:A3 X es ts):E3 X (.Tuple es x1 pos) (dTup ts):=u32 (vr6 h) fun _ _ _=>vi0
theorem u28 (h:A3 X es ts):E3 X (.List es pos) (dLst ts):=u32 (vs0 h) fun _ _ _=>vi5
theorem e_ix {r:R3} (hr:IxR X (lowR X.K r)) (ha:E3 X a ta) (hb:E3 X b tb) (hs:v14 b:=by exact fun _ _=>rfl):E3 X (.Subscript a b pos) (dOp r ta tb):=u32 (w44 hr ha hb hs) fun _ _ _=>un6
theorem ua0:O3 X none ul5:=vo2 vg4 fun _ _ _=>uq4
theorem u79 (h:E3 X e te):O3 X (some e) (vk8 te):=vo2 (vg3 h) fun _ _ _=>v46
theorem e_sl {r:RS3} {lo hi:Option Expr} {tl th:TO3} (hr:SlR X (uw7 X.K r)) (he:E3 X e te) (hl:O3 X lo tl) (hu:O3 X hi th):E3 X (.Subscript e (.Slice lo hi none p2) pos) (dSl r te tl th):=u32 (v34 hr he hl hu) fun _ _ _=>vw9
end
section
variable {X:Cx} {a b c e o value:Expr} {es:List Expr} {st:Stmt} {sts sts2:List Stmt} {pos pos' spos tpos:Pos} {te ta tv:TE3} {t:TT3} {s1 s2:TS3} {g:TG3}
theorem u25:Ss3 X [] vk9:=v84 vg0 fun _ _ _=>v48
theorem u02 (h1:S3 X st s1) (h2:Ss3 X sts s2):Ss3 X (st::sts) (dSeq s1 s2):=v84 (ua8 h1 h2) fun _ _ _=>vi1
theorem u06 (h1:S3 X st s1):Ss3 X [st] s1:=ug1 h1
theorem u59 (he:E3 X e te) (hs:swapsWith e none pos.line X.env=pure false:=by rfl):S3 X (.Expr e pos) (ur1 te):=ud3 (ug2 he hs) fun _ _ _=>un7
theorem u26 (he:E3 X e te):S3 X (.Return (some e) pos) (dRet te):=ud3 (vr0 he) fun _ _ _=>vi2
theorem s_if (hc:T3 X c t) (ha:Ss3 X sts s1) (hb:Ss3 X sts2 s2):S3 X (.If c sts sts2 pos) (dIfS t s1 s2):=ud3 (w40 hc ha hb) fun _ _ _=>vi6
theorem u29 (i:Nat) {x:Str} (hN:X.N.Nodup) (hi:X.N[i]?=some x:=by rfl) (hx:Loc X.env.scope x:=by first | exact Or.inl rfl | exact Or.inr rfl) (hf:X.fn x=true \/ X.env.scope.names.lookup x=some .local:=by first | exact .inl rfl | exact .inr rfl | assumption):J3 X (.Name x pos) (uk9 i) :=
 vc3 (vg6 hN hi hx hf) fun _ _ _ _=>uw1
theorem ux4:Js3 X [] jNil:=v85 vg5 fun _ _ _ _=>v50
theorem u62 {t:TG3} {u:TGs3} (h1:J3 X e t) (h2:Js3 X es u) (hs:(assignEach (e::es) X.env).map (·.2)=assign e X.env::(assignEach es X.env).map (·.2):=by rfl):Js3 X (e::es) (vj4 t u):=v85 (v33 h1 h2 hs) fun _ _ _ _=>uw2
theorem ux5 {i:Expr} {to ti:TE3} {t:TSet3} (ho:E3 X o to) (hi:E3 X i ti) (hs:PSet X (uw6 X.K t))
  (ha:∀ v,assign (.Subscript o i pos) X.env v=(do
   let ov <- holding [v] (eval o X.env)
   let iv <- holding [v,ov] (eval i X.env)
   standAt pos
   holding [v,ov,iv] (setItem ov iv v)
   release [v,ov,iv] []):=by intro _;rfl):J3 X (.Subscript o i pos) (jSub to ti t):=vc3 (vr5 ho hi hs ha) fun _ _ _ _=>v49
theorem ui2 {tg:Expr} (he:E3 X e te) (hg:J3 X tg g) (hs:swapsWithSole [tg] e pos.line X.env=pure false:=by rfl) (hw:swappedStores [tg] e X.env=pure none:=by rfl)
  (h1:(assignEach [tg] X.env).map (·.2)=[assign tg X.env]:=by rfl):S3 X (.Assign [tg] e pos) (dAsg te g):=ud3 (vr2 he hg hs hw h1) fun _ _ _=>vi8
theorem u09 (i:Nat) {x:Str} (hN:X.N.Nodup) (he:E3 X e te) (hi:X.N[i]?=some x:=by rfl) (hx:Loc X.env.scope x:=by first | exact Or.inl rfl | exact Or.inr rfl) (hs:swapsWith e (some (.Name x pos')) pos.line X.env=pure false:=by rfl)
  (hf:X.fn x=true \/ X.env.scope.names.lookup x=some .local:=by first | exact .inl rfl | exact .inr rfl | assumption):S3 X (.Assign [.Name x pos'] e pos) (dAsg te (uk9 i)) :=
 ud3 (vq9 hN hi hx he hs hf) fun D σ H h=>by
  obtain ⟨σd,G,q,rs,c,t,f⟩:=h;exact ⟨σd,G,_,rs,c,t,fun x G1 v H1 r1 c1 l1 t1=>f.nx _ _ _ _ ((rs.le l1).set i r1) c1 l1 t1⟩
theorem vd1 {body:List Stmt} (hc:T3 X c t) (hb:Ss3 X body s1) (hp:PassesOwn (model X.prog X.w) X.A X.env X.xe:=by exact PassesOwn.never):S3 X (.While c body [] pos) (uo8 t s1):=ud3 (v29 hp hc hb) fun _ _ _=>uv9
theorem ub4 {tg iter:Expr} {body:List Stmt} {wi:TI3} (hi:I3 X tg iter wi) (hg:J3 X tg g) (hb:Ss3 X body s1) (hc:X.calm=true:=by rfl) (hp:PassesOwn (model X.prog X.w) X.A X.env X.xe:=by exact PassesOwn.never)
  (hs:∀ x,foldedSetIterable iter X.env x=pure x:=by intro _;rfl):S3 X (.For tg iter body [] pos) (dFor wi g s1):=ud3 (vr1 hp hc hi hg hb hs) fun _ _ _=>vi7
end
theorem uw0 {K:W.Frag} {σ:L2.St} {H:Hp} {ta:TA3} {R:It->Hp->Prop} (h:lowI K (fun σ G r=>ta σ G fun ds G1=>match ds with | [.int j]=>(-(2 ^ 62)<=j /\ j < 2 ^ 62) /\ r ⟨rngD 0 j.toNat,fun _=>True⟩ G1 | _=>False) σ H R):vy5 (lowA K ta) σ H R:=by
 obtain ⟨σd,G,q,rs,c,t,f⟩:=h;refine ⟨σd,G,_,rs,c,t,fun ds G1 vs H1 r1 c1 l1 t1=>?_⟩;split at t1
 ·rename_i j
  obtain ⟨x,r,rfl,rx,rr⟩:=r1.inv_cons;rw [RelD] at rx;subst rx;rw [rr.inv_nil];exact ⟨j,rfl,t1.1.1,t1.1.2,f _ _ _ _ ul0 c1 l1 t1.2⟩
 ·exact t1.elim
def vo7 (ta:TA3):TI3:=fun σ G r=>ta σ G fun ds G1=>match ds with | [.int j]=>(-(2 ^ 62)<=j /\ j < 2 ^ 62) /\ r ⟨rngD 0 j.toNat,fun _=>True⟩ G1 | _=>False
def w26 (ta:TA3):TI3:=fun σ G r=>ta σ G fun ds G1=>match ds with | [.int i,.int j]=>(-(2 ^ 62)<=i /\ i < 2 ^ 62 /\ -(2 ^ 62)<=j /\ j < 2 ^ 62) /\ r ⟨rngD i (j - i).toNat,fun _=>True⟩ G1 | _=>False
section
variable {X:Cx} {a b e o tg:Expr} {es:List Expr} {p pos apos cpos:Pos} {ta:TE3} {ts:TA3}
theorem uj2 (hg:Gl X "range") (hm:X.mg "range" = none) (ha:A3 X [a] ts) (hs:starEach [a] X.env=[(false,eval a X.env)]:=by rfl):I3 X tg (.Call (.Name "range" p) [a] [] pos) (vo7 ts):=vo4 (uu5 hg hm ha hs) fun _ _ _=>uw0
variable {k:Nat} {f C:Addr} {fd:FuncData} {ps:List Str} {S:Sp3} {dds:List D} {dvs:List V} {ds:List Value} {x m:Str}
theorem vz7 (F:FnOk X.prog X.w X.K X.mg X.base CX0 k f fd ps (u97 X.K S)) (hr:Room k X.A) (hg:Gl X x) (hm:X.mg x=some (.ref f)) (hk:W.keepIn X.K (.ref f)=true) (hb:Binds X.K fd ps ds) (hd:Vals dvs ds) (hdd:∀ H,RelDs X.K H dds dvs)
  (ha:A3 X (e::es) ts) (hdb:(x == ("__debug__" : Str))=false:=by decide) (he:starEach (e::es) X.env=(false,eval e X.env)::starEach es X.env:=by rfl) (hpl:(backTo pos (starEach es X.env)).any (·.1)=false:=by rfl) :
  E3 X (.Call (.Name x p) (e::es) [] pos) (dCall S dds ts):=u32 (uu7 F hr hg hm hk hb hd pass0 ha hdb he hpl) fun _ _ _=>un8 hdd
variable {id T:String} {r:C3} {rm:M3} {name:Str}
theorem u13 (hc:Call3 X (.builtin id) r) (hg:Gl X x) (hm:X.mg x=none) (hv:bootBuiltins x=some (.builtin id)) (ha:A3 X (e::es) ts) (hn:x ≠ "__name__" := by decide) (hdb:(x == ("__debug__" : Str))=false:=by decide)
  (he:starEach (e::es) X.env=(false,eval e X.env)::starEach es X.env:=by rfl) (hpl:(backTo pos (starEach es X.env)).any (·.1)=false:=by rfl):E3 X (.Call (.Name x p) (e::es) [] pos) (dCB r ts) :=
 u32 (v38 hc hg hm hv ha hn hdb he hpl) fun _ _ _=>va5
theorem u45 (hc:Call3 X (.type T) r) (hg:Gl X x) (hm:X.mg x=none) (hv:bootBuiltins x=some (.type T)) (ha:A3 X (e::es) ts) (hn:x ≠ "__name__" := by decide) (hdb:(x == ("__debug__" : Str))=false:=by decide)
  (he:starEach (e::es) X.env=(false,eval e X.env)::starEach es X.env:=by rfl) (hpl:(backTo pos (starEach es X.env)).any (·.1)=false:=by rfl):E3 X (.Call (.Name x p) (e::es) [] pos) (dCB r ts) :=
 u32 (uu6 hc hg hm hv ha hn hdb he hpl) fun _ _ _=>va5
end
def ue1 (ix:List (Option Nat)) (σ:DSt):DSt:=ix.map fun o=>o.bind fun j=>(σ[j]?).bind id
def uh1 (ok:Gp->Prop) (g:TG3) (tc:TT3) (te:TE3) (p:Addr) (q:DK):List D->DSt->Gp->Prop
 | [],_,G=>ok G /\ q (.ref p) G
 | x::r,σ,G=>ok G /\ g x σ G fun σ2 G2=>tc σ2 G2 fun b G3 =>
  if b=true then te σ2 G3 fun d G4=>(match G4 p with | some (.lst ys)=>ys.length < sizeLine /\ uh1 ok g tc te p q r σ2 (gup G4 p (.lst (ys++[d]))) | _=>False)
  else uh1 ok g tc te p q r σ2 G3
def vl2 (ix:List (Option Nat)) (wi:TI3) (g:TG3) (tc:TT3) (te:TE3):TE3:=fun σ G q=>wi σ G fun it G1=>∀ p,G1 p=none->uh1 it.ok g tc te p q it.items (ue1 ix σ) (gup G1 p (.lst []))
theorem RelSt.inn {K:W.Frag} {H:Hp} {σd:DSt} {σ:L2.St} (h:RelSt K H σd σ) (ix:List (Option Nat)):RelSt K H (ue1 ix σd) (L2.inner ix σ):=by
 refine ⟨by unfold ue1 L2.inner;rw [List.length_map,List.length_map],fun i d e=>?_⟩;unfold ue1 at e;unfold L2.inner;rw [List.getElem?_map] at e ⊢;cases ho:ix[i]? with
 | none=>rw [ho] at e;cases e
 | some o =>
  rw [ho] at e;cases o with
  | none=>cases e
  | some j =>
   have e:(σd[j]?).bind id=some d:=Option.some.inj e;have e:σd[j]?=some (some d):=by
    cases hs:σd[j]? with
    | none=>rw [hs] at e;cases e
    | some w=>rw [hs] at e;cases e;rfl
   obtain ⟨v,hv,r⟩:=h.2 j d e;exact ⟨v,by show some ((σ[j]?).bind id)=_;rw [hv];rfl,r⟩
theorem v52 {K:W.Frag} {ix:List (Option Nat)} {wi:TI3} {g:TG3} {tc:TT3} {te:TE3} {σ:L2.St} {H:Hp} {Q:VK} (h:lowE K (vl2 ix wi g tc te) σ H Q):vp3 ix (lowI K wi) (lowG K g) (lowT K tc) (lowE K te) σ H Q:=by
 obtain ⟨σd,G,q,rs,cc,t,f⟩:=h;refine ⟨σd,G,_,rs,cc,t,fun it J G1 H1 ir c1 l1 t1=>?_⟩;intro p hp;have t1:=t1 p (c1.fresh hp);have c2:Con K (gup G1 p (.lst [])) (upd H1 p (.lst [])):=c1.lstNew hp .nil;have l2:Le H1 (upd H1 p (.lst [])):=Le.fresh hp;refine ⟨fun i m σ' H'=>∃ σd' G',Le (upd H1 p (.lst [])) H' /\ RelSt K H' σd' σ' /\ Con K G' H' /\ i+m=it.items.length /\ uh1 it.ok g tc te p q (it.items.drop i) σd' G',
  ⟨it.items.length,ue1 ix σd,_,Le.refl _,(rs.le (l1.trans l2)).inn ix,c2,by omega,by rw [List.drop_zero];exact t1⟩,?_⟩
 rintro i m σ2 H2 ⟨σd2,G2,l3,rs2,c2,e2,t2⟩;have l12:Le H1 H2:=l2.trans l3
 by_cases hi:i < it.items.length
 ·rw [List.drop_eq_getElem_cons hi] at t2
  obtain ⟨ok2,t2⟩:=t2;refine .inr ⟨ir.go i G2 H2 l12 c2 ok2 hi,fun σ' H'=>∃ σd' G',Le (upd H1 p (.lst [])) H' /\ RelSt K H' σd' σ' /\ Con K G' H' /\ uh1 it.ok g tc te p q (it.items.drop (i+1)) σd' G',?_,?_⟩
  ·rintro σ' H' ⟨σd',G',a1,a2,a3,a4⟩
   exact ⟨m - 1,by omega,σd',G',a1,a2,a3,by omega,a4⟩
  ·intro x H3 y
   obtain ⟨c3,l4,e,he,r3⟩:=ir.yld i G2 H2 x H3 l12 c2 ok2 hi y;rw [List.getElem?_eq_getElem hi] at he;cases he;refine ⟨_,σd2,G2,_,r3,rs2.le l4,c3,t2,fun σd4 G4 σ4 H4 rs4 c4 l5 t4=>?_⟩;refine ⟨σd4,G4,_,rs4,c4,t4,fun b G5 H5 c5 l6 t5=>?_⟩;cases b with
   | false =>
    rw [if_neg Bool.false_ne_true] at t5 ⊢;exact ⟨σd4,G5,l3.trans (l4.trans (l5.trans l6)),rs4.le l6,c5,t5⟩
   | true =>
    rw [if_pos rfl] at t5 ⊢;refine ⟨σd4,G5,_,rs4.le l6,c5,t5,fun d G6 v H6 r6 c6 l7 t6=>?_⟩;split at t6
    ·rename_i ys eg
     obtain ⟨xs,ex,rx⟩:=c6 p _ eg;have l8:=Le.lst (ys:=xs++[v]) ex;exact ⟨xs,ex,by rw [<- rx.length];exact t6.1,σd4,_,l3.trans (l4.trans (l5.trans (l6.trans (l7.trans l8)))),rs4.le (l6.trans (l7.trans l8)),c6.lstSet ex (rx.append (.cons r6 .nil)),t6.2⟩
    ·exact t6.elim
 ·rw [List.drop_eq_nil_of_le (by omega)] at t2
  exact .inl ⟨ir.stop i G2 H2 l12 c2 t2.1 (by omega),f _ _ _ _ RelD.refI c2 (l1.trans l12) t2.2⟩
def dYes:TT3:=fun _ G q=>q true G
section
variable {X:Cx} {elt tg iter:Expr} {ifs:List Expr} {scope:Scope} {pos:Pos} {N':List Str} {ix:List (Option Nat)} {wi:TI3} {g:TG3} {tc:TT3} {te:TE3}
theorem vj8:Ifs3 X [] dYes:=vc2 v31 fun σ H Q h=>by
 obtain ⟨σd,G,q,rs,c,t,f⟩:=h;exact f _ _ _ c (Le.refl H) t
theorem vp7 (i:Nat) {y:Str} {py spos:Pos} (hN:X.N.Nodup) (B:BlkOk X N' ix scope) (hw:I3 X tg iter wi) (hg:∀ C s H fp,J3 (u73 X N' scope C s H fp) tg g) (hi:∀ C s H fp,Ifs3 (u73 X N' scope C s H fp) ifs tc) (he:∀ C s H fp,E3 (u73 X N' scope C s H fp) elt te)
  (hy:X.N[i]?=some y:=by rfl) (hl:Loc X.env.scope y:=by first | exact Or.inl rfl | exact Or.inr rfl)
  (hc:X.calm=true:=by rfl) (hsw:swapsWith (.ListComp elt [⟨tg,iter,ifs,0⟩] scope pos) (some (.Name y py)) spos.line X.env=pure true:=by rfl)
  (hf:X.fn y=true \/ X.env.scope.names.lookup y=some .local:=by first | exact .inl rfl | exact .inr rfl | assumption)
  (hs:∀ x,foldedSetIterable iter X.env x=pure x:=by intro _;rfl):S3 X (.Assign [.Name y py] (.ListComp elt [⟨tg,iter,ifs,0⟩] scope pos) spos) (dAsg (vl2 ix wi g tc te) (uk9 i)) :=
 ud3 (vg1 (g:=lowG X.K g) (tc:=lowT X.K tc) (te:=lowE X.K te) B hc hN hy hl hw hg hi he hsw hf hs) fun D σ H h=>by
  obtain ⟨σd,G,d,rs,c,t,f⟩:=h;exact v52 (K:=X.K) ⟨σd,G,_,rs,c,t,fun x G1 v H1 r1 c1 l1 t1=>f.nx _ _ _ _ ((rs.le l1).set i r1) c1 l1 t1⟩
end
def xAdd:R3:=fun x y G q=>match x,y with
 | .int i,.int j=>q (.int (i+j)) G
 | .str a,.str b=>a.length+b.length<=sizeLine /\ q (.str (a++b)) G
 | .tup a,.tup b=>a ≠ [] /\ a.length+b.length<=sizeLine /\ q (.tup (a++b)) G
 | .ref a,.ref b=>(match G a,G b with
  | some (.lst xs),some (.lst ys)=>xs.length+ys.length<=sizeLine /\ ∀ p,G p=none->q (.ref p) (gup G p (.lst (xs++ys)))
  | _,_=>False)
 | _,_=>False
def xInt (f:Int->Int->Int):R3:=fun x y G q=>match x,y with | .int i,.int j=>q (.int (f i j)) G | _,_=>False
def uf6 (C:Int->Int->Prop) (f:Int->Int->Int):R3:=fun x y G q=>match x,y with | .int i,.int j=>C i j /\ q (.int (f i j)) G | _,_=>False
def xSub:R3:=xInt fun i j=>i - j
def xMul:R3:=fun x y G q=>match x,y with
 | .int i,.int j=>CMul i j /\ q (.int (i * j)) G
 | .ref a,.int k=>(match G a with
  | some (.lst xs)=>(-(2 ^ 63)<=k /\ k < 2 ^ 63 /\ xs.length * k.toNat<=sizeLine) /\ ∀ p,G p=none->q (.ref p) (gup G p (.lst (List.replicate k.toNat xs).flatten))
  | _=>False)
 | _,_=>False
def w13 (_ j:Int):Prop:=0 < j /\ j < 18446744073709551616
def xDiv:R3:=uf6 w13 fun i j=>i / j
def xMod:R3:=uf6 (fun _ j=>0 < j) fun i j=>i % j
def xPow:R3:=uf6 CPow fun i j=>i ^ j.toNat
def xShl:R3:=uf6 CPow fun i j=>i * 2 ^ j.toNat
def xShr:R3:=uf6 (fun _ j=>0<=j) fun i j=>i / 2 ^ j.toNat
def xAnd:R3:=xInt Builtin.bitAnd
def xOr:R3:=xInt Builtin.bitOr
def xXor:R3:=xInt Builtin.bitXor
def xLt:R3:=fun x y G q=>match x,y with | .int i,.int j=>q (.bl (decide (i < j))) G | .str a,.str b=>q (.bl (decide (a.cps.toList < b.cps.toList))) G | _,_=>False
def xLe:R3:=fun x y G q=>match x,y with | .int i,.int j=>q (.bl (decide (i<=j))) G | _,_=>False
def xGt:R3:=fun x y G q=>match x,y with | .int i,.int j=>q (.bl (decide (j < i))) G | _,_=>False
def xGe:R3:=fun x y G q=>match x,y with | .int i,.int j=>q (.bl (decide (j<=i))) G | _,_=>False
section
variable {X:Cx} {K:W.Frag} {H:Hp}
theorem RelD.int_inv {i:Int} {v:V} (h:RelD K H (.int i) v):v=.int i:=by rw [RelD] at h;exact h
theorem RelD.str_inv {i:Str} {v:V} (h:RelD K H (.str i) v):v=.str i:=by rw [RelD] at h;exact h
theorem RelD.non_inv {v:V} (h:RelD K H .non v):v=.non:=by rw [RelD] at h;exact h
theorem RelD.tup_inv {ds:List D} {v:V} (h:RelD K H (.tup ds) v):∃ a xs,v=.ref a /\ SqT K H a xs /\ RelDs K H ds xs:=by rw [RelD] at h;exact h
theorem RelD.intI {i:Int}:RelD K H (.int i) (.int i):=by rw [RelD]
theorem RelD.strI {i:Str}:RelD K H (.str i) (.str i):=by rw [RelD]
theorem RelD.blI {i:Bool}:RelD K H (.bl i) (.bl i):=by rw [RelD]
theorem RelD.nonI:RelD K H .non .non:=by rw [RelD]
theorem w22 {f:Value->Value->Sem Value} {g:Int->Int->Int} (h:OpR X f (rI0 fun i j=>.int (g i j))):Op3 X f (xInt g):=u51 h fun x y H Q ⟨d,e,G,q,r1,r2,c,t,f⟩=>by
 unfold xInt at t;split at t
 ·exact ⟨_,_,r1.int_inv,r2.int_inv,f _ _ _ _ RelD.intI c (Le.refl H) t⟩
 ·exact t.elim
theorem um4 {f:Value->Value->Sem Value} {C:Int->Int->Prop} {g:Int->Int->Int} (h:OpR X f (rI C fun i j=>.int (g i j))):Op3 X f (uf6 C g):=u51 h fun x y H Q ⟨d,e,G,q,r1,r2,c,t,f⟩=>by
 unfold uf6 at t;split at t
 ·exact ⟨_,_,r1.int_inv,r2.int_inv,t.1,f _ _ _ _ RelD.intI c (Le.refl H) t.2⟩
 ·exact t.elim
theorem up6:Op3 X (binaryOp .Sub) xSub:=w22 vs4
theorem v39:OpR X (binaryOp .FloorDiv) (rI w13 fun i j=>.int (i / j)):=opI fun i j _ _ _ _ _ hc q=>by
 have hl:j.natAbs.log2 < 9000:=by
  have h1:=hc.1;have h2:=hc.2;have hn:j.natAbs ≠ 0:=by omega
  have:j.natAbs.log2 < 64:=(Nat.log2_lt hn).mpr (by omega);omega
 refine floordiv_int (by have:=hc.1;omega) ?_ (.inl (PyProof.noPylong_of_log2 hl));rw [Int.fdiv_eq_ediv_of_nonneg i (by have:=hc.1;omega)];exact q
theorem vn5:Op3 X (binaryOp .FloorDiv) xDiv:=um4 v39
theorem ua2:Op3 X (binaryOp .Mod) xMod:=um4 vs9
theorem w20:Op3 X (binaryOp .Pow) xPow:=um4 vs7
theorem uk0:Op3 X (binaryOp .LShift) xShl:=um4 vs5
theorem u35:Op3 X (binaryOp .Add) xAdd:=u51 (op_add.or (op_add_str.or (op_catT.or vt3))) <| by
 rintro x y H Q ⟨d,e,G,q,r1,r2,c,t,f⟩;unfold xAdd at t;split at t
 ·exact .inl ⟨_,_,r1.int_inv,r2.int_inv,f _ _ _ _ RelD.intI c (Le.refl H) t⟩
 ·exact .inr (.inl ⟨_,_,r1.str_inv,r2.str_inv,t.1,f _ _ _ _ RelD.strI c (Le.refl H) t.2⟩)
 ·obtain ⟨a,xs,rfl,s1,q1⟩:=r1.tup_inv
  obtain ⟨b,ys,rfl,s2,q2⟩:=r2.tup_inv;refine .inr (.inr (.inl ⟨a,b,xs,ys,rfl,rfl,s1,s2,fun z=>t.1 ?_,by rw [<- q1.length,<- q2.length];exact t.2.1,fun z=>?_,fun _ p hp=>?_⟩))
  ·have:=q1.length;rw [z] at this;exact List.eq_nil_of_length_eq_zero this
  ·refine f (.tup _) G (.ref a) _ ?_ c (Le.refl _) t.2.2
   rw [RelD];subst z;have e:∀ {bs:List D},RelDs X.K H bs []->bs=[]:=fun h=>List.eq_nil_of_length_eq_zero h.length
   rw [e q2,List.append_nil];exact ⟨a,_,rfl,s1,q1⟩
  ·refine f (.tup _) G (.ref p) _ ?_ (c.side hp) (Le.fresh hp) t.2.2
   rw [RelD];exact ⟨p,_,rfl,SqT.of u18,RelDs.le (Le.fresh hp) (q1.append q2)⟩
 ·rename_i a b
  split at t
  ·rename_i xs ys e1 e2
   obtain ⟨vs,h1,q1⟩:=c _ _ e1;obtain ⟨ws,h2,q2⟩:=c _ _ e2;exact .inr (.inr (.inr ⟨a,b,vs,ws,r1.ref_inv,r2.ref_inv,h1,h2,by rw [<- q1.length,<- q2.length];exact t.1,fun p hp=>f _ _ _ _ RelD.refI (c.lstNew hp (q1.append q2)) (Le.fresh hp) (t.2 p (c.fresh hp))⟩))
  ·exact t.elim
 ·exact t.elim
theorem ua1:Op3 X (binaryOp .Mult) xMul:=u51 (op_mul.or vs6) <| by
 rintro x y H Q ⟨d,e,G,q,r1,r2,c,t,f⟩;unfold xMul at t;split at t
 ·exact .inl ⟨_,_,r1.int_inv,r2.int_inv,t.1,f _ _ _ _ RelD.intI c (Le.refl H) t.2⟩
 ·rename_i a k
  split at t
  ·rename_i xs e1
   obtain ⟨vs,h1,q1⟩:=c _ _ e1;refine .inr ⟨a,k,vs,r1.ref_inv,r2.int_inv,h1,t.1.1,t.1.2.1,by rw [<- q1.length];exact t.1.2.2,?_⟩;intro p hp;exact f _ _ _ _ RelD.refI (c.lstNew hp (q1.rep _)) (Le.fresh hp) (t.2 p (c.fresh hp))
  ·exact t.elim
 ·exact t.elim
theorem us3 {f:Value->Value->Sem Value} {g:Int->Int->Bool} (h:OpR X f (rI0 fun i j=>.bl (g i j))):Op3 X f (fun x y G q=>match x,y with | .int i,.int j=>q (.bl (g i j)) G | _,_=>False):=u51 h fun x y H Q ⟨d,e,G,q,r1,r2,c,t,f⟩=>by
 dsimp only at t;split at t
 ·exact ⟨_,_,r1.int_inv,r2.int_inv,f _ _ _ _ RelD.blI c (Le.refl H) t⟩
 ·exact t.elim
theorem x_le:Op3 X (compareOp .LtE) xLe:=us3 w46
theorem x_gt:Op3 X (compareOp .Gt) xGt:=us3 w47
theorem x_ge:Op3 X (compareOp .GtE) xGe:=us3 w48
theorem x_lt:Op3 X (compareOp .Lt) xLt:=u51 (op_lt.or uu9) <| by
 rintro x y H Q ⟨d,e,G,q,r1,r2,c,t,f⟩;unfold xLt at t;split at t
 ·exact .inl ⟨_,_,r1.int_inv,r2.int_inv,f _ _ _ _ RelD.blI c (Le.refl H) t⟩
 ·exact .inr ⟨_,_,r1.str_inv,r2.str_inv,f _ _ _ _ RelD.blI c (Le.refl H) t⟩
 ·exact t.elim
theorem RelD.not_non {d:D} {v:V} (h:RelD K H d v) (n:d ≠ .non):v ≠ .non:=by
 cases d with
 | non=>exact absurd rfl n
 | bl _=>rw [h.bl_inv];exact fun z=>nomatch z
 | int _=>rw [h.int_inv];exact fun z=>nomatch z
 | str _=>rw [h.str_inv];exact fun z=>nomatch z
 | ref _=>rw [h.ref_inv];exact fun z=>nomatch z
 | ty _=>rw [RelD] at h;rw [h];exact fun z=>nomatch z
 | tup _=>obtain ⟨a,xs,e,_⟩:=h.tup_inv;rw [e];exact fun z=>nomatch z
def xNeg:U3:=fun x G q=>match x with | .int i=>q (.int (-i)) G | _=>False
theorem v17:UnR X (unaryOp .USub) (lowU X.K xNeg):=vo1 vo8 <| by
 rintro x H Q ⟨d,G,q,r1,c,t,f⟩;unfold xNeg at t;split at t
 ·exact ⟨_,r1.int_inv,f _ _ _ _ RelD.intI c (Le.refl H) t⟩
 ·exact t.elim
def xIx:R3:=fun x y G q=>match x,y with
 | .tup ds,.int i=>(match atI ds i with | some d=>q d G | none=>False)
 | .ref a,.int i=>(match u15 (G a) with | some ds=>(match atI ds i with | some d=>q d G | none=>False) | none=>False)
 | .str z,.int i=>z.length<=sizeLine /\ (match atI z.cps.toList i with | some c=>q (.str ⟨#[c]⟩) G | none=>False)
 | _,_=>False
theorem RelDs.atI {ds:List D} {xs:List V} {i:Int} {d:D} (h:RelDs K H ds xs) (e:L2.atI ds i=some d):∃ v,L2.atI xs i=some v /\ RelD K H d v:=by
 unfold L2.atI at e ⊢;rw [<- h.length];cases hj:ixN ds.length i with
 | none=>rw [hj] at e;cases e
 | some j =>
  rw [hj] at e;exact h.get e
theorem x_ix:IxR X (lowR X.K xIx):=vo3 vx8 <| by
 rintro x y H Q ⟨d,e,G,q,r1,r2,c,t,f⟩;unfold xIx at t;split at t
 ·rename_i ds i
  obtain ⟨a,xs,rfl,s1,q1⟩:=r1.tup_inv;split at t
  ·rename_i w ew
   obtain ⟨v,hv,rv⟩:=q1.atI ew;exact .inr (.inl ⟨a,xs,i,v,rfl,r2.int_inv,s1,hv,f _ _ _ _ rv c (Le.refl H) t⟩)
  ·exact t.elim
 ·rename_i a i
  split at t
  ·rename_i ds es
   obtain ⟨xs,s1,q1⟩:=u27 c es;split at t
   ·rename_i w ew
    obtain ⟨v,hv,rv⟩:=q1.atI ew;exact .inl ⟨a,xs,i,v,r1.ref_inv,r2.int_inv,s1,hv,f _ _ _ _ rv c (Le.refl H) t⟩
   ·exact t.elim
  ·exact t.elim
 ·rename_i z i
  obtain ⟨hz,t⟩:=t;split at t
  ·rename_i w ew
   exact .inr (.inr ⟨z,i,w,r1.str_inv,r2.int_inv,hz,ew,f _ _ _ _ RelD.strI c (Le.refl H) t⟩)
  ·exact t.elim
 ·exact t.elim
def cutD {α:Type} (xs:List α) (lo hi:Option Int):List α:=(xs.drop (HT.sIx xs.length 0 lo)).take (HT.sIx xs.length xs.length hi - HT.sIx xs.length 0 lo)
theorem RelDs.cut {ds:List D} {xs:List V} (h:RelDs K H ds xs) (lo hi:Option Int):RelDs K H (cutD ds lo hi) (cutV xs lo hi):=by
 unfold cutD cutV;rw [h.length];exact (h.drop _).take _
def xSet:TSet3:=fun o i v G q=>match o,i with
 | .ref a,.int k=>(match G a with | some (.lst ds)=>(match ixN ds.length k with | some j=>q (gup G a (.lst (ds.set j v))) | none=>False) | _=>False)
 | _,_=>False
theorem us1:PSet X (uw6 X.K xSet):=vc1 set_list <| by
 rintro o i v H Q ⟨d,e,x,G,q,r1,r2,r3,c,t,f⟩;unfold xSet at t;split at t
 ·rename_i a k
  split at t
  ·rename_i ds e1
   obtain ⟨xs,h1,q1⟩:=c _ _ e1;split at t
   ·rename_i j ej
    exact ⟨a,xs,k,j,r1.ref_inv,r2.int_inv,h1,by rw [<- q1.length];exact ej,f _ _ (c.lstSet h1 (q1.set r3 j)) (Le.lst h1) t⟩
   ·exact t.elim
  ·exact t.elim
 ·exact t.elim
end
inductive Sn where
 | non | bl (b:Bool) | int (i:Int) | str (x:Str) | tup (xs:List Sn) | lst (xs:List Sn)
def snap (G:Gp):Nat->D->Option Sn
 | _,.non=>some .non
 | _,.bl b=>some (.bl b)
 | _,.int i=>some (.int i)
 | _,.str x=>some (.str x)
 | n+1,.tup ds=>(ds.mapM (snap G n)).map .tup
 | n+1,.ref a=>(u15 (G a)).bind fun ds=>(ds.mapM (snap G n)).map .lst
 | _,_=>none
def u36:Sn->Bool
 | .non=>true | .bl _=>true | .int _=>true | .str _=>true | _=>false
def eqF:Sn->Sn->Bool
 | .non,.non=>true
 | .bl a,.bl b=>a == b
 | .bl a,.int b=>(if a then 1 else 0) == b
 | .int a,.bl b=>a == (if b then 1 else 0)
 | .int a,.int b=>a == b
 | .str a,.str b=>a == b
 | _,_=>false
def eqN:Nat->Sn->Sn->Option Bool
 | n+1,.tup xs,.tup ys=>if xs.length=ys.length then ((xs.zip ys).mapM fun p=>eqN n p.1 p.2).map fun bs=>bs.all id else none
 | n+1,.lst xs,.lst ys=>if xs.length=ys.length then ((xs.zip ys).mapM fun p=>eqN n p.1 p.2).map fun bs=>bs.all id else some false
 | _,x,y=>if (u36 x && u36 y)=true then some (eqF x y) else none
theorem u22 {α β:Type} {f:α->Option β}:∀ {xs:List α} {ys:List β},xs.mapM f=some ys->xs.length=ys.length /\ ∀ (i:Nat) x,xs[i]?=some x->∃ y,ys[i]?=some y /\ f x=some y
 | [],ys,h=>by
  have:ys=[]:=by simpa using h.symm
  subst this;exact ⟨rfl,fun i x e=>by simp at e⟩
 | x::xs,ys,h=>by
  rw [List.mapM_cons] at h;cases hx:f x with
  | none=>rw [hx] at h;cases h
  | some y =>
   rw [hx] at h;cases hr:xs.mapM f with
   | none=>rw [hr] at h;cases h
   | some r =>
    rw [hr] at h;have e:y::r=ys:=Option.some.inj h;subst e;obtain ⟨h1,h2⟩:=u22 hr;refine ⟨by simp [h1],fun i z e=>?_⟩;cases i with
    | zero=>cases (show x=z from Option.some.inj e);exact ⟨y,rfl,hx⟩
    | succ i=>exact h2 i z e
theorem ue5 {bs:List Bool} {e:Nat->Bool} {n:Nat} (hl:bs.length=n) (h:∀ (i:Nat) b,bs[i]?=some b->e i=b):(List.range n).all e=bs.all id:=by
 rw [Bool.eq_iff_iff,List.all_eq_true,List.all_eq_true]
 constructor
 ·intro q b hb
  obtain ⟨i,hi,eb⟩:=List.mem_iff_getElem.mp hb;have:=q i (List.mem_range.mpr (by omega));rw [h i b (by rw [List.getElem?_eq_getElem hi,eb])] at this;exact this
 ·intro q i hi
  have hi:=List.mem_range.mp hi;rw [h i bs[i] (List.getElem?_eq_getElem (by omega))];exact q _ (List.getElem_mem _)
section
variable {X:Cx} {pins:List (Addr × Obj)} {σ:L2.St} {H:Hp} {s:Shared} {G:Gp}
theorem ul3 {n:Nat} {d:D} {sd:Sn} {x:V} {u:Value} (h:snap G n d=some sd) (fl:u36 sd=true) (r:RelD X.K H d x):uc4 x=true /\ ∀ (e:D) (se:Sn) (y:V),snap G n e=some se->u36 se=true->RelD X.K H e y->eqV x y=eqF sd se:=by
  have key:∀ (d:D) (sd:Sn) (x:V),snap G n d=some sd->u36 sd=true->RelD X.K H d x->(sd=.non /\ x=.non) \/ (∃ b,sd=.bl b /\ x=.bl b) \/ (∃ i,sd=.int i /\ x=.int i) \/ (∃ z,sd=.str z /\ x=.str z):=by
    intro d sd x h fl r;cases d with
    | non => have e : Sn.non = sd := by cases n <;> exact Option.some.inj h
             subst e;exact .inl ⟨rfl,r.non_inv⟩
    | bl b => have e : Sn.bl b = sd := by cases n <;> exact Option.some.inj h
              subst e;exact .inr (.inl ⟨b,rfl,r.bl_inv⟩)
    | int b => have e : Sn.int b = sd := by cases n <;> exact Option.some.inj h
               subst e;exact .inr (.inr (.inl ⟨b,rfl,r.int_inv⟩))
    | str b => have e : Sn.str b = sd := by cases n <;> exact Option.some.inj h
               subst e;exact .inr (.inr (.inr ⟨b,rfl,r.str_inv⟩))
    | tup ds =>
      cases n with
      | zero=>cases h
      | succ n =>
        have h:(ds.mapM (snap G n)).map Sn.tup=some sd:=h;obtain ⟨a,_,rfl⟩:=Option.map_eq_some_iff.mp h;cases fl
    | ref a =>
      cases n with
      | zero=>cases h
      | succ n =>
        have h:((u15 (G a)).bind fun ds=>(ds.mapM (snap G n)).map Sn.lst)=some sd:=h;obtain ⟨ds,_,h⟩:=Option.bind_eq_some_iff.mp h;obtain ⟨a,_,rfl⟩:=Option.map_eq_some_iff.mp h;cases fl
    | ty t=>cases n <;> cases h
  rcases key d sd x h fl r with ⟨rfl,rfl⟩ | ⟨b,rfl,rfl⟩ | ⟨b,rfl,rfl⟩ | ⟨b,rfl,rfl⟩ <;> refine ⟨rfl,fun e se y h' fl' r'=>?_⟩ <;>
    rcases key e se y h' fl' r' with ⟨rfl,rfl⟩ | ⟨c,rfl,rfl⟩ | ⟨c,rfl,rfl⟩ | ⟨c,rfl,rfl⟩ <;> rfl
theorem snap_tup {n:Nat} {ds:List D} {sd:Sn} (h:snap G n (.tup ds)=some sd):∃ m ss,n=m+1 /\ sd=.tup ss /\ ds.mapM (snap G m)=some ss:=by
 cases n with
 | zero=>cases h
 | succ n =>
  obtain ⟨ss,h1,rfl⟩:=Option.map_eq_some_iff.mp (show (ds.mapM (snap G n)).map Sn.tup=some sd from h);exact ⟨n,ss,rfl,rfl,h1⟩
theorem snap_ref {n:Nat} {a:Addr} {sd:Sn} (h:snap G n (.ref a)=some sd):∃ m ds ss,n=m+1 /\ sd=.lst ss /\ u15 (G a)=some ds /\ ds.mapM (snap G m)=some ss:=by
 cases n with
 | zero=>cases h
 | succ n =>
  obtain ⟨ds,h0,h⟩:=Option.bind_eq_some_iff.mp (show ((u15 (G a)).bind fun ds=>(ds.mapM (snap G n)).map Sn.lst)=some sd from h);obtain ⟨ss,h1,rfl⟩:=Option.map_eq_some_iff.mp h;exact ⟨n,ds,ss,rfl,rfl,h0,h1⟩
theorem uo3 {n:Nat} {x y:Sn} (hx:u36 x=true):eqN n x y=if (u36 x && u36 y)=true then some (eqF x y) else none:=by
 cases x with
 | tup _=>cases hx
 | lst _=>cases hx
 | non=>cases n <;> rfl
 | bl _=>cases n <;> rfl
 | int _=>cases n <;> rfl
 | str _=>cases n <;> rfl
theorem u77 {n:Nat} {x y:Sn} {b:Bool} (h:eqN n x y=some b) (fl:¬ (u36 x && u36 y)=true):(∃ m xs ys,n=m+1 /\ x=.tup xs /\ y=.tup ys) \/ (∃ m xs ys,n=m+1 /\ x=.lst xs /\ y=.lst ys):=by
 unfold eqN at h;split at h
 ·exact .inl ⟨_,_,_,rfl,rfl,rfl⟩
 ·exact .inr ⟨_,_,_,rfl,rfl,rfl⟩
 ·rw [if_neg fl] at h;cases h
theorem u52 {n:Nat} {d:D} {ss:List Sn} (h:snap G n d=some (.tup ss)):∃ ds,d=.tup ds:=by
 cases d with
 | tup ds=>exact ⟨ds,rfl⟩
 | ref a=>obtain ⟨_,_,_,_,e',_⟩:=snap_ref h;cases e'
 | _=>cases n <;> cases h
theorem u53 {n:Nat} {d:D} {ss:List Sn} (h:snap G n d=some (.lst ss)):∃ a,d=.ref a:=by
 cases d with
 | ref a=>exact ⟨a,rfl⟩
 | tup ds=>obtain ⟨_,_,_,e',_⟩:=snap_tup h;cases e'
 | _=>cases n <;> cases h
theorem ui1 {n:Nat} {d e:D} {x:V} {sd se:Sn} {b:Bool} (r1:RelD X.K H d x) (r2:RelD X.K H e x) (h1:snap G n d=some sd) (h2:snap G n e=some se) (hb:eqN n sd se=some b) (fl:(u36 sd && u36 se)=true):b=true:=by
 rw [Bool.and_eq_true] at fl;have z:=hb;rw [uo3 fl.1,if_pos (by rw [fl.1,fl.2];rfl)] at z;obtain ⟨fx,k⟩:=ul3 (u:=Value.none) h1 fl.1 r1;rw [<- Option.some.inj z,<- k e se x h2 fl.2 r2];cases x with
 | non=>rfl
 | bl b=>exact beq_self_eq_true b
 | int i=>exact beq_self_eq_true i
 | str w=>exact beq_self_eq_true w
 | _=>cases fx
theorem ut8 (I:Inv X pins σ H s) (c:Con X.K G H):∀ (n:Nat) (d e:D) (x:V) (sd se:Sn) (b:Bool),RelD X.K H d x->RelD X.K H e x->snap G n d=some sd->snap G n e=some se->eqN n sd se=some b->b=true:=by
 intro n
 induction n with
 | zero =>
  intro d e x sd se b r1 r2 h1 h2 hb
  by_cases fl:(u36 sd && u36 se)=true
  ·exact ui1 r1 r2 h1 h2 hb fl
  ·rcases u77 hb fl with ⟨_,_,_,z,_⟩ | ⟨_,_,_,z,_⟩ <;> cases z
 | succ m ih =>
  intro d e x sd se b r1 r2 h1 h2 hb
  by_cases fl:(u36 sd && u36 se)=true
  ·exact ui1 r1 r2 h1 h2 hb fl
  have items:∀ (ds es:List D) (xs:List V) (ss ts:List Sn) (bs:List Bool),RelDs X.K H ds xs->RelDs X.K H es xs->ds.mapM (snap G m)=some ss->es.mapM (snap G m)=some ts->((ss.zip ts).mapM fun p=>eqN m p.1 p.2)=some bs->bs.all id=true:=by
   intro ds es xs ss ts bs q1 q2 k1 k2 kb;rw [List.all_eq_true];intro b hb;obtain ⟨i,hi,eb⟩:=List.mem_iff_getElem.mp hb;obtain ⟨l1,f1⟩:=u22 k1;obtain ⟨l2,f2⟩:=u22 k2;obtain ⟨l3,f3⟩:=u22 kb;have hz:(ss.zip ts).length=min ss.length ts.length:=List.length_zip;have e1:=q1.length;have e2:=q2.length;have hds:i < ds.length:=by omega
   have hes:i < es.length:=by omega
   obtain ⟨y1,g1,s1⟩:=f1 i ds[i] (List.getElem?_eq_getElem hds);obtain ⟨y2,g2,s2⟩:=f2 i es[i] (List.getElem?_eq_getElem hes);have hzip:(ss.zip ts)[i]?=some (y1,y2):=by rw [List.getElem?_zip_eq_some];exact ⟨g1,g2⟩
   obtain ⟨b',g3,s3⟩:=f3 i _ hzip;rw [List.getElem?_eq_getElem hi,eb] at g3;cases g3;obtain ⟨z1,hz1,rz1⟩:=q1.get (List.getElem?_eq_getElem hds);obtain ⟨z2,hz2,rz2⟩:=q2.get (List.getElem?_eq_getElem hes);rw [hz1] at hz2;cases hz2;exact ih ds[i] es[i] z1 y1 y2 b rz1 rz2 s1 s2 s3
  rcases u77 hb fl with ⟨m',ss,ts,em,rfl,rfl⟩ | ⟨m',ss,ts,em,rfl,rfl⟩
  ·cases em
   obtain ⟨ds,rfl⟩:=u52 h1;obtain ⟨es,rfl⟩:=u52 h2;obtain ⟨_,_,em,ez,k1⟩:=snap_tup h1;cases em;cases ez;obtain ⟨_,_,em,ez,k2⟩:=snap_tup h2;cases em;cases ez;obtain ⟨a,xs,rfl,q1,rr1⟩:=r1.tup_inv;obtain ⟨a',ys,e',q2,rr2⟩:=r2.tup_inv;cases e';have:=I.tuple_inj q1 q2;subst this;unfold eqN at hb;split at hb
   ·obtain ⟨bs,kb,rfl⟩:=Option.map_eq_some_iff.mp hb
    exact items ds es xs ss ts bs rr1 rr2 k1 k2 kb
   ·cases hb
  ·cases em
   obtain ⟨a,rfl⟩:=u53 h1;obtain ⟨a',rfl⟩:=u53 h2;cases r1.ref_inv;have e':=r2.ref_inv;cases e';obtain ⟨_,ds,_,em,ez,hs1,k1⟩:=snap_ref h1;cases em;cases ez;obtain ⟨_,es,_,em,ez,hs2,k2⟩:=snap_ref h2;cases em;cases ez;rw [hs1] at hs2;cases hs2;rw [k1] at k2;cases k2;obtain ⟨xs,_,rr⟩:=u27 c hs1;unfold eqN at hb;split at hb
   ·obtain ⟨bs,kb,rfl⟩:=Option.map_eq_some_iff.mp hb
    exact items ds ds xs ss ss bs rr rr k1 k1 kb
   ·rename_i h;exact absurd rfl h
structure SeqPair (G:Gp) (K:W.Frag) (H:Hp) (m:Nat) (its its2:List Value) (bs:List Bool):Prop where
 len:its.length=its2.length
 bl:bs.length=its.length
 at_:∀ (j:Nat) (h1:j < its.length) (h2:j < its2.length) (h3:j < bs.length),∃ d e x y sd se,RelD K H d x /\ RelV x its[j] /\ RelD K H e y /\ RelV y its2[j] /\ snap G m d=some sd /\ snap G m e=some se /\ eqN m sd se=some bs[j]
theorem u95 {m:Nat} {ds es:List D} {xs ys:List V} {its its2:List Value} {ss ts:List Sn} {bs:List Bool} (q1:RelDs X.K H ds xs) (v1:Vals xs its) (q2:RelDs X.K H es ys) (v2:Vals ys its2)
  (k1:ds.mapM (snap G m)=some ss) (k2:es.mapM (snap G m)=some ts) (hl:ss.length=ts.length) (kb:((ss.zip ts).mapM fun p=>eqN m p.1 p.2)=some bs):SeqPair G X.K H m its its2 bs:=by
 obtain ⟨l1,f1⟩:=u22 k1;obtain ⟨l2,f2⟩:=u22 k2;obtain ⟨l3,f3⟩:=u22 kb;have hz:(ss.zip ts).length=min ss.length ts.length:=List.length_zip;have e1:=q1.length;have e2:=q2.length;have e3:=v1.length;have e4:=v2.length;refine ⟨by omega,by omega,fun j h1 h2 h3=>?_⟩;have hds:j < ds.length:=by omega
 have hes:j < es.length:=by omega
 obtain ⟨y1,g1,s1⟩:=f1 j ds[j] (List.getElem?_eq_getElem hds);obtain ⟨y2,g2,s2⟩:=f2 j es[j] (List.getElem?_eq_getElem hes);have hzip:(ss.zip ts)[j]?=some (y1,y2):=by rw [List.getElem?_zip_eq_some];exact ⟨g1,g2⟩
 obtain ⟨b',g3,s3⟩:=f3 j _ hzip;rw [List.getElem?_eq_getElem h3] at g3;cases g3;obtain ⟨z1,hz1,rz1⟩:=q1.get (List.getElem?_eq_getElem hds);obtain ⟨z2,hz2,rz2⟩:=q2.get (List.getElem?_eq_getElem hes);obtain ⟨u1,hu1,ru1⟩:=v1.get hz1;obtain ⟨u2,hu2,ru2⟩:=v2.get hz2;rw [List.getElem?_eq_getElem h1] at hu1;rw [List.getElem?_eq_getElem h2] at hu2;cases hu1;cases hu2;exact ⟨ds[j],es[j],z1,z2,y1,y2,rz1,ru1,rz2,ru2,s1,s2,s3⟩
end
section
variable {X:Cx} {pins:List (Addr × Obj)} {σ:L2.St} {H:Hp} {s:Shared} {G:Gp}
theorem uy7 (I:Inv X pins σ H s) {n:Nat} {A:Around} {d e:D} {x y:V} {u v:Value} {sd se:Sn} {b:Bool} (r1:RelD X.K H d x) (v1:RelV x u) (r2:RelD X.K H e y) (v2:RelV y v) (h1:snap G n d=some sd) (h2:snap G n e=some se) (hb:eqN n sd se=some b) (fl:(u36 sd && u36 se)=true):SeqAt.EqAt A s u v b:=by
 rw [Bool.and_eq_true] at fl;have hb':b=eqF sd se:=by
  have z:=hb;rw [uo3 fl.1,if_pos (by rw [fl.1,fl.2];rfl)] at z;exact (Option.some.inj z).symm
 obtain ⟨fx,k⟩:=ul3 (u:=u) h1 fl.1 r1;obtain ⟨fy,_⟩:=ul3 (u:=v) h2 fl.2 r2;rw [hb',<- k e se y h2 fl.2 r2];exact vb0 v1 v2 fx fy
theorem v63 (I:Inv X pins σ H s) (c:Con X.K G H):∀ (n:Nat) (A:Around) (d e:D) (x y:V) (u v:Value) (sd se:Sn) (b:Bool),RelD X.K H d x->RelV x u->RelD X.K H e y->RelV y v->snap G n d=some sd->snap G n e=some se->eqN n sd se=some b->A.units+n < cLine->SeqAt.EqAt A s u v b:=by
 intro n
 induction n with
 | zero =>
  intro A d e x y u v sd se b r1 v1 r2 v2 h1 h2 hb hu
  by_cases fl:(u36 sd && u36 se)=true
  ·exact uy7 I r1 v1 r2 v2 h1 h2 hb fl
  ·rcases u77 hb fl with ⟨_,_,_,z,_⟩ | ⟨_,_,_,z,_⟩ <;> cases z
 | succ m ih =>
  intro A d e x y u v sd se b r1 v1 r2 v2 h1 h2 hb hu
  by_cases fl:(u36 sd && u36 se)=true
  ·exact uy7 I r1 v1 r2 v2 h1 h2 hb fl
  ·have inner:∀ (its its2:List Value) (bs:List Bool),SeqPair G X.K H m its its2 bs->∀ j (h1:j < its.toArray.size) (h2:j < its2.toArray.size),SeqAt.EqAt A.in1 s its.toArray[j] its2.toArray[j] ((bs[j]?).getD true):=by
    intro its its2 bs P j h1 h2;have h1':j < its.length:=by simpa using h1
    have h2':j < its2.length:=by simpa using h2
    have h3':j < bs.length:=by rw [P.bl];exact h1'
    obtain ⟨d',e',x',y',sd',se',a1,a2,a3,a4,a5,a6,a7⟩:=P.at_ j h1' h2' h3'
    rw [List.getElem?_eq_getElem h3'];have hu':A.in1.units+m < cLine:=by
     have:A.in1.units=A.units+1:=rfl;omega
    have:=ih A.in1 d' e' x' y' _ _ sd' se' _ a1 a2 a3 a4 a5 a6 a7 hu';simpa using this
   rcases u77 hb fl with ⟨m',ss,ts,em,rfl,rfl⟩ | ⟨m',ss,ts,em,rfl,rfl⟩
   ·cases em
    obtain ⟨ds,rfl⟩:=u52 h1;obtain ⟨es,rfl⟩:=u52 h2;obtain ⟨_,_,em,ez,k1⟩:=snap_tup h1;cases em;cases ez;obtain ⟨_,_,em,ez,k2⟩:=snap_tup h2;cases em;cases ez;obtain ⟨a,xs,rfl,q1,rr1⟩:=r1.tup_inv;obtain ⟨a',ys,rfl,q2,rr2⟩:=r2.tup_inv;cases v1;cases v2
    by_cases haa:a=a'
    ·subst haa
     rw [ut8 I c (m+1) (.tup ds) (.tup es) (.ref a) _ _ b r1 r2 h1 h2 hb];exact SeqAt.EqAt.same _
    ·unfold eqN at hb
     split at hb
     ·rename_i hlen
      obtain ⟨bs,kb,rfl⟩:=Option.map_eq_some_iff.mp hb;obtain ⟨its,w1,t1,_⟩:=I.tuple q1;obtain ⟨its2,w2,t2,_⟩:=I.tuple q2;have P:=u95 rr1 w1 rr2 w2 k1 k2 hlen kb;have R:=SeqAt.RcAt.tuples (A:=A) (s:=s) (e:=fun j=>(bs[j]?).getD true) (show s.heap.IsTuple a its.toArray from t1) (show s.heap.IsTuple a' its2.toArray from t2) (by omega) (inner its its2 bs P);have e1:((List.range (min its.toArray.size its2.toArray.size)).all (fun j=>(bs[j]?).getD true) && its.toArray.size == its2.toArray.size)=bs.all id:=by
       have el:its.toArray.size=its2.toArray.size:=by simpa using P.len
       rw [el,Nat.min_self,beq_self_eq_true,Bool.and_true];exact ue5 (by rw [<- el];simpa using P.bl) fun i b hb=>by rw [hb];rfl
      rw [e1] at R;exact SeqAt.EqAt.of_refs haa R
     ·cases hb
   ·cases em
    obtain ⟨a,rfl⟩:=u53 h1;obtain ⟨a',rfl⟩:=u53 h2;obtain ⟨_,ds,_,em,ez,hs1,k1⟩:=snap_ref h1;cases em;cases ez;obtain ⟨_,es,_,em,ez,hs2,k2⟩:=snap_ref h2;cases em;cases ez;cases r1.ref_inv;cases r2.ref_inv;cases v1;cases v2
    by_cases haa:a=a'
    ·subst haa
     rw [ut8 I c (m+1) (.ref a) (.ref a) (.ref a) _ _ b r1 r2 h1 h2 hb];exact SeqAt.EqAt.same _
    ·obtain ⟨xs,q1,rr1⟩:=u27 c hs1
     obtain ⟨ys,q2,rr2⟩:=u27 c hs2;obtain ⟨its,w1,t1,_⟩:=I.list q1;obtain ⟨its2,w2,t2,_⟩:=I.list q2;unfold eqN at hb;split at hb
     ·rename_i hlen
      obtain ⟨bs,kb,rfl⟩:=Option.map_eq_some_iff.mp hb;have P:=u95 rr1 w1 rr2 w2 k1 k2 hlen kb;have el:its.toArray.size=its2.toArray.size:=by simpa using P.len
      have R:=SeqAt.RcAt.lists (A:=A) (s:=s) (e:=fun j=>(bs[j]?).getD true) t1.isList t2.isList el (by omega) (inner its its2 bs P);have e1:((List.range its.toArray.size).all (fun j=>(bs[j]?).getD true))=bs.all id :=
       ue5 (by simpa using P.bl) fun i b hb=>by rw [hb];rfl
      rw [e1] at R;exact SeqAt.EqAt.of_refs haa R
     ·rename_i hlen
      cases hb;have n1:=(u22 k1).1;have n2:=(u22 k2).1;have m1:=rr1.length;have m2:=rr2.length;have m3:=w1.length;have m4:=w2.length;exact SeqAt.EqAt.of_refs haa (SeqAt.RcAt.lists_lengths t1.isList t2.isList (by simp;omega) (by omega))
end
def rEqD (K:W.Frag) (neg:Bool):R2:=fun x y H Q=>∃ (d e:D) (G:Gp) (n:Nat) (sd se:Sn) (b:Bool),RelD K H d x /\ RelD K H e y /\ Con K G H /\ n<=40 /\ snap G n d=some sd /\ snap G n e=some se /\ eqN n sd se=some b /\ u36 sd=false /\ Q (.bl (if neg then !b else b)) H
section
variable {X:Cx} {k:Nat}
theorem vt2 (hr:Room k X.A):OpR X (compareOp .Eq) (rEqD X.K false):=by
  intro pins s σ H x y v u Q I rx ry h;obtain ⟨d,e,G,n,sd,se,b,r1,r2,c,hn,h1,h2,hb,fl,q⟩:=h;have hu:=hr.units;have fin:EP X pins σ Q (.bool b) s:=⟨.bl b,H,I,rfl,q⟩
  rcases u77 hb (fun z=>by rw [fl] at z;cases z) with ⟨m,ss,ts,rfl,rfl,rfl⟩ | ⟨m,ss,ts,rfl,rfl,rfl⟩
  · obtain ⟨ds,rfl⟩:=u52 h1
    obtain ⟨es,rfl⟩:=u52 h2
    · · · obtain ⟨_,ss',em,ez,k1⟩ := snap_tup h1
          cases em;cases ez;obtain ⟨m',ts',em,es',k2⟩:=snap_tup h2;cases em;cases es';obtain ⟨a,xs,rfl,q1,rr1⟩:=r1.tup_inv;obtain ⟨a',ys,rfl,q2,rr2⟩:=r2.tup_inv;cases rx;cases ry;unfold eqN at hb;split at hb
          · rename_i hlen
            obtain ⟨bs,kb,rfl⟩:=Option.map_eq_some_iff.mp hb;obtain ⟨its,w1,t1,_⟩:=I.tuple q1;obtain ⟨its2,w2,t2,_⟩:=I.tuple q2;have P:=u95 rr1 w1 rr2 w2 k1 k2 hlen kb;refine SeqAt.eq_tupleAt (e:=fun j=>(bs[j]?).getD true) (show s.heap.IsTuple a its.toArray from t1) (show s.heap.IsTuple a' its2.toArray from t2) (by omega) ?_ ?_
            · intro j h1 h2
              have h1':j < its.length:=by simpa using h1
              have h2':j < its2.length:=by simpa using h2
              have h3':j < bs.length:=by rw [P.bl];exact h1'
              obtain ⟨d',e',x',y',sd',se',a1,a2,a3,a4,a5,a6,a7⟩:=P.at_ j h1' h2' h3'
              rw [List.getElem?_eq_getElem h3'];have:=v63 I c m X.A.in1 d' e' x' y' _ _ sd' se' _ a1 a2 a3 a4 a5 a6 a7 (by have:X.A.in1.units=X.A.units+1:=rfl;omega);simpa using this
            · have e1 : ((List.range (min its.toArray.size its2.toArray.size)).all (fun j => (bs[j]?).getD true) && its.toArray.size == its2.toArray.size) = bs.all id := by
                have el:its.toArray.size=its2.toArray.size:=by simpa using P.len
                rw [el,Nat.min_self,beq_self_eq_true,Bool.and_true];exact ue5 (by rw [<- el];simpa using P.bl) fun i b hb=>by rw [hb];rfl
              rw [e1];exact fin
          · cases hb
  · obtain ⟨a,rfl⟩:=u53 h1
    obtain ⟨a',rfl⟩:=u53 h2
    · · · obtain ⟨_,ds,ss',em,ez,hs1,k1⟩ := snap_ref h1
          cases em;cases ez;obtain ⟨m',es,ts',em,es',hs2,k2⟩:=snap_ref h2;cases em;cases es';cases r1.ref_inv;cases r2.ref_inv;cases rx;cases ry;obtain ⟨xs,q1,rr1⟩:=u27 c hs1;obtain ⟨ys,q2,rr2⟩:=u27 c hs2;obtain ⟨its,w1,t1,_⟩:=I.list q1;obtain ⟨its2,w2,t2,_⟩:=I.list q2;unfold eqN at hb;split at hb
          · rename_i hlen
            obtain ⟨bs,kb,rfl⟩:=Option.map_eq_some_iff.mp hb;have P:=u95 rr1 w1 rr2 w2 k1 k2 hlen kb;have el:its.toArray.size=its2.toArray.size:=by simpa using P.len
            refine SeqAt.eq_listAt (e:=fun j=>(bs[j]?).getD true) t1.isList t2.isList el (by omega) ?_ ?_
            · intro j h1 h2
              have h1':j < its.length:=by simpa using h1
              have h2':j < its2.length:=by simpa using h2
              have h3':j < bs.length:=by rw [P.bl];exact h1'
              obtain ⟨d',e',x',y',sd',se',a1,a2,a3,a4,a5,a6,a7⟩:=P.at_ j h1' h2' h3'
              rw [List.getElem?_eq_getElem h3'];have:=v63 I c m X.A.in1 d' e' x' y' _ _ sd' se' _ a1 a2 a3 a4 a5 a6 a7 (by have:X.A.in1.units=X.A.units+1:=rfl;omega);simpa using this
            · have e1 : ((List.range its.toArray.size).all (fun j => (bs[j]?).getD true)) = bs.all id :=
                ue5 (by simpa using P.bl) fun i b hb=>by rw [hb];rfl
              rw [e1];exact fin
          · rename_i hlen
            cases hb;have n1:=(u22 k1).1;have n2:=(u22 k2).1;have m1:=rr1.length;have m2:=rr2.length;have m3:=w1.length;have m4:=w2.length;exact SeqAt.eq_list_lengthsAt t1.isList t2.isList (by simp;omega) (by omega) fin
theorem vs8 (hr:Room k X.A):OpR X (compareOp .NotEq) (rEqD X.K true):=by
  intro pins s σ H x y v u Q I rx ry h;obtain ⟨d,e,G,n,sd,se,b,r1,r2,c,hn,h1,h2,hb,fl,q⟩:=h;have hu:=hr.units;have fin:EP X pins σ Q (.bool (!b)) s:=⟨.bl (!b),H,I,rfl,q⟩
  rcases u77 hb (fun z=>by rw [fl] at z;cases z) with ⟨m,ss,ts,rfl,rfl,rfl⟩ | ⟨m,ss,ts,rfl,rfl,rfl⟩
  · obtain ⟨ds,rfl⟩:=u52 h1
    obtain ⟨es,rfl⟩:=u52 h2
    · · · obtain ⟨_,ss',em,ez,k1⟩ := snap_tup h1
          cases em;cases ez;obtain ⟨m',ts',em,es',k2⟩:=snap_tup h2;cases em;cases es';obtain ⟨a,xs,rfl,q1,rr1⟩:=r1.tup_inv;obtain ⟨a',ys,rfl,q2,rr2⟩:=r2.tup_inv;cases rx;cases ry;unfold eqN at hb;split at hb
          · rename_i hlen
            obtain ⟨bs,kb,rfl⟩:=Option.map_eq_some_iff.mp hb;obtain ⟨its,w1,t1,_⟩:=I.tuple q1;obtain ⟨its2,w2,t2,_⟩:=I.tuple q2;have P:=u95 rr1 w1 rr2 w2 k1 k2 hlen kb;refine SeqAt.RcNeAt.tuples (e:=fun j=>(bs[j]?).getD true) (show s.heap.IsTuple a its.toArray from t1) (show s.heap.IsTuple a' its2.toArray from t2) (by omega) ?_ X.prog X.w X.xe _ ?_
            · intro j h1 h2
              have h1':j < its.length:=by simpa using h1
              have h2':j < its2.length:=by simpa using h2
              have h3':j < bs.length:=by rw [P.bl];exact h1'
              obtain ⟨d',e',x',y',sd',se',a1,a2,a3,a4,a5,a6,a7⟩:=P.at_ j h1' h2' h3'
              rw [List.getElem?_eq_getElem h3'];have:=v63 I c m X.A.in1 d' e' x' y' _ _ sd' se' _ a1 a2 a3 a4 a5 a6 a7 (by have:X.A.in1.units=X.A.units+1:=rfl;omega);simpa using this
            · have e1 : ((List.range (min its.toArray.size its2.toArray.size)).all (fun j => (bs[j]?).getD true) && its.toArray.size == its2.toArray.size) = bs.all id := by
                have el:its.toArray.size=its2.toArray.size:=by simpa using P.len
                rw [el,Nat.min_self,beq_self_eq_true,Bool.and_true];exact ue5 (by rw [<- el];simpa using P.bl) fun i b hb=>by rw [hb];rfl
              rw [e1];exact fin
          · cases hb
  · obtain ⟨a,rfl⟩:=u53 h1
    obtain ⟨a',rfl⟩:=u53 h2
    · · · obtain ⟨_,ds,ss',em,ez,hs1,k1⟩ := snap_ref h1
          cases em;cases ez;obtain ⟨m',es,ts',em,es',hs2,k2⟩:=snap_ref h2;cases em;cases es';cases r1.ref_inv;cases r2.ref_inv;cases rx;cases ry;obtain ⟨xs,q1,rr1⟩:=u27 c hs1;obtain ⟨ys,q2,rr2⟩:=u27 c hs2;obtain ⟨its,w1,t1,_⟩:=I.list q1;obtain ⟨its2,w2,t2,_⟩:=I.list q2;unfold eqN at hb;split at hb
          · rename_i hlen
            obtain ⟨bs,kb,rfl⟩:=Option.map_eq_some_iff.mp hb;have P:=u95 rr1 w1 rr2 w2 k1 k2 hlen kb;have el:its.toArray.size=its2.toArray.size:=by simpa using P.len
            refine SeqAt.RcNeAt.lists (e:=fun j=>(bs[j]?).getD true) t1.isList t2.isList el (by omega) ?_ X.prog X.w X.xe _ ?_
            · intro j h1 h2
              have h1':j < its.length:=by simpa using h1
              have h2':j < its2.length:=by simpa using h2
              have h3':j < bs.length:=by rw [P.bl];exact h1'
              obtain ⟨d',e',x',y',sd',se',a1,a2,a3,a4,a5,a6,a7⟩:=P.at_ j h1' h2' h3'
              rw [List.getElem?_eq_getElem h3'];have:=v63 I c m X.A.in1 d' e' x' y' _ _ sd' se' _ a1 a2 a3 a4 a5 a6 a7 (by have:X.A.in1.units=X.A.units+1:=rfl;omega);simpa using this
            · have e1 : ((List.range its.toArray.size).all (fun j => (bs[j]?).getD true)) = bs.all id :=
                ue5 (by simpa using P.bl) fun i b hb=>by rw [hb];rfl
              rw [e1];exact fin
          · rename_i hlen
            cases hb;have n1:=(u22 k1).1;have n2:=(u22 k2).1;have m1:=rr1.length;have m2:=rr2.length;have m3:=w1.length;have m4:=w2.length;exact SeqAt.RcNeAt.lists_lengths t1.isList t2.isList (by simp;omega) (by omega) X.prog X.w X.xe _ fin
end
structure FnAt (K:W.Frag) (x qual:Str) (st:Stmt) (ps:List Str) where
 a:Addr
 fd:FuncData
 ex:∃ (oc:Value) (od:Option Addr) (dV kV doc pm:Value) (an:Option Addr) (cdv ct:Value) (osl:Array (Option Value)),
  fd=W.fnOf x qual (u24 st) (u17 st) (u05 st) dV kV doc pm an cdv ct /\ K.lookup a=some ⟨oc,od,.func fd,osl⟩ /\ W.codeIn K cdv qual=true
 kp:W.keepIn K (.ref a)=true
 b:Binds K fd ps []
abbrev Ok (P:Program) (w:World) {K:W.Frag} (mg:Str->Option Value) (base:Heap) (n:Nat) {x qual:Str} {st:Stmt} {ps:List Str} (d:FnAt K x qual st ps) (S:Sp3):Prop:=FnOk P w K mg base CX0 n d.a d.fd ps (u97 K S)
def u69 (N:List Str) (ds:List D):DSt:=ds.map some++List.replicate (N.length - ds.length) none
theorem u74 {K:W.Frag} {H:Hp} {N:List Str} {ds:List D} {vs:List V} (r:RelDs K H ds vs):RelSt K H (u69 N ds) (L2.start N vs):=by
 unfold u69 L2.start;refine ⟨by simp [r.length],fun i d e=>?_⟩
 by_cases hi:i < ds.length
 ·rw [List.getElem?_append_left (by simpa using hi),List.getElem?_map] at e
  rw [List.getElem?_append_left (by simpa [<- r.length] using hi),List.getElem?_map];cases h:ds[i]? with
  | none=>rw [h] at e;cases e
  | some d' =>
   rw [h] at e;cases e;obtain ⟨v,hv,rv⟩:=r.get h;exact ⟨v,by rw [hv];rfl,rv⟩
 ·rw [List.getElem?_append_right (by simpa using hi),List.getElem?_replicate] at e
  split at e <;> cases e
section
variable {P:Program} {w:World} {K:W.Frag} {mg:Str->Option Value} {base:Heap}
theorem u43 {x qual:Str} {st:Stmt} {ps N:List Str} {k:Nat} (d:FnAt K x qual st ps) {S:Sp3} (sc:FnScope N ps (u05 st)) (hl:∀ ds G R,S ds G R->ds.length=ps.length) {t:TS3}
  (ht:∀ (cdv:Value) (A:Around) (outer:List Env) (s:Shared) (H:Hp) (E:XK),Room k (A.deeper (envOfC qual (u05 st) s.heap.objs.size d.a cdv))->Ss3 (cxOf CX0 P w K mg base N qual (u05 st) d.a cdv A outer s H E).nox (u17 st) t)
  (hb:∀ ds G R,S ds G R->t { nx:=fun _ G'=>R .non G',rt:=R } (u69 N ds) G):Ok P w mg base (k+1) d S:=by
 obtain ⟨oc,od,dV,kV,doc,pm,an,cdv,ct,osl,e,lk,hcd⟩:=d.ex;have lk':K.lookup d.a=some ⟨oc,od,.func (W.fnOf x qual (u24 st) (u17 st) (u05 st) dV kV doc pm an cdv ct),osl⟩:=e ▸ lk;have F:FnOk P w K mg base CX0 (k+1) d.a (W.fnOf x qual (u24 st) (u17 st) (u05 st) dV kV doc pm an cdv ct) ps (u97 K S):=by
  refine vk2 lk' hcd sc (fun vs H Q E h=>?_) fun A outer s H vs Q E hr h=>?_
  ·obtain ⟨ds,G,R,r,_,hS,_⟩:=h
   rw [<- r.length];exact hl ds G R hS
  ·obtain ⟨ds,G,R,r,c,hS,f⟩:=h
   refine ⟨_,(show PSs _ _ _ from ht cdv A outer s H E hr).nox,u69 N ds,G,_,u74 r,c,hb ds G R hS,fun σd' G' σ' H' _ c' l' q=>?_,f,fun _ _ _ _ _ _ _ q=>q.elim,fun _ _ _ _ _ _ _ q=>q.elim⟩;exact f .non G' .non H' RelD.nonI c' l' q
 have F2:=F;rw [<- e] at F2;exact F2
end
section
variable {X:Cx} {e o:Expr} {es:List Expr} {p pos apos:Pos} {ta:TE3} {ts:TA3} {k n:Nat} {S:Sp3} {x m qual:Str} {st:Stmt} {ps:List Str} {C:Addr}
theorem ec (d:FnAt X.K x qual st ps) (hm:X.mg x=some (.ref d.a)) (G:FnOk X.prog X.w X.K X.mg X.base CX0 k d.a d.fd ps (u97 X.K S)) (hr:Room k X.A) (ha:A3 X (e::es) ts) (hg:Gl X x:=by rfl) (hdb:(x == ("__debug__" : Str))=false:=by decide)
  (he:starEach (e::es) X.env=(false,eval e X.env)::starEach es X.env:=by rfl) (hpl:(backTo pos (starEach es X.env)).any (·.1)=false:=by rfl):E3 X (.Call (.Name x p) (e::es) [] pos) (dCall S [] ts) :=
 vz7 G hr hg hm d.kp d.b .nil (fun _=>.nil) ha hdb he hpl
end
def w08 (osc:Scope) (N N':List Str) (ix:List (Option Nat)) (scope:Scope):Bool :=
 (scope.kind == .function) && scope.names.all (fun y=>y.2 != .cell) && scope.names.all (fun y=>y.2 != .local || scope.names.lookup y.1 == some .local) &&
 scope.names.all (fun y=>y.2 != .free || osc.names.lookup y.1 == some .cell || osc.names.lookup y.1 == some .free) && (ix.length == N'.length) &&
 (N'.zip ix).all (fun p=>match p.2 with | none=>true | some j=>N[j]? == some p.1 && scope.names.lookup p.1 == some .free)
theorem blk {X:Cx} {osc:Scope} {N N':List Str} {ix:List (Option Nat)} {scope:Scope} (h1:X.env.scope=osc) (h2:X.N=N) (h:w08 osc N N' ix scope=true):BlkOk X N' ix scope:=by
 unfold w08 at h;simp only [Bool.and_eq_true] at h;obtain ⟨⟨⟨⟨⟨a1,a2⟩,a3⟩,a4⟩,a5⟩,a6⟩:=h;rw [List.all_eq_true] at a2 a3 a4 a6;refine ⟨eq_of_beq a1,fun y hy=>by simpa using a2 y hy,fun y hy e=>?_,fun y hy e=>?_,eq_of_beq a5,fun i j x e1 e2=>?_⟩
 ·have:=a3 y hy
  simp only [e,bne_self_eq_false,Bool.false_or] at this;exact eq_of_beq this
 ·have:=a4 y hy
  simp only [e,bne_self_eq_false,Bool.false_or,Bool.or_eq_true,beq_iff_eq] at this;unfold Env.kindOf;rw [h1];exact this
 ·have hz:(N'.zip ix)[i]?=some (x,some j):=by rw [List.getElem?_zip_eq_some];exact ⟨e1,e2⟩
  have:=a6 _ (List.mem_of_getElem? hz);simp only [Bool.and_eq_true,beq_iff_eq] at this;rw [h2];exact this
section
variable {X:Cx} {K:W.Frag} {H:Hp}
def um6:RS3:=fun x lo hi G q=>match x with
 | .ref a=>(match u15 (G a) with | some ds=>∀ p,G p=none->q (.ref p) (gup G p (.lst (cutD ds lo hi))) | none=>False)
 | .tup ds=>¬ (HT.sIx ds.length 0 lo=0 /\ HT.sIx ds.length ds.length hi=ds.length) /\ q (.tup (cutD ds lo hi)) G
 | _=>False
theorem x_sl:SlR X (uw7 X.K um6):=us6 (sl_list.or v94) <| by
 rintro x lo hi H Q ⟨d,G,q,r1,c,t,f⟩;unfold um6 at t;split at t
 ·rename_i a
  split at t
  ·rename_i ds e
   obtain ⟨xs,s1,q1⟩:=u27 c e;exact .inl ⟨a,xs,r1.ref_inv,s1,fun p hp=>f _ _ _ _ RelD.refI (c.lstNew hp (q1.cut lo hi)) (Le.fresh hp) (t p (c.fresh hp))⟩
  ·exact t.elim
 ·rename_i ds
  obtain ⟨a,xs,rfl,s1,q1⟩:=r1.tup_inv;refine .inr ⟨a,xs,rfl,s1,by rw [<- q1.length];exact t.1,fun p hp=>?_⟩;refine f (.tup _) G (.ref p) _ ?_ (c.side hp) (Le.fresh hp) t.2;rw [RelD];exact ⟨p,_,rfl,SqT.of u18,RelDs.le (Le.fresh hp) (q1.cut lo hi)⟩
 ·exact t.elim
def xLen:C3:=fun ds G q=>match ds with
 | [.str z]=>z.length<=sizeLine /\ q (.int z.length) G
 | [.tup xs]=>q (.int xs.length) G
 | [.ref a]=>(match u15 (G a) with | some xs=>q (.int xs.length) G | none=>False)
 | _=>False
theorem RelDs.one {d:D} {vs:List V} (h:RelDs K H [d] vs):∃ v,vs=[v] /\ RelD K H d v:=by
 obtain ⟨x,r,rfl,h1,h2⟩:=h.inv_cons;rw [h2.inv_nil];exact ⟨x,rfl,h1⟩
theorem RelDs.two {d e:D} {vs:List V} (h:RelDs K H [d,e] vs):∃ v u,vs=[v,u] /\ RelD K H d v /\ RelD K H e u:=by
 obtain ⟨x,r,rfl,h1,h2⟩:=h.inv_cons;obtain ⟨y,rfl,h3⟩:=h2.one;exact ⟨x,y,rfl,h1,h3⟩
theorem uf3:Call3 X (.builtin "len") xLen:=u60 (call_len_seq.or uj5) <| by
 rintro xs H Q ⟨ds,G,q,r,c,t,f⟩;unfold xLen at t;split at t
 ·obtain ⟨v,rfl,r1⟩:=r.one
  cases r1.str_inv;exact .inr ⟨_,rfl,t.1,f _ _ _ _ RelD.intI c (Le.refl H) t.2⟩
 ·obtain ⟨v,rfl,r1⟩:=r.one
  obtain ⟨a,ys,rfl,s1,q1⟩:=r1.tup_inv;refine .inl ⟨a,ys,rfl,.inr s1,?_⟩;rw [<- q1.length];exact f _ _ _ _ RelD.intI c (Le.refl H) t
 ·obtain ⟨v,rfl,r1⟩:=r.one
  cases r1.ref_inv;split at t
  ·rename_i ds e
   obtain ⟨ys,s1,q1⟩:=u27 c e;refine .inl ⟨_,ys,rfl,.inl s1,?_⟩;rw [<- q1.length];exact f _ _ _ _ RelD.intI c (Le.refl H) t
  ·exact t.elim
 ·exact t.elim
def xAbs:C3:=fun ds G q=>match ds with | [.int i]=>q (.int (if i < 0 then -i else i)) G | _=>False
theorem vn6:Call3 X (.builtin "abs") xAbs:=u60 v72 <| by
 rintro xs H Q ⟨ds,G,q,r,c,t,f⟩;unfold xAbs at t;split at t
 ·obtain ⟨v,rfl,r1⟩:=r.one
  cases r1.int_inv;exact ⟨_,rfl,f _ _ _ _ RelD.intI c (Le.refl H) t⟩
 ·exact t.elim
def vb9:C3:=fun ds G q=>match ds with | [.int i,.int j]=>CDiv i j /\ q (.tup [.int (i / j),.int (i % j)]) G | _=>False
def vb8:C3:=fun ds G q=>match ds with | [.int i,.int j]=>q (.int (if j > i then j else i)) G | _=>False
def w25:C3:=fun ds G q=>match ds with | [.int i,.int j]=>q (.int (if j < i then j else i)) G | _=>False
theorem um2 (hc:X.calm=true:=by rfl):Call3 X (.builtin "max") vb8:=u60 (v02 hc) <| by
 rintro xs H Q ⟨ds,G,q,r,c,t,f⟩;unfold vb8 at t;split at t
 ·obtain ⟨v,u,rfl,r1,r2⟩:=r.two
  cases r1.int_inv;cases r2.int_inv;exact ⟨_,_,rfl,f _ _ _ _ RelD.intI c (Le.refl H) t⟩
 ·exact t.elim
def um5:C3:=fun ds G q=>match ds with | [.int i]=>q (.int i) G | [.bl b]=>q (.int (if b then 1 else 0)) G | _=>False
theorem uf2:Call3 X (.type "int") um5:=u60 v03 <| by
 rintro xs H Q ⟨ds,G,q,r,c,t,f⟩;unfold um5 at t;split at t
 ·obtain ⟨v,rfl,r1⟩:=r.one
  cases r1.int_inv;exact .inl ⟨_,rfl,f _ _ _ _ RelD.intI c (Le.refl H) t⟩
 ·obtain ⟨v,rfl,r1⟩:=r.one
  cases r1.bl_inv;exact .inr ⟨_,rfl,f _ _ _ _ RelD.intI c (Le.refl H) t⟩
 ·exact t.elim
def us4:C3:=fun ds G q=>match ds with
 | [.tup xs]=>∀ p,G p=none->q (.ref p) (gup G p (.lst xs))
 | [.ref a]=>(match u15 (G a) with | some xs=>∀ p,G p=none->q (.ref p) (gup G p (.lst xs)) | none=>False)
 | _=>False
def u86:C3:=fun ds G q=>match ds with
 | [.tup xs]=>q (.tup xs) G
 | [.ref a]=>(match u15 (G a) with | some xs=>q (.tup xs) G | none=>False)
 | _=>False
theorem u68:Call3 X (.type "tuple") u86:=u60 uh3 <| by
 rintro xs H Q ⟨ds,G,q,r,c,t,f⟩;unfold u86 at t;split at t
 ·obtain ⟨v,rfl,r1⟩:=r.one
  obtain ⟨a,ys,rfl,s1,q1⟩:=r1.tup_inv;exact ⟨a,ys,rfl,.inr ⟨s1,f _ _ _ _ r1 c (Le.refl H) t⟩⟩
 ·obtain ⟨v,rfl,r1⟩:=r.one
  cases r1.ref_inv;split at t
  ·rename_i ds e
   obtain ⟨ys,s1,q1⟩:=u27 c e;refine ⟨_,ys,rfl,.inl ⟨s1,fun p hp=>f (.tup _) G (.ref p) _ ?_ (c.side hp) (Le.fresh hp) t⟩⟩;rw [RelD];exact ⟨p,_,rfl,SqT.of u18,RelDs.le (Le.fresh hp) q1⟩
  ·exact t.elim
 ·exact t.elim
def vm0:List D->Option (List Bool)
 | []=>some []
 | .bl b::r=>(vm0 r).map (b::·)
 | _=>none
def xAll:C3:=fun ds G q=>match ds with
 | [.ref a]=>(match u15 (G a) with | some xs=>(match vm0 xs with | some bs=>q (.bl (bs.all id)) G | none=>False) | none=>False)
 | _=>False
def ue8:List D->Option (List Int)
 | []=>some []
 | .int b::r=>(ue8 r).map (b::·)
 | _=>none
theorem ue6:∀ {ds:List D} {bs:List Int} {vs:List V},ue8 ds=some bs->RelDs K H ds vs->vs=bs.map V.int
 | [],bs,vs,e,r=>by cases e;rw [r.inv_nil];rfl
 | .int b::ds,bs,vs,e,r=>by
  obtain ⟨x,xs,rfl,h1,h2⟩:=r.inv_cons;obtain ⟨bs',e',rfl⟩:=Option.map_eq_some_iff.mp (show (ue8 ds).map (b::·)=some bs from e);rw [h1.int_inv,ue6 e' h2];rfl
 | .non::_,_,_,e,_=>by cases e
 | .bl _::_,_,_,e,_=>by cases e
 | .str _::_,_,_,e,_=>by cases e
 | .tup _::_,_,_,e,_=>by cases e
 | .ref _::_,_,_,e,_=>by cases e
 | .ty _::_,_,_,e,_=>by cases e
def xSum:C3:=fun ds G q=>match ds with
 | [.ref a]=>(match u15 (G a) with | some xs=>(match ue8 xs with | some bs=>q (.int bs.sum) G | none=>False) | none=>False)
 | _=>False
theorem w19 (hc:X.calm=true:=by rfl):Call3 X (.builtin "sum") xSum:=u60 (v71 hc) <| by
 rintro xs H Q ⟨ds,G,q,r,c,t,f⟩;unfold xSum at t;split at t
 ·obtain ⟨v,rfl,r1⟩:=r.one
  cases r1.ref_inv;split at t
  ·rename_i ds e
   obtain ⟨ys,s1,q1⟩:=u27 c e;split at t
   ·rename_i bs eb
    have:=ue6 eb q1;subst this;exact ⟨_,bs,rfl,s1,f _ _ _ _ RelD.intI c (Le.refl H) t⟩
   ·exact t.elim
  ·exact t.elim
 ·exact t.elim
def v58 (G:Gp):D->Option String
 | .non=>some "NoneType"
 | .bl _=>some "bool"
 | .int _=>some "int"
 | .str _=>some "str"
 | .ref a=>match G a with | some (.lst _)=>some "list" | some (.fro _)=>some "list" | some (.dic _)=>some "dict" | _=>none
 | _=>none
def uk2:C3:=fun ds G q=>match ds with
 | [x,.ty T]=>(T = "int" \/ T = "str" \/ T = "bool" \/ T = "list" \/ T = "tuple" \/ T = "dict") /\ (match v58 G x with | some n=>q (.bl (subK n T)) G | none=>False)
 | _=>False
theorem u85:Call3 X (.builtin "isinstance") uk2:=u60 ul7 <| by
 rintro xs H Q ⟨ds,G,q,r,c,t,f⟩;unfold uk2 at t;split at t
 ·rename_i d T
  obtain ⟨v,u,rfl,r1,r2⟩:=r.two;rw [RelD] at r2;subst r2;obtain ⟨hT,t⟩:=t;split at t
  ·rename_i n en
   refine ⟨v,n,T,rfl,?_,hT,f _ _ _ _ RelD.blI c (Le.refl H) t⟩;unfold v58 at en;split at en
   ·cases r1.non_inv;cases en;rfl
   ·cases r1.bl_inv;cases en;rfl
   ·cases r1.int_inv;cases en;rfl
   ·cases r1.str_inv;cases en;rfl
   ·rename_i a
    cases r1.ref_inv;split at en
    ·rename_i xs ea;cases en;obtain ⟨ys,h1,_⟩:=c _ _ ea;exact .inl ⟨rfl,.inl ⟨ys,h1⟩⟩
    ·rename_i xs ea;cases en;obtain ⟨o,ys,h1,_⟩:=c _ _ ea;exact .inl ⟨rfl,.inr ⟨o,ys,h1⟩⟩
    ·rename_i xs ea;cases en;obtain ⟨ys,h1,_⟩:=c _ _ ea;exact .inr (.inr ⟨rfl,ys,h1⟩)
    ·cases en
   ·cases en
  ·exact t.elim
 ·exact t.elim
theorem ue2 {x:Str} {T:String} {pos:Pos} (hm:X.mg x=none) (hv:bootBuiltins x=some (.type T)) (hg:Gl X x:=by rfl) (hn:x ≠ "__name__" := by decide) (hd:(x == ("__debug__" : Str))=false:=by decide):E3 X (.Name x pos) (dC (.ty T)) :=
 u32 (vh0 (v:=.ty T) hg hm hv rfl hn hd) fun _ _ _=>uq5 fun _=>by rw [RelD]
def xIs2:R3:=fun x y G q=>match y with
 | .non=>(match x with | .non=>q (.bl true) G | _=>q (.bl false) G)
 | .bl b=>(match x with | .bl c=>q (.bl (decide (c=b))) G | _=>q (.bl false) G)
 | _=>False
def uf5:R3:=fun x y G q=>match y with
 | .non=>(match x with | .non=>q (.bl false) G | _=>q (.bl true) G)
 | .bl b=>(match x with | .bl c=>q (.bl (!decide (c=b))) G | _=>q (.bl true) G)
 | _=>False
theorem RelD.not_bl {d:D} {v:V} (h:RelD K H d v) (b:Bool) (n:∀ c,d ≠ .bl c):v ≠ .bl b:=by
 cases d with
 | bl c=>exact absurd rfl (n c)
 | non=>rw [h.non_inv];exact fun z=>nomatch z
 | int _=>rw [h.int_inv];exact fun z=>nomatch z
 | str _=>rw [h.str_inv];exact fun z=>nomatch z
 | ref _=>rw [h.ref_inv];exact fun z=>nomatch z
 | ty _=>rw [RelD] at h;rw [h];exact fun z=>nomatch z
 | tup _=>obtain ⟨a,xs,e,_⟩:=h.tup_inv;rw [e];exact fun z=>nomatch z
theorem ub0 {c b:Bool}:decide (V.bl c=V.bl b)=decide (c=b):=by cases c <;> cases b <;> rfl
theorem w21:Op3 X (compareOp .Is) xIs2:=u51 (op_isN.or vt0) <| by
 rintro x y H Q ⟨d,e,G,q,r1,r2,c,t,f⟩;unfold xIs2 at t;split at t
 ·refine .inl ⟨r2.non_inv,?_⟩
  split at t
  ·rw [r1.non_inv]
   exact f _ _ _ _ RelD.blI c (Le.refl H) t
  ·rename_i hd
   rw [decide_eq_false (r1.not_non fun z=>hd z)];exact f _ _ _ _ RelD.blI c (Le.refl H) t
 ·rename_i b
  refine .inr ⟨b,r2.bl_inv,?_⟩;split at t
  ·rw [r1.bl_inv,ub0]
   exact f _ _ _ _ RelD.blI c (Le.refl H) t
  ·rename_i hd
   rw [decide_eq_false (r1.not_bl b fun z hz=>hd z hz)];exact f _ _ _ _ RelD.blI c (Le.refl H) t
 ·exact t.elim
theorem um3:Op3 X (compareOp .IsNot) uf5:=u51 (op_notN.or uv0) <| by
 rintro x y H Q ⟨d,e,G,q,r1,r2,c,t,f⟩;unfold uf5 at t;split at t
 ·refine .inl ⟨r2.non_inv,?_⟩
  split at t
  ·rw [r1.non_inv]
   exact f _ _ _ _ RelD.blI c (Le.refl H) t
  ·rename_i hd
   rw [decide_eq_false (r1.not_non fun z=>hd z)];exact f _ _ _ _ RelD.blI c (Le.refl H) t
 ·rename_i b
  refine .inr ⟨b,r2.bl_inv,?_⟩;split at t
  ·rw [r1.bl_inv,ub0]
   exact f _ _ _ _ RelD.blI c (Le.refl H) t
  ·rename_i hd
   rw [decide_eq_false (r1.not_bl b fun z hz=>hd z hz)];exact f _ _ _ _ RelD.blI c (Le.refl H) t
 ·exact t.elim
end
def jSeq (n:Nat) (t:TGs3):TG3:=fun d σ G q=>match d with
 | .tup ds=>ds.length=n /\ t ds σ G q
 | .ref a=>(match u15 (G a) with | some ds=>ds.length=n /\ t ds σ G q | none=>False)
 | _=>False
def wAny (te:TE3):TI3:=fun σ G r=>te σ G fun x G1=>match x with
 | .ref a=>(match u15 (G1 a) with | some ds=>r ⟨ds,fun G=>u15 (G a)=some ds⟩ G1 | none=>False)
 | .tup ds=>r ⟨ds,fun _=>True⟩ G1
 | _=>False
section
variable {X:Cx} {es:List Expr} {e tg:Expr} {te:TE3} {pos:Pos}
theorem vj3 {k n:Nat} {t:TGs3} (hc:X.calm=true) (h:Js3 X es t) (hn:(assignEach es X.env).length=n:=by rfl) (hst:(assignEach es X.env).findIdx? (·.1)=none:=by rfl):J3 X (.Tuple es k pos) (jSeq n t) :=
 vc3 (w41 (vr4 hc h hn hst) (vg7 hc h hn hst)) fun v σ H Q hh=>by
  obtain ⟨d,σd,G,q,r,rs,c,t,f⟩:=hh;unfold jSeq at t;split at t
  ·rename_i ds
   obtain ⟨a,xs,rfl,s,r2⟩:=r.tup_inv;exact .inl ⟨a,xs,rfl,s,by rw [<- r2.length];exact t.1,ds,σd,G,q,r2,rs,c,t.2,f⟩
  ·rename_i a
   split at t
   ·rename_i ds e
    obtain ⟨xs,s,r'⟩:=u27 c e;exact .inr ⟨a,xs,r.ref_inv,s,by rw [<- r'.length];exact t.1,ds,σd,G,q,r',rs,c,t.2,f⟩
   ·exact t.elim
  ·exact t.elim
theorem ul1 (h:E3 X e te):I3 X tg e (wAny te):=vo4 (vr3 h) fun σ H R hh=>by
 obtain ⟨σd,G,q,rs,c,t,f⟩:=hh;refine ⟨σd,G,_,rs,c,t,fun x G1 v H1 r1 c1 l1 t1=>?_⟩;split at t1
 ·rename_i a
  split at t1
  ·rename_i ds e
   obtain ⟨xs,s,_⟩:=u27 c1 e;exact ⟨a,r1.ref_inv,.inl ⟨⟨xs,s⟩,f _ _ _ _ uq7 c1 l1 t1⟩⟩
  ·exact t1.elim
 ·rename_i ds
  obtain ⟨a,xs,rfl,s,r⟩:=r1.tup_inv;exact ⟨a,rfl,.inr ⟨⟨xs,s⟩,f _ _ _ _ (ux8 s r) c1 l1 t1⟩⟩
 ·exact t1.elim
end
section
variable {X:Cx} {e o:Expr} {es:List Expr} {to:TE3} {ts:TA3} {apos cpos:Pos}
theorem ty_list (K:W.Frag):∀ G H x v,Con K G H->RelD K H x v->tyD G "list" x->tyV K "list" v H:=by
 intro G H x v c r t;cases x with
 | ref a =>
  cases r.ref_inv;cases e:G a with
  | none=>simp [tyD,e] at t
  | some o =>
   cases o with
   | lst ds=>obtain ⟨xs,s,_⟩:=u27 (ds:=ds) c (by rw [e];rfl);exact .inl ⟨rfl,xs,s⟩
   | fro ds=>obtain ⟨xs,s,_⟩:=u27 (ds:=ds) c (by rw [e];rfl);exact .inl ⟨rfl,xs,s⟩
   | dic _=>simp [tyD,e] at t
   | dit _=>simp [tyD,e] at t
   | ins _ _=>simp [tyD,e] at t
   | exc _ _=>simp [tyD,e] at t
   | frd _ _=>simp [tyD,e] at t
   | tb _ _=>simp [tyD,e] at t
 | str _=>simp [tyD] at t
 | int _=>simp [tyD] at t
 | _=>exact t.elim
def ub8:M3:=fun x ds G q=>match x,ds with
 | .ref a,[d]=>(match G a with | some (.lst xs)=>xs.length < sizeLine /\ q .non (gup G a (.lst (xs++[d]))) | _=>False)
 | _,_=>False
theorem u92 (ho:E3 X o to) (ha:A3 X (e::es) ts) (hbase:attributeBase o "append" X.env (eval o X.env)=eval o X.env:=by rfl)
  (hfew:((backTo cpos (starEach (e::es) X.env)).all (fun x=>!x.1) && (backToKw cpos (keywordEach [] X.env)).all (fun x=>x.1.isSome)
   && decide ((e::es).length+([]:List Keyword).length+(if ([]:List Keyword).isEmpty then 0 else 1) < 30))=true:=by rfl)
  (hline:(apos.endLine == cpos.line)=true:=by rfl) (hs:starEach (e::es) X.env=(false,eval e X.env)::starEach es X.env:=by rfl) (hplain:(backTo cpos (starEach es X.env)).any (·.1)=false:=by rfl) :
  E3 X (.Call (.Attribute o "append" apos) (e::es) [] cpos) (dBM "list" ub8 to ts) :=
 u32 (uu8 PySem.F.plainAttrs_list PySem.F.slot_list_append PySem.F.type_list_append (ub2 (r':=lowM X.K ub8) ui7 <| by
  rintro x xs H Q ⟨d,ds,G,q,r1,r2,c,t,f⟩;unfold ub8 at t;split at t
  ·rename_i a d'
   split at t
   ·rename_i ys ea
    cases r1.ref_inv;obtain ⟨v,rfl,rv⟩:=r2.one;obtain ⟨zs,h1,q1⟩:=c _ _ ea;exact ⟨a,zs,v,rfl,rfl,h1,by rw [<- q1.length];exact t.1,f _ _ _ _ RelD.nonI (c.lstSet h1 (q1.append (.cons rv .nil))) (Le.lst h1) t.2⟩
   ·exact t.elim
  ·exact t.elim) ho ha hbase hfew hline hs hplain) fun _ _ _=>ui9 (ty_list X.K)
def ub7:M3:=fun x ds G q=>match x,ds with
 | .ref a,[.ref b]=>(match G a,G b with | some (.lst xs),some (.lst ys)=>xs.length+ys.length<=sizeLine /\ q .non (gup G a (.lst (xs++ys))) | _,_=>False)
 | _,_=>False
theorem ug8 (ho:E3 X o to) (ha:A3 X (e::es) ts) (hbase:attributeBase o "extend" X.env (eval o X.env)=eval o X.env:=by rfl)
  (hfew:((backTo cpos (starEach (e::es) X.env)).all (fun x=>!x.1) && (backToKw cpos (keywordEach [] X.env)).all (fun x=>x.1.isSome)
   && decide ((e::es).length+([]:List Keyword).length+(if ([]:List Keyword).isEmpty then 0 else 1) < 30))=true:=by rfl)
  (hline:(apos.endLine == cpos.line)=true:=by rfl) (hs:starEach (e::es) X.env=(false,eval e X.env)::starEach es X.env:=by rfl) (hplain:(backTo cpos (starEach es X.env)).any (·.1)=false:=by rfl) :
  E3 X (.Call (.Attribute o "extend" apos) (e::es) [] cpos) (dBM "list" ub7 to ts) :=
 u32 (uu8 PySem.F.plainAttrs_list PySem.F.slot_list_extend PySem.F.type_list_extend (ub2 (r':=lowM X.K ub7) uv4 <| by
  rintro x xs H Q ⟨d,ds,G,q,r1,r2,c,t,f⟩;unfold ub7 at t;split at t
  ·rename_i a b
   split at t
   ·rename_i ys zs ea eb
    cases r1.ref_inv;obtain ⟨v,rfl,rv⟩:=r2.one;cases rv.ref_inv;obtain ⟨us,h1,q1⟩:=c _ _ ea;obtain ⟨ws,h2,q2⟩:=c _ _ eb;exact ⟨a,b,us,ws,rfl,rfl,h1,h2,by rw [<- q1.length,<- q2.length];exact t.1,f _ _ _ _ RelD.nonI (c.lstSet h1 (q1.append q2)) (Le.lst h1) t.2⟩
   ·exact t.elim
  ·exact t.elim) ho ha hbase hfew hline hs hplain) fun _ _ _=>ui9 (ty_list X.K)
def v44:M3:=fun x ds G q=>match x,ds with
 | .ref a,[]=>(match G a with | some (.lst xs)=>(match xs[xs.length - 1]? with | some y=>q y (gup G a (.lst xs.dropLast)) | none=>False) | _=>False)
 | _,_=>False
theorem vz2 (ho:E3 X o to) (hbase:attributeBase o "pop" X.env (eval o X.env)=eval o X.env:=by rfl) (hline:(apos.endLine == cpos.line)=true:=by rfl):E3 X (.Call (.Attribute o "pop" apos) [] [] cpos) (dBM0 "list" v44 to) :=
 u32 (va1 PySem.F.plainAttrs_list PySem.F.slot_list_pop PySem.F.type_list_pop (ub2 (r':=lowM X.K v44) vw4 <| by
  rintro x xs H Q ⟨d,ds,G,q,r1,r2,c,t,f⟩;unfold v44 at t;split at t
  ·rename_i a
   split at t
   ·rename_i ys ea
    split at t
    ·rename_i y ey
     cases r1.ref_inv;cases r2.inv_nil;obtain ⟨zs,h1,q1⟩:=c _ _ ea;obtain ⟨v,hv,rv⟩:=q1.get ey;exact ⟨a,zs,v,rfl,rfl,h1,by rw [<- q1.length];exact hv,f _ _ _ _ (RelD.le (Le.lst h1) rv) (c.lstSet h1 q1.dropLast) (Le.lst h1) t⟩
    ·exact t.elim
   ·exact t.elim
  ·exact t.elim) ho hbase hline) fun _ _ _=>uw5 (ty_list X.K)
def vh8:M3:=fun x ds G q=>match x,ds with
 | .ref a,[]=>(match G a with | some (.lst _)=>q .non (gup G a (.lst [])) | _=>False)
 | _,_=>False
end
def xEqB (neg:Bool):R3:=fun x y G q=>match x,y with
 | .int i,.int j=>q (.bl (if neg then !decide (i=j) else decide (i=j))) G
 | .str i,.str j=>q (.bl (if neg then !decide (i=j) else decide (i=j))) G
 | .bl i,.bl j=>q (.bl (if neg then !decide (i=j) else decide (i=j))) G
 | .non,.non=>q (.bl (!neg)) G
 | .non,.int _=>q (.bl neg) G
 | .int _,.non=>q (.bl neg) G
 | .non,.bl _=>q (.bl neg) G
 | .bl _,.non=>q (.bl neg) G
 | .non,.str _=>q (.bl neg) G
 | .str _,.non=>q (.bl neg) G
 | .int _,.str _=>q (.bl neg) G
 | .str _,.int _=>q (.bl neg) G
 | .tup xs,.tup ys=>∃ n sd se b,n<=40 /\ snap G n (.tup xs)=some sd /\ snap G n (.tup ys)=some se /\ eqN n sd se=some b /\ q (.bl (if neg then !b else b)) G
 | .ref a,.ref c=>∃ n sd se b,n<=40 /\ snap G n (.ref a)=some sd /\ snap G n (.ref c)=some se /\ eqN n sd se=some b /\ q (.bl (if neg then !b else b)) G
 | _,_=>False
section
variable {X:Cx} {k:Nat}
theorem uo7 {i j:Int}:decide (V.int i=V.int j)=decide (i=j):=by
 by_cases h:i=j
 ·subst h;simp
 ·simp [h]
theorem uo6 {i j:Str}:decide (V.str i=V.str j)=decide (i=j):=by
 by_cases h:i=j
 ·subst h;simp
 ·simp [h]
theorem u65 {G:Gp} {n:Nat} {xs:List D} {sd:Sn} (h:snap G n (.tup xs)=some sd):u36 sd=false:=by
 obtain ⟨_,_,_,rfl,_⟩:=snap_tup h;rfl
theorem u66 {G:Gp} {n:Nat} {a:Addr} {sd:Sn} (h:snap G n (.ref a)=some sd):u36 sd=false:=by
 obtain ⟨_,_,_,_,rfl,_⟩:=snap_ref h;rfl
theorem x_eq (hr:Room k X.A):Op3 X (compareOp .Eq) (xEqB false):=u51 (op_eq.or (vt2 hr)) <| by
 rintro x y H Q ⟨d,e,G,q,r1,r2,c,t,f⟩;have fin:∀ b,q (.bl b) G->Q (.bl b) H:=fun b z=>f _ _ _ _ RelD.blI c (Le.refl H) z
 unfold xEqB at t;split at t
 ·cases r1.int_inv;cases r2.int_inv;exact .inl ⟨rfl,by rw [uo7];exact fin _ t⟩
 ·cases r1.str_inv;cases r2.str_inv;exact .inl ⟨rfl,by rw [uo6];exact fin _ t⟩
 ·cases r1.bl_inv;cases r2.bl_inv;exact .inl ⟨rfl,by rw [ub0];exact fin _ t⟩
 ·cases r1.non_inv;cases r2.non_inv;exact .inl ⟨rfl,fin _ t⟩
 ·cases r1.non_inv;cases r2.int_inv;exact .inl ⟨rfl,fin _ t⟩
 ·cases r1.int_inv;cases r2.non_inv;exact .inl ⟨rfl,fin _ t⟩
 ·cases r1.non_inv;cases r2.bl_inv;exact .inl ⟨rfl,fin _ t⟩
 ·cases r1.bl_inv;cases r2.non_inv;exact .inl ⟨rfl,fin _ t⟩
 ·cases r1.non_inv;cases r2.str_inv;exact .inl ⟨rfl,fin _ t⟩
 ·cases r1.str_inv;cases r2.non_inv;exact .inl ⟨rfl,fin _ t⟩
 ·cases r1.int_inv;cases r2.str_inv;exact .inl ⟨rfl,fin _ t⟩
 ·cases r1.str_inv;cases r2.int_inv;exact .inl ⟨rfl,fin _ t⟩
 ·obtain ⟨n,sd,se,b,hn,h1,h2,hb,t⟩:=t
  exact .inr ⟨_,_,G,n,sd,se,b,r1,r2,c,hn,h1,h2,hb,u65 h1,fin _ t⟩
 ·obtain ⟨n,sd,se,b,hn,h1,h2,hb,t⟩:=t
  exact .inr ⟨_,_,G,n,sd,se,b,r1,r2,c,hn,h1,h2,hb,u66 h1,fin _ t⟩
 ·exact t.elim
theorem x_ne (hr:Room k X.A):Op3 X (compareOp .NotEq) (xEqB true):=u51 (op_ne.or (vs8 hr)) <| by
 rintro x y H Q ⟨d,e,G,q,r1,r2,c,t,f⟩;have fin:∀ b,q (.bl b) G->Q (.bl b) H:=fun b z=>f _ _ _ _ RelD.blI c (Le.refl H) z
 unfold xEqB at t;split at t
 ·cases r1.int_inv;cases r2.int_inv;exact .inl ⟨rfl,by rw [uo7];exact fin _ t⟩
 ·cases r1.str_inv;cases r2.str_inv;exact .inl ⟨rfl,by rw [uo6];exact fin _ t⟩
 ·cases r1.bl_inv;cases r2.bl_inv;exact .inl ⟨rfl,by rw [ub0];exact fin _ t⟩
 ·cases r1.non_inv;cases r2.non_inv;exact .inl ⟨rfl,fin _ t⟩
 ·cases r1.non_inv;cases r2.int_inv;exact .inl ⟨rfl,fin _ t⟩
 ·cases r1.int_inv;cases r2.non_inv;exact .inl ⟨rfl,fin _ t⟩
 ·cases r1.non_inv;cases r2.bl_inv;exact .inl ⟨rfl,fin _ t⟩
 ·cases r1.bl_inv;cases r2.non_inv;exact .inl ⟨rfl,fin _ t⟩
 ·cases r1.non_inv;cases r2.str_inv;exact .inl ⟨rfl,fin _ t⟩
 ·cases r1.str_inv;cases r2.non_inv;exact .inl ⟨rfl,fin _ t⟩
 ·cases r1.int_inv;cases r2.str_inv;exact .inl ⟨rfl,fin _ t⟩
 ·cases r1.str_inv;cases r2.int_inv;exact .inl ⟨rfl,fin _ t⟩
 ·obtain ⟨n,sd,se,b,hn,h1,h2,hb,t⟩:=t
  exact .inr ⟨_,_,G,n,sd,se,b,r1,r2,c,hn,h1,h2,hb,u65 h1,fin _ t⟩
 ·obtain ⟨n,sd,se,b,hn,h1,h2,hb,t⟩:=t
  exact .inr ⟨_,_,G,n,sd,se,b,r1,r2,c,hn,h1,h2,hb,u66 h1,fin _ t⟩
 ·exact t.elim
end
theorem uc0 {c A B:Prop} [Decidable c] (h1:c->A) (h2:¬ c->B):if decide c=true then A else B:=by
 by_cases h:c
 ·simpa [h] using h1 h
 ·simpa [h] using h2 h
theorem u88 {xs:List D}:u15 (some (.lst xs))=some xs:=rfl
theorem ut6 {xs:List D}:u15 (some (.fro xs))=some xs:=rfl
theorem w09 {α:Type} {x:α} {xs:List α}:atI (x::xs) 0=some x:=u50 (j:=0) rfl
theorem w67 {α:Type} {x y:α} {xs:List α}:atI (x::y::xs) 1=some y:=u50 (j:=1) rfl
theorem w66 {α:Type} {x y z:α} {xs:List α}:atI (x::y::z::xs) 2=some z:=u50 (j:=2) rfl
theorem w65 {α:Type} {x y z u:α} {xs:List α}:atI (x::y::z::u::xs) 3=some u:=u50 (j:=3) rfl
theorem w64 {α:Type} {x y z u v:α} {xs:List α}:atI (x::y::z::u::v::xs) 4=some v:=u50 (j:=4) rfl
theorem vy1:ixN 3 0=some 0:=rfl
theorem vy0:ixN 3 1=some 1:=rfl
theorem vx9:ixN 3 2=some 2:=rfl
theorem vy3:ixN 2 0=some 0:=rfl
theorem vy2:ixN 2 1=some 1:=rfl
theorem ux7 {n:Nat} {i:Int} (h0:0<=i) (h:i < n):ixN n i=some i.toNat:=by
 unfold ixN;rw [if_pos h0,if_pos h]
theorem ul8 {α:Type} {xs:List α} {i:Int} (h0:0<=i) (h:i < xs.length):atI xs i=some (xs[i.toNat]'(by omega)):=by
 unfold atI;rw [ux7 h0 h];exact List.getElem?_eq_getElem _
theorem vl8 {α β:Type} {f:α->β} {xs:List α} {i:Int} (h0:0<=i) (h:i < xs.length):atI (xs.map f) i=some (f (xs[i.toNat]'(by omega))):=by
 rw [ul8 h0 (by simpa using h)];simp
theorem uj4 {i j:Int} (h0:0<=i) (h:i < 18446744073709551616):CMul i j:=.inl ⟨by omega,by omega⟩
theorem uj3 {i j:Int} (h0:0<=j) (h:j < 18446744073709551616):CMul i j:=.inr ⟨by omega,by omega⟩
theorem w68 {j:Int} (h0:0<=j) (h:j<=1000):CPow 2 j:=⟨h0,by omega,by decide⟩
theorem w06 {j:Int} (h0:0<=j) (h:j<=1000):CPow 1 j:=⟨h0,by omega,by decide⟩
end L3
namespace L3
theorem u21 {S:Sp3} {ds:List D} {G:Gp} {post:DK} {q:DK} (h:∀ R:DK,(∀ d G',post d G'->R d G')->S ds G R) (k:∀ d G',post d G'->q d G'):∃ R,S ds G R /\ ∀ d G',R d G'->q d G' :=
 ⟨post,h _ fun _ _ z=>z,k⟩
theorem u34 {ok:Gp->Prop} {g:TG3} {tb:TS3} {E:Ends3} (I:List D->DSt->Gp->Prop) {items:List D} {σ:DSt} {G:Gp} (h0:I items σ G) (nil:∀ σ G,I [] σ G->ok G /\ E.nx σ G)
  (cons:∀ x r σ G,I (x::r) σ G->(∀ σ' G',I r σ' G'->forL ok g tb E r σ' G')->ok G /\ g x σ G fun σ1 G1=>tb { E with nx:=forL ok g tb E r,ct:=forL ok g tb E r,bk:=E.nx } σ1 G1):forL ok g tb E items σ G:=by
 induction items generalizing σ G with
 | nil=>exact nil σ G h0
 | cons x r ih=>exact cons x r σ G h0 fun σ' G' h=>ih h
theorem uz9 {ok:Gp->Prop} {g:TG3} {tc:TT3} {te:TE3} {p:PySem.Addr} {q:DK} (I:List D->DSt->Gp->Prop) {items:List D} {σ:DSt} {G:Gp} (h0:I items σ G) (nil:∀ σ G,I [] σ G->ok G /\ q (.ref p) G)
  (cons:∀ x r σ G,I (x::r) σ G->(∀ σ' G',I r σ' G'->uh1 ok g tc te p q r σ' G')->ok G /\ g x σ G fun σ2 G2=>tc σ2 G2 fun b G3 =>
   if b=true then te σ2 G3 fun d G4=>(match G4 p with | some (.lst ys)=>ys.length < PySem.sizeLine /\ uh1 ok g tc te p q r σ2 (gup G4 p (.lst (ys++[d]))) | _=>False)
   else uh1 ok g tc te p q r σ2 G3):uh1 ok g tc te p q items σ G:=by
 induction items generalizing σ G with
 | nil=>exact nil σ G h0
 | cons x r ih=>exact cons x r σ G h0 fun σ' G' h=>ih h
theorem us5 {c:TT3} {tb:TS3} {E:Ends3} (I:Nat->DSt->Gp->Prop) {m:Nat} {σ:DSt} {G:Gp} (h0:I m σ G)
  (step:∀ m σ G N,I m σ G->(∀ σ' G' m',m=m'+1->I m' σ' G'->N σ' G')->c σ G fun b G1=>if b=true then tb { E with nx:=N,ct:=N,bk:=E.nx } σ G1 else E.nx σ G1):uo8 c tb E σ G:=by
 refine ⟨m+1,?_⟩
 induction m generalizing σ G with
 | zero=>exact step 0 σ G (whN c tb E 0) h0 fun σ' G' m' e=>absurd e (by omega)
 | succ m ih=>exact step (m+1) σ G (whN c tb E (m+1)) h0 fun σ' G' m' e h=>ih (by cases e;exact h)
end L3
namespace Rw
open PySem L2 L3
theorem u33 (lo:Int) (n:Nat):rngD lo (n+1)=.int lo::rngD (lo+1) n:=by
 unfold rngD;rw [List.range_succ_eq_map,List.map_cons,List.map_map]
 congr 1
 ·simp
 ·apply List.map_congr_left
  intro i _
  show D.int _=D.int _
  congr 1
  simp;omega
structure Grow (G G':Gp):Prop where
 kp:∀ b o,G b=some o->G' b=some o
theorem Grow.refl {G:Gp}:Grow G G:=⟨fun _ _ h=>h⟩
theorem Grow.trans {G G1 G2:Gp} (a:Grow G G1) (b:Grow G1 G2):Grow G G2:=⟨fun c o h=>b.kp c o (a.kp c o h)⟩
theorem Grow.new {G G1:Gp} {p:Addr} {o:DO} (a:Grow G G1) (h:G1 p=none):Grow G (gup G1 p o):=⟨fun b u e=>by rw [u08 (gne (a.kp b u e) h)];exact a.kp b u e⟩
theorem Grow.own {G G1:Gp} {p:Addr} {o:DO} (a:Grow G G1) (h:G p=none):Grow G (gup G1 p o):=⟨fun b u e=>by rw [u08 (gne e h)];exact a.kp b u e⟩
theorem Grow.none {G G1:Gp} {p:Addr} (a:Grow G G1) (h:G1 p=none):G p=none:=by
 cases e:G p with
 | none=>rfl
 | some o=>rw [a.kp p o e] at h;cases h
end Rw
namespace L3
open PySem PySem.Spec PyProof.Rows L2
theorem vn3:(∀ i j G q,xEqB false (.int i) (.int j) G q=q (.bl (decide (i=j))) G) /\ (∀ i j G q,xEqB true (.int i) (.int j) G q=q (.bl (!decide (i=j))) G) /\
  (∀ i j G q,xEqB false (.str i) (.str j) G q=q (.bl (decide (i=j))) G) /\ (∀ i j G q,xEqB true (.str i) (.str j) G q=q (.bl (!decide (i=j))) G) /\
  (∀ a c G q,xEqB false (.ref a) (.ref c) G q=∃ n sd se b,n<=40 /\ snap G n (.ref a)=some sd /\ snap G n (.ref c)=some se /\ eqN n sd se=some b /\ q (.bl b) G) /\
  (∀ a c G q,xEqB true (.ref a) (.ref c) G q=∃ n sd se b,n<=40 /\ snap G n (.ref a)=some sd /\ snap G n (.ref c)=some se /\ eqN n sd se=some b /\ q (.bl (!b)) G) /\
  (∀ a c G q,xEqB false (.tup a) (.tup c) G q=∃ n sd se b,n<=40 /\ snap G n (.tup a)=some sd /\ snap G n (.tup c)=some se /\ eqN n sd se=some b /\ q (.bl b) G) /\
  (∀ a c G q,xEqB true (.tup a) (.tup c) G q=∃ n sd se b,n<=40 /\ snap G n (.tup a)=some sd /\ snap G n (.tup c)=some se /\ eqN n sd se=some b /\ q (.bl (!b)) G) /\
  (∀ i j G q,xAdd (.int i) (.int j) G q=q (.int (i+j)) G) /\ (∀ i j G q,xMul (.int i) (.int j) G q=(CMul i j /\ q (.int (i * j)) G)) /\
  (∀ a k G q,xMul (.ref a) (.int k) G q=(match G a with | some (.lst xs)=>(-(2 ^ 63)<=k /\ k < 2 ^ 63 /\ xs.length * k.toNat<=sizeLine) /\ ∀ p,G p=none->q (.ref p) (gup G p (.lst (List.replicate k.toNat xs).flatten)) | _=>False)) /\
  (∀ i j G q,xLt (.int i) (.int j) G q=q (.bl (decide (i < j))) G) /\
  (∀ ds i G q,xIx (.tup ds) (.int i) G q=(match atI ds i with | some d=>q d G | none=>False)) /\
  (∀ a i G q,xIx (.ref a) (.int i) G q=(match u15 (G a) with | some ds=>(match atI ds i with | some d=>q d G | none=>False) | none=>False)) /\
  (∀ xs G q,xLen [.tup xs] G q=q (.int xs.length) G) /\ (∀ a G q,xLen [.ref a] G q=(match u15 (G a) with | some xs=>q (.int xs.length) G | none=>False)) :=
 ⟨fun _ _ _ _=>rfl,fun _ _ _ _=>rfl,fun _ _ _ _=>rfl,fun _ _ _ _=>rfl,fun _ _ _ _=>rfl,fun _ _ _ _=>rfl,fun _ _ _ _=>rfl,fun _ _ _ _=>rfl,fun _ _ _ _=>rfl,fun _ _ _ _=>rfl,fun _ _ _ _=>rfl,fun _ _ _ _=>rfl,fun _ _ _ _=>rfl,fun _ _ _ _=>rfl,fun _ _ _=>rfl,fun _ _ _=>rfl⟩
theorem vn2:(∀ f i j G q,xInt f (.int i) (.int j) G q=q (.int (f i j)) G) /\ (∀ C f i j G q,uf6 C f (.int i) (.int j) G q=(C i j /\ q (.int (f i j)) G)) /\ (∀ i j G q,xLe (.int i) (.int j) G q=q (.bl (decide (i<=j))) G) /\
  (∀ i j G q,xGt (.int i) (.int j) G q=q (.bl (decide (j < i))) G) /\ (∀ i j G q,xGe (.int i) (.int j) G q=q (.bl (decide (j<=i))) G) /\ (∀ i G q,xNeg (.int i) G q=q (.int (-i)) G) /\
  (∀ a k v G q,xSet (.ref a) (.int k) v G q=(match G a with | some (.lst ds)=>(match ixN ds.length k with | some j=>q (gup G a (.lst (ds.set j v))) | none=>False) | _=>False)) /\
  (∀ a lo hi G q,um6 (.ref a) lo hi G q=(match u15 (G a) with | some ds=>∀ p,G p=none->q (.ref p) (gup G p (.lst (cutD ds lo hi))) | none=>False)) /\
  (∀ ds lo hi G q,um6 (.tup ds) lo hi G q=(¬ (HT.sIx ds.length 0 lo=0 /\ HT.sIx ds.length ds.length hi=ds.length) /\ q (.tup (cutD ds lo hi)) G)) /\
  (∀ x G q,xIs2 x .non G q=(match x with | .non=>q (.bl true) G | _=>q (.bl false) G)) /\ (∀ x b G q,xIs2 x (.bl b) G q=(match x with | .bl c=>q (.bl (decide (c=b))) G | _=>q (.bl false) G)) /\
  (∀ x G q,uf5 x .non G q=(match x with | .non=>q (.bl false) G | _=>q (.bl true) G)) /\ (∀ x b G q,uf5 x (.bl b) G q=(match x with | .bl c=>q (.bl (!decide (c=b))) G | _=>q (.bl true) G)) /\
  (∀ i G q,xAbs [.int i] G q=q (.int (if i < 0 then -i else i)) G) /\ (∀ i j G q,vb9 [.int i,.int j] G q=(CDiv i j /\ q (.tup [.int (i / j),.int (i % j)]) G)) /\
  (∀ i j G q,vb8 [.int i,.int j] G q=q (.int (if j > i then j else i)) G) /\ (∀ i j G q,w25 [.int i,.int j] G q=q (.int (if j < i then j else i)) G) /\
  (∀ i G q,um5 [.int i] G q=q (.int i) G) /\ (∀ b G q,um5 [.bl b] G q=q (.int (if b then 1 else 0)) G) /\
  (∀ xs G q,us4 [.tup xs] G q=∀ p,G p=none->q (.ref p) (gup G p (.lst xs))) /\ (∀ a G q,us4 [.ref a] G q=(match u15 (G a) with | some xs=>∀ p,G p=none->q (.ref p) (gup G p (.lst xs)) | none=>False)) /\
  (∀ xs G q,u86 [.tup xs] G q=q (.tup xs) G) /\ (∀ a G q,u86 [.ref a] G q=(match u15 (G a) with | some xs=>q (.tup xs) G | none=>False)) /\
  (∀ a G q,xAll [.ref a] G q=(match u15 (G a) with | some xs=>(match vm0 xs with | some bs=>q (.bl (bs.all id)) G | none=>False) | none=>False)) /\
  (∀ x T G q,uk2 [x,.ty T] G q=((T = "int" \/ T = "str" \/ T = "bool" \/ T = "list" \/ T = "tuple" \/ T = "dict") /\ (match v58 G x with | some n=>q (.bl (subK n T)) G | none=>False))) /\
  (∀ a d G q,ub8 (.ref a) [d] G q=(match G a with | some (.lst xs)=>xs.length < sizeLine /\ q .non (gup G a (.lst (xs++[d]))) | _=>False)) /\
  (∀ a b G q,ub7 (.ref a) [.ref b] G q=(match G a,G b with | some (.lst xs),some (.lst ys)=>xs.length+ys.length<=sizeLine /\ q .non (gup G a (.lst (xs++ys))) | _,_=>False)) /\
  (∀ a G q,vh8 (.ref a) [] G q=(match G a with | some (.lst _)=>q .non (gup G a (.lst [])) | _=>False)):=by
 refine ⟨?_,?_,?_,?_,?_,?_,?_,?_,?_,?_,?_,?_,?_,?_,?_,?_,?_,?_,?_,?_,?_,?_,?_,?_,?_,?_,?_,?_⟩ <;> intros <;> rfl
def strsOf:List D->Option (List Str)
 | []=>some []
 | .str x::r=>(strsOf r).map (x::·)
 | _=>none
def intsOf:List D->Option (List Int)
 | []=>some []
 | .int x::r=>(intsOf r).map (x::·)
 | _=>none
section
variable {X:Cx} {K:W.Frag} {H:Hp}
theorem u94:∀ {ds:List D} {ws:List Str} {vs:List V},strsOf ds=some ws->RelDs K H ds vs->vs=ws.map V.str
 | [],ws,vs,e,r=>by cases e;rw [r.inv_nil];rfl
 | .str b::ds,ws,vs,e,r=>by
  obtain ⟨x,xs,rfl,h1,h2⟩:=r.inv_cons;obtain ⟨ws',e',rfl⟩:=Option.map_eq_some_iff.mp (show (strsOf ds).map (b::·)=some ws from e);rw [h1.str_inv,u94 e' h2];rfl
 | .non::_,_,_,e,_=>by cases e
 | .bl _::_,_,_,e,_=>by cases e
 | .int _::_,_,_,e,_=>by cases e
 | .tup _::_,_,_,e,_=>by cases e
 | .ref _::_,_,_,e,_=>by cases e
 | .ty _::_,_,_,e,_=>by cases e
theorem u98:∀ {ds:List D} {ws:List Int} {vs:List V},intsOf ds=some ws->RelDs K H ds vs->vs=ws.map V.int
 | [],ws,vs,e,r=>by cases e;rw [r.inv_nil];rfl
 | .int b::ds,ws,vs,e,r=>by
  obtain ⟨x,xs,rfl,h1,h2⟩:=r.inv_cons;obtain ⟨ws',e',rfl⟩:=Option.map_eq_some_iff.mp (show (intsOf ds).map (b::·)=some ws from e);rw [h1.int_inv,u98 e' h2];rfl
 | .non::_,_,_,e,_=>by cases e
 | .bl _::_,_,_,e,_=>by cases e
 | .str _::_,_,_,e,_=>by cases e
 | .tup _::_,_,_,e,_=>by cases e
 | .ref _::_,_,_,e,_=>by cases e
 | .ty _::_,_,_,e,_=>by cases e
theorem ux9 {w:Str} {ws:List Str}:inV (V.str w) (ws.map V.str)=decide (w ∈ ws):=by
 unfold inV
 induction ws with
 | nil=>rfl
 | cons x xs ih =>
  rw [List.map_cons,List.any_cons,ih]
  show ((x == w) || decide (w ∈ xs))=_
  by_cases h:x=w
  ·subst h;simp
  ·have h':¬ w=x:=fun e=>h e.symm
   have:(x == w)=false:=by simpa using h
   rw [this];simp [h']
theorem uy0 {w:Int} {ws:List Int}:inV (V.int w) (ws.map V.int)=decide (w ∈ ws):=by
 unfold inV
 induction ws with
 | nil=>rfl
 | cons x xs ih =>
  rw [List.map_cons,List.any_cons,ih]
  show ((x == w) || decide (w ∈ xs))=_
  by_cases h:x=w
  ·subst h;simp
  ·have h':¬ w=x:=fun e=>h e.symm
   have:(x == w)=false:=by simpa using h
   rw [this];simp [h']
theorem uc2:∀ ws:List Str,(ws.map V.str).all uc4=true
 | []=>rfl
 | _::ws=>by rw [List.map_cons,List.all_cons,uc2 ws];rfl
theorem uc3:∀ ws:List Int,(ws.map V.int).all uc4=true
 | []=>rfl
 | _::ws=>by rw [List.map_cons,List.all_cons,uc3 ws];rfl
def xInB (neg:Bool):R3:=fun x y G q=>match x,y with
 | .str w,.tup ds=>(match strsOf ds with | some ws=>q (.bl (if neg then !decide (w ∈ ws) else decide (w ∈ ws))) G | none=>False)
 | .str w,.ref a=>(match u15 (G a) with | some ds=>(match strsOf ds with | some ws=>q (.bl (if neg then !decide (w ∈ ws) else decide (w ∈ ws))) G | none=>False) | none=>False)
 | .int w,.tup ds=>(match intsOf ds with | some ws=>q (.bl (if neg then !decide (w ∈ ws) else decide (w ∈ ws))) G | none=>False)
 | .int w,.ref a=>(match u15 (G a) with | some ds=>(match intsOf ds with | some ws=>q (.bl (if neg then !decide (w ∈ ws) else decide (w ∈ ws))) G | none=>False) | none=>False)
 | _,_=>False
theorem va4 {neg:Bool} {x y:V} {Q:VK} (h:lowR K (xInB neg) x y H Q):rIn K neg x y H Q:=by
 obtain ⟨d,e,G,q,r1,r2,c,t,f⟩:=h;unfold xInB at t;split at t
 ·rename_i w ds
  split at t
  ·rename_i ws es
   obtain ⟨a,xs,rfl,s1,q1⟩:=r2.tup_inv;cases r1.str_inv;obtain rfl:=u94 es q1;exact ⟨a,_,rfl,.inr s1,rfl,uc2 ws,f _ _ _ _ (by rw [ux9];exact RelD.blI) c (Le.refl H) t⟩
  ·exact t.elim
 ·rename_i w a
  split at t
  ·rename_i ds eq
   split at t
   ·rename_i ws es
    obtain ⟨xs,s1,q1⟩:=u27 c eq;cases r1.str_inv;obtain rfl:=u94 es q1;exact ⟨a,_,r2.ref_inv,.inl s1,rfl,uc2 ws,f _ _ _ _ (by rw [ux9];exact RelD.blI) c (Le.refl H) t⟩
   ·exact t.elim
  ·exact t.elim
 ·rename_i w ds
  split at t
  ·rename_i ws es
   obtain ⟨a,xs,rfl,s1,q1⟩:=r2.tup_inv;cases r1.int_inv;obtain rfl:=u98 es q1;exact ⟨a,_,rfl,.inr s1,rfl,uc3 ws,f _ _ _ _ (by rw [uy0];exact RelD.blI) c (Le.refl H) t⟩
  ·exact t.elim
 ·rename_i w a
  split at t
  ·rename_i ds eq
   split at t
   ·rename_i ws es
    obtain ⟨xs,s1,q1⟩:=u27 c eq;cases r1.int_inv;obtain rfl:=u98 es q1;exact ⟨a,_,r2.ref_inv,.inl s1,rfl,uc3 ws,f _ _ _ _ (by rw [uy0];exact RelD.blI) c (Le.refl H) t⟩
   ·exact t.elim
  ·exact t.elim
 ·exact t.elim
theorem x_in {k:Nat} {A:Around} (_:Room k A):Op3 X (compareOp .In) (xInB false):=u51 uv1 fun _ _ _ _ h=>va4 h
theorem uk1 {k:Nat} {A:Around} (_:Room k A):Op3 X (compareOp .NotIn) (xInB true):=u51 ui6 fun _ _ _ _ h=>va4 h
end
end L3
namespace Law
open PySem L2 L3 Rw
theorem v87 {v:Int} (h:0<=v):∃ x:Nat,v=(x:Int):=⟨v.toNat,by omega⟩
end Law
namespace Rw
open PySem L2 L3
theorem ua9 {α β:Type} {f:α->Option β}:∀ {xs:List α},(∀ x ∈ xs,∃ y,f x=some y)->∃ ys,xs.mapM f=some ys
 | [],_=>⟨[],rfl⟩
 | x::xs,h=>by
  obtain ⟨y,hy⟩:=h x List.mem_cons_self;obtain ⟨ys,hys⟩:=ua9 (xs:=xs) fun z hz=>h z (List.mem_cons_of_mem _ hz)
  exact ⟨y::ys,by rw [List.mapM_cons,hy,hys];rfl⟩
theorem snap_tup {G:Gp} {n:Nat} {ds:List D} (h:∀ d ∈ ds,∃ s,snap G n d=some s):∃ s,snap G (n+1) (.tup ds)=some s:=by
 obtain ⟨ys,e⟩:=ua9 h;exact ⟨.tup ys,by show (ds.mapM (snap G n)).map Sn.tup=_;rw [e];rfl⟩
theorem snap_int {G:Gp} {n:Nat} {i:Int}:∃ s,snap G n (.int i)=some s:=by cases n <;> exact ⟨_,rfl⟩
theorem snap_str {G:Gp} {n:Nat} {i:Str}:∃ s,snap G n (.str i)=some s:=by cases n <;> exact ⟨_,rfl⟩
theorem snap_ref {G:Gp} {n:Nat} {a b:Addr} (h:u15 (G a)=u15 (G b)):snap G n (.ref a)=snap G n (.ref b):=by
 cases n with
 | zero=>rfl
 | succ n=>show ((u15 (G a)).bind _)=((u15 (G b)).bind _);rw [h]
end Rw
namespace L3
open PySem PySem.Spec PyProof.Rows L2
section
variable {X:Cx}
theorem ue7:∀ ks:List Int,ue8 (ks.map D.int)=some ks
 | []=>rfl
 | k::ks=>by show (ue8 (ks.map D.int)).map (k::·)=_;rw [ue7 ks];rfl
end
section
variable {X:Cx} {o:Expr} {to:TE3} {apos cpos:Pos}
def xInv:U3:=fun x G q=>match x with | .int i=>q (.int (Builtin.bitNot i)) G | _=>False
def vw5:M3:=fun x ds G q=>match x,ds with
 | .ref a,[]=>(match G a with | some (.lst xs)=>q .non (gup G a (.lst xs.reverse)) | _=>False)
 | _,_=>False
def w38:V->List V->Hp->VK->Prop:=fun x vs H Q=>∃ i:Int,x=.int i /\ vs=[] /\ Q (.int (Builtin.Int.intBits i:Int)) H
theorem vh7:MtR X "int.bit_length" w38:=by
 intro pins s σ H x vs v us Q I rx rv h;obtain ⟨i,rfl,rfl,q⟩:=h;obtain ⟨t,rfl⟩:=rx;have hus:=rv.zero;subst hus;exact call_int_bit_length ⟨.int _,H,I.tok _,⟨_,rfl⟩,q⟩
def uv6:M3:=fun x ds G q=>match x,ds with
 | .int i,[]=>q (.int (Builtin.Int.intBits i:Int)) G
 | _,_=>False
theorem ty_int (K:W.Frag):∀ G H x v,Con K G H->RelD K H x v->tyD G "int" x->tyV K "int" v H:=by
 intro G H x v c r t;cases x with
 | int i=>cases r.int_inv;exact rfl
 | str _=>simp [tyD] at t
 | ref a=>cases e:G a with
  | none=>simp [tyD,e] at t
  | some o=>cases o <;> simp [tyD,e] at t
 | _=>exact t.elim
theorem ug9 (ho:E3 X o to) (hbase:attributeBase o "bit_length" X.env (eval o X.env)=eval o X.env:=by rfl) (hline:(apos.endLine == cpos.line)=true:=by rfl):E3 X (.Call (.Attribute o "bit_length" apos) [] [] cpos) (dBM0 "int" uv6 to) :=
 u32 (va1 PySem.F.plainAttrs_int PySem.F.slot_int_bit_length PySem.F.type_int_bit_length (ub2 (r':=lowM X.K uv6) vh7 <| by
  rintro x xs H Q ⟨d,ds,G,q,r1,r2,c,t,f⟩;unfold uv6 at t;split at t
  ·cases r1.int_inv
   cases r2.inv_nil;exact ⟨_,rfl,rfl,f _ _ _ _ RelD.intI c (Le.refl H) t⟩
  ·exact t.elim) ho hbase hline) fun _ _ _=>uw5 (ty_int X.K)
end
end L3
namespace L3
open PySem PySem.Spec PyProof.Rows L2 Rw
abbrev Mv:=Bool × Nat
def nD (x:Nat):D:=.int (x:Int)
def xr (m k:Nat):Nat:=m ^^^ 2 ^ (k - 1)
def hi (m:Nat):Nat:=if m=0 then 0 else m.log2+1
theorem uy2 (m:Nat):Builtin.Int.intBits (m:Int)=hi m:=by
 unfold Builtin.Int.intBits hi
 by_cases h:m=0
 ·subst h;rfl
 ·have:((m:Int) == 0)=false:=by rw [beq_eq_false_iff_ne];omega
  rw [this,if_neg h,if_neg (by decide),Int.natAbs_natCast]
def fin:Nat->List Mv->Nat
 | m,[]=>m
 | m,p::r=>fin (xr m p.2) r
def low:Nat->List Mv->Nat
 | m,[]=>hi m
 | m,p::r=>min (low (xr m p.2) r) (hi m)
theorem v75 {α:Type} (ns:List α) (c:α):atI (ns++[c]) (-1)=some c:=by
 unfold atI ixN;rw [if_neg (by decide),if_pos (by simp;omega)];have e:(-1+((ns++[c]).length:Int)).toNat=ns.length:=by simp;omega
 rw [Option.bind_some,e];simp
def hD (x:Nat):D:=nD (hi x)
theorem um1 {G:Gp} {a b:Addr} {xs ys:List D} {q:DK} (ha:G a=some (.lst xs)) (hb:G b=some (.lst ys)) (hz:xs.length+ys.length<=sizeLine) (k:∀ p,G p=none->q (.ref p) (gup G p (.lst (xs++ys)))):xAdd (.ref a) (.ref b) G q:=by
 unfold xAdd;simp only [ha,hb];exact ⟨hz,k⟩
theorem ur9 {G:Gp} {a:Addr} {ns:List Int} {q:DK} (h:u15 (G a)=some (ns.map .int)) (k:q (.int ns.sum) G):xSum [.ref a] G q:=by
 unfold xSum;simp only [h,ue7];exact k
theorem up0 {α:Type} {xs:List α} {n:Nat}:cutD xs none (some (n:Int))=xs.take n:=by
 unfold cutD;rw [HT.sIx_none,HT.sIx_nat,List.drop_zero,Nat.sub_zero]
 rcases Nat.le_total n xs.length with h | h
 ·rw [Nat.min_eq_left h]
 ·rw [Nat.min_eq_right h,List.take_of_length_le (Nat.le_refl _),List.take_of_length_le h]
theorem va2 {P:Program} {w:World} {K:W.Frag} {mg:Str->Option Value} {base:Heap} {n:Nat} {x qual:Str} {st:Stmt} {ps:List Str} {d:FnAt K x qual st ps} {S:Sp3} (h:∀ ds G R,¬ S ds G R):Ok P w mg base n d S :=
 ⟨fun vs H Q E ⟨ds,G,R,_,_,s,_⟩=>absurd s (h ds G R),fun A outer s H args us vs Q E _ _ _ _ ⟨ds,G,R,_,_,s,_⟩=>absurd s (h ds G R)⟩
end L3
namespace L3
open PySem PySem.Spec PyProof.Rows L2
def kD:Key->D
 | .inl i=>.int i
 | .inr x=>.str x
section
variable {X:Cx} {K:W.Frag} {G:Gp} {H:Hp} {p:Addr}
theorem Le.dT {xs ys:List (List Key × V)} (h:H p=some (.dT xs)):Le H (upd H p (.dT ys)) :=
  ⟨fun b zs q => by by_cases e : b = p
                    · subst e;rw [h] at q;cases q
                    · rw [u11 e];exact q,
   fun b o u q => by by_cases e : b = p
                     · subst e;rw [h] at q;cases q
                     · rw [u11 e];exact q⟩
end
end L3
namespace L2
open PySem PySem.Spec PyProof.Rows
def jn (sep:Str) (ws:List Str):Str:=Builtin.Str.glued sep ws
section
variable {X:Cx}
theorem uh5:∀ {ws:List Str} {us:List Value},Vals (ws.map V.str) us->∃ l:List (Str × Tok),us=strValues l /\ l.map (·.1)=ws
 | [],_,.nil=>⟨[],rfl,rfl⟩
 | w::ws,_,.cons r t=>by
  obtain ⟨l,rfl,e⟩:=uh5 t;obtain ⟨k,rfl⟩:=r;exact ⟨(w,k)::l,rfl,by rw [List.map_cons,e]⟩
def rJoin (K:W.Frag):V->List V->Hp->VK->Prop:=fun x vs H Q=>∃ (sep:Str) (p:Addr) (ws:List Str),x=.str sep /\ vs=[.ref p] /\ SqL K H p (ws.map V.str) /\ Builtin.Str.tooLong ((ws.toArray).foldl (·+·.length+sep.length) 0)=false /\ (jn sep ws).length<=sizeLine /\ Q (.str (jn sep ws)) H
theorem vh5:MtR X "str.join" (rJoin X.K):=by
 intro pins s σ H x vs v us Q I rx rv h;obtain ⟨sep,p,ws,rfl,rfl,hq,hl,hz,q⟩:=h;obtain ⟨t,rfl⟩:=rx;obtain ⟨u,rfl,ru⟩:=rv.one;cases ru;obtain ⟨its,r',pl,_⟩:=I.list hq;obtain ⟨l,rfl,e⟩:=uh5 r';refine call_meets F.slot_str_join (typeIs_str _ _ _) F.entry_str_join (F.args_str_join_2 _ _) (meets_str_join_list sep t p l (by rw [e];exact hl)) ⟨pl.isList,?_⟩
 match l,e with
 | [],e =>
  subst e;exact ⟨hz,.str _,H,I.tok _,⟨_,rfl⟩,q⟩
 | [a],e =>
  subst e;exact ⟨.str _,H,I,⟨_,rfl⟩,q⟩
 | a::b::l,e =>
  subst e;exact ⟨hz,.str _,H,I.tok _,⟨_,rfl⟩,q⟩
end
end L2
namespace L3
open PySem PySem.Spec PyProof.Rows L2
section
variable {X:Cx} {K:W.Frag} {H:Hp} {o e:Expr} {es:List Expr} {to:TE3} {ts:TA3} {apos cpos:Pos}
@[reducible] def vw6:M3:=fun x ds G q=>∃ (sep:Str) (a:Addr) (ws:List Str),x=.str sep /\ ds=[.ref a] /\ u15 (G a)=some (ws.map .str) /\ Builtin.Str.tooLong ((ws.toArray).foldl (·+·.length+sep.length) 0)=false /\ (jn sep ws).length<=sizeLine /\ q (.str (jn sep ws)) G
theorem um9:∀ {ws:List Str} {vs:List V},RelDs K H (ws.map .str) vs->vs=ws.map V.str
 | [],vs,r=>r.inv_nil
 | w::ws,vs,r=>by
  obtain ⟨x,ys,rfl,h1,h2⟩:=r.inv_cons;rw [um9 h2,h1.str_inv];rfl
theorem ty_str (K:W.Frag):∀ G H x v,Con K G H->RelD K H x v->tyD G "str" x->tyV K "str" v H:=by
 intro G H x v c r t;cases x with
 | str i=>cases r.str_inv;exact rfl
 | int _=>simp [tyD] at t
 | ref a=>cases e:G a with
  | none=>simp [tyD,e] at t
  | some o=>cases o <;> simp [tyD,e] at t
 | _=>exact t.elim
theorem vz3 (ho:E3 X o to) (ha:A3 X (e::es) ts) (hbase:attributeBase o "join" X.env (eval o X.env)=eval o X.env:=by rfl)
  (hfew:((backTo cpos (starEach (e::es) X.env)).all (fun x=>!x.1) && (backToKw cpos (keywordEach [] X.env)).all (fun x=>x.1.isSome)
   && decide ((e::es).length+([]:List Keyword).length+(if ([]:List Keyword).isEmpty then 0 else 1) < 30))=true:=by rfl)
  (hline:(apos.endLine == cpos.line)=true:=by rfl) (hs:starEach (e::es) X.env=(false,eval e X.env)::starEach es X.env:=by rfl) (hplain:(backTo cpos (starEach es X.env)).any (·.1)=false:=by rfl) :
  E3 X (.Call (.Attribute o "join" apos) (e::es) [] cpos) (dBM "str" vw6 to ts) :=
 u32 (uu8 PySem.F.plainAttrs_str PySem.F.slot_str_join PySem.F.type_str_join (ub2 (r':=lowM X.K vw6) vh5 <| by
  rintro x xs H Q ⟨d,ds,G,q,r1,r2,c,⟨sep,a,ws,rfl,rfl,es,h1,h2,t⟩,f⟩;obtain ⟨v,rfl,r3⟩:=r2.one;cases r3.ref_inv;cases r1.str_inv;obtain ⟨ys,s1,q1⟩:=u27 c es;obtain rfl:=um9 q1;exact ⟨sep,a,ws,rfl,rfl,s1,h1,h2,f _ _ _ _ RelD.strI c (Le.refl H) t⟩) ho ha hbase hfew hline hs hplain) fun _ _ _=>ui9 (ty_str X.K)
theorem vx6:∀ ws:List Str,(jn Str.empty ws).length=(ws.map Str.length).sum:=by
 have key:∀ (ws:List Str) (acc:Array Nat),(ws.foldl (fun acc p=>acc++Str.empty.cps++p.cps) acc).size=acc.size+(ws.map Str.length).sum:=by
  intro ws
  induction ws with
  | nil=>intro acc;simp
  | cons w ws ih =>
   intro acc;rw [List.foldl_cons,ih,Array.size_append,Array.size_append]
   show acc.size+0+w.cps.size+_=_
   rw [List.map_cons,List.sum_cons]
   show _=acc.size+(w.cps.size+_)
   omega
 intro ws;cases ws with
 | nil=>rfl
 | cons w ws =>
  show (ws.foldl (fun acc p=>acc++Str.empty.cps++p.cps) w.cps).size=_
  rw [key];rfl
end
end L3
namespace L2
open PySem PySem.Spec PyProof.Rows
section
variable {X:Cx}
theorem vh2:OpR X (binaryOp .Mult) (fun x y H Q=>∃ (z:Str) (n:Int),x=.str z /\ y=.int n /\ (n=0 \/ n=1) /\ Q (.str (if n=0 then Str.empty else z)) H):=by
 intro pins s σ H x y v u Q I rx ry h;obtain ⟨z,n,rfl,rfl,hn,q⟩:=h;obtain ⟨t,rfl⟩:=rx;obtain ⟨t2,rfl⟩:=ry
 rcases hn with rfl | rfl
 ·exact PySem.P.mul_str_none (by decide) (by decide) ⟨.str _,H,I.tok _,⟨_,rfl⟩,q⟩
 ·refine PySem.P.mul_str (by decide) (fun _ h2=>by simp at h2) (fun _ h2=>by simp at h2) ?_
  rw [if_neg (by decide),if_pos (by simp)];exact ⟨.str z,H,I,⟨_,rfl⟩,q⟩
end
end L2
namespace L3
open PySem PySem.Spec PyProof.Rows L2
section
variable {X:Cx}
@[reducible] def w24:R3:=fun x y G q=>∃ (z:Str) (n:Int),x=.str z /\ y=.int n /\ (n=0 \/ n=1) /\ q (.str (if n=0 then Str.empty else z)) G
theorem vn4:Op3 X (binaryOp .Mult) w24:=u51 vh2 fun x y H Q ⟨d,e,G,q,r1,r2,c,t,f⟩=>by
 obtain ⟨z,n,rfl,rfl,hn,t⟩:=t;exact ⟨z,n,r1.str_inv,r2.int_inv,hn,f _ _ _ _ RelD.strI c (Le.refl H) t⟩
end
end L3
namespace L3
open PySem PySem.Spec PyProof.Rows L2 Rw
inductive Atm
 | num (i:Nat)
 | box (x:Str)
def aD:Atm->D
 | .num i=>.int (i:Int)
 | .box x=>.str x
inductive Rowp
 | is (x:Str) (a:Atm)
 | op (x o:Str) (a b:Atm)
 | cho (a:Atm) (ys ns:List Rowp)
 | tim (k:Nat) (ys:List Rowp)
mutual
def rowD:Rowp->D
 | .is x a=>.tup [.str "is",.str x,aD a]
 | .op x o a b=>.tup [.str "op",.str x,.str o,aD a,aD b]
 | .cho a ys ns=>.tup [.str "choose",aD a,.tup (u07 ys),.tup (u07 ns)]
 | .tim k ys=>.tup [.str "times",.int (k:Int),.tup (u07 ys)]
def u07:List Rowp->List D
 | []=>[]
 | r::rs=>rowD r::u07 rs
end
theorem u39:∀ rs:List Rowp,u07 rs=rs.map rowD
 | []=>rfl
 | r::rs=>by rw [u07,u39 rs];rfl
theorem u40 (rs:List Rowp):(u07 rs).length=rs.length:=by rw [u39,List.length_map]
theorem u41 (a b:List Rowp):u07 (a++b)=u07 a++u07 b:=by rw [u39,u39,u39,List.map_append]
def okA (W:Nat) (bs:List Str):Atm->Prop
 | .num i=>i < 2 ^ W
 | .box x=>x ∈ bs
def signs:List Str:=["+", "-", "&", "|", "^", "<", "="]
mutual
def okR (W:Nat) (bs:List Str):Rowp->Prop
 | .is x a=>x ∈ bs /\ okA W bs a
 | .op x o a b=>x ∈ bs /\ o ∈ signs /\ okA W bs a /\ okA W bs b
 | .cho a ys ns=>okA W bs a /\ okL W bs ys /\ okL W bs ns
 | .tim k ys=>k<=20 /\ okL W bs ys
def okL (W:Nat) (bs:List Str):List Rowp->Prop
 | []=>True
 | r::rs=>okR W bs r /\ okL W bs rs
end
theorem okL_app {W:Nat} {bs:List Str}:∀ {a b:List Rowp},okL W bs (a++b) ↔ okL W bs a /\ okL W bs b
 | [],b=>by simp [okL]
 | r::a,b=>by
  show okR W bs r /\ okL W bs (a++b) ↔ (okR W bs r /\ okL W bs a) /\ okL W bs b
  rw [okL_app,and_assoc]
mutual
def depR:Rowp->Nat
 | .is _ _=>0
 | .op _ _ _ _=>0
 | .cho _ ys ns=>1+max (depL ys) (depL ns)
 | .tim _ ys=>1+depL ys
def depL:List Rowp->Nat
 | []=>0
 | r::rs=>max (depR r) (depL rs)
end
theorem u46:∀ {a b:List Rowp},depL (a++b)=max (depL a) (depL b)
 | [],b=>by simp [depL]
 | r::a,b=>by
  show max (depR r) (depL (a++b))=max (max (depR r) (depL a)) (depL b)
  rw [u46];omega
mutual
def wtR:Rowp->Nat
 | .is _ _=>1
 | .op _ _ _ _=>1
 | .cho _ ys ns=>1+wtL ys+wtL ns
 | .tim k ys=>k * wtL ys
def wtL:List Rowp->Nat
 | []=>0
 | r::rs=>wtR r+wtL rs
end
theorem u81:∀ {a b:List Rowp},wtL (a++b)=wtL a+wtL b
 | [],b=>by simp [wtL]
 | r::a,b=>by
  show wtR r+wtL (a++b)=wtR r+wtL a+wtL b
  rw [u81];omega
mutual
def szR:Rowp->Nat
 | .is _ _=>1
 | .op _ _ _ _=>1
 | .cho _ ys ns=>1+szL ys+szL ns
 | .tim _ ys=>1+szL ys
def szL:List Rowp->Nat
 | []=>0
 | r::rs=>szR r+szL rs
end
theorem u55:∀ {a b:List Rowp},szL (a++b)=szL a+szL b
 | [],b=>by simp [szL]
 | r::a,b=>by
  show szR r+szL (a++b)=szR r+szL a+szL b
  rw [u55];omega
theorem ut2:∀ r:Rowp,1<=szR r
 | .is _ _=>Nat.le_refl _
 | .op _ _ _ _=>Nat.le_refl _
 | .cho _ ys ns=>by show 1<=1+szL ys+szL ns;omega
 | .tim _ ys=>by show 1<=1+szL ys;omega
theorem un9:∀ rs:List Rowp,rs.length<=szL rs
 | []=>Nat.le_refl _
 | r::rs=>by
  have:=ut2 r;have:=un9 rs
  show rs.length+1<=szR r+szL rs
  omega
inductive Hd
 | c1 (a:Atm)
 | c2 (a:Atm) (ys:List Rowp)
 | tm (k:Nat)
def hdD:Hd->D
 | .c1 a=>.tup [.str "choose",aD a]
 | .c2 a ys=>.tup [.str "choose",aD a,.tup (u07 ys)]
 | .tm k=>.tup [.str "times",.int (k:Int)]
structure Fr where
 p:Addr
 ahead:List Rowp
 hd:Hd
 o:Nat
def frD (f:Fr):D:=.tup [.ref f.p,hdD f.hd,.int (f.o:Int)]
def Hd.mul:Hd->Nat
 | .tm k=>k
 | _=>1
def Hd.wt:Hd->Nat
 | .c1 _=>1
 | .c2 _ ys=>1+wtL ys
 | .tm _=>0
def Hd.ys:Hd->List Rowp
 | .c2 _ ys=>ys
 | _=>[]
def Hd.ok (W:Nat) (bs:List Str):Hd->Prop
 | .c1 a=>okA W bs a
 | .c2 a ys=>okA W bs a /\ okL W bs ys
 | .tm k=>k<=20
def SK (W:Nat) (bs:List Str):List Fr->Nat->List Rowp->Nat->Nat->Prop
 | [],o,rows,w,z=>o=1 /\ wtL rows=w /\ szL rows=z /\ depL rows<=5 /\ okL W bs rows
 | f::fs,o,rows,w,z=>o=f.o * f.hd.mul /\ depL rows+(fs.length+1)<=5 /\ depL f.hd.ys+(fs.length+1)<=5 /\ okL W bs rows /\ f.hd.ok W bs /\
  ∃ w' z',w=w'+o * wtL rows+f.o * f.hd.wt /\ z=z'+szL rows+1+szL f.hd.ys /\ SK W bs fs f.o f.ahead w' z'
def PuAt (G:Gp) (pr:Addr):Prop:=∃ a b:Int,0<=a /\ 0<=b /\ b < 2147483648 /\ G pr=some (.lst [.int a,.int b])
structure PAdv (pr:Addr) (G G':Gp):Prop where
 at_:PuAt G' pr
 kp:∀ c o,c ≠ pr->G c=some o->G' c=some o
theorem PuAt.grow {G G':Gp} {pr:Addr} (h:PuAt G pr) (g:Grow G G'):PuAt G' pr:=by
 obtain ⟨a,b,h1,h2,h3,h4⟩:=h;exact ⟨a,b,h1,h2,h3,g.kp _ _ h4⟩
theorem PuAt.ne {G:Gp} {pr p:Addr} (h:PuAt G pr) (hp:G p=none):p ≠ pr:=by
 obtain ⟨a,b,_,_,_,h4⟩:=h;exact fun e=>by rw [e,h4] at hp;cases hp
theorem PAdv.refl {pr:Addr} {G:Gp} (h:PuAt G pr):PAdv pr G G:=⟨h,fun _ _ _ e=>e⟩
theorem PAdv.trans {pr:Addr} {G G1 G2:Gp} (a:PAdv pr G G1) (b:PAdv pr G1 G2):PAdv pr G G2:=⟨b.at_,fun c o h e=>b.kp c o h (a.kp c o h e)⟩
theorem PAdv.grow {pr:Addr} {G G1 G2:Gp} (a:PAdv pr G G1) (g:Grow G1 G2):PAdv pr G G2:=⟨a.at_.grow g,fun c o h e=>g.kp _ _ (a.kp c o h e)⟩
theorem PAdv.own {pr p:Addr} {G G1:Gp} {o:DO} (a:PAdv pr G G1) (hp:G p=none) (hne:p ≠ pr):PAdv pr G (gup G1 p o):=by
 refine ⟨?_,fun c u hc e=>by rw [u08 (gne e hp)];exact a.kp c u hc e⟩;obtain ⟨x,y,h1,h2,h3,h4⟩:=a.at_
 exact ⟨x,y,h1,h2,h3,by rw [u08 (Ne.symm hne)];exact h4⟩
theorem PAdv.fresh {pr p:Addr} {G G1:Gp} (a:PAdv pr G G1) (hp:G1 p=none) (hne:p ≠ pr):G p=none:=by
 cases e:G p with
 | none=>rfl
 | some o=>rw [a.kp p o hne e] at hp;cases hp
theorem PAdv.back {pr:Addr} {G G1 G2:Gp} (g:Grow G G1) (hp:G pr=none) (a:PAdv pr G1 G2):Grow G G2:=⟨fun c o e=>a.kp c o (gne e hp) (g.kp c o e)⟩
def Kp (p:Addr) (G G':Gp):Prop:=∀ c o,c ≠ p->G c=some o->G' c=some o
def shF (f:Fr) (fs:List Fr) (rows:List Rowp):List Fr × List Rowp:=match f.hd with
 | .c1 a=>({ f with hd:=.c2 a rows }::fs,[])
 | .c2 a ys=>(fs,f.ahead++[.cho a ys rows])
 | .tm k=>(fs,f.ahead++[.tim k rows])
theorem SK.shut {W:Nat} {bs:List Str} {f:Fr} {fs:List Fr} {o:Nat} {rows:List Rowp} {w z:Nat} (h:SK W bs (f::fs) o rows w z):SK W bs (shF f fs rows).1 f.o (shF f fs rows).2 w z:=by
 obtain ⟨p,ahead,hd,of⟩:=f;obtain ⟨h1,h2,h3,h4,h5,w',z',e1,e2,h6⟩:=h;cases hd with
 | c1 a =>
  simp only [Hd.mul,Nat.mul_one] at h1;subst h1
  show SK W bs (⟨p,ahead,.c2 a rows,o⟩::fs) o [] w z
  have e1:w=w'+o * wtL rows+o * 1:=e1;have e2:z=z'+szL rows+1+0:=e2;refine ⟨(Nat.mul_one o).symm,by simp only [depL];omega,h2,trivial,⟨h5,h4⟩,w',z',?_,?_,h6⟩
  ·show w=w'+o * wtL []+o * (1+wtL rows)
   simp only [wtL,Nat.mul_add,Nat.mul_one,Nat.mul_zero] at e1 ⊢;omega
  ·show z=z'+szL []+1+szL rows
   simp only [szL];omega
 | c2 a ys =>
  simp only [Hd.mul,Nat.mul_one] at h1;subst h1;simp only [Hd.wt,Hd.ys,Nat.mul_add,Nat.mul_one] at e1 e2 h3;obtain ⟨h5a,h5b⟩:=h5;cases fs with
  | nil =>
   obtain ⟨q1,q2,q3,q4,q5⟩:=h6;have q1:o=1:=q1;subst q1;refine ⟨rfl,?_,?_,?_,okL_app.mpr ⟨q5,⟨h5a,h5b,h4⟩,trivial⟩⟩
   ·show wtL (ahead++[.cho a ys rows])=w
    rw [u81];simp only [wtL,wtR];have:wtL ahead=w':=q2;omega
   ·show szL (ahead++[.cho a ys rows])=z
    rw [u55];simp only [szL,szR];have:szL ahead=z':=q3;omega
   ·show depL (ahead++[.cho a ys rows])<=5
    rw [u46];simp only [depL,depR];have:depL ahead<=5:=q4;simp at h2 h3;omega
  | cons g gs =>
   obtain ⟨q1,q2,q3,q4,q5,w2,z2,e3,e4,q6⟩:=h6;have q1:o=g.o * g.hd.mul:=q1;have q2:depL ahead+(gs.length+1)<=5:=q2;refine ⟨q1,?_,q3,okL_app.mpr ⟨q4,⟨h5a,h5b,h4⟩,trivial⟩,q5,w2,z2,?_,?_,q6⟩
   ·show depL (ahead++[.cho a ys rows])+(gs.length+1)<=5
    rw [u46];simp only [depL,depR];simp at h2 h3;omega
   ·show w=w2+o * wtL (ahead++[.cho a ys rows])+g.o * g.hd.wt
    have e3:w'=w2+o * wtL ahead+g.o * g.hd.wt:=e3;rw [u81];simp only [wtL,wtR,Nat.mul_add,Nat.mul_one,Nat.mul_zero];omega
   ·show z=z2+szL (ahead++[.cho a ys rows])+1+szL g.hd.ys
    have e4:z'=z2+szL ahead+1+szL g.hd.ys:=e4;rw [u55];simp only [szL,szR];omega
 | tm k =>
  simp only [Hd.mul] at h1;simp only [Hd.wt,Hd.ys,szL,Nat.mul_zero,Nat.add_zero] at e1 e2;have em:o * wtL rows=of * (k * wtL rows):=by rw [h1,Nat.mul_assoc]
  cases fs with
  | nil =>
   obtain ⟨q1,q2,q3,q4,q5⟩:=h6;have q1:of=1:=q1;subst q1;refine ⟨rfl,?_,?_,?_,okL_app.mpr ⟨q5,⟨h5,h4⟩,trivial⟩⟩
   ·show wtL (ahead++[.tim k rows])=w
    rw [u81];simp only [wtL,wtR];have:wtL ahead=w':=q2;omega
   ·show szL (ahead++[.tim k rows])=z
    rw [u55];simp only [szL,szR];have:szL ahead=z':=q3;omega
   ·show depL (ahead++[.tim k rows])<=5
    rw [u46];simp only [depL,depR];have:depL ahead<=5:=q4;simp at h2;omega
  | cons g gs =>
   obtain ⟨q1,q2,q3,q4,q5,w2,z2,e3,e4,q6⟩:=h6;have q1:of=g.o * g.hd.mul:=q1;have q2:depL ahead+(gs.length+1)<=5:=q2;refine ⟨q1,?_,q3,okL_app.mpr ⟨q4,⟨h5,h4⟩,trivial⟩,q5,w2,z2,?_,?_,q6⟩
   ·show depL (ahead++[.tim k rows])+(gs.length+1)<=5
    rw [u46];simp only [depL,depR];simp at h2;omega
   ·show w=w2+of * wtL (ahead++[.tim k rows])+g.o * g.hd.wt
    have e3:w'=w2+of * wtL ahead+g.o * g.hd.wt:=e3;rw [u81];simp only [wtL,wtR,Nat.mul_add,Nat.mul_zero];omega
   ·show z=z2+szL (ahead++[.tim k rows])+1+szL g.hd.ys
    have e4:z'=z2+szL ahead+1+szL g.hd.ys:=e4;rw [u55];simp only [szL,szR];omega
theorem SK.row {W:Nat} {bs:List Str} {fs:List Fr} {o:Nat} {rows:List Rowp} {w z:Nat} {r:Rowp} (h:SK W bs fs o rows w z) (hr:okR W bs r) (h1:wtR r=1) (h2:szR r=1) (h3:depR r=0):SK W bs fs o (rows++[r]) (w+o) (z+1):=by
 cases fs with
 | nil =>
  obtain ⟨q1,q2,q3,q4,q5⟩:=h;subst q1;refine ⟨rfl,?_,?_,?_,okL_app.mpr ⟨q5,hr,trivial⟩⟩
  ·rw [u81];simp only [wtL];omega
  ·rw [u55];simp only [szL];omega
  ·rw [u46];simp only [depL];omega
 | cons g gs =>
  obtain ⟨q1,q2,q3,q4,q5,w2,z2,e3,e4,q6⟩:=h;refine ⟨q1,?_,q3,okL_app.mpr ⟨q4,hr,trivial⟩,q5,w2,z2,?_,?_,q6⟩
  ·rw [u46];simp only [depL];omega
  ·rw [u81];simp only [wtL,Nat.mul_add,h1,Nat.mul_one,Nat.mul_zero];omega
  ·rw [u55];simp only [szL];omega
theorem SK.open_ {W:Nat} {bs:List Str} {fs:List Fr} {o:Nat} {rows:List Rowp} {w z:Nat} {p:Addr} {hd:Hd} (h:SK W bs fs o rows w z) (hl:fs.length < 5) (hh:hd.ok W bs) (hy:hd.ys=[]):SK W bs (⟨p,rows,hd,o⟩::fs) (o * hd.mul) [] (w+o * hd.wt) (z+1):=by
 refine ⟨rfl,by simp [depL];omega,by show depL hd.ys+_<=5;rw [hy];simp [depL];omega,trivial,hh,w,z,?_,?_,h⟩
 ·simp [wtL]
 ·show z+1=z+szL []+1+szL hd.ys
  rw [hy];simp [szL]
theorem ut4 {G:Gp}:∀ (d k:Nat) (r:Rowp),depR r<=d->∃ s,snap G (k+2 * d+1) (rowD r)=some s:=by
 intro d k
 induction d with
 | zero =>
  intro r h;cases r with
  | is x a =>
   refine Rw.snap_tup (n:=k+2 * 0) fun e he=>?_
   simp only [List.mem_cons,List.not_mem_nil,or_false] at he
   rcases he with rfl | rfl | rfl
   ·exact Rw.snap_str
   ·exact Rw.snap_str
   ·cases a <;> first | exact Rw.snap_int | exact Rw.snap_str
  | op x o a b =>
   refine Rw.snap_tup (n:=k+2 * 0) fun e he=>?_
   simp only [List.mem_cons,List.not_mem_nil,or_false] at he
   rcases he with rfl | rfl | rfl | rfl | rfl
   ·exact Rw.snap_str
   ·exact Rw.snap_str
   ·exact Rw.snap_str
   ·cases a <;> first | exact Rw.snap_int | exact Rw.snap_str
   ·cases b <;> first | exact Rw.snap_int | exact Rw.snap_str
  | cho a ys ns=>simp only [depR] at h;omega
  | tim k2 ys=>simp only [depR] at h;omega
 | succ d ih =>
  intro r h;have hin:∀ ys:List Rowp,depL ys<=d->∃ s,snap G (k+2 * d+2) (.tup (u07 ys))=some s:=by
   intro ys hy;refine Rw.snap_tup (n:=k+2 * d+1) fun e he=>?_
   rw [u39] at he;obtain ⟨r',hr',rfl⟩:=List.mem_map.mp he;refine ih r' ?_;clear he
   induction ys with
   | nil=>cases hr'
   | cons y ys ih2 =>
    simp only [depL] at hy
    rcases List.mem_cons.mp hr' with e | e
    ·subst e;omega
    ·exact ih2 (by omega) e
  have at_:∀ a:Atm,∃ s,snap G (k+2 * d+2) (aD a)=some s:=fun a=>by
   cases a <;> first | exact Rw.snap_int | exact Rw.snap_str
  cases r with
  | is x a =>
   refine Rw.snap_tup (n:=k+2 * d+2) fun e he=>?_
   simp only [List.mem_cons,List.not_mem_nil,or_false] at he
   rcases he with rfl | rfl | rfl
   ·exact Rw.snap_str
   ·exact Rw.snap_str
   ·exact at_ a
  | op x o a b =>
   refine Rw.snap_tup (n:=k+2 * d+2) fun e he=>?_
   simp only [List.mem_cons,List.not_mem_nil,or_false] at he
   rcases he with rfl | rfl | rfl | rfl | rfl
   ·exact Rw.snap_str
   ·exact Rw.snap_str
   ·exact Rw.snap_str
   ·exact at_ a
   ·exact at_ b
  | cho a ys ns =>
   simp only [depR] at h;refine Rw.snap_tup (n:=k+2 * d+2) fun e he=>?_
   simp only [List.mem_cons,List.not_mem_nil,or_false] at he
   rcases he with rfl | rfl | rfl | rfl
   ·exact Rw.snap_str
   ·exact at_ a
   ·exact hin ys (by omega)
   ·exact hin ns (by omega)
  | tim k2 ys =>
   simp only [depR] at h;refine Rw.snap_tup (n:=k+2 * d+2) fun e he=>?_
   simp only [List.mem_cons,List.not_mem_nil,or_false] at he
   rcases he with rfl | rfl | rfl
   ·exact Rw.snap_str
   ·exact Rw.snap_int
   ·exact hin ys (by omega)
theorem ub6:∀ {ys:List Rowp} {d:Nat},depL ys<=d->∀ r ∈ ys,depR r<=d
 | [],_,_,r,h=>by cases h
 | y::ys,d,hd,r,h=>by
  simp only [depL] at hd
  rcases List.mem_cons.mp h with e | e
  ·subst e;omega
  ·exact ub6 (by omega) r e
theorem ud6 {G:Gp} {ys:List Rowp} {k:Nat} (h:depL ys<=5):∀ e ∈ u07 ys,∃ s,snap G (k+2 * 5+1) e=some s:=by
 intro e he;rw [u39] at he;obtain ⟨r,hr,rfl⟩:=List.mem_map.mp he;exact ut4 5 k r (ub6 h r hr)
theorem un4 {α β:Type} {f:α->Option β}:∀ {xs:List α} {ys:List β},xs.mapM f=some ys->ys.length=xs.length
 | [],ys,h=>by cases h;rfl
 | x::xs,ys,h=>by
  rw [List.mapM_cons] at h;cases h1:f x with
  | none=>rw [h1] at h;cases h
  | some y =>
   rw [h1] at h;cases h2:xs.mapM f with
   | none=>rw [h2] at h;cases h
   | some zs=>rw [h2] at h;cases h;rw [List.length_cons,List.length_cons,un4 h2]
theorem ue3 {G:Gp} {op e:Addr} {fs:List Fr} {Q:Bool->Prop} (ko:G op=some (.lst ((fs.map frD).reverse))) (ke:G e=some (.lst [])) (hf:∀ f ∈ fs,G f.p=some (.lst (u07 f.ahead)) /\ depL f.ahead<=5 /\ depL f.hd.ys<=5) (h:Q (decide (fs.length=0))) :
  ∃ n sd se r,n<=40 /\ snap G n (.ref op)=some sd /\ snap G n (.ref e)=some se /\ eqN n sd se=some r /\ Q r:=by
 have at_:∀ (a:Atm) (k:Nat),∃ s,snap G k (aD a)=some s:=fun a k=>by
  cases a <;> first | exact Rw.snap_int | exact Rw.snap_str
 obtain ⟨ys,ey⟩:=ua9 (f:=snap G 15) (xs:=(fs.map frD).reverse) fun d hd=>by
  rw [List.mem_reverse] at hd;obtain ⟨f,hf',rfl⟩:=List.mem_map.mp hd;obtain ⟨k1,k2,k3⟩:=hf f hf';refine Rw.snap_tup (n:=14) fun e he=>?_
  simp only [List.mem_cons,List.not_mem_nil,or_false] at he
  rcases he with rfl | rfl | rfl
  ·obtain ⟨zs,ez⟩:=ua9 (f:=snap G 13) (xs:=u07 f.ahead) (ud6 (k:=2) k2)
   exact ⟨.lst zs,by show ((u15 (G f.p)).bind fun ds=>(ds.mapM (snap G 13)).map Sn.lst)=_;rw [k1];show ((u07 f.ahead).mapM (snap G 13)).map Sn.lst=_;rw [ez];rfl⟩
  ·cases hh:f.hd with
   | c1 a =>
    refine Rw.snap_tup (n:=13) fun e he=>?_
    simp only [List.mem_cons,List.not_mem_nil,or_false] at he
    rcases he with rfl | rfl
    ·exact Rw.snap_str
    ·exact at_ a _
   | c2 a ys =>
    rw [hh] at k3;refine Rw.snap_tup (n:=13) fun e he=>?_
    simp only [List.mem_cons,List.not_mem_nil,or_false] at he
    rcases he with rfl | rfl | rfl
    ·exact Rw.snap_str
    ·exact at_ a _
    ·exact Rw.snap_tup (n:=12) (ud6 (k:=1) k3)
   | tm k =>
    refine Rw.snap_tup (n:=13) fun e he=>?_
    simp only [List.mem_cons,List.not_mem_nil,or_false] at he
    rcases he with rfl | rfl
    ·exact Rw.snap_str
    ·exact Rw.snap_int
  ·exact Rw.snap_int
 have hl:=un4 ey;rw [List.length_reverse,List.length_map] at hl;refine ⟨16,.lst ys,.lst [],decide (fs.length=0),by decide,?_,?_,?_,h⟩
 ·show ((u15 (G op)).bind fun ds=>(ds.mapM (snap G 15)).map Sn.lst)=_
  rw [ko]
  show ((fs.map frD).reverse.mapM (snap G 15)).map Sn.lst=_
  rw [ey];rfl
 ·show ((u15 (G e)).bind fun ds=>(ds.mapM (snap G 15)).map Sn.lst)=_
  rw [ke];rfl
 ·show (if ys.length=([]:List Sn).length then ((ys.zip []).mapM fun p=>eqN 15 p.1 p.2).map fun bs=>bs.all id else some false)=_
  by_cases h0:fs.length=0
  ·have:ys=[]:=List.eq_nil_of_length_eq_zero (by omega)
   subst this;rw [decide_eq_true h0];rfl
  ·rw [if_neg (by show ¬ ys.length=0;omega),decide_eq_false h0]
theorem SK.dep {W:Nat} {bs:List Str}:∀ {fs:List Fr} {o:Nat} {rows:List Rowp} {w z:Nat},SK W bs fs o rows w z->depL rows<=5 /\ ∀ f ∈ fs,depL f.ahead<=5 /\ depL f.hd.ys<=5
 | [],_,_,_,_,⟨_,_,_,h,_⟩=>⟨h,fun f hf=>by cases hf⟩
 | f::fs,_,_,_,_,⟨_,h2,h3,_,_,w',z',_,_,h6⟩=>by
  have q:=SK.dep h6;refine ⟨by omega,fun g hg=>?_⟩
  rcases List.mem_cons.mp hg with e | e
  ·subst e;exact ⟨q.1,by omega⟩
  ·exact q.2 g e
theorem SK.len {W:Nat} {bs:List Str}:∀ {fs:List Fr} {o:Nat} {rows:List Rowp} {w z:Nat},SK W bs fs o rows w z->rows.length<=z /\ ∀ f ∈ fs,f.ahead.length<=z
 | [],_,rows,_,_,⟨_,_,h,_,_⟩=>⟨by have:=un9 rows;omega,fun f hf=>by cases hf⟩
 | f::fs,_,rows,_,_,⟨_,_,_,_,_,w',z',_,e2,h6⟩=>by
  have q:=SK.len h6;have:=un9 rows;refine ⟨by omega,fun g hg=>?_⟩
  rcases List.mem_cons.mp hg with e | e
  ·subst e;have:=q.1;omega
  ·have:=q.2 g e;omega
def msF:List Fr->Nat
 | []=>0
 | f::fs=>(match f.hd with | .c1 _=>2 | _=>1)+msF fs
theorem v42 {f:Fr} {fs:List Fr} {rows:List Rowp}:msF (shF f fs rows).1+1=msF (f::fs):=by
 obtain ⟨p,ahead,hd,o⟩:=f;cases hd <;> simp only [msF,shF] <;> omega
theorem ut5 {f:Fr} {fs:List Fr} {rows:List Rowp}:∀ g ∈ (shF f fs rows).1,(g.p=f.p /\ g.ahead=f.ahead) \/ g ∈ fs:=by
 obtain ⟨p,ahead,hd,o⟩:=f;cases hd with
 | c1 a =>
  intro g hg
  rcases List.mem_cons.mp hg with e | e
  ·subst e;exact .inl ⟨rfl,rfl⟩
  ·exact .inr e
 | c2 a ys=>exact fun g hg=>.inr hg
 | tm k=>exact fun g hg=>.inr hg
theorem SK.fl {W:Nat} {bs:List Str}:∀ {fs:List Fr} {o:Nat} {rows:List Rowp} {w z:Nat},SK W bs fs o rows w z->fs.length<=5
 | [],_,_,_,_,_=>by simp
 | f::fs,_,_,_,_,⟨_,h,_⟩=>by simp only [List.length_cons];omega
theorem comb {a b c:Prop} [Decidable a] [Decidable b] [Decidable c] {A B:Prop} (h1:a->b->c->A) (h2:¬ (a /\ b /\ c)->B):if decide a=true then (if decide b=true then (if decide c=true then A else B) else B) else B:=by
 by_cases ha:a
 ·by_cases hb:b
  ·by_cases hc:c
   ·simpa [ha,hb,hc] using h1 ha hb hc
   ·simpa [ha,hb,hc] using h2 fun h=>hc h.2.2
  ·simpa [ha,hb] using h2 fun h=>hb h.2.1
 ·simpa [ha] using h2 fun h=>ha h.1
theorem vw0 {G G6:Gp} {op q:Addr} (hop:G op=none) (k:∀ c o,G c=some o->c ≠ op->G6 c=some o) (nq:q ≠ op) (h:G6 q=none):G q=none:=by
 cases e:G q with
 | none=>rfl
 | some o=>rw [k q o e nq] at h;cases h
end L3
namespace HT
open PySem PySem.Spec PyProof.Rows
variable {prog:Program} {w:World} {A:Around} {E:Value->Shared->Prop} {s:Shared}
theorem getItem_tuple_whole {t sl:Addr} {items:Array Value} {vl vu:Value} {lo hi:Option Int} {Q:Value->Shared->Prop} (ht:IsTup s.heap t items) (hs:s.heap.IsSliceOf sl vl vu .none) (pl:IsPart vl lo) (pu:IsPart vu hi)
  (hw:sIx items.size 0 lo=0 /\ sIx items.size items.size hi=items.size) (h:Q (.ref t) s):wpAny (model prog w) A (getItem (.ref t) (.ref sl)) Q E s:=by
 obtain ⟨os,hos,hcs,hds⟩:=id hs;have hTs:s.TypeIs (.ref sl) "slice" := ⟨os,hos,hcs⟩;unfold getItem
 try with_reducible refine wpAny_holding ?_
 first | refine wpAny_bind (wpAny_pure ?_) | skip
 refine wpAny_bind (wpAny_sequenceKey ht.typeIs (by decide) ?_);refine wpAny_bind (wpAny_callSpecial?_slot (name:=Str.ofString "__getitem__") ht.typeIs PyProof.Rows.slot_tuple_getitem
  (wpAny_call_entry PyProof.Rows.slot_tuple_getitem ht.typeIs entry_tuple_getitem ?_ (args_tuple_getitem _ _)))
 show wpAny _ _ (Builtin.Tuple.tupleItemsOf (.ref t) >>= _) _ _ s
 refine wpAny_bind (tupleItemsOf_ ht ?_);refine wpAny_bind (wpAny_typeOf hTs ?_);rw [if_pos (by decide)];refine wpAny_bind (u67 hs pl pu ?_);have hyes:((((sIx items.size 0 lo:Nat):Int) == 0 && (1:Int) == 1 && (sIx items.size items.size hi - sIx items.size 0 lo) == items.size)=true):=by
  rw [hw.1,hw.2];simp
 show wpAny _ _ (if (((sIx items.size 0 lo:Nat):Int) == 0 && (1:Int) == 1 && (sIx items.size items.size hi - sIx items.size 0 lo) == items.size)=true then _ else _) _ _ s
 rw [if_pos hyes];refine wpAny_bind (m:=Builtin.Tuple.tupleIsExact (.ref t)) (wpAny_bind (wpAny_typeOf ht.typeIs (wpAny_pure ?_)));rw [if_pos (by decide)];exact wpAny_bind (wpAny_rule (wpAny_pure ⟨_,rfl,wpAny_pure h⟩))
end HT
namespace L2
open PySem PySem.Spec PyProof.Rows
section
variable {X:Cx}
def rSlW (K:W.Frag):V->Option Int->Option Int->Hp->VK->Prop:=fun x lo hi H Q=>∃ a xs,x=.ref a /\ SqT K H a xs /\
 (HT.sIx xs.length 0 lo=0 /\ HT.sIx xs.length xs.length hi=xs.length) /\ Q (.ref a) H
theorem sl_tupW:SlR X (rSlW X.K):=by
 intro pins s σ H x v vl vu lo hi sl Q I rx hs pl pu h;obtain ⟨a,xs,rfl,hx,hw,q⟩:=h;cases rx;obtain ⟨its,r,ht,hz⟩:=I.tuple hx;have hlen:its.toArray.size=xs.length:=by rw [List.size_toArray];exact r.length.symm
 refine ⟨"tuple",_,PyProof.Rows.slot_tuple_getitem.lookup,ht.typeIs,?_⟩;exact HT.getItem_tuple_whole ht hs pl pu (by rw [hlen];exact hw) ⟨.ref a,H,I,rfl,q⟩
end
end L2
namespace L3
open PySem PySem.Spec PyProof.Rows L2
section
variable {X:Cx}
def w69:R3:=fun x y G q=>match x,y with
 | .tup a,.tup b=>a.length+b.length<=sizeLine /\ q (.tup (a++b)) G
 | _,_=>False
def xSlT:RS3:=fun x lo hi G q=>match x with
 | .tup ds=>q (.tup (cutD ds lo hi)) G
 | _=>False
theorem vb7:SlR X (uw7 X.K xSlT):=us6 (sl_tupW.or v94) <| by
 rintro x lo hi H Q ⟨d,G,q,r1,c,t,f⟩;unfold xSlT at t;split at t
 ·rename_i ds
  obtain ⟨a,xs,rfl,s1,q1⟩:=r1.tup_inv
  by_cases hw:HT.sIx xs.length 0 lo=0 /\ HT.sIx xs.length xs.length hi=xs.length
  ·refine .inl ⟨a,xs,rfl,s1,hw,?_⟩
   refine f (.tup _) G (.ref a) _ ?_ c (Le.refl _) t;rw [RelD];have e:cutD ds lo hi=ds:=by
    unfold cutD;rw [q1.length,hw.1,hw.2,List.drop_zero,Nat.sub_zero,<- q1.length,List.take_length]
   rw [e];exact ⟨a,_,rfl,s1,q1⟩
  ·refine .inr ⟨a,xs,rfl,s1,hw,fun p hp=>?_⟩
   refine f (.tup _) G (.ref p) _ ?_ (c.side hp) (Le.fresh hp) t;rw [RelD];exact ⟨p,_,rfl,SqT.of u18,RelDs.le (Le.fresh hp) (q1.cut lo hi)⟩
 ·exact t.elim
end
end L3
namespace L3
open PySem PySem.Spec PyProof.Rows L2 Rw
theorem vn8:∀ {rs:List Rowp} {r:Rowp},r ∈ rs->wtR r<=wtL rs
 | s::rs,r,h=>by
  show wtR r<=wtR s+wtL rs
  rcases List.mem_cons.mp h with e | e
  ·subst e;omega
  ·have:=vn8 e;omega
theorem v92:∀ {rs:List Rowp} {r:Rowp},r ∈ rs->szR r<=szL rs
 | s::rs,r,h=>by
  show szR r<=szR s+szL rs
  rcases List.mem_cons.mp h with e | e
  ·subst e;omega
  ·have:=v92 e;omega
def blks:Rowp->List (List Rowp)
 | .cho _ ys ns=>[ys,ns]
 | .tim _ ys=>[ys]
 | _=>[]
def vl4 (r:Rowp):List D:=(blks r).map fun ys=>D.tup (u07 ys)
theorem v74 {r:Rowp}:∀ b ∈ blks r,depL b < depR r:=by
 intro b h;cases r with
 | is x a=>cases h
 | op x o a c=>cases h
 | cho a ys ns =>
  simp only [blks,List.mem_cons,List.not_mem_nil,or_false] at h
  show depL b < 1+max (depL ys) (depL ns)
  rcases h with e | e <;> subst e <;> omega
 | tim k ys =>
  simp only [blks,List.mem_cons,List.not_mem_nil,or_false] at h;subst h
  show depL b < 1+depL b
  omega
theorem uf4 {a:List D} {lo hi:Option Int} {G:Gp} {q:DK}:xSlT (.tup a) lo hi G q=q (.tup (cutD a lo hi)) G:=rfl
theorem u58 {G G':Gp} {a:Addr} {ds:List D} (g:Grow G G') (h:u15 (G a)=some ds):u15 (G' a)=some ds:=by
 cases e:G a with
 | none=>rw [e] at h;cases h
 | some o=>rw [g.kp _ _ e,<- e];exact h
end L3
namespace L3
open PySem PySem.Spec PyProof.Rows L2
def valK (kvs:List (Key × D)) (k:Key):Option D:=(kvs.find? fun kv=>decide (kv.1=k)).map (·.2)
def ua3 (kvs:List (Key × D)) (k:Key) (v:D):List (Key × D) :=
 if (kvs.any fun kv=>decide (kv.1=k))=true then kvs.map (fun kv=>if kv.1=k then (kv.1,v) else kv) else kvs++[(k,v)]
section
variable {X:Cx} {K:W.Frag} {G:Gp} {H:Hp} {p:Addr}
theorem uf7 {k:Key}:∀ {kvs:List (Key × D)} {ys:List (Key × V)},RelPs K H kvs ys->(valK kvs k=none /\ valV ys k=none) \/ ∃ d v,valK kvs k=some d /\ valV ys k=some v /\ RelD K H d v
 | [],ys,⟨h1,h2⟩=>by
  have:ys=[]:=by cases ys with | nil=>rfl | cons y ys=>simp at h1
  subst this;exact .inl ⟨rfl,rfl⟩
 | (k',d)::kvs,[],⟨h1,h2⟩=>by simp at h1
 | (k',d)::kvs,(k2,v)::ys,⟨h1,h2⟩=>by
  rw [List.map_cons,List.map_cons] at h1;obtain ⟨e1,e2⟩:=List.cons.inj h1;have e1:k'=k2:=e1;subst e1;obtain ⟨x,xs',e3,q1,q2⟩:=h2.inv_cons;rw [List.map_cons] at e3;obtain ⟨e4,e5⟩:=List.cons.inj e3;have e4:v=x:=e4;subst e4
  by_cases hk:k'=k
  ·right
   exact ⟨d,v,by simp [valK,List.find?_cons,hk],ua5 hk,q1⟩
  ·have ih:=uf7 (k:=k) (kvs:=kvs) (ys:=ys) ⟨e2,by rw [e5];exact q2⟩
   have a1:valK ((k',d)::kvs) k=valK kvs k:=by simp [valK,List.find?_cons,hk]
   rw [a1,ua6 hk];exact ih
theorem un5 {k:Key} {d:D} {v:V} (q:RelD K H d v):∀ {kvs:List (Key × D)} {ys:List (Key × V)},RelPs K H kvs ys->RelPs K H (kvs.map (fun kv=>if kv.1=k then (kv.1,d) else kv)) (ys.map (fun kv=>if kv.1=k then (kv.1,v) else kv)) /\ (kvs.any fun kv=>decide (kv.1=k))=(ys.any fun kv=>decide (kv.1=k))
 | [],ys,⟨h1,h2⟩=>by
  have:ys=[]:=by cases ys with | nil=>rfl | cons y ys=>simp at h1
  subst this;exact ⟨⟨rfl,.nil⟩,rfl⟩
 | (k',d')::kvs,[],⟨h1,h2⟩=>by simp at h1
 | (k',d')::kvs,(k2,v')::ys,⟨h1,h2⟩=>by
  rw [List.map_cons,List.map_cons] at h1;obtain ⟨e1,e2⟩:=List.cons.inj h1;have e1:k'=k2:=e1;subst e1;obtain ⟨x,xs',e3,q1,q2⟩:=h2.inv_cons;rw [List.map_cons] at e3;obtain ⟨e4,e5⟩:=List.cons.inj e3;have e4:v'=x:=e4;subst e4;obtain ⟨⟨i1,i2⟩,i3⟩:=un5 (k:=k) q (kvs:=kvs) (ys:=ys) ⟨e2,by rw [e5];exact q2⟩;refine ⟨⟨?_,?_⟩,by rw [List.any_cons,List.any_cons,i3]⟩
  ·rw [List.map_cons,List.map_cons,List.map_cons,List.map_cons,i1]
   by_cases hk:k'=k <;> simp [hk]
  ·rw [List.map_cons,List.map_cons,List.map_cons,List.map_cons]
   by_cases hk:k'=k
   ·simp only [hk,if_true];exact .cons q i2
   ·simp only [hk,if_false];exact .cons q1 i2
theorem v27 {k:Key} {d:D} {v:V} (q:RelD K H d v) {kvs:List (Key × D)} {ys:List (Key × V)} (h:RelPs K H kvs ys):RelPs K H (ua3 kvs k d) (putK ys k v):=by
 obtain ⟨i1,i3⟩:=un5 (k:=k) q h;unfold ua3 putK;rw [i3];split
 ·exact i1
 ·exact ⟨by rw [List.map_append,List.map_append,h.1];rfl,by rw [List.map_append,List.map_append];exact h.2.append (.cons q .nil)⟩
theorem ux3 {k:Key} {v:V} (r:RelD K H (kD k) v):v=kV k:=by
 cases k with
 | inl i=>exact (show RelD K H (.int i) v from r).int_inv
 | inr x=>exact (show RelD K H (.str x) v from r).str_inv
def v69 (td ti tv:TE3):TS3:=fun Dn σ G=>tv σ G fun v G1=>td σ G1 fun x G2=>ti σ G2 fun y G3=>∃ (a:Addr) (kvs:List (Key × D)) (k:Key),x=.ref a /\ y=kD k /\ G3 a=some (.dic kvs) /\ kvs.length < sizeLine /\ Dn.nx σ (gup G3 a (.dic (ua3 kvs k v)))
theorem uk4 {k:Nat} {o i value:Expr} {pos pos':Pos} {to ti tv:TE3} (hr:Room k X.A) (ho:E3 X o to) (hi:E3 X i ti) (hv:E3 X value tv)
  (hs:swapsWith value (some (.Subscript o i pos')) pos.line X.env=pure false:=by rfl):S3 X (.Assign [.Subscript o i pos'] value pos) (v69 to ti tv) :=
 ud3 (vg2 (vj9 hr) ho hi hv hs) fun D σ H h=>by
  obtain ⟨σd,G,d,rs,c,t,f⟩:=h;refine ⟨σd,G,_,rs,c,t,fun v G1 w H1 r1 c1 l1 t1=>⟨σd,G1,_,rs.le l1,c1,t1,fun x G2 u H2 r2 c2 l2 t2=>⟨σd,G2,_,rs.le (l1.trans l2),c2,t2,fun y G3 z H3 r3 c3 l3 t3=>?_⟩⟩⟩;obtain ⟨a,kvs,k,rfl,rfl,hg,hl,t4⟩:=t3;have r2':=RelD.le l3 r2;cases r2'.ref_inv;obtain rfl:=ux3 r3;obtain ⟨ys,e,rp⟩:=c3 a _ hg;have l5:Le H3 (upd H3 a (.dK (putK ys k w))):=Le.dK e;have lys:ys.length=kvs.length:=by
   have:=congrArg List.length rp.1;rw [List.length_map,List.length_map] at this;exact this.symm
  refine ⟨a,_,rfl,DPut.k e (by rw [lys];exact hl),?_⟩;refine f.nx _ _ _ _ (((rs.le l1).le l2).le (l3.trans l5)) ?_ (l1.trans (l2.trans (l3.trans l5))) t4;exact c3.put l5 ⟨_,u18,(v27 (RelD.le (l2.trans l3) r1) rp).le l5⟩
end
end L3
namespace L3
open PySem PySem.Spec PyProof.Rows L2 Rw
theorem pw (W:Nat):(1:Int) * 2 ^ W=((2 ^ W:Nat):Int):=by rw [Int.one_mul,Int.natCast_pow];rfl
theorem uy6:∀ {ws:List Str} {k c:Nat},(∀ w ∈ ws,w.length=1)->ws[k]?=some ⟨#[c]⟩->((ws.map fun w=>w.cps.toList).flatten)[k]?=some c
 | [],k,c,_,h=>by simp at h
 | w::ws,0,c,_,h=>by
  have e:w=⟨#[c]⟩:=by simpa using h
  subst e;rfl
 | w::ws,k+1,c,hw,h=>by
  have h1:w.cps.toList.length=1:=by have:=hw w List.mem_cons_self;simpa [Str.length] using this
  rw [List.map_cons,List.flatten_cons,List.getElem?_append_right (by rw [h1];omega),h1];exact uy6 (fun v hv=>hw v (List.mem_cons_of_mem _ hv)) (by simpa using h)
theorem vj2:∀ ws:List Str,(jn Str.empty ws).cps.toList=(ws.map fun w=>w.cps.toList).flatten:=by
 have key:∀ (ws:List Str) (acc:Array Nat),(ws.foldl (fun acc p=>acc++Str.empty.cps++p.cps) acc).toList=acc.toList++(ws.map fun w=>w.cps.toList).flatten:=by
  intro ws
  induction ws with
  | nil=>intro acc;simp
  | cons w ws ih =>
   intro acc;rw [List.foldl_cons,ih,List.map_cons,List.flatten_cons];have:Str.empty.cps=#[]:=rfl;rw [this];simp
 intro ws;cases ws with
 | nil=>rfl
 | cons w ws=>exact key ws w.cps
theorem w52 {ws:List Str} {k c:Nat} (hw:∀ w ∈ ws,w.length=1) (h:ws[k]?=some ⟨#[c]⟩):(jn Str.empty ws).cps[k]?=some c:=by
 rw [<- Array.getElem?_toList,vj2];exact uy6 hw h
theorem v07 {a b:Str} {k c:Nat} (h:a.cps[k]?=some c):(a++b).cps[k]?=some c:=by
 show (a.cps++b.cps)[k]?=some c
 have hk:k < a.cps.size:=by
  rcases Nat.lt_or_ge k a.cps.size with z | z
  ·exact z
  ·rw [Array.getElem?_eq_none z] at h;cases h
 rw [Array.getElem?_append_left hk];exact h
theorem vb5 {x:Int} (h1:0<=x) (h2:x < 26):atI (Str.ofString "abcdefghijklmnopqrstuvwxyz").cps.toList x=some (97+x.toNat):=by
 obtain ⟨n,rfl⟩:=Int.eq_ofNat_of_zero_le h1;have hn:n < 26:=by omega
 have key:∀ n:Fin 26,(Str.ofString "abcdefghijklmnopqrstuvwxyz").cps.toList[n.val]?=some (97+n.val):=by decide
 have e:=ul8 (xs:=(Str.ofString "abcdefghijklmnopqrstuvwxyz").cps.toList) (i:=(n:Int)) h1 (by exact h2);rw [e,<- List.getElem?_eq_getElem];exact key ⟨n,hn⟩
theorem v41 {bs:List Str} {sp:Nat} {fi:Int} (hl:bs.length<=6) (h:∀ (t:Nat) (b:Str),bs[t]?=some b->b.cps[sp]?=some (97+((fi+5 * (t:Int)) % 26).toNat)):bs.Nodup:=by
 rw [List.Nodup,List.pairwise_iff_getElem];intro i j hi hj hij e;have h1:=h i bs[i] (List.getElem?_eq_getElem hi);have h2:=h j bs[j] (List.getElem?_eq_getElem hj);rw [e,h2] at h1;have:=Option.some.inj h1;omega
theorem uv3 {bs:List Str} {w:Str} (k:Nat) (h:bs.Nodup) (hw:w ∉ bs):(bs.set k w).Nodup:=by
 rw [List.Nodup,List.pairwise_iff_getElem] at h ⊢;intro i j hi hj hij e;rw [List.length_set] at hi hj;have hm:∀ {t:Nat} (ht:t < bs.length),bs[t] ≠ w:=fun {t} ht z=>hw (z ▸ List.getElem_mem ht)
 rw [List.getElem_set,List.getElem_set] at e;split at e
 ·split at e
  ·omega
  ·exact hm hj e.symm
 ·split at e
  ·exact hm hi e
  ·exact h i j hi hj hij e
end L3
namespace L2
open PySem PySem.Spec PyProof.Rows
abbrev VM:List Value:=[.type "ValueError",.type "Exception",.type "BaseException",.type "object"]
abbrev w18 (nm q:Str) (C N:Addr) (bs bm:List Value) (sn:List Str) (sub:List Value) (ab:Bool) (col:Option Bool) (dd:Option Addr) (k0 k1 k2 k3 k5:Option Value):Obj:=excClassObj nm q C N bs bm true sn sub ab col dd k0 k1 k2 k3 k5 "ValueError.__new__"
def xcIn (K:W.Frag) (C:Addr) (bm:List Value):Bool :=
  match K.lookup C with
  | some ⟨.type "type",_,.cls cd,sl⟩ =>
    (match cd.mro,sl.toList with
     | .ref B::r,[_,_,_,_,some (.builtin i),_]=>B == C && r == bm && i == "ValueError.__new__" && cd.hasDict && !cd.hasDel && W.tailIn K VM bm
     | _,_=>false)
  | _=>false
def XcAt (C:Addr) (bm:List Value) (h:Heap):Prop:=∃ nm q N bs sn sub ab col dd k0 k1 k2 k3 k5,h.get? C=some (w18 nm q C N bs bm sn sub ab col dd k0 k1 k2 k3 k5)
theorem uj9 {K:W.Frag} {C:Addr} {bm:List Value} {h:Heap} (X:K.In h) (e:xcIn K C bm=true):XcAt C bm h /\ OwnTail h VM bm:=by
 unfold xcIn at e;split at e
 ·rename_i dd cd sl ho
  split at e
  ·rename_i B r k0 k1 k2 k3 i k5 hm hs
   simp only [Bool.and_eq_true,beq_iff_eq,Bool.not_eq_true'] at e;obtain ⟨⟨⟨⟨⟨rfl,rfl⟩,rfl⟩,hd⟩,hl⟩,ht⟩:=e;obtain ⟨nm,bs,mro,ns,qn,hdd,sn,sub,ab,col,del⟩:=cd;dsimp only at hm hl hd;subst hm hl hd;have hsl:sl=#[k0,k1,k2,k3,some (.builtin "ValueError.__new__"),k5]:=by
    obtain ⟨l⟩:=sl;simp only at hs;rw [hs]
   subst hsl;exact ⟨⟨nm,qn,ns,bs,sn,sub,ab,col,dd,k0,k1,k2,k3,k5,X _ _ ho⟩,W.tail_of_in X ht⟩
  ·cases e
 ·cases e
section
variable {prog:Program} {w:World} {A:Around} {E:Value->Shared->Prop} {K:W.Frag} {C fI:Addr} {bm:List Value}
theorem vc5 {h:Heap} {g:Array GenState} {d:Drawn} {t:Nat} {os:OsState} {us:List Value} {Q:Fin->Shared->Prop} (X:K.In h) (hc:xcIn K C bm=true) (hi:W.findIn K (.ref C) "__init__" = some (some (.ref fI))) (hf:W.isFn K (.ref fI)=true) (hl:us.length<=sizeLine)
  (hq:∀ h' e,Heap.MadeExcOf h h' e (.ref C) us->h.objs.size<=e->wpAny (model prog w) A (call (.ref fI) (.ref e::us)) (fun r s'=>r=.none /\ Q (.done (.ret (.ref e))) s') E ⟨h',g,d,t,os⟩) :
  wpAny (model prog w) A (Builtin.«type.__call__» ⟨.ref C::us,[]⟩) Q E ⟨h,g,d,t,os⟩:=by
 obtain ⟨⟨nm,q,N,bs,sn,sub,ab,col,dd,k0,k1,k2,k3,k5,hC⟩,T⟩:=uj9 X hc;have VF:=PySem.F.excBase_ValueError;have hB:VM.contains (.type "ValueError")=true:=by decide
 repeat (first | with_reducible refine wpAny_madeBy_exc hC ?_ | with_reducible refine wpAny_loadPart_at hC ?_ | wp_step)
 refine codeAny_call_builtin_code (Code.quiet_builtin _ VF.quiet) (wpAny_check_new_subU VF hB T hC (codeAny_exc_new_subU VF hB VF T hC ?_ hl))
 show wpAny _ _ _ _ _ _
 have kk:∀ b o,h.get? b=some o->((h.push { cls:=.type "tuple",data:=.seq us.toArray }).push { cls:=.ref C,data:=.fields #[.ref h.objs.size,.none,.none,.none,.bool false,.none] }).get? b=some o:=fun b o e=>Heap.get?_push_of_some _ (Heap.get?_push_of_some _ e)
 have X1:=X.keeps kk;have hC1:=kk _ _ hC;have ge:((h.push { cls:=.type "tuple",data:=.seq us.toArray }).push { cls:=.ref C,data:=.fields #[.ref h.objs.size,.none,.none,.none,.bool false,.none] }).get? (h.objs.size+1)=some
   { cls:=.ref C,data:=.fields #[.ref h.objs.size,.none,.none,.none,.bool false,.none] }:=by heap_get
 have hcC:(Value.ref C::bm).contains (.ref C)=true:=by simp
 unfold isInstance
 repeat (first | with_reducible refine wpAny_loadPart_at ge ?_ | (with_reducible refine wpAny_isSubtype_exc hC1 ?_;rw [hcC]) | wp_step)
 show wpAny _ _ (typeLookup (.ref C) _) _ _ _
 refine (W.looks_findIn X1 hi).here (wpAny_holding (wpAny_bind ((W.bind_fn X1 _ (beq_iff_eq.mp hf)).here ?_)));refine wpAny_bind (wpAny_mono (hq _ (h.objs.size+1) ⟨kk,Heap.get?_none_of_le (Nat.le_succ _),h.objs.size,ge,Heap.get?_none_of_le (Nat.le_refl _),?_⟩ (Nat.le_succ _)) (fun r s' hr=>?_) fun _ _ x=>x)
 ·exact Heap.get?_push_of_some _ (Heap.get?_push_at rfl rfl)
 ·obtain ⟨rfl,hQ⟩:=hr
  wp_walk
  exact hQ
theorem vl3 {s:Shared} {us:List Value} {Q:Value->Shared->Prop} (X:K.In s.heap) (hc:xcIn K C bm=true) (hi:W.findIn K (.ref C) "__init__" = some (some (.ref fI))) (hf:W.isFn K (.ref fI)=true) (hl:us.length<=sizeLine)
  (hq:∀ h' e,Heap.MadeExcOf s.heap h' e (.ref C) us->s.heap.objs.size<=e->wpAny (model prog w) (A.under (.builtin "type.__call__" ⟨.ref C::us,[]⟩)) (call (.ref fI) (.ref e::us)) (fun r s'=>r=.none /\ Q (.ref e) s') E { s with heap:=h' }) :
  wpAny (model prog w) A (call (.ref C) us) Q E s:=by
 obtain ⟨⟨nm,q,N,bs,sn,sub,ab,col,dd,k0,k1,k2,k3,k5,hC⟩,T⟩:=uj9 X hc;obtain ⟨h,g,d,t,os⟩:=s;have t1:=tc_lookup;have t2:=tc_bind (.ref C);have t3:(⟨h,g,d,t,os⟩:Shared).TypeIs (.ref C) "type" := ⟨_,hC,rfl⟩;refine wpAny_call (codeAny_of_tree ?_)
 show wpAny _ _ (callAny (.ref C) _) _ _ _
 repeat (any_goals (first | assumption | with_reducible refine wpAny_loadPart_at hC ?_ | wp_step))
 exact And.intro rfl (codeAny_call_builtin_at (Code.quiet_builtin _ (by decide)) entry_typeCall (wpAny_check_type_call_sub hC (vc5 X hc hi hf hl fun h' e hm le=>hq h' e hm le)))
end
structure FlyO (lim:Nat) (H:Hp) (a C:Addr) (dx:Option Addr) (h:Heap) (oe:Obj) (vs:Array Value):Prop where
 la:lim<=a
 ha:H a=none
 ge:h.get? a=some oe
 cl:oe.cls=.ref C
 di:oe.dict=dx
 da:oe.data=.fields vs
structure FlyT (lim:Nat) (H:Hp) (a T:Addr) (h:Heap) (v:Value) (oT:Obj) (ts:Array Value):Prop where
 lt:lim<=T
 ne:T ≠ a
 hT:H T=none
 gT:h.get? T=some oT
 dT:oT.data=.fields ts
 t3:ts[3]?=some v
def Fly (fl:Value->Prop) (lim:Nat) (H:Hp) (a C:Addr) (dx:Option Addr) (h:Heap):Prop :=
 ∃ oe vs T oT ts v,FlyO lim H a C dx h oe vs /\ vs[1]?=some (.ref T) /\ FlyT lim H a T h v oT ts /\ fl v
def FlyN (lim:Nat) (H:Hp) (a C:Addr) (dx:Option Addr) (h:Heap):Prop:=∃ oe vs,FlyO lim H a C dx h oe vs /\ vs[1]?=some .none
theorem Fly.imp {f g:Value->Prop} {lim:Nat} {H:Hp} {a C:Addr} {dx:Option Addr} {h:Heap} (x:Fly f lim H a C dx h) (k:∀ v,f v->g v):Fly g lim H a C dx h:=by
 obtain ⟨oe,vs,T,oT,ts,v,o,e,t,z⟩:=x;exact ⟨oe,vs,T,oT,ts,v,o,e,t,k v z⟩
theorem FlyO.low {lim lim':Nat} {H:Hp} {a C:Addr} {dx:Option Addr} {h:Heap} {oe:Obj} {vs:Array Value} (x:FlyO lim H a C dx h oe vs) (l:lim'<=lim):FlyO lim' H a C dx h oe vs:=⟨Nat.le_trans l x.la,x.ha,x.ge,x.cl,x.di,x.da⟩
theorem Fly.low {f:Value->Prop} {lim lim':Nat} {H:Hp} {a C:Addr} {dx:Option Addr} {h:Heap} (x:Fly f lim H a C dx h) (l:lim'<=lim):Fly f lim' H a C dx h:=by
 obtain ⟨oe,vs,T,oT,ts,v,o,e,t,z⟩:=x;exact ⟨oe,vs,T,oT,ts,v,o.low l,e,⟨Nat.le_trans l t.lt,t.ne,t.hT,t.gT,t.dT,t.t3⟩,z⟩
section
variable {M:Model} {A:Around} {E:Value->Shared->Prop} {s:Shared}
theorem ud9 {base:Heap} {env:Env} {outer:List Env} {L a:Addr} {oe:Obj} {vs:Array Value} {head:Value} {had:Bool} {Q:Unit->Shared->Prop}
  (hfr:A.frames=some (env::outer)) (hl:s.heap.FunFrames base (env::outer)) (hf:env.frame=some L) (ha:s.heap.get? a=some oe) (hd:oe.data=.fields vs) (hz:1 < vs.size)
  (k:∀ (h':Heap) (oT:Obj) (ts:Array Value),(∀ b o,b ≠ a->b ∉ frs (env::outer)->s.heap.get? b=some o->h'.get? b=some o)->(∀ b o,b ≠ a->s.heap.get? b=some o->∃ sl,h'.get? b=some { o with slots:=sl }) ->
   h'.get? a=some (oe.mapFields (·.setIfInBounds 1 (.ref s.heap.objs.size)))->h'.get? s.heap.objs.size=some oT->oT.data=.fields ts->ts[3]?=some (rawInt L)->Q () { s with heap:=h' }) :
  wpAny M A (do let x <- frameOf env;let pl <- entryPlaceOf L had;let b <- EntryCells.newEntry head x .none (rawInt L) .none pl;setField (.ref a) 1 b) Q E s:=by
 have na:a ∉ frs (env::outer):=fun hm=>by
  obtain ⟨_,o,ho,nf⟩:=hl.mem hm;rw [ha] at ho;cases ho;exact nf vs hd
 refine wpAny_bind (wpAny_frameOf_fun hfr hl hf fun h1 hs=>wpAny_bind (wpAny_entryPlaceOf fun pl hp=>?_));have ha1:h1.get? a=some oe:=by rw [hs.2.1 a na];exact ha
 have z1:h1.objs.size=s.heap.objs.size:=hs.1;unfold EntryCells.newEntry newFields;refine wpAny_bind (wpAny_newObj_type (wpAny_setField (Heap.get?_push_of_some _ ha1) hd hz ?_) (hp.sizeOk5 _ _ _ _ _));rw [<- z1] at k;have nT:h1.objs.size ≠ a:=Nat.ne_of_gt (Heap.lt_size ha1);have up:∀ b o,b ≠ a->h1.get? b=some o->((h1.push { cls:=.type "traceback",dict:=none,data:=.fields ([head,.ref L,.none,rawInt L,.none]++(if pl.isEmpty then List.replicate 6 Value.none else pl)).toArray }).update a (Obj.mapFields (·.setIfInBounds 1 (Value.ref h1.objs.size)))).get? b=some o :=
  fun b o n e=>(Heap.get?_update_other _ _ (Ne.symm n)).trans (Heap.get?_push_of_some _ e)
 refine k _ { cls:=.type "traceback",dict:=none,data:=.fields ([head,.ref L,.none,rawInt L,.none]++(if pl.isEmpty then List.replicate 6 Value.none else pl)).toArray } _ (fun b o n nb e=>up b o n ?_) (fun b o n e=>?_) ?_ ?_ rfl ?_
 ·rw [hs.2.1 b nb];exact e
 ·obtain ⟨sl,q⟩:=hs.2.2 b o e
  exact ⟨sl,up b _ n q⟩
 ·exact Heap.get?_update_self _ (Heap.get?_push_of_some _ ha1) (Obj.isFreed_of_fields (Obj.data_mapFields hd _))
 ·rw [Heap.get?_update_other _ _ (Ne.symm nT)]
  exact Heap.get?_push_size h1 rfl
 ·simp
end
section
variable {X:Cx} {pins:List (Addr × Obj)} {σ:St} {H:Hp} {s:Shared} {a C T:Addr} {dx:Option Addr} {lim:Nat}
theorem Inv.rec_ne (I:Inv X pins σ H s) {o:Obj} {vs:Array Value} (h:s.heap.get? a=some o) (hd:o.data=.fields vs):a ≠ X.env.locals /\ (∀ x c,X.env.cells.lookup x=some c->c ≠ a) /\ a ∉ X.fs:=by
 refine ⟨fun e=>?_,fun x c e z=>?_,fun hb=>?_⟩
 ·obtain ⟨m,⟨o',es,ep,ho,hd',_⟩,_⟩:=I.loc
  rw [<- e,h] at ho;cases ho;rw [hd] at hd';cases hd'
 ·obtain ⟨v,o',ho,hd'⟩:=I.cell x c e
  rw [z,h] at ho;cases ho;rw [hd] at hd';cases hd'
 ·obtain ⟨_,o',ho,hd'⟩:=I.funs.mem hb
  rw [h] at ho;cases ho;exact hd' vs hd
theorem Inv.noted {h':Heap} {ch:List Addr} (I:Inv X pins σ H s) (hs:X.stack=X.env::X.outer) (hf:X.env.frame=some X.env.locals) (hc:∀ b ∈ ch,X.s₀.heap.objs.size<=b /\ H b=none /\ (∀ p ∈ X.pn++pins,p.1 ≠ b) /\ (∀ o,s.heap.get? b=some o->∃ vs,o.data=.fields vs) /\ ∃ o,s.heap.get? b=some o)
  (k:∀ b o,b ∉ ch->b ∉ frs (X.env::X.outer)->s.heap.get? b=some o->h'.get? b=some o) (sl:∀ b o,b ∉ ch->s.heap.get? b=some o->∃ sl,h'.get? b=some { o with slots:=sl }):Inv X pins σ H { s with heap:=h' }:=by
 have fr:∀ b,b ∈ frs (X.env::X.outer) ↔ b=X.env.locals \/ b ∈ X.fs:=fun b=>by
  unfold Cx.fs frs;rw [List.filterMap_cons,hf];exact List.mem_cons
 have hcc:∀ b ∈ ch,b ≠ X.env.locals /\ (∀ x c,X.env.cells.lookup x=some c->c ≠ b) /\ b ∉ X.fs:=fun b hb=>by
  obtain ⟨_,_,_,f,o,e⟩:=hc b hb;obtain ⟨vs,d⟩:=f o e;exact I.rec_ne e d
 have lc:X.env.locals ∉ ch:=fun z=>(hcc _ z).1 rfl
 refine I.step (g':=s.gens) (t':=s.toks) (d':=s.drawn) (ch:=ch) (fun b hb=>⟨.inr (hc b hb).1,(hcc b hb).1,(hcc b hb).2.1,(hc b hb).2.2.1⟩) (fun b o n1 n2 n3 e n=>k b o n3 (fun z=>((fr b).mp z).elim n1 n2) e)
  (fun b o n1 n2 n3 e n=>sl b o n3 e) (fun _ _ _ _ n=>n) (fun b o n e=>let ⟨_,q⟩:=sl b o n e;⟨_,q⟩) (fun _ _ e=>e) (fun _ _ _ e=>e) (fun b ps e=>⟨#[],by rw [e];simp⟩) (fun m hm=>?_) (fun b u e=>?_) I.bare
 ·obtain ⟨o,es,ep,ho,r⟩:=hm
  obtain ⟨sl',q⟩:=sl _ o lc ho;exact ⟨_,es,ep,q,r⟩
 ·have nb:∀ c u,H c=some u->c ∉ ch /\ c ∉ frs (X.env::X.outer):=fun c u q=>by
   refine ⟨fun z=>?_,fun z=>?_⟩
   ·rw [(hc c z).2.1] at q;cases q
   ·rw [I.stkFree c (by rw [hs];exact z)] at q;cases q
  refine (I.hok b u e).stay (fun c v hc' q=>?_) (fun _ q=>q) fun _ _ q=>q
  rcases hc' with z | z
  ·subst z;exact k c v (nb c u e).1 (nb c u e).2 q
  ·exact k c v (nb c _ z).1 (nb c _ z).2 q
theorem FlyO.moved {oe oe':Obj} {vs vs':Array Value} {h h':Heap} (x:FlyO lim H a C dx h oe vs) (e:h'.get? a=some oe') (c:oe'.cls=oe.cls) (d:oe'.dict=oe.dict) (v:oe'.data=.fields vs'):FlyO lim H a C dx h' oe' vs' :=
 ⟨x.la,x.ha,e,c.trans x.cl,d.trans x.di,v⟩
theorem u57 (f:Array Value->Array Value) (o:Obj):(o.mapFields f).dict=o.dict:=by
 unfold Obj.mapFields;split <;> rfl
theorem ug4 {M:Model} {E:Value->Shared->Prop} {Q:Unit->Shared->Prop} (I:Inv X pins σ H s) (hs:X.stack=X.env::X.outer) (hf:X.env.frame=some X.env.locals) (hl:X.s₀.heap.objs.size<=lim) (hp:∀ p ∈ X.pn++pins,p.1 < lim)
  (F:FlyN lim H a C dx s.heap \/ Fly (fun v=>v=.none \/ v=rawInt X.env.locals) lim H a C dx s.heap)
  (k:∀ h',Inv X pins σ H { s with heap:=h' }->Fly (fun v=>v=rawInt X.env.locals) lim H a C dx h'->Q () { s with heap:=h' }):wpAny M X.A (noteFrame (.ref a) X.env) Q E s:=by
 have hfr:X.A.frames=some (X.env::X.outer):=by rw [<- hs];exact I.ok.frames
 have hFF:s.heap.FunFrames X.base (X.env::X.outer):=by rw [<- hs];exact I.stack
 have pn:∀ b,lim<=b->∀ p ∈ X.pn++pins,p.1 ≠ b:=fun b l p h e=>absurd (hp p h) (by rw [e];exact Nat.not_lt.mpr l)
 unfold noteFrame;simp only [hf]
 rcases F with ⟨oe,vs,o,v1⟩ | ⟨oe,vs,T,oT,ts,v,o,v1,t,fl⟩
 ·refine wpAny_bind (wpAny_field o.ge o.da v1 ?_)
  rw [if_neg (by decide)];refine ud9 hfr hFF hf o.ge o.da (Array.getElem?_eq_some_iff.mp v1).1 fun h' oT ts k1 k2 e1 e2 e3 e4=>k h' ?_ ?_
  ·refine I.noted hs hf (ch:=[a]) (fun b hb=>?_) (fun b o' n1 n2 e=>k1 b o' (by simpa using n1) n2 e) fun b o' n1 e=>k2 b o' (by simpa using n1) e
   have hb:b=a:=by simpa using hb
   subst hb;exact ⟨Nat.le_trans hl o.la,o.ha,pn b o.la,fun o' e=>by rw [o.ge] at e;cases e;exact ⟨_,o.da⟩,_,o.ge⟩
  ·refine ⟨_,_,s.heap.objs.size,oT,ts,_,o.moved e1 (Obj.cls_mapFields _ _) (u57 _ _) (Obj.data_mapFields o.da _),by simp [(Array.getElem?_eq_some_iff.mp v1).1],⟨Nat.le_trans o.la (Nat.le_of_lt (Heap.lt_size o.ge)),Nat.ne_of_gt (Heap.lt_size o.ge),I.hok.fresh (Nat.le_refl _),e2,e3,e4⟩,rfl⟩
 ·refine wpAny_bind (wpAny_field o.ge o.da v1 ?_)
  rw [if_pos (show (Value.ref T != Value.none)=true from by simp)];refine wpAny_bind (wpAny_field t.gT t.dT t.t3 ?_)
  rcases fl with rfl | rfl
  ·rw [if_neg (show ¬ ((Value.none == rawInt X.env.locals)=true) from by simp [rawInt])]
   refine wpAny_bind (wpAny_setField t.gT t.dT (Array.getElem?_eq_some_iff.mp t.t3).1 ?_);have oth:∀ b,b ≠ T->(s.heap.update T (Obj.mapFields (·.setIfInBounds 3 Value.none))).get? b=s.heap.get? b:=fun b hb=>Heap.get?_update_other _ _ (Ne.symm hb)
   have z:(s.heap.update T (Obj.mapFields (·.setIfInBounds 3 Value.none))).objs.size=s.heap.objs.size:=Heap.size_after_update ..;have nr:∀ b o',s.heap.get? b=some o'->(∀ vs,o'.data ≠ .fields vs)->b ≠ T:=fun b o' e nf q=>by rw [q,t.gT] at e;cases e;exact nf ts t.dT
   have hFF2:(s.heap.update T (Obj.mapFields (·.setIfInBounds 3 Value.none))).FunFrames X.base (X.env::X.outer):=hFF.of_keeps fun b o' e nf=>⟨o',(oth b (nr b o' e nf)).trans e,rfl⟩
   refine ud9 hfr hFF2 hf ((oth a (Ne.symm t.ne)).trans o.ge) o.da (Array.getElem?_eq_some_iff.mp v1).1 fun h' oT2 ts2 k1 k2 e1 e2 e3 e4=>k h' ?_ ?_
   ·refine I.noted hs hf (ch:=[a,T]) (fun b hb=>?_) (fun b o' n1 n2 e=>?_) fun b o' n1 e=>?_
    ·have hb:b=a \/ b=T:=by simpa using hb
     rcases hb with rfl | rfl
     ·exact ⟨Nat.le_trans hl o.la,o.ha,pn b o.la,fun o' e=>by rw [o.ge] at e;cases e;exact ⟨_,o.da⟩,_,o.ge⟩
     ·exact ⟨Nat.le_trans hl t.lt,t.hT,pn b t.lt,fun o' e=>by rw [t.gT] at e;cases e;exact ⟨_,t.dT⟩,_,t.gT⟩
    ·have n1:b ≠ a /\ b ≠ T:=by simpa using n1
     exact k1 b o' n1.1 n2 ((oth b n1.2).trans e)
    ·have n1:b ≠ a /\ b ≠ T:=by simpa using n1
     exact k2 b o' n1.1 ((oth b n1.2).trans e)
   ·have la:=Heap.lt_size o.ge
    rw [z] at e1 e2;exact ⟨_,_,s.heap.objs.size,oT2,ts2,_,o.moved e1 (Obj.cls_mapFields _ _) (u57 _ _) (Obj.data_mapFields o.da _),by simp [(Array.getElem?_eq_some_iff.mp v1).1],⟨Nat.le_trans o.la (Nat.le_of_lt la),Nat.ne_of_gt la,I.hok.fresh (Nat.le_refl _),e2,e3,e4⟩,rfl⟩
  ·rw [if_pos (show (rawInt X.env.locals == rawInt X.env.locals)=true from by simp)]
   exact wpAny_pure (k s.heap I ⟨oe,vs,T,oT,ts,_,o,v1,t,rfl⟩)
theorem u76 {M:Model} {A:Around} {E:Value->Shared->Prop} {Q:Unit->Shared->Prop} {fl:Value->Prop} {fr:Option Addr} (I:Inv X pins σ H s) (hs:X.stack=X.env::X.outer) (hf:X.env.frame=some X.env.locals) (hl:X.s₀.heap.objs.size<=lim) (hp:∀ p ∈ X.pn++pins,p.1 < lim)
  (F:Fly fl lim H a C dx s.heap) (k:∀ h',Inv X pins σ H { s with heap:=h' }->Fly (fun v=>v=fr.elim .none fun f=>rawInt f) lim H a C dx h'->Q () { s with heap:=h' }):wpAny M A (setFlight (.ref a) fr) Q E s:=by
 obtain ⟨oe,vs,T,oT,ts,v,o,v1,t,_⟩:=F;unfold setFlight;refine wpAny_bind (wpAny_field o.ge o.da v1 ?_);rw [if_pos (show (Value.ref T != Value.none)=true from by simp)];have l3:=(Array.getElem?_eq_some_iff.mp t.t3).1;refine wpAny_setField t.gT t.dT l3 (k _ ?_ ?_)
 ·refine I.noted hs hf (ch:=[T]) (fun b hb=>?_) (fun b o' n1 n2 e=>?_) fun b o' n1 e=>⟨o'.slots,?_⟩
  ·have hb:b=T:=by simpa using hb
   subst hb;exact ⟨Nat.le_trans hl t.lt,t.hT,fun p h e=>absurd (hp p h) (by rw [e];exact Nat.not_lt.mpr t.lt),fun o' e=>by rw [t.gT] at e;cases e;exact ⟨_,t.dT⟩,_,t.gT⟩
  ·exact (Heap.get?_update_other _ _ (Ne.symm (by simpa using n1))).trans e
  ·exact (Heap.get?_update_other _ _ (Ne.symm (by simpa using n1))).trans e
 ·exact ⟨oe,vs,T,_,_,_,o.moved ((Heap.get?_update_other _ _ t.ne).trans o.ge) rfl rfl o.da,v1,⟨t.lt,t.ne,t.hT,Heap.get?_update_self _ t.gT (Obj.isFreed_of_fields (Obj.data_mapFields t.dT _)),Obj.data_mapFields t.dT _,by simp [l3]⟩,rfl⟩
end
end L2
namespace L2
open PySem PySem.Spec PyProof.Rows PySem.W Builtin Builtin.ObjectAttr
theorem u99 {K:Frag} {C:Addr} {bm:List Value} (e:xcIn K C bm=true):∃ cd,clsIn K C=some cd /\ cd.mro=.ref C::bm /\ cd.hasDict=true:=by
 unfold xcIn at e;unfold clsIn;split at e
 ·rename_i dd cd sl ho
  split at e
  ·rename_i B r k0 k1 k2 k3 i k5 hm hs
   simp only [Bool.and_eq_true,beq_iff_eq,Bool.not_eq_true'] at e;obtain ⟨⟨⟨⟨⟨rfl,rfl⟩,rfl⟩,hd⟩,hl⟩,ht⟩:=e;exact ⟨cd,by rw [ho],hm,hd⟩
  ·cases e
 ·cases e
section
variable {prog:Program} {w:World} {A:Around} {E:Value->Shared->Prop} {K:Frag} {C L x:Addr} {o:Obj} {vs:Array Value} {name:Str} {s:Shared}
theorem uu1 (self:Value) (C L:Addr):refuseLoop self "__setattr__" (.ref C::.ref L::VM)=pure ():=by
 rw [refuseLoop_ref,refuseLoop_ref];exact PySem.F.store_ValueError.passes self
theorem ut3 {M:Model} {h:Heap} (X:K.In h) (hc:xcIn K C (.ref L::VM)=true) (b:Value):Looks M h (isSubtype (.ref C) b) ((Value.ref C::.ref L::VM).contains b):=by
 obtain ⟨cd,c1,c2,c3⟩:=u99 hc;exact looks_mroIn X (by unfold mroIn;rw [c1,Option.bind_some,c2];rfl)
theorem ub3 {M:Model} {h:Heap} (hx:h.get? x=some o) (hcl:o.cls=.ref C):Looks M h (typeOf (.ref x)) (.ref C):=hcl ▸ (Looks.ld hx).andThen .now
theorem vp6 {v:Value} {Q:Unit->Shared->Prop} (X:K.In s.heap) (hc:xcIn K C (.ref L::VM)=true) (hsa:findIn K (.ref C) "__setattr__" = some (some (.builtin "object.__setattr__"))) (hna:findIn K (.ref C) name=some none)
  (hx:s.heap.get? x=some o) (hcl:o.cls=.ref C) (hdi:o.dict=none) (hda:o.data=.fields vs)
  (k:∀ h' tk,(∀ b ob,b ≠ x->s.heap.get? b=some ob->h'.get? b=some ob)->h'.get? x=some { o with dict:=some s.heap.objs.size }->h'.Ns1 s.heap.objs.size (fun y=>if y=name then some v else none)->Q () { s with heap:=h',toks:=tk }) :
  wpAny (model prog w) A (setAttr (.ref x) name v) Q E s:=by
 have SF:=PySem.F.store_ValueError;obtain ⟨cd,c1,c2,c3⟩:=u99 hc;obtain ⟨h,g,d,t,os⟩:=s;have T:=ub3 (M:=model prog w) hx hcl;have hT:Looks (model prog w) h (isInstance (.ref x) (.type "object")) true:=T.andThen (by
  have:=ut3 (M:=model prog w) X hc (.type "object")
  rwa [show (Value.ref C::.ref L::VM).contains (.type "object")=true from by simp] at this)
 have hm:Looks (model prog w) h (mroOf (.ref C)) (.ref C::.ref L::VM):=c2 ▸ (looks_clsIn X c1).andThen .now;unfold setAttr callSpecial? specialOf;refine wpAny_bind (wpAny_mkText (wpAny_bind (wpAny_bind (wpAny_bind (T _ _ _ _ (fun _ _ e=>e) (looks_findIn X hsa _ _ _ _ (fun _ _ e=>e) ?_))))));refine wpAny_holding (wpAny_bind ?_);rw [SF.slot.bind];refine wpAny_pure (wpAny_bind (wpAny_call ?_));refine codeAny_call_builtin SF.slot.plain SF.entry ?_;refine @check_slot (model prog w) _ _ ⟨h,g,d,t+1,os⟩ "object.__setattr__" "object" "__setattr__" (.ref x) [.str name t,v] [] _ SF.kind SF.split hT (SF.args (.ref x) (.str name t) v) ?_
 show wpAny _ _ (Builtin.«object.__setattr__» ⟨[.ref x,.str name t,v],[]⟩) _ _ _
 rw [osa_eq,refuse_eq];refine wpAny_bind (wpAny_bind (T _ _ _ _ (fun _ _ e=>e) (wpAny_bind (hm _ _ _ _ (fun _ _ e=>e) ?_))));rw [uu1];refine wpAny_pure (wpAny_bind (T _ _ _ _ (fun _ _ e=>e) (wpAny_bind (looks_findIn X hna _ _ _ _ (fun _ _ e=>e) (wpAny_bind (wpAny_pure ?_))))));refine wpAny_bind (wpAny_pure (wpAny_bind (wpAny_bind (wpAny_loadPart hx ?_))));rw [hcl];refine wpAny_bind (looks_clsIn X c1 _ _ _ _ (fun _ _ e=>e) ?_);rw [c3,if_neg (by decide)];have hx:h.get? x=some o:=hx;have nx:x ≠ h.objs.size:=Nat.ne_of_lt (Heap.lt_size hx);have hx1:(h.push { cls:=.type "dict",data:=.dict #[] }).get? x=some o:=Heap.get?_push_of_some _ hx;rw [hdi];dsimp only;rw [if_neg (by simp [typeHasDict])];rw [hda];refine wpAny_bind (wpAny_alloc' (wpAny_bind (wpAny_update' hx1 (wpAny_pure ?_))));have e0:((h.push { cls:=.type "dict",data:=.dict #[] }).update x fun o=>{ o with dict:=some h.objs.size }).get? h.objs.size=some { cls:=.type "dict",data:=.dict #[] }:=(Heap.get?_update_other _ _ nx).trans (Heap.get?_push_at rfl rfl);have n0:((h.push { cls:=.type "dict",data:=.dict #[] }).update x fun o=>{ o with dict:=some h.objs.size }).Ns h.objs.size (fun _=>none):=⟨_,#[],_,e0,rfl,fun e he=>absurd he (by simp),fun _=>rfl⟩
 show wpAny _ _ (storeInDict h.objs.size (.str name t) name v) _ _ _
 unfold storeInDict newKeyGuard;refine wpAny_bind (wpAny_pure (wpAny_bind (wpAny_nsSet1 (Heap.Ns1.of_empty n0) fun h' n1 sb=>?_)));obtain ⟨oD,esD,epD,g1,g2,g3⟩:=n1.count (Within.cons name v Within.nil);refine wpAny_bind (wpAny_lookBehind g1 (by rw [g2];exact pastItsLine_dict (Nat.le_trans g3 (by rw [List.length_cons,List.length_nil,sizeLine_eq];omega))) ?_)
 wp_walk
 refine k h' _ (fun b ob nb e=>?_) ?_ ?_
 ·exact (sb.2 b (Nat.ne_of_lt (Heap.lt_size e))).trans ((Heap.get?_update_other _ _ (Ne.symm nb)).trans (Heap.get?_push_of_some _ e))
 ·refine (sb.2 x nx).trans (Heap.get?_update_self _ hx1 ?_)
  exact Obj.isFreed_of_fields (vs:=vs) hda
 ·exact n1
end
section
variable {prog:Program} {w:World} {A:Around} {E:Value->Shared->Prop} {K:Frag} {C L x:Addr} {o:Obj} {vs:Array Value} {name:Str} {h:Heap} {g:Array GenState} {d:Drawn} {t:Nat} {os:OsState}
theorem uc8 {M:Model} {nv:Value} {Q:Unit->Shared->Prop} (X:K.In h) (hc:xcIn K C (.ref L::VM)=true) (hx:h.get? x=some o) (hcl:o.cls=.ref C) (hq:Q () ⟨h,g,d,t,os⟩) :
  wpAny M A (checkBuiltinCall "BaseException.__getattribute__" ⟨[.ref x,nv],[]⟩) Q E ⟨h,g,d,t,os⟩:=by
 have hT:Looks M h (isInstance (.ref x) (.type "BaseException")) true:=(ub3 hx hcl).andThen (by
  have:=ut3 (M:=M) X hc (.type "BaseException")
  rwa [show (Value.ref C::.ref L::VM).contains (.type "BaseException")=true from by simp] at this)
 exact @check_slot M A E ⟨h,g,d,t,os⟩ "BaseException.__getattribute__" "BaseException" "__getattribute__" (.ref x) [nv] [] Q (by decide) (by decide) hT (PySem.F.args_bexc_ga (.ref x) nv) hq
theorem vy6 {v:Value} {od:Obj} {dx:Addr} {expr:Bool} {Q:Value->Shared->Prop} (X:K.In h) (hc:xcIn K C (.ref L::VM)=true) (hga:findIn K (.ref C) "__getattribute__" = some (some (.builtin "BaseException.__getattribute__"))) (hgt:findIn K (.ref C) "__getattr__" = some none)
  (hna:findIn K (.ref C) name=some none) (hx:h.get? x=some o) (hcl:o.cls=.ref C) (hda:o.data=.fields vs) (hdi:o.dict=some dx) (hd:h.get? dx=some od) (hl:lookIn name od=some (some v)) (hh:handedIn v=true) (hq:Q v ⟨h,g,d,t+1,os⟩) :
  wpAny (model prog w) A (getAttr (.ref x) name expr) Q E ⟨h,g,d,t,os⟩:=by
 have GA:=PySem.F.attr_ValueError.ga;obtain ⟨cd,c1,c2,c3⟩:=u99 hc;have I:InstAt h x o C (some od):=⟨hx,hcl,by unfold notCls;rw [hda],by rw [hdi];exact hd⟩;have hf:findObj K C (some od) name=some (.value v):=by
  unfold findObj W.ownOf;rw [c1,Option.bind_some,hna,Option.bind_some];simp only [Option.bind_some,c3,if_true];rw [hl];rfl
 have T:=ub3 (M:=model prog w) hx hcl;have L1:=looks_findIn (M:=model prog w) X hga;have L2:=looks_findIn (M:=model prog w) X hgt;have L3:=looks_find (M:=model prog w) X I hf;have f3:=GA.bind (.ref x);have hx0:(expr && onTheHeap (Value.builtin "BaseException.__getattribute__"))=false:=by cases expr <;> rfl
 have hx2:(Value.builtin "BaseException.__getattribute__" == Value.builtin "object.__getattribute__")=false:=by decide
 have hx1:(onTheHeap (Value.ref C) && Value.builtin "BaseException.__getattribute__" == Value.builtin "object.__getattribute__")=false:=by rw [hx2];rfl
 unfold getAttr getAttrBy
 repeat (any_goals (first | assumption | with_reducible refine Looks.at (by assumption) ?_ | wp_step))
 refine codeAny_call_builtin GA.plain PySem.F.entry_bexc_ga (uc8 X hc hx hcl ?_)
 show wpAny _ _ (Builtin.«object.__getattribute__» ⟨[.ref x,.str name t],[]⟩) _ _ _
 unfold Builtin.«object.__getattribute__»
 repeat (any_goals (first | assumption | with_reducible refine Looks.at (by assumption) ?_ | wp_step))
 show wpAny _ _ (handedOut v) _ _ _
 rw [handedOut_of hh];exact wpAny_pure hq
theorem vj7 {us:List Value} {Q:Value->Shared->Prop} (X:K.In h) (hc:xcIn K C (.ref L::VM)=true) (hx:h.get? x=some o) (hcl:o.cls=.ref C) (hda:o.data=.fields vs) {t0:Addr} (h0:vs[0]?=some (.ref t0)) (hl:us.length<=sizeLine)
  (k:∀ h',(∀ b ob,b ≠ x->h.get? b=some ob->h'.get? b=some ob)->h'.get? x=some (o.mapFields (·.setIfInBounds 0 (.ref h.objs.size)))->Q .none ⟨h',g,d,t,os⟩) :
  wpAny (model prog w) A (call (.builtin "ValueError.__init__") (.ref x::us)) Q E ⟨h,g,d,t,os⟩:=by
 have VF:=PySem.F.excBase_ValueError;obtain ⟨⟨nm,q,N,bs,sn,sub,ab,col,dd,k0,k1,k2,k3,k5,hC⟩,T⟩:=uj9 X hc;refine wpAny_call (codeAny_call_builtin VF.init.plain VF.initEntry (wpAny_check_init_subU VF T hC hx hcl ?_));unfold Builtin.«BaseException.__init__»
 repeat (any_goals (first | assumption | wp_step))
 rw [hda];refine wpAny_pure ?_;rw [h0];refine wpAny_pure (wpAny_bind (wpAny_setField (Heap.get?_push_of_some _ hx) hda (Array.getElem?_eq_some_iff.mp h0).1 ?_));dsimp only
 repeat (any_goals (first | assumption | wp_step))
 refine k _ (fun b ob nb e=>?_) ?_
 ·exact (Heap.get?_update_other _ _ (Ne.symm nb)).trans (Heap.get?_push_of_some _ e)
 ·exact Heap.get?_update_self _ (Heap.get?_push_of_some _ hx) (Obj.isFreed_of_fields (Obj.data_mapFields hda _))
end
end L2
namespace L2
open PySem PySem.Spec PyProof.Rows
def XN (a C:Addr) (dx:Option Addr) (h:Heap):Prop:=∃ o vs t0,h.get? a=some o /\ o.cls=.ref C /\ o.dict=dx /\ o.data=.fields vs /\ vs[0]?=some (.ref t0) /\ vs[1]?=some .none
theorem XN.stays {a C:Addr} {dx:Option Addr}:∀ h1 h2:Heap,XN a C dx h1->(∀ o,h1.get? a=some o->h2.get? a=some o)->XN a C dx h2:=fun _ _ ⟨o,vs,t0,e,r⟩ k=>⟨o,vs,t0,k _ e,r⟩
theorem XH.stays {a C:Addr} {dx:Option Addr}:∀ h1 h2:Heap,XH a C dx h1->(∀ o,h1.get? a=some o->h2.get? a=some o)->XH a C dx h2:=fun _ _ ⟨o,vs,e,r⟩ k=>⟨o,vs,k _ e,r⟩
def del (H:Hp) (a:Addr):Hp:=fun b=>if b=a then none else H b
theorem uo5 {H:Hp} {a:Addr}:del H a a=none:=by unfold del;rw [if_pos rfl]
theorem uc5 {H:Hp} {a b:Addr} (h:b ≠ a):del H a b=H b:=by unfold del;rw [if_neg h]
theorem v18 {H:Hp} {a:Addr} {o:HO} (h:H a=some o):upd H a o=H:=by
 funext b;unfold upd;split
 ·rename_i e;rw [e,h]
 ·rfl
section
variable {X:Cx} {pins:List (Addr × Obj)} {σ:St} {H:Hp} {s:Shared}
theorem Inv.track {b:Addr} {o:HO} (I:Inv X pins σ H s) (hb:H b=none) (h1:X.s₀.heap.objs.size<=b) (hp:∀ p ∈ X.pn++pins,p.1 ≠ b) (hL:b ≠ X.env.locals) (hc:∀ x c,X.env.cells.lookup x=some c->c ≠ b)
  (ok:ObjOk X.prog X.w (upd H b o) s.heap b o):Inv X pins σ (upd H b o) s:=by
 have ne:∀ c u,H c=some u->c ≠ b:=fun c u e z=>by rw [z,hb] at e;cases e
 refine I.step (h':=s.heap) (g':=s.gens) (t':=s.toks) (d':=s.drawn) (ch:=[b]) (fun c hc'=>?_) (fun _ _ _ _ _ e _=>e) (fun _ o _ _ _ e _=>⟨o.slots,e⟩) (fun c o' n e z=>?_) (fun _ o' _ e=>⟨o',e⟩)
  (fun c xs e=>by rw [u11 (ne c _ e)];exact e) (fun c o' u e=>by rw [u11 (ne c _ e)];exact e) (fun c ps e=>⟨#[],by rw [u11 (ne c _ e),e];simp⟩) (fun _ m=>m) (fun c u e=>?_) I.bare
 ·have z:c=b:=by simpa using hc'
  subst z;exact ⟨.inr h1,hL,hc,hp⟩
 ·rw [u11 (by simpa using n)];exact z
 ·by_cases z:c=b
  ·subst z;rw [u18] at e;cases e;exact ok
  ·rw [u11 z] at e
   exact (I.hok c u e).stay (fun _ _ _ q=>q) (fun d q=>by rw [u11 (ne d _ q)];exact q) fun d xs q=>by rw [u11 (ne d _ q)];exact q
theorem Inv.untrack {b:Addr} {φ:Heap->Prop} (I:Inv X pins σ H s) (hb:H b=some (.ext φ)):Inv X pins σ (del H b) s:=by
 have ne:∀ c u,H c=some u->(∀ ψ,u ≠ .ext ψ)->c ≠ b:=fun c u e n z=>by rw [z,hb] at e;cases e;exact n _ rfl
 refine I.step (h':=s.heap) (g':=s.gens) (t':=s.toks) (d':=s.drawn) (ch:=[]) (fun c hc'=>nomatch hc') (fun _ _ _ _ _ e _=>e) (fun _ o _ _ _ e _=>⟨o.slots,e⟩) (fun c o' n e z=>?_) (fun _ o' _ e=>⟨o',e⟩)
  (fun c xs e=>by rw [uc5 (ne c _ e (by intro _ z;cases z))];exact e) (fun c o' u e=>by rw [uc5 (ne c _ e (by intro _ z;cases z))];exact e) (fun c ps e=>⟨#[],by rw [uc5 (ne c _ e (by intro _ z;cases z)),e];simp⟩) (fun _ m=>m) (fun c u e=>?_) I.bare
 ·unfold del;split
  ·rfl
  ·exact z
 ·have z:c ≠ b:=fun z=>by rw [z,uo5] at e;cases e
  rw [uc5 z] at e;exact (I.hok c u e).stay (fun _ _ _ q=>q) (fun d q=>by rw [uc5 (ne d _ q (by intro _ z;cases z))];exact q) fun d xs q=>by rw [uc5 (ne d _ q (by intro _ z;cases z))];exact q
end
def v88 (K:W.Frag) (L:Addr) (t:TA):TE:=fun σ H Q=>t σ H fun vs H1=>∃ a C rest,vs=.ref a::rest /\ H1 a=some (.ext (XN a C none)) /\ xcIn K C (.ref L::VM)=true /\ rest.length<=1000 /\ Q .non H1
def vp8 (K:W.Frag) (L:Addr) (ta tv:TE) (f:Str):TS:=fun D σ H=>tv σ H fun y H1=>ta σ H1 fun x H2=>∃ a C,x=.ref a /\ H2 a=some (.ext (XN a C none)) /\ xcIn K C (.ref L::VM)=true /\
 W.findIn K (.ref C) "__setattr__" = some (some (.builtin "object.__setattr__")) /\ W.findIn K (.ref C) f=some none /\ ∀ dx o,H2 dx=none->dx ≠ a->D.nx σ (upd (upd H2 a (.ext (XN a C (some dx)))) dx (.frz o (.xd [(f,y)])))
section
variable {X:Cx} {L:Addr} {LN f:Str} {p apos pos pos':Pos} {e o value:Expr} {es:List Expr} {t:TA} {ta tv:TE}
theorem ug3 {pl:Sem Bool} (hg:Gl X LN) (hm:X.mg LN=some (.ref L)) (hsp:W.specialIn X.K (.ref L) "__getattribute__" = some (some (.builtin "type.__getattribute__"))) (hr:W.readsIn X.K L (.type "type")=true)
  (hfc:W.findCls X.K (.ref L) (.type "type") "__init__" = some (.val (.builtin "ValueError.__init__"))) (ha:PA X (e::es) t) (hdb:(LN == ("__debug__" : Str))=false:=by decide)
  (hst:starEach (e::es) X.env=(false,eval e X.env)::starEach es X.env:=by rfl) (hpl:(backTo pos (starEach es X.env)).any (·.1)=false:=by rfl)
  (ht:eval (.Call (.Attribute (.Name LN p) "__init__" apos) (e::es) [] pos) X.env=(do
   let ov <- eval (.Name LN p) X.env
   standAt apos.atName
   let (f,first) <- holding [ov] (getMethod ov "__init__" pl)
   callWith pos f first (backTo pos (starEach (e::es) X.env)) (backToKw pos (keywordEach [] X.env))):=by rfl) :
  PE X (.Call (.Attribute (.Name LN p) "__init__" apos) (e::es) [] pos) (v88 X.K L t):=by
 intro pins s σ H Q I h;refine W.methodCall_KW (pl:=pl) (u84 I hg hm (W.method_cls I.kIn hsp (W.cls_value I.kIn hr hfc rfl ?_)) hdb) ht;have hA:=ha pos pins { s with toks:=s.toks+1 } σ H _ (I.tok _) h
 rw [hst] at hA ⊢;refine Calls.callWith_builtin (by show (false || (backTo pos (starEach es X.env)).any (·.1))=false;rw [hpl] <;> rfl) (Calls.evalArgs_plain ?_);refine thn hA ?_;rintro us s2 ⟨vs,H2,I2,r2,a,C,rest,rfl,h2,hc,hl,q⟩;obtain ⟨o,ws,t0,g1,g2,g3,g4,g5,g6⟩:=(I2.hok a _ h2).1;cases r2 with
 | cons r r' =>
  cases r;obtain ⟨hh,gg,dd,tt,oo⟩:=s2;refine vj7 I2.kIn hc g1 g2 g4 g5 (by rw [<- r'.length,sizeLine_eq];omega) fun h' k1 k2=>?_
  have d2:=Obj.data_mapFields g4 (·.setIfInBounds 0 (Value.ref hh.objs.size));have I3:=I2.write (x:=a) (e:=a) (o:=.ext (XN a C none)) (t':=tt) (by rw [h2];exact True.intro) (.inl rfl) (fun b u nb e=>k1 b u nb e) ⟨_,k2⟩
   ⟨⟨_,_,hh.objs.size,k2,(Obj.cls_mapFields _ _).trans g2,(u57 _ _).trans g3,d2,by simp [(Array.getElem?_eq_some_iff.mp g5).1],by rw [Array.getElem?_setIfInBounds_ne (by decide)];exact g6⟩,⟨_,k2⟩,XN.stays⟩
  rw [v18 h2] at I3;exact ⟨.non,H2,I3,rfl,q⟩
theorem uk5 (ha:PE X o ta) (hv:PE X value tv) (hs:swapsWith value (some (.Attribute o f pos')) pos.line X.env=pure false:=by rfl):PS X (.Assign [.Attribute o f pos'] value pos) (vp8 X.K L ta tv f):=by
 intro pins s σ H D I h;refine plainObj_wpAny_Assign_Attribute (thn (hv pins s σ H _ I h) ?_) hs;rintro u s1 ⟨y,H1,I1,ry,q⟩;refine thn (ha pins s1 σ H1 _ I1 q) ?_;rintro ov s2 ⟨x,H2,I2,rx,a,C,rfl,h2,hc,hsa,hna,q2⟩;cases rx;obtain ⟨ob,ws,t0,g1,g2,g3,g4,g5,g6⟩:=(I2.hok a _ h2).1;refine vp6 I2.kIn hc hsa hna g1 g2 g3 g4 fun h' tk k1 k2 n1=>?_
 have la:=Heap.lt_size g1;have nd:s2.heap.objs.size ≠ a:=Nat.ne_of_gt la;have I3:=I2.write (x:=a) (e:=a) (o:=.ext (XN a C (some s2.heap.objs.size))) (t':=tk) (by rw [h2];exact True.intro) (.inl rfl) (fun b u' nb e=>k1 b u' nb e) ⟨_,k2⟩
  ⟨⟨_,_,t0,k2,g2,rfl,g4,g5,g6⟩,⟨_,k2⟩,XN.stays⟩
 have fr:H2 s2.heap.objs.size=none:=I2.hok.fresh (Nat.le_refl _);have lc:=I2.lt;obtain ⟨od,es',ep,m1,m2⟩:=id n1;have I4:=I3.track (b:=s2.heap.objs.size) (o:=.frz od (.xd [(f,y)])) (by rw [u11 nd];exact fr) I2.sz (fun p hp e=>?_) (Nat.ne_of_gt lc) (fun x c e z=>?_) ⟨m1,_,n1,fun g=>?_⟩
 ·exact ⟨σ,_,I4,q2 _ od fr nd⟩
 ·obtain ⟨e1,_⟩:=I2.pin p hp
  exact absurd (Heap.lt_size e1) (by rw [e];exact Nat.lt_irrefl _)
 ·obtain ⟨v,oc,e1,_⟩:=I2.cell x c e
  exact absurd (Heap.lt_size e1) (by rw [z];exact Nat.lt_irrefl _)
 ·show RelO (([(f,y)]:List (Str × V)).lookup g) (if g=f then some u else none)
  rw [List.lookup_cons]
  by_cases z:g=f
  ·subst z;rw [if_pos rfl,beq_self_eq_true];exact ry
  ·rw [if_neg z,beq_false_of_ne z];exact True.intro
end
section
variable {M:Model} {A:Around} {E:Value->Shared->Prop} {K:W.Frag} {L:Addr} {env:Env}
theorem v26 {s:Shared} {x:Sem Value} {Q:Flow->Shared->Prop} (hh:A.handled=none) (h:wpAny M A x (fun v s1=>∃ a C o vs,v=.ref a /\ K.In s1.heap /\ xcIn K C (.ref L::VM)=true /\ s1.heap.get? a=some o /\ o.cls=.ref C /\ o.data=.fields vs /\ vs[1]?=some .none /\ E (.ref a) s1) E s) :
  wpAny M A (raiseStmt env (some x) none) Q E s:=by
 unfold raiseStmt;refine wpAny_bind (wpAny_mono h (fun v s1 h1=>?_) fun _ _ x=>x);obtain ⟨a,C,o,vs,rfl,X,hc,g1,g2,g3,g4,q⟩:=h1;obtain ⟨⟨nm,q',N,bs,sn,sub,ab,col,dd,k0,k1,k2,k3,k5,hC⟩,T⟩:=uj9 X hc;have hcB:(Value.ref C::.ref L::VM).contains (.type "BaseException")=true:=by simp
 obtain ⟨oc,od,oda,osl⟩:=o;dsimp only at g2 g3;subst g2 g3;obtain ⟨hp,g,d,tk,os⟩:=s1
 repeat (first | with_reducible refine wpAny_loadPart_at g1 ?_ | with_reducible refine wpAny_loadPart_at hC ?_ | (with_reducible refine wpAny_isSubtype_exc hC ?_;rw [hcB]) | (with_reducible refine wpAny_field g1 rfl g4 ?_) | wp_step)
 exact wpAny_raiseNew_none hh q
end
def CX1 (P:Program) (w:World):CXT:=fun outer H s E e s'=>∃ a C dx H',e=.ref a /\ s'.os=s.os /\ AllBare s'.gens /\ Un (frs outer) [] H H' s.heap s'.heap /\ HOk P w H' s'.heap /\ Fly (fun v=>v=.none) s.heap.objs.size H' a C dx s'.heap /\ E (.ref C) dx H'
def FlyIn (X:Cx) (E:XK) (e:Value) (s:Shared):Prop:=∃ σ H a C dx,e=.ref a /\ Inv X [] σ H s /\ (FlyN X.s₀.heap.objs.size H a C dx s.heap \/ Fly (fun v=>v=.none \/ v=rawInt X.env.locals) X.s₀.heap.objs.size H a C dx s.heap) /\ E (.ref C) dx H
structure Def (X:Cx):Prop where
 st:X.stack=X.env::X.outer
 fr:X.env.frame=some X.env.locals
 pn:X.pn=[]
 ex:X.ex=[]
section
variable {X:Cx} {E:XK}
theorem Def.low (D:Def X):∀ p ∈ X.pn++([]:List (Addr × Obj)),p.1 < X.s₀.heap.objs.size:=fun p h=>by rw [D.pn] at h;exact nomatch h
theorem FlyIn.own (D:Def X):PassesOwn (model X.prog X.w) X.A X.env (FlyIn X E):=by
 rintro e s ⟨σ,H,a,C,dx,rfl,I,F,q⟩;refine ug4 I D.st D.fr (Nat.le_refl _) D.low F fun h1 I1 F1=>?_
 obtain ⟨oe,vs,T,oT,ts,v,o,v1,t,fl⟩:=id F1;refine wpAny_bind (wpAny_field o.ge o.da v1 ?_);rw [if_neg (by simp)];refine u76 I1 D.st D.fr (Nat.le_refl _) D.low F1 fun h2 I2 F2=>?_
 exact ⟨σ,H,a,C,dx,rfl,I2,.inr (F2.imp fun v e=>.inr (by rw [e,D.fr];rfl)),q⟩
theorem FlyIn.leaves (D:Def X) {e:Value} {s:Shared} {E2:Value->Shared->Prop} (F:FlyIn X E e s):wpAny (model X.prog X.w) X.A (leaving X.env e) (fun _ s'=>CX1 X.prog X.w X.outer X.H₀ X.s₀ E e s') E2 s:=by
 obtain ⟨σ,H,a,C,dx,rfl,I,F,q⟩:=F;unfold leaving;refine wpAny_bind (ug4 I D.st D.fr (Nat.le_refl _) D.low F fun h1 I1 F1=>u76 I1 D.st D.fr (Nat.le_refl _) D.low F1 fun h2 I2 F2=>?_);refine ⟨a,C,dx,H,rfl,I2.os,I2.bare,?_,I2.hok,F2,q⟩;have:=I2.base;rw [D.ex] at this;exact this
theorem FlyIn.pass (D:Def X) {E3:Value->Shared->Prop} (k:∀ e s,FlyIn X E e s->E3 e s):Passes (CX1 X.prog X.w) (X.wish E3) E:=by
 rintro pins σ H s e s' I ⟨a,C,dx,H',rfl,os,ba,un,hok,F,q⟩;have I0:Inv X pins σ H s:=I.unwish;have I1:=I0.call' (ch:=[]) os un hok ba (fun b z=>nomatch z);have I2:Inv X [] σ H' s':=I1.pins_of fun p h=>absurd h (by simp)
 exact k _ _ ⟨σ,H',a,C,dx,rfl,I2,.inr ((F.low I0.sz).imp fun v e=>.inl e),q⟩
end
def u82 (C:Addr) (f:Str):Sp:=fun vs H Q _=>∃ a v,vs=[.ref a,v] /\ H a=some (.ext (XN a C none)) /\ ∀ dx o,H dx=none->dx ≠ a->Q .non (upd (upd H a (.ext (XN a C (some dx)))) dx (.frz o (.xd [(f,v)])))
def vc7 (C:Addr) (f:Str) (E:XK) (t:TA):TS:=fun _ σ H=>t σ H fun vs H1=>∃ v,vs=[v] /\ ∀ dx o,H1 dx=none->E (.ref C) (some dx) (upd H1 dx (.frz o (.xd [(f,v)])))
structure XMk (K:W.Frag) (C L fI:Addr):Prop where
 xc:xcIn K C (.ref L::VM)=true
 init:W.findIn K (.ref C) "__init__" = some (some (.ref fI))
 fn:W.isFn K (.ref fI)=true
 kp:W.keepIn K (.ref C)=true
section
variable {X:Cx} {E:XK} {k:Nat} {C L fI:Addr} {fd:FuncData} {ps:List Str} {f x:Str} {p pos cpos:Pos} {e:Expr} {t:TA}
theorem vk4 {H:Hp} {a b:Addr} {o o':HO} (hn:a ≠ b) (h:H a=none):del (upd (upd H a o) b o') a=upd H b o':=by
 funext c
 by_cases z:c=a
 ·subst z;rw [uo5,u11 hn,h]
 ·rw [uc5 z]
  by_cases y:c=b
  ·subst y;rw [u18,u18]
  ·rw [u11 y,u11 z,u11 y]
theorem ut9 {pins:List (Addr × Obj)} {σ:St} {H:Hp} {s:Shared} {Q:Addr->Hp->Prop} {us:List Value} {vs:List V} {sp:Sp} (M:XMk X.K C L fI) (F:FnOk X.prog X.w X.K X.mg X.base CX0 k fI fd ps sp) (hr:Room (k+1) X.A) (hb:Binds X.K fd ps [])
  (I:Inv X pins σ H s) (r:Vals vs us) (hl:us.length<=sizeLine)
  (h:∀ a,H a=none->s.heap.objs.size<=a->sp (.ref a::vs) (upd H a (.ext (XN a C none))) (fun v H2=>v=.non /\ Q a H2) E0) :
  wpAny (model X.prog X.w) X.A (call (.ref C) us) (fun u s'=>∃ a H2,u=.ref a /\ s.heap.objs.size<=a /\ Inv X pins σ H2 s' /\ Q a H2) X.xe s:=by
 refine vl3 I.kIn M.xc M.init M.fn hl fun h' a hm le=>?_
 obtain ⟨t,g1,_,g2⟩:=hm.there;have I1:Inv X pins σ H { s with heap:=h' }:=I.kept (t':=s.toks) hm.keeps
 have ha:H a=none:=I.hok.fresh le;have I2:Inv X pins σ (upd H a (.ext (XN a C none))) { s with heap:=h' }:=by
  refine I1.track ha (Nat.le_trans I.sz le) (fun p hp z=>?_) (Nat.ne_of_gt (Nat.lt_of_lt_of_le I.lt le)) (fun x c e z=>?_) ⟨⟨_,_,t,g1,rfl,rfl,rfl,rfl,rfl⟩,⟨_,g1⟩,XN.stays⟩
  ·obtain ⟨e1,_⟩:=I.pin p hp
   exact absurd (Nat.lt_of_lt_of_le (Heap.lt_size e1) le) (by rw [z];exact Nat.lt_irrefl _)
  ·obtain ⟨v,oc,e1,_⟩:=I.cell x c e
   exact absurd (Nat.lt_of_lt_of_le (Heap.lt_size e1) le) (by rw [z];exact Nat.lt_irrefl _)
 have hq:=h a ha le;have r2:Vals (V.ref a::vs) (Value.ref a::us):=.cons rfl r;have hln:(Value.ref a::us++[]).length=ps.length:=by
  have z:=r2.length;rw [F.len _ _ _ _ hq] at z;rw [List.append_nil];exact z.symm
 have hbb:=hb { s with heap:=h' } (Value.ref a::us) I2.kIn hln
 rw [List.append_nil] at hbb;refine wpAny_call (codeAny_mono (F.run _ X.stack _ _ ⟨Value.ref a::us,[]⟩ (Value.ref a::us) _ _ E0 (hr.make C us []) (I2.env0.make C us []) hbb r2 hq) fun r' s' hq'=>?_);cases r' with
 | error e=>exact False.elim hq'
 | ok fl =>
  cases fl with
  | ret u =>
   obtain ⟨v,H',I3,rv,ev,q3⟩:=I2.after hq';subst ev;exact ⟨rv,a,H',rfl,le,I3,q3⟩
  | next=>exact False.elim hq'
  | brk=>exact False.elim hq'
  | cont=>exact False.elim hq'
def Flies (X:Cx) (E:XK):Prop:=∀ (pins:List (Addr × Obj)) (σ:St) (H:Hp) (s:Shared) (a C:Addr) (dx:Option Addr),Inv X pins σ H s->FlyN X.s₀.heap.objs.size H a C dx s.heap->E (.ref C) dx H->X.xe (.ref a) s
theorem v30 (M:XMk X.K C L fI) (F:FnOk X.prog X.w X.K X.mg X.base CX0 k fI fd ps (u82 C f)) (hr:Room (k+1) X.A) (hb:Binds X.K fd ps []) (hg:Gl X x) (hm:X.mg x=some (.ref C)) (hc:X.calm=true) (hx:Flies X E) (ha:PA X [e] t)
  (hdb:(x == ("__debug__" : Str))=false:=by decide) (he:starEach [e] X.env=(false,eval e X.env)::starEach [] X.env:=by rfl) (hpl:(backTo cpos (starEach [] X.env)).any (·.1)=false:=by rfl) :
  PS X (.Raise (some (.Call (.Name x p) [e] [] cpos)) none pos) (vc7 C f E t):=by
 intro pins s σ H D I h;rw [arm_exec_Raise];refine wpAny_bind (wpAny_standAt (v26 (K:=X.K) (L:=L) (I.ok.hd hc) (wpAny_bind ?_)));refine wpAny_Call_Name_kw (u84 I hg hm ?_ hdb);refine W.callWith_K (h₀:=X.base) I.ok.mod.kin M.kp (thn (ha cpos pins s σ H _ I h) ?_) he hpl;rintro us s1 ⟨vs,H1,I1,r,v,rfl,q⟩;refine ⟨I1.kIn,?_⟩;have hl:us.length<=sizeLine:=by rw [<- r.length,sizeLine_eq];simp
 refine thn (ut9 (Q:=fun a H2=>∃ dx o,H1 a=none /\ H1 dx=none /\ dx ≠ a /\ H2=upd (upd H1 a (.ext (XN a C (some dx)))) dx (.frz o (.xd [(f,v)]))) M F hr hb I1 r hl fun a h0 le=>?_) ?_
 ·refine ⟨a,v,rfl,u18,fun dx o h1 h2=>⟨rfl,dx,o,h0,?_,h2,?_⟩⟩
  ·rw [u11 h2] at h1;exact h1
  ·rw [vc4]
 ·rintro u s2 ⟨a,H2,rfl,le,I2,dx,o,z1,z2,z3,rfl⟩
  refine wpAny_bind (wpAny_standAt (wpAny_pure ?_));have ta:(upd (upd H1 a (.ext (XN a C (some dx)))) dx (.frz o (.xd [(f,v)]))) a=some (.ext (XN a C (some dx))):=by rw [u11 (Ne.symm z3),u18]
  obtain ⟨ob,ws,t0,g1,g2,g3,g4,g5,g6⟩:=(I2.hok a _ ta).1;refine ⟨a,C,ob,ws,rfl,I2.kIn,M.xc,g1,g2,g4,g6,?_⟩;have I3:=I2.untrack ta;rw [vk4 (Ne.symm z3) z1] at I3;exact hx pins σ _ s2 a C (some dx) I3 ⟨ob,ws,⟨Nat.le_trans I1.sz le,by rw [u11 (Ne.symm z3)];exact z1,g1,g2,g3,g4⟩,g6⟩ (q dx o z2)
end
end L2
namespace L3
open PySem PySem.Spec PyProof.Rows L2
abbrev XD:=Addr->List (Str × D)->Gp->Prop
abbrev Spx3:=List D->Gp->DK->XD->Prop
def FutX (K:W.Frag) (H:Hp) (r:XD) (E:XK):Prop:=∀ C fs G' dx ys H',Con K G' H'->Le H H'->XDict H' dx ys->RelPs K H' fs ys->r C fs G'->E (.ref C) dx H'
def lowX (K:W.Frag) (r:XD):XK:=fun cls dx H=>∃ C fs ys G,cls=.ref C /\ Con K G H /\ XDict H dx ys /\ RelPs K H fs ys /\ r C fs G
def ue0 (K:W.Frag) (S:Spx3):Sp:=fun vs H Q E=>∃ ds G R r,RelDs K H ds vs /\ Con K G H /\ S ds G R r /\ FutE K H R Q /\ FutX K H r E
def uo9 (S:Spx3) (r:XD) (t:TA3):TE3:=fun σ G q=>t σ G fun ds G1=>∃ R,S ds G1 R r /\ ∀ d G',R d G'->q d G'
def vb2 (C:Addr) (f:Str) (r:XD) (ta:TA3):TS3:=fun _ σ G=>ta σ G fun ds G1=>match ds with | [d]=>r C [(f,d)] G1 | _=>False
def vk7 (C:Addr) (r:XD):TS3:=fun _ _ G=>r C [] G
theorem vx0 {fs ex:List Addr} {H H':Hp} {h h':Heap} (u:Un fs ex H H' h h'):Le H H':=⟨u.tups,u.frzs⟩
theorem uo2 {K:W.Frag} {H:Hp} {r:XD}:FutX K H r (lowX K r):=fun C fs G dx ys H' c l z p q=>⟨C,fs,ys,G,rfl,c,z,p,q⟩
abbrev xcx (X:Cx) (r:XD):Cx:=X.wish (FlyIn X (lowX X.K r))
theorem PSs.wish {X:Cx} {E:Value->Shared->Prop} {st:List Stmt} {t:TS} (h:PSs (X.wish E) st t) (k:∀ e s,E e s->X.xe e s):PSs X st t:=fun pins s σ H D I hw =>
 wpAny_mono (h pins s σ H D (I.wish _) hw) (fun _ _ q=>q.unwish) k
section
variable {X:Cx} {r:XD}
theorem uf1 (D:Def X):PassesOwn (model (xcx X r).prog (xcx X r).w) (xcx X r).A (xcx X r).env (xcx X r).xe:=FlyIn.own D
theorem us0:Flies (xcx X r) (lowX X.K r):=fun pins σ H s a C dx I F q=>⟨σ,H,a,C,dx,rfl,(I.unwish).pins_of (fun p h=>absurd h (by simp)),.inl F,q⟩
theorem v16 (D:Def X):Passes (CX1 X.prog X.w) (xcx X r) (lowX X.K r):=FlyIn.pass D fun _ _ z=>z
end
abbrev OkX (P:Program) (w:World) {K:W.Frag} (mg:Str->Option Value) (base:Heap) (n:Nat) {x qual:Str} {st:Stmt} {ps:List Str} (d:FnAt K x qual st ps) (S:Spx3):Prop:=FnOk P w K mg base (CX1 P w) n d.a d.fd ps (ue0 K S)
section
variable {P:Program} {w:World} {K:W.Frag} {mg:Str->Option Value} {base:Heap}
theorem u47 {CX:CXT} {N:List Str} {qual:Str} {sc:Scope} {f:Addr} {cd:Value} {A:Around} {outer:List Env} {s:Shared} {H:Hp} {E:XK}:Def (cxOf CX P w K mg base N qual sc f cd A outer s H E):=⟨rfl,rfl,rfl,rfl⟩
theorem uh0 {x qual:Str} {st:Stmt} {ps N:List Str} {k:Nat} (d:FnAt K x qual st ps) {S:Spx3} (sc:FnScope N ps (u05 st)) (hl:∀ ds G R r,S ds G R r->ds.length=ps.length) {t:XD->TS3}
  (ht:∀ (cdv:Value) (A:Around) (outer:List Env) (s:Shared) (H:Hp) (E:XK) (r:XD),Room k (A.deeper (envOfC qual (u05 st) s.heap.objs.size d.a cdv))->Ss3 (xcx (cxOf (CX1 P w) P w K mg base N qual (u05 st) d.a cdv A outer s H E) r) (u17 st) (t r))
  (hb:∀ ds G R r,S ds G R r->t r { nx:=fun _ G'=>R .non G',rt:=R } (u69 N ds) G):OkX P w mg base (k+1) d S:=by
 obtain ⟨oc,od,dV,kV,doc,pm,an,cdv,ct,osl,e,lk,hcd⟩:=d.ex;have lk':K.lookup d.a=some ⟨oc,od,.func (W.fnOf x qual (u24 st) (u17 st) (u05 st) dV kV doc pm an cdv ct),osl⟩:=e ▸ lk;have F:FnOk P w K mg base (CX1 P w) (k+1) d.a (W.fnOf x qual (u24 st) (u17 st) (u05 st) dV kV doc pm an cdv ct) ps (ue0 K S):=by
  refine vk2 lk' hcd sc (fun vs H Q E h=>?_) fun A outer s H vs Q E hr h=>?_
  ·obtain ⟨ds,G,R,r,rr,_,hS,_⟩:=h
   rw [<- rr.length];exact hl ds G R r hS
  ·obtain ⟨ds,G,R,r,rr,c,hS,f,fx⟩:=h
   have fin:=PSs.wish (show PSs _ _ _ from ht cdv A outer s H E r hr) fun e s' hf=>by
    refine wpAny_mono (FlyIn.leaves u47 hf) (fun _ s'' hq=>?_) fun _ _ z=>z
    obtain ⟨a,C,dx,H',e1,e2,e3,un,e4,e5,C',fs,ys,G',z1,z2,z3,z4,z5⟩:=hq;cases z1;exact ⟨a,_,dx,H',e1,e2,e3,un,e4,e5,fx _ fs G' dx ys H' z2 (vx0 un) z3 z4 z5⟩
   refine ⟨_,fin,u69 N ds,G,_,u74 rr,c,hb ds G R r hS,fun σd' G' σ' H' _ c' l' q=>?_,f,fun _ _ _ _ _ _ _ q=>q.elim,fun _ _ _ _ _ _ _ q=>q.elim⟩;exact f .non G' .non H' RelD.nonI c' l' q
 have F2:=F;rw [<- e] at F2;exact F2
end
section
variable {X:Cx} {r:XD} {e:Expr} {es:List Expr} {p pos cpos:Pos} {ta:TE3} {ts:TA3} {k:Nat} {S:Spx3} {x qual f:Str} {st:Stmt} {ps ps':List Str} {C L fI:Addr} {fd:FuncData}
theorem uw4 {K:W.Frag} {σ:L2.St} {H:Hp} {Q:VK} {t:TA3} (h:lowE K (uo9 S r t) σ H Q):v20 (ue0 K S) [] (lowX K r) (lowA K t) σ H Q:=by
 obtain ⟨σd,G,q,rs,c,t,f⟩:=h;refine ⟨σd,G,_,rs,c,t,fun ds G1 vs H1 r1 c1 l1 ⟨R,s1,t1⟩=>⟨ds,G1,R,r,?_,c1,s1,fun d G2 v H2 r2 c2 l2 t2=>f d G2 v H2 r2 c2 (l1.trans l2) (t1 d G2 t2),uo2⟩⟩;rw [List.append_nil];exact r1
theorem ecX (D:Def X) (d:FnAt X.K x qual st ps) (hm:X.mg x=some (.ref d.a)) (G:FnOk X.prog X.w X.K X.mg X.base (CX1 X.prog X.w) k d.a d.fd ps (ue0 X.K S)) (hr:Room k X.A) (ha:A3 (xcx X r) (e::es) ts) (hg:Gl X x:=by rfl) (hdb:(x == ("__debug__" : Str))=false:=by decide)
  (he:starEach (e::es) X.env=(false,eval e X.env)::starEach es X.env:=by rfl) (hpl:(backTo pos (starEach es X.env)).any (·.1)=false:=by rfl):E3 (xcx X r) (.Call (.Name x p) (e::es) [] pos) (uo9 S r ts) :=
 u32 (uu7 (X:=xcx X r) G hr hg hm d.kp d.b .nil (v16 D) ha hdb he hpl) fun _ _ _=>uw4
theorem uk3 (M:XMk X.K C L fI) (F:FnOk X.prog X.w X.K X.mg X.base CX0 k fI fd ps (u82 C f)) (hr:Room (k+1) X.A) (hb:Binds X.K fd ps []) (hm:X.mg x=some (.ref C)) (ha:A3 (xcx X r) [e] ts) (hc:X.calm=true:=by rfl) (hg:Gl X x:=by rfl)
  (hdb:(x == ("__debug__" : Str))=false:=by decide) (he:starEach [e] X.env=(false,eval e X.env)::starEach [] X.env:=by rfl) (hpl:(backTo cpos (starEach [] X.env)).any (·.1)=false:=by rfl) :
  S3 (xcx X r) (.Raise (some (.Call (.Name x p) [e] [] cpos)) none pos) (vb2 C f r ts) :=
 ud3 (v30 (X:=xcx X r) M F hr hb hg hm hc us0 ha hdb he hpl) fun D σ H h=>by
  obtain ⟨σd,G,d,rs,c,t,fd⟩:=h;refine ⟨σd,G,_,rs,c,t,fun ds G1 vs H1 r1 c1 l1 t1=>?_⟩;cases ds with
  | nil=>exact t1.elim
  | cons d rest =>
   cases rest with
   | cons _ _=>exact t1.elim
   | nil =>
    obtain ⟨v,r',rfl,rv,rn⟩:=r1.inv_cons;cases rn.inv_nil;exact ⟨v,rfl,fun dx o hn=>⟨C,[(f,d)],[(f,v)],G1,rfl,c1.side hn,⟨o,u18⟩,.cons (RelD.le (Le.fresh hn) rv) .nil,t1⟩⟩
end
structure XBase (K:W.Frag) (L:Addr):Prop where
 sp:W.specialIn K (.ref L) "__getattribute__" = some (some (.builtin "type.__getattribute__"))
 rd:W.readsIn K L (.type "type")=true
 fc:W.findCls K (.ref L) (.type "type") "__init__" = some (.val (.builtin "ValueError.__init__"))
structure XAttr (K:W.Frag) (C:Addr) (f:Str):Prop where
 sa:W.findIn K (.ref C) "__setattr__" = some (some (.builtin "object.__setattr__"))
 na:W.findIn K (.ref C) f=some none
 ga:W.findIn K (.ref C) "__getattribute__" = some (some (.builtin "BaseException.__getattribute__"))
 gt:W.findIn K (.ref C) "__getattr__" = some none
section
variable {P:Program} {w:World} {K:W.Frag} {mg:Str->Option Value} {base:Heap} {C L:Addr} {f v qual:Str} {st:Stmt} {k:Nat}
theorem ue9 (d:FnAt K "__init__" qual st ["self",v]) (sc:FnScope ["self",v] ["self",v] (u05 st)) (hc:xcIn K C (.ref L::VM)=true) (A:XAttr K C f)
  (ht:∀ (cdv:Value) (A:Around) (outer:List Env) (s:Shared) (H:Hp) (E:XK),PSs (cxOf CX0 P w K mg base ["self",v] qual (u05 st) d.a cdv A outer s H E).nox (u17 st) (tSeq (vc8 (v88 K L (v19 (tVar 0) (v19 (tVar 1) tNil)))) (vp8 K L (tVar 0) (tVar 1) f))) :
  FnOk P w K mg base CX0 (k+1) d.a d.fd ["self",v] (u82 C f):=by
 obtain ⟨oc,od,dV,kV,doc,pm,an,cdv,ct,osl,e,lk,hcd⟩:=d.ex;have lk':K.lookup d.a=some ⟨oc,od,.func (W.fnOf "__init__" qual (u24 st) (u17 st) (u05 st) dV kV doc pm an cdv ct),osl⟩:=e ▸ lk;have F:FnOk P w K mg base CX0 (k+1) d.a (W.fnOf "__init__" qual (u24 st) (u17 st) (u05 st) dV kV doc pm an cdv ct) ["self",v] (u82 C f):=by
  refine vk2 lk' hcd sc (fun vs H Q E h=>?_) fun A' outer s H vs Q E hr h=>⟨_,(ht cdv A' outer s H E).nox,?_⟩
  ·obtain ⟨a,x,rfl,_⟩:=h;rfl
  ·obtain ⟨a,x,rfl,ha,q⟩:=h
   refine ⟨.ref a,rfl,x,rfl,a,C,[x],rfl,ha,hc,by simp,x,rfl,.ref a,rfl,a,C,rfl,ha,hc,A.sa,A.na,fun dx o h1 h2=>q dx o h1 h2⟩
 have F2:=F;rw [<- e] at F2;exact F2
end
def w02 (K:W.Frag) (L:Addr) (ta:TE3) (f:Str):TE3:=fun σ G q=>ta σ G fun x G1=>match x with
 | .ref a=>(match G1 a with
  | some (.exc C fs)=>xcIn K C (.ref L::VM)=true /\ XAttr K C f /\ (match fs.lookup f with | some d=>q d G1 | none=>False)
  | _=>False)
 | _=>False
section
variable {X:Cx} {e:Expr} {f:Str} {pos:Pos} {ta:TE3}
theorem vh4 {h:Heap} {dx:Addr} {o:Obj} {m:Str->Option Value} {f:Str} {u:Value} (n:h.Ns dx m) (e:h.get? dx=some o) (hm:m f=some u):W.lookIn f o=some (some u):=by
 obtain ⟨o',es,ep,e1,e2,e3,e4⟩:=n;rw [e] at e1;cases e1;unfold W.lookIn;rw [e2];have q:=e4 f;rw [hm] at q;unfold nsFind findBy at q;rw [<- Array.find?_toList] at q;cases z:es.toList.find? (fun x=>x.key.isStr f) with
 | none=>rw [z] at q;cases q
 | some en=>rw [z] at q;simp only [Option.map_some,Option.some.injEq] at q;rw [<- q];dsimp only;rw [z]
theorem uy8 {K:W.Frag} (L:Addr) (he:E3 X e ta) (hb:attributeBase e f X.env (eval e X.env)=eval e X.env:=by rfl) (hK:X.K=K:=by rfl):E3 X (.Attribute e f pos) (w02 K L ta f):=by
 subst hK;intro pins s σ H Q I h;obtain ⟨σd,G,q,rs,c,t,fu⟩:=h;refine vl7 hb (thn (he pins s σ H (fun v H1=>∃ a C fs d G1,v=.ref a /\ Con X.K G1 H1 /\ Le H H1 /\ G1 a=some (.exc C fs) /\ xcIn X.K C (.ref L::VM)=true /\ XAttr X.K C f /\ fs.lookup f=some d /\ q d G1) I ⟨σd,G,_,rs,c,t,fun x G1 v H1 r1 c1 l1 t1=>?_⟩) ?_)
 ·cases x with
  | ref a =>
   cases r1.ref_inv;dsimp only at t1;cases z:G1 a with
   | none=>rw [z] at t1;exact t1.elim
   | some o =>
    rw [z] at t1;cases o with
    | exc C fs =>
     obtain ⟨t1,t2,t3⟩:=t1;cases y:fs.lookup f with
     | none=>rw [y] at t3;exact t3.elim
     | some d=>rw [y] at t3;exact ⟨a,C,fs,d,G1,rfl,c1,l1,z,t1,t2,y,t3⟩
    | _=>exact t1.elim
  | _=>exact t1.elim
 ·rintro u s1 ⟨v,H1,I1,rv,a,C,fs,d,G1,rfl,c1,l1,z,hc,A,y,qq⟩
  cases rv;obtain ⟨dx,ys,h1,h2,h3⟩:=c1 a _ z;obtain ⟨v,h4,h5⟩:=h3.lookup y;obtain ⟨⟨o,vs,g1,g2,g3,g4⟩,_⟩:=I1.hok a _ h1;cases dx with
  | none=>cases (show ys=[] from h2);cases h4
  | some dx =>
   obtain ⟨od,h2⟩:=h2;obtain ⟨k1,mA,k2,k3⟩:=I1.hok dx _ h2;have k4:=k3 f;rw [h4] at k4;obtain ⟨u,k5,k6⟩:=RelO.some_of k4;obtain ⟨hh,gg,dd,tt,oo⟩:=s1;exact vy6 I1.kIn hc A.ga A.gt A.na g1 g2 g4 g3 k1 (vh4 k2.ns k1 k5) (uy3 k6) ⟨v,H1,I1.tok _,k6,fu d G1 v H1 h5 c1 l1 qq⟩
end
def mkd (X:Cx) (a:Addr):Cx:={ X with A:=X.A.mark (some (.ref a)),calm:=false }
section
variable {X:Cx} {pins:List (Addr × Obj)} {σ:L2.St} {H:Hp} {s:Shared} {a:Addr}
theorem vt4 (k:X.Ok):(mkd X a).Ok:=⟨k.mod,k.kind,k.glob,k.blt,k.above,k.inj,k.has,k.cab,(fun z=>nomatch z),k.frames,k.stk,k.exf,k.bs,k.bsz,k.noex,k.exfs,k.funs,k.frf⟩
theorem Inv.mkd (I:Inv X pins σ H s):Inv (mkd X a) pins σ H s:=⟨vt4 I.ok,I.os,I.bare,I.base,I.loc,I.cell,I.free,I.freeC,I.pin,I.hok,I.len⟩
theorem Inv.unmkd (I:Inv (L3.mkd X a) pins σ H s) (k:X.Ok):Inv X pins σ H s:=⟨k,I.os,I.bare,I.base,I.loc,I.cell,I.free,I.freeC,I.pin,I.hok,I.len⟩
theorem SP.unmkd {D:Ends} {f:Flow} (h:SP (L3.mkd X a) pins D f s) (k:X.Ok):SP X pins D f s:=by
 cases f with
 | next=>obtain ⟨σ',H',I,q⟩:=h;exact ⟨σ',H',Inv.unmkd I k,q⟩
 | brk=>obtain ⟨σ',H',I,q⟩:=h;exact ⟨σ',H',Inv.unmkd I k,q⟩
 | cont=>obtain ⟨σ',H',I,q⟩:=h;exact ⟨σ',H',Inv.unmkd I k,q⟩
 | ret u=>obtain ⟨v,σ',H',I,r,q⟩:=h;exact ⟨v,σ',H',Inv.unmkd I k,r,q⟩
theorem Inv.names {h':Heap} {m':Str->Option Value} {σ':L2.St} {t':Nat} (I:Inv X pins σ H s) (hn:h'.Ns X.env.locals m') (sb:Heap.SameBut X.env.locals s.heap h') (hl:σ'.length=σ.length)
  (k:∀ m,s.heap.Ns X.env.locals m->(∀ (i:Nat) (x:Str) (v:V),X.N[i]?=some x->σ[i]?=some (some v)->Vis X.env.scope x->∃ u,RelV v u /\ Look X.env s.heap m x u) ->
   ∀ (i:Nat) (x:Str) (v:V),X.N[i]?=some x->σ'[i]?=some (some v)->Vis X.env.scope x->∃ u,RelV v u /\ Look X.env s.heap m' x u):Inv X pins σ' H { s with heap:=h',toks:=t' }:=by
 obtain ⟨m,hm,lk⟩:=id I.loc;obtain ⟨oL,_,_,hoL,_⟩:=id hm;have nb:∀ b o,X.s₀.heap.get? b=some o->b ≠ X.env.locals:=fun b o e=>Nat.ne_of_lt (Nat.lt_of_lt_of_le (Heap.lt_size e) I.ok.above)
 refine ⟨I.ok,I.os,I.bare,⟨fun b o e n hb hx=>?_,fun b o e n hb hx=>?_,I.base.free,fun b o e hx=>?_,I.base.tups,I.base.frzs,I.base.tbls⟩,⟨m',hn,fun j y v e1 e2 e3=>?_⟩,fun y c e=>?_,I.free,I.freeC,fun p hp=>?_,fun b ob e=>?_,hl.trans I.len⟩
 ·exact (sb.2 b (nb b o e)).trans (I.base.keep b o e n hb hx)
 ·obtain ⟨sl,e1⟩:=I.base.slot b o e n hb hx
  exact ⟨sl,(sb.2 b (nb b o e)).trans e1⟩
 ·obtain ⟨o',e1⟩:=I.base.there b o e hx
  exact ⟨o',(sb.2 b (nb b o e)).trans e1⟩
 ·obtain ⟨u,r,l⟩:=k m hm lk j y v e1 e2 e3
  refine ⟨u,r,?_⟩
  rcases l with l | ⟨z,c,e,q⟩
  ·exact .inl l
  ·exact .inr ⟨z,c,e,q.sameBut sb (I.cne y c e)⟩
 ·obtain ⟨v,q⟩:=I.cell y c e
  exact ⟨v,q.sameBut sb (I.cne y c e)⟩
 ·obtain ⟨e,n,ne,nf,d⟩:=I.pin p hp
  exact ⟨(sb.2 p.1 ne).trans e,n,ne,nf,d⟩
 ·refine (I.hok b ob e).stay (fun c w' hc q=>(sb.2 c ?_).trans q) (fun _ q=>q) fun _ _ q=>q
  rintro rfl
  rcases hc with rfl | hc
  ·rw [I.free] at e;cases e
  ·rw [I.free] at hc;cases hc
theorem u90 {M:Model} {A:Around} {E:Value->Shared->Prop} {i:Nat} {n:Str} {pos:Pos} {Q:Unit->Shared->Prop} (I:Inv X pins σ H s) (hN:X.N.Nodup) (hi:X.N[i]?=some n) (hl:X.env.scope.names.lookup n=some .local)
  (k:∀ s',Inv X pins (σ.set i none) H s'->Q () s'):wpAny M A (do bindName X.env n .none;unbindBehindTheSuite X.env n pos) Q E s:=by
 have hp:(X.env.scope.kind == .class || (X.env.scope.kind == .module && X.env.locals != X.env.globals))=false:=by rw [I.ok.kind];rfl
 have hk:X.env.kindOf n=some .local:=hl;refine wpAny_bind (wpAny_bindName (ua7 (v:=.non) (u:=.none) I hN hi (.inl hl) rfl (fun s1 I1=>?_) (.inr hl)));have hiσ:i < σ.length:=by rw [I.len];exact (List.getElem?_eq_some_iff.mp hi).1
 obtain ⟨m,hm,lk⟩:=id I1.loc;unfold unbindBehindTheSuite;refine wpAny_onRaise ?_;unfold unbindName;refine wpAny_bind (wpAny_point (wpAny_bind ?_));unfold deleteName;simp only [hk,hp];rw [if_neg (by decide)];have there:(m n).isSome=true:=by
  obtain ⟨u,ru,l⟩:=lk i n .non hi (by rw [List.getElem?_set_self hiσ]) (.inl hl)
  rcases l with ⟨_,e⟩ | ⟨z,_⟩
  ·rw [e];rfl
  ·rw [hk] at z;rcases z with z | z <;> cases z
 refine wpAny_bind (wpAny_nsDel_keeps hm fun h2 v0 hn2 sb=>?_);rw [there];simp only [Bool.not_true,Bool.false_eq_true,if_false];refine wpAny_pure (wpAny_point (k { s1 with heap:=h2 } ?_));refine Inv.names (t':=s1.toks) I1 hn2 sb (by simp) fun m0 hm0 lk0 j y v e1 e2 e3=>?_
 by_cases hj:j=i
 ·subst hj
  rw [List.getElem?_set_self hiσ] at e2;cases e2
 ·rw [List.getElem?_set_ne (Ne.symm hj)] at e2
  obtain ⟨u,ru,l⟩:=lk j y v e1 (by rw [List.getElem?_set_ne (Ne.symm hj)];exact e2) e3;refine ⟨u,ru,?_⟩
  rcases l with ⟨z,e⟩ | l
  ·refine .inl ⟨z,?_⟩
   have ny:y ≠ n:=fun e=>hj (ug6 hN e1 (e ▸ hi))
   show (if y=n then v0 else m y)=some u
   rw [if_neg ny];exact e
  ·exact .inr l
end
def XP (X:Cx) (pins:List (Addr × Obj)) (σ:L2.St) (H:Hp) (r:XD) (e:Value) (s':Shared):Prop:=∃ H1 s1,Inv X pins σ H1 s1 /\ Le H H1 /\ CX1 X.prog X.w X.stack H1 s1 (lowX X.K r) e s'
def E3X (X:Cx) (e:Expr) (t:XD->TE3):Prop:=∀ (pins:List (Addr × Obj)) (s:Shared) (σ:L2.St) (H:Hp) (Q:VK) (r:XD),Inv X pins σ H s->lowE X.K (t r) σ H Q->wpAny (model X.prog X.w) X.A (eval e X.env) (EP X pins σ Q) (XP X pins σ H r) s
def PB (X:Cx) (st:List Stmt) (t:XD->TS3):Prop:=∀ (pins:List (Addr × Obj)) (s:Shared) (σ:L2.St) (H:Hp) (D:Ends) (r:XD),Inv X pins σ H s->lowS X.K (t r) D σ H->wpAny (model X.prog X.w) X.A (execs st X.env) (SP X pins D) (XP X pins σ H r) s
section
variable {X:Cx} {e c:Expr} {es:List Expr} {p pos:Pos} {ts:TA3} {k:Nat} {S:Spx3} {x qual:Str} {st:Stmt} {ps:List Str} {t:XD->TE3} {tc:TT3} {a b:List Stmt} {ta tb:XD->TS3}
theorem XP.le {pins:List (Addr × Obj)} {σ:L2.St} {H H1:Hp} {r:XD} {e:Value} {s':Shared} (h:XP X pins σ H1 r e s') (l:Le H H1):XP X pins σ H r e s':=by
 obtain ⟨H2,s1,I,l2,q⟩:=h;exact ⟨H2,s1,I,l.trans l2,q⟩
theorem ecT (d:FnAt X.K x qual st ps) (hm:X.mg x=some (.ref d.a)) (G:FnOk X.prog X.w X.K X.mg X.base (CX1 X.prog X.w) k d.a d.fd ps (ue0 X.K S)) (hr:Room k X.A) (ha:A3 X (e::es) ts) (hg:Gl X x:=by rfl) (hdb:(x == ("__debug__" : Str))=false:=by decide)
  (he:starEach (e::es) X.env=(false,eval e X.env)::starEach es X.env:=by rfl) (hpl:(backTo pos (starEach es X.env)).any (·.1)=false:=by rfl) (hn:∀ e s,¬ X.xe e s:=by exact fun _ _ z=>z):E3X X (.Call (.Name x p) (e::es) [] pos) (fun r=>uo9 S r ts):=by
 intro pins s σ H Q r I h;obtain ⟨σd,G0,q,rs,c,t,f⟩:=h;refine wpAny_Call_Name_kw (u84 I hg hm ?_ hdb);refine W.callWith_K (h₀:=X.base) I.ok.mod.kin d.kp (wpAny_mono (ha pos pins s σ H (fun vs H1=>Le H H1 /\ ∃ ds G1 R,RelDs X.K H1 ds vs /\ Con X.K G1 H1 /\ S ds G1 R r /\ FutE X.K H1 R Q) I ⟨σd,G0,_,rs,c,t,fun ds G1 vs H1 r1 c1 l1 ⟨R,s1,t1⟩=>⟨l1,ds,G1,R,r1,c1,s1,fun d G2 v H2 r2 c2 l2 t2=>f d G2 v H2 r2 c2 (l1.trans l2) (t1 d G2 t2)⟩⟩) ?_ fun e s' z=>(hn e s' z).elim) he hpl;rintro us s1 ⟨vs,H1,I1,rv,l1,ds,G1,R,r1,c1,hS,fu⟩;refine ⟨I1.kIn,?_⟩;have hsp:ue0 X.K S vs H1 Q (lowX X.K r):=⟨ds,G1,R,r,r1,c1,hS,fu,uo2⟩;have hln:(us++[]).length=ps.length:=by rw [List.append_nil,<- rv.length];exact G.len _ _ _ _ hsp
 have hb:=d.b s1 us I1.kIn hln;rw [List.append_nil] at hb;refine wpAny_call (codeAny_mono (G.run X.A X.stack s1 H1 ⟨us,[]⟩ us vs Q (lowX X.K r) hr I1.env0 hb rv hsp) fun r' s' hq=>?_);cases r' with
 | error e=>exact ⟨H1,s1,I1,l1,hq⟩
 | ok fl =>
  cases fl with
  | ret u=>exact I1.after hq
  | next=>exact False.elim hq
  | brk=>exact False.elim hq
  | cont=>exact False.elim hq
theorem vh1 (h:E3X X e t) (hs:swapsWith e none pos.line X.env=pure false:=by rfl):PB X [.Expr e pos] (fun r=>ur1 (t r)):=by
 intro pins s σ H D r I hw;refine wpAny_execs_cons (wpAny_Expr_any (thn (h pins s σ H (fun _ H1=>D.nx σ H1) r I (un7 hw)) ?_) I.quiet hs);rintro v s1 ⟨y,H1,I1,r1,q1⟩;exact wpAny_execs_nil ⟨σ,H1,I1,q1⟩
end
def isX (C L C2:Addr):Bool:=decide (C2=C \/ C2=L)
def H3 (X:Cx) (hs:List ExceptHandler) (th:Addr->List (Str × D)->TS3):Prop :=
 ∀ (pins:List (Addr × Obj)) (s:Shared) (σ:L2.St) (H:Hp) (D:Ends) (a C:Addr) (dx:Option Addr) (ys:List (Str × V)) (fs:List (Str × L3.D)) (lim:Nat),Inv X pins σ H s->X.s₀.heap.objs.size<=lim->(∀ p ∈ X.pn++pins,p.1 < lim) ->
  Fly (fun v=>v=.none) lim H a C dx s.heap->XDict H dx ys->RelPs X.K H fs ys->lowS X.K (th C fs) D σ H->wpAny (model X.prog X.w) X.A (handleBy (.ref a) X.env hs) (SP X pins D) X.xe s
def w05 (K:W.Frag) (L C2:Addr) (i:Nat) (ts:TS3) (th:Addr->List (Str × D)->TS3):Addr->List (Str × D)->TS3:=fun C fs E σ G=>xcIn K C (.ref L::VM)=true /\
 if isX C L C2=true then ∀ a,G a=none->ts { E with nx:=fun σ' G'=>E.nx (σ'.set i none) G',bk:=fun σ' G'=>E.bk (σ'.set i none) G',ct:=fun σ' G'=>E.ct (σ'.set i none) G' } (σ.set i (some (.ref a))) (gup G a (.exc C fs)) else th C fs E σ G
def w04 (K:W.Frag) (L C2:Addr) (ts:TS3) (th:Addr->List (Str × D)->TS3):Addr->List (Str × D)->TS3:=fun C fs E σ G=>xcIn K C (.ref L::VM)=true /\
 if isX C L C2=true then ts E σ G else th C fs E σ G
def uz6:Addr->List (Str × D)->TS3:=fun _ _ _ _ _=>False
def dTry (tb:XD->TS3) (th:Addr->List (Str × D)->TS3):TS3:=fun E σ G=>tb (fun C fs G'=>th C fs E σ G') E σ G
theorem w53 {X:Cx}:H3 X [] uz6:=fun _ _ _ _ _ _ _ _ _ _ _ _ _ _ _ _ _ h=>by
 obtain ⟨_,_,_,_,_,z,_⟩:=h;exact z.elim
section
variable {M:Model} {A:Around} {E:Value->Shared->Prop} {K:W.Frag} {C L C2 a:Addr} {bm:List Value} {o:Obj}
theorem v43 {s:Shared} {Q:Bool->Shared->Prop} (X:K.In s.heap) (c2:xcIn K C2 bm=true) (hb:bm.contains (.type "BaseException")=true) (hc:xcIn K C (.ref L::VM)=true) (hx:s.heap.get? a=some o) (hcl:o.cls=.ref C) (q:Q (isX C L C2) s) :
  wpAny M A (excMatches (.ref a) (.ref C2)) Q E s:=by
 obtain ⟨⟨nm,q',N,bs,sn,sub,ab,col,dd,k0,k1,k2,k3,k5,hC2⟩,_⟩:=uj9 X c2;have hcB:(Value.ref C2::bm).contains (.type "BaseException")=true:=by rw [List.contains_cons,hb,Bool.or_true]
 have e1:(Value.ref C::.ref L::VM).contains (.ref C2)=isX C L C2:=by
  unfold isX VM;rw [Bool.eq_iff_iff,List.contains_iff_mem];simp
 obtain ⟨h,g,d,t,os⟩:=s;have T:=ub3 (M:=M) hx hcl;have S1:=ut3 (M:=M) X hc (.ref C2);rw [e1] at S1;have S2:isSubtype (.type "type") (.type "tuple")=pure false:=PySem.F.notTuple_ValueError;unfold excMatches
 repeat (any_goals (first | assumption | with_reducible refine wpAny_loadPart_at hC2 ?_ | (with_reducible refine wpAny_isSubtype_exc hC2 ?_;rw [hcB]) | with_reducible refine W.Looks.at (by assumption) ?_ | wp_step))
 generalize isX C L C2=b at q ⊢;cases b <;> (wp_walk;exact q)
end
theorem RelSt.unset {K:W.Frag} {H:Hp} {σd:DSt} {σ:L2.St} (h:RelSt K H σd σ) (i:Nat):RelSt K H (σd.set i none) (σ.set i none):=by
 refine ⟨by rw [List.length_set,List.length_set];exact h.1,fun j d q=>?_⟩
 by_cases hj:i=j
 ·subst hj
  rw [List.getElem?_set] at q;simp at q
 ·rw [List.getElem?_set_ne hj] at q ⊢
  exact h.2 j d q
section
variable {X:Cx} {np pos:Pos} {c n:Str} {C2:Addr} {bm:List Value} {b₀:Stmt} {suite:List Stmt} {rest:List ExceptHandler} {ts:TS3} {th:Addr->List (Str × D)->TS3}
theorem va8 {f:Value->Prop} {lim:Nat} {H:Hp} {a C:Addr} {dx:Option Addr} {h:Heap} (F:Fly f lim H a C dx h):∃ o vs,h.get? a=some o /\ o.cls=.ref C /\ o.dict=dx /\ o.data=.fields vs /\ lim<=a /\ H a=none:=by
 obtain ⟨oe,vs,T,oT,ts,v,o,_⟩:=F;exact ⟨oe,vs,o.ge,o.cl,o.di,o.da,o.la,o.ha⟩
theorem h_as {K:W.Frag} (L:Addr) (i:Nat) (hm:X.mg c=some (.ref C2)) (c2:xcIn K C2 bm=true) (hb:bm.contains (.type "BaseException")=true) (hN:X.N.Nodup) (hsu:∀ a,Ss3 (mkd X a) (b₀::suite) ts) (hr:H3 X rest th)
  (hi:X.N[i]?=some n:=by rfl) (hl:X.env.scope.names.lookup n=some .local:=by rfl) (hg:Gl X c:=by rfl) (hdb:(c == ("__debug__" : Str))=false:=by decide) (hn:∀ e s,¬ X.xe e s:=by exact fun _ _ z=>z) (Df:Def X:=by exact ⟨rfl,rfl,rfl,rfl⟩) (hK:X.K=K:=by rfl):H3 X (.ExceptHandler (some (.Name c np)) (some n) (b₀::suite) pos::rest) (w05 K L C2 i ts th):=by
 subst hK;intro pins s σ H D a C dx ys fs lim I hlim hp F hx hf h;obtain ⟨σd,G,d,rs,cc,⟨hc,t⟩,f⟩:=h;obtain ⟨o,vs,g1,g2,g3,g4,la,ha⟩:=va8 F;refine wpAny_handleBy_cons (codeAny_handlers_test ?_) (by intro q;cases q);refine wpAny_mono (u84 (X:=mkd X a) (E:=fun _ _=>False) (Inv.mkd I) hg hm ?_ hdb) (fun _ _ z=>z) fun _ _ z=>z.elim
 refine wpAny_mono (v43 (E:=fun _ _=>False) I.kIn c2 hb hc g1 g2 ?_) (fun _ _ z=>z) fun _ _ z=>z.elim
 by_cases hX:isX C L C2=true
 ·rw [if_pos hX] at t ⊢
  refine codeAny_handlers_suite_as ?_;refine u76 I Df.st Df.fr hlim hp F fun h2 I2 F2=>?_
  obtain ⟨o2,vs2,e1,e2,e3,e4,_,_⟩:=va8 F2;obtain ⟨n1,n2,n3⟩:=I2.rec_ne e1 e4;have hpa:∀ p ∈ X.pn++pins,p.1 ≠ a:=fun p h e=>absurd (hp p h) (by rw [e];exact Nat.not_lt.mpr la)
  have I3:=I2.track (b:=a) (o:=.ext (XH a C dx)) ha (Nat.le_trans hlim la) hpa n1 n2 ⟨⟨o2,vs2,e1,e2,e3,e4⟩,⟨_,e1⟩,XH.stays⟩;have l3:Le H (upd H a (.ext (XH a C dx))):=Le.fresh ha;have c3:Con X.K (gup G a (.exc C fs)) (upd H a (.ext (XH a C dx))):=cc.put l3 ⟨dx,ys,u18,hx.le l3,hf.le l3⟩;refine wpAny_mono (ua7 (X:=mkd X a) (v:=.ref a) (E:=fun _ _=>False) (Inv.mkd (a:=a) I3) hN hi (.inl hl) rfl (fun s4 I4=>?_) (.inr hl)) (fun _ _ z=>z) fun _ _ z=>z.elim
  have low:lowS X.K ts { D with nx:=fun σ' H'=>D.nx (σ'.set i none) H',bk:=fun σ' H'=>D.bk (σ'.set i none) H',ct:=fun σ' H'=>D.ct (σ'.set i none) H' } (σ.set i (some (.ref a))) (upd H a (.ext (XH a C dx))) :=
   ⟨σd.set i (some (.ref a)),_,_,(rs.le l3).set i RelD.refI,c3,t a (cc.fresh ha),(fun x1 x2 x3 x4 r1 r2 r3 q=>f.nx _ _ _ _ (r1.unset i) r2 (l3.trans r3) q),f.rt.le l3,(fun x1 x2 x3 x4 r1 r2 r3 q=>f.bk _ _ _ _ (r1.unset i) r2 (l3.trans r3) q),fun x1 x2 x3 x4 r1 r2 r3 q=>f.ct _ _ _ _ (r1.unset i) r2 (l3.trans r3) q⟩
  refine wpAny_mono (hsu a pins s4 _ _ _ I4 low) (fun fl s5 q5=>?_) fun e s' z=>(hn e s' z).elim
  have q6:=SP.unmkd q5 I.ok;cases fl with
  | next=>obtain ⟨σ6,H6,I6,q6⟩:=q6;exact u90 I6 hN hi hl fun s7 I7=>⟨_,H6,I7,q6⟩
  | brk=>obtain ⟨σ6,H6,I6,q6⟩:=q6;exact u90 I6 hN hi hl fun s7 I7=>⟨_,H6,I7,q6⟩
  | cont=>obtain ⟨σ6,H6,I6,q6⟩:=q6;exact u90 I6 hN hi hl fun s7 I7=>⟨_,H6,I7,q6⟩
  | ret u=>obtain ⟨v,σ6,H6,I6,r6,q6⟩:=q6;exact u90 I6 hN hi hl fun s7 I7=>⟨v,_,H6,I7,r6,q6⟩
 ·rw [if_neg hX] at t
  rw [if_neg hX];exact hr pins s σ H D a C dx ys fs lim I hlim hp F hx hf ⟨σd,G,d,rs,cc,t,f⟩
theorem w32 {h₀:ExceptHandler} {hs:List ExceptHandler} {body:List Stmt} {tb:XD->TS3} (pb:PB X body tb) (hh:H3 X (h₀::hs) th) (Df:Def X:=by exact ⟨rfl,rfl,rfl,rfl⟩):S3 X (.Try body (h₀::hs) [] [] pos) (dTry tb th):=by
 intro pins s σ H D I h;obtain ⟨σd,G,d,rs,cc,t,f⟩:=h;refine wpAny_Try_except (wpAny_mono (pb pins s σ H D (fun C fs G'=>th C fs d σd G') I ⟨σd,G,d,rs,cc,t,f⟩) (fun fl s1 q=>?_) fun e s1 hx=>?_)
 ·cases fl with
  | next=>exact wpAny_execs_nil q
  | ret v=>exact q
  | brk=>exact q
  | cont=>exact q
 ·obtain ⟨H1,s0,I1,l1,a,C,dx,H2,rfl,os,ba,un,hok,F,C',fs,ys,G2,z1,c2,x2,p2,q⟩:=hx
  cases z1;have I2:=I1.call' (ch:=[]) os un hok ba (fun b z=>nomatch z);have hp:∀ p ∈ X.pn++pins,p.1 < s0.heap.objs.size:=fun p h=>Heap.lt_size (I1.pin p h).1
  have l2:=l1.trans (vx0 un);refine ug4 I2 Df.st Df.fr I1.sz hp (.inr (F.imp fun v e=>.inl e)) fun h3 I3 F3=>u76 I3 Df.st Df.fr I1.sz hp F3 fun h4 I4 F4=>?_
  exact hh pins _ σ H2 D a _ dx ys fs _ I4 I1.sz hp F4 x2 p2 ⟨σd,G2,d,rs.le l2,c2,q,f.le l2⟩
end
end L3
namespace L2
open PySem PySem.Spec PyProof.Rows PySem.W
section
variable {prog:Program} {w:World} {A:Around} {E:Value->Shared->Prop} {K:Frag} {C C2 L x:Addr} {o:Obj} {vs:Array Value}
theorem ur3:specialIn K (.builtin "object.__class__") "__get__" = some (some (.builtin "getset_descriptor.__get__")):=by kernel_rfl
theorem v00:takesIn K (.builtin "object.__class__")=some true:=by kernel_rfl
theorem up2 {od:Option Obj} {s:Shared} {Q:Option Value->Shared->Prop} (X:K.In s.heap) (hc:xcIn K C (.ref L::VM)=true) (hga:findIn K (.ref C) "__getattribute__" = some (some (.builtin "BaseException.__getattribute__"))) (hgt:findIn K (.ref C) "__getattr__" = some none)
  (hcc:findIn K (.ref C) "__class__" = some (some (.builtin "object.__class__"))) (I:InstAt s.heap x o C od) (hq:Q (some (.ref C)) { s with toks:=s.toks+1 }):wpAny (model prog w) A (getAttr? (.ref x) "__class__") Q E s:=by
 have GA:=PySem.F.attr_ValueError.ga;obtain ⟨cd,c1,c2,c3⟩:=u99 hc;have hf:findObj K C od "__class__" = some (.bind (.builtin "getset_descriptor.__get__") (.builtin "object.__class__")):=by
  unfold findObj;rw [c1,Option.bind_some,hcc,Option.bind_some];dsimp only;rw [ur3,Option.bind_some];dsimp only;rw [v00,Option.bind_some]
 have hm:mroIn K C (.type "object")=some true:=by unfold mroIn;rw [c1,Option.bind_some,c2];rfl
 obtain ⟨h,g,d,t,os⟩:=s;have T:=I.type (M:=model prog w);have L1:=looks_findIn (M:=model prog w) X hga;have L2:=looks_findIn (M:=model prog w) X hgt;have L3:=looks_find (M:=model prog w) X I hf;have f3:=GA.bind (.ref x);have hx2:(Value.builtin "BaseException.__getattribute__" == Value.builtin "object.__getattribute__")=false:=by decide
 have hx1:(onTheHeap (Value.ref C) && Value.builtin "BaseException.__getattribute__" == Value.builtin "object.__getattribute__")=false:=by rw [hx2];rfl
 unfold getAttr? getAttrBy? getAttrBy
 repeat (any_goals (first | assumption | with_reducible refine Looks.at (by assumption) ?_ | wp_step))
 refine codeAny_call_builtin GA.plain PySem.F.entry_bexc_ga (uc8 X hc I.at_ I.cls ?_)
 show wpAny _ _ (Builtin.«object.__getattribute__» ⟨[.ref x,.str "__class__" t],[]⟩) _ _ _
 unfold Builtin.«object.__getattribute__»
 repeat (any_goals (first | assumption | with_reducible refine Looks.at (by assumption) ?_ | wp_step))
 refine class_get (s:=⟨h,g,d,t+1,os⟩) (ox:=o) (od:=od) X I hm ?_;refine wpAny_pure ?_;exact wpAny_pure (wpAny_pure hq)
def XcX (K:Frag) (C:Addr):Prop:=findIn K (.ref C) "__getattribute__" = some (some (.builtin "BaseException.__getattribute__")) /\ findIn K (.ref C) "__getattr__" = some none /\ findIn K (.ref C) "__class__" = some (some (.builtin "object.__class__"))
theorem uk8 {dx:Option Addr} (hc:xcIn K C (.ref L::VM)=true) (h2:XcX K C):KitX K (.ref x) (.ref C) (fun h=>XH x C dx h /\ ∀ d,dx=some d->∃ od,h.get? d=some od) where
 ty:=fun M h _ p=>by obtain ⟨⟨o,vs,e1,e2,_⟩,_⟩:=p;exact ub3 e1 e2
 it:=fun M h X _=>by
  obtain ⟨⟨nm,q',N,bs,sn,sub,ab,col,dd,k0,k1,k2,k3,k5,hC⟩,_⟩:=uj9 X hc;intro A' Q' E' s' k q;unfold isType loadHead;exact wpAny_bind (wpAny_loadPart (k _ _ hC) (wpAny_pure q))
 ne:=fun h tp dd its n sl X htp=>by
  obtain ⟨⟨nm,q',N,bs,sn,sub,ab,col,dd,k0,k1,k2,k3,k5,hC⟩,_⟩:=uj9 X hc;refine Bool.eq_false_iff.mpr fun q=>?_
  have e:C=tp:=Value.ref.inj (beq_iff_eq.mp q);subst e;have z:=congrArg (fun o:Option Obj=>o.map (·.cls)) (hC.symm.trans htp);exact absurd z (by simp)
 ca:=fun {_ _ _ _ _ s} X p k=>by
  obtain ⟨⟨o,vs,e1,e2,e3,e4⟩,p2⟩:=p;have nc:notCls o=true:=by unfold notCls;rw [e4]
  cases dx with
  | none=>exact up2 (o:=o) (od:=none) X hc h2.1 h2.2.1 h2.2.2 ⟨e1,e2,nc,by rw [e3];trivial⟩ k
  | some d =>
   obtain ⟨od,p3⟩:=p2 d rfl;exact up2 (o:=o) (od:=some od) X hc h2.1 h2.2.1 h2.2.2 ⟨e1,e2,nc,by rw [e3];exact p3⟩ k
theorem va6 {bm:List Value} (hc:xcIn K C (.ref L::VM)=true) (c2:xcIn K C2 bm=true):kitOne K (.ref C) (.ref C2)=some (decide (C2=C \/ C2=L)):=by
 obtain ⟨cd,c1,c3,_⟩:=u99 hc;obtain ⟨cd2,d1,d3,_⟩:=u99 c2;have ty:typeIn K (.ref C2)=some (.type "type"):=by
  unfold xcIn at c2;split at c2
  ·rename_i dd cd' sl ho
   show (K.lookup C2).map (·.cls)=_
   rw [ho];rfl
  ·cases c2
 unfold kitOne
 by_cases e:C=C2
 ·subst e;rw [if_pos (by simp)];simp
 ·rw [if_neg (by simpa using e)]
  unfold kitCls;dsimp only;rw [d1,ty,if_pos (by rfl)]
  show mroIn K C (.ref C2)=_
  unfold mroIn;rw [c1,Option.bind_some,c3]
  show some ((Value.ref C::.ref L::VM).contains (.ref C2))=_
  congr 1
  rw [Bool.eq_iff_iff,List.contains_iff_mem];simp
theorem vj0 (hc:xcIn K C (.ref L::VM)=true):kitOne K (.ref C) (.type "ValueError")=some true:=by
 obtain ⟨cd,c1,c3,_⟩:=u99 hc;unfold kitOne;rw [if_neg (by simp)];unfold kitCls;dsimp only;rw [if_pos (show kitMeta "ValueError" = true by decide)]
 show mroIn K C (.type "ValueError")=_
 unfold mroIn;rw [c1,Option.bind_some,c3];rfl
theorem v57:kitOne K (.type "NoneType") (.type "ValueError")=some false:=by kernel_rfl
theorem v56 {bm:List Value} (c2:xcIn K C2 bm=true):kitOne K (.type "NoneType") (.ref C2)=some false:=by
 obtain ⟨cd2,d1,d3,_⟩:=u99 c2;have ty:typeIn K (.ref C2)=some (.type "type"):=by
  unfold xcIn at c2;split at c2
  ·rename_i dd cd' sl ho
   show (K.lookup C2).map (·.cls)=_
   rw [ho];rfl
  ·cases c2
 unfold kitOne;rw [if_neg (by simp)];unfold kitCls;dsimp only;rw [d1,ty,if_pos (by rfl)];have m:fastBuiltinMro "NoneType" = some [.type "NoneType",.type "object"]:=by kernel_rfl
 show (fastBuiltinMro "NoneType").map (·.contains (.ref C2))=_
 rw [m];simp
theorem ux0 (hc:xcIn K C (.ref L::VM)=true):∀ {cs:List Addr},(∀ c ∈ cs,∃ bm,xcIn K c bm=true)->kitAny K (.ref C) (cs.map Value.ref)=some (cs.any fun c=>decide (c=C \/ c=L))
 | [],_=>rfl
 | c::cs,h=>by
  obtain ⟨bm,e⟩:=h c List.mem_cons_self;rw [List.map_cons];unfold kitAny;rw [va6 hc e,List.any_cons]
  by_cases z:c=C \/ c=L
  ·rw [decide_eq_true z];rfl
  ·rw [decide_eq_false z];exact ux0 hc fun c' m=>h c' (List.mem_cons_of_mem _ m)
end
end L2
namespace L3
open PySem PySem.Spec PyProof.Rows L2
def ug0:List D->Option (List Addr)
 | []=>some []
 | .ref a::r=>(ug0 r).map (a::·)
 | _::_=>none
def xIsX (K:W.Frag) (L:Addr):C3:=fun ds G q=>match ds with
 | [.non,.ref C2]=>(∃ bm,xcIn K C2 bm=true) /\ q (.bl false) G
 | [.non,.ty "ValueError"]=>q (.bl false) G
 | [.ref a,.ref C2]=>(match G a with | some (.exc C _)=>xcIn K C (.ref L::VM)=true /\ XcX K C /\ (∃ bm,xcIn K C2 bm=true) /\ q (.bl (isX C L C2)) G | _=>False)
 | [.ref a,.ty "ValueError"]=>(match G a with | some (.exc C _)=>xcIn K C (.ref L::VM)=true /\ XcX K C /\ q (.bl true) G | _=>False)
 | [.ref a,.tup cs]=>(match G a,ug0 cs with | some (.exc C _),some l=>xcIn K C (.ref L::VM)=true /\ XcX K C /\ (∀ c ∈ l,∃ bm,xcIn K c bm=true) /\ q (.bl (l.any (isX C L))) G | _,_=>False)
 | _=>False
theorem un0 {K:W.Frag} {H:Hp}:∀ {ds:List D} {xs:List V} {l:List Addr} {us:List Value},ug0 ds=some l->RelDs K H ds xs->Vals xs us->us=l.map Value.ref
 | [],xs,l,us,e,r,v=>by
  cases r.inv_nil;cases v;cases e;rfl
 | d::ds,xs,l,us,e,r,v=>by
  obtain ⟨x,t,rfl,r1,r2⟩:=r.inv_cons;cases v with
  | cons v1 v2 =>
   cases d with
   | ref a =>
    cases r1.ref_inv;cases v1;cases z:ug0 ds with
    | none=>simp [ug0,z] at e
    | some l' =>
     simp only [ug0,z,Option.map_some,Option.some.injEq] at e;subst e;rw [List.map_cons,un0 z r2 v2]
   | _=>simp [ug0] at e
section
variable {X:Cx}
theorem us2 {K:W.Frag} (L:Addr) (hK:X.K=K:=by rfl):Call3 X (.builtin "isinstance") (xIsX K L):=by
 subst hK;intro pins s σ H xs us Q I rv h;obtain ⟨ds,G,q,r,c,t,f⟩:=h;have fin:∀ b tk,q (.bl b) G->EP X pins σ Q (.bool b) { s with toks:=tk }:=fun b tk z=>⟨.bl b,H,I.tok tk,rfl,f (.bl b) G (.bl b) H (by rw [RelD]) c (Le.refl H) z⟩
 have exc:∀ {a C fs},G a=some (.exc C fs)->∃ dx,(XH a C dx s.heap /\ ∀ d,dx=some d->∃ od,s.heap.get? d=some od):=fun {a C fs} e=>by
  obtain ⟨dx,ys,h1,h2,_⟩:=c a _ e;refine ⟨dx,(I.hok a _ h1).1,fun d z=>?_⟩;subst z;obtain ⟨o,h2⟩:=h2;exact ⟨o,(I.hok d _ h2).1⟩
 unfold xIsX at t;split at t
 ·rename_i C2
  obtain ⟨⟨bm,e1⟩,t⟩:=t;obtain ⟨x1,r1,rfl,rx,r2⟩:=r.inv_cons;obtain ⟨x2,r3,rfl,ry,r4⟩:=r2.inv_cons;cases r4.inv_nil;rw [RelD] at rx;subst rx;cases ry.ref_inv;obtain ⟨u,v,rfl,ru,rw'⟩:=Vals.two rv;cases ru;cases rw';exact W.kia_one W.kitx_none I.kIn True.intro (v56 e1) (fun z=>nomatch z) fun tk=>fin _ tk t
 ·obtain ⟨x1,r1,rfl,rx,r2⟩:=r.inv_cons
  obtain ⟨x2,r3,rfl,ry,r4⟩:=r2.inv_cons;cases r4.inv_nil;have rx:=(show x1=V.non by simpa only [RelD] using rx);have ry:=(show x2=V.ty "ValueError" by simpa only [RelD] using ry);subst rx;subst ry;obtain ⟨u,v,rfl,ru,rw'⟩:=Vals.two rv;cases ru;cases rw';exact W.kia_one W.kitx_none I.kIn True.intro v57 (fun z=>nomatch z) fun tk=>fin _ tk t
 ·rename_i a C2
  obtain ⟨x1,r1,rfl,rx,r2⟩:=r.inv_cons;obtain ⟨x2,r3,rfl,ry,r4⟩:=r2.inv_cons;cases r4.inv_nil;cases rx.ref_inv;cases ry.ref_inv;obtain ⟨u,v,rfl,ru,rw'⟩:=Vals.two rv;cases ru;cases rw';split at t
  ·rename_i C fs e
   obtain ⟨t1,t2,⟨bm,e1⟩,t⟩:=t;obtain ⟨dx,p⟩:=exc e;exact W.kia_one (uk8 t1 t2) I.kIn p (va6 t1 e1) (fun z=>nomatch z) fun tk=>fin _ tk t
  ·exact t.elim
 ·rename_i a
  obtain ⟨x1,r1,rfl,rx,r2⟩:=r.inv_cons;obtain ⟨x2,r3,rfl,ry,r4⟩:=r2.inv_cons;cases r4.inv_nil;cases rx.ref_inv;rw [RelD] at ry;subst ry;obtain ⟨u,v,rfl,ru,rw'⟩:=Vals.two rv;cases ru;cases rw';split at t
  ·rename_i C fs e
   obtain ⟨t1,t2,t⟩:=t;obtain ⟨dx,p⟩:=exc e;exact W.kia_one (uk8 t1 t2) I.kIn p (vj0 t1) (fun z=>nomatch z) fun tk=>fin _ tk t
  ·exact t.elim
 ·rename_i a cs
  obtain ⟨x1,r1,rfl,rx,r2⟩:=r.inv_cons;obtain ⟨x2,r3,rfl,ry,r4⟩:=r2.inv_cons;cases r4.inv_nil;cases rx.ref_inv;obtain ⟨u,v,rfl,ru,rw'⟩:=Vals.two rv;cases ru;rw [RelD] at ry;obtain ⟨ta,ys,rfl,sq,ry⟩:=ry;cases rw';split at t
  ·rename_i C fs l e z
   obtain ⟨t1,t2,t3,t⟩:=t;obtain ⟨dx,p⟩:=exc e;obtain ⟨its,rvs,tp,_⟩:=I.tuple sq;obtain ⟨o,e1,e2,n,e3⟩:=tp;have ee:=un0 z ry rvs;subst ee;obtain ⟨oc,od,oda,osl⟩:=o;dsimp only at e2 e3;subst e2;subst e3;exact W.kia_tup (uk8 t1 t2) I.kIn p e1 (ux0 t1 t3) (fun z=>nomatch z) fun tk=>fin _ tk t
  ·exact t.elim
 ·exact t.elim
end
structure XL (K:W.Frag) (mg:Str->Option Value) (nm:Str) where
 C:Addr
 m:mg nm=some (.ref C)
 xc:xcIn K C VM=true
 b:XBase K C
structure XE (K:W.Frag) (mg:Str->Option Value) (L:Addr) (nm:Str) where
 C:Addr
 m:mg nm=some (.ref C)
 xc:xcIn K C (.ref L::VM)=true
 x:XcX K C
 ne:C ≠ L
section
variable {X:Cx} {e:Expr} {es:List Expr} {p pos:Pos} {ts:TA3} {k:Nat} {S:Spx3} {x qual:Str} {st:Stmt} {ps:List Str} {C:Addr}
theorem v64 (hm:X.mg x=some (.ref C)) (hg:Gl X x:=by rfl) (hd:(x == ("__debug__" : Str))=false:=by decide):E3 X (.Name x pos) (dC (.ref C)):=vz4 hg hm (v:=.ref C) rfl (fun _=>RelD.refI) hd
end
theorem u63 {C L:Addr}:isX C L C=true:=by unfold isX;simp
theorem v60 {C L:Addr}:isX C L L=true:=by unfold isX;simp
theorem u64 {C L C2:Addr} (h:C2 ≠ C) (h2:C2 ≠ L):isX C L C2=false:=by unfold isX;simp [h,h2]
theorem vj5:(∀ K L C2 G q,xIsX K L [.non,.ref C2] G q=((∃ bm,xcIn K C2 bm=true) /\ q (.bl false) G)) /\ (∀ K L G q,xIsX K L [.non,.ty "ValueError"] G q=q (.bl false) G) /\
  (∀ K L a C2 G q,xIsX K L [.ref a,.ref C2] G q=(match G a with | some (.exc C _)=>xcIn K C (.ref L::VM)=true /\ XcX K C /\ (∃ bm,xcIn K C2 bm=true) /\ q (.bl (isX C L C2)) G | _=>False)) /\
  (∀ K L a G q,xIsX K L [.ref a,.ty "ValueError"] G q=(match G a with | some (.exc C _)=>xcIn K C (.ref L::VM)=true /\ XcX K C /\ q (.bl true) G | _=>False)) /\
  (∀ K L a cs G q,xIsX K L [.ref a,.tup cs] G q=(match G a,ug0 cs with | some (.exc C _),some l=>xcIn K C (.ref L::VM)=true /\ XcX K C /\ (∀ c ∈ l,∃ bm,xcIn K c bm=true) /\ q (.bl (l.any (isX C L))) G | _,_=>False)) :=
 ⟨fun _ _ _ _ _=>rfl,fun _ _ _ _=>rfl,fun _ _ _ _ _ _=>rfl,fun _ _ _ _ _=>rfl,fun _ _ _ _ _ _=>rfl⟩
theorem up3 {S:Spx3} {ds:List D} {G:Gp} {r:XD} {q:DK} {post:D->Gp->Prop} (h:∀ R:DK,(∀ d G',post d G'->R d G')->S ds G R r) (k:∀ d G',post d G'->q d G'):∃ R,S ds G R r /\ ∀ d G',R d G'->q d G' :=
 ⟨post,h _ fun _ _ z=>z,k⟩
end L3
namespace L2
open PySem PySem.Spec PyProof.Rows
section
variable {X:Cx}
def vf6:V->List V->Hp->VK->Prop:=fun x vs H Q=>∃ (l:Addr) (bs:List Bool) (b:Bool),x=.ref l /\ vs=[.bl b] /\ H l=some (.lst (bs.map V.bl)) /\ Q (.int (bs.count b:Int)) H
theorem ud4:∀ {bs:List Bool} {us:List Value},Vals (bs.map V.bl) us->us=bs.map Value.bool
 | [],_,.nil=>rfl
 | b::bs,_,.cons r t=>by cases r;rw [ud4 t];rfl
theorem uv5:MtM X "list.count" vf6:=by
 intro pins s σ H x vs v us Q I rx rv h;obtain ⟨l,bs,b,rfl,rfl,hH,q⟩:=h;cases rx;obtain ⟨u,rfl,ru⟩:=rv.one;cases ru;obtain ⟨z,its,n,r,hl,e⟩:=I.lstM hH;have hi:=ud4 r;subst hi;refine call_meets PySem.F.slot_list_count ⟨_,e,rfl⟩ PySem.F.entry_list_count (PySem.F.args_list_count_2 _ _) (SeqAt.list_countAt l (bs.map Value.bool).toArray n none #[] (.bool b) (isBoolOf b)) ⟨e,fun y hy=>?_,?_⟩
 ·have hy:y ∈ bs.map Value.bool:=by simpa using hy
  obtain ⟨c,_,rfl⟩:=List.mem_map.mp hy;exact SeqAt.EqAt.bool_bool c b
 ·have ec:(bs.map Value.bool).countP (isBoolOf b)=bs.count b:=by
   rw [List.countP_map,List.count]
   congr 1
  rw [show (bs.map Value.bool).toArray.toList=bs.map Value.bool from rfl,ec];exact ⟨.int (bs.count b:Int),H,I.tok _,⟨_,rfl⟩,q⟩
end
end L2
namespace L3
open PySem PySem.Spec PyProof.Rows L2
section
variable {X:Cx} {e o:Expr} {es:List Expr} {to:TE3} {ts:TA3} {apos cpos:Pos}
def w50:M3:=fun x ds G q=>match x,ds with
 | .ref a,[.int k,d]=>(match G a with | some (.lst xs)=>0<=k /\ k<=(xs.length:Int) /\ xs.length < 1000000 /\ q .non (gup G a (.lst (xs.take k.toNat++d::xs.drop k.toNat))) | _=>False)
 | _,_=>False
def u80:List D->Option (List Bool)
 | []=>some []
 | .bl b::r=>(u80 r).map (b::·)
 | _::_=>none
theorem ui3 {K:W.Frag} {H:Hp}:∀ {ds:List D} {bs:List Bool} {xs:List V},u80 ds=some bs->RelDs K H ds xs->xs=bs.map V.bl
 | [],bs,xs,e,r=>by cases e;exact r.inv_nil
 | d::ds,bs,xs,e,r=>by
  obtain ⟨x,t,rfl,r1,r2⟩:=r.inv_cons;cases d with
  | bl b =>
   cases z:u80 ds with
   | none=>simp [u80,z] at e
   | some bs' =>
    simp only [u80,z,Option.map_some,Option.some.injEq] at e;subst e;rw [r1.bl_inv,ui3 z r2];rfl
  | _=>simp [u80] at e
def ui8:M3:=fun x ds G q=>match x,ds with
 | .ref a,[.bl b]=>(match G a with | some (.lst xs)=>(match u80 xs with | some bs=>q (.int (bs.count b:Int)) G | none=>False) | _=>False)
 | _,_=>False
theorem vk3 (ho:E3 X o to) (ha:A3 X (e::es) ts) (hbase:attributeBase o "count" X.env (eval o X.env)=eval o X.env:=by rfl)
  (hfew:((backTo cpos (starEach (e::es) X.env)).all (fun x=>!x.1) && (backToKw cpos (keywordEach [] X.env)).all (fun x=>x.1.isSome)
   && decide ((e::es).length+([]:List Keyword).length+(if ([]:List Keyword).isEmpty then 0 else 1) < 30))=true:=by rfl)
  (hline:(apos.endLine == cpos.line)=true:=by rfl) (hs:starEach (e::es) X.env=(false,eval e X.env)::starEach es X.env:=by rfl) (hplain:(backTo cpos (starEach es X.env)).any (·.1)=false:=by rfl) :
  E3 X (.Call (.Attribute o "count" apos) (e::es) [] cpos) (dBM "list" ui8 to ts) :=
 u32 (uu8 PySem.F.plainAttrs_list PySem.F.slot_list_count PySem.F.type_list_count (ub2 (r':=lowM X.K ui8) uv5 <| by
  rintro x xs H Q ⟨d,ds,G,q,r1,r2,c,t,f⟩;unfold ui8 at t;split at t
  ·rename_i a b
   split at t
   ·rename_i ys ea
    split at t
    ·rename_i bs eb
     cases r1.ref_inv;obtain ⟨v,rfl,rv⟩:=r2.one;rw [rv.bl_inv];obtain ⟨zs,h1,q1⟩:=c _ _ ea;rw [ui3 eb q1] at h1;exact ⟨a,bs,b,rfl,rfl,h1,f _ _ _ _ RelD.intI c (Le.refl H) t⟩
    ·exact t.elim
   ·exact t.elim
  ·exact t.elim) ho ha hbase hfew hline hs hplain) fun _ _ _=>ui9 (ty_list X.K)
end
end L3
namespace Rw
open PySem PySem.Spec PyProof.Rows L2 L3
theorem uz7 {α:Type} {xs:List α} {n:Nat}:L3.cutD xs (some (n:Int)) none=xs.drop n:=by
 unfold L3.cutD;rw [HT.sIx_none,HT.sIx_nat]
 rcases Nat.le_total n xs.length with h | h
 ·rw [Nat.min_eq_left h]
  exact List.take_of_length_le (by rw [List.length_drop];exact Nat.le_refl _)
 ·rw [Nat.min_eq_right h,List.drop_eq_nil_of_le (Nat.le_refl _),List.drop_eq_nil_of_le h,List.take_nil]
end Rw
namespace L2
open PySem PySem.Spec PyProof.Rows
section
variable {X:Cx} {tg:Expr}
theorem vt1 (hu:X.A.units+1 < cLine):OpR X (compareOp .In) (fun x y H Q=>∃ a kvs k,x=kV k /\ y=.ref a /\ H a=some (.dK kvs) /\ Q (.bl (valV kvs k).isSome) H):=by
 intro pins s σ H x y v u Q I rx ry h;obtain ⟨a,kvs,k,rfl,rfl,ha,q⟩:=h;obtain rfl:u=Value.ref a:=ry;exact d_in hu I (DGet.k (k:=k) ha) rx fun s' I'=>⟨.bl _,H,I',rfl,q⟩
end
end L2
namespace L3
open PySem PySem.Spec PyProof.Rows L2
section
variable {X:Cx} {K:W.Frag} {H:Hp} {o e tg:Expr} {es:List Expr} {te to:TE3} {ts:TA3} {apos cpos pos:Pos} {x:Str}
def vl0:TE3:=fun _ G q=>∀ p,G p=none->q (.ref p) (gup G p (.dic []))
theorem uz0 {pos:Pos}:E3 X (.Dict [] [] pos) vl0:=u32 v35 fun σ H Q h=>by
 obtain ⟨σd,G,q,rs,c,t,f⟩:=h;exact fun p hp=>f (.ref p) _ (.ref p) _ (by rw [RelD]) (c.put (o:=.dic []) (Le.fresh hp) ⟨[],u18,rfl,.nil⟩) (Le.fresh hp) (t p (c.fresh hp))
@[reducible] def xInK:R3:=fun x y G q=>∃ (k:Key) (kvs:List (Key × D)) (a:Addr),x=kD k /\ y=.ref a /\ G a=some (.dic kvs) /\ q (.bl (valK kvs k).isSome) G
theorem w23 {k:Nat} (hr:Room k X.A):Op3 X (compareOp .In) xInK:=u51 (vt1 (vj9 hr)) fun x y H Q ⟨d,e,G,q,r1,r2,c,⟨k,kvs,a,e1,e2,hg,t⟩,f⟩=>by
 subst e1 e2;cases r2.ref_inv;obtain rfl:=ux3 r1;obtain ⟨ys,e,rp⟩:=c a _ hg;refine ⟨a,ys,k,rfl,rfl,e,?_⟩;have es:(valK kvs k).isSome=(valV ys k).isSome:=by
  rcases uf7 (k:=k) rp with ⟨z1,z2⟩ | ⟨d',w,z1,z2,_⟩ <;> rw [z1,z2] <;> rfl
 rw [es] at t;exact f _ _ _ _ RelD.blI c (Le.refl H) t
end
end L3
namespace L2
open PySem PySem.Spec PyProof.Rows
section
variable {X:Cx}
theorem vd0:SlR X (fun x lo hi H Q=>∃ y:Str,x=.str y /\ y.length<=sizeLine /\ Q (.str (Txt.slice y lo hi)) H):=by
 intro pins s σ H x v vl vu lo hi sl Q I rx hs pl pu h;obtain ⟨y,rfl,hy,q⟩:=h;obtain ⟨t,rfl⟩:=rx;refine ⟨"str",_,PySem.F.slot_str_getitem.lookup,typeIs_str _ _ _,?_⟩;obtain ⟨l,rfl,el⟩:∃ l:Option (Int × Tok),vl=partValue l /\ l.map (·.1)=lo:=by cases pl with
  | none=>exact ⟨none,rfl,rfl⟩
  | int i t=>exact ⟨some (i,t),rfl,rfl⟩
 obtain ⟨u,rfl,eu⟩:∃ l:Option (Int × Tok),vu=partValue l /\ l.map (·.1)=hi:=by cases pu with
  | none=>exact ⟨none,rfl,rfl⟩
  | int i t=>exact ⟨some (i,t),rfl,rfl⟩
 subst el;subst eu;refine wpAny_getItem_str_slice (l:=l) (u:=u) (st:=none) hs rfl ?_;refine post_val_or_str ⟨Nat.le_trans (Txt.slice_le y _ _) hy,fun t' k=>?_⟩;exact ⟨.str _,H,I.tok k,⟨t',rfl⟩,q⟩
end
end L2
namespace L3
open PySem PySem.Spec PyProof.Rows L2
section
variable {X:Cx} {K:W.Frag} {H:Hp} {o e tg:Expr} {es:List Expr} {te to:TE3} {ts:TA3} {apos cpos pos:Pos} {x:Str}
@[reducible] def xSlX:RS3:=fun x lo hi G q=>∃ y:Str,x=.str y /\ y.length<=sizeLine /\ q (.str (Txt.slice y lo hi)) G
theorem vb6:SlR X (uw7 X.K xSlX):=us6 vd0 <| by
 rintro x lo hi H Q ⟨d,G,q,r1,c,⟨y,rfl,hy,t⟩,f⟩;exact ⟨y,r1.str_inv,hy,f _ _ _ _ (by rw [RelD]) c (Le.refl H) t⟩
end
theorem str_len (x:Str):x.length=x.cps.toList.length:=by simp [Str.length]
theorem uz8 (a b:Str):(a++b).cps.toList=a.cps.toList++b.cps.toList:=by
 show (a.cps++b.cps).toList=_
 rw [Array.toList_append]
theorem vc9 {a b:Str} (h:a.cps.toList=b.cps.toList):a=b:=Str.ext' (Array.toList_inj.mp h)
theorem blank:(" " : Str)=⟨#[32]⟩:=by decide
end L3
namespace L3
open PySem PySem.Spec PyProof.Rows L2
theorem addS {a b:Str} {G:Gp} {q:DK}:xAdd (.str a) (.str b) G q=(a.length+b.length<=sizeLine /\ q (.str (a++b)) G):=rfl
theorem at0 {α:Type} {c:α} {r:List α}:atI (c::r) 0=some c:=by
 unfold atI ixN;rw [if_pos (by decide),if_pos (by rw [List.length_cons];omega)];rfl
end L3
namespace L3
open PySem PySem.Spec PyProof.Rows L2 Rw
def WDS:List Str:=["wide", "boxes", "choose", "else", "end", "times"]
def ltr (x:Str):Bool:=x.cps.toList.all fun c=>decide (97<=c) && decide (c<=122)
def nmB (x:Str):Bool:=decide (1<=x.length) && decide (x.length<=8) && !decide (x ∈ WDS) && ltr x
theorem vw2 {x:Str} (h1:1<=x.length) (h2:x.length<=8) (h3:x ∉ WDS) (h4:ltr x=true):nmB x=true:=by
 unfold nmB;rw [decide_eq_true h1,decide_eq_true h2,decide_eq_false h3,h4];rfl
theorem nm_q {x:Str} (h:x ∈ WDS):nmB (x ++ "q")=true:=by
 have:∀ y ∈ WDS,nmB (y ++ "q")=true:=by decide
 exact this x h
theorem u96 (a b:Str):ltr (a++b)=(ltr a && ltr b):=by
 unfold ltr;rw [uz8,List.all_append]
theorem uv8 {c:Nat} (h:97<=c /\ c<=122):ltr ⟨#[c]⟩=true:=by
 unfold ltr;simp [h.1,h.2]
theorem vw7:∀ ws:List Str,(∀ w ∈ ws,ltr w=true)->ltr (jn Str.empty ws)=true:=by
 intro ws h;have e:jn Str.empty ws=Str.join Str.empty ws:=StrLaws.glued_eq_join _ _;rw [e];clear e
 induction ws with
 | nil=>rfl
 | cons w ws ih =>
  cases ws with
  | nil=>exact h w List.mem_cons_self
  | cons v r =>
   show ltr (w++Str.empty++Str.join Str.empty (v::r))=true
   rw [u96,u96,h w List.mem_cons_self,ih fun x hx=>h x (List.mem_cons_of_mem _ hx)];rfl
theorem ud5:∀ l:List Str,strsOf (l.map D.str)=some l
 | []=>rfl
 | w::l=>by show (strsOf (l.map D.str)).map (w::·)=_;rw [ud5 l];rfl
theorem ua4 {neg:Bool} {w:Str} {ws:List Str} {G:Gp} {q:DK} (k:q (.bl (if neg then !decide (w ∈ ws) else decide (w ∈ ws))) G):xInB neg (.str w) (.tup (ws.map .str)) G q:=by
 unfold xInB;simp only [ud5];exact k
def atsR:Rowp->List Atm
 | .is x a=>[.box x,a]
 | .op x _ a b=>[.box x,a,b]
 | .cho a _ _=>[a]
 | .tim _ _=>[]
end L3
namespace L3
open PySem PySem.Spec PyProof.Rows L2 Rw
theorem v62 {m W:Nat} (h:m < 2 ^ W):hi m<=W:=by
 unfold hi;split
 ·omega
 ·rename_i h0
  have:=(Nat.log2_lt h0).mpr h;omega
theorem uu2 {kvs:List (Key × D)} {k:Key} {v:D} (h:valK kvs k=none):ua3 kvs k v=kvs++[(k,v)]:=by
 unfold ua3;unfold valK at h;rw [Option.map_eq_none_iff] at h;have:kvs.any (fun kv=>decide (kv.1=k))=false:=by
  rw [List.any_eq_false];intro x hx;have:=List.find?_eq_none.mp h x hx;simpa using this
 simp [this]
theorem us7 {kvs:List (Key × D)} {x b:Str} {v:D} (h:valK kvs (.inr x)=none) (hne:b ≠ x):valK (kvs++[(.inr b,v)]) (.inr x)=none:=by
 unfold valK at h ⊢;rw [Option.map_eq_none_iff] at h ⊢;rw [List.find?_append,h];simp [hne]
end L3
namespace Rw
open PySem PySem.Spec PyProof.Rows L2 L3
def numI (k:Int):Str:=Str.ofString (toString k)
theorem v40 (k:Nat):(numI (k:Int)).cps.toList=(Nat.toDigits 10 k).map Char.toNat:=W.KIN.signs_num k
theorem un3 (k:Nat):(numI (k:Int)).length=(Nat.toDigits 10 k).length:=by rw [str_len,v40,List.length_map]
theorem vv8 {k m:Nat} (h:k<=m):(numI (k:Int)).length<=(numI (m:Int)).length:=by
 rw [un3,un3];rw [Nat.length_toDigits_le_iff (by decide) Nat.length_toDigits_pos];have:=(Nat.length_toDigits_le_iff (b:=10) (n:=m) (k:=(Nat.toDigits 10 m).length) (by decide) Nat.length_toDigits_pos).mp (Nat.le_refl _);omega
theorem vl6:(numI 9999999999).length=10:=by decide
theorem vv9 {k:Nat} (h:k<=9999999999):(numI (k:Int)).length<=10:=by
 have:=vv8 h;rw [show ((9999999999:Nat):Int)=9999999999 from rfl,vl6] at this;exact this
def wd (x:Str):Prop:=x.length<=11 /\ ∀ c ∈ x.cps.toList,33<=c
end Rw
namespace L3
open PySem PySem.Spec PyProof.Rows L2
def vb3 (td ti tf:TE3):TE3:=fun σ G q=>td σ G fun x G1=>(∃ a kvs,x=.ref a /\ G1 a=some (.dic kvs)) /\ ti σ G1 fun y G2=>tf σ G2 fun z G3=>∃ a kvs k,x=.ref a /\ y=kD k /\ G3 a=some (.dic kvs) /\ q ((valK kvs k).getD z) G3
theorem uw3 {K:W.Frag} {H:Hp} {td ti tf:TE3} {σ:L2.St} {Q:VK} (h:lowE K (vb3 td ti tf) σ H Q):v91 (lowE K td) (lowE K ti) (lowE K tf) σ H Q:=by
 obtain ⟨σd,G,q,rs,c,t,f⟩:=h;refine ⟨σd,G,_,rs,c,t,fun x G1 v H1 r1 c1 l1 t1=>?_⟩;obtain ⟨⟨a,kvs,rfl,ha⟩,t1⟩:=t1;obtain ⟨ys,e,rp⟩:=c1 a _ ha;refine ⟨a,r1.ref_inv,.inl ⟨ys,.of e⟩,σd,G1,_,rs.le l1,c1,t1,fun y G2 u H2 r2 c2 l2 t2=>⟨σd,G2,_,rs.le (l1.trans l2),c2,t2,fun z G3 w H3 r3 c3 l3 t3=>?_⟩⟩;obtain ⟨a',kvs3,k,e1,rfl,hg,t4⟩:=t3;cases e1;obtain rfl:=ux3 r2;obtain ⟨ys3,e3,rp3⟩:=c3 a _ hg;refine ⟨valV ys3 k,DGet.k e3,?_⟩
 rcases uf7 (k:=k) rp3 with ⟨z1,z2⟩ | ⟨d',w',z1,z2,z3⟩
 ·rw [z1] at t4
  rw [z2];exact f _ _ _ _ r3 c3 (l1.trans (l2.trans l3)) t4
 ·rw [z1] at t4
  rw [z2];exact f _ _ _ _ z3 c3 (l1.trans (l2.trans l3)) t4
theorem vz5 {X:Cx} {k:Nat} {o e f:Expr} {apos cpos:Pos} {to te tf:TE3} (hr:Room k X.A) (ho:E3 X o to) (he:E3 X e te) (hf:E3 X f tf) (hbase:attributeBase o "get" X.env (eval o X.env)=eval o X.env:=by rfl)
  (hfew:((backTo cpos (starEach [e,f] X.env)).all (fun x=>!x.1) && (backToKw cpos (keywordEach [] X.env)).all (fun x=>x.1.isSome)
   && decide (([e,f]:List Expr).length+([]:List Keyword).length+(if ([]:List Keyword).isEmpty then 0 else 1) < 30))=true:=by rfl)
  (hline:(apos.endLine == cpos.line)=true:=by rfl) (htr:starEach [e,f] X.env=[(false,eval e X.env),(false,eval f X.env)]:=by rfl):E3 X (.Call (.Attribute o "get" apos) [e,f] [] cpos) (vb3 to te tf) :=
 u32 (v36 (vj9 hr) ho he hf ⟨hbase,hfew,hline,by rw [htr];rfl⟩) fun _ _ _=>uw3
end L3
namespace L2
open PySem PySem.Spec PyProof.Rows
open AutoSeq1 (wpAny_loadPart')
theorem uq9 (l:Addr) (items:Array Value) (n:Nat) (b:Addr) (items2:Array Value) (n2:Nat) (dd:Option Addr) (sl:Array (Option Value)) (hs0:¬(!items.isEmpty && Builtin.List.listTooLong (items.size+items2.size))=true) (hs1:items.size<=sizeLine) (hs2:items.size+items2.size<=sizeLine+1) :
  Meets (Builtin.«list.extend» ⟨[.ref l,.ref b],[]⟩) (fun _ R s=>s.heap.get? l=some { cls:=.type "list",dict:=none,data:=.seq items n,slots:=#[] } /\ s.heap.get? b=some { cls:=.type "tuple",dict:=dd,data:=.seq items2 n2,slots:=sl } /\ R (.ok (.ret Value.none)) { s with heap:=s.heap.update l (Obj.mapSeq fun x=>x++items2),toks:=s.toks }) :=
 .of_wp fun prog w A R s h=>by
  obtain ⟨hp,g,d,tk,os⟩:=s;obtain ⟨hl,hb,h⟩:=h;have f1:=AutoSeq1.idx_int;have f2:=AutoSeq1.sub_tuple_tuple;have f3:=AutoSeq1.sub_list_list;have f4:=AutoSeq1.sub_tuple_list;have f5:=AutoSeq1.sub_list_tuple;have hz':(items++items2).size<=sizeLine+1:=by rw [Array.size_append];exact hs2
  wp_walk using (wpAny_updateSeq hl rfl (hz:=hs1) (_hz':=hz')),wpAny_loadPart' hl,wpAny_loadPart' hb
  exact ⟨_,rfl,h⟩
section
variable {X:Cx}
def w36 (K:W.Frag):V->List V->Hp->VK->Prop:=fun x vs H Q=>∃ l b xs zs,x=.ref l /\ vs=[.ref b] /\ H l=some (.lst xs) /\ SqT K H b zs /\ xs.length+zs.length<=sizeLine /\ Q .non (upd H l (.lst (xs++zs)))
theorem vh6:MtM X "list.extend" (w36 X.K):=by
 intro pins s σ H x vs v us Q I rx rv h;obtain ⟨l,b,xs,zs,rfl,rfl,hH,hB,hz,q⟩:=h;cases rx;obtain ⟨u,rfl,ru⟩:=rv.one;cases ru;obtain ⟨z,its,n,r,hl,e⟩:=I.lstM hH;obtain ⟨its2,r2,tp,hl2⟩:=I.tuple hB;obtain ⟨o,e1,e2,n2,e3⟩:=tp;obtain ⟨oc,od,oda,osl⟩:=o;dsimp only at e2 e3;subst e2;subst e3;have l2:=r2.length;have hsz:its.toArray.size+its2.toArray.size<=sizeLine:=by rw [List.size_toArray,List.size_toArray];omega
 have hlong:¬ (!its.toArray.isEmpty && Builtin.List.listTooLong (its.toArray.size+its2.toArray.size))=true:=by
  rw [ug5 hsz,Bool.and_false];exact Bool.false_ne_true
 refine call_meets F.slot_list_extend ⟨_,e,rfl⟩ F.entry_list_extend (F.args_list_extend_2 _ _)
  (uq9 l its.toArray n b its2.toArray n2 od osl hlong (by rw [List.size_toArray];omega) (by omega)) ⟨e,e1,?_⟩
 refine ⟨.non,_,I.lset (its':=its++its2) hH e (by simp) (r.append r2) ?_,rfl,q⟩;rw [List.length_append];omega
end
end L2
namespace L3
open PySem PySem.Spec PyProof.Rows L2
section
variable {X:Cx} {o e:Expr} {es:List Expr} {apos cpos:Pos} {to:TE3} {ts:TA3}
def v45:M3:=fun x ds G q=>match x,ds with
 | .ref a,[.tup ys]=>(match G a with | some (.lst xs)=>xs.length+ys.length<=sizeLine /\ q .non (gup G a (.lst (xs++ys))) | _=>False)
 | _,_=>False
theorem vz6 (ho:E3 X o to) (ha:A3 X (e::es) ts) (hbase:attributeBase o "extend" X.env (eval o X.env)=eval o X.env:=by rfl)
  (hfew:((backTo cpos (starEach (e::es) X.env)).all (fun x=>!x.1) && (backToKw cpos (keywordEach [] X.env)).all (fun x=>x.1.isSome)
   && decide ((e::es).length+([]:List Keyword).length+(if ([]:List Keyword).isEmpty then 0 else 1) < 30))=true:=by rfl)
  (hline:(apos.endLine == cpos.line)=true:=by rfl) (hs:starEach (e::es) X.env=(false,eval e X.env)::starEach es X.env:=by rfl) (hplain:(backTo cpos (starEach es X.env)).any (·.1)=false:=by rfl) :
  E3 X (.Call (.Attribute o "extend" apos) (e::es) [] cpos) (dBM "list" v45 to ts) :=
 u32 (uu8 PySem.F.plainAttrs_list PySem.F.slot_list_extend PySem.F.type_list_extend (ub2 (r':=lowM X.K v45) vh6 <| by
  rintro x xs H Q ⟨d,ds,G,q,r1,r2,c,t,f⟩;unfold v45 at t;split at t
  ·rename_i a ys
   split at t
   ·rename_i xs' ea
    cases r1.ref_inv;obtain ⟨v,rfl,rv⟩:=r2.one;rw [RelD] at rv;obtain ⟨b,zs,rfl,sq,rz⟩:=rv;obtain ⟨us,h1,q1⟩:=c _ _ ea;exact ⟨a,b,us,zs,rfl,rfl,h1,sq,by rw [<- q1.length,<- rz.length];exact t.1,f _ _ _ _ RelD.nonI (c.lstSet h1 (q1.append rz)) (Le.lst h1) t.2⟩
   ·exact t.elim
  ·exact t.elim) ho ha hbase hfew hline hs hplain) fun _ _ _=>ui9 (ty_list X.K)
end
end L3
namespace L3
open PySem PySem.Spec PyProof.Rows L2 Rw
def atS:Atm->Str
 | .num i=>numI (i:Int)
 | .box x=>x
def tA:Atm->Prop
 | .num i=>i<=65535
 | .box x=>nmB x=true
mutual
def tR:Rowp->Prop
 | .is x a=>nmB x=true /\ tA a
 | .op x o a b=>nmB x=true /\ o ∈ signs /\ tA a /\ tA b
 | .cho a ys ns=>tA a /\ tL ys /\ tL ns
 | .tim k ys=>k<=20 /\ tL ys
def tL:List Rowp->Prop
 | []=>True
 | r::rs=>tR r /\ tL rs
end
theorem tL_app:∀ {a b:List Rowp},tL (a++b) ↔ tL a /\ tL b
 | [],b=>by simp [tL]
 | r::a,b=>by
  show tR r /\ tL (a++b) ↔ (tR r /\ tL a) /\ tL b
  rw [tL_app,and_assoc]
theorem v90:∀ {rs:List Rowp} {r:Rowp},tL rs->r ∈ rs->tR r
 | s::rs,r,h,m=>by
  rcases List.mem_cons.mp m with e | e
  ·subst e;exact h.1
  ·exact v90 h.2 e
theorem v21 {W:Nat} {bs:List Str} (hW:W<=16) (hb:∀ b ∈ bs,nmB b=true) {a:Atm} (h:okA W bs a):tA a:=by
 cases a with
 | num i =>
  have h:i < 2 ^ W:=h;have:=Nat.pow_le_pow_right (n:=2) (by decide) hW
  show i<=65535
  have h16:(2:Nat) ^ 16=65536:=by decide
  omega
 | box x=>exact hb x h
mutual
theorem w29 {W:Nat} {bs:List Str} (hW:W<=16) (hb:∀ b ∈ bs,nmB b=true):∀ r:Rowp,okR W bs r->tR r
 | .is x a,h=>⟨hb x h.1,v21 hW hb h.2⟩
 | .op x o a b,h=>⟨hb x h.1,h.2.1,v21 hW hb h.2.2.1,v21 hW hb h.2.2.2⟩
 | .cho a ys ns,h=>⟨v21 hW hb h.1,ut1 hW hb ys h.2.1,ut1 hW hb ns h.2.2⟩
 | .tim k ys,h=>⟨h.1,ut1 hW hb ys h.2⟩
theorem ut1 {W:Nat} {bs:List Str} (hW:W<=16) (hb:∀ b ∈ bs,nmB b=true):∀ rs:List Rowp,okL W bs rs->tL rs
 | [],_=>trivial
 | r::rs,h=>⟨w29 hW hb r h.1,ut1 hW hb rs h.2⟩
end
end L3
namespace L2
open PySem PySem.Spec PyProof.Rows
structure RoomM (k:Nat) (A:Around):Prop where
 dp:A.depth+3 * k+5 < recursionLimit
 un:A.units+16 * k+200 < cLine
theorem RoomM.deeper {k:Nat} {A:Around} (r:RoomM (k+1) A) (env:Env):RoomM k (A.deeper env) :=
 ⟨by have:=r.dp;show A.depth+1+3 * k+5 < _;omega,by have:=r.un;show A.units+3+16 * k+200 < _;omega⟩
theorem RoomM.depth {k:Nat} {A:Around} (r:RoomM k A):A.depth < recursionLimit:=by have:=r.dp;omega
theorem RoomM.mono {j k:Nat} {A:Around} (r:RoomM k A) (h:j<=k):RoomM j A:=⟨by have:=r.dp;omega,by have:=r.un;omega⟩
def ur2 (CX:CXT) (P:Program) (w:World) (K:W.Frag) (mg:Str->Option Value) (base:Heap) (N:List Str) (qual:Str) (scope:Scope) (f:Addr) (cd:Value) (A:Around) (outer:List Env) (s:Shared) (H:Hp) (E:XK):Cx where
 prog:=P
 w:=w
 K:=K
 mg:=mg
 base:=base
 A:=A.deeper (envOfC qual scope s.heap.objs.size f cd)
 N:=N
 s₀:=s
 H₀:=H
 env:=envOfC qual scope s.heap.objs.size f cd
 outer:=outer
 stack:=envOfC qual scope s.heap.objs.size f cd::outer
 ex:=[]
 calm:=false
 fn:=fun _=>true
 pn:=[]
 xe:=fun e s'=>wpAny (model P w) (A.deeper (envOfC qual scope s.heap.objs.size f cd)) (leaving (envOfC qual scope s.heap.objs.size f cd) e) (fun _ s''=>CX outer H s E e s'') (fun e' s''=>CX outer H s E e' s'') s'
theorem uq8 {CX:CXT} {P:Program} {w:World} {K:W.Frag} {mg:Str->Option Value} {base:Heap} {N ps:List Str} {qual:Str} {scope:Scope} {f:Addr} {cd:Value} {A:Around} {outer:List Env} {s s1:Shared} {H:Hp} {E:XK} {us:List Value} {vs:List V}
  (S:FnScope N ps scope) (e0:Env0 P w K mg base A outer s H) (hl:vs.length=ps.length) (r:Vals vs us)
  (x:InCallC s s.heap.objs.size (bindL (envOfC qual scope s.heap.objs.size f cd).kindOf (ps.zip us) fun _=>none) (cellsFrom (s.heap.objs.size+1) scope.names []) (bindC (envOfC qual scope s.heap.objs.size f cd).kindOf (ps.zip us) fun _=>none) s1) :
  Inv (ur2 CX P w K mg base N qual scope f cd A outer s H E) [] (start N vs) H s1:=by
 have hpl:ps.length<=N.length:=by have:=congrArg List.length S.pre;rw [List.length_take] at this;omega
 obtain ⟨h1,tk,rfl,hk⟩:=x.done;have noA:∀ b:Addr,b ∉ (ur2 CX P w K mg base N qual scope f cd A outer s H E).ex:=fun b z=>absurd (show b ∈ ([]:List Addr) from z) (by simp)
 refine ⟨⟨e0.mod,S.kind,rfl,rfl,Nat.le_refl _,fun y z c h1 h2=>?_,fun y hy=>?_,fun y c _ h=>?_,(fun z=>nomatch z),Around.frames_deeper e0.frames,.inr ⟨rfl,rfl⟩,fun b z=>absurd z (noA b),e0.bs,e0.bsz,fun b _ _=>noA b,fun b z=>absurd z (noA b),e0.funs,e0.frf⟩,
  rfl,e0.bare,Un.kept hk,⟨_,x.toInCall.ns,fun i y v h1 h2 h3=>?_⟩,fun y c h=>⟨_,x.cell y c h⟩,e0.hok.fresh (Nat.le_refl _),fun y c h=>?_,fun p hp=>absurd (show p ∈ ([]:List (Addr × Obj)) from hp) (by simp),e0.hok.kept hk,?_⟩
 ·exact name_of_addr x.apart (PySem.mem_of_lookup h1) (PySem.mem_of_lookup h2)
 ·have hy:scope.names.lookup y=some .cell \/ scope.names.lookup y=some .free:=hy
  rcases hy with hy | hy
  ·exact ub1 hy
  ·exact absurd rfl (S.nofree _ (PySem.mem_of_lookup hy))
 ·exact Nat.le_of_lt (x.above y c (PySem.mem_of_lookup h))
 ·have hi:i < vs.length:=by
   unfold start at h2
   by_cases hi:i < vs.length
   ·exact hi
   ·rw [List.getElem?_append_right (by simpa using hi)] at h2
    rw [List.getElem?_replicate] at h2;split at h2 <;> cases h2
  have ha:vs[i]?=some v:=by
   unfold start at h2;rw [List.getElem?_append_left (by simpa using hi),List.getElem?_map] at h2;cases e:vs[i]? with
   | none=>rw [e] at h2;cases h2
   | some a=>rw [e] at h2;cases h2;rfl
  obtain ⟨u,hu,rv⟩:=r.get ha;have hp:ps[i]?=some y:=by
   rw [<- S.pre,List.getElem?_take_of_lt (by omega)];exact h1
  have ndP:ps.Nodup:=by rw [<- S.pre];exact S.nd.sublist (List.take_sublist _ _)
  refine ⟨u,rv,?_⟩
  rcases S.par y (List.mem_of_getElem? hp) with k | k
  ·exact .inl ⟨k,uc9 ndP hp hu k⟩
  ·obtain ⟨c,e⟩:=ub1 (n:=s.heap.objs.size+1) k
   refine .inr ⟨.inl k,c,e,?_⟩;have q:=x.cell y c e;rw [ud0 ndP hp hu (by show scope.names.lookup y ≠ _;rw [k];decide)] at q;exact q
 ·exact e0.hok.fresh (Nat.le_of_lt (x.above y c (PySem.mem_of_lookup h)))
 ·unfold start
  show _=N.length
  rw [List.length_append,List.length_map,List.length_replicate];omega
structure FnOkM (P:Program) (w:World) (K:W.Frag) (mg:Str->Option Value) (base:Heap) (CX:CXT) (k:Nat) (f:Addr) (fd:FuncData) (ps:List Str) (sp:Sp):Prop where
 len:∀ vs H Q E,sp vs H Q E->vs.length=ps.length
 run:∀ (A:Around) (outer:List Env) (s:Shared) (H:Hp) (args:Args) (us:List Value) (vs:List V) (Q:VK) (E:XK),RoomM k A->Env0 P w K mg base A outer s H->BindsTo s fd args (ps.zip us)->Vals vs us->sp vs H Q E ->
  codeAny (model P w) A (.call (.ref f) args) (CR CX outer P w H s Q E) s
theorem FnOkM.mono {P:Program} {w:World} {K:W.Frag} {mg:Str->Option Value} {base:Heap} {CX:CXT} {j k:Nat} {f:Addr} {fd:FuncData} {ps:List Str} {sp:Sp} (F:FnOkM P w K mg base CX j f fd ps sp) (h:j<=k) :
  FnOkM P w K mg base CX k f fd ps sp:=⟨F.len,fun A outer s H args us vs Q E hr=>F.run A outer s H args us vs Q E (hr.mono h)⟩
theorem vy8 {CX:CXT} {P:Program} {w:World} {K:W.Frag} {mg:Str->Option Value} {base:Heap} {k:Nat} {f:Addr} {name qual:Str} {params:Arguments} {body:List Stmt} {scope:Scope} {dV kV doc pm cdv ct oc:Value} {an od:Option Addr}
  {osl:Array (Option Value)} {N ps:List Str} {sp:Sp} (lk:K.lookup f=some ⟨oc,od,.func (W.fnOf name qual params body scope dV kV doc pm an cdv ct),osl⟩) (hcd:W.codeIn K cdv qual=true) (S:FnScope N ps scope)
  (len:∀ vs H Q E,sp vs H Q E->vs.length=ps.length)
  (hbody:∀ (A:Around) (outer:List Env) (s:Shared) (H:Hp) (vs:List V) (Q:VK) (E:XK),RoomM k (A.deeper (envOfC qual scope s.heap.objs.size f cdv))->sp vs H Q E ->
   ∃ t,PSs (ur2 CX P w K mg base N qual scope f cdv A outer s H E) body t /\ t { nx:=fun _ H'=>Q .non H',rt:=Q } (start N vs) H) :
  FnOkM P w K mg base CX (k+1) f (W.fnOf name qual params body scope dV kV doc pm an cdv ct) ps sp:=by
 refine ⟨len,fun A outer s H args us vs Q E hr e0 hb r hsp=>?_⟩;have hl:=len _ _ _ _ hsp;have KX:K.In s.heap:=e0.mod.kin.keeps fun b o e=>(e0.bs b o e).1
 have lim:s.heap.NoLimit:=e0.mod.nolimit.keeps fun b o e=>(e0.bs b o e).1
 have hkind:∀ y ∈ ps.zip us,scope.names.lookup y.1=some .local \/ (scope.names.lookup y.1=some .cell /\ ((cellsFrom (s.heap.objs.size+1) scope.names []).lookup y.1).isSome=true):=fun ⟨n,v⟩ hy=>by
  rcases S.par n (List.of_mem_zip hy).1 with q | q
  ·exact .inl q
  ·exact .inr ⟨q,W.cellsFrom_some _ _ _ (.inl q)⟩
 refine codeAny_call_function hr.depth (KX _ _ lk) rfl S.co S.gen rfl (W.codeRec_of KX hcd) (hb _ _ _ _ ?_);refine wpAny_newFunctionEnv_cells S.kind hkind fun env he s1 x=>?_
 subst he;refine ⟨lim.keeps x.toInCall.keep,codeAny_func ?_⟩;obtain ⟨t,ht,hq⟩:=hbody A outer s H vs Q E (hr.deeper _) hsp;have I:Inv (ur2 CX P w K mg base N qual scope f cdv A outer s H E) [] (start N vs) H s1:=uq8 S e0 hl r x;refine wpAny_mono (ht [] s1 (start N vs) H _ I hq) (fun fl s' hs=>?_) fun e s' hs=>hs
 have fin:∀ {σ':St} {H':Hp} {v:V} {u:Value},Inv (ur2 CX P w K mg base N qual scope f cdv A outer s H E) [] σ' H' s'->RelV v u->Q v H'->CE outer P w H s Q u s' :=
  fun {σ' H' v u} J rv q=>⟨v,H',J.os,J.bare,J.base,J.hok,rv,q⟩
 cases fl with
 | ret u =>
  obtain ⟨v,σ',H',J,rv,q⟩:=hs;exact fin J rv q
 | next =>
  obtain ⟨σ',H',J,q⟩:=hs;exact fin (v:=V.non) (u:=Value.none) J rfl q
 | brk =>
  obtain ⟨_,_,_,q⟩:=hs;exact False.elim q
 | cont =>
  obtain ⟨_,_,_,q⟩:=hs;exact False.elim q
section
variable {X:Cx} {CX:CXT} {k:Nat} {f C:Addr} {fd:FuncData} {ps:List Str} {sp:Sp} {dvs:List V} {ds:List Value} {E:XK} {x m:Str} {p pos apos:Pos} {e o:Expr} {es:List Expr} {ta:TE} {t:TA}
theorem vf4 {pins:List (Addr × Obj)} {σ:St} {H:Hp} {s:Shared} {Q:VK} {us:List Value} {vs:List V} (F:FnOkM X.prog X.w X.K X.mg X.base CX k f fd ps sp) (hr:RoomM k X.A) (hb:Binds X.K fd ps ds) (hd:Vals dvs ds) (hx:Passes CX X E)
  (I:Inv X pins σ H s) (r:Vals vs us) (h:sp (vs++dvs) H Q E):wpAny (model X.prog X.w) X.A (call (.ref f) us) (EP X pins σ Q) X.xe s:=by
 have r2:Vals (vs++dvs) (us++ds):=r.append hd;have hl:(us++ds).length=ps.length:=by rw [<- r2.length];exact F.len _ _ _ _ h
 refine wpAny_call (codeAny_mono (F.run X.A X.stack s H ⟨us,[]⟩ (us++ds) (vs++dvs) Q E hr I.env0 (hb s us I.kIn hl) r2 h) fun r s' hq=>?_);cases r with
 | error e=>exact hx pins σ H s e s' I hq
 | ok fl =>
  cases fl with
  | ret u=>exact I.after hq
  | next=>exact False.elim hq
  | brk=>exact False.elim hq
  | cont=>exact False.elim hq
theorem v37 (F:FnOkM X.prog X.w X.K X.mg X.base CX k f fd ps sp) (hr:RoomM k X.A) (hg:Gl X x) (hm:X.mg x=some (.ref f)) (hk:W.keepIn X.K (.ref f)=true) (hb:Binds X.K fd ps ds) (hd:Vals dvs ds) (hx:Passes CX X E)
  (ha:PA X (e::es) t) (hdb:(x == ("__debug__" : Str))=false:=by decide) (he:starEach (e::es) X.env=(false,eval e X.env)::starEach es X.env:=by rfl) (hpl:(backTo pos (starEach es X.env)).any (·.1)=false:=by rfl) :
  PE X (.Call (.Name x p) (e::es) [] pos) (v20 sp dvs E t):=by
 intro pins s σ H Q I h;refine wpAny_Call_Name_kw (u84 I hg hm ?_ hdb)
 (refine W.callWith_K (h₀:=X.base) I.ok.mod.kin hk (thn (ha pos pins s σ H _ I h) ?_) he hpl;rintro us s1 ⟨vs,H1,I1,r,q⟩;refine ⟨I1.kIn,?_⟩)
 exact vf4 F hr hb hd hx I1 r q
end
theorem Room.markM {k:Nat} {A:Around} (r:Room k A) (v:Option Value):RoomM k (A.mark v):=⟨r.dp,r.un⟩
structure RoomG (k:Nat) (A:Around):Prop where
 room:Room k A
 gd:A.guards=some []
theorem RoomG.hd {k:Nat} {A:Around} (r:RoomG k A):A.handled=none:=r.room.hd
theorem RoomG.depth {k:Nat} {A:Around} (r:RoomG k A):A.depth < recursionLimit:=r.room.depth
theorem RoomG.deeper {k:Nat} {A:Around} (r:RoomG (k+1) A) (env:Env):RoomG k (A.deeper env):=⟨r.room.deeper env,by first | exact r.gd | rfl⟩
structure FnOkG (P:Program) (w:World) (K:W.Frag) (mg:Str->Option Value) (base:Heap) (CX:CXT) (k:Nat) (f:Addr) (fd:FuncData) (ps:List Str) (sp:Sp):Prop where
 len:∀ vs H Q E,sp vs H Q E->vs.length=ps.length
 run:∀ (A:Around) (outer:List Env) (s:Shared) (H:Hp) (args:Args) (us:List Value) (vs:List V) (Q:VK) (E:XK),RoomG k A->Env0 P w K mg base A outer s H->BindsTo s fd args (ps.zip us)->Vals vs us->sp vs H Q E ->
  codeAny (model P w) A (.call (.ref f) args) (CR CX outer P w H s Q E) s
theorem vy9 {CX:CXT} {P:Program} {w:World} {K:W.Frag} {mg:Str->Option Value} {base:Heap} {k:Nat} {f:Addr} {name qual:Str} {params:Arguments} {body:List Stmt} {scope:Scope} {dV kV doc pm cdv ct oc:Value} {an od:Option Addr}
  {osl:Array (Option Value)} {N ps:List Str} {sp:Sp} (lk:K.lookup f=some ⟨oc,od,.func (W.fnOf name qual params body scope dV kV doc pm an cdv ct),osl⟩) (hcd:W.codeIn K cdv qual=true) (S:FnScope N ps scope)
  (len:∀ vs H Q E,sp vs H Q E->vs.length=ps.length)
  (hbody:∀ (A:Around) (outer:List Env) (s:Shared) (H:Hp) (vs:List V) (Q:VK) (E:XK),RoomG k (A.deeper (envOfC qual scope s.heap.objs.size f cdv))->sp vs H Q E ->
   ∃ t,PSs (cxOf CX P w K mg base N qual scope f cdv A outer s H E) body t /\ t { nx:=fun _ H'=>Q .non H',rt:=Q } (start N vs) H) :
  FnOkG P w K mg base CX (k+1) f (W.fnOf name qual params body scope dV kV doc pm an cdv ct) ps sp:=by
 refine ⟨len,fun A outer s H args us vs Q E hr e0 hb r hsp=>?_⟩;have hl:=len _ _ _ _ hsp;have KX:K.In s.heap:=e0.mod.kin.keeps fun b o e=>(e0.bs b o e).1
 have lim:s.heap.NoLimit:=e0.mod.nolimit.keeps fun b o e=>(e0.bs b o e).1
 have hkind:∀ y ∈ ps.zip us,scope.names.lookup y.1=some .local \/ (scope.names.lookup y.1=some .cell /\ ((cellsFrom (s.heap.objs.size+1) scope.names []).lookup y.1).isSome=true):=fun ⟨n,v⟩ hy=>by
  rcases S.par n (List.of_mem_zip hy).1 with q | q
  ·exact .inl q
  ·exact .inr ⟨q,W.cellsFrom_some _ _ _ (.inl q)⟩
 refine codeAny_call_function hr.depth (KX _ _ lk) rfl S.co S.gen rfl (W.codeRec_of KX hcd) (hb _ _ _ _ ?_);refine wpAny_newFunctionEnv_cells S.kind hkind fun env he s1 x=>?_
 subst he;refine ⟨lim.keeps x.toInCall.keep,codeAny_func ?_⟩;obtain ⟨t,ht,hq⟩:=hbody A outer s H vs Q E (hr.deeper _) hsp;have I:Inv (cxOf CX P w K mg base N qual scope f cdv A outer s H E) [] (start N vs) H s1:=uj1 S hr.hd e0 hl r x;refine wpAny_mono (ht [] s1 (start N vs) H _ I hq) (fun fl s' hs=>?_) fun e s' hs=>hs
 have fin:∀ {σ':St} {H':Hp} {v:V} {u:Value},Inv (cxOf CX P w K mg base N qual scope f cdv A outer s H E) [] σ' H' s'->RelV v u->Q v H'->CE outer P w H s Q u s' :=
  fun {σ' H' v u} J rv q=>⟨v,H',J.os,J.bare,J.base,J.hok,rv,q⟩
 cases fl with
 | ret u =>
  obtain ⟨v,σ',H',J,rv,q⟩:=hs;exact fin J rv q
 | next =>
  obtain ⟨σ',H',J,q⟩:=hs;exact fin (v:=V.non) (u:=Value.none) J rfl q
 | brk =>
  obtain ⟨_,_,_,q⟩:=hs;exact False.elim q
 | cont =>
  obtain ⟨_,_,_,q⟩:=hs;exact False.elim q
theorem uw9 {P:Program} {w:World} {K:W.Frag} {mg mb:Str->Option Value} {CX:CXT} {k:Nat} {fa a:Addr} {fd:FuncData} {x:Str} {sp:Sp} {s₁:Shared} {vs:List Value} {ns:List Int}
  (KX:K.In s₁.heap) (hns:s₁.heap.Ns mainGlobals mg) (hb:s₁.heap.Ns builtinsNs mb) (hbb:∀ x:Str,x ≠ "__name__" -> mb x=bootBuiltins x) (hlim:s₁.heap.NoLimit) (hg:s₁.gens=#[])
  (ha:s₁.heap.get? a=some { cls:=.type "list",data:=.seq vs.toArray }) (hi:IntsAre vs ns) (hl:ns.length<=sizeLine) (hr:RoomG k callerA)
  (F:∀ base:Heap,K.In base->base.Ns mainGlobals mg->FnOkG P w K mg base CX k fa fd [x] sp) (hbind:∀ (s:Shared) (u:Value),BindsTo s fd ⟨[u],[]⟩ [(x,u)])
  (hsp:∀ H:Hp,Only H->SqL K H a (ns.map V.int)->sp [.ref a] H (fun v _=>v=.bl true) fun _ _ _=>False)
  (hCX:∀ H e s',CX [] H s₁ (fun _ _ _=>False) e s'->False) :
  codeAny (model P w) callerA (.call (.ref fa) ⟨[.ref a],[]⟩) (fun r s'=>r=.ok (.ret (.bool true)) /\ OldK s₁.heap s'.heap /\ s'.os=s₁.os /\ AllBare s'.gens) s₁:=by
 have rv:=uh6 hi;have lenV:=hi.length;have core:∀ H:Hp,Only H->SqL K H a (ns.map V.int)->HOk P w H s₁.heap->(∀ b,H b ≠ none->b=a)->(H a ≠ none->K.lookup a=none) ->
   codeAny (model P w) callerA (.call (.ref fa) ⟨[.ref a],[]⟩) (fun r s'=>r=.ok (.ret (.bool true)) /\ OldK s₁.heap s'.heap /\ s'.os=s₁.os /\ AllBare s'.gens) s₁:=by
  intro H hO hS hok hA hK;have base_of:∀ {b:Addr} {o:Obj},s₁.heap.get? b=some o->H b=none->(hidT s₁.heap H).get? b=some o:=fun e n=>v61 e n
  have noA:∀ {b:Addr} {o:Obj} {es:Array DictEntry} {ep:Nat},s₁.heap.get? b=some o->o.data=.dict es ep->H b=none:=fun {b o es ep} e d=>by
   cases q:H b with
   | none=>rfl
   | some u =>
    have e':b=a:=hA b (by rw [q];simp);subst e';rw [ha] at e;cases e;have d':Data.seq vs.toArray _=Data.dict es ep:=d;cases d'
  have nsK:∀ {b:Addr} {m:Str->Option Value},s₁.heap.Ns b m->(hidT s₁.heap H).Ns b m:=fun {b m} ⟨o,es,ep,e,d,r⟩=>⟨o,es,ep,base_of e (noA e d),d,r⟩
  have hKb:K.In (hidT s₁.heap H):=fun b o e=>base_of (KX b o e) (by
   cases q:H b with
   | none=>rfl
   | some u =>
    have e':b=a:=hA b (by rw [q];simp);subst e';rw [hK (by rw [q];simp)] at e;cases e)
  have hM:Mod K mg (hidT s₁.heap H):=⟨hKb,nsK hns,⟨mb,nsK hb,hbb⟩,let ⟨mc,h1,h2⟩:=hlim;⟨mc,nsK h1,h2⟩⟩;have e0:Env0 P w K mg (hidT s₁.heap H) callerA [] s₁ H:=⟨rfl,hM,fun b o e=>vh3 e,Nat.le_of_eq (uy1 _ _),trivial,fun b hb=>absurd (show b ∈ ([]:List Addr) from hb) (by simp),hok,.of_eq hg⟩;refine codeAny_mono ((F _ hKb (nsK hns)).run callerA [] s₁ H ⟨[.ref a],[]⟩ [.ref a] [.ref a] _ _ hr e0 (hbind s₁ (.ref a)) (.cons rfl .nil) (hsp H hO hS)) fun r s' h=>?_
  cases r with
  | error e=>exact (hCX H e s' h).elim
  | ok fl =>
   cases fl with
   | next=>exact False.elim h
   | brk=>exact False.elim h
   | cont=>exact False.elim h
   | ret u =>
    obtain ⟨v,H',os,bare,un,hok',r',q⟩:=h;have q':v=.bl true:=q;subst q';obtain rfl:u=Value.bool true:=r';refine ⟨rfl,OldK.of_keep fun b o e=>?_,os,bare⟩;cases q:H b with
    | none=>exact un.keep b o e q (by intro z;exact absurd (show b ∈ ([]:List Addr) from z) (by simp)) (by simp)
    | some u =>
     rcases hO b with z | ⟨ob,xs,z⟩
     ·rw [q] at z;cases z
     ·have z2:=un.frzs b ob ⟨_,by intro _ e;cases e⟩ z
      obtain ⟨e1,_⟩:=hok b _ z;obtain ⟨e2,_⟩:=hok' b _ z2;rw [e] at e1;cases e1;exact e2
 cases hk:K.lookup a with
 | some o =>
  have e:=KX a o hk;rw [ha] at e;cases e;refine core (fun _=>none) (fun _=>.inl rfl) (.inr ⟨_,vs.toArray,_,hk,rfl,rfl,rfl,by rw [List.size_toArray,lenV];exact hl,by simpa using rv⟩) (fun b u z=>by have z':(none:Option HO)=some u:=z;cases z') (fun b z=>absurd rfl z) fun z=>absurd rfl z
 | none =>
  refine core (fun b=>if b=a then some (.frz { cls:=.type "list",data:=.seq vs.toArray } (.lst (ns.map V.int))) else none) (fun b=>?_) (.inl (.inr ⟨{ cls:=.type "list",data:=.seq vs.toArray },if_pos rfl⟩)) (fun b u z=>?_) (fun b z=>?_) fun _=>hk
  ·by_cases hb:b=a
   ·exact .inr ⟨_,_,if_pos hb⟩
   ·exact .inl (if_neg hb)
  ·by_cases hb:b=a
   ·have z':=(if_pos hb).symm.trans z
    cases z';subst hb;exact ⟨ha,by rw [List.length_map];exact hl,vs,_,rv,ha⟩
   ·have z':=(if_neg hb).symm.trans z
    cases z'
  ·by_cases hb:b=a
   ·exact hb
   ·exact absurd (if_neg hb) z
theorem walk_ofG {l:W.OpenLaw} {n k:Nat} {q:Program} {loose:List Str} {XP:(Str->Option Value)->Heap->Prop} {YP:World->Heap->Prop} {d:DefRec} {K:Params->W.Frag} {CX:World->CXT} {sp:World->Sp} {x:Str}
  (hn:l.most=some n) (hn2:n<=sizeLine) (hdf:d.params.defaults=[]) (hr:RoomG k callerA)
  (hY:∀ (w:World) (h:Heap),YP w h->(K w.params).In h)
  (F:∀ (w:World) (mg:Str->Option Value) (fa:Addr) (h:Heap),(K w.params).In h->h.Ns mainGlobals mg->mg d.name=some (.ref fa) ->
   ∃ fd:FuncData,(∀ (s:Shared) (u:Value),BindsTo s fd ⟨[u],[]⟩ [(x,u)]) /\
    ∀ base:Heap,(K w.params).In base->base.Ns mainGlobals mg->FnOkG l.prog w (K w.params) mg base (CX w) k fa fd [x] (sp w))
  (hsp:∀ (w:World) (H:Hp) (a:Addr) (ns:List Int),ns.length<=n->Only H->SqL (K w.params) H a (ns.map V.int)->sp w [.ref a] H (fun v _=>v=.bl true) fun _ _ _=>False)
  (hCX:∀ (w:World) (H:Hp) (s:Shared) (e:Value) (s':Shared),CX w [] H s (fun _ _ _=>False) e s'->False) :
  W.WalkO q loose XP YP l.row.toRowW d [] (fun f vs=>PySem.call f vs):=by
 refine Att.attach_call hn hdf fun w s₀ s₁ mg mb fa o pm cd doc a vs ns G Y ho hd hcd hmg hobj hints hlen hg=>?_
 have KX:=hY w _ Y;obtain ⟨fd,hb,hF⟩:=F w mg fa _ KX G.T.g hmg;exact uw9 KX G.T.g G.T.b G.T.builtins G.T.nolimit hg hobj hints (Nat.le_trans hlen hn2) hr hF hb (fun H hO hS=>hsp w H a ns hlen hO hS) fun H e s'=>hCX w H s₁ e s'
end L2
namespace L3
open PySem PySem.Spec PyProof.Rows L2
abbrev OkM (P:Program) (w:World) {K:W.Frag} (mg:Str->Option Value) (base:Heap) (n:Nat) {x qual:Str} {st:Stmt} {ps:List Str} (d:FnAt K x qual st ps) (S:Sp3):Prop:=FnOkM P w K mg base CX0 n d.a d.fd ps (u97 K S)
abbrev OkG (P:Program) (w:World) {K:W.Frag} (mg:Str->Option Value) (base:Heap) (n:Nat) {x qual:Str} {st:Stmt} {ps:List Str} (d:FnAt K x qual st ps) (S:Sp3):Prop:=FnOkG P w K mg base CX0 n d.a d.fd ps (u97 K S)
section
variable {P:Program} {w:World} {K:W.Frag} {mg:Str->Option Value} {base:Heap}
theorem vk5 {x qual:Str} {st:Stmt} {ps N:List Str} {k:Nat} (d:FnAt K x qual st ps) {S:Sp3} (sc:FnScope N ps (u05 st)) (hl:∀ ds G R,S ds G R->ds.length=ps.length) {t:TS3}
  (ht:∀ (cdv:Value) (A:Around) (outer:List Env) (s:Shared) (H:Hp) (E:XK),RoomM k (A.deeper (envOfC qual (u05 st) s.heap.objs.size d.a cdv))->Ss3 (ur2 CX0 P w K mg base N qual (u05 st) d.a cdv A outer s H E).nox (u17 st) t)
  (hb:∀ ds G R,S ds G R->t { nx:=fun _ G'=>R .non G',rt:=R } (u69 N ds) G):OkM P w mg base (k+1) d S:=by
 obtain ⟨oc,od,dV,kV,doc,pm,an,cdv,ct,osl,e,lk,hcd⟩:=d.ex;have lk':K.lookup d.a=some ⟨oc,od,.func (W.fnOf x qual (u24 st) (u17 st) (u05 st) dV kV doc pm an cdv ct),osl⟩:=e ▸ lk;have F:FnOkM P w K mg base CX0 (k+1) d.a (W.fnOf x qual (u24 st) (u17 st) (u05 st) dV kV doc pm an cdv ct) ps (u97 K S):=by
  refine vy8 lk' hcd sc (fun vs H Q E h=>?_) fun A outer s H vs Q E hr h=>?_
  ·obtain ⟨ds,G,R,r,_,hS,_⟩:=h
   rw [<- r.length];exact hl ds G R hS
  ·obtain ⟨ds,G,R,r,c,hS,f⟩:=h
   refine ⟨_,(show PSs _ _ _ from ht cdv A outer s H E hr).nox,u69 N ds,G,_,u74 r,c,hb ds G R hS,fun σd' G' σ' H' _ c' l' q=>?_,f,fun _ _ _ _ _ _ _ q=>q.elim,fun _ _ _ _ _ _ _ q=>q.elim⟩;exact f .non G' .non H' RelD.nonI c' l' q
 have F2:=F;rw [<- e] at F2;exact F2
theorem vk6 {x qual:Str} {st:Stmt} {ps N:List Str} {k:Nat} (d:FnAt K x qual st ps) {S:Sp3} (sc:FnScope N ps (u05 st)) (hl:∀ ds G R,S ds G R->ds.length=ps.length) {t:TS3}
  (ht:∀ (cdv:Value) (A:Around) (outer:List Env) (s:Shared) (H:Hp) (E:XK),RoomG k (A.deeper (envOfC qual (u05 st) s.heap.objs.size d.a cdv))->Ss3 (cxOf CX0 P w K mg base N qual (u05 st) d.a cdv A outer s H E).nox (u17 st) t)
  (hb:∀ ds G R,S ds G R->t { nx:=fun _ G'=>R .non G',rt:=R } (u69 N ds) G):OkG P w mg base (k+1) d S:=by
 obtain ⟨oc,od,dV,kV,doc,pm,an,cdv,ct,osl,e,lk,hcd⟩:=d.ex;have lk':K.lookup d.a=some ⟨oc,od,.func (W.fnOf x qual (u24 st) (u17 st) (u05 st) dV kV doc pm an cdv ct),osl⟩:=e ▸ lk;have F:FnOkG P w K mg base CX0 (k+1) d.a (W.fnOf x qual (u24 st) (u17 st) (u05 st) dV kV doc pm an cdv ct) ps (u97 K S):=by
  refine vy9 lk' hcd sc (fun vs H Q E h=>?_) fun A outer s H vs Q E hr h=>?_
  ·obtain ⟨ds,G,R,r,_,hS,_⟩:=h
   rw [<- r.length];exact hl ds G R hS
  ·obtain ⟨ds,G,R,r,c,hS,f⟩:=h
   refine ⟨_,(show PSs _ _ _ from ht cdv A outer s H E hr).nox,u69 N ds,G,_,u74 r,c,hb ds G R hS,fun σd' G' σ' H' _ c' l' q=>?_,f,fun _ _ _ _ _ _ _ q=>q.elim,fun _ _ _ _ _ _ _ q=>q.elim⟩;exact f .non G' .non H' RelD.nonI c' l' q
 have F2:=F;rw [<- e] at F2;exact F2
end
section
variable {X:Cx} {e:Expr} {es:List Expr} {p pos:Pos} {ts:TA3} {k:Nat} {S:Sp3} {x qual:Str} {st:Stmt} {ps:List Str}
theorem ecM (d:FnAt X.K x qual st ps) (hm:X.mg x=some (.ref d.a)) (G:FnOkM X.prog X.w X.K X.mg X.base CX0 k d.a d.fd ps (u97 X.K S)) (hr:RoomM k X.A) (ha:A3 X (e::es) ts) (hg:Gl X x:=by rfl) (hdb:(x == ("__debug__" : Str))=false:=by decide)
  (he:starEach (e::es) X.env=(false,eval e X.env)::starEach es X.env:=by rfl) (hpl:(backTo pos (starEach es X.env)).any (·.1)=false:=by rfl):E3 X (.Call (.Name x p) (e::es) [] pos) (dCall S [] ts) :=
 u32 (v37 G hr hg hm d.kp d.b .nil pass0 ha hdb he hpl) fun _ _ _=>un8 fun _=>.nil
end
mutual
def toPy:D->Option PyData
 | .int i=>some (.int i)
 | .str x=>some (.str x)
 | .tup ds=>(uh7 ds).map .tuple
 | _=>none
def uh7:List D->Option (List PyData)
 | []=>some []
 | d::ds=>match toPy d,uh7 ds with
  | some p,some ps=>some (p::ps)
  | _,_=>none
end
mutual
theorem noDict:∀ {d:D} {p:PyData},toPy d=some p->p.hasDict=false
 | .int i,p,e=>by cases e;rfl
 | .str i,p,e=>by cases e;rfl
 | .tup ds,p,e=>by
  rw [toPy] at e;obtain ⟨ps,e1,rfl⟩:=Option.map_eq_some_iff.mp e;rw [PyData.hasDict];exact noDicts e1
 | .non,_,e=>by cases e
 | .bl _,_,e=>by cases e
 | .ref _,_,e=>by cases e
 | .ty _,_,e=>by cases e
theorem noDicts:∀ {ds:List D} {ps:List PyData},uh7 ds=some ps->PyData.hasDictAll ps=false
 | [],ps,e=>by cases e;rfl
 | d::ds,ps,e=>by
  rw [uh7] at e;split at e
  ·rename_i p ps' e1 e2
   cases e;rw [PyData.hasDictAll,noDict e1,noDicts e2];rfl
  ·cases e
end
def vn7:C3:=fun ds G q=>∃ (xs:List D) (p:PyData),ds=[.tup xs] /\ toPy (.tup xs)=some p /\ p.showable=true /\ p.depth<=60 /\ p.shown.length<=sizeLine /\ q (.str p.shown) G
section
variable {X:Cx} {pins:List (Addr × Obj)} {σ:L2.St} {H:Hp} {s:Shared}
mutual
theorem un1 (I:Inv X pins σ H s):∀ {d:D} {v:V} {u:Value} {p:PyData},toPy d=some p->RelD X.K H d v->RelV v u->∃ as,Reads s.heap u p as
 | .int i,v,u,p,e,r,rv=>by
  cases e;rw [RelD] at r;subst r;obtain ⟨t,rfl⟩:=rv;exact ⟨[],.int _ _⟩
 | .str i,v,u,p,e,r,rv=>by
  cases e;rw [RelD] at r;subst r;obtain ⟨t,rfl⟩:=rv;exact ⟨[],.str _ _⟩
 | .tup ds,v,u,p,e,r,rv=>by
  rw [RelD] at r;obtain ⟨a,xs,rfl,sq,r⟩:=r;cases rv;rw [toPy] at e;obtain ⟨ps,e1,rfl⟩:=Option.map_eq_some_iff.mp e;obtain ⟨its,r',tp,_⟩:=I.tuple sq;obtain ⟨o,h1,h2,n,h3⟩:=tp;obtain ⟨as,ha⟩:=ui4 I e1 r r';exact ⟨as,.tuple h1 h2 h3 (by simpa using ha)⟩
 | .non,_,_,_,e,_,_=>by cases e
 | .bl _,_,_,_,e,_,_=>by cases e
 | .ref _,_,_,_,e,_,_=>by cases e
 | .ty _,_,_,_,e,_,_=>by cases e
theorem ui4 (I:Inv X pins σ H s):∀ {ds:List D} {vs:List V} {us:List Value} {ps:List PyData},uh7 ds=some ps->RelDs X.K H ds vs->Vals vs us->∃ as,ReadsAll s.heap us ps as
 | [],vs,us,ps,e,r,rv=>by
  cases e;rw [r.inv_nil] at rv;cases rv;exact ⟨[],.nil⟩
 | d::ds,vs,us,ps,e,r,rv=>by
  obtain ⟨x,xs,rfl,r1,r2⟩:=r.inv_cons;cases rv with
  | cons q1 q2 =>
   rw [uh7] at e;split at e
   ·rename_i p ps' e1 e2
    cases e;obtain ⟨a1,h1⟩:=un1 I e1 r1 q1;obtain ⟨a2,h2⟩:=ui4 I e2 r2 q2;exact ⟨_,.cons h1 h2⟩
   ·cases e
end
theorem v83 (hg:X.A.guards=some []) {k:Nat} (hr:Room k X.A):Call3 X (.builtin "repr") vn7:=by
 intro pins s σ H xs us Q I r h;obtain ⟨ds,G,q,rd,c,⟨ys,p,rfl,e,hs,hd,hz,t⟩,f⟩:=h;obtain ⟨v,rfl,r1⟩:=rd.one;obtain ⟨u,rfl,ru⟩:=r.one;obtain ⟨as,ha⟩:=un1 I e r1 ru;have hnd:p.hasDict=true->sysModules ∉ as:=fun z=>by rw [noDict e] at z;cases z
 rw [RelD] at r1;obtain ⟨a,zs,rfl,_,_⟩:=r1;cases ru;have hun:=hr.un;refine repr_of_reads' ha hs hnd hg (by omega) (fun _ _ h=>h) (fun h' u tk hk=>?_) hz;exact ⟨.str p.shown,H,I.kept (t':=tk) hk,⟨_,rfl⟩,f _ _ _ _ (by rw [RelD]) c (Le.refl H) t⟩
end
end L3
namespace L3
open PySem PySem.Spec PyProof.Rows L2 Rw
inductive Wrg
 | tw (x:Str)
 | nb (x:Str)
 | wi (i:Nat)
def wrA (W:Nat) (bs:List Str):Atm->Option Wrg
 | .num i=>if i < 2 ^ W then none else some (.wi i)
 | .box x=>if x ∈ bs then none else some (.nb x)
def fstW (W:Nat) (bs:List Str):List Atm->Option Wrg
 | []=>none
 | a::as=>match wrA W bs a with
  | none=>fstW W bs as
  | some w=>some w
theorem ul2 {W:Nat} {bs:List Str}:∀ {a b:List Atm},fstW W bs (a++b)=match fstW W bs a with | none=>fstW W bs b | some w=>some w
 | [],b=>rfl
 | x::a,b=>by
  rw [List.cons_append,fstW,fstW];cases wrA W bs x with
  | none=>exact ul2
  | some w=>rfl
theorem u38 {W:Nat} {bs:List Str} {a b:List Atm} (h:fstW W bs a=none):fstW W bs (a++b)=fstW W bs b:=by rw [ul2,h]
theorem ug7 {W:Nat} {bs:List Str} {a b:List Atm} {w:Wrg} (h:fstW W bs a=some w):fstW W bs (a++b)=some w:=by rw [ul2,h]
mutual
def thR:Rowp->List Atm
 | .is x a=>[.box x,a]
 | .op x _ a b=>[.box x,a,b]
 | .cho a ys ns=>a::(thL ys++thL ns)
 | .tim _ ys=>thL ys
def thL:List Rowp->List Atm
 | []=>[]
 | r::rs=>thR r++thL rs
end
theorem uf8:∀ {a b:List Rowp},thL (a++b)=thL a++thL b
 | [],b=>rfl
 | r::a,b=>by rw [List.cons_append,thL,thL,uf8,List.append_assoc]
theorem us9 (r:Rowp):thR r=atsR r++((blks r).map thL).flatten:=by
 cases r <;> simp [thR,atsR,blks]
mutual
theorem vc6:∀ r:Rowp,(thR r).length<=3 * szR r
 | .is x a=>by show 2<=3 * 1;omega
 | .op x o a b=>by show 3<=3 * 1;omega
 | .cho a ys ns=>by
  have:=u61 ys;have:=u61 ns
  show (a::(thL ys++thL ns)).length<=3 * (1+szL ys+szL ns)
  rw [List.length_cons,List.length_append];omega
 | .tim k ys=>by
  have:=u61 ys
  show (thL ys).length<=3 * (1+szL ys)
  omega
theorem u61:∀ rs:List Rowp,(thL rs).length<=3 * szL rs
 | []=>Nat.zero_le _
 | r::rs=>by
  have:=vc6 r;have:=u61 rs
  show (thR r++thL rs).length<=3 * (szR r+szL rs)
  rw [List.length_append];omega
end
mutual
theorem vo9 {W:Nat} {bs:List Str}:∀ r:Rowp,okR W bs r->∀ a ∈ thR r,okA W bs a
 | .is x a,h,b,m=>by
  simp only [thR,List.mem_cons,List.not_mem_nil,or_false] at m
  rcases m with e | e <;> subst e
  ·exact h.1
  ·exact h.2
 | .op x o a c,h,b,m=>by
  simp only [thR,List.mem_cons,List.not_mem_nil,or_false] at m
  rcases m with e | e | e <;> subst e
  ·exact h.1
  ·exact h.2.2.1
  ·exact h.2.2.2
 | .cho a ys ns,h,b,m=>by
  rw [thR] at m
  rcases List.mem_cons.mp m with e | m
  ·subst e;exact h.1
  rcases List.mem_append.mp m with m | m
  ·exact uh8 ys h.2.1 b m
  ·exact uh8 ns h.2.2 b m
 | .tim k ys,h,b,m=>by rw [thR] at m;exact uh8 ys h.2 b m
theorem uh8 {W:Nat} {bs:List Str}:∀ rs:List Rowp,okL W bs rs->∀ a ∈ thL rs,okA W bs a
 | [],_,b,m=>by cases m
 | r::rs,h,b,m=>by
  rw [thL] at m
  rcases List.mem_append.mp m with m | m
  ·exact vo9 r h.1 b m
  ·exact uh8 rs h.2 b m
end
theorem va7 {W:Nat} {bs:List Str}:∀ {as:List Atm},(∀ a ∈ as,okA W bs a)->fstW W bs as=none
 | [],_=>rfl
 | a::as,h=>by
  have h1:wrA W bs a=none:=by
   have:=h a List.mem_cons_self;cases a with
   | num i=>exact if_pos this
   | box x=>exact if_pos this
  rw [fstW,h1];exact va7 fun b m=>h b (List.mem_cons_of_mem _ m)
def dupF (l:List Str):List Str->Option Wrg
 | []=>none
 | b::t=>if b ∈ l then some (.tw b) else dupF (l++[b]) t
theorem uo4:∀ {t l:List Str},(l++t).Nodup->dupF l t=none
 | [],_,_=>rfl
 | b::t,l,h=>by
  have hb:b ∉ l:=fun z=>(List.nodup_append.mp h).2.2 b z b List.mem_cons_self rfl
  rw [dupF,if_neg hb];exact uo4 (by rw [List.append_assoc];exact h)
theorem v65:∀ {t l:List Str} (bs:List Str),l++t=bs->dupF l t=match t with | []=>none | b::t'=>if b ∈ bs.take l.length then some (.tw b) else dupF (l++[b]) t'
 | [],l,bs,e=>rfl
 | b::t,l,bs,e=>by rw [dupF,<- e,List.take_left]
def wrP (W:Nat) (bs:List Str) (rs:List Rowp):Option Wrg:=match dupF [] bs with
 | none=>fstW W bs (thL rs)
 | some w=>some w
theorem vn9 {W:Nat} {bs:List Str} {rs:List Rowp} (h1:bs.Nodup) (h2:okL W bs rs):wrP W bs rs=none:=by
 unfold wrP;rw [uo4 (l:=[]) (by exact h1)];exact va7 (uh8 rs h2)
def wrD:Option Wrg->D
 | none=>.non
 | some (.tw x)=>.tup [.str "twice",.str x]
 | some (.nb x)=>.tup [.str "box",.str x]
 | some (.wi i)=>.tup [.str "wide",.int (i:Int)]
theorem v06 {m W:Nat} (h:¬ m < 2 ^ W):¬ hi m<=W:=fun z=>h (by
 unfold hi at z;split at z
 ·rename_i e;rw [e];exact Nat.two_pow_pos W
 ·rename_i h0
  exact (Nat.log2_lt h0).mp (by omega))
def RpOk (d:D) (n dd:Nat):Prop:=∃ p,toPy d=some p /\ p.showable=true /\ p.depth<=dd /\ p.bulk<=n /\ p.leavesShort 10=true
def RpsOk (ds:List D) (n dd:Nat):Prop:=∃ ps,uh7 ds=some ps /\ PyData.showableAll ps=true /\ PyData.depthAll ps<=dd /\ PyData.bulkAll ps<=n /\ PyData.leavesShortAll 10 ps=true
theorem RpOk.mono {d:D} {n m a b:Nat} (h:RpOk d n a) (h1:n<=m) (h2:a<=b):RpOk d m b:=by
 obtain ⟨p,e1,e2,e3,e4,e5⟩:=h;exact ⟨p,e1,e2,Nat.le_trans e3 h2,Nat.le_trans e4 h1,e5⟩
theorem RpsOk.mono {d:List D} {n m a b:Nat} (h:RpsOk d n a) (h1:n<=m) (h2:a<=b):RpsOk d m b:=by
 obtain ⟨p,e1,e2,e3,e4,e5⟩:=h;exact ⟨p,e1,e2,Nat.le_trans e3 h2,Nat.le_trans e4 h1,e5⟩
theorem rps_nil {a:Nat}:RpsOk [] 0 a:=⟨[],rfl,rfl,Nat.zero_le _,Nat.le_refl _,rfl⟩
theorem u16 {d:D} {ds:List D} {n m a:Nat} (h:RpOk d n a) (t:RpsOk ds m a):RpsOk (d::ds) (n+1+m) a:=by
 obtain ⟨p,e1,e2,e3,e4,e5⟩:=h;obtain ⟨ps,f1,f2,f3,f4,f5⟩:=t;refine ⟨p::ps,by rw [uh7,e1,f1],?_,?_,?_,?_⟩
 ·rw [PyData.showableAll,e2,f2];rfl
 ·rw [PyData.depthAll];omega
 ·rw [PyData.bulkAll];omega
 ·rw [PyData.leavesShortAll,e5,f5];rfl
theorem u78 {ds:List D} {n a:Nat} (h:RpsOk ds n a):RpOk (.tup ds) n (a+1):=by
 obtain ⟨ps,f1,f2,f3,f4,f5⟩:=h;refine ⟨.tuple ps,by rw [toPy,f1];rfl,?_,?_,?_,?_⟩
 ·rw [PyData.showable,f2]
 ·rw [PyData.depth];omega
 ·rw [PyData.bulk];exact f4
 ·rw [PyData.leavesShort,f5]
theorem uu0 {k a:Nat} (h:k<=65535):RpOk (.int (k:Int)) 8 a:=by
 refine ⟨.int (k:Int),rfl,?_,Nat.zero_le _,Nat.zero_le _,?_⟩
 ·rw [PyData.showable,decide_eq_true_eq]
  show ((k:Int)).natAbs.log2 < 1920
  rw [Int.natAbs_natCast]
  by_cases h0:k=0
  ·subst h0;decide
  ·exact Nat.lt_trans ((Nat.log2_lt h0).mpr (show k < 2 ^ 17 by omega)) (by decide)
 ·rw [PyData.leavesShort,decide_eq_true_eq]
  exact vv9 (k:=k) (by omega)
theorem ud8 {x:Str} {a:Nat} (h:x.cps.toList.all (fun c=>decide (c < 200))=true) (hl:x.length<=8):RpOk (.str x) 8 a:=by
 refine ⟨.str x,rfl,rfl,Nat.zero_le _,hl,?_⟩;rw [PyData.leavesShort,List.all_eq_true];intro c hc;have:=List.all_eq_true.mp h c hc;rw [decide_eq_true_eq] at this ⊢;exact Nat.lt_trans this (by decide)
theorem v23 {x:Str} {a:Nat} (h:nmB x=true):RpOk (.str x) 8 a:=by
 unfold nmB ltr at h;simp only [Bool.and_eq_true,decide_eq_true_eq] at h;refine ud8 (List.all_eq_true.mpr fun c hc=>?_) h.1.1.2;have:=List.all_eq_true.mp h.2 c hc;simp only [Bool.and_eq_true,decide_eq_true_eq] at this ⊢;omega
theorem v24 {t:Atm} {a:Nat} (h:tA t):RpOk (aD t) 8 a:=by
 cases t with
 | num i=>exact uu0 h
 | box x=>exact v23 h
theorem w34 {o:Str} {a:Nat} (h:o ∈ signs):RpOk (.str o) 8 a:=by
 simp only [signs,List.mem_cons,List.not_mem_nil,or_false] at h
 rcases h with rfl | rfl | rfl | rfl | rfl | rfl | rfl <;> exact ud8 (by decide) (by decide)
theorem rp_wd {a:Nat}:RpOk (.str "is") 8 a /\ RpOk (.str "op") 8 a /\ RpOk (.str "choose") 8 a /\ RpOk (.str "times") 8 a:=⟨ud8 (by decide) (by decide),ud8 (by decide) (by decide),ud8 (by decide) (by decide),ud8 (by decide) (by decide)⟩
mutual
theorem vq1:∀ r:Rowp,tR r->RpOk (rowD r) (60 * szR r - 1) (2 * depR r+1)
 | .is x t,h=>by
  rw [rowD];refine (u78 (a:=0) (u16 rp_wd.1 (u16 (v23 h.1) (u16 (v24 h.2) rps_nil)))).mono ?_ (by omega)
  show _<=60 * 1 - 1
  omega
 | .op x o t u,h=>by
  rw [rowD];refine (u78 (a:=0) (u16 rp_wd.2.1 (u16 (v23 h.1) (u16 (w34 h.2.1) (u16 (v24 h.2.2.1) (u16 (v24 h.2.2.2) rps_nil)))))).mono ?_ (by omega)
  show _<=60 * 1 - 1
  omega
 | .cho t ys ns,h=>by
  rw [rowD];have h1:=ub5 ys h.2.1;have h2:=ub5 ns h.2.2;have ed:depR (.cho t ys ns)=1+max (depL ys) (depL ns):=rfl;have es:szR (.cho t ys ns)=1+szL ys+szL ns:=rfl;refine (u78 (a:=2 * max (depL ys) (depL ns)+2) (u16 rp_wd.2.2.1 (u16 (v24 h.1) (u16 ((u78 h1).mono (Nat.le_refl _) (by omega)) (u16 ((u78 h2).mono (Nat.le_refl _) (by omega)) rps_nil))))).mono (by omega) (by omega)
 | .tim k ys,h=>by
  rw [rowD];have h1:=ub5 ys h.2;have hk:k<=20:=h.1;have ed:depR (.tim k ys)=1+depL ys:=rfl;have es:szR (.tim k ys)=1+szL ys:=rfl;refine (u78 (a:=2 * depL ys+2) (u16 rp_wd.2.2.2 (u16 (uu0 (by omega)) (u16 ((u78 h1).mono (Nat.le_refl _) (by omega)) rps_nil)))).mono (by omega) (by omega)
theorem ub5:∀ rs:List Rowp,tL rs->RpsOk (u07 rs) (60 * szL rs) (2 * depL rs+1)
 | [],_=>rps_nil.mono (Nat.zero_le _) (Nat.le_refl _)
 | r::rs,h=>by
  rw [u07];have h1:=vq1 r h.1;have h2:=ub5 rs h.2;have h3:=ut2 r;have ed:depL (r::rs)=max (depR r) (depL rs):=rfl;have es:szL (r::rs)=szR r+szL rs:=rfl;exact (u16 (h1.mono (Nat.le_refl _) (show _<=2 * depL (r::rs)+1 by omega)) (h2.mono (Nat.le_refl _) (show _<=2 * depL (r::rs)+1 by omega))).mono (by omega) (Nat.le_refl _)
end
theorem vq2 {a:Nat}:∀ bs:List Str,(∀ b ∈ bs,nmB b=true)->RpsOk (bs.map .str) (9 * bs.length) a
 | [],_=>rps_nil
 | b::bs,h=>(u16 (v23 (h b List.mem_cons_self)) (vq2 bs fun c hc=>h c (List.mem_cons_of_mem _ hc))).mono (by rw [List.length_cons];omega) (Nat.le_refl _)
theorem vq3 {W:Nat} {bs:List Str} {rs:List Rowp} (hW:W<=16) (hb:bs.length<=6) (hn:∀ b ∈ bs,nmB b=true) (ht:tL rs) (hd:depL rs<=5) (hs:szL rs<=60):∃ x:Str,∀ (G:Gp) (q:DK),q (.str x) G->vn7 [.tup [.int (W:Int),.tup (bs.map .str),.tup (u07 rs)]] G q:=by
 obtain ⟨p,e1,e2,e3,e4,e5⟩:=u78 (a:=20) (u16 (uu0 (k:=W) (by omega)) (u16 ((u78 (a:=0) (vq2 bs hn)).mono (Nat.le_refl _) (by omega)) (u16 ((u78 (ub5 rs ht)).mono (Nat.le_refl _) (by omega)) rps_nil)));refine ⟨p.shown,fun G q h=>⟨_,p,rfl,e1,e2,by omega,?_,h⟩⟩;exact PyData.shown_fits_bulk (B:=10) (by decide) (by decide) e5 (Nat.le_trans (m:=10000) (by omega) (by decide))
end L3
namespace Law
open PySem L2 L3
def top (i:Nat):Stmt:=PySem.Challenge.pw_nolitter_k02_the_first_wrong_thing.main.body.getD i (.Pass ⟨0,0,0,0⟩)
abbrev u37:Stmt:=inClass (top 2) 0
abbrev u71:Stmt:=inClass (top 3) 0
abbrev u56:Stmt:=inClass (top 4) 0
abbrev vf1:Stmt:=top 6
abbrev ve9:Stmt:=top 7
abbrev ve8:Stmt:=top 8
abbrev vf0:Stmt:=top 9
abbrev vf3:Stmt:=top 10
abbrev vf2:Stmt:=top 11
abbrev ve0:Stmt:=top 13
abbrev ve3:Stmt:=top 14
abbrev v22:Stmt:=top 15
abbrev ve2:Stmt:=top 16
abbrev ve7:Stmt:=top 17
abbrev vd8:Stmt:=top 18
abbrev vd7:Stmt:=top 19
abbrev vd9:Stmt:=top 20
abbrev ve1:Stmt:=top 21
abbrev vd5:Stmt:=top 22
abbrev ve6:Stmt:=top 23
abbrev vd4:Stmt:=top 24
abbrev vd6:Stmt:=top 25
abbrev ve5:Stmt:=top 26
abbrev ve4:Stmt:=top 27
abbrev vd3:Stmt:=top 28
abbrev vd2:Stmt:=top 29
local macro_rules | `(tactic| ac_nf)=>`(tactic| exact ⟨rfl,rfl,rfl,by decide,rfl,by decide,by decide⟩)
theorem u54:FnScope ["self", "name"] ["self", "name"] (u05 u37):=by ac_nf
theorem u89:FnScope ["self", "name"] ["self", "name"] (u05 u71):=by ac_nf
theorem u70:FnScope ["self", "number"] ["self", "number"] (u05 u56):=by ac_nf
theorem sc_jac:FnScope ["program", "boxes"] ["program"] (u05 vf1):=by ac_nf
theorem sc_jae:FnScope ["boxes", "ahead", "name"] ["boxes"] (u05 ve9):=by ac_nf
theorem sc_jaf:FnScope ["rows", "boxes", "wide", "row", "atom", "inner"] ["rows", "boxes", "wide"] (u05 ve8):=by ac_nf
theorem v97:FnScope ["atom", "boxes", "wide"] ["atom", "boxes", "wide"] (u05 vf0):=by ac_nf
theorem v99:FnScope ["row"] ["row"] (u05 vf3):=by ac_nf
theorem v98:FnScope ["row"] ["row"] (u05 vf2):=by ac_nf
theorem sc_jar:FnScope ["_law_script", "_law_k", "_law_cell", "_law_seed"] ["_law_script", "_law_k"] (u05 ve0):=by ac_nf
theorem sc_jao:FnScope ["_law_purse_here", "_law_many", "_law_digit"] ["_law_purse_here", "_law_many"] (u05 ve3):=by ac_nf
theorem sc_jan:FnScope ["_law_purse_here", "_law_abc", "_law_longer", "_law_size", "_law_letters", "_law_spot", "_law_first", "_law_names_here", "_law_k", "_law_name", "_law_word"] ["_law_purse_here"] (u05 v22):=by ac_nf
theorem v95:FnScope ["_law_purse_here", "_law_wide"] ["_law_purse_here", "_law_wide"] (u05 ve2):=by ac_nf
theorem v96:FnScope ["_law_purse_here", "_law_wide", "_law_boxes"] ["_law_purse_here", "_law_wide", "_law_boxes"] (u05 ve7):=by ac_nf
theorem sc_jat:FnScope ["_law_purse_here", "_law_wide", "_law_boxes", "_law_x", "_law_one"] ["_law_purse_here", "_law_wide", "_law_boxes"] (u05 vd8):=by ac_nf
theorem sc_jau:FnScope ["_law_opened", "_law_rows_here", "_law_ahead", "_law_head", "_law_often"] ["_law_opened", "_law_rows_here"] (u05 vd7):=by ac_nf
theorem sc_jas:FnScope ["_law_script", "_law_wide", "_law_boxes", "_law_most", "_law_opened", "_law_rows_here", "_law_often", "_law_left", "_law_j", "_law_purse_here", "_law_way", "_law_head", "_law_k"] ["_law_script", "_law_wide", "_law_boxes", "_law_most"] (u05 vd9):=by ac_nf
theorem sc_jaq:FnScope ["_law_script", "_law_purse_here", "_law_wide", "_law_boxes", "_law_many"] ["_law_script"] (u05 ve1):=by ac_nf
theorem sc_jaw:FnScope ["_law_atom_here", "_law_spots", "_law_seen", "_law_named", "_law_found"] ["_law_atom_here", "_law_spots", "_law_seen", "_law_named"] (u05 vd5):=by ac_nf
theorem sc_jaj:FnScope ["_law_rows_here", "_law_spots", "_law_seen", "_law_found", "_law_row", "_law_x", "_law_one", "_law_yes"] ["_law_rows_here", "_law_spots", "_law_seen"] (u05 ve6):=by ac_nf
theorem sc_jax:FnScope ["_law_rows_here", "_law_found", "_law_row"] ["_law_rows_here"] (u05 vd4):=by ac_nf
theorem sc_jav:FnScope ["_law_program_here", "_law_purse_here", "_law_many", "_law_wide", "_law_boxes", "_law_rows_here", "_law_count", "_law_spots", "_law_k", "_law_way", "_law_name", "_law_wrong", "_law_bad"] ["_law_program_here", "_law_purse_here", "_law_many"] (u05 vd6):=by ac_nf
theorem sc_jal:FnScope ["_law_program_here", "_law_wide", "_law_boxes", "_law_rows_here", "_law_k", "_law_thing"] ["_law_program_here"] (u05 ve5):=by ac_nf
theorem sc_jam:FnScope ["_law_e", "_law_own"] ["_law_e"] (u05 ve4):=by ac_nf
theorem sc_jaz:FnScope ["_law_program_here", "_law_told_here", "_law_kinds_here", "_law_e"] ["_law_program_here"] (u05 vd3):=by ac_nf
theorem sc_law:FnScope ["_law_script", "_law_program_here", "_law_purse_here", "_law_spoilt_here", "_law_due_here", "_law_before", "_law_found"] ["_law_script"] (u05 vd2):=by ac_nf
set_option genInjectivity false in
set_option genSizeOf false in
structure Txt (K:W.Frag) (mg:Str->Option Value) where
 f_TwiceNamed_init:FnAt K "__init__" "TwiceNamed.__init__" u37 ["self", "name"]
 f_NoBox_init:FnAt K "__init__" "NoBox.__init__" u71 ["self", "name"]
 f_TooWide_init:FnAt K "__init__" "TooWide.__init__" u56 ["self", "number"]
 f_jac:FnAt K "check" "check" vf1 ["program"]
 g_check:mg "check" = some (.ref f_jac.a)
 f_jae:FnAt K "check_boxes" "check_boxes" ve9 ["boxes"]
 g_check_boxes:mg "check_boxes" = some (.ref f_jae.a)
 f_jaf:FnAt K "check_rows" "check_rows" ve8 ["rows", "boxes", "wide"]
 g_check_rows:mg "check_rows" = some (.ref f_jaf.a)
 f_jad:FnAt K "check_atom" "check_atom" vf0 ["atom", "boxes", "wide"]
 g_check_atom:mg "check_atom" = some (.ref f_jad.a)
 f_jaa:FnAt K "atoms_of" "atoms_of" vf3 ["row"]
 g_atoms_of:mg "atoms_of" = some (.ref f_jaa.a)
 f_jab:FnAt K "blocks_of" "blocks_of" vf2 ["row"]
 g_blocks_of:mg "blocks_of" = some (.ref f_jab.a)
 f_jar:FnAt K "_law_purse" "_law_purse" ve0 ["_law_script", "_law_k"]
 g_law_purse:mg "_law_purse" = some (.ref f_jar.a)
 f_jao:FnAt K "_law_next" "_law_next" ve3 ["_law_purse_here", "_law_many"]
 g_law_next:mg "_law_next" = some (.ref f_jao.a)
 f_jan:FnAt K "_law_names" "_law_names" v22 ["_law_purse_here"]
 g_law_names:mg "_law_names" = some (.ref f_jan.a)
 f_jap:FnAt K "_law_number" "_law_number" ve2 ["_law_purse_here", "_law_wide"]
 g_law_number:mg "_law_number" = some (.ref f_jap.a)
 f_jai:FnAt K "_law_atom" "_law_atom" ve7 ["_law_purse_here", "_law_wide", "_law_boxes"]
 g_law_atom:mg "_law_atom" = some (.ref f_jai.a)
 f_jat:FnAt K "_law_set" "_law_set" vd8 ["_law_purse_here", "_law_wide", "_law_boxes"]
 g_law_set:mg "_law_set" = some (.ref f_jat.a)
 f_jau:FnAt K "_law_shut" "_law_shut" vd7 ["_law_opened", "_law_rows_here"]
 g_law_shut:mg "_law_shut" = some (.ref f_jau.a)
 f_jas:FnAt K "_law_rows" "_law_rows" vd9 ["_law_script", "_law_wide", "_law_boxes", "_law_most"]
 g_law_rows:mg "_law_rows" = some (.ref f_jas.a)
 f_jaq:FnAt K "_law_program" "_law_program" ve1 ["_law_script"]
 g_law_program:mg "_law_program" = some (.ref f_jaq.a)
 f_jaw:FnAt K "_law_swap" "_law_swap" vd5 ["_law_atom_here", "_law_spots", "_law_seen", "_law_named"]
 g_law_swap:mg "_law_swap" = some (.ref f_jaw.a)
 f_jaj:FnAt K "_law_bent" "_law_bent" ve6 ["_law_rows_here", "_law_spots", "_law_seen"]
 g_law_bent:mg "_law_bent" = some (.ref f_jaj.a)
 f_jax:FnAt K "_law_things" "_law_things" vd4 ["_law_rows_here"]
 g_law_things:mg "_law_things" = some (.ref f_jax.a)
 f_jav:FnAt K "_law_spoilt" "_law_spoilt" vd6 ["_law_program_here", "_law_purse_here", "_law_many"]
 g_law_spoilt:mg "_law_spoilt" = some (.ref f_jav.a)
 f_jal:FnAt K "_law_due" "_law_due" ve5 ["_law_program_here"]
 g_law_due:mg "_law_due" = some (.ref f_jal.a)
 f_jam:FnAt K "_law_kinds" "_law_kinds" ve4 ["_law_e"]
 g_law_kinds:mg "_law_kinds" = some (.ref f_jam.a)
 f_jaz:FnAt K "_law_told" "_law_told" vd3 ["_law_program_here"]
 g_law_told:mg "_law_told" = some (.ref f_jaz.a)
 f_law:FnAt K "law" "law" vd2 ["_law_script"]
 g_law:mg "law" = some (.ref f_law.a)
 e_LitterError:XL K mg "LitterError"
 e_TwiceNamed:XE K mg e_LitterError.C "TwiceNamed"
 e_NoBox:XE K mg e_LitterError.C "NoBox"
 e_TooWide:XE K mg e_LitterError.C "TooWide"
 xm_NoBox:XMk K e_NoBox.C e_LitterError.C f_NoBox_init.a
 xa_NoBox:XAttr K e_NoBox.C "name"
 ne_NoBox_TwiceNamed:e_TwiceNamed.C ≠ e_NoBox.C
 ne_NoBox_TooWide:e_TooWide.C ≠ e_NoBox.C
 xm_TooWide:XMk K e_TooWide.C e_LitterError.C f_TooWide_init.a
 xa_TooWide:XAttr K e_TooWide.C "number"
 ne_TooWide_TwiceNamed:e_TwiceNamed.C ≠ e_TooWide.C
 ne_TooWide_NoBox:e_NoBox.C ≠ e_TooWide.C
 xm_TwiceNamed:XMk K e_TwiceNamed.C e_LitterError.C f_TwiceNamed_init.a
 xa_TwiceNamed:XAttr K e_TwiceNamed.C "name"
 ne_TwiceNamed_NoBox:e_NoBox.C ≠ e_TwiceNamed.C
 ne_TwiceNamed_TooWide:e_TooWide.C ≠ e_TwiceNamed.C
 b_ValueError:mg "ValueError" = none
 b_abs:mg "abs" = none
 b_bool:mg "bool" = none
 b_int:mg "int" = none
 b_isinstance:mg "isinstance" = none
 b_len:mg "len" = none
 b_max:mg "max" = none
 b_range:mg "range" = none
 b_repr:mg "repr" = none
 b_str:mg "str" = none
 b_sum:mg "sum" = none
 b_tuple:mg "tuple" = none
end Law
namespace Law
open PySem L2 L3 Rw
section
variable {P:Program} {w:World} {K:W.Frag} {mg:Str->Option Value} {base:Heap} (T:Txt K mg)
def ur7 (_:Txt K mg):Sp3:=fun ds G R=>∃ (a:Addr) (ns:List Int) (k:Nat),ds=[.ref a,.int (k:Int)] /\ u15 (G a)=some (ns.map .int) /\ ns.length<=63 /\ k<=1000 /\ ∀ (q:Addr) (G':Gp),G q=none->PuAt G' q->Grow G G'->R (.ref q) G'
def ud2 (_:Txt K mg):Sp3:=fun ds G R=>∃ (pr:Addr) (m:Int),ds=[.ref pr,.int m] /\ PuAt G pr /\ 1<=m /\ m<=1000000 /\ ∀ (d:Int) (G':Gp),0<=d->d < m->PAdv pr G G'->R (.int d) G'
def vm7 (_:Txt K mg):Sp3:=fun ds G R=>∃ (pr:Addr),ds=[.ref pr] /\ PuAt G pr /\ ∀ (bs:List Str) (G':Gp),1<=bs.length->bs.length<=6->(∀ b ∈ bs,nmB b=true)->bs.Nodup->PAdv pr G G'->R (.tup (bs.map .str)) G'
def v79 (_:Txt K mg):Sp3:=fun ds G R=>∃ (pr:Addr) (W:Nat),ds=[.ref pr,.int (W:Int)] /\ PuAt G pr /\ W<=16 /\ ∀ (i:Nat) (G':Gp),i < 2 ^ W->PAdv pr G G'->R (.int (i:Int)) G'
def v09 (_:Txt K mg):Sp3:=fun ds G R=>∃ (pr:Addr) (W:Nat) (bs:List Str),ds=[.ref pr,.int (W:Int),.tup (bs.map .str)] /\ PuAt G pr /\ W<=16 /\ 1<=bs.length /\ bs.length<=6 /\ ∀ (a:Atm) (G':Gp),okA W bs a->PAdv pr G G'->R (aD a) G'
def v78 (_:Txt K mg):Sp3:=fun ds G R=>∃ (pr:Addr) (W:Nat) (bs:List Str),ds=[.ref pr,.int (W:Int),.tup (bs.map .str)] /\ PuAt G pr /\ W<=16 /\ 1<=bs.length /\ bs.length<=6 /\ ∀ (r:Rowp) (G':Gp),okR W bs r->wtR r=1->szR r=1->depR r=0->PAdv pr G G'->R (rowD r) G'
def v77 (_:Txt K mg):Sp3:=fun ds G R=>∃ (op rh:Addr) (f:Fr) (fs:List Fr) (rows:List Rowp),ds=[.ref op,.ref rh] /\ G op=some (.lst ((fs.map frD).reverse++[frD f])) /\ G f.p=some (.lst (u07 f.ahead)) /\ G rh=some (.lst (u07 rows)) /\ fs.length<=100 /\ rows.length<=1000 /\ f.ahead.length<=1000 /\ ∀ (q:Addr) (G':Gp),G q=none->G' q=some (.lst (u07 (shF f fs rows).2))->G' op=some (.lst (((shF f fs rows).1.map frD).reverse))->Kp op G G'->R (.ref q) G'
def vm5 (_:Txt K mg):Sp3:=fun ds G R=>∃ (a:Addr) (ns:List Int) (W:Nat) (bs:List Str) (most:Nat),ds=[.ref a,.int (W:Int),.tup (bs.map .str),.int (most:Int)] /\ u15 (G a)=some (ns.map .int) /\ ns.length<=63 /\ W<=16 /\ 1<=bs.length /\ bs.length<=6 /\ most<=60 /\ ∀ (rows:List Rowp) (G':Gp),okL W bs rows->depL rows<=5->wtL rows<=120->szL rows<=60->Grow G G'->R (.tup (u07 rows)) G'
def vm6 (_:Txt K mg):Sp3:=fun ds G R=>∃ (a:Addr) (ns:List Int),ds=[.ref a] /\ u15 (G a)=some (ns.map .int) /\ ns.length<=63 /\ ∀ (W:Nat) (bs:List Str) (rows:List Rowp) (G':Gp),1<=W->W<=16->1<=bs.length->bs.length<=6->(∀ b ∈ bs,nmB b=true)->bs.Nodup->okL W bs rows->depL rows<=5->wtL rows<=120->szL rows<=60->Grow G G'->R (.tup [.int (W:Int),.tup (bs.map .str),.tup (u07 rows)]) G'
theorem uh4 {G:Gp} {a:Addr} {ns:List Int} {k:Nat} {q:DK} (h:u15 (G a)=some (ns.map .int)) (hl:ns.length<=63) (hk:k<=1000) (c:∀ (q':Addr) (G':Gp),G q'=none->PuAt G' q'->Grow G G'->q (.ref q') G'):∃ R,ur7 T [.ref a,.int (k:Int)] G R /\ ∀ d G',R d G'->q d G' :=
 u21 (post:=fun d G'=>∃ q',d=.ref q' /\ G q'=none /\ PuAt G' q' /\ Grow G G') (fun R h'=>⟨a,ns,k,rfl,h,hl,hk,fun q' G' x y z=>h' _ _ ⟨q',rfl,x,y,z⟩⟩) fun d G' ⟨q',e,x,y,z⟩=>by subst e;exact c q' G' x y z
theorem u19 {G:Gp} {pr:Addr} {m:Int} {q:DK} (h:PuAt G pr) (h1:1<=m) (h2:m<=1000000) (c:∀ (d:Int) (G':Gp),0<=d->d < m->PAdv pr G G'->q (.int d) G'):∃ R,ud2 T [.ref pr,.int m] G R /\ ∀ d G',R d G'->q d G' :=
 u21 (post:=fun d G'=>∃ i,d=.int i /\ 0<=i /\ i < m /\ PAdv pr G G') (fun R h'=>⟨pr,m,rfl,h,h1,h2,fun i G' x y z=>h' _ _ ⟨i,rfl,x,y,z⟩⟩) fun d G' ⟨i,e,x,y,z⟩=>by subst e;exact c i G' x y z
theorem v73 {G:Gp} {pr:Addr} {W:Nat} {q:DK} (h:PuAt G pr) (h1:W<=16) (c:∀ (i:Nat) (G':Gp),i < 2 ^ W->PAdv pr G G'->q (.int (i:Int)) G'):∃ R,v79 T [.ref pr,.int (W:Int)] G R /\ ∀ d G',R d G'->q d G' :=
 u21 (post:=fun d G'=>∃ i:Nat,d=.int (i:Int) /\ i < 2 ^ W /\ PAdv pr G G') (fun R h'=>⟨pr,W,rfl,h,h1,fun i G' x y=>h' _ _ ⟨i,rfl,x,y⟩⟩) fun d G' ⟨i,e,x,y⟩=>by subst e;exact c i G' x y
theorem v04 {G:Gp} {pr:Addr} {W:Nat} {bs:List Str} {q:DK} (h:PuAt G pr) (h1:W<=16) (h2:1<=bs.length) (h3:bs.length<=6) (c:∀ (a:Atm) (G':Gp),okA W bs a->PAdv pr G G'->q (aD a) G'):∃ R,v09 T [.ref pr,.int (W:Int),.tup (bs.map .str)] G R /\ ∀ d G',R d G'->q d G' :=
 u21 (post:=fun d G'=>∃ a,d=aD a /\ okA W bs a /\ PAdv pr G G') (fun R h'=>⟨pr,W,bs,rfl,h,h1,h2,h3,fun a G' x y=>h' _ _ ⟨a,rfl,x,y⟩⟩) fun d G' ⟨a,e,x,y⟩=>by subst e;exact c a G' x y
theorem w07 {G:Gp} {pr:Addr} {W:Nat} {bs:List Str} {q:DK} (h:PuAt G pr) (h1:W<=16) (h2:1<=bs.length) (h3:bs.length<=6) (c:∀ (r:Rowp) (G':Gp),okR W bs r->wtR r=1->szR r=1->depR r=0->PAdv pr G G'->q (rowD r) G'):∃ R,v78 T [.ref pr,.int (W:Int),.tup (bs.map .str)] G R /\ ∀ d G',R d G'->q d G' :=
 u21 (post:=fun d G'=>∃ r,d=rowD r /\ okR W bs r /\ wtR r=1 /\ szR r=1 /\ depR r=0 /\ PAdv pr G G') (fun R h'=>⟨pr,W,bs,rfl,h,h1,h2,h3,fun r G' x y z u v=>h' _ _ ⟨r,rfl,x,y,z,u,v⟩⟩) fun d G' ⟨r,e,x,y,z,u,v⟩=>by subst e;exact c r G' x y z u v
theorem vb4 {G:Gp} {op rh:Addr} {f:Fr} {fs:List Fr} {rows:List Rowp} {q:DK} (h1:G op=some (.lst ((fs.map frD).reverse++[frD f]))) (h2:G f.p=some (.lst (u07 f.ahead))) (h3:G rh=some (.lst (u07 rows))) (h4:fs.length<=100) (h5:rows.length<=1000) (h6:f.ahead.length<=1000) (c:∀ (q':Addr) (G':Gp),G q'=none->G' q'=some (.lst (u07 (shF f fs rows).2))->G' op=some (.lst (((shF f fs rows).1.map frD).reverse))->Kp op G G'->q (.ref q') G'):∃ R,v77 T [.ref op,.ref rh] G R /\ ∀ d G',R d G'->q d G' :=
 u21 (post:=fun d G'=>∃ q',d=.ref q' /\ G q'=none /\ G' q'=some (.lst (u07 (shF f fs rows).2)) /\ G' op=some (.lst (((shF f fs rows).1.map frD).reverse)) /\ Kp op G G') (fun R h'=>⟨op,rh,f,fs,rows,rfl,h1,h2,h3,h4,h5,h6,fun q' G' x y z u=>h' _ _ ⟨q',rfl,x,y,z,u⟩⟩) fun d G' ⟨q',e,x,y,z,u⟩=>by subst e;exact c q' G' x y z u
def v82 (_:Txt K mg):Sp3:=fun ds G R=>∃ r:Rowp,ds=[rowD r] /\ ∀ (q:Addr) (G':Gp),G q=none->G' q=some (.lst ((atsR r).map aD))->Grow G G'->R (.ref q) G'
def v81 (_:Txt K mg):Sp3:=fun ds G R=>∃ r:Rowp,ds=[rowD r] /\ ∀ (q:Addr) (G':Gp),G q=none->G' q=some (.lst (vl4 r))->Grow G G'->R (.ref q) G'
theorem w62 {G:Gp} {r:Rowp} {q:DK} (c:∀ (q':Addr) (G':Gp),G q'=none->G' q'=some (.lst (vl4 r))->Grow G G'->q (.ref q') G'):∃ R,v81 T [rowD r] G R /\ ∀ d G',R d G'->q d G' :=
 u21 (post:=fun d G'=>∃ q',d=.ref q' /\ G q'=none /\ G' q'=some (.lst (vl4 r)) /\ Grow G G') (fun R h=>⟨r,rfl,fun q' G' x y z=>h _ _ ⟨q',rfl,x,y,z⟩⟩) fun d G' ⟨q',e,x,y,z⟩=>by subst e;exact c q' G' x y z
theorem w63 {G:Gp} {r:Rowp} {q:DK} (c:∀ (q':Addr) (G':Gp),G q'=none->G' q'=some (.lst ((atsR r).map aD))->Grow G G'->q (.ref q') G'):∃ R,v82 T [rowD r] G R /\ ∀ d G',R d G'->q d G' :=
 u21 (post:=fun d G'=>∃ q',d=.ref q' /\ G q'=none /\ G' q'=some (.lst ((atsR r).map aD)) /\ Grow G G') (fun R h=>⟨r,rfl,fun q' G' x y z=>h _ _ ⟨q',rfl,x,y,z⟩⟩) fun d G' ⟨q',e,x,y,z⟩=>by subst e;exact c q' G' x y z
def rz (T:Txt K mg) (w:Wrg) (r:XD) (G:Gp):Prop:=match w with
 | .tw x=>r T.e_TwiceNamed.C [("name",.str x)] G
 | .nb x=>r T.e_NoBox.C [("name",.str x)] G
 | .wi i=>r T.e_TooWide.C [("number",.int (i:Int))] G
def ans (T:Txt K mg) (o:Option Wrg) (R:DK) (r:XD) (G:Gp):Prop:=match o with
 | none=>R .non G
 | some w=>rz T w r G
theorem v05 {S:Spx3} {ds:List D} {G:Gp} {r:XD} {q:DK} (o:Option Wrg) (h:∀ R:DK,(∀ G',Grow G G'->ans T o R r G')->S ds G R r) (good:o=none->∀ G',Grow G G'->q .non G') (bad:∀ w,o=some w->∀ G',Grow G G'->rz T w r G'):∃ R,S ds G R r /\ ∀ d G',R d G'->q d G':=by
 cases o with
 | none=>exact up3 (post:=fun d G'=>d=.non /\ Grow G G') (fun R h'=>h R fun G' g=>h' _ _ ⟨rfl,g⟩) fun d G' ⟨e,z⟩=>by subst e;exact good rfl G' z
 | some w=>exact up3 (post:=fun _ _=>False) (fun R h'=>h R fun G' g=>bad w rfl G' g) fun d G' z=>z.elim
def vn0 (T:Txt K mg):Spx3:=fun ds G R r=>∃ (a:Atm) (bs:List Str) (W:Nat),ds=[aD a,.tup (bs.map .str),.int (W:Int)] /\ W<=16 /\ ∀ G',Grow G G'->ans T (wrA W bs a) R r G'
def v13 (T:Txt K mg) (dp:Nat):Spx3:=fun ds G R r=>∃ (rs:List Rowp) (bs:List Str) (W:Nat),ds=[.tup (u07 rs),.tup (bs.map .str),.int (W:Int)] /\ W<=16 /\ depL rs < dp /\ ∀ G',Grow G G'->ans T (fstW W bs (thL rs)) R r G'
def w12 (T:Txt K mg):Spx3:=v13 T 8
def vm9 (T:Txt K mg):Spx3:=fun ds G R r=>∃ bs:List Str,ds=[.tup (bs.map .str)] /\ bs.length<=6 /\ ∀ G',Grow G G'->ans T (dupF [] bs) R r G'
def vn1 (T:Txt K mg):Spx3:=fun ds G R r=>∃ (W:Nat) (bs:List Str) (rs:List Rowp),ds=[.tup [.int (W:Int),.tup (bs.map .str),.tup (u07 rs)]] /\ bs.length<=6 /\ W<=16 /\ depL rs<=5 /\ ∀ G',Grow G G'->ans T (wrP W bs rs) R r G'
structure PrOk (W:Nat) (bs:List Str) (rs:List Rowp):Prop where
 w1:1<=W
 w2:W<=16
 b1:1<=bs.length
 b2:bs.length<=6
 bn:∀ b ∈ bs,nmB b=true
 t:tL rs
 d:depL rs<=5
 s:szL rs<=60
def prD (W:Nat) (bs:List Str) (rs:List Rowp):D:=.tup [.int (W:Int),.tup (bs.map .str),.tup (u07 rs)]
def SpD (kvs:List (Key × D)):Prop:=∀ kv ∈ kvs,∃ a:Atm,kv.2=aD a /\ tA a
structure SnA (se:Addr) (G G':Gp):Prop where
 at_:∃ k:Int,G' se=some (.lst [.int k])
 kp:∀ b o,b ≠ se->G b=some o->G' b=some o
theorem SnA.trans {se:Addr} {G G1 G2:Gp} (a:SnA se G G1) (b:SnA se G1 G2):SnA se G G2:=⟨b.at_,fun c o h e=>b.kp c o h (a.kp c o h e)⟩
def v76 (_:Txt K mg):Sp3:=fun ds G R=>∃ (a:Atm) (sp se:Addr) (kvs:List (Key × D)) (nm:Bool) (k:Int),ds=[aD a,.ref sp,.ref se,.bl nm] /\ G sp=some (.dic kvs) /\ SpD kvs /\ G se=some (.lst [.int k]) /\ tA a /\ (nm=true->∃ x,a=.box x) /\
 ∀ (a':Atm) (G':Gp),tA a'->(nm=true->∃ x,a'=.box x)->SnA se G G'->R (aD a') G'
theorem ue4 {G:Gp} {a:Atm} {sp se:Addr} {kvs:List (Key × D)} {nm:Bool} {k:Int} {q:DK} (h1:G sp=some (.dic kvs)) (h2:SpD kvs) (h3:G se=some (.lst [.int k])) (h4:tA a) (h5:nm=true->∃ x,a=.box x)
  (c:∀ (a':Atm) (G':Gp),tA a'->(nm=true->∃ x,a'=.box x)->SnA se G G'->q (aD a') G'):∃ R,v76 T [aD a,.ref sp,.ref se,.bl nm] G R /\ ∀ d G',R d G'->q d G' :=
 u21 (post:=fun d G'=>∃ a',d=aD a' /\ tA a' /\ (nm=true->∃ x,a'=.box x) /\ SnA se G G') (fun R h'=>⟨a,sp,se,kvs,nm,k,rfl,h1,h2,h3,h4,h5,fun a' G' x y z=>h' _ _ ⟨a',rfl,x,y,z⟩⟩) fun d G' ⟨a',e,x,y,z⟩=>by subst e;exact c a' G' x y z
def ur8 (_:Txt K mg) (dp:Nat):Sp3:=fun ds G R=>∃ (rs:List Rowp) (sp se:Addr) (kvs:List (Key × D)) (k:Int),ds=[.tup (u07 rs),.ref sp,.ref se] /\ G sp=some (.dic kvs) /\ SpD kvs /\ G se=some (.lst [.int k]) /\ sp ≠ se /\ tL rs /\ depL rs < dp /\ szL rs<=60 /\
 ∀ (rs':List Rowp) (G':Gp),tL rs'->depL rs'=depL rs->szL rs'=szL rs->rs'.length=rs.length->SnA se G G'->R (.tup (u07 rs')) G'
def w11 (T:Txt K mg):Sp3:=ur8 T 8
theorem w16 {n:Nat}:Ok P w mg base n T.f_jaj (ur8 T 0):=va2 (by rintro ds G R ⟨_,_,_,_,_,_,_,_,_,_,_,h,_⟩;omega)
theorem up4 {dp:Nat} {G:Gp} {rs:List Rowp} {sp se:Addr} {kvs:List (Key × D)} {k:Int} {q:DK} (h1:G sp=some (.dic kvs)) (h2:SpD kvs) (h3:G se=some (.lst [.int k])) (hn:sp ≠ se) (h4:tL rs) (h5:depL rs < dp) (h6:szL rs<=60)
  (c:∀ (rs':List Rowp) (G':Gp),tL rs'->depL rs'=depL rs->szL rs'=szL rs->rs'.length=rs.length->SnA se G G'->q (.tup (u07 rs')) G'):∃ R,ur8 T dp [.tup (u07 rs),.ref sp,.ref se] G R /\ ∀ d G',R d G'->q d G' :=
 u21 (post:=fun d G'=>∃ rs',d=.tup (u07 rs') /\ tL rs' /\ depL rs'=depL rs /\ szL rs'=szL rs /\ rs'.length=rs.length /\ SnA se G G') (fun R h'=>⟨rs,sp,se,kvs,k,rfl,h1,h2,h3,hn,h4,h5,h6,fun rs' G' x y z u v=>h' _ _ ⟨rs',rfl,x,y,z,u,v⟩⟩) fun d G' ⟨rs',e,x,y,z,u,v⟩=>by subst e;exact c rs' G' x y z u v
def ur6 (_:Txt K mg) (dp:Nat):Sp3:=fun ds G R=>∃ rs:List Rowp,ds=[.tup (u07 rs)] /\ depL rs < dp /\ szL rs<=60 /\ ∀ (q:Addr) (G':Gp),G q=none->G' q=some (.lst ((thL rs).map aD))->Grow G G'->R (.ref q) G'
def vm3 (T:Txt K mg):Sp3:=ur6 T 8
theorem w15 {n:Nat}:Ok P w mg base n T.f_jax (ur6 T 0):=va2 (by rintro ds G R ⟨_,_,h,_⟩;omega)
theorem u93 {dp:Nat} {G:Gp} {rs:List Rowp} {q:DK} (h2:depL rs < dp) (h3:szL rs<=60) (c:∀ (q':Addr) (G':Gp),G q'=none->G' q'=some (.lst ((thL rs).map aD))->Grow G G'->q (.ref q') G'):∃ R,ur6 T dp [.tup (u07 rs)] G R /\ ∀ d G',R d G'->q d G' :=
 u21 (post:=fun d G'=>∃ q',d=.ref q' /\ G q'=none /\ G' q'=some (.lst ((thL rs).map aD)) /\ Grow G G') (fun R h=>⟨rs,rfl,h2,h3,fun q' G' x y z=>h _ _ ⟨q',rfl,x,y,z⟩⟩) fun d G' ⟨q',e,x,y,z⟩=>by subst e;exact c q' G' x y z
def vm4 (_:Txt K mg):Sp3:=fun ds G R=>∃ (W:Nat) (bs:List Str) (rs:List Rowp) (pr:Addr) (m:Nat),ds=[prD W bs rs,.ref pr,.int (m:Int)] /\ PrOk W bs rs /\ PuAt G pr /\ m<=3 /\ ∀ (bs':List Str) (rs':List Rowp) (G':Gp),PrOk W bs' rs'->PAdv pr G G'->R (prD W bs' rs') G'
def v80 (_:Txt K mg):Sp3:=fun ds G R=>∃ (W:Nat) (bs:List Str) (rs:List Rowp),ds=[prD W bs rs] /\ bs.length<=6 /\ W<=16 /\ depL rs<=5 /\ szL rs<=60 /\ ∀ G',Grow G G'->R (wrD (wrP W bs rs)) G'
def vm8 (T:Txt K mg):Sp3:=fun ds G R=>∃ (a C:Addr) (fs:List (Str × D)),ds=[.ref a] /\ G a=some (.exc C fs) /\ (C=T.e_TwiceNamed.C \/ C=T.e_NoBox.C \/ C=T.e_TooWide.C) /\ ∀ (ks:List Bool) (p:Addr) (G':Gp),ks.count true=3->ks.take 2=[true,true]->ks.length=5->G p=none->G' p=some (.lst (ks.map .bl))->Grow G G'->R (.ref p) G'
def v08 (_:Txt K mg):Sp3:=fun ds G R=>∃ (W:Nat) (bs:List Str) (rs:List Rowp),ds=[prD W bs rs] /\ bs.length<=6 /\ W<=16 /\ depL rs<=5 /\ ∀ G',Grow G G'->R (wrD (wrP W bs rs)) G'
def vm2 (_:Txt K mg):Sp3:=fun ds G R=>∃ (a:Addr) (ns:List Int),ds=[.ref a] /\ G a=some (.fro (ns.map .int)) /\ ns.length<=63 /\ ∀ G',R (.bl true) G'
theorem add_l {G:Gp} {a b:Addr} {xs ys:List D} {q:DK} (h1:G a=some (.lst xs)) (h2:G b=some (.lst ys)) (hl:xs.length+ys.length<=10000) (k:∀ p,G p=none->q (.ref p) (gup G p (.lst (xs++ys)))):xAdd (.ref a) (.ref b) G q:=by
 show (match G a,G b with | some (.lst xs),some (.lst ys)=>xs.length+ys.length<=sizeLine /\ ∀ p,G p=none->q (.ref p) (gup G p (.lst (xs++ys))) | _,_=>False)
 rw [h1,h2];exact ⟨Nat.le_trans hl (by decide),k⟩
theorem vz0 {G:Gp} {a b:Addr} {xs ys:List D} {q:DK} (h1:G a=some (.lst xs)) (h2:G b=some (.lst ys)) (hl:xs.length+ys.length<=10000) (k:q .non (gup G a (.lst (xs++ys)))):ub7 (.ref a) [.ref b] G q:=by
 show (match G a,G b with | some (.lst xs),some (.lst ys)=>xs.length+ys.length<=sizeLine /\ q .non (gup G a (.lst (xs++ys))) | _,_=>False)
 rw [h1,h2];exact ⟨Nat.le_trans hl (by decide),k⟩
theorem vz1 {G:Gp} {a:Addr} {xs ys:List D} {q:DK} (h1:G a=some (.lst xs)) (hl:xs.length+ys.length<=10000) (k:q .non (gup G a (.lst (xs++ys)))):v45 (.ref a) [.tup ys] G q:=by
 show (match G a with | some (.lst xs)=>xs.length+ys.length<=sizeLine /\ q .non (gup G a (.lst (xs++ys))) | _=>False)
 rw [h1];exact ⟨Nat.le_trans hl (by decide),k⟩
theorem vm1 {a b:Str} {G:Gp} {q:DK} (h:a.length+b.length<=10000) (k:q (.str (a++b)) G):xAdd (.str a) (.str b) G q:=by
 rw [addS];exact ⟨Nat.le_trans h (by decide),k⟩
theorem um0 (a b:Str):(a++b).length=a.length+b.length:=by rw [str_len,uz8,List.length_append,<- str_len,<- str_len]
theorem v28 {kvs:List (Key × D)} {k:Key} {a:Atm} (h:SpD kvs) (ha:tA a):SpD (ua3 kvs k (aD a)):=by
 unfold ua3;split
 ·intro kv hk
  obtain ⟨kv0,h0,rfl⟩:=List.mem_map.mp hk;split
  ·exact ⟨a,rfl,ha⟩
  ·exact h kv0 h0
 ·intro kv hk
  rcases List.mem_append.mp hk with z | z
  ·exact h kv z
  ·rw [List.mem_singleton.mp z];exact ⟨a,rfl,ha⟩
theorem uu3 (kvs:List (Key × D)) (k:Key) (v:D):(ua3 kvs k v).length<=kvs.length+1:=by
 unfold ua3;split
 ·rw [List.length_map];omega
 ·rw [List.length_append];simp
theorem vp5 (x:Str) (l u:Option Int):∀ c ∈ (Txt.slice x l u).cps.toList,c ∈ x.cps.toList:=by
 intro c hc;unfold Txt.slice at hc;split at hc
 ·exact hc
 ·have hc:c ∈ List.filterMap (fun i:Nat=>x.cps[i]?) (Builtin.Str.strSliceIndices l u 1 x.length):=by simpa using hc
  obtain ⟨i,_,e⟩:=List.mem_filterMap.mp hc;exact List.mem_of_getElem? (by rw [Array.getElem?_toList];exact e)
theorem uv7 {x:Str} (h:ltr x=true) (l u:Option Int):ltr (Txt.slice x l u)=true:=by
 unfold ltr at *;exact List.all_eq_true.mpr fun c hc=>List.all_eq_true.mp h c (vp5 x l u c hc)
theorem idx8 (n:Nat):(Builtin.Str.strSliceIndices none (some 8) 1 n).length<=8:=by
 unfold Builtin.Str.strSliceIndices sliceRange;simp only [show (1:Int) > 0 by decide,if_true,List.length_map,List.length_range]
 (split <;> (try split) <;> (try split) <;> (try simp only [Int.ediv_one]) <;> omega)
theorem sl8 (x:Str):(Txt.slice x none (some 8)).length<=8:=by
 have h:=idx8 x.length;unfold Txt.slice;split
 ·rename_i e
  simp only [Bool.and_eq_true,beq_iff_eq] at e;omega
 ·show (List.filterMap _ _).toArray.size<=8
  rw [List.size_toArray];exact Nat.le_trans (List.length_filterMap_le _ _) h
theorem vw3 {x:Str} (h:nmB x=true):ltr x=true /\ x.length<=8 /\ 1<=x.length:=by
 unfold nmB at h;simp only [Bool.and_eq_true,decide_eq_true_eq] at h;exact ⟨h.2,h.1.1.2,h.1.1.1⟩
def WD7:List Str:=["", "wide", "boxes", "choose", "else", "end", "times"]
theorem vw1 {z:Str} (h:ltr z=true) (hl:z.length<=8) (hn:z ∉ WD7):nmB z=true:=by
 have h0:z ≠ "" := fun e=>hn (by rw [e];simp [WD7])
 have h1:1<=z.length:=by
  cases e:z.length with
  | zero =>
   exfalso
   apply h0;apply vc9;rw [str_len] at e;rw [List.length_eq_zero_iff.mp e];rfl
  | succ n=>omega
 exact vw2 h1 hl (fun m=>hn (by unfold WD7;unfold WDS at m;exact List.mem_cons_of_mem _ m)) h
theorem SnA.pu {se pr:Addr} {G G':Gp} (h:PuAt G pr) (n:pr ≠ se) (a:SnA se G G'):PuAt G' pr:=by
 obtain ⟨x,y,r1,r2,r3,e⟩:=h;exact ⟨x,y,r1,r2,r3,a.kp _ _ n e⟩
theorem pwW (W:Nat):(1:Int) * 2 ^ ((W:Int)).toNat=((2 ^ W:Nat):Int):=by simp
theorem cut6 {bs:List Str} (h1:1<=bs.length) (h2:bs.length<=7):∃ bs':List Str,cutD (bs.map D.str) (some (-6)) none=bs'.map D.str /\ 1<=bs'.length /\ bs'.length<=6 /\ ∀ b ∈ bs',b ∈ bs:=by
 refine ⟨bs.drop (bs.length - 6),?_,by rw [List.length_drop];omega,by rw [List.length_drop];omega,fun b hb=>List.mem_of_mem_drop hb⟩;unfold cutD;rw [HT.sIx_none,List.length_map];have e:HT.sIx bs.length 0 (some (-6))=bs.length - 6:=by
  show (if (-6:Int) < 0 then ((-6:Int)+(bs.length:Int)).toNat else min (-6:Int).toNat bs.length)=_
  rw [if_pos (by decide)];omega
 rw [e,<- List.map_drop,List.take_of_length_le (by rw [List.length_map,List.length_drop];omega)]
theorem go_i {f:DSt->Gp->Prop} {s:DSt} {G:Gp} (h:f s G):Go f s G:=h
theorem uj6:∀ ks:List Bool,u80 (ks.map D.bl)=some ks
 | []=>rfl
 | k::ks=>by rw [List.map_cons,u80,uj6 ks];rfl
theorem w17 {n:Nat}:OkX P w mg base n T.f_jaf (v13 T 0):=⟨fun vs H Q E ⟨ds,G,R,r,rr,_,⟨_,_,_,_,_,h,_⟩,_⟩=>by omega,fun A outer s H args us vs Q E _ _ _ _ ⟨ds,G,R,r,rr,_,⟨_,_,_,_,_,h,_⟩,_⟩=>by omega⟩
theorem v15 {k:Nat}:FnOk P w K mg base CX0 (k+1) T.f_NoBox_init.a T.f_NoBox_init.fd ["self", "name"] (u82 T.e_NoBox.C "name") :=
 ue9 (L:=T.e_LitterError.C) T.f_NoBox_init u89 T.e_NoBox.xc T.xa_NoBox (fun cdv A outer s H E=>ua8 (ug2 (ug3 rfl T.e_LitterError.m T.e_LitterError.b.sp T.e_LitterError.b.rd T.e_LitterError.b.fc (u83 (pv 0) (u83 (pv 1) un2)))) (ug1 (uk5 (pv 0) (pv 1))))
theorem up5 {k:Nat}:FnOk P w K mg base CX0 (k+1) T.f_TooWide_init.a T.f_TooWide_init.fd ["self", "number"] (u82 T.e_TooWide.C "number") :=
 ue9 (L:=T.e_LitterError.C) T.f_TooWide_init u70 T.e_TooWide.xc T.xa_TooWide (fun cdv A outer s H E=>ua8 (ug2 (ug3 rfl T.e_LitterError.m T.e_LitterError.b.sp T.e_LitterError.b.rd T.e_LitterError.b.fc (u83 (pv 0) (u83 (pv 1) un2)))) (ug1 (uk5 (pv 0) (pv 1))))
theorem uf0 {k:Nat}:FnOk P w K mg base CX0 (k+1) T.f_TwiceNamed_init.a T.f_TwiceNamed_init.fd ["self", "name"] (u82 T.e_TwiceNamed.C "name") :=
 ue9 (L:=T.e_LitterError.C) T.f_TwiceNamed_init u54 T.e_TwiceNamed.xc T.xa_TwiceNamed (fun cdv A outer s H E=>ua8 (ug2 (ug3 rfl T.e_LitterError.m T.e_LitterError.b.sp T.e_LitterError.b.rd T.e_LitterError.b.fc (u83 (pv 0) (u83 (pv 1) un2)))) (ug1 (uk5 (pv 0) (pv 1))))
end
end Law
set_option compiler.extract_closed false
open PySem L2 L3 Rw in
set_option hygiene false in
local macro_rules | `(tactic| simp! [$xs,*])=>`(tactic| try simp only [dTry,w05,w04,uz6,uo9,vb2,vk7,w02,vj5,u63,v60,ug0,vl2,Int.toNat_natCast,dCall,w03,w60,List.append_nil,dSeq,vk9,dAsg,ur1,dRet,w58,dIfS,dB,dAnd,dOr,dNot,v70,dOrV,w59,dIf,dVar,dC,dOp,dUn,dNil,vl1,dTup,dLst,dCB,dSl,vk8,ul5,dBM,dBM0,dAug,dFld,w57,w61,dYes,uk9,jSub,jSeq,vj4,jNil,vo7,w26,wAny,dFor,xSub,xDiv,xMod,xPow,xShl,xShr,xAnd,xOr,xXor,v58,tyD,u69,ue1,List.map_cons,List.map_nil,List.cons_append,List.nil_append,List.length_cons,List.length_nil,List.replicate,List.getElem?_cons_zero,List.getElem?_cons_succ,List.set_cons_zero,List.set_cons_succ,Nat.reduceAdd,Nat.reduceSub,Nat.sub_self,u88,ut6,u01,Option.bind_some,Option.bind_none,id,Bool.false_eq_true,if_true,if_false,reduceIte,true_and,and_true,decide_true,decide_false,Bool.not_true,Bool.not_false,w09,w67,w66,w65,w64,vy1,vy0,vx9,vy3,vy2,vn3,vn2,$xs,*])
open L3 in
set_option hygiene false in
local macro_rules | `(tactic| dsimp! [$xs,*])=>`(tactic| (simp only [Go];simp! [$xs,*]))
namespace Law
open PySem L2 L3 Rw
section
variable {P:Program} {w:World} {K:W.Frag} {mg:Str->Option Value} {base:Heap} (T:Txt K mg)
theorem vv5 {n:Nat} (G_jae:OkX P w mg base (n+0) T.f_jae (vm9 T)) (G_jaf:OkX P w mg base (n+0) T.f_jaf (w12 T)):OkX P w mg base (n+1) T.f_jac (vn1 T):=by
 refine uh0 T.f_jac sc_jac (fun ds G R r h=>?_) (fun cdv A outer s H E r hr =>
   (u02 (u09 1 sc_jac.nd (e_ix x_ix (ev 0) u04))
   (u02 (u59 (ecX u47 T.f_jae T.g_check_boxes G_jae hr (u00 (ev 1) u03)))
   (u06 (u59 (ecX u47 T.f_jaf T.g_check_rows G_jaf hr (u00 (e_ix x_ix (ev 0) u04) (u00 (ev 1) (u00 (e_ix x_ix (ev 0) u04) u03))))))))) (fun ds G R r h=>?_)
 ·obtain ⟨W,bs,rs,rfl,_⟩:=h;rfl
 ·obtain ⟨W,bs,rs,rfl,hl,hW,hd,post⟩:=h
  simp! [id];dsimp! [id];refine v05 T (dupF [] bs) (fun R h=>⟨bs,rfl,hl,h⟩) (fun e G1 g1=>?_) fun w e G1 g1=>?_
  ·have e1:wrP W bs rs=fstW W bs (thL rs):=by unfold wrP;rw [e]
   rw [e1] at post;simp! [id];dsimp! [id];refine v05 T (fstW W bs (thL rs)) (fun R h=>⟨rs,bs,W,rfl,hW,by omega,h⟩) (fun e2 G2 g2=>?_) fun w e2 G2 g2=>?_
   ·have:=post _ (g1.trans g2)
    rw [e2] at this;simp! [id];exact this
   ·have:=post _ (g1.trans g2)
    rw [e2] at this;exact this
  ·have e1:wrP W bs rs=some w:=by unfold wrP;rw [e]
   rw [e1] at post;exact post _ g1
theorem vv3 {n:Nat}:OkX P w mg base (n+3) T.f_jae (vm9 T):=by
 refine uh0 T.f_jae sc_jae (fun ds G R r h=>?_) (fun cdv A outer s H E r hr =>
   (u02 (u09 1 sc_jae.nd uz0)
   (u06 (ub4 (ul1 (ev 0)) (u29 2 sc_jae.nd) (u02 (s_if (u20 (w23 hr) (ev 2) (ev 1) (by with_unfolding_all rfl)) (u06 (uk3 T.xm_TwiceNamed (uf0 T) hr T.f_TwiceNamed_init.b T.e_TwiceNamed.m (u00 (ev 2) u03))) u25)
   (u06 (uk4 hr (ev 1) (ev 2) e_bl))) (hp:=uf1 u47))))) (fun ds G R r h=>?_)
 ·obtain ⟨bs,rfl,_⟩:=h;rfl
 ·obtain ⟨bs,rfl,hl,post⟩:=h
  simp! [vl0];intro p hp;dsimp! [id];refine u34 (fun r σ G'=>∃ (l t:List Str) (kvs:List (Key × D)) (v2:Option D),l++t=bs /\ r=t.map .str /\ G'=gup G p (.dic kvs) /\ kvs.length=l.length /\ (∀ x,(valK kvs (.inr x)).isSome=decide (x ∈ l)) /\ dupF [] bs=dupF l t /\ σ=[some (.tup (bs.map .str)),some (.ref p),v2]) ⟨[],bs,[],none,rfl,rfl,rfl,rfl,fun _=>rfl,rfl,rfl⟩ ?_ ?_
  ·rintro σ G1 ⟨l,t,kvs,v2,e,e2,rfl,hk,hv,ed,rfl⟩
   have ht:t=[]:=by
    cases t with
    | nil=>rfl
    | cons x t=>cases e2
   subst ht;refine ⟨trivial,?_⟩;have:=post _ (Grow.refl.new (o:=.dic kvs) hp);rw [ed] at this;exact this
  ·rintro x r σ G1 ⟨l,t,kvs,v2,e,e2,rfl,hk,hv,ed,rfl⟩ ih
   cases t with
   | nil=>cases e2
   | cons b t =>
    cases e2;refine ⟨trivial,?_⟩;have hlen:=congrArg List.length e;rw [List.length_append,List.length_cons] at hlen;simp! [id];refine ⟨.inr b,kvs,p,rfl,rfl,u01,?_⟩;rw [hv b]
    by_cases hb:b ∈ l
    ·rw [decide_eq_true hb]
     rw [dupF,if_pos hb] at ed;have:=post _ (Grow.refl.new (o:=.dic kvs) hp);rw [ed] at this;simp! [id];exact this
    rw [decide_eq_false hb];rw [dupF,if_neg hb] at ed;simp! [id];dsimp! [v69];refine ⟨p,kvs,.inr b,rfl,rfl,u01,Nat.lt_of_le_of_lt (m:=1000) (by omega) (by decide),?_⟩;rw [uy4];have hnone:valK kvs (.inr b)=none:=by
     have:=hv b;rw [decide_eq_false hb] at this;exact Option.isNone_iff_eq_none.mp (by rw [<- Option.not_isSome,this];rfl)
    have ep:ua3 kvs (.inr b) (.bl true)=kvs++[(.inr b,.bl true)]:=uu2 hnone;refine ih _ _ ⟨l++[b],t,_,_,by rw [<- e];simp,rfl,rfl,by rw [ep,List.length_append,List.length_append,hk];rfl,fun y=>?_,ed,rfl⟩;rw [ep]
    by_cases hy2:b=y
    ·subst hy2
     rw [decide_eq_true (by simp)];unfold valK at hnone ⊢;rw [Option.map_eq_none_iff] at hnone;rw [List.find?_append,hnone];simp
    ·by_cases hy:y ∈ l
     ·rw [decide_eq_true (by simp [hy])]
      have:=hv y;rw [decide_eq_true hy] at this;unfold valK at this ⊢;rw [List.find?_append];cases hf:kvs.find? (fun kv=>decide (kv.1=Sum.inr y)) with
      | none=>rw [hf] at this;cases this
      | some z=>rfl
     ·rw [decide_eq_false (by simp [hy];exact fun z=>hy2 z.symm)]
      have hn:valK kvs (.inr y)=none:=by
       have:=hv y;rw [decide_eq_false hy] at this;exact Option.isNone_iff_eq_none.mp (by rw [<- Option.not_isSome,this];rfl)
      rw [us7 hn hy2];rfl
theorem vv2 {n dp:Nat} (G_jaf:OkX P w mg base (n+0) T.f_jaf (v13 T dp)) (G_jad:OkX P w mg base (n+0) T.f_jad (vn0 T)) (G_jaa:Ok P w mg base (n+0) T.f_jaa (v82 T)) (G_jab:Ok P w mg base (n+0) T.f_jab (v81 T)):OkX P w mg base (n+1) T.f_jaf (v13 T (dp+1)):=by
 refine uh0 T.f_jaf sc_jaf (fun ds G R r h=>?_) (fun cdv A outer s H E r hr =>
   (u06 (ub4 (ul1 (ev 0)) (u29 3 sc_jaf.nd) (u02 (ub4 (ul1 (ec T.f_jaa T.g_atoms_of G_jaa hr (u00 (ev 3) u03))) (u29 4 sc_jaf.nd) (u06 (u59 (ecX u47 T.f_jad T.g_check_atom G_jad hr (u00 (ev 4) (u00 (ev 1) (u00 (ev 2) u03)))))) (hp:=uf1 u47))
   (u06 (ub4 (ul1 (ec T.f_jab T.g_blocks_of G_jab hr (u00 (ev 3) u03))) (u29 5 sc_jaf.nd) (u06 (u59 (ecX u47 T.f_jaf T.g_check_rows G_jaf hr (u00 (ev 5) (u00 (ev 1) (u00 (ev 2) u03)))))) (hp:=uf1 u47)))) (hp:=uf1 u47)))) (fun ds G R r h=>?_)
 ·obtain ⟨rs,bs,W,rfl,_⟩:=h;rfl
 ·obtain ⟨rs,bs,W,rfl,hW,hd,post⟩:=h
  simp! [id];refine u34 (fun r σ G'=>∃ (l t:List Rowp) (v3 v4 v5:Option D),l++t=rs /\ r=u07 t /\ Grow G G' /\ fstW W bs (thL l)=none /\ σ=[some (.tup (u07 rs)),some (.tup (bs.map .str)),some (.int (W:Int)),v3,v4,v5]) ⟨[],rs,none,none,none,rfl,rfl,Grow.refl,rfl,rfl⟩ ?_ ?_
  ·rintro σ G1 ⟨l,t,v3,v4,v5,e,e2,g,ef,rfl⟩
   have ht:t=[]:=by
    cases t with
    | nil=>rfl
    | cons x t=>cases e2
   subst ht;rw [List.append_nil] at e;subst e;have:=post _ g;rw [ef] at this;exact ⟨trivial,this⟩
  ·rintro x r' σ G1 ⟨l,t,v3,v4,v5,e,e2,g,ef,rfl⟩ ih
   cases t with
   | nil=>cases e2
   | cons r0 t =>
    cases e2;refine ⟨trivial,?_⟩;have hm:r0 ∈ rs:=by rw [<- e];simp
    have hdr:=ub6 (Nat.le_of_lt_succ hd) r0 hm;have hth:thL rs=thL l++(thR r0++thL t):=by rw [<- e,uf8];rfl
    have hbad:∀ (w:Wrg) (G':Gp),fstW W bs (thR r0)=some w->Grow G G'->rz T w r G':=fun w G' h1 h2=>by
     have:=post _ h2;rw [hth,u38 ef,ug7 h1] at this;exact this
    simp! [id];refine w63 T fun q G2 f2 k2 g2=>?_
    simp! [k2,u88];generalize hN:Go (dFor _ _ _ _)=N;have r1:∀ (G3:Gp) (v4:Option D),fstW W bs (atsR r0)=none->Grow G2 G3->N [some (.tup (u07 rs)),some (.tup (bs.map .str)),some (.int (W:Int)),some (rowD r0),v4,v5] G3:=by
     intro G3 v4 ea g3;rw [<- hN];clear hN N;dsimp! [id];refine w62 T fun q' G4 f4 k4 g4=>?_
     simp! [k4,u88];generalize hFL:forL (fun _=>True) _ _ _ (u07 t)=FL at ih ⊢;refine u34 (fun r σ G'=>∃ (bl bt:List (List Rowp)) (v5:Option D),bl++bt=blks r0 /\ r=bt.map (fun ys=>D.tup (u07 ys)) /\ Grow G4 G' /\ fstW W bs ((bl.map thL).flatten)=none /\ σ=[some (.tup (u07 rs)),some (.tup (bs.map .str)),some (.int (W:Int)),some (rowD r0),v4,v5]) ⟨[],blks r0,v5,rfl,rfl,Grow.refl,rfl,rfl⟩ ?_ ?_
     ·rintro σ G5 ⟨bl,bt,v5,eb,eb2,g5,eb3,rfl⟩
      have ht:bt=[]:=by
       cases bt with
       | nil=>rfl
       | cons x t=>cases eb2
      subst ht;rw [List.append_nil] at eb;subst eb;refine ⟨by rw [g5.kp _ _ k4];rfl,?_⟩;exact ih _ _ ⟨l++[r0],t,_,_,_,by rw [<- e];simp,rfl,(((g.trans g2).trans g3).trans g4).trans g5,by rw [uf8,u38 ef];show fstW W bs (thR r0++[])=none;rw [List.append_nil,us9,u38 ea];exact eb3,rfl⟩
     ·rintro x r' σ G5 ⟨bl,bt,v5,eb,eb2,g5,eb3,rfl⟩ ih2
      cases bt with
      | nil=>cases eb2
      | cons b0 bt =>
       cases eb2;refine ⟨by rw [g5.kp _ _ k4];rfl,?_⟩;have hb0:b0 ∈ blks r0:=by rw [<- eb];simp
       have hdb:=v74 b0 hb0;simp! [id];refine v05 T (fstW W bs (thL b0)) (fun R h=>⟨b0,bs,W,rfl,hW,by omega,h⟩) (fun e5 G6 g6=>?_) fun w e5 G6 g6=>?_
       ·simp! [id]
        exact ih2 _ _ ⟨bl++[b0],bt,some (.tup (u07 b0)),by rw [<- eb];simp,rfl,g5.trans g6,by rw [List.map_append,List.flatten_append,u38 eb3];show fstW W bs (thL b0++[])=none;rw [List.append_nil];exact e5,rfl⟩
       ·refine hbad w G6 ?_ ((((g.trans g2).trans g3).trans g4).trans (g5.trans g6))
        rw [us9,u38 ea,<- eb,List.map_append,List.flatten_append,u38 eb3];exact ug7 e5
    refine u34 (fun r σ G'=>∃ (al at':List Atm) (v4:Option D),al++at'=atsR r0 /\ r=at'.map aD /\ Grow G2 G' /\ fstW W bs al=none /\ σ=[some (.tup (u07 rs)),some (.tup (bs.map .str)),some (.int (W:Int)),some (rowD r0),v4,v5]) ⟨[],atsR r0,v4,rfl,rfl,Grow.refl,rfl,rfl⟩ ?_ ?_
    ·rintro σ G3 ⟨al,at',v4,ea,ea2,g3,ea3,rfl⟩
     have ht:at'=[]:=by
      cases at' with
      | nil=>rfl
      | cons x t=>cases ea2
     subst ht;rw [List.append_nil] at ea;subst ea;refine ⟨by rw [g3.kp _ _ k2];rfl,?_⟩;exact r1 _ v4 ea3 g3
    ·rintro x r' σ G3 ⟨al,at',v4,ea,ea2,g3,ea3,rfl⟩ ih2
     cases at' with
     | nil=>cases ea2
     | cons a0 at' =>
      cases ea2;refine ⟨by rw [g3.kp _ _ k2];rfl,?_⟩;simp! [id];refine v05 T (wrA W bs a0) (fun R h=>⟨a0,bs,W,rfl,hW,h⟩) (fun e5 G6 g6=>?_) fun w e5 G6 g6=>?_
      ·simp! [id]
       exact ih2 _ _ ⟨al++[a0],at',some (aD a0),by rw [<- ea];simp,rfl,g3.trans g6,by rw [u38 ea3,fstW,e5];rfl,rfl⟩
      ·refine hbad w G6 ?_ ((g.trans g2).trans (g3.trans g6))
       rw [us9];refine ug7 ?_;rw [<- ea,u38 ea3,fstW,e5]
theorem vv4 {n:Nat}:OkX P w mg base (n+3) T.f_jad (vn0 T):=by
 refine uh0 T.f_jad v97 (fun ds G R r h=>?_) (fun cdv A outer s H E r hr =>
   (u06 (s_if (up9 (u13 u85 rfl T.b_isinstance (by decide) (u00 (ev 0) (u00 (ue2 (T := "str") T.b_str (by decide)) u03)))) (u06 (s_if (u20 (uk1 hr) (ev 0) (ev 1) (by with_unfolding_all rfl)) (u06 (uk3 T.xm_NoBox (v15 T) hr T.f_NoBox_init.b T.e_NoBox.m (u00 (ev 0) u03))) u25)) (u06 (s_if (u20 (x_gt) (ug9 (ev 0)) (ev 2) (nomark _)) (u06 (uk3 T.xm_TooWide (up5 T) hr T.f_TooWide_init.b T.e_TooWide.m (u00 (ev 0) u03))) u25))))) (fun ds G R r h=>?_)
 ·obtain ⟨a,bs,W,rfl,_⟩:=h;rfl
 ·obtain ⟨a,bs,W,rfl,hW,post⟩:=h
  have post:=post G Grow.refl;cases a with
  | num i =>
   simp! [aD];refine ⟨.inr (.inl trivial),?_⟩;rw [show subK "int" "str" = false from rfl,if_neg Bool.false_ne_true]
   show (fun x G1=>xGt x (D.int (W:Int)) G1 fun x G1=>_) (D.int (Builtin.Int.intBits (i:Int):Int)) G
   by_cases ha:i < 2 ^ W
   ·have hb:Builtin.Int.intBits (i:Int)<=W:=by rw [uy2];exact v62 ha
    have d1:((Builtin.Int.intBits (i:Int):Int) > (W:Int))=False:=eq_false (by omega);simp! [d1];rw [wrA,if_pos ha] at post;exact post
   ·have hb:¬ Builtin.Int.intBits (i:Int)<=W:=by rw [uy2];exact v06 ha
    have d1:((Builtin.Int.intBits (i:Int):Int) > (W:Int))=True:=eq_true (by omega);simp! [d1];rw [wrA,if_neg ha] at post;exact post
  | box x =>
   simp! [aD];refine ⟨.inr (.inl trivial),?_⟩;rw [show subK "str" "str" = true from rfl,if_pos rfl];refine ua4 ?_;rw [if_pos rfl]
   by_cases ha:x ∈ bs
   ·rw [decide_eq_true ha]
    rw [wrA,if_pos ha] at post;exact post
   ·rw [decide_eq_false ha]
    rw [wrA,if_neg ha] at post;simp! [id];exact post
theorem vv7 {n:Nat}:Ok P w mg base (n+1) T.f_jaa (v82 T):=by
 refine u43 T.f_jaa v99 (fun ds G R h=>?_) (fun cdv A outer s H E hr =>
   (u02 (s_if (u20 (x_eq hr) (e_ix x_ix (ev 0) u04) u12 (nomark _)) (u06 (u26 (u28 (u00 (e_ix x_ix (ev 0) u04) (u00 (e_ix x_ix (ev 0) u04) u03))))) u25)
   (u02 (s_if (u20 (x_eq hr) (e_ix x_ix (ev 0) u04) u12 (nomark _)) (u06 (u26 (u28 (u00 (e_ix x_ix (ev 0) u04) (u00 (e_ix x_ix (ev 0) u04) (u00 (e_ix x_ix (ev 0) u04) u03)))))) u25)
   (u02 (s_if (u20 (x_eq hr) (e_ix x_ix (ev 0) u04) u12 (nomark _)) (u06 (u26 (u28 (u00 (e_ix x_ix (ev 0) u04) u03)))) u25)
   (u06 (u26 (u28 u03))))))) (fun ds G R h=>?_)
 ·obtain ⟨r,rfl,_⟩:=h;rfl
 ·obtain ⟨r,rfl,post⟩:=h
  cases r with
  | is x a =>
   simp! [rowD];exact ⟨by decide,fun p hp=>post p _ hp u01 (Grow.refl.new hp)⟩
  | op x o a b =>
   simp! [rowD];dsimp! [id];exact ⟨by decide,fun p hp=>post p _ hp u01 (Grow.refl.new hp)⟩
  | cho a ys ns =>
   simp! [rowD];dsimp! [id];dsimp! [id];exact ⟨by decide,fun p hp=>post p _ hp u01 (Grow.refl.new hp)⟩
  | tim k ys =>
   simp! [rowD];dsimp! [id];dsimp! [id];dsimp! [id];exact ⟨by decide,fun p hp=>post p _ hp u01 (Grow.refl.new hp)⟩
theorem vv6 {n:Nat}:Ok P w mg base (n+1) T.f_jab (v81 T):=by
 refine u43 T.f_jab v98 (fun ds G R h=>?_) (fun cdv A outer s H E hr =>
   (u02 (s_if (u20 (x_eq hr) (e_ix x_ix (ev 0) u04) u12 (nomark _)) (u06 (u26 (u28 (u00 (e_ix x_ix (ev 0) u04) (u00 (e_ix x_ix (ev 0) u04) u03))))) u25)
   (u02 (s_if (u20 (x_eq hr) (e_ix x_ix (ev 0) u04) u12 (nomark _)) (u06 (u26 (u28 (u00 (e_ix x_ix (ev 0) u04) u03)))) u25)
   (u06 (u26 (u28 u03)))))) (fun ds G R h=>?_)
 ·obtain ⟨r,rfl,_⟩:=h;rfl
 ·obtain ⟨r,rfl,post⟩:=h
  cases r with
  | is x a =>
   simp! [rowD];dsimp! [id];dsimp! [id];exact ⟨by decide,fun p hp=>post p _ hp u01 (Grow.refl.new hp)⟩
  | op x o a b =>
   simp! [rowD];dsimp! [id];dsimp! [id];exact ⟨by decide,fun p hp=>post p _ hp u01 (Grow.refl.new hp)⟩
  | cho a ys ns =>
   simp! [rowD];exact ⟨by decide,fun p hp=>post p _ hp u01 (Grow.refl.new hp)⟩
  | tim k ys =>
   simp! [rowD];dsimp! [id];exact ⟨by decide,fun p hp=>post p _ hp u01 (Grow.refl.new hp)⟩
theorem vu3 {n:Nat}:Ok P w mg base (n+1) T.f_jar (ur7 T):=by
 refine u43 T.f_jar sc_jar (fun ds G R h=>?_) (fun cdv A outer s H E hr =>
   (u02 (u09 2 sc_jar.nd (u10 u35 (u10 ua1 (u13 vn6 rfl T.b_abs (by decide) (u00 (u13 w19 rfl T.b_sum (by decide) (u00 (e_sl x_sl (ev 0) ua0 (u79 u04)) u03)) u03)) u04) (u10 ua1 u04 (ev 1))))
   (u02 (s_if (u20 (x_lt) (ev 1) (u13 uf3 rfl T.b_len (by decide) (u00 (ev 0) u03)) (nomark _)) (u06 (u09 2 sc_jar.nd (u13 vn6 rfl T.b_abs (by decide) (u00 (e_ix x_ix (ev 0) (ev 1)) u03)))) u25)
   (u02 (u09 3 sc_jar.nd (u10 ua2 (u10 u35 (u10 u35 (u10 ua1 (u10 ua2 (ev 2) u04) u04) (u10 ua1 u04 (ev 1))) u04) u04))
   (u02 (u09 3 sc_jar.nd (u10 ua2 (u10 ua1 (ev 3) (u10 u35 (u10 u35 (u10 vn5 (ev 3) u04) (ev 1)) u04)) u04))
   (u06 (u26 (u28 (u00 (u10 ua1 (ev 2) (u45 uf2 rfl T.b_int (by decide) (u00 (ul4 (x_ge) (ev 2) (u10 w20 u04 u04) (nomark _)) u03))) (u00 (ev 3) u03)))))))))) (fun ds G R h=>?_)
 ·obtain ⟨a,ns,k,rfl,_⟩:=h;rfl
 ·obtain ⟨a,ns,k,rfl,ha,hl,hk,post⟩:=h
  simp! [ha];intro p hp;have hcut:cutD (ns.map D.int) none (some 63)=(ns.take 63).map .int:=by
   have e:cutD (ns.map D.int) none (some 63)=ns.map D.int:=by
    unfold cutD;have h1:HT.sIx (ns.map D.int).length 0 none=0:=rfl;have h2:HT.sIx (ns.map D.int).length (ns.map D.int).length (some 63)=(ns.map D.int).length:=by
     unfold HT.sIx;rw [List.length_map];simp only [];split <;> omega
    rw [h1,h2,Nat.sub_zero,List.drop_zero,List.take_length]
   rw [e,List.take_of_length_le (by omega)]
  rw [hcut];refine ur9 (by rw [u01];rfl) ?_;have g1:Grow G (gup G p (.lst ((ns.take 63).map .int))):=Grow.refl.new hp;obtain ⟨G1,hG1⟩:∃ G1,G1=gup G p (.lst ((ns.take 63).map .int)):=⟨_,rfl⟩;rw [<- hG1] at g1 ⊢;have ha1:=u58 g1 ha;simp! [xAbs];refine ⟨uj3 (by decide) (by decide),uj4 (by decide) (by decide),?_⟩;dsimp! [ha1];generalize hN1:Go (dSeq (dAsg (dOp (uf6 _ _) (dOp xAdd _ _) _) _) _ _)=N1;have r1:∀ c:Int,0<=c->N1 [some (.ref a),some (.int (k:Int)),some (.int c),none] G1:=by
   intro c hc;rw [<- hN1];dsimp! [id];obtain ⟨e,he⟩:∃ e:Int,e=(c % 2147483629 * 48271+7919 * (k:Int)+13) % 2147483629:=⟨_,rfl⟩;have e1:0<=e:=by rw [he];exact Int.emod_nonneg _ (by decide)
   have e2:e < 2147483629:=by rw [he];exact Int.emod_lt_of_pos _ (by decide)
   refine ⟨by decide,uj3 (by decide) (by decide),uj4 (by decide) (by decide),by decide,?_⟩;rw [<- he];dsimp! [id];have b1:=Int.ediv_nonneg e1 (b:=7) (by decide);have b2:e / 7<=e:=Int.ediv_le_self _ e1;obtain ⟨e',he'⟩:∃ e':Int,e'=e * (e / 7+(k:Int)+1) % 2147483587:=⟨_,rfl⟩;have e3:0<=e':=by rw [he'];exact Int.emod_nonneg _ (by decide)
   have e4:e' < 2147483587:=by rw [he'];exact Int.emod_lt_of_pos _ (by decide)
   refine ⟨⟨by decide,by decide⟩,uj4 e1 (by omega),by decide,?_⟩;rw [<- he'];have cp:CPow 10 18:=⟨by decide,by decide,by decide⟩;dsimp! [cp];refine ⟨?_,by decide,fun q hq=>post q _ (g1.none hq) ⟨_,e',?_,e3,by omega,u01⟩ (g1.new hq)⟩
   ·split <;> exact uj3 (by decide) (by decide)
   ·split <;> omega
  refine uc0 (fun h0=>?_) (fun _=>r1 _ (by split <;> omega));rw [List.length_map] at h0;have hk2:k < ns.length:=by omega
  rw [show atI (ns.map D.int) (k:Int)=some (.int ns[k]) from u50 (by rw [List.getElem?_map,List.getElem?_eq_getElem hk2];rfl)];simp! [xAbs];exact r1 _ (by split <;> omega)
theorem vu6 {n:Nat}:Ok P w mg base (n+1) T.f_jao (ud2 T):=by
 refine u43 T.f_jao sc_jao (fun ds G R h=>?_) (fun cdv A outer s H E hr =>
   (u02 (s_if (u20 (x_gt) (e_ix x_ix (ev 0) u04) u04 (nomark _)) (u02 (u09 2 sc_jao.nd (u10 ua2 (e_ix x_ix (ev 0) u04) (ev 1)))
   (u02 (ui2 (u10 vn5 (e_ix x_ix (ev 0) u04) (ev 1)) (ux5 (ev 0) u04 us1))
   (u06 (u26 (ev 2))))) u25)
   (u02 (ui2 (u10 ua2 (u10 u35 (u10 ua1 (e_ix x_ix (ev 0) u04) u04) u04) u04) (ux5 (ev 0) u04 us1))
   (u06 (u26 (u10 ua2 (u10 ua2 (u10 ua1 (e_ix x_ix (ev 0) u04) (u10 u35 (u10 ua2 (e_ix x_ix (ev 0) u04) u04) u04)) u04) (ev 1))))))) (fun ds G R h=>?_)
 ·obtain ⟨pr,m,rfl,_⟩:=h;rfl
 ·obtain ⟨pr,m,rfl,⟨x,y,hx,hy,hy2,hp⟩,h1,h2,post⟩:=h
  simp! [hp];refine uc0 (fun h0=>?_) (fun h0=>?_)
  ·simp! [hp]
   refine ⟨by omega,?_⟩;dsimp! [hp];refine ⟨⟨by omega,by omega⟩,?_⟩;dsimp! [id];refine post (x % m) _ (Int.emod_nonneg _ (by omega)) (Int.emod_lt_of_pos _ (by omega)) ⟨⟨x / m,y,Int.ediv_nonneg hx (by omega),hy,hy2,u01⟩,fun c o hc e=>by rw [u08 hc];exact e⟩
  ·dsimp! [hp]
   refine ⟨uj3 (by decide) (by decide),by decide,?_⟩;obtain ⟨y',hy'⟩:∃ y':Int,y'=(y * 69621+104729) % 2147483587:=⟨_,rfl⟩;have b1:0<=y':=by rw [hy'];exact Int.emod_nonneg _ (by decide)
   have b2:y' < 2147483587:=by rw [hy'];exact Int.emod_lt_of_pos _ (by decide)
   rw [<- hy'];dsimp! [u01];have b3:=Int.emod_nonneg y' (b:=16807) (by decide);have b4:=Int.emod_lt_of_pos y' (b:=16807) (by decide);refine ⟨by decide,uj3 (by omega) (by omega),by decide,by omega,?_⟩;exact post _ _ (Int.emod_nonneg _ (by omega)) (Int.emod_lt_of_pos _ (by omega)) ⟨⟨x,y',hx,b1,by omega,u01⟩,fun c o hc e=>by rw [u08 hc];exact e⟩
theorem vu7 {n:Nat} (G_jao:Ok P w mg base n T.f_jao (ud2 T)):Ok P w mg base (n+1) T.f_jan (vm7 T):=by
 refine u43 T.f_jan sc_jan (fun ds G R h=>?_) (fun cdv A outer s H E hr =>
   (u02 (u09 1 sc_jan.nd u12)
   (u02 (u09 2 sc_jan.nd (ec T.f_jao T.g_law_next G_jao hr (u00 (ev 0) (u00 u04 u03))))
   (u02 (u09 3 sc_jan.nd (u10 u35 u04 (ec T.f_jao T.g_law_next G_jao hr (u00 (ev 0) (u00 (u10 up6 u04 (ev 2)) u03)))))
   (u02 (vp7 4 sc_jan.nd (N':=["_law_k", "_law_abc", "_law_purse_here"]) (ix:=[none,some 1,some 0]) (blk (osc:=u05 v22) (N:=["_law_purse_here", "_law_abc", "_law_longer", "_law_size", "_law_letters", "_law_spot", "_law_first", "_law_names_here", "_law_k", "_law_name", "_law_word"]) rfl rfl (by decide)) (uj2 rfl T.b_range (u00 (ev 3) u03)) (fun _ _ _ _=>(u29 0 (show (["_law_k", "_law_abc", "_law_purse_here"]:List Str).Nodup by decide))) (fun _ _ _ _=>vj8) (fun _ _ _ _=>(e_ix x_ix (ev 1) (ec T.f_jao T.g_law_next G_jao hr (u00 (ev 2) (u00 u04 u03))))))
   (u02 (u09 5 sc_jan.nd (ec T.f_jao T.g_law_next G_jao hr (u00 (ev 0) (u00 (ev 3) u03))))
   (u02 (u09 6 sc_jan.nd (ec T.f_jao T.g_law_next G_jao hr (u00 (ev 0) (u00 u04 u03))))
   (u02 (u09 7 sc_jan.nd (u28 u03))
   (u02 (ub4 (uj2 rfl T.b_range (u00 (u10 u35 u04 (ec T.f_jao T.g_law_next G_jao hr (u00 (ev 0) (u00 u04 u03)))) u03)) (u29 8 sc_jan.nd) (u02 (ui2 (e_ix x_ix (ev 1) (u10 ua2 (u10 u35 (ev 6) (u10 ua1 u04 (ev 8))) u04)) (ux5 (ev 4) (ev 5) us1))
   (u02 (u09 9 sc_jan.nd (u10 u35 (vz3 u12 (u00 (ev 4) u03)) (u10 vn4 u12 (u10 ua1 (ev 2) (u10 ua2 (ev 8) u04)))))
   (u02 (s_if (u20 (x_in hr) (ev 9) (u44 (u00 u12 (u00 u12 (u00 u12 (u00 u12 (u00 u12 (u00 u12 u03))))))) (by with_unfolding_all rfl)) (u06 (u09 9 sc_jan.nd (u10 u35 (ev 9) u12))) u25)
   (u06 (u59 (u92 (ev 7) (u00 (ev 9) u03))))))))
   (u02 (u09 10 sc_jan.nd (e_ix x_ix (u28 (u00 u12 (u00 u12 (u00 u12 (u00 u12 (u00 u12 (u00 u12 (u00 u12 (u00 u12 (u00 u12 (u00 u12 u03))))))))))) (ec T.f_jao T.g_law_next G_jao hr (u00 (ev 0) (u00 u04 u03)))))
   (u02 (s_if (t_w (w_and (u20 (x_eq hr) (ec T.f_jao T.g_law_next G_jao hr (u00 (ev 0) (u00 u04 u03))) u04 (nomark _)) (u87 (u20 (uk1 hr) (ev 10) (ev 7) (by with_unfolding_all rfl))))) (u06 (ui2 (ev 10) (ux5 (ev 7) (e_un v17 u04) us1))) u25)
   (u06 (u26 (u45 u68 rfl T.b_tuple (by decide) (u00 (ev 7) u03))))))))))))))) (fun ds G R h=>?_)
 ·obtain ⟨pr,rfl,_⟩:=h;rfl
 ·obtain ⟨pr,rfl,P0,post⟩:=h
  simp! [id];dsimp! [id];refine u19 T P0 (by decide) (by decide) fun lo G1 l1 l2 a1=>?_
  simp! [id];dsimp! [id];refine u19 T a1.at_ (by omega) (by omega) fun x G2 x1 x2 a2=>?_
  obtain ⟨sz,hsz⟩:∃ sz:Nat,1+x=(sz:Int):=⟨(1+x).toNat,by omega⟩;have A2:=a1.trans a2;simp! [hsz];dsimp! [id];refine ⟨by omega,fun p hp=>?_⟩;have npr:=A2.at_.ne hp
  have fp:G p=none:=A2.fresh hp npr;have abc:∀ i:Int,0<=i->i < 26->∃ c,atI (Str.ofString "abcdefghijklmnopqrstuvwxyz").cps.toList i=some c:=fun i h1 h2=>⟨_,ul8 h1 (by exact h2)⟩
  have hab:(Str.ofString "abcdefghijklmnopqrstuvwxyz").length<=sizeLine:=by decide
  generalize hN1:Go (dSeq _ _ _)=N1;refine uz9 (fun r σ G'=>∃ (j c:Nat) (ws:List Str) (v:Option D),j+c=sz /\ r=rngD (j:Int) c /\ PAdv pr G G' /\ G' p=some (.lst (ws.map .str)) /\ ws.length=j /\ (∀ w ∈ ws,w.length=1 /\ ltr w=true) /\ σ=[v,some (.str (Str.ofString "abcdefghijklmnopqrstuvwxyz")),some (.ref pr)]) ⟨0,sz,[],none,by omega,rfl,A2.grow (Grow.refl.new hp),u01,rfl,by simp,rfl⟩ ?_ ?_
  ·rintro σ G3 ⟨j,c,ws,v,e,e2,A3,k3,hl,hw,rfl⟩
   have hc0:c=0:=by
    cases c with
    | zero=>rfl
    | succ n=>rw [u33] at e2;cases e2
   refine ⟨trivial,?_⟩;rw [<- hN1];dsimp! [id];refine u19 T A3.at_ (by omega) (by omega) fun sp G4 s1 s2 a4=>?_
   have A4:=A3.trans a4;have k4:=a4.kp _ _ npr k3;simp! [id];dsimp! [id];refine u19 T A4.at_ (by decide) (by decide) fun fi G5 f1 f2 a5=>?_
   have A5:=A4.trans a5;have k5:=a5.kp _ _ npr k4;simp! [id];dsimp! [id];refine ⟨by decide,fun q hq=>?_⟩;have nq:=A5.at_.ne hq
   have fq:G q=none:=A5.fresh hq nq;have npq:p ≠ q:=gne k5 hq;have A6:=A5.grow (Grow.refl.new (o:=.lst []) hq);have k6:gup G5 q (.lst []) p=some (.lst (ws.map .str)):=by rw [u08 npq];exact k5
   dsimp! [id];refine u19 T A6.at_ (by decide) (by decide) fun m G7 m1 m2 a7=>?_
   have A7:=A6.trans a7;have k7:=a7.kp _ _ npr k6;have kq7:=a7.kp _ _ nq u01;obtain ⟨mm,hmm⟩:∃ mm:Nat,1+m=(mm:Int):=⟨(1+m).toNat,by omega⟩;simp! [hmm];refine ⟨by omega,?_⟩;generalize hN2:Go (dSeq _ _ _)=N2;refine u34 (fun r σ G'=>∃ (i c:Nat) (ws bs:List Str) (v8 v9:Option D),i+c=mm /\ r=rngD (i:Int) c /\ PAdv pr G G' /\ G' p=some (.lst (ws.map .str)) /\ G' q=some (.lst (bs.map .str)) /\ ws.length=sz /\ (∀ w ∈ ws,w.length=1 /\ ltr w=true) /\ bs.length=i /\ (∀ b ∈ bs,nmB b=true) /\ (∀ (t:Nat) (b:Str),bs[t]?=some b->b.cps[sp.toNat]?=some (97+((fi+5 * (t:Int)) % 26).toNat)) /\ σ=[some (.ref pr),some (.str (Str.ofString "abcdefghijklmnopqrstuvwxyz")),some (.int lo),some (.int (sz:Int)),some (.ref p),some (.int sp),some (.int fi),some (.ref q),v8,v9,none]) ⟨0,mm,ws,[],none,none,by omega,rfl,A7,k7,kq7,by omega,hw,rfl,by simp,by simp,rfl⟩ ?_ ?_
   ·rintro σ G8 ⟨i,c,ws,bs,v8,v9,e,e2,A8,k8,kq8,hl,hw,hbl,hb,hat,rfl⟩
    have hc0:c=0:=by
     cases c with
     | zero=>rfl
     | succ n=>rw [u33] at e2;cases e2
    refine ⟨trivial,?_⟩;rw [<- hN2];dsimp! [id];refine ⟨by decide,fun p3 hp3=>?_⟩;have n3:=A8.at_.ne hp3
    obtain ⟨wl,hwl⟩:∃ wl:List Str,wl=[Str.ofString "ends",Str.ofString "elseif",Str.ofString "wider",Str.ofString "boxesa",Str.ofString "timesx",Str.ofString "chooser",Str.ofString "is",Str.ofString "op",Str.ofString "en",Str.ofString "tim"]:=⟨_,rfl⟩;have hwb:∀ w ∈ wl,nmB w=true:=by rw [hwl];decide
    have hwn:wl.length=10:=by rw [hwl];rfl
    rw [show [D.str "ends",D.str "elseif",D.str "wider",D.str "boxesa",D.str "timesx",D.str "chooser",D.str "is",D.str "op",D.str "en",D.str "tim"]=wl.map D.str by rw [hwl];rfl];have A9:=A8.grow (Grow.refl.new (o:=.lst (wl.map .str)) hp3);refine u19 T A9.at_ (by decide) (by decide) fun t1 G10 u1 u2 a10=>?_
    have A10:=A9.trans a10;have k10:=a10.kp _ _ n3 u01;have kq10:=a10.kp _ _ nq (by rw [u08 (gne kq8 hp3)];exact kq8);obtain ⟨wd,hwd,hwm⟩:∃ wd,atI (wl.map D.str) t1=some (.str wd) /\ nmB wd=true:=by
     have hlt:t1.toNat < wl.length:=by omega
     refine ⟨wl[t1.toNat],?_,hwb _ (List.getElem_mem hlt)⟩;have:=vl8 (f:=D.str) (xs:=wl) u1 (by omega);exact this
    simp! [k10,hwd];dsimp! [id];generalize hN3:Go (dRet (dCB u86 _) _)=N3;have r3:∀ (bs:List Str) (G11:Gp),PAdv pr G G11->G11 q=some (.lst (bs.map .str))->1<=bs.length->bs.length<=6->(∀ b ∈ bs,nmB b=true)->bs.Nodup->N3 [some (.ref pr),some (.str (Str.ofString "abcdefghijklmnopqrstuvwxyz")),some (.int lo),some (.int (sz:Int)),some (.ref p),some (.int sp),some (.int fi),some (.ref q),v8,v9,some (.str wd)] G11:=by
     intro bs G11 A11 kq11 h1 h2 hb hnd;rw [<- hN3];dsimp! [kq11];exact post bs _ h1 h2 hb hnd A11
    have hnd:=v41 (by omega) hat;refine u19 T A10.at_ (by decide) (by decide) fun t2 G12 w1 w2 a12=>?_
    have A12:=A10.trans a12;have kq12:=a12.kp _ _ nq kq10;have hso:∀ l:List Str,strsOf (l.map D.str)=some l:=by
     intro l
     induction l with
     | nil=>rfl
     | cons w l ih=>show (strsOf (l.map D.str)).map (w::·)=_;rw [ih];rfl
    simp! [id];refine uc0 (fun _=>?_) (fun _=>r3 bs G12 A12 kq12 (by omega) (by omega) hb hnd);unfold xInB;simp only [kq12,u15,hso];simp! [kq12]
    by_cases hwin:wd ∈ bs
    ·rw [if_neg (by simp [hwin])]
     exact r3 bs G12 A12 kq12 (by omega) (by omega) hb hnd
    rw [if_pos (by simp [hwin])];have hix:ixN (bs.map D.str).length (-1)=some (bs.length - 1):=by
     unfold ixN;rw [List.length_map,if_neg (by decide),if_pos (by omega)]
     congr 1
     omega
    rw [hix];refine r3 (bs.set (bs.length - 1) wd) _ (A12.own fq nq) (by rw [u01,List.map_set]) (by rw [List.length_set];omega) (by rw [List.length_set];omega) (fun b hb'=>?_) (uv3 _ hnd hwin)
    rcases List.mem_or_eq_of_mem_set hb' with h | h
    ·exact hb b h
    ·rw [h];exact hwm
   ·rintro z r σ G8 ⟨i,c,ws,bs,v8,v9,e,e2,A8,k8,kq8,hl,hw,hbl,hb,hat,rfl⟩ ih
    cases c with
    | zero=>cases e2
    | succ c =>
     rw [u33] at e2;cases e2;refine ⟨trivial,?_⟩;simp! [id];have hch:=vb5 (x:=(fi+5 * (i:Int)) % 26) (Int.emod_nonneg _ (by decide)) (Int.emod_lt_of_pos _ (by decide));generalize hch2:97+((fi+5 * (i:Int)) % 26).toNat=ch at hch;refine ⟨uj4 (by decide) (by decide),by decide,hab,?_⟩;rw [hch];have hix:ixN (ws.map D.str).length sp=some sp.toNat:=ux7 s1 (by rw [List.length_map];omega);simp! [k8,hix];obtain ⟨ws2,hws2⟩:∃ ws2,ws2=ws.set sp.toNat ⟨#[ch]⟩:=⟨_,rfl⟩;have hset:(ws.map D.str).set sp.toNat (.str ⟨#[ch]⟩)=ws2.map .str:=by rw [hws2,List.map_set]
     have hl2:ws2.length=sz:=by rw [hws2,List.length_set];exact hl
     have hw3:∀ w ∈ ws2,w.length=1 /\ ltr w=true:=by
      intro w hw';rw [hws2] at hw'
      rcases List.mem_or_eq_of_mem_set hw' with h | h
      ·exact hw w h
      ·rw [h];exact ⟨rfl,uv8 ⟨by omega,by omega⟩⟩
     have hw2:∀ w ∈ ws2,w.length=1:=fun w h=>(hw3 w h).1
     rw [hset];obtain ⟨G9,hG9⟩:∃ G9,G9=gup G8 p (.lst (ws2.map .str)):=⟨_,rfl⟩;have A9:PAdv pr G G9:=by rw [hG9];exact A8.own fp npr
     have k9:G9 p=some (.lst (ws2.map .str)):=by rw [hG9,u01]
     have kq9:G9 q=some (.lst (bs.map .str)):=by rw [hG9,u08 (Ne.symm npq)];exact kq8
     rw [<- hG9];have hsum:(ws2.map Str.length).sum=sz:=by
      have:∀ l:List Str,(∀ w ∈ l,w.length=1)->(l.map Str.length).sum=l.length:=by
       intro l
       induction l with
       | nil=>intro _;rfl
       | cons w l ih=>intro h;rw [List.map_cons,List.sum_cons,h w (List.mem_cons_self ..),ih fun v hv=>h v (List.mem_cons_of_mem _ hv),List.length_cons];omega
      rw [this ws2 hw2,hl2]
     have hjl:(jn Str.empty ws2).length=sz:=by rw [vx6,hsum]
     have hfold:Builtin.Str.tooLong ((ws2.toArray).foldl (·+·.length+Str.empty.length) 0)=false:=by
      have:∀ (l:List Str) (n:Nat),(∀ w ∈ l,w.length=1)->l.foldl (·+·.length+Str.empty.length) n=n+l.length:=by
       intro l
       induction l with
       | nil=>intro n _;rfl
       | cons w l ih=>intro n h;rw [List.foldl_cons,ih _ fun v hv=>h v (List.mem_cons_of_mem _ hv),h w (List.mem_cons_self ..),List.length_cons];show n+1+0+l.length=_;omega
      rw [List.foldl_toArray,this ws2 0 hw2,hl2];unfold Builtin.Str.tooLong;exact decide_eq_false (Nat.not_lt.mpr (Nat.le_of_lt (Nat.lt_of_le_of_lt (m:=1000) (by omega) (by decide))))
     dsimp! [id];refine ⟨Str.empty,p,ws2,rfl,rfl,by rw [k9];rfl,hfold,by rw [hjl];exact Nat.le_of_lt (Nat.lt_of_le_of_lt (m:=1000) (by omega) (by decide)),?_⟩;simp! [id];refine ⟨by decide,uj4 l1 (by omega),Str.ofString "a",lo * ((i:Int) % 2),rfl,rfl,?_,?_⟩
     ·have h1:lo=0 \/ lo=1:=by omega
      have h2:(i:Int) % 2=0 \/ (i:Int) % 2=1:=by omega
      rcases h1 with h1 | h1 <;> rcases h2 with h2 | h2 <;> simp [h1,h2]
     obtain ⟨sa,hsa,hsal,hsl⟩:∃ sa:Str,(if lo * ((i:Int) % 2)=0 then Str.empty else Str.ofString "a")=sa /\ (sa.length:Int)<=lo /\ ltr sa=true:=by
      refine ⟨_,rfl,?_,?_⟩
      ·by_cases h1:lo=0
       ·rw [if_pos (by rw [h1,Int.zero_mul]),h1];decide
       ·have h2:lo=1:=by omega
        rw [h2];split <;> decide
      ·split <;> decide
     rw [hsa];have happ:∀ a b:Str,(a++b).length=a.length+b.length:=fun a b=>by
      show (a.cps++b.cps).size=_
      rw [Array.size_append];rfl
     simp! [id];refine ⟨Nat.le_of_lt (Nat.lt_of_le_of_lt (m:=1000) (by rw [hjl];omega) (by decide)),?_⟩;obtain ⟨nm,hnm⟩:∃ nm,nm=jn Str.empty ws2++sa:=⟨_,rfl⟩;have hnl:nm.length<=8:=by rw [hnm,happ,hjl];omega
     have hnl1:1<=nm.length:=by rw [hnm,happ,hjl];omega
     have hnlt:ltr nm=true:=by rw [hnm,u96,vw7 ws2 fun w h=>(hw3 w h).2,hsl];rfl
     rw [<- hnm];dsimp! [id];generalize hN4:Go (ur1 (dBM "list" ub8 (dVar 7) _) _)=N4;have hj0:(jn Str.empty ws2).cps[sp.toNat]?=some ch:=w52 hw2 (by rw [hws2,List.getElem?_set_self (by omega)]);have r4:∀ nm:Str,nmB nm=true->nm.cps[sp.toNat]?=some ch->N4 [some (.ref pr),some (.str (Str.ofString "abcdefghijklmnopqrstuvwxyz")),some (.int lo),some (.int (sz:Int)),some (.ref p),some (.int sp),some (.int fi),some (.ref q),some (.int (i:Int)),some (.str nm),none] G9:=by
      intro nm hnm hcp;rw [<- hN4];dsimp! [kq9];refine ⟨by rw [List.length_map];exact Nat.lt_of_le_of_lt (m:=4000) (by omega) (by decide),ih _ _ ⟨i+1,c,ws2,bs++[nm],_,_,by omega,by congr 1,A9.own fq nq,by rw [u08 npq];exact k9,by rw [u01,List.map_append];rfl,hl2,hw3,by simp [hbl],?_,?_,rfl⟩⟩
      rotate_left
      ·intro t b hb'
       rcases Nat.lt_or_ge t bs.length with z | z
       ·rw [List.getElem?_append_left z] at hb'
        exact hat t b hb'
       ·rw [List.getElem?_append_right z] at hb'
        have z2:t=bs.length:=by
         have:=(List.getElem?_eq_some_iff.mp hb').1;simp at this;omega
        subst z2;have e3:nm=b:=by simpa using hb'
        rw [<- e3,hcp,<- hch2,hbl]
      intro b hb'
      rcases List.mem_append.mp hb' with h | h
      ·exact hb b h
      ·rw [List.mem_singleton.mp h];exact hnm
     refine ⟨by decide,?_⟩;refine uc0 (fun hin=>?_) (fun hin=>r4 nm (vw2 hnl1 hnl hin hnlt) (by rw [hnm];exact v07 hj0));refine ⟨Nat.le_of_lt (Nat.lt_of_le_of_lt (m:=1000) (by have:(Str.ofString "q").length=1:=rfl;omega) (by decide)),?_⟩;exact r4 _ (nm_q hin) (v07 (by rw [hnm];exact v07 hj0))
  ·rintro z r σ G3 ⟨j,c,ws,v,e,e2,A3,k3,hl,hw,rfl⟩ ih
   cases c with
   | zero=>cases e2
   | succ c =>
    rw [u33] at e2;cases e2;refine ⟨trivial,?_⟩;simp! [id];refine u19 T A3.at_ (by decide) (by decide) fun y G4 y1 y2 a4=>?_
    have hch:=vb5 y1 y2;generalize hch2:97+y.toNat=ch at hch;have k4:=a4.kp _ _ npr k3;simp! [id];refine ⟨hab,?_⟩;rw [hch];simp! [k4];refine ⟨by rw [List.length_map];exact Nat.lt_of_le_of_lt (m:=4000) (by omega) (by decide),ih _ _ ⟨j+1,c,ws++[⟨#[ch]⟩],_,by omega,by congr 1,(A3.trans a4).own fp npr,by rw [u01,List.map_append];rfl,by simp [hl],?_,rfl⟩⟩;intro w hw'
    rcases List.mem_append.mp hw' with h | h
    ·exact hw w h
    ·rw [List.mem_singleton.mp h];exact ⟨rfl,uv8 ⟨by omega,by omega⟩⟩
theorem vu5 {n:Nat} (G_jao:Ok P w mg base n T.f_jao (ud2 T)):Ok P w mg base (n+1) T.f_jap (v79 T):=by
 refine u43 T.f_jap v95 (fun ds G R h=>?_) (fun cdv A outer s H E hr =>
   (u06 (u26 (u10 ua2 (e_ix x_ix (u28 (u00 u04 (u00 u04 (u00 (u10 up6 (u10 uk0 u04 (ev 1)) u04) (u00 (ec T.f_jao T.g_law_next G_jao hr (u00 (ev 0) (u00 (u10 uk0 u04 (ev 1)) u03))) u03))))) (ec T.f_jao T.g_law_next G_jao hr (u00 (ev 0) (u00 u04 u03)))) (u10 uk0 u04 (ev 1)))))) (fun ds G R h=>?_)
 ·obtain ⟨pr,W,rfl,_⟩:=h;rfl
 ·obtain ⟨pr,W,rfl,P0,hW,post⟩:=h
  have cw:CPow 1 (W:Int):=w06 (by omega) (by omega);have hp1:(2:Nat) ^ W<=2 ^ 16:=Nat.pow_le_pow_right (by decide) hW;have hp0:1<=(2:Nat) ^ W:=Nat.one_le_two_pow;have ew:(1:Int) * 2 ^ W=((2 ^ W:Nat):Int):=by simp
  simp! [id];refine ⟨cw,cw,?_⟩;rw [ew];refine u19 T P0 (by omega) (by omega) fun x G1 x1 x2 a1=>?_
  simp! [id];refine ⟨by decide,fun p hp=>?_⟩;have n1:=a1.at_.ne hp
  have A2:=a1.grow (Grow.refl.new (o:=.lst [.int 0,.int 1,.int (((2 ^ W:Nat):Int) - 1),.int x]) hp);refine u19 T A2.at_ (by decide) (by decide) fun y G2 y1 y2 a2=>?_
  have k2:=a2.kp _ _ n1 u01;obtain ⟨v,hv⟩:∃ v:Int,atI [D.int 0,.int 1,.int (((2 ^ W:Nat):Int) - 1),.int x] y=some (.int v):=by
   have:y=0 \/ y=1 \/ y=2 \/ y=3:=by omega
   rcases this with e | e | e | e <;> subst e
   ·exact ⟨_,rfl⟩
   ·exact ⟨_,rfl⟩
   ·exact ⟨_,rfl⟩
   ·exact ⟨_,rfl⟩
  simp! [k2,hv];refine ⟨cw,?_⟩
  try rw [ew]
  have b1:=Int.emod_nonneg v (b:=((2 ^ W:Nat):Int)) (by omega);have b2:=Int.emod_lt_of_pos v (b:=((2 ^ W:Nat):Int)) (by omega);obtain ⟨i,hi⟩:=Int.eq_ofNat_of_zero_le b1;rw [hi] at b2 ⊢;exact ⟨by omega,post i _ (by omega) (A2.trans a2)⟩
theorem vv1 {n:Nat} (G_jao:Ok P w mg base n T.f_jao (ud2 T)) (G_jap:Ok P w mg base n T.f_jap (v79 T)):Ok P w mg base (n+1) T.f_jai (v09 T):=by
 refine u43 T.f_jai v96 (fun ds G R h=>?_) (fun cdv A outer s H E hr =>
   (u02 (s_if (u20 (x_eq hr) (ec T.f_jao T.g_law_next G_jao hr (u00 (ev 0) (u00 u04 u03))) u04 (nomark _)) (u06 (u26 (ec T.f_jap T.g_law_number G_jap hr (u00 (ev 0) (u00 (ev 1) u03))))) u25)
   (u06 (u26 (e_ix x_ix (ev 2) (ec T.f_jao T.g_law_next G_jao hr (u00 (ev 0) (u00 (u13 uf3 rfl T.b_len (by decide) (u00 (ev 2) u03)) u03)))))))) (fun ds G R h=>?_)
 ·obtain ⟨pr,W,bs,rfl,_⟩:=h;rfl
 ·obtain ⟨pr,W,bs,rfl,P0,hW,hb1,hb2,post⟩:=h
  simp! [id];refine u19 T P0 (by decide) (by decide) fun x G1 _ _ a1=>?_
  simp! [id];refine uc0 (fun _=>?_) (fun _=>?_)
  ·refine v73 T a1.at_ hW fun i G2 hi a2=>?_
   exact post (.num i) _ hi (a1.trans a2)
  ·dsimp! [List.length_map]
   refine u19 T a1.at_ (by omega) (by omega) fun y G2 y1 y2 a2=>?_
   obtain ⟨j,rfl⟩:=Int.eq_ofNat_of_zero_le y1;have hj:j < bs.length:=by omega
   have hat:atI (bs.map D.str) (j:Int)=some (.str bs[j]):=u50 (by rw [List.getElem?_map,List.getElem?_eq_getElem hj];rfl);simp! [hat];exact post (.box bs[j]) _ (List.getElem_mem hj) (a1.trans a2)
theorem vu1 {n:Nat} (G_jao:Ok P w mg base n T.f_jao (ud2 T)) (G_jai:Ok P w mg base n T.f_jai (v09 T)):Ok P w mg base (n+1) T.f_jat (v78 T):=by
 refine u43 T.f_jat sc_jat (fun ds G R h=>?_) (fun cdv A outer s H E hr =>
   (u02 (u09 3 sc_jat.nd (e_ix x_ix (ev 2) (ec T.f_jao T.g_law_next G_jao hr (u00 (ev 0) (u00 (u13 uf3 rfl T.b_len (by decide) (u00 (ev 2) u03)) u03)))))
   (u02 (u09 4 sc_jat.nd (ec T.f_jai T.g_law_atom G_jai hr (u00 (ev 0) (u00 (ev 1) (u00 (ev 2) u03)))))
   (u02 (s_if (u20 (x_eq hr) (ec T.f_jao T.g_law_next G_jao hr (u00 (ev 0) (u00 u04 u03))) u04 (nomark _)) (u06 (u26 (u44 (u00 u12 (u00 (ev 3) (u00 (ev 4) u03)))))) u25)
   (u06 (u26 (u44 (u00 u12 (u00 (ev 3) (u00 (e_ix x_ix u12 (ec T.f_jao T.g_law_next G_jao hr (u00 (ev 0) (u00 u04 u03)))) (u00 (ev 4) (u00 (ec T.f_jai T.g_law_atom G_jai hr (u00 (ev 0) (u00 (ev 1) (u00 (ev 2) u03)))) u03)))))))))))) (fun ds G R h=>?_)
 ·obtain ⟨pr,W,bs,rfl,_⟩:=h;rfl
 ·obtain ⟨pr,W,bs,rfl,P0,hW,hb1,hb2,post⟩:=h
  simp! [List.length_map];refine u19 T P0 (by omega) (by omega) fun y G1 y1 y2 a1=>?_
  obtain ⟨j,rfl⟩:=Int.eq_ofNat_of_zero_le y1;have hj:j < bs.length:=by omega
  have hat:atI (bs.map D.str) (j:Int)=some (.str bs[j]):=u50 (by rw [List.getElem?_map,List.getElem?_eq_getElem hj];rfl);have hmem:=List.getElem_mem hj;simp! [hat];dsimp! [id];refine v04 T a1.at_ hW hb1 hb2 fun a G2 ha a2=>?_
  have A2:=a1.trans a2;simp! [id];dsimp! [id];refine u19 T A2.at_ (by decide) (by decide) fun x G3 _ _ a3=>?_
  have A3:=A2.trans a3;simp! [id];refine uc0 (fun _=>?_) (fun _=>?_)
  ·simp! [id]
   exact ⟨by decide,post (.is bs[j] a) _ ⟨hmem,ha⟩ rfl rfl rfl A3⟩
  ·dsimp! [id]
   refine u19 T A3.at_ (by decide) (by decide) fun z G4 z1 z2 a4=>?_
   have A4:=A3.trans a4;obtain ⟨o,ho,hs⟩:∃ o:Nat,atI (Str.ofString "+-&|^<=").cps.toList z=some o /\ (⟨#[o]⟩:Str) ∈ signs:=by
    have:z=0 \/ z=1 \/ z=2 \/ z=3 \/ z=4 \/ z=5 \/ z=6:=by omega
    rcases this with e | e | e | e | e | e | e <;> subst e <;> exact ⟨_,rfl,by decide⟩
   simp! [id];refine ⟨by decide,?_⟩;rw [ho];simp! [id];refine v04 T A4.at_ hW hb1 hb2 fun b G5 hb a5=>?_
   simp! [id];exact ⟨by decide,post (.op bs[j] ⟨#[o]⟩ a b) _ ⟨hmem,hs,ha,hb⟩ rfl rfl rfl (A4.trans a5)⟩
theorem vu0 {n:Nat}:Ok P w mg base (n+1) T.f_jau (v77 T):=by
 refine u43 T.f_jau sc_jau (fun ds G R h=>?_) (fun cdv A outer s H E hr =>
   (u02 (ui2 (vz2 (ev 0)) (vj3 (n:=3) rfl (u62 (u29 2 sc_jau.nd) (u62 (u29 3 sc_jau.nd) (u62 (u29 4 sc_jau.nd) ux4)))))
   (u02 (s_if (t_w (w_and (u20 (x_eq hr) (e_ix x_ix (ev 3) u04) u12 (nomark _)) (u87 (u20 (x_eq hr) (u13 uf3 rfl T.b_len (by decide) (u00 (ev 3) u03)) u04 (nomark _))))) (u02 (u59 (u92 (ev 0) (u00 (u44 (u00 (ev 2) (u00 (u10 u35 (ev 3) (u44 (u00 (u45 u68 rfl T.b_tuple (by decide) (u00 (ev 1) u03)) u03))) (u00 (ev 4) u03)))) u03)))
   (u06 (u26 (u28 u03)))) u25)
   (u06 (u26 (u10 u35 (ev 2) (u28 (u00 (u10 u35 (ev 3) (u44 (u00 (u45 u68 rfl T.b_tuple (by decide) (u00 (ev 1) u03)) u03))) u03)))))))) (fun ds G R h=>?_)
 ·obtain ⟨op,rh,f,fs,rows,rfl,_⟩:=h;rfl
 ·obtain ⟨op,rh,f,fs,rows,rfl,h1,h2,h3,h4,h5,h6,post⟩:=h
  obtain ⟨p,ahead,hd,o⟩:=f;have nop:∀ {c:Addr} {xs:List Rowp},G c=some (.lst (u07 xs))->c ≠ op:=by
   intro c xs hc e;rw [e,h1] at hc;have hh:(fs.map frD).reverse++[frD ⟨p,ahead,hd,o⟩]=u07 xs:=by injection hc with hc;injection hc
   rw [u39] at hh;have hm:frD ⟨p,ahead,hd,o⟩ ∈ xs.map rowD:=by rw [<- hh];simp
   obtain ⟨r,_,hr⟩:=List.mem_map.mp hm;cases r <;> simp [rowD,frD] at hr
  have hl:∀ {A:List D} {x:D},(A++[x])[(A++[x]).length - 1]?=some x:=by
   intro A x;rw [List.length_append,List.length_singleton,Nat.add_sub_cancel,List.getElem?_append_right (Nat.le_refl _),Nat.sub_self];rfl
  have hdl:∀ {A:List D} {x:D},(A++[x]).dropLast=A:=fun {A x}=>by simp
  have nrh:=nop h3;have np:=nop h2;have k3:∀ {o:DO},gup G op o rh=some (.lst (u07 rows)):=fun {o}=>by rw [u08 nrh];exact h3
  have k2:∀ {o:DO},gup G op o p=some (.lst (u07 ahead)):=fun {o}=>by rw [u08 np];exact h2
  have hA:((fs.map frD).reverse).length<=100:=by rw [List.length_reverse,List.length_map];exact h4
  have h6':ahead.length<=1000:=h6;have hrl:=u40 rows;have hal:=u40 ahead;obtain ⟨A,eA⟩:∃ A,A=(fs.map frD).reverse:=⟨_,rfl⟩;rw [<- eA] at h1 hA;simp! [h1,v44];rw [hl,hdl];have hkp:∀ {q:Addr} {o1 o2:DO} {G1:Gp},gup G op o1 q=none->Kp op G G1->Kp op G (gup G1 q o2):=by
   intro q o1 o2 G1 hq hk c u hc e;have nq:c ≠ q:=fun h=>by rw [<- h,u08 hc,e] at hq;cases hq
   rw [u08 nq];exact hk c u hc e
  have hk0:∀ {o1:DO},Kp op G (gup G op o1):=fun {o1} c u hc e=>by rw [u08 hc];exact e
  have fr0:∀ {q:Addr} {o1:DO},gup G op o1 q=none->q ≠ op /\ G q=none:=by
   intro q o1 hq;have nq:q ≠ op:=fun h=>by rw [h,u01] at hq;cases hq
   exact ⟨nq,by rw [u08 nq] at hq;exact hq⟩
  cases hd with
  | c1 a =>
   simp! [frD,hdD,k3,u01];dsimp! [k3,u01];rw [if_pos (by decide)];refine ⟨by decide,by simp,(show 2+1<=sizeLine by decide),by decide,?_⟩;simp! [u01];refine ⟨Nat.lt_of_le_of_lt (m:=1000) (by omega) (by decide),?_⟩;rw [uy4];dsimp! [id];refine ⟨by decide,fun q hq=>?_⟩;obtain ⟨nq,fq⟩:=fr0 hq;refine post q _ fq (by rw [u01];rfl) ?_ (hkp hq hk0);rw [u08 (Ne.symm nq),u01,eA];simp [shF,frD,hdD]
  | c2 a ys =>
   simp! [frD,hdD,k3,u01];dsimp! [k3,u01];rw [if_neg (by decide)];dsimp! [k3];refine ⟨by decide,by simp,(show 3+1<=sizeLine by decide),by decide,fun p1 hp1=>?_⟩;obtain ⟨n1,f1⟩:=fr0 hp1;refine um1 (by rw [u08 (gne k2 hp1)];exact k2) u01 (by rw [hal];exact Nat.le_of_lt (Nat.lt_of_le_of_lt (m:=2000) (by show ahead.length+1<=2000;omega) (by decide))) fun q hq=>?_
   have nq1:q ≠ p1:=fun h=>by rw [h,u01] at hq;cases hq
   rw [u08 nq1] at hq;obtain ⟨nq,fq⟩:=fr0 hq;refine post q _ fq ?_ ?_ (hkp hq (hkp hp1 hk0))
   ·rw [u01]
    show _=some (DO.lst (u07 (ahead++[.cho a ys rows])))
    rw [u41];rfl
   ·rw [u08 (Ne.symm nq),u08 (Ne.symm n1),u01,eA]
    rfl
  | tm k =>
   simp! [frD,hdD,k3,u01];dsimp! [k3,u01];rw [if_neg (by decide)];dsimp! [k3];refine ⟨by decide,by simp,(show 2+1<=sizeLine by decide),by decide,fun p1 hp1=>?_⟩;obtain ⟨n1,f1⟩:=fr0 hp1;refine um1 (by rw [u08 (gne k2 hp1)];exact k2) u01 (by rw [hal];exact Nat.le_of_lt (Nat.lt_of_le_of_lt (m:=2000) (by show ahead.length+1<=2000;omega) (by decide))) fun q hq=>?_
   have nq1:q ≠ p1:=fun h=>by rw [h,u01] at hq;cases hq
   rw [u08 nq1] at hq;obtain ⟨nq,fq⟩:=fr0 hq;refine post q _ fq ?_ ?_ (hkp hq (hkp hp1 hk0))
   ·rw [u01]
    show _=some (DO.lst (u07 (ahead++[.tim k rows])))
    rw [u41];rfl
   ·rw [u08 (Ne.symm nq),u08 (Ne.symm n1),u01,eA]
    rfl
theorem vu2 {n:Nat} (G_jar:Ok P w mg base n T.f_jar (ur7 T)) (G_jao:Ok P w mg base n T.f_jao (ud2 T)) (G_jai:Ok P w mg base n T.f_jai (v09 T)) (G_jat:Ok P w mg base n T.f_jat (v78 T)) (G_jau:Ok P w mg base n T.f_jau (v77 T)):Ok P w mg base (n+1) T.f_jas (vm5 T):=by
 refine u43 T.f_jas sc_jas (fun ds G R h=>?_) (fun cdv A outer s H E hr =>
   (u02 (u09 4 sc_jas.nd (u28 u03))
   (u02 (u09 5 sc_jas.nd (u28 u03))
   (u02 (u09 6 sc_jas.nd u04)
   (u02 (u09 7 sc_jas.nd u04)
   (u02 (ub4 (uj2 rfl T.b_range (u00 (ev 3) u03)) (u29 8 sc_jas.nd) (u02 (u09 9 sc_jas.nd (ec T.f_jar T.g_law_purse G_jar hr (u00 (ev 0) (u00 (u10 u35 u04 (ev 8)) u03))))
   (u02 (u09 10 sc_jas.nd (ec T.f_jao T.g_law_next G_jao hr (u00 (ev 9) (u00 u04 u03))))
   (u06 (s_if (t_w (w_and (u20 (x_gt) (ev 10) u04 (nomark _)) (w_and (u20 (x_lt) (u13 uf3 rfl T.b_len (by decide) (u00 (ev 4) u03)) u04 (nomark _)) (u87 (u20 (x_ge) (ev 7) (ev 6) (nomark _)))))) (u02 (u09 11 sc_jas.nd (u44 (u00 u12 (u00 (ec T.f_jai T.g_law_atom G_jai hr (u00 (ev 9) (u00 (ev 1) (u00 (ev 2) u03)))) u03))))
   (u02 (u09 7 sc_jas.nd (u10 up6 (ev 7) (ev 6)))
   (u02 (s_if (u20 (x_eq hr) (ev 10) u04 (nomark _)) (u02 (u09 12 sc_jas.nd (e_ix x_ix (u28 (u00 u04 (u00 u04 (u00 u04 (u00 u04 (u00 u04 (u00 (ec T.f_jao T.g_law_next G_jao hr (u00 (ev 9) (u00 u04 u03))) u03))))))) (ec T.f_jao T.g_law_next G_jao hr (u00 (ev 9) (u00 u04 u03)))))
   (u06 (u09 11 sc_jas.nd (u44 (u00 u12 (u00 (e_ix x_ix (u28 (u00 u04 (u00 (ev 12) u03))) (u45 uf2 rfl T.b_int (by decide) (u00 (ul4 (x_le) (u10 ua1 (ev 6) (ev 12)) (ev 7) (nomark _)) u03))) u03)))))) u25)
   (u02 (u59 (u92 (ev 4) (u00 (u44 (u00 (ev 5) (u00 (ev 11) (u00 (ev 6) u03)))) u03)))
   (u02 (u09 6 sc_jas.nd (u10 ua1 (ev 6) (e_ix x_ix (u28 (u00 u04 (u00 (e_ix x_ix (ev 11) u04) u03))) (u45 uf2 rfl T.b_int (by decide) (u00 (ul4 (x_eq hr) (ev 10) u04 (nomark _)) u03)))))
   (u06 (u09 5 sc_jas.nd (u28 u03)))))))) (u06 (s_if (t_w (w_and (u20 (x_eq hr) (ev 10) u04 (nomark _)) (u87 (u20 (x_ne hr) (ev 4) (u28 u03) (nomark _))))) (u02 (u09 6 sc_jas.nd (e_ix x_ix (e_ix x_ix (ev 4) (e_un v17 u04)) u04))
   (u06 (u09 5 sc_jas.nd (ec T.f_jau T.g_law_shut G_jau hr (u00 (ev 4) (u00 (ev 5) u03)))))) (u06 (s_if (u20 (x_ge) (ev 7) (ev 6) (nomark _)) (u02 (u59 (u92 (ev 5) (u00 (ec T.f_jat T.g_law_set G_jat hr (u00 (ev 9) (u00 (ev 1) (u00 (ev 2) u03)))) u03)))
   (u06 (u09 7 sc_jas.nd (u10 up6 (ev 7) (ev 6))))) u25)))))))))
   (u02 (vd1 (u20 (x_ne hr) (ev 4) (u28 u03) (nomark _)) (u06 (u09 5 sc_jas.nd (ec T.f_jau T.g_law_shut G_jau hr (u00 (ev 4) (u00 (ev 5) u03))))))
   (u06 (u26 (u45 u68 rfl T.b_tuple (by decide) (u00 (ev 5) u03))))))))))) (fun ds G R h=>?_)
 ·obtain ⟨a,ns,W,bs,most,rfl,_⟩:=h;rfl
 ·obtain ⟨a,ns,W,bs,most,rfl,ha,hl,hW,hb1,hb2,hm,post⟩:=h
  simp! [id];refine ⟨by decide,fun op hop=>?_⟩;dsimp! [id];refine ⟨by decide,fun rh0 hrh0=>?_⟩;dsimp! [id];dsimp! [id];dsimp! [id];refine ⟨by omega,?_⟩;have n0:rh0 ≠ op:=fun e=>by rw [e,u01] at hrh0;cases hrh0
  have f0:G rh0=none:=by rw [u08 n0] at hrh0;exact hrh0
  generalize hN1:Go (dSeq (uo8 _ _) _ _)=N1;refine u34 (fun r σ G'=>∃ (j c:Nat) (fs:List Fr) (rows:List Rowp) (rh:Addr) (o lf w z:Nat) (v8 v9 v10 v11 v12:Option D),j+c=most /\ r=rngD (j:Int) c /\ Grow G G' /\ G' op=some (.lst ((fs.map frD).reverse)) /\ G' rh=some (.lst (u07 rows)) /\ G rh=none /\ rh ≠ op /\ (∀ f ∈ fs,G' f.p=some (.lst (u07 f.ahead)) /\ f.p ≠ rh /\ f.p ≠ op) /\ SK W bs fs o rows w z /\ w+lf<=120 /\ z<=j /\ σ=[some (.ref a),some (.int (W:Int)),some (.tup (bs.map .str)),some (.int (most:Int)),some (.ref op),some (.ref rh),some (.int (o:Int)),some (.int (lf:Int)),v8,v9,v10,v11,v12]) ⟨0,most,[],[],rh0,1,120,0,0,none,none,none,none,none,by omega,rfl,(Grow.refl.new hop).new hrh0,by rw [u08 (Ne.symm n0),u01];rfl,u01,f0,n0,fun f hf=>(by cases hf),⟨rfl,rfl,rfl,Nat.zero_le _,trivial⟩,by omega,by omega,rfl⟩ ?_ ?_
  ·rintro σ G1 ⟨j,c,fs,rows,rh,o,lf,w,z,v8,v9,v10,v11,v12,e,e2,g1,ko,kr,fr,nr,hf,hS,hw,hz,rfl⟩
   have hc0:c=0:=by
    cases c with
    | zero=>rfl
    | succ n=>rw [u33] at e2;cases e2
   refine ⟨trivial,?_⟩;rw [<- hN1];dsimp! [id];refine us5 (fun m σ G'=>∃ (fs:List Fr) (rows:List Rowp) (rh:Addr) (o':Nat),msF fs<=m /\ Grow G G' /\ G' op=some (.lst ((fs.map frD).reverse)) /\ G' rh=some (.lst (u07 rows)) /\ rh ≠ op /\ (∀ f ∈ fs,G' f.p=some (.lst (u07 f.ahead)) /\ f.p ≠ op) /\ SK W bs fs o' rows w z /\ σ=[some (.ref a),some (.int (W:Int)),some (.tup (bs.map .str)),some (.int (most:Int)),some (.ref op),some (.ref rh),some (.int (o:Int)),some (.int (lf:Int)),v8,v9,v10,v11,v12])
    (m:=msF fs) ⟨fs,rows,rh,o,Nat.le_refl _,g1,ko,kr,nr,fun f h=>⟨(hf f h).1,(hf f h).2.2⟩,hS,rfl⟩ ?_
   rintro m σ G2 N ⟨fs,rows,rh,o',hm2,g2,ko,kr,nr,hf,hS,rfl⟩ ih;simp! [id];refine ⟨by decide,fun e1 he1=>?_⟩;have gE:Grow G2 (gup G2 e1 (.lst [])):=Grow.refl.new he1;have hd:=hS.dep;have hln:=hS.len;have hfl:=hS.fl;refine ue3 (gE.kp _ _ ko) u01 (fun f h=>⟨gE.kp _ _ (hf f h).1,hd.2 f h⟩) ?_;simp! [id];cases fs with
   | nil =>
    simp! [id];have kr2:=gE.kp _ _ kr;dsimp! [kr2,u15];obtain ⟨_,s2,s3,s4,s5⟩:=hS;exact post rows _ s5 s4 (by omega) (by omega) (g2.trans gE)
   | cons f fs =>
    simp! [id];have hls:fs.length+1<=5:=hfl;refine vb4 T (f:=f) (fs:=fs) (rows:=rows) (by rw [gE.kp _ _ ko];simp) (gE.kp _ _ (hf f (List.mem_cons_self)).1) (gE.kp _ _ kr) (by omega) (by have:=hln.1;omega) (by have:=hln.2 f List.mem_cons_self;omega) fun q G3 f3 kq ko3 kp3=>?_
    simp! [id];have hms:=v42 (f:=f) (fs:=fs) (rows:=rows);obtain ⟨m',rfl⟩:∃ m',m=m'+1:=⟨m - 1,by omega⟩;have nopG:∀ {c o},G c=some o->c ≠ op:=fun h e=>by rw [e,hop] at h;cases h
    have nq:q ≠ op:=fun e=>by rw [e,gE.kp _ _ ko] at f3;cases f3
    refine ih _ _ m' rfl ⟨(shF f fs rows).1,(shF f fs rows).2,q,f.o,by omega,⟨fun c o h=>kp3 c o (nopG h) (gE.kp _ _ (g2.kp _ _ h))⟩,ko3,kq,nq,fun g hg=>?_,hS.shut,rfl⟩
    rcases ut5 g hg with ⟨e1,e2⟩ | h
    ·have:=hf f List.mem_cons_self
     rw [e1,e2];exact ⟨kp3 _ _ this.2 (gE.kp _ _ this.1),this.2⟩
    ·have:=hf g (List.mem_cons_of_mem _ h)
     exact ⟨kp3 _ _ this.2 (gE.kp _ _ this.1),this.2⟩
  ·rintro zz r σ G1 ⟨j,c,fs,rows,rh,o,lf,w,z,v8,v9,v10,v11,v12,e,e2,g1,ko,kr,fr,nr,hf,hS,hw,hz,rfl⟩ ih
   cases c with
   | zero=>cases e2
   | succ c =>
    rw [u33] at e2;cases e2;refine ⟨trivial,?_⟩;have ej:(6:Int)+(j:Int)=((6+j:Nat):Int):=by omega
    simp! [ej];refine uh4 T (u58 g1 ha) hl (by omega) fun pr G2 f2 P2 g2=>?_
    simp! [id];dsimp! [id];refine u19 T P2 (by decide) (by decide) fun wy G3 y1 y2 a3=>?_
    have g3:=PAdv.back g2 f2 a3;simp! [id];have ko3:=g3.kp _ _ ko;have kr3:=g3.kp _ _ kr;have npr:∀ c o,G1 c=some o->c ≠ pr:=fun c o h e=>by rw [e,f2] at h;cases h
    dsimp! [ko3,u15];refine comb (fun h7 h5 hlo=>?_) (fun _=>?_)
    ·generalize hFL:forL _ _ _ _ (rngD ((j:Int)+1) c)=FL at ih ⊢
     refine v04 T a3.at_ hW hb1 hb2 fun at_ G4 hat a4=>?_
     have g4:=PAdv.back g2 f2 (a3.trans a4);have elo:(lf:Int) - (o:Int)=((lf - o:Nat):Int):=by omega
     refine ⟨by decide,?_⟩;dsimp! [elo];dsimp! [id];generalize hNC:Go (dSeq (ur1 _) _ _)=NC;have h5':fs.length < 5:=by rw [List.length_reverse,List.length_map] at h5;omega
     have rC:∀ (hd:Hd) (G5:Gp) (v12:Option D) (hy:(wy=9 /\ ∃ k,hd=.tm k) \/ (¬ wy=9 /\ ∃ a,hd=.c1 a)),hd.ok W bs->hd.ys=[]->w+o * hd.wt+(lf - o)<=120->Grow G1 G5->NC [some (.ref a),some (.int (W:Int)),some (.tup (bs.map .str)),some (.int (most:Int)),some (.ref op),some (.ref rh),some (.int (o:Int)),some (.int ((lf - o:Nat):Int)),some (.int (j:Int)),some (.ref pr),some (.int wy),some (hdD hd),v12] G5:=by
      intro hd G5 v12 hy hok hys hwt g5;rw [<- hNC];have ko5:=g5.kp _ _ ko;have kr5:=g5.kp _ _ kr;dsimp! [ko5];refine ⟨by decide,Nat.lt_of_le_of_lt (m:=1000) (by rw [List.length_reverse,List.length_map];omega) (by decide),?_⟩;have fin_:∀ (G6:Gp) (q:Addr),Grow (gup G5 op (.lst ((fs.map frD).reverse++[frD ⟨rh,rows,hd,o⟩]))) G6->G6 q=none->FL [some (.ref a),some (.int (W:Int)),some (.tup (bs.map .str)),some (.int (most:Int)),some (.ref op),some (.ref q),some (.int ((o * hd.mul:Nat):Int)),some (.int ((lf - o:Nat):Int)),some (.int (j:Int)),some (.ref pr),some (.int wy),some (hdD hd),v12] (gup G6 q (.lst [])):=by
       intro G6 q g6 hq;have ko6:=g6.kp op _ u01;have nq:q ≠ op:=fun e=>by rw [e,ko6] at hq;cases hq
       have k6:∀ {c' o'},G5 c'=some o'->c' ≠ op->G6 c'=some o':=fun {c' o'} h1 h2=>g6.kp _ _ (by rw [u08 h2];exact h1)
       have kq:∀ {c' o'},G5 c'=some o'->c' ≠ op->gup G6 q (.lst []) c'=some o':=fun {c' o'} h1 h2=>by rw [u08 (gne (k6 h1 h2) hq)];exact k6 h1 h2
       refine ih _ _ ⟨j+1,c,⟨rh,rows,hd,o⟩::fs,[],q,o * hd.mul,lf - o,w+o * hd.wt,z+1,_,_,_,_,_,by omega,by rw [Int.natCast_add];rfl,⟨fun c' o' h=>kq (g5.kp _ _ (g1.kp _ _ h)) fun e=>by rw [e,hop] at h;cases h⟩,?_,u01,?_,nq,fun f hf'=>?_,hS.open_ h5' hok hys,by omega,by omega,rfl⟩
       ·rw [u08 (Ne.symm nq),ko6];simp
       ·exact vw0 hop (fun c' o' h n=>k6 (g5.kp _ _ (g1.kp _ _ h)) n) nq hq
       ·rcases List.mem_cons.mp hf' with e | e
        ·subst e;exact ⟨kq kr5 nr,gne (k6 kr5 nr) hq,nr⟩
        ·obtain ⟨q1,q2,q3⟩:=hf f e
         have q4:=g5.kp _ _ q1;exact ⟨kq q4 q3,gne (k6 q4 q3) hq,q3⟩
      rcases hy with ⟨hy,k,rfl⟩ | ⟨hy,at2,rfl⟩
      ·subst hy
       dsimp! [hdD,u01];refine ⟨by decide,fun p hp=>?_⟩;simp! [u01];refine ⟨.inl ⟨by omega,by omega⟩,?_⟩;dsimp! [id];refine ⟨by decide,fun q hq=>?_⟩;exact fin_ _ q (Grow.refl.new hp) hq
      ·have d9:=decide_eq_false hy
       dsimp! [hdD,d9,u01];refine ⟨by decide,fun p hp=>?_⟩;simp! [u01];refine ⟨.inl ⟨by omega,by omega⟩,?_⟩;dsimp! [id];refine ⟨by decide,fun q hq=>?_⟩;exact fin_ _ q (Grow.refl.new hp) hq
     refine uc0 (fun h9=>?_) (fun h9=>rC (.c1 at_) G4 v12 (.inr ⟨h9,at_,rfl⟩) hat rfl (by show w+o * 1+(lf - o)<=120;omega) g4);refine u19 T a4.at_ (by decide) (by decide) fun d1 G5 d11 d12 a5=>?_
     refine ⟨by decide,fun p hp=>?_⟩;have np:p ≠ pr:=a5.at_.ne hp
     have g5:Grow G5 (gup G5 p (.lst [.int 0,.int 1,.int 2,.int 3,.int 4,.int d1])):=Grow.refl.new hp;refine u19 T (a5.at_.grow g5) (by decide) (by decide) fun d2 G6 d21 d22 a6=>?_
     have kp6:=a6.kp p _ np u01;have g6:=PAdv.back g2 f2 (((a3.trans a4).trans a5).grow g5 |>.trans a6);obtain ⟨k,hk,hk2⟩:∃ k:Nat,atI [D.int 0,.int 1,.int 2,.int 3,.int 4,.int d1] d2=some (.int (k:Int)) /\ k<=20:=by
      obtain ⟨d1,rfl⟩:=Int.eq_ofNat_of_zero_le d11;have:d2=0 \/ d2=1 \/ d2=2 \/ d2=3 \/ d2=4 \/ d2=5:=by omega
      rcases this with rfl | rfl | rfl | rfl | rfl | rfl
      ·exact ⟨0,rfl,by omega⟩
      ·exact ⟨1,rfl,by omega⟩
      ·exact ⟨2,rfl,by omega⟩
      ·exact ⟨3,rfl,by omega⟩
      ·exact ⟨4,rfl,by omega⟩
      ·exact ⟨d1,rfl,by omega⟩
     simp! [kp6,hk];dsimp! [id];refine ⟨by decide,fun p' hp'=>⟨.inl ⟨by omega,by omega⟩,?_⟩⟩
     by_cases ho:(o:Int) * (k:Int)<=((lf - o:Nat):Int)
     ·rw [decide_eq_true ho]
      exact ⟨by decide,rC (.tm k) _ _ (.inl ⟨h9,k,rfl⟩) hk2 rfl (by show w+o * 0+(lf - o)<=120;omega) (g6.new hp')⟩
     ·rw [decide_eq_false ho]
      exact ⟨by decide,rC (.tm 1) _ _ (.inl ⟨h9,1,rfl⟩) (by show 1<=20;decide) rfl (by show w+o * 0+(lf - o)<=120;omega) (g6.new hp')⟩
    ·refine uc0 (fun h7=>?_) (fun _=>?_)
     ·refine ⟨by decide,fun e1 he1=>?_⟩
      have gE:Grow G3 (gup G3 e1 (.lst [])):=Grow.refl.new he1;have hdp:=hS.dep;refine ue3 (gE.kp _ _ ko3) u01 (fun f h=>⟨gE.kp _ _ (g3.kp _ _ (hf f h).1),hdp.2 f h⟩) ?_
      by_cases hfs:fs.length=0
      ·rw [decide_eq_true hfs]
       simp! [id];have aE:=a3.grow gE;refine uc0 (fun hlo=>?_) (fun hlo=>?_)
       ·have gX:=PAdv.back g2 f2 aE
        have krX:=gX.kp _ _ kr;refine ⟨by simp only [krX],?_⟩;refine w07 T aE.at_ hW hb1 hb2 fun r G6 okr wr1 zr1 dr1 a6=>?_
        have g6:=PAdv.back g2 f2 (aE.trans a6);have kr6:=g6.kp _ _ kr;have hll:=hS.len;simp! [kr6];refine ⟨Nat.lt_of_le_of_lt (m:=1000) (by rw [u40];have:=hll.1;omega) (by decide),?_⟩;have elo:(lf:Int) - (o:Int)=((lf - o:Nat):Int):=by omega
        dsimp! [elo];refine ih _ _ ⟨j+1,c,fs,rows++[r],rh,o,lf - o,w+o,z+1,_,_,_,_,_,by omega,by rw [Int.natCast_add];rfl,⟨fun c' o' h=>?_⟩,?_,?_,fr,nr,fun f hf'=>?_,hS.row okr wr1 zr1 dr1,by omega,by omega,rfl⟩
        ·have:c' ≠ rh:=fun e=>by rw [e,fr] at h;cases h
         rw [u08 this];exact g6.kp _ _ (g1.kp _ _ h)
        ·rw [u08 (Ne.symm nr)]
         exact g6.kp _ _ ko
        ·rw [u01,u41];rfl
        ·obtain ⟨q1,q2,q3⟩:=hf f hf'
         rw [u08 q2];exact ⟨g6.kp _ _ q1,q2,q3⟩
       ·simp! [id]
        have g6:=PAdv.back g2 f2 aE;exact ih _ _ ⟨j+1,c,fs,rows,rh,o,lf,w,z,_,_,_,_,_,by omega,by rw [Int.natCast_add];rfl,g1.trans g6,g6.kp _ _ ko,g6.kp _ _ kr,fr,nr,fun f hf'=>⟨g6.kp _ _ (hf f hf').1,(hf f hf').2⟩,hS,by omega,by omega,rfl⟩
      ·rw [decide_eq_false hfs]
       obtain ⟨f,fs',rfl⟩:∃ f fs',fs=f::fs':=by
        cases fs with
        | nil=>exact absurd rfl hfs
        | cons f fs'=>exact ⟨f,fs',rfl⟩
       have hrev:((f::fs').map frD).reverse=(fs'.map frD).reverse++[frD f]:=by simp
       have ko4:=gE.kp _ _ ko3;rw [hrev] at ko4;have hat:atI ((fs'.map frD).reverse++[frD f]) (-1)=some (frD f):=v75 _ _;have hln:=hS.len;have hfl:=hS.fl;have hls:fs'.length+1<=5:=hfl;simp! [ko4,hat];simp! [frD];dsimp! [id];refine vb4 T (f:=f) (fs:=fs') (rows:=rows) ko4 (gE.kp _ _ (g3.kp _ _ (hf f List.mem_cons_self).1)) (gE.kp _ _ kr3) (by omega) (by have:=hln.1;omega) (by have:=hln.2 f List.mem_cons_self;omega) fun q G4 f4 kq ko5 kp4=>?_
       simp! [id];have k4:∀ c o,G1 c=some o->c ≠ op->G4 c=some o:=fun c o h n=>kp4 c o n (gE.kp _ _ (g3.kp _ _ h))
       have nq:q ≠ op:=fun e=>by rw [e,ko4] at f4;cases f4
       refine ih _ _ ⟨j+1,c,(shF f fs' rows).1,(shF f fs' rows).2,q,f.o,lf,w,z,_,_,_,_,_,by omega,by rw [Int.natCast_add];rfl,⟨fun c o h=>k4 c o (g1.kp _ _ h) fun e=>by rw [e,hop] at h;cases h⟩,ko5,kq,?_,nq,fun g hg=>?_,hS.shut,by omega,by omega,rfl⟩
       ·exact (g1.trans (g3.trans gE)).none f4
       ·have kk:∀ g ∈ f::fs',G4 g.p=some (.lst (u07 g.ahead)) /\ g.p ≠ q /\ g.p ≠ op:=fun g hg=>by
         obtain ⟨q1,q2,q3⟩:=hf g hg;exact ⟨k4 _ _ q1 q3,gne (gE.kp _ _ (g3.kp _ _ q1)) f4,q3⟩
        rcases ut5 g hg with ⟨e1,e2⟩ | h
        ·rw [e1,e2];exact kk f List.mem_cons_self
        ·exact kk g (List.mem_cons_of_mem _ h)
     ·skip
      refine uc0 (fun hlo=>?_) (fun hlo=>?_)
      ·have gX:=PAdv.back g2 f2 a3
       have krX:=gX.kp _ _ kr;refine ⟨by simp only [krX],?_⟩;refine w07 T a3.at_ hW hb1 hb2 fun r G6 okr wr1 zr1 dr1 a6=>?_
       have g6:=PAdv.back g2 f2 (a3.trans a6);have kr6:=g6.kp _ _ kr;have hll:=hS.len;simp! [kr6];refine ⟨Nat.lt_of_le_of_lt (m:=1000) (by rw [u40];have:=hll.1;omega) (by decide),?_⟩;have elo:(lf:Int) - (o:Int)=((lf - o:Nat):Int):=by omega
       dsimp! [elo];refine ih _ _ ⟨j+1,c,fs,rows++[r],rh,o,lf - o,w+o,z+1,_,_,_,_,_,by omega,by rw [Int.natCast_add];rfl,⟨fun c' o' h=>?_⟩,?_,?_,fr,nr,fun f hf'=>?_,hS.row okr wr1 zr1 dr1,by omega,by omega,rfl⟩
       ·have:c' ≠ rh:=fun e=>by rw [e,fr] at h;cases h
        rw [u08 this];exact g6.kp _ _ (g1.kp _ _ h)
       ·rw [u08 (Ne.symm nr)]
        exact g6.kp _ _ ko
       ·rw [u01,u41];rfl
       ·obtain ⟨q1,q2,q3⟩:=hf f hf'
        rw [u08 q2];exact ⟨g6.kp _ _ q1,q2,q3⟩
      ·simp! [id]
       have g6:=PAdv.back g2 f2 a3;exact ih _ _ ⟨j+1,c,fs,rows,rh,o,lf,w,z,_,_,_,_,_,by omega,by rw [Int.natCast_add];rfl,g1.trans g6,g6.kp _ _ ko,g6.kp _ _ kr,fr,nr,fun f hf'=>⟨g6.kp _ _ (hf f hf').1,(hf f hf').2⟩,hS,by omega,by omega,rfl⟩
theorem vu4 {n:Nat} (G_jar:Ok P w mg base n T.f_jar (ur7 T)) (G_jao:Ok P w mg base n T.f_jao (ud2 T)) (G_jan:Ok P w mg base n T.f_jan (vm7 T)) (G_jas:Ok P w mg base n T.f_jas (vm5 T)):Ok P w mg base (n+1) T.f_jaq (vm6 T):=by
 refine u43 T.f_jaq sc_jaq (fun ds G R h=>?_) (fun cdv A outer s H E hr =>
   (u02 (u09 1 sc_jaq.nd (ec T.f_jar T.g_law_purse G_jar hr (u00 (ev 0) (u00 u04 u03))))
   (u02 (u09 2 sc_jaq.nd (u10 u35 u04 (ec T.f_jao T.g_law_next G_jao hr (u00 (ev 1) (u00 u04 u03)))))
   (u02 (u09 3 sc_jaq.nd (ec T.f_jan T.g_law_names G_jan hr (u00 (ec T.f_jar T.g_law_purse G_jar hr (u00 (ev 0) (u00 u04 u03))) u03)))
   (u02 (u09 4 sc_jaq.nd (u13 um2 rfl T.b_max (by decide) (u00 (u13 uf3 rfl T.b_len (by decide) (u00 (e_sl x_sl (ev 0) (u79 u04) (u79 u04)) u03)) (u00 (u10 u35 u04 (ec T.f_jao T.g_law_next G_jao hr (u00 (ev 1) (u00 u04 u03)))) u03))))
   (u02 (s_if (u20 (x_eq hr) (ec T.f_jao T.g_law_next G_jao hr (u00 (ev 1) (u00 u04 u03))) u04 (nomark _)) (u06 (u09 4 sc_jaq.nd (ec T.f_jao T.g_law_next G_jao hr (u00 (ev 1) (u00 u04 u03))))) u25)
   (u06 (u26 (u44 (u00 (ev 2) (u00 (ev 3) (u00 (ec T.f_jas T.g_law_rows G_jas hr (u00 (ev 0) (u00 (ev 2) (u00 (ev 3) (u00 (ev 4) u03))))) u03)))))))))))) (fun ds G R h=>?_)
 ·obtain ⟨a,ns,rfl,_⟩:=h;rfl
 ·obtain ⟨a,ns,rfl,ha,hl,post⟩:=h
  simp! [id];refine uh4 T (k:=0) ha hl (by decide) fun p1 G1 f1 P1 g1=>?_
  simp! [id];dsimp! [id];refine u19 T P1 (by decide) (by decide) fun x G2 x1 x2 a2=>?_
  have g2:=PAdv.back g1 f1 a2;obtain ⟨W,hW⟩:∃ W:Nat,1+x=(W:Int):=⟨(1+x).toNat,by omega⟩;simp! [hW];dsimp! [id];refine uh4 T (k:=1) (u58 g2 ha) hl (by decide) fun p2 G3 f3 P3 g3=>?_
  simp! [id];have np:p2 ≠ p1:=a2.at_.ne f3
  refine u21 (post:=fun d G'=>∃ bs:List Str,d=.tup (bs.map .str) /\ 1<=bs.length /\ bs.length<=6 /\ (∀ b ∈ bs,nmB b=true) /\ bs.Nodup /\ PAdv p2 G3 G') (fun R h=>⟨p2,rfl,P3,fun bs G' z1 z2 z3 z4 z5=>h _ _ ⟨bs,rfl,z1,z2,z3,z4,z5⟩⟩) ?_;rintro _ G4 ⟨bs,rfl,hb1,hb2,hb3,hnd,a4⟩;have g24:=PAdv.back g3 f3 a4;have P4:=a2.at_.grow g24
  have g4:=g2.trans g24;simp! [id];dsimp! [u58 g4 ha];have hcl:(cutD (ns.map D.int) (some 6) (some 57)).length<=57:=by
   unfold cutD;rw [List.length_take];refine Nat.le_trans (Nat.min_le_left _ _) (Nat.le_trans (Nat.sub_le _ _) ?_);unfold HT.sIx;simp only [];split <;> omega
  obtain ⟨L,hL⟩:∃ L,L=(cutD (ns.map D.int) (some 6) (some 57)).length:=⟨_,rfl⟩;rw [<- hL] at hcl ⊢;intro p hp;have g5:Grow G4 (gup G4 p (.lst (cutD (ns.map D.int) (some 6) (some 57)))):=Grow.refl.new hp;refine u19 T (P4.grow g5) (by decide) (by decide) fun y G6 y1 y2 a6=>?_
  have g6:=PAdv.back (g4.trans g5) f1 a6;simp! [id];obtain ⟨many,hmany,hm2⟩:∃ many:Nat,(if 3+y > (L:Int) then 3+y else (L:Int))=(many:Int) /\ many<=57:=by
   refine ⟨(max (3+y) (L:Int)).toNat,?_,by omega⟩;split <;> omega
  rw [hmany];dsimp! [id];generalize hN1:Go (dRet (dTup _) _)=N1;have r1:∀ (most:Nat) (G7:Gp),most<=60->Grow G G7->N1 [some (.ref a),some (.ref p1),some (.int (W:Int)),some (.tup (bs.map .str)),some (.int (most:Int))] G7:=by
   intro most G7 hmo g7;rw [<- hN1];dsimp! [id];refine u21 (post:=fun d G'=>∃ rows:List Rowp,d=.tup (u07 rows) /\ okL W bs rows /\ depL rows<=5 /\ wtL rows<=120 /\ szL rows<=60 /\ Grow G7 G') (fun R h=>⟨a,ns,W,bs,most,rfl,u58 g7 ha,hl,by omega,hb1,hb2,hmo,fun rows G' z1 z2 z3 z4 z5=>h _ _ ⟨rows,rfl,z1,z2,z3,z4,z5⟩⟩) ?_;rintro _ G8 ⟨rows,rfl,z1,z2,z3,z4,z5⟩;simp! [id];exact ⟨by decide,post W bs rows _ (by omega) (by omega) hb1 hb2 hb3 hnd z1 z2 z3 z4 (g7.trans z5)⟩
  refine u19 T a6.at_ (by decide) (by decide) fun t G9 t1 t2 a9=>?_
  have g9:=PAdv.back g6 f1 a9;simp! [id];refine uc0 (fun _=>?_) (fun _=>r1 many G9 (by omega) g9);refine u19 T a9.at_ (by decide) (by decide) fun u G10 u1 u2 a10=>?_
  obtain ⟨un,rfl⟩:=Int.eq_ofNat_of_zero_le u1;simp! [id];exact r1 un G10 (by omega) (PAdv.back g9 f1 a10)
theorem vt8 {n:Nat}:Ok P w mg base (n+1) T.f_jaw (v76 T):=by
 refine u43 T.f_jaw sc_jaw (fun ds G R h=>?_) (fun cdv A outer s H E hr =>
   (u02 (ui2 (u10 u35 (e_ix x_ix (ev 2) u04) u04) (ux5 (ev 2) u04 us1))
   (u02 (u09 4 sc_jaw.nd (vz5 hr (ev 1) (u10 up6 (e_ix x_ix (ev 2) u04) u04) (ev 0)))
   (u02 (s_if (t_w (w_and (up9 (ev 3)) (u87 (up9 (u13 u85 rfl T.b_isinstance (by decide) (u00 (ev 4) (u00 (ue2 (T := "int") T.b_int (by decide)) u03))))))) (u06 (u26 (ev 0))) u25)
   (u06 (u26 (ev 4))))))) (fun ds G R h=>?_)
 ·obtain ⟨a,sp,se,kvs,nm,k,rfl,_⟩:=h;rfl
 ·obtain ⟨a,sp,se,kvs,nm,k,rfl,hsp,hD,hse,ha,hn,post⟩:=h
  have ns:sp ≠ se:=fun e=>by rw [e,hse] at hsp;cases hsp
  have e0:ixN 1 0=some 0:=rfl;have hv:∃ v:Atm,((valK kvs (.inl (k+1 - 1))).getD (aD a))=aD v /\ tA v:=by
   unfold valK;cases h:kvs.find? _ with
   | none=>exact ⟨a,rfl,ha⟩
   | some kv =>
    obtain ⟨v,e,t⟩:=hD kv (List.mem_of_find?_eq_some h);exact ⟨v,e,t⟩
  obtain ⟨v,ev,tv⟩:=hv;simp! [hse];dsimp! [u01,e0];have hsp1:gup G se (.lst [D.int (k+1)]) sp=some (.dic kvs):=by rw [u08 ns];exact hsp
  have S1:SnA se G (gup G se (.lst [D.int (k+1)])):=⟨⟨_,u01⟩,fun b o n e=>by rw [u08 n];exact e⟩;have k1:gup G se (.lst [D.int (k+1)]) se=some (.lst [.int (k+1)]):=u01;generalize gup G se (.lst [D.int (k+1)])=G1 at *;refine ⟨⟨sp,kvs,rfl,hsp1⟩,?_⟩;simp! [k1,u15,w09];refine ⟨sp,kvs,.inl (k+1 - 1),rfl,rfl,hsp1,?_⟩;rw [ev];dsimp! [id];generalize hN:Go (dRet (dVar 4) _)=N;have fin:(nm=true->∃ x,v=.box x)->N [some (aD a),some (.ref sp),some (.ref se),some (.bl nm),some (aD v)] G1:=fun z=>by
   rw [<- hN];dsimp! [id];exact post v G1 tv z S1
  cases nm with
  | false =>
   rw [if_neg (by decide)];exact fin fun z=>nomatch z
  | true =>
   rw [if_pos rfl];refine ⟨.inl trivial,?_⟩;cases v with
   | num i=>exact post a G1 ha hn S1
   | box x=>exact fin fun _=>⟨x,rfl⟩
theorem vv0 {n dp:Nat} (G_jaw:Ok P w mg base n T.f_jaw (v76 T)) (G_jaj:Ok P w mg base n T.f_jaj (ur8 T dp)):Ok P w mg base (n+1) T.f_jaj (ur8 T (dp+1)):=by
 refine u43 T.f_jaj sc_jaj (fun ds G R h=>?_) (fun cdv A outer s H E hr =>
   (u02 (u09 3 sc_jaj.nd (u28 u03))
   (u02 (ub4 (ul1 (ev 0)) (u29 4 sc_jaj.nd) (u02 (s_if (u20 (x_eq hr) (e_ix x_ix (ev 4) u04) u12 (nomark _)) (u06 (u09 4 sc_jaj.nd (u44 (u00 u12 (u00 (ec T.f_jaw T.g_law_swap G_jaw hr (u00 (e_ix x_ix (ev 4) u04) (u00 (ev 1) (u00 (ev 2) (u00 e_bl u03))))) (u00 (ec T.f_jaw T.g_law_swap G_jaw hr (u00 (e_ix x_ix (ev 4) u04) (u00 (ev 1) (u00 (ev 2) (u00 e_bl u03))))) u03)))))) (u06 (s_if (u20 (x_eq hr) (e_ix x_ix (ev 4) u04) u12 (nomark _)) (u02 (u09 5 sc_jaj.nd (ec T.f_jaw T.g_law_swap G_jaw hr (u00 (e_ix x_ix (ev 4) u04) (u00 (ev 1) (u00 (ev 2) (u00 e_bl u03))))))
   (u02 (u09 6 sc_jaj.nd (ec T.f_jaw T.g_law_swap G_jaw hr (u00 (e_ix x_ix (ev 4) u04) (u00 (ev 1) (u00 (ev 2) (u00 e_bl u03))))))
   (u06 (u09 4 sc_jaj.nd (u44 (u00 u12 (u00 (ev 5) (u00 (e_ix x_ix (ev 4) u04) (u00 (ev 6) (u00 (ec T.f_jaw T.g_law_swap G_jaw hr (u00 (e_ix x_ix (ev 4) u04) (u00 (ev 1) (u00 (ev 2) (u00 e_bl u03))))) u03)))))))))) (u06 (s_if (u20 (x_eq hr) (e_ix x_ix (ev 4) u04) u12 (nomark _)) (u02 (u09 6 sc_jaj.nd (ec T.f_jaw T.g_law_swap G_jaw hr (u00 (e_ix x_ix (ev 4) u04) (u00 (ev 1) (u00 (ev 2) (u00 e_bl u03))))))
   (u02 (u09 7 sc_jaj.nd (ec T.f_jaj T.g_law_bent G_jaj hr (u00 (e_ix x_ix (ev 4) u04) (u00 (ev 1) (u00 (ev 2) u03)))))
   (u06 (u09 4 sc_jaj.nd (u44 (u00 u12 (u00 (ev 6) (u00 (ev 7) (u00 (ec T.f_jaj T.g_law_bent G_jaj hr (u00 (e_ix x_ix (ev 4) u04) (u00 (ev 1) (u00 (ev 2) u03)))) u03))))))))) (u06 (u09 4 sc_jaj.nd (u44 (u00 u12 (u00 (e_ix x_ix (ev 4) u04) (u00 (ec T.f_jaj T.g_law_bent G_jaj hr (u00 (e_ix x_ix (ev 4) u04) (u00 (ev 1) (u00 (ev 2) u03)))) u03)))))))))))
   (u06 (u59 (u92 (ev 3) (u00 (ev 4) u03))))))
   (u06 (u26 (u45 u68 rfl T.b_tuple (by decide) (u00 (ev 3) u03))))))) (fun ds G R h=>?_)
 ·obtain ⟨rs,sp,se,kvs,k,rfl,_⟩:=h;rfl
 ·obtain ⟨rs,sp,se,kvs,k,rfl,hsp,hD,hse,ns,ht,hd,hs,post⟩:=h
  simp! [id];refine ⟨by decide,fun p hp=>?_⟩;have np:p ≠ se:=gne' hp hse;have S0:SnA se G (gup G p (.lst [])):=⟨⟨k,by rw [u08 (Ne.symm np)];exact hse⟩,fun b o n e=>by rw [u08 (gne e hp)];exact e⟩;dsimp! [id];refine u34 (fun r σ G'=>∃ (l t l':List Rowp) (v4 v5 v6 v7:Option D),l++t=rs /\ r=u07 t /\ SnA se G G' /\ G' p=some (.lst (u07 l')) /\ tL l' /\ depL l'=depL l /\ szL l'=szL l /\ l'.length=l.length /\ σ=[some (.tup (u07 rs)),some (.ref sp),some (.ref se),some (.ref p),v4,v5,v6,v7]) ⟨[],rs,[],none,none,none,none,rfl,rfl,S0,u01,trivial,rfl,rfl,rfl,rfl⟩ ?_ ?_
  ·rintro σ G1 ⟨l,t,l',v4,v5,v6,v7,e,e2,S1,kp,t1,t2,t3,t4,rfl⟩
   have h0:t=[]:=by
    cases t with
    | nil=>rfl
    | cons x t=>cases e2
   subst h0;rw [List.append_nil] at e;subst e;refine ⟨trivial,?_⟩;dsimp! [kp,u15];exact post l' G1 t1 t2 t3 t4 S1
  ·rintro x r σ G1 ⟨l,t,l',v4,v5,v6,v7,e,e2,S1,kp,t1,t2,t3,t4,rfl⟩ ih
   cases t with
   | nil=>cases e2
   | cons r0 t =>
    cases e2;refine ⟨trivial,?_⟩;have hm:r0 ∈ rs:=by rw [<- e];simp
    have hdr:=ub6 (Nat.le_of_lt_succ hd) r0 hm;have hsr:=v92 hm;have hll:l.length<=60:=by
     have:=un9 rs;have:=congrArg List.length e;rw [List.length_append] at this;omega
    have htr:=v90 ht hm;generalize hFL:forL _ _ _ _ (u07 t)=FL at ih ⊢;have nxt:∀ (G2:Gp) (r':Rowp) (v4 v5 v6 v7:Option D),tR r'->depR r'=depR r0->szR r'=szR r0->SnA se G G2->G2 p=some (.lst (u07 (l'++[r'])))->FL [some (.tup (u07 rs)),some (.ref sp),some (.ref se),some (.ref p),v4,v5,v6,v7] G2:=fun G2 r' v4 v5 v6 v7 q1 q2 q3 q4 q5=>ih _ _ ⟨l++[r0],t,l'++[r'],v4,v5,v6,v7,by rw [<- e];simp,rfl,q4,q5,tL_app.mpr ⟨t1,q1,trivial⟩,by rw [u46,u46,t2];show max _ (max (depR r') 0)=max _ (max (depR r0) 0);rw [q2],by rw [u55,u55,t3];show _+(szR r'+0)=_+(szR r0+0);rw [q3],by rw [List.length_append,List.length_append,t4];rfl,rfl⟩
    have own:∀ {G2:Gp} {o:DO},SnA se G G2->SnA se G (gup G2 p o):=fun {G2 o} z=>⟨(let ⟨k,h⟩:=z.at_;⟨k,by rw [u08 (Ne.symm np)];exact h⟩),fun b o' n e'=>by rw [u08 (gne e' hp)];exact z.kp b o' n e'⟩
    have hsp1:=S1.kp _ _ ns hsp;obtain ⟨k1,hk1⟩:=S1.at_
    cases r0 with
    | is x a =>
     simp! [rowD];refine ue4 T (a:=.box x) hsp1 hD hk1 htr.1 (fun _=>⟨x,rfl⟩) fun a2 G2 u1 u2 u3=>?_
     obtain ⟨x2,rfl⟩:=u2 rfl;obtain ⟨k2,hk2⟩:=u3.at_
     refine ue4 T (u3.kp _ _ ns hsp1) hD hk2 htr.2 (fun z=>nomatch z) fun a3 G3 w1 w2 w3=>?_
     have kp3:=w3.kp _ _ np (u3.kp _ _ np kp);refine ⟨by decide,?_⟩;dsimp! [kp3];have er:u07 l'++[D.tup [D.str "is",aD (.box x2),aD a3]]=u07 (l'++[.is x2 a3]):=by rw [u41];rfl
     rw [er];exact ⟨Nat.lt_of_le_of_lt (m:=1000) (by rw [u40];omega) (by decide),nxt _ (.is x2 a3) _ _ _ _ ⟨u1,w1⟩ rfl rfl (own ((S1.trans u3).trans w3)) u01⟩
    | op x o a b =>
     have d1:(Str.ofString "op" = Str.ofString "is")=False:=eq_false (by decide);simp! [rowD,d1];refine ue4 T (a:=.box x) hsp1 hD hk1 htr.1 (fun _=>⟨x,rfl⟩) fun a2 G2 u1 u2 u3=>?_
     obtain ⟨x2,rfl⟩:=u2 rfl;obtain ⟨k2,hk2⟩:=u3.at_
     have hsp2:=u3.kp _ _ ns hsp1;simp! [id];dsimp! [id];refine ue4 T hsp2 hD hk2 htr.2.2.1 (fun z=>nomatch z) fun a3 G3 w1 w2 w3=>?_
     obtain ⟨k3,hk3⟩:=w3.at_
     have hsp3:=w3.kp _ _ ns hsp2;simp! [id];dsimp! [id];refine ue4 T hsp3 hD hk3 htr.2.2.2 (fun z=>nomatch z) fun a4 G4 y1 y2 y3=>?_
     have kp4:=y3.kp _ _ np (w3.kp _ _ np (u3.kp _ _ np kp));refine ⟨by decide,?_⟩;dsimp! [kp4];have er:u07 l'++[D.tup [D.str "op",aD (.box x2),D.str o,aD a3,aD a4]]=u07 (l'++[.op x2 o a3 a4]):=by rw [u41];rfl
     rw [er];exact ⟨Nat.lt_of_le_of_lt (m:=1000) (by rw [u40];omega) (by decide),nxt _ (.op x2 o a3 a4) _ _ _ _ ⟨u1,htr.2.1,w1,y1⟩ rfl rfl (own (((S1.trans u3).trans w3).trans y3)) u01⟩
    | cho a ys ns2 =>
     have d1:(Str.ofString "choose" = Str.ofString "is")=False:=eq_false (by decide);have d2:(Str.ofString "choose" = Str.ofString "op")=False:=eq_false (by decide);have hd':1+max (depL ys) (depL ns2)<=dp:=hdr;have hs':1+szL ys+szL ns2<=szL rs:=hsr;simp! [rowD,d1,d2];refine ue4 T hsp1 hD hk1 htr.1 (fun z=>nomatch z) fun a2 G2 u1 u2 u3=>?_
     obtain ⟨k2,hk2⟩:=u3.at_
     have hsp2:=u3.kp _ _ ns hsp1;simp! [id];dsimp! [id];refine up4 T hsp2 hD hk2 ns htr.2.1 (by omega) (by omega) fun ys' G3 w1 w2 w3 w4 w5=>?_
     obtain ⟨k3,hk3⟩:=w5.at_
     have hsp3:=w5.kp _ _ ns hsp2;simp! [id];dsimp! [id];refine up4 T hsp3 hD hk3 ns htr.2.2 (by omega) (by omega) fun ns' G4 y1 y2 y3 y4 y5=>?_
     have kp4:=y5.kp _ _ np (w5.kp _ _ np (u3.kp _ _ np kp));refine ⟨by decide,?_⟩;dsimp! [kp4];have er:u07 l'++[D.tup [D.str "choose",aD a2,D.tup (u07 ys'),D.tup (u07 ns')]]=u07 (l'++[.cho a2 ys' ns']):=by rw [u41];rfl
     rw [er];exact ⟨Nat.lt_of_le_of_lt (m:=1000) (by rw [u40];omega) (by decide),nxt _ (.cho a2 ys' ns') _ _ _ _ ⟨u1,w1,y1⟩ (by show 1+max (depL ys') (depL ns')=1+max (depL ys) (depL ns2);rw [w2,y2]) (by show 1+szL ys'+szL ns'=1+szL ys+szL ns2;rw [w3,y3]) (own (((S1.trans u3).trans w5).trans y5)) u01⟩
    | tim k0 ys =>
     have d1:(Str.ofString "times" = Str.ofString "is")=False:=eq_false (by decide);have d2:(Str.ofString "times" = Str.ofString "op")=False:=eq_false (by decide);have d3:(Str.ofString "times" = Str.ofString "choose")=False:=eq_false (by decide);have hd':1+depL ys<=dp:=hdr;have hs':1+szL ys<=szL rs:=hsr;simp! [rowD,d1,d2,d3];refine up4 T hsp1 hD hk1 ns htr.2 (by omega) (by omega) fun ys' G3 w1 w2 w3 w4 w5=>?_
     have kp4:=w5.kp _ _ np kp;refine ⟨by decide,?_⟩;dsimp! [kp4];have er:u07 l'++[D.tup [D.str "times",D.int (k0:Int),D.tup (u07 ys')]]=u07 (l'++[.tim k0 ys']):=by rw [u41];rfl
     rw [er];exact ⟨Nat.lt_of_le_of_lt (m:=1000) (by rw [u40];omega) (by decide),nxt _ (.tim k0 ys') _ _ _ _ ⟨htr.1,w1⟩ (by show 1+depL ys'=1+depL ys;rw [w2]) (by show 1+szL ys'=1+szL ys;rw [w3]) (own (S1.trans w5)) u01⟩
theorem vt7 {n dp:Nat} (G_jax:Ok P w mg base n T.f_jax (ur6 T dp)):Ok P w mg base (n+1) T.f_jax (ur6 T (dp+1)):=by
 refine u43 T.f_jax sc_jax (fun ds G R h=>?_) (fun cdv A outer s H E hr =>
   (u02 (u09 1 sc_jax.nd (u28 u03))
   (u02 (ub4 (ul1 (ev 0)) (u29 2 sc_jax.nd) (u06 (s_if (u20 (x_eq hr) (e_ix x_ix (ev 2) u04) u12 (nomark _)) (u06 (u59 (vz6 (ev 1) (u00 (e_sl vb7 (ev 2) (u79 u04) ua0) u03)))) (u06 (s_if (u20 (x_eq hr) (e_ix x_ix (ev 2) u04) u12 (nomark _)) (u06 (u59 (ug8 (ev 1) (u00 (u28 (u00 (e_ix x_ix (ev 2) u04) (u00 (e_ix x_ix (ev 2) u04) (u00 (e_ix x_ix (ev 2) u04) u03)))) u03)))) (u06 (s_if (u20 (x_eq hr) (e_ix x_ix (ev 2) u04) u12 (nomark _)) (u06 (u59 (ug8 (ev 1) (u00 (u10 u35 (u10 u35 (u28 (u00 (e_ix x_ix (ev 2) u04) u03)) (ec T.f_jax T.g_law_things G_jax hr (u00 (e_ix x_ix (ev 2) u04) u03))) (ec T.f_jax T.g_law_things G_jax hr (u00 (e_ix x_ix (ev 2) u04) u03))) u03)))) (u06 (u59 (ug8 (ev 1) (u00 (ec T.f_jax T.g_law_things G_jax hr (u00 (e_ix x_ix (ev 2) u04) u03)) u03)))))))))))
   (u06 (u26 (ev 1)))))) (fun ds G R h=>?_)
 ·obtain ⟨rs,rfl,_⟩:=h;rfl
 ·obtain ⟨rs,rfl,hd,hs,post⟩:=h
  simp! [id];refine ⟨by decide,fun p hp=>?_⟩;dsimp! [id];refine u34 (fun r σ G'=>∃ (l t:List Rowp) (v2:Option D),l++t=rs /\ r=u07 t /\ Grow G G' /\ G' p=some (.lst ((thL l).map aD)) /\ σ=[some (.tup (u07 rs)),some (.ref p),v2]) ⟨[],rs,none,rfl,rfl,Grow.refl.new hp,u01,rfl⟩ ?_ ?_
  ·rintro σ G1 ⟨l,t,v2,e,e2,g,kp,rfl⟩
   have h0:t=[]:=by
    cases t with
    | nil=>rfl
    | cons x t=>cases e2
   subst h0;rw [List.append_nil] at e;subst e;refine ⟨trivial,?_⟩;dsimp! [id];exact post p G1 hp kp g
  ·rintro x r σ G1 ⟨l,t,v2,e,e2,g,kp,rfl⟩ ih
   cases t with
   | nil=>cases e2
   | cons r0 t =>
    cases e2;refine ⟨trivial,?_⟩;have hm:r0 ∈ rs:=by rw [<- e];simp
    have hdr:=ub6 (Nat.le_of_lt_succ hd) r0 hm;have hsl:szL l+(szR r0+szL t)=szL rs:=by rw [<- e,u55];rfl
    have hx:((thL l).map aD).length<=3 * szL l:=by rw [List.length_map];exact u61 l
    generalize hFL:forL _ _ _ _ (u07 t)=FL at ih ⊢;have nxt:∀ (G2:Gp) (ys:List D) (v2:Option D),Grow G G2->G2 p=some (.lst ((thL l).map aD++ys))->ys=(thR r0).map aD->FL [some (.tup (u07 rs)),some (.ref p),v2] G2:=fun G2 ys v2 g2 k2 hy=>ih _ _ ⟨l++[r0],t,v2,by rw [<- e];simp,rfl,g2,by rw [k2,hy,uf8];show _=some (DO.lst ((thL l++(thR r0++[])).map aD));rw [List.append_nil,List.map_append],rfl⟩
    obtain ⟨xs,hxs⟩:∃ xs,xs=(thL l).map aD:=⟨_,rfl⟩;rw [<- hxs] at kp hx nxt;cases r0 with
    | is x a =>
     have hc:cutD [D.str "is",.str x,aD a] (some 1) none=[.str x,aD a]:=uz7 (n:=1);simp! [rowD,kp,uf4,hc];exact vz1 kp (by simp only [List.length_cons,List.length_nil];omega) (nxt _ [.str x,aD a] _ (g.own hp) u01 rfl)
    | op x o a b =>
     have d1:(Str.ofString "op" = Str.ofString "is")=False:=eq_false (by decide);simp! [rowD,d1,kp];refine ⟨by decide,fun p1 h1=>?_⟩;rw [u08 (gne kp h1),kp];exact ⟨Nat.le_trans (m:=2000) (by simp only [List.length_cons,List.length_nil];omega) (by decide),nxt _ [.str x,aD a,aD b] _ ((g.new h1).own hp) u01 rfl⟩
    | cho a ys ns =>
     have d1:(Str.ofString "choose" = Str.ofString "is")=False:=eq_false (by decide);have d2:(Str.ofString "choose" = Str.ofString "op")=False:=eq_false (by decide);have hd':1+max (depL ys) (depL ns)<=dp:=hdr;have hs':szR (.cho a ys ns)=1+szL ys+szL ns:=rfl;simp! [rowD,d1,d2,kp];refine ⟨by decide,fun p1 h1=>?_⟩;have g1:Grow G1 (gup G1 p1 (.lst [aD a])):=Grow.refl.new h1;have k1:gup G1 p1 (.lst [aD a]) p1=some (.lst [aD a]):=u01;generalize gup G1 p1 (.lst [aD a])=G2 at *;refine u93 T (by omega) (by omega) fun q3 G3 f3 k3 g3=>?_
     have l3:((thL ys).map aD).length<=3 * szL ys:=by rw [List.length_map];exact u61 ys
     obtain ⟨xs3,h3⟩:∃ xs3,xs3=(thL ys).map aD:=⟨_,rfl⟩;rw [<- h3] at k3 l3;refine add_l (g3.kp _ _ k1) k3 (by simp only [List.length_cons,List.length_nil];omega) fun q4 h4=>?_
     have g4:Grow G3 (gup G3 q4 (.lst ([aD a]++xs3))):=Grow.refl.new h4;have k4:gup G3 q4 (.lst ([aD a]++xs3)) q4=some (.lst ([aD a]++xs3)):=u01;generalize gup G3 q4 (.lst ([aD a]++xs3))=G4 at *;refine u93 T (by omega) (by omega) fun q5 G5 f5 k5 g5=>?_
     have l5:((thL ns).map aD).length<=3 * szL ns:=by rw [List.length_map];exact u61 ns
     obtain ⟨xs5,h5⟩:∃ xs5,xs5=(thL ns).map aD:=⟨_,rfl⟩;rw [<- h5] at k5 l5;refine add_l (g5.kp _ _ k4) k5 (by simp only [List.length_cons,List.length_nil,List.length_append];omega) fun q6 h6=>?_
     have g6:Grow G5 (gup G5 q6 (.lst (([aD a]++xs3)++xs5))):=Grow.refl.new h6;have k6:gup G5 q6 (.lst (([aD a]++xs3)++xs5)) q6=some (.lst (([aD a]++xs3)++xs5)):=u01;generalize gup G5 q6 (.lst (([aD a]++xs3)++xs5))=G6 at *;have gg:=((((g1.trans g3).trans g4).trans g5).trans g6);refine vz0 (gg.kp _ _ kp) k6 (by simp only [List.length_cons,List.length_nil,List.length_append];omega) ?_;exact nxt _ (([aD a]++xs3)++xs5) _ ((g.trans gg).own hp) u01 (by rw [h3,h5];show _=(a::(thL ys++thL ns)).map aD;simp)
    | tim k ys =>
     have d1:(Str.ofString "times" = Str.ofString "is")=False:=eq_false (by decide);have d2:(Str.ofString "times" = Str.ofString "op")=False:=eq_false (by decide);have d3:(Str.ofString "times" = Str.ofString "choose")=False:=eq_false (by decide);have hd':1+depL ys<=dp:=hdr;have hs':szR (.tim k ys)=1+szL ys:=rfl;simp! [rowD,d1,d2,d3,kp];refine u93 T (by omega) (by omega) fun q3 G3 f3 k3 g3=>?_
     have l3:((thL ys).map aD).length<=3 * szL ys:=by rw [List.length_map];exact u61 ys
     refine vz0 (g3.kp _ _ kp) k3 (by omega) ?_;exact nxt _ ((thL ys).map aD) _ ((g.trans g3).own hp) u01 rfl
theorem vt9 {n:Nat} (G_jao:Ok P w mg base n T.f_jao (ud2 T)) (G_jaj:Ok P w mg base n T.f_jaj (w11 T)) (G_jax:Ok P w mg base n T.f_jax (vm3 T)):Ok P w mg base (n+1) T.f_jav (vm4 T):=by
 refine u43 T.f_jav sc_jav (fun ds G R h=>?_) (fun cdv A outer s H E hr =>
   (u02 (ui2 (ev 0) (vj3 (n:=3) rfl (u62 (u29 3 sc_jav.nd) (u62 (u29 4 sc_jav.nd) (u62 (u29 5 sc_jav.nd) ux4)))))
   (u02 (u09 6 sc_jav.nd (u13 uf3 rfl T.b_len (by decide) (u00 (ec T.f_jax T.g_law_things G_jax hr (u00 (ev 5) u03)) u03)))
   (u02 (u09 7 sc_jav.nd uz0)
   (u02 (ub4 (uj2 rfl T.b_range (u00 (ev 2) u03)) (u29 8 sc_jav.nd) (u02 (u09 9 sc_jav.nd (ec T.f_jao T.g_law_next G_jao hr (u00 (ev 1) (u00 u04 u03))))
   (u02 (u09 10 sc_jav.nd (e_ix x_ix (ev 4) (ec T.f_jao T.g_law_next G_jao hr (u00 (ev 1) (u00 (u13 uf3 rfl T.b_len (by decide) (u00 (ev 4) u03)) u03)))))
   (u02 (u09 11 sc_jav.nd (u28 (u00 (u10 uk0 u04 (ev 3)) (u00 u04 (u00 (u10 u35 (u10 uk0 u04 (ev 3)) (u10 ua2 (ec T.f_jao T.g_law_next G_jao hr (u00 (ev 1) (u00 u04 u03))) (u13 um2 rfl T.b_max (by decide) (u00 u04 (u00 (u10 up6 u04 (u10 uk0 u04 (ev 3))) u03))))) u03)))))
   (u02 (u09 12 sc_jav.nd (e_sl vb6 (e_ix x_ix (u28 (u00 (u10 u35 (ev 10) u12) (u00 (u10 u35 u12 (ev 10)) (u00 (u10 u35 (e_sl vb6 (ev 10) (u79 u04) ua0) u12) (u00 u12 (u00 (e_sl vb6 (ev 10) ua0 (u79 (e_un v17 u04))) u03)))))) (ec T.f_jao T.g_law_next G_jao hr (u00 (ev 1) (u00 u04 u03)))) ua0 (u79 u04)))
   (u02 (s_if (u20 (x_in hr) (ev 12) (u44 (u00 u12 (u00 u12 (u00 u12 (u00 u12 (u00 u12 (u00 u12 (u00 u12 u03)))))))) (by with_unfolding_all rfl)) (u06 (u09 12 sc_jav.nd u12)) u25)
   (u06 (s_if (t_w (w_and (u20 (x_lt) (ev 9) u04 (nomark _)) (u87 (u20 (x_lt) (ev 3) u04 (nomark _))))) (u06 (uk4 hr (ev 7) (ec T.f_jao T.g_law_next G_jao hr (u00 (ev 1) (u00 (u13 um2 rfl T.b_max (by decide) (u00 u04 (u00 (ev 6) u03))) u03))) (e_ix x_ix (ev 11) (ec T.f_jao T.g_law_next G_jao hr (u00 (ev 1) (u00 u04 u03)))))) (u06 (s_if (u20 (x_lt) (ev 9) u04 (nomark _)) (u06 (uk4 hr (ev 7) (ec T.f_jao T.g_law_next G_jao hr (u00 (ev 1) (u00 (u13 um2 rfl T.b_max (by decide) (u00 u04 (u00 (ev 6) u03))) u03))) (ev 12))) (u06 (u09 4 sc_jav.nd (e_sl vb7 (u10 u35 (ev 4) (u44 (u00 (ev 10) u03))) (u79 (e_un v17 u04)) ua0)))))))))))))
   (u06 (u26 (u44 (u00 (ev 3) (u00 (ev 4) (u00 (ec T.f_jaj T.g_law_bent G_jaj hr (u00 (ev 5) (u00 (ev 7) (u00 (u28 (u00 u04 u03)) u03)))) u03))))))))))) (fun ds G R h=>?_)
 ·obtain ⟨W,bs,rs,pr,m,rfl,_⟩:=h;rfl
 ·obtain ⟨W,bs,rs,pr,m,rfl,O,P0,hm,post⟩:=h
  have hW:=O.w2;have hsz:=O.s;unfold prD at *;simp! [id];dsimp! [id];refine u93 T (dp:=8) (by have:=O.d;omega) O.s fun q1 G1 f1 k1 g1=>?_
  obtain ⟨xs,hxs⟩:∃ xs,xs=(thL rs).map aD:=⟨_,rfl⟩;have l1:xs.length<=3 * szL rs:=by rw [hxs,List.length_map];exact u61 rs
  rw [<- hxs] at k1;generalize hu:dSeq (dAsg vl0 (uk9 7)) _=u;simp! [k1,u15];subst hu;dsimp! [id];intro sp hsp;have A1:=(PAdv.refl P0).grow g1;have np:sp ≠ pr:=A1.at_.ne hsp
  have fsp:G sp=none:=g1.none hsp;have A2:=A1.grow (Grow.refl.new (o:=.dic []) hsp);have k2:gup G1 sp (.dic []) sp=some (.dic []):=u01;generalize gup G1 sp (.dic [])=G2 at *;generalize hu:dRet _=u;dsimp! [id];refine ⟨⟨by omega,by omega⟩,?_⟩;generalize hN:Go (u _)=N;refine u34 (fun r σ G'=>∃ (i c:Nat) (kvs:List (Key × D)) (bs':List Str) (v8 v9 v10 v11 v12:Option D),i+c=m /\ r=rngD (i:Int) c /\ PAdv pr G G' /\ G' sp=some (.dic kvs) /\ SpD kvs /\ kvs.length<=i /\ 1<=bs'.length /\ bs'.length<=6 /\ (∀ b ∈ bs',nmB b=true) /\ σ=[some (.tup [.int (W:Int),.tup (bs.map .str),.tup (u07 rs)]),some (.ref pr),some (.int (m:Int)),some (.int (W:Int)),some (.tup (bs'.map .str)),some (.tup (u07 rs)),some (.int (xs.length:Int)),some (.ref sp),v8,v9,v10,v11,v12]) ⟨0,m,[],bs,none,none,none,none,none,by omega,rfl,A2,k2,(fun kv h=>nomatch h),Nat.zero_le _,O.b1,O.b2,O.bn,rfl⟩ ?_ ?_
  ·rintro σ G3 ⟨i,c,kvs,bs',v8,v9,v10,v11,v12,e,e2,A3,k3,h1,h2,h3,h4,h5,rfl⟩
   refine ⟨trivial,?_⟩;rw [<- hN];clear hN;subst hu;dsimp! [id];refine ⟨by decide,fun p hp=>?_⟩;have nsp:sp ≠ p:=gne k3 hp;have npr:pr ≠ p:=Ne.symm (A3.at_.ne hp);have A4:=A3.grow (Grow.refl.new (o:=.lst [D.int 0]) hp);refine up4 T (dp:=8) (k:=0) (by rw [u08 nsp];exact k3) h1 u01 nsp O.t (by have:=O.d;omega) O.s fun rs' G5 q1' q2 q3 q4 q5=>?_
   refine ⟨by decide,post bs' rs' G5 ⟨O.w1,O.w2,h3,h4,h5,q1',by rw [q2];exact O.d,by rw [q3];exact O.s⟩ ⟨SnA.pu A4.at_ npr q5,fun b o hb eb=>q5.kp b o (gne (A3.kp b o hb eb) hp) (A4.kp b o hb eb)⟩⟩
  ·rintro z r σ G3 ⟨i,c,kvs,bs',v8,v9,v10,v11,v12,e,e2,A3,k3,h1,h2,h3,h4,h5,rfl⟩ ih
   cases c with
   | zero=>cases e2
   | succ c =>
    rw [u33] at e2;cases e2;refine ⟨trivial,?_⟩;generalize hFL:forL _ _ _ _ (rngD _ c)=FL at ih ⊢;simp! [id];refine u19 T A3.at_ (by decide) (by decide) fun x9 G4 y0 y1 a4=>?_
    simp! [id];dsimp! [List.length_map];refine u19 T a4.at_ (by omega) (by omega) fun x10 G5 z0 z1 a5=>?_
    obtain ⟨x10,rfl⟩:=v87 z0;obtain ⟨b,hb⟩:∃ b,bs'[x10]?=some b:=⟨_,List.getElem?_eq_getElem (by omega)⟩;have eb:atI (bs'.map D.str) (x10:Int)=some (.str b):=u50 (by rw [List.getElem?_map,hb];rfl);have hbm:=List.mem_of_getElem? hb;have hbn:=h5 b hbm;obtain ⟨lb,lb8,lb1⟩:=vw3 hbn;simp! [eb];generalize hu2:dSeq (dAsg (dSl xSlX _ _ _) (uk9 12)) _=u2;have A5:=(A3.trans a4).trans a5;have hP:=pw W;have hC:CPow 1 (W:Int):=⟨by omega,by omega,by decide⟩;have hP16:2 ^ W<=65536:=Nat.pow_le_pow_right (n:=2) (by decide) hW;have hP1:1<=2 ^ W:=Nat.two_pow_pos W;have hP15:W < 16->2 ^ W<=32768:=fun z=>Nat.pow_le_pow_right (n:=2) (by decide) (show W<=15 by omega)
    obtain ⟨PP,hPe⟩:∃ PP:Nat,PP=2 ^ W:=⟨_,rfl⟩;rw [<- hPe] at hP hP16 hP1 hP15;dsimp! [hP];refine ⟨hC,hC,?_⟩;refine u19 T A5.at_ (by decide) (by decide) fun x11 G6 w0 w1 a6=>?_
    have A6:=A5.trans a6;obtain ⟨M,hM,hM1,hM2⟩:∃ M:Nat,(if (65536:Int) - (PP:Int) > 1 then (65536:Int) - (PP:Int) else 1)=(M:Int) /\ 1<=M /\ (PP<=32768->M+PP<=65536):=by
     by_cases z:(65536:Int) - (PP:Int) > 1
     ·rw [if_pos z];exact ⟨65536 - PP,by omega,by omega,fun _=>by omega⟩
     ·rw [if_neg z];exact ⟨1,rfl,by decide,fun _=>by omega⟩
    simp! [hM];refine ⟨hC,by omega,?_⟩;refine ⟨by decide,fun p11 h11=>?_⟩;have n11:=A6.at_.ne h11
    have k36:=(((a4.trans a5).trans a6)).kp _ _ np k3;have nsp11:p11 ≠ sp:=gne' h11 k36;have A7:=A6.grow (Grow.refl.new (o:=.lst [D.int (PP:Int),D.int 65535,D.int ((PP:Int)+x11 % (M:Int))]) h11);have k37:gup G6 p11 (.lst [D.int (PP:Int),D.int 65535,D.int ((PP:Int)+x11 % (M:Int))]) sp=some (.dic kvs):=by rw [u08 (Ne.symm nsp11)];exact k36
    have k11:gup G6 p11 (.lst [D.int (PP:Int),D.int 65535,D.int ((PP:Int)+x11 % (M:Int))]) p11=some (.lst [D.int (PP:Int),D.int 65535,D.int ((PP:Int)+x11 % (M:Int))]):=u01;generalize gup G6 p11 (.lst [D.int (PP:Int),D.int 65535,D.int ((PP:Int)+x11 % (M:Int))])=G7 at *;subst hu2;generalize hu3:dSeq (dIfS (dB (dOp (xInB false) (dVar 12) _)) _ _) _=u3;refine go_i ?_;simp! [id];have lz1:(Str.ofString "z").length=1:=by decide
    have lz2:(Str.ofString "zz").length=2:=by decide
    have lz3:(Str.ofString "qqq").length=3:=by decide
    have hbs:b.length<=sizeLine:=Nat.le_trans lb8 (by decide);have sl1:=Txt.slice_le b (some 1) none;have sl2:=Txt.slice_le b none (some (-1));refine vm1 (by omega) (vm1 (by omega) ⟨b,rfl,hbs,vm1 (by omega) ⟨b,rfl,hbs,?_⟩⟩);refine ⟨by decide,fun p12 h12=>?_⟩;obtain ⟨BB,hBB⟩:∃ BB:List Str,BB=[b ++ "z", "zz" ++ b,Txt.slice b (some 1) none ++ "qqq", "z",Txt.slice b none (some (-1))]:=⟨_,rfl⟩;have n12:=A7.at_.ne h12
    have A8:=A7.grow (Grow.refl.new (o:=.lst (BB.map .str)) h12);have eo:[D.str (b++Str.ofString "z"),D.str (Str.ofString "zz" ++ b),D.str (Txt.slice b (some 1) none++Str.ofString "qqq"),D.str "z",D.str (Txt.slice b none (some (-1)))]=BB.map D.str:=by rw [hBB];rfl
    rw [eo];refine u19 T A8.at_ (by decide) (by decide) fun x12 G9 w2 w3 a9=>?_
    have k9:=a9.kp _ _ n12 u01;have A9:=A8.trans a9;have k39:=a9.kp _ _ np ((Grow.refl.new (o:=.lst (BB.map .str)) h12).kp _ _ k37);have k119:=a9.kp _ _ n11 ((Grow.refl.new (o:=.lst (BB.map .str)) h12).kp _ _ k11);obtain ⟨x12,rfl⟩:=v87 w2;have hB5:BB.length=5:=by rw [hBB];rfl
    have hBl:∀ z ∈ BB,ltr z=true /\ z.length<=20:=by
     rw [hBB];intro z hz;simp only [List.mem_cons,List.not_mem_nil,or_false] at hz
     rcases hz with rfl | rfl | rfl | rfl | rfl
     ·exact ⟨by rw [u96,lb];decide,by rw [um0,lz1];omega⟩
     ·exact ⟨by rw [u96,lb];decide,by rw [um0,lz2];omega⟩
     ·exact ⟨by rw [u96,uv7 lb];decide,by rw [um0,lz3];omega⟩
     ·exact ⟨by decide,by decide⟩
     ·exact ⟨uv7 lb _ _,by omega⟩
    obtain ⟨z,hz⟩:∃ z,BB[x12]?=some z:=⟨_,List.getElem?_eq_getElem (by omega)⟩;have ez:atI (BB.map D.str) (x12:Int)=some (.str z):=u50 (by rw [List.getElem?_map,hz];rfl);obtain ⟨lz,lz20⟩:=hBl z (List.mem_of_getElem? hz);clear hBB eo;simp! [k9,u15,ez];refine ⟨z,rfl,Nat.le_trans lz20 (by decide),?_⟩;have ly:=uv7 lz none (some 8);have ly8:=sl8 z;generalize Txt.slice z none (some 8)=y at *;subst hu3;generalize hu4:dIfS (dAnd (dB (dOp xLt (dVar 9) (dC (D.int 3)))) _) _ _=u4;refine go_i ?_;simp! [id];refine ⟨by decide,ua4 (neg:=false) (ws:=WD7) ?_⟩;have rest:∀ y:Str,nmB y=true->Go (u4 { nx:=FL,rt:=R,bk:=N,ct:=FL }) [some (D.tup [D.int (W:Int),D.tup (List.map D.str bs),D.tup (u07 rs)]),some (D.ref pr),some (D.int (m:Int)),some (D.int (W:Int)),some (D.tup (List.map D.str bs')),some (D.tup (u07 rs)),some (D.int (xs.length:Int)),some (D.ref sp),some (D.int (i:Int)),some (D.int x9),some (D.str b),some (D.ref p11),some (D.str y)] G9:=by
     intro y hy;subst hu4;refine go_i ?_;have hmx:∃ mx:Nat,(if (xs.length:Int) > 1 then (xs.length:Int) else 1)=(mx:Int) /\ 1<=mx /\ mx<=1000:=by
      by_cases z:(xs.length:Int) > 1
      ·rw [if_pos z];exact ⟨xs.length,rfl,by omega,by omega⟩
      ·rw [if_neg z];exact ⟨1,rfl,by decide,by decide⟩
     obtain ⟨mx,emx,hmx1,hmx2⟩:=hmx;have kls:kvs.length < sizeLine:=Nat.lt_of_le_of_lt (m:=100) (by omega) (by decide);have putS:∀ {G10:Gp} {kk:Int} {at0:Atm} {v8 v9 v10 v11 v12:Option D},PAdv pr G G10->G10 sp=some (.dic kvs)->tA at0->FL [some (D.tup [D.int (W:Int),D.tup (List.map D.str bs),D.tup (u07 rs)]),some (D.ref pr),some (D.int (m:Int)),some (D.int (W:Int)),some (D.tup (List.map D.str bs')),some (D.tup (u07 rs)),some (D.int (xs.length:Int)),some (D.ref sp),v8,v9,v10,v11,v12] (gup G10 sp (.dic (ua3 kvs (.inl kk) (aD at0)))):=fun {G10 kk at0 v8 v9 v10 v11 v12} A10 k10 ta=>ih _ _ ⟨i+1,c,ua3 kvs (.inl kk) (aD at0),bs',_,_,_,_,_,by omega,by congr 1,A10.own fsp np,u01,v28 h1 ta,by have:=uu3 kvs (.inl kk) (aD at0);omega,h3,h4,h5,rfl⟩
     simp! [id];generalize hO:@ite _ (decide (x9 < 6)=true) _ _ _=OT;have oth:OT:=by
      rw [<- hO]
      by_cases c3:x9 < 6
      ·rw [if_pos (decide_eq_true c3)]
       simp! [v69,emx];refine u19 T A9.at_ (by omega) (by omega) fun kk G10 g0 g1' a10=>?_
       exact ⟨sp,kvs,.inl kk,rfl,rfl,a10.kp _ _ np k39,kls,putS (at0:=.box y) (A9.trans a10) (a10.kp _ _ np k39) hy⟩
      ·rw [if_neg (by rw [decide_eq_false c3];decide)]
       obtain ⟨bs2,e6,p1,p2,p3⟩:=cut6 (bs:=bs'++[b]) (by simp) (by rw [List.length_append];simp;omega);have e7:bs'.map D.str++[D.str b]=(bs'++[b]).map D.str:=by rw [List.map_append];rfl
       refine ⟨by decide,?_,?_,?_⟩
       ·intro z
        have:=congrArg List.length z;rw [List.length_map,List.length_nil] at this;omega
       ·exact Nat.le_trans (m:=10) (by rw [List.length_map];simp;omega) (by decide)
       ·show xSlT (.tup (bs'.map D.str++[D.str b])) (some (-6)) none G9 _
        rw [e7,uf4,e6];refine ih _ _ ⟨i+1,c,kvs,bs2,_,_,_,_,_,by omega,by congr 1,A9,k39,h1,by omega,p1,p2,fun x hx=>?_,rfl⟩
        rcases List.mem_append.mp (p3 x hx) with z | z
        ·exact h5 x z
        ·rw [List.mem_singleton.mp z];exact hbn
     clear hO
     by_cases c1:x9 < 3
     ·rw [if_pos (decide_eq_true c1)]
      by_cases c2:(W:Int) < 16
      ·rw [if_pos (decide_eq_true c2)]
       have hp15:=hP15 (by omega);simp! [v69,emx];refine u19 T A9.at_ (by decide) (by decide) fun xq G10 g0 g1' a10=>?_
       obtain ⟨nn,en,hn⟩:∃ nn:Nat,atI [D.int (PP:Int),D.int 65535,D.int ((PP:Int)+x11 % (M:Int))] xq=some (.int (nn:Int)) /\ nn<=65535:=by
        have hx11:0<=x11 % (M:Int):=Int.emod_nonneg _ (by omega);have hx12:x11 % (M:Int) < (M:Int):=Int.emod_lt_of_pos _ (by omega);have hMP:=hM2 hp15;have:xq=0 \/ xq=1 \/ xq=2:=by omega
        rcases this with rfl | rfl | rfl
        ·exact ⟨PP,rfl,by omega⟩
        ·exact ⟨65535,rfl,by decide⟩
        ·refine ⟨((PP:Int)+x11 % (M:Int)).toNat,?_,by omega⟩
         show some (D.int ((PP:Int)+x11 % (M:Int)))=_
         rw [Int.toNat_of_nonneg (by omega)]
       simp! [a10.kp _ _ n11 k119,u15,en];refine u19 T a10.at_ (by omega) (by omega) fun kk G11 g2' g3' a11=>?_
       have k311:=(a10.trans a11).kp _ _ np k39;exact ⟨sp,kvs,.inl kk,rfl,rfl,k311,kls,putS (at0:=.num nn) (A9.trans (a10.trans a11)) k311 hn⟩
      ·rw [if_neg (by rw [decide_eq_false c2];decide)]
       exact oth
     ·rw [if_neg (by rw [decide_eq_false c1];decide)]
      exact oth
    by_cases hy:y ∈ WD7
    ·rw [decide_eq_true hy]
     simp! [id];exact rest _ (by decide)
    ·rw [decide_eq_false hy]
     simp! [id];exact rest y (vw1 ly ly8 hy)
theorem vu9 {n:Nat} (G_jax:Ok P w mg base n T.f_jax (vm3 T)):Ok P w mg base (n+1) T.f_jal (v80 T):=by
 refine u43 T.f_jal sc_jal (fun ds G R h=>?_) (fun cdv A outer s H E hr =>
   (u02 (ui2 (ev 0) (vj3 (n:=3) rfl (u62 (u29 1 sc_jal.nd) (u62 (u29 2 sc_jal.nd) (u62 (u29 3 sc_jal.nd) ux4)))))
   (u02 (ub4 (uj2 rfl T.b_range (u00 (u13 uf3 rfl T.b_len (by decide) (u00 (ev 2) u03)) u03)) (u29 4 sc_jal.nd) (u06 (s_if (u20 (x_in hr) (e_ix x_ix (ev 2) (ev 4)) (e_sl vb7 (ev 2) ua0 (u79 (ev 4))) (by with_unfolding_all rfl)) (u06 (u26 (u44 (u00 u12 (u00 (e_ix x_ix (ev 2) (ev 4)) u03))))) u25)))
   (u02 (ub4 (ul1 (ec T.f_jax T.g_law_things G_jax hr (u00 (ev 3) u03))) (u29 5 sc_jal.nd) (u02 (s_if (t_w (w_and (up9 (u13 u85 rfl T.b_isinstance (by decide) (u00 (ev 5) (u00 (ue2 (T := "str") T.b_str (by decide)) u03)))) (u87 (u20 (uk1 hr) (ev 5) (ev 2) (by with_unfolding_all rfl))))) (u06 (u26 (u44 (u00 u12 (u00 (ev 5) u03))))) u25)
   (u06 (s_if (t_w (w_and (w27 (up9 (u13 u85 rfl T.b_isinstance (by decide) (u00 (ev 5) (u00 (ue2 (T := "str") T.b_str (by decide)) u03))))) (u87 (u20 (x_ge) (ev 5) (u10 uk0 u04 (ev 1)) (nomark _))))) (u06 (u26 (u44 (u00 u12 (u00 (ev 5) u03))))) u25))))
   (u06 (u26 uy9)))))) (fun ds G R h=>?_)
 ·obtain ⟨W,bs,rs,rfl,_⟩:=h;rfl
 ·obtain ⟨W,bs,rs,rfl,hl,hW,hd,hs,post⟩:=h
  unfold prD at *;simp! [id];generalize hu:dSeq _ (dRet _)=u;dsimp! [List.length_map];refine ⟨⟨by omega,by omega⟩,?_⟩;generalize hN:Go (u _)=N;refine u34 (fun r σ G'=>∃ (l t:List Str) (v4 v5:Option D),l++t=bs /\ r=rngD (l.length:Int) t.length /\ G'=G /\ dupF [] bs=dupF l t /\ σ=[some (.tup [.int (W:Int),.tup (bs.map .str),.tup (u07 rs)]),some (.int (W:Int)),some (.tup (bs.map .str)),some (.tup (u07 rs)),v4,v5]) ⟨[],bs,none,none,rfl,rfl,rfl,rfl,rfl⟩ ?_ ?_
  ·rintro σ G1 ⟨l,t,v4,v5,e,e2,rfl,ed,rfl⟩
   have ht:t=[]:=by
    cases t with
    | nil=>rfl
    | cons x t=>rw [List.length_cons,u33] at e2;cases e2
   subst ht;have ew:wrP W bs rs=fstW W bs (thL rs):=by unfold wrP;rw [ed];rfl
   rw [ew] at post;refine ⟨trivial,?_⟩;rw [<- hN];clear hN;subst hu;dsimp! [id];refine u93 T (dp:=8) (by omega) hs fun q2 G2 f2 k2 g2=>?_
   simp! [k2,u88];refine u34 (fun r σ G'=>∃ (al at':List Atm) (v5:Option D),al++at'=thL rs /\ r=at'.map aD /\ G'=G2 /\ fstW W bs al=none /\ σ=[some (.tup [.int (W:Int),.tup (bs.map .str),.tup (u07 rs)]),some (.int (W:Int)),some (.tup (bs.map .str)),some (.tup (u07 rs)),v4,v5]) ⟨[],thL rs,v5,rfl,rfl,rfl,rfl,rfl⟩ ?_ ?_
   ·rintro σ G3 ⟨al,at',v5,ea,ea2,rfl,ea3,rfl⟩
    have ht:at'=[]:=by
     cases at' with
     | nil=>rfl
     | cons x t=>cases ea2
    subst ht;rw [List.append_nil] at ea;subst ea;refine ⟨by rw [k2];rfl,?_⟩;dsimp! [id];have:=post _ g2;rw [ea3] at this;exact this
   ·rintro x r σ G3 ⟨al,at',v5,ea,ea2,rfl,ea3,rfl⟩ ih
    cases at' with
    | nil=>cases ea2
    | cons a0 at' =>
     cases ea2;refine ⟨by rw [k2];rfl,?_⟩;have nxt:wrA W bs a0=none->∃ (al' at'':List Atm) (v5:Option D),al'++at''=thL rs /\ at'.map aD=at''.map aD /\ G3=G3 /\ fstW W bs al'=none /\ [some (.tup [.int (W:Int),.tup (bs.map .str),.tup (u07 rs)]),some (.int (W:Int)),some (.tup (bs.map .str)),some (.tup (u07 rs)),v4,some (aD a0)]=[some (.tup [.int (W:Int),.tup (bs.map .str),.tup (u07 rs)]),some (.int (W:Int)),some (.tup (bs.map .str)),some (.tup (u07 rs)),v4,v5]:=fun h=>⟨al++[a0],at',some (aD a0),by rw [<- ea];simp,rfl,rfl,by rw [u38 ea3,fstW,h];rfl,rfl⟩
     have stop:∀ w,wrA W bs a0=some w->R (wrD (some w)) G3:=fun w h=>by
      have:=post _ g2;rw [<- ea,u38 ea3,fstW,h] at this;exact this
     cases a0 with
     | num i =>
      simp! [aD];refine ⟨.inr (.inl trivial),?_⟩;have s1:subK "int" "str" = false:=rfl;simp! [s1];dsimp! [s1];refine ⟨.inr (.inl trivial),?_⟩;simp! [s1];refine ⟨⟨by omega,by omega,by decide⟩,?_⟩;have ew:(1 * 2 ^ W<=(i:Int)) ↔ ¬ i < 2 ^ W:=by
       have:((2 ^ W:Nat):Int)=2 ^ W:=by simp
       rw [Int.one_mul,<- this];omega
      by_cases hi:i < 2 ^ W
      ·rw [if_neg (by rw [decide_eq_true_eq,ew];exact fun z=>z hi)]
       exact ih _ _ (nxt (if_pos hi))
      ·rw [if_pos (by rw [decide_eq_true_eq,ew];exact hi)]
       exact ⟨by decide,stop _ (if_neg hi)⟩
     | box x =>
      simp! [aD];refine ⟨.inr (.inl trivial),?_⟩;have s1:subK "str" "str" = true:=rfl;simp! [s1];refine ua4 ?_;rw [if_pos rfl]
      by_cases hi:x ∈ bs
      ·rw [decide_eq_true hi]
       simp! [id];dsimp! [s1];refine ⟨.inr (.inl trivial),?_⟩;simp! [s1];exact ih _ _ (nxt (if_pos hi))
      ·rw [decide_eq_false hi]
       simp! [id];exact ⟨by decide,stop _ (if_neg hi)⟩
  ·rintro x r σ G1 ⟨l,t,v4,v5,e,e2,rfl,ed,rfl⟩ ih
   cases t with
   | nil=>cases e2
   | cons b t =>
    rw [List.length_cons,u33] at e2;cases e2;refine ⟨trivial,?_⟩;have eb:atI (bs.map D.str) (l.length:Int)=some (.str b):=u50 (by rw [List.getElem?_map,<- e];simp);have hc:cutD (bs.map D.str) none (some (l.length:Int))=(bs.take l.length).map D.str:=by rw [up0,List.map_take]
    simp! [eb,uf4,hc];refine ua4 ?_;have ed2:dupF [] bs=if b ∈ bs.take l.length then some (.tw b) else dupF (l++[b]) t:=ed.trans (v65 bs e)
    rw [if_neg Bool.false_ne_true]
    by_cases hi:b ∈ bs.take l.length
    ·rw [decide_eq_true hi]
     rw [if_pos hi] at ed2;have:=post G1 Grow.refl;unfold wrP at this;rw [ed2] at this;simp! [id];exact ⟨by decide,this⟩
    ·rw [decide_eq_false hi]
     rw [if_neg hi] at ed2;simp! [id];exact ih _ _ ⟨l++[b],t,some (.int (l.length:Int)),v5,by rw [<- e];simp,by rw [List.length_append];rfl,rfl,ed2,rfl⟩
theorem vu8 {n:Nat}:OkM P w mg base (n+1) T.f_jam (vm8 T):=by
 refine vk5 T.f_jam sc_jam (fun ds G R h=>?_) (fun cdv A outer s H E hr =>
   (u02 (u09 1 sc_jam.nd (u28 (u00 (u13 (us2 (K:=K) T.e_LitterError.C) rfl T.b_isinstance (by decide) (u00 (ev 0) (u00 (v64 T.e_TwiceNamed.m) u03))) (u00 (u13 (us2 (K:=K) T.e_LitterError.C) rfl T.b_isinstance (by decide) (u00 (ev 0) (u00 (v64 T.e_NoBox.m) u03))) (u00 (u13 (us2 (K:=K) T.e_LitterError.C) rfl T.b_isinstance (by decide) (u00 (ev 0) (u00 (v64 T.e_TooWide.m) u03))) u03)))))
   (u06 (u26 (u10 u35 (u28 (u00 (u13 (us2 (K:=K) T.e_LitterError.C) rfl T.b_isinstance (by decide) (u00 (ev 0) (u00 (v64 T.e_LitterError.m) u03))) (u00 (u13 (us2 (K:=K) T.e_LitterError.C) rfl T.b_isinstance (by decide) (u00 (ev 0) (u00 (ue2 (T := "ValueError") T.b_ValueError (by decide)) u03))) u03))) (ev 1)))))) (fun ds G R h=>?_)
 ·obtain ⟨a,C,fs,rfl,_⟩:=h;rfl
 ·obtain ⟨a,C,fs,rfl,ha,hC,post⟩:=h
  obtain ⟨b1,b2,b3,c,x,e1,e2,e3,hc⟩:∃ b1 b2 b3:Bool,xcIn K C (Value.ref T.e_LitterError.C::VM)=true /\ XcX K C /\ isX C T.e_LitterError.C T.e_TwiceNamed.C=b1 /\ isX C T.e_LitterError.C T.e_NoBox.C=b2 /\ isX C T.e_LitterError.C T.e_TooWide.C=b3 /\ [true,true,b1,b2,b3].count true=3:=by
   rcases hC with rfl | rfl | rfl
   ·exact ⟨true,false,false,T.e_TwiceNamed.xc,T.e_TwiceNamed.x,u63,u64 T.ne_TwiceNamed_NoBox T.e_NoBox.ne,u64 T.ne_TwiceNamed_TooWide T.e_TooWide.ne,rfl⟩
   ·exact ⟨false,true,false,T.e_NoBox.xc,T.e_NoBox.x,u64 T.ne_NoBox_TwiceNamed T.e_TwiceNamed.ne,u63,u64 T.ne_NoBox_TooWide T.e_TooWide.ne,rfl⟩
   ·exact ⟨false,false,true,T.e_TooWide.xc,T.e_TooWide.x,u64 T.ne_TooWide_TwiceNamed T.e_TwiceNamed.ne,u64 T.ne_TooWide_NoBox T.e_NoBox.ne,u63,rfl⟩
  simp! [ha];refine ⟨c,x,⟨_,T.e_TwiceNamed.xc⟩,c,x,⟨_,T.e_NoBox.xc⟩,c,x,⟨_,T.e_TooWide.xc⟩,by decide,fun p hp=>?_⟩;rw [e1,e2,e3];have k1:gup G p (.lst [.bl b1,.bl b2,.bl b3]) a=some (.exc C fs):=by rw [u08 (gne ha hp)];exact ha
  have k2:gup G p (.lst [.bl b1,.bl b2,.bl b3]) p=some (.lst [.bl b1,.bl b2,.bl b3]):=u01;have g1:Grow G (gup G p (.lst [.bl b1,.bl b2,.bl b3])):=Grow.refl.new hp;generalize gup G p (.lst [.bl b1,.bl b2,.bl b3])=G1 at *;dsimp! [k1];refine ⟨c,x,⟨_,T.e_LitterError.xc⟩,c,x,by decide,fun p2 hp2=>?_⟩;refine add_l u01 (by rw [u08 (gne k2 hp2)];exact k2) (by simp) fun p3 hp3=>?_
  exact post [true,true,b1,b2,b3] p3 _ hc rfl rfl (g1.none ((Grow.refl.new hp2).none hp3)) u01 (g1.trans ((Grow.refl.new hp2).new hp3))
theorem vt6 {n:Nat} (G_jac:OkX P w mg base n T.f_jac (vn1 T)) (G_jam:OkM P w mg base n T.f_jam (vm8 T)):Ok P w mg base (n+1) T.f_jaz (v08 T):=by
 refine u43 T.f_jaz sc_jaz (fun ds G R h=>?_) (fun cdv A outer s H E hr =>
   (u02 (u09 1 sc_jaz.nd uy9)
   (u02 (u09 2 sc_jaz.nd (u28 (u00 e_bl (u00 e_bl u03))))
   (u02 (w32 (vh1 (ecT T.f_jac T.g_check G_jac hr (u00 (ev 0) u03))) (h_as (K:=K) T.e_LitterError.C 3 T.e_TwiceNamed.m T.e_TwiceNamed.xc (by simp [VM]) sc_jaz.nd (fun _=>(u02 (u09 1 sc_jaz.nd (u44 (u00 u12 (u00 (uy8 (K:=K) T.e_LitterError.C (ev 3)) u03))))
   (u06 (u09 2 sc_jaz.nd (ecM T.f_jam T.g_law_kinds G_jam (hr.markM _) (u00 (ev 3) u03)))))) (h_as (K:=K) T.e_LitterError.C 3 T.e_NoBox.m T.e_NoBox.xc (by simp [VM]) sc_jaz.nd (fun _=>(u02 (u09 1 sc_jaz.nd (u44 (u00 u12 (u00 (uy8 (K:=K) T.e_LitterError.C (ev 3)) u03))))
   (u06 (u09 2 sc_jaz.nd (ecM T.f_jam T.g_law_kinds G_jam (hr.markM _) (u00 (ev 3) u03)))))) (h_as (K:=K) T.e_LitterError.C 3 T.e_TooWide.m T.e_TooWide.xc (by simp [VM]) sc_jaz.nd (fun _=>(u02 (u09 1 sc_jaz.nd (u44 (u00 u12 (u00 (uy8 (K:=K) T.e_LitterError.C (ev 3)) u03))))
   (u06 (u09 2 sc_jaz.nd (ecM T.f_jam T.g_law_kinds G_jam (hr.markM _) (u00 (ev 3) u03)))))) w53))))
   (u02 (s_if (t_w (w_or (u20 (x_ne hr) (vk3 (ev 2) (u00 e_bl u03)) (u10 u35 u04 (u45 uf2 rfl T.b_int (by decide) (u00 (ul4 (um3) (ev 1) uy9 (nomark _)) u03))) (nomark _)) (vo6 (u20 (x_ne hr) (e_sl x_sl (ev 2) ua0 (u79 u04)) (u28 (u00 e_bl (u00 e_bl u03))) (nomark _))))) (u06 (u26 (u44 (u00 u12 (u00 u12 u03))))) u25)
   (u06 (u26 (ev 1)))))))) (fun ds G R h=>?_)
 ·obtain ⟨W,bs,rs,rfl,_⟩:=h;rfl
 ·obtain ⟨W,bs,rs,rfl,hl,hW,hd,post⟩:=h
  unfold prD at *;simp! [id];dsimp! [id];refine ⟨by decide,fun p hp=>?_⟩;have g1:Grow G (gup G p (.lst [.bl true,.bl true])):=Grow.refl.new hp;have k1:gup G p (.lst [.bl true,.bl true]) p=some (.lst ([true,true].map .bl)):=u01;generalize gup G p (.lst [.bl true,.bl true])=G1 at *;generalize hN:dSeq (dIfS _ _ _) _=N;have fin:∀ (o:Option Wrg) (q:Addr) (ks:List Bool) (G2:Gp) (v3:Option D),wrP W bs rs=o->(ks.count true:Int)=2+(if o.isSome then 1 else 0)->ks.take 2=[true,true]->ks.length<=5->G2 q=some (.lst (ks.map .bl))->Grow G G2->Go (N { nx:=fun x G'=>R D.non G',rt:=R }) [some (.tup [.int (W:Int),.tup (bs.map .str),.tup (u07 rs)]),some (wrD o),some (.ref q),v3] G2:=by
   intro o q ks G2 v3 ho hc ht hk k2 g2;rw [<- hN];clear hN;have hb:u80 (ks.map D.bl)=some ks:=uj6 ks;have hcut:cutD (ks.map D.bl) none (some 2)=[.bl true,.bl true]:=by
    rw [show (2:Int)=((2:Nat):Int) from rfl,up0,<- List.map_take,ht];rfl
   have hp2:=fun G' (h:Grow G2 G')=>post _ (g2.trans h)
   rw [ho] at hp2;have two:∀ (p1 p2:Addr),G2 p1=none->gup G2 p1 (.lst [.bl true,.bl true]) p2=none->snap (gup (gup G2 p1 (.lst [.bl true,.bl true])) p2 (.lst [.bl true,.bl true])) 1 (.ref p1)=some (.lst [.bl true,.bl true]) /\ snap (gup (gup G2 p1 (.lst [.bl true,.bl true])) p2 (.lst [.bl true,.bl true])) 1 (.ref p2)=some (.lst [.bl true,.bl true]):=fun p1 p2 h1 h2=>by
    have k1:gup (gup G2 p1 (.lst [.bl true,.bl true])) p2 (.lst [.bl true,.bl true]) p1=some (.lst [.bl true,.bl true]):=by rw [u08 (gne u01 h2)];exact u01
    have k2:gup (gup G2 p1 (.lst [.bl true,.bl true])) p2 (.lst [.bl true,.bl true]) p2=some (.lst [.bl true,.bl true]):=u01
    constructor
    ·show ((u15 (gup (gup G2 p1 (.lst [.bl true,.bl true])) p2 (.lst [.bl true,.bl true]) p1)).bind fun ds=>(ds.mapM (snap _ 0)).map Sn.lst)=_
     rw [k1];rfl
    ·show ((u15 (gup (gup G2 p1 (.lst [.bl true,.bl true])) p2 (.lst [.bl true,.bl true]) p2)).bind fun ds=>(ds.mapM (snap _ 0)).map Sn.lst)=_
     rw [k2];rfl
   have hcc:∀ k:Int,(2+(if o.isSome then 1 else 0):Int)=k->((!decide ((ks.count true:Int)=k))=true)=False:=fun k e=>by
    rw [hc,e];simp
   cases o with
   | none =>
    dsimp! [k2,hb,ui8,hcut,wrD];rw [if_neg (fun z=>by rw [hcc (2+0) rfl] at z;exact z)];refine fun p1 h1=>⟨by decide,fun p2 h2=>⟨1,_,_,true,by decide,(two p1 p2 h1 h2).1,(two p1 p2 h1 h2).2,rfl,?_⟩⟩
    rw [if_neg (by decide)];dsimp! [id];exact hp2 _ ((Grow.refl.new h1).new h2)
   | some w =>
    cases w <;>
    ·dsimp! [k2,hb,ui8,hcut,wrD]
     rw [if_neg (fun z=>by rw [hcc (2+1) rfl] at z;exact z)];refine fun p1 h1=>⟨by decide,fun p2 h2=>⟨1,_,_,true,by decide,(two p1 p2 h1 h2).1,(two p1 p2 h1 h2).2,rfl,?_⟩⟩
     rw [if_neg (by decide)];dsimp! [id];exact hp2 _ ((Grow.refl.new h1).new h2)
  dsimp! [id];refine v05 T (wrP W bs rs) (fun R h=>⟨W,bs,rs,rfl,hl,hW,hd,h⟩) (fun e G2 g2=>?_) fun w e G2 g2=>?_
  ·simp! [id]
   exact fin none p [true,true] _ _ e rfl rfl (by decide) (g2.kp _ _ k1) (g1.trans g2)
  ·cases w with
   | tw x =>
    refine ⟨T.e_TwiceNamed.xc,?_⟩;rw [if_pos u63];intro a ha;refine ⟨T.e_TwiceNamed.xc,T.xa_TwiceNamed,?_⟩;simp! [List.lookup_cons];refine ⟨by decide,?_⟩;dsimp! [id];refine u21 (post:=fun d G'=>∃ (ks:List Bool) (q:Addr),d=.ref q /\ ks.count true=3 /\ ks.take 2=[true,true] /\ ks.length=5 /\ G' q=some (.lst (ks.map .bl)) /\ Grow _ G') (fun R h=>⟨a,T.e_TwiceNamed.C,_,rfl,u01,by simp,fun ks q G' z1 z2 z3 z4 z5 z6=>h _ _ ⟨ks,q,rfl,z1,z2,z3,z5,z6⟩⟩) ?_;rintro d G4 ⟨ks,q,rfl,z1,z2,z3,z4,z5⟩;simp! [id];exact fin _ q ks G4 none e (by rw [z1];rfl) z2 (by omega) z4 ((g1.trans g2).trans ((Grow.refl.new ha).trans z5))
   | nb x =>
    refine ⟨T.e_NoBox.xc,?_⟩;rw [u64 T.ne_NoBox_TwiceNamed T.e_TwiceNamed.ne,if_neg Bool.false_ne_true];refine ⟨T.e_NoBox.xc,?_⟩;rw [if_pos u63];intro a ha;refine ⟨T.e_NoBox.xc,T.xa_NoBox,?_⟩;simp! [List.lookup_cons];refine ⟨by decide,?_⟩;dsimp! [id];refine u21 (post:=fun d G'=>∃ (ks:List Bool) (q:Addr),d=.ref q /\ ks.count true=3 /\ ks.take 2=[true,true] /\ ks.length=5 /\ G' q=some (.lst (ks.map .bl)) /\ Grow _ G') (fun R h=>⟨a,T.e_NoBox.C,_,rfl,u01,by simp,fun ks q G' z1 z2 z3 z4 z5 z6=>h _ _ ⟨ks,q,rfl,z1,z2,z3,z5,z6⟩⟩) ?_;rintro d G4 ⟨ks,q,rfl,z1,z2,z3,z4,z5⟩;simp! [id];exact fin _ q ks G4 none e (by rw [z1];rfl) z2 (by omega) z4 ((g1.trans g2).trans ((Grow.refl.new ha).trans z5))
   | wi x =>
    refine ⟨T.e_TooWide.xc,?_⟩;rw [u64 T.ne_TooWide_TwiceNamed T.e_TwiceNamed.ne,if_neg Bool.false_ne_true];refine ⟨T.e_TooWide.xc,?_⟩;rw [u64 T.ne_TooWide_NoBox T.e_NoBox.ne,if_neg Bool.false_ne_true];refine ⟨T.e_TooWide.xc,?_⟩;rw [if_pos u63];intro a ha;refine ⟨T.e_TooWide.xc,T.xa_TooWide,?_⟩;simp! [List.lookup_cons];refine ⟨by decide,?_⟩;dsimp! [id];refine u21 (post:=fun d G'=>∃ (ks:List Bool) (q:Addr),d=.ref q /\ ks.count true=3 /\ ks.take 2=[true,true] /\ ks.length=5 /\ G' q=some (.lst (ks.map .bl)) /\ Grow _ G') (fun R h=>⟨a,T.e_TooWide.C,_,rfl,u01,by simp,fun ks q G' z1 z2 z3 z4 z5 z6=>h _ _ ⟨ks,q,rfl,z1,z2,z3,z5,z6⟩⟩) ?_;rintro d G4 ⟨ks,q,rfl,z1,z2,z3,z4,z5⟩;simp! [id];exact fin _ q ks G4 none e (by rw [z1];rfl) z2 (by omega) z4 ((g1.trans g2).trans ((Grow.refl.new ha).trans z5))
theorem vt5 {n:Nat} (G_jar:Ok P w mg base n T.f_jar (ur7 T)) (G_jao:Ok P w mg base n T.f_jao (ud2 T)) (G_jaq:Ok P w mg base n T.f_jaq (vm6 T)) (G_jav:Ok P w mg base n T.f_jav (vm4 T)) (G_jal:Ok P w mg base n T.f_jal (v80 T)) (G_jaz:Ok P w mg base n T.f_jaz (v08 T)):OkG P w mg base (n+1) T.f_law (vm2 T):=by
 refine vk6 T.f_law sc_law (fun ds G R h=>?_) (fun cdv A outer s H E hr =>
   (u02 (u09 1 sc_law.nd (ec T.f_jaq T.g_law_program G_jaq hr.room (u00 (ev 0) u03)))
   (u02 (u09 2 sc_law.nd (ec T.f_jar T.g_law_purse G_jar hr.room (u00 (ev 0) (u00 u04 u03))))
   (u02 (u09 3 sc_law.nd (ec T.f_jav T.g_law_spoilt G_jav hr.room (u00 (ev 1) (u00 (ev 2) (u00 (e_ix x_ix (u28 (u00 u04 (u00 u04 (u00 u04 (u00 u04 u03))))) (ec T.f_jao T.g_law_next G_jao hr.room (u00 (ev 2) (u00 u04 u03)))) u03)))))
   (u02 (u09 4 sc_law.nd (ec T.f_jal T.g_law_due G_jal hr.room (u00 (ev 3) u03)))
   (u02 (u09 5 sc_law.nd (u13 (v83 hr.gd hr.room) rfl T.b_repr (by decide) (u00 (ev 3) u03)))
   (u02 (u09 6 sc_law.nd (ec T.f_jaz T.g_law_told G_jaz hr.room (u00 (ev 3) u03)))
   (u02 (s_if (t_w (w_or (u20 (x_ne hr.room) (ev 6) (ev 4) (nomark _)) (vo6 (t_w (w_and (u20 (um3) (ev 4) uy9 (nomark _)) (u87 (up9 (u13 u85 rfl T.b_isinstance (by decide) (u00 (e_ix x_ix (ev 6) u04) (u00 (ue2 (T := "bool") T.b_bool (by decide)) u03)))))))))) (u06 (u26 e_bl)) u25)
   (u06 (u26 (vz8 (ul4 (w21) (ec T.f_jaz T.g_law_told G_jaz hr.room (u00 (ev 1) u03)) uy9 (nomark _)) (vz8 (ul4 (x_eq hr.room) (ec T.f_jaz T.g_law_told G_jaz hr.room (u00 (ev 3) u03)) (ev 4) (nomark _)) (w54 (ul4 (x_eq hr.room) (u13 (v83 hr.gd hr.room) rfl T.b_repr (by decide) (u00 (ev 3) u03)) (ev 5) (nomark _))))))))))))))) (fun ds G R h=>?_)
 ·obtain ⟨a,ns,rfl,_⟩:=h;rfl
 ·obtain ⟨a,ns,rfl,ha,hns,post⟩:=h
  simp! [id];refine u21 (post:=fun d G'=>∃ (W:Nat) (bs:List Str) (rs:List Rowp),d=prD W bs rs /\ PrOk W bs rs /\ bs.Nodup /\ okL W bs rs /\ Grow G G') (fun R h=>⟨a,ns,rfl,by rw [ha];rfl,hns,fun W bs rows G' y1 y2 y3 y4 y5 y6 y7 y8 y9 y10 y11=>h _ _ ⟨W,bs,rows,rfl,⟨y1,y2,y3,y4,y5,ut1 y2 y5 rows y7,y8,y10⟩,y6,y7,y11⟩⟩) ?_;rintro d G1 ⟨W,bs,rs,rfl,O,hnd,hok,g1⟩;have ha1:=g1.kp _ _ ha;simp! [id];dsimp! [id];refine uh4 T (by rw [ha1];rfl) hns (by decide) fun pr G2 f2 P2 g2=>?_
  simp! [id];dsimp! [id];refine ⟨by decide,fun p hp=>?_⟩;have npr:=P2.ne hp;have A3:=(PAdv.refl P2).grow (Grow.refl.new (o:=.lst [D.int 1,D.int 2,D.int 3,D.int 0]) hp);refine u19 T A3.at_ (by decide) (by decide) fun x1 G4 y0 y1 a4=>?_
  have k4:=a4.kp _ _ npr u01;obtain ⟨m,hm1,hm2⟩:∃ m:Nat,atI [D.int 1,D.int 2,D.int 3,D.int 0] x1=some (.int (m:Int)) /\ m<=3:=by
   have:x1=0 \/ x1=1 \/ x1=2 \/ x1=3:=by omega
   rcases this with rfl | rfl | rfl | rfl
   ·exact ⟨1,rfl,by decide⟩
   ·exact ⟨2,rfl,by decide⟩
   ·exact ⟨3,rfl,by decide⟩
   ·exact ⟨0,rfl,by decide⟩
  simp! [k4,u15,hm1];refine u21 (post:=fun d G'=>∃ (bs':List Str) (rs':List Rowp),d=prD W bs' rs' /\ PrOk W bs' rs' /\ PAdv pr G4 G') (fun R h=>⟨W,bs,rs,pr,m,rfl,O,a4.at_,hm2,fun bs' rs' G' z1 z2=>h _ _ ⟨bs',rs',rfl,z1,z2⟩⟩) ?_;rintro d G5 ⟨bs',rs',rfl,O',a5⟩;obtain ⟨w,hw⟩:∃ w,wrP W bs' rs'=w:=⟨_,rfl⟩;have told:∀ (G:Gp) (q:DK),(∀ G',q (wrD w) G')->∃ R,v08 T [prD W bs' rs'] G R /\ ∀ d G',R d G'->q d G':=fun G q h=>u21 (post:=fun d G'=>d=wrD w) (fun R h'=>⟨W,bs',rs',rfl,O'.b2,O'.w2,O'.d,fun G' _=>by rw [hw];exact h' _ _ rfl⟩) fun d G' e=>by subst e;exact h G'
  have told0:∀ (G:Gp) (q:DK),(∀ G',q .non G')->∃ R,v08 T [prD W bs rs] G R /\ ∀ d G',R d G'->q d G':=fun G q h=>u21 (post:=fun d G'=>d=.non) (fun R h'=>⟨W,bs,rs,rfl,O.b2,O.w2,O.d,fun G' _=>by rw [vn9 hnd hok];exact h' _ _ rfl⟩) fun d G' e=>by subst e;exact h G'
  have due:∀ (G:Gp) (q:DK),(∀ G',q (wrD w) G')->∃ R,v80 T [prD W bs' rs'] G R /\ ∀ d G',R d G'->q d G':=fun G q h=>u21 (post:=fun d G'=>d=wrD w) (fun R h'=>⟨W,bs',rs',rfl,O'.b2,O'.w2,O'.d,O'.s,fun G' _=>by rw [hw];exact h' _ _ rfl⟩) fun d G' e=>by subst e;exact h G'
  obtain ⟨tx,htx⟩:=vq3 (W:=W) (bs:=bs') (rs:=rs') O'.w2 O'.b2 O'.bn O'.t O'.d O'.s;have eqw:∀ (neg:Bool) (G:Gp) (q:DK),q (.bl (!neg)) G->xEqB neg (wrD w) (wrD w) G q:=fun neg G q h=>by
   cases w with
   | none=>exact h
   | some v =>
    cases v with
    | tw x=>exact ⟨1,.tup [.str "twice",.str x],.tup [.str "twice",.str x],true,by decide,rfl,rfl,by simp [eqN,eqF,u36],by cases neg <;> exact h⟩
    | nb x=>exact ⟨1,.tup [.str "box",.str x],.tup [.str "box",.str x],true,by decide,rfl,rfl,by simp [eqN,eqF,u36],by cases neg <;> exact h⟩
    | wi x=>exact ⟨1,.tup [.str "wide",.int x],.tup [.str "wide",.int x],true,by decide,rfl,rfl,by simp [eqN,eqF,u36],by cases neg <;> exact h⟩
  simp! [id];dsimp! [id];refine due _ _ fun G6=>?_
  simp! [id];dsimp! [id];refine htx _ _ ?_;simp! [id];dsimp! [id];refine told _ _ fun G7=>?_
  simp! [id];generalize hu:dRet (v70 _ _)=u;dsimp! [id];refine eqw true _ _ ?_;have fin:∀ G8:Gp,Go (u { nx:=fun x G'=>R D.non G',rt:=R }) [some (D.ref a),some (prD W bs rs),some (D.ref pr),some (prD W bs' rs'),some (wrD w),some (D.str tx),some (wrD w)] G8:=fun G8=>by
   rw [<- hu];clear hu;dsimp! [id];refine told0 _ _ fun G9=>?_
   simp! [id];refine told _ _ fun G10=>?_
   refine eqw false _ _ ?_;simp! [id];refine htx _ _ ?_;simp! [id];exact post _
  simp! [id];cases w with
  | none=>exact fin _
  | some v =>
   cases v with
   | tw x =>
    have s1:subK "str" "bool" = false:=rfl;simp! [wrD];refine ⟨.inr (.inr (.inl trivial)),?_⟩;rw [s1,if_neg Bool.false_ne_true];exact fin _
   | nb x =>
    have s1:subK "str" "bool" = false:=rfl;simp! [wrD];refine ⟨.inr (.inr (.inl trivial)),?_⟩;rw [s1,if_neg Bool.false_ne_true];exact fin _
   | wi x =>
    have s1:subK "int" "bool" = false:=rfl;simp! [wrD];refine ⟨.inr (.inr (.inl trivial)),?_⟩;rw [s1,if_neg Bool.false_ne_true];exact fin _
end
end Law
namespace Law
open PySem PySem.Spec PyProof.Rows L2 L3
def noL:W.Frag->Bool
 | []=>true
 | p::r=>(match p.2.data with | .seq _ _=>(match p.2.cls with | .type s=>!(s == "list") | _=>true) | _=>true) && noL r
theorem va3:∀ {K:W.Frag} {a:Addr} {o:Obj} {its:Array Value} {n:Nat},noL K=true->K.lookup a=some o->o.cls=.type "list" -> o.data=.seq its n->False
 | [],a,o,its,n,_,e,_,_=>by cases e
 | p::r,a,o,its,n,h,e,h1,h2=>by
  unfold noL at h;rw [Bool.and_eq_true] at h;rw [List.lookup_cons] at e;split at e
  ·cases e
   have q:=h.1;rw [h2] at q;simp only [h1] at q;exact absurd q (by decide)
  ·exact va3 h.2 e h1 h2
theorem arZ {P:List Value->Prop} (h:P []):∀ us:List Value,us.length=0->P us:=fun us e=>by rw [List.eq_nil_of_length_eq_zero e];exact h
theorem arS {n:Nat} {P:List Value->Prop} (h:∀ (a:Value) (us:List Value),us.length=n->P (a::us)):∀ us:List Value,us.length=n+1->P us:=fun us e=>by
 cases us with
 | nil=>cases e
 | cons a us=>exact h a us (Nat.succ.inj e)
theorem ar1 {P:List Value->Prop} (h:∀ a0,P [a0]):∀ us:List Value,us.length=1->P us:=arS fun a0=>arZ (h a0)
theorem ar2 {P:List Value->Prop} (h:∀ a0 a1,P [a0,a1]):∀ us:List Value,us.length=2->P us:=arS fun a0=>arS fun a1=>arZ (h a0 a1)
theorem ar3 {P:List Value->Prop} (h:∀ a0 a1 a2,P [a0,a1,a2]):∀ us:List Value,us.length=3->P us:=arS fun a0=>arS fun a1=>arS fun a2=>arZ (h a0 a1 a2)
theorem ar4 {P:List Value->Prop} (h:∀ a0 a1 a2 a3,P [a0,a1,a2,a3]):∀ us:List Value,us.length=4->P us:=arS fun a0=>arS fun a1=>arS fun a2=>arS fun a3=>arZ (h a0 a1 a2 a3)
theorem ar5 {P:List Value->Prop} (h:∀ a0 a1 a2 a3 a4,P [a0,a1,a2,a3,a4]):∀ us:List Value,us.length=5->P us:=arS fun a0=>arS fun a1=>arS fun a2=>arS fun a3=>arS fun a4=>arZ (h a0 a1 a2 a3 a4)
theorem ar6 {P:List Value->Prop} (h:∀ a0 a1 a2 a3 a4 a5,P [a0,a1,a2,a3,a4,a5]):∀ us:List Value,us.length=6->P us:=arS fun a0=>arS fun a1=>arS fun a2=>arS fun a3=>arS fun a4=>arS fun a5=>arZ (h a0 a1 a2 a3 a4 a5)
def uy5 {K:W.Frag} {x qual:Str} {st:Stmt} {ps:List Str} {f:Addr} {oc:Value} {od an:Option Addr} {osl:Array (Option Value)} {kV doc pm cdv ct:Value} (l:K.lookup f=some ⟨oc,od,.func (W.fnOf x qual (u24 st) (u17 st) (u05 st) .none kV doc pm an cdv ct),osl⟩)
  (c:W.codeIn K cdv qual=true) (k:W.keepIn K (.ref f)=true) (hb:∀ us:List Value,us.length=ps.length->bindArgs (W.fnOf x qual (u24 st) (u17 st) (u05 st) .none kV doc pm an cdv ct) ⟨us,[]⟩=pure (ps.zip us)):FnAt K x qual st ps :=
 ⟨f,_,⟨oc,od,.none,kV,doc,pm,an,cdv,ct,osl,rfl,l,c⟩,k,.all hb⟩
def DF (K:W.Frag) (x:Str) (st:Stmt):Prop:=∃ (p:Addr) (oc:Value) (od an:Option Addr) (sl:Array (Option Value)) (kV dc pm cd ct:Value),W.nsIn K mainGlobals x=some (some (.ref p)) /\ K.lookup p=some ⟨oc,od,.func (W.fnOf x x (u24 st) (u17 st) (u05 st) .none kV dc pm an cd ct),sl⟩ /\ W.codeIn K cd x=true /\ W.keepIn K (.ref p)=true
def DM (K:W.Frag) (C:Addr) (x q:Str) (st:Stmt):Prop:=∃ (p:Addr) (oc:Value) (od an:Option Addr) (sl:Array (Option Value)) (kV dc pm cd ct:Value),W.findIn K (.ref C) x=some (some (.ref p)) /\ W.isFn K (.ref p)=true /\ K.lookup p=some ⟨oc,od,.func (W.fnOf x q (u24 st) (u17 st) (u05 st) .none kV dc pm an cd ct),sl⟩ /\ W.codeIn K cd q=true /\ W.keepIn K (.ref p)=true
section
variable {K:W.Frag} {h:Heap} {mg:Str->Option Value} {C:Addr} {x q:Str} {st:Stmt} {ps:List Str}
theorem df_m {p:Addr} {oc:Value} {od an:Option Addr} {sl:Array (Option Value)} {kV dc pm cd ct:Value} (a:W.nsIn K mainGlobals x=some (some (.ref p))) (l:K.lookup p=some ⟨oc,od,.func (W.fnOf x x (u24 st) (u17 st) (u05 st) .none kV dc pm an cd ct),sl⟩) (c:W.codeIn K cd x=true) (k:W.keepIn K (.ref p)=true):DF K x st:=⟨p,oc,od,an,sl,kV,dc,pm,cd,ct,a,l,c,k⟩
theorem dm_m {p:Addr} {oc:Value} {od an:Option Addr} {sl:Array (Option Value)} {kV dc pm cd ct:Value} (a:W.findIn K (.ref C) x=some (some (.ref p))) (i:W.isFn K (.ref p)=true) (l:K.lookup p=some ⟨oc,od,.func (W.fnOf x q (u24 st) (u17 st) (u05 st) .none kV dc pm an cd ct),sl⟩) (c:W.codeIn K cd q=true) (k:W.keepIn K (.ref p)=true):DM K C x q st:=⟨p,oc,od,an,sl,kV,dc,pm,cd,ct,a,i,l,c,k⟩
theorem df_f {N:List Str} (_:FnScope N ps (u05 st)) (X:K.In h) (G:h.Ns mainGlobals mg) (hb:∀ kV dc pm an cd ct,∀ us:List Value,us.length=ps.length->bindArgs (W.fnOf x x (u24 st) (u17 st) (u05 st) .none kV dc pm an cd ct) ⟨us,[]⟩=pure (ps.zip us)) (d:DF K x st) :
  ∃ f:FnAt K x x st ps,mg x=some (.ref f.a) /\ ∀ (s:Shared) (us:List Value),us.length=ps.length->BindsTo s f.fd ⟨us,[]⟩ (ps.zip us):=by
 obtain ⟨p,oc,od,an,sl,kV,dc,pm,cd,ct,a,l,c,k⟩:=d;exact ⟨uy5 l c k (hb kV dc pm an cd ct),W.mg_of X G a,fun s us e=>.of_eq (hb kV dc pm an cd ct us e)⟩
theorem dm_f {N:List Str} (_:FnScope N ps (u05 st)) (hb:∀ kV dc pm an cd ct,∀ us:List Value,us.length=ps.length->bindArgs (W.fnOf x q (u24 st) (u17 st) (u05 st) .none kV dc pm an cd ct) ⟨us,[]⟩=pure (ps.zip us)) (d:DM K C x q st) :
  ∃ f:FnAt K x q st ps,W.findIn K (.ref C) x=some (some (.ref f.a)) /\ W.isFn K (.ref f.a)=true:=by
 obtain ⟨p,oc,od,an,sl,kV,dc,pm,cd,ct,a,i,l,c,k⟩:=d;exact ⟨uy5 l c k (hb kV dc pm an cd ct),a,i⟩
end
def v93:Sp3:=fun ds G R=>∃ (a:Addr) (ns:List Int),ds=[.ref a] /\ G a=some (.fro (ns.map .int)) /\ ns.length<=63 /\ ∀ G',R (.bl true) G'
theorem um8 {K:W.Frag} {H:Hp}:∀ ns:List Int,RelDs K H (ns.map D.int) (ns.map V.int)
 | []=>.nil
 | _::ns=>.cons RelD.intI (um8 ns)
theorem vx1 {K:W.Frag} {H:Hp} {a:Addr} {ns:List Int} (hL:noL K=true) (hl:ns.length<=63) (hO:Only H) (hS:SqL K H a (ns.map V.int)):u97 K v93 [.ref a] H (fun v _=>v=.bl true) fun _ _ _=>False:=by
 have ha:∃ o,H a=some (.frz o (.lst (ns.map V.int))):=by
  rcases hS with (h | h) | ⟨o,its,n,h1,h2,_,h3,_⟩
  ·rcases hO a with z | ⟨o,xs,z⟩
   ·rw [h] at z;cases z
   ·rw [h] at z;cases z
  ·exact h
  ·exact (va3 hL h1 h2 h3).elim
 obtain ⟨o,ha⟩:=ha;refine ⟨[.ref a],gup (fun _=>none) a (.fro (ns.map .int)),fun d _=>d=.bl true,.cons ?_ .nil,fun b u e=>?_,⟨a,ns,rfl,u01,hl,fun _=>rfl⟩,fun d G' v H' r _ _ e=>?_⟩
 ·rw [RelD]
 ·by_cases hb:b=a
  ·subst hb
   rw [u01] at e;cases e;exact ⟨o,_,ha,um8 ns⟩
  ·rw [u08 hb] at e;cases e
 ·subst e
  rw [RelD] at r;exact r
end Law
namespace Law
open PySem PySem.Spec PyProof.Rows L2 L3 Rw
theorem txt_mk {K:W.Frag} {h:Heap} {mg:Str->Option Value} (X:K.In h) (G:h.Ns mainGlobals mg) {C_LitterError:Addr} {C_TwiceNamed:Addr} {C_NoBox:Addr} {C_TooWide:Addr} 
  (aC_LitterError:W.nsIn K mainGlobals "LitterError" = some (some (.ref C_LitterError)))
  (aC_TwiceNamed:W.nsIn K mainGlobals "TwiceNamed" = some (some (.ref C_TwiceNamed)))
  (aC_NoBox:W.nsIn K mainGlobals "NoBox" = some (some (.ref C_NoBox)))
  (aC_TooWide:W.nsIn K mainGlobals "TooWide" = some (some (.ref C_TooWide)))
  (pm_2:DM K C_TwiceNamed "__init__" "TwiceNamed.__init__" u37)
  (pm_0:DM K C_NoBox "__init__" "NoBox.__init__" u71)
  (pm_1:DM K C_TooWide "__init__" "TooWide.__init__" u56)
  (pm_5:DF K "check" vf1)
  (pm_7:DF K "check_boxes" ve9)
  (pm_8:DF K "check_rows" ve8)
  (pm_6:DF K "check_atom" vf0)
  (pm_3:DF K "atoms_of" vf3)
  (pm_4:DF K "blocks_of" vf2)
  (pm_18:DF K "_law_purse" ve0)
  (pm_15:DF K "_law_next" ve3)
  (pm_14:DF K "_law_names" v22)
  (pm_16:DF K "_law_number" ve2)
  (pm_10:DF K "_law_atom" ve7)
  (pm_20:DF K "_law_set" vd8)
  (pm_21:DF K "_law_shut" vd7)
  (pm_19:DF K "_law_rows" vd9)
  (pm_17:DF K "_law_program" ve1)
  (pm_23:DF K "_law_swap" vd5)
  (pm_11:DF K "_law_bent" ve6)
  (pm_24:DF K "_law_things" vd4)
  (pm_22:DF K "_law_spoilt" vd6)
  (pm_12:DF K "_law_due" ve5)
  (pm_13:DF K "_law_kinds" ve4)
  (pm_25:DF K "_law_told" vd3)
  (pm_9:DF K "law" vd2)
  (xc_LitterError:xcIn K C_LitterError VM=true)
  (xs_LitterError:W.specialIn K (.ref C_LitterError) "__getattribute__" = some (some (.builtin "type.__getattribute__")))
  (xr_LitterError:W.readsIn K C_LitterError (.type "type")=true)
  (xf_LitterError:W.findCls K (.ref C_LitterError) (.type "type") "__init__" = some (.val (.builtin "ValueError.__init__")))
  (xc_TwiceNamed:xcIn K C_TwiceNamed (.ref C_LitterError::VM)=true)
  (xg_TwiceNamed:W.findIn K (.ref C_TwiceNamed) "__getattribute__" = some (some (.builtin "BaseException.__getattribute__")))
  (xt_TwiceNamed:W.findIn K (.ref C_TwiceNamed) "__getattr__" = some none)
  (xk_TwiceNamed:W.findIn K (.ref C_TwiceNamed) "__class__" = some (some (.builtin "object.__class__")))
  (zn_TwiceNamed:C_TwiceNamed ≠ C_LitterError)
  (xc_NoBox:xcIn K C_NoBox (.ref C_LitterError::VM)=true)
  (xg_NoBox:W.findIn K (.ref C_NoBox) "__getattribute__" = some (some (.builtin "BaseException.__getattribute__")))
  (xt_NoBox:W.findIn K (.ref C_NoBox) "__getattr__" = some none)
  (xk_NoBox:W.findIn K (.ref C_NoBox) "__class__" = some (some (.builtin "object.__class__")))
  (zn_NoBox:C_NoBox ≠ C_LitterError)
  (xc_TooWide:xcIn K C_TooWide (.ref C_LitterError::VM)=true)
  (xg_TooWide:W.findIn K (.ref C_TooWide) "__getattribute__" = some (some (.builtin "BaseException.__getattribute__")))
  (xt_TooWide:W.findIn K (.ref C_TooWide) "__getattr__" = some none)
  (xk_TooWide:W.findIn K (.ref C_TooWide) "__class__" = some (some (.builtin "object.__class__")))
  (zn_TooWide:C_TooWide ≠ C_LitterError)
  (kc_NoBox:W.keepIn K (.ref C_NoBox)=true)
  (xa_NoBox:W.findIn K (.ref C_NoBox) "__setattr__" = some (some (.builtin "object.__setattr__")))
  (xn_NoBox:W.findIn K (.ref C_NoBox) "name" = some none)
  (zn_NoBox_TwiceNamed:C_TwiceNamed ≠ C_NoBox)
  (zn_NoBox_TooWide:C_TooWide ≠ C_NoBox)
  (kc_TooWide:W.keepIn K (.ref C_TooWide)=true)
  (xa_TooWide:W.findIn K (.ref C_TooWide) "__setattr__" = some (some (.builtin "object.__setattr__")))
  (xn_TooWide:W.findIn K (.ref C_TooWide) "number" = some none)
  (zn_TooWide_TwiceNamed:C_TwiceNamed ≠ C_TooWide)
  (zn_TooWide_NoBox:C_NoBox ≠ C_TooWide)
  (kc_TwiceNamed:W.keepIn K (.ref C_TwiceNamed)=true)
  (xa_TwiceNamed:W.findIn K (.ref C_TwiceNamed) "__setattr__" = some (some (.builtin "object.__setattr__")))
  (xn_TwiceNamed:W.findIn K (.ref C_TwiceNamed) "name" = some none)
  (zn_TwiceNamed_NoBox:C_NoBox ≠ C_TwiceNamed)
  (zn_TwiceNamed_TooWide:C_TooWide ≠ C_TwiceNamed)
  (b_ValueError:W.nsIn K mainGlobals "ValueError" = some none)
  (b_abs:W.nsIn K mainGlobals "abs" = some none)
  (b_bool:W.nsIn K mainGlobals "bool" = some none)
  (b_int:W.nsIn K mainGlobals "int" = some none)
  (b_isinstance:W.nsIn K mainGlobals "isinstance" = some none)
  (b_len:W.nsIn K mainGlobals "len" = some none)
  (b_max:W.nsIn K mainGlobals "max" = some none)
  (b_range:W.nsIn K mainGlobals "range" = some none)
  (b_repr:W.nsIn K mainGlobals "repr" = some none)
  (b_str:W.nsIn K mainGlobals "str" = some none)
  (b_sum:W.nsIn K mainGlobals "sum" = some none)
  (b_tuple:W.nsIn K mainGlobals "tuple" = some none) :
  ∃ T:Txt K mg,∀ (s:Shared) (v:Value),BindsTo s T.f_law.fd ⟨[v],[]⟩ [("_law_script",v)]:=by
 obtain ⟨f_TwiceNamed_init,a_2,i_2⟩:=dm_f u54 (fun _ _ _ _ _ _=>ar2 fun _ _=>rfl) pm_2;obtain ⟨f_NoBox_init,a_0,i_0⟩:=dm_f u89 (fun _ _ _ _ _ _=>ar2 fun _ _=>rfl) pm_0;obtain ⟨f_TooWide_init,a_1,i_1⟩:=dm_f u70 (fun _ _ _ _ _ _=>ar2 fun _ _=>rfl) pm_1;obtain ⟨f_jac,g_check,_⟩:=df_f sc_jac X G (fun _ _ _ _ _ _=>ar1 fun _=>rfl) pm_5;obtain ⟨f_jae,g_check_boxes,_⟩:=df_f sc_jae X G (fun _ _ _ _ _ _=>ar1 fun _=>rfl) pm_7;obtain ⟨f_jaf,g_check_rows,_⟩:=df_f sc_jaf X G (fun _ _ _ _ _ _=>ar3 fun _ _ _=>rfl) pm_8;obtain ⟨f_jad,g_check_atom,_⟩:=df_f v97 X G (fun _ _ _ _ _ _=>ar3 fun _ _ _=>rfl) pm_6;obtain ⟨f_jaa,g_atoms_of,_⟩:=df_f v99 X G (fun _ _ _ _ _ _=>ar1 fun _=>rfl) pm_3;obtain ⟨f_jab,g_blocks_of,_⟩:=df_f v98 X G (fun _ _ _ _ _ _=>ar1 fun _=>rfl) pm_4;obtain ⟨f_jar,g_law_purse,_⟩:=df_f sc_jar X G (fun _ _ _ _ _ _=>ar2 fun _ _=>rfl) pm_18;obtain ⟨f_jao,g_law_next,_⟩:=df_f sc_jao X G (fun _ _ _ _ _ _=>ar2 fun _ _=>rfl) pm_15;obtain ⟨f_jan,g_law_names,_⟩:=df_f sc_jan X G (fun _ _ _ _ _ _=>ar1 fun _=>rfl) pm_14;obtain ⟨f_jap,g_law_number,_⟩:=df_f v95 X G (fun _ _ _ _ _ _=>ar2 fun _ _=>rfl) pm_16;obtain ⟨f_jai,g_law_atom,_⟩:=df_f v96 X G (fun _ _ _ _ _ _=>ar3 fun _ _ _=>rfl) pm_10;obtain ⟨f_jat,g_law_set,_⟩:=df_f sc_jat X G (fun _ _ _ _ _ _=>ar3 fun _ _ _=>rfl) pm_20;obtain ⟨f_jau,g_law_shut,_⟩:=df_f sc_jau X G (fun _ _ _ _ _ _=>ar2 fun _ _=>rfl) pm_21;obtain ⟨f_jas,g_law_rows,_⟩:=df_f sc_jas X G (fun _ _ _ _ _ _=>ar4 fun _ _ _ _=>rfl) pm_19;obtain ⟨f_jaq,g_law_program,_⟩:=df_f sc_jaq X G (fun _ _ _ _ _ _=>ar1 fun _=>rfl) pm_17;obtain ⟨f_jaw,g_law_swap,_⟩:=df_f sc_jaw X G (fun _ _ _ _ _ _=>ar4 fun _ _ _ _=>rfl) pm_23;obtain ⟨f_jaj,g_law_bent,_⟩:=df_f sc_jaj X G (fun _ _ _ _ _ _=>ar3 fun _ _ _=>rfl) pm_11;obtain ⟨f_jax,g_law_things,_⟩:=df_f sc_jax X G (fun _ _ _ _ _ _=>ar1 fun _=>rfl) pm_24;obtain ⟨f_jav,g_law_spoilt,_⟩:=df_f sc_jav X G (fun _ _ _ _ _ _=>ar3 fun _ _ _=>rfl) pm_22;obtain ⟨f_jal,g_law_due,_⟩:=df_f sc_jal X G (fun _ _ _ _ _ _=>ar1 fun _=>rfl) pm_12;obtain ⟨f_jam,g_law_kinds,_⟩:=df_f sc_jam X G (fun _ _ _ _ _ _=>ar1 fun _=>rfl) pm_13;obtain ⟨f_jaz,g_law_told,_⟩:=df_f sc_jaz X G (fun _ _ _ _ _ _=>ar1 fun _=>rfl) pm_25;obtain ⟨f_law,g_law,b_law⟩:=df_f sc_law X G (fun _ _ _ _ _ _=>ar1 fun _=>rfl) pm_9;exact ⟨⟨f_TwiceNamed_init,f_NoBox_init,f_TooWide_init,f_jac,g_check,f_jae,g_check_boxes,f_jaf,g_check_rows,f_jad,g_check_atom,f_jaa,g_atoms_of,f_jab,g_blocks_of,f_jar,g_law_purse,f_jao,g_law_next,f_jan,g_law_names,f_jap,g_law_number,f_jai,g_law_atom,f_jat,g_law_set,f_jau,g_law_shut,f_jas,g_law_rows,f_jaq,g_law_program,f_jaw,g_law_swap,f_jaj,g_law_bent,f_jax,g_law_things,f_jav,g_law_spoilt,f_jal,g_law_due,f_jam,g_law_kinds,f_jaz,g_law_told,f_law,g_law,⟨C_LitterError,W.mg_of X G aC_LitterError,xc_LitterError,⟨xs_LitterError,xr_LitterError,xf_LitterError⟩⟩,⟨C_TwiceNamed,W.mg_of X G aC_TwiceNamed,xc_TwiceNamed,⟨xg_TwiceNamed,xt_TwiceNamed,xk_TwiceNamed⟩,zn_TwiceNamed⟩,⟨C_NoBox,W.mg_of X G aC_NoBox,xc_NoBox,⟨xg_NoBox,xt_NoBox,xk_NoBox⟩,zn_NoBox⟩,⟨C_TooWide,W.mg_of X G aC_TooWide,xc_TooWide,⟨xg_TooWide,xt_TooWide,xk_TooWide⟩,zn_TooWide⟩,⟨xc_NoBox,a_0,i_0,kc_NoBox⟩,⟨xa_NoBox,xn_NoBox,xg_NoBox,xt_NoBox⟩,zn_NoBox_TwiceNamed,zn_NoBox_TooWide,⟨xc_TooWide,a_1,i_1,kc_TooWide⟩,⟨xa_TooWide,xn_TooWide,xg_TooWide,xt_TooWide⟩,zn_TooWide_TwiceNamed,zn_TooWide_NoBox,⟨xc_TwiceNamed,a_2,i_2,kc_TwiceNamed⟩,⟨xa_TwiceNamed,xn_TwiceNamed,xg_TwiceNamed,xt_TwiceNamed⟩,zn_TwiceNamed_NoBox,zn_TwiceNamed_TooWide,W.mg_none_of X G b_ValueError,W.mg_none_of X G b_abs,W.mg_none_of X G b_bool,W.mg_none_of X G b_int,W.mg_none_of X G b_isinstance,W.mg_none_of X G b_len,W.mg_none_of X G b_max,W.mg_none_of X G b_range,W.mg_none_of X G b_repr,W.mg_none_of X G b_str,W.mg_none_of X G b_sum,W.mg_none_of X G b_tuple⟩,fun s v=>b_law s [v] rfl⟩
theorem w10 {P:Program} {w:World} {K:W.Frag} {mg:Str->Option Value} {base:Heap} (T:Txt K mg):OkG P w mg base 14 T.f_law (vm2 T):=by
 have H_jar:Ok P w mg base 1 T.f_jar (ur7 T):=vu3 T (n:=0);have H_jao:Ok P w mg base 1 T.f_jao (ud2 T):=vu6 T (n:=0);have H_jan:Ok P w mg base 2 T.f_jan (vm7 T):=vu7 T (n:=1) (FnOk.mono H_jao (by decide));have H_jap:Ok P w mg base 2 T.f_jap (v79 T):=vu5 T (n:=1) (FnOk.mono H_jao (by decide));have H_jai:Ok P w mg base 3 T.f_jai (v09 T):=vv1 T (n:=2) (FnOk.mono H_jao (by decide)) (FnOk.mono H_jap (by decide));have H_jat:Ok P w mg base 4 T.f_jat (v78 T):=vu1 T (n:=3) (FnOk.mono H_jao (by decide)) (FnOk.mono H_jai (by decide));have H_jau:Ok P w mg base 1 T.f_jau (v77 T):=vu0 T (n:=0);have H_jas:Ok P w mg base 5 T.f_jas (vm5 T):=vu2 T (n:=4) (FnOk.mono H_jar (by decide)) (FnOk.mono H_jao (by decide)) (FnOk.mono H_jai (by decide)) (FnOk.mono H_jat (by decide)) (FnOk.mono H_jau (by decide));have H_jaq:Ok P w mg base 6 T.f_jaq (vm6 T):=vu4 T (n:=5) (FnOk.mono H_jar (by decide)) (FnOk.mono H_jao (by decide)) (FnOk.mono H_jan (by decide)) (FnOk.mono H_jas (by decide));have H_jaw:Ok P w mg base 1 T.f_jaw (v76 T):=vt8 T (n:=0);have R_jaj:∀ dp,Ok P w mg base (1+dp) T.f_jaj (ur8 T dp):=by
  intro dp
  induction dp with
  | zero=>exact w16 T
  | succ dp ih=>exact vv0 T (n:=1+dp) (dp:=dp) (FnOk.mono H_jaw (by omega)) ih
 have H_jaj:Ok P w mg base 9 T.f_jaj (w11 T):=R_jaj 8;have R_jax:∀ dp,Ok P w mg base (0+dp) T.f_jax (ur6 T dp):=by
  intro dp
  induction dp with
  | zero=>exact w15 T
  | succ dp ih=>exact vt7 T (n:=0+dp) (dp:=dp) ih
 have H_jax:Ok P w mg base 8 T.f_jax (vm3 T):=R_jax 8;have H_jav:Ok P w mg base 10 T.f_jav (vm4 T):=vt9 T (n:=9) (FnOk.mono H_jao (by decide)) (FnOk.mono H_jaj (by decide)) (FnOk.mono H_jax (by decide));have H_jal:Ok P w mg base 9 T.f_jal (v80 T):=vu9 T (n:=8) (FnOk.mono H_jax (by decide));have H_jae:OkX P w mg base 3 T.f_jae (vm9 T):=vv3 T (n:=0);have H_jad:OkX P w mg base 3 T.f_jad (vn0 T):=vv4 T (n:=0);have H_jaa:Ok P w mg base 1 T.f_jaa (v82 T):=vv7 T (n:=0);have H_jab:Ok P w mg base 1 T.f_jab (v81 T):=vv6 T (n:=0);have R_jaf:∀ dp,OkX P w mg base (3+dp) T.f_jaf (v13 T dp):=by
  intro dp
  induction dp with
  | zero=>exact w17 T
  | succ dp ih=>exact FnOk.mono (vv2 T (n:=3+dp) (dp:=dp) (FnOk.mono ih (by omega)) (FnOk.mono H_jad (by omega)) (FnOk.mono H_jaa (by omega)) (FnOk.mono H_jab (by omega))) (by omega)
 have H_jaf:OkX P w mg base 11 T.f_jaf (w12 T):=R_jaf 8;have H_jac:OkX P w mg base 12 T.f_jac (vn1 T):=vv5 T (n:=11) (FnOk.mono H_jae (by decide)) (FnOk.mono H_jaf (by decide));have H_jam:OkM P w mg base 1 T.f_jam (vm8 T):=vu8 T (n:=0);have H_jaz:Ok P w mg base 13 T.f_jaz (v08 T):=vt6 T (n:=12) (FnOk.mono H_jac (by decide)) (FnOkM.mono H_jam (by decide));have H_law:OkG P w mg base 14 T.f_law (vm2 T):=vt5 T (n:=13) (FnOk.mono H_jar (by decide)) (FnOk.mono H_jao (by decide)) (FnOk.mono H_jaq (by decide)) (FnOk.mono H_jav (by decide)) (FnOk.mono H_jal (by decide)) (FnOk.mono H_jaz (by decide));exact H_law
theorem walk {l:W.OpenLaw} {q:Program} {loose:List Str} {XP:(Str->Option Value)->Heap->Prop} {YP:World->Heap->Prop} {d:DefRec} {K:Params->W.Frag} (hn:l.most=some 63) (hdf:d.params.defaults=[])
  (hY:∀ (w:World) (h:Heap),YP w h->(K w.params).In h) (hL:∀ w:World,noL (K w.params)=true)
  (F:∀ (w:World) (mg:Str->Option Value) (fa:Addr) (h:Heap),(K w.params).In h->h.Ns mainGlobals mg->mg d.name=some (.ref fa)->∃ T:Txt (K w.params) mg,∀ (s:Shared) (v:Value),BindsTo s T.f_law.fd ⟨[v],[]⟩ [("_law_script",v)]) (hdn:d.name = "law" := by rfl) :
  W.WalkO q loose XP YP l.row.toRowW d [] (fun f vs=>PySem.call f vs):=by
 refine L2.walk_ofG (n:=63) (k:=14) (x := "_law_script") (CX:=fun _=>CX0) (sp:=fun w=>u97 (K w.params) v93) hn (by decide) hdf ⟨⟨rfl,by decide,by decide⟩,rfl⟩ hY (fun w mg fa h hK hN hm=>?_) (fun w H a ns hl hO hS=>vx1 (hL w) hl hO hS) fun _ _ _ _ _ z=>z
 obtain ⟨T,hb⟩:=F w mg fa h hK hN hm;rw [hdn] at hm;have e:=hm.symm.trans T.g_law;cases e;exact ⟨T.f_law.fd,hb,fun base _ _=>w10 T⟩
end Law
end
namespace PySem.W.Fast
def tw15779811463146069659:=0
def tw17153181326530674051:=0
def tw5831168030902539005:=0
def tw14173639296968969011:=0
def tw5654424756489276527:=0
def tw7236705893266214516:=0
def tw793213454446140025:=0
def tw6214967874801540818:=0
def tw6576063189963874860:=0
def tw1037424694276999952:=0
def tw3347598857531508696:=0
def tw17926115676683168454:=0
def tw12584161731293980114:=0
def tw1828623612241743498:=0
def tw9949051580917866175:=0
def tw10166805603871046215:=0
def tw3019618978551486562:=0
def tw16651828070696671910:=0
def tw8677819215656792274:=0
def tw13936630478670841409:=0
def tw211124008863157539:=0
def tw4206117030924767608:=0
def tw12060245421992380696:=0
def tw7899336946484488416:=0
def tw13646928733666648776:=0
def tw14816786137309718125:=0
def tw10507390196240147483:=0
def tw15288657499630487457:=0
def tw12297912405946991196:=0
def tw4715693356995511259:=0
def tw11094498027528826206:=0
def tw1884547466985737072:=0
def tw14962024828911099826:=0
def tw15923139095183501706:=0
def tw8377528724073020565:=0
def tw6255520589893900096:=0
def tw5247578613757851226:=0
def tw14858127349861510099:=0
def tw9315180571299897905:=0
def tw11139366908066776841:=0
def tw13335117971301839016:=0
def tw13748495816706077330:=0
def tw4410606468669515364:=0
def tw17526381137716398852:=0
def tw17896970867917595265:=0
def tw8247282428167452483:=0
def tw12616254099276478296:=0
def tw15592649003843328985:=0
def tw512460552999712136:=0
def tw15517314377281404476:=0
def tw6496088295158457255:=0
def tw5132369044187913978:=0
def tw9202031620209941484:=0
def tw16676415240184273193:=0
def tw2743857056218064914:=0
def tw15620719956437813737:=0
def tw10651462920502372710:=0
def tw10719938977279634338:=0
def tw7717015833998906530:=0
def tw1821279761660342272:=0
def tw2779297207503506283:=0
def tw2083774028521045836:=0
def tw4486569440499963714:=0
def tw9185611963692835179:=0
def tw10848958812360680759:=0
def tw6530814075709808327:=0
def tw1944115038739762886:=0
def tw1263696554441789741:=0
def tw7090468252032957169:=0
def tw800531766513302683:=0
def tw13252918506515849393:=0
def tw14395696886782215300:=0
def tw10267250054012642668:=0
def tw4544972393731267385:=0
def tw16379259698090456467:=0
def tw11157003585130714213:=0
def tw11930607514467621415:=0
def tw7634780617382849699:=0
def tw9774944087947681675:=0
def tw8758936368692113994:=0
def tw8619026385083303501:=0
def tw15015668679886930469:=0
def tw7963751560810196382:=0
def tw93304236948639283:=0
def tw14106123642650754032:=0
end PySem.W.Fast
open PySem PySem.W PyProof.Rows
local macro_rules | `(tactic| ac_rfl) => `(tactic| (refine' Law.df_m ?a ?b ?c ?d; (case a => k_is); (case b => k_is); (case c => k_is); (case d => k_is)))
local macro_rules | `(tactic| bv_omega) => `(tactic| (refine' Law.dm_m ?a ?b ?c ?d ?e; (case a => k_is); (case b => k_is); (case c => k_is); (case d => k_is); (case e => k_is)))
set_option maxHeartbeats 0 in
theorem PySem.Challenge.cw_nolitter_k02_the_first_wrong_thing_holds : PySem.Challenge.rw_nolitter_k02_the_first_wrong_thing.Holds := by
 w_on; o_law; k_head; (case hw => w_witness2)
 k_fill
 refine Law.walk (l := PySem.Challenge.rw_nolitter_k02_the_first_wrong_thing) rfl rfl (fun w h Y => PySem.W.kIn_of Y) ?L ?F
 case L => exact fun w => rfl
 case F =>
  intro w mg fa h KX G hmg
  refine' Law.txt_mk KX G ?aC_LitterError ?aC_TwiceNamed ?aC_NoBox ?aC_TooWide ?pm_2 ?pm_0 ?pm_1 ?pm_5 ?pm_7 ?pm_8 ?pm_6 ?pm_3 ?pm_4 ?pm_18 ?pm_15 ?pm_14 ?pm_16 ?pm_10 ?pm_20 ?pm_21 ?pm_19 ?pm_17 ?pm_23 ?pm_11 ?pm_24 ?pm_22 ?pm_12 ?pm_13 ?pm_25 ?pm_9 ?xc_LitterError ?xs_LitterError ?xr_LitterError ?xf_LitterError ?xc_TwiceNamed ?xg_TwiceNamed ?xt_TwiceNamed ?xk_TwiceNamed ?zn_TwiceNamed ?xc_NoBox ?xg_NoBox ?xt_NoBox ?xk_NoBox ?zn_NoBox ?xc_TooWide ?xg_TooWide ?xt_TooWide ?xk_TooWide ?zn_TooWide ?kc_NoBox ?xa_NoBox ?xn_NoBox ?zn_NoBox_TwiceNamed ?zn_NoBox_TooWide ?kc_TooWide ?xa_TooWide ?xn_TooWide ?zn_TooWide_TwiceNamed ?zn_TooWide_NoBox ?kc_TwiceNamed ?xa_TwiceNamed ?xn_TwiceNamed ?zn_TwiceNamed_NoBox ?zn_TwiceNamed_TooWide ?b_ValueError ?b_abs ?b_bool ?b_int ?b_isinstance ?b_len ?b_max ?b_range ?b_repr ?b_str ?b_sum ?b_tuple
  (case aC_LitterError => k_is)
  (case aC_TwiceNamed => k_is)
  (case aC_NoBox => k_is)
  (case aC_TooWide => k_is)
  (case pm_2 => bv_omega)
  (case pm_0 => bv_omega)
  (case pm_1 => bv_omega)
  (case pm_5 => ac_rfl)
  (case pm_7 => ac_rfl)
  (case pm_8 => ac_rfl)
  (case pm_6 => ac_rfl)
  (case pm_3 => ac_rfl)
  (case pm_4 => ac_rfl)
  (case pm_18 => ac_rfl)
  (case pm_15 => ac_rfl)
  (case pm_14 => ac_rfl)
  (case pm_16 => ac_rfl)
  (case pm_10 => ac_rfl)
  (case pm_20 => ac_rfl)
  (case pm_21 => ac_rfl)
  (case pm_19 => ac_rfl)
  (case pm_17 => ac_rfl)
  (case pm_23 => ac_rfl)
  (case pm_11 => ac_rfl)
  (case pm_24 => ac_rfl)
  (case pm_22 => ac_rfl)
  (case pm_12 => ac_rfl)
  (case pm_13 => ac_rfl)
  (case pm_25 => ac_rfl)
  (case pm_9 => ac_rfl)
  (case xc_LitterError => first | (decide) | kernel_rfl | rfl)
  (case xs_LitterError => k_is)
  (case xr_LitterError => k_is)
  (case xf_LitterError => k_is)
  (case xc_TwiceNamed => first | (decide) | kernel_rfl | rfl)
  (case xg_TwiceNamed => k_is)
  (case xt_TwiceNamed => k_is)
  (case xk_TwiceNamed => k_is)
  (case zn_TwiceNamed => decide)
  (case xc_NoBox => first | (decide) | kernel_rfl | rfl)
  (case xg_NoBox => k_is)
  (case xt_NoBox => k_is)
  (case xk_NoBox => k_is)
  (case zn_NoBox => decide)
  (case xc_TooWide => first | (decide) | kernel_rfl | rfl)
  (case xg_TooWide => k_is)
  (case xt_TooWide => k_is)
  (case xk_TooWide => k_is)
  (case zn_TooWide => decide)
  (case kc_NoBox => k_is)
  (case xa_NoBox => k_is)
  (case xn_NoBox => k_is)
  (case zn_NoBox_TwiceNamed => decide)
  (case zn_NoBox_TooWide => decide)
  (case kc_TooWide => k_is)
  (case xa_TooWide => k_is)
  (case xn_TooWide => k_is)
  (case zn_TooWide_TwiceNamed => decide)
  (case zn_TooWide_NoBox => decide)
  (case kc_TwiceNamed => k_is)
  (case xa_TwiceNamed => k_is)
  (case xn_TwiceNamed => k_is)
  (case zn_TwiceNamed_NoBox => decide)
  (case zn_TwiceNamed_TooWide => decide)
  (case b_ValueError => k_is)
  (case b_abs => k_is)
  (case b_bool => k_is)
  (case b_int => k_is)
  (case b_isinstance => k_is)
  (case b_len => k_is)
  (case b_max => k_is)
  (case b_range => k_is)
  (case b_repr => k_is)
  (case b_str => k_is)
  (case b_sum => k_is)
  (case b_tuple => k_is)
