import PyProof.Rows.All
import Wide.All
import OpenK.AllK
import Wide.FinOn
import Lean
import PyProof.EqAt
import PyProof.EqKinds
import PyProof.TupleCall
import PyProof.NeKinds
import PyProof.Rows.SeqMore
import PyProof.FactsAll.tuple_2
import KE.KDictOf
import PyProof.ExcInit
import PyProof.ExcClass3
import PyProof.NsDelKeeps
import PyProof.RulesAs
import PyProof.Rows.CountFlat
import PyProof.AutoListH
import KE.KIntText
import PyProof.Rows.CatFin
import PyProof.Rows.Range3
import PyProof.Rows.CallKwBuiltin
import PyProof.NoPylong
import PyProof.EnumMake
import PyProof.Draws
import PyProof.DictWalks
import PyProof.DictUpdate
import KE.KLam
import KE.KMinKey
import KE.KNestM
import KE.KDictSum
import PyProof.Rows.SortShell
import PyProof.SetKind
import PyProof.SetRoads
import PyProof.Rows.SetFrom
import PySem.Challenge.RW_nolitter_k42_sets_come_to
set_option Elab.async false
set_option linter.all false
set_option maxRecDepth 100000
set_option maxHeartbeats 4000000
local macro_rules | `(tactic| decide) => `(tactic| decide +kernel)
noncomputable section
namespace L2
open PySem PySem.Spec PyProof.Rows
abbrev Key:=Sum Int Str
def ul1:Key->Value->Bool
 | .inl k,v=>Value.isInt k v
 | .inr x,v=>Value.isStrOf x v
def keyH (w:World):Key->Int
 | .inl k=>hashInt k
 | .inr x=>hashStr w x
theorem u13:∀ {k:Key} {v:Value},ul1 k v=true->(∃ i t,k=Sum.inl i /\ v=Value.int i t) \/ (∃ x t,k=Sum.inr x /\ v=Value.str x t)
 | .inl i,v,h=>by
  obtain ⟨t,e⟩:=Value.isInt_shape (k:=i) (v:=v) h;exact .inl ⟨i,t,rfl,e⟩
 | .inr x,v,h=>by
  obtain ⟨t,e⟩:=Value.isStrOf_shape (x:=x) (v:=v) h;exact .inr ⟨x,t,rfl,e⟩
theorem uq7 (i:Int) (t:Tok):ul1 (.inl i) (.int i t)=true:=by simp [ul1,Value.isInt]
theorem uq6 (x:Str) (t:Tok):ul1 (.inr x) (.str x t)=true:=by simp [ul1,Value.isStrOf]
theorem vo8 (a b:Int):decide ((Sum.inl a:Key)=Sum.inl b)=(a == b):=by
 by_cases e:a=b
 ·subst e;simp
 ·have h:¬ (Sum.inl a:Key)=Sum.inl b:=fun q=>e (Sum.inl.inj q)
  rw [decide_eq_false h];exact (beq_eq_false_iff_ne.mpr e).symm
theorem vo5 (a b:Str):decide ((Sum.inr a:Key)=Sum.inr b)=decide (a=b):=by
 by_cases e:a=b
 ·subst e;simp
 ·have h:¬ (Sum.inr a:Key)=Sum.inr b:=fun q=>e (Sum.inr.inj q)
  rw [decide_eq_false h,decide_eq_false e]
theorem vo7 (a:Int) (b:Str):decide ((Sum.inl a:Key)=Sum.inr b)=false:=decide_eq_false (fun q=>nomatch q)
theorem vo6 (a:Str) (b:Int):decide ((Sum.inr a:Key)=Sum.inl b)=false:=decide_eq_false (fun q=>nomatch q)
def u15 (prog:Program) (w:World):PySem.KeyKind prog w Key where
 is:=ul1
 hash:=keyH w
 inj:=fun v a b ha hb=>by
  rcases u13 ha with ⟨i,t,rfl,rfl⟩ | ⟨x,t,rfl,rfl⟩
  ·rcases u13 hb with ⟨j,u,rfl,e⟩ | ⟨y,u,rfl,e⟩
   ·injection e with e1 _;rw [e1]
   ·exact nomatch e
  ·rcases u13 hb with ⟨j,u,rfl,e⟩ | ⟨y,u,rfl,e⟩
   ·exact nomatch e
   ·injection e with e1 _;rw [e1]
 byValue:=fun k v h=>by
  rcases u13 h with ⟨i,t,rfl,rfl⟩ | ⟨x,t,rfl,rfl⟩ <;> rfl
 pyHash:=fun hv h=>by
  rcases u13 hv with ⟨i,t,rfl,rfl⟩ | ⟨x,t,rfl,rfl⟩
  ·exact wpAny_pyHash_int h
  ·exact wpAny_pyHash_str h
 eqBool:=fun hu hv h=>by
  rcases u13 hu with ⟨i,t,rfl,rfl⟩ | ⟨x,t,rfl,rfl⟩
  ·rcases u13 hv with ⟨j,u,rfl,rfl⟩ | ⟨y,u,rfl,rfl⟩
   ·rw [vo8] at h;exact wpAny_eqBool_int h
   ·rw [vo7] at h;exact SeqAt.EqAt.int_str i t y u _ _ _ _ h
  ·rcases u13 hv with ⟨j,u,rfl,rfl⟩ | ⟨y,u,rfl,rfl⟩
   ·rw [vo6] at h;exact SeqAt.EqAt.str_int x t j u _ _ _ _ h
   ·rw [vo5] at h;exact wpAny_eqBool_str h
 «strs»:=fun k x t v h=>by
  rcases u13 h with ⟨i,u,rfl,e⟩ | ⟨y,u,rfl,e⟩
  ·exact nomatch e
  ·injection e with e1 _
   subst e1;cases v <;> rfl
theorem ug0 (prog:Program) (w:World) (i:Int) (t:Tok):(u15 prog w).is (.inl i) (.int i t)=true:=uq7 i t
theorem uf9 (prog:Program) (w:World) (x:Str) (t:Tok):(u15 prog w).is (.inr x) (.str x t)=true:=uq6 x t
inductive V where
 | non | bl (b:Bool) | int (i:Int) | str (x:Str) | byt (b:Array UInt8) | flt (b:UInt64) | ref (a:Addr) | ty (n:String)
 deriving DecidableEq
def RelV:V->Value->Prop
 | .non,u=>u=Value.none
 | .bl b,u=>u=Value.bool b
 | .int i,u=>∃ t,u=Value.int i t
 | .str x,u=>∃ t,u=Value.str x t
 | .byt b,u=>∃ t,u=Value.bytes b t
 | .flt b,u=>∃ t,u=Value.float b t
 | .ref a,u=>u=Value.ref a
 | .ty n,u=>u=Value.type n
abbrev Vals:List V->List Value->Prop:=Paired RelV
theorem Vals.length {xs:List V} {us:List Value} (r:Vals xs us):xs.length=us.length:=Paired.length r
theorem Vals.get:∀ {xs:List V} {us:List Value} {i:Nat} {x:V},Vals xs us->xs[i]?=some x->∃ u,us[i]?=some u /\ RelV x u
 | _,_,_,_,.nil,e=>by simp at e
 | _,_,0,_,.cons r _,e=>by simp at e;subst e;exact ⟨_,rfl,r⟩
 | _,_,i+1,x,.cons _ t,e=>by
  obtain ⟨u,h1,h2⟩:=Vals.get (i:=i) (x:=x) t (by simpa using e);exact ⟨u,by simpa using h1,h2⟩
theorem Vals.set {x:V} {u:Value} (r:RelV x u):∀ {xs:List V} {us:List Value} (i:Nat),Vals xs us->Vals (xs.set i x) (us.set i u)
 | _,_,_,.nil=>.nil
 | _,_,0,.cons _ t=>.cons r t
 | _,_,i+1,.cons q t=>.cons q (Vals.set r i t)
theorem Vals.append:∀ {xs ys:List V} {us ws:List Value},Vals xs us->Vals ys ws->Vals (xs++ys) (us++ws)
 | _,_,_,_,.nil,s=>s
 | _,_,_,_,.cons r t,s=>.cons r (Vals.append t s)
theorem Vals.take:∀ {xs:List V} {us:List Value} (n:Nat),Vals xs us->Vals (xs.take n) (us.take n)
 | _,_,0,_=>.nil
 | _,_,_+1,.nil=>.nil
 | _,_,n+1,.cons r t=>.cons r (Vals.take n t)
theorem Vals.drop:∀ {xs:List V} {us:List Value} (n:Nat),Vals xs us->Vals (xs.drop n) (us.drop n)
 | _,_,0,r=>r
 | _,_,_+1,.nil=>.nil
 | _,_,n+1,.cons _ t=>Vals.drop n t
def RelO:Option V->Option Value->Prop
 | some v,some u=>RelV v u
 | none,none=>True
 | _,_=>False
def KV {κ:Type}:List (κ × V)->List (κ × Value)->Prop:=Paired fun (p:κ × V) (q:κ × Value)=>p.1=q.1 /\ RelV p.2 q.2
def kV:Key->V
 | .inl i=>.int i
 | .inr x=>.str x
inductive HO where
 | lst (xs:List V)
 | tup (xs:List V)
 | dK (kvs:List (Key × V)) | dT (kvs:List (List Key × V))
 | set (S:Int->Bool) (n:Nat)
 | ins (C dx:Addr) (fs:List (Str × V))
 | own (x:Addr)
 | xd (fs:List (Str × V))
 | met (f x:Addr)
 | rng (lo hi:Int)
 | frz (o:Obj) (u:HO)
 | tbl (ps:Array Value)
 | ext (φ:Heap->Prop)
abbrev Hp:=Addr->Option HO
def upd (H:Hp) (a:Addr) (o:HO):Hp:=fun b=>if b=a then some o else H b
theorem u18 {H:Hp} {a:Addr} {o:HO}:upd H a o a=some o:=by unfold upd;rw [if_pos rfl]
theorem u09 {H:Hp} {a b:Addr} {o:HO} (h:b ≠ a):upd H a o b=H b:=by unfold upd;rw [if_neg h]
theorem vv4 {H:Hp} {a b:Addr} {o u:HO} (h:H a=some o) (h':H b=some u) (d:o ≠ u):a ≠ b:=by
 intro e;subst e;rw [h] at h';exact d (Option.some.inj h')
theorem u16 {H:Hp} {a b:Addr} {o:HO} (h:H a=some o) (h':H b=none):a ≠ b:=by
 intro e;subst e;rw [h] at h';cases h'
section
variable (P:Program) (w:World)
def TupD (h:Heap) (a:Addr) (its:Array Value):Prop:=∃ o,h.get? a=some o /\ o.cls=.type "tuple" /\ (∃ n,o.data=.seq its n) /\ o.dict=none
theorem TupD.tup {h:Heap} {a:Addr} {its:Array Value} (x:TupD h a its):IsTup h a its:=let ⟨o,e,c,d,_⟩:=x;⟨o,e,c,d⟩
theorem TupD.new (h:Heap) (its:Array Value):TupD (h.push { cls:=.type "tuple",data:=.seq its }) h.objs.size its:=⟨_,Heap.get?_push_size _ rfl,rfl,⟨_,rfl⟩,rfl⟩
def ObjOk (H:Hp) (h:Heap) (a:Addr):HO->Prop
 | .lst xs=>xs.length<=sizeLine /\ ∃ (its:List Value) (n:Nat),Vals xs its /\ h.get? a=some { cls:=.type "list",data:=.seq its.toArray n }
 | .tup xs=>xs.length<=sizeLine /\ ∃ its:List Value,Vals xs its /\ TupD h a its.toArray
 | .dK kvs=>kvs.length<=sizeLine /\ (a == sysModules)=false /\ ∃ vs,KV kvs vs /\ h.DictOf (u15 P w) a vs
 | .dT kvs=>kvs.length<=sizeLine /\ (a == sysModules)=false /\ ∃ xs:List (List Key × Addr × Value),
   Paired (fun (p:List Key × V) (q:List Key × Addr × Value)=>p.1=q.1 /\ H q.2.1=some (.tup (p.1.map kV)) /\ RelV p.2 q.2.2) kvs xs /\
   ∃ o es ep,h.get? a=some o /\ o.ExactDict /\ o.data=.dict es ep /\ es.toList=xs.map (entryOfKey (tupleKind (u15 P w))) /\ (xs.map (·.1)).Nodup
 | .set S n=>h.SetOf (intKind P w) a S n
 | .ins C dx fs=>H dx=some (.own a) /\ fs.length<=1000 /\ dx ≠ a /\ h.get? a=some (W.instObj C dx) /\
   ∃ mA,h.Ns1 dx mA /\ (∀ f,RelO (fs.lookup f) (mA f)) /\ PySem.Within mA (fs.map (·.1))
 | .own _=>∃ o,h.get? a=some o
 | .xd fs=>∃ mA,h.Ns1 a mA /\ ∀ f,RelO (fs.lookup f) (mA f)
 | .rng lo hi=>∃ t u v,h.get? a=some { cls:=.type "range",data:=.fields #[.int lo t,.int hi u,.int 1 v] }
 | .frz o u=>h.get? a=some o /\ ObjOk H h a u
 | .tbl ps=>h.get? a=some { cls:=.none,data:=.fields ps }
 | .met f x=>h.get? a=some (W.methodObj (.ref f) (.ref x))
 | .ext φ=>φ h /\ (∃ o,h.get? a=some o) /\ ∀ h1 h2:Heap,φ h1->(∀ o,h1.get? a=some o->h2.get? a=some o)->φ h2
def HOk (H:Hp) (h:Heap):Prop:=∀ a o,H a=some o->ObjOk P w H h a o
end
section
variable {P:Program} {w:World} {H H':Hp} {h h':Heap} {a:Addr} {o:HO}
theorem ObjOk.lt (x:ObjOk P w H h a o):a < h.objs.size:=by
 cases o with
 | lst xs=>obtain ⟨_,_,_,_,e⟩:=x;exact Heap.lt_size e
 | tup xs=>obtain ⟨_,_,_,p⟩:=x;exact p.tup.lt
 | dK kvs=>obtain ⟨_,_,_,_,o,_,_,e,_⟩:=x;exact Heap.lt_size e
 | dT kvs=>obtain ⟨_,_,_,_,o,_,_,e,_⟩:=x;exact Heap.lt_size e
 | set S n=>obtain ⟨o,_,_,_,e,_⟩:=x;exact Heap.lt_size e
 | ins C dx fs=>obtain ⟨_,_,_,e,_⟩:=x;exact Heap.lt_size e
 | own y=>obtain ⟨_,e⟩:=x;exact Heap.lt_size e
 | xd fs=>obtain ⟨_,⟨_,_,_,e,_⟩,_⟩:=x;exact Heap.lt_size e
 | rng lo hi=>obtain ⟨_,_,_,e⟩:=x;exact Heap.lt_size e
 | frz ob u=>obtain ⟨e,_⟩:=x;exact Heap.lt_size e
 | tbl ps=>exact Heap.lt_size (show h.get? a=some _ from x)
 | met f y=>exact Heap.lt_size (show h.get? a=some _ from x)
 | ext φ=>obtain ⟨_,⟨_,e⟩,_⟩:=x;exact Heap.lt_size e
theorem Paired.mapP {α β:Type} {F G:α->β->Prop}:∀ {l₁:List α} {l₂:List β},Paired F l₁ l₂->(∀ a b,F a b->G a b)->Paired G l₁ l₂
 | _,_,.nil,_=>.nil
 | _,_,.cons r t,f=>.cons (f _ _ r) (Paired.mapP t f)
theorem ObjOk.stay (x:ObjOk P w H h a o) (k:∀ b u,(b=a \/ H b=some (.own a))->h.get? b=some u->h'.get? b=some u)
  (ho:∀ b,H b=some (.own a)->H' b=some (.own a)) (ht:∀ b xs,H b=some (.tup xs)->H' b=some (.tup xs)):ObjOk P w H' h' a o:=by
 induction o with
 | lst xs=>obtain ⟨z,its,n,r,e⟩:=x;exact ⟨z,its,n,r,k _ _ (.inl rfl) e⟩
 | tup xs=>obtain ⟨z,its,r,ob,e,c⟩:=x;exact ⟨z,its,r,ob,k _ _ (.inl rfl) e,c⟩
 | dK kvs=>obtain ⟨z,y,vs,r,ob,es,ep,e,c⟩:=x;exact ⟨z,y,vs,r,ob,es,ep,k _ _ (.inl rfl) e,c⟩
 | dT kvs =>
  obtain ⟨z,y,xs,r,ob,es,ep,e,c⟩:=x;exact ⟨z,y,xs,Paired.mapP r fun p q z=>⟨z.1,ht _ _ z.2.1,z.2.2⟩,ob,es,ep,k _ _ (.inl rfl) e,c⟩
 | set S n=>obtain ⟨ob,es,ep,t,e,c⟩:=x;exact ⟨ob,es,ep,t,k _ _ (.inl rfl) e,c⟩
 | ins C dx fs =>
  obtain ⟨d,z,ne,e,mA,⟨od,es,ep,e2,c⟩,r⟩:=x;exact ⟨ho _ d,z,ne,k _ _ (.inl rfl) e,mA,⟨od,es,ep,k _ _ (.inr d) e2,c⟩,r⟩
 | own y=>obtain ⟨ob,e⟩:=x;exact ⟨ob,k _ _ (.inl rfl) e⟩
 | xd fs=>obtain ⟨mA,⟨od,es,ep,e,c⟩,r⟩:=x;exact ⟨mA,⟨od,es,ep,k _ _ (.inl rfl) e,c⟩,r⟩
 | rng lo hi=>obtain ⟨t,u,v,e⟩:=x;exact ⟨t,u,v,k _ _ (.inl rfl) e⟩
 | frz ob u ih=>obtain ⟨e,q⟩:=x;exact ⟨k _ _ (.inl rfl) e,ih q⟩
 | tbl ps =>
  have e:h.get? a=some { cls:=.none,data:=.fields ps }:=x
  show h'.get? a=some { cls:=.none,data:=.fields ps }
  exact k a _ (.inl rfl) e
 | met f y =>
  have e:h.get? a=some (W.methodObj (.ref f) (.ref y)):=x
  show h'.get? a=some (W.methodObj (.ref f) (.ref y))
  exact k a _ (.inl rfl) e
 | ext φ=>obtain ⟨p,⟨o,e⟩,st⟩:=x;exact ⟨st _ _ p fun o q=>k _ _ (.inl rfl) q,⟨o,k _ _ (.inl rfl) e⟩,st⟩
theorem HOk.lt (x:HOk P w H h) (e:H a=some o):a < h.objs.size:=(x a o e).lt
theorem HOk.fresh (x:HOk P w H h) (e:h.objs.size<=a):H a=none:=by
 cases q:H a with
 | none=>rfl
 | some u=>exact absurd (Nat.lt_of_lt_of_le (x.lt q) e) (Nat.lt_irrefl _)
theorem HOk.kept (x:HOk P w H h) (k:∀ b u,h.get? b=some u->h'.get? b=some u):HOk P w H h':=fun a o e =>
 (x a o e).stay (fun b u _ q=>k b u q) (fun _ q=>q) fun _ _ q=>q
theorem HOk.laid (x:HOk P w H h) (k:∀ b u,h.get? b=some u->h'.get? b=some u) (hp:h.objs.size<=a) (new:ObjOk P w (upd H a o) h' a o):HOk P w (upd H a o) h':=fun b u e=>by
 have hn:=x.fresh hp
 by_cases hb:b=a
 ·subst hb;rw [u18] at e;cases e;exact new
 ·rw [u09 hb] at e
  exact (x b u e).stay (fun c v _ q=>k c v q) (fun c q=>by rw [u09 (u16 q hn)];exact q) fun c xs q=>by rw [u09 (u16 q hn)];exact q
end
def Rd (H:Hp) (a:Addr) (u:HO):Prop:=H a=some u \/ ∃ o,H a=some (.frz o u)
theorem Rd.of {H:Hp} {a:Addr} {u:HO} (h:H a=some u):Rd H a u:=.inl h
theorem Rd.ok {P:Program} {w:World} {H:Hp} {h:Heap} {a:Addr} {u:HO} (r:Rd H a u) (x:HOk P w H h):ObjOk P w H h a u:=by
 rcases r with r | ⟨o,r⟩
 ·exact x a u r
 ·obtain ⟨_,q⟩:=x a _ r
  exact q
def Mut:Option HO->Prop
 | some (.lst _)=>True
 | some (.dK _)=>True
 | some (.dT _)=>True
 | some (.set _ _)=>True
 | some (.ins _ _ _)=>True
 | some (.ext _)=>True
 | _=>False
section
variable {P:Program} {w:World} {H:Hp} {h h':Heap} {x e:Addr} {o':HO}
theorem HOk.write (ok:HOk P w H h) (mu:Mut (H x)) (he:e=x \/ H e=some (.own x)) (k:∀ b u,b ≠ e->h.get? b=some u->h'.get? b=some u) (heo:∃ u,h'.get? e=some u)
  (new:ObjOk P w (upd H x o') h' x o'):HOk P w (upd H x o') h':=fun b u q=>by
 have nown:∀ c y,H c=some (.own y)->c ≠ x:=fun c y r z=>by subst z;rw [r] at mu;exact mu
 have ntup:∀ c xs,H c=some (.tup xs)->c ≠ x:=fun c xs r z=>by subst z;rw [r] at mu;exact mu
 by_cases hb:b=x
 ·subst hb;rw [u18] at q;cases q;exact new
 ·rw [u09 hb] at q
  by_cases hbe:b=e
  ·have q':H b=some (.own x):=by
    rcases he with z | z
    ·exact absurd (hbe.trans z) hb
    ·rw [hbe];exact z
   rw [q] at q';cases q';obtain ⟨v,hv⟩:=heo;exact ⟨v,by rw [hbe];exact hv⟩
  ·refine (ok b u q).stay (fun c v hc r=>k c v ?_ r) (fun c r=>by rw [u09 (nown c b r)];exact r) fun c xs r=>by rw [u09 (ntup c xs r)];exact r
   rcases hc with rfl | hc
   ·exact hbe
   ·rintro rfl
    rcases he with z | z
    ·exact nown c b hc z
    ·rw [hc] at z;cases z;exact hb rfl
end
structure Un (fs ex:List Addr) (H H':Hp) (h h':Heap):Prop where
 keep:∀ b o,h.get? b=some o->H b=none->b ∉ fs->b ∉ ex->h'.get? b=some o
 slot:∀ b o,h.get? b=some o->H b=none->b ∈ fs->b ∉ ex->∃ sl,h'.get? b=some { o with slots:=sl }
 free:∀ b o,h.get? b=some o->H b=none->b ∉ ex->H' b=none
 there:∀ b o,h.get? b=some o->b ∉ ex->∃ o',h'.get? b=some o'
 tups:∀ b xs,H b=some (.tup xs)->H' b=some (.tup xs)
 frzs:∀ b o u,H b=some (.frz o u)->H' b=some (.frz o u)
 tbls:∀ b ps,H b=some (.tbl ps)->∃ more,H' b=some (.tbl (ps++more))
section
variable {fs fs' ex ex':List Addr} {H H1 H2:Hp} {h h1 h2 h':Heap} {a x e:Addr} {o:HO}
theorem Un.any (u:Un fs ex H H1 h h1) {b:Addr} {ob:Obj} (q:h.get? b=some ob) (n:H b=none) (hx:b ∉ ex):∃ sl,h1.get? b=some { ob with slots:=sl }:=by
 by_cases hb:b ∈ fs
 ·exact u.slot b ob q n hb hx
 ·exact ⟨ob.slots,u.keep b ob q n hb hx⟩
theorem Un.trans (a:Un fs ex H H1 h h1) (b:Un fs ex H1 H2 h1 h2):Un fs ex H H2 h h2 where
 keep:=fun c ob q n hc hx=>b.keep c ob (a.keep c ob q n hc hx) (a.free c ob q n hx) hc hx
 slot:=fun c ob q n hc hx=>by
  obtain ⟨sl,e1⟩:=a.slot c ob q n hc hx;obtain ⟨sl',e2⟩:=b.slot c _ e1 (a.free c ob q n hx) hc hx;exact ⟨sl',e2⟩
 free:=fun c ob q n hx=>by
  obtain ⟨o',e1⟩:=a.there c ob q hx;exact b.free c o' e1 (a.free c ob q n hx) hx
 there:=fun c ob q hx=>by
  obtain ⟨o',e1⟩:=a.there c ob q hx;exact b.there c o' e1 hx
 tups:=fun c xs q=>b.tups c xs (a.tups c xs q)
 frzs:=fun c ob xs q=>b.frzs c ob xs (a.frzs c ob xs q)
 tbls:=fun c ps q=>by
  obtain ⟨m1,e1⟩:=a.tbls c ps q;obtain ⟨m2,e2⟩:=b.tbls c _ e1;exact ⟨m1++m2,by rw [e2,Array.append_assoc]⟩
theorem Un.kept (k:∀ b u,h.get? b=some u->h'.get? b=some u):Un fs ex H H h h' :=
 ⟨fun b ob q _ _ _=>k b ob q,fun b ob q _ _ _=>⟨ob.slots,k b ob q⟩,fun _ _ _ n _=>n,fun b ob q _=>⟨ob,k b ob q⟩,fun _ _ q=>q,fun _ _ _ q=>q,fun _ ps q=>⟨#[],by rw [q];simp⟩⟩
theorem Un.refl:Un fs ex H H h h:=Un.kept fun _ _ q=>q
theorem Un.laid (k:∀ b u,h.get? b=some u->h'.get? b=some u) (hp:h.objs.size<=a) (hn:H a=none):Un fs ex H (upd H a o) h h' where
 keep:=fun b u q _ _ _=>k b u q
 slot:=fun b u q _ _ _=>⟨u.slots,k b u q⟩
 free:=fun b u q n _=>by rw [u09 (Nat.ne_of_lt (Nat.lt_of_lt_of_le (Heap.lt_size q) hp))];exact n
 there:=fun b u q _=>⟨u,k b u q⟩
 tups:=fun b xs q=>by rw [u09 (u16 q hn)];exact q
 frzs:=fun b u xs q=>by rw [u09 (u16 q hn)];exact q
 tbls:=fun b ps q=>⟨#[],by rw [u09 (u16 q hn),q];simp⟩
theorem Un.write (mu:Mut (H x)) (he:e=x \/ H e=some (.own x)) (k:∀ b u,b ≠ e->h.get? b=some u->h'.get? b=some u) (heo:∃ u,h'.get? e=some u):Un fs ex H (upd H x o) h h':=by
 have hx:∀ b,H b=none->b ≠ x:=fun b n z=>by subst z;rw [n] at mu;exact mu
 have hb:∀ b,H b=none->b ≠ e:=fun b n z=>by
  subst z
  rcases he with r | r
  ·exact hx b n r
  ·rw [n] at r;cases r
 have hm:∀ b u,H b=some u->¬ Mut (some u)->b ≠ x:=fun b u q nm z=>by subst z;rw [q] at mu;exact nm mu
 refine ⟨fun b u q n _ _=>k b u (hb b n) q,fun b u q n _ _=>⟨u.slots,k b u (hb b n) q⟩,fun b u q n _=>by rw [u09 (hx b n)];exact n,fun b u q _=>?_,
  fun b xs q=>by rw [u09 (hm b _ q fun z=>z)];exact q,fun b u xs q=>by rw [u09 (hm b _ q fun z=>z)];exact q,fun b ps q=>⟨#[],by rw [u09 (hm b _ q fun z=>z),q];simp⟩⟩
 by_cases hbe:b=e
 ·subst hbe;exact heo
 ·exact ⟨u,k b u hbe q⟩
theorem Un.mono (u:Un fs ex H H1 h h1) (hs:∀ b ∈ fs,b ∈ fs') (hx:∀ b ∈ ex,b ∈ ex'):Un fs' ex' H H1 h h1 :=
 ⟨fun b ob q n hb he=>u.keep b ob q n (fun z=>hb (hs b z)) fun z=>he (hx b z),fun _ _ q n _ he=>u.any q n fun z=>he (hx _ z),fun b ob q n he=>u.free b ob q n fun z=>he (hx b z),fun b ob q he=>u.there b ob q fun z=>he (hx b z),u.tups,u.frzs,u.tbls⟩
end
def trk (h:Heap) (H:Hp):List Addr:=(List.range h.objs.size).filter fun a=>(H a).isSome
def hidT (h:Heap) (H:Hp):Heap:=W.hideAll h (trk h H)
theorem ur9 (h:Heap) (H:Hp):(hidT h H).objs.size=h.objs.size:=W.hideAll_size _ _
theorem uy3 {h:Heap} {H:Hp} {b:Addr} {o:Obj} (e:h.get? b=some o) (n:H b=none):(hidT h H).get? b=some o :=
 W.hideAll_get _ e fun hm=>by
  have q:(H b).isSome=true:=(List.mem_filter.mp hm).2;rw [n] at q;simp at q
theorem v92 {h:Heap} {H:Hp} {b:Addr} {o:Obj} (e:(hidT h H).get? b=some o):h.get? b=some o /\ H b=none:=by
 have e':h.get? b=some o:=W.of_hideAll (trk h H) e;refine ⟨e',?_⟩;cases q:H b with
 | none=>rfl
 | some x =>
  have hm:b ∈ trk h H:=List.mem_filter.mpr ⟨List.mem_range.mpr (Heap.lt_size e'),by simp [q]⟩;have z:(hidT h H).get? b=none:=W.hideAll_none (trk h H) hm;rw [z] at e;cases e
def vd4 (g h:Heap) (L:Addr):List (Addr × Obj):=(List.range h.objs.size).filterMap fun a=>if a=L \/ (g.get? a).isSome=true then none else (h.get? a).map fun o=>(a,o)
def rest (g h:Heap) (L d:Addr):List (Addr × Obj):=(vd4 g h L).filter fun p=>decide (p.1 ≠ d)
structure Mod (K:W.Frag) (mg:Str->Option Value) (base:Heap):Prop where
 kin:K.In base
 glob:base.Ns mainGlobals mg
 blt:∃ mb,base.Ns builtinsNs mb /\ ∀ x:Str,x ≠ "__name__" -> mb x=bootBuiltins x
 nolimit:base.NoLimit
/-- the context: a def's body (or a comprehension's block) running. base: fixed through the whole law; s₀,H₀: the entry; outer: the frames whose slots others may change (a def's callers); stack: all frames that run;
   ex: iterators that were made ahead of the entry and are walked here (a comprehension's);fn: the names whose cells were made at the entry (a def: all;a comprehension's block: its own);calm: not within an except suite;pn: pins that every state bears;xe: what is wanted of an exception that leaves the code -/
structure Cx where
 prog:Program
 w:World
 K:W.Frag
 mg:Str->Option Value
 base:Heap
 A:Around
 N:List Str
 s₀:Shared
 H₀:Hp
 env:Env
 outer:List Env
 stack:List Env
 ex:List Addr
 fn:Str->Bool
 calm:Bool
 pn:List (Addr × Obj)
 xe:Value->Shared->Prop
def frs (l:List Env):List Addr:=l.filterMap (·.frame)
abbrev Cx.fs (X:Cx):List Addr:=frs X.outer
def Vis (sc:Scope) (x:Str):Prop:=sc.names.lookup x=some .local \/ sc.names.lookup x=some .cell \/ sc.names.lookup x=some .free
def Loc (sc:Scope) (x:Str):Prop:=sc.names.lookup x=some .local \/ sc.names.lookup x=some .cell
def Look (env:Env) (h:Heap) (m:Str->Option Value) (x:Str) (u:Value):Prop :=
 (env.kindOf x=some .local /\ m x=some u) \/ ((env.kindOf x=some .cell \/ env.kindOf x=some .free) /\ ∃ c,env.cells.lookup x=some c /\ h.IsCell c (some u))
structure Cx.Ok (X:Cx):Prop where
 mod:Mod X.K X.mg X.base
 kind:X.env.scope.kind=.function
 glob:X.env.globals=mainGlobals
 blt:X.env.builtins=builtinsNs
 above:X.s₀.heap.objs.size<=X.env.locals
 inj:∀ x y c,X.env.cells.lookup x=some c->X.env.cells.lookup y=some c->x=y
 has:∀ x,(X.env.kindOf x=some .cell \/ X.env.kindOf x=some .free)->∃ c,X.env.cells.lookup x=some c
 cab:∀ x c,X.fn x=true->X.env.cells.lookup x=some c->X.s₀.heap.objs.size<=c
 hd:X.calm=true->X.A.handled=none
 frames:X.A.frames=some X.stack
 stk:X.stack=X.outer \/ (X.stack=X.env::X.outer /\ X.env.frame=some X.env.locals)
 exf:∀ b ∈ X.ex,b ≠ X.env.locals /\ ∀ x c,X.env.cells.lookup x=some c->c ≠ b
 bs:∀ b o,X.base.get? b=some o->X.s₀.heap.get? b=some o /\ X.H₀ b=none
 bsz:X.base.objs.size<=X.s₀.heap.objs.size
 noex:∀ b o,X.base.get? b=some o->b ∉ X.ex
 exfs:∀ b ∈ X.ex,b ∉ X.fs
 funs:X.s₀.heap.FunFrames X.base X.outer
 frf:∀ b ∈ X.fs,X.H₀ b=none
structure Inv (X:Cx) (pins:List (Addr × Obj)) (σ:List (Option V)) (H:Hp) (s:Shared):Prop where
 ok:X.Ok
 os:s.os=X.s₀.os
 bare:AllBare s.gens
 base:Un X.fs X.ex X.H₀ H X.s₀.heap s.heap
 loc:∃ m,s.heap.Ns X.env.locals m /\ ∀ (i:Nat) (x:Str) (v:V),X.N[i]?=some x->σ[i]?=some (some v)->Vis X.env.scope x->∃ u,RelV v u /\ Look X.env s.heap m x u
 cell:∀ x c,X.env.cells.lookup x=some c->∃ v,s.heap.IsCell c v
 free:H X.env.locals=none
 freeC:∀ x c,X.env.cells.lookup x=some c->H c=none
 pin:∀ p ∈ X.pn++pins,s.heap.get? p.1=some p.2 /\ H p.1=none /\ p.1 ≠ X.env.locals /\ p.1 ∉ X.fs /\ ∀ v,p.2.data ≠ .cell v
 hok:HOk X.prog X.w H s.heap
 len:σ.length=X.N.length
section
variable {X:Cx} {pins:List (Addr × Obj)} {σ:List (Option V)} {H H':Hp} {s:Shared} {h':Heap}
theorem Cx.Ok.nofr (ok:X.Ok) {b:Addr} {o:Obj} (e:X.base.get? b=some o):b ∉ X.fs:=fun hb=>by
 have:=(ok.funs.mem hb).1;rw [e] at this;cases this
theorem Inv.bs (I:Inv X pins σ H s):∀ b o,X.base.get? b=some o->s.heap.get? b=some o /\ H b=none:=fun b o e =>
 ⟨I.base.keep b o (I.ok.bs b o e).1 (I.ok.bs b o e).2 (I.ok.nofr e) (I.ok.noex b o e),I.base.free b o (I.ok.bs b o e).1 (I.ok.bs b o e).2 (I.ok.noex b o e)⟩
theorem Inv.bk (I:Inv X pins σ H s):∀ b o,X.base.get? b=some o->s.heap.get? b=some o:=fun b o e=>(I.bs b o e).1
theorem Inv.mod (I:Inv X pins σ H s):Mod X.K X.mg X.base:=I.ok.mod
theorem Inv.kIn (I:Inv X pins σ H s):X.K.In s.heap:=I.ok.mod.kin.keeps I.bk
theorem Inv.nolimit (I:Inv X pins σ H s):s.heap.NoLimit:=I.ok.mod.nolimit.keeps I.bk
theorem Inv.lt (I:Inv X pins σ H s):X.env.locals < s.heap.objs.size:=let ⟨_,hn,_⟩:=I.loc;hn.lt
theorem Inv.sz (I:Inv X pins σ H s):X.s₀.heap.objs.size<=s.heap.objs.size:=Nat.le_trans I.ok.above (Nat.le_of_lt I.lt)
theorem Inv.nofs (I:Inv X pins σ H s) {a:Addr} (h:s.heap.objs.size<=a):a ∉ X.fs:=fun hb=>by
 obtain ⟨_,o,ho,_⟩:=I.ok.funs.mem hb;exact absurd (Nat.lt_of_lt_of_le (Heap.lt_size ho) (Nat.le_trans I.sz h)) (Nat.lt_irrefl _)
theorem Inv.cne (I:Inv X pins σ H s):∀ x c,X.env.cells.lookup x=some c->c ≠ X.env.locals:=fun x c e z=>by
 obtain ⟨v,o,ho,hd⟩:=I.cell x c e;obtain ⟨m,⟨o',es,ep,ho',hd',_⟩,_⟩:=I.loc;rw [z,ho'] at ho;cases ho;rw [hd'] at hd;cases hd
theorem Inv.funs (I:Inv X pins σ H s):s.heap.FunFrames X.base X.outer:=by
 have all:∀ (l:List Env),(∀ b ∈ frs l,b ∈ X.fs)->X.s₀.heap.FunFrames X.base l->s.heap.FunFrames X.base l:=by
  intro l
  induction l with
  | nil=>intro _ _;trivial
  | cons env r ih =>
   intro hs hl;obtain ⟨hk,⟨L,o,hf,hn,ho,hd⟩,hr⟩:=hl;have hL:L ∈ X.fs:=hs L (by unfold frs;rw [List.filterMap_cons,hf];exact List.mem_cons_self);obtain ⟨sl,e⟩:=I.base.slot L o ho (I.ok.frf L hL) hL fun z=>I.ok.exfs L z hL
   exact ⟨hk,⟨L,_,hf,hn,e,hd⟩,ih (fun b hb=>hs b (by unfold frs;rw [List.filterMap_cons,hf];exact List.mem_cons_of_mem _ hb)) hr⟩
 exact all X.outer (fun _ hb=>hb) I.ok.funs
theorem Inv.stack (I:Inv X pins σ H s):s.heap.FunFrames X.base X.stack:=by
 rcases I.ok.stk with e | ⟨e,hf⟩
 ·rw [e];exact I.funs
 ·rw [e]
  obtain ⟨m,hn,_⟩:=I.loc;refine .cons (by rw [I.ok.kind];decide) hf hn ?_ I.funs;exact Heap.get?_none_of_le (Nat.le_trans I.ok.bsz I.ok.above)
theorem Inv.stkSub (I:Inv X pins σ H s):∀ b ∈ frs X.stack,b ∈ X.env.locals::X.fs:=fun b hb=>by
 rcases I.ok.stk with e | ⟨e,hf⟩
 ·rw [e] at hb;exact List.mem_cons_of_mem _ hb
 ·rw [e] at hb
  unfold frs at hb;rw [List.filterMap_cons,hf] at hb;exact hb
theorem Inv.stkFree (I:Inv X pins σ H s):∀ b ∈ frs X.stack,H b=none:=fun b hb=>by
 rcases List.mem_cons.mp (I.stkSub b hb) with e | hb
 ·rw [e];exact I.free
 ·obtain ⟨_,o,ho,_⟩:=I.ok.funs.mem hb
  exact I.base.free b o ho (I.ok.frf b hb) fun z=>I.ok.exfs b z hb
theorem Inv.step {g':Array GenState} {t':Nat} {d':Drawn} {ch:List Addr} (I:Inv X pins σ H s)
  (hch:∀ b ∈ ch,(b ∈ X.ex \/ X.s₀.heap.objs.size<=b) /\ b ≠ X.env.locals /\ (∀ x c,X.env.cells.lookup x=some c->c ≠ b) /\ ∀ p ∈ X.pn++pins,p.1 ≠ b)
  (keep:∀ b o,b ≠ X.env.locals->b ∉ X.fs->b ∉ ch->s.heap.get? b=some o->H b=none->h'.get? b=some o)
  (slot:∀ b o,b ≠ X.env.locals->b ∈ X.fs->b ∉ ch->s.heap.get? b=some o->H b=none->∃ sl,h'.get? b=some { o with slots:=sl }) (free:∀ b o,b ∉ ch->s.heap.get? b=some o->H b=none->H' b=none)
  (there:∀ b o,b ∉ ch->s.heap.get? b=some o->∃ o',h'.get? b=some o')
  (tups:∀ b xs,H b=some (.tup xs)->H' b=some (.tup xs)) (frzs:∀ b o u,H b=some (.frz o u)->H' b=some (.frz o u)) (tbls:∀ b ps,H b=some (.tbl ps)->∃ more,H' b=some (.tbl (ps++more)))
  (ns:∀ m,s.heap.Ns X.env.locals m->h'.Ns X.env.locals m) (hok:HOk X.prog X.w H' h') (hg:AllBare g') :
  Inv X pins σ H' { s with heap:=h',gens:=g',drawn:=d',toks:=t' }:=by
 have neL:∀ b o,X.s₀.heap.get? b=some o->b ≠ X.env.locals:=fun b o e=>Nat.ne_of_lt (Nat.lt_of_lt_of_le (Heap.lt_size e) I.ok.above)
 have neC:∀ b o,X.s₀.heap.get? b=some o->b ∉ X.ex->b ∉ ch:=fun b o e hx hb=>by
  rcases (hch b hb).1 with z | z
  ·exact hx z
  ·exact absurd (Nat.lt_of_lt_of_le (Heap.lt_size e) z) (Nat.lt_irrefl _)
 have cellK:∀ x c,X.env.cells.lookup x=some c->∀ v,s.heap.IsCell c v->h'.IsCell c v:=fun x c e v ⟨o,ho,hd⟩=>by
  have nch:c ∉ ch:=fun z=>(hch c z).2.2.1 x c e rfl
  by_cases hc:c ∈ X.fs
  ·obtain ⟨sl,q⟩:=slot c o (I.cne x c e) hc nch ho (I.freeC x c e)
   exact ⟨_,q,hd⟩
  ·exact ⟨o,keep c o (I.cne x c e) hc nch ho (I.freeC x c e),hd⟩
 refine ⟨I.ok,I.os,hg,⟨fun b o e n hb hx=>?_,fun b o e n hb hx=>?_,fun b o e n hx=>?_,fun b o e hx=>?_,fun b xs e=>tups b xs (I.base.tups b xs e),fun b o xs e=>frzs b o xs (I.base.frzs b o xs e),fun b ps e=>?_⟩,?_,fun x c e=>?_,?_,fun x c e=>?_,fun p hp=>?_,hok,I.len⟩
 ·exact keep b o (neL b o e) hb (neC b o e hx) (I.base.keep b o e n hb hx) (I.base.free b o e n hx)
 ·obtain ⟨sl,e1⟩:=I.base.slot b o e n hb hx
  obtain ⟨sl',e2⟩:=slot b _ (neL b o e) hb (neC b o e hx) e1 (I.base.free b o e n hx);exact ⟨sl',e2⟩
 ·obtain ⟨o',e1⟩:=I.base.there b o e hx
  exact free b o' (neC b o e hx) e1 (I.base.free b o e n hx)
 ·obtain ⟨o',e1⟩:=I.base.there b o e hx
  exact there b o' (neC b o e hx) e1
 ·obtain ⟨m1,e1⟩:=I.base.tbls b ps e
  obtain ⟨m2,e2⟩:=tbls b _ e1;exact ⟨m1++m2,by rw [e2,Array.append_assoc]⟩
 ·obtain ⟨m,hn,hl⟩:=I.loc
  refine ⟨m,ns m hn,fun i x v e1 e2 e3=>?_⟩;obtain ⟨u,r,l⟩:=hl i x v e1 e2 e3;refine ⟨u,r,?_⟩
  rcases l with l | ⟨k,c,e,z⟩
  ·exact .inl l
  ·exact .inr ⟨k,c,e,cellK x c e _ z⟩
 ·obtain ⟨v,z⟩:=I.cell x c e
  exact ⟨v,cellK x c e v z⟩
 ·obtain ⟨m,⟨o,_,_,ho,_⟩,_⟩:=I.loc
  exact free _ o (fun z=>(hch _ z).2.1 rfl) ho I.free
 ·obtain ⟨v,o,ho,hd⟩:=I.cell x c e
  exact free c o (fun z=>(hch c z).2.2.1 x c e rfl) ho (I.freeC x c e)
 ·obtain ⟨e,n,ne,nf,d⟩:=I.pin p hp
  have nch:p.1 ∉ ch:=fun z=>(hch p.1 z).2.2.2 p hp rfl
  exact ⟨keep p.1 p.2 ne nf nch e n,free p.1 p.2 nch e n,ne,nf,d⟩
theorem Inv.un {t':Nat} (I:Inv X pins σ H s) (u:Un X.fs [] H H' s.heap h') (hok:HOk X.prog X.w H' h'):Inv X pins σ H' { s with heap:=h',toks:=t' }:=by
 obtain ⟨m,⟨o,es,ep,ho,r⟩,_⟩:=id I.loc;obtain ⟨sl,hL⟩:=u.any ho I.free (by simp);exact I.step (g':=s.gens) (d':=s.drawn) (ch:=[]) (fun _ z=>nomatch z) (fun b o _ hb _ e n=>u.keep b o e n hb (by simp)) (fun b o _ hb _ e n=>u.slot b o e n hb (by simp)) (fun b o _ e n=>u.free b o e n (by simp)) (fun b o _ e=>u.there b o e (by simp)) u.tups u.frzs u.tbls (fun m' hm=>by
  obtain ⟨o',es',ep',ho',r'⟩:=hm;rw [ho] at ho';cases ho';exact ⟨_,es',ep',hL,r'⟩) hok I.bare
theorem Inv.call {g':Array GenState} {t':Nat} {d':Drawn} {ch:List Addr} (I:Inv X pins σ H s) (u:Un (frs X.stack) ch H H' s.heap h') (hok:HOk X.prog X.w H' h') (hg:AllBare g')
  (hch:∀ b ∈ ch,(b ∈ X.ex \/ X.s₀.heap.objs.size<=b) /\ b ≠ X.env.locals /\ (∀ x c,X.env.cells.lookup x=some c->c ≠ b) /\ ∀ p ∈ X.pn++pins,p.1 ≠ b) :
  Inv X pins σ H' { s with heap:=h',gens:=g',drawn:=d',toks:=t' }:=by
 obtain ⟨m,⟨o,es,ep,ho,r⟩,_⟩:=id I.loc;obtain ⟨sl,hL⟩:=u.any ho I.free fun z=>(hch _ z).2.1 rfl
 exact I.step (ch:=ch) hch (fun b o hL hb hc e n=>u.keep b o e n (fun z=>(List.mem_cons.mp (I.stkSub b z)).elim hL hb) hc) (fun b o _ _ hc e n=>u.any e n hc) (fun b o hc e n=>u.free b o e n hc) (fun b o hc e=>u.there b o e hc) u.tups u.frzs u.tbls (fun m' hm=>by
  obtain ⟨o',es',ep',ho',r'⟩:=hm;rw [ho] at ho';cases ho';exact ⟨_,es',ep',hL,r'⟩) hok hg
theorem Inv.turned {t':Nat} {it:Addr} (I:Inv X pins σ H s) (k:∀ b o,b ≠ it->s.heap.get? b=some o->h'.get? b=some o) (hn:H it=none) (hL:it ≠ X.env.locals)
  (h1:it ∈ X.ex \/ X.s₀.heap.objs.size<=it) (h2:∀ x c,X.env.cells.lookup x=some c->c ≠ it) (h3:∀ p ∈ X.pn++pins,p.1 ≠ it):Inv X pins σ H { s with heap:=h',toks:=t' }:=by
 have nit:∀ b u,H b=some u->b ≠ it:=fun b u e z=>by rw [z,hn] at e;cases e
 refine I.step (g':=s.gens) (d':=s.drawn) (ch:=[it]) (fun b hb=>?_) (fun b o _ _ hc e _=>k b o (fun z=>hc (by simp [z])) e) (fun b o _ _ hc e _=>⟨o.slots,k b o (fun z=>hc (by simp [z])) e⟩) (fun _ _ _ _ n=>n)
  (fun b o hc e=>⟨o,k b o (fun z=>hc (by simp [z])) e⟩) (fun _ _ e=>e) (fun _ _ _ e=>e) (fun b ps e=>⟨#[],by rw [e];simp⟩) (fun m hm=>?_) (fun b u e=>?_) I.bare
 ·have e:b=it:=by simpa using hb
  subst e;exact ⟨h1,hL,h2,h3⟩
 ·obtain ⟨o,es,ep,ho,r⟩:=hm
  exact ⟨o,es,ep,k _ o (Ne.symm hL) ho,r⟩
 ·refine (I.hok b u e).stay (fun c v hc q=>k c v ?_ q) (fun _ q=>q) fun _ _ q=>q
  rcases hc with z | z
  ·rw [z];exact nit b u e
  ·exact nit c _ z
theorem Inv.tok (I:Inv X pins σ H s) (t:Nat):Inv X pins σ H { s with toks:=t }:=I.un (h':=s.heap) (t':=t) Un.refl I.hok
theorem Inv.kept {t':Nat} (I:Inv X pins σ H s) (k:∀ b u,s.heap.get? b=some u->h'.get? b=some u):Inv X pins σ H { s with heap:=h',toks:=t' }:=I.un (Un.kept k) (I.hok.kept k)
theorem Inv.laid {a:Addr} {o:HO} {t':Nat} (I:Inv X pins σ H s) (k:∀ b u,s.heap.get? b=some u->h'.get? b=some u) (hp:s.heap.objs.size<=a) (new:ObjOk X.prog X.w (upd H a o) h' a o) :
  Inv X pins σ (upd H a o) { s with heap:=h',toks:=t' }:=I.un (Un.laid k hp (I.hok.fresh hp)) (I.hok.laid k hp new)
theorem Inv.write {x e:Addr} {o:HO} {t':Nat} (I:Inv X pins σ H s) (mu:Mut (H x)) (he:e=x \/ H e=some (.own x)) (k:∀ b u,b ≠ e->s.heap.get? b=some u->h'.get? b=some u) (heo:∃ u,h'.get? e=some u)
  (new:ObjOk X.prog X.w (upd H x o) h' x o):Inv X pins σ (upd H x o) { s with heap:=h',toks:=t' }:=I.un (Un.write mu he k heo) (I.hok.write mu he k heo new)
theorem Inv.pins_of {pins':List (Addr × Obj)} (I:Inv X pins σ H s) (h:∀ p ∈ pins',s.heap.get? p.1=some p.2 /\ H p.1=none /\ p.1 ≠ X.env.locals /\ p.1 ∉ X.fs /\ ∀ v,p.2.data ≠ .cell v):Inv X pins' σ H s :=
 ⟨I.ok,I.os,I.bare,I.base,I.loc,I.cell,I.free,I.freeC,fun p hp=>(List.mem_append.mp hp).elim (fun z=>I.pin p (List.mem_append_left _ z)) (h p),I.hok,I.len⟩
theorem ui4 {N:List Str} (hN:N.Nodup) {i j:Nat} {x:Str} (a:N[i]?=some x) (b:N[j]?=some x):i=j:=by
 obtain ⟨h1,e1⟩:=List.getElem?_eq_some_iff.mp a;obtain ⟨h2,e2⟩:=List.getElem?_eq_some_iff.mp b;exact (List.getElem_inj hN).mp (e1.trans e2.symm)
theorem ud1 {M:Model} {A:Around} {E:Value->Shared->Prop} {i:Nat} {x:Str} {v:V} {u:Value} {Q:Unit->Shared->Prop} (I:Inv X pins σ H s) (hN:X.N.Nodup) (hi:X.N[i]?=some x) (hx:Loc X.env.scope x) (r:RelV v u)
  (h:∀ s',Inv X pins (σ.set i (some v)) H s'->(∃ a,Heap.SameBut a s.heap s'.heap /\ (a=X.env.locals \/ X.env.cells.lookup x=some a))->Q () s') (hf:X.fn x=true \/ X.env.scope.names.lookup x=some .local:=by first | exact .inl rfl | exact .inr rfl | assumption):wpAny M A (storeName X.env x u) Q E s:=by
 obtain ⟨m,hn,hl⟩:=id I.loc;have hcls:(X.env.scope.kind == .class || (X.env.scope.kind == .module && X.env.locals != X.env.globals))=false:=by rw [I.ok.kind];rfl
 have hiσ:i < σ.length:=by rw [I.len];exact (List.getElem?_eq_some_iff.mp hi).1
 have cne:=I.cne;have tracked:∀ {a:Addr} {h':Heap},(∃ o,s.heap.get? a=some o /\ H a=none)->Heap.SameBut a s.heap h'->HOk X.prog X.w H h':=fun {a h'} ha hs b ob e=>by
  obtain ⟨_,_,hfree⟩:=ha;refine (I.hok b ob e).stay (fun c w' hc q=>(hs.2 c ?_).trans q) (fun _ q=>q) fun _ _ q=>q
  rintro rfl
  rcases hc with rfl | hc
  ·rw [hfree] at e;cases e
  ·rw [hfree] at hc;cases hc
 rcases hx with hk | hk
 ·refine wpAny_storeName_local hk hn (fun h' hn' hs=>?_) hcls
  obtain ⟨oL,_,_,hoL,_⟩:=id hn;refine h _ ⟨I.ok,I.os,I.bare,⟨fun b o e n hb hx=>?_,fun b o e n hb hx=>?_,I.base.free,fun b o e hx=>?_,I.base.tups,I.base.frzs,I.base.tbls⟩,⟨_,hn',fun j y v' e1 e2 e3=>?_⟩,fun y c e=>?_,I.free,I.freeC,fun p hp=>?_,tracked ⟨oL,hoL,I.free⟩ hs,by simpa using I.len⟩ ⟨_,hs,.inl rfl⟩
  ·exact (hs.2 b (Nat.ne_of_lt (Nat.lt_of_lt_of_le (Heap.lt_size e) I.ok.above))).trans (I.base.keep b o e n hb hx)
  ·obtain ⟨sl,e1⟩:=I.base.slot b o e n hb hx
   exact ⟨sl,(hs.2 b (Nat.ne_of_lt (Nat.lt_of_lt_of_le (Heap.lt_size e) I.ok.above))).trans e1⟩
  ·obtain ⟨o',e1⟩:=I.base.there b o e hx
   exact ⟨o',(hs.2 b (Nat.ne_of_lt (Nat.lt_of_lt_of_le (Heap.lt_size e) I.ok.above))).trans e1⟩
  ·by_cases hj:j=i
   ·subst hj
    rw [hi] at e1;cases e1;rw [List.getElem?_set_self hiσ] at e2;cases e2;exact ⟨u,r,.inl ⟨hk,by simp⟩⟩
   ·rw [List.getElem?_set_ne (Ne.symm hj)] at e2
    obtain ⟨u',r',q⟩:=hl j y v' e1 e2 e3;refine ⟨u',r',?_⟩
    rcases q with ⟨k,e⟩ | ⟨k,c,e,z⟩
    ·refine .inl ⟨k,?_⟩
     have:y ≠ x:=fun e=>hj (ui4 hN e1 (e ▸ hi))
     simp [this,e]
    ·exact .inr ⟨k,c,e,z.sameBut hs (cne y c e)⟩
  ·obtain ⟨w',z⟩:=I.cell y c e
   exact ⟨w',z.sameBut hs (cne y c e)⟩
  ·obtain ⟨e,n,ne,nf,d⟩:=I.pin p hp
   exact ⟨(hs.2 p.1 ne).trans e,n,ne,nf,d⟩
 ·have hfn:X.fn x=true:=by
   rcases hf with z | z
   ·exact z
   ·rw [z] at hk;cases hk
  obtain ⟨c,hc⟩:=I.ok.has x (.inl hk);obtain ⟨w',z⟩:=I.cell x c hc;refine wpAny_storeName_cell I.ok.kind hk hc z (fun h' hc' hs=>?_);obtain ⟨oc,hoc,hocd⟩:=id z;refine h { s with heap:=h' } ⟨I.ok,I.os,I.bare,⟨fun b o e n hb hx=>?_,fun b o e n hb hx=>?_,I.base.free,fun b o e hx=>?_,I.base.tups,I.base.frzs,I.base.tbls⟩,⟨m,hn.sameBut hs (Ne.symm (cne x c hc)),fun j y v' e1 e2 e3=>?_⟩,fun y c' e=>?_,I.free,I.freeC,fun p hp=>?_,tracked ⟨oc,hoc,I.freeC x c hc⟩ hs,by simpa using I.len⟩ ⟨c,hs,.inr hc⟩
  ·exact (hs.2 b (Nat.ne_of_lt (Nat.lt_of_lt_of_le (Heap.lt_size e) (I.ok.cab x c hfn hc)))).trans (I.base.keep b o e n hb hx)
  ·obtain ⟨sl,e1⟩:=I.base.slot b o e n hb hx
   exact ⟨sl,(hs.2 b (Nat.ne_of_lt (Nat.lt_of_lt_of_le (Heap.lt_size e) (I.ok.cab x c hfn hc)))).trans e1⟩
  ·obtain ⟨o',e1⟩:=I.base.there b o e hx
   exact ⟨o',(hs.2 b (Nat.ne_of_lt (Nat.lt_of_lt_of_le (Heap.lt_size e) (I.ok.cab x c hfn hc)))).trans e1⟩
  ·by_cases hj:j=i
   ·subst hj
    rw [hi] at e1;cases e1;rw [List.getElem?_set_self hiσ] at e2;cases e2;exact ⟨u,r,.inr ⟨.inl hk,c,hc,hc'⟩⟩
   ·rw [List.getElem?_set_ne (Ne.symm hj)] at e2
    obtain ⟨u',r',q⟩:=hl j y v' e1 e2 e3;refine ⟨u',r',?_⟩
    rcases q with q | ⟨k,c',e,z'⟩
    ·exact .inl q
    ·refine .inr ⟨k,c',e,z'.sameBut hs ?_⟩
     rintro rfl;exact hj (ui4 hN e1 (I.ok.inj _ _ _ e hc ▸ hi))
  ·by_cases hcc:c'=c
   ·subst hcc;exact ⟨_,hc'⟩
   ·obtain ⟨w2,z2⟩:=I.cell y c' e
    exact ⟨w2,z2.sameBut hs hcc⟩
  ·obtain ⟨e,n,ne,nf,d⟩:=I.pin p hp
   refine ⟨(hs.2 p.1 ?_).trans e,n,ne,nf,d⟩;intro q;rw [q,hoc] at e;have q':oc=p.2:=Option.some.inj e;exact d w' (by rw [<- q'];exact hocd)
theorem ua4 {M:Model} {A:Around} {E:Value->Shared->Prop} {i:Nat} {x:Str} {v:V} {u:Value} {Q:Unit->Shared->Prop} (I:Inv X pins σ H s) (hN:X.N.Nodup) (hi:X.N[i]?=some x) (hx:Loc X.env.scope x) (r:RelV v u)
  (h:∀ s',Inv X pins (σ.set i (some v)) H s'->Q () s') (hf:X.fn x=true \/ X.env.scope.names.lookup x=some .local:=by first | exact .inl rfl | exact .inr rfl | assumption):wpAny M A (storeName X.env x u) Q E s :=
 ud1 I hN hi hx r (fun s' I' _=>h s' I') hf
theorem Inv.call' {s':Shared} {ch:List Addr} (I:Inv X pins σ H s) (ho:s'.os=s.os) (u:Un (frs X.stack) ch H H' s.heap s'.heap) (hok:HOk X.prog X.w H' s'.heap) (hg:AllBare s'.gens)
  (hch:∀ b ∈ ch,(b ∈ X.ex \/ X.s₀.heap.objs.size<=b) /\ b ≠ X.env.locals /\ (∀ x c,X.env.cells.lookup x=some c->c ≠ b) /\ ∀ p ∈ X.pn++pins,p.1 ≠ b):Inv X pins σ H' s':=by
 obtain ⟨h',g',d',t',o'⟩:=s';have e:o'=s.os:=ho;subst e;exact I.call (g':=g') (t':=t') (d':=d') u hok hg hch
end
abbrev XK:=Value->Option Addr->Hp->Prop
abbrev St:=List (Option V)
abbrev VK:=V->Hp->Prop
abbrev TE:=St->Hp->VK->Prop
abbrev TT:=St->Hp->(Bool->Hp->Prop)->Prop
abbrev TA:=St->Hp->(List V->Hp->Prop)->Prop
structure Ends where
 nx:St->Hp->Prop
 rt:VK
 bk:St->Hp->Prop:=fun _ _=>False
 ct:St->Hp->Prop:=fun _ _=>False
abbrev TS:=Ends->St->Hp->Prop
def EP (X:Cx) (pins:List (Addr × Obj)) (σ:St) (Q:VK) (u:Value) (s':Shared):Prop:=∃ v H',Inv X pins σ H' s' /\ RelV v u /\ Q v H'
def TP (X:Cx) (pins:List (Addr × Obj)) (σ:St) (Q:Bool->Hp->Prop) (b:Bool) (s':Shared):Prop:=∃ H',Inv X pins σ H' s' /\ Q b H'
def AP (X:Cx) (pins:List (Addr × Obj)) (σ:St) (Q:List V->Hp->Prop) (us:List Value) (s':Shared):Prop:=∃ vs H',Inv X pins σ H' s' /\ Vals vs us /\ Q vs H'
def SP (X:Cx) (pins:List (Addr × Obj)) (D:Ends) (f:Flow) (s':Shared):Prop :=
 match f with
 | .next=>∃ σ' H',Inv X pins σ' H' s' /\ D.nx σ' H'
 | .brk=>∃ σ' H',Inv X pins σ' H' s' /\ D.bk σ' H'
 | .cont=>∃ σ' H',Inv X pins σ' H' s' /\ D.ct σ' H'
 | .ret u=>∃ v σ' H',Inv X pins σ' H' s' /\ RelV v u /\ D.rt v H'
def PE (X:Cx) (e:Expr) (t:TE):Prop :=
 ∀ (pins:List (Addr × Obj)) (s:Shared) (σ:St) (H:Hp) (Q:VK),Inv X pins σ H s->t σ H Q->wpAny (model X.prog X.w) X.A (eval e X.env) (EP X pins σ Q) X.xe s
def PT (X:Cx) (e:Expr) (t:TT):Prop :=
 ∀ (pins:List (Addr × Obj)) (s:Shared) (σ:St) (H:Hp) (Q:Bool->Hp->Prop),Inv X pins σ H s->t σ H Q->wpAny (model X.prog X.w) X.A (isTrue e X.env (eval e X.env)) (TP X pins σ Q) X.xe s
def PW (X:Cx) (e:Expr) (t:TT):Prop :=
 ∀ (whole:Sem Value) (pins:List (Addr × Obj)) (s:Shared) (σ:St) (H:Hp) (Q:Bool->Hp->Prop),Inv X pins σ H s->t σ H Q->wpAny (model X.prog X.w) X.A (isTrue e X.env whole) (TP X pins σ Q) X.xe s
theorem PW.pt {X:Cx} {e:Expr} {t:TT} (h:PW X e t):PT X e t:=h _
def PA (X:Cx) (es:List Expr) (t:TA):Prop :=
 ∀ (pos:Pos) (pins:List (Addr × Obj)) (s:Shared) (σ:St) (H:Hp) (Q:List V->Hp->Prop),Inv X pins σ H s->t σ H Q->wpAny (model X.prog X.w) X.A (spliced (backTo pos (starEach es X.env))) (AP X pins σ Q) X.xe s
def PS (X:Cx) (st:Stmt) (t:TS):Prop :=
 ∀ (pins:List (Addr × Obj)) (s:Shared) (σ:St) (H:Hp) (D:Ends),Inv X pins σ H s->t D σ H->wpAny (model X.prog X.w) X.A (exec st X.env) (SP X pins D) X.xe s
def PSs (X:Cx) (st:List Stmt) (t:TS):Prop :=
 ∀ (pins:List (Addr × Obj)) (s:Shared) (σ:St) (H:Hp) (D:Ends),Inv X pins σ H s->t D σ H->wpAny (model X.prog X.w) X.A (execs st X.env) (SP X pins D) X.xe s
theorem thn {α:Type} {t:Sem α} {Q Q':α->Shared->Prop} {M:Model} {A:Around} {E:Value->Shared->Prop} {s:Shared} (h:wpAny M A t Q E s) (hQ:∀ a s,Q a s->Q' a s):wpAny M A t Q' E s:=wpAny_mono h hQ fun _ _ x=>x
section
variable {X:Cx}
def tVar (i:Nat):TE:=fun σ H Q=>∃ v,σ[i]?=some (some v) /\ Q v H
def tC (v:V):TE:=fun _ H Q=>Q v H
theorem vj2 {i:Nat} {x:Str} {pos:Pos} (hN:X.N[i]?=some x) (hv:Vis X.env.scope x) (hd:(x == ("__debug__" : Str))=false:=by decide) (hcd:(x == ("__classdict__" : Str))=false:=by decide):PE X (.Name x pos) (tVar i):=by
 intro pins s σ H Q I h;obtain ⟨v,e,h⟩:=h;obtain ⟨m,hn,hl⟩:=I.loc;obtain ⟨u,r,l⟩:=hl i x v hN e hv;have fin:EP X pins σ Q u s:=⟨v,H,I,r,h⟩
 rcases l with ⟨hk,hm⟩ | ⟨hk,c,hc,hcell⟩
 ·exact wpAny_Name (wpAny_loadName_local I.ok.kind hk hn hm fin) hd
 ·rcases hk with hk | hk
  ·exact wpAny_Name (wpAny_loadName_cell I.ok.kind hk hc hcell fin) hd
  ·exact wpAny_Name (wpAny_loadName_free I.ok.kind hk hc hcell fin hcd) hd
theorem vj8 {i j pos}:PE X (.Constant (.int i) j pos) (tC (.int i)):=fun _ _ _ H _ I h=>wpAny_Constant_int ⟨.int i,H,I.tok _,⟨_,rfl⟩,h⟩
theorem vv0 {b j pos}:PE X (.Constant (.bool b) j pos) (tC (.bl b)):=fun _ _ _ H _ I h=>Constant_bool ⟨.bl b,H,I,rfl,h⟩
theorem vj4 {x j pos}:PE X (.Constant (.str x) j pos) (tC (.str x)):=fun _ _ _ H _ I h=>Calls.Constant_str ⟨.str x,H,I.tok _,⟨_,rfl⟩,h⟩
def Gl (X:Cx) (x:Str):Prop:=X.env.kindOf x=some .globalImplicit
theorem vb0 {E:Value->Shared->Prop} {pins:List (Addr × Obj)} {s:Shared} {σ:St} {H:Hp} {x:Str} {u:Value} {pos:Pos} {Q:Value->Shared->Prop} (I:Inv X pins σ H s) (hg:Gl X x) (hm:X.mg x=some u) (h:Q u s)
  (hd:(x == ("__debug__" : Str))=false:=by decide):wpAny (model X.prog X.w) X.A (eval (.Name x pos) X.env) Q E s :=
 Calls.Name_function_global I.ok.kind hg (Calls.loadGlobal_global (by rw [I.ok.glob];exact I.mod.glob.keeps I.bk) hm h) hd
theorem u57 {E:Value->Shared->Prop} {pins:List (Addr × Obj)} {s:Shared} {σ:St} {H:Hp} {x:Str} {u:Value} {pos:Pos} {Q:Value->Shared->Prop} (I:Inv X pins σ H s) (hg:Gl X x) (hm:X.mg x=none) (hv:bootBuiltins x=some u) (h:Q u s)
  (hn:x ≠ "__name__" := by decide) (hd:(x == ("__debug__" : Str))=false:=by decide):wpAny (model X.prog X.w) X.A (eval (.Name x pos) X.env) Q E s:=by
 obtain ⟨mb,h1,h2⟩:=I.mod.blt;exact Calls.Name_function_global I.ok.kind hg (Calls.loadGlobal_builtin (by rw [I.ok.glob];exact I.mod.glob.keeps I.bk) hm (by rw [I.ok.blt];exact h1.keeps I.bk) ((h2 x hn).trans hv) h) hd
theorem v88 {x:Str} {v:V} {u:Value} {pos:Pos} (hg:Gl X x) (hm:X.mg x=none) (hv:bootBuiltins x=some u) (r:RelV v u) (hn:x ≠ "__name__" := by decide) (hd:(x == ("__debug__" : Str))=false:=by decide):PE X (.Name x pos) (tC v) :=
 fun _ _ _ H _ I h=>u57 I hg hm hv ⟨v,H,I,r,h⟩ hn hd
variable {a b:Expr} {ta tb:TE} {pos:Pos}
def tB (t:TE):TT:=fun σ H Q=>t σ H fun x H1=>∃ c,x=.bl c /\ Q c H1
theorem vi2 {e:Expr} {t:TE} (h:PE X e t) (he:∀ whole,isTrue e X.env whole=(do let v <- whole;standAt e.pos;holding [v] (truthy v)):=by intro _;rfl):PT X e (tB t):=by
 intro pins s σ H Q I hw
 (refine isTrue_plain (thn (h pins s σ H _ I hw) ?_) (he _);rintro v s1 ⟨x,H1,I1,r1,q1⟩)
 obtain ⟨d,rfl,q⟩:=q1;cases r1;exact wpAny_truthy_bool ⟨H1,I1,q⟩
variable {tA tB':TT} {rest:List Expr}
def tAnd (t u:TT):TT:=fun σ H Q=>t σ H fun c H1=>if c=true then u σ H1 Q else Q false H1
def tOr (t u:TT):TT:=fun σ H Q=>t σ H fun c H1=>if c=true then Q true H1 else u σ H1 Q
def tNot (t:TT):TT:=fun σ H Q=>t σ H fun c H1=>Q (!c) H1
theorem v71 (ha:PT X a tA):PW X (.BoolOp .And [a] pos) tA:=by
 intro wh pins s σ H Q I h;refine isTrue_and (thn (ha pins s σ H Q I h) fun c s1 e=>?_);cases c with
 | true=>exact isTrue_and_nil e
 | false=>exact e
theorem vi0 (ha:PT X a tA):PW X (.BoolOp .Or [a] pos) tA:=by
 intro wh pins s σ H Q I h;refine isTrue_or (thn (ha pins s σ H Q I h) fun c s1 e=>?_);cases c with
 | false=>exact isTrue_or_nil e
 | true=>exact e
theorem vi1 (ha:PT X a tA) (hb:PW X (.BoolOp .And (b::rest) pos) tB'):PW X (.BoolOp .And (a::b::rest) pos) (tAnd tA tB'):=by
 intro wh pins s σ H Q I h
 (refine isTrue_and (thn (ha pins s σ H _ I h) ?_);rintro c s1 ⟨H1,I1,q1⟩)
 cases c with
 | true=>exact hb wh pins s1 σ H1 Q I1 q1
 | false=>exact ⟨H1,I1,q1⟩
theorem vu2 (ha:PT X a tA) (hb:PW X (.BoolOp .Or (b::rest) pos) tB'):PW X (.BoolOp .Or (a::b::rest) pos) (tOr tA tB'):=by
 intro wh pins s σ H Q I h
 (refine isTrue_or (thn (ha pins s σ H _ I h) ?_);rintro c s1 ⟨H1,I1,q1⟩)
 cases c with
 | true=>exact ⟨H1,I1,q1⟩
 | false=>exact hb wh pins s1 σ H1 Q I1 q1
theorem vi3 (ha:PT X a tA):PT X (.UnaryOp .Not a pos) (tNot tA):=by
 intro pins s σ H Q I h;exact isTrue_not (ha pins s σ H (fun c H1=>Q (!c) H1) I h)
def vh3 (ta tb:TE):TE:=fun σ H Q=>ta σ H fun x H1=>∃ c,x=.bl c /\ if c=true then tb σ H1 Q else Q (.bl false) H1
def tOrV (ta tb:TE):TE:=fun σ H Q=>ta σ H fun x H1=>∃ c,x=.bl c /\ if c=true then Q (.bl true) H1 else tb σ H1 Q
def vg8 (ta:TE):TE:=fun σ H Q=>ta σ H fun x H1=>∃ c,x=.bl c /\ Q (.bl (!c)) H1
theorem vj5 {op} {t:TE} (h:PE X a t):PE X (.BoolOp op [a] pos) t:=fun pins s σ H Q I hw=>BoolOp_one (h pins s σ H Q I hw)
theorem vj9 (ha:PE X a ta) (hb:PE X (.BoolOp .And (b::rest) pos) tb):PE X (.BoolOp .And (a::b::rest) pos) (vh3 ta tb):=by
 intro pins s σ H Q I h
 (refine BoolOp_and (thn (ha pins s σ H _ I h) ?_);rintro v s1 ⟨x,H1,I1,r1,q1⟩)
 obtain ⟨c,rfl,q1⟩:=q1;cases r1;refine wpAny_truthy_bool ?_;cases c with
 | true=>exact hb pins s1 σ H1 Q I1 q1
 | false=>exact ⟨.bl false,H1,I1,rfl,q1⟩
theorem vu6 (ha:PE X a ta) (hb:PE X (.BoolOp .Or (b::rest) pos) tb):PE X (.BoolOp .Or (a::b::rest) pos) (tOrV ta tb):=by
 intro pins s σ H Q I h
 (refine BoolOp_or (thn (ha pins s σ H _ I h) ?_);rintro v s1 ⟨x,H1,I1,r1,q1⟩)
 obtain ⟨c,rfl,q1⟩:=q1;cases r1;refine wpAny_truthy_bool ?_;cases c with
 | false=>exact hb pins s1 σ H1 Q I1 q1
 | true=>exact ⟨.bl true,H1,I1,rfl,q1⟩
theorem vj6 (ha:PE X a ta):PE X (.UnaryOp .Not a pos) (vg8 ta):=by
 intro pins s σ H Q I h
 (refine UnaryOp_ (thn (ha pins s σ H _ I h) ?_);rintro v s1 ⟨x,H1,I1,r1,q1⟩)
 obtain ⟨c,rfl,q1⟩:=q1;cases r1;exact not_of (wpAny_truthy_bool ⟨.bl (!c),H1,I1,rfl,q1⟩)
def tIf (t:TT) (ta tb:TE):TE:=fun σ H Q=>t σ H fun c H1=>if c=true then ta σ H1 Q else tb σ H1 Q
theorem uw1 {c:Expr} (hc:PT X c tA) (ha:PE X a ta) (hb:PE X b tb):PE X (.IfExp c a b pos) (tIf tA ta tb):=by
 intro pins s σ H Q I h
 (refine wpAny_IfExp (thn (hc pins s σ H _ I h) ?_);rintro d s1 ⟨H1,I1,q1⟩)
 cases d with
 | true=>exact ha pins s1 σ H1 Q I1 q1
 | false=>exact hb pins s1 σ H1 Q I1 q1
end
def SqL (K:W.Frag) (H:Hp) (a:Addr) (xs:List V):Prop :=
 Rd H a (.lst xs) \/
  ∃ (o:Obj) (its:Array Value) (n:Nat),K.lookup a=some o /\ o.cls=.type "list" /\ o.dict=none /\ o.data=.seq its n /\ its.size<=sizeLine /\ Vals xs its.toList
def SqT (K:W.Frag) (H:Hp) (a:Addr) (xs:List V):Prop :=
 Rd H a (.tup xs) \/
  ∃ (o:Obj) (its:Array Value) (n:Nat),K.lookup a=some o /\ o.cls=.type "tuple" /\ o.data=.seq its n /\ its.size<=sizeLine /\ Vals xs its.toList /\ o.dict=none
def absV:Value->Option V
 | .none=>some .non
 | .bool b=>some (.bl b)
 | .int i _=>some (.int i)
 | .str x _=>some (.str x)
 | .bytes b _=>some (.byt b)
 | .float b _=>some (.flt b)
 | .ref a=>some (.ref a)
 | .type n=>some (.ty n)
 | _=>none
theorem RelV.abs {x:V} {u:Value} (r:RelV x u):absV u=some x:=by
 cases x with
 | non=>cases r;rfl
 | bl _=>cases r;rfl
 | int _=>obtain ⟨t,rfl⟩:=r;rfl
 | str _=>obtain ⟨t,rfl⟩:=r;rfl
 | byt _=>obtain ⟨t,rfl⟩:=r;rfl
 | flt _=>obtain ⟨t,rfl⟩:=r;rfl
 | ref _=>cases r;rfl
 | ty _=>cases r;rfl
theorem RelV.inj {x y:V} {u:Value} (r:RelV x u) (q:RelV y u):x=y:=Option.some.inj (r.abs.symm.trans q.abs)
theorem Vals.inj:∀ {xs ys:List V} {us:List Value},Vals xs us->Vals ys us->xs=ys
 | _,_,_,.nil,.nil=>rfl
 | _,_,_,.cons r t,.cons r' t'=>by rw [r.inj r',Vals.inj t t']
section
variable {X:Cx} {pins:List (Addr × Obj)} {σ:St} {H:Hp} {s:Shared} {a:Addr} {xs ys:List V}
theorem SqL.of {K:W.Frag} (h:H a=some (.lst xs)):SqL K H a xs:=.inl (.inl h)
theorem SqT.of {K:W.Frag} (h:H a=some (.tup xs)):SqT K H a xs:=.inl (.inl h)
theorem Inv.list (I:Inv X pins σ H s) (h:SqL X.K H a xs):∃ its:List Value,Vals xs its /\ PlainL s.heap a its.toArray /\ xs.length<=sizeLine:=by
 rcases h with h | ⟨o,its,n,hk,hc,hd,hs,hz,r⟩
 ·obtain ⟨z,its,n,r,e⟩:=h.ok I.hok
  exact ⟨its,r,⟨_,n,e,rfl,rfl,rfl⟩,z⟩
 ·refine ⟨its.toList,r,⟨o,n,I.kIn a o hk,hc,hd,by simpa using hs⟩,?_⟩
  have e:=r.length;simp only [Array.length_toList] at e;omega
theorem Inv.tuple (I:Inv X pins σ H s) (h:SqT X.K H a xs):∃ its:List Value,Vals xs its /\ IsTup s.heap a its.toArray /\ xs.length<=sizeLine:=by
 rcases h with h | ⟨o,its,n,hk,hc,hs,hz,r,_⟩
 ·obtain ⟨z,its,r,p⟩:=h.ok I.hok
  exact ⟨its,r,p.tup,z⟩
 ·refine ⟨its.toList,r,⟨o,I.kIn a o hk,hc,n,by simpa using hs⟩,?_⟩
  have e:=r.length;simp only [Array.length_toList] at e;omega
theorem Inv.list_inj (I:Inv X pins σ H s) (h:SqL X.K H a xs) (h':SqL X.K H a ys):xs=ys:=by
 obtain ⟨its,r,⟨o,n,e,_,_,d⟩,_⟩:=I.list h;obtain ⟨its',r',⟨o',n',e',_,_,d'⟩,_⟩:=I.list h';rw [e] at e';cases e';rw [d] at d';injection d' with d1 _
 have:its=its':=by simpa using congrArg Array.toList d1
 subst this;exact r.inj r'
theorem Inv.tuple_inj (I:Inv X pins σ H s) (h:SqT X.K H a xs) (h':SqT X.K H a ys):xs=ys:=by
 obtain ⟨its,r,⟨o,e,_,n,d⟩,_⟩:=I.tuple h;obtain ⟨its',r',⟨o',e',_,n',d'⟩,_⟩:=I.tuple h';rw [e] at e';cases e';rw [d] at d';injection d' with d1 _
 have:its=its':=by simpa using congrArg Array.toList d1
 subst this;exact r.inj r'
end
abbrev Cx.wish (X:Cx) (E:Value->Shared->Prop):Cx:={ X with xe:=E }
abbrev Cx.nox (X:Cx):Cx:=X.wish fun _ _=>False
theorem Cx.Ok.wish {X:Cx} (ok:X.Ok) (E:Value->Shared->Prop):(X.wish E).Ok :=
 ⟨ok.mod,ok.kind,ok.glob,ok.blt,ok.above,ok.inj,ok.has,ok.cab,ok.hd,ok.frames,ok.stk,ok.exf,ok.bs,ok.bsz,ok.noex,ok.exfs,ok.funs,ok.frf⟩
theorem Cx.Ok.unwish {X:Cx} {E:Value->Shared->Prop} (ok:(X.wish E).Ok):X.Ok :=
 ⟨ok.mod,ok.kind,ok.glob,ok.blt,ok.above,ok.inj,ok.has,ok.cab,ok.hd,ok.frames,ok.stk,ok.exf,ok.bs,ok.bsz,ok.noex,ok.exfs,ok.funs,ok.frf⟩
section
variable {X:Cx} {pins:List (Addr × Obj)} {σ:St} {H:Hp} {s:Shared} {E:Value->Shared->Prop}
theorem Inv.wish (I:Inv X pins σ H s) (E:Value->Shared->Prop):Inv (X.wish E) pins σ H s:=⟨I.ok.wish E,I.os,I.bare,I.base,I.loc,I.cell,I.free,I.freeC,I.pin,I.hok,I.len⟩
theorem Inv.unwish (I:Inv (X.wish E) pins σ H s):Inv X pins σ H s:=⟨I.ok.unwish,I.os,I.bare,I.base,I.loc,I.cell,I.free,I.freeC,I.pin,I.hok,I.len⟩
theorem SP.unwish {D:Ends} {f:Flow} {s':Shared} (h:SP (X.wish E) pins D f s'):SP X pins D f s':=by
 cases f with
 | next=>obtain ⟨σ',H',I,q⟩:=h;exact ⟨σ',H',I.unwish,q⟩
 | brk=>obtain ⟨σ',H',I,q⟩:=h;exact ⟨σ',H',I.unwish,q⟩
 | cont=>obtain ⟨σ',H',I,q⟩:=h;exact ⟨σ',H',I.unwish,q⟩
 | ret u=>obtain ⟨v,σ',H',I,r,q⟩:=h;exact ⟨v,σ',H',I.unwish,r,q⟩
theorem PE.nox {e:Expr} {t:TE} (h:PE X.nox e t):PE X e t:=fun pins s σ H Q I hw =>
 wpAny_mono (h pins s σ H Q (I.wish _) hw) (fun _ _ ⟨v,H',I',r,q⟩=>⟨v,H',I'.unwish,r,q⟩) fun _ _ z=>False.elim z
theorem PT.nox {e:Expr} {t:TT} (h:PT X.nox e t):PT X e t:=fun pins s σ H Q I hw =>
 wpAny_mono (h pins s σ H Q (I.wish _) hw) (fun _ _ ⟨H',I',q⟩=>⟨H',I'.unwish,q⟩) fun _ _ z=>False.elim z
theorem PSs.nox {st:List Stmt} {t:TS} (h:PSs X.nox st t):PSs X st t:=fun pins s σ H D I hw =>
 wpAny_mono (h pins s σ H D (I.wish _) hw) (fun _ _ q=>q.unwish) fun _ _ z=>False.elim z
end
section
variable {X:Cx} {st:Stmt} {rest:List Stmt} {t u:TS} {e:Expr} {te:TE} {pos:Pos}
def vg9:TS:=fun D σ H=>D.nx σ H
def tSeq (t u:TS):TS:=fun D σ H=>t { D with nx:=u D } σ H
theorem v74:PSs X [] vg9:=fun _ _ σ H _ I h=>wpAny_execs_nil ⟨σ,H,I,h⟩
theorem uv3 (h1:PS X st t) (h2:PSs X rest u):PSs X (st::rest) (tSeq t u):=by
 intro pins s σ H D I h;refine wpAny_execs_cons (thn (h1 pins s σ H { D with nx:=u D } I h) fun f s1 q=>?_);cases f with
 | next =>
  obtain ⟨σ',H',I',q⟩:=q;exact h2 pins s1 σ' H' D I' q
 | ret v=>exact q
 | brk=>exact q
 | cont=>exact q
theorem v73 (h1:PS X st t):PSs X [st] t:=by
 intro pins s σ H D I h;refine wpAny_execs_cons (thn (h1 pins s σ H D I h) fun f s1 q=>?_);cases f with
 | next=>exact wpAny_execs_nil q
 | ret v=>exact q
 | brk=>exact q
 | cont=>exact q
theorem Inv.quiet {pins:List (Addr × Obj)} {σ:St} {H:Hp} {s:Shared} (I:Inv X pins σ H s):interactive X.env=false:=by simp [interactive,I.ok.kind]
def vh0 (te:TE):TS:=fun D σ H=>te σ H fun _ H1=>D.nx σ H1
theorem v76 (he:PE X e te) (hs:swapsWith e none pos.line X.env=pure false:=by rfl):PS X (.Expr e pos) (vh0 te):=by
 intro pins s σ H D I h
 (refine wpAny_Expr_any (thn (he pins s σ H _ I h) ?_) I.quiet hs;rintro v s1 ⟨x,H1,I1,r1,q1⟩;exact ⟨σ,H1,I1,q1⟩)
def tRet (te:TE):TS:=fun D σ H=>te σ H D.rt
theorem vi5 (he:PE X e te):PS X (.Return (some e) pos) (tRet te):=by
 intro pins s σ H D I h
 (refine wpAny_Return_some (thn (he pins s σ H _ I h) ?_);rintro v s1 ⟨x,H1,I1,r1,q1⟩;exact ⟨x,σ,H1,I1,r1,q1⟩)
def tIfS (c:TT) (t u:TS):TS:=fun D σ H=>c σ H fun b H1=>if b=true then t D σ H1 else u D σ H1
theorem vu3 {c:Expr} {a b:List Stmt} {tc:TT} (hc:PT X c tc) (ha:PSs X a t) (hb:PSs X b u):PS X (.If c a b pos) (tIfS tc t u):=by
 intro pins s σ H D I h
 (refine wpAny_If (thn (hc pins s σ H _ I h) ?_);rintro d s1 ⟨H1,I1,q1⟩)
 cases d with
 | true=>exact ha pins s1 σ H1 D I1 q1
 | false=>exact hb pins s1 σ H1 D I1 q1
end
abbrev TG:=V->St->Hp->(St->Hp->Prop)->Prop
abbrev TGs:=List V->St->Hp->(St->Hp->Prop)->Prop
def PG (X:Cx) (target:Expr) (t:TG):Prop :=
 ∀ (pins:List (Addr × Obj)) (s:Shared) (σ:St) (H:Hp) (v:V) (u:Value) (Q:St->Hp->Prop),Inv X pins σ H s->RelV v u->t v σ H Q ->
  wpAny (model X.prog X.w) X.A (assign target X.env u) (fun _ s'=>∃ σ' H',Inv X pins σ' H' s' /\ Q σ' H') X.xe s
def PGs (X:Cx) (ts:List Expr) (t:TGs):Prop :=
 ∀ (pins:List (Addr × Obj)) (s:Shared) (σ:St) (H:Hp) (vs:List V) (us:List Value) (Q:St->Hp->Prop),Inv X pins σ H s->Vals vs us->t vs σ H Q ->
  wpAny (model X.prog X.w) X.A (assignInOrder ((assignEach ts X.env).map (·.2)) us) (fun _ s'=>∃ σ' H',Inv X pins σ' H' s' /\ Q σ' H') X.xe s
abbrev TSet:=V->V->V->Hp->(Hp->Prop)->Prop
def PSet (X:Cx) (t:TSet):Prop :=
 ∀ (pins:List (Addr × Obj)) (s:Shared) (σ:St) (H:Hp) (o i v:V) (ov iv u:Value) (Q:Hp->Prop),Inv X pins σ H s->RelV o ov->RelV i iv->RelV v u->t o i v H Q ->
  wpAny (model X.prog X.w) X.A (setItem ov iv u) (fun _ s'=>∃ H',Inv X pins σ H' s' /\ Q H') X.xe s
abbrev TIp:=V->V->Hp->VK->Prop
def PIp (X:Cx) (op:Operator) (t:TIp):Prop :=
 ∀ (pins:List (Addr × Obj)) (s:Shared) (σ:St) (H:Hp) (x y:V) (v u:Value) (Q:VK),Inv X pins σ H s->RelV x v->RelV y u->t x y H Q ->
  wpAny (model X.prog X.w) X.A (inplaceOp op v u) (EP X pins σ Q) X.xe s
section
variable {X:Cx} {pos:Pos}
def vb7 (i:Nat):TG:=fun v σ H Q=>Q (σ.set i (some v)) H
theorem v82 {i:Nat} {x:Str} (hN:X.N.Nodup) (hi:X.N[i]?=some x) (hx:Loc X.env.scope x) (hf:X.fn x=true \/ X.env.scope.names.lookup x=some .local:=by first | exact .inl rfl | exact .inr rfl | assumption):PG X (.Name x pos) (vb7 i):=by
 intro pins s σ H v u Q I r h;exact wpAny_assign_Name (ua4 I hN hi hx r (fun s' I'=>⟨_,H,I',h⟩) hf)
def gNil:TGs:=fun vs σ H Q=>vs=[] /\ Q σ H
def vq3 (t:TG) (u:TGs):TGs:=fun vs σ H Q=>∃ v r,vs=v::r /\ t v σ H fun σ' H'=>u r σ' H' Q
theorem v81:PGs X [] gNil:=by
 intro pins s σ H vs us Q I r h;obtain ⟨e,h⟩:=h;subst e;cases r;exact assignInOrder_nil ⟨σ,H,I,h⟩
theorem uv9 {e:Expr} {es:List Expr} {t:TG} {u:TGs} (h1:PG X e t) (h2:PGs X es u)
  (hs:(assignEach (e::es) X.env).map (·.2)=assign e X.env::(assignEach es X.env).map (·.2):=by rfl):PGs X (e::es) (vq3 t u):=by
 intro pins s σ H vs us Q I r h;obtain ⟨v,vr,e1,h⟩:=h;subst e1;cases r with
 | cons r rr =>
  rw [hs]
  (refine assignInOrder_cons (thn (h1 pins s σ H _ _ _ I r h) ?_);rintro _ s1 ⟨σ1,H1,I1,q1⟩)
  exact h2 pins s1 σ1 H1 _ _ Q I1 rr q1
def gTup (K:W.Frag) (n:Nat) (t:TGs):TG:=fun v σ H Q=>∃ a xs,v=.ref a /\ SqT K H a xs /\ xs.length=n /\ t xs σ H Q
theorem vj0 {es:List Expr} {k:Nat} {t:TGs} {n:Nat} (hc:X.calm=true) (h:PGs X es t)
  (hn:(assignEach es X.env).length=n:=by rfl) (hst:(assignEach es X.env).findIdx? (·.1)=none:=by rfl):PG X (.Tuple es k pos) (gTup X.K n t):=by
 intro pins s σ H v u Q I r hw;obtain ⟨a,xs,e1,hq,hl,hw⟩:=hw;subst e1;cases r;obtain ⟨its,rv,ht,hz⟩:=I.tuple hq;refine assign_Tuple_tuple (I.ok.hd hc) ht (by simp [hn,<- hl,rv.length]) hst fun h' hx=>?_
 have I1:Inv X pins σ H { s with heap:=h' }:=I.kept (t':=s.toks) fun b o e=>hx b o (Nat.ne_of_lt (Heap.lt_size e)) e
 exact h pins _ σ H xs _ Q I1 (by simpa using rv) hw
def gSub (to ti:TE) (t:TSet):TG:=fun v σ H Q=>to σ H fun o H1=>ti σ H1 fun i H2=>t o i v H2 fun H3=>Q σ H3
theorem vj1 {o i:Expr} {to ti:TE} {t:TSet} (ho:PE X o to) (hi:PE X i ti) (hs:PSet X t)
  (ha:∀ v,assign (.Subscript o i pos) X.env v=(do
   let ov <- holding [v] (eval o X.env)
   let iv <- holding [v,ov] (eval i X.env)
   standAt pos
   holding [v,ov,iv] (setItem ov iv v)
   release [v,ov,iv] []):=by intro _;rfl):PG X (.Subscript o i pos) (gSub to ti t):=by
 intro pins s σ H v u Q I r h;rw [ha]
 (refine wpAny_bind (wpAny_holding (thn (ho pins s σ H _ I h) ?_));rintro ov s1 ⟨x,H1,I1,r1,q1⟩)
 (refine wpAny_bind (wpAny_holding (thn (hi pins s1 σ H1 _ I1 q1) ?_));rintro iv s2 ⟨y,H2,I2,r2,q2⟩)
 (refine wpAny_bind (wpAny_standAt (wpAny_bind (wpAny_holding (thn (hs pins s2 σ H2 x y v ov iv u _ I2 r1 r2 r q2) ?_))));rintro _ s3 ⟨H3,I3,q3⟩)
 exact wpAny_release ⟨σ,H3,I3,q3⟩
def tAsg (te:TE) (g:TG):TS:=fun D σ H=>te σ H fun x H1=>g x σ H1 D.nx
theorem vi8 {tg e:Expr} {te:TE} {g:TG} (he:PE X e te) (hg:PG X tg g) (hs:swapsWithSole [tg] e pos.line X.env=pure false:=by rfl) (hw:swappedStores [tg] e X.env=pure none:=by rfl)
  (h1:(assignEach [tg] X.env).map (·.2)=[assign tg X.env]:=by rfl):PS X (.Assign [tg] e pos) (tAsg te g):=by
 intro pins s σ H D I h
 (refine wpAny_Assign_stores (thn (he pins s σ H _ I h) ?_) hs hw;rintro v s1 ⟨x,H1,I1,r1,q1⟩)
 rw [h1];exact thn (hg pins s1 σ H1 x v _ I1 r1 q1) fun _ s2 q=>q
theorem vi4 {i:Nat} {x:Str} {e:Expr} {te:TE} {pos':Pos} (hN:X.N.Nodup) (hi:X.N[i]?=some x) (hx:Loc X.env.scope x) (he:PE X e te) (hs:swapsWith e (some (.Name x pos')) pos.line X.env=pure false:=by rfl) (hf:X.fn x=true \/ X.env.scope.names.lookup x=some .local:=by first | exact .inl rfl | exact .inr rfl | assumption) :
  PS X (.Assign [.Name x pos'] e pos) (tAsg te (vb7 i)):=by
 intro pins s σ H D I h
 (refine wpAny_Assign_Name (thn (he pins s σ H _ I h) ?_) hs;rintro v s1 ⟨y,H1,I1,r1,q1⟩)
 exact ua4 I1 hN hi hx r1 (fun s2 I2=>⟨_,H1,I2,q1⟩) hf
def tAug (i:Nat) (te:TE) (ti:TIp):TS:=fun D σ H=>∃ x,σ[i]?=some (some x) /\ te σ H fun y H1=>ti x y H1 fun z H2=>D.nx (σ.set i (some z)) H2
theorem vi7 {i:Nat} {x:Str} {e:Expr} {te:TE} {op:Operator} {ti:TIp} {pos':Pos} (hN:X.N.Nodup) (hi:X.N[i]?=some x) (hx:Loc X.env.scope x) (he:PE X e te) (ho:PIp X op ti) (hf:X.fn x=true \/ X.env.scope.names.lookup x=some .local:=by first | exact .inl rfl | exact .inr rfl | assumption) :
  PS X (.AugAssign (.Name x pos') op e pos) (tAug i te ti):=by
 intro pins s σ H D I h;obtain ⟨v,e1,h⟩:=h;obtain ⟨m,hn,hl⟩:=I.loc;have vis:Vis X.env.scope x:=by rcases hx with k | k;exact .inl k;exact .inr (.inl k)
 obtain ⟨u,r,l⟩:=hl i x v hi e1 vis;refine wpAny_AugAssign_Name ?_;have go:wpAny (model X.prog X.w) X.A (eval e X.env) (fun w s₂=>wpAny (model X.prog X.w) X.A (inplaceOp op u w) (fun r s₃=>wpAny (model X.prog X.w) X.A (storeName X.env x r) (fun _=>SP X pins D .next) X.xe s₃) X.xe s₂) X.xe s:=by
  (refine thn (he pins s σ H _ I h) ?_;rintro w s1 ⟨y,H1,I1,r1,q1⟩)
  (refine thn (ho pins s1 σ H1 v y u w _ I1 r r1 q1) ?_;rintro z s2 ⟨zv,H2,I2,r2,q2⟩)
  exact ua4 I2 hN hi hx r2 (fun s3 I3=>⟨_,H2,I3,q2⟩) hf
 rcases l with ⟨hk,hm⟩ | ⟨hk,c,hc,hcell⟩
 ·exact wpAny_loadName_local I.ok.kind hk hn hm go
 ·rcases hk with hk | hk
  ·exact wpAny_loadName_cell I.ok.kind hk hc hcell go
  ·rcases hx with k | k
   ·have:X.env.scope.names.lookup x=some .free:=hk
    rw [k] at this;cases this
   ·have:X.env.scope.names.lookup x=some .free:=hk
    rw [k] at this;cases this
end
section
variable {X:Cx} {pos:Pos}
def v16 (c:TT) (tb:TS):TS:=fun D σ H=>∃ W:Nat->St->Hp->Prop,(∃ m,W m σ H) /\ ∀ m σ H,W m σ H ->
 c σ H fun b H1=>if b=true then ∃ N:St->Hp->Prop,(∀ σ' H',N σ' H'->∃ m',m' < m /\ W m' σ' H') /\ tb { D with nx:=N,ct:=N,bk:=D.nx } σ H1 else D.nx σ H1
theorem uv4 {c:Expr} {body:List Stmt} {tc:TT} {tb:TS} (hp:PassesOwn (model X.prog X.w) X.A X.env X.xe) (hc:PT X c tc) (hb:PSs X body tb):PS X (.While c body [] pos) (v16 tc tb):=by
 intro pins s σ H D I h;obtain ⟨W,⟨m0,w0⟩,turn⟩:=h;refine wpAny_While (codeAny_whileLoop (fun n s'=>∃ σ' H',Inv X pins σ' H' s' /\ W n σ' H') ?_ m0 ⟨σ,H,I,w0⟩);rintro n s1 ⟨σ1,H1,I1,w1⟩
 (refine wpAny_passesOwn hp (thn (hc pins s1 σ1 H1 _ I1 (turn n σ1 H1 w1)) ?_);rintro b s2 ⟨H2,I2,q2⟩)
 cases b with
 | true =>
  obtain ⟨N,hN,q2⟩:=q2;rw [if_pos rfl];refine wpAny_passesOwn hp (thn (hb pins s2 σ1 H2 _ I2 q2) fun f s3 q3=>?_);cases f with
  | next =>
   obtain ⟨σ3,H3,I3,n3⟩:=q3;obtain ⟨m',hm,w3⟩:=hN σ3 H3 n3;exact ⟨m',hm,σ3,H3,I3,w3⟩
  | cont =>
   obtain ⟨σ3,H3,I3,n3⟩:=q3;obtain ⟨m',hm,w3⟩:=hN σ3 H3 n3;exact ⟨m',hm,σ3,H3,I3,w3⟩
  | brk=>exact q3
  | ret v=>exact q3
 | false =>
  rw [if_neg Bool.false_ne_true];exact wpAny_execs_nil ⟨σ1,H2,I2,q2⟩
end
structure It where
 go:Nat->Hp->Prop
 yld:Nat->Hp->V->Hp->Prop
 stop:Nat->Hp->Prop
def FpOk (X:Cx) (pins:List (Addr × Obj)) (H:Hp) (b:Addr):Prop :=
 H b=none /\ b ≠ X.env.locals /\ b ∉ X.fs /\ (b ∈ X.ex \/ X.s₀.heap.objs.size<=b) /\ (∀ x c,X.env.cells.lookup x=some c->c ≠ b) /\ ∀ p ∈ X.pn++pins,p.1 ≠ b
theorem Inv.fpOk {X:Cx} {pins:List (Addr × Obj)} {σ:St} {H H':Hp} {s:Shared} {b:Addr} (I:Inv X pins σ H s) (hb:s.heap.objs.size<=b) (hn:H' b=none):FpOk X pins H' b:=by
 refine ⟨hn,Nat.ne_of_gt (Nat.lt_of_lt_of_le I.lt hb),I.nofs hb,.inr (Nat.le_trans I.sz hb),fun x c e z=>?_,fun p hp z=>?_⟩
 ·obtain ⟨v,q⟩:=I.cell x c e
  exact absurd (Nat.lt_of_lt_of_le q.lt (by rw [z];exact hb)) (Nat.lt_irrefl _)
 ·exact absurd (Nat.lt_of_lt_of_le (Heap.lt_size (I.pin p hp).1) (by rw [z];exact hb)) (Nat.lt_irrefl _)
structure Turn (P:Program) (w:World) (K:W.Frag) (tg:Expr) (J:It) (fp:List Addr) (it:Addr) (tn:Nat->Heap->Prop):Prop where
 mem:it ∈ fp
 obj:∀ i h,tn i h->∀ b ∈ fp,∃ o,h.get? b=some o /\ ∀ v,o.data ≠ .cell v
 keep:∀ i h h',tn i h->(∀ b ∈ fp,∀ o,h.get? b=some o->h'.get? b=some o)->tn i h'
 item:∀ (X:Cx),X.prog=P->X.w=w->X.K=K->X.calm=true->∀ (i:Nat) (pins:List (Addr × Obj)) (s:Shared) (σ:St) (H:Hp) (E:Value->Shared->Prop),Inv X pins σ H s->(∀ b ∈ fp,FpOk X pins H b)->tn i s.heap->J.go i H ->
  wpAny (model P w) X.A (pyNext (.ref it)) (fun r s1=>∃ u,r=some u /\
   wpAny (model P w) X.A (letOwnedTupleGo tg (.ref it) u) (fun _ s2=>∃ x H',Inv X pins σ H' s2 /\ RelV x u /\ J.yld i H x H' /\ tn (i+1) s2.heap /\ ∀ b ∈ fp,H' b=none) E s1) E s
 done:∀ (X:Cx),X.prog=P->X.w=w->X.K=K->X.calm=true->∀ (i:Nat) (pins:List (Addr × Obj)) (s:Shared) (σ:St) (H:Hp) (E:Value->Shared->Prop),Inv X pins σ H s->(∀ b ∈ fp,FpOk X pins H b)->tn i s.heap->J.stop i H ->
  wpAny (model P w) X.A (pyNext (.ref it)) (fun r s1=>r=none /\ Inv X pins σ H s1) E s
 self:∀ (A:Around) (i:Nat) (s:Shared) (Q:Value->Shared->Prop) (E:Value->Shared->Prop),tn i s.heap->Q (.ref it) s->wpAny (model P w) A (pyIter (.ref it)) Q E s
abbrev TI:=St->Hp->(It->Hp->Prop)->Prop
def PIE (X:Cx) (pins:List (Addr × Obj)) (σ:St) (tg:Expr) (R:It->Hp->Prop) (itv:Value) (s2:Shared):Prop :=
 ∃ (it:Addr) (fp:List Addr) (tn:Nat->Heap->Prop) (J:It) (H':Hp),itv=.ref it /\ Inv X pins σ H' s2 /\ Turn X.prog X.w X.K tg J fp it tn /\ tn 0 s2.heap /\ (∀ b ∈ fp,FpOk X pins H' b) /\ R J H'
def PI (X:Cx) (tg iter:Expr) (wi:TI):Prop :=
 ∀ (pins:List (Addr × Obj)) (s:Shared) (σ:St) (H:Hp) (R:It->Hp->Prop),Inv X pins σ H s->wi σ H R ->
  wpAny (model X.prog X.w) X.A (eval iter X.env) (fun v s1=>wpAny (model X.prog X.w) X.A (pyIter v) (PIE X pins σ tg R) X.xe s1) X.xe s
theorem vb6 {M : Model} {A : Around} {E : Value -> Shared -> Prop} {s : Shared} {tg : Expr} {it : Addr} {u : Value} {o : Obj} {n : String} {vs : Array Value} {Q : Unit -> Shared -> Prop} (ho : s.heap.get? it = some o) (hc : o.cls = .type n) (hd : o.data = .fields vs)
    (hn:["enumerate", "zip", "dict_itemiterator", "dict_reverseitemiterator", "odict_iterator", "itertools.zip_longest", "itertools.pairwise"].contains n=false) (hQ:Q () s):wpAny M A (letOwnedTupleGo tg (.ref it) u) Q E s:=by
  unfold letOwnedTupleGo;cases tg <;> first
    | exact wpAny_pure hQ
    | (cases u <;> first
        | exact wpAny_pure hQ
        | (refine wpAny_bind (wpAny_load ho ?_)
           rw [hc,hd]
           show wpAny M A (if (["enumerate", "zip", "dict_itemiterator", "dict_reverseitemiterator", "odict_iterator", "itertools.zip_longest", "itertools.pairwise"].contains n && vs[0]? == some (rawInt _))=true then _ else _) Q E s
           rw [if_neg (by intro h;rw [hn,Bool.false_and] at h;cases h)];exact wpAny_pure hQ))
def Itl (K:W.Frag) (a:Addr):It :=
 ⟨fun i H=>∃ xs x,SqL K H a xs /\ xs[i]?=some x,fun i H x H'=>H'=H /\ ∀ xs,SqL K H a xs->xs[i]?=some x,fun i H=>∃ xs,SqL K H a xs /\ xs.length<=i⟩
def Itt (K:W.Frag) (a:Addr):It :=
 ⟨fun i H=>∃ xs x,SqT K H a xs /\ xs[i]?=some x,fun i H x H'=>H'=H /\ ∀ xs,SqT K H a xs->xs[i]?=some x,fun i H=>∃ xs,SqT K H a xs /\ xs.length<=i⟩
def Itr (lo:Int) (n:Nat):It:=⟨fun i _=>i < n,fun i H x H'=>H'=H /\ x=.int (lo+i),fun i _=>n<=i⟩
theorem um5 {P:Program} {w:World} {K:W.Frag} {tg:Expr} (a it:Addr):Turn P w K tg (Itl K a) [it] it (fun i h=>h.IsListIter it a i) where
 mem:=by simp
 obj:=fun i h st b hb=>by
  have e:b=it:=by simpa using hb
  subst e;obtain ⟨o,e,c,d⟩:=st;exact ⟨o,e,fun v z=>by rw [d] at z;cases z⟩
 keep:=fun i h h' st k=>st.at fun o e=>k it (by simp) o e
 item:=by
  intro X hP hw hK hc i pins s σ H E I hf st hg;subst hP hw hK;obtain ⟨xs,x,hq,hx⟩:=hg;obtain ⟨its,rv,p,hz⟩:=I.list hq;obtain ⟨u,hu,ru⟩:=rv.get hx;obtain ⟨f0,f1,f2,f3,f4,f5⟩:=hf it (by simp);refine wpAny_pyNext_list_item st p.isList (x:=u) (by simpa using hu) fun h' st' sb=>?_
  have I1:Inv X pins σ H { s with heap:=h' }:=I.turned (t':=s.toks) (fun b o hb e=>(sb.2 b hb).trans e) f0 f1 f3 f4 f5
  obtain ⟨o,e,c,d⟩:=id st';exact ⟨u,rfl,vb6 (s:={ s with heap:=h' }) e c d (by decide) ⟨x,H,I1,ru,⟨rfl,fun ys hy=>by rw [I.list_inj hy hq];exact hx⟩,st',fun b hb=>(hf b hb).1⟩⟩
 done:=by
  intro X hP hw hK hc i pins s σ H E I hf st hg;subst hP hw hK;obtain ⟨xs,hq,hx⟩:=hg;obtain ⟨its,rv,p,hz⟩:=I.list hq;obtain ⟨f0,f1,f2,f3,f4,f5⟩:=hf it (by simp);have hl:=rv.length;exact wpAny_pyNext_list_end (I.ok.hd hc) st p.isList (by simp;omega) fun h' eb=>⟨rfl,I.turned (t':=s.toks) (fun b o hb e=>eb b o hb e) f0 f1 f3 f4 f5⟩
 self:=fun _ _ _ _ _ st h=>wpAny_pyIter_listiter st h
theorem uk1 {P:Program} {w:World} {K:W.Frag} {tg:Expr} (a it:Addr):Turn P w K tg (Itt K a) [it] it (fun i h=>h.IsTupleIter it a i) where
 mem:=by simp
 obj:=fun i h st b hb=>by
  have e:b=it:=by simpa using hb
  subst e;obtain ⟨o,e,c,d⟩:=st;exact ⟨o,e,fun v z=>by rw [d] at z;cases z⟩
 keep:=fun i h h' st k=>st.at fun o e=>k it (by simp) o e
 item:=by
  intro X hP hw hK hc i pins s σ H E I hf st hg;subst hP hw hK;obtain ⟨xs,x,hq,hx⟩:=hg;obtain ⟨its,rv,p,hz⟩:=I.tuple hq;obtain ⟨u,hu,ru⟩:=rv.get hx;obtain ⟨f0,f1,f2,f3,f4,f5⟩:=hf it (by simp);refine wpAny_pyNext_tuple_item st (show s.heap.IsTuple a its.toArray from p) (x:=u) (by simpa using hu) fun h' st' sb=>?_
  have I1:Inv X pins σ H { s with heap:=h' }:=I.turned (t':=s.toks) (fun b o hb e=>(sb.2 b hb).trans e) f0 f1 f3 f4 f5
  obtain ⟨o,e,c,d⟩:=id st';exact ⟨u,rfl,vb6 (s:={ s with heap:=h' }) e c d (by decide) ⟨x,H,I1,ru,⟨rfl,fun ys hy=>by rw [I.tuple_inj hy hq];exact hx⟩,st',fun b hb=>(hf b hb).1⟩⟩
 done:=by
  intro X hP hw hK hc i pins s σ H E I hf st hg;subst hP hw hK;obtain ⟨xs,hq,hx⟩:=hg;obtain ⟨its,rv,p,hz⟩:=I.tuple hq;obtain ⟨f0,f1,f2,f3,f4,f5⟩:=hf it (by simp);have hl:=rv.length;exact wpAny_pyNext_tuple_end (I.ok.hd hc) st (show s.heap.IsTuple a its.toArray from p) (by simp;omega) fun h' eb=>⟨rfl,I.turned (t':=s.toks) (fun b o hb e=>eb b o hb e) f0 f1 f3 f4 f5⟩
 self:=fun _ _ _ _ _ st h=>wpAny_pyIter_tupleiter st h
theorem uk2 {P:Program} {w:World} {K:PySem.W.Frag} {tg:Expr} (it:Addr) (lo:Int) (n:Nat):Turn P w K tg (Itr lo n) [it] it (fun i h=>IsRangeIter h it (lo+(i:Nat) * 1) ((n:Int) - (i:Nat)) 1) where
 mem:=by simp
 obj:=fun i h st b hb=>by
  have e:b=it:=by simpa using hb
  subst e;exact ⟨_,st,fun v z=>by
   have z':Data.fields _=Data.cell v:=z;cases z'⟩
 keep:=fun i h h' st k=>k it (by simp) _ st
 item:=by
  intro X hP hw hK hc i pins s σ H E I hf st hg;subst hP hw hK;obtain ⟨f0,f1,f2,f3,f4,f5⟩:=hf it (by simp);have W:=Walks.range (prog:=X.prog) (w:=X.w) (I.ok.hd hc) it lo 1 n;refine W.item i s _ _ hg st fun v h' tk hv st' kk=>?_
  obtain ⟨t,rfl⟩:=hv;have I1:Inv X pins σ H { s with heap:=h',toks:=tk }:=I.turned (fun b o hb e=>kk b o (by simpa using hb) e) f0 f1 f3 f4 f5
  refine ⟨_,rfl,vb6 (s:={ s with heap:=h',toks:=tk }) (n := "range_iterator") st' rfl rfl (by decide) ⟨.int (lo+i),H,I1,⟨t,?_⟩,⟨rfl,rfl⟩,st',fun b hb=>(hf b hb).1⟩⟩;rw [Int.mul_one]
 done:=by
  intro X hP hw hK hc i pins s σ H E I hf st hg;subst hP hw hK;obtain ⟨f0,f1,f2,f3,f4,f5⟩:=hf it (by simp);exact wpAny_pyNext_range_end (I.ok.hd hc) st (by have:n<=i:=hg;omega) fun h' eb=>⟨rfl,I.turned (t':=s.toks) (fun b o hb e=>eb b o hb e) f0 f1 f3 f4 f5⟩
 self:=fun _ _ _ _ _ st h=>wpAny_pyIter_rangeiter st h
section
variable {X:Cx} {tg:Expr}
theorem ui1 {pins:List (Addr × Obj)} {σ:St} {H:Hp} {s:Shared} {R:It->Hp->Prop} {E:Value->Shared->Prop} {lo hi:Int} {t u v:Tok} {tk:Nat} (I:Inv X pins σ H s) (h1:-(2 ^ 62)<=lo) (h2:lo < 2 ^ 62) (h3:-(2 ^ 62)<=hi) (h4:hi < 2 ^ 62)
  (q:R (Itr lo (hi - lo).toNat) H):wpAny (model X.prog X.w) X.A (pyIter (.ref s.heap.objs.size)) (PIE X pins σ tg R) E { s with heap:=s.heap.push { cls:=.type "range",data:=.fields #[.int lo t,.int hi u,.int 1 v] },toks:=tk }:=by
 refine wpAny_pyIter_range (IsRange.new ..) (small_one h1 h2 h3 h4) ?_;have I1:Inv X pins σ H { s with heap:=s.heap.push { cls:=.type "range",data:=.fields #[.int lo t,.int hi u,.int 1 v] },toks:=tk }:=I.kept fun b o e=>Heap.get?_push_of_some _ e
 refine ⟨(s.heap.push { cls:=.type "range",data:=.fields #[.int lo t,.int hi u,.int 1 v] }).objs.size,[(s.heap.push { cls:=.type "range",data:=.fields #[.int lo t,.int hi u,.int 1 v] }).objs.size],_,_,H,rfl,
  I1.kept (t':=tk) fun b o e=>Heap.get?_push_of_some _ e,uk2 _ lo (hi - lo).toNat,?_,fun b hb=>?_,q⟩
 ·have e1:lo+((0:Nat):Int) * 1=lo:=by simp
  have e2:(((hi - lo).toNat:Nat):Int) - ((0:Nat):Int)=Builtin.Range.rangeSize lo hi 1:=by rw [rangeSize_one];split <;> omega
  show IsRangeIter _ _ (lo+((0:Nat):Int) * 1) ((((hi - lo).toNat:Nat):Int) - ((0:Nat):Int)) 1
  rw [e1,e2];exact Heap.get?_push_size _ rfl
 ·have e:b=(s.heap.push { cls:=.type "range",data:=.fields #[.int lo t,.int hi u,.int 1 v] }).objs.size:=by simpa using hb
  subst e;exact I1.fpOk (Nat.le_refl _) (I1.hok.fresh (Nat.le_refl _))
def vq0 (ta:TA):TI:=fun σ H R=>ta σ H fun vs H1=>∃ j:Int,vs=[.int j] /\ -(2 ^ 62)<=j /\ j < 2 ^ 62 /\ R (Itr 0 j.toNat) H1
def vp9 (ta:TA):TI:=fun σ H R=>ta σ H fun vs H1=>∃ i j:Int,vs=[.int i,.int j] /\ (-(2 ^ 62)<=i /\ i < 2 ^ 62 /\ -(2 ^ 62)<=j /\ j < 2 ^ 62) /\ R (Itr i (j - i).toNat) H1
theorem uo3 {a:Expr} {ta:TA} {p pos:Pos} (hg:Gl X "range") (hm:X.mg "range" = none) (ha:PA X [a] ta) (hs:starEach [a] X.env=[(false,eval a X.env)]:=by rfl):PI X tg (.Call (.Name "range" p) [a] [] pos) (vq0 ta):=by
 intro pins s σ H R I h
 (refine Call_ (u57 I hg hm boot_range (PyProof.Rows.callWith_type1 (thn (ha pos pins s σ H _ I h) ?_) hs rfl));rintro us s1 ⟨vs,H1,I1,r1,q1⟩)
 obtain ⟨j,e,q1,q2,q⟩:=q1;subst e;cases r1 with
 | cons r rr =>
  cases rr;obtain ⟨t,rfl⟩:=r;exact call_range_1 (ui1 I1 (by omega) (by omega) q1 q2 (by simpa using q))
theorem uo2 {a b:Expr} {ta:TA} {p pos:Pos} (hg:Gl X "range") (hm:X.mg "range" = none) (ha:PA X [a,b] ta) (hs:starEach [a,b] X.env=[(false,eval a X.env),(false,eval b X.env)]:=by rfl) (hs2:starEach [b] X.env=[(false,eval b X.env)]:=by rfl) :
  PI X tg (.Call (.Name "range" p) [a,b] [] pos) (vp9 ta):=by
 intro pins s σ H R I h;refine Call_ (u57 I hg hm boot_range (PyProof.Rows.callWith_type1 (thn (ha pos pins s σ H _ I h) fun us s1 ⟨vs,H1,I1,r1,q1⟩=>?_) (by rw [hs,hs2]) (by rw [hs2];rfl)));obtain ⟨i,j,e,⟨q1,q2,q3,q4⟩,q⟩:=q1;subst e;cases r1 with
 | cons r rr =>
  cases rr with
  | cons r' rr =>
   cases rr;obtain ⟨t,rfl⟩:=r;obtain ⟨t',rfl⟩:=r';exact call_range_2 (ui1 I1 q1 q2 q3 q4 q)
def tFor (wi:TI) (g:TG) (tb:TS):TS:=fun D σ H=>wi σ H fun J H1=>∃ W:Nat->Nat->St->Hp->Prop,(∃ m,W 0 m σ H1) /\ ∀ i m σ H,W i m σ H ->
 (J.stop i H /\ D.nx σ H) \/ (J.go i H /\ ∃ N:St->Hp->Prop,(∀ σ' H',N σ' H'->∃ m',m' < m /\ W (i+1) m' σ' H') /\ ∀ x H',J.yld i H x H'->g x σ H' fun σ2 H2=>tb { D with nx:=N,ct:=N,bk:=D.nx } σ2 H2)
def ud7 (fp:List Addr) (h:Heap):List (Addr × Obj):=fp.filterMap fun b=>(h.get? b).map fun o=>(b,o)
theorem u48 {fp:List Addr} {h:Heap} {b:Addr} {o:Obj} (hb:b ∈ fp) (e:h.get? b=some o):(b,o) ∈ ud7 fp h:=List.mem_filterMap.mpr ⟨b,hb,by rw [e];rfl⟩
theorem uo6 {fp:List Addr} {h:Heap} {p:Addr × Obj} (hp:p ∈ ud7 fp h):p.1 ∈ fp /\ h.get? p.1=some p.2:=by
 obtain ⟨b,hb,e⟩:=List.mem_filterMap.mp hp;cases q:h.get? b with
 | none=>rw [q] at e;cases e
 | some o =>
  rw [q] at e;have e':(b,o)=p:=Option.some.inj e;subst e';exact ⟨hb,q⟩
theorem Inv.pinned {pins:List (Addr × Obj)} {σ:St} {H:Hp} {s:Shared} {fp:List Addr} (I:Inv X pins σ H s) (hf:∀ b ∈ fp,FpOk X pins H b) (ho:∀ b ∈ fp,∃ o,s.heap.get? b=some o /\ ∀ v,o.data ≠ .cell v):Inv X (pins++ud7 fp s.heap) σ H s :=
 I.pins_of fun p hp=>(List.mem_append.mp hp).elim (fun z=>I.pin p (List.mem_append_right _ z)) fun z=>by
  obtain ⟨hb,e⟩:=uo6 z;obtain ⟨f0,f1,f2,_⟩:=hf p.1 hb;obtain ⟨o,e',d⟩:=ho p.1 hb;rw [e] at e';cases e';exact ⟨e,f0,f1,f2,d⟩
theorem Inv.unpinned {pins pl:List (Addr × Obj)} {σ:St} {H:Hp} {s:Shared} (I:Inv X (pins++pl) σ H s):Inv X pins σ H s:=I.pins_of fun p hp=>I.pin p (List.mem_append_right _ (List.mem_append_left _ hp))
theorem vi6 {iter:Expr} {body:List Stmt} {wi:TI} {g:TG} {tb:TS} {pos:Pos} (hp:PassesOwn (model X.prog X.w) X.A X.env X.xe) (hc:X.calm=true) (hi:PI X tg iter wi) (hg:PG X tg g) (hb:PSs X body tb)
  (hs:∀ x,foldedSetIterable iter X.env x=pure x:=by intro _;rfl):PS X (.For tg iter body [] pos) (tFor wi g tb):=by
 intro pins s σ H D I h;refine wpAny_For (thn (hi pins s σ H _ I h) fun v s1 h1=>thn h1 fun itv s2 h2=>?_) hs;obtain ⟨it,fp,tn,J,H2,e,I2,T,st2,f2,W,⟨m0,w0⟩,turn⟩:=h2;subst e;have stat:∀ {H':Hp},(∀ b ∈ fp,H' b=none)->∀ b ∈ fp,FpOk X pins H' b:=fun hn b hb=>⟨hn b hb,(f2 b hb).2⟩
 refine codeAny_forLoop_any (fun n s'=>∃ i σ' H',Inv X pins σ' H' s' /\ tn i s'.heap /\ (∀ b ∈ fp,H' b=none) /\ W i n σ' H') ?_ m0 ⟨0,σ,H2,I2,st2,fun b hb=>(f2 b hb).1,w0⟩;rintro n s3 ⟨i,σ3,H3,I3,st3,fr3,w3⟩
 rcases turn i n σ3 H3 w3 with ⟨stop,qn⟩ | ⟨go,N,hN,step⟩
 ·(refine wpAny_passesOwn hp (thn (T.done X rfl rfl rfl hc i pins s3 σ3 H3 X.xe I3 (stat fr3) st3 stop) ?_);rintro r s4 ⟨hr,I4⟩)
  subst hr;exact wpAny_execs_nil ⟨σ3,H3,I4,qn⟩
 ·(refine wpAny_passesOwn hp (thn (T.item X rfl rfl rfl hc i pins s3 σ3 H3 X.xe I3 (stat fr3) st3 go) ?_);rintro r s4 ⟨u,hr,h4⟩)
  subst hr
  (refine wpAny_passesOwn hp (thn h4 ?_);rintro _ s5 ⟨x,H5,I5,r5,y5,st5,fr5⟩)
  have I5':=I5.pinned (stat fr5) (T.obj _ _ st5)
  (refine wpAny_passesOwn hp (thn (hg _ s5 σ3 H5 x u _ I5' r5 (step x H5 y5)) ?_);rintro _ s6 ⟨σ6,H6,I6,q6⟩)
  refine wpAny_passesOwn hp (thn (hb _ s6 σ6 H6 _ I6 q6) fun f s7 q7=>?_);have again:∀ {σ7:St} {H7:Hp},Inv X (pins++ud7 fp s5.heap) σ7 H7 s7->N σ7 H7->∃ m,m < n /\ ∃ i σ' H',Inv X pins σ' H' s7 /\ tn i s7.heap /\ (∀ b ∈ fp,H' b=none) /\ W i m σ' H':=fun {σ7 H7} I7 n7=>by
   obtain ⟨m',hm,w7⟩:=hN σ7 H7 n7;refine ⟨m',hm,i+1,σ7,H7,I7.unpinned,T.keep _ _ _ st5 fun b hb o e=>(I7.pin (b,o) (List.mem_append_right _ (List.mem_append_right _ (u48 hb e)))).1,fun b hb=>?_,w7⟩;obtain ⟨o,e,d⟩:=T.obj _ _ st5 b hb;exact (I7.pin (b,o) (List.mem_append_right _ (List.mem_append_right _ (u48 hb e)))).2.1
  cases f with
  | next=>obtain ⟨σ7,H7,I7,n7⟩:=q7;exact again I7 n7
  | cont=>obtain ⟨σ7,H7,I7,n7⟩:=q7;exact again I7 n7
  | brk=>obtain ⟨σ7,H7,I7,q7⟩:=q7;exact ⟨σ7,H7,I7.unpinned,q7⟩
  | ret v=>obtain ⟨x7,σ7,H7,I7,r7,q7⟩:=q7;exact ⟨x7,σ7,H7,I7.unpinned,r7,q7⟩
end
abbrev R2:=V->V->Hp->VK->Prop
def OpR (X:Cx) (f:Value->Value->Sem Value) (r:R2):Prop :=
 ∀ (pins:List (Addr × Obj)) (s:Shared) (σ:St) (H:Hp) (x y:V) (v u:Value) (Q:VK),Inv X pins σ H s->RelV x v->RelV y u->r x y H Q ->
  wpAny (model X.prog X.w) X.A (f v u) (EP X pins σ Q) X.xe s
def UnR (X:Cx) (f:Value->Sem Value) (r:V->Hp->VK->Prop):Prop :=
 ∀ (pins:List (Addr × Obj)) (s:Shared) (σ:St) (H:Hp) (x:V) (v:Value) (Q:VK),Inv X pins σ H s->RelV x v->r x H Q ->
  wpAny (model X.prog X.w) X.A (f v) (EP X pins σ Q) X.xe s
def CallR (X:Cx) (f:Value) (r:List V->Hp->VK->Prop):Prop :=
 ∀ (pins:List (Addr × Obj)) (s:Shared) (σ:St) (H:Hp) (xs:List V) (us:List Value) (Q:VK),Inv X pins σ H s->Vals xs us->r xs H Q ->
  wpAny (model X.prog X.w) X.A (call f us) (EP X pins σ Q) X.xe s
def tOp (r:R2) (ta tb:TE):TE:=fun σ H Q=>ta σ H fun x H1=>tb σ H1 fun y H2=>r x y H2 Q
def tUn (r:V->Hp->VK->Prop) (ta:TE):TE:=fun σ H Q=>ta σ H fun x H1=>r x H1 Q
def rI (C:Int->Int->Prop) (g:Int->Int->V):R2:=fun x y H Q=>∃ i j,x=.int i /\ y=.int j /\ C i j /\ Q (g i j) H
def rI0 (g:Int->Int->V):R2:=fun x y H Q=>∃ i j,x=.int i /\ y=.int j /\ Q (g i j) H
def rU (g:Int->V):V->Hp->VK->Prop:=fun x H Q=>∃ i,x=.int i /\ Q (g i) H
section
variable {X:Cx} {a b c:Expr} {ta tb tc:TE} {pos:Pos}
theorem binT (ha:PE X a ta) (hb:PE X b tb) {pins:List (Addr × Obj)} {s:Shared} {σ:St} {H:Hp} {R:V->V->Hp->Prop} (I:Inv X pins σ H s)
  (h:ta σ H fun x H1=>tb σ H1 fun y H2=>R x y H2) {Q:Value->Shared->Prop} {f:Value->Value->Sem Value}
  (hf:∀ v u s2 x y H2,Inv X pins σ H2 s2->RelV x v->RelV y u->R x y H2->wpAny (model X.prog X.w) X.A (f v u) Q X.xe s2) :
  wpAny (model X.prog X.w) X.A (eval a X.env) (fun v s₁=>wpAny (model X.prog X.w) X.A (eval b X.env) (fun u s₂=>wpAny (model X.prog X.w) X.A (f v u) Q X.xe s₂) X.xe s₁) X.xe s:=by
 (refine thn (ha pins s σ H _ I h) ?_;rintro v s1 ⟨x,H1,I1,r1,q1⟩)
 (refine thn (hb pins s1 σ H1 _ I1 q1) ?_;rintro u s2 ⟨y,H2,I2,r2,q2⟩)
 exact hf v u s2 x y H2 I2 r1 r2 q2
theorem vu7 {op:Operator} {r:R2} (ho:OpR X (binaryOp op) r) (ha:PE X a ta) (hb:PE X b tb):PE X (.BinOp a op b pos) (tOp r ta tb):=by
 intro pins s σ H Q I h;exact wpAny_BinOp (binT ha hb I h fun v u s2 x y H2 I2 rx ry q=>ho pins s2 σ H2 x y v u Q I2 rx ry q)
theorem vu5 {op:UnaryOp} {r:V->Hp->VK->Prop} (ho:UnR X (unaryOp op) r) (ha:PE X a ta):PE X (.UnaryOp op a pos) (tUn r ta):=by
 intro pins s σ H Q I h
 (refine UnaryOp_ (thn (ha pins s σ H _ I h) ?_);rintro v s1 ⟨x,H1,I1,r1,q1⟩;exact ho pins s1 σ H1 x v Q I1 r1 q1)
theorem opI {f:Value->Value->Sem Value} {C:Int->Int->Prop} {g:Int->Int->Int}
  (rule:∀ (i j:Int) (t u:Tok) (s:Shared) (Q:Value->Shared->Prop) (E:Value->Shared->Prop),C i j->Q (.int (g i j) s.toks) { s with toks:=s.toks+1 }->wpAny (model X.prog X.w) X.A (f (.int i t) (.int j u)) Q E s) :
  OpR X f (rI C fun i j=>.int (g i j)):=by
 intro pins s σ H x y v u Q I rx ry h;obtain ⟨i,j,rfl,rfl,hc,q⟩:=h;obtain ⟨t,rfl⟩:=rx;obtain ⟨t',rfl⟩:=ry;exact rule i j t t' s _ _ hc ⟨.int (g i j),H,I.tok _,⟨_,rfl⟩,q⟩
theorem opI0 {f:Value->Value->Sem Value} {g:Int->Int->Int}
  (rule:∀ (i j:Int) (t u:Tok) (s:Shared) (Q:Value->Shared->Prop) (E:Value->Shared->Prop),Q (.int (g i j) s.toks) { s with toks:=s.toks+1 }->wpAny (model X.prog X.w) X.A (f (.int i t) (.int j u)) Q E s) :
  OpR X f (rI0 fun i j=>.int (g i j)):=by
 intro pins s σ H x y v u Q I rx ry h;obtain ⟨i,j,rfl,rfl,q⟩:=h;obtain ⟨t,rfl⟩:=rx;obtain ⟨t',rfl⟩:=ry;exact rule i j t t' s _ _ ⟨.int (g i j),H,I.tok _,⟨_,rfl⟩,q⟩
theorem opB0 {f:Value->Value->Sem Value} {g:Int->Int->Bool}
  (rule:∀ (i j:Int) (t u:Tok) (s:Shared) (Q:Value->Shared->Prop) (E:Value->Shared->Prop),Q (.bool (g i j)) s->wpAny (model X.prog X.w) X.A (f (.int i t) (.int j u)) Q E s) :
  OpR X f (rI0 fun i j=>.bl (g i j)):=by
 intro pins s σ H x y v u Q I rx ry h;obtain ⟨i,j,rfl,rfl,q⟩:=h;obtain ⟨t,rfl⟩:=rx;obtain ⟨t',rfl⟩:=ry;exact rule i j t t' s _ _ ⟨.bl (g i j),H,I,rfl,q⟩
def CDiv (i j:Int):Prop:=0 < j /\ j < 1073741824
def CPow (i j:Int):Prop:=0<=j /\ j<=1000000 /\ i.natAbs < 2 ^ 64
def CMul (i j:Int):Prop:=(-(2 ^ 64) < i /\ i < 2 ^ 64) \/ (-(2 ^ 64) < j /\ j < 2 ^ 64)
theorem CMul.ok {i j:Int} (h:CMul i j):IntMulOk i j:=by
 rcases h with ⟨h1,h2⟩ | ⟨h1,h2⟩
 ·exact .of_left (intBits_le_64 h1 h2)
 ·exact .of_right (intBits_le_64 h1 h2)
theorem uk0 (k:Nat):(0:Int)<=2 ^ k:=by
 rw [two_pow_cast];exact Int.natCast_nonneg _
theorem op_add:OpR X (binaryOp .Add) (rI0 fun i j=>.int (i+j)):=opI0 fun _ _ _ _ _ _ _ q=>add_int q
theorem vk5:OpR X (binaryOp .Sub) (rI0 fun i j=>.int (i - j)):=opI0 fun _ _ _ _ _ _ _ q=>sub_int q
theorem op_mul:OpR X (binaryOp .Mult) (rI CMul fun i j=>.int (i * j)):=opI fun _ _ _ _ _ _ _ hc q=>mul_int q hc.ok
theorem vl1:OpR X (binaryOp .Mod) (rI (fun _ j=>0 < j) fun i j=>.int (i % j)):=opI fun i j _ _ _ _ _ hc q=>by
 have h1:(0:Int) < j:=hc;exact mod_int' (by omega) (by rw [Int.fmod_eq_emod_of_nonneg i (by omega)];exact q)
theorem vk9:OpR X (binaryOp .Pow) (rI CPow fun i j=>.int (i ^ j.toNat)):=opI fun _ _ _ _ _ _ _ hc q=>pow_int_small hc.1 hc.2.1 hc.2.2 q
theorem vk7:OpR X (binaryOp .LShift) (rI CPow fun i j=>.int (i * 2 ^ j.toNat)):=opI fun _ _ _ _ _ _ _ hc q=>lshift_int_small hc.1 hc.2.1 hc.2.2 q
theorem vk6:OpR X (binaryOp .RShift) (rI (fun _ j=>0<=j) fun i j=>.int (i / 2 ^ j.toNat)):=opI fun i j _ _ _ _ _ hc q =>
 rshift_int hc (by rw [Int.fdiv_eq_ediv_of_nonneg i (uk0 _)];exact q)
theorem vl4:OpR X (binaryOp .BitAnd) (rI0 fun i j=>.int (Builtin.bitAnd i j)):=opI0 fun _ _ _ _ _ _ _ q=>and_int q
theorem vv1:OpR X (binaryOp .BitOr) (rI0 fun i j=>.int (Builtin.bitOr i j)):=opI0 fun _ _ _ _ _ _ _ q=>or_int q
theorem vk4:OpR X (binaryOp .BitXor) (rI0 fun i j=>.int (Builtin.bitXor i j)):=opI0 fun _ _ _ _ _ _ _ q=>xor_int q
theorem vb4:OpR X (inplaceOp .Add) (rI0 fun i j=>.int (i+j)):=opI0 fun _ _ _ _ _ _ _ q=>iadd_int q
theorem unI {f:Value->Sem Value} {g:Int->Int}
  (rule:∀ (i:Int) (t:Tok) (s:Shared) (Q:Value->Shared->Prop) (E:Value->Shared->Prop),Q (.int (g i) s.toks) { s with toks:=s.toks+1 }->wpAny (model X.prog X.w) X.A (f (.int i t)) Q E s) :
  UnR X f (rU fun i=>.int (g i)):=by
 intro pins s σ H x v Q I rx h;obtain ⟨i,rfl,q⟩:=h;obtain ⟨t,rfl⟩:=rx;exact rule i t s _ _ ⟨.int (g i),H,I.tok _,⟨_,rfl⟩,q⟩
theorem vg3:UnR X (unaryOp .USub) (rU fun i=>.int (-i)):=unI fun _ _ _ _ _ q=>neg_int q
theorem vg4:UnR X (unaryOp .Invert) (rU fun i=>.int (Builtin.bitNot i)):=unI fun _ _ _ _ _ q=>invert_int q
end
def scal:V->V->Bool
 | .non,.non=>true | .non,.int _=>true | .int _,.non=>true | .non,.bl _=>true | .bl _,.non=>true | .non,.str _=>true | .str _,.non=>true
 | .int _,.int _=>true | .bl _,.bl _=>true | .str _,.str _=>true | .byt _,.byt _=>true
 | .int _,.str _=>true | .str _,.int _=>true | .bl _,.str _=>true | .str _,.bl _=>true
 | _,_=>false
def rEq:R2:=fun x y H Q=>scal x y=true /\ Q (.bl (decide (x=y))) H
def rNe:R2:=fun x y H Q=>scal x y=true /\ Q (.bl (!decide (x=y))) H
theorem us8 {i j:Int}:decide (V.int i=V.int j)=(i == j):=by
 rw [Bool.eq_iff_iff];simp
theorem v40 {i j:Bool}:decide (V.bl i=V.bl j)=(i == j):=by
 rw [Bool.eq_iff_iff];simp
theorem us7 {i j:Str}:decide (V.str i=V.str j)=(i == j):=by
 rw [Bool.eq_iff_iff];simp
theorem us9 {i j:Array UInt8}:decide (V.byt i=V.byt j)=(i.toList == j.toList):=by
 rw [Bool.eq_iff_iff];cases i;cases j;simp
section
variable {X:Cx} {a b c:Expr} {ta tb tc:TE} {pos:Pos}
theorem u10 {pins:List (Addr × Obj)} {σ:St} {H:Hp} {s:Shared} {Q:VK} {k k':Bool} (I:Inv X pins σ H s) (q:Q (.bl k) H) (e:k=k'):EP X pins σ Q (.bool k') s:=by
 subst e;exact ⟨.bl k,H,I,rfl,q⟩
theorem op_eq:OpR X (compareOp .Eq) rEq:=by
 intro pins s σ H x y v u Q I rx ry h;obtain ⟨hs,q⟩:=h;cases x with
 | non =>
  cases rx;cases y with
  | non=>cases ry;exact PySem.EqNone.eq_none_none (u10 I q (by simp))
  | bl j=>cases ry;exact PySem.EqNone.eq_none_bool (u10 I q (by simp))
  | int j=>obtain ⟨t',rfl⟩:=ry;exact PySem.EqNone.eq_none_int (u10 I q (by simp))
  | str j=>obtain ⟨t',rfl⟩:=ry;exact PySem.EqNone.eq_none_str (u10 I q (by simp))
  | _=>exact absurd (show false=true from hs) Bool.false_ne_true
 | bl i =>
  cases rx;cases y with
  | non=>cases ry;exact PySem.EqNone.eq_bool_none (u10 I q (by simp))
  | bl j=>cases ry;exact eq_bool (u10 I q v40)
  | str j=>obtain ⟨t',rfl⟩:=ry;exact PySem.EqMixed.eq_bool_str (u10 I q (by simp))
  | _=>exact absurd (show false=true from hs) Bool.false_ne_true
 | int i =>
  obtain ⟨t,rfl⟩:=rx;cases y with
  | non=>cases ry;exact PySem.EqNone.eq_int_none (u10 I q (by simp))
  | int j=>obtain ⟨t',rfl⟩:=ry;exact eq_int (u10 I q us8)
  | str j=>obtain ⟨t',rfl⟩:=ry;exact PySem.EqMixed.eq_int_str (u10 I q (by simp))
  | _=>exact absurd (show false=true from hs) Bool.false_ne_true
 | str i =>
  obtain ⟨t,rfl⟩:=rx;cases y with
  | non=>cases ry;exact PySem.EqNone.eq_str_none (u10 I q (by simp))
  | bl j=>cases ry;exact PySem.EqMixed.eq_str_bool (u10 I q (by simp))
  | int j=>obtain ⟨t',rfl⟩:=ry;exact PySem.EqMixed.eq_str_int (u10 I q (by simp))
  | str j=>obtain ⟨t',rfl⟩:=ry;exact eq_str (u10 I q us7)
  | _=>exact absurd (show false=true from hs) Bool.false_ne_true
 | byt i =>
  obtain ⟨t,rfl⟩:=rx;cases y with
  | byt j=>obtain ⟨t',rfl⟩:=ry;exact W.eq_bytes (u10 I q us9)
  | _=>exact absurd (show false=true from hs) Bool.false_ne_true
 | _=>cases y <;> exact absurd (show false=true from hs) Bool.false_ne_true
theorem op_ne:OpR X (compareOp .NotEq) rNe:=by
 intro pins s σ H x y v u Q I rx ry h;obtain ⟨hs,q⟩:=h;cases x with
 | non =>
  cases rx;cases y with
  | non=>cases ry;exact PySem.EqNone.ne_none_none (u10 I q (by simp))
  | bl j=>cases ry;exact PySem.EqNone.ne_none_bool (u10 I q (by simp))
  | int j=>obtain ⟨t',rfl⟩:=ry;exact PySem.EqNone.ne_none_int (u10 I q (by simp))
  | str j=>obtain ⟨t',rfl⟩:=ry;exact PySem.EqNone.ne_none_str (u10 I q (by simp))
  | _=>exact absurd (show false=true from hs) Bool.false_ne_true
 | bl i =>
  cases rx;cases y with
  | non=>cases ry;exact PySem.EqNone.ne_bool_none (u10 I q (by simp))
  | bl j=>cases ry;exact ne_bool (u10 I q (congrArg not v40))
  | str j=>obtain ⟨t',rfl⟩:=ry;exact PySem.EqMixed.ne_bool_str (u10 I q (by simp))
  | _=>exact absurd (show false=true from hs) Bool.false_ne_true
 | int i =>
  obtain ⟨t,rfl⟩:=rx;cases y with
  | non=>cases ry;exact PySem.EqNone.ne_int_none (u10 I q (by simp))
  | int j=>obtain ⟨t',rfl⟩:=ry;exact ne_int (u10 I q (congrArg not us8))
  | str j=>obtain ⟨t',rfl⟩:=ry;exact PySem.EqMixed.ne_int_str (u10 I q (by simp))
  | _=>exact absurd (show false=true from hs) Bool.false_ne_true
 | str i =>
  obtain ⟨t,rfl⟩:=rx;cases y with
  | non=>cases ry;exact PySem.EqNone.ne_str_none (u10 I q (by simp))
  | bl j=>cases ry;exact PySem.EqMixed.ne_str_bool (u10 I q (by simp))
  | int j=>obtain ⟨t',rfl⟩:=ry;exact PySem.EqMixed.ne_str_int (u10 I q (by simp))
  | str j=>obtain ⟨t',rfl⟩:=ry;exact ne_str (u10 I q (congrArg not us7))
  | _=>exact absurd (show false=true from hs) Bool.false_ne_true
 | byt i =>
  obtain ⟨t,rfl⟩:=rx;cases y with
  | byt j=>obtain ⟨t',rfl⟩:=ry;exact W.ne_bytes (u10 I q (congrArg not us9))
  | _=>exact absurd (show false=true from hs) Bool.false_ne_true
 | _=>cases y <;> exact absurd (show false=true from hs) Bool.false_ne_true
theorem op_lt:OpR X (compareOp .Lt) (rI0 fun i j=>.bl (decide (i < j))):=opB0 fun _ _ _ _ _ _ _ q=>lt_int q
theorem vv2:OpR X (compareOp .Gt) (rI0 fun i j=>.bl (decide (j < i))):=opB0 fun _ _ _ _ _ _ _ q=>gt_int q
theorem vv3:OpR X (compareOp .GtE) (rI0 fun i j=>.bl (decide (j<=i))):=opB0 fun _ _ _ _ _ _ _ q=>ge_int q
theorem uo5:OpR X (compareOp .Lt) (fun x y H Q=>∃ i j,x=.str i /\ y=.str j /\ Q (.bl (decide (i.cps.toList < j.cps.toList))) H):=by
 intro pins s σ H x y v u Q I rx ry h;obtain ⟨i,j,rfl,rfl,q⟩:=h;obtain ⟨t,rfl⟩:=rx;obtain ⟨t',rfl⟩:=ry;exact lt_str (u10 I q rfl)
theorem OpR.or {f:Value->Value->Sem Value} {r r':R2} (h:OpR X f r) (h':OpR X f r'):OpR X f (fun x y H Q=>r x y H Q \/ r' x y H Q):=by
 intro pins s σ H x y v u Q I rx ry q
 rcases q with q | q
 ·exact h pins s σ H x y v u Q I rx ry q
 ·exact h' pins s σ H x y v u Q I rx ry q
theorem nomark (b:Expr) {op:CmpOp} (h:op ≠ .In:=by decide) (h2:op ≠ .NotIn:=by decide):behindInMarks op b=false:=by
 have e1:(op == CmpOp.In)=false:=by cases op <;> first | rfl | exact absurd rfl h
 have e2:(op == CmpOp.NotIn)=false:=by cases op <;> first | rfl | exact absurd rfl h2
 cases b <;> simp [behindInMarks,e1,e2]
theorem v86 {op:CmpOp} {r:R2} (ho:OpR X (compareOp op) r) (ha:PE X a ta) (hb:PE X b tb) (hm:behindInMarks op b=false):PE X (.Compare a [op] [b] pos) (tOp r ta tb):=by
 intro pins s σ H Q I h;exact wpAny_Compare1 (binT ha hb I h fun v u s2 x y H2 I2 rx ry q=>ho pins s2 σ H2 x y v u Q I2 rx ry q) hm
def vt3 (t:TE):TT:=fun σ H Q=>t σ H fun x H'=>∃ k,x=.bl k /\ Q k H'
theorem v72 {op:CmpOp} {r:R2} (ho:OpR X (compareOp op) r) (ha:PE X a ta) (hb:PE X b tb) (hm:behindInMarks op b=false):PT X (.Compare a [op] [b] pos) (vt3 (tOp r ta tb)):=by
 intro pins s σ H Q I h;refine wpAny_isTrue_Compare1 (thn (ha pins s σ H _ I h) fun v s1 ⟨x,H1,I1,r1,q1⟩=>thn (hb pins s1 σ H1 _ I1 q1) fun u s2 ⟨y,H2,I2,r2,q2⟩ =>
  thn (ho pins s2 σ H2 x y v u _ I2 r1 r2 q2) fun c s3 ⟨z,H3,I3,r3,k,e,q3⟩=>?_) hm
 subst e;cases r3;exact wpAny_truthy_bool ⟨H3,I3,q3⟩
theorem line63:(sizeLine:Nat) < 2 ^ 63:=by rw [sizeLine_eq];decide
theorem op_add_str:OpR X (binaryOp .Add) (fun x y H Q=>∃ i j,x=.str i /\ y=.str j /\ i.length+j.length<=sizeLine /\ Q (.str (i++j)) H):=by
 intro pins s σ H x y v u Q I rx ry h;obtain ⟨i,j,rfl,rfl,hz,q⟩:=h;obtain ⟨t,rfl⟩:=rx;obtain ⟨t',rfl⟩:=ry;exact add_str (fun t' tk=>⟨.str (i++j),H,I.tok _,⟨_,rfl⟩,q⟩) hz
theorem vals1 {x:V} {us:List Value} (r:Vals [x] us):∃ u,us=[u] /\ RelV x u:=by
 cases r with
 | cons r1 r2=>cases r2;exact ⟨_,rfl,r1⟩
theorem vals2 {x y:V} {us:List Value} (r:Vals [x,y] us):∃ u w',us=[u,w'] /\ RelV x u /\ RelV y w':=by
 cases r with
 | cons r1 r2 =>
  cases r2 with
  | cons r3 r4=>cases r4;exact ⟨_,_,rfl,r1,r3⟩
theorem uz6:CallR X (.builtin "abs") (fun xs H Q=>∃ i,xs=[.int i] /\ Q (.int (if i < 0 then -i else i)) H):=by
 intro pins s σ H xs us Q I r h;obtain ⟨i,rfl,q⟩:=h;obtain ⟨u,rfl,t,rfl⟩:=vals1 r;exact call_abs_int fun u tk=>⟨.int (if i < 0 then -i else i),H,I.tok _,⟨_,rfl⟩,q⟩
end
structure ObjM (h:Heap) (x dx C:Addr) (mA:Str->Option Value):Prop where
 obj:h.get? x=some (W.instObj C dx)
 ns:h.Ns1 dx mA
 ne:dx ≠ x
theorem uq2 {h:Heap} {dx:Addr} {mA:Str->Option Value} (n:h.Ns1 dx mA):∃ od,h.get? dx=some od /\ ∀ name,W.lookIn name od=some (mA name):=by
 obtain ⟨o,es,ep,ho,hd,hk,_,hm⟩:=n;refine ⟨o,ho,fun name=>?_⟩;have e:=hm name;unfold nsFind findBy at e;rw [<- Array.find?_toList] at e;unfold W.lookIn;rw [hd];dsimp only;split
 ·rename_i y q
  rw [q] at e;exact congrArg some e
 ·rename_i q
  rw [q] at e;have a:es.toList.any (·.refKey)=false:=by
   rw [List.any_eq_false];intro y hy;obtain ⟨z,t,hkey⟩:=hk y (Array.mem_toList_iff.mp hy);simp [DictEntry.refKey,hkey]
  have a':¬ es.toList.any (·.refKey)=true:=by rw [a];exact Bool.false_ne_true
  rw [if_neg a'];exact congrArg some e
theorem ObjM.look {h:Heap} {x dx C:Addr} {mA:Str->Option Value} (I:ObjM h x dx C mA):∃ od,W.InstAt h x (W.instObj C dx) C (some od) /\ ∀ name,W.lookIn name od=some (mA name) :=
 let ⟨od,ho,hl⟩:=uq2 I.ns
 ⟨od,⟨I.obj,rfl,rfl,ho⟩,hl⟩
section
variable {P:Program} {w:World} {H H':Hp} {h h':Heap} {a C dx:Addr} {fs fs':List (Str × V)}
theorem vb5 (hok:HOk P w H h) (e:H a=some (.ins C dx fs)):∃ mA,ObjM h a dx C mA /\ (∀ f,RelO (fs.lookup f) (mA f)) /\ PySem.Within mA (fs.map (·.1)) /\ fs.length<=1000 /\ H dx=some (.own a):=by
 obtain ⟨d,z,ne,ob,mA,n,r,q⟩:=(show ObjOk P w H h a (.ins C dx fs) from hok a _ e);exact ⟨mA,⟨ob,n,ne⟩,r,q,z,d⟩
end
structure Cls (K:W.Frag) (C:Addr):Prop where
 pg:W.plainGet K C Str.empty=true
 hd:W.hasDictIn K C=true
 po:W.plainOver K C=true
 sa:W.findIn K (.ref C) "__setattr__" = some (some (.builtin "object.__setattr__"))
theorem Cls.get {K:W.Frag} {C:Addr} (c:Cls K C) (f:Str):W.plainGet K C f=true:=c.pg
structure Con (K:W.Frag) (C:Addr) (f:Str) (v:V) (u:Value):Prop where
 at_:W.findIn K (.ref C) f=some (some u)
 rel:RelV v u
 get:W.specialIn K u "__get__" = some none
 cp:W.copiedNames.contains f=false
structure Meth (K:W.Frag) (C:Addr) (m:Str) (f:Addr):Prop where
 at_:W.findIn K (.ref C) m=some (some (.ref f))
 fn:W.isFn K (.ref f)=true
 kp:W.keepIn K (.ref f)=true
section
variable {X:Cx} {pins:List (Addr × Obj)} {σ:St} {H:Hp} {s:Shared} {a C dx:Addr} {fs:List (Str × V)} {f:Str} {v:V} {A:Around} {E:Value->Shared->Prop}
theorem Inv.made (I:Inv X pins σ H s):Inv X pins σ (upd (upd H s.heap.objs.size (.own (s.heap.objs.size+1))) (s.heap.objs.size+1) (.ins C s.heap.objs.size []))
  { s with heap:=(s.heap.push W.emptyDict).push (W.instObj C s.heap.objs.size) }:=by
 have e1:(s.heap.push W.emptyDict).get? s.heap.objs.size=some W.emptyDict:=Heap.get?_push_size s.heap rfl;have e2:((s.heap.push W.emptyDict).push (W.instObj C s.heap.objs.size)).get? (s.heap.objs.size+1)=some (W.instObj C s.heap.objs.size):=by
  have:=Heap.get?_push_size (s.heap.push W.emptyDict) (o:=W.instObj C s.heap.objs.size) rfl
  rwa [Heap.size_push] at this
 have e3:(s.heap.push W.emptyDict).Ns s.heap.objs.size (fun _=>none):=⟨W.emptyDict,#[],_,e1,rfl,(fun e he=>absurd he (by simp)),fun _=>rfl⟩;have I1:=I.laid (a:=s.heap.objs.size) (o:=.own (s.heap.objs.size+1)) (h':=s.heap.push W.emptyDict) (t':=s.toks) (fun b u q=>Heap.get?_push_of_some _ q) (Nat.le_refl _) ⟨_,e1⟩;refine I1.laid (a:=s.heap.objs.size+1) (o:=.ins C s.heap.objs.size []) (t':=s.toks) (fun b u q=>Heap.get?_push_of_some _ q) (Nat.le_of_eq (Heap.size_push _ _)) ?_;have ne:s.heap.objs.size ≠ s.heap.objs.size+1:=Nat.ne_of_lt (Nat.lt_succ_self _);refine ⟨by rw [u09 ne,u18],Nat.zero_le _,ne,e2,fun _=>none,(Heap.Ns1.of_empty e3).at fun o q=>Heap.get?_push_of_some _ q,fun _=>True.intro,fun y hy=>absurd rfl hy⟩
end
section
variable {X:Cx} {pins:List (Addr × Obj)} {σ:St} {H:Hp} {s:Shared} {A:Around} {E:Value->Shared->Prop} {Q:Value->Shared->Prop} {c:Value} {b:Bool}
inductive TyOf (K:W.Frag) (H:Hp):V->Value->Prop where
 | non:TyOf K H .non (.type "NoneType")
 | bl (x:Bool):TyOf K H (.bl x) (.type "bool")
 | int (i:Int):TyOf K H (.int i) (.type "int")
 | str (x:Str):TyOf K H (.str x) (.type "str")
 | flt (x:UInt64):TyOf K H (.flt x) (.type "float")
 | lst {a:Addr} {xs:List V} (e:H a=some (.lst xs)):TyOf K H (.ref a) (.type "list")
 | frz {a:Addr} {o:Obj} {xs:List V} (e:H a=some (.frz o (.lst xs))):TyOf K H (.ref a) (.type "list")
 | tup {a:Addr} {xs:List V} (e:H a=some (.tup xs)):TyOf K H (.ref a) (.type "tuple")
 | dK {a:Addr} {kvs:List (Key × V)} (e:H a=some (.dK kvs)):TyOf K H (.ref a) (.type "dict")
 | dT {a:Addr} {kvs:List (List Key × V)} (e:H a=some (.dT kvs)):TyOf K H (.ref a) (.type "dict")
 | ins {a C dx:Addr} {fs:List (Str × V)} (e:H a=some (.ins C dx fs)) (cl:Cls K C) (ha:W.findIn K (.ref C) "__class__" = some (some (.builtin "object.__class__")))
   (hn:W.specialIn K (.builtin "object.__class__") "__get__" = some (some (.builtin "getset_descriptor.__get__"))) (htk:W.takesIn K (.builtin "object.__class__")=some true)
   (hm:W.mroIn K C (.type "object")=some true):TyOf K H (.ref a) (.ref C)
theorem u22 {x:V} {u t:Value} (I:Inv X pins σ H s) (rx:RelV x u) (ty:TyOf X.K H x t) (e:W.kitOne X.K t c=some b) (h:∀ tk,Q (.bool b) { s with toks:=tk }) :
  wpAny (model X.prog X.w) A (call (.builtin "isinstance") [u,c]) Q E s:=by
 cases ty with
 | non=>cases (show u=Value.none from rx);exact W.kia_one W.kitx_none I.kIn True.intro e (fun z=>nomatch z) h
 | bl y=>cases (show u=Value.bool y from rx);exact W.kia_one W.kitx_bool I.kIn True.intro e (fun z=>nomatch z) h
 | int i=>obtain ⟨t,q⟩:=(show ∃ t,u=Value.int i t from rx);cases q;exact W.kia_one W.kitx_int I.kIn True.intro e (fun z=>nomatch z) h
 | str y=>obtain ⟨t,q⟩:=(show ∃ t,u=Value.str y t from rx);cases q;exact W.kia_one W.kitx_str I.kIn True.intro e (fun z=>nomatch z) h
 | flt y=>obtain ⟨t,q⟩:=(show ∃ t,u=Value.float y t from rx);cases q;exact W.kia_one W.kitx_float I.kIn True.intro e (fun z=>nomatch z) h
 | @lst a xs ea =>
  cases (show u=Value.ref a from rx);obtain ⟨_,_,n,_,h1⟩:=(show ObjOk X.prog X.w H s.heap a (.lst xs) from I.hok a _ ea);exact W.kia_one W.kitx_list I.kIn ⟨_,h1,rfl⟩ e (fun z=>nomatch z) h
 | @frz a ob xs ea =>
  cases (show u=Value.ref a from rx);obtain ⟨_,_,_,n,_,h1⟩:=(show ObjOk X.prog X.w H s.heap a (.frz ob (.lst xs)) from I.hok a _ ea);exact W.kia_one W.kitx_list I.kIn ⟨_,h1,rfl⟩ e (fun z=>nomatch z) h
 | @tup a xs ea =>
  cases (show u=Value.ref a from rx);obtain ⟨_,_,_,p⟩:=(show ObjOk X.prog X.w H s.heap a (.tup xs) from I.hok a _ ea);obtain ⟨o,h1,h2,_⟩:=p;exact W.kia_one W.kitx_tuple I.kIn ⟨o,h1,h2⟩ e (fun z=>nomatch z) h
 | @dK a kvs ea =>
  cases (show u=Value.ref a from rx);obtain ⟨_,_,vs,_,p⟩:=(show ObjOk X.prog X.w H s.heap a (.dK kvs) from I.hok a _ ea);obtain ⟨o,es,ep,h1,h2,_⟩:=p;exact W.kia_one W.kitx_dict I.kIn ⟨o,h1,h2.1⟩ e (fun z=>nomatch z) h
 | @dT a kvs ea =>
  cases (show u=Value.ref a from rx);obtain ⟨_,_,xs,_,o,es,ep,h1,h2,_⟩:=(show ObjOk X.prog X.w H s.heap a (.dT kvs) from I.hok a _ ea);exact W.kia_one W.kitx_dict I.kIn ⟨o,h1,h2.1⟩ e (fun z=>nomatch z) h
 | @ins a C dx fs ea cl ha hn htk hm =>
  cases (show u=Value.ref a from rx);obtain ⟨mA,O,_⟩:=vb5 I.hok ea;obtain ⟨od,J,_⟩:=O.look;exact W.kia_one (W.kitx_own (cl.get _) cl.hd ha hn htk hm) I.kIn J e (fun z=>nomatch z) h
end
structure Room (k:Nat) (A:Around):Prop where
 hd:A.handled=none
 dp:A.depth+3 * k+5 < recursionLimit
 un:A.units+16 * k+200 < cLine
theorem Room.mono {j k:Nat} {A:Around} (r:Room k A) (h:j<=k):Room j A:=⟨r.hd,by have:=r.dp;omega,by have:=r.un;omega⟩
theorem Room.deeper {k:Nat} {A:Around} (r:Room (k+1) A) (env:Env):Room k (A.deeper env) :=
 ⟨r.hd,by have:=r.dp;show A.depth+1+3 * k+5 < _;omega,by have:=r.un;show A.units+3+16 * k+200 < _;omega⟩
theorem Room.in1 {k:Nat} {A:Around} (r:Room (k+1) A):Room k A.in1 :=
 ⟨r.hd,by have:=r.dp;show A.depth+3 * k+5 < _;omega,by have:=r.un;show A.units+1+16 * k+200 < _;omega⟩
theorem Room.depth {k:Nat} {A:Around} (r:Room k A):A.depth < recursionLimit:=by have:=r.dp;omega
theorem Room.units {k:Nat} {A:Around} (r:Room k A):A.units+64 < cLine:=by have:=r.un;omega
def tNil:TA:=fun _ H Q=>Q [] H
def vh1 (ta:TE) (tr:TA):TA:=fun σ H Q=>ta σ H fun x H1=>tr σ H1 fun xs H2=>Q (x::xs) H2
section
variable {X:Cx} {e:Expr} {es:List Expr} {te:TE} {t:TA} {pos:Pos}
theorem vk1:PA X [] tNil:=fun _ _ _ _ H Q I h=>Calls.spliced_nil ⟨[],H,I,.nil,h⟩
theorem v91 (ha:PE X e te) (hr:PA X es t) (hs:starEach (e::es) X.env=(false,eval e X.env)::starEach es X.env:=by rfl):PA X (e::es) (vh1 te t):=by
 intro pos pins s σ H Q I h;rw [hs]
 show wpAny _ _ (spliced ((false,eval e X.env)::backTo pos (starEach es X.env))) _ _ s
 (refine Calls.spliced_cons (thn (ha pins s σ H _ I h) ?_);rintro u s1 ⟨x,H1,I1,r1,q1⟩)
 (refine thn (hr pos pins s1 σ H1 _ I1 q1) ?_;rintro us s2 ⟨xs,H2,I2,r2,q2⟩;exact ⟨x::xs,H2,I2,.cons r1 r2,q2⟩)
def tTup (t:TA):TE:=fun σ H Q=>t σ H fun xs H1=>xs.length<=sizeLine /\ ∀ p,H1 p=none->Q (.ref p) (upd H1 p (.tup xs))
def tLst (t:TA):TE:=fun σ H Q=>t σ H fun xs H1=>xs.length<=sizeLine /\ ∀ p,H1 p=none->Q (.ref p) (upd H1 p (.lst xs))
theorem vj3 {x1} (h:PA X es t):PE X (.Tuple es x1 pos) (tTup t):=by
 intro pins s σ H Q I hq;refine wpAny_Tuple_spliced (thn (h pos pins s σ H _ I hq) fun us s1 ⟨xs,H1,I1,r,z,q⟩=>⟨by rw [<- r.length];exact z,?_⟩);have hf:H1 s1.heap.objs.size=none:=I1.hok.fresh (Nat.le_refl _);refine ⟨.ref s1.heap.objs.size,upd H1 s1.heap.objs.size (.tup xs),I1.laid (t':=s1.toks) (fun b u e=>Heap.get?_push_of_some _ e) (Nat.le_refl _) ?_,rfl,q _ hf⟩;exact ⟨z,us,r,⟨_,Heap.get?_push_size _ rfl,rfl,⟨_,rfl⟩,rfl⟩⟩
theorem vj7 (h:PA X es t):PE X (.List es pos) (tLst t):=by
 intro pins s σ H Q I hq;refine wpAny_List_spliced (thn (h pos pins s σ H _ I hq) fun us s1 ⟨xs,H1,I1,r,z,q⟩=>⟨by rw [<- r.length];exact z,?_⟩);have hf:H1 s1.heap.objs.size=none:=I1.hok.fresh (Nat.le_refl _);refine ⟨.ref s1.heap.objs.size,upd H1 s1.heap.objs.size (.lst xs),I1.laid (t':=s1.toks) (fun b u e=>Heap.get?_push_of_some _ e) (Nat.le_refl _) ?_,rfl,q _ hf⟩;exact ⟨z,us,0,r,Heap.get?_push_size _ rfl⟩
end
abbrev Sp:=List V->Hp->VK->XK->Prop
abbrev CXT:=List Env->Hp->Shared->XK->Value->Shared->Prop
structure Env0 (P:Program) (w:World) (K:W.Frag) (mg:Str->Option Value) (base:Heap) (A:Around) (outer:List Env) (s:Shared) (H:Hp):Prop where
 frames:A.frames=some outer
 mod:Mod K mg base
 bs:∀ b o,base.get? b=some o->s.heap.get? b=some o /\ H b=none
 bsz:base.objs.size<=s.heap.objs.size
 funs:s.heap.FunFrames base outer
 frf:∀ b ∈ frs outer,H b=none
 hok:HOk P w H s.heap
 bare:AllBare s.gens
def CE (outer:List Env) (P:Program) (w:World) (H:Hp) (s:Shared) (Q:VK) (u:Value) (s':Shared):Prop :=
 ∃ v H',s'.os=s.os /\ AllBare s'.gens /\ Un (frs outer) [] H H' s.heap s'.heap /\ HOk P w H' s'.heap /\ RelV v u /\ Q v H'
def CR (CX:CXT) (outer:List Env) (P:Program) (w:World) (H:Hp) (s:Shared) (Q:VK) (E:XK) (r:Result) (s':Shared):Prop :=
 match r with
 | .ok (.ret u)=>CE outer P w H s Q u s'
 | .ok _=>False
 | .error e=>CX outer H s E e s'
structure FnOk (P:Program) (w:World) (K:W.Frag) (mg:Str->Option Value) (base:Heap) (CX:CXT) (k:Nat) (f:Addr) (fd:FuncData) (ps:List Str) (sp:Sp):Prop where
 len:∀ vs H Q E,sp vs H Q E->vs.length=ps.length
 run:∀ (A:Around) (outer:List Env) (s:Shared) (H:Hp) (args:Args) (us:List Value) (vs:List V) (Q:VK) (E:XK),Room k A->Env0 P w K mg base A outer s H->BindsTo s fd args (ps.zip us)->Vals vs us->sp vs H Q E ->
  codeAny (model P w) A (.call (.ref f) args) (CR CX outer P w H s Q E) s
theorem FnOk.mono {P:Program} {w:World} {K:W.Frag} {mg:Str->Option Value} {base:Heap} {CX:CXT} {j k:Nat} {f:Addr} {fd:FuncData} {ps:List Str} {sp:Sp} (F:FnOk P w K mg base CX j f fd ps sp) (h:j<=k) :
  FnOk P w K mg base CX k f fd ps sp:=⟨F.len,fun A outer s H args us vs Q E hr=>F.run A outer s H args us vs Q E (hr.mono h)⟩
theorem FnOk.imp {P:Program} {w:World} {K:W.Frag} {mg:Str->Option Value} {base:Heap} {CX:CXT} {k:Nat} {f:Addr} {fd:FuncData} {ps:List Str} {sp sp':Sp} (F:FnOk P w K mg base CX k f fd ps sp)
  (h:∀ vs H Q E,sp' vs H Q E->sp vs H Q E):FnOk P w K mg base CX k f fd ps sp' :=
 ⟨fun vs H Q E q=>F.len vs H Q E (h _ _ _ _ q),fun A outer s H args us vs Q E hr he hb hv hs=>F.run A outer s H args us vs Q E hr he hb hv (h _ _ _ _ hs)⟩
theorem Env0.in1 {P:Program} {w:World} {K:W.Frag} {mg:Str->Option Value} {base:Heap} {A:Around} {outer:List Env} {s:Shared} {H:Hp} (e:Env0 P w K mg base A outer s H) :
  Env0 P w K mg base A.in1 outer s H:=⟨e.frames,e.mod,e.bs,e.bsz,e.funs,e.frf,e.hok,e.bare⟩
section
variable {X:Cx} {pins:List (Addr × Obj)} {σ:St} {H:Hp} {s s':Shared}
theorem Inv.env0 (I:Inv X pins σ H s):Env0 X.prog X.w X.K X.mg X.base X.A X.stack s H :=
 ⟨I.ok.frames,I.ok.mod,I.bs,Nat.le_trans I.ok.bsz I.sz,I.stack,I.stkFree,I.hok,I.bare⟩
theorem Inv.after {Q:VK} {u:Value} (I:Inv X pins σ H s) (h:CE X.stack X.prog X.w H s Q u s'):EP X pins σ Q u s':=by
 obtain ⟨v,H',os,bare,un,hok,r,q⟩:=h;obtain ⟨hh,g,d,t,os'⟩:=s';obtain rfl:os'=s.os:=os;exact ⟨v,H',I.call (h':=hh) (g':=g) (d':=d) (t':=t) (ch:=[]) un hok bare (fun b z=>absurd z (by simp)),r,q⟩
end
def vh2 (sp:Sp) (dvs:List V) (E:XK) (t:TA):TE:=fun σ H Q=>t σ H fun vs H1=>sp (vs++dvs) H1 Q E
def vt4 (C:Addr) (m:Str) (sp:Sp) (dvs:List V) (E:XK) (ta:TE) (t:TA):TE:=fun σ H Q=>ta σ H fun x H1=>∃ a dx fs,x=.ref a /\ H1 a=some (.ins C dx fs) /\ fs.lookup m=none /\
 t σ H1 fun vs H2=>sp (x::(vs++dvs)) H2 Q E
def Binds (K:W.Frag) (fd:FuncData) (ps:List Str) (ds:List Value):Prop :=
 ∀ (s:Shared) (us:List Value),K.In s.heap->(us++ds).length=ps.length->BindsTo s fd ⟨us,[]⟩ (ps.zip (us++ds))
theorem Binds.all {K:W.Frag} {fd:FuncData} {ps:List Str} (h:∀ us:List Value,us.length=ps.length->bindArgs fd ⟨us,[]⟩=pure (ps.zip us)):Binds K fd ps []:=fun s us _ hl=>by
 rw [List.append_nil] at hl ⊢;exact .of_eq (h us hl)
def Passes (CX:CXT) (X:Cx) (E:XK):Prop:=∀ (pins:List (Addr × Obj)) (σ:St) (H:Hp) (s:Shared) (e:Value) (s':Shared),Inv X pins σ H s->CX X.stack H s E e s'->X.xe e s'
section
variable {X:Cx} {CX:CXT} {k:Nat} {f C:Addr} {fd:FuncData} {ps:List Str} {sp:Sp} {dvs:List V} {ds:List Value} {E:XK} {x m:Str} {p pos apos:Pos} {e o:Expr} {es:List Expr} {ta:TE} {t:TA}
theorem vh8 {pins:List (Addr × Obj)} {σ:St} {H:Hp} {s:Shared} {Q:VK} {us:List Value} {vs:List V} (F:FnOk X.prog X.w X.K X.mg X.base CX k f fd ps sp) (hr:Room k X.A) (hb:Binds X.K fd ps ds) (hd:Vals dvs ds) (hx:Passes CX X E)
  (I:Inv X pins σ H s) (r:Vals vs us) (h:sp (vs++dvs) H Q E):wpAny (model X.prog X.w) X.A (call (.ref f) us) (EP X pins σ Q) X.xe s:=by
 have r2:Vals (vs++dvs) (us++ds):=r.append hd;have hl:(us++ds).length=ps.length:=by rw [<- r2.length];exact F.len _ _ _ _ h
 refine wpAny_call (codeAny_mono (F.run X.A X.stack s H ⟨us,[]⟩ (us++ds) (vs++dvs) Q E hr I.env0 (hb s us I.kIn hl) r2 h) fun r s' hq=>?_);cases r with
 | error e=>exact hx pins σ H s e s' I hq
 | ok fl =>
  cases fl with
  | ret u=>exact I.after hq
  | next=>exact False.elim hq
  | brk=>exact False.elim hq
  | cont=>exact False.elim hq
theorem v87 (F:FnOk X.prog X.w X.K X.mg X.base CX k f fd ps sp) (hr:Room k X.A) (hg:Gl X x) (hm:X.mg x=some (.ref f)) (hk:W.keepIn X.K (.ref f)=true) (hb:Binds X.K fd ps ds) (hd:Vals dvs ds) (hx:Passes CX X E)
  (ha:PA X (e::es) t) (hdb:(x == ("__debug__" : Str))=false:=by decide) (he:starEach (e::es) X.env=(false,eval e X.env)::starEach es X.env:=by rfl) (hpl:(backTo pos (starEach es X.env)).any (·.1)=false:=by rfl) :
  PE X (.Call (.Name x p) (e::es) [] pos) (vh2 sp dvs E t):=by
 intro pins s σ H Q I h;refine wpAny_Call_Name_kw (vb0 I hg hm ?_ hdb)
 (refine W.callWith_K (h₀:=X.base) I.ok.mod.kin hk (thn (ha pos pins s σ H _ I h) ?_) he hpl;rintro us s1 ⟨vs,H1,I1,r,q⟩;refine ⟨I1.kIn,?_⟩)
 exact vh8 F hr hb hd hx I1 r q
end
structure FnScope (N P:List Str) (sc:Scope):Prop where
 kind:sc.kind=.function
 co:sc.isCoroutine=false
 gen:sc.isGenerator=false
 nd:N.Nodup
 pre:N.take P.length=P
 par:∀ x ∈ P,sc.names.lookup x=some .local \/ sc.names.lookup x=some .cell
 nofree:∀ y ∈ sc.names,y.2 ≠ .free
theorem uf1 {kindOf:Str->Option NameKind} {x:Str}:∀ {binds:List (Str × Value)} {m:Str->Option Value},(∀ v,(x,v) ∉ binds)->bindL kindOf binds m x=m x
 | [],_,_=>rfl
 | (n,v)::r,m,h=>by
  unfold bindL;rw [uf1 fun w hw=>h w (List.mem_cons_of_mem _ hw)];split
  ·have:x ≠ n:=by rintro rfl;exact h v List.mem_cons_self
   simp [this]
  ·rfl
theorem uf3 {kindOf:Str->Option NameKind} {x:Str}:∀ {binds:List (Str × Value)} {m:Str->Option Value},(∀ v,(x,v) ∉ binds)->bindC kindOf binds m x=m x
 | [],_,_=>rfl
 | (n,v)::r,m,h=>by
  unfold bindC;rw [uf3 fun w hw=>h w (List.mem_cons_of_mem _ hw)];split
  ·rfl
  ·have:x ≠ n:=by rintro rfl;exact h v List.mem_cons_self
   simp [this]
theorem uf2 {kindOf:Str->Option NameKind} {x:Str} {v:Value}:∀ {P:List Str} {vs:List Value} {i:Nat} {m:Str->Option Value},P.Nodup->P[i]?=some x->vs[i]?=some v->kindOf x=some .local ->
  bindL kindOf (P.zip vs) m x=some v
 | [],_,_,_,_,h,_,_=>by simp at h
 | _::_,[],_,_,_,_,h,_=>by simp at h
 | p::P,w::vs,0,m,nd,h1,h2,hk=>by
  simp at h1 h2;subst h1;subst h2
  show bindL kindOf ((p,w)::P.zip vs) m p=_
  unfold bindL;rw [uf1 fun v hv=>(List.nodup_cons.mp nd).1 (List.of_mem_zip hv).1,if_pos hk];simp
 | p::P,w::vs,i+1,m,nd,h1,h2,hk=>by
  show bindL kindOf ((p,w)::P.zip vs) m x=_
  unfold bindL;exact uf2 (i:=i) (List.nodup_cons.mp nd).2 (by simpa using h1) (by simpa using h2) hk
theorem uf4 {kindOf:Str->Option NameKind} {x:Str} {v:Value}:∀ {P:List Str} {vs:List Value} {i:Nat} {m:Str->Option Value},P.Nodup->P[i]?=some x->vs[i]?=some v->kindOf x ≠ some .local ->
  bindC kindOf (P.zip vs) m x=some v
 | [],_,_,_,_,h,_,_=>by simp at h
 | _::_,[],_,_,_,_,h,_=>by simp at h
 | p::P,w::vs,0,m,nd,h1,h2,hk=>by
  simp at h1 h2;subst h1;subst h2
  show bindC kindOf ((p,w)::P.zip vs) m p=_
  unfold bindC;rw [uf3 fun v hv=>(List.nodup_cons.mp nd).1 (List.of_mem_zip hv).1,if_neg hk];simp
 | p::P,w::vs,i+1,m,nd,h1,h2,hk=>by
  show bindC kindOf ((p,w)::P.zip vs) m x=_
  unfold bindC;exact uf4 (i:=i) (List.nodup_cons.mp nd).2 (by simpa using h1) (by simpa using h2) hk
def start (N:List Str) (vs:List V):St:=vs.map some++List.replicate (N.length - vs.length) none
def cxOf (CX:CXT) (P:Program) (w:World) (K:W.Frag) (mg:Str->Option Value) (base:Heap) (N:List Str) (qual:Str) (scope:Scope) (f:Addr) (cd:Value) (A:Around) (outer:List Env) (s:Shared) (H:Hp) (E:XK):Cx where
 prog:=P
 w:=w
 K:=K
 mg:=mg
 base:=base
 A:=A.deeper (envOfC qual scope s.heap.objs.size f cd)
 N:=N
 s₀:=s
 H₀:=H
 env:=envOfC qual scope s.heap.objs.size f cd
 outer:=outer
 stack:=envOfC qual scope s.heap.objs.size f cd::outer
 ex:=[]
 calm:=true
 fn:=fun _=>true
 pn:=[]
 xe:=fun e s'=>wpAny (model P w) (A.deeper (envOfC qual scope s.heap.objs.size f cd)) (leaving (envOfC qual scope s.heap.objs.size f cd) e) (fun _ s''=>CX outer H s E e s'') (fun e' s''=>CX outer H s E e' s'') s'
theorem uj6 {sc:Scope} {n:Nat} {x:Str} (h:sc.names.lookup x=some .cell):∃ c,(cellsFrom n sc.names []).lookup x=some c:=by
 have q:=W.cellsFrom_some sc.names n [] (.inl h);exact Option.isSome_iff_exists.mp q
theorem ur2 {CX:CXT} {P:Program} {w:World} {K:W.Frag} {mg:Str->Option Value} {base:Heap} {N ps:List Str} {qual:Str} {scope:Scope} {f:Addr} {cd:Value} {A:Around} {outer:List Env} {s s1:Shared} {H:Hp} {E:XK} {us:List Value} {vs:List V}
  (S:FnScope N ps scope) (hd:A.handled=none) (e0:Env0 P w K mg base A outer s H) (hl:vs.length=ps.length) (r:Vals vs us)
  (x:InCallC s s.heap.objs.size (bindL (envOfC qual scope s.heap.objs.size f cd).kindOf (ps.zip us) fun _=>none) (cellsFrom (s.heap.objs.size+1) scope.names []) (bindC (envOfC qual scope s.heap.objs.size f cd).kindOf (ps.zip us) fun _=>none) s1) :
  Inv (cxOf CX P w K mg base N qual scope f cd A outer s H E) [] (start N vs) H s1:=by
 have hpl:ps.length<=N.length:=by have:=congrArg List.length S.pre;rw [List.length_take] at this;omega
 obtain ⟨h1,tk,rfl,hk⟩:=x.done;have noA:∀ b:Addr,b ∉ (cxOf CX P w K mg base N qual scope f cd A outer s H E).ex:=fun b z=>absurd (show b ∈ ([]:List Addr) from z) (by simp)
 refine ⟨⟨e0.mod,S.kind,rfl,rfl,Nat.le_refl _,fun y z c h1 h2=>?_,fun y hy=>?_,fun y c _ h=>?_,fun _=>hd,Around.frames_deeper e0.frames,.inr ⟨rfl,rfl⟩,fun b z=>absurd z (noA b),e0.bs,e0.bsz,fun b _ _=>noA b,fun b z=>absurd z (noA b),e0.funs,e0.frf⟩,
  rfl,e0.bare,Un.kept hk,⟨_,x.toInCall.ns,fun i y v h1 h2 h3=>?_⟩,fun y c h=>⟨_,x.cell y c h⟩,e0.hok.fresh (Nat.le_refl _),fun y c h=>?_,fun p hp=>absurd (show p ∈ ([]:List (Addr × Obj)) from hp) (by simp),e0.hok.kept hk,?_⟩
 ·exact name_of_addr x.apart (PySem.mem_of_lookup h1) (PySem.mem_of_lookup h2)
 ·have hy:scope.names.lookup y=some .cell \/ scope.names.lookup y=some .free:=hy
  rcases hy with hy | hy
  ·exact uj6 hy
  ·exact absurd rfl (S.nofree _ (PySem.mem_of_lookup hy))
 ·exact Nat.le_of_lt (x.above y c (PySem.mem_of_lookup h))
 ·have hi:i < vs.length:=by
   unfold start at h2
   by_cases hi:i < vs.length
   ·exact hi
   ·rw [List.getElem?_append_right (by simpa using hi)] at h2
    rw [List.getElem?_replicate] at h2;split at h2 <;> cases h2
  have ha:vs[i]?=some v:=by
   unfold start at h2;rw [List.getElem?_append_left (by simpa using hi),List.getElem?_map] at h2;cases e:vs[i]? with
   | none=>rw [e] at h2;cases h2
   | some a=>rw [e] at h2;cases h2;rfl
  obtain ⟨u,hu,rv⟩:=r.get ha;have hp:ps[i]?=some y:=by
   rw [<- S.pre,List.getElem?_take_of_lt (by omega)];exact h1
  have ndP:ps.Nodup:=by rw [<- S.pre];exact S.nd.sublist (List.take_sublist _ _)
  refine ⟨u,rv,?_⟩
  rcases S.par y (List.mem_of_getElem? hp) with k | k
  ·exact .inl ⟨k,uf2 ndP hp hu k⟩
  ·obtain ⟨c,e⟩:=uj6 (n:=s.heap.objs.size+1) k
   refine .inr ⟨.inl k,c,e,?_⟩;have q:=x.cell y c e;rw [uf4 ndP hp hu (by show scope.names.lookup y ≠ _;rw [k];decide)] at q;exact q
 ·exact e0.hok.fresh (Nat.le_of_lt (x.above y c (PySem.mem_of_lookup h)))
 ·unfold start
  show _=N.length
  rw [List.length_append,List.length_map,List.length_replicate];omega
theorem vv7 {CX:CXT} {P:Program} {w:World} {K:W.Frag} {mg:Str->Option Value} {base:Heap} {k:Nat} {f:Addr} {name qual:Str} {params:Arguments} {body:List Stmt} {scope:Scope} {dV kV doc pm cdv ct oc:Value} {an od:Option Addr}
  {osl:Array (Option Value)} {N ps:List Str} {sp:Sp} (lk:K.lookup f=some ⟨oc,od,.func (W.fnOf name qual params body scope dV kV doc pm an cdv ct),osl⟩) (hcd:W.codeIn K cdv qual=true) (S:FnScope N ps scope)
  (len:∀ vs H Q E,sp vs H Q E->vs.length=ps.length)
  (hbody:∀ (A:Around) (outer:List Env) (s:Shared) (H:Hp) (vs:List V) (Q:VK) (E:XK),Room k (A.deeper (envOfC qual scope s.heap.objs.size f cdv))->sp vs H Q E ->
   ∃ t,PSs (cxOf CX P w K mg base N qual scope f cdv A outer s H E) body t /\ t { nx:=fun _ H'=>Q .non H',rt:=Q } (start N vs) H) :
  FnOk P w K mg base CX (k+1) f (W.fnOf name qual params body scope dV kV doc pm an cdv ct) ps sp:=by
 refine ⟨len,fun A outer s H args us vs Q E hr e0 hb r hsp=>?_⟩;have hl:=len _ _ _ _ hsp;have KX:K.In s.heap:=e0.mod.kin.keeps fun b o e=>(e0.bs b o e).1
 have lim:s.heap.NoLimit:=e0.mod.nolimit.keeps fun b o e=>(e0.bs b o e).1
 have hkind:∀ y ∈ ps.zip us,scope.names.lookup y.1=some .local \/ (scope.names.lookup y.1=some .cell /\ ((cellsFrom (s.heap.objs.size+1) scope.names []).lookup y.1).isSome=true):=fun ⟨n,v⟩ hy=>by
  rcases S.par n (List.of_mem_zip hy).1 with q | q
  ·exact .inl q
  ·exact .inr ⟨q,W.cellsFrom_some _ _ _ (.inl q)⟩
 refine codeAny_call_function hr.depth (KX _ _ lk) rfl S.co S.gen rfl (W.codeRec_of KX hcd) (hb _ _ _ _ ?_);refine wpAny_newFunctionEnv_cells S.kind hkind fun env he s1 x=>?_
 subst he;refine ⟨lim.keeps x.toInCall.keep,codeAny_func ?_⟩;obtain ⟨t,ht,hq⟩:=hbody A outer s H vs Q E (hr.deeper _) hsp;have I:Inv (cxOf CX P w K mg base N qual scope f cdv A outer s H E) [] (start N vs) H s1:=ur2 S hr.hd e0 hl r x;refine wpAny_mono (ht [] s1 (start N vs) H _ I hq) (fun fl s' hs=>?_) fun e s' hs=>hs
 have fin:∀ {σ':St} {H':Hp} {v:V} {u:Value},Inv (cxOf CX P w K mg base N qual scope f cdv A outer s H E) [] σ' H' s'->RelV v u->Q v H'->CE outer P w H s Q u s' :=
  fun {σ' H' v u} J rv q=>⟨v,H',J.os,J.bare,J.base,J.hok,rv,q⟩
 cases fl with
 | ret u =>
  obtain ⟨v,σ',H',J,rv,q⟩:=hs;exact fin J rv q
 | next =>
  obtain ⟨σ',H',J,q⟩:=hs;exact fin (v:=V.non) (u:=Value.none) J rfl q
 | brk =>
  obtain ⟨_,_,_,q⟩:=hs;exact False.elim q
 | cont =>
  obtain ⟨_,_,_,q⟩:=hs;exact False.elim q
section
variable {X:Cx} {x:Str} {p pos:Pos} {e:Expr} {es:List Expr} {t:TA} {id T:String} {r:List V->Hp->VK->Prop}
def tCB (r:List V->Hp->VK->Prop) (t:TA):TE:=fun σ H Q=>t σ H fun vs H1=>r vs H1 Q
theorem uw2 (hc:CallR X (.builtin id) r) (hg:Gl X x) (hm:X.mg x=none) (hv:bootBuiltins x=some (.builtin id)) (ha:PA X (e::es) t) (hn:x ≠ "__name__" := by decide) (hdb:(x == ("__debug__" : Str))=false:=by decide)
  (he:starEach (e::es) X.env=(false,eval e X.env)::starEach es X.env:=by rfl) (hpl:(backTo pos (starEach es X.env)).any (·.1)=false:=by rfl):PE X (.Call (.Name x p) (e::es) [] pos) (tCB r t):=by
 intro pins s σ H Q I h;refine wpAny_Call_Name_kw (u57 I hg hm hv ?_ hn hdb)
 (refine PyProof.Rows.callWith_builtin1 (thn (ha pos pins s σ H _ I h) ?_) he hpl;rintro us s1 ⟨vs,H1,I1,r1,q1⟩;exact hc pins s1 σ H1 vs us Q I1 r1 q1)
theorem uo4 (hc:CallR X (.type T) r) (hg:Gl X x) (hm:X.mg x=none) (hv:bootBuiltins x=some (.type T)) (ha:PA X (e::es) t) (hn:x ≠ "__name__" := by decide) (hdb:(x == ("__debug__" : Str))=false:=by decide)
  (he:starEach (e::es) X.env=(false,eval e X.env)::starEach es X.env:=by rfl) (hpl:(backTo pos (starEach es X.env)).any (·.1)=false:=by rfl):PE X (.Call (.Name x p) (e::es) [] pos) (tCB r t):=by
 intro pins s σ H Q I h;refine wpAny_Call_Name_kw (u57 I hg hm hv ?_ hn hdb)
 (refine PyProof.Rows.callWith_type1 (thn (ha pos pins s σ H _ I h) ?_) he hpl;rintro us s1 ⟨vs,H1,I1,r1,q1⟩;exact hc pins s1 σ H1 vs us Q I1 r1 q1)
end
section
variable {κ:Type} [DecidableEq κ]
def valV (kvs:List (κ × V)) (k:κ):Option V:=(kvs.find? fun kv=>decide (kv.1=k)).map (·.2)
def putK (kvs:List (κ × V)) (k:κ) (v:V):List (κ × V) :=
 if (kvs.any fun kv=>decide (kv.1=k))=true then kvs.map (fun kv=>if kv.1=k then (kv.1,v) else kv) else kvs++[(k,v)]
def vq8 (kvs:List (κ × V)) (k:κ):List (κ × V):=kvs.filter fun kv=>decide (kv.1 ≠ k)
theorem u71 {p:κ × V} {r:List (κ × V)} {k:κ} (e:p.1=k):valV (p::r) k=some p.2:=by simp [valV,List.find?_cons,e]
theorem u72 {p:κ × V} {r:List (κ × V)} {k:κ} (e:¬ p.1=k):valV (p::r) k=valV r k:=by simp [valV,List.find?_cons,e]
theorem uh5 (k:κ):∀ kvs:List (κ × V),(kvs.any fun kv=>decide (kv.1=k))=(valV kvs k).isSome
 | []=>rfl
 | p::r=>by
  rw [List.any_cons]
  by_cases e:p.1=k
  ·simp only [u71 e,decide_eq_true e,Bool.true_or,Option.isSome_some]
  ·rw [u72 e,decide_eq_false e,Bool.false_or];exact uh5 k r
theorem u53 (kvs:List (κ × V)) (k:κ) (v:V):(putK kvs k v).length<=kvs.length+1:=by
 unfold putK;split
 ·rw [List.length_map];omega
 ·rw [List.length_append,List.length_cons,List.length_nil];omega
theorem RelO.isSome_eq {o:Option V} {u:Option Value} (r:RelO o u):o.isSome=u.isSome:=by
 cases o with
 | none=>cases u with
  | none=>rfl
  | some _=>exact (show False from r).elim
 | some _=>cases u with
  | none=>exact (show False from r).elim
  | some _=>rfl
theorem RelO.getD {o:Option V} {u:Option Value} {d:V} {d':Value} (r:RelO o u) (rd:RelV d d'):RelV (o.getD d) (u.getD d'):=by
 cases o with
 | none=>cases u with
  | none=>exact rd
  | some _=>exact (show False from r).elim
 | some _=>cases u with
  | none=>exact (show False from r).elim
  | some _=>exact r
theorem KV.val {kvs:List (κ × V)} {vs:List (κ × Value)} (r:KV kvs vs) (k:κ):RelO (valV kvs k) (valueAt vs k):=by
 unfold KV at r
 induction r with
 | nil=>exact True.intro
 | @cons p q ps qs h t ih =>
  obtain ⟨h1,h2⟩:=h
  by_cases e:p.1=k
  ·have e':q.1=k:=h1.symm.trans e
   have b:valueAt (q::qs) k=some q.2:=by simp [valueAt,List.find?_cons,e']
   rw [u71 e,b];exact h2
  ·have e':¬ q.1=k:=fun z=>e (h1.trans z)
   have b:valueAt (q::qs) k=valueAt qs k:=by simp [valueAt,List.find?_cons,e']
   rw [u72 e,b];exact ih
theorem KV.any {kvs:List (κ × V)} {vs:List (κ × Value)} (r:KV kvs vs) (k:κ):(kvs.any fun kv=>decide (kv.1=k))=vs.any fun kv=>decide (kv.1=k):=by
 unfold KV at r
 induction r with
 | nil=>rfl
 | cons h t ih=>rw [List.any_cons,List.any_cons,ih,h.1]
theorem KV.repl {kvs:List (κ × V)} {vs:List (κ × Value)} (r:KV kvs vs) (k:κ) {y:V} {u:Value} (ry:RelV y u) :
  KV (kvs.map fun kv=>if kv.1=k then (kv.1,y) else kv) (vs.map fun kv=>if kv.1=k then (kv.1,u) else kv):=by
 unfold KV at r ⊢
 induction r with
 | nil=>exact .nil
 | @cons p q ps qs h t ih =>
  rw [List.map_cons,List.map_cons];refine .cons ?_ ih;obtain ⟨h1,h2⟩:=h
  by_cases e:p.1=k
  ·rw [if_pos e,if_pos (h1.symm.trans e)];exact ⟨h1,ry⟩
  ·rw [if_neg e,if_neg (fun z=>e (h1.trans z))];exact ⟨h1,h2⟩
theorem KV.put {kvs:List (κ × V)} {vs:List (κ × Value)} (r:KV kvs vs) (k:κ) {y:V} {u:Value} (ry:RelV y u):KV (putK kvs k y) (stored vs k u):=by
 unfold putK stored;rw [r.any k]
 by_cases e:(vs.any fun kv=>decide (kv.1=k))=true
 ·rw [if_pos e,if_pos e];exact r.repl k ry
 ·rw [if_neg e,if_neg e];exact Paired.snoc r ⟨rfl,ry⟩
theorem KV.drop {kvs:List (κ × V)} {vs:List (κ × Value)} (r:KV kvs vs) (k:κ):KV (vq8 kvs k) (without vs k):=by
 unfold KV at r ⊢;unfold vq8 without
 induction r with
 | nil=>exact .nil
 | @cons p q ps qs h t ih =>
  obtain ⟨h1,h2⟩:=h;rw [List.filter_cons,List.filter_cons]
  by_cases e:p.1=k
  ·have a:¬ decide (p.1 ≠ k)=true:=by simp [e]
   have b:¬ decide (q.1 ≠ k)=true:=by simp [h1.symm.trans e]
   rw [if_neg a,if_neg b];exact ih
  ·have e':¬ q.1=k:=fun z=>e (h1.trans z)
   have a:decide (p.1 ≠ k)=true:=by simp [e]
   have b:decide (q.1 ≠ k)=true:=by simp [e']
   rw [if_pos a,if_pos b];exact .cons ⟨h1,h2⟩ ih
theorem KV.keys {kvs:List (κ × V)} {vs:List (κ × Value)} (r:KV kvs vs):kvs.map (·.1)=vs.map (·.1):=by
 unfold KV at r
 induction r with
 | nil=>rfl
 | cons h t ih=>rw [List.map_cons,List.map_cons,ih,h.1]
theorem KV.length {kvs:List (κ × V)} {vs:List (κ × Value)} (r:KV kvs vs):kvs.length=vs.length:=Paired.length r
end
theorem uy2 {P:Program} {w:World} {k:Key} {u:Value} (r:RelV (kV k) u):(u15 P w).is k u=true:=by
 cases k with
 | inl i=>obtain ⟨t,e⟩:=(show ∃ t,u=Value.int i t from r);subst e;exact ug0 P w i t
 | inr x=>obtain ⟨t,e⟩:=(show ∃ t,u=Value.str x t from r);subst e;exact uf9 P w x t
theorem ue5 {P:Program} {w:World}:∀ {ks:List Key} {us:List Value},Vals (ks.map kV) us->ItemsAre (u15 P w) ks us
 | [],_,r=>by rw [List.map_nil] at r;cases r;exact .nil
 | k::ks,_,r=>by
  rw [List.map_cons] at r;cases r with
  | cons h t=>exact .cons (uy2 h) (ue5 t)
abbrev KT (H:Hp):List (List Key × V)->List (List Key × Addr × Value)->Prop:=Paired fun p q=>p.1=q.1 /\ H q.2.1=some (.tup (p.1.map kV)) /\ RelV p.2 q.2.2
theorem KT.val {H:Hp} {kvs:List (List Key × V)} {xs:List (List Key × Addr × Value)} (r:KT H kvs xs) (k:List Key):RelO (valV kvs k) ((atKey xs k).map (·.2)):=by
 induction r with
 | nil=>exact True.intro
 | @cons p q ps qs h t ih =>
  obtain ⟨h1,_,h2⟩:=h
  by_cases e:p.1=k
  ·have e':q.1=k:=h1.symm.trans e
   have b:atKey (q::qs) k=some q.2:=by simp [atKey,List.find?_cons,e']
   rw [u71 e,b];exact h2
  ·have e':¬ q.1=k:=fun z=>e (h1.trans z)
   have b:atKey (q::qs) k=atKey qs k:=by simp [atKey,List.find?_cons,e']
   rw [u72 e,b];exact ih
theorem KT.repl {H:Hp} {kvs:List (List Key × V)} {xs:List (List Key × Addr × Value)} (r:KT H kvs xs) (k:List Key) {y:V} {u:Value} (ry:RelV y u) :
  KT H (kvs.map fun kv=>if kv.1=k then (kv.1,y) else kv) (xs.map (putAt k u)):=by
 induction r with
 | nil=>exact .nil
 | @cons p q ps qs h t ih =>
  rw [List.map_cons,List.map_cons];refine .cons ?_ ih;obtain ⟨h1,h2,h3⟩:=h;unfold putAt
  by_cases e:p.1=k
  ·rw [if_pos e,if_pos (h1.symm.trans e)];exact ⟨h1,h2,ry⟩
  ·rw [if_neg e,if_neg (fun z=>e (h1.trans z))];exact ⟨h1,h2,h3⟩
theorem KT.put {H:Hp} {kvs:List (List Key × V)} {xs:List (List Key × Addr × Value)} (r:KT H kvs xs) (k:List Key) {b:Addr} {y:V} {u:Value} (hb:H b=some (.tup (k.map kV))) (ry:RelV y u) :
  KT H (putK kvs k y) (storedH xs k b u):=by
 have e:(kvs.any fun kv=>decide (kv.1=k))=(atKey xs k).isSome:=by
  rw [uh5,(r.val k).isSome_eq,Option.isSome_map]
 unfold putK storedH;rw [e]
 by_cases q:(atKey xs k).isSome=true
 ·rw [if_pos q,if_pos q];exact r.repl k ry
 ·rw [if_neg q,if_neg q];exact Paired.snoc r ⟨rfl,hb,ry⟩
theorem KT.keeps {H H':Hp} {kvs:List (List Key × V)} {xs:List (List Key × Addr × Value)} (r:KT H kvs xs) (ht:∀ b ys,H b=some (.tup ys)->H' b=some (.tup ys)):KT H' kvs xs :=
 Paired.mapP r fun _ _ z=>⟨z.1,ht _ _ z.2.1,z.2.2⟩
section
variable {P:Program} {w:World} {H:Hp} {h:Heap} {a:Addr}
theorem rd_of {u:HO} (ok:HOk P w H h) (e:Rd H a u):ObjOk P w H h a u:=e.ok ok
theorem vc0 {kvs:List (Key × V)} (ok:HOk P w H h) (e:Rd H a (.dK kvs)):kvs.length<=sizeLine /\ (a == sysModules)=false /\ ∃ vs,KV kvs vs /\ h.DictOf (u15 P w) a vs :=
 show ObjOk P w H h a (.dK kvs) from rd_of ok e
theorem vq9 {kvs:List (Key × V)} (ok:HOk P w H h) (e:H a=some (.dK kvs)):kvs.length<=sizeLine /\ (a == sysModules)=false /\ ∃ vs,KV kvs vs /\ h.DictOf (u15 P w) a vs:=vc0 ok (.inl e)
theorem uq5 {ks:List Key} (ok:HOk P w H h) (e:H a=some (.tup (ks.map kV))):(tupleKind (u15 P w)).is h ks a:=by
 obtain ⟨_,its,r,o,h1,h2,⟨n,h3⟩,_⟩:=(show ObjOk P w H h a (.tup (ks.map kV)) from ok a _ e);exact ⟨o,its.toArray,n,h1,h2,h3,by simpa using ue5 r⟩
theorem vq7 {kvs:List (List Key × V)} (ok:HOk P w H h) (e:Rd H a (.dT kvs)):kvs.length<=sizeLine /\ (a == sysModules)=false /\
  ∃ xs,KT H kvs xs /\ h.DictOfH (tupleKind (u15 P w)) a xs:=by
 obtain ⟨z,y,xs,r,o,es,ep,h1,h2,h3,h4,h5⟩:=(show ObjOk P w H h a (.dT kvs) from rd_of ok e);refine ⟨z,y,xs,r,o,es,ep,h1,h2,h3,h4,fun x hx=>?_,h5⟩;have all:∀ {l:List (List Key × V)} {m:List (List Key × Addr × Value)},KT H l m->∀ x ∈ m,(tupleKind (u15 P w)).is h x.1 x.2.1:=by
  intro l m q
  induction q with
  | nil=>intro x hx;exact nomatch hx
  | @cons p q ps qs hq t ih =>
   intro x hx
   rcases List.mem_cons.mp hx with e | hx
   ·subst e
    exact uq5 ok (by rw [<- hq.1];exact hq.2.1)
   ·exact ih x hx
 exact all r x hx
theorem vv9 {kvs:List (List Key × V)} (ok:HOk P w H h) (e:H a=some (.dT kvs)):kvs.length<=sizeLine /\ (a == sysModules)=false /\
  ∃ xs,KT H kvs xs /\ h.DictOfH (tupleKind (u15 P w)) a xs:=vq7 ok (.inl e)
end
def DGet (H:Hp) (a:Addr) (y:V) (r:Option V):Prop :=
 (∃ kvs k,Rd H a (.dK kvs) /\ y=kV k /\ r=valV kvs k) \/ ∃ kvs k b,Rd H a (.dT kvs) /\ y=.ref b /\ H b=some (.tup (k.map kV)) /\ r=valV kvs k
def DPut (H:Hp) (a:Addr) (y v:V) (H':Hp):Prop :=
 (∃ kvs k,H a=some (.dK kvs) /\ y=kV k /\ kvs.length < sizeLine /\ H'=upd H a (.dK (putK kvs k v))) \/
 ∃ kvs k b,H a=some (.dT kvs) /\ y=.ref b /\ H b=some (.tup (k.map kV)) /\ kvs.length < sizeLine /\ H'=upd H a (.dT (putK kvs k v))
theorem DGet.k {H:Hp} {a:Addr} {kvs:List (Key × V)} {k:Key} (e:H a=some (.dK kvs)):DGet H a (kV k) (valV kvs k):=.inl ⟨kvs,k,.inl e,rfl,rfl⟩
theorem DPut.k {H:Hp} {a:Addr} {kvs:List (Key × V)} {k:Key} {v:V} (e:H a=some (.dK kvs)) (hl:kvs.length < sizeLine):DPut H a (kV k) v (upd H a (.dK (putK kvs k v))):=.inl ⟨kvs,k,e,rfl,hl,rfl⟩
section
variable {X:Cx} {pins:List (Addr × Obj)} {σ:St} {H:Hp} {s:Shared} {a:Addr} {y v:V} {u r:Value} {o:Option V} {A:Around} {E:Value->Shared->Prop}
theorem Inv.big (I:Inv X pins σ H s):sysModules < s.heap.objs.size:=by
 have h:mainGlobals < s.heap.objs.size:=(I.mod.glob.keeps I.bk).lt;exact Nat.lt_trans (by decide) h
theorem vc1 {Q:Value->Shared->Prop} (hu:A.units+1 < cLine) (I:Inv X pins σ H s) (g:DGet H a y o) (ry:RelV y u) (h:∀ s',Inv X pins σ H s'->Q (.bool (!o.isSome)) s') :
  wpAny (model X.prog X.w) A (compareOp .NotIn u (.ref a)) Q E s:=by
 rcases g with ⟨kvs,k,e,ey,l⟩ | ⟨kvs,k,b,e,ey,eb,l⟩
 ·subst ey
  obtain ⟨z,hd,vs,rel,dd⟩:=vc0 I.hok e;refine wpAny_notIn_of (uy2 ry) hd dd.mapOf ?_;rw [<- (rel.val k).isSome_eq,<- l];exact h _ (I.tok _)
 ·subst ey
  cases (show u=Value.ref b from ry);obtain ⟨z,hd,xs,rel,dd⟩:=vq7 I.hok e;refine wpAny_notIn_heap (tupleKind_room_in1 hu) (uq5 I.hok eb) hd dd ?_;have q:=(rel.val k).isSome_eq;rw [Option.isSome_map] at q;rw [<- q,<- l];exact h _ (I.tok _)
theorem ug7 {h':Heap} {t':Nat} {ob:HO} (I:Inv X pins σ H s) (mu:Mut (H a)) (hs:Heap.SameBut a s.heap h') (he:∃ q,h'.get? a=some q) (new:ObjOk X.prog X.w (upd H a ob) h' a ob) :
  Inv X pins σ (upd H a ob) { s with heap:=h',toks:=t' } :=
 I.write (x:=a) (e:=a) mu (.inl rfl) (fun b q hb z=>(hs.2 b hb).trans z) he new
theorem v39 {P:Program} {w:World} {H':Hp} {h':Heap} {kvs:List (Key × V)} {vs:List (Key × Value)} (z:kvs.length<=sizeLine) (hd:(a == sysModules)=false) (rel:KV kvs vs) (dd:h'.DictOf (u15 P w) a vs) :
  ObjOk P w H' h' a (.dK kvs):=⟨z,hd,vs,rel,dd⟩
theorem ut0 {H':Hp} {Q:Unit->Shared->Prop} (hu:A.units+1 < cLine) (I:Inv X pins σ H s) (g:DPut H a y v H') (ry:RelV y u) (rv:RelV v r) (h:∀ s',Inv X pins σ H' s'->Q () s') :
  wpAny (model X.prog X.w) A (setItem (.ref a) u r) Q E s:=by
 rcases g with ⟨kvs,k,e,ey,l,eH⟩ | ⟨kvs,k,b,e,ey,eb,l,eH⟩
 ·subst ey eH
  obtain ⟨z,hd,vs,rel,dd⟩:=vq9 I.hok e;have hz:vs.length<=sizeLine:=by rw [<- rel.length];exact z
  have hl:(putK kvs k v).length<=sizeLine:=by have:=u53 kvs k v;omega
  refine wpAny_setItem_pairs (hsz:=hz) (uy2 ry) dd fun h' dd' hs=>h _ ?_
  have he:∃ q,h'.get? a=some q:=let ⟨q,_,_,hq,_⟩:=dd';⟨q,hq⟩;exact ug7 I (by rw [e];exact True.intro) hs he (v39 hl hd (rel.put k rv) dd')
 ·subst ey eH
  cases (show u=Value.ref b from ry);obtain ⟨z,hd,xs,rel,dd⟩:=vv9 I.hok e;have hz:xs.length<=sizeLine:=by rw [<- Paired.length rel];exact z
  have hl:(putK kvs k v).length<=sizeLine:=by have:=u53 kvs k v;omega
  refine wpAny_setItem_heap (hsz:=hz) (tupleKind_room_in1 hu) (uq5 I.hok eb) dd fun h' dd' hs=>h _ ?_
  obtain ⟨q,es,ep,hq,h2,h3,h4,_,h5⟩:=dd';refine ug7 I (by rw [e];exact True.intro) hs ⟨q,hq⟩ ⟨hl,hd,_,(rel.put k eb rv).keeps fun c ys ec=>?_,q,es,ep,hq,h2,h3,h4,h5⟩;rw [u09 (vv4 ec e (fun z=>nomatch z))];exact ec
end
def vt9 (td ty tv:TE):TS:=fun D σ H=>tv σ H fun v H1=>td σ H1 fun x H2=>ty σ H2 fun y H3=>∃ a H4,x=.ref a /\ DPut H3 a y v H4 /\ D.nx σ H4
section
variable {X:Cx} {o i e value:Expr} {pos pos' tpos:Pos} {td ty tv:TE}
theorem v77 (hu:X.A.units+1 < cLine) (ho:PE X o td) (hi:PE X i ty) (hv:PE X value tv) (hs:swapsWith value (some (.Subscript o i pos')) pos.line X.env=pure false) :
  PS X (.Assign [.Subscript o i pos'] value pos) (vt9 td ty tv):=by
 intro pins s σ H D I h
 (refine wpAny_Assign_Subscript (thn (hv pins s σ H _ I h) ?_) hs;rintro r s1 ⟨v,H1,I1,rv,q1⟩;refine thn (ho pins s1 σ H1 _ I1 q1) ?_;rintro u s2 ⟨x,H2,I2,rx,q2⟩;refine thn (hi pins s2 σ H2 _ I2 q2) ?_;rintro iv s3 ⟨y,H3,I3,ry,a,H4,ex,g,q3⟩)
 subst ex;obtain rfl:u=Value.ref a:=rx;exact ut0 hu I3 g ry rv fun s4 I4=>⟨σ,H4,I4,q3⟩
end
theorem uz1 {P:Program} {w:World} {H:Hp} (h:Heap) (hb:sysModules < h.objs.size):ObjOk P w H (h.push { cls:=.type "dict",data:=.dict #[] }) h.objs.size (.dK []) :=
 ⟨Nat.zero_le _,beq_eq_false_iff_ne.mpr (Ne.symm (Nat.ne_of_lt hb)),[],.nil,Heap.DictOf.new h⟩
def um7:List (TE × TE)->St->Hp->(List (V × V)->Hp->Prop)->Prop
 | [],_,H,Q=>Q [] H
 | (tk,tv)::r,σ,H,Q=>tk σ H fun x H1=>tv σ H1 fun y H2=>um7 r σ H2 fun ps H3=>Q ((x,y)::ps) H3
abbrev VV:List (V × V)->List (Value × Value)->Prop:=Paired fun p q=>RelV p.1 q.1 /\ RelV p.2 q.2
def PPs (X:Cx) (pos:Pos) (keys:List (Option Expr)) (values:List Expr) (trs:List (TE × TE)):Prop :=
 ∀ (pins:List (Addr × Obj)) (s:Shared) (σ:St) (H:Hp) (Q:List (V × V)->Hp->Prop),Inv X pins σ H s->um7 trs σ H Q ->
  wpAny (model X.prog X.w) X.A (evalPairs (pairTrees keys values X.env pos)) (fun vs s'=>∃ ps H',Inv X pins σ H' s' /\ VV ps vs /\ Q ps H') X.xe s
theorem v78 {X:Cx} {pos:Pos}:PPs X pos [] [] []:=fun pins s σ H Q I h=>pairTrees_nil_walk ⟨[],H,I,.nil,h⟩
theorem uv5 {X:Cx} {pos:Pos} {k v:Expr} {ks:List (Option Expr)} {vs:List Expr} {tk tv:TE} {trs:List (TE × TE)} (hk:PE X k tk) (hv:PE X v tv) (hr:PPs X pos ks vs trs) :
  PPs X pos (some k::ks) (v::vs) ((tk,tv)::trs):=fun pins s σ H Q I h =>
 pairTrees_cons_walk (thn (hk pins s σ H _ I h) fun u s1 ⟨x,H1,I1,rx,q1⟩=>thn (hv pins s1 σ H1 _ I1 q1) fun w2 s2 ⟨y,H2,I2,ry,q2⟩ =>
  thn (hr pins s2 σ H2 _ I2 q2) fun ws s3 ⟨ps,H3,I3,rel,q3⟩=>⟨(x,y)::ps,H3,I3,.cons ⟨rx,ry⟩ rel,q3⟩)
def ue2 (kvs more:List (Key × V)):List (Key × V):=more.foldl (fun acc kv=>putK acc kv.1 kv.2) kvs
theorem KV.merge:∀ {more:List (Key × V)} {rs:List (Key × Value)} {kvs:List (Key × V)} {vs:List (Key × Value)},KV more rs->KV kvs vs->KV (ue2 kvs more) (merged vs rs):=by
 intro more rs kvs vs r;unfold KV at r
 induction r generalizing kvs vs with
 | nil=>intro q;exact q
 | @cons p q ps qs h t ih =>
  intro r0;have e:KV (putK kvs p.1 p.2) (stored vs q.1 q.2):=by
   have:=r0.put p.1 h.2;rw [<- h.1];exact this
  exact ih e
theorem u56:∀ (more kvs:List (Key × V)),(ue2 kvs more).length<=kvs.length+more.length
 | [],kvs=>by show kvs.length<=kvs.length+0;omega
 | p::r,kvs=>by
  have h1:=u56 r (putK kvs p.1 p.2);have h2:=u53 kvs p.1 p.2
  show (ue2 (putK kvs p.1 p.2) r).length<=_
  rw [List.length_cons];omega
theorem ua0 {P:Program} {w:World}:∀ {kvs:List (Key × V)} {ws:List (Value × Value)},VV (kvs.map fun kv=>(kV kv.1,kv.2)) ws->∃ rs,Carries (u15 P w) ws rs /\ KV kvs rs
 | [],_,r=>by rw [List.map_nil] at r;cases r;exact ⟨[],True.intro,.nil⟩
 | p::kvs,_,r=>by
  rw [List.map_cons] at r;cases r with
  | @cons a b as bs h t =>
   obtain ⟨rs,c,q⟩:=ua0 (P:=P) (w:=w) t;obtain ⟨b1,b2⟩:=b;exact ⟨(p.1,b2)::rs,⟨uy2 h.1,rfl,c⟩,.cons ⟨rfl,h.2⟩ q⟩
def vt5 (trs:List (TE × TE)):TE:=fun σ H Q=>∀ p,H p=none->um7 trs σ (upd H p (.dK [])) fun ps H2=>H2 p=some (.dK []) /\ ∃ kvs:List (Key × V),ps=kvs.map (fun kv=>(kV kv.1,kv.2)) /\ kvs.length<=15 /\ Q (.ref p) (upd H2 p (.dK (ue2 [] kvs)))
theorem v84 {X:Cx} {pos:Pos} {keys:List (Option Expr)} {values:List Expr} {trs:List (TE × TE)} (h:PPs X pos keys values trs) (hall:keys.all (·.isSome)=true) (hl:keys.length=values.length) (h0:keys ≠ [])
  (h15:keys.length<=15):PE X (.Dict keys values pos) (vt5 trs):=by
 intro pins s σ H Q I q;have hn:=I.hok.fresh (Nat.le_refl s.heap.objs.size);have I1:=I.laid (a:=s.heap.objs.size) (o:=.dK []) (h':=s.heap.push { cls:=.type "dict",data:=.dict #[] }) (t':=s.toks) (fun _ _ q=>Heap.get?_push_of_some _ q) (Nat.le_refl _) (uz1 s.heap I.big)
 (refine wpAny_Dict_walk (knd:=u15 X.prog X.w) hall hl h0 h15 (thn (h pins _ σ _ _ I1 (q _ hn)) ?_);rintro ws s2 ⟨ps,H2,I2,rel,e,kvs,ep,lk,q2⟩)
 subst ep;obtain ⟨rs,c,rk⟩:=ua0 (P:=X.prog) (w:=X.w) rel;obtain ⟨z,hd,vs0,r0,dd⟩:=vq9 I2.hok e;cases r0;refine ⟨rs,c,dd,fun h' dd' hs=>⟨.ref s.heap.objs.size,_,?_,rfl,q2⟩⟩;have hz:(ue2 [] kvs).length<=sizeLine:=by
  have h1:=u56 kvs [];rw [List.length_nil] at h1;rw [sizeLine_eq];omega
 have he:∃ q,h'.get? s.heap.objs.size=some q:=let ⟨q,_,_,hq,_⟩:=dd';⟨q,hq⟩;exact ug7 I2 (by rw [e];exact True.intro) hs he (v39 hz hd (rk.merge .nil) dd')
end L2
namespace HT
open PySem PyProof.Rows
section
open PySem.SeqAt
open PySem.AutoSeq1 (wpAny_loadPart')
open PySem.MeetsSeq PySem.MeetsSeq2 PySem.MeetsSeq3
end
section
variable {prog:Program} {w:World} {A:Around} {E:Value->Shared->Prop} {s:Shared}
theorem cat_tup {t b:Addr} {vs ws:List Value} {Q:Value->Shared->Prop} (ht:IsTup s.heap t vs.toArray) (hb:IsTup s.heap b ws.toArray) (hv:vs ≠ [])
  (h1:ws=[]->Q (.ref t) s) (h2:ws ≠ []->Q (.ref s.heap.objs.size) { s with heap:=s.heap.push { cls:=.type "tuple",data:=.seq (vs++ws).toArray } })
  (hsz:vs.length+ws.length<=sizeLine):wpAny (model prog w) A (binaryOp .Add (.ref t) (.ref b)) Q E s:=by
 obtain ⟨⟨cls,dd,data,sl⟩,ho,hc,n,hd⟩:=id ht;obtain ⟨⟨cls2,dd2,data2,sl2⟩,ho2,hc2,n2,hd2⟩:=id hb;simp only at hc hd hc2 hd2;subst hc hd hc2 hd2;have e:vs.toArray++ws.toArray=(vs++ws).toArray:=by simp
 by_cases hw:ws=[]
 ·exact concat_meets ⟨_,ho,rfl⟩ ⟨_,ho2,rfl⟩ noFill_tuple_add seq_tuple_add PySem.F.slot_tuple_add PySem.F.entry_tuple_add (PySem.F.args_tuple_add_2 _ _)
   (tuple_addW1 t b vs.toArray ws.toArray n n2 dd dd2 sl sl2 (by simpa using hv) (by simp [hw])) ⟨ho,ho2,h1 hw⟩
 ·refine concat_meets ⟨_,ho,rfl⟩ ⟨_,ho2,rfl⟩ noFill_tuple_add seq_tuple_add PySem.F.slot_tuple_add PySem.F.entry_tuple_add (PySem.F.args_tuple_add_2 _ _)
   (tuple_addW2 t b vs.toArray ws.toArray n n2 dd dd2 sl sl2 (by simpa using hv) (by simpa using hw) (by rw [List.size_toArray,List.size_toArray];exact hsz)) ⟨ho,ho2,?_⟩
  rw [e];exact h2 hw
def sIx (n d:Nat):Option Int->Nat
 | none=>d
 | some v=>if v < 0 then (v+(n:Int)).toNat else min v.toNat n
theorem vh7 (n d:Nat) (hd:d<=n) (o:Option Int):sIx n d o<=n:=by
 cases o with
 | none=>exact hd
 | some v =>
  show (if v < 0 then (v+(n:Int)).toNat else min v.toNat n)<=n
  by_cases hv:v < 0
  ·rw [if_pos hv];omega
  ·rw [if_neg hv];exact Nat.min_le_right _ _
theorem ut3 (v:Int) (n d:Nat):(if v < 0 then max (v+(n:Int)) 0 else min v (n:Int))=((sIx n d (some v):Nat):Int):=by
 show (if v < 0 then max (v+(n:Int)) 0 else min v (n:Int))=(((if v < 0 then (v+(n:Int)).toNat else min v.toNat n):Nat):Int)
 by_cases hv:v < 0
 ·simp only [if_pos hv];omega
 ·simp only [if_neg hv];omega
theorem ul8 (lo hi:Option Int) (n:Nat):Builtin.Slice.sliceAdjust lo hi 1 (n:Int)=(((sIx n 0 lo:Nat):Int),((sIx n n hi:Nat):Int)):=by
 have h1:¬ ((1:Int) < 0):=by omega
 unfold Builtin.Slice.sliceAdjust;simp only [h1,if_false];refine Prod.ext ?_ ?_
 ·cases lo with
  | none=>rfl
  | some v=>exact ut3 v n 0
 ·cases hi with
  | none=>rfl
  | some v=>exact ut3 v n n
theorem uk4 (i j:Nat):Builtin.Slice.slicePlaces (i:Int) (j:Int) 1=j - i:=by
 unfold Builtin.Slice.slicePlaces;have h1:(1:Int) > 0:=by omega
 simp only [h1,if_true,Int.ediv_one];split <;> omega
theorem u94 {v:Value} {o:Option Int} {Q:Option Int->Shared->Prop} (p:IsPart v o) (h:Q o s):wpAny (model prog w) A (Builtin.Slice.slicePartIndex v) Q E s:=by
 cases p with
 | none=>exact slicePart_none h
 | int i t=>exact slicePart_int h
theorem u69 {sl:Addr} {vl vu:Value} {lo hi:Option Int} {n:Nat} {Q:Int × Int × Nat->Shared->Prop} (hs:s.heap.IsSliceOf sl vl vu .none) (pl:IsPart vl lo) (pu:IsPart vu hi)
  (h:Q (((sIx n 0 lo:Nat):Int),1,sIx n n hi - sIx n 0 lo) s):wpAny (model prog w) A (Builtin.Slice.sliceApplied (.ref sl) (pure (n:Int))) Q E s:=by
 obtain ⟨os,hos,hcs,hds⟩:=id hs;unfold Builtin.Slice.sliceApplied Builtin.Slice.sliceFields;refine wpAny_bind (wpAny_bind (wpAny_field hos hds (x:=vl) rfl (wpAny_bind (wpAny_field hos hds (x:=vu) rfl (wpAny_bind (wpAny_field hos hds (x:=.none) rfl (wpAny_pure ?_)))))));refine wpAny_bind (slicePart_none ?_)
 show wpAny _ _ (if ((1:Int) == 0)=true then _ else _) _ _ s
 rw [if_neg (by decide)];refine wpAny_bind (u94 pl (wpAny_bind (u94 pu (wpAny_bind (wpAny_pure ?_)))))
 show wpAny _ _ (match Builtin.Slice.sliceAdjust lo hi 1 (n:Int) with | (lo,hi)=>pure (lo,(1:Int),Builtin.Slice.slicePlaces lo hi 1)) _ _ s
 rw [ul8 lo hi n]
 show wpAny _ _ (pure (((sIx n 0 lo:Nat):Int),(1:Int),Builtin.Slice.slicePlaces ((sIx n 0 lo:Nat):Int) ((sIx n n hi:Nat):Int) 1)) _ _ s
 rw [uk4];exact wpAny_pure h
theorem uv8 (xs:Array Value) (i k:Nat):((List.range k).filterMap fun (m:Nat)=>xs[((i:Int)+(m:Int) * 1).toNat]?).toArray=((xs.toList.drop i).take k).toArray:=by
 have e:(fun (m:Nat)=>xs[((i:Int)+(m:Int) * 1).toNat]?)=fun m=>xs[i+m]?:=by
  funext m
  have:((i:Int)+(m:Int) * 1).toNat=i+m:=by omega
  rw [this]
 rw [e];have:=pick_run xs i k;rw [List.filterMap_map] at this;have e2:((fun x=>xs[x]?) ∘ fun x=>i+x)=fun m=>xs[i+m]?:=rfl
 rw [e2] at this;rw [this]
theorem getItem_tuple_cut {t sl:Addr} {items:Array Value} {vl vu:Value} {lo hi:Option Int} {Q:Value->Shared->Prop} (ht:IsTup s.heap t items) (hs:s.heap.IsSliceOf sl vl vu .none) (pl:IsPart vl lo) (pu:IsPart vu hi)
  (hw:¬ (sIx items.size 0 lo=0 /\ sIx items.size items.size hi=items.size))
  (h:Q (.ref s.heap.objs.size) { s with heap:=s.heap.push { cls:=.type "tuple",data:=.seq ((items.toList.drop (sIx items.size 0 lo)).take (sIx items.size items.size hi - sIx items.size 0 lo)).toArray } })
  (hsz:items.size<=sizeLine):wpAny (model prog w) A (getItem (.ref t) (.ref sl)) Q E s:=by
 have htake:sizeOk (.seq ((items.toList.drop (sIx items.size 0 lo)).take (sIx items.size items.size hi - sIx items.size 0 lo)).toArray):=by
  show ((items.toList.drop (sIx items.size 0 lo)).take (sIx items.size items.size hi - sIx items.size 0 lo)).toArray.size<=sizeLine
  rw [List.size_toArray,List.length_take,List.length_drop,Array.length_toList];omega
 have hj:sIx items.size items.size hi<=items.size:=vh7 _ _ (Nat.le_refl _) hi;obtain ⟨os,hos,hcs,hds⟩:=id hs;have hTs:s.TypeIs (.ref sl) "slice" := ⟨os,hos,hcs⟩;unfold getItem
 try with_reducible refine wpAny_holding ?_
 first | refine wpAny_bind (wpAny_pure ?_) | skip
 refine wpAny_bind (wpAny_sequenceKey ht.typeIs (by decide) ?_);refine wpAny_bind (wpAny_callSpecial?_slot (name:=Str.ofString "__getitem__") ht.typeIs PyProof.Rows.slot_tuple_getitem
  (wpAny_call_entry PyProof.Rows.slot_tuple_getitem ht.typeIs entry_tuple_getitem ?_ (args_tuple_getitem _ _)))
 show wpAny _ _ (Builtin.Tuple.tupleItemsOf (.ref t) >>= _) _ _ s
 refine wpAny_bind (tupleItemsOf_ ht ?_);refine wpAny_bind (wpAny_typeOf hTs ?_);rw [if_pos (by decide)];refine wpAny_bind (u69 hs pl pu ?_);have hno:¬ ((((sIx items.size 0 lo:Nat):Int) == 0 && (1:Int) == 1 && (sIx items.size items.size hi - sIx items.size 0 lo) == items.size)=true):=by
  intro q;rw [Bool.and_eq_true,Bool.and_eq_true] at q;have q1:((sIx items.size 0 lo:Nat):Int)=0:=eq_of_beq q.1.1;have q2:sIx items.size items.size hi - sIx items.size 0 lo=items.size:=eq_of_beq q.2;exact hw ⟨by omega,by omega⟩
 show wpAny _ _ (if (((sIx items.size 0 lo:Nat):Int) == 0 && (1:Int) == 1 && (sIx items.size items.size hi - sIx items.size 0 lo) == items.size)=true then _ else _) _ _ s
 rw [if_neg hno,uv8]
 first
  | exact wpAny_bind (m:=Builtin.Tuple.tupleExact _) (wpAny_newObj_type (wpAny_pure ⟨_,rfl,wpAny_pure h⟩) htake)
  | exact wpAny_bind (m:=Builtin.Tuple.tupleExact _) (wpAny_newObj_type (wpAny_bind (wpAny_pure (wpAny_pure ⟨_,rfl,wpAny_pure h⟩))) htake)
  | exact wpAny_bind (wpAny_bind (m:=Builtin.Tuple.tupleExact _) (wpAny_newObj_type (wpAny_pure (wpAny_pure ⟨_,rfl,wpAny_pure h⟩)) htake))
  | exact wpAny_bind (wpAny_bind (m:=Builtin.Tuple.tupleExact _) (wpAny_newObj_type (wpAny_pure ⟨_,rfl,wpAny_pure h⟩) htake))
end
end HT
namespace L2
open PySem PySem.Spec PyProof.Rows
abbrev TO:=St->Hp->(Option Int->Hp->Prop)->Prop
def PO (X:Cx) (e:Option Expr) (t:TO):Prop :=
 ∀ (pins:List (Addr × Obj)) (s:Shared) (σ:St) (H:Hp) (Q:Option Int->Hp->Prop),Inv X pins σ H s->t σ H Q ->
  wpAny (model X.prog X.w) X.A (evalPart e X.env) (fun u s'=>∃ o H',Inv X pins σ H' s' /\ IsPart u o /\ Q o H') X.xe s
def um8:TO:=fun _ H Q=>Q none H
def vg7 (t:TE):TO:=fun σ H Q=>t σ H fun x H1=>∃ i,x=.int i /\ Q (some i) H1
theorem intsAre_of {ns:List Int}:∀ {us:List Value},Vals (ns.map V.int) us->IntsAre us ns:=by
 induction ns with
 | nil=>intro us r;rw [List.map_nil] at r;cases r;exact .nil
 | cons n ns ih =>
  intro us r;rw [List.map_cons] at r;cases r with
  | cons r1 r2 =>
   obtain ⟨t,e⟩:=r1;subst e;exact .cons n t (ih r2)
section
variable {X:Cx} {e:Expr} {te:TE} {lo hi:Option Expr} {tl th:TO} {pos p2:Pos}
theorem v80:PO X none um8:=by
 intro pins s σ H Q I h;rw [evalPart_none];exact wpAny_pure ⟨none,H,I,.none,h⟩
theorem v79 (h:PE X e te):PO X (some e) (vg7 te):=by
 intro pins s σ H Q I hw;rw [evalPart_some]
 (refine thn (h pins s σ H _ I hw) ?_;rintro u s1 ⟨x,H1,I1,r1,q1⟩)
 obtain ⟨i,rfl,q⟩:=q1;obtain ⟨t,rfl⟩:=r1;exact ⟨some i,H1,I1,.int i t,q⟩
def SlR (X:Cx) (r:V->Option Int->Option Int->Hp->VK->Prop):Prop :=
 ∀ (pins:List (Addr × Obj)) (s:Shared) (σ:St) (H:Hp) (x:V) (v vl vu:Value) (lo hi:Option Int) (sl:Addr) (Q:VK),Inv X pins σ H s->RelV x v->s.heap.IsSliceOf sl vl vu .none->IsPart vl lo->IsPart vu hi->r x lo hi H Q ->
  ∃ T id,typeLookup (.type T) "__getitem__" = pure (some (.builtin id)) /\ s.TypeIs v T /\ wpAny (model X.prog X.w) X.A (getItem v (.ref sl)) (EP X pins σ Q) X.xe s
theorem SlR.or {r r':V->Option Int->Option Int->Hp->VK->Prop} (h:SlR X r) (h':SlR X r'):SlR X (fun x lo hi H Q=>r x lo hi H Q \/ r' x lo hi H Q):=by
 intro pins s σ H x v vl vu lo hi sl Q I rx hs pl pu q
 rcases q with q | q
 ·exact h pins s σ H x v vl vu lo hi sl Q I rx hs pl pu q
 ·exact h' pins s σ H x v vl vu lo hi sl Q I rx hs pl pu q
def tSl (r:V->Option Int->Option Int->Hp->VK->Prop) (te:TE) (tl th:TO):TE:=fun σ H Q=>te σ H fun x H1=>tl σ H1 fun l H2=>th σ H2 fun u H3=>r x l u H3 Q
theorem uw0 {r:V->Option Int->Option Int->Hp->VK->Prop} (hr:SlR X r) (he:PE X e te) (hl:PO X lo tl) (hu:PO X hi th):PE X (.Subscript e (.Slice lo hi none p2) pos) (tSl r te tl th):=by
 intro pins s σ H Q I h
 (refine Subscript_ (thn (he pins s σ H _ I h) ?_);rintro v s1 ⟨x,H1,I1,r1,q1⟩)
 (refine wpAny_Slice (thn (hl pins s1 σ H1 _ I1 q1) ?_);rintro vl s2 ⟨l,H2,I2,pl,q2⟩;refine thn (hu pins s2 σ H2 _ I2 q2) ?_;rintro vu s3 ⟨u,H3,I3,pu,q3⟩)
 rw [evalPart_none];refine wpAny_pure ?_;have I4:Inv X pins σ H3 { s3 with heap:=s3.heap.push { cls:=.type "slice",data:=.fields #[vl,vu,.none] } }:=I3.kept (t':=s3.toks) fun b ob q=>Heap.get?_push_of_some _ q
 obtain ⟨T,id,hT,ht,hg⟩:=hr pins { s3 with heap:=s3.heap.push { cls:=.type "slice",data:=.fields #[vl,vu,.none] } } σ H3 x v vl vu l u s3.heap.objs.size Q I4 r1 (Heap.IsSliceOf.new ..) pl pu q3
 show wpAny (model X.prog X.w) X.A (subscriptTail e (.Slice lo hi none p2) v (.ref s3.heap.objs.size)) (EP X pins σ Q) X.xe { s3 with heap:=s3.heap.push { cls:=.type "slice",data:=.fields #[vl,vu,.none] } }
 exact tail_any (ops:=[.ref s3.heap.objs.size,v]) ht hT hg (by with_unfolding_all rfl)
def cutV (xs:List V) (lo hi:Option Int):List V:=(xs.drop (HT.sIx xs.length 0 lo)).take (HT.sIx xs.length xs.length hi - HT.sIx xs.length 0 lo)
theorem u85 (xs:List V) (lo hi:Option Int):(cutV xs lo hi).length<=xs.length:=by
 unfold cutV;rw [List.length_take,List.length_drop];omega
def rSlT (K:W.Frag):V->Option Int->Option Int->Hp->VK->Prop:=fun x lo hi H Q=>∃ a xs,x=.ref a /\ SqT K H a xs /\
 ¬ (HT.sIx xs.length 0 lo=0 /\ HT.sIx xs.length xs.length hi=xs.length) /\ ∀ p,H p=none->Q (.ref p) (upd H p (.tup (cutV xs lo hi)))
theorem vh4:SlR X (rSlT X.K):=by
 intro pins s σ H x v vl vu lo hi sl Q I rx hs pl pu h;obtain ⟨a,xs,rfl,hx,hw,q⟩:=h;cases rx;obtain ⟨its,r,ht,hz⟩:=I.tuple hx;have hlen:its.toArray.size=xs.length:=by rw [List.size_toArray];exact r.length.symm
 refine ⟨"tuple",_,PyProof.Rows.slot_tuple_getitem.lookup,ht.typeIs,?_⟩;refine HT.getItem_tuple_cut ht hs pl pu (by rw [hlen];exact hw) ?_ (by rw [hlen];exact hz);rw [hlen];refine ⟨.ref s.heap.objs.size,_,I.laid (t':=s.toks) (o:=.tup (cutV xs lo hi)) (fun b ob q=>Heap.get?_push_of_some _ q) (Nat.le_refl _) ?_,rfl,q _ (I.hok.fresh (Nat.le_refl _))⟩;exact ⟨Nat.le_trans (u85 xs lo hi) hz,_,(r.drop (HT.sIx xs.length 0 lo)).take (HT.sIx xs.length xs.length hi - HT.sIx xs.length 0 lo),TupD.new _ _⟩
def vu1 (K:W.Frag):R2:=fun x y H Q=>∃ a b xs ys,x=.ref a /\ y=.ref b /\ SqT K H a xs /\ SqT K H b ys /\ xs ≠ [] /\ xs.length+ys.length<=sizeLine /\
 (ys=[]->Q (.ref a) H) /\ (ys ≠ []->∀ p,H p=none->Q (.ref p) (upd H p (.tup (xs++ys))))
theorem Vals.nil_iff {xs:List V} {us:List Value} (r:Vals xs us):us=[] ↔ xs=[]:=by
 cases r with
 | nil=>simp
 | cons _ _=>simp
theorem op_catT:OpR X (binaryOp .Add) (vu1 X.K):=by
 intro pins s σ H x y v u Q I rx ry h;obtain ⟨a,b,xs,ys,rfl,rfl,ha,hb,hx,hz,q1,q2⟩:=h;cases rx;cases ry;obtain ⟨its,r1,p1,_⟩:=I.tuple ha;obtain ⟨its2,r2,p2,_⟩:=I.tuple hb;refine HT.cat_tup p1 p2 (fun z=>hx (r1.nil_iff.mp z)) (fun z=>⟨.ref a,H,I,rfl,q1 (r2.nil_iff.mp z)⟩) (fun z=>?_) (by rw [<- r1.length,<- r2.length];exact hz);refine ⟨.ref s.heap.objs.size,_,I.laid (t':=s.toks) (o:=.tup (xs++ys)) (fun b ob q=>Heap.get?_push_of_some _ q) (Nat.le_refl _) ?_,rfl,q2 (fun w=>z (r2.nil_iff.mpr w)) _ (I.hok.fresh (Nat.le_refl _))⟩;exact ⟨by rw [List.length_append];exact hz,_,r1.append r2,TupD.new _ _⟩
end
def ixN (n:Nat) (i:Int):Option Nat:=if 0<=i then (if i < n then some i.toNat else none) else if -(n:Int)<=i then some (i+n).toNat else none
def atI {α:Type} (xs:List α) (i:Int):Option α:=(ixN xs.length i).bind fun j=>xs[j]?
theorem ur0 {n:Nat} {i:Int} {j:Nat} (h:ixN n i=some j):seqIndex? i n=some j /\ j < n /\ -(n:Int)<=i /\ i < n:=by
 unfold ixN at h
 by_cases h0:0<=i
 ·rw [if_pos h0] at h
  by_cases h1:i < n
  ·rw [if_pos h1] at h
   have e:i.toNat=j:=Option.some.inj h;exact ⟨by rw [seqIndex_of h0 h1,e],by omega,by omega,h1⟩
  ·rw [if_neg h1] at h;cases h
 ·rw [if_neg h0] at h
  by_cases h1:-(n:Int)<=i
  ·rw [if_pos h1] at h
   have e:(i+n).toNat=j:=Option.some.inj h;exact ⟨by rw [seqIndex_neg (by omega) h1,e],by omega,h1,by omega⟩
  ·rw [if_neg h1] at h;cases h
theorem uh1 {α:Type} {xs:List α} {i:Int} {v:α} (h:atI xs i=some v):∃ j,seqIndex? i xs.length=some j /\ xs[j]?=some v /\ j < xs.length /\ -(xs.length:Int)<=i /\ i < xs.length:=by
 unfold atI at h;cases e:ixN xs.length i with
 | none=>rw [e] at h;cases h
 | some j =>
  rw [e] at h;obtain ⟨h1,h2,h3,h4⟩:=ur0 e;exact ⟨j,h1,h,h2,h3,h4⟩
theorem u87 {α:Type} {xs:List α} {j:Nat} {v:α} (h:xs[j]?=some v):atI xs (j:Int)=some v:=by
 have hj:j < xs.length:=(List.getElem?_eq_some_iff.mp h).1;have e:ixN xs.length (j:Int)=some j:=by
  unfold ixN;rw [if_pos (by omega),if_pos (by omega)];simp
 unfold atI;rw [e];exact h
def ut9 (b:Expr):Prop:=∀ o i,subscripted b false o i=operate [o,i] (getItem o i)
def IxR (X:Cx) (r:R2):Prop :=
 ∀ (value slice:Expr) (pins:List (Addr × Obj)) (s:Shared) (σ:St) (H:Hp) (x y:V) (v u:Value) (Q:VK),Inv X pins σ H s->RelV x v->RelV y u->r x y H Q ->
  subscripted slice false v u=operate [v,u] (getItem v u)->wpAny (model X.prog X.w) X.A (subscriptTail value slice v u) (EP X pins σ Q) X.xe s
def MtR (X:Cx) (id:String) (r:V->List V->Hp->VK->Prop):Prop :=
 ∀ (pins:List (Addr × Obj)) (s:Shared) (σ:St) (H:Hp) (x:V) (xs:List V) (v:Value) (us:List Value) (Q:VK),Inv X pins σ H s->RelV x v->Vals xs us->r x xs H Q ->
  wpAny (model X.prog X.w) X.A (call (.builtin id) (v::us)) (EP X pins σ Q) X.xe s
section
variable {X:Cx} {a b:Expr} {ta tb:TE} {pos:Pos}
theorem IxR.or {r r':R2} (h:IxR X r) (h':IxR X r'):IxR X (fun x y H Q=>r x y H Q \/ r' x y H Q):=by
 intro value slice pins s σ H x y v u Q I rx ry q hs
 rcases q with q | q
 ·exact h value slice pins s σ H x y v u Q I rx ry q hs
 ·exact h' value slice pins s σ H x y v u Q I rx ry q hs
theorem MtR.or {id:String} {r r':V->List V->Hp->VK->Prop} (h:MtR X id r) (h':MtR X id r'):MtR X id (fun x xs H Q=>r x xs H Q \/ r' x xs H Q):=by
 intro pins s σ H x xs v us Q I rx rs q
 rcases q with q | q
 ·exact h pins s σ H x xs v us Q I rx rs q
 ·exact h' pins s σ H x xs v us Q I rx rs q
theorem vu8 {r:R2} (hr:IxR X r) (ha:PE X a ta) (hb:PE X b tb) (hs:ut9 b):PE X (.Subscript a b pos) (tOp r ta tb):=by
 intro pins s σ H Q I h;exact Subscript_ (binT ha hb I h fun v u s2 x y H2 I2 rx ry q=>hr a b pins s2 σ H2 x y v u Q I2 rx ry q (hs _ _))
def rIxL (K:W.Frag):R2:=fun x y H Q=>∃ p xs i v,x=.ref p /\ y=.int i /\ SqL K H p xs /\ atI xs i=some v /\ Q v H
def rIxT (K:W.Frag):R2:=fun x y H Q=>∃ p xs i v,x=.ref p /\ y=.int i /\ SqT K H p xs /\ atI xs i=some v /\ Q v H
def rIxS:R2:=fun x y H Q=>∃ z i c,x=.str z /\ y=.int i /\ z.length<=sizeLine /\ atI z.cps.toList i=some c /\ Q (.str ⟨#[c]⟩) H
theorem ix_list:IxR X (rIxL X.K):=by
 intro value slice pins s σ H x y v u Q I rx ry h hs;obtain ⟨p,xs,i,z,rfl,rfl,hq,he,q⟩:=h;cases rx;obtain ⟨t,rfl⟩:=ry;obtain ⟨its,r,pl,hz⟩:=I.list hq;obtain ⟨j,h1,h2,h3,h4,h5⟩:=uh1 he;obtain ⟨w,ew,rw'⟩:=r.get h2;have hl:=r.length;have hn:=line63;have fin:EP X pins σ Q w s:=⟨z,H,I,rw',q⟩
 by_cases h0:0<=i
 ·have hj:i.toNat=j:=by
   rw [seqIndex_of h0 h5] at h1;exact Option.some.inj h1
  exact item_listR pl.isList h0 (by omega) (by rw [hj];simpa using ew) fin hs
 ·have hj:(i+(its.toArray.size:Int)).toNat=j:=by
   rw [seqIndex_neg (by omega) h4] at h1;rw [List.size_toArray,<- hl];exact Option.some.inj h1
  exact subscriptTail_builtinR (x:=w) pl.isList.typeIs slot_list_getitem.lookup
   (wpAny_getItem_list_neg (Q:=fun r s'=>r=w /\ EP X pins σ Q r s') pl.isList (by omega) (by rw [List.size_toArray] <;> omega) (by omega) (by rw [hj];simpa using ew) ⟨rfl,fin⟩) hs
theorem ix_tup:IxR X (rIxT X.K):=by
 intro value slice pins s σ H x y v u Q I rx ry h hs;obtain ⟨p,xs,i,z,rfl,rfl,hq,he,q⟩:=h;cases rx;obtain ⟨t,rfl⟩:=ry;obtain ⟨its,r,pl,hz⟩:=I.tuple hq;obtain ⟨j,h1,h2,h3,h4,h5⟩:=uh1 he;obtain ⟨w,ew,rw'⟩:=r.get h2;have hl:=r.length;have hn:=line63;have fin:EP X pins σ Q w s:=⟨z,H,I,rw',q⟩;exact subscriptTail_builtinR (x:=w) pl.typeIs slot_tuple_getitem.lookup
  (getItem_tuple (j:=j) (Q:=fun r s'=>r=w /\ EP X pins σ Q r s') pl (by omega) (by omega) (by rw [List.size_toArray,<- hl];exact h1) (by simpa using ew) ⟨rfl,fin⟩) hs
theorem vp0:IxR X rIxS:=by
 intro value slice pins s σ H x y v u Q I rx ry h hs;obtain ⟨z,i,c,rfl,rfl,hz,he,q⟩:=h;obtain ⟨t,rfl⟩:=rx;obtain ⟨t',rfl⟩:=ry;obtain ⟨j,h1,h2,h3,h4,h5⟩:=uh1 he;have hl:z.cps.toList.length=z.length:=by simp [Str.length]
 rw [hl] at h1 h4 h5;have hn:=line63;exact tail_any (typeIs_str s z t) slot_str_getitem.lookup (getItem_str (c:=c) (by
  have e1:decide (i < -(2 ^ 63:Int))=false:=decide_eq_false (by omega);have e2:decide (i ≥ 2 ^ 63)=false:=decide_eq_false (by omega);rw [e1,e2,Bool.or_false]) (by rw [h1];simpa using h2) ⟨.str ⟨#[c]⟩,H,I.tok _,⟨_,rfl⟩,q⟩) hs
def rIx (K:W.Frag):R2:=fun x y H Q=>rIxL K x y H Q \/ rIxT K x y H Q \/ rIxS x y H Q
theorem vp1:IxR X (rIx X.K):=ix_list.or (ix_tup.or vp0)
theorem uk7 (its:List Value) (n j:Nat) (u:Value):Obj.mapSeq (·.setIfInBounds j u) { cls:=.type "list",data:=.seq its.toArray n }={ cls:=.type "list",data:=.seq (its.set j u).toArray n }:=by
 simp [Obj.mapSeq]
theorem Inv.lst {pins:List (Addr × Obj)} {σ:St} {H:Hp} {s:Shared} {p:Addr} {xs:List V} (I:Inv X pins σ H s) (h:H p=some (.lst xs)) :
  ∃ (its:List Value) (n:Nat),Vals xs its /\ s.heap.get? p=some { cls:=.type "list",data:=.seq its.toArray n } /\ xs.length<=sizeLine:=by
 obtain ⟨z,its,n,r,e⟩:=I.hok p _ h;exact ⟨its,n,r,e,z⟩
theorem Inv.lstUpd {pins:List (Addr × Obj)} {σ:St} {H:Hp} {s:Shared} {p:Addr} {xs ys:List V} {its its':List Value} {n n':Nat} {f:Obj->Obj} (I:Inv X pins σ H s) (h:H p=some (.lst xs))
  (ho:s.heap.get? p=some { cls:=.type "list",data:=.seq its.toArray n }) (hf:f { cls:=.type "list",data:=.seq its.toArray n }={ cls:=.type "list",data:=.seq its'.toArray n' }) (r:Vals ys its') (hz:ys.length<=sizeLine) (t:Nat) :
  Inv X pins σ (upd H p (.lst ys)) { s with heap:=s.heap.update p f,toks:=t }:=by
 have e:(s.heap.update p f).get? p=some { cls:=.type "list",data:=.seq its'.toArray n' }:=by
  rw [Heap.get?_update_self f ho (by rw [hf] <;> rfl),hf]
 refine I.write (x:=p) (e:=p) (by rw [h];trivial) (.inl rfl) (fun b u hb q=>(Heap.get?_update_other _ _ (Ne.symm hb)).trans q) ⟨_,e⟩ ?_;exact ⟨hz,its',n',r,e⟩
def vu0:V->V->V->Hp->(Hp->Prop)->Prop:=fun o i v H Q=>∃ p xs k j,o=.ref p /\ i=.int k /\ H p=some (.lst xs) /\ ixN xs.length k=some j /\ Q (upd H p (.lst (xs.set j v)))
theorem set_list:PSet X vu0:=by
 intro pins s σ H o i v ov iv u Q I ro ri rv h;obtain ⟨p,xs,k,j,rfl,rfl,hp,hj,q⟩:=h;cases ro;obtain ⟨t,rfl⟩:=ri;obtain ⟨its,n,r,ho,hz⟩:=I.lst hp;obtain ⟨h1,h2,h3,h4⟩:=ur0 hj;have hl:=r.length;have hn:=line63;have I':Inv X pins σ (upd H p (.lst (xs.set j v))) { s with heap:=s.heap.update p (Obj.mapSeq (·.setIfInBounds j u)) } :=
  I.lstUpd hp ho (uk7 its n j u) (r.set rv j) (by rw [List.length_set];exact hz) s.toks
 by_cases h0:0<=k
 ·have hk:k.toNat=j:=by
   rw [seqIndex_of h0 h4] at h1;exact Option.some.inj h1
  exact W.ki_setAt ho h0 (by omega) (by rw [List.size_toArray,<- hl];exact h4) (by rw [hk];exact ⟨_,I',q⟩)
 ·have hk:(k+(its.toArray.size:Int)).toNat=j:=by
   rw [seqIndex_neg (by omega) h3] at h1;rw [List.size_toArray,<- hl];exact Option.some.inj h1
  exact W.ki_setBack ho (by omega) (by rw [List.size_toArray,<- hl];exact h3) (by omega) (by rw [hk];exact ⟨_,I',q⟩)
theorem ud4 (lo hi:Option Int) (n:Nat):(sliceBounds lo hi none n).1=((HT.sIx n 0 lo:Nat):Int) /\ (sliceBounds lo hi none n).2.1=((HT.sIx n n hi:Nat):Int) /\ (sliceBounds lo hi none n).2.2=1:=by
 refine ⟨?_,?_,rfl⟩
 ·cases lo with
  | none=>simp [sliceBounds,HT.sIx]
  | some i =>
   simp only [sliceBounds,HT.sIx,Option.getD_none,show (1:Int) > 0 by decide,if_true]
   by_cases h:i < 0
   ·simp only [h,if_true] <;> omega
   ·simp only [h,if_false] <;> omega
 ·cases hi with
  | none=>simp [sliceBounds,HT.sIx]
  | some i =>
   simp only [sliceBounds,HT.sIx,Option.getD_none,show (1:Int) > 0 by decide,if_true]
   by_cases h:i < 0
   ·simp only [h,if_true] <;> omega
   ·simp only [h,if_false] <;> omega
theorem ua5 (its:List Value) (lo hi:Option Int):slicePick its.toArray lo hi none=((its.drop (HT.sIx its.length 0 lo)).take (HT.sIx its.length its.length hi - HT.sIx its.length 0 lo)).toArray:=by
 obtain ⟨h1,h2,h3⟩:=ud4 lo hi its.toArray.size;unfold slicePick;rw [h1,h2,h3];simp only [sliceRange_one,pick_run,List.size_toArray] <;> rfl
def rSlL (K:W.Frag):V->Option Int->Option Int->Hp->VK->Prop:=fun x lo hi H Q=>∃ a xs,x=.ref a /\ SqL K H a xs /\ ∀ p,H p=none->Q (.ref p) (upd H p (.lst (cutV xs lo hi)))
theorem sl_list:SlR X (rSlL X.K):=by
 intro pins s σ H x v vl vu lo hi sl Q I rx hs pl pu h;obtain ⟨a,xs,rfl,hx,q⟩:=h;cases rx;obtain ⟨its,r,ht,hz⟩:=I.list hx;have hlen:=r.length;refine ⟨"list",_,slot_list_getitem.lookup,ht.isList.typeIs,?_⟩;refine wpAny_getItem_list_slice ht.isList hs pl pu .none (by simp) ?_ (by rw [List.size_toArray] <;> omega);rw [ua5,<- hlen];refine ⟨.ref s.heap.objs.size,_,I.laid (t':=s.toks) (o:=.lst (cutV xs lo hi)) (fun b ob q=>Heap.get?_push_of_some _ q) (Nat.le_refl _) ?_,rfl,q _ (I.hok.fresh (Nat.le_refl _))⟩;exact ⟨Nat.le_trans (u85 xs lo hi) hz,_,0,(r.drop (HT.sIx xs.length 0 lo)).take (HT.sIx xs.length xs.length hi - HT.sIx xs.length 0 lo),Heap.get?_push_size _ rfl⟩
def u84:V->Bool
 | .non=>true
 | .bl _=>true
 | .int _=>true
 | .str _=>true
 | _=>false
def eqV:V->V->Bool
 | .non,.non=>true
 | .bl a,.bl b=>a == b
 | .bl a,.int b=>(if a then 1 else 0) == b
 | .int a,.bl b=>a == (if b then 1 else 0)
 | .int a,.int b=>a == b
 | .str a,.str b=>a == b
 | _,_=>false
theorem v38 {A:Around} {s:Shared} {y x:V} {u v:Value} (ry:RelV y u) (rx:RelV x v) (fy:u84 y=true) (fx:u84 x=true):SeqAt.EqAt A s u v (eqV y x):=by
 cases y with
 | non =>
  cases ry;cases x with
  | non=>cases rx;exact SeqAt.EqAt.same _
  | bl b=>cases rx;exact SeqAt.EqAt.none_bool b
  | int b=>obtain ⟨t,rfl⟩:=rx;exact SeqAt.EqAt.none_int b t
  | str b=>obtain ⟨t,rfl⟩:=rx;exact SeqAt.EqAt.none_str b t
  | _=>exact absurd (show false=true from fx) Bool.false_ne_true
 | bl a =>
  cases ry;cases x with
  | non=>cases rx;exact SeqAt.EqAt.bool_none a
  | bl b=>cases rx;exact SeqAt.EqAt.bool_bool a b
  | int b=>obtain ⟨t,rfl⟩:=rx;exact SeqAt.EqAt.bool_int a b t
  | str b=>obtain ⟨t,rfl⟩:=rx;exact SeqAt.EqAt.bool_str a b t
  | _=>exact absurd (show false=true from fx) Bool.false_ne_true
 | int a =>
  obtain ⟨t',rfl⟩:=ry;cases x with
  | non=>cases rx;exact SeqAt.EqAt.int_none a t'
  | bl b=>cases rx;exact SeqAt.EqAt.int_bool a t' b
  | int b=>obtain ⟨t,rfl⟩:=rx;exact SeqAt.EqAt.int_int a t' b t
  | str b=>obtain ⟨t,rfl⟩:=rx;exact SeqAt.EqAt.int_str a t' b t
  | _=>exact absurd (show false=true from fx) Bool.false_ne_true
 | str a =>
  obtain ⟨t',rfl⟩:=ry;cases x with
  | non=>cases rx;exact SeqAt.EqAt.str_none a t'
  | bl b=>cases rx;exact SeqAt.EqAt.str_bool a t' b
  | int b=>obtain ⟨t,rfl⟩:=rx;exact SeqAt.EqAt.str_int a t' b t
  | str b=>obtain ⟨t,rfl⟩:=rx;exact SeqAt.EqAt.str_str a t' b t
  | _=>exact absurd (show false=true from fx) Bool.false_ne_true
 | _=>exact absurd (show false=true from fy) Bool.false_ne_true
def eqU (x:V) (u:Value):Bool:=match u with
 | .none=>eqV .non x
 | .bool b=>eqV (.bl b) x
 | .int i _=>eqV (.int i) x
 | .str z _=>eqV (.str z) x
 | _=>false
theorem v37 {x y:V} {u:Value} (r:RelV y u) (f:u84 y=true):eqU x u=eqV y x:=by
 cases y with
 | non=>cases r;rfl
 | bl b=>cases r;rfl
 | int i=>obtain ⟨t,rfl⟩:=r;rfl
 | str z=>obtain ⟨t,rfl⟩:=r;rfl
 | _=>exact absurd (show false=true from f) Bool.false_ne_true
theorem uh2 {x:V}:∀ {xs:List V} {us:List Value},Vals xs us->xs.all u84=true->us.any (eqU x)=xs.any fun y=>eqV y x
 | _,_,.nil,_=>rfl
 | y::xs,u::us,.cons r t,f=>by
  rw [List.all_cons,Bool.and_eq_true] at f;rw [List.any_cons,List.any_cons,v37 r f.1,uh2 t f.2]
theorem ua7 {A:Around} {s:Shared} {x:V} {v:Value} (rx:RelV x v) (fx:u84 x=true):∀ {xs:List V} {us:List Value},Vals xs us->xs.all u84=true->∀ u ∈ us,SeqAt.EqAt A s u v (eqU x u)
 | _,_,.nil,_=>fun u hu=>by cases hu
 | y::xs,u::us,.cons r t,f=>fun u' hu=>by
  rw [List.all_cons,Bool.and_eq_true] at f
  rcases List.mem_cons.mp hu with rfl | hu
  ·rw [v37 r f.1];exact v38 r rx f.1 fx
  ·exact ua7 rx fx t f.2 u' hu
def inV (x:V) (xs:List V):Bool:=xs.any fun y=>eqV y x
def rIn (K:W.Frag) (neg:Bool):R2:=fun x y H Q=>∃ p xs,y=.ref p /\ (SqL K H p xs \/ SqT K H p xs) /\ u84 x=true /\ xs.all u84=true /\ Q (.bl (if neg then !inV x xs else inV x xs)) H
theorem ud9:OpR X (compareOp .NotIn) (rIn X.K true):=by
 intro pins s σ H x y v u Q I rx ry h;obtain ⟨p,xs,rfl,hq,fx,fs,q⟩:=h;cases ry
 rcases hq with hq | hq
 ·obtain ⟨its,r,pl,hz⟩:=I.list hq
  refine SeqAt.notIn_listAt (eqU x) pl.isList (fun w hw=>ua7 rx fx r fs w (by simpa using hw)) ⟨.bl _,H,I,rfl,?_⟩;rw [show its.toArray.any (eqU x)=its.any (eqU x) by simp,uh2 r fs];exact q
 ·obtain ⟨its,r,pl,hz⟩:=I.tuple hq
  refine SeqAt.notIn_tupleAt (eqU x) pl (fun w hw=>ua7 rx fx r fs w (by simpa using hw)) ⟨.bl _,H,I,rfl,?_⟩;rw [show its.toArray.any (eqU x)=its.any (eqU x) by simp,uh2 r fs];exact q
theorem call_len_seq:CallR X (.builtin "len") (fun xs H Q=>∃ p ys,xs=[.ref p] /\ (SqL X.K H p ys \/ SqT X.K H p ys) /\ Q (.int ys.length) H):=by
 intro pins s σ H xs us Q I r h;obtain ⟨p,ys,rfl,hq,q⟩:=h;obtain ⟨u,rfl,rx⟩:=vals1 r;cases rx;have hn:=line63
 rcases hq with hq | hq
 ·obtain ⟨its,r',pl,hz⟩:=I.list hq
  have hlen:=r'.length;exact Calls.call_len_list pl.isList (by simp only [List.size_toArray] <;> omega) ⟨.int ys.length,H,I.tok _,⟨s.toks+1,by rw [List.size_toArray,hlen]⟩,q⟩
 ·obtain ⟨its,r',pl,hz⟩:=I.tuple hq
  have hlen:=r'.length;exact len_tuple pl (by simp only [List.size_toArray] <;> omega) ⟨.int ys.length,H,I.tok _,⟨s.toks+1,by rw [List.size_toArray,hlen]⟩,q⟩
theorem ue9:CallR X (.builtin "len") (fun xs H Q=>∃ z,xs=[.str z] /\ z.length<=sizeLine /\ Q (.int z.length) H):=by
 intro pins s σ H xs us Q I r h;obtain ⟨z,rfl,hz,q⟩:=h;obtain ⟨u,rfl,t,rfl⟩:=vals1 r;have hn:=line63;exact len_str (by omega) ⟨.int z.length,H,I.tok _,⟨_,rfl⟩,q⟩
theorem CallR.or {f:Value} {r r':List V->Hp->VK->Prop} (h:CallR X f r) (h':CallR X f r'):CallR X f (fun xs H Q=>r xs H Q \/ r' xs H Q):=by
 intro pins s σ H xs us Q I rs q
 rcases q with q | q
 ·exact h pins s σ H xs us Q I rs q
 ·exact h' pins s σ H xs us Q I rs q
theorem ue8:CallR X (.type "list") (fun xs H Q=>∃ p ys,xs=[.ref p] /\ (SqL X.K H p ys \/ SqT X.K H p ys) /\ ∀ l,H l=none->Q (.ref l) (upd H l (.lst ys))):=by
 intro pins s σ H xs us Q I r h;obtain ⟨p,ys,rfl,hq,q⟩:=h;obtain ⟨u,rfl,rx⟩:=vals1 r;cases rx;have fin:∀ (its:List Value),Vals ys its->ys.length<=sizeLine->∀ (h':Heap) (c':Nat),(∀ b o',s.heap.get? b=some o'->h'.get? b=some o') ->
   h'.get? s.heap.objs.size=some { cls:=.type "list",dict:=none,data:=.seq its.toArray c',slots:=#[] }->EP X pins σ Q (.ref s.heap.objs.size) { s with heap:=h' }:=fun its r' hz h' c' kp e =>
  ⟨.ref s.heap.objs.size,_,I.laid (t':=s.toks) kp (Nat.le_refl _) (show ObjOk X.prog X.w _ h' _ (.lst ys) from ⟨hz,its,c',r',e⟩),rfl,q _ (I.hok.fresh (Nat.le_refl _))⟩
 rcases hq with hq | hq
 ·obtain ⟨its,r',pl,hz⟩:=I.list hq
  have hlen:=r'.length;obtain ⟨o,ho,hc,n,hd⟩:=pl.isList;exact call_list_seq p (.inl rfl) ho hc hd (fun h' c' kp e=>fin its r' hz h' c' kp e) (by simp only [List.size_toArray] <;> omega)
 ·obtain ⟨its,r',pl,hz⟩:=I.tuple hq
  have hlen:=r'.length;obtain ⟨o,ho,hc,n,hd⟩:=pl;exact call_list_seq p (.inr rfl) ho hc hd (fun h' c' kp e=>fin its r' hz h' c' kp e) (by simp only [List.size_toArray] <;> omega)
def tyV (K:W.Frag) (T:String) (x:V) (H:Hp):Prop:=match x with
 | .str _=>T = "str"
 | .int _=>T = "int"
 | .ref p=>(T = "list" /\ ∃ xs,SqL K H p xs) \/ (T = "tuple" /\ ∃ o,K.lookup p=some o /\ o.cls=.type "tuple" /\ o.dict=none) \/
   (T = "dict" /\ ((∃ kvs,H p=some (.dK kvs)) \/ ∃ kvs,H p=some (.dT kvs))) \/ (T = "set" /\ ∃ S n,H p=some (.set S n))
 | _=>False
theorem v15 {pins:List (Addr × Obj)} {σ:St} {H:Hp} {s:Shared} {T:String} {x:V} {v:Value} (I:Inv X pins σ H s) (r:RelV x v) (ty:tyV X.K T x H) :
  s.TypeIs v T /\ ∀ a,v=.ref a->∃ ob,s.heap.get? a=some ob /\ ob.dict=none:=by
 cases x with
 | str z =>
  obtain ⟨t,rfl⟩:=r;cases (show T = "str" from ty);exact ⟨typeIs_str s z t,fun _ e=>nomatch e⟩
 | int i =>
  obtain ⟨t,rfl⟩:=r;cases (show T = "int" from ty);exact ⟨typeIs_int s i t,fun _ e=>nomatch e⟩
 | ref p =>
  cases r
  rcases ty with ⟨rfl,xs,hq⟩ | ⟨rfl,o,hk,hc,hd⟩ | ⟨rfl,hk⟩ | ⟨rfl,S,n,hk⟩
  ·obtain ⟨its,_,pl,_⟩:=I.list hq
   refine ⟨pl.isList.typeIs,fun a e=>?_⟩;cases e;obtain ⟨o,n,e,c,hd,_⟩:=pl;exact ⟨o,e,hd⟩
  ·refine ⟨⟨o,I.kIn p o hk,hc⟩,fun a e=>?_⟩
   cases e;exact ⟨o,I.kIn _ o hk,hd⟩
  ·have z:∃ o,s.heap.get? p=some o /\ o.ExactDict:=by
    rcases hk with ⟨kvs,hk⟩ | ⟨kvs,hk⟩
    ·obtain ⟨_,_,_,_,o,_,_,e,ex,_⟩:=I.hok p _ hk
     exact ⟨o,e,ex⟩
    ·obtain ⟨_,_,_,_,o,_,_,e,ex,_⟩:=I.hok p _ hk
     exact ⟨o,e,ex⟩
   obtain ⟨o,e,ex⟩:=z;refine ⟨⟨o,e,ex.1⟩,fun a e2=>?_⟩;cases e2;exact ⟨o,e,ex.2.1⟩
  ·obtain ⟨o,_,_,_,e,ex,_⟩:=I.hok p _ hk
   refine ⟨⟨o,e,ex.1⟩,fun a e2=>?_⟩;cases e2;exact ⟨o,e,ex.2.1⟩
 | _=>exact False.elim ty
def tBM0 (K:W.Frag) (T:String) (r:V->List V->Hp->VK->Prop) (to:TE):TE:=fun σ H Q=>to σ H fun x H1=>tyV K T x H1 /\ r x [] H1 Q
def tBM (K:W.Frag) (T:String) (r:V->List V->Hp->VK->Prop) (to:TE) (t:TA):TE:=fun σ H Q=>to σ H fun x H1=>tyV K T x H1 /\ t σ H1 fun xs H2=>r x xs H2 Q
variable {o e:Expr} {es:List Expr} {to:TE} {t:TA} {name:Str} {apos cpos:Pos} {T id:String} {r:V->List V->Hp->VK->Prop}
theorem v25 (pa:PlainAttrs T) (slot:Slot T name id) (hty:typeOf (.builtin id)=pure (.type "method_descriptor")) (hm:MtR X id r) (ho:PE X o to)
  (hbase:attributeBase o name X.env (eval o X.env)=eval o X.env:=by rfl) (hline:(apos.endLine == cpos.line)=true:=by rfl):PE X (.Call (.Attribute o name apos) [] [] cpos) (tBM0 X.K T r to):=by
 intro pins s σ H Q I h
 (refine wpAny_Call_method0_late hbase hline (thn (ho pins s σ H _ I h) ?_);rintro v s1 ⟨x,H1,I1,r1,ty,q1⟩)
 obtain ⟨h1,h2⟩:=v15 I1 r1 ty;exact ⟨T,id,pa,slot,hty,h1,h2,Calls.callWith_builtin rfl (PySem.evalArgs_none (hm pins s1 σ H1 x [] v [] Q I1 r1 .nil q1))⟩
theorem vu9 (pa:PlainAttrs T) (slot:Slot T name id) (hty:typeOf (.builtin id)=pure (.type "method_descriptor")) (hm:MtR X id r) (ho:PE X o to) (ha:PA X (e::es) t)
  (hbase:attributeBase o name X.env (eval o X.env)=eval o X.env:=by rfl)
  (hfew:((backTo cpos (starEach (e::es) X.env)).all (fun x=>!x.1) && (backToKw cpos (keywordEach [] X.env)).all (fun x=>x.1.isSome)
   && decide ((e::es).length+([]:List Keyword).length+(if ([]:List Keyword).isEmpty then 0 else 1) < 30))=true:=by rfl)
  (hline:(apos.endLine == cpos.line)=true:=by rfl) (hs:starEach (e::es) X.env=(false,eval e X.env)::starEach es X.env:=by rfl) (hplain:(backTo cpos (starEach es X.env)).any (·.1)=false:=by rfl) :
  PE X (.Call (.Attribute o name apos) (e::es) [] cpos) (tBM X.K T r to t):=by
 intro pins s σ H Q I h
 (refine wpAny_Call_method_late hbase hfew hline rfl (thn (ho pins s σ H _ I h) ?_);rintro v s1 ⟨x,H1,I1,r1,ty,q1⟩)
 obtain ⟨h1,h2⟩:=v15 I1 r1 ty;refine ⟨T,id,pa,slot,hty,h1,h2,?_⟩;have hA:=ha cpos pins s1 σ H1 _ I1 q1;rw [hs] at hA ⊢;refine Calls.callWith_builtin (by show (false || (backTo cpos (starEach es X.env)).any (·.1))=false;rw [hplain] <;> rfl) (Calls.evalArgs_plain ?_)
 (refine thn hA ?_;rintro us s2 ⟨vs,H2,I2,r2,q2⟩;exact hm pins s2 σ H2 x vs v us Q I2 r1 r2 q2)
/- xs.append(e),list.index on a module's tuple .. are MtR facts of 06m -/
end
def MtM (X:Cx) (id:String) (r:V->List V->Hp->VK->Prop):Prop :=
 ∀ (pins:List (Addr × Obj)) (s:Shared) (σ:St) (H:Hp) (x:V) (xs:List V) (v:Value) (us:List Value) (Q:VK),Inv X pins σ H s->RelV x v->Vals xs us->r x xs H Q ->
  wpAny (model X.prog X.w) X.A (call (.builtin id) (v::us)) (EP X pins σ Q) X.xe s
theorem Vals.one:∀ {x:V} {us:List Value},Vals [x] us->∃ u,us=[u] /\ RelV x u
 | _,_,.cons r .nil=>⟨_,rfl,r⟩
theorem Vals.two:∀ {x y:V} {us:List Value},Vals [x,y] us->∃ u v,us=[u,v] /\ RelV x u /\ RelV y v
 | _,_,_,.cons r (.cons q .nil)=>⟨_,_,rfl,r,q⟩
theorem Vals.zero:∀ {us:List Value},Vals [] us->us=[]
 | _,.nil=>rfl
theorem Vals.dropLast {xs:List V} {us:List Value} (h:Vals xs us):Vals xs.dropLast us.dropLast:=by
 induction h with
 | nil=>exact .nil
 | cons r t ih =>
  cases t with
  | nil=>exact .nil
  | cons q t'=>exact .cons r ih
theorem Vals.eraseIdx:∀ {xs:List V} {us:List Value} (i:Nat),Vals xs us->Vals (xs.eraseIdx i) (us.eraseIdx i)
 | _,_,_,.nil=>.nil
 | _,_,0,.cons _ t=>t
 | _,_,i+1,.cons r t=>.cons r (Vals.eraseIdx i t)
theorem Vals.reverse {xs:List V} {us:List Value} (h:Vals xs us):Vals xs.reverse us.reverse:=by
 induction h with
 | nil=>exact .nil
 | cons r t ih=>rw [List.reverse_cons,List.reverse_cons];exact Vals.append ih (.cons r .nil)
theorem Vals.rep {xs:List V} {us:List Value} (h:Vals xs us):∀ k:Nat,Vals (List.replicate k xs).flatten (List.replicate k us).flatten
 | 0=>.nil
 | k+1=>by
  rw [List.replicate_succ,List.replicate_succ,List.flatten_cons,List.flatten_cons];exact Vals.append h (Vals.rep h k)
theorem ul4 {α:Type} (l:List α):l.eraseIdx (l.length - 1)=l.dropLast:=by
 induction l with
 | nil=>rfl
 | cons a r ih =>
  cases r with
  | nil=>rfl
  | cons b r =>
   have e:(a::b::r).length - 1=((b::r).length - 1)+1:=by
    have h1:(a::b::r).length=r.length+2:=rfl;have h2:(b::r).length=r.length+1:=rfl;omega
   rw [e,List.eraseIdx_cons_succ,ih]
   all_goals rfl
theorem foldl_rep (its:List Value):∀ (k:Nat) (acc:List Value),
  List.foldl (fun x1 x2=>x1++x2) acc.toArray (List.replicate k its.toArray)=(acc++(List.replicate k its).flatten).toArray
 | 0,acc=>by simp
 | k+1,acc=>by
  have e:acc.toArray++its.toArray=(acc++its).toArray:=by simp
  have e2:(acc++its)++(List.replicate k its).flatten=acc++(List.replicate (k+1) its).flatten:=by
   rw [List.replicate_succ,List.flatten_cons,List.append_assoc]
  rw [<- e2,<- foldl_rep its k (acc++its),<- e,List.replicate_succ,List.foldl_cons]
section
variable {X:Cx} {pins:List (Addr × Obj)} {σ:St} {H:Hp} {s:Shared} {l b:Addr} {xs ys zs:List V}
theorem Inv.lset {its its':List Value} {n:Nat} {f:Array Value->Array Value} {t':Nat} (I:Inv X pins σ H s) (hH:H l=some (.lst xs))
  (e:s.heap.get? l=some { cls:=.type "list",data:=.seq its.toArray n }) (hf:f its.toArray=its'.toArray) (hv:Vals ys its') (hz:ys.length<=sizeLine) :
  Inv X pins σ (upd H l (.lst ys)) { s with heap:=s.heap.update l (Obj.mapSeq f),toks:=t' }:=by
 have q:=PySem.IsL.update e f;rw [hf] at q;refine I.write (x:=l) (e:=l) (by rw [hH];exact trivial) (.inl rfl) (fun b' u hb hu=>(Heap.get?_update_other s.heap (Obj.mapSeq f) (Ne.symm hb)).trans hu) ⟨_,q⟩ ?_;exact ⟨hz,its',_,hv,q⟩
theorem Inv.lnew {its:List Value} {t':Nat} (I:Inv X pins σ H s) (hv:Vals ys its) (hz:ys.length<=sizeLine) :
  Inv X pins σ (upd H s.heap.objs.size (.lst ys)) { s with heap:=s.heap.push { cls:=.type "list",data:=.seq its.toArray },toks:=t' } :=
 I.laid (fun _ _ q=>Heap.get?_push_of_some _ q) (Nat.le_refl _) ⟨hz,its,0,hv,Heap.get?_push_size _ rfl⟩
theorem Inv.fresh (I:Inv X pins σ H s):H s.heap.objs.size=none:=I.hok.fresh (Nat.le_refl _)
theorem Inv.lstM (I:Inv X pins σ H s) (hH:H l=some (.lst xs)):xs.length<=sizeLine /\ ∃ (its:List Value) (n:Nat),Vals xs its /\ xs.length=its.length /\ s.heap.get? l=some { cls:=.type "list",data:=.seq its.toArray n }:=by
 obtain ⟨z,its,n,r,e⟩:=I.hok l _ hH;exact ⟨z,its,n,r,r.length,e⟩
theorem ui3 {n:Nat} (h:n<=sizeLine):Builtin.List.listTooLong n=false:=by
 unfold Builtin.List.listTooLong;exact decide_eq_false (by omega)
end
section
variable {X:Cx}
def v70:V->List V->Hp->VK->Prop:=fun x vs H Q=>∃ l xs y,x=.ref l /\ vs=[y] /\ H l=some (.lst xs) /\ xs.length < sizeLine /\ Q .non (upd H l (.lst (xs++[y])))
theorem ue1:MtM X "list.append" v70:=by
 intro pins s σ H x vs v us Q I rx rv h;obtain ⟨l,xs,y,rfl,rfl,hH,hz,q⟩:=h;cases rx;obtain ⟨u,rfl,ru⟩:=rv.one;obtain ⟨z,its,n,r,hl,e⟩:=I.lstM hH;refine call_meets F.slot_list_append ⟨_,e,rfl⟩ F.entry_list_append (F.args_list_append_2 _ _) (PySem.list_append l its.toArray n u (by rw [List.size_toArray];omega)) ⟨e,?_⟩;refine ⟨.non,_,I.lset (its':=its++[u]) hH e (by simp) (r.append (.cons ru .nil)) ?_,rfl,q⟩;rw [List.length_append,List.length_singleton];omega
def v69:V->List V->Hp->VK->Prop:=fun x vs H Q=>∃ l b xs zs,x=.ref l /\ vs=[.ref b] /\ H l=some (.lst xs) /\ H b=some (.lst zs) /\ xs.length+zs.length<=sizeLine /\ Q .non (upd H l (.lst (xs++zs)))
theorem vn2:MtM X "list.extend" v69:=by
 intro pins s σ H x vs v us Q I rx rv h;obtain ⟨l,b,xs,zs,rfl,rfl,hH,hB,hz,q⟩:=h;cases rx;obtain ⟨u,rfl,ru⟩:=rv.one;cases ru;obtain ⟨z,its,n,r,hl,e⟩:=I.lstM hH;obtain ⟨z2,its2,n2,r2,hl2,e2⟩:=I.lstM hB;have hsz:its.toArray.size+its2.toArray.size<=sizeLine:=by rw [List.size_toArray,List.size_toArray];omega
 have hlong:¬ (!its.toArray.isEmpty && Builtin.List.listTooLong (its.toArray.size+its2.toArray.size))=true:=by
  rw [ui3 hsz,Bool.and_false];exact Bool.false_ne_true
 refine call_meets F.slot_list_extend ⟨_,e,rfl⟩ F.entry_list_extend (F.args_list_extend_2 _ _)
  (AutoSeq1.list_extend_list_list_0 l its.toArray n b its2.toArray n2 hlong (by rw [List.size_toArray];omega) (by omega)) ⟨e,e2,?_⟩
 refine ⟨.non,_,I.lset (its':=its++its2) hH e (by simp) (r.append r2) ?_,rfl,q⟩;rw [List.length_append];omega
def rPop:V->List V->Hp->VK->Prop:=fun x vs H Q=>∃ l xs y,x=.ref l /\ vs=[] /\ H l=some (.lst xs) /\ xs[xs.length - 1]?=some y /\ Q y (upd H l (.lst xs.dropLast))
theorem vn1:MtM X "list.pop" rPop:=by
 intro pins s σ H x vs v us Q I rx rv h;obtain ⟨l,xs,y,rfl,rfl,hH,hy,q⟩:=h;cases rx;have hus:=rv.zero;subst hus;obtain ⟨z,its,n,r,hl,e⟩:=I.lstM hH;obtain ⟨u,hu,ru⟩:=r.get hy;have hy':its.toArray[its.toArray.size - 1]?=some u:=by
  show its.toArray[its.length - 1]?=some u
  rw [<- Array.getElem?_toList,<- hl];exact hu
 refine call_meets F.slot_list_pop ⟨_,e,rfl⟩ F.entry_list_pop (F.args_list_pop_1 _) (MeetsSeq.list_pop_last l its.toArray n u hy' (by rw [List.size_toArray];omega)) ⟨e,?_⟩;refine ⟨y,_,I.lset (its':=its.dropLast) hH e ?_ r.dropLast ?_,ru,q⟩
 ·show its.toArray.eraseIdxIfInBounds (its.toArray.size - 1)=its.dropLast.toArray
  rw [List.size_toArray,List.eraseIdxIfInBounds_toArray,ul4]
 ·rw [List.length_dropLast]
  omega
def vh9:V->List V->Hp->VK->Prop:=fun x vs H Q=>∃ l xs,x=.ref l /\ vs=[] /\ H l=some (.lst xs) /\ Q .non (upd H l (.lst []))
theorem uw4:MtM X "list.clear" vh9:=by
 intro pins s σ H x vs v us Q I rx rv h;obtain ⟨l,xs,rfl,rfl,hH,q⟩:=h;cases rx;have hus:=rv.zero;subst hus;obtain ⟨z,its,n,r,hl,e⟩:=I.lstM hH;refine call_meets F.slot_list_clear ⟨_,e,rfl⟩ F.entry_list_clear (F.args_list_clear_1 _) (AutoSeq1.list_clear_list_0 l its.toArray n (by rw [List.size_toArray];omega)) ⟨e,?_⟩;exact ⟨.non,_,I.lset (its':=[]) (ys:=[]) hH e rfl .nil (Nat.zero_le _),rfl,q⟩
def rCat:R2:=fun x y H Q=>∃ l b xs zs,x=.ref l /\ y=.ref b /\ H l=some (.lst xs) /\ H b=some (.lst zs) /\ xs.length+zs.length<=sizeLine /\ ∀ p,H p=none->Q (.ref p) (upd H p (.lst (xs++zs)))
theorem vl3:OpR X (binaryOp .Add) rCat:=by
 intro pins s σ H x y v u Q I rx ry h;obtain ⟨l,b,xs,zs,rfl,rfl,hH,hB,hz,q⟩:=h;cases rx;cases ry;obtain ⟨z,its,n,r,hl,e⟩:=I.lstM hH;obtain ⟨z2,its2,n2,r2,hl2,e2⟩:=I.lstM hB;refine PySem.P.add_list e e2 ?_ (by rw [List.size_toArray,List.size_toArray];omega);have ea:its.toArray++its2.toArray=(its++its2).toArray:=by simp
 rw [ea];exact ⟨.ref _,_,I.lnew (t':=s.toks) (r.append r2) (by rw [List.length_append];omega),rfl,q _ I.fresh⟩
def rRep:R2:=fun x y H Q=>∃ l k xs,x=.ref l /\ y=.int k /\ H l=some (.lst xs) /\ -(2 ^ 63)<=k /\ k < 2 ^ 63 /\ xs.length * k.toNat<=sizeLine /\
 ∀ p,H p=none->Q (.ref p) (upd H p (.lst (List.replicate k.toNat xs).flatten))
theorem len_rep {α:Type} (xs:List α) (k:Nat):(List.replicate k xs).flatten.length=k * xs.length:=by
 induction k with
 | zero=>simp
 | succ k ih=>rw [List.replicate_succ,List.flatten_cons,List.length_append,ih,Nat.succ_mul,Nat.add_comm]
theorem vk8:OpR X (binaryOp .Mult) rRep:=by
 intro pins s σ H x y v u Q I rx ry h;obtain ⟨l,k,xs,rfl,rfl,hH,h1,h2,hz,q⟩:=h;cases rx;obtain ⟨t,rfl⟩:=ry;obtain ⟨z,its,n,r,hl,e⟩:=I.lstM hH;have hlen:its.toArray.size * k.toNat<=sizeLine:=by rw [List.size_toArray,<- hl];exact hz
 have hcap:¬ its.toArray.size * k.toNat > (2 ^ 63 - 1) / 8:=by
  have:(sizeLine:Nat)<=(2 ^ 63 - 1) / 8:=by decide
  omega
 have hfit:¬ (!Builtin.List.listFitsIndex k)=true:=by
  rw [fitsIndex_both h1 h2];exact Bool.false_ne_true
 have hlong:¬ Builtin.List.listTooLong (its.toArray.size * k.toNat)=true:=by
  rw [ui3 hlen];exact Bool.false_ne_true
 have hnew:List.foldl (fun x1 x2=>x1++x2) #[] (List.replicate (if its.toArray.isEmpty=true then 0 else k.toNat) its.toArray)=(List.replicate k.toNat its).flatten.toArray:=by
  have f0:∀ m:Nat,List.foldl (fun x1 x2=>x1++x2) #[] (List.replicate m its.toArray)=(List.replicate m its).flatten.toArray:=fun m=>by
   have:=foldl_rep its m [];rw [List.nil_append] at this;exact this
  rw [f0];cases its with
  | nil=>simp
  | cons a r'=>rw [if_neg (by simp)]
 refine wpAny_binaryOp_repeat_ref (T := "list") (U := "int") (by decide) ⟨_,e,rfl⟩ (fun s'=>typeIs_int s' k t) noFill_list_mul F.fills_int_mul F.slot_int_rmul repeat_list F.slot_int_index.lookup
  (call_meets F.slot_int_rmul (typeIs_int s k t) F.entry_int_rmul (F.args_int_rmul_2 _ _) (int___rmul___int_list k t l its.toArray n)
   ⟨e,rfl,⟨_,e,rfl⟩,call_meets F.slot_list_mul ⟨_,e,rfl⟩ F.entry_list_mul (F.args_list_mul_2 _ _) (AutoListH.list___mul___list_int_3 l its.toArray n k t hfit hcap hlong) ⟨e,?_⟩⟩)
 rw [hnew];exact ⟨.ref _,_,I.lnew (t':=s.toks) (r.rep k.toNat) (by rw [len_rep,Nat.mul_comm];exact hz),rfl,q _ I.fresh⟩
end
end L2
namespace Att
open PySem PySem.W PySem.Calls PyProof.Rows
theorem u81 {P:Params} {h:Heap}:∀ (ns:List Int) (vs:List Value),WellAll P h vs (ns.map WData.int)->IntsAre vs ns:=by
 intro ns
 induction ns with
 | nil =>
  intro vs w;rw [List.map_nil] at w;cases w;exact .nil
 | cons n ns ih =>
  intro vs w;rw [List.map_cons] at w;cases w with
  | cons a b =>
   cases a;exact .cons _ _ (ih _ b)
theorem un1 {l:OpenLaw} {n:Nat} (hn:l.most=some n) {P:Params} {h:Heap} {args:List WData} {vals:List Value}
  (hpre:l.row.toRowW.claim.pre args=true) (hwl:WellAll P h vals args) :
  ∃ a vs ns,vals=[Value.ref a] /\ args=[WData.list (ns.map WData.int)] /\ h.get? a=some { cls:=.type "list",data:=.seq vs.toArray } /\ IntsAre vs ns /\ ns.length<=n:=by
 have hsh:WShape.hasAll [] args [.list .int]=true:=(pre_splitW hpre).1;have hc:l.pre.holds [] { args:=args }=true:=(pre_splitW hpre).2;obtain ⟨d,r,rfl,h1,h2⟩:=hasAllW_cons hsh;obtain rfl:=hasAllW_nil h2;obtain ⟨xs,rfl,h3⟩:=hasW_list h1;obtain ⟨ns,rfl⟩:=items_int h3;have hlen:ns.length<=n:=by
  unfold OpenLaw.pre at hc;have h4:(WTm.not (.lt (.lit (.int (n:Int))) (.len (.arg 0)))).holds [] { args:=[.list (ns.map .int)] }=true:=by
   have h4:=(holds_andW hc).1;rw [hn] at h4;exact h4
  have h5:=condW_of h4 (w_not (w_lt w_lit (w_len_list (w_arg rfl))));rw [List.length_map] at h5;refine Nat.le_of_not_lt fun q=>?_
  have q':(n:Int) < ((ns.length:Nat):Int):=by omega
  first
   | (rw [decide_eq_true q'] at h5;exact absurd h5 (by decide))
   | (simp at h5;omega)
 cases hwl with
 | cons w1 w2 =>
  cases w2;cases w1 with
  | list ho hall=>exact ⟨_,_,ns,rfl,rfl,ho,u81 ns _ hall,hlen⟩
theorem un9 (l:OpenLaw) (args:List WData):l.row.toRowW.claim.post args (.bool true) args=true :=
 postW_of (r:=l.row.toRowW) (X:=(true == true))
  (show WShape.has [] (.bool true) .bool=true by first | rfl | decide | simp [WShape.has,WShape.arms,WShape.armsAll])
  (show (WTm.eq .res (.lit (.bool true))).value [] { args:=args,res:=some (.bool true),after:=args }=some (.bool (true == true)) from w_eq_bool (w_res rfl) w_lit) rfl
theorem attach_call {l:OpenLaw} {n:Nat} {q:Program} {loose:List Str} {XP:(Str->Option Value)->Heap->Prop} {YP:World->Heap->Prop} {d:DefRec}
  (hn:l.most=some n) (hdf:d.params.defaults=[])
  (call:∀ (w:World) (s₀ s₁:Shared) (mg mb:Str->Option Value) (fa:Addr) (o:Obj) (pm cd doc:Value) (a:Addr) (vs:List Value) (ns:List Int),
   Ground q loose [] XP w s₀ mg mb s₁.heap->YP w s₁.heap ->
   s₁.heap.get? fa=some o->o.data=.func (docDef d.name d.params d.body d.scope pm cd doc)->s₁.heap.CodeRec cd d.name->mg d.name=some (.ref fa) ->
   s₁.heap.get? a=some { cls:=.type "list",data:=.seq vs.toArray }->IntsAre vs ns->ns.length<=n->s₁.gens=#[] ->
   codeAny (model l.prog w) callerA (.call (.ref fa) ⟨[.ref a],[]⟩) (fun r s'=>r=.ok (.ret (.bool true)) /\ OldK s₁.heap s'.heap /\ s'.os=s₁.os /\ AllBare s'.gens) s₁) :
  WalkO q loose XP YP l.row.toRowW d [] (fun f vs=>PySem.call f vs):=by
 intro w s₀ s₁ mg mb G Y fa o pm cd doc dV kV ho hd hcd hD hmg hg args vals as hpre hlay hrd hwl hlo;obtain rfl:dV=.none:=Dflts.none hD hdf;obtain rfl:kV=.none:=Dflts.noKw hD;obtain ⟨a,vs,ns,rfl,rfl,hobj,hints,hlen⟩:=un1 hn hpre hwl;refine enter_call (codeAny_mono (call w s₀ s₁ mg mb fa o pm cd doc a vs ns G Y ho (fd_plain hd) hcd hmg hobj hints hlen hg) fun r s' hq=>?_);obtain ⟨rfl,h2,h3,h4⟩:=hq;exact ⟨.inl ⟨.bool true,.bool true,[],rfl,fun _=>rfl,.bool true,un9 l _,fun _=>⟨List.Pairwise.nil,fun _ hm=>(nomatch hm)⟩⟩,h2,h3,h4⟩
end Att
namespace L2
open PySem PySem.Spec PyProof.Rows
theorem u54:∀ {vs:List Value} {ns:List Int},IntsAre vs ns->Vals (ns.map V.int) vs
 | _,_,.nil=>.nil
 | _,_,.cons n t h=>.cons ⟨t,rfl⟩ (u54 h)
def Only (H:Hp):Prop:=∀ b,H b=none \/ ∃ o xs,H b=some (.frz o (.lst xs))
theorem uy0 {P:Program} {w:World} {K:W.Frag} {mg mb:Str->Option Value} {CX:CXT} {k:Nat} {fa a:Addr} {fd:FuncData} {x:Str} {sp:Sp} {s₁:Shared} {vs:List Value} {ns:List Int}
  (KX:K.In s₁.heap) (hns:s₁.heap.Ns mainGlobals mg) (hb:s₁.heap.Ns builtinsNs mb) (hbb:∀ x:Str,x ≠ "__name__" -> mb x=bootBuiltins x) (hlim:s₁.heap.NoLimit) (hg:s₁.gens=#[])
  (ha:s₁.heap.get? a=some { cls:=.type "list",data:=.seq vs.toArray }) (hi:IntsAre vs ns) (hl:ns.length<=sizeLine) (hr:Room k callerA)
  (F:∀ base:Heap,K.In base->base.Ns mainGlobals mg->FnOk P w K mg base CX k fa fd [x] sp) (hbind:∀ (s:Shared) (u:Value),BindsTo s fd ⟨[u],[]⟩ [(x,u)])
  (hsp:∀ H:Hp,Only H->SqL K H a (ns.map V.int)->sp [.ref a] H (fun v _=>v=.bl true) fun _ _ _=>False)
  (hCX:∀ H e s',CX [] H s₁ (fun _ _ _=>False) e s'->False) :
  codeAny (model P w) callerA (.call (.ref fa) ⟨[.ref a],[]⟩) (fun r s'=>r=.ok (.ret (.bool true)) /\ OldK s₁.heap s'.heap /\ s'.os=s₁.os /\ AllBare s'.gens) s₁:=by
 have rv:=u54 hi;have lenV:=hi.length;have core:∀ H:Hp,Only H->SqL K H a (ns.map V.int)->HOk P w H s₁.heap->(∀ b,H b ≠ none->b=a)->(H a ≠ none->K.lookup a=none) ->
   codeAny (model P w) callerA (.call (.ref fa) ⟨[.ref a],[]⟩) (fun r s'=>r=.ok (.ret (.bool true)) /\ OldK s₁.heap s'.heap /\ s'.os=s₁.os /\ AllBare s'.gens) s₁:=by
  intro H hO hS hok hA hK;have base_of:∀ {b:Addr} {o:Obj},s₁.heap.get? b=some o->H b=none->(hidT s₁.heap H).get? b=some o:=fun e n=>uy3 e n
  have noA:∀ {b:Addr} {o:Obj} {es:Array DictEntry} {ep:Nat},s₁.heap.get? b=some o->o.data=.dict es ep->H b=none:=fun {b o es ep} e d=>by
   cases q:H b with
   | none=>rfl
   | some u =>
    have e':b=a:=hA b (by rw [q];simp);subst e';rw [ha] at e;cases e;have d':Data.seq vs.toArray _=Data.dict es ep:=d;cases d'
  have nsK:∀ {b:Addr} {m:Str->Option Value},s₁.heap.Ns b m->(hidT s₁.heap H).Ns b m:=fun {b m} ⟨o,es,ep,e,d,r⟩=>⟨o,es,ep,base_of e (noA e d),d,r⟩
  have hKb:K.In (hidT s₁.heap H):=fun b o e=>base_of (KX b o e) (by
   cases q:H b with
   | none=>rfl
   | some u =>
    have e':b=a:=hA b (by rw [q];simp);subst e';rw [hK (by rw [q];simp)] at e;cases e)
  have hM:Mod K mg (hidT s₁.heap H):=⟨hKb,nsK hns,⟨mb,nsK hb,hbb⟩,let ⟨mc,h1,h2⟩:=hlim;⟨mc,nsK h1,h2⟩⟩;have e0:Env0 P w K mg (hidT s₁.heap H) callerA [] s₁ H:=⟨rfl,hM,fun b o e=>v92 e,Nat.le_of_eq (ur9 _ _),trivial,fun b hb=>absurd (show b ∈ ([]:List Addr) from hb) (by simp),hok,.of_eq hg⟩;refine codeAny_mono ((F _ hKb (nsK hns)).run callerA [] s₁ H ⟨[.ref a],[]⟩ [.ref a] [.ref a] _ _ hr e0 (hbind s₁ (.ref a)) (.cons rfl .nil) (hsp H hO hS)) fun r s' h=>?_
  cases r with
  | error e=>exact (hCX H e s' h).elim
  | ok fl =>
   cases fl with
   | next=>exact False.elim h
   | brk=>exact False.elim h
   | cont=>exact False.elim h
   | ret u =>
    obtain ⟨v,H',os,bare,un,hok',r',q⟩:=h;have q':v=.bl true:=q;subst q';obtain rfl:u=Value.bool true:=r';refine ⟨rfl,OldK.of_keep fun b o e=>?_,os,bare⟩;cases q:H b with
    | none=>exact un.keep b o e q (by intro z;exact absurd (show b ∈ ([]:List Addr) from z) (by simp)) (by simp)
    | some u =>
     rcases hO b with z | ⟨ob,xs,z⟩
     ·rw [q] at z;cases z
     ·have z2:=un.frzs b ob _ z
      obtain ⟨e1,_⟩:=hok b _ z;obtain ⟨e2,_⟩:=hok' b _ z2;rw [e] at e1;cases e1;exact e2
 cases hk:K.lookup a with
 | some o =>
  have e:=KX a o hk;rw [ha] at e;cases e;refine core (fun _=>none) (fun _=>.inl rfl) (.inr ⟨_,vs.toArray,_,hk,rfl,rfl,rfl,by rw [List.size_toArray,lenV];exact hl,by simpa using rv⟩) (fun b u z=>by have z':(none:Option HO)=some u:=z;cases z') (fun b z=>absurd rfl z) fun z=>absurd rfl z
 | none =>
  refine core (fun b=>if b=a then some (.frz { cls:=.type "list",data:=.seq vs.toArray } (.lst (ns.map V.int))) else none) (fun b=>?_) (.inl (.inr ⟨{ cls:=.type "list",data:=.seq vs.toArray },if_pos rfl⟩)) (fun b u z=>?_) (fun b z=>?_) fun _=>hk
  ·by_cases hb:b=a
   ·exact .inr ⟨_,_,if_pos hb⟩
   ·exact .inl (if_neg hb)
  ·by_cases hb:b=a
   ·have z':=(if_pos hb).symm.trans z
    cases z';subst hb;exact ⟨ha,by rw [List.length_map];exact hl,vs,_,rv,ha⟩
   ·have z':=(if_neg hb).symm.trans z
    cases z'
  ·by_cases hb:b=a
   ·exact hb
   ·exact absurd (if_neg hb) z
abbrev KOf {K:W.Frag} {h:Heap} (_:K.In h):W.Frag:=K
theorem walk_of {l:W.OpenLaw} {n k:Nat} {q:Program} {loose:List Str} {XP:(Str->Option Value)->Heap->Prop} {YP:World->Heap->Prop} {d:DefRec} {K:Params->W.Frag} {CX:World->CXT} {sp:World->Sp} {x:Str}
  (hn:l.most=some n) (hn2:n<=sizeLine) (hdf:d.params.defaults=[]) (hr:Room k callerA)
  (hY:∀ (w:World) (h:Heap),YP w h->(K w.params).In h)
  (F:∀ (w:World) (mg:Str->Option Value) (fa:Addr) (h:Heap),(K w.params).In h->h.Ns mainGlobals mg->mg d.name=some (.ref fa) ->
   ∃ fd:FuncData,(∀ (s:Shared) (u:Value),BindsTo s fd ⟨[u],[]⟩ [(x,u)]) /\
    ∀ base:Heap,(K w.params).In base->base.Ns mainGlobals mg->FnOk l.prog w (K w.params) mg base (CX w) k fa fd [x] (sp w))
  (hsp:∀ (w:World) (H:Hp) (a:Addr) (ns:List Int),ns.length<=n->Only H->SqL (K w.params) H a (ns.map V.int)->sp w [.ref a] H (fun v _=>v=.bl true) fun _ _ _=>False)
  (hCX:∀ (w:World) (H:Hp) (s:Shared) (e:Value) (s':Shared),CX w [] H s (fun _ _ _=>False) e s'->False) :
  W.WalkO q loose XP YP l.row.toRowW d [] (fun f vs=>PySem.call f vs):=by
 refine Att.attach_call hn hdf fun w s₀ s₁ mg mb fa o pm cd doc a vs ns G Y ho hd hcd hmg hobj hints hlen hg=>?_
 have KX:=hY w _ Y;obtain ⟨fd,hb,hF⟩:=F w mg fa _ KX G.T.g hmg;exact uy0 KX G.T.g G.T.b G.T.builtins G.T.nolimit hg hobj hints (Nat.le_trans hlen hn2) hr hF hb (fun H hO hS=>hsp w H a ns hlen hO hS) fun H e s'=>hCX w H s₁ e s'
end L2
/- THE LAST THEOREM (shape; LID,My.* are yours):
   My.Adr: a structure of the addresses that your layer names (classes,functions);My.Txt K t: a structure (Prop) of the equations over K;
   My.txt_mk:{K} {implicit addresses ..} (e1:nsIn K mainGlobals "law" = some (some (.ref f))) (e2:K.lookup f=some ⟨oc,od,.func (fnOf "law" "law" params body scope dV kV doc pm an cdv ct),sl⟩) (e3:codeIn K cdv "law" = true) ..:∃ t,My.Txt K t
set_option maxHeartbeats 0 in
theorem PySem.Challenge.cw_LID_holds:PySem.Challenge.rw_LID.Holds:=by
 w_on;o_law;k_head;(case hw=>w_witness2)
 k_fill
 refine L2.walk_of (l:=PySem.Challenge.rw_LID) (n:=63) (k:=40) (x := "script") (CX:=fun w=>..) (sp:=fun _=>My.sp_law) rfl (by decide) rfl ⟨rfl,by decide,by decide⟩ (fun w h Y=>W.kIn_of Y) ?F ?S ?C
 case F =>
  intro w mg fa h KX G hmg;have T:∃ t,My.Txt (L2.KOf KX) t:=by
   dsimp only [L2.KOf]                          -- K must stand as «<heap const> w.params» for k_is;refine' My.txt_mk ?e1 ?e2 ?e3 ..
   (case e1=>W.k_is)                    -- in the order: a name->its address->its object->its parts
   (case e2=>W.k_is)
   ..
  obtain ⟨t,T⟩:=T;have e0:=hmg.symm.trans (W.mg_of KX G T.law);cases e0                                       -- fa is the law's own address;exact ⟨_,fun s u=>.of_eq rfl,fun base kb nb=>My.law_fn T kb nb⟩     -- if «.of_eq rfl» comes too early: refine' ⟨_,?b,fun base kb nb=>My.law_fn T kb nb⟩;exact fun s u=>.of_eq rfl
 case S=>exact fun w H a ns hl hO hS=>..
 case C=>exact ..
(the tactic k_is has no namespace: write k_is) -/
namespace L2
open PySem PySem.Spec PyProof.Rows
def u33 (s:Stmt):Arguments:=match s with
 | .FunctionDef _ a _ _ _ _ _ _ _ _=>a
 | _=>{ posonlyargs:=[],args:=[],vararg:=none,kwonlyargs:=[],kw_defaults:=[],kwarg:=none,defaults:=[] }
def u26 (s:Stmt):List Stmt:=match s with
 | .FunctionDef _ _ b _ _ _ _ _ _ _=>b
 | _=>[]
def u04 (s:Stmt):Scope:=match s with
 | .FunctionDef _ _ _ _ _ _ sc _ _ _=>sc
 | _=>{ kind:=.function,names:=[],isGenerator:=false,isCoroutine:=false }
abbrev CX0:CXT:=fun _ _ _ _ _ _=>False
abbrev E0:XK:=fun _ _ _=>False
theorem pass0 {X:Cx}:Passes CX0 X E0:=fun _ _ _ _ _ _ _ h=>h.elim
theorem vq1 {A:Around} {k:Nat} (hr:Room k A):A.units+1 < cLine:=Nat.lt_of_le_of_lt (Nat.add_le_add_left (by decide:1<=64) _) hr.units
def Same (H H':Hp):Prop:=∀ b o,H b=some o->H' b=some o
theorem Same.refl (H:Hp):Same H H:=fun _ _ h=>h
theorem Same.trans {H H1 H2:Hp} (a:Same H H1) (b:Same H1 H2):Same H H2:=fun c o h=>b c o (a c o h)
theorem Same.free {H H':Hp} (e:Same H H') {l:Addr} (h:H' l=Option.none):H l=Option.none:=by
 cases q:H l with
 | none=>rfl
 | some o =>
  rw [e l o q] at h;cases h
theorem Same.seq {K:W.Frag} {H H':Hp} {a:Addr} {xs:List V} (e:Same H H') (h:SqL K H a xs):SqL K H' a xs:=by
 rcases h with (h | ⟨o,h⟩) | h
 ·exact .inl (.inl (e _ _ h))
 ·exact .inl (.inr ⟨o,e _ _ h⟩)
 ·exact .inr h
theorem va9 {prog:Program} {w:World} {A:Around} {R:Result->Shared->Prop} {s:Shared} {elt target iter:Expr} {ifs:List Expr} {scope:Scope} {pos:Pos} {it acc:Value} {env:Env} (I:Nat->Shared->Prop)
  (turn:∀ n s,I n s->wpAny (model prog w) A (pyNext it) (fun r s₁=>match r with
   | none=>R (.ok .next) s₁
   | some v=>wpAny (model prog w) A (letOwnedTupleGo target it v) (fun _ s₁=>wpAny (model prog w) A (assign target env v) (fun _ s₂ =>
     wpAny (model prog w) A (forIn ifs true fun c r=>if r=true then do let ok <- isTrue c env (eval c env);pure (ForInStep.yield ok) else pure (ForInStep.yield r)) (fun ok s₃ =>
      if ok=true then wpAny (model prog w) A (eval elt env) (fun x s₄ =>
       wpAny (model prog w) A (call (.builtin "list.append") [acc,x]) (fun _ s₅=>∃ m,m < n /\ I m s₅) (fun _ _=>False) s₄) (fun _ _=>False) s₃
      else ∃ m,m < n /\ I m s₃) (fun _ _=>False) s₂) (fun _ _=>False) s₁) (fun _ _=>False) s₁) (fun _ _=>False) s)
  (n:Nat) (h:I n s) :
  codeAny (model prog w) A (.compLoop (.ListComp elt [⟨target,iter,ifs,0⟩] scope pos) 0 it acc env) R s:=by
 refine codeAny_loop rfl I (fun n s hI=>?_) n h
 show wpAny _ A ((compTurn (.ListComp elt [⟨target,iter,ifs,0⟩] scope pos) 0 it acc env).onRaise (fun x=>do noteFrame x env;theTreesLotGoes x)) _ _ s
 refine wpAny_noted ?_;rw [compTurn_list];refine wpAny_bind (wpAny_standAt (wpAny_bind (wpAny_mono (turn n s hI) (fun r s₁ h₁=>?_) fun _ _ h'=>h'.elim)));cases r with
 | none=>exact wpAny_pure h₁
 | some v =>
  refine wpAny_bind (wpAny_mono h₁ (fun _ s₂ h₂=>?_) fun _ _ h'=>h'.elim);refine wpAny_bind (wpAny_mono h₂ (fun _ s₂ h₂=>wpAny_bind (wpAny_mono h₂ (fun ok s₃ h₃=>?_) fun _ _ h'=>h'.elim)) fun _ _ h'=>h'.elim);cases ok with
  | false=>exact wpAny_pure ⟨rfl,h₃⟩
  | true =>
   exact wpAny_bind (wpAny_bind (wpAny_mono h₃ (fun x s₄ h₄=>wpAny_bind (wpAny_mono h₄ (fun _ s₅ h₅=>wpAny_pure (wpAny_pure ⟨rfl,h₅⟩)) fun _ _ h'=>h'.elim)) fun _ _ h'=>h'.elim))
def clOf (env:Env):List (Str × NameKind)->List (Str × Addr)->List (Str × Addr)
 | [],cs=>cs
 | (x,k)::r,cs=>clOf env r (if (k == .free)=true then (x,(env.cells.lookup x).getD 0)::cs else cs)
theorem ug9 {env:Env} {x:Str} {c:Addr} (h:env.cells.lookup x=some c):cellOf env x=pure c:=by
 unfold cellOf;rw [h]
theorem u99 {scope:Scope} {env:Env} (h:∀ y ∈ scope.names,y.2=.free->∃ c,env.cells.lookup y.1=some c):closureFor scope env=pure (clOf env scope.names []):=by
 have key:∀ (l:List (Str × NameKind)) (cs:List (Str × Addr)),(∀ y ∈ l,y.2=.free->∃ c,env.cells.lookup y.1=some c) ->
   (forIn l cs fun (y:Str × NameKind) r=>if (y.2 == NameKind.free)=true then do let c <- cellOf env y.1;pure (ForInStep.yield ((y.1,c)::r)) else pure (ForInStep.yield r):Sem (List (Str × Addr)))=pure (clOf env l cs):=by
  intro l
  induction l with
  | nil=>intro cs _;rfl
  | cons y r ih =>
   intro cs hl;obtain ⟨x,k⟩:=y;rw [List.forIn_cons]
   by_cases hk:k=.free
   ·subst hk
    obtain ⟨c,hc⟩:=hl (x,.free) List.mem_cons_self rfl;have e:((NameKind.free == NameKind.free):Bool)=true:=rfl;simp only [e,if_true,ug9 hc,pure_bind];rw [ih _ fun z hz=>hl z (List.mem_cons_of_mem _ hz)]
    show _=pure (clOf env r (if (NameKind.free == NameKind.free)=true then _ else _))
    rw [e,if_pos rfl,hc] <;> rfl
   ·have e:(k == NameKind.free)=false:=by simpa using hk
    simp only [e,Bool.false_eq_true,if_false,pure_bind];rw [ih _ fun z hz=>hl z (List.mem_cons_of_mem _ hz)]
    show _=pure (clOf env r (if (k == NameKind.free)=true then _ else _))
    rw [e,if_neg Bool.false_ne_true]
 have e:closureFor scope env=((forIn scope.names ([]:List (Str × Addr)) fun (y:Str × NameKind) r=>if (y.2 == NameKind.free)=true then do let c <- cellOf env y.1;pure (ForInStep.yield ((y.1,c)::r)) else pure (ForInStep.yield r):Sem (List (Str × Addr))) >>= fun cs=>pure cs):=rfl;rw [e,key scope.names [] h];rfl
theorem u86 {env:Env} {x:Str} {c:Addr}:∀ {l:List (Str × NameKind)} {cs:List (Str × Addr)},(∀ y ∈ l,y.2=.free->∃ c,env.cells.lookup y.1=some c)->(∀ x c,cs.lookup x=some c->env.cells.lookup x=some c) ->
  (clOf env l cs).lookup x=some c->env.cells.lookup x=some c
 | [],_,_,h,e=>h x c e
 | (y,k)::r,cs,hl,h,e=>by
  refine u86 (l:=r) (fun z hz=>hl z (List.mem_cons_of_mem _ hz)) (fun x c e=>?_) e
  by_cases hk:k=.free
  ·subst hk
   obtain ⟨d,hd⟩:=hl (y,.free) List.mem_cons_self rfl;rw [if_pos (show (NameKind.free == NameKind.free)=true from rfl),List.lookup_cons] at e;cases hx:x == y with
   | true=>rw [hx,hd] at e;cases e;rw [eq_of_beq hx];exact hd
   | false=>rw [hx] at e;exact h x c e
  ·rw [if_neg (by simpa using hk)] at e;exact h x c e
theorem ub9 {env:Env} {x:Str}:∀ {l:List (Str × NameKind)} {cs:List (Str × Addr)},((∃ c,cs.lookup x=some c) \/ (x,NameKind.free) ∈ l)->∃ c,(clOf env l cs).lookup x=some c
 | [],_,h=>by
  rcases h with h | h
  ·exact h
  ·simp at h
 | (y,k)::r,cs,h=>by
  refine ub9 (l:=r) ?_
  rcases h with ⟨c,h⟩ | h
  ·left
   by_cases hk:(k == NameKind.free)=true
   ·rw [if_pos hk,List.lookup_cons]
    cases hx:x == y with
    | true=>exact ⟨_,rfl⟩
    | false=>exact ⟨c,h⟩
   ·rw [if_neg hk];exact ⟨c,h⟩
  ·rcases List.mem_cons.mp h with e | h
   ·injection e with e1 e2
    subst e1;subst e2
    left
    rw [if_pos (show (NameKind.free == NameKind.free)=true from rfl),List.lookup_cons];simp
   ·exact .inr h
def u23 (X:Cx) (N':List Str) (scope:Scope) (C:Addr) (s:Shared) (H:Hp) (fp:List Addr):Cx :=
 { X with N:=N',s₀:=s,H₀:=H,env:=compEnvC scope (clOf X.env scope.names []) C X.env,outer:=X.stack,ex:=fp,fn:=fun _=>false,pn:=[],xe:=fun _ _=>False }
structure BlkOk (X:Cx) (N':List Str) (ix:List (Option Nat)) (scope:Scope):Prop where
 kind:scope.kind=.function
 nocell:∀ y ∈ scope.names,y.2 ≠ .cell
 names:∀ y ∈ scope.names,y.2=.local->scope.names.lookup y.1=some .local
 frees:∀ y ∈ scope.names,y.2=.free->X.env.kindOf y.1=some .cell \/ X.env.kindOf y.1=some .free
 len:ix.length=N'.length
 at_:∀ (i j:Nat) (x:Str),N'[i]?=some x->ix[i]?=some (some j)->X.N[j]?=some x /\ scope.names.lookup x=some .free
def inner (ix:List (Option Nat)) (σ:St):St:=ix.map fun o=>o.bind fun j=>(σ[j]?).bind id
def v55 (ix:List (Option Nat)) (wi:TI) (g:TG) (tc:TT) (te:TE):TE:=fun σ H Q=>wi σ H fun J H1=>∀ D,H1 D=none->∃ W:Nat->Nat->St->Hp->Prop,(∃ m,W 0 m (inner ix σ) (upd H1 D (.lst []))) /\ ∀ i m σi H,W i m σi H ->
 (J.stop i H /\ Q (.ref D) H) \/ (J.go i H /\ ∃ N:St->Hp->Prop,(∀ σ' H',N σ' H'->∃ m',m' < m /\ W (i+1) m' σ' H') /\ ∀ x H',J.yld i H x H'->g x σi H' fun σ2 H2=>tc σ2 H2 fun b H3 =>
  if b=true then te σ2 H3 fun v H4=>∃ ys,H4 D=some (.lst ys) /\ ys.length < sizeLine /\ N σ2 (upd H4 D (.lst (ys++[v]))) else N σ2 H3)
theorem u31 {env:Env} {x:Str}:∀ {names:List (Str × NameKind)},names.lookup x=some .free->(env.kindOf x=some .cell \/ env.kindOf x=some .free) ->
  (names.map fun (n,k)=>if (k == NameKind.free && env.scope.kind == .function && env.kindOf n == some .cell) then (n,NameKind.cell) else (n,k)).lookup x=some .cell \/
  (names.map fun (n,k)=>if (k == NameKind.free && env.scope.kind == .function && env.kindOf n == some .cell) then (n,NameKind.cell) else (n,k)).lookup x=some .free
 | [],h,_=>by simp at h
 | (n,k)::r,h,ho=>by
  cases hx:x == n with
  | true =>
   simp only [List.lookup_cons,hx] at h;cases h
   by_cases hc:(NameKind.free == NameKind.free && env.scope.kind == .function && env.kindOf n == some .cell)=true
   ·left
    show List.lookup x ((if (NameKind.free == NameKind.free && env.scope.kind == .function && env.kindOf n == some .cell)=true then (n,NameKind.cell) else (n,.free))::_)=_
    rw [if_pos hc];simp only [List.lookup_cons,hx]
   ·right
    show List.lookup x ((if (NameKind.free == NameKind.free && env.scope.kind == .function && env.kindOf n == some .cell)=true then (n,NameKind.cell) else (n,.free))::_)=_
    rw [if_neg hc];simp only [List.lookup_cons,hx]
  | false =>
   simp only [List.lookup_cons,hx] at h;have ih:=u31 (env:=env) h ho
   show List.lookup x ((if (k == NameKind.free && env.scope.kind == .function && env.kindOf n == some .cell)=true then (n,NameKind.cell) else (n,k))::_)=_ \/
    List.lookup x ((if (k == NameKind.free && env.scope.kind == .function && env.kindOf n == some .cell)=true then (n,NameKind.cell) else (n,k))::_)=_
   by_cases hc:(k == NameKind.free && env.scope.kind == .function && env.kindOf n == some .cell)=true
   ·rw [if_pos hc];simp only [List.lookup_cons,hx];exact ih
   ·rw [if_neg hc];simp only [List.lookup_cons,hx];exact ih
theorem u32 {env:Env} {x:Str}:∀ {names:List (Str × NameKind)},(∀ y ∈ names,y.2 ≠ .cell) ->
  ((names.map fun (n,k)=>if (k == NameKind.free && env.scope.kind == .function && env.kindOf n == some .cell) then (n,NameKind.cell) else (n,k)).lookup x=some .cell \/
  (names.map fun (n,k)=>if (k == NameKind.free && env.scope.kind == .function && env.kindOf n == some .cell) then (n,NameKind.cell) else (n,k)).lookup x=some .free)->(x,NameKind.free) ∈ names
 | [],_,h=>by simp at h
 | (n,k)::r,hn,h=>by
  have h:List.lookup x ((if (k == NameKind.free && env.scope.kind == .function && env.kindOf n == some .cell)=true then (n,NameKind.cell) else (n,k))::(r.map fun (n,k)=>if (k == NameKind.free && env.scope.kind == .function && env.kindOf n == some .cell) then (n,NameKind.cell) else (n,k)))=some .cell \/
   List.lookup x ((if (k == NameKind.free && env.scope.kind == .function && env.kindOf n == some .cell)=true then (n,NameKind.cell) else (n,k))::(r.map fun (n,k)=>if (k == NameKind.free && env.scope.kind == .function && env.kindOf n == some .cell) then (n,NameKind.cell) else (n,k)))=some .free:=h
  cases hx:x == n with
  | true =>
   have e:x=n:=eq_of_beq hx;subst e
   by_cases hc:(k == NameKind.free && env.scope.kind == .function && env.kindOf x == some .cell)=true
   ·have hk:k=.free:=by
     simp only [Bool.and_eq_true,beq_iff_eq] at hc;exact hc.1.1
    subst hk;exact List.mem_cons_self
   ·rw [if_neg hc] at h
    simp only [List.lookup_cons,hx,Option.some.injEq] at h
    rcases h with h | h
    ·exact absurd h (hn (x,k) List.mem_cons_self)
    ·subst h;exact List.mem_cons_self
  | false =>
   refine List.mem_cons_of_mem _ (u32 (env:=env) (fun y hy=>hn y (List.mem_cons_of_mem _ hy)) ?_)
   by_cases hc:(k == NameKind.free && env.scope.kind == .function && env.kindOf n == some .cell)=true
   ·rw [if_pos hc] at h;simp only [List.lookup_cons,hx] at h;exact h
   ·rw [if_neg hc] at h;simp only [List.lookup_cons,hx] at h;exact h
def PIfs (X:Cx) (ifs:List Expr) (t:TT):Prop :=
 ∀ (pins:List (Addr × Obj)) (s:Shared) (σ:St) (H:Hp) (Q:Bool->Hp->Prop),Inv X pins σ H s->t σ H Q ->
  wpAny (model X.prog X.w) X.A (forIn ifs true fun c r=>if r=true then do let ok <- isTrue c X.env (eval c X.env);pure (ForInStep.yield ok) else pure (ForInStep.yield r)) (TP X pins σ Q) X.xe s
def tYes:TT:=fun _ H Q=>Q true H
section
variable {X:Cx} {pins:List (Addr × Obj)} {σ:St} {H:Hp} {s:Shared}
theorem uv7:PIfs X [] tYes:=fun _ _ _ H _ I h=>wpAny_tests_nil ⟨H,I,h⟩
theorem uv6 {c:Expr} {t:TT} (h:PT X c t):PIfs X [c] t:=fun pins s σ H Q I hw=>wpAny_tests_one (h pins s σ H Q I hw)
theorem Inv.blk {N':List Str} {ix:List (Option Nat)} {scope:Scope} {fp:List Addr} {h1:Heap} {tk:Nat} (I:Inv X pins σ H s) (B:BlkOk X N' ix scope) (f:∀ b ∈ fp,FpOk X pins H b) (hlt:∀ b ∈ fp,b < s.heap.objs.size)
  (ns:h1.Ns s.heap.objs.size (fun _=>none)) (old:∀ b o,s.heap.get? b=some o->h1.get? b=some o) :
  Inv (u23 X N' scope s.heap.objs.size s H fp) [] (inner ix σ) H { s with heap:=h1,toks:=tk }:=by
 have hfree:∀ y ∈ scope.names,y.2=.free->∃ c,X.env.cells.lookup y.1=some c:=fun y hy e=>I.ok.has y.1 (B.frees y hy e)
 have hc:∀ x c,(clOf X.env scope.names []).lookup x=some c->X.env.cells.lookup x=some c:=fun x c e=>u86 hfree (fun _ _ z=>by cases z) e
 have stk:∀ b ∈ fp,b ∉ frs X.stack:=fun b hb z=>by
  rcases List.mem_cons.mp (I.stkSub b z) with e | e
  ·exact (f b hb).2.1 e
  ·exact (f b hb).2.2.1 e
 refine ⟨⟨I.ok.mod,B.kind,I.ok.glob,I.ok.blt,Nat.le_refl _,fun x y c h1 h2=>I.ok.inj x y c (hc x c h1) (hc y c h2),fun x hx=>?_,fun x c h=>(by cases h),I.ok.hd,I.ok.frames,.inl rfl,fun b hb=>⟨Nat.ne_of_lt (hlt b hb),fun x c e=>(f b hb).2.2.2.2.1 x c (hc x c e)⟩,
   I.bs,Nat.le_trans I.ok.bsz I.sz,fun b o e hb=>?_,stk,I.stack,I.stkFree⟩,rfl,I.bare,Un.kept old,⟨_,ns,fun i x v h1 h2 h3=>?_⟩,fun x c e=>?_,I.hok.fresh (Nat.le_refl _),fun x c e=>I.freeC x c (hc x c e),fun p hp=>absurd (show p ∈ ([]:List (Addr × Obj)) from hp) (by simp),I.hok.kept old,?_⟩
 ·exact ub9 (.inr (u32 B.nocell hx))
 ·rcases (f b hb).2.2.2.1 with z | z
  ·exact I.ok.noex b o e z
  ·exact absurd (Nat.lt_of_lt_of_le (Heap.lt_size e) (Nat.le_trans I.ok.bsz z)) (Nat.lt_irrefl _)
 ·have h2:(ix.map fun o=>o.bind fun j=>(σ[j]?).bind id)[i]?=some (some v):=h2
  rw [List.getElem?_map] at h2;cases ho:ix[i]? with
  | none=>rw [ho] at h2;cases h2
  | some o =>
   rw [ho] at h2;cases o with
   | none=>cases h2
   | some j =>
    have h2:(σ[j]?).bind id=some v:=Option.some.inj h2;have h2:σ[j]?=some (some v):=by
     cases hs:σ[j]? with
     | none=>rw [hs] at h2;cases h2
     | some w=>rw [hs] at h2;cases h2;rfl
    obtain ⟨hN,hf⟩:=B.at_ i j x h1 ho
    have hk:=B.frees (x,.free) (PySem.mem_of_lookup hf) rfl;obtain ⟨m,hn,hl⟩:=I.loc;obtain ⟨u,r,lk⟩:=hl j x v hN h2 (hk.elim (fun z=>.inr (.inl z)) fun z=>.inr (.inr z));refine ⟨u,r,.inr ?_⟩
    rcases lk with ⟨z,_⟩ | ⟨_,c,e,z⟩
    ·rcases hk with hk | hk
     ·exact absurd (hk.symm.trans z) (by decide)
     ·exact absurd (hk.symm.trans z) (by decide)
    ·obtain ⟨c',e'⟩:=ub9 (env:=X.env) (cs:=[]) (.inr (PySem.mem_of_lookup hf))
     have ec:c'=c:=Option.some.inj ((hc x c' e').symm.trans e);subst ec;refine ⟨u31 hf hk,c',e',?_⟩;obtain ⟨o,ho,hd⟩:=z;exact ⟨o,old _ _ ho,hd⟩
 ·obtain ⟨v,o,ho,hd⟩:=I.cell x c (hc x c e)
  exact ⟨v,o,old _ _ ho,hd⟩
 ·show (inner ix σ).length=N'.length
  unfold inner;rw [List.length_map];exact B.len
theorem ut7 {elt tg iter:Expr} {ifs:List Expr} {scope:Scope} {pos:Pos} {N':List Str} {ix:List (Option Nat)} {g:TG} {tc:TT} {te:TE} {J:It} {fp:List Addr} {it:Addr} {tn:Nat->Heap->Prop} (B:BlkOk X N' ix scope)
  (hg:∀ C s H fp,PG (u23 X N' scope C s H fp) tg g) (hi:∀ C s H fp,PIfs (u23 X N' scope C s H fp) ifs tc) (he:∀ C s H fp,PE (u23 X N' scope C s H fp) elt te) (hc:X.calm=true)
  (I:Inv X pins σ H s) (T:Turn X.prog X.w X.K tg J fp it tn) (st:tn 0 s.heap) (f:∀ b ∈ fp,FpOk X pins H b) {Q:VK} {E:Value->Shared->Prop}
  (w:∃ W:Nat->Nat->St->Hp->Prop,(∃ m,W 0 m (inner ix σ) (upd H s.heap.objs.size (.lst []))) /\ ∀ i m σi H,W i m σi H ->
   (J.stop i H /\ Q (.ref s.heap.objs.size) H) \/ (J.go i H /\ ∃ N:St->Hp->Prop,(∀ σ' H',N σ' H'->∃ m',m' < m /\ W (i+1) m' σ' H') /\ ∀ x H',J.yld i H x H'->g x σi H' fun σ2 H2=>tc σ2 H2 fun b H3 =>
    if b=true then te σ2 H3 fun v H4=>∃ ys,H4 s.heap.objs.size=some (.lst ys) /\ ys.length < sizeLine /\ N σ2 (upd H4 s.heap.objs.size (.lst (ys++[v]))) else N σ2 H3))
  {RR:Value->Addr->Result->Shared->Prop} (hRR:∀ C H' s' m,Inv X pins σ H' s'->FpOk X pins H' C->s'.heap.Ns C m->Q (.ref s.heap.objs.size) H'->RR (.ref s.heap.objs.size) C (.ok .next) s') :
  wpAny (model X.prog X.w) X.A (newList []) (fun acc s₃=>wpAny (model X.prog X.w) X.A (newFunctionEnv scope X.env.globals (clOf X.env scope.names []) [] X.env.qual none .none (some X.env)) (fun cenv s₄ =>
   codeAny (model X.prog X.w) X.A (.compStart (.ListComp elt [⟨tg,iter,ifs,0⟩] scope pos) 0 (.ref it) acc { cenv with scope:=relabel scope X.env }) (RR acc cenv.locals) s₄) E s₃) E s:=by
 obtain ⟨W,⟨m0,w0⟩,turn⟩:=w;have flt:∀ b ∈ fp,b < s.heap.objs.size:=fun b hb=>by
  obtain ⟨o,ho,_⟩:=T.obj 0 _ st b hb;exact Heap.lt_size ho
 have I3:Inv X pins σ (upd H s.heap.objs.size (.lst [])) { s with heap:=s.heap.push { cls:=.type "list",data:=.seq ([]:List Value).toArray },toks:=s.toks }:=I.lnew .nil (Nat.zero_le _)
 have hfr:∀ b ∈ fp,(upd H s.heap.objs.size (.lst [])) b=none:=fun b hb=>by rw [u09 (Nat.ne_of_lt (flt b hb))];exact (f b hb).1
 have f3:∀ b ∈ fp,FpOk X pins (upd H s.heap.objs.size (.lst [])) b:=fun b hb=>⟨hfr b hb,(f b hb).2⟩
 refine wpAny_newObj_type (wpAny_newFunctionEnv B.nocell (by intro y hy;simp at hy) (fun h₁ hns₁ hsb₁=>?_) B.kind);dsimp only at hns₁ hsb₁ ⊢;generalize hH3:s.heap.push { cls:=.type "list",data:=.seq ([]:List Value).toArray }=h3 at hns₁ hsb₁ I3 ⊢;obtain ⟨s3,e3⟩:∃ s3:Shared,s3={ s with heap:=h3 }:=⟨_,rfl⟩
 obtain rfl:h3=s3.heap:=by rw [e3]
 have I3:Inv X pins σ (upd H s.heap.objs.size (.lst [])) s3:=by
  have e:s3={ s with heap:=s3.heap,toks:=s.toks }:=e3
  rw [e];exact I3
 have eT:s3.toks=s.toks:=by rw [e3]
 have eS:({ s with heap:=h₁,toks:=s.toks+([]:List (Str × Value)).length }:Shared)={ s3 with heap:=h₁,toks:=s3.toks+([]:List (Str × Value)).length }:=by rw [e3]
 rw [eS];have hz3:s3.heap.objs.size=s.heap.objs.size+1:=by rw [<- hH3];exact Heap.size_push _ _
 have old:∀ b o,s3.heap.get? b=some o->h₁.get? b=some o:=fun b o e=>hsb₁.extBut b o (Nat.ne_of_lt (Heap.lt_size e)) (Heap.get?_push_of_some _ e)
 have st3:tn 0 s3.heap:=T.keep _ _ _ st fun b hb o e=>by rw [<- hH3];exact Heap.get?_push_of_some _ e
 have st4:tn 0 h₁:=T.keep _ _ _ st3 fun b _ o e=>old b o e
 have I4:=I3.blk (tk:=s3.toks+([]:List (Str × Value)).length) B f3 (fun b hb=>Nat.lt_of_lt_of_le (flt b hb) (by rw [hz3];exact Nat.le_succ _)) (show h₁.Ns s3.heap.objs.size (fun _=>none) from hns₁) old;generalize hX':u23 X N' scope s3.heap.objs.size s3 (upd H s.heap.objs.size (.lst [])) fp=X' at I4;have eX:X'.prog=X.prog /\ X'.w=X.w /\ X'.K=X.K /\ X'.A=X.A /\ X'.calm=X.calm /\ X'.env=compEnvC scope (clOf X.env scope.names []) s3.heap.objs.size X.env /\ X'.ex=fp /\ X'.outer=X.stack /\ X'.s₀=s3 /\ X'.H₀=upd H s.heap.objs.size (.lst []) /\ X'.pn=[] /\ X'.xe=(fun _ _=>False):=by
  rw [<- hX'];exact ⟨rfl,rfl,rfl,rfl,rfl,rfl,rfl,rfl,rfl,rfl,rfl,rfl⟩
 have hg':PG X' tg g:=hX' ▸ hg _ _ _ _;have hi':PIfs X' ifs tc:=hX' ▸ hi _ _ _ _;have he':PE X' elt te:=hX' ▸ he _ _ _ _;obtain ⟨e1,e2,e3,e4,e5,e6,e7,e8,e9,e10,e11,e12⟩:=eX;have stat:∀ {H':Hp},(∀ b ∈ fp,H' b=none)->∀ b ∈ fp,FpOk X' [] H' b:=fun {H'} hn b hb=>by
  have q:=I4.ok.exf b (by rw [e7];exact hb);refine ⟨hn b hb,q.1,?_,.inl (by rw [e7];exact hb),q.2,fun p hp=>?_⟩
  ·exact I4.ok.exfs b (by rw [e7];exact hb)
  ·rw [e11] at hp;simp at hp
 have loop:codeAny (model X.prog X.w) X.A (.compLoop (.ListComp elt [⟨tg,iter,ifs,0⟩] scope pos) 0 (.ref it) (.ref s.heap.objs.size) (compEnvC scope (clOf X.env scope.names []) s3.heap.objs.size X.env))
   (RR (.ref s.heap.objs.size) s3.heap.objs.size) { s3 with heap:=h₁,toks:=s3.toks+([]:List (Str × Value)).length }:=by
  refine va9 (fun n s'=>∃ i σi Hi,Inv X' [] σi Hi s' /\ tn i s'.heap /\ (∀ b ∈ fp,Hi b=none) /\ W i n σi Hi) ?_ m0 ⟨0,_,_,I4,st4,hfr,w0⟩;rintro n s5 ⟨i,σ5,H5,I5,st5,fr5,w5⟩
  rcases turn i n σ5 H5 w5 with ⟨stop,qn⟩ | ⟨go,N,hN,step⟩
  ·have d:=T.done X' e1 e2 e3 (by rw [e5];exact hc) i [] s5 σ5 H5 (fun _ _=>False) I5 (stat fr5) st5 stop
   rw [e4] at d
   (refine thn d ?_;rintro r s6 ⟨hr,I6⟩)
   subst hr;have u:=I6.base;rw [e7,e9,e10] at u;have u:Un (frs X'.outer) fp (upd H s.heap.objs.size (.lst [])) H5 s3.heap s6.heap:=u;rw [e8] at u;have ok6:=I6.hok;rw [e1,e2] at ok6;have I7:Inv X pins σ H5 s6:=I3.call' (ch:=fp) (by have:=I6.os;rw [e9] at this;exact this) u ok6 I6.bare fun b hb=>⟨(f b hb).2.2.2.1,(f b hb).2.1,(f b hb).2.2.2.2.1,(f b hb).2.2.2.2.2⟩
   have hfree:=I6.free;obtain ⟨m,hm,_⟩:=I6.loc;rw [e6] at hfree hm;exact hRR _ H5 s6 m I7 (I3.fpOk (Nat.le_refl _) hfree) hm qn
  ·have d:=T.item X' e1 e2 e3 (by rw [e5];exact hc) i [] s5 σ5 H5 (fun _ _=>False) I5 (stat fr5) st5 go
   rw [e4] at d
   (refine thn d ?_;rintro r s6 ⟨u,hr,h6⟩)
   subst hr
   (refine thn h6 ?_;rintro _ s7 ⟨x,H7,I7,r7,y7,st7,fr7⟩)
   have I7':=I7.pinned (stat fr7) (T.obj _ _ st7);have a:=hg' _ s7 σ5 H7 x u _ I7' r7 (step x H7 y7);rw [e1,e2,e4,e6,e12] at a
   (refine thn a ?_;rintro _ s8 ⟨σ8,H8,I8,q8⟩)
   have t:=hi' _ s8 σ8 H8 _ I8 q8;rw [e1,e2,e4,e6,e12] at t;have again:∀ {σ9:St} {H9:Hp} {s9:Shared},Inv X' ([]++ud7 fp s7.heap) σ9 H9 s9->N σ9 H9->∃ m,m < n /\ ∃ i σi Hi,Inv X' [] σi Hi s9 /\ tn i s9.heap /\ (∀ b ∈ fp,Hi b=none) /\ W i m σi Hi:=fun {σ9 H9 s9} I9 n9=>by
    obtain ⟨m',hm,w9⟩:=hN σ9 H9 n9;refine ⟨m',hm,i+1,σ9,H9,I9.unpinned,T.keep _ _ _ st7 fun b hb o e=>(I9.pin (b,o) (List.mem_append_right _ (List.mem_append_right _ (u48 hb e)))).1,fun b hb=>?_,w9⟩;obtain ⟨o,e,d⟩:=T.obj _ _ st7 b hb;exact (I9.pin (b,o) (List.mem_append_right _ (List.mem_append_right _ (u48 hb e)))).2.1
   (refine thn t ?_;rintro ok s9 ⟨H9,I9,q9⟩)
   cases ok with
   | false =>
    rw [if_neg Bool.false_ne_true] at q9 ⊢;exact again I9 q9
   | true =>
    rw [if_pos rfl] at q9 ⊢;have v:=he' _ s9 σ8 H9 _ I9 q9;rw [e1,e2,e4,e6,e12] at v
    (refine thn v ?_;rintro y s10 ⟨z,H10,I10,r10,ys,hD,hz,q10⟩)
    have ap:=ue1 _ s10 σ8 H10 (.ref s.heap.objs.size) [z] (.ref s.heap.objs.size) [y] (fun _ H'=>N σ8 H') I10 rfl (.cons r10 .nil) ⟨_,ys,z,rfl,rfl,hD,hz,q10⟩;rw [e1,e2,e4,e12] at ap
    (refine thn ap ?_;rintro _ s11 ⟨_,H11,I11,_,q11⟩;exact again I11 q11)
 exact codeAny_compStart_list loop (T.self _ _ _ _ _ st4 loop)
variable {elt tg iter:Expr} {ifs:List Expr} {scope:Scope} {pos:Pos} {N':List Str} {ix:List (Option Nat)} {wi:TI} {g:TG} {tc:TT} {te:TE}
theorem v85 (B:BlkOk X N' ix scope) (hc:X.calm=true) (hw:PI X tg iter wi)
  (hg:∀ C s H fp,PG (u23 X N' scope C s H fp) tg g) (hi:∀ C s H fp,PIfs (u23 X N' scope C s H fp) ifs tc) (he:∀ C s H fp,PE (u23 X N' scope C s H fp) elt te)
  (hs:∀ x,foldedSetIterable iter X.env x=pure x:=by intro _;rfl) :
  PE X (.ListComp elt [⟨tg,iter,ifs,0⟩] scope pos) (v55 ix wi g tc te):=by
 intro pins s σ H Q I h;rw [eval_ListComp];refine wpAny_comprehension_free (use:=none) rfl hs (u99 fun y hy e=>I.ok.has y.1 (B.frees y hy e)) B.kind B.names ?_;refine thn (hw pins s σ H _ I h) fun v s1 h1=>thn h1 fun itv s2 h2=>?_
 obtain ⟨it,fp,tn,J,H2,e,I2,T,st2,f2,q2⟩:=h2;subst e;refine ut7 B hg hi he hc I2 T st2 f2 (Q:=Q) (q2 _ I2.fresh) fun C H' s' m I' fC hm q=>?_
 refine ⟨m,hm,fun h' sb=>⟨.ref s2.heap.objs.size,H',?_,rfl,q⟩⟩;exact I'.turned (t':=s'.toks) (it:=C) (fun b o hb e=>sb.extBut b o hb e) fC.1 fC.2.1 fC.2.2.2.1 fC.2.2.2.2.1 fC.2.2.2.2.2
def vt6 (i:Nat) (t:TE):TS:=fun D σ H=>t σ H fun x H1=>D.nx (σ.set i (some x)) H1
theorem v75 {i:Nat} {y:Str} {py spos:Pos} (B:BlkOk X N' ix scope) (hc:X.calm=true) (hN:X.N.Nodup) (hy:X.N[i]?=some y) (hl:Loc X.env.scope y) (hw:PI X tg iter wi)
  (hg:∀ C s H fp,PG (u23 X N' scope C s H fp) tg g) (hi:∀ C s H fp,PIfs (u23 X N' scope C s H fp) ifs tc) (he:∀ C s H fp,PE (u23 X N' scope C s H fp) elt te)
  (hsw:swapsWith (.ListComp elt [⟨tg,iter,ifs,0⟩] scope pos) (some (.Name y py)) spos.line X.env=pure true:=by rfl)
  (hf:X.fn y=true \/ X.env.scope.names.lookup y=some .local:=by first | exact .inl rfl | exact .inr rfl | assumption)
  (hs:∀ x,foldedSetIterable iter X.env x=pure x:=by intro _;rfl) :
  PS X (.Assign [.Name y py] (.ListComp elt [⟨tg,iter,ifs,0⟩] scope pos) spos) (vt6 i (v55 ix wi g tc te)):=by
 intro pins s σ H D I h;rw [exec_Assign_Name_used _ _ _ _ hsw];refine wpAny_bind (wpAny_standAt (wpAny_bind ?_))
 show wpAny _ X.A (do let _ <- comprehension (.ListComp elt [⟨tg,iter,ifs,0⟩] scope pos) scope X.env _ (newList []) false (eval iter X.env) (some (assign (.Name y py) X.env))) _ _ s
 refine wpAny_bind (wpAny_mono (wpAny_comprehension_free (use:=some (assign (.Name y py) X.env)) (Q:=fun _ s'=>SP X pins D .next s') rfl hs (u99 fun y hy e=>I.ok.has y.1 (B.frees y hy e)) B.kind B.names
  (thn (hw pins s σ H _ I h) fun v s1 h1=>thn h1 fun itv s2 h2=>?_)) (fun _ s' hq=>wpAny_pure (wpAny_pure hq)) fun _ _ e=>e)
 obtain ⟨it,fp,tn,J,H2,e,I2,T,st2,f2,q2⟩:=h2;subst e;refine ut7 B hg hi he hc I2 T st2 f2 (Q:=fun x H1=>D.nx (σ.set i (some x)) H1) (q2 _ I2.fresh) fun C H' s' m I' fC hm q=>?_
 show wpAny _ _ (assign (.Name y py) X.env (.ref s2.heap.objs.size)) _ _ _
 (refine wpAny_assign_Name (ud1 I' hN hy hl (v:=.ref s2.heap.objs.size) rfl (?_) hf);rintro s'' I'' ⟨a,hsame,ha⟩)
 have hCa:C ≠ a:=by
  rcases ha with z | z
  ·rw [z];exact fC.2.1
  ·intro e;exact fC.2.2.2.2.1 _ _ z e.symm
 refine ⟨m,hm.sameBut hsame hCa,fun h' sb=>⟨_,H',?_,q⟩⟩;exact I''.turned (t':=s''.toks) (it:=C) (fun b o hb e=>sb.extBut b o hb e) fC.1 fC.2.1 fC.2.2.2.1 fC.2.2.2.2.1 fC.2.2.2.2.2
end
section
variable {X:Cx} {pos:Pos}
def gLst (K:W.Frag) (n:Nat) (t:TGs):TG:=fun v σ H Q=>∃ a xs,v=.ref a /\ SqL K H a xs /\ xs.length=n /\ t xs σ H Q
theorem v83 {es:List Expr} {k:Nat} {t:TGs} {n:Nat} (hc:X.calm=true) (h:PGs X es t)
  (hn:(assignEach es X.env).length=n:=by rfl) (hst:(assignEach es X.env).findIdx? (·.1)=none:=by rfl):PG X (.Tuple es k pos) (gLst X.K n t):=by
 intro pins s σ H v u Q I r hw;obtain ⟨a,xs,e1,hq,hl,hw⟩:=hw;subst e1;cases r;obtain ⟨its,rv,ht,hz⟩:=I.list hq;rw [PyProof.Rows.assign_Tuple];refine wpAny_bind (wpAny_standAt ?_);unfold unpack;have hsz:(assignEach es X.env).length=its.toArray.size:=by simp [hn,<- hl,rv.length]
 rw [hsz,hst];refine wpAny_bind (wpAny_holding (W.kun_itemsOf (I.ok.hd hc) ht.isList fun h' hx=>?_));have I1:Inv X pins σ H { s with heap:=h' }:=I.kept (t':=s.toks) fun b o e=>hx b o (Nat.ne_of_lt (Heap.lt_size e)) e
 exact h pins _ σ H xs _ Q I1 (by simpa using rv) hw
theorem vu4 {tg:Expr} {t t':TG} (h:PG X tg t) (h':PG X tg t'):PG X tg (fun v σ H Q=>t v σ H Q \/ t' v σ H Q):=by
 intro pins s σ H v u Q I r q
 rcases q with q | q
 ·exact h pins s σ H v u Q I r q
 ·exact h' pins s σ H v u Q I r q
def iSeq (K:W.Frag) (tl:TE):TI:=fun σ H R=>tl σ H fun x H1=>∃ a,x=.ref a /\ (((∃ xs,SqL K H1 a xs) /\ R (Itl K a) H1) \/ ((∃ xs,SqT K H1 a xs) /\ R (Itt K a) H1))
theorem vi9 {tg l:Expr} {tl:TE} (hl:PE X l tl):PI X tg l (iSeq X.K tl):=by
 intro pins s σ H R I h
 (refine thn (hl pins s σ H _ I h) ?_;rintro v s1 ⟨x,H1,I1,r1,q1⟩)
 obtain ⟨a,e,⟨⟨xs,hq⟩,q⟩ | ⟨⟨xs,hq⟩,q⟩⟩:=q1
 ·subst e
  cases r1;obtain ⟨its,rv,p,hz⟩:=I1.list hq;refine wpAny_pyIter_list p.isList ?_;refine ⟨s1.heap.objs.size,[s1.heap.objs.size],_,_,H1,rfl,I1.kept (t':=s1.toks) fun b o e=>Heap.get?_push_of_some _ e,um5 a _,⟨_,Heap.get?_push_size _ rfl,rfl,rfl⟩,fun b hb=>?_,q⟩;have e:b=s1.heap.objs.size:=by simpa using hb
  subst e;exact I1.fpOk (Nat.le_refl _) (I1.hok.fresh (Nat.le_refl _))
 ·subst e
  cases r1;obtain ⟨its,rv,p,hz⟩:=I1.tuple hq;refine wpAny_pyIter_tuple (show s1.heap.IsTuple a its.toArray from p) ?_;refine ⟨s1.heap.objs.size,[s1.heap.objs.size],_,_,H1,rfl,I1.kept (t':=s1.toks) fun b o e=>Heap.get?_push_of_some _ e,uk1 a _,⟨_,Heap.get?_push_size _ rfl,rfl,rfl⟩,fun b hb=>?_,q⟩;have e:b=s1.heap.objs.size:=by simpa using hb
  subst e;exact I1.fpOk (Nat.le_refl _) (I1.hok.fresh (Nat.le_refl _))
theorem u91:∀ {bs:List Bool} {us:List Value},Vals (bs.map V.bl) us->us=bs.map Value.bool
 | [],_,.nil=>rfl
 | b::bs,_,.cons r t=>by cases r;rw [u91 t];rfl
def vb2 (K:W.Frag) (H:Hp):V->String->Prop
 | .non,n=>n = "NoneType"
 | .bl _,n=>n = "bool"
 | .int _,n=>n = "int"
 | .str _,n=>n = "str"
 | .ref a,n=>(n = "list" /\ ((∃ xs,H a=some (.lst xs)) \/ ∃ o xs,H a=some (.frz o (.lst xs)))) \/ (n = "tuple" /\ ∃ xs,H a=some (.tup xs)) \/ (n = "dict" /\ ∃ xs,H a=some (.dK xs))
 | _,_=>False
def subK (n T:String):Bool:=n == T || (n == "bool" && T == "int")
theorem u44 {K:W.Frag} {n T:String} (hn:n = "NoneType" \/ n = "bool" \/ n = "int" \/ n = "str" \/ n = "list" \/ n = "tuple" \/ n = "dict") (hT:T = "int" \/ T = "str" \/ T = "bool" \/ T = "list" \/ T = "tuple" \/ T = "dict"):W.kitOne K (.type n) (.type T)=some (subK n T):=by
 rcases hn with rfl | rfl | rfl | rfl | rfl | rfl | rfl <;> rcases hT with rfl | rfl | rfl | rfl | rfl | rfl <;> rfl
theorem uh0:CallR X (.builtin "isinstance") (fun xs H Q=>∃ x n T,xs=[x,.ty T] /\ vb2 X.K H x n /\ (T = "int" \/ T = "str" \/ T = "bool" \/ T = "list" \/ T = "tuple" \/ T = "dict") /\ Q (.bl (subK n T)) H):=by
 intro pins s σ H xs us Q I r h;obtain ⟨x,n,T,rfl,hk,hT,q⟩:=h;obtain ⟨u,w,rfl,rx,rt⟩:=vals2 r;cases rt;have fin:∀ tk,EP X pins σ Q (.bool (subK n T)) { s with toks:=tk }:=fun tk=>⟨.bl (subK n T),H,I.tok tk,rfl,q⟩
 cases x with
 | non=>cases (show n = "NoneType" from hk);exact u22 I rx .non (u44 (by simp) hT) fin
 | bl b=>cases (show n = "bool" from hk);exact u22 I rx (.bl b) (u44 (by simp) hT) fin
 | int i=>cases (show n = "int" from hk);exact u22 I rx (.int i) (u44 (by simp) hT) fin
 | str i=>cases (show n = "str" from hk);exact u22 I rx (.str i) (u44 (by simp) hT) fin
 | ref a =>
  rcases (show (n = "list" /\ ((∃ xs,H a=some (.lst xs)) \/ ∃ o xs,H a=some (.frz o (.lst xs)))) \/ (n = "tuple" /\ ∃ xs,H a=some (.tup xs)) \/ (n = "dict" /\ ∃ xs,H a=some (.dK xs)) from hk) with ⟨e,⟨xs,h1⟩ | ⟨o,xs,h1⟩⟩ | ⟨e,xs,h1⟩ | ⟨e,xs,h1⟩
  ·cases e;exact u22 I rx (.lst h1) (u44 (by simp) hT) fin
  ·cases e;exact u22 I rx (.frz h1) (u44 (by simp) hT) fin
  ·cases e;exact u22 I rx (.tup h1) (u44 (by simp) hT) fin
  ·cases e;exact u22 I rx (.dK h1) (u44 (by simp) hT) fin
 | _=>exact (show False from hk).elim
end
end L2
namespace L2
open PySem
def XH (a C:Addr) (dx:Option Addr) (h:Heap):Prop:=∃ o vs,h.get? a=some o /\ o.cls=.ref C /\ o.dict=dx /\ o.data=.fields vs
def XDict (H:Hp):Option Addr->List (Str × V)->Prop
 | none,ys=>ys=[]
 | some d,ys=>∃ o,H d=some (.frz o (.xd ys))
end L2
namespace L3
open PySem L2
inductive D where
 | non | bl (b:Bool) | int (i:Int) | str (x:Str) | tup (xs:List D) | ref (a:Addr) | ty (n:String)
inductive DO where
 | lst (xs:List D) | fro (xs:List D) | dic (kvs:List (Key × D)) | dit (kvs:List (List Key × D)) | ins (C:Addr) (fs:List (Str × D)) | exc (C:Addr) (fs:List (Str × D)) | frd (kvs:List (Key × D)) | tb (qn:Str) (bm:Addr)
abbrev Gp:=Addr->Option DO
def gup (G:Gp) (a:Addr) (o:DO):Gp:=fun b=>if b=a then some o else G b
theorem u01 {G:Gp} {a:Addr} {o:DO}:gup G a o a=some o:=by unfold gup;rw [if_pos rfl]
theorem u05 {G:Gp} {a b:Addr} {o:DO} (h:b ≠ a):gup G a o b=G b:=by unfold gup;rw [if_neg h]
theorem u19 {G:Gp} {a:Addr} {o u:DO}:gup (gup G a o) a u=gup G a u:=by
 funext b;unfold gup;split <;> rfl
theorem gne {G:Gp} {a b:Addr} {o:DO} (h:G a=some o) (h':G b=none):a ≠ b:=by
 intro e;subst e;rw [h] at h';cases h'
structure Le (H H':Hp):Prop where
 tups:∀ b xs,H b=some (.tup xs)->H' b=some (.tup xs)
 frzs:∀ b o u,H b=some (.frz o u)->H' b=some (.frz o u)
theorem Le.refl (H:Hp):Le H H:=⟨fun _ _ h=>h,fun _ _ _ h=>h⟩
theorem Le.trans {H H1 H2:Hp} (a:Le H H1) (b:Le H1 H2):Le H H2:=⟨fun c xs h=>b.tups c xs (a.tups c xs h),fun c o u h=>b.frzs c o u (a.frzs c o u h)⟩
theorem Le.sqT {K:W.Frag} {H H':Hp} (l:Le H H') {a:Addr} {xs:List V} (h:SqT K H a xs):SqT K H' a xs:=by
 rcases h with (h | ⟨o,h⟩) | h
 ·exact .inl (.inl (l.tups _ _ h))
 ·exact .inl (.inr ⟨o,l.frzs _ _ _ h⟩)
 ·exact .inr h
theorem Le.fresh {H:Hp} {p:Addr} {o:HO} (h:H p=none):Le H (upd H p o) :=
 ⟨fun b xs q=>by rw [u09 (u16 q h)];exact q,fun b o u q=>by rw [u09 (u16 q h)];exact q⟩
mutual
def RelD (K:W.Frag) (H:Hp):D->V->Prop
 | .non,v=>v=.non
 | .bl b,v=>v=.bl b
 | .int i,v=>v=.int i
 | .str x,v=>v=.str x
 | .ref a,v=>v=.ref a
 | .ty n,v=>v=.ty n
 | .tup ds,v=>∃ a xs,v=.ref a /\ SqT K H a xs /\ RelDs K H ds xs
def RelDs (K:W.Frag) (H:Hp):List D->List V->Prop
 | [],xs=>xs=[]
 | d::ds,xs=>∃ x r,xs=x::r /\ RelD K H d x /\ RelDs K H ds r
end
section
variable {K:W.Frag} {H H':Hp}
mutual
theorem RelD.le (l:Le H H'):∀ {d:D} {v:V},RelD K H d v->RelD K H' d v
 | .non,_,h=>by simpa [RelD] using h
 | .bl _,_,h=>by simpa [RelD] using h
 | .int _,_,h=>by simpa [RelD] using h
 | .str _,_,h=>by simpa [RelD] using h
 | .ref _,_,h=>by simpa [RelD] using h
 | .ty _,_,h=>by simpa [RelD] using h
 | .tup ds,_,h=>by
  rw [RelD] at h ⊢;obtain ⟨a,xs,e,s,r⟩:=h;exact ⟨a,xs,e,l.sqT s,RelDs.le l r⟩
theorem RelDs.le (l:Le H H'):∀ {ds:List D} {xs:List V},RelDs K H ds xs->RelDs K H' ds xs
 | [],_,h=>by simpa [RelDs] using h
 | d::ds,_,h=>by
  rw [RelDs] at h ⊢;obtain ⟨x,r,e,h1,h2⟩:=h;exact ⟨x,r,e,RelD.le l h1,RelDs.le l h2⟩
end
theorem RelDs.nil:RelDs K H [] []:=by rw [RelDs]
theorem RelDs.cons {d:D} {ds:List D} {x:V} {xs:List V} (h:RelD K H d x) (t:RelDs K H ds xs):RelDs K H (d::ds) (x::xs):=by
 rw [RelDs];exact ⟨x,xs,rfl,h,t⟩
theorem RelDs.inv_nil {xs:List V} (h:RelDs K H [] xs):xs=[]:=by rw [RelDs] at h;exact h
theorem RelDs.inv_cons {d:D} {ds:List D} {xs:List V} (h:RelDs K H (d::ds) xs):∃ x r,xs=x::r /\ RelD K H d x /\ RelDs K H ds r:=by rw [RelDs] at h;exact h
theorem RelDs.length:∀ {ds:List D} {xs:List V},RelDs K H ds xs->ds.length=xs.length
 | [],_,h=>by rw [h.inv_nil];rfl
 | _::_,_,h=>by obtain ⟨x,r,e,_,t⟩:=h.inv_cons;rw [e,List.length_cons,List.length_cons,t.length]
theorem RelDs.get:∀ {ds:List D} {xs:List V} {i:Nat} {d:D},RelDs K H ds xs->ds[i]?=some d->∃ x,xs[i]?=some x /\ RelD K H d x
 | [],_,_,_,_,e=>by simp at e
 | _::_,_,0,_,h,e=>by
  obtain ⟨x,r,rfl,h1,t⟩:=h.inv_cons;simp at e;subst e;exact ⟨x,rfl,h1⟩
 | _::_,_,i+1,d,h,e=>by
  obtain ⟨x,r,rfl,h1,t⟩:=h.inv_cons;obtain ⟨y,h2,h3⟩:=RelDs.get (i:=i) t (by simpa using e);exact ⟨y,by simpa using h2,h3⟩
theorem RelDs.of:∀ {ds:List D} {xs:List V},ds.length=xs.length->(∀ (i:Nat) d x,ds[i]?=some d->xs[i]?=some x->RelD K H d x)->RelDs K H ds xs
 | [],[],_,_=>.nil
 | [],_::_,h,_=>by simp at h
 | _::_,[],h,_=>by simp at h
 | d::ds,x::xs,h,f=>.cons (f 0 d x rfl rfl) (RelDs.of (by simpa using h) fun i d x a b=>f (i+1) d x (by simpa using a) (by simpa using b))
theorem RelDs.append:∀ {ds es:List D} {xs ys:List V},RelDs K H ds xs->RelDs K H es ys->RelDs K H (ds++es) (xs++ys)
 | [],_,_,_,h,t=>by rw [h.inv_nil];exact t
 | _::_,_,_,_,h,t=>by
  obtain ⟨x,r,rfl,h1,h2⟩:=h.inv_cons;exact .cons h1 (h2.append t)
theorem RelDs.set {d:D} {x:V} (q:RelD K H d x):∀ {ds:List D} {xs:List V} (i:Nat),RelDs K H ds xs->RelDs K H (ds.set i d) (xs.set i x)
 | [],_,_,h=>by rw [h.inv_nil];exact .nil
 | _::_,_,0,h=>by
  obtain ⟨x,r,rfl,h1,h2⟩:=h.inv_cons;exact .cons q h2
 | _::_,_,i+1,h=>by
  obtain ⟨x,r,rfl,h1,h2⟩:=h.inv_cons;exact .cons h1 (h2.set q i)
theorem RelDs.take:∀ {ds:List D} {xs:List V} (n:Nat),RelDs K H ds xs->RelDs K H (ds.take n) (xs.take n)
 | _,_,0,_=>by simpa using RelDs.nil
 | [],_,_+1,h=>by rw [h.inv_nil];exact .nil
 | _::_,_,n+1,h=>by
  obtain ⟨x,r,rfl,h1,h2⟩:=h.inv_cons;exact .cons h1 (h2.take n)
theorem RelDs.drop:∀ {ds:List D} {xs:List V} (n:Nat),RelDs K H ds xs->RelDs K H (ds.drop n) (xs.drop n)
 | _,_,0,h=>by simpa using h
 | [],_,_+1,h=>by rw [h.inv_nil];exact .nil
 | _::_,_,n+1,h=>by
  obtain ⟨x,r,rfl,h1,h2⟩:=h.inv_cons;exact h2.drop n
theorem RelDs.eraseIdx:∀ {ds:List D} {xs:List V} (n:Nat),RelDs K H ds xs->RelDs K H (ds.eraseIdx n) (xs.eraseIdx n)
 | [],_,_,h=>by rw [h.inv_nil];exact .nil
 | _::_,_,0,h=>by
  obtain ⟨x,r,rfl,h1,h2⟩:=h.inv_cons;exact h2
 | _::_,_,n+1,h=>by
  obtain ⟨x,r,rfl,h1,h2⟩:=h.inv_cons;exact .cons h1 (h2.eraseIdx n)
theorem RelDs.reverse:∀ {ds:List D} {xs:List V},RelDs K H ds xs->RelDs K H ds.reverse xs.reverse
 | [],_,h=>by rw [h.inv_nil];exact .nil
 | _::_,_,h=>by
  obtain ⟨x,r,rfl,h1,h2⟩:=h.inv_cons;rw [List.reverse_cons,List.reverse_cons];exact h2.reverse.append (.cons h1 .nil)
theorem RelDs.dropLast {ds:List D} {xs:List V} (h:RelDs K H ds xs):RelDs K H ds.dropLast xs.dropLast:=by
 rw [List.dropLast_eq_take,List.dropLast_eq_take,h.length];exact h.take _
theorem RelDs.rep {ds:List D} {xs:List V} (h:RelDs K H ds xs):∀ k:Nat,RelDs K H (List.replicate k ds).flatten (List.replicate k xs).flatten
 | 0=>.nil
 | k+1=>by rw [List.replicate_succ,List.replicate_succ,List.flatten_cons,List.flatten_cons];exact h.append (h.rep k)
def RelPs {κ:Type} (K:W.Frag) (H:Hp) (ps:List (κ × D)) (qs:List (κ × V)):Prop:=ps.map (·.1)=qs.map (·.1) /\ RelDs K H (ps.map (·.2)) (qs.map (·.2))
theorem RelPs.le {κ:Type} (l:Le H H') {ps:List (κ × D)} {qs:List (κ × V)} (h:RelPs K H ps qs):RelPs K H' ps qs:=⟨h.1,RelDs.le l h.2⟩
end
def TbOk (H:Hp) (qn:Str) (ps:Array Value):Prop:=TriplesOk ps.toList /\ ∀ pos cv,codeAmong pos ps.toList=some cv->∃ (c:Addr) (o:Obj) (vs:Array Value) (t:Tok),cv=.ref c /\ o.data=.fields vs /\ vs[1]?=some (.str qn t) /\ H c=some (.frz o (.ext fun h=>h.get? c=some o))
def BmOk (H:Hp) (bm:Addr):Prop:=∃ o:Obj,H bm=some (.frz o (.ext fun h=>h.get? bm=some o)) /\ o.cls=.type "module" /\ o.dict=some builtinsNs /\ o.data=.plain
def ObjD (K:W.Frag) (H:Hp) (a:Addr):DO->Prop
 | .lst ds=>∃ xs,H a=some (.lst xs) /\ RelDs K H ds xs
 | .fro ds=>∃ o xs,H a=some (.frz o (.lst xs)) /\ RelDs K H ds xs
 | .dic kvs=>∃ ys,H a=some (.dK ys) /\ RelPs K H kvs ys
 | .dit kvs=>∃ ys,H a=some (.dT ys) /\ RelPs K H kvs ys
 | .ins C fs=>∃ dx ys,H a=some (.ins C dx ys) /\ RelPs K H fs ys
 | .exc C fs=>∃ dx ys,H a=some (.ext (XH a C dx)) /\ XDict H dx ys /\ RelPs K H fs ys
 | .frd kvs=>∃ o ys,H a=some (.frz o (.dK ys)) /\ RelPs K H kvs ys
 | .tb qn bm=>∃ ps,H a=some (.tbl ps) /\ TbOk H qn ps /\ BmOk H bm
theorem _root_.L2.XDict.le {H H':Hp} (l:Le H H') {dx:Option Addr} {ys:List (Str × V)} (h:XDict H dx ys):XDict H' dx ys:=by
 cases dx with
 | none=>exact h
 | some d=>obtain ⟨o,e⟩:=h;exact ⟨o,l.frzs _ _ _ e⟩
def Con (K:W.Frag) (G:Gp) (H:Hp):Prop:=∀ a o,G a=some o->ObjD K H a o
section
variable {K:W.Frag} {G:Gp} {H H':Hp} {a p:Addr} {o:DO}
theorem ObjD.some (h:ObjD K H a o):∃ u,H a=some u:=by
 cases o with
 | lst ds=>obtain ⟨xs,e,_⟩:=h;exact ⟨_,e⟩
 | fro ds=>obtain ⟨_,xs,e,_⟩:=h;exact ⟨_,e⟩
 | dic ds=>obtain ⟨xs,e,_⟩:=h;exact ⟨_,e⟩
 | dit ds=>obtain ⟨xs,e,_⟩:=h;exact ⟨_,e⟩
 | ins C ds=>obtain ⟨_,xs,e,_⟩:=h;exact ⟨_,e⟩
 | exc C ds=>obtain ⟨_,xs,e,_⟩:=h;exact ⟨_,e⟩
 | frd ds=>obtain ⟨_,xs,e,_⟩:=h;exact ⟨_,e⟩
 | tb qn bm=>obtain ⟨_,e,_⟩:=h;exact ⟨_,e⟩
theorem ObjD.stay (h:ObjD K H a o) (l:Le H H') (e:H' a=H a):ObjD K H' a o:=by
 cases o with
 | lst ds=>obtain ⟨xs,q,r⟩:=h;exact ⟨xs,e.trans q,RelDs.le l r⟩
 | fro ds=>obtain ⟨o,xs,q,r⟩:=h;exact ⟨o,xs,e.trans q,RelDs.le l r⟩
 | dic ds=>obtain ⟨xs,q,r⟩:=h;exact ⟨xs,e.trans q,r.le l⟩
 | dit ds=>obtain ⟨xs,q,r⟩:=h;exact ⟨xs,e.trans q,r.le l⟩
 | ins C ds=>obtain ⟨dx,xs,q,r⟩:=h;exact ⟨dx,xs,e.trans q,r.le l⟩
 | exc C ds=>obtain ⟨dx,xs,q,z,r⟩:=h;exact ⟨dx,xs,e.trans q,z.le l,r.le l⟩
 | frd ds=>obtain ⟨o,xs,q,r⟩:=h;exact ⟨o,xs,e.trans q,r.le l⟩
 | tb qn bm=>obtain ⟨ps,q,⟨r1,r2⟩,o,b1,b2⟩:=h;exact ⟨ps,e.trans q,⟨r1,fun pos cv z=>let ⟨c,o,vs,t,z1,z2,z3,z4⟩:=r2 pos cv z;⟨c,o,vs,t,z1,z2,z3,l.frzs _ _ _ z4⟩⟩,o,l.frzs _ _ _ b1,b2⟩
theorem Con.fresh (c:Con K G H) (h:H p=none):G p=none:=by
 cases e:G p with
 | none=>rfl
 | some o=>obtain ⟨u,q⟩:=(c p o e).some;rw [h] at q;cases q
theorem Con.stay (c:Con K G H) (l:Le H H') (e:∀ a o,G a=some o->H' a=H a):Con K G H':=fun a o q=>(c a o q).stay l (e a o q)
theorem Con.side {u:HO} (c:Con K G H) (h:H p=none):Con K G (upd H p u):=c.stay (Le.fresh h) fun a o q=>by
 obtain ⟨u,e⟩:=(c a o q).some;exact u09 (u16 e h)
theorem Con.put {u:HO} (c:Con K G H) (l:Le H (upd H p u)) (n:ObjD K (upd H p u) p o):Con K (gup G p o) (upd H p u):=fun b q e=>by
 by_cases hb:b=p
 ·subst hb;rw [u01] at e;cases e;exact n
 ·rw [u05 hb] at e
  exact (c b q e).stay l (u09 hb)
theorem Le.lst {xs ys:List V} (h:H p=some (.lst xs)):Le H (upd H p (.lst ys)) :=
  ⟨fun b zs q => by by_cases e : b = p
                    · subst e;rw [h] at q;cases q
                    · rw [u09 e];exact q,
   fun b o u q => by by_cases e : b = p
                     · subst e;rw [h] at q;cases q
                     · rw [u09 e];exact q⟩
theorem Le.dK {xs ys:List (Key × V)} (h:H p=some (.dK xs)):Le H (upd H p (.dK ys)) :=
  ⟨fun b zs q => by by_cases e : b = p
                    · subst e;rw [h] at q;cases q
                    · rw [u09 e];exact q,
   fun b o u q => by by_cases e : b = p
                     · subst e;rw [h] at q;cases q
                     · rw [u09 e];exact q⟩
theorem Le.ins {C dx C' dx':Addr} {xs ys:List (Str × V)} (h:H p=some (.ins C dx xs)):Le H (upd H p (.ins C' dx' ys)) :=
  ⟨fun b zs q => by by_cases e : b = p
                    · subst e;rw [h] at q;cases q
                    · rw [u09 e];exact q,
   fun b o u q => by by_cases e : b = p
                     · subst e;rw [h] at q;cases q
                     · rw [u09 e];exact q⟩
theorem Con.lstNew {ds:List D} {xs:List V} (c:Con K G H) (h:H p=none) (r:RelDs K H ds xs):Con K (gup G p (.lst ds)) (upd H p (.lst xs)) :=
 c.put (Le.fresh h) ⟨xs,u18,RelDs.le (Le.fresh h) r⟩
theorem Con.lstSet {ds:List D} {xs ys:List V} (c:Con K G H) (h:H p=some (.lst ys)) (r:RelDs K H ds xs):Con K (gup G p (.lst ds)) (upd H p (.lst xs)) :=
 c.put (Le.lst h) ⟨xs,u18,RelDs.le (Le.lst h) r⟩
end
abbrev DSt:=List (Option D)
def RelSt (K:W.Frag) (H:Hp) (σd:DSt) (σ:St):Prop:=σd.length=σ.length /\ ∀ (i:Nat) d,σd[i]?=some (some d)->∃ v,σ[i]?=some (some v) /\ RelD K H d v
theorem RelSt.le {K:W.Frag} {H H':Hp} {σd:DSt} {σ:St} (h:RelSt K H σd σ) (l:Le H H'):RelSt K H' σd σ :=
 ⟨h.1,fun i d e=>let ⟨v,a,b⟩:=h.2 i d e;⟨v,a,RelD.le l b⟩⟩
theorem RelSt.set {K:W.Frag} {H:Hp} {σd:DSt} {σ:St} {d:D} {v:V} (h:RelSt K H σd σ) (i:Nat) (r:RelD K H d v):RelSt K H (σd.set i (some d)) (σ.set i (some v)):=by
 refine ⟨by rw [List.length_set,List.length_set];exact h.1,fun j e q=>?_⟩;rw [List.getElem?_set] at q;split at q
 ·rename_i hij;subst hij
  split at q
  ·rename_i hl;cases q
   exact ⟨v,by rw [List.getElem?_set_self (by rw [<- h.1];exact hl)],r⟩
  ·cases q
 ·rename_i hij
  obtain ⟨w,a,b⟩:=h.2 j e q;exact ⟨w,by rw [List.getElem?_set_ne hij];exact a,b⟩
abbrev DK:=D->Gp->Prop
abbrev TE3:=DSt->Gp->DK->Prop
abbrev TT3:=DSt->Gp->(Bool->Gp->Prop)->Prop
abbrev TA3:=DSt->Gp->(List D->Gp->Prop)->Prop
structure Ends3 where
 nx:DSt->Gp->Prop
 rt:DK
 bk:DSt->Gp->Prop:=fun _ _=>False
 ct:DSt->Gp->Prop:=fun _ _=>False
abbrev TS3:=Ends3->DSt->Gp->Prop
def FutE (K:W.Frag) (H:Hp) (q:DK) (Q:VK):Prop:=∀ d G' v H',RelD K H' d v->Con K G' H'->Le H H'->q d G'->Q v H'
def FutT (K:W.Frag) (H:Hp) (q:Bool->Gp->Prop) (Q:Bool->Hp->Prop):Prop:=∀ b G' H',Con K G' H'->Le H H'->q b G'->Q b H'
def FutA (K:W.Frag) (H:Hp) (q:List D->Gp->Prop) (Q:List V->Hp->Prop):Prop:=∀ ds G' vs H',RelDs K H' ds vs->Con K G' H'->Le H H'->q ds G'->Q vs H'
def FutS (K:W.Frag) (H:Hp) (q:DSt->Gp->Prop) (Q:St->Hp->Prop):Prop:=∀ σd G' σ H',RelSt K H' σd σ->Con K G' H'->Le H H'->q σd G'->Q σ H'
theorem FutE.le {K:W.Frag} {H H1:Hp} {q:DK} {Q:VK} (f:FutE K H q Q) (l:Le H H1):FutE K H1 q Q:=fun d G v H' r c l'=>f d G v H' r c (l.trans l')
theorem FutS.le {K:W.Frag} {H H1:Hp} {q:DSt->Gp->Prop} {Q:St->Hp->Prop} (f:FutS K H q Q) (l:Le H H1):FutS K H1 q Q:=fun d G v H' r c l'=>f d G v H' r c (l.trans l')
structure FutD (K:W.Frag) (H:Hp) (d:Ends3) (D:Ends):Prop where
 nx:FutS K H d.nx D.nx
 rt:FutE K H d.rt D.rt
 bk:FutS K H d.bk D.bk
 ct:FutS K H d.ct D.ct
theorem FutD.le {K:W.Frag} {H H1:Hp} {d:Ends3} {D:Ends} (f:FutD K H d D) (l:Le H H1):FutD K H1 d D:=⟨f.nx.le l,f.rt.le l,f.bk.le l,f.ct.le l⟩
def lowE (K:W.Frag) (t:TE3):TE:=fun σ H Q=>∃ σd G q,RelSt K H σd σ /\ Con K G H /\ t σd G q /\ FutE K H q Q
def lowT (K:W.Frag) (t:TT3):TT:=fun σ H Q=>∃ σd G q,RelSt K H σd σ /\ Con K G H /\ t σd G q /\ FutT K H q Q
def lowA (K:W.Frag) (t:TA3):TA:=fun σ H Q=>∃ σd G q,RelSt K H σd σ /\ Con K G H /\ t σd G q /\ FutA K H q Q
def lowS (K:W.Frag) (t:TS3):TS:=fun D σ H=>∃ σd G d,RelSt K H σd σ /\ Con K G H /\ t d σd G /\ FutD K H d D
abbrev R3:=D->D->Gp->DK->Prop
def lowR (K:W.Frag) (r:R3):R2:=fun x y H Q=>∃ d e G q,RelD K H d x /\ RelD K H e y /\ Con K G H /\ r d e G q /\ FutE K H q Q
abbrev U3:=D->Gp->DK->Prop
def lowU (K:W.Frag) (r:U3):V->Hp->VK->Prop:=fun x H Q=>∃ d G q,RelD K H d x /\ Con K G H /\ r d G q /\ FutE K H q Q
abbrev C3:=List D->Gp->DK->Prop
def lowC (K:W.Frag) (r:C3):List V->Hp->VK->Prop:=fun xs H Q=>∃ ds G q,RelDs K H ds xs /\ Con K G H /\ r ds G q /\ FutE K H q Q
def dVar (i:Nat):TE3:=fun σ G q=>match σ[i]? with | some (some d)=>q d G | _=>False
def dC (d:D):TE3:=fun _ G q=>q d G
def dOp (r:R3) (ta tb:TE3):TE3:=fun σ G q=>ta σ G fun x G1=>tb σ G1 fun y G2=>r x y G2 q
def dUn (r:U3) (ta:TE3):TE3:=fun σ G q=>ta σ G fun x G1=>r x G1 q
def dNil:TA3:=fun _ G q=>q [] G
def vc7 (ta:TE3) (tr:TA3):TA3:=fun σ G q=>ta σ G fun x G1=>tr σ G1 fun xs G2=>q (x::xs) G2
def dTup (t:TA3):TE3:=fun σ G q=>t σ G fun xs G1=>xs.length<=sizeLine /\ q (.tup xs) G1
def dLst (t:TA3):TE3:=fun σ G q=>t σ G fun xs G1=>xs.length<=sizeLine /\ ∀ p,G1 p=none->q (.ref p) (gup G1 p (.lst xs))
def dB (t:TE3):TT3:=fun σ G q=>t σ G fun x G1=>match x with | .bl c=>q c G1 | _=>False
def dAnd (t u:TT3):TT3:=fun σ G q=>t σ G fun c G1=>if c=true then u σ G1 q else q false G1
def dOr (t u:TT3):TT3:=fun σ G q=>t σ G fun c G1=>if c=true then q true G1 else u σ G1 q
def dNot (t:TT3):TT3:=fun σ G q=>t σ G fun c G1=>q (!c) G1
def vc8 (ta tb:TE3):TE3:=fun σ G q=>ta σ G fun x G1=>match x with | .bl c=>if c=true then tb σ G1 q else q (.bl false) G1 | _=>False
def dOrV (ta tb:TE3):TE3:=fun σ G q=>ta σ G fun x G1=>match x with | .bl c=>if c=true then q (.bl true) G1 else tb σ G1 q | _=>False
def vc4 (ta:TE3):TE3:=fun σ G q=>ta σ G fun x G1=>match x with | .bl c=>q (.bl (!c)) G1 | _=>False
def dIf (t:TT3) (ta tb:TE3):TE3:=fun σ G q=>t σ G fun c G1=>if c=true then ta σ G1 q else tb σ G1 q
section
variable {K:W.Frag} {σ:St} {H:Hp} {Q:VK}
theorem v96 {i:Nat} (h:lowE K (dVar i) σ H Q):tVar i σ H Q:=by
 obtain ⟨σd,G,q,rs,c,t,f⟩:=h;unfold dVar at t;split at t
 ·rename_i d e
  obtain ⟨v,hv,r⟩:=rs.2 i d e;exact ⟨v,hv,f d G v H r c (Le.refl H) t⟩
 ·exact t.elim
theorem ux6 {d:D} {v:V} (r:∀ H,RelD K H d v) (h:lowE K (dC d) σ H Q):tC v σ H Q:=by
 obtain ⟨σd,G,q,rs,c,t,f⟩:=h;exact f d G v H (r H) c (Le.refl H) t
theorem ui8 {r:R3} {ta tb:TE3} (h:lowE K (dOp r ta tb) σ H Q):tOp (lowR K r) (lowE K ta) (lowE K tb) σ H Q:=by
 obtain ⟨σd,G,q,rs,c,t,f⟩:=h;exact ⟨σd,G,_,rs,c,t,fun d G1 v H1 r1 c1 l1 t1=>⟨σd,G1,_,rs.le l1,c1,t1,fun e G2 u H2 r2 c2 l2 t2=>⟨d,e,G2,q,RelD.le l2 r1,r2,c2,t2,f.le (l1.trans l2)⟩⟩⟩
theorem vn8 {r:U3} {ta:TE3} (h:lowE K (dUn r ta) σ H Q):tUn (lowU K r) (lowE K ta) σ H Q:=by
 obtain ⟨σd,G,q,rs,c,t,f⟩:=h;exact ⟨σd,G,_,rs,c,t,fun d G1 v H1 r1 c1 l1 t1=>⟨d,G1,q,r1,c1,t1,f.le l1⟩⟩
theorem va2 {Q:List V->Hp->Prop} (h:lowA K dNil σ H Q):tNil σ H Q:=by
 obtain ⟨σd,G,q,rs,c,t,f⟩:=h;exact f [] G [] H .nil c (Le.refl H) t
theorem ux4 {ta:TE3} {tr:TA3} {Q:List V->Hp->Prop} (h:lowA K (vc7 ta tr) σ H Q):vh1 (lowE K ta) (lowA K tr) σ H Q:=by
 obtain ⟨σd,G,q,rs,c,t,f⟩:=h;exact ⟨σd,G,_,rs,c,t,fun d G1 v H1 r1 c1 l1 t1=>⟨σd,G1,_,rs.le l1,c1,t1,fun ds G2 vs H2 r2 c2 l2 t2=>f (d::ds) G2 (v::vs) H2 (.cons (RelD.le l2 r1) r2) c2 (l1.trans l2) t2⟩⟩
theorem v97 {ta:TA3} (h:lowE K (dTup ta) σ H Q):tTup (lowA K ta) σ H Q:=by
 obtain ⟨σd,G,q,rs,c,t,f⟩:=h;refine ⟨σd,G,_,rs,c,t,fun ds G1 vs H1 r1 c1 l1 t1=>⟨by rw [<- r1.length];exact t1.1,fun p hp=>?_⟩⟩;refine f (.tup ds) G1 (.ref p) _ ?_ (c1.side hp) (l1.trans (Le.fresh hp)) t1.2;rw [RelD];exact ⟨p,vs,rfl,SqT.of u18,RelDs.le (Le.fresh hp) r1⟩
theorem va3 {ta:TA3} (h:lowE K (dLst ta) σ H Q):tLst (lowA K ta) σ H Q:=by
 obtain ⟨σd,G,q,rs,c,t,f⟩:=h;refine ⟨σd,G,_,rs,c,t,fun ds G1 vs H1 r1 c1 l1 t1=>⟨by rw [<- r1.length];exact t1.1,fun p hp=>?_⟩⟩;exact f (.ref p) _ (.ref p) _ (by rw [RelD]) (c1.lstNew hp r1) (l1.trans (Le.fresh hp)) (t1.2 p (c1.fresh hp))
theorem RelD.bl_inv {c:Bool} {v:V} (h:RelD K H (.bl c) v):v=.bl c:=by rw [RelD] at h;exact h
theorem ux8 {t u:TT3} {Q:Bool->Hp->Prop} (h:lowT K (dAnd t u) σ H Q):tAnd (lowT K t) (lowT K u) σ H Q:=by
 obtain ⟨σd,G,q,rs,c,t,f⟩:=h;refine ⟨σd,G,_,rs,c,t,fun b G1 H1 c1 l1 t1=>?_⟩;cases b with
 | true=>rw [if_pos rfl] at t1 ⊢;exact ⟨σd,G1,q,rs.le l1,c1,t1,fun b G2 H2 c2 l2 t2=>f b G2 H2 c2 (l1.trans l2) t2⟩
 | false=>rw [if_neg Bool.false_ne_true] at t1 ⊢;exact f _ _ _ c1 l1 t1
theorem va1 {t u:TT3} {Q:Bool->Hp->Prop} (h:lowT K (dOr t u) σ H Q):tOr (lowT K t) (lowT K u) σ H Q:=by
 obtain ⟨σd,G,q,rs,c,t,f⟩:=h;refine ⟨σd,G,_,rs,c,t,fun b G1 H1 c1 l1 t1=>?_⟩;cases b with
 | false=>rw [if_neg Bool.false_ne_true] at t1 ⊢;exact ⟨σd,G1,q,rs.le l1,c1,t1,fun b G2 H2 c2 l2 t2=>f b G2 H2 c2 (l1.trans l2) t2⟩
 | true=>rw [if_pos rfl] at t1 ⊢;exact f _ _ _ c1 l1 t1
theorem uw9 {t:TT3} {Q:Bool->Hp->Prop} (h:lowT K (dNot t) σ H Q):tNot (lowT K t) σ H Q:=by
 obtain ⟨σd,G,q,rs,c,t,f⟩:=h;exact ⟨σd,G,_,rs,c,t,fun b G1 H1 c1 l1 t1=>f _ _ _ c1 l1 t1⟩
theorem vo1 {t:TT3} {ta tb:TE3} (h:lowE K (dIf t ta tb) σ H Q):tIf (lowT K t) (lowE K ta) (lowE K tb) σ H Q:=by
 obtain ⟨σd,G,q,rs,c,t,f⟩:=h;refine ⟨σd,G,_,rs,c,t,fun b G1 H1 c1 l1 t1=>?_⟩;cases b with
 | true=>rw [if_pos rfl] at t1 ⊢;exact ⟨σd,G1,q,rs.le l1,c1,t1,f.le l1⟩
 | false=>rw [if_neg Bool.false_ne_true] at t1 ⊢;exact ⟨σd,G1,q,rs.le l1,c1,t1,f.le l1⟩
end
def vc5:TS3:=fun E σ G=>E.nx σ G
def Go (k:DSt->Gp->Prop) (σ:DSt) (G:Gp):Prop:=k σ G
def dSeq (t u:TS3):TS3:=fun E σ G=>t { E with nx:=Go (u E) } σ G
def vc6 (te:TE3):TS3:=fun E σ G=>te σ G fun _ G1=>E.nx σ G1
def dRet (te:TE3):TS3:=fun E σ G=>te σ G E.rt
def vw1:TS3:=fun E _ G=>E.rt .non G
def dIfS (c:TT3) (t u:TS3):TS3:=fun E σ G=>c σ G fun b G1=>if b=true then t E σ G1 else u E σ G1
abbrev TG3:=D->DSt->Gp->(DSt->Gp->Prop)->Prop
abbrev TGs3:=List D->DSt->Gp->(DSt->Gp->Prop)->Prop
def lowG (K:W.Frag) (t:TG3):TG:=fun v σ H Q=>∃ d σd G q,RelD K H d v /\ RelSt K H σd σ /\ Con K G H /\ t d σd G q /\ FutS K H q Q
def ux9 (K:W.Frag) (t:TGs3):TGs:=fun vs σ H Q=>∃ ds σd G q,RelDs K H ds vs /\ RelSt K H σd σ /\ Con K G H /\ t ds σd G q /\ FutS K H q Q
def ue4 (i:Nat):TG3:=fun d σ G q=>q (σ.set i (some d)) G
def jNil:TGs3:=fun ds σ G q=>ds=[] /\ q σ G
def uq9 (t:TG3) (u:TGs3):TGs3:=fun ds σ G q=>match ds with | d::r=>t d σ G fun σ' G'=>u r σ' G' q | []=>False
abbrev TSet3:=D->D->D->Gp->(Gp->Prop)->Prop
def uq1 (K:W.Frag) (t:TSet3):TSet:=fun o i v H Q=>∃ d e x G q,RelD K H d o /\ RelD K H e i /\ RelD K H x v /\ Con K G H /\ t d e x G q /\ ∀ G' H',Con K G' H'->Le H H'->q G'->Q H'
def jSub (to ti:TE3) (t:TSet3):TG3:=fun d σ G q=>to σ G fun o G1=>ti σ G1 fun i G2=>t o i d G2 fun G3=>q σ G3
def dAsg (te:TE3) (g:TG3):TS3:=fun E σ G=>te σ G fun x G1=>g x σ G1 E.nx
section
variable {K:W.Frag} {σ:St} {H:Hp} {E:Ends}
theorem ux0 (h:lowS K vc5 E σ H):vg9 E σ H:=by
 obtain ⟨σd,G,d,rs,c,t,f⟩:=h;exact f.nx _ _ _ _ rs c (Le.refl H) t
theorem v98 {t u:TS3} (h:lowS K (dSeq t u) E σ H):tSeq (lowS K t) (lowS K u) E σ H:=by
 obtain ⟨σd,G,d,rs,c,t,f⟩:=h;exact ⟨σd,G,_,rs,c,t,fun σd' G' σ' H' rs' c' l' t'=>⟨σd',G',d,rs',c',t',f.le l'⟩,f.rt,f.bk,f.ct⟩
theorem ux3 {te:TE3} (h:lowS K (vc6 te) E σ H):vh0 (lowE K te) E σ H:=by
 obtain ⟨σd,G,d,rs,c,t,f⟩:=h;exact ⟨σd,G,_,rs,c,t,fun x G1 v H1 r1 c1 l1 t1=>f.nx _ _ _ _ (rs.le l1) c1 l1 t1⟩
theorem v99 {te:TE3} (h:lowS K (dRet te) E σ H):tRet (lowE K te) E σ H:=by
 obtain ⟨σd,G,d,rs,c,t,f⟩:=h;exact ⟨σd,G,_,rs,c,t,f.rt⟩
theorem va4 {tc:TT3} {t u:TS3} (h:lowS K (dIfS tc t u) E σ H):tIfS (lowT K tc) (lowS K t) (lowS K u) E σ H:=by
 obtain ⟨σd,G,d,rs,c,t,f⟩:=h;refine ⟨σd,G,_,rs,c,t,fun b G1 H1 c1 l1 t1=>?_⟩;cases b with
 | true=>rw [if_pos rfl] at t1 ⊢;exact ⟨σd,G1,d,rs.le l1,c1,t1,f.le l1⟩
 | false=>rw [if_neg Bool.false_ne_true] at t1 ⊢;exact ⟨σd,G1,d,rs.le l1,c1,t1,f.le l1⟩
theorem up8 {i:Nat} {v:V} {Q:St->Hp->Prop} (h:lowG K (ue4 i) v σ H Q):vb7 i v σ H Q:=by
 obtain ⟨d,σd,G,q,r,rs,c,t,f⟩:=h;exact f _ _ _ _ (rs.set i r) c (Le.refl H) t
theorem ux2 {vs:List V} {Q:St->Hp->Prop} (h:ux9 K jNil vs σ H Q):gNil vs σ H Q:=by
 obtain ⟨ds,σd,G,q,r,rs,c,⟨e,t⟩,f⟩:=h;subst e;exact ⟨r.inv_nil,f _ _ _ _ rs c (Le.refl H) t⟩
theorem up9 {t:TG3} {u:TGs3} {vs:List V} {Q:St->Hp->Prop} (h:ux9 K (uq9 t u) vs σ H Q):vq3 (lowG K t) (ux9 K u) vs σ H Q:=by
 obtain ⟨ds,σd,G,q,r,rs,c,t,f⟩:=h;cases ds with
 | nil=>exact t.elim
 | cons d ds =>
  obtain ⟨x,xs,rfl,r1,r2⟩:=r.inv_cons;exact ⟨x,xs,rfl,d,σd,G,_,r1,rs,c,t,fun σd' G' σ' H' rs' c' l' t'=>⟨ds,σd',G',q,RelDs.le l' r2,rs',c',t',f.le l'⟩⟩
theorem ux1 {to ti:TE3} {t:TSet3} {v:V} {Q:St->Hp->Prop} (h:lowG K (jSub to ti t) v σ H Q):gSub (lowE K to) (lowE K ti) (uq1 K t) v σ H Q:=by
 obtain ⟨d,σd,G,q,r,rs,c,t,f⟩:=h;exact ⟨σd,G,_,rs,c,t,fun o G1 vo H1 r1 c1 l1 t1=>⟨σd,G1,_,rs.le l1,c1,t1,fun i G2 vi H2 r2 c2 l2 t2=>⟨o,i,d,G2,_,RelD.le l2 r1,r2,RelD.le (l1.trans l2) r,c2,t2,fun G3 H3 c3 l3 t3 =>
  f _ _ _ _ (rs.le (l1.trans (l2.trans l3))) c3 (l1.trans (l2.trans l3)) t3⟩⟩⟩
theorem va7 {te:TE3} {g:TG3} (h:lowS K (dAsg te g) E σ H):tAsg (lowE K te) (lowG K g) E σ H:=by
 obtain ⟨σd,G,d,rs,c,t,f⟩:=h;exact ⟨σd,G,_,rs,c,t,fun x G1 v H1 r1 c1 l1 t1=>⟨x,σd,G1,_,r1,rs.le l1,c1,t1,f.nx.le l1⟩⟩
end
def whN (c:TT3) (tb:TS3) (E:Ends3):Nat->DSt->Gp->Prop
 | 0,_,_=>False
 | n+1,σ,G=>c σ G fun b G1=>if b=true then tb { E with nx:=whN c tb E n,ct:=whN c tb E n,bk:=E.nx } σ G1 else E.nx σ G1
def ut1 (c:TT3) (tb:TS3):TS3:=fun E σ G=>∃ n,whN c tb E n σ G
theorem up5 {K:W.Frag} {c:TT3} {tb:TS3} {σ:St} {H:Hp} {E:Ends} (h:lowS K (ut1 c tb) E σ H):v16 (lowT K c) (lowS K tb) E σ H:=by
 obtain ⟨σd,G,d,rs,cc,⟨n,t⟩,f⟩:=h;refine ⟨fun m σ' H'=>∃ σd' G',Le H H' /\ RelSt K H' σd' σ' /\ Con K G' H' /\ whN c tb d m σd' G',⟨n,σd,G,Le.refl H,rs,cc,t⟩,?_⟩;rintro m σ1 H1 ⟨σd1,G1,l1,rs1,c1,t1⟩;cases m with
 | zero=>exact t1.elim
 | succ m =>
  refine ⟨σd1,G1,_,rs1,c1,t1,fun b G2 H2 c2 l2 t2=>?_⟩;cases b with
  | true =>
   rw [if_pos rfl] at t2 ⊢;refine ⟨fun σ' H'=>∃ σd' G',Le H H' /\ RelSt K H' σd' σ' /\ Con K G' H' /\ whN c tb d m σd' G',fun σ' H' w=>⟨m,Nat.lt_succ_self m,w⟩,σd1,G2,_,rs1.le l2,c2,t2,?_,?_,?_,?_⟩
   ·exact fun σd3 G3 σ3 H3 rs3 c3 l3 t3=>⟨σd3,G3,l1.trans (l2.trans l3),rs3,c3,t3⟩
   ·exact f.rt.le (l1.trans l2)
   ·exact f.nx.le (l1.trans l2)
   ·exact fun σd3 G3 σ3 H3 rs3 c3 l3 t3=>⟨σd3,G3,l1.trans (l2.trans l3),rs3,c3,t3⟩
  | false =>
   rw [if_neg Bool.false_ne_true] at t2 ⊢;exact f.nx _ _ _ _ (rs1.le l2) c2 (l1.trans l2) t2
structure IT where
 items:List D
 ok:Gp->Prop
structure ItRel (K:W.Frag) (H0:Hp) (it:IT) (J:It):Prop where
 go:∀ (i:Nat) G H,Le H0 H->Con K G H->it.ok G->i < it.items.length->J.go i H
 stop:∀ (i:Nat) G H,Le H0 H->Con K G H->it.ok G->it.items.length<=i->J.stop i H
 yld:∀ (i:Nat) G H x H',Le H0 H->Con K G H->it.ok G->i < it.items.length->J.yld i H x H'->Con K G H' /\ Le H H' /\ ∃ d,it.items[i]?=some d /\ RelD K H' d x
abbrev TI3:=DSt->Gp->(IT->Gp->Prop)->Prop
def lowI (K:W.Frag) (t:TI3):TI:=fun σ H R=>∃ σd G r,RelSt K H σd σ /\ Con K G H /\ t σd G r /\ ∀ it J G' H',ItRel K H' it J->Con K G' H'->Le H H'->r it G'->R J H'
def forL (ok:Gp->Prop) (g:TG3) (tb:TS3) (E:Ends3):List D->DSt->Gp->Prop
 | [],σ,G=>ok G /\ E.nx σ G
 | x::r,σ,G=>ok G /\ g x σ G fun σ1 G1=>tb { E with nx:=forL ok g tb E r,ct:=forL ok g tb E r,bk:=E.nx } σ1 G1
def dFor (wi:TI3) (g:TG3) (tb:TS3):TS3:=fun E σ G=>wi σ G fun it G1=>forL it.ok g tb E it.items σ G1
theorem va5 {K:W.Frag} {wi:TI3} {g:TG3} {tb:TS3} {σ:St} {H:Hp} {E:Ends} (h:lowS K (dFor wi g tb) E σ H):tFor (lowI K wi) (lowG K g) (lowS K tb) E σ H:=by
 obtain ⟨σd,G,d,rs,cc,t,f⟩:=h;refine ⟨σd,G,_,rs,cc,t,fun it J G1 H1 ir c1 l1 t1=>?_⟩;refine ⟨fun i m σ' H'=>∃ σd' G',Le H1 H' /\ RelSt K H' σd' σ' /\ Con K G' H' /\ i+m=it.items.length /\ forL it.ok g tb d (it.items.drop i) σd' G',⟨it.items.length,σd,G1,Le.refl _,rs.le l1,c1,by omega,by rw [List.drop_zero];exact t1⟩,?_⟩;rintro i m σ2 H2 ⟨σd2,G2,l2,rs2,c2,e2,t2⟩
 by_cases hi:i < it.items.length
 ·rw [List.drop_eq_getElem_cons hi] at t2
  obtain ⟨ok2,t2⟩:=t2;refine .inr ⟨ir.go i G2 H2 l2 c2 ok2 hi,fun σ' H'=>∃ σd' G',Le H1 H' /\ RelSt K H' σd' σ' /\ Con K G' H' /\ forL it.ok g tb d (it.items.drop (i+1)) σd' G',?_,?_⟩
  ·rintro σ' H' ⟨σd',G',a1,a2,a3,a4⟩
   exact ⟨m - 1,by omega,σd',G',a1,a2,a3,by omega,a4⟩
  ·intro x H3 y
   obtain ⟨c3,l3,e,he,r3⟩:=ir.yld i G2 H2 x H3 l2 c2 ok2 hi y;rw [List.getElem?_eq_getElem hi] at he;cases he;refine ⟨_,σd2,G2,_,r3,rs2.le l3,c3,t2,fun σd4 G4 σ4 H4 rs4 c4 l4 t4=>?_⟩;have l14:Le H1 H4:=l2.trans (l3.trans l4);have key:FutS K H4 (forL it.ok g tb d (it.items.drop (i+1))) (fun σ' H'=>∃ σd' G',Le H1 H' /\ RelSt K H' σd' σ' /\ Con K G' H' /\ forL it.ok g tb d (it.items.drop (i+1)) σd' G') :=
    fun σd5 G5 σ5 H5 rs5 c5 l5 t5=>⟨σd5,G5,l14.trans l5,rs5,c5,t5⟩
   exact ⟨σd4,G4,_,rs4,c4,t4,key,f.rt.le (l1.trans l14),f.nx.le (l1.trans l14),key⟩
 ·rw [List.drop_eq_nil_of_le (by omega)] at t2
  exact .inl ⟨ir.stop i G2 H2 l2 c2 t2.1 (by omega),f.nx _ _ _ _ rs2 c2 (l1.trans l2) t2.2⟩
theorem RelDs.at_ {K:W.Frag} {H:Hp} {ds:List D} {xs:List V} {i:Nat} {x:V} (h:RelDs K H ds xs) (e:xs[i]?=some x):∃ d,ds[i]?=some d /\ RelD K H d x:=by
 have hl:i < ds.length:=by rw [h.length];exact (List.getElem?_eq_some_iff.mp e).1
 obtain ⟨y,hy,r⟩:=h.get (List.getElem?_eq_getElem hl);rw [e] at hy;cases hy;exact ⟨_,List.getElem?_eq_getElem hl,r⟩
theorem ur1 {K:W.Frag} {H0:Hp} {a:Addr} {ds:List D} {xs:List V} (s:SqT K H0 a xs) (r:RelDs K H0 ds xs):ItRel K H0 ⟨ds,fun _=>True⟩ (Itt K a) where
 go:=fun i G H l c _ hi=>⟨xs,xs[i]'(by rw [<- r.length];exact hi),l.sqT s,List.getElem?_eq_getElem _⟩
 stop:=fun i G H l c _ hi=>⟨xs,l.sqT s,by rw [<- r.length];exact hi⟩
 yld:=fun i G H x H' l c _ hi y=>by
  obtain ⟨e,y⟩:=y;subst e;have hx:=y xs (l.sqT s);obtain ⟨d,hd,rd⟩:=(RelDs.le l r).at_ hx
  exact ⟨c,Le.refl _,d,hd,rd⟩
def u11:Option DO->Option (List D)
 | some (.lst xs)=>some xs
 | some (.fro xs)=>some xs
 | _=>none
theorem u14 {K:W.Frag} {G:Gp} {H:Hp} {a:Addr} {ds:List D} (c:Con K G H) (h:u11 (G a)=some ds):∃ xs,SqL K H a xs /\ RelDs K H ds xs:=by
 cases e:G a with
 | none=>rw [e] at h;cases h
 | some o =>
  rw [e] at h;have q:=c a o e;cases o with
  | lst xs=>cases h;obtain ⟨ys,q,r⟩:=q;exact ⟨ys,.inl (.inl q),r⟩
  | fro xs=>cases h;obtain ⟨o,ys,q,r⟩:=q;exact ⟨ys,.inl (.inr ⟨o,q⟩),r⟩
  | dic _=>cases h
  | dit _=>cases h
  | ins _ _=>cases h
  | exc _ _=>cases h
  | frd _=>cases h
  | tb _ _=>cases h
theorem ul2 {K:W.Frag} {H0:Hp} {a:Addr} {ds:List D}:ItRel K H0 ⟨ds,fun G=>u11 (G a)=some ds⟩ (Itl K a) where
 go:=fun i G H l c ok hi=>by
  obtain ⟨xs,s,r⟩:=u14 c ok;exact ⟨xs,xs[i]'(by rw [<- r.length];exact hi),s,List.getElem?_eq_getElem _⟩
 stop:=fun i G H l c ok hi=>by
  obtain ⟨xs,s,r⟩:=u14 c ok;exact ⟨xs,s,by rw [<- r.length];exact hi⟩
 yld:=fun i G H x H' l c ok hi y=>by
  obtain ⟨e,y⟩:=y;subst e;obtain ⟨xs,s,r⟩:=u14 c ok;obtain ⟨d,hd,rd⟩:=r.at_ (y xs s)
  exact ⟨c,Le.refl _,d,hd,rd⟩
def rngD (lo:Int) (n:Nat):List D:=(List.range n).map fun (i:Nat)=>.int (lo+i)
theorem u79 {K:W.Frag} {H0:Hp} {lo:Int} {n:Nat}:ItRel K H0 ⟨rngD lo n,fun _=>True⟩ (Itr lo n) where
 go:=fun i G H l c _ hi=>by
  have:i < n:=by simpa [rngD] using hi
  exact this
 stop:=fun i G H l c _ hi=>by
  have:n<=i:=by simpa [rngD] using hi
  exact this
 yld:=fun i G H x H' l c _ hi y=>by
  obtain ⟨e,y⟩:=y;subst e;subst y;refine ⟨c,Le.refl _,.int (lo+i),?_,by rw [RelD]⟩;have:i < n:=by simpa [rngD] using hi
  simp [rngD,this]
abbrev Sp3:=List D->Gp->DK->Prop
def ue3 (K:W.Frag) (S:Sp3):Sp:=fun vs H Q _=>∃ ds G R,RelDs K H ds vs /\ Con K G H /\ S ds G R /\ FutE K H R Q
def dCall (S:Sp3) (dds:List D) (t:TA3):TE3:=fun σ G q=>t σ G fun ds G1=>∃ R,S (ds++dds) G1 R /\ ∀ d G',R d G'->q d G'
def vr0 (C:Addr) (m:Str) (S:Sp3) (dds:List D) (ta:TE3) (t:TA3):TE3:=fun σ G q=>ta σ G fun x G1=>match x with
 | .ref a=>(match G1 a with
  | some (.ins C' fs)=>C'=C /\ fs.lookup m=none /\ t σ G1 fun ds G2=>∃ R,S (.ref a::(ds++dds)) G2 R /\ ∀ d G',R d G'->q d G'
  | _=>False)
 | _=>False
def vw2 (C:Addr) (S:Sp3) (dds:List D) (t:TA3):TE3:=fun σ G q=>t σ G fun ds G1=>∀ x,G1 x=none ->
 ∃ R,S (.ref x::(ds++dds)) (gup G1 x (.ins C [])) R /\ ∀ d G',R d G'->d=.non /\ q (.ref x) G'
def putD (f:Str) (v:D):List (Str × D)->List (Str × D)
 | []=>[(f,v)]
 | (g,u)::r=>if g=f then (g,v)::r else (g,u)::putD f v r
def dFld (C:Addr) (ta:TE3) (f:Str):TE3:=fun σ G q=>ta σ G fun x G1=>match x with
 | .ref a=>(match G1 a with
  | some (.ins C' fs)=>C'=C /\ (match fs.lookup f with | some d=>q d G1 | none=>False)
  | _=>False)
 | _=>False
def vw0 (C:Addr) (ta tv:TE3) (f:Str):TS3:=fun E σ G=>tv σ G fun y G1=>ta σ G1 fun x G2=>match x with
 | .ref a=>(match G2 a with
  | some (.ins C' fs)=>C'=C /\ fs.length < 1000 /\ E.nx σ (gup G2 a (.ins C (putD f y fs)))
  | _=>False)
 | _=>False
def vw3 (C:Addr) (ta tv:TE3) (r:R3) (f:Str):TS3:=fun E σ G=>ta σ G fun x G1=>match x with
 | .ref a=>(match G1 a with
  | some (.ins C' fs)=>C'=C /\ (match fs.lookup f with
   | some d=>tv σ G1 fun y G2=>r d y G2 fun z G3=>(match G3 a with
    | some (.ins C'' fs')=>C''=C /\ fs'.length < 1000 /\ E.nx σ (gup G3 a (.ins C (putD f z fs')))
    | _=>False)
   | none=>False)
  | _=>False)
 | _=>False
section
variable {K:W.Frag} {σ:St} {H:Hp} {Q:VK} {E:Ends}
theorem ux5 {S:Sp3} {dds:List D} {dvs:List V} {t:TA3} {XE:XK} (hd:∀ H,RelDs K H dds dvs) (h:lowE K (dCall S dds t) σ H Q):vh2 (ue3 K S) dvs XE (lowA K t) σ H Q:=by
 obtain ⟨σd,G,q,rs,c,t,f⟩:=h;exact ⟨σd,G,_,rs,c,t,fun ds G1 vs H1 r1 c1 l1 ⟨R,s1,t1⟩=>⟨_,G1,R,r1.append (hd H1),c1,s1,fun d G2 v H2 r2 c2 l2 t2=>f d G2 v H2 r2 c2 (l1.trans l2) (t1 d G2 t2)⟩⟩
theorem RelD.refI {a:Addr}:RelD K H (.ref a) (.ref a):=by rw [RelD]
theorem RelD.ref_inv {a:Addr} {v:V} (h:RelD K H (.ref a) v):v=.ref a:=by rw [RelD] at h;exact h
theorem RelPs.lookup_none {κ:Type} [BEq κ] {k:κ}:∀ {ps:List (κ × D)} {qs:List (κ × V)},RelPs K H ps qs->ps.lookup k=none->qs.lookup k=none
 | [],qs,h,_=>by
  cases qs with
  | nil=>rfl
  | cons _ _=>have:=h.1;simp at this
 | (g,d)::ps,qs,h,e=>by
  cases qs with
  | nil=>have:=h.1;simp at this
  | cons q qs =>
   obtain ⟨g',v⟩:=q;have h1:=h.1;simp only [List.map_cons,List.cons.injEq] at h1;obtain ⟨rfl,h1⟩:=h1;obtain ⟨x,r,e2,_,h2⟩:=(show RelDs K H (d::ps.map (·.2)) (v::qs.map (·.2)) from h.2).inv_cons;cases e2;rw [List.lookup_cons] at e ⊢;cases hk:k == g with
   | true=>rw [hk] at e;cases e
   | false=>rw [hk] at e;exact RelPs.lookup_none ⟨h1,h2⟩ e
theorem RelPs.lookup {κ:Type} [BEq κ] {k:κ} {d:D}:∀ {ps:List (κ × D)} {qs:List (κ × V)},RelPs K H ps qs->ps.lookup k=some d->∃ v,qs.lookup k=some v /\ RelD K H d v
 | [],qs,h,e=>by cases e
 | (g,d')::ps,qs,h,e=>by
  cases qs with
  | nil=>have:=h.1;simp at this
  | cons q qs =>
   obtain ⟨g',v⟩:=q;have h1:=h.1;simp only [List.map_cons,List.cons.injEq] at h1;obtain ⟨rfl,h1⟩:=h1;obtain ⟨x,r,e2,r1,h2⟩:=(show RelDs K H (d'::ps.map (·.2)) (v::qs.map (·.2)) from h.2).inv_cons;cases e2;rw [List.lookup_cons] at e ⊢;cases hk:k == g with
   | true=>rw [hk] at e;cases e;exact ⟨v,rfl,r1⟩
   | false=>rw [hk] at e;exact RelPs.lookup ⟨h1,h2⟩ e
theorem RelPs.nil {κ:Type}:RelPs (κ:=κ) K H [] []:=⟨rfl,.nil⟩
theorem RelPs.cons {κ:Type} {k:κ} {d:D} {v:V} {ps:List (κ × D)} {qs:List (κ × V)} (r:RelD K H d v) (h:RelPs K H ps qs):RelPs K H ((k,d)::ps) ((k,v)::qs) :=
 ⟨by simp [h.1],.cons r h.2⟩
theorem RelPs.inv_cons {κ:Type} {k:κ} {d:D} {ps:List (κ × D)} {qs:List (κ × V)} (h:RelPs K H ((k,d)::ps) qs):∃ v r,qs=(k,v)::r /\ RelD K H d v /\ RelPs K H ps r:=by
 cases qs with
 | nil=>have:=h.1;simp at this
 | cons q qs =>
  obtain ⟨g',v⟩:=q;have h1:=h.1;simp only [List.map_cons,List.cons.injEq] at h1;obtain ⟨rfl,h1⟩:=h1;obtain ⟨x,r,e2,r1,h2⟩:=(show RelDs K H (d::ps.map (·.2)) (v::qs.map (·.2)) from h.2).inv_cons;cases e2;exact ⟨v,qs,rfl,r1,h1,h2⟩
theorem RelPs.inv_nil {κ:Type} {qs:List (κ × V)} (h:RelPs K H [] qs):qs=[]:=by
 cases qs with
 | nil=>rfl
 | cons _ _=>have:=h.1;simp at this
theorem RelPs.length {κ:Type} {ps:List (κ × D)} {qs:List (κ × V)} (h:RelPs K H ps qs):ps.length=qs.length:=by
 have:=h.2.length;simpa using this
theorem vs1 {C:Addr} {m:Str} {S:Sp3} {dds:List D} {dvs:List V} {ta:TE3} {t:TA3} {XE:XK} (hd:∀ H,RelDs K H dds dvs) (h:lowE K (vr0 C m S dds ta t) σ H Q):vt4 C m (ue3 K S) dvs XE (lowE K ta) (lowA K t) σ H Q:=by
 obtain ⟨σd,G,q,rs,c,t,f⟩:=h;refine ⟨σd,G,_,rs,c,t,fun x G1 v H1 r1 c1 l1 t1=>?_⟩;split at t1
 ·rename_i a
  split at t1
  ·rename_i C' fs e
   obtain ⟨rfl,n,t1⟩:=t1;obtain ⟨dx,ys,e2,rf⟩:=c1 _ _ e;refine ⟨a,dx,ys,r1.ref_inv,e2,rf.lookup_none n,σd,G1,_,rs.le l1,c1,t1,fun ds G2 vs H2 r2 c2 l2 ⟨R,s2,t2⟩=>?_⟩;exact ⟨_,G2,R,.cons (RelD.le l2 r1) (r2.append (hd H2)),c2,s2,fun d G3 v H3 r3 c3 l3 t3=>f d G3 v H3 r3 c3 (l1.trans (l2.trans l3)) (t2 d G3 t3)⟩
  ·exact t1.elim
 ·exact t1.elim
theorem vv5 {te:TE3} {Q:Bool->Hp->Prop} (h:lowT K (dB te) σ H Q):tB (lowE K te) σ H Q:=by
 obtain ⟨σd,G,q,rs,c,t,f⟩:=h;refine ⟨σd,G,_,rs,c,t,fun x G1 v H1 r1 c1 l1 t1=>?_⟩;split at t1
 ·rename_i k
  exact ⟨k,r1.bl_inv,f _ _ _ c1 l1 t1⟩
 ·exact t1.elim
theorem ux7 {ta tb:TE3} (h:lowE K (vc8 ta tb) σ H Q):vh3 (lowE K ta) (lowE K tb) σ H Q:=by
 obtain ⟨σd,G,q,rs,c,t,f⟩:=h;refine ⟨σd,G,_,rs,c,t,fun x G1 v H1 r1 c1 l1 t1=>?_⟩;split at t1
 ·rename_i k
  refine ⟨k,r1.bl_inv,?_⟩;cases k with
  | true=>rw [if_pos rfl] at t1 ⊢;exact ⟨σd,G1,q,rs.le l1,c1,t1,f.le l1⟩
  | false=>rw [if_neg Bool.false_ne_true] at t1 ⊢;exact f _ _ _ _ (by rw [RelD]) c1 l1 t1
 ·exact t1.elim
theorem va0 {ta tb:TE3} (h:lowE K (dOrV ta tb) σ H Q):tOrV (lowE K ta) (lowE K tb) σ H Q:=by
 obtain ⟨σd,G,q,rs,c,t,f⟩:=h;refine ⟨σd,G,_,rs,c,t,fun x G1 v H1 r1 c1 l1 t1=>?_⟩;split at t1
 ·rename_i k
  refine ⟨k,r1.bl_inv,?_⟩;cases k with
  | false=>rw [if_neg Bool.false_ne_true] at t1 ⊢;exact ⟨σd,G1,q,rs.le l1,c1,t1,f.le l1⟩
  | true=>rw [if_pos rfl] at t1 ⊢;exact f _ _ _ _ (by rw [RelD]) c1 l1 t1
 ·exact t1.elim
theorem uw8 {ta:TE3} (h:lowE K (vc4 ta) σ H Q):vg8 (lowE K ta) σ H Q:=by
 obtain ⟨σd,G,q,rs,c,t,f⟩:=h;refine ⟨σd,G,_,rs,c,t,fun x G1 v H1 r1 c1 l1 t1=>?_⟩;split at t1
 ·rename_i k
  exact ⟨k,r1.bl_inv,f _ _ _ _ (by rw [RelD]) c1 l1 t1⟩
 ·exact t1.elim
def dAug (i:Nat) (te:TE3) (r:R3):TS3:=fun E σ G=>match σ[i]? with
 | some (some x)=>te σ G fun y G1=>r x y G1 fun z G2=>E.nx (σ.set i (some z)) G2
 | _=>False
theorem va6 {i:Nat} {te:TE3} {r:R3} (h:lowS K (dAug i te r) E σ H):tAug i (lowE K te) (lowR K r) E σ H:=by
 obtain ⟨σd,G,d,rs,c,t,fu⟩:=h;unfold dAug at t;split at t
 ·rename_i x e
  obtain ⟨v,hv,r1⟩:=rs.2 i x e;refine ⟨v,hv,σd,G,_,rs,c,t,fun y G1 u H1 r2 c1 l1 t1=>?_⟩;exact ⟨x,y,G1,_,RelD.le l1 r1,r2,c1,t1,fun z G2 vz H2 r3 c2 l2 t2=>fu.nx _ _ _ _ ((rs.le (l1.trans l2)).set i r3) c2 (l1.trans l2) t2⟩
 ·exact t.elim
abbrev TO3:=DSt->Gp->(Option Int->Gp->Prop)->Prop
def lowO (K:W.Frag) (t:TO3):TO:=fun σ H Q=>∃ σd G q,RelSt K H σd σ /\ Con K G H /\ t σd G q /\ ∀ o G' H',Con K G' H'->Le H H'->q o G'->Q o H'
def ug8:TO3:=fun _ G q=>q none G
def vc3 (t:TE3):TO3:=fun σ G q=>t σ G fun x G1=>match x with | .int i=>q (some i) G1 | _=>False
theorem ul0 {Q:Option Int->Hp->Prop} (h:lowO K ug8 σ H Q):um8 σ H Q:=by
 obtain ⟨σd,G,q,rs,c,t,f⟩:=h;exact f _ _ _ c (Le.refl H) t
theorem uw7 {t:TE3} {Q:Option Int->Hp->Prop} (h:lowO K (vc3 t) σ H Q):vg7 (lowE K t) σ H Q:=by
 obtain ⟨σd,G,q,rs,c,t,f⟩:=h;refine ⟨σd,G,_,rs,c,t,fun x G1 v H1 r1 c1 l1 t1=>?_⟩;split at t1
 ·rename_i k
  rw [RelD] at r1;exact ⟨k,r1,f _ _ _ c1 l1 t1⟩
 ·exact t1.elim
abbrev RS3:=D->Option Int->Option Int->Gp->DK->Prop
def va8 (K:W.Frag) (r:RS3):V->Option Int->Option Int->Hp->VK->Prop:=fun x l u H Q=>∃ d G q,RelD K H d x /\ Con K G H /\ r d l u G q /\ FutE K H q Q
def dSl (r:RS3) (te:TE3) (tl th:TO3):TE3:=fun σ G q=>te σ G fun x G1=>tl σ G1 fun l G2=>th σ G2 fun u G3=>r x l u G3 q
theorem vn9 {r:RS3} {te:TE3} {tl th:TO3} (h:lowE K (dSl r te tl th) σ H Q):tSl (va8 K r) (lowE K te) (lowO K tl) (lowO K th) σ H Q:=by
 obtain ⟨σd,G,q,rs,c,t,f⟩:=h;exact ⟨σd,G,_,rs,c,t,fun x G1 v H1 r1 c1 l1 t1=>⟨σd,G1,_,rs.le l1,c1,t1,fun o G2 H2 c2 l2 t2=>⟨σd,G2,_,rs.le (l1.trans l2),c2,t2,fun u G3 H3 c3 l3 t3 =>
  ⟨x,G3,q,RelD.le (l2.trans l3) r1,c3,t3,f.le (l1.trans (l2.trans l3))⟩⟩⟩⟩
def dCB (r:C3) (t:TA3):TE3:=fun σ G q=>t σ G fun ds G1=>r ds G1 q
theorem v31 {r:C3} {t:TA3} (h:lowE K (dCB r t) σ H Q):tCB (lowC K r) (lowA K t) σ H Q:=by
 obtain ⟨σd,G,q,rs,c,t,f⟩:=h;exact ⟨σd,G,_,rs,c,t,fun ds G1 vs H1 r1 c1 l1 t1=>⟨ds,G1,q,r1,c1,t1,f.le l1⟩⟩
abbrev M3:=D->List D->Gp->DK->Prop
def lowM (K:W.Frag) (r:M3):V->List V->Hp->VK->Prop:=fun x xs H Q=>∃ d ds G q,RelD K H d x /\ RelDs K H ds xs /\ Con K G H /\ r d ds G q /\ FutE K H q Q
def tyD (G:Gp) (T:String):D->Prop
 | .str _=>T = "str"
 | .int _=>T = "int"
 | .ref a=>match G a with
  | some (.lst _)=>T = "list"
  | some (.fro _)=>T = "list"
  | some (.dic _)=>T = "dict"
  | _=>False
 | _=>False
def dBM (T:String) (r:M3) (to:TE3) (t:TA3):TE3:=fun σ G q=>to σ G fun x G1=>tyD G1 T x /\ t σ G1 fun ds G2=>r x ds G2 q
def dBM0 (T:String) (r:M3) (to:TE3):TE3:=fun σ G q=>to σ G fun x G1=>tyD G1 T x /\ r x [] G1 q
theorem vo2 {T:String} {r:M3} {to:TE3} {t:TA3} (ty:∀ G H x v,Con K G H->RelD K H x v->tyD G T x->tyV K T v H) (h:lowE K (dBM T r to t) σ H Q):tBM K T (lowM K r) (lowE K to) (lowA K t) σ H Q:=by
 obtain ⟨σd,G,q,rs,c,t,f⟩:=h;exact ⟨σd,G,_,rs,c,t,fun x G1 v H1 r1 c1 l1 ⟨y,t1⟩=>⟨ty G1 H1 x v c1 r1 y,σd,G1,_,rs.le l1,c1,t1,fun ds G2 vs H2 r2 c2 l2 t2=>⟨x,ds,G2,q,RelD.le l2 r1,r2,c2,t2,f.le (l1.trans l2)⟩⟩⟩
theorem uq0 {T:String} {r:M3} {to:TE3} (ty:∀ G H x v,Con K G H->RelD K H x v->tyD G T x->tyV K T v H) (h:lowE K (dBM0 T r to) σ H Q):tBM0 K T (lowM K r) (lowE K to) σ H Q:=by
 obtain ⟨σd,G,q,rs,c,t,f⟩:=h;exact ⟨σd,G,_,rs,c,t,fun x G1 v H1 r1 c1 l1 ⟨y,t1⟩=>⟨ty G1 H1 x v c1 r1 y,x,[],G1,q,r1,.nil,c1,t1,f.le l1⟩⟩
end
end L3
namespace L3
open PySem PySem.Spec PyProof.Rows L2
section
variable {X:Cx}
theorem u20 {e:Expr} {t t':TE} (h:PE X e t) (w:∀ σ H Q,t' σ H Q->t σ H Q):PE X e t':=fun pins s σ H Q I q=>h pins s σ H Q I (w _ _ _ q)
theorem v49 {e:Expr} {t t':TT} (h:PT X e t) (w:∀ σ H Q,t' σ H Q->t σ H Q):PT X e t':=fun pins s σ H Q I q=>h pins s σ H Q I (w _ _ _ q)
theorem ve6 {e:Expr} {t t':TT} (h:PW X e t) (w:∀ σ H Q,t' σ H Q->t σ H Q):PW X e t':=fun wh pins s σ H Q I q=>h wh pins s σ H Q I (w _ _ _ q)
theorem vf0 {e:List Expr} {t t':TA} (h:PA X e t) (w:∀ σ H Q,t' σ H Q->t σ H Q):PA X e t':=fun pos pins s σ H Q I q=>h pos pins s σ H Q I (w _ _ _ q)
theorem u88 {e:Stmt} {t t':TS} (h:PS X e t) (w:∀ D σ H,t' D σ H->t D σ H):PS X e t':=fun pins s σ H D I q=>h pins s σ H D I (w _ _ _ q)
theorem v07 {e:List Stmt} {t t':TS} (h:PSs X e t) (w:∀ D σ H,t' D σ H->t D σ H):PSs X e t':=fun pins s σ H D I q=>h pins s σ H D I (w _ _ _ q)
theorem v53 {e:Expr} {t t':TG} (h:PG X e t) (w:∀ v σ H Q,t' v σ H Q->t v σ H Q):PG X e t':=fun pins s σ H v u Q I r q=>h pins s σ H v u Q I r (w _ _ _ _ q)
theorem v08 {e:List Expr} {t t':TGs} (h:PGs X e t) (w:∀ v σ H Q,t' v σ H Q->t v σ H Q):PGs X e t':=fun pins s σ H v u Q I r q=>h pins s σ H v u Q I r (w _ _ _ _ q)
theorem v50 {t t':TSet} (h:PSet X t) (w:∀ o i v H Q,t' o i v H Q->t o i v H Q):PSet X t':=fun pins s σ H o i v ov iv u Q I r1 r2 r3 q=>h pins s σ H o i v ov iv u Q I r1 r2 r3 (w _ _ _ _ _ q)
theorem v52 {tg e:Expr} {t t':TI} (h:PI X tg e t) (w:∀ σ H R,t' σ H R->t σ H R):PI X tg e t':=fun pins s σ H R I q=>h pins s σ H R I (w _ _ _ q)
theorem u50 {f:Value->Value->Sem Value} {r r':R2} (h:OpR X f r) (w:∀ x y H Q,r' x y H Q->r x y H Q):OpR X f r':=fun pins s σ H x y v u Q I a b q=>h pins s σ H x y v u Q I a b (w _ _ _ _ q)
theorem v06 {f:Value->Sem Value} {r r':V->Hp->VK->Prop} (h:UnR X f r) (w:∀ x H Q,r' x H Q->r x H Q):UnR X f r':=fun pins s σ H x v Q I a q=>h pins s σ H x v Q I a (w _ _ _ q)
theorem u46 {f:Value} {r r':List V->Hp->VK->Prop} (h:CallR X f r) (w:∀ x H Q,r' x H Q->r x H Q):CallR X f r':=fun pins s σ H x v Q I a q=>h pins s σ H x v Q I a (w _ _ _ q)
theorem um4 {id:String} {r r':V->List V->Hp->VK->Prop} (h:MtR X id r) (w:∀ x xs H Q,r' x xs H Q->r x xs H Q):MtR X id r':=fun pins s σ H x xs v us Q I a b q=>h pins s σ H x xs v us Q I a b (w _ _ _ _ q)
theorem ve9 {r r':R2} (h:IxR X r) (w:∀ x y H Q,r' x y H Q->r x y H Q):IxR X r':=fun va sl pins s σ H x y v u Q I a b q=>h va sl pins s σ H x y v u Q I a b (w _ _ _ _ q)
theorem ve7 {r r':V->Option Int->Option Int->Hp->VK->Prop} (h:SlR X r) (w:∀ x l u H Q,r' x l u H Q->r x l u H Q):SlR X r':=by
 intro pins s σ H x lo hi
 intros
 apply h <;> first | assumption | (apply w;assumption)
theorem ve8 {e:Option Expr} {t t':TO} (h:PO X e t) (w:∀ σ H Q,t' σ H Q->t σ H Q):PO X e t':=by
 intro pins s σ H Q I q;exact h pins s σ H Q I (w _ _ _ q)
theorem v51 {e:List Expr} {t t':TT} (h:PIfs X e t) (w:∀ σ H Q,t' σ H Q->t σ H Q):PIfs X e t':=fun pins s σ H Q I q=>h pins s σ H Q I (w _ _ _ q)
end
def E3 (X:Cx) (e:Expr) (t:TE3):Prop:=PE X e (lowE X.K t)
def T3 (X:Cx) (e:Expr) (t:TT3):Prop:=PT X e (lowT X.K t)
def W3 (X:Cx) (e:Expr) (t:TT3):Prop:=PW X e (lowT X.K t)
def A3 (X:Cx) (es:List Expr) (t:TA3):Prop:=PA X es (lowA X.K t)
def S3 (X:Cx) (st:Stmt) (t:TS3):Prop:=PS X st (lowS X.K t)
def Ss3 (X:Cx) (sts:List Stmt) (t:TS3):Prop:=PSs X sts (lowS X.K t)
def J3 (X:Cx) (e:Expr) (t:TG3):Prop:=PG X e (lowG X.K t)
def Js3 (X:Cx) (es:List Expr) (t:TGs3):Prop:=PGs X es (ux9 X.K t)
def I3 (X:Cx) (tg e:Expr) (t:TI3):Prop:=PI X tg e (lowI X.K t)
def O3 (X:Cx) (e:Option Expr) (t:TO3):Prop:=PO X e (lowO X.K t)
def Ifs3 (X:Cx) (es:List Expr) (t:TT3):Prop:=PIfs X es (lowT X.K t)
abbrev Op3 (X:Cx) (f:Value->Value->Sem Value) (r:R3):Prop:=OpR X f (lowR X.K r)
abbrev Call3 (X:Cx) (f:Value) (r:C3):Prop:=CallR X f (lowC X.K r)
section
variable {X:Cx} {a b c e o:Expr} {es:List Expr} {pos apos cpos p p2:Pos} {ta tb tc te:TE3} {t u:TT3} {ts us:TA3}
theorem ev (i:Nat) {x:Str} {pos:Pos} (hN:X.N[i]?=some x:=by rfl) (hv:Vis X.env.scope x:=by first | exact Or.inl rfl | exact Or.inr (Or.inl rfl) | exact Or.inr (Or.inr rfl)) (hd:(x == ("__debug__" : Str))=false:=by decide)
  (hcd:(x == ("__classdict__" : Str))=false:=by decide):E3 X (.Name x pos) (dVar i):=u20 (vj2 hN hv hd hcd) fun _ _ _=>v96
theorem u03 {i j pos}:E3 X (.Constant (.int i) j pos) (dC (.int i)):=u20 vj8 fun _ _ _=>ux6 fun _=>by rw [RelD]
theorem e_bl {i j pos}:E3 X (.Constant (.bool i) j pos) (dC (.bl i)):=u20 vv0 fun _ _ _=>ux6 fun _=>by rw [RelD]
theorem ug5 {x j pos}:E3 X (.Constant (.str x) j pos) (dC (.str x)):=u20 vj4 fun _ _ _=>ux6 fun _=>by rw [RelD]
theorem u08 {op:Operator} {r:R3} (ho:Op3 X (binaryOp op) r) (ha:E3 X a ta) (hb:E3 X b tb):E3 X (.BinOp a op b pos) (dOp r ta tb):=u20 (vu7 ho ha hb) fun _ _ _=>ui8
theorem e_un {op:UnaryOp} {r:U3} (ho:UnR X (unaryOp op) (lowU X.K r)) (ha:E3 X a ta):E3 X (.UnaryOp op a pos) (dUn r ta):=u20 (vu5 ho ha) fun _ _ _=>vn8
theorem uy8 {op:CmpOp} {r:R3} (ho:Op3 X (compareOp op) r) (ha:E3 X a ta) (hb:E3 X b tb) (hm:behindInMarks op b=false):E3 X (.Compare a [op] [b] pos) (dOp r ta tb):=u20 (v86 ho ha hb hm) fun _ _ _=>ui8
theorem u21 {op:CmpOp} {r:R3} (ho:Op3 X (compareOp op) r) (ha:E3 X a ta) (hb:E3 X b tb) (hm:behindInMarks op b=false):T3 X (.Compare a [op] [b] pos) (dB (dOp r ta tb)) :=
 v49 (v72 ho ha hb hm) fun σ H Q h=>by
  obtain ⟨σd,G,q,rs,c,t,f⟩:=h;exact ui8 (K:=X.K) ⟨σd,G,_,rs,c,t,fun x G1 v H1 r1 c1 l1 t1=>by
   split at t1
   ·rename_i k
    exact ⟨k,r1.bl_inv,f _ _ _ c1 l1 t1⟩
   ·exact t1.elim⟩
theorem um6 (h:E3 X e te) (he:∀ whole,isTrue e X.env whole=(do let v <- whole;standAt e.pos;holding [v] (truthy v)):=by intro _;rfl):T3 X e (dB te):=v49 (vi2 h he) fun _ _ _=>vv5
theorem vf9 (ha:T3 X a t):W3 X (.BoolOp .And [a] pos) t:=v71 ha
theorem uu5 (ha:T3 X a t):W3 X (.BoolOp .Or [a] pos) t:=vi0 ha
theorem w_and {rest:List Expr} (ha:T3 X a t) (hb:W3 X (.BoolOp .And (b::rest) pos) u):W3 X (.BoolOp .And (a::b::rest) pos) (dAnd t u):=ve6 (vi1 ha hb) fun _ _ _=>ux8
theorem w_or {rest:List Expr} (ha:T3 X a t) (hb:W3 X (.BoolOp .Or (b::rest) pos) u):W3 X (.BoolOp .Or (a::b::rest) pos) (dOr t u):=ve6 (vu2 ha hb) fun _ _ _=>va1
theorem t_w (h:W3 X e t):T3 X e t:=PW.pt h
theorem vg6 (ha:T3 X a t):T3 X (.UnaryOp .Not a pos) (dNot t):=v49 (vi3 ha) fun _ _ _=>uw9
theorem vb9 {op} (h:E3 X a ta):E3 X (.BoolOp op [a] pos) ta:=vj5 h
theorem vv8 {rest:List Expr} (ha:E3 X a ta) (hb:E3 X (.BoolOp .And (b::rest) pos) tb):E3 X (.BoolOp .And (a::b::rest) pos) (vc8 ta tb):=u20 (vj9 ha hb) fun _ _ _=>ux7
theorem e_or {rest:List Expr} (ha:E3 X a ta) (hb:E3 X (.BoolOp .Or (b::rest) pos) tb):E3 X (.BoolOp .Or (a::b::rest) pos) (dOrV ta tb):=u20 (vu6 ha hb) fun _ _ _=>va0
theorem vq5 (ha:E3 X a ta):E3 X (.UnaryOp .Not a pos) (vc4 ta):=u20 (vj6 ha) fun _ _ _=>uw8
theorem e_if (hc:T3 X c t) (ha:E3 X a ta) (hb:E3 X b tb):E3 X (.IfExp c a b pos) (dIf t ta tb):=u20 (uw1 hc ha hb) fun _ _ _=>vo1
theorem u06:A3 X [] dNil:=vf0 vk1 fun _ _ _=>va2
theorem u00 (ha:E3 X e te) (hr:A3 X es ts) (hs:starEach (e::es) X.env=(false,eval e X.env)::starEach es X.env:=by rfl):A3 X (e::es) (vc7 te ts):=vf0 (v91 ha hr hs) fun _ _ _=>ux4
theorem uy7 {x1} (h:A3 X es ts):E3 X (.Tuple es x1 pos) (dTup ts):=u20 (vj3 h) fun _ _ _=>v97
theorem u70 (h:A3 X es ts):E3 X (.List es pos) (dLst ts):=u20 (vj7 h) fun _ _ _=>va3
theorem e_ix {r:R3} (hr:IxR X (lowR X.K r)) (ha:E3 X a ta) (hb:E3 X b tb) (hs:ut9 b:=by exact fun _ _=>rfl):E3 X (.Subscript a b pos) (dOp r ta tb):=u20 (vu8 hr ha hb hs) fun _ _ _=>ui8
theorem vn0:O3 X none ug8:=ve8 v80 fun _ _ _=>ul0
theorem vm9 (h:E3 X e te):O3 X (some e) (vc3 te):=ve8 (v79 h) fun _ _ _=>uw7
theorem e_sl {r:RS3} {lo hi:Option Expr} {tl th:TO3} (hr:SlR X (va8 X.K r)) (he:E3 X e te) (hl:O3 X lo tl) (hu:O3 X hi th):E3 X (.Subscript e (.Slice lo hi none p2) pos) (dSl r te tl th):=u20 (uw0 hr he hl hu) fun _ _ _=>vn9
end
section
variable {X:Cx} {a b c e o value:Expr} {es:List Expr} {st:Stmt} {sts sts2:List Stmt} {pos pos' spos tpos:Pos} {te ta tv:TE3} {t:TT3} {s1 s2:TS3} {g:TG3}
theorem u29:Ss3 X [] vc5:=v07 v74 fun _ _ _=>ux0
theorem u02 (h1:S3 X st s1) (h2:Ss3 X sts s2):Ss3 X (st::sts) (dSeq s1 s2):=v07 (uv3 h1 h2) fun _ _ _=>v98
theorem u07 (h1:S3 X st s1):Ss3 X [st] s1:=v73 h1
theorem u95 (he:E3 X e te) (hs:swapsWith e none pos.line X.env=pure false:=by rfl):S3 X (.Expr e pos) (vc6 te):=u88 (v76 he hs) fun _ _ _=>ux3
theorem u34 (he:E3 X e te):S3 X (.Return (some e) pos) (dRet te):=u88 (vi5 he) fun _ _ _=>v99
theorem s_if (hc:T3 X c t) (ha:Ss3 X sts s1) (hb:Ss3 X sts2 s2):S3 X (.If c sts sts2 pos) (dIfS t s1 s2):=u88 (vu3 hc ha hb) fun _ _ _=>va4
theorem u45 (i:Nat) {x:Str} (hN:X.N.Nodup) (hi:X.N[i]?=some x:=by rfl) (hx:Loc X.env.scope x:=by first | exact Or.inl rfl | exact Or.inr rfl) (hf:X.fn x=true \/ X.env.scope.names.lookup x=some .local:=by first | exact .inl rfl | exact .inr rfl | assumption):J3 X (.Name x pos) (ue4 i) :=
 v53 (v82 hN hi hx hf) fun _ _ _ _=>up8
theorem v32:Js3 X [] jNil:=v08 v81 fun _ _ _ _=>ux2
theorem ub4 {t:TG3} {u:TGs3} (h1:J3 X e t) (h2:Js3 X es u) (hs:(assignEach (e::es) X.env).map (·.2)=assign e X.env::(assignEach es X.env).map (·.2):=by rfl):Js3 X (e::es) (uq9 t u):=v08 (uv9 h1 h2 hs) fun _ _ _ _=>up9
theorem vb3 {i:Expr} {to ti:TE3} {t:TSet3} (ho:E3 X o to) (hi:E3 X i ti) (hs:PSet X (uq1 X.K t))
  (ha:∀ v,assign (.Subscript o i pos) X.env v=(do
   let ov <- holding [v] (eval o X.env)
   let iv <- holding [v,ov] (eval i X.env)
   standAt pos
   holding [v,ov,iv] (setItem ov iv v)
   release [v,ov,iv] []):=by intro _;rfl):J3 X (.Subscript o i pos) (jSub to ti t):=v53 (vj1 ho hi hs ha) fun _ _ _ _=>ux1
theorem v68 {tg:Expr} (he:E3 X e te) (hg:J3 X tg g) (hs:swapsWithSole [tg] e pos.line X.env=pure false:=by rfl) (hw:swappedStores [tg] e X.env=pure none:=by rfl)
  (h1:(assignEach [tg] X.env).map (·.2)=[assign tg X.env]:=by rfl):S3 X (.Assign [tg] e pos) (dAsg te g):=u88 (vi8 he hg hs hw h1) fun _ _ _=>va7
theorem u17 (i:Nat) {x:Str} (hN:X.N.Nodup) (he:E3 X e te) (hi:X.N[i]?=some x:=by rfl) (hx:Loc X.env.scope x:=by first | exact Or.inl rfl | exact Or.inr rfl) (hs:swapsWith e (some (.Name x pos')) pos.line X.env=pure false:=by rfl)
  (hf:X.fn x=true \/ X.env.scope.names.lookup x=some .local:=by first | exact .inl rfl | exact .inr rfl | assumption):S3 X (.Assign [.Name x pos'] e pos) (dAsg te (ue4 i)) :=
 u88 (vi4 hN hi hx he hs hf) fun D σ H h=>by
  obtain ⟨σd,G,q,rs,c,t,f⟩:=h;exact ⟨σd,G,_,rs,c,t,fun x G1 v H1 r1 c1 l1 t1=>f.nx _ _ _ _ ((rs.le l1).set i r1) c1 l1 t1⟩
theorem vt8 (i:Nat) {x:Str} {op:Operator} {r:R3} (hN:X.N.Nodup) (he:E3 X e te) (ho:Op3 X (inplaceOp op) r) (hi:X.N[i]?=some x:=by rfl) (hx:Loc X.env.scope x:=by first | exact Or.inl rfl | exact Or.inr rfl)
  (hf:X.fn x=true \/ X.env.scope.names.lookup x=some .local:=by first | exact .inl rfl | exact .inr rfl | assumption):S3 X (.AugAssign (.Name x pos') op e pos) (dAug i te r):=u88 (vi7 hN hi hx he ho hf) fun _ _ _=>va6
theorem uf8 {body:List Stmt} (hc:T3 X c t) (hb:Ss3 X body s1) (hp:PassesOwn (model X.prog X.w) X.A X.env X.xe:=by exact PassesOwn.never):S3 X (.While c body [] pos) (ut1 t s1):=u88 (uv4 hp hc hb) fun _ _ _=>up5
theorem un4 {tg iter:Expr} {body:List Stmt} {wi:TI3} (hi:I3 X tg iter wi) (hg:J3 X tg g) (hb:Ss3 X body s1) (hc:X.calm=true:=by rfl) (hp:PassesOwn (model X.prog X.w) X.A X.env X.xe:=by exact PassesOwn.never)
  (hs:∀ x,foldedSetIterable iter X.env x=pure x:=by intro _;rfl):S3 X (.For tg iter body [] pos) (dFor wi g s1):=u88 (vi6 hp hc hi hg hb hs) fun _ _ _=>va5
end
theorem up7 {K:W.Frag} {σ:L2.St} {H:Hp} {ta:TA3} {R:It->Hp->Prop} (h:lowI K (fun σ G r=>ta σ G fun ds G1=>match ds with | [.int j]=>(-(2 ^ 62)<=j /\ j < 2 ^ 62) /\ r ⟨rngD 0 j.toNat,fun _=>True⟩ G1 | _=>False) σ H R):vq0 (lowA K ta) σ H R:=by
 obtain ⟨σd,G,q,rs,c,t,f⟩:=h;refine ⟨σd,G,_,rs,c,t,fun ds G1 vs H1 r1 c1 l1 t1=>?_⟩;split at t1
 ·rename_i j
  obtain ⟨x,r,rfl,rx,rr⟩:=r1.inv_cons;rw [RelD] at rx;subst rx;rw [rr.inv_nil];exact ⟨j,rfl,t1.1.1,t1.1.2,f _ _ _ _ u79 c1 l1 t1.2⟩
 ·exact t1.elim
theorem up6 {K:W.Frag} {σ:L2.St} {H:Hp} {ta:TA3} {R:It->Hp->Prop} (h:lowI K (fun σ G r=>ta σ G fun ds G1=>match ds with | [.int i,.int j]=>(-(2 ^ 62)<=i /\ i < 2 ^ 62 /\ -(2 ^ 62)<=j /\ j < 2 ^ 62) /\ r ⟨rngD i (j - i).toNat,fun _=>True⟩ G1 | _=>False) σ H R):vp9 (lowA K ta) σ H R:=by
 obtain ⟨σd,G,q,rs,c,t,f⟩:=h;refine ⟨σd,G,_,rs,c,t,fun ds G1 vs H1 r1 c1 l1 t1=>?_⟩;split at t1
 ·rename_i i j
  obtain ⟨x,r,rfl,rx,rr⟩:=r1.inv_cons;obtain ⟨y,r',rfl,ry,rr2⟩:=rr.inv_cons;rw [RelD] at rx ry;subst rx ry;rw [rr2.inv_nil];exact ⟨i,j,rfl,t1.1,f _ _ _ _ u79 c1 l1 t1.2⟩
 ·exact t1.elim
def vg1 (ta:TA3):TI3:=fun σ G r=>ta σ G fun ds G1=>match ds with | [.int j]=>(-(2 ^ 62)<=j /\ j < 2 ^ 62) /\ r ⟨rngD 0 j.toNat,fun _=>True⟩ G1 | _=>False
def vg0 (ta:TA3):TI3:=fun σ G r=>ta σ G fun ds G1=>match ds with | [.int i,.int j]=>(-(2 ^ 62)<=i /\ i < 2 ^ 62 /\ -(2 ^ 62)<=j /\ j < 2 ^ 62) /\ r ⟨rngD i (j - i).toNat,fun _=>True⟩ G1 | _=>False
section
variable {X:Cx} {a b e o tg:Expr} {es:List Expr} {p pos apos cpos:Pos} {ta:TE3} {ts:TA3}
theorem v34 (hg:Gl X "range") (hm:X.mg "range" = none) (ha:A3 X [a] ts) (hs:starEach [a] X.env=[(false,eval a X.env)]:=by rfl):I3 X tg (.Call (.Name "range" p) [a] [] pos) (vg1 ts):=v52 (uo3 hg hm ha hs) fun _ _ _=>up7
theorem v33 (hg:Gl X "range") (hm:X.mg "range" = none) (ha:A3 X [a,b] ts) (hs:starEach [a,b] X.env=[(false,eval a X.env),(false,eval b X.env)]:=by rfl) (hs2:starEach [b] X.env=[(false,eval b X.env)]:=by rfl) :
  I3 X tg (.Call (.Name "range" p) [a,b] [] pos) (vg0 ts):=v52 (uo2 hg hm ha hs hs2) fun _ _ _=>up6
variable {k:Nat} {f C:Addr} {fd:FuncData} {ps:List Str} {S:Sp3} {dds:List D} {dvs:List V} {ds:List Value} {x m:Str}
theorem vq6 (F:FnOk X.prog X.w X.K X.mg X.base CX0 k f fd ps (ue3 X.K S)) (hr:Room k X.A) (hg:Gl X x) (hm:X.mg x=some (.ref f)) (hk:W.keepIn X.K (.ref f)=true) (hb:Binds X.K fd ps ds) (hd:Vals dvs ds) (hdd:∀ H,RelDs X.K H dds dvs)
  (ha:A3 X (e::es) ts) (hdb:(x == ("__debug__" : Str))=false:=by decide) (he:starEach (e::es) X.env=(false,eval e X.env)::starEach es X.env:=by rfl) (hpl:(backTo pos (starEach es X.env)).any (·.1)=false:=by rfl) :
  E3 X (.Call (.Name x p) (e::es) [] pos) (dCall S dds ts):=u20 (v87 F hr hg hm hk hb hd pass0 ha hdb he hpl) fun _ _ _=>ux5 hdd
variable {id T:String} {r:C3} {rm:M3} {name:Str}
theorem u25 (hc:Call3 X (.builtin id) r) (hg:Gl X x) (hm:X.mg x=none) (hv:bootBuiltins x=some (.builtin id)) (ha:A3 X (e::es) ts) (hn:x ≠ "__name__" := by decide) (hdb:(x == ("__debug__" : Str))=false:=by decide)
  (he:starEach (e::es) X.env=(false,eval e X.env)::starEach es X.env:=by rfl) (hpl:(backTo pos (starEach es X.env)).any (·.1)=false:=by rfl):E3 X (.Call (.Name x p) (e::es) [] pos) (dCB r ts) :=
 u20 (uw2 hc hg hm hv ha hn hdb he hpl) fun _ _ _=>v31
theorem uz0 (hc:Call3 X (.type T) r) (hg:Gl X x) (hm:X.mg x=none) (hv:bootBuiltins x=some (.type T)) (ha:A3 X (e::es) ts) (hn:x ≠ "__name__" := by decide) (hdb:(x == ("__debug__" : Str))=false:=by decide)
  (he:starEach (e::es) X.env=(false,eval e X.env)::starEach es X.env:=by rfl) (hpl:(backTo pos (starEach es X.env)).any (·.1)=false:=by rfl):E3 X (.Call (.Name x p) (e::es) [] pos) (dCB r ts) :=
 u20 (uo4 hc hg hm hv ha hn hdb he hpl) fun _ _ _=>v31
end
def u98 (ix:List (Option Nat)) (σ:DSt):DSt:=ix.map fun o=>o.bind fun j=>(σ[j]?).bind id
def u90 (ok:Gp->Prop) (g:TG3) (tc:TT3) (te:TE3) (p:Addr) (q:DK):List D->DSt->Gp->Prop
 | [],_,G=>ok G /\ q (.ref p) G
 | x::r,σ,G=>ok G /\ g x σ G fun σ2 G2=>tc σ2 G2 fun b G3 =>
  if b=true then te σ2 G3 fun d G4=>(match G4 p with | some (.lst ys)=>ys.length < sizeLine /\ u90 ok g tc te p q r σ2 (gup G4 p (.lst (ys++[d]))) | _=>False)
  else u90 ok g tc te p q r σ2 G3
def uz2 (ix:List (Option Nat)) (wi:TI3) (g:TG3) (tc:TT3) (te:TE3):TE3:=fun σ G q=>wi σ G fun it G1=>∀ p,G1 p=none->u90 it.ok g tc te p q it.items (u98 ix σ) (gup G1 p (.lst []))
theorem RelSt.inn {K:W.Frag} {H:Hp} {σd:DSt} {σ:L2.St} (h:RelSt K H σd σ) (ix:List (Option Nat)):RelSt K H (u98 ix σd) (L2.inner ix σ):=by
 refine ⟨by unfold u98 L2.inner;rw [List.length_map,List.length_map],fun i d e=>?_⟩;unfold u98 at e;unfold L2.inner;rw [List.getElem?_map] at e ⊢;cases ho:ix[i]? with
 | none=>rw [ho] at e;cases e
 | some o =>
  rw [ho] at e;cases o with
  | none=>cases e
  | some j =>
   have e:(σd[j]?).bind id=some d:=Option.some.inj e;have e:σd[j]?=some (some d):=by
    cases hs:σd[j]? with
    | none=>rw [hs] at e;cases e
    | some w=>rw [hs] at e;cases e;rfl
   obtain ⟨v,hv,r⟩:=h.2 j d e;exact ⟨v,by show some ((σ[j]?).bind id)=_;rw [hv];rfl,r⟩
theorem ui9 {K:W.Frag} {ix:List (Option Nat)} {wi:TI3} {g:TG3} {tc:TT3} {te:TE3} {σ:L2.St} {H:Hp} {Q:VK} (h:lowE K (uz2 ix wi g tc te) σ H Q):v55 ix (lowI K wi) (lowG K g) (lowT K tc) (lowE K te) σ H Q:=by
 obtain ⟨σd,G,q,rs,cc,t,f⟩:=h;refine ⟨σd,G,_,rs,cc,t,fun it J G1 H1 ir c1 l1 t1=>?_⟩;intro p hp;have t1:=t1 p (c1.fresh hp);have c2:Con K (gup G1 p (.lst [])) (upd H1 p (.lst [])):=c1.lstNew hp .nil;have l2:Le H1 (upd H1 p (.lst [])):=Le.fresh hp;refine ⟨fun i m σ' H'=>∃ σd' G',Le (upd H1 p (.lst [])) H' /\ RelSt K H' σd' σ' /\ Con K G' H' /\ i+m=it.items.length /\ u90 it.ok g tc te p q (it.items.drop i) σd' G',
  ⟨it.items.length,u98 ix σd,_,Le.refl _,(rs.le (l1.trans l2)).inn ix,c2,by omega,by rw [List.drop_zero];exact t1⟩,?_⟩
 rintro i m σ2 H2 ⟨σd2,G2,l3,rs2,c2,e2,t2⟩;have l12:Le H1 H2:=l2.trans l3
 by_cases hi:i < it.items.length
 ·rw [List.drop_eq_getElem_cons hi] at t2
  obtain ⟨ok2,t2⟩:=t2;refine .inr ⟨ir.go i G2 H2 l12 c2 ok2 hi,fun σ' H'=>∃ σd' G',Le (upd H1 p (.lst [])) H' /\ RelSt K H' σd' σ' /\ Con K G' H' /\ u90 it.ok g tc te p q (it.items.drop (i+1)) σd' G',?_,?_⟩
  ·rintro σ' H' ⟨σd',G',a1,a2,a3,a4⟩
   exact ⟨m - 1,by omega,σd',G',a1,a2,a3,by omega,a4⟩
  ·intro x H3 y
   obtain ⟨c3,l4,e,he,r3⟩:=ir.yld i G2 H2 x H3 l12 c2 ok2 hi y;rw [List.getElem?_eq_getElem hi] at he;cases he;refine ⟨_,σd2,G2,_,r3,rs2.le l4,c3,t2,fun σd4 G4 σ4 H4 rs4 c4 l5 t4=>?_⟩;refine ⟨σd4,G4,_,rs4,c4,t4,fun b G5 H5 c5 l6 t5=>?_⟩;cases b with
   | false =>
    rw [if_neg Bool.false_ne_true] at t5 ⊢;exact ⟨σd4,G5,l3.trans (l4.trans (l5.trans l6)),rs4.le l6,c5,t5⟩
   | true =>
    rw [if_pos rfl] at t5 ⊢;refine ⟨σd4,G5,_,rs4.le l6,c5,t5,fun d G6 v H6 r6 c6 l7 t6=>?_⟩;split at t6
    ·rename_i ys eg
     obtain ⟨xs,ex,rx⟩:=c6 p _ eg;have l8:=Le.lst (ys:=xs++[v]) ex;exact ⟨xs,ex,by rw [<- rx.length];exact t6.1,σd4,_,l3.trans (l4.trans (l5.trans (l6.trans (l7.trans l8)))),rs4.le (l6.trans (l7.trans l8)),c6.lstSet ex (rx.append (.cons r6 .nil)),t6.2⟩
    ·exact t6.elim
 ·rw [List.drop_eq_nil_of_le (by omega)] at t2
  exact .inl ⟨ir.stop i G2 H2 l12 c2 t2.1 (by omega),f _ _ _ _ RelD.refI c2 (l1.trans l12) t2.2⟩
def dYes:TT3:=fun _ G q=>q true G
section
variable {X:Cx} {elt tg iter:Expr} {ifs:List Expr} {scope:Scope} {pos:Pos} {N':List Str} {ix:List (Option Nat)} {wi:TI3} {g:TG3} {tc:TT3} {te:TE3}
theorem ur7:Ifs3 X [] dYes:=v51 uv7 fun σ H Q h=>by
 obtain ⟨σd,G,q,rs,c,t,f⟩:=h;exact f _ _ _ c (Le.refl H) t
theorem ur6 {c:Expr} (h:T3 X c tc):Ifs3 X [c] tc:=uv6 h
theorem us6 (B:BlkOk X N' ix scope) (hw:I3 X tg iter wi) (hg:∀ C s H fp,J3 (u23 X N' scope C s H fp) tg g) (hi:∀ C s H fp,Ifs3 (u23 X N' scope C s H fp) ifs tc) (he:∀ C s H fp,E3 (u23 X N' scope C s H fp) elt te)
  (hc:X.calm=true:=by rfl) (hs:∀ x,foldedSetIterable iter X.env x=pure x:=by intro _;rfl):E3 X (.ListComp elt [⟨tg,iter,ifs,0⟩] scope pos) (uz2 ix wi g tc te) :=
 u20 (v85 (g:=lowG X.K g) (tc:=lowT X.K tc) (te:=lowE X.K te) B hc hw hg hi he hs) fun _ _ _=>ui9
theorem vh6 (i:Nat) {y:Str} {py spos:Pos} (hN:X.N.Nodup) (B:BlkOk X N' ix scope) (hw:I3 X tg iter wi) (hg:∀ C s H fp,J3 (u23 X N' scope C s H fp) tg g) (hi:∀ C s H fp,Ifs3 (u23 X N' scope C s H fp) ifs tc) (he:∀ C s H fp,E3 (u23 X N' scope C s H fp) elt te)
  (hy:X.N[i]?=some y:=by rfl) (hl:Loc X.env.scope y:=by first | exact Or.inl rfl | exact Or.inr rfl)
  (hc:X.calm=true:=by rfl) (hsw:swapsWith (.ListComp elt [⟨tg,iter,ifs,0⟩] scope pos) (some (.Name y py)) spos.line X.env=pure true:=by rfl)
  (hf:X.fn y=true \/ X.env.scope.names.lookup y=some .local:=by first | exact .inl rfl | exact .inr rfl | assumption)
  (hs:∀ x,foldedSetIterable iter X.env x=pure x:=by intro _;rfl):S3 X (.Assign [.Name y py] (.ListComp elt [⟨tg,iter,ifs,0⟩] scope pos) spos) (dAsg (uz2 ix wi g tc te) (ue4 i)) :=
 u88 (v75 (g:=lowG X.K g) (tc:=lowT X.K tc) (te:=lowE X.K te) B hc hN hy hl hw hg hi he hsw hf hs) fun D σ H h=>by
  obtain ⟨σd,G,d,rs,c,t,f⟩:=h;exact ui9 (K:=X.K) ⟨σd,G,_,rs,c,t,fun x G1 v H1 r1 c1 l1 t1=>f.nx _ _ _ _ ((rs.le l1).set i r1) c1 l1 t1⟩
end
def xAdd:R3:=fun x y G q=>match x,y with
 | .int i,.int j=>q (.int (i+j)) G
 | .str a,.str b=>a.length+b.length<=sizeLine /\ q (.str (a++b)) G
 | .tup a,.tup b=>a ≠ [] /\ a.length+b.length<=sizeLine /\ q (.tup (a++b)) G
 | .ref a,.ref b=>(match G a,G b with
  | some (.lst xs),some (.lst ys)=>xs.length+ys.length<=sizeLine /\ ∀ p,G p=none->q (.ref p) (gup G p (.lst (xs++ys)))
  | _,_=>False)
 | _,_=>False
def xInt (f:Int->Int->Int):R3:=fun x y G q=>match x,y with | .int i,.int j=>q (.int (f i j)) G | _,_=>False
def ud0 (C:Int->Int->Prop) (f:Int->Int->Int):R3:=fun x y G q=>match x,y with | .int i,.int j=>C i j /\ q (.int (f i j)) G | _,_=>False
def xSub:R3:=xInt fun i j=>i - j
def xMul:R3:=fun x y G q=>match x,y with
 | .int i,.int j=>CMul i j /\ q (.int (i * j)) G
 | .ref a,.int k=>(match G a with
  | some (.lst xs)=>(-(2 ^ 63)<=k /\ k < 2 ^ 63 /\ xs.length * k.toNat<=sizeLine) /\ ∀ p,G p=none->q (.ref p) (gup G p (.lst (List.replicate k.toNat xs).flatten))
  | _=>False)
 | _,_=>False
def v03 (_ j:Int):Prop:=0 < j /\ j < 18446744073709551616
def xDiv:R3:=ud0 v03 fun i j=>i / j
def xMod:R3:=ud0 (fun _ j=>0 < j) fun i j=>i % j
def xPow:R3:=ud0 CPow fun i j=>i ^ j.toNat
def xShl:R3:=ud0 CPow fun i j=>i * 2 ^ j.toNat
def xShr:R3:=ud0 (fun _ j=>0<=j) fun i j=>i / 2 ^ j.toNat
def xAnd:R3:=xInt Builtin.bitAnd
def xOr:R3:=xInt Builtin.bitOr
def xXor:R3:=xInt Builtin.bitXor
def xLt:R3:=fun x y G q=>match x,y with | .int i,.int j=>q (.bl (decide (i < j))) G | .str a,.str b=>q (.bl (decide (a.cps.toList < b.cps.toList))) G | _,_=>False
def xLe:R3:=fun x y G q=>match x,y with | .int i,.int j=>q (.bl (decide (i<=j))) G | _,_=>False
def xGt:R3:=fun x y G q=>match x,y with | .int i,.int j=>q (.bl (decide (j < i))) G | _,_=>False
def xGe:R3:=fun x y G q=>match x,y with | .int i,.int j=>q (.bl (decide (j<=i))) G | _,_=>False
section
variable {X:Cx} {K:W.Frag} {H:Hp}
theorem RelD.int_inv {i:Int} {v:V} (h:RelD K H (.int i) v):v=.int i:=by rw [RelD] at h;exact h
theorem RelD.str_inv {i:Str} {v:V} (h:RelD K H (.str i) v):v=.str i:=by rw [RelD] at h;exact h
theorem RelD.non_inv {v:V} (h:RelD K H .non v):v=.non:=by rw [RelD] at h;exact h
theorem RelD.tup_inv {ds:List D} {v:V} (h:RelD K H (.tup ds) v):∃ a xs,v=.ref a /\ SqT K H a xs /\ RelDs K H ds xs:=by rw [RelD] at h;exact h
theorem RelD.intI {i:Int}:RelD K H (.int i) (.int i):=by rw [RelD]
theorem RelD.strI {i:Str}:RelD K H (.str i) (.str i):=by rw [RelD]
theorem RelD.blI {i:Bool}:RelD K H (.bl i) (.bl i):=by rw [RelD]
theorem RelD.nonI:RelD K H .non .non:=by rw [RelD]
theorem um1 {f:Value->Value->Sem Value} {g:Int->Int->Int} (h:OpR X f (rI0 fun i j=>.int (g i j))):Op3 X f (xInt g):=u50 h fun x y H Q ⟨d,e,G,q,r1,r2,c,t,f⟩=>by
 unfold xInt at t;split at t
 ·exact ⟨_,_,r1.int_inv,r2.int_inv,f _ _ _ _ RelD.intI c (Le.refl H) t⟩
 ·exact t.elim
theorem uc8 {f:Value->Value->Sem Value} {C:Int->Int->Prop} {g:Int->Int->Int} (h:OpR X f (rI C fun i j=>.int (g i j))):Op3 X f (ud0 C g):=u50 h fun x y H Q ⟨d,e,G,q,r1,r2,c,t,f⟩=>by
 unfold ud0 at t;split at t
 ·exact ⟨_,_,r1.int_inv,r2.int_inv,t.1,f _ _ _ _ RelD.intI c (Le.refl H) t.2⟩
 ·exact t.elim
theorem uf6:Op3 X (binaryOp .Sub) xSub:=um1 vk5
theorem uw3:OpR X (binaryOp .FloorDiv) (rI v03 fun i j=>.int (i / j)):=opI fun i j _ _ _ _ _ hc q=>by
 have hl:j.natAbs.log2 < 9000:=by
  have h1:=hc.1;have h2:=hc.2;have hn:j.natAbs ≠ 0:=by omega
  have:j.natAbs.log2 < 64:=(Nat.log2_lt hn).mpr (by omega);omega
 refine floordiv_int (by have:=hc.1;omega) ?_ (.inl (PyProof.noPylong_of_log2 hl));rw [Int.fdiv_eq_ediv_of_nonneg i (by have:=hc.1;omega)];exact q
theorem ve5:Op3 X (binaryOp .FloorDiv) xDiv:=uc8 uw3
theorem uc7:Op3 X (binaryOp .Mod) xMod:=uc8 vl1
theorem vs2:Op3 X (binaryOp .Pow) xPow:=uc8 vk9
theorem uu2:Op3 X (binaryOp .LShift) xShl:=uc8 vk7
theorem uu1:Op3 X (binaryOp .RShift) xShr:=uc8 vk6
theorem uj8:Op3 X (binaryOp .BitAnd) xAnd:=um1 vl4
theorem x_or:Op3 X (binaryOp .BitOr) xOr:=um1 vv1
theorem v43:Op3 X (binaryOp .BitXor) xXor:=um1 vk4
theorem ve4:Op3 X (inplaceOp .Add) (xInt fun i j=>i+j):=um1 vb4
theorem uc9:Op3 X (binaryOp .Add) xAdd:=u50 (op_add.or (op_add_str.or (op_catT.or vl3))) <| by
 rintro x y H Q ⟨d,e,G,q,r1,r2,c,t,f⟩;unfold xAdd at t;split at t
 ·exact .inl ⟨_,_,r1.int_inv,r2.int_inv,f _ _ _ _ RelD.intI c (Le.refl H) t⟩
 ·exact .inr (.inl ⟨_,_,r1.str_inv,r2.str_inv,t.1,f _ _ _ _ RelD.strI c (Le.refl H) t.2⟩)
 ·obtain ⟨a,xs,rfl,s1,q1⟩:=r1.tup_inv
  obtain ⟨b,ys,rfl,s2,q2⟩:=r2.tup_inv;refine .inr (.inr (.inl ⟨a,b,xs,ys,rfl,rfl,s1,s2,fun z=>t.1 ?_,by rw [<- q1.length,<- q2.length];exact t.2.1,fun z=>?_,fun _ p hp=>?_⟩))
  ·have:=q1.length;rw [z] at this;exact List.eq_nil_of_length_eq_zero this
  ·refine f (.tup _) G (.ref a) _ ?_ c (Le.refl _) t.2.2
   rw [RelD];subst z;have e:∀ {bs:List D},RelDs X.K H bs []->bs=[]:=fun h=>List.eq_nil_of_length_eq_zero h.length
   rw [e q2,List.append_nil];exact ⟨a,_,rfl,s1,q1⟩
  ·refine f (.tup _) G (.ref p) _ ?_ (c.side hp) (Le.fresh hp) t.2.2
   rw [RelD];exact ⟨p,_,rfl,SqT.of u18,RelDs.le (Le.fresh hp) (q1.append q2)⟩
 ·rename_i a b
  split at t
  ·rename_i xs ys e1 e2
   obtain ⟨vs,h1,q1⟩:=c _ _ e1;obtain ⟨ws,h2,q2⟩:=c _ _ e2;exact .inr (.inr (.inr ⟨a,b,vs,ws,r1.ref_inv,r2.ref_inv,h1,h2,by rw [<- q1.length,<- q2.length];exact t.1,fun p hp=>f _ _ _ _ RelD.refI (c.lstNew hp (q1.append q2)) (Le.fresh hp) (t.2 p (c.fresh hp))⟩))
  ·exact t.elim
 ·exact t.elim
theorem uu3:Op3 X (binaryOp .Mult) xMul:=u50 (op_mul.or vk8) <| by
 rintro x y H Q ⟨d,e,G,q,r1,r2,c,t,f⟩;unfold xMul at t;split at t
 ·exact .inl ⟨_,_,r1.int_inv,r2.int_inv,t.1,f _ _ _ _ RelD.intI c (Le.refl H) t.2⟩
 ·rename_i a k
  split at t
  ·rename_i xs e1
   obtain ⟨vs,h1,q1⟩:=c _ _ e1;refine .inr ⟨a,k,vs,r1.ref_inv,r2.int_inv,h1,t.1.1,t.1.2.1,by rw [<- q1.length];exact t.1.2.2,?_⟩;intro p hp;exact f _ _ _ _ RelD.refI (c.lstNew hp (q1.rep _)) (Le.fresh hp) (t.2 p (c.fresh hp))
  ·exact t.elim
 ·exact t.elim
theorem v04 {f:Value->Value->Sem Value} {g:Int->Int->Bool} (h:OpR X f (rI0 fun i j=>.bl (g i j))):Op3 X f (fun x y G q=>match x,y with | .int i,.int j=>q (.bl (g i j)) G | _,_=>False):=u50 h fun x y H Q ⟨d,e,G,q,r1,r2,c,t,f⟩=>by
 dsimp only at t;split at t
 ·exact ⟨_,_,r1.int_inv,r2.int_inv,f _ _ _ _ RelD.blI c (Le.refl H) t⟩
 ·exact t.elim
theorem x_gt:Op3 X (compareOp .Gt) xGt:=v04 vv2
theorem x_ge:Op3 X (compareOp .GtE) xGe:=v04 vv3
theorem x_lt:Op3 X (compareOp .Lt) xLt:=u50 (op_lt.or uo5) <| by
 rintro x y H Q ⟨d,e,G,q,r1,r2,c,t,f⟩;unfold xLt at t;split at t
 ·exact .inl ⟨_,_,r1.int_inv,r2.int_inv,f _ _ _ _ RelD.blI c (Le.refl H) t⟩
 ·exact .inr ⟨_,_,r1.str_inv,r2.str_inv,f _ _ _ _ RelD.blI c (Le.refl H) t⟩
 ·exact t.elim
def xNeg:U3:=fun x G q=>match x with | .int i=>q (.int (-i)) G | _=>False
theorem ve3:UnR X (unaryOp .USub) (lowU X.K xNeg):=v06 vg3 <| by
 rintro x H Q ⟨d,G,q,r1,c,t,f⟩;unfold xNeg at t;split at t
 ·exact ⟨_,r1.int_inv,f _ _ _ _ RelD.intI c (Le.refl H) t⟩
 ·exact t.elim
def xIx:R3:=fun x y G q=>match x,y with
 | .tup ds,.int i=>(match atI ds i with | some d=>q d G | none=>False)
 | .ref a,.int i=>(match u11 (G a) with | some ds=>(match atI ds i with | some d=>q d G | none=>False) | none=>False)
 | .str z,.int i=>z.length<=sizeLine /\ (match atI z.cps.toList i with | some c=>q (.str ⟨#[c]⟩) G | none=>False)
 | _,_=>False
theorem RelDs.atI {ds:List D} {xs:List V} {i:Int} {d:D} (h:RelDs K H ds xs) (e:L2.atI ds i=some d):∃ v,L2.atI xs i=some v /\ RelD K H d v:=by
 unfold L2.atI at e ⊢;rw [<- h.length];cases hj:ixN ds.length i with
 | none=>rw [hj] at e;cases e
 | some j =>
  rw [hj] at e;exact h.get e
theorem x_ix:IxR X (lowR X.K xIx):=ve9 vp1 <| by
 rintro x y H Q ⟨d,e,G,q,r1,r2,c,t,f⟩;unfold xIx at t;split at t
 ·rename_i ds i
  obtain ⟨a,xs,rfl,s1,q1⟩:=r1.tup_inv;split at t
  ·rename_i w ew
   obtain ⟨v,hv,rv⟩:=q1.atI ew;exact .inr (.inl ⟨a,xs,i,v,rfl,r2.int_inv,s1,hv,f _ _ _ _ rv c (Le.refl H) t⟩)
  ·exact t.elim
 ·rename_i a i
  split at t
  ·rename_i ds es
   obtain ⟨xs,s1,q1⟩:=u14 c es;split at t
   ·rename_i w ew
    obtain ⟨v,hv,rv⟩:=q1.atI ew;exact .inl ⟨a,xs,i,v,r1.ref_inv,r2.int_inv,s1,hv,f _ _ _ _ rv c (Le.refl H) t⟩
   ·exact t.elim
  ·exact t.elim
 ·rename_i z i
  obtain ⟨hz,t⟩:=t;split at t
  ·rename_i w ew
   exact .inr (.inr ⟨z,i,w,r1.str_inv,r2.int_inv,hz,ew,f _ _ _ _ RelD.strI c (Le.refl H) t⟩)
  ·exact t.elim
 ·exact t.elim
def cutD {α:Type} (xs:List α) (lo hi:Option Int):List α:=(xs.drop (HT.sIx xs.length 0 lo)).take (HT.sIx xs.length xs.length hi - HT.sIx xs.length 0 lo)
theorem RelDs.cut {ds:List D} {xs:List V} (h:RelDs K H ds xs) (lo hi:Option Int):RelDs K H (cutD ds lo hi) (cutV xs lo hi):=by
 unfold cutD cutV;rw [h.length];exact (h.drop _).take _
def xSet:TSet3:=fun o i v G q=>match o,i with
 | .ref a,.int k=>(match G a with | some (.lst ds)=>(match ixN ds.length k with | some j=>q (gup G a (.lst (ds.set j v))) | none=>False) | _=>False)
 | _,_=>False
theorem v44:PSet X (uq1 X.K xSet):=v50 set_list <| by
 rintro o i v H Q ⟨d,e,x,G,q,r1,r2,r3,c,t,f⟩;unfold xSet at t;split at t
 ·rename_i a k
  split at t
  ·rename_i ds e1
   obtain ⟨xs,h1,q1⟩:=c _ _ e1;split at t
   ·rename_i j ej
    exact ⟨a,xs,k,j,r1.ref_inv,r2.int_inv,h1,by rw [<- q1.length];exact ej,f _ _ (c.lstSet h1 (q1.set r3 j)) (Le.lst h1) t⟩
   ·exact t.elim
  ·exact t.elim
 ·exact t.elim
end
inductive Sn where
 | non | bl (b:Bool) | int (i:Int) | str (x:Str) | tup (xs:List Sn) | lst (xs:List Sn)
def snap (G:Gp):Nat->D->Option Sn
 | _,.non=>some .non
 | _,.bl b=>some (.bl b)
 | _,.int i=>some (.int i)
 | _,.str x=>some (.str x)
 | n+1,.tup ds=>(ds.mapM (snap G n)).map .tup
 | n+1,.ref a=>(u11 (G a)).bind fun ds=>(ds.mapM (snap G n)).map .lst
 | _,_=>none
def u24:Sn->Bool
 | .non=>true | .bl _=>true | .int _=>true | .str _=>true | _=>false
def eqF:Sn->Sn->Bool
 | .non,.non=>true
 | .bl a,.bl b=>a == b
 | .bl a,.int b=>(if a then 1 else 0) == b
 | .int a,.bl b=>a == (if b then 1 else 0)
 | .int a,.int b=>a == b
 | .str a,.str b=>a == b
 | _,_=>false
def eqN:Nat->Sn->Sn->Option Bool
 | n+1,.tup xs,.tup ys=>if xs.length=ys.length then ((xs.zip ys).mapM fun p=>eqN n p.1 p.2).map fun bs=>bs.all id else none
 | n+1,.lst xs,.lst ys=>if xs.length=ys.length then ((xs.zip ys).mapM fun p=>eqN n p.1 p.2).map fun bs=>bs.all id else some false
 | _,x,y=>if (u24 x && u24 y)=true then some (eqF x y) else none
theorem u12 {α β:Type} {f:α->Option β}:∀ {xs:List α} {ys:List β},xs.mapM f=some ys->xs.length=ys.length /\ ∀ (i:Nat) x,xs[i]?=some x->∃ y,ys[i]?=some y /\ f x=some y
 | [],ys,h=>by
  have:ys=[]:=by simpa using h.symm
  subst this;exact ⟨rfl,fun i x e=>by simp at e⟩
 | x::xs,ys,h=>by
  rw [List.mapM_cons] at h;cases hx:f x with
  | none=>rw [hx] at h;cases h
  | some y =>
   rw [hx] at h;cases hr:xs.mapM f with
   | none=>rw [hr] at h;cases h
   | some r =>
    rw [hr] at h;have e:y::r=ys:=Option.some.inj h;subst e;obtain ⟨h1,h2⟩:=u12 hr;refine ⟨by simp [h1],fun i z e=>?_⟩;cases i with
    | zero=>cases (show x=z from Option.some.inj e);exact ⟨y,rfl,hx⟩
    | succ i=>exact h2 i z e
theorem ua1 {bs:List Bool} {e:Nat->Bool} {n:Nat} (hl:bs.length=n) (h:∀ (i:Nat) b,bs[i]?=some b->e i=b):(List.range n).all e=bs.all id:=by
 rw [Bool.eq_iff_iff,List.all_eq_true,List.all_eq_true]
 constructor
 ·intro q b hb
  obtain ⟨i,hi,eb⟩:=List.mem_iff_getElem.mp hb;have:=q i (List.mem_range.mpr (by omega));rw [h i b (by rw [List.getElem?_eq_getElem hi,eb])] at this;exact this
 ·intro q i hi
  have hi:=List.mem_range.mp hi;rw [h i bs[i] (List.getElem?_eq_getElem (by omega))];exact q _ (List.getElem_mem _)
section
variable {X:Cx} {pins:List (Addr × Obj)} {σ:L2.St} {H:Hp} {s:Shared} {G:Gp}
theorem ug3 {n:Nat} {d:D} {sd:Sn} {x:V} {u:Value} (h:snap G n d=some sd) (fl:u24 sd=true) (r:RelD X.K H d x):u84 x=true /\ ∀ (e:D) (se:Sn) (y:V),snap G n e=some se->u24 se=true->RelD X.K H e y->eqV x y=eqF sd se:=by
  have key:∀ (d:D) (sd:Sn) (x:V),snap G n d=some sd->u24 sd=true->RelD X.K H d x->(sd=.non /\ x=.non) \/ (∃ b,sd=.bl b /\ x=.bl b) \/ (∃ i,sd=.int i /\ x=.int i) \/ (∃ z,sd=.str z /\ x=.str z):=by
    intro d sd x h fl r;cases d with
    | non => have e : Sn.non = sd := by cases n <;> exact Option.some.inj h
             subst e;exact .inl ⟨rfl,r.non_inv⟩
    | bl b => have e : Sn.bl b = sd := by cases n <;> exact Option.some.inj h
              subst e;exact .inr (.inl ⟨b,rfl,r.bl_inv⟩)
    | int b => have e : Sn.int b = sd := by cases n <;> exact Option.some.inj h
               subst e;exact .inr (.inr (.inl ⟨b,rfl,r.int_inv⟩))
    | str b => have e : Sn.str b = sd := by cases n <;> exact Option.some.inj h
               subst e;exact .inr (.inr (.inr ⟨b,rfl,r.str_inv⟩))
    | tup ds =>
      cases n with
      | zero=>cases h
      | succ n =>
        have h:(ds.mapM (snap G n)).map Sn.tup=some sd:=h;obtain ⟨a,_,rfl⟩:=Option.map_eq_some_iff.mp h;cases fl
    | ref a =>
      cases n with
      | zero=>cases h
      | succ n =>
        have h:((u11 (G a)).bind fun ds=>(ds.mapM (snap G n)).map Sn.lst)=some sd:=h;obtain ⟨ds,_,h⟩:=Option.bind_eq_some_iff.mp h;obtain ⟨a,_,rfl⟩:=Option.map_eq_some_iff.mp h;cases fl
    | ty t=>cases n <;> cases h
  rcases key d sd x h fl r with ⟨rfl,rfl⟩ | ⟨b,rfl,rfl⟩ | ⟨b,rfl,rfl⟩ | ⟨b,rfl,rfl⟩ <;> refine ⟨rfl,fun e se y h' fl' r'=>?_⟩ <;>
    rcases key e se y h' fl' r' with ⟨rfl,rfl⟩ | ⟨c,rfl,rfl⟩ | ⟨c,rfl,rfl⟩ | ⟨c,rfl,rfl⟩ <;> rfl
theorem snap_tup {n:Nat} {ds:List D} {sd:Sn} (h:snap G n (.tup ds)=some sd):∃ m ss,n=m+1 /\ sd=.tup ss /\ ds.mapM (snap G m)=some ss:=by
 cases n with
 | zero=>cases h
 | succ n =>
  obtain ⟨ss,h1,rfl⟩:=Option.map_eq_some_iff.mp (show (ds.mapM (snap G n)).map Sn.tup=some sd from h);exact ⟨n,ss,rfl,rfl,h1⟩
theorem snap_ref {n:Nat} {a:Addr} {sd:Sn} (h:snap G n (.ref a)=some sd):∃ m ds ss,n=m+1 /\ sd=.lst ss /\ u11 (G a)=some ds /\ ds.mapM (snap G m)=some ss:=by
 cases n with
 | zero=>cases h
 | succ n =>
  obtain ⟨ds,h0,h⟩:=Option.bind_eq_some_iff.mp (show ((u11 (G a)).bind fun ds=>(ds.mapM (snap G n)).map Sn.lst)=some sd from h);obtain ⟨ss,h1,rfl⟩:=Option.map_eq_some_iff.mp h;exact ⟨n,ds,ss,rfl,rfl,h0,h1⟩
theorem uj0 {n:Nat} {x y:Sn} (hx:u24 x=true):eqN n x y=if (u24 x && u24 y)=true then some (eqF x y) else none:=by
 cases x with
 | tup _=>cases hx
 | lst _=>cases hx
 | non=>cases n <;> rfl
 | bl _=>cases n <;> rfl
 | int _=>cases n <;> rfl
 | str _=>cases n <;> rfl
theorem u49 {n:Nat} {x y:Sn} {b:Bool} (h:eqN n x y=some b) (fl:¬ (u24 x && u24 y)=true):(∃ m xs ys,n=m+1 /\ x=.tup xs /\ y=.tup ys) \/ (∃ m xs ys,n=m+1 /\ x=.lst xs /\ y=.lst ys):=by
 unfold eqN at h;split at h
 ·exact .inl ⟨_,_,_,rfl,rfl,rfl⟩
 ·exact .inr ⟨_,_,_,rfl,rfl,rfl⟩
 ·rw [if_neg fl] at h;cases h
theorem u35 {n:Nat} {d:D} {ss:List Sn} (h:snap G n d=some (.tup ss)):∃ ds,d=.tup ds:=by
 cases d with
 | tup ds=>exact ⟨ds,rfl⟩
 | ref a=>obtain ⟨_,_,_,_,e',_⟩:=snap_ref h;cases e'
 | _=>cases n <;> cases h
theorem u36 {n:Nat} {d:D} {ss:List Sn} (h:snap G n d=some (.lst ss)):∃ a,d=.ref a:=by
 cases d with
 | ref a=>exact ⟨a,rfl⟩
 | tup ds=>obtain ⟨_,_,_,e',_⟩:=snap_tup h;cases e'
 | _=>cases n <;> cases h
theorem ud6 {n:Nat} {d e:D} {x:V} {sd se:Sn} {b:Bool} (r1:RelD X.K H d x) (r2:RelD X.K H e x) (h1:snap G n d=some sd) (h2:snap G n e=some se) (hb:eqN n sd se=some b) (fl:(u24 sd && u24 se)=true):b=true:=by
 rw [Bool.and_eq_true] at fl;have z:=hb;rw [uj0 fl.1,if_pos (by rw [fl.1,fl.2];rfl)] at z;obtain ⟨fx,k⟩:=ug3 (u:=Value.none) h1 fl.1 r1;rw [<- Option.some.inj z,<- k e se x h2 fl.2 r2];cases x with
 | non=>rfl
 | bl b=>exact beq_self_eq_true b
 | int i=>exact beq_self_eq_true i
 | str w=>exact beq_self_eq_true w
 | _=>cases fx
theorem un2 (I:Inv X pins σ H s) (c:Con X.K G H):∀ (n:Nat) (d e:D) (x:V) (sd se:Sn) (b:Bool),RelD X.K H d x->RelD X.K H e x->snap G n d=some sd->snap G n e=some se->eqN n sd se=some b->b=true:=by
 intro n
 induction n with
 | zero =>
  intro d e x sd se b r1 r2 h1 h2 hb
  by_cases fl:(u24 sd && u24 se)=true
  ·exact ud6 r1 r2 h1 h2 hb fl
  ·rcases u49 hb fl with ⟨_,_,_,z,_⟩ | ⟨_,_,_,z,_⟩ <;> cases z
 | succ m ih =>
  intro d e x sd se b r1 r2 h1 h2 hb
  by_cases fl:(u24 sd && u24 se)=true
  ·exact ud6 r1 r2 h1 h2 hb fl
  have items:∀ (ds es:List D) (xs:List V) (ss ts:List Sn) (bs:List Bool),RelDs X.K H ds xs->RelDs X.K H es xs->ds.mapM (snap G m)=some ss->es.mapM (snap G m)=some ts->((ss.zip ts).mapM fun p=>eqN m p.1 p.2)=some bs->bs.all id=true:=by
   intro ds es xs ss ts bs q1 q2 k1 k2 kb;rw [List.all_eq_true];intro b hb;obtain ⟨i,hi,eb⟩:=List.mem_iff_getElem.mp hb;obtain ⟨l1,f1⟩:=u12 k1;obtain ⟨l2,f2⟩:=u12 k2;obtain ⟨l3,f3⟩:=u12 kb;have hz:(ss.zip ts).length=min ss.length ts.length:=List.length_zip;have e1:=q1.length;have e2:=q2.length;have hds:i < ds.length:=by omega
   have hes:i < es.length:=by omega
   obtain ⟨y1,g1,s1⟩:=f1 i ds[i] (List.getElem?_eq_getElem hds);obtain ⟨y2,g2,s2⟩:=f2 i es[i] (List.getElem?_eq_getElem hes);have hzip:(ss.zip ts)[i]?=some (y1,y2):=by rw [List.getElem?_zip_eq_some];exact ⟨g1,g2⟩
   obtain ⟨b',g3,s3⟩:=f3 i _ hzip;rw [List.getElem?_eq_getElem hi,eb] at g3;cases g3;obtain ⟨z1,hz1,rz1⟩:=q1.get (List.getElem?_eq_getElem hds);obtain ⟨z2,hz2,rz2⟩:=q2.get (List.getElem?_eq_getElem hes);rw [hz1] at hz2;cases hz2;exact ih ds[i] es[i] z1 y1 y2 b rz1 rz2 s1 s2 s3
  rcases u49 hb fl with ⟨m',ss,ts,em,rfl,rfl⟩ | ⟨m',ss,ts,em,rfl,rfl⟩
  ·cases em
   obtain ⟨ds,rfl⟩:=u35 h1;obtain ⟨es,rfl⟩:=u35 h2;obtain ⟨_,_,em,ez,k1⟩:=snap_tup h1;cases em;cases ez;obtain ⟨_,_,em,ez,k2⟩:=snap_tup h2;cases em;cases ez;obtain ⟨a,xs,rfl,q1,rr1⟩:=r1.tup_inv;obtain ⟨a',ys,e',q2,rr2⟩:=r2.tup_inv;cases e';have:=I.tuple_inj q1 q2;subst this;unfold eqN at hb;split at hb
   ·obtain ⟨bs,kb,rfl⟩:=Option.map_eq_some_iff.mp hb
    exact items ds es xs ss ts bs rr1 rr2 k1 k2 kb
   ·cases hb
  ·cases em
   obtain ⟨a,rfl⟩:=u36 h1;obtain ⟨a',rfl⟩:=u36 h2;cases r1.ref_inv;have e':=r2.ref_inv;cases e';obtain ⟨_,ds,_,em,ez,hs1,k1⟩:=snap_ref h1;cases em;cases ez;obtain ⟨_,es,_,em,ez,hs2,k2⟩:=snap_ref h2;cases em;cases ez;rw [hs1] at hs2;cases hs2;rw [k1] at k2;cases k2;obtain ⟨xs,_,rr⟩:=u14 c hs1;unfold eqN at hb;split at hb
   ·obtain ⟨bs,kb,rfl⟩:=Option.map_eq_some_iff.mp hb
    exact items ds ds xs ss ss bs rr rr k1 k1 kb
   ·rename_i h;exact absurd rfl h
structure SeqPair (G:Gp) (K:W.Frag) (H:Hp) (m:Nat) (its its2:List Value) (bs:List Bool):Prop where
 len:its.length=its2.length
 bl:bs.length=its.length
 at_:∀ (j:Nat) (h1:j < its.length) (h2:j < its2.length) (h3:j < bs.length),∃ d e x y sd se,RelD K H d x /\ RelV x its[j] /\ RelD K H e y /\ RelV y its2[j] /\ snap G m d=some sd /\ snap G m e=some se /\ eqN m sd se=some bs[j]
theorem u63 {m:Nat} {ds es:List D} {xs ys:List V} {its its2:List Value} {ss ts:List Sn} {bs:List Bool} (q1:RelDs X.K H ds xs) (v1:Vals xs its) (q2:RelDs X.K H es ys) (v2:Vals ys its2)
  (k1:ds.mapM (snap G m)=some ss) (k2:es.mapM (snap G m)=some ts) (hl:ss.length=ts.length) (kb:((ss.zip ts).mapM fun p=>eqN m p.1 p.2)=some bs):SeqPair G X.K H m its its2 bs:=by
 obtain ⟨l1,f1⟩:=u12 k1;obtain ⟨l2,f2⟩:=u12 k2;obtain ⟨l3,f3⟩:=u12 kb;have hz:(ss.zip ts).length=min ss.length ts.length:=List.length_zip;have e1:=q1.length;have e2:=q2.length;have e3:=v1.length;have e4:=v2.length;refine ⟨by omega,by omega,fun j h1 h2 h3=>?_⟩;have hds:j < ds.length:=by omega
 have hes:j < es.length:=by omega
 obtain ⟨y1,g1,s1⟩:=f1 j ds[j] (List.getElem?_eq_getElem hds);obtain ⟨y2,g2,s2⟩:=f2 j es[j] (List.getElem?_eq_getElem hes);have hzip:(ss.zip ts)[j]?=some (y1,y2):=by rw [List.getElem?_zip_eq_some];exact ⟨g1,g2⟩
 obtain ⟨b',g3,s3⟩:=f3 j _ hzip;rw [List.getElem?_eq_getElem h3] at g3;cases g3;obtain ⟨z1,hz1,rz1⟩:=q1.get (List.getElem?_eq_getElem hds);obtain ⟨z2,hz2,rz2⟩:=q2.get (List.getElem?_eq_getElem hes);obtain ⟨u1,hu1,ru1⟩:=v1.get hz1;obtain ⟨u2,hu2,ru2⟩:=v2.get hz2;rw [List.getElem?_eq_getElem h1] at hu1;rw [List.getElem?_eq_getElem h2] at hu2;cases hu1;cases hu2;exact ⟨ds[j],es[j],z1,z2,y1,y2,rz1,ru1,rz2,ru2,s1,s2,s3⟩
end
section
variable {X:Cx} {pins:List (Addr × Obj)} {σ:L2.St} {H:Hp} {s:Shared} {G:Gp}
theorem us2 (I:Inv X pins σ H s) {n:Nat} {A:Around} {d e:D} {x y:V} {u v:Value} {sd se:Sn} {b:Bool} (r1:RelD X.K H d x) (v1:RelV x u) (r2:RelD X.K H e y) (v2:RelV y v) (h1:snap G n d=some sd) (h2:snap G n e=some se) (hb:eqN n sd se=some b) (fl:(u24 sd && u24 se)=true):SeqAt.EqAt A s u v b:=by
 rw [Bool.and_eq_true] at fl;have hb':b=eqF sd se:=by
  have z:=hb;rw [uj0 fl.1,if_pos (by rw [fl.1,fl.2];rfl)] at z;exact (Option.some.inj z).symm
 obtain ⟨fx,k⟩:=ug3 (u:=u) h1 fl.1 r1;obtain ⟨fy,_⟩:=ug3 (u:=v) h2 fl.2 r2;rw [hb',<- k e se y h2 fl.2 r2];exact v38 v1 v2 fx fy
theorem uy6 (I:Inv X pins σ H s) (c:Con X.K G H):∀ (n:Nat) (A:Around) (d e:D) (x y:V) (u v:Value) (sd se:Sn) (b:Bool),RelD X.K H d x->RelV x u->RelD X.K H e y->RelV y v->snap G n d=some sd->snap G n e=some se->eqN n sd se=some b->A.units+n < cLine->SeqAt.EqAt A s u v b:=by
 intro n
 induction n with
 | zero =>
  intro A d e x y u v sd se b r1 v1 r2 v2 h1 h2 hb hu
  by_cases fl:(u24 sd && u24 se)=true
  ·exact us2 I r1 v1 r2 v2 h1 h2 hb fl
  ·rcases u49 hb fl with ⟨_,_,_,z,_⟩ | ⟨_,_,_,z,_⟩ <;> cases z
 | succ m ih =>
  intro A d e x y u v sd se b r1 v1 r2 v2 h1 h2 hb hu
  by_cases fl:(u24 sd && u24 se)=true
  ·exact us2 I r1 v1 r2 v2 h1 h2 hb fl
  ·have inner:∀ (its its2:List Value) (bs:List Bool),SeqPair G X.K H m its its2 bs->∀ j (h1:j < its.toArray.size) (h2:j < its2.toArray.size),SeqAt.EqAt A.in1 s its.toArray[j] its2.toArray[j] ((bs[j]?).getD true):=by
    intro its its2 bs P j h1 h2;have h1':j < its.length:=by simpa using h1
    have h2':j < its2.length:=by simpa using h2
    have h3':j < bs.length:=by rw [P.bl];exact h1'
    obtain ⟨d',e',x',y',sd',se',a1,a2,a3,a4,a5,a6,a7⟩:=P.at_ j h1' h2' h3'
    rw [List.getElem?_eq_getElem h3'];have hu':A.in1.units+m < cLine:=by
     have:A.in1.units=A.units+1:=rfl;omega
    have:=ih A.in1 d' e' x' y' _ _ sd' se' _ a1 a2 a3 a4 a5 a6 a7 hu';simpa using this
   rcases u49 hb fl with ⟨m',ss,ts,em,rfl,rfl⟩ | ⟨m',ss,ts,em,rfl,rfl⟩
   ·cases em
    obtain ⟨ds,rfl⟩:=u35 h1;obtain ⟨es,rfl⟩:=u35 h2;obtain ⟨_,_,em,ez,k1⟩:=snap_tup h1;cases em;cases ez;obtain ⟨_,_,em,ez,k2⟩:=snap_tup h2;cases em;cases ez;obtain ⟨a,xs,rfl,q1,rr1⟩:=r1.tup_inv;obtain ⟨a',ys,rfl,q2,rr2⟩:=r2.tup_inv;cases v1;cases v2
    by_cases haa:a=a'
    ·subst haa
     rw [un2 I c (m+1) (.tup ds) (.tup es) (.ref a) _ _ b r1 r2 h1 h2 hb];exact SeqAt.EqAt.same _
    ·unfold eqN at hb
     split at hb
     ·rename_i hlen
      obtain ⟨bs,kb,rfl⟩:=Option.map_eq_some_iff.mp hb;obtain ⟨its,w1,t1,_⟩:=I.tuple q1;obtain ⟨its2,w2,t2,_⟩:=I.tuple q2;have P:=u63 rr1 w1 rr2 w2 k1 k2 hlen kb;have R:=SeqAt.RcAt.tuples (A:=A) (s:=s) (e:=fun j=>(bs[j]?).getD true) (show s.heap.IsTuple a its.toArray from t1) (show s.heap.IsTuple a' its2.toArray from t2) (by omega) (inner its its2 bs P);have e1:((List.range (min its.toArray.size its2.toArray.size)).all (fun j=>(bs[j]?).getD true) && its.toArray.size == its2.toArray.size)=bs.all id:=by
       have el:its.toArray.size=its2.toArray.size:=by simpa using P.len
       rw [el,Nat.min_self,beq_self_eq_true,Bool.and_true];exact ua1 (by rw [<- el];simpa using P.bl) fun i b hb=>by rw [hb];rfl
      rw [e1] at R;exact SeqAt.EqAt.of_refs haa R
     ·cases hb
   ·cases em
    obtain ⟨a,rfl⟩:=u36 h1;obtain ⟨a',rfl⟩:=u36 h2;obtain ⟨_,ds,_,em,ez,hs1,k1⟩:=snap_ref h1;cases em;cases ez;obtain ⟨_,es,_,em,ez,hs2,k2⟩:=snap_ref h2;cases em;cases ez;cases r1.ref_inv;cases r2.ref_inv;cases v1;cases v2
    by_cases haa:a=a'
    ·subst haa
     rw [un2 I c (m+1) (.ref a) (.ref a) (.ref a) _ _ b r1 r2 h1 h2 hb];exact SeqAt.EqAt.same _
    ·obtain ⟨xs,q1,rr1⟩:=u14 c hs1
     obtain ⟨ys,q2,rr2⟩:=u14 c hs2;obtain ⟨its,w1,t1,_⟩:=I.list q1;obtain ⟨its2,w2,t2,_⟩:=I.list q2;unfold eqN at hb;split at hb
     ·rename_i hlen
      obtain ⟨bs,kb,rfl⟩:=Option.map_eq_some_iff.mp hb;have P:=u63 rr1 w1 rr2 w2 k1 k2 hlen kb;have el:its.toArray.size=its2.toArray.size:=by simpa using P.len
      have R:=SeqAt.RcAt.lists (A:=A) (s:=s) (e:=fun j=>(bs[j]?).getD true) t1.isList t2.isList el (by omega) (inner its its2 bs P);have e1:((List.range its.toArray.size).all (fun j=>(bs[j]?).getD true))=bs.all id :=
       ua1 (by simpa using P.bl) fun i b hb=>by rw [hb];rfl
      rw [e1] at R;exact SeqAt.EqAt.of_refs haa R
     ·rename_i hlen
      cases hb;have n1:=(u12 k1).1;have n2:=(u12 k2).1;have m1:=rr1.length;have m2:=rr2.length;have m3:=w1.length;have m4:=w2.length;exact SeqAt.EqAt.of_refs haa (SeqAt.RcAt.lists_lengths t1.isList t2.isList (by simp;omega) (by omega))
end
def rEqD (K:W.Frag) (neg:Bool):R2:=fun x y H Q=>∃ (d e:D) (G:Gp) (n:Nat) (sd se:Sn) (b:Bool),RelD K H d x /\ RelD K H e y /\ Con K G H /\ n<=40 /\ snap G n d=some sd /\ snap G n e=some se /\ eqN n sd se=some b /\ u24 sd=false /\ Q (.bl (if neg then !b else b)) H
section
variable {X:Cx} {k:Nat}
theorem vl2 (hr:Room k X.A):OpR X (compareOp .Eq) (rEqD X.K false):=by
  intro pins s σ H x y v u Q I rx ry h;obtain ⟨d,e,G,n,sd,se,b,r1,r2,c,hn,h1,h2,hb,fl,q⟩:=h;have hu:=hr.units;have fin:EP X pins σ Q (.bool b) s:=⟨.bl b,H,I,rfl,q⟩
  rcases u49 hb (fun z=>by rw [fl] at z;cases z) with ⟨m,ss,ts,rfl,rfl,rfl⟩ | ⟨m,ss,ts,rfl,rfl,rfl⟩
  · obtain ⟨ds,rfl⟩:=u35 h1
    obtain ⟨es,rfl⟩:=u35 h2
    · · · obtain ⟨_,ss',em,ez,k1⟩ := snap_tup h1
          cases em;cases ez;obtain ⟨m',ts',em,es',k2⟩:=snap_tup h2;cases em;cases es';obtain ⟨a,xs,rfl,q1,rr1⟩:=r1.tup_inv;obtain ⟨a',ys,rfl,q2,rr2⟩:=r2.tup_inv;cases rx;cases ry;unfold eqN at hb;split at hb
          · rename_i hlen
            obtain ⟨bs,kb,rfl⟩:=Option.map_eq_some_iff.mp hb;obtain ⟨its,w1,t1,_⟩:=I.tuple q1;obtain ⟨its2,w2,t2,_⟩:=I.tuple q2;have P:=u63 rr1 w1 rr2 w2 k1 k2 hlen kb;refine SeqAt.eq_tupleAt (e:=fun j=>(bs[j]?).getD true) (show s.heap.IsTuple a its.toArray from t1) (show s.heap.IsTuple a' its2.toArray from t2) (by omega) ?_ ?_
            · intro j h1 h2
              have h1':j < its.length:=by simpa using h1
              have h2':j < its2.length:=by simpa using h2
              have h3':j < bs.length:=by rw [P.bl];exact h1'
              obtain ⟨d',e',x',y',sd',se',a1,a2,a3,a4,a5,a6,a7⟩:=P.at_ j h1' h2' h3'
              rw [List.getElem?_eq_getElem h3'];have:=uy6 I c m X.A.in1 d' e' x' y' _ _ sd' se' _ a1 a2 a3 a4 a5 a6 a7 (by have:X.A.in1.units=X.A.units+1:=rfl;omega);simpa using this
            · have e1 : ((List.range (min its.toArray.size its2.toArray.size)).all (fun j => (bs[j]?).getD true) && its.toArray.size == its2.toArray.size) = bs.all id := by
                have el:its.toArray.size=its2.toArray.size:=by simpa using P.len
                rw [el,Nat.min_self,beq_self_eq_true,Bool.and_true];exact ua1 (by rw [<- el];simpa using P.bl) fun i b hb=>by rw [hb];rfl
              rw [e1];exact fin
          · cases hb
  · obtain ⟨a,rfl⟩:=u36 h1
    obtain ⟨a',rfl⟩:=u36 h2
    · · · obtain ⟨_,ds,ss',em,ez,hs1,k1⟩ := snap_ref h1
          cases em;cases ez;obtain ⟨m',es,ts',em,es',hs2,k2⟩:=snap_ref h2;cases em;cases es';cases r1.ref_inv;cases r2.ref_inv;cases rx;cases ry;obtain ⟨xs,q1,rr1⟩:=u14 c hs1;obtain ⟨ys,q2,rr2⟩:=u14 c hs2;obtain ⟨its,w1,t1,_⟩:=I.list q1;obtain ⟨its2,w2,t2,_⟩:=I.list q2;unfold eqN at hb;split at hb
          · rename_i hlen
            obtain ⟨bs,kb,rfl⟩:=Option.map_eq_some_iff.mp hb;have P:=u63 rr1 w1 rr2 w2 k1 k2 hlen kb;have el:its.toArray.size=its2.toArray.size:=by simpa using P.len
            refine SeqAt.eq_listAt (e:=fun j=>(bs[j]?).getD true) t1.isList t2.isList el (by omega) ?_ ?_
            · intro j h1 h2
              have h1':j < its.length:=by simpa using h1
              have h2':j < its2.length:=by simpa using h2
              have h3':j < bs.length:=by rw [P.bl];exact h1'
              obtain ⟨d',e',x',y',sd',se',a1,a2,a3,a4,a5,a6,a7⟩:=P.at_ j h1' h2' h3'
              rw [List.getElem?_eq_getElem h3'];have:=uy6 I c m X.A.in1 d' e' x' y' _ _ sd' se' _ a1 a2 a3 a4 a5 a6 a7 (by have:X.A.in1.units=X.A.units+1:=rfl;omega);simpa using this
            · have e1 : ((List.range its.toArray.size).all (fun j => (bs[j]?).getD true)) = bs.all id :=
                ua1 (by simpa using P.bl) fun i b hb=>by rw [hb];rfl
              rw [e1];exact fin
          · rename_i hlen
            cases hb;have n1:=(u12 k1).1;have n2:=(u12 k2).1;have m1:=rr1.length;have m2:=rr2.length;have m3:=w1.length;have m4:=w2.length;exact SeqAt.eq_list_lengthsAt t1.isList t2.isList (by simp;omega) (by omega) fin
theorem vl0 (hr:Room k X.A):OpR X (compareOp .NotEq) (rEqD X.K true):=by
  intro pins s σ H x y v u Q I rx ry h;obtain ⟨d,e,G,n,sd,se,b,r1,r2,c,hn,h1,h2,hb,fl,q⟩:=h;have hu:=hr.units;have fin:EP X pins σ Q (.bool (!b)) s:=⟨.bl (!b),H,I,rfl,q⟩
  rcases u49 hb (fun z=>by rw [fl] at z;cases z) with ⟨m,ss,ts,rfl,rfl,rfl⟩ | ⟨m,ss,ts,rfl,rfl,rfl⟩
  · obtain ⟨ds,rfl⟩:=u35 h1
    obtain ⟨es,rfl⟩:=u35 h2
    · · · obtain ⟨_,ss',em,ez,k1⟩ := snap_tup h1
          cases em;cases ez;obtain ⟨m',ts',em,es',k2⟩:=snap_tup h2;cases em;cases es';obtain ⟨a,xs,rfl,q1,rr1⟩:=r1.tup_inv;obtain ⟨a',ys,rfl,q2,rr2⟩:=r2.tup_inv;cases rx;cases ry;unfold eqN at hb;split at hb
          · rename_i hlen
            obtain ⟨bs,kb,rfl⟩:=Option.map_eq_some_iff.mp hb;obtain ⟨its,w1,t1,_⟩:=I.tuple q1;obtain ⟨its2,w2,t2,_⟩:=I.tuple q2;have P:=u63 rr1 w1 rr2 w2 k1 k2 hlen kb;refine SeqAt.RcNeAt.tuples (e:=fun j=>(bs[j]?).getD true) (show s.heap.IsTuple a its.toArray from t1) (show s.heap.IsTuple a' its2.toArray from t2) (by omega) ?_ X.prog X.w X.xe _ ?_
            · intro j h1 h2
              have h1':j < its.length:=by simpa using h1
              have h2':j < its2.length:=by simpa using h2
              have h3':j < bs.length:=by rw [P.bl];exact h1'
              obtain ⟨d',e',x',y',sd',se',a1,a2,a3,a4,a5,a6,a7⟩:=P.at_ j h1' h2' h3'
              rw [List.getElem?_eq_getElem h3'];have:=uy6 I c m X.A.in1 d' e' x' y' _ _ sd' se' _ a1 a2 a3 a4 a5 a6 a7 (by have:X.A.in1.units=X.A.units+1:=rfl;omega);simpa using this
            · have e1 : ((List.range (min its.toArray.size its2.toArray.size)).all (fun j => (bs[j]?).getD true) && its.toArray.size == its2.toArray.size) = bs.all id := by
                have el:its.toArray.size=its2.toArray.size:=by simpa using P.len
                rw [el,Nat.min_self,beq_self_eq_true,Bool.and_true];exact ua1 (by rw [<- el];simpa using P.bl) fun i b hb=>by rw [hb];rfl
              rw [e1];exact fin
          · cases hb
  · obtain ⟨a,rfl⟩:=u36 h1
    obtain ⟨a',rfl⟩:=u36 h2
    · · · obtain ⟨_,ds,ss',em,ez,hs1,k1⟩ := snap_ref h1
          cases em;cases ez;obtain ⟨m',es,ts',em,es',hs2,k2⟩:=snap_ref h2;cases em;cases es';cases r1.ref_inv;cases r2.ref_inv;cases rx;cases ry;obtain ⟨xs,q1,rr1⟩:=u14 c hs1;obtain ⟨ys,q2,rr2⟩:=u14 c hs2;obtain ⟨its,w1,t1,_⟩:=I.list q1;obtain ⟨its2,w2,t2,_⟩:=I.list q2;unfold eqN at hb;split at hb
          · rename_i hlen
            obtain ⟨bs,kb,rfl⟩:=Option.map_eq_some_iff.mp hb;have P:=u63 rr1 w1 rr2 w2 k1 k2 hlen kb;have el:its.toArray.size=its2.toArray.size:=by simpa using P.len
            refine SeqAt.RcNeAt.lists (e:=fun j=>(bs[j]?).getD true) t1.isList t2.isList el (by omega) ?_ X.prog X.w X.xe _ ?_
            · intro j h1 h2
              have h1':j < its.length:=by simpa using h1
              have h2':j < its2.length:=by simpa using h2
              have h3':j < bs.length:=by rw [P.bl];exact h1'
              obtain ⟨d',e',x',y',sd',se',a1,a2,a3,a4,a5,a6,a7⟩:=P.at_ j h1' h2' h3'
              rw [List.getElem?_eq_getElem h3'];have:=uy6 I c m X.A.in1 d' e' x' y' _ _ sd' se' _ a1 a2 a3 a4 a5 a6 a7 (by have:X.A.in1.units=X.A.units+1:=rfl;omega);simpa using this
            · have e1 : ((List.range its.toArray.size).all (fun j => (bs[j]?).getD true)) = bs.all id :=
                ua1 (by simpa using P.bl) fun i b hb=>by rw [hb];rfl
              rw [e1];exact fin
          · rename_i hlen
            cases hb;have n1:=(u12 k1).1;have n2:=(u12 k2).1;have m1:=rr1.length;have m2:=rr2.length;have m3:=w1.length;have m4:=w2.length;exact SeqAt.RcNeAt.lists_lengths t1.isList t2.isList (by simp;omega) (by omega) X.prog X.w X.xe _ fin
end
structure FnAt (K:W.Frag) (x qual:Str) (st:Stmt) (ps:List Str) where
 a:Addr
 fd:FuncData
 ex:∃ (oc:Value) (od:Option Addr) (dV kV doc pm:Value) (an:Option Addr) (cdv ct:Value) (osl:Array (Option Value)),
  fd=W.fnOf x qual (u33 st) (u26 st) (u04 st) dV kV doc pm an cdv ct /\ K.lookup a=some ⟨oc,od,.func fd,osl⟩ /\ W.codeIn K cdv qual=true
 kp:W.keepIn K (.ref a)=true
 b:Binds K fd ps []
abbrev Ok (P:Program) (w:World) {K:W.Frag} (mg:Str->Option Value) (base:Heap) (n:Nat) {x qual:Str} {st:Stmt} {ps:List Str} (d:FnAt K x qual st ps) (S:Sp3):Prop:=FnOk P w K mg base CX0 n d.a d.fd ps (ue3 K S)
def ud2 (N:List Str) (ds:List D):DSt:=ds.map some++List.replicate (N.length - ds.length) none
theorem uk3 {K:W.Frag} {H:Hp} {N:List Str} {ds:List D} {vs:List V} (r:RelDs K H ds vs):RelSt K H (ud2 N ds) (L2.start N vs):=by
 unfold ud2 L2.start;refine ⟨by simp [r.length],fun i d e=>?_⟩
 by_cases hi:i < ds.length
 ·rw [List.getElem?_append_left (by simpa using hi),List.getElem?_map] at e
  rw [List.getElem?_append_left (by simpa [<- r.length] using hi),List.getElem?_map];cases h:ds[i]? with
  | none=>rw [h] at e;cases e
  | some d' =>
   rw [h] at e;cases e;obtain ⟨v,hv,rv⟩:=r.get h;exact ⟨v,by rw [hv];rfl,rv⟩
 ·rw [List.getElem?_append_right (by simpa using hi),List.getElem?_replicate] at e
  split at e <;> cases e
section
variable {P:Program} {w:World} {K:W.Frag} {mg:Str->Option Value} {base:Heap}
theorem u37 {x qual:Str} {st:Stmt} {ps N:List Str} {k:Nat} (d:FnAt K x qual st ps) {S:Sp3} (sc:FnScope N ps (u04 st)) (hl:∀ ds G R,S ds G R->ds.length=ps.length) {t:TS3}
  (ht:∀ (cdv:Value) (A:Around) (outer:List Env) (s:Shared) (H:Hp) (E:XK),Room k (A.deeper (envOfC qual (u04 st) s.heap.objs.size d.a cdv))->Ss3 (cxOf CX0 P w K mg base N qual (u04 st) d.a cdv A outer s H E).nox (u26 st) t)
  (hb:∀ ds G R,S ds G R->t { nx:=fun _ G'=>R .non G',rt:=R } (ud2 N ds) G):Ok P w mg base (k+1) d S:=by
 obtain ⟨oc,od,dV,kV,doc,pm,an,cdv,ct,osl,e,lk,hcd⟩:=d.ex;have lk':K.lookup d.a=some ⟨oc,od,.func (W.fnOf x qual (u33 st) (u26 st) (u04 st) dV kV doc pm an cdv ct),osl⟩:=e ▸ lk;have F:FnOk P w K mg base CX0 (k+1) d.a (W.fnOf x qual (u33 st) (u26 st) (u04 st) dV kV doc pm an cdv ct) ps (ue3 K S):=by
  refine vv7 lk' hcd sc (fun vs H Q E h=>?_) fun A outer s H vs Q E hr h=>?_
  ·obtain ⟨ds,G,R,r,_,hS,_⟩:=h
   rw [<- r.length];exact hl ds G R hS
  ·obtain ⟨ds,G,R,r,c,hS,f⟩:=h
   refine ⟨_,(show PSs _ _ _ from ht cdv A outer s H E hr).nox,ud2 N ds,G,_,uk3 r,c,hb ds G R hS,fun σd' G' σ' H' _ c' l' q=>?_,f,fun _ _ _ _ _ _ _ q=>q.elim,fun _ _ _ _ _ _ _ q=>q.elim⟩;exact f .non G' .non H' RelD.nonI c' l' q
 have F2:=F;rw [<- e] at F2;exact F2
end
section
variable {X:Cx} {e o:Expr} {es:List Expr} {p pos apos:Pos} {ta:TE3} {ts:TA3} {k n:Nat} {S:Sp3} {x m qual:Str} {st:Stmt} {ps:List Str} {C:Addr}
theorem ec (d:FnAt X.K x qual st ps) (hm:X.mg x=some (.ref d.a)) (G:FnOk X.prog X.w X.K X.mg X.base CX0 k d.a d.fd ps (ue3 X.K S)) (hr:Room k X.A) (ha:A3 X (e::es) ts) (hg:Gl X x:=by rfl) (hdb:(x == ("__debug__" : Str))=false:=by decide)
  (he:starEach (e::es) X.env=(false,eval e X.env)::starEach es X.env:=by rfl) (hpl:(backTo pos (starEach es X.env)).any (·.1)=false:=by rfl):E3 X (.Call (.Name x p) (e::es) [] pos) (dCall S [] ts) :=
 vq6 G hr hg hm d.kp d.b .nil (fun _=>.nil) ha hdb he hpl
end
def vr2 (osc:Scope) (N N':List Str) (ix:List (Option Nat)) (scope:Scope):Bool :=
 (scope.kind == .function) && scope.names.all (fun y=>y.2 != .cell) && scope.names.all (fun y=>y.2 != .local || scope.names.lookup y.1 == some .local) &&
 scope.names.all (fun y=>y.2 != .free || osc.names.lookup y.1 == some .cell || osc.names.lookup y.1 == some .free) && (ix.length == N'.length) &&
 (N'.zip ix).all (fun p=>match p.2 with | none=>true | some j=>N[j]? == some p.1 && scope.names.lookup p.1 == some .free)
theorem blk {X:Cx} {osc:Scope} {N N':List Str} {ix:List (Option Nat)} {scope:Scope} (h1:X.env.scope=osc) (h2:X.N=N) (h:vr2 osc N N' ix scope=true):BlkOk X N' ix scope:=by
 unfold vr2 at h;simp only [Bool.and_eq_true] at h;obtain ⟨⟨⟨⟨⟨a1,a2⟩,a3⟩,a4⟩,a5⟩,a6⟩:=h;rw [List.all_eq_true] at a2 a3 a4 a6;refine ⟨eq_of_beq a1,fun y hy=>by simpa using a2 y hy,fun y hy e=>?_,fun y hy e=>?_,eq_of_beq a5,fun i j x e1 e2=>?_⟩
 ·have:=a3 y hy
  simp only [e,bne_self_eq_false,Bool.false_or] at this;exact eq_of_beq this
 ·have:=a4 y hy
  simp only [e,bne_self_eq_false,Bool.false_or,Bool.or_eq_true,beq_iff_eq] at this;unfold Env.kindOf;rw [h1];exact this
 ·have hz:(N'.zip ix)[i]?=some (x,some j):=by rw [List.getElem?_zip_eq_some];exact ⟨e1,e2⟩
  have:=a6 _ (List.mem_of_getElem? hz);simp only [Bool.and_eq_true,beq_iff_eq] at this;rw [h2];exact this
section
variable {X:Cx} {K:W.Frag} {H:Hp}
def uh4:RS3:=fun x lo hi G q=>match x with
 | .ref a=>(match u11 (G a) with | some ds=>∀ p,G p=none->q (.ref p) (gup G p (.lst (cutD ds lo hi))) | none=>False)
 | .tup ds=>¬ (HT.sIx ds.length 0 lo=0 /\ HT.sIx ds.length ds.length hi=ds.length) /\ q (.tup (cutD ds lo hi)) G
 | _=>False
theorem x_sl:SlR X (va8 X.K uh4):=ve7 (sl_list.or vh4) <| by
 rintro x lo hi H Q ⟨d,G,q,r1,c,t,f⟩;unfold uh4 at t;split at t
 ·rename_i a
  split at t
  ·rename_i ds e
   obtain ⟨xs,s1,q1⟩:=u14 c e;exact .inl ⟨a,xs,r1.ref_inv,s1,fun p hp=>f _ _ _ _ RelD.refI (c.lstNew hp (q1.cut lo hi)) (Le.fresh hp) (t p (c.fresh hp))⟩
  ·exact t.elim
 ·rename_i ds
  obtain ⟨a,xs,rfl,s1,q1⟩:=r1.tup_inv;refine .inr ⟨a,xs,rfl,s1,by rw [<- q1.length];exact t.1,fun p hp=>?_⟩;refine f (.tup _) G (.ref p) _ ?_ (c.side hp) (Le.fresh hp) t.2;rw [RelD];exact ⟨p,_,rfl,SqT.of u18,RelDs.le (Le.fresh hp) (q1.cut lo hi)⟩
 ·exact t.elim
def xLen:C3:=fun ds G q=>match ds with
 | [.str z]=>z.length<=sizeLine /\ q (.int z.length) G
 | [.tup xs]=>q (.int xs.length) G
 | [.ref a]=>(match u11 (G a) with | some xs=>q (.int xs.length) G | none=>False)
 | _=>False
theorem RelDs.one {d:D} {vs:List V} (h:RelDs K H [d] vs):∃ v,vs=[v] /\ RelD K H d v:=by
 obtain ⟨x,r,rfl,h1,h2⟩:=h.inv_cons;rw [h2.inv_nil];exact ⟨x,rfl,h1⟩
theorem RelDs.two {d e:D} {vs:List V} (h:RelDs K H [d,e] vs):∃ v u,vs=[v,u] /\ RelD K H d v /\ RelD K H e u:=by
 obtain ⟨x,r,rfl,h1,h2⟩:=h.inv_cons;obtain ⟨y,rfl,h3⟩:=h2.one;exact ⟨x,y,rfl,h1,h3⟩
theorem v46:Call3 X (.builtin "len") xLen:=u46 (call_len_seq.or ue9) <| by
 rintro xs H Q ⟨ds,G,q,r,c,t,f⟩;unfold xLen at t;split at t
 ·obtain ⟨v,rfl,r1⟩:=r.one
  cases r1.str_inv;exact .inr ⟨_,rfl,t.1,f _ _ _ _ RelD.intI c (Le.refl H) t.2⟩
 ·obtain ⟨v,rfl,r1⟩:=r.one
  obtain ⟨a,ys,rfl,s1,q1⟩:=r1.tup_inv;refine .inl ⟨a,ys,rfl,.inr s1,?_⟩;rw [<- q1.length];exact f _ _ _ _ RelD.intI c (Le.refl H) t
 ·obtain ⟨v,rfl,r1⟩:=r.one
  cases r1.ref_inv;split at t
  ·rename_i ds e
   obtain ⟨ys,s1,q1⟩:=u14 c e;refine .inl ⟨_,ys,rfl,.inl s1,?_⟩;rw [<- q1.length];exact f _ _ _ _ RelD.intI c (Le.refl H) t
  ·exact t.elim
 ·exact t.elim
def xAbs:C3:=fun ds G q=>match ds with | [.int i]=>q (.int (if i < 0 then -i else i)) G | _=>False
theorem v47:Call3 X (.builtin "abs") xAbs:=u46 uz6 <| by
 rintro xs H Q ⟨ds,G,q,r,c,t,f⟩;unfold xAbs at t;split at t
 ·obtain ⟨v,rfl,r1⟩:=r.one
  cases r1.int_inv;exact ⟨_,rfl,f _ _ _ _ RelD.intI c (Le.refl H) t⟩
 ·exact t.elim
def v48:C3:=fun ds G q=>match ds with | [.int i,.int j]=>CDiv i j /\ q (.tup [.int (i / j),.int (i % j)]) G | _=>False
def vs6:C3:=fun ds G q=>match ds with | [.int i,.int j]=>q (.int (if j > i then j else i)) G | _=>False
def vs5:C3:=fun ds G q=>match ds with | [.int i,.int j]=>q (.int (if j < i then j else i)) G | _=>False
def v05:C3:=fun ds G q=>match ds with | [.int i]=>q (.int i) G | [.bl b]=>q (.int (if b then 1 else 0)) G | _=>False
def ua3:C3:=fun ds G q=>match ds with
 | [.tup xs]=>∀ p,G p=none->q (.ref p) (gup G p (.lst xs))
 | [.ref a]=>(match u11 (G a) with | some xs=>∀ p,G p=none->q (.ref p) (gup G p (.lst xs)) | none=>False)
 | _=>False
theorem uu0:Call3 X (.type "list") ua3:=u46 ue8 <| by
 rintro xs H Q ⟨ds,G,q,r,c,t,f⟩;unfold ua3 at t;split at t
 ·obtain ⟨v,rfl,r1⟩:=r.one
  obtain ⟨a,ys,rfl,s1,q1⟩:=r1.tup_inv;exact ⟨a,ys,rfl,.inr s1,fun p hp=>f _ _ _ _ RelD.refI (c.lstNew hp q1) (Le.fresh hp) (t p (c.fresh hp))⟩
 ·obtain ⟨v,rfl,r1⟩:=r.one
  cases r1.ref_inv;split at t
  ·rename_i ds e
   obtain ⟨ys,s1,q1⟩:=u14 c e;exact ⟨_,ys,rfl,.inl s1,fun p hp=>f _ _ _ _ RelD.refI (c.lstNew hp q1) (Le.fresh hp) (t p (c.fresh hp))⟩
  ·exact t.elim
 ·exact t.elim
def uh3:C3:=fun ds G q=>match ds with
 | [.tup xs]=>q (.tup xs) G
 | [.ref a]=>(match u11 (G a) with | some xs=>q (.tup xs) G | none=>False)
 | _=>False
def vd5:List D->Option (List Bool)
 | []=>some []
 | .bl b::r=>(vd5 r).map (b::·)
 | _=>none
def xAll:C3:=fun ds G q=>match ds with
 | [.ref a]=>(match u11 (G a) with | some xs=>(match vd5 xs with | some bs=>q (.bl (bs.all id)) G | none=>False) | none=>False)
 | _=>False
def uy1 (G:Gp):D->Option String
 | .non=>some "NoneType"
 | .bl _=>some "bool"
 | .int _=>some "int"
 | .str _=>some "str"
 | .ref a=>match G a with | some (.lst _)=>some "list" | some (.fro _)=>some "list" | some (.dic _)=>some "dict" | _=>none
 | _=>none
def uf7:C3:=fun ds G q=>match ds with
 | [x,.ty T]=>(T = "int" \/ T = "str" \/ T = "bool" \/ T = "list" \/ T = "tuple" \/ T = "dict") /\ (match uy1 G x with | some n=>q (.bl (subK n T)) G | none=>False)
 | _=>False
theorem ua2:Call3 X (.builtin "isinstance") uf7:=u46 uh0 <| by
 rintro xs H Q ⟨ds,G,q,r,c,t,f⟩;unfold uf7 at t;split at t
 ·rename_i d T
  obtain ⟨v,u,rfl,r1,r2⟩:=r.two;rw [RelD] at r2;subst r2;obtain ⟨hT,t⟩:=t;split at t
  ·rename_i n en
   refine ⟨v,n,T,rfl,?_,hT,f _ _ _ _ RelD.blI c (Le.refl H) t⟩;unfold uy1 at en;split at en
   ·cases r1.non_inv;cases en;rfl
   ·cases r1.bl_inv;cases en;rfl
   ·cases r1.int_inv;cases en;rfl
   ·cases r1.str_inv;cases en;rfl
   ·rename_i a
    cases r1.ref_inv;split at en
    ·rename_i xs ea;cases en;obtain ⟨ys,h1,_⟩:=c _ _ ea;exact .inl ⟨rfl,.inl ⟨ys,h1⟩⟩
    ·rename_i xs ea;cases en;obtain ⟨o,ys,h1,_⟩:=c _ _ ea;exact .inl ⟨rfl,.inr ⟨o,ys,h1⟩⟩
    ·rename_i xs ea;cases en;obtain ⟨ys,h1,_⟩:=c _ _ ea;exact .inr (.inr ⟨rfl,ys,h1⟩)
    ·cases en
   ·cases en
  ·exact t.elim
 ·exact t.elim
theorem us3 {x:Str} {T:String} {pos:Pos} (hm:X.mg x=none) (hv:bootBuiltins x=some (.type T)) (hg:Gl X x:=by rfl) (hn:x ≠ "__name__" := by decide) (hd:(x == ("__debug__" : Str))=false:=by decide):E3 X (.Name x pos) (dC (.ty T)) :=
 u20 (v88 (v:=.ty T) hg hm hv rfl hn hd) fun _ _ _=>ux6 fun _=>by rw [RelD]
def xIs2:R3:=fun x y G q=>match y with
 | .non=>(match x with | .non=>q (.bl true) G | _=>q (.bl false) G)
 | .bl b=>(match x with | .bl c=>q (.bl (decide (c=b))) G | _=>q (.bl false) G)
 | _=>False
def um2:R3:=fun x y G q=>match y with
 | .non=>(match x with | .non=>q (.bl false) G | _=>q (.bl true) G)
 | .bl b=>(match x with | .bl c=>q (.bl (!decide (c=b))) G | _=>q (.bl true) G)
 | _=>False
theorem uj4 {c b:Bool}:decide (V.bl c=V.bl b)=decide (c=b):=by cases c <;> cases b <;> rfl
end
def jSeq (n:Nat) (t:TGs3):TG3:=fun d σ G q=>match d with
 | .tup ds=>ds.length=n /\ t ds σ G q
 | .ref a=>(match u11 (G a) with | some ds=>ds.length=n /\ t ds σ G q | none=>False)
 | _=>False
def wAny (te:TE3):TI3:=fun σ G r=>te σ G fun x G1=>match x with
 | .ref a=>(match u11 (G1 a) with | some ds=>r ⟨ds,fun G=>u11 (G a)=some ds⟩ G1 | none=>False)
 | .tup ds=>r ⟨ds,fun _=>True⟩ G1
 | _=>False
section
variable {X:Cx} {es:List Expr} {e tg:Expr} {te:TE3} {pos:Pos}
theorem vo9 {k n:Nat} {t:TGs3} (hc:X.calm=true) (h:Js3 X es t) (hn:(assignEach es X.env).length=n:=by rfl) (hst:(assignEach es X.env).findIdx? (·.1)=none:=by rfl):J3 X (.Tuple es k pos) (jSeq n t) :=
 v53 (vu4 (vj0 hc h hn hst) (v83 hc h hn hst)) fun v σ H Q hh=>by
  obtain ⟨d,σd,G,q,r,rs,c,t,f⟩:=hh;unfold jSeq at t;split at t
  ·rename_i ds
   obtain ⟨a,xs,rfl,s,r2⟩:=r.tup_inv;exact .inl ⟨a,xs,rfl,s,by rw [<- r2.length];exact t.1,ds,σd,G,q,r2,rs,c,t.2,f⟩
  ·rename_i a
   split at t
   ·rename_i ds e
    obtain ⟨xs,s,r'⟩:=u14 c e;exact .inr ⟨a,xs,r.ref_inv,s,by rw [<- r'.length];exact t.1,ds,σd,G,q,r',rs,c,t.2,f⟩
   ·exact t.elim
  ·exact t.elim
theorem ur8 (h:E3 X e te):I3 X tg e (wAny te):=v52 (vi9 h) fun σ H R hh=>by
 obtain ⟨σd,G,q,rs,c,t,f⟩:=hh;refine ⟨σd,G,_,rs,c,t,fun x G1 v H1 r1 c1 l1 t1=>?_⟩;split at t1
 ·rename_i a
  split at t1
  ·rename_i ds e
   obtain ⟨xs,s,_⟩:=u14 c1 e;exact ⟨a,r1.ref_inv,.inl ⟨⟨xs,s⟩,f _ _ _ _ ul2 c1 l1 t1⟩⟩
  ·exact t1.elim
 ·rename_i ds
  obtain ⟨a,xs,rfl,s,r⟩:=r1.tup_inv;exact ⟨a,rfl,.inr ⟨⟨xs,s⟩,f _ _ _ _ (ur1 s r) c1 l1 t1⟩⟩
 ·exact t1.elim
end
section
variable {X:Cx} {e o:Expr} {es:List Expr} {to:TE3} {ts:TA3} {apos cpos:Pos}
theorem ty_list (K:W.Frag):∀ G H x v,Con K G H->RelD K H x v->tyD G "list" x->tyV K "list" v H:=by
 intro G H x v c r t;cases x with
 | ref a =>
  cases r.ref_inv;cases e:G a with
  | none=>simp [tyD,e] at t
  | some o =>
   cases o with
   | lst ds=>obtain ⟨xs,s,_⟩:=u14 (ds:=ds) c (by rw [e];rfl);exact .inl ⟨rfl,xs,s⟩
   | fro ds=>obtain ⟨xs,s,_⟩:=u14 (ds:=ds) c (by rw [e];rfl);exact .inl ⟨rfl,xs,s⟩
   | dic _=>simp [tyD,e] at t
   | dit _=>simp [tyD,e] at t
   | ins _ _=>simp [tyD,e] at t
   | exc _ _=>simp [tyD,e] at t
   | frd _=>simp [tyD,e] at t
   | tb _ _=>simp [tyD,e] at t
 | str _=>simp [tyD] at t
 | int _=>simp [tyD] at t
 | _=>exact t.elim
def ub1:M3:=fun x ds G q=>match x,ds with
 | .ref a,[d]=>(match G a with | some (.lst xs)=>xs.length < sizeLine /\ q .non (gup G a (.lst (xs++[d]))) | _=>False)
 | _,_=>False
theorem u59 (ho:E3 X o to) (ha:A3 X (e::es) ts) (hbase:attributeBase o "append" X.env (eval o X.env)=eval o X.env:=by rfl)
  (hfew:((backTo cpos (starEach (e::es) X.env)).all (fun x=>!x.1) && (backToKw cpos (keywordEach [] X.env)).all (fun x=>x.1.isSome)
   && decide ((e::es).length+([]:List Keyword).length+(if ([]:List Keyword).isEmpty then 0 else 1) < 30))=true:=by rfl)
  (hline:(apos.endLine == cpos.line)=true:=by rfl) (hs:starEach (e::es) X.env=(false,eval e X.env)::starEach es X.env:=by rfl) (hplain:(backTo cpos (starEach es X.env)).any (·.1)=false:=by rfl) :
  E3 X (.Call (.Attribute o "append" apos) (e::es) [] cpos) (dBM "list" ub1 to ts) :=
 u20 (vu9 PySem.F.plainAttrs_list PySem.F.slot_list_append PySem.F.type_list_append (um4 (r':=lowM X.K ub1) ue1 <| by
  rintro x xs H Q ⟨d,ds,G,q,r1,r2,c,t,f⟩;unfold ub1 at t;split at t
  ·rename_i a d'
   split at t
   ·rename_i ys ea
    cases r1.ref_inv;obtain ⟨v,rfl,rv⟩:=r2.one;obtain ⟨zs,h1,q1⟩:=c _ _ ea;exact ⟨a,zs,v,rfl,rfl,h1,by rw [<- q1.length];exact t.1,f _ _ _ _ RelD.nonI (c.lstSet h1 (q1.append (.cons rv .nil))) (Le.lst h1) t.2⟩
   ·exact t.elim
  ·exact t.elim) ho ha hbase hfew hline hs hplain) fun _ _ _=>vo2 (ty_list X.K)
def v94:M3:=fun x ds G q=>match x,ds with
 | .ref a,[.ref b]=>(match G a,G b with | some (.lst xs),some (.lst ys)=>xs.length+ys.length<=sizeLine /\ q .non (gup G a (.lst (xs++ys))) | _,_=>False)
 | _,_=>False
def up3:M3:=fun x ds G q=>match x,ds with
 | .ref a,[]=>(match G a with | some (.lst xs)=>(match xs[xs.length - 1]? with | some y=>q y (gup G a (.lst xs.dropLast)) | none=>False) | _=>False)
 | _,_=>False
theorem uj1 (ho:E3 X o to) (hbase:attributeBase o "pop" X.env (eval o X.env)=eval o X.env:=by rfl) (hline:(apos.endLine == cpos.line)=true:=by rfl):E3 X (.Call (.Attribute o "pop" apos) [] [] cpos) (dBM0 "list" up3 to) :=
 u20 (v25 PySem.F.plainAttrs_list PySem.F.slot_list_pop PySem.F.type_list_pop (um4 (r':=lowM X.K up3) vn1 <| by
  rintro x xs H Q ⟨d,ds,G,q,r1,r2,c,t,f⟩;unfold up3 at t;split at t
  ·rename_i a
   split at t
   ·rename_i ys ea
    split at t
    ·rename_i y ey
     cases r1.ref_inv;cases r2.inv_nil;obtain ⟨zs,h1,q1⟩:=c _ _ ea;obtain ⟨v,hv,rv⟩:=q1.get ey;exact ⟨a,zs,v,rfl,rfl,h1,by rw [<- q1.length];exact hv,f _ _ _ _ (RelD.le (Le.lst h1) rv) (c.lstSet h1 q1.dropLast) (Le.lst h1) t⟩
    ·exact t.elim
   ·exact t.elim
  ·exact t.elim) ho hbase hline) fun _ _ _=>uq0 (ty_list X.K)
def ub0:M3:=fun x ds G q=>match x,ds with
 | .ref a,[]=>(match G a with | some (.lst _)=>q .non (gup G a (.lst [])) | _=>False)
 | _,_=>False
theorem uy9 (ho:E3 X o to) (hbase:attributeBase o "clear" X.env (eval o X.env)=eval o X.env:=by rfl) (hline:(apos.endLine == cpos.line)=true:=by rfl):E3 X (.Call (.Attribute o "clear" apos) [] [] cpos) (dBM0 "list" ub0 to) :=
 u20 (v25 PySem.F.plainAttrs_list PySem.F.slot_list_clear PySem.F.type_list_clear (um4 (r':=lowM X.K ub0) uw4 <| by
  rintro x xs H Q ⟨d,ds,G,q,r1,r2,c,t,f⟩;unfold ub0 at t;split at t
  ·rename_i a
   split at t
   ·rename_i ys ea
    cases r1.ref_inv;cases r2.inv_nil;obtain ⟨zs,h1,q1⟩:=c _ _ ea;exact ⟨a,zs,rfl,rfl,h1,f _ _ _ _ RelD.nonI (c.lstSet h1 .nil) (Le.lst h1) t⟩
   ·exact t.elim
  ·exact t.elim) ho hbase hline) fun _ _ _=>uq0 (ty_list X.K)
end
def xEqB (neg:Bool):R3:=fun x y G q=>match x,y with
 | .int i,.int j=>q (.bl (if neg then !decide (i=j) else decide (i=j))) G
 | .str i,.str j=>q (.bl (if neg then !decide (i=j) else decide (i=j))) G
 | .bl i,.bl j=>q (.bl (if neg then !decide (i=j) else decide (i=j))) G
 | .non,.non=>q (.bl (!neg)) G
 | .non,.int _=>q (.bl neg) G
 | .int _,.non=>q (.bl neg) G
 | .non,.bl _=>q (.bl neg) G
 | .bl _,.non=>q (.bl neg) G
 | .non,.str _=>q (.bl neg) G
 | .str _,.non=>q (.bl neg) G
 | .int _,.str _=>q (.bl neg) G
 | .str _,.int _=>q (.bl neg) G
 | .tup xs,.tup ys=>∃ n sd se b,n<=40 /\ snap G n (.tup xs)=some sd /\ snap G n (.tup ys)=some se /\ eqN n sd se=some b /\ q (.bl (if neg then !b else b)) G
 | .ref a,.ref c=>∃ n sd se b,n<=40 /\ snap G n (.ref a)=some sd /\ snap G n (.ref c)=some se /\ eqN n sd se=some b /\ q (.bl (if neg then !b else b)) G
 | _,_=>False
section
variable {X:Cx} {k:Nat}
theorem uj3 {i j:Int}:decide (V.int i=V.int j)=decide (i=j):=by
 by_cases h:i=j
 ·subst h;simp
 ·simp [h]
theorem uj2 {i j:Str}:decide (V.str i=V.str j)=decide (i=j):=by
 by_cases h:i=j
 ·subst h;simp
 ·simp [h]
theorem u40 {G:Gp} {n:Nat} {xs:List D} {sd:Sn} (h:snap G n (.tup xs)=some sd):u24 sd=false:=by
 obtain ⟨_,_,_,rfl,_⟩:=snap_tup h;rfl
theorem u41 {G:Gp} {n:Nat} {a:Addr} {sd:Sn} (h:snap G n (.ref a)=some sd):u24 sd=false:=by
 obtain ⟨_,_,_,_,rfl,_⟩:=snap_ref h;rfl
theorem x_eq (hr:Room k X.A):Op3 X (compareOp .Eq) (xEqB false):=u50 (op_eq.or (vl2 hr)) <| by
 rintro x y H Q ⟨d,e,G,q,r1,r2,c,t,f⟩;have fin:∀ b,q (.bl b) G->Q (.bl b) H:=fun b z=>f _ _ _ _ RelD.blI c (Le.refl H) z
 unfold xEqB at t;split at t
 ·cases r1.int_inv;cases r2.int_inv;exact .inl ⟨rfl,by rw [uj3];exact fin _ t⟩
 ·cases r1.str_inv;cases r2.str_inv;exact .inl ⟨rfl,by rw [uj2];exact fin _ t⟩
 ·cases r1.bl_inv;cases r2.bl_inv;exact .inl ⟨rfl,by rw [uj4];exact fin _ t⟩
 ·cases r1.non_inv;cases r2.non_inv;exact .inl ⟨rfl,fin _ t⟩
 ·cases r1.non_inv;cases r2.int_inv;exact .inl ⟨rfl,fin _ t⟩
 ·cases r1.int_inv;cases r2.non_inv;exact .inl ⟨rfl,fin _ t⟩
 ·cases r1.non_inv;cases r2.bl_inv;exact .inl ⟨rfl,fin _ t⟩
 ·cases r1.bl_inv;cases r2.non_inv;exact .inl ⟨rfl,fin _ t⟩
 ·cases r1.non_inv;cases r2.str_inv;exact .inl ⟨rfl,fin _ t⟩
 ·cases r1.str_inv;cases r2.non_inv;exact .inl ⟨rfl,fin _ t⟩
 ·cases r1.int_inv;cases r2.str_inv;exact .inl ⟨rfl,fin _ t⟩
 ·cases r1.str_inv;cases r2.int_inv;exact .inl ⟨rfl,fin _ t⟩
 ·obtain ⟨n,sd,se,b,hn,h1,h2,hb,t⟩:=t
  exact .inr ⟨_,_,G,n,sd,se,b,r1,r2,c,hn,h1,h2,hb,u40 h1,fin _ t⟩
 ·obtain ⟨n,sd,se,b,hn,h1,h2,hb,t⟩:=t
  exact .inr ⟨_,_,G,n,sd,se,b,r1,r2,c,hn,h1,h2,hb,u41 h1,fin _ t⟩
 ·exact t.elim
theorem x_ne (hr:Room k X.A):Op3 X (compareOp .NotEq) (xEqB true):=u50 (op_ne.or (vl0 hr)) <| by
 rintro x y H Q ⟨d,e,G,q,r1,r2,c,t,f⟩;have fin:∀ b,q (.bl b) G->Q (.bl b) H:=fun b z=>f _ _ _ _ RelD.blI c (Le.refl H) z
 unfold xEqB at t;split at t
 ·cases r1.int_inv;cases r2.int_inv;exact .inl ⟨rfl,by rw [uj3];exact fin _ t⟩
 ·cases r1.str_inv;cases r2.str_inv;exact .inl ⟨rfl,by rw [uj2];exact fin _ t⟩
 ·cases r1.bl_inv;cases r2.bl_inv;exact .inl ⟨rfl,by rw [uj4];exact fin _ t⟩
 ·cases r1.non_inv;cases r2.non_inv;exact .inl ⟨rfl,fin _ t⟩
 ·cases r1.non_inv;cases r2.int_inv;exact .inl ⟨rfl,fin _ t⟩
 ·cases r1.int_inv;cases r2.non_inv;exact .inl ⟨rfl,fin _ t⟩
 ·cases r1.non_inv;cases r2.bl_inv;exact .inl ⟨rfl,fin _ t⟩
 ·cases r1.bl_inv;cases r2.non_inv;exact .inl ⟨rfl,fin _ t⟩
 ·cases r1.non_inv;cases r2.str_inv;exact .inl ⟨rfl,fin _ t⟩
 ·cases r1.str_inv;cases r2.non_inv;exact .inl ⟨rfl,fin _ t⟩
 ·cases r1.int_inv;cases r2.str_inv;exact .inl ⟨rfl,fin _ t⟩
 ·cases r1.str_inv;cases r2.int_inv;exact .inl ⟨rfl,fin _ t⟩
 ·obtain ⟨n,sd,se,b,hn,h1,h2,hb,t⟩:=t
  exact .inr ⟨_,_,G,n,sd,se,b,r1,r2,c,hn,h1,h2,hb,u40 h1,fin _ t⟩
 ·obtain ⟨n,sd,se,b,hn,h1,h2,hb,t⟩:=t
  exact .inr ⟨_,_,G,n,sd,se,b,r1,r2,c,hn,h1,h2,hb,u41 h1,fin _ t⟩
 ·exact t.elim
end
theorem ue6 {c A B:Prop} [Decidable c] (h1:c->A) (h2:¬ c->B):if decide c=true then A else B:=by
 by_cases h:c
 ·simpa [h] using h1 h
 ·simpa [h] using h2 h
theorem ud5 {xs:List D}:u11 (some (.lst xs))=some xs:=rfl
theorem un0 {xs:List D}:u11 (some (.fro xs))=some xs:=rfl
theorem vx1 {α:Type} {x:α} {xs:List α}:atI (x::xs) 0=some x:=u87 (j:=0) rfl
theorem vx0 {α:Type} {x y:α} {xs:List α}:atI (x::y::xs) 1=some y:=u87 (j:=1) rfl
theorem vw9 {α:Type} {x y z:α} {xs:List α}:atI (x::y::z::xs) 2=some z:=u87 (j:=2) rfl
theorem vw8 {α:Type} {x y z u:α} {xs:List α}:atI (x::y::z::u::xs) 3=some u:=u87 (j:=3) rfl
theorem vw7 {α:Type} {x y z u v:α} {xs:List α}:atI (x::y::z::u::v::xs) 4=some v:=u87 (j:=4) rfl
theorem vp4:ixN 3 0=some 0:=rfl
theorem vp3:ixN 3 1=some 1:=rfl
theorem vp2:ixN 3 2=some 2:=rfl
theorem vp6:ixN 2 0=some 0:=rfl
theorem vp5:ixN 2 1=some 1:=rfl
theorem v42 {i j:Int} (h0:0<=i) (h:i < 18446744073709551616):CMul i j:=.inl ⟨by omega,by omega⟩
theorem vx3 {j:Int} (h0:0<=j) (h:j<=1000):CPow 2 j:=⟨h0,by omega,by decide⟩
theorem uj5 {j:Int} (h0:0<=j) (h:j<=1000):CPow 1 j:=⟨h0,by omega,by decide⟩
end L3
namespace L3
theorem u38 {S:Sp3} {ds:List D} {G G1:Gp} {v:D} {q:DK} (h:∀ R:DK,R v G1->S ds G R) (k:q v G1):∃ R,S ds G R /\ ∀ d G',R d G'->q d G' :=
 ⟨fun d G'=>d=v /\ G'=G1,h _ ⟨rfl,rfl⟩,fun _ _ ⟨e1,e2⟩=>by subst e1;subst e2;exact k⟩
theorem u66 {S:Sp3} {ds:List D} {G:Gp} {post:DK} {q:DK} (h:∀ R:DK,(∀ d G',post d G'->R d G')->S ds G R) (k:∀ d G',post d G'->q d G'):∃ R,S ds G R /\ ∀ d G',R d G'->q d G' :=
 ⟨post,h _ fun _ _ z=>z,k⟩
theorem u58 {ok:Gp->Prop} {g:TG3} {tb:TS3} {E:Ends3} (I:List D->DSt->Gp->Prop) {items:List D} {σ:DSt} {G:Gp} (h0:I items σ G) (nil:∀ σ G,I [] σ G->ok G /\ E.nx σ G)
  (cons:∀ x r σ G,I (x::r) σ G->(∀ σ' G',I r σ' G'->forL ok g tb E r σ' G')->ok G /\ g x σ G fun σ1 G1=>tb { E with nx:=forL ok g tb E r,ct:=forL ok g tb E r,bk:=E.nx } σ1 G1):forL ok g tb E items σ G:=by
 induction items generalizing σ G with
 | nil=>exact nil σ G h0
 | cons x r ih=>exact cons x r σ G h0 fun σ' G' h=>ih h
theorem u60 {ok:Gp->Prop} {g:TG3} {tc:TT3} {te:TE3} {p:PySem.Addr} {q:DK} (I:List D->DSt->Gp->Prop) {items:List D} {σ:DSt} {G:Gp} (h0:I items σ G) (nil:∀ σ G,I [] σ G->ok G /\ q (.ref p) G)
  (cons:∀ x r σ G,I (x::r) σ G->(∀ σ' G',I r σ' G'->u90 ok g tc te p q r σ' G')->ok G /\ g x σ G fun σ2 G2=>tc σ2 G2 fun b G3 =>
   if b=true then te σ2 G3 fun d G4=>(match G4 p with | some (.lst ys)=>ys.length < PySem.sizeLine /\ u90 ok g tc te p q r σ2 (gup G4 p (.lst (ys++[d]))) | _=>False)
   else u90 ok g tc te p q r σ2 G3):u90 ok g tc te p q items σ G:=by
 induction items generalizing σ G with
 | nil=>exact nil σ G h0
 | cons x r ih=>exact cons x r σ G h0 fun σ' G' h=>ih h
theorem u78 {c:TT3} {tb:TS3} {E:Ends3} (I:Nat->DSt->Gp->Prop) {m:Nat} {σ:DSt} {G:Gp} (h0:I m σ G)
  (step:∀ m σ G N,I m σ G->(∀ σ' G' m',m=m'+1->I m' σ' G'->N σ' G')->c σ G fun b G1=>if b=true then tb { E with nx:=N,ct:=N,bk:=E.nx } σ G1 else E.nx σ G1):ut1 c tb E σ G:=by
 refine ⟨m+1,?_⟩
 induction m generalizing σ G with
 | zero=>exact step 0 σ G (whN c tb E 0) h0 fun σ' G' m' e=>absurd e (by omega)
 | succ m ih=>exact step (m+1) σ G (whN c tb E (m+1)) h0 fun σ' G' m' e h=>ih (by cases e;exact h)
end L3
namespace Rw
open PySem L2 L3
theorem u93 {G:Gp}:∀ ks:List Int,(ks.map D.int).mapM (snap G 0)=some (ks.map Sn.int)
 | []=>rfl
 | k::ks=>by
  rw [List.map_cons,List.mapM_cons,u93 ks];rfl
theorem ud3 {G:Gp} {a:Addr} {ks:List Int} (h:u11 (G a)=some (ks.map .int)):snap G 1 (.ref a)=some (.lst (ks.map .int)):=by
 show ((u11 (G a)).bind fun ds=>(ds.mapM (snap G 0)).map Sn.lst)=_
 rw [h,Option.bind_some,u93];rfl
theorem v36:∀ ks ms:List Int,ks.length=ms.length->∃ bs,(((ks.map Sn.int).zip (ms.map Sn.int)).mapM fun p=>eqN 0 p.1 p.2)=some bs /\ bs.all id=decide (ks=ms)
 | [],[],_=>⟨[],rfl,rfl⟩
 | [],_::_,h=>by simp at h
 | _::_,[],h=>by simp at h
 | k::ks,m::ms,h=>by
  obtain ⟨bs,e,q⟩:=v36 ks ms (by simpa using h);refine ⟨(k == m)::bs,?_,?_⟩
  ·rw [List.map_cons,List.map_cons,List.zip_cons_cons,List.mapM_cons,e]
   rfl
  ·rw [List.all_cons,q]
   by_cases hk:k=m
   ·subst hk;simp
   ·simp [hk]
theorem vb8 {ks ms:List Int}:eqN 1 (.lst (ks.map .int)) (.lst (ms.map .int))=some (decide (ks=ms)):=by
 show (if (ks.map Sn.int).length=(ms.map Sn.int).length then (((ks.map Sn.int).zip (ms.map Sn.int)).mapM fun p=>eqN 0 p.1 p.2).map (fun bs=>bs.all id) else some false)=_
 by_cases h:ks.length=ms.length
 ·rw [if_pos (by simpa using h)]
  obtain ⟨bs,e,q⟩:=v36 ks ms h;rw [e,Option.map_some,q]
 ·rw [if_neg (by simpa using h)]
  have:ks ≠ ms:=fun e=>h (by rw [e])
  simp [this]
theorem u28 {G:Gp} {a b:Addr} {ks ms:List Int} {Q:Bool->Prop} (h1:u11 (G a)=some (ks.map .int)) (h2:u11 (G b)=some (ms.map .int)) (h:Q (decide (ks=ms))) :
  ∃ n sd se r,n<=40 /\ snap G n (.ref a)=some sd /\ snap G n (.ref b)=some se /\ eqN n sd se=some r /\ Q r :=
 ⟨1,_,_,_,by decide,ud3 h1,ud3 h2,vb8,h⟩
theorem u30 (lo:Int) (n:Nat):rngD lo (n+1)=.int lo::rngD (lo+1) n:=by
 unfold rngD;rw [List.range_succ_eq_map,List.map_cons,List.map_map]
 congr 1
 ·simp
 ·apply List.map_congr_left
  intro i _
  show D.int _=D.int _
  congr 1
  simp;omega
structure Grow (G G':Gp):Prop where
 kp:∀ b o,G b=some o->G' b=some o
theorem Grow.refl {G:Gp}:Grow G G:=⟨fun _ _ h=>h⟩
theorem Grow.trans {G G1 G2:Gp} (a:Grow G G1) (b:Grow G1 G2):Grow G G2:=⟨fun c o h=>b.kp c o (a.kp c o h)⟩
theorem Grow.new {G G1:Gp} {p:Addr} {o:DO} (a:Grow G G1) (h:G1 p=none):Grow G (gup G1 p o):=⟨fun b u e=>by rw [u05 (gne (a.kp b u e) h)];exact a.kp b u e⟩
theorem Grow.own {G G1:Gp} {p:Addr} {o:DO} (a:Grow G G1) (h:G p=none):Grow G (gup G1 p o):=⟨fun b u e=>by rw [u05 (gne e h)];exact a.kp b u e⟩
theorem Grow.none {G G1:Gp} {p:Addr} (a:Grow G G1) (h:G1 p=none):G p=none:=by
 cases e:G p with
 | none=>rfl
 | some o=>rw [a.kp p o e] at h;cases h
end Rw
namespace L3
open PySem PySem.Spec PyProof.Rows L2
theorem ve2:(∀ i j G q,xEqB false (.int i) (.int j) G q=q (.bl (decide (i=j))) G) /\ (∀ i j G q,xEqB true (.int i) (.int j) G q=q (.bl (!decide (i=j))) G) /\
  (∀ i j G q,xEqB false (.str i) (.str j) G q=q (.bl (decide (i=j))) G) /\ (∀ i j G q,xEqB true (.str i) (.str j) G q=q (.bl (!decide (i=j))) G) /\
  (∀ a c G q,xEqB false (.ref a) (.ref c) G q=∃ n sd se b,n<=40 /\ snap G n (.ref a)=some sd /\ snap G n (.ref c)=some se /\ eqN n sd se=some b /\ q (.bl b) G) /\
  (∀ a c G q,xEqB true (.ref a) (.ref c) G q=∃ n sd se b,n<=40 /\ snap G n (.ref a)=some sd /\ snap G n (.ref c)=some se /\ eqN n sd se=some b /\ q (.bl (!b)) G) /\
  (∀ a c G q,xEqB false (.tup a) (.tup c) G q=∃ n sd se b,n<=40 /\ snap G n (.tup a)=some sd /\ snap G n (.tup c)=some se /\ eqN n sd se=some b /\ q (.bl b) G) /\
  (∀ a c G q,xEqB true (.tup a) (.tup c) G q=∃ n sd se b,n<=40 /\ snap G n (.tup a)=some sd /\ snap G n (.tup c)=some se /\ eqN n sd se=some b /\ q (.bl (!b)) G) /\
  (∀ i j G q,xAdd (.int i) (.int j) G q=q (.int (i+j)) G) /\ (∀ i j G q,xMul (.int i) (.int j) G q=(CMul i j /\ q (.int (i * j)) G)) /\
  (∀ a k G q,xMul (.ref a) (.int k) G q=(match G a with | some (.lst xs)=>(-(2 ^ 63)<=k /\ k < 2 ^ 63 /\ xs.length * k.toNat<=sizeLine) /\ ∀ p,G p=none->q (.ref p) (gup G p (.lst (List.replicate k.toNat xs).flatten)) | _=>False)) /\
  (∀ i j G q,xLt (.int i) (.int j) G q=q (.bl (decide (i < j))) G) /\
  (∀ ds i G q,xIx (.tup ds) (.int i) G q=(match atI ds i with | some d=>q d G | none=>False)) /\
  (∀ a i G q,xIx (.ref a) (.int i) G q=(match u11 (G a) with | some ds=>(match atI ds i with | some d=>q d G | none=>False) | none=>False)) /\
  (∀ xs G q,xLen [.tup xs] G q=q (.int xs.length) G) /\ (∀ a G q,xLen [.ref a] G q=(match u11 (G a) with | some xs=>q (.int xs.length) G | none=>False)) :=
 ⟨fun _ _ _ _=>rfl,fun _ _ _ _=>rfl,fun _ _ _ _=>rfl,fun _ _ _ _=>rfl,fun _ _ _ _=>rfl,fun _ _ _ _=>rfl,fun _ _ _ _=>rfl,fun _ _ _ _=>rfl,fun _ _ _ _=>rfl,fun _ _ _ _=>rfl,fun _ _ _ _=>rfl,fun _ _ _ _=>rfl,fun _ _ _ _=>rfl,fun _ _ _ _=>rfl,fun _ _ _=>rfl,fun _ _ _=>rfl⟩
theorem ve1:(∀ f i j G q,xInt f (.int i) (.int j) G q=q (.int (f i j)) G) /\ (∀ C f i j G q,ud0 C f (.int i) (.int j) G q=(C i j /\ q (.int (f i j)) G)) /\ (∀ i j G q,xLe (.int i) (.int j) G q=q (.bl (decide (i<=j))) G) /\
  (∀ i j G q,xGt (.int i) (.int j) G q=q (.bl (decide (j < i))) G) /\ (∀ i j G q,xGe (.int i) (.int j) G q=q (.bl (decide (j<=i))) G) /\ (∀ i G q,xNeg (.int i) G q=q (.int (-i)) G) /\
  (∀ a k v G q,xSet (.ref a) (.int k) v G q=(match G a with | some (.lst ds)=>(match ixN ds.length k with | some j=>q (gup G a (.lst (ds.set j v))) | none=>False) | _=>False)) /\
  (∀ a lo hi G q,uh4 (.ref a) lo hi G q=(match u11 (G a) with | some ds=>∀ p,G p=none->q (.ref p) (gup G p (.lst (cutD ds lo hi))) | none=>False)) /\
  (∀ ds lo hi G q,uh4 (.tup ds) lo hi G q=(¬ (HT.sIx ds.length 0 lo=0 /\ HT.sIx ds.length ds.length hi=ds.length) /\ q (.tup (cutD ds lo hi)) G)) /\
  (∀ x G q,xIs2 x .non G q=(match x with | .non=>q (.bl true) G | _=>q (.bl false) G)) /\ (∀ x b G q,xIs2 x (.bl b) G q=(match x with | .bl c=>q (.bl (decide (c=b))) G | _=>q (.bl false) G)) /\
  (∀ x G q,um2 x .non G q=(match x with | .non=>q (.bl false) G | _=>q (.bl true) G)) /\ (∀ x b G q,um2 x (.bl b) G q=(match x with | .bl c=>q (.bl (!decide (c=b))) G | _=>q (.bl true) G)) /\
  (∀ i G q,xAbs [.int i] G q=q (.int (if i < 0 then -i else i)) G) /\ (∀ i j G q,v48 [.int i,.int j] G q=(CDiv i j /\ q (.tup [.int (i / j),.int (i % j)]) G)) /\
  (∀ i j G q,vs6 [.int i,.int j] G q=q (.int (if j > i then j else i)) G) /\ (∀ i j G q,vs5 [.int i,.int j] G q=q (.int (if j < i then j else i)) G) /\
  (∀ i G q,v05 [.int i] G q=q (.int i) G) /\ (∀ b G q,v05 [.bl b] G q=q (.int (if b then 1 else 0)) G) /\
  (∀ xs G q,ua3 [.tup xs] G q=∀ p,G p=none->q (.ref p) (gup G p (.lst xs))) /\ (∀ a G q,ua3 [.ref a] G q=(match u11 (G a) with | some xs=>∀ p,G p=none->q (.ref p) (gup G p (.lst xs)) | none=>False)) /\
  (∀ xs G q,uh3 [.tup xs] G q=q (.tup xs) G) /\ (∀ a G q,uh3 [.ref a] G q=(match u11 (G a) with | some xs=>q (.tup xs) G | none=>False)) /\
  (∀ a G q,xAll [.ref a] G q=(match u11 (G a) with | some xs=>(match vd5 xs with | some bs=>q (.bl (bs.all id)) G | none=>False) | none=>False)) /\
  (∀ x T G q,uf7 [x,.ty T] G q=((T = "int" \/ T = "str" \/ T = "bool" \/ T = "list" \/ T = "tuple" \/ T = "dict") /\ (match uy1 G x with | some n=>q (.bl (subK n T)) G | none=>False))) /\
  (∀ a d G q,ub1 (.ref a) [d] G q=(match G a with | some (.lst xs)=>xs.length < sizeLine /\ q .non (gup G a (.lst (xs++[d]))) | _=>False)) /\
  (∀ a b G q,v94 (.ref a) [.ref b] G q=(match G a,G b with | some (.lst xs),some (.lst ys)=>xs.length+ys.length<=sizeLine /\ q .non (gup G a (.lst (xs++ys))) | _,_=>False)) /\
  (∀ a G q,ub0 (.ref a) [] G q=(match G a with | some (.lst _)=>q .non (gup G a (.lst [])) | _=>False)):=by
 refine ⟨?_,?_,?_,?_,?_,?_,?_,?_,?_,?_,?_,?_,?_,?_,?_,?_,?_,?_,?_,?_,?_,?_,?_,?_,?_,?_,?_,?_⟩ <;> intros <;> rfl
def strsOf:List D->Option (List Str)
 | []=>some []
 | .str x::r=>(strsOf r).map (x::·)
 | _=>none
def intsOf:List D->Option (List Int)
 | []=>some []
 | .int x::r=>(intsOf r).map (x::·)
 | _=>none
section
variable {X:Cx} {K:W.Frag} {H:Hp}
theorem u62:∀ {ds:List D} {ws:List Str} {vs:List V},strsOf ds=some ws->RelDs K H ds vs->vs=ws.map V.str
 | [],ws,vs,e,r=>by cases e;rw [r.inv_nil];rfl
 | .str b::ds,ws,vs,e,r=>by
  obtain ⟨x,xs,rfl,h1,h2⟩:=r.inv_cons;obtain ⟨ws',e',rfl⟩:=Option.map_eq_some_iff.mp (show (strsOf ds).map (b::·)=some ws from e);rw [h1.str_inv,u62 e' h2];rfl
 | .non::_,_,_,e,_=>by cases e
 | .bl _::_,_,_,e,_=>by cases e
 | .int _::_,_,_,e,_=>by cases e
 | .tup _::_,_,_,e,_=>by cases e
 | .ref _::_,_,_,e,_=>by cases e
 | .ty _::_,_,_,e,_=>by cases e
theorem u64:∀ {ds:List D} {ws:List Int} {vs:List V},intsOf ds=some ws->RelDs K H ds vs->vs=ws.map V.int
 | [],ws,vs,e,r=>by cases e;rw [r.inv_nil];rfl
 | .int b::ds,ws,vs,e,r=>by
  obtain ⟨x,xs,rfl,h1,h2⟩:=r.inv_cons;obtain ⟨ws',e',rfl⟩:=Option.map_eq_some_iff.mp (show (intsOf ds).map (b::·)=some ws from e);rw [h1.int_inv,u64 e' h2];rfl
 | .non::_,_,_,e,_=>by cases e
 | .bl _::_,_,_,e,_=>by cases e
 | .str _::_,_,_,e,_=>by cases e
 | .tup _::_,_,_,e,_=>by cases e
 | .ref _::_,_,_,e,_=>by cases e
 | .ty _::_,_,_,e,_=>by cases e
theorem ur4 {w:Str} {ws:List Str}:inV (V.str w) (ws.map V.str)=decide (w ∈ ws):=by
 unfold inV
 induction ws with
 | nil=>rfl
 | cons x xs ih =>
  rw [List.map_cons,List.any_cons,ih]
  show ((x == w) || decide (w ∈ xs))=_
  by_cases h:x=w
  ·subst h;simp
  ·have h':¬ w=x:=fun e=>h e.symm
   have:(x == w)=false:=by simpa using h
   rw [this];simp [h']
theorem ur5 {w:Int} {ws:List Int}:inV (V.int w) (ws.map V.int)=decide (w ∈ ws):=by
 unfold inV
 induction ws with
 | nil=>rfl
 | cons x xs ih =>
  rw [List.map_cons,List.any_cons,ih]
  show ((x == w) || decide (w ∈ xs))=_
  by_cases h:x=w
  ·subst h;simp
  ·have h':¬ w=x:=fun e=>h e.symm
   have:(x == w)=false:=by simpa using h
   rw [this];simp [h']
theorem u82:∀ ws:List Str,(ws.map V.str).all u84=true
 | []=>rfl
 | _::ws=>by rw [List.map_cons,List.all_cons,u82 ws];rfl
theorem u83:∀ ws:List Int,(ws.map V.int).all u84=true
 | []=>rfl
 | _::ws=>by rw [List.map_cons,List.all_cons,u83 ws];rfl
def xInB (neg:Bool):R3:=fun x y G q=>match x,y with
 | .str w,.tup ds=>(match strsOf ds with | some ws=>q (.bl (if neg then !decide (w ∈ ws) else decide (w ∈ ws))) G | none=>False)
 | .str w,.ref a=>(match u11 (G a) with | some ds=>(match strsOf ds with | some ws=>q (.bl (if neg then !decide (w ∈ ws) else decide (w ∈ ws))) G | none=>False) | none=>False)
 | .int w,.tup ds=>(match intsOf ds with | some ws=>q (.bl (if neg then !decide (w ∈ ws) else decide (w ∈ ws))) G | none=>False)
 | .int w,.ref a=>(match u11 (G a) with | some ds=>(match intsOf ds with | some ws=>q (.bl (if neg then !decide (w ∈ ws) else decide (w ∈ ws))) G | none=>False) | none=>False)
 | _,_=>False
theorem vo0 {neg:Bool} {x y:V} {Q:VK} (h:lowR K (xInB neg) x y H Q):rIn K neg x y H Q:=by
 obtain ⟨d,e,G,q,r1,r2,c,t,f⟩:=h;unfold xInB at t;split at t
 ·rename_i w ds
  split at t
  ·rename_i ws es
   obtain ⟨a,xs,rfl,s1,q1⟩:=r2.tup_inv;cases r1.str_inv;obtain rfl:=u62 es q1;exact ⟨a,_,rfl,.inr s1,rfl,u82 ws,f _ _ _ _ (by rw [ur4];exact RelD.blI) c (Le.refl H) t⟩
  ·exact t.elim
 ·rename_i w a
  split at t
  ·rename_i ds eq
   split at t
   ·rename_i ws es
    obtain ⟨xs,s1,q1⟩:=u14 c eq;cases r1.str_inv;obtain rfl:=u62 es q1;exact ⟨a,_,r2.ref_inv,.inl s1,rfl,u82 ws,f _ _ _ _ (by rw [ur4];exact RelD.blI) c (Le.refl H) t⟩
   ·exact t.elim
  ·exact t.elim
 ·rename_i w ds
  split at t
  ·rename_i ws es
   obtain ⟨a,xs,rfl,s1,q1⟩:=r2.tup_inv;cases r1.int_inv;obtain rfl:=u64 es q1;exact ⟨a,_,rfl,.inr s1,rfl,u83 ws,f _ _ _ _ (by rw [ur5];exact RelD.blI) c (Le.refl H) t⟩
  ·exact t.elim
 ·rename_i w a
  split at t
  ·rename_i ds eq
   split at t
   ·rename_i ws es
    obtain ⟨xs,s1,q1⟩:=u14 c eq;cases r1.int_inv;obtain rfl:=u64 es q1;exact ⟨a,_,r2.ref_inv,.inl s1,rfl,u83 ws,f _ _ _ _ (by rw [ur5];exact RelD.blI) c (Le.refl H) t⟩
   ·exact t.elim
  ·exact t.elim
 ·exact t.elim
theorem v45 {k:Nat} {A:Around} (_:Room k A):Op3 X (compareOp .NotIn) (xInB true):=u50 ud9 fun _ _ _ _ h=>vo0 h
end
end L3
namespace Law
open PySem L2 L3 Rw
theorem v24 {m:Nat} (h:m<=100000):-(2 ^ 62)<=(m:Int) /\ (m:Int) < 2 ^ 62:=⟨by omega,by omega⟩
end Law
namespace Rw
open PySem L2 L3
theorem ua9 {α β:Type} {f:α->Option β}:∀ {xs:List α},(∀ x ∈ xs,∃ y,f x=some y)->∃ ys,xs.mapM f=some ys
 | [],_=>⟨[],rfl⟩
 | x::xs,h=>by
  obtain ⟨y,hy⟩:=h x List.mem_cons_self;obtain ⟨ys,hys⟩:=ua9 (xs:=xs) fun z hz=>h z (List.mem_cons_of_mem _ hz)
  exact ⟨y::ys,by rw [List.mapM_cons,hy,hys];rfl⟩
theorem snap_tup {G:Gp} {n:Nat} {ds:List D} (h:∀ d ∈ ds,∃ s,snap G n d=some s):∃ s,snap G (n+1) (.tup ds)=some s:=by
 obtain ⟨ys,e⟩:=ua9 h;exact ⟨.tup ys,by show (ds.mapM (snap G n)).map Sn.tup=_;rw [e];rfl⟩
theorem snap_int {G:Gp} {n:Nat} {i:Int}:∃ s,snap G n (.int i)=some s:=by cases n <;> exact ⟨_,rfl⟩
theorem snap_str {G:Gp} {n:Nat} {i:Str}:∃ s,snap G n (.str i)=some s:=by cases n <;> exact ⟨_,rfl⟩
theorem all1 {p:D->Prop} {a:D} (h:p a):∀ d ∈ [a],p d:=fun d hd=>by cases List.mem_singleton.mp hd;exact h
theorem all2 {p:D->Prop} {a:D} {r:List D} (h:p a) (hr:∀ d ∈ r,p d):∀ d ∈ a::r,p d:=fun d hd=>by
 rcases List.mem_cons.mp hd with rfl | q
 ·exact h
 ·exact hr d q
theorem snap_ref {G:Gp} {n:Nat} {a b:Addr} (h:u11 (G a)=u11 (G b)):snap G n (.ref a)=snap G n (.ref b):=by
 cases n with
 | zero=>rfl
 | succ n=>show ((u11 (G a)).bind _)=((u11 (G b)).bind _);rw [h]
end Rw
namespace L3
open PySem PySem.Spec PyProof.Rows L2
theorem u97:∀ ks:List Int,intsOf (ks.map D.int)=some ks
 | []=>rfl
 | k::ks=>by show (intsOf (ks.map D.int)).map (k::·)=_;rw [u97 ks];rfl
end L3
namespace L2
open PySem PySem.Spec PyProof.Rows
theorem up4:typeLookup (.type "list_reverseiterator") (Str.ofString "__len__")=pure none:=by
 rw [typeLookup_type,builtinLookup_eq_fast];rfl
theorem uw6:typeLookup (.type "list_reverseiterator") (Str.ofString "__length_hint__")=pure (some (.builtin "list_reverseiterator.__length_hint__")):=by
 rw [typeLookup_type,builtinLookup_eq_fast];rfl
theorem v95:isSubtype (.type "list_reverseiterator") (.type "list_reverseiterator")=pure true:=by rfl
theorem uk8 {prog:Program} {w:World} {A:Around} {E:Value->Shared->Prop} {s:Shared} {r:Addr} {Q:Bool->Shared->Prop} (ht:s.TypeIs (.ref r) "list_reverseiterator") (q:Q false s):wpAny (model prog w) A (Builtin.List.listLengthHint (.ref r)) Q E s:=by
 refine wpAny_bind (wpAny_specialOf ht up4 ?_);refine wpAny_bind (wpAny_specialOf ht uw6 ?_);refine wpAny_bind (wpAny_isInstance ht v95 ?_);exact wpAny_pure q
def ul9 (it l:Addr) (its:Array Value) (i:Nat) (s:Shared):Prop:=i<=its.size /\ s.heap.IsRevIter it l ((its.size:Int) - 1 - (i:Nat)) /\ s.heap.IsList l its
theorem v30 {it l:Addr} {its:Array Value} {i:Nat} {s:Shared} (h:ul9 it l its i s):s.TypeIs (.ref it) "list_reverseiterator" := by
 obtain ⟨_,⟨o,e,c,d⟩,_⟩:=h;exact ⟨o,e,c⟩
theorem ub2 {prog:Program} {w:World} {A:Around} {it l:Addr} {its:Array Value} (hh:A.handled=none) (hne:l ≠ it):WalksS prog w A it [it,l] [it] (fun a b=>a=b) its.size (fun i v=>its[its.size - 1 - i]?=some v) (ul9 it l its) where
 sub:=fun b hb=>by simp at hb;subst hb;simp
 grefl:=fun _=>rfl
 gtrans:=fun _ _ _ a b=>a.trans b
 frame:=fun i s h' tk st _ kp=>by
  obtain ⟨hi,st1,st2⟩:=st;exact ⟨hi,st1.at fun o e=>kp it (by simp) o e,st2.at fun o e=>kp l (by simp) o e⟩
 item:=fun i s Q E hi st q=>by
  obtain ⟨_,st1,st2⟩:=st;have e1:(its.size:Int) - 1 - (i:Nat)=((its.size - 1 - i:Nat):Int):=by omega
  rw [e1] at st1;have hx:its[its.size - 1 - i]?=some (its[its.size - 1 - i]'(by omega)):=Array.getElem?_eq_getElem _;refine wpAny_pyNext_rev_item st1 st2 hx fun h' st' sb=>?_
  refine q _ _ hx ⟨by omega,?_,st2.at fun o e=>(sb.2 l hne).trans e⟩ ⟨fun b o hb e=>(sb.2 b (by simpa using hb)).trans e,rfl,rfl,rfl,Nat.le_refl _⟩;have e2:(its.size:Int) - 1 - ((i+1:Nat):Int)=((its.size - 1 - i:Nat):Int) - 1:=by omega
  rw [e2];exact st'
 done:=fun s Q E st q=>by
  obtain ⟨_,st1,st2⟩:=st;have e1:(its.size:Int) - 1 - (its.size:Nat)=-1:=by omega
  rw [e1] at st1;exact wpAny_pyNext_rev_end hh st1 fun h' eb=>q _ ⟨fun b o hb e=>eb b o (by simpa using hb) e,rfl,rfl,rfl,Nat.le_refl _⟩
 self:=fun i s Q E st q=>wpAny_pyIter_revIter st.2.1 q
theorem uk9 {prog:Program} {w:World} {A:Around} {s:Shared} {R:Result->Shared->Prop} {it l S:Addr} {its:Array Value} {c0:Nat} (hh:A.in1.handled=none) (hne:l ≠ it) (hSi:S ≠ it) (hSl:S ≠ l) (hst:ul9 it l its 0 s) (hS:s.heap.get? S=some { cls:=.type "list",data:=.seq #[] c0 })
  (hn:its.size<=sizeLine) (hR:∀ (s':Shared) (acc:Array Value) (c:Nat),Moved [S,it] (fun a b=>a=b) s s'->s'.heap.get? S=some { cls:=.type "list",data:=.seq acc c }->ItemsOf (fun i v=>its[its.size - 1 - i]?=some v) acc its.size->R (.ok (.ret .none)) s') :
  wpAny (model prog w) A.in1 (Builtin.List.listExtendWith (.ref S) (.ref it) .none)
   (fun fin s'=>match fin with | .done f=>R (.ok f) s' | .again c'=>c'.quiet=true /\ codeAny (model prog w) A c' R s') (fun e s'=>R (.error e) s') s:=by
 have h1:Builtin.List.listSameRef (.ref S) (.ref it)=false:=by
  show (S == it)=false
  exact beq_eq_false_iff_ne.mpr hSi
 have h2:((Value.type "list_reverseiterator") == (Value.type "list"))=false:=by decide
 have h3:((Value.type "list_reverseiterator") == (Value.type "tuple"))=false:=by decide
 refine wpAny_bind (wpAny_typeOf (v30 hst) ?_);simp only [h1,h2,h3,Bool.or_false,Bool.false_eq_true,if_false];refine wpAny_bind (wpAny_pyIter_revIter hst.2.1 ?_);refine wpAny_bind (wpAny_holding (uk8 (v30 hst) ?_));exact wpAny_pure ⟨plainId_quiet F.plain_extend_loop _,codeAny_extend_loopS (ub2 hh hne) hn S (by simp [hSi,hSl]) .none its.size 0 s #[] c0 (by omega) (by omega) hst hS ⟨rfl,fun j v e=>by simp at e⟩ hR⟩
theorem uw5 {prog:Program} {w:World} {A:Around} {s:Shared} {R:Result->Shared->Prop} {it l S:Addr} {its:Array Value} (hh:A.in1.handled=none) (hne:l ≠ it) (hSi:S ≠ it) (hSl:S ≠ l) (hst:ul9 it l its 0 s) (hS:s.heap.get? S=some { cls:=.type "list",data:=.seq #[] })
  (hn:its.size<=sizeLine) (hR:∀ (s':Shared) (acc:Array Value) (c:Nat),Moved [S,it] (fun a b=>a=b) s s'->s'.heap.get? S=some { cls:=.type "list",data:=.seq acc c }->ItemsOf (fun i v=>its[its.size - 1 - i]?=some v) acc its.size->R (.ok (.ret .none)) s') :
  wpAny (model prog w) A.in1 (Builtin.«list.__init__» { pos:=[.ref S,.ref it] })
   (fun fin s'=>match fin with | .done f=>R (.ok f) s' | .again c'=>c'.quiet=true /\ codeAny (model prog w) A c' R s') (fun e s'=>R (.error e) s') s:=by
 refine wpAny_bind (wpAny_bind (wpAny_seqItems hS rfl (wpAny_pure (wpAny_bind (wpAny_updateSeq hS rfl ?_ (by decide) (by decide))))));have hS2:=Heap.get?_update_self (Obj.mapSeq fun _=>#[]) hS rfl;have oth:∀ b o,b ≠ S->s.heap.get? b=some o->(s.heap.update S (Obj.mapSeq fun _=>#[])).get? b=some o:=fun b o hb e=>(Heap.get?_update_other s.heap (Obj.mapSeq fun _=>#[]) (Ne.symm hb)).trans e
 refine wpAny_bind (wpAny_letGo ?_);refine uk9 hh hne hSi hSl ?_ hS2 hn fun s' acc c m hs ha=>hR s' acc c ?_ hs ha
 ·exact (ub2 (prog:=prog) (w:=w) hh hne).frame 0 s _ s.toks hst (Nat.le_refl _) fun b hb o e=>oth b o (fun z=>by subst z;simp at hb;rcases hb with z | z;exact hSi z;exact hSl z) e
 ·exact ⟨fun b o hb e=>m.heap b o hb (oth b o (fun z=>hb (by simp [z])) e),m.gens,m.drawn,m.os,m.toks⟩
theorem uc0 {prog:Program} {w:World} {A:Around} {E:Value->Shared->Prop} {s:Shared} {it l:Addr} {its:Array Value} {Q:Value->Shared->Prop} (hh:A.in1.in1.handled=none) (hne:l ≠ it) (hst:ul9 it l its 0 s) (hn:its.size<=sizeLine)
  (q:∀ (s':Shared) (acc:Array Value) (c:Nat),(∀ b o,b ≠ it->s.heap.get? b=some o->s'.heap.get? b=some o)->s'.gens=s.gens->s'.drawn=s.drawn->s'.os=s.os->s'.heap.get? s.heap.objs.size=some { cls:=.type "list",data:=.seq acc c } ->
   ItemsOf (fun i v=>its[its.size - 1 - i]?=some v) acc its.size->Q (.ref s.heap.objs.size) s'):wpAny (model prog w) A (call (.type "list") [.ref it]) Q E s:=by
 have hl:l < s.heap.objs.size:=by obtain ⟨o,e,_⟩:=hst.2.2;exact Heap.lt_size e
 have hi:it < s.heap.objs.size:=by obtain ⟨o,e,_⟩:=hst.2.1;exact Heap.lt_size e
 refine callType_codes (Q₁:=fun obj s1=>obj=.ref s.heap.objs.size /\ s1={ s with heap:=s.heap.push { cls:=.type "list",data:=.seq #[] } }) F.called_list (F.typeCall_list_1 (.ref it)) F.entry_list_init (code_list_new (.ref it) ⟨rfl,rfl⟩) fun obj s1 h1=>?_
 obtain ⟨e1,e2⟩:=h1;subst e1;subst e2;have hS:=Heap.get?_push_size (o:={ cls:=.type "list",data:=.seq #[] }) s.heap rfl;refine ⟨⟨_,hS,rfl⟩,F.args_list_init_2 _ _,?_⟩;refine uw5 hh hne (Nat.ne_of_gt hi) (Nat.ne_of_gt hl) ?_ hS hn fun s' acc c m hs ha=>⟨rfl,q s' acc c (fun b o hb e=>?_) m.gens.symm m.drawn m.os hs ha⟩
 ·exact (ub2 (prog:=prog) (w:=w) hh hne).frame 0 s _ s.toks hst (Nat.le_refl _) fun b hb o e=>Heap.get?_push_of_some _ e
 ·exact m.heap b o (by simp [hb];exact Nat.ne_of_lt (Heap.lt_size e)) (Heap.get?_push_of_some _ e)
def uh7 (K:W.Frag) (ta:TA):TE:=fun σ H Q=>ta σ H fun vs H1=>∃ a xs,vs=[.ref a] /\ SqL K H1 a xs /\ ∀ l,H1 l=none->Q (.ref l) (upd H1 l (.lst xs.reverse))
theorem ul5:bootBuiltins "list" = some (.type "list"):=by decide
theorem uk5 {X:Cx} {a:Expr} {ta:TA} {p p2 pos pos2:Pos} {k:Nat} (hr:Room k X.A) (hg:Gl X "reversed") (hm:X.mg "reversed" = none) (hg2:Gl X "list") (hm2:X.mg "list" = none) (ha:PA X [a] ta) (hs:starEach [a] X.env=[(false,eval a X.env)]:=by rfl)
  (hs2:starEach [.Call (.Name "reversed" p) [a] [] pos] X.env=[(false,eval (.Call (.Name "reversed" p) [a] [] pos) X.env)]:=by rfl) :
  PE X (.Call (.Name "list" p2) [.Call (.Name "reversed" p) [a] [] pos] [] pos2) (uh7 X.K ta):=by
 intro pins s σ H Q I h;refine wpAny_Call_Name_kw (u57 I hg2 hm2 ul5 ?_);refine PyProof.Rows.callWith_type1 ?_ hs2 rfl;rw [hs2]
 show wpAny _ _ (spliced ((false,eval (.Call (.Name "reversed" p) [a] [] pos) X.env)::backTo pos2 [])) _ _ s
 refine Calls.spliced_cons ?_;refine wpAny_Call_Name_kw (u57 I hg hm boot_reversed (PyProof.Rows.callWith_type1 (thn (ha pos pins s σ H _ I h) fun us s1 ⟨vs,H1,I1,r1,q1⟩=>?_) hs rfl));obtain ⟨l,xs,e,hq,q⟩:=q1;subst e;cases r1 with
 | cons r rr =>
  cases rr;cases r;obtain ⟨its,rv,pl,hz⟩:=I1.list hq;have hl:=rv.length;have hll:l < s1.heap.objs.size:=by obtain ⟨o,e,_⟩:=pl.isList;exact Heap.lt_size e
  refine call_reversed_list pl.isList ?_;refine Calls.spliced_nil ?_;have st:ul9 s1.heap.objs.size l its.toArray 0 { s1 with heap:=s1.heap.push (revObj l ((its.toArray.size:Int) - 1)) } :=
   ⟨Nat.zero_le _,⟨_,Heap.get?_push_size _ rfl,rfl,by simp [revObj]⟩,pl.isList.at fun o e=>Heap.get?_push_of_some _ e⟩
  refine uc0 hr.hd (Nat.ne_of_lt hll) st (by simp;omega) fun s' acc c kp hg hd ho hnew hit=>?_
  have kp':∀ b o,s1.heap.get? b=some o->s'.heap.get? b=some o:=fun b o e=>kp b o (Nat.ne_of_lt (Heap.lt_size e)) (Heap.get?_push_of_some _ e)
  have ha:Vals xs.reverse acc.toList:=by
   have e:acc.toList=its.reverse:=by
    have hz1:acc.size=its.length:=by simpa using hit.1
    refine List.ext_getElem (by simp [hz1]) fun j h1 h2=>?_
    have hj:j < acc.size:=by simpa using h1
    have:=hit.2 j acc[j] (Array.getElem?_eq_getElem hj);have e2:its[its.length - 1 - j]?=some acc[j]:=by simpa using this
    rw [List.getElem_reverse,Array.getElem_toList];exact (Option.some.inj ((List.getElem?_eq_getElem (by omega)).symm.trans e2)).symm
   rw [e];exact rv.reverse
  have I2:=I1.laid (h':=s'.heap) (a:=s1.heap.objs.size+1) (o:=.lst xs.reverse) (t':=s'.toks) kp' (Nat.le_succ _) ⟨by simp;omega,acc.toList,c,ha,by simpa using hnew⟩;have es:s'={ s1 with heap:=s'.heap,toks:=s'.toks }:=by cases s';cases hg;cases hd;cases ho;rfl
  rw [es];exact ⟨_,_,I2,by simp;rfl,q _ (I1.hok.fresh (Nat.le_succ _))⟩
end L2
namespace L3
open PySem PySem.Spec PyProof.Rows L2
def ub8 (t:TA3):TE3:=fun σ G q=>t σ G fun ds G1=>match ds with
 | [.ref a]=>(match u11 (G1 a) with | some ds=>∀ p,G1 p=none->q (.ref p) (gup G1 p (.lst ds.reverse)) | none=>False)
 | _=>False
theorem ug2 {K:W.Frag} {t:TA3} {σ:L2.St} {H:Hp} {Q:VK} (h:lowE K (ub8 t) σ H Q):uh7 K (lowA K t) σ H Q:=by
 obtain ⟨σd,G,q,rs,c,t,f⟩:=h;refine ⟨σd,G,_,rs,c,t,fun ds G1 vs H1 r1 c1 l1 t1=>?_⟩;split at t1
 ·rename_i a
  split at t1
  ·rename_i ds e
   obtain ⟨v,rfl,rv⟩:=r1.one;cases rv.ref_inv;obtain ⟨xs,s1,q1⟩:=u14 c1 e;exact ⟨a,xs,rfl,s1,fun p hp=>f _ _ _ _ RelD.refI (c1.lstNew hp q1.reverse) (l1.trans (Le.fresh hp)) (t1 p (c1.fresh hp))⟩
  ·exact t1.elim
 ·exact t1.elim
theorem us4 {X:Cx} {a:Expr} {ts:TA3} {p p2 pos pos2:Pos} {k:Nat} (hr:Room k X.A) (hg:Gl X "reversed") (hm:X.mg "reversed" = none) (hg2:Gl X "list") (hm2:X.mg "list" = none) (ha:A3 X [a] ts) (hs:starEach [a] X.env=[(false,eval a X.env)]:=by rfl)
  (hs2:starEach [.Call (.Name "reversed" p) [a] [] pos] X.env=[(false,eval (.Call (.Name "reversed" p) [a] [] pos) X.env)]:=by rfl) :
  E3 X (.Call (.Name "list" p2) [.Call (.Name "reversed" p) [a] [] pos] [] pos2) (ub8 ts):=u20 (uk5 hr hg hm hg2 hm2 ha hs hs2) fun _ _ _=>ug2
end L3
namespace L3
open PySem PySem.Spec PyProof.Rows L2 Rw
def stn (k m:Nat):Bool:=k == 0 || m.testBit (k - 1)
def pc (b m:Nat):Nat:=(List.range b).countP fun i=>m.testBit i
theorem v90 (b m:Nat):pc (b+1) m=m % 2+pc b (m / 2):=by
 unfold pc;rw [List.range_succ_eq_map,List.countP_cons,List.countP_map];have e:((fun i=>m.testBit i) ∘ Nat.succ)=fun i=>(m / 2).testBit i:=by
  funext i
  show m.testBit (i+1)=_
  rw [Nat.testBit_succ]
 rw [e,Nat.testBit_zero]
 rcases Nat.mod_two_eq_zero_or_one m with h | h <;> simp [h] <;> omega
theorem v89 (b:Nat):pc b 0=0:=by simp [pc]
theorem uc4 (a b:Nat):Builtin.bitAnd (a:Int) (b:Int)=((a &&& b:Nat):Int):=by
 unfold Builtin.bitAnd;simp
theorem v26 (a b:Nat):Builtin.bitOr (a:Int) (b:Int)=((a ||| b:Nat):Int):=by
 have h1:∀ x:Nat,¬ (0<=Builtin.bitNot (x:Int)):=fun x=>by unfold Builtin.bitNot;omega
 have h2:∀ x:Int,Builtin.bitNot (Builtin.bitNot x)=x:=fun x=>by unfold Builtin.bitNot;omega
 unfold Builtin.bitOr Builtin.bitAnd;simp only [h1,decide_false,h2,Int.toNat_natCast]
theorem vd3 (m i:Nat):(Builtin.bitAnd (m:Int) (1 * 2 ^ i)=0) ↔ m.testBit i=false:=by
 have e:(1 * 2 ^ i:Int)=((2 ^ i:Nat):Int):=by simp
 rw [e,uc4];have q:(m &&& 2 ^ i=0) ↔ m.testBit i=false:=by
  constructor
  ·intro h
   have:=congrArg (fun x=>Nat.testBit x i) h;simpa [Nat.testBit_and,Nat.testBit_two_pow_self] using this
  ·intro h
   refine Nat.eq_of_testBit_eq fun j=>?_
   rw [Nat.testBit_and,Nat.zero_testBit,Nat.testBit_two_pow]
   by_cases hj:i=j
   ·subst hj;rw [h];rfl
   ·simp [hj]
 rw [<- q];omega
theorem u51 (m i:Nat):(Builtin.bitAnd ((m:Int) / 2 ^ i) 1=1) ↔ m.testBit i=true:=by
 have e:((m:Int) / 2 ^ i)=((m / 2 ^ i:Nat):Int):=by simp
 have e1:(1:Int)=((1:Nat):Int):=rfl;rw [e,e1,uc4,Nat.and_one_is_mod,Nat.testBit_eq_decide_div_mod_eq];simp;omega
def pD (p:Str × Int):D:=.tup [.str p.1,.int p.2]
def mvP (m k:Nat):Str × Int:=(if stn k m then "clear" else "lay",(k:Int))
def mvB (m c s k:Nat):Bool:=stn (k - 1) m && (stn k m || decide (c < s))
def mvs (m c s:Nat):Nat->List (Str × Int)
 | 0=>[]
 | n+1=>mvs m c s n++(if mvB m c s (n+1) then [mvP m (n+1)] else [])
theorem uo8 (m c s:Nat):∀ n,(mvs m c s n).length<=n
 | 0=>Nat.le_refl 0
 | n+1=>by
  rw [mvs,List.length_append];have:=uo8 m c s n;split <;> simp <;> omega
def Src (G:Gp) (s a:Addr):Prop:=∃ (ns:List Int) (x y:Int),G s=some (.lst [.ref a,.int x,.int y]) /\ G a=some (.lst (ns.map .int)) /\ 0<=x /\ s ≠ a
structure Ady (s a:Addr) (G G':Gp):Prop where
 at_:Src G' s a
 kp:∀ c o,c ≠ s->c ≠ a->G c=some o->G' c=some o
theorem Src.ne {G:Gp} {s a p:Addr} (h:Src G s a) (hp:G p=none):p ≠ s /\ p ≠ a:=by
 obtain ⟨ns,x,y,h1,h2,_⟩:=h;exact ⟨fun e=>(by rw [e,h1] at hp;cases hp),fun e=>(by rw [e,h2] at hp;cases hp)⟩
theorem Src.put {G:Gp} {s a p:Addr} {o:DO} (h:Src G s a) (hs:p ≠ s) (ha:p ≠ a):Src (gup G p o) s a:=by
 obtain ⟨ns,x,y,h1,h2,h3,h4⟩:=h;exact ⟨ns,x,y,by rw [u05 (Ne.symm hs)];exact h1,by rw [u05 (Ne.symm ha)];exact h2,h3,h4⟩
theorem Src.grow {G G':Gp} {s a:Addr} (h:Src G s a) (g:Grow G G'):Src G' s a:=by
 obtain ⟨ns,x,y,h1,h2,h3⟩:=h;exact ⟨ns,x,y,g.kp _ _ h1,g.kp _ _ h2,h3⟩
theorem Ady.trans {s a:Addr} {G G1 G2:Gp} (h:Ady s a G G1) (k:Ady s a G1 G2):Ady s a G G2:=⟨k.at_,fun c o h1 h2 e=>k.kp c o h1 h2 (h.kp c o h1 h2 e)⟩
theorem Ady.refl {s a:Addr} {G:Gp} (h:Src G s a):Ady s a G G:=⟨h,fun _ _ _ _ e=>e⟩
theorem Ady.new {s a p:Addr} {G G1:Gp} {o:DO} (h:Ady s a G G1) (hp:G1 p=none):Ady s a G (gup G1 p o) :=
 ⟨h.at_.put (h.at_.ne hp).1 (h.at_.ne hp).2,fun c u h1 h2 e=>by rw [u05 (gne (h.kp c u h1 h2 e) hp)];exact h.kp c u h1 h2 e⟩
theorem vd2 (ns:List Int) (c:Int):atI ((ns++[c]).map D.int) (-1)=some (.int c):=by
 unfold atI ixN;rw [if_neg (by decide),if_pos (by simp;omega)];have e:(-1+(((ns++[c]).map D.int).length:Int)).toNat=ns.length:=by simp;omega
 rw [Option.bind_some,e];simp
theorem u74 {G:Gp} {a:Addr} {ns:List Int} {c:Int} {q:DK} (h:G a=some (.lst ((ns++[c]).map .int))):up3 (.ref a) [] G q=q (.int c) (gup G a (.lst (ns.map .int))):=by
 unfold up3;simp only [h];simp
end L3
namespace L3
open PySem PySem.Spec PyProof.Rows L2
section
variable {X:Cx} {o:Expr} {to:TE3} {apos cpos:Pos}
def xInv:U3:=fun x G q=>match x with | .int i=>q (.int (Builtin.bitNot i)) G | _=>False
theorem vs3:UnR X (unaryOp .Invert) (lowU X.K xInv):=v06 vg4 <| by
 rintro x H Q ⟨d,G,q,r1,c,t,f⟩;unfold xInv at t;split at t
 ·exact ⟨_,r1.int_inv,f _ _ _ _ RelD.intI c (Le.refl H) t⟩
 ·exact t.elim
end
end L3
namespace L3
open PySem PySem.Spec PyProof.Rows L2 Rw
abbrev Mv:=Bool × Nat
def mP (p:Mv):Str × Int:=(if p.1 then "lay" else "clear",(p.2:Int))
def mD (p:Mv):D:=pD (mP p)
def nD (x:Nat):D:=.int (x:Int)
def stb (k m:Nat):Bool:=m.testBit (k - 1)
def xr (m k:Nat):Nat:=m ^^^ 2 ^ (k - 1)
def hi (m:Nat):Nat:=if m=0 then 0 else m.log2+1
theorem vk2 {m i:Nat} (h:m.testBit i=false):m ||| 2 ^ i=m ^^^ 2 ^ i:=Nat.eq_of_testBit_eq fun j=>by
 rw [Nat.testBit_or,Nat.testBit_xor,Nat.testBit_two_pow]
 by_cases e:i=j
 ·subst e;rw [h];simp
 ·simp [e]
theorem vk3 {m i:Nat} (h:m.testBit i=true):m ||| 2 ^ i=m:=Nat.eq_of_testBit_eq fun j=>by
 rw [Nat.testBit_or,Nat.testBit_two_pow]
 by_cases e:i=j
 ·subst e;rw [h];rfl
 ·simp [e]
theorem ut8 {m i:Nat} (h:m.testBit i=true):m &&& 2 ^ i=2 ^ i:=Nat.eq_of_testBit_eq fun j=>by
 rw [Nat.testBit_and,Nat.testBit_two_pow]
 by_cases e:i=j
 ·subst e;rw [h];rfl
 ·simp [e]
theorem vr3 {m i:Nat} (h:m.testBit i=false):m &&& 2 ^ i=0:=Nat.eq_of_testBit_eq fun j=>by
 rw [Nat.testBit_and,Nat.testBit_two_pow,Nat.zero_testBit]
 by_cases e:i=j
 ·subst e;rw [h];rfl
 ·simp [e]
theorem um0:∀ {i m:Nat},m.testBit i=true->(m ^^^ 2 ^ i)+2 ^ i=m
 | 0,m,h=>by
  have h1:m % 2=1:=by rw [Nat.testBit_zero] at h;simpa using h
  have h2:(m ^^^ 1) / 2=m / 2:=by rw [Nat.xor_div_two];simp
  have h3:(m ^^^ 1) % 2=0:=by
   have:(m ^^^ 1).testBit 0=false:=by rw [Nat.testBit_xor,h];rfl
   rw [Nat.testBit_zero] at this;have:=of_decide_eq_false this;omega
  show (m ^^^ 1)+1=m
  omega
 | i+1,m,h=>by
  have h0:(m / 2).testBit i=true:=by rw [<- Nat.testBit_succ];exact h
  have ih:=um0 h0;have e1:2 ^ (i+1) / 2=2 ^ i:=by rw [Nat.pow_succ];omega
  have h2:(m ^^^ 2 ^ (i+1)) / 2=m / 2 ^^^ 2 ^ i:=by rw [Nat.xor_div_two,e1]
  have h3:(m ^^^ 2 ^ (i+1)) % 2=m % 2:=by
   have a:(m ^^^ 2 ^ (i+1)).testBit 0=m.testBit 0:=by
    rw [Nat.testBit_xor,Nat.testBit_two_pow];simp
   rw [Nat.testBit_zero,Nat.testBit_zero] at a;have b:=decide_eq_decide.mp a;omega
  rw [Nat.pow_succ] at h2 h3 ⊢;omega
theorem xor_int (m i:Nat):Builtin.bitXor (m:Int) (1 * 2 ^ i)=((m ^^^ 2 ^ i:Nat):Int):=by
 have e:(1 * 2 ^ i:Int)=((2 ^ i:Nat):Int):=by simp
 unfold Builtin.bitXor;rw [e,v26,uc4];cases h:m.testBit i with
 | true =>
  rw [vk3 h,ut8 h];have:=um0 h;omega
 | false =>
  rw [vk2 h,vr3 h];simp
theorem vd0 {m i:Nat} (h:m.testBit i=true):Builtin.bitAnd (m:Int) (Builtin.bitNot (1 * 2 ^ i))=((m ^^^ 2 ^ i:Nat):Int):=by
 have e:(1 * 2 ^ i:Int)=((2 ^ i:Nat):Int):=by simp
 have h0:(0:Int)<=((2 ^ i:Nat):Int):=Int.natCast_nonneg _;have h1:¬ (0<=Builtin.bitNot ((2 ^ i:Nat):Int)):=by unfold Builtin.bitNot;omega
 have h2:Builtin.bitNot (Builtin.bitNot ((2 ^ i:Nat):Int))=((2 ^ i:Nat):Int):=by unfold Builtin.bitNot;omega
 rw [e];unfold Builtin.bitAnd;simp only [h1,decide_false,h2,Int.natCast_nonneg,decide_true,Int.toNat_natCast];rw [ut8 h];have:=um0 h;omega
theorem vb1 {m i:Nat} (h:m.testBit i=false):Builtin.bitOr (m:Int) (1 * 2 ^ i)=((m ^^^ 2 ^ i:Nat):Int):=by
 have e:(1 * 2 ^ i:Int)=((2 ^ i:Nat):Int):=by simp
 rw [e,v26,vk2 h]
def okw:Nat->List Mv->Prop
 | _,[]=>True
 | m,p::r=>(1<=p.2 /\ p.2<=900) /\ p.1=!stb p.2 m /\ okw (xr m p.2) r
def fin:Nat->List Mv->Nat
 | m,[]=>m
 | m,p::r=>fin (xr m p.2) r
def low:Nat->List Mv->Nat
 | m,[]=>hi m
 | m,p::r=>min (low (xr m p.2) r) (hi m)
def thw:Nat->List Mv->List Mv
 | _,[]=>[]
 | m,p::r=>if p.2<=low (xr m p.2) r then p::thw (xr m p.2) r else thw (xr m p.2) r
def once (w:List Mv):List Mv:=thw 0 w
def sbh:Nat->List Mv->List Nat
 | _,[]=>[]
 | m,p::r=>xr m p.2::sbh (xr m p.2) r
theorem ub5:∀ {l r:List Mv} {m:Nat},fin m (l++r)=fin (fin m l) r
 | [],_,_=>rfl
 | p::l,r,m=>by show fin (xr m p.2) (l++r)=_;rw [ub5];rfl
theorem uz8 {α:Type} (ns:List α) (c:α):atI (ns++[c]) (-1)=some c:=by
 unfold atI ixN;rw [if_neg (by decide),if_pos (by simp;omega)];have e:(-1+((ns++[c]).length:Int)).toNat=ns.length:=by simp;omega
 rw [Option.bind_some,e];simp
theorem at_getD {α:Type} {xs:List α} {v:Int} (h0:0<=v) (h1:v < (xs.length:Int)):∃ x,x ∈ xs /\ atI xs v=some x:=by
 have h2:v.toNat < xs.length:=by omega
 refine ⟨xs[v.toNat],List.getElem_mem _,?_⟩;unfold atI ixN;rw [if_pos h0,if_pos h1,Option.bind_some,List.getElem?_eq_getElem h2]
theorem vc9 {G:Gp} {a b:Addr} {w:List Mv} {Q:Bool->Prop} (h1:u11 (G a)=some (w.map mD)) (h2:u11 (G b)=some []) (h:Q (decide (w=[]))) :
  ∃ n sd se r,n<=40 /\ snap G n (.ref a)=some sd /\ snap G n (.ref b)=some se /\ eqN n sd se=some r /\ Q r:=by
 cases w with
 | nil=>exact u28 (ks:=[]) (ms:=[]) h1 h2 h
 | cons p w =>
  obtain ⟨ys,e⟩:=ua9 (f:=snap G 1) (xs:=(p::w).map mD) fun d hd=>by
   obtain ⟨r,_,rfl⟩:=List.mem_map.mp hd;exact Rw.snap_tup (Rw.all2 Rw.snap_str (Rw.all1 Rw.snap_int))
  have hy:ys.length=(p::w).length:=by
   have:=(u12 e).1;rw [<- this,List.length_map]
  refine ⟨2,.lst ys,.lst [],false,by decide,?_,?_,?_,?_⟩
  ·show ((u11 (G a)).bind fun ds=>(ds.mapM (snap G 1)).map Sn.lst)=_
   rw [h1,Option.bind_some,e];rfl
  ·show ((u11 (G b)).bind fun ds=>(ds.mapM (snap G 1)).map Sn.lst)=_
   rw [h2];rfl
  ·cases ys with
   | nil=>simp at hy
   | cons y ys=>rfl
  ·have:decide (p::w=[])=false:=by simp
   rw [this] at h;exact h
def hD (x:Nat):D:=nD (hi x)
end L3
namespace L3
open PySem PySem.Spec PyProof.Rows L2
section
variable {X:Cx} {K:W.Frag} {H:Hp}
theorem ua6 {H:Hp}:∀ ns:List Int,RelDs K H (ns.map D.int) (ns.map V.int)
 | []=>.nil
 | _::ns=>.cons RelD.intI (ua6 ns)
theorem u43 {H:Hp}:∀ {ns:List Int} {xs:List V},RelDs K H (ns.map D.int) xs->xs=ns.map V.int
 | [],xs,r=>r.inv_nil
 | n::ns,xs,r=>by
  obtain ⟨x,xs',rfl,h1,h2⟩:=r.inv_cons;rw [h1.int_inv,u43 h2];rfl
end
end L3
namespace L3
open PySem PySem.Spec PyProof.Rows L2 Rw
def cnt:Nat->Nat->Nat
 | 0,_=>0
 | n+1,m=>cnt n m+(if m.testBit n then 1 else 0)
theorem v41:∀ {n m:Nat},cnt n m<=n
 | 0,_=>Nat.le_refl _
 | n+1,m=>by
  have:=@v41 n m;rw [cnt];split <;> omega
def lgl (n s m:Nat) (p:Mv):Prop:=(1<=p.2 /\ p.2<=n) /\ (p.2=1 \/ m.testBit (p.2 - 2)=true) /\ p.1=(!stb p.2 m) /\ (p.1=true->cnt n m < s)
def lgw (n s:Nat):Nat->List Mv->Prop
 | _,[]=>True
 | m,p::r=>lgl n s m p /\ lgw n s (xr m p.2) r
theorem lgw_app {n s:Nat}:∀ {l r:List Mv} {m:Nat},lgw n s m (l++r) ↔ lgw n s m l /\ lgw n s (fin m l) r
 | [],r,m=>by show lgw n s m r ↔ True /\ lgw n s m r;simp
 | p::l,r,m=>by
  show lgl n s m p /\ lgw n s (xr m p.2) (l++r) ↔ (lgl n s m p /\ lgw n s (xr m p.2) l) /\ lgw n s (fin (xr m p.2) l) r
  rw [lgw_app,and_assoc]
theorem us1:∀ {w:List Mv} {m:Nat},fin m w ∈ m::sbh m w
 | [],m=>by simp [fin]
 | p::r,m=>List.mem_cons_of_mem _ (us1 (w:=r) (m:=xr m p.2))
theorem v23 {n:Nat}:∀ {w:List Mv} {m:Nat},m < 2 ^ n->(∀ p ∈ w,1<=p.2 /\ p.2<=n)->∀ x ∈ m::sbh m w,x < 2 ^ n
 | [],m,h,_,x,hx=>by
  have:x=m:=by simpa [sbh] using hx
  subst this;exact h
 | p::r,m,h,hw,x,hx=>by
  rcases List.mem_cons.mp hx with e | hx
  ·subst e;exact h
  ·refine v23 (m:=xr m p.2) ?_ (fun q hq=>hw q (List.mem_cons_of_mem _ hq)) x hx
   have:=hw p (by simp);exact Nat.xor_lt_two_pow h (Nat.pow_lt_pow_right (by decide) (by omega))
theorem uq3 {n s:Nat}:∀ {w:List Mv} {m:Nat},lgw n s m w->∀ p ∈ w,1<=p.2 /\ p.2<=n
 | [],_,_,p,hp=>by simp at hp
 | q::r,m,⟨h1,h2⟩,p,hp=>by
  rcases List.mem_cons.mp hp with e | hp
  ·subst e;exact h1.1
  ·exact uq3 h2 p hp
theorem ua8 {n s m i:Nat} {b:Bool} {ps:List Mv} (h:∀ p,p ∈ ps ↔ lgl n s m p /\ p.2<=i) (hb:lgl n s m (b,i+1)):∀ p,p ∈ ps++[(b,i+1)] ↔ lgl n s m p /\ p.2<=i+1:=by
 intro p;rw [List.mem_append,h p,List.mem_singleton]
 constructor
 ·rintro (⟨a,c⟩ | rfl)
  ·exact ⟨a,by omega⟩
  ·exact ⟨hb,Nat.le_refl _⟩
 ·rintro ⟨a,c⟩
  by_cases e:p.2<=i
  ·exact .inl ⟨a,e⟩
  ·right
   obtain ⟨b',k⟩:=p;have e2:k=i+1:=by have:k<=i+1:=c;have:¬ k<=i:=e;omega
   subst e2;have h1:b'=!stb (i+1) m:=a.2.2.1;have h2:b=!stb (i+1) m:=hb.2.2.1;rw [h1,h2]
theorem up0 {n s m i:Nat} {ps:List Mv} (h:∀ p,p ∈ ps ↔ lgl n s m p /\ p.2<=i) (hb:∀ b,¬ lgl n s m (b,i+1)):∀ p,p ∈ ps ↔ lgl n s m p /\ p.2<=i+1:=by
 intro p;rw [h p]
 constructor
 ·rintro ⟨a,c⟩
  exact ⟨a,by omega⟩
 ·rintro ⟨a,c⟩
  refine ⟨a,?_⟩
  by_cases e:p.2<=i
  ·exact e
  ·obtain ⟨b',k⟩:=p
   have e2:k=i+1:=by have:k<=i+1:=c;have:¬ k<=i:=e;omega
   subst e2;exact absurd a (hb b')
theorem un6 {m:Nat}:∀ n,((List.range n).filter fun i=>m.testBit i).length=cnt n m
 | 0=>rfl
 | n+1=>by
  rw [List.range_succ,List.filter_append,List.length_append,un6 n,cnt];cases h:m.testBit n <;> simp [h]
theorem vo3 {n s:Nat} {w:List Mv} (h:lgw n s 0 w):fin 0 w < 2 ^ n:=v23 (Nat.two_pow_pos _) (uq3 h) _ us1
abbrev Pm:=Option Mv
def pmD:Pm->D
 | none=>.tup [.str "show"]
 | some p=>mD p
def nxp (m:Nat):Pm->Nat
 | none=>m
 | some p=>xr m p.2
def okm (m:Nat):Pm->Prop
 | none=>True
 | some p=>(1<=p.2 /\ p.2<=24) /\ p.1=!stb p.2 m
theorem u68 {xs:List Nat}:xs.map nD=(xs.map fun x:Nat=>(x:Int)).map .int:=by rw [List.map_map];rfl
theorem vk0 {b m:Nat}:pc b m=cnt b m:=by
 unfold pc;rw [List.countP_eq_length_filter,un6]
end L3
namespace L3
open PySem PySem.Spec PyProof.Rows L2
def kD:Key->D
 | .inl i=>.int i
 | .inr x=>.str x
section
variable {X:Cx} {K:W.Frag} {G:Gp} {H:Hp} {p:Addr}
theorem Le.dT {xs ys:List (List Key × V)} (h:H p=some (.dT xs)):Le H (upd H p (.dT ys)) :=
  ⟨fun b zs q => by by_cases e : b = p
                    · subst e;rw [h] at q;cases q
                    · rw [u09 e];exact q,
   fun b o u q => by by_cases e : b = p
                     · subst e;rw [h] at q;cases q
                     · rw [u09 e];exact q⟩
end
end L3
namespace L2
open PySem PySem.Spec PyProof.Rows
section
variable {X:Cx}
theorem uz5 (hc:X.calm=true):CallR X (.builtin "any") (fun xs H Q=>∃ (p:Addr) (bs:List Bool),xs=[.ref p] /\ SqL X.K H p (bs.map V.bl) /\ Q (.bl (bs.any id)) H):=by
 intro pins s σ H xs us Q I r h;obtain ⟨p,bs,rfl,hq,q⟩:=h;obtain ⟨u,rfl,rx⟩:=vals1 r;cases rx;obtain ⟨its,r',pl,hz⟩:=I.list hq;have e:=u91 r';subst e;have hl:=pl.isList;have hlt:p < s.heap.objs.size:=by obtain ⟨_,e,_⟩:=hl;exact Heap.lt_size e
 refine call_any_walk (wpAny_pyIter_list hl ?_);refine ⟨s.heap.objs.size,[s.heap.objs.size,p],[s.heap.objs.size],(bs.map Value.bool).toArray.size,_,_,fun i=>(bs[i]?).getD false,rfl,Walks.list (A:=X.A.in1) (I.ok.hd hc) _ p (Nat.ne_of_lt hlt) (bs.map Value.bool).toArray,
  ⟨⟨_,Heap.get?_push_size _ rfl,rfl,rfl⟩,hl.push _⟩,fun i v s' Q' E' hP hQ=>?_,fun h' tk hk=>?_⟩
 ·have hP:(bs.map Value.bool)[i]?=some v:=by simpa using hP
  rw [List.getElem?_map] at hP;cases hb:bs[i]? with
  | none=>rw [hb] at hP;cases hP
  | some b =>
   rw [hb] at hP;cases hP;simp only [hb,Option.getD_some] at hQ;exact wpAny_truthy_bool hQ
 ·have e:((List.range (bs.map Value.bool).toArray.size).any fun i=>(bs[i]?).getD false)=bs.any id:=by
   rw [List.size_toArray,List.length_map,Bool.eq_iff_iff,List.any_eq_true,List.any_eq_true]
   constructor
   ·rintro ⟨i,hi,e⟩
    have hi:=List.mem_range.mp hi;rw [List.getElem?_eq_getElem hi] at e;exact ⟨_,List.getElem_mem hi,e⟩
   ·rintro ⟨b,hb,e⟩
    obtain ⟨i,hi,e2⟩:=List.mem_iff_getElem.mp hb;refine ⟨i,List.mem_range.mpr hi,?_⟩;rw [List.getElem?_eq_getElem hi,e2];exact e
  rw [e];refine ⟨.bl _,H,?_,rfl,q⟩;exact I.kept fun b x e=>hk b x (fun hm=>by rw [List.mem_singleton.mp hm] at e;exact Nat.lt_irrefl _ (Heap.lt_size e)) (Heap.get?_push_of_some _ e)
end
end L2
namespace L3
open PySem PySem.Spec PyProof.Rows L2
section
variable {X:Cx} {K:W.Frag} {H:Hp} {σ:L2.St} {a b c:Expr} {ta tb tc:TE3} {pos:Pos}
@[reducible] def xAny:C3:=fun ds G q=>∃ (a:Addr) (bs:List Bool),ds=[.ref a] /\ u11 (G a)=some (bs.map .bl) /\ q (.bl (bs.any id)) G
theorem ui0:∀ {bs:List Bool} {vs:List V},RelDs K H (bs.map .bl) vs->vs=bs.map V.bl
 | [],vs,r=>r.inv_nil
 | b::bs,vs,r=>by
  obtain ⟨x,ys,rfl,h1,h2⟩:=r.inv_cons;rw [ui0 h2,h1.bl_inv];rfl
theorem vs4 (hc:X.calm=true:=by rfl):Call3 X (.builtin "any") xAny:=u46 (uz5 hc) <| by
 rintro xs H Q ⟨ds,G,q,r,c,⟨a,bs,rfl,e,t⟩,f⟩;obtain ⟨v,rfl,r1⟩:=r.one;cases r1.ref_inv;obtain ⟨ys,s1,q1⟩:=u14 c e;obtain rfl:=ui0 q1;exact ⟨_,bs,rfl,s1,f _ _ _ _ RelD.blI c (Le.refl H) t⟩
end
def valK (kvs:List (Key × D)) (k:Key):Option D:=(kvs.find? fun kv=>decide (kv.1=k)).map (·.2)
def un8 (kvs:List (Key × D)) (k:Key) (v:D):List (Key × D) :=
 if (kvs.any fun kv=>decide (kv.1=k))=true then kvs.map (fun kv=>if kv.1=k then (kv.1,v) else kv) else kvs++[(k,v)]
section
variable {X:Cx} {K:W.Frag} {G:Gp} {H:Hp} {p:Addr}
theorem uh6 {k:Key}:∀ {kvs:List (Key × D)} {ys:List (Key × V)},RelPs K H kvs ys->(valK kvs k=none /\ valV ys k=none) \/ ∃ d v,valK kvs k=some d /\ valV ys k=some v /\ RelD K H d v
 | [],ys,⟨h1,h2⟩=>by
  have:ys=[]:=by cases ys with | nil=>rfl | cons y ys=>simp at h1
  subst this;exact .inl ⟨rfl,rfl⟩
 | (k',d)::kvs,[],⟨h1,h2⟩=>by simp at h1
 | (k',d)::kvs,(k2,v)::ys,⟨h1,h2⟩=>by
  rw [List.map_cons,List.map_cons] at h1;obtain ⟨e1,e2⟩:=List.cons.inj h1;have e1:k'=k2:=e1;subst e1;obtain ⟨x,xs',e3,q1,q2⟩:=h2.inv_cons;rw [List.map_cons] at e3;obtain ⟨e4,e5⟩:=List.cons.inj e3;have e4:v=x:=e4;subst e4
  by_cases hk:k'=k
  ·right
   exact ⟨d,v,by simp [valK,List.find?_cons,hk],u71 hk,q1⟩
  ·have ih:=uh6 (k:=k) (kvs:=kvs) (ys:=ys) ⟨e2,by rw [e5];exact q2⟩
   have a1:valK ((k',d)::kvs) k=valK kvs k:=by simp [valK,List.find?_cons,hk]
   rw [a1,u72 hk];exact ih
theorem ui7 {k:Key} {d:D} {v:V} (q:RelD K H d v):∀ {kvs:List (Key × D)} {ys:List (Key × V)},RelPs K H kvs ys->RelPs K H (kvs.map (fun kv=>if kv.1=k then (kv.1,d) else kv)) (ys.map (fun kv=>if kv.1=k then (kv.1,v) else kv)) /\ (kvs.any fun kv=>decide (kv.1=k))=(ys.any fun kv=>decide (kv.1=k))
 | [],ys,⟨h1,h2⟩=>by
  have:ys=[]:=by cases ys with | nil=>rfl | cons y ys=>simp at h1
  subst this;exact ⟨⟨rfl,.nil⟩,rfl⟩
 | (k',d')::kvs,[],⟨h1,h2⟩=>by simp at h1
 | (k',d')::kvs,(k2,v')::ys,⟨h1,h2⟩=>by
  rw [List.map_cons,List.map_cons] at h1;obtain ⟨e1,e2⟩:=List.cons.inj h1;have e1:k'=k2:=e1;subst e1;obtain ⟨x,xs',e3,q1,q2⟩:=h2.inv_cons;rw [List.map_cons] at e3;obtain ⟨e4,e5⟩:=List.cons.inj e3;have e4:v'=x:=e4;subst e4;obtain ⟨⟨i1,i2⟩,i3⟩:=ui7 (k:=k) q (kvs:=kvs) (ys:=ys) ⟨e2,by rw [e5];exact q2⟩;refine ⟨⟨?_,?_⟩,by rw [List.any_cons,List.any_cons,i3]⟩
  ·rw [List.map_cons,List.map_cons,List.map_cons,List.map_cons,i1]
   by_cases hk:k'=k <;> simp [hk]
  ·rw [List.map_cons,List.map_cons,List.map_cons,List.map_cons]
   by_cases hk:k'=k
   ·simp only [hk,if_true];exact .cons q i2
   ·simp only [hk,if_false];exact .cons q1 i2
theorem ui2 {k:Key} {d:D} {v:V} (q:RelD K H d v) {kvs:List (Key × D)} {ys:List (Key × V)} (h:RelPs K H kvs ys):RelPs K H (un8 kvs k d) (putK ys k v):=by
 obtain ⟨i1,i3⟩:=ui7 (k:=k) q h;unfold un8 putK;rw [i3];split
 ·exact i1
 ·exact ⟨by rw [List.map_append,List.map_append,h.1];rfl,by rw [List.map_append,List.map_append];exact h.2.append (.cons q .nil)⟩
theorem uq8 {k:Key} {v:V} (r:RelD K H (kD k) v):v=kV k:=by
 cases k with
 | inl i=>exact (show RelD K H (.int i) v from r).int_inv
 | inr x=>exact (show RelD K H (.str x) v from r).str_inv
def vc2 (td ti tv:TE3):TS3:=fun Dn σ G=>tv σ G fun v G1=>td σ G1 fun x G2=>ti σ G2 fun y G3=>∃ (a:Addr) (kvs:List (Key × D)) (k:Key),x=.ref a /\ y=kD k /\ G3 a=some (.dic kvs) /\ kvs.length < sizeLine /\ Dn.nx σ (gup G3 a (.dic (un8 kvs k v)))
theorem un5 {k:Nat} {o i value:Expr} {pos pos':Pos} {to ti tv:TE3} (hr:Room k X.A) (ho:E3 X o to) (hi:E3 X i ti) (hv:E3 X value tv)
  (hs:swapsWith value (some (.Subscript o i pos')) pos.line X.env=pure false:=by rfl):S3 X (.Assign [.Subscript o i pos'] value pos) (vc2 to ti tv) :=
 u88 (v77 (vq1 hr) ho hi hv hs) fun D σ H h=>by
  obtain ⟨σd,G,d,rs,c,t,f⟩:=h;refine ⟨σd,G,_,rs,c,t,fun v G1 w H1 r1 c1 l1 t1=>⟨σd,G1,_,rs.le l1,c1,t1,fun x G2 u H2 r2 c2 l2 t2=>⟨σd,G2,_,rs.le (l1.trans l2),c2,t2,fun y G3 z H3 r3 c3 l3 t3=>?_⟩⟩⟩;obtain ⟨a,kvs,k,rfl,rfl,hg,hl,t4⟩:=t3;have r2':=RelD.le l3 r2;cases r2'.ref_inv;obtain rfl:=uq8 r3;obtain ⟨ys,e,rp⟩:=c3 a _ hg;have l5:Le H3 (upd H3 a (.dK (putK ys k w))):=Le.dK e;have lys:ys.length=kvs.length:=by
   have:=congrArg List.length rp.1;rw [List.length_map,List.length_map] at this;exact this.symm
  refine ⟨a,_,rfl,DPut.k e (by rw [lys];exact hl),?_⟩;refine f.nx _ _ _ _ (((rs.le l1).le l2).le (l3.trans l5)) ?_ (l1.trans (l2.trans (l3.trans l5))) t4;exact c3.put l5 ⟨_,u18,(ui2 (RelD.le (l2.trans l3) r1) rp).le l5⟩
end
end L3
namespace L2
open PySem PySem.Spec PyProof.Rows
section
variable {X:Cx} {tg:Expr}
theorem vv6 {P:Program} {w:World} {k:Key} {u:Value} (h:(u15 P w).is k u=true):RelV (kV k) u:=by
 rcases u13 h with ⟨i,t,rfl,rfl⟩ | ⟨x,t,rfl,rfl⟩
 ·exact ⟨t,rfl⟩
 ·exact ⟨t,rfl⟩
end
end L2
namespace L3
open PySem PySem.Spec PyProof.Rows L2
section
variable {X:Cx} {K:W.Frag} {G:Gp} {H:Hp} {tg e:Expr} {te:TE3}
theorem Le.frz {a:Addr} {o:Obj} {ys:List (Key × V)} (h:H a=some (.dK ys)):Le H (upd H a (.frz o (.dK ys))) :=
 ⟨fun b zs q=>by
  by_cases e:b=a
  ·subst e;rw [h] at q;cases q
  ·rw [u09 e];exact q,fun b o u q=>by
  by_cases e:b=a
  ·subst e;rw [h] at q;cases q
  ·rw [u09 e];exact q⟩
end
end L3
namespace L2
open PySem PySem.Spec PyProof.Rows
section
variable {X:Cx}
theorem uk6 (hu:X.A.units+1 < cLine):OpR X (compareOp .NotIn) (fun x y H Q=>∃ a kvs k,x=kV k /\ y=.ref a /\ (H a=some (.dK kvs) \/ ∃ o,H a=some (.frz o (.dK kvs))) /\ Q (.bl (!(valV kvs k).isSome)) H):=by
 intro pins s σ H x y v u Q I rx ry h;obtain ⟨a,kvs,k,rfl,rfl,ha,q⟩:=h;obtain rfl:u=Value.ref a:=ry;exact vc1 hu I (.inl ⟨kvs,k,ha,rfl,rfl⟩) rx fun s' I'=>⟨.bl _,H,I',rfl,q⟩
end
end L2
namespace L3
open PySem PySem.Spec PyProof.Rows L2
section
variable {X:Cx} {K:W.Frag} {H:Hp}
@[reducible] def vs7 (neg:Bool):R3:=fun x y G q=>∃ (k:Key) (kvs:List (Key × D)) (a:Addr),x=kD k /\ y=.ref a /\ (G a=some (.dic kvs) \/ G a=some (.frd kvs)) /\ q (.bl (if neg then !(valK kvs k).isSome else (valK kvs k).isSome)) G
theorem uh8 {kvs:List (Key × D)} {ys:List (Key × V)} {k:Key} (rp:RelPs K H kvs ys):(valK kvs k).isSome=(valV ys k).isSome:=by
 rcases uh6 (k:=k) rp with ⟨z1,z2⟩ | ⟨d',w,z1,z2,z3⟩
 ·rw [z1,z2];rfl
 ·rw [z1,z2];rfl
theorem uc6 {k:Nat} (hr:Room k X.A):Op3 X (compareOp .NotIn) (vs7 true):=u50 (uk6 (vq1 hr)) <| by
 rintro x y H Q ⟨d,e,G,q,r1,r2,c,⟨k,kvs,a,rfl,rfl,hg,t⟩,f⟩;cases r2.ref_inv;obtain rfl:=uq8 r1
 rcases hg with hg | hg
 ·obtain ⟨ys,e,rp⟩:=c a _ hg
  exact ⟨a,ys,k,rfl,rfl,.inl e,by rw [<- uh8 rp];exact f _ _ _ _ RelD.blI c (Le.refl H) t⟩
 ·obtain ⟨o,ys,e,rp⟩:=c a _ hg
  exact ⟨a,ys,k,rfl,rfl,.inr ⟨o,e⟩,by rw [<- uh8 rp];exact f _ _ _ _ RelD.blI c (Le.refl H) t⟩
def ut2 (tk tv:TE3):TE3:=fun σ G q=>∀ p,G p=none->tk σ (gup G p (.dic [])) fun x G1=>tv σ G1 fun y G2=>G2 p=some (.dic []) /\ ∃ k:Key,x=kD k /\ q (.ref p) (gup G2 p (.dic [(k,y)]))
theorem us5 {ek ev:Expr} {tk tv:TE3} {pos:Pos} (hk:E3 X ek tk) (hv:E3 X ev tv):E3 X (.Dict [some ek] [ev] pos) (ut2 tk tv) :=
 u20 (v84 (uv5 hk hv v78) rfl rfl (by simp) (by show 1<=15;decide)) fun σ H Q h=>by
  obtain ⟨σd,G,q,rs,c,t,f⟩:=h;intro p hp;have l0:Le H (upd H p (.dK [])):=Le.fresh hp;have c0:Con X.K (gup G p (.dic [])) (upd H p (.dK [])):=c.put (o:=.dic []) l0 ⟨[],u18,rfl,.nil⟩;refine ⟨σd,_,_,rs.le l0,c0,t p (c.fresh hp),fun x G1 v H1 r1 c1 l1 t1=>⟨σd,G1,_,rs.le (l0.trans l1),c1,t1,fun y G2 u H2 r2 c2 l2 t2=>?_⟩⟩;obtain ⟨hg,k,rfl,t3⟩:=t2;obtain rfl:=uq8 r1;obtain ⟨ys,e,rp⟩:=c2 p _ hg;have hy:ys=[]:=by have:=congrArg List.length rp.1;simpa using this.symm
  subst hy;have l5:Le H2 (upd H2 p (.dK (putK [] k u))):=Le.dK e;refine ⟨e,[(k,u)],rfl,by show 1<=15;decide,?_⟩;exact f _ _ _ _ RelD.refI (c2.put (o:=.dic [(k,y)]) l5 ⟨_,u18,(ui2 (k:=k) r2 (K:=X.K) (H:=H2) (kvs:=[]) (ys:=[]) ⟨rfl,.nil⟩).le l5⟩) (l0.trans (l1.trans (l2.trans l5))) t3
end
end L3
namespace L3
open PySem PySem.Spec PyProof.Rows L2 Rw
def RS (n s m:Nat):Prop:=∃ w,lgw n s 0 w /\ fin 0 w=m
section
variable {n s m:Nat}
theorem RS.zero:RS n s 0:=⟨[],trivial,rfl⟩
theorem RS.step {p:Mv} (h:RS n s m) (hp:lgl n s m p):RS n s (xr m p.2):=by
 obtain ⟨w,h1,h2⟩:=h;refine ⟨w++[p],lgw_app.mpr ⟨h1,?_,trivial⟩,?_⟩
 ·rw [h2];exact hp
 ·rw [ub5,h2];rfl
theorem RS.lt (h:RS n s m):m < 2 ^ n:=by
 obtain ⟨w,h1,h2⟩:=h;rw [<- h2];exact vo3 h1
theorem RS.all {F:List Nat} (h0:0 ∈ F) (hc:∀ x ∈ F,∀ p,lgl n s x p->xr x p.2 ∈ F) (h:RS n s m):m ∈ F:=by
 obtain ⟨w,h1,rfl⟩:=h;have:∀ (w:List Mv) (x:Nat),x ∈ F->lgw n s x w->fin x w ∈ F:=by
  intro w
  induction w with
  | nil=>intro x hx _;exact hx
  | cons p r ih=>intro x hx hw;exact ih _ (hc x hx p hw.1) hw.2
 exact this w 0 h0 h1
theorem u52:∀ {l:List Nat} {N:Nat},l.Nodup->(∀ x ∈ l,x < N)->l.length<=N
 | l,0,_,h=>by
  cases l with
  | nil=>exact Nat.le_refl _
  | cons x l=>have:=h x List.mem_cons_self;omega
 | l,N+1,hn,h=>by
  have h1:=u52 (l:=l.erase N) (N:=N) (hn.erase N) fun x hx=>by
   have:=h x (List.mem_of_mem_erase hx);have hne:x ≠ N:=fun e=>by rw [e] at hx;exact (List.Nodup.not_mem_erase hn) hx
   omega
  by_cases hm:N ∈ l
  ·rw [List.length_erase_of_mem hm] at h1;omega
  ·rw [List.erase_of_not_mem hm] at h1;omega
def fdD (F:List Nat):List (Key × D):=F.map fun (x:Nat)=>(Sum.inl (x:Int),D.bl true)
theorem vq4 {F:List Nat} {x:Nat}:(valK (fdD F) (.inl (x:Int))).isSome=decide (x ∈ F):=by
 induction F with
 | nil=>rfl
 | cons y F ih =>
  unfold valK fdD at ih ⊢;rw [List.map_cons,List.find?_cons]
  by_cases e:y=x
  ·subst e;simp
  ·have e2:¬ (y:Int)=(x:Int):=fun z=>e (by omega)
   have e3:¬ x=y:=fun z=>e z.symm
   simp only [Sum.inl.injEq,e2,decide_false,List.mem_cons,e3,false_or];exact ih
theorem v35 {F:List Nat} {x:Nat} (h:¬ x ∈ F):un8 (fdD F) (.inl (x:Int)) (.bl true)=fdD (F++[x]):=by
 have ha:((fdD F).any fun kv=>decide (kv.1=Sum.inl (x:Int)))=false:=by
  rw [List.any_eq_false];intro kv hk hd;obtain ⟨y,hy,rfl⟩:=List.mem_map.mp hk;have e:(Sum.inl (y:Int):Key)=Sum.inl (x:Int):=of_decide_eq_true hd;injection e with e
  have:y=x:=by omega
  exact h (by rw [<- this];exact hy)
 unfold un8;rw [if_neg (by rw [ha];exact Bool.false_ne_true)];unfold fdD;rw [List.map_append];rfl
end
end L3
namespace TS
open PySem PyProof.Rows
abbrev S:=StateT SortSt Sem
def gal:Bool->Keyed->Array Keyed->Nat->Nat->Nat->S (Option Nat):=sortPriv% PySem.Builtin.gallop
def ask (l:Bool) (q:Keyed) (xs:Array Keyed) (b i:Nat):S (Option Bool):=do
 let x <- elem' xs (b+i)
 if l then lt' x q else return (<- lt' q x).map (!·)
def galB (B:Nat->S (Option Bool)) (n h:Nat):S (Option Nat):=do
 let mut o':=0
 let mut o:=1
 let mut u:=0
 let mut v:=0
 let some w <- B h | return none
 if w then
  let z:=n - h
  for _ in [0:n] do
   if o ≥ z then break
   let some e <- B (h+o) | return none
   if !e then break
   o':=o
   o:=2 * o+1
  u:=h+o'+1
  v:=h+min o z
 else
  let z:=h+1
  for _ in [0:n] do
   if o ≥ z then break
   let some e <- B (h - o) | return none
   if e then break
   o':=o
   o:=2 * o+1
  u:=h+1 - min o z
  v:=h - o'
 for _ in [0:n] do
  if u ≥ v then break
  let m:=u+(v - u) / 2
  let some e <- B m | return none
  if e then u:=m+1 else v:=m
 return some v
theorem vq2 (l:Bool) (q:Keyed) (xs:Array Keyed) (b n h:Nat):gal l q xs b n h=galB (ask l q xs b) n h:=rfl
def key (x:Keyed):Int:=numOf x.1
def IsI (x:Keyed):Prop:=∃ n t,x.1=.int n t
section
variable {prog:Program} {w:World} {A:Around} {E:Value->Shared->Prop} {s:Shared}
theorem w_lt {st:SortSt} {x y:Keyed} {Q:Option Bool->SortSt->Prop} (hk:kindOf st=oneType') (hx:IsI x) (hy:IsI y) (h:Q (some (decide (key x < key y))) st):wpS (model prog w) A E s (lt' x y) Q st:=by
 obtain ⟨⟨_,p⟩,n,t,rfl⟩:=x,hx;obtain ⟨⟨_,q⟩,m,u,rfl⟩:=y,hy;rw [lt'_eq];refine wpS_bind (wpS_get ?_);rw [hk,keyLt'_oneType];exact wpS_bind (wpS_lift (wpAny_attempt (oneLt_int ⟨rfl,wpS_pure h⟩)))
theorem w_el {st:SortSt} {xs:Array Keyed} {i:Nat} {Q:Keyed->SortSt->Prop} (hi:i < xs.size) (h:Q xs[i] st):wpS (model prog w) A E s (elem' xs i) Q st:=by
 rw [elem'_eq,getElem?_pos xs i hi];exact wpS_pure h
open Classical in
theorem vf6 {st:SortSt} {B:Nat->S (Option Bool)} {P:Nat->Prop} {n h:Nat} {Q:Option Nat->SortSt->Prop} (hh:h < n)
  (hb:∀ (i:Nat) (R:Option Bool->SortSt->Prop),i < n->R (some (decide (P i))) st->wpS (model prog w) A E s (B i) R st)
  (hm:∀ i j,i<=j->j < n->P j->P i)
  (ht:∀ k,k<=n->(∀ i,i < k->P i)->(∀ i,k<=i->i < n->¬ P i)->Q (some k) st):wpS (model prog w) A E s (galB B n h) Q st:=by
 have fin:∀ (u v:Nat),u<=v->v<=n->(∀ i,i < u->P i)->(∀ i,v<=i->i < n->¬ P i)->wpS (model prog w) A E s (do
   let mut u:=u
   let mut v:=v
   for _ in [0:n] do
    if u ≥ v then break
    let m:=u+(v - u) / 2
    let some e <- B m | return none
    if e then u:=m+1 else v:=m
   return some v) Q st:=by
  intro u v h1 h2 h3 h4;refine wpS_bind (wpS_mono (wpS_forRange (I:=fun x c st'=>st'=st /\ ∃ u v,c=(none,u,v) /\ u<=v /\ v<=n /\ v - u+x<=n /\ (∀ i,i < u->P i) /\ ∀ i,v<=i->i < n->¬ P i)
   (Q:=fun c st'=>st'=st /\ ∃ v,c=(none,v,v) /\ v<=n /\ (∀ i,i < v->P i) /\ ∀ i,v<=i->i < n->¬ P i) ?_ ?_ ⟨rfl,u,v,rfl,h1,h2,by omega,h3,h4⟩) ?_)
  ·rintro x _ _ - hx ⟨rfl,u,v,rfl,a1,a2,a3,a4,a5⟩
   dsimp only
   by_cases hg:u ≥ v
   ·rw [if_pos hg]
    obtain rfl:u=v:=by omega
    exact wpS_pure ⟨rfl,u,rfl,a2,a4,a5⟩
   ·rw [if_neg hg]
    refine wpS_bind (hb _ _ (by omega) ?_)
    by_cases hp:P (u+(v - u) / 2)
    ·simp only [hp,decide_true,if_true]
     exact wpS_pure ⟨rfl,_,_,rfl,by omega,a2,by omega,fun i hi=>hm _ _ (by omega) (by omega) hp,a5⟩
    ·simp only [hp,decide_false,Bool.false_eq_true,if_false]
     exact wpS_pure ⟨rfl,_,_,rfl,by omega,by omega,by omega,a4,fun i hi hi' q=>hp (hm _ _ hi hi' q)⟩
  ·rintro _ _ ⟨rfl,u,v,rfl,a1,a2,a3,a4,a5⟩
   obtain rfl:u=v:=by omega
   exact ⟨rfl,u,rfl,a2,a4,a5⟩
  ·rintro _ _ ⟨rfl,v,rfl,a2,a4,a5⟩
   exact wpS_pure (ht _ a2 a4 a5)
 unfold galB;refine wpS_bind (hb h _ hh ?_);dsimp only
 by_cases hw:P h
 ·simp only [hw,decide_true,if_true]
  refine wpS_bind (wpS_mono (wpS_forRange (I:=fun x c st'=>st'=st /\ ∃ o' o,c=(none,o',o) /\ o' < o /\ x+1<=o /\ h+o' < n /\ P (h+o'))
   (Q:=fun c st'=>st'=st /\ ∃ o' o,c=(none,o',o) /\ o' < o /\ h+o' < n /\ P (h+o') /\ (h+o < n->¬ P (h+o))) ?_ ?_ ⟨rfl,0,1,rfl,by omega,by omega,by omega,hw⟩) ?_)
  ·rintro x _ _ - hx ⟨rfl,o',o,rfl,a1,a2,a3,a4⟩
   dsimp only
   by_cases hg:o ≥ n - h
   ·rw [if_pos hg]
    exact wpS_pure ⟨rfl,_,_,rfl,a1,a3,a4,fun _=>by omega⟩
   ·rw [if_neg hg]
    refine wpS_bind (hb _ _ (by omega) ?_)
    by_cases hp:P (h+o)
    ·simp only [hp,decide_true,Bool.not_true,Bool.false_eq_true,if_false]
     exact wpS_pure ⟨rfl,_,_,rfl,by omega,by omega,by omega,hp⟩
    ·simp only [hp,decide_false,Bool.not_false,if_true]
     exact wpS_pure ⟨rfl,_,_,rfl,a1,a3,a4,fun _=>hp⟩
  ·rintro _ _ ⟨rfl,o',o,rfl,a1,a2,a3,a4⟩
   exact ⟨rfl,_,_,rfl,a1,a3,a4,fun _=>by omega⟩
  ·rintro _ _ ⟨rfl,o',o,rfl,a1,a3,a4,a5⟩
   refine fin (h+o'+1) (h+min o (n - h)) (by omega) (by omega) (fun i hi=>hm _ _ (by omega) a3 a4) fun i hi hi' q=>?_
   exact a5 (by omega) (hm _ _ (by omega) hi' q)
 ·simp only [hw,decide_false,Bool.false_eq_true,if_false]
  refine wpS_bind (wpS_mono (wpS_forRange (I:=fun x c st'=>st'=st /\ ∃ o' o,c=(none,o',o) /\ o' < o /\ x+1<=o /\ o'<=h /\ ¬ P (h - o'))
   (Q:=fun c st'=>st'=st /\ ∃ o' o,c=(none,o',o) /\ o' < o /\ o'<=h /\ ¬ P (h - o') /\ (o<=h->P (h - o))) ?_ ?_ ⟨rfl,0,1,rfl,by omega,by omega,by omega,hw⟩) ?_)
  ·rintro x _ _ - hx ⟨rfl,o',o,rfl,a1,a2,a3,a4⟩
   dsimp only
   by_cases hg:o ≥ h+1
   ·rw [if_pos hg]
    exact wpS_pure ⟨rfl,_,_,rfl,a1,a3,a4,fun _=>by omega⟩
   ·rw [if_neg hg]
    refine wpS_bind (hb _ _ (by omega) ?_)
    by_cases hp:P (h - o)
    ·simp only [hp,decide_true,if_true]
     exact wpS_pure ⟨rfl,_,_,rfl,a1,a3,a4,fun _=>hp⟩
    ·simp only [hp,decide_false,Bool.false_eq_true,if_false]
     exact wpS_pure ⟨rfl,_,_,rfl,by omega,by omega,by omega,hp⟩
  ·rintro _ _ ⟨rfl,o',o,rfl,a1,a2,a3,a4⟩
   exact ⟨rfl,_,_,rfl,a1,a3,a4,fun _=>by omega⟩
  ·rintro _ _ ⟨rfl,o',o,rfl,a1,a3,a4,a5⟩
   refine fin (h+1 - min o (h+1)) (h - o') (by omega) (by omega) (fun i hi=>?_) fun i hi hi' q=>a4 (hm _ _ hi hi' q)
   exact hm i (h - o) (by omega) (by omega) (a5 (by omega))
def bey (l:Bool) (q x:Keyed):Prop:=if l then key x < key q else key x<=key q
theorem uj9 {st:SortSt} {l:Bool} {q:Keyed} {xs:Array Keyed} {b n h:Nat} {Q:Option Nat->SortSt->Prop} (hk:kindOf st=oneType') (hq:IsI q) (hx:∀ x ∈ xs.toList,IsI x) (hn:b+n<=xs.size) (hh:h < n)
  (hs:∀ i j (hj:j < xs.size),b<=i->(hij:i<=j)->j < b+n->key xs[i]<=key xs[j])
  (ht:∀ k,k<=n->(∀ i (hi:i < xs.size),b<=i->i < b+k->bey l q xs[i])->(∀ i (hi:i < xs.size),b+k<=i->i < b+n->¬ bey l q xs[i])->Q (some k) st):wpS (model prog w) A E s (gal l q xs b n h) Q st:=by
 classical
 rw [vq2];refine vf6 (P:=fun i=>∃ h:b+i < xs.size,bey l q xs[b+i]) hh ?_ ?_ ?_
 ·intro i R hi hr
  have hlt:b+i < xs.size:=by omega
  have hI:IsI xs[b+i]:=hx _ (by simp);refine wpS_bind (w_el hlt ?_);have he:(∃ h:b+i < xs.size,bey l q xs[b+i]) ↔ if l then key xs[b+i] < key q else key xs[b+i]<=key q:=⟨fun ⟨_,h⟩=>h,fun h=>⟨hlt,h⟩⟩
  cases l with
  | true =>
   refine w_lt hk hI hq ?_;simpa only [he,if_true] using hr
  | false =>
   refine wpS_bind (w_lt hk hq hI (wpS_pure ?_));have e:∀ d:Decidable (∃ h:b+i < xs.size,bey false q xs[b+i]),@decide _ d=!decide (key q < key xs[b+i]):=fun d=>by
    rw [Bool.eq_iff_iff];simp [he]
   rw [e] at hr;exact hr
 ·rintro i j hij hj ⟨h1,h2⟩
  have:=hs (b+i) (b+j) h1 (by omega) (by omega) (by omega);refine ⟨by omega,?_⟩;unfold bey at h2 ⊢;cases l with
  | true=>exact Int.lt_of_le_of_lt this h2
  | false=>exact Int.le_trans this h2
 ·intro k h1 h2 h3
  refine ht k h1 (fun i hi a1 a2=>?_) (fun i hi a1 a2 q=>?_)
  ·obtain ⟨_,z⟩:=h2 (i - b) (by omega)
   have e:b+(i - b)=i:=by omega
   simp only [e] at z;exact z
  ·refine h3 (i - b) (by omega) (by omega) ⟨by omega,?_⟩
   have e:b+(i - b)=i:=by omega
   simp only [e];exact q
end
def sGal (g:Nat):S Unit:=modify fun s=>SortSt.mk' (kindOf s) (arrOf s) (pendingOf s) g (failedOf s)
def mLo:Array Keyed->Array Keyed->S (Array Keyed):=sortPriv% PySem.Builtin.mergeLo
def mHi:Array Keyed->Array Keyed->S (Array Keyed):=sortPriv% PySem.Builtin.mergeHi
def loD (a b o:Array Keyed) (i j:Nat):=o++a.extract i a.size++b.extract j b.size
def loA (a b o:Array Keyed) (i j:Nat):=o++b.extract j b.size++a.extract i a.size
abbrev Sg:=Option (Array Keyed) × Array Keyed × Nat × Nat × Nat × Nat × Nat
abbrev Si:=Option (Array Keyed) × Array Keyed × Nat × Nat × Nat × Nat
abbrev So:=Option (Array Keyed) × Array Keyed × Nat × Nat × Nat
def loG3 (a b o:Array Keyed) (i j g ca cb:Nat):S (ForInStep Sg):=do
 let z <- elem' a i
 if i+1+1 == a.size then pure (.done (some (loA a b (o.push z) (i+1) j),o.push z,i+1,j,g,ca,cb)) else
 if ca < 7 && cb < 7 then pure (.done (none,o.push z,i+1,j,g,ca,cb)) else pure (.yield (none,o.push z,i+1,j,g,ca,cb))
def loG2 (a b o:Array Keyed) (i j g ca cb:Nat):S (ForInStep Sg):=do
 let y <- elem' b j
 if j+1 == b.size then pure (.done (some (loD a b (o.push y) i (j+1)),o.push y,i,j+1,g,ca,cb)) else do
 let z <- elem' a i
 match <- gal true z b (j+1) (b.size - (j+1)) 0 with
 | some k =>
  if k > 0 then
   if j+1+k == b.size then pure (.done (some (loD a b (o.push y++b.extract (j+1) (j+1+k)) i (j+1+k)),o.push y++b.extract (j+1) (j+1+k),i,j+1+k,g,ca,k)) else
   loG3 a b (o.push y++b.extract (j+1) (j+1+k)) i (j+1+k) g ca k
  else loG3 a b (o.push y) i (j+1) g ca k
 | _=>pure (.done (some (loD a b (o.push y) i (j+1)),o.push y,i,j+1,g,ca,cb))
def loG1 (a b o:Array Keyed) (i j g ca cb:Nat):S (ForInStep Sg):=do
 sGal g
 let y <- elem' b j
 match <- gal false y a i (a.size - i) 0 with
 | some k =>
  if k > 0 then
   if i+k+1 == a.size then pure (.done (some (loA a b (o++a.extract i (i+k)) (i+k) j),o++a.extract i (i+k),i+k,j,g,k,cb)) else
   if i+k == a.size then pure (.done (some (loD a b (o++a.extract i (i+k)) (i+k) j),o++a.extract i (i+k),i+k,j,g,k,cb)) else
   loG2 a b (o++a.extract i (i+k)) (i+k) j g k cb
  else loG2 a b o i j g k cb
 | _=>pure (.done (some (loD a b o i j),o,i,j,g,ca,cb))
def loI (a b o:Array Keyed) (i j ca cb g:Nat):S (ForInStep Si):=do
 let y <- elem' b j
 let z <- elem' a i
 match <- lt' y z with
 | some c =>
  if c then do
   let y <- elem' b j
   if j+1 == b.size then pure (.done (some (loD a b (o.push y) i (j+1)),o.push y,i,j+1,0,cb+1)) else
   if cb+1 ≥ g then pure (.done (none,o.push y,i,j+1,0,cb+1)) else pure (.yield (none,o.push y,i,j+1,0,cb+1))
  else do
   let z <- elem' a i
   if i+1+1 == a.size then pure (.done (some (loA a b (o.push z) (i+1) j),o.push z,i+1,j,ca+1,0)) else
   if ca+1 ≥ g then pure (.done (none,o.push z,i+1,j,ca+1,0)) else pure (.yield (none,o.push z,i+1,j,ca+1,0))
 | _=>pure (.done (some (loD a b o i j),o,i,j,ca,cb))
theorem vn5 (a b:Array Keyed):mLo a b=(do
 rule "list.sort.merge-lo"
 let y <- elem' b 0
 if 1 == b.size then pure (loD a b #[y] 0 1) else
 if 0+1 == a.size then pure (loA a b #[y] 0 1) else do
 let g:=gallopOf (<- get)
 let c:So <- forIn [0:a.size+b.size] ((none,#[y],0,1,g):So) fun _ (c:So)=>do
  let d:Si <- forIn [0:a.size+b.size] ((none,c.2.1,c.2.2.1,c.2.2.2.1,0,0):Si) fun _ (d:Si)=>loI a b d.2.1 d.2.2.1 d.2.2.2.1 d.2.2.2.2.1 d.2.2.2.2.2 c.2.2.2.2
  match d.1 with
  | some r=>pure (.done ((some r,d.2.1,d.2.2.1,d.2.2.2.1,c.2.2.2.2):So))
  | none=>do
   rule "list.sort.gallop"
   let e:Sg <- forIn [0:a.size+b.size] ((none,d.2.1,d.2.2.1,d.2.2.2.1,c.2.2.2.2+1,d.2.2.2.2.1,d.2.2.2.2.2):Sg) fun _ (e:Sg) =>
    if e.2.2.2.2.1 > 1 then loG1 a b e.2.1 e.2.2.1 e.2.2.2.1 (e.2.2.2.2.1 - 1) e.2.2.2.2.2.1 e.2.2.2.2.2.2 else loG1 a b e.2.1 e.2.2.1 e.2.2.2.1 e.2.2.2.2.1 e.2.2.2.2.2.1 e.2.2.2.2.2.2
   match e.1 with
   | some r=>pure (.done ((some r,e.2.1,e.2.2.1,e.2.2.2.1,e.2.2.2.2.1):So))
   | none=>do
    sGal (e.2.2.2.2.1+1)
    pure (.yield ((none,e.2.1,e.2.2.1,e.2.2.2.1,e.2.2.2.2.1+1):So))
 match c.1 with
 | some r=>pure r
 | none=>unsupported "internal:list.sort.merge-bound"):=by kernel_rfl
def Mg (r:Keyed->Keyed->Prop) (T o p q:List Keyed):Prop:=(o++(p++q)).Perm T /\ o.Pairwise r /\ ∀ x ∈ o,∀ y ∈ p++q,r x y
theorem Mg.left {r:Keyed->Keyed->Prop} {T o l p q:List Keyed} (m:Mg r T o (l++p) q) (h:(l++p).Pairwise r) (h':∀ x ∈ l,∀ y ∈ q,r x y):Mg r T (o++l) p q:=by
 obtain ⟨m1,m2,m3⟩:=m;obtain ⟨p1,p2,p3⟩:=List.pairwise_append.mp h;refine ⟨by simpa [List.append_assoc] using m1,List.pairwise_append.mpr ⟨m2,p1,fun x hx y hy=>m3 x hx y (by simp [hy])⟩,fun x hx y hy=>?_⟩
 rcases List.mem_append.mp hx with hx | hx
 ·exact m3 x hx y (by rcases List.mem_append.mp hy with hy | hy <;> simp [hy])
 ·rcases List.mem_append.mp hy with hy | hy
  ·exact p3 x hx y hy
  ·exact h' x hx y hy
theorem Mg.symm {r:Keyed->Keyed->Prop} {T o p q:List Keyed} (m:Mg r T o p q):Mg r T o q p:=by
 obtain ⟨m1,m2,m3⟩:=m;exact ⟨(List.perm_append_comm.append_left o).trans m1,m2,fun x hx y hy=>m3 x hx y (List.mem_append.mpr (List.mem_append.mp hy).symm)⟩
theorem Mg.right {r:Keyed->Keyed->Prop} {T o l p q:List Keyed} (m:Mg r T o p (l++q)) (h:(l++q).Pairwise r) (h':∀ x ∈ l,∀ y ∈ p,r x y):Mg r T (o++l) p q:=(m.symm.left h h').symm
def le (x y:Keyed):Prop:=key x<=key y
def Rise (a:Array Keyed):Prop:=∀ i j (hj:j < a.size),(hij:i<=j)->key a[i]<=key a[j]
theorem Rise.pw {a:Array Keyed} (h:Rise a) (i:Nat):(a.toList.drop i).Pairwise le:=by
 refine List.Pairwise.sublist (List.drop_sublist _ _) ?_;rw [List.pairwise_iff_getElem];intro x y hx hy hxy;exact h x y (by simpa using hy) (by omega)
theorem u76 {a:Array Keyed} {i:Nat} {x:Keyed} (h:x ∈ a.toList.drop i):∃ j,∃ (hj:j < a.size),i<=j /\ a[j]=x:=by
 obtain ⟨k,hk,e⟩:=List.mem_iff_getElem.mp h;rw [List.getElem_drop] at e;simp only [List.length_drop,Array.length_toList] at hk;exact ⟨i+k,by omega,by omega,by simpa using e⟩
theorem u77 {a:Array Keyed} {i k:Nat}:a.toList.drop i=(a.extract i (i+k)).toList++a.toList.drop (i+k):=by
 rw [Array.toList_extract,List.extract_eq_take_drop,show i+k - i=k by omega,<- List.drop_drop,List.take_append_drop]
theorem ug1 {a:Array Keyed} {i k:Nat} {x:Keyed} (h:x ∈ (a.extract i (i+k)).toList):∃ j,∃ (hj:j < a.size),i<=j /\ j < i+k /\ a[j]=x:=by
 rw [Array.toList_extract,List.extract_eq_take_drop] at h;obtain ⟨j,hj,e⟩:=List.mem_iff_getElem.mp h;simp only [List.length_take,List.length_drop,Array.length_toList] at hj;rw [List.getElem_take,List.getElem_drop] at e;exact ⟨i+j,by omega,by omega,by omega,by simpa using e⟩
theorem ub6 {a:Array Keyed} {i:Nat}:(a.extract i a.size).toList=a.toList.drop i:=by
 rw [Array.toList_extract,List.extract_eq_take_drop,<- Array.length_toList,List.take_of_length_le (by simp)]
def Same (st st':SortSt):Prop:=kindOf st'=kindOf st /\ arrOf st'=arrOf st /\ pendingOf st'=pendingOf st /\ failedOf st'=failedOf st
structure Lo (a b o:Array Keyed) (i j:Nat):Prop where
 m:Mg le (a.toList++b.toList) o.toList (a.toList.drop i) (b.toList.drop j)
 i:i+1 < a.size
 j:j < b.size
structure LoP (a b:Array Keyed):Prop where
 ra:Rise a
 rb:Rise b
 ia:∀ x ∈ a.toList,IsI x
 ib:∀ x ∈ b.toList,IsI x
 na:0 < a.size
 nb:0 < b.size
 lt:∀ (x:Nat) (hx:x < b.size),key b[x]<=key a[a.size - 1]
 ft:∀ (x:Nat) (hx:x < a.size),key b[0]<=key a[x]
def MgD (a b o:Array Keyed):Prop:=o.toList.Perm (a.toList++b.toList) /\ o.toList.Pairwise le
theorem Mg.done {a b o:Array Keyed} {i j:Nat} (P:LoP a b) (m:Mg le (a.toList++b.toList) o.toList (a.toList.drop i) (b.toList.drop j)) (h:j=b.size \/ i=a.size):MgD a b (loD a b o i j):=by
 unfold loD MgD;rw [Array.toList_append,Array.toList_append,ub6,ub6]
 rcases h with rfl | rfl
 ·rw [List.drop_of_length_le (l:=b.toList) (by simp)] at m ⊢
  have:=Mg.left (p:=[]) (by simpa using m) (by simpa using P.ra.pw i) (by simp);exact ⟨by simpa using this.1,by simpa using this.2.1⟩
 ·rw [List.drop_of_length_le (l:=a.toList) (by simp)] at m ⊢
  have:=Mg.right (q:=[]) (by simpa using m) (by simpa using P.rb.pw j) (by simp);exact ⟨by simpa using this.1,by simpa using this.2.1⟩
theorem Mg.last {a b o:Array Keyed} {i j:Nat} (P:LoP a b) (m:Mg le (a.toList++b.toList) o.toList (a.toList.drop i) (b.toList.drop j)) (h:i+1=a.size):MgD a b (loA a b o i j):=by
 unfold loA MgD;rw [Array.toList_append,Array.toList_append,ub6,ub6];have m1:=Mg.right (l:=b.toList.drop j) (q:=[]) (by simpa using m) (by simpa using P.rb.pw j) (by
  intro x hx y hy;obtain ⟨j1,hj,_,rfl⟩:=u76 hx;obtain ⟨i1,hi,hle,rfl⟩:=u76 hy;obtain rfl:i1=a.size - 1:=by omega
  exact P.lt _ _)
 have m2:=Mg.left (p:=[]) (by simpa using m1) (by simpa using P.ra.pw i) (by simp);exact ⟨by simpa using m2.1,by simpa using m2.2.1⟩
theorem Mg.pa {a b o:Array Keyed} {i j k:Nat} (P:LoP a b) (m:Mg le (a.toList++b.toList) o.toList (a.toList.drop i) (b.toList.drop j)) (hj:j < b.size) (h:∀ x (hx:x < a.size),i<=x->x < i+k->key a[x]<=key b[j]) :
  Mg le (a.toList++b.toList) (o++a.extract i (i+k)).toList (a.toList.drop (i+k)) (b.toList.drop j):=by
 rw [Array.toList_append];rw [u77 (k:=k)] at m;refine m.left (by rw [<- u77];exact P.ra.pw i) fun x hx y hy=>?_
 obtain ⟨x',h1,h2,h3,rfl⟩:=ug1 hx;obtain ⟨y',g1,g2,rfl⟩:=u76 hy;exact Int.le_trans (h _ h1 h2 h3) (P.rb _ _ g1 g2)
theorem Mg.pb {a b o:Array Keyed} {i j k:Nat} (P:LoP a b) (m:Mg le (a.toList++b.toList) o.toList (a.toList.drop i) (b.toList.drop j)) (h:∀ x (hx:x < b.size) (hi:i < a.size),j<=x->x < j+k->key b[x]<=key a[i]) :
  Mg le (a.toList++b.toList) (o++b.extract j (j+k)).toList (a.toList.drop i) (b.toList.drop (j+k)):=by
 rw [Array.toList_append];rw [u77 (a:=b) (k:=k)] at m;refine m.right (by rw [<- u77];exact P.rb.pw j) fun x hx y hy=>?_
 obtain ⟨x',h1,h2,h3,rfl⟩:=ug1 hx;obtain ⟨y',g1,g2,rfl⟩:=u76 hy;exact Int.le_trans (h _ h1 (by omega) h2 h3) (P.ra _ _ g1 g2)
theorem u47 {a o:Array Keyed} {i:Nat} (h:i < a.size):o.push a[i]=o++a.extract i (i+1):=by
 apply Array.ext';rw [Array.toList_push,Array.toList_append,Array.toList_extract,List.extract_eq_take_drop,List.drop_eq_getElem_cons (by simpa using h),show i+1 - i=1 by omega];simp
section
variable {prog:Program} {w:World} {A:Around} {E:Value->Shared->Prop} {s:Shared}
theorem w_sg {st:SortSt} {g:Nat} {Q:Unit->SortSt->Prop} (h:∀ st',Same st st'->Q () st'):wpS (model prog w) A E s (sGal g) Q st:=wpS_modify (h _ ⟨rfl,rfl,rfl,rfl⟩)
theorem Same.trans {a b c:SortSt} (h:Same a b) (h':Same b c):Same a c:=⟨h'.1.trans h.1,h'.2.1.trans h.2.1,h'.2.2.1.trans h.2.2.1,h'.2.2.2.trans h.2.2.2⟩
theorem v10 {st0 st:SortSt} {a b o:Array Keyed} {i j n g ca cb:Nat} {Q:ForInStep Sg->SortSt->Prop} (P:LoP a b) (e:Same st0 st) (L:Lo a b o i j) (hn:n < i+j+1) (hlt:∀ x (hx:x < b.size) (hi:i < a.size),j<=x->key a[i]<=key b[x])
  (hd:∀ o' r st',MgD a b o'->Same st0 st'->Q (.done (some o',r)) st') (hy:∀ o i j g ca cb st',Lo a b o i j->n < i+j->Same st0 st'->Q (.yield (none,o,i,j,g,ca,cb)) st' /\ Q (.done (none,o,i,j,g,ca,cb)) st'):wpS (model prog w) A E s (loG3 a b o i j g ca cb) Q st:=by
 have hi:=L.i;unfold loG3;refine wpS_bind (w_el (by omega) ?_);have m:=Mg.pa (k:=1) P L.m L.j (fun x hx h1 h2=>by obtain rfl:x=i:=(by omega);exact hlt _ L.j (by omega) (Nat.le_refl _));rw [u47 (by omega)]
 by_cases h1:i+1+1=a.size
 ·rw [if_pos (by simpa using h1)]
  exact wpS_pure (hd _ _ _ (m.last P h1) e)
 rw [if_neg (by simpa using h1)];have:=hy _ (i+1) j g ca cb st ⟨m,by omega,L.j⟩ (by omega) e;split
 ·exact wpS_pure this.2
 ·exact wpS_pure this.1
theorem v11 {st0 st:SortSt} {a b o:Array Keyed} {i j n g ca cb:Nat} {Q:ForInStep Sg->SortSt->Prop} (P:LoP a b) (hk:kindOf st0=oneType') (e:Same st0 st) (L:Lo a b o i j) (hn:n < i+j+1) (hlt:∀ x (hx:x < a.size) (hj:j < b.size),i<=x->key b[j]<=key a[x])
  (hd:∀ o' r st',MgD a b o'->Same st0 st'->Q (.done (some o',r)) st') (hy:∀ o i j g ca cb st',Lo a b o i j->n < i+j->Same st0 st'->Q (.yield (none,o,i,j,g,ca,cb)) st' /\ Q (.done (none,o,i,j,g,ca,cb)) st'):wpS (model prog w) A E s (loG2 a b o i j g ca cb) Q st:=by
 have hi:=L.i;have hj:=L.j;unfold loG2;refine wpS_bind (w_el hj ?_);have m:=Mg.pb (k:=1) P L.m (fun x hx hi h1 h2=>by obtain rfl:x=j:=(by omega);exact hlt _ hi hx (Nat.le_refl _));rw [u47 hj]
 by_cases h1:j+1=b.size
 ·rw [if_pos (by simpa using h1)]
  exact wpS_pure (hd _ _ _ (m.done P (.inl h1)) e)
 rw [if_neg (by simpa using h1)];refine wpS_bind (w_el (by omega) (wpS_bind (uj9 (e.1.trans hk) (P.ia _ (by simp)) P.ib (by omega) (by omega) (fun x y hy _ hxy _=>P.rb x y hy hxy) fun k k1 k2 k3=>?_)));dsimp only;have m2:=Mg.pb (k:=k) P m (fun x hx hi h1 h2=>Int.le_of_lt (k2 x hx h1 h2));have rest:∀ x (hx:x < b.size) (hi:i < a.size),j+1+k<=x->key a[i]<=key b[x]:=fun x hx hi h1=>Int.not_lt.mp (k3 x hx h1 (by omega))
 by_cases hk0:k > 0
 ·rw [if_pos hk0]
  by_cases h2:j+1+k=b.size
  ·rw [if_pos (by simpa using h2)]
   exact wpS_pure (hd _ _ _ (m2.done P (.inl h2)) e)
  rw [if_neg (by simpa using h2)];exact v10 P e ⟨m2,hi,by omega⟩ (by omega) rest hd hy
 ·rw [if_neg hk0]
  obtain rfl:k=0:=by omega
  exact v10 P e ⟨m,hi,by omega⟩ (by omega) rest hd hy
theorem vf4 {st0 st:SortSt} {a b o:Array Keyed} {i j n g ca cb:Nat} {Q:ForInStep Sg->SortSt->Prop} (P:LoP a b) (hk:kindOf st0=oneType') (e:Same st0 st) (L:Lo a b o i j) (hn:n < i+j+1)
  (hd:∀ o' r st',MgD a b o'->Same st0 st'->Q (.done (some o',r)) st') (hy:∀ o i j g ca cb st',Lo a b o i j->n < i+j->Same st0 st'->Q (.yield (none,o,i,j,g,ca,cb)) st' /\ Q (.done (none,o,i,j,g,ca,cb)) st'):wpS (model prog w) A E s (loG1 a b o i j g ca cb) Q st:=by
 have hi:=L.i;have hj:=L.j;unfold loG1;refine wpS_bind (w_sg fun st' e'=>wpS_bind (w_el hj (wpS_bind (uj9 ((e.trans e').1.trans hk) (P.ib _ (by simp)) P.ia (by omega) (by omega) (fun x y hy _ hxy _=>P.ra x y hy hxy) fun k k1 k2 k3=>?_))));have e:=e.trans e';dsimp only;have m2:=Mg.pa (k:=k) P L.m hj (fun x hx h1 h2=>k2 x hx h1 h2);have rest:∀ x (hx:x < a.size) (hj:j < b.size),i+k<=x->key b[j]<=key a[x]:=fun x hx hi h1=>Int.le_of_lt (Int.not_le.mp (k3 x hx h1 (by omega)))
 by_cases hk0:k > 0
 ·rw [if_pos hk0]
  by_cases h2:i+k+1=a.size
  ·rw [if_pos (by simpa using h2)]
   exact wpS_pure (hd _ _ _ (m2.last P h2) e)
  rw [if_neg (by simpa using h2)]
  by_cases h3:i+k=a.size
  ·rw [if_pos (by simpa using h3)]
   exact wpS_pure (hd _ _ _ (m2.done P (.inr h3)) e)
  rw [if_neg (by simpa using h3)];exact v11 P hk e ⟨m2,by omega,hj⟩ (by omega) rest hd hy
 ·rw [if_neg hk0]
  obtain rfl:k=0:=by omega
  exact v11 P hk e L hn rest hd hy
theorem vt1 {st0 st:SortSt} {a b o:Array Keyed} {i j n g ca cb:Nat} {Q:ForInStep Si->SortSt->Prop} (P:LoP a b) (hk:kindOf st0=oneType') (e:Same st0 st) (L:Lo a b o i j) (hn:n < i+j+1)
  (hd:∀ o' r,MgD a b o'->Q (.done (some o',r)) st) (hy:∀ o i j ca cb,Lo a b o i j->n < i+j->Q (.yield (none,o,i,j,ca,cb)) st /\ Q (.done (none,o,i,j,ca,cb)) st):wpS (model prog w) A E s (loI a b o i j ca cb g) Q st:=by
 have hi:=L.i;have hj:=L.j;unfold loI;refine wpS_bind (w_el hj (wpS_bind (w_el (by omega) (wpS_bind (w_lt (e.1.trans hk) (P.ib _ (by simp)) (P.ia _ (by simp)) ?_)))));dsimp only
 by_cases hw:key b[j] < key a[i]
 ·simp only [hw,decide_true,if_true]
  refine wpS_bind (w_el hj ?_);have m:=Mg.pb (k:=1) P L.m (fun x hx hi h1 h2=>by obtain rfl:x=j:=(by omega);exact Int.le_of_lt hw);rw [u47 hj]
  by_cases h1:j+1=b.size
  ·rw [if_pos (by simpa using h1)]
   exact wpS_pure (hd _ _ (m.done P (.inl h1)))
  rw [if_neg (by simpa using h1)];have:=fun cb=>hy _ i (j+1) 0 cb ⟨m,hi,by omega⟩ (by omega)
  split
  ·exact wpS_pure (this _).2
  ·exact wpS_pure (this _).1
 ·simp only [hw,decide_false,Bool.false_eq_true,if_false]
  refine wpS_bind (w_el (by omega) ?_);have m:=Mg.pa (k:=1) P L.m L.j (fun x hx h1 h2=>by obtain rfl:x=i:=(by omega);exact Int.not_lt.mp hw);rw [u47 (by omega)]
  by_cases h1:i+1+1=a.size
  ·rw [if_pos (by simpa using h1)]
   exact wpS_pure (hd _ _ (m.last P h1))
  rw [if_neg (by simpa using h1)];have:=fun ca=>hy _ (i+1) j ca 0 ⟨m,by omega,L.j⟩ (by omega)
  split
  ·exact wpS_pure (this _).2
  ·exact wpS_pure (this _).1
theorem w_lo {st:SortSt} {a b:Array Keyed} {Q:Array Keyed->SortSt->Prop} (hk:kindOf st=oneType') (P:LoP a b)
  (h:∀ o st',MgD a b o->Same st st'->Q o st'):wpS (model prog w) A E s (mLo a b) Q st:=by
 rw [vn5];refine wpS_bind (wpS_lift (wpAny_rule ⟨rfl,?_⟩));refine wpS_bind (w_el P.nb ?_);have m0:Mg le (a.toList++b.toList) #[b[0]'P.nb].toList (a.toList.drop 0) (b.toList.drop 1):=by
  have:Mg le (a.toList++b.toList) (#[]:Array Keyed).toList (a.toList.drop 0) (b.toList.drop 0):=⟨by simp,by simp,by simp⟩;have:=Mg.pb (k:=1) P this (fun x hx hi h1 h2=>by obtain rfl:x=0:=(by omega);exact P.ft 0 hi);rw [<- u47 P.nb] at this;exact this
 have rf:Same st st:=⟨rfl,rfl,rfl,rfl⟩
 by_cases h1:1=b.size
 ·rw [if_pos (by simpa using h1)]
  exact wpS_pure (h _ _ (Mg.done P m0 (.inl h1)) rf)
 rw [if_neg (by simpa using h1)]
 by_cases h2:0+1=a.size
 ·rw [if_pos (by simpa using h2)]
  exact wpS_pure (h _ _ (Mg.last P m0 h2) rf)
 rw [if_neg (by simpa using h2)];refine wpS_bind (wpS_get ?_);have hna:=P.na;have hnb:=P.nb;refine wpS_bind (wpS_mono (wpS_forRange (I:=fun x c st'=>Same st st' /\ ∃ o i j g,c=(none,o,i,j,g) /\ Lo a b o i j /\ x < i+j)
  (Q:=fun c st'=>Same st st' /\ ∃ o r,c=(some o,r) /\ MgD a b o) ?_ ?_ ⟨rf,_,_,_,_,rfl,⟨m0,by omega,by omega⟩,by omega⟩) ?_)
 ·rintro x _ st1 - hx ⟨e1,o,i,j,g,rfl,L,hl⟩
  refine wpS_bind (wpS_mono (wpS_forRange (I:=fun y c st'=>st'=st1 /\ ∃ o i j ca cb,c=(none,o,i,j,ca,cb) /\ Lo a b o i j /\ x+y < i+j)
   (Q:=fun c st'=>st'=st1 /\ ((∃ o r,c=(some o,r) /\ MgD a b o) \/ ∃ o i j ca cb,c=(none,o,i,j,ca,cb) /\ Lo a b o i j /\ x+1 < i+j)) ?_ ?_ ⟨rfl,_,_,_,_,_,rfl,L,by omega⟩) ?_)
  ·rintro y _ _ - hy ⟨rfl,o,i,j,ca,cb,rfl,L,hl⟩
   dsimp only;refine vt1 (n:=x+y+1) P hk e1 L (by omega) (fun o' r m=>⟨rfl,.inl ⟨_,_,rfl,m⟩⟩) fun o i j ca cb L h=>⟨⟨rfl,_,_,_,_,_,rfl,L,by omega⟩,rfl,.inr ⟨_,_,_,_,_,rfl,L,by omega⟩⟩
  ·rintro _ _ ⟨rfl,o,i,j,ca,cb,rfl,L,hl⟩
   exact ⟨rfl,.inr ⟨_,_,_,_,_,rfl,L,by omega⟩⟩
  ·rintro _ _ ⟨rfl,⟨o,r,rfl,m⟩ | ⟨o,i,j,ca,cb,rfl,L,hl⟩⟩
   ·exact wpS_pure ⟨e1,_,_,rfl,m⟩
   refine wpS_bind (wpS_lift (wpAny_rule ⟨rfl,?_⟩));refine wpS_bind (wpS_mono (wpS_forRange (I:=fun y c st'=>Same st st' /\ ∃ o i j g ca cb,c=(none,o,i,j,g,ca,cb) /\ Lo a b o i j /\ x+1 < i+j)
    (Q:=fun c st'=>Same st st' /\ ((∃ o r,c=(some o,r) /\ MgD a b o) \/ ∃ o i j g ca cb,c=(none,o,i,j,g,ca,cb) /\ Lo a b o i j /\ x+1 < i+j)) ?_ ?_ ⟨e1,_,_,_,_,_,_,rfl,L,hl⟩) ?_)
   ·rintro y _ st2 - hy ⟨e2,o,i,j,g,ca,cb,rfl,L,hl⟩
    dsimp only;split <;> exact vf4 (n:=x+1) P hk e2 L (by omega) (fun o' r st' m e=>⟨e,.inl ⟨_,_,rfl,m⟩⟩) fun o i j g ca cb st' L h e=>⟨⟨e,_,_,_,_,_,_,rfl,L,h⟩,e,.inr ⟨_,_,_,_,_,_,rfl,L,h⟩⟩
   ·rintro _ _ ⟨e2,o,i,j,g,ca,cb,rfl,L,hl⟩
    exact ⟨e2,.inr ⟨_,_,_,_,_,_,rfl,L,hl⟩⟩
   ·rintro _ _ ⟨e2,⟨o,r,rfl,m⟩ | ⟨o,i,j,g,ca,cb,rfl,L,hl⟩⟩
    ·exact wpS_pure ⟨e2,_,_,rfl,m⟩
    exact wpS_bind (w_sg fun st' e'=>wpS_pure ⟨e2.trans e',_,_,_,_,rfl,L,hl⟩)
 ·rintro _ _ ⟨e1,o,i,j,g,rfl,L,hl⟩
  have h3:=L.i;have h4:=L.j;omega
 ·rintro _ _ ⟨e1,o,r,rfl,m⟩
  exact wpS_pure (h _ _ m e1)
end
def hiD (a b o:Array Keyed) (i j:Nat):=a.extract 0 i++b.extract 0 j++o.reverse
def hiB (a b o:Array Keyed) (i j:Nat):=b.extract 0 j++a.extract 0 i++o.reverse
abbrev Sj:=Option (Array Keyed) × Nat × Nat × Array Keyed × Nat
abbrev Sk:=Option (Array Keyed) × Nat × Nat × Array Keyed × Nat × Nat
abbrev Sl:=Option (Array Keyed) × Nat × Nat × Array Keyed × Nat × Nat × Nat
def hiG3 (a b o:Array Keyed) (i j g ca cb:Nat):S (ForInStep Sl):=do
 let z <- elem' a (i - 1)
 if i - 1 == 0 then pure (.done (some (hiD a b (o.push z) (i - 1) j),i - 1,j,o.push z,g,ca,cb)) else
 if ca < 7 && cb < 7 then pure (.done (none,i - 1,j,o.push z,g,ca,cb)) else pure (.yield (none,i - 1,j,o.push z,g,ca,cb))
def hiG2 (a b o:Array Keyed) (i j g ca cb:Nat):S (ForInStep Sl):=do
 let y <- elem' b (j - 1)
 if j - 1 == 1 then pure (.done (some (hiB a b (o.push y) i (j - 1)),i,j - 1,o.push y,g,ca,cb)) else do
 let z <- elem' a (i - 1)
 match <- gal true z b 0 (j - 1) (j - 1 - 1) with
 | some k =>
  if j - 1 - k > 0 then
   if k == 1 then pure (.done (some (hiB a b (o.push y++(b.extract k (j - 1)).reverse) i k),i,k,o.push y++(b.extract k (j - 1)).reverse,g,ca,j - 1 - k)) else
   if k == 0 then pure (.done (some (hiD a b (o.push y++(b.extract k (j - 1)).reverse) i k),i,k,o.push y++(b.extract k (j - 1)).reverse,g,ca,j - 1 - k)) else
   hiG3 a b (o.push y++(b.extract k (j - 1)).reverse) i k g ca (j - 1 - k)
  else hiG3 a b (o.push y) i (j - 1) g ca (j - 1 - k)
 | _=>pure (.done (some (hiD a b (o.push y) i (j - 1)),i,j - 1,o.push y,g,ca,cb))
def hiG1 (a b o:Array Keyed) (i j g ca cb:Nat):S (ForInStep Sl):=do
 sGal g
 let y <- elem' b (j - 1)
 match <- gal false y a 0 i (i - 1) with
 | some k =>
  if i - k > 0 then
   if k == 0 then pure (.done (some (hiD a b (o++(a.extract k i).reverse) k j),k,j,o++(a.extract k i).reverse,g,i - k,cb)) else
   hiG2 a b (o++(a.extract k i).reverse) k j g (i - k) cb
  else hiG2 a b o i j g (i - k) cb
 | _=>pure (.done (some (hiD a b o i j),i,j,o,g,ca,cb))
def hiI (a b o:Array Keyed) (i j ca cb g:Nat):S (ForInStep Sk):=do
 let y <- elem' b (j - 1)
 let z <- elem' a (i - 1)
 match <- lt' y z with
 | some c =>
  if c then do
   let z <- elem' a (i - 1)
   if i - 1 == 0 then pure (.done (some (hiD a b (o.push z) (i - 1) j),i - 1,j,o.push z,ca+1,0)) else
   if ca+1 ≥ g then pure (.done (none,i - 1,j,o.push z,ca+1,0)) else pure (.yield (none,i - 1,j,o.push z,ca+1,0))
  else do
   let y <- elem' b (j - 1)
   if j - 1 == 1 then pure (.done (some (hiB a b (o.push y) i (j - 1)),i,j - 1,o.push y,0,cb+1)) else
   if cb+1 ≥ g then pure (.done (none,i,j - 1,o.push y,0,cb+1)) else pure (.yield (none,i,j - 1,o.push y,0,cb+1))
 | _=>pure (.done (some (hiD a b o i j),i,j,o,ca,cb))
theorem vn6 (a b:Array Keyed):mHi a b=(do
 rule "list.sort.merge-hi"
 let y <- elem' a (a.size - 1)
 if a.size - 1 == 0 then pure (hiD a b #[y] (a.size - 1) b.size) else
 if b.size == 1 then pure (hiB a b #[y] (a.size - 1) b.size) else do
 let g:=gallopOf (<- get)
 let c:Sj <- forIn [0:a.size+b.size] ((none,a.size - 1,b.size,#[y],g):Sj) fun _ (c:Sj)=>do
  let d:Sk <- forIn [0:a.size+b.size] ((none,c.2.1,c.2.2.1,c.2.2.2.1,0,0):Sk) fun _ (d:Sk)=>hiI a b d.2.2.2.1 d.2.1 d.2.2.1 d.2.2.2.2.1 d.2.2.2.2.2 c.2.2.2.2
  match d.1 with
  | some r=>pure (.done ((some r,d.2.1,d.2.2.1,d.2.2.2.1,c.2.2.2.2):Sj))
  | none=>do
   rule "list.sort.gallop"
   let e:Sl <- forIn [0:a.size+b.size] ((none,d.2.1,d.2.2.1,d.2.2.2.1,c.2.2.2.2+1,d.2.2.2.2.1,d.2.2.2.2.2):Sl) fun _ (e:Sl) =>
    if e.2.2.2.2.1 > 1 then hiG1 a b e.2.2.2.1 e.2.1 e.2.2.1 (e.2.2.2.2.1 - 1) e.2.2.2.2.2.1 e.2.2.2.2.2.2 else hiG1 a b e.2.2.2.1 e.2.1 e.2.2.1 e.2.2.2.2.1 e.2.2.2.2.2.1 e.2.2.2.2.2.2
   match e.1 with
   | some r=>pure (.done ((some r,e.2.1,e.2.2.1,e.2.2.2.1,e.2.2.2.2.1):Sj))
   | none=>do
    sGal (e.2.2.2.2.1+1)
    pure (.yield ((none,e.2.1,e.2.2.1,e.2.2.2.1,e.2.2.2.2.1+1):Sj))
 match c.1 with
 | some r=>pure r
 | none=>unsupported "internal:list.sort.merge-bound"):=by kernel_rfl
def ge (x y:Keyed):Prop:=key y<=key x
theorem Rise.wp {a:Array Keyed} (h:Rise a) (i:Nat):(a.toList.take i).reverse.Pairwise ge:=by
 rw [List.pairwise_reverse];refine List.Pairwise.sublist (List.take_sublist _ _) ?_;have:=h.pw 0
 rwa [List.drop_zero] at this
theorem u75 {a:Array Keyed} {i:Nat} {x:Keyed} (h:x ∈ (a.toList.take i).reverse):∃ j,∃ (hj:j < a.size),j < i /\ a[j]=x:=by
 obtain ⟨k,hk,e⟩:=List.mem_iff_getElem.mp (List.mem_reverse.mp h);rw [List.getElem_take] at e;simp only [List.length_take,Array.length_toList] at hk;exact ⟨k,by omega,by omega,by simpa using e⟩
theorem u73 {a:Array Keyed} {k i:Nat} (h:k<=i):(a.toList.take i).reverse=(a.extract k i).reverse.toList++(a.toList.take k).reverse:=by
 rw [Array.toList_reverse,<- List.reverse_append,Array.toList_extract,List.extract_eq_take_drop]
 congr 1
 conv=>lhs;rw [show i=k+(i - k) by omega,List.take_add]
theorem up2 {a:Array Keyed} {k i:Nat} {x:Keyed} (hk:k<=i) (h:x ∈ (a.extract k i).reverse.toList):∃ j,∃ (hj:j < a.size),k<=j /\ j < i /\ a[j]=x:=by
 have h:x ∈ (a.extract k (k+(i - k))).toList:=by simpa [show k+(i - k)=i by omega] using h
 obtain ⟨j,h1,h2,h3,h4⟩:=ug1 h;exact ⟨j,h1,h2,by omega,h4⟩
theorem uy5 {a:Array Keyed} {i:Nat}:(a.extract 0 i).toList=a.toList.take i:=by
 rw [Array.toList_extract,List.extract_eq_take_drop,List.drop_zero,Nat.sub_zero]
abbrev MH (a b o:Array Keyed) (i j:Nat):Prop:=Mg ge (a.toList++b.toList) o.toList (a.toList.take i).reverse (b.toList.take j).reverse
structure Hi (a b o:Array Keyed) (i j:Nat):Prop where
 m:MH a b o i j
 p1:1<=i
 p2:i<=a.size
 p3:2<=j
 p4:j<=b.size
theorem un7 {l:List Keyed} (h:l.Pairwise ge):l.reverse.Pairwise le:=List.pairwise_reverse.mpr h
theorem Mg.dn {a b o:Array Keyed} {i j:Nat} (P:LoP a b) (m:MH a b o i j) (h:i=0 \/ j=0):MgD a b (hiD a b o i j):=by
 unfold hiD MgD;rw [Array.toList_append,Array.toList_append,uy5,uy5,Array.toList_reverse]
 rcases h with rfl | rfl
 ·have:=Mg.right (l:=(b.toList.take j).reverse) (q:=[]) (by simpa using m) (by simpa using P.rb.wp j) (by simp)
  have h2:=un7 this.2.1;have h1:=(List.reverse_perm _).trans this.1;simp at h1 h2;exact ⟨by simpa using h1,by simpa using h2⟩
 ·have:=Mg.left (l:=(a.toList.take i).reverse) (p:=[]) (by simpa using m) (by simpa using P.ra.wp i) (by simp)
  have h2:=un7 this.2.1;have h1:=(List.reverse_perm _).trans this.1;simp at h1 h2;exact ⟨by simpa using h1,by simpa using h2⟩
theorem Mg.fst {a b o:Array Keyed} {i j:Nat} (P:LoP a b) (m:MH a b o i j) (h:j=1):MgD a b (hiB a b o i j):=by
 unfold hiB MgD;rw [Array.toList_append,Array.toList_append,uy5,uy5,Array.toList_reverse];have m1:=Mg.left (l:=(a.toList.take i).reverse) (p:=[]) (by simpa using m) (by simpa using P.ra.wp i) (by
  intro x hx y hy;obtain ⟨i1,hi,_,rfl⟩:=u75 hx;obtain ⟨j1,hj,hle,rfl⟩:=u75 hy;obtain rfl:j1=0:=by omega
  exact P.ft _ _)
 have:=Mg.right (l:=(b.toList.take j).reverse) (q:=[]) (by simpa using m1) (by simpa using P.rb.wp j) (by simp);have h2:=un7 this.2.1;have h1:=(List.reverse_perm _).trans this.1;simp at h1 h2;exact ⟨by simpa using h1,by simpa using h2⟩
theorem Mg.ha {a b o:Array Keyed} {k i j:Nat} (P:LoP a b) (m:MH a b o i j) (hj:1<=j) (hj':j<=b.size) (hk:k<=i) (h:∀ x (hx:x < a.size),k<=x->x < i->key b[j - 1]<=key a[x]):MH a b (o++(a.extract k i).reverse) k j:=by
 show Mg _ _ (o++_).toList _ _
 rw [Array.toList_append];rw [MH,u73 hk] at m;refine m.left (by rw [<- u73 hk];exact P.ra.wp i) fun x hx y hy=>?_
 obtain ⟨x',h1,h2,h3,rfl⟩:=up2 hk hx;obtain ⟨y',g1,g2,rfl⟩:=u75 hy;exact Int.le_trans (P.rb y' (j - 1) (by omega) (by omega)) (h _ h1 h2 h3)
theorem Mg.hb {a b o:Array Keyed} {k i j:Nat} (P:LoP a b) (m:MH a b o i j) (hi:1<=i) (hi':i<=a.size) (hk:k<=j) (h:∀ x (hx:x < b.size),k<=x->x < j->key a[i - 1]<=key b[x]):MH a b (o++(b.extract k j).reverse) i k:=by
 show Mg _ _ (o++_).toList _ _
 rw [Array.toList_append];rw [MH,u73 (a:=b) hk] at m;refine m.right (by rw [<- u73 hk];exact P.rb.wp j) fun x hx y hy=>?_
 obtain ⟨x',h1,h2,h3,rfl⟩:=up2 hk hx;obtain ⟨y',g1,g2,rfl⟩:=u75 hy;exact Int.le_trans (P.ra y' (i - 1) (by omega) (by omega)) (h _ h1 h2 h3)
theorem u55 {a o:Array Keyed} {i:Nat} (h:i - 1 < a.size) (h1:1<=i):o.push a[i - 1]=o++(a.extract (i - 1) i).reverse:=by
 have:=u47 (o:=o) h;rw [show i - 1+1=i by omega] at this;rw [this];apply Array.ext';have e:(a.extract (i - 1) i).toList=[a[i - 1]]:=by
  rw [Array.toList_extract,List.extract_eq_take_drop,List.drop_eq_getElem_cons (by simpa using h),show i - (i - 1)=1 by omega];simp
 rw [Array.toList_append,Array.toList_append,Array.toList_reverse,e];rfl
section
variable {prog:Program} {w:World} {A:Around} {E:Value->Shared->Prop} {s:Shared}
theorem v12 {st0 st:SortSt} {a b o:Array Keyed} {i j n g ca cb:Nat} {Q:ForInStep Sl->SortSt->Prop} (P:LoP a b) (e:Same st0 st) (L:Hi a b o i j) (hn:i+j<=n+1) (hlt:∀ x (hx:x < b.size) (hi:i - 1 < a.size),x < j->key b[x]<=key a[i - 1])
  (hd:∀ o' r st',MgD a b o'->Same st0 st'->Q (.done (some o',r)) st') (hy:∀ o i j g ca cb st',Hi a b o i j->i+j<=n->Same st0 st'->Q (.yield (none,i,j,o,g,ca,cb)) st' /\ Q (.done (none,i,j,o,g,ca,cb)) st'):wpS (model prog w) A E s (hiG3 a b o i j g ca cb) Q st:=by
 obtain ⟨m,hi,hi',hj,hj'⟩:=L;unfold hiG3;refine wpS_bind (w_el (by omega) ?_);have m:=Mg.ha (k:=i - 1) P m (by omega) hj' (by omega) (fun x hx h1 h2=>by obtain rfl:x=i - 1:=(by omega);exact hlt _ (by omega) (by omega) (by omega));rw [u55 (by omega) hi]
 by_cases h1:i - 1=0
 ·rw [if_pos (by simpa using h1)]
  exact wpS_pure (hd _ _ _ (m.dn P (.inl h1)) e)
 rw [if_neg (by simpa using h1)];have:=hy _ (i - 1) j g ca cb st ⟨m,by omega,by omega,hj,hj'⟩ (by omega) e;split
 ·exact wpS_pure this.2
 ·exact wpS_pure this.1
theorem v13 {st0 st:SortSt} {a b o:Array Keyed} {i j n g ca cb:Nat} {Q:ForInStep Sl->SortSt->Prop} (P:LoP a b) (hk:kindOf st0=oneType') (e:Same st0 st) (L:Hi a b o i j) (hn:i+j<=n+1) (hlt:∀ x (hx:x < a.size) (hj:j - 1 < b.size),x < i->key a[x]<=key b[j - 1])
  (hd:∀ o' r st',MgD a b o'->Same st0 st'->Q (.done (some o',r)) st') (hy:∀ o i j g ca cb st',Hi a b o i j->i+j<=n->Same st0 st'->Q (.yield (none,i,j,o,g,ca,cb)) st' /\ Q (.done (none,i,j,o,g,ca,cb)) st'):wpS (model prog w) A E s (hiG2 a b o i j g ca cb) Q st:=by
 obtain ⟨m,hi,hi',hj,hj'⟩:=L;unfold hiG2;refine wpS_bind (w_el (by omega) ?_);have m:=Mg.hb (k:=j - 1) P m hi hi' (by omega) (fun x hx h1 h2=>by obtain rfl:x=j - 1:=(by omega);exact hlt _ (by omega) (by omega) (by omega));rw [u55 (by omega) (by omega)]
 by_cases h1:j - 1=1
 ·rw [if_pos (by simpa using h1)]
  exact wpS_pure (hd _ _ _ (m.fst P h1) e)
 rw [if_neg (by simpa using h1)];refine wpS_bind (w_el (by omega) (wpS_bind (uj9 (e.1.trans hk) (P.ia _ (by simp)) P.ib (by omega) (by omega) (fun x y hy _ hxy _=>P.rb x y hy hxy) fun k k1 k2 k3=>?_)));dsimp only;have m2:=Mg.hb (k:=k) P m hi hi' k1 (fun x hx h1 h2=>Int.not_lt.mp (k3 x hx (by omega) (by omega)));have rest:∀ x (hx:x < b.size) (hi:i - 1 < a.size),x < k->key b[x]<=key a[i - 1]:=fun x hx hi h1=>Int.le_of_lt (k2 x hx (by omega) (by omega))
 by_cases hk0:j - 1 - k > 0
 ·rw [if_pos hk0]
  by_cases h2:k=1
  ·rw [if_pos (by simpa using h2)]
   exact wpS_pure (hd _ _ _ (m2.fst P h2) e)
  rw [if_neg (by simpa using h2)]
  by_cases h3:k=0
  ·rw [if_pos (by simpa using h3)]
   exact wpS_pure (hd _ _ _ (m2.dn P (.inr h3)) e)
  rw [if_neg (by simpa using h3)];exact v12 P e ⟨m2,hi,hi',by omega,by omega⟩ (by omega) rest hd hy
 ·rw [if_neg hk0]
  obtain rfl:k=j - 1:=by omega
  exact v12 P e ⟨m,hi,hi',by omega,by omega⟩ (by omega) rest hd hy
theorem vf5 {st0 st:SortSt} {a b o:Array Keyed} {i j n g ca cb:Nat} {Q:ForInStep Sl->SortSt->Prop} (P:LoP a b) (hk:kindOf st0=oneType') (e:Same st0 st) (L:Hi a b o i j) (hn:i+j<=n+1)
  (hd:∀ o' r st',MgD a b o'->Same st0 st'->Q (.done (some o',r)) st') (hy:∀ o i j g ca cb st',Hi a b o i j->i+j<=n->Same st0 st'->Q (.yield (none,i,j,o,g,ca,cb)) st' /\ Q (.done (none,i,j,o,g,ca,cb)) st'):wpS (model prog w) A E s (hiG1 a b o i j g ca cb) Q st:=by
 obtain ⟨m,hi,hi',hj,hj'⟩:=L;unfold hiG1;refine wpS_bind (w_sg fun st' e'=>wpS_bind (w_el (by omega) (wpS_bind (uj9 ((e.trans e').1.trans hk) (P.ib _ (by simp)) P.ia (by omega) (by omega) (fun x y hy _ hxy _=>P.ra x y hy hxy) fun k k1 k2 k3=>?_))));have e:=e.trans e';dsimp only;have m2:=Mg.ha (k:=k) P m (by omega) hj' k1 (fun x hx h1 h2=>Int.le_of_lt (Int.not_le.mp (k3 x hx (by omega) (by omega))));have rest:∀ x (hx:x < a.size) (hj:j - 1 < b.size),x < k->key a[x]<=key b[j - 1]:=fun x hx hi h1=>k2 x hx (by omega) (by omega)
 by_cases hk0:i - k > 0
 ·rw [if_pos hk0]
  by_cases h3:k=0
  ·rw [if_pos (by simpa using h3)]
   exact wpS_pure (hd _ _ _ (m2.dn P (.inl h3)) e)
  rw [if_neg (by simpa using h3)];exact v13 P hk e ⟨m2,by omega,by omega,hj,hj'⟩ (by omega) rest hd hy
 ·rw [if_neg hk0]
  obtain rfl:k=i:=by omega
  exact v13 P hk e ⟨m,hi,hi',hj,hj'⟩ hn rest hd hy
theorem vt2 {st0 st:SortSt} {a b o:Array Keyed} {i j n g ca cb:Nat} {Q:ForInStep Sk->SortSt->Prop} (P:LoP a b) (hk:kindOf st0=oneType') (e:Same st0 st) (L:Hi a b o i j) (hn:i+j<=n+1)
  (hd:∀ o' r,MgD a b o'->Q (.done (some o',r)) st) (hy:∀ o i j ca cb,Hi a b o i j->i+j<=n->Q (.yield (none,i,j,o,ca,cb)) st /\ Q (.done (none,i,j,o,ca,cb)) st):wpS (model prog w) A E s (hiI a b o i j ca cb g) Q st:=by
 obtain ⟨m,hi,hi',hj,hj'⟩:=L;unfold hiI;refine wpS_bind (w_el (by omega) (wpS_bind (w_el (by omega) (wpS_bind (w_lt (e.1.trans hk) (P.ib _ (by simp)) (P.ia _ (by simp)) ?_)))));dsimp only
 by_cases hw:key b[j - 1] < key a[i - 1]
 ·simp only [hw,decide_true,if_true]
  refine wpS_bind (w_el (by omega) ?_);have m:=Mg.ha (k:=i - 1) P m (by omega) hj' (by omega) (fun x hx h1 h2=>by obtain rfl:x=i - 1:=(by omega);exact Int.le_of_lt hw);rw [u55 (by omega) hi]
  by_cases h1:i - 1=0
  ·rw [if_pos (by simpa using h1)]
   exact wpS_pure (hd _ _ (m.dn P (.inl h1)))
  rw [if_neg (by simpa using h1)];have:=fun ca=>hy _ (i - 1) j ca 0 ⟨m,by omega,by omega,hj,hj'⟩ (by omega)
  split
  ·exact wpS_pure (this _).2
  ·exact wpS_pure (this _).1
 ·simp only [hw,decide_false,Bool.false_eq_true,if_false]
  refine wpS_bind (w_el (by omega) ?_);have m:=Mg.hb (k:=j - 1) P m hi hi' (by omega) (fun x hx h1 h2=>by obtain rfl:x=j - 1:=(by omega);exact Int.not_lt.mp hw);rw [u55 (by omega) (by omega)]
  by_cases h1:j - 1=1
  ·rw [if_pos (by simpa using h1)]
   exact wpS_pure (hd _ _ (m.fst P h1))
  rw [if_neg (by simpa using h1)];have:=fun cb=>hy _ i (j - 1) 0 cb ⟨m,hi,hi',by omega,by omega⟩ (by omega)
  split
  ·exact wpS_pure (this _).2
  ·exact wpS_pure (this _).1
theorem w_hi {st:SortSt} {a b:Array Keyed} {Q:Array Keyed->SortSt->Prop} (hk:kindOf st=oneType') (P:LoP a b)
  (h:∀ o st',MgD a b o->Same st st'->Q o st'):wpS (model prog w) A E s (mHi a b) Q st:=by
 rw [vn6];refine wpS_bind (wpS_lift (wpAny_rule ⟨rfl,?_⟩));have hna:=P.na;have hnb:=P.nb;refine wpS_bind (w_el (by omega) ?_);have m0:MH a b #[a[a.size - 1]] (a.size - 1) b.size:=by
  have m:MH a b #[] a.size b.size:=⟨by rw [List.take_of_length_le (by simp),List.take_of_length_le (by simp)];exact (List.reverse_perm _).append (List.reverse_perm _),by simp,by simp⟩;have:=Mg.ha (k:=a.size - 1) P m hnb (Nat.le_refl _) (by omega) (fun x hx h1 h2=>by obtain rfl:x=a.size - 1:=(by omega);exact P.lt _ _);rw [<- u55 (by omega) hna] at this;exact this
 have rf:Same st st:=⟨rfl,rfl,rfl,rfl⟩
 by_cases h1:a.size - 1=0
 ·rw [if_pos (by simpa using h1)]
  exact wpS_pure (h _ _ (Mg.dn P m0 (.inl h1)) rf)
 rw [if_neg (by simpa using h1)]
 by_cases h2:b.size=1
 ·rw [if_pos (by simpa using h2)]
  exact wpS_pure (h _ _ (Mg.fst P m0 h2) rf)
 rw [if_neg (by simpa using h2)];refine wpS_bind (wpS_get ?_);refine wpS_bind (wpS_mono (wpS_forRange (I:=fun x c st'=>Same st st' /\ ∃ o i j g,c=(none,i,j,o,g) /\ Hi a b o i j /\ i+j+x+1<=a.size+b.size)
  (Q:=fun c st'=>Same st st' /\ ∃ o r,c=(some o,r) /\ MgD a b o) ?_ ?_ ⟨rf,_,_,_,_,rfl,⟨m0,by omega,by omega,by omega,Nat.le_refl _⟩,by omega⟩) ?_)
 ·rintro x _ st1 - hx ⟨e1,o,i,j,g,rfl,L,hl⟩
  refine wpS_bind (wpS_mono (wpS_forRange (I:=fun y c st'=>st'=st1 /\ ∃ o i j ca cb,c=(none,i,j,o,ca,cb) /\ Hi a b o i j /\ i+j+x+y+1<=a.size+b.size)
   (Q:=fun c st'=>st'=st1 /\ ((∃ o r,c=(some o,r) /\ MgD a b o) \/ ∃ o i j ca cb,c=(none,i,j,o,ca,cb) /\ Hi a b o i j /\ i+j+x+2<=a.size+b.size)) ?_ ?_ ⟨rfl,_,_,_,_,_,rfl,L,by omega⟩) ?_)
  ·rintro y _ _ - hy ⟨rfl,o,i,j,ca,cb,rfl,L,hl⟩
   dsimp only;have h5:=L.p1;refine vt2 (n:=i+j - 1) P hk e1 L (by omega) (fun o' r m=>⟨rfl,.inl ⟨_,_,rfl,m⟩⟩) fun o i j ca cb L h=>⟨⟨rfl,_,_,_,_,_,rfl,L,by omega⟩,rfl,.inr ⟨_,_,_,_,_,rfl,L,by omega⟩⟩
  ·rintro _ _ ⟨rfl,o,i,j,ca,cb,rfl,L,hl⟩
   exact ⟨rfl,.inr ⟨_,_,_,_,_,rfl,L,by omega⟩⟩
  ·rintro _ _ ⟨rfl,⟨o,r,rfl,m⟩ | ⟨o,i,j,ca,cb,rfl,L,hl⟩⟩
   ·exact wpS_pure ⟨e1,_,_,rfl,m⟩
   refine wpS_bind (wpS_lift (wpAny_rule ⟨rfl,?_⟩));refine wpS_bind (wpS_mono (wpS_forRange (I:=fun y c st'=>Same st st' /\ ∃ o i j g ca cb,c=(none,i,j,o,g,ca,cb) /\ Hi a b o i j /\ i+j+x+2<=a.size+b.size)
    (Q:=fun c st'=>Same st st' /\ ((∃ o r,c=(some o,r) /\ MgD a b o) \/ ∃ o i j g ca cb,c=(none,i,j,o,g,ca,cb) /\ Hi a b o i j /\ i+j+x+2<=a.size+b.size)) ?_ ?_ ⟨e1,_,_,_,_,_,_,rfl,L,hl⟩) ?_)
   ·rintro y _ st2 - hy ⟨e2,o,i,j,g,ca,cb,rfl,L,hl⟩
    dsimp only;split <;> exact vf5 (n:=i+j) P hk e2 L (by omega) (fun o' r st' m e=>⟨e,.inl ⟨_,_,rfl,m⟩⟩) fun o i j g ca cb st' L h e=>⟨⟨e,_,_,_,_,_,_,rfl,L,by omega⟩,e,.inr ⟨_,_,_,_,_,_,rfl,L,by omega⟩⟩
   ·rintro _ _ ⟨e2,o,i,j,g,ca,cb,rfl,L,hl⟩
    exact ⟨e2,.inr ⟨_,_,_,_,_,_,rfl,L,hl⟩⟩
   ·rintro _ _ ⟨e2,⟨o,r,rfl,m⟩ | ⟨o,i,j,g,ca,cb,rfl,L,hl⟩⟩
    ·exact wpS_pure ⟨e2,_,_,rfl,m⟩
    exact wpS_bind (w_sg fun st' e'=>wpS_pure ⟨e2.trans e',_,_,_,_,rfl,L,by omega⟩)
 ·rintro _ _ ⟨e1,o,i,j,g,rfl,L,hl⟩
  have h3:=L.p1;have h4:=L.p3;omega
 ·rintro _ _ ⟨e1,o,r,rfl,m⟩
  exact wpS_pure (h _ _ m e1)
end
def tl (lo n m:Nat):S (Option Nat):=do
 reverseSlice' lo (lo+n)
 let c:Option (Option Nat) × Nat <- forIn [n:m] ((none,n):Option (Option Nat) × Nat) fun _ (c:Option (Option Nat) × Nat)=>do
  match <- ltAt' (lo+c.2) (lo+c.2 - 1) with
  | some e=>if e then pure (.done (none,c.2)) else pure (.yield (none,c.2+1))
  | _=>pure (.done (some none,c.2))
 match c.1 with
 | some r=>pure r
 | none=>pure (some c.2)
def ds (lo n m:Nat):S (Option Nat):=do
 rule "list.sort.descending-run"
 let c:Option (Option Nat) × Nat × Nat <- forIn [n+1:m] ((none,n+1,0):Option (Option Nat) × Nat × Nat) fun _ (c:Option (Option Nat) × Nat × Nat)=>do
  match <- ltAt' (lo+c.2.1) (lo+c.2.1 - 1) with
  | some e=>if e then (if c.2.2 > 0 then (do reverseSlice' (lo+c.2.1 - (c.2.2+1)) (lo+c.2.1);pure (.yield (none,c.2.1+1,0))) else pure (.yield (none,c.2.1+1,0))) else do
   match <- ltAt' (lo+c.2.1 - 1) (lo+c.2.1) with
   | some e=>if e then pure (.done (none,c.2.1,c.2.2)) else pure (.yield (none,c.2.1+1,c.2.2+1))
   | _=>pure (.done (some none,c.2.1,c.2.2))
  | _=>pure (.done (some none,c.2.1,c.2.2))
 match c.1 with
 | some r=>pure r
 | none=>if c.2.2 > 0 then (do reverseSlice' (lo+c.2.1 - (c.2.2+1)) (lo+c.2.1);tl lo c.2.1 m) else tl lo c.2.1 m
theorem vw4 (lo m:Nat):countRun' lo m=(do
 let c:Option (Option Nat) × Nat <- forIn [1:m] ((none,1):Option (Option Nat) × Nat) fun _ (c:Option (Option Nat) × Nat)=>do
  match <- ltAt' (lo+c.2) (lo+c.2 - 1) with
  | some e=>if e then pure (.done (none,c.2)) else pure (.yield (none,c.2+1))
  | _=>pure (.done (some none,c.2))
 match c.1 with
 | some r=>pure r
 | none=>if c.2 == m then pure (some c.2) else if c.2 > 1 then (do
   match <- ltAt' lo (lo+c.2 - 1) with
   | some e=>if e then pure (some c.2) else (do reverseSlice' lo (lo+c.2);ds lo c.2 m)
   | _=>pure none) else ds lo c.2 m):=by kernel_rfl
def Sk' (xs:Array Keyed) (lo hi:Nat):Prop:=∀ i j,lo<=i->i<=j->j < hi->K xs i<=K xs j
def Fk (xs:Array Keyed) (lo hi:Nat):Prop:=∀ i j,lo<=i->i<=j->j < hi->K xs j<=K xs i
abbrev Pd:=Array (Nat × Nat × Nat)
structure Ok (lo:Nat) (a:Array Keyed) (pd:Pd) (st:SortSt):Prop where
 kind:kindOf st=oneType'
 fl:failedOf st=none
 pd:pendingOf st=pd
 pm:(arrOf st).Perm a
 lo:∀ x,x < lo->(arrOf st)[x]?=a[x]?
theorem Ok.size {lo:Nat} {a:Array Keyed} {pd:Pd} {st:SortSt} (h:Ok lo a pd st):(arrOf st).size=a.size:=h.pm.size_eq
theorem Ok.set {lo:Nat} {a:Array Keyed} {pd:Pd} {st:SortSt} (h:Ok lo a pd st) {xs:Array Keyed} (hp:xs.Perm (arrOf st)) (hx:∀ x,x < lo->xs[x]?=(arrOf st)[x]?):Ok lo a pd (setArr st xs):=⟨h.kind,h.fl,h.pd,hp.trans h.pm,fun x hx'=>(hx x hx').trans (h.lo x hx')⟩
def AI (a:Array Keyed):Prop:=∀ x ∈ a.toList,IsI x
theorem AI.perm {a b:Array Keyed} (h:AI a) (p:b.Perm a):AI b:=fun x hx=>h x ((Array.perm_iff_toList_perm.mp p).mem_iff.mp hx)
theorem u42 {a:Array Keyed} {i:Nat} (h:i < a.size):K a i=key a[i]:=by unfold K;rw [getElem?_pos a i h];rfl
theorem Sk'.one {xs:Array Keyed} {lo:Nat}:Sk' xs lo (lo+1):=fun i j _ _ _=>by
 obtain rfl:i=j:=by omega
 exact Int.le_refl _
theorem Sk'.snoc {xs:Array Keyed} {lo x:Nat} (h:Sk' xs lo x) (hx:lo < x) (h':¬ K xs x < K xs (x - 1)):Sk' xs lo (x+1):=fun i j h1 h2 h3=>by
 by_cases hj:j=x
 ·subst hj
  by_cases hi:i=j
  ·subst hi;exact Int.le_refl _
  ·exact Int.le_trans (h i (j - 1) h1 (by omega) (by omega)) (Int.not_lt.mp h')
 ·exact h i j h1 h2 (by omega)
theorem Fk.snoc {xs:Array Keyed} {lo x:Nat} (h:Fk xs lo x) (hx:lo < x) (h':K xs x<=K xs (x - 1)):Fk xs lo (x+1):=fun i j h1 h2 h3=>by
 by_cases hj:j=x
 ·subst hj
  by_cases hi:i=j
  ·subst hi;exact Int.le_refl _
  ·exact Int.le_trans h' (h i (j - 1) h1 (by omega) (by omega))
 ·exact h i j h1 h2 (by omega)
theorem ui6 {xs:Array Keyed} {i j lo:Nat} (hj:j<=xs.size) (h:lo<=i) (x:Nat) (hx:x < lo):(mirror xs i j ((j - i) / 2))[x]?=xs[x]?:=by
 rw [getElem?_mirror_all hj,if_neg (by omega)]
section
variable {prog:Program} {w:World} {A:Around} {E:Value->Shared->Prop} {s:Shared} {a:Array Keyed} {pd:Pd}
theorem w_at {lo:Nat} {st:SortSt} {i j:Nat} {Q:Option Bool->SortSt->Prop} (hB:Ok lo a pd st) (h0:AI a) (hi:i < a.size) (hj:j < a.size)
  (h:Q (some (decide (K (arrOf st) i < K (arrOf st) j))) st):wpS (model prog w) A E s (ltAt' i j) Q st:=by
 have hs:=hB.size;have h1:=h0.perm hB.pm;rw [ltAt'_eq];refine wpS_bind (wpS_get (wpS_bind (w_el (by omega) (wpS_bind (w_el (by omega) (w_lt hB.kind (h1 _ (by simp)) (h1 _ (by simp)) ?_))))))
 rwa [u42 (by omega),u42 (by omega)] at h
theorem w_rv {st:SortSt} {i j:Nat} {Q:Unit->SortSt->Prop} (h:Q () (setArr st (mirror (arrOf st) i j ((j - i) / 2)))):wpS (model prog w) A E s (reverseSlice' i j) Q st:=by
 rw [reverseSlice'_eq];exact wpS_modify h
theorem vf8 {lo:Nat} {st:SortSt} {n m:Nat} {Q:Option (Option Nat) × Nat->SortSt->Prop} (h0:AI a) (hm:lo+m<=a.size) (h1:1<=n) (hnm:n<=m) (hB:Ok lo a pd st) (hs:Sk' (arrOf st) lo (lo+n))
  (h:∀ k,n<=k->k<=m->Sk' (arrOf st) lo (lo+k)->(k=m \/ K (arrOf st) (lo+k) < K (arrOf st) (lo+k - 1))->Q (none,k) st):wpS (model prog w) A E s (forIn [n:m] ((none,n):Option (Option Nat) × Nat) fun _ (c:Option (Option Nat) × Nat)=>do
  match <- ltAt' (lo+c.2) (lo+c.2 - 1) with
  | some e=>if e then pure (.done (none,c.2)) else pure (.yield (none,c.2+1))
  | _=>pure (.done (some none,c.2))) Q st:=by
 refine wpS_forRange (I:=fun x c st'=>st'=st /\ c=(none,x) /\ Sk' (arrOf st) lo (lo+x)) ?_ ?_ ⟨rfl,rfl,hs⟩
 ·rintro x _ _ hx1 hx ⟨rfl,rfl,g⟩
  refine wpS_bind (w_at hB h0 (by dsimp only;omega) (by dsimp only;omega) ?_);dsimp only
  by_cases hl:K (arrOf ‹SortSt›) (lo+x) < K (arrOf ‹SortSt›) (lo+x - 1)
  ·simp only [hl,decide_true,if_true]
   exact wpS_pure (h x hx1 (by omega) g (.inr hl))
  ·simp only [hl,decide_false,Bool.false_eq_true,if_false]
   exact wpS_pure ⟨rfl,rfl,g.snoc (by omega) hl⟩
 ·rintro _ _ ⟨rfl,rfl,g⟩
  rw [show max n m=m by omega] at g ⊢;exact h m hnm (Nat.le_refl _) g (.inl rfl)
theorem w_tl {lo:Nat} {st:SortSt} {n m:Nat} {Q:Option Nat->SortSt->Prop} (h0:AI a) (hm:lo+m<=a.size) (h1:1<=n) (hnm:n<=m) (hB:Ok lo a pd st) (hs:Fk (arrOf st) lo (lo+n))
  (h:∀ k st',Ok lo a pd st'->1<=k->k<=m->Sk' (arrOf st') lo (lo+k)->Q (some k) st'):wpS (model prog w) A E s (tl lo n m) Q st:=by
 unfold tl;have hz:=hB.size;have hsz:lo+n<=(arrOf st).size:=by omega
 have hB':Ok lo a pd (setArr st (mirror (arrOf st) lo (lo+n) ((lo+n - lo) / 2))):=hB.set (mirror_perm _ _ _ _) (ui6 hsz (Nat.le_refl _));refine wpS_bind (w_rv (wpS_bind (vf8 h0 hm h1 hnm hB' ?_ fun k k1 k2 k3 _=>wpS_pure (h k _ hB' (by omega) k2 k3))));intro i j a1 a2 a3
 show K (mirror _ _ _ _) i<=K (mirror _ _ _ _) j
 rw [K_mirror hsz,K_mirror hsz,if_pos (by omega),if_pos (by omega)];exact hs _ _ (by omega) (by omega) (by omega)
theorem w_ds {lo:Nat} {st:SortSt} {n m:Nat} {Q:Option Nat->SortSt->Prop} (h0:AI a) (hm:lo+m<=a.size) (hnm:n+1<=m) (hB:Ok lo a pd st) (hs:Fk (arrOf st) lo (lo+n+1))
  (h:∀ k st',Ok lo a pd st'->1<=k->k<=m->Sk' (arrOf st') lo (lo+k)->Q (some k) st'):wpS (model prog w) A E s (ds lo n m) Q st:=by
 unfold ds;refine wpS_bind (wpS_lift (wpAny_rule ⟨rfl,?_⟩));refine wpS_bind (wpS_mono (wpS_forRange (I:=fun x c st'=>∃ e,c=(none,x,e) /\ Ok lo a pd st' /\ Fk (arrOf st') lo (lo+x) /\ e+1<=x /\ ∀ i,lo+x - (e+1)<=i->i < lo+x->K (arrOf st') i=K (arrOf st') (lo+x - 1))
  (Q:=fun c st'=>∃ x e,c=(none,x,e) /\ n+1<=x /\ x<=m /\ Ok lo a pd st' /\ Fk (arrOf st') lo (lo+x) /\ e+1<=x /\ ∀ i,lo+x - (e+1)<=i->i < lo+x->K (arrOf st') i=K (arrOf st') (lo+x - 1))
  ?_ ?_ ⟨0,rfl,hB,hs,by omega,fun i h1 h2=>by congr 1;omega⟩) ?_)
 ·rintro x _ st1 hx1 hx ⟨e,rfl,B,F,e1,e2⟩
  have hz:=B.size;refine wpS_bind (w_at B h0 (by dsimp only;omega) (by dsimp only;omega) ?_);dsimp only
  by_cases hl:K (arrOf st1) (lo+x) < K (arrOf st1) (lo+x - 1)
  ·simp only [hl,decide_true,if_true]
   have hsz:lo+x<=(arrOf st1).size:=by omega
   by_cases he:e > 0
   ·rw [if_pos he]
    refine wpS_bind (w_rv (wpS_pure ⟨0,rfl,B.set (mirror_perm _ _ _ _) (ui6 hsz (by omega)),fun i j a1 a2 a3=>?_,by omega,fun i a1 a2=>by congr 1;omega⟩))
    show K (mirror _ _ _ _) j<=K (mirror _ _ _ _) i
    rw [K_mirror_equal hsz e2,K_mirror_equal hsz e2];exact F.snoc (by omega) (Int.le_of_lt hl) i j a1 a2 a3
   ·rw [if_neg he]
    exact wpS_pure ⟨0,rfl,B,F.snoc (by omega) (Int.le_of_lt hl),by omega,fun i a1 a2=>by congr 1;omega⟩
  ·simp only [hl,decide_false,Bool.false_eq_true,if_false]
   refine wpS_bind (w_at B h0 (by omega) (by omega) ?_);dsimp only
   by_cases hg:K (arrOf st1) (lo+x - 1) < K (arrOf st1) (lo+x)
   ·simp only [hg,decide_true,if_true]
    exact wpS_pure ⟨x,e,rfl,hx1,by omega,B,F,e1,e2⟩
   ·simp only [hg,decide_false,Bool.false_eq_true,if_false]
    refine wpS_pure ⟨e+1,rfl,B,F.snoc (by omega) (by omega),by omega,fun i a1 a2=>?_⟩;rw [show lo+(x+1) - 1=lo+x by omega]
    by_cases hi:i=lo+x
    ·rw [hi]
    ·rw [e2 i (by omega) (by omega)];omega
 ·rintro _ _ ⟨e,rfl,B,F,e1,e2⟩
  rw [show max (n+1) m=m by omega] at *;exact ⟨m,e,rfl,hnm,Nat.le_refl _,B,F,e1,e2⟩
 ·rintro _ st1 ⟨x,e,rfl,x1,x2,B,F,e1,e2⟩
  have hz:=B.size;have hsz:lo+x<=(arrOf st1).size:=by omega
  dsimp only
  by_cases he:e > 0
  ·rw [if_pos he]
   refine wpS_bind (w_rv (w_tl h0 hm (by omega) x2 (B.set (mirror_perm _ _ _ _) (ui6 hsz (by omega))) (fun i j a1 a2 a3=>?_) h))
   show K (mirror _ _ _ _) j<=K (mirror _ _ _ _) i
   rw [K_mirror_equal hsz e2,K_mirror_equal hsz e2];exact F i j a1 a2 a3
  ·rw [if_neg he]
   exact w_tl h0 hm (by omega) x2 B F h
theorem w_cr {lo:Nat} {st:SortSt} {m:Nat} {Q:Option Nat->SortSt->Prop} (h0:AI a) (hm:lo+m<=a.size) (h1:1<=m) (hB:Ok lo a pd st)
  (h:∀ k st',Ok lo a pd st'->1<=k->k<=m->Sk' (arrOf st') lo (lo+k)->Q (some k) st'):wpS (model prog w) A E s (countRun' lo m) Q st:=by
 rw [vw4];have hz:=hB.size;refine wpS_bind (vf8 h0 hm (Nat.le_refl _) h1 hB Sk'.one fun n n1 n2 n3 n4=>?_);dsimp only
 by_cases hn:n=m
 ·rw [if_pos (by simpa using hn)]
  exact wpS_pure (h n st hB n1 n2 n3)
 rw [if_neg (by simpa using hn)];have hlt:=n4.resolve_left hn
 by_cases hg:n > 1
 ·rw [if_pos hg]
  refine wpS_bind (w_at hB h0 (by omega) (by omega) ?_);dsimp only
  by_cases hr:K (arrOf st) lo < K (arrOf st) (lo+n - 1)
  ·simp only [hr,decide_true,if_true]
   exact wpS_pure (h n st hB n1 n2 n3)
  ·simp only [hr,decide_false,Bool.false_eq_true,if_false]
   have hsz:lo+n<=(arrOf st).size:=by omega
   have al:∀ k,lo<=k->k < lo+n->K (arrOf st) k=K (arrOf st) (lo+n - 1):=fun k k1 k2=>by
    have a1:=n3 lo k (by omega) (by omega) k2;have a2:=n3 k (lo+n - 1) (by omega) (by omega) (by omega);omega
   refine wpS_bind (w_rv (w_ds h0 hm (by omega) (hB.set (mirror_perm _ _ _ _) (ui6 hsz (Nat.le_refl _))) (fun i j a1 a2 a3=>?_) h))
   show K (mirror _ _ _ _) j<=K (mirror _ _ _ _) i
   rw [K_mirror_equal hsz al,K_mirror_equal hsz al];refine Fk.snoc (fun i j b1 b2 b3=>?_) (by omega) (Int.le_of_lt hlt) i j a1 a2 a3;rw [al i b1 (by omega),al j (by omega) b3];exact Int.le_refl _
 ·rw [if_neg hg]
  obtain rfl:n=1:=by omega
  refine w_ds h0 hm (by omega) hB (Fk.snoc (fun i j b1 b2 b3=>?_) (by omega) (Int.le_of_lt hlt)) h;obtain rfl:i=j:=by omega
  exact Int.le_refl _
theorem w_bs {lo:Nat} {st:SortSt} {n k:Nat} {Q:Bool->SortSt->Prop} (h0:AI a) (hn:lo+n<=a.size) (hk:k<=n) (hk1:1<=k) (hB:Ok lo a pd st) (hs:Sk' (arrOf st) lo (lo+k))
  (h:∀ st',Ok lo a pd st'->Sk' (arrOf st') lo (lo+n)->Q true st'):wpS (model prog w) A E s (binarySort' lo n k) Q st:=by
 rw [binarySort'_eq,show max k 1=k by omega];refine wpS_bind (wpS_mono (wpS_forRange (I:=fun x c st'=>c=(none,()) /\ Ok lo a pd st' /\ Sk' (arrOf st') lo (lo+x))
  (Q:=fun c st'=>c=(none,()) /\ Ok lo a pd st' /\ Sk' (arrOf st') lo (lo+n)) ?_ ?_ ⟨rfl,hB,hs⟩) ?_)
 ·rintro x _ st1 hx1 hx ⟨rfl,B,g⟩
  have hz:=B.size;refine wpS_bind (wpS_mono (wpS_forRange (I:=fun y c st'=>st'=st1 /\ ∃ l r,c=(none,l,r) /\ l<=r /\ r<=x /\ r - l+y<=x /\ (∀ i,i < l->K (arrOf st1) (lo+i)<=K (arrOf st1) (lo+x)) /\ ∀ i,r<=i->i < x->K (arrOf st1) (lo+x) < K (arrOf st1) (lo+i))
   (Q:=fun c st'=>st'=st1 /\ ∃ l,c=(none,l,l) /\ l<=x /\ (∀ i,i < l->K (arrOf st1) (lo+i)<=K (arrOf st1) (lo+x)) /\ ∀ i,l<=i->i < x->K (arrOf st1) (lo+x) < K (arrOf st1) (lo+i))
   ?_ ?_ ⟨rfl,0,x,rfl,by omega,by omega,by omega,fun i hi=>by omega,fun i a1 a2=>by omega⟩) ?_)
  ·rintro y _ _ - hy ⟨rfl,l,r,rfl,b1,b2,b3,b4,b5⟩
   dsimp only
   by_cases hl:l ≥ r
   ·rw [if_pos hl]
    obtain rfl:l=r:=by omega
    exact wpS_pure ⟨rfl,l,rfl,b2,b4,b5⟩
   ·rw [if_neg hl]
    refine wpS_bind (w_at B h0 (by omega) (by omega) ?_)
    by_cases hq:K (arrOf ‹SortSt›) (lo+x) < K (arrOf ‹SortSt›) (lo+(l+r) / 2)
    ·simp only [hq,decide_true,if_true]
     exact wpS_pure ⟨rfl,_,_,rfl,by omega,by omega,by omega,b4,fun i c1 c2=>Int.lt_of_lt_of_le hq (g _ _ (by omega) (by omega) (by omega))⟩
    ·simp only [hq,decide_false,Bool.false_eq_true,if_false]
     exact wpS_pure ⟨rfl,_,_,rfl,by omega,by omega,by omega,fun i c1=>Int.le_trans (g (lo+i) (lo+(l+r) / 2) (by omega) (by omega) (by omega)) (Int.not_lt.mp hq),b5⟩
  ·rintro _ _ ⟨rfl,l,r,rfl,b1,b2,b3,b4,b5⟩
   obtain rfl:l=r:=by omega
   exact ⟨rfl,l,rfl,b2,b4,b5⟩
  ·rintro _ _ ⟨rfl,l,rfl,b2,b4,b5⟩
   show wpS _ _ _ _ (do moveDown' (lo+x) (lo+l);pure (ForInStep.yield (none,()))) _ _
   rw [moveDown'_eq];have hks:lo+x < (arrOf ‹SortSt›).size:=by omega
   refine wpS_bind (wpS_modify (wpS_pure ⟨rfl,B.set (bubble_perm _ _ _) (fun y hy=>?_),fun i j c1 c2 c3=>?_⟩))
   ·rw [getElem?_bubble hks _ (by omega),if_neg (by omega),if_neg (by omega)]
   show K (bubble _ _ _) i<=K (bubble _ _ _) j
   rw [K_bubble hks (by omega),K_bubble hks (by omega),show lo+x - (lo+x - (lo+l))=lo+l by omega];have b4':∀ i,lo<=i->i < lo+l->K (arrOf ‹SortSt›) i<=K (arrOf ‹SortSt›) (lo+x):=fun i d1 d2=>by have:=b4 (i - lo) (by omega);rwa [show lo+(i - lo)=i by omega] at this
   have b5':∀ i,lo+l<=i->i < lo+x->K (arrOf ‹SortSt›) (lo+x) < K (arrOf ‹SortSt›) i:=fun i d1 d2=>by have:=b5 (i - lo) (by omega) (by omega);rwa [show lo+(i - lo)=i by omega] at this
   repeat' split
   all_goals first
    | (exfalso;omega)
    | exact Int.le_refl _
    | exact b4' _ (by omega) (by omega)
    | exact Int.le_of_lt (b5' _ (by omega) (by omega))
    | exact g _ _ (by omega) (by omega) (by omega)
 ·rintro _ _ ⟨rfl,B,g⟩
  rw [show max k n=n by omega] at g;exact ⟨rfl,B,g⟩
 ·rintro _ _ ⟨rfl,B,g⟩
  exact wpS_pure (h _ B g)
end
theorem um3 (c:Nat):∀ (m:List Keyed) (n:Nat) (a:Array Keyed),c+n+m.length<=a.size->((m.zipIdx n).foldl (fun a (x:Keyed × Nat)=>a.setIfInBounds (c+x.2) x.1) a).toList=a.toList.take (c+n)++m++a.toList.drop (c+n+m.length)
 | [],n,a,h=>by simp
 | p::m,n,a,h=>by
  rw [List.zipIdx_cons,List.foldl_cons,um3 c m (n+1) _ (by simp at h ⊢;omega)];have hl:c+n < a.toList.length:=by simp at h ⊢;omega
  rw [Array.toList_setIfInBounds,List.set_eq_take_append_cons_drop,if_pos hl,show c+(n+1)=c+n+1 by omega];have h1:(a.toList.take (c+n)++[p]).length=c+n+1:=by simp at hl ⊢;omega
  have e:a.toList.take (c+n)++p::a.toList.drop (c+n+1)=(a.toList.take (c+n)++[p])++a.toList.drop (c+n+1):=by simp
  show List.take (c+n+1) (a.toList.take (c+n)++p::a.toList.drop (c+n+1))++m++List.drop (c+n+1+m.length) (a.toList.take (c+n)++p::a.toList.drop (c+n+1))=_
  rw [e,List.take_left' h1,<- List.drop_drop,List.drop_left' h1,List.drop_drop,List.length_cons,show c+n+(m.length+1)=c+n+1+m.length by omega];simp
theorem vn7 (i:Nat):mergeAt' i=(do
 let st <- get
 match (pendingOf st)[i]?,(pendingOf st)[i+1]? with
 | some (sa,na,p),some (sb,nb,_)=>do
  set (setPending st (((pendingOf st).setIfInBounds i (sa,na+nb,p)).eraseIdxIfInBounds (i+1)))
  let y <- elem' (arrOf st) sb
  match <- gal false y (arrOf st) sa na 0 with
  | some k=>if na - k == 0 then pure true else (do
    let z <- elem' (arrOf st) (sa+k+(na - k) - 1)
    match <- gal true z (arrOf st) sb nb (nb - 1) with
    | some l=>if l == 0 then pure true else (do
      let o <- if na - k<=l then mLo ((arrOf st).extract (sa+k) sb) ((arrOf st).extract sb (sb+l)) else mHi ((arrOf st).extract (sa+k) sb) ((arrOf st).extract sb (sb+l))
      modify fun t=>setArr t (o.toList.zipIdx.foldl (fun a (x:Keyed × Nat)=>a.setIfInBounds (sa+k+x.2) x.1) (arrOf t))
      return (failedOf (<- get)).isNone)
    | _=>pure false)
  | _=>pure false
 | _,_=>unsupported "internal:list.sort.pending"):=by kernel_rfl
theorem Sk'.key {a:Array Keyed} {lo hi:Nat} (h:Sk' a lo hi) (i j:Nat) (hj:j < a.size) (h1:lo<=i) (hij:i<=j) (h2:j < hi):key a[i]<=key a[j]:=by
 have:=h i j h1 hij h2
 rwa [u42 (by omega),u42 hj] at this
def Mrg (a a':Array Keyed) (lo hi:Nat):Prop:=a'.Perm a /\ (∀ x,x < lo \/ hi<=x->a'[x]?=a[x]?) /\ Sk' a' lo hi
theorem vx2 {l:List Keyed} {a:Array Keyed} {i:Nat} (h:a.toList=l) (hi:i < l.length):K a i=TS.key l[i]:=by
 subst h;rw [u42 (by simpa using hi)];simp
theorem vn4 {a:Array Keyed} {u v:Nat} (hv:v<=a.size) {x:Keyed} (h:x ∈ (a.extract u v).toList):∃ j,u<=j /\ j < v /\ TS.key x=K a j:=by
 rw [Array.toList_extract,List.extract_eq_take_drop] at h;obtain ⟨j,hj,e⟩:=List.mem_iff_getElem.mp h;simp only [List.length_take,List.length_drop,Array.length_toList] at hj;rw [List.getElem_take,List.getElem_drop] at e;refine ⟨u+j,by omega,by omega,?_⟩;rw [<- e,u42 (by omega)];simp
theorem vn3 {a a' o:Array Keyed} {sa sb k l nb:Nat} (h1:sa+k < sb) (hl:0 < l) (hln:l<=nb) (hz:sb+nb<=a.size) (s1:Sk' a sa sb) (s2:Sk' a sb (sb+nb))
  (g1:∀ x,sa<=x->x < sa+k->K a x<=K a sb) (g2:∀ x,sa+k<=x->x < sb->K a sb<=K a x) (g3:∀ x,sb<=x->x < sb+l->K a x<=K a (sb - 1)) (g4:∀ x,sb+l<=x->x < sb+nb->K a (sb - 1)<=K a x)
  (hm:MgD (a.extract (sa+k) sb) (a.extract sb (sb+l)) o) (he:a'.toList=a.toList.take (sa+k)++o.toList++a.toList.drop (sa+k+o.toList.length)):Mrg a a' sa (sb+nb):=by
 obtain ⟨m1,m2⟩:=hm;have ln:o.toList.length=sb+l - (sa+k):=by
  rw [m1.length_eq,List.length_append,Array.length_toList,Array.length_toList,Array.size_extract,Array.size_extract];omega
 have e2:sa+k+o.toList.length=sb+l:=by omega
 rw [e2] at he;have hu:(a.extract (sa+k) sb).toList++(a.extract sb (sb+l)).toList=(a.toList.drop (sa+k)).take (sb+l - (sa+k)):=by
  rw [Array.toList_extract,Array.toList_extract,List.extract_eq_take_drop,List.extract_eq_take_drop,show sb+l - (sa+k)=(sb - (sa+k))+l by omega,List.take_add,List.drop_drop,show sa+k+(sb - (sa+k))=sb by omega,show sb+l - sb=l by omega]
 have hp:a'.Perm a:=by
  rw [Array.perm_iff_toList_perm,he];have:a.toList=a.toList.take (sa+k)++(a.toList.drop (sa+k)).take (sb+l - (sa+k))++a.toList.drop (sb+l):=by
   rw [List.append_assoc]
   conv=>lhs;rw [<- List.take_append_drop (sa+k) a.toList,<- List.take_append_drop (sb+l - (sa+k)) (a.toList.drop (sa+k)),List.drop_drop,show sa+k+(sb+l - (sa+k))=sb+l by omega]
  conv=>rhs;rw [this]
  rw [<- hu];exact (m1.append_left _).append_right _
 have t1:(a.toList.take (sa+k)).length=sa+k:=by rw [List.length_take,Array.length_toList];omega
 have out:∀ x,x < sa+k \/ sb+l<=x->a'[x]?=a[x]?:=by
  intro x hx;rw [<- Array.getElem?_toList,<- Array.getElem?_toList,he]
  rcases hx with hx | hx
  ·rw [List.append_assoc,List.getElem?_append_left (by omega),List.getElem?_take_of_lt hx]
  ·rw [List.getElem?_append_right (by rw [List.length_append];omega),List.getElem?_drop,List.length_append,t1,ln]
   congr 1;omega
 have inn:∀ x,sa+k<=x->x < sb+l->∃ hx:x - (sa+k) < o.toList.length,K a' x=TS.key o.toList[x - (sa+k)]:=by
  intro x h1 h2;have hlen:x < (a.toList.take (sa+k)++o.toList++a.toList.drop (sb+l)).length:=by rw [List.length_append,List.length_append];omega
  refine ⟨by omega,?_⟩;rw [vx2 he hlen]
  congr 1
  rw [List.getElem_append_left (by rw [List.length_append];omega),List.getElem_append_right (by omega)]
  congr 1
  omega
 have bd:∀ x,sa+k<=x->x < sb+l->K a sb<=K a' x /\ K a' x<=K a (sb - 1):=by
  intro x h1 h2;obtain ⟨hx,e⟩:=inn x h1 h2;rw [e];have:=m1.mem_iff.mp (List.getElem_mem hx)
  rcases List.mem_append.mp this with q | q
  ·obtain ⟨j,j1,j2,e⟩:=vn4 (by omega) q
   rw [e];exact ⟨g2 j j1 j2,s1 j (sb - 1) (by omega) (by omega) (by omega)⟩
  ·obtain ⟨j,j1,j2,e⟩:=vn4 (by omega) q
   rw [e];exact ⟨s2 sb j (by omega) j1 (by omega),g3 j j1 j2⟩
 refine ⟨hp,fun x hx=>out x (by omega),fun i j i1 ij j1=>?_⟩;have ko:∀ x,x < sa+k \/ sb+l<=x->K a' x=K a x:=fun x hx=>K_congr (out x hx)
 by_cases c1:j < sa+k
 ·rw [ko i (.inl (by omega)),ko j (.inl c1)]
  exact s1 i j i1 ij (by omega)
 by_cases c2:i < sa+k
 ·rw [ko i (.inl c2)]
  refine Int.le_trans (g1 i i1 c2) ?_
  by_cases c3:j < sb+l
  ·exact (bd j (by omega) c3).1
  ·rw [ko j (.inr (by omega))]
   exact s2 sb j (by omega) (by omega) j1
 by_cases c3:j < sb+l
 ·obtain ⟨hx,ex⟩:=inn i (by omega) (by omega)
  obtain ⟨hy,ey⟩:=inn j (by omega) c3;rw [ex,ey]
  by_cases c:i=j
  ·subst c;exact Int.le_refl _
  ·exact (List.pairwise_iff_getElem.mp m2) _ _ hx hy (by omega)
 by_cases c4:i < sb+l
 ·rw [ko j (.inr (by omega))]
  exact Int.le_trans (bd i (by omega) c4).2 (g4 j (by omega) j1)
 ·rw [ko j (.inr (by omega)),ko i (.inr (by omega))]
  exact s2 i j (by omega) ij j1
theorem Mrg.idle {a:Array Keyed} {sa sb nb:Nat} (s1:Sk' a sa sb) (s2:Sk' a sb (sb+nb)) (hs:sa < sb) (hn:0 < nb) (h:K a (sb - 1)<=K a sb):Mrg a a sa (sb+nb):=by
 refine ⟨Array.Perm.refl _,fun _ _=>rfl,fun i j i1 ij j1=>?_⟩
 by_cases c1:j < sb
 ·exact s1 i j i1 ij c1
 by_cases c2:i < sb
 ·exact Int.le_trans (s1 i (sb - 1) i1 (by omega) (by omega)) (Int.le_trans h (s2 sb j (by omega) (by omega) j1))
 ·exact s2 i j (by omega) ij j1
section
variable {prog:Program} {w:World} {A:Around} {E:Value->Shared->Prop} {s:Shared} {a:Array Keyed}
theorem vs8 {σ:Type} {st x:σ} {M:Model} {Q:PUnit->σ->Prop} (h:Q ⟨⟩ x):wpS M A E s (set x:StateT σ Sem PUnit) Q st:=by
 unfold wpS;rw [StateT.run_set];exact wpAny_pure ⟨rfl,h⟩
theorem vt0 {st:SortSt} {i sa na p nb q:Nat} {l1 l2:List (Nat × Nat × Nat)} {Q:Bool->SortSt->Prop} (hk:kindOf st=oneType') (hf:failedOf st=none) (h0:AI (arrOf st))
  (hp:pendingOf st=(l1++(sa,na,p)::(sa+na,nb,q)::l2).toArray) (hi:l1.length=i) (n1:1<=na) (n2:1<=nb) (hz:sa+na+nb<=(arrOf st).size) (s1:Sk' (arrOf st) sa (sa+na)) (s2:Sk' (arrOf st) (sa+na) (sa+na+nb))
  (h:∀ st',kindOf st'=oneType'->failedOf st'=none->pendingOf st'=(l1++(sa,na+nb,p)::l2).toArray->Mrg (arrOf st) (arrOf st') sa (sa+na+nb)->Q true st'):wpS (model prog w) A E s (mergeAt' i) Q st:=by
 rw [vn7];refine wpS_bind (wpS_get ?_);have e1:(pendingOf st)[i]?=some (sa,na,p):=by rw [hp,<- hi];simp
 have e2:(pendingOf st)[i+1]?=some (sa+na,nb,q):=by rw [hp,<- hi];simp
 have e3:((pendingOf st).setIfInBounds i (sa,na+nb,p)).eraseIdxIfInBounds (i+1)=(l1++(sa,na+nb,p)::l2).toArray:=by
  rw [hp,<- hi];apply Array.ext';simp [Array.eraseIdxIfInBounds,List.eraseIdx_append_of_length_le]
 rw [e1,e2];dsimp only;rw [e3];refine wpS_bind (vs8 ?_);generalize hs1:setPending st (l1++(sa,na+nb,p)::l2).toArray=st1;have k1:kindOf st1=oneType':=by rw [<- hs1];exact hk
 have f1:failedOf st1=none:=by rw [<- hs1];exact hf
 have p1:pendingOf st1=(l1++(sa,na+nb,p)::l2).toArray:=by rw [<- hs1]
 have a1:arrOf st1=arrOf st:=by rw [<- hs1]
 generalize arrOf st=a at *;refine wpS_bind (w_el (by omega) (wpS_bind (uj9 k1 (h0 _ (by simp)) h0 (by omega) (by omega) s1.key fun k k2 k3 k4=>?_)));dsimp only;have g1:∀ x,sa<=x->x < sa+k->K a x<=K a (sa+na):=fun x x1 x2=>by rw [u42 (by omega),u42 (by omega)];exact k3 x (by omega) x1 x2
 have g2:∀ x,sa+k<=x->x < sa+na->K a (sa+na)<=K a x:=fun x x1 x2=>by rw [u42 (by omega),u42 (by omega)];exact Int.le_of_lt (Int.not_le.mp (k4 x (by omega) x1 x2))
 by_cases c1:na - k=0
 ·rw [if_pos (by simpa using c1)]
  refine wpS_pure (h _ k1 f1 p1 ?_);rw [a1];exact Mrg.idle s1 s2 (by omega) (by omega) (g1 _ (by omega) (by omega))
 rw [if_neg (by simpa using c1)];have e4:sa+k+(na - k) - 1=sa+na - 1:=by omega
 rw [e4];refine wpS_bind (w_el (by omega) (wpS_bind (uj9 k1 (h0 _ (by simp)) h0 (by omega) (by omega) s2.key fun l l2 l3 l4=>?_)));dsimp only;have g3:∀ x,sa+na<=x->x < sa+na+l->K a x<=K a (sa+na - 1):=fun x x1 x2=>by rw [u42 (by omega),u42 (by omega)];exact Int.le_of_lt (l3 x (by omega) x1 x2)
 have g4:∀ x,sa+na+l<=x->x < sa+na+nb->K a (sa+na - 1)<=K a x:=fun x x1 x2=>by rw [u42 (by omega),u42 (by omega)];exact Int.not_lt.mp (l4 x (by omega) x1 x2)
 by_cases c2:l=0
 ·rw [if_pos (by simpa using c2)]
  refine wpS_pure (h _ k1 f1 p1 ?_);rw [a1];exact Mrg.idle s1 s2 (by omega) (by omega) (g4 _ (by omega) (by omega))
 rw [if_neg (by simpa using c2)];have z1:(a.extract (sa+k) (sa+na)).size=na - k:=by rw [Array.size_extract];omega
 have z2:(a.extract (sa+na) (sa+na+l)).size=l:=by rw [Array.size_extract];omega
 have P:LoP (a.extract (sa+k) (sa+na)) (a.extract (sa+na) (sa+na+l)):=by
  refine ⟨fun x y hy hxy=>?_,fun x y hy hxy=>?_,fun x hx=>?_,fun x hx=>?_,by omega,by omega,fun x hx=>?_,fun x hx=>?_⟩
  ·rw [Array.getElem_extract,Array.getElem_extract]
   exact s1.key _ _ _ (by omega) (by omega) (by omega)
  ·rw [Array.getElem_extract,Array.getElem_extract]
   exact s2.key _ _ _ (by omega) (by omega) (by omega)
  ·obtain ⟨j,j1,rfl⟩:=Array.mem_extract_iff_getElem.mp (Array.mem_toList_iff.mp hx)
   exact h0 _ (by simp)
  ·obtain ⟨j,j1,rfl⟩:=Array.mem_extract_iff_getElem.mp (Array.mem_toList_iff.mp hx)
   exact h0 _ (by simp)
  ·rw [Array.getElem_extract,Array.getElem_extract]
   have:=g3 (sa+na+x) (by omega) (by omega);rw [u42 (by omega),u42 (by omega)] at this;simpa only [z1,show sa+k+(na - k - 1)=sa+na - 1 by omega] using this
  ·rw [Array.getElem_extract,Array.getElem_extract]
   have:=g2 (sa+k+x) (by omega) (by omega);rw [u42 (by omega),u42 (by omega)] at this;simpa only [Nat.add_zero] using this
 have fin:∀ (o:Array Keyed) (st2:SortSt),MgD (a.extract (sa+k) (sa+na)) (a.extract (sa+na) (sa+na+l)) o->Same st1 st2->wpS (model prog w) A E s (do
   modify fun t=>setArr t (o.toList.zipIdx.foldl (fun a (x:Keyed × Nat)=>a.setIfInBounds (sa+k+x.2) x.1) (arrOf t))
   return (failedOf (<- get)).isNone:S Bool) Q st2:=by
  intro o st2 m e;refine wpS_bind (wpS_modify (wpS_bind (wpS_get (wpS_pure ?_))));have lo:o.toList.length=na - k+l:=by rw [m.1.length_eq,List.length_append,Array.length_toList,Array.length_toList,z1,z2]
  show Q (failedOf st2).isNone _
  rw [e.2.2.2.trans f1];refine h _ (e.1.trans k1) (e.2.2.2.trans f1) (e.2.2.1.trans p1) ?_
  show Mrg a (o.toList.zipIdx.foldl _ (arrOf st2)) _ _
  rw [e.2.1.trans a1];refine vn3 (k:=k) (l:=l) (by omega) (by omega) l2 (by omega) s1 s2 g1 g2 g3 g4 m ?_;have:=um3 (sa+k) o.toList 0 a (by omega)
  rwa [Nat.add_zero] at this
 split
 ·exact wpS_bind (w_lo k1 P fin)
 ·exact wpS_bind (w_hi k1 P fin)
end
abbrev So2:=Option Unit × Nat
abbrev Su:=Option Unit × Unit
def psh (lo n:Nat):S (ForInStep So2):=do
 modify fun s=>setPending s ((pendingOf s).push (lo,n,0))
 pure (.yield (none,lo+n))
def clI (pw:Nat):S (ForInStep Su):=do
 let p:=pendingOf (<- get)
 match if p.size > 1 then p[p.size - 2]? else none with
 | some (_,_,ol)=>if ol<=pw then pure (.done (none,())) else (do
   let b <- mergeAt' (p.size - 2)
   if !b then pure (.done (some (),())) else pure (.yield (none,())))
 | _=>pure (.done (none,()))
def cll (z lo n:Nat):S (ForInStep So2):=do
 match (pendingOf (<- get)).back? with
 | some (s1,n1,_)=>do
  let c:Su <- forIn [0:z] ((none,()):Su) fun _ (_:Su)=>clI (power' z (2 * s1+n1) (2 * s1+n1+n1+n) z)
  match c.1 with
  | some r=>pure (.done (some r,lo))
  | none=>do
   modify fun s=>setPending s ((pendingOf s).modify ((pendingOf s).size - 1) fun (st,len,_)=>(st,len,power' z (2 * s1+n1) (2 * s1+n1+n1+n) z))
   psh lo n
 | _=>psh lo n
def rnI (z mr lo:Nat):S (ForInStep So2) :=
 if lo ≥ z then pure (.done (none,lo)) else do
 match <- countRun' lo (z - lo) with
 | some n=>if n < mr then (do
   rule "list.sort.binary-insertion"
   let b <- binarySort' lo (min (z - lo) mr) n
   if !b then pure (.done (some (),lo)) else cll z lo (min (z - lo) mr)) else cll z lo n
 | _=>pure (.done (some (),lo))
def fcI:S (ForInStep Su):=do
 let p:=pendingOf (<- get)
 if p.size<=1 then pure (.done (none,())) else do
 let b <- mergeAt' (if (if p.size - 2 > 0 then p[p.size - 2 - 1]?.map (·.2.1) else none).any (· < (p[p.size - 2+1]?.elim 0 (·.2.1))) then p.size - 2 - 1 else p.size - 2)
 if !b then pure (.done (some (),())) else pure (.yield (none,()))
theorem vt7:sortRuns'=(do
 let z:=(arrOf (<- get)).size
 let c:So2 <- forIn [0:z] ((none,0):So2) fun _ (c:So2)=>rnI z (minRun' z z 0) c.2
 match c.1 with
 | some r=>pure r
 | none=>do
  let c:Su <- forIn [0:z] ((none,()):Su) fun _ (_:Su)=>fcI
  match c.1 with
  | some r=>pure r
  | none=>pure ()):=by kernel_rfl
def fst2 (r:Nat × Nat × Nat):Nat × Nat:=(r.1,r.2.1)
def Rs:List (Nat × Nat)->Nat->Nat->Prop
 | [],u,v=>u=v
 | r::l,u,v=>r.1=u /\ 1<=r.2 /\ Rs l (u+r.2) v
theorem Rs.app {m:List (Nat × Nat)}:∀ {l:List (Nat × Nat)} {u v:Nat},Rs (l++m) u v ↔ ∃ w,Rs l u w /\ Rs m w v
 | [],u,v=>by simp [Rs]
 | r::l,u,v=>by
  simp only [List.cons_append,Rs,Rs.app (l:=l)];exact ⟨fun ⟨h1,h2,w,h3,h4⟩=>⟨w,⟨h1,h2,h3⟩,h4⟩,fun ⟨w,⟨h1,h2,h3⟩,h4⟩=>⟨h1,h2,w,h3,h4⟩⟩
theorem Rs.len:∀ {l:List (Nat × Nat)} {u v:Nat},Rs l u v->u+l.length<=v
 | [],u,v,h=>by have h:u=v:=h;simp [h]
 | r::l,u,v,h=>by have:=Rs.len h.2.2;have:=h.2.1;simp;omega
theorem Rs.mem:∀ {l:List (Nat × Nat)} {u v:Nat},Rs l u v->∀ r ∈ l,u<=r.1 /\ r.1+r.2<=v
 | r::l,u,v,h,x,hx=>by
  have:=Rs.len h.2.2
  rcases List.mem_cons.mp hx with rfl | hx
  ·have:=h.1;omega
  ·have:=Rs.mem h.2.2 x hx;omega
structure RI (a:Array Keyed) (lo:Nat) (st:SortSt):Prop where
 kind:kindOf st=oneType'
 fl:failedOf st=none
 pm:(arrOf st).Perm a
 rs:Rs ((pendingOf st).toList.map fst2) 0 lo
 so:∀ r ∈ (pendingOf st).toList.map fst2,Sk' (arrOf st) r.1 (r.1+r.2)
 le:lo<=a.size
theorem Sk'.cg {a b:Array Keyed} {u v:Nat} (h:Sk' a u v) (e:∀ x,u<=x->x < v->b[x]?=a[x]?):Sk' b u v:=fun i j h1 h2 h3=>by
 rw [K_congr (e i h1 (by omega)),K_congr (e j (by omega) h3)];exact h i j h1 h2 h3
theorem RI.psz {a:Array Keyed} {lo:Nat} {st:SortSt} (h:RI a lo st):(pendingOf st).size<=lo:=by
 have:=h.rs.len;simpa using this
section
variable {prog:Program} {w:World} {A:Around} {E:Value->Shared->Prop} {s:Shared} {a:Array Keyed}
theorem w_mI {lo i:Nat} {st:SortSt} {Q:Bool->SortSt->Prop} (h0:AI a) (R:RI a lo st) (hi:i+1 < (pendingOf st).size) (h:∀ st',RI a lo st'->(pendingOf st').size+1=(pendingOf st).size->(∀ x,lo<=x->(arrOf st')[x]?=(arrOf st)[x]?)->Q true st'):wpS (model prog w) A E s (mergeAt' i) Q st:=by
 obtain ⟨l1,x,y,l2,e,hl⟩:∃ l1 x y l2,(pendingOf st).toList=l1++x::y::l2 /\ l1.length=i:=by
  have hi':i+1 < (pendingOf st).toList.length:=by simpa using hi
  refine ⟨(pendingOf st).toList.take i,(pendingOf st).toList[i],(pendingOf st).toList[i+1],(pendingOf st).toList.drop (i+1+1),?_,by rw [List.length_take];omega⟩;rw [<- List.drop_eq_getElem_cons hi',<- List.drop_eq_getElem_cons (by omega),List.take_append_drop]
 obtain ⟨x1,x2,x3⟩:=x;obtain ⟨y1,y2,y3⟩:=y;have rs:=R.rs;have so:=R.so;rw [e] at rs so;simp only [List.map_append,List.map_cons,fst2] at rs so;obtain ⟨u,r1,rfl,r2,hy,r3,r4⟩:=Rs.app.mp rs;simp only at hy r2 r3 r4 so;subst hy;have hle:=r4.len;have hz:=R.pm.size_eq;have hlo:=R.le;refine vt0 (l1:=l1) (l2:=l2) (nb:=y2) R.kind R.fl (h0.perm R.pm) (by rw [<- e]) hl r2 r3 (by omega) (so (x1,x2) (by simp)) (so (x1+x2,y2) (by simp)) fun st' k f p m=>?_
 have e':(pendingOf st').toList.map fst2=l1.map fst2++(x1,x2+y2)::l2.map fst2:=by rw [p];simp [fst2]
 have l1':=fun r hr=>r1.mem r hr
 have l2':=fun r hr=>r4.mem r hr
 refine h st' ⟨k,f,m.1.trans R.pm,?_,?_,hlo⟩ ?_ fun x hx=>m.2.1 x (.inr (by omega))
 ·rw [e']
  exact Rs.app.mpr ⟨_,r1,rfl,by simp only;omega,by simpa only [Nat.add_assoc] using r4⟩
 ·rw [e']
  intro r hr
  rcases List.mem_append.mp hr with hr | hr
  ·exact (so r (by simp only [List.mem_append];exact .inl hr)).cg fun x h1 h2=>m.2.1 x (.inl (by have:=l1' r hr;omega))
  ·rcases List.mem_cons.mp hr with rfl | hr
   ·simpa only [Nat.add_assoc] using m.2.2
   ·exact (so r (by simp only [List.mem_append,List.mem_cons];exact .inr (.inr (.inr hr)))).cg fun x h1 h2=>m.2.1 x (.inr (by have:=l2' r hr;omega))
 ·have z1:(pendingOf st').size=(l1++(x1,x2+y2,x3)::l2).length:=by rw [p];simp
  have z2:(pendingOf st).size=(l1++(x1,x2,x3)::(x1+x2,y2,y3)::l2).length:=by rw [<- Array.length_toList,e]
  rw [z1,z2];simp;omega
theorem vf3 {lo n:Nat} {st:SortSt} {Q:ForInStep So2->SortSt->Prop} (R:RI a lo st) (hn:1<=n) (hz:lo+n<=a.size) (hs:Sk' (arrOf st) lo (lo+n)) (h:∀ st',RI a (lo+n) st'->Q (.yield (none,lo+n)) st'):wpS (model prog w) A E s (psh lo n) Q st:=by
 unfold psh;have e:(((pendingOf st).push (lo,n,0)).toList.map fst2)=(pendingOf st).toList.map fst2++[(lo,n)]:=by simp [fst2]
 refine wpS_bind (wpS_modify (wpS_pure (h _ ⟨R.kind,R.fl,R.pm,?_,?_,hz⟩)))
 ·show Rs (((pendingOf st).push (lo,n,0)).toList.map fst2) _ _
  rw [e];exact Rs.app.mpr ⟨_,R.rs,rfl,hn,rfl⟩
 ·show ∀ r ∈ ((pendingOf st).push (lo,n,0)).toList.map fst2,Sk' (arrOf st) _ _
  rw [e];intro r hr
  rcases List.mem_append.mp hr with hr | hr
  ·exact R.so r hr
  ·rw [List.mem_singleton.mp hr]
   exact hs
theorem v29 (g:Nat × Nat × Nat->Nat × Nat × Nat) (hg:∀ x,fst2 (g x)=fst2 x):∀ (l:List (Nat × Nat × Nat)) (i:Nat),(l.modify i g).map fst2=l.map fst2
 | [],i=>by simp
 | x::l,0=>by simp [hg]
 | x::l,i+1=>by simp [v29 g hg l i]
theorem vf7 {z lo n:Nat} {st:SortSt} {Q:ForInStep So2->SortSt->Prop} (h0:AI a) (R:RI a lo st) (hn:1<=n) (hz:lo+n<=a.size) (hs:Sk' (arrOf st) lo (lo+n)) (h:∀ st',RI a (lo+n) st'->Q (.yield (none,lo+n)) st'):wpS (model prog w) A E s (cll z lo n) Q st:=by
 unfold cll;refine wpS_bind (wpS_get ?_);split
 ·rename_i s1 n1 _ _
  refine wpS_bind (wpS_mono (wpS_forRange (I:=fun _ c st'=>c=(none,()) /\ RI a lo st' /\ Sk' (arrOf st') lo (lo+n)) (Q:=fun c st'=>c=(none,()) /\ RI a lo st' /\ Sk' (arrOf st') lo (lo+n)) ?_ (fun _ _ h=>h) ⟨rfl,R,hs⟩) ?_)
  ·rintro x _ st1 - hx ⟨rfl,R,hs⟩
   unfold clI;refine wpS_bind (wpS_get ?_);dsimp only;split
   ·rename_i ol heq
    split
    ·exact wpS_pure ⟨rfl,R,hs⟩
    ·have hsz:(pendingOf st1).size > 1:=by
      by_cases hc:(pendingOf st1).size > 1
      ·exact hc
      ·rw [if_neg hc] at heq;cases heq
     refine wpS_bind (w_mI h0 R (by omega) fun st' R' _ hx'=>?_);exact wpS_pure ⟨rfl,R',hs.cg fun x h1 _=>hx' x h1⟩
   ·exact wpS_pure ⟨rfl,R,hs⟩
  ·rintro _ st1 ⟨rfl,R,hs⟩
   refine wpS_bind (wpS_modify ?_);have e:=v29 (fun (x:Nat × Nat × Nat)=>(x.1,x.2.1,power' z (2 * s1+n1) (2 * s1+n1+n1+n) z)) (fun _=>rfl) (pendingOf st1).toList ((pendingOf st1).size - 1);refine vf3 ⟨R.kind,R.fl,R.pm,?_,?_,R.le⟩ hn hz hs h
   ·show Rs (((pendingOf st1).modify _ _).toList.map fst2) _ _
    rw [Array.toList_modify];exact e ▸ R.rs
   ·show ∀ r ∈ ((pendingOf st1).modify _ _).toList.map fst2,Sk' (arrOf st1) _ _
    rw [Array.toList_modify];exact e ▸ R.so
 ·exact vf3 R hn hz hs h
theorem vs9 {mr lo:Nat} {st:SortSt} {Q:ForInStep So2->SortSt->Prop} (h0:AI a) (hm:1<=mr) (R:RI a lo st) (hd:a.size<=lo->Q (.done (none,lo)) st) (hy:∀ lo' st',RI a lo' st'->lo < lo'->Q (.yield (none,lo')) st'):wpS (model prog w) A E s (rnI a.size mr lo) Q st:=by
 unfold rnI;have hlo:=R.le
 by_cases hg:lo ≥ a.size
 ·rw [if_pos hg]
  exact wpS_pure (hd hg)
 rw [if_neg hg];have hz:=R.pm.size_eq;refine wpS_bind (w_cr (a:=arrOf st) (pd:=pendingOf st) (h0.perm R.pm) (by omega) (by omega) ⟨R.kind,R.fl,rfl,Array.Perm.refl _,fun _ _=>rfl⟩ fun n st' B n1 n2 n3=>?_);have kp:∀ st',Ok lo (arrOf st) (pendingOf st) st'->RI a lo st':=fun st' B=>by
  refine ⟨B.kind,B.fl,B.pm.trans R.pm,by rw [B.pd];exact R.rs,?_,hlo⟩;rw [B.pd];intro r hr;have:=R.rs.mem r hr;exact (R.so r hr).cg fun x _ h2=>B.lo x (by omega)
 dsimp only
 by_cases hc:n < mr
 ·rw [if_pos hc]
  refine wpS_bind (wpS_lift (wpAny_rule ⟨rfl,?_⟩));refine wpS_bind (w_bs (a:=arrOf st) (pd:=pendingOf st) (h0.perm R.pm) (by omega) (by omega) n1 B n3 fun st2 B2 g=>?_);exact vf7 h0 (kp _ B2) (by omega) (by omega) g fun st3 R3=>hy _ _ R3 (by omega)
 ·rw [if_neg hc]
  exact vf7 h0 (kp _ B) n1 (by omega) n3 fun st3 R3=>hy _ _ R3 (by omega)
theorem v28:∀ (f n r:Nat),1<=n->1<=minRun' f n r
 | 0,n,r,h=>by show 1<=n+r;omega
 | f+1,n,r,h=>by
  rw [minRun'_succ];split
  ·omega
  ·exact v28 f _ _ (by omega)
theorem w_sr {st:SortSt} {Q:Unit->SortSt->Prop} (h0:AI a) (h2:2<=a.size) (hk:kindOf st=oneType') (hf:failedOf st=none) (hp:pendingOf st=#[]) (ha:arrOf st=a)
  (h:∀ st',(arrOf st').Perm a->failedOf st'=none->SortedTo (arrOf st') a.size->Q () st'):wpS (model prog w) A E s sortRuns' Q st:=by
 rw [vt7];refine wpS_bind (wpS_get ?_);rw [ha];refine wpS_bind (wpS_mono (wpS_forRange (I:=fun x c st'=>∃ lo,c=(none,lo) /\ RI a lo st' /\ x<=lo) (Q:=fun c st'=>∃ lo,c=(none,lo) /\ RI a lo st' /\ a.size<=lo) ?_ ?_ ⟨0,rfl,⟨hk,hf,by rw [ha],by rw [hp];rfl,by rw [hp];simp,by omega⟩,Nat.le_refl _⟩) ?_)
 ·rintro x _ st1 - hx ⟨lo,rfl,R,hl⟩
  exact vs9 h0 (v28 _ _ _ (by omega)) R (fun h=>⟨_,rfl,R,h⟩) fun lo' st' R' h=>⟨_,rfl,R',by omega⟩
 ·rintro _ _ ⟨lo,rfl,R,hl⟩
  exact ⟨_,rfl,R,by omega⟩
 ·rintro _ st1 ⟨lo,rfl,R,hl⟩
  have hlo:=R.le;obtain rfl:lo=a.size:=by omega
  refine wpS_bind (wpS_mono (wpS_forRange (I:=fun x c st'=>c=(none,()) /\ RI a a.size st' /\ ((pendingOf st').size+x<=a.size)) (Q:=fun c st'=>c=(none,()) /\ RI a a.size st' /\ (pendingOf st').size<=1) ?_ ?_ ⟨rfl,R,R.psz⟩) ?_)
  ·rintro x _ st2 - hx ⟨rfl,R,hl⟩
   unfold fcI;refine wpS_bind (wpS_get ?_);dsimp only
   by_cases hc:(pendingOf st2).size<=1
   ·rw [if_pos hc]
    exact wpS_pure ⟨rfl,R,hc⟩
   rw [if_neg hc];refine wpS_bind (w_mI h0 R (by split <;> split <;> omega) fun st' R' z _=>?_);exact wpS_pure ⟨rfl,R',by omega⟩
  ·rintro _ _ ⟨rfl,R,hl⟩
   exact ⟨rfl,R,by omega⟩
  ·rintro _ st2 ⟨rfl,R,hl⟩
   refine wpS_pure (h _ R.pm R.fl ?_);have rs:=R.rs;have so:=R.so;have hl':((pendingOf st2).toList.map fst2).length<=1:=by simpa using hl
   generalize (pendingOf st2).toList.map fst2=l at *
   match l,rs,so,hl' with
   | [],rs,_,_=>have rs:0=a.size:=rs;omega
   | [r],rs,so,_ =>
    obtain ⟨r1,_,r2⟩:=rs;have r2:0+r.2=a.size:=r2;have:=so r (by simp);rw [r1,r2] at this;exact fun i j hij hj=>this i j (by omega) hij hj
   | _::_::_,_,_,h=>simp at h
end
end TS
namespace L2
open PySem PySem.Spec PyProof.Rows
section
variable {prog:Program} {w:World} {A:Around} {E:Value->Shared->Prop} {s:Shared}
theorem uj7 {a:Addr} {vs:List Value} {ns:List Int} {n:Nat} {P:Fin->Shared->Prop} (ho:s.heap.get? a=some (seqObj "list" vs.toArray n)) (hI:IntsAre vs ns) (hz:vs.length<=sizeLine)
  (h:∀ (out:Array Value) (ns':List Int),IntsAre out.toList ns'->ns'.Perm ns->ns'.Pairwise (·<=·)->P (.done (.ret .none)) { s with heap:=sortedHeap s.heap a vs out }) :
  wpAny (model prog w) A (Builtin.«list.sort» ⟨[.ref a],[]⟩) P E s:=by
 rw [list_sort_plain];have ha:a < s.heap.objs.size:=Heap.lt_size ho;have hzs:vs.toArray.size<=sizeLine:=by simpa using hz
 refine wpAny_bind (listItems_at ho rfl (wpAny_bind (listUpdate_at ho rfl ?_ hzs)));obtain ⟨e1,ho1⟩:∃ e1,(s.heap.update a (Obj.mapSeq fun _=>#[])).get? a=some (seqObj "list" #[] e1):=⟨_,get?_update_seq ho (fun _=>#[])⟩;refine wpAny_bind (seqEpoch_at ho1 rfl (wpAny_bind (wpAny_newTuple ?_ (by simpa using hz))));refine wpAny_bind (wpAny_newList (wpAny_holding ?_));have ho6:(((s.heap.update a (Obj.mapSeq fun _=>#[])).push (seqObj "tuple" vs.toArray 0)).push (seqObj "list" #[] 0)).get? a=some (seqObj "list" #[] e1):=by
  rw [Heap.get?_push_ne,Heap.get?_push_ne]
  ·exact ho1
  ·rw [Heap.size_update];exact Nat.ne_of_lt ha
  ·rw [size_push',Heap.size_update];exact Nat.ne_of_lt (Nat.lt_succ_of_lt ha)
 show wpAny _ A _ P E { s with heap:=((s.heap.update a (Obj.mapSeq fun _=>#[])).push (seqObj "tuple" vs.toArray 0)).push (seqObj "list" #[] 0) }
 dsimp only;have rest:∀ st':SortSt,(arrOf st').Perm (pairsOf vs)->failedOf st'=none->SortedTo (arrOf st') (pairsOf vs).size->wpAny (model prog w) A (do
   let t:=(<- seqEpoch a) != e1
   Builtin.List.listUpdate (.ref a) fun _=>(arrOf st').map (·.2)
   if let some e:=failedOf st' then rule "list.sort.comparison-raised";throw e
   if t then rule "list.sort.modified";raiseError "ValueError" "list modified during sort"
   ret .none) P E { s with heap:=((s.heap.update a (Obj.mapSeq fun _=>#[])).push (seqObj "tuple" vs.toArray 0)).push (seqObj "list" #[] 0) }:=by
  intro st' hp hf hs;have hz2:((arrOf st').map (·.2)).size<=sizeLine+1:=by rw [Array.size_map,hp.size_eq,pairsOf_size];omega
  refine wpAny_bind (seqEpoch_at ho6 rfl (wpAny_bind (listUpdate_at ho6 rfl ?_ (by simp) hz2)));rw [hf];simp only [bne_self_eq_false,Bool.false_eq_true,if_false];obtain ⟨ns',h1,h2,h3⟩:=sorted_out hI hp hs;exact wpAny_pure (h _ ns' h1 h2 h3)
 by_cases h2:vs.toArray.size < 2
 ·rw [if_pos h2,if_pos h2]
  refine wpAny_bind (wpAny_pure ?_);rw [StateT.run_pure];refine wpAny_bind (wpAny_pure (rest (SortSt.mk' general' (vs.toArray.zip vs.toArray) #[] 7 none) (Array.Perm.refl _) rfl fun i j hij hj=>?_));rw [pairsOf_size] at hj;rw [List.size_toArray] at h2;obtain rfl:i=j:=by omega
  exact Int.le_refl _
 ·rw [if_neg h2,if_neg h2]
  obtain ⟨v1,v2,r,rfl⟩:∃ v1 v2 r,vs=v1::v2::r:=by
   match vs,h2 with
   | [],h2=>simp at h2
   | [_],h2=>simp at h2
   | v1::v2::r,_=>exact ⟨v1,v2,r,rfl⟩
  rw [keyKind_ints hI];refine wpAny_bind (wpAny_pure (wpAny_bind (wpAny_mono (TS.w_sr (a:=pairsOf (v1::v2::r)) (st:=SortSt.mk' oneType' (pairsOf (v1::v2::r)) #[] 7 none)
   (Q:=fun _ st'=>(arrOf st').Perm (pairsOf (v1::v2::r)) /\ failedOf st'=none /\ SortedTo (arrOf st') (pairsOf (v1::v2::r)).size) (fun x hx=>hI.intKeys x hx) (by rw [pairsOf_size];simp) rfl rfl rfl rfl fun st' a1 a2 a3=>⟨a1,a2,a3⟩) ?_ fun _ _ e=>e)))
  rintro ⟨⟨⟩,st'⟩ s' ⟨rfl,hp,hf,hs⟩;exact rest st' hp hf hs
end
section
variable {X:Cx}
theorem ur3 {P:Program} {w:World} {ns:List Int} {vs:List (Key × Value)} (hk:vs.map (·.1)=ns.map Sum.inl) {us:List Value} (hl:us.length=vs.length) (hu:∀ (j:Nat) (v:Value),us[j]?=some v->∃ k x,vs[j]?=some (k,x) /\ (u15 P w).is k v=true):IntsAre us ns:=by
 induction ns generalizing vs us with
 | nil =>
  have:vs=[]:=by simpa using hk
  subst this;have:us=[]:=by simpa using hl
  subst this;exact .nil
 | cons n ns ih =>
  match vs,hk,us,hl with
  | (k,x)::vs,hk,u::us,hl =>
   rw [List.map_cons,List.map_cons,List.cons.injEq] at hk;obtain ⟨k',x',e,hi⟩:=hu 0 u rfl;cases e;obtain rfl:k=.inl n:=hk.1;obtain ⟨t,rfl⟩:=(show ∃ t,u=.int n t from vv6 hi);exact .cons n t (ih hk.2 (by simpa using hl) fun j v hv=>hu (j+1) v (by simpa using hv))
def SrcI (H:Hp) (K:W.Frag) (p:Addr) (ns:List Int):Prop:=SqL K H p (ns.map V.int) \/ ∃ kvs:List (Key × V),kvs.map (·.1)=ns.map Sum.inl /\ Rd H p (.dK kvs)
theorem uz3 {pins:List (Addr × Obj)} {s:Shared} {σ:St} {H:Hp} {A:Around} {p:Addr} {ns:List Int} {E:Value->Shared->Prop} {R:List Value->Shared->Prop} (hh:A.handled=none) (I:Inv X pins σ H s) (hs:SrcI H X.K p ns)
  (h:∀ (h':Heap) (tk:Nat) (us:List Value),(∀ b o,s.heap.get? b=some o->h'.get? b=some o)->IntsAre us ns->us.length<=sizeLine->R us { s with heap:=h',toks:=tk }) :
  wpAny (model X.prog X.w) A (collect (.ref p)) R E s:=by
 rcases hs with hq | ⟨kvs,hk,hd⟩
 ·obtain ⟨its,r',pl,hz⟩:=I.list hq
  have hz2:its.length<=sizeLine:=by rw [<- r'.length];exact hz
  refine collect_list pl.isList (h _ s.toks its (fun b o e=>?_) (intsAre_of r') hz2) hz2;rw [Heap.get?_update_ne _ _ _ _ (Nat.ne_of_lt (Heap.lt_size e))];exact Heap.get?_push_of_some _ e
 ·obtain ⟨z,hd2,vs,rel,dd⟩:=vc0 I.hok hd
  obtain ⟨o,es,ep,ho,hc,hdat,hk2,hp,hn⟩:=id dd;have hkv:=rel.keys;have hlv:=rel.length;refine W.kdu_collect (W.kdl_dict (kvs:=vs) (ep:=ep) hd2) hh ⟨o,es,ho,hc,hdat,hk2,hp,hn⟩ (by omega) fun h' tk acc hk' hacc=>?_
  have hal:acc.toList.length=vs.length:=by rw [Array.length_toList];exact hacc.1
  exact h h' tk acc.toList hk' (ur3 (P:=X.prog) (w:=X.w) (by rw [<- hkv];exact hk) hal fun j v e=>hacc.2 j v (by rw [<- Array.getElem?_toList];exact e)) (by omega)
theorem ue7 (hh:X.A.handled=none):CallR X (.builtin "sorted") (fun xs H Q=>∃ (p:Addr) (ns:List Int),xs=[.ref p] /\ SrcI H X.K p ns /\ ∀ (l:Addr) (ns':List Int),H l=none->ns'.Perm ns->ns'.Pairwise (·<=·)->Q (.ref l) (upd H l (.lst (ns'.map V.int)))):=by
 intro pins s σ H xs us Q I r h;obtain ⟨p,ns,rfl,hq,q⟩:=h;obtain ⟨u,rfl,rx⟩:=vals1 r;cases rx;refine Calls.call_function_entry kind_sorted plain_sorted entry_sorted (args_sorted1 _) ?_;unfold Builtin.«sorted»;refine wpAny_bind (m:=checkCount "sorted" 1 1 _) (wpAny_pure (wpAny_bind (uz3 (A:=X.A.in1) hh I hq fun h' tk us hk hi hz=>?_)));have I1:Inv X pins σ H { s with heap:=h',toks:=tk }:=I.kept hk
 refine wpAny_bind (wpAny_newList ?_ hz);have hoL:(h'.push (seqObj "list" us.toArray 0)).get? h'.objs.size=some (seqObj "list" us.toArray 0):=Heap.get?_push_size _ rfl
 show wpAny _ _ _ _ _ { s with heap:=h'.push (seqObj "list" us.toArray 0),toks:=tk }
 refine wpAny_bind (wpAny_holding (wpAny_call_entry slot_list_sort ⟨_,hoL,rfl⟩ entry_list_sort (uj7 hoL hi hz fun out ns' a1 a2 a3=>⟨_,rfl,?_⟩) (args_list_sort _)));obtain ⟨c,e⟩:=sortedHeap_at (out:=out) hoL;refine wpAny_pure ⟨_,rfl,.ref h'.objs.size,_,I1.laid (t':=tk) (fun b u hb=>?_) (Nat.le_refl _) (show ObjOk X.prog X.w _ _ _ (.lst (ns'.map V.int)) from ⟨by rw [List.length_map,a2.length_eq,<- hi.length];exact hz,out.toList,c,u54 a1,e⟩),rfl,q _ _ (I1.hok.fresh (Nat.le_refl _)) a2 a3⟩;have hb':=Heap.lt_size hb;rw [sortedHeap_old (Nat.ne_of_lt hb') (by rw [size_push'];exact Nat.lt_succ_of_lt hb')];exact Heap.get?_push_of_some _ hb
end
end L2
namespace L3
open PySem PySem.Spec PyProof.Rows L2
section
variable {X:Cx} {K:W.Frag} {H:Hp}
def srcI (G:Gp) (a:Addr) (ns:List Int):Prop:=u11 (G a)=some (ns.map .int) \/ ∃ kvs,kvs.map (·.1)=ns.map Sum.inl /\ (G a=some (.dic kvs) \/ G a=some (.frd kvs))
theorem rd_of {G:Gp} {a:Addr} {kvs:List (Key × D)} (c:Con K G H) (h:G a=some (.dic kvs) \/ G a=some (.frd kvs)):∃ ys,Rd H a (.dK ys) /\ RelPs K H kvs ys:=by
 rcases h with h | h
 ·obtain ⟨ys,e,rp⟩:=c a _ h
  exact ⟨ys,.inl e,rp⟩
 ·obtain ⟨o,ys,e,rp⟩:=c a _ h
  exact ⟨ys,.inr ⟨o,e⟩,rp⟩
theorem srcI.low {G:Gp} {a:Addr} {ns:List Int} (c:Con K G H) (h:srcI G a ns):SrcI H K a ns:=by
 rcases h with h | ⟨kvs,hk,h⟩
 ·obtain ⟨ys,s1,q1⟩:=u14 c h
  obtain rfl:=u43 q1;exact .inl s1
 ·obtain ⟨ys,e,rp⟩:=rd_of c h
  exact .inr ⟨ys,by rw [<- hk];exact rp.1.symm,e⟩
@[reducible] def uu4:C3:=fun ds G q=>∃ (a:Addr) (ns:List Int),ds=[.ref a] /\ srcI G a ns /\ ∀ (p:Addr) (ns':List Int),G p=none->ns'.Perm ns->ns'.Pairwise (·<=·)->q (.ref p) (gup G p (.lst (ns'.map .int)))
theorem uc5 {k:Nat} (hr:Room k X.A):Call3 X (.builtin "sorted") uu4:=u46 (ue7 hr.hd) <| by
 rintro xs H Q ⟨ds,G,q,r,c,t,f⟩;obtain ⟨a,ns,rfl,hs,t⟩:=t;obtain ⟨v,rfl,r1⟩:=r.one;cases r1.ref_inv;exact ⟨_,ns,rfl,hs.low c,fun p ns' hp h1 h2=>f _ _ _ _ RelD.refI (c.lstNew hp (ua6 ns')) (Le.fresh hp) (t p ns' (c.fresh hp) h1 h2)⟩
end
end L3
namespace L3
open PySem PySem.Spec PyProof.Rows L2 Rw
theorem ul3 {f:DSt->Gp->Prop} {σ:DSt} {G:Gp} (h:f σ G):Go f σ G:=h
def mvl (m c s:Nat):Nat->List Mv
 | 0=>[]
 | n+1=>mvl m c s n++(if mvB m c s (n+1) then [(!stn (n+1) m,n+1)] else [])
theorem uo7 {m c s:Nat}:∀ n,(mvs m c s n).map pD=(mvl m c s n).map mD
 | 0=>rfl
 | n+1=>by
  rw [mvs,mvl,List.map_append,List.map_append,uo7 n]
  congr 1
  split
  ·show [pD (mvP m (n+1))]=[pD _]
   unfold mvP mP;cases stn (n+1) m <;> rfl
  ·rfl
theorem uo9 {m c s:Nat} {p:Mv}:∀ n,p ∈ mvl m c s n ↔ (1<=p.2 /\ p.2<=n) /\ mvB m c s p.2=true /\ p.1=!stn p.2 m
 | 0=>by
  constructor
  ·intro h;cases h
  ·rintro ⟨⟨h1,h2⟩,_⟩;omega
 | n+1=>by
  rw [mvl,List.mem_append,uo9 n]
  constructor
  ·rintro (⟨⟨h1,h2⟩,h3⟩ | h)
   ·exact ⟨⟨h1,by omega⟩,h3⟩
   ·split at h
    ·rename_i hb
     rw [List.mem_singleton.mp h];exact ⟨⟨by simp,Nat.le_refl _⟩,hb,rfl⟩
    ·cases h
  ·rintro ⟨⟨h1,h2⟩,h3,h4⟩
   by_cases e:p.2=n+1
   ·right
    rw [<- e,if_pos h3,List.mem_singleton];exact Prod.ext h4 rfl
   ·exact .inl ⟨⟨h1,by omega⟩,h3,h4⟩
theorem v93 {m s n:Nat} {p:Mv}:p ∈ mvl m (pc n m) s n ↔ lgl n s m p:=by
 rw [uo9];unfold lgl mvB
 by_cases h:1<=p.2 /\ p.2<=n
 ·have e1:stn (p.2 - 1) m=true ↔ (p.2=1 \/ m.testBit (p.2 - 2)=true):=by
   unfold stn;rw [show p.2 - 1 - 1=p.2 - 2 by omega];have:p.2 - 1=0 ↔ p.2=1:=by omega
   simp [this]
  have e2:stn p.2 m=stb p.2 m:=by
   unfold stn stb;have:(p.2 == 0)=false:=by rw [beq_eq_false_iff_ne];omega
   rw [this];simp
  rw [Bool.and_eq_true,e1,e2,vk0];cases hs:stb p.2 m <;> simp [h]
  ·constructor
   ·rintro ⟨⟨a,b⟩,d⟩;exact ⟨a,d,fun _=>b⟩
   ·rintro ⟨a,d,b⟩;exact ⟨⟨a,b d⟩,d⟩
  ·intro a d z;rw [d] at z;cases z
 ·simp [h]
end L3
namespace SS
open PySem
def Up (xs:Array Nat):Prop:=xs.toList.Pairwise (· < ·)
theorem uu8 {xs:Array Nat} (h:Up xs) {i j:Nat} (hj:j < xs.size) (hij:i < j):xs[i] < xs[j]:=by
 have:=List.pairwise_iff_getElem.mp h i j (by simp;omega) (by simpa using hj) hij;simpa using this
theorem uc2 {xs:Array Nat} {j:Nat} (h:Up xs):∀ (f lo hi:Nat),lo<=hi->hi<=xs.size->hi - lo<=f->(∀ i (h0:i < xs.size),i < lo->xs[i] < j)->(∀ i (h0:i < xs.size),hi<=i->j<=xs[i]) ->
  SetTable.below.go xs j f lo hi<=xs.size /\ (∀ i (h0:i < xs.size),i < SetTable.below.go xs j f lo hi->xs[i] < j) /\ ∀ i (h0:i < xs.size),SetTable.below.go xs j f lo hi<=i->j<=xs[i]
 | 0,lo,hi,a,b,c,d,e=>by
  unfold SetTable.below.go;exact ⟨by omega,d,fun i h1 h2=>e i h1 (by omega)⟩
 | f+1,lo,hi,a,b,c,d,e=>by
  unfold SetTable.below.go
  by_cases hl:lo < hi
  ·rw [if_pos hl]
   have hm:(lo+hi) / 2 < xs.size:=by omega
   have eg:xs.getD ((lo+hi) / 2) j=xs[(lo+hi) / 2]:=by simp [Array.getD,hm]
   dsimp only;rw [eg]
   by_cases hc:xs[(lo+hi) / 2] < j
   ·rw [if_pos hc]
    refine uc2 h f _ _ (by omega) b (by omega) (fun i h1 h2=>?_) e
    by_cases z:i=(lo+hi) / 2
    ·subst z;exact hc
    ·exact Nat.lt_trans (uu8 h hm (by omega)) hc
   ·rw [if_neg hc]
    refine uc2 h f _ _ (by omega) (by omega) (by omega) d fun i h1 h2=>?_
    by_cases z:i=(lo+hi) / 2
    ·subst z;omega
    ·have:=uu8 h h1 (show (lo+hi) / 2 < i by omega)
     omega
  ·rw [if_neg hl]
   exact ⟨by omega,d,fun i h1 h2=>e i h1 (by omega)⟩
theorem uc1 {xs:Array Nat} {j:Nat} (h:Up xs):SetTable.below xs j<=xs.size /\ (∀ i (hi:i < xs.size),i < SetTable.below xs j->xs[i] < j) /\ ∀ i (hi:i < xs.size),SetTable.below xs j<=i->j<=xs[i] :=
 uc2 h _ _ _ (Nat.zero_le _) (Nat.le_refl _) (by omega) (fun i _ h=>by omega) fun i h1 h2=>by omega
theorem ul7 {xs:Array Nat} (h:Up xs) {k:Nat} (hk:k < xs.size):SetTable.below xs (xs[k]+1)=k+1:=by
 obtain ⟨h1,h2,h3⟩:=uc1 (j:=xs[k]+1) h
 rcases Nat.lt_trichotomy (SetTable.below xs (xs[k]+1)) (k+1) with z | z | z
 ·have:=h3 k hk (by omega);omega
 ·exact z
 ·have hk1:k+1 < xs.size:=by omega
  have a:=h2 (k+1) hk1 z;have b:=uu8 h hk1 (Nat.lt_succ_self k);omega
theorem ul6 {xs:Array Nat} (h:Up xs):SetTable.below xs 0=0:=by
 obtain ⟨h1,h2,h3⟩:=uc1 (j:=0) h
 rcases Nat.eq_zero_or_pos (SetTable.below xs 0) with z | z
 ·exact z
 ·have:=h2 0 (by omega) z;omega
theorem vg2 {xs:Array Nat} {j:Nat} (h:Up xs) (hj:xs[SetTable.below xs j]? ≠ some j):Up (SetTable.insertAt xs (SetTable.below xs j) j):=by
 obtain ⟨h1,h2,h3⟩:=uc1 (j:=j) h;unfold Up;rw [SetTable.toList_insertAt];have ht:(xs.toList.take (SetTable.below xs j)).Pairwise (· < ·):=h.sublist (List.take_sublist _ _);have hd:(xs.toList.drop (SetTable.below xs j)).Pairwise (· < ·):=h.sublist (List.drop_sublist _ _);have a1:∀ x ∈ xs.toList.take (SetTable.below xs j),x < j:=fun x hx=>by
  obtain ⟨i,hi,rfl⟩:=List.mem_iff_getElem.mp hx;rw [List.length_take,Array.length_toList] at hi;rw [List.getElem_take];have:=h2 i (by omega) (by omega);simpa using this
 have a2:∀ x ∈ xs.toList.drop (SetTable.below xs j),j < x:=fun x hx=>by
  obtain ⟨i,hi,rfl⟩:=List.mem_iff_getElem.mp hx;rw [List.length_drop,Array.length_toList] at hi;rw [List.getElem_drop];have b:=h3 (SetTable.below xs j+i) (by omega) (by omega);have c:xs[SetTable.below xs j+i] ≠ j:=fun z=>by
   cases i with
   | zero=>exact hj (by rw [getElem?_pos xs _ (by omega)];simpa using z)
   | succ i =>
    have d:=h3 (SetTable.below xs j) (by omega) (Nat.le_refl _);have e:=uu8 h (j:=SetTable.below xs j+(i+1)) (by omega) (show SetTable.below xs j < SetTable.below xs j+(i+1) by omega);omega
  have:xs.toList[SetTable.below xs j+i]'(by simp;omega)=xs[SetTable.below xs j+i]:=by simp
  rw [this];omega
 refine List.pairwise_append.mpr ⟨ht,List.pairwise_cons.mpr ⟨a2,hd⟩,fun x hx y hy=>?_⟩;have:=a1 x hx
 rcases List.mem_cons.mp hy with rfl | hy
 ·exact this
 ·have:=a2 y hy;omega
structure Tb (led:Bool) (t:SetTable):Prop where
 led:t.led=led
 dm:t.dummies=#[]
 up:Up t.place
theorem u96 {t:SetTable} {led:Bool} (h:Tb led t) {g:Nat->Int} {k:Int}:∀ (f:Nat) (p:SetTable.Probe) (m:SetTable.Met),p.dummy=none->SetTable.probe.go t g k f p=some m->∀ j d,m=.empty j d->d=none /\ t.place[SetTable.below t.place j]? ≠ some j
 | 0,p,m,hp,e,j,d,hm=>by unfold SetTable.probe.go at e;cases e
 | f+1,p,m,hp,e,j,d,hm=>by
  unfold SetTable.probe.go at e;have adv:∀ q:SetTable.Probe,(t.advance q).dummy=q.dummy:=fun q=>by unfold SetTable.advance;split <;> rfl
  split at e
  ·rename_i hs
   cases e;cases hm;refine ⟨hp,fun z=>?_⟩;unfold SetTable.slot at hs;simp [z] at hs
  ·rename_i hs
   unfold SetTable.slot SetTable.has at hs;rw [h.dm] at hs;simp at hs;split at hs
   ·cases hs
   ·cases hs
  ·rename_i i hs
   split at e
   ·cases e;cases hm
   ·exact u96 h f _ m (by rw [adv];exact hp) e j d hm
theorem uq4 {t:SetTable} {led:Bool} (h:Tb led t) (es:Array (Int × Value)) (k:Int) (x:Value):Tb led (layNew t es k x).2.1:=by
 have st:∀ n,Tb led (t.standIn n):=fun n=>⟨h.led,rfl,by
  unfold Up SetTable.standIn;simp only [Array.toList_range];exact List.pairwise_lt_range⟩
 unfold layNew;cases hf:t.freeSlot k with
 | none=>exact st _
 | some r =>
  obtain ⟨slot,wd⟩:=r;dsimp only;have hs:t.place[SetTable.below t.place slot]? ≠ some slot:=by
   unfold SetTable.freeSlot at hf;split at hf
   ·rename_i j d e
    unfold SetTable.probe at e;obtain ⟨rfl,z⟩:=u96 h _ _ _ rfl e j d rfl;cases hf;exact z
   ·cases hf
  have tp:Tb led (t.put slot).1:=⟨h.led,by
   unfold SetTable.put SetTable.has;rw [h.dm];rfl,vg2 h.up hs⟩
  unfold SetTable.orStandIn;split
  ·exact tp
  ·refine ⟨tp.led,rfl,?_⟩
   unfold Up SetTable.standIn;simp only [Array.toList_range];exact List.pairwise_lt_range
theorem uv2 {t:SetTable} {led:Bool} (h:Tb led t) (es:Array (Int × Value)) (n:Nat):Tb led (relayAll t es n).2.1:=by
 have st:∀ n,Tb led (t.standIn n):=fun n=>⟨h.led,rfl,by
  unfold Up SetTable.standIn;simp only [Array.toList_range];exact List.pairwise_lt_range⟩
 unfold relayAll;split
 ·rename_i t' order e
  dsimp only;split
  ·dsimp only
   unfold SetTable.relaid SetTable.laid at e;simp only [Option.bind_eq_bind,Option.bind_eq_some_iff] at e;obtain ⟨ow,_,e⟩:=e;cases e;refine ⟨h.led,rfl,?_⟩;unfold Up;dsimp only;rw [List.pairwise_map];have:∀ (l:List Nat),l.Pairwise (· < ·)->(l.filterMap fun j=>(ow.getD j none).map (j,·)).Pairwise fun a b=>a.1 < b.1:=fun l hl=>by
    induction l with
    | nil=>exact .nil
    | cons y l ih =>
     rw [List.pairwise_cons] at hl;rw [List.filterMap_cons];split
     ·exact ih hl.2
     ·rename_i b hb
      refine List.pairwise_cons.mpr ⟨fun c hc=>?_,ih hl.2⟩;obtain ⟨z,_,rfl⟩:=Option.map_eq_some_iff.mp hb;obtain ⟨y',hy',e2⟩:=List.mem_filterMap.mp hc;obtain ⟨z',_,rfl⟩:=Option.map_eq_some_iff.mp e2;exact hl.1 y' hy'
   exact this _ List.pairwise_lt_range
  ·exact st _
 ·exact st _
end SS
namespace SS
open PySem PyProof.Rows
section
variable {prog:Program} {w:World} {A:Around} {E:Value->Shared->Prop} {s:Shared}
def SetI (prog:Program) (w:World) (led:Bool) (h:Heap) (a:Addr) (ms:List Int):Prop :=
 ∃ o es ep t,h.get? a=some o /\ o.ExactSet /\ o.data=.set es ep t /\ ElemsOf (intKind prog w) es.toList /\ (∃ ns,IntsAre (es.toList.map (·.2)) ns /\ ns.Perm ms) /\ es.size < scanBound /\ t.fits es.size=true /\ Tb led t
theorem u80 {vs us:List Value} {ns:List Int} (h:IntsAre vs ns) (p:us.Perm vs):∃ ms,IntsAre us ms /\ ms.Perm ns:=by
 refine ⟨us.map numOf,intsAre_map us fun v hv=>h.all v (p.mem_iff.mp hv),?_⟩;have:=p.map numOf
 rwa [h.nums] at this
theorem ints_app:∀ {vs us:List Value} {ns ms:List Int},IntsAre vs ns->IntsAre us ms->IntsAre (vs++us) (ns++ms)
 | _,_,_,_,.nil,h=>h
 | _,_,_,_,.cons n t h',h=>.cons n t (ints_app h' h)
theorem uy4 {t:SetTable} {n:Nat} {b:Bool} (h:t.fits n=true):({ t with plain:=b }:SetTable).fits n=true:=by cases t;exact h
theorem Tb.off {led b:Bool} {t:SetTable} (h:Tb led t):Tb led { t with plain:=b }:=⟨h.led,h.dm,h.up⟩
theorem SetI.store {led:Bool} {h:Heap} {a:Addr} {o:Obj} {es:Array (Int × Value)} {ep:Nat} {t:SetTable} (ho:h.get? a=some o) (hex:o.ExactSet) (hd:o.data=.set es ep t) {es':Array (Int × Value)} {t':SetTable} {ms:List Int}
  (hel:ElemsOf (intKind prog w) es'.toList) (hm:∃ ns,IntsAre (es'.toList.map (·.2)) ns /\ ns.Perm ms) (hb:es'.size < scanBound) (hf:t'.fits es'.size=true) (ht:Tb led t') :
  (h.update a (Obj.putSet es' t')).get? a=some { o with data:=.set es' (ep+1) t' } /\ SetI prog w led (h.update a (Obj.putSet es' t')) a ms:=by
 have hg:(h.update a (Obj.putSet es' t')).get? a=some { o with data:=.set es' (ep+1) t' }:=by
  have:=Heap.get?_update_self (Obj.putSet es' t') ho (by rw [putSet_of es' t' hd];rfl);rw [putSet_of es' t' hd] at this;exact this
 exact ⟨hg,_,es',ep+1,t',hg,hex,rfl,hel,hm,hb,hf,ht⟩
theorem v09 {g:Bool->Sem Unit} (hg:∀ (b:Bool) (s₁:Shared) (Q':Unit->Shared->Prop),Q' () s₁->wpAny (model prog w) A (g b) Q' E s₁) {led:Bool} {ms:List Int}
  {a:Addr} {o:Obj} {es:Array (Int × Value)} {ep:Nat} {t:SetTable} (ho:s.heap.get? a=some o) (hex:o.ExactSet) (hd:o.data=.set es ep t) {es1:Array (Int × Value)} {t2:SetTable}
  (hel:ElemsOf (intKind prog w) es1.toList) (hm:∃ ns,IntsAre (es1.toList.map (·.2)) ns /\ ns.Perm ms) (hb:es1.size < scanBound) (hf:t2.fits es1.size=true) (ht:Tb led t2) {wd:Bool} {R:Option Bool->Shared->Prop}
  (h:∀ h',Heap.SameBut a s.heap h'->SetI prog w led h' a ms->R (some true) { s with heap:=h' }) :
  wpAny (model prog w) A (do
    storeSet a es1 t2
    if (!wd && t2.tooFull)=true then do
      g (relayAll t2 es1 (SetTable.grown es1.size)).2.2
      storeSet a (relayAll t2 es1 (SetTable.grown es1.size)).1 (relayAll t2 es1 (SetTable.grown es1.size)).2.1
      pure (some true)
     else pure (some true)) R E s:=by
 refine wpAny_bind (wpAny_storeSet_of ho hd ?_ (fits_of_scanBound hb));obtain ⟨ho1,hS1⟩:=SetI.store (prog:=prog) (w:=w) ho hex hd hel hm hb hf ht;have hsb1:=Heap.SameBut.update s.heap a (Obj.putSet es1 t2);split
 ·have hp:=relayAll_perm t2 es1 (SetTable.grown es1.size)
  have hfr:=relayAll_fits t2 es1 (SetTable.grown es1.size);have htr:=uv2 ht es1 (SetTable.grown es1.size);generalize relayAll t2 es1 (SetTable.grown es1.size)=Rl at hp hfr htr ⊢;obtain ⟨es2,t3,gv⟩:=Rl;dsimp only at hp hfr htr ⊢;have hsz:es2.size=es1.size:=by rw [<- Array.length_toList,hp.length_eq,Array.length_toList]
  have hb2:es2.size < scanBound:=by rw [hsz];exact hb
  refine wpAny_bind (hg _ _ _ (wpAny_bind (wpAny_storeSet_of ho1 rfl ?_ (fits_of_scanBound hb2))));obtain ⟨ns,h1,h2⟩:=hm;obtain ⟨ms2,h3,h4⟩:=u80 h1 (hp.map (·.2));obtain ⟨_,hS2⟩:=SetI.store (prog:=prog) (w:=w) ho1 hex rfl (hel.perm hp) ⟨ms2,h3,h4.trans h2⟩ hb2 hfr htr;exact wpAny_pure (h _ (hsb1.trans (Heap.SameBut.update _ a _)) hS2)
 ·exact wpAny_pure (h _ hsb1 hS1)
theorem vp8 {k:Int} {v:Value} (h:(intKind prog w).is k v=true):∃ t,v=.int k t:=Value.isInt_shape h
theorem w_add {led:Bool} {a:Addr} {ms:List Int} {k:Int} {tk:Tok} {Q:Bool->Shared->Prop} (hS:SetI prog w led s.heap a ms) (hk:¬ k ∈ ms) (hroom:ms.length+1 < scanBound)
  (h:∀ h',Heap.SameBut a s.heap h'->SetI prog w led h' a (ms++[k])->Q true { s with heap:=h' }) :
  wpAny (model prog w) A (setAddHashed a (.int k tk) ((intKind prog w).hash k)) Q E s:=by
 obtain ⟨o,es,ep,t,ho,hex,hd,hel,⟨ns,hi,hp⟩,hb,hf,ht⟩:=hS;have hln:es.size=ms.length:=by
  have h1:=hi.length;rw [List.length_map,Array.length_toList] at h1;rw [h1,hp.length_eq]
 have hkey:(intKind prog w).is k (.int k tk)=true:=intKind_is _ _ _ _;have hsc:(Value.int k tk).scannable=true:=rfl;unfold setAddHashed setAddHashedIn;refine wpAny_holding (wpAny_bind (wpAny_setState_of ho hd hf ?_));dsimp only;rw [byScan_of hsc hb hel];simp only [↓reduceIte];unfold setAddByScan;refine wpAny_bind (wpAny_bind (wpAny_rule (wpAny_bind (wpAny_setScan_of hkey ho hd hf hel ?_))));have hno:List.findIdx? (fun e=>(intKind prog w).is k e.2) es.toList=none:=by
  rw [List.findIdx?_eq_none_iff];intro e he;rw [Bool.eq_false_iff];intro z;obtain ⟨t',ev⟩:=vp8 z;have hv:e.2 ∈ es.toList.map (·.2):=List.mem_map_of_mem he;refine hk (hp.mem_iff.mp ?_);rw [<- hi.nums];exact List.mem_map.mpr ⟨e.2,hv,by rw [ev];rfl⟩
 rw [hno];dsimp only;have hperm:=layNew_perm t es ((intKind prog w).hash k) (.int k tk);have hfits:=layNew_fits t es ((intKind prog w).hash k) (.int k tk);have htb:=uq4 ht es ((intKind prog w).hash k) (.int k tk);generalize layNew t es ((intKind prog w).hash k) (.int k tk)=L at hperm hfits htb ⊢;obtain ⟨es1,t1,wd,gv⟩:=L;dsimp only at hperm hfits htb ⊢;rw [Array.toList_push] at hperm;have hb1:es1.size < scanBound:=by rw [<- Array.length_toList,hperm.length_eq,List.length_append,Array.length_toList,hln];simpa using hroom
 have hm1:∃ ns,IntsAre (es1.toList.map (·.2)) ns /\ ns.Perm (ms++[k]):=by
  have h1:IntsAre ((es.toList++[((intKind prog w).hash k,Value.int k tk)]).map (·.2)) (ns++[k]):=by
   rw [List.map_append];exact ints_app hi (.cons k tk .nil)
  obtain ⟨ms2,h3,h4⟩:=u80 h1 (hperm.map (·.2));exact ⟨ms2,h3,h4.trans (hp.append_right _)⟩
 have hgw:∀ (b:Bool) (s₁:Shared) (Q':Unit->Shared->Prop),Q' () s₁->wpAny (model prog w) A (match b with | true=>rule "set.scan.the-table-gave-way" | false=>pure ()) Q' E s₁:=fun b s₁ Q' hq=>by cases b <;> first | exact wpAny_pure hq | exact wpAny_rule hq
 have hel1:=(hel.push hkey hsc).perm hperm;refine wpAny_bind (hgw _ _ _ ?_);split
 ·refine wpAny_bind ?_
  rw [hashByValue_scannable 8 hsc];refine wpAny_pure (v09 (led:=led) hgw ho hex hd hel1 hm1 hb1 ?_ ?_ fun h' hsb hS'=>?_)
  ·split
   ·exact hfits
   ·exact uy4 hfits
  ·split
   ·exact htb
   ·exact htb.off
  ·dsimp only;exact wpAny_pure (h h' hsb hS')
 ·refine wpAny_bind (wpAny_pure ?_)
  simp only [↓reduceIte];refine v09 hgw ho hex hd hel1 hm1 hb1 hfits htb fun h' hsb hS'=>?_
  dsimp only;exact wpAny_pure (h h' hsb hS')
end
end SS
namespace SS
open PySem PyProof.Rows
set_option maxHeartbeats 3200000
def byT (w:World):Bool:=w.params.followText "set-order"
section
variable {prog:Program} {w:World} {A:Around} {E:Value->Shared->Prop} {s:Shared}
theorem uz4 (a:Value) {Q₁:Value->Shared->Prop}
  (h:Q₁ (.ref s.heap.objs.size) { s with heap:=s.heap.push { cls:=.type "set",dict:=none,data:=.set #[] 0 (.fresh 0 0 (!byT w)) } }) :
  codeAny (model prog w) A (.call (.builtin "set.__new__") ⟨[.type "set",a],[]⟩) (wants Q₁ E) s:=by
 refine codeAny_of_tree ?_
 show wpAny _ A.in1 (do checkBuiltinCall "set.__new__" ⟨[.type "set",a],[]⟩;again (.builtin "set.__new__" ⟨[.type "set",a],[]⟩)) _ _ s
 refine wpAny_bind (wpAny_of_eq (F.newCall_set_1 a) (wpAny_pure ⟨plainId_quiet F.plain_set_new _,codeAny_builtin F.entry_set_new ?_⟩));rw [Around.under_plainId F.plain_set_new _];unfold Builtin.«set.__new__» Builtin.Frozenset.newClass;have hsub:=sub_set_self;obtain ⟨hp,g,d,tk,os⟩:=s;dsimp only
 wp_walk
 refine wpAny_askSetting (wpAny_pure ?_);dsimp only;simp only [newObj];exact wpAny_bind (wpAny_alloc (wpAny_pure (wpAny_pure h)))
theorem SetI.at {led:Bool} {h h':Heap} {a:Addr} {ms:List Int} (x:SetI prog w led h a ms) (e:∀ o,h.get? a=some o->h'.get? a=some o):SetI prog w led h' a ms:=let ⟨o,es,ep,t,ho,r⟩:=x;⟨o,es,ep,t,e _ ho,r⟩
variable {R:Result->Shared->Prop} {I:Addr} {fp wr:List Addr} {G:Array GenState->Array GenState->Prop} {n:Nat} {P:Nat->Value->Prop} {St:Nat->Shared->Prop}
theorem uu7 (W:WalksS prog w A.in1 I fp wr G n P St) {led:Bool} (S:Addr) (hSf:S ∉ fp) (ns:List Int) (hn:ns.length=n) (hnd:ns.Nodup) (hval:∀ i v,P i v->∃ t,v=.int (ns.getD i 0) t) (hb:n+1 < scanBound) :
  ∀ (k i:Nat) (s:Shared),n - i=k->i<=n->St i s->SetI prog w led s.heap S (ns.take i) ->
   (∀ s',Moved (S::wr) G s s'->SetI prog w led s'.heap S ns->R (.ok (.ret .none)) s')->codeAny (model prog w) A (.builtin "set.update.loop" ⟨[.ref S,.ref I],[]⟩) R s:=by
 have hSw:S ∉ wr:=fun h=>hSf (W.sub _ h)
 have hsub:∀ b ∈ wr,b ∈ S::wr:=fun b hb=>List.mem_cons_of_mem _ hb
 intro k
 induction k with
 | zero =>
  intro i s hk hi hst hS hR;obtain rfl:i=n:=by omega
  refine codeAny_builtin F.entry_set_update_loop ?_;rw [Around.under_plainId F.plain_set_update_loop _]
  show wpAny _ A.in1 (pyNext (.ref I) >>= _) _ _ s
  refine wpAny_bind (W.done s _ _ hst fun s' hm=>?_)
  show wpAny _ A.in1 (ret Value.none) _ _ s'
  refine wpAny_pure (hR s' (hm.mono hsub) ?_);rw [List.take_of_length_le (by omega)] at hS;exact hS.at fun o e=>hm.heap S _ hSw e
 | succ k ih =>
  intro i s hk hi hst hS hR;have hlt:i < n:=by omega
  refine codeAny_builtin F.entry_set_update_loop ?_;rw [Around.under_plainId F.plain_set_update_loop _]
  show wpAny _ A.in1 (pyNext (.ref I) >>= _) _ _ s
  refine wpAny_bind (W.item i s _ _ hlt hst fun v s' hP hst' hm=>?_);obtain ⟨t,rfl⟩:=hval i v hP;have hS':SetI prog w led s'.heap S (ns.take i):=hS.at fun o e=>hm.heap S _ hSw e
  show wpAny _ A.in1 (holding [Value.int (ns.getD i 0) t] (setAdd S (.int (ns.getD i 0) t)) >>= _) _ _ s'
  refine wpAny_bind (wpAny_holding ?_);unfold setAdd;refine wpAny_holding (wpAny_bind ((intKind prog w).pyHash (k:=ns.getD i 0) (intKind_is _ _ _ _) ?_));have hil:i < ns.length:=by omega
  have hgd:ns.getD i 0=ns[i]:=by rw [List.getD_eq_getElem?_getD,List.getElem?_eq_getElem hil];rfl
  have htk:ns.take (i+1)=ns.take i++[ns[i]]:=by rw [List.take_succ,List.getElem?_eq_getElem hil];rfl
  have hno:¬ ns.getD i 0 ∈ ns.take i:=by
   rw [hgd];intro z;have h2:=(List.nodup_iff_pairwise_ne.mp hnd);have h3:(ns.take (i+1)).Nodup:=hnd.sublist (List.take_sublist _ _);rw [htk,List.nodup_append] at h3;exact h3.2.2 _ z _ (List.mem_singleton.mpr rfl) rfl
  refine w_add (s:={ s' with toks:=s'.toks+1 }) hS' hno (by rw [List.length_take];omega) fun h' hsb hS2=>?_
  rw [hgd,<- htk] at hS2;refine wpAny_pure ⟨plainId_quiet F.plain_set_update_loop _,ih (i+1) _ (by omega) hlt (W.frame _ s' _ _ hst' (Nat.le_succ _) fun b hb o e=>?_) hS2 fun s'' hm'' hS''=>?_⟩
  ·rw [hsb.2 b (fun h:b=S=>hSf (by rw [<- h];exact hb))];exact e
  ·refine hR s'' (Moved.trans W.gtrans ((hm.mono hsub).then_heap (Nat.le_succ _) fun b o hb e=>?_) hm'') hS''
   rw [hsb.2 b (fun h:b=S=>hb (by rw [h];exact List.mem_cons_self))];exact e
theorem call_set {l:Addr} {items:Array Value} {ns:List Int} {Q:Value->Shared->Prop} (hh:A.handled=none) (hl:s.heap.IsList l items) (hi:IntsAre items.toList ns) (hnd:ns.Nodup) (hb:items.size+1 < scanBound)
  (h:∀ (h':Heap) (tk:Nat),SetI prog w (!byT w) h' s.heap.objs.size ns->(∀ b o,b < s.heap.objs.size->s.heap.get? b=some o->h'.get? b=some o)->Q (.ref s.heap.objs.size) { s with heap:=h',toks:=tk }) :
  wpAny (model prog w) A (call (.type "set") [.ref l]) Q E s:=by
 obtain ⟨c,tl,hmro⟩:=F.called_set.mro;have hmade:=F.called_set.made;have hsub:=F.called_set.sub;refine wpAny_call (codeAny_of_tree ?_)
 show wpAny _ _ (callAny (.type "set") _) _ _ _
 refine wpAny_pure ⟨Code.quiet_builtin _ (by decide),codeAny_builtin F.entry_type_call ?_⟩;rw [Around.under_plain (weight_type_call_type "set" [.ref l] []) rfl];have h1:=F.called_set.notType;have h2:=F.called_set.canCreate;have hct:=F.typeCall_set_1 (.ref l)
 repeat (any_goals (first | assumption | wp_step))
 obtain ⟨o0,ho0⟩:∃ o0:Obj,o0={ cls:=.type "set",dict:=none,data:=.set #[] 0 (.fresh 0 0 (!byT w)) }:=⟨_,rfl⟩;refine codeAny_mono (uz4 (.ref l) (E:=E) (Q₁:=fun obj s₁=>obj=.ref s.heap.objs.size /\ s₁={ s with heap:=s.heap.push o0 }) (by rw [ho0];exact ⟨rfl,rfl⟩)) fun r s₁ hr=>?_
 cases r with
 | error e=>exact hr
 | ok fl =>
  cases fl with
  | ret obj =>
   obtain ⟨rfl,rfl⟩:=hr;have hS:(s.heap.push o0).get? s.heap.objs.size=some o0:=Heap.get?_push_size _ (by rw [ho0];rfl);have hT:Shared.TypeIs { s with heap:=s.heap.push o0 } (.ref s.heap.objs.size) "set" := ⟨_,hS,by rw [ho0]⟩
   have hli:=F.called_set.init.lookup;have hbi:=F.called_set.init.bind (.ref s.heap.objs.size)
   repeat (any_goals (first | assumption | wp_step))
   refine codeAny_mono (codeAny_call_builtin (R:=wants (fun r s₂=>r=.none /\ ∃ h' tk,s₂={ s with heap:=h',toks:=tk } /\ SetI prog w (!byT w) h' s.heap.objs.size ns /\
     (∀ b o,b < s.heap.objs.size->s.heap.get? b=some o->h'.get? b=some o)) E) F.called_set.init.plain F.entry_set_init (check_set_init_1 hT ?_)) fun r₂ s₂ hr₂=>?_
   ·obtain ⟨ol,hol,hcl,nl,hdl⟩:=hl
    obtain ⟨ocls,odict,odata,oslots⟩:=ol;simp only at hcl hdl;subst hcl;subst hdl;subst ho0;have hol':(s.heap.push { cls:=.type "set",dict:=none,data:=.set #[] 0 (.fresh 0 0 (!byT w)) }).get? l=some { cls:=.type "list",dict:=odict,data:=.seq items nl,slots:=oslots }:=Heap.get?_push_of_some _ hol;have hsls:=F.sub_list_set;have hslf:=F.sub_list_frozenset;have hne:(Value.type "list" == Value.type "dict")=false:=by decide
    have hl1:(s.heap.push { cls:=.type "set",dict:=none,data:=.set #[] 0 (.fresh 0 0 (!byT w)) }).IsList l items:=⟨_,hol',rfl,nl,rfl⟩;unfold Builtin.«set.__init__» noKeywords Builtin.Frozenset.updateFrom;generalize hPI:pyIter=PI
    wp_walk
    subst hPI;refine wpAny_pyIter_list hl1 ?_;refine wpAny_bind (wpAny_runValue ?_);have hlS:l < s.heap.objs.size:=Heap.lt_size hol;have hh3:A.in1.in1.in1.handled=none:=by simp [hh]
    have hneI:l ≠ (s.heap.push { cls:=.type "set",dict:=none,data:=.set #[] 0 (.fresh 0 0 (!byT w)) }).objs.size:=by rw [Heap.size_push];exact Nat.ne_of_lt (Nat.lt_succ_of_lt hlS)
    have hSf:s.heap.objs.size ∉ [(s.heap.push { cls:=.type "set",dict:=none,data:=.set #[] 0 (.fresh 0 0 (!byT w)) }).objs.size,l]:=by
     rw [Heap.size_push];simp only [List.mem_cons,List.mem_singleton,List.not_mem_nil,or_false,not_or];exact ⟨Nat.ne_of_lt (Nat.lt_succ_self _),Nat.ne_of_gt hlS⟩
    have hval:∀ (i:Nat) (v:Value),items[i]?=some v->∃ t,v=.int (ns.getD i 0) t:=fun i v hv=>IntsAre.int_at hi i v (by rw [Array.getElem?_toList];exact hv)
    have hln:=hi.length;rw [Array.length_toList] at hln;refine uu7 ((Walks.list hh3 _ l hneI items).toS) (led:=!byT w) s.heap.objs.size hSf ns hln.symm hnd hval hb (items.size - 0) 0 _ (by omega) (Nat.zero_le _) ⟨⟨_,Heap.get?_push_size _ rfl,rfl,rfl⟩,(hl1.push _)⟩ ?hS0 ?hR
    case hS0 =>
     exact ⟨_,#[],0,_,Heap.get?_push_of_some _ hS,⟨rfl,rfl,rfl⟩,rfl,(fun e he=>by simp at he),⟨[],.nil,.nil⟩,by decide,by rfl,⟨rfl,rfl,.nil⟩⟩
    case hR =>
     intro s' hm hS';obtain ⟨h',g',d',tk',os'⟩:=s';have eg:g'=s.gens:=hm.gens;have ed:d'=s.drawn:=hm.drawn;have eo:os'=s.os:=hm.os;subst eg;subst ed;subst eo
     show wpAny _ _ _ _ _ _
     refine wpAny_pure ?_
     show wpAny _ _ (ret Value.none) _ _ _
     refine wpAny_pure ⟨rfl,h',tk',rfl,hS',fun b o hb e=>?_⟩;have hb1:b ≠ s.heap.objs.size:=Nat.ne_of_lt hb;have hb2:b ≠ (s.heap.push { cls:=.type "set",dict:=none,data:=.set #[] 0 (.fresh 0 0 (!byT w)) }).objs.size:=by rw [Heap.size_push];exact Nat.ne_of_lt (Nat.lt_succ_of_lt hb)
     exact hm.heap b o (by simp only [List.mem_cons,List.mem_singleton,List.not_mem_nil,or_false,not_or];exact ⟨hb1,hb2⟩) (Heap.get?_push_of_some _ (Heap.get?_push_of_some _ e))
   ·cases r₂ with
    | error e=>exact hr₂
    | ok fl₂ =>
     cases fl₂ with
     | ret r =>
      obtain ⟨rfl,h',tk,rfl,hS',hk'⟩:=hr₂
      repeat (any_goals (first | assumption | wp_step))
      exact h _ _ hS' hk'
     | _=>exact hr₂.elim
  | _=>exact hr.elim
end
theorem u89:entryFor table "set.__iter__" = some Builtin.«frozenset.__iter__» :=
 entryFor_alias (id' := "frozenset.__iter__") (by kernel_rfl) rfl (by decide) (by kernel_rfl)
theorem slot_si_next:Slot "set_iterator" "__next__" "set_iterator.__next__" :=
 .of (owner := "set_iterator") (n := "__next__") (by rw [typeLookup_type,builtinLookup_eq_fast];kernel_rfl) (by decide) (by decide) (by decide)
  (by first | exact .inl (by decide) | exact .inr (by decide)) (by rw [isSubtype_type];kernel_rfl)
theorem u27:entryFor table "set_iterator.__next__" = some Builtin.«set_iterator.__next__»:=entryFor_of_tree (by kernel_rfl)
theorem u39 (a:Value):argsOk "set_iterator.__next__" ⟨[a],[]⟩:=by unfold argsOk;kernel_rfl
def IsSI (h:Heap) (it S:Addr) (first:Value) (i n ep:Nat):Prop:=∃ o,h.get? it=some o /\ o.cls=.type "set_iterator" /\ o.data=.fields #[first,.int i 0,.ref S,.int n 0,.int ep 0]
section
variable {prog:Program} {w:World} {A:Around} {E:Value->Shared->Prop} {s:Shared} {it S:Addr} {i n ep:Nat} {first:Value}
theorem IsSI.typeIs (x:IsSI s.heap it S first i n ep):s.TypeIs (.ref it) "set_iterator" := let ⟨o,ho,hc,_⟩:=x;⟨o,ho,hc⟩
theorem IsSI.at {h h':Heap} (x:IsSI h it S first i n ep) (e:∀ o,h.get? it=some o->h'.get? it=some o):IsSI h' it S first i n ep:=let ⟨o,ho,r⟩:=x;⟨o,e _ ho,r⟩
variable {o:Obj} {es:Array (Int × Value)} {t:SetTable}
theorem v56 {sl nx:Nat} {x:Value} {Q:Option Value->Shared->Prop} (hit:IsSI s.heap it S (.int sl 0) i n ep) (hS:s.heap.get? S=some o) (hd:o.data=.set es ep t) (hf:t.fits es.size=true) (hn:es.size=n)
  (hx:∀ (E':Value->Shared->Prop) (Q':Option (Value × Nat)->Shared->Prop),Q' (some (x,nx)) s->wpAny (model prog w) A.in1 (setNext S sl i ep) Q' E' s)
  (hQ:∀ h',IsSI h' it S (.int nx 0) (i+1) n ep->Heap.SameBut it s.heap h'->Q (some x) { s with heap:=h' }):wpAny (model prog w) A (pyNext (.ref it)) Q E s:=by
 obtain ⟨oi,hoi,hci,hdi⟩:=id hit;unfold pyNext;refine wpAny_bind (wpAny_attempt (wpAny_callSpecial?_slot (name:=Str.ofString "__next__") hit.typeIs slot_si_next (wpAny_call_entry slot_si_next hit.typeIs u27 ?_ (u39 _))));unfold Builtin.«set_iterator.__next__»;refine wpAny_bind (wpAny_pure ?_);refine wpAny_bind (wpAny_fieldsOf hoi hdi ?_);refine wpAny_bind (wpAny_setEntries_of hS hd hf ?_);rw [if_neg (by rw [hn];simp)];refine wpAny_bind (hx _ _ ?_);have e1:=Heap.get?_update_self (Obj.mapFields (·.setIfInBounds 0 (rawInt nx))) hoi (Obj.isFreed_of_fields (Obj.data_mapFields hdi _));have d1:=Obj.data_mapFields hdi (·.setIfInBounds 0 (rawInt nx));refine wpAny_bind (wpAny_setField hoi hdi (by simp) ?_);refine wpAny_bind (wpAny_setField e1 d1 (by simp) (wpAny_pure ⟨x,rfl,wpAny_pure (hQ _ ?_ ((Heap.SameBut.update ..).trans (Heap.SameBut.update ..)))⟩));refine ⟨_,Heap.get?_update_self _ e1 (Obj.isFreed_of_fields (Obj.data_mapFields d1 _)),(Obj.cls_mapFields ..).trans ((Obj.cls_mapFields ..).trans hci),?_⟩;rw [Obj.data_mapFields d1];simp [rawInt]
theorem vh5 {sl:Nat} {Q:Option Value->Shared->Prop} (hh:A.handled=none) (hit:IsSI s.heap it S (.int sl 0) i n ep) (hS:s.heap.get? S=some o) (hd:o.data=.set es ep t) (hf:t.fits es.size=true) (hn:es.size=n)
  (hx:∀ (E':Value->Shared->Prop) (Q':Option (Value × Nat)->Shared->Prop),Q' none s->wpAny (model prog w) A.in1 (setNext S sl i ep) Q' E' s)
  (hQ:∀ h',Heap.ExtBut it s.heap h'->Q none { s with heap:=h' }):wpAny (model prog w) A (pyNext (.ref it)) Q E s:=by
 obtain ⟨oi,hoi,hci,hdi⟩:=id hit;unfold pyNext;refine wpAny_bind (wpAny_attempt (wpAny_callSpecial?_slot (name:=Str.ofString "__next__") hit.typeIs slot_si_next (wpAny_call_entry slot_si_next hit.typeIs u27 ?_ (u39 _))));unfold Builtin.«set_iterator.__next__»;refine wpAny_bind (wpAny_pure ?_);refine wpAny_bind (wpAny_fieldsOf hoi hdi ?_);refine wpAny_bind (wpAny_setEntries_of hS hd hf ?_);rw [if_neg (by rw [hn];simp)];refine wpAny_bind (hx _ _ ?_);refine wpAny_bind (wpAny_setField hoi hdi (by simp) ?_)
 show wpAny _ _ (newExc (.type "StopIteration") [] >>= _) _ _ _
 refine wpAny_bind ?_;simp only [newExc,newTuple];refine wpAny_bind (wpAny_newObj_type ?_ (by size_fits));refine wpAny_bind (m:=firstArgMember _ _) (wpAny_of_eq (a:=Value.none) (by first | rfl | (simp only [firstArgMember];rfl)) ?_);refine wpAny_newObj_type ?_ (by size_fits);simp only [raiseNew];refine wpAny_bind (wpAny_handled ?_);rw [show A.in1.handled=none from hh];refine wpAny_bind (wpAny_pure (wpAny_throw ?_));refine wpAny_bind (wpAny_isInstance (T := "StopIteration") (b:=true) ⟨_,Heap.get?_push_size _ rfl,rfl⟩ isSubtype_stop ?_);exact wpAny_pure (hQ _ (((Heap.SameBut.update ..).extBut.push _).push _))
variable {T:Addr} {ps:Array Value}
theorem v54 {p:Nat} {k:Int} {x:Value} {tk:Tok} {Q:Option Value->Shared->Prop} (hit:IsSI s.heap it S (.ref T) i n ep) (hT:∃ o nl,s.heap.get? T=some o /\ o.data=.seq ps nl) (hp:ps[i]?=some (.int p tk)) (hx:es[p]?=some (k,x)) (hS:s.heap.get? S=some o) (hd:o.data=.set es ep t) (hf:t.fits es.size=true) (hn:es.size=n)
  (hQ:∀ h',IsSI h' it S (.ref T) (i+1) n ep->Heap.SameBut it s.heap h'->Q (some x) { s with heap:=h' }):wpAny (model prog w) A (pyNext (.ref it)) Q E s:=by
 obtain ⟨oi,hoi,hci,hdi⟩:=id hit;obtain ⟨oT,nl,hoT,hdT⟩:=hT;unfold pyNext;refine wpAny_bind (wpAny_attempt (wpAny_callSpecial?_slot (name:=Str.ofString "__next__") hit.typeIs slot_si_next (wpAny_call_entry slot_si_next hit.typeIs u27 ?_ (u39 _))));unfold Builtin.«set_iterator.__next__»;refine wpAny_bind (wpAny_pure ?_);refine wpAny_bind (wpAny_fieldsOf hoi hdi ?_);refine wpAny_bind (wpAny_setEntries_of hS hd hf ?_);rw [if_neg (by rw [hn];simp)];refine wpAny_bind (wpAny_seqItems hoT hdT ?_);simp only [Int.toNat_natCast,hp];refine wpAny_bind ?_;unfold setNextDrawn;refine wpAny_bind (wpAny_setState_of hS hd hf ?_);dsimp only;rw [if_neg (by simp)];simp only [hx];refine wpAny_pure ?_;refine wpAny_bind (wpAny_setField hoi hdi (by simp) (wpAny_pure ⟨x,rfl,wpAny_pure (hQ _ ?_ (Heap.SameBut.update ..))⟩));refine ⟨_,Heap.get?_update_self _ hoi (Obj.isFreed_of_fields (Obj.data_mapFields hdi _)),(Obj.cls_mapFields ..).trans hci,?_⟩;rw [Obj.data_mapFields hdi];simp [rawInt]
theorem vg5 {Q:Option Value->Shared->Prop} (hh:A.handled=none) (hit:IsSI s.heap it S (.ref T) i n ep) (hT:∃ o nl,s.heap.get? T=some o /\ o.data=.seq ps nl) (hp:ps[i]?=none) (hS:s.heap.get? S=some o) (hd:o.data=.set es ep t) (hf:t.fits es.size=true) (hn:es.size=n)
  (hQ:∀ h',Heap.ExtBut it s.heap h'->Q none { s with heap:=h' }):wpAny (model prog w) A (pyNext (.ref it)) Q E s:=by
 obtain ⟨oi,hoi,hci,hdi⟩:=id hit;obtain ⟨oT,nl,hoT,hdT⟩:=hT;unfold pyNext;refine wpAny_bind (wpAny_attempt (wpAny_callSpecial?_slot (name:=Str.ofString "__next__") hit.typeIs slot_si_next (wpAny_call_entry slot_si_next hit.typeIs u27 ?_ (u39 _))));unfold Builtin.«set_iterator.__next__»;refine wpAny_bind (wpAny_pure ?_);refine wpAny_bind (wpAny_fieldsOf hoi hdi ?_);refine wpAny_bind (wpAny_setEntries_of hS hd hf ?_);rw [if_neg (by rw [hn];simp)];refine wpAny_bind (wpAny_seqItems hoT hdT ?_);simp only [Int.toNat_natCast,hp];have e1:=Heap.get?_update_self (Obj.mapFields (·.setIfInBounds 0 (rawInt 0))) hoi (Obj.isFreed_of_fields (Obj.data_mapFields hdi _));have d1:=Obj.data_mapFields hdi (·.setIfInBounds 0 (rawInt 0));refine wpAny_bind (wpAny_setField hoi hdi (by simp) ?_);refine wpAny_bind (wpAny_setField e1 d1 (by simp) ?_)
 show wpAny _ _ (newExc (.type "StopIteration") [] >>= _) _ _ _
 refine wpAny_bind ?_;simp only [newExc,newTuple];refine wpAny_bind (wpAny_newObj_type ?_ (by size_fits));refine wpAny_bind (m:=firstArgMember _ _) (wpAny_of_eq (a:=Value.none) (by first | rfl | (simp only [firstArgMember];rfl)) ?_);refine wpAny_newObj_type ?_ (by size_fits);simp only [raiseNew];refine wpAny_bind (wpAny_handled ?_);rw [show A.in1.handled=none from hh];refine wpAny_bind (wpAny_pure (wpAny_throw ?_));refine wpAny_bind (wpAny_isInstance (T := "StopIteration") (b:=true) ⟨_,Heap.get?_push_size _ rfl,rfl⟩ isSubtype_stop ?_);exact wpAny_pure (hQ _ ((((Heap.SameBut.update ..).trans (Heap.SameBut.update ..)).extBut.push _).push _))
end
theorem slot_set_iter:Slot "set" "__iter__" "set.__iter__" :=
 .of (owner := "set") (n := "__iter__") (by rw [typeLookup_type,builtinLookup_eq_fast];kernel_rfl) (by decide) (by decide) (by decide)
  (by first | exact .inl (by decide) | exact .inr (by decide)) (by rw [isSubtype_type];kernel_rfl)
theorem uc3 (a:Value):argsOk "set.__iter__" ⟨[a],[]⟩:=by unfold argsOk;kernel_rfl
theorem u67:Slot "set_iterator" "__iter__" "set_iterator.__iter__" :=
 .of (owner := "set_iterator") (n := "__iter__") (by rw [typeLookup_type,builtinLookup_eq_fast];kernel_rfl) (by decide) (by decide) (by decide)
  (by first | exact .inl (by decide) | exact .inr (by decide)) (by rw [isSubtype_type];kernel_rfl)
theorem ub7:entryFor table "set_iterator.__iter__" = some Builtin.«dict_keyiterator.__iter__» :=
 entryFor_alias (id' := "dict_keyiterator.__iter__") (by kernel_rfl) rfl (by decide) (by kernel_rfl)
theorem uf5 (a:Value):argsOk "set_iterator.__iter__" ⟨[a],[]⟩:=by unfold argsOk;kernel_rfl
section
variable {prog:Program} {w:World} {A:Around} {E:Value->Shared->Prop} {s:Shared} {it S:Addr} {i n ep:Nat} {first:Value}
theorem um9 {Q:Value->Shared->Prop} (hit:IsSI s.heap it S first i n ep) (h:Q (.ref it) s):wpAny (model prog w) A (pyIter (.ref it)) Q E s:=by
 refine wpAny_pyIter_slot hit.typeIs u67 (wpAny_call_entry u67 hit.typeIs ub7 ?_ (uf5 _));refine wpAny_bind (wpAny_pure ?_);exact wpAny_pure ⟨_,rfl, "set_iterator",_,hit.typeIs,slot_si_next.lookup,h⟩
variable {o:Obj} {es:Array (Int × Value)} {t:SetTable}
theorem vf2 (hh:A.handled=none) (hne:S ≠ it) (sl:Nat->Nat) (us:Array Value) (hu:us.size=n) (hd:o.data=.set es ep t) (hf:t.fits es.size=true) (hn:es.size=n)
  (hx:∀ (i:Nat) (s:Shared) (v:Value) (E':Value->Shared->Prop) (Q':Option (Value × Nat)->Shared->Prop),us[i]?=some v->s.heap.get? S=some o->Q' (some (v,sl (i+1))) s->wpAny (model prog w) A.in1 (setNext S (sl i) i ep) Q' E' s)
  (hz:∀ (s:Shared) (E':Value->Shared->Prop) (Q':Option (Value × Nat)->Shared->Prop),s.heap.get? S=some o->Q' none s->wpAny (model prog w) A.in1 (setNext S (sl n) n ep) Q' E' s) :
  WalksS prog w A it [it,S] [it] (fun a b=>b=a) n (fun i v=>us[i]?=some v) (fun i s=>IsSI s.heap it S (.int (sl i) 0) i n ep /\ s.heap.get? S=some o) where
 sub:=fun b hb=>by simp at hb;subst hb;simp
 grefl:=fun _=>rfl
 gtrans:=fun _ _ _ a b=>b.trans a
 frame:=fun i s h' tk st _ kp=>⟨st.1.at fun o e=>kp it (by simp) o e,kp S (by simp) _ st.2⟩
 item:=fun i s Q E hi st q=>by
  have hv:us[i]?=some us[i]:=Array.getElem?_eq_getElem (by omega);refine v56 st.1 st.2 hd hf hn (fun E' Q' q'=>hx i s _ E' Q' hv st.2 q') fun h' st' sb=>?_
  exact q _ _ hv ⟨st',(sb.2 S hne).trans st.2⟩ ⟨fun b o hb e=>(sb.2 b (by simpa using hb)).trans e,rfl,rfl,rfl,Nat.le_refl _⟩
 done:=fun s Q E st q=>vh5 hh st.1 st.2 hd hf hn (fun E' Q' q'=>hz s E' Q' st.2 q') fun h' eb=>q _ ⟨fun b o hb e=>eb b o (by simpa using hb) e,rfl,rfl,rfl,Nat.le_refl _⟩
 self:=fun i s Q E st q=>um9 st.1 q
theorem vf1 {T:Addr} {oT:Obj} {nl:Nat} {ps:Array Value} (hh:A.handled=none) (hne:S ≠ it) (hnT:T ≠ it) (us:Array Value) (hu:us.size=n) (hp:ps.size=n) (hT:oT.data=.seq ps nl) (hd:o.data=.set es ep t) (hf:t.fits es.size=true) (hn:es.size=n)
  (hx:∀ (i:Nat) (v:Value),us[i]?=some v->∃ (p:Nat) (tk:Tok) (k:Int),ps[i]?=some (.int p tk) /\ es[p]?=some (k,v)) :
  WalksS prog w A it [it,S,T] [it] (fun a b=>b=a) n (fun i v=>us[i]?=some v) (fun i s=>IsSI s.heap it S (.ref T) i n ep /\ s.heap.get? S=some o /\ s.heap.get? T=some oT) where
 sub:=fun b hb=>by simp at hb;subst hb;simp
 grefl:=fun _=>rfl
 gtrans:=fun _ _ _ a b=>b.trans a
 frame:=fun i s h' tk st _ kp=>⟨st.1.at fun o e=>kp it (by simp) o e,kp S (by simp) _ st.2.1,kp T (by simp) _ st.2.2⟩
 item:=fun i s Q E hi st q=>by
  have hv:us[i]?=some us[i]:=Array.getElem?_eq_getElem (by omega);obtain ⟨p,tk,k,h1,h2⟩:=hx i _ hv;refine v54 st.1 ⟨_,_,st.2.2,hT⟩ h1 h2 st.2.1 hd hf hn fun h' st' sb=>?_
  exact q _ _ hv ⟨st',(sb.2 S hne).trans st.2.1,(sb.2 T hnT).trans st.2.2⟩ ⟨fun b o hb e=>(sb.2 b (by simpa using hb)).trans e,rfl,rfl,rfl,Nat.le_refl _⟩
 done:=fun s Q E st q=>vg5 hh st.1 ⟨_,_,st.2.2,hT⟩ (Array.getElem?_eq_none (by omega)) st.2.1 hd hf hn fun h' eb=>q _ ⟨fun b o hb e=>eb b o (by simpa using hb) e,rfl,rfl,rfl,Nat.le_refl _⟩
 self:=fun i s Q E st q=>um9 st.1 q
theorem ug4 {α:Type}:∀ (l:List α) (i:Nat) (h:i < l.length),(l[i]::l.eraseIdx i).Perm l
 | x::l,0,_=>List.Perm.refl _
 | x::l,i+1,h=>((List.Perm.swap _ _ _).trans (List.Perm.cons x (ug4 l i (by simpa using h))))
theorem uu6 {src:Source} {m:Nat} {Q:Nat->Shared->Prop} (hm:m ≠ 0) (h:∀ k d',k < m->Q k { s with drawn:=d' }):wpAny (model prog w) A (choose src m) Q E s:=fun Γ p hΓ=>by
 unfold choose;rw [Sem.wp_choose];exact ⟨hm,h _ _ (Nat.mod_lt _ (Nat.pos_of_ne_zero hm))⟩
theorem v14 {α:Type}:∀ (m:Nat) (xs:List α) (s:Shared) (Q:List α->Shared->Prop),m=xs.length->(∀ ys d',ys.Perm xs->Q ys { s with drawn:=d' })->wpAny (model prog w) A (drawOrder m xs) Q E s
 | 0,xs,s,Q,hm,h=>by
  obtain rfl:xs=[]:=List.eq_nil_of_length_eq_zero hm.symm;unfold drawOrder;exact wpAny_pure (h [] s.drawn .nil)
 | m+1,[],s,Q,hm,h=>by simp at hm
 | m+1,x::xs,s,Q,hm,h=>by
  unfold drawOrder;refine wpAny_bind (uu6 (by simp) fun k d' hk=>?_);rw [List.getElem?_eq_getElem hk];refine wpAny_bind (v14 m _ _ _ (by rw [List.length_eraseIdx_of_lt hk];omega) fun ys d2 hp=>wpAny_pure (h _ d2 ?_));exact (List.Perm.cons _ hp).trans (ug4 _ _ hk)
theorem uo1 {α:Type} (f:Nat->Nat):∀ (m k:Nat) (l:List α) (out:Array α),m=l.length->(pickOrder.go f m k l out).toList.Perm (out.toList++l)
 | 0,k,l,out,hm=>by
  obtain rfl:l=[]:=List.eq_nil_of_length_eq_zero hm.symm;unfold pickOrder.go;simp
 | m+1,k,l,out,hm=>by
  unfold pickOrder.go;have hk:f k % l.length < l.length:=Nat.mod_lt _ (by omega);rw [List.getElem?_eq_getElem hk];refine (uo1 f m _ _ _ (by rw [List.length_eraseIdx_of_lt hk];omega)).trans ?_;rw [Array.toList_push,List.append_assoc];exact (ug4 _ _ hk).append_left _
theorem uo0 {α:Type} (f:Nat->Nat) (xs:Array α):(pickOrder f xs).toList.Perm xs.toList:=by
 have:=uo1 f xs.size 0 xs.toList #[] (by simp);simpa [pickOrder] using this
theorem ue0 (hb:byT w=true) (hS:s.heap.get? S=some o) (hd:o.data=.set es ep t) (hf:t.fits es.size=true) {Q:Option (Value × Nat)->Shared->Prop} {sl g:Nat} (h:Q (((pickOrder (w.params.setOrder S ep) es)[g]?).map fun e=>(e.2,sl)) s) :
  wpAny (model prog w) A (setNext S sl g ep) Q E s:=by
 unfold setNext;refine wpAny_bind (wpAny_setState_of hS hd hf ?_);dsimp only;unfold setsByText;refine wpAny_bind (wpAny_bind (wpAny_askSetting (wpAny_pure ?_)));rw [if_pos (show (model prog w).w.params.followText "set-order" = true from hb)];rw [if_neg (by simp)];refine wpAny_bind ?_;unfold setWalk;refine wpAny_bind (wpAny_setState_of hS hd hf ?_);dsimp only;unfold setsByText;refine wpAny_bind (wpAny_bind (wpAny_askSetting (wpAny_pure ?_)));rw [if_pos (show (model prog w).w.params.followText "set-order" = true from hb)];exact wpAny_bind (wpAny_askSetting (wpAny_pure (wpAny_pure h)))
theorem ui5 (hb:byT w=false) (hS:s.heap.get? S=some o) (hd:o.data=.set es ep t) (hf:t.fits es.size=true) (hl:t.led=true) (hp:t.plain=true \/ es.size<=1) {Q:Option (Value × Nat)->Shared->Prop} {sl g:Nat}
  (h:Q (match es[SetTable.below t.place sl]?,t.place[SetTable.below t.place sl]? with | some (_,x),some j=>some (x,j+1) | _,_=>none) s) :
  wpAny (model prog w) A (setNext S sl g ep) Q E s:=by
 unfold setNext;refine wpAny_bind (wpAny_setState_of hS hd hf ?_);dsimp only;unfold setsByText;refine wpAny_bind (wpAny_bind (wpAny_askSetting (wpAny_pure ?_)));rw [if_neg (show ¬ (model prog w).w.params.followText "set-order" = true from by rw [show (model prog w).w.params.followText "set-order" = false from hb];simp)];split
 ·rename_i hdr
  have:(!t.plain && decide (es.size > 1))=true:=hdr;simp at this
  rcases hp with hp | hp
  ·rw [hp] at this;simp at this
  ·omega
 ·refine wpAny_bind (m:=_) ?_
  show wpAny _ _ (if (!t.led && !es.isEmpty)=true then _ else _) _ _ _
  rw [if_neg (by rw [hl];simp)];exact wpAny_pure (wpAny_pure h)
end
section
variable {prog:Program} {w:World} {A:Around} {E:Value->Shared->Prop} {s:Shared} {S:Addr} {o:Obj} {es:Array (Int × Value)} {t:SetTable} {ep:Nat}
structure Wk (prog:Program) (w:World) (A:Around) (S:Addr) (z0:Nat) (us:List Value) (it:Addr) (s:Shared):Prop where
 ge:z0<=it
 ex:∃ (fp:List Addr) (St:Nat->Shared->Prop),(∀ b ∈ fp,b=S \/ z0<=b) /\ it ∈ fp /\ (∀ b ∈ fp,b < s.heap.objs.size) /\ WalksS prog w A it fp [it] (fun a b=>b=a) us.length (fun i v=>us.toArray[i]?=some v) St /\ St 0 s
theorem vp7 {Q:Value->Shared->Prop} (hh:A.handled=none) (hS:s.heap.get? S=some o) (hex:o.ExactSet) (hd:o.data=.set es ep t) (hf:t.fits es.size=true) (ht:Tb (!byT w) t) (hsc:es.size < scanBound)
  (h:∀ (it:Addr) (h':Heap) d' (us:List Value),us.Perm (es.toList.map (·.2))->(∀ b o,s.heap.get? b=some o->h'.get? b=some o) ->
   Wk prog w A S s.heap.objs.size us it { s with heap:=h',drawn:=d' }->Q (.ref it) { s with heap:=h',drawn:=d' }):wpAny (model prog w) A (pyIter (.ref S)) Q E s:=by
 have hT:s.TypeIs (.ref S) "set" := ⟨o,hS,hex.1⟩;have hlt:=Heap.lt_size hS;refine wpAny_pyIter_slot hT slot_set_iter (wpAny_call_entry slot_set_iter hT u89 ?_ (uc3 _));unfold Builtin.«frozenset.__iter__»;refine wpAny_bind (m:=Builtin.Frozenset.slot0 _ _) (wpAny_pure ?_);refine wpAny_bind (m:=Builtin.Frozenset.sizeOf S) (wpAny_bind (wpAny_setEntries_of hS hd hf (wpAny_pure ?_)));refine wpAny_bind ?_;unfold setDrawn;refine wpAny_bind (wpAny_setState_of hS hd hf ?_);dsimp only;unfold setsByText;refine wpAny_bind (wpAny_bind (wpAny_askSetting (wpAny_pure (wpAny_pure ?_))));have hwp:(model prog w).w.params.followText "set-order" = byT w:=rfl;rw [hwp];have fin:∀ (first:Value) (h1:Heap) d1 (us:List Value),us.Perm (es.toList.map (·.2))->(∀ b o,s.heap.get? b=some o->h1.get? b=some o)->s.heap.objs.size<=h1.objs.size ->
   Wk prog w A S s.heap.objs.size us h1.objs.size { s with heap:=h1.push { cls:=.type "set_iterator",data:=.fields #[first,.int 0 0,.ref S,.int es.size 0,.int ep 0] },drawn:=d1 } ->
   wpAny (model prog w) A.in1 (do ret (<- newFields "set_iterator" [first,rawInt 0,.ref S,rawInt es.size,rawInt (<- setEpoch S)]))
    (fun fin s'=>∃ v,fin=.done (.ret v) /\ ∃ T' r,s'.TypeIs v T' /\ typeLookup (.type T') "__next__" = pure (some r) /\ Q v s') E { s with heap:=h1,drawn:=d1 }:=by
  intro first h1 d1 us hp hk hz hw;refine wpAny_bind (wpAny_setEpoch_of (hk _ _ hS) hd hf ?_);refine wpAny_bind (m:=newFields _ _) (wpAny_newObj_type (wpAny_pure ⟨_,rfl, "set_iterator",_,⟨_,Heap.get?_push_size _ rfl,rfl⟩,slot_si_next.lookup,?_⟩));exact h _ _ d1 us hp (fun b o e=>Heap.get?_push_of_some _ (hk b o e)) hw
 have fsz:t.place.size=es.size:=by
  unfold SetTable.fits at hf;simp at hf;exact hf.1
 have got:∀ (h1:Heap) (first:Value),IsSI (h1.push { cls:=.type "set_iterator",data:=.fields #[first,.int 0 0,.ref S,.int es.size 0,.int ep 0] }) h1.objs.size S first 0 es.size ep:=fun h1 first=>⟨_,Heap.get?_push_size _ rfl,rfl,rfl⟩
 have hne:S ≠ s.heap.objs.size:=Nat.ne_of_lt hlt;have zl:es.size<=sizeLine:=by
  have:scanBound<=sizeLine:=by decide
  omega
 split
 ·rename_i hdr
  refine wpAny_bind (v14 _ _ _ _ (by simp) fun ys d' hp=>?_);have hyl:ys.length=es.size:=by rw [hp.length_eq,List.length_range]
  refine wpAny_bind (wpAny_newTuple ?_ (by rw [List.length_map,hyl];exact zl));have hk1:∀ b ob,s.heap.get? b=some ob->(s.heap.push { cls:=.type "tuple",data:=.seq (ys.map fun (i:Nat)=>rawInt i).toArray }).get? b=some ob:=fun b ob e=>Heap.get?_push_of_some _ e
  have hsz1:=Heap.size_push s.heap { cls:=.type "tuple",data:=.seq (ys.map fun (i:Nat)=>rawInt i).toArray };have hT1:(s.heap.push { cls:=.type "tuple",data:=.seq (ys.map fun (i:Nat)=>rawInt i).toArray }).get? s.heap.objs.size=some { cls:=.type "tuple",data:=.seq (ys.map fun (i:Nat)=>rawInt i).toArray }:=Heap.get?_push_size _ rfl
  show wpAny _ _ _ _ _ { s with heap:=s.heap.push { cls:=.type "tuple",data:=.seq (ys.map fun (i:Nat)=>rawInt i).toArray },drawn:=d' }
  generalize s.heap.push { cls:=.type "tuple",data:=.seq (ys.map fun (i:Nat)=>rawInt i).toArray }=h1 at hk1 hsz1 hT1 ⊢;have hs1:s.heap.objs.size < h1.objs.size:=by rw [hsz1];exact Nat.lt_succ_self _
  have hpm:(ys.map fun p=>((es[p]?).map (·.2)).getD .none).Perm (es.toList.map (·.2)):=by
   refine (hp.map _).trans (List.Perm.of_eq (List.ext_getElem (by simp) fun j h1 h2=>?_));have hj:j < es.size:=by simpa using h1
   simp [hj]
  refine fin _ h1 d' _ hpm hk1 (by omega) ⟨by omega,[h1.objs.size,S,s.heap.objs.size],_,fun b hb=>?_,by simp,fun b hb=>?_,vf1 (nl:=0) (ps:=(ys.map fun (i:Nat)=>rawInt i).toArray) hh (Nat.ne_of_lt (Nat.lt_trans hlt hs1)) (Nat.ne_of_lt hs1) _ (by simp) (by simp) rfl hd hf (by rw [List.length_map,hyl]) fun i v hv=>?_,?_,Heap.get?_push_of_some _ (hk1 _ _ hS),Heap.get?_push_of_some _ hT1⟩
  ·simp at hb;rcases hb with rfl | rfl | rfl
   ·right;omega
   ·left;rfl
   ·right;exact Nat.le_refl _
  ·simp at hb
   have:=Heap.size_push h1 { cls:=.type "set_iterator",data:=.fields #[.ref s.heap.objs.size,.int 0 0,.ref S,.int es.size 0,.int ep 0] }
   show b < (h1.push _).objs.size
   rw [this]
   rcases hb with rfl | rfl | rfl
   ·exact Nat.lt_succ_self _
   ·exact Nat.lt_succ_of_lt (Nat.lt_trans hlt hs1)
   ·exact Nat.lt_succ_of_lt hs1
  ·simp at hv
   obtain ⟨p,hp1,hp2⟩:=hv;have hpm2:p ∈ ys:=List.mem_of_getElem? hp1;have hpl:p < es.size:=by simpa using hp.mem_iff.mp hpm2
   refine ⟨p,0,es[p].1,by simp [hp1,rawInt],?_⟩;rw [Array.getElem?_eq_getElem hpl] at hp2 ⊢;simp at hp2;rw [<- hp2]
  ·have:=got h1 (.ref s.heap.objs.size)
   rw [List.length_map,hyl];exact this
 ·rename_i hdr
  have hdr2:¬ (!byT w && (!t.plain && decide (es.size > 1)))=true:=hdr;refine wpAny_bind (wpAny_pure ?_);have mk:∀ (us:List Value) (sl:Nat->Nat),us.length=es.size->sl 0=0->us.Perm (es.toList.map (·.2)) ->
    (∀ (i:Nat) (s:Shared) (v:Value) (E':Value->Shared->Prop) (Q':Option (Value × Nat)->Shared->Prop),us.toArray[i]?=some v->s.heap.get? S=some o->Q' (some (v,sl (i+1))) s->wpAny (model prog w) A.in1 (setNext S (sl i) i ep) Q' E' s) ->
    (∀ (s:Shared) (E':Value->Shared->Prop) (Q':Option (Value × Nat)->Shared->Prop),s.heap.get? S=some o->Q' none s->wpAny (model prog w) A.in1 (setNext S (sl es.size) es.size ep) Q' E' s) ->
    Wk prog w A S s.heap.objs.size us s.heap.objs.size { s with heap:=s.heap.push { cls:=.type "set_iterator",data:=.fields #[rawInt 0,.int 0 0,.ref S,.int es.size 0,.int ep 0] },drawn:=s.drawn }:=by
   intro us sl hul h0 hp hx hz;refine ⟨Nat.le_refl _,[s.heap.objs.size,S],_,fun b hb=>?_,by simp,fun b hb=>?_,vf2 hh hne sl _ (by simp) hd hf hul.symm hx (by rw [hul];exact hz),?_,Heap.get?_push_of_some _ hS⟩
   ·simp at hb;rcases hb with rfl | rfl
    ·right;exact Nat.le_refl _
    ·left;rfl
   ·simp at hb
    have:=Heap.size_push s.heap { cls:=.type "set_iterator",data:=.fields #[rawInt 0,.int 0 0,.ref S,.int es.size 0,.int ep 0] }
    show b < (s.heap.push _).objs.size
    rw [this]
    rcases hb with rfl | rfl
    ·exact Nat.lt_succ_self _
    ·exact Nat.lt_succ_of_lt hlt
   ·rw [h0,hul]
    exact got s.heap (rawInt 0)
  by_cases hb:byT w=true
  ·have hpl:=(uo0 (w.params.setOrder S ep) es)
   have hln:((pickOrder (w.params.setOrder S ep) es).toList.map (·.2)).length=es.size:=by rw [List.length_map,hpl.length_eq,Array.length_toList]
   refine fin _ s.heap s.drawn _ (hpl.map _) (fun _ _ e=>e) (Nat.le_refl _) (mk _ (fun _=>0) hln rfl (hpl.map _) (fun i s v E' Q' hv hs q=>ue0 hb hs hd hf ?_) fun s E' Q' hs q=>ue0 hb hs hd hf ?_)
   ·simp at hv
    obtain ⟨k,hk⟩:=hv;rw [hk];exact q
   ·rw [Array.getElem?_eq_none (by rw [<- Array.length_toList,hpl.length_eq,Array.length_toList];exact Nat.le_refl _)]
    exact q
  ·have hb0:byT w=false:=by simpa using hb
   have hled:t.led=true:=by rw [ht.led,hb0];rfl
   have hpl:t.plain=true \/ es.size<=1:=by
    rw [hb0] at hdr2;simp at hdr2
    by_cases z:t.plain=true
    ·exact .inl z
    ·exact .inr (hdr2 (by simpa using z))
   have bl:∀ i,i<=es.size->SetTable.below t.place (if i=0 then 0 else t.place.getD (i - 1) 0+1)=i:=fun i hi=>by
    rcases Nat.eq_zero_or_pos i with rfl | z
    ·rw [if_pos rfl];exact ul6 ht.up
    ·rw [if_neg (by omega)]
     have h1:i - 1 < t.place.size:=by omega
     have e1:t.place.getD (i - 1) 0=t.place[i - 1]:=by simp [Array.getD,h1]
     rw [e1,ul7 ht.up h1];omega
   refine fin _ s.heap s.drawn _ (List.Perm.refl _) (fun _ _ e=>e) (Nat.le_refl _) (mk _ (fun i=>if i=0 then 0 else t.place.getD (i - 1) 0+1) (by simp) rfl (List.Perm.refl _) (fun i s v E' Q' hv hs q=>ui5 hb0 hs hd hf hled hpl ?_) fun s E' Q' hs q=>ui5 hb0 hs hd hf hled hpl ?_)
   ·have hi:i < es.size:=by
     have:=(Array.getElem?_eq_some_iff.mp hv).1;simpa using this
    have hi2:i < t.place.size:=by omega
    rw [bl i (by omega),Array.getElem?_eq_getElem hi,Array.getElem?_eq_getElem hi2];simp [hi] at hv
    show Q' (some (es[i].2,t.place[i]+1)) s
    rw [hv];rw [if_neg (by omega)] at q;have e1:t.place.getD (i+1 - 1) 0=t.place[i]:=by simp [Array.getD,hi2]
    rw [e1] at q;exact q
   ·rw [bl es.size (Nat.le_refl _),Array.getElem?_eq_none (Nat.le_refl _)]
    exact q
end
section
variable {prog:Program} {w:World} {A:Around} {E:Value->Shared->Prop} {s:Shared} {S:Addr}
theorem uu9 {r:Addr} {Q:Bool->Shared->Prop} (hT:s.TypeIs (.ref r) "set") (h:Q false s):wpAny (model prog w) A (Builtin.List.listLengthHint (.ref r)) Q E s:=by
 unfold Builtin.List.listLengthHint;refine wpAny_bind (wpAny_specialOf hT PySem.F.slot_set_len.lookup ?_);generalize hid:("set.__len__" : String)=id0
 wp_delta
 rw [show splitId id0=some ("set", "__len__") from by subst hid;decide];subst hid;refine wpAny_bind (wpAny_isInstance (T := "set") (b:=true) hT (by rw [isSubtype_type];kernel_rfl) ?_);refine wpAny_ite_split (fun hab=>absurd hab (by decide)) (fun _=>?_);refine wpAny_ite_split (fun _=>?_) (fun hab=>absurd (by decide) hab);refine wpAny_bind (wpAny_typeOf hT ?_);exact wpAny_pure h
theorem collect_set {R:List Value->Shared->Prop} {ms:List Int} (hh:A.handled=none) (hS:SetI prog w (!byT w) s.heap S ms)
  (h:∀ (h':Heap) d' (tk:Nat) (us:List Value) (ns:List Int),(∀ b o,s.heap.get? b=some o->h'.get? b=some o)->IntsAre us ns->ns.Perm ms->us.length<=sizeLine->R us { s with heap:=h',drawn:=d',toks:=tk }) :
  wpAny (model prog w) A (collect (.ref S)) R E s:=by
 obtain ⟨o,es,ep,t,ho,hex,hd,hel,⟨ns0,hi0,hp0⟩,hb,hf,ht⟩:=hS;have hlt:=Heap.lt_size ho;have zl:es.size<=sizeLine:=by
  have:scanBound<=sizeLine:=by decide
  omega
 unfold collect;refine wpAny_bind (wpAny_runValue (codeAny_builtin PySem.F.entry_proto_collect ?_));rw [Around.under_plainId PySem.F.plain_proto_collect _]
 show wpAny _ A.in1 (newList [] >>= fun l=>again (.builtin "list.__iadd__" ⟨[l,.ref S],[]⟩)) _ _ s
 refine wpAny_bind (wpAny_newObj_type ?_);refine wpAny_pure ⟨plainId_quiet PySem.F.plain_list_iadd _,codeAny_builtin PySem.F.entry_list_iadd ?_⟩;rw [Around.under_plainId PySem.F.plain_list_iadd _];have hS₁:(s.heap.push { cls:=.type "list",data:=.seq ([]:List Value).toArray }).get? s.heap.objs.size=some { cls:=.type "list",data:=.seq #[] }:=Heap.get?_push_size _ rfl;have hk1:∀ b ob,s.heap.get? b=some ob->(s.heap.push { cls:=.type "list",data:=.seq ([]:List Value).toArray }).get? b=some ob:=fun b ob e=>Heap.get?_push_of_some _ e
 have hz1:s.heap.objs.size < (s.heap.push { cls:=.type "list",data:=.seq ([]:List Value).toArray }).objs.size:=by rw [Heap.size_push];exact Nat.lt_succ_self _
 show wpAny _ A.in1 (Builtin.List.listExtendWith (.ref s.heap.objs.size) (.ref S) (.ref s.heap.objs.size)) _ _ { s with heap:=s.heap.push { cls:=.type "list",data:=.seq ([]:List Value).toArray } }
 generalize s.heap.push { cls:=.type "list",data:=.seq ([]:List Value).toArray }=h1 at hS₁ hk1 hz1 ⊢;unfold Builtin.List.listExtendWith;have hT1:Shared.TypeIs { s with heap:=h1 } (.ref S) "set" := ⟨o,hk1 _ _ ho,hex.1⟩
 refine wpAny_bind (wpAny_typeOf hT1 ?_);have hsr:Builtin.List.listSameRef (.ref s.heap.objs.size) (.ref S)=false:=by
  show (s.heap.objs.size == S)=false
  exact beq_eq_false_iff_ne.mpr (Nat.ne_of_gt hlt)
 have n1:((Value.type "set") == (Value.type "list"))=false:=by decide
 have n2:((Value.type "set") == (Value.type "tuple"))=false:=by decide
 simp only [hsr,n1,n2,Bool.or_false,Bool.false_eq_true,if_false];refine wpAny_bind (vp7 (s:={ s with heap:=h1 }) hh (hk1 _ _ ho) hex hd hf ht hb fun it h2 d2 us hpu hk2 hw=>?_);obtain ⟨hge,fp,St,hfp,hit,hfl,W,st⟩:=hw;have hul:us.length=es.size:=by rw [hpu.length_eq,List.length_map,Array.length_toList]
 have hSf:s.heap.objs.size ∉ fp:=fun z=>by
  rcases hfp _ z with e | e
  ·exact absurd hlt (by rw [e];exact Nat.lt_irrefl _)
  ·exact absurd (Nat.lt_of_lt_of_le hz1 e) (Nat.lt_irrefl _)
 obtain ⟨ns1,hi1,hp1⟩:=u80 hi0 hpu;have key:∀ (h3:Heap) (c₁:Nat),St 0 { s with heap:=h3,drawn:=d2 }->(∀ b ob,s.heap.get? b=some ob->h3.get? b=some ob)->h3.get? s.heap.objs.size=some { cls:=.type "list",data:=.seq #[] c₁ } ->
   codeAny (model prog w) A (.builtin "list.extend.loop" ⟨[.ref s.heap.objs.size,.ref it,.ref s.heap.objs.size],[]⟩)
    (fun (q:Result) (s':Shared)=>∃ (h':Heap) (tk:Nat) (acc:Array Value) (c':Nat),q=.ok (.ret (.ref s.heap.objs.size)) /\ s'={ s with heap:=h',drawn:=d2,toks:=tk } /\
     (∀ b o,s.heap.get? b=some o->h'.get? b=some o) /\ h'.get? s.heap.objs.size=some { cls:=.type "list",dict:=none,data:=.seq acc c',slots:=#[] } /\ acc.toList=us) { s with heap:=h3,drawn:=d2 }:=by
  intro h3 c₁ st3 hk3 hS3;refine codeAny_extend_loopS W (by omega) _ hSf _ us.length 0 _ #[] c₁ rfl (Nat.zero_le _) st3 hS3 (ItemsOf.nil _) fun s' acc' c' hm hS' hacc=>?_
  obtain ⟨h',g',d',tk',os'⟩:=s';have eg:g'=s.gens:=hm.gens;have ed:d'=d2:=hm.drawn;have eo:os'=s.os:=hm.os;subst eg;subst ed;subst eo;refine ⟨h',tk',acc',c',rfl,rfl,fun b ob e=>hm.heap b ob (fun z=>?_) (hk3 b ob e),hS',?_⟩
  ·simp only [List.mem_cons,List.not_mem_nil,or_false] at z
   have hbl:=Heap.lt_size e
   rcases z with z | z
   ·exact absurd hbl (by rw [z];exact Nat.lt_irrefl _)
   ·exact absurd (Nat.lt_of_lt_of_le (Nat.lt_trans hbl hz1) (show h1.objs.size<=b by rw [z];exact hge)) (Nat.lt_irrefl _)
  ·have hz:acc'.size=us.length:=hacc.1
   refine List.ext_getElem (by rw [Array.length_toList,hz]) fun j j1 j2=>?_
   have hj:j < acc'.size:=by simpa using j1
   have:=hacc.2 j acc'[j] (Array.getElem?_eq_getElem hj);rw [Array.getElem_toList];simp at this;exact (List.getElem?_eq_some_iff.mp this).2.symm
 refine wpAny_bind (wpAny_holding (uu9 (s:={ s with heap:=h2,drawn:=d2 }) ⟨o,hk2 _ _ (hk1 _ _ ho),hex.1⟩ ?_));have hk12:∀ b ob,s.heap.get? b=some ob->h2.get? b=some ob:=fun b ob e=>hk2 _ _ (hk1 _ _ e)
 have hS₂:h2.get? s.heap.objs.size=some { cls:=.type "list",data:=.seq #[] }:=hk2 _ _ hS₁;refine wpAny_ite_split (fun _=>?_) (fun _=>wpAny_pure ⟨plainId_quiet PySem.F.plain_extend_loop _,codeAny_mono (key _ _ st hk12 hS₂) fun q s₂ y=>?_⟩)
 ·refine wpAny_bind (wpAny_rule ?_)
  refine wpAny_bind ?_
  show wpAny _ _ (updateSeq s.heap.objs.size (·.push .none) >>= fun _=>updateSeq s.heap.objs.size (·.pop)) _ _ _
  refine wpAny_bind (wpAny_updateSeq hS₂ rfl ?_);have hS₃:=Heap.get?_update_self (Obj.mapSeq (·.push Value.none)) hS₂ rfl;refine wpAny_updateSeq (hz:=by seq_fits) hS₃ rfl ?_;have hS₄:=Heap.get?_update_self (Obj.mapSeq (·.pop)) hS₃ rfl;refine wpAny_pure ⟨plainId_quiet PySem.F.plain_extend_loop _,codeAny_mono (key _ _ ?_ (fun b ob e=>?_) hS₄) fun q s₂ y=>?_⟩
  ·refine W.frame 0 { s with heap:=h2,drawn:=d2 } _ s.toks st (Nat.le_refl _) fun b hb ob e=>?_
   have hbS:b ≠ s.heap.objs.size:=fun z=>hSf (z ▸ hb)
   exact (Heap.get?_update_other _ _ (Ne.symm hbS)).trans ((Heap.get?_update_other _ _ (Ne.symm hbS)).trans e)
  ·have hbS:b ≠ s.heap.objs.size:=Nat.ne_of_lt (Heap.lt_size e)
   exact (Heap.get?_update_other _ _ (Ne.symm hbS)).trans ((Heap.get?_update_other _ _ (Ne.symm hbS)).trans (hk12 _ _ e))
  ·obtain ⟨h',tk,acc,c',rfl,rfl,hk,hD,rfl⟩:=y
   show wpAny _ A (load s.heap.objs.size >>= _) _ _ _
   refine wpAny_bind (wpAny_load hD ?_);exact wpAny_pure (h h' d2 tk _ ns1 hk hi1 (hp1.trans hp0) (by omega))
 ·obtain ⟨h',tk,acc,c',rfl,rfl,hk,hD,rfl⟩:=y
  show wpAny _ A (load s.heap.objs.size >>= _) _ _ _
  refine wpAny_bind (wpAny_load hD ?_);exact wpAny_pure (h h' d2 tk _ ns1 hk hi1 (hp1.trans hp0) (by omega))
end
end SS
namespace L2
open PySem PySem.Spec PyProof.Rows
section
variable {X:Cx}
theorem Inv.drew {pins:List (Addr × Obj)} {σ:List (Option V)} {H:Hp} {s:Shared} {d':Drawn} (I:Inv X pins σ H s):Inv X pins σ H { s with drawn:=d' }:=⟨I.ok,I.os,I.bare,I.base,I.loc,I.cell,I.free,I.freeC,I.pin,I.hok,I.len⟩
def u92 (K:W.Frag) (ta:TA):TE:=fun σ H Q=>ta σ H fun vs H1=>∃ (a:Addr) (ns:List Int),vs=[.ref a] /\ SqL K H1 a (ns.map V.int) /\ ns.Nodup /\ ns.length<=1000 /\ ∀ (l:Addr) (ns':List Int),H1 l=none->ns'.Perm ns->ns'.Pairwise (·<=·)->Q (.ref l) (upd H1 l (.lst (ns'.map V.int)))
theorem ut6:bootBuiltins "set" = some (.type "set"):=by decide
theorem uf0:bootBuiltins "sorted" = some (.builtin "sorted"):=by decide
theorem ud8 {a:Expr} {ta:TA} {p p2 pos pos2:Pos} {k:Nat} (hr:Room k X.A) (hg:Gl X "set") (hm:X.mg "set" = none) (hg2:Gl X "sorted") (hm2:X.mg "sorted" = none) (ha:PA X [a] ta) (hs:starEach [a] X.env=[(false,eval a X.env)]:=by rfl)
  (hs2:starEach [.Call (.Name "set" p) [a] [] pos] X.env=[(false,eval (.Call (.Name "set" p) [a] [] pos) X.env)]:=by rfl) :
  PE X (.Call (.Name "sorted" p2) [.Call (.Name "set" p) [a] [] pos] [] pos2) (u92 X.K ta):=by
 intro pins s σ H Q I h;refine wpAny_Call_Name_kw (u57 I hg2 hm2 uf0 ?_);refine PyProof.Rows.callWith_builtin1 ?_ hs2 rfl;rw [hs2]
 show wpAny _ _ (spliced ((false,eval (.Call (.Name "set" p) [a] [] pos) X.env)::backTo pos2 [])) _ _ s
 refine Calls.spliced_cons ?_;refine wpAny_Call_Name_kw (u57 I hg hm ut6 (PyProof.Rows.callWith_type1 (thn (ha pos pins s σ H _ I h) fun us s1 ⟨vs,H1,I1,r1,q1⟩=>?_) hs rfl));obtain ⟨l,ns,e,hq,hnd,hln,q⟩:=q1;subst e;cases r1 with
 | cons r rr =>
  cases rr;cases r;obtain ⟨its,rv,pl,hz⟩:=I1.list hq;have hi:=intsAre_of rv;have hl:=hi.length;refine SS.call_set (ns:=ns) hr.hd pl.isList (by simpa using hi) hnd (by have z:(1001:Nat) < scanBound:=(by decide);rw [List.size_toArray,hl];omega) fun h1 tk1 hSet hk1=>?_
  refine Calls.spliced_nil ?_;have I2:Inv X pins σ H1 { s1 with heap:=h1,toks:=tk1 }:=I1.kept fun b u e=>hk1 b u (Heap.lt_size e) e
  refine Calls.call_function_entry kind_sorted plain_sorted entry_sorted (args_sorted1 _) ?_;unfold Builtin.«sorted»;refine wpAny_bind (m:=checkCount "sorted" 1 1 _) (wpAny_pure (wpAny_bind (SS.collect_set (A:=X.A.in1) (s:={ s1 with heap:=h1,toks:=tk1 }) hr.hd hSet fun h' d' tk us ns1 hk hi1 hp1 hz1=>?_)));have I3:Inv X pins σ H1 { s1 with heap:=h',drawn:=d',toks:=tk }:=(I2.drew (d':=d')).kept hk
  refine wpAny_bind (wpAny_newList ?_ hz1);have hoL:(h'.push (seqObj "list" us.toArray 0)).get? h'.objs.size=some (seqObj "list" us.toArray 0):=Heap.get?_push_size _ rfl
  show wpAny _ _ _ _ _ { s1 with heap:=h'.push (seqObj "list" us.toArray 0),drawn:=d',toks:=tk }
  refine wpAny_bind (wpAny_holding (wpAny_call_entry slot_list_sort ⟨_,hoL,rfl⟩ entry_list_sort (uj7 hoL hi1 hz1 fun out ns' a1 a2 a3=>⟨_,rfl,?_⟩) (args_list_sort _)));obtain ⟨c,e⟩:=sortedHeap_at (out:=out) hoL;refine wpAny_pure ⟨_,rfl,.ref h'.objs.size,_,I3.laid (t':=tk) (fun b u hb=>?_) (Nat.le_refl _) (show ObjOk X.prog X.w _ _ _ (.lst (ns'.map V.int)) from ⟨by rw [List.length_map,a2.length_eq,<- hi1.length];exact hz1,out.toList,c,u54 a1,e⟩),rfl,q _ _ (I3.hok.fresh (Nat.le_refl _)) (a2.trans hp1) a3⟩;have hb':=Heap.lt_size hb;rw [sortedHeap_old (Nat.ne_of_lt hb') (by rw [size_push'];exact Nat.lt_succ_of_lt hb')];exact Heap.get?_push_of_some _ hb
end
end L2
namespace L3
open PySem PySem.Spec PyProof.Rows L2
section
variable {X:Cx}
def u65 (ts:TA3):TE3:=fun σ G q=>ts σ G fun ds G1=>∃ (a:Addr) (ns:List Int),ds=[.ref a] /\ G1 a=some (.lst (ns.map .int)) /\ ns.Nodup /\ ns.length<=1000 /\ ∀ (p:Addr) (ns':List Int),G1 p=none->ns'.Perm ns->ns'.Pairwise (·<=·)->q (.ref p) (gup G1 p (.lst (ns'.map .int)))
theorem ub3 {K:W.Frag} {t:TA3} {σ:L2.St} {H:Hp} {Q:VK} (h:lowE K (u65 t) σ H Q):u92 K (lowA K t) σ H Q:=by
 obtain ⟨σd,G,q,rs,c,t,f⟩:=h;refine ⟨σd,G,_,rs,c,t,fun ds G1 vs H1 r1 c1 l1 t1=>?_⟩;obtain ⟨a,ns,rfl,ga,nd,ln,t1⟩:=t1;obtain ⟨v,rfl,rv⟩:=r1.one;cases rv.ref_inv;obtain ⟨xs,s1,q1⟩:=u14 c1 (show u11 (G1 a)=some (ns.map .int) by rw [ga];rfl);obtain rfl:=u43 q1;exact ⟨a,ns,rfl,s1,nd,ln,fun p ns' hp h1 h2=>f _ _ _ _ RelD.refI (c1.lstNew hp (ua6 ns')) (l1.trans (Le.fresh hp)) (t1 p ns' (c1.fresh hp) h1 h2)⟩
theorem ug6 {k:Nat} {e:Expr} {ts:TA3} {p1 p2 pos pos2:Pos} (hr:Room k X.A) (g1:Gl X "set") (m1:X.mg "set" = none) (g2:Gl X "sorted") (m2:X.mg "sorted" = none) (ha:A3 X [e] ts) (hs:starEach [e] X.env=[(false,eval e X.env)]:=by rfl)
  (hs2:starEach [.Call (.Name "set" p2) [e] [] pos2] X.env=[(false,eval (.Call (.Name "set" p2) [e] [] pos2) X.env)]:=by rfl) :
  E3 X (.Call (.Name "sorted" p1) [.Call (.Name "set" p2) [e] [] pos2] [] pos) (u65 ts):=u20 (ud8 hr g1 m1 g2 m2 ha hs hs2) fun _ _ _=>ub3
end
end L3
namespace Law
open PySem L2 L3
def top (i:Nat):Stmt:=PySem.Challenge.pw_nolitter_k42_sets_come_to.main.body.getD i (.Pass ⟨0,0,0,0⟩)
abbrev v60:Stmt:=top 1
abbrev v58:Stmt:=top 2
abbrev v57:Stmt:=top 3
abbrev v61:Stmt:=top 4
abbrev v67:Stmt:=top 5
abbrev un3:Stmt:=top 7
abbrev v59:Stmt:=top 8
abbrev v66:Stmt:=top 9
abbrev v63:Stmt:=top 11
abbrev v65:Stmt:=top 12
abbrev uv1:Stmt:=top 13
abbrev v62:Stmt:=top 14
abbrev v64:Stmt:=top 15
abbrev uv0:Stmt:=top 16
local macro_rules | `(tactic| ac_nf)=>`(tactic| exact ⟨rfl,rfl,rfl,by decide,rfl,by decide,by decide⟩)
theorem sc_jai:FnScope ["move", "marks", "n", "s", "k"] ["move", "marks", "n", "s"] (u04 v60):=by ac_nf
theorem v19:FnScope ["k"] ["k"] (u04 v58):=by ac_nf
theorem v18:FnScope ["k", "marks"] ["k", "marks"] (u04 v57):=by ac_nf
theorem sc_jah:FnScope ["marks", "many"] ["marks"] (u04 v61):=by ac_nf
theorem v22:FnScope ["move", "marks"] ["move", "marks"] (u04 v67):=by ac_nf
theorem sc_jak:FnScope ["marks", "n", "s", "moves"] ["marks", "n", "s"] (u04 un3):=by ac_nf
theorem v20:FnScope ["k", "marks"] ["k", "marks"] (u04 v59):=by ac_nf
theorem sc_jab:FnScope ["n", "s", "found", "ahead", "marks", "move", "other"] ["n", "s"] (u04 v66):=by ac_nf
theorem v21:FnScope ["_law_script"] ["_law_script"] (u04 v63):=by ac_nf
theorem sc_jac:FnScope ["_law_source_here", "_law_many", "_law_digit", "_law_cell", "_law_one", "_law_other"] ["_law_source_here", "_law_many"] (u04 v65):=by ac_nf
theorem sc_jae:FnScope ["_law_marks", "_law_n", "_law_s", "_law_many", "_law_found", "_law_k"] ["_law_marks", "_law_n", "_law_s"] (u04 uv1):=by ac_nf
theorem sc_jag:FnScope ["_law_source_here", "_law_n", "_law_s", "_law_most", "_law_marks", "_law_way_here", "_law_k", "_law_some"] ["_law_source_here", "_law_n", "_law_s", "_law_most"] (u04 v62):=by ac_nf
theorem sc_jad:FnScope ["_law_n", "_law_s", "_law_found", "_law_due", "_law_marks", "_law_word", "_law_k", "_law_other"] ["_law_n", "_law_s"] (u04 v64):=by ac_nf
theorem sc_law:FnScope ["_law_script", "_law_source_here", "_law_n", "_law_s", "_law_way_here", "_law_found", "_law_marks", "_law_word", "_law_k", "_law_due"] ["_law_script"] (u04 uv0):=by ac_nf
set_option genInjectivity false in
set_option genSizeOf false in
structure Txt (K:W.Frag) (mg:Str->Option Value) where
 f_jai:FnAt K "may_do" "may_do" v60 ["move", "marks", "n", "s"]
 g_may_do:mg "may_do" = some (.ref f_jai.a)
 f_jal:FnAt K "set_of" "set_of" v58 ["k"]
 g_set_of:mg "set_of" = some (.ref f_jal.a)
 f_jam:FnAt K "stands" "stands" v57 ["k", "marks"]
 g_stands:mg "stands" = some (.ref f_jam.a)
 f_jah:FnAt K "many_in" "many_in" v61 ["marks"]
 g_many_in:mg "many_in" = some (.ref f_jah.a)
 f_jaa:FnAt K "behind" "behind" v67 ["move", "marks"]
 g_behind:mg "behind" = some (.ref f_jaa.a)
 f_jak:FnAt K "moves_from" "moves_from" un3 ["marks", "n", "s"]
 g_moves_from:mg "moves_from" = some (.ref f_jak.a)
 f_jaj:FnAt K "move_on" "move_on" v59 ["k", "marks"]
 g_move_on:mg "move_on" = some (.ref f_jaj.a)
 f_jab:FnAt K "come_to" "come_to" v66 ["n", "s"]
 g_come_to:mg "come_to" = some (.ref f_jab.a)
 f_jaf:FnAt K "_law_source" "_law_source" v63 ["_law_script"]
 g_law_source:mg "_law_source" = some (.ref f_jaf.a)
 f_jac:FnAt K "_law_draw" "_law_draw" v65 ["_law_source_here", "_law_many"]
 g_law_draw:mg "_law_draw" = some (.ref f_jac.a)
 f_jae:FnAt K "_law_moves" "_law_moves" uv1 ["_law_marks", "_law_n", "_law_s"]
 g_law_moves:mg "_law_moves" = some (.ref f_jae.a)
 f_jag:FnAt K "_law_way" "_law_way" v62 ["_law_source_here", "_law_n", "_law_s", "_law_most"]
 g_law_way:mg "_law_way" = some (.ref f_jag.a)
 f_jad:FnAt K "_law_grown" "_law_grown" v64 ["_law_n", "_law_s"]
 g_law_grown:mg "_law_grown" = some (.ref f_jad.a)
 f_law:FnAt K "law" "law" uv0 ["_law_script"]
 g_law:mg "law" = some (.ref f_law.a)
 b_abs:mg "abs" = none
 b_any:mg "any" = none
 b_bool:mg "bool" = none
 b_int:mg "int" = none
 b_isinstance:mg "isinstance" = none
 b_len:mg "len" = none
 b_list:mg "list" = none
 b_range:mg "range" = none
 b_reversed:mg "reversed" = none
 b_set:mg "set" = none
 b_sorted:mg "sorted" = none
end Law
namespace Law
open PySem L2 L3 Rw
section
variable {P:Program} {w:World} {K:W.Frag} {mg:Str->Option Value} {base:Heap} (T:Txt K mg)
def vd6 (_:Txt K mg):Sp3:=fun ds G R=>∃ (k:Nat),ds=[.int (k:Int)] /\ k<=1000 /\ (k=0->R (.int 0) G) /\ (∀ i,k=i+1->R (.int (1 * 2 ^ i)) G)
def uz9 (_:Txt K mg):Sp3:=fun ds G R=>∃ (k m:Nat),ds=[.int (k:Int),.int (m:Int)] /\ k<=1000 /\ R (.bl (stn k m)) G
def vr8 (_:Txt K mg):Sp3:=fun ds G R=>∃ (b m:Nat),ds=[.int (m:Int)] /\ m < 2 ^ b /\ R (.int (pc b m:Int)) G
def vr7 (_:Txt K mg):Sp3:=fun ds G R=>∃ (k m n s:Nat),ds=[pD (mvP m k),.int (m:Int),.int (n:Int),.int (s:Int)] /\ 1<=k /\ k<=n /\ n<=1000 /\ m < 2 ^ n /\ R (.bl (mvB m (pc n m) s k)) G
def vr6 (_:Txt K mg):Sp3:=fun ds G R=>∃ (k m:Nat),ds=[.int (k:Int),.int (m:Int)] /\ k<=1000 /\ R (pD (mvP m k)) G
def vd7 (_:Txt K mg):Sp3:=fun ds G R=>∃ (m n s:Nat),ds=[.int (m:Int),.int (n:Int),.int (s:Int)] /\ m < 2 ^ n /\ n<=1000 /\ ∀ q G',G q=none->G' q=some (.lst ((mvs m (pc n m) s n).map pD))->Grow G G'->R (.ref q) G'
def vr9 (_:Txt K mg):Sp3:=fun ds G R=>∃ (a:Addr) (ns:List Int),ds=[.ref a] /\ G a=some (.fro (ns.map .int)) /\ ∀ q l G',Src G' q l->Grow G G'->R (.ref q) G'
def v01 (_:Txt K mg):Sp3:=fun ds G R=>∃ (s a:Addr) (m:Int),ds=[.ref s,.int m] /\ Src G s a /\ 0 < m /\ m < 1073741824 /\ ∀ (v:Int) G',Ady s a G G'->0<=v->v < m->R (.int v) G'
def v00 (_:Txt K mg):Sp3:=fun ds G R=>∃ (m n s:Nat),ds=[.int (m:Int),.int (n:Int),.int (s:Int)] /\ n<=900 /\ ∀ (q:Addr) (ps:List Mv) (G':Gp),G q=none->G' q=some (.lst (ps.map mD))->(∀ p,p ∈ ps ↔ lgl n s m p)->ps.length<=1000->Grow G G'->R (.ref q) G'
theorem u61 {G:Gp} {s a:Addr} {m:Int} {q:DK} (h:Src G s a) (h0:0 < m) (h1:m < 1073741824) (k:∀ (v:Int) (G':Gp),Ady s a G G'->0<=v->v < m->q (.int v) G'):∃ R,v01 T [.ref s,.int m] G R /\ ∀ d G',R d G'->q d G' :=
 u66 (post:=fun d G'=>∃ v:Int,d=.int v /\ Ady s a G G' /\ 0<=v /\ v < m) (fun R h'=>⟨s,a,m,rfl,h,h0,h1,fun v G' x y z=>h' _ _ ⟨v,rfl,x,y,z⟩⟩) fun d G' ⟨v,e,x,y,z⟩=>by subst e;exact k v G' x y z
theorem ut4 {G:Gp} {m n s:Nat} {q:DK} (hn:n<=900) (k:∀ (q':Addr) (ps:List Mv) (G':Gp),G q'=none->G' q'=some (.lst (ps.map mD))->(∀ p,p ∈ ps ↔ lgl n s m p)->ps.length<=1000->Grow G G'->q (.ref q') G'):∃ R,v00 T [.int (m:Int),.int (n:Int),.int (s:Int)] G R /\ ∀ d G',R d G'->q d G' :=
 u66 (post:=fun d G'=>∃ (q':Addr) (ps:List Mv),d=.ref q' /\ G q'=none /\ G' q'=some (.lst (ps.map mD)) /\ (∀ p,p ∈ ps ↔ lgl n s m p) /\ ps.length<=1000 /\ Grow G G') (fun R h'=>⟨m,n,s,rfl,hn,fun q' ps G' y1 y2 y3 y4 y5=>h' _ _ ⟨q',ps,rfl,y1,y2,y3,y4,y5⟩⟩) fun d G' ⟨q',ps,e,y1,y2,y3,y4,y5⟩=>by subst e;exact k q' ps G' y1 y2 y3 y4 y5
def ve0 (_:Txt K mg):Sp3:=fun ds G R=>∃ (p:Pm) (m:Nat),ds=[pmD p,.int (m:Int)] /\ okm m p /\ R (.int (nxp m p:Int)) G
theorem uz7 {G:Gp} {k m:Nat} {q:DK} (h:k<=1000) (hq:q (.bl (stn k m)) G):∃ R,uz9 T [.int (k:Int),.int (m:Int)] G R /\ ∀ d G',R d G'->q d G':=u38 (v:=.bl (stn k m)) (G1:=G) (fun R h'=>⟨k,m,rfl,h,h'⟩) hq
def vd8 (_:Txt K mg):Sp3:=fun ds G R=>∃ (s a:Addr) (n sp most:Nat),ds=[.ref s,.int (n:Int),.int (sp:Int),.int (most:Int)] /\ Src G s a /\ n<=900 /\ most<=1000 /\ ∀ (q:Addr) (w:List Mv) (G':Gp),Ady s a G G'->G' q=some (.lst (w.map mD))->q ≠ s->q ≠ a->lgw n sp 0 w->w.length<=most->R (.ref q) G'
theorem vr1 {G:Gp} {m n s:Nat} {q:DK} (h:m < 2 ^ n) (hn:n<=1000) (k:∀ (q':Addr) (ps:List Mv) (G':Gp),G q'=none->G' q'=some (.lst (ps.map mD))->(∀ p,p ∈ ps ↔ lgl n s m p)->Grow G G'->q (.ref q') G'):∃ R,vd7 T [.int (m:Int),.int (n:Int),.int (s:Int)] G R /\ ∀ d G',R d G'->q d G' :=
 u66 (post:=fun d G'=>∃ q',d=.ref q' /\ G q'=none /\ G' q'=some (.lst ((mvs m (pc n m) s n).map pD)) /\ Grow G G') (fun R h'=>⟨m,n,s,rfl,h,hn,fun q' G' x y z=>h' _ _ ⟨q',rfl,x,y,z⟩⟩) fun d G' ⟨q',e,x,y,z⟩=>by subst e;exact k q' (mvl m (pc n m) s n) G' x (by rw [y,uo7]) (fun _=>v93) z
theorem vw5 {G:Gp} {s a:Addr} {n sp most:Nat} {q:DK} (h:Src G s a) (hn:n<=900) (hm:most<=1000) (k:∀ (q':Addr) (w:List Mv) (G':Gp),Ady s a G G'->G' q'=some (.lst (w.map mD))->q' ≠ s->q' ≠ a->lgw n sp 0 w->w.length<=most->q (.ref q') G'):∃ R,vd8 T [.ref s,.int (n:Int),.int (sp:Int),.int (most:Int)] G R /\ ∀ d G',R d G'->q d G' :=
 u66 (post:=fun d G'=>∃ (q':Addr) (w:List Mv),d=.ref q' /\ Ady s a G G' /\ G' q'=some (.lst (w.map mD)) /\ q' ≠ s /\ q' ≠ a /\ lgw n sp 0 w /\ w.length<=most) (fun R h'=>⟨s,a,n,sp,most,rfl,h,hn,hm,fun q' w G' x1 x2 x3 x4 x5 x6=>h' _ _ ⟨q',w,rfl,x1,x2,x3,x4,x5,x6⟩⟩) fun d G' ⟨q',w,e,x1,x2,x3,x4,x5,x6⟩=>by subst e;exact k q' w G' x1 x2 x3 x4 x5 x6
theorem vw6 {G:Gp} {p:Mv} {m:Nat} {q:DK} (h:okm m (some p)) (k:q (.int (xr m p.2:Int)) G):∃ R,ve0 T [mD p,.int (m:Int)] G R /\ ∀ d G',R d G'->q d G' :=
 u38 (v:=.int (xr m p.2:Int)) (G1:=G) (fun R h'=>⟨some p,m,rfl,h,h'⟩) k
def v02 (_:Txt K mg):Sp3:=fun ds G R=>∃ (n s:Nat),ds=[.int (n:Int),.int (s:Int)] /\ 1<=n /\ n<=8 /\ ∀ (q:Addr) (xs:List Nat) (G':Gp),G q=none->G' q=some (.lst (xs.map nD))->xs.Pairwise (· < ·)->(∀ x,x ∈ xs ↔ RS n s x)->xs.length<=256->Grow G G'->R (.ref q) G'
theorem ut5 {G:Gp} {n s:Nat} {q:DK} (h1:1<=n) (h8:n<=8) (k:∀ (q':Addr) (xs:List Nat) (G':Gp),G q'=none->G' q'=some (.lst (xs.map nD))->xs.Pairwise (· < ·)->(∀ x,x ∈ xs ↔ RS n s x)->xs.length<=256->Grow G G'->q (.ref q') G'):∃ R,v02 T [.int (n:Int),.int (s:Int)] G R /\ ∀ d G',R d G'->q d G' :=
 u66 (post:=fun d G'=>∃ (q':Addr) (xs:List Nat),d=.ref q' /\ G q'=none /\ G' q'=some (.lst (xs.map nD)) /\ xs.Pairwise (· < ·) /\ (∀ x,x ∈ xs ↔ RS n s x) /\ xs.length<=256 /\ Grow G G') (fun R h'=>⟨n,s,rfl,h1,h8,fun q' xs G' x1 x2 x3 x4 x5 x6=>h' _ _ ⟨q',xs,rfl,x1,x2,x3,x4,x5,x6⟩⟩) fun d G' ⟨q',xs,e,x1,x2,x3,x4,x5,x6⟩=>by subst e;exact k q' xs G' x1 x2 x3 x4 x5 x6
def vd9 (T:Txt K mg):Sp3:=v02 T
theorem vd1 {G:Gp} {n s:Nat} {q:DK} (h1:1<=n) (h8:n<=8) (k:∀ (q':Addr) (xs:List Nat) (G':Gp),G q'=none->G' q'=some (.lst (xs.map nD))->xs.Pairwise (· < ·)->(∀ x,x ∈ xs ↔ RS n s x)->xs.length<=256->Grow G G'->q (.ref q') G'):∃ R,vd9 T [.int (n:Int),.int (s:Int)] G R /\ ∀ d G',R d G'->q d G':=ut5 T h1 h8 k
def vr5 (_:Txt K mg):Sp3:=fun ds G R=>∃ (a:Addr) (ns:List Int),ds=[.ref a] /\ G a=some (.fro (ns.map .int)) /\ ns.length<=63 /\ ∀ G',R (.bl true) G'
end
end Law
set_option compiler.extract_closed false
open PySem L2 L3 Rw in
set_option hygiene false in
local macro_rules | `(tactic| simp! [$xs,*])=>`(tactic| try simp only [uz2,Int.toNat_natCast,dCall,vr0,vw2,List.append_nil,dSeq,vc5,dAsg,vc6,dRet,vw1,dIfS,dB,dAnd,dOr,dNot,vc8,dOrV,vc4,dIf,dVar,dC,dOp,dUn,dNil,vc7,dTup,dLst,dCB,dSl,vc3,ug8,dBM,dBM0,dAug,dFld,vw0,vw3,dYes,ue4,jSub,jSeq,uq9,jNil,vg1,vg0,wAny,dFor,xSub,xDiv,xMod,xPow,xShl,xShr,xAnd,xOr,xXor,uy1,tyD,ud2,u98,List.map_cons,List.map_nil,List.cons_append,List.nil_append,List.length_cons,List.length_nil,List.replicate,List.getElem?_cons_zero,List.getElem?_cons_succ,List.set_cons_zero,List.set_cons_succ,Nat.reduceAdd,Nat.reduceSub,Nat.sub_self,ud5,un0,u01,Option.bind_some,Option.bind_none,id,Bool.false_eq_true,if_true,if_false,reduceIte,true_and,and_true,decide_true,decide_false,Bool.not_true,Bool.not_false,vx1,vx0,vw9,vw8,vw7,vp4,vp3,vp2,vp6,vp5,ve2,ve1,$xs,*])
open L3 in
set_option hygiene false in
local macro_rules | `(tactic| dsimp! [$xs,*])=>`(tactic| (simp only [Go];simp! [$xs,*]))
namespace Law
open PySem L2 L3 Rw
section
variable {P:Program} {w:World} {K:W.Frag} {mg:Str->Option Value} {base:Heap} (T:Txt K mg)
theorem vl7 {n:Nat}:Ok P w mg base (n+1) T.f_jal (vd6 T):=by
 refine u37 T.f_jal v19 (fun ds G R h=>?_) (fun cdv A outer s H E hr =>
   (u07 (u34 (e_if (u21 (x_gt) (ev 0) u03 (nomark _)) (u08 uu2 u03 (u08 uf6 (ev 0) u03)) u03)))) (fun ds G R h=>?_)
 ·obtain ⟨k,rfl,_⟩:=h;rfl
 ·obtain ⟨k,rfl,hk,h0,h1⟩:=h
  cases k with
  | zero =>
   simp! [id];exact h0 rfl
  | succ i =>
   have e1:(((i+1:Nat):Int) - 1)=(i:Int):=by omega
   have c:CPow 1 (i:Int):=uj5 (by omega) (by omega);have p:((0:Int) < ((i+1:Nat):Int))=True:=eq_true (by omega);simp! [e1,c,p];exact h1 i rfl
theorem vl6 {n:Nat} (G_jal:Ok P w mg base n T.f_jal (vd6 T)):Ok P w mg base (n+1) T.f_jam (uz9 T):=by
 refine u37 T.f_jam v18 (fun ds G R h=>?_) (fun cdv A outer s H E hr =>
   (u07 (u34 (e_or (uy8 (x_eq hr) (ev 0) u03 (nomark _)) (vb9 (uy8 (x_ne hr) (u08 uj8 (ev 1) (ec T.f_jal T.g_set_of G_jal hr (u00 (ev 0) u06))) u03 (nomark _))))))) (fun ds G R h=>?_)
 ·obtain ⟨k,m,rfl,_⟩:=h;rfl
 ·obtain ⟨k,m,rfl,hk,post⟩:=h
  cases k with
  | zero =>
   simp! [id];exact post
  | succ i =>
   have p:(((i+1:Nat):Int)=0)=False:=eq_false (by omega);simp! [p];refine u38 (v:=.int (1 * 2 ^ i)) (G1:=G) (fun R h=>⟨i+1,rfl,hk,(fun e=>by cases e),fun j e=>by cases e;exact h⟩) ?_;simp! [id];have e:(!decide (Builtin.bitAnd (m:Int) (1 * 2 ^ i)=0))=stn (i+1) m:=by
    unfold stn;rw [Bool.eq_iff_iff];simp only [vd3,Bool.not_eq_true',decide_eq_false_iff_not,Nat.add_sub_cancel,Bool.or_eq_true,beq_iff_eq,Nat.add_one_ne_zero,false_or,Bool.not_eq_false]
   rw [e];exact post
theorem vm1 {n:Nat}:Ok P w mg base (n+1) T.f_jah (vr8 T):=by
 refine u37 T.f_jah sc_jah (fun ds G R h=>?_) (fun cdv A outer s H E hr =>
   (u02 (u17 1 sc_jah.nd u03)
   (u02 (uf8 (u21 (x_gt) (ev 0) u03 (nomark _)) (u02 (vt8 1 sc_jah.nd (u08 uj8 (ev 0) u03) ve4)
   (u07 (u17 0 sc_jah.nd (u08 uu1 (ev 0) u03)))))
   (u07 (u34 (ev 1)))))) (fun ds G R h=>?_)
 ·obtain ⟨b,m,rfl,_⟩:=h;rfl
 ·obtain ⟨b,m,rfl,hb,post⟩:=h
  simp! [id];dsimp! [id];refine u78 (fun c σ G'=>∃ (x y:Nat),G'=G /\ σ=[some (.int (x:Int)),some (.int (y:Int))] /\ x < 2 ^ c /\ y+pc c x=pc b m) ⟨m,0,rfl,rfl,hb,by omega⟩ ?_;rintro c σ G' N ⟨x,y,rfl,rfl,hx,hy⟩ ih
  by_cases h0:x=0
  ·subst h0
   simp! [id];rw [v89] at hy;have:y=pc b m:=by omega
   subst this
   (simp! [id];repeat (simp only [Go];simp! [id]))
   exact post
  ·have p:((0:Int) < (x:Int))=True:=eq_true (by omega)
   simp! [p];cases c with
   | zero=>exact absurd hx (by omega)
   | succ c =>
    have e:Builtin.bitAnd (x:Int) 1=((x % 2:Nat):Int):=by
     rw [show (1:Int)=((1:Nat):Int) from rfl,uc4,Nat.and_one_is_mod]
    have e2:(x:Int) / 2 ^ (Int.toNat 1)=((x / 2:Nat):Int):=by simp
    have e3:(y:Int)+((x % 2:Nat):Int)=((y+x % 2:Nat):Int):=by omega
    (simp! [e,e2,e3];repeat (simp only [Go];simp! [e,e2,e3]))
    refine ⟨by decide,?_⟩;refine ih _ _ c rfl ⟨x / 2,y+x % 2,rfl,rfl,?_,?_⟩
    ·rw [Nat.pow_succ] at hx;omega
    ·rw [v90] at hy;omega
theorem vm0 {n:Nat} (G_jam:Ok P w mg base n T.f_jam (uz9 T)) (G_jah:Ok P w mg base n T.f_jah (vr8 T)):Ok P w mg base (n+1) T.f_jai (vr7 T):=by
 refine u37 T.f_jai sc_jai (fun ds G R h=>?_) (fun cdv A outer s H E hr =>
   (u02 (u17 4 sc_jai.nd (e_ix x_ix (ev 0) u03))
   (u02 (s_if (t_w (w_or (u21 (x_lt) (ev 4) u03 (nomark _)) (w_or (u21 (x_gt) (ev 4) (ev 2) (nomark _)) (uu5 (vg6 (um6 (ec T.f_jam T.g_stands G_jam hr (u00 (u08 uf6 (ev 4) u03) (u00 (ev 1) u06))))))))) (u07 (u34 e_bl)) u29)
   (u02 (s_if (u21 (x_eq hr) (e_ix x_ix (ev 0) u03) ug5 (nomark _)) (u07 (u34 (vv8 (vq5 (ec T.f_jam T.g_stands G_jam hr (u00 (ev 4) (u00 (ev 1) u06)))) (vb9 (uy8 (x_lt) (ec T.f_jah T.g_many_in G_jah hr (u00 (ev 1) u06)) (ev 3) (nomark _)))))) u29)
   (u07 (u34 (ec T.f_jam T.g_stands G_jam hr (u00 (ev 4) (u00 (ev 1) u06))))))))) (fun ds G R h=>?_)
 ·obtain ⟨k,m,n,s,rfl,_⟩:=h;rfl
 ·obtain ⟨k,m,n',s,rfl,h1,h2,h3,hm,post⟩:=h
  have p1:((k:Int) < 1)=False:=eq_false (by omega);have p2:((n':Int) < (k:Int))=False:=eq_false (by omega);have e1:(k:Int) - 1=((k - 1:Nat):Int):=by omega
  simp! [pD,mvP];dsimp! [p1,p2,e1];refine uz7 T (by omega) ?_;cases hs:stn (k - 1) m with
  | false =>
   (simp! [id];repeat (simp only [Go];simp! [id]))
   rw [show mvB m (pc n' m) s k=false by unfold mvB;rw [hs];rfl] at post;exact post
  | true =>
   cases hk:stn k m with
   | true =>
    have l1:(("clear" : Str) = "lay")=False:=eq_false (by decide)
    (simp! [l1];repeat (simp only [Go];simp! [l1]))
    refine uz7 T (by omega) ?_;rw [show mvB m (pc n' m) s k=true by unfold mvB;rw [hs,hk];rfl] at post;simp! [hk];exact post
   | false =>
    (simp! [id];repeat (simp only [Go];simp! [id]))
    refine uz7 T (by omega) ?_;simp! [hk];refine u38 (v:=.int (pc n' m:Int)) (G1:=G) (fun R h=>⟨n',m,rfl,hm,h⟩) ?_;simp! [id];rw [show mvB m (pc n' m) s k=decide ((pc n' m:Int) < (s:Int)) by unfold mvB;rw [hs,hk];simp] at post;exact post
theorem vm8 {n:Nat} (G_jal:Ok P w mg base n T.f_jal (vd6 T)):Ok P w mg base (n+1) T.f_jaa (ve0 T):=by
 refine u37 T.f_jaa v22 (fun ds G R h=>?_) (fun cdv A outer s H E hr =>
   (u02 (s_if (u21 (x_eq hr) (e_ix x_ix (ev 0) u03) ug5 (nomark _)) (u07 (u34 (u08 x_or (ev 1) (ec T.f_jal T.g_set_of G_jal hr (u00 (e_ix x_ix (ev 0) u03) u06))))) u29)
   (u02 (s_if (u21 (x_eq hr) (e_ix x_ix (ev 0) u03) ug5 (nomark _)) (u07 (u34 (u08 uj8 (ev 1) (e_un vs3 (ec T.f_jal T.g_set_of G_jal hr (u00 (e_ix x_ix (ev 0) u03) u06)))))) u29)
   (u07 (u34 (ev 1)))))) (fun ds G R h=>?_)
 ·obtain ⟨p,m,rfl,_⟩:=h;rfl
 ·obtain ⟨p,m,rfl,hok,post⟩:=h
  cases p with
  | none =>
   have l1:(("show" : Str) = "lay")=False:=eq_false (by decide);have l2:(("show" : Str) = "clear")=False:=eq_false (by decide)
   (simp! [pmD,l1,l2];repeat (simp only [Go];simp! [pmD,l1,l2]))
   exact post
  | some p =>
   obtain ⟨w0,k⟩:=p;obtain ⟨⟨h1,h2⟩,hv⟩:=hok;obtain ⟨i,rfl⟩:∃ i,k=i+1:=⟨k - 1,by have:1<=k:=h1;omega⟩;have h2:i+1<=24:=h2;have hb:(!m.testBit i)=w0:=hv.symm;have post:R (.int ((m ^^^ 2 ^ i:Nat):Int)) G:=post;have l1:(("clear" : Str) = "lay")=False:=eq_false (by decide);cases w0 with
   | true =>
    have hb':m.testBit i=false:=by simpa using hb
    simp! [pmD,mD,pD,mP];refine u38 (v:=.int (1 * 2 ^ i)) (G1:=G) (fun R h=>⟨i+1,rfl,by omega,(fun e=>by cases e),fun j e=>by cases e;exact h⟩) ?_;simp! [vb1 hb'];exact post
   | false =>
    have hb':m.testBit i=true:=by simpa using hb
    simp! [pmD,mD,pD,mP,l1];dsimp! [id];refine u38 (v:=.int (1 * 2 ^ i)) (G1:=G) (fun R h=>⟨i+1,rfl,by omega,(fun e=>by cases e),fun j e=>by cases e;exact h⟩) ?_;simp! [xInv,vd0 hb'];exact post
theorem vl9 {n:Nat} (G_jam:Ok P w mg base n T.f_jam (uz9 T)):Ok P w mg base (n+1) T.f_jaj (vr6 T):=by
 refine u37 T.f_jaj v20 (fun ds G R h=>?_) (fun cdv A outer s H E hr =>
   (u07 (u34 (e_if (um6 (ec T.f_jam T.g_stands G_jam hr (u00 (ev 0) (u00 (ev 1) u06)))) (uy7 (u00 ug5 (u00 (ev 0) u06))) (uy7 (u00 ug5 (u00 (ev 0) u06))))))) (fun ds G R h=>?_)
 ·obtain ⟨k,m,rfl,_⟩:=h;rfl
 ·obtain ⟨k,m,rfl,h1,post⟩:=h
  have s2:(2<=sizeLine)=True:=eq_true (by decide);simp! [id];refine uz7 T h1 ?_;unfold pD mvP at post;cases hk:stn k m with
  | true =>
   rw [hk] at post;simp! [s2];exact post
  | false =>
   rw [hk] at post;simp! [s2];exact post
theorem vl8 {n:Nat} (G_jai:Ok P w mg base n T.f_jai (vr7 T)) (G_jaj:Ok P w mg base n T.f_jaj (vr6 T)):Ok P w mg base (n+1) T.f_jak (vd7 T):=by
 refine u37 T.f_jak sc_jak (fun ds G R h=>?_) (fun cdv A outer s H E hr =>
   (u02 (vh6 3 sc_jak.nd (N':=["k", "marks"]) (ix:=[none,some 0]) (blk (osc:=u04 un3) (N:=["marks", "n", "s", "moves"]) rfl rfl (by decide)) (v33 rfl T.b_range (u00 u03 (u00 (u08 uc9 (ev 1) u03) u06))) (fun _ _ _ _=>(u45 0 (show (["k", "marks"]:List Str).Nodup by decide))) (fun _ _ _ _=>ur7) (fun _ _ _ _=>(ec T.f_jaj T.g_move_on G_jaj hr (u00 (ev 0) (u00 (ev 1) u06)))))
   (u07 (u34 (us6 (N':=["move", "marks", "n", "s"]) (ix:=[none,some 0,some 1,some 2]) (blk (osc:=u04 un3) (N:=["marks", "n", "s", "moves"]) rfl rfl (by decide)) (ur8 (ev 3)) (fun _ _ _ _=>(u45 0 (show (["move", "marks", "n", "s"]:List Str).Nodup by decide))) (fun _ _ _ _=>(ur6 (um6 (ec T.f_jai T.g_may_do G_jai hr (u00 (ev 0) (u00 (ev 1) (u00 (ev 2) (u00 (ev 3) u06)))))))) (fun _ _ _ _=>(ev 0))))))) (fun ds G R h=>?_)
 ·obtain ⟨m,n,s,rfl,_⟩:=h;rfl
 ·obtain ⟨m,n',s,rfl,hm,hn,post⟩:=h
  have en:((n':Int)+1 - 1).toNat=n':=by omega
  simp! [en];refine ⟨⟨by decide,by decide,by omega,by omega⟩,fun p hp=>?_⟩;refine u60 (fun r σ G'=>∃ (j c:Nat) (v:Option D),j+c=n' /\ r=rngD ((j:Int)+1) c /\ G'=gup G p (.lst (((List.range' 1 j).map (mvP m)).map pD)) /\ σ=[v,some (.int (m:Int))]) ⟨0,n',none,by omega,rfl,rfl,rfl⟩ ?_ ?_
  ·rintro σ G' ⟨j,c,v,e,e2,rfl,rfl⟩
   have hc:c=0:=by
    cases c with
    | zero=>rfl
    | succ c=>rw [u30] at e2;cases e2
   subst hc;have hj:j=n':=by omega
   subst hj;refine ⟨trivial,?_⟩;dsimp! [id];intro p2 hp2;have n12:p ≠ p2:=fun z=>by rw [<- z,u01] at hp2;cases hp2
   have g2:Grow G (gup G p (.lst (((List.range' 1 j).map (mvP m)).map pD))):=Grow.refl.new hp;refine u60 (fun r σ G'=>∃ (i c:Nat) (v:Option D),i+c=j /\ r=((List.range' (i+1) c).map (mvP m)).map pD /\ G'=gup (gup G p (.lst (((List.range' 1 j).map (mvP m)).map pD))) p2 (.lst ((mvs m (pc j m) s i).map pD)) /\ σ=[v,some (.int (m:Int)),some (.int (j:Int)),some (.int (s:Int))]) ⟨0,j,none,by omega,rfl,rfl,rfl⟩ ?_ ?_
   ·rintro σ G' ⟨i,c,v,e,e2,rfl,rfl⟩
    have hc:c=0:=by
     cases c with
     | zero=>rfl
     | succ c=>rw [List.range'_succ] at e2;cases e2
    subst hc;have hi:i=j:=by omega
    subst hi;refine ⟨by rw [u05 n12,u01];rfl,?_⟩;exact post _ _ (g2.none hp2) u01 (g2.new hp2)
   ·rintro z r σ G' ⟨i,c,v,e,e2,rfl,rfl⟩ ih
    cases c with
    | zero=>cases e2
    | succ c =>
     rw [List.range'_succ] at e2;cases e2;refine ⟨by rw [u05 n12,u01];rfl,?_⟩;simp! [id];refine u38 (v:=.bl (mvB m (pc j m) s (i+1))) (G1:=gup (gup G p (.lst (((List.range' 1 j).map (mvP m)).map pD))) p2 (.lst ((mvs m (pc j m) s i).map pD))) (fun R h=>⟨i+1,m,j,s,rfl,by omega,by omega,hn,hm,h⟩) ?_;have hl:=uo8 m (pc j m) s i;cases hb:mvB m (pc j m) s (i+1) with
     | false =>
      simp! [id];refine ih _ _ ⟨i+1,c,_,by omega,rfl,?_,rfl⟩;rw [mvs,hb];simp
     | true =>
      simp! [id];refine ⟨by rw [List.length_map];exact Nat.lt_of_le_of_lt (m:=1000) (by omega) (by decide),ih _ _ ⟨i+1,c,_,by omega,rfl,?_,rfl⟩⟩;rw [mvs,hb,u19];simp
  ·rintro z r σ G' ⟨j,c,v,e,e2,rfl,rfl⟩ ih
   cases c with
   | zero=>cases e2
   | succ c =>
    rw [u30] at e2;cases e2;refine ⟨trivial,?_⟩;have ej:(j:Int)+1=((j+1:Nat):Int):=by omega
    simp! [ej];refine u38 (v:=pD (mvP m (j+1))) (G1:=gup G p (.lst (((List.range' 1 j).map (mvP m)).map pD))) (fun R h=>⟨j+1,m,rfl,by omega,h⟩) ?_;simp! [id];refine ⟨by rw [List.length_map,List.length_map,List.length_range'];exact Nat.lt_of_le_of_lt (m:=1000) (by omega) (by decide),ih _ _ ⟨j+1,c,_,by omega,rfl,?_,rfl⟩⟩;rw [u19,List.range'_concat];simp [Nat.add_comm]
theorem vm7 {n:Nat} (G_jaa:Ok P w mg base n T.f_jaa (ve0 T)) (G_jak:Ok P w mg base n T.f_jak (vd7 T)):Ok P w mg base (n+1) T.f_jab (v02 T):=by
 refine u37 T.f_jab sc_jab (fun ds G R h=>?_) (fun cdv A outer s H E hr =>
   (u02 (u17 2 sc_jab.nd (us5 u03 e_bl))
   (u02 (u17 3 sc_jab.nd (u70 (u00 u03 u06)))
   (u02 (uf8 (u21 (x_gt) (u25 v46 rfl T.b_len (by decide) (u00 (ev 3) u06)) u03 (nomark _)) (u02 (u17 4 sc_jab.nd (uj1 (ev 3)))
   (u07 (un4 (ur8 (ec T.f_jak T.g_moves_from G_jak hr (u00 (ev 4) (u00 (ev 0) (u00 (ev 1) u06))))) (u45 5 sc_jab.nd) (u02 (u17 6 sc_jab.nd (ec T.f_jaa T.g_behind G_jaa hr (u00 (ev 5) (u00 (ev 4) u06))))
   (u07 (s_if (u21 (uc6 hr) (ev 6) (ev 2) (by with_unfolding_all rfl)) (u02 (un5 hr (ev 2) (ev 6) e_bl)
   (u07 (u95 (u59 (ev 3) (u00 (ev 6) u06))))) u29)))))))
   (u07 (u34 (u25 (uc5 hr) rfl T.b_sorted (by decide) (u00 (ev 2) u06)))))))) (fun ds G R h=>?_)
 ·obtain ⟨n,s,rfl,_⟩:=h;rfl
 ·obtain ⟨n',s',rfl,h1,h8,post⟩:=h
  simp! [ut2];intro q hq;refine ⟨.inl 0,rfl,?_⟩;rw [u19];dsimp! [id];refine ⟨by decide,fun d hd=>?_⟩;have nqd:q ≠ d:=gne u01 hd;have g1:Grow G (gup (gup G q (.dic [(.inl 0,.bl true)])) d (.lst [.int 0])):=(Grow.refl.new hq).new hd;have fd:G d=none:=(Grow.refl.new (o:=.dic [(.inl 0,.bl true)]) hq).none hd;have h256:2 ^ n'<=256:=Nat.pow_le_pow_right (n:=2) (by decide) h8;dsimp! [id];refine u78 (fun m σ G'=>∃ (F D':List Nat) (v4 v5 v6:Option D),(2 * (2 ^ n' - F.length)+D'.length<=m /\ D'.length<=F.length) /\ Grow G G' /\ G' q=some (.dic (fdD F)) /\ G' d=some (.lst (D'.map nD)) /\ F.Nodup /\ 0 ∈ F /\ (∀ x ∈ F,RS n' s' x) /\ (∀ x ∈ D',x ∈ F) /\ (∀ x ∈ F,x ∈ D' \/ ∀ p,lgl n' s' x p->xr x p.2 ∈ F) /\ σ=[some (.int (n':Int)),some (.int (s':Int)),some (.ref q),some (.ref d),v4,v5,v6])
   (m:=1000) ⟨[0],[0],none,none,none,⟨by show 2 * (2 ^ n' - 1)+1<=1000;omega,Nat.le_refl _⟩,g1,by rw [u05 nqd];exact u01,u01,by simp,by simp,fun x hx=>by rw [List.mem_singleton.mp hx];exact RS.zero,fun x hx=>hx,fun x hx=>.inl hx,rfl⟩ ?_
  rintro m σ G2 N ⟨F,D',v4,v5,v6,⟨hm,hdf⟩,g2,kq,kd,hnd,h0,hrs,hsub,hcl,rfl⟩ ih;have hfl:F.length<=2 ^ n':=u52 hnd fun x hx=>(hrs x hx).lt
  simp! [kd,u11]
  rcases List.eq_nil_or_concat D' with e | ⟨D0,x,e⟩
  ·subst e
   have e0:(((([]:List Nat).map nD).length:Int) > 0)=False:=eq_false (by simp);simp! [e0];dsimp! [id];refine ⟨q,F.map (fun x:Nat=>(x:Int)),rfl,.inr ⟨fdD F,by unfold fdD;rw [List.map_map,List.map_map];rfl,.inl kq⟩,fun ql ns' hl hpm hpw=>?_⟩;obtain ⟨xs,hxs⟩:∃ xs:List Nat,ns'=xs.map (fun x:Nat=>(x:Int)):=by
    refine ⟨ns'.map Int.toNat,?_⟩;rw [List.map_map]
    conv=>lhs;rw [<- List.map_id ns']
    refine List.map_congr_left fun z hz=>?_
    obtain ⟨p,_,rfl⟩:=List.mem_map.mp (hpm.mem_iff.mp hz);simp
   subst hxs;have hxp:xs.Perm F:=by
    have:=hpm.map Int.toNat;simpa [List.map_map,Function.comp_def] using this
   have hxw:xs.Pairwise (· < ·):=by
    have h1:xs.Pairwise (·<=·):=by
     rw [List.pairwise_map] at hpw;exact hpw.imp fun h=>by omega
    exact (h1.and (hxp.nodup_iff.mpr hnd)).imp fun ⟨a,b⟩=>by omega
   refine post ql xs _ (g2.none hl) (by rw [u01,u68]) hxw (fun y=>⟨fun hy=>hrs y (hxp.mem_iff.mp hy),fun hy=>hxp.mem_iff.mpr (hy.all h0 fun z hz=>?_)⟩) (by rw [hxp.length_eq];omega) (g2.new hl)
   rcases hcl z hz with w | w
   ·cases w
   ·exact w
  ·rw [List.concat_eq_append] at e
   subst e;have e0:((((D0++[x]).map nD).length:Int) > 0)=True:=eq_true (by simp);have hx:x ∈ F:=hsub x (by simp);simp! [e0];have ekd:((D0++[x]).map nD)=((D0.map (fun x:Nat=>(x:Int)))++[(x:Int)]).map D.int:=by rw [u68,List.map_append];rfl
   rw [u74 (ns:=D0.map (fun x:Nat=>(x:Int))) (c:=(x:Int)) (by rw [kd,ekd])];rw [<- u68];obtain ⟨G4,hG4⟩:∃ G4,G4=gup G2 d (.lst (D0.map nD)):=⟨_,rfl⟩;have g4:Grow G G4:=by rw [hG4];exact g2.own fd
   have kq4:G4 q=some (.dic (fdD F)):=by rw [hG4,u05 nqd];exact kq
   have kd4:G4 d=some (.lst (D0.map nD)):=by rw [hG4];exact u01
   rw [<- hG4];clear hG4;dsimp! [id];refine vr1 T (m:=x) (s:=s') (hrs x hx).lt (by omega) fun qm ps G5 f5 k5 hps g5=>?_
   simp! [k5];have nqm:q ≠ qm:=gne kq4 f5;have ndm:d ≠ qm:=gne kd4 f5;refine u58 (fun r σ G'=>∃ (l t:List Mv) (F1 D1:List Nat) (v5 v6:Option D),l++t=ps /\ r=t.map mD /\ Grow G G' /\ G' qm=some (.lst (ps.map mD)) /\ G' q=some (.dic (fdD F1)) /\ G' d=some (.lst (D1.map nD)) /\ F1.Nodup /\ 0 ∈ F1 /\ x ∈ F1 /\ (∀ y ∈ F1,RS n' s' y) /\ (∀ y ∈ D1,y ∈ F1) /\ (∀ y ∈ F1,y ∈ D1 \/ y=x \/ ∀ p,lgl n' s' y p->xr y p.2 ∈ F1) /\ (∀ p ∈ l,xr x p.2 ∈ F1) /\ (2 * (2 ^ n' - F1.length)+D1.length+1<=m /\ D1.length<=F1.length) /\ σ=[some (.int (n':Int)),some (.int (s':Int)),some (.ref q),some (.ref d),some (.int (x:Int)),v5,v6])
    ⟨[],ps,F,D0,v5,v6,rfl,rfl,g4.trans g5,k5,g5.kp _ _ kq4,g5.kp _ _ kd4,hnd,h0,hx,hrs,fun y hy=>hsub y (by simp [hy]),fun y hy=>?_,(fun p hp=>by cases hp),by rw [List.length_append,List.length_singleton] at hm hdf;omega,rfl⟩ ?_ ?_
   ·rcases hcl y hy with w | w
    ·rcases List.mem_append.mp w with w | w
     ·exact .inl w
     ·exact .inr (.inl (List.mem_singleton.mp w))
    ·exact .inr (.inr w)
   ·rintro σ G6 ⟨l,t,F1,D1,v5,v6,e,e2,g6,k6,kq6,kd6,n1,z1,x1,r1,s1,c1,m1,⟨mm,mdf⟩,rfl⟩
    have ht:t=[]:=by simpa using e2.symm
    subst ht;rw [List.append_nil] at e;subst e;refine ⟨by rw [k6];rfl,?_⟩;obtain ⟨m',rfl⟩:∃ m',m=m'+1:=⟨m - 1,by omega⟩;refine ih _ _ m' rfl ⟨F1,D1,_,_,_,⟨by omega,mdf⟩,g6,kq6,kd6,n1,z1,r1,s1,fun y hy=>?_,rfl⟩
    rcases c1 y hy with w | w | w
    ·exact .inl w
    ·subst w;exact .inr fun p hp=>m1 p ((hps p).mpr hp)
    ·exact .inr w
   ·rintro z r σ G6 ⟨l,t,F1,D1,v5,v6,e,e2,g6,k6,kq6,kd6,n1,z1,x1,r1,s1,c1,m1,⟨mm,mdf⟩,rfl⟩ ih2
    cases t with
    | nil=>cases e2
    | cons p t =>
     cases e2;refine ⟨by rw [k6];rfl,?_⟩;have hp:p ∈ ps:=by rw [<- e];simp
     have lp:=(hps p).mp hp;have hokm:okm x (some p):=⟨⟨lp.1.1,by have:=lp.1.2;omega⟩,lp.2.2.1⟩;have hfl1:F1.length<=2 ^ n':=u52 n1 fun y hy=>(r1 y hy).lt
     have hrx:RS n' s' (xr x p.2):=(r1 x x1).step lp;simp! [id];refine vw6 T hokm ?_;simp! [id];refine ⟨.inl ((xr x p.2:Nat):Int),fdD F1,q,rfl,rfl,.inl kq6,?_⟩;rw [vq4]
     by_cases hin:xr x p.2 ∈ F1
     ·rw [decide_eq_true hin]
      refine ih2 _ _ ⟨l++[p],t,F1,D1,_,_,by rw [<- e,List.append_assoc];rfl,rfl,g6,k6,kq6,kd6,n1,z1,x1,r1,s1,c1,fun p' hp'=>?_,⟨mm,mdf⟩,rfl⟩
      rcases List.mem_append.mp hp' with w | w
      ·exact m1 p' w
      ·rw [List.mem_singleton.mp w];exact hin
     ·rw [decide_eq_false hin]
      simp! [vc2];have hfle:(fdD F1).length=F1.length:=by unfold fdD;rw [List.length_map]
      refine ⟨q,fdD F1,.inl ((xr x p.2:Nat):Int),rfl,rfl,kq6,Nat.lt_of_le_of_lt (m:=1000) (by omega) (by decide),?_⟩;rw [v35 hin];have kd7:∀ {o:DO},gup G6 q o d=some (.lst (D1.map nD)):=fun {o}=>by rw [u05 (Ne.symm nqd)];exact kd6
      have g7:Grow G (gup G6 q (.dic (fdD (F1++[xr x p.2])))):=g6.own hq;have n2:(F1++[xr x p.2]).Nodup:=List.nodup_append.mpr ⟨n1,by simp,fun a ha b hb=>by rw [List.mem_singleton.mp hb];exact fun z=>hin (by rw [<- z];exact ha)⟩;have hl2:(F1++[xr x p.2]).length<=2 ^ n':=u52 n2 fun y hy=>by
       rcases List.mem_append.mp hy with w | w
       ·exact (r1 y w).lt
       ·rw [List.mem_singleton.mp w];exact hrx.lt
      rw [List.length_append,List.length_singleton] at hl2;dsimp! [kd7];refine ⟨Nat.lt_of_le_of_lt (m:=2000) (by rw [List.length_map];omega) (by decide),?_⟩;refine ih2 _ _ ⟨l++[p],t,F1++[xr x p.2],D1++[xr x p.2],_,_,by rw [<- e,List.append_assoc];rfl,rfl,g7.own fd,?_,?_,?_,n2,List.mem_append_left _ z1,List.mem_append_left _ x1,fun y hy=>?_,fun y hy=>?_,fun y hy=>?_,fun p' hp'=>?_,?_,rfl⟩
      ·rw [u05 (Ne.symm ndm),u05 (Ne.symm nqm)];exact k6
      ·rw [u05 nqd];exact u01
      ·rw [u01,List.map_append];rfl
      ·rcases List.mem_append.mp hy with w | w
       ·exact r1 y w
       ·rw [List.mem_singleton.mp w];exact hrx
      ·rcases List.mem_append.mp hy with w | w
       ·exact List.mem_append_left _ (s1 y w)
       ·exact List.mem_append_right _ w
      ·rcases List.mem_append.mp hy with w | w
       ·rcases c1 y w with v | v | v
        ·exact .inl (List.mem_append_left _ v)
        ·exact .inr (.inl v)
        ·exact .inr (.inr fun p' hp'=>List.mem_append_left _ (v p' hp'))
       ·exact .inl (List.mem_append_right _ w)
      ·rcases List.mem_append.mp hp' with w | w
       ·exact List.mem_append_left _ (m1 p' w)
       ·rw [List.mem_singleton.mp w];exact List.mem_append_right _ (by simp)
      ·rw [List.length_append,List.length_append,List.length_singleton];omega
theorem vm3 {n:Nat}:Ok P w mg base (n+1) T.f_jaf (vr9 T):=by
 refine u37 T.f_jaf v21 (fun ds G R h=>?_) (fun cdv A outer s H E hr =>
   (u07 (u34 (u70 (u00 (us4 hr rfl T.b_reversed rfl T.b_list (u00 (ev 0) u06)) (u00 u03 (u00 u03 u06))))))) (fun ds G R h=>?_)
 ·obtain ⟨a,ns,rfl,_⟩:=h;rfl
 ·obtain ⟨a,ns,rfl,ha,post⟩:=h
  simp! [ub8,ha];intro p hp;refine ⟨by decide,fun q hq=>post q p _ ⟨ns.reverse,0,40503,u01,?_,by decide,?_⟩ ((Grow.refl.new hp).new hq)⟩
  ·rw [u05 (fun z=>by rw [z,<- z,u01] at hq;cases hq),u01,List.map_reverse]
  ·exact fun z=>by rw [z,u01] at hq;cases hq
theorem vm6 {n:Nat}:Ok P w mg base (n+1) T.f_jac (v01 T):=by
 refine u37 T.f_jac sc_jac (fun ds G R h=>?_) (fun cdv A outer s H E hr =>
   (u02 (s_if (t_w (w_and (u21 (x_eq hr) (e_ix x_ix (ev 0) u03) u03 (nomark _)) (w_and (u21 (x_ne hr) (e_ix x_ix (ev 0) u03) (u70 u06) (nomark _)) (vf9 (u21 (x_ge) (u25 v47 rfl T.b_abs (by decide) (u00 (e_ix x_ix (e_ix x_ix (ev 0) u03) (e_un ve3 u03)) u06)) (u08 vs2 u03 u03) (nomark _)))))) (u07 (v68 (u25 v47 rfl T.b_abs (by decide) (u00 (uj1 (e_ix x_ix (ev 0) u03)) u06)) (vb3 (ev 0) u03 v44))) u29)
   (u02 (s_if (u21 (x_gt) (e_ix x_ix (ev 0) u03) u03 (nomark _)) (u02 (u17 2 sc_jac.nd (u08 uc7 (e_ix x_ix (ev 0) u03) (ev 1)))
   (u02 (v68 (u08 ve5 (e_ix x_ix (ev 0) u03) (ev 1)) (vb3 (ev 0) u03 v44))
   (u07 (u34 (ev 2))))) u29)
   (u02 (u17 3 sc_jac.nd u03)
   (u02 (s_if (u21 (x_ne hr) (e_ix x_ix (ev 0) u03) (u70 u06) (nomark _)) (u07 (u17 3 sc_jac.nd (u25 v47 rfl T.b_abs (by decide) (u00 (uj1 (e_ix x_ix (ev 0) u03)) u06)))) u29)
   (u02 (v68 (u08 uc7 (u08 uc9 (u08 uc9 (u08 uu3 (e_ix x_ix (ev 0) u03) u03) (u08 uc7 (ev 3) u03)) u03) u03) (vb3 (ev 0) u03 v44))
   (u02 (u17 4 sc_jac.nd (u08 uc7 (u08 uc9 (u08 uu3 (e_ix x_ix (ev 0) u03) u03) u03) u03))
   (u02 (u17 5 sc_jac.nd (u08 uc7 (u08 uc9 (u08 uu3 (ev 4) (ev 4)) (e_ix x_ix (ev 0) u03)) u03))
   (u07 (u34 (u08 uc7 (u08 ve5 (u08 uc7 (u08 uu3 (ev 5) (u08 uc9 (u08 uc7 (ev 5) u03) u03)) u03) u03) (ev 1)))))))))))) (fun ds G R h=>?_)
 ·obtain ⟨s,a,m,rfl,_⟩:=h;rfl
 ·obtain ⟨s,a,m,rfl,⟨ns,x,y,hs,ha,hx,hne⟩,hm0,hm1,post⟩:=h
  have p4:((0:Int) < m)=True:=eq_true hm0;have cp:CPow 10 18:=⟨by decide,by decide,by decide⟩;have cd:∀ c:Int,v03 c m:=fun c=>⟨hm0,by omega⟩
  have c1:∀ c:Int,CMul c 16807:=fun c=>Or.inr ⟨by decide,by decide⟩
  have c2:∀ c:Int,CMul c 48271:=fun c=>Or.inr ⟨by decide,by decide⟩
  have c3:∀ c y:Int,CMul (c % 2147483629) y:=fun c y=>v42 (by omega) (by omega)
  have c4:∀ c y:Int,CMul (c % 2147483587) y:=fun c y=>v42 (by omega) (by omega)
  have c5:∀ c:Int,v03 c 3:=fun c=>⟨by decide,by decide⟩
  have p1:((0:Int) < 2147483629)=True:=by decide
  have p2:((0:Int) < 2147483587)=True:=by decide
  have p3:((0:Int) < 2147483647)=True:=by decide
  have p5:((0:Int) < 65537)=True:=by decide
  have p6:((0:Int) < 2147483579)=True:=by decide
  have s0:(0<=sizeLine)=True:=eq_true (Nat.zero_le _);have fin:∀ (G1:Gp) (v:Int) (ns':List Int) (x' y':Int),(∀ c o,c ≠ s->c ≠ a->G c=some o->G1 c=some o)->G1 s=some (.lst [.ref a,.int x',.int y'])->G1 a=some (.lst (ns'.map .int))->0<=x'->0<=v->v < m->R (.int v) G1 :=
   fun G1 v ns' x' y' kp h1 h2 h3 h4 h5=>post v G1 ⟨⟨ns',x',y',h1,h2,h3,hne⟩,kp⟩ h4 h5
  by_cases hx0:x=0
  ·subst hx0
   simp! [hs,ha];refine ⟨by decide,fun p hp=>?_⟩;have nps:s ≠ p:=gne hs hp;have npa:a ≠ p:=gne ha hp;have hs1:gup G p (.lst []) s=some (.lst [.ref a,.int 0,.int y]):=by rw [u05 nps];exact hs
   have ha1:gup G p (.lst []) a=some (.lst (ns.map .int)):=by rw [u05 npa];exact ha
   have kp1:∀ c o,G c=some o->gup G p (.lst []) c=some o:=fun c o e=>by rw [u05 (gne e hp)];exact e
   refine u28 (ks:=ns) (ms:=[]) (by rw [ha1];rfl) (by rw [u01];rfl) ?_
   rcases List.eq_nil_or_concat ns with e | ⟨ns',c,e⟩
   ·subst e
    simp! [id];dsimp! [hs1,Int.lt_irrefl];dsimp! [id];dsimp! [hs1];refine ⟨Nat.zero_le _,fun pp hpp=>?_⟩;have nps2:s ≠ pp:=gne hs1 hpp;have npa2:a ≠ pp:=gne ha1 hpp;have hs2:gup (gup G p (.lst [])) pp (.lst []) s=some (.lst [.ref a,.int 0,.int y]):=by rw [u05 nps2];exact hs1
    have ha2:gup (gup G p (.lst [])) pp (.lst []) a=some (.lst []):=by rw [u05 npa2];exact ha1
    have kp2:∀ c o,G c=some o->gup (gup G p (.lst [])) pp (.lst []) c=some o:=fun c o e=>by rw [u05 (gne (kp1 c o e) hpp)];exact kp1 c o e
    refine u28 (ks:=[]) (ms:=[]) (by rw [ha2];rfl) (by rw [u01];rfl) ?_;simp! [id]
    (simp! [hs2,c1,c2,c3,c4,c5,p1,p2,p3,p4,p5,p6];repeat (simp only [Go];simp! [hs2,c1,c2,c3,c4,c5,p1,p2,p3,p4,p5,p6]))
    exact fin _ _ [] 0 _ (fun c o h1 h2 e=>by rw [u05 h1];exact kp2 c o e) u01 (by rw [u05 (Ne.symm hne)];exact ha2) (by decide) (Int.emod_nonneg _ (by omega)) (Int.emod_lt_of_pos _ hm0)
   ·rw [List.concat_eq_append] at e
    subst e;have hnn:((ns'++[c])=[])=False:=eq_false (by simp);simp! [hnn,hs1,ha1,vd2,cp];refine ue6 (fun hb=>?_) (fun hb=>?_)
    ·rw [u74 ha1]
     have q0:(0:Int) < (if c < 0 then -c else c):=Int.lt_of_lt_of_le (by decide) hb;have q2:((0:Int) < (if c < 0 then -c else c))=True:=eq_true q0;have hs3:gup (gup G p (.lst [])) a (.lst (ns'.map .int)) s=some (.lst [.ref a,.int 0,.int y]):=by rw [u05 hne];exact hs1
     simp! [hs3]
     (simp! [q2,p4,cd,u19];repeat (simp only [Go];simp! [q2,p4,cd,u19]))
     exact fin _ _ ns' _ y (fun d o h1 h2 e=>by rw [u05 h1,u05 h2];exact kp1 d o e) u01 (by rw [u05 (Ne.symm hne),u01]) (Int.ediv_nonneg (Int.le_of_lt q0) (by omega)) (Int.emod_nonneg _ (by omega)) (Int.emod_lt_of_pos _ hm0)
    ·dsimp! [hs1,Int.lt_irrefl]
     dsimp! [id];dsimp! [hs1];refine ⟨Nat.zero_le _,fun pp hpp=>?_⟩;have nps2:s ≠ pp:=gne hs1 hpp;have npa2:a ≠ pp:=gne ha1 hpp;have hs2:gup (gup G p (.lst [])) pp (.lst []) s=some (.lst [.ref a,.int 0,.int y]):=by rw [u05 nps2];exact hs1
     have ha2:gup (gup G p (.lst [])) pp (.lst []) a=some (.lst ((ns'++[c]).map .int)):=by rw [u05 npa2];exact ha1
     have kp2:∀ d o,G d=some o->gup (gup G p (.lst [])) pp (.lst []) d=some o:=fun d o e=>by rw [u05 (gne (kp1 d o e) hpp)];exact kp1 d o e
     refine u28 (ks:=ns'++[c]) (ms:=[]) (by rw [ha2];rfl) (by rw [u01];rfl) ?_;simp! [hnn,hs2,ha2];rw [u74 ha2];have hs3:gup (gup (gup G p (.lst [])) pp (.lst [])) a (.lst (ns'.map .int)) s=some (.lst [.ref a,.int 0,.int y]):=by rw [u05 hne];exact hs2
     simp! [id]
     (simp! [hs3,c1,c2,c3,c4,c5,p1,p2,p3,p4,p5,p6,u19];repeat (simp only [Go];simp! [hs3,c1,c2,c3,c4,c5,p1,p2,p3,p4,p5,p6,u19]))
     exact fin _ _ ns' 0 _ (fun d o h1 h2 e=>by rw [u05 h1,u05 h2];exact kp2 d o e) u01 (by rw [u05 (Ne.symm hne),u01]) (by decide) (Int.emod_nonneg _ (by omega)) (Int.emod_lt_of_pos _ hm0)
  ·have q1:(x=0)=False:=eq_false hx0
   have q2:((0:Int) < x)=True:=eq_true (by omega);simp! [hs,ha,q1]
   (simp! [hs,q2,p4,cd];repeat (simp only [Go];simp! [hs,q2,p4,cd]))
   exact fin _ _ ns _ y (fun c o h1 h2 e=>by rw [u05 h1];exact e) u01 (by rw [u05 (Ne.symm hne)];exact ha) (Int.ediv_nonneg hx (by omega)) (Int.emod_nonneg _ (by omega)) (Int.emod_lt_of_pos _ hm0)
theorem vm4 {n:Nat}:Ok P w mg base (n+1) T.f_jae (v00 T):=by
 refine u37 T.f_jae sc_jae (fun ds G R h=>?_) (fun cdv A outer s H E hr =>
   (u02 (u17 3 sc_jae.nd (u25 v46 rfl T.b_len (by decide) (u00 (us6 (N':=["_law_k", "_law_marks"]) (ix:=[none,some 0]) (blk (osc:=u04 uv1) (N:=["_law_marks", "_law_n", "_law_s", "_law_many", "_law_found", "_law_k"]) rfl rfl (by decide)) (v34 rfl T.b_range (u00 (ev 1) u06)) (fun _ _ _ _=>(u45 0 (show (["_law_k", "_law_marks"]:List Str).Nodup by decide))) (fun _ _ _ _=>(ur6 (u21 (x_eq hr) (u08 uj8 (u08 uu1 (ev 1) (ev 0)) u03) u03 (nomark _)))) (fun _ _ _ _=>(ev 0))) u06)))
   (u02 (u17 4 sc_jae.nd (u70 u06))
   (u02 (un4 (v33 rfl T.b_range (u00 u03 (u00 (u08 uc9 (ev 1) u03) u06))) (u45 5 sc_jae.nd) (u07 (s_if (t_w (w_or (u21 (x_eq hr) (ev 5) u03 (nomark _)) (uu5 (u21 (x_eq hr) (u08 uj8 (u08 uu1 (ev 0) (u08 uf6 (ev 5) u03)) u03) u03 (nomark _))))) (u07 (s_if (u21 (x_eq hr) (u08 uj8 (u08 uu1 (ev 0) (u08 uf6 (ev 5) u03)) u03) u03 (nomark _)) (u07 (u95 (u59 (ev 4) (u00 (uy7 (u00 ug5 (u00 (ev 5) u06))) u06)))) (u07 (s_if (u21 (x_lt) (ev 3) (ev 2) (nomark _)) (u07 (u95 (u59 (ev 4) (u00 (uy7 (u00 ug5 (u00 (ev 5) u06))) u06)))) u29)))) u29)))
   (u07 (u34 (ev 4))))))) (fun ds G R h=>?_)
 ·obtain ⟨m,n,s,rfl,_⟩:=h;rfl
 ·obtain ⟨m,n',s,rfl,hn,post⟩:=h
  have en:((n':Int)+1 - 1).toNat=n':=by omega
  have rok:(-2 ^ 62<=(1:Int) /\ (1:Int) < 2 ^ 62 /\ -2 ^ 62<=(n':Int)+1 /\ (n':Int)+1 < 2 ^ 62):=⟨by decide,by decide,by omega,by omega⟩;simp! [id];refine ⟨v24 (by omega),fun p hp=>?_⟩;refine u60 (fun r σ G'=>∃ (j c:Nat) (xs:List D) (v:Option D),j+c=n' /\ r=rngD (j:Int) c /\ G'=gup G p (.lst xs) /\ xs.length=cnt j m /\ σ=[v,some (.int (m:Int))]) ⟨0,n',[],none,by omega,rfl,rfl,rfl,rfl⟩ ?_ ?_
  ·rintro σ G' ⟨j,c,xs,v,e,e2,rfl,hx,rfl⟩
   refine ⟨trivial,?_⟩;have g1:Grow G (gup G p (.lst xs)):=Grow.refl.new hp;have ec:c=0:=by
    cases c with
    | zero=>rfl
    | succ c=>rw [u30] at e2;cases e2
   subst ec;have ej:j=n':=by omega
   subst ej;simp! [id];dsimp! [id];refine ⟨by decide,fun pf hpf=>?_⟩;dsimp! [en];refine ⟨rok,?_⟩;refine u58 (fun r σ G'=>∃ (i c:Nat) (ps:List Mv) (v:Option D),i+c=j /\ r=rngD ((i:Int)+1) c /\ G'=gup (gup G p (.lst xs)) pf (.lst (ps.map mD)) /\ ps.length<=i /\ (∀ p,p ∈ ps ↔ lgl j s m p /\ p.2<=i) /\ σ=[some (.int (m:Int)),some (.int (j:Int)),some (.int (s:Int)),some (.int (xs.length:Int)),some (.ref pf),v]) ⟨0,j,[],none,by omega,rfl,rfl,by simp,(fun p=>⟨fun z=>by simp at z,fun z=>by have:=z.1.1.1;omega⟩),rfl⟩ ?_ ?_
   ·rintro σ G' ⟨i,c,ps,v,e,e2,rfl,hp1,hp2,rfl⟩
    refine ⟨trivial,?_⟩;dsimp! [id];have ec:c=0:=by
     cases c with
     | zero=>rfl
     | succ c=>rw [u30] at e2;cases e2
    subst ec;exact post pf ps _ (g1.none hpf) u01 (fun p=>(hp2 p).trans ⟨fun z=>z.1,fun z=>⟨z,by have:=z.1.2;omega⟩⟩) (by omega) (g1.new hpf)
   ·rintro z r σ G' ⟨i,c,ps,v,e,e2,rfl,hp1,hp2,rfl⟩ ih
    cases c with
    | zero=>cases e2
    | succ c =>
     rw [u30] at e2;cases e2;refine ⟨trivial,?_⟩;have ei:(i:Int)+1=((i+1:Nat):Int):=by omega
     have ei2:((i+1:Nat):Int) - 1=(i:Int):=by omega
     have pi:(0<=(i:Int))=True:=eq_true (by omega);have sz:(ps.map mD).length < sizeLine:=by rw [List.length_map];exact Nat.lt_of_le_of_lt (m:=1000) (by omega) (by decide)
     have s2:(2<=sizeLine)=True:=eq_true (by decide);have mk:∀ (N:DSt->Gp->Prop),True:=fun _=>trivial
     have tail:(i=0 \/ m.testBit (i - 1)=true)->(m.testBit i=true->lgl j s m (false,i+1)) /\ (m.testBit i=false->cnt j m < s->lgl j s m (true,i+1)) /\ (m.testBit i=false->¬ cnt j m < s->∀ b,¬ lgl j s m (b,i+1)):=fun h=>by
      have a1:(i+1=1 \/ m.testBit (i+1 - 2)=true):=by
       rcases h with h | h
       ·left;omega
       ·by_cases h0:i=0
        ·left;omega
        ·right
         have:i+1 - 2=i - 1:=by omega
         rw [this];exact h
      refine ⟨fun hb=>⟨⟨by omega,by show i+1<=j;omega⟩,a1,?_,fun z=>by cases z⟩,fun hb hc=>⟨⟨by omega,by show i+1<=j;omega⟩,a1,?_,fun _=>hc⟩,fun hb hc b hl=>?_⟩
      ·show false=!m.testBit i;rw [hb];rfl
      ·show true=!m.testBit i;rw [hb];rfl
      ·have h1:b=!m.testBit i:=hl.2.2.1
       rw [hb] at h1;exact hc (hl.2.2.2 h1)
     have none_:¬ i=0->¬ m.testBit (i - 1)=true->∀ b,¬ lgl j s m (b,i+1):=fun h0 h1 b hl=>by
      rcases hl.2.1 with z | z
      ·have z:i+1=1:=z
       omega
      ·have z:m.testBit (i+1 - 2)=true:=z
       have:i+1 - 2=i - 1:=by omega
       rw [this] at z;exact h1 z
     have nb:¬ (Builtin.bitAnd ((m:Int) / 2 ^ i) 1=1)->m.testBit i=false:=fun hb=>by
      cases hc:m.testBit i with
      | false=>rfl
      | true=>exact absurd ((u51 m i).mpr hc) hb
     have xl:(xs.length:Int)=(cnt j m:Int):=by rw [hx]
     simp! [ei,ei2,pi];refine ue6 (fun h0=>?_) (fun h0=>?_)
     ·have h0':i=0:=by omega
      refine ue6 (fun hb=>?_) (fun hb=>?_)
      ·rw [u51] at hb
       refine ⟨by decide,sz,ih _ _ ⟨i+1,c,ps++[(false,i+1)],_,by omega,rfl,?_,by simp;omega,ua8 hp2 ((tail (.inl h0')).1 hb),rfl⟩⟩;rw [u19,List.map_append];rfl
      ·have hb':=nb hb
       refine ue6 (fun hc=>?_) (fun hc=>?_)
       ·refine ⟨by decide,sz,ih _ _ ⟨i+1,c,ps++[(true,i+1)],_,by omega,rfl,?_,by simp;omega,ua8 hp2 ((tail (.inl h0')).2.1 hb' (by omega)),rfl⟩⟩
        rw [u19,List.map_append];rfl
       ·exact ih _ _ ⟨i+1,c,ps,_,by omega,rfl,rfl,by omega,up0 hp2 ((tail (.inl h0')).2.2 hb' (by omega)),rfl⟩
     ·have h0':¬ i=0:=by omega
      obtain ⟨i',rfl⟩:∃ i',i=i'+1:=⟨i - 1,by omega⟩;refine ⟨by omega,?_⟩;have e2':(((i'+1+1:Nat):Int) - 2).toNat=i':=by omega
      rw [e2'];refine ue6 (fun h1=>?_) (fun h1=>?_)
      ·rw [u51] at h1
       refine ue6 (fun hb=>?_) (fun hb=>?_)
       ·rw [u51] at hb
        refine ⟨by decide,sz,ih _ _ ⟨i'+1+1,c,ps++[(false,i'+1+1)],_,by omega,rfl,?_,by simp;omega,ua8 hp2 ((tail (.inr h1)).1 hb),rfl⟩⟩;rw [u19,List.map_append];rfl
       ·have hb':=nb hb
        refine ue6 (fun hc=>?_) (fun hc=>?_)
        ·refine ⟨by decide,sz,ih _ _ ⟨i'+1+1,c,ps++[(true,i'+1+1)],_,by omega,rfl,?_,by simp;omega,ua8 hp2 ((tail (.inr h1)).2.1 hb' (by omega)),rfl⟩⟩
         rw [u19,List.map_append];rfl
        ·exact ih _ _ ⟨i'+1+1,c,ps,_,by omega,rfl,rfl,by omega,up0 hp2 ((tail (.inr h1)).2.2 hb' (by omega)),rfl⟩
      ·rw [u51] at h1
       exact ih _ _ ⟨i'+1+1,c,ps,_,by omega,rfl,rfl,by omega,up0 hp2 (none_ h0' h1),rfl⟩
  ·rintro z r σ G' ⟨j,c,xs,v,e,e2,rfl,hx,rfl⟩ ih
   cases c with
   | zero=>cases e2
   | succ c =>
    rw [u30] at e2;cases e2;refine ⟨trivial,?_⟩;have ej:(j:Int)+1=((j+1:Nat):Int):=by omega
    have pj:(0<=(j:Int))=True:=eq_true (by omega);simp! [ej,pj];refine ue6 (fun hb=>?_) (fun hb=>?_)
    ·simp! [id]
     refine ⟨Nat.lt_of_le_of_lt (m:=1000) (by have:=@v41 j m;omega) (by decide),ih _ _ ⟨j+1,c,xs++[.int (j:Int)],_,by omega,by rw [ej],by rw [u19],by rw [List.length_append,hx,cnt,(u51 m j).mp hb];rfl,rfl⟩⟩
    ·exact ih _ _ ⟨j+1,c,xs,_,by omega,by rw [ej],rfl,by rw [cnt,hx];cases hc:m.testBit j with | false=>rfl | true=>exact absurd ((u51 m j).mpr hc) hb,rfl⟩
theorem vm2 {n:Nat} (G_jac:Ok P w mg base n T.f_jac (v01 T)) (G_jae:Ok P w mg base n T.f_jae (v00 T)):Ok P w mg base (n+1) T.f_jag (vd8 T):=by
 refine u37 T.f_jag sc_jag (fun ds G R h=>?_) (fun cdv A outer s H E hr =>
   (u02 (u17 4 sc_jag.nd u03)
   (u02 (u17 5 sc_jag.nd (u70 u06))
   (u02 (un4 (v34 rfl T.b_range (u00 (ev 3) u06)) (u45 6 sc_jag.nd) (u02 (u17 7 sc_jag.nd (ec T.f_jae T.g_law_moves G_jae hr (u00 (ev 4) (u00 (ev 1) (u00 (ev 2) u06)))))
   (u07 (s_if (u21 (x_ne hr) (ev 7) (u70 u06) (nomark _)) (u02 (u95 (u59 (ev 5) (u00 (e_ix x_ix (ev 7) (ec T.f_jac T.g_law_draw G_jac hr (u00 (ev 0) (u00 (u25 v46 rfl T.b_len (by decide) (u00 (ev 7) u06)) u06)))) u06)))
   (u07 (u17 4 sc_jag.nd (u08 v43 (ev 4) (u08 uu2 u03 (u08 uf6 (e_ix x_ix (e_ix x_ix (ev 5) (e_un ve3 u03)) u03) u03)))))) u29))))
   (u07 (u34 (ev 5))))))) (fun ds G R h=>?_)
 ·obtain ⟨s,a,n,sp,most,rfl,_⟩:=h;rfl
 ·obtain ⟨s,a,n',sp,most,rfl,hS,hn,hmo,post⟩:=h
  simp! [id];dsimp! [id];refine ⟨by decide,fun p hp=>?_⟩;dsimp! [id];refine ⟨v24 (by omega),?_⟩;have pn:=hS.ne hp;refine u58 (fun r σ G'=>∃ (i c:Nat) (w:List Mv) (v6 v7:Option D),i+c=most /\ r=rngD (i:Int) c /\ Ady s a G G' /\ G' p=some (.lst (w.map mD)) /\ lgw n' sp 0 w /\ w.length<=i /\ σ=[some (.ref s),some (.int (n':Int)),some (.int (sp:Int)),some (.int (most:Int)),some (.int (fin 0 w:Int)),some (.ref p),v6,v7])
   ⟨0,most,[],none,none,by omega,rfl,(Ady.refl hS).new hp,u01,trivial,by simp,rfl⟩ ?_ ?_
  ·rintro σ G' ⟨i,c,w,v6,v7,e,e2,A,hw,ho,hl,rfl⟩
   refine ⟨trivial,?_⟩;dsimp! [id];exact post p w G' A hw pn.1 pn.2 ho (by omega)
  ·rintro z r σ G' ⟨i,c,w,v6,v7,e,e2,A,hw,ho,hl,rfl⟩ ih
   cases c with
   | zero=>cases e2
   | succ c =>
    rw [u30] at e2;cases e2;refine ⟨trivial,?_⟩;have e3:(i:Int)+1=((i+1:Nat):Int):=by omega
    simp! [id];refine ut4 T hn fun q ps G1 f1 h1 hps hpl g1=>?_
    simp! [id];dsimp! [id];refine ⟨by decide,fun p2 hp2=>?_⟩;have hq1:gup G1 p2 (.lst []) q=some (.lst (ps.map mD)):=by rw [u05 (gne h1 hp2)];exact h1
    have hw0:=g1.kp _ _ hw;have hw1:gup G1 p2 (.lst []) p=some (.lst (w.map mD)):=by rw [u05 (gne hw0 hp2)];exact hw0
    have B:Ady s a G (gup G1 p2 (.lst [])):=Ady.new ⟨A.at_.grow g1,fun c u c1 c2 e=>g1.kp _ _ (A.kp c u c1 c2 e)⟩ hp2;refine vc9 (w:=ps) (by rw [hq1];rfl) (by rw [u01];rfl) ?_;cases ps with
    | nil =>
     simp! [id];exact ih _ _ ⟨i+1,c,w,_,_,by omega,by rw [e3],B,hw1,ho,by omega,rfl⟩
    | cons p0 ps =>
     have hnn:((p0::ps)=[])=False:=eq_false (by simp);have hll:(((p0::ps).map mD).length:Int)=((ps.length+1:Nat):Int):=by simp
     have qn:q ≠ s /\ q ≠ a:=A.at_.ne f1
     simp only [hnn,decide_false,Bool.not_false,if_true];rw [hw1,hq1];refine ⟨trivial,?_⟩;simp only [ud5,hll];refine u61 T B.at_ (by omega) (by rw [List.length_cons] at hpl;omega) fun v G2 A2 v0 v1=>?_
     have hq2:G2 q=some (.lst ((p0::ps).map mD)):=A2.kp _ _ qn.1 qn.2 hq1;have hw2:G2 p=some (.lst (w.map mD)):=A2.kp _ _ pn.1 pn.2 hw1;obtain ⟨d,hd,hat⟩:=at_getD (xs:=(p0::ps).map mD) v0 (by rw [hll];exact v1);obtain ⟨pm,hpm,rfl⟩:=List.mem_map.mp hd;have ol:=(hps pm).mp hpm;have o1:=ol.1;have hat':atI (mD p0::ps.map mD) v=some (mD pm):=hat;simp! [hq2,hat',hw2];refine ⟨by rw [List.length_map];exact Nat.lt_of_le_of_lt (m:=1000) (by omega) (by decide),?_⟩;obtain ⟨j,hj⟩:∃ j,pm.2=j+1:=⟨pm.2 - 1,by omega⟩;have ej:((pm.2:Nat):Int) - 1=(j:Int):=by omega
     have cp:CPow 1 (j:Int):=uj5 (by omega) (by omega);have hA:Ady s a G (gup G2 p (.lst (w.map mD++[mD pm]))):=by
      have C:=B.trans A2;exact ⟨C.at_.put pn.1 pn.2,fun c u c1 c2 e=>by rw [u05 (gne e hp)];exact C.kp c u c1 c2 e⟩
     dsimp! [uz8,mD,pD,mP,ej,cp,xor_int];refine ih _ _ ⟨i+1,c,w++[pm],some (.int (i:Int)),some (.ref q),by omega,by rw [e3],hA,by rw [u01,List.map_append];rfl,lgw_app.mpr ⟨ho,ol,trivial⟩,by simp;omega,?_⟩;rw [ub5]
     show _=[some (D.ref s),_,_,_,some (D.int (fin 0 w ^^^ 2 ^ (pm.2 - 1):Nat)),_,_,_]
     rw [hj];rfl
theorem vm5 {n:Nat} (G_jae:Ok P w mg base n T.f_jae (v00 T)):Ok P w mg base (n+1) T.f_jad (vd9 T):=by
 refine u37 T.f_jad sc_jad (fun ds G R h=>?_) (fun cdv A outer s H E hr =>
   (u02 (u17 2 sc_jad.nd (us5 u03 e_bl))
   (u02 (u17 3 sc_jad.nd (u70 (u00 u03 u06)))
   (u02 (uf8 (u21 (x_ne hr) (ev 3) (u70 u06) (nomark _)) (u02 (u17 4 sc_jad.nd (uj1 (ev 3)))
   (u07 (un4 (ur8 (ec T.f_jae T.g_law_moves G_jae hr (u00 (ev 4) (u00 (ev 0) (u00 (ev 1) u06))))) (vo9 (n:=2) rfl (ub4 (u45 5 sc_jad.nd) (ub4 (u45 6 sc_jad.nd) v32))) (u02 (u17 7 sc_jad.nd (u08 v43 (ev 4) (u08 uu2 u03 (u08 uf6 (ev 6) u03))))
   (u07 (s_if (u21 (uc6 hr) (ev 7) (ev 2) (by with_unfolding_all rfl)) (u02 (un5 hr (ev 2) (ev 7) e_bl)
   (u07 (u95 (u59 (ev 3) (u00 (ev 7) u06))))) u29)))))))
   (u07 (u34 (u25 (uc5 hr) rfl T.b_sorted (by decide) (u00 (ev 2) u06)))))))) (fun ds G R h=>?_)
 ·obtain ⟨n,s,rfl,_⟩:=h;rfl
 ·obtain ⟨n',s',rfl,h1,h8,post⟩:=h
  simp! [ut2];intro q hq;refine ⟨.inl 0,rfl,?_⟩;rw [u19];dsimp! [id];refine ⟨by decide,fun d hd=>?_⟩;have nqd:q ≠ d:=gne u01 hd;have g1:Grow G (gup (gup G q (.dic [(.inl 0,.bl true)])) d (.lst [.int 0])):=(Grow.refl.new hq).new hd;have fd:G d=none:=(Grow.refl.new (o:=.dic [(.inl 0,.bl true)]) hq).none hd;have h256:2 ^ n'<=256:=Nat.pow_le_pow_right (n:=2) (by decide) h8;dsimp! [id];refine u78 (fun m σ G'=>∃ (F D':List Nat) (v4 v5 v6 v7:Option D),(2 * (2 ^ n' - F.length)+D'.length<=m /\ D'.length<=F.length) /\ Grow G G' /\ G' q=some (.dic (fdD F)) /\ G' d=some (.lst (D'.map nD)) /\ F.Nodup /\ 0 ∈ F /\ (∀ x ∈ F,RS n' s' x) /\ (∀ x ∈ D',x ∈ F) /\ (∀ x ∈ F,x ∈ D' \/ ∀ p,lgl n' s' x p->xr x p.2 ∈ F) /\ σ=[some (.int (n':Int)),some (.int (s':Int)),some (.ref q),some (.ref d),v4,v5,v6,v7])
   (m:=1000) ⟨[0],[0],none,none,none,none,⟨by show 2 * (2 ^ n' - 1)+1<=1000;omega,Nat.le_refl _⟩,g1,by rw [u05 nqd];exact u01,u01,by simp,by simp,fun x hx=>by rw [List.mem_singleton.mp hx];exact RS.zero,fun x hx=>hx,fun x hx=>.inl hx,rfl⟩ ?_
  rintro m σ G2 N ⟨F,D',v4,v5,v6,v7,⟨hm,hdf⟩,g2,kq,kd,hnd,h0,hrs,hsub,hcl,rfl⟩ ih;simp! [id];refine ⟨by decide,fun p3 hp3=>?_⟩;have kq3:∀ {o:DO},gup G2 p3 o q=some (.dic (fdD F)):=fun {o}=>by rw [u05 (gne kq hp3)];exact kq
  have kd3:∀ {o:DO},gup G2 p3 o d=some (.lst (D'.map nD)):=fun {o}=>by rw [u05 (gne kd hp3)];exact kd
  have g3:∀ {o:DO},Grow G (gup G2 p3 o):=g2.new hp3;have hfl:F.length<=2 ^ n':=u52 hnd fun x hx=>(hrs x hx).lt
  refine u28 (ks:=D'.map fun x:Nat=>(x:Int)) (ms:=[]) (by rw [kd3];show some _=_;rw [u68]) (by rw [u01];rfl) ?_
  rcases List.eq_nil_or_concat D' with e | ⟨D0,x,e⟩
  ·subst e
   simp! [id];dsimp! [id];refine ⟨q,F.map (fun x:Nat=>(x:Int)),rfl,.inr ⟨fdD F,by unfold fdD;rw [List.map_map,List.map_map];rfl,.inl kq3⟩,fun ql ns' hl hpm hpw=>?_⟩;obtain ⟨xs,hxs⟩:∃ xs:List Nat,ns'=xs.map (fun x:Nat=>(x:Int)):=by
    refine ⟨ns'.map Int.toNat,?_⟩;rw [List.map_map]
    conv=>lhs;rw [<- List.map_id ns']
    refine List.map_congr_left fun z hz=>?_
    obtain ⟨p,_,rfl⟩:=List.mem_map.mp (hpm.mem_iff.mp hz);simp
   subst hxs;have hxp:xs.Perm F:=by
    have:=hpm.map Int.toNat;simpa [List.map_map,Function.comp_def] using this
   have hxw:xs.Pairwise (· < ·):=by
    have h1:xs.Pairwise (·<=·):=by
     rw [List.pairwise_map] at hpw;exact hpw.imp fun h=>by omega
    exact (h1.and (hxp.nodup_iff.mpr hnd)).imp fun ⟨a,b⟩=>by omega
   refine post ql xs _ (g3.none hl) (by rw [u01,u68]) hxw (fun y=>⟨fun hy=>hrs y (hxp.mem_iff.mp hy),fun hy=>hxp.mem_iff.mpr (hy.all h0 fun z hz=>?_)⟩) (by rw [hxp.length_eq];omega) (g3.new hl)
   rcases hcl z hz with w | w
   ·cases w
   ·exact w
  ·rw [List.concat_eq_append] at e
   subst e;have hne:(((D0++[x]).map fun x:Nat=>(x:Int))=[])=False:=eq_false (by simp);have hx:x ∈ F:=hsub x (by simp);simp! [hne];have ekd:((D0++[x]).map nD)=((D0.map (fun x:Nat=>(x:Int)))++[(x:Int)]).map D.int:=by rw [u68,List.map_append];rfl
   rw [kd3];refine ⟨trivial,?_⟩;rw [u74 (ns:=D0.map (fun x:Nat=>(x:Int))) (c:=(x:Int)) (by rw [kd3,ekd])];rw [<- u68];obtain ⟨G4,hG4⟩:∃ G4,G4=gup (gup G2 p3 (.lst [])) d (.lst (D0.map nD)):=⟨_,rfl⟩;have g4:Grow G G4:=by rw [hG4];exact g3.own fd
   have kq4:G4 q=some (.dic (fdD F)):=by rw [hG4,u05 nqd];exact kq3
   have kd4:G4 d=some (.lst (D0.map nD)):=by rw [hG4];exact u01
   rw [<- hG4];clear hG4;dsimp! [id];refine ut4 T (m:=x) (by omega) fun qm ps G5 f5 k5 hps hpl g5=>?_
   simp! [k5];have nqm:q ≠ qm:=gne kq4 f5;have ndm:d ≠ qm:=gne kd4 f5;refine u58 (fun r σ G'=>∃ (l t:List Mv) (F1 D1:List Nat) (v5 v6 v7:Option D),l++t=ps /\ r=t.map mD /\ Grow G G' /\ G' qm=some (.lst (ps.map mD)) /\ G' q=some (.dic (fdD F1)) /\ G' d=some (.lst (D1.map nD)) /\ F1.Nodup /\ 0 ∈ F1 /\ x ∈ F1 /\ (∀ y ∈ F1,RS n' s' y) /\ (∀ y ∈ D1,y ∈ F1) /\ (∀ y ∈ F1,y ∈ D1 \/ y=x \/ ∀ p,lgl n' s' y p->xr y p.2 ∈ F1) /\ (∀ p ∈ l,xr x p.2 ∈ F1) /\ (2 * (2 ^ n' - F1.length)+D1.length+1<=m /\ D1.length<=F1.length) /\ σ=[some (.int (n':Int)),some (.int (s':Int)),some (.ref q),some (.ref d),some (.int (x:Int)),v5,v6,v7])
    ⟨[],ps,F,D0,v5,v6,v7,rfl,rfl,g4.trans g5,k5,g5.kp _ _ kq4,g5.kp _ _ kd4,hnd,h0,hx,hrs,fun y hy=>hsub y (by simp [hy]),fun y hy=>?_,(fun p hp=>by cases hp),by rw [List.length_append,List.length_singleton] at hm hdf;omega,rfl⟩ ?_ ?_
   ·rcases hcl y hy with w | w
    ·rcases List.mem_append.mp w with w | w
     ·exact .inl w
     ·exact .inr (.inl (List.mem_singleton.mp w))
    ·exact .inr (.inr w)
   ·rintro σ G6 ⟨l,t,F1,D1,v5,v6,v7,e,e2,g6,k6,kq6,kd6,n1,z1,x1,r1,s1,c1,m1,⟨mm,mdf⟩,rfl⟩
    have ht:t=[]:=by simpa using e2.symm
    subst ht;rw [List.append_nil] at e;subst e;refine ⟨by rw [k6];rfl,?_⟩;obtain ⟨m',rfl⟩:∃ m',m=m'+1:=⟨m - 1,by omega⟩;refine ih _ _ m' rfl ⟨F1,D1,_,_,_,_,⟨by omega,mdf⟩,g6,kq6,kd6,n1,z1,r1,s1,fun y hy=>?_,rfl⟩
    rcases c1 y hy with w | w | w
    ·exact .inl w
    ·subst w;exact .inr fun p hp=>m1 p ((hps p).mpr hp)
    ·exact .inr w
   ·rintro z r σ G6 ⟨l,t,F1,D1,v5,v6,v7,e,e2,g6,k6,kq6,kd6,n1,z1,x1,r1,s1,c1,m1,⟨mm,mdf⟩,rfl⟩ ih2
    cases t with
    | nil=>cases e2
    | cons p t =>
     cases e2;refine ⟨by rw [k6];rfl,?_⟩;have hp:p ∈ ps:=by rw [<- e];simp
     have lp:=(hps p).mp hp;have e1:(p.2:Int) - 1=((p.2 - 1:Nat):Int):=by have:=lp.1.1;omega
     have cp:CPow 1 ((p.2 - 1:Nat):Int):=uj5 (by omega) (by have:=lp.1.2;omega);have ex:Builtin.bitXor (x:Int) (1 * 2 ^ (p.2 - 1))=((xr x p.2:Nat):Int):=xor_int x (p.2 - 1);have hfl1:F1.length<=2 ^ n':=u52 n1 fun y hy=>(r1 y hy).lt
     have hrx:RS n' s' (xr x p.2):=(r1 x x1).step lp;simp! [mD,pD,mP,e1,cp,ex];dsimp! [id];refine ⟨.inl ((xr x p.2:Nat):Int),fdD F1,q,rfl,rfl,.inl kq6,?_⟩;rw [vq4]
     by_cases hin:xr x p.2 ∈ F1
     ·rw [decide_eq_true hin]
      refine ih2 _ _ ⟨l++[p],t,F1,D1,_,_,_,by rw [<- e,List.append_assoc];rfl,rfl,g6,k6,kq6,kd6,n1,z1,x1,r1,s1,c1,fun p' hp'=>?_,⟨mm,mdf⟩,rfl⟩
      rcases List.mem_append.mp hp' with w | w
      ·exact m1 p' w
      ·rw [List.mem_singleton.mp w];exact hin
     ·rw [decide_eq_false hin]
      simp! [vc2];have hfle:(fdD F1).length=F1.length:=by unfold fdD;rw [List.length_map]
      refine ⟨q,fdD F1,.inl ((xr x p.2:Nat):Int),rfl,rfl,kq6,Nat.lt_of_le_of_lt (m:=1000) (by omega) (by decide),?_⟩;rw [v35 hin];have kd7:∀ {o:DO},gup G6 q o d=some (.lst (D1.map nD)):=fun {o}=>by rw [u05 (Ne.symm nqd)];exact kd6
      have g7:Grow G (gup G6 q (.dic (fdD (F1++[xr x p.2])))):=g6.own hq;have n2:(F1++[xr x p.2]).Nodup:=List.nodup_append.mpr ⟨n1,by simp,fun a ha b hb=>by rw [List.mem_singleton.mp hb];exact fun z=>hin (by rw [<- z];exact ha)⟩;have hl2:(F1++[xr x p.2]).length<=2 ^ n':=u52 n2 fun y hy=>by
       rcases List.mem_append.mp hy with w | w
       ·exact (r1 y w).lt
       ·rw [List.mem_singleton.mp w];exact hrx.lt
      rw [List.length_append,List.length_singleton] at hl2;dsimp! [kd7];refine ⟨Nat.lt_of_le_of_lt (m:=2000) (by rw [List.length_map];omega) (by decide),?_⟩;refine ih2 _ _ ⟨l++[p],t,F1++[xr x p.2],D1++[xr x p.2],_,_,_,by rw [<- e,List.append_assoc];rfl,rfl,g7.own fd,?_,?_,?_,n2,List.mem_append_left _ z1,List.mem_append_left _ x1,fun y hy=>?_,fun y hy=>?_,fun y hy=>?_,fun p' hp'=>?_,?_,rfl⟩
      ·rw [u05 (Ne.symm ndm),u05 (Ne.symm nqm)];exact k6
      ·rw [u05 nqd];exact u01
      ·rw [u01,List.map_append];rfl
      ·rcases List.mem_append.mp hy with w | w
       ·exact r1 y w
       ·rw [List.mem_singleton.mp w];exact hrx
      ·rcases List.mem_append.mp hy with w | w
       ·exact List.mem_append_left _ (s1 y w)
       ·exact List.mem_append_right _ w
      ·rcases List.mem_append.mp hy with w | w
       ·rcases c1 y w with v | v | v
        ·exact .inl (List.mem_append_left _ v)
        ·exact .inr (.inl v)
        ·exact .inr (.inr fun p' hp'=>List.mem_append_left _ (v p' hp'))
       ·exact .inl (List.mem_append_right _ w)
      ·rcases List.mem_append.mp hp' with w | w
       ·exact List.mem_append_left _ (m1 p' w)
       ·rw [List.mem_singleton.mp w];exact List.mem_append_right _ (by simp)
      ·rw [List.length_append,List.length_append,List.length_singleton];omega
theorem vl5 {n:Nat} (G_jab:Ok P w mg base n T.f_jab (v02 T)) (G_jaf:Ok P w mg base n T.f_jaf (vr9 T)) (G_jac:Ok P w mg base n T.f_jac (v01 T)) (G_jag:Ok P w mg base n T.f_jag (vd8 T)) (G_jad:Ok P w mg base n T.f_jad (vd9 T)):Ok P w mg base (n+1) T.f_law (vr5 T):=by
 refine u37 T.f_law sc_law (fun ds G R h=>?_) (fun cdv A outer s H E hr =>
   (u02 (u17 1 sc_law.nd (ec T.f_jaf T.g_law_source G_jaf hr (u00 (ev 0) u06)))
   (u02 (u17 2 sc_law.nd (u08 uc9 u03 (e_ix x_ix (u70 (u00 (ec T.f_jac T.g_law_draw G_jac hr (u00 (ev 1) (u00 u03 u06))) (u00 (ec T.f_jac T.g_law_draw G_jac hr (u00 (ev 1) (u00 u03 u06))) (u00 (ec T.f_jac T.g_law_draw G_jac hr (u00 (ev 1) (u00 u03 u06))) u06)))) (ec T.f_jac T.g_law_draw G_jac hr (u00 (ev 1) (u00 u03 u06))))))
   (u02 (u17 3 sc_law.nd (e_ix x_ix (u70 (u00 (ec T.f_jac T.g_law_draw G_jac hr (u00 (ev 1) (u00 u03 u06))) (u00 (ec T.f_jac T.g_law_draw G_jac hr (u00 (ev 1) (u00 u03 u06))) u06))) (ec T.f_jac T.g_law_draw G_jac hr (u00 (ev 1) (u00 u03 u06)))))
   (u02 (u17 4 sc_law.nd (ec T.f_jag T.g_law_way G_jag hr (u00 (ev 1) (u00 (ev 2) (u00 (ev 3) (u00 (ec T.f_jac T.g_law_draw G_jac hr (u00 (ev 1) (u00 u03 u06))) u06))))))
   (u02 (u17 5 sc_law.nd (ec T.f_jab T.g_come_to G_jab hr (u00 (ev 2) (u00 (ev 3) u06))))
   (u02 (s_if (t_w (w_or (vg6 (um6 (u25 ua2 rfl T.b_isinstance (by decide) (u00 (ev 5) (u00 (us3 (T := "list") T.b_list (by decide)) u06))))) (uu5 (um6 (u25 vs4 rfl T.b_any (by decide) (u00 (us6 (N':=["_law_marks"]) (ix:=[none]) (blk (osc:=u04 uv0) (N:=["_law_script", "_law_source_here", "_law_n", "_law_s", "_law_way_here", "_law_found", "_law_marks", "_law_word", "_law_k", "_law_due"]) rfl rfl (by decide)) (ur8 (ev 5)) (fun _ _ _ _=>(u45 0 (show (["_law_marks"]:List Str).Nodup by decide))) (fun _ _ _ _=>ur7) (fun _ _ _ _=>(e_or (u25 ua2 rfl T.b_isinstance (by decide) (u00 (ev 0) (u00 (us3 (T := "bool") T.b_bool (by decide)) u06))) (vb9 (vq5 (u25 ua2 rfl T.b_isinstance (by decide) (u00 (ev 0) (u00 (us3 (T := "int") T.b_int (by decide)) u06)))))))) u06)))))) (u07 (u34 e_bl)) u29)
   (u02 (s_if (t_w (w_or (u21 (x_ne hr) (ev 5) (ug6 hr rfl T.b_set rfl T.b_sorted (u00 (ev 5) u06)) (nomark _)) (w_or (u21 (x_ne hr) (e_sl x_sl (ev 5) vn0 (vm9 u03)) (u70 (u00 u03 u06)) (nomark _)) (uu5 (u21 (x_ne hr) (ev 5) (ec T.f_jad T.g_law_grown G_jad hr (u00 (ev 2) (u00 (ev 3) u06))) (nomark _)))))) (u07 (u34 e_bl)) u29)
   (u02 (u17 6 sc_law.nd u03)
   (u02 (un4 (ur8 (ev 4)) (vo9 (n:=2) rfl (ub4 (u45 7 sc_law.nd) (ub4 (u45 8 sc_law.nd) v32))) (u02 (u17 6 sc_law.nd (u08 v43 (ev 6) (u08 uu2 u03 (u08 uf6 (ev 8) u03))))
   (u07 (s_if (u21 (v45 hr) (ev 6) (ev 5) (by with_unfolding_all rfl)) (u07 (u34 e_bl)) u29))))
   (u02 (u17 9 sc_law.nd (uz0 uu0 rfl T.b_list (by decide) (u00 (ev 5) u06)))
   (u02 (u95 (uy9 (ev 5)))
   (u07 (u34 (uy8 (x_eq hr) (ec T.f_jab T.g_come_to G_jab hr (u00 (ev 2) (u00 (ev 3) u06))) (ev 9) (nomark _)))))))))))))))) (fun ds G R h=>?_)
 ·obtain ⟨a,ns,rfl,_⟩:=h;rfl
 ·obtain ⟨a,ns,rfl,ha,hns,post⟩:=h
  simp! [id];refine u66 (post:=fun d G'=>∃ q l,d=.ref q /\ Src G' q l /\ Grow G G') (fun R h=>⟨a,ns,rfl,ha,fun q l G' x y=>h _ _ ⟨q,l,rfl,x,y⟩⟩) ?_;rintro d G1 ⟨st,ad,rfl,S1,g1⟩;simp! [id];dsimp! [id];refine u61 T S1 (by decide) (by decide) fun x G1 A1 x0 x1=>?_
  simp! [id];refine u61 T A1.at_ (by decide) (by decide) fun y G2 A2 y0 y1=>?_
  simp! [id];refine u61 T A2.at_ (by decide) (by decide) fun z G3 A3 z0 z1=>?_
  simp! [id];refine ⟨by decide,fun p hp=>?_⟩;have B3:=((A1.trans A2).trans A3).new (o:=.lst [.int x,.int y,.int z]) hp;refine u61 T B3.at_ (by decide) (by decide) fun t G4 A4 t0 t1=>?_
  have hp4:G4 p=some (.lst [.int x,.int y,.int z]):=A4.kp _ _ (A3.at_.ne hp).1 (A3.at_.ne hp).2 u01;obtain ⟨n1,hn1,hat⟩:∃ n1:Nat,n1<=7 /\ atI [D.int x,D.int y,D.int z] t=some (.int (n1:Int)):=by
   have:t=0 \/ t=1 \/ t=2:=by omega
   rcases this with e | e | e
   ·subst e;exact ⟨x.toNat,by omega,by show some (D.int x)=_;rw [show ((x.toNat:Nat):Int)=x by omega]⟩
   ·subst e;exact ⟨y.toNat,by omega,by show some (D.int y)=_;rw [show ((y.toNat:Nat):Int)=y by omega]⟩
   ·subst e;exact ⟨z.toNat,by omega,by show some (D.int z)=_;rw [show ((z.toNat:Nat):Int)=z by omega]⟩
  simp! [hp4,hat];obtain ⟨n',hn'⟩:∃ n':Nat,1+(n1:Int)=(n':Int):=⟨1+n1,by omega⟩;rw [hn'];dsimp! [id];refine u61 T A4.at_ (by decide) (by decide) fun x2 G5 A5 x20 x21=>?_
  simp! [id];refine u61 T A5.at_ (by decide) (by decide) fun y2 G6 A6 y20 y21=>?_
  simp! [id];refine ⟨by decide,fun p2 hp2=>?_⟩;have B7:=((B3.trans A4).trans (A5.trans A6)).new (o:=.lst [.int x2,.int y2]) hp2;refine u61 T B7.at_ (by decide) (by decide) fun t2 G8 A8 t20 t21=>?_
  have hp8:G8 p2=some (.lst [.int x2,.int y2]):=A8.kp _ _ (A6.at_.ne hp2).1 (A6.at_.ne hp2).2 u01;obtain ⟨s',hs',hat2⟩:∃ s':Nat,s'<=8 /\ atI [D.int x2,D.int y2] t2=some (.int (s':Int)):=by
   have:t2=0 \/ t2=1:=by omega
   rcases this with e | e
   ·subst e;exact ⟨x2.toNat,by omega,by show some (D.int x2)=_;rw [show ((x2.toNat:Nat):Int)=x2 by omega]⟩
   ·subst e;exact ⟨y2.toNat,by omega,by show some (D.int y2)=_;rw [show ((y2.toNat:Nat):Int)=y2 by omega]⟩
  simp! [hp8,hat2];dsimp! [id];refine u61 T A8.at_ (by decide) (by decide) fun m9 G9 A9 m0 m1=>?_
  obtain ⟨mn,rfl⟩:∃ mn:Nat,m9=(mn:Int):=⟨m9.toNat,by omega⟩;simp! [id];refine vw5 T A9.at_ (n:=n') (sp:=s') (by omega) (by omega) fun qw w G10 A10 kw qs qa hw hwl=>?_
  simp! [id];dsimp! [id];refine ut5 T (n:=n') (s:=s') (by omega) (by omega) fun qf xs G11 f11 k11 hxs hRS hxl g11=>?_
  have kw11:=g11.kp _ _ kw;have kf11:∀ {G'':Gp},Grow G11 G''->G'' qf=some (.lst (xs.map nD)):=fun g=>g.kp _ _ k11
  have hxm:xs.map nD=(xs.map fun x:Nat=>(x:Int)).map D.int:=u68;have hnd:(xs.map fun x:Nat=>(x:Int)).Nodup:=by
   rw [List.Nodup,List.pairwise_map];exact hxs.imp fun h=>by omega
  have k1:subK "list" "list" = true:=by decide
  simp! [id];dsimp! [k11];refine ⟨by simp,?_⟩;simp! [k1];intro pc hpc;have kb:subK "int" "bool" = false:=by decide
  have ki:subK "int" "int" = true:=by decide
  refine u60 (fun r σ G'=>∃ (l r':List Nat) (v:Option D),l++r'=xs /\ r=r'.map nD /\ G'=gup G11 pc (.lst ((l.map fun _=>false).map .bl)) /\ σ=[v]) ⟨[],xs,none,rfl,rfl,rfl,rfl⟩ ?_ ?_
  ·rintro σ G' ⟨l,r',v,e1,e2,rfl,rfl⟩
   have hz:r'=[]:=by simpa using e2.symm
   subst hz;rw [List.append_nil] at e1;subst e1;refine ⟨by rw [u05 (gne k11 hpc),k11];rfl,?_⟩;refine ⟨pc,l.map fun _=>false,rfl,by rw [u01];rfl,?_⟩;have hany:(l.map fun _=>false).any id=false:=by simp
   rw [hany];have g12:Grow G11 (gup G11 pc (.lst ((l.map fun _=>false).map .bl))):=Grow.refl.new hpc;obtain ⟨G12,hG12⟩:∃ G12,gup G11 pc (.lst ((l.map fun _=>false).map .bl))=G12:=⟨_,rfl⟩;rw [hG12] at g12 ⊢;have k12:=g12.kp _ _ k11;have kw12:=g12.kp _ _ kw11;simp! [id];refine ul3 ?_;simp! [u65];refine ⟨qf,l.map fun x:Nat=>(x:Int),rfl,by rw [k12,hxm],hnd,by rw [List.length_map];omega,fun ps ns' hps hpm hpw=>?_⟩;have ens:ns'=l.map fun x:Nat=>(x:Int):=by
    refine List.Perm.eq_of_pairwise (le:=(·<=·)) (fun a b _ _ h1 h2=>Int.le_antisymm h1 h2) hpw ?_ hpm;rw [List.pairwise_map];exact hxs.imp fun h=>by omega
   subst ens;refine u28 (ks:=l.map fun x:Nat=>(x:Int)) (ms:=l.map fun x:Nat=>(x:Int)) (by rw [u05 (gne k12 hps),k12,hxm];rfl) (by rw [u01];rfl) ?_;obtain ⟨l',hl'⟩:∃ l',l=0::l':=by
    have h0:0 ∈ l:=(hRS 0).mpr RS.zero;cases l with
    | nil=>cases h0
    | cons y l' =>
     rw [List.pairwise_cons] at hxs
     rcases List.mem_cons.mp h0 with e | e
     ·exact ⟨l',by rw [e]⟩
     ·have:=hxs.1 0 e;omega
   have hcut:cutD (l.map nD) none (some 1)=[D.int 0]:=by
    rw [hl'];simp [cutD,HT.sIx,nD]
   have g13:Grow G11 (gup G12 ps (.lst ((l.map fun x:Nat=>(x:Int)).map .int))):=g12.new hps;obtain ⟨G13,hG13⟩:∃ G13,gup G12 ps (.lst ((l.map fun x:Nat=>(x:Int)).map .int))=G13:=⟨_,rfl⟩;rw [hG13] at g13 ⊢;have k13:=g13.kp _ _ k11;refine (if_neg (by simp)).mpr ?_;rw [k13];intro pq hpq;refine ⟨by decide,fun pr hpr=>?_⟩;have nqr:pq ≠ pr:=gne u01 hpr;refine u28 (ks:=[0]) (ms:=[0]) (by rw [u05 nqr,u01];show some (cutD (l.map nD) none (some 1))=_;rw [hcut];rfl) (by rw [u01];rfl) ?_;refine (if_neg (by simp)).mpr ?_;have g14:=(g13.new (o:=.lst (cutD (l.map nD) none (some 1))) hpq).new (o:=.lst [.int 0]) hpr;refine vd1 T (n:=n') (s:=s') (by omega) (by omega) fun qg ys G15 f15 k15 hys hRY hyl g15=>?_
   have g16:=g14.trans g15;have k16:=g16.kp _ _ k11;have eyl:ys=l:=by
    refine List.Perm.eq_of_pairwise (le:=(· < ·)) (fun a b _ _ h1 h2=>by omega) hys hxs ?_;exact (List.perm_ext_iff_of_nodup (hys.imp fun h=>by omega) (hxs.imp fun h=>by omega)).mpr fun x=>by rw [hRY,hRS]
   refine u28 (ks:=l.map fun x:Nat=>(x:Int)) (ms:=l.map fun x:Nat=>(x:Int)) (by rw [k16,hxm];rfl) (by rw [k15,eyl,hxm];rfl) ?_;refine (if_neg (by simp)).mpr ?_;have kw16:=g16.kp _ _ kw11;clear hG12 hG13 hcut;refine ul3 ?_;simp! [id];refine ul3 ?_;simp! [kw16];refine u58 (fun r σ G'=>∃ (u r':List Mv) (v7 v8:Option D),u++r'=w /\ r=r'.map mD /\ G'=G15 /\ σ=[some (.ref a),some (.ref st),some (.int (n':Int)),some (.int (s':Int)),some (.ref qw),some (.ref qf),some (.int (fin 0 u:Int)),v7,v8,none])
    ⟨[],w,none,none,rfl,rfl,rfl,rfl⟩ ?_ ?_
   ·rintro σ G' ⟨u,r',v7,v8,e3,e4,rfl,rfl⟩
    refine ⟨by rw [kw16];rfl,?_⟩;dsimp! [k16,u11];intro pl hpl;have npl:qf ≠ pl:=gne k16 hpl;refine ul3 ?_;simp! [id];rw [u05 npl,k16];refine ⟨trivial,?_⟩;refine ul3 ?_;simp! [id];refine ut5 T (n:=n') (s:=s') (by omega) (by omega) fun q2 zs G18 f18 k18 hzs hRZ hzl g18=>?_
    have ezl:zs=l:=by
     refine List.Perm.eq_of_pairwise (le:=(· < ·)) (fun a b _ _ h1 h2=>by omega) hzs hxs ?_;exact (List.perm_ext_iff_of_nodup (hzs.imp fun h=>by omega) (hxs.imp fun h=>by omega)).mpr fun x=>by rw [hRZ,hRS]
    simp! [id];refine u28 (ks:=l.map fun x:Nat=>(x:Int)) (ms:=l.map fun x:Nat=>(x:Int)) (by rw [k18,ezl,hxm];rfl) (by rw [g18.kp pl (.lst (l.map nD)) (by rw [u05 (Ne.symm npl)];exact u01),hxm];rfl) ?_;rw [decide_eq_true rfl];exact post _
   ·rintro z r σ G' ⟨u,r',v7,v8,e3,e4,rfl,rfl⟩ ih3
    cases r' with
    | nil=>cases e4
    | cons p r' =>
     cases e4;refine ⟨by rw [kw16];rfl,?_⟩;obtain ⟨hu,lp,_⟩:=lgw_app.mp (show lgw n' s' 0 (u++p::r') by rw [e3];exact hw);obtain ⟨j,hj⟩:∃ j,p.2=j+1:=⟨p.2 - 1,by have:=lp.1;omega⟩;have ej:((p.2:Nat):Int) - 1=(j:Int):=by omega
     have cp:CPow 1 (j:Int):=uj5 (by omega) (by have:=lp.1;omega);have hin:xr (fin 0 u) p.2 ∈ l:=(hRS _).mpr (RS.step ⟨u,hu,rfl⟩ lp);have hxj:xr (fin 0 u) p.2=fin 0 u ^^^ 2 ^ j:=by unfold xr;rw [show p.2 - 1=j by omega]
     rw [hxj] at hin;have hin2:(((fin 0 u ^^^ 2 ^ j:Nat):Int) ∈ l.map fun x:Nat=>(x:Int))=True:=eq_true (List.mem_map_of_mem (f:=fun x:Nat=>(x:Int)) hin);generalize hN:forL _ (jSeq 2 (uq9 (ue4 7) (uq9 (ue4 8) jNil))) _ _ _=N at ih3 ⊢;simp! [mD,pD,mP,ej,cp,xor_int];refine ul3 ?_;have hI:∀ q:DK,xInB true (D.int ((fin 0 u ^^^ 2 ^ j:Nat):Int)) (D.ref qf) G' q=q (.bl false) G':=fun q=>by
      unfold xInB;simp only [k16,u11,hxm,u97,hin2];rfl
     simp! [hI];refine ih3 _ _ ⟨u++[p],r',some (.str (mP p).1),some (.int (mP p).2),by rw [<- e3,List.append_assoc];rfl,rfl,rfl,?_⟩;rw [ub5]
     show _=[_,_,_,_,_,_,some (D.int (fin 0 u ^^^ 2 ^ (p.2 - 1):Nat)),_,_,_]
     rw [show p.2 - 1=j by omega];rfl
  ·rintro z r σ G' ⟨l,r',v,e1,e2,rfl,rfl⟩ ih
   cases r' with
   | nil=>cases e2
   | cons x r' =>
    cases e2;refine ⟨by rw [u05 (gne k11 hpc),k11];rfl,?_⟩;have hlx:l.length<=256:=by
     have:=congrArg List.length e1;rw [List.length_append] at this;omega
    generalize hN:u90 _ (ue4 0) dYes _ _ _ _=N at ih ⊢;simp! [nD];refine ⟨by simp,?_⟩;simp! [kb];refine ⟨by simp,?_⟩;simp! [ki];refine ⟨by rw [List.length_map,List.length_map];exact Nat.lt_of_le_of_lt (m:=1000) (by omega) (by decide),?_⟩;rw [u19];exact ih _ _ ⟨l++[x],r',_,by rw [<- e1,List.append_assoc];rfl,rfl,by rw [List.map_append,List.map_append];rfl,rfl⟩
end
end Law
namespace Law
open PySem PySem.Spec PyProof.Rows L2 L3
def noL:W.Frag->Bool
 | []=>true
 | p::r=>(match p.2.data with | .seq _ _=>(match p.2.cls with | .type s=>!(s == "list") | _=>true) | _=>true) && noL r
theorem v27:∀ {K:W.Frag} {a:Addr} {o:Obj} {its:Array Value} {n:Nat},noL K=true->K.lookup a=some o->o.cls=.type "list" -> o.data=.seq its n->False
 | [],a,o,its,n,_,e,_,_=>by cases e
 | p::r,a,o,its,n,h,e,h1,h2=>by
  unfold noL at h;rw [Bool.and_eq_true] at h;rw [List.lookup_cons] at e;split at e
  ·cases e
   have q:=h.1;rw [h2] at q;simp only [h1] at q;exact absurd q (by decide)
  ·exact v27 h.2 e h1 h2
theorem arZ {P:List Value->Prop} (h:P []):∀ us:List Value,us.length=0->P us:=fun us e=>by rw [List.eq_nil_of_length_eq_zero e];exact h
theorem arS {n:Nat} {P:List Value->Prop} (h:∀ (a:Value) (us:List Value),us.length=n->P (a::us)):∀ us:List Value,us.length=n+1->P us:=fun us e=>by
 cases us with
 | nil=>cases e
 | cons a us=>exact h a us (Nat.succ.inj e)
theorem ar1 {P:List Value->Prop} (h:∀ a0,P [a0]):∀ us:List Value,us.length=1->P us:=arS fun a0=>arZ (h a0)
theorem ar2 {P:List Value->Prop} (h:∀ a0 a1,P [a0,a1]):∀ us:List Value,us.length=2->P us:=arS fun a0=>arS fun a1=>arZ (h a0 a1)
theorem ar3 {P:List Value->Prop} (h:∀ a0 a1 a2,P [a0,a1,a2]):∀ us:List Value,us.length=3->P us:=arS fun a0=>arS fun a1=>arS fun a2=>arZ (h a0 a1 a2)
theorem ar4 {P:List Value->Prop} (h:∀ a0 a1 a2 a3,P [a0,a1,a2,a3]):∀ us:List Value,us.length=4->P us:=arS fun a0=>arS fun a1=>arS fun a2=>arS fun a3=>arZ (h a0 a1 a2 a3)
theorem ar5 {P:List Value->Prop} (h:∀ a0 a1 a2 a3 a4,P [a0,a1,a2,a3,a4]):∀ us:List Value,us.length=5->P us:=arS fun a0=>arS fun a1=>arS fun a2=>arS fun a3=>arS fun a4=>arZ (h a0 a1 a2 a3 a4)
def us0 {K:W.Frag} {x qual:Str} {st:Stmt} {ps:List Str} {f:Addr} {oc:Value} {od an:Option Addr} {osl:Array (Option Value)} {kV doc pm cdv ct:Value} (l:K.lookup f=some ⟨oc,od,.func (W.fnOf x qual (u33 st) (u26 st) (u04 st) .none kV doc pm an cdv ct),osl⟩)
  (c:W.codeIn K cdv qual=true) (k:W.keepIn K (.ref f)=true) (hb:∀ us:List Value,us.length=ps.length->bindArgs (W.fnOf x qual (u33 st) (u26 st) (u04 st) .none kV doc pm an cdv ct) ⟨us,[]⟩=pure (ps.zip us)):FnAt K x qual st ps :=
 ⟨f,_,⟨oc,od,.none,kV,doc,pm,an,cdv,ct,osl,rfl,l,c⟩,k,.all hb⟩
def DF (K:W.Frag) (x:Str) (st:Stmt):Prop:=∃ (p:Addr) (oc:Value) (od an:Option Addr) (sl:Array (Option Value)) (kV dc pm cd ct:Value),W.nsIn K mainGlobals x=some (some (.ref p)) /\ K.lookup p=some ⟨oc,od,.func (W.fnOf x x (u33 st) (u26 st) (u04 st) .none kV dc pm an cd ct),sl⟩ /\ W.codeIn K cd x=true /\ W.keepIn K (.ref p)=true
def DM (K:W.Frag) (C:Addr) (x q:Str) (st:Stmt):Prop:=∃ (p:Addr) (oc:Value) (od an:Option Addr) (sl:Array (Option Value)) (kV dc pm cd ct:Value),W.findIn K (.ref C) x=some (some (.ref p)) /\ W.isFn K (.ref p)=true /\ K.lookup p=some ⟨oc,od,.func (W.fnOf x q (u33 st) (u26 st) (u04 st) .none kV dc pm an cd ct),sl⟩ /\ W.codeIn K cd q=true /\ W.keepIn K (.ref p)=true
section
variable {K:W.Frag} {h:Heap} {mg:Str->Option Value} {C:Addr} {x q:Str} {st:Stmt} {ps:List Str}
theorem df_m {p:Addr} {oc:Value} {od an:Option Addr} {sl:Array (Option Value)} {kV dc pm cd ct:Value} (a:W.nsIn K mainGlobals x=some (some (.ref p))) (l:K.lookup p=some ⟨oc,od,.func (W.fnOf x x (u33 st) (u26 st) (u04 st) .none kV dc pm an cd ct),sl⟩) (c:W.codeIn K cd x=true) (k:W.keepIn K (.ref p)=true):DF K x st:=⟨p,oc,od,an,sl,kV,dc,pm,cd,ct,a,l,c,k⟩
theorem dm_m {p:Addr} {oc:Value} {od an:Option Addr} {sl:Array (Option Value)} {kV dc pm cd ct:Value} (a:W.findIn K (.ref C) x=some (some (.ref p))) (i:W.isFn K (.ref p)=true) (l:K.lookup p=some ⟨oc,od,.func (W.fnOf x q (u33 st) (u26 st) (u04 st) .none kV dc pm an cd ct),sl⟩) (c:W.codeIn K cd q=true) (k:W.keepIn K (.ref p)=true):DM K C x q st:=⟨p,oc,od,an,sl,kV,dc,pm,cd,ct,a,i,l,c,k⟩
theorem df_f {N:List Str} (_:FnScope N ps (u04 st)) (X:K.In h) (G:h.Ns mainGlobals mg) (hb:∀ kV dc pm an cd ct,∀ us:List Value,us.length=ps.length->bindArgs (W.fnOf x x (u33 st) (u26 st) (u04 st) .none kV dc pm an cd ct) ⟨us,[]⟩=pure (ps.zip us)) (d:DF K x st) :
  ∃ f:FnAt K x x st ps,mg x=some (.ref f.a) /\ ∀ (s:Shared) (us:List Value),us.length=ps.length->BindsTo s f.fd ⟨us,[]⟩ (ps.zip us):=by
 obtain ⟨p,oc,od,an,sl,kV,dc,pm,cd,ct,a,l,c,k⟩:=d;exact ⟨us0 l c k (hb kV dc pm an cd ct),W.mg_of X G a,fun s us e=>.of_eq (hb kV dc pm an cd ct us e)⟩
theorem dm_f {N:List Str} (_:FnScope N ps (u04 st)) (hb:∀ kV dc pm an cd ct,∀ us:List Value,us.length=ps.length->bindArgs (W.fnOf x q (u33 st) (u26 st) (u04 st) .none kV dc pm an cd ct) ⟨us,[]⟩=pure (ps.zip us)) (d:DM K C x q st) :
  ∃ f:FnAt K x q st ps,W.findIn K (.ref C) x=some (some (.ref f.a)) /\ W.isFn K (.ref f.a)=true:=by
 obtain ⟨p,oc,od,an,sl,kV,dc,pm,cd,ct,a,i,l,c,k⟩:=d;exact ⟨us0 l c k (hb kV dc pm an cd ct),a,i⟩
end
def v17:Sp3:=fun ds G R=>∃ (a:Addr) (ns:List Int),ds=[.ref a] /\ G a=some (.fro (ns.map .int)) /\ ns.length<=63 /\ ∀ G',R (.bl true) G'
theorem uh9 {K:W.Frag} {H:Hp}:∀ ns:List Int,RelDs K H (ns.map D.int) (ns.map V.int)
 | []=>.nil
 | _::ns=>.cons RelD.intI (uh9 ns)
theorem vo4 {K:W.Frag} {H:Hp} {a:Addr} {ns:List Int} (hL:noL K=true) (hl:ns.length<=63) (hO:Only H) (hS:SqL K H a (ns.map V.int)):ue3 K v17 [.ref a] H (fun v _=>v=.bl true) fun _ _ _=>False:=by
 have ha:∃ o,H a=some (.frz o (.lst (ns.map V.int))):=by
  rcases hS with (h | h) | ⟨o,its,n,h1,h2,_,h3,_⟩
  ·rcases hO a with z | ⟨o,xs,z⟩
   ·rw [h] at z;cases z
   ·rw [h] at z;cases z
  ·exact h
  ·exact (v27 hL h1 h2 h3).elim
 obtain ⟨o,ha⟩:=ha;refine ⟨[.ref a],gup (fun _=>none) a (.fro (ns.map .int)),fun d _=>d=.bl true,.cons ?_ .nil,fun b u e=>?_,⟨a,ns,rfl,u01,hl,fun _=>rfl⟩,fun d G' v H' r _ _ e=>?_⟩
 ·rw [RelD]
 ·by_cases hb:b=a
  ·subst hb
   rw [u01] at e;cases e;exact ⟨o,_,ha,uh9 ns⟩
  ·rw [u05 hb] at e;cases e
 ·subst e
  rw [RelD] at r;exact r
end Law
namespace Law
open PySem PySem.Spec PyProof.Rows L2 L3 Rw
theorem txt_mk {K:W.Frag} {h:Heap} {mg:Str->Option Value} (X:K.In h) (G:h.Ns mainGlobals mg) 
  (pm_9:DF K "may_do" v60)
  (pm_12:DF K "set_of" v58)
  (pm_13:DF K "stands" v57)
  (pm_8:DF K "many_in" v61)
  (pm_0:DF K "behind" v67)
  (pm_11:DF K "moves_from" un3)
  (pm_10:DF K "move_on" v59)
  (pm_1:DF K "come_to" v66)
  (pm_6:DF K "_law_source" v63)
  (pm_3:DF K "_law_draw" v65)
  (pm_5:DF K "_law_moves" uv1)
  (pm_7:DF K "_law_way" v62)
  (pm_4:DF K "_law_grown" v64)
  (pm_2:DF K "law" uv0)
  (b_abs:W.nsIn K mainGlobals "abs" = some none)
  (b_any:W.nsIn K mainGlobals "any" = some none)
  (b_bool:W.nsIn K mainGlobals "bool" = some none)
  (b_int:W.nsIn K mainGlobals "int" = some none)
  (b_isinstance:W.nsIn K mainGlobals "isinstance" = some none)
  (b_len:W.nsIn K mainGlobals "len" = some none)
  (b_list:W.nsIn K mainGlobals "list" = some none)
  (b_range:W.nsIn K mainGlobals "range" = some none)
  (b_reversed:W.nsIn K mainGlobals "reversed" = some none)
  (b_set:W.nsIn K mainGlobals "set" = some none)
  (b_sorted:W.nsIn K mainGlobals "sorted" = some none) :
  ∃ T:Txt K mg,∀ (s:Shared) (v:Value),BindsTo s T.f_law.fd ⟨[v],[]⟩ [("_law_script",v)]:=by
 obtain ⟨f_jai,g_may_do,_⟩:=df_f sc_jai X G (fun _ _ _ _ _ _=>ar4 fun _ _ _ _=>rfl) pm_9;obtain ⟨f_jal,g_set_of,_⟩:=df_f v19 X G (fun _ _ _ _ _ _=>ar1 fun _=>rfl) pm_12;obtain ⟨f_jam,g_stands,_⟩:=df_f v18 X G (fun _ _ _ _ _ _=>ar2 fun _ _=>rfl) pm_13;obtain ⟨f_jah,g_many_in,_⟩:=df_f sc_jah X G (fun _ _ _ _ _ _=>ar1 fun _=>rfl) pm_8;obtain ⟨f_jaa,g_behind,_⟩:=df_f v22 X G (fun _ _ _ _ _ _=>ar2 fun _ _=>rfl) pm_0;obtain ⟨f_jak,g_moves_from,_⟩:=df_f sc_jak X G (fun _ _ _ _ _ _=>ar3 fun _ _ _=>rfl) pm_11;obtain ⟨f_jaj,g_move_on,_⟩:=df_f v20 X G (fun _ _ _ _ _ _=>ar2 fun _ _=>rfl) pm_10;obtain ⟨f_jab,g_come_to,_⟩:=df_f sc_jab X G (fun _ _ _ _ _ _=>ar2 fun _ _=>rfl) pm_1;obtain ⟨f_jaf,g_law_source,_⟩:=df_f v21 X G (fun _ _ _ _ _ _=>ar1 fun _=>rfl) pm_6;obtain ⟨f_jac,g_law_draw,_⟩:=df_f sc_jac X G (fun _ _ _ _ _ _=>ar2 fun _ _=>rfl) pm_3;obtain ⟨f_jae,g_law_moves,_⟩:=df_f sc_jae X G (fun _ _ _ _ _ _=>ar3 fun _ _ _=>rfl) pm_5;obtain ⟨f_jag,g_law_way,_⟩:=df_f sc_jag X G (fun _ _ _ _ _ _=>ar4 fun _ _ _ _=>rfl) pm_7;obtain ⟨f_jad,g_law_grown,_⟩:=df_f sc_jad X G (fun _ _ _ _ _ _=>ar2 fun _ _=>rfl) pm_4;obtain ⟨f_law,g_law,b_law⟩:=df_f sc_law X G (fun _ _ _ _ _ _=>ar1 fun _=>rfl) pm_2;exact ⟨⟨f_jai,g_may_do,f_jal,g_set_of,f_jam,g_stands,f_jah,g_many_in,f_jaa,g_behind,f_jak,g_moves_from,f_jaj,g_move_on,f_jab,g_come_to,f_jaf,g_law_source,f_jac,g_law_draw,f_jae,g_law_moves,f_jag,g_law_way,f_jad,g_law_grown,f_law,g_law,W.mg_none_of X G b_abs,W.mg_none_of X G b_any,W.mg_none_of X G b_bool,W.mg_none_of X G b_int,W.mg_none_of X G b_isinstance,W.mg_none_of X G b_len,W.mg_none_of X G b_list,W.mg_none_of X G b_range,W.mg_none_of X G b_reversed,W.mg_none_of X G b_set,W.mg_none_of X G b_sorted⟩,fun s v=>b_law s [v] rfl⟩
theorem vr4 {P:Program} {w:World} {K:W.Frag} {mg:Str->Option Value} {base:Heap} (T:Txt K mg):Ok P w mg base 6 T.f_law (vr5 T):=by
 have H_jal:=@vl7 P w K mg base T 0;have H_jaa:=@vm8 P w K mg base T 1 (FnOk.mono H_jal (by decide));have H_jam:=@vl6 P w K mg base T 1 (FnOk.mono H_jal (by decide));have H_jah:=@vm1 P w K mg base T 0;have H_jai:=@vm0 P w K mg base T 2 (FnOk.mono H_jam (by decide)) (FnOk.mono H_jah (by decide));have H_jaj:=@vl9 P w K mg base T 2 (FnOk.mono H_jam (by decide));have H_jak:=@vl8 P w K mg base T 3 (FnOk.mono H_jai (by decide)) (FnOk.mono H_jaj (by decide));have H_jab:=@vm7 P w K mg base T 4 (FnOk.mono H_jaa (by decide)) (FnOk.mono H_jak (by decide));have H_jaf:=@vm3 P w K mg base T 0;have H_jac:=@vm6 P w K mg base T 0;have H_jae:=@vm4 P w K mg base T 0;have H_jag:=@vm2 P w K mg base T 1 (FnOk.mono H_jac (by decide)) (FnOk.mono H_jae (by decide));have H_jad:=@vm5 P w K mg base T 1 (FnOk.mono H_jae (by decide));have H_law:=@vl5 P w K mg base T 5 (FnOk.mono H_jab (by decide)) (FnOk.mono H_jaf (by decide)) (FnOk.mono H_jac (by decide)) (FnOk.mono H_jag (by decide)) (FnOk.mono H_jad (by decide));exact H_law
theorem walk {l:W.OpenLaw} {q:Program} {loose:List Str} {XP:(Str->Option Value)->Heap->Prop} {YP:World->Heap->Prop} {d:DefRec} {K:Params->W.Frag} (hn:l.most=some 63) (hdf:d.params.defaults=[])
  (hY:∀ (w:World) (h:Heap),YP w h->(K w.params).In h) (hL:∀ w:World,noL (K w.params)=true)
  (F:∀ (w:World) (mg:Str->Option Value) (fa:Addr) (h:Heap),(K w.params).In h->h.Ns mainGlobals mg->mg d.name=some (.ref fa)->∃ T:Txt (K w.params) mg,∀ (s:Shared) (v:Value),BindsTo s T.f_law.fd ⟨[v],[]⟩ [("_law_script",v)]) (hdn:d.name = "law" := by rfl) :
  W.WalkO q loose XP YP l.row.toRowW d [] (fun f vs=>PySem.call f vs):=by
 refine L2.walk_of (n:=63) (k:=6) (x := "_law_script") (CX:=fun _=>CX0) (sp:=fun w=>ue3 (K w.params) v17) hn (by decide) hdf ⟨rfl,by decide,by decide⟩ hY (fun w mg fa h hK hN hm=>?_) (fun w H a ns hl hO hS=>vo4 (hL w) hl hO hS) fun _ _ _ _ _ z=>z
 obtain ⟨T,hb⟩:=F w mg fa h hK hN hm;rw [hdn] at hm;have e:=hm.symm.trans T.g_law;cases e;exact ⟨T.f_law.fd,hb,fun base _ _=>vr4 T⟩
end Law
end
open PySem PySem.W PyProof.Rows
local macro_rules | `(tactic| ac_rfl) => `(tactic| (refine' Law.df_m ?a ?b ?c ?d; (case a => k_is); (case b => k_is); (case c => k_is); (case d => k_is)))
local macro_rules | `(tactic| bv_omega) => `(tactic| (refine' Law.dm_m ?a ?b ?c ?d ?e; (case a => k_is); (case b => k_is); (case c => k_is); (case d => k_is); (case e => k_is)))
set_option maxHeartbeats 0 in
theorem PySem.Challenge.cw_nolitter_k42_sets_come_to_holds : PySem.Challenge.rw_nolitter_k42_sets_come_to.Holds := by
 w_on; o_law; k_head; (case hw => w_witness2)
 k_fill
 refine Law.walk (l := PySem.Challenge.rw_nolitter_k42_sets_come_to) rfl rfl (fun w h Y => PySem.W.kIn_of Y) ?L ?F
 case L => exact fun w => rfl
 case F =>
  intro w mg fa h KX G hmg
  refine' Law.txt_mk KX G ?pm_9 ?pm_12 ?pm_13 ?pm_8 ?pm_0 ?pm_11 ?pm_10 ?pm_1 ?pm_6 ?pm_3 ?pm_5 ?pm_7 ?pm_4 ?pm_2 ?b_abs ?b_any ?b_bool ?b_int ?b_isinstance ?b_len ?b_list ?b_range ?b_reversed ?b_set ?b_sorted
  (case pm_9 => ac_rfl)
  (case pm_12 => ac_rfl)
  (case pm_13 => ac_rfl)
  (case pm_8 => ac_rfl)
  (case pm_0 => ac_rfl)
  (case pm_11 => ac_rfl)
  (case pm_10 => ac_rfl)
  (case pm_1 => ac_rfl)
  (case pm_6 => ac_rfl)
  (case pm_3 => ac_rfl)
  (case pm_5 => ac_rfl)
  (case pm_7 => ac_rfl)
  (case pm_4 => ac_rfl)
  (case pm_2 => ac_rfl)
  (case b_abs => k_is)
  (case b_any => k_is)
  (case b_bool => k_is)
  (case b_int => k_is)
  (case b_isinstance => k_is)
  (case b_len => k_is)
  (case b_list => k_is)
  (case b_range => k_is)
  (case b_reversed => k_is)
  (case b_set => k_is)
  (case b_sorted => k_is)
