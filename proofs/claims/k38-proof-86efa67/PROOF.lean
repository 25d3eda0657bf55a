import PyProof.Rows.All
import Wide.All
import OpenK.AllK
import Wide.FinOn
import Lean
import PyProof.EqAt
import PyProof.EqKinds
import PyProof.TupleCall
import PyProof.NeKinds
import PyProof.Rows.SeqMore
import PyProof.FactsAll.tuple_2
import KE.KDictOf
import PyProof.ExcInit
import PyProof.ExcClass3
import PyProof.NsDelKeeps
import PyProof.RulesAs
import PyProof.Rows.CountFlat
import PyProof.AutoListH
import KE.KIntText
import PyProof.Rows.CatFin
import PyProof.Rows.Range3
import PyProof.Rows.CallKwBuiltin
import PyProof.NoPylong
import PyProof.EnumMake
import PyProof.Draws
import PyProof.DictWalks
import PyProof.DictUpdate
import KE.KLam
import KE.KMinKey
import KE.KNestM
import PySem.Challenge.RW_nolitter_k38_whole_none_is_cheaper
set_option Elab.async false
set_option linter.all false
set_option maxRecDepth 100000
set_option maxHeartbeats 4000000
local macro_rules | `(tactic| decide) => `(tactic| decide +kernel)
noncomputable section
namespace L2
open PySem PySem.Spec PyProof.Rows
abbrev Key:=Sum Int Str
def up5:Key->Value->Bool
 | .inl k,v=>Value.isInt k v
 | .inr x,v=>Value.isStrOf x v
def keyH (w:World):Key->Int
 | .inl k=>hashInt k
 | .inr x=>hashStr w x
theorem u15:∀ {k:Key} {v:Value},up5 k v=true->(∃ i t,k=Sum.inl i /\ v=Value.int i t) \/ (∃ x t,k=Sum.inr x /\ v=Value.str x t)
 | .inl i,v,h=>by
  obtain ⟨t,e⟩:=Value.isInt_shape (k:=i) (v:=v) h;exact .inl ⟨i,t,rfl,e⟩
 | .inr x,v,h=>by
  obtain ⟨t,e⟩:=Value.isStrOf_shape (x:=x) (v:=v) h;exact .inr ⟨x,t,rfl,e⟩
theorem ux2 (i:Int) (t:Tok):up5 (.inl i) (.int i t)=true:=by simp [up5,Value.isInt]
theorem ux1 (x:Str) (t:Tok):up5 (.inr x) (.str x t)=true:=by simp [up5,Value.isStrOf]
theorem vy7 (a b:Int):decide ((Sum.inl a:Key)=Sum.inl b)=(a == b):=by
 by_cases e:a=b
 ·subst e;simp
 ·have h:¬ (Sum.inl a:Key)=Sum.inl b:=fun q=>e (Sum.inl.inj q)
  rw [decide_eq_false h];exact (beq_eq_false_iff_ne.mpr e).symm
theorem vy4 (a b:Str):decide ((Sum.inr a:Key)=Sum.inr b)=decide (a=b):=by
 by_cases e:a=b
 ·subst e;simp
 ·have h:¬ (Sum.inr a:Key)=Sum.inr b:=fun q=>e (Sum.inr.inj q)
  rw [decide_eq_false h,decide_eq_false e]
theorem vy6 (a:Int) (b:Str):decide ((Sum.inl a:Key)=Sum.inr b)=false:=decide_eq_false (fun q=>nomatch q)
theorem vy5 (a:Str) (b:Int):decide ((Sum.inr a:Key)=Sum.inl b)=false:=decide_eq_false (fun q=>nomatch q)
def u17 (prog:Program) (w:World):PySem.KeyKind prog w Key where
 is:=up5
 hash:=keyH w
 inj:=fun v a b ha hb=>by
  rcases u15 ha with ⟨i,t,rfl,rfl⟩ | ⟨x,t,rfl,rfl⟩
  ·rcases u15 hb with ⟨j,u,rfl,e⟩ | ⟨y,u,rfl,e⟩
   ·injection e with e1 _;rw [e1]
   ·exact nomatch e
  ·rcases u15 hb with ⟨j,u,rfl,e⟩ | ⟨y,u,rfl,e⟩
   ·exact nomatch e
   ·injection e with e1 _;rw [e1]
 byValue:=fun k v h=>by
  rcases u15 h with ⟨i,t,rfl,rfl⟩ | ⟨x,t,rfl,rfl⟩ <;> rfl
 pyHash:=fun hv h=>by
  rcases u15 hv with ⟨i,t,rfl,rfl⟩ | ⟨x,t,rfl,rfl⟩
  ·exact wpAny_pyHash_int h
  ·exact wpAny_pyHash_str h
 eqBool:=fun hu hv h=>by
  rcases u15 hu with ⟨i,t,rfl,rfl⟩ | ⟨x,t,rfl,rfl⟩
  ·rcases u15 hv with ⟨j,u,rfl,rfl⟩ | ⟨y,u,rfl,rfl⟩
   ·rw [vy7] at h;exact wpAny_eqBool_int h
   ·rw [vy6] at h;exact SeqAt.EqAt.int_str i t y u _ _ _ _ h
  ·rcases u15 hv with ⟨j,u,rfl,rfl⟩ | ⟨y,u,rfl,rfl⟩
   ·rw [vy5] at h;exact SeqAt.EqAt.str_int x t j u _ _ _ _ h
   ·rw [vy4] at h;exact wpAny_eqBool_str h
 «strs»:=fun k x t v h=>by
  rcases u15 h with ⟨i,u,rfl,e⟩ | ⟨y,u,rfl,e⟩
  ·exact nomatch e
  ·injection e with e1 _
   subst e1;cases v <;> rfl
theorem ui3 (prog:Program) (w:World) (i:Int) (t:Tok):(u17 prog w).is (.inl i) (.int i t)=true:=ux2 i t
theorem ui2 (prog:Program) (w:World) (x:Str) (t:Tok):(u17 prog w).is (.inr x) (.str x t)=true:=ux1 x t
inductive V where
 | non | bl (b:Bool) | int (i:Int) | str (x:Str) | byt (b:Array UInt8) | flt (b:UInt64) | ref (a:Addr) | ty (n:String)
 deriving DecidableEq
def RelV:V->Value->Prop
 | .non,u=>u=Value.none
 | .bl b,u=>u=Value.bool b
 | .int i,u=>∃ t,u=Value.int i t
 | .str x,u=>∃ t,u=Value.str x t
 | .byt b,u=>∃ t,u=Value.bytes b t
 | .flt b,u=>∃ t,u=Value.float b t
 | .ref a,u=>u=Value.ref a
 | .ty n,u=>u=Value.type n
abbrev Vals:List V->List Value->Prop:=Paired RelV
theorem Vals.length {xs:List V} {us:List Value} (r:Vals xs us):xs.length=us.length:=Paired.length r
theorem Vals.get:∀ {xs:List V} {us:List Value} {i:Nat} {x:V},Vals xs us->xs[i]?=some x->∃ u,us[i]?=some u /\ RelV x u
 | _,_,_,_,.nil,e=>by simp at e
 | _,_,0,_,.cons r _,e=>by simp at e;subst e;exact ⟨_,rfl,r⟩
 | _,_,i+1,x,.cons _ t,e=>by
  obtain ⟨u,h1,h2⟩:=Vals.get (i:=i) (x:=x) t (by simpa using e);exact ⟨u,by simpa using h1,h2⟩
theorem Vals.set {x:V} {u:Value} (r:RelV x u):∀ {xs:List V} {us:List Value} (i:Nat),Vals xs us->Vals (xs.set i x) (us.set i u)
 | _,_,_,.nil=>.nil
 | _,_,0,.cons _ t=>.cons r t
 | _,_,i+1,.cons q t=>.cons q (Vals.set r i t)
theorem Vals.append:∀ {xs ys:List V} {us ws:List Value},Vals xs us->Vals ys ws->Vals (xs++ys) (us++ws)
 | _,_,_,_,.nil,s=>s
 | _,_,_,_,.cons r t,s=>.cons r (Vals.append t s)
theorem Vals.take:∀ {xs:List V} {us:List Value} (n:Nat),Vals xs us->Vals (xs.take n) (us.take n)
 | _,_,0,_=>.nil
 | _,_,_+1,.nil=>.nil
 | _,_,n+1,.cons r t=>.cons r (Vals.take n t)
theorem Vals.drop:∀ {xs:List V} {us:List Value} (n:Nat),Vals xs us->Vals (xs.drop n) (us.drop n)
 | _,_,0,r=>r
 | _,_,_+1,.nil=>.nil
 | _,_,n+1,.cons _ t=>Vals.drop n t
theorem Vals.none_of:∀ {xs:List V} {us:List Value} {i:Nat},Vals xs us->xs[i]?=none->us[i]?=none:=fun {xs us i} r e=>by
 have h1:=r.length;have h2:xs.length<=i:=List.getElem?_eq_none_iff.mp e;exact List.getElem?_eq_none_iff.mpr (by omega)
def RelO:Option V->Option Value->Prop
 | some v,some u=>RelV v u
 | none,none=>True
 | _,_=>False
def KV {κ:Type}:List (κ × V)->List (κ × Value)->Prop:=Paired fun (p:κ × V) (q:κ × Value)=>p.1=q.1 /\ RelV p.2 q.2
def kV:Key->V
 | .inl i=>.int i
 | .inr x=>.str x
inductive HO where
 | lst (xs:List V)
 | tup (xs:List V)
 | dK (kvs:List (Key × V)) | dT (kvs:List (List Key × V))
 | set (S:Int->Bool) (n:Nat)
 | ins (C dx:Addr) (fs:List (Str × V))
 | own (x:Addr)
 | xd (fs:List (Str × V))
 | met (f x:Addr)
 | rng (lo hi:Int)
 | frz (o:Obj) (u:HO)
 | tbl (ps:Array Value)
 | ext (φ:Heap->Prop)
abbrev Hp:=Addr->Option HO
def upd (H:Hp) (a:Addr) (o:HO):Hp:=fun b=>if b=a then some o else H b
theorem u14 {H:Hp} {a:Addr} {o:HO}:upd H a o a=some o:=by unfold upd;rw [if_pos rfl]
theorem u12 {H:Hp} {a b:Addr} {o:HO} (h:b ≠ a):upd H a o b=H b:=by unfold upd;rw [if_neg h]
theorem w54 {H:Hp} {a b:Addr} {o u:HO} (h:H a=some o) (h':H b=some u) (d:o ≠ u):a ≠ b:=by
 intro e;subst e;rw [h] at h';exact d (Option.some.inj h')
theorem u22 {H:Hp} {a b:Addr} {o:HO} (h:H a=some o) (h':H b=none):a ≠ b:=by
 intro e;subst e;rw [h] at h';cases h'
section
variable (P:Program) (w:World)
def TupD (h:Heap) (a:Addr) (its:Array Value):Prop:=∃ o,h.get? a=some o /\ o.cls=.type "tuple" /\ (∃ n,o.data=.seq its n) /\ o.dict=none
theorem TupD.tup {h:Heap} {a:Addr} {its:Array Value} (x:TupD h a its):IsTup h a its:=let ⟨o,e,c,d,_⟩:=x;⟨o,e,c,d⟩
theorem TupD.new (h:Heap) (its:Array Value):TupD (h.push { cls:=.type "tuple",data:=.seq its }) h.objs.size its:=⟨_,Heap.get?_push_size _ rfl,rfl,⟨_,rfl⟩,rfl⟩
def ObjOk (H:Hp) (h:Heap) (a:Addr):HO->Prop
 | .lst xs=>xs.length<=sizeLine /\ ∃ (its:List Value) (n:Nat),Vals xs its /\ h.get? a=some { cls:=.type "list",data:=.seq its.toArray n }
 | .tup xs=>xs.length<=sizeLine /\ ∃ its:List Value,Vals xs its /\ TupD h a its.toArray
 | .dK kvs=>kvs.length<=sizeLine /\ (a == sysModules)=false /\ ∃ vs,KV kvs vs /\ h.DictOf (u17 P w) a vs
 | .dT kvs=>kvs.length<=sizeLine /\ (a == sysModules)=false /\ ∃ xs:List (List Key × Addr × Value),
   Paired (fun (p:List Key × V) (q:List Key × Addr × Value)=>p.1=q.1 /\ H q.2.1=some (.tup (p.1.map kV)) /\ RelV p.2 q.2.2) kvs xs /\
   ∃ o es ep,h.get? a=some o /\ o.ExactDict /\ o.data=.dict es ep /\ es.toList=xs.map (entryOfKey (tupleKind (u17 P w))) /\ (xs.map (·.1)).Nodup
 | .set S n=>h.SetOf (intKind P w) a S n
 | .ins C dx fs=>H dx=some (.own a) /\ fs.length<=1000 /\ dx ≠ a /\ h.get? a=some (PySem.W.instObj C dx) /\
   ∃ mA,h.Ns1 dx mA /\ (∀ f,RelO (fs.lookup f) (mA f)) /\ PySem.Within mA (fs.map (·.1))
 | .own _=>∃ o,h.get? a=some o
 | .xd fs=>∃ mA,h.Ns1 a mA /\ ∀ f,RelO (fs.lookup f) (mA f)
 | .rng lo hi=>∃ t u v,h.get? a=some { cls:=.type "range",data:=.fields #[.int lo t,.int hi u,.int 1 v] }
 | .frz o u=>h.get? a=some o /\ ObjOk H h a u
 | .tbl ps=>h.get? a=some { cls:=.none,data:=.fields ps }
 | .met f x=>h.get? a=some (PySem.W.methodObj (.ref f) (.ref x))
 | .ext φ=>φ h /\ (∃ o,h.get? a=some o) /\ ∀ h1 h2:Heap,φ h1->(∀ o,h1.get? a=some o->h2.get? a=some o)->φ h2
def HOk (H:Hp) (h:Heap):Prop:=∀ a o,H a=some o->ObjOk P w H h a o
end
section
variable {P:Program} {w:World} {H H':Hp} {h h':Heap} {a:Addr} {o:HO}
theorem ObjOk.lt (x:ObjOk P w H h a o):a < h.objs.size:=by
 cases o with
 | lst xs=>obtain ⟨_,_,_,_,e⟩:=x;exact Heap.lt_size e
 | tup xs=>obtain ⟨_,_,_,p⟩:=x;exact p.tup.lt
 | dK kvs=>obtain ⟨_,_,_,_,o,_,_,e,_⟩:=x;exact Heap.lt_size e
 | dT kvs=>obtain ⟨_,_,_,_,o,_,_,e,_⟩:=x;exact Heap.lt_size e
 | set S n=>obtain ⟨o,_,_,_,e,_⟩:=x;exact Heap.lt_size e
 | ins C dx fs=>obtain ⟨_,_,_,e,_⟩:=x;exact Heap.lt_size e
 | own y=>obtain ⟨_,e⟩:=x;exact Heap.lt_size e
 | xd fs=>obtain ⟨_,⟨_,_,_,e,_⟩,_⟩:=x;exact Heap.lt_size e
 | rng lo hi=>obtain ⟨_,_,_,e⟩:=x;exact Heap.lt_size e
 | frz ob u=>obtain ⟨e,_⟩:=x;exact Heap.lt_size e
 | tbl ps=>exact Heap.lt_size (show h.get? a=some _ from x)
 | met f y=>exact Heap.lt_size (show h.get? a=some _ from x)
 | ext φ=>obtain ⟨_,⟨_,e⟩,_⟩:=x;exact Heap.lt_size e
theorem Paired.mapP {α β:Type} {F G:α->β->Prop}:∀ {l₁:List α} {l₂:List β},Paired F l₁ l₂->(∀ a b,F a b->G a b)->Paired G l₁ l₂
 | _,_,.nil,_=>.nil
 | _,_,.cons r t,f=>.cons (f _ _ r) (Paired.mapP t f)
theorem ObjOk.stay (x:ObjOk P w H h a o) (k:∀ b u,(b=a \/ H b=some (.own a))->h.get? b=some u->h'.get? b=some u)
  (ho:∀ b,H b=some (.own a)->H' b=some (.own a)) (ht:∀ b xs,H b=some (.tup xs)->H' b=some (.tup xs)):ObjOk P w H' h' a o:=by
 induction o with
 | lst xs=>obtain ⟨z,its,n,r,e⟩:=x;exact ⟨z,its,n,r,k _ _ (.inl rfl) e⟩
 | tup xs=>obtain ⟨z,its,r,ob,e,c⟩:=x;exact ⟨z,its,r,ob,k _ _ (.inl rfl) e,c⟩
 | dK kvs=>obtain ⟨z,y,vs,r,ob,es,ep,e,c⟩:=x;exact ⟨z,y,vs,r,ob,es,ep,k _ _ (.inl rfl) e,c⟩
 | dT kvs =>
  obtain ⟨z,y,xs,r,ob,es,ep,e,c⟩:=x;exact ⟨z,y,xs,Paired.mapP r fun p q z=>⟨z.1,ht _ _ z.2.1,z.2.2⟩,ob,es,ep,k _ _ (.inl rfl) e,c⟩
 | set S n=>obtain ⟨ob,es,ep,t,e,c⟩:=x;exact ⟨ob,es,ep,t,k _ _ (.inl rfl) e,c⟩
 | ins C dx fs =>
  obtain ⟨d,z,ne,e,mA,⟨od,es,ep,e2,c⟩,r⟩:=x;exact ⟨ho _ d,z,ne,k _ _ (.inl rfl) e,mA,⟨od,es,ep,k _ _ (.inr d) e2,c⟩,r⟩
 | own y=>obtain ⟨ob,e⟩:=x;exact ⟨ob,k _ _ (.inl rfl) e⟩
 | xd fs=>obtain ⟨mA,⟨od,es,ep,e,c⟩,r⟩:=x;exact ⟨mA,⟨od,es,ep,k _ _ (.inl rfl) e,c⟩,r⟩
 | rng lo hi=>obtain ⟨t,u,v,e⟩:=x;exact ⟨t,u,v,k _ _ (.inl rfl) e⟩
 | frz ob u ih=>obtain ⟨e,q⟩:=x;exact ⟨k _ _ (.inl rfl) e,ih q⟩
 | tbl ps =>
  have e:h.get? a=some { cls:=.none,data:=.fields ps }:=x
  show h'.get? a=some { cls:=.none,data:=.fields ps }
  exact k a _ (.inl rfl) e
 | met f y =>
  have e:h.get? a=some (PySem.W.methodObj (.ref f) (.ref y)):=x
  show h'.get? a=some (PySem.W.methodObj (.ref f) (.ref y))
  exact k a _ (.inl rfl) e
 | ext φ=>obtain ⟨p,⟨o,e⟩,st⟩:=x;exact ⟨st _ _ p fun o q=>k _ _ (.inl rfl) q,⟨o,k _ _ (.inl rfl) e⟩,st⟩
theorem HOk.lt (x:HOk P w H h) (e:H a=some o):a < h.objs.size:=(x a o e).lt
theorem HOk.fresh (x:HOk P w H h) (e:h.objs.size<=a):H a=none:=by
 cases q:H a with
 | none=>rfl
 | some u=>exact absurd (Nat.lt_of_lt_of_le (x.lt q) e) (Nat.lt_irrefl _)
theorem HOk.kept (x:HOk P w H h) (k:∀ b u,h.get? b=some u->h'.get? b=some u):HOk P w H h':=fun a o e =>
 (x a o e).stay (fun b u _ q=>k b u q) (fun _ q=>q) fun _ _ q=>q
theorem HOk.laid (x:HOk P w H h) (k:∀ b u,h.get? b=some u->h'.get? b=some u) (hp:h.objs.size<=a) (new:ObjOk P w (upd H a o) h' a o):HOk P w (upd H a o) h':=fun b u e=>by
 have hn:=x.fresh hp
 by_cases hb:b=a
 ·subst hb;rw [u14] at e;cases e;exact new
 ·rw [u12 hb] at e
  exact (x b u e).stay (fun c v _ q=>k c v q) (fun c q=>by rw [u12 (u22 q hn)];exact q) fun c xs q=>by rw [u12 (u22 q hn)];exact q
end
def Rd (H:Hp) (a:Addr) (u:HO):Prop:=H a=some u \/ ∃ o,H a=some (.frz o u)
theorem Rd.of {H:Hp} {a:Addr} {u:HO} (h:H a=some u):Rd H a u:=.inl h
theorem Rd.ok {P:Program} {w:World} {H:Hp} {h:Heap} {a:Addr} {u:HO} (r:Rd H a u) (x:HOk P w H h):ObjOk P w H h a u:=by
 rcases r with r | ⟨o,r⟩
 ·exact x a u r
 ·obtain ⟨_,q⟩:=x a _ r
  exact q
def Mut:Option HO->Prop
 | some (.lst _)=>True
 | some (.dK _)=>True
 | some (.dT _)=>True
 | some (.set _ _)=>True
 | some (.ins _ _ _)=>True
 | some (.ext _)=>True
 | _=>False
section
variable {P:Program} {w:World} {H:Hp} {h h':Heap} {x e:Addr} {o':HO}
theorem HOk.write (ok:HOk P w H h) (mu:Mut (H x)) (he:e=x \/ H e=some (.own x)) (k:∀ b u,b ≠ e->h.get? b=some u->h'.get? b=some u) (heo:∃ u,h'.get? e=some u)
  (new:ObjOk P w (upd H x o') h' x o'):HOk P w (upd H x o') h':=fun b u q=>by
 have nown:∀ c y,H c=some (.own y)->c ≠ x:=fun c y r z=>by subst z;rw [r] at mu;exact mu
 have ntup:∀ c xs,H c=some (.tup xs)->c ≠ x:=fun c xs r z=>by subst z;rw [r] at mu;exact mu
 by_cases hb:b=x
 ·subst hb;rw [u14] at q;cases q;exact new
 ·rw [u12 hb] at q
  by_cases hbe:b=e
  ·have q':H b=some (.own x):=by
    rcases he with z | z
    ·exact absurd (hbe.trans z) hb
    ·rw [hbe];exact z
   rw [q] at q';cases q';obtain ⟨v,hv⟩:=heo;exact ⟨v,by rw [hbe];exact hv⟩
  ·refine (ok b u q).stay (fun c v hc r=>k c v ?_ r) (fun c r=>by rw [u12 (nown c b r)];exact r) fun c xs r=>by rw [u12 (ntup c xs r)];exact r
   rcases hc with rfl | hc
   ·exact hbe
   ·rintro rfl
    rcases he with z | z
    ·exact nown c b hc z
    ·rw [hc] at z;cases z;exact hb rfl
end
structure Un (fs ex:List Addr) (H H':Hp) (h h':Heap):Prop where
 keep:∀ b o,h.get? b=some o->H b=none->b ∉ fs->b ∉ ex->h'.get? b=some o
 slot:∀ b o,h.get? b=some o->H b=none->b ∈ fs->b ∉ ex->∃ sl,h'.get? b=some { o with slots:=sl }
 free:∀ b o,h.get? b=some o->H b=none->b ∉ ex->H' b=none
 there:∀ b o,h.get? b=some o->b ∉ ex->∃ o',h'.get? b=some o'
 tups:∀ b xs,H b=some (.tup xs)->H' b=some (.tup xs)
 frzs:∀ b o u,H b=some (.frz o u)->H' b=some (.frz o u)
 tbls:∀ b ps,H b=some (.tbl ps)->∃ more,H' b=some (.tbl (ps++more))
section
variable {fs fs' ex ex':List Addr} {H H1 H2:Hp} {h h1 h2 h':Heap} {a x e:Addr} {o:HO}
theorem Un.any (u:Un fs ex H H1 h h1) {b:Addr} {ob:Obj} (q:h.get? b=some ob) (n:H b=none) (hx:b ∉ ex):∃ sl,h1.get? b=some { ob with slots:=sl }:=by
 by_cases hb:b ∈ fs
 ·exact u.slot b ob q n hb hx
 ·exact ⟨ob.slots,u.keep b ob q n hb hx⟩
theorem Un.trans (a:Un fs ex H H1 h h1) (b:Un fs ex H1 H2 h1 h2):Un fs ex H H2 h h2 where
 keep:=fun c ob q n hc hx=>b.keep c ob (a.keep c ob q n hc hx) (a.free c ob q n hx) hc hx
 slot:=fun c ob q n hc hx=>by
  obtain ⟨sl,e1⟩:=a.slot c ob q n hc hx;obtain ⟨sl',e2⟩:=b.slot c _ e1 (a.free c ob q n hx) hc hx;exact ⟨sl',e2⟩
 free:=fun c ob q n hx=>by
  obtain ⟨o',e1⟩:=a.there c ob q hx;exact b.free c o' e1 (a.free c ob q n hx) hx
 there:=fun c ob q hx=>by
  obtain ⟨o',e1⟩:=a.there c ob q hx;exact b.there c o' e1 hx
 tups:=fun c xs q=>b.tups c xs (a.tups c xs q)
 frzs:=fun c ob xs q=>b.frzs c ob xs (a.frzs c ob xs q)
 tbls:=fun c ps q=>by
  obtain ⟨m1,e1⟩:=a.tbls c ps q;obtain ⟨m2,e2⟩:=b.tbls c _ e1;exact ⟨m1++m2,by rw [e2,Array.append_assoc]⟩
theorem Un.kept (k:∀ b u,h.get? b=some u->h'.get? b=some u):Un fs ex H H h h' :=
 ⟨fun b ob q _ _ _=>k b ob q,fun b ob q _ _ _=>⟨ob.slots,k b ob q⟩,fun _ _ _ n _=>n,fun b ob q _=>⟨ob,k b ob q⟩,fun _ _ q=>q,fun _ _ _ q=>q,fun _ ps q=>⟨#[],by rw [q];simp⟩⟩
theorem Un.refl:Un fs ex H H h h:=Un.kept fun _ _ q=>q
theorem Un.laid (k:∀ b u,h.get? b=some u->h'.get? b=some u) (hp:h.objs.size<=a) (hn:H a=none):Un fs ex H (upd H a o) h h' where
 keep:=fun b u q _ _ _=>k b u q
 slot:=fun b u q _ _ _=>⟨u.slots,k b u q⟩
 free:=fun b u q n _=>by rw [u12 (Nat.ne_of_lt (Nat.lt_of_lt_of_le (Heap.lt_size q) hp))];exact n
 there:=fun b u q _=>⟨u,k b u q⟩
 tups:=fun b xs q=>by rw [u12 (u22 q hn)];exact q
 frzs:=fun b u xs q=>by rw [u12 (u22 q hn)];exact q
 tbls:=fun b ps q=>⟨#[],by rw [u12 (u22 q hn),q];simp⟩
theorem Un.write (mu:Mut (H x)) (he:e=x \/ H e=some (.own x)) (k:∀ b u,b ≠ e->h.get? b=some u->h'.get? b=some u) (heo:∃ u,h'.get? e=some u):Un fs ex H (upd H x o) h h':=by
 have hx:∀ b,H b=none->b ≠ x:=fun b n z=>by subst z;rw [n] at mu;exact mu
 have hb:∀ b,H b=none->b ≠ e:=fun b n z=>by
  subst z
  rcases he with r | r
  ·exact hx b n r
  ·rw [n] at r;cases r
 have hm:∀ b u,H b=some u->¬ Mut (some u)->b ≠ x:=fun b u q nm z=>by subst z;rw [q] at mu;exact nm mu
 refine ⟨fun b u q n _ _=>k b u (hb b n) q,fun b u q n _ _=>⟨u.slots,k b u (hb b n) q⟩,fun b u q n _=>by rw [u12 (hx b n)];exact n,fun b u q _=>?_,
  fun b xs q=>by rw [u12 (hm b _ q fun z=>z)];exact q,fun b u xs q=>by rw [u12 (hm b _ q fun z=>z)];exact q,fun b ps q=>⟨#[],by rw [u12 (hm b _ q fun z=>z),q];simp⟩⟩
 by_cases hbe:b=e
 ·subst hbe;exact heo
 ·exact ⟨u,k b u hbe q⟩
end
def trk (h:Heap) (H:Hp):List Addr:=(List.range h.objs.size).filter fun a=>(H a).isSome
def hidT (h:Heap) (H:Hp):Heap:=PySem.W.hideAll h (trk h H)
theorem uy1 (h:Heap) (H:Hp):(hidT h H).objs.size=h.objs.size:=PySem.W.hideAll_size _ _
theorem v66 {h:Heap} {H:Hp} {b:Addr} {o:Obj} (e:h.get? b=some o) (n:H b=none):(hidT h H).get? b=some o :=
 PySem.W.hideAll_get _ e fun hm=>by
  have q:(H b).isSome=true:=(List.mem_filter.mp hm).2;rw [n] at q;simp at q
theorem vj1 {h:Heap} {H:Hp} {b:Addr} {o:Obj} (e:(hidT h H).get? b=some o):h.get? b=some o /\ H b=none:=by
 have e':h.get? b=some o:=PySem.W.of_hideAll (trk h H) e;refine ⟨e',?_⟩;cases q:H b with
 | none=>rfl
 | some x =>
  have hm:b ∈ trk h H:=List.mem_filter.mpr ⟨List.mem_range.mpr (Heap.lt_size e'),by simp [q]⟩;have z:(hidT h H).get? b=none:=PySem.W.hideAll_none (trk h H) hm;rw [z] at e;cases e
def vo3 (g h:Heap) (L:Addr):List (Addr × Obj):=(List.range h.objs.size).filterMap fun a=>if a=L \/ (g.get? a).isSome=true then none else (h.get? a).map fun o=>(a,o)
def rest (g h:Heap) (L d:Addr):List (Addr × Obj):=(vo3 g h L).filter fun p=>decide (p.1 ≠ d)
structure Mod (K:PySem.W.Frag) (mg:Str->Option Value) (base:Heap):Prop where
 kin:K.In base
 glob:base.Ns mainGlobals mg
 blt:∃ mb,base.Ns builtinsNs mb /\ ∀ x:Str,x ≠ "__name__" -> mb x=bootBuiltins x
 nolimit:base.NoLimit
/-- the context: a def's body (or a comprehension's block) running. base: fixed through the whole law; s₀,H₀: the entry; outer: the frames whose slots others may change (a def's callers); stack: all frames that run;
   ex: iterators that were made ahead of the entry and are walked here (a comprehension's);fn: the names whose cells were made at the entry (a def: all;a comprehension's block: its own);calm: not within an except suite;pn: pins that every state bears;xe: what is wanted of an exception that leaves the code -/
structure Cx where
 prog:Program
 w:World
 K:PySem.W.Frag
 mg:Str->Option Value
 base:Heap
 A:Around
 N:List Str
 s₀:Shared
 H₀:Hp
 env:Env
 outer:List Env
 stack:List Env
 ex:List Addr
 fn:Str->Bool
 calm:Bool
 pn:List (Addr × Obj)
 xe:Value->Shared->Prop
def frs (l:List Env):List Addr:=l.filterMap (·.frame)
abbrev Cx.fs (X:Cx):List Addr:=frs X.outer
def Vis (sc:Scope) (x:Str):Prop:=sc.names.lookup x=some .local \/ sc.names.lookup x=some .cell \/ sc.names.lookup x=some .free
def Loc (sc:Scope) (x:Str):Prop:=sc.names.lookup x=some .local \/ sc.names.lookup x=some .cell
def Look (env:Env) (h:Heap) (m:Str->Option Value) (x:Str) (u:Value):Prop :=
 (env.kindOf x=some .local /\ m x=some u) \/ ((env.kindOf x=some .cell \/ env.kindOf x=some .free) /\ ∃ c,env.cells.lookup x=some c /\ h.IsCell c (some u))
structure Cx.Ok (X:Cx):Prop where
 mod:Mod X.K X.mg X.base
 kind:X.env.scope.kind=.function
 glob:X.env.globals=mainGlobals
 blt:X.env.builtins=builtinsNs
 above:X.s₀.heap.objs.size<=X.env.locals
 inj:∀ x y c,X.env.cells.lookup x=some c->X.env.cells.lookup y=some c->x=y
 has:∀ x,(X.env.kindOf x=some .cell \/ X.env.kindOf x=some .free)->∃ c,X.env.cells.lookup x=some c
 cab:∀ x c,X.fn x=true->X.env.cells.lookup x=some c->X.s₀.heap.objs.size<=c
 hd:X.calm=true->X.A.handled=none
 frames:X.A.frames=some X.stack
 stk:X.stack=X.outer \/ (X.stack=X.env::X.outer /\ X.env.frame=some X.env.locals)
 exf:∀ b ∈ X.ex,b ≠ X.env.locals /\ ∀ x c,X.env.cells.lookup x=some c->c ≠ b
 bs:∀ b o,X.base.get? b=some o->X.s₀.heap.get? b=some o /\ X.H₀ b=none
 bsz:X.base.objs.size<=X.s₀.heap.objs.size
 noex:∀ b o,X.base.get? b=some o->b ∉ X.ex
 exfs:∀ b ∈ X.ex,b ∉ X.fs
 funs:X.s₀.heap.FunFrames X.base X.outer
 frf:∀ b ∈ X.fs,X.H₀ b=none
structure Inv (X:Cx) (pins:List (Addr × Obj)) (σ:List (Option V)) (H:Hp) (s:Shared):Prop where
 ok:X.Ok
 os:s.os=X.s₀.os
 bare:AllBare s.gens
 base:Un X.fs X.ex X.H₀ H X.s₀.heap s.heap
 loc:∃ m,s.heap.Ns X.env.locals m /\ ∀ (i:Nat) (x:Str) (v:V),X.N[i]?=some x->σ[i]?=some (some v)->Vis X.env.scope x->∃ u,RelV v u /\ Look X.env s.heap m x u
 cell:∀ x c,X.env.cells.lookup x=some c->∃ v,s.heap.IsCell c v
 free:H X.env.locals=none
 freeC:∀ x c,X.env.cells.lookup x=some c->H c=none
 pin:∀ p ∈ X.pn++pins,s.heap.get? p.1=some p.2 /\ H p.1=none /\ p.1 ≠ X.env.locals /\ p.1 ∉ X.fs /\ ∀ v,p.2.data ≠ .cell v
 hok:HOk X.prog X.w H s.heap
 len:σ.length=X.N.length
section
variable {X:Cx} {pins:List (Addr × Obj)} {σ:List (Option V)} {H H':Hp} {s:Shared} {h':Heap}
theorem Cx.Ok.nofr (ok:X.Ok) {b:Addr} {o:Obj} (e:X.base.get? b=some o):b ∉ X.fs:=fun hb=>by
 have:=(ok.funs.mem hb).1;rw [e] at this;cases this
theorem Inv.bs (I:Inv X pins σ H s):∀ b o,X.base.get? b=some o->s.heap.get? b=some o /\ H b=none:=fun b o e =>
 ⟨I.base.keep b o (I.ok.bs b o e).1 (I.ok.bs b o e).2 (I.ok.nofr e) (I.ok.noex b o e),I.base.free b o (I.ok.bs b o e).1 (I.ok.bs b o e).2 (I.ok.noex b o e)⟩
theorem Inv.bk (I:Inv X pins σ H s):∀ b o,X.base.get? b=some o->s.heap.get? b=some o:=fun b o e=>(I.bs b o e).1
theorem Inv.mod (I:Inv X pins σ H s):Mod X.K X.mg X.base:=I.ok.mod
theorem Inv.kIn (I:Inv X pins σ H s):X.K.In s.heap:=I.ok.mod.kin.keeps I.bk
theorem Inv.nolimit (I:Inv X pins σ H s):s.heap.NoLimit:=I.ok.mod.nolimit.keeps I.bk
theorem Inv.fr (I:Inv X pins σ H s):∃ m,Fr X.base X.env.locals s.heap m :=
 let ⟨m,hn,_⟩:=I.loc
 ⟨m,hn,I.bk,Nat.le_trans I.ok.bsz I.ok.above⟩
theorem Inv.lt (I:Inv X pins σ H s):X.env.locals < s.heap.objs.size:=let ⟨_,hn,_⟩:=I.loc;hn.lt
theorem Inv.sz (I:Inv X pins σ H s):X.s₀.heap.objs.size<=s.heap.objs.size:=Nat.le_trans I.ok.above (Nat.le_of_lt I.lt)
theorem Inv.nofs (I:Inv X pins σ H s) {a:Addr} (h:s.heap.objs.size<=a):a ∉ X.fs:=fun hb=>by
 obtain ⟨_,o,ho,_⟩:=I.ok.funs.mem hb;exact absurd (Nat.lt_of_lt_of_le (Heap.lt_size ho) (Nat.le_trans I.sz h)) (Nat.lt_irrefl _)
theorem Inv.cne (I:Inv X pins σ H s):∀ x c,X.env.cells.lookup x=some c->c ≠ X.env.locals:=fun x c e z=>by
 obtain ⟨v,o,ho,hd⟩:=I.cell x c e;obtain ⟨m,⟨o',es,ep,ho',hd',_⟩,_⟩:=I.loc;rw [z,ho'] at ho;cases ho;rw [hd'] at hd;cases hd
theorem Inv.funs (I:Inv X pins σ H s):s.heap.FunFrames X.base X.outer:=by
 have all:∀ (l:List Env),(∀ b ∈ frs l,b ∈ X.fs)->X.s₀.heap.FunFrames X.base l->s.heap.FunFrames X.base l:=by
  intro l
  induction l with
  | nil=>intro _ _;trivial
  | cons env r ih =>
   intro hs hl;obtain ⟨hk,⟨L,o,hf,hn,ho,hd⟩,hr⟩:=hl;have hL:L ∈ X.fs:=hs L (by unfold frs;rw [List.filterMap_cons,hf];exact List.mem_cons_self);obtain ⟨sl,e⟩:=I.base.slot L o ho (I.ok.frf L hL) hL fun z=>I.ok.exfs L z hL
   exact ⟨hk,⟨L,_,hf,hn,e,hd⟩,ih (fun b hb=>hs b (by unfold frs;rw [List.filterMap_cons,hf];exact List.mem_cons_of_mem _ hb)) hr⟩
 exact all X.outer (fun _ hb=>hb) I.ok.funs
theorem Inv.stack (I:Inv X pins σ H s):s.heap.FunFrames X.base X.stack:=by
 rcases I.ok.stk with e | ⟨e,hf⟩
 ·rw [e];exact I.funs
 ·rw [e]
  obtain ⟨m,hn,_⟩:=I.loc;refine .cons (by rw [I.ok.kind];decide) hf hn ?_ I.funs;exact Heap.get?_none_of_le (Nat.le_trans I.ok.bsz I.ok.above)
theorem Inv.stkSub (I:Inv X pins σ H s):∀ b ∈ frs X.stack,b ∈ X.env.locals::X.fs:=fun b hb=>by
 rcases I.ok.stk with e | ⟨e,hf⟩
 ·rw [e] at hb;exact List.mem_cons_of_mem _ hb
 ·rw [e] at hb
  unfold frs at hb;rw [List.filterMap_cons,hf] at hb;exact hb
theorem Inv.stkFree (I:Inv X pins σ H s):∀ b ∈ frs X.stack,H b=none:=fun b hb=>by
 rcases List.mem_cons.mp (I.stkSub b hb) with e | hb
 ·rw [e];exact I.free
 ·obtain ⟨_,o,ho,_⟩:=I.ok.funs.mem hb
  exact I.base.free b o ho (I.ok.frf b hb) fun z=>I.ok.exfs b z hb
theorem Inv.step {g':Array GenState} {t':Nat} {d':Drawn} {ch:List Addr} (I:Inv X pins σ H s)
  (hch:∀ b ∈ ch,(b ∈ X.ex \/ X.s₀.heap.objs.size<=b) /\ b ≠ X.env.locals /\ (∀ x c,X.env.cells.lookup x=some c->c ≠ b) /\ ∀ p ∈ X.pn++pins,p.1 ≠ b)
  (keep:∀ b o,b ≠ X.env.locals->b ∉ X.fs->b ∉ ch->s.heap.get? b=some o->H b=none->h'.get? b=some o)
  (slot:∀ b o,b ≠ X.env.locals->b ∈ X.fs->b ∉ ch->s.heap.get? b=some o->H b=none->∃ sl,h'.get? b=some { o with slots:=sl }) (free:∀ b o,b ∉ ch->s.heap.get? b=some o->H b=none->H' b=none)
  (there:∀ b o,b ∉ ch->s.heap.get? b=some o->∃ o',h'.get? b=some o')
  (tups:∀ b xs,H b=some (.tup xs)->H' b=some (.tup xs)) (frzs:∀ b o u,H b=some (.frz o u)->H' b=some (.frz o u)) (tbls:∀ b ps,H b=some (.tbl ps)->∃ more,H' b=some (.tbl (ps++more)))
  (ns:∀ m,s.heap.Ns X.env.locals m->h'.Ns X.env.locals m) (hok:HOk X.prog X.w H' h') (hg:AllBare g') :
  Inv X pins σ H' { s with heap:=h',gens:=g',drawn:=d',toks:=t' }:=by
 have neL:∀ b o,X.s₀.heap.get? b=some o->b ≠ X.env.locals:=fun b o e=>Nat.ne_of_lt (Nat.lt_of_lt_of_le (Heap.lt_size e) I.ok.above)
 have neC:∀ b o,X.s₀.heap.get? b=some o->b ∉ X.ex->b ∉ ch:=fun b o e hx hb=>by
  rcases (hch b hb).1 with z | z
  ·exact hx z
  ·exact absurd (Nat.lt_of_lt_of_le (Heap.lt_size e) z) (Nat.lt_irrefl _)
 have cellK:∀ x c,X.env.cells.lookup x=some c->∀ v,s.heap.IsCell c v->h'.IsCell c v:=fun x c e v ⟨o,ho,hd⟩=>by
  have nch:c ∉ ch:=fun z=>(hch c z).2.2.1 x c e rfl
  by_cases hc:c ∈ X.fs
  ·obtain ⟨sl,q⟩:=slot c o (I.cne x c e) hc nch ho (I.freeC x c e)
   exact ⟨_,q,hd⟩
  ·exact ⟨o,keep c o (I.cne x c e) hc nch ho (I.freeC x c e),hd⟩
 refine ⟨I.ok,I.os,hg,⟨fun b o e n hb hx=>?_,fun b o e n hb hx=>?_,fun b o e n hx=>?_,fun b o e hx=>?_,fun b xs e=>tups b xs (I.base.tups b xs e),fun b o xs e=>frzs b o xs (I.base.frzs b o xs e),fun b ps e=>?_⟩,?_,fun x c e=>?_,?_,fun x c e=>?_,fun p hp=>?_,hok,I.len⟩
 ·exact keep b o (neL b o e) hb (neC b o e hx) (I.base.keep b o e n hb hx) (I.base.free b o e n hx)
 ·obtain ⟨sl,e1⟩:=I.base.slot b o e n hb hx
  obtain ⟨sl',e2⟩:=slot b _ (neL b o e) hb (neC b o e hx) e1 (I.base.free b o e n hx);exact ⟨sl',e2⟩
 ·obtain ⟨o',e1⟩:=I.base.there b o e hx
  exact free b o' (neC b o e hx) e1 (I.base.free b o e n hx)
 ·obtain ⟨o',e1⟩:=I.base.there b o e hx
  exact there b o' (neC b o e hx) e1
 ·obtain ⟨m1,e1⟩:=I.base.tbls b ps e
  obtain ⟨m2,e2⟩:=tbls b _ e1;exact ⟨m1++m2,by rw [e2,Array.append_assoc]⟩
 ·obtain ⟨m,hn,hl⟩:=I.loc
  refine ⟨m,ns m hn,fun i x v e1 e2 e3=>?_⟩;obtain ⟨u,r,l⟩:=hl i x v e1 e2 e3;refine ⟨u,r,?_⟩
  rcases l with l | ⟨k,c,e,z⟩
  ·exact .inl l
  ·exact .inr ⟨k,c,e,cellK x c e _ z⟩
 ·obtain ⟨v,z⟩:=I.cell x c e
  exact ⟨v,cellK x c e v z⟩
 ·obtain ⟨m,⟨o,_,_,ho,_⟩,_⟩:=I.loc
  exact free _ o (fun z=>(hch _ z).2.1 rfl) ho I.free
 ·obtain ⟨v,o,ho,hd⟩:=I.cell x c e
  exact free c o (fun z=>(hch c z).2.2.1 x c e rfl) ho (I.freeC x c e)
 ·obtain ⟨e,n,ne,nf,d⟩:=I.pin p hp
  have nch:p.1 ∉ ch:=fun z=>(hch p.1 z).2.2.2 p hp rfl
  exact ⟨keep p.1 p.2 ne nf nch e n,free p.1 p.2 nch e n,ne,nf,d⟩
theorem Inv.un {t':Nat} (I:Inv X pins σ H s) (u:Un X.fs [] H H' s.heap h') (hok:HOk X.prog X.w H' h'):Inv X pins σ H' { s with heap:=h',toks:=t' }:=by
 obtain ⟨m,⟨o,es,ep,ho,r⟩,_⟩:=id I.loc;obtain ⟨sl,hL⟩:=u.any ho I.free (by simp);exact I.step (g':=s.gens) (d':=s.drawn) (ch:=[]) (fun _ z=>nomatch z) (fun b o _ hb _ e n=>u.keep b o e n hb (by simp)) (fun b o _ hb _ e n=>u.slot b o e n hb (by simp)) (fun b o _ e n=>u.free b o e n (by simp)) (fun b o _ e=>u.there b o e (by simp)) u.tups u.frzs u.tbls (fun m' hm=>by
  obtain ⟨o',es',ep',ho',r'⟩:=hm;rw [ho] at ho';cases ho';exact ⟨_,es',ep',hL,r'⟩) hok I.bare
theorem Inv.call {g':Array GenState} {t':Nat} {d':Drawn} {ch:List Addr} (I:Inv X pins σ H s) (u:Un (frs X.stack) ch H H' s.heap h') (hok:HOk X.prog X.w H' h') (hg:AllBare g')
  (hch:∀ b ∈ ch,(b ∈ X.ex \/ X.s₀.heap.objs.size<=b) /\ b ≠ X.env.locals /\ (∀ x c,X.env.cells.lookup x=some c->c ≠ b) /\ ∀ p ∈ X.pn++pins,p.1 ≠ b) :
  Inv X pins σ H' { s with heap:=h',gens:=g',drawn:=d',toks:=t' }:=by
 obtain ⟨m,⟨o,es,ep,ho,r⟩,_⟩:=id I.loc;obtain ⟨sl,hL⟩:=u.any ho I.free fun z=>(hch _ z).2.1 rfl
 exact I.step (ch:=ch) hch (fun b o hL hb hc e n=>u.keep b o e n (fun z=>(List.mem_cons.mp (I.stkSub b z)).elim hL hb) hc) (fun b o _ _ hc e n=>u.any e n hc) (fun b o hc e n=>u.free b o e n hc) (fun b o hc e=>u.there b o e hc) u.tups u.frzs u.tbls (fun m' hm=>by
  obtain ⟨o',es',ep',ho',r'⟩:=hm;rw [ho] at ho';cases ho';exact ⟨_,es',ep',hL,r'⟩) hok hg
theorem Inv.turned {t':Nat} {it:Addr} (I:Inv X pins σ H s) (k:∀ b o,b ≠ it->s.heap.get? b=some o->h'.get? b=some o) (hn:H it=none) (hL:it ≠ X.env.locals)
  (h1:it ∈ X.ex \/ X.s₀.heap.objs.size<=it) (h2:∀ x c,X.env.cells.lookup x=some c->c ≠ it) (h3:∀ p ∈ X.pn++pins,p.1 ≠ it):Inv X pins σ H { s with heap:=h',toks:=t' }:=by
 have nit:∀ b u,H b=some u->b ≠ it:=fun b u e z=>by rw [z,hn] at e;cases e
 refine I.step (g':=s.gens) (d':=s.drawn) (ch:=[it]) (fun b hb=>?_) (fun b o _ _ hc e _=>k b o (fun z=>hc (by simp [z])) e) (fun b o _ _ hc e _=>⟨o.slots,k b o (fun z=>hc (by simp [z])) e⟩) (fun _ _ _ _ n=>n)
  (fun b o hc e=>⟨o,k b o (fun z=>hc (by simp [z])) e⟩) (fun _ _ e=>e) (fun _ _ _ e=>e) (fun b ps e=>⟨#[],by rw [e];simp⟩) (fun m hm=>?_) (fun b u e=>?_) I.bare
 ·have e:b=it:=by simpa using hb
  subst e;exact ⟨h1,hL,h2,h3⟩
 ·obtain ⟨o,es,ep,ho,r⟩:=hm
  exact ⟨o,es,ep,k _ o (Ne.symm hL) ho,r⟩
 ·refine (I.hok b u e).stay (fun c v hc q=>k c v ?_ q) (fun _ q=>q) fun _ _ q=>q
  rcases hc with z | z
  ·rw [z];exact nit b u e
  ·exact nit c _ z
theorem Inv.tok (I:Inv X pins σ H s) (t:Nat):Inv X pins σ H { s with toks:=t }:=I.un (h':=s.heap) (t':=t) Un.refl I.hok
theorem Inv.kept {t':Nat} (I:Inv X pins σ H s) (k:∀ b u,s.heap.get? b=some u->h'.get? b=some u):Inv X pins σ H { s with heap:=h',toks:=t' }:=I.un (Un.kept k) (I.hok.kept k)
theorem Inv.laid {a:Addr} {o:HO} {t':Nat} (I:Inv X pins σ H s) (k:∀ b u,s.heap.get? b=some u->h'.get? b=some u) (hp:s.heap.objs.size<=a) (new:ObjOk X.prog X.w (upd H a o) h' a o) :
  Inv X pins σ (upd H a o) { s with heap:=h',toks:=t' }:=I.un (Un.laid k hp (I.hok.fresh hp)) (I.hok.laid k hp new)
theorem Inv.write {x e:Addr} {o:HO} {t':Nat} (I:Inv X pins σ H s) (mu:Mut (H x)) (he:e=x \/ H e=some (.own x)) (k:∀ b u,b ≠ e->s.heap.get? b=some u->h'.get? b=some u) (heo:∃ u,h'.get? e=some u)
  (new:ObjOk X.prog X.w (upd H x o) h' x o):Inv X pins σ (upd H x o) { s with heap:=h',toks:=t' }:=I.un (Un.write mu he k heo) (I.hok.write mu he k heo new)
theorem Inv.weak {σ':List (Option V)} (I:Inv X pins σ H s) (hl:σ'.length=σ.length) (w:∀ (i:Nat) v,σ'[i]?=some (some v)->σ[i]?=some (some v)):Inv X pins σ' H s :=
 ⟨I.ok,I.os,I.bare,I.base,let ⟨m,hn,hl'⟩:=I.loc;⟨m,hn,fun i x v e1 e2 e3=>hl' i x v e1 (w i v e2) e3⟩,I.cell,I.free,I.freeC,I.pin,I.hok,hl.trans I.len⟩
theorem Inv.pins_of {pins':List (Addr × Obj)} (I:Inv X pins σ H s) (h:∀ p ∈ pins',s.heap.get? p.1=some p.2 /\ H p.1=none /\ p.1 ≠ X.env.locals /\ p.1 ∉ X.fs /\ ∀ v,p.2.data ≠ .cell v):Inv X pins' σ H s :=
 ⟨I.ok,I.os,I.bare,I.base,I.loc,I.cell,I.free,I.freeC,fun p hp=>(List.mem_append.mp hp).elim (fun z=>I.pin p (List.mem_append_left _ z)) (h p),I.hok,I.len⟩
theorem um0 {N:List Str} (hN:N.Nodup) {i j:Nat} {x:Str} (a:N[i]?=some x) (b:N[j]?=some x):i=j:=by
 obtain ⟨h1,e1⟩:=List.getElem?_eq_some_iff.mp a;obtain ⟨h2,e2⟩:=List.getElem?_eq_some_iff.mp b;exact (List.getElem_inj hN).mp (e1.trans e2.symm)
theorem uf1 {M:Model} {A:Around} {E:Value->Shared->Prop} {i:Nat} {x:Str} {v:V} {u:Value} {Q:Unit->Shared->Prop} (I:Inv X pins σ H s) (hN:X.N.Nodup) (hi:X.N[i]?=some x) (hx:Loc X.env.scope x) (r:RelV v u)
  (h:∀ s',Inv X pins (σ.set i (some v)) H s'->(∃ a,Heap.SameBut a s.heap s'.heap /\ (a=X.env.locals \/ X.env.cells.lookup x=some a))->Q () s') (hf:X.fn x=true \/ X.env.scope.names.lookup x=some .local:=by first | exact .inl rfl | exact .inr rfl | assumption):wpAny M A (storeName X.env x u) Q E s:=by
 obtain ⟨m,hn,hl⟩:=id I.loc;have hcls:(X.env.scope.kind == .class || (X.env.scope.kind == .module && X.env.locals != X.env.globals))=false:=by rw [I.ok.kind];rfl
 have hiσ:i < σ.length:=by rw [I.len];exact (List.getElem?_eq_some_iff.mp hi).1
 have cne:=I.cne;have tracked:∀ {a:Addr} {h':Heap},(∃ o,s.heap.get? a=some o /\ H a=none)->Heap.SameBut a s.heap h'->HOk X.prog X.w H h':=fun {a h'} ha hs b ob e=>by
  obtain ⟨_,_,hfree⟩:=ha;refine (I.hok b ob e).stay (fun c w' hc q=>(hs.2 c ?_).trans q) (fun _ q=>q) fun _ _ q=>q
  rintro rfl
  rcases hc with rfl | hc
  ·rw [hfree] at e;cases e
  ·rw [hfree] at hc;cases hc
 rcases hx with hk | hk
 ·refine wpAny_storeName_local hk hn (fun h' hn' hs=>?_) hcls
  obtain ⟨oL,_,_,hoL,_⟩:=id hn;refine h _ ⟨I.ok,I.os,I.bare,⟨fun b o e n hb hx=>?_,fun b o e n hb hx=>?_,I.base.free,fun b o e hx=>?_,I.base.tups,I.base.frzs,I.base.tbls⟩,⟨_,hn',fun j y v' e1 e2 e3=>?_⟩,fun y c e=>?_,I.free,I.freeC,fun p hp=>?_,tracked ⟨oL,hoL,I.free⟩ hs,by simpa using I.len⟩ ⟨_,hs,.inl rfl⟩
  ·exact (hs.2 b (Nat.ne_of_lt (Nat.lt_of_lt_of_le (Heap.lt_size e) I.ok.above))).trans (I.base.keep b o e n hb hx)
  ·obtain ⟨sl,e1⟩:=I.base.slot b o e n hb hx
   exact ⟨sl,(hs.2 b (Nat.ne_of_lt (Nat.lt_of_lt_of_le (Heap.lt_size e) I.ok.above))).trans e1⟩
  ·obtain ⟨o',e1⟩:=I.base.there b o e hx
   exact ⟨o',(hs.2 b (Nat.ne_of_lt (Nat.lt_of_lt_of_le (Heap.lt_size e) I.ok.above))).trans e1⟩
  ·by_cases hj:j=i
   ·subst hj
    rw [hi] at e1;cases e1;rw [List.getElem?_set_self hiσ] at e2;cases e2;exact ⟨u,r,.inl ⟨hk,by simp⟩⟩
   ·rw [List.getElem?_set_ne (Ne.symm hj)] at e2
    obtain ⟨u',r',q⟩:=hl j y v' e1 e2 e3;refine ⟨u',r',?_⟩
    rcases q with ⟨k,e⟩ | ⟨k,c,e,z⟩
    ·refine .inl ⟨k,?_⟩
     have:y ≠ x:=fun e=>hj (um0 hN e1 (e ▸ hi))
     simp [this,e]
    ·exact .inr ⟨k,c,e,z.sameBut hs (cne y c e)⟩
  ·obtain ⟨w',z⟩:=I.cell y c e
   exact ⟨w',z.sameBut hs (cne y c e)⟩
  ·obtain ⟨e,n,ne,nf,d⟩:=I.pin p hp
   exact ⟨(hs.2 p.1 ne).trans e,n,ne,nf,d⟩
 ·have hfn:X.fn x=true:=by
   rcases hf with z | z
   ·exact z
   ·rw [z] at hk;cases hk
  obtain ⟨c,hc⟩:=I.ok.has x (.inl hk);obtain ⟨w',z⟩:=I.cell x c hc;refine wpAny_storeName_cell I.ok.kind hk hc z (fun h' hc' hs=>?_);obtain ⟨oc,hoc,hocd⟩:=id z;refine h { s with heap:=h' } ⟨I.ok,I.os,I.bare,⟨fun b o e n hb hx=>?_,fun b o e n hb hx=>?_,I.base.free,fun b o e hx=>?_,I.base.tups,I.base.frzs,I.base.tbls⟩,⟨m,hn.sameBut hs (Ne.symm (cne x c hc)),fun j y v' e1 e2 e3=>?_⟩,fun y c' e=>?_,I.free,I.freeC,fun p hp=>?_,tracked ⟨oc,hoc,I.freeC x c hc⟩ hs,by simpa using I.len⟩ ⟨c,hs,.inr hc⟩
  ·exact (hs.2 b (Nat.ne_of_lt (Nat.lt_of_lt_of_le (Heap.lt_size e) (I.ok.cab x c hfn hc)))).trans (I.base.keep b o e n hb hx)
  ·obtain ⟨sl,e1⟩:=I.base.slot b o e n hb hx
   exact ⟨sl,(hs.2 b (Nat.ne_of_lt (Nat.lt_of_lt_of_le (Heap.lt_size e) (I.ok.cab x c hfn hc)))).trans e1⟩
  ·obtain ⟨o',e1⟩:=I.base.there b o e hx
   exact ⟨o',(hs.2 b (Nat.ne_of_lt (Nat.lt_of_lt_of_le (Heap.lt_size e) (I.ok.cab x c hfn hc)))).trans e1⟩
  ·by_cases hj:j=i
   ·subst hj
    rw [hi] at e1;cases e1;rw [List.getElem?_set_self hiσ] at e2;cases e2;exact ⟨u,r,.inr ⟨.inl hk,c,hc,hc'⟩⟩
   ·rw [List.getElem?_set_ne (Ne.symm hj)] at e2
    obtain ⟨u',r',q⟩:=hl j y v' e1 e2 e3;refine ⟨u',r',?_⟩
    rcases q with q | ⟨k,c',e,z'⟩
    ·exact .inl q
    ·refine .inr ⟨k,c',e,z'.sameBut hs ?_⟩
     rintro rfl;exact hj (um0 hN e1 (I.ok.inj _ _ _ e hc ▸ hi))
  ·by_cases hcc:c'=c
   ·subst hcc;exact ⟨_,hc'⟩
   ·obtain ⟨w2,z2⟩:=I.cell y c' e
    exact ⟨w2,z2.sameBut hs hcc⟩
  ·obtain ⟨e,n,ne,nf,d⟩:=I.pin p hp
   refine ⟨(hs.2 p.1 ?_).trans e,n,ne,nf,d⟩;intro q;rw [q,hoc] at e;have q':oc=p.2:=Option.some.inj e;exact d w' (by rw [<- q'];exact hocd)
theorem uk6 {M:Model} {A:Around} {E:Value->Shared->Prop} {i:Nat} {x:Str} {v:V} {u:Value} {Q:Unit->Shared->Prop} (I:Inv X pins σ H s) (hN:X.N.Nodup) (hi:X.N[i]?=some x) (hx:Loc X.env.scope x) (r:RelV v u)
  (h:∀ s',Inv X pins (σ.set i (some v)) H s'->Q () s') (hf:X.fn x=true \/ X.env.scope.names.lookup x=some .local:=by first | exact .inl rfl | exact .inr rfl | assumption):wpAny M A (storeName X.env x u) Q E s :=
 uf1 I hN hi hx r (fun s' I' _=>h s' I') hf
theorem Inv.call' {s':Shared} {ch:List Addr} (I:Inv X pins σ H s) (ho:s'.os=s.os) (u:Un (frs X.stack) ch H H' s.heap s'.heap) (hok:HOk X.prog X.w H' s'.heap) (hg:AllBare s'.gens)
  (hch:∀ b ∈ ch,(b ∈ X.ex \/ X.s₀.heap.objs.size<=b) /\ b ≠ X.env.locals /\ (∀ x c,X.env.cells.lookup x=some c->c ≠ b) /\ ∀ p ∈ X.pn++pins,p.1 ≠ b):Inv X pins σ H' s':=by
 obtain ⟨h',g',d',t',o'⟩:=s';have e:o'=s.os:=ho;subst e;exact I.call (g':=g') (t':=t') (d':=d') u hok hg hch
end
abbrev XK:=Value->Option Addr->Hp->Prop
abbrev St:=List (Option V)
abbrev VK:=V->Hp->Prop
abbrev TE:=St->Hp->VK->Prop
abbrev TT:=St->Hp->(Bool->Hp->Prop)->Prop
abbrev TA:=St->Hp->(List V->Hp->Prop)->Prop
structure Ends where
 nx:St->Hp->Prop
 rt:VK
 bk:St->Hp->Prop:=fun _ _=>False
 ct:St->Hp->Prop:=fun _ _=>False
abbrev TS:=Ends->St->Hp->Prop
def EP (X:Cx) (pins:List (Addr × Obj)) (σ:St) (Q:VK) (u:Value) (s':Shared):Prop:=∃ v H',Inv X pins σ H' s' /\ RelV v u /\ Q v H'
def TP (X:Cx) (pins:List (Addr × Obj)) (σ:St) (Q:Bool->Hp->Prop) (b:Bool) (s':Shared):Prop:=∃ H',Inv X pins σ H' s' /\ Q b H'
def AP (X:Cx) (pins:List (Addr × Obj)) (σ:St) (Q:List V->Hp->Prop) (us:List Value) (s':Shared):Prop:=∃ vs H',Inv X pins σ H' s' /\ Vals vs us /\ Q vs H'
def SP (X:Cx) (pins:List (Addr × Obj)) (D:Ends) (f:Flow) (s':Shared):Prop :=
 match f with
 | .next=>∃ σ' H',Inv X pins σ' H' s' /\ D.nx σ' H'
 | .brk=>∃ σ' H',Inv X pins σ' H' s' /\ D.bk σ' H'
 | .cont=>∃ σ' H',Inv X pins σ' H' s' /\ D.ct σ' H'
 | .ret u=>∃ v σ' H',Inv X pins σ' H' s' /\ RelV v u /\ D.rt v H'
def PE (X:Cx) (e:Expr) (t:TE):Prop :=
 ∀ (pins:List (Addr × Obj)) (s:Shared) (σ:St) (H:Hp) (Q:VK),Inv X pins σ H s->t σ H Q->wpAny (model X.prog X.w) X.A (eval e X.env) (EP X pins σ Q) X.xe s
def PT (X:Cx) (e:Expr) (t:TT):Prop :=
 ∀ (pins:List (Addr × Obj)) (s:Shared) (σ:St) (H:Hp) (Q:Bool->Hp->Prop),Inv X pins σ H s->t σ H Q->wpAny (model X.prog X.w) X.A (isTrue e X.env (eval e X.env)) (TP X pins σ Q) X.xe s
def PW (X:Cx) (e:Expr) (t:TT):Prop :=
 ∀ (whole:Sem Value) (pins:List (Addr × Obj)) (s:Shared) (σ:St) (H:Hp) (Q:Bool->Hp->Prop),Inv X pins σ H s->t σ H Q->wpAny (model X.prog X.w) X.A (isTrue e X.env whole) (TP X pins σ Q) X.xe s
theorem PW.pt {X:Cx} {e:Expr} {t:TT} (h:PW X e t):PT X e t:=h _
def PA (X:Cx) (es:List Expr) (t:TA):Prop :=
 ∀ (pos:Pos) (pins:List (Addr × Obj)) (s:Shared) (σ:St) (H:Hp) (Q:List V->Hp->Prop),Inv X pins σ H s->t σ H Q->wpAny (model X.prog X.w) X.A (spliced (backTo pos (starEach es X.env))) (AP X pins σ Q) X.xe s
def PS (X:Cx) (st:Stmt) (t:TS):Prop :=
 ∀ (pins:List (Addr × Obj)) (s:Shared) (σ:St) (H:Hp) (D:Ends),Inv X pins σ H s->t D σ H->wpAny (model X.prog X.w) X.A (exec st X.env) (SP X pins D) X.xe s
def PSs (X:Cx) (st:List Stmt) (t:TS):Prop :=
 ∀ (pins:List (Addr × Obj)) (s:Shared) (σ:St) (H:Hp) (D:Ends),Inv X pins σ H s->t D σ H->wpAny (model X.prog X.w) X.A (execs st X.env) (SP X pins D) X.xe s
theorem thn {α:Type} {t:Sem α} {Q Q':α->Shared->Prop} {M:Model} {A:Around} {E:Value->Shared->Prop} {s:Shared} (h:wpAny M A t Q E s) (hQ:∀ a s,Q a s->Q' a s):wpAny M A t Q' E s:=wpAny_mono h hQ fun _ _ x=>x
section
variable {X:Cx}
def tVar (i:Nat):TE:=fun σ H Q=>∃ v,σ[i]?=some (some v) /\ Q v H
def tC (v:V):TE:=fun _ H Q=>Q v H
theorem vt3 {i:Nat} {x:Str} {pos:Pos} (hN:X.N[i]?=some x) (hv:Vis X.env.scope x) (hd:(x == ("__debug__" : Str))=false:=by decide) (hcd:(x == ("__classdict__" : Str))=false:=by decide):PE X (.Name x pos) (tVar i):=by
 intro pins s σ H Q I h;obtain ⟨v,e,h⟩:=h;obtain ⟨m,hn,hl⟩:=I.loc;obtain ⟨u,r,l⟩:=hl i x v hN e hv;have fin:EP X pins σ Q u s:=⟨v,H,I,r,h⟩
 rcases l with ⟨hk,hm⟩ | ⟨hk,c,hc,hcell⟩
 ·exact wpAny_Name (wpAny_loadName_local I.ok.kind hk hn hm fin) hd
 ·rcases hk with hk | hk
  ·exact wpAny_Name (wpAny_loadName_cell I.ok.kind hk hc hcell fin) hd
  ·exact wpAny_Name (wpAny_loadName_free I.ok.kind hk hc hcell fin hcd) hd
theorem vt8 {i j pos}:PE X (.Constant (.int i) j pos) (tC (.int i)):=fun _ _ _ H _ I h=>wpAny_Constant_int ⟨.int i,H,I.tok _,⟨_,rfl⟩,h⟩
theorem w48 {b j pos}:PE X (.Constant (.bool b) j pos) (tC (.bl b)):=fun _ _ _ H _ I h=>Constant_bool ⟨.bl b,H,I,rfl,h⟩
theorem vt6 {j pos}:PE X (.Constant .none j pos) (tC .non):=fun _ _ _ H _ I h=>Constant_none ⟨.non,H,I,rfl,h⟩
theorem vt4 {x j pos}:PE X (.Constant (.str x) j pos) (tC (.str x)):=fun _ _ _ H _ I h=>Calls.Constant_str ⟨.str x,H,I.tok _,⟨_,rfl⟩,h⟩
def Gl (X:Cx) (x:Str):Prop:=X.env.kindOf x=some .globalImplicit
theorem vk7 {E:Value->Shared->Prop} {pins:List (Addr × Obj)} {s:Shared} {σ:St} {H:Hp} {x:Str} {u:Value} {pos:Pos} {Q:Value->Shared->Prop} (I:Inv X pins σ H s) (hg:Gl X x) (hm:X.mg x=some u) (h:Q u s)
  (hd:(x == ("__debug__" : Str))=false:=by decide):wpAny (model X.prog X.w) X.A (eval (.Name x pos) X.env) Q E s :=
 Calls.Name_function_global I.ok.kind hg (Calls.loadGlobal_global (by rw [I.ok.glob];exact I.mod.glob.keeps I.bk) hm h) hd
theorem u86 {E:Value->Shared->Prop} {pins:List (Addr × Obj)} {s:Shared} {σ:St} {H:Hp} {x:Str} {u:Value} {pos:Pos} {Q:Value->Shared->Prop} (I:Inv X pins σ H s) (hg:Gl X x) (hm:X.mg x=none) (hv:bootBuiltins x=some u) (h:Q u s)
  (hn:x ≠ "__name__" := by decide) (hd:(x == ("__debug__" : Str))=false:=by decide):wpAny (model X.prog X.w) X.A (eval (.Name x pos) X.env) Q E s:=by
 obtain ⟨mb,h1,h2⟩:=I.mod.blt;exact Calls.Name_function_global I.ok.kind hg (Calls.loadGlobal_builtin (by rw [I.ok.glob];exact I.mod.glob.keeps I.bk) hm (by rw [I.ok.blt];exact h1.keeps I.bk) ((h2 x hn).trans hv) h) hd
variable {a b:Expr} {ta tb:TE} {pos:Pos}
variable {tA tB':TT} {rest:List Expr}
def tAnd (t u:TT):TT:=fun σ H Q=>t σ H fun c H1=>if c=true then u σ H1 Q else Q false H1
def tOr (t u:TT):TT:=fun σ H Q=>t σ H fun c H1=>if c=true then Q true H1 else u σ H1 Q
theorem vh3 (ha:PT X a tA):PW X (.BoolOp .And [a] pos) tA:=by
 intro wh pins s σ H Q I h;refine isTrue_and (thn (ha pins s σ H Q I h) fun c s1 e=>?_);cases c with
 | true=>exact isTrue_and_nil e
 | false=>exact e
theorem vr8 (ha:PT X a tA):PW X (.BoolOp .Or [a] pos) tA:=by
 intro wh pins s σ H Q I h;refine isTrue_or (thn (ha pins s σ H Q I h) fun c s1 e=>?_);cases c with
 | false=>exact isTrue_or_nil e
 | true=>exact e
theorem vr9 (ha:PT X a tA) (hb:PW X (.BoolOp .And (b::rest) pos) tB'):PW X (.BoolOp .And (a::b::rest) pos) (tAnd tA tB'):=by
 intro wh pins s σ H Q I h
 (refine isTrue_and (thn (ha pins s σ H _ I h) ?_);rintro c s1 ⟨H1,I1,q1⟩)
 cases c with
 | true=>exact hb wh pins s1 σ H1 Q I1 q1
 | false=>exact ⟨H1,I1,q1⟩
theorem w43 (ha:PT X a tA) (hb:PW X (.BoolOp .Or (b::rest) pos) tB'):PW X (.BoolOp .Or (a::b::rest) pos) (tOr tA tB'):=by
 intro wh pins s σ H Q I h
 (refine isTrue_or (thn (ha pins s σ H _ I h) ?_);rintro c s1 ⟨H1,I1,q1⟩)
 cases c with
 | true=>exact ⟨H1,I1,q1⟩
 | false=>exact hb wh pins s1 σ H1 Q I1 q1
def vr4 (ta tb:TE):TE:=fun σ H Q=>ta σ H fun x H1=>∃ c,x=.bl c /\ if c=true then tb σ H1 Q else Q (.bl false) H1
theorem vt5 {op} {t:TE} (h:PE X a t):PE X (.BoolOp op [a] pos) t:=fun pins s σ H Q I hw=>BoolOp_one (h pins s σ H Q I hw)
theorem vu0 (ha:PE X a ta) (hb:PE X (.BoolOp .And (b::rest) pos) tb):PE X (.BoolOp .And (a::b::rest) pos) (vr4 ta tb):=by
 intro pins s σ H Q I h
 (refine BoolOp_and (thn (ha pins s σ H _ I h) ?_);rintro v s1 ⟨x,H1,I1,r1,q1⟩)
 obtain ⟨c,rfl,q1⟩:=q1;cases r1;refine wpAny_truthy_bool ?_;cases c with
 | true=>exact hb pins s1 σ H1 Q I1 q1
 | false=>exact ⟨.bl false,H1,I1,rfl,q1⟩
def tIf (t:TT) (ta tb:TE):TE:=fun σ H Q=>t σ H fun c H1=>if c=true then ta σ H1 Q else tb σ H1 Q
theorem v38 {c:Expr} (hc:PT X c tA) (ha:PE X a ta) (hb:PE X b tb):PE X (.IfExp c a b pos) (tIf tA ta tb):=by
 intro pins s σ H Q I h
 (refine wpAny_IfExp (thn (hc pins s σ H _ I h) ?_);rintro d s1 ⟨H1,I1,q1⟩)
 cases d with
 | true=>exact ha pins s1 σ H1 Q I1 q1
 | false=>exact hb pins s1 σ H1 Q I1 q1
end
def SqL (K:PySem.W.Frag) (H:Hp) (a:Addr) (xs:List V):Prop :=
 Rd H a (.lst xs) \/
  ∃ (o:Obj) (its:Array Value) (n:Nat),K.lookup a=some o /\ o.cls=.type "list" /\ o.dict=none /\ o.data=.seq its n /\ its.size<=sizeLine /\ Vals xs its.toList
def SqT (K:PySem.W.Frag) (H:Hp) (a:Addr) (xs:List V):Prop :=
 Rd H a (.tup xs) \/
  ∃ (o:Obj) (its:Array Value) (n:Nat),K.lookup a=some o /\ o.cls=.type "tuple" /\ o.data=.seq its n /\ its.size<=sizeLine /\ Vals xs its.toList /\ o.dict=none
def absV:Value->Option V
 | .none=>some .non
 | .bool b=>some (.bl b)
 | .int i _=>some (.int i)
 | .str x _=>some (.str x)
 | .bytes b _=>some (.byt b)
 | .float b _=>some (.flt b)
 | .ref a=>some (.ref a)
 | .type n=>some (.ty n)
 | _=>none
theorem RelV.abs {x:V} {u:Value} (r:RelV x u):absV u=some x:=by
 cases x with
 | non=>cases r;rfl
 | bl _=>cases r;rfl
 | int _=>obtain ⟨t,rfl⟩:=r;rfl
 | str _=>obtain ⟨t,rfl⟩:=r;rfl
 | byt _=>obtain ⟨t,rfl⟩:=r;rfl
 | flt _=>obtain ⟨t,rfl⟩:=r;rfl
 | ref _=>cases r;rfl
 | ty _=>cases r;rfl
theorem RelV.inj {x y:V} {u:Value} (r:RelV x u) (q:RelV y u):x=y:=Option.some.inj (r.abs.symm.trans q.abs)
theorem Vals.inj:∀ {xs ys:List V} {us:List Value},Vals xs us->Vals ys us->xs=ys
 | _,_,_,.nil,.nil=>rfl
 | _,_,_,.cons r t,.cons r' t'=>by rw [r.inj r',Vals.inj t t']
section
variable {X:Cx} {pins:List (Addr × Obj)} {σ:St} {H:Hp} {s:Shared} {a:Addr} {xs ys:List V}
theorem SqL.of {K:PySem.W.Frag} (h:H a=some (.lst xs)):SqL K H a xs:=.inl (.inl h)
theorem SqT.of {K:PySem.W.Frag} (h:H a=some (.tup xs)):SqT K H a xs:=.inl (.inl h)
theorem Inv.list (I:Inv X pins σ H s) (h:SqL X.K H a xs):∃ its:List Value,Vals xs its /\ PlainL s.heap a its.toArray /\ xs.length<=sizeLine:=by
 rcases h with h | ⟨o,its,n,hk,hc,hd,hs,hz,r⟩
 ·obtain ⟨z,its,n,r,e⟩:=h.ok I.hok
  exact ⟨its,r,⟨_,n,e,rfl,rfl,rfl⟩,z⟩
 ·refine ⟨its.toList,r,⟨o,n,I.kIn a o hk,hc,hd,by simpa using hs⟩,?_⟩
  have e:=r.length;simp only [Array.length_toList] at e;omega
theorem Inv.tuple (I:Inv X pins σ H s) (h:SqT X.K H a xs):∃ its:List Value,Vals xs its /\ IsTup s.heap a its.toArray /\ xs.length<=sizeLine:=by
 rcases h with h | ⟨o,its,n,hk,hc,hs,hz,r,_⟩
 ·obtain ⟨z,its,r,p⟩:=h.ok I.hok
  exact ⟨its,r,p.tup,z⟩
 ·refine ⟨its.toList,r,⟨o,I.kIn a o hk,hc,n,by simpa using hs⟩,?_⟩
  have e:=r.length;simp only [Array.length_toList] at e;omega
theorem Inv.list_inj (I:Inv X pins σ H s) (h:SqL X.K H a xs) (h':SqL X.K H a ys):xs=ys:=by
 obtain ⟨its,r,⟨o,n,e,_,_,d⟩,_⟩:=I.list h;obtain ⟨its',r',⟨o',n',e',_,_,d'⟩,_⟩:=I.list h';rw [e] at e';cases e';rw [d] at d';injection d' with d1 _
 have:its=its':=by simpa using congrArg Array.toList d1
 subst this;exact r.inj r'
theorem Inv.tuple_inj (I:Inv X pins σ H s) (h:SqT X.K H a xs) (h':SqT X.K H a ys):xs=ys:=by
 obtain ⟨its,r,⟨o,e,_,n,d⟩,_⟩:=I.tuple h;obtain ⟨its',r',⟨o',e',_,n',d'⟩,_⟩:=I.tuple h';rw [e] at e';cases e';rw [d] at d';injection d' with d1 _
 have:its=its':=by simpa using congrArg Array.toList d1
 subst this;exact r.inj r'
end
abbrev Cx.wish (X:Cx) (E:Value->Shared->Prop):Cx:={ X with xe:=E }
abbrev Cx.nox (X:Cx):Cx:=X.wish fun _ _=>False
theorem Cx.Ok.wish {X:Cx} (ok:X.Ok) (E:Value->Shared->Prop):(X.wish E).Ok :=
 ⟨ok.mod,ok.kind,ok.glob,ok.blt,ok.above,ok.inj,ok.has,ok.cab,ok.hd,ok.frames,ok.stk,ok.exf,ok.bs,ok.bsz,ok.noex,ok.exfs,ok.funs,ok.frf⟩
theorem Cx.Ok.unwish {X:Cx} {E:Value->Shared->Prop} (ok:(X.wish E).Ok):X.Ok :=
 ⟨ok.mod,ok.kind,ok.glob,ok.blt,ok.above,ok.inj,ok.has,ok.cab,ok.hd,ok.frames,ok.stk,ok.exf,ok.bs,ok.bsz,ok.noex,ok.exfs,ok.funs,ok.frf⟩
section
variable {X:Cx} {pins:List (Addr × Obj)} {σ:St} {H:Hp} {s:Shared} {E:Value->Shared->Prop}
theorem Inv.wish (I:Inv X pins σ H s) (E:Value->Shared->Prop):Inv (X.wish E) pins σ H s:=⟨I.ok.wish E,I.os,I.bare,I.base,I.loc,I.cell,I.free,I.freeC,I.pin,I.hok,I.len⟩
theorem Inv.unwish (I:Inv (X.wish E) pins σ H s):Inv X pins σ H s:=⟨I.ok.unwish,I.os,I.bare,I.base,I.loc,I.cell,I.free,I.freeC,I.pin,I.hok,I.len⟩
theorem SP.unwish {D:Ends} {f:Flow} {s':Shared} (h:SP (X.wish E) pins D f s'):SP X pins D f s':=by
 cases f with
 | next=>obtain ⟨σ',H',I,q⟩:=h;exact ⟨σ',H',I.unwish,q⟩
 | brk=>obtain ⟨σ',H',I,q⟩:=h;exact ⟨σ',H',I.unwish,q⟩
 | cont=>obtain ⟨σ',H',I,q⟩:=h;exact ⟨σ',H',I.unwish,q⟩
 | ret u=>obtain ⟨v,σ',H',I,r,q⟩:=h;exact ⟨v,σ',H',I.unwish,r,q⟩
theorem PE.nox {e:Expr} {t:TE} (h:PE X.nox e t):PE X e t:=fun pins s σ H Q I hw =>
 wpAny_mono (h pins s σ H Q (I.wish _) hw) (fun _ _ ⟨v,H',I',r,q⟩=>⟨v,H',I'.unwish,r,q⟩) fun _ _ z=>False.elim z
theorem PT.nox {e:Expr} {t:TT} (h:PT X.nox e t):PT X e t:=fun pins s σ H Q I hw =>
 wpAny_mono (h pins s σ H Q (I.wish _) hw) (fun _ _ ⟨H',I',q⟩=>⟨H',I'.unwish,q⟩) fun _ _ z=>False.elim z
theorem PSs.nox {st:List Stmt} {t:TS} (h:PSs X.nox st t):PSs X st t:=fun pins s σ H D I hw =>
 wpAny_mono (h pins s σ H D (I.wish _) hw) (fun _ _ q=>q.unwish) fun _ _ z=>False.elim z
end
section
variable {X:Cx} {st:Stmt} {rest:List Stmt} {t u:TS} {e:Expr} {te:TE} {pos:Pos}
def vq8:TS:=fun D σ H=>D.nx σ H
def tSeq (t u:TS):TS:=fun D σ H=>t { D with nx:=u D } σ H
theorem vh8:PSs X [] vq8:=fun _ _ σ H _ I h=>wpAny_execs_nil ⟨σ,H,I,h⟩
theorem v30 (h1:PS X st t) (h2:PSs X rest u):PSs X (st::rest) (tSeq t u):=by
 intro pins s σ H D I h;refine wpAny_execs_cons (thn (h1 pins s σ H { D with nx:=u D } I h) fun f s1 q=>?_);cases f with
 | next =>
  obtain ⟨σ',H',I',q⟩:=q;exact h2 pins s1 σ' H' D I' q
 | ret v=>exact q
 | brk=>exact q
 | cont=>exact q
theorem vh7 (h1:PS X st t):PSs X [st] t:=by
 intro pins s σ H D I h;refine wpAny_execs_cons (thn (h1 pins s σ H D I h) fun f s1 q=>?_);cases f with
 | next=>exact wpAny_execs_nil q
 | ret v=>exact q
 | brk=>exact q
 | cont=>exact q
theorem Inv.quiet {pins:List (Addr × Obj)} {σ:St} {H:Hp} {s:Shared} (I:Inv X pins σ H s):interactive X.env=false:=by simp [interactive,I.ok.kind]
def vr0 (te:TE):TS:=fun D σ H=>te σ H fun _ H1=>D.nx σ H1
theorem vi0 (he:PE X e te) (hs:swapsWith e none pos.line X.env=pure false:=by rfl):PS X (.Expr e pos) (vr0 te):=by
 intro pins s σ H D I h
 (refine wpAny_Expr_any (thn (he pins s σ H _ I h) ?_) I.quiet hs;rintro v s1 ⟨x,H1,I1,r1,q1⟩;exact ⟨σ,H1,I1,q1⟩)
def tRet (te:TE):TS:=fun D σ H=>te σ H D.rt
theorem vs6 (he:PE X e te):PS X (.Return (some e) pos) (tRet te):=by
 intro pins s σ H D I h
 (refine wpAny_Return_some (thn (he pins s σ H _ I h) ?_);rintro v s1 ⟨x,H1,I1,r1,q1⟩;exact ⟨x,σ,H1,I1,r1,q1⟩)
def tIfS (c:TT) (t u:TS):TS:=fun D σ H=>c σ H fun b H1=>if b=true then t D σ H1 else u D σ H1
theorem w44 {c:Expr} {a b:List Stmt} {tc:TT} (hc:PT X c tc) (ha:PSs X a t) (hb:PSs X b u):PS X (.If c a b pos) (tIfS tc t u):=by
 intro pins s σ H D I h
 (refine wpAny_If (thn (hc pins s σ H _ I h) ?_);rintro d s1 ⟨H1,I1,q1⟩)
 cases d with
 | true=>exact ha pins s1 σ H1 D I1 q1
 | false=>exact hb pins s1 σ H1 D I1 q1
end
abbrev TG:=V->St->Hp->(St->Hp->Prop)->Prop
abbrev TGs:=List V->St->Hp->(St->Hp->Prop)->Prop
def PG (X:Cx) (target:Expr) (t:TG):Prop :=
 ∀ (pins:List (Addr × Obj)) (s:Shared) (σ:St) (H:Hp) (v:V) (u:Value) (Q:St->Hp->Prop),Inv X pins σ H s->RelV v u->t v σ H Q ->
  wpAny (model X.prog X.w) X.A (assign target X.env u) (fun _ s'=>∃ σ' H',Inv X pins σ' H' s' /\ Q σ' H') X.xe s
def PGs (X:Cx) (ts:List Expr) (t:TGs):Prop :=
 ∀ (pins:List (Addr × Obj)) (s:Shared) (σ:St) (H:Hp) (vs:List V) (us:List Value) (Q:St->Hp->Prop),Inv X pins σ H s->Vals vs us->t vs σ H Q ->
  wpAny (model X.prog X.w) X.A (assignInOrder ((assignEach ts X.env).map (·.2)) us) (fun _ s'=>∃ σ' H',Inv X pins σ' H' s' /\ Q σ' H') X.xe s
abbrev TSet:=V->V->V->Hp->(Hp->Prop)->Prop
def PSet (X:Cx) (t:TSet):Prop :=
 ∀ (pins:List (Addr × Obj)) (s:Shared) (σ:St) (H:Hp) (o i v:V) (ov iv u:Value) (Q:Hp->Prop),Inv X pins σ H s->RelV o ov->RelV i iv->RelV v u->t o i v H Q ->
  wpAny (model X.prog X.w) X.A (setItem ov iv u) (fun _ s'=>∃ H',Inv X pins σ H' s' /\ Q H') X.xe s
section
variable {X:Cx} {pos:Pos}
def vl5 (i:Nat):TG:=fun v σ H Q=>Q (σ.set i (some v)) H
theorem vi3 {i:Nat} {x:Str} (hN:X.N.Nodup) (hi:X.N[i]?=some x) (hx:Loc X.env.scope x) (hf:X.fn x=true \/ X.env.scope.names.lookup x=some .local:=by first | exact .inl rfl | exact .inr rfl | assumption):PG X (.Name x pos) (vl5 i):=by
 intro pins s σ H v u Q I r h;exact wpAny_assign_Name (uk6 I hN hi hx r (fun s' I'=>⟨_,H,I',h⟩) hf)
def gNil:TGs:=fun vs σ H Q=>vs=[] /\ Q σ H
def w01 (t:TG) (u:TGs):TGs:=fun vs σ H Q=>∃ v r,vs=v::r /\ t v σ H fun σ' H'=>u r σ' H' Q
theorem vi2:PGs X [] gNil:=by
 intro pins s σ H vs us Q I r h;obtain ⟨e,h⟩:=h;subst e;cases r;exact assignInOrder_nil ⟨σ,H,I,h⟩
theorem v37 {e:Expr} {es:List Expr} {t:TG} {u:TGs} (h1:PG X e t) (h2:PGs X es u)
  (hs:(assignEach (e::es) X.env).map (·.2)=assign e X.env::(assignEach es X.env).map (·.2):=by rfl):PGs X (e::es) (w01 t u):=by
 intro pins s σ H vs us Q I r h;obtain ⟨v,vr,e1,h⟩:=h;subst e1;cases r with
 | cons r rr =>
  rw [hs]
  (refine assignInOrder_cons (thn (h1 pins s σ H _ _ _ I r h) ?_);rintro _ s1 ⟨σ1,H1,I1,q1⟩)
  exact h2 pins s1 σ1 H1 _ _ Q I1 rr q1
def gTup (K:PySem.W.Frag) (n:Nat) (t:TGs):TG:=fun v σ H Q=>∃ a xs,v=.ref a /\ SqT K H a xs /\ xs.length=n /\ t xs σ H Q
theorem vt1 {es:List Expr} {k:Nat} {t:TGs} {n:Nat} (hc:X.calm=true) (h:PGs X es t)
  (hn:(assignEach es X.env).length=n:=by rfl) (hst:(assignEach es X.env).findIdx? (·.1)=none:=by rfl):PG X (.Tuple es k pos) (gTup X.K n t):=by
 intro pins s σ H v u Q I r hw;obtain ⟨a,xs,e1,hq,hl,hw⟩:=hw;subst e1;cases r;obtain ⟨its,rv,ht,hz⟩:=I.tuple hq;refine assign_Tuple_tuple (I.ok.hd hc) ht (by simp [hn,<- hl,rv.length]) hst fun h' hx=>?_
 have I1:Inv X pins σ H { s with heap:=h' }:=I.kept (t':=s.toks) fun b o e=>hx b o (Nat.ne_of_lt (Heap.lt_size e)) e
 exact h pins _ σ H xs _ Q I1 (by simpa using rv) hw
def gSub (to ti:TE) (t:TSet):TG:=fun v σ H Q=>to σ H fun o H1=>ti σ H1 fun i H2=>t o i v H2 fun H3=>Q σ H3
theorem vt2 {o i:Expr} {to ti:TE} {t:TSet} (ho:PE X o to) (hi:PE X i ti) (hs:PSet X t)
  (ha:∀ v,assign (.Subscript o i pos) X.env v=(do
   let ov <- holding [v] (eval o X.env)
   let iv <- holding [v,ov] (eval i X.env)
   standAt pos
   holding [v,ov,iv] (setItem ov iv v)
   release [v,ov,iv] []):=by intro _;rfl):PG X (.Subscript o i pos) (gSub to ti t):=by
 intro pins s σ H v u Q I r h;rw [ha]
 (refine wpAny_bind (wpAny_holding (thn (ho pins s σ H _ I h) ?_));rintro ov s1 ⟨x,H1,I1,r1,q1⟩)
 (refine wpAny_bind (wpAny_holding (thn (hi pins s1 σ H1 _ I1 q1) ?_));rintro iv s2 ⟨y,H2,I2,r2,q2⟩)
 (refine wpAny_bind (wpAny_standAt (wpAny_bind (wpAny_holding (thn (hs pins s2 σ H2 x y v ov iv u _ I2 r1 r2 r q2) ?_))));rintro _ s3 ⟨H3,I3,q3⟩)
 exact wpAny_release ⟨σ,H3,I3,q3⟩
def tAsg (te:TE) (g:TG):TS:=fun D σ H=>te σ H fun x H1=>g x σ H1 D.nx
theorem vs8 {tg e:Expr} {te:TE} {g:TG} (he:PE X e te) (hg:PG X tg g) (hs:swapsWithSole [tg] e pos.line X.env=pure false:=by rfl) (hw:swappedStores [tg] e X.env=pure none:=by rfl)
  (h1:(assignEach [tg] X.env).map (·.2)=[assign tg X.env]:=by rfl):PS X (.Assign [tg] e pos) (tAsg te g):=by
 intro pins s σ H D I h
 (refine wpAny_Assign_stores (thn (he pins s σ H _ I h) ?_) hs hw;rintro v s1 ⟨x,H1,I1,r1,q1⟩)
 rw [h1];exact thn (hg pins s1 σ H1 x v _ I1 r1 q1) fun _ s2 q=>q
theorem vs5 {i:Nat} {x:Str} {e:Expr} {te:TE} {pos':Pos} (hN:X.N.Nodup) (hi:X.N[i]?=some x) (hx:Loc X.env.scope x) (he:PE X e te) (hs:swapsWith e (some (.Name x pos')) pos.line X.env=pure false:=by rfl) (hf:X.fn x=true \/ X.env.scope.names.lookup x=some .local:=by first | exact .inl rfl | exact .inr rfl | assumption) :
  PS X (.Assign [.Name x pos'] e pos) (tAsg te (vl5 i)):=by
 intro pins s σ H D I h
 (refine wpAny_Assign_Name (thn (he pins s σ H _ I h) ?_) hs;rintro v s1 ⟨y,H1,I1,r1,q1⟩)
 exact uk6 I1 hN hi hx r1 (fun s2 I2=>⟨_,H1,I2,q1⟩) hf
end
section
variable {X:Cx} {pos:Pos}
def v99 (c:TT) (tb:TS):TS:=fun D σ H=>∃ W:Nat->St->Hp->Prop,(∃ m,W m σ H) /\ ∀ m σ H,W m σ H ->
 c σ H fun b H1=>if b=true then ∃ N:St->Hp->Prop,(∀ σ' H',N σ' H'->∃ m',m' < m /\ W m' σ' H') /\ tb { D with nx:=N,ct:=N,bk:=D.nx } σ H1 else D.nx σ H1
theorem v31 {c:Expr} {body:List Stmt} {tc:TT} {tb:TS} (hp:PassesOwn (model X.prog X.w) X.A X.env X.xe) (hc:PT X c tc) (hb:PSs X body tb):PS X (.While c body [] pos) (v99 tc tb):=by
 intro pins s σ H D I h;obtain ⟨W,⟨m0,w0⟩,turn⟩:=h;refine wpAny_While (codeAny_whileLoop (fun n s'=>∃ σ' H',Inv X pins σ' H' s' /\ W n σ' H') ?_ m0 ⟨σ,H,I,w0⟩);rintro n s1 ⟨σ1,H1,I1,w1⟩
 (refine wpAny_passesOwn hp (thn (hc pins s1 σ1 H1 _ I1 (turn n σ1 H1 w1)) ?_);rintro b s2 ⟨H2,I2,q2⟩)
 cases b with
 | true =>
  obtain ⟨N,hN,q2⟩:=q2;rw [if_pos rfl];refine wpAny_passesOwn hp (thn (hb pins s2 σ1 H2 _ I2 q2) fun f s3 q3=>?_);cases f with
  | next =>
   obtain ⟨σ3,H3,I3,n3⟩:=q3;obtain ⟨m',hm,w3⟩:=hN σ3 H3 n3;exact ⟨m',hm,σ3,H3,I3,w3⟩
  | cont =>
   obtain ⟨σ3,H3,I3,n3⟩:=q3;obtain ⟨m',hm,w3⟩:=hN σ3 H3 n3;exact ⟨m',hm,σ3,H3,I3,w3⟩
  | brk=>exact q3
  | ret v=>exact q3
 | false =>
  rw [if_neg Bool.false_ne_true];exact wpAny_execs_nil ⟨σ1,H2,I2,q2⟩
end
structure It where
 go:Nat->Hp->Prop
 yld:Nat->Hp->V->Hp->Prop
 stop:Nat->Hp->Prop
def FpOk (X:Cx) (pins:List (Addr × Obj)) (H:Hp) (b:Addr):Prop :=
 H b=none /\ b ≠ X.env.locals /\ b ∉ X.fs /\ (b ∈ X.ex \/ X.s₀.heap.objs.size<=b) /\ (∀ x c,X.env.cells.lookup x=some c->c ≠ b) /\ ∀ p ∈ X.pn++pins,p.1 ≠ b
theorem Inv.fpOk {X:Cx} {pins:List (Addr × Obj)} {σ:St} {H H':Hp} {s:Shared} {b:Addr} (I:Inv X pins σ H s) (hb:s.heap.objs.size<=b) (hn:H' b=none):FpOk X pins H' b:=by
 refine ⟨hn,Nat.ne_of_gt (Nat.lt_of_lt_of_le I.lt hb),I.nofs hb,.inr (Nat.le_trans I.sz hb),fun x c e z=>?_,fun p hp z=>?_⟩
 ·obtain ⟨v,q⟩:=I.cell x c e
  exact absurd (Nat.lt_of_lt_of_le q.lt (by rw [z];exact hb)) (Nat.lt_irrefl _)
 ·exact absurd (Nat.lt_of_lt_of_le (Heap.lt_size (I.pin p hp).1) (by rw [z];exact hb)) (Nat.lt_irrefl _)
structure Turn (P:Program) (w:World) (K:PySem.W.Frag) (tg:Expr) (J:It) (fp:List Addr) (it:Addr) (tn:Nat->Heap->Prop):Prop where
 mem:it ∈ fp
 obj:∀ i h,tn i h->∀ b ∈ fp,∃ o,h.get? b=some o /\ ∀ v,o.data ≠ .cell v
 keep:∀ i h h',tn i h->(∀ b ∈ fp,∀ o,h.get? b=some o->h'.get? b=some o)->tn i h'
 item:∀ (X:Cx),X.prog=P->X.w=w->X.K=K->X.calm=true->∀ (i:Nat) (pins:List (Addr × Obj)) (s:Shared) (σ:St) (H:Hp) (E:Value->Shared->Prop),Inv X pins σ H s->(∀ b ∈ fp,FpOk X pins H b)->tn i s.heap->J.go i H ->
  wpAny (model P w) X.A (pyNext (.ref it)) (fun r s1=>∃ u,r=some u /\
   wpAny (model P w) X.A (letOwnedTupleGo tg (.ref it) u) (fun _ s2=>∃ x H',Inv X pins σ H' s2 /\ RelV x u /\ J.yld i H x H' /\ tn (i+1) s2.heap /\ ∀ b ∈ fp,H' b=none) E s1) E s
 done:∀ (X:Cx),X.prog=P->X.w=w->X.K=K->X.calm=true->∀ (i:Nat) (pins:List (Addr × Obj)) (s:Shared) (σ:St) (H:Hp) (E:Value->Shared->Prop),Inv X pins σ H s->(∀ b ∈ fp,FpOk X pins H b)->tn i s.heap->J.stop i H ->
  wpAny (model P w) X.A (pyNext (.ref it)) (fun r s1=>r=none /\ Inv X pins σ H s1) E s
 self:∀ (A:Around) (i:Nat) (s:Shared) (Q:Value->Shared->Prop) (E:Value->Shared->Prop),tn i s.heap->Q (.ref it) s->wpAny (model P w) A (pyIter (.ref it)) Q E s
abbrev TI:=St->Hp->(It->Hp->Prop)->Prop
def PIE (X:Cx) (pins:List (Addr × Obj)) (σ:St) (tg:Expr) (R:It->Hp->Prop) (itv:Value) (s2:Shared):Prop :=
 ∃ (it:Addr) (fp:List Addr) (tn:Nat->Heap->Prop) (J:It) (H':Hp),itv=.ref it /\ Inv X pins σ H' s2 /\ Turn X.prog X.w X.K tg J fp it tn /\ tn 0 s2.heap /\ (∀ b ∈ fp,FpOk X pins H' b) /\ R J H'
def PI (X:Cx) (tg iter:Expr) (wi:TI):Prop :=
 ∀ (pins:List (Addr × Obj)) (s:Shared) (σ:St) (H:Hp) (R:It->Hp->Prop),Inv X pins σ H s->wi σ H R ->
  wpAny (model X.prog X.w) X.A (eval iter X.env) (fun v s1=>wpAny (model X.prog X.w) X.A (pyIter v) (PIE X pins σ tg R) X.xe s1) X.xe s
theorem uy2 {M : Model} {A : Around} {E : Value -> Shared -> Prop} {s : Shared} {tg : Expr} {it : Addr} {u : Value} {o : Obj} {n : String} {vs : Array Value} {Q : Unit -> Shared -> Prop} (ho : s.heap.get? it = some o) (hc : o.cls = .type n) (hd : o.data = .fields vs)
    (hn:["enumerate", "zip", "dict_itemiterator", "dict_reverseitemiterator", "odict_iterator", "itertools.zip_longest", "itertools.pairwise"].contains n=false) (hQ:Q () s):wpAny M A (letOwnedTupleGo tg (.ref it) u) Q E s:=by
  unfold letOwnedTupleGo;cases tg <;> first
    | exact wpAny_pure hQ
    | (cases u <;> first
        | exact wpAny_pure hQ
        | (refine wpAny_bind (wpAny_load ho ?_)
           rw [hc,hd]
           show wpAny M A (if (["enumerate", "zip", "dict_itemiterator", "dict_reverseitemiterator", "odict_iterator", "itertools.zip_longest", "itertools.pairwise"].contains n && vs[0]? == some (rawInt _))=true then _ else _) Q E s
           rw [if_neg (by intro h;rw [hn,Bool.false_and] at h;cases h)];exact wpAny_pure hQ))
def Itl (K:PySem.W.Frag) (a:Addr):It :=
 ⟨fun i H=>∃ xs x,SqL K H a xs /\ xs[i]?=some x,fun i H x H'=>H'=H /\ ∀ xs,SqL K H a xs->xs[i]?=some x,fun i H=>∃ xs,SqL K H a xs /\ xs.length<=i⟩
def Itt (K:PySem.W.Frag) (a:Addr):It :=
 ⟨fun i H=>∃ xs x,SqT K H a xs /\ xs[i]?=some x,fun i H x H'=>H'=H /\ ∀ xs,SqT K H a xs->xs[i]?=some x,fun i H=>∃ xs,SqT K H a xs /\ xs.length<=i⟩
def Itr (lo:Int) (n:Nat):It:=⟨fun i _=>i < n,fun i H x H'=>H'=H /\ x=.int (lo+i),fun i _=>n<=i⟩
theorem ur6 {P:Program} {w:World} {K:PySem.W.Frag} {tg:Expr} (a it:Addr):Turn P w K tg (Itl K a) [it] it (fun i h=>h.IsListIter it a i) where
 mem:=by simp
 obj:=fun i h st b hb=>by
  have e:b=it:=by simpa using hb
  subst e;obtain ⟨o,e,c,d⟩:=st;exact ⟨o,e,fun v z=>by rw [d] at z;cases z⟩
 keep:=fun i h h' st k=>st.at fun o e=>k it (by simp) o e
 item:=by
  intro X hP hw hK hc i pins s σ H E I hf st hg;subst hP hw hK;obtain ⟨xs,x,hq,hx⟩:=hg;obtain ⟨its,rv,p,hz⟩:=I.list hq;obtain ⟨u,hu,ru⟩:=rv.get hx;obtain ⟨f0,f1,f2,f3,f4,f5⟩:=hf it (by simp);refine wpAny_pyNext_list_item st p.isList (x:=u) (by simpa using hu) fun h' st' sb=>?_
  have I1:Inv X pins σ H { s with heap:=h' }:=I.turned (t':=s.toks) (fun b o hb e=>(sb.2 b hb).trans e) f0 f1 f3 f4 f5
  obtain ⟨o,e,c,d⟩:=id st';exact ⟨u,rfl,uy2 (s:={ s with heap:=h' }) e c d (by decide) ⟨x,H,I1,ru,⟨rfl,fun ys hy=>by rw [I.list_inj hy hq];exact hx⟩,st',fun b hb=>(hf b hb).1⟩⟩
 done:=by
  intro X hP hw hK hc i pins s σ H E I hf st hg;subst hP hw hK;obtain ⟨xs,hq,hx⟩:=hg;obtain ⟨its,rv,p,hz⟩:=I.list hq;obtain ⟨f0,f1,f2,f3,f4,f5⟩:=hf it (by simp);have hl:=rv.length;exact wpAny_pyNext_list_end (I.ok.hd hc) st p.isList (by simp;omega) fun h' eb=>⟨rfl,I.turned (t':=s.toks) (fun b o hb e=>eb b o hb e) f0 f1 f3 f4 f5⟩
 self:=fun _ _ _ _ _ st h=>wpAny_pyIter_listiter st h
theorem uo7 {P:Program} {w:World} {K:PySem.W.Frag} {tg:Expr} (a it:Addr):Turn P w K tg (Itt K a) [it] it (fun i h=>h.IsTupleIter it a i) where
 mem:=by simp
 obj:=fun i h st b hb=>by
  have e:b=it:=by simpa using hb
  subst e;obtain ⟨o,e,c,d⟩:=st;exact ⟨o,e,fun v z=>by rw [d] at z;cases z⟩
 keep:=fun i h h' st k=>st.at fun o e=>k it (by simp) o e
 item:=by
  intro X hP hw hK hc i pins s σ H E I hf st hg;subst hP hw hK;obtain ⟨xs,x,hq,hx⟩:=hg;obtain ⟨its,rv,p,hz⟩:=I.tuple hq;obtain ⟨u,hu,ru⟩:=rv.get hx;obtain ⟨f0,f1,f2,f3,f4,f5⟩:=hf it (by simp);refine wpAny_pyNext_tuple_item st (show s.heap.IsTuple a its.toArray from p) (x:=u) (by simpa using hu) fun h' st' sb=>?_
  have I1:Inv X pins σ H { s with heap:=h' }:=I.turned (t':=s.toks) (fun b o hb e=>(sb.2 b hb).trans e) f0 f1 f3 f4 f5
  obtain ⟨o,e,c,d⟩:=id st';exact ⟨u,rfl,uy2 (s:={ s with heap:=h' }) e c d (by decide) ⟨x,H,I1,ru,⟨rfl,fun ys hy=>by rw [I.tuple_inj hy hq];exact hx⟩,st',fun b hb=>(hf b hb).1⟩⟩
 done:=by
  intro X hP hw hK hc i pins s σ H E I hf st hg;subst hP hw hK;obtain ⟨xs,hq,hx⟩:=hg;obtain ⟨its,rv,p,hz⟩:=I.tuple hq;obtain ⟨f0,f1,f2,f3,f4,f5⟩:=hf it (by simp);have hl:=rv.length;exact wpAny_pyNext_tuple_end (I.ok.hd hc) st (show s.heap.IsTuple a its.toArray from p) (by simp;omega) fun h' eb=>⟨rfl,I.turned (t':=s.toks) (fun b o hb e=>eb b o hb e) f0 f1 f3 f4 f5⟩
 self:=fun _ _ _ _ _ st h=>wpAny_pyIter_tupleiter st h
theorem uo8 {P:Program} {w:World} {K:PySem.W.Frag} {tg:Expr} (it:Addr) (lo:Int) (n:Nat):Turn P w K tg (Itr lo n) [it] it (fun i h=>IsRangeIter h it (lo+(i:Nat) * 1) ((n:Int) - (i:Nat)) 1) where
 mem:=by simp
 obj:=fun i h st b hb=>by
  have e:b=it:=by simpa using hb
  subst e;exact ⟨_,st,fun v z=>by
   have z':Data.fields _=Data.cell v:=z;cases z'⟩
 keep:=fun i h h' st k=>k it (by simp) _ st
 item:=by
  intro X hP hw hK hc i pins s σ H E I hf st hg;subst hP hw hK;obtain ⟨f0,f1,f2,f3,f4,f5⟩:=hf it (by simp);have W:=Walks.range (prog:=X.prog) (w:=X.w) (I.ok.hd hc) it lo 1 n;refine W.item i s _ _ hg st fun v h' tk hv st' kk=>?_
  obtain ⟨t,rfl⟩:=hv;have I1:Inv X pins σ H { s with heap:=h',toks:=tk }:=I.turned (fun b o hb e=>kk b o (by simpa using hb) e) f0 f1 f3 f4 f5
  refine ⟨_,rfl,uy2 (s:={ s with heap:=h',toks:=tk }) (n := "range_iterator") st' rfl rfl (by decide) ⟨.int (lo+i),H,I1,⟨t,?_⟩,⟨rfl,rfl⟩,st',fun b hb=>(hf b hb).1⟩⟩;rw [Int.mul_one]
 done:=by
  intro X hP hw hK hc i pins s σ H E I hf st hg;subst hP hw hK;obtain ⟨f0,f1,f2,f3,f4,f5⟩:=hf it (by simp);exact wpAny_pyNext_range_end (I.ok.hd hc) st (by have:n<=i:=hg;omega) fun h' eb=>⟨rfl,I.turned (t':=s.toks) (fun b o hb e=>eb b o hb e) f0 f1 f3 f4 f5⟩
 self:=fun _ _ _ _ _ st h=>wpAny_pyIter_rangeiter st h
section
variable {X:Cx} {tg:Expr}
theorem ul4 {pins:List (Addr × Obj)} {σ:St} {H:Hp} {s:Shared} {R:It->Hp->Prop} {E:Value->Shared->Prop} {lo hi:Int} {t u v:Tok} {tk:Nat} (I:Inv X pins σ H s) (h1:-(2 ^ 62)<=lo) (h2:lo < 2 ^ 62) (h3:-(2 ^ 62)<=hi) (h4:hi < 2 ^ 62)
  (q:R (Itr lo (hi - lo).toNat) H):wpAny (model X.prog X.w) X.A (pyIter (.ref s.heap.objs.size)) (PIE X pins σ tg R) E { s with heap:=s.heap.push { cls:=.type "range",data:=.fields #[.int lo t,.int hi u,.int 1 v] },toks:=tk }:=by
 refine wpAny_pyIter_range (IsRange.new ..) (small_one h1 h2 h3 h4) ?_;have I1:Inv X pins σ H { s with heap:=s.heap.push { cls:=.type "range",data:=.fields #[.int lo t,.int hi u,.int 1 v] },toks:=tk }:=I.kept fun b o e=>Heap.get?_push_of_some _ e
 refine ⟨(s.heap.push { cls:=.type "range",data:=.fields #[.int lo t,.int hi u,.int 1 v] }).objs.size,[(s.heap.push { cls:=.type "range",data:=.fields #[.int lo t,.int hi u,.int 1 v] }).objs.size],_,_,H,rfl,
  I1.kept (t':=tk) fun b o e=>Heap.get?_push_of_some _ e,uo8 _ lo (hi - lo).toNat,?_,fun b hb=>?_,q⟩
 ·have e1:lo+((0:Nat):Int) * 1=lo:=by simp
  have e2:(((hi - lo).toNat:Nat):Int) - ((0:Nat):Int)=Builtin.Range.rangeSize lo hi 1:=by rw [rangeSize_one];split <;> omega
  show IsRangeIter _ _ (lo+((0:Nat):Int) * 1) ((((hi - lo).toNat:Nat):Int) - ((0:Nat):Int)) 1
  rw [e1,e2];exact Heap.get?_push_size _ rfl
 ·have e:b=(s.heap.push { cls:=.type "range",data:=.fields #[.int lo t,.int hi u,.int 1 v] }).objs.size:=by simpa using hb
  subst e;exact I1.fpOk (Nat.le_refl _) (I1.hok.fresh (Nat.le_refl _))
def vz8 (ta:TA):TI:=fun σ H R=>ta σ H fun vs H1=>∃ j:Int,vs=[.int j] /\ -(2 ^ 62)<=j /\ j < 2 ^ 62 /\ R (Itr 0 j.toNat) H1
def vz7 (ta:TA):TI:=fun σ H R=>ta σ H fun vs H1=>∃ i j:Int,vs=[.int i,.int j] /\ (-(2 ^ 62)<=i /\ i < 2 ^ 62 /\ -(2 ^ 62)<=j /\ j < 2 ^ 62) /\ R (Itr i (j - i).toNat) H1
theorem ut8 {a:Expr} {ta:TA} {p pos:Pos} (hg:Gl X "range") (hm:X.mg "range" = none) (ha:PA X [a] ta) (hs:starEach [a] X.env=[(false,eval a X.env)]:=by rfl):PI X tg (.Call (.Name "range" p) [a] [] pos) (vz8 ta):=by
 intro pins s σ H R I h
 (refine Call_ (u86 I hg hm boot_range (PyProof.Rows.callWith_type1 (thn (ha pos pins s σ H _ I h) ?_) hs rfl));rintro us s1 ⟨vs,H1,I1,r1,q1⟩)
 obtain ⟨j,e,q1,q2,q⟩:=q1;subst e;cases r1 with
 | cons r rr =>
  cases rr;obtain ⟨t,rfl⟩:=r;exact call_range_1 (ul4 I1 (by omega) (by omega) q1 q2 (by simpa using q))
theorem ut7 {a b:Expr} {ta:TA} {p pos:Pos} (hg:Gl X "range") (hm:X.mg "range" = none) (ha:PA X [a,b] ta) (hs:starEach [a,b] X.env=[(false,eval a X.env),(false,eval b X.env)]:=by rfl) (hs2:starEach [b] X.env=[(false,eval b X.env)]:=by rfl) :
  PI X tg (.Call (.Name "range" p) [a,b] [] pos) (vz7 ta):=by
 intro pins s σ H R I h;refine Call_ (u86 I hg hm boot_range (PyProof.Rows.callWith_type1 (thn (ha pos pins s σ H _ I h) fun us s1 ⟨vs,H1,I1,r1,q1⟩=>?_) (by rw [hs,hs2]) (by rw [hs2];rfl)));obtain ⟨i,j,e,⟨q1,q2,q3,q4⟩,q⟩:=q1;subst e;cases r1 with
 | cons r rr =>
  cases rr with
  | cons r' rr =>
   cases rr;obtain ⟨t,rfl⟩:=r;obtain ⟨t',rfl⟩:=r';exact call_range_2 (ul4 I1 q1 q2 q3 q4 q)
def tFor (wi:TI) (g:TG) (tb:TS):TS:=fun D σ H=>wi σ H fun J H1=>∃ W:Nat->Nat->St->Hp->Prop,(∃ m,W 0 m σ H1) /\ ∀ i m σ H,W i m σ H ->
 (J.stop i H /\ D.nx σ H) \/ (J.go i H /\ ∃ N:St->Hp->Prop,(∀ σ' H',N σ' H'->∃ m',m' < m /\ W (i+1) m' σ' H') /\ ∀ x H',J.yld i H x H'->g x σ H' fun σ2 H2=>tb { D with nx:=N,ct:=N,bk:=D.nx } σ2 H2)
def uf4 (fp:List Addr) (h:Heap):List (Addr × Obj):=fp.filterMap fun b=>(h.get? b).map fun o=>(b,o)
theorem u60 {fp:List Addr} {h:Heap} {b:Addr} {o:Obj} (hb:b ∈ fp) (e:h.get? b=some o):(b,o) ∈ uf4 fp h:=List.mem_filterMap.mpr ⟨b,hb,by rw [e];rfl⟩
theorem uu6 {fp:List Addr} {h:Heap} {p:Addr × Obj} (hp:p ∈ uf4 fp h):p.1 ∈ fp /\ h.get? p.1=some p.2:=by
 obtain ⟨b,hb,e⟩:=List.mem_filterMap.mp hp;cases q:h.get? b with
 | none=>rw [q] at e;cases e
 | some o =>
  rw [q] at e;have e':(b,o)=p:=Option.some.inj e;subst e';exact ⟨hb,q⟩
theorem Inv.pinned {pins:List (Addr × Obj)} {σ:St} {H:Hp} {s:Shared} {fp:List Addr} (I:Inv X pins σ H s) (hf:∀ b ∈ fp,FpOk X pins H b) (ho:∀ b ∈ fp,∃ o,s.heap.get? b=some o /\ ∀ v,o.data ≠ .cell v):Inv X (pins++uf4 fp s.heap) σ H s :=
 I.pins_of fun p hp=>(List.mem_append.mp hp).elim (fun z=>I.pin p (List.mem_append_right _ z)) fun z=>by
  obtain ⟨hb,e⟩:=uu6 z;obtain ⟨f0,f1,f2,_⟩:=hf p.1 hb;obtain ⟨o,e',d⟩:=ho p.1 hb;rw [e] at e';cases e';exact ⟨e,f0,f1,f2,d⟩
theorem Inv.unpinned {pins pl:List (Addr × Obj)} {σ:St} {H:Hp} {s:Shared} (I:Inv X (pins++pl) σ H s):Inv X pins σ H s:=I.pins_of fun p hp=>I.pin p (List.mem_append_right _ (List.mem_append_left _ hp))
theorem vs7 {iter:Expr} {body:List Stmt} {wi:TI} {g:TG} {tb:TS} {pos:Pos} (hp:PassesOwn (model X.prog X.w) X.A X.env X.xe) (hc:X.calm=true) (hi:PI X tg iter wi) (hg:PG X tg g) (hb:PSs X body tb)
  (hs:∀ x,foldedSetIterable iter X.env x=pure x:=by intro _;rfl):PS X (.For tg iter body [] pos) (tFor wi g tb):=by
 intro pins s σ H D I h;refine wpAny_For (thn (hi pins s σ H _ I h) fun v s1 h1=>thn h1 fun itv s2 h2=>?_) hs;obtain ⟨it,fp,tn,J,H2,e,I2,T,st2,f2,W,⟨m0,w0⟩,turn⟩:=h2;subst e;have stat:∀ {H':Hp},(∀ b ∈ fp,H' b=none)->∀ b ∈ fp,FpOk X pins H' b:=fun hn b hb=>⟨hn b hb,(f2 b hb).2⟩
 refine codeAny_forLoop_any (fun n s'=>∃ i σ' H',Inv X pins σ' H' s' /\ tn i s'.heap /\ (∀ b ∈ fp,H' b=none) /\ W i n σ' H') ?_ m0 ⟨0,σ,H2,I2,st2,fun b hb=>(f2 b hb).1,w0⟩;rintro n s3 ⟨i,σ3,H3,I3,st3,fr3,w3⟩
 rcases turn i n σ3 H3 w3 with ⟨stop,qn⟩ | ⟨go,N,hN,step⟩
 ·(refine wpAny_passesOwn hp (thn (T.done X rfl rfl rfl hc i pins s3 σ3 H3 X.xe I3 (stat fr3) st3 stop) ?_);rintro r s4 ⟨hr,I4⟩)
  subst hr;exact wpAny_execs_nil ⟨σ3,H3,I4,qn⟩
 ·(refine wpAny_passesOwn hp (thn (T.item X rfl rfl rfl hc i pins s3 σ3 H3 X.xe I3 (stat fr3) st3 go) ?_);rintro r s4 ⟨u,hr,h4⟩)
  subst hr
  (refine wpAny_passesOwn hp (thn h4 ?_);rintro _ s5 ⟨x,H5,I5,r5,y5,st5,fr5⟩)
  have I5':=I5.pinned (stat fr5) (T.obj _ _ st5)
  (refine wpAny_passesOwn hp (thn (hg _ s5 σ3 H5 x u _ I5' r5 (step x H5 y5)) ?_);rintro _ s6 ⟨σ6,H6,I6,q6⟩)
  refine wpAny_passesOwn hp (thn (hb _ s6 σ6 H6 _ I6 q6) fun f s7 q7=>?_);have again:∀ {σ7:St} {H7:Hp},Inv X (pins++uf4 fp s5.heap) σ7 H7 s7->N σ7 H7->∃ m,m < n /\ ∃ i σ' H',Inv X pins σ' H' s7 /\ tn i s7.heap /\ (∀ b ∈ fp,H' b=none) /\ W i m σ' H':=fun {σ7 H7} I7 n7=>by
   obtain ⟨m',hm,w7⟩:=hN σ7 H7 n7;refine ⟨m',hm,i+1,σ7,H7,I7.unpinned,T.keep _ _ _ st5 fun b hb o e=>(I7.pin (b,o) (List.mem_append_right _ (List.mem_append_right _ (u60 hb e)))).1,fun b hb=>?_,w7⟩;obtain ⟨o,e,d⟩:=T.obj _ _ st5 b hb;exact (I7.pin (b,o) (List.mem_append_right _ (List.mem_append_right _ (u60 hb e)))).2.1
  cases f with
  | next=>obtain ⟨σ7,H7,I7,n7⟩:=q7;exact again I7 n7
  | cont=>obtain ⟨σ7,H7,I7,n7⟩:=q7;exact again I7 n7
  | brk=>obtain ⟨σ7,H7,I7,q7⟩:=q7;exact ⟨σ7,H7,I7.unpinned,q7⟩
  | ret v=>obtain ⟨x7,σ7,H7,I7,r7,q7⟩:=q7;exact ⟨x7,σ7,H7,I7.unpinned,r7,q7⟩
end
abbrev R2:=V->V->Hp->VK->Prop
def OpR (X:Cx) (f:Value->Value->Sem Value) (r:R2):Prop :=
 ∀ (pins:List (Addr × Obj)) (s:Shared) (σ:St) (H:Hp) (x y:V) (v u:Value) (Q:VK),Inv X pins σ H s->RelV x v->RelV y u->r x y H Q ->
  wpAny (model X.prog X.w) X.A (f v u) (EP X pins σ Q) X.xe s
def CallR (X:Cx) (f:Value) (r:List V->Hp->VK->Prop):Prop :=
 ∀ (pins:List (Addr × Obj)) (s:Shared) (σ:St) (H:Hp) (xs:List V) (us:List Value) (Q:VK),Inv X pins σ H s->Vals xs us->r xs H Q ->
  wpAny (model X.prog X.w) X.A (call f us) (EP X pins σ Q) X.xe s
def tOp (r:R2) (ta tb:TE):TE:=fun σ H Q=>ta σ H fun x H1=>tb σ H1 fun y H2=>r x y H2 Q
def rI (C:Int->Int->Prop) (g:Int->Int->V):R2:=fun x y H Q=>∃ i j,x=.int i /\ y=.int j /\ C i j /\ Q (g i j) H
def rI0 (g:Int->Int->V):R2:=fun x y H Q=>∃ i j,x=.int i /\ y=.int j /\ Q (g i j) H
section
variable {X:Cx} {a b c:Expr} {ta tb tc:TE} {pos:Pos}
theorem binT (ha:PE X a ta) (hb:PE X b tb) {pins:List (Addr × Obj)} {s:Shared} {σ:St} {H:Hp} {R:V->V->Hp->Prop} (I:Inv X pins σ H s)
  (h:ta σ H fun x H1=>tb σ H1 fun y H2=>R x y H2) {Q:Value->Shared->Prop} {f:Value->Value->Sem Value}
  (hf:∀ v u s2 x y H2,Inv X pins σ H2 s2->RelV x v->RelV y u->R x y H2->wpAny (model X.prog X.w) X.A (f v u) Q X.xe s2) :
  wpAny (model X.prog X.w) X.A (eval a X.env) (fun v s₁=>wpAny (model X.prog X.w) X.A (eval b X.env) (fun u s₂=>wpAny (model X.prog X.w) X.A (f v u) Q X.xe s₂) X.xe s₁) X.xe s:=by
 (refine thn (ha pins s σ H _ I h) ?_;rintro v s1 ⟨x,H1,I1,r1,q1⟩)
 (refine thn (hb pins s1 σ H1 _ I1 q1) ?_;rintro u s2 ⟨y,H2,I2,r2,q2⟩)
 exact hf v u s2 x y H2 I2 r1 r2 q2
theorem w46 {op:Operator} {r:R2} (ho:OpR X (binaryOp op) r) (ha:PE X a ta) (hb:PE X b tb):PE X (.BinOp a op b pos) (tOp r ta tb):=by
 intro pins s σ H Q I h;exact wpAny_BinOp (binT ha hb I h fun v u s2 x y H2 I2 rx ry q=>ho pins s2 σ H2 x y v u Q I2 rx ry q)
theorem opI {f:Value->Value->Sem Value} {C:Int->Int->Prop} {g:Int->Int->Int}
  (rule:∀ (i j:Int) (t u:Tok) (s:Shared) (Q:Value->Shared->Prop) (E:Value->Shared->Prop),C i j->Q (.int (g i j) s.toks) { s with toks:=s.toks+1 }->wpAny (model X.prog X.w) X.A (f (.int i t) (.int j u)) Q E s) :
  OpR X f (rI C fun i j=>.int (g i j)):=by
 intro pins s σ H x y v u Q I rx ry h;obtain ⟨i,j,rfl,rfl,hc,q⟩:=h;obtain ⟨t,rfl⟩:=rx;obtain ⟨t',rfl⟩:=ry;exact rule i j t t' s _ _ hc ⟨.int (g i j),H,I.tok _,⟨_,rfl⟩,q⟩
theorem opI0 {f:Value->Value->Sem Value} {g:Int->Int->Int}
  (rule:∀ (i j:Int) (t u:Tok) (s:Shared) (Q:Value->Shared->Prop) (E:Value->Shared->Prop),Q (.int (g i j) s.toks) { s with toks:=s.toks+1 }->wpAny (model X.prog X.w) X.A (f (.int i t) (.int j u)) Q E s) :
  OpR X f (rI0 fun i j=>.int (g i j)):=by
 intro pins s σ H x y v u Q I rx ry h;obtain ⟨i,j,rfl,rfl,q⟩:=h;obtain ⟨t,rfl⟩:=rx;obtain ⟨t',rfl⟩:=ry;exact rule i j t t' s _ _ ⟨.int (g i j),H,I.tok _,⟨_,rfl⟩,q⟩
theorem opB0 {f:Value->Value->Sem Value} {g:Int->Int->Bool}
  (rule:∀ (i j:Int) (t u:Tok) (s:Shared) (Q:Value->Shared->Prop) (E:Value->Shared->Prop),Q (.bool (g i j)) s->wpAny (model X.prog X.w) X.A (f (.int i t) (.int j u)) Q E s) :
  OpR X f (rI0 fun i j=>.bl (g i j)):=by
 intro pins s σ H x y v u Q I rx ry h;obtain ⟨i,j,rfl,rfl,q⟩:=h;obtain ⟨t,rfl⟩:=rx;obtain ⟨t',rfl⟩:=ry;exact rule i j t t' s _ _ ⟨.bl (g i j),H,I,rfl,q⟩
def CDiv (i j:Int):Prop:=0 < j /\ j < 1073741824
def CPow (i j:Int):Prop:=0<=j /\ j<=1000000 /\ i.natAbs < 2 ^ 64
def CMul (i j:Int):Prop:=(-(2 ^ 64) < i /\ i < 2 ^ 64) \/ (-(2 ^ 64) < j /\ j < 2 ^ 64)
theorem CMul.ok {i j:Int} (h:CMul i j):IntMulOk i j:=by
 rcases h with ⟨h1,h2⟩ | ⟨h1,h2⟩
 ·exact .of_left (intBits_le_64 h1 h2)
 ·exact .of_right (intBits_le_64 h1 h2)
theorem uo5 (k:Nat):(0:Int)<=2 ^ k:=by
 rw [two_pow_cast];exact Int.natCast_nonneg _
theorem op_add:OpR X (binaryOp .Add) (rI0 fun i j=>.int (i+j)):=opI0 fun _ _ _ _ _ _ _ q=>add_int q
theorem vu5:OpR X (binaryOp .Sub) (rI0 fun i j=>.int (i - j)):=opI0 fun _ _ _ _ _ _ _ q=>sub_int q
theorem op_mul:OpR X (binaryOp .Mult) (rI CMul fun i j=>.int (i * j)):=opI fun _ _ _ _ _ _ _ hc q=>mul_int q hc.ok
theorem w53:OpR X (binaryOp .FloorDiv) (rI CDiv fun i j=>.int (i / j)):=opI fun i j _ _ _ _ _ hc q=>by
 have h1:(0:Int) < j:=hc.1;have h2:j < 1073741824:=hc.2;exact floordiv_int (by omega) (by rw [Int.fdiv_eq_ediv_of_nonneg i (by omega)];exact q) (.inl (PyProof.noPylong_small (by omega)))
theorem vv1:OpR X (binaryOp .Mod) (rI (fun _ j=>0 < j) fun i j=>.int (i % j)):=opI fun i j _ _ _ _ _ hc q=>by
 have h1:(0:Int) < j:=hc;exact mod_int' (by omega) (by rw [Int.fmod_eq_emod_of_nonneg i (by omega)];exact q)
theorem vu9:OpR X (binaryOp .Pow) (rI CPow fun i j=>.int (i ^ j.toNat)):=opI fun _ _ _ _ _ _ _ hc q=>pow_int_small hc.1 hc.2.1 hc.2.2 q
theorem vu7:OpR X (binaryOp .LShift) (rI CPow fun i j=>.int (i * 2 ^ j.toNat)):=opI fun _ _ _ _ _ _ _ hc q=>lshift_int_small hc.1 hc.2.1 hc.2.2 q
theorem vu6:OpR X (binaryOp .RShift) (rI (fun _ j=>0<=j) fun i j=>.int (i / 2 ^ j.toNat)):=opI fun i j _ _ _ _ _ hc q =>
 rshift_int hc (by rw [Int.fdiv_eq_ediv_of_nonneg i (uo5 _)];exact q)
theorem vv6:OpR X (binaryOp .BitAnd) (rI0 fun i j=>.int (Builtin.bitAnd i j)):=opI0 fun _ _ _ _ _ _ _ q=>and_int q
theorem vu4:OpR X (binaryOp .BitXor) (rI0 fun i j=>.int (Builtin.bitXor i j)):=opI0 fun _ _ _ _ _ _ _ q=>xor_int q
end
def scal:V->V->Bool
 | .non,.non=>true | .non,.int _=>true | .int _,.non=>true | .non,.bl _=>true | .bl _,.non=>true | .non,.str _=>true | .str _,.non=>true
 | .int _,.int _=>true | .bl _,.bl _=>true | .str _,.str _=>true | .byt _,.byt _=>true
 | .int _,.str _=>true | .str _,.int _=>true | .bl _,.str _=>true | .str _,.bl _=>true
 | _,_=>false
def rEq:R2:=fun x y H Q=>scal x y=true /\ Q (.bl (decide (x=y))) H
def rNe:R2:=fun x y H Q=>scal x y=true /\ Q (.bl (!decide (x=y))) H
theorem uz0 {i j:Int}:decide (V.int i=V.int j)=(i == j):=by
 rw [Bool.eq_iff_iff];simp
theorem vc8 {i j:Bool}:decide (V.bl i=V.bl j)=(i == j):=by
 rw [Bool.eq_iff_iff];simp
theorem uy9 {i j:Str}:decide (V.str i=V.str j)=(i == j):=by
 rw [Bool.eq_iff_iff];simp
theorem uz1 {i j:Array UInt8}:decide (V.byt i=V.byt j)=(i.toList == j.toList):=by
 rw [Bool.eq_iff_iff];cases i;cases j;simp
section
variable {X:Cx} {a b c:Expr} {ta tb tc:TE} {pos:Pos}
theorem u13 {pins:List (Addr × Obj)} {σ:St} {H:Hp} {s:Shared} {Q:VK} {k k':Bool} (I:Inv X pins σ H s) (q:Q (.bl k) H) (e:k=k'):EP X pins σ Q (.bool k') s:=by
 subst e;exact ⟨.bl k,H,I,rfl,q⟩
theorem op_eq:OpR X (compareOp .Eq) rEq:=by
 intro pins s σ H x y v u Q I rx ry h;obtain ⟨hs,q⟩:=h;cases x with
 | non =>
  cases rx;cases y with
  | non=>cases ry;exact PySem.EqNone.eq_none_none (u13 I q (by simp))
  | bl j=>cases ry;exact PySem.EqNone.eq_none_bool (u13 I q (by simp))
  | int j=>obtain ⟨t',rfl⟩:=ry;exact PySem.EqNone.eq_none_int (u13 I q (by simp))
  | str j=>obtain ⟨t',rfl⟩:=ry;exact PySem.EqNone.eq_none_str (u13 I q (by simp))
  | _=>exact absurd (show false=true from hs) Bool.false_ne_true
 | bl i =>
  cases rx;cases y with
  | non=>cases ry;exact PySem.EqNone.eq_bool_none (u13 I q (by simp))
  | bl j=>cases ry;exact eq_bool (u13 I q vc8)
  | str j=>obtain ⟨t',rfl⟩:=ry;exact PySem.EqMixed.eq_bool_str (u13 I q (by simp))
  | _=>exact absurd (show false=true from hs) Bool.false_ne_true
 | int i =>
  obtain ⟨t,rfl⟩:=rx;cases y with
  | non=>cases ry;exact PySem.EqNone.eq_int_none (u13 I q (by simp))
  | int j=>obtain ⟨t',rfl⟩:=ry;exact eq_int (u13 I q uz0)
  | str j=>obtain ⟨t',rfl⟩:=ry;exact PySem.EqMixed.eq_int_str (u13 I q (by simp))
  | _=>exact absurd (show false=true from hs) Bool.false_ne_true
 | str i =>
  obtain ⟨t,rfl⟩:=rx;cases y with
  | non=>cases ry;exact PySem.EqNone.eq_str_none (u13 I q (by simp))
  | bl j=>cases ry;exact PySem.EqMixed.eq_str_bool (u13 I q (by simp))
  | int j=>obtain ⟨t',rfl⟩:=ry;exact PySem.EqMixed.eq_str_int (u13 I q (by simp))
  | str j=>obtain ⟨t',rfl⟩:=ry;exact eq_str (u13 I q uy9)
  | _=>exact absurd (show false=true from hs) Bool.false_ne_true
 | byt i =>
  obtain ⟨t,rfl⟩:=rx;cases y with
  | byt j=>obtain ⟨t',rfl⟩:=ry;exact PySem.W.eq_bytes (u13 I q uz1)
  | _=>exact absurd (show false=true from hs) Bool.false_ne_true
 | _=>cases y <;> exact absurd (show false=true from hs) Bool.false_ne_true
theorem op_ne:OpR X (compareOp .NotEq) rNe:=by
 intro pins s σ H x y v u Q I rx ry h;obtain ⟨hs,q⟩:=h;cases x with
 | non =>
  cases rx;cases y with
  | non=>cases ry;exact PySem.EqNone.ne_none_none (u13 I q (by simp))
  | bl j=>cases ry;exact PySem.EqNone.ne_none_bool (u13 I q (by simp))
  | int j=>obtain ⟨t',rfl⟩:=ry;exact PySem.EqNone.ne_none_int (u13 I q (by simp))
  | str j=>obtain ⟨t',rfl⟩:=ry;exact PySem.EqNone.ne_none_str (u13 I q (by simp))
  | _=>exact absurd (show false=true from hs) Bool.false_ne_true
 | bl i =>
  cases rx;cases y with
  | non=>cases ry;exact PySem.EqNone.ne_bool_none (u13 I q (by simp))
  | bl j=>cases ry;exact ne_bool (u13 I q (congrArg not vc8))
  | str j=>obtain ⟨t',rfl⟩:=ry;exact PySem.EqMixed.ne_bool_str (u13 I q (by simp))
  | _=>exact absurd (show false=true from hs) Bool.false_ne_true
 | int i =>
  obtain ⟨t,rfl⟩:=rx;cases y with
  | non=>cases ry;exact PySem.EqNone.ne_int_none (u13 I q (by simp))
  | int j=>obtain ⟨t',rfl⟩:=ry;exact ne_int (u13 I q (congrArg not uz0))
  | str j=>obtain ⟨t',rfl⟩:=ry;exact PySem.EqMixed.ne_int_str (u13 I q (by simp))
  | _=>exact absurd (show false=true from hs) Bool.false_ne_true
 | str i =>
  obtain ⟨t,rfl⟩:=rx;cases y with
  | non=>cases ry;exact PySem.EqNone.ne_str_none (u13 I q (by simp))
  | bl j=>cases ry;exact PySem.EqMixed.ne_str_bool (u13 I q (by simp))
  | int j=>obtain ⟨t',rfl⟩:=ry;exact PySem.EqMixed.ne_str_int (u13 I q (by simp))
  | str j=>obtain ⟨t',rfl⟩:=ry;exact ne_str (u13 I q (congrArg not uy9))
  | _=>exact absurd (show false=true from hs) Bool.false_ne_true
 | byt i =>
  obtain ⟨t,rfl⟩:=rx;cases y with
  | byt j=>obtain ⟨t',rfl⟩:=ry;exact PySem.W.ne_bytes (u13 I q (congrArg not uz1))
  | _=>exact absurd (show false=true from hs) Bool.false_ne_true
 | _=>cases y <;> exact absurd (show false=true from hs) Bool.false_ne_true
theorem op_lt:OpR X (compareOp .Lt) (rI0 fun i j=>.bl (decide (i < j))):=opB0 fun _ _ _ _ _ _ _ q=>lt_int q
theorem w50:OpR X (compareOp .LtE) (rI0 fun i j=>.bl (decide (i<=j))):=opB0 fun _ _ _ _ _ _ _ q=>le_int q
theorem w51:OpR X (compareOp .Gt) (rI0 fun i j=>.bl (decide (j < i))):=opB0 fun _ _ _ _ _ _ _ q=>gt_int q
theorem w52:OpR X (compareOp .GtE) (rI0 fun i j=>.bl (decide (j<=i))):=opB0 fun _ _ _ _ _ _ _ q=>ge_int q
theorem uu3:OpR X (compareOp .Lt) (fun x y H Q=>∃ i j,x=.str i /\ y=.str j /\ Q (.bl (decide (i.cps.toList < j.cps.toList))) H):=by
 intro pins s σ H x y v u Q I rx ry h;obtain ⟨i,j,rfl,rfl,q⟩:=h;obtain ⟨t,rfl⟩:=rx;obtain ⟨t',rfl⟩:=ry;exact lt_str (u13 I q rfl)
theorem op_isN:OpR X (compareOp .Is) (fun x y H Q=>y=.non /\ Q (.bl (decide (x=.non))) H):=by
 intro pins s σ H x y v u Q I rx ry h;obtain ⟨rfl,q⟩:=h;cases ry;refine is_none_gen (u13 I q ?_);cases x <;> first
  | (cases rx;rfl)
  | (obtain ⟨t,rfl⟩:=rx;rfl)
theorem OpR.or {f:Value->Value->Sem Value} {r r':R2} (h:OpR X f r) (h':OpR X f r'):OpR X f (fun x y H Q=>r x y H Q \/ r' x y H Q):=by
 intro pins s σ H x y v u Q I rx ry q
 rcases q with q | q
 ·exact h pins s σ H x y v u Q I rx ry q
 ·exact h' pins s σ H x y v u Q I rx ry q
theorem nomark (b:Expr) {op:CmpOp} (h:op ≠ .In:=by decide) (h2:op ≠ .NotIn:=by decide):behindInMarks op b=false:=by
 have e1:(op == CmpOp.In)=false:=by cases op <;> first | rfl | exact absurd rfl h
 have e2:(op == CmpOp.NotIn)=false:=by cases op <;> first | rfl | exact absurd rfl h2
 cases b <;> simp [behindInMarks,e1,e2]
theorem vi8 {op:CmpOp} {r:R2} (ho:OpR X (compareOp op) r) (ha:PE X a ta) (hb:PE X b tb) (hm:behindInMarks op b=false):PE X (.Compare a [op] [b] pos) (tOp r ta tb):=by
 intro pins s σ H Q I h;exact wpAny_Compare1 (binT ha hb I h fun v u s2 x y H2 I2 rx ry q=>ho pins s2 σ H2 x y v u Q I2 rx ry q) hm
def w36 (t:TE):TT:=fun σ H Q=>t σ H fun x H'=>∃ k,x=.bl k /\ Q k H'
theorem vh6 {op:CmpOp} {r:R2} (ho:OpR X (compareOp op) r) (ha:PE X a ta) (hb:PE X b tb) (hm:behindInMarks op b=false):PT X (.Compare a [op] [b] pos) (w36 (tOp r ta tb)):=by
 intro pins s σ H Q I h;refine wpAny_isTrue_Compare1 (thn (ha pins s σ H _ I h) fun v s1 ⟨x,H1,I1,r1,q1⟩=>thn (hb pins s1 σ H1 _ I1 q1) fun u s2 ⟨y,H2,I2,r2,q2⟩ =>
  thn (ho pins s2 σ H2 x y v u _ I2 r1 r2 q2) fun c s3 ⟨z,H3,I3,r3,k,e,q3⟩=>?_) hm
 subst e;cases r3;exact wpAny_truthy_bool ⟨H3,I3,q3⟩
theorem line63:(sizeLine:Nat) < 2 ^ 63:=by rw [sizeLine_eq];decide
theorem op_add_str:OpR X (binaryOp .Add) (fun x y H Q=>∃ i j,x=.str i /\ y=.str j /\ i.length+j.length<=sizeLine /\ Q (.str (i++j)) H):=by
 intro pins s σ H x y v u Q I rx ry h;obtain ⟨i,j,rfl,rfl,hz,q⟩:=h;obtain ⟨t,rfl⟩:=rx;obtain ⟨t',rfl⟩:=ry;exact add_str (fun t' tk=>⟨.str (i++j),H,I.tok _,⟨_,rfl⟩,q⟩) hz
theorem vals1 {x:V} {us:List Value} (r:Vals [x] us):∃ u,us=[u] /\ RelV x u:=by
 cases r with
 | cons r1 r2=>cases r2;exact ⟨_,rfl,r1⟩
theorem vals2 {x y:V} {us:List Value} (r:Vals [x,y] us):∃ u w',us=[u,w'] /\ RelV x u /\ RelV y w':=by
 cases r with
 | cons r1 r2 =>
  cases r2 with
  | cons r3 r4=>cases r4;exact ⟨_,_,rfl,r1,r3⟩
theorem v82:CallR X (.builtin "abs") (fun xs H Q=>∃ i,xs=[.int i] /\ Q (.int (if i < 0 then -i else i)) H):=by
 intro pins s σ H xs us Q I r h;obtain ⟨i,rfl,q⟩:=h;obtain ⟨u,rfl,t,rfl⟩:=vals1 r;exact call_abs_int fun u tk=>⟨.int (if i < 0 then -i else i),H,I.tok _,⟨_,rfl⟩,q⟩
theorem v06 (hc:X.calm=true):CallR X (.builtin "max") (fun xs H Q=>∃ i j,xs=[.int i,.int j] /\ Q (.int (if j > i then j else i)) H):=by
 intro pins s σ H xs us Q I r h;obtain ⟨i,j,rfl,q⟩:=h;obtain ⟨u,w',rfl,⟨t,rfl⟩,⟨t',rfl⟩⟩:=vals2 r;refine max_two_ints (I.ok.hd hc) fun h' tk k=>⟨_,H,I.kept k,?_,q⟩
 by_cases hj:j > i
 ·rw [if_pos hj,if_pos hj];exact ⟨_,rfl⟩
 ·rw [if_neg hj,if_neg hj];exact ⟨_,rfl⟩
theorem v04 (hc:X.calm=true):CallR X (.builtin "min") (fun xs H Q=>∃ i j,xs=[.int i,.int j] /\ Q (.int (if j < i then j else i)) H):=by
 intro pins s σ H xs us Q I r h;obtain ⟨i,j,rfl,q⟩:=h;obtain ⟨u,w',rfl,⟨t,rfl⟩,⟨t',rfl⟩⟩:=vals2 r;refine min_two_ints (I.ok.hd hc) fun h' tk k=>⟨_,H,I.kept k,?_,q⟩
 by_cases hj:j < i
 ·rw [if_pos hj,if_pos hj];exact ⟨_,rfl⟩
 ·rw [if_neg hj,if_neg hj];exact ⟨_,rfl⟩
theorem v07:CallR X (.type "int") (fun xs H Q=>(∃ i,xs=[.int i] /\ Q (.int i) H) \/ ∃ k,xs=[.bl k] /\ Q (.int (if k then 1 else 0)) H):=by
 intro pins s σ H xs us Q I r h
 rcases h with ⟨i,rfl,q⟩ | ⟨k,rfl,q⟩
 ·obtain ⟨u,rfl,t,rfl⟩:=vals1 r
  exact call_int_int ⟨.int i,H,I,⟨_,rfl⟩,q⟩
 ·obtain ⟨u,rfl,r1⟩:=vals1 r
  cases r1;exact call_int_bool ⟨.int (if k then 1 else 0),H,I.tok _,⟨_,rfl⟩,q⟩
theorem uj7:CallR X (.builtin "divmod") (fun xs H Q=>∃ i j,xs=[.int i,.int j] /\ CDiv i j /\ ∀ p,H p=none->Q (.ref p) (upd H p (.tup [.int (i / j),.int (i % j)]))):=by
 intro pins s σ H xs us Q I r h;obtain ⟨i,j,rfl,⟨h1,h2⟩,q⟩:=h;obtain ⟨u,w',rfl,⟨t,rfl⟩,⟨t',rfl⟩⟩:=vals2 r;refine divmod_int (by omega) ?_ (.inl (PyProof.noPylong_small (by omega)));rw [Int.fdiv_eq_ediv_of_nonneg i (by omega),Int.fmod_eq_emod_of_nonneg i (by omega)];have hn:H s.heap.objs.size=none:=I.hok.fresh (Nat.le_refl _);refine ⟨.ref s.heap.objs.size,_,?_,rfl,q _ hn⟩;refine I.laid (fun b o e=>Heap.get?_push_of_some _ e) (Nat.le_refl _) ⟨by simp only [List.length_cons,List.length_nil];rw [sizeLine_eq];decide,[.int (i / j) s.toks,.int (i % j) (s.toks+1)],.cons ⟨_,rfl⟩ (.cons ⟨_,rfl⟩ .nil),?_⟩;exact ⟨_,Heap.get?_push_size s.heap rfl,rfl,⟨0,rfl⟩,rfl⟩
end
structure ObjM (h:Heap) (x dx C:Addr) (mA:Str->Option Value):Prop where
 obj:h.get? x=some (PySem.W.instObj C dx)
 ns:h.Ns1 dx mA
 ne:dx ≠ x
theorem uw3 {h:Heap} {dx:Addr} {mA:Str->Option Value} (n:h.Ns1 dx mA):∃ od,h.get? dx=some od /\ ∀ name,PySem.W.lookIn name od=some (mA name):=by
 obtain ⟨o,es,ep,ho,hd,hk,_,hm⟩:=n;refine ⟨o,ho,fun name=>?_⟩;have e:=hm name;unfold nsFind findBy at e;rw [<- Array.find?_toList] at e;unfold PySem.W.lookIn;rw [hd];dsimp only;split
 ·rename_i y q
  rw [q] at e;exact congrArg some e
 ·rename_i q
  rw [q] at e;have a:es.toList.any (·.refKey)=false:=by
   rw [List.any_eq_false];intro y hy;obtain ⟨z,t,hkey⟩:=hk y (Array.mem_toList_iff.mp hy);simp [DictEntry.refKey,hkey]
  have a':¬ es.toList.any (·.refKey)=true:=by rw [a];exact Bool.false_ne_true
  rw [if_neg a'];exact congrArg some e
theorem ObjM.look {h:Heap} {x dx C:Addr} {mA:Str->Option Value} (I:ObjM h x dx C mA):∃ od,PySem.W.InstAt h x (PySem.W.instObj C dx) C (some od) /\ ∀ name,PySem.W.lookIn name od=some (mA name) :=
 let ⟨od,ho,hl⟩:=uw3 I.ns
 ⟨od,⟨I.obj,rfl,rfl,ho⟩,hl⟩
section
variable {prog:Program} {w:World} {A:Around} {E:Value->Shared->Prop} {s:Shared} {K:PySem.W.Frag} {x dx C f:Addr} {mA:Str->Option Value} {name:Str} {v:Value}
theorem v67 {pl:Sem Bool} {Q:Value × List Value->Shared->Prop} (X:K.In s.heap) (I:ObjM s.heap x dx C mA) (hg:PySem.W.plainGet K C name=true)
  (hf:PySem.W.findIn K (.ref C) name=some (some (.ref f))) (ht:PySem.W.isFn K (.ref f)=true) (hv:mA name=none) (h:Q (.ref f,[.ref x]) s) :
  wpAny (model prog w) A (getMethod (.ref x) name pl) Q E s:=by
 obtain ⟨od,J,hl⟩:=I.look;exact PySem.W.method_fn X J (PySem.W.plainGet_of hg).1 (PySem.W.plainGet_of hg).2 hf (beq_iff_eq.mp ht) (by show (PySem.W.lookIn name od).map (·.isSome)=some false;rw [hl,hv];rfl) h
end
theorem RelO.some_of {v:V} {o:Option Value} (r:RelO (some v) o):∃ u,o=some u /\ RelV v u:=by
 cases o with
 | none=>exact (show False from r).elim
 | some u=>exact ⟨u,rfl,r⟩
theorem RelO.none_of {o:Option Value} (r:RelO none o):o=none:=by
 cases o with
 | none=>rfl
 | some u=>exact (show False from r).elim
section
variable {P:Program} {w:World} {H H':Hp} {h h':Heap} {a C dx:Addr} {fs fs':List (Str × V)}
theorem vl3 (hok:HOk P w H h) (e:H a=some (.ins C dx fs)):∃ mA,ObjM h a dx C mA /\ (∀ f,RelO (fs.lookup f) (mA f)) /\ PySem.Within mA (fs.map (·.1)) /\ fs.length<=1000 /\ H dx=some (.own a):=by
 obtain ⟨d,z,ne,ob,mA,n,r,q⟩:=(show ObjOk P w H h a (.ins C dx fs) from hok a _ e);exact ⟨mA,⟨ob,n,ne⟩,r,q,z,d⟩
end
structure Cls (K:PySem.W.Frag) (C:Addr):Prop where
 pg:PySem.W.plainGet K C Str.empty=true
 hd:PySem.W.hasDictIn K C=true
 po:PySem.W.plainOver K C=true
 sa:PySem.W.findIn K (.ref C) "__setattr__" = some (some (.builtin "object.__setattr__"))
theorem Cls.get {K:PySem.W.Frag} {C:Addr} (c:Cls K C) (f:Str):PySem.W.plainGet K C f=true:=c.pg
structure Con (K:PySem.W.Frag) (C:Addr) (f:Str) (v:V) (u:Value):Prop where
 at_:PySem.W.findIn K (.ref C) f=some (some u)
 rel:RelV v u
 get:PySem.W.specialIn K u "__get__" = some none
 cp:PySem.W.copiedNames.contains f=false
structure Meth (K:PySem.W.Frag) (C:Addr) (m:Str) (f:Addr):Prop where
 at_:PySem.W.findIn K (.ref C) m=some (some (.ref f))
 fn:PySem.W.isFn K (.ref f)=true
 kp:PySem.W.keepIn K (.ref f)=true
section
variable {X:Cx} {pins:List (Addr × Obj)} {σ:St} {H:Hp} {s:Shared} {a C dx:Addr} {fs:List (Str × V)} {f:Str} {v:V} {A:Around} {E:Value->Shared->Prop}
theorem uq0 {m:Str} {g:Addr} {pl:Sem Bool} {Q:Value × List Value->Shared->Prop} (I:Inv X pins σ H s) (e:H a=some (.ins C dx fs)) (c:Cls X.K C) (k:Meth X.K C m g) (l:fs.lookup m=none)
  (h:Q (.ref g,[.ref a]) s):wpAny (model X.prog X.w) A (getMethod (.ref a) m pl) Q E s:=by
 obtain ⟨mA,O,r,_,_,_⟩:=vl3 I.hok e;have hn:mA m=none:=RelO.none_of (by rw [<- l];exact r m);exact v67 I.kIn O (c.get m) k.at_ k.fn hn h
theorem Inv.made (I:Inv X pins σ H s):Inv X pins σ (upd (upd H s.heap.objs.size (.own (s.heap.objs.size+1))) (s.heap.objs.size+1) (.ins C s.heap.objs.size []))
  { s with heap:=(s.heap.push PySem.W.emptyDict).push (PySem.W.instObj C s.heap.objs.size) }:=by
 have e1:(s.heap.push PySem.W.emptyDict).get? s.heap.objs.size=some PySem.W.emptyDict:=Heap.get?_push_size s.heap rfl;have e2:((s.heap.push PySem.W.emptyDict).push (PySem.W.instObj C s.heap.objs.size)).get? (s.heap.objs.size+1)=some (PySem.W.instObj C s.heap.objs.size):=by
  have:=Heap.get?_push_size (s.heap.push PySem.W.emptyDict) (o:=PySem.W.instObj C s.heap.objs.size) rfl
  rwa [Heap.size_push] at this
 have e3:(s.heap.push PySem.W.emptyDict).Ns s.heap.objs.size (fun _=>none):=⟨PySem.W.emptyDict,#[],_,e1,rfl,(fun e he=>absurd he (by simp)),fun _=>rfl⟩;have I1:=I.laid (a:=s.heap.objs.size) (o:=.own (s.heap.objs.size+1)) (h':=s.heap.push PySem.W.emptyDict) (t':=s.toks) (fun b u q=>Heap.get?_push_of_some _ q) (Nat.le_refl _) ⟨_,e1⟩;refine I1.laid (a:=s.heap.objs.size+1) (o:=.ins C s.heap.objs.size []) (t':=s.toks) (fun b u q=>Heap.get?_push_of_some _ q) (Nat.le_of_eq (Heap.size_push _ _)) ?_;have ne:s.heap.objs.size ≠ s.heap.objs.size+1:=Nat.ne_of_lt (Nat.lt_succ_self _);refine ⟨by rw [u12 ne,u14],Nat.zero_le _,ne,e2,fun _=>none,(Heap.Ns1.of_empty e3).at fun o q=>Heap.get?_push_of_some _ q,fun _=>True.intro,fun y hy=>absurd rfl hy⟩
end
section
variable {X:Cx} {pins:List (Addr × Obj)} {σ:St} {H:Hp} {s:Shared} {A:Around} {E:Value->Shared->Prop} {Q:Value->Shared->Prop} {c:Value} {b:Bool}
inductive TyOf (K:PySem.W.Frag) (H:Hp):V->Value->Prop where
 | non:TyOf K H .non (.type "NoneType")
 | bl (x:Bool):TyOf K H (.bl x) (.type "bool")
 | int (i:Int):TyOf K H (.int i) (.type "int")
 | str (x:Str):TyOf K H (.str x) (.type "str")
 | flt (x:UInt64):TyOf K H (.flt x) (.type "float")
 | lst {a:Addr} {xs:List V} (e:H a=some (.lst xs)):TyOf K H (.ref a) (.type "list")
 | frz {a:Addr} {o:Obj} {xs:List V} (e:H a=some (.frz o (.lst xs))):TyOf K H (.ref a) (.type "list")
 | tup {a:Addr} {xs:List V} (e:H a=some (.tup xs)):TyOf K H (.ref a) (.type "tuple")
 | dK {a:Addr} {kvs:List (Key × V)} (e:H a=some (.dK kvs)):TyOf K H (.ref a) (.type "dict")
 | dT {a:Addr} {kvs:List (List Key × V)} (e:H a=some (.dT kvs)):TyOf K H (.ref a) (.type "dict")
 | ins {a C dx:Addr} {fs:List (Str × V)} (e:H a=some (.ins C dx fs)) (cl:Cls K C) (ha:PySem.W.findIn K (.ref C) "__class__" = some (some (.builtin "object.__class__")))
   (hn:PySem.W.specialIn K (.builtin "object.__class__") "__get__" = some (some (.builtin "getset_descriptor.__get__"))) (htk:PySem.W.takesIn K (.builtin "object.__class__")=some true)
   (hm:PySem.W.mroIn K C (.type "object")=some true):TyOf K H (.ref a) (.ref C)
end
structure Room (k:Nat) (A:Around):Prop where
 hd:A.handled=none
 dp:A.depth+3 * k+5 < recursionLimit
 un:A.units+16 * k+200 < cLine
theorem Room.mono {j k:Nat} {A:Around} (r:Room k A) (h:j<=k):Room j A:=⟨r.hd,by have:=r.dp;omega,by have:=r.un;omega⟩
theorem Room.deeper {k:Nat} {A:Around} (r:Room (k+1) A) (env:Env):Room k (A.deeper env) :=
 ⟨r.hd,by have:=r.dp;show A.depth+1+3 * k+5 < _;omega,by have:=r.un;show A.units+3+16 * k+200 < _;omega⟩
theorem Room.depth {k:Nat} {A:Around} (r:Room k A):A.depth < recursionLimit:=by have:=r.dp;omega
theorem Room.units {k:Nat} {A:Around} (r:Room k A):A.units+64 < cLine:=by have:=r.un;omega
def tNil:TA:=fun _ H Q=>Q [] H
def vr2 (ta:TE) (tr:TA):TA:=fun σ H Q=>ta σ H fun x H1=>tr σ H1 fun xs H2=>Q (x::xs) H2
section
variable {X:Cx} {e:Expr} {es:List Expr} {te:TE} {t:TA} {pos:Pos}
theorem vu1:PA X [] tNil:=fun _ _ _ _ H Q I h=>Calls.spliced_nil ⟨[],H,I,.nil,h⟩
theorem vj0 (ha:PE X e te) (hr:PA X es t) (hs:starEach (e::es) X.env=(false,eval e X.env)::starEach es X.env:=by rfl):PA X (e::es) (vr2 te t):=by
 intro pos pins s σ H Q I h;rw [hs]
 show wpAny _ _ (spliced ((false,eval e X.env)::backTo pos (starEach es X.env))) _ _ s
 (refine Calls.spliced_cons (thn (ha pins s σ H _ I h) ?_);rintro u s1 ⟨x,H1,I1,r1,q1⟩)
 (refine thn (hr pos pins s1 σ H1 _ I1 q1) ?_;rintro us s2 ⟨xs,H2,I2,r2,q2⟩;exact ⟨x::xs,H2,I2,.cons r1 r2,q2⟩)
def tTup (t:TA):TE:=fun σ H Q=>t σ H fun xs H1=>xs.length<=sizeLine /\ ∀ p,H1 p=none->Q (.ref p) (upd H1 p (.tup xs))
def tLst (t:TA):TE:=fun σ H Q=>t σ H fun xs H1=>xs.length<=sizeLine /\ ∀ p,H1 p=none->Q (.ref p) (upd H1 p (.lst xs))
theorem vb4 {x1} (h:PA X es t):PE X (.Tuple es x1 pos) (tTup t):=by
 intro pins s σ H Q I hq;refine wpAny_Tuple_spliced (thn (h pos pins s σ H _ I hq) fun us s1 ⟨xs,H1,I1,r,z,q⟩=>⟨by rw [<- r.length];exact z,?_⟩);have hf:H1 s1.heap.objs.size=none:=I1.hok.fresh (Nat.le_refl _);refine ⟨.ref s1.heap.objs.size,upd H1 s1.heap.objs.size (.tup xs),I1.laid (t':=s1.toks) (fun b u e=>Heap.get?_push_of_some _ e) (Nat.le_refl _) ?_,rfl,q _ hf⟩;exact ⟨z,us,r,⟨_,Heap.get?_push_size _ rfl,rfl,⟨_,rfl⟩,rfl⟩⟩
theorem vt7 (h:PA X es t):PE X (.List es pos) (tLst t):=by
 intro pins s σ H Q I hq;refine wpAny_List_spliced (thn (h pos pins s σ H _ I hq) fun us s1 ⟨xs,H1,I1,r,z,q⟩=>⟨by rw [<- r.length];exact z,?_⟩);have hf:H1 s1.heap.objs.size=none:=I1.hok.fresh (Nat.le_refl _);refine ⟨.ref s1.heap.objs.size,upd H1 s1.heap.objs.size (.lst xs),I1.laid (t':=s1.toks) (fun b u e=>Heap.get?_push_of_some _ e) (Nat.le_refl _) ?_,rfl,q _ hf⟩;exact ⟨z,us,0,r,Heap.get?_push_size _ rfl⟩
end
abbrev Sp:=List V->Hp->VK->XK->Prop
abbrev CXT:=List Env->Hp->Shared->XK->Value->Shared->Prop
structure Env0 (P:Program) (w:World) (K:PySem.W.Frag) (mg:Str->Option Value) (base:Heap) (A:Around) (outer:List Env) (s:Shared) (H:Hp):Prop where
 frames:A.frames=some outer
 mod:Mod K mg base
 bs:∀ b o,base.get? b=some o->s.heap.get? b=some o /\ H b=none
 bsz:base.objs.size<=s.heap.objs.size
 funs:s.heap.FunFrames base outer
 frf:∀ b ∈ frs outer,H b=none
 hok:HOk P w H s.heap
 bare:AllBare s.gens
def CE (outer:List Env) (P:Program) (w:World) (H:Hp) (s:Shared) (Q:VK) (u:Value) (s':Shared):Prop :=
 ∃ v H',s'.os=s.os /\ AllBare s'.gens /\ Un (frs outer) [] H H' s.heap s'.heap /\ HOk P w H' s'.heap /\ RelV v u /\ Q v H'
def CR (CX:CXT) (outer:List Env) (P:Program) (w:World) (H:Hp) (s:Shared) (Q:VK) (E:XK) (r:Result) (s':Shared):Prop :=
 match r with
 | .ok (.ret u)=>CE outer P w H s Q u s'
 | .ok _=>False
 | .error e=>CX outer H s E e s'
structure FnOk (P:Program) (w:World) (K:PySem.W.Frag) (mg:Str->Option Value) (base:Heap) (CX:CXT) (k:Nat) (f:Addr) (fd:FuncData) (ps:List Str) (sp:Sp):Prop where
 len:∀ vs H Q E,sp vs H Q E->vs.length=ps.length
 run:∀ (A:Around) (outer:List Env) (s:Shared) (H:Hp) (args:Args) (us:List Value) (vs:List V) (Q:VK) (E:XK),Room k A->Env0 P w K mg base A outer s H->BindsTo s fd args (ps.zip us)->Vals vs us->sp vs H Q E ->
  codeAny (model P w) A (.call (.ref f) args) (CR CX outer P w H s Q E) s
theorem FnOk.mono {P:Program} {w:World} {K:PySem.W.Frag} {mg:Str->Option Value} {base:Heap} {CX:CXT} {j k:Nat} {f:Addr} {fd:FuncData} {ps:List Str} {sp:Sp} (F:FnOk P w K mg base CX j f fd ps sp) (h:j<=k) :
  FnOk P w K mg base CX k f fd ps sp:=⟨F.len,fun A outer s H args us vs Q E hr=>F.run A outer s H args us vs Q E (hr.mono h)⟩
section
variable {X:Cx} {pins:List (Addr × Obj)} {σ:St} {H:Hp} {s s':Shared}
theorem Inv.env0 (I:Inv X pins σ H s):Env0 X.prog X.w X.K X.mg X.base X.A X.stack s H :=
 ⟨I.ok.frames,I.ok.mod,I.bs,Nat.le_trans I.ok.bsz I.sz,I.stack,I.stkFree,I.hok,I.bare⟩
theorem Inv.after {Q:VK} {u:Value} (I:Inv X pins σ H s) (h:CE X.stack X.prog X.w H s Q u s'):EP X pins σ Q u s':=by
 obtain ⟨v,H',os,bare,un,hok,r,q⟩:=h;obtain ⟨hh,g,d,t,os'⟩:=s';obtain rfl:os'=s.os:=os;exact ⟨v,H',I.call (h':=hh) (g':=g) (d':=d) (t':=t) (ch:=[]) un hok bare (fun b z=>absurd z (by simp)),r,q⟩
end
def vr3 (sp:Sp) (dvs:List V) (E:XK) (t:TA):TE:=fun σ H Q=>t σ H fun vs H1=>sp (vs++dvs) H1 Q E
def vq9 (C:Addr) (m:Str) (sp:Sp) (dvs:List V) (E:XK) (ta:TE) (t:TA):TE:=fun σ H Q=>ta σ H fun x H1=>∃ a dx fs,x=.ref a /\ H1 a=some (.ins C dx fs) /\ fs.lookup m=none /\
 t σ H1 fun vs H2=>sp (x::(vs++dvs)) H2 Q E
def Binds (K:PySem.W.Frag) (fd:FuncData) (ps:List Str) (ds:List Value):Prop :=
 ∀ (s:Shared) (us:List Value),K.In s.heap->(us++ds).length=ps.length->BindsTo s fd ⟨us,[]⟩ (ps.zip (us++ds))
theorem Binds.all {K:PySem.W.Frag} {fd:FuncData} {ps:List Str} (h:∀ us:List Value,us.length=ps.length->bindArgs fd ⟨us,[]⟩=pure (ps.zip us)):Binds K fd ps []:=fun s us _ hl=>by
 rw [List.append_nil] at hl ⊢;exact .of_eq (h us hl)
def Passes (CX:CXT) (X:Cx) (E:XK):Prop:=∀ (pins:List (Addr × Obj)) (σ:St) (H:Hp) (s:Shared) (e:Value) (s':Shared),Inv X pins σ H s->CX X.stack H s E e s'->X.xe e s'
section
variable {X:Cx} {CX:CXT} {k:Nat} {f C:Addr} {fd:FuncData} {ps:List Str} {sp:Sp} {dvs:List V} {ds:List Value} {E:XK} {x m:Str} {p pos apos:Pos} {e o:Expr} {es:List Expr} {ta:TE} {t:TA}
theorem vb3 {pins:List (Addr × Obj)} {σ:St} {H:Hp} {s:Shared} {Q:VK} {us:List Value} {vs:List V} (F:FnOk X.prog X.w X.K X.mg X.base CX k f fd ps sp) (hr:Room k X.A) (hb:Binds X.K fd ps ds) (hd:Vals dvs ds) (hx:Passes CX X E)
  (I:Inv X pins σ H s) (r:Vals vs us) (h:sp (vs++dvs) H Q E):wpAny (model X.prog X.w) X.A (call (.ref f) us) (EP X pins σ Q) X.xe s:=by
 have r2:Vals (vs++dvs) (us++ds):=r.append hd;have hl:(us++ds).length=ps.length:=by rw [<- r2.length];exact F.len _ _ _ _ h
 refine wpAny_call (codeAny_mono (F.run X.A X.stack s H ⟨us,[]⟩ (us++ds) (vs++dvs) Q E hr I.env0 (hb s us I.kIn hl) r2 h) fun r s' hq=>?_);cases r with
 | error e=>exact hx pins σ H s e s' I hq
 | ok fl =>
  cases fl with
  | ret u=>exact I.after hq
  | next=>exact False.elim hq
  | brk=>exact False.elim hq
  | cont=>exact False.elim hq
theorem vi9 (F:FnOk X.prog X.w X.K X.mg X.base CX k f fd ps sp) (hr:Room k X.A) (hg:Gl X x) (hm:X.mg x=some (.ref f)) (hk:PySem.W.keepIn X.K (.ref f)=true) (hb:Binds X.K fd ps ds) (hd:Vals dvs ds) (hx:Passes CX X E)
  (ha:PA X (e::es) t) (hdb:(x == ("__debug__" : Str))=false:=by decide) (he:starEach (e::es) X.env=(false,eval e X.env)::starEach es X.env:=by rfl) (hpl:(backTo pos (starEach es X.env)).any (·.1)=false:=by rfl) :
  PE X (.Call (.Name x p) (e::es) [] pos) (vr3 sp dvs E t):=by
 intro pins s σ H Q I h;refine wpAny_Call_Name_kw (vk7 I hg hm ?_ hdb)
 (refine PySem.W.callWith_K (h₀:=X.base) I.ok.mod.kin hk (thn (ha pos pins s σ H _ I h) ?_) he hpl;rintro us s1 ⟨vs,H1,I1,r,q⟩;refine ⟨I1.kIn,?_⟩)
 exact vb3 F hr hb hd hx I1 r q
theorem vi5 {pl:Sem Bool} (he:PE X o ta) (c:Cls X.K C) (hm:Meth X.K C m f) (F:FnOk X.prog X.w X.K X.mg X.base CX k f fd ps sp) (hr:Room k X.A) (hb:Binds X.K fd ps ds) (hd:Vals dvs ds) (hx:Passes CX X E) (ha:PA X (e::es) t)
  (hst:starEach (e::es) X.env=(false,eval e X.env)::starEach es X.env:=by rfl) (hpl:(backTo pos (starEach es X.env)).any (·.1)=false:=by rfl)
  (ht:eval (.Call (.Attribute o m apos) (e::es) [] pos) X.env=(do
   let ov <- eval o X.env
   standAt apos.atName
   let (f,first) <- holding [ov] (getMethod ov m pl)
   callWith pos f first (backTo pos (starEach (e::es) X.env)) (backToKw pos (keywordEach [] X.env))):=by rfl) :
  PE X (.Call (.Attribute o m apos) (e::es) [] pos) (vq9 C m sp dvs E ta t):=by
 intro pins s σ H Q I h
 (refine PySem.W.methodCall_KW (pl:=pl) (thn (he pins s σ H _ I h) ?_) ht;rintro u s1 ⟨x,H1,I1,rx,a,dx,fs,ex,ea,l,q⟩)
 subst ex;obtain rfl:u=Value.ref a:=rx;refine uq0 I1 ea c hm l ?_
 (refine PySem.W.callWith_K (first:=[.ref a]) (h₀:=X.base) I.ok.mod.kin hm.kp (thn (ha pos pins s1 σ H1 _ I1 q) ?_) hst hpl;rintro us s2 ⟨vs,H2,I2,r,q2⟩;refine ⟨I2.kIn,?_⟩)
 exact vb3 (us:=.ref a::us) (vs:=.ref a::vs) F hr hb hd hx I2 (.cons rfl r) q2
structure Mk (K:PySem.W.Frag) (C f:Addr):Prop where
 makes:PySem.W.makesIn K C=true
 init:PySem.W.findIn K (.ref C) "__init__" = some (some (.ref f))
 fn:PySem.W.isFn K (.ref f)=true
 kp:PySem.W.keepIn K (.ref C)=true
end
section
variable {X:Cx} {CX:CXT} {k:Nat} {f C:Addr} {fd:FuncData} {ps ks:List Str} {sp:Sp} {E:XK} {x m:Str} {p pos apos kpos:Pos} {e o:Expr} {es:List Expr} {kws:List Keyword} {te ta:TE} {t tk:TA} {nm:Option Str}
structure KBinds (K:PySem.W.Frag) (fd:FuncData) (ps ks:List Str) (g:List Value->List Value->List Value) (gV:List V->List V->List V):Prop where
 to:∀ (s:Shared) (us ws:List Value),K.In s.heap->(g us ws).length=ps.length->BindsTo s fd ⟨us,ks.zip ws⟩ (ps.zip (g us ws))
 rel:∀ {vs:List V} {us:List Value} {zs:List V} {ws:List Value},Vals vs us->Vals zs ws->Vals (gV vs zs) (g us ws)
variable {g:List Value->List Value->List Value} {gV:List V->List V->List V}
end
structure FnScope (N P:List Str) (sc:Scope):Prop where
 kind:sc.kind=.function
 co:sc.isCoroutine=false
 gen:sc.isGenerator=false
 nd:N.Nodup
 pre:N.take P.length=P
 par:∀ x ∈ P,sc.names.lookup x=some .local \/ sc.names.lookup x=some .cell
 nofree:∀ y ∈ sc.names,y.2 ≠ .free
theorem uh0 {kindOf:Str->Option NameKind} {x:Str}:∀ {binds:List (Str × Value)} {m:Str->Option Value},(∀ v,(x,v) ∉ binds)->bindL kindOf binds m x=m x
 | [],_,_=>rfl
 | (n,v)::r,m,h=>by
  unfold bindL;rw [uh0 fun w hw=>h w (List.mem_cons_of_mem _ hw)];split
  ·have:x ≠ n:=by rintro rfl;exact h v List.mem_cons_self
   simp [this]
  ·rfl
theorem uh2 {kindOf:Str->Option NameKind} {x:Str}:∀ {binds:List (Str × Value)} {m:Str->Option Value},(∀ v,(x,v) ∉ binds)->bindC kindOf binds m x=m x
 | [],_,_=>rfl
 | (n,v)::r,m,h=>by
  unfold bindC;rw [uh2 fun w hw=>h w (List.mem_cons_of_mem _ hw)];split
  ·rfl
  ·have:x ≠ n:=by rintro rfl;exact h v List.mem_cons_self
   simp [this]
theorem uh1 {kindOf:Str->Option NameKind} {x:Str} {v:Value}:∀ {P:List Str} {vs:List Value} {i:Nat} {m:Str->Option Value},P.Nodup->P[i]?=some x->vs[i]?=some v->kindOf x=some .local ->
  bindL kindOf (P.zip vs) m x=some v
 | [],_,_,_,_,h,_,_=>by simp at h
 | _::_,[],_,_,_,_,h,_=>by simp at h
 | p::P,w::vs,0,m,nd,h1,h2,hk=>by
  simp at h1 h2;subst h1;subst h2
  show bindL kindOf ((p,w)::P.zip vs) m p=_
  unfold bindL;rw [uh0 fun v hv=>(List.nodup_cons.mp nd).1 (List.of_mem_zip hv).1,if_pos hk];simp
 | p::P,w::vs,i+1,m,nd,h1,h2,hk=>by
  show bindL kindOf ((p,w)::P.zip vs) m x=_
  unfold bindL;exact uh1 (i:=i) (List.nodup_cons.mp nd).2 (by simpa using h1) (by simpa using h2) hk
theorem uh3 {kindOf:Str->Option NameKind} {x:Str} {v:Value}:∀ {P:List Str} {vs:List Value} {i:Nat} {m:Str->Option Value},P.Nodup->P[i]?=some x->vs[i]?=some v->kindOf x ≠ some .local ->
  bindC kindOf (P.zip vs) m x=some v
 | [],_,_,_,_,h,_,_=>by simp at h
 | _::_,[],_,_,_,_,h,_=>by simp at h
 | p::P,w::vs,0,m,nd,h1,h2,hk=>by
  simp at h1 h2;subst h1;subst h2
  show bindC kindOf ((p,w)::P.zip vs) m p=_
  unfold bindC;rw [uh2 fun v hv=>(List.nodup_cons.mp nd).1 (List.of_mem_zip hv).1,if_neg hk];simp
 | p::P,w::vs,i+1,m,nd,h1,h2,hk=>by
  show bindC kindOf ((p,w)::P.zip vs) m x=_
  unfold bindC;exact uh3 (i:=i) (List.nodup_cons.mp nd).2 (by simpa using h1) (by simpa using h2) hk
def start (N:List Str) (vs:List V):St:=vs.map some++List.replicate (N.length - vs.length) none
def cxOf (CX:CXT) (P:Program) (w:World) (K:PySem.W.Frag) (mg:Str->Option Value) (base:Heap) (N:List Str) (qual:Str) (scope:Scope) (f:Addr) (cd:Value) (A:Around) (outer:List Env) (s:Shared) (H:Hp) (E:XK):Cx where
 prog:=P
 w:=w
 K:=K
 mg:=mg
 base:=base
 A:=A.deeper (envOfC qual scope s.heap.objs.size f cd)
 N:=N
 s₀:=s
 H₀:=H
 env:=envOfC qual scope s.heap.objs.size f cd
 outer:=outer
 stack:=envOfC qual scope s.heap.objs.size f cd::outer
 ex:=[]
 calm:=true
 fn:=fun _=>true
 pn:=[]
 xe:=fun e s'=>wpAny (model P w) (A.deeper (envOfC qual scope s.heap.objs.size f cd)) (leaving (envOfC qual scope s.heap.objs.size f cd) e) (fun _ s''=>CX outer H s E e s'') (fun e' s''=>CX outer H s E e' s'') s'
theorem uo0 {sc:Scope} {n:Nat} {x:Str} (h:sc.names.lookup x=some .cell):∃ c,(cellsFrom n sc.names []).lookup x=some c:=by
 have q:=PySem.W.cellsFrom_some sc.names n [] (.inl h);exact Option.isSome_iff_exists.mp q
theorem ux9 {CX:CXT} {P:Program} {w:World} {K:PySem.W.Frag} {mg:Str->Option Value} {base:Heap} {N ps:List Str} {qual:Str} {scope:Scope} {f:Addr} {cd:Value} {A:Around} {outer:List Env} {s s1:Shared} {H:Hp} {E:XK} {us:List Value} {vs:List V}
  (S:FnScope N ps scope) (hd:A.handled=none) (e0:Env0 P w K mg base A outer s H) (hl:vs.length=ps.length) (r:Vals vs us)
  (x:InCallC s s.heap.objs.size (bindL (envOfC qual scope s.heap.objs.size f cd).kindOf (ps.zip us) fun _=>none) (cellsFrom (s.heap.objs.size+1) scope.names []) (bindC (envOfC qual scope s.heap.objs.size f cd).kindOf (ps.zip us) fun _=>none) s1) :
  Inv (cxOf CX P w K mg base N qual scope f cd A outer s H E) [] (start N vs) H s1:=by
 have hpl:ps.length<=N.length:=by have:=congrArg List.length S.pre;rw [List.length_take] at this;omega
 obtain ⟨h1,tk,rfl,hk⟩:=x.done;have noA:∀ b:Addr,b ∉ (cxOf CX P w K mg base N qual scope f cd A outer s H E).ex:=fun b z=>absurd (show b ∈ ([]:List Addr) from z) (by simp)
 refine ⟨⟨e0.mod,S.kind,rfl,rfl,Nat.le_refl _,fun y z c h1 h2=>?_,fun y hy=>?_,fun y c _ h=>?_,fun _=>hd,Around.frames_deeper e0.frames,.inr ⟨rfl,rfl⟩,fun b z=>absurd z (noA b),e0.bs,e0.bsz,fun b _ _=>noA b,fun b z=>absurd z (noA b),e0.funs,e0.frf⟩,
  rfl,e0.bare,Un.kept hk,⟨_,x.toInCall.ns,fun i y v h1 h2 h3=>?_⟩,fun y c h=>⟨_,x.cell y c h⟩,e0.hok.fresh (Nat.le_refl _),fun y c h=>?_,fun p hp=>absurd (show p ∈ ([]:List (Addr × Obj)) from hp) (by simp),e0.hok.kept hk,?_⟩
 ·exact name_of_addr x.apart (PySem.mem_of_lookup h1) (PySem.mem_of_lookup h2)
 ·have hy:scope.names.lookup y=some .cell \/ scope.names.lookup y=some .free:=hy
  rcases hy with hy | hy
  ·exact uo0 hy
  ·exact absurd rfl (S.nofree _ (PySem.mem_of_lookup hy))
 ·exact Nat.le_of_lt (x.above y c (PySem.mem_of_lookup h))
 ·have hi:i < vs.length:=by
   unfold start at h2
   by_cases hi:i < vs.length
   ·exact hi
   ·rw [List.getElem?_append_right (by simpa using hi)] at h2
    rw [List.getElem?_replicate] at h2;split at h2 <;> cases h2
  have ha:vs[i]?=some v:=by
   unfold start at h2;rw [List.getElem?_append_left (by simpa using hi),List.getElem?_map] at h2;cases e:vs[i]? with
   | none=>rw [e] at h2;cases h2
   | some a=>rw [e] at h2;cases h2;rfl
  obtain ⟨u,hu,rv⟩:=r.get ha;have hp:ps[i]?=some y:=by
   rw [<- S.pre,List.getElem?_take_of_lt (by omega)];exact h1
  have ndP:ps.Nodup:=by rw [<- S.pre];exact S.nd.sublist (List.take_sublist _ _)
  refine ⟨u,rv,?_⟩
  rcases S.par y (List.mem_of_getElem? hp) with k | k
  ·exact .inl ⟨k,uh1 ndP hp hu k⟩
  ·obtain ⟨c,e⟩:=uo0 (n:=s.heap.objs.size+1) k
   refine .inr ⟨.inl k,c,e,?_⟩;have q:=x.cell y c e;rw [uh3 ndP hp hu (by show scope.names.lookup y ≠ _;rw [k];decide)] at q;exact q
 ·exact e0.hok.fresh (Nat.le_of_lt (x.above y c (PySem.mem_of_lookup h)))
 ·unfold start
  show _=N.length
  rw [List.length_append,List.length_map,List.length_replicate];omega
theorem vl6 {CX:CXT} {P:Program} {w:World} {K:PySem.W.Frag} {mg:Str->Option Value} {base:Heap} {k:Nat} {f:Addr} {name qual:Str} {params:Arguments} {body:List Stmt} {scope:Scope} {dV kV doc pm cdv ct oc:Value} {an od:Option Addr}
  {osl:Array (Option Value)} {N ps:List Str} {sp:Sp} (lk:K.lookup f=some ⟨oc,od,.func (PySem.W.fnOf name qual params body scope dV kV doc pm an cdv ct),osl⟩) (hcd:PySem.W.codeIn K cdv qual=true) (S:FnScope N ps scope)
  (len:∀ vs H Q E,sp vs H Q E->vs.length=ps.length)
  (hbody:∀ (A:Around) (outer:List Env) (s:Shared) (H:Hp) (vs:List V) (Q:VK) (E:XK),Room k (A.deeper (envOfC qual scope s.heap.objs.size f cdv))->sp vs H Q E ->
   ∃ t,PSs (cxOf CX P w K mg base N qual scope f cdv A outer s H E) body t /\ t { nx:=fun _ H'=>Q .non H',rt:=Q } (start N vs) H) :
  FnOk P w K mg base CX (k+1) f (PySem.W.fnOf name qual params body scope dV kV doc pm an cdv ct) ps sp:=by
 refine ⟨len,fun A outer s H args us vs Q E hr e0 hb r hsp=>?_⟩;have hl:=len _ _ _ _ hsp;have KX:K.In s.heap:=e0.mod.kin.keeps fun b o e=>(e0.bs b o e).1
 have lim:s.heap.NoLimit:=e0.mod.nolimit.keeps fun b o e=>(e0.bs b o e).1
 have hkind:∀ y ∈ ps.zip us,scope.names.lookup y.1=some .local \/ (scope.names.lookup y.1=some .cell /\ ((cellsFrom (s.heap.objs.size+1) scope.names []).lookup y.1).isSome=true):=fun ⟨n,v⟩ hy=>by
  rcases S.par n (List.of_mem_zip hy).1 with q | q
  ·exact .inl q
  ·exact .inr ⟨q,PySem.W.cellsFrom_some _ _ _ (.inl q)⟩
 refine codeAny_call_function hr.depth (KX _ _ lk) rfl S.co S.gen rfl (PySem.W.codeRec_of KX hcd) (hb _ _ _ _ ?_);refine wpAny_newFunctionEnv_cells S.kind hkind fun env he s1 x=>?_
 subst he;refine ⟨lim.keeps x.toInCall.keep,codeAny_func ?_⟩;obtain ⟨t,ht,hq⟩:=hbody A outer s H vs Q E (hr.deeper _) hsp;have I:Inv (cxOf CX P w K mg base N qual scope f cdv A outer s H E) [] (start N vs) H s1:=ux9 S hr.hd e0 hl r x;refine wpAny_mono (ht [] s1 (start N vs) H _ I hq) (fun fl s' hs=>?_) fun e s' hs=>hs
 have fin:∀ {σ':St} {H':Hp} {v:V} {u:Value},Inv (cxOf CX P w K mg base N qual scope f cdv A outer s H E) [] σ' H' s'->RelV v u->Q v H'->CE outer P w H s Q u s' :=
  fun {σ' H' v u} J rv q=>⟨v,H',J.os,J.bare,J.base,J.hok,rv,q⟩
 cases fl with
 | ret u =>
  obtain ⟨v,σ',H',J,rv,q⟩:=hs;exact fin J rv q
 | next =>
  obtain ⟨σ',H',J,q⟩:=hs;exact fin (v:=V.non) (u:=Value.none) J rfl q
 | brk =>
  obtain ⟨_,_,_,q⟩:=hs;exact False.elim q
 | cont =>
  obtain ⟨_,_,_,q⟩:=hs;exact False.elim q
section
variable {X:Cx} {x:Str} {p pos:Pos} {e:Expr} {es:List Expr} {t:TA} {id T:String} {r:List V->Hp->VK->Prop}
def tCB (r:List V->Hp->VK->Prop) (t:TA):TE:=fun σ H Q=>t σ H fun vs H1=>r vs H1 Q
theorem v42 (hc:CallR X (.builtin id) r) (hg:Gl X x) (hm:X.mg x=none) (hv:bootBuiltins x=some (.builtin id)) (ha:PA X (e::es) t) (hn:x ≠ "__name__" := by decide) (hdb:(x == ("__debug__" : Str))=false:=by decide)
  (he:starEach (e::es) X.env=(false,eval e X.env)::starEach es X.env:=by rfl) (hpl:(backTo pos (starEach es X.env)).any (·.1)=false:=by rfl):PE X (.Call (.Name x p) (e::es) [] pos) (tCB r t):=by
 intro pins s σ H Q I h;refine wpAny_Call_Name_kw (u86 I hg hm hv ?_ hn hdb)
 (refine PyProof.Rows.callWith_builtin1 (thn (ha pos pins s σ H _ I h) ?_) he hpl;rintro us s1 ⟨vs,H1,I1,r1,q1⟩;exact hc pins s1 σ H1 vs us Q I1 r1 q1)
theorem uu1 (hc:CallR X (.type T) r) (hg:Gl X x) (hm:X.mg x=none) (hv:bootBuiltins x=some (.type T)) (ha:PA X (e::es) t) (hn:x ≠ "__name__" := by decide) (hdb:(x == ("__debug__" : Str))=false:=by decide)
  (he:starEach (e::es) X.env=(false,eval e X.env)::starEach es X.env:=by rfl) (hpl:(backTo pos (starEach es X.env)).any (·.1)=false:=by rfl):PE X (.Call (.Name x p) (e::es) [] pos) (tCB r t):=by
 intro pins s σ H Q I h;refine wpAny_Call_Name_kw (u86 I hg hm hv ?_ hn hdb)
 (refine PyProof.Rows.callWith_type1 (thn (ha pos pins s σ H _ I h) ?_) he hpl;rintro us s1 ⟨vs,H1,I1,r1,q1⟩;exact hc pins s1 σ H1 vs us Q I1 r1 q1)
end
section
variable {κ:Type} [DecidableEq κ]
def valV (kvs:List (κ × V)) (k:κ):Option V:=(kvs.find? fun kv=>decide (kv.1=k)).map (·.2)
def putK (kvs:List (κ × V)) (k:κ) (v:V):List (κ × V) :=
 if (kvs.any fun kv=>decide (kv.1=k))=true then kvs.map (fun kv=>if kv.1=k then (kv.1,v) else kv) else kvs++[(k,v)]
theorem u71 {p:κ × V} {r:List (κ × V)} {k:κ} (e:p.1=k):valV (p::r) k=some p.2:=by simp [valV,List.find?_cons,e]
theorem u72 {p:κ × V} {r:List (κ × V)} {k:κ} (e:¬ p.1=k):valV (p::r) k=valV r k:=by simp [valV,List.find?_cons,e]
theorem uk3 (k:κ):∀ kvs:List (κ × V),(kvs.any fun kv=>decide (kv.1=k))=(valV kvs k).isSome
 | []=>rfl
 | p::r=>by
  rw [List.any_cons]
  by_cases e:p.1=k
  ·simp only [u71 e,decide_eq_true e,Bool.true_or,Option.isSome_some]
  ·rw [u72 e,decide_eq_false e,Bool.false_or];exact uk3 k r
theorem u67 (kvs:List (κ × V)) (k:κ) (v:V):(putK kvs k v).length<=kvs.length+1:=by
 unfold putK;split
 ·rw [List.length_map];omega
 ·rw [List.length_append,List.length_cons,List.length_nil];omega
theorem RelO.isSome_eq {o:Option V} {u:Option Value} (r:RelO o u):o.isSome=u.isSome:=by
 cases o with
 | none=>cases u with
  | none=>rfl
  | some _=>exact (show False from r).elim
 | some _=>cases u with
  | none=>exact (show False from r).elim
  | some _=>rfl
theorem RelO.getD {o:Option V} {u:Option Value} {d:V} {d':Value} (r:RelO o u) (rd:RelV d d'):RelV (o.getD d) (u.getD d'):=by
 cases o with
 | none=>cases u with
  | none=>exact rd
  | some _=>exact (show False from r).elim
 | some _=>cases u with
  | none=>exact (show False from r).elim
  | some _=>exact r
theorem KV.val {kvs:List (κ × V)} {vs:List (κ × Value)} (r:KV kvs vs) (k:κ):RelO (valV kvs k) (valueAt vs k):=by
 unfold KV at r
 induction r with
 | nil=>exact True.intro
 | @cons p q ps qs h t ih =>
  obtain ⟨h1,h2⟩:=h
  by_cases e:p.1=k
  ·have e':q.1=k:=h1.symm.trans e
   have b:valueAt (q::qs) k=some q.2:=by simp [valueAt,List.find?_cons,e']
   rw [u71 e,b];exact h2
  ·have e':¬ q.1=k:=fun z=>e (h1.trans z)
   have b:valueAt (q::qs) k=valueAt qs k:=by simp [valueAt,List.find?_cons,e']
   rw [u72 e,b];exact ih
theorem KV.any {kvs:List (κ × V)} {vs:List (κ × Value)} (r:KV kvs vs) (k:κ):(kvs.any fun kv=>decide (kv.1=k))=vs.any fun kv=>decide (kv.1=k):=by
 unfold KV at r
 induction r with
 | nil=>rfl
 | cons h t ih=>rw [List.any_cons,List.any_cons,ih,h.1]
theorem KV.repl {kvs:List (κ × V)} {vs:List (κ × Value)} (r:KV kvs vs) (k:κ) {y:V} {u:Value} (ry:RelV y u) :
  KV (kvs.map fun kv=>if kv.1=k then (kv.1,y) else kv) (vs.map fun kv=>if kv.1=k then (kv.1,u) else kv):=by
 unfold KV at r ⊢
 induction r with
 | nil=>exact .nil
 | @cons p q ps qs h t ih =>
  rw [List.map_cons,List.map_cons];refine .cons ?_ ih;obtain ⟨h1,h2⟩:=h
  by_cases e:p.1=k
  ·rw [if_pos e,if_pos (h1.symm.trans e)];exact ⟨h1,ry⟩
  ·rw [if_neg e,if_neg (fun z=>e (h1.trans z))];exact ⟨h1,h2⟩
theorem KV.put {kvs:List (κ × V)} {vs:List (κ × Value)} (r:KV kvs vs) (k:κ) {y:V} {u:Value} (ry:RelV y u):KV (putK kvs k y) (stored vs k u):=by
 unfold putK stored;rw [r.any k]
 by_cases e:(vs.any fun kv=>decide (kv.1=k))=true
 ·rw [if_pos e,if_pos e];exact r.repl k ry
 ·rw [if_neg e,if_neg e];exact Paired.snoc r ⟨rfl,ry⟩
theorem KV.keys {kvs:List (κ × V)} {vs:List (κ × Value)} (r:KV kvs vs):kvs.map (·.1)=vs.map (·.1):=by
 unfold KV at r
 induction r with
 | nil=>rfl
 | cons h t ih=>rw [List.map_cons,List.map_cons,ih,h.1]
theorem KV.length {kvs:List (κ × V)} {vs:List (κ × Value)} (r:KV kvs vs):kvs.length=vs.length:=Paired.length r
end
theorem ui9 {P:Program} {w:World} {k:Key} {u:Value} (r:RelV (kV k) u):(u17 P w).is k u=true:=by
 cases k with
 | inl i=>obtain ⟨t,e⟩:=(show ∃ t,u=Value.int i t from r);subst e;exact ui3 P w i t
 | inr x=>obtain ⟨t,e⟩:=(show ∃ t,u=Value.str x t from r);subst e;exact ui2 P w x t
theorem ua5 {P:Program} {w:World}:∀ {ks:List Key} {us:List Value},Vals (ks.map kV) us->ItemsAre (u17 P w) ks us
 | [],_,r=>by rw [List.map_nil] at r;cases r;exact .nil
 | k::ks,_,r=>by
  rw [List.map_cons] at r;cases r with
  | cons h t=>exact .cons (ui9 h) (ua5 t)
abbrev KT (H:Hp):List (List Key × V)->List (List Key × Addr × Value)->Prop:=Paired fun p q=>p.1=q.1 /\ H q.2.1=some (.tup (p.1.map kV)) /\ RelV p.2 q.2.2
theorem KT.val {H:Hp} {kvs:List (List Key × V)} {xs:List (List Key × Addr × Value)} (r:KT H kvs xs) (k:List Key):RelO (valV kvs k) ((atKey xs k).map (·.2)):=by
 induction r with
 | nil=>exact True.intro
 | @cons p q ps qs h t ih =>
  obtain ⟨h1,_,h2⟩:=h
  by_cases e:p.1=k
  ·have e':q.1=k:=h1.symm.trans e
   have b:atKey (q::qs) k=some q.2:=by simp [atKey,List.find?_cons,e']
   rw [u71 e,b];exact h2
  ·have e':¬ q.1=k:=fun z=>e (h1.trans z)
   have b:atKey (q::qs) k=atKey qs k:=by simp [atKey,List.find?_cons,e']
   rw [u72 e,b];exact ih
theorem KT.repl {H:Hp} {kvs:List (List Key × V)} {xs:List (List Key × Addr × Value)} (r:KT H kvs xs) (k:List Key) {y:V} {u:Value} (ry:RelV y u) :
  KT H (kvs.map fun kv=>if kv.1=k then (kv.1,y) else kv) (xs.map (putAt k u)):=by
 induction r with
 | nil=>exact .nil
 | @cons p q ps qs h t ih =>
  rw [List.map_cons,List.map_cons];refine .cons ?_ ih;obtain ⟨h1,h2,h3⟩:=h;unfold putAt
  by_cases e:p.1=k
  ·rw [if_pos e,if_pos (h1.symm.trans e)];exact ⟨h1,h2,ry⟩
  ·rw [if_neg e,if_neg (fun z=>e (h1.trans z))];exact ⟨h1,h2,h3⟩
theorem KT.put {H:Hp} {kvs:List (List Key × V)} {xs:List (List Key × Addr × Value)} (r:KT H kvs xs) (k:List Key) {b:Addr} {y:V} {u:Value} (hb:H b=some (.tup (k.map kV))) (ry:RelV y u) :
  KT H (putK kvs k y) (storedH xs k b u):=by
 have e:(kvs.any fun kv=>decide (kv.1=k))=(atKey xs k).isSome:=by
  rw [uk3,(r.val k).isSome_eq,Option.isSome_map]
 unfold putK storedH;rw [e]
 by_cases q:(atKey xs k).isSome=true
 ·rw [if_pos q,if_pos q];exact r.repl k ry
 ·rw [if_neg q,if_neg q];exact Paired.snoc r ⟨rfl,hb,ry⟩
theorem KT.keeps {H H':Hp} {kvs:List (List Key × V)} {xs:List (List Key × Addr × Value)} (r:KT H kvs xs) (ht:∀ b ys,H b=some (.tup ys)->H' b=some (.tup ys)):KT H' kvs xs :=
 Paired.mapP r fun _ _ z=>⟨z.1,ht _ _ z.2.1,z.2.2⟩
section
variable {P:Program} {w:World} {H:Hp} {h:Heap} {a:Addr}
theorem vr7 {u:HO} (ok:HOk P w H h) (e:Rd H a u):ObjOk P w H h a u:=e.ok ok
theorem uq2 {kvs:List (Key × V)} (ok:HOk P w H h) (e:Rd H a (.dK kvs)):kvs.length<=sizeLine /\ (a == sysModules)=false /\ ∃ vs,KV kvs vs /\ h.DictOf (u17 P w) a vs :=
 show ObjOk P w H h a (.dK kvs) from vr7 ok e
theorem v74 {kvs:List (Key × V)} (ok:HOk P w H h) (e:H a=some (.dK kvs)):kvs.length<=sizeLine /\ (a == sysModules)=false /\ ∃ vs,KV kvs vs /\ h.DictOf (u17 P w) a vs:=uq2 ok (.inl e)
theorem ug0 {ks:List Key} (ok:HOk P w H h) (e:H a=some (.tup (ks.map kV))):(tupleKind (u17 P w)).is h ks a:=by
 obtain ⟨_,its,r,o,h1,h2,⟨n,h3⟩,_⟩:=(show ObjOk P w H h a (.tup (ks.map kV)) from ok a _ e);exact ⟨o,its.toArray,n,h1,h2,h3,by simpa using ua5 r⟩
theorem ud8 {kvs:List (List Key × V)} (ok:HOk P w H h) (e:Rd H a (.dT kvs)):kvs.length<=sizeLine /\ (a == sysModules)=false /\
  ∃ xs,KT H kvs xs /\ h.DictOfH (tupleKind (u17 P w)) a xs:=by
 obtain ⟨z,y,xs,r,o,es,ep,h1,h2,h3,h4,h5⟩:=(show ObjOk P w H h a (.dT kvs) from vr7 ok e);refine ⟨z,y,xs,r,o,es,ep,h1,h2,h3,h4,fun x hx=>?_,h5⟩;have all:∀ {l:List (List Key × V)} {m:List (List Key × Addr × Value)},KT H l m->∀ x ∈ m,(tupleKind (u17 P w)).is h x.1 x.2.1:=by
  intro l m q
  induction q with
  | nil=>intro x hx;exact nomatch hx
  | @cons p q ps qs hq t ih =>
   intro x hx
   rcases List.mem_cons.mp hx with e | hx
   ·subst e
    exact ug0 ok (by rw [<- hq.1];exact hq.2.1)
   ·exact ih x hx
 exact all r x hx
theorem w57 {kvs:List (List Key × V)} (ok:HOk P w H h) (e:H a=some (.dT kvs)):kvs.length<=sizeLine /\ (a == sysModules)=false /\
  ∃ xs,KT H kvs xs /\ h.DictOfH (tupleKind (u17 P w)) a xs:=ud8 ok (.inl e)
end
def DGet (H:Hp) (a:Addr) (y:V) (r:Option V):Prop :=
 (∃ kvs k,Rd H a (.dK kvs) /\ y=kV k /\ r=valV kvs k) \/ ∃ kvs k b,Rd H a (.dT kvs) /\ y=.ref b /\ H b=some (.tup (k.map kV)) /\ r=valV kvs k
def DPut (H:Hp) (a:Addr) (y v:V) (H':Hp):Prop :=
 (∃ kvs k,H a=some (.dK kvs) /\ y=kV k /\ kvs.length < sizeLine /\ H'=upd H a (.dK (putK kvs k v))) \/
 ∃ kvs k b,H a=some (.dT kvs) /\ y=.ref b /\ H b=some (.tup (k.map kV)) /\ kvs.length < sizeLine /\ H'=upd H a (.dT (putK kvs k v))
theorem DGet.k {H:Hp} {a:Addr} {kvs:List (Key × V)} {k:Key} (e:H a=some (.dK kvs)):DGet H a (kV k) (valV kvs k):=.inl ⟨kvs,k,.inl e,rfl,rfl⟩
theorem DGet.t {H:Hp} {a b:Addr} {kvs:List (List Key × V)} {k:List Key} (e:H a=some (.dT kvs)) (eb:H b=some (.tup (k.map kV))):DGet H a (.ref b) (valV kvs k):=.inr ⟨kvs,k,b,.inl e,rfl,eb,rfl⟩
theorem DPut.k {H:Hp} {a:Addr} {kvs:List (Key × V)} {k:Key} {v:V} (e:H a=some (.dK kvs)) (hl:kvs.length < sizeLine):DPut H a (kV k) v (upd H a (.dK (putK kvs k v))):=.inl ⟨kvs,k,e,rfl,hl,rfl⟩
theorem DPut.t {H:Hp} {a b:Addr} {kvs:List (List Key × V)} {k:List Key} {v:V} (e:H a=some (.dT kvs)) (eb:H b=some (.tup (k.map kV))) (hl:kvs.length < sizeLine) :
  DPut H a (.ref b) v (upd H a (.dT (putK kvs k v))):=.inr ⟨kvs,k,b,e,rfl,eb,hl,rfl⟩
section
variable {X:Cx} {pins:List (Addr × Obj)} {σ:St} {H:Hp} {s:Shared} {a:Addr} {y v:V} {u r:Value} {o:Option V} {A:Around} {E:Value->Shared->Prop}
theorem Inv.big (I:Inv X pins σ H s):sysModules < s.heap.objs.size:=by
 have h:mainGlobals < s.heap.objs.size:=(I.mod.glob.keeps I.bk).lt;exact Nat.lt_trans (by decide) h
theorem uz3 {Q:Value->Shared->Prop} (hu:A.units+1 < cLine) (I:Inv X pins σ H s) (g:DGet H a y (some v)) (ry:RelV y u) (h:∀ w' s',Inv X pins σ H s'->RelV v w'->Q w' s') :
  wpAny (model X.prog X.w) A (getItem (.ref a) u) Q E s:=by
 rcases g with ⟨kvs,k,e,ey,l⟩ | ⟨kvs,k,b,e,ey,eb,l⟩
 ·subst ey
  obtain ⟨z,hd,vs,rel,dd⟩:=uq2 I.hok e;obtain ⟨w',hw,rw'⟩:=RelO.some_of (v:=v) (o:=valueAt vs k) (by rw [l];exact rel.val k);exact wpAny_getItem_of (ui9 ry) dd.mapOf hw (h w' _ (I.tok _) rw')
 ·subst ey
  cases (show u=Value.ref b from ry);obtain ⟨z,hd,xs,rel,dd⟩:=ud8 I.hok e;obtain ⟨w',hw,rw'⟩:=RelO.some_of (v:=v) (o:=(atKey xs k).map (·.2)) (by rw [l];exact rel.val k);obtain ⟨p,hp,hp2⟩:=Option.map_eq_some_iff.mp hw;refine wpAny_getItem_heap (tupleKind_room_in1 hu) (ug0 I.hok eb) dd hp ?_;rw [hp2];exact h w' _ (I.tok _) rw'
theorem vm3 {Q:Value->Shared->Prop} (hu:A.units+1 < cLine) (I:Inv X pins σ H s) (g:DGet H a y o) (ry:RelV y u) (h:∀ s',Inv X pins σ H s'->Q (.bool (!o.isSome)) s') :
  wpAny (model X.prog X.w) A (compareOp .NotIn u (.ref a)) Q E s:=by
 rcases g with ⟨kvs,k,e,ey,l⟩ | ⟨kvs,k,b,e,ey,eb,l⟩
 ·subst ey
  obtain ⟨z,hd,vs,rel,dd⟩:=uq2 I.hok e;refine wpAny_notIn_of (ui9 ry) hd dd.mapOf ?_;rw [<- (rel.val k).isSome_eq,<- l];exact h _ (I.tok _)
 ·subst ey
  cases (show u=Value.ref b from ry);obtain ⟨z,hd,xs,rel,dd⟩:=ud8 I.hok e;refine wpAny_notIn_heap (tupleKind_room_in1 hu) (ug0 I.hok eb) hd dd ?_;have q:=(rel.val k).isSome_eq;rw [Option.isSome_map] at q;rw [<- q,<- l];exact h _ (I.tok _)
theorem ue0 {h':Heap} {t':Nat} {ob:HO} (I:Inv X pins σ H s) (mu:Mut (H a)) (hs:Heap.SameBut a s.heap h') (he:∃ q,h'.get? a=some q) (new:ObjOk X.prog X.w (upd H a ob) h' a ob) :
  Inv X pins σ (upd H a ob) { s with heap:=h',toks:=t' } :=
 I.write (x:=a) (e:=a) mu (.inl rfl) (fun b q hb z=>(hs.2 b hb).trans z) he new
theorem vc7 {P:Program} {w:World} {H':Hp} {h':Heap} {kvs:List (Key × V)} {vs:List (Key × Value)} (z:kvs.length<=sizeLine) (hd:(a == sysModules)=false) (rel:KV kvs vs) (dd:h'.DictOf (u17 P w) a vs) :
  ObjOk P w H' h' a (.dK kvs):=⟨z,hd,vs,rel,dd⟩
theorem uz2 {H':Hp} {Q:Unit->Shared->Prop} (hu:A.units+1 < cLine) (I:Inv X pins σ H s) (g:DPut H a y v H') (ry:RelV y u) (rv:RelV v r) (h:∀ s',Inv X pins σ H' s'->Q () s') :
  wpAny (model X.prog X.w) A (setItem (.ref a) u r) Q E s:=by
 rcases g with ⟨kvs,k,e,ey,l,eH⟩ | ⟨kvs,k,b,e,ey,eb,l,eH⟩
 ·subst ey eH
  obtain ⟨z,hd,vs,rel,dd⟩:=v74 I.hok e;have hz:vs.length<=sizeLine:=by rw [<- rel.length];exact z
  have hl:(putK kvs k v).length<=sizeLine:=by have:=u67 kvs k v;omega
  refine wpAny_setItem_pairs (hsz:=hz) (ui9 ry) dd fun h' dd' hs=>h _ ?_
  have he:∃ q,h'.get? a=some q:=let ⟨q,_,_,hq,_⟩:=dd';⟨q,hq⟩;exact ue0 I (by rw [e];exact True.intro) hs he (vc7 hl hd (rel.put k rv) dd')
 ·subst ey eH
  cases (show u=Value.ref b from ry);obtain ⟨z,hd,xs,rel,dd⟩:=w57 I.hok e;have hz:xs.length<=sizeLine:=by rw [<- Paired.length rel];exact z
  have hl:(putK kvs k v).length<=sizeLine:=by have:=u67 kvs k v;omega
  refine wpAny_setItem_heap (hsz:=hz) (tupleKind_room_in1 hu) (ug0 I.hok eb) dd fun h' dd' hs=>h _ ?_
  obtain ⟨q,es,ep,hq,h2,h3,h4,_,h5⟩:=dd';refine ue0 I (by rw [e];exact True.intro) hs ⟨q,hq⟩ ⟨hl,hd,_,(rel.put k eb rv).keeps fun c ys ec=>?_,q,es,ep,hq,h2,h3,h4,h5⟩;rw [u12 (w54 ec e (fun z=>nomatch z))];exact ec
end
def NoSl (i:Expr):Prop:=∀ ov iv,subscripted i false ov iv=operate [ov,iv] (getItem ov iv)
theorem uh7 {prog:Program} {w:World} {A:Around} {E:Value->Shared->Prop} {s:Shared} {env:Env} {value slice:Expr} {pos:Pos} {T id:String} {Q:Value->Shared->Prop}
  (hl:typeLookup (.type T) "__getitem__" = pure (some (.builtin id))) (hs:NoSl slice)
  (h:wpAny (model prog w) A (eval value env) (fun o s₁=>wpAny (model prog w) A (eval slice env) (fun i s₂=>s₂.TypeIs o T /\ wpAny (model prog w) A (getItem o i) Q E s₂) E s₁) E s) :
  wpAny (model prog w) A (eval (.Subscript value slice pos) env) Q E s:=by
 refine Subscript_ (wpAny_mono h (fun o s₁ h₁=>wpAny_mono h₁ (fun i s₂ h₂=>?_) fun _ _ x=>x) fun _ _ x=>x);obtain ⟨hT,h₂⟩:=h₂;unfold subscriptTail;refine wpAny_bind ?_;rw [getitemInPython_of_ne hT.not_modules];refine wpAny_bind (wpAny_specialOf hT hl ?_);have fin:wpAny (model prog w) A (subscripted slice false o i) (fun r s₃=>wpAny (model prog w) A (letTemporaryGo value o r >>= fun _=>pure r) Q E s₃) E s₂:=by
  rw [hs o i];exact wpAny_operating (wpAny_mono h₂ (fun r s₃ h₃=>wpAny_bind (wpAny_letTemporaryGo (wpAny_pure h₃))) fun _ _ x=>x)
 first
  | exact wpAny_pure (wpAny_bind fin)
  | exact wpAny_bind (wpAny_pure (wpAny_bind fin))
  | exact wpAny_bind fin
theorem uj3 {X:Cx} {pins:List (Addr × Obj)} {σ:St} {H:Hp} {s:Shared} {a:Addr} {y:V} {o:Option V} (I:Inv X pins σ H s) (g:DGet H a y o):s.TypeIs (.ref a) "dict" := by
 rcases g with ⟨kvs,k,e,_,_⟩ | ⟨kvs,k,b,e,_,_,_⟩
 ·obtain ⟨_,_,vs,_,dd⟩:=uq2 I.hok e
  exact dd.typeIs
 ·obtain ⟨_,_,xs,_,dd⟩:=ud8 I.hok e
  exact dd.typeIs
def ve7 (td ty:TE):TE:=fun σ H Q=>td σ H fun x H1=>ty σ H1 fun y H2=>∃ a v,x=.ref a /\ DGet H2 a y (some v) /\ Q v H2
def w39 (td ty tv:TE):TS:=fun D σ H=>tv σ H fun v H1=>td σ H1 fun x H2=>ty σ H2 fun y H3=>∃ a H4,x=.ref a /\ DPut H3 a y v H4 /\ D.nx σ H4
section
variable {X:Cx} {o i e value:Expr} {pos pos' tpos:Pos} {td ty tv:TE}
theorem uu0 (hu:X.A.units+1 < cLine) (ho:PE X o td) (hi:PE X i ty) (hs:NoSl i):PE X (.Subscript o i pos) (ve7 td ty):=by
 intro pins s σ H Q I h
 (refine uh7 PySem.F.slot_dict_getitem.lookup hs (thn (ho pins s σ H _ I h) ?_);rintro u s1 ⟨x,H1,I1,rx,q1⟩;refine thn (hi pins s1 σ H1 _ I1 q1) ?_;rintro iv s2 ⟨y,H2,I2,ry,a,v,ex,g,q2⟩)
 subst ex;obtain rfl:u=Value.ref a:=rx;exact ⟨uj3 I2 g,uz3 hu I2 g ry fun w' s3 I3 rw'=>⟨v,H2,I3,rw',q2⟩⟩
theorem ut3 (hu:X.A.units+1 < cLine) (ho:PE X o td) (hi:PE X i ty) (hv:PE X value tv) (hs:swapsWith value (some (.Subscript o i pos')) pos.line X.env=pure false) :
  PS X (.Assign [.Subscript o i pos'] value pos) (w39 td ty tv):=by
 intro pins s σ H D I h
 (refine wpAny_Assign_Subscript (thn (hv pins s σ H _ I h) ?_) hs;rintro r s1 ⟨v,H1,I1,rv,q1⟩;refine thn (ho pins s1 σ H1 _ I1 q1) ?_;rintro u s2 ⟨x,H2,I2,rx,q2⟩;refine thn (hi pins s2 σ H2 _ I2 q2) ?_;rintro iv s3 ⟨y,H3,I3,ry,a,H4,ex,g,q3⟩)
 subst ex;obtain rfl:u=Value.ref a:=rx;exact uz2 hu I3 g ry rv fun s4 I4=>⟨σ,H4,I4,q3⟩
end
theorem v75 {P:Program} {w:World} {H:Hp} (h:Heap) (hb:sysModules < h.objs.size):ObjOk P w H (h.push { cls:=.type "dict",data:=.dict #[] }) h.objs.size (.dK []) :=
 ⟨Nat.zero_le _,beq_eq_false_iff_ne.mpr (Ne.symm (Nat.ne_of_lt hb)),[],.nil,Heap.DictOf.new h⟩
theorem v73 {P:Program} {w:World} {H:Hp} (h:Heap) (hb:sysModules < h.objs.size):ObjOk P w H (h.push { cls:=.type "dict",data:=.dict #[] }) h.objs.size (.dT []) :=
 ⟨Nat.zero_le _,beq_eq_false_iff_ne.mpr (Ne.symm (Nat.ne_of_lt hb)),[],.nil,_,#[],0,Heap.get?_push_size _ rfl,⟨rfl,rfl,rfl⟩,rfl,rfl,List.nodup_nil⟩
def vr1:TE:=fun _ H Q=>∀ p,H p=none->Q (.ref p) (upd H p (.dT []))
section
variable {X:Cx} {pos:Pos}
theorem v39:PE X (.Dict [] [] pos) vr1:=fun pins s σ H Q I h =>
 wpAny_Dict_empty ⟨.ref s.heap.objs.size,_,I.laid (a:=s.heap.objs.size) (o:=.dT []) (t':=s.toks) (fun _ _ q=>Heap.get?_push_of_some _ q) (Nat.le_refl _) (v73 s.heap I.big),rfl,h _ (I.hok.fresh (Nat.le_refl _))⟩
end
def ur8:List (TE × TE)->St->Hp->(List (V × V)->Hp->Prop)->Prop
 | [],_,H,Q=>Q [] H
 | (tk,tv)::r,σ,H,Q=>tk σ H fun x H1=>tv σ H1 fun y H2=>ur8 r σ H2 fun ps H3=>Q ((x,y)::ps) H3
abbrev VV:List (V × V)->List (Value × Value)->Prop:=Paired fun p q=>RelV p.1 q.1 /\ RelV p.2 q.2
def PPs (X:Cx) (pos:Pos) (keys:List (Option Expr)) (values:List Expr) (trs:List (TE × TE)):Prop :=
 ∀ (pins:List (Addr × Obj)) (s:Shared) (σ:St) (H:Hp) (Q:List (V × V)->Hp->Prop),Inv X pins σ H s->ur8 trs σ H Q ->
  wpAny (model X.prog X.w) X.A (evalPairs (pairTrees keys values X.env pos)) (fun vs s'=>∃ ps H',Inv X pins σ H' s' /\ VV ps vs /\ Q ps H') X.xe s
theorem vi1 {X:Cx} {pos:Pos}:PPs X pos [] [] []:=fun pins s σ H Q I h=>pairTrees_nil_walk ⟨[],H,I,.nil,h⟩
theorem v32 {X:Cx} {pos:Pos} {k v:Expr} {ks:List (Option Expr)} {vs:List Expr} {tk tv:TE} {trs:List (TE × TE)} (hk:PE X k tk) (hv:PE X v tv) (hr:PPs X pos ks vs trs) :
  PPs X pos (some k::ks) (v::vs) ((tk,tv)::trs):=fun pins s σ H Q I h =>
 pairTrees_cons_walk (thn (hk pins s σ H _ I h) fun u s1 ⟨x,H1,I1,rx,q1⟩=>thn (hv pins s1 σ H1 _ I1 q1) fun w2 s2 ⟨y,H2,I2,ry,q2⟩ =>
  thn (hr pins s2 σ H2 _ I2 q2) fun ws s3 ⟨ps,H3,I3,rel,q3⟩=>⟨(x,y)::ps,H3,I3,.cons ⟨rx,ry⟩ rel,q3⟩)
def uf8 (kvs more:List (Key × V)):List (Key × V):=more.foldl (fun acc kv=>putK acc kv.1 kv.2) kvs
theorem KV.merge:∀ {more:List (Key × V)} {rs:List (Key × Value)} {kvs:List (Key × V)} {vs:List (Key × Value)},KV more rs->KV kvs vs->KV (uf8 kvs more) (merged vs rs):=by
 intro more rs kvs vs r;unfold KV at r
 induction r generalizing kvs vs with
 | nil=>intro q;exact q
 | @cons p q ps qs h t ih =>
  intro r0;have e:KV (putK kvs p.1 p.2) (stored vs q.1 q.2):=by
   have:=r0.put p.1 h.2;rw [<- h.1];exact this
  exact ih e
theorem u74:∀ (more kvs:List (Key × V)),(uf8 kvs more).length<=kvs.length+more.length
 | [],kvs=>by show kvs.length<=kvs.length+0;omega
 | p::r,kvs=>by
  have h1:=u74 r (putK kvs p.1 p.2);have h2:=u67 kvs p.1 p.2
  show (uf8 (putK kvs p.1 p.2) r).length<=_
  rw [List.length_cons];omega
theorem uc5 {P:Program} {w:World}:∀ {kvs:List (Key × V)} {ws:List (Value × Value)},VV (kvs.map fun kv=>(kV kv.1,kv.2)) ws->∃ rs,Carries (u17 P w) ws rs /\ KV kvs rs
 | [],_,r=>by rw [List.map_nil] at r;cases r;exact ⟨[],True.intro,.nil⟩
 | p::kvs,_,r=>by
  rw [List.map_cons] at r;cases r with
  | @cons a b as bs h t =>
   obtain ⟨rs,c,q⟩:=uc5 (P:=P) (w:=w) t;obtain ⟨b1,b2⟩:=b;exact ⟨(p.1,b2)::rs,⟨ui9 h.1,rfl,c⟩,.cons ⟨rfl,h.2⟩ q⟩
def w37 (trs:List (TE × TE)):TE:=fun σ H Q=>∀ p,H p=none->ur8 trs σ (upd H p (.dK [])) fun ps H2=>H2 p=some (.dK []) /\ ∃ kvs:List (Key × V),ps=kvs.map (fun kv=>(kV kv.1,kv.2)) /\ kvs.length<=15 /\ Q (.ref p) (upd H2 p (.dK (uf8 [] kvs)))
theorem vi6 {X:Cx} {pos:Pos} {keys:List (Option Expr)} {values:List Expr} {trs:List (TE × TE)} (h:PPs X pos keys values trs) (hall:keys.all (·.isSome)=true) (hl:keys.length=values.length) (h0:keys ≠ [])
  (h15:keys.length<=15):PE X (.Dict keys values pos) (w37 trs):=by
 intro pins s σ H Q I q;have hn:=I.hok.fresh (Nat.le_refl s.heap.objs.size);have I1:=I.laid (a:=s.heap.objs.size) (o:=.dK []) (h':=s.heap.push { cls:=.type "dict",data:=.dict #[] }) (t':=s.toks) (fun _ _ q=>Heap.get?_push_of_some _ q) (Nat.le_refl _) (v75 s.heap I.big)
 (refine wpAny_Dict_walk (knd:=u17 X.prog X.w) hall hl h0 h15 (thn (h pins _ σ _ _ I1 (q _ hn)) ?_);rintro ws s2 ⟨ps,H2,I2,rel,e,kvs,ep,lk,q2⟩)
 subst ep;obtain ⟨rs,c,rk⟩:=uc5 (P:=X.prog) (w:=X.w) rel;obtain ⟨z,hd,vs0,r0,dd⟩:=v74 I2.hok e;cases r0;refine ⟨rs,c,dd,fun h' dd' hs=>⟨.ref s.heap.objs.size,_,?_,rfl,q2⟩⟩;have hz:(uf8 [] kvs).length<=sizeLine:=by
  have h1:=u74 kvs [];rw [List.length_nil] at h1;rw [sizeLine_eq];omega
 have he:∃ q,h'.get? s.heap.objs.size=some q:=let ⟨q,_,_,hq,_⟩:=dd';⟨q,hq⟩;exact ue0 I2 (by rw [e];exact True.intro) hs he (vc7 hz hd (rk.merge .nil) dd')
structure M1 (X:Cx) (o:Expr) (m:Str) (apos:Pos) (e:Expr) (cpos:Pos):Prop where
 base:attributeBase o m X.env (eval o X.env)=eval o X.env
 few:((backTo cpos (starEach [e] X.env)).all (fun x=>!x.1) && (backToKw cpos (keywordEach [] X.env)).all (fun x=>x.1.isSome)
  && decide (([e]:List Expr).length+([]:List Keyword).length+(if ([]:List Keyword).isEmpty then 0 else 1) < 30))=true
 line:(apos.endLine == cpos.line)=true
 trees:backTo cpos (starEach [e] X.env)=[(false,eval e X.env)]
structure M2 (X:Cx) (o:Expr) (m:Str) (apos:Pos) (e f:Expr) (cpos:Pos):Prop where
 base:attributeBase o m X.env (eval o X.env)=eval o X.env
 few:((backTo cpos (starEach [e,f] X.env)).all (fun x=>!x.1) && (backToKw cpos (keywordEach [] X.env)).all (fun x=>x.1.isSome)
  && decide (([e,f]:List Expr).length+([]:List Keyword).length+(if ([]:List Keyword).isEmpty then 0 else 1) < 30))=true
 line:(apos.endLine == cpos.line)=true
 trees:backTo cpos (starEach [e,f] X.env)=[(false,eval e X.env),(false,eval f X.env)]
def IsD (H:Hp) (a:Addr):Prop:=(∃ kvs,Rd H a (.dK kvs)) \/ ∃ kvs,Rd H a (.dT kvs)
theorem vz6 {X:Cx} {pins:List (Addr × Obj)} {σ:St} {H:Hp} {s:Shared} {a:Addr} (I:Inv X pins σ H s) (d:IsD H a) :
  s.TypeIs (.ref a) "dict" /\ (∀ b,Value.ref a=.ref b->∃ ob,s.heap.get? b=some ob /\ ob.dict=none) /\ (a == sysModules)=false:=by
 rcases d with ⟨kvs,e⟩ | ⟨kvs,e⟩
 ·obtain ⟨_,hd,vs,_,dd⟩:=uq2 I.hok e
  refine ⟨dd.typeIs,fun b q=>?_,hd⟩;cases q;obtain ⟨ob,_,_,h1,h2,_⟩:=dd;exact ⟨ob,h1,h2.2.1⟩
 ·obtain ⟨_,hd,xs,_,dd⟩:=ud8 I.hok e
  refine ⟨dd.typeIs,fun b q=>?_,hd⟩;cases q;obtain ⟨ob,_,_,h1,h2,_⟩:=dd;exact ⟨ob,h1,h2.2.1⟩
section
variable {X:Cx} {pins:List (Addr × Obj)} {σ:St} {H:Hp} {s:Shared} {a:Addr} {y d:V} {u r:Value} {o:Option V} {A:Around} {E:Value->Shared->Prop}
theorem w09 {Q:Value->Shared->Prop} (hu:A.units+1 < cLine) (I:Inv X pins σ H s) (g:DGet H a y o) (ry:RelV y u) (h:∀ w' s',Inv X pins σ H s'->RelV (o.getD .non) w'->Q w' s') :
  wpAny (model X.prog X.w) A (call (.builtin "dict.get") [.ref a,u]) Q E s:=by
 rcases g with ⟨kvs,k,e,ey,l⟩ | ⟨kvs,k,b,e,ey,eb,l⟩
 ·subst ey
  obtain ⟨z,hd,vs,rel,dd⟩:=uq2 I.hok e;refine call_meetsIn PySem.F.slot_dict_get dd.typeIs PySem.F.entry_dict_get (PySem.F.args_dict_get_2 _ _) (meets_dict_get (u17 X.prog X.w) a (ui9 ry) hd) ⟨_,dd.mapOf,h _ _ (I.tok _) ?_⟩;rw [l];exact (rel.val k).getD rfl
 ·subst ey
  cases (show u=Value.ref b from ry);obtain ⟨z,hd,xs,rel,dd⟩:=ud8 I.hok e;refine call_meetsIn PySem.F.slot_dict_get dd.typeIs PySem.F.entry_dict_get (PySem.F.args_dict_get_2 _ _) (meetsH_dict_get (tupleKind (u17 X.prog X.w)) a b hd) ⟨tupleKind_room_in1 hu,k,xs,ug0 I.hok eb,dd,h _ _ (I.tok _) ?_⟩;rw [l];exact (rel.val k).getD rfl
end
def va1 (td ty:TE):TE:=fun σ H Q=>td σ H fun x H1=>∃ a,x=.ref a /\ IsD H1 a /\ ty σ H1 fun y H2=>∃ o,DGet H2 a y o /\ Q (o.getD .non) H2
section
variable {X:Cx} {o e f:Expr} {apos cpos:Pos} {td ty tx:TE}
theorem v41 (hu:X.A.units+1 < cLine) (ho:PE X o td) (he:PE X e ty) (m:M1 X o "get" apos e cpos):PE X (.Call (.Attribute o "get" apos) [e] [] cpos) (va1 td ty):=by
 intro pins s σ H Q I h
 (refine wpAny_Call_method m.base m.few m.line PySem.F.plainAttrs_dict PySem.F.slot_dict_get PySem.F.type_dict_get (thn (ho pins s σ H _ I h) ?_);rintro u s1 ⟨x,H1,I1,rx,a,ex,d,q1⟩)
 subst ex;obtain rfl:u=Value.ref a:=rx;obtain ⟨t1,t2,_⟩:=vz6 I1 d;refine ⟨t1,t2,?_⟩;rw [m.trees]
 (refine Calls.callWith_builtin rfl (Calls.evalArgs_plain (Calls.spliced_cons (thn (he pins s1 σ H1 _ I1 q1) ?_)));rintro iv s2 ⟨y,H2,I2,ry,ov,g,q2⟩;refine Calls.spliced_nil ?_)
 exact w09 hu I2 g ry fun w' s3 I3 rw'=>⟨_,H2,I3,rw',q2⟩
end
end L2
namespace HT
open PySem PyProof.Rows
def lexLt:List Int->List Int->Bool
 | [],[]=>false
 | [],_::_=>true
 | _::_,[]=>false
 | x::xs,y::ys=>if x=y then lexLt xs ys else decide (x < y)
theorem lexLt_cons (x y:Int) (xs ys:List Int):lexLt (x::xs) (y::ys)=if x=y then lexLt xs ys else decide (x < y):=rfl
theorem lexLt_nil_nil:lexLt [] []=false:=rfl
theorem ub4 (y:Int) (ys:List Int):lexLt [] (y::ys)=true:=rfl
theorem lexLt_cons_nil (x:Int) (xs:List Int):lexLt (x::xs) []=false:=rfl
theorem v70 (A:Around) (s:Shared) (a:Int) (t:Tok) (c:Int) (u:Tok):∃ e,SeqAt.EqAt A s (.int a t) (.int c u) e /\ (e=true ↔ a=c) :=
 ⟨(a == c),SeqAt.EqAt.int_int a t c u,by simp⟩
theorem v29 (A:Around) (s:Shared) (a:Int) (t:Tok) (c:Int) (u:Tok) (prog:Program) (w:World) (E:Value->Shared->Prop) (Q:Value->Shared->Prop) (h:Q (.bool (decide (a < c))) s) :
  wpAny (model prog w) A (richCompare .Lt (.int a t) (.int c u)) Q E s :=
 (PyProof.Rows.lt_int h:wpAny (model prog w) A (compareOp .Lt (.int a t) (.int c u)) Q E s)
section
open PySem.SeqAt
open PySem.AutoSeq1 (wpAny_loadPart')
open PySem.MeetsSeq PySem.MeetsSeq2 PySem.MeetsSeq3
theorem uc9 (l b:Addr) (items items2:Array Value) (n n2:Nat) (dd dd2:Option Addr) (sl sl2:Array (Option Value)) (ns ms:List Int) (hi:IntsAre items.toList ns) (hj:IntsAre items2.toList ms) :
  Meets (Builtin.«tuple.__lt__» ⟨[.ref l,.ref b],[]⟩)
   (fun _ R s=>s.heap.get? l=some { cls:=.type "tuple",dict:=dd,data:=.seq items n,slots:=sl } /\ s.heap.get? b=some { cls:=.type "tuple",dict:=dd2,data:=.seq items2 n2,slots:=sl2 } /\
    R (.ok (.ret (.bool (lexLt ns ms)))) s) :=
 .of_wp fun prog w A R s h=>by
  obtain ⟨hp,g,d,tk,os⟩:=s;obtain ⟨hl,hb,h⟩:=h;have f2:=AutoSeq1.sub_tuple_tuple;have z1:items.size=ns.length:=by rw [<- hi.length];simp
  have z2:items2.size=ms.length:=by rw [<- hj.length];simp
  wp_walk using wpAny_loadPart' hl,wpAny_loadPart' hb,wpAny_forIn_list _ (fun rest b s'=>b.1=none /\ s'=⟨hp,g,d,tk,os⟩ /\ ∃ (vs ws:List Value) (ns' ms':List Int),rest=vs.zip ws /\
   IntsAre vs ns' /\ IntsAre ws ms' /\ ns'.length+items2.size=ms'.length+items.size /\ R (.ok (.ret (.bool (lexLt ns' ms')))) ⟨hp,g,d,tk,os⟩) _
  case turn =>
   rintro ⟨y,x⟩ rest b s' ⟨hb',rfl,vs,ws,ns',ms',hz,hvi,hwi,hlen,hR⟩;cases hvi with
   | nil=>rw [List.zip_nil_left] at hz;cases hz
   | cons a t hvi' =>
    cases hwi with
    | nil=>rw [List.zip_nil_right] at hz;cases hz
    | cons c u hwi' =>
     rw [List.zip_cons_cons] at hz;injection hz with hyx hrest
     injection hyx with hy hx
     subst hy hx;rw [lexLt_cons] at hR;simp only [List.length_cons] at hlen;obtain ⟨e,he,hiff⟩:=v70 A.in1 ⟨hp,g,d,tk,os⟩ a t c u;refine wpAny_bind (he prog w _ _ ?_);cases e with
     | true =>
      rw [if_pos (hiff.mp rfl)] at hR
      wp_walk
      exact ⟨rfl,rfl,_,_,_,_,hrest,hvi',hwi',by omega,hR⟩
     | false =>
      rw [if_neg (fun q=>absurd (hiff.mpr q) Bool.false_ne_true)] at hR;have hri:=v29 A.in1 ⟨hp,g,d,tk,os⟩ a t c u prog w
      wp_walk using hri
      exact ⟨_,rfl,by simpa using hR⟩
  case fin =>
   rintro ⟨b1,b2⟩ s' ⟨hb',rfl,vs,ws,ns',ms',hz,hvi,hwi,hlen,hR⟩;simp only at hb';subst hb';have hv:lexLt ns' ms'=decide (items.size < items2.size):=by
    cases hvi with
    | nil =>
     cases hwi with
     | nil =>
      simp only [List.length_nil] at hlen;rw [lexLt_nil_nil];exact (decide_eq_false (by omega)).symm
     | cons c u hw =>
      simp only [List.length_nil,List.length_cons] at hlen;rw [ub4];exact (decide_eq_true (by omega)).symm
    | cons a t hv =>
     cases hwi with
     | nil =>
      simp only [List.length_nil,List.length_cons] at hlen;rw [lexLt_cons_nil];exact (decide_eq_false (by omega)).symm
     | cons c u hw =>
      rw [List.zip_cons_cons] at hz;cases hz
   rw [hv] at hR
   wp_walk
   exact ⟨_,rfl,by simpa [Builtin.Tuple.tupleCompareSizes] using hR⟩
  case h =>
   exact ⟨rfl,rfl,items.toList,items2.toList,ns,ms,rfl,hi,hj,by omega,h⟩
end
section
variable {prog:Program} {w:World} {A:Around} {E:Value->Shared->Prop} {s:Shared}
theorem lt_tupInts {l b:Addr} {items items2:Array Value} {ns ms:List Int} {Q:Value->Shared->Prop} (hl:IsTup s.heap l items) (hb:IsTup s.heap b items2) (hi:IntsAre items.toList ns) (hj:IntsAre items2.toList ms)
  (hu:A.units < cLine) (h:Q (.bool (lexLt ns ms)) s):wpAny (model prog w) A (compareOp .Lt (.ref l) (.ref b)) Q E s:=by
 obtain ⟨⟨cls,dd,data,sl⟩,ho,hc,n,hd⟩:=id hl;obtain ⟨⟨cls2,dd2,data2,sl2⟩,ho2,hc2,n2,hd2⟩:=id hb;simp only at hc hd hc2 hd2;subst hc hd hc2 hd2;exact richCompare_meets_room (op:=.Lt) ⟨_,ho,rfl⟩ ⟨_,ho2,rfl⟩ PySem.F.slot_tuple_lt PySem.F.entry_tuple_lt (PySem.F.args_tuple_lt_2 _ _) (uc9 l b items items2 n n2 dd dd2 sl sl2 ns ms hi hj)
  ⟨ho,ho2,show Value.bool (lexLt ns ms) ≠ Value.notImplemented /\ Q (.bool (lexLt ns ms)) s from ⟨(fun x=>nomatch x),h⟩⟩ hu
theorem cat_tup {t b:Addr} {vs ws:List Value} {Q:Value->Shared->Prop} (ht:IsTup s.heap t vs.toArray) (hb:IsTup s.heap b ws.toArray) (hv:vs ≠ [])
  (h1:ws=[]->Q (.ref t) s) (h2:ws ≠ []->Q (.ref s.heap.objs.size) { s with heap:=s.heap.push { cls:=.type "tuple",data:=.seq (vs++ws).toArray } })
  (hsz:vs.length+ws.length<=sizeLine):wpAny (model prog w) A (binaryOp .Add (.ref t) (.ref b)) Q E s:=by
 obtain ⟨⟨cls,dd,data,sl⟩,ho,hc,n,hd⟩:=id ht;obtain ⟨⟨cls2,dd2,data2,sl2⟩,ho2,hc2,n2,hd2⟩:=id hb;simp only at hc hd hc2 hd2;subst hc hd hc2 hd2;have e:vs.toArray++ws.toArray=(vs++ws).toArray:=by simp
 by_cases hw:ws=[]
 ·exact concat_meets ⟨_,ho,rfl⟩ ⟨_,ho2,rfl⟩ noFill_tuple_add seq_tuple_add PySem.F.slot_tuple_add PySem.F.entry_tuple_add (PySem.F.args_tuple_add_2 _ _)
   (tuple_addW1 t b vs.toArray ws.toArray n n2 dd dd2 sl sl2 (by simpa using hv) (by simp [hw])) ⟨ho,ho2,h1 hw⟩
 ·refine concat_meets ⟨_,ho,rfl⟩ ⟨_,ho2,rfl⟩ noFill_tuple_add seq_tuple_add PySem.F.slot_tuple_add PySem.F.entry_tuple_add (PySem.F.args_tuple_add_2 _ _)
   (tuple_addW2 t b vs.toArray ws.toArray n n2 dd dd2 sl sl2 (by simpa using hv) (by simpa using hw) (by rw [List.size_toArray,List.size_toArray];exact hsz)) ⟨ho,ho2,?_⟩
  rw [e];exact h2 hw
def sIx (n d:Nat):Option Int->Nat
 | none=>d
 | some v=>if v < 0 then (v+(n:Int)).toNat else min v.toNat n
end
end HT
namespace L2
open PySem PySem.Spec PyProof.Rows
abbrev TO:=St->Hp->(Option Int->Hp->Prop)->Prop
theorem intsAre_of {ns:List Int}:∀ {us:List Value},Vals (ns.map V.int) us->IntsAre us ns:=by
 induction ns with
 | nil=>intro us r;rw [List.map_nil] at r;cases r;exact .nil
 | cons n ns ih =>
  intro us r;rw [List.map_cons] at r;cases r with
  | cons r1 r2 =>
   obtain ⟨t,e⟩:=r1;subst e;exact .cons n t (ih r2)
section
variable {X:Cx} {e:Expr} {te:TE} {lo hi:Option Expr} {tl th:TO} {pos p2:Pos}
def SlR (X:Cx) (r:V->Option Int->Option Int->Hp->VK->Prop):Prop :=
 ∀ (pins:List (Addr × Obj)) (s:Shared) (σ:St) (H:Hp) (x:V) (v vl vu:Value) (lo hi:Option Int) (sl:Addr) (Q:VK),Inv X pins σ H s->RelV x v->s.heap.IsSliceOf sl vl vu .none->IsPart vl lo->IsPart vu hi->r x lo hi H Q ->
  ∃ T id,typeLookup (.type T) "__getitem__" = pure (some (.builtin id)) /\ s.TypeIs v T /\ wpAny (model X.prog X.w) X.A (getItem v (.ref sl)) (EP X pins σ Q) X.xe s
theorem SlR.or {r r':V->Option Int->Option Int->Hp->VK->Prop} (h:SlR X r) (h':SlR X r'):SlR X (fun x lo hi H Q=>r x lo hi H Q \/ r' x lo hi H Q):=by
 intro pins s σ H x v vl vu lo hi sl Q I rx hs pl pu q
 rcases q with q | q
 ·exact h pins s σ H x v vl vu lo hi sl Q I rx hs pl pu q
 ·exact h' pins s σ H x v vl vu lo hi sl Q I rx hs pl pu q
def w42 (K:PySem.W.Frag):R2:=fun x y H Q=>∃ a b xs ys,x=.ref a /\ y=.ref b /\ SqT K H a xs /\ SqT K H b ys /\ xs ≠ [] /\ xs.length+ys.length<=sizeLine /\
 (ys=[]->Q (.ref a) H) /\ (ys ≠ []->∀ p,H p=none->Q (.ref p) (upd H p (.tup (xs++ys))))
theorem Vals.nil_iff {xs:List V} {us:List Value} (r:Vals xs us):us=[] ↔ xs=[]:=by
 cases r with
 | nil=>simp
 | cons _ _=>simp
theorem op_catT:OpR X (binaryOp .Add) (w42 X.K):=by
 intro pins s σ H x y v u Q I rx ry h;obtain ⟨a,b,xs,ys,rfl,rfl,ha,hb,hx,hz,q1,q2⟩:=h;cases rx;cases ry;obtain ⟨its,r1,p1,_⟩:=I.tuple ha;obtain ⟨its2,r2,p2,_⟩:=I.tuple hb;refine HT.cat_tup p1 p2 (fun z=>hx (r1.nil_iff.mp z)) (fun z=>⟨.ref a,H,I,rfl,q1 (r2.nil_iff.mp z)⟩) (fun z=>?_) (by rw [<- r1.length,<- r2.length];exact hz);refine ⟨.ref s.heap.objs.size,_,I.laid (t':=s.toks) (o:=.tup (xs++ys)) (fun b ob q=>Heap.get?_push_of_some _ q) (Nat.le_refl _) ?_,rfl,q2 (fun w=>z (r2.nil_iff.mpr w)) _ (I.hok.fresh (Nat.le_refl _))⟩;exact ⟨by rw [List.length_append];exact hz,_,r1.append r2,TupD.new _ _⟩
end
def ixN (n:Nat) (i:Int):Option Nat:=if 0<=i then (if i < n then some i.toNat else none) else if -(n:Int)<=i then some (i+n).toNat else none
def atI {α:Type} (xs:List α) (i:Int):Option α:=(ixN xs.length i).bind fun j=>xs[j]?
theorem ux5 {n:Nat} {i:Int} {j:Nat} (h:ixN n i=some j):seqIndex? i n=some j /\ j < n /\ -(n:Int)<=i /\ i < n:=by
 unfold ixN at h
 by_cases h0:0<=i
 ·rw [if_pos h0] at h
  by_cases h1:i < n
  ·rw [if_pos h1] at h
   have e:i.toNat=j:=Option.some.inj h;exact ⟨by rw [seqIndex_of h0 h1,e],by omega,by omega,h1⟩
  ·rw [if_neg h1] at h;cases h
 ·rw [if_neg h0] at h
  by_cases h1:-(n:Int)<=i
  ·rw [if_pos h1] at h
   have e:(i+n).toNat=j:=Option.some.inj h;exact ⟨by rw [seqIndex_neg (by omega) h1,e],by omega,h1,by omega⟩
  ·rw [if_neg h1] at h;cases h
theorem uj8 {α:Type} {xs:List α} {i:Int} {v:α} (h:atI xs i=some v):∃ j,seqIndex? i xs.length=some j /\ xs[j]?=some v /\ j < xs.length /\ -(xs.length:Int)<=i /\ i < xs.length:=by
 unfold atI at h;cases e:ixN xs.length i with
 | none=>rw [e] at h;cases h
 | some j =>
  rw [e] at h;obtain ⟨h1,h2,h3,h4⟩:=ux5 e;exact ⟨j,h1,h,h2,h3,h4⟩
theorem u53 {α:Type} {xs:List α} {j:Nat} {v:α} (h:xs[j]?=some v):atI xs (j:Int)=some v:=by
 have hj:j < xs.length:=(List.getElem?_eq_some_iff.mp h).1;have e:ixN xs.length (j:Int)=some j:=by
  unfold ixN;rw [if_pos (by omega),if_pos (by omega)];simp
 unfold atI;rw [e];exact h
def v16 (b:Expr):Prop:=∀ o i,subscripted b false o i=operate [o,i] (getItem o i)
def IxR (X:Cx) (r:R2):Prop :=
 ∀ (value slice:Expr) (pins:List (Addr × Obj)) (s:Shared) (σ:St) (H:Hp) (x y:V) (v u:Value) (Q:VK),Inv X pins σ H s->RelV x v->RelV y u->r x y H Q ->
  subscripted slice false v u=operate [v,u] (getItem v u)->wpAny (model X.prog X.w) X.A (subscriptTail value slice v u) (EP X pins σ Q) X.xe s
def MtR (X:Cx) (id:String) (r:V->List V->Hp->VK->Prop):Prop :=
 ∀ (pins:List (Addr × Obj)) (s:Shared) (σ:St) (H:Hp) (x:V) (xs:List V) (v:Value) (us:List Value) (Q:VK),Inv X pins σ H s->RelV x v->Vals xs us->r x xs H Q ->
  wpAny (model X.prog X.w) X.A (call (.builtin id) (v::us)) (EP X pins σ Q) X.xe s
section
variable {X:Cx} {a b:Expr} {ta tb:TE} {pos:Pos}
theorem IxR.or {r r':R2} (h:IxR X r) (h':IxR X r'):IxR X (fun x y H Q=>r x y H Q \/ r' x y H Q):=by
 intro value slice pins s σ H x y v u Q I rx ry q hs
 rcases q with q | q
 ·exact h value slice pins s σ H x y v u Q I rx ry q hs
 ·exact h' value slice pins s σ H x y v u Q I rx ry q hs
theorem MtR.or {id:String} {r r':V->List V->Hp->VK->Prop} (h:MtR X id r) (h':MtR X id r'):MtR X id (fun x xs H Q=>r x xs H Q \/ r' x xs H Q):=by
 intro pins s σ H x xs v us Q I rx rs q
 rcases q with q | q
 ·exact h pins s σ H x xs v us Q I rx rs q
 ·exact h' pins s σ H x xs v us Q I rx rs q
theorem w47 {r:R2} (hr:IxR X r) (ha:PE X a ta) (hb:PE X b tb) (hs:v16 b):PE X (.Subscript a b pos) (tOp r ta tb):=by
 intro pins s σ H Q I h;exact Subscript_ (binT ha hb I h fun v u s2 x y H2 I2 rx ry q=>hr a b pins s2 σ H2 x y v u Q I2 rx ry q (hs _ _))
def rIxL (K:PySem.W.Frag):R2:=fun x y H Q=>∃ p xs i v,x=.ref p /\ y=.int i /\ SqL K H p xs /\ atI xs i=some v /\ Q v H
def rIxT (K:PySem.W.Frag):R2:=fun x y H Q=>∃ p xs i v,x=.ref p /\ y=.int i /\ SqT K H p xs /\ atI xs i=some v /\ Q v H
def rIxS:R2:=fun x y H Q=>∃ z i c,x=.str z /\ y=.int i /\ z.length<=sizeLine /\ atI z.cps.toList i=some c /\ Q (.str ⟨#[c]⟩) H
theorem ix_list:IxR X (rIxL X.K):=by
 intro value slice pins s σ H x y v u Q I rx ry h hs;obtain ⟨p,xs,i,z,rfl,rfl,hq,he,q⟩:=h;cases rx;obtain ⟨t,rfl⟩:=ry;obtain ⟨its,r,pl,hz⟩:=I.list hq;obtain ⟨j,h1,h2,h3,h4,h5⟩:=uj8 he;obtain ⟨w,ew,rw'⟩:=r.get h2;have hl:=r.length;have hn:=line63;have fin:EP X pins σ Q w s:=⟨z,H,I,rw',q⟩
 by_cases h0:0<=i
 ·have hj:i.toNat=j:=by
   rw [seqIndex_of h0 h5] at h1;exact Option.some.inj h1
  exact item_listR pl.isList h0 (by omega) (by rw [hj];simpa using ew) fin hs
 ·have hj:(i+(its.toArray.size:Int)).toNat=j:=by
   rw [seqIndex_neg (by omega) h4] at h1;rw [List.size_toArray,<- hl];exact Option.some.inj h1
  exact subscriptTail_builtinR (x:=w) pl.isList.typeIs slot_list_getitem.lookup
   (wpAny_getItem_list_neg (Q:=fun r s'=>r=w /\ EP X pins σ Q r s') pl.isList (by omega) (by rw [List.size_toArray] <;> omega) (by omega) (by rw [hj];simpa using ew) ⟨rfl,fin⟩) hs
theorem ix_tup:IxR X (rIxT X.K):=by
 intro value slice pins s σ H x y v u Q I rx ry h hs;obtain ⟨p,xs,i,z,rfl,rfl,hq,he,q⟩:=h;cases rx;obtain ⟨t,rfl⟩:=ry;obtain ⟨its,r,pl,hz⟩:=I.tuple hq;obtain ⟨j,h1,h2,h3,h4,h5⟩:=uj8 he;obtain ⟨w,ew,rw'⟩:=r.get h2;have hl:=r.length;have hn:=line63;have fin:EP X pins σ Q w s:=⟨z,H,I,rw',q⟩;exact subscriptTail_builtinR (x:=w) pl.typeIs slot_tuple_getitem.lookup
  (getItem_tuple (j:=j) (Q:=fun r s'=>r=w /\ EP X pins σ Q r s') pl (by omega) (by omega) (by rw [List.size_toArray,<- hl];exact h1) (by simpa using ew) ⟨rfl,fin⟩) hs
theorem vy9:IxR X rIxS:=by
 intro value slice pins s σ H x y v u Q I rx ry h hs;obtain ⟨z,i,c,rfl,rfl,hz,he,q⟩:=h;obtain ⟨t,rfl⟩:=rx;obtain ⟨t',rfl⟩:=ry;obtain ⟨j,h1,h2,h3,h4,h5⟩:=uj8 he;have hl:z.cps.toList.length=z.length:=by simp [Str.length]
 rw [hl] at h1 h4 h5;have hn:=line63;exact tail_any (typeIs_str s z t) slot_str_getitem.lookup (getItem_str (c:=c) (by
  have e1:decide (i < -(2 ^ 63:Int))=false:=decide_eq_false (by omega);have e2:decide (i ≥ 2 ^ 63)=false:=decide_eq_false (by omega);rw [e1,e2,Bool.or_false]) (by rw [h1];simpa using h2) ⟨.str ⟨#[c]⟩,H,I.tok _,⟨_,rfl⟩,q⟩) hs
def rIx (K:PySem.W.Frag):R2:=fun x y H Q=>rIxL K x y H Q \/ rIxT K x y H Q \/ rIxS x y H Q
theorem vz0:IxR X (rIx X.K):=ix_list.or (ix_tup.or vy9)
theorem up3 (its:List Value) (n j:Nat) (u:Value):Obj.mapSeq (·.setIfInBounds j u) { cls:=.type "list",data:=.seq its.toArray n }={ cls:=.type "list",data:=.seq (its.set j u).toArray n }:=by
 simp [Obj.mapSeq]
theorem Inv.lst {pins:List (Addr × Obj)} {σ:St} {H:Hp} {s:Shared} {p:Addr} {xs:List V} (I:Inv X pins σ H s) (h:H p=some (.lst xs)) :
  ∃ (its:List Value) (n:Nat),Vals xs its /\ s.heap.get? p=some { cls:=.type "list",data:=.seq its.toArray n } /\ xs.length<=sizeLine:=by
 obtain ⟨z,its,n,r,e⟩:=I.hok p _ h;exact ⟨its,n,r,e,z⟩
theorem Inv.lstUpd {pins:List (Addr × Obj)} {σ:St} {H:Hp} {s:Shared} {p:Addr} {xs ys:List V} {its its':List Value} {n n':Nat} {f:Obj->Obj} (I:Inv X pins σ H s) (h:H p=some (.lst xs))
  (ho:s.heap.get? p=some { cls:=.type "list",data:=.seq its.toArray n }) (hf:f { cls:=.type "list",data:=.seq its.toArray n }={ cls:=.type "list",data:=.seq its'.toArray n' }) (r:Vals ys its') (hz:ys.length<=sizeLine) (t:Nat) :
  Inv X pins σ (upd H p (.lst ys)) { s with heap:=s.heap.update p f,toks:=t }:=by
 have e:(s.heap.update p f).get? p=some { cls:=.type "list",data:=.seq its'.toArray n' }:=by
  rw [Heap.get?_update_self f ho (by rw [hf] <;> rfl),hf]
 refine I.write (x:=p) (e:=p) (by rw [h];trivial) (.inl rfl) (fun b u hb q=>(Heap.get?_update_other _ _ (Ne.symm hb)).trans q) ⟨_,e⟩ ?_;exact ⟨hz,its',n',r,e⟩
def w41:V->V->V->Hp->(Hp->Prop)->Prop:=fun o i v H Q=>∃ p xs k j,o=.ref p /\ i=.int k /\ H p=some (.lst xs) /\ ixN xs.length k=some j /\ Q (upd H p (.lst (xs.set j v)))
theorem set_list:PSet X w41:=by
 intro pins s σ H o i v ov iv u Q I ro ri rv h;obtain ⟨p,xs,k,j,rfl,rfl,hp,hj,q⟩:=h;cases ro;obtain ⟨t,rfl⟩:=ri;obtain ⟨its,n,r,ho,hz⟩:=I.lst hp;obtain ⟨h1,h2,h3,h4⟩:=ux5 hj;have hl:=r.length;have hn:=line63;have I':Inv X pins σ (upd H p (.lst (xs.set j v))) { s with heap:=s.heap.update p (Obj.mapSeq (·.setIfInBounds j u)) } :=
  I.lstUpd hp ho (up3 its n j u) (r.set rv j) (by rw [List.length_set];exact hz) s.toks
 by_cases h0:0<=k
 ·have hk:k.toNat=j:=by
   rw [seqIndex_of h0 h4] at h1;exact Option.some.inj h1
  exact PySem.W.ki_setAt ho h0 (by omega) (by rw [List.size_toArray,<- hl];exact h4) (by rw [hk];exact ⟨_,I',q⟩)
 ·have hk:(k+(its.toArray.size:Int)).toNat=j:=by
   rw [seqIndex_neg (by omega) h3] at h1;rw [List.size_toArray,<- hl];exact Option.some.inj h1
  exact PySem.W.ki_setBack ho (by omega) (by rw [List.size_toArray,<- hl];exact h3) (by omega) (by rw [hk];exact ⟨_,I',q⟩)
def vl7:V->Bool
 | .non=>true
 | .bl _=>true
 | .int _=>true
 | .str _=>true
 | _=>false
def eqV:V->V->Bool
 | .non,.non=>true
 | .bl a,.bl b=>a == b
 | .bl a,.int b=>(if a then 1 else 0) == b
 | .int a,.bl b=>a == (if b then 1 else 0)
 | .int a,.int b=>a == b
 | .str a,.str b=>a == b
 | _,_=>false
theorem w04 {A:Around} {s:Shared} {y x:V} {u v:Value} (ry:RelV y u) (rx:RelV x v) (fy:vl7 y=true) (fx:vl7 x=true):SeqAt.EqAt A s u v (eqV y x):=by
 cases y with
 | non =>
  cases ry;cases x with
  | non=>cases rx;exact SeqAt.EqAt.same _
  | bl b=>cases rx;exact SeqAt.EqAt.none_bool b
  | int b=>obtain ⟨t,rfl⟩:=rx;exact SeqAt.EqAt.none_int b t
  | str b=>obtain ⟨t,rfl⟩:=rx;exact SeqAt.EqAt.none_str b t
  | _=>exact absurd (show false=true from fx) Bool.false_ne_true
 | bl a =>
  cases ry;cases x with
  | non=>cases rx;exact SeqAt.EqAt.bool_none a
  | bl b=>cases rx;exact SeqAt.EqAt.bool_bool a b
  | int b=>obtain ⟨t,rfl⟩:=rx;exact SeqAt.EqAt.bool_int a b t
  | str b=>obtain ⟨t,rfl⟩:=rx;exact SeqAt.EqAt.bool_str a b t
  | _=>exact absurd (show false=true from fx) Bool.false_ne_true
 | int a =>
  obtain ⟨t',rfl⟩:=ry;cases x with
  | non=>cases rx;exact SeqAt.EqAt.int_none a t'
  | bl b=>cases rx;exact SeqAt.EqAt.int_bool a t' b
  | int b=>obtain ⟨t,rfl⟩:=rx;exact SeqAt.EqAt.int_int a t' b t
  | str b=>obtain ⟨t,rfl⟩:=rx;exact SeqAt.EqAt.int_str a t' b t
  | _=>exact absurd (show false=true from fx) Bool.false_ne_true
 | str a =>
  obtain ⟨t',rfl⟩:=ry;cases x with
  | non=>cases rx;exact SeqAt.EqAt.str_none a t'
  | bl b=>cases rx;exact SeqAt.EqAt.str_bool a t' b
  | int b=>obtain ⟨t,rfl⟩:=rx;exact SeqAt.EqAt.str_int a t' b t
  | str b=>obtain ⟨t,rfl⟩:=rx;exact SeqAt.EqAt.str_str a t' b t
  | _=>exact absurd (show false=true from fx) Bool.false_ne_true
 | _=>exact absurd (show false=true from fy) Bool.false_ne_true
theorem call_len_seq:CallR X (.builtin "len") (fun xs H Q=>∃ p ys,xs=[.ref p] /\ (SqL X.K H p ys \/ SqT X.K H p ys) /\ Q (.int ys.length) H):=by
 intro pins s σ H xs us Q I r h;obtain ⟨p,ys,rfl,hq,q⟩:=h;obtain ⟨u,rfl,rx⟩:=vals1 r;cases rx;have hn:=line63
 rcases hq with hq | hq
 ·obtain ⟨its,r',pl,hz⟩:=I.list hq
  have hlen:=r'.length;exact Calls.call_len_list pl.isList (by simp only [List.size_toArray] <;> omega) ⟨.int ys.length,H,I.tok _,⟨s.toks+1,by rw [List.size_toArray,hlen]⟩,q⟩
 ·obtain ⟨its,r',pl,hz⟩:=I.tuple hq
  have hlen:=r'.length;exact len_tuple pl (by simp only [List.size_toArray] <;> omega) ⟨.int ys.length,H,I.tok _,⟨s.toks+1,by rw [List.size_toArray,hlen]⟩,q⟩
theorem ug8:CallR X (.builtin "len") (fun xs H Q=>∃ z,xs=[.str z] /\ z.length<=sizeLine /\ Q (.int z.length) H):=by
 intro pins s σ H xs us Q I r h;obtain ⟨z,rfl,hz,q⟩:=h;obtain ⟨u,rfl,t,rfl⟩:=vals1 r;have hn:=line63;exact len_str (by omega) ⟨.int z.length,H,I.tok _,⟨_,rfl⟩,q⟩
theorem CallR.or {f:Value} {r r':List V->Hp->VK->Prop} (h:CallR X f r) (h':CallR X f r'):CallR X f (fun xs H Q=>r xs H Q \/ r' xs H Q):=by
 intro pins s σ H xs us Q I rs q
 rcases q with q | q
 ·exact h pins s σ H xs us Q I rs q
 ·exact h' pins s σ H xs us Q I rs q
def tyV (K:PySem.W.Frag) (T:String) (x:V) (H:Hp):Prop:=match x with
 | .str _=>T = "str"
 | .int _=>T = "int"
 | .ref p=>(T = "list" /\ ∃ xs,SqL K H p xs) \/ (T = "tuple" /\ ∃ o,K.lookup p=some o /\ o.cls=.type "tuple" /\ o.dict=none) \/
   (T = "dict" /\ ((∃ kvs,H p=some (.dK kvs)) \/ ∃ kvs,H p=some (.dT kvs))) \/ (T = "set" /\ ∃ S n,H p=some (.set S n))
 | _=>False
theorem vq7 {pins:List (Addr × Obj)} {σ:St} {H:Hp} {s:Shared} {T:String} {x:V} {v:Value} (I:Inv X pins σ H s) (r:RelV x v) (ty:tyV X.K T x H) :
  s.TypeIs v T /\ ∀ a,v=.ref a->∃ ob,s.heap.get? a=some ob /\ ob.dict=none:=by
 cases x with
 | str z =>
  obtain ⟨t,rfl⟩:=r;cases (show T = "str" from ty);exact ⟨typeIs_str s z t,fun _ e=>nomatch e⟩
 | int i =>
  obtain ⟨t,rfl⟩:=r;cases (show T = "int" from ty);exact ⟨typeIs_int s i t,fun _ e=>nomatch e⟩
 | ref p =>
  cases r
  rcases ty with ⟨rfl,xs,hq⟩ | ⟨rfl,o,hk,hc,hd⟩ | ⟨rfl,hk⟩ | ⟨rfl,S,n,hk⟩
  ·obtain ⟨its,_,pl,_⟩:=I.list hq
   refine ⟨pl.isList.typeIs,fun a e=>?_⟩;cases e;obtain ⟨o,n,e,c,hd,_⟩:=pl;exact ⟨o,e,hd⟩
  ·refine ⟨⟨o,I.kIn p o hk,hc⟩,fun a e=>?_⟩
   cases e;exact ⟨o,I.kIn _ o hk,hd⟩
  ·have z:∃ o,s.heap.get? p=some o /\ o.ExactDict:=by
    rcases hk with ⟨kvs,hk⟩ | ⟨kvs,hk⟩
    ·obtain ⟨_,_,_,_,o,_,_,e,ex,_⟩:=I.hok p _ hk
     exact ⟨o,e,ex⟩
    ·obtain ⟨_,_,_,_,o,_,_,e,ex,_⟩:=I.hok p _ hk
     exact ⟨o,e,ex⟩
   obtain ⟨o,e,ex⟩:=z;refine ⟨⟨o,e,ex.1⟩,fun a e2=>?_⟩;cases e2;exact ⟨o,e,ex.2.1⟩
  ·obtain ⟨o,_,_,_,e,ex,_⟩:=I.hok p _ hk
   refine ⟨⟨o,e,ex.1⟩,fun a e2=>?_⟩;cases e2;exact ⟨o,e,ex.2.1⟩
 | _=>exact False.elim ty
def tBM (K:PySem.W.Frag) (T:String) (r:V->List V->Hp->VK->Prop) (to:TE) (t:TA):TE:=fun σ H Q=>to σ H fun x H1=>tyV K T x H1 /\ t σ H1 fun xs H2=>r x xs H2 Q
variable {o e:Expr} {es:List Expr} {to:TE} {t:TA} {name:Str} {apos cpos:Pos} {T id:String} {r:V->List V->Hp->VK->Prop}
theorem vt9 (pa:PlainAttrs T) (slot:Slot T name id) (hty:typeOf (.builtin id)=pure (.type "method_descriptor")) (hm:MtR X id r) (ho:PE X o to) (ha:PA X (e::es) t)
  (hbase:attributeBase o name X.env (eval o X.env)=eval o X.env:=by rfl)
  (hfew:((backTo cpos (starEach (e::es) X.env)).all (fun x=>!x.1) && (backToKw cpos (keywordEach [] X.env)).all (fun x=>x.1.isSome)
   && decide ((e::es).length+([]:List Keyword).length+(if ([]:List Keyword).isEmpty then 0 else 1) < 30))=true:=by rfl)
  (hline:(apos.endLine == cpos.line)=true:=by rfl) (hs:starEach (e::es) X.env=(false,eval e X.env)::starEach es X.env:=by rfl) (hplain:(backTo cpos (starEach es X.env)).any (·.1)=false:=by rfl) :
  PE X (.Call (.Attribute o name apos) (e::es) [] cpos) (tBM X.K T r to t):=by
 intro pins s σ H Q I h
 (refine wpAny_Call_method_late hbase hfew hline rfl (thn (ho pins s σ H _ I h) ?_);rintro v s1 ⟨x,H1,I1,r1,ty,q1⟩)
 obtain ⟨h1,h2⟩:=vq7 I1 r1 ty;refine ⟨T,id,pa,slot,hty,h1,h2,?_⟩;have hA:=ha cpos pins s1 σ H1 _ I1 q1;rw [hs] at hA ⊢;refine Calls.callWith_builtin (by show (false || (backTo cpos (starEach es X.env)).any (·.1))=false;rw [hplain] <;> rfl) (Calls.evalArgs_plain ?_)
 (refine thn hA ?_;rintro us s2 ⟨vs,H2,I2,r2,q2⟩;exact hm pins s2 σ H2 x vs v us Q I2 r1 r2 q2)
/- xs.append(e),list.index on a module's tuple .. are MtR facts of 06m -/
end
def MtM (X:Cx) (id:String) (r:V->List V->Hp->VK->Prop):Prop :=
 ∀ (pins:List (Addr × Obj)) (s:Shared) (σ:St) (H:Hp) (x:V) (xs:List V) (v:Value) (us:List Value) (Q:VK),Inv X pins σ H s->RelV x v->Vals xs us->r x xs H Q ->
  wpAny (model X.prog X.w) X.A (call (.builtin id) (v::us)) (EP X pins σ Q) X.xe s
theorem Vals.one:∀ {x:V} {us:List Value},Vals [x] us->∃ u,us=[u] /\ RelV x u
 | _,_,.cons r .nil=>⟨_,rfl,r⟩
theorem Vals.two:∀ {x y:V} {us:List Value},Vals [x,y] us->∃ u v,us=[u,v] /\ RelV x u /\ RelV y v
 | _,_,_,.cons r (.cons q .nil)=>⟨_,_,rfl,r,q⟩
theorem Vals.zero:∀ {us:List Value},Vals [] us->us=[]
 | _,.nil=>rfl
theorem Vals.reverse {xs:List V} {us:List Value} (h:Vals xs us):Vals xs.reverse us.reverse:=by
 induction h with
 | nil=>exact .nil
 | cons r t ih=>rw [List.reverse_cons,List.reverse_cons];exact Vals.append ih (.cons r .nil)
theorem Vals.rep {xs:List V} {us:List Value} (h:Vals xs us):∀ k:Nat,Vals (List.replicate k xs).flatten (List.replicate k us).flatten
 | 0=>.nil
 | k+1=>by
  rw [List.replicate_succ,List.replicate_succ,List.flatten_cons,List.flatten_cons];exact Vals.append h (Vals.rep h k)
theorem foldl_rep (its:List Value):∀ (k:Nat) (acc:List Value),
  List.foldl (fun x1 x2=>x1++x2) acc.toArray (List.replicate k its.toArray)=(acc++(List.replicate k its).flatten).toArray
 | 0,acc=>by simp
 | k+1,acc=>by
  have e:acc.toArray++its.toArray=(acc++its).toArray:=by simp
  have e2:(acc++its)++(List.replicate k its).flatten=acc++(List.replicate (k+1) its).flatten:=by
   rw [List.replicate_succ,List.flatten_cons,List.append_assoc]
  rw [<- e2,<- foldl_rep its k (acc++its),<- e,List.replicate_succ,List.foldl_cons]
section
variable {X:Cx} {pins:List (Addr × Obj)} {σ:St} {H:Hp} {s:Shared} {l b:Addr} {xs ys zs:List V}
theorem Inv.lset {its its':List Value} {n:Nat} {f:Array Value->Array Value} {t':Nat} (I:Inv X pins σ H s) (hH:H l=some (.lst xs))
  (e:s.heap.get? l=some { cls:=.type "list",data:=.seq its.toArray n }) (hf:f its.toArray=its'.toArray) (hv:Vals ys its') (hz:ys.length<=sizeLine) :
  Inv X pins σ (upd H l (.lst ys)) { s with heap:=s.heap.update l (Obj.mapSeq f),toks:=t' }:=by
 have q:=PySem.IsL.update e f;rw [hf] at q;refine I.write (x:=l) (e:=l) (by rw [hH];exact trivial) (.inl rfl) (fun b' u hb hu=>(Heap.get?_update_other s.heap (Obj.mapSeq f) (Ne.symm hb)).trans hu) ⟨_,q⟩ ?_;exact ⟨hz,its',_,hv,q⟩
theorem Inv.lnew {its:List Value} {t':Nat} (I:Inv X pins σ H s) (hv:Vals ys its) (hz:ys.length<=sizeLine) :
  Inv X pins σ (upd H s.heap.objs.size (.lst ys)) { s with heap:=s.heap.push { cls:=.type "list",data:=.seq its.toArray },toks:=t' } :=
 I.laid (fun _ _ q=>Heap.get?_push_of_some _ q) (Nat.le_refl _) ⟨hz,its,0,hv,Heap.get?_push_size _ rfl⟩
theorem Inv.fresh (I:Inv X pins σ H s):H s.heap.objs.size=none:=I.hok.fresh (Nat.le_refl _)
theorem Inv.lstM (I:Inv X pins σ H s) (hH:H l=some (.lst xs)):xs.length<=sizeLine /\ ∃ (its:List Value) (n:Nat),Vals xs its /\ xs.length=its.length /\ s.heap.get? l=some { cls:=.type "list",data:=.seq its.toArray n }:=by
 obtain ⟨z,its,n,r,e⟩:=I.hok l _ hH;exact ⟨z,its,n,r,r.length,e⟩
theorem ul9 {n:Nat} (h:n<=sizeLine):Builtin.List.listTooLong n=false:=by
 unfold Builtin.List.listTooLong;exact decide_eq_false (by omega)
end
section
variable {X:Cx}
def vh2:V->List V->Hp->VK->Prop:=fun x vs H Q=>∃ l xs y,x=.ref l /\ vs=[y] /\ H l=some (.lst xs) /\ xs.length < sizeLine /\ Q .non (upd H l (.lst (xs++[y])))
theorem uf6:MtM X "list.append" vh2:=by
 intro pins s σ H x vs v us Q I rx rv h;obtain ⟨l,xs,y,rfl,rfl,hH,hz,q⟩:=h;cases rx;obtain ⟨u,rfl,ru⟩:=rv.one;obtain ⟨z,its,n,r,hl,e⟩:=I.lstM hH;refine call_meets F.slot_list_append ⟨_,e,rfl⟩ F.entry_list_append (F.args_list_append_2 _ _) (PySem.list_append l its.toArray n u (by rw [List.size_toArray];omega)) ⟨e,?_⟩;refine ⟨.non,_,I.lset (its':=its++[u]) hH e (by simp) (r.append (.cons ru .nil)) ?_,rfl,q⟩;rw [List.length_append,List.length_singleton];omega
def vh1:V->List V->Hp->VK->Prop:=fun x vs H Q=>∃ l b xs zs,x=.ref l /\ vs=[.ref b] /\ H l=some (.lst xs) /\ H b=some (.lst zs) /\ xs.length+zs.length<=sizeLine /\ Q .non (upd H l (.lst (xs++zs)))
theorem vy0:MtM X "list.extend" vh1:=by
 intro pins s σ H x vs v us Q I rx rv h;obtain ⟨l,b,xs,zs,rfl,rfl,hH,hB,hz,q⟩:=h;cases rx;obtain ⟨u,rfl,ru⟩:=rv.one;cases ru;obtain ⟨z,its,n,r,hl,e⟩:=I.lstM hH;obtain ⟨z2,its2,n2,r2,hl2,e2⟩:=I.lstM hB;have hsz:its.toArray.size+its2.toArray.size<=sizeLine:=by rw [List.size_toArray,List.size_toArray];omega
 have hlong:¬ (!its.toArray.isEmpty && Builtin.List.listTooLong (its.toArray.size+its2.toArray.size))=true:=by
  rw [ul9 hsz,Bool.and_false];exact Bool.false_ne_true
 refine call_meets F.slot_list_extend ⟨_,e,rfl⟩ F.entry_list_extend (F.args_list_extend_2 _ _)
  (AutoSeq1.list_extend_list_list_0 l its.toArray n b its2.toArray n2 hlong (by rw [List.size_toArray];omega) (by omega)) ⟨e,e2,?_⟩
 refine ⟨.non,_,I.lset (its':=its++its2) hH e (by simp) (r.append r2) ?_,rfl,q⟩;rw [List.length_append];omega
def rCat:R2:=fun x y H Q=>∃ l b xs zs,x=.ref l /\ y=.ref b /\ H l=some (.lst xs) /\ H b=some (.lst zs) /\ xs.length+zs.length<=sizeLine /\ ∀ p,H p=none->Q (.ref p) (upd H p (.lst (xs++zs)))
theorem vv5:OpR X (binaryOp .Add) rCat:=by
 intro pins s σ H x y v u Q I rx ry h;obtain ⟨l,b,xs,zs,rfl,rfl,hH,hB,hz,q⟩:=h;cases rx;cases ry;obtain ⟨z,its,n,r,hl,e⟩:=I.lstM hH;obtain ⟨z2,its2,n2,r2,hl2,e2⟩:=I.lstM hB;refine PySem.P.add_list e e2 ?_ (by rw [List.size_toArray,List.size_toArray];omega);have ea:its.toArray++its2.toArray=(its++its2).toArray:=by simp
 rw [ea];exact ⟨.ref _,_,I.lnew (t':=s.toks) (r.append r2) (by rw [List.length_append];omega),rfl,q _ I.fresh⟩
def rRep:R2:=fun x y H Q=>∃ l k xs,x=.ref l /\ y=.int k /\ H l=some (.lst xs) /\ -(2 ^ 63)<=k /\ k < 2 ^ 63 /\ xs.length * k.toNat<=sizeLine /\
 ∀ p,H p=none->Q (.ref p) (upd H p (.lst (List.replicate k.toNat xs).flatten))
theorem len_rep {α:Type} (xs:List α) (k:Nat):(List.replicate k xs).flatten.length=k * xs.length:=by
 induction k with
 | zero=>simp
 | succ k ih=>rw [List.replicate_succ,List.flatten_cons,List.length_append,ih,Nat.succ_mul,Nat.add_comm]
theorem vu8:OpR X (binaryOp .Mult) rRep:=by
 intro pins s σ H x y v u Q I rx ry h;obtain ⟨l,k,xs,rfl,rfl,hH,h1,h2,hz,q⟩:=h;cases rx;obtain ⟨t,rfl⟩:=ry;obtain ⟨z,its,n,r,hl,e⟩:=I.lstM hH;have hlen:its.toArray.size * k.toNat<=sizeLine:=by rw [List.size_toArray,<- hl];exact hz
 have hcap:¬ its.toArray.size * k.toNat > (2 ^ 63 - 1) / 8:=by
  have:(sizeLine:Nat)<=(2 ^ 63 - 1) / 8:=by decide
  omega
 have hfit:¬ (!Builtin.List.listFitsIndex k)=true:=by
  rw [fitsIndex_both h1 h2];exact Bool.false_ne_true
 have hlong:¬ Builtin.List.listTooLong (its.toArray.size * k.toNat)=true:=by
  rw [ul9 hlen];exact Bool.false_ne_true
 have hnew:List.foldl (fun x1 x2=>x1++x2) #[] (List.replicate (if its.toArray.isEmpty=true then 0 else k.toNat) its.toArray)=(List.replicate k.toNat its).flatten.toArray:=by
  have f0:∀ m:Nat,List.foldl (fun x1 x2=>x1++x2) #[] (List.replicate m its.toArray)=(List.replicate m its).flatten.toArray:=fun m=>by
   have:=foldl_rep its m [];rw [List.nil_append] at this;exact this
  rw [f0];cases its with
  | nil=>simp
  | cons a r'=>rw [if_neg (by simp)]
 refine wpAny_binaryOp_repeat_ref (T := "list") (U := "int") (by decide) ⟨_,e,rfl⟩ (fun s'=>typeIs_int s' k t) noFill_list_mul F.fills_int_mul F.slot_int_rmul repeat_list F.slot_int_index.lookup
  (call_meets F.slot_int_rmul (typeIs_int s k t) F.entry_int_rmul (F.args_int_rmul_2 _ _) (int___rmul___int_list k t l its.toArray n)
   ⟨e,rfl,⟨_,e,rfl⟩,call_meets F.slot_list_mul ⟨_,e,rfl⟩ F.entry_list_mul (F.args_list_mul_2 _ _) (AutoListH.list___mul___list_int_3 l its.toArray n k t hfit hcap hlong) ⟨e,?_⟩⟩)
 rw [hnew];exact ⟨.ref _,_,I.lnew (t':=s.toks) (r.rep k.toNat) (by rw [len_rep,Nat.mul_comm];exact hz),rfl,q _ I.fresh⟩
end
end L2
namespace Att
open PySem PySem.W PySem.Calls PyProof.Rows
theorem ua6 {P:Params} {h:Heap}:∀ (ns:List Int) (vs:List Value),WellAll P h vs (ns.map WData.int)->IntsAre vs ns:=by
 intro ns
 induction ns with
 | nil =>
  intro vs w;rw [List.map_nil] at w;cases w;exact .nil
 | cons n ns ih =>
  intro vs w;rw [List.map_cons] at w;cases w with
  | cons a b =>
   cases a;exact .cons _ _ (ih _ b)
theorem us4 {l:OpenLaw} {n:Nat} (hn:l.most=some n) {P:Params} {h:Heap} {args:List WData} {vals:List Value}
  (hpre:l.row.toRowW.claim.pre args=true) (hwl:WellAll P h vals args) :
  ∃ a vs ns,vals=[Value.ref a] /\ args=[WData.list (ns.map WData.int)] /\ h.get? a=some { cls:=.type "list",data:=.seq vs.toArray } /\ IntsAre vs ns /\ ns.length<=n:=by
 have hsh:WShape.hasAll [] args [.list .int]=true:=(pre_splitW hpre).1;have hc:l.pre.holds [] { args:=args }=true:=(pre_splitW hpre).2;obtain ⟨d,r,rfl,h1,h2⟩:=hasAllW_cons hsh;obtain rfl:=hasAllW_nil h2;obtain ⟨xs,rfl,h3⟩:=hasW_list h1;obtain ⟨ns,rfl⟩:=items_int h3;have hlen:ns.length<=n:=by
  unfold OpenLaw.pre at hc;have h4:(WTm.not (.lt (.lit (.int (n:Int))) (.len (.arg 0)))).holds [] { args:=[.list (ns.map .int)] }=true:=by
   have h4:=(holds_andW hc).1;rw [hn] at h4;exact h4
  have h5:=condW_of h4 (w_not (w_lt w_lit (w_len_list (w_arg rfl))));rw [List.length_map] at h5;refine Nat.le_of_not_lt fun q=>?_
  have q':(n:Int) < ((ns.length:Nat):Int):=by omega
  first
   | (rw [decide_eq_true q'] at h5;exact absurd h5 (by decide))
   | (simp at h5;omega)
 cases hwl with
 | cons w1 w2 =>
  cases w2;cases w1 with
  | list ho hall=>exact ⟨_,_,ns,rfl,rfl,ho,ua6 ns _ hall,hlen⟩
theorem ut5 (l:OpenLaw) (args:List WData):l.row.toRowW.claim.post args (.bool true) args=true :=
 postW_of (r:=l.row.toRowW) (X:=(true == true))
  (show WShape.has [] (.bool true) .bool=true by first | rfl | decide | simp [WShape.has,WShape.arms,WShape.armsAll])
  (show (WTm.eq .res (.lit (.bool true))).value [] { args:=args,res:=some (.bool true),after:=args }=some (.bool (true == true)) from w_eq_bool (w_res rfl) w_lit) rfl
theorem attach_call {l:OpenLaw} {n:Nat} {q:Program} {loose:List Str} {XP:(Str->Option Value)->Heap->Prop} {YP:World->Heap->Prop} {d:DefRec}
  (hn:l.most=some n) (hdf:d.params.defaults=[])
  (call:∀ (w:World) (s₀ s₁:Shared) (mg mb:Str->Option Value) (fa:Addr) (o:Obj) (pm cd doc:Value) (a:Addr) (vs:List Value) (ns:List Int),
   Ground q loose [] XP w s₀ mg mb s₁.heap->YP w s₁.heap ->
   s₁.heap.get? fa=some o->o.data=.func (docDef d.name d.params d.body d.scope pm cd doc)->s₁.heap.CodeRec cd d.name->mg d.name=some (.ref fa) ->
   s₁.heap.get? a=some { cls:=.type "list",data:=.seq vs.toArray }->IntsAre vs ns->ns.length<=n->s₁.gens=#[] ->
   codeAny (model l.prog w) callerA (.call (.ref fa) ⟨[.ref a],[]⟩) (fun r s'=>r=.ok (.ret (.bool true)) /\ OldK s₁.heap s'.heap /\ s'.os=s₁.os /\ AllBare s'.gens) s₁) :
  WalkO q loose XP YP l.row.toRowW d [] (fun f vs=>PySem.call f vs):=by
 intro w s₀ s₁ mg mb G Y fa o pm cd doc dV kV ho hd hcd hD hmg hg args vals as hpre hlay hrd hwl hlo;obtain rfl:dV=.none:=Dflts.none hD hdf;obtain rfl:kV=.none:=Dflts.noKw hD;obtain ⟨a,vs,ns,rfl,rfl,hobj,hints,hlen⟩:=us4 hn hpre hwl;refine enter_call (codeAny_mono (call w s₀ s₁ mg mb fa o pm cd doc a vs ns G Y ho (fd_plain hd) hcd hmg hobj hints hlen hg) fun r s' hq=>?_);obtain ⟨rfl,h2,h3,h4⟩:=hq;exact ⟨.inl ⟨.bool true,.bool true,[],rfl,fun _=>rfl,.bool true,ut5 l _,fun _=>⟨List.Pairwise.nil,fun _ hm=>(nomatch hm)⟩⟩,h2,h3,h4⟩
section
variable {prog:Program} {w:World} {A:Around} {E:Value->Shared->Prop} {s:Shared} {K:Frag}
def noObjs (h:Heap):Heap:={ h with objs:=#[] }
theorem noObjs_get (h:Heap) (b:Addr):(noObjs h).get? b=none:=by
 cases e:(noObjs h).get? b with
 | none=>rfl
 | some o=>exact absurd (Heap.lt_size e) (Nat.not_lt_zero _)
def ledger (h:Heap) (L d:Addr):List (Addr × Obj):=(List.range h.objs.size).filterMap fun a=>if a=L \/ a=d then none else (h.get? a).map fun o=>(a,o)
theorem mem_ledger {h:Heap} {L d a:Addr} {o:Obj}:(a,o) ∈ ledger h L d ↔ a ≠ L /\ a ≠ d /\ h.get? a=some o:=by
 unfold ledger;rw [List.mem_filterMap]
 constructor
 ·rintro ⟨b,_,e⟩
  split at e
  ·cases e
  ·rename_i hb
   obtain ⟨o',ho,e'⟩:=Option.map_eq_some_iff.mp e;cases e';exact ⟨fun q=>hb (.inl q),fun q=>hb (.inr q),ho⟩
 ·rintro ⟨n1,n2,ho⟩
  refine ⟨a,List.mem_range.mpr (Heap.lt_size ho),?_⟩;rw [if_neg (show ¬ (a=L \/ a=d) from fun q=>q.elim n1 n2),ho] <;> rfl
theorem news_ledger {h:Heap} {L d:Addr} {od:Obj} (hne:d ≠ L) (ho:h.get? d=some od):News (noObjs h) L h ([]++(d,od)::ledger h L d):=by
 rintro ⟨a,o⟩ hp
 rcases List.mem_cons.mp hp with e | hp
 ·cases e
  exact ⟨ho,hne,noObjs_get _ _⟩
 ·obtain ⟨n1,n2,e⟩:=mem_ledger.mp hp
  exact ⟨e,n1,noObjs_get _ _⟩
theorem fr_all {h:Heap} {L:Addr} {m:Str->Option Value} (n:h.Ns L m):Fr (noObjs h) L h m :=
 ⟨n,fun b o e=>(by rw [noObjs_get] at e;cases e),Nat.zero_le _⟩
end
end Att
namespace L2
open PySem PySem.Spec PyProof.Rows
theorem ue9:∀ {vs:List Value} {ns:List Int},IntsAre vs ns->Vals (ns.map V.int) vs
 | _,_,.nil=>.nil
 | _,_,.cons n t h=>.cons ⟨t,rfl⟩ (ue9 h)
end L2
/- THE LAST THEOREM (shape; LID,My.* are yours):
   My.Adr: a structure of the addresses that your layer names (classes,functions);My.Txt K t: a structure (Prop) of the equations over K;
   My.txt_mk:{K} {implicit addresses ..} (e1:nsIn K mainGlobals "law" = some (some (.ref f))) (e2:K.lookup f=some ⟨oc,od,.func (fnOf "law" "law" params body scope dV kV doc pm an cdv ct),sl⟩) (e3:codeIn K cdv "law" = true) ..:∃ t,My.Txt K t
set_option maxHeartbeats 0 in
theorem PySem.Challenge.cw_LID_holds:PySem.Challenge.rw_LID.Holds:=by
 w_on;o_law;k_head;(case hw=>w_witness2)
 k_fill
 refine L2.walk_of (l:=PySem.Challenge.rw_LID) (n:=63) (k:=40) (x := "script") (CX:=fun w=>..) (sp:=fun _=>My.sp_law) rfl (by decide) rfl ⟨rfl,by decide,by decide⟩ (fun w h Y=>PySem.W.kIn_of Y) ?F ?S ?C
 case F =>
  intro w mg fa h KX G hmg;have T:∃ t,My.Txt (L2.KOf KX) t:=by
   dsimp only [L2.KOf]                          -- K must stand as «<heap const> w.params» for k_is;refine' My.txt_mk ?e1 ?e2 ?e3 ..
   (case e1=>PySem.W.k_is)                    -- in the order: a name->its address->its object->its parts
   (case e2=>PySem.W.k_is)
   ..
  obtain ⟨t,T⟩:=T;have e0:=hmg.symm.trans (PySem.W.mg_of KX G T.law);cases e0                                       -- fa is the law's own address;exact ⟨_,fun s u=>.of_eq rfl,fun base kb nb=>My.law_fn T kb nb⟩     -- if «.of_eq rfl» comes too early: refine' ⟨_,?b,fun base kb nb=>My.law_fn T kb nb⟩;exact fun s u=>.of_eq rfl
 case S=>exact fun w H a ns hl hO hS=>..
 case C=>exact ..
(the tactic k_is has no namespace: write k_is) -/
namespace L2
open PySem PySem.Spec PyProof.Rows
def u30 (s:Stmt):Arguments:=match s with
 | .FunctionDef _ a _ _ _ _ _ _ _ _=>a
 | _=>{ posonlyargs:=[],args:=[],vararg:=none,kwonlyargs:=[],kw_defaults:=[],kwarg:=none,defaults:=[] }
def u21 (s:Stmt):List Stmt:=match s with
 | .FunctionDef _ _ b _ _ _ _ _ _ _=>b
 | _=>[]
def u01 (s:Stmt):Scope:=match s with
 | .FunctionDef _ _ _ _ _ _ sc _ _ _=>sc
 | _=>{ kind:=.function,names:=[],isGenerator:=false,isCoroutine:=false }
abbrev CX0:CXT:=fun _ _ _ _ _ _=>False
abbrev E0:XK:=fun _ _ _=>False
theorem pass0 {X:Cx}:Passes CX0 X E0:=fun _ _ _ _ _ _ _ h=>h.elim
structure Fun (K:PySem.W.Frag) (x qual:Str) (st:Stmt) (f:Addr) (fd:FuncData):Prop where
 ex:∃ (oc:Value) (od:Option Addr) (kV doc pm:Value) (an:Option Addr) (cdv ct:Value) (osl:Array (Option Value)),
  fd=PySem.W.fnOf x qual (u30 st) (u21 st) (u01 st) .none kV doc pm an cdv ct /\ K.lookup f=some ⟨oc,od,.func fd,osl⟩ /\ PySem.W.codeIn K cdv qual=true
 kp:PySem.W.keepIn K (.ref f)=true
section
variable {P:Program} {w:World} {K:PySem.W.Frag} {mg:Str->Option Value} {base:Heap}
theorem Fun.ok {x qual:Str} {st:Stmt} {f:Addr} {fd:FuncData} {N ps:List Str} {k:Nat} {sp:Sp} (F:Fun K x qual st f fd) (S:FnScope N ps (u01 st)) (len:∀ vs H Q E,sp vs H Q E->vs.length=ps.length)
  (hbody:∀ (cdv:Value) (A:Around) (outer:List Env) (s:Shared) (H:Hp) (vs:List V) (Q:VK) (E:XK),Room k (A.deeper (envOfC qual (u01 st) s.heap.objs.size f cdv))->sp vs H Q E ->
   ∃ t,PSs (cxOf CX0 P w K mg base N qual (u01 st) f cdv A outer s H E).nox (u21 st) t /\ t { nx:=fun _ H'=>Q .non H',rt:=Q } (start N vs) H):FnOk P w K mg base CX0 (k+1) f fd ps sp:=by
 obtain ⟨oc,od,kV,doc,pm,an,cdv,ct,osl,rfl,lk,hcd⟩:=F.ex;refine vl6 lk hcd S len fun A outer s H vs Q E hr hsp=>?_
 obtain ⟨t,h,q⟩:=hbody cdv A outer s H vs Q E hr hsp;exact ⟨t,h.nox,q⟩
theorem Fun.binds {x qual:Str} {st:Stmt} {f:Addr} {fd:FuncData} {ps:List Str} (F:Fun K x qual st f fd)
  (h:∀ (kV doc pm:Value) (an:Option Addr) (cdv ct:Value) (us:List Value),us.length=ps.length->bindArgs (PySem.W.fnOf x qual (u30 st) (u21 st) (u01 st) .none kV doc pm an cdv ct) ⟨us,[]⟩=pure (ps.zip us)):Binds K fd ps []:=by
 obtain ⟨oc,od,kV,doc,pm,an,cdv,ct,osl,rfl,lk,hcd⟩:=F.ex;exact .all (h kV doc pm an cdv ct)
end
theorem ub5 {A:Around} {k:Nat} (hr:Room k A):A.units+1 < cLine:=Nat.lt_of_le_of_lt (Nat.add_le_add_left (by decide:1<=64) _) hr.units
def Same (H H':Hp):Prop:=∀ b o,H b=some o->H' b=some o
theorem Same.refl (H:Hp):Same H H:=fun _ _ h=>h
theorem Same.trans {H H1 H2:Hp} (a:Same H H1) (b:Same H1 H2):Same H H2:=fun c o h=>b c o (a c o h)
theorem Same.free {H H':Hp} (e:Same H H') {l:Addr} (h:H' l=Option.none):H l=Option.none:=by
 cases q:H l with
 | none=>rfl
 | some o =>
  rw [e l o q] at h;cases h
theorem Same.seq {K:PySem.W.Frag} {H H':Hp} {a:Addr} {xs:List V} (e:Same H H') (h:SqL K H a xs):SqL K H' a xs:=by
 rcases h with (h | ⟨o,h⟩) | h
 ·exact .inl (.inl (e _ _ h))
 ·exact .inl (.inr ⟨o,e _ _ h⟩)
 ·exact .inr h
theorem vk4 {prog:Program} {w:World} {A:Around} {R:Result->Shared->Prop} {s:Shared} {elt target iter:Expr} {ifs:List Expr} {scope:Scope} {pos:Pos} {it acc:Value} {env:Env} (I:Nat->Shared->Prop)
  (turn:∀ n s,I n s->wpAny (model prog w) A (pyNext it) (fun r s₁=>match r with
   | none=>R (.ok .next) s₁
   | some v=>wpAny (model prog w) A (letOwnedTupleGo target it v) (fun _ s₁=>wpAny (model prog w) A (assign target env v) (fun _ s₂ =>
     wpAny (model prog w) A (forIn ifs true fun c r=>if r=true then do let ok <- isTrue c env (eval c env);pure (ForInStep.yield ok) else pure (ForInStep.yield r)) (fun ok s₃ =>
      if ok=true then wpAny (model prog w) A (eval elt env) (fun x s₄ =>
       wpAny (model prog w) A (call (.builtin "list.append") [acc,x]) (fun _ s₅=>∃ m,m < n /\ I m s₅) (fun _ _=>False) s₄) (fun _ _=>False) s₃
      else ∃ m,m < n /\ I m s₃) (fun _ _=>False) s₂) (fun _ _=>False) s₁) (fun _ _=>False) s₁) (fun _ _=>False) s)
  (n:Nat) (h:I n s) :
  codeAny (model prog w) A (.compLoop (.ListComp elt [⟨target,iter,ifs,0⟩] scope pos) 0 it acc env) R s:=by
 refine codeAny_loop rfl I (fun n s hI=>?_) n h
 show wpAny _ A ((compTurn (.ListComp elt [⟨target,iter,ifs,0⟩] scope pos) 0 it acc env).onRaise (fun x=>do noteFrame x env;theTreesLotGoes x)) _ _ s
 refine wpAny_noted ?_;rw [compTurn_list];refine wpAny_bind (wpAny_standAt (wpAny_bind (wpAny_mono (turn n s hI) (fun r s₁ h₁=>?_) fun _ _ h'=>h'.elim)));cases r with
 | none=>exact wpAny_pure h₁
 | some v =>
  refine wpAny_bind (wpAny_mono h₁ (fun _ s₂ h₂=>?_) fun _ _ h'=>h'.elim);refine wpAny_bind (wpAny_mono h₂ (fun _ s₂ h₂=>wpAny_bind (wpAny_mono h₂ (fun ok s₃ h₃=>?_) fun _ _ h'=>h'.elim)) fun _ _ h'=>h'.elim);cases ok with
  | false=>exact wpAny_pure ⟨rfl,h₃⟩
  | true =>
   exact wpAny_bind (wpAny_bind (wpAny_mono h₃ (fun x s₄ h₄=>wpAny_bind (wpAny_mono h₄ (fun _ s₅ h₅=>wpAny_pure (wpAny_pure ⟨rfl,h₅⟩)) fun _ _ h'=>h'.elim)) fun _ _ h'=>h'.elim))
def clOf (env:Env):List (Str × NameKind)->List (Str × Addr)->List (Str × Addr)
 | [],cs=>cs
 | (x,k)::r,cs=>clOf env r (if (k == .free)=true then (x,(env.cells.lookup x).getD 0)::cs else cs)
theorem uj6 {env:Env} {x:Str} {c:Addr} (h:env.cells.lookup x=some c):cellOf env x=pure c:=by
 unfold cellOf;rw [h]
theorem uc4 {scope:Scope} {env:Env} (h:∀ y ∈ scope.names,y.2=.free->∃ c,env.cells.lookup y.1=some c):closureFor scope env=pure (clOf env scope.names []):=by
 have key:∀ (l:List (Str × NameKind)) (cs:List (Str × Addr)),(∀ y ∈ l,y.2=.free->∃ c,env.cells.lookup y.1=some c) ->
   (forIn l cs fun (y:Str × NameKind) r=>if (y.2 == NameKind.free)=true then do let c <- cellOf env y.1;pure (ForInStep.yield ((y.1,c)::r)) else pure (ForInStep.yield r):Sem (List (Str × Addr)))=pure (clOf env l cs):=by
  intro l
  induction l with
  | nil=>intro cs _;rfl
  | cons y r ih =>
   intro cs hl;obtain ⟨x,k⟩:=y;rw [List.forIn_cons]
   by_cases hk:k=.free
   ·subst hk
    obtain ⟨c,hc⟩:=hl (x,.free) List.mem_cons_self rfl;have e:((NameKind.free == NameKind.free):Bool)=true:=rfl;simp only [e,if_true,uj6 hc,pure_bind];rw [ih _ fun z hz=>hl z (List.mem_cons_of_mem _ hz)]
    show _=pure (clOf env r (if (NameKind.free == NameKind.free)=true then _ else _))
    rw [e,if_pos rfl,hc] <;> rfl
   ·have e:(k == NameKind.free)=false:=by simpa using hk
    simp only [e,Bool.false_eq_true,if_false,pure_bind];rw [ih _ fun z hz=>hl z (List.mem_cons_of_mem _ hz)]
    show _=pure (clOf env r (if (k == NameKind.free)=true then _ else _))
    rw [e,if_neg Bool.false_ne_true]
 have e:closureFor scope env=((forIn scope.names ([]:List (Str × Addr)) fun (y:Str × NameKind) r=>if (y.2 == NameKind.free)=true then do let c <- cellOf env y.1;pure (ForInStep.yield ((y.1,c)::r)) else pure (ForInStep.yield r):Sem (List (Str × Addr))) >>= fun cs=>pure cs):=rfl;rw [e,key scope.names [] h];rfl
theorem ub0 {env:Env} {x:Str} {c:Addr}:∀ {l:List (Str × NameKind)} {cs:List (Str × Addr)},(∀ y ∈ l,y.2=.free->∃ c,env.cells.lookup y.1=some c)->(∀ x c,cs.lookup x=some c->env.cells.lookup x=some c) ->
  (clOf env l cs).lookup x=some c->env.cells.lookup x=some c
 | [],_,_,h,e=>h x c e
 | (y,k)::r,cs,hl,h,e=>by
  refine ub0 (l:=r) (fun z hz=>hl z (List.mem_cons_of_mem _ hz)) (fun x c e=>?_) e
  by_cases hk:k=.free
  ·subst hk
   obtain ⟨d,hd⟩:=hl (y,.free) List.mem_cons_self rfl;rw [if_pos (show (NameKind.free == NameKind.free)=true from rfl),List.lookup_cons] at e;cases hx:x == y with
   | true=>rw [hx,hd] at e;cases e;rw [eq_of_beq hx];exact hd
   | false=>rw [hx] at e;exact h x c e
  ·rw [if_neg (by simpa using hk)] at e;exact h x c e
theorem ue2 {env:Env} {x:Str}:∀ {l:List (Str × NameKind)} {cs:List (Str × Addr)},((∃ c,cs.lookup x=some c) \/ (x,NameKind.free) ∈ l)->∃ c,(clOf env l cs).lookup x=some c
 | [],_,h=>by
  rcases h with h | h
  ·exact h
  ·simp at h
 | (y,k)::r,cs,h=>by
  refine ue2 (l:=r) ?_
  rcases h with ⟨c,h⟩ | h
  ·left
   by_cases hk:(k == NameKind.free)=true
   ·rw [if_pos hk,List.lookup_cons]
    cases hx:x == y with
    | true=>exact ⟨_,rfl⟩
    | false=>exact ⟨c,h⟩
   ·rw [if_neg hk];exact ⟨c,h⟩
  ·rcases List.mem_cons.mp h with e | h
   ·injection e with e1 e2
    subst e1;subst e2
    left
    rw [if_pos (show (NameKind.free == NameKind.free)=true from rfl),List.lookup_cons];simp
   ·exact .inr h
def u35 (X:Cx) (N':List Str) (scope:Scope) (C:Addr) (s:Shared) (H:Hp) (fp:List Addr):Cx :=
 { X with N:=N',s₀:=s,H₀:=H,env:=compEnvC scope (clOf X.env scope.names []) C X.env,outer:=X.stack,ex:=fp,fn:=fun _=>false,pn:=[],xe:=fun _ _=>False }
structure BlkOk (X:Cx) (N':List Str) (ix:List (Option Nat)) (scope:Scope):Prop where
 kind:scope.kind=.function
 nocell:∀ y ∈ scope.names,y.2 ≠ .cell
 names:∀ y ∈ scope.names,y.2=.local->scope.names.lookup y.1=some .local
 frees:∀ y ∈ scope.names,y.2=.free->X.env.kindOf y.1=some .cell \/ X.env.kindOf y.1=some .free
 len:ix.length=N'.length
 at_:∀ (i j:Nat) (x:Str),N'[i]?=some x->ix[i]?=some (some j)->X.N[j]?=some x /\ scope.names.lookup x=some .free
def inner (ix:List (Option Nat)) (σ:St):St:=ix.map fun o=>o.bind fun j=>(σ[j]?).bind id
def ve8 (ix:List (Option Nat)) (wi:TI) (g:TG) (tc:TT) (te:TE):TE:=fun σ H Q=>wi σ H fun J H1=>∀ D,H1 D=none->∃ W:Nat->Nat->St->Hp->Prop,(∃ m,W 0 m (inner ix σ) (upd H1 D (.lst []))) /\ ∀ i m σi H,W i m σi H ->
 (J.stop i H /\ Q (.ref D) H) \/ (J.go i H /\ ∃ N:St->Hp->Prop,(∀ σ' H',N σ' H'->∃ m',m' < m /\ W (i+1) m' σ' H') /\ ∀ x H',J.yld i H x H'->g x σi H' fun σ2 H2=>tc σ2 H2 fun b H3 =>
  if b=true then te σ2 H3 fun v H4=>∃ ys,H4 D=some (.lst ys) /\ ys.length < sizeLine /\ N σ2 (upd H4 D (.lst (ys++[v]))) else N σ2 H3)
theorem u43 {env:Env} {x:Str}:∀ {names:List (Str × NameKind)},names.lookup x=some .free->(env.kindOf x=some .cell \/ env.kindOf x=some .free) ->
  (names.map fun (n,k)=>if (k == NameKind.free && env.scope.kind == .function && env.kindOf n == some .cell) then (n,NameKind.cell) else (n,k)).lookup x=some .cell \/
  (names.map fun (n,k)=>if (k == NameKind.free && env.scope.kind == .function && env.kindOf n == some .cell) then (n,NameKind.cell) else (n,k)).lookup x=some .free
 | [],h,_=>by simp at h
 | (n,k)::r,h,ho=>by
  cases hx:x == n with
  | true =>
   simp only [List.lookup_cons,hx] at h;cases h
   by_cases hc:(NameKind.free == NameKind.free && env.scope.kind == .function && env.kindOf n == some .cell)=true
   ·left
    show List.lookup x ((if (NameKind.free == NameKind.free && env.scope.kind == .function && env.kindOf n == some .cell)=true then (n,NameKind.cell) else (n,.free))::_)=_
    rw [if_pos hc];simp only [List.lookup_cons,hx]
   ·right
    show List.lookup x ((if (NameKind.free == NameKind.free && env.scope.kind == .function && env.kindOf n == some .cell)=true then (n,NameKind.cell) else (n,.free))::_)=_
    rw [if_neg hc];simp only [List.lookup_cons,hx]
  | false =>
   simp only [List.lookup_cons,hx] at h;have ih:=u43 (env:=env) h ho
   show List.lookup x ((if (k == NameKind.free && env.scope.kind == .function && env.kindOf n == some .cell)=true then (n,NameKind.cell) else (n,k))::_)=_ \/
    List.lookup x ((if (k == NameKind.free && env.scope.kind == .function && env.kindOf n == some .cell)=true then (n,NameKind.cell) else (n,k))::_)=_
   by_cases hc:(k == NameKind.free && env.scope.kind == .function && env.kindOf n == some .cell)=true
   ·rw [if_pos hc];simp only [List.lookup_cons,hx];exact ih
   ·rw [if_neg hc];simp only [List.lookup_cons,hx];exact ih
theorem u44 {env:Env} {x:Str}:∀ {names:List (Str × NameKind)},(∀ y ∈ names,y.2 ≠ .cell) ->
  ((names.map fun (n,k)=>if (k == NameKind.free && env.scope.kind == .function && env.kindOf n == some .cell) then (n,NameKind.cell) else (n,k)).lookup x=some .cell \/
  (names.map fun (n,k)=>if (k == NameKind.free && env.scope.kind == .function && env.kindOf n == some .cell) then (n,NameKind.cell) else (n,k)).lookup x=some .free)->(x,NameKind.free) ∈ names
 | [],_,h=>by simp at h
 | (n,k)::r,hn,h=>by
  have h:List.lookup x ((if (k == NameKind.free && env.scope.kind == .function && env.kindOf n == some .cell)=true then (n,NameKind.cell) else (n,k))::(r.map fun (n,k)=>if (k == NameKind.free && env.scope.kind == .function && env.kindOf n == some .cell) then (n,NameKind.cell) else (n,k)))=some .cell \/
   List.lookup x ((if (k == NameKind.free && env.scope.kind == .function && env.kindOf n == some .cell)=true then (n,NameKind.cell) else (n,k))::(r.map fun (n,k)=>if (k == NameKind.free && env.scope.kind == .function && env.kindOf n == some .cell) then (n,NameKind.cell) else (n,k)))=some .free:=h
  cases hx:x == n with
  | true =>
   have e:x=n:=eq_of_beq hx;subst e
   by_cases hc:(k == NameKind.free && env.scope.kind == .function && env.kindOf x == some .cell)=true
   ·have hk:k=.free:=by
     simp only [Bool.and_eq_true,beq_iff_eq] at hc;exact hc.1.1
    subst hk;exact List.mem_cons_self
   ·rw [if_neg hc] at h
    simp only [List.lookup_cons,hx,Option.some.injEq] at h
    rcases h with h | h
    ·exact absurd h (hn (x,k) List.mem_cons_self)
    ·subst h;exact List.mem_cons_self
  | false =>
   refine List.mem_cons_of_mem _ (u44 (env:=env) (fun y hy=>hn y (List.mem_cons_of_mem _ hy)) ?_)
   by_cases hc:(k == NameKind.free && env.scope.kind == .function && env.kindOf n == some .cell)=true
   ·rw [if_pos hc] at h;simp only [List.lookup_cons,hx] at h;exact h
   ·rw [if_neg hc] at h;simp only [List.lookup_cons,hx] at h;exact h
def PIfs (X:Cx) (ifs:List Expr) (t:TT):Prop :=
 ∀ (pins:List (Addr × Obj)) (s:Shared) (σ:St) (H:Hp) (Q:Bool->Hp->Prop),Inv X pins σ H s->t σ H Q ->
  wpAny (model X.prog X.w) X.A (forIn ifs true fun c r=>if r=true then do let ok <- isTrue c X.env (eval c X.env);pure (ForInStep.yield ok) else pure (ForInStep.yield r)) (TP X pins σ Q) X.xe s
def tYes:TT:=fun _ H Q=>Q true H
section
variable {X:Cx} {pins:List (Addr × Obj)} {σ:St} {H:Hp} {s:Shared}
theorem v35:PIfs X [] tYes:=fun _ _ _ H _ I h=>wpAny_tests_nil ⟨H,I,h⟩
theorem v34 {c:Expr} {t:TT} (h:PT X c t):PIfs X [c] t:=fun pins s σ H Q I hw=>wpAny_tests_one (h pins s σ H Q I hw)
theorem Inv.blk {N':List Str} {ix:List (Option Nat)} {scope:Scope} {fp:List Addr} {h1:Heap} {tk:Nat} (I:Inv X pins σ H s) (B:BlkOk X N' ix scope) (f:∀ b ∈ fp,FpOk X pins H b) (hlt:∀ b ∈ fp,b < s.heap.objs.size)
  (ns:h1.Ns s.heap.objs.size (fun _=>none)) (old:∀ b o,s.heap.get? b=some o->h1.get? b=some o) :
  Inv (u35 X N' scope s.heap.objs.size s H fp) [] (inner ix σ) H { s with heap:=h1,toks:=tk }:=by
 have hfree:∀ y ∈ scope.names,y.2=.free->∃ c,X.env.cells.lookup y.1=some c:=fun y hy e=>I.ok.has y.1 (B.frees y hy e)
 have hc:∀ x c,(clOf X.env scope.names []).lookup x=some c->X.env.cells.lookup x=some c:=fun x c e=>ub0 hfree (fun _ _ z=>by cases z) e
 have stk:∀ b ∈ fp,b ∉ frs X.stack:=fun b hb z=>by
  rcases List.mem_cons.mp (I.stkSub b z) with e | e
  ·exact (f b hb).2.1 e
  ·exact (f b hb).2.2.1 e
 refine ⟨⟨I.ok.mod,B.kind,I.ok.glob,I.ok.blt,Nat.le_refl _,fun x y c h1 h2=>I.ok.inj x y c (hc x c h1) (hc y c h2),fun x hx=>?_,fun x c h=>(by cases h),I.ok.hd,I.ok.frames,.inl rfl,fun b hb=>⟨Nat.ne_of_lt (hlt b hb),fun x c e=>(f b hb).2.2.2.2.1 x c (hc x c e)⟩,
   I.bs,Nat.le_trans I.ok.bsz I.sz,fun b o e hb=>?_,stk,I.stack,I.stkFree⟩,rfl,I.bare,Un.kept old,⟨_,ns,fun i x v h1 h2 h3=>?_⟩,fun x c e=>?_,I.hok.fresh (Nat.le_refl _),fun x c e=>I.freeC x c (hc x c e),fun p hp=>absurd (show p ∈ ([]:List (Addr × Obj)) from hp) (by simp),I.hok.kept old,?_⟩
 ·exact ue2 (.inr (u44 B.nocell hx))
 ·rcases (f b hb).2.2.2.1 with z | z
  ·exact I.ok.noex b o e z
  ·exact absurd (Nat.lt_of_lt_of_le (Heap.lt_size e) (Nat.le_trans I.ok.bsz z)) (Nat.lt_irrefl _)
 ·have h2:(ix.map fun o=>o.bind fun j=>(σ[j]?).bind id)[i]?=some (some v):=h2
  rw [List.getElem?_map] at h2;cases ho:ix[i]? with
  | none=>rw [ho] at h2;cases h2
  | some o =>
   rw [ho] at h2;cases o with
   | none=>cases h2
   | some j =>
    have h2:(σ[j]?).bind id=some v:=Option.some.inj h2;have h2:σ[j]?=some (some v):=by
     cases hs:σ[j]? with
     | none=>rw [hs] at h2;cases h2
     | some w=>rw [hs] at h2;cases h2;rfl
    obtain ⟨hN,hf⟩:=B.at_ i j x h1 ho
    have hk:=B.frees (x,.free) (PySem.mem_of_lookup hf) rfl;obtain ⟨m,hn,hl⟩:=I.loc;obtain ⟨u,r,lk⟩:=hl j x v hN h2 (hk.elim (fun z=>.inr (.inl z)) fun z=>.inr (.inr z));refine ⟨u,r,.inr ?_⟩
    rcases lk with ⟨z,_⟩ | ⟨_,c,e,z⟩
    ·rcases hk with hk | hk
     ·exact absurd (hk.symm.trans z) (by decide)
     ·exact absurd (hk.symm.trans z) (by decide)
    ·obtain ⟨c',e'⟩:=ue2 (env:=X.env) (cs:=[]) (.inr (PySem.mem_of_lookup hf))
     have ec:c'=c:=Option.some.inj ((hc x c' e').symm.trans e);subst ec;refine ⟨u43 hf hk,c',e',?_⟩;obtain ⟨o,ho,hd⟩:=z;exact ⟨o,old _ _ ho,hd⟩
 ·obtain ⟨v,o,ho,hd⟩:=I.cell x c (hc x c e)
  exact ⟨v,o,old _ _ ho,hd⟩
 ·show (inner ix σ).length=N'.length
  unfold inner;rw [List.length_map];exact B.len
theorem v10 {elt tg iter:Expr} {ifs:List Expr} {scope:Scope} {pos:Pos} {N':List Str} {ix:List (Option Nat)} {g:TG} {tc:TT} {te:TE} {J:It} {fp:List Addr} {it:Addr} {tn:Nat->Heap->Prop} (B:BlkOk X N' ix scope)
  (hg:∀ C s H fp,PG (u35 X N' scope C s H fp) tg g) (hi:∀ C s H fp,PIfs (u35 X N' scope C s H fp) ifs tc) (he:∀ C s H fp,PE (u35 X N' scope C s H fp) elt te) (hc:X.calm=true)
  (I:Inv X pins σ H s) (T:Turn X.prog X.w X.K tg J fp it tn) (st:tn 0 s.heap) (f:∀ b ∈ fp,FpOk X pins H b) {Q:VK} {E:Value->Shared->Prop}
  (w:∃ W:Nat->Nat->St->Hp->Prop,(∃ m,W 0 m (inner ix σ) (upd H s.heap.objs.size (.lst []))) /\ ∀ i m σi H,W i m σi H ->
   (J.stop i H /\ Q (.ref s.heap.objs.size) H) \/ (J.go i H /\ ∃ N:St->Hp->Prop,(∀ σ' H',N σ' H'->∃ m',m' < m /\ W (i+1) m' σ' H') /\ ∀ x H',J.yld i H x H'->g x σi H' fun σ2 H2=>tc σ2 H2 fun b H3 =>
    if b=true then te σ2 H3 fun v H4=>∃ ys,H4 s.heap.objs.size=some (.lst ys) /\ ys.length < sizeLine /\ N σ2 (upd H4 s.heap.objs.size (.lst (ys++[v]))) else N σ2 H3))
  {RR:Value->Addr->Result->Shared->Prop} (hRR:∀ C H' s' m,Inv X pins σ H' s'->FpOk X pins H' C->s'.heap.Ns C m->Q (.ref s.heap.objs.size) H'->RR (.ref s.heap.objs.size) C (.ok .next) s') :
  wpAny (model X.prog X.w) X.A (newList []) (fun acc s₃=>wpAny (model X.prog X.w) X.A (newFunctionEnv scope X.env.globals (clOf X.env scope.names []) [] X.env.qual none .none (some X.env)) (fun cenv s₄ =>
   codeAny (model X.prog X.w) X.A (.compStart (.ListComp elt [⟨tg,iter,ifs,0⟩] scope pos) 0 (.ref it) acc { cenv with scope:=relabel scope X.env }) (RR acc cenv.locals) s₄) E s₃) E s:=by
 obtain ⟨W,⟨m0,w0⟩,turn⟩:=w;have flt:∀ b ∈ fp,b < s.heap.objs.size:=fun b hb=>by
  obtain ⟨o,ho,_⟩:=T.obj 0 _ st b hb;exact Heap.lt_size ho
 have I3:Inv X pins σ (upd H s.heap.objs.size (.lst [])) { s with heap:=s.heap.push { cls:=.type "list",data:=.seq ([]:List Value).toArray },toks:=s.toks }:=I.lnew .nil (Nat.zero_le _)
 have hfr:∀ b ∈ fp,(upd H s.heap.objs.size (.lst [])) b=none:=fun b hb=>by rw [u12 (Nat.ne_of_lt (flt b hb))];exact (f b hb).1
 have f3:∀ b ∈ fp,FpOk X pins (upd H s.heap.objs.size (.lst [])) b:=fun b hb=>⟨hfr b hb,(f b hb).2⟩
 refine wpAny_newObj_type (wpAny_newFunctionEnv B.nocell (by intro y hy;simp at hy) (fun h₁ hns₁ hsb₁=>?_) B.kind);dsimp only at hns₁ hsb₁ ⊢;generalize hH3:s.heap.push { cls:=.type "list",data:=.seq ([]:List Value).toArray }=h3 at hns₁ hsb₁ I3 ⊢;obtain ⟨s3,e3⟩:∃ s3:Shared,s3={ s with heap:=h3 }:=⟨_,rfl⟩
 obtain rfl:h3=s3.heap:=by rw [e3]
 have I3:Inv X pins σ (upd H s.heap.objs.size (.lst [])) s3:=by
  have e:s3={ s with heap:=s3.heap,toks:=s.toks }:=e3
  rw [e];exact I3
 have eT:s3.toks=s.toks:=by rw [e3]
 have eS:({ s with heap:=h₁,toks:=s.toks+([]:List (Str × Value)).length }:Shared)={ s3 with heap:=h₁,toks:=s3.toks+([]:List (Str × Value)).length }:=by rw [e3]
 rw [eS];have hz3:s3.heap.objs.size=s.heap.objs.size+1:=by rw [<- hH3];exact Heap.size_push _ _
 have old:∀ b o,s3.heap.get? b=some o->h₁.get? b=some o:=fun b o e=>hsb₁.extBut b o (Nat.ne_of_lt (Heap.lt_size e)) (Heap.get?_push_of_some _ e)
 have st3:tn 0 s3.heap:=T.keep _ _ _ st fun b hb o e=>by rw [<- hH3];exact Heap.get?_push_of_some _ e
 have st4:tn 0 h₁:=T.keep _ _ _ st3 fun b _ o e=>old b o e
 have I4:=I3.blk (tk:=s3.toks+([]:List (Str × Value)).length) B f3 (fun b hb=>Nat.lt_of_lt_of_le (flt b hb) (by rw [hz3];exact Nat.le_succ _)) (show h₁.Ns s3.heap.objs.size (fun _=>none) from hns₁) old;generalize hX':u35 X N' scope s3.heap.objs.size s3 (upd H s.heap.objs.size (.lst [])) fp=X' at I4;have eX:X'.prog=X.prog /\ X'.w=X.w /\ X'.K=X.K /\ X'.A=X.A /\ X'.calm=X.calm /\ X'.env=compEnvC scope (clOf X.env scope.names []) s3.heap.objs.size X.env /\ X'.ex=fp /\ X'.outer=X.stack /\ X'.s₀=s3 /\ X'.H₀=upd H s.heap.objs.size (.lst []) /\ X'.pn=[] /\ X'.xe=(fun _ _=>False):=by
  rw [<- hX'];exact ⟨rfl,rfl,rfl,rfl,rfl,rfl,rfl,rfl,rfl,rfl,rfl,rfl⟩
 have hg':PG X' tg g:=hX' ▸ hg _ _ _ _;have hi':PIfs X' ifs tc:=hX' ▸ hi _ _ _ _;have he':PE X' elt te:=hX' ▸ he _ _ _ _;obtain ⟨e1,e2,e3,e4,e5,e6,e7,e8,e9,e10,e11,e12⟩:=eX;have stat:∀ {H':Hp},(∀ b ∈ fp,H' b=none)->∀ b ∈ fp,FpOk X' [] H' b:=fun {H'} hn b hb=>by
  have q:=I4.ok.exf b (by rw [e7];exact hb);refine ⟨hn b hb,q.1,?_,.inl (by rw [e7];exact hb),q.2,fun p hp=>?_⟩
  ·exact I4.ok.exfs b (by rw [e7];exact hb)
  ·rw [e11] at hp;simp at hp
 have loop:codeAny (model X.prog X.w) X.A (.compLoop (.ListComp elt [⟨tg,iter,ifs,0⟩] scope pos) 0 (.ref it) (.ref s.heap.objs.size) (compEnvC scope (clOf X.env scope.names []) s3.heap.objs.size X.env))
   (RR (.ref s.heap.objs.size) s3.heap.objs.size) { s3 with heap:=h₁,toks:=s3.toks+([]:List (Str × Value)).length }:=by
  refine vk4 (fun n s'=>∃ i σi Hi,Inv X' [] σi Hi s' /\ tn i s'.heap /\ (∀ b ∈ fp,Hi b=none) /\ W i n σi Hi) ?_ m0 ⟨0,_,_,I4,st4,hfr,w0⟩;rintro n s5 ⟨i,σ5,H5,I5,st5,fr5,w5⟩
  rcases turn i n σ5 H5 w5 with ⟨stop,qn⟩ | ⟨go,N,hN,step⟩
  ·have d:=T.done X' e1 e2 e3 (by rw [e5];exact hc) i [] s5 σ5 H5 (fun _ _=>False) I5 (stat fr5) st5 stop
   rw [e4] at d
   (refine thn d ?_;rintro r s6 ⟨hr,I6⟩)
   subst hr;have u:=I6.base;rw [e7,e9,e10] at u;have u:Un (frs X'.outer) fp (upd H s.heap.objs.size (.lst [])) H5 s3.heap s6.heap:=u;rw [e8] at u;have ok6:=I6.hok;rw [e1,e2] at ok6;have I7:Inv X pins σ H5 s6:=I3.call' (ch:=fp) (by have:=I6.os;rw [e9] at this;exact this) u ok6 I6.bare fun b hb=>⟨(f b hb).2.2.2.1,(f b hb).2.1,(f b hb).2.2.2.2.1,(f b hb).2.2.2.2.2⟩
   have hfree:=I6.free;obtain ⟨m,hm,_⟩:=I6.loc;rw [e6] at hfree hm;exact hRR _ H5 s6 m I7 (I3.fpOk (Nat.le_refl _) hfree) hm qn
  ·have d:=T.item X' e1 e2 e3 (by rw [e5];exact hc) i [] s5 σ5 H5 (fun _ _=>False) I5 (stat fr5) st5 go
   rw [e4] at d
   (refine thn d ?_;rintro r s6 ⟨u,hr,h6⟩)
   subst hr
   (refine thn h6 ?_;rintro _ s7 ⟨x,H7,I7,r7,y7,st7,fr7⟩)
   have I7':=I7.pinned (stat fr7) (T.obj _ _ st7);have a:=hg' _ s7 σ5 H7 x u _ I7' r7 (step x H7 y7);rw [e1,e2,e4,e6,e12] at a
   (refine thn a ?_;rintro _ s8 ⟨σ8,H8,I8,q8⟩)
   have t:=hi' _ s8 σ8 H8 _ I8 q8;rw [e1,e2,e4,e6,e12] at t;have again:∀ {σ9:St} {H9:Hp} {s9:Shared},Inv X' ([]++uf4 fp s7.heap) σ9 H9 s9->N σ9 H9->∃ m,m < n /\ ∃ i σi Hi,Inv X' [] σi Hi s9 /\ tn i s9.heap /\ (∀ b ∈ fp,Hi b=none) /\ W i m σi Hi:=fun {σ9 H9 s9} I9 n9=>by
    obtain ⟨m',hm,w9⟩:=hN σ9 H9 n9;refine ⟨m',hm,i+1,σ9,H9,I9.unpinned,T.keep _ _ _ st7 fun b hb o e=>(I9.pin (b,o) (List.mem_append_right _ (List.mem_append_right _ (u60 hb e)))).1,fun b hb=>?_,w9⟩;obtain ⟨o,e,d⟩:=T.obj _ _ st7 b hb;exact (I9.pin (b,o) (List.mem_append_right _ (List.mem_append_right _ (u60 hb e)))).2.1
   (refine thn t ?_;rintro ok s9 ⟨H9,I9,q9⟩)
   cases ok with
   | false =>
    rw [if_neg Bool.false_ne_true] at q9 ⊢;exact again I9 q9
   | true =>
    rw [if_pos rfl] at q9 ⊢;have v:=he' _ s9 σ8 H9 _ I9 q9;rw [e1,e2,e4,e6,e12] at v
    (refine thn v ?_;rintro y s10 ⟨z,H10,I10,r10,ys,hD,hz,q10⟩)
    have ap:=uf6 _ s10 σ8 H10 (.ref s.heap.objs.size) [z] (.ref s.heap.objs.size) [y] (fun _ H'=>N σ8 H') I10 rfl (.cons r10 .nil) ⟨_,ys,z,rfl,rfl,hD,hz,q10⟩;rw [e1,e2,e4,e12] at ap
    (refine thn ap ?_;rintro _ s11 ⟨_,H11,I11,_,q11⟩;exact again I11 q11)
 exact codeAny_compStart_list loop (T.self _ _ _ _ _ st4 loop)
variable {elt tg iter:Expr} {ifs:List Expr} {scope:Scope} {pos:Pos} {N':List Str} {ix:List (Option Nat)} {wi:TI} {g:TG} {tc:TT} {te:TE}
theorem vi7 (B:BlkOk X N' ix scope) (hc:X.calm=true) (hw:PI X tg iter wi)
  (hg:∀ C s H fp,PG (u35 X N' scope C s H fp) tg g) (hi:∀ C s H fp,PIfs (u35 X N' scope C s H fp) ifs tc) (he:∀ C s H fp,PE (u35 X N' scope C s H fp) elt te)
  (hs:∀ x,foldedSetIterable iter X.env x=pure x:=by intro _;rfl) :
  PE X (.ListComp elt [⟨tg,iter,ifs,0⟩] scope pos) (ve8 ix wi g tc te):=by
 intro pins s σ H Q I h;rw [eval_ListComp];refine wpAny_comprehension_free (use:=none) rfl hs (uc4 fun y hy e=>I.ok.has y.1 (B.frees y hy e)) B.kind B.names ?_;refine thn (hw pins s σ H _ I h) fun v s1 h1=>thn h1 fun itv s2 h2=>?_
 obtain ⟨it,fp,tn,J,H2,e,I2,T,st2,f2,q2⟩:=h2;subst e;refine v10 B hg hi he hc I2 T st2 f2 (Q:=Q) (q2 _ I2.fresh) fun C H' s' m I' fC hm q=>?_
 refine ⟨m,hm,fun h' sb=>⟨.ref s2.heap.objs.size,H',?_,rfl,q⟩⟩;exact I'.turned (t':=s'.toks) (it:=C) (fun b o hb e=>sb.extBut b o hb e) fC.1 fC.2.1 fC.2.2.2.1 fC.2.2.2.2.1 fC.2.2.2.2.2
def w38 (i:Nat) (t:TE):TS:=fun D σ H=>t σ H fun x H1=>D.nx (σ.set i (some x)) H1
theorem vh9 {i:Nat} {y:Str} {py spos:Pos} (B:BlkOk X N' ix scope) (hc:X.calm=true) (hN:X.N.Nodup) (hy:X.N[i]?=some y) (hl:Loc X.env.scope y) (hw:PI X tg iter wi)
  (hg:∀ C s H fp,PG (u35 X N' scope C s H fp) tg g) (hi:∀ C s H fp,PIfs (u35 X N' scope C s H fp) ifs tc) (he:∀ C s H fp,PE (u35 X N' scope C s H fp) elt te)
  (hsw:swapsWith (.ListComp elt [⟨tg,iter,ifs,0⟩] scope pos) (some (.Name y py)) spos.line X.env=pure true:=by rfl)
  (hf:X.fn y=true \/ X.env.scope.names.lookup y=some .local:=by first | exact .inl rfl | exact .inr rfl | assumption)
  (hs:∀ x,foldedSetIterable iter X.env x=pure x:=by intro _;rfl) :
  PS X (.Assign [.Name y py] (.ListComp elt [⟨tg,iter,ifs,0⟩] scope pos) spos) (w38 i (ve8 ix wi g tc te)):=by
 intro pins s σ H D I h;rw [exec_Assign_Name_used _ _ _ _ hsw];refine wpAny_bind (wpAny_standAt (wpAny_bind ?_))
 show wpAny _ X.A (do let _ <- comprehension (.ListComp elt [⟨tg,iter,ifs,0⟩] scope pos) scope X.env _ (newList []) false (eval iter X.env) (some (assign (.Name y py) X.env))) _ _ s
 refine wpAny_bind (wpAny_mono (wpAny_comprehension_free (use:=some (assign (.Name y py) X.env)) (Q:=fun _ s'=>SP X pins D .next s') rfl hs (uc4 fun y hy e=>I.ok.has y.1 (B.frees y hy e)) B.kind B.names
  (thn (hw pins s σ H _ I h) fun v s1 h1=>thn h1 fun itv s2 h2=>?_)) (fun _ s' hq=>wpAny_pure (wpAny_pure hq)) fun _ _ e=>e)
 obtain ⟨it,fp,tn,J,H2,e,I2,T,st2,f2,q2⟩:=h2;subst e;refine v10 B hg hi he hc I2 T st2 f2 (Q:=fun x H1=>D.nx (σ.set i (some x)) H1) (q2 _ I2.fresh) fun C H' s' m I' fC hm q=>?_
 show wpAny _ _ (assign (.Name y py) X.env (.ref s2.heap.objs.size)) _ _ _
 (refine wpAny_assign_Name (uf1 I' hN hy hl (v:=.ref s2.heap.objs.size) rfl (?_) hf);rintro s'' I'' ⟨a,hsame,ha⟩)
 have hCa:C ≠ a:=by
  rcases ha with z | z
  ·rw [z];exact fC.2.1
  ·intro e;exact fC.2.2.2.2.1 _ _ z e.symm
 refine ⟨m,hm.sameBut hsame hCa,fun h' sb=>⟨_,H',?_,q⟩⟩;exact I''.turned (t':=s''.toks) (it:=C) (fun b o hb e=>sb.extBut b o hb e) fC.1 fC.2.1 fC.2.2.2.1 fC.2.2.2.2.1 fC.2.2.2.2.2
end
section
variable {X:Cx} {pos:Pos}
def gLst (K:PySem.W.Frag) (n:Nat) (t:TGs):TG:=fun v σ H Q=>∃ a xs,v=.ref a /\ SqL K H a xs /\ xs.length=n /\ t xs σ H Q
theorem vi4 {es:List Expr} {k:Nat} {t:TGs} {n:Nat} (hc:X.calm=true) (h:PGs X es t)
  (hn:(assignEach es X.env).length=n:=by rfl) (hst:(assignEach es X.env).findIdx? (·.1)=none:=by rfl):PG X (.Tuple es k pos) (gLst X.K n t):=by
 intro pins s σ H v u Q I r hw;obtain ⟨a,xs,e1,hq,hl,hw⟩:=hw;subst e1;cases r;obtain ⟨its,rv,ht,hz⟩:=I.list hq;rw [PyProof.Rows.assign_Tuple];refine wpAny_bind (wpAny_standAt ?_);unfold unpack;have hsz:(assignEach es X.env).length=its.toArray.size:=by simp [hn,<- hl,rv.length]
 rw [hsz,hst];refine wpAny_bind (wpAny_holding (PySem.W.kun_itemsOf (I.ok.hd hc) ht.isList fun h' hx=>?_));have I1:Inv X pins σ H { s with heap:=h' }:=I.kept (t':=s.toks) fun b o e=>hx b o (Nat.ne_of_lt (Heap.lt_size e)) e
 exact h pins _ σ H xs _ Q I1 (by simpa using rv) hw
theorem w45 {tg:Expr} {t t':TG} (h:PG X tg t) (h':PG X tg t'):PG X tg (fun v σ H Q=>t v σ H Q \/ t' v σ H Q):=by
 intro pins s σ H v u Q I r q
 rcases q with q | q
 ·exact h pins s σ H v u Q I r q
 ·exact h' pins s σ H v u Q I r q
def iSeq (K:PySem.W.Frag) (tl:TE):TI:=fun σ H R=>tl σ H fun x H1=>∃ a,x=.ref a /\ (((∃ xs,SqL K H1 a xs) /\ R (Itl K a) H1) \/ ((∃ xs,SqT K H1 a xs) /\ R (Itt K a) H1))
theorem vs9 {tg l:Expr} {tl:TE} (hl:PE X l tl):PI X tg l (iSeq X.K tl):=by
 intro pins s σ H R I h
 (refine thn (hl pins s σ H _ I h) ?_;rintro v s1 ⟨x,H1,I1,r1,q1⟩)
 obtain ⟨a,e,⟨⟨xs,hq⟩,q⟩ | ⟨⟨xs,hq⟩,q⟩⟩:=q1
 ·subst e
  cases r1;obtain ⟨its,rv,p,hz⟩:=I1.list hq;refine wpAny_pyIter_list p.isList ?_;refine ⟨s1.heap.objs.size,[s1.heap.objs.size],_,_,H1,rfl,I1.kept (t':=s1.toks) fun b o e=>Heap.get?_push_of_some _ e,ur6 a _,⟨_,Heap.get?_push_size _ rfl,rfl,rfl⟩,fun b hb=>?_,q⟩;have e:b=s1.heap.objs.size:=by simpa using hb
  subst e;exact I1.fpOk (Nat.le_refl _) (I1.hok.fresh (Nat.le_refl _))
 ·subst e
  cases r1;obtain ⟨its,rv,p,hz⟩:=I1.tuple hq;refine wpAny_pyIter_tuple (show s1.heap.IsTuple a its.toArray from p) ?_;refine ⟨s1.heap.objs.size,[s1.heap.objs.size],_,_,H1,rfl,I1.kept (t':=s1.toks) fun b o e=>Heap.get?_push_of_some _ e,uo7 a _,⟨_,Heap.get?_push_size _ rfl,rfl,rfl⟩,fun b hb=>?_,q⟩;have e:b=s1.heap.objs.size:=by simpa using hb
  subst e;exact I1.fpOk (Nat.le_refl _) (I1.hok.fresh (Nat.le_refl _))
theorem vv2:OpR X (compareOp .Is) (fun x y H Q=>∃ b,y=.bl b /\ Q (.bl (decide (x=.bl b))) H):=by
 intro pins s σ H x y v u Q I rx ry h;obtain ⟨b,rfl,q⟩:=h;cases ry;refine wpAny_is_plain ?_ (u13 I q ?_)
 ·cases x <;> first
   | (cases rx;rfl)
   | (obtain ⟨t,rfl⟩:=rx;rfl)
 ·cases x <;> first
   | (obtain ⟨t,rfl⟩:=rx;rfl)
   | (cases rx;cases b <;> rfl)
   | (cases rx;rename_i c;cases b <;> cases c <;> rfl)
theorem v81 (hc:X.calm=true):CallR X (.builtin "sum") (fun xs H Q=>∃ (p:Addr) (ns:List Int),xs=[.ref p] /\ SqL X.K H p (ns.map V.int) /\ Q (.int ns.sum) H):=by
 intro pins s σ H xs us Q I r h;obtain ⟨p,ns,rfl,hq,q⟩:=h;obtain ⟨u,rfl,rx⟩:=vals1 r;cases rx;obtain ⟨its,r',pl,hz⟩:=I.list hq;obtain ⟨m,F⟩:=I.fr;have hi:IntsAre its ns:=intsAre_of r';obtain ⟨ys,hx⟩:=hi.allInts.items;have hl':s.heap.IsList p (intItems ys):=hx ▸ pl.isList;refine sum_intListG (I.ok.hd hc) hl' fun h' tk t' hk=>?_
 have e1:ns=ys.toList.map (·.1):=by
  rw [<- nums_intItems,<- hx];exact (show numsOf its.toArray.toList=ns from hi.numsOf).symm
 have e2:preSum (numAt ys) ys.size=ns.sum:=by
  rw [preSum_eq,List.take_of_length_le (by simp),e1]
 rw [e2];exact ⟨.int ns.sum,H,I.kept hk,⟨_,rfl⟩,q⟩
def subK (n T:String):Bool:=n == T || (n == "bool" && T == "int")
end
end L2
namespace L2
open PySem
def XH (a C:Addr) (dx:Option Addr) (h:Heap):Prop:=∃ o vs,h.get? a=some o /\ o.cls=.ref C /\ o.dict=dx /\ o.data=.fields vs
def XDict (H:Hp):Option Addr->List (Str × V)->Prop
 | none,ys=>ys=[]
 | some d,ys=>∃ o,H d=some (.frz o (.xd ys))
end L2
namespace L3
open PySem L2
inductive D where
 | non | bl (b:Bool) | int (i:Int) | str (x:Str) | tup (xs:List D) | ref (a:Addr) | ty (n:String)
inductive DO where
 | lst (xs:List D) | fro (xs:List D) | dic (kvs:List (Key × D)) | dit (kvs:List (List Key × D)) | ins (C:Addr) (fs:List (Str × D)) | exc (C:Addr) (fs:List (Str × D)) | frd (kvs:List (Key × D)) | tb (qn:Str) (bm:Addr)
abbrev Gp:=Addr->Option DO
def gup (G:Gp) (a:Addr) (o:DO):Gp:=fun b=>if b=a then some o else G b
theorem u02 {G:Gp} {a:Addr} {o:DO}:gup G a o a=some o:=by unfold gup;rw [if_pos rfl]
theorem u07 {G:Gp} {a b:Addr} {o:DO} (h:b ≠ a):gup G a o b=G b:=by unfold gup;rw [if_neg h]
theorem u37 {G:Gp} {a:Addr} {o u:DO}:gup (gup G a o) a u=gup G a u:=by
 funext b;unfold gup;split <;> rfl
theorem gne {G:Gp} {a b:Addr} {o:DO} (h:G a=some o) (h':G b=none):a ≠ b:=by
 intro e;subst e;rw [h] at h';cases h'
structure Le (H H':Hp):Prop where
 tups:∀ b xs,H b=some (.tup xs)->H' b=some (.tup xs)
 frzs:∀ b o u,H b=some (.frz o u)->H' b=some (.frz o u)
theorem Le.refl (H:Hp):Le H H:=⟨fun _ _ h=>h,fun _ _ _ h=>h⟩
theorem Le.trans {H H1 H2:Hp} (a:Le H H1) (b:Le H1 H2):Le H H2:=⟨fun c xs h=>b.tups c xs (a.tups c xs h),fun c o u h=>b.frzs c o u (a.frzs c o u h)⟩
theorem Le.sqT {K:PySem.W.Frag} {H H':Hp} (l:Le H H') {a:Addr} {xs:List V} (h:SqT K H a xs):SqT K H' a xs:=by
 rcases h with (h | ⟨o,h⟩) | h
 ·exact .inl (.inl (l.tups _ _ h))
 ·exact .inl (.inr ⟨o,l.frzs _ _ _ h⟩)
 ·exact .inr h
theorem Le.fresh {H:Hp} {p:Addr} {o:HO} (h:H p=none):Le H (upd H p o) :=
 ⟨fun b xs q=>by rw [u12 (u22 q h)];exact q,fun b o u q=>by rw [u12 (u22 q h)];exact q⟩
mutual
def RelD (K:PySem.W.Frag) (H:Hp):D->V->Prop
 | .non,v=>v=.non
 | .bl b,v=>v=.bl b
 | .int i,v=>v=.int i
 | .str x,v=>v=.str x
 | .ref a,v=>v=.ref a
 | .ty n,v=>v=.ty n
 | .tup ds,v=>∃ a xs,v=.ref a /\ SqT K H a xs /\ RelDs K H ds xs
def RelDs (K:PySem.W.Frag) (H:Hp):List D->List V->Prop
 | [],xs=>xs=[]
 | d::ds,xs=>∃ x r,xs=x::r /\ RelD K H d x /\ RelDs K H ds r
end
section
variable {K:PySem.W.Frag} {H H':Hp}
mutual
theorem RelD.le (l:Le H H'):∀ {d:D} {v:V},RelD K H d v->RelD K H' d v
 | .non,_,h=>by simpa [RelD] using h
 | .bl _,_,h=>by simpa [RelD] using h
 | .int _,_,h=>by simpa [RelD] using h
 | .str _,_,h=>by simpa [RelD] using h
 | .ref _,_,h=>by simpa [RelD] using h
 | .ty _,_,h=>by simpa [RelD] using h
 | .tup ds,_,h=>by
  rw [RelD] at h ⊢;obtain ⟨a,xs,e,s,r⟩:=h;exact ⟨a,xs,e,l.sqT s,RelDs.le l r⟩
theorem RelDs.le (l:Le H H'):∀ {ds:List D} {xs:List V},RelDs K H ds xs->RelDs K H' ds xs
 | [],_,h=>by simpa [RelDs] using h
 | d::ds,_,h=>by
  rw [RelDs] at h ⊢;obtain ⟨x,r,e,h1,h2⟩:=h;exact ⟨x,r,e,RelD.le l h1,RelDs.le l h2⟩
end
theorem RelDs.nil:RelDs K H [] []:=by rw [RelDs]
theorem RelDs.cons {d:D} {ds:List D} {x:V} {xs:List V} (h:RelD K H d x) (t:RelDs K H ds xs):RelDs K H (d::ds) (x::xs):=by
 rw [RelDs];exact ⟨x,xs,rfl,h,t⟩
theorem RelDs.inv_nil {xs:List V} (h:RelDs K H [] xs):xs=[]:=by rw [RelDs] at h;exact h
theorem RelDs.inv_cons {d:D} {ds:List D} {xs:List V} (h:RelDs K H (d::ds) xs):∃ x r,xs=x::r /\ RelD K H d x /\ RelDs K H ds r:=by rw [RelDs] at h;exact h
theorem RelDs.length:∀ {ds:List D} {xs:List V},RelDs K H ds xs->ds.length=xs.length
 | [],_,h=>by rw [h.inv_nil];rfl
 | _::_,_,h=>by obtain ⟨x,r,e,_,t⟩:=h.inv_cons;rw [e,List.length_cons,List.length_cons,t.length]
theorem RelDs.get:∀ {ds:List D} {xs:List V} {i:Nat} {d:D},RelDs K H ds xs->ds[i]?=some d->∃ x,xs[i]?=some x /\ RelD K H d x
 | [],_,_,_,_,e=>by simp at e
 | _::_,_,0,_,h,e=>by
  obtain ⟨x,r,rfl,h1,t⟩:=h.inv_cons;simp at e;subst e;exact ⟨x,rfl,h1⟩
 | _::_,_,i+1,d,h,e=>by
  obtain ⟨x,r,rfl,h1,t⟩:=h.inv_cons;obtain ⟨y,h2,h3⟩:=RelDs.get (i:=i) t (by simpa using e);exact ⟨y,by simpa using h2,h3⟩
theorem RelDs.of:∀ {ds:List D} {xs:List V},ds.length=xs.length->(∀ (i:Nat) d x,ds[i]?=some d->xs[i]?=some x->RelD K H d x)->RelDs K H ds xs
 | [],[],_,_=>.nil
 | [],_::_,h,_=>by simp at h
 | _::_,[],h,_=>by simp at h
 | d::ds,x::xs,h,f=>.cons (f 0 d x rfl rfl) (RelDs.of (by simpa using h) fun i d x a b=>f (i+1) d x (by simpa using a) (by simpa using b))
theorem RelDs.append:∀ {ds es:List D} {xs ys:List V},RelDs K H ds xs->RelDs K H es ys->RelDs K H (ds++es) (xs++ys)
 | [],_,_,_,h,t=>by rw [h.inv_nil];exact t
 | _::_,_,_,_,h,t=>by
  obtain ⟨x,r,rfl,h1,h2⟩:=h.inv_cons;exact .cons h1 (h2.append t)
theorem RelDs.set {d:D} {x:V} (q:RelD K H d x):∀ {ds:List D} {xs:List V} (i:Nat),RelDs K H ds xs->RelDs K H (ds.set i d) (xs.set i x)
 | [],_,_,h=>by rw [h.inv_nil];exact .nil
 | _::_,_,0,h=>by
  obtain ⟨x,r,rfl,h1,h2⟩:=h.inv_cons;exact .cons q h2
 | _::_,_,i+1,h=>by
  obtain ⟨x,r,rfl,h1,h2⟩:=h.inv_cons;exact .cons h1 (h2.set q i)
theorem RelDs.take:∀ {ds:List D} {xs:List V} (n:Nat),RelDs K H ds xs->RelDs K H (ds.take n) (xs.take n)
 | _,_,0,_=>by simpa using RelDs.nil
 | [],_,_+1,h=>by rw [h.inv_nil];exact .nil
 | _::_,_,n+1,h=>by
  obtain ⟨x,r,rfl,h1,h2⟩:=h.inv_cons;exact .cons h1 (h2.take n)
theorem RelDs.reverse:∀ {ds:List D} {xs:List V},RelDs K H ds xs->RelDs K H ds.reverse xs.reverse
 | [],_,h=>by rw [h.inv_nil];exact .nil
 | _::_,_,h=>by
  obtain ⟨x,r,rfl,h1,h2⟩:=h.inv_cons;rw [List.reverse_cons,List.reverse_cons];exact h2.reverse.append (.cons h1 .nil)
theorem RelDs.rep {ds:List D} {xs:List V} (h:RelDs K H ds xs):∀ k:Nat,RelDs K H (List.replicate k ds).flatten (List.replicate k xs).flatten
 | 0=>.nil
 | k+1=>by rw [List.replicate_succ,List.replicate_succ,List.flatten_cons,List.flatten_cons];exact h.append (h.rep k)
def RelPs {κ:Type} (K:PySem.W.Frag) (H:Hp) (ps:List (κ × D)) (qs:List (κ × V)):Prop:=ps.map (·.1)=qs.map (·.1) /\ RelDs K H (ps.map (·.2)) (qs.map (·.2))
theorem RelPs.le {κ:Type} (l:Le H H') {ps:List (κ × D)} {qs:List (κ × V)} (h:RelPs K H ps qs):RelPs K H' ps qs:=⟨h.1,RelDs.le l h.2⟩
end
def TbOk (H:Hp) (qn:Str) (ps:Array Value):Prop:=TriplesOk ps.toList /\ ∀ pos cv,codeAmong pos ps.toList=some cv->∃ (c:Addr) (o:Obj) (vs:Array Value) (t:Tok),cv=.ref c /\ o.data=.fields vs /\ vs[1]?=some (.str qn t) /\ H c=some (.frz o (.ext fun h=>h.get? c=some o))
def BmOk (H:Hp) (bm:Addr):Prop:=∃ o:Obj,H bm=some (.frz o (.ext fun h=>h.get? bm=some o)) /\ o.cls=.type "module" /\ o.dict=some builtinsNs /\ o.data=.plain
def ObjD (K:PySem.W.Frag) (H:Hp) (a:Addr):DO->Prop
 | .lst ds=>∃ xs,H a=some (.lst xs) /\ RelDs K H ds xs
 | .fro ds=>∃ o xs,H a=some (.frz o (.lst xs)) /\ RelDs K H ds xs
 | .dic kvs=>∃ ys,H a=some (.dK ys) /\ RelPs K H kvs ys
 | .dit kvs=>∃ ys,H a=some (.dT ys) /\ RelPs K H kvs ys
 | .ins C fs=>∃ dx ys,H a=some (.ins C dx ys) /\ RelPs K H fs ys
 | .exc C fs=>∃ dx ys,H a=some (.ext (XH a C dx)) /\ XDict H dx ys /\ RelPs K H fs ys
 | .frd kvs=>∃ o ys,H a=some (.frz o (.dK ys)) /\ RelPs K H kvs ys
 | .tb qn bm=>∃ ps,H a=some (.tbl ps) /\ TbOk H qn ps /\ BmOk H bm
theorem _root_.L2.XDict.le {H H':Hp} (l:Le H H') {dx:Option Addr} {ys:List (Str × V)} (h:XDict H dx ys):XDict H' dx ys:=by
 cases dx with
 | none=>exact h
 | some d=>obtain ⟨o,e⟩:=h;exact ⟨o,l.frzs _ _ _ e⟩
def Con (K:PySem.W.Frag) (G:Gp) (H:Hp):Prop:=∀ a o,G a=some o->ObjD K H a o
section
variable {K:PySem.W.Frag} {G:Gp} {H H':Hp} {a p:Addr} {o:DO}
theorem ObjD.some (h:ObjD K H a o):∃ u,H a=some u:=by
 cases o with
 | lst ds=>obtain ⟨xs,e,_⟩:=h;exact ⟨_,e⟩
 | fro ds=>obtain ⟨_,xs,e,_⟩:=h;exact ⟨_,e⟩
 | dic ds=>obtain ⟨xs,e,_⟩:=h;exact ⟨_,e⟩
 | dit ds=>obtain ⟨xs,e,_⟩:=h;exact ⟨_,e⟩
 | ins C ds=>obtain ⟨_,xs,e,_⟩:=h;exact ⟨_,e⟩
 | exc C ds=>obtain ⟨_,xs,e,_⟩:=h;exact ⟨_,e⟩
 | frd ds=>obtain ⟨_,xs,e,_⟩:=h;exact ⟨_,e⟩
 | tb qn bm=>obtain ⟨_,e,_⟩:=h;exact ⟨_,e⟩
theorem ObjD.stay (h:ObjD K H a o) (l:Le H H') (e:H' a=H a):ObjD K H' a o:=by
 cases o with
 | lst ds=>obtain ⟨xs,q,r⟩:=h;exact ⟨xs,e.trans q,RelDs.le l r⟩
 | fro ds=>obtain ⟨o,xs,q,r⟩:=h;exact ⟨o,xs,e.trans q,RelDs.le l r⟩
 | dic ds=>obtain ⟨xs,q,r⟩:=h;exact ⟨xs,e.trans q,r.le l⟩
 | dit ds=>obtain ⟨xs,q,r⟩:=h;exact ⟨xs,e.trans q,r.le l⟩
 | ins C ds=>obtain ⟨dx,xs,q,r⟩:=h;exact ⟨dx,xs,e.trans q,r.le l⟩
 | exc C ds=>obtain ⟨dx,xs,q,z,r⟩:=h;exact ⟨dx,xs,e.trans q,z.le l,r.le l⟩
 | frd ds=>obtain ⟨o,xs,q,r⟩:=h;exact ⟨o,xs,e.trans q,r.le l⟩
 | tb qn bm=>obtain ⟨ps,q,⟨r1,r2⟩,o,b1,b2⟩:=h;exact ⟨ps,e.trans q,⟨r1,fun pos cv z=>let ⟨c,o,vs,t,z1,z2,z3,z4⟩:=r2 pos cv z;⟨c,o,vs,t,z1,z2,z3,l.frzs _ _ _ z4⟩⟩,o,l.frzs _ _ _ b1,b2⟩
theorem Con.fresh (c:Con K G H) (h:H p=none):G p=none:=by
 cases e:G p with
 | none=>rfl
 | some o=>obtain ⟨u,q⟩:=(c p o e).some;rw [h] at q;cases q
theorem Con.stay (c:Con K G H) (l:Le H H') (e:∀ a o,G a=some o->H' a=H a):Con K G H':=fun a o q=>(c a o q).stay l (e a o q)
theorem Con.side {u:HO} (c:Con K G H) (h:H p=none):Con K G (upd H p u):=c.stay (Le.fresh h) fun a o q=>by
 obtain ⟨u,e⟩:=(c a o q).some;exact u12 (u22 e h)
theorem Con.put {u:HO} (c:Con K G H) (l:Le H (upd H p u)) (n:ObjD K (upd H p u) p o):Con K (gup G p o) (upd H p u):=fun b q e=>by
 by_cases hb:b=p
 ·subst hb;rw [u02] at e;cases e;exact n
 ·rw [u07 hb] at e
  exact (c b q e).stay l (u12 hb)
theorem Le.lst {xs ys:List V} (h:H p=some (.lst xs)):Le H (upd H p (.lst ys)) :=
  ⟨fun b zs q => by by_cases e : b = p
                    · subst e;rw [h] at q;cases q
                    · rw [u12 e];exact q,
   fun b o u q => by by_cases e : b = p
                     · subst e;rw [h] at q;cases q
                     · rw [u12 e];exact q⟩
theorem Le.dK {xs ys:List (Key × V)} (h:H p=some (.dK xs)):Le H (upd H p (.dK ys)) :=
  ⟨fun b zs q => by by_cases e : b = p
                    · subst e;rw [h] at q;cases q
                    · rw [u12 e];exact q,
   fun b o u q => by by_cases e : b = p
                     · subst e;rw [h] at q;cases q
                     · rw [u12 e];exact q⟩
theorem Le.ins {C dx C' dx':Addr} {xs ys:List (Str × V)} (h:H p=some (.ins C dx xs)):Le H (upd H p (.ins C' dx' ys)) :=
  ⟨fun b zs q => by by_cases e : b = p
                    · subst e;rw [h] at q;cases q
                    · rw [u12 e];exact q,
   fun b o u q => by by_cases e : b = p
                     · subst e;rw [h] at q;cases q
                     · rw [u12 e];exact q⟩
theorem Con.lstNew {ds:List D} {xs:List V} (c:Con K G H) (h:H p=none) (r:RelDs K H ds xs):Con K (gup G p (.lst ds)) (upd H p (.lst xs)) :=
 c.put (Le.fresh h) ⟨xs,u14,RelDs.le (Le.fresh h) r⟩
theorem Con.lstSet {ds:List D} {xs ys:List V} (c:Con K G H) (h:H p=some (.lst ys)) (r:RelDs K H ds xs):Con K (gup G p (.lst ds)) (upd H p (.lst xs)) :=
 c.put (Le.lst h) ⟨xs,u14,RelDs.le (Le.lst h) r⟩
end
abbrev DSt:=List (Option D)
def RelSt (K:PySem.W.Frag) (H:Hp) (σd:DSt) (σ:St):Prop:=σd.length=σ.length /\ ∀ (i:Nat) d,σd[i]?=some (some d)->∃ v,σ[i]?=some (some v) /\ RelD K H d v
theorem RelSt.le {K:PySem.W.Frag} {H H':Hp} {σd:DSt} {σ:St} (h:RelSt K H σd σ) (l:Le H H'):RelSt K H' σd σ :=
 ⟨h.1,fun i d e=>let ⟨v,a,b⟩:=h.2 i d e;⟨v,a,RelD.le l b⟩⟩
theorem RelSt.set {K:PySem.W.Frag} {H:Hp} {σd:DSt} {σ:St} {d:D} {v:V} (h:RelSt K H σd σ) (i:Nat) (r:RelD K H d v):RelSt K H (σd.set i (some d)) (σ.set i (some v)):=by
 refine ⟨by rw [List.length_set,List.length_set];exact h.1,fun j e q=>?_⟩;rw [List.getElem?_set] at q;split at q
 ·rename_i hij;subst hij
  split at q
  ·rename_i hl;cases q
   exact ⟨v,by rw [List.getElem?_set_self (by rw [<- h.1];exact hl)],r⟩
  ·cases q
 ·rename_i hij
  obtain ⟨w,a,b⟩:=h.2 j e q;exact ⟨w,by rw [List.getElem?_set_ne hij];exact a,b⟩
abbrev DK:=D->Gp->Prop
abbrev TE3:=DSt->Gp->DK->Prop
abbrev TT3:=DSt->Gp->(Bool->Gp->Prop)->Prop
abbrev TA3:=DSt->Gp->(List D->Gp->Prop)->Prop
structure Ends3 where
 nx:DSt->Gp->Prop
 rt:DK
 bk:DSt->Gp->Prop:=fun _ _=>False
 ct:DSt->Gp->Prop:=fun _ _=>False
abbrev TS3:=Ends3->DSt->Gp->Prop
def FutE (K:PySem.W.Frag) (H:Hp) (q:DK) (Q:VK):Prop:=∀ d G' v H',RelD K H' d v->Con K G' H'->Le H H'->q d G'->Q v H'
def FutT (K:PySem.W.Frag) (H:Hp) (q:Bool->Gp->Prop) (Q:Bool->Hp->Prop):Prop:=∀ b G' H',Con K G' H'->Le H H'->q b G'->Q b H'
def FutA (K:PySem.W.Frag) (H:Hp) (q:List D->Gp->Prop) (Q:List V->Hp->Prop):Prop:=∀ ds G' vs H',RelDs K H' ds vs->Con K G' H'->Le H H'->q ds G'->Q vs H'
def FutS (K:PySem.W.Frag) (H:Hp) (q:DSt->Gp->Prop) (Q:St->Hp->Prop):Prop:=∀ σd G' σ H',RelSt K H' σd σ->Con K G' H'->Le H H'->q σd G'->Q σ H'
theorem FutE.le {K:PySem.W.Frag} {H H1:Hp} {q:DK} {Q:VK} (f:FutE K H q Q) (l:Le H H1):FutE K H1 q Q:=fun d G v H' r c l'=>f d G v H' r c (l.trans l')
theorem FutS.le {K:PySem.W.Frag} {H H1:Hp} {q:DSt->Gp->Prop} {Q:St->Hp->Prop} (f:FutS K H q Q) (l:Le H H1):FutS K H1 q Q:=fun d G v H' r c l'=>f d G v H' r c (l.trans l')
structure FutD (K:PySem.W.Frag) (H:Hp) (d:Ends3) (D:Ends):Prop where
 nx:FutS K H d.nx D.nx
 rt:FutE K H d.rt D.rt
 bk:FutS K H d.bk D.bk
 ct:FutS K H d.ct D.ct
theorem FutD.le {K:PySem.W.Frag} {H H1:Hp} {d:Ends3} {D:Ends} (f:FutD K H d D) (l:Le H H1):FutD K H1 d D:=⟨f.nx.le l,f.rt.le l,f.bk.le l,f.ct.le l⟩
def lowE (K:PySem.W.Frag) (t:TE3):TE:=fun σ H Q=>∃ σd G q,RelSt K H σd σ /\ Con K G H /\ t σd G q /\ FutE K H q Q
def lowT (K:PySem.W.Frag) (t:TT3):TT:=fun σ H Q=>∃ σd G q,RelSt K H σd σ /\ Con K G H /\ t σd G q /\ FutT K H q Q
def lowA (K:PySem.W.Frag) (t:TA3):TA:=fun σ H Q=>∃ σd G q,RelSt K H σd σ /\ Con K G H /\ t σd G q /\ FutA K H q Q
def lowS (K:PySem.W.Frag) (t:TS3):TS:=fun D σ H=>∃ σd G d,RelSt K H σd σ /\ Con K G H /\ t d σd G /\ FutD K H d D
abbrev R3:=D->D->Gp->DK->Prop
def lowR (K:PySem.W.Frag) (r:R3):R2:=fun x y H Q=>∃ d e G q,RelD K H d x /\ RelD K H e y /\ Con K G H /\ r d e G q /\ FutE K H q Q
abbrev U3:=D->Gp->DK->Prop
abbrev C3:=List D->Gp->DK->Prop
def lowC (K:PySem.W.Frag) (r:C3):List V->Hp->VK->Prop:=fun xs H Q=>∃ ds G q,RelDs K H ds xs /\ Con K G H /\ r ds G q /\ FutE K H q Q
def dVar (i:Nat):TE3:=fun σ G q=>match σ[i]? with | some (some d)=>q d G | _=>False
def dC (d:D):TE3:=fun _ G q=>q d G
def dOp (r:R3) (ta tb:TE3):TE3:=fun σ G q=>ta σ G fun x G1=>tb σ G1 fun y G2=>r x y G2 q
def dUn (r:U3) (ta:TE3):TE3:=fun σ G q=>ta σ G fun x G1=>r x G1 q
def dNil:TA3:=fun _ G q=>q [] G
def uz7 (ta:TE3) (tr:TA3):TA3:=fun σ G q=>ta σ G fun x G1=>tr σ G1 fun xs G2=>q (x::xs) G2
def dTup (t:TA3):TE3:=fun σ G q=>t σ G fun xs G1=>xs.length<=sizeLine /\ q (.tup xs) G1
def dLst (t:TA3):TE3:=fun σ G q=>t σ G fun xs G1=>xs.length<=sizeLine /\ ∀ p,G1 p=none->q (.ref p) (gup G1 p (.lst xs))
def dB (t:TE3):TT3:=fun σ G q=>t σ G fun x G1=>match x with | .bl c=>q c G1 | _=>False
def dAnd (t u:TT3):TT3:=fun σ G q=>t σ G fun c G1=>if c=true then u σ G1 q else q false G1
def dOr (t u:TT3):TT3:=fun σ G q=>t σ G fun c G1=>if c=true then q true G1 else u σ G1 q
def dNot (t:TT3):TT3:=fun σ G q=>t σ G fun c G1=>q (!c) G1
def vn0 (ta tb:TE3):TE3:=fun σ G q=>ta σ G fun x G1=>match x with | .bl c=>if c=true then tb σ G1 q else q (.bl false) G1 | _=>False
def dOrV (ta tb:TE3):TE3:=fun σ G q=>ta σ G fun x G1=>match x with | .bl c=>if c=true then q (.bl true) G1 else tb σ G1 q | _=>False
def w61 (ta:TE3):TE3:=fun σ G q=>ta σ G fun x G1=>match x with | .bl c=>q (.bl (!c)) G1 | _=>False
def dIf (t:TT3) (ta tb:TE3):TE3:=fun σ G q=>t σ G fun c G1=>if c=true then ta σ G1 q else tb σ G1 q
section
variable {K:PySem.W.Frag} {σ:St} {H:Hp} {Q:VK}
theorem vj4 {i:Nat} (h:lowE K (dVar i) σ H Q):tVar i σ H Q:=by
 obtain ⟨σd,G,q,rs,c,t,f⟩:=h;unfold dVar at t;split at t
 ·rename_i d e
  obtain ⟨v,hv,r⟩:=rs.2 i d e;exact ⟨v,hv,f d G v H r c (Le.refl H) t⟩
 ·exact t.elim
theorem v59 {d:D} {v:V} (r:∀ H,RelD K H d v) (h:lowE K (dC d) σ H Q):tC v σ H Q:=by
 obtain ⟨σd,G,q,rs,c,t,f⟩:=h;exact f d G v H (r H) c (Le.refl H) t
theorem um3 {r:R3} {ta tb:TE3} (h:lowE K (dOp r ta tb) σ H Q):tOp (lowR K r) (lowE K ta) (lowE K tb) σ H Q:=by
 obtain ⟨σd,G,q,rs,c,t,f⟩:=h;exact ⟨σd,G,_,rs,c,t,fun d G1 v H1 r1 c1 l1 t1=>⟨σd,G1,_,rs.le l1,c1,t1,fun e G2 u H2 r2 c2 l2 t2=>⟨d,e,G2,q,RelD.le l2 r1,r2,c2,t2,f.le (l1.trans l2)⟩⟩⟩
theorem vj9 {Q:List V->Hp->Prop} (h:lowA K dNil σ H Q):tNil σ H Q:=by
 obtain ⟨σd,G,q,rs,c,t,f⟩:=h;exact f [] G [] H .nil c (Le.refl H) t
theorem v57 {ta:TE3} {tr:TA3} {Q:List V->Hp->Prop} (h:lowA K (uz7 ta tr) σ H Q):vr2 (lowE K ta) (lowA K tr) σ H Q:=by
 obtain ⟨σd,G,q,rs,c,t,f⟩:=h;exact ⟨σd,G,_,rs,c,t,fun d G1 v H1 r1 c1 l1 t1=>⟨σd,G1,_,rs.le l1,c1,t1,fun ds G2 vs H2 r2 c2 l2 t2=>f (d::ds) G2 (v::vs) H2 (.cons (RelD.le l2 r1) r2) c2 (l1.trans l2) t2⟩⟩
theorem vj5 {ta:TA3} (h:lowE K (dTup ta) σ H Q):tTup (lowA K ta) σ H Q:=by
 obtain ⟨σd,G,q,rs,c,t,f⟩:=h;refine ⟨σd,G,_,rs,c,t,fun ds G1 vs H1 r1 c1 l1 t1=>⟨by rw [<- r1.length];exact t1.1,fun p hp=>?_⟩⟩;refine f (.tup ds) G1 (.ref p) _ ?_ (c1.side hp) (l1.trans (Le.fresh hp)) t1.2;rw [RelD];exact ⟨p,vs,rfl,SqT.of u14,RelDs.le (Le.fresh hp) r1⟩
theorem vk0 {ta:TA3} (h:lowE K (dLst ta) σ H Q):tLst (lowA K ta) σ H Q:=by
 obtain ⟨σd,G,q,rs,c,t,f⟩:=h;refine ⟨σd,G,_,rs,c,t,fun ds G1 vs H1 r1 c1 l1 t1=>⟨by rw [<- r1.length];exact t1.1,fun p hp=>?_⟩⟩;exact f (.ref p) _ (.ref p) _ (by rw [RelD]) (c1.lstNew hp r1) (l1.trans (Le.fresh hp)) (t1.2 p (c1.fresh hp))
theorem RelD.bl_inv {c:Bool} {v:V} (h:RelD K H (.bl c) v):v=.bl c:=by rw [RelD] at h;exact h
theorem v61 {t u:TT3} {Q:Bool->Hp->Prop} (h:lowT K (dAnd t u) σ H Q):tAnd (lowT K t) (lowT K u) σ H Q:=by
 obtain ⟨σd,G,q,rs,c,t,f⟩:=h;refine ⟨σd,G,_,rs,c,t,fun b G1 H1 c1 l1 t1=>?_⟩;cases b with
 | true=>rw [if_pos rfl] at t1 ⊢;exact ⟨σd,G1,q,rs.le l1,c1,t1,fun b G2 H2 c2 l2 t2=>f b G2 H2 c2 (l1.trans l2) t2⟩
 | false=>rw [if_neg Bool.false_ne_true] at t1 ⊢;exact f _ _ _ c1 l1 t1
theorem vj8 {t u:TT3} {Q:Bool->Hp->Prop} (h:lowT K (dOr t u) σ H Q):tOr (lowT K t) (lowT K u) σ H Q:=by
 obtain ⟨σd,G,q,rs,c,t,f⟩:=h;refine ⟨σd,G,_,rs,c,t,fun b G1 H1 c1 l1 t1=>?_⟩;cases b with
 | false=>rw [if_neg Bool.false_ne_true] at t1 ⊢;exact ⟨σd,G1,q,rs.le l1,c1,t1,fun b G2 H2 c2 l2 t2=>f b G2 H2 c2 (l1.trans l2) t2⟩
 | true=>rw [if_pos rfl] at t1 ⊢;exact f _ _ _ c1 l1 t1
theorem vy2 {t:TT3} {ta tb:TE3} (h:lowE K (dIf t ta tb) σ H Q):tIf (lowT K t) (lowE K ta) (lowE K tb) σ H Q:=by
 obtain ⟨σd,G,q,rs,c,t,f⟩:=h;refine ⟨σd,G,_,rs,c,t,fun b G1 H1 c1 l1 t1=>?_⟩;cases b with
 | true=>rw [if_pos rfl] at t1 ⊢;exact ⟨σd,G1,q,rs.le l1,c1,t1,f.le l1⟩
 | false=>rw [if_neg Bool.false_ne_true] at t1 ⊢;exact ⟨σd,G1,q,rs.le l1,c1,t1,f.le l1⟩
end
def vm6:TS3:=fun E σ G=>E.nx σ G
def Go (k:DSt->Gp->Prop) (σ:DSt) (G:Gp):Prop:=k σ G
def dSeq (t u:TS3):TS3:=fun E σ G=>t { E with nx:=Go (u E) } σ G
def vm9 (te:TE3):TS3:=fun E σ G=>te σ G fun _ G1=>E.nx σ G1
def dRet (te:TE3):TS3:=fun E σ G=>te σ G E.rt
def w59:TS3:=fun E _ G=>E.rt .non G
def dIfS (c:TT3) (t u:TS3):TS3:=fun E σ G=>c σ G fun b G1=>if b=true then t E σ G1 else u E σ G1
abbrev TG3:=D->DSt->Gp->(DSt->Gp->Prop)->Prop
abbrev TGs3:=List D->DSt->Gp->(DSt->Gp->Prop)->Prop
def lowG (K:PySem.W.Frag) (t:TG3):TG:=fun v σ H Q=>∃ d σd G q,RelD K H d v /\ RelSt K H σd σ /\ Con K G H /\ t d σd G q /\ FutS K H q Q
def v62 (K:PySem.W.Frag) (t:TGs3):TGs:=fun vs σ H Q=>∃ ds σd G q,RelDs K H ds vs /\ RelSt K H σd σ /\ Con K G H /\ t ds σd G q /\ FutS K H q Q
def up6 (i:Nat):TG3:=fun d σ G q=>q (σ.set i (some d)) G
def jNil:TGs3:=fun ds σ G q=>ds=[] /\ q σ G
def vl0 (t:TG3) (u:TGs3):TGs3:=fun ds σ G q=>match ds with | d::r=>t d σ G fun σ' G'=>u r σ' G' q | []=>False
abbrev TSet3:=D->D->D->Gp->(Gp->Prop)->Prop
def uw2 (K:PySem.W.Frag) (t:TSet3):TSet:=fun o i v H Q=>∃ d e x G q,RelD K H d o /\ RelD K H e i /\ RelD K H x v /\ Con K G H /\ t d e x G q /\ ∀ G' H',Con K G' H'->Le H H'->q G'->Q H'
def jSub (to ti:TE3) (t:TSet3):TG3:=fun d σ G q=>to σ G fun o G1=>ti σ G1 fun i G2=>t o i d G2 fun G3=>q σ G3
def dAsg (te:TE3) (g:TG3):TS3:=fun E σ G=>te σ G fun x G1=>g x σ G1 E.nx
section
variable {K:PySem.W.Frag} {σ:St} {H:Hp} {E:Ends}
theorem v49 (h:lowS K vm6 E σ H):vq8 E σ H:=by
 obtain ⟨σd,G,d,rs,c,t,f⟩:=h;exact f.nx _ _ _ _ rs c (Le.refl H) t
theorem vj6 {t u:TS3} (h:lowS K (dSeq t u) E σ H):tSeq (lowS K t) (lowS K u) E σ H:=by
 obtain ⟨σd,G,d,rs,c,t,f⟩:=h;exact ⟨σd,G,_,rs,c,t,fun σd' G' σ' H' rs' c' l' t'=>⟨σd',G',d,rs',c',t',f.le l'⟩,f.rt,f.bk,f.ct⟩
theorem v56 {te:TE3} (h:lowS K (vm9 te) E σ H):vr0 (lowE K te) E σ H:=by
 obtain ⟨σd,G,d,rs,c,t,f⟩:=h;exact ⟨σd,G,_,rs,c,t,fun x G1 v H1 r1 c1 l1 t1=>f.nx _ _ _ _ (rs.le l1) c1 l1 t1⟩
theorem vj7 {te:TE3} (h:lowS K (dRet te) E σ H):tRet (lowE K te) E σ H:=by
 obtain ⟨σd,G,d,rs,c,t,f⟩:=h;exact ⟨σd,G,_,rs,c,t,f.rt⟩
theorem vk1 {tc:TT3} {t u:TS3} (h:lowS K (dIfS tc t u) E σ H):tIfS (lowT K tc) (lowS K t) (lowS K u) E σ H:=by
 obtain ⟨σd,G,d,rs,c,t,f⟩:=h;refine ⟨σd,G,_,rs,c,t,fun b G1 H1 c1 l1 t1=>?_⟩;cases b with
 | true=>rw [if_pos rfl] at t1 ⊢;exact ⟨σd,G1,d,rs.le l1,c1,t1,f.le l1⟩
 | false=>rw [if_neg Bool.false_ne_true] at t1 ⊢;exact ⟨σd,G1,d,rs.le l1,c1,t1,f.le l1⟩
theorem uv8 {i:Nat} {v:V} {Q:St->Hp->Prop} (h:lowG K (up6 i) v σ H Q):vl5 i v σ H Q:=by
 obtain ⟨d,σd,G,q,r,rs,c,t,f⟩:=h;exact f _ _ _ _ (rs.set i r) c (Le.refl H) t
theorem v52 {vs:List V} {Q:St->Hp->Prop} (h:v62 K jNil vs σ H Q):gNil vs σ H Q:=by
 obtain ⟨ds,σd,G,q,r,rs,c,⟨e,t⟩,f⟩:=h;subst e;exact ⟨r.inv_nil,f _ _ _ _ rs c (Le.refl H) t⟩
theorem uv9 {t:TG3} {u:TGs3} {vs:List V} {Q:St->Hp->Prop} (h:v62 K (vl0 t u) vs σ H Q):w01 (lowG K t) (v62 K u) vs σ H Q:=by
 obtain ⟨ds,σd,G,q,r,rs,c,t,f⟩:=h;cases ds with
 | nil=>exact t.elim
 | cons d ds =>
  obtain ⟨x,xs,rfl,r1,r2⟩:=r.inv_cons;exact ⟨x,xs,rfl,d,σd,G,_,r1,rs,c,t,fun σd' G' σ' H' rs' c' l' t'=>⟨ds,σd',G',q,RelDs.le l' r2,rs',c',t',f.le l'⟩⟩
theorem v51 {to ti:TE3} {t:TSet3} {v:V} {Q:St->Hp->Prop} (h:lowG K (jSub to ti t) v σ H Q):gSub (lowE K to) (lowE K ti) (uw2 K t) v σ H Q:=by
 obtain ⟨d,σd,G,q,r,rs,c,t,f⟩:=h;exact ⟨σd,G,_,rs,c,t,fun o G1 vo H1 r1 c1 l1 t1=>⟨σd,G1,_,rs.le l1,c1,t1,fun i G2 vi H2 r2 c2 l2 t2=>⟨o,i,d,G2,_,RelD.le l2 r1,r2,RelD.le (l1.trans l2) r,c2,t2,fun G3 H3 c3 l3 t3 =>
  f _ _ _ _ (rs.le (l1.trans (l2.trans l3))) c3 (l1.trans (l2.trans l3)) t3⟩⟩⟩
theorem vk3 {te:TE3} {g:TG3} (h:lowS K (dAsg te g) E σ H):tAsg (lowE K te) (lowG K g) E σ H:=by
 obtain ⟨σd,G,d,rs,c,t,f⟩:=h;exact ⟨σd,G,_,rs,c,t,fun x G1 v H1 r1 c1 l1 t1=>⟨x,σd,G1,_,r1,rs.le l1,c1,t1,f.nx.le l1⟩⟩
end
def whN (c:TT3) (tb:TS3) (E:Ends3):Nat->DSt->Gp->Prop
 | 0,_,_=>False
 | n+1,σ,G=>c σ G fun b G1=>if b=true then tb { E with nx:=whN c tb E n,ct:=whN c tb E n,bk:=E.nx } σ G1 else E.nx σ G1
def uz4 (c:TT3) (tb:TS3):TS3:=fun E σ G=>∃ n,whN c tb E n σ G
theorem uv5 {K:PySem.W.Frag} {c:TT3} {tb:TS3} {σ:St} {H:Hp} {E:Ends} (h:lowS K (uz4 c tb) E σ H):v99 (lowT K c) (lowS K tb) E σ H:=by
 obtain ⟨σd,G,d,rs,cc,⟨n,t⟩,f⟩:=h;refine ⟨fun m σ' H'=>∃ σd' G',Le H H' /\ RelSt K H' σd' σ' /\ Con K G' H' /\ whN c tb d m σd' G',⟨n,σd,G,Le.refl H,rs,cc,t⟩,?_⟩;rintro m σ1 H1 ⟨σd1,G1,l1,rs1,c1,t1⟩;cases m with
 | zero=>exact t1.elim
 | succ m =>
  refine ⟨σd1,G1,_,rs1,c1,t1,fun b G2 H2 c2 l2 t2=>?_⟩;cases b with
  | true =>
   rw [if_pos rfl] at t2 ⊢;refine ⟨fun σ' H'=>∃ σd' G',Le H H' /\ RelSt K H' σd' σ' /\ Con K G' H' /\ whN c tb d m σd' G',fun σ' H' w=>⟨m,Nat.lt_succ_self m,w⟩,σd1,G2,_,rs1.le l2,c2,t2,?_,?_,?_,?_⟩
   ·exact fun σd3 G3 σ3 H3 rs3 c3 l3 t3=>⟨σd3,G3,l1.trans (l2.trans l3),rs3,c3,t3⟩
   ·exact f.rt.le (l1.trans l2)
   ·exact f.nx.le (l1.trans l2)
   ·exact fun σd3 G3 σ3 H3 rs3 c3 l3 t3=>⟨σd3,G3,l1.trans (l2.trans l3),rs3,c3,t3⟩
  | false =>
   rw [if_neg Bool.false_ne_true] at t2 ⊢;exact f.nx _ _ _ _ (rs1.le l2) c2 (l1.trans l2) t2
structure IT where
 items:List D
 ok:Gp->Prop
structure ItRel (K:PySem.W.Frag) (H0:Hp) (it:IT) (J:It):Prop where
 go:∀ (i:Nat) G H,Le H0 H->Con K G H->it.ok G->i < it.items.length->J.go i H
 stop:∀ (i:Nat) G H,Le H0 H->Con K G H->it.ok G->it.items.length<=i->J.stop i H
 yld:∀ (i:Nat) G H x H',Le H0 H->Con K G H->it.ok G->i < it.items.length->J.yld i H x H'->Con K G H' /\ Le H H' /\ ∃ d,it.items[i]?=some d /\ RelD K H' d x
abbrev TI3:=DSt->Gp->(IT->Gp->Prop)->Prop
def lowI (K:PySem.W.Frag) (t:TI3):TI:=fun σ H R=>∃ σd G r,RelSt K H σd σ /\ Con K G H /\ t σd G r /\ ∀ it J G' H',ItRel K H' it J->Con K G' H'->Le H H'->r it G'->R J H'
def forL (ok:Gp->Prop) (g:TG3) (tb:TS3) (E:Ends3):List D->DSt->Gp->Prop
 | [],σ,G=>ok G /\ E.nx σ G
 | x::r,σ,G=>ok G /\ g x σ G fun σ1 G1=>tb { E with nx:=forL ok g tb E r,ct:=forL ok g tb E r,bk:=E.nx } σ1 G1
def dFor (wi:TI3) (g:TG3) (tb:TS3):TS3:=fun E σ G=>wi σ G fun it G1=>forL it.ok g tb E it.items σ G1
theorem vk2 {K:PySem.W.Frag} {wi:TI3} {g:TG3} {tb:TS3} {σ:St} {H:Hp} {E:Ends} (h:lowS K (dFor wi g tb) E σ H):tFor (lowI K wi) (lowG K g) (lowS K tb) E σ H:=by
 obtain ⟨σd,G,d,rs,cc,t,f⟩:=h;refine ⟨σd,G,_,rs,cc,t,fun it J G1 H1 ir c1 l1 t1=>?_⟩;refine ⟨fun i m σ' H'=>∃ σd' G',Le H1 H' /\ RelSt K H' σd' σ' /\ Con K G' H' /\ i+m=it.items.length /\ forL it.ok g tb d (it.items.drop i) σd' G',⟨it.items.length,σd,G1,Le.refl _,rs.le l1,c1,by omega,by rw [List.drop_zero];exact t1⟩,?_⟩;rintro i m σ2 H2 ⟨σd2,G2,l2,rs2,c2,e2,t2⟩
 by_cases hi:i < it.items.length
 ·rw [List.drop_eq_getElem_cons hi] at t2
  obtain ⟨ok2,t2⟩:=t2;refine .inr ⟨ir.go i G2 H2 l2 c2 ok2 hi,fun σ' H'=>∃ σd' G',Le H1 H' /\ RelSt K H' σd' σ' /\ Con K G' H' /\ forL it.ok g tb d (it.items.drop (i+1)) σd' G',?_,?_⟩
  ·rintro σ' H' ⟨σd',G',a1,a2,a3,a4⟩
   exact ⟨m - 1,by omega,σd',G',a1,a2,a3,by omega,a4⟩
  ·intro x H3 y
   obtain ⟨c3,l3,e,he,r3⟩:=ir.yld i G2 H2 x H3 l2 c2 ok2 hi y;rw [List.getElem?_eq_getElem hi] at he;cases he;refine ⟨_,σd2,G2,_,r3,rs2.le l3,c3,t2,fun σd4 G4 σ4 H4 rs4 c4 l4 t4=>?_⟩;have l14:Le H1 H4:=l2.trans (l3.trans l4);have key:FutS K H4 (forL it.ok g tb d (it.items.drop (i+1))) (fun σ' H'=>∃ σd' G',Le H1 H' /\ RelSt K H' σd' σ' /\ Con K G' H' /\ forL it.ok g tb d (it.items.drop (i+1)) σd' G') :=
    fun σd5 G5 σ5 H5 rs5 c5 l5 t5=>⟨σd5,G5,l14.trans l5,rs5,c5,t5⟩
   exact ⟨σd4,G4,_,rs4,c4,t4,key,f.rt.le (l1.trans l14),f.nx.le (l1.trans l14),key⟩
 ·rw [List.drop_eq_nil_of_le (by omega)] at t2
  exact .inl ⟨ir.stop i G2 H2 l2 c2 t2.1 (by omega),f.nx _ _ _ _ rs2 c2 (l1.trans l2) t2.2⟩
theorem RelDs.at_ {K:PySem.W.Frag} {H:Hp} {ds:List D} {xs:List V} {i:Nat} {x:V} (h:RelDs K H ds xs) (e:xs[i]?=some x):∃ d,ds[i]?=some d /\ RelD K H d x:=by
 have hl:i < ds.length:=by rw [h.length];exact (List.getElem?_eq_some_iff.mp e).1
 obtain ⟨y,hy,r⟩:=h.get (List.getElem?_eq_getElem hl);rw [e] at hy;cases hy;exact ⟨_,List.getElem?_eq_getElem hl,r⟩
theorem ux6 {K:PySem.W.Frag} {H0:Hp} {a:Addr} {ds:List D} {xs:List V} (s:SqT K H0 a xs) (r:RelDs K H0 ds xs):ItRel K H0 ⟨ds,fun _=>True⟩ (Itt K a) where
 go:=fun i G H l c _ hi=>⟨xs,xs[i]'(by rw [<- r.length];exact hi),l.sqT s,List.getElem?_eq_getElem _⟩
 stop:=fun i G H l c _ hi=>⟨xs,l.sqT s,by rw [<- r.length];exact hi⟩
 yld:=fun i G H x H' l c _ hi y=>by
  obtain ⟨e,y⟩:=y;subst e;have hx:=y xs (l.sqT s);obtain ⟨d,hd,rd⟩:=(RelDs.le l r).at_ hx
  exact ⟨c,Le.refl _,d,hd,rd⟩
def u10:Option DO->Option (List D)
 | some (.lst xs)=>some xs
 | some (.fro xs)=>some xs
 | _=>none
theorem u23 {K:PySem.W.Frag} {G:Gp} {H:Hp} {a:Addr} {ds:List D} (c:Con K G H) (h:u10 (G a)=some ds):∃ xs,SqL K H a xs /\ RelDs K H ds xs:=by
 cases e:G a with
 | none=>rw [e] at h;cases h
 | some o =>
  rw [e] at h;have q:=c a o e;cases o with
  | lst xs=>cases h;obtain ⟨ys,q,r⟩:=q;exact ⟨ys,.inl (.inl q),r⟩
  | fro xs=>cases h;obtain ⟨o,ys,q,r⟩:=q;exact ⟨ys,.inl (.inr ⟨o,q⟩),r⟩
  | dic _=>cases h
  | dit _=>cases h
  | ins _ _=>cases h
  | exc _ _=>cases h
  | frd _=>cases h
  | tb _ _=>cases h
theorem up7 {K:PySem.W.Frag} {H0:Hp} {a:Addr} {ds:List D}:ItRel K H0 ⟨ds,fun G=>u10 (G a)=some ds⟩ (Itl K a) where
 go:=fun i G H l c ok hi=>by
  obtain ⟨xs,s,r⟩:=u23 c ok;exact ⟨xs,xs[i]'(by rw [<- r.length];exact hi),s,List.getElem?_eq_getElem _⟩
 stop:=fun i G H l c ok hi=>by
  obtain ⟨xs,s,r⟩:=u23 c ok;exact ⟨xs,s,by rw [<- r.length];exact hi⟩
 yld:=fun i G H x H' l c ok hi y=>by
  obtain ⟨e,y⟩:=y;subst e;obtain ⟨xs,s,r⟩:=u23 c ok;obtain ⟨d,hd,rd⟩:=r.at_ (y xs s)
  exact ⟨c,Le.refl _,d,hd,rd⟩
def rngD (lo:Int) (n:Nat):List D:=(List.range n).map fun (i:Nat)=>.int (lo+i)
theorem ua4 {K:PySem.W.Frag} {H0:Hp} {lo:Int} {n:Nat}:ItRel K H0 ⟨rngD lo n,fun _=>True⟩ (Itr lo n) where
 go:=fun i G H l c _ hi=>by
  have:i < n:=by simpa [rngD] using hi
  exact this
 stop:=fun i G H l c _ hi=>by
  have:n<=i:=by simpa [rngD] using hi
  exact this
 yld:=fun i G H x H' l c _ hi y=>by
  obtain ⟨e,y⟩:=y;subst e;subst y;refine ⟨c,Le.refl _,.int (lo+i),?_,by rw [RelD]⟩;have:i < n:=by simpa [rngD] using hi
  simp [rngD,this]
abbrev Sp3:=List D->Gp->DK->Prop
def ua2 (K:PySem.W.Frag) (S:Sp3):Sp:=fun vs H Q _=>∃ ds G R,RelDs K H ds vs /\ Con K G H /\ S ds G R /\ FutE K H R Q
def dCall (S:Sp3) (dds:List D) (t:TA3):TE3:=fun σ G q=>t σ G fun ds G1=>∃ R,S (ds++dds) G1 R /\ ∀ d G',R d G'->q d G'
def v77 (C:Addr) (m:Str) (S:Sp3) (dds:List D) (ta:TE3) (t:TA3):TE3:=fun σ G q=>ta σ G fun x G1=>match x with
 | .ref a=>(match G1 a with
  | some (.ins C' fs)=>C'=C /\ fs.lookup m=none /\ t σ G1 fun ds G2=>∃ R,S (.ref a::(ds++dds)) G2 R /\ ∀ d G',R d G'->q d G'
  | _=>False)
 | _=>False
def w62 (C:Addr) (S:Sp3) (dds:List D) (t:TA3):TE3:=fun σ G q=>t σ G fun ds G1=>∀ x,G1 x=none ->
 ∃ R,S (.ref x::(ds++dds)) (gup G1 x (.ins C [])) R /\ ∀ d G',R d G'->d=.non /\ q (.ref x) G'
def putD (f:Str) (v:D):List (Str × D)->List (Str × D)
 | []=>[(f,v)]
 | (g,u)::r=>if g=f then (g,v)::r else (g,u)::putD f v r
def dFld (C:Addr) (ta:TE3) (f:Str):TE3:=fun σ G q=>ta σ G fun x G1=>match x with
 | .ref a=>(match G1 a with
  | some (.ins C' fs)=>C'=C /\ (match fs.lookup f with | some d=>q d G1 | none=>False)
  | _=>False)
 | _=>False
def w58 (C:Addr) (ta tv:TE3) (f:Str):TS3:=fun E σ G=>tv σ G fun y G1=>ta σ G1 fun x G2=>match x with
 | .ref a=>(match G2 a with
  | some (.ins C' fs)=>C'=C /\ fs.length < 1000 /\ E.nx σ (gup G2 a (.ins C (putD f y fs)))
  | _=>False)
 | _=>False
def w64 (C:Addr) (ta tv:TE3) (r:R3) (f:Str):TS3:=fun E σ G=>ta σ G fun x G1=>match x with
 | .ref a=>(match G1 a with
  | some (.ins C' fs)=>C'=C /\ (match fs.lookup f with
   | some d=>tv σ G1 fun y G2=>r d y G2 fun z G3=>(match G3 a with
    | some (.ins C'' fs')=>C''=C /\ fs'.length < 1000 /\ E.nx σ (gup G3 a (.ins C (putD f z fs')))
    | _=>False)
   | none=>False)
  | _=>False)
 | _=>False
section
variable {K:PySem.W.Frag} {σ:St} {H:Hp} {Q:VK} {E:Ends}
theorem v58 {S:Sp3} {dds:List D} {dvs:List V} {t:TA3} {XE:XK} (hd:∀ H,RelDs K H dds dvs) (h:lowE K (dCall S dds t) σ H Q):vr3 (ua2 K S) dvs XE (lowA K t) σ H Q:=by
 obtain ⟨σd,G,q,rs,c,t,f⟩:=h;exact ⟨σd,G,_,rs,c,t,fun ds G1 vs H1 r1 c1 l1 ⟨R,s1,t1⟩=>⟨_,G1,R,r1.append (hd H1),c1,s1,fun d G2 v H2 r2 c2 l2 t2=>f d G2 v H2 r2 c2 (l1.trans l2) (t1 d G2 t2)⟩⟩
theorem RelD.refI {a:Addr}:RelD K H (.ref a) (.ref a):=by rw [RelD]
theorem RelD.ref_inv {a:Addr} {v:V} (h:RelD K H (.ref a) v):v=.ref a:=by rw [RelD] at h;exact h
theorem RelPs.lookup_none {κ:Type} [BEq κ] {k:κ}:∀ {ps:List (κ × D)} {qs:List (κ × V)},RelPs K H ps qs->ps.lookup k=none->qs.lookup k=none
 | [],qs,h,_=>by
  cases qs with
  | nil=>rfl
  | cons _ _=>have:=h.1;simp at this
 | (g,d)::ps,qs,h,e=>by
  cases qs with
  | nil=>have:=h.1;simp at this
  | cons q qs =>
   obtain ⟨g',v⟩:=q;have h1:=h.1;simp only [List.map_cons,List.cons.injEq] at h1;obtain ⟨rfl,h1⟩:=h1;obtain ⟨x,r,e2,_,h2⟩:=(show RelDs K H (d::ps.map (·.2)) (v::qs.map (·.2)) from h.2).inv_cons;cases e2;rw [List.lookup_cons] at e ⊢;cases hk:k == g with
   | true=>rw [hk] at e;cases e
   | false=>rw [hk] at e;exact RelPs.lookup_none ⟨h1,h2⟩ e
theorem RelPs.lookup {κ:Type} [BEq κ] {k:κ} {d:D}:∀ {ps:List (κ × D)} {qs:List (κ × V)},RelPs K H ps qs->ps.lookup k=some d->∃ v,qs.lookup k=some v /\ RelD K H d v
 | [],qs,h,e=>by cases e
 | (g,d')::ps,qs,h,e=>by
  cases qs with
  | nil=>have:=h.1;simp at this
  | cons q qs =>
   obtain ⟨g',v⟩:=q;have h1:=h.1;simp only [List.map_cons,List.cons.injEq] at h1;obtain ⟨rfl,h1⟩:=h1;obtain ⟨x,r,e2,r1,h2⟩:=(show RelDs K H (d'::ps.map (·.2)) (v::qs.map (·.2)) from h.2).inv_cons;cases e2;rw [List.lookup_cons] at e ⊢;cases hk:k == g with
   | true=>rw [hk] at e;cases e;exact ⟨v,rfl,r1⟩
   | false=>rw [hk] at e;exact RelPs.lookup ⟨h1,h2⟩ e
theorem RelPs.nil {κ:Type}:RelPs (κ:=κ) K H [] []:=⟨rfl,.nil⟩
theorem RelPs.cons {κ:Type} {k:κ} {d:D} {v:V} {ps:List (κ × D)} {qs:List (κ × V)} (r:RelD K H d v) (h:RelPs K H ps qs):RelPs K H ((k,d)::ps) ((k,v)::qs) :=
 ⟨by simp [h.1],.cons r h.2⟩
theorem RelPs.inv_cons {κ:Type} {k:κ} {d:D} {ps:List (κ × D)} {qs:List (κ × V)} (h:RelPs K H ((k,d)::ps) qs):∃ v r,qs=(k,v)::r /\ RelD K H d v /\ RelPs K H ps r:=by
 cases qs with
 | nil=>have:=h.1;simp at this
 | cons q qs =>
  obtain ⟨g',v⟩:=q;have h1:=h.1;simp only [List.map_cons,List.cons.injEq] at h1;obtain ⟨rfl,h1⟩:=h1;obtain ⟨x,r,e2,r1,h2⟩:=(show RelDs K H (d::ps.map (·.2)) (v::qs.map (·.2)) from h.2).inv_cons;cases e2;exact ⟨v,qs,rfl,r1,h1,h2⟩
theorem RelPs.inv_nil {κ:Type} {qs:List (κ × V)} (h:RelPs K H [] qs):qs=[]:=by
 cases qs with
 | nil=>rfl
 | cons _ _=>have:=h.1;simp at this
theorem RelPs.length {κ:Type} {ps:List (κ × D)} {qs:List (κ × V)} (h:RelPs K H ps qs):ps.length=qs.length:=by
 have:=h.2.length;simpa using this
theorem v50 {C:Addr} {m:Str} {S:Sp3} {dds:List D} {dvs:List V} {ta:TE3} {t:TA3} {XE:XK} (hd:∀ H,RelDs K H dds dvs) (h:lowE K (v77 C m S dds ta t) σ H Q):vq9 C m (ua2 K S) dvs XE (lowE K ta) (lowA K t) σ H Q:=by
 obtain ⟨σd,G,q,rs,c,t,f⟩:=h;refine ⟨σd,G,_,rs,c,t,fun x G1 v H1 r1 c1 l1 t1=>?_⟩;split at t1
 ·rename_i a
  split at t1
  ·rename_i C' fs e
   obtain ⟨rfl,n,t1⟩:=t1;obtain ⟨dx,ys,e2,rf⟩:=c1 _ _ e;refine ⟨a,dx,ys,r1.ref_inv,e2,rf.lookup_none n,σd,G1,_,rs.le l1,c1,t1,fun ds G2 vs H2 r2 c2 l2 ⟨R,s2,t2⟩=>?_⟩;exact ⟨_,G2,R,.cons (RelD.le l2 r1) (r2.append (hd H2)),c2,s2,fun d G3 v H3 r3 c3 l3 t3=>f d G3 v H3 r3 c3 (l1.trans (l2.trans l3)) (t2 d G3 t3)⟩
  ·exact t1.elim
 ·exact t1.elim
theorem v60 {ta tb:TE3} (h:lowE K (vn0 ta tb) σ H Q):vr4 (lowE K ta) (lowE K tb) σ H Q:=by
 obtain ⟨σd,G,q,rs,c,t,f⟩:=h;refine ⟨σd,G,_,rs,c,t,fun x G1 v H1 r1 c1 l1 t1=>?_⟩;split at t1
 ·rename_i k
  refine ⟨k,r1.bl_inv,?_⟩;cases k with
  | true=>rw [if_pos rfl] at t1 ⊢;exact ⟨σd,G1,q,rs.le l1,c1,t1,f.le l1⟩
  | false=>rw [if_neg Bool.false_ne_true] at t1 ⊢;exact f _ _ _ _ (by rw [RelD]) c1 l1 t1
 ·exact t1.elim
def dAug (i:Nat) (te:TE3) (r:R3):TS3:=fun E σ G=>match σ[i]? with
 | some (some x)=>te σ G fun y G1=>r x y G1 fun z G2=>E.nx (σ.set i (some z)) G2
 | _=>False
abbrev TO3:=DSt->Gp->(Option Int->Gp->Prop)->Prop
def vm5:TO3:=fun _ G q=>q none G
def w60 (t:TE3):TO3:=fun σ G q=>t σ G fun x G1=>match x with | .int i=>q (some i) G1 | _=>False
abbrev RS3:=D->Option Int->Option Int->Gp->DK->Prop
def dSl (r:RS3) (te:TE3) (tl th:TO3):TE3:=fun σ G q=>te σ G fun x G1=>tl σ G1 fun l G2=>th σ G2 fun u G3=>r x l u G3 q
def dCB (r:C3) (t:TA3):TE3:=fun σ G q=>t σ G fun ds G1=>r ds G1 q
theorem vb8 {r:C3} {t:TA3} (h:lowE K (dCB r t) σ H Q):tCB (lowC K r) (lowA K t) σ H Q:=by
 obtain ⟨σd,G,q,rs,c,t,f⟩:=h;exact ⟨σd,G,_,rs,c,t,fun ds G1 vs H1 r1 c1 l1 t1=>⟨ds,G1,q,r1,c1,t1,f.le l1⟩⟩
abbrev M3:=D->List D->Gp->DK->Prop
def lowM (K:PySem.W.Frag) (r:M3):V->List V->Hp->VK->Prop:=fun x xs H Q=>∃ d ds G q,RelD K H d x /\ RelDs K H ds xs /\ Con K G H /\ r d ds G q /\ FutE K H q Q
def tyD (G:Gp) (T:String):D->Prop
 | .str _=>T = "str"
 | .int _=>T = "int"
 | .ref a=>match G a with
  | some (.lst _)=>T = "list"
  | some (.fro _)=>T = "list"
  | some (.dic _)=>T = "dict"
  | _=>False
 | _=>False
def dBM (T:String) (r:M3) (to:TE3) (t:TA3):TE3:=fun σ G q=>to σ G fun x G1=>tyD G1 T x /\ t σ G1 fun ds G2=>r x ds G2 q
def dBM0 (T:String) (r:M3) (to:TE3):TE3:=fun σ G q=>to σ G fun x G1=>tyD G1 T x /\ r x [] G1 q
theorem vb9 {T:String} {r:M3} {to:TE3} {t:TA3} (ty:∀ G H x v,Con K G H->RelD K H x v->tyD G T x->tyV K T v H) (h:lowE K (dBM T r to t) σ H Q):tBM K T (lowM K r) (lowE K to) (lowA K t) σ H Q:=by
 obtain ⟨σd,G,q,rs,c,t,f⟩:=h;exact ⟨σd,G,_,rs,c,t,fun x G1 v H1 r1 c1 l1 ⟨y,t1⟩=>⟨ty G1 H1 x v c1 r1 y,σd,G1,_,rs.le l1,c1,t1,fun ds G2 vs H2 r2 c2 l2 t2=>⟨x,ds,G2,q,RelD.le l2 r1,r2,c2,t2,f.le (l1.trans l2)⟩⟩⟩
end
end L3
namespace L3
open PySem PySem.Spec PyProof.Rows L2
section
variable {X:Cx}
theorem u34 {e:Expr} {t t':TE} (h:PE X e t) (w:∀ σ H Q,t' σ H Q->t σ H Q):PE X e t':=fun pins s σ H Q I q=>h pins s σ H Q I (w _ _ _ q)
theorem w35 {e:Expr} {t t':TT} (h:PT X e t) (w:∀ σ H Q,t' σ H Q->t σ H Q):PT X e t':=fun pins s σ H Q I q=>h pins s σ H Q I (w _ _ _ q)
theorem vq0 {e:Expr} {t t':TT} (h:PW X e t) (w:∀ σ H Q,t' σ H Q->t σ H Q):PW X e t':=fun wh pins s σ H Q I q=>h wh pins s σ H Q I (w _ _ _ q)
theorem vq2 {e:List Expr} {t t':TA} (h:PA X e t) (w:∀ σ H Q,t' σ H Q->t σ H Q):PA X e t':=fun pos pins s σ H Q I q=>h pos pins s σ H Q I (w _ _ _ q)
theorem ub3 {e:Stmt} {t t':TS} (h:PS X e t) (w:∀ D σ H,t' D σ H->t D σ H):PS X e t':=fun pins s σ H D I q=>h pins s σ H D I (w _ _ _ q)
theorem v94 {e:List Stmt} {t t':TS} (h:PSs X e t) (w:∀ D σ H,t' D σ H->t D σ H):PSs X e t':=fun pins s σ H D I q=>h pins s σ H D I (w _ _ _ q)
theorem ve3 {e:Expr} {t t':TG} (h:PG X e t) (w:∀ v σ H Q,t' v σ H Q->t v σ H Q):PG X e t':=fun pins s σ H v u Q I r q=>h pins s σ H v u Q I r (w _ _ _ _ q)
theorem v96 {e:List Expr} {t t':TGs} (h:PGs X e t) (w:∀ v σ H Q,t' v σ H Q->t v σ H Q):PGs X e t':=fun pins s σ H v u Q I r q=>h pins s σ H v u Q I r (w _ _ _ _ q)
theorem ve1 {t t':TSet} (h:PSet X t) (w:∀ o i v H Q,t' o i v H Q->t o i v H Q):PSet X t':=fun pins s σ H o i v ov iv u Q I r1 r2 r3 q=>h pins s σ H o i v ov iv u Q I r1 r2 r3 (w _ _ _ _ _ q)
theorem ur5 {tg e:Expr} {t t':TI} (h:PI X tg e t) (w:∀ σ H R,t' σ H R->t σ H R):PI X tg e t':=fun pins s σ H R I q=>h pins s σ H R I (w _ _ _ q)
theorem u54 {f:Value->Value->Sem Value} {r r':R2} (h:OpR X f r) (w:∀ x y H Q,r' x y H Q->r x y H Q):OpR X f r':=fun pins s σ H x y v u Q I a b q=>h pins s σ H x y v u Q I a b (w _ _ _ _ q)
theorem u39 {f:Value} {r r':List V->Hp->VK->Prop} (h:CallR X f r) (w:∀ x H Q,r' x H Q->r x H Q):CallR X f r':=fun pins s σ H x v Q I a q=>h pins s σ H x v Q I a (w _ _ _ q)
theorem v95 {id:String} {r r':V->List V->Hp->VK->Prop} (h:MtR X id r) (w:∀ x xs H Q,r' x xs H Q->r x xs H Q):MtR X id r':=fun pins s σ H x xs v us Q I a b q=>h pins s σ H x xs v us Q I a b (w _ _ _ _ q)
theorem vq1 {r r':R2} (h:IxR X r) (w:∀ x y H Q,r' x y H Q->r x y H Q):IxR X r':=fun va sl pins s σ H x y v u Q I a b q=>h va sl pins s σ H x y v u Q I a b (w _ _ _ _ q)
theorem ve2 {e:List Expr} {t t':TT} (h:PIfs X e t) (w:∀ σ H Q,t' σ H Q->t σ H Q):PIfs X e t':=fun pins s σ H Q I q=>h pins s σ H Q I (w _ _ _ q)
end
def E3 (X:Cx) (e:Expr) (t:TE3):Prop:=PE X e (lowE X.K t)
def T3 (X:Cx) (e:Expr) (t:TT3):Prop:=PT X e (lowT X.K t)
def W3 (X:Cx) (e:Expr) (t:TT3):Prop:=PW X e (lowT X.K t)
def A3 (X:Cx) (es:List Expr) (t:TA3):Prop:=PA X es (lowA X.K t)
def S3 (X:Cx) (st:Stmt) (t:TS3):Prop:=PS X st (lowS X.K t)
def Ss3 (X:Cx) (sts:List Stmt) (t:TS3):Prop:=PSs X sts (lowS X.K t)
def J3 (X:Cx) (e:Expr) (t:TG3):Prop:=PG X e (lowG X.K t)
def Js3 (X:Cx) (es:List Expr) (t:TGs3):Prop:=PGs X es (v62 X.K t)
def I3 (X:Cx) (tg e:Expr) (t:TI3):Prop:=PI X tg e (lowI X.K t)
def Ifs3 (X:Cx) (es:List Expr) (t:TT3):Prop:=PIfs X es (lowT X.K t)
abbrev Op3 (X:Cx) (f:Value->Value->Sem Value) (r:R3):Prop:=OpR X f (lowR X.K r)
abbrev Call3 (X:Cx) (f:Value) (r:C3):Prop:=CallR X f (lowC X.K r)
section
variable {X:Cx} {a b c e o:Expr} {es:List Expr} {pos apos cpos p p2:Pos} {ta tb tc te:TE3} {t u:TT3} {ts us:TA3}
theorem ev (i:Nat) {x:Str} {pos:Pos} (hN:X.N[i]?=some x:=by rfl) (hv:Vis X.env.scope x:=by first | exact Or.inl rfl | exact Or.inr (Or.inl rfl) | exact Or.inr (Or.inr rfl)) (hd:(x == ("__debug__" : Str))=false:=by decide)
  (hcd:(x == ("__classdict__" : Str))=false:=by decide):E3 X (.Name x pos) (dVar i):=u34 (vt3 hN hv hd hcd) fun _ _ _=>vj4
theorem u05 {i j pos}:E3 X (.Constant (.int i) j pos) (dC (.int i)):=u34 vt8 fun _ _ _=>v59 fun _=>by rw [RelD]
theorem e_bl {i j pos}:E3 X (.Constant (.bool i) j pos) (dC (.bl i)):=u34 w48 fun _ _ _=>v59 fun _=>by rw [RelD]
theorem uj2 {j pos}:E3 X (.Constant .none j pos) (dC .non):=u34 vt6 fun _ _ _=>v59 fun _=>by rw [RelD]
theorem ug3 {x j pos}:E3 X (.Constant (.str x) j pos) (dC (.str x)):=u34 vt4 fun _ _ _=>v59 fun _=>by rw [RelD]
theorem u06 {op:Operator} {r:R3} (ho:Op3 X (binaryOp op) r) (ha:E3 X a ta) (hb:E3 X b tb):E3 X (.BinOp a op b pos) (dOp r ta tb):=u34 (w46 ho ha hb) fun _ _ _=>um3
theorem uq1 {op:CmpOp} {r:R3} (ho:Op3 X (compareOp op) r) (ha:E3 X a ta) (hb:E3 X b tb) (hm:behindInMarks op b=false):E3 X (.Compare a [op] [b] pos) (dOp r ta tb):=u34 (vi8 ho ha hb hm) fun _ _ _=>um3
theorem u33 {op:CmpOp} {r:R3} (ho:Op3 X (compareOp op) r) (ha:E3 X a ta) (hb:E3 X b tb) (hm:behindInMarks op b=false):T3 X (.Compare a [op] [b] pos) (dB (dOp r ta tb)) :=
 w35 (vh6 ho ha hb hm) fun σ H Q h=>by
  obtain ⟨σd,G,q,rs,c,t,f⟩:=h;exact um3 (K:=X.K) ⟨σd,G,_,rs,c,t,fun x G1 v H1 r1 c1 l1 t1=>by
   split at t1
   ·rename_i k
    exact ⟨k,r1.bl_inv,f _ _ _ c1 l1 t1⟩
   ·exact t1.elim⟩
theorem vq3 (ha:T3 X a t):W3 X (.BoolOp .And [a] pos) t:=vh3 ha
theorem ve4 (ha:T3 X a t):W3 X (.BoolOp .Or [a] pos) t:=vr8 ha
theorem w_and {rest:List Expr} (ha:T3 X a t) (hb:W3 X (.BoolOp .And (b::rest) pos) u):W3 X (.BoolOp .And (a::b::rest) pos) (dAnd t u):=vq0 (vr9 ha hb) fun _ _ _=>v61
theorem w_or {rest:List Expr} (ha:T3 X a t) (hb:W3 X (.BoolOp .Or (b::rest) pos) u):W3 X (.BoolOp .Or (a::b::rest) pos) (dOr t u):=vq0 (w43 ha hb) fun _ _ _=>vj8
theorem t_w (h:W3 X e t):T3 X e t:=PW.pt h
theorem w05 {op} (h:E3 X a ta):E3 X (.BoolOp op [a] pos) ta:=vt5 h
theorem w08 {rest:List Expr} (ha:E3 X a ta) (hb:E3 X (.BoolOp .And (b::rest) pos) tb):E3 X (.BoolOp .And (a::b::rest) pos) (vn0 ta tb):=u34 (vu0 ha hb) fun _ _ _=>v60
theorem e_if (hc:T3 X c t) (ha:E3 X a ta) (hb:E3 X b tb):E3 X (.IfExp c a b pos) (dIf t ta tb):=u34 (v38 hc ha hb) fun _ _ _=>vy2
theorem u03:A3 X [] dNil:=vq2 vu1 fun _ _ _=>vj9
theorem u00 (ha:E3 X e te) (hr:A3 X es ts) (hs:starEach (e::es) X.env=(false,eval e X.env)::starEach es X.env:=by rfl):A3 X (e::es) (uz7 te ts):=vq2 (vj0 ha hr hs) fun _ _ _=>v57
theorem u48 {x1} (h:A3 X es ts):E3 X (.Tuple es x1 pos) (dTup ts):=u34 (vb4 h) fun _ _ _=>vj5
theorem u91 (h:A3 X es ts):E3 X (.List es pos) (dLst ts):=u34 (vt7 h) fun _ _ _=>vk0
theorem e_ix {r:R3} (hr:IxR X (lowR X.K r)) (ha:E3 X a ta) (hb:E3 X b tb) (hs:v16 b:=by exact fun _ _=>rfl):E3 X (.Subscript a b pos) (dOp r ta tb):=u34 (w47 hr ha hb hs) fun _ _ _=>um3
end
section
variable {X:Cx} {a b c e o value:Expr} {es:List Expr} {st:Stmt} {sts sts2:List Stmt} {pos pos' spos tpos:Pos} {te ta tv:TE3} {t:TT3} {s1 s2:TS3} {g:TG3}
theorem u31:Ss3 X [] vm6:=v94 vh8 fun _ _ _=>v49
theorem u04 (h1:S3 X st s1) (h2:Ss3 X sts s2):Ss3 X (st::sts) (dSeq s1 s2):=v94 (v30 h1 h2) fun _ _ _=>vj6
theorem u08 (h1:S3 X st s1):Ss3 X [st] s1:=vh7 h1
theorem us7 (he:E3 X e te) (hs:swapsWith e none pos.line X.env=pure false:=by rfl):S3 X (.Expr e pos) (vm9 te):=ub3 (vi0 he hs) fun _ _ _=>v56
theorem u20 (he:E3 X e te):S3 X (.Return (some e) pos) (dRet te):=ub3 (vs6 he) fun _ _ _=>vj7
theorem s_if (hc:T3 X c t) (ha:Ss3 X sts s1) (hb:Ss3 X sts2 s2):S3 X (.If c sts sts2 pos) (dIfS t s1 s2):=ub3 (w44 hc ha hb) fun _ _ _=>vk1
theorem u27 (i:Nat) {x:Str} (hN:X.N.Nodup) (hi:X.N[i]?=some x:=by rfl) (hx:Loc X.env.scope x:=by first | exact Or.inl rfl | exact Or.inr rfl) (hf:X.fn x=true \/ X.env.scope.names.lookup x=some .local:=by first | exact .inl rfl | exact .inr rfl | assumption):J3 X (.Name x pos) (up6 i) :=
 ve3 (vi3 hN hi hx hf) fun _ _ _ _=>uv8
theorem ux4:Js3 X [] jNil:=v96 vi2 fun _ _ _ _=>v52
theorem u68 {t:TG3} {u:TGs3} (h1:J3 X e t) (h2:Js3 X es u) (hs:(assignEach (e::es) X.env).map (·.2)=assign e X.env::(assignEach es X.env).map (·.2):=by rfl):Js3 X (e::es) (vl0 t u):=v96 (v37 h1 h2 hs) fun _ _ _ _=>uv9
theorem vy8 {i:Expr} {to ti:TE3} {t:TSet3} (ho:E3 X o to) (hi:E3 X i ti) (hs:PSet X (uw2 X.K t))
  (ha:∀ v,assign (.Subscript o i pos) X.env v=(do
   let ov <- holding [v] (eval o X.env)
   let iv <- holding [v,ov] (eval i X.env)
   standAt pos
   holding [v,ov,iv] (setItem ov iv v)
   release [v,ov,iv] []):=by intro _;rfl):J3 X (.Subscript o i pos) (jSub to ti t):=ve3 (vt2 ho hi hs ha) fun _ _ _ _=>v51
theorem vg7 {tg:Expr} (he:E3 X e te) (hg:J3 X tg g) (hs:swapsWithSole [tg] e pos.line X.env=pure false:=by rfl) (hw:swappedStores [tg] e X.env=pure none:=by rfl)
  (h1:(assignEach [tg] X.env).map (·.2)=[assign tg X.env]:=by rfl):S3 X (.Assign [tg] e pos) (dAsg te g):=ub3 (vs8 he hg hs hw h1) fun _ _ _=>vk3
theorem u26 (i:Nat) {x:Str} (hN:X.N.Nodup) (he:E3 X e te) (hi:X.N[i]?=some x:=by rfl) (hx:Loc X.env.scope x:=by first | exact Or.inl rfl | exact Or.inr rfl) (hs:swapsWith e (some (.Name x pos')) pos.line X.env=pure false:=by rfl)
  (hf:X.fn x=true \/ X.env.scope.names.lookup x=some .local:=by first | exact .inl rfl | exact .inr rfl | assumption):S3 X (.Assign [.Name x pos'] e pos) (dAsg te (up6 i)) :=
 ub3 (vs5 hN hi hx he hs hf) fun D σ H h=>by
  obtain ⟨σd,G,q,rs,c,t,f⟩:=h;exact ⟨σd,G,_,rs,c,t,fun x G1 v H1 r1 c1 l1 t1=>f.nx _ _ _ _ ((rs.le l1).set i r1) c1 l1 t1⟩
theorem vf0 {body:List Stmt} (hc:T3 X c t) (hb:Ss3 X body s1) (hp:PassesOwn (model X.prog X.w) X.A X.env X.xe:=by exact PassesOwn.never):S3 X (.While c body [] pos) (uz4 t s1):=ub3 (v31 hp hc hb) fun _ _ _=>uv5
theorem ui0 {tg iter:Expr} {body:List Stmt} {wi:TI3} (hi:I3 X tg iter wi) (hg:J3 X tg g) (hb:Ss3 X body s1) (hc:X.calm=true:=by rfl) (hp:PassesOwn (model X.prog X.w) X.A X.env X.xe:=by exact PassesOwn.never)
  (hs:∀ x,foldedSetIterable iter X.env x=pure x:=by intro _;rfl):S3 X (.For tg iter body [] pos) (dFor wi g s1):=ub3 (vs7 hp hc hi hg hb hs) fun _ _ _=>vk2
end
theorem uv7 {K:PySem.W.Frag} {σ:L2.St} {H:Hp} {ta:TA3} {R:It->Hp->Prop} (h:lowI K (fun σ G r=>ta σ G fun ds G1=>match ds with | [.int j]=>(-(2 ^ 62)<=j /\ j < 2 ^ 62) /\ r ⟨rngD 0 j.toNat,fun _=>True⟩ G1 | _=>False) σ H R):vz8 (lowA K ta) σ H R:=by
 obtain ⟨σd,G,q,rs,c,t,f⟩:=h;refine ⟨σd,G,_,rs,c,t,fun ds G1 vs H1 r1 c1 l1 t1=>?_⟩;split at t1
 ·rename_i j
  obtain ⟨x,r,rfl,rx,rr⟩:=r1.inv_cons;rw [RelD] at rx;subst rx;rw [rr.inv_nil];exact ⟨j,rfl,t1.1.1,t1.1.2,f _ _ _ _ ua4 c1 l1 t1.2⟩
 ·exact t1.elim
theorem uv6 {K:PySem.W.Frag} {σ:L2.St} {H:Hp} {ta:TA3} {R:It->Hp->Prop} (h:lowI K (fun σ G r=>ta σ G fun ds G1=>match ds with | [.int i,.int j]=>(-(2 ^ 62)<=i /\ i < 2 ^ 62 /\ -(2 ^ 62)<=j /\ j < 2 ^ 62) /\ r ⟨rngD i (j - i).toNat,fun _=>True⟩ G1 | _=>False) σ H R):vz7 (lowA K ta) σ H R:=by
 obtain ⟨σd,G,q,rs,c,t,f⟩:=h;refine ⟨σd,G,_,rs,c,t,fun ds G1 vs H1 r1 c1 l1 t1=>?_⟩;split at t1
 ·rename_i i j
  obtain ⟨x,r,rfl,rx,rr⟩:=r1.inv_cons;obtain ⟨y,r',rfl,ry,rr2⟩:=rr.inv_cons;rw [RelD] at rx ry;subst rx ry;rw [rr2.inv_nil];exact ⟨i,j,rfl,t1.1,f _ _ _ _ ua4 c1 l1 t1.2⟩
 ·exact t1.elim
def vq5 (ta:TA3):TI3:=fun σ G r=>ta σ G fun ds G1=>match ds with | [.int j]=>(-(2 ^ 62)<=j /\ j < 2 ^ 62) /\ r ⟨rngD 0 j.toNat,fun _=>True⟩ G1 | _=>False
def vq4 (ta:TA3):TI3:=fun σ G r=>ta σ G fun ds G1=>match ds with | [.int i,.int j]=>(-(2 ^ 62)<=i /\ i < 2 ^ 62 /\ -(2 ^ 62)<=j /\ j < 2 ^ 62) /\ r ⟨rngD i (j - i).toNat,fun _=>True⟩ G1 | _=>False
section
variable {X:Cx} {a b e o tg:Expr} {es:List Expr} {p pos apos cpos:Pos} {ta:TE3} {ts:TA3}
theorem uc3 (hg:Gl X "range") (hm:X.mg "range" = none) (ha:A3 X [a] ts) (hs:starEach [a] X.env=[(false,eval a X.env)]:=by rfl):I3 X tg (.Call (.Name "range" p) [a] [] pos) (vq5 ts):=ur5 (ut8 hg hm ha hs) fun _ _ _=>uv7
theorem um8 (hg:Gl X "range") (hm:X.mg "range" = none) (ha:A3 X [a,b] ts) (hs:starEach [a,b] X.env=[(false,eval a X.env),(false,eval b X.env)]:=by rfl) (hs2:starEach [b] X.env=[(false,eval b X.env)]:=by rfl) :
  I3 X tg (.Call (.Name "range" p) [a,b] [] pos) (vq4 ts):=ur5 (ut7 hg hm ha hs hs2) fun _ _ _=>uv6
variable {k:Nat} {f C:Addr} {fd:FuncData} {ps:List Str} {S:Sp3} {dds:List D} {dvs:List V} {ds:List Value} {x m:Str}
theorem w07 (F:FnOk X.prog X.w X.K X.mg X.base CX0 k f fd ps (ua2 X.K S)) (hr:Room k X.A) (hg:Gl X x) (hm:X.mg x=some (.ref f)) (hk:PySem.W.keepIn X.K (.ref f)=true) (hb:Binds X.K fd ps ds) (hd:Vals dvs ds) (hdd:∀ H,RelDs X.K H dds dvs)
  (ha:A3 X (e::es) ts) (hdb:(x == ("__debug__" : Str))=false:=by decide) (he:starEach (e::es) X.env=(false,eval e X.env)::starEach es X.env:=by rfl) (hpl:(backTo pos (starEach es X.env)).any (·.1)=false:=by rfl) :
  E3 X (.Call (.Name x p) (e::es) [] pos) (dCall S dds ts):=u34 (vi9 F hr hg hm hk hb hd pass0 ha hdb he hpl) fun _ _ _=>v58 hdd
theorem w06 {pl:Sem Bool} (he:E3 X o ta) (c:Cls X.K C) (hm:Meth X.K C m f) (F:FnOk X.prog X.w X.K X.mg X.base CX0 k f fd ps (ua2 X.K S)) (hr:Room k X.A) (hb:Binds X.K fd ps ds) (hd:Vals dvs ds) (hdd:∀ H,RelDs X.K H dds dvs) (ha:A3 X (e::es) ts)
  (hse:starEach (e::es) X.env=(false,eval e X.env)::starEach es X.env:=by rfl) (hpl:(backTo pos (starEach es X.env)).any (·.1)=false:=by rfl)
  (ht:eval (.Call (.Attribute o m apos) (e::es) [] pos) X.env=(do
   let ov <- eval o X.env
   standAt apos.atName
   let (f,first) <- holding [ov] (getMethod ov m pl)
   callWith pos f first (backTo pos (starEach (e::es) X.env)) (backToKw pos (keywordEach [] X.env))):=by rfl):E3 X (.Call (.Attribute o m apos) (e::es) [] pos) (v77 C m S dds ta ts) :=
 u34 (vi5 he c hm F hr hb hd pass0 ha hse hpl ht) fun _ _ _=>v50 hdd
variable {id T:String} {r:C3} {rm:M3} {name:Str}
theorem u11 (hc:Call3 X (.builtin id) r) (hg:Gl X x) (hm:X.mg x=none) (hv:bootBuiltins x=some (.builtin id)) (ha:A3 X (e::es) ts) (hn:x ≠ "__name__" := by decide) (hdb:(x == ("__debug__" : Str))=false:=by decide)
  (he:starEach (e::es) X.env=(false,eval e X.env)::starEach es X.env:=by rfl) (hpl:(backTo pos (starEach es X.env)).any (·.1)=false:=by rfl):E3 X (.Call (.Name x p) (e::es) [] pos) (dCB r ts) :=
 u34 (v42 hc hg hm hv ha hn hdb he hpl) fun _ _ _=>vb8
theorem un2 (hc:Call3 X (.type T) r) (hg:Gl X x) (hm:X.mg x=none) (hv:bootBuiltins x=some (.type T)) (ha:A3 X (e::es) ts) (hn:x ≠ "__name__" := by decide) (hdb:(x == ("__debug__" : Str))=false:=by decide)
  (he:starEach (e::es) X.env=(false,eval e X.env)::starEach es X.env:=by rfl) (hpl:(backTo pos (starEach es X.env)).any (·.1)=false:=by rfl):E3 X (.Call (.Name x p) (e::es) [] pos) (dCB r ts) :=
 u34 (uu1 hc hg hm hv ha hn hdb he hpl) fun _ _ _=>vb8
end
def uc2 (ix:List (Option Nat)) (σ:DSt):DSt:=ix.map fun o=>o.bind fun j=>(σ[j]?).bind id
def ub6 (ok:Gp->Prop) (g:TG3) (tc:TT3) (te:TE3) (p:Addr) (q:DK):List D->DSt->Gp->Prop
 | [],_,G=>ok G /\ q (.ref p) G
 | x::r,σ,G=>ok G /\ g x σ G fun σ2 G2=>tc σ2 G2 fun b G3 =>
  if b=true then te σ2 G3 fun d G4=>(match G4 p with | some (.lst ys)=>ys.length < sizeLine /\ ub6 ok g tc te p q r σ2 (gup G4 p (.lst (ys++[d]))) | _=>False)
  else ub6 ok g tc te p q r σ2 G3
def v78 (ix:List (Option Nat)) (wi:TI3) (g:TG3) (tc:TT3) (te:TE3):TE3:=fun σ G q=>wi σ G fun it G1=>∀ p,G1 p=none->ub6 it.ok g tc te p q it.items (uc2 ix σ) (gup G1 p (.lst []))
theorem RelSt.inn {K:PySem.W.Frag} {H:Hp} {σd:DSt} {σ:L2.St} (h:RelSt K H σd σ) (ix:List (Option Nat)):RelSt K H (uc2 ix σd) (L2.inner ix σ):=by
 refine ⟨by unfold uc2 L2.inner;rw [List.length_map,List.length_map],fun i d e=>?_⟩;unfold uc2 at e;unfold L2.inner;rw [List.getElem?_map] at e ⊢;cases ho:ix[i]? with
 | none=>rw [ho] at e;cases e
 | some o =>
  rw [ho] at e;cases o with
  | none=>cases e
  | some j =>
   have e:(σd[j]?).bind id=some d:=Option.some.inj e;have e:σd[j]?=some (some d):=by
    cases hs:σd[j]? with
    | none=>rw [hs] at e;cases e
    | some w=>rw [hs] at e;cases e;rfl
   obtain ⟨v,hv,r⟩:=h.2 j d e;exact ⟨v,by show some ((σ[j]?).bind id)=_;rw [hv];rfl,r⟩
theorem um4 {K:PySem.W.Frag} {ix:List (Option Nat)} {wi:TI3} {g:TG3} {tc:TT3} {te:TE3} {σ:L2.St} {H:Hp} {Q:VK} (h:lowE K (v78 ix wi g tc te) σ H Q):ve8 ix (lowI K wi) (lowG K g) (lowT K tc) (lowE K te) σ H Q:=by
 obtain ⟨σd,G,q,rs,cc,t,f⟩:=h;refine ⟨σd,G,_,rs,cc,t,fun it J G1 H1 ir c1 l1 t1=>?_⟩;intro p hp;have t1:=t1 p (c1.fresh hp);have c2:Con K (gup G1 p (.lst [])) (upd H1 p (.lst [])):=c1.lstNew hp .nil;have l2:Le H1 (upd H1 p (.lst [])):=Le.fresh hp;refine ⟨fun i m σ' H'=>∃ σd' G',Le (upd H1 p (.lst [])) H' /\ RelSt K H' σd' σ' /\ Con K G' H' /\ i+m=it.items.length /\ ub6 it.ok g tc te p q (it.items.drop i) σd' G',
  ⟨it.items.length,uc2 ix σd,_,Le.refl _,(rs.le (l1.trans l2)).inn ix,c2,by omega,by rw [List.drop_zero];exact t1⟩,?_⟩
 rintro i m σ2 H2 ⟨σd2,G2,l3,rs2,c2,e2,t2⟩;have l12:Le H1 H2:=l2.trans l3
 by_cases hi:i < it.items.length
 ·rw [List.drop_eq_getElem_cons hi] at t2
  obtain ⟨ok2,t2⟩:=t2;refine .inr ⟨ir.go i G2 H2 l12 c2 ok2 hi,fun σ' H'=>∃ σd' G',Le (upd H1 p (.lst [])) H' /\ RelSt K H' σd' σ' /\ Con K G' H' /\ ub6 it.ok g tc te p q (it.items.drop (i+1)) σd' G',?_,?_⟩
  ·rintro σ' H' ⟨σd',G',a1,a2,a3,a4⟩
   exact ⟨m - 1,by omega,σd',G',a1,a2,a3,by omega,a4⟩
  ·intro x H3 y
   obtain ⟨c3,l4,e,he,r3⟩:=ir.yld i G2 H2 x H3 l12 c2 ok2 hi y;rw [List.getElem?_eq_getElem hi] at he;cases he;refine ⟨_,σd2,G2,_,r3,rs2.le l4,c3,t2,fun σd4 G4 σ4 H4 rs4 c4 l5 t4=>?_⟩;refine ⟨σd4,G4,_,rs4,c4,t4,fun b G5 H5 c5 l6 t5=>?_⟩;cases b with
   | false =>
    rw [if_neg Bool.false_ne_true] at t5 ⊢;exact ⟨σd4,G5,l3.trans (l4.trans (l5.trans l6)),rs4.le l6,c5,t5⟩
   | true =>
    rw [if_pos rfl] at t5 ⊢;refine ⟨σd4,G5,_,rs4.le l6,c5,t5,fun d G6 v H6 r6 c6 l7 t6=>?_⟩;split at t6
    ·rename_i ys eg
     obtain ⟨xs,ex,rx⟩:=c6 p _ eg;have l8:=Le.lst (ys:=xs++[v]) ex;exact ⟨xs,ex,by rw [<- rx.length];exact t6.1,σd4,_,l3.trans (l4.trans (l5.trans (l6.trans (l7.trans l8)))),rs4.le (l6.trans (l7.trans l8)),c6.lstSet ex (rx.append (.cons r6 .nil)),t6.2⟩
    ·exact t6.elim
 ·rw [List.drop_eq_nil_of_le (by omega)] at t2
  exact .inl ⟨ir.stop i G2 H2 l12 c2 t2.1 (by omega),f _ _ _ _ RelD.refI c2 (l1.trans l12) t2.2⟩
def dYes:TT3:=fun _ G q=>q true G
section
variable {X:Cx} {elt tg iter:Expr} {ifs:List Expr} {scope:Scope} {pos:Pos} {N':List Str} {ix:List (Option Nat)} {wi:TI3} {g:TG3} {tc:TT3} {te:TE3}
theorem u69:Ifs3 X [] dYes:=ve2 v35 fun σ H Q h=>by
 obtain ⟨σd,G,q,rs,c,t,f⟩:=h;exact f _ _ _ c (Le.refl H) t
theorem uy0 {c:Expr} (h:T3 X c tc):Ifs3 X [c] tc:=v34 h
theorem u87 (B:BlkOk X N' ix scope) (hw:I3 X tg iter wi) (hg:∀ C s H fp,J3 (u35 X N' scope C s H fp) tg g) (hi:∀ C s H fp,Ifs3 (u35 X N' scope C s H fp) ifs tc) (he:∀ C s H fp,E3 (u35 X N' scope C s H fp) elt te)
  (hc:X.calm=true:=by rfl) (hs:∀ x,foldedSetIterable iter X.env x=pure x:=by intro _;rfl):E3 X (.ListComp elt [⟨tg,iter,ifs,0⟩] scope pos) (v78 ix wi g tc te) :=
 u34 (vi7 (g:=lowG X.K g) (tc:=lowT X.K tc) (te:=lowE X.K te) B hc hw hg hi he hs) fun _ _ _=>um4
theorem vr6 (i:Nat) {y:Str} {py spos:Pos} (hN:X.N.Nodup) (B:BlkOk X N' ix scope) (hw:I3 X tg iter wi) (hg:∀ C s H fp,J3 (u35 X N' scope C s H fp) tg g) (hi:∀ C s H fp,Ifs3 (u35 X N' scope C s H fp) ifs tc) (he:∀ C s H fp,E3 (u35 X N' scope C s H fp) elt te)
  (hy:X.N[i]?=some y:=by rfl) (hl:Loc X.env.scope y:=by first | exact Or.inl rfl | exact Or.inr rfl)
  (hc:X.calm=true:=by rfl) (hsw:swapsWith (.ListComp elt [⟨tg,iter,ifs,0⟩] scope pos) (some (.Name y py)) spos.line X.env=pure true:=by rfl)
  (hf:X.fn y=true \/ X.env.scope.names.lookup y=some .local:=by first | exact .inl rfl | exact .inr rfl | assumption)
  (hs:∀ x,foldedSetIterable iter X.env x=pure x:=by intro _;rfl):S3 X (.Assign [.Name y py] (.ListComp elt [⟨tg,iter,ifs,0⟩] scope pos) spos) (dAsg (v78 ix wi g tc te) (up6 i)) :=
 ub3 (vh9 (g:=lowG X.K g) (tc:=lowT X.K tc) (te:=lowE X.K te) B hc hN hy hl hw hg hi he hsw hf hs) fun D σ H h=>by
  obtain ⟨σd,G,d,rs,c,t,f⟩:=h;exact um4 (K:=X.K) ⟨σd,G,_,rs,c,t,fun x G1 v H1 r1 c1 l1 t1=>f.nx _ _ _ _ ((rs.le l1).set i r1) c1 l1 t1⟩
end
def xAdd:R3:=fun x y G q=>match x,y with
 | .int i,.int j=>q (.int (i+j)) G
 | .str a,.str b=>a.length+b.length<=sizeLine /\ q (.str (a++b)) G
 | .tup a,.tup b=>a ≠ [] /\ a.length+b.length<=sizeLine /\ q (.tup (a++b)) G
 | .ref a,.ref b=>(match G a,G b with
  | some (.lst xs),some (.lst ys)=>xs.length+ys.length<=sizeLine /\ ∀ p,G p=none->q (.ref p) (gup G p (.lst (xs++ys)))
  | _,_=>False)
 | _,_=>False
def xInt (f:Int->Int->Int):R3:=fun x y G q=>match x,y with | .int i,.int j=>q (.int (f i j)) G | _,_=>False
def ue7 (C:Int->Int->Prop) (f:Int->Int->Int):R3:=fun x y G q=>match x,y with | .int i,.int j=>C i j /\ q (.int (f i j)) G | _,_=>False
def xSub:R3:=xInt fun i j=>i - j
def xMul:R3:=fun x y G q=>match x,y with
 | .int i,.int j=>CMul i j /\ q (.int (i * j)) G
 | .ref a,.int k=>(match G a with
  | some (.lst xs)=>(-(2 ^ 63)<=k /\ k < 2 ^ 63 /\ xs.length * k.toNat<=sizeLine) /\ ∀ p,G p=none->q (.ref p) (gup G p (.lst (List.replicate k.toNat xs).flatten))
  | _=>False)
 | _,_=>False
def w73 (_ j:Int):Prop:=0 < j /\ j < 18446744073709551616
def xDiv:R3:=ue7 w73 fun i j=>i / j
def xMod:R3:=ue7 (fun _ j=>0 < j) fun i j=>i % j
def xPow:R3:=ue7 CPow fun i j=>i ^ j.toNat
def xShl:R3:=ue7 CPow fun i j=>i * 2 ^ j.toNat
def xShr:R3:=ue7 (fun _ j=>0<=j) fun i j=>i / 2 ^ j.toNat
def xAnd:R3:=xInt Builtin.bitAnd
def xOr:R3:=xInt Builtin.bitOr
def xXor:R3:=xInt Builtin.bitXor
def xLt:R3:=fun x y G q=>match x,y with | .int i,.int j=>q (.bl (decide (i < j))) G | .str a,.str b=>q (.bl (decide (a.cps.toList < b.cps.toList))) G | _,_=>False
def xLe:R3:=fun x y G q=>match x,y with | .int i,.int j=>q (.bl (decide (i<=j))) G | _,_=>False
def xGt:R3:=fun x y G q=>match x,y with | .int i,.int j=>q (.bl (decide (j < i))) G | _,_=>False
def xGe:R3:=fun x y G q=>match x,y with | .int i,.int j=>q (.bl (decide (j<=i))) G | _,_=>False
section
variable {X:Cx} {K:PySem.W.Frag} {H:Hp}
theorem RelD.int_inv {i:Int} {v:V} (h:RelD K H (.int i) v):v=.int i:=by rw [RelD] at h;exact h
theorem RelD.str_inv {i:Str} {v:V} (h:RelD K H (.str i) v):v=.str i:=by rw [RelD] at h;exact h
theorem RelD.non_inv {v:V} (h:RelD K H .non v):v=.non:=by rw [RelD] at h;exact h
theorem RelD.tup_inv {ds:List D} {v:V} (h:RelD K H (.tup ds) v):∃ a xs,v=.ref a /\ SqT K H a xs /\ RelDs K H ds xs:=by rw [RelD] at h;exact h
theorem RelD.intI {i:Int}:RelD K H (.int i) (.int i):=by rw [RelD]
theorem RelD.strI {i:Str}:RelD K H (.str i) (.str i):=by rw [RelD]
theorem RelD.blI {i:Bool}:RelD K H (.bl i) (.bl i):=by rw [RelD]
theorem RelD.nonI:RelD K H .non .non:=by rw [RelD]
theorem vd6 {f:Value->Value->Sem Value} {g:Int->Int->Int} (h:OpR X f (rI0 fun i j=>.int (g i j))):Op3 X f (xInt g):=u54 h fun x y H Q ⟨d,e,G,q,r1,r2,c,t,f⟩=>by
 unfold xInt at t;split at t
 ·exact ⟨_,_,r1.int_inv,r2.int_inv,f _ _ _ _ RelD.intI c (Le.refl H) t⟩
 ·exact t.elim
theorem uk0 {f:Value->Value->Sem Value} {C:Int->Int->Prop} {g:Int->Int->Int} (h:OpR X f (rI C fun i j=>.int (g i j))):Op3 X f (ue7 C g):=u54 h fun x y H Q ⟨d,e,G,q,r1,r2,c,t,f⟩=>by
 unfold ue7 at t;split at t
 ·exact ⟨_,_,r1.int_inv,r2.int_inv,t.1,f _ _ _ _ RelD.intI c (Le.refl H) t.2⟩
 ·exact t.elim
theorem u40:Op3 X (binaryOp .Sub) xSub:=vd6 vu5
theorem uo4:Op3 X (binaryOp .Mod) xMod:=uk0 vv1
theorem v18:Op3 X (binaryOp .Pow) xPow:=uk0 vu9
theorem v17:Op3 X (binaryOp .LShift) xShl:=uk0 vu7
theorem vp7:Op3 X (binaryOp .RShift) xShr:=uk0 vu6
theorem vd7:Op3 X (binaryOp .BitAnd) xAnd:=vd6 vv6
theorem w30:Op3 X (binaryOp .BitXor) xXor:=vd6 vu4
theorem u25:Op3 X (binaryOp .Add) xAdd:=u54 (op_add.or (op_add_str.or (op_catT.or vv5))) <| by
 rintro x y H Q ⟨d,e,G,q,r1,r2,c,t,f⟩;unfold xAdd at t;split at t
 ·exact .inl ⟨_,_,r1.int_inv,r2.int_inv,f _ _ _ _ RelD.intI c (Le.refl H) t⟩
 ·exact .inr (.inl ⟨_,_,r1.str_inv,r2.str_inv,t.1,f _ _ _ _ RelD.strI c (Le.refl H) t.2⟩)
 ·obtain ⟨a,xs,rfl,s1,q1⟩:=r1.tup_inv
  obtain ⟨b,ys,rfl,s2,q2⟩:=r2.tup_inv;refine .inr (.inr (.inl ⟨a,b,xs,ys,rfl,rfl,s1,s2,fun z=>t.1 ?_,by rw [<- q1.length,<- q2.length];exact t.2.1,fun z=>?_,fun _ p hp=>?_⟩))
  ·have:=q1.length;rw [z] at this;exact List.eq_nil_of_length_eq_zero this
  ·refine f (.tup _) G (.ref a) _ ?_ c (Le.refl _) t.2.2
   rw [RelD];subst z;have e:∀ {bs:List D},RelDs X.K H bs []->bs=[]:=fun h=>List.eq_nil_of_length_eq_zero h.length
   rw [e q2,List.append_nil];exact ⟨a,_,rfl,s1,q1⟩
  ·refine f (.tup _) G (.ref p) _ ?_ (c.side hp) (Le.fresh hp) t.2.2
   rw [RelD];exact ⟨p,_,rfl,SqT.of u14,RelDs.le (Le.fresh hp) (q1.append q2)⟩
 ·rename_i a b
  split at t
  ·rename_i xs ys e1 e2
   obtain ⟨vs,h1,q1⟩:=c _ _ e1;obtain ⟨ws,h2,q2⟩:=c _ _ e2;exact .inr (.inr (.inr ⟨a,b,vs,ws,r1.ref_inv,r2.ref_inv,h1,h2,by rw [<- q1.length,<- q2.length];exact t.1,fun p hp=>f _ _ _ _ RelD.refI (c.lstNew hp (q1.append q2)) (Le.fresh hp) (t.2 p (c.fresh hp))⟩))
  ·exact t.elim
 ·exact t.elim
theorem uh4:Op3 X (binaryOp .Mult) xMul:=u54 (op_mul.or vu8) <| by
 rintro x y H Q ⟨d,e,G,q,r1,r2,c,t,f⟩;unfold xMul at t;split at t
 ·exact .inl ⟨_,_,r1.int_inv,r2.int_inv,t.1,f _ _ _ _ RelD.intI c (Le.refl H) t.2⟩
 ·rename_i a k
  split at t
  ·rename_i xs e1
   obtain ⟨vs,h1,q1⟩:=c _ _ e1;refine .inr ⟨a,k,vs,r1.ref_inv,r2.int_inv,h1,t.1.1,t.1.2.1,by rw [<- q1.length];exact t.1.2.2,?_⟩;intro p hp;exact f _ _ _ _ RelD.refI (c.lstNew hp (q1.rep _)) (Le.fresh hp) (t.2 p (c.fresh hp))
  ·exact t.elim
 ·exact t.elim
theorem uq9 {f:Value->Value->Sem Value} {g:Int->Int->Bool} (h:OpR X f (rI0 fun i j=>.bl (g i j))):Op3 X f (fun x y G q=>match x,y with | .int i,.int j=>q (.bl (g i j)) G | _,_=>False):=u54 h fun x y H Q ⟨d,e,G,q,r1,r2,c,t,f⟩=>by
 dsimp only at t;split at t
 ·exact ⟨_,_,r1.int_inv,r2.int_inv,f _ _ _ _ RelD.blI c (Le.refl H) t⟩
 ·exact t.elim
theorem x_le:Op3 X (compareOp .LtE) xLe:=uq9 w50
theorem x_gt:Op3 X (compareOp .Gt) xGt:=uq9 w51
theorem x_ge:Op3 X (compareOp .GtE) xGe:=uq9 w52
theorem x_lt:Op3 X (compareOp .Lt) xLt:=u54 (op_lt.or uu3) <| by
 rintro x y H Q ⟨d,e,G,q,r1,r2,c,t,f⟩;unfold xLt at t;split at t
 ·exact .inl ⟨_,_,r1.int_inv,r2.int_inv,f _ _ _ _ RelD.blI c (Le.refl H) t⟩
 ·exact .inr ⟨_,_,r1.str_inv,r2.str_inv,f _ _ _ _ RelD.blI c (Le.refl H) t⟩
 ·exact t.elim
theorem RelD.not_non {d:D} {v:V} (h:RelD K H d v) (n:d ≠ .non):v ≠ .non:=by
 cases d with
 | non=>exact absurd rfl n
 | bl _=>rw [h.bl_inv];exact fun z=>nomatch z
 | int _=>rw [h.int_inv];exact fun z=>nomatch z
 | str _=>rw [h.str_inv];exact fun z=>nomatch z
 | ref _=>rw [h.ref_inv];exact fun z=>nomatch z
 | ty _=>rw [RelD] at h;rw [h];exact fun z=>nomatch z
 | tup _=>obtain ⟨a,xs,e,_⟩:=h.tup_inv;rw [e];exact fun z=>nomatch z
def xNeg:U3:=fun x G q=>match x with | .int i=>q (.int (-i)) G | _=>False
def xIx:R3:=fun x y G q=>match x,y with
 | .tup ds,.int i=>(match atI ds i with | some d=>q d G | none=>False)
 | .ref a,.int i=>(match u10 (G a) with | some ds=>(match atI ds i with | some d=>q d G | none=>False) | none=>False)
 | .str z,.int i=>z.length<=sizeLine /\ (match atI z.cps.toList i with | some c=>q (.str ⟨#[c]⟩) G | none=>False)
 | _,_=>False
theorem RelDs.atI {ds:List D} {xs:List V} {i:Int} {d:D} (h:RelDs K H ds xs) (e:L2.atI ds i=some d):∃ v,L2.atI xs i=some v /\ RelD K H d v:=by
 unfold L2.atI at e ⊢;rw [<- h.length];cases hj:ixN ds.length i with
 | none=>rw [hj] at e;cases e
 | some j =>
  rw [hj] at e;exact h.get e
theorem x_ix:IxR X (lowR X.K xIx):=vq1 vz0 <| by
 rintro x y H Q ⟨d,e,G,q,r1,r2,c,t,f⟩;unfold xIx at t;split at t
 ·rename_i ds i
  obtain ⟨a,xs,rfl,s1,q1⟩:=r1.tup_inv;split at t
  ·rename_i w ew
   obtain ⟨v,hv,rv⟩:=q1.atI ew;exact .inr (.inl ⟨a,xs,i,v,rfl,r2.int_inv,s1,hv,f _ _ _ _ rv c (Le.refl H) t⟩)
  ·exact t.elim
 ·rename_i a i
  split at t
  ·rename_i ds es
   obtain ⟨xs,s1,q1⟩:=u23 c es;split at t
   ·rename_i w ew
    obtain ⟨v,hv,rv⟩:=q1.atI ew;exact .inl ⟨a,xs,i,v,r1.ref_inv,r2.int_inv,s1,hv,f _ _ _ _ rv c (Le.refl H) t⟩
   ·exact t.elim
  ·exact t.elim
 ·rename_i z i
  obtain ⟨hz,t⟩:=t;split at t
  ·rename_i w ew
   exact .inr (.inr ⟨z,i,w,r1.str_inv,r2.int_inv,hz,ew,f _ _ _ _ RelD.strI c (Le.refl H) t⟩)
  ·exact t.elim
 ·exact t.elim
def cutD {α:Type} (xs:List α) (lo hi:Option Int):List α:=(xs.drop (HT.sIx xs.length 0 lo)).take (HT.sIx xs.length xs.length hi - HT.sIx xs.length 0 lo)
def xSet:TSet3:=fun o i v G q=>match o,i with
 | .ref a,.int k=>(match G a with | some (.lst ds)=>(match ixN ds.length k with | some j=>q (gup G a (.lst (ds.set j v))) | none=>False) | _=>False)
 | _,_=>False
theorem vp8:PSet X (uw2 X.K xSet):=ve1 set_list <| by
 rintro o i v H Q ⟨d,e,x,G,q,r1,r2,r3,c,t,f⟩;unfold xSet at t;split at t
 ·rename_i a k
  split at t
  ·rename_i ds e1
   obtain ⟨xs,h1,q1⟩:=c _ _ e1;split at t
   ·rename_i j ej
    exact ⟨a,xs,k,j,r1.ref_inv,r2.int_inv,h1,by rw [<- q1.length];exact ej,f _ _ (c.lstSet h1 (q1.set r3 j)) (Le.lst h1) t⟩
   ·exact t.elim
  ·exact t.elim
 ·exact t.elim
end
inductive Sn where
 | non | bl (b:Bool) | int (i:Int) | str (x:Str) | tup (xs:List Sn) | lst (xs:List Sn)
def snap (G:Gp):Nat->D->Option Sn
 | _,.non=>some .non
 | _,.bl b=>some (.bl b)
 | _,.int i=>some (.int i)
 | _,.str x=>some (.str x)
 | n+1,.tup ds=>(ds.mapM (snap G n)).map .tup
 | n+1,.ref a=>(u10 (G a)).bind fun ds=>(ds.mapM (snap G n)).map .lst
 | _,_=>none
def u38:Sn->Bool
 | .non=>true | .bl _=>true | .int _=>true | .str _=>true | _=>false
def eqF:Sn->Sn->Bool
 | .non,.non=>true
 | .bl a,.bl b=>a == b
 | .bl a,.int b=>(if a then 1 else 0) == b
 | .int a,.bl b=>a == (if b then 1 else 0)
 | .int a,.int b=>a == b
 | .str a,.str b=>a == b
 | _,_=>false
def eqN:Nat->Sn->Sn->Option Bool
 | n+1,.tup xs,.tup ys=>if xs.length=ys.length then ((xs.zip ys).mapM fun p=>eqN n p.1 p.2).map fun bs=>bs.all id else none
 | n+1,.lst xs,.lst ys=>if xs.length=ys.length then ((xs.zip ys).mapM fun p=>eqN n p.1 p.2).map fun bs=>bs.all id else some false
 | _,x,y=>if (u38 x && u38 y)=true then some (eqF x y) else none
theorem u18 {α β:Type} {f:α->Option β}:∀ {xs:List α} {ys:List β},xs.mapM f=some ys->xs.length=ys.length /\ ∀ (i:Nat) x,xs[i]?=some x->∃ y,ys[i]?=some y /\ f x=some y
 | [],ys,h=>by
  have:ys=[]:=by simpa using h.symm
  subst this;exact ⟨rfl,fun i x e=>by simp at e⟩
 | x::xs,ys,h=>by
  rw [List.mapM_cons] at h;cases hx:f x with
  | none=>rw [hx] at h;cases h
  | some y =>
   rw [hx] at h;cases hr:xs.mapM f with
   | none=>rw [hr] at h;cases h
   | some r =>
    rw [hr] at h;have e:y::r=ys:=Option.some.inj h;subst e;obtain ⟨h1,h2⟩:=u18 hr;refine ⟨by simp [h1],fun i z e=>?_⟩;cases i with
    | zero=>cases (show x=z from Option.some.inj e);exact ⟨y,rfl,hx⟩
    | succ i=>exact h2 i z e
theorem uc6 {bs:List Bool} {e:Nat->Bool} {n:Nat} (hl:bs.length=n) (h:∀ (i:Nat) b,bs[i]?=some b->e i=b):(List.range n).all e=bs.all id:=by
 rw [Bool.eq_iff_iff,List.all_eq_true,List.all_eq_true]
 constructor
 ·intro q b hb
  obtain ⟨i,hi,eb⟩:=List.mem_iff_getElem.mp hb;have:=q i (List.mem_range.mpr (by omega));rw [h i b (by rw [List.getElem?_eq_getElem hi,eb])] at this;exact this
 ·intro q i hi
  have hi:=List.mem_range.mp hi;rw [h i bs[i] (List.getElem?_eq_getElem (by omega))];exact q _ (List.getElem_mem _)
section
variable {X:Cx} {pins:List (Addr × Obj)} {σ:L2.St} {H:Hp} {s:Shared} {G:Gp}
theorem uj0 {n:Nat} {d:D} {sd:Sn} {x:V} {u:Value} (h:snap G n d=some sd) (fl:u38 sd=true) (r:RelD X.K H d x):vl7 x=true /\ ∀ (e:D) (se:Sn) (y:V),snap G n e=some se->u38 se=true->RelD X.K H e y->eqV x y=eqF sd se:=by
  have key:∀ (d:D) (sd:Sn) (x:V),snap G n d=some sd->u38 sd=true->RelD X.K H d x->(sd=.non /\ x=.non) \/ (∃ b,sd=.bl b /\ x=.bl b) \/ (∃ i,sd=.int i /\ x=.int i) \/ (∃ z,sd=.str z /\ x=.str z):=by
    intro d sd x h fl r;cases d with
    | non => have e : Sn.non = sd := by cases n <;> exact Option.some.inj h
             subst e;exact .inl ⟨rfl,r.non_inv⟩
    | bl b => have e : Sn.bl b = sd := by cases n <;> exact Option.some.inj h
              subst e;exact .inr (.inl ⟨b,rfl,r.bl_inv⟩)
    | int b => have e : Sn.int b = sd := by cases n <;> exact Option.some.inj h
               subst e;exact .inr (.inr (.inl ⟨b,rfl,r.int_inv⟩))
    | str b => have e : Sn.str b = sd := by cases n <;> exact Option.some.inj h
               subst e;exact .inr (.inr (.inr ⟨b,rfl,r.str_inv⟩))
    | tup ds =>
      cases n with
      | zero=>cases h
      | succ n =>
        have h:(ds.mapM (snap G n)).map Sn.tup=some sd:=h;obtain ⟨a,_,rfl⟩:=Option.map_eq_some_iff.mp h;cases fl
    | ref a =>
      cases n with
      | zero=>cases h
      | succ n =>
        have h:((u10 (G a)).bind fun ds=>(ds.mapM (snap G n)).map Sn.lst)=some sd:=h;obtain ⟨ds,_,h⟩:=Option.bind_eq_some_iff.mp h;obtain ⟨a,_,rfl⟩:=Option.map_eq_some_iff.mp h;cases fl
    | ty t=>cases n <;> cases h
  rcases key d sd x h fl r with ⟨rfl,rfl⟩ | ⟨b,rfl,rfl⟩ | ⟨b,rfl,rfl⟩ | ⟨b,rfl,rfl⟩ <;> refine ⟨rfl,fun e se y h' fl' r'=>?_⟩ <;>
    rcases key e se y h' fl' r' with ⟨rfl,rfl⟩ | ⟨c,rfl,rfl⟩ | ⟨c,rfl,rfl⟩ | ⟨c,rfl,rfl⟩ <;> rfl
theorem snap_tup {n:Nat} {ds:List D} {sd:Sn} (h:snap G n (.tup ds)=some sd):∃ m ss,n=m+1 /\ sd=.tup ss /\ ds.mapM (snap G m)=some ss:=by
 cases n with
 | zero=>cases h
 | succ n =>
  obtain ⟨ss,h1,rfl⟩:=Option.map_eq_some_iff.mp (show (ds.mapM (snap G n)).map Sn.tup=some sd from h);exact ⟨n,ss,rfl,rfl,h1⟩
theorem snap_ref {n:Nat} {a:Addr} {sd:Sn} (h:snap G n (.ref a)=some sd):∃ m ds ss,n=m+1 /\ sd=.lst ss /\ u10 (G a)=some ds /\ ds.mapM (snap G m)=some ss:=by
 cases n with
 | zero=>cases h
 | succ n =>
  obtain ⟨ds,h0,h⟩:=Option.bind_eq_some_iff.mp (show ((u10 (G a)).bind fun ds=>(ds.mapM (snap G n)).map Sn.lst)=some sd from h);obtain ⟨ss,h1,rfl⟩:=Option.map_eq_some_iff.mp h;exact ⟨n,ds,ss,rfl,rfl,h0,h1⟩
theorem un1 {n:Nat} {x y:Sn} (hx:u38 x=true):eqN n x y=if (u38 x && u38 y)=true then some (eqF x y) else none:=by
 cases x with
 | tup _=>cases hx
 | lst _=>cases hx
 | non=>cases n <;> rfl
 | bl _=>cases n <;> rfl
 | int _=>cases n <;> rfl
 | str _=>cases n <;> rfl
theorem u62 {n:Nat} {x y:Sn} {b:Bool} (h:eqN n x y=some b) (fl:¬ (u38 x && u38 y)=true):(∃ m xs ys,n=m+1 /\ x=.tup xs /\ y=.tup ys) \/ (∃ m xs ys,n=m+1 /\ x=.lst xs /\ y=.lst ys):=by
 unfold eqN at h;split at h
 ·exact .inl ⟨_,_,_,rfl,rfl,rfl⟩
 ·exact .inr ⟨_,_,_,rfl,rfl,rfl⟩
 ·rw [if_neg fl] at h;cases h
theorem u45 {n:Nat} {d:D} {ss:List Sn} (h:snap G n d=some (.tup ss)):∃ ds,d=.tup ds:=by
 cases d with
 | tup ds=>exact ⟨ds,rfl⟩
 | ref a=>obtain ⟨_,_,_,_,e',_⟩:=snap_ref h;cases e'
 | _=>cases n <;> cases h
theorem u46 {n:Nat} {d:D} {ss:List Sn} (h:snap G n d=some (.lst ss)):∃ a,d=.ref a:=by
 cases d with
 | ref a=>exact ⟨a,rfl⟩
 | tup ds=>obtain ⟨_,_,_,e',_⟩:=snap_tup h;cases e'
 | _=>cases n <;> cases h
theorem uf3 {n:Nat} {d e:D} {x:V} {sd se:Sn} {b:Bool} (r1:RelD X.K H d x) (r2:RelD X.K H e x) (h1:snap G n d=some sd) (h2:snap G n e=some se) (hb:eqN n sd se=some b) (fl:(u38 sd && u38 se)=true):b=true:=by
 rw [Bool.and_eq_true] at fl;have z:=hb;rw [un1 fl.1,if_pos (by rw [fl.1,fl.2];rfl)] at z;obtain ⟨fx,k⟩:=uj0 (u:=Value.none) h1 fl.1 r1;rw [<- Option.some.inj z,<- k e se x h2 fl.2 r2];cases x with
 | non=>rfl
 | bl b=>exact beq_self_eq_true b
 | int i=>exact beq_self_eq_true i
 | str w=>exact beq_self_eq_true w
 | _=>cases fx
theorem us6 (I:Inv X pins σ H s) (c:Con X.K G H):∀ (n:Nat) (d e:D) (x:V) (sd se:Sn) (b:Bool),RelD X.K H d x->RelD X.K H e x->snap G n d=some sd->snap G n e=some se->eqN n sd se=some b->b=true:=by
 intro n
 induction n with
 | zero =>
  intro d e x sd se b r1 r2 h1 h2 hb
  by_cases fl:(u38 sd && u38 se)=true
  ·exact uf3 r1 r2 h1 h2 hb fl
  ·rcases u62 hb fl with ⟨_,_,_,z,_⟩ | ⟨_,_,_,z,_⟩ <;> cases z
 | succ m ih =>
  intro d e x sd se b r1 r2 h1 h2 hb
  by_cases fl:(u38 sd && u38 se)=true
  ·exact uf3 r1 r2 h1 h2 hb fl
  have items:∀ (ds es:List D) (xs:List V) (ss ts:List Sn) (bs:List Bool),RelDs X.K H ds xs->RelDs X.K H es xs->ds.mapM (snap G m)=some ss->es.mapM (snap G m)=some ts->((ss.zip ts).mapM fun p=>eqN m p.1 p.2)=some bs->bs.all id=true:=by
   intro ds es xs ss ts bs q1 q2 k1 k2 kb;rw [List.all_eq_true];intro b hb;obtain ⟨i,hi,eb⟩:=List.mem_iff_getElem.mp hb;obtain ⟨l1,f1⟩:=u18 k1;obtain ⟨l2,f2⟩:=u18 k2;obtain ⟨l3,f3⟩:=u18 kb;have hz:(ss.zip ts).length=min ss.length ts.length:=List.length_zip;have e1:=q1.length;have e2:=q2.length;have hds:i < ds.length:=by omega
   have hes:i < es.length:=by omega
   obtain ⟨y1,g1,s1⟩:=f1 i ds[i] (List.getElem?_eq_getElem hds);obtain ⟨y2,g2,s2⟩:=f2 i es[i] (List.getElem?_eq_getElem hes);have hzip:(ss.zip ts)[i]?=some (y1,y2):=by rw [List.getElem?_zip_eq_some];exact ⟨g1,g2⟩
   obtain ⟨b',g3,s3⟩:=f3 i _ hzip;rw [List.getElem?_eq_getElem hi,eb] at g3;cases g3;obtain ⟨z1,hz1,rz1⟩:=q1.get (List.getElem?_eq_getElem hds);obtain ⟨z2,hz2,rz2⟩:=q2.get (List.getElem?_eq_getElem hes);rw [hz1] at hz2;cases hz2;exact ih ds[i] es[i] z1 y1 y2 b rz1 rz2 s1 s2 s3
  rcases u62 hb fl with ⟨m',ss,ts,em,rfl,rfl⟩ | ⟨m',ss,ts,em,rfl,rfl⟩
  ·cases em
   obtain ⟨ds,rfl⟩:=u45 h1;obtain ⟨es,rfl⟩:=u45 h2;obtain ⟨_,_,em,ez,k1⟩:=snap_tup h1;cases em;cases ez;obtain ⟨_,_,em,ez,k2⟩:=snap_tup h2;cases em;cases ez;obtain ⟨a,xs,rfl,q1,rr1⟩:=r1.tup_inv;obtain ⟨a',ys,e',q2,rr2⟩:=r2.tup_inv;cases e';have:=I.tuple_inj q1 q2;subst this;unfold eqN at hb;split at hb
   ·obtain ⟨bs,kb,rfl⟩:=Option.map_eq_some_iff.mp hb
    exact items ds es xs ss ts bs rr1 rr2 k1 k2 kb
   ·cases hb
  ·cases em
   obtain ⟨a,rfl⟩:=u46 h1;obtain ⟨a',rfl⟩:=u46 h2;cases r1.ref_inv;have e':=r2.ref_inv;cases e';obtain ⟨_,ds,_,em,ez,hs1,k1⟩:=snap_ref h1;cases em;cases ez;obtain ⟨_,es,_,em,ez,hs2,k2⟩:=snap_ref h2;cases em;cases ez;rw [hs1] at hs2;cases hs2;rw [k1] at k2;cases k2;obtain ⟨xs,_,rr⟩:=u23 c hs1;unfold eqN at hb;split at hb
   ·obtain ⟨bs,kb,rfl⟩:=Option.map_eq_some_iff.mp hb
    exact items ds ds xs ss ss bs rr rr k1 k1 kb
   ·rename_i h;exact absurd rfl h
structure SeqPair (G:Gp) (K:PySem.W.Frag) (H:Hp) (m:Nat) (its its2:List Value) (bs:List Bool):Prop where
 len:its.length=its2.length
 bl:bs.length=its.length
 at_:∀ (j:Nat) (h1:j < its.length) (h2:j < its2.length) (h3:j < bs.length),∃ d e x y sd se,RelD K H d x /\ RelV x its[j] /\ RelD K H e y /\ RelV y its2[j] /\ snap G m d=some sd /\ snap G m e=some se /\ eqN m sd se=some bs[j]
theorem u81 {m:Nat} {ds es:List D} {xs ys:List V} {its its2:List Value} {ss ts:List Sn} {bs:List Bool} (q1:RelDs X.K H ds xs) (v1:Vals xs its) (q2:RelDs X.K H es ys) (v2:Vals ys its2)
  (k1:ds.mapM (snap G m)=some ss) (k2:es.mapM (snap G m)=some ts) (hl:ss.length=ts.length) (kb:((ss.zip ts).mapM fun p=>eqN m p.1 p.2)=some bs):SeqPair G X.K H m its its2 bs:=by
 obtain ⟨l1,f1⟩:=u18 k1;obtain ⟨l2,f2⟩:=u18 k2;obtain ⟨l3,f3⟩:=u18 kb;have hz:(ss.zip ts).length=min ss.length ts.length:=List.length_zip;have e1:=q1.length;have e2:=q2.length;have e3:=v1.length;have e4:=v2.length;refine ⟨by omega,by omega,fun j h1 h2 h3=>?_⟩;have hds:j < ds.length:=by omega
 have hes:j < es.length:=by omega
 obtain ⟨y1,g1,s1⟩:=f1 j ds[j] (List.getElem?_eq_getElem hds);obtain ⟨y2,g2,s2⟩:=f2 j es[j] (List.getElem?_eq_getElem hes);have hzip:(ss.zip ts)[j]?=some (y1,y2):=by rw [List.getElem?_zip_eq_some];exact ⟨g1,g2⟩
 obtain ⟨b',g3,s3⟩:=f3 j _ hzip;rw [List.getElem?_eq_getElem h3] at g3;cases g3;obtain ⟨z1,hz1,rz1⟩:=q1.get (List.getElem?_eq_getElem hds);obtain ⟨z2,hz2,rz2⟩:=q2.get (List.getElem?_eq_getElem hes);obtain ⟨u1,hu1,ru1⟩:=v1.get hz1;obtain ⟨u2,hu2,ru2⟩:=v2.get hz2;rw [List.getElem?_eq_getElem h1] at hu1;rw [List.getElem?_eq_getElem h2] at hu2;cases hu1;cases hu2;exact ⟨ds[j],es[j],z1,z2,y1,y2,rz1,ru1,rz2,ru2,s1,s2,s3⟩
end
section
variable {X:Cx} {pins:List (Addr × Obj)} {σ:L2.St} {H:Hp} {s:Shared} {G:Gp}
theorem uy6 (I:Inv X pins σ H s) {n:Nat} {A:Around} {d e:D} {x y:V} {u v:Value} {sd se:Sn} {b:Bool} (r1:RelD X.K H d x) (v1:RelV x u) (r2:RelD X.K H e y) (v2:RelV y v) (h1:snap G n d=some sd) (h2:snap G n e=some se) (hb:eqN n sd se=some b) (fl:(u38 sd && u38 se)=true):SeqAt.EqAt A s u v b:=by
 rw [Bool.and_eq_true] at fl;have hb':b=eqF sd se:=by
  have z:=hb;rw [un1 fl.1,if_pos (by rw [fl.1,fl.2];rfl)] at z;exact (Option.some.inj z).symm
 obtain ⟨fx,k⟩:=uj0 (u:=u) h1 fl.1 r1;obtain ⟨fy,_⟩:=uj0 (u:=v) h2 fl.2 r2;rw [hb',<- k e se y h2 fl.2 r2];exact w04 v1 v2 fx fy
theorem v69 (I:Inv X pins σ H s) (c:Con X.K G H):∀ (n:Nat) (A:Around) (d e:D) (x y:V) (u v:Value) (sd se:Sn) (b:Bool),RelD X.K H d x->RelV x u->RelD X.K H e y->RelV y v->snap G n d=some sd->snap G n e=some se->eqN n sd se=some b->A.units+n < cLine->SeqAt.EqAt A s u v b:=by
 intro n
 induction n with
 | zero =>
  intro A d e x y u v sd se b r1 v1 r2 v2 h1 h2 hb hu
  by_cases fl:(u38 sd && u38 se)=true
  ·exact uy6 I r1 v1 r2 v2 h1 h2 hb fl
  ·rcases u62 hb fl with ⟨_,_,_,z,_⟩ | ⟨_,_,_,z,_⟩ <;> cases z
 | succ m ih =>
  intro A d e x y u v sd se b r1 v1 r2 v2 h1 h2 hb hu
  by_cases fl:(u38 sd && u38 se)=true
  ·exact uy6 I r1 v1 r2 v2 h1 h2 hb fl
  ·have inner:∀ (its its2:List Value) (bs:List Bool),SeqPair G X.K H m its its2 bs->∀ j (h1:j < its.toArray.size) (h2:j < its2.toArray.size),SeqAt.EqAt A.in1 s its.toArray[j] its2.toArray[j] ((bs[j]?).getD true):=by
    intro its its2 bs P j h1 h2;have h1':j < its.length:=by simpa using h1
    have h2':j < its2.length:=by simpa using h2
    have h3':j < bs.length:=by rw [P.bl];exact h1'
    obtain ⟨d',e',x',y',sd',se',a1,a2,a3,a4,a5,a6,a7⟩:=P.at_ j h1' h2' h3'
    rw [List.getElem?_eq_getElem h3'];have hu':A.in1.units+m < cLine:=by
     have:A.in1.units=A.units+1:=rfl;omega
    have:=ih A.in1 d' e' x' y' _ _ sd' se' _ a1 a2 a3 a4 a5 a6 a7 hu';simpa using this
   rcases u62 hb fl with ⟨m',ss,ts,em,rfl,rfl⟩ | ⟨m',ss,ts,em,rfl,rfl⟩
   ·cases em
    obtain ⟨ds,rfl⟩:=u45 h1;obtain ⟨es,rfl⟩:=u45 h2;obtain ⟨_,_,em,ez,k1⟩:=snap_tup h1;cases em;cases ez;obtain ⟨_,_,em,ez,k2⟩:=snap_tup h2;cases em;cases ez;obtain ⟨a,xs,rfl,q1,rr1⟩:=r1.tup_inv;obtain ⟨a',ys,rfl,q2,rr2⟩:=r2.tup_inv;cases v1;cases v2
    by_cases haa:a=a'
    ·subst haa
     rw [us6 I c (m+1) (.tup ds) (.tup es) (.ref a) _ _ b r1 r2 h1 h2 hb];exact SeqAt.EqAt.same _
    ·unfold eqN at hb
     split at hb
     ·rename_i hlen
      obtain ⟨bs,kb,rfl⟩:=Option.map_eq_some_iff.mp hb;obtain ⟨its,w1,t1,_⟩:=I.tuple q1;obtain ⟨its2,w2,t2,_⟩:=I.tuple q2;have P:=u81 rr1 w1 rr2 w2 k1 k2 hlen kb;have R:=SeqAt.RcAt.tuples (A:=A) (s:=s) (e:=fun j=>(bs[j]?).getD true) (show s.heap.IsTuple a its.toArray from t1) (show s.heap.IsTuple a' its2.toArray from t2) (by omega) (inner its its2 bs P);have e1:((List.range (min its.toArray.size its2.toArray.size)).all (fun j=>(bs[j]?).getD true) && its.toArray.size == its2.toArray.size)=bs.all id:=by
       have el:its.toArray.size=its2.toArray.size:=by simpa using P.len
       rw [el,Nat.min_self,beq_self_eq_true,Bool.and_true];exact uc6 (by rw [<- el];simpa using P.bl) fun i b hb=>by rw [hb];rfl
      rw [e1] at R;exact SeqAt.EqAt.of_refs haa R
     ·cases hb
   ·cases em
    obtain ⟨a,rfl⟩:=u46 h1;obtain ⟨a',rfl⟩:=u46 h2;obtain ⟨_,ds,_,em,ez,hs1,k1⟩:=snap_ref h1;cases em;cases ez;obtain ⟨_,es,_,em,ez,hs2,k2⟩:=snap_ref h2;cases em;cases ez;cases r1.ref_inv;cases r2.ref_inv;cases v1;cases v2
    by_cases haa:a=a'
    ·subst haa
     rw [us6 I c (m+1) (.ref a) (.ref a) (.ref a) _ _ b r1 r2 h1 h2 hb];exact SeqAt.EqAt.same _
    ·obtain ⟨xs,q1,rr1⟩:=u23 c hs1
     obtain ⟨ys,q2,rr2⟩:=u23 c hs2;obtain ⟨its,w1,t1,_⟩:=I.list q1;obtain ⟨its2,w2,t2,_⟩:=I.list q2;unfold eqN at hb;split at hb
     ·rename_i hlen
      obtain ⟨bs,kb,rfl⟩:=Option.map_eq_some_iff.mp hb;have P:=u81 rr1 w1 rr2 w2 k1 k2 hlen kb;have el:its.toArray.size=its2.toArray.size:=by simpa using P.len
      have R:=SeqAt.RcAt.lists (A:=A) (s:=s) (e:=fun j=>(bs[j]?).getD true) t1.isList t2.isList el (by omega) (inner its its2 bs P);have e1:((List.range its.toArray.size).all (fun j=>(bs[j]?).getD true))=bs.all id :=
       uc6 (by simpa using P.bl) fun i b hb=>by rw [hb];rfl
      rw [e1] at R;exact SeqAt.EqAt.of_refs haa R
     ·rename_i hlen
      cases hb;have n1:=(u18 k1).1;have n2:=(u18 k2).1;have m1:=rr1.length;have m2:=rr2.length;have m3:=w1.length;have m4:=w2.length;exact SeqAt.EqAt.of_refs haa (SeqAt.RcAt.lists_lengths t1.isList t2.isList (by simp;omega) (by omega))
end
def rEqD (K:PySem.W.Frag) (neg:Bool):R2:=fun x y H Q=>∃ (d e:D) (G:Gp) (n:Nat) (sd se:Sn) (b:Bool),RelD K H d x /\ RelD K H e y /\ Con K G H /\ n<=40 /\ snap G n d=some sd /\ snap G n e=some se /\ eqN n sd se=some b /\ u38 sd=false /\ Q (.bl (if neg then !b else b)) H
section
variable {X:Cx} {k:Nat}
theorem vv4 (hr:Room k X.A):OpR X (compareOp .Eq) (rEqD X.K false):=by
  intro pins s σ H x y v u Q I rx ry h;obtain ⟨d,e,G,n,sd,se,b,r1,r2,c,hn,h1,h2,hb,fl,q⟩:=h;have hu:=hr.units;have fin:EP X pins σ Q (.bool b) s:=⟨.bl b,H,I,rfl,q⟩
  rcases u62 hb (fun z=>by rw [fl] at z;cases z) with ⟨m,ss,ts,rfl,rfl,rfl⟩ | ⟨m,ss,ts,rfl,rfl,rfl⟩
  · obtain ⟨ds,rfl⟩:=u45 h1
    obtain ⟨es,rfl⟩:=u45 h2
    · · · obtain ⟨_,ss',em,ez,k1⟩ := snap_tup h1
          cases em;cases ez;obtain ⟨m',ts',em,es',k2⟩:=snap_tup h2;cases em;cases es';obtain ⟨a,xs,rfl,q1,rr1⟩:=r1.tup_inv;obtain ⟨a',ys,rfl,q2,rr2⟩:=r2.tup_inv;cases rx;cases ry;unfold eqN at hb;split at hb
          · rename_i hlen
            obtain ⟨bs,kb,rfl⟩:=Option.map_eq_some_iff.mp hb;obtain ⟨its,w1,t1,_⟩:=I.tuple q1;obtain ⟨its2,w2,t2,_⟩:=I.tuple q2;have P:=u81 rr1 w1 rr2 w2 k1 k2 hlen kb;refine SeqAt.eq_tupleAt (e:=fun j=>(bs[j]?).getD true) (show s.heap.IsTuple a its.toArray from t1) (show s.heap.IsTuple a' its2.toArray from t2) (by omega) ?_ ?_
            · intro j h1 h2
              have h1':j < its.length:=by simpa using h1
              have h2':j < its2.length:=by simpa using h2
              have h3':j < bs.length:=by rw [P.bl];exact h1'
              obtain ⟨d',e',x',y',sd',se',a1,a2,a3,a4,a5,a6,a7⟩:=P.at_ j h1' h2' h3'
              rw [List.getElem?_eq_getElem h3'];have:=v69 I c m X.A.in1 d' e' x' y' _ _ sd' se' _ a1 a2 a3 a4 a5 a6 a7 (by have:X.A.in1.units=X.A.units+1:=rfl;omega);simpa using this
            · have e1 : ((List.range (min its.toArray.size its2.toArray.size)).all (fun j => (bs[j]?).getD true) && its.toArray.size == its2.toArray.size) = bs.all id := by
                have el:its.toArray.size=its2.toArray.size:=by simpa using P.len
                rw [el,Nat.min_self,beq_self_eq_true,Bool.and_true];exact uc6 (by rw [<- el];simpa using P.bl) fun i b hb=>by rw [hb];rfl
              rw [e1];exact fin
          · cases hb
  · obtain ⟨a,rfl⟩:=u46 h1
    obtain ⟨a',rfl⟩:=u46 h2
    · · · obtain ⟨_,ds,ss',em,ez,hs1,k1⟩ := snap_ref h1
          cases em;cases ez;obtain ⟨m',es,ts',em,es',hs2,k2⟩:=snap_ref h2;cases em;cases es';cases r1.ref_inv;cases r2.ref_inv;cases rx;cases ry;obtain ⟨xs,q1,rr1⟩:=u23 c hs1;obtain ⟨ys,q2,rr2⟩:=u23 c hs2;obtain ⟨its,w1,t1,_⟩:=I.list q1;obtain ⟨its2,w2,t2,_⟩:=I.list q2;unfold eqN at hb;split at hb
          · rename_i hlen
            obtain ⟨bs,kb,rfl⟩:=Option.map_eq_some_iff.mp hb;have P:=u81 rr1 w1 rr2 w2 k1 k2 hlen kb;have el:its.toArray.size=its2.toArray.size:=by simpa using P.len
            refine SeqAt.eq_listAt (e:=fun j=>(bs[j]?).getD true) t1.isList t2.isList el (by omega) ?_ ?_
            · intro j h1 h2
              have h1':j < its.length:=by simpa using h1
              have h2':j < its2.length:=by simpa using h2
              have h3':j < bs.length:=by rw [P.bl];exact h1'
              obtain ⟨d',e',x',y',sd',se',a1,a2,a3,a4,a5,a6,a7⟩:=P.at_ j h1' h2' h3'
              rw [List.getElem?_eq_getElem h3'];have:=v69 I c m X.A.in1 d' e' x' y' _ _ sd' se' _ a1 a2 a3 a4 a5 a6 a7 (by have:X.A.in1.units=X.A.units+1:=rfl;omega);simpa using this
            · have e1 : ((List.range its.toArray.size).all (fun j => (bs[j]?).getD true)) = bs.all id :=
                uc6 (by simpa using P.bl) fun i b hb=>by rw [hb];rfl
              rw [e1];exact fin
          · rename_i hlen
            cases hb;have n1:=(u18 k1).1;have n2:=(u18 k2).1;have m1:=rr1.length;have m2:=rr2.length;have m3:=w1.length;have m4:=w2.length;exact SeqAt.eq_list_lengthsAt t1.isList t2.isList (by simp;omega) (by omega) fin
theorem vv0 (hr:Room k X.A):OpR X (compareOp .NotEq) (rEqD X.K true):=by
  intro pins s σ H x y v u Q I rx ry h;obtain ⟨d,e,G,n,sd,se,b,r1,r2,c,hn,h1,h2,hb,fl,q⟩:=h;have hu:=hr.units;have fin:EP X pins σ Q (.bool (!b)) s:=⟨.bl (!b),H,I,rfl,q⟩
  rcases u62 hb (fun z=>by rw [fl] at z;cases z) with ⟨m,ss,ts,rfl,rfl,rfl⟩ | ⟨m,ss,ts,rfl,rfl,rfl⟩
  · obtain ⟨ds,rfl⟩:=u45 h1
    obtain ⟨es,rfl⟩:=u45 h2
    · · · obtain ⟨_,ss',em,ez,k1⟩ := snap_tup h1
          cases em;cases ez;obtain ⟨m',ts',em,es',k2⟩:=snap_tup h2;cases em;cases es';obtain ⟨a,xs,rfl,q1,rr1⟩:=r1.tup_inv;obtain ⟨a',ys,rfl,q2,rr2⟩:=r2.tup_inv;cases rx;cases ry;unfold eqN at hb;split at hb
          · rename_i hlen
            obtain ⟨bs,kb,rfl⟩:=Option.map_eq_some_iff.mp hb;obtain ⟨its,w1,t1,_⟩:=I.tuple q1;obtain ⟨its2,w2,t2,_⟩:=I.tuple q2;have P:=u81 rr1 w1 rr2 w2 k1 k2 hlen kb;refine SeqAt.RcNeAt.tuples (e:=fun j=>(bs[j]?).getD true) (show s.heap.IsTuple a its.toArray from t1) (show s.heap.IsTuple a' its2.toArray from t2) (by omega) ?_ X.prog X.w X.xe _ ?_
            · intro j h1 h2
              have h1':j < its.length:=by simpa using h1
              have h2':j < its2.length:=by simpa using h2
              have h3':j < bs.length:=by rw [P.bl];exact h1'
              obtain ⟨d',e',x',y',sd',se',a1,a2,a3,a4,a5,a6,a7⟩:=P.at_ j h1' h2' h3'
              rw [List.getElem?_eq_getElem h3'];have:=v69 I c m X.A.in1 d' e' x' y' _ _ sd' se' _ a1 a2 a3 a4 a5 a6 a7 (by have:X.A.in1.units=X.A.units+1:=rfl;omega);simpa using this
            · have e1 : ((List.range (min its.toArray.size its2.toArray.size)).all (fun j => (bs[j]?).getD true) && its.toArray.size == its2.toArray.size) = bs.all id := by
                have el:its.toArray.size=its2.toArray.size:=by simpa using P.len
                rw [el,Nat.min_self,beq_self_eq_true,Bool.and_true];exact uc6 (by rw [<- el];simpa using P.bl) fun i b hb=>by rw [hb];rfl
              rw [e1];exact fin
          · cases hb
  · obtain ⟨a,rfl⟩:=u46 h1
    obtain ⟨a',rfl⟩:=u46 h2
    · · · obtain ⟨_,ds,ss',em,ez,hs1,k1⟩ := snap_ref h1
          cases em;cases ez;obtain ⟨m',es,ts',em,es',hs2,k2⟩:=snap_ref h2;cases em;cases es';cases r1.ref_inv;cases r2.ref_inv;cases rx;cases ry;obtain ⟨xs,q1,rr1⟩:=u23 c hs1;obtain ⟨ys,q2,rr2⟩:=u23 c hs2;obtain ⟨its,w1,t1,_⟩:=I.list q1;obtain ⟨its2,w2,t2,_⟩:=I.list q2;unfold eqN at hb;split at hb
          · rename_i hlen
            obtain ⟨bs,kb,rfl⟩:=Option.map_eq_some_iff.mp hb;have P:=u81 rr1 w1 rr2 w2 k1 k2 hlen kb;have el:its.toArray.size=its2.toArray.size:=by simpa using P.len
            refine SeqAt.RcNeAt.lists (e:=fun j=>(bs[j]?).getD true) t1.isList t2.isList el (by omega) ?_ X.prog X.w X.xe _ ?_
            · intro j h1 h2
              have h1':j < its.length:=by simpa using h1
              have h2':j < its2.length:=by simpa using h2
              have h3':j < bs.length:=by rw [P.bl];exact h1'
              obtain ⟨d',e',x',y',sd',se',a1,a2,a3,a4,a5,a6,a7⟩:=P.at_ j h1' h2' h3'
              rw [List.getElem?_eq_getElem h3'];have:=v69 I c m X.A.in1 d' e' x' y' _ _ sd' se' _ a1 a2 a3 a4 a5 a6 a7 (by have:X.A.in1.units=X.A.units+1:=rfl;omega);simpa using this
            · have e1 : ((List.range its.toArray.size).all (fun j => (bs[j]?).getD true)) = bs.all id :=
                uc6 (by simpa using P.bl) fun i b hb=>by rw [hb];rfl
              rw [e1];exact fin
          · rename_i hlen
            cases hb;have n1:=(u18 k1).1;have n2:=(u18 k2).1;have m1:=rr1.length;have m2:=rr2.length;have m3:=w1.length;have m4:=w2.length;exact SeqAt.RcNeAt.lists_lengths t1.isList t2.isList (by simp;omega) (by omega) X.prog X.w X.xe _ fin
end
structure FnAt (K:PySem.W.Frag) (x qual:Str) (st:Stmt) (ps:List Str) where
 a:Addr
 fd:FuncData
 ex:∃ (oc:Value) (od:Option Addr) (dV kV doc pm:Value) (an:Option Addr) (cdv ct:Value) (osl:Array (Option Value)),
  fd=PySem.W.fnOf x qual (u30 st) (u21 st) (u01 st) dV kV doc pm an cdv ct /\ K.lookup a=some ⟨oc,od,.func fd,osl⟩ /\ PySem.W.codeIn K cdv qual=true
 kp:PySem.W.keepIn K (.ref a)=true
 b:Binds K fd ps []
abbrev Ok (P:Program) (w:World) {K:PySem.W.Frag} (mg:Str->Option Value) (base:Heap) (n:Nat) {x qual:Str} {st:Stmt} {ps:List Str} (d:FnAt K x qual st ps) (S:Sp3):Prop:=FnOk P w K mg base CX0 n d.a d.fd ps (ua2 K S)
def ua0 (N:List Str) (ds:List D):DSt:=ds.map some++List.replicate (N.length - ds.length) none
theorem ub9 {K:PySem.W.Frag} {H:Hp} {N:List Str} {ds:List D} {vs:List V} (r:RelDs K H ds vs):RelSt K H (ua0 N ds) (L2.start N vs):=by
 unfold ua0 L2.start;refine ⟨by simp [r.length],fun i d e=>?_⟩
 by_cases hi:i < ds.length
 ·rw [List.getElem?_append_left (by simpa using hi),List.getElem?_map] at e
  rw [List.getElem?_append_left (by simpa [<- r.length] using hi),List.getElem?_map];cases h:ds[i]? with
  | none=>rw [h] at e;cases e
  | some d' =>
   rw [h] at e;cases e;obtain ⟨v,hv,rv⟩:=r.get h;exact ⟨v,by rw [hv];rfl,rv⟩
 ·rw [List.getElem?_append_right (by simpa using hi),List.getElem?_replicate] at e
  split at e <;> cases e
section
variable {P:Program} {w:World} {K:PySem.W.Frag} {mg:Str->Option Value} {base:Heap}
theorem u24 {x qual:Str} {st:Stmt} {ps N:List Str} {k:Nat} (d:FnAt K x qual st ps) {S:Sp3} (sc:FnScope N ps (u01 st)) (hl:∀ ds G R,S ds G R->ds.length=ps.length) {t:TS3}
  (ht:∀ (cdv:Value) (A:Around) (outer:List Env) (s:Shared) (H:Hp) (E:XK),Room k (A.deeper (envOfC qual (u01 st) s.heap.objs.size d.a cdv))->Ss3 (cxOf CX0 P w K mg base N qual (u01 st) d.a cdv A outer s H E).nox (u21 st) t)
  (hb:∀ ds G R,S ds G R->t { nx:=fun _ G'=>R .non G',rt:=R } (ua0 N ds) G):Ok P w mg base (k+1) d S:=by
 obtain ⟨oc,od,dV,kV,doc,pm,an,cdv,ct,osl,e,lk,hcd⟩:=d.ex;have lk':K.lookup d.a=some ⟨oc,od,.func (PySem.W.fnOf x qual (u30 st) (u21 st) (u01 st) dV kV doc pm an cdv ct),osl⟩:=e ▸ lk;have F:FnOk P w K mg base CX0 (k+1) d.a (PySem.W.fnOf x qual (u30 st) (u21 st) (u01 st) dV kV doc pm an cdv ct) ps (ua2 K S):=by
  refine vl6 lk' hcd sc (fun vs H Q E h=>?_) fun A outer s H vs Q E hr h=>?_
  ·obtain ⟨ds,G,R,r,_,hS,_⟩:=h
   rw [<- r.length];exact hl ds G R hS
  ·obtain ⟨ds,G,R,r,c,hS,f⟩:=h
   refine ⟨_,(show PSs _ _ _ from ht cdv A outer s H E hr).nox,ua0 N ds,G,_,ub9 r,c,hb ds G R hS,fun σd' G' σ' H' _ c' l' q=>?_,f,fun _ _ _ _ _ _ _ q=>q.elim,fun _ _ _ _ _ _ _ q=>q.elim⟩;exact f .non G' .non H' RelD.nonI c' l' q
 have F2:=F;rw [<- e] at F2;exact F2
end
section
variable {X:Cx} {e o:Expr} {es:List Expr} {p pos apos:Pos} {ta:TE3} {ts:TA3} {k n:Nat} {S:Sp3} {x m qual:Str} {st:Stmt} {ps:List Str} {C:Addr}
theorem ec (d:FnAt X.K x qual st ps) (hm:X.mg x=some (.ref d.a)) (G:FnOk X.prog X.w X.K X.mg X.base CX0 k d.a d.fd ps (ua2 X.K S)) (hr:Room k X.A) (ha:A3 X (e::es) ts) (hg:Gl X x:=by rfl) (hdb:(x == ("__debug__" : Str))=false:=by decide)
  (he:starEach (e::es) X.env=(false,eval e X.env)::starEach es X.env:=by rfl) (hpl:(backTo pos (starEach es X.env)).any (·.1)=false:=by rfl):E3 X (.Call (.Name x p) (e::es) [] pos) (dCall S [] ts) :=
 w07 G hr hg hm d.kp d.b .nil (fun _=>.nil) ha hdb he hpl
theorem em {pl:Sem Bool} (c:Cls X.K C) (d:FnAt X.K m qual st ps) (hm:Meth X.K C m d.a) (G:FnOk X.prog X.w X.K X.mg X.base CX0 k d.a d.fd ps (ua2 X.K S)) (hr:Room k X.A) (he:E3 X o ta) (ha:A3 X (e::es) ts)
  (hse:starEach (e::es) X.env=(false,eval e X.env)::starEach es X.env:=by rfl) (hpl:(backTo pos (starEach es X.env)).any (·.1)=false:=by rfl)
  (ht:eval (.Call (.Attribute o m apos) (e::es) [] pos) X.env=(do
   let ov <- eval o X.env
   standAt apos.atName
   let (f,first) <- holding [ov] (getMethod ov m pl)
   callWith pos f first (backTo pos (starEach (e::es) X.env)) (backToKw pos (keywordEach [] X.env))):=by rfl):E3 X (.Call (.Attribute o m apos) (e::es) [] pos) (v77 C m S [] ta ts) :=
 w06 he c hm G hr d.b .nil (fun _=>.nil) ha hse hpl ht
end
def spec (pre:List D->Gp->Prop) (post:List D->Gp->D->Gp->Prop):Sp3:=fun ds G R=>pre ds G /\ ∀ d G',post ds G d G'->R d G'
theorem us0 {pre:List D->Gp->Prop} {post:List D->Gp->D->Gp->Prop} {ds:List D} {G:Gp} {q:DK} (h:pre ds G) (k:∀ d G',post ds G d G'->q d G'):∃ R,spec pre post ds G R /\ ∀ d G',R d G'->q d G' :=
 ⟨post ds G,⟨h,fun _ _ z=>z⟩,k⟩
def w14 (osc:Scope) (N N':List Str) (ix:List (Option Nat)) (scope:Scope):Bool :=
 (scope.kind == .function) && scope.names.all (fun y=>y.2 != .cell) && scope.names.all (fun y=>y.2 != .local || scope.names.lookup y.1 == some .local) &&
 scope.names.all (fun y=>y.2 != .free || osc.names.lookup y.1 == some .cell || osc.names.lookup y.1 == some .free) && (ix.length == N'.length) &&
 (N'.zip ix).all (fun p=>match p.2 with | none=>true | some j=>N[j]? == some p.1 && scope.names.lookup p.1 == some .free)
theorem blk {X:Cx} {osc:Scope} {N N':List Str} {ix:List (Option Nat)} {scope:Scope} (h1:X.env.scope=osc) (h2:X.N=N) (h:w14 osc N N' ix scope=true):BlkOk X N' ix scope:=by
 unfold w14 at h;simp only [Bool.and_eq_true] at h;obtain ⟨⟨⟨⟨⟨a1,a2⟩,a3⟩,a4⟩,a5⟩,a6⟩:=h;rw [List.all_eq_true] at a2 a3 a4 a6;refine ⟨eq_of_beq a1,fun y hy=>by simpa using a2 y hy,fun y hy e=>?_,fun y hy e=>?_,eq_of_beq a5,fun i j x e1 e2=>?_⟩
 ·have:=a3 y hy
  simp only [e,bne_self_eq_false,Bool.false_or] at this;exact eq_of_beq this
 ·have:=a4 y hy
  simp only [e,bne_self_eq_false,Bool.false_or,Bool.or_eq_true,beq_iff_eq] at this;unfold Env.kindOf;rw [h1];exact this
 ·have hz:(N'.zip ix)[i]?=some (x,some j):=by rw [List.getElem?_zip_eq_some];exact ⟨e1,e2⟩
  have:=a6 _ (List.mem_of_getElem? hz);simp only [Bool.and_eq_true,beq_iff_eq] at this;rw [h2];exact this
section
variable {X:Cx} {K:PySem.W.Frag} {H:Hp}
def v93:RS3:=fun x lo hi G q=>match x with
 | .ref a=>(match u10 (G a) with | some ds=>∀ p,G p=none->q (.ref p) (gup G p (.lst (cutD ds lo hi))) | none=>False)
 | .tup ds=>¬ (HT.sIx ds.length 0 lo=0 /\ HT.sIx ds.length ds.length hi=ds.length) /\ q (.tup (cutD ds lo hi)) G
 | _=>False
def xLen:C3:=fun ds G q=>match ds with
 | [.str z]=>z.length<=sizeLine /\ q (.int z.length) G
 | [.tup xs]=>q (.int xs.length) G
 | [.ref a]=>(match u10 (G a) with | some xs=>q (.int xs.length) G | none=>False)
 | _=>False
theorem RelDs.one {d:D} {vs:List V} (h:RelDs K H [d] vs):∃ v,vs=[v] /\ RelD K H d v:=by
 obtain ⟨x,r,rfl,h1,h2⟩:=h.inv_cons;rw [h2.inv_nil];exact ⟨x,rfl,h1⟩
theorem RelDs.two {d e:D} {vs:List V} (h:RelDs K H [d,e] vs):∃ v u,vs=[v,u] /\ RelD K H d v /\ RelD K H e u:=by
 obtain ⟨x,r,rfl,h1,h2⟩:=h.inv_cons;obtain ⟨y,rfl,h3⟩:=h2.one;exact ⟨x,y,rfl,h1,h3⟩
theorem u79:Call3 X (.builtin "len") xLen:=u39 (call_len_seq.or ug8) <| by
 rintro xs H Q ⟨ds,G,q,r,c,t,f⟩;unfold xLen at t;split at t
 ·obtain ⟨v,rfl,r1⟩:=r.one
  cases r1.str_inv;exact .inr ⟨_,rfl,t.1,f _ _ _ _ RelD.intI c (Le.refl H) t.2⟩
 ·obtain ⟨v,rfl,r1⟩:=r.one
  obtain ⟨a,ys,rfl,s1,q1⟩:=r1.tup_inv;refine .inl ⟨a,ys,rfl,.inr s1,?_⟩;rw [<- q1.length];exact f _ _ _ _ RelD.intI c (Le.refl H) t
 ·obtain ⟨v,rfl,r1⟩:=r.one
  cases r1.ref_inv;split at t
  ·rename_i ds e
   obtain ⟨ys,s1,q1⟩:=u23 c e;refine .inl ⟨_,ys,rfl,.inl s1,?_⟩;rw [<- q1.length];exact f _ _ _ _ RelD.intI c (Le.refl H) t
  ·exact t.elim
 ·exact t.elim
def xAbs:C3:=fun ds G q=>match ds with | [.int i]=>q (.int (if i < 0 then -i else i)) G | _=>False
theorem w32:Call3 X (.builtin "abs") xAbs:=u39 v82 <| by
 rintro xs H Q ⟨ds,G,q,r,c,t,f⟩;unfold xAbs at t;split at t
 ·obtain ⟨v,rfl,r1⟩:=r.one
  cases r1.int_inv;exact ⟨_,rfl,f _ _ _ _ RelD.intI c (Le.refl H) t⟩
 ·exact t.elim
def uh5:C3:=fun ds G q=>match ds with | [.int i,.int j]=>CDiv i j /\ q (.tup [.int (i / j),.int (i % j)]) G | _=>False
theorem v19:Call3 X (.builtin "divmod") uh5:=u39 uj7 <| by
 rintro xs H Q ⟨ds,G,q,r,c,t,f⟩;unfold uh5 at t;split at t
 ·obtain ⟨v,u,rfl,r1,r2⟩:=r.two
  cases r1.int_inv;cases r2.int_inv;refine ⟨_,_,rfl,t.1,fun p hp=>f (.tup _) G (.ref p) _ ?_ (c.side hp) (Le.fresh hp) t.2⟩;rw [RelD];exact ⟨p,_,rfl,SqT.of u14,.cons RelD.intI (.cons RelD.intI .nil)⟩
 ·exact t.elim
def vd9:C3:=fun ds G q=>match ds with | [.int i,.int j]=>q (.int (if j > i then j else i)) G | _=>False
def vd8:C3:=fun ds G q=>match ds with | [.int i,.int j]=>q (.int (if j < i then j else i)) G | _=>False
theorem v92 (hc:X.calm=true:=by rfl):Call3 X (.builtin "max") vd9:=u39 (v06 hc) <| by
 rintro xs H Q ⟨ds,G,q,r,c,t,f⟩;unfold vd9 at t;split at t
 ·obtain ⟨v,u,rfl,r1,r2⟩:=r.two
  cases r1.int_inv;cases r2.int_inv;exact ⟨_,_,rfl,f _ _ _ _ RelD.intI c (Le.refl H) t⟩
 ·exact t.elim
theorem ue6 (hc:X.calm=true:=by rfl):Call3 X (.builtin "min") vd8:=u39 (v04 hc) <| by
 rintro xs H Q ⟨ds,G,q,r,c,t,f⟩;unfold vd8 at t;split at t
 ·obtain ⟨v,u,rfl,r1,r2⟩:=r.two
  cases r1.int_inv;cases r2.int_inv;exact ⟨_,_,rfl,f _ _ _ _ RelD.intI c (Le.refl H) t⟩
 ·exact t.elim
def uk2:C3:=fun ds G q=>match ds with | [.int i]=>q (.int i) G | [.bl b]=>q (.int (if b then 1 else 0)) G | _=>False
theorem uq7:Call3 X (.type "int") uk2:=u39 v07 <| by
 rintro xs H Q ⟨ds,G,q,r,c,t,f⟩;unfold uk2 at t;split at t
 ·obtain ⟨v,rfl,r1⟩:=r.one
  cases r1.int_inv;exact .inl ⟨_,rfl,f _ _ _ _ RelD.intI c (Le.refl H) t⟩
 ·obtain ⟨v,rfl,r1⟩:=r.one
  cases r1.bl_inv;exact .inr ⟨_,rfl,f _ _ _ _ RelD.intI c (Le.refl H) t⟩
 ·exact t.elim
def ur0:C3:=fun ds G q=>match ds with
 | [.tup xs]=>∀ p,G p=none->q (.ref p) (gup G p (.lst xs))
 | [.ref a]=>(match u10 (G a) with | some xs=>∀ p,G p=none->q (.ref p) (gup G p (.lst xs)) | none=>False)
 | _=>False
def uk1:C3:=fun ds G q=>match ds with
 | [.tup xs]=>q (.tup xs) G
 | [.ref a]=>(match u10 (G a) with | some xs=>q (.tup xs) G | none=>False)
 | _=>False
def vo4:List D->Option (List Bool)
 | []=>some []
 | .bl b::r=>(vo4 r).map (b::·)
 | _=>none
def xAll:C3:=fun ds G q=>match ds with
 | [.ref a]=>(match u10 (G a) with | some xs=>(match vo4 xs with | some bs=>q (.bl (bs.all id)) G | none=>False) | none=>False)
 | _=>False
def u89:List D->Option (List Int)
 | []=>some []
 | .int b::r=>(u89 r).map (b::·)
 | _=>none
theorem u85:∀ {ds:List D} {bs:List Int} {vs:List V},u89 ds=some bs->RelDs K H ds vs->vs=bs.map V.int
 | [],bs,vs,e,r=>by cases e;rw [r.inv_nil];rfl
 | .int b::ds,bs,vs,e,r=>by
  obtain ⟨x,xs,rfl,h1,h2⟩:=r.inv_cons;obtain ⟨bs',e',rfl⟩:=Option.map_eq_some_iff.mp (show (u89 ds).map (b::·)=some bs from e);rw [h1.int_inv,u85 e' h2];rfl
 | .non::_,_,_,e,_=>by cases e
 | .bl _::_,_,_,e,_=>by cases e
 | .str _::_,_,_,e,_=>by cases e
 | .tup _::_,_,_,e,_=>by cases e
 | .ref _::_,_,_,e,_=>by cases e
 | .ty _::_,_,_,e,_=>by cases e
def xSum:C3:=fun ds G q=>match ds with
 | [.ref a]=>(match u10 (G a) with | some xs=>(match u89 xs with | some bs=>q (.int bs.sum) G | none=>False) | none=>False)
 | _=>False
theorem vp6 (hc:X.calm=true:=by rfl):Call3 X (.builtin "sum") xSum:=u39 (v81 hc) <| by
 rintro xs H Q ⟨ds,G,q,r,c,t,f⟩;unfold xSum at t;split at t
 ·obtain ⟨v,rfl,r1⟩:=r.one
  cases r1.ref_inv;split at t
  ·rename_i ds e
   obtain ⟨ys,s1,q1⟩:=u23 c e;split at t
   ·rename_i bs eb
    have:=u85 eb q1;subst this;exact ⟨_,bs,rfl,s1,f _ _ _ _ RelD.intI c (Le.refl H) t⟩
   ·exact t.elim
  ·exact t.elim
 ·exact t.elim
def vk8 (G:Gp):D->Option String
 | .non=>some "NoneType"
 | .bl _=>some "bool"
 | .int _=>some "int"
 | .str _=>some "str"
 | .ref a=>match G a with | some (.lst _)=>some "list" | some (.fro _)=>some "list" | some (.dic _)=>some "dict" | _=>none
 | _=>none
def ve0:C3:=fun ds G q=>match ds with
 | [x,.ty T]=>(T = "int" \/ T = "str" \/ T = "bool" \/ T = "list" \/ T = "tuple" \/ T = "dict") /\ (match vk8 G x with | some n=>q (.bl (subK n T)) G | none=>False)
 | _=>False
def xIs2:R3:=fun x y G q=>match y with
 | .non=>(match x with | .non=>q (.bl true) G | _=>q (.bl false) G)
 | .bl b=>(match x with | .bl c=>q (.bl (decide (c=b))) G | _=>q (.bl false) G)
 | _=>False
def ur1:R3:=fun x y G q=>match y with
 | .non=>(match x with | .non=>q (.bl false) G | _=>q (.bl true) G)
 | .bl b=>(match x with | .bl c=>q (.bl (!decide (c=b))) G | _=>q (.bl true) G)
 | _=>False
theorem RelD.not_bl {d:D} {v:V} (h:RelD K H d v) (b:Bool) (n:∀ c,d ≠ .bl c):v ≠ .bl b:=by
 cases d with
 | bl c=>exact absurd rfl (n c)
 | non=>rw [h.non_inv];exact fun z=>nomatch z
 | int _=>rw [h.int_inv];exact fun z=>nomatch z
 | str _=>rw [h.str_inv];exact fun z=>nomatch z
 | ref _=>rw [h.ref_inv];exact fun z=>nomatch z
 | ty _=>rw [RelD] at h;rw [h];exact fun z=>nomatch z
 | tup _=>obtain ⟨a,xs,e,_⟩:=h.tup_inv;rw [e];exact fun z=>nomatch z
theorem ud9 {c b:Bool}:decide (V.bl c=V.bl b)=decide (c=b):=by cases c <;> cases b <;> rfl
theorem vd5:Op3 X (compareOp .Is) xIs2:=u54 (op_isN.or vv2) <| by
 rintro x y H Q ⟨d,e,G,q,r1,r2,c,t,f⟩;unfold xIs2 at t;split at t
 ·refine .inl ⟨r2.non_inv,?_⟩
  split at t
  ·rw [r1.non_inv]
   exact f _ _ _ _ RelD.blI c (Le.refl H) t
  ·rename_i hd
   rw [decide_eq_false (r1.not_non fun z=>hd z)];exact f _ _ _ _ RelD.blI c (Le.refl H) t
 ·rename_i b
  refine .inr ⟨b,r2.bl_inv,?_⟩;split at t
  ·rw [r1.bl_inv,ud9]
   exact f _ _ _ _ RelD.blI c (Le.refl H) t
  ·rename_i hd
   rw [decide_eq_false (r1.not_bl b fun z hz=>hd z hz)];exact f _ _ _ _ RelD.blI c (Le.refl H) t
 ·exact t.elim
end
def jSeq (n:Nat) (t:TGs3):TG3:=fun d σ G q=>match d with
 | .tup ds=>ds.length=n /\ t ds σ G q
 | .ref a=>(match u10 (G a) with | some ds=>ds.length=n /\ t ds σ G q | none=>False)
 | _=>False
def wAny (te:TE3):TI3:=fun σ G r=>te σ G fun x G1=>match x with
 | .ref a=>(match u10 (G1 a) with | some ds=>r ⟨ds,fun G=>u10 (G a)=some ds⟩ G1 | none=>False)
 | .tup ds=>r ⟨ds,fun _=>True⟩ G1
 | _=>False
section
variable {X:Cx} {es:List Expr} {e tg:Expr} {te:TE3} {pos:Pos}
theorem vk9 {k n:Nat} {t:TGs3} (hc:X.calm=true) (h:Js3 X es t) (hn:(assignEach es X.env).length=n:=by rfl) (hst:(assignEach es X.env).findIdx? (·.1)=none:=by rfl):J3 X (.Tuple es k pos) (jSeq n t) :=
 ve3 (w45 (vt1 hc h hn hst) (vi4 hc h hn hst)) fun v σ H Q hh=>by
  obtain ⟨d,σd,G,q,r,rs,c,t,f⟩:=hh;unfold jSeq at t;split at t
  ·rename_i ds
   obtain ⟨a,xs,rfl,s,r2⟩:=r.tup_inv;exact .inl ⟨a,xs,rfl,s,by rw [<- r2.length];exact t.1,ds,σd,G,q,r2,rs,c,t.2,f⟩
  ·rename_i a
   split at t
   ·rename_i ds e
    obtain ⟨xs,s,r'⟩:=u23 c e;exact .inr ⟨a,xs,r.ref_inv,s,by rw [<- r'.length];exact t.1,ds,σd,G,q,r',rs,c,t.2,f⟩
   ·exact t.elim
  ·exact t.elim
theorem v65 (h:E3 X e te):I3 X tg e (wAny te):=ur5 (vs9 h) fun σ H R hh=>by
 obtain ⟨σd,G,q,rs,c,t,f⟩:=hh;refine ⟨σd,G,_,rs,c,t,fun x G1 v H1 r1 c1 l1 t1=>?_⟩;split at t1
 ·rename_i a
  split at t1
  ·rename_i ds e
   obtain ⟨xs,s,_⟩:=u23 c1 e;exact ⟨a,r1.ref_inv,.inl ⟨⟨xs,s⟩,f _ _ _ _ up7 c1 l1 t1⟩⟩
  ·exact t1.elim
 ·rename_i ds
  obtain ⟨a,xs,rfl,s,r⟩:=r1.tup_inv;exact ⟨a,rfl,.inr ⟨⟨xs,s⟩,f _ _ _ _ (ux6 s r) c1 l1 t1⟩⟩
 ·exact t1.elim
end
section
variable {X:Cx} {e o:Expr} {es:List Expr} {to:TE3} {ts:TA3} {apos cpos:Pos}
theorem ty_list (K:PySem.W.Frag):∀ G H x v,Con K G H->RelD K H x v->tyD G "list" x->tyV K "list" v H:=by
 intro G H x v c r t;cases x with
 | ref a =>
  cases r.ref_inv;cases e:G a with
  | none=>simp [tyD,e] at t
  | some o =>
   cases o with
   | lst ds=>obtain ⟨xs,s,_⟩:=u23 (ds:=ds) c (by rw [e];rfl);exact .inl ⟨rfl,xs,s⟩
   | fro ds=>obtain ⟨xs,s,_⟩:=u23 (ds:=ds) c (by rw [e];rfl);exact .inl ⟨rfl,xs,s⟩
   | dic _=>simp [tyD,e] at t
   | dit _=>simp [tyD,e] at t
   | ins _ _=>simp [tyD,e] at t
   | exc _ _=>simp [tyD,e] at t
   | frd _=>simp [tyD,e] at t
   | tb _ _=>simp [tyD,e] at t
 | str _=>simp [tyD] at t
 | int _=>simp [tyD] at t
 | _=>exact t.elim
def ud5:M3:=fun x ds G q=>match x,ds with
 | .ref a,[d]=>(match G a with | some (.lst xs)=>xs.length < sizeLine /\ q .non (gup G a (.lst (xs++[d]))) | _=>False)
 | _,_=>False
theorem un3 (ho:E3 X o to) (ha:A3 X (e::es) ts) (hbase:attributeBase o "append" X.env (eval o X.env)=eval o X.env:=by rfl)
  (hfew:((backTo cpos (starEach (e::es) X.env)).all (fun x=>!x.1) && (backToKw cpos (keywordEach [] X.env)).all (fun x=>x.1.isSome)
   && decide ((e::es).length+([]:List Keyword).length+(if ([]:List Keyword).isEmpty then 0 else 1) < 30))=true:=by rfl)
  (hline:(apos.endLine == cpos.line)=true:=by rfl) (hs:starEach (e::es) X.env=(false,eval e X.env)::starEach es X.env:=by rfl) (hplain:(backTo cpos (starEach es X.env)).any (·.1)=false:=by rfl) :
  E3 X (.Call (.Attribute o "append" apos) (e::es) [] cpos) (dBM "list" ud5 to ts) :=
 u34 (vt9 PySem.F.plainAttrs_list PySem.F.slot_list_append PySem.F.type_list_append (v95 (r':=lowM X.K ud5) uf6 <| by
  rintro x xs H Q ⟨d,ds,G,q,r1,r2,c,t,f⟩;unfold ud5 at t;split at t
  ·rename_i a d'
   split at t
   ·rename_i ys ea
    cases r1.ref_inv;obtain ⟨v,rfl,rv⟩:=r2.one;obtain ⟨zs,h1,q1⟩:=c _ _ ea;exact ⟨a,zs,v,rfl,rfl,h1,by rw [<- q1.length];exact t.1,f _ _ _ _ RelD.nonI (c.lstSet h1 (q1.append (.cons rv .nil))) (Le.lst h1) t.2⟩
   ·exact t.elim
  ·exact t.elim) ho ha hbase hfew hline hs hplain) fun _ _ _=>vb9 (ty_list X.K)
def vj2:M3:=fun x ds G q=>match x,ds with
 | .ref a,[.ref b]=>(match G a,G b with | some (.lst xs),some (.lst ys)=>xs.length+ys.length<=sizeLine /\ q .non (gup G a (.lst (xs++ys))) | _,_=>False)
 | _,_=>False
def w76:M3:=fun x ds G q=>match x,ds with
 | .ref a,[]=>(match G a with | some (.lst xs)=>(match xs[xs.length - 1]? with | some y=>q y (gup G a (.lst xs.dropLast)) | none=>False) | _=>False)
 | _,_=>False
def vj3:M3:=fun x ds G q=>match x,ds with
 | .ref a,[]=>(match G a with | some (.lst _)=>q .non (gup G a (.lst [])) | _=>False)
 | _,_=>False
end
def xEqB (neg:Bool):R3:=fun x y G q=>match x,y with
 | .int i,.int j=>q (.bl (if neg then !decide (i=j) else decide (i=j))) G
 | .str i,.str j=>q (.bl (if neg then !decide (i=j) else decide (i=j))) G
 | .bl i,.bl j=>q (.bl (if neg then !decide (i=j) else decide (i=j))) G
 | .non,.non=>q (.bl (!neg)) G
 | .non,.int _=>q (.bl neg) G
 | .int _,.non=>q (.bl neg) G
 | .non,.bl _=>q (.bl neg) G
 | .bl _,.non=>q (.bl neg) G
 | .non,.str _=>q (.bl neg) G
 | .str _,.non=>q (.bl neg) G
 | .int _,.str _=>q (.bl neg) G
 | .str _,.int _=>q (.bl neg) G
 | .tup xs,.tup ys=>∃ n sd se b,n<=40 /\ snap G n (.tup xs)=some sd /\ snap G n (.tup ys)=some se /\ eqN n sd se=some b /\ q (.bl (if neg then !b else b)) G
 | .ref a,.ref c=>∃ n sd se b,n<=40 /\ snap G n (.ref a)=some sd /\ snap G n (.ref c)=some se /\ eqN n sd se=some b /\ q (.bl (if neg then !b else b)) G
 | _,_=>False
section
variable {X:Cx} {k:Nat}
theorem un5 {i j:Int}:decide (V.int i=V.int j)=decide (i=j):=by
 by_cases h:i=j
 ·subst h;simp
 ·simp [h]
theorem un4 {i j:Str}:decide (V.str i=V.str j)=decide (i=j):=by
 by_cases h:i=j
 ·subst h;simp
 ·simp [h]
theorem u55 {G:Gp} {n:Nat} {xs:List D} {sd:Sn} (h:snap G n (.tup xs)=some sd):u38 sd=false:=by
 obtain ⟨_,_,_,rfl,_⟩:=snap_tup h;rfl
theorem u56 {G:Gp} {n:Nat} {a:Addr} {sd:Sn} (h:snap G n (.ref a)=some sd):u38 sd=false:=by
 obtain ⟨_,_,_,_,rfl,_⟩:=snap_ref h;rfl
theorem x_eq (hr:Room k X.A):Op3 X (compareOp .Eq) (xEqB false):=u54 (op_eq.or (vv4 hr)) <| by
 rintro x y H Q ⟨d,e,G,q,r1,r2,c,t,f⟩;have fin:∀ b,q (.bl b) G->Q (.bl b) H:=fun b z=>f _ _ _ _ RelD.blI c (Le.refl H) z
 unfold xEqB at t;split at t
 ·cases r1.int_inv;cases r2.int_inv;exact .inl ⟨rfl,by rw [un5];exact fin _ t⟩
 ·cases r1.str_inv;cases r2.str_inv;exact .inl ⟨rfl,by rw [un4];exact fin _ t⟩
 ·cases r1.bl_inv;cases r2.bl_inv;exact .inl ⟨rfl,by rw [ud9];exact fin _ t⟩
 ·cases r1.non_inv;cases r2.non_inv;exact .inl ⟨rfl,fin _ t⟩
 ·cases r1.non_inv;cases r2.int_inv;exact .inl ⟨rfl,fin _ t⟩
 ·cases r1.int_inv;cases r2.non_inv;exact .inl ⟨rfl,fin _ t⟩
 ·cases r1.non_inv;cases r2.bl_inv;exact .inl ⟨rfl,fin _ t⟩
 ·cases r1.bl_inv;cases r2.non_inv;exact .inl ⟨rfl,fin _ t⟩
 ·cases r1.non_inv;cases r2.str_inv;exact .inl ⟨rfl,fin _ t⟩
 ·cases r1.str_inv;cases r2.non_inv;exact .inl ⟨rfl,fin _ t⟩
 ·cases r1.int_inv;cases r2.str_inv;exact .inl ⟨rfl,fin _ t⟩
 ·cases r1.str_inv;cases r2.int_inv;exact .inl ⟨rfl,fin _ t⟩
 ·obtain ⟨n,sd,se,b,hn,h1,h2,hb,t⟩:=t
  exact .inr ⟨_,_,G,n,sd,se,b,r1,r2,c,hn,h1,h2,hb,u55 h1,fin _ t⟩
 ·obtain ⟨n,sd,se,b,hn,h1,h2,hb,t⟩:=t
  exact .inr ⟨_,_,G,n,sd,se,b,r1,r2,c,hn,h1,h2,hb,u56 h1,fin _ t⟩
 ·exact t.elim
theorem x_ne (hr:Room k X.A):Op3 X (compareOp .NotEq) (xEqB true):=u54 (op_ne.or (vv0 hr)) <| by
 rintro x y H Q ⟨d,e,G,q,r1,r2,c,t,f⟩;have fin:∀ b,q (.bl b) G->Q (.bl b) H:=fun b z=>f _ _ _ _ RelD.blI c (Le.refl H) z
 unfold xEqB at t;split at t
 ·cases r1.int_inv;cases r2.int_inv;exact .inl ⟨rfl,by rw [un5];exact fin _ t⟩
 ·cases r1.str_inv;cases r2.str_inv;exact .inl ⟨rfl,by rw [un4];exact fin _ t⟩
 ·cases r1.bl_inv;cases r2.bl_inv;exact .inl ⟨rfl,by rw [ud9];exact fin _ t⟩
 ·cases r1.non_inv;cases r2.non_inv;exact .inl ⟨rfl,fin _ t⟩
 ·cases r1.non_inv;cases r2.int_inv;exact .inl ⟨rfl,fin _ t⟩
 ·cases r1.int_inv;cases r2.non_inv;exact .inl ⟨rfl,fin _ t⟩
 ·cases r1.non_inv;cases r2.bl_inv;exact .inl ⟨rfl,fin _ t⟩
 ·cases r1.bl_inv;cases r2.non_inv;exact .inl ⟨rfl,fin _ t⟩
 ·cases r1.non_inv;cases r2.str_inv;exact .inl ⟨rfl,fin _ t⟩
 ·cases r1.str_inv;cases r2.non_inv;exact .inl ⟨rfl,fin _ t⟩
 ·cases r1.int_inv;cases r2.str_inv;exact .inl ⟨rfl,fin _ t⟩
 ·cases r1.str_inv;cases r2.int_inv;exact .inl ⟨rfl,fin _ t⟩
 ·obtain ⟨n,sd,se,b,hn,h1,h2,hb,t⟩:=t
  exact .inr ⟨_,_,G,n,sd,se,b,r1,r2,c,hn,h1,h2,hb,u55 h1,fin _ t⟩
 ·obtain ⟨n,sd,se,b,hn,h1,h2,hb,t⟩:=t
  exact .inr ⟨_,_,G,n,sd,se,b,r1,r2,c,hn,h1,h2,hb,u56 h1,fin _ t⟩
 ·exact t.elim
end
theorem u90 {c A B:Prop} [Decidable c] (h1:c->A) (h2:¬ c->B):if decide c=true then A else B:=by
 by_cases h:c
 ·simpa [h] using h1 h
 ·simpa [h] using h2 h
theorem us2 {xs:List D}:u10 (some (.lst xs))=some xs:=rfl
theorem us3 {xs:List D}:u10 (some (.fro xs))=some xs:=rfl
theorem w72 {α:Type} {x:α} {xs:List α}:atI (x::xs) 0=some x:=u53 (j:=0) rfl
theorem w71 {α:Type} {x y:α} {xs:List α}:atI (x::y::xs) 1=some y:=u53 (j:=1) rfl
theorem w70 {α:Type} {x y z:α} {xs:List α}:atI (x::y::z::xs) 2=some z:=u53 (j:=2) rfl
theorem w69 {α:Type} {x y z u:α} {xs:List α}:atI (x::y::z::u::xs) 3=some u:=u53 (j:=3) rfl
theorem w68 {α:Type} {x y z u v:α} {xs:List α}:atI (x::y::z::u::v::xs) 4=some v:=u53 (j:=4) rfl
theorem vz3:ixN 3 0=some 0:=rfl
theorem vz2:ixN 3 1=some 1:=rfl
theorem vz1:ixN 3 2=some 2:=rfl
theorem vz5:ixN 2 0=some 0:=rfl
theorem vz4:ixN 2 1=some 1:=rfl
theorem vl1 {n:Nat} {i:Int} (h0:0<=i) (h:i < n):ixN n i=some i.toNat:=by
 unfold ixN;rw [if_pos h0,if_pos h]
theorem vo0 {α:Type} {xs:List α} {i:Int} (h0:0<=i) (h:i < xs.length):atI xs i=some (xs[i.toNat]'(by omega)):=by
 unfold atI;rw [vl1 h0 h];exact List.getElem?_eq_getElem _
theorem vn9 {α β:Type} {f:α->β} {xs:List α} {i:Int} (h0:0<=i) (h:i < xs.length):atI (xs.map f) i=some (f (xs[i.toNat]'(by omega))):=by
 rw [vo0 h0 (by simpa using h)];simp
theorem ug7 {i j:Int} (h0:0<=i) (h:i < 18446744073709551616):CMul i j:=.inl ⟨by omega,by omega⟩
theorem w74 {j:Int} (h0:0<=j) (h:j<=1000):CPow 2 j:=⟨h0,by omega,by decide⟩
theorem un6 {j:Int} (h0:0<=j) (h:j<=1000):CPow 1 j:=⟨h0,by omega,by decide⟩
end L3
namespace L3
theorem u76 {S:Sp3} {ds:List D} {G G1:Gp} {v:D} {q:DK} (h:∀ R:DK,R v G1->S ds G R) (k:q v G1):∃ R,S ds G R /\ ∀ d G',R d G'->q d G' :=
 ⟨fun d G'=>d=v /\ G'=G1,h _ ⟨rfl,rfl⟩,fun _ _ ⟨e1,e2⟩=>by subst e1;subst e2;exact k⟩
theorem u19 {S:Sp3} {ds:List D} {G:Gp} {post:DK} {q:DK} (h:∀ R:DK,(∀ d G',post d G'->R d G')->S ds G R) (k:∀ d G',post d G'->q d G'):∃ R,S ds G R /\ ∀ d G',R d G'->q d G' :=
 ⟨post,h _ fun _ _ z=>z,k⟩
theorem u51 {ok:Gp->Prop} {g:TG3} {tb:TS3} {E:Ends3} (I:List D->DSt->Gp->Prop) {items:List D} {σ:DSt} {G:Gp} (h0:I items σ G) (nil:∀ σ G,I [] σ G->ok G /\ E.nx σ G)
  (cons:∀ x r σ G,I (x::r) σ G->(∀ σ' G',I r σ' G'->forL ok g tb E r σ' G')->ok G /\ g x σ G fun σ1 G1=>tb { E with nx:=forL ok g tb E r,ct:=forL ok g tb E r,bk:=E.nx } σ1 G1):forL ok g tb E items σ G:=by
 induction items generalizing σ G with
 | nil=>exact nil σ G h0
 | cons x r ih=>exact cons x r σ G h0 fun σ' G' h=>ih h
theorem u36 {ok:Gp->Prop} {g:TG3} {tc:TT3} {te:TE3} {p:PySem.Addr} {q:DK} (I:List D->DSt->Gp->Prop) {items:List D} {σ:DSt} {G:Gp} (h0:I items σ G) (nil:∀ σ G,I [] σ G->ok G /\ q (.ref p) G)
  (cons:∀ x r σ G,I (x::r) σ G->(∀ σ' G',I r σ' G'->ub6 ok g tc te p q r σ' G')->ok G /\ g x σ G fun σ2 G2=>tc σ2 G2 fun b G3 =>
   if b=true then te σ2 G3 fun d G4=>(match G4 p with | some (.lst ys)=>ys.length < PySem.sizeLine /\ ub6 ok g tc te p q r σ2 (gup G4 p (.lst (ys++[d]))) | _=>False)
   else ub6 ok g tc te p q r σ2 G3):ub6 ok g tc te p q items σ G:=by
 induction items generalizing σ G with
 | nil=>exact nil σ G h0
 | cons x r ih=>exact cons x r σ G h0 fun σ' G' h=>ih h
theorem ur4 {c:TT3} {tb:TS3} {E:Ends3} (I:Nat->DSt->Gp->Prop) {m:Nat} {σ:DSt} {G:Gp} (h0:I m σ G)
  (step:∀ m σ G N,I m σ G->(∀ σ' G' m',m=m'+1->I m' σ' G'->N σ' G')->c σ G fun b G1=>if b=true then tb { E with nx:=N,ct:=N,bk:=E.nx } σ G1 else E.nx σ G1):uz4 c tb E σ G:=by
 refine ⟨m+1,?_⟩
 induction m generalizing σ G with
 | zero=>exact step 0 σ G (whN c tb E 0) h0 fun σ' G' m' e=>absurd e (by omega)
 | succ m ih=>exact step (m+1) σ G (whN c tb E (m+1)) h0 fun σ' G' m' e h=>ih (by cases e;exact h)
end L3
namespace Rw
open PySem PyProof.Rows L2 L3
inductive Opd where
 | num (n:Int) | box (y:Nat)
 deriving DecidableEq
inductive Row where
 | add (x:Nat) (o:Opd) | take (x:Nat) (o:Opd) | turn (x i:Nat) (cs:List (Nat × Nat)) | swap (x y:Nat) | go (x:Nat) (n:Int) (k:Nat) | come (x:Nat) (n:Int) (k:Nat)
 deriving DecidableEq
def Opd.d:Opd->D
 | .num n=>.tup [.str "num",.int n]
 | .box y=>.tup [.str "box",.int (y:Int)]
def cd (c:Nat × Nat):D:=.tup [.int (c.1:Int),.int (c.2:Int)]
def Row.d:Row->D
 | .add x o=>.tup [.str "add",.int (x:Int),o.d]
 | .take x o=>.tup [.str "take",.int (x:Int),o.d]
 | .turn x i cs=>.tup [.str "turn",.int (x:Int),.int (i:Int),.tup (cs.map cd)]
 | .swap x y=>.tup [.str "swap",.int (x:Int),.int (y:Int)]
 | .go x n k=>.tup [.str "go",.int (x:Int),.int n,.int (k:Int)]
 | .come x n k=>.tup [.str "come",.int (x:Int),.int n,.int (k:Int)]
def Opd.ok (sz x:Nat):Opd->Prop
 | .num n=>0<=n /\ n < 4294967296
 | .box y=>y < sz /\ y ≠ x
def Row.ok (sz:Nat):Row->Prop
 | .add x o=>x < sz /\ o.ok sz x
 | .take x o=>x < sz /\ o.ok sz x
 | .turn x i cs=>x < sz /\ i < 32 /\ cs.length<=2 /\ ∀ c ∈ cs,c.1 < sz /\ c.1 ≠ x /\ c.2 < 32
 | .swap x y=>x < sz /\ y < sz /\ y ≠ x
 | .go x n _=>x < sz /\ 0<=n /\ n < 4294967296
 | .come x n _=>x < sz /\ 0<=n /\ n < 4294967296
def Row.plain:Row->Bool
 | .go _ _ _=>false
 | .come _ _ _=>false
 | _=>true
def gt (bs:List Int) (x:Nat):Int:=bs.getD x 0
def bit (v:Int) (j:Nat):Int:=v / 2 ^ j % 2
def flp (v:Int) (i:Nat):Int:=v+2 ^ i * (1 - 2 * bit v i)
def val (bs:List Int):Opd->Int
 | .num n=>n
 | .box y=>gt bs y
def con (bs:List Int) (cs:List (Nat × Nat)):Bool:=cs.all fun c=>!decide (bit (gt bs c.1) c.2=0)
def stp (s:Int) (bs:List Int):Row->List Int
 | .add x o=>bs.set x ((gt bs x+s * val bs o) % 4294967296)
 | .take x o=>bs.set x ((gt bs x - s * val bs o) % 4294967296)
 | .turn x i cs=>if con bs cs=true then bs.set x (flp (gt bs x) i) else bs
 | .swap x y=>(bs.set x (gt bs y)).set y (gt bs x)
 | .go _ _ _=>bs
 | .come _ _ _=>bs
structure BsOk (sz:Nat) (bs:List Int):Prop where
 len:bs.length=sz
 rng:∀ v ∈ bs,0<=v /\ v < 4294967296
end Rw
namespace Rw
open PySem L2 L3
theorem uc0 {G:Gp}:∀ ks:List Int,(ks.map D.int).mapM (snap G 0)=some (ks.map Sn.int)
 | []=>rfl
 | k::ks=>by
  rw [List.map_cons,List.mapM_cons,uc0 ks];rfl
theorem uf2 {G:Gp} {a:Addr} {ks:List Int} (h:u10 (G a)=some (ks.map .int)):snap G 1 (.ref a)=some (.lst (ks.map .int)):=by
 show ((u10 (G a)).bind fun ds=>(ds.mapM (snap G 0)).map Sn.lst)=_
 rw [h,Option.bind_some,uc0];rfl
theorem vc6:∀ ks ms:List Int,ks.length=ms.length->∃ bs,(((ks.map Sn.int).zip (ms.map Sn.int)).mapM fun p=>eqN 0 p.1 p.2)=some bs /\ bs.all id=decide (ks=ms)
 | [],[],_=>⟨[],rfl,rfl⟩
 | [],_::_,h=>by simp at h
 | _::_,[],h=>by simp at h
 | k::ks,m::ms,h=>by
  obtain ⟨bs,e,q⟩:=vc6 ks ms (by simpa using h);refine ⟨(k == m)::bs,?_,?_⟩
  ·rw [List.map_cons,List.map_cons,List.zip_cons_cons,List.mapM_cons,e]
   rfl
  ·rw [List.all_cons,q]
   by_cases hk:k=m
   ·subst hk;simp
   ·simp [hk]
theorem vl8 {ks ms:List Int}:eqN 1 (.lst (ks.map .int)) (.lst (ms.map .int))=some (decide (ks=ms)):=by
 show (if (ks.map Sn.int).length=(ms.map Sn.int).length then (((ks.map Sn.int).zip (ms.map Sn.int)).mapM fun p=>eqN 0 p.1 p.2).map (fun bs=>bs.all id) else some false)=_
 by_cases h:ks.length=ms.length
 ·rw [if_pos (by simpa using h)]
  obtain ⟨bs,e,q⟩:=vc6 ks ms h;rw [e,Option.map_some,q]
 ·rw [if_neg (by simpa using h)]
  have:ks ≠ ms:=fun e=>h (by rw [e])
  simp [this]
theorem un9 {G:Gp} {a b:Addr} {ks ms:List Int} {Q:Bool->Prop} (h1:u10 (G a)=some (ks.map .int)) (h2:u10 (G b)=some (ms.map .int)) (h:Q (decide (ks=ms))) :
  ∃ n sd se r,n<=40 /\ snap G n (.ref a)=some sd /\ snap G n (.ref b)=some se /\ eqN n sd se=some r /\ Q r :=
 ⟨1,_,_,_,by decide,uf2 h1,uf2 h2,vl8,h⟩
theorem u09 (lo:Int) (n:Nat):rngD lo (n+1)=.int lo::rngD (lo+1) n:=by
 unfold rngD;rw [List.range_succ_eq_map,List.map_cons,List.map_map]
 congr 1
 ·simp
 ·apply List.map_congr_left
  intro i _
  show D.int _=D.int _
  congr 1
  simp;omega
theorem div_bit {v:Int} {j:Nat}:v / (1 * 2 ^ j) % 2=bit v j:=by rw [Int.one_mul];rfl
structure Grow (G G':Gp):Prop where
 kp:∀ b o,G b=some o->G' b=some o
theorem Grow.refl {G:Gp}:Grow G G:=⟨fun _ _ h=>h⟩
theorem Grow.trans {G G1 G2:Gp} (a:Grow G G1) (b:Grow G1 G2):Grow G G2:=⟨fun c o h=>b.kp c o (a.kp c o h)⟩
theorem Grow.new {G G1:Gp} {p:Addr} {o:DO} (a:Grow G G1) (h:G1 p=none):Grow G (gup G1 p o):=⟨fun b u e=>by rw [u07 (gne (a.kp b u e) h)];exact a.kp b u e⟩
theorem Grow.own {G G1:Gp} {p:Addr} {o:DO} (a:Grow G G1) (h:G p=none):Grow G (gup G1 p o):=⟨fun b u e=>by rw [u07 (gne e h)];exact a.kp b u e⟩
theorem Grow.none {G G1:Gp} {p:Addr} (a:Grow G G1) (h:G1 p=none):G p=none:=by
 cases e:G p with
 | none=>rfl
 | some o=>rw [a.kp p o e] at h;cases h
end Rw
namespace L3
open PySem PySem.Spec PyProof.Rows L2
theorem vp5:(∀ i j G q,xEqB false (.int i) (.int j) G q=q (.bl (decide (i=j))) G) /\ (∀ i j G q,xEqB true (.int i) (.int j) G q=q (.bl (!decide (i=j))) G) /\
  (∀ i j G q,xEqB false (.str i) (.str j) G q=q (.bl (decide (i=j))) G) /\ (∀ i j G q,xEqB true (.str i) (.str j) G q=q (.bl (!decide (i=j))) G) /\
  (∀ a c G q,xEqB false (.ref a) (.ref c) G q=∃ n sd se b,n<=40 /\ snap G n (.ref a)=some sd /\ snap G n (.ref c)=some se /\ eqN n sd se=some b /\ q (.bl b) G) /\
  (∀ a c G q,xEqB true (.ref a) (.ref c) G q=∃ n sd se b,n<=40 /\ snap G n (.ref a)=some sd /\ snap G n (.ref c)=some se /\ eqN n sd se=some b /\ q (.bl (!b)) G) /\
  (∀ a c G q,xEqB false (.tup a) (.tup c) G q=∃ n sd se b,n<=40 /\ snap G n (.tup a)=some sd /\ snap G n (.tup c)=some se /\ eqN n sd se=some b /\ q (.bl b) G) /\
  (∀ a c G q,xEqB true (.tup a) (.tup c) G q=∃ n sd se b,n<=40 /\ snap G n (.tup a)=some sd /\ snap G n (.tup c)=some se /\ eqN n sd se=some b /\ q (.bl (!b)) G) /\
  (∀ i j G q,xAdd (.int i) (.int j) G q=q (.int (i+j)) G) /\ (∀ i j G q,xMul (.int i) (.int j) G q=(CMul i j /\ q (.int (i * j)) G)) /\
  (∀ a k G q,xMul (.ref a) (.int k) G q=(match G a with | some (.lst xs)=>(-(2 ^ 63)<=k /\ k < 2 ^ 63 /\ xs.length * k.toNat<=sizeLine) /\ ∀ p,G p=none->q (.ref p) (gup G p (.lst (List.replicate k.toNat xs).flatten)) | _=>False)) /\
  (∀ i j G q,xLt (.int i) (.int j) G q=q (.bl (decide (i < j))) G) /\
  (∀ ds i G q,xIx (.tup ds) (.int i) G q=(match atI ds i with | some d=>q d G | none=>False)) /\
  (∀ a i G q,xIx (.ref a) (.int i) G q=(match u10 (G a) with | some ds=>(match atI ds i with | some d=>q d G | none=>False) | none=>False)) /\
  (∀ xs G q,xLen [.tup xs] G q=q (.int xs.length) G) /\ (∀ a G q,xLen [.ref a] G q=(match u10 (G a) with | some xs=>q (.int xs.length) G | none=>False)) :=
 ⟨fun _ _ _ _=>rfl,fun _ _ _ _=>rfl,fun _ _ _ _=>rfl,fun _ _ _ _=>rfl,fun _ _ _ _=>rfl,fun _ _ _ _=>rfl,fun _ _ _ _=>rfl,fun _ _ _ _=>rfl,fun _ _ _ _=>rfl,fun _ _ _ _=>rfl,fun _ _ _ _=>rfl,fun _ _ _ _=>rfl,fun _ _ _ _=>rfl,fun _ _ _ _=>rfl,fun _ _ _=>rfl,fun _ _ _=>rfl⟩
theorem vp3:(∀ f i j G q,xInt f (.int i) (.int j) G q=q (.int (f i j)) G) /\ (∀ C f i j G q,ue7 C f (.int i) (.int j) G q=(C i j /\ q (.int (f i j)) G)) /\ (∀ i j G q,xLe (.int i) (.int j) G q=q (.bl (decide (i<=j))) G) /\
  (∀ i j G q,xGt (.int i) (.int j) G q=q (.bl (decide (j < i))) G) /\ (∀ i j G q,xGe (.int i) (.int j) G q=q (.bl (decide (j<=i))) G) /\ (∀ i G q,xNeg (.int i) G q=q (.int (-i)) G) /\
  (∀ a k v G q,xSet (.ref a) (.int k) v G q=(match G a with | some (.lst ds)=>(match ixN ds.length k with | some j=>q (gup G a (.lst (ds.set j v))) | none=>False) | _=>False)) /\
  (∀ a lo hi G q,v93 (.ref a) lo hi G q=(match u10 (G a) with | some ds=>∀ p,G p=none->q (.ref p) (gup G p (.lst (cutD ds lo hi))) | none=>False)) /\
  (∀ ds lo hi G q,v93 (.tup ds) lo hi G q=(¬ (HT.sIx ds.length 0 lo=0 /\ HT.sIx ds.length ds.length hi=ds.length) /\ q (.tup (cutD ds lo hi)) G)) /\
  (∀ x G q,xIs2 x .non G q=(match x with | .non=>q (.bl true) G | _=>q (.bl false) G)) /\ (∀ x b G q,xIs2 x (.bl b) G q=(match x with | .bl c=>q (.bl (decide (c=b))) G | _=>q (.bl false) G)) /\
  (∀ x G q,ur1 x .non G q=(match x with | .non=>q (.bl false) G | _=>q (.bl true) G)) /\ (∀ x b G q,ur1 x (.bl b) G q=(match x with | .bl c=>q (.bl (!decide (c=b))) G | _=>q (.bl true) G)) /\
  (∀ i G q,xAbs [.int i] G q=q (.int (if i < 0 then -i else i)) G) /\ (∀ i j G q,uh5 [.int i,.int j] G q=(CDiv i j /\ q (.tup [.int (i / j),.int (i % j)]) G)) /\
  (∀ i j G q,vd9 [.int i,.int j] G q=q (.int (if j > i then j else i)) G) /\ (∀ i j G q,vd8 [.int i,.int j] G q=q (.int (if j < i then j else i)) G) /\
  (∀ i G q,uk2 [.int i] G q=q (.int i) G) /\ (∀ b G q,uk2 [.bl b] G q=q (.int (if b then 1 else 0)) G) /\
  (∀ xs G q,ur0 [.tup xs] G q=∀ p,G p=none->q (.ref p) (gup G p (.lst xs))) /\ (∀ a G q,ur0 [.ref a] G q=(match u10 (G a) with | some xs=>∀ p,G p=none->q (.ref p) (gup G p (.lst xs)) | none=>False)) /\
  (∀ xs G q,uk1 [.tup xs] G q=q (.tup xs) G) /\ (∀ a G q,uk1 [.ref a] G q=(match u10 (G a) with | some xs=>q (.tup xs) G | none=>False)) /\
  (∀ a G q,xAll [.ref a] G q=(match u10 (G a) with | some xs=>(match vo4 xs with | some bs=>q (.bl (bs.all id)) G | none=>False) | none=>False)) /\
  (∀ x T G q,ve0 [x,.ty T] G q=((T = "int" \/ T = "str" \/ T = "bool" \/ T = "list" \/ T = "tuple" \/ T = "dict") /\ (match vk8 G x with | some n=>q (.bl (subK n T)) G | none=>False))) /\
  (∀ a d G q,ud5 (.ref a) [d] G q=(match G a with | some (.lst xs)=>xs.length < sizeLine /\ q .non (gup G a (.lst (xs++[d]))) | _=>False)) /\
  (∀ a b G q,vj2 (.ref a) [.ref b] G q=(match G a,G b with | some (.lst xs),some (.lst ys)=>xs.length+ys.length<=sizeLine /\ q .non (gup G a (.lst (xs++ys))) | _,_=>False)) /\
  (∀ a G q,vj3 (.ref a) [] G q=(match G a with | some (.lst _)=>q .non (gup G a (.lst [])) | _=>False)):=by
 refine ⟨?_,?_,?_,?_,?_,?_,?_,?_,?_,?_,?_,?_,?_,?_,?_,?_,?_,?_,?_,?_,?_,?_,?_,?_,?_,?_,?_,?_⟩ <;> intros <;> rfl
section
variable {X:Cx} {e:Expr} {te:TE3} {pos p2 p3 p4:Pos} {K:PySem.W.Frag} {σ:L2.St} {H:Hp} {Q:VK}
def w63 (te:TE3):TE3:=fun σ G q=>te σ G fun x G1=>match x with
 | .ref a=>(match u10 (G1 a) with | some ds=>∀ p,G1 p=none->q (.ref p) (gup G1 p (.lst ds.reverse)) | none=>False)
 | _=>False
end
end L3
namespace L2
open PySem PySem.Spec PyProof.Rows
def Itv (K:PySem.W.Frag) (a:Addr) (n:Nat):It :=
 ⟨fun i H=>i < n /\ ∃ xs,SqL K H a xs /\ xs.length=n,fun i H x H'=>H'=H /\ ∀ xs,SqL K H a xs->xs[n - 1 - i]?=some x,fun i _=>n<=i⟩
theorem v22 {P:Program} {w:World} {K:PySem.W.Frag} {tg:Expr} (a it:Addr) (n:Nat):Turn P w K tg (Itv K a n) [it] it (fun i h=>i<=n /\ h.IsRevIter it a ((n:Int) - 1 - (i:Nat))) where
 mem:=by simp
 obj:=fun i h st b hb=>by
  have e:b=it:=by simpa using hb
  subst e;obtain ⟨o,e,c,d⟩:=st.2;exact ⟨o,e,fun v z=>by rw [d] at z;cases z⟩
 keep:=fun i h h' st k=>⟨st.1,st.2.at fun o e=>k it (by simp) o e⟩
 item:=by
  intro X hP hw hK hc i pins s σ H E I hf st hg;subst hP hw hK;obtain ⟨hi,xs,hq,hn⟩:=hg;obtain ⟨its,rv,p,hz⟩:=I.list hq;have hl:=rv.length;obtain ⟨f0,f1,f2,f3,f4,f5⟩:=hf it (by simp);have hx:xs[n - 1 - i]?=some (xs[n - 1 - i]'(by omega)):=List.getElem?_eq_getElem _;obtain ⟨u,hu,ru⟩:=rv.get hx;have e1:(n:Int) - 1 - (i:Nat)=((n - 1 - i:Nat):Int):=by omega
  have st2:=st.2;rw [e1] at st2;refine wpAny_pyNext_rev_item st2 p.isList (x:=u) (by simpa using hu) fun h' st' sb=>?_
  have I1:Inv X pins σ H { s with heap:=h' }:=I.turned (t':=s.toks) (fun b o hb e=>(sb.2 b hb).trans e) f0 f1 f3 f4 f5
  obtain ⟨o,e,c,d⟩:=id st';refine ⟨u,rfl,uy2 (s:={ s with heap:=h' }) e c d (by decide) ⟨_,H,I1,ru,⟨rfl,fun ys hy=>by rw [I.list_inj hy hq];exact hx⟩,⟨by omega,?_⟩,fun b hb=>(hf b hb).1⟩⟩;have e2:(n:Int) - 1 - ((i+1:Nat):Int)=((n - 1 - i:Nat):Int) - 1:=by omega
  rw [e2];exact st'
 done:=by
  intro X hP hw hK hc i pins s σ H E I hf st hg;subst hP hw hK;have hg:n<=i:=hg;obtain ⟨f0,f1,f2,f3,f4,f5⟩:=hf it (by simp);have e1:(n:Int) - 1 - (i:Nat)=-1:=by have:=st.1;omega
  have st2:=st.2;rw [e1] at st2;exact wpAny_pyNext_rev_end (I.ok.hd hc) st2 fun h' eb=>⟨rfl,I.turned (t':=s.toks) (fun b o hb q=>eb b o hb q) f0 f1 f3 f4 f5⟩
 self:=fun _ _ _ _ _ st h=>wpAny_pyIter_revIter st.2 h
def iRev (K:PySem.W.Frag) (ta:TA):TI:=fun σ H R=>ta σ H fun vs H1=>∃ a xs,vs=[.ref a] /\ SqL K H1 a xs /\ R (Itv K a xs.length) H1
theorem vt0 {X:Cx} {tg:Expr} {a:Expr} {ta:TA} {p pos:Pos} (hg:Gl X "reversed") (hm:X.mg "reversed" = none) (ha:PA X [a] ta) (hs:starEach [a] X.env=[(false,eval a X.env)]:=by rfl) :
  PI X tg (.Call (.Name "reversed" p) [a] [] pos) (iRev X.K ta):=by
 intro pins s σ H R I h;refine Call_ (u86 I hg hm boot_reversed (PyProof.Rows.callWith_type1 (thn (ha pos pins s σ H _ I h) fun us s1 ⟨vs,H1,I1,r1,q1⟩=>?_) hs rfl));obtain ⟨l,xs,e,hq,q⟩:=q1;subst e;cases r1 with
 | cons r rr =>
  cases rr;cases r;obtain ⟨its,rv,pl,hz⟩:=I1.list hq;have hl:=rv.length;refine call_reversed_list pl.isList ?_;have st:(s1.heap.push (revObj l ((its.toArray.size:Int) - 1))).IsRevIter s1.heap.objs.size l ((its.toArray.size:Int) - 1):=⟨_,Heap.get?_push_size _ rfl,rfl,rfl⟩;have I2:Inv X pins σ H1 { s1 with heap:=s1.heap.push (revObj l ((its.toArray.size:Int) - 1)) }:=I1.kept (t':=s1.toks) fun b o e=>Heap.get?_push_of_some _ e
  refine wpAny_pyIter_revIter st ?_;refine ⟨s1.heap.objs.size,[s1.heap.objs.size],_,_,H1,rfl,I2,v22 l _ xs.length,⟨Nat.zero_le _,?_⟩,fun b hb=>?_,q⟩
  ·have e1:(xs.length:Int) - 1 - ((0:Nat):Int)=(its.toArray.size:Int) - 1:=by simp;omega
   rw [e1];exact st
  ·have e:b=s1.heap.objs.size:=by simpa using hb
   subst e;exact I1.fpOk (Nat.le_refl _) (I1.hok.fresh (Nat.le_refl _))
end L2
namespace L3
open PySem PySem.Spec PyProof.Rows L2
theorem ux7 {K:PySem.W.Frag} {H0:Hp} {a:Addr} {ds:List D} {n:Nat} (hn:ds.length=n):ItRel K H0 ⟨ds.reverse,fun G=>u10 (G a)=some ds⟩ (Itv K a n) where
 go:=fun i G H l c ok hi=>by
  obtain ⟨xs,s,r⟩:=u23 c ok;rw [List.length_reverse] at hi;exact ⟨by omega,xs,s,by rw [<- r.length];exact hn⟩
 stop:=fun i G H l c ok hi=>by
  rw [List.length_reverse] at hi
  show n<=i
  omega
 yld:=fun i G H x H' l c ok hi y=>by
  obtain ⟨rfl,y⟩:=y;obtain ⟨xs,s,r⟩:=u23 c ok;rw [List.length_reverse] at hi;obtain ⟨d,hd,rd⟩:=r.at_ (y xs s)
  refine ⟨c,Le.refl _,d,?_,rd⟩;rw [List.getElem?_reverse hi,hn];exact hd
def wRev (t:TA3):TI3:=fun σ G r=>t σ G fun ds G1=>match ds with
 | [.ref a]=>(match u10 (G1 a) with | some ds=>r ⟨ds.reverse,fun G=>u10 (G a)=some ds⟩ G1 | none=>False)
 | _=>False
theorem v48 {K:PySem.W.Frag} {t:TA3} {σ:L2.St} {H:Hp} {R:It->Hp->Prop} (h:lowI K (wRev t) σ H R):iRev K (lowA K t) σ H R:=by
 obtain ⟨σd,G,q,rs,c,t,f⟩:=h;refine ⟨σd,G,_,rs,c,t,fun ds G1 vs H1 r1 c1 l1 t1=>?_⟩;split at t1
 ·rename_i a
  split at t1
  ·rename_i ds e
   obtain ⟨v,rfl,rv⟩:=r1.one;cases rv.ref_inv;obtain ⟨xs,s1,q1⟩:=u23 c1 e;exact ⟨a,xs,rfl,s1,f _ _ _ _ (ux7 q1.length) c1 l1 t1⟩
  ·exact t1.elim
 ·exact t1.elim
theorem up9 {X:Cx} {tg:Expr} {a:Expr} {ts:TA3} {p pos:Pos} (hg:Gl X "reversed") (hm:X.mg "reversed" = none) (ha:A3 X [a] ts) (hs:starEach [a] X.env=[(false,eval a X.env)]:=by rfl) :
  I3 X tg (.Call (.Name "reversed" p) [a] [] pos) (wRev ts):=ur5 (vt0 hg hm ha hs) fun _ _ _=>v48
end L3
namespace Law
open PySem L2 L3 Rw
theorem ul0 {m:Nat} (h:m<=100000):-(2 ^ 62)<=(m:Int) /\ (m:Int) < 2 ^ 62:=⟨by omega,by omega⟩
structure StAt (G:Gp) (st:Addr):Prop where
 ex:∃ (a:Addr) (ns:List Int) (k r:Int),G st=some (.lst [.ref a,.int k,.int r]) /\ G a=some (.fro (ns.map .int)) /\ 0<=k /\ 0<=r /\ a ≠ st /\ ns.length<=63
structure Adv (st:Addr) (G G':Gp):Prop where
 at_:StAt G' st
 kp:∀ b o,b ≠ st->G b=some o->G' b=some o
structure Upd1 (a:Addr) (bs:List Int) (G G':Gp):Prop where
 at_:G' a=some (.lst (bs.map .int))
 kp:∀ b,b ≠ a->G' b=G b
def flds (ra ha:Addr) (s:Nat):List (Str × D):=[("rows",.ref ra),("held",.ref ha),("spot",.int (s:Int))]
structure RideAt (C:Addr) (G:Gp) (p ra ha:Addr) (rs:List Row) (bs:List Int) (s:Nat):Prop where
 ob:G p=some (.ins C (flds ra ha s))
 ro:G ra=some (.lst (rs.map Row.d))
 he:G ha=some (.lst (bs.map .int))
 ne:ra ≠ ha
structure Cde (sz:Nat) (rs:List Row) (bs:List Int) (s:Nat):Prop where
 bo:BsOk sz bs
 ro:∀ r ∈ rs,r.ok sz
 le:s<=rs.length
def mayF (rs:List Row) (bs:List Int) (s:Nat):Bool:=match rs[s]? with
 | none=>false
 | some (.come x n _)=>!decide (gt bs x=n)
 | some _=>true
def mayB (rs:List Row) (bs:List Int) (s:Nat):Bool:=if s=0 then false else match rs[s - 1]? with
 | none=>false
 | some (.go x n _)=>!decide (gt bs x=n)
 | some _=>true
def nxF (rs:List Row) (bs:List Int) (s:Nat):Nat × List Int:=match rs[s]? with
 | some (.go x n k)=>if gt bs x=n then (k+1,bs) else (s+1,bs)
 | some r=>(s+1,stp 1 bs r)
 | none=>(s,bs)
def nxB (rs:List Row) (bs:List Int) (s:Nat):Nat × List Int:=match rs[s - 1]? with
 | some (.come x n k)=>if gt bs x=n then (k,bs) else (s - 1,bs)
 | some r=>(s - 1,stp (-1) bs r)
 | none=>(s,bs)
theorem RideAt.pr {C:Addr} {G:Gp} {p ra ha:Addr} {rs:List Row} {bs:List Int} {s:Nat} (h:RideAt C G p ra ha rs bs s):p ≠ ra:=by
 intro e;have:=h.ob;rw [e,h.ro] at this;cases this
theorem StAt.new {G:Gp} {st p:Addr} {o:DO} (h:StAt G st) (hp:G p=none):StAt (gup G p o) st:=by
 obtain ⟨a,ns,k,r,h1,h2,h3⟩:=h.ex;exact ⟨a,ns,k,r,by rw [u07 (gne h1 hp)];exact h1,by rw [u07 (gne h2 hp)];exact h2,h3⟩
theorem StAt.ne {G:Gp} {st p:Addr} (h:StAt G st) (hp:G p=none):p ≠ st:=by
 obtain ⟨a,ns,k,r,h1,h2,h3⟩:=h.ex;exact Ne.symm (gne h1 hp)
theorem StAt.set {G:Gp} {st p:Addr} {xs ys:List D} (h:StAt G st) (hp:G p=some (.lst xs)) (hne:p ≠ st):StAt (gup G p (.lst ys)) st:=by
 obtain ⟨a,ns,k,r,h1,h2,h3⟩:=h.ex;have:a ≠ p:=by intro e;rw [e,hp] at h2;cases h2
 exact ⟨a,ns,k,r,by rw [u07 (Ne.symm hne)];exact h1,by rw [u07 this];exact h2,h3⟩
theorem Adv.refl {G:Gp} {st:Addr} (h:StAt G st):Adv st G G:=⟨h,fun _ _ _ e=>e⟩
theorem Adv.trans {st:Addr} {G G1 G2:Gp} (a:Adv st G G1) (b:Adv st G1 G2):Adv st G G2:=⟨b.at_,fun c o hc e=>b.kp c o hc (a.kp c o hc e)⟩
theorem Adv.new {st p:Addr} {G G1:Gp} {o:DO} (a:Adv st G G1) (hp:G1 p=none):Adv st G (gup G1 p o):=⟨a.at_.new hp,fun c u hc e=>by rw [u07 (gne (a.kp c u hc e) hp)];exact a.kp c u hc e⟩
theorem Adv.own {st p:Addr} {G G1:Gp} {xs ys:List D} (a:Adv st G G1) (hp:G p=none) (h1:G1 p=some (.lst xs)) (hne:p ≠ st):Adv st G (gup G1 p (.lst ys)) :=
 ⟨a.at_.set h1 hne,fun c u hc e=>by rw [u07 (gne e hp)];exact a.kp c u hc e⟩
theorem Adv.none {st p:Addr} {G G1:Gp} (a:Adv st G G1) (hp:G1 p=none) (hne:p ≠ st):G p=none:=by
 cases e:G p with
 | none=>rfl
 | some o=>rw [a.kp p o hne e] at hp;cases hp
theorem RideAt.grow {C:Addr} {G G':Gp} {p ra ha:Addr} {rs:List Row} {bs:List Int} {s:Nat} (h:RideAt C G p ra ha rs bs s) (g:Grow G G'):RideAt C G' p ra ha rs bs s :=
 ⟨g.kp _ _ h.ob,g.kp _ _ h.ro,g.kp _ _ h.he,h.ne⟩
structure Kept (p ha:Addr) (G G':Gp):Prop where
 kp:∀ b o,b ≠ p->b ≠ ha->G b=some o->G' b=some o
theorem Kept.refl {p ha:Addr} {G:Gp}:Kept p ha G G:=⟨fun _ _ _ _ h=>h⟩
theorem Kept.trans {p ha:Addr} {G G1 G2:Gp} (a:Kept p ha G G1) (b:Kept p ha G1 G2):Kept p ha G G2:=⟨fun c o h1 h2 h=>b.kp c o h1 h2 (a.kp c o h1 h2 h)⟩
theorem Kept.grow {p ha:Addr} {G G1 G2:Gp} (a:Kept p ha G G1) (b:Grow G1 G2):Kept p ha G G2:=⟨fun c o h1 h2 h=>b.kp c o (a.kp c o h1 h2 h)⟩
theorem Kept.none {p ha q:Addr} {G G1:Gp} (a:Kept p ha G G1) (h1:q ≠ p) (h2:q ≠ ha) (h:G1 q=none):G q=none:=by
 cases e:G q with
 | none=>rfl
 | some o=>rw [a.kp q o h1 h2 e] at h;cases h
structure AllIn (C:Addr) (G:Gp) (p ra ha rr a:Addr) (rs:List Row) (bs:List Int) (s sz:Nat):Prop where
 A:RideAt C G p ra ha rs bs s
 c:Cde sz rs bs s
 pl:∀ r ∈ rs,r.plain=true
 le:sz<=1000
 r:G rr=some (.lst (rs.map Row.d))
 b:G a=some (.lst (bs.map .int))
 rh:rr ≠ ha
 ah:a ≠ ha
structure AllOut (C:Addr) (G G':Gp) (p ra ha a q:Addr) (rs:List Row) (bs:List Int) (s:Nat):Prop where
 A:RideAt C G' p ra ha rs bs s
 b:G' q=some (.lst (bs.map .int))
 k:Kept p ha G G'
 q:q=a \/ G q=none
end Law
namespace Rw
open PySem L2 L3
theorem um1 {α β:Type} {f:α->Option β}:∀ {xs:List α},(∀ x ∈ xs,∃ y,f x=some y)->∃ ys,xs.mapM f=some ys
 | [],_=>⟨[],rfl⟩
 | x::xs,h=>by
  obtain ⟨y,hy⟩:=h x List.mem_cons_self;obtain ⟨ys,hys⟩:=um1 (xs:=xs) fun z hz=>h z (List.mem_cons_of_mem _ hz)
  exact ⟨y::ys,by rw [List.mapM_cons,hy,hys];rfl⟩
theorem snap_tup {G:Gp} {n:Nat} {ds:List D} (h:∀ d ∈ ds,∃ s,snap G n d=some s):∃ s,snap G (n+1) (.tup ds)=some s:=by
 obtain ⟨ys,e⟩:=um1 h;exact ⟨.tup ys,by show (ds.mapM (snap G n)).map Sn.tup=_;rw [e];rfl⟩
theorem snap_ref {G:Gp} {n:Nat} {a b:Addr} (h:u10 (G a)=u10 (G b)):snap G n (.ref a)=snap G n (.ref b):=by
 cases n with
 | zero=>rfl
 | succ n=>show ((u10 (G a)).bind _)=((u10 (G b)).bind _);rw [h]
end Rw
namespace Law
open PySem L2 L3 Rw
structure Pairs (rs:List Row):Prop where
 go:∀ (j x:Nat) (n:Int) (k:Nat),rs[j]?=some (Row.go x n k)->rs[k]?=some (.come x n j)
 co:∀ (j x:Nat) (n:Int) (k:Nat),rs[j]?=some (Row.come x n k)->rs[k]?=some (.go x n j)
theorem w55 {α:Type} {xs:List α} {i:Nat} {x:α} (h:xs[i]?=some x):i < xs.length:=(List.getElem?_eq_some_iff.mp h).1
def od:Option Row->D
 | none=>.non
 | some r=>r.d
structure PairsO (os:List (Option Row)):Prop where
 go:∀ (j x:Nat) (n:Int) (k:Nat),os[j]?=some (some (Row.go x n k))->os[k]?=some (some (.come x n j))
 co:∀ (j x:Nat) (n:Int) (k:Nat),os[j]?=some (some (Row.come x n k))->os[k]?=some (some (.go x n j))
theorem PairsO.plain {os:List (Option Row)} {i:Nat} {r:Row} (h:PairsO os) (hi:os[i]?=some none) (hr:r.plain=true):PairsO (os.set i (some r)):=by
 have hl:=w55 hi;refine ⟨fun j x n k e=>?_,fun j x n k e=>?_⟩
 ·rw [List.getElem?_set] at e ⊢
  by_cases hj:i=j
  ·subst hj;rw [if_pos rfl,if_pos hl] at e;cases e;cases hr
  ·rw [if_neg hj] at e
   have q:=h.go j x n k e
   by_cases hk:i=k
   ·subst hk;rw [hi] at q;cases q
   ·rw [if_neg hk];exact q
 ·rw [List.getElem?_set] at e ⊢
  by_cases hj:i=j
  ·subst hj;rw [if_pos rfl,if_pos hl] at e;cases e;cases hr
  ·rw [if_neg hj] at e
   have q:=h.co j x n k e
   by_cases hk:i=k
   ·subst hk;rw [hi] at q;cases q
   ·rw [if_neg hk];exact q
theorem PairsO.empty {m:Nat}:PairsO (List.replicate m none):=by
 refine ⟨fun j x n k e=>?_,fun j x n k e=>?_⟩ <;> (rw [List.getElem?_replicate] at e;split at e <;> cases e)
theorem PairsO.pairs {rs:List Row} (h:PairsO (rs.map some)):Pairs rs:=by
 have e:∀ {j:Nat} {r:Row},rs[j]?=some r ↔ (rs.map some)[j]?=some (some r):=fun {j r}=>by
  rw [List.getElem?_map];cases rs[j]? <;> simp
 exact ⟨fun j x n k q=>e.mpr (h.go j x n k (e.mp q)),fun j x n k q=>e.mpr (h.co j x n k (e.mp q))⟩
end Law
namespace Law
open PySem L2 L3 Rw
structure Ent where
 s:Nat
 q:Addr
 bs:List Int
def Ent.d (e:Ent):D:=.tup [.int (e.s:Int),.ref e.q]
theorem StAt.grow {G G':Gp} {st:Addr} (h:StAt G st) (g:Grow G G'):StAt G' st:=by
 obtain ⟨a,ns,k,r,h1,h2,h3⟩:=h.ex;exact ⟨a,ns,k,r,g.kp _ _ h1,g.kp _ _ h2,h3⟩
end Law
namespace Rw
open PySem L2 L3
def Row.x:Row->Nat
 | .add x _=>x
 | .take x _=>x
 | .turn x _ _=>x
 | .swap x _=>x
 | .go x _ _=>x
 | .come x _ _=>x
end Rw
namespace Law
open PySem L2 L3 Rw
def mayX (fw:Bool) (rs:List Row) (bs:List Int) (s:Nat):Bool:=if fw=true then mayF rs bs s else mayB rs bs s
def nxX (fw:Bool) (rs:List Row) (bs:List Int) (s:Nat):Nat × List Int:=if fw=true then nxF rs bs s else nxB rs bs s
structure Ent2 where
 fw:Bool
 s:Nat
 q:Addr
 bs:List Int
def Ent2.d (e:Ent2):D:=.tup [.bl e.fw,.int (e.s:Int),.ref e.q]
end Law
namespace L2
open PySem PySem.Spec PyProof.Rows
section
variable {X:Cx}
theorem w10 (hc:X.calm=true):CallR X (.builtin "max") (fun xs H Q=>∃ (p:Addr) (ns:List Int),xs=[.ref p] /\ SqL X.K H p (ns.map V.int) /\ 0 < ns.length /\ ∀ M:Int,M ∈ ns->(∀ a ∈ ns,a<=M)->Q (.int M) H):=by
 intro pins s σ H xs us Q I r h;obtain ⟨p,ns,rfl,hq,hne,q⟩:=h;obtain ⟨u,rfl,rx⟩:=vals1 r;cases rx;obtain ⟨its,r',pl,hz⟩:=I.list hq;have hi:IntsAre its ns:=intsAre_of r';obtain ⟨ys,hx⟩:=hi.allInts.items;have hl':s.heap.IsList p (intItems ys):=hx ▸ pl.isList;have e1:ns=ys.toList.map (·.1):=by
  rw [<- nums_intItems,<- hx];exact (show numsOf its.toArray.toList=ns from hi.numsOf).symm
 have hsz:0 < ys.size:=by
  have h3:=hne;rw [e1,List.length_map,Array.length_toList] at h3;exact h3
 refine max_intList (I.ok.hd hc) hl' hsz fun v h' tk hv hk=>?_
 obtain ⟨t,rfl⟩:=intItems_at hv;obtain ⟨h1,h2⟩:=argBest_gt (numAt ys) (ys.size - 1);refine ⟨.int _,H,I.kept hk,⟨_,rfl⟩,q _ ?_ fun a ha=>?_⟩
 ·rw [e1,numAt_eq];exact getD_mem (by rw [List.length_map,Array.length_toList];omega)
 ·rw [e1] at ha
  obtain ⟨j,hj,rfl⟩:=mem_getD ha;rw [List.length_map,Array.length_toList] at hj;rw [<- numAt_eq];exact h2 j (by omega)
theorem v05 (hc:X.calm=true):CallR X (.builtin "min") (fun xs H Q=>∃ (p:Addr) (ns:List Int),xs=[.ref p] /\ SqL X.K H p (ns.map V.int) /\ 0 < ns.length /\ ∀ M:Int,M ∈ ns->(∀ a ∈ ns,M<=a)->Q (.int M) H):=by
 intro pins s σ H xs us Q I r h;obtain ⟨p,ns,rfl,hq,hne,q⟩:=h;obtain ⟨u,rfl,rx⟩:=vals1 r;cases rx;obtain ⟨its,r',pl,hz⟩:=I.list hq;have hi:IntsAre its ns:=intsAre_of r';obtain ⟨ys,hx⟩:=hi.allInts.items;have hl':s.heap.IsList p (intItems ys):=hx ▸ pl.isList;have e1:ns=ys.toList.map (·.1):=by
  rw [<- nums_intItems,<- hx];exact (show numsOf its.toArray.toList=ns from hi.numsOf).symm
 have hsz:0 < ys.size:=by
  have h3:=hne;rw [e1,List.length_map,Array.length_toList] at h3;exact h3
 refine min_intList (I.ok.hd hc) hl' hsz fun v h' tk hv hk=>?_
 obtain ⟨t,rfl⟩:=intItems_at hv;obtain ⟨h1,h2⟩:=argBest_lt (numAt ys) (ys.size - 1);refine ⟨.int _,H,I.kept hk,⟨_,rfl⟩,q _ ?_ fun a ha=>?_⟩
 ·rw [e1,numAt_eq];exact getD_mem (by rw [List.length_map,Array.length_toList];omega)
 ·rw [e1] at ha
  obtain ⟨j,hj,rfl⟩:=mem_getD ha;rw [List.length_map,Array.length_toList] at hj;rw [<- numAt_eq];exact h2 j (by omega)
end
end L2
namespace L3
open PySem PySem.Spec PyProof.Rows L2
section
variable {X:Cx}
def w75:C3:=fun ds G q=>match ds with
 | [.ref a]=>(match u10 (G a) with | some xs=>(match u89 xs with | some bs=>0 < bs.length /\ ∀ M:Int,M ∈ bs->(∀ z ∈ bs,z<=M)->q (.int M) G | none=>False) | none=>False)
 | _=>False
def v20:C3:=fun ds G q=>match ds with
 | [.ref a]=>(match u10 (G a) with | some xs=>(match u89 xs with | some bs=>0 < bs.length /\ ∀ M:Int,M ∈ bs->(∀ z ∈ bs,M<=z)->q (.int M) G | none=>False) | none=>False)
 | _=>False
theorem v91 (hc:X.calm=true:=by rfl):Call3 X (.builtin "min") v20:=u39 (v05 hc) fun xs H Q ⟨ds,G,q,r,c,t,f⟩=>by
 unfold v20 at t;split at t
 ·obtain ⟨v,rfl,r1⟩:=r.one
  cases r1.ref_inv;split at t
  ·rename_i ds e
   obtain ⟨ys,s1,q1⟩:=u23 c e;split at t
   ·rename_i bs eb
    have:=u85 eb q1;subst this;exact ⟨_,bs,rfl,s1,t.1,fun M h1 h2=>f _ _ _ _ RelD.intI c (Le.refl H) (t.2 M h1 h2)⟩
   ·exact t.elim
  ·exact t.elim
 ·exact t.elim
theorem u63:∀ ks:List Int,u89 (ks.map D.int)=some ks
 | []=>rfl
 | k::ks=>by show (u89 (ks.map D.int)).map (k::·)=_;rw [u63 ks];rfl
end
end L3
namespace Law
open PySem L2 L3 Rw
def rn (fw:Bool) (rs:List Row):Nat->Nat->List Int->Nat × Nat × List Int
 | 0,s,bs=>(0,s,bs)
 | n+1,s,bs=>if mayX fw rs bs s=true then ((rn fw rs n (nxX fw rs bs s).1 (nxX fw rs bs s).2).1+1,(rn fw rs n (nxX fw rs bs s).1 (nxX fw rs bs s).2).2) else (0,s,bs)
theorem w40 {fw:Bool} {rs:List Row} {n s:Nat} {bs:List Int} (h:mayX fw rs bs s=true):rn fw rs (n+1) s bs=((rn fw rs n (nxX fw rs bs s).1 (nxX fw rs bs s).2).1+1,(rn fw rs n (nxX fw rs bs s).1 (nxX fw rs bs s).2).2):=by
 show (if mayX fw rs bs s=true then _ else _)=_
 rw [if_pos h]
theorem vg9 {fw:Bool} {rs:List Row} {n s:Nat} {bs:List Int} (h:mayX fw rs bs s=false):rn fw rs n s bs=(0,s,bs):=by
 cases n with
 | zero=>rfl
 | succ n=>show (if mayX fw rs bs s=true then _ else _)=_;rw [if_neg (by rw [h];exact Bool.false_ne_true)]
structure RnI (fw:Bool) (rs:List Row) (most s0:Nat) (bs0:List Int) (k s:Nat) (bs:List Int):Prop where
 le:k<=most
 eq:rn fw rs most s0 bs0=(k+(rn fw rs (most - k) s bs).1,(rn fw rs (most - k) s bs).2)
theorem RnI.init {fw:Bool} {rs:List Row} {most s0:Nat} {bs0:List Int}:RnI fw rs most s0 bs0 0 s0 bs0:=⟨Nat.zero_le _,by rw [Nat.sub_zero,Nat.zero_add]⟩
theorem RnI.step {fw:Bool} {rs:List Row} {most s0 k s:Nat} {bs0 bs:List Int} (h:RnI fw rs most s0 bs0 k s bs) (hk:k < most) (hm:mayX fw rs bs s=true):RnI fw rs most s0 bs0 (k+1) (nxX fw rs bs s).1 (nxX fw rs bs s).2:=by
 refine ⟨hk,?_⟩;rw [h.eq,show most - k=(most - (k+1))+1 by omega,w40 hm]
 show (k+((rn fw rs (most - (k+1)) _ _).1+1),_)=_
 rw [show ∀ a:Nat,k+(a+1)=k+1+a from fun a=>by omega]
theorem RnI.stop {fw:Bool} {rs:List Row} {most s0 k s:Nat} {bs0 bs:List Int} (h:RnI fw rs most s0 bs0 k s bs) (hk:¬ k < most \/ mayX fw rs bs s=false):rn fw rs most s0 bs0=(k,s,bs):=by
 have e:rn fw rs (most - k) s bs=(0,s,bs):=by
  rcases hk with hk | hk
  ·have:=h.le
   rw [show most - k=0 by omega];rfl
  ·exact vg9 hk
 rw [h.eq,e];rfl
end Law
namespace L3
open PySem PySem.Spec PyProof.Rows L2 Rw
theorem ub2 (a b:Nat):Builtin.bitAnd (a:Int) (b:Int)=((a &&& b:Nat):Int):=by
 unfold Builtin.bitAnd;simp
theorem vu3 (a b:Nat):Builtin.bitOr (a:Int) (b:Int)=((a ||| b:Nat):Int):=by
 have h1:∀ x:Nat,¬ (0<=Builtin.bitNot (x:Int)):=fun x=>by unfold Builtin.bitNot;omega
 have h2:∀ x:Int,Builtin.bitNot (Builtin.bitNot x)=x:=fun x=>by unfold Builtin.bitNot;omega
 unfold Builtin.bitOr Builtin.bitAnd;simp only [h1,decide_false,h2,Int.toNat_natCast]
theorem vo2 (m i:Nat):(Builtin.bitAnd (m:Int) (1 * 2 ^ i)=0) ↔ m.testBit i=false:=by
 have e:(1 * 2 ^ i:Int)=((2 ^ i:Nat):Int):=by simp
 rw [e,ub2];have q:(m &&& 2 ^ i=0) ↔ m.testBit i=false:=by
  constructor
  ·intro h
   have:=congrArg (fun x=>Nat.testBit x i) h;simpa [Nat.testBit_and,Nat.testBit_two_pow_self] using this
  ·intro h
   refine Nat.eq_of_testBit_eq fun j=>?_
   rw [Nat.testBit_and,Nat.zero_testBit,Nat.testBit_two_pow]
   by_cases hj:i=j
   ·subst hj;rw [h];rfl
   ·simp [hj]
 rw [<- q];omega
theorem us1 (m i:Nat):(Builtin.bitAnd ((m:Int) / 2 ^ i) 1=1) ↔ m.testBit i=true:=by
 have e:((m:Int) / 2 ^ i)=((m / 2 ^ i:Nat):Int):=by simp
 have e1:(1:Int)=((1:Nat):Int):=rfl;rw [e,e1,ub2,Nat.and_one_is_mod,Nat.testBit_eq_decide_div_mod_eq];simp;omega
def pD (p:Str × Int):D:=.tup [.str p.1,.int p.2]
def Src (G:Gp) (s a:Addr):Prop:=∃ (ns:List Int) (x y:Int),G s=some (.lst [.ref a,.int x,.int y]) /\ G a=some (.lst (ns.map .int)) /\ 0<=x /\ s ≠ a
structure Ady (s a:Addr) (G G':Gp):Prop where
 at_:Src G' s a
 kp:∀ c o,c ≠ s->c ≠ a->G c=some o->G' c=some o
theorem Src.ne {G:Gp} {s a p:Addr} (h:Src G s a) (hp:G p=none):p ≠ s /\ p ≠ a:=by
 obtain ⟨ns,x,y,h1,h2,_⟩:=h;exact ⟨fun e=>(by rw [e,h1] at hp;cases hp),fun e=>(by rw [e,h2] at hp;cases hp)⟩
theorem Src.put {G:Gp} {s a p:Addr} {o:DO} (h:Src G s a) (hs:p ≠ s) (ha:p ≠ a):Src (gup G p o) s a:=by
 obtain ⟨ns,x,y,h1,h2,h3,h4⟩:=h;exact ⟨ns,x,y,by rw [u07 (Ne.symm hs)];exact h1,by rw [u07 (Ne.symm ha)];exact h2,h3,h4⟩
theorem Src.grow {G G':Gp} {s a:Addr} (h:Src G s a) (g:Grow G G'):Src G' s a:=by
 obtain ⟨ns,x,y,h1,h2,h3⟩:=h;exact ⟨ns,x,y,g.kp _ _ h1,g.kp _ _ h2,h3⟩
theorem Ady.trans {s a:Addr} {G G1 G2:Gp} (h:Ady s a G G1) (k:Ady s a G1 G2):Ady s a G G2:=⟨k.at_,fun c o h1 h2 e=>k.kp c o h1 h2 (h.kp c o h1 h2 e)⟩
theorem Ady.refl {s a:Addr} {G:Gp} (h:Src G s a):Ady s a G G:=⟨h,fun _ _ _ _ e=>e⟩
theorem Ady.new {s a p:Addr} {G G1:Gp} {o:DO} (h:Ady s a G G1) (hp:G1 p=none):Ady s a G (gup G1 p o) :=
 ⟨h.at_.put (h.at_.ne hp).1 (h.at_.ne hp).2,fun c u h1 h2 e=>by rw [u07 (gne (h.kp c u h1 h2 e) hp)];exact h.kp c u h1 h2 e⟩
end L3
namespace L2
open PySem PySem.Spec PyProof.Rows
abbrev vd3 (h:Heap) (z TI TO T:Addr) (f:Bool):Prop:=h.get? z=some { cls:=.type "zip",data:=.fields #[rawInt (T:Int),.bool f,.bool false,.ref TI,.ref TO] }
theorem far {z t:Addr} {n:Nat} (a:z < n) (b:n<=t):t ≠ z:=Nat.ne_of_gt (Nat.lt_of_lt_of_le a b)
structure LzSt (l1 l2 z TI TO i1 i2 S:Addr) (xs ys:Array Value) (i:Nat) (h:Heap):Prop where
 zz:IsZip h z TI TO .none \/ ∃ T f oT,vd3 h z TI TO T f /\ h.get? T=some oT /\ T ≠ z /\ T ≠ TO /\ T ≠ i1 /\ T ≠ i2 /\ T ≠ S
 ti:IsPair h TI (.ref i1) (.ref i2)
 to:∃ u v,IsPair h TO u v
 h1:h.IsListIter i1 l1 i
 h2:h.IsListIter i2 l2 i
 m1:h.IsList l1 xs
 m2:h.IsList l2 ys
structure LzTs (n0:Nat) (xs ys:Array Value) (h:Heap) (ts:List Addr):Prop where
 nd:ts.Nodup
 at_:∀ (j:Nat) (t:Addr),ts[j]?=some t->n0<=t /\ ∃ x y,xs[j]?=some x /\ ys[j]?=some y /\ IsPair h t x y
end L2
namespace L3
open PySem PySem.Spec PyProof.Rows L2 Rw
abbrev Mv:=Bool × Nat
def mP (p:Mv):Str × Int:=(if p.1 then "lay" else "clear",(p.2:Int))
def mD (p:Mv):D:=pD (mP p)
def nD (x:Nat):D:=.int (x:Int)
def stb (k m:Nat):Bool:=m.testBit (k - 1)
def xr (m k:Nat):Nat:=m ^^^ 2 ^ (k - 1)
def hi (m:Nat):Nat:=if m=0 then 0 else m.log2+1
theorem w49 {m i:Nat} (h:m.testBit i=false):m ||| 2 ^ i=m ^^^ 2 ^ i:=Nat.eq_of_testBit_eq fun j=>by
 rw [Nat.testBit_or,Nat.testBit_xor,Nat.testBit_two_pow]
 by_cases e:i=j
 ·subst e;rw [h];simp
 ·simp [e]
theorem vu2 {m i:Nat} (h:m.testBit i=true):m ||| 2 ^ i=m:=Nat.eq_of_testBit_eq fun j=>by
 rw [Nat.testBit_or,Nat.testBit_two_pow]
 by_cases e:i=j
 ·subst e;rw [h];rfl
 ·simp [e]
theorem vo1 {m i:Nat} (h:m.testBit i=true):m &&& 2 ^ i=2 ^ i:=Nat.eq_of_testBit_eq fun j=>by
 rw [Nat.testBit_and,Nat.testBit_two_pow]
 by_cases e:i=j
 ·subst e;rw [h];rfl
 ·simp [e]
theorem w15 {m i:Nat} (h:m.testBit i=false):m &&& 2 ^ i=0:=Nat.eq_of_testBit_eq fun j=>by
 rw [Nat.testBit_and,Nat.testBit_two_pow,Nat.zero_testBit]
 by_cases e:i=j
 ·subst e;rw [h];rfl
 ·simp [e]
theorem v89:∀ {i m:Nat},m.testBit i=true->(m ^^^ 2 ^ i)+2 ^ i=m
 | 0,m,h=>by
  have h1:m % 2=1:=by rw [Nat.testBit_zero] at h;simpa using h
  have h2:(m ^^^ 1) / 2=m / 2:=by rw [Nat.xor_div_two];simp
  have h3:(m ^^^ 1) % 2=0:=by
   have:(m ^^^ 1).testBit 0=false:=by rw [Nat.testBit_xor,h];rfl
   rw [Nat.testBit_zero] at this;have:=of_decide_eq_false this;omega
  show (m ^^^ 1)+1=m
  omega
 | i+1,m,h=>by
  have h0:(m / 2).testBit i=true:=by rw [<- Nat.testBit_succ];exact h
  have ih:=v89 h0;have e1:2 ^ (i+1) / 2=2 ^ i:=by rw [Nat.pow_succ];omega
  have h2:(m ^^^ 2 ^ (i+1)) / 2=m / 2 ^^^ 2 ^ i:=by rw [Nat.xor_div_two,e1]
  have h3:(m ^^^ 2 ^ (i+1)) % 2=m % 2:=by
   have a:(m ^^^ 2 ^ (i+1)).testBit 0=m.testBit 0:=by
    rw [Nat.testBit_xor,Nat.testBit_two_pow];simp
   rw [Nat.testBit_zero,Nat.testBit_zero] at a;have b:=decide_eq_decide.mp a;omega
  rw [Nat.pow_succ] at h2 h3 ⊢;omega
theorem xor_int (m i:Nat):Builtin.bitXor (m:Int) (1 * 2 ^ i)=((m ^^^ 2 ^ i:Nat):Int):=by
 have e:(1 * 2 ^ i:Int)=((2 ^ i:Nat):Int):=by simp
 unfold Builtin.bitXor;rw [e,vu3,ub2];cases h:m.testBit i with
 | true =>
  rw [vu2 h,vo1 h];have:=v89 h;omega
 | false =>
  rw [w49 h,w15 h];simp
theorem v47 (m:Nat):m < 2 ^ hi m:=by
 unfold hi
 by_cases h:m=0
 ·subst h;simp
 ·rw [if_neg h];exact Nat.lt_log2_self
def okw:Nat->List Mv->Prop
 | _,[]=>True
 | m,p::r=>(1<=p.2 /\ p.2<=900) /\ p.1=!stb p.2 m /\ okw (xr m p.2) r
def fin:Nat->List Mv->Nat
 | m,[]=>m
 | m,p::r=>fin (xr m p.2) r
def low:Nat->List Mv->Nat
 | m,[]=>hi m
 | m,p::r=>min (low (xr m p.2) r) (hi m)
def thw:Nat->List Mv->List Mv
 | _,[]=>[]
 | m,p::r=>if p.2<=low (xr m p.2) r then p::thw (xr m p.2) r else thw (xr m p.2) r
def once (w:List Mv):List Mv:=thw 0 w
def sbh:Nat->List Mv->List Nat
 | _,[]=>[]
 | m,p::r=>xr m p.2::sbh (xr m p.2) r
theorem u29:∀ {l r:List Mv} {m:Nat},fin m (l++r)=fin (fin m l) r
 | [],_,_=>rfl
 | p::l,r,m=>by show fin (xr m p.2) (l++r)=_;rw [u29];rfl
theorem ve9:∀ {w:List Mv} {m:Nat},(sbh m w).length=w.length
 | [],_=>rfl
 | p::r,m=>by show (sbh _ r).length+1=r.length+1;rw [ve9]
theorem us5:∀ {l r:List Mv} {m:Nat},sbh m (l++r)=sbh m l++sbh (fin m l) r
 | [],_,_=>rfl
 | p::l,r,m=>by show _::sbh (xr m p.2) (l++r)=_;rw [us5];rfl
theorem low_le:∀ {w:List Mv} {m k:Nat},k<=low m w ↔ ∀ x ∈ m::sbh m w,k<=hi x
 | [],m,k=>by simp [low,sbh]
 | p::r,m,k=>by
  have ih:=low_le (w:=r) (m:=xr m p.2) (k:=k)
  show k<=min (low (xr m p.2) r) (hi m) ↔ ∀ x ∈ m::xr m p.2::sbh (xr m p.2) r,k<=hi x
  rw [Nat.le_min,ih]
  constructor
  ·rintro ⟨h1,h2⟩ x hx
   rcases List.mem_cons.mp hx with e | e
   ·subst e;exact h2
   ·exact h1 x e
  ·intro h
   exact ⟨fun x hx=>h x (List.mem_cons_of_mem _ hx),h m (by simp)⟩
theorem thw_sub:∀ {w:List Mv} {m:Nat},(thw m w).Sublist w
 | [],_=>.slnil
 | p::r,m=>by
  rw [thw];split
  ·exact thw_sub.cons₂ _
  ·exact thw_sub.cons _
theorem ud3 {m l:Nat}:m % 2 ^ (min l (hi m))=m % 2 ^ l:=by
 rcases Nat.le_total l (hi m) with h | h
 ·rw [Nat.min_eq_left h]
 ·rw [Nat.min_eq_right h,Nat.mod_eq_of_lt (v47 m),Nat.mod_eq_of_lt (Nat.lt_of_lt_of_le (v47 m) (Nat.pow_le_pow_right (by decide) h))]
theorem ub7 {m k l:Nat} (h1:1<=k) (h:k<=l):xr (m % 2 ^ l) k=xr m k % 2 ^ l:=Nat.eq_of_testBit_eq fun j=>by
 unfold xr;rw [Nat.testBit_xor,Nat.testBit_mod_two_pow,Nat.testBit_mod_two_pow,Nat.testBit_xor,Nat.testBit_two_pow]
 by_cases e:k - 1=j
 ·have:j < l:=by omega
  simp [e,this]
 ·simp [e]
theorem u78 {m k l:Nat} (h:l < k):m % 2 ^ l=xr m k % 2 ^ l:=Nat.eq_of_testBit_eq fun j=>by
 unfold xr;rw [Nat.testBit_mod_two_pow,Nat.testBit_mod_two_pow,Nat.testBit_xor,Nat.testBit_two_pow]
 by_cases e:k - 1=j
 ·have:¬ j < l:=by omega
  simp [this]
 ·simp [e]
theorem uh8 {m k l:Nat} (h1:1<=k) (h:k<=l):stb k (m % 2 ^ l)=stb k m:=by
 unfold stb;rw [Nat.testBit_mod_two_pow];have:k - 1 < l:=by omega
 simp [this]
theorem uu4:∀ {w:List Mv} {m:Nat},okw m w->okw (m % 2 ^ low m w) (thw m w)
 | [],_,_=>trivial
 | p::r,m,⟨h1,h2,h3⟩=>by
  have ih:=uu4 h3
  show okw (m % 2 ^ min (low (xr m p.2) r) (hi m)) (if p.2<=low (xr m p.2) r then p::thw (xr m p.2) r else thw (xr m p.2) r)
  rw [ud3];split
  ·rename_i hk
   refine ⟨h1,by rw [uh8 h1.1 hk];exact h2,?_⟩;rw [ub7 h1.1 hk];exact ih
  ·rename_i hk
   rw [u78 (by omega:low (xr m p.2) r < p.2)];exact ih
theorem v44 {w:List Mv} (h:okw 0 w):okw 0 (once w):=by
 have:=uu4 h;rw [Nat.zero_mod] at this;exact this
theorem ul8 (w:List Mv):(once w).length<=w.length:=thw_sub.length_le
theorem v43 {w:List Mv} (h:(once w).length=w.length):once w=w:=thw_sub.eq_of_length h
def itn:Nat->List Mv->List Mv
 | 0,w=>w
 | n+1,w=>once (itn n w)
theorem uu5 {w:List Mv} (h:okw 0 w):∀ n,okw 0 (itn n w)
 | 0=>h
 | n+1=>v44 (uu5 h n)
theorem ux8 {w:List Mv}:∀ n,(itn n w).length<=w.length
 | 0=>Nat.le_refl _
 | n+1=>Nat.le_trans (ul8 _) (ux8 n)
def Fx (w x:List Mv):Prop:=(∃ n,x=itn n w) /\ once x=x
theorem Fx.self {w x:List Mv} (h:Fx w x):Fx x x:=⟨⟨0,rfl⟩,h.2⟩
theorem Fx.ok {w x:List Mv} (h:Fx w x) (hw:okw 0 w):okw 0 x:=by obtain ⟨⟨a,rfl⟩,_⟩:=h;exact uu5 hw a
theorem Fx.len {w x:List Mv} (h:Fx w x):x.length<=w.length:=by obtain ⟨⟨a,rfl⟩,_⟩:=h;exact ux8 a
def hD (x:Nat):D:=nD (hi x)
theorem ve6 {w:List Mv} {m:Nat}:(thw m w).length<=w.length:=thw_sub.length_le
end L3
namespace L3
open PySem PySem.Spec PyProof.Rows L2
section
variable {X:Cx} {K:PySem.W.Frag} {H:Hp}
theorem ul3 {H:Hp}:∀ ns:List Int,RelDs K H (ns.map D.int) (ns.map V.int)
 | []=>.nil
 | _::ns=>.cons RelD.intI (ul3 ns)
theorem u57 {H:Hp}:∀ {ns:List Int} {xs:List V},RelDs K H (ns.map D.int) xs->xs=ns.map V.int
 | [],xs,r=>r.inv_nil
 | n::ns,xs,r=>by
  obtain ⟨x,xs',rfl,h1,h2⟩:=r.inv_cons;rw [h1.int_inv,u57 h2];rfl
end
end L3
namespace L2
open PySem PySem.Spec PyProof.Rows
structure BlkOkC (X:Cx) (N':List Str) (ix:List (Option Nat)) (scope:Scope):Prop where
 kind:scope.kind=.function
 own:∀ y ∈ scope.names,scope.names.lookup y.1=some y.2
 frees:∀ y ∈ scope.names,y.2=.free->X.env.kindOf y.1=some .cell \/ X.env.kindOf y.1=some .free
 len:ix.length=N'.length
 at_:∀ (i j:Nat) (x:Str),N'[i]?=some x->ix[i]?=some (some j)->X.N[j]?=some x /\ scope.names.lookup x=some .free
end L2
namespace L3
open PySem PySem.Spec PyProof.Rows L2 Rw
def cnt:Nat->Nat->Nat
 | 0,_=>0
 | n+1,m=>cnt n m+(if m.testBit n then 1 else 0)
theorem un7:∀ {n m m':Nat},(∀ i,m.testBit i=true->m'.testBit i=true)->cnt n m<=cnt n m'
 | 0,_,_,_=>Nat.le_refl _
 | n+1,m,m',h=>by
  have ih:=un7 (n:=n) h;rw [cnt,cnt];cases e:m.testBit n with
  | true=>rw [h n e];simp;omega
  | false=>simp;omega
theorem uz8 {n m l:Nat}:cnt n (m % 2 ^ l)<=cnt n m:=un7 fun i h=>by
 rw [Nat.testBit_mod_two_pow] at h;simp at h;exact h.2
theorem u95:∀ {n m m':Nat},(∀ i,i < n->m.testBit i=m'.testBit i)->cnt n m=cnt n m'
 | 0,_,_,_=>rfl
 | n+1,m,m',h=>by
  rw [cnt,cnt,u95 (n:=n) fun i hi=>h i (by omega),h n (by omega)]
theorem u16 {m k j:Nat}:(xr m k).testBit j=(m.testBit j ^^ decide (k - 1=j)):=by
 unfold xr;rw [Nat.testBit_xor,Nat.testBit_two_pow]
theorem u88:∀ {n m k:Nat},1<=k->k<=n->stb k m=false->cnt n (xr m k)=cnt n m+1
 | 0,_,_,h1,h2,_=>by omega
 | n+1,m,k,h1,h2,h=>by
  unfold stb at h
  by_cases e:k - 1=n
  ·subst e
   have e1:cnt (k - 1) (xr m k)=cnt (k - 1) m:=u95 fun i hi=>by
    have:¬ (k - 1=i):=by omega
    rw [u16];simp [this]
   rw [cnt,cnt,e1,u16,h];simp
  ·have ih:=u88 (n:=n) (m:=m) h1 (by omega) h
   rw [cnt,cnt,ih,u16];simp [e];omega
theorem u75:∀ {n m k:Nat},1<=k->k<=n->stb k m=true->cnt n (xr m k)+1=cnt n m
 | 0,_,_,h1,h2,_=>by omega
 | n+1,m,k,h1,h2,h=>by
  unfold stb at h
  by_cases e:k - 1=n
  ·subst e
   have e1:cnt (k - 1) (xr m k)=cnt (k - 1) m:=u95 fun i hi=>by
    have:¬ (k - 1=i):=by omega
    rw [u16];simp [this]
   rw [cnt,cnt,e1,u16,h];simp
  ·have ih:=u75 (n:=n) (m:=m) h1 (by omega) h
   rw [cnt,cnt,u16];simp [e];omega
def lgl (n s m:Nat) (p:Mv):Prop:=(1<=p.2 /\ p.2<=n) /\ (p.2=1 \/ m.testBit (p.2 - 2)=true) /\ p.1=(!stb p.2 m) /\ (p.1=true->cnt n m < s)
def lgw (n s:Nat):Nat->List Mv->Prop
 | _,[]=>True
 | m,p::r=>lgl n s m p /\ lgw n s (xr m p.2) r
theorem lgw_app {n s:Nat}:∀ {l r:List Mv} {m:Nat},lgw n s m (l++r) ↔ lgw n s m l /\ lgw n s (fin m l) r
 | [],r,m=>by show lgw n s m r ↔ True /\ lgw n s m r;simp
 | p::l,r,m=>by
  show lgl n s m p /\ lgw n s (xr m p.2) (l++r) ↔ (lgl n s m p /\ lgw n s (xr m p.2) l) /\ lgw n s (fin (xr m p.2) l) r
  rw [lgw_app,and_assoc]
theorem uw5 {n s:Nat} (hn:n<=900):∀ {w:List Mv} {m:Nat},lgw n s m w->okw m w
 | [],_,_=>trivial
 | p::r,m,⟨⟨h1,h2,h3,h4⟩,h5⟩=>⟨⟨h1.1,by omega⟩,h3,uw5 hn h5⟩
theorem ui5 {n s:Nat}:∀ {w:List Mv} {m:Nat},lgw n s m w->lgw n s (m % 2 ^ low m w) (thw m w)
 | [],_,_=>trivial
 | p::r,m,⟨⟨h1,h2,h3,h4⟩,h5⟩=>by
  have ih:=ui5 h5
  show lgw n s (m % 2 ^ min (low (xr m p.2) r) (hi m)) (if p.2<=low (xr m p.2) r then p::thw (xr m p.2) r else thw (xr m p.2) r)
  rw [ud3];split
  ·rename_i hk
   refine ⟨⟨h1,?_,by rw [uh8 h1.1 hk];exact h3,fun e=>Nat.lt_of_le_of_lt uz8 (h4 e)⟩,?_⟩
   ·rcases h2 with h2 | h2
    ·exact .inl h2
    ·right
     rw [Nat.testBit_mod_two_pow,h2];simp;omega
   ·rw [ub7 h1.1 hk]
    exact ih
  ·rename_i hk
   rw [u78 (by omega:low (xr m p.2) r < p.2)];exact ih
theorem uj1:∀ {w:List Mv} {m:Nat},okw m w->fin (m % 2 ^ low m w) (thw m w)=fin m w
 | [],m,_=>by
  show m % 2 ^ hi m=m
  exact Nat.mod_eq_of_lt (v47 m)
 | p::r,m,⟨h1,_,h5⟩=>by
  have ih:=uj1 h5
  show fin (m % 2 ^ min (low (xr m p.2) r) (hi m)) (if p.2<=low (xr m p.2) r then p::thw (xr m p.2) r else thw (xr m p.2) r)=fin (xr m p.2) r
  rw [ud3];split
  ·rename_i hk
   show fin (xr (m % 2 ^ low (xr m p.2) r) p.2) (thw (xr m p.2) r)=_
   rw [ub7 h1.1 hk];exact ih
  ·rename_i hk
   rw [u78 (by omega:low (xr m p.2) r < p.2)];exact ih
theorem uk8:∀ {w:List Mv} {m:Nat},okw m w->∀ x,x ∈ (m % 2 ^ low m w)::sbh (m % 2 ^ low m w) (thw m w)->∃ y l,y ∈ m::sbh m w /\ x=y % 2 ^ l
 | [],m,_,x,hx=>by
  have:x=m % 2 ^ low m []:=by simpa [thw,sbh] using hx
  exact ⟨m,_,by simp,this⟩
 | p::r,m,⟨h1,_,h5⟩,x,hx=>by
  have ih:=uk8 h5;have e:low m (p::r)=min (low (xr m p.2) r) (hi m):=rfl;rw [e,ud3] at hx;rw [thw] at hx;split at hx
  ·rename_i hk
   rcases List.mem_cons.mp hx with hx | hx
   ·exact ⟨m,_,by simp,hx⟩
   ·have hx:x ∈ xr (m % 2 ^ low (xr m p.2) r) p.2::sbh (xr (m % 2 ^ low (xr m p.2) r) p.2) (thw (xr m p.2) r):=hx
    rw [ub7 h1.1 hk] at hx;obtain ⟨y,l,hy,e⟩:=ih x hx;exact ⟨y,l,List.mem_cons_of_mem _ hy,e⟩
  ·rename_i hk
   rw [u78 (by omega:low (xr m p.2) r < p.2)] at hx;obtain ⟨y,l,hy,e⟩:=ih x hx;exact ⟨y,l,List.mem_cons_of_mem _ hy,e⟩
structure Thn (n s:Nat) (w x:List Mv):Prop where
 leg:lgw n s 0 x
 fin:fin 0 x=fin 0 w
 sub:x.Sublist w
 cnt:∀ a ∈ 0::sbh 0 x,∃ b ∈ 0::sbh 0 w,cnt 24 a<=cnt 24 b
theorem Thn.once {n s:Nat} {w x:List Mv} (hn:n<=900) (h:Thn n s w x):Thn n s w (once x):=by
 have ok:=uw5 hn h.leg;have z:0 % 2 ^ low 0 x=0:=Nat.zero_mod _;refine ⟨?_,?_,thw_sub.trans h.sub,fun a ha=>?_⟩
 ·have:=ui5 h.leg
  rw [z] at this;exact this
 ·have:=uj1 ok
  rw [z] at this;exact this.trans h.fin
 ·have:=uk8 ok a
  rw [z] at this;obtain ⟨y,l,hy,rfl⟩:=this ha;obtain ⟨b,hb,e⟩:=h.cnt y hy;exact ⟨b,hb,Nat.le_trans uz8 e⟩
theorem Thn.itn {n s:Nat} {w:List Mv} (hn:n<=900) (h:lgw n s 0 w):∀ k,Thn n s w (itn k w)
 | 0=>⟨h,rfl,List.Sublist.refl _,fun a ha=>⟨a,ha,Nat.le_refl _⟩⟩
 | k+1=>(Thn.itn hn h k).once hn
theorem Fx.thn {n s:Nat} {w x:List Mv} (hn:n<=900) (h:lgw n s 0 w) (f:Fx w x):Thn n s w x:=by
 obtain ⟨⟨k,rfl⟩,_⟩:=f;exact Thn.itn hn h k
def nrm:Nat->List Mv->Prop
 | _,[]=>True
 | m,p::r=>p.2<=low (xr m p.2) r /\ nrm (xr m p.2) r
theorem vb6:∀ {w:List Mv} {m:Nat},thw m w=w->nrm m w
 | [],_,_=>trivial
 | p::r,m,h=>by
  rw [thw] at h;split at h
  ·rename_i hk
   exact ⟨hk,vb6 (List.cons.inj h).2⟩
  ·have:=ve6 (w:=r) (m:=xr m p.2)
   rw [h,List.length_cons] at this;omega
theorem vc4 {m:Nat} (h:0 < hi m):m.testBit (hi m - 1)=true:=by
 have h0:m ≠ 0:=fun e=>by subst e;simp [hi] at h
 unfold hi;rw [if_neg h0]
 show m.testBit m.log2=true
 exact Nat.testBit_log2 h0
theorem u83:∀ {w:List Mv} {m:Nat},fin m w ∈ m::sbh m w
 | [],m=>by simp [fin]
 | p::r,m=>List.mem_cons_of_mem _ (u83 (w:=r) (m:=xr m p.2))
theorem ua1 {n:Nat}:∀ {w:List Mv} {m:Nat},m < 2 ^ n->(∀ p ∈ w,1<=p.2 /\ p.2<=n)->∀ x ∈ m::sbh m w,x < 2 ^ n
 | [],m,h,_,x,hx=>by
  have:x=m:=by simpa [sbh] using hx
  subst this;exact h
 | p::r,m,h,hw,x,hx=>by
  rcases List.mem_cons.mp hx with e | hx
  ·subst e;exact h
  ·refine ua1 (m:=xr m p.2) ?_ (fun q hq=>hw q (List.mem_cons_of_mem _ hq)) x hx
   have:=hw p (by simp);exact Nat.xor_lt_two_pow h (Nat.pow_lt_pow_right (by decide) (by omega))
theorem u47 {n s:Nat}:∀ {w:List Mv} {m:Nat},lgw n s m w->∀ p ∈ w,1<=p.2 /\ p.2<=n
 | [],_,_,p,hp=>by simp at hp
 | q::r,m,⟨h1,h2⟩,p,hp=>by
  rcases List.mem_cons.mp hp with e | hp
  ·subst e;exact h1.1
  ·exact u47 h2 p hp
def bkw (w:List Mv):List Mv:=(w.map fun p=>(!p.1,p.2)).reverse
theorem vr5 {m k:Nat}:stb k (xr m k)=!stb k m:=by
 unfold stb;rw [u16];simp
theorem w26 {m k:Nat}:xr (xr m k) k=m:=Nat.eq_of_testBit_eq fun j=>by
 rw [u16,u16];cases m.testBit j <;> cases decide (k - 1=j) <;> rfl
theorem ui6 {n s:Nat}:∀ {w:List Mv} {m:Nat},cnt n m<=s->lgw n s m w->cnt n (fin m w)<=s
 | [],_,h,_=>h
 | p::r,m,h,⟨⟨h1,_,h3,h4⟩,h5⟩=>by
  refine ui6 (m:=xr m p.2) ?_ h5;cases e:stb p.2 m with
  | true=>have:=u75 h1.1 h1.2 e;omega
  | false =>
   rw [e] at h3;rw [u88 h1.1 h1.2 e];exact h4 h3
theorem ui7 {n s:Nat}:∀ {w:List Mv} {m:Nat},cnt n m<=s->lgw n s m w->lgw n s (fin m w) (bkw w) /\ fin (fin m w) (bkw w)=m
 | [],_,_,_=>⟨trivial,rfl⟩
 | p::r,m,h,⟨⟨h1,h2,h3,h4⟩,h5⟩=>by
  have hc:cnt n (xr m p.2)<=s:=by
   cases e:stb p.2 m with
   | true=>have:=u75 h1.1 h1.2 e;omega
   | false =>
    rw [e] at h3;rw [u88 h1.1 h1.2 e];exact h4 h3
  obtain ⟨i1,i2⟩:=ui7 hc h5;have e:bkw (p::r)=bkw r++[(!p.1,p.2)]:=by unfold bkw;rw [List.map_cons,List.reverse_cons]
  have ef:fin m (p::r)=fin (xr m p.2) r:=rfl;rw [e,ef,lgw_app,u29,i2];refine ⟨⟨i1,⟨h1,?_,?_,fun hb=>?_⟩,trivial⟩,w26⟩
  ·rcases h2 with h2 | h2
   ·exact .inl h2
   ·by_cases hk:p.2=1
    ·exact .inl hk
    ·right
     show (xr m p.2).testBit (p.2 - 2)=true
     rw [u16,h2];have:¬ (p.2 - 1=p.2 - 2):=by omega
     simp [this]
  ·show (!p.1)=!stb p.2 (xr m p.2)
   rw [vr5,h3]
  ·have hp:p.1=false:=by simpa using hb
   rw [hp] at h3;have hs:stb p.2 m=true:=by simpa using h3.symm
   have:=u75 h1.1 h1.2 hs;omega
theorem v11 {w:List Mv}:(bkw w).length=w.length:=by simp [bkw]
theorem ue5 {G:Gp} {a:Addr} {ns:List Int} {q:DK} (h:u10 (G a)=some (ns.map .int)) (k:q (.int ns.sum) G):xSum [.ref a] G q:=by
 unfold xSum;simp only [h,u63];exact k
theorem u32:∀ {n:Nat},cnt n 0=0
 | 0=>rfl
 | n+1=>by rw [cnt,u32,Nat.zero_testBit];rfl
def cap:Nat->Bool->Nat
 | 0,_=>0
 | s+1,true=>2 ^ s
 | s+1,false=>2 ^ (s+1) - 1
def WOK (f l s:Nat) (b:Bool) (w:List Mv):Prop:=∀ n S m,l<=n->(f=0 \/ m.testBit (f - 1)=true)->(∀ i,f<=i->i < l->m.testBit i=false)->cnt n m+s<=S ->
 lgw n S m w /\ (∀ i,(i < f \/ l<=i)->(fin m w).testBit i=m.testBit i) /\ (fin m w).testBit (l - 1)=true /\ (b=true->∀ i,f<=i->i+1 < l->(fin m w).testBit i=false)
theorem u98 {f s:Nat} {b:Bool} (hs:1<=s):WOK f (f+1) s b [(true,f+1)]:=by
 intro n S m hn hf hz hc;have hb:=hz f (Nat.le_refl _) (Nat.lt_succ_self _);refine ⟨⟨⟨⟨by show 1<=f+1;omega,hn⟩,?_,?_,fun _=>by omega⟩,trivial⟩,fun i hi=>?_,?_,fun _ i h1 h2=>by omega⟩
 ·rcases hf with h | h
  ·left;show f+1=1;omega
  ·by_cases h0:f=0
   ·left;show f+1=1;omega
   ·right
    show m.testBit (f+1 - 2)=true
    have:f+1 - 2=f - 1:=by omega
    rw [this];exact h
 ·show true=!m.testBit f
  rw [hb];rfl
 ·show (xr m (f+1)).testBit i=_
  have:¬ (f+1 - 1=i):=by omega
  rw [u16,decide_eq_false this,Bool.xor_false]
 ·show (xr m (f+1)).testBit (f+1 - 1)=true
  rw [u16]
  show (m.testBit f ^^ decide (f=f))=true
  rw [hb];simp
theorem WOK.fin_xr {f l s:Nat} {w:List Mv} (hl:f < l) (h:WOK f l s true w) {n S m:Nat} (hn:l<=n) (hf:f=0 \/ m.testBit (f - 1)=true) (hz:∀ i,f<=i->i < l->m.testBit i=false) (hc:cnt n m+s<=S):fin m w=xr m l:=by
 obtain ⟨_,h2,h3,h4⟩:=h n S m hn hf hz hc;refine Nat.eq_of_testBit_eq fun i=>?_
 rw [u16]
 by_cases e:l - 1=i
 ·subst e
  rw [h3,hz _ (by omega) (by omega)];simp
 ·have:decide (l - 1=i)=false:=decide_eq_false e
  rw [this,Bool.xor_false]
  by_cases h5:i < f \/ l<=i
  ·exact h2 i h5
  ·rw [h4 rfl i (by omega) (by omega),hz i (by omega) (by omega)]
theorem vd4 {m k l:Nat}:xr (xr m k) l=xr (xr m l) k:=Nat.eq_of_testBit_eq fun j=>by
 rw [u16,u16,u16,u16];cases m.testBit j <;> cases decide (k - 1=j) <;> cases decide (l - 1=j) <;> rfl
theorem u49 {m k i:Nat} (h:¬ k - 1=i):(xr m k).testBit i=m.testBit i:=by
 rw [u16,decide_eq_false h,Bool.xor_false]
theorem uc7 {m k:Nat} (h:m.testBit (k - 1)=false):(xr m k).testBit (k - 1)=true:=by
 rw [u16,h];simp
theorem u99 {f c l s:Nat} {w1 w2 w3:List Mv} (h1:f < c) (h2:c < l) (W1:WOK f c (s+1) true w1) (W2:WOK c l s true w2) (W3:WOK f c s true w3):WOK f l (s+1) true (w1++w2++bkw w3):=by
 intro n S m hn hf hz hc;have z1:∀ i,f<=i->i < c->m.testBit i=false:=fun i a b=>hz i a (by omega)
 have e1:=W1.fin_xr h1 (n:=n) (S:=S) (by omega) hf z1 hc;obtain ⟨L1,_⟩:=W1 n S m (by omega) hf z1 hc;have hb1:stb c m=false:=hz (c - 1) (by omega) (by omega);have c1:cnt n (xr m c)=cnt n m+1:=u88 (by omega) (by omega) hb1;have f2:c=0 \/ (xr m c).testBit (c - 1)=true:=.inr (uc7 hb1);have z2:∀ i,c<=i->i < l->(xr m c).testBit i=false:=fun i a b=>by rw [u49 (by omega)];exact hz i (by omega) b
 have e2:=W2.fin_xr h2 (n:=n) (S:=S) hn f2 z2 (by omega);obtain ⟨L2,_⟩:=W2 n S (xr m c) hn f2 z2 (by omega);have hbl:stb l m=false:=hz (l - 1) (by omega) (by omega);have c3:cnt n (xr m l)=cnt n m+1:=u88 (by omega) hn hbl;have f3:f=0 \/ (xr m l).testBit (f - 1)=true:=by
  rcases hf with h | h
  ·exact .inl h
  ·by_cases h0:f=0
   ·exact .inl h0
   ·exact .inr (by rw [u49 (by omega)];exact h)
 have z3:∀ i,f<=i->i < c->(xr m l).testBit i=false:=fun i a b=>by rw [u49 (by omega)];exact hz i a (by omega)
 have e3:=W3.fin_xr h1 (n:=n) (S:=S) (by omega) f3 z3 (by omega);obtain ⟨L3,_⟩:=W3 n S (xr m l) (by omega) f3 z3 (by omega);obtain ⟨B1,B2⟩:=ui7 (by omega:cnt n (xr m l)<=S) L3;rw [e3,vd4] at B1 B2;have et:fin m (w1++w2++bkw w3)=xr m l:=by rw [u29,u29,e1,e2,B2]
 refine ⟨?_,?_⟩
 ·rw [lgw_app,lgw_app,u29,e1,e2]
  exact ⟨⟨L1,L2⟩,B1⟩
 ·rw [et]
  refine ⟨fun i hi=>u49 (by omega),uc7 hbl,fun _ i a b=>by rw [u49 (by omega)];exact hz i a (by omega)⟩
theorem uc8 {f c l s:Nat} {w1 w2:List Mv} (h1:f < c) (h2:c < l) (W1:WOK f c (s+1) true w1) (W2:WOK c l s false w2):WOK f l (s+1) false (w1++w2):=by
 intro n S m hn hf hz hc;have z1:∀ i,f<=i->i < c->m.testBit i=false:=fun i a b=>hz i a (by omega)
 have e1:=W1.fin_xr h1 (n:=n) (S:=S) (by omega) hf z1 hc;obtain ⟨L1,_⟩:=W1 n S m (by omega) hf z1 hc;have hb1:stb c m=false:=hz (c - 1) (by omega) (by omega);have c1:cnt n (xr m c)=cnt n m+1:=u88 (by omega) (by omega) hb1;have f2:c=0 \/ (xr m c).testBit (c - 1)=true:=.inr (uc7 hb1);have z2:∀ i,c<=i->i < l->(xr m c).testBit i=false:=fun i a b=>by rw [u49 (by omega)];exact hz i (by omega) b
 obtain ⟨L2,q1,q2,_⟩:=W2 n S (xr m c) hn f2 z2 (by omega);refine ⟨by rw [lgw_app,e1];exact ⟨L1,L2⟩,fun i hi=>?_,by rw [u29,e1];exact q2,fun h=>by cases h⟩;rw [u29,e1,q1 i (by omega),u49 (by omega)]
theorem WOK.start {l s n S:Nat} {b:Bool} {w:List Mv} (h:WOK 0 l s b w) (hn:l<=n) (hs:s<=S):lgw n S 0 w /\ (fin 0 w).testBit (l - 1)=true:=by
 obtain ⟨a,_,c,_⟩:=h n S 0 hn (.inl rfl) (fun i _ _=>Nat.zero_testBit i) (by rw [u32];omega);exact ⟨a,c⟩
theorem WOK.left {l s n S:Nat} {w:List Mv} (h0:0 < l) (h:WOK 0 l s true w) (hn:l<=n) (hs:s<=S):fin 0 w=2 ^ (l - 1):=by
 have e:=h.fin_xr h0 (n:=n) (S:=S) hn (.inl rfl) (fun i _ _=>Nat.zero_testBit i) (by rw [u32];omega);rw [e];unfold xr;exact Nat.zero_xor _
theorem uy4 {f l s:Nat} {b:Bool} (h:2<=l - f) (hc:l - f<=cap s b):∃ s',s=s'+1 /\ f+(l - f+1) / 2 - f<=cap (if b then s' else s) true /\ l - (f+(l - f+1) / 2)<=cap s' b:=by
 cases s with
 | zero=>simp [cap] at hc;omega
 | succ s =>
  refine ⟨s,rfl,?_⟩;cases s with
  | zero=>cases b <;> simp [cap] at hc <;> omega
  | succ s =>
   cases b
   ·simp only [cap] at hc ⊢
    rw [Nat.pow_succ] at hc;rw [Nat.pow_succ];simp;rw [Nat.pow_succ];omega
   ·simp only [cap] at hc ⊢
    rw [Nat.pow_succ] at hc;simp [cap];omega
theorem v80 {s:Nat}:cap s true<=cap (s+1) true:=by
 cases s with
 | zero=>simp [cap]
 | succ s=>simp only [cap];rw [Nat.pow_succ];omega
theorem u84 {s:Nat} {b:Bool} (h:1<=s):1<=cap s b:=by
 cases s with
 | zero=>omega
 | succ s =>
  have:=Nat.two_pow_pos s;cases b
  ·simp only [cap];rw [Nat.pow_succ];omega
  ·simp only [cap];omega
theorem vg8 {m:Nat}:∀ n,((List.range n).filter fun i=>m.testBit i).length=cnt n m
 | 0=>rfl
 | n+1=>by
  rw [List.range_succ,List.filter_append,List.length_append,vg8 n,cnt];cases h:m.testBit n <;> simp [h]
theorem uz9 {n m:Nat} (h:m < 2 ^ n):∀ k,cnt (n+k) m=cnt n m
 | 0=>rfl
 | k+1=>by
  rw [<- Nat.add_assoc,cnt,uz9 h k,Nat.testBit_lt_two_pow (Nat.lt_of_lt_of_le h (Nat.pow_le_pow_right (by decide) (by omega)))];rfl
theorem uw6 {n s:Nat} {w:List Mv} (h:lgw n s 0 w):fin 0 w < 2 ^ n:=ua1 (Nat.two_pow_pos _) (u47 h) _ u83
abbrev Pm:=Option Mv
def pmD:Pm->D
 | none=>.tup [.str "show"]
 | some p=>mD p
theorem u50 {w:List Mv}:(w.map some).map pmD=w.map mD:=by rw [List.map_map];rfl
def flp:Pm->Pm
 | none=>none
 | some p=>some (!p.1,p.2)
def bkp (w:List Pm):List Pm:=(w.map flp).reverse
theorem u97 {w:List Mv}:bkp (w.map some)=(bkw w).map some:=by
 unfold bkp bkw;rw [List.map_map,List.map_reverse,List.map_map];rfl
theorem vn7 {w:List Pm}:(bkp w).length=w.length:=by simp [bkp]
def PLN (n s:Nat) (left:Bool) (P:List Pm):Prop :=
 if left then ∃ w:List Mv,P=w.map some /\ lgw n s 0 w /\ fin 0 w=2 ^ (n - 1)
 else ∃ u v:List Mv,P=u.map some++[none]++(bkw v).map some /\ lgw n s 0 u /\ lgw n s 0 v /\ fin 0 u=fin 0 v /\ (fin 0 u).testBit (n - 1)=true
theorem vn5 {w:List Mv} {p:Mv} (h:p ∈ bkw w):∃ q ∈ w,q.2=p.2:=by
 unfold bkw at h;rw [List.mem_reverse,List.mem_map] at h;obtain ⟨q,hq,rfl⟩:=h;exact ⟨q,hq,rfl⟩
theorem PLN.mem {n s:Nat} {left:Bool} {P:List Pm} (h:PLN n s left P):∀ p,some p ∈ P->1<=p.2 /\ p.2<=n:=by
 unfold PLN at h;intro p hp;split at h
 ·obtain ⟨w,rfl,hw,_⟩:=h
  obtain ⟨q,hq,e⟩:=List.mem_map.mp hp;cases e;exact u47 hw p hq
 ·obtain ⟨u,v,rfl,hu,hv,_⟩:=h
  rcases List.mem_append.mp hp with hp | hp
  ·rcases List.mem_append.mp hp with hp | hp
   ·obtain ⟨q,hq,e⟩:=List.mem_map.mp hp
    cases e;exact u47 hu p hq
   ·simp at hp
  ·obtain ⟨q,hq,e⟩:=List.mem_map.mp hp
   cases e;obtain ⟨r,hr,er⟩:=vn5 hq;rw [<- er];exact u47 hv r hr
theorem uu9 {xs:List Nat}:xs.map nD=(xs.map fun x:Nat=>(x:Int)).map .int:=by rw [List.map_map];rfl
theorem vb5 {P:Program} {w:World} {K:PySem.W.Frag} {mg:Str->Option Value} {base:Heap} {n:Nat} {x qual:Str} {st:Stmt} {ps:List Str} {d:FnAt K x qual st ps} {S:Sp3} (h:∀ ds G R,¬ S ds G R):Ok P w mg base n d S :=
 ⟨fun vs H Q E ⟨ds,G,R,_,_,s,_⟩=>absurd s (h ds G R),fun A outer s H args us vs Q E _ _ _ _ ⟨ds,G,R,_,_,s,_⟩=>absurd s (h ds G R)⟩
end L3
namespace Law
open PySem L2 L3 Rw
theorem Adv.grow {G G1 G2:Gp} {st:Addr} (a:Adv st G G1) (g:Grow G1 G2):Adv st G G2:=⟨a.at_.grow g,fun c o h e=>g.kp _ _ (a.kp c o h e)⟩
end Law
namespace L3
open PySem PySem.Spec PyProof.Rows L2 Rw
theorem v84 {p:Pm} {r:List Pm}:bkp (p::r)=bkp r++[flp p]:=by unfold bkp;rw [List.map_cons,List.reverse_cons]
theorem vn6 {w:List Mv}:bkw (bkw w)=w:=by
 unfold bkw;rw [List.map_reverse,List.reverse_reverse,List.map_map];have:((fun p:Mv=>(!p.1,p.2)) ∘ fun p:Mv=>(!p.1,p.2))=id:=by funext p;show (!(!p.1),p.2)=p;rw [Bool.not_not]
 rw [this,List.map_id]
theorem PLN.turned {n s:Nat} {P:List Pm} (h:PLN n s false P):PLN n s false (bkp P):=by
 unfold PLN at h ⊢;rw [if_neg Bool.false_ne_true] at h ⊢;obtain ⟨u,v,rfl,hu,hv,e,hb⟩:=h;refine ⟨v,u,?_,hv,hu,e.symm,by rw [<- e];exact hb⟩;have:bkp (u.map some++[none]++(bkw v).map some)=bkp ((bkw v).map some)++[none]++bkp (u.map some):=by
  unfold bkp;simp [flp]
 rw [this,u97,u97,vn6]
end L3
namespace L2
open PySem PySem.Spec PyProof.Rows
section
variable {X:Cx} {pins:List (Addr × Obj)} {σ:L2.St} {H:Hp} {s:Shared} {a b:Addr} {A:Around} {E:Value->Shared->Prop}
theorem ux0 {ks:List Key} (I:Inv X pins σ H s) (h:SqT X.K H b (ks.map kV)):(tupleKind (u17 X.prog X.w)).is s.heap ks b:=by
 obtain ⟨its,r,⟨o,e,c,n,d⟩,_⟩:=I.tuple h;exact ⟨o,its.toArray,n,e,c,d,by simpa using ua5 r⟩
def va0 (K:PySem.W.Frag) (td ty:TE):TE:=fun σ H Q=>td σ H fun x H1=>ty σ H1 fun y H2=>∃ a b kvs k v,x=.ref a /\ y=.ref b /\ H2 a=some (.dT kvs) /\ SqT K H2 b (k.map kV) /\ valV kvs k=some v /\ Q v H2
theorem v40 {o i:Expr} {pos:Pos} {td ty:TE} (hu:X.A.units+1 < cLine) (ho:PE X o td) (hi:PE X i ty) (hs:NoSl i):PE X (.Subscript o i pos) (va0 X.K td ty):=by
 intro pins s σ H Q I h
 (refine uh7 PySem.F.slot_dict_getitem.lookup hs (thn (ho pins s σ H _ I h) ?_);rintro u s1 ⟨x,H1,I1,rx,q1⟩;refine thn (hi pins s1 σ H1 _ I1 q1) ?_;rintro iv s2 ⟨y,H2,I2,ry,a,b,kvs,k,v,ex,ey,ha,hb,l,q2⟩)
 subst ex;subst ey;obtain rfl:u=Value.ref a:=rx;obtain rfl:iv=Value.ref b:=ry;obtain ⟨z,hd,xs,rel,dd⟩:=ud8 I2.hok (.inl ha);refine ⟨dd.typeIs,?_⟩;obtain ⟨w',hw,rw'⟩:=RelO.some_of (v:=v) (o:=(atKey xs k).map (·.2)) (by rw [<- l];exact rel.val k);obtain ⟨p,hp,hp2⟩:=Option.map_eq_some_iff.mp hw;refine wpAny_getItem_heap (tupleKind_room_in1 hu) (ux0 I2 hb) dd hp ?_;rw [hp2];exact ⟨v,H2,I2.tok _,rw',q2⟩
def rInD (K:PySem.W.Frag) (neg:Bool):R2:=fun x y H Q=>∃ a b kvs k,x=.ref b /\ y=.ref a /\ H a=some (.dT kvs) /\ SqT K H b (k.map kV) /\ Q (.bl (if neg then !(valV kvs k).isSome else (valV kvs k).isSome)) H
theorem vv3 (hu:X.A.units+1 < cLine):OpR X (compareOp .In) (rInD X.K false):=by
 intro pins s σ H x y v u Q I rx ry h;obtain ⟨a,b,kvs,k,rfl,rfl,ha,hb,q⟩:=h;obtain rfl:v=Value.ref b:=rx;obtain rfl:u=Value.ref a:=ry;obtain ⟨z,hd,xs,rel,dd⟩:=ud8 I.hok (.inl ha);refine wpAny_in_heap (tupleKind_room_in1 hu) (ux0 I hb) hd dd ?_;have e:=(rel.val k).isSome_eq;rw [Option.isSome_map] at e;rw [<- e];exact ⟨.bl (valV kvs k).isSome,H,I.tok _,rfl,q⟩
theorem uu2 (hu:X.A.units+1 < cLine):OpR X (compareOp .NotIn) (rInD X.K true):=by
 intro pins s σ H x y v u Q I rx ry h;obtain ⟨a,b,kvs,k,rfl,rfl,ha,hb,q⟩:=h;obtain rfl:v=Value.ref b:=rx;obtain rfl:u=Value.ref a:=ry;obtain ⟨z,hd,xs,rel,dd⟩:=ud8 I.hok (.inl ha);refine wpAny_notIn_heap (tupleKind_room_in1 hu) (ux0 I hb) hd dd ?_;have e:=(rel.val k).isSome_eq;rw [Option.isSome_map] at e;rw [<- e];exact ⟨.bl (!(valV kvs k).isSome),H,I.tok _,rfl,q⟩
end
end L2
namespace L3
open PySem PySem.Spec PyProof.Rows L2
def kD:Key->D
 | .inl i=>.int i
 | .inr x=>.str x
def valD (kvs:List (List Key × D)) (k:List Key):Option D:=(kvs.find? fun kv=>decide (kv.1=k)).map (·.2)
def putT (kvs:List (List Key × D)) (k:List Key) (v:D):List (List Key × D) :=
 if (kvs.any fun kv=>decide (kv.1=k))=true then kvs.map (fun kv=>if kv.1=k then (kv.1,v) else kv) else kvs++[(k,v)]
section
variable {X:Cx} {K:PySem.W.Frag} {G:Gp} {H:Hp} {p:Addr}
theorem u73:∀ {ks:List Key} {xs:List V},RelDs K H (ks.map kD) xs->xs=ks.map kV
 | [],xs,r=>r.inv_nil
 | .inl i::ks,xs,r=>by
  obtain ⟨x,xs',rfl,h1,h2⟩:=r.inv_cons;rw [(show RelD K H (.int i) x from h1).int_inv,u73 h2];rfl
 | .inr z::ks,xs,r=>by
  obtain ⟨x,xs',rfl,h1,h2⟩:=r.inv_cons;rw [(show RelD K H (.str z) x from h1).str_inv,u73 h2];rfl
theorem uh6 {k:List Key}:∀ {kvs:List (List Key × D)} {ys:List (List Key × V)},RelPs K H kvs ys->(valD kvs k=none /\ valV ys k=none) \/ ∃ d v,valD kvs k=some d /\ valV ys k=some v /\ RelD K H d v
 | [],ys,⟨h1,h2⟩=>by
  have:ys=[]:=by cases ys with | nil=>rfl | cons y ys=>simp at h1
  subst this;exact .inl ⟨rfl,rfl⟩
 | (k',d)::kvs,[],⟨h1,h2⟩=>by simp at h1
 | (k',d)::kvs,(k2,v)::ys,⟨h1,h2⟩=>by
  rw [List.map_cons,List.map_cons] at h1;obtain ⟨e1,e2⟩:=List.cons.inj h1;have e1:k'=k2:=e1;subst e1;obtain ⟨x,xs',e3,q1,q2⟩:=h2.inv_cons;rw [List.map_cons] at e3;obtain ⟨e4,e5⟩:=List.cons.inj e3;have e4:v=x:=e4;subst e4
  by_cases hk:k'=k
  ·right
   exact ⟨d,v,by simp [valD,List.find?_cons,hk],u71 hk,q1⟩
  ·have ih:=uh6 (k:=k) (kvs:=kvs) (ys:=ys) ⟨e2,by rw [e5];exact q2⟩
   have a1:valD ((k',d)::kvs) k=valD kvs k:=by simp [valD,List.find?_cons,hk]
   rw [a1,u72 hk];exact ih
theorem uv4 {k:List Key} {d:D} {v:V} (q:RelD K H d v):∀ {kvs:List (List Key × D)} {ys:List (List Key × V)},RelPs K H kvs ys->RelPs K H (kvs.map (fun kv=>if kv.1=k then (kv.1,d) else kv)) (ys.map (fun kv=>if kv.1=k then (kv.1,v) else kv)) /\ (kvs.any fun kv=>decide (kv.1=k))=(ys.any fun kv=>decide (kv.1=k))
 | [],ys,⟨h1,h2⟩=>by
  have:ys=[]:=by cases ys with | nil=>rfl | cons y ys=>simp at h1
  subst this;exact ⟨⟨rfl,.nil⟩,rfl⟩
 | (k',d')::kvs,[],⟨h1,h2⟩=>by simp at h1
 | (k',d')::kvs,(k2,v')::ys,⟨h1,h2⟩=>by
  rw [List.map_cons,List.map_cons] at h1;obtain ⟨e1,e2⟩:=List.cons.inj h1;have e1:k'=k2:=e1;subst e1;obtain ⟨x,xs',e3,q1,q2⟩:=h2.inv_cons;rw [List.map_cons] at e3;obtain ⟨e4,e5⟩:=List.cons.inj e3;have e4:v'=x:=e4;subst e4;obtain ⟨⟨i1,i2⟩,i3⟩:=uv4 (k:=k) q (kvs:=kvs) (ys:=ys) ⟨e2,by rw [e5];exact q2⟩;refine ⟨⟨?_,?_⟩,by rw [List.any_cons,List.any_cons,i3]⟩
  ·rw [List.map_cons,List.map_cons,List.map_cons,List.map_cons,i1]
   by_cases hk:k'=k <;> simp [hk]
  ·rw [List.map_cons,List.map_cons,List.map_cons,List.map_cons]
   by_cases hk:k'=k
   ·simp only [hk,if_true];exact .cons q i2
   ·simp only [hk,if_false];exact .cons q1 i2
theorem vh4 {k:List Key} {d:D} {v:V} (q:RelD K H d v) {kvs:List (List Key × D)} {ys:List (List Key × V)} (h:RelPs K H kvs ys):RelPs K H (putT kvs k d) (putK ys k v):=by
 obtain ⟨i1,i3⟩:=uv4 (k:=k) q h;unfold putT putK;rw [i3];split
 ·exact i1
 ·exact ⟨by rw [List.map_append,List.map_append,h.1];rfl,by rw [List.map_append,List.map_append];exact h.2.append (.cons q .nil)⟩
theorem Le.dT {xs ys:List (List Key × V)} (h:H p=some (.dT xs)):Le H (upd H p (.dT ys)) :=
  ⟨fun b zs q => by by_cases e : b = p
                    · subst e;rw [h] at q;cases q
                    · rw [u12 e];exact q,
   fun b o u q => by by_cases e : b = p
                     · subst e;rw [h] at q;cases q
                     · rw [u12 e];exact q⟩
def ua9 (td ti:TE3):TE3:=fun σ G q=>td σ G fun x G1=>ti σ G1 fun y G2=>∃ a kvs ks d,x=.ref a /\ y=.tup (ks.map kD) /\ G2 a=some (.dit kvs) /\ valD kvs ks=some d /\ q d G2
theorem v55 {td ti:TE3} {σ:L2.St} {Q:VK} (h:lowE K (ua9 td ti) σ H Q):va0 K (lowE K td) (lowE K ti) σ H Q:=by
 obtain ⟨σd,G,q,rs,c,t,f⟩:=h;refine ⟨σd,G,_,rs,c,t,fun x G1 v H1 r1 c1 l1 t1=>⟨σd,G1,_,rs.le l1,c1,t1,fun y G2 u H2 r2 c2 l2 t2=>?_⟩⟩;obtain ⟨a,kvs,ks,d,rfl,rfl,hg,hv,t3⟩:=t2;have r1':=RelD.le l2 r1;cases r1'.ref_inv;obtain ⟨b,xs,rfl,s1,q1⟩:=r2.tup_inv;obtain rfl:=u73 q1;obtain ⟨ys,e,rp⟩:=c2 a _ hg
 rcases uh6 (k:=ks) rp with ⟨z,_⟩ | ⟨d',w,z1,z2,z3⟩
 ·rw [hv] at z;cases z
 ·rw [hv] at z1;cases z1
  exact ⟨a,b,ys,ks,w,rfl,rfl,e,s1,z2,f _ _ _ _ z3 c2 (l1.trans l2) t3⟩
theorem u58 {k:Nat} {o i:Expr} {pos:Pos} {to ti:TE3} (hr:Room k X.A) (ho:E3 X o to) (hi:E3 X i ti) (hs:NoSl i:=by exact fun _ _=>rfl):E3 X (.Subscript o i pos) (ua9 to ti) :=
 u34 (v40 (ub5 hr) ho hi hs) fun _ _ _=>v55
@[reducible] def xInD (neg:Bool):R3:=fun x y G q=>∃ (ks:List Key) (kvs:List (List Key × D)) (a:Addr),x=.tup (ks.map kD) /\ y=.ref a /\ G a=some (.dit kvs) /\ q (.bl (if neg then !(valD kvs ks).isSome else (valD kvs ks).isSome)) G
theorem uw0 {neg:Bool} {x y:V} {Q:VK} (h:lowR K (xInD neg) x y H Q):rInD K neg x y H Q:=by
 obtain ⟨d,e,G,q,r1,r2,c,⟨ks,kvs,a,rfl,rfl,hg,t⟩,f⟩:=h;cases r2.ref_inv;obtain ⟨b,xs,rfl,s1,q1⟩:=r1.tup_inv;obtain rfl:=u73 q1;obtain ⟨ys,e,rp⟩:=c a _ hg;refine ⟨a,b,ys,ks,rfl,rfl,e,s1,?_⟩;have es:(valD kvs ks).isSome=(valV ys ks).isSome:=by
  rcases uh6 (k:=ks) rp with ⟨z1,z2⟩ | ⟨d',w,z1,z2,_⟩ <;> rw [z1,z2] <;> rfl
 rw [es] at t;exact f _ _ _ _ RelD.blI c (Le.refl H) t
theorem w31 {k:Nat} (hr:Room k X.A):Op3 X (compareOp .In) (xInD false):=u54 (vv3 (ub5 hr)) fun _ _ _ _ h=>uw0 h
theorem uj9 {k:Nat} (hr:Room k X.A):Op3 X (compareOp .NotIn) (xInD true):=u54 (uu2 (ub5 hr)) fun _ _ _ _ h=>uw0 h
def vm7:TE3:=fun _ G q=>∀ p,G p=none->q (.ref p) (gup G p (.dit []))
theorem uy7 {pos:Pos}:E3 X (.Dict [] [] pos) vm7:=u34 v39 fun σ H Q h=>by
 obtain ⟨σd,G,q,rs,c,t,f⟩:=h;exact fun p hp=>f (.ref p) _ (.ref p) _ (by rw [RelD]) (c.put (o:=.dit []) (Le.fresh hp) ⟨[],u14,rfl,.nil⟩) (Le.fresh hp) (t p (c.fresh hp))
def vm4 (td:TE3) (ta:TA3) (tv:TE3):TS3:=fun Dn σ G=>tv σ G fun v G1=>td σ G1 fun x G2=>ta σ G2 fun ds G3=>∃ (a:Addr) (kvs:List (List Key × D)) (ks:List Key),x=.ref a /\ ds=ks.map kD /\ ds.length<=sizeLine /\ G3 a=some (.dit kvs) /\ kvs.length < sizeLine /\ Dn.nx σ (gup G3 a (.dit (putT kvs ks v)))
theorem us9 {k:Nat} {o value:Expr} {es:List Expr} {x1:Nat} {pos pos' pt:Pos} {to tv:TE3} {ta:TA3} (hr:Room k X.A) (ho:E3 X o to) (ha:A3 X es ta) (hv:E3 X value tv)
  (hs:swapsWith value (some (.Subscript o (.Tuple es x1 pt) pos')) pos.line X.env=pure false:=by rfl):S3 X (.Assign [.Subscript o (.Tuple es x1 pt) pos'] value pos) (vm4 to ta tv) :=
 ub3 (ut3 (ub5 hr) ho (vb4 ha) hv hs) fun D σ H h=>by
  obtain ⟨σd,G,d,rs,c,t,f⟩:=h;refine ⟨σd,G,_,rs,c,t,fun v G1 w H1 r1 c1 l1 t1=>⟨σd,G1,_,rs.le l1,c1,t1,fun x G2 u H2 r2 c2 l2 t2=>⟨σd,G2,_,rs.le (l1.trans l2),c2,t2,fun ds G3 vs H3 r3 c3 l3 t3=>?_⟩⟩⟩;obtain ⟨a,kvs,ks,rfl,rfl,hz,hg,hl,t4⟩:=t3;have r2':=RelD.le l3 r2;cases r2'.ref_inv;obtain rfl:=u73 r3;refine ⟨by rw [<- r3.length];exact hz,fun b hb=>?_⟩;obtain ⟨ys,e,rp⟩:=c3 a _ hg;have hab:a ≠ b:=u22 e hb;have e':upd H3 b (.tup (ks.map kV)) a=some (.dT ys):=by rw [u12 hab];exact e
  have l4:Le H3 (upd H3 b (.tup (ks.map kV))):=Le.fresh hb;have l5:Le (upd H3 b (.tup (ks.map kV))) (upd (upd H3 b (.tup (ks.map kV))) a (.dT (putK ys ks w))):=Le.dT e';have c4:Con X.K G3 (upd H3 b (.tup (ks.map kV))):=c3.side hb;have lys:ys.length=kvs.length:=by
   have:=congrArg List.length rp.1;rw [List.length_map,List.length_map] at this;exact this.symm
  refine ⟨a,_,rfl,DPut.t e' u14 (by rw [lys];exact hl),?_⟩;refine f.nx _ _ _ _ ((((rs.le l1).le l2).le l3).le (l4.trans l5)) ?_ (l1.trans (l2.trans (l3.trans (l4.trans l5)))) t4;exact c4.put l5 ⟨_,u14,(vh4 (RelD.le (l2.trans (l3.trans l4)) r1) (rp.le l4)).le l5⟩
end
end L3
namespace L2
open PySem PySem.Spec PyProof.Rows
structure CmpIn (prog:Program) (w:World) (A:Around) (P:Nat->Value->Prop) (bt:Nat->Nat->Bool) (no:List Addr) (T:Heap->Prop):Prop where
 keep:∀ h h',T h->(∀ b o,b ∉ no->h.get? b=some o->h'.get? b=some o)->T h'
 cmp:∀ i j x y (s:Shared) (Q:Value->Shared->Prop) (E:Value->Shared->Prop),T s.heap->P i x->P j y->Q (.bool (bt i j)) s->wpAny (model prog w) A (richCompare .Lt x y) Q E s
section
variable {prog:Program} {w:World} {A:Around} {R:Result->Shared->Prop} {it:Addr} {fp wr:List Addr} {n:Nat} {P:Nat->Value->Prop} {St:Nat->Heap->Prop} {T:Heap->Prop} {bt:Nat->Nat->Bool} {S:Addr}
theorem u93:(toString "min" ++ toString ".loop" : String) = "min.loop" := by decide
theorem v46 (W:Walks prog w A.in1 it fp wr n P St) (C:CmpIn prog w A.in1 P bt (S::wr) T) (hS:S ∉ fp):∀ (m j:Nat) (s:Shared) (x:Value) (c:Nat),m+(j+1)=n->St (j+1) s.heap->T s.heap->P (argBest bt j) x ->
  s.heap.get? S=some { cls:=.type "list",dict:=none,data:=.seq #[x,x] c,slots:=#[] } ->
  (∀ y h' tk,P (argBest bt (n - 1)) y->(∀ b o,b ∉ S::wr->s.heap.get? b=some o->h'.get? b=some o)->R (.ok (.ret y)) { s with heap:=h',toks:=tk })->codeAny (model prog w) A (.builtin "min.loop" ⟨[.ref it,.none,.ref S],[]⟩) R s:=by
 have nw:S ∉ wr:=fun z=>hS (W.sub _ z)
 intro m
 induction m with
 | zero =>
  rintro j s x c hj st tt px hs hR;have ej:j+1=n:=by omega
  (refine codeAny_builtin F.entry_min_loop ?_;rw [Around.under_plainId F.plain_min_loop _])
  (show wpAny _ A.in1 (seqItems? (.ref S) >>= _) _ _ s;refine wpAny_bind (wpAny_seqItems hs rfl ?_))
  show wpAny _ A.in1 (tryCatch (pyNext (.ref it)) _ >>= _) _ _ s
  refine wpAny_bind (wpAny_tryCatch (W.done s _ _ (ej ▸ st) ?_));intro h' tk kp;have hs2:=kp S _ nw hs
  (show wpAny _ A.in1 (updateSeq S (fun _=>#[]) >>= _) _ _ _;refine wpAny_bind ?_)
  refine wpAny_updateSeq hs2 rfl ?_;refine wpAny_bind (wpAny_letGo (wpAny_pure ?_));refine hR x _ tk (by rw [<- ej];exact px) ?_;intro b o hb e;have hb1:b ≠ S:=fun z=>hb (by simp [z])
  exact (Heap.get?_update_other _ _ (Ne.symm hb1)).trans (kp b o (fun z=>hb (List.mem_cons_of_mem _ z)) e)
 | succ m ih =>
  rintro j s x c hj st tt px hs hR
  (refine codeAny_builtin F.entry_min_loop ?_;rw [Around.under_plainId F.plain_min_loop _])
  (show wpAny _ A.in1 (seqItems? (.ref S) >>= _) _ _ s;refine wpAny_bind (wpAny_seqItems hs rfl ?_))
  show wpAny _ A.in1 (tryCatch (pyNext (.ref it)) _ >>= _) _ _ s
  refine wpAny_bind (wpAny_tryCatch (W.item (j+1) s _ _ (by omega) st ?_));intro y h' tk py st' kp;have hs2:=kp S _ nw hs;have tt':T h':=C.keep _ _ tt fun b o hb e=>kp b o (fun z=>hb (List.mem_cons_of_mem _ z)) e
  show wpAny _ A.in1 (tryCatch (holding [y,y] (richCompare .Lt y x >>= _)) _ >>= _) _ _ _
  refine wpAny_bind (wpAny_tryCatch (wpAny_holding (wpAny_bind ?_)));refine C.cmp (j+1) (argBest bt j) y x _ _ _ tt' py px ?_
  (refine wpAny_bind (wpAny_holding (wpAny_truthy_bool ?_));refine wpAny_bind (wpAny_letGo (wpAny_pure ?_)))
  cases hb:bt (j+1) (argBest bt j) with
  | false =>
   (simp only [Bool.false_eq_true,if_false];refine wpAny_bind (wpAny_letGo ?_))
   rw [u93];refine wpAny_pure ⟨plainId_quiet F.plain_min_loop _,?_⟩;refine ih (j+1) _ x c (by omega) st' tt' (by simp only [argBest,hb,Bool.false_eq_true,if_false];exact px) hs2 ?_;intro z h2 tk2 pz kp2;exact hR z h2 tk2 pz fun b o hb e=>kp2 b o hb (kp b o (fun q=>hb (List.mem_cons_of_mem _ q)) e)
  | true =>
   simp only [if_true];refine wpAny_bind ?_;refine wpAny_updateSeq hs2 rfl ?_;refine wpAny_bind (wpAny_letGo ?_);rw [u93];have oth:∀ (f:Obj->Obj) b o,b ≠ S->h'.get? b=some o->(h'.update S f).get? b=some o:=fun f b o hb e=>(Heap.get?_update_other _ _ (Ne.symm hb)).trans e
   refine wpAny_pure ⟨plainId_quiet F.plain_min_loop _,?_⟩;refine ih (j+1) _ y _ (by omega) (W.frame _ _ _ st' fun b hbf o e=>oth _ b o (fun z=>hS (z ▸ hbf)) e) (C.keep _ _ tt' fun b o hb e=>oth _ b o (fun z=>hb (by simp [z])) e) (by simp only [argBest,hb,if_true];exact py) (Heap.get?_update_self _ hs2 rfl) ?_;intro z h2 tk2 pz kp2;exact hR z h2 tk2 pz fun b o hb e=>kp2 b o hb (oth _ b o (fun q=>hb (by simp [q])) (kp b o (fun q=>hb (List.mem_cons_of_mem _ q)) e))
theorem uv1 (W:Walks prog w A.in1 it fp wr n P St) (C:CmpIn prog w A.in1 P bt (S::wr) T) (hS:S ∉ fp) (hn:0 < n) {s:Shared} {c:Nat} (st:St 0 s.heap) (tt:T s.heap) (hs:s.heap.get? S=some { cls:=.type "list",dict:=none,data:=.seq #[] c,slots:=#[] })
  (hR:∀ y h' tk,P (argBest bt (n - 1)) y->(∀ b o,b ∉ S::wr->s.heap.get? b=some o->h'.get? b=some o)->R (.ok (.ret y)) { s with heap:=h',toks:=tk }):codeAny (model prog w) A (.builtin "min.loop" ⟨[.ref it,.none,.ref S],[]⟩) R s:=by
 have nw:S ∉ wr:=fun z=>hS (W.sub _ z)
 (refine codeAny_builtin F.entry_min_loop ?_;rw [Around.under_plainId F.plain_min_loop _])
 (show wpAny _ A.in1 (seqItems? (.ref S) >>= _) _ _ s;refine wpAny_bind (wpAny_seqItems hs rfl ?_))
 show wpAny _ A.in1 (tryCatch (pyNext (.ref it)) _ >>= _) _ _ s
 refine wpAny_bind (wpAny_tryCatch (W.item 0 s _ _ hn st ?_));intro y h' tk py st' kp;have hs2:=kp S _ nw hs;have tt':T h':=C.keep _ _ tt fun b o hb e=>kp b o (fun z=>hb (List.mem_cons_of_mem _ z)) e
 have oth:∀ (f:Obj->Obj) b o,b ≠ S->h'.get? b=some o->(h'.update S f).get? b=some o:=fun f b o hb e=>(Heap.get?_update_other _ _ (Ne.symm hb)).trans e
 show wpAny _ A.in1 (updateSeq S (fun _=>#[y,y]) >>= _) _ _ _
 refine wpAny_bind ?_;refine wpAny_updateSeq hs2 rfl ?_;rw [u93];refine wpAny_pure ⟨plainId_quiet F.plain_min_loop _,?_⟩;refine v46 W C hS (n - 1) 0 _ y _ (by omega) (W.frame _ _ _ st' fun b hbf o e=>oth _ b o (fun z=>hS (z ▸ hbf)) e) (C.keep _ _ tt' fun b o hb e=>oth _ b o (fun z=>hb (by simp [z])) e) py (Heap.get?_update_self _ hs2 rfl) ?_;intro z h2 tk2 pz kp2;exact hR z h2 tk2 pz fun b o hb e=>kp2 b o hb (oth _ b o (fun q=>hb (by simp [q])) (kp b o (fun q=>hb (List.mem_cons_of_mem _ q)) e))
end
theorem ui8:∀ a:List Int,HT.lexLt a a=false
 | []=>rfl
 | x::a=>by rw [HT.lexLt_cons,if_pos rfl];exact ui8 a
theorem vc2:∀ {a b c:List Int},HT.lexLt a b=true->HT.lexLt b c=true->HT.lexLt a c=true
 | [],[],_,h,_=>by rw [HT.lexLt_nil_nil] at h;cases h
 | [],y::b,[],_,h=>by rw [HT.lexLt_cons_nil] at h;cases h
 | [],y::b,z::c,_,_=>rfl
 | x::a,[],_,h,_=>by rw [HT.lexLt_cons_nil] at h;cases h
 | x::a,y::b,[],_,h=>by rw [HT.lexLt_cons_nil] at h;cases h
 | x::a,y::b,z::c,h1,h2=>by
  rw [HT.lexLt_cons] at h1 h2 ⊢;split at h1
  ·rename_i e
   subst e;split at h2
   ·rename_i e
    subst e;rw [if_pos rfl];exact vc2 h1 h2
   ·rename_i e
    rw [if_neg e];exact h2
  ·rename_i e
   split at h2
   ·rename_i e2
    subst e2;rw [if_neg e];exact h1
   ·have a1:=of_decide_eq_true h1
    have a2:=of_decide_eq_true h2;rw [if_neg (by omega)];exact decide_eq_true (by omega)
theorem uo3 (f:Nat->List Int):∀ k,argBest (fun i j=>HT.lexLt (f i) (f j)) k<=k /\ ∀ j,j<=k->HT.lexLt (f j) (f (argBest (fun i j=>HT.lexLt (f i) (f j)) k))=false
  | 0=>⟨Nat.le_refl _,fun j hj=>by (have :j=0:=by omega);subst this;exact ui8 _⟩
  | k+1=>by
    obtain ⟨i1,i2⟩:=uo3 f k;rw [argBest];split
    · rename_i h
      refine ⟨Nat.le_refl _,fun j hj=>?_⟩
      by_cases e:j=k+1
      · subst e;exact ui8 _
      · cases q:HT.lexLt (f j) (f (k+1)) with
        | false=>rfl
        | true =>
          have:=vc2 q h;rw [i2 j (by omega)] at this;cases this
    · rename_i h
      refine ⟨by omega,fun j hj=>?_⟩
      by_cases e:j=k+1
      · subst e;simpa using h
      · exact i2 j (by omega)
section
variable {X:Cx}
theorem v03 (hc:X.calm=true) (hu:X.A.units+1 < cLine):CallR X (.builtin "min") (fun xs H Q=>∃ (p:Addr) (tp:List (Addr × List Int)),xs=[.ref p] /\ SqL X.K H p (tp.map fun t=>V.ref t.1) /\ (∀ t ∈ tp,SqT X.K H t.1 (t.2.map V.int)) /\ 0 < tp.length /\
  ∀ t ∈ tp,(∀ u ∈ tp,HT.lexLt u.2 t.2=false)->Q (.ref t.1) H):=by
 intro pins s σ H xs us Q I r h;obtain ⟨p,tp,rfl,hq,ht,hne,q⟩:=h;obtain ⟨u,rfl,rx⟩:=vals1 r;cases rx;obtain ⟨its,r',pl,hz⟩:=I.list hq;have hlen:=r'.length;rw [List.length_map] at hlen;have hit:∀ i x,its[i]?=some x->∃ t ∈ tp,tp[i]?=some t /\ x=Value.ref t.1:=fun i x e=>by
  have hi:i < its.length:=(List.getElem?_eq_some_iff.mp e).1;have e1:(tp.map fun t=>V.ref t.1)[i]?=some (V.ref (tp[i]'(by omega)).1):=by rw [List.getElem?_map,List.getElem?_eq_getElem (by omega)];rfl
  obtain ⟨y,ey,ry⟩:=r'.get e1;rw [e] at ey;cases ey;exact ⟨tp[i]'(by omega),List.getElem_mem _,List.getElem?_eq_getElem _,ry⟩
 have hlp:p < s.heap.objs.size:=by obtain ⟨o,e,_⟩:=pl.isList;exact Heap.lt_size e
 (refine call_function_tree F.kind_min F.plain_min F.entry_min (F.args_min1 _) ?_;show wpAny _ X.A.in1 (Builtin.Builtins.bindParams "min" ["key", "default"] 0 ⟨[],[]⟩ >>= _) _ _ s)
 (refine wpAny_bind (wpAny_of_eq (show Builtin.Builtins.bindParams "min" ["key", "default"] 0 ⟨[],[]⟩=pure [none,none] from rfl) ?_);refine wpAny_bind (wpAny_pure ?_))
 refine wpAny_bind (wpAny_pyIter_list pl.isList ?_)
 (refine wpAny_bind (wpAny_newObj_type ?_);rw [u93])
 obtain ⟨f,hf⟩:∃ f:Nat->List Int,f=fun i=>((tp[i]?).map (·.2)).getD []:=⟨_,rfl⟩
 have tkeep:∀ {h':Heap},(∀ b o,s.heap.get? b=some o->h'.get? b=some o)->∀ t ∈ tp,∃ vs:List Value,IsTup h' t.1 vs.toArray /\ IntsAre vs t.2:=fun {h'} kp t htm=>by
  obtain ⟨vs,rv,⟨o,e,c,n,d⟩,_⟩:=I.tuple (ht t htm);exact ⟨vs,⟨o,kp _ _ e,c,n,d⟩,intsAre_of rv⟩
 have tlt:∀ t ∈ tp,t.1 < s.heap.objs.size:=fun t htm=>by
  obtain ⟨vs,rv,⟨o,e,c,n,d⟩,_⟩:=I.tuple (ht t htm);exact Heap.lt_size e
 have hh:X.A.handled=none:=I.ok.hd hc;have W:=Walks.list (prog:=X.prog) (w:=X.w) (A:=X.A.in1) hh s.heap.objs.size p (Nat.ne_of_lt hlp) its.toArray;have s1:(s.heap.push { cls:=Value.type "list_iterator",data:=Data.fields #[Value.ref p,Value.int 0 0] }).objs.size=s.heap.objs.size+1:=Heap.size_push _ _;have pat:∀ i x,its.toArray[i]?=some x->∃ t ∈ tp,x=Value.ref t.1 /\ f i=t.2:=fun i x e=>by
  rw [List.getElem?_toArray] at e;obtain ⟨t,htm,e1,e2⟩:=hit i x e;exact ⟨t,htm,e2,by rw [hf];show ((tp[i]?).map (·.2)).getD []=_;rw [e1];rfl⟩
 have C:CmpIn X.prog X.w X.A.in1 (fun i v=>its.toArray[i]?=some v) (fun i j=>HT.lexLt (f i) (f j)) [s.heap.objs.size+1,s.heap.objs.size] (fun h'=>∀ t ∈ tp,∃ vs:List Value,IsTup h' t.1 vs.toArray /\ IntsAre vs t.2):=by
  refine ⟨fun h1 h2 tt kp t htm=>?_,fun i j x y s' Q' E' tt px py q'=>?_⟩
  ·obtain ⟨vs,⟨o,e,c,n,d⟩,iv⟩:=tt t htm
   have:=tlt t htm;exact ⟨vs,⟨o,kp _ _ (fun z=>by
    rcases List.mem_cons.mp z with z | z
    ·exact Nat.ne_of_lt (Nat.lt_succ_of_lt this) z
    ·exact Nat.ne_of_lt this (by simpa using z)) e,c,n,d⟩,iv⟩
  ·obtain ⟨t1,m1,rfl,f1⟩:=pat i x px
   obtain ⟨t2,m2,rfl,f2⟩:=pat j y py;obtain ⟨vs1,p1,i1⟩:=tt t1 m1;obtain ⟨vs2,p2,i2⟩:=tt t2 m2
   show wpAny _ X.A.in1 (compareOp .Lt (.ref t1.1) (.ref t2.1)) Q' E' s'
   refine HT.lt_tupInts p1 p2 (by simpa using i1) (by simpa using i2) (show X.A.units+1 < cLine from hu) ?_;have q':Q' (.bool (HT.lexLt (f i) (f j))) s':=q';rw [f1,f2] at q';exact q'
 refine wpAny_pure ⟨plainId_quiet F.plain_min_loop _,?_⟩;have nS:(s.heap.push { cls:=Value.type "list_iterator",data:=Data.fields #[Value.ref p,Value.int 0 0] }).objs.size ∉ [s.heap.objs.size,p]:=fun z=>by
  rw [s1] at z
  rcases List.mem_cons.mp z with z | z
  ·exact Nat.succ_ne_self _ z
  ·have z:s.heap.objs.size+1=p:=by simpa using z
   exact Nat.ne_of_lt (Nat.lt_succ_of_lt hlp) z.symm
 have kp0:∀ b o,s.heap.get? b=some o->((s.heap.push { cls:=Value.type "list_iterator",data:=Data.fields #[Value.ref p,Value.int 0 0] }).push { cls:=Value.type "list",data:=Data.seq #[] }).get? b=some o:=fun b o e=>Heap.get?_push_of_some _ (Heap.get?_push_of_some _ e)
 refine uv1 (n:=its.toArray.size) W (by rw [s1];exact C) nS (by simp;omega) ?_ (tkeep kp0) (Heap.get?_push_size _ rfl) ?_
 ·exact W.frame 0 _ _ ⟨⟨_,Heap.get?_push_size _ rfl,rfl,rfl⟩,pl.isList.push _⟩ fun b _ o e=>Heap.get?_push_of_some _ e
 ·intro y h' tk py kp
  obtain ⟨t,htm,rfl,ft⟩:=pat _ y py;have kp1:∀ b o,s.heap.get? b=some o->h'.get? b=some o:=fun b o e=>kp b o (fun z=>by
   rw [s1] at z;have:=Heap.lt_size e
   rcases List.mem_cons.mp z with z | z
   ·exact Nat.ne_of_lt (Nat.lt_succ_of_lt this) z
   ·exact Nat.ne_of_lt this (by simpa using z)) (kp0 b o e)
  refine ⟨.ref t.1,H,I.kept kp1,rfl,q t htm fun u hum=>?_⟩;obtain ⟨j,hj,ej⟩:=List.mem_iff_getElem.mp hum;have fj:f j=u.2:=by rw [hf];show ((tp[j]?).map (·.2)).getD []=_;rw [List.getElem?_eq_getElem hj,ej];rfl
  have:=(uo3 f (its.toArray.size - 1)).2 j (by simp;omega);rw [ft,fj] at this;exact this
end
end L2
namespace L3
open PySem PySem.Spec PyProof.Rows L2
section
variable {X:Cx} {K:PySem.W.Frag}
@[reducible] def w33:C3:=fun ds G q=>∃ (a:Addr) (ts:List (List Int)),ds=[.ref a] /\ u10 (G a)=some (ts.map fun t=>.tup (t.map .int)) /\ 0 < ts.length /\ ∀ t ∈ ts,(∀ u ∈ ts,HT.lexLt u t=false)->q (.tup (t.map .int)) G
theorem um7 {H:Hp}:∀ {ns:List Int} {xs:List V},RelDs K H (ns.map D.int) xs->xs=ns.map V.int
 | [],xs,r=>r.inv_nil
 | n::ns,xs,r=>by
  obtain ⟨x,xs',rfl,h1,h2⟩:=r.inv_cons;rw [h1.int_inv,um7 h2];rfl
theorem ul2 {H:Hp}:∀ ns:List Int,RelDs K H (ns.map D.int) (ns.map V.int)
 | []=>.nil
 | _::ns=>.cons RelD.intI (ul2 ns)
theorem uk4 {H:Hp}:∀ {ts:List (List Int)} {xs:List V},RelDs K H (ts.map fun t=>D.tup (t.map .int)) xs->∃ tp:List (Addr × List Int),tp.map (·.2)=ts /\ xs=tp.map (fun t=>V.ref t.1) /\ ∀ t ∈ tp,SqT K H t.1 (t.2.map V.int)
 | [],xs,r=>⟨[],rfl,r.inv_nil,fun t h=>by simp at h⟩
 | t::ts,xs,r=>by
  obtain ⟨x,xs',rfl,h1,h2⟩:=r.inv_cons;obtain ⟨a,ys,rfl,s1,q1⟩:=h1.tup_inv;obtain rfl:=um7 q1;obtain ⟨tp,e1,rfl,e3⟩:=uk4 h2;refine ⟨(a,t)::tp,by rw [List.map_cons,e1],rfl,fun u hu=>?_⟩
  rcases List.mem_cons.mp hu with e | hu
  ·subst e;exact s1
  ·exact e3 u hu
theorem v90 {k:Nat} (hr:Room k X.A) (hc:X.calm=true:=by rfl):Call3 X (.builtin "min") w33:=u39 (v03 hc (ub5 hr)) <| by
 rintro xs H Q ⟨ds,G,q,r,c,t,f⟩;obtain ⟨a,ts,rfl,hs,hl,t⟩:=t;obtain ⟨v,rfl,r1⟩:=r.one;cases r1.ref_inv;obtain ⟨ys,s1,q1⟩:=u23 c hs;obtain ⟨tp,e1,rfl,e3⟩:=uk4 q1;refine ⟨a,tp,rfl,s1,e3,by rw [<- e1,List.length_map] at hl;exact hl,fun u hu hm=>?_⟩;have hu':u.2 ∈ ts:=by rw [<- e1];exact List.mem_map.mpr ⟨u,hu,rfl⟩
 refine f (.tup (u.2.map .int)) G (.ref u.1) H ?_ c (Le.refl H) (t u.2 hu' fun w hw=>?_)
 ·rw [RelD]
  exact ⟨u.1,_,rfl,e3 u hu,ul2 u.2⟩
 ·rw [<- e1] at hw
  obtain ⟨z,hz,rfl⟩:=List.mem_map.mp hw;exact hm z hz
end
end L3
namespace L2
open PySem PySem.Spec PyProof.Rows
def uk5 (ta:TA):TE:=fun σ H Q=>ta σ H fun vs H1=>∃ i j:Int,vs=[.int i,.int j] /\ (-1000000<=i /\ i<=1000000 /\ -1000000<=j /\ j<=1000000) /\ ∀ l,H1 l=none->Q (.ref l) (upd H1 l (.lst ((List.range (j - i).toNat).map fun k:Nat=>V.int (i+k))))
theorem v83:bootBuiltins "list" = some (.type "list"):=by decide
theorem up0 {X:Cx} {a b:Expr} {ta:TA} {p p2 pos pos2:Pos} {k:Nat} (hr:Room k X.A) (hg:Gl X "range") (hm:X.mg "range" = none) (hg2:Gl X "list") (hm2:X.mg "list" = none) (ha:PA X [a,b] ta)
  (hs:starEach [a,b] X.env=[(false,eval a X.env),(false,eval b X.env)]:=by rfl) (hs1:starEach [b] X.env=[(false,eval b X.env)]:=by rfl)
  (hs2:starEach [.Call (.Name "range" p) [a,b] [] pos] X.env=[(false,eval (.Call (.Name "range" p) [a,b] [] pos) X.env)]:=by rfl) :
  PE X (.Call (.Name "list" p2) [.Call (.Name "range" p) [a,b] [] pos] [] pos2) (uk5 ta):=by
 intro pins s σ H Q I h;refine wpAny_Call_Name_kw (u86 I hg2 hm2 v83 ?_);refine PyProof.Rows.callWith_type1 ?_ hs2 rfl;rw [hs2]
 show wpAny _ _ (spliced ((false,eval (.Call (.Name "range" p) [a,b] [] pos) X.env)::backTo pos2 [])) _ _ s
 refine Calls.spliced_cons ?_;refine wpAny_Call_Name_kw (u86 I hg hm boot_range (PyProof.Rows.callWith_type1 (thn (ha pos pins s σ H _ I h) fun us s1 ⟨vs,H1,I1,r1,q1⟩=>?_) (by rw [hs,hs1]) (by rw [hs1];rfl)));obtain ⟨i,j,e,⟨b1,b2,b3,b4⟩,q⟩:=q1;subst e;cases r1 with
 | cons r rr =>
  cases rr with
  | cons r2 rr =>
   cases rr;obtain ⟨t,rfl⟩:=r;obtain ⟨t2,rfl⟩:=r2;refine call_range_2 ?_;refine Calls.spliced_nil ?_;have hn:Builtin.Range.rangeSize i j 1=(((j - i).toNat:Nat):Int):=by rw [rangeSize_one];split <;> omega
   refine call_list_range (hh:=hr.hd) (IsRange.new ..) (small_one (by omega) (by omega) (by omega) (by omega)) hn (by omega) fun h' tk acc c kp hnew hit=>?_
   have kp':∀ b o,s1.heap.get? b=some o->h'.get? b=some o:=fun b o e=>kp b o (Heap.get?_push_of_some _ e)
   have hv:Vals ((List.range (j - i).toNat).map fun k:Nat=>V.int (i+k)) acc.toList:=by
    have hz:acc.size=(j - i).toNat:=hit.1;have key:∀ (m:Nat) (l:List Value),(∀ (y:Nat) v,l[y]?=some v->∃ t,v=.int (i+(y:Int)) t)->l.length=m->Vals ((List.range m).map fun k:Nat=>V.int (i+k)) l:=by
     intro m
     induction m with
     | zero=>intro l _ hl;have:l=[]:=List.eq_nil_of_length_eq_zero hl;subst this;exact .nil
     | succ m ih =>
      intro l hl hz
      rcases List.eq_nil_or_concat l with e | ⟨l',v,e⟩
      ·subst e;simp at hz
      ·rw [List.concat_eq_append] at e
       subst e;have hz':l'.length=m:=by simpa using hz
       rw [List.range_succ,List.map_append];refine (ih l' (fun y v e=>hl y v ?_) hz').append (.cons ?_ .nil)
       ·rw [List.getElem?_append_left (List.getElem?_eq_some_iff.mp e).1];exact e
       ·obtain ⟨t,e⟩:=hl m v (by rw [<- hz'];simp)
        exact ⟨t,e⟩
    refine key _ acc.toList (fun y v e=>?_) (by simpa using hz);obtain ⟨t,e⟩:=hit.2 y v (by simpa using e);exact ⟨t,by rw [e,Int.mul_one]⟩
   have hll:((List.range (j - i).toNat).map fun k:Nat=>V.int (i+k)).length<=sizeLine:=by
    rw [List.length_map,List.length_range];exact Nat.le_of_lt (Nat.lt_of_le_of_lt (m:=3000000) (by omega) (by decide))
   have I2:=I1.laid (h':=h') (a:=s1.heap.objs.size+1) (o:=.lst ((List.range (j - i).toNat).map fun k:Nat=>V.int (i+k))) (t':=tk) kp' (Nat.le_succ _) ⟨hll,acc.toList,c,hv,by simpa using hnew⟩;exact ⟨_,_,I2,by simp;rfl,q _ (I1.hok.fresh (Nat.le_succ _))⟩
end L2
namespace L3
open PySem PySem.Spec PyProof.Rows L2
def u94 (t:TA3):TE3:=fun σ G q=>t σ G fun ds G1=>match ds with
 | [.int i,.int j]=>(-1000000<=i /\ i<=1000000 /\ -1000000<=j /\ j<=1000000) /\ ∀ p,G1 p=none->q (.ref p) (gup G1 p (.lst (rngD i (j - i).toNat)))
 | _=>False
theorem ut0 {K:PySem.W.Frag} {H:Hp} {i:Int}:∀ l:List Nat,RelDs K H (l.map fun k:Nat=>D.int (i+k)) (l.map fun k:Nat=>V.int (i+k))
 | []=>.nil
 | _::l=>.cons RelD.intI (ut0 l)
theorem ui4 {K:PySem.W.Frag} {t:TA3} {σ:L2.St} {H:Hp} {Q:VK} (h:lowE K (u94 t) σ H Q):uk5 (lowA K t) σ H Q:=by
 obtain ⟨σd,G,q,rs,c,t,f⟩:=h;refine ⟨σd,G,_,rs,c,t,fun ds G1 vs H1 r1 c1 l1 t1=>?_⟩;split at t1
 ·rename_i i j
  obtain ⟨x,y,rfl,x1,x2⟩:=r1.two;cases x1.int_inv;cases x2.int_inv;exact ⟨i,j,rfl,t1.1,fun p hp=>f _ _ _ _ RelD.refI (c1.lstNew hp (ut0 _)) (l1.trans (Le.fresh hp)) (t1.2 p (c1.fresh hp))⟩
 ·exact t1.elim
theorem ug4 {X:Cx} {a b:Expr} {ts:TA3} {p p2 pos pos2:Pos} {k:Nat} (hr:Room k X.A) (hg:Gl X "range") (hm:X.mg "range" = none) (hg2:Gl X "list") (hm2:X.mg "list" = none) (ha:A3 X [a,b] ts)
  (hs:starEach [a,b] X.env=[(false,eval a X.env),(false,eval b X.env)]:=by rfl) (hs1:starEach [b] X.env=[(false,eval b X.env)]:=by rfl)
  (hs2:starEach [.Call (.Name "range" p) [a,b] [] pos] X.env=[(false,eval (.Call (.Name "range" p) [a,b] [] pos) X.env)]:=by rfl) :
  E3 X (.Call (.Name "list" p2) [.Call (.Name "range" p) [a,b] [] pos] [] pos2) (u94 ts):=u34 (up0 hr hg hm hg2 hm2 ha hs hs1 hs2) fun _ _ _=>ui4
end L3
namespace L3
open PySem PySem.Spec PyProof.Rows L2 Rw
def k3 (p b e:Nat):List Key:=[.inl (p:Int),.inl (b:Int),.inl (e:Int)]
def k2 (p b:Nat):List Key:=[.inl (p:Int),.inl (b:Int)]
theorem ux3 {p b e p' b' e':Nat} (h:k3 p b e=k3 p' b' e'):p=p' /\ b=b' /\ e=e':=by
 unfold k3 at h;simp at h;omega
theorem um6 {p b p' b':Nat} (h:k2 p b=k2 p' b'):p=p' /\ b=b':=by
 unfold k2 at h;simp at h;omega
theorem v68 {kvs:List (List Key × D)} {k k':List Key} {v:D} (hn:(kvs.any fun kv=>decide (kv.1=k))=false):valD (kvs++[(k,v)]) k'=if k'=k then some v else valD kvs k':=by
 induction kvs with
 | nil =>
  by_cases h:k'=k
  ·subst h;simp [valD]
  ·rw [if_neg h]
   have:¬ k=k':=fun z=>h z.symm
   simp [valD,this]
 | cons q r ih =>
  rw [List.any_cons,Bool.or_eq_false_iff] at hn;have hq:¬ q.1=k:=of_decide_eq_false hn.1;have ih:=ih hn.2
  by_cases h1:q.1=k'
  ·have h2:¬ k'=k:=fun z=>hq (h1.trans z)
   rw [if_neg h2];simp [valD,List.find?_cons,h1]
  ·have e1:valD (q::r++[(k,v)]) k'=valD (r++[(k,v)]) k':=by simp [valD,List.find?_cons,h1]
   have e2:valD (q::r) k'=valD r k':=by simp [valD,List.find?_cons,h1]
   rw [e1,e2,ih]
theorem uf0 {kvs:List (List Key × D)} {k:List Key} (h:valD kvs k=none):(kvs.any fun kv=>decide (kv.1=k))=false:=by
 unfold valD at h;rw [Option.map_eq_none_iff] at h;rw [List.any_eq_false];intro x hx;have:=List.find?_eq_none.mp h x hx;simpa using this
theorem u66 {kvs:List (List Key × D)} {k k':List Key} {v:D} (h:valD kvs k=none):valD (putT kvs k v) k'=if k'=k then some v else valD kvs k':=by
 have hn:=uf0 h;unfold putT;rw [if_neg (by rw [hn];decide)];exact v68 hn
theorem uw8 {kvs:List (List Key × D)} {k:List Key} {v:D} (h:valD kvs k=none):(putT kvs k v).length=kvs.length+1:=by
 have hn:=uf0 h;unfold putT;rw [if_neg (by rw [hn];decide)];simp
def mA (p b e m:Nat):Prop:=if e - b=1 then m=e else 2<=p /\ b < m /\ m < e /\ m - b<=cap (p - 1) true /\ e - m<=cap (p - 1) true
def mR (n p b m:Nat):Prop:=if n - b=1 then m=n else 2<=p /\ b < m /\ m < n /\ m - b<=cap p true /\ n - m<=cap (p - 1) false
def vD (w:Int) (m:Nat):D:=.tup [.int w,.int (m:Int)]
def TA (Dm:Nat->Nat->Nat->Prop) (kvs:List (List Key × D)):Prop:=∀ p b e,(Dm p b e->∃ w m,valD kvs (k3 p b e)=some (vD w m) /\ mA p b e m) /\ (¬ Dm p b e->valD kvs (k3 p b e)=none)
def TR (n:Nat) (Dm:Nat->Nat->Prop) (kvs:List (List Key × D)):Prop:=∀ p b,(Dm p b->∃ w m,valD kvs (k2 p b)=some (vD w m) /\ mR n p b m) /\ (¬ Dm p b->valD kvs (k2 p b)=none)
def inA (n s p b e:Nat):Prop:=1<=p /\ p<=s /\ b < e /\ e<=n /\ e - b<=cap p true
def inR (n s p b:Nat):Prop:=1<=p /\ p<=s /\ b < n /\ n - b<=cap p false
def upA (n P M B p b e:Nat):Prop:=inA n P p b e /\ (p < P \/ e - b < M \/ (e - b=M /\ b < B))
def upR (n P M p b:Nat):Prop:=inR n P p b /\ (p < P \/ n - b < M)
theorem TA.congr {D1 D2:Nat->Nat->Nat->Prop} {kvs:List (List Key × D)} (h:TA D1 kvs) (e:∀ p b e,D1 p b e ↔ D2 p b e):TA D2 kvs:=fun p b e'=>⟨fun z=>(h p b e').1 ((e p b e').mpr z),fun z=>(h p b e').2 fun q=>z ((e p b e').mp q)⟩
theorem TR.congr {n:Nat} {D1 D2:Nat->Nat->Prop} {kvs:List (List Key × D)} (h:TR n D1 kvs) (e:∀ p b,D1 p b ↔ D2 p b):TR n D2 kvs:=fun p b=>⟨fun z=>(h p b).1 ((e p b).mpr z),fun z=>(h p b).2 fun q=>z ((e p b).mp q)⟩
theorem TA.put {Dm:Nat->Nat->Nat->Prop} {kvs:List (List Key × D)} {p b e m:Nat} {w:Int} (h:TA Dm kvs) (hn:¬ Dm p b e) (hm:mA p b e m):TA (fun p' b' e'=>Dm p' b' e' \/ (p'=p /\ b'=b /\ e'=e)) (putT kvs (k3 p b e) (vD w m)):=by
 intro p' b' e';rw [u66 ((h p b e).2 hn)]
 by_cases hk:k3 p' b' e'=k3 p b e
 ·obtain ⟨rfl,rfl,rfl⟩:=ux3 hk
  rw [if_pos rfl];exact ⟨fun _=>⟨w,m,rfl,hm⟩,fun z=>absurd (.inr ⟨rfl,rfl,rfl⟩) z⟩
 ·rw [if_neg hk]
  refine ⟨fun z=>(h p' b' e').1 (z.resolve_right fun q=>hk ?_),fun z=>(h p' b' e').2 fun q=>z (.inl q)⟩;obtain ⟨rfl,rfl,rfl⟩:=q;rfl
theorem TR.put {n:Nat} {Dm:Nat->Nat->Prop} {kvs:List (List Key × D)} {p b m:Nat} {w:Int} (h:TR n Dm kvs) (hn:¬ Dm p b) (hm:mR n p b m):TR n (fun p' b'=>Dm p' b' \/ (p'=p /\ b'=b)) (putT kvs (k2 p b) (vD w m)):=by
 intro p' b';rw [u66 ((h p b).2 hn)]
 by_cases hk:k2 p' b'=k2 p b
 ·obtain ⟨rfl,rfl⟩:=um6 hk
  rw [if_pos rfl];exact ⟨fun _=>⟨w,m,rfl,hm⟩,fun z=>absurd (.inr ⟨rfl,rfl⟩) z⟩
 ·rw [if_neg hk]
  refine ⟨fun z=>(h p' b').1 (z.resolve_right fun q=>hk ?_),fun z=>(h p' b').2 fun q=>z (.inl q)⟩;obtain ⟨rfl,rfl⟩:=q;rfl
theorem ub1 {p:Nat} (h:2<=p):cap p true=2 * cap (p - 1) true /\ cap p false=cap p true+cap (p - 1) false:=by
 obtain ⟨q,rfl⟩:∃ q,p=q+2:=⟨p - 2,by omega⟩;have:=Nat.two_pow_pos q
 show 2 ^ (q+1)=2 * 2 ^ q /\ 2 ^ (q+2) - 1=2 ^ (q+1)+(2 ^ (q+1) - 1)
 rw [Nat.pow_succ,Nat.pow_succ,Nat.pow_succ];omega
theorem v02 {b:Bool}:cap 1 b=1:=by cases b <;> rfl
theorem ut4 {a c:Nat} (ha:1<=a) (hc:1<=c):2 * 2 ^ a+2 ^ c<=2 ^ (a+c)+2:=by
 obtain ⟨x,rfl⟩:∃ x,a=x+1:=⟨a - 1,by omega⟩;obtain ⟨y,rfl⟩:∃ y,c=y+1:=⟨c - 1,by omega⟩;have e:2 ^ (x+1+(y+1))=4 * (2 ^ x * 2 ^ y):=by
  rw [show x+1+(y+1)=(x+y)+1+1 by omega,Nat.pow_succ,Nat.pow_succ,Nat.pow_add];omega
 rw [e,Nat.pow_succ,Nat.pow_succ];have h1:=Nat.two_pow_pos x;have h2:=Nat.two_pow_pos y;obtain ⟨u,hu⟩:∃ u,2 ^ x=u+1:=⟨2 ^ x - 1,by omega⟩;obtain ⟨v,hv⟩:∃ v,2 ^ y=v+1:=⟨2 ^ y - 1,by omega⟩;have e3:(u+1) * (v+1)=u * v+u+v+1:=by rw [Nat.add_mul,Nat.mul_add];omega
 rw [hu,hv,e3];omega
theorem v21 {n P M B p b e:Nat}:upA n P M (B+1) p b e ↔ upA n P M B p b e \/ (p=P /\ b=B /\ e=B+M /\ inA n P P B (B+M)):=by
 unfold upA inA
 constructor
 ·rintro ⟨h1,h2⟩
  by_cases h:p < P \/ e - b < M \/ (e - b=M /\ b < B)
  ·exact .inl ⟨h1,h⟩
  ·right
   have e1:p=P:=by omega
   have e2:b=B:=by omega
   have e3:e=B+M:=by omega
   subst e1;subst e2;subst e3;exact ⟨rfl,rfl,rfl,h1⟩
 ·rintro (⟨h1,h2⟩ | ⟨rfl,rfl,rfl,h⟩)
  ·exact ⟨h1,by omega⟩
  ·refine ⟨h,?_⟩
   have:b+M - b=M:=by omega
   omega
theorem uv3 {b e x y:Nat} (h1:b+2<=e) (h2:e<=b+(x+y)) (hx:1<=x) (hy:1<=y):∃ L C:Nat,(if (e:Int) - (y:Int) > (b:Int)+1 then (e:Int) - (y:Int) else (b:Int)+1)=(L:Int) /\ ((if (b:Int)+(x:Int) < (e:Int) - 1 then (b:Int)+(x:Int) else (e:Int) - 1)+1 - (L:Int)).toNat=C+1 /\
  (∀ m,L<=m->m < L+(C+1)->b < m /\ m < e /\ m - b<=x /\ e - m<=y) /\ L<=e /\ (if (b:Int)+(x:Int) < (e:Int) - 1 then (b:Int)+(x:Int) else (e:Int) - 1)<=(e:Int) /\ 0<=(if (b:Int)+(x:Int) < (e:Int) - 1 then (b:Int)+(x:Int) else (e:Int) - 1):=by
 refine ⟨max (b+1) (e - y),min (e - 1) (b+x) - max (b+1) (e - y),?_,?_,fun m h3 h4=>?_,?_,?_,?_⟩
 ·split <;> omega
 ·split <;> omega
 ·omega
 ·omega
 ·split <;> omega
 ·split <;> omega
theorem u77 {G:Gp} {a b:Addr} {xs ys:List D} {q:DK} (h1:G a=some (.lst xs)) (h2:G b=some (.lst ys)) (hl:xs.length+ys.length<=sizeLine) (k:∀ p,G p=none->q (.ref p) (gup G p (.lst (xs++ys)))):xAdd (.ref a) (.ref b) G q:=by
 show (match G a,G b with
  | some (.lst xs),some (.lst ys)=>xs.length+ys.length<=sizeLine /\ ∀ p,G p=none->q (.ref p) (gup G p (.lst (xs++ys)))
  | _,_=>False)
 rw [h1,h2];exact ⟨hl,k⟩
inductive Pa (c:Nat->Int):Nat->Nat->Nat->Int->Prop
 | one {p b:Nat}:Pa c (p+1) b (b+1) (c b)
 | two {p b m e:Nat} {w1 w2 w3:Int}:Pa c (p+1) b m w1->Pa c p m e w2->Pa c p b m w3->Pa c (p+1) b e (w1+w2+w3)
inductive Pr (c:Nat->Int) (n:Nat):Nat->Nat->Int->Prop
 | one {p b:Nat}:b+1=n->Pr c n (p+1) b (c b)
 | two {p b m:Nat} {w1 w2:Int}:Pa c (p+1) b m w1->Pr c n p m w2->Pr c n (p+1) b (w1+w2)
variable {c c':Nat->Int} {n p b e:Nat} {w:Int}
theorem Pa.lt (h:Pa c p b e w):b < e /\ 1<=p:=by
 induction h with
 | one=>omega
 | two _ _ _ i1 i2 i3=>omega
theorem Pr.lt (h:Pr c n p b w):b < n /\ 1<=p:=by
 induction h with
 | one=>omega
 | two h1 _ i=>have:=h1.lt;omega
theorem Pa.cap (h:Pa c p b e w):e - b<=L3.cap p true:=by
 induction h with
 | @one p b=>have:=u84 (s:=p+1) (b:=true) (by omega);omega
 | @two p b m e w1 w2 w3 h1 h2 h3 i1 i2 i3 =>
  have q:=(ub1 (p:=p+1) (by have:=h2.lt;omega)).1;rw [show p+1 - 1=p by omega] at q;omega
theorem Pr.cap (h:Pr c n p b w):n - b<=L3.cap p false:=by
 induction h with
 | @one p b h=>have:=u84 (s:=p+1) (b:=false) (by omega);omega
 | @two p b m w1 w2 h1 h2 i2 =>
  have q:=(ub1 (p:=p+1) (by have:=h2.lt;omega)).2;rw [show p+1 - 1=p by omega] at q;have:=h1.cap;omega
theorem Pa.more (h:Pa c p b e w):Pa c (p+1) b e w:=by
 induction h with
 | one=>exact .one
 | two _ _ _ i1 i2 i3=>exact .two i1 i2 i3
theorem Pr.more (h:Pr c n p b w):Pr c n (p+1) b w:=by
 induction h with
 | one h=>exact .one h
 | two h1 _ i2=>exact .two h1.more i2
theorem Pa.pos (hc:∀ i,0<=c i) (h:Pa c p b e w):0<=w:=by
 induction h with
 | one=>exact hc _
 | two _ _ _ i1 i2 i3=>omega
theorem Pa.pr (hc:∀ i,0<=c i) (h:Pa c p b e w):∃ v,Pr c e p b v /\ v<=w:=by
 induction h with
 | one=>exact ⟨_,.one rfl,Int.le_refl _⟩
 | two h1 _ h3 i1 i2 i3 =>
  obtain ⟨v2,q2,r2⟩:=i2;have:=h3.pos hc;exact ⟨_,.two h1 q2,by omega⟩
theorem Pr.last (hc:∀ i,0<=c i) {N:Nat} (h:Pr c N p b w):∀ n,N=n+1->b < n->∃ v,Pr c n p b v /\ v+c n<=w:=by
 induction h with
 | one h=>intro n e hb;omega
 | @two p b m w1 w2 h1 h2 i2 =>
  intro n e hb;subst e
  rcases Nat.lt_or_ge m n with z | z
  ·obtain ⟨v,q,r⟩:=i2 n rfl z
   exact ⟨w1+v,.two h1 q,by omega⟩
  ·have hm:m=n:=by have:=h2.lt;omega
   subst hm;obtain ⟨v,q,r⟩:=h1.pr hc;refine ⟨v,q,?_⟩;have hw:w2=c m:=by
    cases h2 with
    | one _=>rfl
    | two h3 h4=>have:=h3.lt;have:=h4.lt;omega
   omega
def LeastA (c:Nat->Int) (p b e:Nat) (w:Int):Prop:=Pa c p b e w /\ ∀ v,Pa c p b e v->w<=v
def LeastR (c:Nat->Int) (n p b:Nat) (w:Int):Prop:=Pr c n p b w /\ ∀ v,Pr c n p b v->w<=v
theorem LeastA.one {p b:Nat}:LeastA c (p+1) b (b+1) (c b):=by
 refine ⟨.one,fun v h=>?_⟩;generalize he:b+1=e at h;cases h with
 | one=>exact Int.le_refl _
 | two h1 h2 _=>have:=h1.lt;have:=h2.lt;omega
theorem LeastR.one {p b:Nat}:LeastR c (b+1) (p+1) b (c b):=by
 refine ⟨.one rfl,fun v h=>?_⟩;cases h with
 | one _=>exact Int.le_refl _
 | two h1 h2=>have:=h1.lt;have:=h2.lt;omega
theorem LeastA.two {p b e:Nat} {w:Int} (hb:b+1 < e) (hw:∃ m w1 w2 w3,LeastA c (p+1) b m w1 /\ LeastA c p m e w2 /\ LeastA c p b m w3 /\ w=w1+w2+w3)
  (hl:∀ m,b < m->m < e->m - b<=L3.cap p true->e - m<=L3.cap p true->∃ w1 w2 w3,LeastA c (p+1) b m w1 /\ LeastA c p m e w2 /\ LeastA c p b m w3 /\ w<=w1+w2+w3):LeastA c (p+1) b e w:=by
 obtain ⟨m,w1,w2,w3,h1,h2,h3,rfl⟩:=hw;refine ⟨.two h1.1 h2.1 h3.1,fun v h=>?_⟩;cases h with
 | one=>omega
 | @two _ _ m' _ u1 u2 u3 q1 q2 q3 =>
  obtain ⟨x1,x2,x3,y1,y2,y3,y⟩:=hl m' q1.lt.1 q2.lt.1 q3.cap q2.cap;have:=y1.2 _ q1;have:=y2.2 _ q2;have:=y3.2 _ q3;omega
theorem LeastR.two {n p b:Nat} {w:Int} (hb:b+1 < n) (hw:∃ m w1 w2,LeastA c (p+1) b m w1 /\ LeastR c n p m w2 /\ w=w1+w2)
  (hl:∀ m,b < m->m < n->m - b<=L3.cap (p+1) true->n - m<=L3.cap p false->∃ w1 w2,LeastA c (p+1) b m w1 /\ LeastR c n p m w2 /\ w<=w1+w2):LeastR c n (p+1) b w:=by
 obtain ⟨m,w1,w2,h1,h2,rfl⟩:=hw;refine ⟨.two h1.1 h2.1,fun v h=>?_⟩;cases h with
 | one h=>omega
 | @two _ _ m' u1 u2 q1 q2 =>
  obtain ⟨x1,x2,y1,y2,y⟩:=hl m' q1.lt.1 q2.lt.1 q1.cap q2.cap;have:=y1.2 _ q1;have:=y2.2 _ q2;omega
theorem Pa.congr (h:Pa c p b e w):(∀ i,i < e->c i=c' i)->Pa c' p b e w:=by
 induction h with
 | @one p b=>intro hc;rw [hc b (by omega)];exact .one
 | two h1 h2 h3 i1 i2 i3 =>
  intro hc;have:=h2.lt;exact .two (i1 fun i hi=>hc i (by omega)) (i2 hc) (i3 fun i hi=>hc i (by omega))
theorem Pr.congr (h:Pr c n p b w):(∀ i,i < n->c i=c' i)->Pr c' n p b w:=by
 induction h with
 | @one p b hb=>intro hc;rw [hc b (by omega)];exact .one hb
 | two h1 h2 i2 =>
  intro hc;have:=h2.lt;exact .two (h1.congr fun i hi=>hc i (by omega)) (i2 hc)
theorem LeastA.congr (h:LeastA c p b e w) (hc:∀ i,i < e->c i=c' i):LeastA c' p b e w :=
 ⟨h.1.congr hc,fun v hv=>h.2 v (hv.congr fun i hi=>(hc i hi).symm)⟩
theorem LeastR.congr (h:LeastR c n p b w) (hc:∀ i,i < n->c i=c' i):LeastR c' n p b w :=
 ⟨h.1.congr hc,fun v hv=>h.2 v (hv.congr fun i hi=>(hc i hi).symm)⟩
def cf (pl:List Int) (i:Nat):Int:=pl.getD i 0
theorem v01 {pl:List Int} {i:Nat} (h:i < pl.length):cf pl i=pl[i]:=by simp [cf,h]
def TAv (c:Nat->Int) (Dm:Nat->Nat->Nat->Prop) (kvs:List (List Key × D)):Prop:=∀ p b e,(Dm p b e->∃ w m,valD kvs (k3 p b e)=some (vD w m) /\ LeastA c p b e w) /\ (¬ Dm p b e->valD kvs (k3 p b e)=none)
def TRv (c:Nat->Int) (n:Nat) (Dm:Nat->Nat->Prop) (kvs:List (List Key × D)):Prop:=∀ p b,(Dm p b->∃ w m,valD kvs (k2 p b)=some (vD w m) /\ LeastR c n p b w) /\ (¬ Dm p b->valD kvs (k2 p b)=none)
theorem TAv.congr {c:Nat->Int} {D1 D2:Nat->Nat->Nat->Prop} {kvs:List (List Key × D)} (h:TAv c D1 kvs) (e:∀ p b e,D1 p b e ↔ D2 p b e):TAv c D2 kvs:=fun p b e'=>⟨fun z=>(h p b e').1 ((e p b e').mpr z),fun z=>(h p b e').2 fun q=>z ((e p b e').mp q)⟩
theorem TRv.congr {n:Nat} {c:Nat->Int} {D1 D2:Nat->Nat->Prop} {kvs:List (List Key × D)} (h:TRv c n D1 kvs) (e:∀ p b,D1 p b ↔ D2 p b):TRv c n D2 kvs:=fun p b=>⟨fun z=>(h p b).1 ((e p b).mpr z),fun z=>(h p b).2 fun q=>z ((e p b).mp q)⟩
theorem TAv.put {c:Nat->Int} {Dm:Nat->Nat->Nat->Prop} {kvs:List (List Key × D)} {p b e m:Nat} {w:Int} (h:TAv c Dm kvs) (hn:¬ Dm p b e) (hm:LeastA c p b e w):TAv c (fun p' b' e'=>Dm p' b' e' \/ (p'=p /\ b'=b /\ e'=e)) (putT kvs (k3 p b e) (vD w m)):=by
 intro p' b' e';rw [u66 ((h p b e).2 hn)]
 by_cases hk:k3 p' b' e'=k3 p b e
 ·obtain ⟨rfl,rfl,rfl⟩:=ux3 hk
  rw [if_pos rfl];exact ⟨fun _=>⟨w,m,rfl,hm⟩,fun z=>absurd (.inr ⟨rfl,rfl,rfl⟩) z⟩
 ·rw [if_neg hk]
  refine ⟨fun z=>(h p' b' e').1 (z.resolve_right fun q=>hk ?_),fun z=>(h p' b' e').2 fun q=>z (.inl q)⟩;obtain ⟨rfl,rfl,rfl⟩:=q;rfl
theorem TRv.put {n:Nat} {c:Nat->Int} {Dm:Nat->Nat->Prop} {kvs:List (List Key × D)} {p b m:Nat} {w:Int} (h:TRv c n Dm kvs) (hn:¬ Dm p b) (hm:LeastR c n p b w):TRv c n (fun p' b'=>Dm p' b' \/ (p'=p /\ b'=b)) (putT kvs (k2 p b) (vD w m)):=by
 intro p' b';rw [u66 ((h p b).2 hn)]
 by_cases hk:k2 p' b'=k2 p b
 ·obtain ⟨rfl,rfl⟩:=um6 hk
  rw [if_pos rfl];exact ⟨fun _=>⟨w,m,rfl,hm⟩,fun z=>absurd (.inr ⟨rfl,rfl⟩) z⟩
 ·rw [if_neg hk]
  refine ⟨fun z=>(h p' b').1 (z.resolve_right fun q=>hk ?_),fun z=>(h p' b').2 fun q=>z (.inl q)⟩;obtain ⟨rfl,rfl⟩:=q;rfl
theorem vc3 {a b x y:Int} (h:HT.lexLt [a,x] [b,y]=false):b<=a:=by
 rcases Int.lt_or_le a b with z | z
 ·simp [HT.lexLt,z] at h
  omega
 ·exact z
def oD:Option Int->D
 | none=>.non
 | some w=>.int w
def AnsA (pl:List Int) (s:Nat) (x:Option Int):Prop:=(∃ W,x=some W /\ LeastA (cf pl) s 0 pl.length W) \/ (¬ pl.length<=cap s true /\ x=none)
def AnsR (pl:List Int) (s:Nat) (x:Option Int):Prop:=(∃ W,x=some W /\ LeastR (cf pl) pl.length s 0 W) \/ (¬ pl.length<=cap s false /\ x=none)
variable {pl pl':List Int} {s:Nat} {x y:Option Int}
theorem AnsA.get (h:AnsA pl s x) {W:Int} (e:x=some W):LeastA (cf pl) s 0 pl.length W:=by
 rcases h with ⟨V,rfl,hV⟩ | ⟨_,rfl⟩
 ·cases e;exact hV
 ·cases e
theorem AnsR.get (h:AnsR pl s x) {W:Int} (e:x=some W):LeastR (cf pl) pl.length s 0 W:=by
 rcases h with ⟨V,rfl,hV⟩ | ⟨_,rfl⟩
 ·cases e;exact hV
 ·cases e
theorem vd0 (h:∀ x ∈ pl,1<=x) (i:Nat):0<=cf pl i:=by
 by_cases hi:i < pl.length
 ·rw [v01 hi];have:=h _ (List.getElem_mem hi);omega
 ·simp [cf,List.getElem?_eq_none (Nat.le_of_not_lt hi)]
def OA (c:Nat->Int) (p b e:Nat) (x:Option Int):Prop:=(∃ W,x=some W /\ LeastA c p b e W) \/ (x=none /\ ∀ w,¬ Pa c p b e w)
def OR (c:Nat->Int) (n p b:Nat) (x:Option Int):Prop:=(∃ W,x=some W /\ LeastR c n p b W) \/ (x=none /\ ∀ w,¬ Pr c n p b w)
variable {c:Nat->Int} {n p b e f z M:Nat} {x y:Option Int} {w:Int}
theorem OA.of (h:OA c p b e x) (q:Pa c p b e w):∃ W,x=some W /\ W<=w:=by
 rcases h with ⟨W,rfl,hW⟩ | ⟨_,h⟩
 ·exact ⟨W,rfl,hW.2 _ q⟩
 ·exact absurd q (h _)
theorem OR.of (h:OR c n p b x) (q:Pr c n p b w):∃ W,x=some W /\ W<=w:=by
 rcases h with ⟨W,rfl,hW⟩ | ⟨_,h⟩
 ·exact ⟨W,rfl,hW.2 _ q⟩
 ·exact absurd q (h _)
theorem OA.pa (h:OA c p b e (some w)):Pa c p b e w:=by
 rcases h with ⟨W,e,hW⟩ | ⟨e,_⟩
 ·cases e;exact hW.1
 ·cases e
theorem OR.pr (h:OR c n p b (some w)):Pr c n p b w:=by
 rcases h with ⟨W,e,hW⟩ | ⟨e,_⟩
 ·cases e;exact hW.1
 ·cases e
theorem OA.eq (h:OA c p b e x) (h':OA c p b e y):x=y:=by
 rcases h with ⟨W,rfl,hW⟩ | ⟨rfl,h⟩
 ·obtain ⟨V,rfl,hV⟩:=h'.of hW.1
  have:=hW.2 _ h'.pa
  congr 1;omega
 ·rcases h' with ⟨W,rfl,hW⟩ | ⟨rfl,_⟩
  ·exact absurd hW.1 (h _)
  ·rfl
theorem OR.eq (h:OR c n p b x) (h':OR c n p b y):x=y:=by
 rcases h with ⟨W,rfl,hW⟩ | ⟨rfl,h⟩
 ·obtain ⟨V,rfl,hV⟩:=h'.of hW.1
  have:=hW.2 _ h'.pr
  congr 1;omega
 ·rcases h' with ⟨W,rfl,hW⟩ | ⟨rfl,_⟩
  ·exact absurd hW.1 (h _)
  ·rfl
theorem OA.zero:OA c 0 b e none:=.inr ⟨rfl,fun w q=>by have:=q.lt;omega⟩
theorem OR.zero:OR c n 0 b none:=.inr ⟨rfl,fun w q=>by have:=q.lt;omega⟩
def Hts (P:Nat->Option Int->Prop) (M:Nat) (xs:List (Option Int)):Prop:=(∀ y ∈ xs,y=none \/ ∃ m,1<=m /\ m < M /\ P m y) /\ ∀ m,1<=m->m < M->∃ y ∈ xs,P m y
theorem Hts.nil {P:Nat->Option Int->Prop}:Hts P 1 [none]:=⟨fun y h=>.inl (by simpa using h),fun m h1 h2=>by omega⟩
theorem Hts.add {P:Nat->Option Int->Prop} {xs:List (Option Int)} (h:Hts P M xs) (hM:1<=M) (hy:P M y):Hts P (M+1) (xs++[y]):=by
 refine ⟨fun v hv=>?_,fun m h1 h2=>?_⟩
 ·rcases List.mem_append.mp hv with q | q
  ·rcases h.1 v q with r | ⟨m,r1,r2,r3⟩
   ·exact .inl r
   ·exact .inr ⟨m,r1,by omega,r3⟩
  ·rw [List.mem_singleton.mp q];exact .inr ⟨M,hM,by omega,hy⟩
 ·rcases Nat.lt_or_ge m M with q | q
  ·obtain ⟨v,r1,r2⟩:=h.2 m h1 q
   exact ⟨v,List.mem_append_left _ r1,r2⟩
  ·have:m=M:=by omega
   subst this;exact ⟨y,List.mem_append_right _ (List.mem_singleton.mpr rfl),hy⟩
theorem OA.one:OA c (p+1) b (b+1) (some (c b)):=.inl ⟨_,rfl,LeastA.one⟩
theorem OR.one:OR c (b+1) (p+1) b (some (c b)):=.inl ⟨_,rfl,LeastR.one⟩
def TG (Dm:Nat->Nat->Prop) (Pv:Nat->Nat->D->Prop) (kvs:List (List Key × D)):Prop:=∀ f z,(Dm f z->∃ d,valD kvs (k2 f z)=some d /\ Pv f z d) /\ (¬ Dm f z->valD kvs (k2 f z)=none)
theorem TG.congr {D1 D2:Nat->Nat->Prop} {Pv:Nat->Nat->D->Prop} {kvs:List (List Key × D)} (h:TG D1 Pv kvs) (e:∀ f z,D1 f z ↔ D2 f z):TG D2 Pv kvs:=fun f z=>⟨fun q=>(h f z).1 ((e f z).mpr q),fun q=>(h f z).2 fun r=>q ((e f z).mp r)⟩
theorem TG.put {Dm:Nat->Nat->Prop} {Pv:Nat->Nat->D->Prop} {kvs:List (List Key × D)} {d:D} (h:TG Dm Pv kvs) (hn:¬ Dm f z) (hd:Pv f z d):TG (fun f' z'=>Dm f' z' \/ (f'=f /\ z'=z)) Pv (putT kvs (k2 f z) d):=by
 intro f' z';rw [u66 ((h f z).2 hn)]
 by_cases hk:k2 f' z'=k2 f z
 ·obtain ⟨rfl,rfl⟩:=um6 hk
  rw [if_pos rfl];exact ⟨fun _=>⟨d,rfl,hd⟩,fun q=>absurd (.inr ⟨rfl,rfl⟩) q⟩
 ·rw [if_neg hk]
  refine ⟨fun q=>(h f' z').1 (q.resolve_right fun r=>hk ?_),fun q=>(h f' z').2 fun r=>q (.inl r)⟩;obtain ⟨rfl,rfl⟩:=r;rfl
def wk (c:Nat->Int):List Mv->Int
 | []=>0
 | p::r=>c (p.2 - 1)+wk c r
def wkp (c:Nat->Int):List Pm->Int
 | []=>0
 | none::r=>wkp c r
 | some p::r=>c (p.2 - 1)+wkp c r
variable {c:Nat->Int} {n p b e:Nat} {w v:Int}
theorem u41:∀ {l r:List Mv},wk c (l++r)=wk c l+wk c r
 | [],r=>by show wk c r=0+wk c r;omega
 | x::l,r=>by show c (x.2 - 1)+wk c (l++r)=c (x.2 - 1)+wk c l+wk c r;rw [u41];omega
theorem ue8:∀ {l:List Mv},wk c (bkw l)=wk c l
 | []=>rfl
 | x::l=>by
  have:bkw (x::l)=bkw l++[(!x.1,x.2)]:=by simp [bkw]
  rw [this,u41,ue8]
  show wk c l+(c (x.2 - 1)+0)=c (x.2 - 1)+wk c l
  omega
theorem u80:∀ {l r:List Pm},wkp c (l++r)=wkp c l+wkp c r
 | [],r=>by show wkp c r=0+wkp c r;omega
 | none::l,r=>by show wkp c (l++r)=wkp c l+wkp c r;rw [u80]
 | some x::l,r=>by show c (x.2 - 1)+wkp c (l++r)=c (x.2 - 1)+wkp c l+wkp c r;rw [u80];omega
theorem u92:∀ {l:List Mv},wkp c (l.map some)=wk c l
 | []=>rfl
 | x::l=>by show c (x.2 - 1)+wkp c (l.map some)=c (x.2 - 1)+wk c l;rw [u92]
theorem LeastA.eq (h:LeastA c p b e w) (h':LeastA c p b e v):w=v:=by
 have:=h.2 _ h'.1;have:=h'.2 _ h.1;omega
theorem LeastR.eq (h:LeastR c n p b w) (h':LeastR c n p b v):w=v:=by
 have:=h.2 _ h'.1;have:=h'.2 _ h.1;omega
def VA (c:Nat->Int) (p b e:Nat) (w:Int) (m:Nat):Prop:=LeastA c p b e w /\ mA p b e m /\ (e - b ≠ 1->∃ w1 w2 w3,LeastA c p b m w1 /\ LeastA c (p - 1) m e w2 /\ LeastA c (p - 1) b m w3 /\ w=w1+w2+w3)
def VR (c:Nat->Int) (n p b:Nat) (w:Int) (m:Nat):Prop:=LeastR c n p b w /\ mR n p b m /\ (n - b ≠ 1->∃ w1 w2,LeastA c p b m w1 /\ LeastR c n (p - 1) m w2 /\ w=w1+w2)
def TAw (c:Nat->Int) (Dm:Nat->Nat->Nat->Prop) (kvs:List (List Key × D)):Prop:=∀ p b e,(Dm p b e->∃ w m,valD kvs (k3 p b e)=some (vD w m) /\ VA c p b e w m) /\ (¬ Dm p b e->valD kvs (k3 p b e)=none)
def TRw (c:Nat->Int) (n:Nat) (Dm:Nat->Nat->Prop) (kvs:List (List Key × D)):Prop:=∀ p b,(Dm p b->∃ w m,valD kvs (k2 p b)=some (vD w m) /\ VR c n p b w m) /\ (¬ Dm p b->valD kvs (k2 p b)=none)
theorem TAw.congr {D1 D2:Nat->Nat->Nat->Prop} {kvs:List (List Key × D)} (h:TAw c D1 kvs) (e:∀ p b e,D1 p b e ↔ D2 p b e):TAw c D2 kvs:=fun p b e'=>⟨fun z=>(h p b e').1 ((e p b e').mpr z),fun z=>(h p b e').2 fun q=>z ((e p b e').mp q)⟩
theorem TRw.congr {D1 D2:Nat->Nat->Prop} {kvs:List (List Key × D)} (h:TRw c n D1 kvs) (e:∀ p b,D1 p b ↔ D2 p b):TRw c n D2 kvs:=fun p b=>⟨fun z=>(h p b).1 ((e p b).mpr z),fun z=>(h p b).2 fun q=>z ((e p b).mp q)⟩
theorem TAw.put {Dm:Nat->Nat->Nat->Prop} {kvs:List (List Key × D)} {m:Nat} (h:TAw c Dm kvs) (hn:¬ Dm p b e) (hm:VA c p b e w m):TAw c (fun p' b' e'=>Dm p' b' e' \/ (p'=p /\ b'=b /\ e'=e)) (putT kvs (k3 p b e) (vD w m)):=by
 intro p' b' e';rw [u66 ((h p b e).2 hn)]
 by_cases hk:k3 p' b' e'=k3 p b e
 ·obtain ⟨rfl,rfl,rfl⟩:=ux3 hk
  rw [if_pos rfl];exact ⟨fun _=>⟨w,m,rfl,hm⟩,fun z=>absurd (.inr ⟨rfl,rfl,rfl⟩) z⟩
 ·rw [if_neg hk]
  refine ⟨fun z=>(h p' b' e').1 (z.resolve_right fun q=>hk ?_),fun z=>(h p' b' e').2 fun q=>z (.inl q)⟩;obtain ⟨rfl,rfl,rfl⟩:=q;rfl
theorem TRw.put {Dm:Nat->Nat->Prop} {kvs:List (List Key × D)} {m:Nat} (h:TRw c n Dm kvs) (hn:¬ Dm p b) (hm:VR c n p b w m):TRw c n (fun p' b'=>Dm p' b' \/ (p'=p /\ b'=b)) (putT kvs (k2 p b) (vD w m)):=by
 intro p' b';rw [u66 ((h p b).2 hn)]
 by_cases hk:k2 p' b'=k2 p b
 ·obtain ⟨rfl,rfl⟩:=um6 hk
  rw [if_pos rfl];exact ⟨fun _=>⟨w,m,rfl,hm⟩,fun z=>absurd (.inr ⟨rfl,rfl⟩) z⟩
 ·rw [if_neg hk]
  refine ⟨fun z=>(h p' b').1 (z.resolve_right fun q=>hk ?_),fun z=>(h p' b').2 fun q=>z (.inl q)⟩;obtain ⟨rfl,rfl⟩:=q;rfl
theorem v33 {l s:Nat} {w:List Mv} (h0:0 < l) (h:WOK 0 l s true w):PLN l s true (w.map some):=by
 unfold PLN;rw [if_pos rfl];exact ⟨w,rfl,(h.start (Nat.le_refl _) (Nat.le_refl _)).1,h.left h0 (Nat.le_refl _) (Nat.le_refl _)⟩
theorem ut6 {l s:Nat} {w:List Mv} (h:WOK 0 l s false w):PLN l s false (w.map some++[none]++(bkw w).map some):=by
 unfold PLN;rw [if_neg (by decide)];have:=h.start (Nat.le_refl l) (Nat.le_refl s);exact ⟨w,w,rfl,this.1,this.1,rfl,this.2⟩
theorem ur2 {w:List Mv}:wkp c (w.map some++[none]++(bkw w).map some)=wk c w+wk c w:=by
 rw [u80,u80,u92,u92,ue8]
 show wk c w+0+wk c w=_
 omega
end L3
namespace L2
open PySem PySem.Spec PyProof.Rows
def tyN:Bool->String
 | true => "tuple_iterator"
 | false => "list_iterator"
def SIt (c:Bool) (h:Heap) (it l:Addr) (i:Nat):Prop:=∃ o,h.get? it=some o /\ o.cls=.type (tyN c) /\ o.data=.fields #[.ref l,.int i 0]
def SOf (c:Bool) (h:Heap) (l:Addr) (xs:Array Value):Prop:=∃ o,h.get? l=some o /\ o.cls=.type (cond c "tuple" "list") /\ ∃ n,o.data=.seq xs n
theorem SIt.at {c:Bool} {h h':Heap} {it l:Addr} {i:Nat} (x:SIt c h it l i) (e:∀ o,h.get? it=some o->h'.get? it=some o):SIt c h' it l i:=let ⟨o,ho,r⟩:=x;⟨o,e _ ho,r⟩
theorem SOf.at {c:Bool} {h h':Heap} {l:Addr} {xs:Array Value} (x:SOf c h l xs) (e:∀ o,h.get? l=some o->h'.get? l=some o):SOf c h' l xs:=let ⟨o,ho,r⟩:=x;⟨o,e _ ho,r⟩
theorem SOf.push {c:Bool} {h:Heap} {l:Addr} {xs:Array Value} (x:SOf c h l xs) (o:Obj):SOf c (h.push o) l xs:=x.at fun _ e=>Heap.get?_push_of_some o e
set_option maxHeartbeats 4000000 in
structure DzSt (c d:Bool) (l1 l2 z TI TO i1 i2 S:Addr) (xs ys:Array Value) (i:Nat) (h:Heap):Prop where
 zz:IsZip h z TI TO .none \/ ∃ T f oT,vd3 h z TI TO T f /\ h.get? T=some oT /\ T ≠ z /\ T ≠ TO /\ T ≠ i1 /\ T ≠ i2 /\ T ≠ S
 ti:IsPair h TI (.ref i1) (.ref i2)
 to:∃ u v,IsPair h TO u v
 h1:SIt c h i1 l1 i
 h2:SIt d h i2 l2 i
 m1:SOf c h l1 xs
 m2:SOf d h l2 ys
end L2
namespace L3
open PySem PySem.Spec PyProof.Rows L2
def valK (kvs:List (Key × D)) (k:Key):Option D:=(kvs.find? fun kv=>decide (kv.1=k)).map (·.2)
def ut2 (kvs:List (Key × D)) (k:Key) (v:D):List (Key × D) :=
 if (kvs.any fun kv=>decide (kv.1=k))=true then kvs.map (fun kv=>if kv.1=k then (kv.1,v) else kv) else kvs++[(k,v)]
section
variable {X:Cx} {K:PySem.W.Frag} {G:Gp} {H:Hp} {p:Addr}
theorem u59 {k:Key}:∀ {kvs:List (Key × D)} {ys:List (Key × V)},RelPs K H kvs ys->(valK kvs k=none /\ valV ys k=none) \/ ∃ d v,valK kvs k=some d /\ valV ys k=some v /\ RelD K H d v
 | [],ys,⟨h1,h2⟩=>by
  have:ys=[]:=by cases ys with | nil=>rfl | cons y ys=>simp at h1
  subst this;exact .inl ⟨rfl,rfl⟩
 | (k',d)::kvs,[],⟨h1,h2⟩=>by simp at h1
 | (k',d)::kvs,(k2,v)::ys,⟨h1,h2⟩=>by
  rw [List.map_cons,List.map_cons] at h1;obtain ⟨e1,e2⟩:=List.cons.inj h1;have e1:k'=k2:=e1;subst e1;obtain ⟨x,xs',e3,q1,q2⟩:=h2.inv_cons;rw [List.map_cons] at e3;obtain ⟨e4,e5⟩:=List.cons.inj e3;have e4:v=x:=e4;subst e4
  by_cases hk:k'=k
  ·right
   exact ⟨d,v,by simp [valK,List.find?_cons,hk],u71 hk,q1⟩
  ·have ih:=u59 (k:=k) (kvs:=kvs) (ys:=ys) ⟨e2,by rw [e5];exact q2⟩
   have a1:valK ((k',d)::kvs) k=valK kvs k:=by simp [valK,List.find?_cons,hk]
   rw [a1,u72 hk];exact ih
theorem um2 {k:Key} {d:D} {v:V} (q:RelD K H d v):∀ {kvs:List (Key × D)} {ys:List (Key × V)},RelPs K H kvs ys->RelPs K H (kvs.map (fun kv=>if kv.1=k then (kv.1,d) else kv)) (ys.map (fun kv=>if kv.1=k then (kv.1,v) else kv)) /\ (kvs.any fun kv=>decide (kv.1=k))=(ys.any fun kv=>decide (kv.1=k))
 | [],ys,⟨h1,h2⟩=>by
  have:ys=[]:=by cases ys with | nil=>rfl | cons y ys=>simp at h1
  subst this;exact ⟨⟨rfl,.nil⟩,rfl⟩
 | (k',d')::kvs,[],⟨h1,h2⟩=>by simp at h1
 | (k',d')::kvs,(k2,v')::ys,⟨h1,h2⟩=>by
  rw [List.map_cons,List.map_cons] at h1;obtain ⟨e1,e2⟩:=List.cons.inj h1;have e1:k'=k2:=e1;subst e1;obtain ⟨x,xs',e3,q1,q2⟩:=h2.inv_cons;rw [List.map_cons] at e3;obtain ⟨e4,e5⟩:=List.cons.inj e3;have e4:v'=x:=e4;subst e4;obtain ⟨⟨i1,i2⟩,i3⟩:=um2 (k:=k) q (kvs:=kvs) (ys:=ys) ⟨e2,by rw [e5];exact q2⟩;refine ⟨⟨?_,?_⟩,by rw [List.any_cons,List.any_cons,i3]⟩
  ·rw [List.map_cons,List.map_cons,List.map_cons,List.map_cons,i1]
   by_cases hk:k'=k <;> simp [hk]
  ·rw [List.map_cons,List.map_cons,List.map_cons,List.map_cons]
   by_cases hk:k'=k
   ·simp only [hk,if_true];exact .cons q i2
   ·simp only [hk,if_false];exact .cons q1 i2
theorem ul5 {k:Key} {d:D} {v:V} (q:RelD K H d v) {kvs:List (Key × D)} {ys:List (Key × V)} (h:RelPs K H kvs ys):RelPs K H (ut2 kvs k d) (putK ys k v):=by
 obtain ⟨i1,i3⟩:=um2 (k:=k) q h;unfold ut2 putK;rw [i3];split
 ·exact i1
 ·exact ⟨by rw [List.map_append,List.map_append,h.1];rfl,by rw [List.map_append,List.map_append];exact h.2.append (.cons q .nil)⟩
theorem uc1 {k:Key} {v:V} (r:RelD K H (kD k) v):v=kV k:=by
 cases k with
 | inl i=>exact (show RelD K H (.int i) v from r).int_inv
 | inr x=>exact (show RelD K H (.str x) v from r).str_inv
def uz6 (td ti:TE3):TE3:=fun σ G q=>td σ G fun x G1=>ti σ G1 fun y G2=>∃ a kvs k d,x=.ref a /\ y=kD k /\ G2 a=some (.dic kvs) /\ valK kvs k=some d /\ q d G2
theorem v53 {td ti:TE3} {σ:L2.St} {Q:VK} (h:lowE K (uz6 td ti) σ H Q):ve7 (lowE K td) (lowE K ti) σ H Q:=by
 obtain ⟨σd,G,q,rs,c,t,f⟩:=h;refine ⟨σd,G,_,rs,c,t,fun x G1 v H1 r1 c1 l1 t1=>⟨σd,G1,_,rs.le l1,c1,t1,fun y G2 u H2 r2 c2 l2 t2=>?_⟩⟩;obtain ⟨a,kvs,k,d,rfl,rfl,hg,hv,t3⟩:=t2;have r1':=RelD.le l2 r1;cases r1'.ref_inv;obtain rfl:=uc1 r2;obtain ⟨ys,e,rp⟩:=c2 a _ hg
 rcases u59 (k:=k) rp with ⟨z,_⟩ | ⟨d',w,z1,z2,z3⟩
 ·rw [hv] at z;cases z
 ·rw [hv] at z1;cases z1
  exact ⟨a,w,rfl,by rw [<- z2];exact DGet.k e,f _ _ _ _ z3 c2 (l1.trans l2) t3⟩
theorem uy8 {k:Nat} {o i:Expr} {pos:Pos} {to ti:TE3} (hr:Room k X.A) (ho:E3 X o to) (hi:E3 X i ti) (hs:NoSl i:=by exact fun _ _=>rfl):E3 X (.Subscript o i pos) (uz6 to ti) :=
 u34 (uu0 (ub5 hr) ho hi hs) fun _ _ _=>v53
def v76 (td ti tv:TE3):TS3:=fun Dn σ G=>tv σ G fun v G1=>td σ G1 fun x G2=>ti σ G2 fun y G3=>∃ (a:Addr) (kvs:List (Key × D)) (k:Key),x=.ref a /\ y=kD k /\ G3 a=some (.dic kvs) /\ kvs.length < sizeLine /\ Dn.nx σ (gup G3 a (.dic (ut2 kvs k v)))
theorem us8 {k:Nat} {o i value:Expr} {pos pos':Pos} {to ti tv:TE3} (hr:Room k X.A) (ho:E3 X o to) (hi:E3 X i ti) (hv:E3 X value tv)
  (hs:swapsWith value (some (.Subscript o i pos')) pos.line X.env=pure false:=by rfl):S3 X (.Assign [.Subscript o i pos'] value pos) (v76 to ti tv) :=
 ub3 (ut3 (ub5 hr) ho hi hv hs) fun D σ H h=>by
  obtain ⟨σd,G,d,rs,c,t,f⟩:=h;refine ⟨σd,G,_,rs,c,t,fun v G1 w H1 r1 c1 l1 t1=>⟨σd,G1,_,rs.le l1,c1,t1,fun x G2 u H2 r2 c2 l2 t2=>⟨σd,G2,_,rs.le (l1.trans l2),c2,t2,fun y G3 z H3 r3 c3 l3 t3=>?_⟩⟩⟩;obtain ⟨a,kvs,k,rfl,rfl,hg,hl,t4⟩:=t3;have r2':=RelD.le l3 r2;cases r2'.ref_inv;obtain rfl:=uc1 r3;obtain ⟨ys,e,rp⟩:=c3 a _ hg;have l5:Le H3 (upd H3 a (.dK (putK ys k w))):=Le.dK e;have lys:ys.length=kvs.length:=by
   have:=congrArg List.length rp.1;rw [List.length_map,List.length_map] at this;exact this.symm
  refine ⟨a,_,rfl,DPut.k e (by rw [lys];exact hl),?_⟩;refine f.nx _ _ _ _ (((rs.le l1).le l2).le (l3.trans l5)) ?_ (l1.trans (l2.trans (l3.trans l5))) t4;exact c3.put l5 ⟨_,u14,(ul5 (RelD.le (l2.trans l3) r1) rp).le l5⟩
end
end L3
namespace L2
open PySem PySem.Spec PyProof.Rows
section
variable {X:Cx} {tg:Expr}
def Itd (a:Addr) (o:Obj) (kvs:List (Key × V)):It:=⟨fun i H=>H a=some (.frz o (.dK kvs)) /\ i < kvs.length,fun i H v H'=>H'=H /\ ∃ p,kvs[i]?=some p /\ v=kV p.1,fun i H=>H a=some (.frz o (.dK kvs)) /\ kvs.length<=i⟩
theorem w56 {P:Program} {w:World} {k:Key} {u:Value} (h:(u17 P w).is k u=true):RelV (kV k) u:=by
 rcases u15 h with ⟨i,t,rfl,rfl⟩ | ⟨x,t,rfl,rfl⟩
 ·exact ⟨t,rfl⟩
 ·exact ⟨t,rfl⟩
theorem vc5 {P:Program} {w:World} {H:Hp} {h:Heap} {a:Addr} {o:Obj} {kvs:List (Key × V)} {es:Array DictEntry} {ep:Nat} (ok:HOk P w H h) (e:H a=some (.frz o (.dK kvs))) (hd:o.data=.dict es ep):(a == sysModules)=false /\ ∃ vs,KV kvs vs /\ h.DictAt (u17 P w) a vs ep:=by
 obtain ⟨ho,z,hs,vs,rel,o',es',ep',ho',hc,hd',hk,hp,hn⟩:=(show ObjOk P w H h a (.frz o (.dK kvs)) from ok a _ e);rw [ho] at ho';cases ho';rw [hd] at hd';cases hd';exact ⟨hs,vs,rel,o,es,ho,hc,hd,hk,hp,hn⟩
theorem ur7 {P:Program} {w:World} {K:PySem.W.Frag} (it a:Addr) (o:Obj) (kvs:List (Key × V)) {es:Array DictEntry} {ep:Nat} (hd:o.data=.dict es ep):Turn P w K tg (Itd a o kvs) [it] it (fun i h=>h.IsKeyIter it a i kvs.length ep) where
 mem:=by simp
 obj:=fun i h st b hb=>by
  have e:b=it:=by simpa using hb
  subst e;obtain ⟨o,e,c,d⟩:=st;exact ⟨o,e,fun v z=>by rw [d] at z;cases z⟩
 keep:=fun i h h' st k=>let ⟨o,e,r⟩:=st;⟨o,k it (by simp) o e,r⟩
 item:=by
  intro X hP hw hK hc i pins s σ H E I hf st hg;subst hP hw hK;obtain ⟨f0,f1,f2,f3,f4,f5⟩:=hf it (by simp);obtain ⟨hg1,hg2⟩:H a=some (.frz o (.dK kvs)) /\ i < kvs.length:=hg;obtain ⟨_,vs,rel,at_⟩:=vc5 I.hok hg1 hd;have hlv:=rel.length;have hk:=rel.keys;obtain ⟨p,hp⟩:∃ p,vs[i]?=some p:=⟨_,List.getElem?_eq_getElem (by omega)⟩;have hkey:kvs[i]?.map (·.1)=some p.1:=by rw [<- List.getElem?_map,hk,List.getElem?_map,hp];rfl
  obtain ⟨q,hq,hq2⟩:=Option.map_eq_some_iff.mp hkey;rw [hlv] at st;refine wpAny_pyNext_dict_item (k:=p.1) (v:=p.2) st at_ hp fun key h' hkk st' sb=>?_
  have I1:Inv X pins σ H { s with heap:=h' }:=I.turned (t':=s.toks) (fun b o hb e=>(sb.2 b hb).trans e) f0 f1 f3 f4 f5
  obtain ⟨o2,e,cc,d⟩:=id st';exact ⟨_,rfl,uy2 (s:={ s with heap:=h' }) e cc d (by decide) ⟨kV p.1,H,I1,w56 hkk,⟨rfl,q,hq,by rw [hq2]⟩,by rw [hlv];exact st',fun b hb=>(hf b hb).1⟩⟩
 done:=by
  intro X hP hw hK hc i pins s σ H E I hf st hg;subst hP hw hK;obtain ⟨f0,f1,f2,f3,f4,f5⟩:=hf it (by simp);obtain ⟨hg1,hg2⟩:H a=some (.frz o (.dK kvs)) /\ kvs.length<=i:=hg;obtain ⟨_,vs,rel,at_⟩:=vc5 I.hok hg1 hd;have hlv:=rel.length;rw [hlv] at st;exact wpAny_pyNext_dict_end (I.ok.hd hc) st at_ (List.getElem?_eq_none (by omega)) fun h' eb=>⟨rfl,I.turned (t':=s.toks) (fun b o hb e=>eb b o hb e) f0 f1 f3 f4 f5⟩
 self:=fun _ _ _ _ _ st h=>wpAny_pyIter_keyiter st h
def vz9 (tl:TE):TI:=fun σ H R=>tl σ H fun v H1=>∃ a kvs,v=.ref a /\ H1 a=some (.dK kvs) /\ ∀ o,R (Itd a o kvs) (upd H1 a (.frz o (.dK kvs)))
theorem v36 {l:Expr} {tl:TE} (hl:PE X l tl):PI X tg l (vz9 tl):=by
 intro pins s σ H R I h
 (refine thn (hl pins s σ H _ I h) ?_;rintro v s1 ⟨y,H1,I1,r1,q1⟩)
 obtain ⟨a,kvs,rfl,ha,q⟩:=q1;obtain rfl:v=Value.ref a:=r1;obtain ⟨z,hd,vs,rel,dd⟩:=v74 I1.hok ha;obtain ⟨o,es,ep,ho,hc,hdat,hk,hp,hn⟩:=id dd;have I2:Inv X pins σ (upd H1 a (.frz o (.dK kvs))) { s1 with heap:=s1.heap,toks:=s1.toks }:=ue0 I1 (by rw [ha];exact True.intro) (Heap.SameBut.refl _ _) ⟨o,ho⟩ ⟨ho,z,hd,vs,rel,dd⟩
 have fp:∀ b ∈ [s1.heap.objs.size],FpOk X pins (upd H1 a (.frz o (.dK kvs))) b:=fun b hb=>by
  have e:b=s1.heap.objs.size:=by simpa using hb
  subst e;exact I2.fpOk (Nat.le_refl _) (I2.hok.fresh (Nat.le_refl _))
 refine wpAny_pyIter_dict hd (kvs:=vs) (ep:=ep) ⟨o,es,ho,hc,hdat,hk,hp,hn⟩ ?_;refine ⟨s1.heap.objs.size,[s1.heap.objs.size],_,_,_,rfl,I2.kept (t':=s1.toks) fun b o e=>Heap.get?_push_of_some _ e,ur7 (s1.heap.objs.size) a o kvs hdat,?_,fp,q o⟩;rw [rel.length];exact ⟨_,Heap.get?_push_size _ rfl,rfl,rfl⟩
end
end L2
namespace L3
open PySem PySem.Spec PyProof.Rows L2
section
variable {X:Cx} {K:PySem.W.Frag} {G:Gp} {H:Hp} {tg e:Expr} {te:TE3}
theorem Le.frz {a:Addr} {o:Obj} {ys:List (Key × V)} (h:H a=some (.dK ys)):Le H (upd H a (.frz o (.dK ys))) :=
 ⟨fun b zs q=>by
  by_cases e:b=a
  ·subst e;rw [h] at q;cases q
  ·rw [u12 e];exact q,fun b o u q=>by
  by_cases e:b=a
  ·subst e;rw [h] at q;cases q
  ·rw [u12 e];exact q⟩
theorem up8 {H0:Hp} {a:Addr} {o:Obj} {kvs:List (Key × D)} {ys:List (Key × V)} (h0:H0 a=some (.frz o (.dK ys))) (hk:kvs.map (·.1)=ys.map (·.1)):ItRel K H0 ⟨kvs.map fun kv=>kD kv.1,fun G=>G a=some (.frd kvs)⟩ (Itd a o ys) where
 go:=fun i G H l c _ hi=>by
  have hi:i < (kvs.map fun kv=>kD kv.1).length:=hi;have hl:=congrArg List.length hk;rw [List.length_map,List.length_map] at hl;rw [List.length_map] at hi;exact ⟨l.frzs _ _ _ h0,by omega⟩
 stop:=fun i G H l c _ hi=>by
  have hi:(kvs.map fun kv=>kD kv.1).length<=i:=hi;have hl:=congrArg List.length hk;rw [List.length_map,List.length_map] at hl;rw [List.length_map] at hi;exact ⟨l.frzs _ _ _ h0,by omega⟩
 yld:=fun i G H v H' l c _ hi y=>by
  obtain ⟨rfl,p,hp,rfl⟩:=y;refine ⟨c,Le.refl _,kD p.1,?_,?_⟩
  ·show (kvs.map fun kv=>kD kv.1)[i]?=_
   have e:(kvs.map (·.1))[i]?=some p.1:=by rw [hk,List.getElem?_map,hp];rfl
   rw [List.getElem?_map] at e ⊢;obtain ⟨w,hw,hw2⟩:=Option.map_eq_some_iff.mp e;rw [hw];show some (kD w.1)=_;rw [hw2]
  ·cases p.1 with
   | inl i=>show RelD K _ (.int i) (.int i);rw [RelD]
   | inr x=>show RelD K _ (.str x) (.str x);rw [RelD]
def v97 (te:TE3):TI3:=fun σ G r=>te σ G fun d G1=>∃ a kvs,d=.ref a /\ G1 a=some (.dic kvs) /\ r ⟨kvs.map fun kv=>kD kv.1,fun G=>G a=some (.frd kvs)⟩ (gup G1 a (.frd kvs))
theorem vl4 (h:E3 X e te):I3 X tg e (v97 te):=ur5 (v36 h) fun σ H R hh=>by
 obtain ⟨σd,G,q,rs,c,t,f⟩:=hh;refine ⟨σd,G,_,rs,c,t,fun d G1 v H1 r1 c1 l1 t1=>?_⟩;obtain ⟨a,kvs,rfl,ha,t2⟩:=t1;obtain ⟨ys,e,rp⟩:=c1 a _ ha;refine ⟨a,ys,r1.ref_inv,e,fun o=>f _ _ _ _ (up8 u14 rp.1) (c1.put (o:=.frd kvs) (Le.frz e) ⟨o,ys,u14,rp.le (Le.frz e)⟩) (l1.trans (Le.frz e)) t2⟩
def vm8 (td ti:TE3):TE3:=fun σ G q=>td σ G fun x G1=>ti σ G1 fun y G2=>∃ a kvs k d,x=.ref a /\ y=kD k /\ G2 a=some (.frd kvs) /\ valK kvs k=some d /\ q d G2
theorem v54 {td ti:TE3} {σ:L2.St} {Q:VK} (h:lowE K (vm8 td ti) σ H Q):ve7 (lowE K td) (lowE K ti) σ H Q:=by
 obtain ⟨σd,G,q,rs,c,t,f⟩:=h;refine ⟨σd,G,_,rs,c,t,fun x G1 v H1 r1 c1 l1 t1=>⟨σd,G1,_,rs.le l1,c1,t1,fun y G2 u H2 r2 c2 l2 t2=>?_⟩⟩;obtain ⟨a,kvs,k,d,rfl,rfl,hg,hv,t3⟩:=t2;have r1':=RelD.le l2 r1;cases r1'.ref_inv;obtain rfl:=uc1 r2;obtain ⟨o,ys,e,rp⟩:=c2 a _ hg
 rcases u59 (k:=k) rp with ⟨z,_⟩ | ⟨d',w,z1,z2,z3⟩
 ·rw [hv] at z;cases z
 ·rw [hv] at z1;cases z1
  exact ⟨a,w,rfl,.inl ⟨ys,k,.inr ⟨o,e⟩,rfl,z2.symm⟩,f _ _ _ _ z3 c2 (l1.trans l2) t3⟩
theorem vm1 {k:Nat} {o i:Expr} {pos:Pos} {to ti:TE3} (hr:Room k X.A) (ho:E3 X o to) (hi:E3 X i ti) (hs:NoSl i:=by exact fun _ _=>rfl):E3 X (.Subscript o i pos) (vm8 to ti) :=
 u34 (uu0 (ub5 hr) ho hi hs) fun _ _ _=>v54
end
end L3
namespace L3
open PySem PySem.Spec PyProof.Rows L2 Rw
def lo (m:Nat) (w:List Mv):List Mv:=w.filter fun p=>decide (p.2<=m)
def up (m:Nat) (w:List Mv):List Mv:=(w.filter fun p=>decide (m < p.2)).map fun p=>(p.1,p.2 - m)
section
variable {m:Nat} {p:Mv} {w u v:List Mv} {c:Nat->Int}
theorem vk5 (h:p.2<=m):lo m (p::w)=p::lo m w:=by simp [lo,h]
theorem vc0 (h:m < p.2):lo m (p::w)=lo m w:=by simp [lo,Nat.not_le.mpr h]
theorem vq6 (h:m < p.2):up m (p::w)=(p.1,p.2 - m)::up m w:=by simp [up,h]
theorem v98 (h:p.2<=m):up m (p::w)=up m w:=by simp [up,Nat.not_lt.mpr h]
theorem uw4:lo m (u++v)=lo m u++lo m v:=by simp [lo]
theorem u70:∀ {w:List Mv},wk c w=wk c (lo m w)+wk (fun i=>c (i+m)) (up m w)
 | []=>rfl
 | p::w=>by
  have ih:=u70 (w:=w)
  rcases Nat.lt_or_ge m p.2 with h | h
  ·rw [vc0 h,vq6 h]
   show c (p.2 - 1)+wk c w=wk c (lo m w)+(c (p.2 - m - 1+m)+wk (fun i=>c (i+m)) (up m w))
   rw [show p.2 - m - 1+m=p.2 - 1 by omega];omega
  ·rw [vk5 h,v98 h]
   show c (p.2 - 1)+wk c w=c (p.2 - 1)+wk c (lo m w)+wk (fun i=>c (i+m)) (up m w)
   omega
theorem ur3 (hc:∀ i,0<=c i):∀ {w:List Mv},0<=wk c w
 | []=>Int.le_refl _
 | p::w=>by have:=hc (p.2 - 1);have:=ur3 hc (w:=w);show 0<=c (p.2 - 1)+wk c w;omega
theorem vp9 (hc:∀ i,0<=c i) (h:u.Sublist w):wk c u<=wk c w:=by
 induction h with
 | slnil=>exact Int.le_refl _
 | cons a _ ih=>have:=hc (a.2 - 1);show _<=c (a.2 - 1)+wk c _;omega
 | cons_cons a _ ih=>show c (a.2 - 1)+wk c _<=c (a.2 - 1)+wk c _;omega
end
theorem div_bit {x m i:Nat}:(x / 2 ^ m).testBit i=x.testBit (i+m):=by
 rw [Nat.testBit_div_two_pow]
theorem vp4 {x m k:Nat} (h:m < k):xr x k / 2 ^ m=xr (x / 2 ^ m) (k - m):=Nat.eq_of_testBit_eq fun j=>by
 rw [div_bit,u16,u16,div_bit]
 congr 1
 exact decide_eq_decide.mpr (by omega)
theorem w29 {x m k:Nat} (h1:1<=k) (h:k<=m):xr x k / 2 ^ m=x / 2 ^ m:=Nat.eq_of_testBit_eq fun j=>by
 rw [div_bit,u16,div_bit,decide_eq_false (by omega:¬ k - 1=j+m),Bool.xor_false]
def lgr (n:Nat):Nat->List Mv->Prop
 | _,[]=>True
 | x,p::r=>((1<=p.2 /\ p.2<=n) /\ (p.2=1 \/ x.testBit (p.2 - 2)=true) /\ p.1=!stb p.2 x) /\ lgr n (xr x p.2) r
section
variable {n s m:Nat}
theorem ud6:∀ {w:List Mv} {x:Nat},lgw n s x w->lgr n x w
 | [],_,_=>trivial
 | p::r,x,⟨⟨h1,h2,h3,_⟩,h5⟩=>⟨⟨h1,h2,h3⟩,ud6 h5⟩
theorem ud7:∀ {w:List Mv} {x:Nat},cnt n x<=s->lgw n s x w->∀ y ∈ x::sbh x w,cnt n y<=s
  | [],x,h,_,y,hy=>by (have :y=x:=by simpa [sbh] using hy);subst this;exact h
  | p::r,x,h,h',y,hy=>by
    rcases List.mem_cons.mp hy with e | hy
    · subst e;exact h
    · exact ud7 (x:=xr x p.2) (ui6 (w:=[p]) h ⟨h'.1,trivial⟩) h'.2 y hy
theorem ua3:∀ {w:List Mv} {x:Nat},lgr n x w->(∀ y ∈ sbh x w,cnt n y<=s)->lgw n s x w
 | [],_,_,_=>trivial
 | p::r,x,⟨⟨h1,h2,h3⟩,h5⟩,h=>by
  refine ⟨⟨h1,h2,h3,fun hp=>?_⟩,ua3 h5 fun y hy=>h y (List.mem_cons_of_mem _ hy)⟩;have hf:stb p.2 x=false:=by rw [hp] at h3;simpa using h3.symm
  have:=h (xr x p.2) (List.mem_cons_self ..);rw [u88 h1.1 h1.2 hf] at this;omega
theorem uw7:∀ {w:List Mv} {x:Nat},lgr n x w->lgr m (x % 2 ^ m) (lo m w) /\ fin (x % 2 ^ m) (lo m w)=fin x w % 2 ^ m /\ ∀ y ∈ sbh (x % 2 ^ m) (lo m w),∃ z ∈ sbh x w,y=z % 2 ^ m
 | [],_,_=>⟨trivial,rfl,fun y hy=>by simp [lo,sbh] at hy⟩
 | p::r,x,⟨⟨h1,h2,h3⟩,h5⟩=>by
  obtain ⟨i1,i2,i3⟩:=uw7 (w:=r) h5
  rcases Nat.lt_or_ge m p.2 with h | h
  ·rw [vc0 h]
   rw [<- u78 h] at i1 i2 i3;exact ⟨i1,i2,fun y hy=>by obtain ⟨z,hz,e⟩:=i3 y hy;exact ⟨z,List.mem_cons_of_mem _ hz,e⟩⟩
  ·rw [vk5 h]
   rw [<- ub7 h1.1 h] at i1 i2 i3;refine ⟨⟨⟨⟨h1.1,h⟩,?_,by rw [uh8 h1.1 h];exact h3⟩,i1⟩,i2,fun y hy=>?_⟩
   ·rcases h2 with h2 | h2
    ·exact .inl h2
    ·right
     rw [Nat.testBit_mod_two_pow,h2];simp;omega
   ·rcases List.mem_cons.mp hy with e | hy
    ·exact ⟨xr x p.2,List.mem_cons_self ..,by rw [e,ub7 h1.1 h]⟩
    ·obtain ⟨z,hz,e⟩:=i3 y hy
     exact ⟨z,List.mem_cons_of_mem _ hz,e⟩
theorem um5:∀ {w:List Mv} {x:Nat},lgr n x w->lgr (n - m) (x / 2 ^ m) (up m w) /\ fin (x / 2 ^ m) (up m w)=fin x w / 2 ^ m /\ ∀ y ∈ sbh (x / 2 ^ m) (up m w),∃ z ∈ sbh x w,y=z / 2 ^ m
 | [],_,_=>⟨trivial,rfl,fun y hy=>by simp [up,sbh] at hy⟩
 | p::r,x,⟨⟨h1,h2,h3⟩,h5⟩=>by
  obtain ⟨i1,i2,i3⟩:=um5 (w:=r) h5
  rcases Nat.lt_or_ge m p.2 with h | h
  ·rw [vq6 h]
   rw [vp4 h] at i1 i2 i3;refine ⟨⟨⟨⟨by show 1<=p.2 - m;omega,by show p.2 - m<=n - m;omega⟩,?_,?_⟩,i1⟩,i2,fun y hy=>?_⟩
   ·rcases h2 with h2 | h2
    ·left;show p.2 - m=1;omega
    ·by_cases e:p.2 - m=1
     ·exact .inl e
     ·right
      show (x / 2 ^ m).testBit (p.2 - m - 2)=true
      rw [div_bit,show p.2 - m - 2+m=p.2 - 2 by omega];exact h2
   ·show p.1=!(x / 2 ^ m).testBit (p.2 - m - 1)
    rw [div_bit,show p.2 - m - 1+m=p.2 - 1 by omega];exact h3
   ·rcases List.mem_cons.mp hy with e | hy
    ·exact ⟨xr x p.2,List.mem_cons_self ..,by rw [e,vp4 h]⟩
    ·obtain ⟨z,hz,e⟩:=i3 y hy
     exact ⟨z,List.mem_cons_of_mem _ hz,e⟩
  ·rw [v98 h]
   rw [w29 h1.1 h] at i1 i2 i3;exact ⟨i1,i2,fun y hy=>by obtain ⟨z,hz,e⟩:=i3 y hy;exact ⟨z,List.mem_cons_of_mem _ hz,e⟩⟩
theorem ug5 {x:Nat}:∀ d,cnt (m+d) x=cnt m x+cnt d (x / 2 ^ m)
 | 0=>rfl
 | d+1=>by
  rw [<- Nat.add_assoc,cnt,cnt,ug5 d,div_bit,Nat.add_comm d m];omega
theorem ug6 {x:Nat} (h:m<=n):cnt n x=cnt m x+cnt (n - m) (x / 2 ^ m):=by
 have:=ug5 (m:=m) (x:=x) (n - m)
 rwa [show m+(n - m)=n by omega] at this
theorem un8 {x:Nat}:cnt m (x % 2 ^ m)=cnt m x:=u95 fun i hi=>by
 rw [Nat.testBit_mod_two_pow];simp [hi]
theorem uj5:∀ {m x i:Nat},i < m->x.testBit i=true->1<=cnt m x
 | 0,_,_,h,_=>by omega
 | m+1,x,i,h,hb=>by
  rw [cnt]
  by_cases e:i=m
  ·subst e;rw [hb];simp
  ·have:=uj5 (m:=m) (i:=i) (by omega) hb;omega
theorem ue1 {x:Nat} (h:x % 2 ^ m ≠ 0):1<=cnt m x:=by
 have h0:0 < hi (x % 2 ^ m):=by
  rcases Nat.eq_zero_or_pos (hi (x % 2 ^ m)) with e | e
  ·have:=v47 (x % 2 ^ m)
   rw [e] at this;omega
  ·exact e
 have hb:=vc4 h0;rw [Nat.testBit_mod_two_pow] at hb;simp at hb;exact uj5 hb.1 hb.2
theorem u61 {x:Nat}:∀ {N:Nat},x % 2 ^ N ≠ 0->∃ j,1<=j /\ j<=N /\ x % 2 ^ j=2 ^ (j - 1)
 | 0,h=>by simp [Nat.mod_one] at h
 | N+1,h=>by
  by_cases e:x % 2 ^ N=0
  ·refine ⟨N+1,by omega,Nat.le_refl _,?_⟩
   rw [Nat.mod_pow_succ,e] at h ⊢;have:=Nat.mod_lt (x / 2 ^ N) (by decide:0 < 2);have h2:x / 2 ^ N % 2=1:=by
    rcases Nat.eq_zero_or_pos (x / 2 ^ N % 2) with z | z
    ·rw [z] at h;simp at h
    ·omega
   rw [h2];simp
  ·obtain ⟨j,h1,h2,h3⟩:=u61 e
   exact ⟨j,h1,by omega,h3⟩
theorem greatest {P:Nat->Prop}:∀ {N:Nat},(∃ j,j<=N /\ P j)->∃ m,m<=N /\ P m /\ ∀ j,j<=N->P j->j<=m
 | 0,⟨j,h1,h2⟩=>⟨0,Nat.le_refl _,by rwa [show j=0 by omega] at h2,fun j h _=>h⟩
 | N+1,h=>by
  by_cases e:P (N+1)
  ·exact ⟨N+1,Nat.le_refl _,e,fun j h _=>h⟩
  ·obtain ⟨j,h1,h2⟩:=h
   have hj:j<=N:=by
    rcases Nat.lt_or_ge N j with z | z
    ·exact absurd (by rwa [show j=N+1 by omega] at h2) e
    ·exact z
   obtain ⟨m,q1,q2,q3⟩:=greatest ⟨j,hj,h2⟩;refine ⟨m,by omega,q2,fun i hi hp=>?_⟩
   rcases Nat.lt_or_ge N i with z | z
   ·exact absurd (by rwa [show i=N+1 by omega] at hp) e
   ·exact q3 i z hp
theorem u82 {P:Nat->Prop}:∀ {w:List Mv} {x:Nat},(∃ y ∈ x::sbh x w,P y)->∃ u v,w=u++v /\ P (fin x u) /\ ∀ y ∈ sbh (fin x u) v,¬ P y
 | [],x,⟨y,hy,h⟩=>by
  have e:y=x:=by simpa [sbh] using hy
  subst e;exact ⟨[],[],rfl,h,fun z hz=>by simp [sbh] at hz⟩
 | p::r,x,h=>by
  by_cases e:∃ y ∈ xr x p.2::sbh (xr x p.2) r,P y
  ·obtain ⟨u,v,h1,h2,h3⟩:=u82 e
   exact ⟨p::u,v,by rw [h1];rfl,h2,h3⟩
  ·obtain ⟨y,hy,hP⟩:=h
   have hx:y=x:=by
    rcases List.mem_cons.mp hy with z | z
    ·exact z
    ·exact absurd ⟨y,z,hP⟩ e
   subst hx;exact ⟨[],p::r,rfl,hP,fun z hz hp=>e ⟨z,hz,hp⟩⟩
theorem uk9:∀ {u v:List Mv} {x y:Nat},y ∈ fin x u::sbh (fin x u) v->y ∈ x::sbh x (u++v)
 | [],_,_,_,h=>h
 | p::u,v,x,y,h=>List.mem_cons_of_mem _ (uk9 (u:=u) h)
theorem uh9 {u v:List Mv} {x y:Nat} (h:y ∈ x::sbh x u):y ∈ x::sbh x (u++v):=by
 rw [us5]
 rcases List.mem_cons.mp h with e | e
 ·subst e;exact List.mem_cons_self ..
 ·exact List.mem_cons_of_mem _ (List.mem_append_left _ e)
end
section
variable {c:Nat->Int} {s a b e n:Nat} {x:Int}
theorem Pa.upw (h:Pa (fun i=>c (i+a)) s b e x):Pa c s (b+a) (e+a) x:=by
 generalize hc':(fun i=>c (i+a))=c' at h
 induction h with
 | @one p b =>
  subst hc'
  show Pa c (p+1) (b+a) (b+1+a) (c (b+a))
  rw [show b+1+a=b+a+1 by omega];exact .one
 | two _ _ _ i1 i2 i3=>exact .two i1 i2 i3
theorem Pr.upw (h:Pr (fun i=>c (i+a)) n s b x):Pr c (n+a) s (b+a) x:=by
 generalize hc':(fun i=>c (i+a))=c' at h
 induction h with
 | @one p b he =>
  subst hc';exact .one (by omega)
 | two h1 _ i2=>subst hc';exact .two h1.upw i2
theorem Pa.dnw (h:Pa c s b e x):a<=b->Pa (fun i=>c (i+a)) s (b - a) (e - a) x:=by
 induction h with
 | @one p b =>
  intro ha;have:Pa (fun i=>c (i+a)) (p+1) (b - a) (b - a+1) ((fun i=>c (i+a)) (b - a)):=.one;rw [show b+1 - a=b - a+1 by omega];simpa only [show b - a+a=b by omega] using this
 | two h1 _ _ i1 i2 i3=>intro ha;have:=h1.lt;exact .two (i1 ha) (i2 (by omega)) (i3 ha)
theorem Pa.wok (h:Pa c s b e x):∃ g,WOK b e s true g /\ wk c g=x:=by
 induction h with
 | @one p b=>exact ⟨_,u98 (by omega),by show c (b+1 - 1)+0=c b;rw [Nat.add_sub_cancel];omega⟩
 | two h1 h2 h3 i1 i2 i3 =>
  obtain ⟨g1,a1,e1⟩:=i1;obtain ⟨g2,a2,e2⟩:=i2;obtain ⟨g3,a3,e3⟩:=i3;exact ⟨_,u99 h1.lt.1 h2.lt.1 a1 a2 a3,by rw [u41,u41,ue8,e1,e2,e3]⟩
theorem Pa.way (h:Pa c s b e x):∃ g,lgw (e - b) s 0 g /\ fin 0 g=2 ^ (e - b - 1) /\ wk (fun i=>c (i+b)) g=x:=by
 have h':=h.dnw (Nat.le_refl b);rw [Nat.sub_self] at h';obtain ⟨g,h1,h2⟩:=h'.wok;exact ⟨g,(h1.start (Nat.le_refl _) (Nat.le_refl _)).1,h1.left (by have:=h.lt;omega) (Nat.le_refl _) (Nat.le_refl _),h2⟩
theorem Pa.less (hc:∀ i,0<=c i) (h:Pa c s b e x):∀ q,b<=q->q < e->∃ y,Pa c s q e y /\ y<=x:=by
  induction h with
  | @one p b => intro q h1 h2; have : q = b := by omega
                subst this;exact ⟨_,.one,Int.le_refl _⟩
  | @two p b m e w1 w2 w3 h1 h2 h3 i1 i2 i3 =>
    intro q q1 q2;have p1:=h1.pos hc;have p2:=h2.pos hc;have p3:=h3.pos hc
    rcases Nat.lt_or_ge q m with z | z
    · obtain ⟨y1,r1,s1⟩:=i1 q q1 z
      obtain ⟨y3,r3,s3⟩:=i3 q q1 z;exact ⟨_,.two r1 h2 r3,by omega⟩
    · obtain ⟨y2,r2,s2⟩:=i2 q z q2
      exact ⟨y2,r2.more,by omega⟩
theorem v63 {w:List Mv} {N:Nat} (hN:n<=N) (h:lgw n s 0 w):lgw N s 0 w:=by
 have hall:=ud7 (by rw [u32];omega) h;have hlt:=ua1 (Nat.two_pow_pos n) (u47 h);refine ua3 ?_ fun y hy=>?_
 ·have:∀ {w:List Mv} {x:Nat},lgr n x w->lgr N x w:=by
   intro w
   induction w with
   | nil=>intro _ _;trivial
   | cons p r ih=>intro x hx;exact ⟨⟨⟨hx.1.1.1,by have:=hx.1.1.2;omega⟩,hx.1.2⟩,ih hx.2⟩
  exact this (ud6 h)
 ·obtain ⟨k,rfl⟩:∃ k,N=n+k:=⟨N - n,by omega⟩
  rw [uz9 (hlt y (List.mem_cons_of_mem _ hy))];exact hall y (List.mem_cons_of_mem _ hy)
end
theorem pow_lo {n m:Nat} (h:m < n):2 ^ (n - 1) % 2 ^ m=0:=by
 rw [show n - 1=(n - 1 - m)+m by omega,Nat.pow_add];exact Nat.mul_mod_left _ _
theorem ul6 {n m:Nat} (h:m < n):2 ^ (n - 1) / 2 ^ m=2 ^ (n - m - 1):=by
 rw [show n - 1=(n - m - 1)+m by omega,Nat.pow_add,Nat.mul_div_cancel _ (Nat.two_pow_pos m)]
theorem vn1 {n x:Nat} (h:x % 2 ^ n=0):cnt (n+1) x<=1:=by
 have:cnt n x=0:=by
  rw [<- un8,h,u32]
 rw [cnt,this];split <;> omega
theorem uo6 {n s:Nat} {w:List Mv} (hn:2<=n) (h:lgw n s 0 w) (hb:(fin 0 w).testBit (n - 1)=true):2<=s:=by
 obtain ⟨u,v,rfl,h1,h2⟩:=u82 (w:=w) (P:=fun y=>y.testBit (n - 1)=false) ⟨0,List.mem_cons_self ..,Nat.zero_testBit _⟩;cases v with
 | nil=>rw [List.append_nil,h1] at hb;cases hb
 | cons p r =>
  obtain ⟨⟨q1,q2,q3,q4⟩,_⟩:=(lgw_app.mp h).2;have hx:=h2 (xr (fin 0 u) p.2) (List.mem_cons_self ..);have hp:p.2 - 1=n - 1:=by
   by_cases e:p.2 - 1=n - 1
   ·exact e
   ·rw [u16,decide_eq_false e,Bool.xor_false] at hx
    exact absurd h1 hx
  have hs:stb p.2 (fin 0 u)=false:=by unfold stb;rw [hp];exact h1
  rw [hs] at q3;have:=q4 q3
  rcases q2 with z | z
  ·omega
  ·have:=uj5 (m:=n) (by omega) z
   omega
theorem ue4 {n m:Nat}:(2 ^ n).testBit m=decide (n=m):=Nat.testBit_two_pow
theorem vy1 {x m:Nat} (h:x / 2 ^ m=0):x < 2 ^ m:=by
 rcases (Nat.div_eq_zero_iff).mp h with z | z
 ·have:=Nat.two_pow_pos m;omega
 ·exact z
theorem ui1:∀ {u v:List Mv} {x:Nat},nrm x (u++v)->∀ p ∈ u,∀ y ∈ fin x u::sbh (fin x u) v,p.2<=hi y
 | [],_,_,_,p,hp=>by simp at hp
 | q::u,v,x,⟨h1,h2⟩,p,hp=>by
  intro y hy
  rcases List.mem_cons.mp hp with e | hp
  ·subst e
   exact low_le.mp h1 y (uk9 (u:=u) hy)
  ·exact ui1 (u:=u) h2 p hp y hy
theorem vc1 {m:Nat}:∀ {w:List Mv},(∀ p ∈ w,p.2<=m)->lo m w=w
 | [],_=>rfl
 | p::w,h=>by rw [vk5 (h p (List.mem_cons_self ..)),vc1 fun q hq=>h q (List.mem_cons_of_mem _ hq)]
theorem um9 {x m:Nat} (h:x < 2 ^ m):hi x<=m:=by
 rcases Nat.lt_or_ge m (hi x) with z | z
 ·have hb:=vc4 (m:=x) (by omega)
  have:=Nat.ge_two_pow_of_testBit hb;have:=Nat.pow_le_pow_right (n:=2) (by decide) (by omega:m<=hi x - 1);omega
 ·exact z
theorem w00 {x m:Nat} (h:m+1<=hi x):x / 2 ^ m ≠ 0:=fun e=>by
 have:=um9 (vy1 e);omega
theorem ul7 {x n:Nat} (hx:x < 2 ^ n) (hn:1<=n) (h:x % 2 ^ (n - 1)=0) (h0:x ≠ 0):x=2 ^ (n - 1):=by
 have e:=Nat.div_add_mod x (2 ^ (n - 1));have e2:2 ^ n=2 ^ (n - 1) * 2:=by rw [<- Nat.pow_succ];congr 1;omega
 rw [h] at e;have:x / 2 ^ (n - 1) < 2:=by rw [Nat.div_lt_iff_lt_mul (Nat.two_pow_pos _),Nat.mul_comm,<- e2];exact hx
 have:x / 2 ^ (n - 1)=1:=by
  rcases Nat.eq_zero_or_pos (x / 2 ^ (n - 1)) with z | z
  ·rw [z] at e;omega
  ·omega
 rw [this] at e;omega
theorem uf7 {x q p:Nat} (h:q<=p) (hx:x % 2 ^ q ≠ 0):x % 2 ^ p ≠ 0:=fun e=>hx (by
 rw [<- Nat.mod_mod_of_dvd x (Nat.pow_dvd_pow 2 h),e,Nat.zero_mod])
section
variable {c:Nat->Int} {n s:Nat}
theorem ug1 {m p:Nat} {v:List Mv} {y:Int} (hs:1<=s) (hpm:p < m) (hmn:m < n) (hv:lgr n (2 ^ (m - 1)) v) (hf:fin (2 ^ (m - 1)) v=2 ^ (n - 1))
  (hcn:∀ x ∈ sbh (2 ^ (m - 1)) v,cnt (n - p) (x / 2 ^ p)<=s) (hy:Pa c s p m y)
  (IH:∀ (c:Nat->Int) (w:List Mv),(∀ i,0<=c i)->lgw (n - p) s 0 w->fin 0 w=2 ^ (n - p - 1)->∃ x,Pa c s 0 (n - p) x /\ x<=wk c w) (hc:∀ i,0<=c i) :
  ∃ z,Pa c s p n z /\ z<=y+wk (fun i=>c (i+p)) (up p v):=by
 obtain ⟨g,g1,g2,g3⟩:=hy.way;obtain ⟨u1,u2,u3⟩:=um5 (m:=p) hv;rw [ul6 hpm] at u1 u2 u3;rw [hf,ul6 (by omega)] at u2;have hw:lgw (n - p) s 0 (g++up p v):=by
  rw [lgw_app,g2];refine ⟨v63 (by omega) g1,ua3 u1 fun x hx=>?_⟩;obtain ⟨z,hz,rfl⟩:=u3 x hx;exact hcn z hz
 obtain ⟨z,z1,z2⟩:=IH (fun i=>c (i+p)) _ (fun i=>hc _) hw (by rw [u29,g2,u2]);have z3:=z1.upw;rw [Nat.zero_add,show n - p+p=n by omega] at z3;exact ⟨z,z3,by rw [u41,g3] at z2;exact z2⟩
theorem ud2 {m:Nat} {u:List Mv} {y:Nat} (hu:lgr n y u) (hy:y % 2 ^ m=0) (hf:fin y u % 2 ^ m=2 ^ (m - 1)) (hcn:∀ x ∈ sbh y u,cnt m x<=s)
  (IH:∀ (c:Nat->Int) (w:List Mv),(∀ i,0<=c i)->lgw m s 0 w->fin 0 w=2 ^ (m - 1)->∃ x,Pa c s 0 m x /\ x<=wk c w) (hc:∀ i,0<=c i) :
  ∃ x,Pa c s 0 m x /\ x<=wk c (lo m u):=by
 obtain ⟨u1,u2,u3⟩:=uw7 (m:=m) hu;rw [hy] at u1 u2 u3;refine IH c _ hc (ua3 u1 fun x hx=>?_) (u2.trans hf);obtain ⟨z,hz,rfl⟩:=u3 x hx;rw [un8];exact hcn z hz
theorem uf5 {m:Nat} {u:List Mv} {y:Nat} (hu:lgr n y u) (hy:y % 2 ^ m=2 ^ (m - 1)) (hf:fin y u % 2 ^ m=0) (hcn:∀ x ∈ y::sbh y u,cnt m x<=s)
  (IH:∀ (c:Nat->Int) (w:List Mv),(∀ i,0<=c i)->lgw m s 0 w->fin 0 w=2 ^ (m - 1)->∃ x,Pa c s 0 m x /\ x<=wk c w) (hc:∀ i,0<=c i) :
  ∃ x,Pa c s 0 m x /\ x<=wk c (lo m u):=by
 obtain ⟨u1,u2,u3⟩:=uw7 (m:=m) hu;have h0:=hcn y (List.mem_cons_self ..);rw [<- un8] at h0;have hw:lgw m s (y % 2 ^ m) (lo m u):=ua3 u1 fun x hx=>by
  obtain ⟨z,hz,rfl⟩:=u3 x hx;rw [un8];exact hcn z (List.mem_cons_of_mem _ hz)
 obtain ⟨b1,b2⟩:=ui7 h0 hw;rw [u2,hf] at b1 b2;obtain ⟨x,x1,x2⟩:=IH c _ hc b1 (b2.trans hy);exact ⟨x,x1,by rwa [ue8] at x2⟩
end
theorem u42:∀ (n:Nat) (c:Nat->Int) (s:Nat) (w:List Mv),n<=900->1<=n->(∀ i,0<=c i)->lgw n s 0 w->fin 0 w=2 ^ (n - 1)->∃ x,Pa c s 0 n x /\ x<=wk c w:=by
  intro n
  induction n using Nat.strongRecOn with
  | _ n ihn =>
  intro c s w h900 hn hc hw hf;have IH:∀ (m s:Nat),1<=m->m < n->∀ (c:Nat->Int) (w:List Mv),(∀ i,0<=c i)->lgw m s 0 w->fin 0 w=2 ^ (m - 1)->∃ x,Pa c s 0 m x /\ x<=wk c w:=fun m s h1 h2 c w=>ihn m h2 c s w (by omega) h1
  clear ihn;generalize hlen:w.length=len
  induction len using Nat.strongRecOn generalizing w with
  | _ len ihl =>
  by_cases hth:once w=w
  case neg =>
    have hlt:(once w).length < w.length:=by
      rcases Nat.lt_or_ge (once w).length w.length with z | z
      · exact z
      · exact absurd (v43 (by have:=ul8 w;omega)) hth
    have z0:0 % 2 ^ low 0 w=0:=Nat.zero_mod _;have l1:=ui5 hw;rw [z0] at l1;have l2:=uj1 (uw5 h900 hw);rw [z0] at l2;obtain ⟨x,x1,x2⟩:=ihl _ (by rw [<- hlen];exact hlt) (once w) l1 (l2.trans hf) rfl;exact ⟨x,x1,Int.le_trans x2 (vp9 hc thw_sub)⟩
  case pos =>
  clear ihl hlen;have thin:=vb6 hth;have hall:=ud7 (by rw [u32];omega) hw;have hlt:=ua1 (Nat.two_pow_pos n) (u47 hw);have hne:∃ r,w=(true,1)::r:=by
    cases w with
    | nil => have h0 : 0 = 2 ^ (n - 1) := hf
             have:=Nat.two_pow_pos (n - 1);omega
    | cons p r =>
      obtain ⟨⟨q1,q2,q3,q4⟩,_⟩:=hw;have e2:p.2=1:=q2.resolve_right (by rw [Nat.zero_testBit];exact Bool.false_ne_true);have e1:p.1=true:=by rw [q3];unfold stb;rw [Nat.zero_testBit];rfl
      exact ⟨r,by rw [<- e1,<- e2]⟩
  obtain ⟨r,hr⟩:=hne;have hs1:1<=s:=by
    rw [hr] at hw;have:=hw.1.2.2.2 rfl;rw [u32] at this;omega
  by_cases hn1:n=1
  · subst hn1
    obtain ⟨s,rfl⟩:∃ k,s=k+1:=⟨s - 1,by omega⟩;refine ⟨c 0,.one,?_⟩;rw [hr];have:=ur3 hc (w:=r)
    show c 0<=c 0+wk c r
    omega
  have hs2:2<=s:=uo6 (by omega) hw (by rw [hf,ue4,decide_eq_true rfl]);obtain ⟨s,rfl⟩:∃ k,s=k+1:=⟨s - 1,by omega⟩;have hs:1<=s:=by omega
  obtain ⟨m,hm1,⟨hm0,hmx⟩,hmax⟩:=greatest (N:=n - 1) (P:=fun m=>1<=m /\ ∃ x ∈ 0::sbh 0 w,x % 2 ^ m=2 ^ (m - 1)) ⟨1,by omega,Nat.le_refl _,xr 0 1,by rw [hr];simp [sbh],by unfold xr;simp⟩;have H:∀ x ∈ 0::sbh 0 w,x % 2 ^ (n - 1) ≠ 0->x % 2 ^ m ≠ 0:=by
    intro x hx h;obtain ⟨j,j1,j2,j3⟩:=u61 h;have:=hmax j j2 ⟨j1,x,hx,j3⟩;exact uf7 this (by rw [j3];exact Nat.ne_of_gt (Nat.two_pow_pos _))
  have H0:∀ q x,x ∈ 0::sbh 0 w->q < n->(x % 2 ^ q ≠ 0 \/ x=0 \/ x=2 ^ (n - 1))->cnt (n - q) (x / 2 ^ q)<=s:=by
    intro q x hx hq h
    rcases h with h | h | h
    · have h1:=ue1 h
      have h2:=hall x hx;rw [ug6 (by omega:q<=n)] at h2;omega
    · rw [h,Nat.zero_div,u32];omega
    · rw [h,ul6 hq]
      have:=vn1 (n:=n - q - 1) (x:=2 ^ (n - q - 1)) (Nat.mod_self _);rw [show n - q - 1+1=n - q by omega] at this;omega
  have H1:∀ q x,x ∈ 0::sbh 0 w->q<=n->x / 2 ^ q ≠ 0->cnt q x<=s:=by
    intro q x hx hq h;have h2:=hall x hx;rw [ug6 hq] at h2;have h3:x / 2 ^ q < 2 ^ (n - q):=by
      rw [Nat.div_lt_iff_lt_mul (Nat.two_pow_pos _),<- Nat.pow_add,show n - q+q=n by omega];exact hlt x hx
    have:=ue1 (m:=n - q) (x:=x / 2 ^ q) (by rw [Nat.mod_eq_of_lt h3];exact h);omega
  obtain ⟨u,v,rfl,hu,hv⟩:=u82 hmx;have lr:=ud6 hw;obtain ⟨lu,lv⟩:=lgw_app.mp hw;have ru:=ud6 lu;have rv:=ud6 lv;rw [u29] at hf;have inu:∀ x ∈ sbh 0 u,x ∈ 0::sbh 0 (u++v):=fun x hx=>uh9 (List.mem_cons_of_mem _ hx)
  have inv:∀ x ∈ fin 0 u::sbh (fin 0 u) v,x ∈ 0::sbh 0 (u++v):=fun x hx=>uk9 hx
  have hcm:∀ x ∈ sbh 0 u,cnt m x<=s+1:=fun x hx=>by
    have:=hall x (inu x hx);rw [ug6 (by omega:m<=n)] at this;omega
  by_cases hcase:∀ x ∈ fin 0 u::sbh (fin 0 u) v,x / 2 ^ m ≠ 0
  · obtain ⟨x1,a1,b1⟩:=ud2 ru (Nat.zero_mod _) hu hcm (IH m (s+1) hm0 (by omega)) hc
    obtain ⟨x3,a3,b3⟩:=uf5 (s:=s) rv hu (by rw [hf];exact pow_lo (by omega)) (fun x hx=>H1 m x (inv x hx) (by omega) (hcase x hx)) (IH m s hm0 (by omega)) hc;obtain ⟨u1,u2,u3⟩:=um5 (m:=m) lr;rw [Nat.zero_div] at u1 u2 u3;have hup:lgw (n - m) s 0 (up m (u++v)):=ua3 u1 fun y hy=>by
      obtain ⟨z,hz,rfl⟩:=u3 y hy;have hz:=List.mem_cons_of_mem 0 hz;refine H0 m z hz (by omega) ?_
      by_cases e:z % 2 ^ (n - 1)=0
      · by_cases e0:z=0
        · exact .inr (.inl e0)
        · exact .inr (.inr (ul7 (hlt z hz) hn e e0))
      · exact .inl (H z hz e)
    obtain ⟨x2,a2,b2⟩:=IH (n - m) s (by omega) (by omega) (fun i=>c (i+m)) _ (fun i=>hc _) hup (by rw [u2,u29,hf,ul6 (by omega)]);have a2:=a2.upw;rw [Nat.zero_add,show n - m+m=n by omega] at a2;refine ⟨_,.two a1 a2 a3,?_⟩;rw [u70 (m:=m),uw4,u41];omega
  · -- it goes back to no mark above m
    have hcase:∃ x,x ∈ fin 0 u::sbh (fin 0 u) v /\ x / 2 ^ m=0:=by
      by_cases e:∃ x,x ∈ fin 0 u::sbh (fin 0 u) v /\ x / 2 ^ m=0
      · exact e
      · exact absurd (fun x hx h=>e ⟨x,hx,h⟩) hcase
    obtain ⟨t,ht,ht0⟩:=hcase;have ule:∀ p ∈ u,p.2<=m:=fun p hp=>Nat.le_trans (ui1 thin p hp t ht) (um9 (vy1 ht0))
    have eu:fin 0 u=2 ^ (m - 1):=by
      have h1:fin 0 u < 2 ^ m:=ua1 (Nat.two_pow_pos m) (fun p hp=>⟨(u47 lu p hp).1,ule p hp⟩) _ u83;rw [Nat.mod_eq_of_lt h1] at hu;exact hu
    obtain ⟨x1,a1,b1⟩:=ud2 ru (Nat.zero_mod _) hu hcm (IH m (s+1) hm0 (by omega)) hc;rw [vc1 ule] at b1;rw [eu] at hf hv rv lv inv;have hlay:∃ p ∈ u,p.2=m:=by
      by_cases e:∃ p ∈ u,p.2=m
      · exact e
      · have h1 : fin 0 u < 2 ^ (m - 1) := ua1 (Nat.two_pow_pos _) (fun p hp => ⟨(u47 lu p hp).1,by
          have:=ule p hp
          rcases Nat.lt_or_ge p.2 m with z | z
          · omega
          · exact absurd ⟨p,hp,by omega⟩ e⟩) _ u83
        rw [eu] at h1;exact absurd h1 (Nat.lt_irrefl _)
    obtain ⟨pm,hpm,epm⟩:=hlay;have hhi:∀ x ∈ 2 ^ (m - 1)::sbh (2 ^ (m - 1)) v,m<=hi x:=fun x hx=>by
      have:=ui1 thin pm hpm x (by rw [eu];exact hx);omega
    have hvne:v ≠ []:=fun e=>by
      subst e;have hf:2 ^ (m - 1)=2 ^ (n - 1):=hf;have:=Nat.pow_lt_pow_right (a:=2) (by decide) (by omega:m - 1 < n - 1);omega
    have hfirst:1 < m /\ xr (2 ^ (m - 1)) 1 ∈ sbh (2 ^ (m - 1)) v:=by
      cases v with
      | nil=>exact absurd rfl hvne
      | cons p v' =>
        obtain ⟨q1,q2,q3⟩:=rv.1;have hx:xr (2 ^ (m - 1)) p.2 ∈ sbh (2 ^ (m - 1)) (p::v'):=List.mem_cons_self ..;have k1:p.2=1:=by
          rcases q2 with z | z
          · exact z
          · rw [ue4] at z
            have z:m - 1=p.2 - 2:=of_decide_eq_true z
            by_cases z1:p.2=1
            · exact z1
            · have hk:m < p.2:=by omega
              refine absurd ?_ (hv _ hx);rw [<- u78 hk];exact Nat.mod_eq_of_lt (Nat.pow_lt_pow_right (by decide) (by omega))
        rw [k1] at hx;have hm2:1 < m:=by
          rcases Nat.lt_or_ge 1 m with z | z
          · exact z
          · have e:m=1:=by omega
            subst e;have:=hhi _ (List.mem_cons_of_mem _ hx);unfold xr at this;simp [hi] at this
        exact ⟨hm2,hx⟩
    obtain ⟨hm2,hone⟩:=hfirst;obtain ⟨q,hq1,⟨hq0,hqx⟩,hqmax⟩:=greatest (N:=m - 1) (P:=fun q=>1<=q /\ ∃ x ∈ 2 ^ (m - 1)::sbh (2 ^ (m - 1)) v,x % 2 ^ q=2 ^ (q - 1)) ⟨1,by omega,Nat.le_refl _,_,List.mem_cons_of_mem _ hone,by
      have hb:(xr (2 ^ (m - 1)) 1).testBit 0=true:=by rw [u16,ue4,decide_eq_false (by omega:¬ m - 1=0)];rfl
      rw [Nat.testBit_zero] at hb;exact of_decide_eq_true hb⟩
    have H2:∀ x ∈ sbh (2 ^ (m - 1)) v,x % 2 ^ q ≠ 0 \/ x=0 \/ x=2 ^ (n - 1):=by
      intro x hx;have hxw:=inv x (List.mem_cons_of_mem _ hx)
      by_cases e:x % 2 ^ (m - 1)=0
      · by_cases e1:x % 2 ^ (n - 1)=0
        · by_cases e0:x=0
          · exact .inr (.inl e0)
          · exact .inr (.inr (ul7 (hlt x hxw) hn e1 e0))
        · have e2:=H x hxw e1
          obtain ⟨j,j1,j2,j3⟩:=u61 e2
          rcases Nat.lt_or_ge j m with z | z
          · have:=uf7 (x:=x) (q:=j) (p:=m - 1) (by omega) (by rw [j3];exact Nat.ne_of_gt (Nat.two_pow_pos _))
            exact absurd e this
          · have:j=m:=by omega
            subst this;exact absurd j3 (hv x hx)
      · obtain ⟨j,j1,j2,j3⟩:=u61 e
        have:=hqmax j j2 ⟨j1,x,List.mem_cons_of_mem _ hx,j3⟩;exact .inl (uf7 this (by rw [j3];exact Nat.ne_of_gt (Nat.two_pow_pos _)))
    rw [u41];generalize hgM:m=M at a1;cases a1 with
    | one=>omega
    | @two _ _ p _ y1 y2 y3 d1 d2 d3 =>
    subst hgM;have hp1:=d1.lt;have hp2:=d2.lt
    rcases Nat.lt_or_ge p q with hpq | hpq
    · obtain ⟨y2',d2',l2'⟩:=d2.less hc q (by omega) (by omega)
      obtain ⟨z2,e2,f2⟩:=ug1 hs (by omega) (by omega) rv hf (fun x hx=>H0 q x (inv x (List.mem_cons_of_mem _ hx)) (by omega) (H2 x hx)) d2' (IH (n - q) s (by omega) (by omega)) hc;obtain ⟨v1,v2,rfl,hv1,_⟩:=u82 hqx;obtain ⟨lv1,lv2⟩:=lgw_app.mp lv;rw [u29] at hf;have hq':∀ x ∈ 2 ^ (m - 1)::sbh (2 ^ (m - 1)) (v1++v2),cnt q x<=s:=fun x hx=>H1 q x (inv x hx) (by omega) (w00 (by have:=hhi x hx;omega))
      obtain ⟨z1,e1,f1⟩:=ud2 (s:=s) (ud6 lv1) (pow_lo (by omega)) hv1 (fun x hx=>hq' x (uh9 (List.mem_cons_of_mem _ hx))) (IH q s hq0 (by omega)) hc;obtain ⟨z3,e3,f3⟩:=uf5 (s:=s) (ud6 lv2) hv1 (by rw [hf];exact pow_lo (by omega)) (fun x hx=>hq' x (uk9 hx)) (IH q s hq0 (by omega)) hc;refine ⟨_,.two e1.more e2 e3,?_⟩;have:=d1.pos hc;have:=d3.pos hc;rw [u70 (m:=q) (w:=v1++v2),uw4,u41];omega
    · obtain ⟨z2,e2,f2⟩:=ug1 hs (by omega) (by omega) rv hf (fun x hx=>H0 p x (inv x (List.mem_cons_of_mem _ hx)) (by omega) ((H2 x hx).imp_left (uf7 hpq))) d2 (IH (n - p) s (by omega) (by omega)) hc
      refine ⟨_,.two d1 e2 d3,?_⟩;have:=ur3 hc (w:=lo p v);rw [u70 (m:=p) (w:=v)];omega
theorem u64:∀ (n:Nat) (c:Nat->Int) (s:Nat) (w:List Mv),n<=900->1<=n->(∀ i,0<=c i)->lgw n s 0 w->(fin 0 w).testBit (n - 1)=true->∃ x,Pr c n s 0 x /\ x<=wk c w:=by
 intro n
 induction n using Nat.strongRecOn with
 | _ n ih =>
 intro c s w h900 hn hc hw hf;have hall:=ud7 (by rw [u32];omega) hw;have hlt:=ua1 (Nat.two_pow_pos n) (u47 hw);have hend:(fin 0 w) % 2 ^ n ≠ 0:=fun e=>by
  have h1:=hlt _ u83;rw [Nat.mod_eq_of_lt h1] at e;rw [e,Nat.zero_testBit] at hf;cases hf
 obtain ⟨j,j1,j2,j3⟩:=u61 hend;obtain ⟨m,hm1,⟨hm0,hmx⟩,hmax⟩:=greatest (N:=n) (P:=fun m=>1<=m /\ ∃ x ∈ 0::sbh 0 w,x % 2 ^ m=2 ^ (m - 1)) ⟨j,j2,j1,_,u83,j3⟩;obtain ⟨u,v,rfl,hu,_⟩:=u82 hmx;have lr:=ud6 hw;obtain ⟨lu,lv⟩:=lgw_app.mp hw;obtain ⟨x1,a1,b1⟩:=ud2 (s:=s) (ud6 lu) (Nat.zero_mod _) hu (fun x hx=>by
  have:=hall x (uh9 (List.mem_cons_of_mem _ hx));rw [ug6 hm1] at this;omega) (fun c w h1 h2 h3=>u42 m c s w (by omega) hm0 h1 h2 h3) hc
 have hwk:wk c (u++v)=wk c (lo m u)+wk c (lo m v)+wk (fun i=>c (i+m)) (up m (u++v)):=by
  rw [u70 (m:=m),uw4,u41]
 have n1:=ur3 hc (w:=lo m v);have n2:=ur3 (c:=fun i=>c (i+m)) (fun i=>hc _) (w:=up m (u++v));rw [hwk]
 by_cases e:m=n
 ·subst e
  obtain ⟨y,y1,y2⟩:=a1.pr hc;exact ⟨y,y1,by omega⟩
 ·obtain ⟨s,rfl⟩:∃ k,s=k+1:=⟨s - 1,by have:=a1.lt;omega⟩
  obtain ⟨u1,u2,u3⟩:=um5 (m:=m) lr;rw [Nat.zero_div] at u1 u2 u3;have hup:lgw (n - m) s 0 (up m (u++v)):=ua3 u1 fun y hy=>by
   obtain ⟨z,hz,rfl⟩:=u3 y hy;have hz:=List.mem_cons_of_mem 0 hz
   by_cases e0:z=0
   ·rw [e0,Nat.zero_div,u32];omega
   ·obtain ⟨i,i1,i2,i3⟩:=u61 (x:=z) (N:=n) (by rw [Nat.mod_eq_of_lt (hlt z hz)];exact e0)
    have hz2:=uf7 (hmax i i2 ⟨i1,z,hz,i3⟩) (by rw [i3];exact Nat.ne_of_gt (Nat.two_pow_pos _));have h1:=ue1 hz2;have h2:=hall z hz;rw [ug6 hm1] at h2;omega
  obtain ⟨x2,a2,b2⟩:=ih (n - m) (by omega) (fun i=>c (i+m)) s _ (by omega) (by omega) (fun i=>hc _) hup (by
   rw [u2,div_bit,show n - m - 1+m=n - 1 by omega];exact hf)
  have a2:=a2.upw;rw [Nat.zero_add,show n - m+m=n by omega] at a2;exact ⟨_,.two a1 a2,by omega⟩
theorem ug2 {n s:Nat} {w:List Mv} (h:lgw n s 0 w) (hb:(fin 0 w).testBit (n - 1)=true):∃ l t,w=l++(true,n)::t /\ ¬ (true,n) ∈ l /\ lgw n s 0 (l++[(true,n)]) /\ (fin 0 (l++[(true,n)])).testBit (n - 1)=true:=by
 have hm:(true,n) ∈ w:=by
  obtain ⟨u,v,rfl,h1,h2⟩:=u82 (w:=w) (P:=fun y=>y.testBit (n - 1)=false) ⟨0,List.mem_cons_self ..,Nat.zero_testBit _⟩;cases v with
  | nil=>rw [List.append_nil,h1] at hb;cases hb
  | cons p r =>
   obtain ⟨⟨q1,q2,q3,q4⟩,_⟩:=(lgw_app.mp h).2;have hx:=h2 (xr (fin 0 u) p.2) (List.mem_cons_self ..);have hp:p.2 - 1=n - 1:=by
    by_cases e:p.2 - 1=n - 1
    ·exact e
    ·rw [u16,decide_eq_false e,Bool.xor_false] at hx
     exact absurd h1 hx
   have hs:stb p.2 (fin 0 u)=false:=by unfold stb;rw [hp];exact h1
   rw [hs] at q3;have e:p=(true,n):=Prod.ext q3 (by show p.2=n;omega);rw [<- e];exact List.mem_append_right _ (List.mem_cons_self ..)
 obtain ⟨l,t,e,hl⟩:=List.eq_append_cons_of_mem hm;subst e;obtain ⟨h1,h2,h3⟩:=lgw_app.mp h;refine ⟨l,t,rfl,hl,lgw_app.mpr ⟨h1,h2,trivial⟩,?_⟩;rw [u29]
 show (xr (fin 0 l) n).testBit (n - 1)=true
 refine uc7 ?_;have:=h2.2.2.1;unfold stb at this;simpa using this.symm
theorem PLN.first {n s:Nat} {b:Bool} {P:List Pm} (h:PLN n s b P):∃ (l:List Mv) (t:List Pm),P=l.map some++some (true,n)::t /\ ¬ (true,n) ∈ l /\ lgw n s 0 (l++[(true,n)]) /\ (fin 0 (l++[(true,n)])).testBit (n - 1)=true:=by
 unfold PLN at h;split at h
 ·obtain ⟨w,rfl,hw,e⟩:=h
  obtain ⟨l,t,rfl,h1,h2,h3⟩:=ug2 hw (by rw [e,ue4,decide_eq_true rfl]);exact ⟨l,t.map some,by simp,h1,h2,h3⟩
 ·obtain ⟨u,v,rfl,hu,hv,e,hb⟩:=h
  obtain ⟨l,t,rfl,h1,h2,h3⟩:=ug2 hu hb;exact ⟨l,t.map some++[none]++(bkw v).map some,by simp,h1,h2,h3⟩
theorem w03 {c:Nat->Int} {n s:Nat} {far:Int} {w:List Mv} (hc:∀ i,0<=c i) (hn:1<=n) (h9:n<=900) (hf:LeastR c n s 0 far) (hw:lgw n s 0 w) (hb:(fin 0 w).testBit (n - 1)=true):far<=wk c w:=by
 obtain ⟨x,h1,h2⟩:=u64 n c s w h9 hn hc hw hb;exact Int.le_trans (hf.2 x h1) h2
theorem vk6 {c:Nat->Int} {n s:Nat} {far:Int} {w:List Mv} (hc:∀ i,0<=c i) (hn:1<=n) (h9:n<=900) (hf:LeastA c s 0 n far) (hw:lgw n s 0 w) (hb:fin 0 w=2 ^ (n - 1)):far<=wk c w:=by
 obtain ⟨x,h1,h2⟩:=u42 n c s w h9 hn hc hw hb;exact Int.le_trans (hf.2 x h1) h2
end L3
namespace L2
open PySem PySem.Spec PyProof.Rows
section
variable {X:Cx}
theorem up2 (hu:X.A.units+1 < cLine):OpR X (compareOp .NotIn) (fun x y H Q=>∃ a kvs k,x=kV k /\ y=.ref a /\ (H a=some (.dK kvs) \/ ∃ o,H a=some (.frz o (.dK kvs))) /\ Q (.bl (!(valV kvs k).isSome)) H):=by
 intro pins s σ H x y v u Q I rx ry h;obtain ⟨a,kvs,k,rfl,rfl,ha,q⟩:=h;obtain rfl:u=Value.ref a:=ry;exact vm3 hu I (.inl ⟨kvs,k,ha,rfl,rfl⟩) rx fun s' I'=>⟨.bl _,H,I',rfl,q⟩
end
end L2
namespace L3
open PySem PySem.Spec PyProof.Rows L2
section
variable {X:Cx} {K:PySem.W.Frag} {H:Hp}
@[reducible] def w34 (neg:Bool):R3:=fun x y G q=>∃ (k:Key) (kvs:List (Key × D)) (a:Addr),x=kD k /\ y=.ref a /\ (G a=some (.dic kvs) \/ G a=some (.frd kvs)) /\ q (.bl (if neg then !(valK kvs k).isSome else (valK kvs k).isSome)) G
theorem uk7 {kvs:List (Key × D)} {ys:List (Key × V)} {k:Key} (rp:RelPs K H kvs ys):(valK kvs k).isSome=(valV ys k).isSome:=by
 rcases u59 (k:=k) rp with ⟨z1,z2⟩ | ⟨d',w,z1,z2,z3⟩
 ·rw [z1,z2];rfl
 ·rw [z1,z2];rfl
theorem uq8 {k:Nat} (hr:Room k X.A):Op3 X (compareOp .NotIn) (w34 true):=u54 (up2 (ub5 hr)) <| by
 rintro x y H Q ⟨d,e,G,q,r1,r2,c,⟨k,kvs,a,rfl,rfl,hg,t⟩,f⟩;cases r2.ref_inv;obtain rfl:=uc1 r1
 rcases hg with hg | hg
 ·obtain ⟨ys,e,rp⟩:=c a _ hg
  exact ⟨a,ys,k,rfl,rfl,.inl e,by rw [<- uk7 rp];exact f _ _ _ _ RelD.blI c (Le.refl H) t⟩
 ·obtain ⟨o,ys,e,rp⟩:=c a _ hg
  exact ⟨a,ys,k,rfl,rfl,.inr ⟨o,e⟩,by rw [<- uk7 rp];exact f _ _ _ _ RelD.blI c (Le.refl H) t⟩
def vc9 (tk tv:TE3):TE3:=fun σ G q=>∀ p,G p=none->tk σ (gup G p (.dic [])) fun x G1=>tv σ G1 fun y G2=>G2 p=some (.dic []) /\ ∃ k:Key,x=kD k /\ q (.ref p) (gup G2 p (.dic [(k,y)]))
theorem vm0 {ek ev:Expr} {tk tv:TE3} {pos:Pos} (hk:E3 X ek tk) (hv:E3 X ev tv):E3 X (.Dict [some ek] [ev] pos) (vc9 tk tv) :=
 u34 (vi6 (v32 hk hv vi1) rfl rfl (by simp) (by show 1<=15;decide)) fun σ H Q h=>by
  obtain ⟨σd,G,q,rs,c,t,f⟩:=h;intro p hp;have l0:Le H (upd H p (.dK [])):=Le.fresh hp;have c0:Con X.K (gup G p (.dic [])) (upd H p (.dK [])):=c.put (o:=.dic []) l0 ⟨[],u14,rfl,.nil⟩;refine ⟨σd,_,_,rs.le l0,c0,t p (c.fresh hp),fun x G1 v H1 r1 c1 l1 t1=>⟨σd,G1,_,rs.le (l0.trans l1),c1,t1,fun y G2 u H2 r2 c2 l2 t2=>?_⟩⟩;obtain ⟨hg,k,rfl,t3⟩:=t2;obtain rfl:=uc1 r1;obtain ⟨ys,e,rp⟩:=c2 p _ hg;have hy:ys=[]:=by have:=congrArg List.length rp.1;simpa using this.symm
  subst hy;have l5:Le H2 (upd H2 p (.dK (putK [] k u))):=Le.dK e;refine ⟨e,[(k,u)],rfl,by show 1<=15;decide,?_⟩;exact f _ _ _ _ RelD.refI (c2.put (o:=.dic [(k,y)]) l5 ⟨_,u14,(ul5 (k:=k) r2 (K:=X.K) (H:=H2) (kvs:=[]) (ys:=[]) ⟨rfl,.nil⟩).le l5⟩) (l0.trans (l1.trans (l2.trans l5))) t3
end
end L3
namespace L3
open PySem PySem.Spec PyProof.Rows L2 Rw
def RS (n s m:Nat):Prop:=∃ w,lgw n s 0 w /\ fin 0 w=m
section
variable {n s m:Nat}
theorem RS.zero:RS n s 0:=⟨[],trivial,rfl⟩
theorem RS.step {p:Mv} (h:RS n s m) (hp:lgl n s m p):RS n s (xr m p.2):=by
 obtain ⟨w,h1,h2⟩:=h;refine ⟨w++[p],lgw_app.mpr ⟨h1,?_,trivial⟩,?_⟩
 ·rw [h2];exact hp
 ·rw [u29,h2];rfl
theorem RS.lt (h:RS n s m):m < 2 ^ n:=by
 obtain ⟨w,h1,h2⟩:=h;rw [<- h2];exact uw6 h1
theorem RS.all {F:List Nat} (h0:0 ∈ F) (hc:∀ x ∈ F,∀ p,lgl n s x p->xr x p.2 ∈ F) (h:RS n s m):m ∈ F:=by
 obtain ⟨w,h1,rfl⟩:=h;have:∀ (w:List Mv) (x:Nat),x ∈ F->lgw n s x w->fin x w ∈ F:=by
  intro w
  induction w with
  | nil=>intro x hx _;exact hx
  | cons p r ih=>intro x hx hw;exact ih _ (hc x hx p hw.1) hw.2
 exact this w 0 h0 h1
theorem uu8:∀ {l:List Nat} {N:Nat},l.Nodup->(∀ x ∈ l,x < N)->l.length<=N
 | l,0,_,h=>by
  cases l with
  | nil=>exact Nat.le_refl _
  | cons x l=>have:=h x List.mem_cons_self;omega
 | l,N+1,hn,h=>by
  have h1:=uu8 (l:=l.erase N) (N:=N) (hn.erase N) fun x hx=>by
   have:=h x (List.mem_of_mem_erase hx);have hne:x ≠ N:=fun e=>by rw [e] at hx;exact (List.Nodup.not_mem_erase hn) hx
   omega
  by_cases hm:N ∈ l
  ·rw [List.length_erase_of_mem hm] at h1;omega
  ·rw [List.erase_of_not_mem hm] at h1;omega
end
theorem ub8:∀ (d f l s:Nat) (b:Bool),l - f<=d->f < l->l - f<=cap s b->∃ w,WOK f l s b w
  | 0,f,l,s,b,h,h1,_=>by omega
  | d+1,f,l,s,b,h,h1,h2=>by
    by_cases e:l - f=1
    · have hl:l=f+1:=by omega
      subst hl;have hs:1<=s:=by
        cases s with
        | zero => have : cap 0 b = 0 := by cases b <;> rfl
                  omega
        | succ s=>omega
      exact ⟨_,u98 hs⟩
    · obtain ⟨s',rfl,c1,c2⟩:=uy4 (by omega) h2
      obtain ⟨w2,W2⟩:=ub8 d (f+(l - f+1) / 2) l s' b (by omega) (by omega) c2;cases b with
      | true =>
        have c1:f+(l - f+1) / 2 - f<=cap s' true:=c1;obtain ⟨w1,W1⟩:=ub8 d f (f+(l - f+1) / 2) (s'+1) true (by omega) (by omega) (Nat.le_trans c1 v80);obtain ⟨w3,W3⟩:=ub8 d f (f+(l - f+1) / 2) s' true (by omega) (by omega) c1;exact ⟨_,u99 (by omega) (by omega) W1 W2 W3⟩
      | false =>
        have c1:f+(l - f+1) / 2 - f<=cap (s'+1) true:=c1;obtain ⟨w1,W1⟩:=ub8 d f (f+(l - f+1) / 2) (s'+1) true (by omega) (by omega) c1;exact ⟨_,uc8 (by omega) (by omega) W1 W2⟩
theorem ut1 {n s:Nat} (hn:1<=n) (h9:n<=900):(∃ m,RS n s m /\ m.testBit (n - 1)=true) ↔ n<=cap s false:=by
 constructor
 ·rintro ⟨m,⟨w,h1,h2⟩,hb⟩
  obtain ⟨x,hx,_⟩:=u64 n (fun _=>0) s w h9 hn (fun _=>Int.le_refl _) h1 (by rw [h2];exact hb);have:=hx.cap;omega
 ·intro h
  obtain ⟨w,hw⟩:=ub8 n 0 n s false (by omega) (by omega) (by omega);obtain ⟨h1,h2⟩:=hw.start (n:=n) (S:=s) (Nat.le_refl _) (Nat.le_refl _);exact ⟨_,⟨w,h1,rfl⟩,h2⟩
theorem v12 {n s:Nat} (hn:1<=n) (h9:n<=900):RS n s (2 ^ (n - 1)) ↔ n<=cap s true:=by
 constructor
 ·rintro ⟨w,h1,h2⟩
  obtain ⟨x,hx,_⟩:=u42 n (fun _=>0) s w h9 hn (fun _=>Int.le_refl _) h1 h2;have:=hx.cap;omega
 ·intro h
  obtain ⟨w,hw⟩:=ub8 n 0 n s true (by omega) (by omega) (by omega);obtain ⟨h1,h2⟩:=hw.start (n:=n) (S:=s) (Nat.le_refl _) (Nat.le_refl _);exact ⟨w,h1,hw.left (by omega) (Nat.le_refl _) (Nat.le_refl _)⟩
end L3
namespace L2
open PySem PySem.Spec PyProof.Rows
section
variable {X:Cx} {pins:List (Addr × Obj)} {σ:St} {H:Hp} {s:Shared}
theorem v64 {A:Around} {f b cell:Addr} {name d y qual:Str} {params:Arguments} {scope:Scope} {dp yp sp:Pos} {pm cdv ctv:Value} {kvs:List (Key × V)} {k v:Int} {t:Tok} {R:Value->Shared->Prop}
  (hr:A.depth < recursionLimit) (I:Inv X pins σ H s)
  (hf:s.heap.get? f=some { cls:=.type "function",data:=.func (PySem.W.kla_fn name qual params (.Subscript (.Name d dp) (.Name y yp) sp) scope [(d,cell)] pm cdv ctv) })
  (hcd:s.heap.CodeRec cdv qual) (hb:bindArgs (PySem.W.kla_fn name qual params (.Subscript (.Name d dp) (.Name y yp) sp) scope [(d,cell)] pm cdv ctv) ⟨[.int k t],[]⟩=pure [(y,.int k t)])
  (hsc:scope.names=[(y,.local),(d,.free)]) (hyd:¬ y=d) (hk:scope.kind=.function) (hco:scope.isCoroutine=false) (hgen:scope.isGenerator=false)
  (hyn:(y == ("__debug__" : Str))=false) (hdn:(d == ("__debug__" : Str))=false) (hdc:(d == ("__classdict__" : Str))=false)
  (hcell:s.heap.IsCell cell (some (.ref b))) (hd:H b=some (.dK kvs)) (hv:valV kvs (.inl k)=some (.int v))
  (h:∀ h' tk t',(∀ a o,s.heap.get? a=some o->h'.get? a=some o)->R (.int v t') { s with heap:=h',toks:=tk }) :
  wpAny (model X.prog X.w) A (call (.ref f) [.int k t]) R (fun _ _=>False) s:=by
 have hly:scope.names.lookup y=some .local:=by rw [hsc];simp
 have hld:scope.names.lookup d=some .free:=by rw [hsc];simp [List.lookup,show (d == y)=false from by simpa using fun e:d=y=>hyd e.symm]
 refine wpAny_call (PySem.W.kla_callFunE hr hf rfl hco hgen rfl hcd ?_);rw [hb];refine wpAny_pure (wpAny_newFunctionEnv (fun z hz=>?_) (fun z hz=>?_) (fun h₁ hns hsb=>⟨I.nolimit.fresh _ hsb,?_⟩) hk)
 ·rw [hsc] at hz
  rcases List.mem_cons.mp hz with e | hz
  ·rw [e];simp
  ·rw [List.mem_singleton.mp hz];simp
 ·rw [List.mem_singleton.mp hz];exact hly
 have hk₁:∀ a o,s.heap.get? a=some o->h₁.get? a=some o:=fun a o e=>hsb.extBut a o (Nat.ne_of_lt (Heap.lt_size e)) (Heap.get?_push_of_some _ e)
 have I1:Inv X pins σ H { s with heap:=h₁,toks:=s.toks+1 }:=I.kept hk₁
 obtain ⟨z,hd2,vs,rel,dd⟩:=v74 I1.hok hd;obtain ⟨w',hw,rw'⟩:=RelO.some_of (v:=V.int v) (o:=valueAt vs (.inl k)) (by rw [<- hv];exact rel.val (.inl k));obtain ⟨t',rfl⟩:=(show ∃ t,w'=Value.int v t from rw');refine PySem.W.kla_codeExpr ?_;refine uh7 PySem.F.slot_dict_getitem.lookup (fun _ _=>rfl) ?_;refine wpAny_Name (wpAny_loadName_free (by exact hk) (by exact hld) (c:=cell) (by simp [newEnv]) (v:=.ref b) ?_ ?_ hdc) hdn
 ·exact hcell.keeps hk₁
 refine wpAny_Name (wpAny_loadName_local (by exact hk) (by exact hly) (m:=_) hns (v:=.int k t) (by simp) ?_) hyn;refine ⟨dd.typeIs,?_⟩;exact wpAny_getItem_of (ui9 (P:=X.prog) (w:=X.w) (k:=.inl k) ⟨t,rfl⟩) dd.mapOf hw (h _ _ _ hk₁)
theorem vl2 {ns:List Int}:∀ {us:List Value},Vals (ns.map V.int) us->∀ (i:Nat) (v:Value),us[i]?=some v->∃ (k:Int) (t:Tok),k ∈ ns /\ ns.getD i 0=k /\ v=.int k t:=by
 induction ns with
 | nil=>intro us r i v h;cases r;simp at h
 | cons n ns ih =>
  intro us r i v h;cases r with
  | cons a b =>
   obtain ⟨t,rfl⟩:=a;cases i with
   | zero=>injection h with h;exact ⟨n,t,List.mem_cons_self,rfl,h.symm⟩
   | succ i =>
    obtain ⟨k,t',h1,h2,h3⟩:=ih b i v (by simpa using h);exact ⟨k,t',List.mem_cons_of_mem _ h1,by simpa using h2,h3⟩
theorem Inv.ledger {h':Heap} {m:Str->Option Value} {tk:Nat} (I:Inv X pins σ H s) (hm:s.heap.Ns X.env.locals m) (hm':h'.Ns X.env.locals m) (k:∀ b o,b ≠ X.env.locals->s.heap.get? b=some o->h'.get? b=some o):Inv X pins σ H { s with heap:=h',toks:=tk }:=by
 have nL:∀ b u,H b=some u->b ≠ X.env.locals:=fun b u e z=>by rw [z,I.free] at e;cases e
 refine I.step (g':=s.gens) (d':=s.drawn) (ch:=[]) (fun _ z=>nomatch z) (fun b o hL _ _ e _=>k b o hL e) (fun b o hL _ _ e _=>⟨o.slots,k b o hL e⟩) (fun _ _ _ _ n=>n) (fun b o _ e=>?_) (fun _ _ e=>e) (fun _ _ _ e=>e) (fun b ps e=>⟨#[],by rw [e];simp⟩) (fun m' h2=>?_) (fun b u e=>?_) I.bare
 ·by_cases hb:b=X.env.locals
  ·obtain ⟨o',_,_,e',_⟩:=hm'
   exact ⟨o',by rw [hb];exact e'⟩
  ·exact ⟨o,k b o hb e⟩
 ·rw [h2.eq_nsMap,<- hm.eq_nsMap];exact hm'
 ·refine (I.hok b u e).stay (fun c v hc q=>k c v ?_ q) (fun _ q=>q) fun _ _ q=>q
  rcases hc with z | z
  ·rw [z];exact nL b u e
  ·exact nL c _ z
theorem uv2 {f l b cell:Addr} {name d y qual:Str} {params:Arguments} {scope:Scope} {dp yp sp:Pos} {pm cdv ctv:Value} {kvs:List (Key × V)} {ns:List Int} {g:Int->Int} {Q:Value->Shared->Prop} {E:Value->Shared->Prop} {n:Nat}
  (hr:Room n X.A) (I:Inv X pins σ H s)
  (hf:s.heap.get? f=some { cls:=.type "function",data:=.func (PySem.W.kla_fn name qual params (.Subscript (.Name d dp) (.Name y yp) sp) scope [(d,cell)] pm cdv ctv) }) (hfL:f ≠ X.env.locals)
  (hcd:s.heap.CodeRec cdv qual) (hcdL:∀ c,cdv=.ref c->c ≠ X.env.locals) (hb:∀ v:Value,bindArgs (PySem.W.kla_fn name qual params (.Subscript (.Name d dp) (.Name y yp) sp) scope [(d,cell)] pm cdv ctv) ⟨[v],[]⟩=pure [(y,v)])
  (hsc:scope.names=[(y,.local),(d,.free)]) (hyd:¬ y=d) (hk:scope.kind=.function) (hco:scope.isCoroutine=false) (hgen:scope.isGenerator=false)
  (hyn:(y == ("__debug__" : Str))=false) (hdn:(d == ("__debug__" : Str))=false) (hdc:(d == ("__classdict__" : Str))=false)
  (hcell:s.heap.IsCell cell (some (.ref b))) (hcl:cell ≠ X.env.locals) (hd:H b=some (.dK kvs)) (hl:H l=some (.lst (ns.map V.int))) (h0:0 < ns.length) (hv:∀ k ∈ ns,valV kvs (.inl k)=some (.int (g k)))
  (h:∀ k t s',k ∈ ns->(∀ k' ∈ ns,g k<=g k')->Inv X pins σ H s'->Q (.int k t) s') :
  wpAny (model X.prog X.w) X.A (call (.builtin "min") [.ref l] [(Str.ofString "key",.ref f)]) Q E s:=by
 obtain ⟨m,hm,_⟩:=id I.loc;obtain ⟨z,its,nn,rv,hle,e⟩:=I.lstM hl;have lL:l ≠ X.env.locals:=fun q=>by rw [q,I.free] at hl;cases hl
 have lf:∀ {h:Heap},News (Att.noObjs s.heap) X.env.locals h ([]++(f,_)::Att.ledger s.heap X.env.locals f)->∀ b o,b ≠ X.env.locals->s.heap.get? b=some o->h.get? b=some o:=fun {h} N b o hb e=>by
  by_cases hbf:b=f
  ·subst hbf
   rw [hf] at e;cases e;exact (N _ (List.Mem.head _)).1
  ·exact (N (b,o) (List.Mem.tail _ (Att.mem_ledger.mpr ⟨hb,hbf,e⟩))).1
 have hlen:=rv.length;rw [List.length_map] at hlen;have at_:=vl2 rv
 refine kmk_min (h₀:=Att.noObjs s.heap) (L:=X.env.locals) (m:=m) (news:=[]++(f,_)::Att.ledger s.heap X.env.locals f) (vs:=its) (fun i=>g (ns.getD i 0)) hr.hd (Att.fr_all hm) (Att.news_ledger hfL hf) (fun h F N=>?_) (by omega) (fun i v hi h tk own F N=>?_) fun i v h' tk' hi hmin F N=>?_
 ·exact ⟨_,lf N _ _ lL e,rfl,⟨nn,rfl⟩⟩
 ·obtain ⟨k,t,hk1,hk2,rfl⟩:=at_ i v hi
  have kp:=lf (fun p hp=>N p (List.mem_append_left _ hp));have I1:Inv X pins σ H { s with heap:=h,toks:=tk }:=I.ledger hm F.ns kp
  obtain ⟨c,o,vs,tq,q1,q2,q3⟩:=hcd;refine v64 (A:=X.A.in1) hr.depth I1 (kp _ _ hfL hf) ⟨c,o,vs,tq,q1,kp _ _ (hcdL c q1) q2,q3⟩ (hb _) hsc hyd hk hco hgen hyn hdn hdc ?_ hd (hv k hk1) fun h2 tk2 t2 kp2=>?_
  ·obtain ⟨o,e1,e2⟩:=hcell
   exact ⟨o,kp _ _ hcl e1,e2⟩
  ·rw [hk2]
   exact ⟨h2,tk2,t2,rfl,rfl,⟨F.ns.keeps kp2,(fun b o e=>by rw [Att.noObjs_get] at e;cases e),F.above⟩,fun p hp=>⟨kp2 _ _ (N p hp).1,(N p hp).2⟩⟩
 ·obtain ⟨k,t,hk1,hk2,rfl⟩:=at_ i v hi
  refine h k t _ hk1 (fun k' hk'=>?_) (I.ledger hm F.ns (lf N));obtain ⟨j,hj,e⟩:=List.getElem_of_mem hk';have:=(hmin j (by omega)).1;rw [<- hk2];have e2:ns.getD j 0=k':=by rw [List.getD_eq_getElem?_getD,List.getElem?_eq_getElem hj,e];rfl
  rw [e2] at this;exact this
end
theorem uw9 {P:Program} {w:World} {K:PySem.W.Frag} {mg mb:Str->Option Value} {CX:CXT} {k:Nat} {fa a tb bm cc:Addr} {ob:Obj} {fd:FuncData} {x:Str} {sp:Sp} {s₁:Shared} {vs:List Value} {ns:List Int}
  (KX:K.In s₁.heap) (hns:s₁.heap.Ns mainGlobals mg) (hb:s₁.heap.Ns builtinsNs mb) (hbb:∀ x:Str,x ≠ "__name__" -> mb x=bootBuiltins x) (hlim:s₁.heap.NoLimit) (hg:s₁.gens=#[])
  (ha:s₁.heap.get? a=some { cls:=.type "list",data:=.seq vs.toArray }) (hi:IntsAre vs ns) (hl:ns.length<=sizeLine) (hr:Room k callerA)
  (hak:K.lookup a=none) (htb:s₁.heap.get? tb=some (PySem.W.tabObj #[])) (htk:K.lookup tb=none) (hbm:s₁.heap.get? bm=some ob) (hbk:K.lookup bm=none) (hb1:ob.cls=.type "module") (hb2:ob.dict=some builtinsNs) (hb3:ob.data=.plain) (hhd:PySem.W.codeHdIn K cc tb=true)
  (F:∀ base:Heap,K.In base->base.Ns mainGlobals mg->FnOk P w K mg base CX k fa fd [x] sp) (hbind:∀ (s:Shared) (u:Value),BindsTo s fd ⟨[u],[]⟩ [(x,u)])
  (hsp:∀ H:Hp,H tb=some (.tbl #[])->L3.BmOk H bm->(∃ o,H a=some (.frz o (.lst (ns.map V.int))))->sp [.ref a] H (fun v _=>v=.bl true) fun _ _ _=>False)
  (hCX:∀ H e s',CX [] H s₁ (fun _ _ _=>False) e s'->False) :
  codeAny (model P w) callerA (.call (.ref fa) ⟨[.ref a],[]⟩) (fun r s'=>r=.ok (.ret (.bool true)) /\ OldK s₁.heap s'.heap /\ s'.os=s₁.os /\ AllBare s'.gens) s₁:=by
 have rv:=ue9 hi;have nat:a ≠ tb:=fun z=>by rw [z,htb] at ha;cases ha
 have nab:a ≠ bm:=fun z=>by
  rw [z,hbm] at ha;cases ha;injection hb1 with hb1;exact absurd hb1 (by decide)
 have nbt:bm ≠ tb:=fun z=>by rw [z,htb] at hbm;cases hbm;cases hb1
 obtain ⟨H,hH⟩:∃ H:Hp,H=fun b=>if b=a then some (.frz { cls:=.type "list",data:=.seq vs.toArray } (.lst (ns.map V.int))) else if b=tb then some (.tbl #[]) else if b=bm then some (.frz ob (.ext fun h=>h.get? bm=some ob)) else none:=⟨_,rfl⟩
 have Ha:H a=some (.frz { cls:=.type "list",data:=.seq vs.toArray } (.lst (ns.map V.int))):=by rw [hH];exact if_pos rfl
 have Ht:H tb=some (.tbl #[]):=by rw [hH];simp [Ne.symm nat]
 have Hb:H bm=some (.frz ob (.ext fun h=>h.get? bm=some ob)):=by rw [hH];simp [Ne.symm nab,nbt]
 have Ho:∀ b u,H b=some u->b=a \/ b=tb \/ b=bm:=fun b u e=>by
  rw [hH] at e
  by_cases z1:b=a
  ·exact .inl z1
  ·by_cases z2:b=tb
   ·exact .inr (.inl z2)
   ·by_cases z3:b=bm
    ·exact .inr (.inr z3)
    ·simp [z1,z2,z3] at e
 have hok:HOk P w H s₁.heap:=fun b u e=>by
  rcases Ho b u e with rfl | rfl | rfl
  ·rw [Ha] at e;cases e
   exact ⟨ha,by rw [List.length_map];exact hl,vs,_,rv,ha⟩
  ·rw [Ht] at e;cases e;exact htb
  ·rw [Hb] at e;cases e
   exact ⟨hbm,hbm,⟨_,hbm⟩,fun h1 h2 z w=>w _ z⟩
 have base_of:∀ {b:Addr} {o:Obj},s₁.heap.get? b=some o->H b=none->(hidT s₁.heap H).get? b=some o:=fun e n=>v66 e n
 have noA:∀ {b:Addr} {o:Obj} {es:Array DictEntry} {ep:Nat},s₁.heap.get? b=some o->o.data=.dict es ep->H b=none:=fun {b o es ep} e d=>by
  cases q:H b with
  | none=>rfl
  | some u =>
   rcases Ho b u q with rfl | rfl | rfl
   ·rw [ha] at e;cases e;cases d
   ·rw [htb] at e;cases e;cases d
   ·rw [hbm] at e;cases e;rw [hb3] at d;cases d
 have nsK:∀ {b:Addr} {m:Str->Option Value},s₁.heap.Ns b m->(hidT s₁.heap H).Ns b m:=fun {b m} ⟨o,es,ep,e,d,r⟩=>⟨o,es,ep,base_of e (noA e d),d,r⟩
 have hKb:K.In (hidT s₁.heap H):=fun b o e=>base_of (KX b o e) (by
  cases q:H b with
  | none=>rfl
  | some u =>
   rcases Ho b u q with rfl | rfl | rfl
   ·rw [hak] at e;cases e
   ·rw [htk] at e;cases e
   ·rw [hbk] at e;cases e)
 have hM:Mod K mg (hidT s₁.heap H):=⟨hKb,nsK hns,⟨mb,nsK hb,hbb⟩,let ⟨mc,h1,h2⟩:=hlim;⟨mc,nsK h1,h2⟩⟩;have e0:Env0 P w K mg (hidT s₁.heap H) callerA [] s₁ H:=⟨rfl,hM,fun b o e=>vj1 e,Nat.le_of_eq (uy1 _ _),trivial,fun b hb=>absurd (show b ∈ ([]:List Addr) from hb) (by simp),hok,.of_eq hg⟩;refine codeAny_mono ((F _ hKb (nsK hns)).run callerA [] s₁ H ⟨[.ref a],[]⟩ [.ref a] [.ref a] _ _ hr e0 (hbind s₁ (.ref a)) (.cons rfl .nil) (hsp H Ht ⟨ob,Hb,hb1,hb2,hb3⟩ ⟨_,Ha⟩)) fun r s' h=>?_
 cases r with
 | error e=>exact (hCX H e s' h).elim
 | ok fl =>
  cases fl with
  | next=>exact False.elim h
  | brk=>exact False.elim h
  | cont=>exact False.elim h
  | ret u =>
   obtain ⟨v,H',os,bare,un,hok',r',q⟩:=h;have q':v=.bl true:=q;subst q';obtain rfl:u=Value.bool true:=r';have frz:∀ b o u,H b=some (.frz o u)->s'.heap.get? b=some o:=fun b o u z=>(hok' b _ (un.frzs b o u z)).1
   refine ⟨rfl,⟨fun b o e=>?_,fun b o e=>un.there b o e (by simp)⟩,os,bare⟩;cases q:H b with
   | none=>exact .inl (un.keep b o e q (by intro z;exact absurd (show b ∈ ([]:List Addr) from z) (by simp)) (by simp))
   | some u =>
    rcases Ho b u q with rfl | rfl | rfl
    ·rw [ha] at e;cases e;exact .inl (frz _ _ _ Ha)
    ·rw [htb] at e;cases e
     obtain ⟨more,em⟩:=un.tbls b _ Ht;have hm:=hok' b _ em;refine .inr (.inl ⟨?_,rfl,#[],more,rfl,hm⟩);obtain ⟨oc,vs,_,_,_,_,_,_,_,c1,c2,c3,c4,_⟩:=PySem.W.codeHd_of_K KX hhd;exact ⟨cc,oc,vs,c1,c2,c3,c4⟩
    ·rw [hbm] at e;cases e;exact .inl (frz _ _ _ Hb)
theorem uq3 {pos:Pos} {a b:Int} {c cv:Value} (l:List Value) (ht:TriplesOk l) (h:codeAmong pos (l++[rawInt a,rawInt b,c])=some cv):codeAmong pos l=some cv \/ cv=c:=by
 fun_induction TriplesOk l with
 | case1 =>
  simp only [List.nil_append,rawInt,codeAmong] at h;split at h
  ·injection h with h;exact .inr h.symm
  ·cases h
 | case2 a' t b' u x rest ih =>
  simp only [List.cons_append,codeAmong] at h ⊢;split at h
  ·rename_i hc;rw [if_pos hc];exact .inl h
  ·rename_i hc;rw [if_neg hc];exact ih ht h
 | case3 l h1 h2=>exact ht.elim
section
variable {X:Cx}
def ur9 (P:Addr) (qn:Str) (bm:Addr) (ta:TA) (i:Nat):TE:=fun σ H Q=>ta σ H fun vs H1=>∃ (a b:Addr) (ns:List Int) (kvs:List (Key × V)) (g:Int->Int) (ps:Array Value),vs=[.ref a] /\ σ[i]?=some (some (.ref b)) /\ H1 a=some (.lst (ns.map V.int)) /\ H1 b=some (.dK kvs) /\ 0 < ns.length /\ (∀ k ∈ ns,valV kvs (.inl k)=some (.int (g k))) /\ H1 P=some (.tbl ps) /\ L3.TbOk H1 qn ps /\ L3.BmOk H1 bm /\
 ∀ k ∈ ns,(∀ k' ∈ ns,g k<=g k')->∀ H2 ps',H2 P=some (.tbl ps')->L3.TbOk H2 qn ps'->(∀ b',b' ≠ P->H1 b' ≠ none->H2 b'=H1 b')->Q (.int k) H2
theorem ut9 {n i:Nat} {e:Expr} {ta:TA} {c P bm:Addr} {d y:Str} {params:Arguments} {scope:Scope} {dp yp sp lp kp p pos:Pos}
  (hr:Room n X.A) (hg:Gl X "min") (hm:X.mg "min" = none) (hbt:bootBuiltins "min" = some (.builtin "min")) (ha:PA X [e] ta) (hs:starEach [e] X.env=[(false,eval e X.env)])
  (hcode:X.env.code=.ref c) (hC:∀ h:Heap,X.K.In h->PySem.W.CodeHd h c P) (hbm:X.mg "__builtins__" = some (.ref bm)) (hbn:bm ≠ builtinsNs) (hbg:bm ≠ mainGlobals) (hN:X.N[i]?=some d) (hdv:X.env.scope.names.lookup d=some .cell)
  (hclos:∀ cell,X.env.cells.lookup d=some cell->closureFor scope X.env=pure [(d,cell)]) (hdef:defaultsOf params X.env=([],[]))
  (hb:∀ (name qual:Str) (cl:List (Str × Addr)) (pm cdv ctv v:Value),bindArgs (PySem.W.kla_fn name qual params (.Subscript (.Name d dp) (.Name y yp) sp) scope cl pm cdv ctv) ⟨[v],[]⟩=pure [(y,v)])
  (hsc:scope.names=[(y,.local),(d,.free)]) (hyd:¬ y=d) (hk:scope.kind=.function) (hco:scope.isCoroutine=false) (hgen:scope.isGenerator=false)
  (hyn:(y == ("__debug__" : Str))=false) (hdn:(d == ("__debug__" : Str))=false) (hdc:(d == ("__classdict__" : Str))=false) :
  PE X (.Call (.Name "min" p) [e] [⟨some "key",.Lambda params (.Subscript (.Name d dp) (.Name y yp) sp) scope lp,kp⟩] pos) (ur9 P (X.env.qual ++ "<lambda>") bm ta i):=by
 intro pins s σ H Q I h;refine wpAny_Call_Name_kw (u86 I hg hm hbt ?_);refine callWith_kw (thn (ha pos pins s σ H _ I h) ?_) (by rw [hs];rfl) (by rw [hs];rfl) rfl rfl;rintro us s1 ⟨vs,H1,I1,r1,a,b,ns,kvs,g,ps,e1,hσ,hl,hd,h0,hv,hP,hT,⟨ob,hbo,hb1,hb2,hb3⟩,q⟩;subst e1;obtain ⟨u0,rfl,ru0⟩:=r1.one;cases ru0;refine kws_cons ?_;obtain ⟨m,hmN,hlook⟩:=id I1.loc;obtain ⟨u,ru,lk⟩:=hlook i d (.ref b) hN hσ (.inr (.inl hdv));obtain rfl:u=.ref b:=ru;obtain ⟨cell,hcl,hcell⟩:∃ cell,X.env.cells.lookup d=some cell /\ s1.heap.IsCell cell (some (.ref b)):=by
  rcases lk with ⟨z,_⟩ | ⟨_,z⟩
  ·have z:X.env.scope.names.lookup d=some .local:=z
   rw [hdv] at z;cases z
  ·exact z
 have cellL:cell ≠ X.env.locals:=fun z=>by
  obtain ⟨o,es,ep,e1,e2,_⟩:=hmN;obtain ⟨o2,e3,e4⟩:=hcell;rw [z,e1] at e3;cases e3;rw [e2] at e4;cases e4
 have PL:P ≠ X.env.locals:=fun z=>by rw [z,I1.free] at hP;cases hP
 have hPo:s1.heap.get? P=some (PySem.W.tabObj ps):=I1.hok P _ hP;have hgl:=I1.mod.glob.keeps I1.bk;have hgP:mainGlobals ≠ P:=fun z=>by
  obtain ⟨o,es,ep,e1,_⟩:=I1.mod.glob;have:=(I1.bs _ _ e1).2;rw [z,hP] at this;cases this
 have hB1:s1.heap.BuiltinsAt X.mg P:=⟨bm,ob,hbm,hbn,hbg,fun z=>(by rw [z,hP] at hbo;cases hbo),(I1.hok bm _ hbo).1,hb1,hb2,hb3⟩;have hLs:=I1.lt;refine PySem.W.kla_eval hdef ?_;cases hca:codeAmong lp ps.toList with
 | none =>
  refine PySem.W.kla_makeFunction (hclos cell hcl) I1.ok.glob hgl hcode (hC _ I1.kIn) hPo hT.1 hca hgP hB1 fun c' ctv h' tk hx hge hlt hrec hPt=>kws_nil ?_
  obtain ⟨c0,oc,vs,tq,ec,hoc,hdt,hq⟩:=hrec;cases ec;have hf0:H1 c'=none:=I1.hok.fresh hge;have ncP:c' ≠ P:=fun z=>by rw [z,hP] at hf0;cases hf0
  have hsz:s1.heap.objs.size<=h'.objs.size:=Nat.le_trans hge (Nat.le_of_lt hlt);obtain ⟨fo,hfo⟩:∃ fo,fo=PySem.W.kla_obj "<lambda>" (X.env.qual ++ "<lambda>") params (.Subscript (.Name d dp) (.Name y yp) sp) scope [(d,cell)] ((X.mg "__name__").getD .none) c' ctv:=⟨_,rfl⟩;rw [<- hfo];have kp:∀ b' o,b' ≠ P->s1.heap.get? b'=some o->(h'.push fo).get? b'=some o:=fun b' o hb' e=>Heap.get?_push_of_some _ (hx b' o hb' e)
  obtain ⟨ps',hps'⟩:∃ ps',ps'=ps++#[rawInt lp.line,rawInt lp.col,.ref c']:=⟨_,rfl⟩;rw [<- hps'] at hPt;obtain ⟨H2,hH2⟩:∃ H2,H2=upd (upd H1 c' (.frz oc (.ext fun h=>h.get? c'=some oc))) P (.tbl ps'):=⟨_,rfl⟩;have eP:H2 P=some (.tbl ps'):=by rw [hH2];exact u14
  have ec:H2 c'=some (.frz oc (.ext fun h=>h.get? c'=some oc)):=by rw [hH2,u12 ncP];exact u14
  have eo:∀ b',b' ≠ P->b' ≠ c'->H2 b'=H1 b':=fun b' n1 n2=>by rw [hH2,u12 n1,u12 n2]
  have ne2:∀ b',H1 b' ≠ none->b' ≠ c':=fun b' z w=>z (by rw [w];exact hf0)
  have hT2:L3.TbOk H2 (X.env.qual ++ "<lambda>") ps':=by
   refine ⟨by rw [hps'];simpa using TriplesOk_snoc lp.line lp.col (.ref c') _ hT.1,fun pos cv z=>?_⟩;rw [hps'] at z
   rcases uq3 (pos:=pos) (a:=lp.line) (b:=lp.col) (c:=.ref c') (cv:=cv) _ hT.1 (by simpa using z) with z | z
   ·obtain ⟨c1,o1,vs1,t1,y1,y2,y3,y4⟩:=hT.2 pos cv z
    refine ⟨c1,o1,vs1,t1,y1,y2,y3,?_⟩;rw [eo c1 (fun w=>by rw [w,hP] at y4;cases y4) (ne2 c1 (by rw [y4];simp))];exact y4
   ·exact ⟨c',oc,vs,tq,z,hdt,hq,ec⟩
  have I2:Inv X pins σ H2 { s1 with heap:=h'.push fo,toks:=tk }:=by
   refine I1.un ⟨fun b' o e n _ _=>kp b' o (fun z=>by rw [z,hP] at n;cases n) e,fun b' o e n _ _=>⟨o.slots,kp b' o (fun z=>by rw [z,hP] at n;cases n) e⟩,fun b' o e n _=>?_,fun b' o e _=>?_,fun b' xs e=>?_,fun b' o u e=>?_,fun b' ps0 e=>?_⟩ fun b' u e=>?_
   ·rw [eo b' (fun z=>by rw [z,hP] at n;cases n) (fun z=>by rw [z] at e;exact absurd (Heap.lt_size e) (Nat.not_lt.mpr hge))];exact n
   ·by_cases hb':b'=P
    ·exact ⟨_,by rw [hb'];exact Heap.get?_push_of_some _ hPt⟩
    ·exact ⟨o,kp b' o hb' e⟩
   ·rw [eo b' (fun z=>by rw [z,hP] at e;cases e) (ne2 b' (by rw [e];simp))];exact e
   ·rw [eo b' (fun z=>by rw [z,hP] at e;cases e) (ne2 b' (by rw [e];simp))];exact e
   ·by_cases hb':b'=P
    ·subst hb'
     rw [hP] at e;cases e;exact ⟨_,by rw [eP,hps']⟩
    ·exact ⟨#[],by rw [eo b' hb' (ne2 b' (by rw [e];simp)),e];simp⟩
   ·by_cases hb':b'=P
    ·subst hb'
     rw [eP] at e;cases e;exact Heap.get?_push_of_some _ hPt
    ·by_cases hc':b'=c'
     ·subst hc'
      rw [ec] at e;cases e;have hoc2:=Heap.get?_push_of_some fo hoc;exact ⟨hoc2,hoc2,⟨_,hoc2⟩,fun h1 h2 z w=>w _ z⟩
     ·rw [eo b' hb' hc'] at e
      refine (I1.hok b' u e).stay (fun c1 v hc q1=>kp c1 v ?_ q1) (fun b1 z=>?_) fun b1 xs z=>?_
      ·rcases hc with z | z
       ·rw [z];exact hb'
       ·exact fun w=>by rw [w,hP] at z;cases z
      ·rw [eo b1 (fun w=>by rw [w,hP] at z;cases z) (ne2 b1 (by rw [z];simp))];exact z
      ·rw [eo b1 (fun w=>by rw [w,hP] at z;cases z) (ne2 b1 (by rw [z];simp))];exact z
  have keepH:∀ b',b' ≠ P->H1 b' ≠ none->H2 b'=H1 b':=fun b' n1 n2=>eo b' n1 (ne2 b' n2)
  refine uv2 (n:=n) (f:=h'.objs.size) (g:=g) (ns:=ns) (cell:=cell) (b:=b) (kvs:=kvs) hr I2 (by rw [hfo];exact Heap.get?_push_size _ rfl) (Nat.ne_of_gt (Nat.lt_of_lt_of_le hLs hsz)) ⟨c',oc,vs,tq,rfl,Heap.get?_push_of_some _ hoc,hdt,hq⟩ (fun c1 z=>by cases z;exact Nat.ne_of_gt (Nat.lt_of_lt_of_le hLs hge)) (fun v=>hb _ _ _ _ _ _ v) hsc hyd hk hco hgen hyn hdn hdc ?_ cellL ?_ ?_ h0 hv fun k t s' k1 k2 I3=>⟨.int k,H2,I3,⟨t,rfl⟩,q k k1 k2 H2 ps' eP hT2 keepH⟩
  ·obtain ⟨o,e1,e2⟩:=hcell
   refine ⟨o,kp _ _ (fun z=>?_) e1,e2⟩;rw [z,hPo] at e1;cases e1;cases e2
  ·rw [keepH b (fun z=>by rw [z,hP] at hd;cases hd) (by rw [hd];simp)];exact hd
  ·rw [keepH a (fun z=>by rw [z,hP] at hl;cases hl) (by rw [hl];simp)];exact hl
 | some cv =>
  obtain ⟨c',oc,vs,tq,ec,hdt,hq,hcH⟩:=hT.2 lp cv hca;subst ec;have hoc:s1.heap.get? c'=some oc:=(I1.hok c' _ hcH).1;refine PySem.W.kla_makeFunctionHit (hclos cell hcl) I1.ok.glob hgl hcode (hC _ I1.kIn) hPo hT.1 hca hB1 fun ctv h' tk hkp hsz=>kws_nil ?_
  obtain ⟨fo,hfo⟩:∃ fo:Obj,fo={ cls:=.type "function",data:=.func (PySem.W.kla_fn "<lambda>" (X.env.qual ++ "<lambda>") params (.Subscript (.Name d dp) (.Name y yp) sp) scope [(d,cell)] ((X.mg "__name__").getD .none) (.ref c') ctv) }:=⟨_,rfl⟩;rw [<- hfo];have kp:∀ b' o,s1.heap.get? b'=some o->(h'.push fo).get? b'=some o:=fun b' o e=>Heap.get?_push_of_some _ (hkp b' o e)
  have I2:Inv X pins σ H1 { s1 with heap:=h'.push fo,toks:=tk }:=I1.kept kp
  refine uv2 (n:=n) (f:=h'.objs.size) (g:=g) (ns:=ns) (cell:=cell) (b:=b) (kvs:=kvs) hr I2 (by rw [hfo];exact Heap.get?_push_size _ rfl) (Nat.ne_of_gt (Nat.lt_of_lt_of_le hLs hsz)) ⟨c',oc,vs,tq,rfl,kp _ _ hoc,hdt,hq⟩ (fun c1 z=>by cases z;exact fun w=>by rw [w,I1.free] at hcH;cases hcH) (fun v=>hb _ _ _ _ _ _ v) hsc hyd hk hco hgen hyn hdn hdc (hcell.keeps kp) cellL hd hl h0 hv fun k t s' k1 k2 I3=>⟨.int k,H1,I3,⟨t,rfl⟩,q k k1 k2 H1 ps hP hT fun _ _ _=>rfl⟩
end
end L2
namespace L3
open PySem PySem.Spec PyProof.Rows L2
def uj4 (P:Addr) (qn:Str) (bm:Addr) (ts:TA3) (i:Nat):TE3:=fun σ G q=>ts σ G fun ds G1=>∃ (a b:Addr) (ns:List Int) (kvs:List (Key × D)),ds=[.ref a] /\ σ[i]?=some (some (.ref b)) /\ G1 a=some (.lst (ns.map .int)) /\ G1 b=some (.dic kvs) /\ 0 < ns.length /\ (∀ k ∈ ns,∃ v:Int,valK kvs (.inl k)=some (.int v)) /\ G1 P=some (.tb qn bm) /\
 ∀ k ∈ ns,(∀ v,valK kvs (.inl k)=some (.int v)->∀ k' ∈ ns,∀ v',valK kvs (.inl k')=some (.int v')->v<=v')->q (.int k) G1
theorem up4 {K:PySem.W.Frag} {P bm:Addr} {qn:Str} {ts:TA3} {i:Nat} {σ:L2.St} {H:Hp} {Q:VK} (h:lowE K (uj4 P qn bm ts i) σ H Q):ur9 P qn bm (lowA K ts) i σ H Q:=by
 obtain ⟨σd,G,q,rs,c,t,f⟩:=h;refine ⟨σd,G,_,rs,c,t,fun ds G1 vs H1 r1 c1 l1 t1=>?_⟩;obtain ⟨a,b,ns,kvs,rfl,hσ,ka,kb,h0,hv,kP,hq⟩:=t1;obtain ⟨v0,rfl,rv0⟩:=r1.one;cases rv0.ref_inv;obtain ⟨xs,e1,q1⟩:=c1 a _ ka;have ez:=u57 q1;subst ez;obtain ⟨ys,e2,rp⟩:=c1 b _ kb;obtain ⟨ps,e3,hT,hBm⟩:=c1 P _ kP;have hval:∀ k ∈ ns,∀ v:Int,valK kvs (.inl k)=some (.int v)->valV ys (.inl k)=some (.int v):=fun k hk v e=>by
  rcases u59 (k:=.inl k) rp with ⟨z1,z2⟩ | ⟨d',w',z1,z2,z3⟩
  ·rw [z1] at e;cases e
  ·rw [z1] at e;cases e
   rw [z2,z3.int_inv]
 have hg:∀ k:Int,∃ v:Int,k ∈ ns->valK kvs (.inl k)=some (.int v):=fun k=>by
  by_cases hk:k ∈ ns
  ·obtain ⟨v,e⟩:=hv k hk;exact ⟨v,fun _=>e⟩
  ·exact ⟨0,fun z=>absurd z hk⟩
 obtain ⟨g,hg⟩:=Classical.axiomOfChoice hg;obtain ⟨u1,hσ2,ru1⟩:=rs.2 i _ hσ;cases ru1.ref_inv;refine ⟨a,b,ns,ys,g,ps,rfl,hσ2,e1,e2,h0,fun k hk=>hval k hk _ (hg k hk),e3,hT,hBm,fun k hk hm H2 ps' eP hT2 kp=>?_⟩;have le2:Le H1 H2:=⟨fun b' xs e=>by rw [kp b' (fun z=>by rw [z,e3] at e;cases e) (by rw [e];simp)];exact e,fun b' o u e=>by rw [kp b' (fun z=>by rw [z,e3] at e;cases e) (by rw [e];simp)];exact e⟩;have c2:Con K G1 H2:=fun a' o' e'=>by
  by_cases hz:a'=P
  ·subst hz
   rw [kP] at e';cases e';obtain ⟨ob,b1,b2⟩:=hBm;exact ⟨ps',eP,hT2,ob,by rw [kp bm (fun z=>by rw [z,e3] at b1;cases b1) (by rw [b1];simp)];exact b1,b2⟩
  ·obtain ⟨u,eu⟩:=(c1 a' o' e').some
   exact (c1 a' o' e').stay le2 (kp a' hz (by rw [eu];simp))
 exact f _ _ _ _ RelD.intI c2 (l1.trans le2) (hq k hk fun v ev k' hk' v' ev'=>by
  have x1:=hg k hk;have x2:=hg k' hk';rw [x1] at ev;rw [x2] at ev';cases ev;cases ev';exact hm k' hk')
theorem v72 {X:Cx} {n i:Nat} {e:Expr} {ts:TA3} {c P bm:Addr} {d y qn:Str} {params:Arguments} {scope:Scope} {dp yp sp lp kp p pos:Pos}
  (hr:Room n X.A) (hg:Gl X "min") (hm:X.mg "min" = none) (hbt:bootBuiltins "min" = some (.builtin "min")) (ha:A3 X [e] ts)
  (hcode:X.env.code=.ref c) (hC:∀ h:Heap,X.K.In h->PySem.W.CodeHd h c P) (hbm:X.mg "__builtins__" = some (.ref bm)) (hbn:bm ≠ builtinsNs) (hbg:bm ≠ mainGlobals)
  (hN:X.N[i]?=some d) (hdv:X.env.scope.names.lookup d=some .cell) (hq:X.env.qual ++ "<lambda>" = qn)
  (hclos:∀ cell,X.env.cells.lookup d=some cell->closureFor scope X.env=pure [(d,cell)]) (hdef:defaultsOf params X.env=([],[]))
  (hb:∀ (name qual:Str) (cl:List (Str × Addr)) (pm cdv ctv v:Value),bindArgs (PySem.W.kla_fn name qual params (.Subscript (.Name d dp) (.Name y yp) sp) scope cl pm cdv ctv) ⟨[v],[]⟩=pure [(y,v)])
  (hsc:scope.names=[(y,.local),(d,.free)]) (hyd:¬ y=d) (hk:scope.kind=.function) (hco:scope.isCoroutine=false) (hgen:scope.isGenerator=false)
  (hyn:(y == ("__debug__" : Str))=false) (hdn:(d == ("__debug__" : Str))=false) (hdc:(d == ("__classdict__" : Str))=false) (hs:starEach [e] X.env=[(false,eval e X.env)]:=by rfl) :
  E3 X (.Call (.Name "min" p) [e] [⟨some "key",.Lambda params (.Subscript (.Name d dp) (.Name y yp) sp) scope lp,kp⟩] pos) (uj4 P qn bm ts i):=by
 subst hq;exact u34 (ut9 hr hg hm hbt ha hs hcode hC hbm hbn hbg hN hdv hclos hdef hb hsc hyd hk hco hgen hyn hdn hdc) fun _ _ _=>up4
theorem v79 {scope:Scope} {env:Env} {d y:Str} {cell:Addr} (hsc:scope.names=[(y,.local),(d,.free)]) (h:env.cells.lookup d=some cell):closureFor scope env=pure [(d,cell)]:=by
 have hc:cellOf env d=pure cell:=by unfold cellOf;rw [h]
 unfold closureFor;rw [hsc];simp [hc]
def u52 (K:PySem.W.Frag) (a:Addr):Option Value:=match K.lookup a with
 | some ⟨_,_,.func fd,_⟩=>some fd.code
 | _=>none
section
variable {P:Program} {w:World} {K:PySem.W.Frag} {mg:Str->Option Value} {base:Heap}
theorem vm2 {x qual:Str} {st:Stmt} {ps N:List Str} {k:Nat} (d:FnAt K x qual st ps) {S:Sp3} (sc:FnScope N ps (u01 st)) (hl:∀ ds G R,S ds G R->ds.length=ps.length) {t:TS3}
  (ht:∀ (cdv:Value) (A:Around) (outer:List Env) (s:Shared) (H:Hp) (E:XK),u52 K d.a=some cdv->Room k (A.deeper (envOfC qual (u01 st) s.heap.objs.size d.a cdv))->Ss3 (cxOf CX0 P w K mg base N qual (u01 st) d.a cdv A outer s H E).nox (u21 st) t)
  (hb:∀ ds G R,S ds G R->t { nx:=fun _ G'=>R .non G',rt:=R } (ua0 N ds) G):Ok P w mg base (k+1) d S:=by
 obtain ⟨oc,od,dV,kV,doc,pm,an,cdv,ct,osl,e,lk,hcd⟩:=d.ex;have lk':K.lookup d.a=some ⟨oc,od,.func (PySem.W.fnOf x qual (u30 st) (u21 st) (u01 st) dV kV doc pm an cdv ct),osl⟩:=e ▸ lk;have hcc:u52 K d.a=some cdv:=by unfold u52;rw [lk']
 have F:FnOk P w K mg base CX0 (k+1) d.a (PySem.W.fnOf x qual (u30 st) (u21 st) (u01 st) dV kV doc pm an cdv ct) ps (ua2 K S):=by
  refine vl6 lk' hcd sc (fun vs H Q E h=>?_) fun A outer s H vs Q E hr h=>?_
  ·obtain ⟨ds,G,R,r,_,hS,_⟩:=h
   rw [<- r.length];exact hl ds G R hS
  ·obtain ⟨ds,G,R,r,c,hS,f⟩:=h
   refine ⟨_,(show PSs _ _ _ from ht cdv A outer s H E hcc hr).nox,ua0 N ds,G,_,ub9 r,c,hb ds G R hS,fun σd' G' σ' H' _ c' l' q=>?_,f,fun _ _ _ _ _ _ _ q=>q.elim,fun _ _ _ _ _ _ _ q=>q.elim⟩;exact f .non G' .non H' RelD.nonI c' l' q
 have F2:=F;rw [<- e] at F2;exact F2
end
end L3
namespace L3
open PySem PySem.Spec PyProof.Rows L2 Rw
def gtF:List (Nat × Int)->Nat->Option Int
 | [],_=>none
 | p::F,x=>if p.1=x then some p.2 else gtF F x
def ptF:List (Nat × Int)->Nat->Int->List (Nat × Int)
 | [],x,v=>[(x,v)]
 | p::F,x,v=>if p.1=x then (x,v)::F else p::ptF F x v
section
variable {F:List (Nat × Int)} {x y:Nat} {v:Int}
theorem ua7:∀ {F:List (Nat × Int)},gtF (ptF F x v) y=if x=y then some v else gtF F y
 | []=>rfl
 | p::F=>by
  unfold ptF
  by_cases h:p.1=x
  ·rw [if_pos h]
   show (if x=y then some v else gtF F y)=_
   by_cases e:x=y
   ·rw [if_pos e,if_pos e]
   ·rw [if_neg e,if_neg e];show _=(if p.1=y then _ else _);rw [if_neg (by rw [h];exact e)]
  ·rw [if_neg h]
   show (if p.1=y then some p.2 else gtF (ptF F x v) y)=if x=y then some v else if p.1=y then some p.2 else gtF F y
   rw [ua7]
   by_cases e:x=y
   ·rw [if_pos e,if_pos e,if_neg (by rw [<- e];exact h)]
   ·rw [if_neg e,if_neg e]
theorem gt_mem:∀ {F:List (Nat × Int)},x ∈ F.map Prod.fst ↔ ∃ v,gtF F x=some v
 | []=>by simp [gtF]
 | p::F=>by
  unfold gtF;rw [List.map_cons,List.mem_cons,gt_mem]
  by_cases h:p.1=x
  ·simp [h]
  ·have:¬ x=p.1:=fun e=>h e.symm
   simp [h,this]
theorem ud1:∀ {F:List (Nat × Int)},(ptF F x v).map Prod.fst=if x ∈ F.map Prod.fst then F.map Prod.fst else F.map Prod.fst++[x]
 | []=>rfl
 | p::F=>by
  unfold ptF
  by_cases h:p.1=x
  ·rw [if_pos h];simp [h]
  ·have:¬ x=p.1:=fun e=>h e.symm
   rw [if_neg h,List.map_cons,ud1,List.map_cons]
   by_cases e:x ∈ F.map Prod.fst
   ·rw [if_pos e,if_pos (List.mem_cons_of_mem _ e)]
   ·rw [if_neg e,if_neg (by rw [List.mem_cons];rintro (z | z);exact this z;exact e z)];rfl
theorem ud0 (h:(F.map Prod.fst).Nodup):((ptF F x v).map Prod.fst).Nodup:=by
 rw [ud1]
 by_cases e:x ∈ F.map Prod.fst
 ·rw [if_pos e];exact h
 ·rw [if_neg e]
  rw [List.nodup_append];exact ⟨h,List.nodup_cons.mpr ⟨List.not_mem_nil,List.nodup_nil⟩,fun a ha b hb z=>e (by rw [<- List.mem_singleton.mp hb,<- z];exact ha)⟩
def fiD (F:List (Nat × Int)):List (Key × D):=F.map fun p=>(Sum.inl (p.1:Int),D.int p.2)
theorem u65:∀ {F:List (Nat × Int)},valK (fiD F) (.inl (x:Int))=(gtF F x).map D.int
 | []=>rfl
 | p::F=>by
  have ih:=u65 (F:=F);unfold valK fiD at ih ⊢;rw [List.map_cons,List.find?_cons];unfold gtF
  by_cases e:p.1=x
  ·rw [if_pos e,e];simp
  ·have e2:¬ (p.1:Int)=(x:Int):=fun z=>e (by omega)
   rw [if_neg e];simp only [Sum.inl.injEq,e2,decide_false];exact ih
theorem uy5:∀ {F:List (Nat × Int)},(F.map Prod.fst).Nodup->ut2 (fiD F) (.inl (x:Int)) (.int v)=fiD (ptF F x v):=by
 intro F hn;unfold ut2
 by_cases h:x ∈ F.map Prod.fst
 ·rw [if_pos]
  ·induction F with
   | nil=>cases h
   | cons p F ih =>
    unfold fiD ptF;rw [List.map_cons,List.map_cons] at *;rw [List.nodup_cons] at hn
    by_cases e:p.1=x
    ·rw [if_pos e,List.map_cons,e]
     simp only [decide_true,if_true]
     congr 1
     rw [List.map_map];refine List.map_congr_left fun q hq=>?_
     have:¬ (q.1:Int)=(x:Int):=fun z=>hn.1 (by
      rw [e,<- show q.1=x by omega];exact List.mem_map_of_mem hq)
     simp [this]
    ·rw [if_neg e,List.map_cons]
     have e2:¬ (p.1:Int)=(x:Int):=fun z=>e (by omega)
     have:=ih hn.2 (by rcases List.mem_cons.mp h with z | z;exact absurd z.symm e;exact z);unfold fiD at this;rw [this];simp [e2]
  ·obtain ⟨q,hq,e⟩:=List.mem_map.mp h
   rw [List.any_eq_true];exact ⟨_,List.mem_map_of_mem (f:=fun p:Nat × Int=>((Sum.inl (p.1:Int),D.int p.2):Key × D)) hq,by simp [e]⟩
 ·have ha:((fiD F).any fun kv=>decide (kv.1=Sum.inl (x:Int)))=false:=by
   rw [List.any_eq_false];intro kv hk hd;obtain ⟨q,hq,rfl⟩:=List.mem_map.mp hk;have e:(Sum.inl (q.1:Int):Key)=Sum.inl (x:Int):=of_decide_eq_true hd;injection e with e
   exact h (by rw [<- show q.1=x by omega];exact List.mem_map_of_mem hq)
  rw [if_neg (by rw [ha];exact Bool.false_ne_true)];have:ptF F x v=F++[(x,v)]:=by
   clear ha hn
   induction F with
   | nil=>rfl
   | cons p F ih =>
    unfold ptF;rw [if_neg (fun e=>h (by rw [List.map_cons,e];exact List.mem_cons_self)),ih (fun e=>h (by rw [List.map_cons];exact List.mem_cons_of_mem _ e))];rfl
  rw [this];unfold fiD;rw [List.map_append];rfl
end
structure Dj (n s:Nat) (c:Nat->Int) (F:List (Nat × Int)) (L:List Nat) (t:Int) (U:Nat->Nat->Prop):Prop where
 z:∃ v,gtF F 0=some v /\ v<=0
 nd:(F.map Prod.fst).Nodup
 way:∀ {m v},gtF F m=some v->∃ w,lgw n s 0 w /\ fin 0 w=m /\ wk c w=v
 lk:∀ {x},x ∈ L->∃ v,gtF F x=some v
 ln:L.Nodup
 cl:∀ {y u} {p:Mv},gtF F y=some u->¬ y ∈ L->lgl n s y p->¬ U y p.2->∃ u',gtF F (xr y p.2)=some u' /\ u'<=u+c (p.2 - 1)
 lo:∀ {y u},gtF F y=some u->¬ y ∈ L->u<=t
 hi:∀ {y u},gtF F y=some u->y ∈ L->t<=u
section
variable {n s:Nat} {c:Nat->Int} {F:List (Nat × Int)} {L:List Nat} {t:Int} {U:Nat->Nat->Prop} {x:Nat} {v:Int}
theorem Dj.start:Dj n s c [(0,0)] [0] 0 (fun _ _=>False) where
 z:=⟨0,rfl,Int.le_refl _⟩
 nd:=by simp
 way:=fun {m v} h=>by
  unfold gtF at h
  by_cases e:(0,(0:Int)).1=m
  ·rw [if_pos e] at h;injection h with h;exact ⟨[],trivial,e,h⟩
  ·rw [if_neg e] at h;cases h
 lk:=fun h=>by rw [List.mem_singleton.mp h];exact ⟨0,rfl⟩
 ln:=by simp
 cl:=fun {y u p} h hy=>by
  unfold gtF at h
  by_cases e:(0,(0:Int)).1=y
  ·exact absurd (by rw [<- e];exact List.mem_singleton.mpr rfl) hy
  ·rw [if_neg e] at h;cases h
 lo:=fun {y u} h hy=>by
  unfold gtF at h
  by_cases e:(0,(0:Int)).1=y
  ·exact absurd (by rw [<- e];exact List.mem_singleton.mpr rfl) hy
  ·rw [if_neg e] at h;cases h
 hi:=fun {y u} h hy=>by
  rw [List.mem_singleton.mp hy] at h;injection h with h;rw [<- h];exact Int.le_refl _
theorem Dj.pop (h:Dj n s c F L t fun _ _=>False) (hx:x ∈ L) (hv:gtF F x=some v) (hm:∀ y ∈ L,∀ u,gtF F y=some u->v<=u):Dj n s c F (L.erase x) v (fun y _=>y=x) where
 z:=h.z
 nd:=h.nd
 way:=h.way
 lk:=fun hy=>h.lk (List.mem_of_mem_erase hy)
 ln:=h.ln.erase x
 cl:=fun {y u p} hy hn hp hU=>h.cl hy (fun z=>hn ((List.mem_erase_of_ne hU).mpr z)) hp fun z=>z
 lo:=fun {y u} hy hn=>by
  by_cases e:y=x
  ·rw [e,hv] at hy;injection hy with hy;rw [hy];exact Int.le_refl _
  ·exact Int.le_trans (h.lo hy fun z=>hn ((List.mem_erase_of_ne e).mpr z)) (h.hi hv hx)
 hi:=fun hy hn=>hm _ (List.mem_of_mem_erase hn) _ hy
theorem Dj.weak {U':Nat->Nat->Prop} (h:Dj n s c F L t U) (hU:∀ y k,U y k->U' y k):Dj n s c F L t U':={ h with cl:=fun a b d e=>h.cl a b d fun z=>e (hU _ _ z) }
theorem Dj.new {p:Mv} (h:Dj n s c F L v U) (hx:gtF F x=some v) (hn:¬ x ∈ L) (hp:lgl n s x p) (hc:0<=c (p.2 - 1)) (ho:gtF F (xr x p.2)=none):Dj n s c (ptF F (xr x p.2) (v+c (p.2 - 1))) (L++[xr x p.2]) v (fun y k=>U y k /\ ¬ (y=x /\ k=p.2)):=by
 have hne:∀ {y u},gtF F y=some u->¬ xr x p.2=y:=fun hy e=>by rw [<- e,ho] at hy;cases hy
 have hg:∀ {y u},gtF (ptF F (xr x p.2) (v+c (p.2 - 1))) y=some u->(y=xr x p.2 /\ u=v+c (p.2 - 1)) \/ (¬ xr x p.2=y /\ gtF F y=some u):=fun {y u} hy=>by
  rw [ua7] at hy
  by_cases e:xr x p.2=y
  ·rw [if_pos e] at hy;injection hy with hy;exact .inl ⟨e.symm,hy.symm⟩
  ·rw [if_neg e] at hy;exact .inr ⟨e,hy⟩
 have hk:∀ {y u},gtF F y=some u->gtF (ptF F (xr x p.2) (v+c (p.2 - 1))) y=some u:=fun hy=>by rw [ua7,if_neg (hne hy)];exact hy
 refine ⟨?_,ud0 h.nd,?_,?_,?_,?_,?_,?_⟩
 ·obtain ⟨u,h1,h2⟩:=h.z;exact ⟨u,hk h1,h2⟩
 ·intro m u hy
  rcases hg hy with ⟨rfl,rfl⟩ | ⟨_,hy⟩
  ·obtain ⟨w,h1,h2,h3⟩:=h.way hx
   refine ⟨w++[p],lgw_app.mpr ⟨h1,by rw [h2];exact hp,trivial⟩,by rw [u29,h2];rfl,by rw [u41,h3];show v+(c (p.2 - 1)+0)=_;omega⟩
  ·exact h.way hy
 ·intro y hy
  rcases List.mem_append.mp hy with hy | hy
  ·obtain ⟨u,h1⟩:=h.lk hy;exact ⟨u,hk h1⟩
  ·rw [List.mem_singleton.mp hy];exact ⟨_,by rw [ua7,if_pos rfl]⟩
 ·rw [List.nodup_append]
  exact ⟨h.ln,List.nodup_cons.mpr ⟨List.not_mem_nil,List.nodup_nil⟩,fun a ha b hb z=>by
   obtain ⟨u,h1⟩:=h.lk ha;exact hne h1 (by rw [z,List.mem_singleton.mp hb])⟩
 ·intro y u q hy hn' hq hU
  rcases hg hy with ⟨rfl,_⟩ | ⟨_,hy2⟩
  ·exact absurd (List.mem_append_right _ (List.mem_singleton.mpr rfl)) hn'
  ·by_cases e:y=x /\ q.2=p.2
   ·obtain ⟨e1,e2⟩:=e
    rw [e1,hx] at hy2;injection hy2 with hy2
    exact ⟨_,by rw [e1,e2,ua7,if_pos rfl],by rw [hy2,e2];exact Int.le_refl _⟩
   ·obtain ⟨u',h1,h2⟩:=h.cl hy2 (fun z=>hn' (List.mem_append_left _ z)) hq fun z=>hU ⟨z,e⟩
    exact ⟨u',hk h1,h2⟩
 ·intro y u hy hn'
  rcases hg hy with ⟨rfl,_⟩ | ⟨_,hy⟩
  ·exact absurd (List.mem_append_right _ (List.mem_singleton.mpr rfl)) hn'
  ·exact h.lo hy fun z=>hn' (List.mem_append_left _ z)
 ·intro y u hy hn'
  rcases hg hy with ⟨rfl,rfl⟩ | ⟨e,hy⟩
  ·omega
  ·rcases List.mem_append.mp hn' with z | z
   ·exact h.hi hy z
   ·exact absurd (List.mem_singleton.mp z).symm e
theorem Dj.old {p:Mv} {o:Int} (h:Dj n s c F L v U) (hx:gtF F x=some v) (hn:¬ x ∈ L) (hp:lgl n s x p) (hc:0<=c (p.2 - 1)) (ho:gtF F (xr x p.2)=some o):Dj n s c (ptF F (xr x p.2) (min o (v+c (p.2 - 1)))) L v (fun y k=>U y k /\ ¬ (y=x /\ k=p.2)):=by
 have hg:∀ {y u},gtF (ptF F (xr x p.2) (min o (v+c (p.2 - 1)))) y=some u->(y=xr x p.2 /\ u=min o (v+c (p.2 - 1))) \/ (¬ xr x p.2=y /\ gtF F y=some u):=fun {y u} hy=>by
  rw [ua7] at hy
  by_cases e:xr x p.2=y
  ·rw [if_pos e] at hy;injection hy with hy;exact .inl ⟨e.symm,hy.symm⟩
  ·rw [if_neg e] at hy;exact .inr ⟨e,hy⟩
 have hk:∀ {y u},gtF F y=some u->∃ u',gtF (ptF F (xr x p.2) (min o (v+c (p.2 - 1)))) y=some u' /\ u'<=u:=fun {y u} hy=>by
  rw [ua7]
  by_cases e:xr x p.2=y
  ·rw [if_pos e];rw [<- e,ho] at hy;injection hy with hy
   exact ⟨_,rfl,by rw [<- hy];exact Int.min_le_left ..⟩
  ·rw [if_neg e];exact ⟨_,hy,Int.le_refl _⟩
 have hs:∀ {y u},¬ y ∈ L->gtF (ptF F (xr x p.2) (min o (v+c (p.2 - 1)))) y=some u->gtF F y=some u:=fun {y u} hl hy=>by
  rcases hg hy with ⟨rfl,rfl⟩ | ⟨_,hy⟩
  ·have:=h.lo ho hl
   rw [ho];congr 1;omega
  ·exact hy
 refine ⟨?_,ud0 h.nd,?_,?_,h.ln,?_,?_,?_⟩
 ·obtain ⟨u,h1,h2⟩:=h.z
  obtain ⟨u',h3,h4⟩:=hk h1;exact ⟨u',h3,by omega⟩
 ·intro m u hy
  rcases hg hy with ⟨rfl,e⟩ | ⟨_,hy⟩
  ·by_cases hle:o<=v+c (p.2 - 1)
   ·rw [show u=o by omega];exact h.way ho
   ·rw [show u=v+c (p.2 - 1) by omega]
    obtain ⟨w,h1,h2,h3⟩:=h.way hx;refine ⟨w++[p],lgw_app.mpr ⟨h1,by rw [h2];exact hp,trivial⟩,by rw [u29,h2];rfl,by rw [u41,h3];show v+(c (p.2 - 1)+0)=_;omega⟩
  ·exact h.way hy
 ·intro y hy
  obtain ⟨u,h1⟩:=h.lk hy;obtain ⟨u',h2,_⟩:=hk h1;exact ⟨u',h2⟩
 ·intro y u q hy hn' hq hU
  have hy2:=hs hn' hy
  by_cases e:y=x /\ q.2=p.2
  ·obtain ⟨e1,e2⟩:=e
   rw [e1,hx] at hy2;injection hy2 with hy2
   exact ⟨_,by rw [e1,e2,ua7,if_pos rfl],by rw [e2];omega⟩
  ·obtain ⟨u',h1,h2⟩:=h.cl hy2 hn' hq fun z=>hU ⟨z,e⟩
   obtain ⟨u2,h3,h4⟩:=hk h1;exact ⟨u2,h3,by omega⟩
 ·intro y u hy hn';exact h.lo (hs hn' hy) hn'
 ·intro y u hy hl
  rcases hg hy with ⟨rfl,e⟩ | ⟨_,hy⟩
  ·have:=h.hi ho hl;omega
  ·exact h.hi hy hl
theorem Dj.done {U:Nat->Nat->Prop} (h:Dj n s c F [] t U) (hU:∀ y k,¬ U y k) {w:List Mv} (hw:lgw n s 0 w):∃ u,gtF F (fin 0 w)=some u /\ u<=wk c w:=by
 have:∀ (w:List Mv) (x:Nat) (u:Int),gtF F x=some u->lgw n s x w->∃ u',gtF F (fin x w)=some u' /\ u'<=u+wk c w:=by
  intro w
  induction w with
  | nil=>intro x u hx _;exact ⟨u,hx,by show u<=u+0;omega⟩
  | cons p r ih =>
   intro x u hx hw;obtain ⟨u1,h1,h2⟩:=h.cl hx List.not_mem_nil hw.1 (hU _ _);obtain ⟨u2,h3,h4⟩:=ih _ _ h1 hw.2;exact ⟨u2,h3,by show u2<=u+(c (p.2 - 1)+wk c r);omega⟩
 obtain ⟨v,h1,h2⟩:=h.z;obtain ⟨u,h3,h4⟩:=this w 0 v h1 hw;exact ⟨u,h3,by omega⟩
theorem sub_len:∀ {L K:List Nat},L.Nodup->(∀ x ∈ L,x ∈ K)->L.length<=K.length
 | [],_,_,_=>Nat.zero_le _
 | x::L,K,hn,h=>by
  have hx:=h x List.mem_cons_self;have:=sub_len (L:=L) (K:=K.erase x) (List.nodup_cons.mp hn).2 fun y hy=>(List.mem_erase_of_ne fun e=>(List.nodup_cons.mp hn).1 (by rw [<- e];exact hy)).mpr (h y (List.mem_cons_of_mem _ hy))
  have h2:=List.length_pos_of_mem hx;rw [List.length_erase_of_mem hx] at this;rw [List.length_cons];omega
theorem Dj.few (h:Dj n s c F L t U):F.length<=2 ^ n /\ L.length<=F.length:=by
 constructor
 ·rw [<- List.length_map (f:=Prod.fst)]
  refine uu8 h.nd fun x hx=>?_
  obtain ⟨v,hv⟩:=gt_mem.mp hx;obtain ⟨w,h1,h2,_⟩:=h.way hv;rw [<- h2];exact uw6 h1
 ·rw [<- List.length_map (f:=Prod.fst) (as:=F)]
  exact sub_len h.ln fun x hx=>gt_mem.mpr (h.lk hx)
theorem Dj.alone {W:Int} (h:Dj n s c F [] t U) (hU:∀ y k,¬ U y k) (hc:∀ i,0<=c i) (hn:1<=n) (h9:n<=900):(LeastA c s 0 n W->gtF F (2 ^ (n - 1))=some W) /\ (¬ n<=cap s true->gtF F (2 ^ (n - 1))=none):=by
 constructor
 ·intro hl
  obtain ⟨g,h1,h2⟩:=hl.1.wok;obtain ⟨h3,_⟩:=h1.start (n:=n) (S:=s) (Nat.le_refl _) (Nat.le_refl _);have h4:=h1.left (by omega) (Nat.le_refl n) (Nat.le_refl s);obtain ⟨u,h5,h6⟩:=h.done hU h3;rw [h4] at h5;obtain ⟨w,w1,w2,w3⟩:=h.way h5;have:=vk6 hc hn h9 hl w1 w2;rw [h5,show u=W by omega]
 ·intro hn'
  cases e:gtF F (2 ^ (n - 1)) with
  | none=>rfl
  | some u =>
   obtain ⟨w,w1,w2,_⟩:=h.way e;exact absurd ((v12 hn h9).mp ⟨w,w1,w2⟩) hn'
theorem Pr.wok {x:Int} {b:Nat} (h:Pr c n s b x):∃ g,WOK b n s false g /\ wk c g=x:=by
 induction h with
 | one e=>subst e;exact ⟨_,u98 (by omega),by show c _+0=_;rw [Int.add_zero];rfl⟩
 | two h1 h2 ih =>
  obtain ⟨g1,a1,a2⟩:=h1.wok;obtain ⟨g2,b1,b2⟩:=ih;exact ⟨_,uc8 h1.lt.1 h2.lt.1 a1 b1,by rw [u41,a2,b2]⟩
theorem ua8:∀ {F:List (Nat × Int)},(F.map Prod.fst).Nodup->∀ p ∈ F,gtF F p.1=some p.2
 | q::F,hn,p,hp=>by
  rw [List.map_cons,List.nodup_cons] at hn;unfold gtF
  rcases List.mem_cons.mp hp with rfl | hp
  ·rw [if_pos rfl]
  ·rw [if_neg fun e=>hn.1 (by rw [e];exact List.mem_map_of_mem hp)]
   exact ua8 hn.2 p hp
theorem uf9:∀ {F:List (Nat × Int)} {x:Nat} {v:Int},gtF F x=some v->(x,v) ∈ F
 | q::F,x,v,h=>by
  unfold gtF at h
  by_cases e:q.1=x
  ·rw [if_pos e] at h;injection h with h;rw [<- e,<- h];exact List.mem_cons_self
  ·rw [if_neg e] at h;exact List.mem_cons_of_mem _ (uf9 h)
def metF (n:Nat) (F:List (Nat × Int)):List Int:=(F.filter fun p=>p.1.testBit (n - 1)).map Prod.snd
theorem Dj.met {W:Int} (h:Dj n s c F [] t U) (hU:∀ y k,¬ U y k) (hc:∀ i,0<=c i) (hn:1<=n) (h9:n<=900):(LeastR c n s 0 W->W ∈ metF n F /\ ∀ x ∈ metF n F,W<=x) /\ (¬ n<=cap s false->metF n F=[]):=by
 have hm:∀ x ∈ metF n F,∃ w,lgw n s 0 w /\ (fin 0 w).testBit (n - 1)=true /\ wk c w=x:=by
  intro x hx;obtain ⟨p,hp,rfl⟩:=List.mem_map.mp hx;obtain ⟨hp1,hp2⟩:=List.mem_filter.mp hp;obtain ⟨w,w1,w2,w3⟩:=h.way (ua8 h.nd p hp1);exact ⟨w,w1,by rw [w2];exact hp2,w3⟩
 constructor
 ·intro hl
  have hle:∀ x ∈ metF n F,W<=x:=fun x hx=>by
   obtain ⟨w,w1,w2,w3⟩:=hm x hx;rw [<- w3];exact w03 hc hn h9 hl w1 w2
  refine ⟨?_,hle⟩;obtain ⟨g,h1,h2⟩:=Pr.wok hl.1;obtain ⟨h3,h4⟩:=h1.start (n:=n) (S:=s) (Nat.le_refl _) (Nat.le_refl _);obtain ⟨u,h5,h6⟩:=h.done hU h3;have hu:u ∈ metF n F:=List.mem_map.mpr ⟨_,List.mem_filter.mpr ⟨uf9 h5,h4⟩,rfl⟩;have:=hle u hu;rw [show W=u by omega];exact hu
 ·intro hn'
  cases e:metF n F with
  | nil=>rfl
  | cons x M =>
   obtain ⟨w,w1,w2,_⟩:=hm x (by rw [e];exact List.mem_cons_self);exact absurd ((ut1 hn h9).mp ⟨_,⟨w,w1,rfl⟩,w2⟩) hn'
def nxt (n s m:Nat):List Nat:=(List.range n).filter fun k=>(decide (k=0) || m.testBit (k - 1)) && decide (cnt n (xr m (k+1))<=s)
theorem uu7 {m k:Nat} (hm:cnt n m<=s):k ∈ nxt n s m ↔ lgl n s m (!stb (k+1) m,k+1):=by
 unfold nxt lgl;rw [List.mem_filter,List.mem_range]
 show k < n /\ _=true ↔ (1<=k+1 /\ k+1<=n) /\ (k+1=1 \/ m.testBit (k+1 - 2)=true) /\ (!stb (k+1) m)=(!stb (k+1) m) /\ ((!stb (k+1) m)=true->cnt n m < s)
 have e:k+1 - 2=k - 1:=by omega
 rw [e]
 by_cases hk:k < n
 ·have hc:cnt n (xr m (k+1))<=s ↔ ((!stb (k+1) m)=true->cnt n m < s):=by
   cases hs:stb (k+1) m with
   | true =>
    have:=u75 (n:=n) (m:=m) (k:=k+1) (by omega) (by omega) hs
    constructor
    ·intro _ z;cases z
    ·intro _;omega
   | false =>
    have:=u88 (n:=n) (m:=m) (k:=k+1) (by omega) (by omega) hs
    constructor
    ·intro _ _;omega
    ·intro z;have:=z rfl;omega
  rw [<- hc];simp [hk];intro _ _;omega
 ·constructor
  ·rintro ⟨z,_⟩;exact absurd z hk
  ·rintro ⟨⟨_,z⟩,_⟩;omega
theorem Dj.cnt {m:Nat} (h:Dj n s c F L t U) (hm:gtF F m=some v):L3.cnt n m<=s:=by
 obtain ⟨w,h1,h2,_⟩:=h.way hm;rw [<- h2];exact ui6 (by rw [u32];exact Nat.zero_le _) h1
theorem v00 {m:Nat} (h:m < 2 ^ n):∀ N,n<=N->L3.cnt N m=L3.cnt n m
 | 0,hN=>by rw [Nat.le_zero.mp hN]
 | N+1,hN=>by
  by_cases e:n=N+1
  ·rw [e]
  ·rw [L3.cnt,v00 h N (by omega),Nat.testBit_lt_two_pow (Nat.lt_of_lt_of_le h (Nat.pow_le_pow_right (by decide) (by omega)))]
   rfl
theorem w28 {m k:Nat} (h:m < 2 ^ n) (hk:k < n):xr m (k+1) < 2 ^ n:=by
 refine Nat.lt_pow_two_of_testBit _ fun i hi=>?_
 rw [u16,Nat.testBit_lt_two_pow (Nat.lt_of_lt_of_le h (Nat.pow_le_pow_right (by decide) hi)),decide_eq_false (by omega)];rfl
theorem vn8 (m j:Nat):Builtin.bitAnd ((m:Int) / 2 ^ j) 1=((if m.testBit j then 1 else 0:Nat):Int):=by
 have e1:(m:Int) / 2 ^ j=((m / 2 ^ j:Nat):Int):=by simp
 rw [e1,show (1:Int)=((1:Nat):Int) from rfl,ub2,Nat.and_one_is_mod,Nat.testBit_eq_decide_div_mod_eq]
 by_cases h:m / 2 ^ j % 2=1
 ·simp [h]
 ·simp [h];omega
theorem Dj.all (h:Dj n s c F L t (fun y k=>y=x /\ ¬ ∃ k0,k0 ∈ nxt n s x /\ k=k0+1)) (hm:L3.cnt n x<=s):Dj n s c F L t (fun _ _=>False) :=
 { h with cl:=fun {y u p} a b d _=>h.cl a b d fun ⟨e1,e2⟩=>e2 ⟨p.2 - 1,(uu7 hm).mpr (by
   subst e1;have h1:=d.1.1;have e:p.2 - 1+1=p.2:=by omega
   rw [e];have:(!stb p.2 y,p.2)=p:=by rw [<- d.2.2.1]
   rw [this];exact d),by have:=d.1.1;omega⟩ }
theorem w27 {m k:Nat}:¬ xr m k=m:=fun e=>by
 have:=congrArg (fun y=>y.testBit (k - 1)) e;simp only [u16] at this;cases h:m.testBit (k - 1) <;> rw [h] at this <;> simp at this
theorem vs3 {a b:Int}:∀ {F:List (Nat × Int)},ptF (ptF F x a) x b=ptF F x b
 | []=>by simp [ptF]
 | p::F=>by
  by_cases e:p.1=x
  ·simp [ptF,e]
  ·simp [ptF,e,vs3]
theorem vs4 {a:Int} (h:gtF F x=none):(ptF F x a).length=F.length+1:=by
 have h1:=congrArg List.length (ud1 (F:=F) (x:=x) (v:=a));rw [if_neg (fun z=>by obtain ⟨v,e⟩:=gt_mem.mp z;rw [h] at e;cases e),List.length_map,List.length_append,List.length_map] at h1;exact h1
theorem vh5 {a u:Int} (h:gtF F x=some u):(ptF F x a).length=F.length:=by
 have h1:=congrArg List.length (ud1 (F:=F) (x:=x) (v:=a));rw [if_pos (gt_mem.mpr ⟨u,h⟩),List.length_map,List.length_map] at h1;exact h1
theorem v45 {L:List Nat} {x:Nat}:(L.map fun y:Nat=>(y:Int)).erase (x:Int)=(L.erase x).map fun y:Nat=>(y:Int):=by
 induction L with
 | nil=>rfl
 | cons y L ih =>
  by_cases e:y=x
  ·subst e;simp
  ·have e2:¬ (y:Int)=(x:Int):=by omega
   rw [List.map_cons,List.erase_cons_tail (by simpa using e2),List.erase_cons_tail (by simpa using e),ih];rfl
end
end L3
namespace L2
open PySem PySem.Spec PyProof.Rows
section
variable {X:Cx}
def vh0:V->List V->Hp->VK->Prop:=fun x vs H Q=>∃ (l:Addr) (l1 l2:List Int) (k:Int),x=.ref l /\ vs=[.int k] /\ H l=some (.lst ((l1++k::l2).map V.int)) /\ ¬ k ∈ l1 /\ Q .non (upd H l (.lst ((l1++l2).map V.int)))
theorem ve5 {ns:List Int}:∀ {us:List Value},Vals (ns.map V.int) us->∀ (i:Nat) (h:i < us.length),∃ t,∃ h2:i < ns.length,us[i]=.int ns[i] t:=by
 induction ns with
 | nil=>intro us r i h;cases r;cases h
 | cons n ns ih =>
  intro us r i h;cases r with
  | cons a b =>
   obtain ⟨t,rfl⟩:=a;cases i with
   | zero=>exact ⟨t,by simp,rfl⟩
   | succ i =>
    obtain ⟨t',h2,e⟩:=ih b i (by simpa using h);exact ⟨t',by simpa using h2,by simpa using e⟩
theorem uv0:MtM X "list.remove" vh0:=by
 intro pins s σ H x vs v us Q I rx rv h;obtain ⟨l,l1,l2,k,rfl,rfl,hH,hk,q⟩:=h;cases rx;obtain ⟨u,rfl,ru⟩:=rv.one;obtain ⟨t,rfl⟩:=ru;obtain ⟨z,its,n,r,hl,e⟩:=I.lstM hH;have hlen:=r.length;rw [List.length_map,List.length_append,List.length_cons] at hlen;have at_:=ve5 r
 have hz2:its.toArray.size<=sizeLine:=by rw [List.size_toArray,<- hl];exact z
 refine call_meets PySem.F.slot_list_remove ⟨_,e,rfl⟩ PySem.F.entry_list_remove (PySem.F.args_list_remove_2 _ _)
  (MeetsSeq.list_remove l its.toArray n (.int k t) (isInt k) (fun y hy=>?_) l1.length (by rw [List.size_toArray];omega) ?_ (fun m hm hlt=>?_) hz2) ⟨e,?_⟩
 ·have hy:y ∈ its:=by simpa using hy
  obtain ⟨i,hi,rfl⟩:=List.getElem_of_mem hy;obtain ⟨t',h2,e2⟩:=at_ i hi
  rw [e2];exact MeetsSeq.EqGives.int _ _ _ _
 ·obtain ⟨t',h2,e2⟩:=at_ l1.length (by omega)
  rw [List.getElem_toArray,e2];simp [isInt]
 ·obtain ⟨t',h2,e2⟩:=at_ m (by omega)
  rw [List.getElem_toArray,e2,List.getElem_append_left hlt];have:¬ l1[m]=k:=fun z=>hk (by rw [<- z];exact List.getElem_mem _)
  simp [isInt,this]
 ·refine ⟨.non,_,I.lset (its':=its.take l1.length++its.drop (l1.length+1)) hH e ?_ ?_ ?_,rfl,q⟩
  ·apply Array.toList_inj.mp
   rw [Array.toList_eraseIdxIfInBounds];exact List.eraseIdx_eq_take_drop_succ ..
  ·have h1:=r.take l1.length
   have h2:=r.drop (l1.length+1);rw [List.map_append] at h1 h2;rw [List.map_append];refine Vals.append ?_ ?_
   ·simpa using h1
   ·have ed:List.drop (l1.length+1) (l1.map V.int++(k::l2).map V.int)=l2.map V.int:=by
     rw [List.map_cons,List.append_cons,List.drop_append_of_le_length (by simp),List.drop_of_length_le (by simp)];rfl
    rw [ed] at h2;exact h2
  ·rw [List.length_map,List.length_append] at *
   rw [List.length_cons] at z;omega
end
end L2
namespace L3
open PySem PySem.Spec PyProof.Rows L2
section
variable {X:Cx} {e o:Expr} {es:List Expr} {to:TE3} {ts:TA3} {apos cpos:Pos}
def ud4:M3:=fun x ds G q=>match x,ds with
 | .ref a,[.int k]=>∃ ns:List Int,G a=some (.lst (ns.map .int)) /\ k ∈ ns /\ q .non (gup G a (.lst ((ns.erase k).map .int)))
 | _,_=>False
theorem un0 {k:Int}:∀ {ns:List Int},k ∈ ns->∃ l1 l2,ns=l1++k::l2 /\ ¬ k ∈ l1 /\ ns.erase k=l1++l2
 | n::ns,h=>by
  by_cases e:n=k
  ·subst e;exact ⟨[],ns,rfl,List.not_mem_nil,by simp⟩
  ·rcases List.mem_cons.mp h with z | z
   ·exact absurd z.symm e
   ·obtain ⟨l1,l2,e1,e2,e3⟩:=un0 z
    refine ⟨n::l1,l2,by rw [e1];rfl,fun z=>?_,?_⟩
    ·rcases List.mem_cons.mp z with z | z
     ·exact e z.symm
     ·exact e2 z
    ·rw [List.erase_cons_tail (by simpa using e),e3];rfl
theorem v71 (ho:E3 X o to) (ha:A3 X (e::es) ts) (hbase:attributeBase o "remove" X.env (eval o X.env)=eval o X.env:=by rfl)
  (hfew:((backTo cpos (starEach (e::es) X.env)).all (fun x=>!x.1) && (backToKw cpos (keywordEach [] X.env)).all (fun x=>x.1.isSome)
   && decide ((e::es).length+([]:List Keyword).length+(if ([]:List Keyword).isEmpty then 0 else 1) < 30))=true:=by rfl)
  (hline:(apos.endLine == cpos.line)=true:=by rfl) (hs:starEach (e::es) X.env=(false,eval e X.env)::starEach es X.env:=by rfl) (hplain:(backTo cpos (starEach es X.env)).any (·.1)=false:=by rfl) :
  E3 X (.Call (.Attribute o "remove" apos) (e::es) [] cpos) (dBM "list" ud4 to ts) :=
 u34 (vt9 PySem.F.plainAttrs_list PySem.F.slot_list_remove PySem.F.type_list_remove (v95 (r':=lowM X.K ud4) uv0 <| by
  rintro x xs H Q ⟨d,ds,G,q,r1,r2,c,t,f⟩;unfold ud4 at t;split at t
  ·rename_i a k
   obtain ⟨ns,ea,hk,t⟩:=t;cases r1.ref_inv;obtain ⟨v,rfl,rv⟩:=r2.one;have e1:=rv.int_inv;subst e1;obtain ⟨zs,h1,q1⟩:=c _ _ ea;obtain ⟨l1,l2,rfl,n1,e2⟩:=un0 hk;rw [e2] at t;have ez:=u57 q1;subst ez;exact ⟨a,l1,l2,k,rfl,rfl,h1,n1,f _ _ _ _ RelD.nonI (c.lstSet h1 (ul3 _)) (Le.lst h1) t⟩
  ·exact t.elim) ho ha hbase hfew hline hs hplain) fun _ _ _=>vb9 (ty_list X.K)
def uz5 (td ti:TE3):TE3:=fun σ G q=>td σ G fun x G1=>(∃ a kvs,x=.ref a /\ G1 a=some (.dic kvs)) /\ ti σ G1 fun y G2=>∃ a kvs k,x=.ref a /\ y=kD k /\ G2 a=some (.dic kvs) /\ q ((valK kvs k).getD .non) G2
theorem uw1 {K:PySem.W.Frag} {H:Hp} {td ti:TE3} {σ:L2.St} {Q:VK} (h:lowE K (uz5 td ti) σ H Q):va1 (lowE K td) (lowE K ti) σ H Q:=by
 obtain ⟨σd,G,q,rs,c,t,f⟩:=h;refine ⟨σd,G,_,rs,c,t,fun x G1 v H1 r1 c1 l1 t1=>?_⟩;obtain ⟨⟨a,kvs,rfl,ha⟩,t1⟩:=t1;obtain ⟨ys,e,rp⟩:=c1 a _ ha;refine ⟨a,r1.ref_inv,.inl ⟨ys,.of e⟩,σd,G1,_,rs.le l1,c1,t1,fun y G2 u H2 r2 c2 l2 t2=>?_⟩;obtain ⟨a',kvs3,k,e1,rfl,hg,t4⟩:=t2;cases e1;obtain rfl:=uc1 r2;obtain ⟨ys3,e3,rp3⟩:=c2 a _ hg;refine ⟨valV ys3 k,DGet.k e3,?_⟩
 rcases u59 (k:=k) rp3 with ⟨z1,z2⟩ | ⟨d',w',z1,z2,z3⟩
 ·rw [z1] at t4
  rw [z2];exact f _ _ _ _ RelD.nonI c2 (l1.trans l2) t4
 ·rw [z1] at t4
  rw [z2];exact f _ _ _ _ z3 c2 (l1.trans l2) t4
theorem vl9 {X:Cx} {k:Nat} {o e:Expr} {apos cpos:Pos} {to te:TE3} (hr:Room k X.A) (ho:E3 X o to) (he:E3 X e te) (hbase:attributeBase o "get" X.env (eval o X.env)=eval o X.env:=by rfl)
  (hfew:((backTo cpos (starEach [e] X.env)).all (fun x=>!x.1) && (backToKw cpos (keywordEach [] X.env)).all (fun x=>x.1.isSome)
   && decide (([e]:List Expr).length+([]:List Keyword).length+(if ([]:List Keyword).isEmpty then 0 else 1) < 30))=true:=by rfl)
  (hline:(apos.endLine == cpos.line)=true:=by rfl) (htr:starEach [e] X.env=[(false,eval e X.env)]:=by rfl):E3 X (.Call (.Attribute o "get" apos) [e] [] cpos) (uz5 to te) :=
 u34 (v41 (ub5 hr) ho he ⟨hbase,hfew,hline,by rw [htr];rfl⟩) fun _ _ _=>uw1
end
end L3
namespace Law
open PySem L2 L3
def top (i:Nat):Stmt:=PySem.Challenge.pw_nolitter_k38_whole_none_is_cheaper.main.body.getD i (.Pass ⟨0,0,0,0⟩)
abbrev vg6:Stmt:=top 1
abbrev vf6:Stmt:=top 2
abbrev vf7:Stmt:=top 3
abbrev vg4:Stmt:=top 4
abbrev vf1:Stmt:=top 5
abbrev vg3:Stmt:=top 6
abbrev v26:Stmt:=top 7
abbrev vg5:Stmt:=top 8
abbrev vf5:Stmt:=top 9
abbrev v25:Stmt:=top 10
abbrev v24:Stmt:=top 12
abbrev vf2:Stmt:=top 13
abbrev vf9:Stmt:=top 15
abbrev vf3:Stmt:=top 16
abbrev vf8:Stmt:=top 17
abbrev vf4:Stmt:=top 18
abbrev vg2:Stmt:=top 20
abbrev uo9:Stmt:=top 21
abbrev v27:Stmt:=top 22
abbrev vg0:Stmt:=top 23
abbrev vg1:Stmt:=top 24
abbrev v28:Stmt:=top 25
abbrev v23:Stmt:=top 26
local macro_rules | `(tactic| ac_nf)=>`(tactic| exact ⟨rfl,rfl,rfl,by decide,rfl,by decide,by decide⟩)
theorem vb2:FnScope ["costs", "s"] ["costs", "s"] (u01 vg6):=by ac_nf
theorem va6:FnScope ["costs", "s"] ["costs", "s"] (u01 vf6):=by ac_nf
theorem va7:FnScope ["s"] ["s"] (u01 vf7):=by ac_nf
theorem vb0:FnScope ["s"] ["s"] (u01 vg4):=by ac_nf
theorem va3:FnScope ["table", "key"] ["table", "key"] (u01 vf1):=by ac_nf
theorem sc_jad:FnScope ["costs", "s", "table", "places", "many", "begin"] ["costs", "s"] (u01 vg3):=by ac_nf
theorem sc_jal:FnScope ["costs", "places", "begin", "end", "table", "most", "middles"] ["costs", "places", "begin", "end", "table"] (u01 v26):=by ac_nf
theorem vb1:FnScope ["places", "begin", "middle", "end", "table"] ["places", "begin", "middle", "end", "table"] (u01 vg5):=by ac_nf
theorem sc_jas:FnScope ["costs", "s", "alones", "table", "places", "many", "begin"] ["costs", "s", "alones"] (u01 vf5):=by ac_nf
theorem sc_jam:FnScope ["costs", "places", "begin", "alones", "table", "end", "middles"] ["costs", "places", "begin", "alones", "table"] (u01 v25):=by ac_nf
theorem va4:FnScope ["plan"] ["plan"] (u01 v24):=by ac_nf
theorem va5:FnScope ["move"] ["move"] (u01 vf2):=by ac_nf
theorem sc_jan:FnScope ["costs", "s", "alones"] ["costs", "s"] (u01 vf9):=by ac_nf
theorem sc_jav:FnScope ["costs", "s", "alones", "reacheds", "way"] ["costs", "s"] (u01 vf3):=by ac_nf
theorem sc_jao:FnScope ["places", "begin", "end", "alones", "middle"] ["places", "begin", "end", "alones"] (u01 vf8):=by ac_nf
theorem sc_jat:FnScope ["places", "begin", "end", "alones", "reacheds", "middle"] ["places", "begin", "end", "alones", "reacheds"] (u01 vf4):=by ac_nf
theorem sc_jah:FnScope ["_law_state", "_law_many_here", "_law_script", "_law_k", "_law_rest", "_law_cell", "_law_number", "_law_digit"] ["_law_state", "_law_many_here"] (u01 vg2):=by ac_nf
theorem sc_jag:FnScope ["_law_state", "_law_n", "_law_sort"] ["_law_state", "_law_n"] (u01 uo9):=by ac_nf
theorem va8:FnScope ["_law_marks"] ["_law_marks"] (u01 v27):=by ac_nf
theorem sc_jak:FnScope ["_law_marks", "_law_n", "_law_s", "_law_found", "_law_k", "_law_other"] ["_law_marks", "_law_n", "_law_s"] (u01 vg0):=by ac_nf
theorem sc_jai:FnScope ["_law_prices", "_law_s", "_law_far_here", "_law_left", "_law_here", "_law_other", "_law_k", "_law_there"] ["_law_prices", "_law_s"] (u01 vg1):=by ac_nf
theorem va9:FnScope ["_law_plan", "_law_prices"] ["_law_plan", "_law_prices"] (u01 v28):=by ac_nf
theorem sc_law:FnScope ["_law_script", "_law_state", "_law_n", "_law_s", "_law_prices", "_law_far_here", "_law_last", "_law_single", "_law_met"] ["_law_script"] (u01 v23):=by ac_nf
set_option genInjectivity false in
set_option genSizeOf false in
structure Txt (K:PySem.W.Frag) (mg:Str->Option Value) where
 f_jaa:FnAt K "alone" "alone" vg6 ["costs", "s"]
 g_alone:mg "alone" = some (.ref f_jaa.a)
 f_jar:FnAt K "reached" "reached" vf6 ["costs", "s"]
 g_reached:mg "reached" = some (.ref f_jar.a)
 f_jaq:FnAt K "reach" "reach" vf7 ["s"]
 g_reach:mg "reach" = some (.ref f_jaq.a)
 f_jac:FnAt K "alone_reach" "alone_reach" vg4 ["s"]
 g_alone_reach:mg "alone_reach" = some (.ref f_jac.a)
 f_jay:FnAt K "work_at" "work_at" vf1 ["table", "key"]
 g_work_at:mg "work_at" = some (.ref f_jay.a)
 f_jad:FnAt K "alone_table" "alone_table" vg3 ["costs", "s"]
 g_alone_table:mg "alone_table" = some (.ref f_jad.a)
 f_jal:FnAt K "least_alone" "least_alone" v26 ["costs", "places", "begin", "end", "table"]
 g_least_alone:mg "least_alone" = some (.ref f_jal.a)
 f_jab:FnAt K "alone_by" "alone_by" vg5 ["places", "begin", "middle", "end", "table"]
 g_alone_by:mg "alone_by" = some (.ref f_jab.a)
 f_jas:FnAt K "reached_table" "reached_table" vf5 ["costs", "s", "alones"]
 g_reached_table:mg "reached_table" = some (.ref f_jas.a)
 f_jam:FnAt K "least_reached" "least_reached" v25 ["costs", "places", "begin", "alones", "table"]
 g_least_reached:mg "least_reached" = some (.ref f_jam.a)
 f_jax:FnAt K "turned_plan" "turned_plan" v24 ["plan"]
 g_turned_plan:mg "turned_plan" = some (.ref f_jax.a)
 f_jaw:FnAt K "turned_move" "turned_move" vf2 ["move"]
 g_turned_move:mg "turned_move" = some (.ref f_jaw.a)
 f_jan:FnAt K "left_plan" "left_plan" vf9 ["costs", "s"]
 g_left_plan:mg "left_plan" = some (.ref f_jan.a)
 f_jav:FnAt K "shown_plan" "shown_plan" vf3 ["costs", "s"]
 g_shown_plan:mg "shown_plan" = some (.ref f_jav.a)
 f_jao:FnAt K "left_way" "left_way" vf8 ["places", "begin", "end", "alones"]
 g_left_way:mg "left_way" = some (.ref f_jao.a)
 f_jat:FnAt K "reached_way" "reached_way" vf4 ["places", "begin", "end", "alones", "reacheds"]
 g_reached_way:mg "reached_way" = some (.ref f_jat.a)
 f_jah:FnAt K "_law_draw" "_law_draw" vg2 ["_law_state", "_law_many_here"]
 g_law_draw:mg "_law_draw" = some (.ref f_jah.a)
 f_jag:FnAt K "_law_costs" "_law_costs" uo9 ["_law_state", "_law_n"]
 g_law_costs:mg "_law_costs" = some (.ref f_jag.a)
 f_jaj:FnAt K "_law_many" "_law_many" v27 ["_law_marks"]
 g_law_many:mg "_law_many" = some (.ref f_jaj.a)
 f_jak:FnAt K "_law_next" "_law_next" vg0 ["_law_marks", "_law_n", "_law_s"]
 g_law_next:mg "_law_next" = some (.ref f_jak.a)
 f_jai:FnAt K "_law_far" "_law_far" vg1 ["_law_prices", "_law_s"]
 g_law_far:mg "_law_far" = some (.ref f_jai.a)
 f_jaf:FnAt K "_law_cost" "_law_cost" v28 ["_law_plan", "_law_prices"]
 g_law_cost:mg "_law_cost" = some (.ref f_jaf.a)
 f_law:FnAt K "law" "law" v23 ["_law_script"]
 g_law:mg "law" = some (.ref f_law.a)
 b_abs:mg "abs" = none
 b_divmod:mg "divmod" = none
 b_int:mg "int" = none
 b_len:mg "len" = none
 b_list:mg "list" = none
 b_max:mg "max" = none
 b_min:mg "min" = none
 b_range:mg "range" = none
 b_reversed:mg "reversed" = none
 b_sum:mg "sum" = none
 far_bm:mg "__builtins__" = some (.ref 4)
 far_cc:∃ c,PySem.W.codeHdIn K c 146=true /\ ∀ f,mg "_law_far" = some (.ref f)->u52 K f=some (.ref c)
end Law
namespace Law
open PySem L2 L3 Rw
section
variable {P:Program} {w:World} {K:PySem.W.Frag} {mg:Str->Option Value} {base:Heap} (T:Txt K mg)
def v13 (_:Txt K mg):Sp3:=spec (fun ds G=>∃ (st:Addr) (m:Int),ds=[.ref st,.int m] /\ StAt G st /\ 0 < m /\ m < 1073741824)
 (fun ds G d G'=>∃ (st:Addr) (m v:Int),ds=[.ref st,.int m] /\ Adv st G G' /\ d=.int v /\ 0<=v /\ v < m)
theorem u28 {K:PySem.W.Frag} {mg:Str->Option Value} {T:Txt K mg} {G:Gp} {st:Addr} {m:Int} {q:DK} (h:StAt G st) (h0:0 < m) (h1:m < 1073741824) (k:∀ (v:Int) (G':Gp),Adv st G G'->0<=v->v < m->q (.int v) G') :
  ∃ R,v13 T [.ref st,.int m] G R /\ ∀ d G',R d G'->q d G' :=
 us0 ⟨st,m,rfl,h,h0,h1⟩ fun d G' ⟨st',m',v,e,a,ed,v0,v1⟩=>by
  cases e;subst ed;exact k v G' a v0 v1
def v88 (_:Txt K mg):Sp3:=fun ds G R=>∃ (s:Nat),ds=[.int (s:Int)] /\ s<=100 /\ R (.int (cap s false:Int)) G
def v15 (_:Txt K mg):Sp3:=fun ds G R=>∃ (s:Nat),ds=[.int (s:Int)] /\ s<=100 /\ R (.int (cap s true:Int)) G
def w23 (_:Txt K mg):Sp3:=fun ds G R=>∃ (a:Addr) (p b m e:Nat) (kvs:List (List Key × D)) (w1 w2 w3:Int) (m1 m2 m3:Nat),ds=[.int (p:Int),.int (b:Int),.int (m:Int),.int (e:Int),.ref a] /\ G a=some (.dit kvs) /\ 1<=p /\ valD kvs (k3 p b m)=some (vD w1 m1) /\ valD kvs (k3 (p - 1) m e)=some (vD w2 m2) /\ valD kvs (k3 (p - 1) b m)=some (vD w3 m3) /\ R (.int (w1+w2+w3)) G
def w21 (_:Txt K mg):Sp3:=fun ds G R=>∃ (c a:Addr) (p b e:Nat) (pl:List Int) (kvs:List (List Key × D)) (Dm:Nat->Nat->Nat->Prop),ds=[.ref c,.int (p:Int),.int (b:Int),.int (e:Int),.ref a] /\ G c=some (.lst (pl.map .int)) /\ G a=some (.dit kvs) /\ TAw (cf pl) Dm kvs /\ 1<=p /\ p<=100 /\ b < e /\ e<=pl.length /\ pl.length<=24 /\ e - b<=cap p true /\
 (∀ b' e',2<=p->b' < e'->e'<=pl.length->e' - b'<=cap (p - 1) true->Dm (p - 1) b' e') /\ (∀ b' e',b' < e'->e'<=pl.length->e' - b' < e - b->e' - b'<=cap p true->Dm p b' e') /\ ∀ (W:Int) (m:Nat) (G':Gp),Grow G G'->VA (cf pl) p b e W m->R (vD W m) G'
def uq6 (_:Txt K mg):Sp3:=fun ds G R=>∃ (c:Addr) (s:Nat) (pl:List Int),ds=[.ref c,.int (s:Int)] /\ G c=some (.lst (pl.map .int)) /\ 1<=pl.length /\ pl.length<=24 /\ s<=8 /\ ∀ (q:Addr) (kvs:List (List Key × D)) (G':Gp),G q=none->G' q=some (.dit kvs)->TAw (cf pl) (inA pl.length s) kvs->Grow G G'->R (.ref q) G'
def w20 (_:Txt K mg):Sp3:=fun ds G R=>∃ (c a t:Addr) (p b s:Nat) (pl:List Int) (ka kt:List (List Key × D)) (Dm:Nat->Nat->Prop),ds=[.ref c,.int (p:Int),.int (b:Int),.ref a,.ref t] /\ G c=some (.lst (pl.map .int)) /\ G a=some (.dit ka) /\ G t=some (.dit kt) /\ TAw (cf pl) (inA pl.length s) ka /\ TRw (cf pl) pl.length Dm kt /\ 1<=p /\ p<=s /\ s<=8 /\ b < pl.length /\ pl.length<=24 /\ pl.length - b<=cap p false /\
 (∀ m,2<=p->m < pl.length->pl.length - m<=cap (p - 1) false->Dm (p - 1) m) /\ ∀ (W:Int) (m:Nat) (G':Gp),Grow G G'->VR (cf pl) pl.length p b W m->R (vD W m) G'
def v87 (_:Txt K mg):Sp3:=fun ds G R=>∃ (c a:Addr) (s:Nat) (pl:List Int) (ka:List (List Key × D)),ds=[.ref c,.int (s:Int),.ref a] /\ G c=some (.lst (pl.map .int)) /\ G a=some (.dit ka) /\ TAw (cf pl) (inA pl.length s) ka /\ 1<=pl.length /\ pl.length<=24 /\ s<=8 /\ ∀ (q:Addr) (kvs:List (List Key × D)) (G':Gp),G q=none->G' q=some (.dit kvs)->TRw (cf pl) pl.length (inR pl.length s) kvs->Grow G G'->R (.ref q) G'
theorem w13 {G:Gp} {s:Nat} {q:DK} (hs:s<=100) (k:q (.int (cap s false:Int)) G):∃ R,v88 T [.int (s:Int)] G R /\ ∀ d G',R d G'->q d G' :=
 u76 (v:=.int (cap s false:Int)) (G1:=G) (fun R h=>⟨s,rfl,hs,h⟩) k
theorem ue3 {G:Gp} {s:Nat} {q:DK} (hs:s<=100) (k:q (.int (cap s true:Int)) G):∃ R,v15 T [.int (s:Int)] G R /\ ∀ d G',R d G'->q d G' :=
 u76 (v:=.int (cap s true:Int)) (G1:=G) (fun R h=>⟨s,rfl,hs,h⟩) k
theorem u96 {G:Gp} {c:Addr} {s:Nat} {pl:List Int} {q:DK} (h:G c=some (.lst (pl.map .int))) (h1:1<=pl.length) (h2:pl.length<=24) (h3:s<=8) (k:∀ (q':Addr) (kvs:List (List Key × D)) (G':Gp),G q'=none->G' q'=some (.dit kvs)->TAw (cf pl) (inA pl.length s) kvs->Grow G G'->q (.ref q') G'):∃ R,uq6 T [.ref c,.int (s:Int)] G R /\ ∀ d G',R d G'->q d G' :=
 u19 (post:=fun d G'=>∃ (q':Addr) (kvs:List (List Key × D)),d=.ref q' /\ G q'=none /\ G' q'=some (.dit kvs) /\ TAw (cf pl) (inA pl.length s) kvs /\ Grow G G') (fun R h'=>⟨c,s,pl,rfl,h,h1,h2,h3,fun q' kvs G' x y z w=>h' _ _ ⟨q',kvs,rfl,x,y,z,w⟩⟩) fun d G' ⟨q',kvs,e,x,y,z,w⟩=>by subst e;exact k q' kvs G' x y z w
theorem uo2 {G:Gp} {c a:Addr} {s:Nat} {pl:List Int} {ka:List (List Key × D)} {q:DK} (h:G c=some (.lst (pl.map .int))) (ha:G a=some (.dit ka)) (hT:TAw (cf pl) (inA pl.length s) ka) (h1:1<=pl.length) (h2:pl.length<=24) (h3:s<=8) (k:∀ (q':Addr) (kvs:List (List Key × D)) (G':Gp),G q'=none->G' q'=some (.dit kvs)->TRw (cf pl) pl.length (inR pl.length s) kvs->Grow G G'->q (.ref q') G'):∃ R,v87 T [.ref c,.int (s:Int),.ref a] G R /\ ∀ d G',R d G'->q d G' :=
 u19 (post:=fun d G'=>∃ (q':Addr) (kvs:List (List Key × D)),d=.ref q' /\ G q'=none /\ G' q'=some (.dit kvs) /\ TRw (cf pl) pl.length (inR pl.length s) kvs /\ Grow G G') (fun R h'=>⟨c,a,s,pl,ka,rfl,h,ha,hT,h1,h2,h3,fun q' kvs G' x y z w=>h' _ _ ⟨q',kvs,rfl,x,y,z,w⟩⟩) fun d G' ⟨q',kvs,e,x,y,z,w⟩=>by subst e;exact k q' kvs G' x y z w
def w22 (_:Txt K mg):Sp3:=fun ds G R=>∃ (st:Addr) (n:Nat),ds=[.ref st,.int (n:Int)] /\ StAt G st /\ n<=24 /\ ∀ (q:Addr) (pl:List Int) (G':Gp),Adv st G G'->q ≠ st->G' q=some (.lst (pl.map .int))->pl.length=n->(∀ x ∈ pl,1<=x /\ x<=1000000000)->R (.ref q) G'
def w18 (_:Txt K mg):Sp3:=fun ds G R=>∃ (p:Pm),ds=[pmD p] /\ R (pmD (flp p)) G
def v85 (_:Txt K mg):Sp3:=fun ds G R=>∃ (a:Addr) (w:List Pm),ds=[.ref a] /\ G a=some (.lst (w.map pmD)) /\ w.length<=4000000 /\ ∀ q G',G q=none->G' q=some (.lst ((bkp w).map pmD))->Grow G G'->R (.ref q) G'
def uq5 (_:Txt K mg) (dp:Nat):Sp3:=fun ds G R=>∃ (a:Addr) (n s p b e:Nat) (c:Nat->Int) (kvs:List (List Key × D)),ds=[.int (p:Int),.int (b:Int),.int (e:Int),.ref a] /\ G a=some (.dit kvs) /\ TAw c (inA n s) kvs /\ inA n s p b e /\ e - b<=dp /\ n<=20 /\ ∀ (q:Addr) (w:List Mv) (G':Gp),G q=none->G' q=some (.lst (w.map mD))->w.length < 2 ^ (e - b)->WOK b e p true w->LeastA c p b e (wk c w)->Grow G G'->R (.ref q) G'
def vo7 (T:Txt K mg):Sp3:=uq5 T 26
def uq4 (_:Txt K mg) (dp:Nat):Sp3:=fun ds G R=>∃ (a t:Addr) (n s p b:Nat) (c:Nat->Int) (ka kt:List (List Key × D)),ds=[.int (p:Int),.int (b:Int),.int (n:Int),.ref a,.ref t] /\ G a=some (.dit ka) /\ G t=some (.dit kt) /\ TAw c (inA n s) ka /\ TRw c n (inR n s) kt /\ inR n s p b /\ n - b<=dp /\ n<=20 /\ ∀ (q:Addr) (w:List Mv) (G':Gp),G q=none->G' q=some (.lst (w.map mD))->w.length < 2 ^ (n - b)->WOK b n p false w->LeastR c n p b (wk c w)->Grow G G'->R (.ref q) G'
def w19 (T:Txt K mg):Sp3:=uq4 T 26
def vo8 (_:Txt K mg):Sp3:=fun ds G R=>∃ (c:Addr) (s:Nat) (pl:List Int),ds=[.ref c,.int (s:Int)] /\ G c=some (.lst (pl.map .int)) /\ 1<=pl.length /\ pl.length<=20 /\ s<=8 /\ ∀ G',Grow G G'->(∀ (q:Addr) (P:List Pm),G q=none->G' q=some (.lst (P.map pmD))->P.length<=4000000->PLN pl.length s true P->LeastA (cf pl) s 0 pl.length (wkp (cf pl) P)->R (.ref q) G') /\ (¬ pl.length<=cap s true->R .non G')
def v86 (_:Txt K mg):Sp3:=fun ds G R=>∃ (c:Addr) (s:Nat) (pl:List Int),ds=[.ref c,.int (s:Int)] /\ G c=some (.lst (pl.map .int)) /\ 1<=pl.length /\ pl.length<=20 /\ s<=8 /\ ∀ G',Grow G G'->(∀ (q:Addr) (P:List Pm) (W:Int),G q=none->G' q=some (.lst (P.map pmD))->P.length<=4000000->PLN pl.length s false P->LeastR (cf pl) pl.length s 0 W->wkp (cf pl) P=W+W->R (.ref q) G') /\ (¬ pl.length<=cap s false->R .non G')
theorem v08 {G:Gp} {a:Addr} {w:List Pm} {q:DK} (h:G a=some (.lst (w.map pmD))) (hl:w.length<=4000000) (k:∀ q' G',G q'=none->G' q'=some (.lst ((bkp w).map pmD))->Grow G G'->q (.ref q') G'):∃ R,v85 T [.ref a] G R /\ ∀ d G',R d G'->q d G' :=
 u19 (post:=fun d G'=>∃ q',d=.ref q' /\ G q'=none /\ G' q'=some (.lst ((bkp w).map pmD)) /\ Grow G G') (fun R h'=>⟨a,w,rfl,h,hl,fun q' G' x y z=>h' _ _ ⟨q',rfl,x,y,z⟩⟩) fun d G' ⟨q',e,x,y,z⟩=>by subst e;exact k q' G' x y z
theorem ug9 {G:Gp} {a:Addr} {n s p b e dp:Nat} {c:Nat->Int} {kvs:List (List Key × D)} {q:DK} (h:G a=some (.dit kvs)) (hT:TAw c (inA n s) kvs) (hi:inA n s p b e) (hd:e - b<=dp) (hn:n<=20) (k:∀ (q':Addr) (w:List Mv) (G':Gp),G q'=none->G' q'=some (.lst (w.map mD))->w.length < 2 ^ (e - b)->WOK b e p true w->LeastA c p b e (wk c w)->Grow G G'->q (.ref q') G'):∃ R,uq5 T dp [.int (p:Int),.int (b:Int),.int (e:Int),.ref a] G R /\ ∀ d G',R d G'->q d G' :=
 u19 (post:=fun d G'=>∃ (q':Addr) (w:List Mv),d=.ref q' /\ G q'=none /\ G' q'=some (.lst (w.map mD)) /\ w.length < 2 ^ (e - b) /\ WOK b e p true w /\ LeastA c p b e (wk c w) /\ Grow G G') (fun R h'=>⟨a,n,s,p,b,e,c,kvs,rfl,h,hT,hi,hd,hn,fun q' w G' x y z u v t=>h' _ _ ⟨q',w,rfl,x,y,z,u,v,t⟩⟩) fun d G' ⟨q',w,ed,x,y,z,u,v,t⟩=>by subst ed;exact k q' w G' x y z u v t
theorem vd1 {G:Gp} {a t:Addr} {n s p b dp:Nat} {c:Nat->Int} {ka kt:List (List Key × D)} {q:DK} (h:G a=some (.dit ka)) (ht:G t=some (.dit kt)) (hA:TAw c (inA n s) ka) (hT:TRw c n (inR n s) kt) (hi:inR n s p b) (hd:n - b<=dp) (hn:n<=20) (k:∀ (q':Addr) (w:List Mv) (G':Gp),G q'=none->G' q'=some (.lst (w.map mD))->w.length < 2 ^ (n - b)->WOK b n p false w->LeastR c n p b (wk c w)->Grow G G'->q (.ref q') G'):∃ R,uq4 T dp [.int (p:Int),.int (b:Int),.int (n:Int),.ref a,.ref t] G R /\ ∀ d G',R d G'->q d G' :=
 u19 (post:=fun d G'=>∃ (q':Addr) (w:List Mv),d=.ref q' /\ G q'=none /\ G' q'=some (.lst (w.map mD)) /\ w.length < 2 ^ (n - b) /\ WOK b n p false w /\ LeastR c n p b (wk c w) /\ Grow G G') (fun R h'=>⟨a,t,n,s,p,b,c,ka,kt,rfl,h,ht,hA,hT,hi,hd,hn,fun q' w G' x y z u v r=>h' _ _ ⟨q',w,rfl,x,y,z,u,v,r⟩⟩) fun d G' ⟨q',w,ed,x,y,z,u,v,r⟩=>by subst ed;exact k q' w G' x y z u v r
theorem w25 {n:Nat}:Ok P w mg base n T.f_jao (uq5 T 0):=vb5 fun ds G R ⟨a,n,s,p,b,e,c,kvs,_,_,_,hi,h2,_⟩=>by have:=hi.2.2.1;omega
theorem w24 {n:Nat}:Ok P w mg base n T.f_jat (uq4 T 0):=vb5 fun ds G R ⟨a,t,n,s,p,b,c,ka,kt,_,_,_,_,_,hi,h2,_⟩=>by have:=hi.2.2.1;omega
def vo5 (_:Txt K mg):Sp3:=fun ds G R=>∃ (a:Addr) (ks:List Key) (kvs:List (List Key × D)),ds=[.ref a,.tup (ks.map kD)] /\ G a=some (.dit kvs) /\ (∀ d,valD kvs ks=some d->∃ w m,d=vD w m /\ R (.int w) G) /\ (valD kvs ks=none->R .non G)
def vp2 (_:Txt K mg):Sp3:=fun ds G R=>∃ (c:Addr) (s:Nat) (pl:List Int),ds=[.ref c,.int (s:Int)] /\ G c=some (.lst (pl.map .int)) /\ 1<=pl.length /\ pl.length<=24 /\ s<=8 /\ ∀ G',Grow G G'->(pl.length<=cap s true->∀ W,LeastA (cf pl) s 0 pl.length W->R (.int W) G') /\ (¬ pl.length<=cap s true->R .non G')
def vo6 (_:Txt K mg):Sp3:=fun ds G R=>∃ (c:Addr) (s:Nat) (pl:List Int),ds=[.ref c,.int (s:Int)] /\ G c=some (.lst (pl.map .int)) /\ 1<=pl.length /\ pl.length<=24 /\ s<=8 /\ ∀ G',Grow G G'->(pl.length<=cap s false->∀ W,LeastR (cf pl) pl.length s 0 W->R (.int W) G') /\ (¬ pl.length<=cap s false->R .non G')
theorem w66 {G:Gp} {c:Addr} {s:Nat} {pl:List Int} {q:DK} (h:G c=some (.lst (pl.map .int))) (h1:1<=pl.length) (h2:pl.length<=24) (h3:s<=8) (k:∀ (x:Option Int) (G':Gp),AnsA pl s x->Grow G G'->q (oD x) G'):∃ R,vp2 T [.ref c,.int (s:Int)] G R /\ ∀ d G',R d G'->q d G' :=
 u19 (post:=fun d G'=>∃ x,d=oD x /\ AnsA pl s x /\ Grow G G') (fun R h'=>⟨c,s,pl,rfl,h,h1,h2,h3,fun G' g=>⟨fun _ W hW=>h' _ _ ⟨some W,rfl,.inl ⟨W,rfl,hW⟩,g⟩,fun hn=>h' _ _ ⟨none,rfl,.inr ⟨hn,rfl⟩,g⟩⟩⟩) fun d G' ⟨x,e,y,z⟩=>by subst e;exact k x G' y z
theorem w12 {G:Gp} {c:Addr} {s:Nat} {pl:List Int} {q:DK} (h:G c=some (.lst (pl.map .int))) (h1:1<=pl.length) (h2:pl.length<=24) (h3:s<=8) (k:∀ (x:Option Int) (G':Gp),AnsR pl s x->Grow G G'->q (oD x) G'):∃ R,vo6 T [.ref c,.int (s:Int)] G R /\ ∀ d G',R d G'->q d G' :=
 u19 (post:=fun d G'=>∃ x,d=oD x /\ AnsR pl s x /\ Grow G G') (fun R h'=>⟨c,s,pl,rfl,h,h1,h2,h3,fun G' g=>⟨fun _ W hW=>h' _ _ ⟨some W,rfl,.inl ⟨W,rfl,hW⟩,g⟩,fun hn=>h' _ _ ⟨none,rfl,.inr ⟨hn,rfl⟩,g⟩⟩⟩) fun d G' ⟨x,e,y,z⟩=>by subst e;exact k x G' y z
theorem vn2 {G:Gp} {c:Addr} {s:Nat} {pl:List Int} {q:DK} (h:G c=some (.lst (pl.map .int))) (h1:1<=pl.length) (h2:pl.length<=20) (h3:s<=8) (k:∀ (d:D) (G':Gp),Grow G G'->((d=.non /\ ¬ pl.length<=cap s true) \/ ∃ (q':Addr) (P:List Pm),d=.ref q' /\ G q'=none /\ G' q'=some (.lst (P.map pmD)) /\ P.length<=4000000 /\ PLN pl.length s true P /\ LeastA (cf pl) s 0 pl.length (wkp (cf pl) P))->q d G'):∃ R,vo8 T [.ref c,.int (s:Int)] G R /\ ∀ d G',R d G'->q d G' :=
 u19 (post:=fun d G'=>Grow G G' /\ ((d=.non /\ ¬ pl.length<=cap s true) \/ ∃ (q':Addr) (P:List Pm),d=.ref q' /\ G q'=none /\ G' q'=some (.lst (P.map pmD)) /\ P.length<=4000000 /\ PLN pl.length s true P /\ LeastA (cf pl) s 0 pl.length (wkp (cf pl) P))) (fun R h'=>⟨c,s,pl,rfl,h,h1,h2,h3,fun G' g=>⟨fun q P x1 x2 x3 x4 x5=>h' _ _ ⟨g,.inr ⟨q,P,rfl,x1,x2,x3,x4,x5⟩⟩,fun hn=>h' _ _ ⟨g,.inl ⟨rfl,hn⟩⟩⟩⟩) fun d G' ⟨g,x⟩=>k d G' g x
theorem w65 {G:Gp} {c:Addr} {s:Nat} {pl:List Int} {q:DK} (h:G c=some (.lst (pl.map .int))) (h1:1<=pl.length) (h2:pl.length<=20) (h3:s<=8) (hc:pl.length<=cap s false) (k:∀ (q':Addr) (P:List Pm) (W:Int) (G':Gp),Grow G G'->G q'=none->G' q'=some (.lst (P.map pmD))->P.length<=4000000->PLN pl.length s false P->LeastR (cf pl) pl.length s 0 W->wkp (cf pl) P=W+W->q (.ref q') G'):∃ R,v86 T [.ref c,.int (s:Int)] G R /\ ∀ d G',R d G'->q d G' :=
 u19 (post:=fun d G'=>Grow G G' /\ ∃ (q':Addr) (P:List Pm) (W:Int),d=.ref q' /\ G q'=none /\ G' q'=some (.lst (P.map pmD)) /\ P.length<=4000000 /\ PLN pl.length s false P /\ LeastR (cf pl) pl.length s 0 W /\ wkp (cf pl) P=W+W) (fun R h'=>⟨c,s,pl,rfl,h,h1,h2,h3,fun G' g=>⟨fun q P W x1 x2 x3 x4 x5 x6=>h' _ _ ⟨g,q,P,W,rfl,x1,x2,x3,x4,x5,x6⟩,fun hn=>absurd hc hn⟩⟩) fun d G' ⟨g,q',P,W,e,x1,x2,x3,x4,x5,x6⟩=>by subst e;exact k q' P W G' g x1 x2 x3 x4 x5 x6
def vp0 (_:Txt K mg):Sp3:=fun ds G R=>∃ (m:Nat),ds=[.int (m:Int)] /\ ∀ G',Grow G G'->R (.int (cnt 8 m:Int)) G'
theorem vd2 {G:Gp} {m:Nat} {q:DK} (k:∀ G',Grow G G'->q (.int (cnt 8 m:Int)) G'):∃ R,vp0 T [.int (m:Int)] G R /\ ∀ d G',R d G'->q d G' :=
 u19 (post:=fun d G'=>d=.int (cnt 8 m:Int) /\ Grow G G') (fun R h'=>⟨m,rfl,fun G' x=>h' _ _ ⟨rfl,x⟩⟩) fun d G' ⟨e,x⟩=>by subst e;exact k G' x
def nxD (m k:Nat):D:=.tup [.int ((xr m (k+1):Nat):Int),.int (k:Int)]
def vo9 (_:Txt K mg):Sp3:=fun ds G R=>∃ (m n s:Nat),ds=[.int (m:Int),.int (n:Int),.int (s:Int)] /\ m < 2 ^ n /\ n<=8 /\ ∀ q G',G q=none->G' q=some (.lst ((nxt n s m).map (nxD m)))->Grow G G'->R (.ref q) G'
theorem w11 {G:Gp} {m n s:Nat} {q:DK} (h:m < 2 ^ n) (h8:n<=8) (k:∀ q' G',G q'=none->G' q'=some (.lst ((nxt n s m).map (nxD m)))->Grow G G'->q (.ref q') G'):∃ R,vo9 T [.int (m:Int),.int (n:Int),.int (s:Int)] G R /\ ∀ d G',R d G'->q d G' :=
 u19 (post:=fun d G'=>∃ q',d=.ref q' /\ G q'=none /\ G' q'=some (.lst ((nxt n s m).map (nxD m))) /\ Grow G G') (fun R h'=>⟨m,n,s,rfl,h,h8,fun q' G' x y z=>h' _ _ ⟨q',rfl,x,y,z⟩⟩) fun d G' ⟨q',e,x,y,z⟩=>by subst e;exact k q' G' x y z
def qnF:Str:=("_law_far" ++ ".<locals>.") ++ "<lambda>"
def vp1 (_:Txt K mg):Sp3:=fun ds G R=>∃ (b:Addr) (pl:List Int) (s:Nat),ds=[.ref b,.int (s:Int)] /\ G 146=some (.tb qnF 4) /\ G b=some (.lst (pl.map .int)) /\ pl.length<=8 /\ (∀ x ∈ pl,1<=x /\ x<=1000000000) /\ ∀ (q:Addr) (F:List (Nat × Int)) (t:Int) (G':Gp),G q=none->G' q=some (.dic (fiD F))->Dj pl.length s (cf pl) F [] t (fun _ _=>False)->Grow G G'->R (.ref q) G'
theorem w67 {G:Gp} {b:Addr} {pl:List Int} {s:Nat} {q:DK} (ht:G 146=some (.tb qnF 4)) (h:G b=some (.lst (pl.map .int))) (h8:pl.length<=8) (hp:∀ x ∈ pl,1<=x /\ x<=1000000000) (k:∀ (q':Addr) (F:List (Nat × Int)) (t:Int) (G':Gp),G q'=none->G' q'=some (.dic (fiD F))->Dj pl.length s (cf pl) F [] t (fun _ _=>False)->Grow G G'->q (.ref q') G'):∃ R,vp1 T [.ref b,.int (s:Int)] G R /\ ∀ d G',R d G'->q d G' :=
 u19 (post:=fun d G'=>∃ (q':Addr) (F:List (Nat × Int)) (t:Int),d=.ref q' /\ G q'=none /\ G' q'=some (.dic (fiD F)) /\ Dj pl.length s (cf pl) F [] t (fun _ _=>False) /\ Grow G G') (fun R h'=>⟨b,pl,s,rfl,ht,h,h8,hp,fun q' F t G' x y z w=>h' _ _ ⟨q',F,t,rfl,x,y,z,w⟩⟩) fun d G' ⟨q',F,t,e,x,y,z,w⟩=>by subst e;exact k q' F t G' x y z w
def v14 (_:Txt K mg):Sp3:=fun ds G R=>∃ (d:D) (b:Addr) (pl:List Int),ds=[d,.ref b] /\ G b=some (.lst (pl.map .int)) /\ ((d=.non /\ R .non G) \/ ∃ (a:Addr) (w:List Pm),d=.ref a /\ G a=some (.lst (w.map pmD)) /\ w.length<=4000000 /\ (∀ p,some p ∈ w->1<=p.2 /\ p.2<=pl.length) /\ ∀ G',Grow G G'->R (.int (wkp (cf pl) w)) G')
theorem vn4 {G:Gp} {b:Addr} {pl:List Int} {q:DK} (hb:G b=some (.lst (pl.map .int))) (k:q .non G):∃ R,v14 T [.non,.ref b] G R /\ ∀ d G',R d G'->q d G' :=
 u76 (v:=.non) (G1:=G) (fun R h'=>⟨.non,b,pl,rfl,hb,.inl ⟨rfl,h'⟩⟩) k
theorem vn3 {G:Gp} {a b:Addr} {w:List Pm} {pl:List Int} {n s:Nat} {left:Bool} {q:DK} (h:G a=some (.lst (w.map pmD))) (hb:G b=some (.lst (pl.map .int))) (hn:w.length<=4000000) (hw:PLN n s left w) (hp:pl.length=n) (k:∀ G',Grow G G'->q (.int (wkp (cf pl) w)) G'):∃ R,v14 T [.ref a,.ref b] G R /\ ∀ d G',R d G'->q d G' :=
 u19 (post:=fun d G'=>d=.int (wkp (cf pl) w) /\ Grow G G') (fun R h'=>⟨.ref a,b,pl,rfl,hb,.inr ⟨a,w,rfl,h,hn,(fun p hp'=>by rw [hp];exact hw.mem p hp'),fun G' x=>h' _ _ ⟨rfl,x⟩⟩⟩) fun d G' ⟨e,x⟩=>by subst e;exact k G' x
theorem v09 {G:Gp} {d:D} {b:Addr} {pl:List Int} {n s:Nat} {left:Bool} {x:Option Int} {q:DK} (hb:G b=some (.lst (pl.map .int))) (hp:pl.length=n) (hd:(d=.non /\ x=none) \/ ∃ (a:Addr) (w:List Pm),d=.ref a /\ G a=some (.lst (w.map pmD)) /\ w.length<=4000000 /\ PLN n s left w /\ x=some (wkp (cf pl) w)) (k:∀ G',Grow G G'->q (oD x) G'):∃ R,v14 T [d,.ref b] G R /\ ∀ d G',R d G'->q d G':=by
 rcases hd with ⟨rfl,rfl⟩ | ⟨a,w,rfl,h1,h2,h3,rfl⟩
 ·exact vn4 T hb (k G Grow.refl)
 ·exact vn3 T h1 hb h2 h3 hp k
theorem uo1 {G:Gp} {c:Addr} {s:Nat} {pl:List Int} {q:DK} (h:G c=some (.lst (pl.map .int))) (h1:1<=pl.length) (h2:pl.length<=20) (h3:s<=8) (k:∀ (d:D) (G':Gp),Grow G G'->((d=.non /\ ¬ pl.length<=cap s false) \/ ∃ (q':Addr) (P:List Pm) (W:Int),d=.ref q' /\ G' q'=some (.lst (P.map pmD)) /\ P.length<=4000000 /\ PLN pl.length s false P /\ LeastR (cf pl) pl.length s 0 W /\ wkp (cf pl) P=W+W)->q d G'):∃ R,v86 T [.ref c,.int (s:Int)] G R /\ ∀ d G',R d G'->q d G' :=
 u19 (post:=fun d G'=>Grow G G' /\ ((d=.non /\ ¬ pl.length<=cap s false) \/ ∃ (q':Addr) (P:List Pm) (W:Int),d=.ref q' /\ G' q'=some (.lst (P.map pmD)) /\ P.length<=4000000 /\ PLN pl.length s false P /\ LeastR (cf pl) pl.length s 0 W /\ wkp (cf pl) P=W+W)) (fun R h'=>⟨c,s,pl,rfl,h,h1,h2,h3,fun G' g=>⟨fun q P W x1 x2 x3 x4 x5 x6=>h' _ _ ⟨g,.inr ⟨q,P,W,rfl,x2,x3,x4,x5,x6⟩⟩,fun hn=>h' _ _ ⟨g,.inl ⟨rfl,hn⟩⟩⟩⟩) fun d G' ⟨g,x⟩=>k d G' g x
def w17 (_:Txt K mg):Sp3:=fun ds G R=>∃ (a:Addr) (ns:List Int),ds=[.ref a] /\ G 146=some (.tb qnF 4) /\ G a=some (.fro (ns.map .int)) /\ ns.length<=63 /\ ∀ G',R (.bl true) G'
end
end Law
set_option compiler.extract_closed false
open PySem L2 L3 Rw in
set_option hygiene false in
local macro_rules | `(tactic| simp! [$xs,*])=>`(tactic| try simp only [v78,Int.toNat_natCast,dCall,v77,w62,List.append_nil,dSeq,vm6,dAsg,vm9,dRet,w59,dIfS,dB,dAnd,dOr,dNot,vn0,dOrV,w61,dIf,dVar,dC,dOp,dUn,dNil,uz7,dTup,dLst,dCB,dSl,w60,vm5,dBM,dBM0,dAug,dFld,w58,w64,dYes,up6,jSub,jSeq,vl0,jNil,vq5,vq4,wAny,dFor,xSub,xDiv,xMod,xPow,xShl,xShr,xAnd,xOr,xXor,vk8,tyD,ua0,uc2,List.map_cons,List.map_nil,List.cons_append,List.nil_append,List.length_cons,List.length_nil,List.replicate,List.getElem?_cons_zero,List.getElem?_cons_succ,List.set_cons_zero,List.set_cons_succ,Nat.reduceAdd,Nat.reduceSub,Nat.sub_self,us2,us3,u02,Option.bind_some,Option.bind_none,id,Bool.false_eq_true,if_true,if_false,reduceIte,true_and,and_true,decide_true,decide_false,Bool.not_true,Bool.not_false,w72,w71,w70,w69,w68,vz3,vz2,vz1,vz5,vz4,vp5,vp3,w63,$xs,*])
open L3 in
set_option hygiene false in
local macro_rules | `(tactic| dsimp! [$xs,*])=>`(tactic| (simp only [Go];simp! [$xs,*]))
namespace Law
open PySem L2 L3 Rw
section
variable {P:Program} {w:World} {K:PySem.W.Frag} {mg:Str->Option Value} {base:Heap} (T:Txt K mg)
theorem vw0 {n:Nat}:Ok P w mg base (n+1) T.f_jaw (w18 T):=by
 refine u24 T.f_jaw va5 (fun ds G R h=>?_) (fun cdv A outer s H E hr =>
   (u04 (s_if (u33 (x_eq hr) (e_ix x_ix (ev 0) u05) ug3 (nomark _)) (u08 (u20 (u48 (u00 ug3 (u00 (e_ix x_ix (ev 0) u05) u03))))) u31)
   (u04 (s_if (u33 (x_eq hr) (e_ix x_ix (ev 0) u05) ug3 (nomark _)) (u08 (u20 (u48 (u00 ug3 (u00 (e_ix x_ix (ev 0) u05) u03))))) u31)
   (u08 (u20 (ev 0)))))) (fun ds G R h=>?_)
 ·obtain ⟨p,rfl,_⟩:=h;rfl
 ·obtain ⟨p,rfl,post⟩:=h
  cases p with
  | none =>
   have l1:(("show" : Str) = "lay")=False:=eq_false (by decide);have l2:(("show" : Str) = "clear")=False:=eq_false (by decide)
   (simp! [pmD,l1,l2];repeat (simp only [Go];simp! [pmD,l1,l2]))
   exact post
  | some p =>
   obtain ⟨b,k⟩:=p;have l1:(("clear" : Str) = "lay")=False:=eq_false (by decide);cases b with
   | true =>
    (simp! [pmD,mD,pD,mP];repeat (simp only [Go];simp! [pmD,mD,pD,mP]))
    exact ⟨by decide,post⟩
   | false =>
    (simp! [pmD,mD,pD,mP,l1];repeat (simp only [Go];simp! [pmD,mD,pD,mP,l1]))
    exact ⟨by decide,post⟩
theorem vv9 {n:Nat} (G_jaw:Ok P w mg base n T.f_jaw (w18 T)):Ok P w mg base (n+1) T.f_jax (v85 T):=by
 refine u24 T.f_jax va4 (fun ds G R h=>?_) (fun cdv A outer s H E hr =>
   (u08 (u20 (u87 (N':=["move"]) (ix:=[none]) (blk (osc:=u01 v24) (N:=["plan"]) rfl rfl (by decide)) (up9 rfl T.b_reversed (u00 (ev 0) u03)) (fun _ _ _ _=>(u27 0 (show (["move"]:List Str).Nodup by decide))) (fun _ _ _ _=>u69) (fun _ _ _ _=>(ec T.f_jaw T.g_turned_move G_jaw hr (u00 (ev 0) u03))))))) (fun ds G R h=>?_)
 ·obtain ⟨a,w,rfl,_⟩:=h;rfl
 ·obtain ⟨a,w,rfl,ha,hl,post⟩:=h
  simp! [wRev,ha];intro p hp;have ha1:∀ {o:DO},gup G p o a=some (.lst (w.map pmD)):=fun {o}=>by rw [u07 (gne ha hp)];exact ha
  refine u36 (fun r σ G'=>∃ (l t:List Pm) (v:Option D),t++l=w /\ r=(t.map pmD).reverse /\ G'=gup G p (.lst ((bkp l).map pmD)) /\ σ=[v]) ⟨[],w,none,by simp,rfl,rfl,rfl⟩ ?_ ?_
  ·rintro σ G' ⟨l,t,v,e,e2,rfl,rfl⟩
   have ht:t=[]:=by simpa using e2.symm
   subst ht;rw [List.nil_append] at e;subst e;refine ⟨by rw [ha1];rfl,?_⟩;exact post p _ hp u02 (Grow.refl.new hp)
  ·rintro z r σ G' ⟨l,t,v,e,e2,rfl,rfl⟩ ih
   rcases List.eq_nil_or_concat t with ht | ⟨t,p0,ht⟩
   ·subst ht;cases e2
   ·rw [List.concat_eq_append] at ht
    subst ht;rw [List.map_append,List.reverse_append] at e2;cases e2;refine ⟨by rw [ha1];rfl,?_⟩;have hlen:=congrArg List.length e;rw [List.length_append,List.length_append] at hlen;have hbl:=vn7 (w:=l);simp! [id];refine u76 (v:=pmD (flp p0)) (G1:=gup G p (.lst ((bkp l).map pmD))) (fun R h=>⟨p0,rfl,h⟩) ?_;simp! [id];refine ⟨by rw [List.length_map,hbl];exact Nat.lt_of_le_of_lt (m:=4000000) (by omega) (by decide),ih _ _ ⟨p0::l,t,_,by rw [<- e,List.append_assoc];rfl,rfl,?_,rfl⟩⟩;rw [u37,v84,List.map_append];rfl
theorem vw5 {n:Nat}:Ok P w mg base (n+1) T.f_jaq (v88 T):=by
 refine u24 T.f_jaq va7 (fun ds G R h=>?_) (fun cdv A outer s H E hr =>
   (u08 (u20 (u06 u40 (u06 v17 u05 (ev 0)) u05)))) (fun ds G R h=>?_)
 ·obtain ⟨s,rfl,_⟩:=h;rfl
 ·obtain ⟨s,rfl,hs,post⟩:=h
  have cp:CPow 1 (s:Int):=un6 (by omega) (by omega);have e2:(1 * 2 ^ s - 1:Int)=(cap s false:Int):=by
   cases s with
   | zero=>rfl
   | succ s =>
    have:=Nat.two_pow_pos (s+1)
    show _=((2 ^ (s+1) - 1:Nat):Int)
    rw [Int.natCast_sub (by omega)];simp
  simp! [cp,e2];exact post
theorem vx7 {n:Nat}:Ok P w mg base (n+1) T.f_jac (v15 T):=by
 refine u24 T.f_jac vb0 (fun ds G R h=>?_) (fun cdv A outer s H E hr =>
   (u08 (u20 (e_if (u33 (x_gt) (ev 0) u05 (nomark _)) (u06 v17 u05 (u06 u40 (ev 0) u05)) u05)))) (fun ds G R h=>?_)
 ·obtain ⟨s,rfl,_⟩:=h;rfl
 ·obtain ⟨s,rfl,hs,post⟩:=h
  cases s with
  | zero =>
   simp! [id];exact post
  | succ s =>
   have e1:((s+1:Nat):Int) - 1=(s:Int):=by omega
   have cp:CPow 1 (s:Int):=un6 (by omega) (by omega);have p0:((0:Int) < ((s+1:Nat):Int))=True:=eq_true (by omega);have e2:(1 * 2 ^ s:Int)=(cap (s+1) true:Int):=by show _=((2 ^ s:Nat):Int);simp
   simp! [p0,e1,cp,e2];exact post
theorem vv8 {n:Nat}:Ok P w mg base (n+1) T.f_jay (vo5 T):=by
 refine u24 T.f_jay va3 (fun ds G R h=>?_) (fun cdv A outer s H E hr =>
   (u08 (u20 (e_if (u33 (w31 hr) (ev 1) (ev 0) (by with_unfolding_all rfl)) (e_ix x_ix (u58 hr (ev 0) (ev 1)) u05) uj2)))) (fun ds G R h=>?_)
 ·obtain ⟨a,ks,kvs,rfl,_⟩:=h;rfl
 ·obtain ⟨a,ks,kvs,rfl,ha,h1,h2⟩:=h
  simp! [id];refine ⟨ks,kvs,a,rfl,rfl,ha,?_⟩;cases e:valD kvs ks with
  | none =>
   simp! [id];exact h2 e
  | some d =>
   obtain ⟨w,m,rfl,hr⟩:=h1 d e;simp! [ua9];refine ⟨a,kvs,ks,_,rfl,rfl,ha,e,?_⟩;simp! [vD];exact hr
theorem vx8 {n:Nat}:Ok P w mg base (n+1) T.f_jab (w23 T):=by
 refine u24 T.f_jab vb1 (fun ds G R h=>?_) (fun cdv A outer s H E hr =>
   (u08 (u20 (u06 u25 (u06 u25 (e_ix x_ix (u58 hr (ev 4) (u48 (u00 (ev 0) (u00 (ev 1) (u00 (ev 2) u03))))) u05) (e_ix x_ix (u58 hr (ev 4) (u48 (u00 (u06 u40 (ev 0) u05) (u00 (ev 2) (u00 (ev 3) u03))))) u05)) (e_ix x_ix (u58 hr (ev 4) (u48 (u00 (u06 u40 (ev 0) u05) (u00 (ev 1) (u00 (ev 2) u03))))) u05))))) (fun ds G R h=>?_)
 ·obtain ⟨a,p,b,m,e,kvs,w1,w2,w3,m1,m2,m3,rfl,_⟩:=h;rfl
 ·obtain ⟨a,p,b,m,e,kvs,w1,w2,w3,m1,m2,m3,rfl,ha,hp,e1,e2,e3,post⟩:=h
  have ep:(p:Int) - 1=((p - 1:Nat):Int):=by omega
  simp! [ua9,ep];refine ⟨by decide,a,kvs,k3 p b m,_,rfl,rfl,ha,e1,?_⟩;simp! [ua9,vD,ep];refine ⟨by decide,a,kvs,k3 (p - 1) m e,_,rfl,rfl,ha,e2,?_⟩;simp! [ua9,vD,ep];refine ⟨by decide,a,kvs,k3 (p - 1) b m,_,rfl,rfl,ha,e3,?_⟩;simp! [ua9,vD,ep];exact post
theorem vw9 {n:Nat} (G_jac:Ok P w mg base n T.f_jac (v15 T)) (G_jab:Ok P w mg base n T.f_jab (w23 T)):Ok P w mg base (n+1) T.f_jal (w21 T):=by
 refine u24 T.f_jal sc_jal (fun ds G R h=>?_) (fun cdv A outer s H E hr =>
   (u04 (s_if (u33 (x_eq hr) (u06 u40 (ev 3) (ev 2)) u05 (nomark _)) (u08 (u20 (u48 (u00 (e_ix x_ix (ev 0) (ev 2)) (u00 (ev 3) u03))))) u31)
   (u04 (u26 5 sc_jal.nd (ec T.f_jac T.g_alone_reach G_jac hr (u00 (u06 u40 (ev 1) u05) u03)))
   (u04 (u26 6 sc_jal.nd (ug4 hr rfl T.b_range rfl T.b_list (u00 (u11 v92 rfl T.b_max (by decide) (u00 (u06 u25 (ev 2) u05) (u00 (u06 u40 (ev 3) (ev 5)) u03))) (u00 (u06 u25 (u11 ue6 rfl T.b_min (by decide) (u00 (u06 u40 (ev 3) u05) (u00 (u06 u25 (ev 2) (ev 5)) u03))) u05) u03))))
   (u08 (u20 (u11 (v90 hr) rfl T.b_min (by decide) (u00 (u87 (N':=["middle", "places", "begin", "end", "table"]) (ix:=[none,some 1,some 2,some 3,some 4]) (blk (osc:=u01 v26) (N:=["costs", "places", "begin", "end", "table", "most", "middles"]) rfl rfl (by decide)) (v65 (ev 6)) (fun _ _ _ _=>(u27 0 (show (["middle", "places", "begin", "end", "table"]:List Str).Nodup by decide))) (fun _ _ _ _=>u69) (fun _ _ _ _=>(u48 (u00 (ec T.f_jab T.g_alone_by G_jab hr (u00 (ev 1) (u00 (ev 2) (u00 (ev 0) (u00 (ev 3) (u00 (ev 4) u03)))))) (u00 (ev 0) u03))))) u03)))))))) (fun ds G R h=>?_)
 ·obtain ⟨c,a,p,b,e,pl,kvs,Dm,rfl,_⟩:=h;rfl
 ·obtain ⟨c,a,p,b,e,pl,kvs,Dm,rfl,hc,ha,hT,hp,hp2,hb,he,hl,hcap,dl,dh,post⟩:=h
  by_cases h1:e - b=1
  ·have e1:(e:Int) - (b:Int)=1:=by omega
   simp! [e1,hc,u10];have hbl:b < pl.length:=by omega
   rw [show atI (pl.map D.int) (b:Int)=some (.int pl[b]) from u53 (by simp [hbl])];refine ⟨by decide,post _ e G .refl ?_⟩;have e3:e=b+1:=by omega
   subst e3;obtain ⟨r,rfl⟩:∃ r,p=r+1:=⟨p - 1,by omega⟩;rw [<- v01 hbl];exact ⟨LeastA.one,by unfold mA;rw [if_pos (by omega)],fun h=>absurd (by omega) h⟩
  ·have e1:¬ ((e:Int) - (b:Int)=1):=by omega
   have hp1:2<=p:=by
    rcases Nat.lt_or_ge p 2 with h | h
    ·have:p=1:=by omega
     subst this;rw [v02] at hcap;omega
    ·exact h
   have ep:(p:Int) - 1=((p - 1:Nat):Int):=by omega
   simp! [ep];rw [if_neg (by simpa using e1)];dsimp! [ep];refine ue3 T (by omega) ?_;dsimp! [u94];have hc2:=(ub1 hp1).1;obtain ⟨L,C,eL,eC,hm,hL1,hh1,hh2⟩:=uv3 (b:=b) (e:=e) (x:=cap (p - 1) true) (y:=cap (p - 1) true) (by omega) (by omega) (u84 (by omega)) (u84 (by omega));rw [eL,eC];refine ⟨⟨by omega,by omega,by omega,by omega⟩,fun l hll=>?_⟩;obtain ⟨G1,hG1⟩:∃ G1,G1=gup G l (.lst (rngD (L:Int) (C+1))):=⟨_,rfl⟩;have g1:Grow G G1:=by rw [hG1];exact Grow.refl.new hll
   have kl:G1 l=some (.lst (rngD (L:Int) (C+1))):=by rw [hG1];exact u02
   rw [<- hG1];dsimp! [kl,u10];intro q hq;have kl2:∀ {o:DO},gup G1 q o l=some (.lst (rngD (L:Int) (C+1))):=fun {o}=>by rw [u07 (gne kl hq)];exact kl
   have ka2:∀ {o:DO},gup G1 q o a=some (.dit kvs):=fun {o}=>by rw [u07 (gne (g1.kp _ _ ha) hq)];exact g1.kp _ _ ha
   refine u36 (fun r σ G'=>∃ (i n:Nat) (ts:List (List Int)) (v:Option D),i+n=C+1 /\ r=rngD ((L+i:Nat):Int) n /\ G'=gup G1 q (.lst (ts.map fun t=>.tup (t.map .int))) /\ ts.length=i /\ (∀ t ∈ ts,∃ (W:Int) (m:Nat),t=[W,(m:Int)] /\ ∃ w1 w2 w3,LeastA (cf pl) p b m w1 /\ LeastA (cf pl) (p - 1) m e w2 /\ LeastA (cf pl) (p - 1) b m w3 /\ W=w1+w2+w3) /\ (∀ j,L<=j->j < L+i->∃ W:Int,[W,(j:Int)] ∈ ts) /\ σ=[v,some (.int (p:Int)),some (.int (b:Int)),some (.int (e:Int)),some (.ref a)]) ⟨0,C+1,[],none,by omega,rfl,rfl,rfl,by simp,fun j x y=>by omega,rfl⟩ ?_ ?_
   ·rintro σ G' ⟨i,n,ts,v,e1,e2,rfl,hl2,hts,hall,rfl⟩
    have hn0:n=0:=by
     cases n with
     | zero=>rfl
     | succ n=>rw [u09] at e2;cases e2
    refine ⟨by rw [kl2],q,ts,rfl,by rw [u02];rfl,by omega,fun t ht hmin=>?_⟩;obtain ⟨W,m,rfl,w1,w2,w3,q1,q2,q3,rfl⟩:=hts t ht;refine post _ m _ (g1.new hq) ?_;have hless:∀ (m':Nat),b < m'->m' < e->m' - b<=cap (p - 1) true->e - m'<=cap (p - 1) true->∃ u1 u2 u3,LeastA (cf pl) p b m' u1 /\ LeastA (cf pl) (p - 1) m' e u2 /\ LeastA (cf pl) (p - 1) b m' u3 /\ w1+w2+w3<=u1+u2+u3:=by
     intro m' y1 y2 y3 y4;have z:L<=m' /\ m' < L+(C+1):=by
      split at eL <;> split at eC <;> omega
     obtain ⟨W',hW'⟩:=hall m' z.1 (by omega);obtain ⟨W2,m2,e4,u1,u2,u3,r1,r2,r3,rfl⟩:=hts _ hW';have e5:W'=u1+u2+u3 /\ m'=m2:=by simp at e4;omega
     obtain ⟨e6,e7⟩:=e5;subst e6;subst e7;refine ⟨u1,u2,u3,r1,r2,r3,vc3 (hmin _ hW')⟩
    have fin:∀ r,p=r+1->LeastA (cf pl) p b e (w1+w2+w3):=by
     intro r hr;subst hr;exact LeastA.two (by omega) ⟨m,w1,w2,w3,q1,q2,q3,rfl⟩ hless
    refine ⟨fin (p - 1) (by omega),?_,fun _=>⟨w1,w2,w3,q1,q2,q3,rfl⟩⟩;unfold mA;rw [if_neg h1];exact ⟨hp1,q1.1.lt.1,q2.1.lt.1,q3.1.cap,q2.1.cap⟩
   ·rintro z r σ G' ⟨i,n,ts,v,e1,e2,rfl,hl2,hts,hall,rfl⟩ ih
    cases n with
    | zero=>cases e2
    | succ n =>
     rw [u09] at e2;cases e2;have hmi:=hm (L+i) (by omega) (by omega);refine ⟨by rw [kl2],?_⟩;simp! [id];obtain ⟨w1,m1,v1,q1,_⟩:=(hT p b (L+i)).1 (dh _ _ hmi.1 (by omega) (by omega) (by omega));obtain ⟨w2,m2,v2,q2,_⟩:=(hT (p - 1) (L+i) e).1 (dl _ _ hp1 hmi.2.1 (by omega) hmi.2.2.2);obtain ⟨w3,m3,v3,q3,_⟩:=(hT (p - 1) b (L+i)).1 (dl _ _ hp1 hmi.1 (by omega) hmi.2.2.1);refine u76 (v:=.int (w1+w2+w3)) (G1:=gup G1 q (.lst (ts.map fun t=>.tup (t.map .int)))) (fun R h=>⟨a,p,b,L+i,e,kvs,w1,w2,w3,m1,m2,m3,rfl,ka2,hp,v1,v2,v3,h⟩) ?_;simp! [u02,u37];refine ⟨by decide,by rw [List.length_map];exact Nat.lt_of_le_of_lt (m:=1000000) (by omega) (by decide),ih _ _ ⟨i+1,n,ts++[[w1+w2+w3,((L+i:Nat):Int)]],_,by omega,?_,?_,by simp [hl2],?_,?_,rfl⟩⟩
     ·congr 1
     ·rw [List.map_append];rfl
     ·intro t ht
      rcases List.mem_append.mp ht with h | h
      ·exact hts t h
      ·cases List.mem_singleton.mp h
       exact ⟨_,L+i,rfl,w1,w2,w3,q1,q2,q3,rfl⟩
     ·intro j x y
      rcases Nat.lt_or_ge j (L+i) with h | h
      ·obtain ⟨W,hW⟩:=hall j x h
       exact ⟨W,List.mem_append_left _ hW⟩
      ·have:j=L+i:=by omega
       subst this;exact ⟨_,List.mem_append_right _ (List.mem_singleton.mpr rfl)⟩
theorem vx6 {n:Nat} (G_jac:Ok P w mg base n T.f_jac (v15 T)) (G_jal:Ok P w mg base n T.f_jal (w21 T)):Ok P w mg base (n+1) T.f_jad (uq6 T):=by
 refine u24 T.f_jad sc_jad (fun ds G R h=>?_) (fun cdv A outer s H E hr =>
   (u04 (u26 2 sc_jad.nd uy7)
   (u04 (ui0 (um8 rfl T.b_range (u00 u05 (u00 (u06 u25 (ev 1) u05) u03))) (u27 3 sc_jad.nd) (u08 (ui0 (um8 rfl T.b_range (u00 u05 (u00 (u06 u25 (u11 ue6 rfl T.b_min (by decide) (u00 (u11 u79 rfl T.b_len (by decide) (u00 (ev 0) u03)) (u00 (ec T.f_jac T.g_alone_reach G_jac hr (u00 (ev 3) u03)) u03))) u05) u03))) (u27 4 sc_jad.nd) (u08 (ui0 (uc3 rfl T.b_range (u00 (u06 u25 (u06 u40 (u11 u79 rfl T.b_len (by decide) (u00 (ev 0) u03)) (ev 4)) u05) u03)) (u27 5 sc_jad.nd) (u08 (us9 hr (ev 2) (u00 (ev 3) (u00 (ev 5) (u00 (u06 u25 (ev 5) (ev 4)) u03))) (ec T.f_jal T.g_least_alone G_jal hr (u00 (ev 0) (u00 (ev 3) (u00 (ev 5) (u00 (u06 u25 (ev 5) (ev 4)) (u00 (ev 2) u03)))))))))))))
   (u08 (u20 (ev 2)))))) (fun ds G R h=>?_)
 ·obtain ⟨c,s,pl,rfl,_⟩:=h;rfl
 ·obtain ⟨c,s,pl,rfl,hc,hl1,hl,hs,post⟩:=h
  simp! [vm7];intro q hq;have hcq:c ≠ q:=gne hc hq;dsimp! [id];rw [show ((s:Int)+1 - 1).toNat=s by omega];refine ⟨⟨by decide,by decide,by omega,by omega⟩,?_⟩;refine u51 (fun r σ G'=>∃ (P k:Nat) (kvs:List (List Key × D)) (v3 v4 v5:Option D),1<=P /\ P+k=s+1 /\ r=rngD (P:Int) k /\ Grow G G' /\ G' q=some (.dit kvs) /\ TAw (cf pl) (upA pl.length P 1 0) kvs /\ kvs.length<=(P * 32+1) * 32 /\ σ=[some (.ref c),some (.int (s:Int)),some (.ref q),v3,v4,v5]) ⟨1,s,[],none,none,none,by omega,by omega,rfl,Grow.refl.new hq,u02,?_,by simp,rfl⟩ ?_ ?_
  ·intro p b e
   refine ⟨fun h=>?_,fun _=>rfl⟩;obtain ⟨⟨x1,x2,x3,_⟩,x4⟩:=h;omega
  ·rintro σ G1 ⟨P,k,kvs,v3,v4,v5,hP,hk,e2,g1,k1,hT,hlen,rfl⟩
   have hk0:k=0:=by
    cases k with
    | zero=>rfl
    | succ n=>rw [u09] at e2;cases e2
   refine ⟨trivial,?_⟩;dsimp! [id];refine post q kvs G1 hq k1 (hT.congr fun p b e=>?_) g1;have:P=s+1:=by omega
   subst this;unfold upA inA
   constructor
   ·rintro ⟨⟨x1,x2,x3,x4,x5⟩,x6⟩
    exact ⟨x1,by omega,x3,x4,x5⟩
   ·rintro ⟨x1,x2,x3,x4,x5⟩
    exact ⟨⟨x1,by omega,x3,x4,x5⟩,by omega⟩
  ·rintro z r σ G1 ⟨P,k,kvs,v3,v4,v5,hP,hk,e2,g1,k1,hT,hlen,rfl⟩ ih
   cases k with
   | zero=>cases e2
   | succ k =>
    rw [u09] at e2;cases e2;refine ⟨trivial,?_⟩;simp! [g1.kp _ _ hc,u10,List.length_map];refine ue3 T (by omega) ?_;simp! [id];obtain ⟨K,hK,hK1,hK2,hK3⟩:∃ K:Nat,(if ((cap P true:Nat):Int) < (pl.length:Int) then ((cap P true:Nat):Int) else (pl.length:Int))=(K:Int) /\ K<=pl.length /\ K<=cap P true /\ ∀ x,x<=pl.length->x<=cap P true->x<=K:=by
     refine ⟨min (cap P true) pl.length,?_,by omega,by omega,by omega⟩;split <;> omega
    rw [hK,show ((K:Int)+1 - 1).toNat=K by omega];refine ⟨⟨by decide,by decide,by omega,by omega⟩,?_⟩;refine u51 (fun r σ G'=>∃ (M k:Nat) (kvs:List (List Key × D)) (v4 v5:Option D),1<=M /\ M+k=K+1 /\ r=rngD (M:Int) k /\ Grow G G' /\ G' q=some (.dit kvs) /\ TAw (cf pl) (upA pl.length P M 0) kvs /\ kvs.length<=(P * 32+M) * 32 /\ σ=[some (.ref c),some (.int (s:Int)),some (.ref q),some (.int (P:Int)),v4,v5]) ⟨1,K,kvs,v4,v5,by omega,by omega,rfl,g1,k1,hT,by omega,rfl⟩ ?_ ?_
    ·rintro σ G2 ⟨M,k2,kv2,v4,v5,hM,hk2,e2,g2,k2',hT2,hlen2,rfl⟩
     have hk0:k2=0:=by
      cases k2 with
      | zero=>rfl
      | succ n=>rw [u09] at e2;cases e2
     refine ⟨trivial,ih _ _ ⟨P+1,k,kv2,_,_,_,by omega,by omega,by congr 1,g2,k2',hT2.congr fun p b e=>?_,by omega,rfl⟩⟩;unfold upA inA
     constructor
     ·rintro ⟨⟨x1,x2,x3,x4,x5⟩,x6⟩
      exact ⟨⟨x1,by omega,x3,x4,x5⟩,by omega⟩
     ·rintro ⟨⟨x1,x2,x3,x4,x5⟩,x6⟩
      have hp:p<=P:=by omega
      refine ⟨⟨x1,hp,x3,x4,x5⟩,?_⟩
      rcases Nat.lt_or_ge p P with h | h
      ·exact .inl h
      ·have:p=P:=by omega
       subst this;have:=hK3 (e - b) (by omega) x5;exact .inr (.inl (by omega))
    ·rintro z r σ G2 ⟨M,k2,kv2,v4,v5,hM,hk2,e2,g2,k2',hT2,hlen2,rfl⟩ ih2
     cases k2 with
     | zero=>cases e2
     | succ k2 =>
      rw [u09] at e2;cases e2;refine ⟨trivial,?_⟩;simp! [g2.kp _ _ hc,u10,List.length_map];obtain ⟨Q,hQ⟩:∃ Q:Nat,pl.length=M+Q:=⟨pl.length - M,by omega⟩;rw [show ((pl.length:Int) - (M:Int)+1).toNat=Q+1 by omega];refine ⟨by omega,?_⟩;refine u51 (fun r σ G'=>∃ (B k:Nat) (kvs:List (List Key × D)) (v5:Option D),B+k=Q+1 /\ r=rngD (B:Int) k /\ Grow G G' /\ G' q=some (.dit kvs) /\ TAw (cf pl) (upA pl.length P M B) kvs /\ kvs.length<=(P * 32+M) * 32+B /\ σ=[some (.ref c),some (.int (s:Int)),some (.ref q),some (.int (P:Int)),some (.int (M:Int)),v5]) ⟨0,Q+1,kv2,v5,by omega,rfl,g2,k2',hT2,by omega,rfl⟩ ?_ ?_
      ·rintro σ G3 ⟨B,k3',kv3,v5,hk3,e2,g3,k3'',hT3,hlen3,rfl⟩
       have hk0:k3'=0:=by
        cases k3' with
        | zero=>rfl
        | succ n=>rw [u09] at e2;cases e2
       refine ⟨trivial,ih2 _ _ ⟨M+1,k2,kv3,_,_,by omega,by omega,by congr 1,g3,k3'',hT3.congr fun p b e=>?_,by omega,rfl⟩⟩;unfold upA inA
       constructor
       ·rintro ⟨⟨x1,x2,x3,x4,x5⟩,x6⟩
        exact ⟨⟨x1,x2,x3,x4,x5⟩,by omega⟩
       ·rintro ⟨⟨x1,x2,x3,x4,x5⟩,x6⟩
        exact ⟨⟨x1,x2,x3,x4,x5⟩,by omega⟩
      ·rintro z r σ G3 ⟨B,k3',kv3,v5,hk3,e2,g3,k3'',hT3,hlen3,rfl⟩ ih3
       cases k3' with
       | zero=>cases e2
       | succ k3' =>
        rw [u09] at e2;cases e2;refine ⟨trivial,?_⟩;have eBM:(B:Int)+(M:Int)=((B+M:Nat):Int):=by omega
        simp! [vm4,eBM];refine u19 (post:=fun d G'=>∃ (W:Int) (m:Nat),d=vD W m /\ Grow G3 G' /\ VA (cf pl) P B (B+M) W m) (fun R h=>⟨c,q,P,B,B+M,pl,kv3,_,rfl,g3.kp _ _ hc,k3'',hT3,hP,by omega,by omega,by omega,hl,by omega,?_,?_,fun W m G' x1 x2=>h _ _ ⟨W,m,rfl,x1,x2⟩⟩) ?_
        ·intro b' e' x1 x2 x3 x4
         exact ⟨⟨by omega,by omega,x2,x3,x4⟩,.inl (by omega)⟩
        ·intro b' e' x2 x3 x4 x5
         exact ⟨⟨by omega,by omega,x2,x3,x5⟩,.inr (.inl (by omega))⟩
        rintro d G4 ⟨W,m,rfl,g4,hm⟩;simp! [eBM];have hnot:¬ upA pl.length P M B P B (B+M):=by
         rintro ⟨_,x⟩;omega
        refine ⟨q,kv3,k3 P B (B+M),rfl,rfl,by decide,g4.kp _ _ k3'',Nat.lt_of_le_of_lt (m:=1000000) (by omega) (by decide),ih3 _ _ ⟨B+1,k3',_,_,by omega,by congr 1,(g3.trans g4).own hq,u02,(hT3.put hnot hm).congr fun p b e=>?_,?_,rfl⟩⟩
        ·rw [v21]
         constructor
         ·rintro (x | ⟨rfl,rfl,rfl⟩)
          ·exact .inl x
          ·exact .inr ⟨rfl,rfl,rfl,by omega,by omega,by omega,by omega,by omega⟩
         ·rintro (x | ⟨x1,x2,x3,_⟩)
          ·exact .inl x
          ·exact .inr ⟨x1,x2,x3⟩
        ·rw [uw8 ((hT3 P B (B+M)).2 hnot)]
         omega
theorem vx9 {n:Nat} (G_jay:Ok P w mg base n T.f_jay (vo5 T)) (G_jad:Ok P w mg base n T.f_jad (uq6 T)):Ok P w mg base (n+1) T.f_jaa (vp2 T):=by
 refine u24 T.f_jaa vb2 (fun ds G R h=>?_) (fun cdv A outer s H E hr =>
   (u08 (u20 (ec T.f_jay T.g_work_at G_jay hr (u00 (ec T.f_jad T.g_alone_table G_jad hr (u00 (ev 0) (u00 (ev 1) u03))) (u00 (u48 (u00 (ev 1) (u00 u05 (u00 (u11 u79 rfl T.b_len (by decide) (u00 (ev 0) u03)) u03)))) u03)))))) (fun ds G R h=>?_)
 ·obtain ⟨c,s,pl,rfl,_⟩:=h;rfl
 ·obtain ⟨c,s,pl,rfl,hc,h1,h2,h3,post⟩:=h
  simp! [id];refine u96 T hc h1 h2 h3 fun q kvs G1 f1 k1 hT g1=>?_
  simp! [g1.kp _ _ hc,u10,List.length_map];refine ⟨by decide,?_⟩;have hk:=hT s 0 pl.length;refine u19 (post:=fun d G'=>G'=G1 /\ ((pl.length<=cap s true /\ ∃ W,LeastA (cf pl) s 0 pl.length W /\ d=.int W) \/ (¬ pl.length<=cap s true /\ d=.non))) (fun R h=>⟨q,k3 s 0 pl.length,kvs,rfl,k1,?_,fun hv=>h _ _ ⟨rfl,.inr ⟨?_,rfl⟩⟩⟩) ?_
  ·intro d hd
   by_cases hi:inA pl.length s s 0 pl.length
   ·obtain ⟨w,m,e,hw,_⟩:=hk.1 hi
    rw [e] at hd;cases hd;exact ⟨w,m,rfl,h _ _ ⟨rfl,.inl ⟨hi.2.2.2.2,w,hw,rfl⟩⟩⟩
   ·rw [hk.2 hi] at hd;cases hd
  ·intro hle
   have hs:1<=s:=by
    rcases Nat.eq_zero_or_pos s with e | e
    ·subst e
     have:cap 0 true=0:=rfl;omega
    ·exact e
   obtain ⟨w,m,e,_,_⟩:=hk.1 ⟨hs,Nat.le_refl _,h1,Nat.le_refl _,hle⟩;rw [e] at hv;cases hv
  ·rintro d G' ⟨rfl,⟨x,W,hW,rfl⟩ | ⟨x,rfl⟩⟩
   ·exact (post _ g1).1 x W hW
   ·exact (post _ g1).2 x
theorem vw8 {n:Nat} (G_jaq:Ok P w mg base n T.f_jaq (v88 T)) (G_jac:Ok P w mg base n T.f_jac (v15 T)):Ok P w mg base (n+1) T.f_jam (w20 T):=by
 refine u24 T.f_jam sc_jam (fun ds G R h=>?_) (fun cdv A outer s H E hr =>
   (u04 (u26 5 sc_jam.nd (u11 u79 rfl T.b_len (by decide) (u00 (ev 0) u03)))
   (u04 (s_if (u33 (x_eq hr) (u06 u40 (ev 5) (ev 2)) u05 (nomark _)) (u08 (u20 (u48 (u00 (e_ix x_ix (ev 0) (ev 2)) (u00 (ev 5) u03))))) u31)
   (u04 (u26 6 sc_jam.nd (ug4 hr rfl T.b_range rfl T.b_list (u00 (u11 v92 rfl T.b_max (by decide) (u00 (u06 u25 (ev 2) u05) (u00 (u06 u40 (ev 5) (ec T.f_jaq T.g_reach G_jaq hr (u00 (u06 u40 (ev 1) u05) u03))) u03))) (u00 (u06 u25 (u11 ue6 rfl T.b_min (by decide) (u00 (u06 u40 (ev 5) u05) (u00 (u06 u25 (ev 2) (ec T.f_jac T.g_alone_reach G_jac hr (u00 (ev 1) u03))) u03))) u05) u03))))
   (u08 (u20 (u11 (v90 hr) rfl T.b_min (by decide) (u00 (u87 (N':=["middle", "alones", "places", "begin", "table"]) (ix:=[none,some 3,some 1,some 2,some 4]) (blk (osc:=u01 v25) (N:=["costs", "places", "begin", "alones", "table", "end", "middles"]) rfl rfl (by decide)) (v65 (ev 6)) (fun _ _ _ _=>(u27 0 (show (["middle", "alones", "places", "begin", "table"]:List Str).Nodup by decide))) (fun _ _ _ _=>u69) (fun _ _ _ _=>(u48 (u00 (u06 u25 (e_ix x_ix (u58 hr (ev 1) (u48 (u00 (ev 2) (u00 (ev 3) (u00 (ev 0) u03))))) u05) (e_ix x_ix (u58 hr (ev 4) (u48 (u00 (u06 u40 (ev 2) u05) (u00 (ev 0) u03)))) u05)) (u00 (ev 0) u03))))) u03)))))))) (fun ds G R h=>?_)
 ·obtain ⟨c,a,t,p,b,s,pl,ka,kt,Dm,rfl,_⟩:=h;rfl
 ·obtain ⟨c,a,t,p,b,s,pl,ka,kt,Dm,rfl,hc,ha,ht,hA,hT,hp,hps,hs,hb,hl,hcap,dl,post⟩:=h
  by_cases h1:pl.length - b=1
  ·have e1:(pl.length:Int) - (b:Int)=1:=by omega
   simp! [hc,u10,List.length_map];dsimp! [e1,hc,u10];rw [show atI (pl.map D.int) (b:Int)=some (.int pl[b]) from u53 (by simp [hb])];refine ⟨by decide,post _ pl.length G .refl ?_⟩;have e3:pl.length=b+1:=by omega
   obtain ⟨r,rfl⟩:∃ r,p=r+1:=⟨p - 1,by omega⟩;rw [<- v01 hb,e3];exact ⟨LeastR.one,by unfold mR;rw [if_pos (by omega)],fun h=>absurd (by omega) h⟩
  ·have e1:¬ ((pl.length:Int) - (b:Int)=1):=by omega
   have hp1:2<=p:=by
    rcases Nat.lt_or_ge p 2 with h | h
    ·have:p=1:=by omega
     subst this;rw [v02] at hcap;omega
    ·exact h
   have ep:(p:Int) - 1=((p - 1:Nat):Int):=by omega
   simp! [hc,u10,List.length_map];dsimp! [id];rw [if_neg (by simpa using e1)];dsimp! [u94,ep];refine w13 T (by omega) ?_;simp! [id];refine ue3 T (by omega) ?_;simp! [id];have hc2:=(ub1 hp1).2;obtain ⟨L,C,eL,eC,hm,hL1,hh1,hh2⟩:=uv3 (b:=b) (e:=pl.length) (x:=cap p true) (y:=cap (p - 1) false) (by omega) (by omega) (u84 (by omega)) (u84 (by omega));rw [eL,eC];refine ⟨⟨by omega,by omega,by omega,by omega⟩,fun l hll=>?_⟩;obtain ⟨G1,hG1⟩:∃ G1,G1=gup G l (.lst (rngD (L:Int) (C+1))):=⟨_,rfl⟩;have g1:Grow G G1:=by rw [hG1];exact Grow.refl.new hll
   have kl:G1 l=some (.lst (rngD (L:Int) (C+1))):=by rw [hG1];exact u02
   rw [<- hG1];dsimp! [kl,u10];intro q hq;have kl2:∀ {o:DO},gup G1 q o l=some (.lst (rngD (L:Int) (C+1))):=fun {o}=>by rw [u07 (gne kl hq)];exact kl
   have ka2:∀ {o:DO},gup G1 q o a=some (.dit ka):=fun {o}=>by rw [u07 (gne (g1.kp _ _ ha) hq)];exact g1.kp _ _ ha
   have kt2:∀ {o:DO},gup G1 q o t=some (.dit kt):=fun {o}=>by rw [u07 (gne (g1.kp _ _ ht) hq)];exact g1.kp _ _ ht
   refine u36 (fun r σ G'=>∃ (i n:Nat) (ts:List (List Int)) (v:Option D),i+n=C+1 /\ r=rngD ((L+i:Nat):Int) n /\ G'=gup G1 q (.lst (ts.map fun t=>.tup (t.map .int))) /\ ts.length=i /\ (∀ t ∈ ts,∃ (W:Int) (m:Nat),t=[W,(m:Int)] /\ ∃ w1 w2,LeastA (cf pl) p b m w1 /\ LeastR (cf pl) pl.length (p - 1) m w2 /\ W=w1+w2) /\ (∀ j,L<=j->j < L+i->∃ W:Int,[W,(j:Int)] ∈ ts) /\ σ=[v,some (.ref a),some (.int (p:Int)),some (.int (b:Int)),some (.ref t)]) ⟨0,C+1,[],none,by omega,rfl,rfl,rfl,by simp,fun j x y=>by omega,rfl⟩ ?_ ?_
   ·rintro σ G' ⟨i,n,ts,v,e1,e2,rfl,hl2,hts,hall,rfl⟩
    have hn0:n=0:=by
     cases n with
     | zero=>rfl
     | succ n=>rw [u09] at e2;cases e2
    refine ⟨by rw [kl2],q,ts,rfl,by rw [u02];rfl,by omega,fun t ht hmin=>?_⟩;obtain ⟨W,m,rfl,w1,w2,q1,q2,rfl⟩:=hts t ht;refine post _ m _ (g1.new hq) ?_;have hless:∀ (m':Nat),b < m'->m' < pl.length->m' - b<=cap p true->pl.length - m'<=cap (p - 1) false->∃ u1 u2,LeastA (cf pl) p b m' u1 /\ LeastR (cf pl) pl.length (p - 1) m' u2 /\ w1+w2<=u1+u2:=by
     intro m' y1 y2 y3 y4;have z:L<=m' /\ m' < L+(C+1):=by
      split at eL <;> split at eC <;> omega
     obtain ⟨W',hW'⟩:=hall m' z.1 (by omega);obtain ⟨W2,m2,e4,u1,u2,r1,r2,rfl⟩:=hts _ hW';have e5:W'=u1+u2 /\ m'=m2:=by simp at e4;omega
     obtain ⟨e6,e7⟩:=e5;subst e6;subst e7;refine ⟨u1,u2,r1,r2,vc3 (hmin _ hW')⟩
    have fin:∀ r,p=r+1->LeastR (cf pl) pl.length p b (w1+w2):=by
     intro r hr;subst hr;exact LeastR.two (by omega) ⟨m,w1,w2,q1,q2,rfl⟩ hless
    refine ⟨fin (p - 1) (by omega),?_,fun _=>⟨w1,w2,q1,q2,rfl⟩⟩;unfold mR;rw [if_neg h1];exact ⟨hp1,q1.1.lt.1,q2.1.lt.1,q1.1.cap,q2.1.cap⟩
   ·rintro z r σ G' ⟨i,n,ts,v,e1,e2,rfl,hl2,hts,hall,rfl⟩ ih
    cases n with
    | zero=>cases e2
    | succ n =>
     rw [u09] at e2;cases e2;have hmi:=hm (L+i) (by omega) (by omega);refine ⟨by rw [kl2],?_⟩;obtain ⟨w1,m1,v1,q1,_⟩:=(hA p b (L+i)).1 ⟨hp,hps,hmi.1,by omega,hmi.2.2.1⟩;obtain ⟨w2,m2,v2,q2,_⟩:=(hT (p - 1) (L+i)).1 (dl _ hp1 hmi.2.1 hmi.2.2.2);simp! [ua9,ep];refine ⟨by decide,a,ka,k3 p b (L+i),_,rfl,rfl,ka2,v1,?_⟩;simp! [ua9,vD,ep];refine ⟨by decide,t,kt,L3.k2 (p - 1) (L+i),_,rfl,rfl,kt2,v2,?_⟩;simp! [vD,u02,u37];refine ⟨by decide,by rw [List.length_map];exact Nat.lt_of_le_of_lt (m:=1000000) (by omega) (by decide),ih _ _ ⟨i+1,n,ts++[[w1+w2,((L+i:Nat):Int)]],_,by omega,?_,?_,by simp [hl2],?_,?_,rfl⟩⟩
     ·congr 1
     ·rw [List.map_append];rfl
     ·intro t ht
      rcases List.mem_append.mp ht with h | h
      ·exact hts t h
      ·cases List.mem_singleton.mp h
       exact ⟨_,L+i,rfl,w1,w2,q1,q2,rfl⟩
     ·intro j x y
      rcases Nat.lt_or_ge j (L+i) with h | h
      ·obtain ⟨W,hW⟩:=hall j x h
       exact ⟨W,List.mem_append_left _ hW⟩
      ·have:j=L+i:=by omega
       subst this;exact ⟨_,List.mem_append_right _ (List.mem_singleton.mpr rfl)⟩
theorem vw3 {n:Nat} (G_jaq:Ok P w mg base n T.f_jaq (v88 T)) (G_jam:Ok P w mg base n T.f_jam (w20 T)):Ok P w mg base (n+1) T.f_jas (v87 T):=by
 refine u24 T.f_jas sc_jas (fun ds G R h=>?_) (fun cdv A outer s H E hr =>
   (u04 (u26 3 sc_jas.nd uy7)
   (u04 (ui0 (um8 rfl T.b_range (u00 u05 (u00 (u06 u25 (ev 1) u05) u03))) (u27 4 sc_jas.nd) (u08 (ui0 (um8 rfl T.b_range (u00 u05 (u00 (u06 u25 (u11 ue6 rfl T.b_min (by decide) (u00 (u11 u79 rfl T.b_len (by decide) (u00 (ev 0) u03)) (u00 (ec T.f_jaq T.g_reach G_jaq hr (u00 (ev 4) u03)) u03))) u05) u03))) (u27 5 sc_jas.nd) (u04 (u26 6 sc_jas.nd (u06 u40 (u11 u79 rfl T.b_len (by decide) (u00 (ev 0) u03)) (ev 5)))
   (u08 (us9 hr (ev 3) (u00 (ev 4) (u00 (ev 6) u03)) (ec T.f_jam T.g_least_reached G_jam hr (u00 (ev 0) (u00 (ev 4) (u00 (ev 6) (u00 (ev 2) (u00 (ev 3) u03))))))))))))
   (u08 (u20 (ev 3)))))) (fun ds G R h=>?_)
 ·obtain ⟨c,a,s,pl,ka,rfl,_⟩:=h;rfl
 ·obtain ⟨c,a,s,pl,ka,rfl,hc,ha,hA,hl1,hl,hs,post⟩:=h
  simp! [vm7];intro q hq;dsimp! [id];rw [show ((s:Int)+1 - 1).toNat=s by omega];refine ⟨⟨by decide,by decide,by omega,by omega⟩,?_⟩;refine u51 (fun r σ G'=>∃ (P k:Nat) (kvs:List (List Key × D)) (v3 v4 v5:Option D),1<=P /\ P+k=s+1 /\ r=rngD (P:Int) k /\ Grow G G' /\ G' q=some (.dit kvs) /\ TRw (cf pl) pl.length (upR pl.length P 1) kvs /\ kvs.length<=P * 32+1 /\ σ=[some (.ref c),some (.int (s:Int)),some (.ref a),some (.ref q),v3,v4,v5]) ⟨1,s,[],none,none,none,by omega,by omega,rfl,Grow.refl.new hq,u02,?_,by simp,rfl⟩ ?_ ?_
  ·intro p b
   refine ⟨fun h=>?_,fun _=>rfl⟩;obtain ⟨⟨x1,x2,x3,_⟩,x4⟩:=h;omega
  ·rintro σ G1 ⟨P,k,kvs,v3,v4,v5,hP,hk,e2,g1,k1,hT,hlen,rfl⟩
   have hk0:k=0:=by
    cases k with
    | zero=>rfl
    | succ n=>rw [u09] at e2;cases e2
   refine ⟨trivial,?_⟩;dsimp! [id];refine post q kvs G1 hq k1 (hT.congr fun p b=>?_) g1;have:P=s+1:=by omega
   subst this;unfold upR inR
   constructor
   ·rintro ⟨⟨x1,x2,x3,x4⟩,x6⟩
    exact ⟨x1,by omega,x3,x4⟩
   ·rintro ⟨x1,x2,x3,x4⟩
    exact ⟨⟨x1,by omega,x3,x4⟩,by omega⟩
  ·rintro z r σ G1 ⟨P,k,kvs,v3,v4,v5,hP,hk,e2,g1,k1,hT,hlen,rfl⟩ ih
   cases k with
   | zero=>cases e2
   | succ k =>
    rw [u09] at e2;cases e2;refine ⟨trivial,?_⟩;simp! [g1.kp _ _ hc,u10,List.length_map];refine w13 T (by omega) ?_;simp! [id];obtain ⟨K,hK,hK1,hK2,hK3⟩:∃ K:Nat,(if ((cap P false:Nat):Int) < (pl.length:Int) then ((cap P false:Nat):Int) else (pl.length:Int))=(K:Int) /\ K<=pl.length /\ K<=cap P false /\ ∀ x,x<=pl.length->x<=cap P false->x<=K:=by
     refine ⟨min (cap P false) pl.length,?_,by omega,by omega,by omega⟩;split <;> omega
    rw [hK,show ((K:Int)+1 - 1).toNat=K by omega];refine ⟨⟨by decide,by decide,by omega,by omega⟩,?_⟩;refine u51 (fun r σ G'=>∃ (M k:Nat) (kvs:List (List Key × D)) (v4 v5:Option D),1<=M /\ M+k=K+1 /\ r=rngD (M:Int) k /\ Grow G G' /\ G' q=some (.dit kvs) /\ TRw (cf pl) pl.length (upR pl.length P M) kvs /\ kvs.length<=P * 32+M /\ σ=[some (.ref c),some (.int (s:Int)),some (.ref a),some (.ref q),some (.int (P:Int)),v4,v5]) ⟨1,K,kvs,v4,v5,by omega,by omega,rfl,g1,k1,hT,by omega,rfl⟩ ?_ ?_
    ·rintro σ G2 ⟨M,k2,kv2,v4,v5,hM,hk2,e2,g2,k2',hT2,hlen2,rfl⟩
     have hk0:k2=0:=by
      cases k2 with
      | zero=>rfl
      | succ n=>rw [u09] at e2;cases e2
     refine ⟨trivial,ih _ _ ⟨P+1,k,kv2,_,_,_,by omega,by omega,by congr 1,g2,k2',hT2.congr fun p b=>?_,by omega,rfl⟩⟩;unfold upR inR
     constructor
     ·rintro ⟨⟨x1,x2,x3,x4⟩,x6⟩
      exact ⟨⟨x1,by omega,x3,x4⟩,by omega⟩
     ·rintro ⟨⟨x1,x2,x3,x4⟩,x6⟩
      have hp:p<=P:=by omega
      refine ⟨⟨x1,hp,x3,x4⟩,?_⟩
      rcases Nat.lt_or_ge p P with h | h
      ·exact .inl h
      ·have:p=P:=by omega
       subst this;have:=hK3 (pl.length - b) (by omega) x4;exact .inr (by omega)
    ·rintro z r σ G2 ⟨M,k2,kv2,v4,v5,hM,hk2,e2,g2,k2',hT2,hlen2,rfl⟩ ih2
     cases k2 with
     | zero=>cases e2
     | succ k2 =>
      rw [u09] at e2;cases e2;refine ⟨trivial,?_⟩;obtain ⟨B,hB⟩:∃ B:Nat,pl.length=M+B:=⟨pl.length - M,by omega⟩;have eB:(pl.length:Int) - (M:Int)=(B:Int):=by omega
      simp! [g2.kp _ _ hc,u10,List.length_map,eB];dsimp! [vm4];refine u19 (post:=fun d G'=>∃ (W:Int) (m:Nat),d=vD W m /\ Grow G2 G' /\ VR (cf pl) pl.length P B W m) (fun R h=>⟨c,a,q,P,B,s,pl,ka,kv2,_,rfl,g2.kp _ _ hc,g2.kp _ _ ha,k2',hA,hT2,hP,by omega,hs,by omega,hl,by omega,?_,fun W m G' x1 x2=>h _ _ ⟨W,m,rfl,x1,x2⟩⟩) ?_
      ·intro m x1 x2 x3
       exact ⟨⟨by omega,by omega,x2,x3⟩,.inl (by omega)⟩
      rintro d G4 ⟨W,m,rfl,g4,hm⟩;simp! [id];have hnot:¬ upR pl.length P M P B:=by
       rintro ⟨_,x⟩;omega
      refine ⟨q,kv2,L3.k2 P B,rfl,rfl,by decide,g4.kp _ _ k2',Nat.lt_of_le_of_lt (m:=1000000) (by omega) (by decide),ih2 _ _ ⟨M+1,k2,_,_,_,by omega,by omega,by congr 1,(g2.trans g4).own hq,u02,(hT2.put hnot hm).congr fun p b=>?_,?_,rfl⟩⟩
      ·unfold upR inR
       constructor
       ·rintro (⟨⟨x1,x2,x3,x4⟩,x6⟩ | ⟨rfl,rfl⟩)
        ·exact ⟨⟨x1,x2,x3,x4⟩,by omega⟩
        ·exact ⟨⟨by omega,by omega,by omega,by omega⟩,by omega⟩
       ·rintro ⟨⟨x1,x2,x3,x4⟩,x6⟩
        by_cases hh:p < P \/ pl.length - b < M
        ·exact .inl ⟨⟨x1,x2,x3,x4⟩,hh⟩
        ·exact .inr ⟨by omega,by omega⟩
      ·rw [uw8 ((hT2 P B).2 hnot)]
       omega
theorem vw4 {n:Nat} (G_jay:Ok P w mg base n T.f_jay (vo5 T)) (G_jad:Ok P w mg base n T.f_jad (uq6 T)) (G_jas:Ok P w mg base n T.f_jas (v87 T)):Ok P w mg base (n+1) T.f_jar (vo6 T):=by
 refine u24 T.f_jar va6 (fun ds G R h=>?_) (fun cdv A outer s H E hr =>
   (u08 (u20 (ec T.f_jay T.g_work_at G_jay hr (u00 (ec T.f_jas T.g_reached_table G_jas hr (u00 (ev 0) (u00 (ev 1) (u00 (ec T.f_jad T.g_alone_table G_jad hr (u00 (ev 0) (u00 (ev 1) u03))) u03)))) (u00 (u48 (u00 (ev 1) (u00 u05 u03))) u03)))))) (fun ds G R h=>?_)
 ·obtain ⟨c,s,pl,rfl,_⟩:=h;rfl
 ·obtain ⟨c,s,pl,rfl,hc,h1,h2,h3,post⟩:=h
  simp! [id];refine u96 T hc h1 h2 h3 fun q0 kv0 G0 f0 k0 hT0 g0=>?_
  simp! [id];refine uo2 T (g0.kp _ _ hc) k0 hT0 h1 h2 h3 fun q kvs G1 f1 k1 hT g1=>?_
  simp! [id];refine ⟨by decide,?_⟩;have hk:=hT s 0;refine u19 (post:=fun d G'=>G'=G1 /\ ((pl.length<=cap s false /\ ∃ W,LeastR (cf pl) pl.length s 0 W /\ d=.int W) \/ (¬ pl.length<=cap s false /\ d=.non))) (fun R h=>⟨q,L3.k2 s 0,kvs,rfl,k1,?_,fun hv=>h _ _ ⟨rfl,.inr ⟨?_,rfl⟩⟩⟩) ?_
  ·intro d hd
   by_cases hi:inR pl.length s s 0
   ·obtain ⟨w,m,e,hw,_⟩:=hk.1 hi
    rw [e] at hd;cases hd;exact ⟨w,m,rfl,h _ _ ⟨rfl,.inl ⟨hi.2.2.2,w,hw,rfl⟩⟩⟩
   ·rw [hk.2 hi] at hd;cases hd
  ·intro hle
   have hs:1<=s:=by
    rcases Nat.eq_zero_or_pos s with e | e
    ·subst e
     have:cap 0 false=0:=rfl;omega
    ·exact e
   obtain ⟨w,m,e,_,_⟩:=hk.1 ⟨hs,Nat.le_refl _,h1,hle⟩;rw [e] at hv;cases hv
  ·rintro d G' ⟨rfl,⟨x,W,hW,rfl⟩ | ⟨x,rfl⟩⟩
   ·exact (post _ (g0.trans g1)).1 x W hW
   ·exact (post _ (g0.trans g1)).2 x
theorem vw6 {n dp:Nat} (G_jax:Ok P w mg base n T.f_jax (v85 T)) (G_jao:Ok P w mg base n T.f_jao (uq5 T dp)):Ok P w mg base (n+1) T.f_jao (uq5 T (dp+1)):=by
 refine u24 T.f_jao sc_jao (fun ds G R h=>?_) (fun cdv A outer s H E hr =>
   (u04 (s_if (u33 (x_eq hr) (u06 u40 (ev 2) (ev 1)) u05 (nomark _)) (u08 (u20 (u91 (u00 (u48 (u00 ug3 (u00 (ev 2) u03))) u03)))) u31)
   (u04 (u26 4 sc_jao.nd (e_ix x_ix (u58 hr (ev 3) (u48 (u00 (ev 0) (u00 (ev 1) (u00 (ev 2) u03))))) u05))
   (u08 (u20 (u06 u25 (u06 u25 (ec T.f_jao T.g_left_way G_jao hr (u00 (ev 0) (u00 (ev 1) (u00 (ev 4) (u00 (ev 3) u03))))) (ec T.f_jao T.g_left_way G_jao hr (u00 (u06 u40 (ev 0) u05) (u00 (ev 4) (u00 (ev 2) (u00 (ev 3) u03)))))) (ec T.f_jax T.g_turned_plan G_jax hr (u00 (ec T.f_jao T.g_left_way G_jao hr (u00 (u06 u40 (ev 0) u05) (u00 (ev 1) (u00 (ev 4) (u00 (ev 3) u03))))) u03)))))))) (fun ds G R h=>?_)
 ·obtain ⟨a,n,s,p,b,e,c,kvs,rfl,_⟩:=h;rfl
 ·obtain ⟨a,nn,s,p,b,e,c,kvs,rfl,ha,hT,hi,hd,hn,post⟩:=h
  have hbe:=hi.2.2.1;have hen:=hi.2.2.2.1
  by_cases h1:e - b=1
  ·have e1:(e:Int) - (b:Int)=1:=by omega
   simp! [e1];refine ⟨by decide,by decide,fun q hq=>?_⟩;have eb:e=b+1:=by omega
   subst eb;have hp1:=hi.1;have one:∀ r,p=r+1->LeastA c p b (b+1) (wk c [(true,b+1)]):=fun r hr=>by
    subst hr
    show LeastA c (r+1) b (b+1) (c b+0)
    rw [Int.add_zero];exact LeastA.one
   exact post q [(true,b+1)] _ hq u02 (by rw [h1];exact Nat.lt_succ_self 1) (u98 hi.1) (one (p - 1) (by omega)) (Grow.refl.new hq)
  ·have e1:¬ ((e:Int) - (b:Int)=1):=by omega
   obtain ⟨w0,m,e0,hW,hm,hs3⟩:=(hT p b e).1 hi;obtain ⟨u1,u2,u3,y1,y2,y3,ew⟩:=hs3 h1;clear hs3;unfold mA at hm;rw [if_neg h1] at hm;obtain ⟨hp2,hbm,hme,hc1,hc2⟩:=hm;have hcp:=(ub1 hp2).1;have i1:inA nn s p b m:=⟨hi.1,hi.2.1,hbm,by omega,by omega⟩;have i2:inA nn s (p - 1) m e:=⟨by omega,by have:=hi.2.1;omega,hme,by omega,by omega⟩;have i3:inA nn s (p - 1) b m:=⟨by omega,by have:=hi.2.1;omega,hbm,by omega,by omega⟩;have ep:(p:Int) - 1=((p - 1:Nat):Int):=by omega
   simp! [id];rw [if_neg (by simpa using e1)];dsimp! [ua9];refine ⟨by decide,a,kvs,k3 p b e,_,rfl,rfl,ha,e0,?_⟩;simp! [vD];dsimp! [ep];refine ug9 T ha hT i1 (by omega) hn fun q1 w1 G1 f1 k1 l1 o1 a1 g1=>?_
   simp! [ep];refine ug9 T (g1.kp _ _ ha) hT i2 (by omega) hn fun q2 w2 G2 f2 k2 l2 o2 a2 g2=>?_
   have z1:2 ^ (m - b)<=2 ^ 20:=Nat.pow_le_pow_right (by decide) (by omega);have z2:2 ^ (e - m)<=2 ^ 20:=Nat.pow_le_pow_right (by decide) (by omega);have z3:2 * 2 ^ (m - b)+2 ^ (e - m)<=2 ^ (e - b)+2:=by
    have:=ut4 (a:=m - b) (c:=e - m) (by omega) (by omega);rw [show m - b+(e - m)=e - b by omega] at this;exact this
   have k1':=g2.kp _ _ k1;simp! [ep];refine u77 k1' k2 (by rw [List.length_map,List.length_map];exact Nat.le_trans (m:=4000000) (by omega) (by decide)) fun q3 h3=>?_
   obtain ⟨G3,hG3⟩:∃ G3,G3=gup G2 q3 (.lst (w1.map mD++w2.map mD)):=⟨_,rfl⟩;have g3:Grow G2 G3:=by rw [hG3];exact Grow.refl.new h3
   have k3':G3 q3=some (.lst (w1.map mD++w2.map mD)):=by rw [hG3];exact u02
   rw [<- hG3];have g03:=(g1.trans g2).trans g3;refine ug9 T (g03.kp _ _ ha) hT i3 (by omega) hn fun q4 w4 G4 f4 k4 l4 o4 a4 g4=>?_
   simp! [id];refine v08 T (w:=w4.map some) (by rw [u50];exact k4) (by rw [List.length_map];omega) fun q5 G5 f5 k5 g5=>?_
   rw [u97,u50] at k5;have k35:=g5.kp _ _ (g4.kp _ _ k3');simp! [id];have hb4:=v11 (w:=w4);refine u77 k35 k5 (by rw [List.length_append,List.length_map,List.length_map,List.length_map];exact Nat.le_trans (m:=4000000) (by omega) (by decide)) fun q6 h6=>?_
   have g05:=g03.trans (g4.trans g5);have fin:∀ r,p=r+1->WOK b e p true (w1++w2++bkw w4):=by
    intro r hr;subst hr;exact u99 hbm hme o1 o2 o4
   have ewk:wk c (w1++w2++bkw w4)=w0:=by
    rw [u41,u41,ue8,ew,y1.eq a1,y2.eq a2,y3.eq a4]
   refine post q6 (w1++w2++bkw w4) _ (g05.none h6) (by rw [u02,List.map_append,List.map_append]) ?_ (fin (p - 1) (by omega)) (by rw [ewk];exact hW) (g05.new h6);rw [List.length_append,List.length_append];omega
theorem vw2 {n dp:Nat} (G_jao:Ok P w mg base n T.f_jao (vo7 T)) (G_jat:Ok P w mg base n T.f_jat (uq4 T dp)):Ok P w mg base (n+1) T.f_jat (uq4 T (dp+1)):=by
 refine u24 T.f_jat sc_jat (fun ds G R h=>?_) (fun cdv A outer s H E hr =>
   (u04 (s_if (u33 (x_eq hr) (u06 u40 (ev 2) (ev 1)) u05 (nomark _)) (u08 (u20 (u91 (u00 (u48 (u00 ug3 (u00 (ev 2) u03))) u03)))) u31)
   (u04 (u26 5 sc_jat.nd (e_ix x_ix (u58 hr (ev 4) (u48 (u00 (ev 0) (u00 (ev 1) u03)))) u05))
   (u08 (u20 (u06 u25 (ec T.f_jao T.g_left_way G_jao hr (u00 (ev 0) (u00 (ev 1) (u00 (ev 5) (u00 (ev 3) u03))))) (ec T.f_jat T.g_reached_way G_jat hr (u00 (u06 u40 (ev 0) u05) (u00 (ev 5) (u00 (ev 2) (u00 (ev 3) (u00 (ev 4) u03)))))))))))) (fun ds G R h=>?_)
 ·obtain ⟨a,t,n,s,p,b,c,ka,kt,rfl,_⟩:=h;rfl
 ·obtain ⟨a,t,nn,s,p,b,c,ka,kt,rfl,ha,ht,hA,hT,hi,hd,hn,post⟩:=h
  have hbe:=hi.2.2.1
  by_cases h1:nn - b=1
  ·have e1:(nn:Int) - (b:Int)=1:=by omega
   simp! [e1];refine ⟨by decide,by decide,fun q hq=>?_⟩;have eb:nn=b+1:=by omega
   subst eb;have hp1:=hi.1;have one:∀ r,p=r+1->LeastR c (b+1) p b (wk c [(true,b+1)]):=fun r hr=>by
    subst hr
    show LeastR c (b+1) (r+1) b (c b+0)
    rw [Int.add_zero];exact LeastR.one
   exact post q [(true,b+1)] _ hq u02 (by rw [h1];exact Nat.lt_succ_self 1) (u98 hi.1) (one (p - 1) (by omega)) (Grow.refl.new hq)
  ·have e1:¬ ((nn:Int) - (b:Int)=1):=by omega
   obtain ⟨w0,m,e0,hW,hm,hs3⟩:=(hT p b).1 hi;obtain ⟨u1,u2,y1,y2,ew⟩:=hs3 h1;clear hs3;unfold mR at hm;rw [if_neg h1] at hm;obtain ⟨hp2,hbm,hme,hc1,hc2⟩:=hm;have i1:inA nn s p b m:=⟨hi.1,hi.2.1,hbm,by omega,hc1⟩;have i2:inR nn s (p - 1) m:=⟨by omega,by have:=hi.2.1;omega,hme,hc2⟩;have ep:(p:Int) - 1=((p - 1:Nat):Int):=by omega
   simp! [id];rw [if_neg (by simpa using e1)];dsimp! [ua9];refine ⟨by decide,t,kt,L3.k2 p b,_,rfl,rfl,ht,e0,?_⟩;simp! [vD];dsimp! [ep];refine ug9 T ha hA i1 (by omega) hn fun q1 w1 G1 f1 k1 l1 o1 a1 g1=>?_
   simp! [ep];refine vd1 T (g1.kp _ _ ha) (g1.kp _ _ ht) hA hT i2 (by omega) hn fun q2 w2 G2 f2 k2 l2 o2 a2 g2=>?_
   have z1:2 ^ (m - b)<=2 ^ 20:=Nat.pow_le_pow_right (by decide) (by omega);have z2:2 ^ (nn - m)<=2 ^ 20:=Nat.pow_le_pow_right (by decide) (by omega);have z3:2 * 2 ^ (m - b)+2 ^ (nn - m)<=2 ^ (nn - b)+2:=by
    have:=ut4 (a:=m - b) (c:=nn - m) (by omega) (by omega);rw [show m - b+(nn - m)=nn - b by omega] at this;exact this
   have k1':=g2.kp _ _ k1;simp! [ep];refine u77 k1' k2 (by rw [List.length_map,List.length_map];exact Nat.le_trans (m:=4000000) (by omega) (by decide)) fun q6 h6=>?_
   have g05:=g1.trans g2;have fin:∀ r,p=r+1->WOK b nn p false (w1++w2):=by
    intro r hr;subst hr;exact uc8 hbm hme o1 o2
   have ewk:wk c (w1++w2)=w0:=by
    rw [u41,ew,y1.eq a1,y2.eq a2]
   refine post q6 (w1++w2) _ (g05.none h6) (by rw [u02,List.map_append]) ?_ (fin (p - 1) (by omega)) (by rw [ewk];exact hW) (g05.new h6);rw [List.length_append];omega
theorem vw7 {n:Nat} (G_jad:Ok P w mg base n T.f_jad (uq6 T)) (G_jao:Ok P w mg base n T.f_jao (vo7 T)):Ok P w mg base (n+1) T.f_jan (vo8 T):=by
 refine u24 T.f_jan sc_jan (fun ds G R h=>?_) (fun cdv A outer s H E hr =>
   (u04 (u26 2 sc_jan.nd (ec T.f_jad T.g_alone_table G_jad hr (u00 (ev 0) (u00 (ev 1) u03))))
   (u04 (s_if (u33 (uj9 hr) (u48 (u00 (ev 1) (u00 u05 (u00 (u11 u79 rfl T.b_len (by decide) (u00 (ev 0) u03)) u03)))) (ev 2) (by with_unfolding_all rfl)) (u08 (u20 uj2)) u31)
   (u08 (u20 (ec T.f_jao T.g_left_way G_jao hr (u00 (ev 1) (u00 u05 (u00 (u11 u79 rfl T.b_len (by decide) (u00 (ev 0) u03)) (u00 (ev 2) u03)))))))))) (fun ds G R h=>?_)
 ·obtain ⟨c,s,pl,rfl,_⟩:=h;rfl
 ·obtain ⟨c,s,pl,rfl,hc,h1,h2,h3,post⟩:=h
  simp! [id];refine u96 T hc h1 (by omega) h3 fun q kvs G1 f1 k1 hT g1=>?_
  dsimp! [g1.kp _ _ hc,u10,List.length_map];refine ⟨by decide,k3 s 0 pl.length,kvs,q,rfl,rfl,k1,?_⟩;have hk:=hT s 0 pl.length
  by_cases hi:inA pl.length s s 0 pl.length
  ·obtain ⟨w,m,e,_,_⟩:=hk.1 hi
   simp! [e];rw [if_neg (by simp)];dsimp! [g1.kp _ _ hc,u10,List.length_map];refine ug9 T (b:=0) (n:=pl.length) (s:=s) k1 hT hi (by omega) h2 fun q2 w2 G2 f2 k2 l2 o2 a2 g2=>?_
   have z1:2 ^ (pl.length - 0)<=2 ^ 20:=Nat.pow_le_pow_right (by decide) (by omega);exact (post G2 (g1.trans g2)).1 q2 (w2.map some) (g1.none f2) (by rw [u50];exact k2) (by rw [List.length_map];omega) (v33 (by omega) o2) (by rw [u92];exact a2)
  ·simp! [hk.2 hi]
   rw [if_pos (by simp)];refine (post G1 g1).2 fun hle=>hi ⟨?_,Nat.le_refl _,h1,Nat.le_refl _,hle⟩
   rcases Nat.eq_zero_or_pos s with e | e
   ·subst e
    have:cap 0 true=0:=rfl;omega
   ·exact e
theorem vw1 {n:Nat} (G_jad:Ok P w mg base n T.f_jad (uq6 T)) (G_jas:Ok P w mg base n T.f_jas (v87 T)) (G_jax:Ok P w mg base n T.f_jax (v85 T)) (G_jat:Ok P w mg base n T.f_jat (w19 T)):Ok P w mg base (n+1) T.f_jav (v86 T):=by
 refine u24 T.f_jav sc_jav (fun ds G R h=>?_) (fun cdv A outer s H E hr =>
   (u04 (u26 2 sc_jav.nd (ec T.f_jad T.g_alone_table G_jad hr (u00 (ev 0) (u00 (ev 1) u03))))
   (u04 (u26 3 sc_jav.nd (ec T.f_jas T.g_reached_table G_jas hr (u00 (ev 0) (u00 (ev 1) (u00 (ev 2) u03)))))
   (u04 (s_if (u33 (uj9 hr) (u48 (u00 (ev 1) (u00 u05 u03))) (ev 3) (by with_unfolding_all rfl)) (u08 (u20 uj2)) u31)
   (u04 (u26 4 sc_jav.nd (ec T.f_jat T.g_reached_way G_jat hr (u00 (ev 1) (u00 u05 (u00 (u11 u79 rfl T.b_len (by decide) (u00 (ev 0) u03)) (u00 (ev 2) (u00 (ev 3) u03)))))))
   (u08 (u20 (u06 u25 (u06 u25 (ev 4) (u91 (u00 (u48 (u00 ug3 u03)) u03))) (ec T.f_jax T.g_turned_plan G_jax hr (u00 (ev 4) u03)))))))))) (fun ds G R h=>?_)
 ·obtain ⟨c,s,pl,rfl,_⟩:=h;rfl
 ·obtain ⟨c,s,pl,rfl,hc,h1,h2,h3,post⟩:=h
  simp! [id];refine u96 T hc h1 (by omega) h3 fun q0 kv0 G0 f0 k0 hT0 g0=>?_
  dsimp! [id];refine uo2 T (g0.kp _ _ hc) k0 hT0 h1 (by omega) h3 fun q kvs G1 f1 k1 hT g1=>?_
  dsimp! [id];refine ⟨by decide,L3.k2 s 0,kvs,q,rfl,rfl,k1,?_⟩;have hk:=hT s 0;have g01:=g0.trans g1
  by_cases hi:inR pl.length s s 0
  ·obtain ⟨w,m,e,_,_⟩:=hk.1 hi
   simp! [e];rw [if_neg (by simp)];dsimp! [g01.kp _ _ hc,u10,List.length_map];refine vd1 T (b:=0) (n:=pl.length) (s:=s) (g1.kp _ _ k0) k1 hT0 hT hi (by omega) h2 fun q2 w2 G2 f2 k2 l2 o2 a2 g2=>?_
   have z1:2 ^ (pl.length - 0)<=2 ^ 20:=Nat.pow_le_pow_right (by decide) (by omega);dsimp! [id];refine ⟨by decide,by decide,fun q3 h3=>?_⟩;refine u77 (by rw [u07 (gne k2 h3)];exact k2) u02 (by rw [List.length_map];exact Nat.le_trans (m:=4000000) (by show w2.length+1<=4000000;omega) (by decide)) fun q4 h4=>?_
   obtain ⟨G4,hG4⟩:∃ G4,G4=gup (gup G2 q3 (.lst [D.tup [D.str "show"]])) q4 (.lst (w2.map mD++[D.tup [D.str "show"]])):=⟨_,rfl⟩;have g4:Grow G2 G4:=by rw [hG4];exact (Grow.refl.new h3).new h4
   have k4:G4 q4=some (.lst (w2.map mD++[D.tup [D.str "show"]])):=by rw [hG4];exact u02
   rw [<- hG4];refine v08 T (w:=w2.map some) (by rw [u50];exact g4.kp _ _ k2) (by rw [List.length_map];omega) fun q5 G5 f5 k5 g5=>?_
   rw [u97,u50] at k5;have k45:=g5.kp _ _ k4;have hb2:=v11 (w:=w2);simp! [id];refine u77 k45 k5 (by rw [List.length_append,List.length_map,List.length_map];exact Nat.le_trans (m:=4000000) (by show w2.length+1+(bkw w2).length<=4000000;omega) (by decide)) fun q6 h6=>?_
   have gg:=((g01.trans g2).trans g4).trans g5;refine (post _ (gg.new h6)).1 q6 (w2.map some++[none]++(bkw w2).map some) (wk (cf pl) w2) (gg.none h6) ?_ ?_ (ut6 o2) a2 ur2
   ·rw [u02,List.map_append,List.map_append,u50,u50];rfl
   ·rw [List.length_append,List.length_append,List.length_map,List.length_map]
    show w2.length+1+(bkw w2).length<=4000000
    omega
  ·simp! [hk.2 hi]
   rw [if_pos (by simp)];refine (post G1 g01).2 fun hle=>hi ⟨?_,Nat.le_refl _,h1,hle⟩
   rcases Nat.eq_zero_or_pos s with e | e
   ·subst e
    have:cap 0 false=0:=rfl;omega
   ·exact e
theorem vx3 {n:Nat}:Ok P w mg base (n+1) T.f_jah (v13 T):=by
 refine u24 T.f_jah sc_jah (fun ds G R h=>?_) (fun cdv A outer s H E hr =>
   (u04 (vg7 (ev 0) (vk9 (n:=3) rfl (u68 (u27 2 sc_jah.nd) (u68 (u27 3 sc_jah.nd) (u68 (u27 4 sc_jah.nd) ux4)))))
   (u04 (s_if (u33 (x_eq hr) (ev 4) u05 (nomark _)) (u04 (vg7 (u06 u25 (ev 3) u05) (vy8 (ev 0) u05 vp8))
   (u04 (u26 5 sc_jah.nd (u06 u25 (u06 uh4 u05 (ev 3)) u05))
   (u04 (s_if (u33 (x_gt) (u11 u79 rfl T.b_len (by decide) (u00 (ev 2) u03)) u05 (nomark _)) (u08 (u26 5 sc_jah.nd (e_ix x_ix (ev 2) (u06 uo4 (ev 3) (u11 u79 rfl T.b_len (by decide) (u00 (ev 2) u03)))))) u31)
   (u04 (u26 4 sc_jah.nd (u11 w32 rfl T.b_abs (by decide) (u00 (ev 5) u03)))
   (u08 (s_if (t_w (w_or (u33 (x_ge) (ev 3) (u11 u79 rfl T.b_len (by decide) (u00 (ev 2) u03)) (nomark _)) (ve4 (u33 (x_lt) (ev 4) (u06 v18 u05 u05) (nomark _))))) (u04 (u26 6 sc_jah.nd (u06 uo4 (u06 u25 (u06 u25 (u06 uh4 (u06 uo4 (ev 5) u05) (u06 u25 u05 (ev 3))) (u06 uh4 u05 (ev 3))) u05) u05))
   (u04 (u26 6 sc_jah.nd (u06 uo4 (u06 uh4 (ev 6) (ev 6)) u05))
   (u08 (u20 (u06 uo4 (u06 uo4 (u06 uh4 (ev 6) (ev 6)) u05) (ev 1)))))) u31)))))) u31)
   (u04 (vg7 (u11 v19 rfl T.b_divmod (by decide) (u00 (ev 4) (u00 (ev 1) u03))) (vk9 (n:=2) rfl (u68 (vy8 (ev 0) u05 vp8) (u68 (u27 7 sc_jah.nd) ux4))))
   (u08 (u20 (ev 7))))))) (fun ds G R h=>?_)
 ·obtain ⟨⟨st,m,rfl,_⟩,_⟩:=h;rfl
 ·obtain ⟨⟨st,m,rfl,⟨a,ns,k,r,hst,ha,hk,hr0,hne,hlen⟩,hm0,hm1⟩,post⟩:=h
  have fin:∀ (v k' r':Int),0<=v->v < m->0<=k'->0<=r'->R (.int v) (gup G st (.lst [.ref a,.int k',.int r'])):=fun v k' r' h1 h2 h3 h4=>post _ _ ⟨st,m,v,rfl,
   ⟨⟨a,ns,k',r',u02,by rw [u07 hne];exact ha,h3,h4,hne,hlen⟩,fun b o hb e=>by rw [u07 hb];exact e⟩,rfl,h1,h2⟩
  have tail:∀ (y k' r':Int),0<=k'->0<=r'->R (.int (y % m)) (gup G st (.lst [.ref a,.int k',.int r'])):=fun y k' r' h1 h2=>fin _ _ _ (Int.emod_nonneg _ (by omega)) (Int.emod_lt_of_pos _ hm0) h1 h2
  have cd:∀ c:Int,CDiv c m:=fun c=>⟨hm0,hm1⟩
  have cm:∀ c y:Int,CMul (c % 2147483629) y:=fun c y=>ug7 (by omega) (by omega)
  have cm2:∀ c y:Int,CMul (c % 2147483587) y:=fun c y=>ug7 (by omega) (by omega)
  have c7:∀ y:Int,CMul 7 y:=fun y=>ug7 (by decide) (by decide)
  have c79:∀ y:Int,CMul 7919 y:=fun y=>ug7 (by decide) (by decide)
  have cp:CPow 10 18:=⟨by decide,by decide,by decide⟩;have p1:((0:Int) < 2147483629)=True:=by decide
  have p2:((0:Int) < 2147483587)=True:=by decide
  have p3:((0:Int) < 1999999973)=True:=by decide
  have p4:((0:Int) < m)=True:=eq_true hm0
  by_cases hn:ns=[]
  ·subst hn
   (simp! [hst,ha,u07 hne,u37,cd,cm,cm2,c7,c79,cp,p1,p2,p3,p4];repeat (simp only [Go];simp! [hst,ha,u07 hne,u37,cd,cm,cm2,c7,c79,cp,p1,p2,p3,p4]))
   refine u90 (fun h0=>?_) (fun h0=>?_)
   ·simp only [Int.lt_irrefl,Int.natCast_zero,decide_false,Bool.false_eq_true,if_false]
    refine u90 (fun h1=>?_) (fun h1=>?_)
    ·exact tail _ _ _ (by omega) hr0
    ·exact absurd hk h1
   ·exact tail _ _ _ hk (Int.ediv_nonneg hr0 (by omega))
  ·have hpos:0 < ns.length:=List.length_pos_iff.mpr hn
   have hl:((ns.map D.int).length:Int)=(ns.length:Int):=by simp
   obtain ⟨c,hc⟩:∃ c,atI (ns.map D.int) (k % (ns.length:Int))=some (.int c):=⟨_,vn9 (Int.emod_nonneg _ (by omega)) (Int.emod_lt_of_pos _ (by omega))⟩;have p5:((0:Int) < (ns.length:Int))=True:=eq_true (by omega)
   (simp! [hst,ha,u07 hne,u37,cd,cm,cm2,c7,c79,cp,p1,p2,p3,p4,hl,hc,p5];repeat (simp only [Go];simp! [hst,ha,u07 hne,u37,cd,cm,cm2,c7,c79,cp,p1,p2,p3,p4,hl,hc,p5]))
   refine u90 (fun h0=>?_) (fun h0=>?_)
   ·refine u90 (fun h1=>?_) (fun h1=>?_)
    ·exact tail _ _ _ (by omega) hr0
    ·refine u90 (fun h2=>?_) (fun h2=>?_)
     ·exact tail _ _ _ (by omega) hr0
     ·refine tail _ _ _ (by omega) (Int.ediv_nonneg ?_ (by omega))
      split <;> omega
   ·exact tail _ _ _ hk (Int.ediv_nonneg hr0 (by omega))
theorem vx4 {n:Nat} (G_jah:Ok P w mg base n T.f_jah (v13 T)):Ok P w mg base (n+1) T.f_jag (w22 T):=by
 refine u24 T.f_jag sc_jag (fun ds G R h=>?_) (fun cdv A outer s H E hr =>
   (u04 (u26 2 sc_jag.nd (ec T.f_jah T.g_law_draw G_jah hr (u00 (ev 0) (u00 u05 u03))))
   (u04 (s_if (u33 (x_eq hr) (ev 2) u05 (nomark _)) (u08 (u20 (u87 (N':=["_law_k", "_law_state"]) (ix:=[none,some 0]) (blk (osc:=u01 uo9) (N:=["_law_state", "_law_n", "_law_sort"]) rfl rfl (by decide)) (uc3 rfl T.b_range (u00 (ev 1) u03)) (fun _ _ _ _=>(u27 0 (show (["_law_k", "_law_state"]:List Str).Nodup by decide))) (fun _ _ _ _=>u69) (fun _ _ _ _=>(u06 u25 u05 (ec T.f_jah T.g_law_draw G_jah hr (u00 (ev 1) (u00 u05 u03)))))))) u31)
   (u04 (s_if (u33 (x_eq hr) (ev 2) u05 (nomark _)) (u08 (u20 (u06 uh4 (u91 (u00 (u06 u25 u05 (ec T.f_jah T.g_law_draw G_jah hr (u00 (ev 0) (u00 (u06 v18 u05 u05) u03)))) u03)) (ev 1)))) u31)
   (u04 (s_if (u33 (x_eq hr) (ev 2) u05 (nomark _)) (u08 (u20 (u87 (N':=["_law_k", "_law_state"]) (ix:=[none,some 0]) (blk (osc:=u01 uo9) (N:=["_law_state", "_law_n", "_law_sort"]) rfl rfl (by decide)) (uc3 rfl T.b_range (u00 (ev 1) u03)) (fun _ _ _ _=>(u27 0 (show (["_law_k", "_law_state"]:List Str).Nodup by decide))) (fun _ _ _ _=>u69) (fun _ _ _ _=>(e_ix x_ix (u91 (u00 u05 (u00 (u06 v18 u05 u05) (u00 u05 (u00 u05 u03))))) (ec T.f_jah T.g_law_draw G_jah hr (u00 (ev 1) (u00 u05 u03)))))))) u31)
   (u08 (u20 (u87 (N':=["_law_k", "_law_state"]) (ix:=[none,some 0]) (blk (osc:=u01 uo9) (N:=["_law_state", "_law_n", "_law_sort"]) rfl rfl (by decide)) (uc3 rfl T.b_range (u00 (ev 1) u03)) (fun _ _ _ _=>(u27 0 (show (["_law_k", "_law_state"]:List Str).Nodup by decide))) (fun _ _ _ _=>u69) (fun _ _ _ _=>(u06 u25 u05 (ec T.f_jah T.g_law_draw G_jah hr (u00 (ev 1) (u00 (u06 v18 u05 u05) u03))))))))))))) (fun ds G R h=>?_)
 ·obtain ⟨st,n,rfl,_⟩:=h;rfl
 ·obtain ⟨st,n',rfl,S,hn,post⟩:=h
  simp! [id];refine u28 S (by decide) (by decide) fun v G1 a1 p1 q1=>?_
  simp! [id];dsimp! [id];have loop:∀ (mm:Int) (targ:TE3) (G1:Gp) (k:DK) (p:Addr),(∀ σ G q,q (.int mm) G->targ σ G q)->0 < mm->mm<=1000000000->Adv st G G1->G1 p=none->(∀ (q:Addr) (pl:List Int) (G':Gp),Adv st G G'->q ≠ st->G' q=some (.lst (pl.map .int))->pl.length=n'->(∀ x ∈ pl,1<=x /\ x<=1000000000)->k (.ref q) G')->ub6 (fun _=>True) (up6 0) dYes (dOp xAdd (dC (.int 1)) (dCall (v13 T) [] (uz7 (dVar 1) (uz7 targ dNil)))) p k (rngD 0 n') [none,some (.ref st)] (gup G1 p (.lst [])):=by
   intro mm targ G1 k p ht hm0 hm1 A1 hp hk;have nps:=A1.at_.ne hp
   have f1:G p=none:=A1.none hp nps;refine u36 (fun r σ G'=>∃ (j c:Nat) (pl:List Int) (v:Option D),j+c=n' /\ r=rngD (j:Int) c /\ Adv st G G' /\ G' p=some (.lst (pl.map .int)) /\ pl.length=j /\ (∀ x ∈ pl,1<=x /\ x<=1000000000) /\ σ=[v,some (.ref st)]) ⟨0,n',[],none,by omega,rfl,A1.new hp,u02,rfl,by simp,rfl⟩ ?_ ?_
   ·rintro σ G2 ⟨j,c,pl,v,e,e2,A2,k2,hl,hb,rfl⟩
    have ec:c=0:=by
     cases c with
     | zero=>rfl
     | succ c=>rw [u09] at e2;cases e2
    subst ec;exact ⟨trivial,hk p pl G2 A2 nps k2 (by omega) hb⟩
   ·rintro z r σ G2 ⟨j,c,pl,v,e,e2,A2,k2,hl,hb,rfl⟩ ih
    cases c with
    | zero=>cases e2
    | succ c =>
     rw [u09] at e2;cases e2;refine ⟨trivial,?_⟩;have ej:(j:Int)+1=((j+1:Nat):Int):=by omega
     simp! [id];refine ht _ _ _ ?_;simp! [id];refine u28 A2.at_ hm0 (by omega) fun x G3 a3 c1 c2=>?_
     have k3:=a3.kp _ _ nps k2;simp! [k3];refine ⟨by rw [List.length_map];exact Nat.lt_of_le_of_lt (m:=4000) (by omega) (by decide),ih _ _ ⟨j+1,c,pl++[1+x],_,by omega,by rw [ej],(A2.trans a3).own f1 k3 nps,by rw [u02,List.map_append];rfl,by rw [List.length_append,hl];rfl,?_,rfl⟩⟩;intro y hy
     rcases List.mem_append.mp hy with h | h
     ·exact hb y h
     ·rw [List.mem_singleton.mp h];omega
  have cp9:CPow 10 9:=⟨by decide,by decide,by decide⟩;have pw9:(10:Int) ^ Int.toNat 9=1000000000:=by decide
  refine u90 (fun h0=>?_) (fun h0=>?_)
  ·simp! [id]
   refine ⟨ul0 (by omega),fun p hp=>?_⟩;exact loop 9 (dC (.int 9)) G1 R p (fun _ _ _ h=>h) (by decide) (by decide) a1 hp post
  ·dsimp! [id]
   refine u90 (fun h1=>?_) (fun h1=>?_)
   ·simp! [cp9]
    refine u28 a1.at_ (by decide) (by decide) fun x G2 a2 c1 c2=>?_
    have A2:=a1.trans a2;simp! [id];refine ⟨by decide,fun p hp=>?_⟩;have A3:=A2.new (o:=.lst [.int (1+x)]) hp;refine ⟨⟨by omega,by omega,Nat.le_of_lt (Nat.lt_of_le_of_lt (m:=1000) (by omega) (by decide))⟩,fun p2 hp2=>?_⟩;have n2:=A3.at_.ne hp2
    refine post p2 (List.replicate n' (1+x)) _ (A3.new hp2) n2 ?_ (by simp) (fun y hy=>by rw [(List.mem_replicate.mp hy).2];rw [pw9] at c2;omega);rw [u02,List.map_replicate];have:∀ k,(List.replicate k [D.int (1+x)]).flatten=List.replicate k (D.int (1+x)):=by
     intro k
     induction k with
     | zero=>rfl
     | succ k ih=>rw [List.replicate_succ,List.flatten_cons,ih];rfl
    rw [this]
   ·dsimp! [id]
    refine u90 (fun h2=>?_) (fun h2=>?_)
    ·simp! [id]
     refine ⟨ul0 (by omega),fun p hp=>?_⟩;have nps:=a1.at_.ne hp
     have f1:G p=none:=a1.none hp nps;refine u36 (fun r σ G'=>∃ (j c:Nat) (pl:List Int) (v:Option D),j+c=n' /\ r=rngD (j:Int) c /\ Adv st G G' /\ G' p=some (.lst (pl.map .int)) /\ pl.length=j /\ (∀ x ∈ pl,1<=x /\ x<=1000000000) /\ σ=[v,some (.ref st)]) ⟨0,n',[],none,by omega,rfl,a1.new hp,u02,rfl,by simp,rfl⟩ ?_ ?_
     ·rintro σ G2 ⟨j,c,pl,v,e,e2,A2,k2,hl,hb,rfl⟩
      have ec:c=0:=by
       cases c with
       | zero=>rfl
       | succ c=>rw [u09] at e2;cases e2
      exact ⟨trivial,post p pl G2 A2 nps k2 (by omega) hb⟩
     ·rintro z r σ G2 ⟨j,c,pl,v,e,e2,A2,k2,hl,hb,rfl⟩ ih
      cases c with
      | zero=>cases e2
      | succ c =>
       rw [u09] at e2;cases e2;refine ⟨trivial,?_⟩;have ej:(j:Int)+1=((j+1:Nat):Int):=by omega
       simp! [cp9,pw9];refine ⟨by decide,fun p3 hp3=>?_⟩;have A3:=A2.new (o:=.lst [.int 1,.int 1000000000,.int 2,.int 50]) hp3;have n3:=A2.at_.ne hp3
       refine u28 A3.at_ (by decide) (by decide) fun x G3 a3 c1 c2=>?_
       have k33:=a3.kp _ _ n3 u02;have k3:=a3.kp _ _ nps (by rw [u07 (gne k2 hp3)];exact k2);obtain ⟨y,hy,hy1⟩:∃ y:Int,atI [D.int 1,.int 1000000000,.int 2,.int 50] x=some (.int y) /\ 1<=y /\ y<=1000000000:=by
        have:x=0 \/ x=1 \/ x=2 \/ x=3:=by omega
        rcases this with e | e | e | e <;> subst e
        ·exact ⟨1,rfl,by decide⟩
        ·exact ⟨1000000000,rfl,by decide⟩
        ·exact ⟨2,rfl,by decide⟩
        ·exact ⟨50,rfl,by decide⟩
       simp! [pw9,k33,hy,k3];refine ⟨by rw [List.length_map];exact Nat.lt_of_le_of_lt (m:=4000) (by omega) (by decide),ih _ _ ⟨j+1,c,pl++[y],_,by omega,by rw [ej],(A3.trans a3).own f1 k3 nps,by rw [u02,List.map_append];rfl,by rw [List.length_append,hl];rfl,?_,rfl⟩⟩;intro y' hy'
       rcases List.mem_append.mp hy' with h | h
       ·exact hb y' h
       ·rw [List.mem_singleton.mp h];exact hy1
    ·dsimp! [id]
     refine ⟨ul0 (by omega),fun p hp=>?_⟩;exact loop 1000000000 _ G1 R p (fun σ G q h=>by simp! [cp9];exact h) (by decide) (by decide) a1 hp post
theorem vx1 {n:Nat}:Ok P w mg base (n+1) T.f_jaj (vp0 T):=by
 refine u24 T.f_jaj va8 (fun ds G R h=>?_) (fun cdv A outer s H E hr =>
   (u08 (u20 (u11 vp6 rfl T.b_sum (by decide) (u00 (u87 (N':=["_law_k", "_law_marks"]) (ix:=[none,some 0]) (blk (osc:=u01 v27) (N:=["_law_marks"]) rfl rfl (by decide)) (uc3 rfl T.b_range (u00 u05 u03)) (fun _ _ _ _=>(u27 0 (show (["_law_k", "_law_marks"]:List Str).Nodup by decide))) (fun _ _ _ _=>u69) (fun _ _ _ _=>(u06 vd7 (u06 vp7 (ev 1) (ev 0)) u05))) u03))))) (fun ds G R h=>?_)
 ·obtain ⟨m,rfl,_⟩:=h;rfl
 ·obtain ⟨m,rfl,post⟩:=h
  simp! [id];refine ⟨by decide,fun p hp=>?_⟩;refine u36 (fun r σ G'=>∃ (j c:Nat) (ns:List Int) (v:Option D),j+c=8 /\ r=rngD (j:Int) c /\ G'=gup G p (.lst (ns.map .int)) /\ ns.length=j /\ ns.sum=(cnt j m:Int) /\ σ=[v,some (.int (m:Int))]) ⟨0,8,[],none,by omega,rfl,rfl,rfl,rfl,rfl⟩ ?_ ?_
  ·rintro σ G' ⟨j,c,ns,v,e,e2,rfl,hl,hs,rfl⟩
   refine ⟨trivial,?_⟩;have ec:c=0:=by
    cases c with
    | zero=>rfl
    | succ c=>rw [u09] at e2;cases e2
   subst ec;have ej:j=8:=by omega
   rw [ej] at hs;refine ue5 (by rw [u02];rfl) ?_;rw [hs];exact post _ (Grow.refl.new hp)
  ·rintro z r σ G' ⟨j,c,ns,v,e,e2,rfl,hl,hs,rfl⟩ ih
   cases c with
   | zero=>cases e2
   | succ c =>
    rw [u09] at e2;cases e2;refine ⟨trivial,?_⟩;have ej:(j:Int)+1=((j+1:Nat):Int):=by omega
    have pj:(0<=(j:Int))=True:=eq_true (by omega);have eb:=vn8 m j;simp! [ej,pj,eb];refine ⟨Nat.lt_of_le_of_lt (m:=1000) (by rw [List.length_map];omega) (by decide),ih _ _ ⟨j+1,c,ns++[((if m.testBit j then 1 else 0:Nat):Int)],_,by omega,by rw [ej],by rw [u37,List.map_append];rfl,by rw [List.length_append,hl];rfl,by rw [List.sum_append,hs,cnt];simp,rfl⟩⟩
theorem vx0 {n:Nat} (G_jaj:Ok P w mg base n T.f_jaj (vp0 T)):Ok P w mg base (n+1) T.f_jak (vo9 T):=by
 refine u24 T.f_jak sc_jak (fun ds G R h=>?_) (fun cdv A outer s H E hr =>
   (u04 (u26 3 sc_jak.nd (u91 u03))
   (u04 (ui0 (uc3 rfl T.b_range (u00 (ev 1) u03)) (u27 4 sc_jak.nd) (u04 (u26 5 sc_jak.nd (u06 w30 (ev 0) (u06 v17 u05 (ev 4))))
   (u08 (s_if (t_w (w_and (t_w (w_or (u33 (x_eq hr) (ev 4) u05 (nomark _)) (ve4 (u33 (x_eq hr) (u06 vd7 (u06 vp7 (ev 0) (u06 u40 (ev 4) u05)) u05) u05 (nomark _))))) (vq3 (u33 (x_le) (ec T.f_jaj T.g_law_many G_jaj hr (u00 (ev 5) u03)) (ev 2) (nomark _))))) (u08 (us7 (un3 (ev 3) (u00 (u48 (u00 (ev 5) (u00 (ev 4) u03))) u03)))) u31))))
   (u08 (u20 (ev 3)))))) (fun ds G R h=>?_)
 ·obtain ⟨m,n,s,rfl,_⟩:=h;rfl
 ·obtain ⟨m,n',s,rfl,hm,h8,post⟩:=h
  simp! [id];refine ⟨by decide,fun pf hpf=>?_⟩;dsimp! [id];refine ⟨ul0 (by omega),?_⟩;refine u51 (fun r σ G'=>∃ (i c:Nat) (v4 v5:Option D),i+c=n' /\ r=rngD (i:Int) c /\ Grow G G' /\ G' pf=some (.lst (((List.range i).filter fun k=>(decide (k=0) || m.testBit (k - 1)) && decide (cnt n' (xr m (k+1))<=s)).map (nxD m))) /\ σ=[some (.int (m:Int)),some (.int (n':Int)),some (.int (s:Int)),some (.ref pf),v4,v5]) ⟨0,n',none,none,by omega,rfl,Grow.refl.new hpf,u02,rfl⟩ ?_ ?_
  ·rintro σ G' ⟨i,c,v4,v5,e,e2,g,k,rfl⟩
   refine ⟨trivial,?_⟩;have ec:c=0:=by
    cases c with
    | zero=>rfl
    | succ c=>rw [u09] at e2;cases e2
   subst ec;have ei:i=n':=by omega
   subst ei;dsimp! [id];exact post pf G' hpf k g
  ·rintro z r σ G' ⟨i,c,v4,v5,e,e2,g,k,rfl⟩ ih
   cases c with
   | zero=>cases e2
   | succ c =>
    rw [u09] at e2;cases e2;refine ⟨trivial,?_⟩;have ei:(i:Int)+1=((i+1:Nat):Int):=by omega
    have cp:CPow 1 (i:Int):=un6 (by omega) (by omega);have ex:Builtin.bitXor (m:Int) (1 * 2 ^ i)=((xr m (i+1):Nat):Int):=xor_int m i;have hlt:=w28 (k:=i) hm (by omega);have hce:=v00 hlt 8 h8;obtain ⟨C,hC⟩:∃ C:Nat->Bool,C=fun k=>(decide (k=0) || m.testBit (k - 1)) && decide (cnt n' (xr m (k+1))<=s):=⟨_,rfl⟩
    rw [<- hC] at k ih;have fl:((List.range i).filter C).length<=i:=by have:=List.length_filter_le C (List.range i);rw [List.length_range] at this;exact this
    have yes:C i=true->(List.range (i+1)).filter C=(List.range i).filter C++[i]:=fun z=>by rw [List.range_succ,List.filter_append];simp [z]
    have no:C i=false->(List.range (i+1)).filter C=(List.range i).filter C:=fun z=>by rw [List.range_succ,List.filter_append];simp [z]
    have Ci:C i=((decide (i=0) || m.testBit (i - 1)) && decide (cnt n' (xr m (i+1))<=s)):=by rw [hC]
    clear hC;have cy:(i=0 \/ m.testBit (i - 1)=true)->cnt n' (xr m (i+1))<=s->C i=true:=fun a b=>by rw [Ci,decide_eq_true b];rcases a with a | a <;> simp [a]
    have cn:¬ cnt n' (xr m (i+1))<=s->C i=false:=fun b=>by rw [Ci,decide_eq_false b];simp
    have cz:¬ i=0->¬ m.testBit (i - 1)=true->C i=false:=fun a b=>by rw [Ci,decide_eq_false a,eq_false_of_ne_true b];rfl
    simp! [cp,ex];dsimp! [id];refine u90 (fun h0=>?_) (fun h0=>?_)
    ·have h0':i=0:=by omega
     refine vd2 T fun G2 g2=>?_
     have k2:=g2.kp _ _ k;rw [hce];refine u90 (fun hc=>?_) (fun hc=>?_)
     ·simp! [k2]
      refine ⟨by decide,Nat.lt_of_le_of_lt (m:=1000) (by rw [List.length_map];omega) (by decide),ih _ _ ⟨i+1,c,_,_,by omega,by rw [ei],(g.trans g2).own hpf,?_,rfl⟩⟩;rw [u02,yes (cy (.inl h0') (by omega)),List.map_append];rfl
     ·exact ih _ _ ⟨i+1,c,_,_,by omega,by rw [ei],g.trans g2,by rw [no (cn (by omega))];exact k2,rfl⟩
    ·have h0':¬ i=0:=by omega
     obtain ⟨i',rfl⟩:∃ i',i=i'+1:=⟨i - 1,by omega⟩;refine ⟨by omega,?_⟩;have e2':(((i'+1:Nat):Int) - 1).toNat=i':=by omega
     rw [e2'];refine u90 (fun h1=>?_) (fun h1=>?_)
     ·rw [us1] at h1
      refine vd2 T fun G2 g2=>?_
      have k2:=g2.kp _ _ k;rw [hce];refine u90 (fun hc=>?_) (fun hc=>?_)
      ·simp! [k2]
       refine ⟨by decide,Nat.lt_of_le_of_lt (m:=1000) (by rw [List.length_map];omega) (by decide),ih _ _ ⟨i'+1+1,c,_,_,by omega,by rw [ei],(g.trans g2).own hpf,?_,rfl⟩⟩;rw [u02,yes (cy (.inr h1) (by omega)),List.map_append];rfl
      ·exact ih _ _ ⟨i'+1+1,c,_,_,by omega,by rw [ei],g.trans g2,by rw [no (cn (by omega))];exact k2,rfl⟩
     ·rw [us1] at h1
      exact ih _ _ ⟨i'+1+1,c,_,_,by omega,by rw [ei],g,by rw [no (cz h0' h1)];exact k,rfl⟩
theorem vx2 {n:Nat} (G_jak:Ok P w mg base n T.f_jak (vo9 T)):Ok P w mg base (n+1) T.f_jai (vp1 T):=by
 obtain ⟨fcc,fhd,fco⟩:=T.far_cc;have fco:=fco _ T.g_law_far;refine vm2 T.f_jai sc_jai (fun ds G R h=>?_) (fun cdv A outer s H E hcc hr =>
   (u04 (u26 2 sc_jai.nd (vm0 u05 u05))
   (u04 (u26 3 sc_jai.nd (u91 (u00 u05 u03)))
   (u04 (vf0 (u33 (x_ne hr) (ev 3) (u91 u03) (nomark _)) (u04 (u26 4 sc_jai.nd (v72 (i:=2) (c:=fcc) (P:=146) (bm:=4) (qn:=qnF) hr rfl T.b_min (by decide) (u00 (ev 3) u03) (Option.some.inj (hcc.symm.trans fco)) (fun h hK=>PySem.W.codeHd_of_K hK fhd) T.far_bm (by decide) (by decide) rfl rfl rfl (fun cell h=>v79 rfl h) rfl (fun _ _ _ _ _ _ _=>rfl) rfl (by decide) rfl rfl rfl (by decide) (by decide) (by decide)))
   (u04 (us7 (v71 (ev 3) (u00 (ev 4) u03)))
   (u08 (ui0 (v65 (ec T.f_jak T.g_law_next G_jak hr (u00 (ev 4) (u00 (u11 u79 rfl T.b_len (by decide) (u00 (ev 0) u03)) (u00 (ev 1) u03))))) (vk9 (n:=2) rfl (u68 (u27 5 sc_jai.nd) (u68 (u27 6 sc_jai.nd) ux4))) (u04 (u26 7 sc_jai.nd (u06 u25 (uy8 hr (ev 2) (ev 4)) (e_ix x_ix (ev 0) (ev 6))))
   (u04 (s_if (u33 (uq8 hr) (ev 5) (ev 2) (by with_unfolding_all rfl)) (u04 (us7 (un3 (ev 3) (u00 (ev 5) u03)))
   (u08 (us8 hr (ev 2) (ev 5) (ev 7)))) u31)
   (u08 (us8 hr (ev 2) (ev 5) (u11 ue6 rfl T.b_min (by decide) (u00 (uy8 hr (ev 2) (ev 5)) (u00 (ev 7) u03))))))))))))
   (u08 (u20 (ev 2))))))) (fun ds G R h=>?_)
 ·obtain ⟨b,pl,s,rfl,_⟩:=h;rfl
 ·obtain ⟨b,pl,s',rfl,htb,hb,h8,hpos,post⟩:=h
  simp! [vc9];intro q hq;refine ⟨.inl 0,rfl,?_⟩;rw [u37];dsimp! [id];refine ⟨by decide,fun d hd=>?_⟩;have nqd:q ≠ d:=gne u02 hd;have g1:Grow G (gup (gup G q (.dic [(.inl 0,.int 0)])) d (.lst [.int 0])):=(Grow.refl.new hq).new hd;have fd:G d=none:=(Grow.refl.new (o:=.dic [(.inl 0,.int 0)]) hq).none hd;have nbq:b ≠ q:=gne hb hq;have nbd:b ≠ d:=gne hb fd;have h256:2 ^ pl.length<=256:=Nat.pow_le_pow_right (n:=2) (by decide) h8;have hc0:∀ i,0<=cf pl i:=vd0 fun x hx=>(hpos x hx).1
  dsimp! [id];refine ur4 (fun m σ G'=>∃ (F:List (Nat × Int)) (L:List Nat) (t:Int) (v4 v5 v6 v7:Option D),2 ^ pl.length+L.length<=m+F.length /\ Grow G G' /\ G' q=some (.dic (fiD F)) /\ G' d=some (.lst (L.map nD)) /\ Dj pl.length s' (cf pl) F L t (fun _ _=>False) /\ σ=[some (.ref b),some (.int (s':Int)),some (.ref q),some (.ref d),v4,v5,v6,v7])
   (m:=1000) ⟨[(0,0)],[0],0,none,none,none,none,by show 2 ^ pl.length+1<=1000+1;omega,g1,by rw [u07 nqd];exact u02,u02,Dj.start,rfl⟩ ?_
  rintro m σ G2 N ⟨F,L,t,v4,v5,v6,v7,hm,g2,kq,kd,hD,rfl⟩ ih;simp! [id];refine ⟨by decide,fun p3 hp3=>?_⟩;have kq3:∀ {o:DO},gup G2 p3 o q=some (.dic (fiD F)):=fun {o}=>by rw [u07 (gne kq hp3)];exact kq
  have kd3:∀ {o:DO},gup G2 p3 o d=some (.lst (L.map nD)):=fun {o}=>by rw [u07 (gne kd hp3)];exact kd
  have g3:∀ {o:DO},Grow G (gup G2 p3 o):=g2.new hp3;obtain ⟨few1,few2⟩:=hD.few;refine un9 (ks:=L.map fun x:Nat=>(x:Int)) (ms:=[]) (by rw [kd3];show some _=_;rw [uu9]) (by rw [u02];rfl) ?_
  by_cases hL:L=[]
  ·subst hL
   simp! [id];dsimp! [id];exact post q F t _ hq kq3 hD g3
  have hne:((L.map fun x:Nat=>(x:Int))=[])=False:=eq_false (by simpa using hL);have hlp:0 < L.length:=List.length_pos_iff.mpr hL;obtain ⟨G3,hG3⟩:∃ G3,G3=gup G2 p3 (.lst []):=⟨_,rfl⟩;have kq4:G3 q=some (.dic (fiD F)):=by rw [hG3];exact kq3
  have kd4:G3 d=some (.lst ((L.map fun x:Nat=>(x:Int)).map .int)):=by rw [hG3,kd3,uu9]
  have g4:Grow G G3:=by rw [hG3];exact g3
  rw [<- hG3];clear hG3 kq3 kd3;simp! [hne,uj4];refine ⟨d,q,L.map fun x:Nat=>(x:Int),fiD F,rfl,rfl,kd4,kq4,by rw [List.length_map];exact hlp,fun k hk=>?_,g4.kp _ _ htb,fun k hk hmin=>?_⟩
  ·obtain ⟨x,hx,rfl⟩:=List.mem_map.mp hk
   obtain ⟨v,hv⟩:=hD.lk hx;exact ⟨v,by rw [u65,hv];rfl⟩
  obtain ⟨x,hx,rfl⟩:=List.mem_map.mp hk;obtain ⟨v,hv⟩:=hD.lk hx;have hmin:∀ y ∈ L,∀ u,gtF F y=some u->v<=u:=fun y hy u hu=>hmin v (by rw [u65,hv];rfl) _ (List.mem_map_of_mem (f:=fun y:Nat=>(y:Int)) hy) u (by rw [u65,hu];rfl)
  have hxlt:x < 2 ^ pl.length:=by obtain ⟨w,w1,w2,_⟩:=hD.way hv;rw [<- w2];exact uw6 w1
  have hcx:=hD.cnt hv;have D1:=hD.pop hx hv hmin;have hxe:¬ x ∈ L.erase x:=List.Nodup.not_mem_erase hD.ln;simp! [id];dsimp! [ud4];refine ⟨by rw [kd4];trivial,_,kd4,hk,?_⟩;rw [v45,<- uu9];obtain ⟨G4,hG4⟩:∃ G4,G4=gup G3 d (.lst ((L.erase x).map nD)):=⟨_,rfl⟩;have kq5:G4 q=some (.dic (fiD F)):=by rw [hG4,u07 nqd];exact kq4
  have kd5:G4 d=some (.lst ((L.erase x).map nD)):=by rw [hG4];exact u02
  have g5:Grow G G4:=by rw [hG4];exact g4.own fd
  have kb5:G4 b=some (.lst (pl.map .int)):=g5.kp _ _ hb;rw [<- hG4];clear hG4 kd4 kq4;dsimp! [kb5,List.length_map];refine w11 T (m:=x) (s:=s') hxlt h8 fun qm G5 f5 k6 g6=>?_
  simp! [k6];have nqm:q ≠ qm:=gne kq5 f5;have ndm:d ≠ qm:=gne kd5 f5;have hle:=List.length_erase_of_mem hx;refine u51 (fun r σ G'=>∃ (l r':List Nat) (F1:List (Nat × Int)) (L1:List Nat) (v5 v6 v7:Option D),l++r'=nxt pl.length s' x /\ r=r'.map (nxD x) /\ Grow G G' /\ G' qm=some (.lst ((nxt pl.length s' x).map (nxD x))) /\ G' q=some (.dic (fiD F1)) /\ G' d=some (.lst (L1.map nD)) /\ Dj pl.length s' (cf pl) F1 L1 v (fun y k=>y=x /\ ¬ ∃ k0,k0 ∈ l /\ k=k0+1) /\ gtF F1 x=some v /\ ¬ x ∈ L1 /\ 2 ^ pl.length+L1.length+1<=m+F1.length /\ σ=[some (.ref b),some (.int (s':Int)),some (.ref q),some (.ref d),some (.int (x:Int)),v5,v6,v7])
   ⟨[],nxt pl.length s' x,F,L.erase x,v5,v6,v7,rfl,rfl,g5.trans g6,k6,g6.kp _ _ kq5,g6.kp _ _ kd5,D1.weak fun y k e=>⟨e,fun ⟨_,z,_⟩=>by cases z⟩,hv,hxe,by omega,rfl⟩ ?_ ?_
  ·rintro σ G6 ⟨l,r',F1,L1,v5,v6,v7,e,e2,g7,k7,kq7,kd7,D2,hv2,hx2,hm2,rfl⟩
   have ht:r'=[]:=by simpa using e2.symm
   subst ht;rw [List.append_nil] at e;subst e;refine ⟨by rw [k7];rfl,?_⟩;have few:=D2.few;obtain ⟨m',rfl⟩:∃ m',m=m'+1:=⟨m - 1,by omega⟩;exact ih _ _ m' rfl ⟨F1,L1,v,_,_,_,_,by omega,g7,kq7,kd7,D2.all hcx,rfl⟩
  ·rintro z r σ G6 ⟨l,r',F1,L1,v5,v6,v7,e,e2,g7,k7,kq7,kd7,D2,hv2,hx2,hm2,rfl⟩ ih2
   cases r' with
   | nil=>cases e2
   | cons k r' =>
    cases e2;refine ⟨by rw [k7];rfl,?_⟩;have hk:k ∈ nxt pl.length s' x:=by rw [<- e];simp
    have lp:=(uu7 hcx).mp hk;have hkn:k < pl.length:=by have h:1<=k+1 /\ k+1<=pl.length:=lp.1;omega
    have kb7:G6 b=some (.lst (pl.map .int)):=g7.kp _ _ hb;have hat:atI (pl.map D.int) (k:Int)=some (.int (cf pl k)):=by
     refine u53 ?_;rw [List.getElem?_map,List.getElem?_eq_getElem hkn,v01 hkn];rfl
    have few:=D2.few;have hfl:(fiD F1).length=F1.length:=by unfold fiD;rw [List.length_map]
    simp! [nxD,uz6];refine ⟨q,fiD F1,.inl (x:Int),.int v,rfl,rfl,kq7,by rw [u65,hv2];rfl,?_⟩;simp! [kb7,u10,hat];dsimp! [id];refine ⟨.inl ((xr x (k+1):Nat):Int),fiD F1,q,rfl,rfl,.inl kq7,?_⟩;rw [u65];have hc1:0<=cf pl k:=hc0 k;have hxr:¬ xr x (k+1)=x:=w27;have wk_:∀ y k',((y=x /\ ¬ ∃ k0,k0 ∈ l /\ k'=k0+1) /\ ¬ (y=x /\ k'=k+1))->y=x /\ ¬ ∃ k0,k0 ∈ l++[k] /\ k'=k0+1:=fun y k' ⟨⟨h1,h2⟩,h3⟩=>⟨h1,fun ⟨k0,z1,z2⟩=>by
     rcases List.mem_append.mp z1 with z | z
     ·exact h2 ⟨k0,z,z2⟩
     ·rw [List.mem_singleton.mp z] at z2;exact h3 ⟨h1,z2⟩⟩
    cases hg:gtF F1 (xr x (k+1)) with
    | none =>
     have D3:=(D2.new hv2 hx2 lp hc1 hg).weak wk_;have few3:=D3.few;have hpl:=vs4 (a:=v+cf pl k) hg;refine (if_pos rfl).mpr ?_;rw [kd7];refine ⟨trivial,Nat.lt_of_le_of_lt (m:=1000) (by rw [List.length_map];omega) (by decide),?_⟩;have kq8:∀ {o:DO},gup G6 d o q=some (.dic (fiD F1)):=fun {o}=>by rw [u07 nqd];exact kq7
     dsimp! [v76];refine ⟨q,fiD F1,.inl ((xr x (k+1):Nat):Int),rfl,rfl,kq8,Nat.lt_of_le_of_lt (m:=1000) (by omega) (by decide),?_⟩;rw [uy5 D2.nd];dsimp! [v76,uz6];refine ⟨q,_,.inl ((xr x (k+1):Nat):Int),.int (v+cf pl k),rfl,rfl,u02,by rw [u65,ua7,if_pos rfl];rfl,?_⟩;have e3:(if v+cf pl k < v+cf pl k then v+cf pl k else v+cf pl k)=v+cf pl k:=by split <;> rfl
     simp! [e3];refine ⟨q,_,.inl ((xr x (k+1):Nat):Int),rfl,rfl,u02,Nat.lt_of_le_of_lt (m:=1000) (by unfold fiD;rw [List.length_map];omega) (by decide),?_⟩;rw [uy5 (ud0 D2.nd),vs3,u37];refine ih2 _ _ ⟨l++[k],r',_,L1++[xr x (k+1)],_,_,_,by rw [<- e,List.append_assoc];rfl,rfl,(g7.own fd).own hq,?_,u02,?_,D3,?_,?_,?_,rfl⟩
     ·rw [u07 (Ne.symm nqm),u07 (Ne.symm ndm)];exact k7
     ·rw [u07 (Ne.symm nqd),u02,List.map_append];rfl
     ·rw [ua7,if_neg hxr];exact hv2
     ·intro z
      rcases List.mem_append.mp z with z | z
      ·exact hx2 z
      ·exact hxr (List.mem_singleton.mp z).symm
     ·rw [List.length_append,List.length_singleton,hpl];omega
    | some u =>
     have D3:=(D2.old hv2 hx2 lp hc1 hg).weak wk_;have few3:=D3.few;have hpl:=vh5 (a:=min u (v+cf pl k)) hg;refine (if_neg (by simp)).mpr ?_;dsimp! [v76,uz6];refine ⟨q,fiD F1,.inl ((xr x (k+1):Nat):Int),.int u,rfl,rfl,kq7,by rw [u65,hg];rfl,?_⟩;have e3:(if v+cf pl k < u then v+cf pl k else u)=min u (v+cf pl k):=by split <;> omega
     simp! [e3];refine ⟨q,fiD F1,.inl ((xr x (k+1):Nat):Int),rfl,rfl,kq7,Nat.lt_of_le_of_lt (m:=1000) (by omega) (by decide),?_⟩;rw [uy5 D2.nd];refine ih2 _ _ ⟨l++[k],r',_,L1,_,_,_,by rw [<- e,List.append_assoc];rfl,rfl,g7.own hq,?_,u02,?_,D3,?_,hx2,?_,rfl⟩
     ·rw [u07 (Ne.symm nqm)];exact k7
     ·rw [u07 (Ne.symm nqd)];exact kd7
     ·rw [ua7,if_neg hxr];exact hv2
     ·rw [hpl];exact hm2
theorem vx5 {n:Nat}:Ok P w mg base (n+1) T.f_jaf (v14 T):=by
 refine u24 T.f_jaf va9 (fun ds G R h=>?_) (fun cdv A outer s H E hr =>
   (u04 (s_if (u33 (vd5) (ev 0) uj2 (nomark _)) (u08 (u20 uj2)) u31)
   (u08 (u20 (u11 vp6 rfl T.b_sum (by decide) (u00 (u87 (N':=["_law_move", "_law_prices"]) (ix:=[none,some 1]) (blk (osc:=u01 v28) (N:=["_law_plan", "_law_prices"]) rfl rfl (by decide)) (v65 (ev 0)) (fun _ _ _ _=>(u27 0 (show (["_law_move", "_law_prices"]:List Str).Nodup by decide))) (fun _ _ _ _=>(uy0 (u33 (x_ne hr) (e_ix x_ix (ev 0) u05) ug3 (nomark _)))) (fun _ _ _ _=>(e_ix x_ix (ev 1) (u06 u40 (e_ix x_ix (ev 0) u05) u05)))) u03)))))) (fun ds G R h=>?_)
 ·obtain ⟨d,b,pl,rfl,_⟩:=h;rfl
 ·obtain ⟨d,b,pl,rfl,hb,post⟩:=h
  rcases post with ⟨rfl,post⟩ | ⟨a,w,rfl,ha,hn,hm,post⟩
  ·(simp! [id];repeat (simp only [Go];simp! [id]))
   exact post
  simp! [ha];dsimp! [ha];intro p hp;have ha1:∀ {o:DO},gup G p o a=some (.lst (w.map pmD)):=fun {o}=>by rw [u07 (gne ha hp)];exact ha
  have hb1:∀ {o:DO},gup G p o b=some (.lst (pl.map .int)):=fun {o}=>by rw [u07 (gne hb hp)];exact hb
  refine u36 (fun r σ G'=>∃ (x1 x2:List Pm) (ns:List Int) (v:Option D),x1++x2=w /\ r=x2.map pmD /\ G'=gup G p (.lst (ns.map .int)) /\ ns.length<=x1.length /\ ns.sum=wkp (cf pl) x1 /\ σ=[v,some (.ref b)]) ⟨[],w,[],none,rfl,rfl,rfl,by simp,rfl,rfl⟩ ?_ ?_
  ·rintro σ G' ⟨x1,x2,ns,v,e,e2,rfl,hl,hs,rfl⟩
   have ht:x2=[]:=by simpa using e2.symm
   subst ht;rw [List.append_nil] at e;subst e;refine ⟨by rw [ha1];rfl,?_⟩;refine ue5 (by rw [u02];rfl) ?_;rw [hs];exact post _ (Grow.refl.new hp)
  ·rintro z r σ G' ⟨x1,x2,ns,v,e,e2,rfl,hl,hs,rfl⟩ ih
   cases x2 with
   | nil=>cases e2
   | cons x x2 =>
    cases e2;refine ⟨by rw [ha1];rfl,?_⟩;have hlen:=congrArg List.length e;rw [List.length_append,List.length_cons] at hlen;cases x with
    | none =>
     simp! [pmD];exact ih _ _ ⟨x1++[none],x2,ns,_,by rw [<- e,List.append_assoc];rfl,rfl,rfl,by simp;omega,by rw [hs,u80];show _=wkp (cf pl) x1+0;omega,rfl⟩
    | some y =>
     have hy:=hm y (by rw [<- e];simp);have hns:((if y.1=true then ("lay" : Str) else "clear") = "show")=False:=eq_false (by cases y.1 <;> decide);have ej:((y.2:Nat):Int) - 1=((y.2 - 1:Nat):Int):=by omega
     have hat:atI (pl.map D.int) ((y.2 - 1:Nat):Int)=some (.int (cf pl (y.2 - 1))):=by
      refine u53 ?_;rw [List.getElem?_map,List.getElem?_eq_getElem (by omega),v01 (by omega)];rfl
     simp! [pmD,mD,pD,mP,hns,ej,hb1,hat];refine ⟨by rw [List.length_map];exact Nat.lt_of_le_of_lt (m:=4000000) (by omega) (by decide),ih _ _ ⟨x1++[some y],x2,ns++[cf pl (y.2 - 1)],_,by rw [<- e,List.append_assoc];rfl,rfl,?_,by simp;omega,by rw [List.sum_append,hs,u80];show _=wkp (cf pl) x1+(cf pl (y.2 - 1)+0);simp,rfl⟩⟩;rw [u37,List.map_append];rfl
theorem vv7 {n:Nat} (G_jaa:Ok P w mg base n T.f_jaa (vp2 T)) (G_jar:Ok P w mg base n T.f_jar (vo6 T)) (G_jan:Ok P w mg base n T.f_jan (vo8 T)) (G_jav:Ok P w mg base n T.f_jav (v86 T)) (G_jah:Ok P w mg base n T.f_jah (v13 T)) (G_jag:Ok P w mg base n T.f_jag (w22 T)) (G_jai:Ok P w mg base n T.f_jai (vp1 T)) (G_jaf:Ok P w mg base n T.f_jaf (v14 T)):Ok P w mg base (n+1) T.f_law (w17 T):=by
 refine u24 T.f_law sc_law (fun ds G R h=>?_) (fun cdv A outer s H E hr =>
   (u04 (u26 1 sc_law.nd (u91 (u00 (ev 0) (u00 u05 (u00 u05 u03)))))
   (u04 (u26 2 sc_law.nd (u06 u25 u05 (e_ix x_ix (u91 (u00 (ec T.f_jah T.g_law_draw G_jah hr (u00 (ev 1) (u00 u05 u03))) (u00 (ec T.f_jah T.g_law_draw G_jah hr (u00 (ev 1) (u00 u05 u03))) u03))) (un2 uq7 rfl T.b_int (by decide) (u00 (uq1 (x_eq hr) (ec T.f_jah T.g_law_draw G_jah hr (u00 (ev 1) (u00 u05 u03))) u05 (nomark _)) u03)))))
   (u04 (u26 3 sc_law.nd (e_ix x_ix (u91 (u00 (u06 u25 u05 (ec T.f_jah T.g_law_draw G_jah hr (u00 (ev 1) (u00 u05 u03)))) (u00 (ec T.f_jah T.g_law_draw G_jah hr (u00 (ev 1) (u00 u05 u03))) u03))) (un2 uq7 rfl T.b_int (by decide) (u00 (uq1 (x_eq hr) (ec T.f_jah T.g_law_draw G_jah hr (u00 (ev 1) (u00 u05 u03))) u05 (nomark _)) u03))))
   (u04 (u26 4 sc_law.nd (ec T.f_jag T.g_law_costs G_jag hr (u00 (ev 1) (u00 (ev 2) u03))))
   (u04 (u26 5 sc_law.nd (ec T.f_jai T.g_law_far G_jai hr (u00 (ev 4) (u00 (ev 3) u03))))
   (u04 (u26 6 sc_law.nd (u06 v17 u05 (u06 u40 (ev 2) u05)))
   (u04 (u26 7 sc_law.nd (vl9 hr (ev 5) (ev 6)))
   (u04 (vr6 8 sc_law.nd (N':=["_law_marks", "_law_far_here", "_law_last"]) (ix:=[none,some 5,some 6]) (blk (osc:=u01 v23) (N:=["_law_script", "_law_state", "_law_n", "_law_s", "_law_prices", "_law_far_here", "_law_last", "_law_single", "_law_met"]) rfl rfl (by decide)) (vl4 (ev 5)) (fun _ _ _ _=>(u27 0 (show (["_law_marks", "_law_far_here", "_law_last"]:List Str).Nodup by decide))) (fun _ _ _ _=>(uy0 (u33 (x_ne hr) (u06 vd7 (ev 0) (ev 2)) u05 (nomark _)))) (fun _ _ _ _=>(vm1 hr (ev 1) (ev 0))))
   (u04 (s_if (t_w (w_or (u33 (x_ne hr) (ec T.f_jaa T.g_alone G_jaa hr (u00 (ev 4) (u00 (ev 3) u03))) (ev 7) (nomark _)) (ve4 (u33 (x_ne hr) (ec T.f_jaf T.g_law_cost G_jaf hr (u00 (ec T.f_jan T.g_left_plan G_jan hr (u00 (ev 4) (u00 (ev 3) u03))) (u00 (ev 4) u03))) (ev 7) (nomark _))))) (u08 (u20 e_bl)) u31)
   (u04 (s_if (u33 (x_eq hr) (ev 8) (u91 u03) (nomark _)) (u08 (u20 (w08 (uq1 (vd5) (ec T.f_jar T.g_reached G_jar hr (u00 (ev 4) (u00 (ev 3) u03))) uj2 (nomark _)) (w05 (uq1 (vd5) (ec T.f_jav T.g_shown_plan G_jav hr (u00 (ev 4) (u00 (ev 3) u03))) uj2 (nomark _)))))) u31)
   (u08 (u20 (w08 (uq1 (x_eq hr) (ec T.f_jar T.g_reached G_jar hr (u00 (ev 4) (u00 (ev 3) u03))) (u11 v91 rfl T.b_min (by decide) (u00 (ev 8) u03)) (nomark _)) (w05 (uq1 (x_eq hr) (ec T.f_jaf T.g_law_cost G_jaf hr (u00 (ec T.f_jav T.g_shown_plan G_jav hr (u00 (ev 4) (u00 (ev 3) u03))) (u00 (ev 4) u03))) (u06 uh4 u05 (u11 v91 rfl T.b_min (by decide) (u00 (ev 8) u03))) (nomark _))))))))))))))))) (fun ds G R h=>?_)
 ·obtain ⟨a,ns,rfl,_⟩:=h;rfl
 ·obtain ⟨a,ns,rfl,htb,ha,hns,post⟩:=h
  simp! [id];refine ⟨by decide,fun st hst=>?_⟩;have hast:a ≠ st:=gne ha hst;have S0:StAt (gup G st (.lst [.ref a,.int 0,.int 0])) st:=⟨a,ns,0,0,u02,by rw [u07 hast];exact ha,by omega,by omega,hast,hns⟩;dsimp! [id];refine u28 S0 (by decide) (by decide) fun x1 G1 a1 b1 b2=>?_
  simp! [id];refine u28 a1.at_ (by decide) (by decide) fun x2 G2 a2 b3 b4=>?_
  have A2:=a1.trans a2;simp! [id];refine ⟨by decide,fun p2 hp2=>?_⟩;have A2:=A2.new (o:=.lst [.int x1,.int x2]) hp2;have n2:=a2.at_.ne hp2
  refine u28 A2.at_ (by decide) (by decide) fun x3 G3 a3 b5 b6=>?_
  have k3:=a3.kp _ _ n2 u02;have A3:=A2.trans a3;obtain ⟨n',en,hn1,hn7⟩:∃ n':Nat,atI [D.int x1,D.int x2] (if decide (x3=1)=true then 1 else 0)=some (.int ((n':Int) - 1)) /\ 1<=n' /\ n'<=8:=by
   by_cases h:x3=1
   ·rw [decide_eq_true h];exact ⟨(x2+1).toNat,by show some (D.int x2)=_;congr 2;omega,by omega,by omega⟩
   ·rw [decide_eq_false h];exact ⟨(x1+1).toNat,by show some (D.int x1)=_;congr 2;omega,by omega,by omega⟩
  have en1:1+((n':Int) - 1)=(n':Int):=by omega
  simp! [k3,en,en1];clear k3 en en1;dsimp! [id];refine u28 A3.at_ (by decide) (by decide) fun x4 G4 a4 b7 b8=>?_
  have A4:=A3.trans a4;simp! [id];refine u28 A4.at_ (by decide) (by decide) fun x5 G5 a5 b9 b10=>?_
  have A5:=A4.trans a5;simp! [id];refine ⟨by decide,fun p5 hp5=>?_⟩;have n5:=A5.at_.ne hp5
  have A5:=A5.new (o:=.lst [.int (1+x4),.int x5]) hp5;refine u28 A5.at_ (by decide) (by decide) fun x6 G6 a6 b11 b12=>?_
  have k6:=a6.kp _ _ n5 u02;have A6:=A5.trans a6;obtain ⟨s',es,hs8⟩:∃ s':Nat,atI [D.int (1+x4),D.int x5] (if decide (x6=1)=true then 1 else 0)=some (.int (s':Int)) /\ s'<=8:=by
   by_cases h:x6=1
   ·rw [decide_eq_true h];exact ⟨x5.toNat,by show some (D.int x5)=_;congr 2;omega,by omega⟩
   ·rw [decide_eq_false h];exact ⟨(1+x4).toNat,by show some (D.int (1+x4))=_;congr 2;omega,by omega⟩
  simp! [k6,es];clear k6 es;dsimp! [id];refine u19 (post:=fun d G'=>∃ (c:Addr) (pl:List Int),d=.ref c /\ Adv st G6 G' /\ G' c=some (.lst (pl.map .int)) /\ pl.length=n' /\ (∀ x ∈ pl,1<=x /\ x<=1000000000)) (fun R h=>⟨st,n',rfl,A6.at_,by omega,fun q pl G' x1 _ x2 x3 x4=>h _ _ ⟨q,pl,rfl,x1,x2,x3,x4⟩⟩) ?_;rintro d G7 ⟨c,pl,rfl,a7,kc,hpl,hpos⟩;subst hpl;simp! [id];dsimp! [id];have htb7:=(A6.trans a7).kp 146 _ (gne htb hst) (by rw [u07 (gne htb hst)];exact htb);refine w67 T htb7 kc hn7 hpos fun fq F t G8 ff kf hF g8=>?_
  have kc8:=g8.kp _ _ kc;have ncf:c ≠ fq:=gne kc ff;have eN:((pl.length:Nat):Int) - 1=((pl.length - 1:Nat):Int):=by omega
  have cp:CPow 1 ((pl.length - 1:Nat):Int):=un6 (by omega) (by omega);have eL:(1 * 2 ^ (pl.length - 1):Int)=((2 ^ (pl.length - 1):Nat):Int):=by simp
  simp! [id];dsimp! [eN,cp,eL];dsimp! [uz5];refine ⟨⟨fq,fiD F,rfl,kf⟩,fq,fiD F,.inl ((2 ^ (pl.length - 1):Nat):Int),rfl,rfl,kf,?_⟩;rw [u65];obtain ⟨sg,hsg⟩:∃ sg,sg=gtF F (2 ^ (pl.length - 1)):=⟨_,rfl⟩;have esg:((gtF F (2 ^ (pl.length - 1))).map D.int).getD .non=oD sg:=by rw [<- hsg];cases sg <;> rfl
  rw [esg];clear esg;dsimp! [v97];refine ⟨fq,fiD F,rfl,kf,fun hv hhv=>?_⟩;have nfh:fq ≠ hv:=gne u02 hhv;have nch:c ≠ hv:=gne (show gup G8 fq (.frd (fiD F)) c=some (.lst (pl.map .int)) by rw [u07 ncf];exact kc8) hhv;have eks:(fiD F).map (fun kv=>kD kv.1)=F.map fun p=>nD p.1:=by unfold fiD;rw [List.map_map];rfl
  have hgt:∀ x:Nat,(Builtin.bitAnd (x:Int) ((2 ^ (pl.length - 1):Nat):Int)=0) ↔ x.testBit (pl.length - 1)=false:=fun x=>by
   have:=vo2 x (pl.length - 1);rw [eL] at this;rw [ub2] at this ⊢;cases hb:x.testBit (pl.length - 1) with
   | true=>rw [hb] at this;simp at this ⊢;omega
   | false=>rw [hb] at this;simp at this ⊢;omega
  have hlen:=hF.few.1;have h256:2 ^ pl.length<=256:=Nat.pow_le_pow_right (n:=2) (by decide) hn7;rw [eks];refine u36 (fun r σ G'=>∃ (x1 x2:List (Nat × Int)) (v:Option D),x1++x2=F /\ r=x2.map (fun p=>nD p.1) /\ G'=gup (gup G8 fq (.frd (fiD F))) hv (.lst ((metF pl.length x1).map .int)) /\ σ=[v,some (.ref fq),some (.int ((2 ^ (pl.length - 1):Nat):Int))]) ⟨[],F,none,rfl,rfl,rfl,rfl⟩ ?_ ?_
  ·rintro σ G9 ⟨x1,x2,v,e,e2,rfl,rfl⟩
   have ht:x2=[]:=by simpa using e2.symm
   subst ht;rw [List.append_nil] at e;subst e;refine ⟨by rw [u07 nfh];exact u02,?_⟩;obtain ⟨G9,hG9⟩:∃ G9,G9=gup (gup G8 fq (.frd (fiD x1))) hv (.lst ((metF pl.length x1).map .int)):=⟨_,rfl⟩;have kh9:G9 hv=some (.lst ((metF pl.length x1).map .int)):=by rw [hG9];exact u02
   have kc9:G9 c=some (.lst (pl.map .int)):=by rw [hG9,u07 nch,u07 ncf];exact kc8
   rw [<- hG9];clear hG9;have hc0:∀ i,0<=cf pl i:=vd0 fun x hx=>(hpos x hx).1
   have hA:=fun W=>hF.alone (W:=W) (fun _ _ z=>z) hc0 hn1 (by omega)
   have hM:=fun W=>hF.met (W:=W) (fun _ _ z=>z) hc0 hn1 (by omega)
   rw [<- hsg] at hA;have eqo:∀ (x y:Option Int) (G:Gp) (q:DK),x=y->q (.bl false) G->xEqB true (oD x) (oD y) G q:=fun x y G q e h=>by
    subst e;cases x with
    | none=>exact h
    | some v=>show q (.bl (!decide (v=v))) G;rw [decide_eq_true rfl];exact h
   dsimp! [id];refine w66 T kc9 hn1 (by omega) hs8 fun xa G10 an g10=>?_
   have kc10:=g10.kp _ _ kc9;have kh10:=g10.kp _ _ kh9;have exa:xa=sg:=by
    rcases an with ⟨W,rfl,hW⟩ | ⟨hn,rfl⟩
    ·rw [(hA W).1 hW]
    ·rw [(hA 0).2 hn]
   simp! [id];refine eqo _ _ _ _ exa ?_;simp! [id];refine vn2 T kc10 hn1 (by omega) hs8 fun dl G11 g11 hd=>?_
   have kc11:=g11.kp _ _ kc10;have kh11:=g11.kp _ _ kh10;refine v09 T (n:=pl.length) (s:=s') (left:=true) (x:=sg) kc11 rfl ?_ fun G12 g12=>?_
   ·rcases hd with ⟨rfl,hcap⟩ | ⟨ql,P,rfl,_,kP,hPl,hP,hW⟩
    ·exact .inl ⟨rfl,(hA 0).2 hcap⟩
    ·exact .inr ⟨ql,P,rfl,kP,hPl,hP,(hA _).1 hW⟩
   have kc12:=g12.kp _ _ kc11;have kh12:=g12.kp _ _ kh11;refine eqo _ _ _ _ rfl ?_;simp! [id];dsimp! [id];refine ⟨by decide,fun p6 hp6=>?_⟩;refine un9 (ks:=metF pl.length x1) (ms:=[]) (by rw [u07 (gne kh12 hp6),kh12];rfl) (by rw [u02];rfl) ?_;have kc13:gup G12 p6 (.lst []) c=some (.lst (pl.map .int)):=by rw [u07 (gne kc12 hp6)];exact kc12
   have kh13:gup G12 p6 (.lst []) hv=some (.lst ((metF pl.length x1).map .int)):=by rw [u07 (gne kh12 hp6)];exact kh12
   obtain ⟨G13,hG13⟩:∃ G13,G13=gup G12 p6 (.lst []):=⟨_,rfl⟩;rw [<- hG13] at kc13 kh13 ⊢;clear hG13
   by_cases hmet:metF pl.length x1=[]
   ·simp! [hmet]
    refine w12 T kc13 hn1 (by omega) hs8 fun xr G14 ar g14=>?_
    have exr:xr=none:=by
     rcases ar with ⟨W,rfl,hW⟩ | ⟨_,e⟩
     ·have:=((hM W).1 hW).1
      rw [hmet] at this;cases this
     ·exact e
    subst exr;have kc14:=g14.kp _ _ kc13;simp! [oD];refine uo1 T kc14 hn1 (by omega) hs8 fun ds G15 g15 hd=>?_
    rcases hd with ⟨rfl,_⟩ | ⟨_,_,W,_,_,_,_,hW,_⟩
    ·simp! [id]
     exact post _
    ·have:=((hM W).1 hW).1
     rw [hmet] at this;cases this
   ·simp! [hmet]
    dsimp! [id];refine w12 T kc13 hn1 (by omega) hs8 fun xr G14 ar g14=>?_
    have kc14:=g14.kp _ _ kc13;have kh14:=g14.kp _ _ kh13;obtain ⟨W,rfl,hW⟩:∃ W,xr=some W /\ LeastR (cf pl) pl.length s' 0 W:=by
     rcases ar with h | ⟨hn,_⟩
     ·exact h
     ·exact absurd ((hM 0).2 hn) hmet
    obtain ⟨m1,m2⟩:=(hM W).1 hW;have hpm:0 < (metF pl.length x1).length:=List.length_pos_of_mem m1;simp! [oD,v20,kh14,u10,u63];refine ⟨hpm,fun M q1 q2=>?_⟩;have eM:W=M:=by have:=q2 W m1;have:=m2 M q1;omega
    subst eM;simp! [id];refine uo1 T kc14 hn1 (by omega) hs8 fun ds G15 g15 hd=>?_
    have kc15:=g15.kp _ _ kc14;have kh15:=g15.kp _ _ kh14;refine v09 T (n:=pl.length) (s:=s') (left:=false) (x:=some (W+W)) kc15 rfl ?_ fun G16 g16=>?_
    ·rcases hd with ⟨_,hn⟩ | ⟨qs,P,W2,rfl,kP,hPl,hP,hW2,eW⟩
     ·exact absurd ((hM 0).2 hn) hmet
     ·exact .inr ⟨qs,P,rfl,kP,hPl,hP,by rw [eW,hW.eq hW2]⟩
    have kh16:=g16.kp _ _ kh15;simp! [oD,v20,kh16,u10,u63];refine ⟨hpm,fun M q1 q2=>?_⟩;have eM:W=M:=by have:=q2 W m1;have:=m2 M q1;omega
    subst eM;have e2W:(W+W=2 * W)=True:=eq_true (by omega);simp! [e2W];exact ⟨ug7 (by decide) (by decide),post _⟩
  ·rintro z r σ G9 ⟨x1,x2,v,e,e2,rfl,rfl⟩ ih
   cases x2 with
   | nil=>cases e2
   | cons x x2 =>
    cases e2;refine ⟨by rw [u07 nfh];exact u02,?_⟩;have hx:x ∈ F:=by rw [<- e];simp
    have hlx:=congrArg List.length e;rw [List.length_append,List.length_cons] at hlx;cases hb:x.1.testBit (pl.length - 1) with
    | false =>
     have eb:(Builtin.bitAnd (x.1:Int) ((2 ^ (pl.length - 1):Nat):Int)=0)=True:=eq_true ((hgt _).mpr hb);simp! [nD,eb];exact ih _ _ ⟨x1++[x],x2,_,by rw [<- e,List.append_assoc];rfl,rfl,by unfold metF;rw [List.filter_append];simp [hb],rfl⟩
    | true =>
     have eb:(Builtin.bitAnd (x.1:Int) ((2 ^ (pl.length - 1):Nat):Int)=0)=False:=eq_false fun z=>by rw [hgt,hb] at z;cases z
     simp! [nD,eb,vm8];refine ⟨fq,fiD F,.inl (x.1:Int),.int x.2,rfl,rfl,by rw [u07 nfh];exact u02,by rw [u65,ua8 hF.nd x hx];rfl,?_⟩;have hm1:(metF pl.length x1).length<=x1.length:=by unfold metF;rw [List.length_map];exact List.length_filter_le ..
     refine ⟨Nat.lt_of_le_of_lt (m:=1000) (by rw [List.length_map];omega) (by decide),ih _ _ ⟨x1++[x],x2,_,by rw [<- e,List.append_assoc];rfl,rfl,?_,rfl⟩⟩;have em:metF pl.length (x1++[x])=metF pl.length x1++[x.2]:=by unfold metF;rw [List.filter_append,List.map_append];simp [hb]
     rw [u37,em,List.map_append];rfl
end
end Law
namespace Law
open PySem PySem.Spec PyProof.Rows L2 L3
def noL:PySem.W.Frag->Bool
 | []=>true
 | p::r=>(match p.2.data with | .seq _ _=>(match p.2.cls with | .type s=>!(s == "list") | _=>true) | _=>true) && noL r
theorem vb7:∀ {K:PySem.W.Frag} {a:Addr} {o:Obj} {its:Array Value} {n:Nat},noL K=true->K.lookup a=some o->o.cls=.type "list" -> o.data=.seq its n->False
 | [],a,o,its,n,_,e,_,_=>by cases e
 | p::r,a,o,its,n,h,e,h1,h2=>by
  unfold noL at h;rw [Bool.and_eq_true] at h;rw [List.lookup_cons] at e;split at e
  ·cases e
   have q:=h.1;rw [h2] at q;simp only [h1] at q;exact absurd q (by decide)
  ·exact vb7 h.2 e h1 h2
theorem arZ {P:List Value->Prop} (h:P []):∀ us:List Value,us.length=0->P us:=fun us e=>by rw [List.eq_nil_of_length_eq_zero e];exact h
theorem arS {n:Nat} {P:List Value->Prop} (h:∀ (a:Value) (us:List Value),us.length=n->P (a::us)):∀ us:List Value,us.length=n+1->P us:=fun us e=>by
 cases us with
 | nil=>cases e
 | cons a us=>exact h a us (Nat.succ.inj e)
theorem ar1 {P:List Value->Prop} (h:∀ a0,P [a0]):∀ us:List Value,us.length=1->P us:=arS fun a0=>arZ (h a0)
theorem ar2 {P:List Value->Prop} (h:∀ a0 a1,P [a0,a1]):∀ us:List Value,us.length=2->P us:=arS fun a0=>arS fun a1=>arZ (h a0 a1)
theorem ar3 {P:List Value->Prop} (h:∀ a0 a1 a2,P [a0,a1,a2]):∀ us:List Value,us.length=3->P us:=arS fun a0=>arS fun a1=>arS fun a2=>arZ (h a0 a1 a2)
theorem ar4 {P:List Value->Prop} (h:∀ a0 a1 a2 a3,P [a0,a1,a2,a3]):∀ us:List Value,us.length=4->P us:=arS fun a0=>arS fun a1=>arS fun a2=>arS fun a3=>arZ (h a0 a1 a2 a3)
theorem ar5 {P:List Value->Prop} (h:∀ a0 a1 a2 a3 a4,P [a0,a1,a2,a3,a4]):∀ us:List Value,us.length=5->P us:=arS fun a0=>arS fun a1=>arS fun a2=>arS fun a3=>arS fun a4=>arZ (h a0 a1 a2 a3 a4)
def uy3 {K:PySem.W.Frag} {x qual:Str} {st:Stmt} {ps:List Str} {f:Addr} {oc:Value} {od an:Option Addr} {osl:Array (Option Value)} {kV doc pm cdv ct:Value} (l:K.lookup f=some ⟨oc,od,.func (PySem.W.fnOf x qual (u30 st) (u21 st) (u01 st) .none kV doc pm an cdv ct),osl⟩)
  (c:PySem.W.codeIn K cdv qual=true) (k:PySem.W.keepIn K (.ref f)=true) (hb:∀ us:List Value,us.length=ps.length->bindArgs (PySem.W.fnOf x qual (u30 st) (u21 st) (u01 st) .none kV doc pm an cdv ct) ⟨us,[]⟩=pure (ps.zip us)):FnAt K x qual st ps :=
 ⟨f,_,⟨oc,od,.none,kV,doc,pm,an,cdv,ct,osl,rfl,l,c⟩,k,.all hb⟩
def DF (K:PySem.W.Frag) (x:Str) (st:Stmt):Prop:=∃ (p:Addr) (oc:Value) (od an:Option Addr) (sl:Array (Option Value)) (kV dc pm cd ct:Value),PySem.W.nsIn K mainGlobals x=some (some (.ref p)) /\ K.lookup p=some ⟨oc,od,.func (PySem.W.fnOf x x (u30 st) (u21 st) (u01 st) .none kV dc pm an cd ct),sl⟩ /\ PySem.W.codeIn K cd x=true /\ PySem.W.keepIn K (.ref p)=true
def DM (K:PySem.W.Frag) (C:Addr) (x q:Str) (st:Stmt):Prop:=∃ (p:Addr) (oc:Value) (od an:Option Addr) (sl:Array (Option Value)) (kV dc pm cd ct:Value),PySem.W.findIn K (.ref C) x=some (some (.ref p)) /\ PySem.W.isFn K (.ref p)=true /\ K.lookup p=some ⟨oc,od,.func (PySem.W.fnOf x q (u30 st) (u21 st) (u01 st) .none kV dc pm an cd ct),sl⟩ /\ PySem.W.codeIn K cd q=true /\ PySem.W.keepIn K (.ref p)=true
section
variable {K:PySem.W.Frag} {h:Heap} {mg:Str->Option Value} {C:Addr} {x q:Str} {st:Stmt} {ps:List Str}
theorem df_m {p:Addr} {oc:Value} {od an:Option Addr} {sl:Array (Option Value)} {kV dc pm cd ct:Value} (a:PySem.W.nsIn K mainGlobals x=some (some (.ref p))) (l:K.lookup p=some ⟨oc,od,.func (PySem.W.fnOf x x (u30 st) (u21 st) (u01 st) .none kV dc pm an cd ct),sl⟩) (c:PySem.W.codeIn K cd x=true) (k:PySem.W.keepIn K (.ref p)=true):DF K x st:=⟨p,oc,od,an,sl,kV,dc,pm,cd,ct,a,l,c,k⟩
theorem dm_m {p:Addr} {oc:Value} {od an:Option Addr} {sl:Array (Option Value)} {kV dc pm cd ct:Value} (a:PySem.W.findIn K (.ref C) x=some (some (.ref p))) (i:PySem.W.isFn K (.ref p)=true) (l:K.lookup p=some ⟨oc,od,.func (PySem.W.fnOf x q (u30 st) (u21 st) (u01 st) .none kV dc pm an cd ct),sl⟩) (c:PySem.W.codeIn K cd q=true) (k:PySem.W.keepIn K (.ref p)=true):DM K C x q st:=⟨p,oc,od,an,sl,kV,dc,pm,cd,ct,a,i,l,c,k⟩
theorem df_f {N:List Str} (_:FnScope N ps (u01 st)) (X:K.In h) (G:h.Ns mainGlobals mg) (hb:∀ kV dc pm an cd ct,∀ us:List Value,us.length=ps.length->bindArgs (PySem.W.fnOf x x (u30 st) (u21 st) (u01 st) .none kV dc pm an cd ct) ⟨us,[]⟩=pure (ps.zip us)) (d:DF K x st) :
  ∃ f:FnAt K x x st ps,mg x=some (.ref f.a) /\ ∀ (s:Shared) (us:List Value),us.length=ps.length->BindsTo s f.fd ⟨us,[]⟩ (ps.zip us):=by
 obtain ⟨p,oc,od,an,sl,kV,dc,pm,cd,ct,a,l,c,k⟩:=d;exact ⟨uy3 l c k (hb kV dc pm an cd ct),PySem.W.mg_of X G a,fun s us e=>.of_eq (hb kV dc pm an cd ct us e)⟩
theorem dm_f {N:List Str} (_:FnScope N ps (u01 st)) (hb:∀ kV dc pm an cd ct,∀ us:List Value,us.length=ps.length->bindArgs (PySem.W.fnOf x q (u30 st) (u21 st) (u01 st) .none kV dc pm an cd ct) ⟨us,[]⟩=pure (ps.zip us)) (d:DM K C x q st) :
  ∃ f:FnAt K x q st ps,PySem.W.findIn K (.ref C) x=some (some (.ref f.a)) /\ PySem.W.isFn K (.ref f.a)=true:=by
 obtain ⟨p,oc,od,an,sl,kV,dc,pm,cd,ct,a,i,l,c,k⟩:=d;exact ⟨uy3 l c k (hb kV dc pm an cd ct),a,i⟩
end
def va2:Sp3:=fun ds G R=>∃ (a:Addr) (ns:List Int),ds=[.ref a] /\ G 146=some (.tb qnF 4) /\ G a=some (.fro (ns.map .int)) /\ ns.length<=63 /\ ∀ G',R (.bl true) G'
theorem ul1 {K:PySem.W.Frag} {H:Hp}:∀ ns:List Int,RelDs K H (ns.map D.int) (ns.map V.int)
 | []=>.nil
 | _::ns=>.cons RelD.intI (ul1 ns)
theorem vy3 {K:PySem.W.Frag} {H:Hp} {a:Addr} {ns:List Int} (hl:ns.length<=63) (ht:H 146=some (.tbl #[])) (hb:BmOk H 4) (ha:∃ o,H a=some (.frz o (.lst (ns.map V.int)))):ua2 K va2 [.ref a] H (fun v _=>v=.bl true) fun _ _ _=>False:=by
 obtain ⟨o,ha⟩:=ha;have na:(146:Addr) ≠ a:=fun z=>by rw [<- z,ht] at ha;cases ha
 refine ⟨[.ref a],gup (gup (fun _=>none) a (.fro (ns.map .int))) 146 (.tb qnF 4),fun d _=>d=.bl true,.cons ?_ .nil,fun b u e=>?_,⟨a,ns,rfl,u02,by rw [u07 (Ne.symm na)];exact u02,hl,fun _=>rfl⟩,fun d G' v H' r _ _ e=>?_⟩
 ·rw [RelD]
 ·by_cases h1:b=146
  ·subst h1
   rw [u02] at e;cases e;exact ⟨#[],ht,⟨trivial,fun pos cv z=>by cases z⟩,hb⟩
  ·rw [u07 h1] at e
   by_cases hb:b=a
   ·subst hb
    rw [u02] at e;cases e;exact ⟨o,_,ha,ul1 ns⟩
   ·rw [u07 hb] at e;cases e
 ·subst e
  rw [RelD] at r;exact r
def FarK (K:PySem.W.Frag):Prop:=∃ c f,PySem.W.codeHdIn K c 146=true /\ PySem.W.nsIn K mainGlobals "_law_far" = some (some (.ref f)) /\ u52 K f=some (.ref c)
theorem far_m {K:PySem.W.Frag} {c f:Addr} (a:PySem.W.nsIn K mainGlobals "_law_far" = some (some (.ref f))) (b:u52 K f=some (.ref c)) (h:PySem.W.codeHdIn K c 146=true):FarK K:=⟨c,f,h,a,b⟩
theorem w02 {K:PySem.W.Frag} {h:Heap} {mg:Str->Option Value} (X:K.In h) (G:h.Ns mainGlobals mg) (k:FarK K):∃ c,PySem.W.codeHdIn K c 146=true /\ ∀ f,mg "_law_far" = some (.ref f)->u52 K f=some (.ref c):=by
 obtain ⟨c,f,h1,h2,h3⟩:=k;refine ⟨c,h1,fun f' e=>?_⟩;have:=PySem.W.mg_of X G h2;rw [this] at e;cases e;exact h3
end Law
namespace Law
open PySem PySem.Spec PyProof.Rows L2 L3 Rw
theorem txt_mk {K:PySem.W.Frag} {h:Heap} {mg:Str->Option Value} (X:K.In h) (G:h.Ns mainGlobals mg) 
  (pm_0:DF K "alone" vg6)
  (pm_16:DF K "reached" vf6)
  (pm_15:DF K "reach" vf7)
  (pm_2:DF K "alone_reach" vg4)
  (pm_22:DF K "work_at" vf1)
  (pm_3:DF K "alone_table" vg3)
  (pm_11:DF K "least_alone" v26)
  (pm_1:DF K "alone_by" vg5)
  (pm_17:DF K "reached_table" vf5)
  (pm_12:DF K "least_reached" v25)
  (pm_21:DF K "turned_plan" v24)
  (pm_20:DF K "turned_move" vf2)
  (pm_13:DF K "left_plan" vf9)
  (pm_19:DF K "shown_plan" vf3)
  (pm_14:DF K "left_way" vf8)
  (pm_18:DF K "reached_way" vf4)
  (pm_7:DF K "_law_draw" vg2)
  (pm_6:DF K "_law_costs" uo9)
  (pm_9:DF K "_law_many" v27)
  (pm_10:DF K "_law_next" vg0)
  (pm_8:DF K "_law_far" vg1)
  (pm_5:DF K "_law_cost" v28)
  (pm_4:DF K "law" v23)
  (b_abs:PySem.W.nsIn K mainGlobals "abs" = some none)
  (b_divmod:PySem.W.nsIn K mainGlobals "divmod" = some none)
  (b_int:PySem.W.nsIn K mainGlobals "int" = some none)
  (b_len:PySem.W.nsIn K mainGlobals "len" = some none)
  (b_list:PySem.W.nsIn K mainGlobals "list" = some none)
  (b_max:PySem.W.nsIn K mainGlobals "max" = some none)
  (b_min:PySem.W.nsIn K mainGlobals "min" = some none)
  (b_range:PySem.W.nsIn K mainGlobals "range" = some none)
  (b_reversed:PySem.W.nsIn K mainGlobals "reversed" = some none)
  (b_sum:PySem.W.nsIn K mainGlobals "sum" = some none)
  (far_bmK:PySem.W.nsIn K mainGlobals "__builtins__" = some (some (.ref 4)))
  (far_ccK:FarK K) :
  ∃ T:Txt K mg,∀ (s:Shared) (v:Value),BindsTo s T.f_law.fd ⟨[v],[]⟩ [("_law_script",v)]:=by
 obtain ⟨f_jaa,g_alone,_⟩:=df_f vb2 X G (fun _ _ _ _ _ _=>ar2 fun _ _=>rfl) pm_0;obtain ⟨f_jar,g_reached,_⟩:=df_f va6 X G (fun _ _ _ _ _ _=>ar2 fun _ _=>rfl) pm_16;obtain ⟨f_jaq,g_reach,_⟩:=df_f va7 X G (fun _ _ _ _ _ _=>ar1 fun _=>rfl) pm_15;obtain ⟨f_jac,g_alone_reach,_⟩:=df_f vb0 X G (fun _ _ _ _ _ _=>ar1 fun _=>rfl) pm_2;obtain ⟨f_jay,g_work_at,_⟩:=df_f va3 X G (fun _ _ _ _ _ _=>ar2 fun _ _=>rfl) pm_22;obtain ⟨f_jad,g_alone_table,_⟩:=df_f sc_jad X G (fun _ _ _ _ _ _=>ar2 fun _ _=>rfl) pm_3;obtain ⟨f_jal,g_least_alone,_⟩:=df_f sc_jal X G (fun _ _ _ _ _ _=>ar5 fun _ _ _ _ _=>rfl) pm_11;obtain ⟨f_jab,g_alone_by,_⟩:=df_f vb1 X G (fun _ _ _ _ _ _=>ar5 fun _ _ _ _ _=>rfl) pm_1;obtain ⟨f_jas,g_reached_table,_⟩:=df_f sc_jas X G (fun _ _ _ _ _ _=>ar3 fun _ _ _=>rfl) pm_17;obtain ⟨f_jam,g_least_reached,_⟩:=df_f sc_jam X G (fun _ _ _ _ _ _=>ar5 fun _ _ _ _ _=>rfl) pm_12;obtain ⟨f_jax,g_turned_plan,_⟩:=df_f va4 X G (fun _ _ _ _ _ _=>ar1 fun _=>rfl) pm_21;obtain ⟨f_jaw,g_turned_move,_⟩:=df_f va5 X G (fun _ _ _ _ _ _=>ar1 fun _=>rfl) pm_20;obtain ⟨f_jan,g_left_plan,_⟩:=df_f sc_jan X G (fun _ _ _ _ _ _=>ar2 fun _ _=>rfl) pm_13;obtain ⟨f_jav,g_shown_plan,_⟩:=df_f sc_jav X G (fun _ _ _ _ _ _=>ar2 fun _ _=>rfl) pm_19;obtain ⟨f_jao,g_left_way,_⟩:=df_f sc_jao X G (fun _ _ _ _ _ _=>ar4 fun _ _ _ _=>rfl) pm_14;obtain ⟨f_jat,g_reached_way,_⟩:=df_f sc_jat X G (fun _ _ _ _ _ _=>ar5 fun _ _ _ _ _=>rfl) pm_18;obtain ⟨f_jah,g_law_draw,_⟩:=df_f sc_jah X G (fun _ _ _ _ _ _=>ar2 fun _ _=>rfl) pm_7;obtain ⟨f_jag,g_law_costs,_⟩:=df_f sc_jag X G (fun _ _ _ _ _ _=>ar2 fun _ _=>rfl) pm_6;obtain ⟨f_jaj,g_law_many,_⟩:=df_f va8 X G (fun _ _ _ _ _ _=>ar1 fun _=>rfl) pm_9;obtain ⟨f_jak,g_law_next,_⟩:=df_f sc_jak X G (fun _ _ _ _ _ _=>ar3 fun _ _ _=>rfl) pm_10;obtain ⟨f_jai,g_law_far,_⟩:=df_f sc_jai X G (fun _ _ _ _ _ _=>ar2 fun _ _=>rfl) pm_8;obtain ⟨f_jaf,g_law_cost,_⟩:=df_f va9 X G (fun _ _ _ _ _ _=>ar2 fun _ _=>rfl) pm_5;obtain ⟨f_law,g_law,b_law⟩:=df_f sc_law X G (fun _ _ _ _ _ _=>ar1 fun _=>rfl) pm_4;exact ⟨⟨f_jaa,g_alone,f_jar,g_reached,f_jaq,g_reach,f_jac,g_alone_reach,f_jay,g_work_at,f_jad,g_alone_table,f_jal,g_least_alone,f_jab,g_alone_by,f_jas,g_reached_table,f_jam,g_least_reached,f_jax,g_turned_plan,f_jaw,g_turned_move,f_jan,g_left_plan,f_jav,g_shown_plan,f_jao,g_left_way,f_jat,g_reached_way,f_jah,g_law_draw,f_jag,g_law_costs,f_jaj,g_law_many,f_jak,g_law_next,f_jai,g_law_far,f_jaf,g_law_cost,f_law,g_law,PySem.W.mg_none_of X G b_abs,PySem.W.mg_none_of X G b_divmod,PySem.W.mg_none_of X G b_int,PySem.W.mg_none_of X G b_len,PySem.W.mg_none_of X G b_list,PySem.W.mg_none_of X G b_max,PySem.W.mg_none_of X G b_min,PySem.W.mg_none_of X G b_range,PySem.W.mg_none_of X G b_reversed,PySem.W.mg_none_of X G b_sum,PySem.W.mg_of X G far_bmK,w02 X G far_ccK⟩,fun s v=>b_law s [v] rfl⟩
theorem w16 {P:Program} {w:World} {K:PySem.W.Frag} {mg:Str->Option Value} {base:Heap} (T:Txt K mg):Ok P w mg base 56 T.f_law (w17 T):=by
 have H_jay:=@vv8 P w K mg base T 0;have H_jac:=@vx7 P w K mg base T 0;have H_jab:=@vx8 P w K mg base T 0;have H_jal:=@vw9 P w K mg base T 1 (FnOk.mono H_jac (by decide)) (FnOk.mono H_jab (by decide));have H_jad:=@vx6 P w K mg base T 2 (FnOk.mono H_jac (by decide)) (FnOk.mono H_jal (by decide));have H_jaa:=@vx9 P w K mg base T 3 (FnOk.mono H_jay (by decide)) (FnOk.mono H_jad (by decide));have H_jaq:=@vw5 P w K mg base T 0;have H_jam:=@vw8 P w K mg base T 1 (FnOk.mono H_jaq (by decide)) (FnOk.mono H_jac (by decide));have H_jas:=@vw3 P w K mg base T 2 (FnOk.mono H_jaq (by decide)) (FnOk.mono H_jam (by decide));have H_jar:=@vw4 P w K mg base T 3 (FnOk.mono H_jay (by decide)) (FnOk.mono H_jad (by decide)) (FnOk.mono H_jas (by decide));have H_jaw:=@vw0 P w K mg base T 0;have H_jax:=@vv9 P w K mg base T 1 (FnOk.mono H_jaw (by decide));have R_jao:∀ dp,Ok P w mg base (2+dp) T.f_jao (uq5 T dp):=by
  intro dp
  induction dp with
  | zero=>exact w25 T
  | succ dp ih=>exact vw6 T (n:=2+dp) (dp:=dp) (FnOk.mono H_jax (by omega)) ih
 have H_jao:Ok P w mg base 28 T.f_jao (vo7 T):=R_jao 26;have H_jan:=@vw7 P w K mg base T 28 (FnOk.mono H_jad (by decide)) (FnOk.mono H_jao (by decide));have R_jat:∀ dp,Ok P w mg base (28+dp) T.f_jat (uq4 T dp):=by
  intro dp
  induction dp with
  | zero=>exact w24 T
  | succ dp ih=>exact vw2 T (n:=28+dp) (dp:=dp) (FnOk.mono H_jao (by omega)) ih
 have H_jat:Ok P w mg base 54 T.f_jat (w19 T):=R_jat 26;have H_jav:=@vw1 P w K mg base T 54 (FnOk.mono H_jad (by decide)) (FnOk.mono H_jas (by decide)) (FnOk.mono H_jax (by decide)) (FnOk.mono H_jat (by decide));have H_jah:=@vx3 P w K mg base T 0;have H_jag:=@vx4 P w K mg base T 1 (FnOk.mono H_jah (by decide));have H_jaj:=@vx1 P w K mg base T 0;have H_jak:=@vx0 P w K mg base T 1 (FnOk.mono H_jaj (by decide));have H_jai:=@vx2 P w K mg base T 2 (FnOk.mono H_jak (by decide));have H_jaf:=@vx5 P w K mg base T 0;have H_law:=@vv7 P w K mg base T 55 (FnOk.mono H_jaa (by decide)) (FnOk.mono H_jar (by decide)) (FnOk.mono H_jan (by decide)) (FnOk.mono H_jav (by decide)) (FnOk.mono H_jah (by decide)) (FnOk.mono H_jag (by decide)) (FnOk.mono H_jai (by decide)) (FnOk.mono H_jaf (by decide));exact H_law
theorem walk {l:PySem.W.OpenLaw} {q:Program} {loose:List Str} {XP:(Str->Option Value)->Heap->Prop} {YP:World->Heap->Prop} {d:DefRec} {K:Params->PySem.W.Frag} (hn:l.most=some 63) (hdf:d.params.defaults=[])
  (hY:∀ (w:World) (h:Heap),YP w h->(K w.params).In h) (hYt:∀ (w:World) (h:Heap),YP w h->h.get? 146=some (PySem.W.tabObj #[])) (hk1:∀ w:World,(K w.params).lookup 146=none) (hk2:∀ w:World,(K w.params).lookup 4=none) (hL:∀ w:World,noL (K w.params)=true)
  (F:∀ (w:World) (mg:Str->Option Value) (fa:Addr) (h:Heap),(K w.params).In h->h.Ns mainGlobals mg->mg d.name=some (.ref fa)->∃ T:Txt (K w.params) mg,∀ (s:Shared) (v:Value),BindsTo s T.f_law.fd ⟨[v],[]⟩ [("_law_script",v)]) (hdn:d.name = "law" := by rfl) :
  PySem.W.WalkO q loose XP YP l.row.toRowW d [] (fun f vs=>PySem.call f vs):=by
 refine Att.attach_call hn hdf fun w s₀ s₁ mg mb fa o pm cd doc a vs ns G Y ho hd hcd hm hobj hints hlen hg=>?_
 have KX:=hY w _ Y;obtain ⟨T,hb⟩:=F w mg fa _ KX G.T.g hm;rw [hdn] at hm;have e:=hm.symm.trans T.g_law;cases e;obtain ⟨bm,ob,b1,b2,b3,b4,b5,b6⟩:=G.T.bmain;have e4:=b1.symm.trans T.far_bm;cases e4;obtain ⟨cc,hhd,_⟩:=T.far_cc;have hak:(K w.params).lookup a=none:=by
  cases q:(K w.params).lookup a with
  | none=>rfl
  | some o =>
   have e:=KX a o q;rw [hobj] at e;cases e;exact (vb7 (hL w) q rfl rfl).elim
 exact uw9 (k:=56) (sp:=ua2 (K w.params) va2) (CX:=CX0) KX G.T.g G.T.b G.T.builtins G.T.nolimit hg hobj hints (Nat.le_trans hlen (by decide)) ⟨rfl,by decide,by decide⟩ hak (hYt w _ Y) (hk1 w) b3 (hk2 w) b4 b5 b6 hhd (fun base _ _=>w16 T) hb (fun H h1 h2 h3=>vy3 hlen h1 h2 h3) fun _ _ _ z=>z
end Law
end
open PySem PySem.W PyProof.Rows
local macro_rules | `(tactic| ac_rfl) => `(tactic| (refine' Law.df_m ?a ?b ?c ?d; (case a => k_is); (case b => k_is); (case c => k_is); (case d => k_is)))
local macro_rules | `(tactic| bv_omega) => `(tactic| (refine' Law.dm_m ?a ?b ?c ?d ?e; (case a => k_is); (case b => k_is); (case c => k_is); (case d => k_is); (case e => k_is)))
set_option maxHeartbeats 0 in
theorem PySem.Challenge.cw_nolitter_k38_whole_none_is_cheaper_holds : PySem.Challenge.rw_nolitter_k38_whole_none_is_cheaper.Holds := by
 w_on; o_law; k_head; (case hw => w_witness2)
 k_fill
 refine Law.walk (l := PySem.Challenge.rw_nolitter_k38_whole_none_is_cheaper) rfl rfl (fun w h Y => PySem.W.km_in_of Y) (fun w h Y => PySem.W.km_tabs_of Y 146 (List.mem_singleton.mpr rfl)) (fun w => rfl) (fun w => rfl) ?L ?F
 case L => exact fun w => rfl
 case F =>
  intro w mg fa h KX G hmg
  refine' Law.txt_mk KX G ?pm_0 ?pm_16 ?pm_15 ?pm_2 ?pm_22 ?pm_3 ?pm_11 ?pm_1 ?pm_17 ?pm_12 ?pm_21 ?pm_20 ?pm_13 ?pm_19 ?pm_14 ?pm_18 ?pm_7 ?pm_6 ?pm_9 ?pm_10 ?pm_8 ?pm_5 ?pm_4 ?b_abs ?b_divmod ?b_int ?b_len ?b_list ?b_max ?b_min ?b_range ?b_reversed ?b_sum ?far_bmK ?far_ccK
  (case pm_0 => ac_rfl)
  (case pm_16 => ac_rfl)
  (case pm_15 => ac_rfl)
  (case pm_2 => ac_rfl)
  (case pm_22 => ac_rfl)
  (case pm_3 => ac_rfl)
  (case pm_11 => ac_rfl)
  (case pm_1 => ac_rfl)
  (case pm_17 => ac_rfl)
  (case pm_12 => ac_rfl)
  (case pm_21 => ac_rfl)
  (case pm_20 => ac_rfl)
  (case pm_13 => ac_rfl)
  (case pm_19 => ac_rfl)
  (case pm_14 => ac_rfl)
  (case pm_18 => ac_rfl)
  (case pm_7 => ac_rfl)
  (case pm_6 => ac_rfl)
  (case pm_9 => ac_rfl)
  (case pm_10 => ac_rfl)
  (case pm_8 => ac_rfl)
  (case pm_5 => ac_rfl)
  (case pm_4 => ac_rfl)
  (case b_abs => k_is)
  (case b_divmod => k_is)
  (case b_int => k_is)
  (case b_len => k_is)
  (case b_list => k_is)
  (case b_max => k_is)
  (case b_min => k_is)
  (case b_range => k_is)
  (case b_reversed => k_is)
  (case b_sum => k_is)
  (case far_bmK => k_is)
  (case far_ccK => (refine' Law.far_m ?a ?b ?c; (case a => k_is); (case b => exact rfl); (case c => first | kernel_rfl | exact rfl)))
