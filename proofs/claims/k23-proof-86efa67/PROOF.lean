import PyProof.Rows.All
import Wide.All
import OpenK.AllK
import Wide.FinOn
import Lean
import PyProof.EqAt
import PyProof.EqKinds
import PyProof.TupleCall
import PyProof.NeKinds
import PyProof.Rows.SeqMore
import PyProof.FactsAll.tuple_2
import KE.KDictOf
import PyProof.Rows.CountFlat
import PyProof.AutoListH
import PyProof.DictWalks
import PyProof.DictUpdate
import PySem.Challenge.RW_nolitter_k23_sides_as_long
set_option Elab.async false
set_option linter.all false
set_option maxRecDepth 100000
set_option maxHeartbeats 4000000
local macro_rules | `(tactic| decide) => `(tactic| decide +kernel)
noncomputable section
namespace L2
open PySem PySem.Spec PyProof.Rows
abbrev Key:=Sum Int Str
def uz5:Key->Value->Bool
 | .inl k,v=>Value.isInt k v
 | .inr x,v=>Value.isStrOf x v
def keyH (w:World):Key->Int
 | .inl k=>hashInt k
 | .inr x=>hashStr w x
theorem u36:∀ {k:Key} {v:Value},uz5 k v=true->(∃ i t,k=Sum.inl i /\ v=Value.int i t) \/ (∃ x t,k=Sum.inr x /\ v=Value.str x t)
 | .inl i,v,h=>by
  obtain ⟨t,e⟩:=Value.isInt_shape (k:=i) (v:=v) h;exact .inl ⟨i,t,rfl,e⟩
 | .inr x,v,h=>by
  obtain ⟨t,e⟩:=Value.isStrOf_shape (x:=x) (v:=v) h;exact .inr ⟨x,t,rfl,e⟩
theorem v71 (i:Int) (t:Tok):uz5 (.inl i) (.int i t)=true:=by simp [uz5,Value.isInt]
theorem v70 (x:Str) (t:Tok):uz5 (.inr x) (.str x t)=true:=by simp [uz5,Value.isStrOf]
theorem wm1 (a b:Int):decide ((Sum.inl a:Key)=Sum.inl b)=(a == b):=by
 by_cases e:a=b
 ·subst e;simp
 ·have h:¬ (Sum.inl a:Key)=Sum.inl b:=fun q=>e (Sum.inl.inj q)
  rw [decide_eq_false h];exact (beq_eq_false_iff_ne.mpr e).symm
theorem wl8 (a b:Str):decide ((Sum.inr a:Key)=Sum.inr b)=decide (a=b):=by
 by_cases e:a=b
 ·subst e;simp
 ·have h:¬ (Sum.inr a:Key)=Sum.inr b:=fun q=>e (Sum.inr.inj q)
  rw [decide_eq_false h,decide_eq_false e]
theorem wm0 (a:Int) (b:Str):decide ((Sum.inl a:Key)=Sum.inr b)=false:=decide_eq_false (fun q=>nomatch q)
theorem wl9 (a:Str) (b:Int):decide ((Sum.inr a:Key)=Sum.inl b)=false:=decide_eq_false (fun q=>nomatch q)
def u33 (prog:Program) (w:World):PySem.KeyKind prog w Key where
 is:=uz5
 hash:=keyH w
 inj:=fun v a b ha hb=>by
  rcases u36 ha with ⟨i,t,rfl,rfl⟩ | ⟨x,t,rfl,rfl⟩
  ·rcases u36 hb with ⟨j,u,rfl,e⟩ | ⟨y,u,rfl,e⟩
   ·injection e with e1 _;rw [e1]
   ·exact nomatch e
  ·rcases u36 hb with ⟨j,u,rfl,e⟩ | ⟨y,u,rfl,e⟩
   ·exact nomatch e
   ·injection e with e1 _;rw [e1]
 byValue:=fun k v h=>by
  rcases u36 h with ⟨i,t,rfl,rfl⟩ | ⟨x,t,rfl,rfl⟩ <;> rfl
 pyHash:=fun hv h=>by
  rcases u36 hv with ⟨i,t,rfl,rfl⟩ | ⟨x,t,rfl,rfl⟩
  ·exact wpAny_pyHash_int h
  ·exact wpAny_pyHash_str h
 eqBool:=fun hu hv h=>by
  rcases u36 hu with ⟨i,t,rfl,rfl⟩ | ⟨x,t,rfl,rfl⟩
  ·rcases u36 hv with ⟨j,u,rfl,rfl⟩ | ⟨y,u,rfl,rfl⟩
   ·rw [wm1] at h;exact wpAny_eqBool_int h
   ·rw [wm0] at h;exact SeqAt.EqAt.int_str i t y u _ _ _ _ h
  ·rcases u36 hv with ⟨j,u,rfl,rfl⟩ | ⟨y,u,rfl,rfl⟩
   ·rw [wl9] at h;exact SeqAt.EqAt.str_int x t j u _ _ _ _ h
   ·rw [wl8] at h;exact wpAny_eqBool_str h
 «strs»:=fun k x t v h=>by
  rcases u36 h with ⟨i,u,rfl,e⟩ | ⟨y,u,rfl,e⟩
  ·exact nomatch e
  ·injection e with e1 _
   subst e1;cases v <;> rfl
theorem ur1 (prog:Program) (w:World) (i:Int) (t:Tok):(u33 prog w).is (.inl i) (.int i t)=true:=v71 i t
theorem ur0 (prog:Program) (w:World) (x:Str) (t:Tok):(u33 prog w).is (.inr x) (.str x t)=true:=v70 x t
inductive V where
 | non | bl (b:Bool) | int (i:Int) | str (x:Str) | byt (b:Array UInt8) | flt (b:UInt64) | ref (a:Addr) | ty (n:String)
 deriving DecidableEq
def RelV:V->Value->Prop
 | .non,u=>u=Value.none
 | .bl b,u=>u=Value.bool b
 | .int i,u=>∃ t,u=Value.int i t
 | .str x,u=>∃ t,u=Value.str x t
 | .byt b,u=>∃ t,u=Value.bytes b t
 | .flt b,u=>∃ t,u=Value.float b t
 | .ref a,u=>u=Value.ref a
 | .ty n,u=>u=Value.type n
abbrev Vals:List V->List Value->Prop:=Paired RelV
theorem Vals.length {xs:List V} {us:List Value} (r:Vals xs us):xs.length=us.length:=Paired.length r
theorem Vals.get:∀ {xs:List V} {us:List Value} {i:Nat} {x:V},Vals xs us->xs[i]?=some x->∃ u,us[i]?=some u /\ RelV x u
 | _,_,_,_,.nil,e=>by simp at e
 | _,_,0,_,.cons r _,e=>by simp at e;subst e;exact ⟨_,rfl,r⟩
 | _,_,i+1,x,.cons _ t,e=>by
  obtain ⟨u,h1,h2⟩:=Vals.get (i:=i) (x:=x) t (by simpa using e);exact ⟨u,by simpa using h1,h2⟩
theorem Vals.set {x:V} {u:Value} (r:RelV x u):∀ {xs:List V} {us:List Value} (i:Nat),Vals xs us->Vals (xs.set i x) (us.set i u)
 | _,_,_,.nil=>.nil
 | _,_,0,.cons _ t=>.cons r t
 | _,_,i+1,.cons q t=>.cons q (Vals.set r i t)
theorem Vals.append:∀ {xs ys:List V} {us ws:List Value},Vals xs us->Vals ys ws->Vals (xs++ys) (us++ws)
 | _,_,_,_,.nil,s=>s
 | _,_,_,_,.cons r t,s=>.cons r (Vals.append t s)
theorem Vals.take:∀ {xs:List V} {us:List Value} (n:Nat),Vals xs us->Vals (xs.take n) (us.take n)
 | _,_,0,_=>.nil
 | _,_,_+1,.nil=>.nil
 | _,_,n+1,.cons r t=>.cons r (Vals.take n t)
theorem Vals.drop:∀ {xs:List V} {us:List Value} (n:Nat),Vals xs us->Vals (xs.drop n) (us.drop n)
 | _,_,0,r=>r
 | _,_,_+1,.nil=>.nil
 | _,_,n+1,.cons _ t=>Vals.drop n t
def RelO:Option V->Option Value->Prop
 | some v,some u=>RelV v u
 | none,none=>True
 | _,_=>False
def KV {κ:Type}:List (κ × V)->List (κ × Value)->Prop:=Paired fun (p:κ × V) (q:κ × Value)=>p.1=q.1 /\ RelV p.2 q.2
def kV:Key->V
 | .inl i=>.int i
 | .inr x=>.str x
inductive HO where
 | lst (xs:List V)
 | tup (xs:List V)
 | dK (kvs:List (Key × V)) | dT (kvs:List (List Key × V))
 | set (S:Int->Bool) (n:Nat)
 | ins (C dx:Addr) (fs:List (Str × V))
 | own (x:Addr)
 | xd (fs:List (Str × V))
 | met (f x:Addr)
 | rng (lo hi:Int)
 | frz (o:Obj) (u:HO)
 | tbl (ps:Array Value)
 | ext (φ:Heap->Prop)
abbrev Hp:=Addr->Option HO
def upd (H:Hp) (a:Addr) (o:HO):Hp:=fun b=>if b=a then some o else H b
theorem u24 {H:Hp} {a:Addr} {o:HO}:upd H a o a=some o:=by unfold upd;rw [if_pos rfl]
theorem u18 {H:Hp} {a b:Addr} {o:HO} (h:b ≠ a):upd H a o b=H b:=by unfold upd;rw [if_neg h]
theorem ww1 {H:Hp} {a b:Addr} {o u:HO} (h:H a=some o) (h':H b=some u) (d:o ≠ u):a ≠ b:=by
 intro e;subst e;rw [h] at h';exact d (Option.some.inj h')
theorem u50 {H:Hp} {a b:Addr} {o:HO} (h:H a=some o) (h':H b=none):a ≠ b:=by
 intro e;subst e;rw [h] at h';cases h'
section
variable (P:Program) (w:World)
def TupD (h:Heap) (a:Addr) (its:Array Value):Prop:=∃ o,h.get? a=some o /\ o.cls=.type "tuple" /\ (∃ n,o.data=.seq its n) /\ o.dict=none
theorem TupD.tup {h:Heap} {a:Addr} {its:Array Value} (x:TupD h a its):IsTup h a its:=let ⟨o,e,c,d,_⟩:=x;⟨o,e,c,d⟩
theorem TupD.new (h:Heap) (its:Array Value):TupD (h.push { cls:=.type "tuple",data:=.seq its }) h.objs.size its:=⟨_,Heap.get?_push_size _ rfl,rfl,⟨_,rfl⟩,rfl⟩
def ObjOk (H:Hp) (h:Heap) (a:Addr):HO->Prop
 | .lst xs=>xs.length<=sizeLine /\ ∃ (its:List Value) (n:Nat),Vals xs its /\ h.get? a=some { cls:=.type "list",data:=.seq its.toArray n }
 | .tup xs=>xs.length<=sizeLine /\ ∃ its:List Value,Vals xs its /\ TupD h a its.toArray
 | .dK kvs=>kvs.length<=sizeLine /\ (a == sysModules)=false /\ ∃ vs,KV kvs vs /\ h.DictOf (u33 P w) a vs
 | .dT kvs=>kvs.length<=sizeLine /\ (a == sysModules)=false /\ ∃ xs:List (List Key × Addr × Value),
   Paired (fun (p:List Key × V) (q:List Key × Addr × Value)=>p.1=q.1 /\ H q.2.1=some (.tup (p.1.map kV)) /\ RelV p.2 q.2.2) kvs xs /\
   ∃ o es ep,h.get? a=some o /\ o.ExactDict /\ o.data=.dict es ep /\ es.toList=xs.map (entryOfKey (tupleKind (u33 P w))) /\ (xs.map (·.1)).Nodup
 | .set S n=>h.SetOf (intKind P w) a S n
 | .ins C dx fs=>H dx=some (.own a) /\ fs.length<=1000 /\ dx ≠ a /\ h.get? a=some (W.instObj C dx) /\
   ∃ mA,h.Ns1 dx mA /\ (∀ f,RelO (fs.lookup f) (mA f)) /\ PySem.Within mA (fs.map (·.1))
 | .own _=>∃ o,h.get? a=some o
 | .xd fs=>∃ mA,h.Ns1 a mA /\ ∀ f,RelO (fs.lookup f) (mA f)
 | .rng lo hi=>∃ t u v,h.get? a=some { cls:=.type "range",data:=.fields #[.int lo t,.int hi u,.int 1 v] }
 | .frz o u=>h.get? a=some o /\ ObjOk H h a u
 | .tbl ps=>h.get? a=some { cls:=.none,data:=.fields ps }
 | .met f x=>h.get? a=some (W.methodObj (.ref f) (.ref x))
 | .ext φ=>φ h /\ (∃ o,h.get? a=some o) /\ ∀ h1 h2:Heap,φ h1->(∀ o,h1.get? a=some o->h2.get? a=some o)->φ h2
def HOk (H:Hp) (h:Heap):Prop:=∀ a o,H a=some o->ObjOk P w H h a o
end
section
variable {P:Program} {w:World} {H H':Hp} {h h':Heap} {a:Addr} {o:HO}
theorem ObjOk.lt (x:ObjOk P w H h a o):a < h.objs.size:=by
 cases o with
 | lst xs=>obtain ⟨_,_,_,_,e⟩:=x;exact Heap.lt_size e
 | tup xs=>obtain ⟨_,_,_,p⟩:=x;exact p.tup.lt
 | dK kvs=>obtain ⟨_,_,_,_,o,_,_,e,_⟩:=x;exact Heap.lt_size e
 | dT kvs=>obtain ⟨_,_,_,_,o,_,_,e,_⟩:=x;exact Heap.lt_size e
 | set S n=>obtain ⟨o,_,_,_,e,_⟩:=x;exact Heap.lt_size e
 | ins C dx fs=>obtain ⟨_,_,_,e,_⟩:=x;exact Heap.lt_size e
 | own y=>obtain ⟨_,e⟩:=x;exact Heap.lt_size e
 | xd fs=>obtain ⟨_,⟨_,_,_,e,_⟩,_⟩:=x;exact Heap.lt_size e
 | rng lo hi=>obtain ⟨_,_,_,e⟩:=x;exact Heap.lt_size e
 | frz ob u=>obtain ⟨e,_⟩:=x;exact Heap.lt_size e
 | tbl ps=>exact Heap.lt_size (show h.get? a=some _ from x)
 | met f y=>exact Heap.lt_size (show h.get? a=some _ from x)
 | ext φ=>obtain ⟨_,⟨_,e⟩,_⟩:=x;exact Heap.lt_size e
theorem Paired.mapP {α β:Type} {F G:α->β->Prop}:∀ {l₁:List α} {l₂:List β},Paired F l₁ l₂->(∀ a b,F a b->G a b)->Paired G l₁ l₂
 | _,_,.nil,_=>.nil
 | _,_,.cons r t,f=>.cons (f _ _ r) (Paired.mapP t f)
theorem ObjOk.stay (x:ObjOk P w H h a o) (k:∀ b u,(b=a \/ H b=some (.own a))->h.get? b=some u->h'.get? b=some u)
  (ho:∀ b,H b=some (.own a)->H' b=some (.own a)) (ht:∀ b xs,H b=some (.tup xs)->H' b=some (.tup xs)):ObjOk P w H' h' a o:=by
 induction o with
 | lst xs=>obtain ⟨z,its,n,r,e⟩:=x;exact ⟨z,its,n,r,k _ _ (.inl rfl) e⟩
 | tup xs=>obtain ⟨z,its,r,ob,e,c⟩:=x;exact ⟨z,its,r,ob,k _ _ (.inl rfl) e,c⟩
 | dK kvs=>obtain ⟨z,y,vs,r,ob,es,ep,e,c⟩:=x;exact ⟨z,y,vs,r,ob,es,ep,k _ _ (.inl rfl) e,c⟩
 | dT kvs =>
  obtain ⟨z,y,xs,r,ob,es,ep,e,c⟩:=x;exact ⟨z,y,xs,Paired.mapP r fun p q z=>⟨z.1,ht _ _ z.2.1,z.2.2⟩,ob,es,ep,k _ _ (.inl rfl) e,c⟩
 | set S n=>obtain ⟨ob,es,ep,t,e,c⟩:=x;exact ⟨ob,es,ep,t,k _ _ (.inl rfl) e,c⟩
 | ins C dx fs =>
  obtain ⟨d,z,ne,e,mA,⟨od,es,ep,e2,c⟩,r⟩:=x;exact ⟨ho _ d,z,ne,k _ _ (.inl rfl) e,mA,⟨od,es,ep,k _ _ (.inr d) e2,c⟩,r⟩
 | own y=>obtain ⟨ob,e⟩:=x;exact ⟨ob,k _ _ (.inl rfl) e⟩
 | xd fs=>obtain ⟨mA,⟨od,es,ep,e,c⟩,r⟩:=x;exact ⟨mA,⟨od,es,ep,k _ _ (.inl rfl) e,c⟩,r⟩
 | rng lo hi=>obtain ⟨t,u,v,e⟩:=x;exact ⟨t,u,v,k _ _ (.inl rfl) e⟩
 | frz ob u ih=>obtain ⟨e,q⟩:=x;exact ⟨k _ _ (.inl rfl) e,ih q⟩
 | tbl ps =>
  have e:h.get? a=some { cls:=.none,data:=.fields ps }:=x
  show h'.get? a=some { cls:=.none,data:=.fields ps }
  exact k a _ (.inl rfl) e
 | met f y =>
  have e:h.get? a=some (W.methodObj (.ref f) (.ref y)):=x
  show h'.get? a=some (W.methodObj (.ref f) (.ref y))
  exact k a _ (.inl rfl) e
 | ext φ=>obtain ⟨p,⟨o,e⟩,st⟩:=x;exact ⟨st _ _ p fun o q=>k _ _ (.inl rfl) q,⟨o,k _ _ (.inl rfl) e⟩,st⟩
theorem HOk.lt (x:HOk P w H h) (e:H a=some o):a < h.objs.size:=(x a o e).lt
theorem HOk.fresh (x:HOk P w H h) (e:h.objs.size<=a):H a=none:=by
 cases q:H a with
 | none=>rfl
 | some u=>exact absurd (Nat.lt_of_lt_of_le (x.lt q) e) (Nat.lt_irrefl _)
theorem HOk.kept (x:HOk P w H h) (k:∀ b u,h.get? b=some u->h'.get? b=some u):HOk P w H h':=fun a o e =>
 (x a o e).stay (fun b u _ q=>k b u q) (fun _ q=>q) fun _ _ q=>q
theorem HOk.laid (x:HOk P w H h) (k:∀ b u,h.get? b=some u->h'.get? b=some u) (hp:h.objs.size<=a) (new:ObjOk P w (upd H a o) h' a o):HOk P w (upd H a o) h':=fun b u e=>by
 have hn:=x.fresh hp
 by_cases hb:b=a
 ·subst hb;rw [u24] at e;cases e;exact new
 ·rw [u18 hb] at e
  exact (x b u e).stay (fun c v _ q=>k c v q) (fun c q=>by rw [u18 (u50 q hn)];exact q) fun c xs q=>by rw [u18 (u50 q hn)];exact q
end
def Rd (H:Hp) (a:Addr) (u:HO):Prop:=H a=some u \/ ∃ o,H a=some (.frz o u)
theorem Rd.of {H:Hp} {a:Addr} {u:HO} (h:H a=some u):Rd H a u:=.inl h
theorem Rd.ok {P:Program} {w:World} {H:Hp} {h:Heap} {a:Addr} {u:HO} (r:Rd H a u) (x:HOk P w H h):ObjOk P w H h a u:=by
 rcases r with r | ⟨o,r⟩
 ·exact x a u r
 ·obtain ⟨_,q⟩:=x a _ r
  exact q
def Mut:Option HO->Prop
 | some (.lst _)=>True
 | some (.dK _)=>True
 | some (.dT _)=>True
 | some (.set _ _)=>True
 | some (.ins _ _ _)=>True
 | some (.ext _)=>True
 | _=>False
section
variable {P:Program} {w:World} {H:Hp} {h h':Heap} {x e:Addr} {o':HO}
theorem HOk.write (ok:HOk P w H h) (mu:Mut (H x)) (he:e=x \/ H e=some (.own x)) (k:∀ b u,b ≠ e->h.get? b=some u->h'.get? b=some u) (heo:∃ u,h'.get? e=some u)
  (new:ObjOk P w (upd H x o') h' x o'):HOk P w (upd H x o') h':=fun b u q=>by
 have nown:∀ c y,H c=some (.own y)->c ≠ x:=fun c y r z=>by subst z;rw [r] at mu;exact mu
 have ntup:∀ c xs,H c=some (.tup xs)->c ≠ x:=fun c xs r z=>by subst z;rw [r] at mu;exact mu
 by_cases hb:b=x
 ·subst hb;rw [u24] at q;cases q;exact new
 ·rw [u18 hb] at q
  by_cases hbe:b=e
  ·have q':H b=some (.own x):=by
    rcases he with z | z
    ·exact absurd (hbe.trans z) hb
    ·rw [hbe];exact z
   rw [q] at q';cases q';obtain ⟨v,hv⟩:=heo;exact ⟨v,by rw [hbe];exact hv⟩
  ·refine (ok b u q).stay (fun c v hc r=>k c v ?_ r) (fun c r=>by rw [u18 (nown c b r)];exact r) fun c xs r=>by rw [u18 (ntup c xs r)];exact r
   rcases hc with rfl | hc
   ·exact hbe
   ·rintro rfl
    rcases he with z | z
    ·exact nown c b hc z
    ·rw [hc] at z;cases z;exact hb rfl
end
structure Un (fs ex:List Addr) (H H':Hp) (h h':Heap):Prop where
 keep:∀ b o,h.get? b=some o->H b=none->b ∉ fs->b ∉ ex->h'.get? b=some o
 slot:∀ b o,h.get? b=some o->H b=none->b ∈ fs->b ∉ ex->∃ sl,h'.get? b=some { o with slots:=sl }
 free:∀ b o,h.get? b=some o->H b=none->b ∉ ex->H' b=none
 there:∀ b o,h.get? b=some o->b ∉ ex->∃ o',h'.get? b=some o'
 tups:∀ b xs,H b=some (.tup xs)->H' b=some (.tup xs)
 frzs:∀ b o u,H b=some (.frz o u)->H' b=some (.frz o u)
 tbls:∀ b ps,H b=some (.tbl ps)->∃ more,H' b=some (.tbl (ps++more))
section
variable {fs fs' ex ex':List Addr} {H H1 H2:Hp} {h h1 h2 h':Heap} {a x e:Addr} {o:HO}
theorem Un.any (u:Un fs ex H H1 h h1) {b:Addr} {ob:Obj} (q:h.get? b=some ob) (n:H b=none) (hx:b ∉ ex):∃ sl,h1.get? b=some { ob with slots:=sl }:=by
 by_cases hb:b ∈ fs
 ·exact u.slot b ob q n hb hx
 ·exact ⟨ob.slots,u.keep b ob q n hb hx⟩
theorem Un.kept (k:∀ b u,h.get? b=some u->h'.get? b=some u):Un fs ex H H h h' :=
 ⟨fun b ob q _ _ _=>k b ob q,fun b ob q _ _ _=>⟨ob.slots,k b ob q⟩,fun _ _ _ n _=>n,fun b ob q _=>⟨ob,k b ob q⟩,fun _ _ q=>q,fun _ _ _ q=>q,fun _ ps q=>⟨#[],by rw [q];simp⟩⟩
theorem Un.refl:Un fs ex H H h h:=Un.kept fun _ _ q=>q
theorem Un.laid (k:∀ b u,h.get? b=some u->h'.get? b=some u) (hp:h.objs.size<=a) (hn:H a=none):Un fs ex H (upd H a o) h h' where
 keep:=fun b u q _ _ _=>k b u q
 slot:=fun b u q _ _ _=>⟨u.slots,k b u q⟩
 free:=fun b u q n _=>by rw [u18 (Nat.ne_of_lt (Nat.lt_of_lt_of_le (Heap.lt_size q) hp))];exact n
 there:=fun b u q _=>⟨u,k b u q⟩
 tups:=fun b xs q=>by rw [u18 (u50 q hn)];exact q
 frzs:=fun b u xs q=>by rw [u18 (u50 q hn)];exact q
 tbls:=fun b ps q=>⟨#[],by rw [u18 (u50 q hn),q];simp⟩
theorem Un.write (mu:Mut (H x)) (he:e=x \/ H e=some (.own x)) (k:∀ b u,b ≠ e->h.get? b=some u->h'.get? b=some u) (heo:∃ u,h'.get? e=some u):Un fs ex H (upd H x o) h h':=by
 have hx:∀ b,H b=none->b ≠ x:=fun b n z=>by subst z;rw [n] at mu;exact mu
 have hb:∀ b,H b=none->b ≠ e:=fun b n z=>by
  subst z
  rcases he with r | r
  ·exact hx b n r
  ·rw [n] at r;cases r
 have hm:∀ b u,H b=some u->¬ Mut (some u)->b ≠ x:=fun b u q nm z=>by subst z;rw [q] at mu;exact nm mu
 refine ⟨fun b u q n _ _=>k b u (hb b n) q,fun b u q n _ _=>⟨u.slots,k b u (hb b n) q⟩,fun b u q n _=>by rw [u18 (hx b n)];exact n,fun b u q _=>?_,
  fun b xs q=>by rw [u18 (hm b _ q fun z=>z)];exact q,fun b u xs q=>by rw [u18 (hm b _ q fun z=>z)];exact q,fun b ps q=>⟨#[],by rw [u18 (hm b _ q fun z=>z),q];simp⟩⟩
 by_cases hbe:b=e
 ·subst hbe;exact heo
 ·exact ⟨u,k b u hbe q⟩
end
def trk (h:Heap) (H:Hp):List Addr:=(List.range h.objs.size).filter fun a=>(H a).isSome
def hidT (h:Heap) (H:Hp):Heap:=W.hideAll h (trk h H)
theorem v78 (h:Heap) (H:Hp):(hidT h H).objs.size=h.objs.size:=W.hideAll_size _ _
theorem vi9 {h:Heap} {H:Hp} {b:Addr} {o:Obj} (e:h.get? b=some o) (n:H b=none):(hidT h H).get? b=some o :=
 W.hideAll_get _ e fun hm=>by
  have q:(H b).isSome=true:=(List.mem_filter.mp hm).2;rw [n] at q;simp at q
theorem w01 {h:Heap} {H:Hp} {b:Addr} {o:Obj} (e:(hidT h H).get? b=some o):h.get? b=some o /\ H b=none:=by
 have e':h.get? b=some o:=W.of_hideAll (trk h H) e;refine ⟨e',?_⟩;cases q:H b with
 | none=>rfl
 | some x =>
  have hm:b ∈ trk h H:=List.mem_filter.mpr ⟨List.mem_range.mpr (Heap.lt_size e'),by simp [q]⟩;have z:(hidT h H).get? b=none:=W.hideAll_none (trk h H) hm;rw [z] at e;cases e
def w54 (g h:Heap) (L:Addr):List (Addr × Obj):=(List.range h.objs.size).filterMap fun a=>if a=L \/ (g.get? a).isSome=true then none else (h.get? a).map fun o=>(a,o)
def rest (g h:Heap) (L d:Addr):List (Addr × Obj):=(w54 g h L).filter fun p=>decide (p.1 ≠ d)
structure Mod (K:W.Frag) (mg:Str->Option Value) (base:Heap):Prop where
 kin:K.In base
 glob:base.Ns mainGlobals mg
 blt:∃ mb,base.Ns builtinsNs mb /\ ∀ x:Str,x ≠ "__name__" -> mb x=bootBuiltins x
 nolimit:base.NoLimit
/-- the context: a def's body (or a comprehension's block) running. base: fixed through the whole law; s₀,H₀: the entry; outer: the frames whose slots others may change (a def's callers); stack: all frames that run;
   ex: iterators that were made ahead of the entry and are walked here (a comprehension's);fn: the names whose cells were made at the entry (a def: all;a comprehension's block: its own);calm: not within an except suite;pn: pins that every state bears;xe: what is wanted of an exception that leaves the code -/
structure Cx where
 prog:Program
 w:World
 K:W.Frag
 mg:Str->Option Value
 base:Heap
 A:Around
 N:List Str
 s₀:Shared
 H₀:Hp
 env:Env
 outer:List Env
 stack:List Env
 ex:List Addr
 fn:Str->Bool
 calm:Bool
 pn:List (Addr × Obj)
 xe:Value->Shared->Prop
def frs (l:List Env):List Addr:=l.filterMap (·.frame)
abbrev Cx.fs (X:Cx):List Addr:=frs X.outer
def Vis (sc:Scope) (x:Str):Prop:=sc.names.lookup x=some .local \/ sc.names.lookup x=some .cell \/ sc.names.lookup x=some .free
def Loc (sc:Scope) (x:Str):Prop:=sc.names.lookup x=some .local \/ sc.names.lookup x=some .cell
def Look (env:Env) (h:Heap) (m:Str->Option Value) (x:Str) (u:Value):Prop :=
 (env.kindOf x=some .local /\ m x=some u) \/ ((env.kindOf x=some .cell \/ env.kindOf x=some .free) /\ ∃ c,env.cells.lookup x=some c /\ h.IsCell c (some u))
structure Cx.Ok (X:Cx):Prop where
 mod:Mod X.K X.mg X.base
 kind:X.env.scope.kind=.function
 glob:X.env.globals=mainGlobals
 blt:X.env.builtins=builtinsNs
 above:X.s₀.heap.objs.size<=X.env.locals
 inj:∀ x y c,X.env.cells.lookup x=some c->X.env.cells.lookup y=some c->x=y
 has:∀ x,(X.env.kindOf x=some .cell \/ X.env.kindOf x=some .free)->∃ c,X.env.cells.lookup x=some c
 cab:∀ x c,X.fn x=true->X.env.cells.lookup x=some c->X.s₀.heap.objs.size<=c
 hd:X.calm=true->X.A.handled=none
 frames:X.A.frames=some X.stack
 stk:X.stack=X.outer \/ (X.stack=X.env::X.outer /\ X.env.frame=some X.env.locals)
 exf:∀ b ∈ X.ex,b ≠ X.env.locals /\ ∀ x c,X.env.cells.lookup x=some c->c ≠ b
 bs:∀ b o,X.base.get? b=some o->X.s₀.heap.get? b=some o /\ X.H₀ b=none
 bsz:X.base.objs.size<=X.s₀.heap.objs.size
 noex:∀ b o,X.base.get? b=some o->b ∉ X.ex
 exfs:∀ b ∈ X.ex,b ∉ X.fs
 funs:X.s₀.heap.FunFrames X.base X.outer
 frf:∀ b ∈ X.fs,X.H₀ b=none
structure Inv (X:Cx) (pins:List (Addr × Obj)) (σ:List (Option V)) (H:Hp) (s:Shared):Prop where
 ok:X.Ok
 os:s.os=X.s₀.os
 bare:AllBare s.gens
 base:Un X.fs X.ex X.H₀ H X.s₀.heap s.heap
 loc:∃ m,s.heap.Ns X.env.locals m /\ ∀ (i:Nat) (x:Str) (v:V),X.N[i]?=some x->σ[i]?=some (some v)->Vis X.env.scope x->∃ u,RelV v u /\ Look X.env s.heap m x u
 cell:∀ x c,X.env.cells.lookup x=some c->∃ v,s.heap.IsCell c v
 free:H X.env.locals=none
 freeC:∀ x c,X.env.cells.lookup x=some c->H c=none
 pin:∀ p ∈ X.pn++pins,s.heap.get? p.1=some p.2 /\ H p.1=none /\ p.1 ≠ X.env.locals /\ p.1 ∉ X.fs /\ ∀ v,p.2.data ≠ .cell v
 hok:HOk X.prog X.w H s.heap
 len:σ.length=X.N.length
section
variable {X:Cx} {pins:List (Addr × Obj)} {σ:List (Option V)} {H H':Hp} {s:Shared} {h':Heap}
theorem Cx.Ok.nofr (ok:X.Ok) {b:Addr} {o:Obj} (e:X.base.get? b=some o):b ∉ X.fs:=fun hb=>by
 have:=(ok.funs.mem hb).1;rw [e] at this;cases this
theorem Inv.bs (I:Inv X pins σ H s):∀ b o,X.base.get? b=some o->s.heap.get? b=some o /\ H b=none:=fun b o e =>
 ⟨I.base.keep b o (I.ok.bs b o e).1 (I.ok.bs b o e).2 (I.ok.nofr e) (I.ok.noex b o e),I.base.free b o (I.ok.bs b o e).1 (I.ok.bs b o e).2 (I.ok.noex b o e)⟩
theorem Inv.bk (I:Inv X pins σ H s):∀ b o,X.base.get? b=some o->s.heap.get? b=some o:=fun b o e=>(I.bs b o e).1
theorem Inv.mod (I:Inv X pins σ H s):Mod X.K X.mg X.base:=I.ok.mod
theorem Inv.kIn (I:Inv X pins σ H s):X.K.In s.heap:=I.ok.mod.kin.keeps I.bk
theorem Inv.lt (I:Inv X pins σ H s):X.env.locals < s.heap.objs.size:=let ⟨_,hn,_⟩:=I.loc;hn.lt
theorem Inv.sz (I:Inv X pins σ H s):X.s₀.heap.objs.size<=s.heap.objs.size:=Nat.le_trans I.ok.above (Nat.le_of_lt I.lt)
theorem Inv.nofs (I:Inv X pins σ H s) {a:Addr} (h:s.heap.objs.size<=a):a ∉ X.fs:=fun hb=>by
 obtain ⟨_,o,ho,_⟩:=I.ok.funs.mem hb;exact absurd (Nat.lt_of_lt_of_le (Heap.lt_size ho) (Nat.le_trans I.sz h)) (Nat.lt_irrefl _)
theorem Inv.cne (I:Inv X pins σ H s):∀ x c,X.env.cells.lookup x=some c->c ≠ X.env.locals:=fun x c e z=>by
 obtain ⟨v,o,ho,hd⟩:=I.cell x c e;obtain ⟨m,⟨o',es,ep,ho',hd',_⟩,_⟩:=I.loc;rw [z,ho'] at ho;cases ho;rw [hd'] at hd;cases hd
theorem Inv.funs (I:Inv X pins σ H s):s.heap.FunFrames X.base X.outer:=by
 have all:∀ (l:List Env),(∀ b ∈ frs l,b ∈ X.fs)->X.s₀.heap.FunFrames X.base l->s.heap.FunFrames X.base l:=by
  intro l
  induction l with
  | nil=>intro _ _;trivial
  | cons env r ih =>
   intro hs hl;obtain ⟨hk,⟨L,o,hf,hn,ho,hd⟩,hr⟩:=hl;have hL:L ∈ X.fs:=hs L (by unfold frs;rw [List.filterMap_cons,hf];exact List.mem_cons_self);obtain ⟨sl,e⟩:=I.base.slot L o ho (I.ok.frf L hL) hL fun z=>I.ok.exfs L z hL
   exact ⟨hk,⟨L,_,hf,hn,e,hd⟩,ih (fun b hb=>hs b (by unfold frs;rw [List.filterMap_cons,hf];exact List.mem_cons_of_mem _ hb)) hr⟩
 exact all X.outer (fun _ hb=>hb) I.ok.funs
theorem Inv.stack (I:Inv X pins σ H s):s.heap.FunFrames X.base X.stack:=by
 rcases I.ok.stk with e | ⟨e,hf⟩
 ·rw [e];exact I.funs
 ·rw [e]
  obtain ⟨m,hn,_⟩:=I.loc;refine .cons (by rw [I.ok.kind];decide) hf hn ?_ I.funs;exact Heap.get?_none_of_le (Nat.le_trans I.ok.bsz I.ok.above)
theorem Inv.stkSub (I:Inv X pins σ H s):∀ b ∈ frs X.stack,b ∈ X.env.locals::X.fs:=fun b hb=>by
 rcases I.ok.stk with e | ⟨e,hf⟩
 ·rw [e] at hb;exact List.mem_cons_of_mem _ hb
 ·rw [e] at hb
  unfold frs at hb;rw [List.filterMap_cons,hf] at hb;exact hb
theorem Inv.stkFree (I:Inv X pins σ H s):∀ b ∈ frs X.stack,H b=none:=fun b hb=>by
 rcases List.mem_cons.mp (I.stkSub b hb) with e | hb
 ·rw [e];exact I.free
 ·obtain ⟨_,o,ho,_⟩:=I.ok.funs.mem hb
  exact I.base.free b o ho (I.ok.frf b hb) fun z=>I.ok.exfs b z hb
theorem Inv.step {g':Array GenState} {t':Nat} {d':Drawn} {ch:List Addr} (I:Inv X pins σ H s)
  (hch:∀ b ∈ ch,(b ∈ X.ex \/ X.s₀.heap.objs.size<=b) /\ b ≠ X.env.locals /\ (∀ x c,X.env.cells.lookup x=some c->c ≠ b) /\ ∀ p ∈ X.pn++pins,p.1 ≠ b)
  (keep:∀ b o,b ≠ X.env.locals->b ∉ X.fs->b ∉ ch->s.heap.get? b=some o->H b=none->h'.get? b=some o)
  (slot:∀ b o,b ≠ X.env.locals->b ∈ X.fs->b ∉ ch->s.heap.get? b=some o->H b=none->∃ sl,h'.get? b=some { o with slots:=sl }) (free:∀ b o,b ∉ ch->s.heap.get? b=some o->H b=none->H' b=none)
  (there:∀ b o,b ∉ ch->s.heap.get? b=some o->∃ o',h'.get? b=some o')
  (tups:∀ b xs,H b=some (.tup xs)->H' b=some (.tup xs)) (frzs:∀ b o u,H b=some (.frz o u)->H' b=some (.frz o u)) (tbls:∀ b ps,H b=some (.tbl ps)->∃ more,H' b=some (.tbl (ps++more)))
  (ns:∀ m,s.heap.Ns X.env.locals m->h'.Ns X.env.locals m) (hok:HOk X.prog X.w H' h') (hg:AllBare g') :
  Inv X pins σ H' { s with heap:=h',gens:=g',drawn:=d',toks:=t' }:=by
 have neL:∀ b o,X.s₀.heap.get? b=some o->b ≠ X.env.locals:=fun b o e=>Nat.ne_of_lt (Nat.lt_of_lt_of_le (Heap.lt_size e) I.ok.above)
 have neC:∀ b o,X.s₀.heap.get? b=some o->b ∉ X.ex->b ∉ ch:=fun b o e hx hb=>by
  rcases (hch b hb).1 with z | z
  ·exact hx z
  ·exact absurd (Nat.lt_of_lt_of_le (Heap.lt_size e) z) (Nat.lt_irrefl _)
 have cellK:∀ x c,X.env.cells.lookup x=some c->∀ v,s.heap.IsCell c v->h'.IsCell c v:=fun x c e v ⟨o,ho,hd⟩=>by
  have nch:c ∉ ch:=fun z=>(hch c z).2.2.1 x c e rfl
  by_cases hc:c ∈ X.fs
  ·obtain ⟨sl,q⟩:=slot c o (I.cne x c e) hc nch ho (I.freeC x c e)
   exact ⟨_,q,hd⟩
  ·exact ⟨o,keep c o (I.cne x c e) hc nch ho (I.freeC x c e),hd⟩
 refine ⟨I.ok,I.os,hg,⟨fun b o e n hb hx=>?_,fun b o e n hb hx=>?_,fun b o e n hx=>?_,fun b o e hx=>?_,fun b xs e=>tups b xs (I.base.tups b xs e),fun b o xs e=>frzs b o xs (I.base.frzs b o xs e),fun b ps e=>?_⟩,?_,fun x c e=>?_,?_,fun x c e=>?_,fun p hp=>?_,hok,I.len⟩
 ·exact keep b o (neL b o e) hb (neC b o e hx) (I.base.keep b o e n hb hx) (I.base.free b o e n hx)
 ·obtain ⟨sl,e1⟩:=I.base.slot b o e n hb hx
  obtain ⟨sl',e2⟩:=slot b _ (neL b o e) hb (neC b o e hx) e1 (I.base.free b o e n hx);exact ⟨sl',e2⟩
 ·obtain ⟨o',e1⟩:=I.base.there b o e hx
  exact free b o' (neC b o e hx) e1 (I.base.free b o e n hx)
 ·obtain ⟨o',e1⟩:=I.base.there b o e hx
  exact there b o' (neC b o e hx) e1
 ·obtain ⟨m1,e1⟩:=I.base.tbls b ps e
  obtain ⟨m2,e2⟩:=tbls b _ e1;exact ⟨m1++m2,by rw [e2,Array.append_assoc]⟩
 ·obtain ⟨m,hn,hl⟩:=I.loc
  refine ⟨m,ns m hn,fun i x v e1 e2 e3=>?_⟩;obtain ⟨u,r,l⟩:=hl i x v e1 e2 e3;refine ⟨u,r,?_⟩
  rcases l with l | ⟨k,c,e,z⟩
  ·exact .inl l
  ·exact .inr ⟨k,c,e,cellK x c e _ z⟩
 ·obtain ⟨v,z⟩:=I.cell x c e
  exact ⟨v,cellK x c e v z⟩
 ·obtain ⟨m,⟨o,_,_,ho,_⟩,_⟩:=I.loc
  exact free _ o (fun z=>(hch _ z).2.1 rfl) ho I.free
 ·obtain ⟨v,o,ho,hd⟩:=I.cell x c e
  exact free c o (fun z=>(hch c z).2.2.1 x c e rfl) ho (I.freeC x c e)
 ·obtain ⟨e,n,ne,nf,d⟩:=I.pin p hp
  have nch:p.1 ∉ ch:=fun z=>(hch p.1 z).2.2.2 p hp rfl
  exact ⟨keep p.1 p.2 ne nf nch e n,free p.1 p.2 nch e n,ne,nf,d⟩
theorem Inv.un {t':Nat} (I:Inv X pins σ H s) (u:Un X.fs [] H H' s.heap h') (hok:HOk X.prog X.w H' h'):Inv X pins σ H' { s with heap:=h',toks:=t' }:=by
 obtain ⟨m,⟨o,es,ep,ho,r⟩,_⟩:=id I.loc;obtain ⟨sl,hL⟩:=u.any ho I.free (by simp);exact I.step (g':=s.gens) (d':=s.drawn) (ch:=[]) (fun _ z=>nomatch z) (fun b o _ hb _ e n=>u.keep b o e n hb (by simp)) (fun b o _ hb _ e n=>u.slot b o e n hb (by simp)) (fun b o _ e n=>u.free b o e n (by simp)) (fun b o _ e=>u.there b o e (by simp)) u.tups u.frzs u.tbls (fun m' hm=>by
  obtain ⟨o',es',ep',ho',r'⟩:=hm;rw [ho] at ho';cases ho';exact ⟨_,es',ep',hL,r'⟩) hok I.bare
theorem Inv.call {g':Array GenState} {t':Nat} {d':Drawn} {ch:List Addr} (I:Inv X pins σ H s) (u:Un (frs X.stack) ch H H' s.heap h') (hok:HOk X.prog X.w H' h') (hg:AllBare g')
  (hch:∀ b ∈ ch,(b ∈ X.ex \/ X.s₀.heap.objs.size<=b) /\ b ≠ X.env.locals /\ (∀ x c,X.env.cells.lookup x=some c->c ≠ b) /\ ∀ p ∈ X.pn++pins,p.1 ≠ b) :
  Inv X pins σ H' { s with heap:=h',gens:=g',drawn:=d',toks:=t' }:=by
 obtain ⟨m,⟨o,es,ep,ho,r⟩,_⟩:=id I.loc;obtain ⟨sl,hL⟩:=u.any ho I.free fun z=>(hch _ z).2.1 rfl
 exact I.step (ch:=ch) hch (fun b o hL hb hc e n=>u.keep b o e n (fun z=>(List.mem_cons.mp (I.stkSub b z)).elim hL hb) hc) (fun b o _ _ hc e n=>u.any e n hc) (fun b o hc e n=>u.free b o e n hc) (fun b o hc e=>u.there b o e hc) u.tups u.frzs u.tbls (fun m' hm=>by
  obtain ⟨o',es',ep',ho',r'⟩:=hm;rw [ho] at ho';cases ho';exact ⟨_,es',ep',hL,r'⟩) hok hg
theorem Inv.turned {t':Nat} {it:Addr} (I:Inv X pins σ H s) (k:∀ b o,b ≠ it->s.heap.get? b=some o->h'.get? b=some o) (hn:H it=none) (hL:it ≠ X.env.locals)
  (h1:it ∈ X.ex \/ X.s₀.heap.objs.size<=it) (h2:∀ x c,X.env.cells.lookup x=some c->c ≠ it) (h3:∀ p ∈ X.pn++pins,p.1 ≠ it):Inv X pins σ H { s with heap:=h',toks:=t' }:=by
 have nit:∀ b u,H b=some u->b ≠ it:=fun b u e z=>by rw [z,hn] at e;cases e
 refine I.step (g':=s.gens) (d':=s.drawn) (ch:=[it]) (fun b hb=>?_) (fun b o _ _ hc e _=>k b o (fun z=>hc (by simp [z])) e) (fun b o _ _ hc e _=>⟨o.slots,k b o (fun z=>hc (by simp [z])) e⟩) (fun _ _ _ _ n=>n)
  (fun b o hc e=>⟨o,k b o (fun z=>hc (by simp [z])) e⟩) (fun _ _ e=>e) (fun _ _ _ e=>e) (fun b ps e=>⟨#[],by rw [e];simp⟩) (fun m hm=>?_) (fun b u e=>?_) I.bare
 ·have e:b=it:=by simpa using hb
  subst e;exact ⟨h1,hL,h2,h3⟩
 ·obtain ⟨o,es,ep,ho,r⟩:=hm
  exact ⟨o,es,ep,k _ o (Ne.symm hL) ho,r⟩
 ·refine (I.hok b u e).stay (fun c v hc q=>k c v ?_ q) (fun _ q=>q) fun _ _ q=>q
  rcases hc with z | z
  ·rw [z];exact nit b u e
  ·exact nit c _ z
theorem Inv.tok (I:Inv X pins σ H s) (t:Nat):Inv X pins σ H { s with toks:=t }:=I.un (h':=s.heap) (t':=t) Un.refl I.hok
theorem Inv.kept {t':Nat} (I:Inv X pins σ H s) (k:∀ b u,s.heap.get? b=some u->h'.get? b=some u):Inv X pins σ H { s with heap:=h',toks:=t' }:=I.un (Un.kept k) (I.hok.kept k)
theorem Inv.laid {a:Addr} {o:HO} {t':Nat} (I:Inv X pins σ H s) (k:∀ b u,s.heap.get? b=some u->h'.get? b=some u) (hp:s.heap.objs.size<=a) (new:ObjOk X.prog X.w (upd H a o) h' a o) :
  Inv X pins σ (upd H a o) { s with heap:=h',toks:=t' }:=I.un (Un.laid k hp (I.hok.fresh hp)) (I.hok.laid k hp new)
theorem Inv.write {x e:Addr} {o:HO} {t':Nat} (I:Inv X pins σ H s) (mu:Mut (H x)) (he:e=x \/ H e=some (.own x)) (k:∀ b u,b ≠ e->s.heap.get? b=some u->h'.get? b=some u) (heo:∃ u,h'.get? e=some u)
  (new:ObjOk X.prog X.w (upd H x o) h' x o):Inv X pins σ (upd H x o) { s with heap:=h',toks:=t' }:=I.un (Un.write mu he k heo) (I.hok.write mu he k heo new)
theorem Inv.pins_of {pins':List (Addr × Obj)} (I:Inv X pins σ H s) (h:∀ p ∈ pins',s.heap.get? p.1=some p.2 /\ H p.1=none /\ p.1 ≠ X.env.locals /\ p.1 ∉ X.fs /\ ∀ v,p.2.data ≠ .cell v):Inv X pins' σ H s :=
 ⟨I.ok,I.os,I.bare,I.base,I.loc,I.cell,I.free,I.freeC,fun p hp=>(List.mem_append.mp hp).elim (fun z=>I.pin p (List.mem_append_left _ z)) (h p),I.hok,I.len⟩
theorem uv5 {N:List Str} (hN:N.Nodup) {i j:Nat} {x:Str} (a:N[i]?=some x) (b:N[j]?=some x):i=j:=by
 obtain ⟨h1,e1⟩:=List.getElem?_eq_some_iff.mp a;obtain ⟨h2,e2⟩:=List.getElem?_eq_some_iff.mp b;exact (List.getElem_inj hN).mp (e1.trans e2.symm)
theorem um3 {M:Model} {A:Around} {E:Value->Shared->Prop} {i:Nat} {x:Str} {v:V} {u:Value} {Q:Unit->Shared->Prop} (I:Inv X pins σ H s) (hN:X.N.Nodup) (hi:X.N[i]?=some x) (hx:Loc X.env.scope x) (r:RelV v u)
  (h:∀ s',Inv X pins (σ.set i (some v)) H s'->(∃ a,Heap.SameBut a s.heap s'.heap /\ (a=X.env.locals \/ X.env.cells.lookup x=some a))->Q () s') (hf:X.fn x=true \/ X.env.scope.names.lookup x=some .local:=by first | exact .inl rfl | exact .inr rfl | assumption):wpAny M A (storeName X.env x u) Q E s:=by
 obtain ⟨m,hn,hl⟩:=id I.loc;have hcls:(X.env.scope.kind == .class || (X.env.scope.kind == .module && X.env.locals != X.env.globals))=false:=by rw [I.ok.kind];rfl
 have hiσ:i < σ.length:=by rw [I.len];exact (List.getElem?_eq_some_iff.mp hi).1
 have cne:=I.cne;have tracked:∀ {a:Addr} {h':Heap},(∃ o,s.heap.get? a=some o /\ H a=none)->Heap.SameBut a s.heap h'->HOk X.prog X.w H h':=fun {a h'} ha hs b ob e=>by
  obtain ⟨_,_,hfree⟩:=ha;refine (I.hok b ob e).stay (fun c w' hc q=>(hs.2 c ?_).trans q) (fun _ q=>q) fun _ _ q=>q
  rintro rfl
  rcases hc with rfl | hc
  ·rw [hfree] at e;cases e
  ·rw [hfree] at hc;cases hc
 rcases hx with hk | hk
 ·refine wpAny_storeName_local hk hn (fun h' hn' hs=>?_) hcls
  obtain ⟨oL,_,_,hoL,_⟩:=id hn;refine h _ ⟨I.ok,I.os,I.bare,⟨fun b o e n hb hx=>?_,fun b o e n hb hx=>?_,I.base.free,fun b o e hx=>?_,I.base.tups,I.base.frzs,I.base.tbls⟩,⟨_,hn',fun j y v' e1 e2 e3=>?_⟩,fun y c e=>?_,I.free,I.freeC,fun p hp=>?_,tracked ⟨oL,hoL,I.free⟩ hs,by simpa using I.len⟩ ⟨_,hs,.inl rfl⟩
  ·exact (hs.2 b (Nat.ne_of_lt (Nat.lt_of_lt_of_le (Heap.lt_size e) I.ok.above))).trans (I.base.keep b o e n hb hx)
  ·obtain ⟨sl,e1⟩:=I.base.slot b o e n hb hx
   exact ⟨sl,(hs.2 b (Nat.ne_of_lt (Nat.lt_of_lt_of_le (Heap.lt_size e) I.ok.above))).trans e1⟩
  ·obtain ⟨o',e1⟩:=I.base.there b o e hx
   exact ⟨o',(hs.2 b (Nat.ne_of_lt (Nat.lt_of_lt_of_le (Heap.lt_size e) I.ok.above))).trans e1⟩
  ·by_cases hj:j=i
   ·subst hj
    rw [hi] at e1;cases e1;rw [List.getElem?_set_self hiσ] at e2;cases e2;exact ⟨u,r,.inl ⟨hk,by simp⟩⟩
   ·rw [List.getElem?_set_ne (Ne.symm hj)] at e2
    obtain ⟨u',r',q⟩:=hl j y v' e1 e2 e3;refine ⟨u',r',?_⟩
    rcases q with ⟨k,e⟩ | ⟨k,c,e,z⟩
    ·refine .inl ⟨k,?_⟩
     have:y ≠ x:=fun e=>hj (uv5 hN e1 (e ▸ hi))
     simp [this,e]
    ·exact .inr ⟨k,c,e,z.sameBut hs (cne y c e)⟩
  ·obtain ⟨w',z⟩:=I.cell y c e
   exact ⟨w',z.sameBut hs (cne y c e)⟩
  ·obtain ⟨e,n,ne,nf,d⟩:=I.pin p hp
   exact ⟨(hs.2 p.1 ne).trans e,n,ne,nf,d⟩
 ·have hfn:X.fn x=true:=by
   rcases hf with z | z
   ·exact z
   ·rw [z] at hk;cases hk
  obtain ⟨c,hc⟩:=I.ok.has x (.inl hk);obtain ⟨w',z⟩:=I.cell x c hc;refine wpAny_storeName_cell I.ok.kind hk hc z (fun h' hc' hs=>?_);obtain ⟨oc,hoc,hocd⟩:=id z;refine h { s with heap:=h' } ⟨I.ok,I.os,I.bare,⟨fun b o e n hb hx=>?_,fun b o e n hb hx=>?_,I.base.free,fun b o e hx=>?_,I.base.tups,I.base.frzs,I.base.tbls⟩,⟨m,hn.sameBut hs (Ne.symm (cne x c hc)),fun j y v' e1 e2 e3=>?_⟩,fun y c' e=>?_,I.free,I.freeC,fun p hp=>?_,tracked ⟨oc,hoc,I.freeC x c hc⟩ hs,by simpa using I.len⟩ ⟨c,hs,.inr hc⟩
  ·exact (hs.2 b (Nat.ne_of_lt (Nat.lt_of_lt_of_le (Heap.lt_size e) (I.ok.cab x c hfn hc)))).trans (I.base.keep b o e n hb hx)
  ·obtain ⟨sl,e1⟩:=I.base.slot b o e n hb hx
   exact ⟨sl,(hs.2 b (Nat.ne_of_lt (Nat.lt_of_lt_of_le (Heap.lt_size e) (I.ok.cab x c hfn hc)))).trans e1⟩
  ·obtain ⟨o',e1⟩:=I.base.there b o e hx
   exact ⟨o',(hs.2 b (Nat.ne_of_lt (Nat.lt_of_lt_of_le (Heap.lt_size e) (I.ok.cab x c hfn hc)))).trans e1⟩
  ·by_cases hj:j=i
   ·subst hj
    rw [hi] at e1;cases e1;rw [List.getElem?_set_self hiσ] at e2;cases e2;exact ⟨u,r,.inr ⟨.inl hk,c,hc,hc'⟩⟩
   ·rw [List.getElem?_set_ne (Ne.symm hj)] at e2
    obtain ⟨u',r',q⟩:=hl j y v' e1 e2 e3;refine ⟨u',r',?_⟩
    rcases q with q | ⟨k,c',e,z'⟩
    ·exact .inl q
    ·refine .inr ⟨k,c',e,z'.sameBut hs ?_⟩
     rintro rfl;exact hj (uv5 hN e1 (I.ok.inj _ _ _ e hc ▸ hi))
  ·by_cases hcc:c'=c
   ·subst hcc;exact ⟨_,hc'⟩
   ·obtain ⟨w2,z2⟩:=I.cell y c' e
    exact ⟨w2,z2.sameBut hs hcc⟩
  ·obtain ⟨e,n,ne,nf,d⟩:=I.pin p hp
   refine ⟨(hs.2 p.1 ?_).trans e,n,ne,nf,d⟩;intro q;rw [q,hoc] at e;have q':oc=p.2:=Option.some.inj e;exact d w' (by rw [<- q'];exact hocd)
theorem uj6 {M:Model} {A:Around} {E:Value->Shared->Prop} {i:Nat} {x:Str} {v:V} {u:Value} {Q:Unit->Shared->Prop} (I:Inv X pins σ H s) (hN:X.N.Nodup) (hi:X.N[i]?=some x) (hx:Loc X.env.scope x) (r:RelV v u)
  (h:∀ s',Inv X pins (σ.set i (some v)) H s'->Q () s') (hf:X.fn x=true \/ X.env.scope.names.lookup x=some .local:=by first | exact .inl rfl | exact .inr rfl | assumption):wpAny M A (storeName X.env x u) Q E s :=
 um3 I hN hi hx r (fun s' I' _=>h s' I') hf
theorem Inv.call' {s':Shared} {ch:List Addr} (I:Inv X pins σ H s) (ho:s'.os=s.os) (u:Un (frs X.stack) ch H H' s.heap s'.heap) (hok:HOk X.prog X.w H' s'.heap) (hg:AllBare s'.gens)
  (hch:∀ b ∈ ch,(b ∈ X.ex \/ X.s₀.heap.objs.size<=b) /\ b ≠ X.env.locals /\ (∀ x c,X.env.cells.lookup x=some c->c ≠ b) /\ ∀ p ∈ X.pn++pins,p.1 ≠ b):Inv X pins σ H' s':=by
 obtain ⟨h',g',d',t',o'⟩:=s';have e:o'=s.os:=ho;subst e;exact I.call (g':=g') (t':=t') (d':=d') u hok hg hch
end
abbrev XK:=Value->Option Addr->Hp->Prop
abbrev St:=List (Option V)
abbrev VK:=V->Hp->Prop
abbrev TE:=St->Hp->VK->Prop
abbrev TT:=St->Hp->(Bool->Hp->Prop)->Prop
abbrev TA:=St->Hp->(List V->Hp->Prop)->Prop
structure Ends where
 nx:St->Hp->Prop
 rt:VK
 bk:St->Hp->Prop:=fun _ _=>False
 ct:St->Hp->Prop:=fun _ _=>False
abbrev TS:=Ends->St->Hp->Prop
def EP (X:Cx) (pins:List (Addr × Obj)) (σ:St) (Q:VK) (u:Value) (s':Shared):Prop:=∃ v H',Inv X pins σ H' s' /\ RelV v u /\ Q v H'
def TP (X:Cx) (pins:List (Addr × Obj)) (σ:St) (Q:Bool->Hp->Prop) (b:Bool) (s':Shared):Prop:=∃ H',Inv X pins σ H' s' /\ Q b H'
def AP (X:Cx) (pins:List (Addr × Obj)) (σ:St) (Q:List V->Hp->Prop) (us:List Value) (s':Shared):Prop:=∃ vs H',Inv X pins σ H' s' /\ Vals vs us /\ Q vs H'
def SP (X:Cx) (pins:List (Addr × Obj)) (D:Ends) (f:Flow) (s':Shared):Prop :=
 match f with
 | .next=>∃ σ' H',Inv X pins σ' H' s' /\ D.nx σ' H'
 | .brk=>∃ σ' H',Inv X pins σ' H' s' /\ D.bk σ' H'
 | .cont=>∃ σ' H',Inv X pins σ' H' s' /\ D.ct σ' H'
 | .ret u=>∃ v σ' H',Inv X pins σ' H' s' /\ RelV v u /\ D.rt v H'
def PE (X:Cx) (e:Expr) (t:TE):Prop :=
 ∀ (pins:List (Addr × Obj)) (s:Shared) (σ:St) (H:Hp) (Q:VK),Inv X pins σ H s->t σ H Q->wpAny (model X.prog X.w) X.A (eval e X.env) (EP X pins σ Q) X.xe s
def PT (X:Cx) (e:Expr) (t:TT):Prop :=
 ∀ (pins:List (Addr × Obj)) (s:Shared) (σ:St) (H:Hp) (Q:Bool->Hp->Prop),Inv X pins σ H s->t σ H Q->wpAny (model X.prog X.w) X.A (isTrue e X.env (eval e X.env)) (TP X pins σ Q) X.xe s
def PW (X:Cx) (e:Expr) (t:TT):Prop :=
 ∀ (whole:Sem Value) (pins:List (Addr × Obj)) (s:Shared) (σ:St) (H:Hp) (Q:Bool->Hp->Prop),Inv X pins σ H s->t σ H Q->wpAny (model X.prog X.w) X.A (isTrue e X.env whole) (TP X pins σ Q) X.xe s
theorem PW.pt {X:Cx} {e:Expr} {t:TT} (h:PW X e t):PT X e t:=h _
def PA (X:Cx) (es:List Expr) (t:TA):Prop :=
 ∀ (pos:Pos) (pins:List (Addr × Obj)) (s:Shared) (σ:St) (H:Hp) (Q:List V->Hp->Prop),Inv X pins σ H s->t σ H Q->wpAny (model X.prog X.w) X.A (spliced (backTo pos (starEach es X.env))) (AP X pins σ Q) X.xe s
def PS (X:Cx) (st:Stmt) (t:TS):Prop :=
 ∀ (pins:List (Addr × Obj)) (s:Shared) (σ:St) (H:Hp) (D:Ends),Inv X pins σ H s->t D σ H->wpAny (model X.prog X.w) X.A (exec st X.env) (SP X pins D) X.xe s
def PSs (X:Cx) (st:List Stmt) (t:TS):Prop :=
 ∀ (pins:List (Addr × Obj)) (s:Shared) (σ:St) (H:Hp) (D:Ends),Inv X pins σ H s->t D σ H->wpAny (model X.prog X.w) X.A (execs st X.env) (SP X pins D) X.xe s
theorem thn {α:Type} {t:Sem α} {Q Q':α->Shared->Prop} {M:Model} {A:Around} {E:Value->Shared->Prop} {s:Shared} (h:wpAny M A t Q E s) (hQ:∀ a s,Q a s->Q' a s):wpAny M A t Q' E s:=wpAny_mono h hQ fun _ _ x=>x
section
variable {X:Cx}
def tVar (i:Nat):TE:=fun σ H Q=>∃ v,σ[i]?=some (some v) /\ Q v H
def tC (v:V):TE:=fun _ H Q=>Q v H
theorem wc4 {i:Nat} {x:Str} {pos:Pos} (hN:X.N[i]?=some x) (hv:Vis X.env.scope x) (hd:(x == ("__debug__" : Str))=false:=by decide) (hcd:(x == ("__classdict__" : Str))=false:=by decide):PE X (.Name x pos) (tVar i):=by
 intro pins s σ H Q I h;obtain ⟨v,e,h⟩:=h;obtain ⟨m,hn,hl⟩:=I.loc;obtain ⟨u,r,l⟩:=hl i x v hN e hv;have fin:EP X pins σ Q u s:=⟨v,H,I,r,h⟩
 rcases l with ⟨hk,hm⟩ | ⟨hk,c,hc,hcell⟩
 ·exact wpAny_Name (wpAny_loadName_local I.ok.kind hk hn hm fin) hd
 ·rcases hk with hk | hk
  ·exact wpAny_Name (wpAny_loadName_cell I.ok.kind hk hc hcell fin) hd
  ·exact wpAny_Name (wpAny_loadName_free I.ok.kind hk hc hcell fin hcd) hd
theorem wd2 {i j pos}:PE X (.Constant (.int i) j pos) (tC (.int i)):=fun _ _ _ H _ I h=>wpAny_Constant_int ⟨.int i,H,I.tok _,⟨_,rfl⟩,h⟩
theorem wv5 {b j pos}:PE X (.Constant (.bool b) j pos) (tC (.bl b)):=fun _ _ _ H _ I h=>Constant_bool ⟨.bl b,H,I,rfl,h⟩
theorem wd0 {j pos}:PE X (.Constant .none j pos) (tC .non):=fun _ _ _ H _ I h=>Constant_none ⟨.non,H,I,rfl,h⟩
theorem wc7 {x j pos}:PE X (.Constant (.str x) j pos) (tC (.str x)):=fun _ _ _ H _ I h=>Calls.Constant_str ⟨.str x,H,I.tok _,⟨_,rfl⟩,h⟩
def Gl (X:Cx) (x:Str):Prop:=X.env.kindOf x=some .globalImplicit
theorem ur3 {E:Value->Shared->Prop} {pins:List (Addr × Obj)} {s:Shared} {σ:St} {H:Hp} {x:Str} {u:Value} {pos:Pos} {Q:Value->Shared->Prop} (I:Inv X pins σ H s) (hg:Gl X x) (hm:X.mg x=some u) (h:Q u s)
  (hd:(x == ("__debug__" : Str))=false:=by decide):wpAny (model X.prog X.w) X.A (eval (.Name x pos) X.env) Q E s :=
 Calls.Name_function_global I.ok.kind hg (Calls.loadGlobal_global (by rw [I.ok.glob];exact I.mod.glob.keeps I.bk) hm h) hd
theorem u96 {E:Value->Shared->Prop} {pins:List (Addr × Obj)} {s:Shared} {σ:St} {H:Hp} {x:Str} {u:Value} {pos:Pos} {Q:Value->Shared->Prop} (I:Inv X pins σ H s) (hg:Gl X x) (hm:X.mg x=none) (hv:bootBuiltins x=some u) (h:Q u s)
  (hn:x ≠ "__name__" := by decide) (hd:(x == ("__debug__" : Str))=false:=by decide):wpAny (model X.prog X.w) X.A (eval (.Name x pos) X.env) Q E s:=by
 obtain ⟨mb,h1,h2⟩:=I.mod.blt;exact Calls.Name_function_global I.ok.kind hg (Calls.loadGlobal_builtin (by rw [I.ok.glob];exact I.mod.glob.keeps I.bk) hm (by rw [I.ok.blt];exact h1.keeps I.bk) ((h2 x hn).trans hv) h) hd
theorem vz4 {x:Str} {v:V} {u:Value} {pos:Pos} (hg:Gl X x) (hm:X.mg x=some u) (r:RelV v u) (hd:(x == ("__debug__" : Str))=false:=by decide):PE X (.Name x pos) (tC v) :=
 fun _ _ _ H _ I h=>ur3 I hg hm ⟨v,H,I,r,h⟩ hd
theorem vz9 {x:Str} {v:V} {u:Value} {pos:Pos} (hg:Gl X x) (hm:X.mg x=none) (hv:bootBuiltins x=some u) (r:RelV v u) (hn:x ≠ "__name__" := by decide) (hd:(x == ("__debug__" : Str))=false:=by decide):PE X (.Name x pos) (tC v) :=
 fun _ _ _ H _ I h=>u96 I hg hm hv ⟨v,H,I,r,h⟩ hn hd
variable {a b:Expr} {ta tb:TE} {pos:Pos}
def tB (t:TE):TT:=fun σ H Q=>t σ H fun x H1=>∃ c,x=.bl c /\ Q c H1
theorem wb2 {e:Expr} {t:TE} (h:PE X e t) (he:∀ whole,isTrue e X.env whole=(do let v <- whole;standAt e.pos;holding [v] (truthy v)):=by intro _;rfl):PT X e (tB t):=by
 intro pins s σ H Q I hw
 (refine isTrue_plain (thn (h pins s σ H _ I hw) ?_) (he _);rintro v s1 ⟨x,H1,I1,r1,q1⟩)
 obtain ⟨d,rfl,q⟩:=q1;cases r1;exact wpAny_truthy_bool ⟨H1,I1,q⟩
variable {tA tB':TT} {rest:List Expr}
def tAnd (t u:TT):TT:=fun σ H Q=>t σ H fun c H1=>if c=true then u σ H1 Q else Q false H1
def tOr (t u:TT):TT:=fun σ H Q=>t σ H fun c H1=>if c=true then Q true H1 else u σ H1 Q
def tNot (t:TT):TT:=fun σ H Q=>t σ H fun c H1=>Q (!c) H1
theorem vx7 (ha:PT X a tA):PW X (.BoolOp .And [a] pos) tA:=by
 intro wh pins s σ H Q I h;refine isTrue_and (thn (ha pins s σ H Q I h) fun c s1 e=>?_);cases c with
 | true=>exact isTrue_and_nil e
 | false=>exact e
theorem wb0 (ha:PT X a tA):PW X (.BoolOp .Or [a] pos) tA:=by
 intro wh pins s σ H Q I h;refine isTrue_or (thn (ha pins s σ H Q I h) fun c s1 e=>?_);cases c with
 | false=>exact isTrue_or_nil e
 | true=>exact e
theorem wb1 (ha:PT X a tA) (hb:PW X (.BoolOp .And (b::rest) pos) tB'):PW X (.BoolOp .And (a::b::rest) pos) (tAnd tA tB'):=by
 intro wh pins s σ H Q I h
 (refine isTrue_and (thn (ha pins s σ H _ I h) ?_);rintro c s1 ⟨H1,I1,q1⟩)
 cases c with
 | true=>exact hb wh pins s1 σ H1 Q I1 q1
 | false=>exact ⟨H1,I1,q1⟩
theorem wv0 (ha:PT X a tA) (hb:PW X (.BoolOp .Or (b::rest) pos) tB'):PW X (.BoolOp .Or (a::b::rest) pos) (tOr tA tB'):=by
 intro wh pins s σ H Q I h
 (refine isTrue_or (thn (ha pins s σ H _ I h) ?_);rintro c s1 ⟨H1,I1,q1⟩)
 cases c with
 | true=>exact ⟨H1,I1,q1⟩
 | false=>exact hb wh pins s1 σ H1 Q I1 q1
theorem wb3 (ha:PT X a tA):PT X (.UnaryOp .Not a pos) (tNot tA):=by
 intro pins s σ H Q I h;exact isTrue_not (ha pins s σ H (fun c H1=>Q (!c) H1) I h)
def w98 (ta tb:TE):TE:=fun σ H Q=>ta σ H fun x H1=>∃ c,x=.bl c /\ if c=true then tb σ H1 Q else Q (.bl false) H1
def w90 (ta:TE):TE:=fun σ H Q=>ta σ H fun x H1=>∃ c,x=.bl c /\ Q (.bl (!c)) H1
theorem wc8 {op} {t:TE} (h:PE X a t):PE X (.BoolOp op [a] pos) t:=fun pins s σ H Q I hw=>BoolOp_one (h pins s σ H Q I hw)
theorem wd4 (ha:PE X a ta) (hb:PE X (.BoolOp .And (b::rest) pos) tb):PE X (.BoolOp .And (a::b::rest) pos) (w98 ta tb):=by
 intro pins s σ H Q I h
 (refine BoolOp_and (thn (ha pins s σ H _ I h) ?_);rintro v s1 ⟨x,H1,I1,r1,q1⟩)
 obtain ⟨c,rfl,q1⟩:=q1;cases r1;refine wpAny_truthy_bool ?_;cases c with
 | true=>exact hb pins s1 σ H1 Q I1 q1
 | false=>exact ⟨.bl false,H1,I1,rfl,q1⟩
theorem wc9 (ha:PE X a ta):PE X (.UnaryOp .Not a pos) (w90 ta):=by
 intro pins s σ H Q I h
 (refine UnaryOp_ (thn (ha pins s σ H _ I h) ?_);rintro v s1 ⟨x,H1,I1,r1,q1⟩)
 obtain ⟨c,rfl,q1⟩:=q1;cases r1;exact not_of (wpAny_truthy_bool ⟨.bl (!c),H1,I1,rfl,q1⟩)
def tIf (t:TT) (ta tb:TE):TE:=fun σ H Q=>t σ H fun c H1=>if c=true then ta σ H1 Q else tb σ H1 Q
theorem vf7 {c:Expr} (hc:PT X c tA) (ha:PE X a ta) (hb:PE X b tb):PE X (.IfExp c a b pos) (tIf tA ta tb):=by
 intro pins s σ H Q I h
 (refine wpAny_IfExp (thn (hc pins s σ H _ I h) ?_);rintro d s1 ⟨H1,I1,q1⟩)
 cases d with
 | true=>exact ha pins s1 σ H1 Q I1 q1
 | false=>exact hb pins s1 σ H1 Q I1 q1
end
def SqL (K:W.Frag) (H:Hp) (a:Addr) (xs:List V):Prop :=
 Rd H a (.lst xs) \/
  ∃ (o:Obj) (its:Array Value) (n:Nat),K.lookup a=some o /\ o.cls=.type "list" /\ o.dict=none /\ o.data=.seq its n /\ its.size<=sizeLine /\ Vals xs its.toList
def SqT (K:W.Frag) (H:Hp) (a:Addr) (xs:List V):Prop :=
 Rd H a (.tup xs) \/
  ∃ (o:Obj) (its:Array Value) (n:Nat),K.lookup a=some o /\ o.cls=.type "tuple" /\ o.data=.seq its n /\ its.size<=sizeLine /\ Vals xs its.toList /\ o.dict=none
def absV:Value->Option V
 | .none=>some .non
 | .bool b=>some (.bl b)
 | .int i _=>some (.int i)
 | .str x _=>some (.str x)
 | .bytes b _=>some (.byt b)
 | .float b _=>some (.flt b)
 | .ref a=>some (.ref a)
 | .type n=>some (.ty n)
 | _=>none
theorem RelV.abs {x:V} {u:Value} (r:RelV x u):absV u=some x:=by
 cases x with
 | non=>cases r;rfl
 | bl _=>cases r;rfl
 | int _=>obtain ⟨t,rfl⟩:=r;rfl
 | str _=>obtain ⟨t,rfl⟩:=r;rfl
 | byt _=>obtain ⟨t,rfl⟩:=r;rfl
 | flt _=>obtain ⟨t,rfl⟩:=r;rfl
 | ref _=>cases r;rfl
 | ty _=>cases r;rfl
theorem RelV.inj {x y:V} {u:Value} (r:RelV x u) (q:RelV y u):x=y:=Option.some.inj (r.abs.symm.trans q.abs)
theorem Vals.inj:∀ {xs ys:List V} {us:List Value},Vals xs us->Vals ys us->xs=ys
 | _,_,_,.nil,.nil=>rfl
 | _,_,_,.cons r t,.cons r' t'=>by rw [r.inj r',Vals.inj t t']
section
variable {X:Cx} {pins:List (Addr × Obj)} {σ:St} {H:Hp} {s:Shared} {a:Addr} {xs ys:List V}
theorem SqT.of {K:W.Frag} (h:H a=some (.tup xs)):SqT K H a xs:=.inl (.inl h)
theorem Inv.list (I:Inv X pins σ H s) (h:SqL X.K H a xs):∃ its:List Value,Vals xs its /\ PlainL s.heap a its.toArray /\ xs.length<=sizeLine:=by
 rcases h with h | ⟨o,its,n,hk,hc,hd,hs,hz,r⟩
 ·obtain ⟨z,its,n,r,e⟩:=h.ok I.hok
  exact ⟨its,r,⟨_,n,e,rfl,rfl,rfl⟩,z⟩
 ·refine ⟨its.toList,r,⟨o,n,I.kIn a o hk,hc,hd,by simpa using hs⟩,?_⟩
  have e:=r.length;simp only [Array.length_toList] at e;omega
theorem Inv.tupleD (I:Inv X pins σ H s) (h:SqT X.K H a xs):∃ o,s.heap.get? a=some o /\ o.dict=none:=by
 rcases h with h | ⟨o,its,n,hk,hc,hs,hz,r,hd⟩
 ·obtain ⟨z,its,r,o,e,_,_,d⟩:=h.ok I.hok
  exact ⟨o,e,d⟩
 ·exact ⟨o,I.kIn a o hk,hd⟩
theorem Inv.tuple (I:Inv X pins σ H s) (h:SqT X.K H a xs):∃ its:List Value,Vals xs its /\ IsTup s.heap a its.toArray /\ xs.length<=sizeLine:=by
 rcases h with h | ⟨o,its,n,hk,hc,hs,hz,r,_⟩
 ·obtain ⟨z,its,r,p⟩:=h.ok I.hok
  exact ⟨its,r,p.tup,z⟩
 ·refine ⟨its.toList,r,⟨o,I.kIn a o hk,hc,n,by simpa using hs⟩,?_⟩
  have e:=r.length;simp only [Array.length_toList] at e;omega
theorem Inv.list_inj (I:Inv X pins σ H s) (h:SqL X.K H a xs) (h':SqL X.K H a ys):xs=ys:=by
 obtain ⟨its,r,⟨o,n,e,_,_,d⟩,_⟩:=I.list h;obtain ⟨its',r',⟨o',n',e',_,_,d'⟩,_⟩:=I.list h';rw [e] at e';cases e';rw [d] at d';injection d' with d1 _
 have:its=its':=by simpa using congrArg Array.toList d1
 subst this;exact r.inj r'
theorem Inv.tuple_inj (I:Inv X pins σ H s) (h:SqT X.K H a xs) (h':SqT X.K H a ys):xs=ys:=by
 obtain ⟨its,r,⟨o,e,_,n,d⟩,_⟩:=I.tuple h;obtain ⟨its',r',⟨o',e',_,n',d'⟩,_⟩:=I.tuple h';rw [e] at e';cases e';rw [d] at d';injection d' with d1 _
 have:its=its':=by simpa using congrArg Array.toList d1
 subst this;exact r.inj r'
end
abbrev Cx.wish (X:Cx) (E:Value->Shared->Prop):Cx:={ X with xe:=E }
abbrev Cx.nox (X:Cx):Cx:=X.wish fun _ _=>False
theorem Cx.Ok.wish {X:Cx} (ok:X.Ok) (E:Value->Shared->Prop):(X.wish E).Ok :=
 ⟨ok.mod,ok.kind,ok.glob,ok.blt,ok.above,ok.inj,ok.has,ok.cab,ok.hd,ok.frames,ok.stk,ok.exf,ok.bs,ok.bsz,ok.noex,ok.exfs,ok.funs,ok.frf⟩
theorem Cx.Ok.unwish {X:Cx} {E:Value->Shared->Prop} (ok:(X.wish E).Ok):X.Ok :=
 ⟨ok.mod,ok.kind,ok.glob,ok.blt,ok.above,ok.inj,ok.has,ok.cab,ok.hd,ok.frames,ok.stk,ok.exf,ok.bs,ok.bsz,ok.noex,ok.exfs,ok.funs,ok.frf⟩
section
variable {X:Cx} {pins:List (Addr × Obj)} {σ:St} {H:Hp} {s:Shared} {E:Value->Shared->Prop}
theorem Inv.wish (I:Inv X pins σ H s) (E:Value->Shared->Prop):Inv (X.wish E) pins σ H s:=⟨I.ok.wish E,I.os,I.bare,I.base,I.loc,I.cell,I.free,I.freeC,I.pin,I.hok,I.len⟩
theorem Inv.unwish (I:Inv (X.wish E) pins σ H s):Inv X pins σ H s:=⟨I.ok.unwish,I.os,I.bare,I.base,I.loc,I.cell,I.free,I.freeC,I.pin,I.hok,I.len⟩
theorem SP.unwish {D:Ends} {f:Flow} {s':Shared} (h:SP (X.wish E) pins D f s'):SP X pins D f s':=by
 cases f with
 | next=>obtain ⟨σ',H',I,q⟩:=h;exact ⟨σ',H',I.unwish,q⟩
 | brk=>obtain ⟨σ',H',I,q⟩:=h;exact ⟨σ',H',I.unwish,q⟩
 | cont=>obtain ⟨σ',H',I,q⟩:=h;exact ⟨σ',H',I.unwish,q⟩
 | ret u=>obtain ⟨v,σ',H',I,r,q⟩:=h;exact ⟨v,σ',H',I.unwish,r,q⟩
theorem PSs.nox {st:List Stmt} {t:TS} (h:PSs X.nox st t):PSs X st t:=fun pins s σ H D I hw =>
 wpAny_mono (h pins s σ H D (I.wish _) hw) (fun _ _ q=>q.unwish) fun _ _ z=>False.elim z
end
section
variable {X:Cx} {st:Stmt} {rest:List Stmt} {t u:TS} {e:Expr} {te:TE} {pos:Pos}
def w91:TS:=fun D σ H=>D.nx σ H
def tSeq (t u:TS):TS:=fun D σ H=>t { D with nx:=u D } σ H
theorem vy1:PSs X [] w91:=fun _ _ σ H _ I h=>wpAny_execs_nil ⟨σ,H,I,h⟩
theorem ve7 (h1:PS X st t) (h2:PSs X rest u):PSs X (st::rest) (tSeq t u):=by
 intro pins s σ H D I h;refine wpAny_execs_cons (thn (h1 pins s σ H { D with nx:=u D } I h) fun f s1 q=>?_);cases f with
 | next =>
  obtain ⟨σ',H',I',q⟩:=q;exact h2 pins s1 σ' H' D I' q
 | ret v=>exact q
 | brk=>exact q
 | cont=>exact q
theorem vy0 (h1:PS X st t):PSs X [st] t:=by
 intro pins s σ H D I h;refine wpAny_execs_cons (thn (h1 pins s σ H D I h) fun f s1 q=>?_);cases f with
 | next=>exact wpAny_execs_nil q
 | ret v=>exact q
 | brk=>exact q
 | cont=>exact q
theorem Inv.quiet {pins:List (Addr × Obj)} {σ:St} {H:Hp} {s:Shared} (I:Inv X pins σ H s):interactive X.env=false:=by simp [interactive,I.ok.kind]
def w94 (te:TE):TS:=fun D σ H=>te σ H fun _ H1=>D.nx σ H1
theorem vy4 (he:PE X e te) (hs:swapsWith e none pos.line X.env=pure false:=by rfl):PS X (.Expr e pos) (w94 te):=by
 intro pins s σ H D I h
 (refine wpAny_Expr_any (thn (he pins s σ H _ I h) ?_) I.quiet hs;rintro v s1 ⟨x,H1,I1,r1,q1⟩;exact ⟨σ,H1,I1,q1⟩)
def tRet (te:TE):TS:=fun D σ H=>te σ H D.rt
theorem wb5 (he:PE X e te):PS X (.Return (some e) pos) (tRet te):=by
 intro pins s σ H D I h
 (refine wpAny_Return_some (thn (he pins s σ H _ I h) ?_);rintro v s1 ⟨x,H1,I1,r1,q1⟩;exact ⟨x,σ,H1,I1,r1,q1⟩)
def w88:TS:=fun D _ H=>D.rt .non H
theorem vy3:PS X (.Return none pos) w88:=fun _ _ σ H _ I h=>wpAny_Return_none ⟨.non,σ,H,I,rfl,h⟩
def tIfS (c:TT) (t u:TS):TS:=fun D σ H=>c σ H fun b H1=>if b=true then t D σ H1 else u D σ H1
theorem wv1 {c:Expr} {a b:List Stmt} {tc:TT} (hc:PT X c tc) (ha:PSs X a t) (hb:PSs X b u):PS X (.If c a b pos) (tIfS tc t u):=by
 intro pins s σ H D I h
 (refine wpAny_If (thn (hc pins s σ H _ I h) ?_);rintro d s1 ⟨H1,I1,q1⟩)
 cases d with
 | true=>exact ha pins s1 σ H1 D I1 q1
 | false=>exact hb pins s1 σ H1 D I1 q1
def w92:TS:=fun _ _ _=>False
theorem ve9:PS X st w92:=fun _ _ _ _ _ _ h=>h.elim
end
abbrev TG:=V->St->Hp->(St->Hp->Prop)->Prop
abbrev TGs:=List V->St->Hp->(St->Hp->Prop)->Prop
def PG (X:Cx) (target:Expr) (t:TG):Prop :=
 ∀ (pins:List (Addr × Obj)) (s:Shared) (σ:St) (H:Hp) (v:V) (u:Value) (Q:St->Hp->Prop),Inv X pins σ H s->RelV v u->t v σ H Q ->
  wpAny (model X.prog X.w) X.A (assign target X.env u) (fun _ s'=>∃ σ' H',Inv X pins σ' H' s' /\ Q σ' H') X.xe s
def PGs (X:Cx) (ts:List Expr) (t:TGs):Prop :=
 ∀ (pins:List (Addr × Obj)) (s:Shared) (σ:St) (H:Hp) (vs:List V) (us:List Value) (Q:St->Hp->Prop),Inv X pins σ H s->Vals vs us->t vs σ H Q ->
  wpAny (model X.prog X.w) X.A (assignInOrder ((assignEach ts X.env).map (·.2)) us) (fun _ s'=>∃ σ' H',Inv X pins σ' H' s' /\ Q σ' H') X.xe s
abbrev TSet:=V->V->V->Hp->(Hp->Prop)->Prop
def PSet (X:Cx) (t:TSet):Prop :=
 ∀ (pins:List (Addr × Obj)) (s:Shared) (σ:St) (H:Hp) (o i v:V) (ov iv u:Value) (Q:Hp->Prop),Inv X pins σ H s->RelV o ov->RelV i iv->RelV v u->t o i v H Q ->
  wpAny (model X.prog X.w) X.A (setItem ov iv u) (fun _ s'=>∃ H',Inv X pins σ H' s' /\ Q H') X.xe s
abbrev TIp:=V->V->Hp->VK->Prop
def PIp (X:Cx) (op:Operator) (t:TIp):Prop :=
 ∀ (pins:List (Addr × Obj)) (s:Shared) (σ:St) (H:Hp) (x y:V) (v u:Value) (Q:VK),Inv X pins σ H s->RelV x v->RelV y u->t x y H Q ->
  wpAny (model X.prog X.w) X.A (inplaceOp op v u) (EP X pins σ Q) X.xe s
section
variable {X:Cx} {pos:Pos}
def w28 (i:Nat):TG:=fun v σ H Q=>Q (σ.set i (some v)) H
theorem vz0 {i:Nat} {x:Str} (hN:X.N.Nodup) (hi:X.N[i]?=some x) (hx:Loc X.env.scope x) (hf:X.fn x=true \/ X.env.scope.names.lookup x=some .local:=by first | exact .inl rfl | exact .inr rfl | assumption):PG X (.Name x pos) (w28 i):=by
 intro pins s σ H v u Q I r h;exact wpAny_assign_Name (uj6 I hN hi hx r (fun s' I'=>⟨_,H,I',h⟩) hf)
def gNil:TGs:=fun vs σ H Q=>vs=[] /\ Q σ H
def wn5 (t:TG) (u:TGs):TGs:=fun vs σ H Q=>∃ v r,vs=v::r /\ t v σ H fun σ' H'=>u r σ' H' Q
theorem vy9:PGs X [] gNil:=by
 intro pins s σ H vs us Q I r h;obtain ⟨e,h⟩:=h;subst e;cases r;exact assignInOrder_nil ⟨σ,H,I,h⟩
theorem vf4 {e:Expr} {es:List Expr} {t:TG} {u:TGs} (h1:PG X e t) (h2:PGs X es u)
  (hs:(assignEach (e::es) X.env).map (·.2)=assign e X.env::(assignEach es X.env).map (·.2):=by rfl):PGs X (e::es) (wn5 t u):=by
 intro pins s σ H vs us Q I r h;obtain ⟨v,vr,e1,h⟩:=h;subst e1;cases r with
 | cons r rr =>
  rw [hs]
  (refine assignInOrder_cons (thn (h1 pins s σ H _ _ _ I r h) ?_);rintro _ s1 ⟨σ1,H1,I1,q1⟩)
  exact h2 pins s1 σ1 H1 _ _ Q I1 rr q1
def gTup (K:W.Frag) (n:Nat) (t:TGs):TG:=fun v σ H Q=>∃ a xs,v=.ref a /\ SqT K H a xs /\ xs.length=n /\ t xs σ H Q
theorem wc2 {es:List Expr} {k:Nat} {t:TGs} {n:Nat} (hc:X.calm=true) (h:PGs X es t)
  (hn:(assignEach es X.env).length=n:=by rfl) (hst:(assignEach es X.env).findIdx? (·.1)=none:=by rfl):PG X (.Tuple es k pos) (gTup X.K n t):=by
 intro pins s σ H v u Q I r hw;obtain ⟨a,xs,e1,hq,hl,hw⟩:=hw;subst e1;cases r;obtain ⟨its,rv,ht,hz⟩:=I.tuple hq;refine assign_Tuple_tuple (I.ok.hd hc) ht (by simp [hn,<- hl,rv.length]) hst fun h' hx=>?_
 have I1:Inv X pins σ H { s with heap:=h' }:=I.kept (t':=s.toks) fun b o e=>hx b o (Nat.ne_of_lt (Heap.lt_size e)) e
 exact h pins _ σ H xs _ Q I1 (by simpa using rv) hw
def gSub (to ti:TE) (t:TSet):TG:=fun v σ H Q=>to σ H fun o H1=>ti σ H1 fun i H2=>t o i v H2 fun H3=>Q σ H3
theorem wc3 {o i:Expr} {to ti:TE} {t:TSet} (ho:PE X o to) (hi:PE X i ti) (hs:PSet X t)
  (ha:∀ v,assign (.Subscript o i pos) X.env v=(do
   let ov <- holding [v] (eval o X.env)
   let iv <- holding [v,ov] (eval i X.env)
   standAt pos
   holding [v,ov,iv] (setItem ov iv v)
   release [v,ov,iv] []):=by intro _;rfl):PG X (.Subscript o i pos) (gSub to ti t):=by
 intro pins s σ H v u Q I r h;rw [ha]
 (refine wpAny_bind (wpAny_holding (thn (ho pins s σ H _ I h) ?_));rintro ov s1 ⟨x,H1,I1,r1,q1⟩)
 (refine wpAny_bind (wpAny_holding (thn (hi pins s1 σ H1 _ I1 q1) ?_));rintro iv s2 ⟨y,H2,I2,r2,q2⟩)
 (refine wpAny_bind (wpAny_standAt (wpAny_bind (wpAny_holding (thn (hs pins s2 σ H2 x y v ov iv u _ I2 r1 r2 r q2) ?_))));rintro _ s3 ⟨H3,I3,q3⟩)
 exact wpAny_release ⟨σ,H3,I3,q3⟩
def tAsg (te:TE) (g:TG):TS:=fun D σ H=>te σ H fun x H1=>g x σ H1 D.nx
theorem wb9 {tg e:Expr} {te:TE} {g:TG} (he:PE X e te) (hg:PG X tg g) (hs:swapsWithSole [tg] e pos.line X.env=pure false:=by rfl) (hw:swappedStores [tg] e X.env=pure none:=by rfl)
  (h1:(assignEach [tg] X.env).map (·.2)=[assign tg X.env]:=by rfl):PS X (.Assign [tg] e pos) (tAsg te g):=by
 intro pins s σ H D I h
 (refine wpAny_Assign_stores (thn (he pins s σ H _ I h) ?_) hs hw;rintro v s1 ⟨x,H1,I1,r1,q1⟩)
 rw [h1];exact thn (hg pins s1 σ H1 x v _ I1 r1 q1) fun _ s2 q=>q
theorem wb4 {i:Nat} {x:Str} {e:Expr} {te:TE} {pos':Pos} (hN:X.N.Nodup) (hi:X.N[i]?=some x) (hx:Loc X.env.scope x) (he:PE X e te) (hs:swapsWith e (some (.Name x pos')) pos.line X.env=pure false:=by rfl) (hf:X.fn x=true \/ X.env.scope.names.lookup x=some .local:=by first | exact .inl rfl | exact .inr rfl | assumption) :
  PS X (.Assign [.Name x pos'] e pos) (tAsg te (w28 i)):=by
 intro pins s σ H D I h
 (refine wpAny_Assign_Name (thn (he pins s σ H _ I h) ?_) hs;rintro v s1 ⟨y,H1,I1,r1,q1⟩)
 exact uj6 I1 hN hi hx r1 (fun s2 I2=>⟨_,H1,I2,q1⟩) hf
def tAug (i:Nat) (te:TE) (ti:TIp):TS:=fun D σ H=>∃ x,σ[i]?=some (some x) /\ te σ H fun y H1=>ti x y H1 fun z H2=>D.nx (σ.set i (some z)) H2
theorem wb8 {i:Nat} {x:Str} {e:Expr} {te:TE} {op:Operator} {ti:TIp} {pos':Pos} (hN:X.N.Nodup) (hi:X.N[i]?=some x) (hx:Loc X.env.scope x) (he:PE X e te) (ho:PIp X op ti) (hf:X.fn x=true \/ X.env.scope.names.lookup x=some .local:=by first | exact .inl rfl | exact .inr rfl | assumption) :
  PS X (.AugAssign (.Name x pos') op e pos) (tAug i te ti):=by
 intro pins s σ H D I h;obtain ⟨v,e1,h⟩:=h;obtain ⟨m,hn,hl⟩:=I.loc;have vis:Vis X.env.scope x:=by rcases hx with k | k;exact .inl k;exact .inr (.inl k)
 obtain ⟨u,r,l⟩:=hl i x v hi e1 vis;refine wpAny_AugAssign_Name ?_;have go:wpAny (model X.prog X.w) X.A (eval e X.env) (fun w s₂=>wpAny (model X.prog X.w) X.A (inplaceOp op u w) (fun r s₃=>wpAny (model X.prog X.w) X.A (storeName X.env x r) (fun _=>SP X pins D .next) X.xe s₃) X.xe s₂) X.xe s:=by
  (refine thn (he pins s σ H _ I h) ?_;rintro w s1 ⟨y,H1,I1,r1,q1⟩)
  (refine thn (ho pins s1 σ H1 v y u w _ I1 r r1 q1) ?_;rintro z s2 ⟨zv,H2,I2,r2,q2⟩)
  exact uj6 I2 hN hi hx r2 (fun s3 I3=>⟨_,H2,I3,q2⟩) hf
 rcases l with ⟨hk,hm⟩ | ⟨hk,c,hc,hcell⟩
 ·exact wpAny_loadName_local I.ok.kind hk hn hm go
 ·rcases hk with hk | hk
  ·exact wpAny_loadName_cell I.ok.kind hk hc hcell go
  ·rcases hx with k | k
   ·have:X.env.scope.names.lookup x=some .free:=hk
    rw [k] at this;cases this
   ·have:X.env.scope.names.lookup x=some .free:=hk
    rw [k] at this;cases this
end
section
variable {X:Cx} {pos:Pos}
def vl9 (c:TT) (tb:TS):TS:=fun D σ H=>∃ W:Nat->St->Hp->Prop,(∃ m,W m σ H) /\ ∀ m σ H,W m σ H ->
 c σ H fun b H1=>if b=true then ∃ N:St->Hp->Prop,(∀ σ' H',N σ' H'->∃ m',m' < m /\ W m' σ' H') /\ tb { D with nx:=N,ct:=N,bk:=D.nx } σ H1 else D.nx σ H1
theorem ve8 {c:Expr} {body:List Stmt} {tc:TT} {tb:TS} (hp:PassesOwn (model X.prog X.w) X.A X.env X.xe) (hc:PT X c tc) (hb:PSs X body tb):PS X (.While c body [] pos) (vl9 tc tb):=by
 intro pins s σ H D I h;obtain ⟨W,⟨m0,w0⟩,turn⟩:=h;refine wpAny_While (codeAny_whileLoop (fun n s'=>∃ σ' H',Inv X pins σ' H' s' /\ W n σ' H') ?_ m0 ⟨σ,H,I,w0⟩);rintro n s1 ⟨σ1,H1,I1,w1⟩
 (refine wpAny_passesOwn hp (thn (hc pins s1 σ1 H1 _ I1 (turn n σ1 H1 w1)) ?_);rintro b s2 ⟨H2,I2,q2⟩)
 cases b with
 | true =>
  obtain ⟨N,hN,q2⟩:=q2;rw [if_pos rfl];refine wpAny_passesOwn hp (thn (hb pins s2 σ1 H2 _ I2 q2) fun f s3 q3=>?_);cases f with
  | next =>
   obtain ⟨σ3,H3,I3,n3⟩:=q3;obtain ⟨m',hm,w3⟩:=hN σ3 H3 n3;exact ⟨m',hm,σ3,H3,I3,w3⟩
  | cont =>
   obtain ⟨σ3,H3,I3,n3⟩:=q3;obtain ⟨m',hm,w3⟩:=hN σ3 H3 n3;exact ⟨m',hm,σ3,H3,I3,w3⟩
  | brk=>exact q3
  | ret v=>exact q3
 | false =>
  rw [if_neg Bool.false_ne_true];exact wpAny_execs_nil ⟨σ1,H2,I2,q2⟩
end
structure It where
 go:Nat->Hp->Prop
 yld:Nat->Hp->V->Hp->Prop
 stop:Nat->Hp->Prop
def FpOk (X:Cx) (pins:List (Addr × Obj)) (H:Hp) (b:Addr):Prop :=
 H b=none /\ b ≠ X.env.locals /\ b ∉ X.fs /\ (b ∈ X.ex \/ X.s₀.heap.objs.size<=b) /\ (∀ x c,X.env.cells.lookup x=some c->c ≠ b) /\ ∀ p ∈ X.pn++pins,p.1 ≠ b
theorem Inv.fpOk {X:Cx} {pins:List (Addr × Obj)} {σ:St} {H H':Hp} {s:Shared} {b:Addr} (I:Inv X pins σ H s) (hb:s.heap.objs.size<=b) (hn:H' b=none):FpOk X pins H' b:=by
 refine ⟨hn,Nat.ne_of_gt (Nat.lt_of_lt_of_le I.lt hb),I.nofs hb,.inr (Nat.le_trans I.sz hb),fun x c e z=>?_,fun p hp z=>?_⟩
 ·obtain ⟨v,q⟩:=I.cell x c e
  exact absurd (Nat.lt_of_lt_of_le q.lt (by rw [z];exact hb)) (Nat.lt_irrefl _)
 ·exact absurd (Nat.lt_of_lt_of_le (Heap.lt_size (I.pin p hp).1) (by rw [z];exact hb)) (Nat.lt_irrefl _)
structure Turn (P:Program) (w:World) (K:W.Frag) (tg:Expr) (J:It) (fp:List Addr) (it:Addr) (tn:Nat->Heap->Prop):Prop where
 mem:it ∈ fp
 obj:∀ i h,tn i h->∀ b ∈ fp,∃ o,h.get? b=some o /\ ∀ v,o.data ≠ .cell v
 keep:∀ i h h',tn i h->(∀ b ∈ fp,∀ o,h.get? b=some o->h'.get? b=some o)->tn i h'
 item:∀ (X:Cx),X.prog=P->X.w=w->X.K=K->X.calm=true->∀ (i:Nat) (pins:List (Addr × Obj)) (s:Shared) (σ:St) (H:Hp) (E:Value->Shared->Prop),Inv X pins σ H s->(∀ b ∈ fp,FpOk X pins H b)->tn i s.heap->J.go i H ->
  wpAny (model P w) X.A (pyNext (.ref it)) (fun r s1=>∃ u,r=some u /\
   wpAny (model P w) X.A (letOwnedTupleGo tg (.ref it) u) (fun _ s2=>∃ x H',Inv X pins σ H' s2 /\ RelV x u /\ J.yld i H x H' /\ tn (i+1) s2.heap /\ ∀ b ∈ fp,H' b=none) E s1) E s
 done:∀ (X:Cx),X.prog=P->X.w=w->X.K=K->X.calm=true->∀ (i:Nat) (pins:List (Addr × Obj)) (s:Shared) (σ:St) (H:Hp) (E:Value->Shared->Prop),Inv X pins σ H s->(∀ b ∈ fp,FpOk X pins H b)->tn i s.heap->J.stop i H ->
  wpAny (model P w) X.A (pyNext (.ref it)) (fun r s1=>r=none /\ Inv X pins σ H s1) E s
 self:∀ (A:Around) (i:Nat) (s:Shared) (Q:Value->Shared->Prop) (E:Value->Shared->Prop),tn i s.heap->Q (.ref it) s->wpAny (model P w) A (pyIter (.ref it)) Q E s
abbrev TI:=St->Hp->(It->Hp->Prop)->Prop
def PIE (X:Cx) (pins:List (Addr × Obj)) (σ:St) (tg:Expr) (R:It->Hp->Prop) (itv:Value) (s2:Shared):Prop :=
 ∃ (it:Addr) (fp:List Addr) (tn:Nat->Heap->Prop) (J:It) (H':Hp),itv=.ref it /\ Inv X pins σ H' s2 /\ Turn X.prog X.w X.K tg J fp it tn /\ tn 0 s2.heap /\ (∀ b ∈ fp,FpOk X pins H' b) /\ R J H'
def PI (X:Cx) (tg iter:Expr) (wi:TI):Prop :=
 ∀ (pins:List (Addr × Obj)) (s:Shared) (σ:St) (H:Hp) (R:It->Hp->Prop),Inv X pins σ H s->wi σ H R ->
  wpAny (model X.prog X.w) X.A (eval iter X.env) (fun v s1=>wpAny (model X.prog X.w) X.A (pyIter v) (PIE X pins σ tg R) X.xe s1) X.xe s
theorem vj1 {M : Model} {A : Around} {E : Value -> Shared -> Prop} {s : Shared} {tg : Expr} {it : Addr} {u : Value} {o : Obj} {n : String} {vs : Array Value} {Q : Unit -> Shared -> Prop} (ho : s.heap.get? it = some o) (hc : o.cls = .type n) (hd : o.data = .fields vs)
    (hn:["enumerate", "zip", "dict_itemiterator", "dict_reverseitemiterator", "odict_iterator", "itertools.zip_longest", "itertools.pairwise"].contains n=false) (hQ:Q () s):wpAny M A (letOwnedTupleGo tg (.ref it) u) Q E s:=by
  unfold letOwnedTupleGo;cases tg <;> first
    | exact wpAny_pure hQ
    | (cases u <;> first
        | exact wpAny_pure hQ
        | (refine wpAny_bind (wpAny_load ho ?_)
           rw [hc,hd]
           show wpAny M A (if (["enumerate", "zip", "dict_itemiterator", "dict_reverseitemiterator", "odict_iterator", "itertools.zip_longest", "itertools.pairwise"].contains n && vs[0]? == some (rawInt _))=true then _ else _) Q E s
           rw [if_neg (by intro h;rw [hn,Bool.false_and] at h;cases h)];exact wpAny_pure hQ))
def Itl (K:W.Frag) (a:Addr):It :=
 ⟨fun i H=>∃ xs x,SqL K H a xs /\ xs[i]?=some x,fun i H x H'=>H'=H /\ ∀ xs,SqL K H a xs->xs[i]?=some x,fun i H=>∃ xs,SqL K H a xs /\ xs.length<=i⟩
def Itt (K:W.Frag) (a:Addr):It :=
 ⟨fun i H=>∃ xs x,SqT K H a xs /\ xs[i]?=some x,fun i H x H'=>H'=H /\ ∀ xs,SqT K H a xs->xs[i]?=some x,fun i H=>∃ xs,SqT K H a xs /\ xs.length<=i⟩
def Itr (lo:Int) (n:Nat):It:=⟨fun i _=>i < n,fun i H x H'=>H'=H /\ x=.int (lo+i),fun i _=>n<=i⟩
theorem v17 {P:Program} {w:World} {K:W.Frag} {tg:Expr} (a it:Addr):Turn P w K tg (Itl K a) [it] it (fun i h=>h.IsListIter it a i) where
 mem:=by simp
 obj:=fun i h st b hb=>by
  have e:b=it:=by simpa using hb
  subst e;obtain ⟨o,e,c,d⟩:=st;exact ⟨o,e,fun v z=>by rw [d] at z;cases z⟩
 keep:=fun i h h' st k=>st.at fun o e=>k it (by simp) o e
 item:=by
  intro X hP hw hK hc i pins s σ H E I hf st hg;subst hP hw hK;obtain ⟨xs,x,hq,hx⟩:=hg;obtain ⟨its,rv,p,hz⟩:=I.list hq;obtain ⟨u,hu,ru⟩:=rv.get hx;obtain ⟨f0,f1,f2,f3,f4,f5⟩:=hf it (by simp);refine wpAny_pyNext_list_item st p.isList (x:=u) (by simpa using hu) fun h' st' sb=>?_
  have I1:Inv X pins σ H { s with heap:=h' }:=I.turned (t':=s.toks) (fun b o hb e=>(sb.2 b hb).trans e) f0 f1 f3 f4 f5
  obtain ⟨o,e,c,d⟩:=id st';exact ⟨u,rfl,vj1 (s:={ s with heap:=h' }) e c d (by decide) ⟨x,H,I1,ru,⟨rfl,fun ys hy=>by rw [I.list_inj hy hq];exact hx⟩,st',fun b hb=>(hf b hb).1⟩⟩
 done:=by
  intro X hP hw hK hc i pins s σ H E I hf st hg;subst hP hw hK;obtain ⟨xs,hq,hx⟩:=hg;obtain ⟨its,rv,p,hz⟩:=I.list hq;obtain ⟨f0,f1,f2,f3,f4,f5⟩:=hf it (by simp);have hl:=rv.length;exact wpAny_pyNext_list_end (I.ok.hd hc) st p.isList (by simp;omega) fun h' eb=>⟨rfl,I.turned (t':=s.toks) (fun b o hb e=>eb b o hb e) f0 f1 f3 f4 f5⟩
 self:=fun _ _ _ _ _ st h=>wpAny_pyIter_listiter st h
theorem ux8 {P:Program} {w:World} {K:W.Frag} {tg:Expr} (a it:Addr):Turn P w K tg (Itt K a) [it] it (fun i h=>h.IsTupleIter it a i) where
 mem:=by simp
 obj:=fun i h st b hb=>by
  have e:b=it:=by simpa using hb
  subst e;obtain ⟨o,e,c,d⟩:=st;exact ⟨o,e,fun v z=>by rw [d] at z;cases z⟩
 keep:=fun i h h' st k=>st.at fun o e=>k it (by simp) o e
 item:=by
  intro X hP hw hK hc i pins s σ H E I hf st hg;subst hP hw hK;obtain ⟨xs,x,hq,hx⟩:=hg;obtain ⟨its,rv,p,hz⟩:=I.tuple hq;obtain ⟨u,hu,ru⟩:=rv.get hx;obtain ⟨f0,f1,f2,f3,f4,f5⟩:=hf it (by simp);refine wpAny_pyNext_tuple_item st (show s.heap.IsTuple a its.toArray from p) (x:=u) (by simpa using hu) fun h' st' sb=>?_
  have I1:Inv X pins σ H { s with heap:=h' }:=I.turned (t':=s.toks) (fun b o hb e=>(sb.2 b hb).trans e) f0 f1 f3 f4 f5
  obtain ⟨o,e,c,d⟩:=id st';exact ⟨u,rfl,vj1 (s:={ s with heap:=h' }) e c d (by decide) ⟨x,H,I1,ru,⟨rfl,fun ys hy=>by rw [I.tuple_inj hy hq];exact hx⟩,st',fun b hb=>(hf b hb).1⟩⟩
 done:=by
  intro X hP hw hK hc i pins s σ H E I hf st hg;subst hP hw hK;obtain ⟨xs,hq,hx⟩:=hg;obtain ⟨its,rv,p,hz⟩:=I.tuple hq;obtain ⟨f0,f1,f2,f3,f4,f5⟩:=hf it (by simp);have hl:=rv.length;exact wpAny_pyNext_tuple_end (I.ok.hd hc) st (show s.heap.IsTuple a its.toArray from p) (by simp;omega) fun h' eb=>⟨rfl,I.turned (t':=s.toks) (fun b o hb e=>eb b o hb e) f0 f1 f3 f4 f5⟩
 self:=fun _ _ _ _ _ st h=>wpAny_pyIter_tupleiter st h
theorem ux9 {P:Program} {w:World} {K:PySem.W.Frag} {tg:Expr} (it:Addr) (lo:Int) (n:Nat):Turn P w K tg (Itr lo n) [it] it (fun i h=>IsRangeIter h it (lo+(i:Nat) * 1) ((n:Int) - (i:Nat)) 1) where
 mem:=by simp
 obj:=fun i h st b hb=>by
  have e:b=it:=by simpa using hb
  subst e;exact ⟨_,st,fun v z=>by
   have z':Data.fields _=Data.cell v:=z;cases z'⟩
 keep:=fun i h h' st k=>k it (by simp) _ st
 item:=by
  intro X hP hw hK hc i pins s σ H E I hf st hg;subst hP hw hK;obtain ⟨f0,f1,f2,f3,f4,f5⟩:=hf it (by simp);have W:=Walks.range (prog:=X.prog) (w:=X.w) (I.ok.hd hc) it lo 1 n;refine W.item i s _ _ hg st fun v h' tk hv st' kk=>?_
  obtain ⟨t,rfl⟩:=hv;have I1:Inv X pins σ H { s with heap:=h',toks:=tk }:=I.turned (fun b o hb e=>kk b o (by simpa using hb) e) f0 f1 f3 f4 f5
  refine ⟨_,rfl,vj1 (s:={ s with heap:=h',toks:=tk }) (n := "range_iterator") st' rfl rfl (by decide) ⟨.int (lo+i),H,I1,⟨t,?_⟩,⟨rfl,rfl⟩,st',fun b hb=>(hf b hb).1⟩⟩;rw [Int.mul_one]
 done:=by
  intro X hP hw hK hc i pins s σ H E I hf st hg;subst hP hw hK;obtain ⟨f0,f1,f2,f3,f4,f5⟩:=hf it (by simp);exact wpAny_pyNext_range_end (I.ok.hd hc) st (by have:n<=i:=hg;omega) fun h' eb=>⟨rfl,I.turned (t':=s.toks) (fun b o hb e=>eb b o hb e) f0 f1 f3 f4 f5⟩
 self:=fun _ _ _ _ _ st h=>wpAny_pyIter_rangeiter st h
section
variable {X:Cx} {tg:Expr}
theorem ve5 {pins:List (Addr × Obj)} {σ:St} {H:Hp} {s:Shared} {R:It->Hp->Prop} {E:Value->Shared->Prop} {lo hi:Int} {t u v:Tok} {tk:Nat} (I:Inv X pins σ H s) (h1:-(2 ^ 62)<=lo) (h2:lo < 2 ^ 62) (h3:-(2 ^ 62)<=hi) (h4:hi < 2 ^ 62)
  (q:R (Itr lo (hi - lo).toNat) H):wpAny (model X.prog X.w) X.A (pyIter (.ref s.heap.objs.size)) (PIE X pins σ tg R) E { s with heap:=s.heap.push { cls:=.type "range",data:=.fields #[.int lo t,.int hi u,.int 1 v] },toks:=tk }:=by
 refine wpAny_pyIter_range (IsRange.new ..) (small_one h1 h2 h3 h4) ?_;have I1:Inv X pins σ H { s with heap:=s.heap.push { cls:=.type "range",data:=.fields #[.int lo t,.int hi u,.int 1 v] },toks:=tk }:=I.kept fun b o e=>Heap.get?_push_of_some _ e
 refine ⟨(s.heap.push { cls:=.type "range",data:=.fields #[.int lo t,.int hi u,.int 1 v] }).objs.size,[(s.heap.push { cls:=.type "range",data:=.fields #[.int lo t,.int hi u,.int 1 v] }).objs.size],_,_,H,rfl,
  I1.kept (t':=tk) fun b o e=>Heap.get?_push_of_some _ e,ux9 _ lo (hi - lo).toNat,?_,fun b hb=>?_,q⟩
 ·have e1:lo+((0:Nat):Int) * 1=lo:=by simp
  have e2:(((hi - lo).toNat:Nat):Int) - ((0:Nat):Int)=Builtin.Range.rangeSize lo hi 1:=by rw [rangeSize_one];split <;> omega
  show IsRangeIter _ _ (lo+((0:Nat):Int) * 1) ((((hi - lo).toNat:Nat):Int) - ((0:Nat):Int)) 1
  rw [e1,e2];exact Heap.get?_push_size _ rfl
 ·have e:b=(s.heap.push { cls:=.type "range",data:=.fields #[.int lo t,.int hi u,.int 1 v] }).objs.size:=by simpa using hb
  subst e;exact I1.fpOk (Nat.le_refl _) (I1.hok.fresh (Nat.le_refl _))
def wn1 (ta:TA):TI:=fun σ H R=>ta σ H fun vs H1=>∃ j:Int,vs=[.int j] /\ -(2 ^ 62)<=j /\ j < 2 ^ 62 /\ R (Itr 0 j.toNat) H1
theorem v46 {a:Expr} {ta:TA} {p pos:Pos} (hg:Gl X "range") (hm:X.mg "range" = none) (ha:PA X [a] ta) (hs:starEach [a] X.env=[(false,eval a X.env)]:=by rfl):PI X tg (.Call (.Name "range" p) [a] [] pos) (wn1 ta):=by
 intro pins s σ H R I h
 (refine Call_ (u96 I hg hm boot_range (PyProof.Rows.callWith_type1 (thn (ha pos pins s σ H _ I h) ?_) hs rfl));rintro us s1 ⟨vs,H1,I1,r1,q1⟩)
 obtain ⟨j,e,q1,q2,q⟩:=q1;subst e;cases r1 with
 | cons r rr =>
  cases rr;obtain ⟨t,rfl⟩:=r;exact call_range_1 (ve5 I1 (by omega) (by omega) q1 q2 (by simpa using q))
def tFor (wi:TI) (g:TG) (tb:TS):TS:=fun D σ H=>wi σ H fun J H1=>∃ W:Nat->Nat->St->Hp->Prop,(∃ m,W 0 m σ H1) /\ ∀ i m σ H,W i m σ H ->
 (J.stop i H /\ D.nx σ H) \/ (J.go i H /\ ∃ N:St->Hp->Prop,(∀ σ' H',N σ' H'->∃ m',m' < m /\ W (i+1) m' σ' H') /\ ∀ x H',J.yld i H x H'->g x σ H' fun σ2 H2=>tb { D with nx:=N,ct:=N,bk:=D.nx } σ2 H2)
def un7 (fp:List Addr) (h:Heap):List (Addr × Obj):=fp.filterMap fun b=>(h.get? b).map fun o=>(b,o)
theorem u91 {fp:List Addr} {h:Heap} {b:Addr} {o:Obj} (hb:b ∈ fp) (e:h.get? b=some o):(b,o) ∈ un7 fp h:=List.mem_filterMap.mpr ⟨b,hb,by rw [e];rfl⟩
theorem v52 {fp:List Addr} {h:Heap} {p:Addr × Obj} (hp:p ∈ un7 fp h):p.1 ∈ fp /\ h.get? p.1=some p.2:=by
 obtain ⟨b,hb,e⟩:=List.mem_filterMap.mp hp;cases q:h.get? b with
 | none=>rw [q] at e;cases e
 | some o =>
  rw [q] at e;have e':(b,o)=p:=Option.some.inj e;subst e';exact ⟨hb,q⟩
theorem Inv.pinned {pins:List (Addr × Obj)} {σ:St} {H:Hp} {s:Shared} {fp:List Addr} (I:Inv X pins σ H s) (hf:∀ b ∈ fp,FpOk X pins H b) (ho:∀ b ∈ fp,∃ o,s.heap.get? b=some o /\ ∀ v,o.data ≠ .cell v):Inv X (pins++un7 fp s.heap) σ H s :=
 I.pins_of fun p hp=>(List.mem_append.mp hp).elim (fun z=>I.pin p (List.mem_append_right _ z)) fun z=>by
  obtain ⟨hb,e⟩:=v52 z;obtain ⟨f0,f1,f2,_⟩:=hf p.1 hb;obtain ⟨o,e',d⟩:=ho p.1 hb;rw [e] at e';cases e';exact ⟨e,f0,f1,f2,d⟩
theorem Inv.unpinned {pins pl:List (Addr × Obj)} {σ:St} {H:Hp} {s:Shared} (I:Inv X (pins++pl) σ H s):Inv X pins σ H s:=I.pins_of fun p hp=>I.pin p (List.mem_append_right _ (List.mem_append_left _ hp))
theorem wb6 {iter:Expr} {body:List Stmt} {wi:TI} {g:TG} {tb:TS} {pos:Pos} (hp:PassesOwn (model X.prog X.w) X.A X.env X.xe) (hc:X.calm=true) (hi:PI X tg iter wi) (hg:PG X tg g) (hb:PSs X body tb)
  (hs:∀ x,foldedSetIterable iter X.env x=pure x:=by intro _;rfl):PS X (.For tg iter body [] pos) (tFor wi g tb):=by
 intro pins s σ H D I h;refine wpAny_For (thn (hi pins s σ H _ I h) fun v s1 h1=>thn h1 fun itv s2 h2=>?_) hs;obtain ⟨it,fp,tn,J,H2,e,I2,T,st2,f2,W,⟨m0,w0⟩,turn⟩:=h2;subst e;have stat:∀ {H':Hp},(∀ b ∈ fp,H' b=none)->∀ b ∈ fp,FpOk X pins H' b:=fun hn b hb=>⟨hn b hb,(f2 b hb).2⟩
 refine codeAny_forLoop_any (fun n s'=>∃ i σ' H',Inv X pins σ' H' s' /\ tn i s'.heap /\ (∀ b ∈ fp,H' b=none) /\ W i n σ' H') ?_ m0 ⟨0,σ,H2,I2,st2,fun b hb=>(f2 b hb).1,w0⟩;rintro n s3 ⟨i,σ3,H3,I3,st3,fr3,w3⟩
 rcases turn i n σ3 H3 w3 with ⟨stop,qn⟩ | ⟨go,N,hN,step⟩
 ·(refine wpAny_passesOwn hp (thn (T.done X rfl rfl rfl hc i pins s3 σ3 H3 X.xe I3 (stat fr3) st3 stop) ?_);rintro r s4 ⟨hr,I4⟩)
  subst hr;exact wpAny_execs_nil ⟨σ3,H3,I4,qn⟩
 ·(refine wpAny_passesOwn hp (thn (T.item X rfl rfl rfl hc i pins s3 σ3 H3 X.xe I3 (stat fr3) st3 go) ?_);rintro r s4 ⟨u,hr,h4⟩)
  subst hr
  (refine wpAny_passesOwn hp (thn h4 ?_);rintro _ s5 ⟨x,H5,I5,r5,y5,st5,fr5⟩)
  have I5':=I5.pinned (stat fr5) (T.obj _ _ st5)
  (refine wpAny_passesOwn hp (thn (hg _ s5 σ3 H5 x u _ I5' r5 (step x H5 y5)) ?_);rintro _ s6 ⟨σ6,H6,I6,q6⟩)
  refine wpAny_passesOwn hp (thn (hb _ s6 σ6 H6 _ I6 q6) fun f s7 q7=>?_);have again:∀ {σ7:St} {H7:Hp},Inv X (pins++un7 fp s5.heap) σ7 H7 s7->N σ7 H7->∃ m,m < n /\ ∃ i σ' H',Inv X pins σ' H' s7 /\ tn i s7.heap /\ (∀ b ∈ fp,H' b=none) /\ W i m σ' H':=fun {σ7 H7} I7 n7=>by
   obtain ⟨m',hm,w7⟩:=hN σ7 H7 n7;refine ⟨m',hm,i+1,σ7,H7,I7.unpinned,T.keep _ _ _ st5 fun b hb o e=>(I7.pin (b,o) (List.mem_append_right _ (List.mem_append_right _ (u91 hb e)))).1,fun b hb=>?_,w7⟩;obtain ⟨o,e,d⟩:=T.obj _ _ st5 b hb;exact (I7.pin (b,o) (List.mem_append_right _ (List.mem_append_right _ (u91 hb e)))).2.1
  cases f with
  | next=>obtain ⟨σ7,H7,I7,n7⟩:=q7;exact again I7 n7
  | cont=>obtain ⟨σ7,H7,I7,n7⟩:=q7;exact again I7 n7
  | brk=>obtain ⟨σ7,H7,I7,q7⟩:=q7;exact ⟨σ7,H7,I7.unpinned,q7⟩
  | ret v=>obtain ⟨x7,σ7,H7,I7,r7,q7⟩:=q7;exact ⟨x7,σ7,H7,I7.unpinned,r7,q7⟩
end
abbrev R2:=V->V->Hp->VK->Prop
def OpR (X:Cx) (f:Value->Value->Sem Value) (r:R2):Prop :=
 ∀ (pins:List (Addr × Obj)) (s:Shared) (σ:St) (H:Hp) (x y:V) (v u:Value) (Q:VK),Inv X pins σ H s->RelV x v->RelV y u->r x y H Q ->
  wpAny (model X.prog X.w) X.A (f v u) (EP X pins σ Q) X.xe s
def CallR (X:Cx) (f:Value) (r:List V->Hp->VK->Prop):Prop :=
 ∀ (pins:List (Addr × Obj)) (s:Shared) (σ:St) (H:Hp) (xs:List V) (us:List Value) (Q:VK),Inv X pins σ H s->Vals xs us->r xs H Q ->
  wpAny (model X.prog X.w) X.A (call f us) (EP X pins σ Q) X.xe s
def tOp (r:R2) (ta tb:TE):TE:=fun σ H Q=>ta σ H fun x H1=>tb σ H1 fun y H2=>r x y H2 Q
def rI (C:Int->Int->Prop) (g:Int->Int->V):R2:=fun x y H Q=>∃ i j,x=.int i /\ y=.int j /\ C i j /\ Q (g i j) H
def rI0 (g:Int->Int->V):R2:=fun x y H Q=>∃ i j,x=.int i /\ y=.int j /\ Q (g i j) H
section
variable {X:Cx} {a b c:Expr} {ta tb tc:TE} {pos:Pos}
theorem binT (ha:PE X a ta) (hb:PE X b tb) {pins:List (Addr × Obj)} {s:Shared} {σ:St} {H:Hp} {R:V->V->Hp->Prop} (I:Inv X pins σ H s)
  (h:ta σ H fun x H1=>tb σ H1 fun y H2=>R x y H2) {Q:Value->Shared->Prop} {f:Value->Value->Sem Value}
  (hf:∀ v u s2 x y H2,Inv X pins σ H2 s2->RelV x v->RelV y u->R x y H2->wpAny (model X.prog X.w) X.A (f v u) Q X.xe s2) :
  wpAny (model X.prog X.w) X.A (eval a X.env) (fun v s₁=>wpAny (model X.prog X.w) X.A (eval b X.env) (fun u s₂=>wpAny (model X.prog X.w) X.A (f v u) Q X.xe s₂) X.xe s₁) X.xe s:=by
 (refine thn (ha pins s σ H _ I h) ?_;rintro v s1 ⟨x,H1,I1,r1,q1⟩)
 (refine thn (hb pins s1 σ H1 _ I1 q1) ?_;rintro u s2 ⟨y,H2,I2,r2,q2⟩)
 exact hf v u s2 x y H2 I2 r1 r2 q2
theorem wv3 {op:Operator} {r:R2} (ho:OpR X (binaryOp op) r) (ha:PE X a ta) (hb:PE X b tb):PE X (.BinOp a op b pos) (tOp r ta tb):=by
 intro pins s σ H Q I h;exact wpAny_BinOp (binT ha hb I h fun v u s2 x y H2 I2 rx ry q=>ho pins s2 σ H2 x y v u Q I2 rx ry q)
theorem opI {f:Value->Value->Sem Value} {C:Int->Int->Prop} {g:Int->Int->Int}
  (rule:∀ (i j:Int) (t u:Tok) (s:Shared) (Q:Value->Shared->Prop) (E:Value->Shared->Prop),C i j->Q (.int (g i j) s.toks) { s with toks:=s.toks+1 }->wpAny (model X.prog X.w) X.A (f (.int i t) (.int j u)) Q E s) :
  OpR X f (rI C fun i j=>.int (g i j)):=by
 intro pins s σ H x y v u Q I rx ry h;obtain ⟨i,j,rfl,rfl,hc,q⟩:=h;obtain ⟨t,rfl⟩:=rx;obtain ⟨t',rfl⟩:=ry;exact rule i j t t' s _ _ hc ⟨.int (g i j),H,I.tok _,⟨_,rfl⟩,q⟩
theorem opI0 {f:Value->Value->Sem Value} {g:Int->Int->Int}
  (rule:∀ (i j:Int) (t u:Tok) (s:Shared) (Q:Value->Shared->Prop) (E:Value->Shared->Prop),Q (.int (g i j) s.toks) { s with toks:=s.toks+1 }->wpAny (model X.prog X.w) X.A (f (.int i t) (.int j u)) Q E s) :
  OpR X f (rI0 fun i j=>.int (g i j)):=by
 intro pins s σ H x y v u Q I rx ry h;obtain ⟨i,j,rfl,rfl,q⟩:=h;obtain ⟨t,rfl⟩:=rx;obtain ⟨t',rfl⟩:=ry;exact rule i j t t' s _ _ ⟨.int (g i j),H,I.tok _,⟨_,rfl⟩,q⟩
theorem opB0 {f:Value->Value->Sem Value} {g:Int->Int->Bool}
  (rule:∀ (i j:Int) (t u:Tok) (s:Shared) (Q:Value->Shared->Prop) (E:Value->Shared->Prop),Q (.bool (g i j)) s->wpAny (model X.prog X.w) X.A (f (.int i t) (.int j u)) Q E s) :
  OpR X f (rI0 fun i j=>.bl (g i j)):=by
 intro pins s σ H x y v u Q I rx ry h;obtain ⟨i,j,rfl,rfl,q⟩:=h;obtain ⟨t,rfl⟩:=rx;obtain ⟨t',rfl⟩:=ry;exact rule i j t t' s _ _ ⟨.bl (g i j),H,I,rfl,q⟩
def CDiv (i j:Int):Prop:=0 < j /\ j < 1073741824
def CPow (i j:Int):Prop:=0<=j /\ j<=1000000 /\ i.natAbs < 2 ^ 64
def CMul (i j:Int):Prop:=(-(2 ^ 64) < i /\ i < 2 ^ 64) \/ (-(2 ^ 64) < j /\ j < 2 ^ 64)
theorem CMul.ok {i j:Int} (h:CMul i j):IntMulOk i j:=by
 rcases h with ⟨h1,h2⟩ | ⟨h1,h2⟩
 ·exact .of_left (intBits_le_64 h1 h2)
 ·exact .of_right (intBits_le_64 h1 h2)
theorem ux7 (k:Nat):(0:Int)<=2 ^ k:=by
 rw [two_pow_cast];exact Int.natCast_nonneg _
theorem op_add:OpR X (binaryOp .Add) (rI0 fun i j=>.int (i+j)):=opI0 fun _ _ _ _ _ _ _ q=>add_int q
theorem wd8:OpR X (binaryOp .Sub) (rI0 fun i j=>.int (i - j)):=opI0 fun _ _ _ _ _ _ _ q=>sub_int q
theorem op_mul:OpR X (binaryOp .Mult) (rI CMul fun i j=>.int (i * j)):=opI fun _ _ _ _ _ _ _ hc q=>mul_int q hc.ok
theorem ww0:OpR X (binaryOp .FloorDiv) (rI CDiv fun i j=>.int (i / j)):=opI fun i j _ _ _ _ _ hc q=>by
 have h1:(0:Int) < j:=hc.1;have h2:j < 1073741824:=hc.2;exact floordiv_int (by omega) (by rw [Int.fdiv_eq_ediv_of_nonneg i (by omega)];exact q) (.inl (PyProof.noPylong_small (by omega)))
theorem we4:OpR X (binaryOp .Mod) (rI (fun _ j=>0 < j) fun i j=>.int (i % j)):=opI fun i j _ _ _ _ _ hc q=>by
 have h1:(0:Int) < j:=hc;exact mod_int' (by omega) (by rw [Int.fmod_eq_emod_of_nonneg i (by omega)];exact q)
theorem we2:OpR X (binaryOp .Pow) (rI CPow fun i j=>.int (i ^ j.toNat)):=opI fun _ _ _ _ _ _ _ hc q=>pow_int_small hc.1 hc.2.1 hc.2.2 q
theorem we0:OpR X (binaryOp .LShift) (rI CPow fun i j=>.int (i * 2 ^ j.toNat)):=opI fun _ _ _ _ _ _ _ hc q=>lshift_int_small hc.1 hc.2.1 hc.2.2 q
theorem wd9:OpR X (binaryOp .RShift) (rI (fun _ j=>0<=j) fun i j=>.int (i / 2 ^ j.toNat)):=opI fun i j _ _ _ _ _ hc q =>
 rshift_int hc (by rw [Int.fdiv_eq_ediv_of_nonneg i (ux7 _)];exact q)
theorem we7:OpR X (binaryOp .BitAnd) (rI0 fun i j=>.int (Builtin.bitAnd i j)):=opI0 fun _ _ _ _ _ _ _ q=>and_int q
theorem wv7:OpR X (binaryOp .BitOr) (rI0 fun i j=>.int (Builtin.bitOr i j)):=opI0 fun _ _ _ _ _ _ _ q=>or_int q
theorem wd7:OpR X (binaryOp .BitXor) (rI0 fun i j=>.int (Builtin.bitXor i j)):=opI0 fun _ _ _ _ _ _ _ q=>xor_int q
theorem w24:OpR X (inplaceOp .Add) (rI0 fun i j=>.int (i+j)):=opI0 fun _ _ _ _ _ _ _ q=>iadd_int q
end
def scal:V->V->Bool
 | .non,.non=>true | .non,.int _=>true | .int _,.non=>true | .non,.bl _=>true | .bl _,.non=>true | .non,.str _=>true | .str _,.non=>true
 | .int _,.int _=>true | .bl _,.bl _=>true | .str _,.str _=>true | .byt _,.byt _=>true
 | .int _,.str _=>true | .str _,.int _=>true | .bl _,.str _=>true | .str _,.bl _=>true
 | _,_=>false
def rEq:R2:=fun x y H Q=>scal x y=true /\ Q (.bl (decide (x=y))) H
def rNe:R2:=fun x y H Q=>scal x y=true /\ Q (.bl (!decide (x=y))) H
theorem v92 {i j:Int}:decide (V.int i=V.int j)=(i == j):=by
 rw [Bool.eq_iff_iff];simp
theorem vq1 {i j:Bool}:decide (V.bl i=V.bl j)=(i == j):=by
 rw [Bool.eq_iff_iff];simp
theorem v91 {i j:Str}:decide (V.str i=V.str j)=(i == j):=by
 rw [Bool.eq_iff_iff];simp
theorem v93 {i j:Array UInt8}:decide (V.byt i=V.byt j)=(i.toList == j.toList):=by
 rw [Bool.eq_iff_iff];cases i;cases j;simp
section
variable {X:Cx} {a b c:Expr} {ta tb tc:TE} {pos:Pos}
theorem u31 {pins:List (Addr × Obj)} {σ:St} {H:Hp} {s:Shared} {Q:VK} {k k':Bool} (I:Inv X pins σ H s) (q:Q (.bl k) H) (e:k=k'):EP X pins σ Q (.bool k') s:=by
 subst e;exact ⟨.bl k,H,I,rfl,q⟩
theorem op_eq:OpR X (compareOp .Eq) rEq:=by
 intro pins s σ H x y v u Q I rx ry h;obtain ⟨hs,q⟩:=h;cases x with
 | non =>
  cases rx;cases y with
  | non=>cases ry;exact PySem.EqNone.eq_none_none (u31 I q (by simp))
  | bl j=>cases ry;exact PySem.EqNone.eq_none_bool (u31 I q (by simp))
  | int j=>obtain ⟨t',rfl⟩:=ry;exact PySem.EqNone.eq_none_int (u31 I q (by simp))
  | str j=>obtain ⟨t',rfl⟩:=ry;exact PySem.EqNone.eq_none_str (u31 I q (by simp))
  | _=>exact absurd (show false=true from hs) Bool.false_ne_true
 | bl i =>
  cases rx;cases y with
  | non=>cases ry;exact PySem.EqNone.eq_bool_none (u31 I q (by simp))
  | bl j=>cases ry;exact eq_bool (u31 I q vq1)
  | str j=>obtain ⟨t',rfl⟩:=ry;exact PySem.EqMixed.eq_bool_str (u31 I q (by simp))
  | _=>exact absurd (show false=true from hs) Bool.false_ne_true
 | int i =>
  obtain ⟨t,rfl⟩:=rx;cases y with
  | non=>cases ry;exact PySem.EqNone.eq_int_none (u31 I q (by simp))
  | int j=>obtain ⟨t',rfl⟩:=ry;exact eq_int (u31 I q v92)
  | str j=>obtain ⟨t',rfl⟩:=ry;exact PySem.EqMixed.eq_int_str (u31 I q (by simp))
  | _=>exact absurd (show false=true from hs) Bool.false_ne_true
 | str i =>
  obtain ⟨t,rfl⟩:=rx;cases y with
  | non=>cases ry;exact PySem.EqNone.eq_str_none (u31 I q (by simp))
  | bl j=>cases ry;exact PySem.EqMixed.eq_str_bool (u31 I q (by simp))
  | int j=>obtain ⟨t',rfl⟩:=ry;exact PySem.EqMixed.eq_str_int (u31 I q (by simp))
  | str j=>obtain ⟨t',rfl⟩:=ry;exact eq_str (u31 I q v91)
  | _=>exact absurd (show false=true from hs) Bool.false_ne_true
 | byt i =>
  obtain ⟨t,rfl⟩:=rx;cases y with
  | byt j=>obtain ⟨t',rfl⟩:=ry;exact W.eq_bytes (u31 I q v93)
  | _=>exact absurd (show false=true from hs) Bool.false_ne_true
 | _=>cases y <;> exact absurd (show false=true from hs) Bool.false_ne_true
theorem op_ne:OpR X (compareOp .NotEq) rNe:=by
 intro pins s σ H x y v u Q I rx ry h;obtain ⟨hs,q⟩:=h;cases x with
 | non =>
  cases rx;cases y with
  | non=>cases ry;exact PySem.EqNone.ne_none_none (u31 I q (by simp))
  | bl j=>cases ry;exact PySem.EqNone.ne_none_bool (u31 I q (by simp))
  | int j=>obtain ⟨t',rfl⟩:=ry;exact PySem.EqNone.ne_none_int (u31 I q (by simp))
  | str j=>obtain ⟨t',rfl⟩:=ry;exact PySem.EqNone.ne_none_str (u31 I q (by simp))
  | _=>exact absurd (show false=true from hs) Bool.false_ne_true
 | bl i =>
  cases rx;cases y with
  | non=>cases ry;exact PySem.EqNone.ne_bool_none (u31 I q (by simp))
  | bl j=>cases ry;exact ne_bool (u31 I q (congrArg not vq1))
  | str j=>obtain ⟨t',rfl⟩:=ry;exact PySem.EqMixed.ne_bool_str (u31 I q (by simp))
  | _=>exact absurd (show false=true from hs) Bool.false_ne_true
 | int i =>
  obtain ⟨t,rfl⟩:=rx;cases y with
  | non=>cases ry;exact PySem.EqNone.ne_int_none (u31 I q (by simp))
  | int j=>obtain ⟨t',rfl⟩:=ry;exact ne_int (u31 I q (congrArg not v92))
  | str j=>obtain ⟨t',rfl⟩:=ry;exact PySem.EqMixed.ne_int_str (u31 I q (by simp))
  | _=>exact absurd (show false=true from hs) Bool.false_ne_true
 | str i =>
  obtain ⟨t,rfl⟩:=rx;cases y with
  | non=>cases ry;exact PySem.EqNone.ne_str_none (u31 I q (by simp))
  | bl j=>cases ry;exact PySem.EqMixed.ne_str_bool (u31 I q (by simp))
  | int j=>obtain ⟨t',rfl⟩:=ry;exact PySem.EqMixed.ne_str_int (u31 I q (by simp))
  | str j=>obtain ⟨t',rfl⟩:=ry;exact ne_str (u31 I q (congrArg not v91))
  | _=>exact absurd (show false=true from hs) Bool.false_ne_true
 | byt i =>
  obtain ⟨t,rfl⟩:=rx;cases y with
  | byt j=>obtain ⟨t',rfl⟩:=ry;exact W.ne_bytes (u31 I q (congrArg not v93))
  | _=>exact absurd (show false=true from hs) Bool.false_ne_true
 | _=>cases y <;> exact absurd (show false=true from hs) Bool.false_ne_true
theorem op_lt:OpR X (compareOp .Lt) (rI0 fun i j=>.bl (decide (i < j))):=opB0 fun _ _ _ _ _ _ _ q=>lt_int q
theorem wv8:OpR X (compareOp .Gt) (rI0 fun i j=>.bl (decide (j < i))):=opB0 fun _ _ _ _ _ _ _ q=>gt_int q
theorem wv9:OpR X (compareOp .GtE) (rI0 fun i j=>.bl (decide (j<=i))):=opB0 fun _ _ _ _ _ _ _ q=>ge_int q
theorem v49:OpR X (compareOp .Lt) (fun x y H Q=>∃ i j,x=.str i /\ y=.str j /\ Q (.bl (decide (i.cps.toList < j.cps.toList))) H):=by
 intro pins s σ H x y v u Q I rx ry h;obtain ⟨i,j,rfl,rfl,q⟩:=h;obtain ⟨t,rfl⟩:=rx;obtain ⟨t',rfl⟩:=ry;exact lt_str (u31 I q rfl)
theorem op_notN:OpR X (compareOp .IsNot) (fun x y H Q=>y=.non /\ Q (.bl (!decide (x=.non))) H):=by
 intro pins s σ H x y v u Q I rx ry h;obtain ⟨rfl,q⟩:=h;cases ry;refine isnot_none_gen (u31 I q ?_);cases x <;> first
  | (cases rx;rfl)
  | (obtain ⟨t,rfl⟩:=rx;rfl)
theorem OpR.or {f:Value->Value->Sem Value} {r r':R2} (h:OpR X f r) (h':OpR X f r'):OpR X f (fun x y H Q=>r x y H Q \/ r' x y H Q):=by
 intro pins s σ H x y v u Q I rx ry q
 rcases q with q | q
 ·exact h pins s σ H x y v u Q I rx ry q
 ·exact h' pins s σ H x y v u Q I rx ry q
theorem nomark (b:Expr) {op:CmpOp} (h:op ≠ .In:=by decide) (h2:op ≠ .NotIn:=by decide):behindInMarks op b=false:=by
 have e1:(op == CmpOp.In)=false:=by cases op <;> first | rfl | exact absurd rfl h
 have e2:(op == CmpOp.NotIn)=false:=by cases op <;> first | rfl | exact absurd rfl h2
 cases b <;> simp [behindInMarks,e1,e2]
theorem vz7 {op:CmpOp} {r:R2} (ho:OpR X (compareOp op) r) (ha:PE X a ta) (hb:PE X b tb) (hm:behindInMarks op b=false):PE X (.Compare a [op] [b] pos) (tOp r ta tb):=by
 intro pins s σ H Q I h;exact wpAny_Compare1 (binT ha hb I h fun v u s2 x y H2 I2 rx ry q=>ho pins s2 σ H2 x y v u Q I2 rx ry q) hm
def wu4 (t:TE):TT:=fun σ H Q=>t σ H fun x H'=>∃ k,x=.bl k /\ Q k H'
theorem vx8 {op:CmpOp} {r:R2} (ho:OpR X (compareOp op) r) (ha:PE X a ta) (hb:PE X b tb) (hm:behindInMarks op b=false):PT X (.Compare a [op] [b] pos) (wu4 (tOp r ta tb)):=by
 intro pins s σ H Q I h;refine wpAny_isTrue_Compare1 (thn (ha pins s σ H _ I h) fun v s1 ⟨x,H1,I1,r1,q1⟩=>thn (hb pins s1 σ H1 _ I1 q1) fun u s2 ⟨y,H2,I2,r2,q2⟩ =>
  thn (ho pins s2 σ H2 x y v u _ I2 r1 r2 q2) fun c s3 ⟨z,H3,I3,r3,k,e,q3⟩=>?_) hm
 subst e;cases r3;exact wpAny_truthy_bool ⟨H3,I3,q3⟩
theorem line63:(sizeLine:Nat) < 2 ^ 63:=by rw [sizeLine_eq];decide
theorem op_add_str:OpR X (binaryOp .Add) (fun x y H Q=>∃ i j,x=.str i /\ y=.str j /\ i.length+j.length<=sizeLine /\ Q (.str (i++j)) H):=by
 intro pins s σ H x y v u Q I rx ry h;obtain ⟨i,j,rfl,rfl,hz,q⟩:=h;obtain ⟨t,rfl⟩:=rx;obtain ⟨t',rfl⟩:=ry;exact add_str (fun t' tk=>⟨.str (i++j),H,I.tok _,⟨_,rfl⟩,q⟩) hz
theorem vals1 {x:V} {us:List Value} (r:Vals [x] us):∃ u,us=[u] /\ RelV x u:=by
 cases r with
 | cons r1 r2=>cases r2;exact ⟨_,rfl,r1⟩
theorem vals2 {x y:V} {us:List Value} (r:Vals [x,y] us):∃ u w',us=[u,w'] /\ RelV x u /\ RelV y w':=by
 cases r with
 | cons r1 r2 =>
  cases r2 with
  | cons r3 r4=>cases r4;exact ⟨_,_,rfl,r1,r3⟩
theorem vk3:CallR X (.builtin "abs") (fun xs H Q=>∃ i,xs=[.int i] /\ Q (.int (if i < 0 then -i else i)) H):=by
 intro pins s σ H xs us Q I r h;obtain ⟨i,rfl,q⟩:=h;obtain ⟨u,rfl,t,rfl⟩:=vals1 r;exact call_abs_int fun u tk=>⟨.int (if i < 0 then -i else i),H,I.tok _,⟨_,rfl⟩,q⟩
theorem va4 (hc:X.calm=true):CallR X (.builtin "min") (fun xs H Q=>∃ i j,xs=[.int i,.int j] /\ Q (.int (if j < i then j else i)) H):=by
 intro pins s σ H xs us Q I r h;obtain ⟨i,j,rfl,q⟩:=h;obtain ⟨u,w',rfl,⟨t,rfl⟩,⟨t',rfl⟩⟩:=vals2 r;refine min_two_ints (I.ok.hd hc) fun h' tk k=>⟨_,H,I.kept k,?_,q⟩
 by_cases hj:j < i
 ·rw [if_pos hj,if_pos hj];exact ⟨_,rfl⟩
 ·rw [if_neg hj,if_neg hj];exact ⟨_,rfl⟩
theorem va5:CallR X (.type "int") (fun xs H Q=>(∃ i,xs=[.int i] /\ Q (.int i) H) \/ ∃ k,xs=[.bl k] /\ Q (.int (if k then 1 else 0)) H):=by
 intro pins s σ H xs us Q I r h
 rcases h with ⟨i,rfl,q⟩ | ⟨k,rfl,q⟩
 ·obtain ⟨u,rfl,t,rfl⟩:=vals1 r
  exact call_int_int ⟨.int i,H,I,⟨_,rfl⟩,q⟩
 ·obtain ⟨u,rfl,r1⟩:=vals1 r
  cases r1;exact call_int_bool ⟨.int (if k then 1 else 0),H,I.tok _,⟨_,rfl⟩,q⟩
theorem us6:CallR X (.builtin "divmod") (fun xs H Q=>∃ i j,xs=[.int i,.int j] /\ CDiv i j /\ ∀ p,H p=none->Q (.ref p) (upd H p (.tup [.int (i / j),.int (i % j)]))):=by
 intro pins s σ H xs us Q I r h;obtain ⟨i,j,rfl,⟨h1,h2⟩,q⟩:=h;obtain ⟨u,w',rfl,⟨t,rfl⟩,⟨t',rfl⟩⟩:=vals2 r;refine divmod_int (by omega) ?_ (.inl (PyProof.noPylong_small (by omega)));rw [Int.fdiv_eq_ediv_of_nonneg i (by omega),Int.fmod_eq_emod_of_nonneg i (by omega)];have hn:H s.heap.objs.size=none:=I.hok.fresh (Nat.le_refl _);refine ⟨.ref s.heap.objs.size,_,?_,rfl,q _ hn⟩;refine I.laid (fun b o e=>Heap.get?_push_of_some _ e) (Nat.le_refl _) ⟨by simp only [List.length_cons,List.length_nil];rw [sizeLine_eq];decide,[.int (i / j) s.toks,.int (i % j) (s.toks+1)],.cons ⟨_,rfl⟩ (.cons ⟨_,rfl⟩ .nil),?_⟩;exact ⟨_,Heap.get?_push_size s.heap rfl,rfl,⟨0,rfl⟩,rfl⟩
end
structure ObjM (h:Heap) (x dx C:Addr) (mA:Str->Option Value):Prop where
 obj:h.get? x=some (W.instObj C dx)
 ns:h.Ns1 dx mA
 ne:dx ≠ x
theorem v68 {h:Heap} {dx:Addr} {mA:Str->Option Value} (n:h.Ns1 dx mA):∃ od,h.get? dx=some od /\ ∀ name,W.lookIn name od=some (mA name):=by
 obtain ⟨o,es,ep,ho,hd,hk,_,hm⟩:=n;refine ⟨o,ho,fun name=>?_⟩;have e:=hm name;unfold nsFind findBy at e;rw [<- Array.find?_toList] at e;unfold W.lookIn;rw [hd];dsimp only;split
 ·rename_i y q
  rw [q] at e;exact congrArg some e
 ·rename_i q
  rw [q] at e;have a:es.toList.any (·.refKey)=false:=by
   rw [List.any_eq_false];intro y hy;obtain ⟨z,t,hkey⟩:=hk y (Array.mem_toList_iff.mp hy);simp [DictEntry.refKey,hkey]
  have a':¬ es.toList.any (·.refKey)=true:=by rw [a];exact Bool.false_ne_true
  rw [if_neg a'];exact congrArg some e
theorem ObjM.look {h:Heap} {x dx C:Addr} {mA:Str->Option Value} (I:ObjM h x dx C mA):∃ od,W.InstAt h x (W.instObj C dx) C (some od) /\ ∀ name,W.lookIn name od=some (mA name) :=
 let ⟨od,ho,hl⟩:=v68 I.ns
 ⟨od,⟨I.obj,rfl,rfl,ho⟩,hl⟩
section
variable {prog:Program} {w:World} {A:Around} {E:Value->Shared->Prop} {s:Shared} {K:W.Frag} {x dx C f:Addr} {mA:Str->Option Value} {name:Str} {v:Value}
theorem w27 {expr:Bool} {Q:Value->Shared->Prop} (X:K.In s.heap) (I:ObjM s.heap x dx C mA) (hg:W.plainGet K C name=true) (hh:W.hasDictIn K C=true)
  (ha:W.findIn K (.ref C) name=some none) (hv:mA name=some v) (hv':W.handedIn v=true) (h:Q v { s with toks:=s.toks+1 }) :
  wpAny (model prog w) A (getAttr (.ref x) name expr) Q E s:=by
 obtain ⟨od,J,hl⟩:=I.look;exact W.get_value X J (W.plainGet_of hg).1 (W.findObj_own hh ha rfl (by rw [hl,hv])) hv' h
theorem vj2 {pl:Sem Bool} {Q:Value × List Value->Shared->Prop} (X:K.In s.heap) (I:ObjM s.heap x dx C mA) (hg:W.plainGet K C name=true)
  (hf:W.findIn K (.ref C) name=some (some (.ref f))) (ht:W.isFn K (.ref f)=true) (hv:mA name=none) (h:Q (.ref f,[.ref x]) s) :
  wpAny (model prog w) A (getMethod (.ref x) name pl) Q E s:=by
 obtain ⟨od,J,hl⟩:=I.look;exact W.method_fn X J (W.plainGet_of hg).1 (W.plainGet_of hg).2 hf (beq_iff_eq.mp ht) (by show (W.lookIn name od).map (·.isSome)=some false;rw [hl,hv];rfl) h
theorem vs8 {ns:List Str} {Q:Unit->Shared->Prop} (X:K.In s.heap) (I:ObjM s.heap x dx C mA)
  (hs:W.findIn K (.ref C) "__setattr__" = some (some (.builtin "object.__setattr__"))) (hp:W.plainOver K C=true) (ht:W.takerIn K C name=some none) (hh:W.hasDictIn K C=true)
  (hw:PySem.Within mA ns) (hsz:ns.length<=sizeLine)
  (h:∀ h',ObjM h' x dx C (fun y=>if y=name then some v else mA y)->Heap.SameBut dx s.heap h'->Q () { s with heap:=h',toks:=s.toks+2 }) :
  wpAny (model prog w) A (setAttr (.ref x) name v) Q E s:=by
 obtain ⟨od,J,hl⟩:=I.look;refine W.set_plain X J hs (W.osa_open (s:={ s with toks:=s.toks+1 }) (r:=none) X J hp ht fun b=>?_);obtain ⟨cd,hc,hd'⟩:=W.any_some hh;have hx:s.heap.get? x=some ⟨.ref C,some dx,.plain,#[]⟩:=I.obj;refine wpAny_bind (wpAny_pure (wpAny_bind (wpAny_bind (wpAny_loadPart hx (wpAny_bind (W.Looks.here (s:={ s with toks:=s.toks+1 }) (W.looks_clsIn X hc) ?_))))));rw [hd'];refine wpAny_pure (a:=some dx) (wpAny_bind (wpAny_pure (wpAny_bind ?_)));refine wpAny_nsSet1 (s:={ s with toks:=s.toks+1 }) I.ns fun h' hn2 hs2=>?_
 obtain ⟨oD,esD,epD,hoD,hdD,hcD⟩:=hn2.count (PySem.Within.cons name v hw);refine wpAny_bind (wpAny_lookBehind hoD (by rw [hdD];exact pastItsLine_dict (Nat.le_trans hcD (by rw [List.length_cons];omega))) ?_);exact wpAny_pure (h _ ⟨(hs2.2 _ (Ne.symm I.ne)).trans I.obj,hn2,I.ne⟩ hs2)
theorem vg6 {R:Result->Shared->Prop} {vs:List Value} {kw:List (Str × Value)} (X:K.In s.heap) (hm:W.makesIn K C=true)
  (hi:W.findIn K (.ref C) "__init__" = some (some (.ref f))) (hf:W.typeIn K (.ref f)=some (.type "function"))
  (h:codeAny (model prog w) (A.under (.builtin "type.__call__" ⟨.ref C::vs,kw⟩)) (.call (.ref f) ⟨.ref (s.heap.objs.size+1)::vs,kw⟩) (W.InitBack (s.heap.objs.size+1) R)
   { s with heap:=(s.heap.push W.emptyDict).push (W.instObj C s.heap.objs.size) }) :
  codeAny (model prog w) A (.call (.ref C) ⟨vs,kw⟩) R s:=by
 obtain ⟨hh,g,d,t,os⟩:=s;exact W.make_core (W.makes_of X hm) (W.looks_findIn X hi) (fun self=>W.bind_fn X self hf) (.inl rfl) h
end
def putF (f:Str) (v:V):List (Str × V)->List (Str × V)
 | []=>[(f,v)]
 | (g,x)::r=>if g=f then (g,v)::r else (g,x)::putF f v r
theorem ue8 (f g:Str) (v:V):∀ fs:List (Str × V),(putF f v fs).lookup g=if g=f then some v else fs.lookup g
 | []=>by
  show List.lookup g [(f,v)]=_
  by_cases h:g=f
  ·have hb:(g == f)=true:=beq_iff_eq.mpr h
   simp only [List.lookup,hb,if_pos h]
  ·have hb:(g == f)=false:=beq_eq_false_iff_ne.mpr h
   simp only [List.lookup,hb,if_neg h]
 | (k,x)::r=>by
  have ih:=ue8 f g v r;rw [show putF f v ((k,x)::r)=(if k=f then (k,v)::r else (k,x)::putF f v r) from rfl]
  by_cases hk:k=f
  ·rw [if_pos hk]
   by_cases h:g=k
   ·have hb:(g == k)=true:=beq_iff_eq.mpr h
    simp only [List.lookup,hb,if_pos (h.trans hk)]
   ·have hb:(g == k)=false:=beq_eq_false_iff_ne.mpr h
    simp only [List.lookup,hb,if_neg (fun e:g=f=>h (e.trans hk.symm))]
  ·rw [if_neg hk]
   by_cases h:g=k
   ·have hb:(g == k)=true:=beq_iff_eq.mpr h
    simp only [List.lookup,hb,if_neg (fun e:g=f=>hk (h.symm.trans e))]
   ·have hb:(g == k)=false:=beq_eq_false_iff_ne.mpr h
    simp only [List.lookup,hb];exact ih
theorem uf0 (f:Str) (v:V):∀ fs:List (Str × V),f ∈ (putF f v fs).map (·.1) /\ ∀ g,g ∈ fs.map (·.1)->g ∈ (putF f v fs).map (·.1)
 | []=>⟨by simp [putF],fun g h=>by simp at h⟩
 | (k,x)::r=>by
  obtain ⟨i1,i2⟩:=uf0 f v r;rw [show putF f v ((k,x)::r)=(if k=f then (k,v)::r else (k,x)::putF f v r) from rfl]
  by_cases hk:k=f
  ·rw [if_pos hk]
   subst hk;exact ⟨by simp,fun g h=>by simpa using h⟩
  ·rw [if_neg hk]
   refine ⟨?_,fun g h=>?_⟩
   ·rw [List.map_cons]
    exact List.mem_cons_of_mem _ i1
   ·rw [List.map_cons] at h ⊢
    rcases List.mem_cons.mp h with e | e
    ·exact List.mem_cons.mpr (.inl e)
    ·exact List.mem_cons_of_mem _ (i2 g e)
theorem ue9 (f:Str) (v:V):∀ fs:List (Str × V),(putF f v fs).length<=fs.length+1
 | []=>by simp [putF]
 | (k,x)::r=>by
  have ih:=ue9 f v r;rw [show putF f v ((k,x)::r)=(if k=f then (k,v)::r else (k,x)::putF f v r) from rfl]
  by_cases hk:k=f
  ·rw [if_pos hk,List.length_cons,List.length_cons];omega
  ·rw [if_neg hk,List.length_cons,List.length_cons];omega
theorem RelO.some_of {v:V} {o:Option Value} (r:RelO (some v) o):∃ u,o=some u /\ RelV v u:=by
 cases o with
 | none=>exact (show False from r).elim
 | some u=>exact ⟨u,rfl,r⟩
theorem RelO.none_of {o:Option Value} (r:RelO none o):o=none:=by
 cases o with
 | none=>rfl
 | some u=>exact (show False from r).elim
theorem v79 {v:V} {u:Value} (r:RelV v u):W.handedIn u=true:=by
 cases v with
 | non=>cases (show u=Value.none from r);rfl
 | bl b=>cases (show u=Value.bool b from r);rfl
 | int i=>obtain ⟨t,e⟩:=(show ∃ t,u=Value.int i t from r);cases e;rfl
 | str x=>obtain ⟨t,e⟩:=(show ∃ t,u=Value.str x t from r);cases e;rfl
 | byt b=>obtain ⟨t,e⟩:=(show ∃ t,u=Value.bytes b t from r);cases e;rfl
 | flt b=>obtain ⟨t,e⟩:=(show ∃ t,u=Value.float b t from r);cases e;rfl
 | ref a=>cases (show u=Value.ref a from r);rfl
 | ty n=>cases (show u=Value.type n from r);rfl
section
variable {P:Program} {w:World} {H H':Hp} {h h':Heap} {a C dx:Addr} {fs fs':List (Str × V)}
theorem uk7 (hok:HOk P w H h) (e:H a=some (.ins C dx fs)):∃ mA,ObjM h a dx C mA /\ (∀ f,RelO (fs.lookup f) (mA f)) /\ PySem.Within mA (fs.map (·.1)) /\ fs.length<=1000 /\ H dx=some (.own a):=by
 obtain ⟨d,z,ne,ob,mA,n,r,q⟩:=(show ObjOk P w H h a (.ins C dx fs) from hok a _ e);exact ⟨mA,⟨ob,n,ne⟩,r,q,z,d⟩
end
structure Cls (K:W.Frag) (C:Addr):Prop where
 pg:W.plainGet K C Str.empty=true
 hd:W.hasDictIn K C=true
 po:W.plainOver K C=true
 sa:W.findIn K (.ref C) "__setattr__" = some (some (.builtin "object.__setattr__"))
theorem Cls.get {K:W.Frag} {C:Addr} (c:Cls K C) (f:Str):W.plainGet K C f=true:=c.pg
def NoAttr (K:W.Frag) (C:Addr) (f:Str):Prop:=W.findIn K (.ref C) f=some none
theorem NoAttr.taker {K:W.Frag} {C:Addr} {f:Str} (n:NoAttr K C f):W.takerIn K C f=some none:=by
 unfold W.takerIn;rw [show W.findIn K (.ref C) f=some none from n];rfl
structure Con (K:W.Frag) (C:Addr) (f:Str) (v:V) (u:Value):Prop where
 at_:W.findIn K (.ref C) f=some (some u)
 rel:RelV v u
 get:W.specialIn K u "__get__" = some none
 cp:W.copiedNames.contains f=false
structure Meth (K:W.Frag) (C:Addr) (m:Str) (f:Addr):Prop where
 at_:W.findIn K (.ref C) m=some (some (.ref f))
 fn:W.isFn K (.ref f)=true
 kp:W.keepIn K (.ref f)=true
section
variable {X:Cx} {pins:List (Addr × Obj)} {σ:St} {H:Hp} {s:Shared} {a C dx:Addr} {fs:List (Str × V)} {f:Str} {v:V} {A:Around} {E:Value->Shared->Prop}
theorem ui5 {b:Bool} {Q:Value->Shared->Prop} (I:Inv X pins σ H s) (e:H a=some (.ins C dx fs)) (c:Cls X.K C) (n:NoAttr X.K C f) (l:fs.lookup f=some v)
  (h:∀ u s',Inv X pins σ H s'->RelV v u->Q u s'):wpAny (model X.prog X.w) A (getAttr (.ref a) f b) Q E s:=by
 obtain ⟨mA,O,r,_,_,_⟩:=uk7 I.hok e;obtain ⟨u,hu,ru⟩:=RelO.some_of (v:=v) (o:=mA f) (by rw [<- l];exact r f);exact w27 I.kIn O (c.get f) c.hd n hu (v79 ru) (h u _ (I.tok _) ru)
theorem ub8 {m:Str} {g:Addr} {pl:Sem Bool} {Q:Value × List Value->Shared->Prop} (I:Inv X pins σ H s) (e:H a=some (.ins C dx fs)) (c:Cls X.K C) (k:Meth X.K C m g) (l:fs.lookup m=none)
  (h:Q (.ref g,[.ref a]) s):wpAny (model X.prog X.w) A (getMethod (.ref a) m pl) Q E s:=by
 obtain ⟨mA,O,r,_,_,_⟩:=uk7 I.hok e;have hn:mA m=none:=RelO.none_of (by rw [<- l];exact r m);exact vj2 I.kIn O (c.get m) k.at_ k.fn hn h
theorem uh4 {y:V} {u:Value} {Q:Unit->Shared->Prop} (I:Inv X pins σ H s) (e:H a=some (.ins C dx fs)) (c:Cls X.K C) (n:NoAttr X.K C f) (hl:fs.length < 1000) (ry:RelV y u)
  (h:∀ s',Inv X pins σ (upd H a (.ins C dx (putF f y fs))) s'->Q () s'):wpAny (model X.prog X.w) A (setAttr (.ref a) f u) Q E s:=by
 obtain ⟨mA,O,r,wi,_,ho⟩:=uk7 I.hok e;have hz:(fs.map (·.1)).length<=sizeLine:=by rw [List.length_map,sizeLine_eq];omega
 refine vs8 I.kIn O c.sa c.po n.taker c.hd wi hz fun h' O' sb=>h _ ?_
 have hd:∃ o,h'.get? dx=some o:=let ⟨o,_,_,e',_⟩:=O'.ns;⟨o,e'⟩;refine I.write (x:=a) (e:=dx) (by rw [e];exact True.intro) (.inr ho) (fun b q hb z=>(sb.2 b hb).trans z) hd ?_;refine ⟨by rw [u18 O.ne];exact ho,?_,O.ne,O'.obj,_,O'.ns,fun g=>?_,fun g hg=>?_⟩
 ·have:=ue9 f y fs;omega
 ·show RelO ((putF f y fs).lookup g) (if g=f then some u else mA g)
  rw [ue8]
  by_cases q:g=f
  ·rw [if_pos q,if_pos q];exact ry
  ·rw [if_neg q,if_neg q];exact r g
 ·by_cases q:g=f
  ·rw [q];exact (uf0 f y fs).1
  ·refine (uf0 f y fs).2 g (wi g fun z=>hg ?_)
   show (if g=f then some u else mA g)=none
   rw [if_neg q];exact z
theorem Inv.made (I:Inv X pins σ H s):Inv X pins σ (upd (upd H s.heap.objs.size (.own (s.heap.objs.size+1))) (s.heap.objs.size+1) (.ins C s.heap.objs.size []))
  { s with heap:=(s.heap.push W.emptyDict).push (W.instObj C s.heap.objs.size) }:=by
 have e1:(s.heap.push W.emptyDict).get? s.heap.objs.size=some W.emptyDict:=Heap.get?_push_size s.heap rfl;have e2:((s.heap.push W.emptyDict).push (W.instObj C s.heap.objs.size)).get? (s.heap.objs.size+1)=some (W.instObj C s.heap.objs.size):=by
  have:=Heap.get?_push_size (s.heap.push W.emptyDict) (o:=W.instObj C s.heap.objs.size) rfl
  rwa [Heap.size_push] at this
 have e3:(s.heap.push W.emptyDict).Ns s.heap.objs.size (fun _=>none):=⟨W.emptyDict,#[],_,e1,rfl,(fun e he=>absurd he (by simp)),fun _=>rfl⟩;have I1:=I.laid (a:=s.heap.objs.size) (o:=.own (s.heap.objs.size+1)) (h':=s.heap.push W.emptyDict) (t':=s.toks) (fun b u q=>Heap.get?_push_of_some _ q) (Nat.le_refl _) ⟨_,e1⟩;refine I1.laid (a:=s.heap.objs.size+1) (o:=.ins C s.heap.objs.size []) (t':=s.toks) (fun b u q=>Heap.get?_push_of_some _ q) (Nat.le_of_eq (Heap.size_push _ _)) ?_;have ne:s.heap.objs.size ≠ s.heap.objs.size+1:=Nat.ne_of_lt (Nat.lt_succ_self _);refine ⟨by rw [u18 ne,u24],Nat.zero_le _,ne,e2,fun _=>none,(Heap.Ns1.of_empty e3).at fun o q=>Heap.get?_push_of_some _ q,fun _=>True.intro,fun y hy=>absurd rfl hy⟩
theorem w51 {prog:Program} {w:World} {env:Env} {e:Expr} {f:Str} {pos:Pos} {s:Shared} {Q:Value->Shared->Prop} (hb:attributeBase e f env (eval e env)=eval e env)
  (h:wpAny (model prog w) A (eval e env) (fun o s₁=>wpAny (model prog w) A (getAttr o f true) Q E s₁) E s):wpAny (model prog w) A (eval (.Attribute e f pos) env) Q E s :=
 Attribute_any_ h (by rw [arm_eval_Attribute,hb])
end
def tFld (K:W.Frag) (ta:TE) (f:Str):TE:=fun σ H Q=>ta σ H fun x H1=>∃ a C dx fs v,x=.ref a /\ H1 a=some (.ins C dx fs) /\ Cls K C /\ NoAttr K C f /\ fs.lookup f=some v /\ Q v H1
def sFld (K:W.Frag) (ta tv:TE) (f:Str):TS:=fun D σ H=>tv σ H fun y H1=>ta σ H1 fun x H2=>∃ a C dx fs,x=.ref a /\ H2 a=some (.ins C dx fs) /\ Cls K C /\ NoAttr K C f /\ fs.length < 1000 /\
 D.nx σ (upd H2 a (.ins C dx (putF f y fs)))
def InOp (X:Cx) (op:Operator) (rd:V->V->Hp->VK->Prop):Prop :=
 ∀ (pins:List (Addr × Obj)) (s:Shared) (σ:St) (H:Hp) (x y:V) (u v:Value) (Q:VK),Inv X pins σ H s->RelV x u->RelV y v->rd x y H Q->wpAny (model X.prog X.w) X.A (inplaceOp op u v) (EP X pins σ Q) X.xe s
def v33 (K:W.Frag) (ta tv:TE) (rd:V->V->Hp->VK->Prop) (f:Str):TS:=fun D σ H=>ta σ H fun x H1=>∃ a C dx fs v,x=.ref a /\ H1 a=some (.ins C dx fs) /\ Cls K C /\ NoAttr K C f /\ fs.lookup f=some v /\
 tv σ H1 fun y H2=>rd v y H2 fun z H3=>∃ dx' fs',H3 a=some (.ins C dx' fs') /\ fs'.length < 1000 /\ D.nx σ (upd H3 a (.ins C dx' (putF f z fs')))
section
variable {X:Cx} {o e value:Expr} {f:Str} {pos pos' tpos:Pos} {ta tv:TE}
theorem wd3 (he:PE X e ta) (hb:attributeBase e f X.env (eval e X.env)=eval e X.env):PE X (.Attribute e f pos) (tFld X.K ta f):=by
 intro pins s σ H Q I h
 (refine w51 hb (thn (he pins s σ H _ I h) ?_);rintro u s1 ⟨x,H1,I1,rx,a,C,dx,fs,v,ex,ea,c,n,l,q⟩)
 subst ex;obtain rfl:u=Value.ref a:=rx;exact ui5 I1 ea c n l fun u' s2 I2 ru=>⟨v,H1,I2,ru,q⟩
theorem wb7 (ha:PE X o ta) (hv:PE X value tv) (hs:swapsWith value (some (.Attribute o f pos')) pos.line X.env=pure false):PS X (.Assign [.Attribute o f pos'] value pos) (sFld X.K ta tv f):=by
 intro pins s σ H D I h
 (refine plainObj_wpAny_Assign_Attribute (thn (hv pins s σ H _ I h) ?_) hs;rintro u s1 ⟨y,H1,I1,ry,q⟩;refine thn (ha pins s1 σ H1 _ I1 q) ?_;rintro ov s2 ⟨x,H2,I2,rx,a,C,dx,fs,ex,ea,c,n,l,q2⟩)
 subst ex;obtain rfl:ov=Value.ref a:=rx;exact uh4 I2 ea c n l ry fun s3 I3=>⟨σ,_,I3,q2⟩
theorem v42 {op:Operator} {rd:V->V->Hp->VK->Prop} (ha:PE X o ta) (hv:PE X value tv) (hop:InOp X op rd):PS X (.AugAssign (.Attribute o f tpos) op value pos) (v33 X.K ta tv rd f):=by
 intro pins s σ H D I h
 (refine wpAny_AugAssign_AttributeAny (thn (ha pins s σ H _ I h) ?_);rintro ov s1 ⟨x,H1,I1,rx,a,C,dx,fs,v,ex,ea,c,n,l,q⟩)
 subst ex;obtain rfl:ov=Value.ref a:=rx;refine ui5 I1 ea c n l fun u s2 I2 ru=>thn (hv pins s2 σ H1 _ I2 q) fun w3 s3 ⟨y,H2,I3,ry,q3⟩=>thn (hop pins s3 σ H2 v y u w3 _ I3 ru ry q3) fun w4 s4 ⟨z,H3,I4,rz,dx',fs',ea',l',q4⟩=>?_
 exact uh4 I4 ea' c n l' rz fun s5 I5=>⟨σ,_,I5,q4⟩
theorem w03 {pl:Sem Bool} {m:Str} {apos:Pos} {args:List Expr} {pins:List (Addr × Obj)} {s:Shared} {σ:St} {H:Hp} {Q:Value->Shared->Prop} {te:TE} (he:PE X e te) (I:Inv X pins σ H s)
  (h:te σ H fun x H1=>∃ a C dx fs g,x=.ref a /\ H1 a=some (.ins C dx fs) /\ Cls X.K C /\ Meth X.K C m g /\ fs.lookup m=none /\
   ∀ s1,Inv X pins σ H1 s1->wpAny (model X.prog X.w) X.A (callWith pos (.ref g) [.ref a] (backTo pos (starEach args X.env)) (backToKw pos (keywordEach [] X.env))) Q X.xe s1)
  (ht:eval (.Call (.Attribute e m apos) args [] pos) X.env=(do
   let ov <- eval e X.env
   standAt apos.atName
   let (f,first) <- holding [ov] (getMethod ov m pl)
   callWith pos f first (backTo pos (starEach args X.env)) (backToKw pos (keywordEach [] X.env)))) :
  wpAny (model X.prog X.w) X.A (eval (.Call (.Attribute e m apos) args [] pos) X.env) Q X.xe s:=by
 (refine W.methodCall_KW (pl:=pl) (thn (he pins s σ H _ I h) ?_) ht;rintro u s1 ⟨x,H1,I1,rx,a,C,dx,fs,g,ex,ea,c,k,l,q⟩)
 subst ex;obtain rfl:u=Value.ref a:=rx;exact ub8 I1 ea c k l (q s1 I1)
end
section
variable {X:Cx} {pins:List (Addr × Obj)} {σ:St} {H:Hp} {s:Shared} {A:Around} {E:Value->Shared->Prop} {Q:Value->Shared->Prop} {c:Value} {b:Bool}
inductive TyOf (K:W.Frag) (H:Hp):V->Value->Prop where
 | non:TyOf K H .non (.type "NoneType")
 | bl (x:Bool):TyOf K H (.bl x) (.type "bool")
 | int (i:Int):TyOf K H (.int i) (.type "int")
 | str (x:Str):TyOf K H (.str x) (.type "str")
 | flt (x:UInt64):TyOf K H (.flt x) (.type "float")
 | lst {a:Addr} {xs:List V} (e:H a=some (.lst xs)):TyOf K H (.ref a) (.type "list")
 | frz {a:Addr} {o:Obj} {xs:List V} (e:H a=some (.frz o (.lst xs))):TyOf K H (.ref a) (.type "list")
 | tup {a:Addr} {xs:List V} (e:H a=some (.tup xs)):TyOf K H (.ref a) (.type "tuple")
 | dK {a:Addr} {kvs:List (Key × V)} (e:H a=some (.dK kvs)):TyOf K H (.ref a) (.type "dict")
 | dT {a:Addr} {kvs:List (List Key × V)} (e:H a=some (.dT kvs)):TyOf K H (.ref a) (.type "dict")
 | ins {a C dx:Addr} {fs:List (Str × V)} (e:H a=some (.ins C dx fs)) (cl:Cls K C) (ha:W.findIn K (.ref C) "__class__" = some (some (.builtin "object.__class__")))
   (hn:W.specialIn K (.builtin "object.__class__") "__get__" = some (some (.builtin "getset_descriptor.__get__"))) (htk:W.takesIn K (.builtin "object.__class__")=some true)
   (hm:W.mroIn K C (.type "object")=some true):TyOf K H (.ref a) (.ref C)
theorem u56 {x:V} {u t:Value} (I:Inv X pins σ H s) (rx:RelV x u) (ty:TyOf X.K H x t) (e:W.kitOne X.K t c=some b) (h:∀ tk,Q (.bool b) { s with toks:=tk }) :
  wpAny (model X.prog X.w) A (call (.builtin "isinstance") [u,c]) Q E s:=by
 cases ty with
 | non=>cases (show u=Value.none from rx);exact W.kia_one W.kitx_none I.kIn True.intro e (fun z=>nomatch z) h
 | bl y=>cases (show u=Value.bool y from rx);exact W.kia_one W.kitx_bool I.kIn True.intro e (fun z=>nomatch z) h
 | int i=>obtain ⟨t,q⟩:=(show ∃ t,u=Value.int i t from rx);cases q;exact W.kia_one W.kitx_int I.kIn True.intro e (fun z=>nomatch z) h
 | str y=>obtain ⟨t,q⟩:=(show ∃ t,u=Value.str y t from rx);cases q;exact W.kia_one W.kitx_str I.kIn True.intro e (fun z=>nomatch z) h
 | flt y=>obtain ⟨t,q⟩:=(show ∃ t,u=Value.float y t from rx);cases q;exact W.kia_one W.kitx_float I.kIn True.intro e (fun z=>nomatch z) h
 | @lst a xs ea =>
  cases (show u=Value.ref a from rx);obtain ⟨_,_,n,_,h1⟩:=(show ObjOk X.prog X.w H s.heap a (.lst xs) from I.hok a _ ea);exact W.kia_one W.kitx_list I.kIn ⟨_,h1,rfl⟩ e (fun z=>nomatch z) h
 | @frz a ob xs ea =>
  cases (show u=Value.ref a from rx);obtain ⟨_,_,_,n,_,h1⟩:=(show ObjOk X.prog X.w H s.heap a (.frz ob (.lst xs)) from I.hok a _ ea);exact W.kia_one W.kitx_list I.kIn ⟨_,h1,rfl⟩ e (fun z=>nomatch z) h
 | @tup a xs ea =>
  cases (show u=Value.ref a from rx);obtain ⟨_,_,_,p⟩:=(show ObjOk X.prog X.w H s.heap a (.tup xs) from I.hok a _ ea);obtain ⟨o,h1,h2,_⟩:=p;exact W.kia_one W.kitx_tuple I.kIn ⟨o,h1,h2⟩ e (fun z=>nomatch z) h
 | @dK a kvs ea =>
  cases (show u=Value.ref a from rx);obtain ⟨_,_,vs,_,p⟩:=(show ObjOk X.prog X.w H s.heap a (.dK kvs) from I.hok a _ ea);obtain ⟨o,es,ep,h1,h2,_⟩:=p;exact W.kia_one W.kitx_dict I.kIn ⟨o,h1,h2.1⟩ e (fun z=>nomatch z) h
 | @dT a kvs ea =>
  cases (show u=Value.ref a from rx);obtain ⟨_,_,xs,_,o,es,ep,h1,h2,_⟩:=(show ObjOk X.prog X.w H s.heap a (.dT kvs) from I.hok a _ ea);exact W.kia_one W.kitx_dict I.kIn ⟨o,h1,h2.1⟩ e (fun z=>nomatch z) h
 | @ins a C dx fs ea cl ha hn htk hm =>
  cases (show u=Value.ref a from rx);obtain ⟨mA,O,_⟩:=uk7 I.hok ea;obtain ⟨od,J,_⟩:=O.look;exact W.kia_one (W.kitx_own (cl.get _) cl.hd ha hn htk hm) I.kIn J e (fun z=>nomatch z) h
end
structure Room (k:Nat) (A:Around):Prop where
 hd:A.handled=none
 dp:A.depth+3 * k+5 < recursionLimit
 un:A.units+16 * k+200 < cLine
theorem Room.mono {j k:Nat} {A:Around} (r:Room k A) (h:j<=k):Room j A:=⟨r.hd,by have:=r.dp;omega,by have:=r.un;omega⟩
theorem Room.deeper {k:Nat} {A:Around} (r:Room (k+1) A) (env:Env):Room k (A.deeper env) :=
 ⟨r.hd,by have:=r.dp;show A.depth+1+3 * k+5 < _;omega,by have:=r.un;show A.units+3+16 * k+200 < _;omega⟩
theorem uz1 {A:Around} {C:Addr} {us:List Value} {kw:List (Str × Value)}:(A.under (.builtin "type.__call__" ⟨.ref C::us,kw⟩)).depth=A.depth+1:=by
 first | rfl | simp [Around.under,Code.weight,Code.isCreation,Code.isGuard,Code.isCaller,Code.frames,Code.isFrame,guardIds]
theorem uz0 {A:Around} {C:Addr} {us:List Value} {kw:List (Str × Value)}:(A.under (.builtin "type.__call__" ⟨.ref C::us,kw⟩)).units=A.units+1:=by
 first | rfl | simp [Around.under,Code.cUnits,Code.frames,Code.isFrame]
theorem Room.make {k:Nat} {A:Around} (r:Room (k+1) A) (C:Addr) (us:List Value) (kw:List (Str × Value)):Room k (A.under (.builtin "type.__call__" ⟨.ref C::us,kw⟩)) :=
 ⟨r.hd,by have:=r.dp;rw [uz1];omega,by have:=r.un;rw [uz0];omega⟩
theorem Room.depth {k:Nat} {A:Around} (r:Room k A):A.depth < recursionLimit:=by have:=r.dp;omega
theorem Room.units {k:Nat} {A:Around} (r:Room k A):A.units+64 < cLine:=by have:=r.un;omega
def tNil:TA:=fun _ H Q=>Q [] H
def w96 (ta:TE) (tr:TA):TA:=fun σ H Q=>ta σ H fun x H1=>tr σ H1 fun xs H2=>Q (x::xs) H2
section
variable {X:Cx} {e:Expr} {es:List Expr} {te:TE} {t:TA} {pos:Pos}
theorem wd5:PA X [] tNil:=fun _ _ _ _ H Q I h=>Calls.spliced_nil ⟨[],H,I,.nil,h⟩
theorem w00 (ha:PE X e te) (hr:PA X es t) (hs:starEach (e::es) X.env=(false,eval e X.env)::starEach es X.env:=by rfl):PA X (e::es) (w96 te t):=by
 intro pos pins s σ H Q I h;rw [hs]
 show wpAny _ _ (spliced ((false,eval e X.env)::backTo pos (starEach es X.env))) _ _ s
 (refine Calls.spliced_cons (thn (ha pins s σ H _ I h) ?_);rintro u s1 ⟨x,H1,I1,r1,q1⟩)
 (refine thn (hr pos pins s1 σ H1 _ I1 q1) ?_;rintro us s2 ⟨xs,H2,I2,r2,q2⟩;exact ⟨x::xs,H2,I2,.cons r1 r2,q2⟩)
def tTup (t:TA):TE:=fun σ H Q=>t σ H fun xs H1=>xs.length<=sizeLine /\ ∀ p,H1 p=none->Q (.ref p) (upd H1 p (.tup xs))
def tLst (t:TA):TE:=fun σ H Q=>t σ H fun xs H1=>xs.length<=sizeLine /\ ∀ p,H1 p=none->Q (.ref p) (upd H1 p (.lst xs))
theorem wc5 {x1} (h:PA X es t):PE X (.Tuple es x1 pos) (tTup t):=by
 intro pins s σ H Q I hq;refine wpAny_Tuple_spliced (thn (h pos pins s σ H _ I hq) fun us s1 ⟨xs,H1,I1,r,z,q⟩=>⟨by rw [<- r.length];exact z,?_⟩);have hf:H1 s1.heap.objs.size=none:=I1.hok.fresh (Nat.le_refl _);refine ⟨.ref s1.heap.objs.size,upd H1 s1.heap.objs.size (.tup xs),I1.laid (t':=s1.toks) (fun b u e=>Heap.get?_push_of_some _ e) (Nat.le_refl _) ?_,rfl,q _ hf⟩;exact ⟨z,us,r,⟨_,Heap.get?_push_size _ rfl,rfl,⟨_,rfl⟩,rfl⟩⟩
theorem wd1 (h:PA X es t):PE X (.List es pos) (tLst t):=by
 intro pins s σ H Q I hq;refine wpAny_List_spliced (thn (h pos pins s σ H _ I hq) fun us s1 ⟨xs,H1,I1,r,z,q⟩=>⟨by rw [<- r.length];exact z,?_⟩);have hf:H1 s1.heap.objs.size=none:=I1.hok.fresh (Nat.le_refl _);refine ⟨.ref s1.heap.objs.size,upd H1 s1.heap.objs.size (.lst xs),I1.laid (t':=s1.toks) (fun b u e=>Heap.get?_push_of_some _ e) (Nat.le_refl _) ?_,rfl,q _ hf⟩;exact ⟨z,us,0,r,Heap.get?_push_size _ rfl⟩
end
abbrev Sp:=List V->Hp->VK->XK->Prop
abbrev CXT:=List Env->Hp->Shared->XK->Value->Shared->Prop
structure Env0 (P:Program) (w:World) (K:W.Frag) (mg:Str->Option Value) (base:Heap) (A:Around) (outer:List Env) (s:Shared) (H:Hp):Prop where
 frames:A.frames=some outer
 mod:Mod K mg base
 bs:∀ b o,base.get? b=some o->s.heap.get? b=some o /\ H b=none
 bsz:base.objs.size<=s.heap.objs.size
 funs:s.heap.FunFrames base outer
 frf:∀ b ∈ frs outer,H b=none
 hok:HOk P w H s.heap
 bare:AllBare s.gens
def CE (outer:List Env) (P:Program) (w:World) (H:Hp) (s:Shared) (Q:VK) (u:Value) (s':Shared):Prop :=
 ∃ v H',s'.os=s.os /\ AllBare s'.gens /\ Un (frs outer) [] H H' s.heap s'.heap /\ HOk P w H' s'.heap /\ RelV v u /\ Q v H'
def CR (CX:CXT) (outer:List Env) (P:Program) (w:World) (H:Hp) (s:Shared) (Q:VK) (E:XK) (r:Result) (s':Shared):Prop :=
 match r with
 | .ok (.ret u)=>CE outer P w H s Q u s'
 | .ok _=>False
 | .error e=>CX outer H s E e s'
structure FnOk (P:Program) (w:World) (K:W.Frag) (mg:Str->Option Value) (base:Heap) (CX:CXT) (k:Nat) (f:Addr) (fd:FuncData) (ps:List Str) (sp:Sp):Prop where
 len:∀ vs H Q E,sp vs H Q E->vs.length=ps.length
 run:∀ (A:Around) (outer:List Env) (s:Shared) (H:Hp) (args:Args) (us:List Value) (vs:List V) (Q:VK) (E:XK),Room k A->Env0 P w K mg base A outer s H->BindsTo s fd args (ps.zip us)->Vals vs us->sp vs H Q E ->
  codeAny (model P w) A (.call (.ref f) args) (CR CX outer P w H s Q E) s
theorem FnOk.mono {P:Program} {w:World} {K:W.Frag} {mg:Str->Option Value} {base:Heap} {CX:CXT} {j k:Nat} {f:Addr} {fd:FuncData} {ps:List Str} {sp:Sp} (F:FnOk P w K mg base CX j f fd ps sp) (h:j<=k) :
  FnOk P w K mg base CX k f fd ps sp:=⟨F.len,fun A outer s H args us vs Q E hr=>F.run A outer s H args us vs Q E (hr.mono h)⟩
theorem Env0.make {P:Program} {w:World} {K:W.Frag} {mg:Str->Option Value} {base:Heap} {A:Around} {outer:List Env} {s:Shared} {H:Hp} (e:Env0 P w K mg base A outer s H) (C:Addr) (us:List Value) (kw:List (Str × Value)) :
  Env0 P w K mg base (A.under (.builtin "type.__call__" ⟨.ref C::us,kw⟩)) outer s H:=⟨by first | exact e.frames | (simpa [Around.under,Code.envs,Code.isFrame,pushEnvs] using e.frames),e.mod,e.bs,e.bsz,e.funs,e.frf,e.hok,e.bare⟩
section
variable {X:Cx} {pins:List (Addr × Obj)} {σ:St} {H:Hp} {s s':Shared}
theorem Inv.env0 (I:Inv X pins σ H s):Env0 X.prog X.w X.K X.mg X.base X.A X.stack s H :=
 ⟨I.ok.frames,I.ok.mod,I.bs,Nat.le_trans I.ok.bsz I.sz,I.stack,I.stkFree,I.hok,I.bare⟩
theorem Inv.after {Q:VK} {u:Value} (I:Inv X pins σ H s) (h:CE X.stack X.prog X.w H s Q u s'):EP X pins σ Q u s':=by
 obtain ⟨v,H',os,bare,un,hok,r,q⟩:=h;obtain ⟨hh,g,d,t,os'⟩:=s';obtain rfl:os'=s.os:=os;exact ⟨v,H',I.call (h':=hh) (g':=g) (d':=d) (t':=t) (ch:=[]) un hok bare (fun b z=>absurd z (by simp)),r,q⟩
end
def w97 (sp:Sp) (dvs:List V) (E:XK) (t:TA):TE:=fun σ H Q=>t σ H fun vs H1=>sp (vs++dvs) H1 Q E
def vs0 (C:Addr) (m:Str) (sp:Sp) (dvs:List V) (E:XK) (ta:TE) (t:TA):TE:=fun σ H Q=>ta σ H fun x H1=>∃ a dx fs,x=.ref a /\ H1 a=some (.ins C dx fs) /\ fs.lookup m=none /\
 t σ H1 fun vs H2=>sp (x::(vs++dvs)) H2 Q E
def w93 (C:Addr) (sp:Sp) (dvs:List V) (E:XK) (t:TA):TE:=fun σ H Q=>t σ H fun vs H1=>∀ x dx,H1 x=none->H1 dx=none->dx ≠ x ->
 sp (.ref x::(vs++dvs)) (upd (upd H1 dx (.own x)) x (.ins C dx [])) (fun v H2=>v=.non /\ Q (.ref x) H2) E
def Binds (K:W.Frag) (fd:FuncData) (ps:List Str) (ds:List Value):Prop :=
 ∀ (s:Shared) (us:List Value),K.In s.heap->(us++ds).length=ps.length->BindsTo s fd ⟨us,[]⟩ (ps.zip (us++ds))
theorem Binds.all {K:W.Frag} {fd:FuncData} {ps:List Str} (h:∀ us:List Value,us.length=ps.length->bindArgs fd ⟨us,[]⟩=pure (ps.zip us)):Binds K fd ps []:=fun s us _ hl=>by
 rw [List.append_nil] at hl ⊢;exact .of_eq (h us hl)
def Passes (CX:CXT) (X:Cx) (E:XK):Prop:=∀ (pins:List (Addr × Obj)) (σ:St) (H:Hp) (s:Shared) (e:Value) (s':Shared),Inv X pins σ H s->CX X.stack H s E e s'->X.xe e s'
section
variable {X:Cx} {CX:CXT} {k:Nat} {f C:Addr} {fd:FuncData} {ps:List Str} {sp:Sp} {dvs:List V} {ds:List Value} {E:XK} {x m:Str} {p pos apos:Pos} {e o:Expr} {es:List Expr} {ta:TE} {t:TA}
theorem v34 {pins:List (Addr × Obj)} {σ:St} {H:Hp} {s:Shared} {Q:VK} {us:List Value} {vs:List V} (F:FnOk X.prog X.w X.K X.mg X.base CX k f fd ps sp) (hr:Room k X.A) (hb:Binds X.K fd ps ds) (hd:Vals dvs ds) (hx:Passes CX X E)
  (I:Inv X pins σ H s) (r:Vals vs us) (h:sp (vs++dvs) H Q E):wpAny (model X.prog X.w) X.A (call (.ref f) us) (EP X pins σ Q) X.xe s:=by
 have r2:Vals (vs++dvs) (us++ds):=r.append hd;have hl:(us++ds).length=ps.length:=by rw [<- r2.length];exact F.len _ _ _ _ h
 refine wpAny_call (codeAny_mono (F.run X.A X.stack s H ⟨us,[]⟩ (us++ds) (vs++dvs) Q E hr I.env0 (hb s us I.kIn hl) r2 h) fun r s' hq=>?_);cases r with
 | error e=>exact hx pins σ H s e s' I hq
 | ok fl =>
  cases fl with
  | ret u=>exact I.after hq
  | next=>exact False.elim hq
  | brk=>exact False.elim hq
  | cont=>exact False.elim hq
theorem vz8 (F:FnOk X.prog X.w X.K X.mg X.base CX k f fd ps sp) (hr:Room k X.A) (hg:Gl X x) (hm:X.mg x=some (.ref f)) (hk:W.keepIn X.K (.ref f)=true) (hb:Binds X.K fd ps ds) (hd:Vals dvs ds) (hx:Passes CX X E)
  (ha:PA X (e::es) t) (hdb:(x == ("__debug__" : Str))=false:=by decide) (he:starEach (e::es) X.env=(false,eval e X.env)::starEach es X.env:=by rfl) (hpl:(backTo pos (starEach es X.env)).any (·.1)=false:=by rfl) :
  PE X (.Call (.Name x p) (e::es) [] pos) (w97 sp dvs E t):=by
 intro pins s σ H Q I h;refine wpAny_Call_Name_kw (ur3 I hg hm ?_ hdb)
 (refine W.callWith_K (h₀:=X.base) I.ok.mod.kin hk (thn (ha pos pins s σ H _ I h) ?_) he hpl;rintro us s1 ⟨vs,H1,I1,r,q⟩;refine ⟨I1.kIn,?_⟩)
 exact v34 F hr hb hd hx I1 r q
theorem vz2 {pl:Sem Bool} (he:PE X o ta) (c:Cls X.K C) (hm:Meth X.K C m f) (F:FnOk X.prog X.w X.K X.mg X.base CX k f fd ps sp) (hr:Room k X.A) (hb:Binds X.K fd ps ds) (hd:Vals dvs ds) (hx:Passes CX X E) (ha:PA X (e::es) t)
  (hst:starEach (e::es) X.env=(false,eval e X.env)::starEach es X.env:=by rfl) (hpl:(backTo pos (starEach es X.env)).any (·.1)=false:=by rfl)
  (ht:eval (.Call (.Attribute o m apos) (e::es) [] pos) X.env=(do
   let ov <- eval o X.env
   standAt apos.atName
   let (f,first) <- holding [ov] (getMethod ov m pl)
   callWith pos f first (backTo pos (starEach (e::es) X.env)) (backToKw pos (keywordEach [] X.env))):=by rfl) :
  PE X (.Call (.Attribute o m apos) (e::es) [] pos) (vs0 C m sp dvs E ta t):=by
 intro pins s σ H Q I h
 (refine W.methodCall_KW (pl:=pl) (thn (he pins s σ H _ I h) ?_) ht;rintro u s1 ⟨x,H1,I1,rx,a,dx,fs,ex,ea,l,q⟩)
 subst ex;obtain rfl:u=Value.ref a:=rx;refine ub8 I1 ea c hm l ?_
 (refine W.callWith_K (first:=[.ref a]) (h₀:=X.base) I.ok.mod.kin hm.kp (thn (ha pos pins s1 σ H1 _ I1 q) ?_) hst hpl;rintro us s2 ⟨vs,H2,I2,r,q2⟩;refine ⟨I2.kIn,?_⟩)
 exact v34 (us:=.ref a::us) (vs:=.ref a::vs) F hr hb hd hx I2 (.cons rfl r) q2
theorem vf6 {pl:Sem Bool} (he:PE X o ta) (c:Cls X.K C) (hm:Meth X.K C m f) (F:FnOk X.prog X.w X.K X.mg X.base CX k f fd ps sp) (hr:Room k X.A) (hb:Binds X.K fd ps ds) (hd:Vals dvs ds) (hx:Passes CX X E)
  (ht:eval (.Call (.Attribute o m apos) [] [] pos) X.env=(do
   let ov <- eval o X.env
   standAt apos.atName
   let (f,first) <- holding [ov] (getMethod ov m pl)
   callWith pos f first (backTo pos (starEach [] X.env)) (backToKw pos (keywordEach [] X.env))):=by rfl) :
  PE X (.Call (.Attribute o m apos) [] [] pos) (vs0 C m sp dvs E ta tNil):=by
 intro pins s σ H Q I h
 (refine W.methodCall_KW (pl:=pl) (thn (he pins s σ H _ I h) ?_) ht;rintro u s1 ⟨x,H1,I1,rx,a,dx,fs,ex,ea,l,q⟩)
 subst ex;obtain rfl:u=Value.ref a:=rx;refine ub8 I1 ea c hm l ?_;exact W.callWith_K0 (first:=[.ref a]) I1.kIn hm.kp (v34 (us:=[.ref a]) (vs:=[.ref a]) F hr hb hd hx I1 (.cons rfl .nil) q)
structure Mk (K:W.Frag) (C f:Addr):Prop where
 makes:W.makesIn K C=true
 init:W.findIn K (.ref C) "__init__" = some (some (.ref f))
 fn:W.isFn K (.ref f)=true
 kp:W.keepIn K (.ref C)=true
theorem ve3 {pins:List (Addr × Obj)} {σ:St} {H:Hp} {s:Shared} {Q:VK} {us:List Value} {vs:List V} (M:Mk X.K C f) (F:FnOk X.prog X.w X.K X.mg X.base CX k f fd ps sp) (hr:Room (k+1) X.A) (hb:Binds X.K fd ps ds) (hd:Vals dvs ds)
  (hx:Passes CX X E) (I:Inv X pins σ H s) (r:Vals vs us)
  (h:∀ x dx,H x=none->H dx=none->dx ≠ x->sp (.ref x::(vs++dvs)) (upd (upd H dx (.own x)) x (.ins C dx [])) (fun v H2=>v=.non /\ Q (.ref x) H2) E) :
  wpAny (model X.prog X.w) X.A (call (.ref C) us) (EP X pins σ Q) X.xe s:=by
 have hq:=h (s.heap.objs.size+1) s.heap.objs.size (I.hok.fresh (Nat.le_succ _)) (I.hok.fresh (Nat.le_refl _)) (Nat.ne_of_lt (Nat.lt_succ_self _));have I2:=Inv.made (C:=C) I;have r2:Vals (V.ref (s.heap.objs.size+1)::(vs++dvs)) (Value.ref (s.heap.objs.size+1)::(us++ds)):=.cons rfl (r.append hd);have hl:(Value.ref (s.heap.objs.size+1)::us++ds).length=ps.length:=by
  have e:=r2.length;rw [F.len _ _ _ _ hq] at e;exact e.symm
 refine wpAny_call (vg6 (f:=f) I.kIn M.makes M.init (beq_iff_eq.mp M.fn) (codeAny_mono (F.run _ X.stack _ _ ⟨Value.ref (s.heap.objs.size+1)::us,[]⟩ (Value.ref (s.heap.objs.size+1)::(us++ds)) _ _ E (hr.make C us [])
  (I2.env0.make C us []) (hb _ (Value.ref (s.heap.objs.size+1)::us) I2.kIn hl) r2 hq) fun r s' hq'=>?_))
 cases r with
 | error e=>exact hx pins σ _ _ e s' I2 hq'
 | ok fl =>
  cases fl with
  | ret u =>
   obtain ⟨v,H',I3,rv,ev,q3⟩:=I2.after hq';subst ev;exact ⟨rv,⟨V.ref (s.heap.objs.size+1),H',I3,rfl,q3⟩⟩
  | next=>exact False.elim hq'
  | brk=>exact False.elim hq'
  | cont=>exact False.elim hq'
theorem vz3 (M:Mk X.K C f) (F:FnOk X.prog X.w X.K X.mg X.base CX k f fd ps sp) (hr:Room (k+1) X.A) (hg:Gl X x) (hm:X.mg x=some (.ref C)) (hb:Binds X.K fd ps ds) (hd:Vals dvs ds) (hx:Passes CX X E)
  (ha:PA X (e::es) t) (hdb:(x == ("__debug__" : Str))=false:=by decide) (he:starEach (e::es) X.env=(false,eval e X.env)::starEach es X.env:=by rfl) (hpl:(backTo pos (starEach es X.env)).any (·.1)=false:=by rfl) :
  PE X (.Call (.Name x p) (e::es) [] pos) (w93 C sp dvs E t):=by
 intro pins s σ H Q I h;refine wpAny_Call_Name_kw (ur3 I hg hm ?_ hdb)
 (refine W.callWith_K (h₀:=X.base) I.ok.mod.kin M.kp (thn (ha pos pins s σ H _ I h) ?_) he hpl;rintro us s1 ⟨vs,H1,I1,r,q⟩;refine ⟨I1.kIn,?_⟩)
 exact ve3 M F hr hb hd hx I1 r q
end
structure FnScope (N P:List Str) (sc:Scope):Prop where
 kind:sc.kind=.function
 co:sc.isCoroutine=false
 gen:sc.isGenerator=false
 nd:N.Nodup
 pre:N.take P.length=P
 par:∀ x ∈ P,sc.names.lookup x=some .local \/ sc.names.lookup x=some .cell
 nofree:∀ y ∈ sc.names,y.2 ≠ .free
theorem up7 {kindOf:Str->Option NameKind} {x:Str}:∀ {binds:List (Str × Value)} {m:Str->Option Value},(∀ v,(x,v) ∉ binds)->bindL kindOf binds m x=m x
 | [],_,_=>rfl
 | (n,v)::r,m,h=>by
  unfold bindL;rw [up7 fun w hw=>h w (List.mem_cons_of_mem _ hw)];split
  ·have:x ≠ n:=by rintro rfl;exact h v List.mem_cons_self
   simp [this]
  ·rfl
theorem up9 {kindOf:Str->Option NameKind} {x:Str}:∀ {binds:List (Str × Value)} {m:Str->Option Value},(∀ v,(x,v) ∉ binds)->bindC kindOf binds m x=m x
 | [],_,_=>rfl
 | (n,v)::r,m,h=>by
  unfold bindC;rw [up9 fun w hw=>h w (List.mem_cons_of_mem _ hw)];split
  ·rfl
  ·have:x ≠ n:=by rintro rfl;exact h v List.mem_cons_self
   simp [this]
theorem up8 {kindOf:Str->Option NameKind} {x:Str} {v:Value}:∀ {P:List Str} {vs:List Value} {i:Nat} {m:Str->Option Value},P.Nodup->P[i]?=some x->vs[i]?=some v->kindOf x=some .local ->
  bindL kindOf (P.zip vs) m x=some v
 | [],_,_,_,_,h,_,_=>by simp at h
 | _::_,[],_,_,_,_,h,_=>by simp at h
 | p::P,w::vs,0,m,nd,h1,h2,hk=>by
  simp at h1 h2;subst h1;subst h2
  show bindL kindOf ((p,w)::P.zip vs) m p=_
  unfold bindL;rw [up7 fun v hv=>(List.nodup_cons.mp nd).1 (List.of_mem_zip hv).1,if_pos hk];simp
 | p::P,w::vs,i+1,m,nd,h1,h2,hk=>by
  show bindL kindOf ((p,w)::P.zip vs) m x=_
  unfold bindL;exact up8 (i:=i) (List.nodup_cons.mp nd).2 (by simpa using h1) (by simpa using h2) hk
theorem uq0 {kindOf:Str->Option NameKind} {x:Str} {v:Value}:∀ {P:List Str} {vs:List Value} {i:Nat} {m:Str->Option Value},P.Nodup->P[i]?=some x->vs[i]?=some v->kindOf x ≠ some .local ->
  bindC kindOf (P.zip vs) m x=some v
 | [],_,_,_,_,h,_,_=>by simp at h
 | _::_,[],_,_,_,_,h,_=>by simp at h
 | p::P,w::vs,0,m,nd,h1,h2,hk=>by
  simp at h1 h2;subst h1;subst h2
  show bindC kindOf ((p,w)::P.zip vs) m p=_
  unfold bindC;rw [up9 fun v hv=>(List.nodup_cons.mp nd).1 (List.of_mem_zip hv).1,if_neg hk];simp
 | p::P,w::vs,i+1,m,nd,h1,h2,hk=>by
  show bindC kindOf ((p,w)::P.zip vs) m x=_
  unfold bindC;exact uq0 (i:=i) (List.nodup_cons.mp nd).2 (by simpa using h1) (by simpa using h2) hk
def start (N:List Str) (vs:List V):St:=vs.map some++List.replicate (N.length - vs.length) none
def cxOf (CX:CXT) (P:Program) (w:World) (K:W.Frag) (mg:Str->Option Value) (base:Heap) (N:List Str) (qual:Str) (scope:Scope) (f:Addr) (cd:Value) (A:Around) (outer:List Env) (s:Shared) (H:Hp) (E:XK):Cx where
 prog:=P
 w:=w
 K:=K
 mg:=mg
 base:=base
 A:=A.deeper (envOfC qual scope s.heap.objs.size f cd)
 N:=N
 s₀:=s
 H₀:=H
 env:=envOfC qual scope s.heap.objs.size f cd
 outer:=outer
 stack:=envOfC qual scope s.heap.objs.size f cd::outer
 ex:=[]
 calm:=true
 fn:=fun _=>true
 pn:=[]
 xe:=fun e s'=>wpAny (model P w) (A.deeper (envOfC qual scope s.heap.objs.size f cd)) (leaving (envOfC qual scope s.heap.objs.size f cd) e) (fun _ s''=>CX outer H s E e s'') (fun e' s''=>CX outer H s E e' s'') s'
theorem ux4 {sc:Scope} {n:Nat} {x:Str} (h:sc.names.lookup x=some .cell):∃ c,(cellsFrom n sc.names []).lookup x=some c:=by
 have q:=W.cellsFrom_some sc.names n [] (.inl h);exact Option.isSome_iff_exists.mp q
theorem v76 {CX:CXT} {P:Program} {w:World} {K:W.Frag} {mg:Str->Option Value} {base:Heap} {N ps:List Str} {qual:Str} {scope:Scope} {f:Addr} {cd:Value} {A:Around} {outer:List Env} {s s1:Shared} {H:Hp} {E:XK} {us:List Value} {vs:List V}
  (S:FnScope N ps scope) (hd:A.handled=none) (e0:Env0 P w K mg base A outer s H) (hl:vs.length=ps.length) (r:Vals vs us)
  (x:InCallC s s.heap.objs.size (bindL (envOfC qual scope s.heap.objs.size f cd).kindOf (ps.zip us) fun _=>none) (cellsFrom (s.heap.objs.size+1) scope.names []) (bindC (envOfC qual scope s.heap.objs.size f cd).kindOf (ps.zip us) fun _=>none) s1) :
  Inv (cxOf CX P w K mg base N qual scope f cd A outer s H E) [] (start N vs) H s1:=by
 have hpl:ps.length<=N.length:=by have:=congrArg List.length S.pre;rw [List.length_take] at this;omega
 obtain ⟨h1,tk,rfl,hk⟩:=x.done;have noA:∀ b:Addr,b ∉ (cxOf CX P w K mg base N qual scope f cd A outer s H E).ex:=fun b z=>absurd (show b ∈ ([]:List Addr) from z) (by simp)
 refine ⟨⟨e0.mod,S.kind,rfl,rfl,Nat.le_refl _,fun y z c h1 h2=>?_,fun y hy=>?_,fun y c _ h=>?_,fun _=>hd,Around.frames_deeper e0.frames,.inr ⟨rfl,rfl⟩,fun b z=>absurd z (noA b),e0.bs,e0.bsz,fun b _ _=>noA b,fun b z=>absurd z (noA b),e0.funs,e0.frf⟩,
  rfl,e0.bare,Un.kept hk,⟨_,x.toInCall.ns,fun i y v h1 h2 h3=>?_⟩,fun y c h=>⟨_,x.cell y c h⟩,e0.hok.fresh (Nat.le_refl _),fun y c h=>?_,fun p hp=>absurd (show p ∈ ([]:List (Addr × Obj)) from hp) (by simp),e0.hok.kept hk,?_⟩
 ·exact name_of_addr x.apart (PySem.mem_of_lookup h1) (PySem.mem_of_lookup h2)
 ·have hy:scope.names.lookup y=some .cell \/ scope.names.lookup y=some .free:=hy
  rcases hy with hy | hy
  ·exact ux4 hy
  ·exact absurd rfl (S.nofree _ (PySem.mem_of_lookup hy))
 ·exact Nat.le_of_lt (x.above y c (PySem.mem_of_lookup h))
 ·have hi:i < vs.length:=by
   unfold start at h2
   by_cases hi:i < vs.length
   ·exact hi
   ·rw [List.getElem?_append_right (by simpa using hi)] at h2
    rw [List.getElem?_replicate] at h2;split at h2 <;> cases h2
  have ha:vs[i]?=some v:=by
   unfold start at h2;rw [List.getElem?_append_left (by simpa using hi),List.getElem?_map] at h2;cases e:vs[i]? with
   | none=>rw [e] at h2;cases h2
   | some a=>rw [e] at h2;cases h2;rfl
  obtain ⟨u,hu,rv⟩:=r.get ha;have hp:ps[i]?=some y:=by
   rw [<- S.pre,List.getElem?_take_of_lt (by omega)];exact h1
  have ndP:ps.Nodup:=by rw [<- S.pre];exact S.nd.sublist (List.take_sublist _ _)
  refine ⟨u,rv,?_⟩
  rcases S.par y (List.mem_of_getElem? hp) with k | k
  ·exact .inl ⟨k,up8 ndP hp hu k⟩
  ·obtain ⟨c,e⟩:=ux4 (n:=s.heap.objs.size+1) k
   refine .inr ⟨.inl k,c,e,?_⟩;have q:=x.cell y c e;rw [uq0 ndP hp hu (by show scope.names.lookup y ≠ _;rw [k];decide)] at q;exact q
 ·exact e0.hok.fresh (Nat.le_of_lt (x.above y c (PySem.mem_of_lookup h)))
 ·unfold start
  show _=N.length
  rw [List.length_append,List.length_map,List.length_replicate];omega
theorem ww5 {CX:CXT} {P:Program} {w:World} {K:W.Frag} {mg:Str->Option Value} {base:Heap} {k:Nat} {f:Addr} {name qual:Str} {params:Arguments} {body:List Stmt} {scope:Scope} {dV kV doc pm cdv ct oc:Value} {an od:Option Addr}
  {osl:Array (Option Value)} {N ps:List Str} {sp:Sp} (lk:K.lookup f=some ⟨oc,od,.func (W.fnOf name qual params body scope dV kV doc pm an cdv ct),osl⟩) (hcd:W.codeIn K cdv qual=true) (S:FnScope N ps scope)
  (len:∀ vs H Q E,sp vs H Q E->vs.length=ps.length)
  (hbody:∀ (A:Around) (outer:List Env) (s:Shared) (H:Hp) (vs:List V) (Q:VK) (E:XK),Room k (A.deeper (envOfC qual scope s.heap.objs.size f cdv))->sp vs H Q E ->
   ∃ t,PSs (cxOf CX P w K mg base N qual scope f cdv A outer s H E) body t /\ t { nx:=fun _ H'=>Q .non H',rt:=Q } (start N vs) H) :
  FnOk P w K mg base CX (k+1) f (W.fnOf name qual params body scope dV kV doc pm an cdv ct) ps sp:=by
 refine ⟨len,fun A outer s H args us vs Q E hr e0 hb r hsp=>?_⟩;have hl:=len _ _ _ _ hsp;have KX:K.In s.heap:=e0.mod.kin.keeps fun b o e=>(e0.bs b o e).1
 have lim:s.heap.NoLimit:=e0.mod.nolimit.keeps fun b o e=>(e0.bs b o e).1
 have hkind:∀ y ∈ ps.zip us,scope.names.lookup y.1=some .local \/ (scope.names.lookup y.1=some .cell /\ ((cellsFrom (s.heap.objs.size+1) scope.names []).lookup y.1).isSome=true):=fun ⟨n,v⟩ hy=>by
  rcases S.par n (List.of_mem_zip hy).1 with q | q
  ·exact .inl q
  ·exact .inr ⟨q,W.cellsFrom_some _ _ _ (.inl q)⟩
 refine codeAny_call_function hr.depth (KX _ _ lk) rfl S.co S.gen rfl (W.codeRec_of KX hcd) (hb _ _ _ _ ?_);refine wpAny_newFunctionEnv_cells S.kind hkind fun env he s1 x=>?_
 subst he;refine ⟨lim.keeps x.toInCall.keep,codeAny_func ?_⟩;obtain ⟨t,ht,hq⟩:=hbody A outer s H vs Q E (hr.deeper _) hsp;have I:Inv (cxOf CX P w K mg base N qual scope f cdv A outer s H E) [] (start N vs) H s1:=v76 S hr.hd e0 hl r x;refine wpAny_mono (ht [] s1 (start N vs) H _ I hq) (fun fl s' hs=>?_) fun e s' hs=>hs
 have fin:∀ {σ':St} {H':Hp} {v:V} {u:Value},Inv (cxOf CX P w K mg base N qual scope f cdv A outer s H E) [] σ' H' s'->RelV v u->Q v H'->CE outer P w H s Q u s' :=
  fun {σ' H' v u} J rv q=>⟨v,H',J.os,J.bare,J.base,J.hok,rv,q⟩
 cases fl with
 | ret u =>
  obtain ⟨v,σ',H',J,rv,q⟩:=hs;exact fin J rv q
 | next =>
  obtain ⟨σ',H',J,q⟩:=hs;exact fin (v:=V.non) (u:=Value.none) J rfl q
 | brk =>
  obtain ⟨_,_,_,q⟩:=hs;exact False.elim q
 | cont =>
  obtain ⟨_,_,_,q⟩:=hs;exact False.elim q
section
variable {X:Cx} {x:Str} {p pos:Pos} {e:Expr} {es:List Expr} {t:TA} {id T:String} {r:List V->Hp->VK->Prop}
def tCB (r:List V->Hp->VK->Prop) (t:TA):TE:=fun σ H Q=>t σ H fun vs H1=>r vs H1 Q
theorem vf9 (hc:CallR X (.builtin id) r) (hg:Gl X x) (hm:X.mg x=none) (hv:bootBuiltins x=some (.builtin id)) (ha:PA X (e::es) t) (hn:x ≠ "__name__" := by decide) (hdb:(x == ("__debug__" : Str))=false:=by decide)
  (he:starEach (e::es) X.env=(false,eval e X.env)::starEach es X.env:=by rfl) (hpl:(backTo pos (starEach es X.env)).any (·.1)=false:=by rfl):PE X (.Call (.Name x p) (e::es) [] pos) (tCB r t):=by
 intro pins s σ H Q I h;refine wpAny_Call_Name_kw (u96 I hg hm hv ?_ hn hdb)
 (refine PyProof.Rows.callWith_builtin1 (thn (ha pos pins s σ H _ I h) ?_) he hpl;rintro us s1 ⟨vs,H1,I1,r1,q1⟩;exact hc pins s1 σ H1 vs us Q I1 r1 q1)
theorem v48 (hc:CallR X (.type T) r) (hg:Gl X x) (hm:X.mg x=none) (hv:bootBuiltins x=some (.type T)) (ha:PA X (e::es) t) (hn:x ≠ "__name__" := by decide) (hdb:(x == ("__debug__" : Str))=false:=by decide)
  (he:starEach (e::es) X.env=(false,eval e X.env)::starEach es X.env:=by rfl) (hpl:(backTo pos (starEach es X.env)).any (·.1)=false:=by rfl):PE X (.Call (.Name x p) (e::es) [] pos) (tCB r t):=by
 intro pins s σ H Q I h;refine wpAny_Call_Name_kw (u96 I hg hm hv ?_ hn hdb)
 (refine PyProof.Rows.callWith_type1 (thn (ha pos pins s σ H _ I h) ?_) he hpl;rintro us s1 ⟨vs,H1,I1,r1,q1⟩;exact hc pins s1 σ H1 vs us Q I1 r1 q1)
end
section
variable {κ:Type} [DecidableEq κ]
def valV (kvs:List (κ × V)) (k:κ):Option V:=(kvs.find? fun kv=>decide (kv.1=k)).map (·.2)
def putK (kvs:List (κ × V)) (k:κ) (v:V):List (κ × V) :=
 if (kvs.any fun kv=>decide (kv.1=k))=true then kvs.map (fun kv=>if kv.1=k then (kv.1,v) else kv) else kvs++[(k,v)]
theorem ud1 {p:κ × V} {r:List (κ × V)} {k:κ} (e:p.1=k):valV (p::r) k=some p.2:=by simp [valV,List.find?_cons,e]
theorem ud2 {p:κ × V} {r:List (κ × V)} {k:κ} (e:¬ p.1=k):valV (p::r) k=valV r k:=by simp [valV,List.find?_cons,e]
theorem uu0 (k:κ):∀ kvs:List (κ × V),(kvs.any fun kv=>decide (kv.1=k))=(valV kvs k).isSome
 | []=>rfl
 | p::r=>by
  rw [List.any_cons]
  by_cases e:p.1=k
  ·simp only [ud1 e,decide_eq_true e,Bool.true_or,Option.isSome_some]
  ·rw [ud2 e,decide_eq_false e,Bool.false_or];exact uu0 k r
theorem u66 (kvs:List (κ × V)) (k:κ) (v:V):(putK kvs k v).length<=kvs.length+1:=by
 unfold putK;split
 ·rw [List.length_map];omega
 ·rw [List.length_append,List.length_cons,List.length_nil];omega
theorem RelO.isSome_eq {o:Option V} {u:Option Value} (r:RelO o u):o.isSome=u.isSome:=by
 cases o with
 | none=>cases u with
  | none=>rfl
  | some _=>exact (show False from r).elim
 | some _=>cases u with
  | none=>exact (show False from r).elim
  | some _=>rfl
theorem RelO.getD {o:Option V} {u:Option Value} {d:V} {d':Value} (r:RelO o u) (rd:RelV d d'):RelV (o.getD d) (u.getD d'):=by
 cases o with
 | none=>cases u with
  | none=>exact rd
  | some _=>exact (show False from r).elim
 | some _=>cases u with
  | none=>exact (show False from r).elim
  | some _=>exact r
theorem KV.val {kvs:List (κ × V)} {vs:List (κ × Value)} (r:KV kvs vs) (k:κ):RelO (valV kvs k) (valueAt vs k):=by
 unfold KV at r
 induction r with
 | nil=>exact True.intro
 | @cons p q ps qs h t ih =>
  obtain ⟨h1,h2⟩:=h
  by_cases e:p.1=k
  ·have e':q.1=k:=h1.symm.trans e
   have b:valueAt (q::qs) k=some q.2:=by simp [valueAt,List.find?_cons,e']
   rw [ud1 e,b];exact h2
  ·have e':¬ q.1=k:=fun z=>e (h1.trans z)
   have b:valueAt (q::qs) k=valueAt qs k:=by simp [valueAt,List.find?_cons,e']
   rw [ud2 e,b];exact ih
theorem KV.any {kvs:List (κ × V)} {vs:List (κ × Value)} (r:KV kvs vs) (k:κ):(kvs.any fun kv=>decide (kv.1=k))=vs.any fun kv=>decide (kv.1=k):=by
 unfold KV at r
 induction r with
 | nil=>rfl
 | cons h t ih=>rw [List.any_cons,List.any_cons,ih,h.1]
theorem KV.repl {kvs:List (κ × V)} {vs:List (κ × Value)} (r:KV kvs vs) (k:κ) {y:V} {u:Value} (ry:RelV y u) :
  KV (kvs.map fun kv=>if kv.1=k then (kv.1,y) else kv) (vs.map fun kv=>if kv.1=k then (kv.1,u) else kv):=by
 unfold KV at r ⊢
 induction r with
 | nil=>exact .nil
 | @cons p q ps qs h t ih =>
  rw [List.map_cons,List.map_cons];refine .cons ?_ ih;obtain ⟨h1,h2⟩:=h
  by_cases e:p.1=k
  ·rw [if_pos e,if_pos (h1.symm.trans e)];exact ⟨h1,ry⟩
  ·rw [if_neg e,if_neg (fun z=>e (h1.trans z))];exact ⟨h1,h2⟩
theorem KV.put {kvs:List (κ × V)} {vs:List (κ × Value)} (r:KV kvs vs) (k:κ) {y:V} {u:Value} (ry:RelV y u):KV (putK kvs k y) (stored vs k u):=by
 unfold putK stored;rw [r.any k]
 by_cases e:(vs.any fun kv=>decide (kv.1=k))=true
 ·rw [if_pos e,if_pos e];exact r.repl k ry
 ·rw [if_neg e,if_neg e];exact Paired.snoc r ⟨rfl,ry⟩
theorem KV.keys {kvs:List (κ × V)} {vs:List (κ × Value)} (r:KV kvs vs):kvs.map (·.1)=vs.map (·.1):=by
 unfold KV at r
 induction r with
 | nil=>rfl
 | cons h t ih=>rw [List.map_cons,List.map_cons,ih,h.1]
theorem KV.length {kvs:List (κ × V)} {vs:List (κ × Value)} (r:KV kvs vs):kvs.length=vs.length:=Paired.length r
end
theorem v72 {P:Program} {w:World} {k:Key} {u:Value} (r:RelV (kV k) u):(u33 P w).is k u=true:=by
 cases k with
 | inl i=>obtain ⟨t,e⟩:=(show ∃ t,u=Value.int i t from r);subst e;exact ur1 P w i t
 | inr x=>obtain ⟨t,e⟩:=(show ∃ t,u=Value.str x t from r);subst e;exact ur0 P w x t
theorem uo5 {P:Program} {w:World}:∀ {ks:List Key} {us:List Value},Vals (ks.map kV) us->ItemsAre (u33 P w) ks us
 | [],_,r=>by rw [List.map_nil] at r;cases r;exact .nil
 | k::ks,_,r=>by
  rw [List.map_cons] at r;cases r with
  | cons h t=>exact .cons (v72 h) (uo5 t)
abbrev KT (H:Hp):List (List Key × V)->List (List Key × Addr × Value)->Prop:=Paired fun p q=>p.1=q.1 /\ H q.2.1=some (.tup (p.1.map kV)) /\ RelV p.2 q.2.2
theorem KT.val {H:Hp} {kvs:List (List Key × V)} {xs:List (List Key × Addr × Value)} (r:KT H kvs xs) (k:List Key):RelO (valV kvs k) ((atKey xs k).map (·.2)):=by
 induction r with
 | nil=>exact True.intro
 | @cons p q ps qs h t ih =>
  obtain ⟨h1,_,h2⟩:=h
  by_cases e:p.1=k
  ·have e':q.1=k:=h1.symm.trans e
   have b:atKey (q::qs) k=some q.2:=by simp [atKey,List.find?_cons,e']
   rw [ud1 e,b];exact h2
  ·have e':¬ q.1=k:=fun z=>e (h1.trans z)
   have b:atKey (q::qs) k=atKey qs k:=by simp [atKey,List.find?_cons,e']
   rw [ud2 e,b];exact ih
theorem KT.repl {H:Hp} {kvs:List (List Key × V)} {xs:List (List Key × Addr × Value)} (r:KT H kvs xs) (k:List Key) {y:V} {u:Value} (ry:RelV y u) :
  KT H (kvs.map fun kv=>if kv.1=k then (kv.1,y) else kv) (xs.map (putAt k u)):=by
 induction r with
 | nil=>exact .nil
 | @cons p q ps qs h t ih =>
  rw [List.map_cons,List.map_cons];refine .cons ?_ ih;obtain ⟨h1,h2,h3⟩:=h;unfold putAt
  by_cases e:p.1=k
  ·rw [if_pos e,if_pos (h1.symm.trans e)];exact ⟨h1,h2,ry⟩
  ·rw [if_neg e,if_neg (fun z=>e (h1.trans z))];exact ⟨h1,h2,h3⟩
theorem KT.put {H:Hp} {kvs:List (List Key × V)} {xs:List (List Key × Addr × Value)} (r:KT H kvs xs) (k:List Key) {b:Addr} {y:V} {u:Value} (hb:H b=some (.tup (k.map kV))) (ry:RelV y u) :
  KT H (putK kvs k y) (storedH xs k b u):=by
 have e:(kvs.any fun kv=>decide (kv.1=k))=(atKey xs k).isSome:=by
  rw [uu0,(r.val k).isSome_eq,Option.isSome_map]
 unfold putK storedH;rw [e]
 by_cases q:(atKey xs k).isSome=true
 ·rw [if_pos q,if_pos q];exact r.repl k ry
 ·rw [if_neg q,if_neg q];exact Paired.snoc r ⟨rfl,hb,ry⟩
theorem KT.keeps {H H':Hp} {kvs:List (List Key × V)} {xs:List (List Key × Addr × Value)} (r:KT H kvs xs) (ht:∀ b ys,H b=some (.tup ys)->H' b=some (.tup ys)):KT H' kvs xs :=
 Paired.mapP r fun _ _ z=>⟨z.1,ht _ _ z.2.1,z.2.2⟩
section
variable {P:Program} {w:World} {H:Hp} {h:Heap} {a:Addr}
theorem wa8 {u:HO} (ok:HOk P w H h) (e:Rd H a u):ObjOk P w H h a u:=e.ok ok
theorem v00 {kvs:List (Key × V)} (ok:HOk P w H h) (e:Rd H a (.dK kvs)):kvs.length<=sizeLine /\ (a == sysModules)=false /\ ∃ vs,KV kvs vs /\ h.DictOf (u33 P w) a vs :=
 show ObjOk P w H h a (.dK kvs) from wa8 ok e
theorem vj6 {kvs:List (Key × V)} (ok:HOk P w H h) (e:H a=some (.dK kvs)):kvs.length<=sizeLine /\ (a == sysModules)=false /\ ∃ vs,KV kvs vs /\ h.DictOf (u33 P w) a vs:=v00 ok (.inl e)
theorem uw2 {ks:List Key} (ok:HOk P w H h) (e:H a=some (.tup (ks.map kV))):(tupleKind (u33 P w)).is h ks a:=by
 obtain ⟨_,its,r,o,h1,h2,⟨n,h3⟩,_⟩:=(show ObjOk P w H h a (.tup (ks.map kV)) from ok a _ e);exact ⟨o,its.toArray,n,h1,h2,h3,by simpa using uo5 r⟩
theorem v87 {kvs:List (List Key × V)} (ok:HOk P w H h) (e:Rd H a (.dT kvs)):kvs.length<=sizeLine /\ (a == sysModules)=false /\
  ∃ xs,KT H kvs xs /\ h.DictOfH (tupleKind (u33 P w)) a xs:=by
 obtain ⟨z,y,xs,r,o,es,ep,h1,h2,h3,h4,h5⟩:=(show ObjOk P w H h a (.dT kvs) from wa8 ok e);refine ⟨z,y,xs,r,o,es,ep,h1,h2,h3,h4,fun x hx=>?_,h5⟩;have all:∀ {l:List (List Key × V)} {m:List (List Key × Addr × Value)},KT H l m->∀ x ∈ m,(tupleKind (u33 P w)).is h x.1 x.2.1:=by
  intro l m q
  induction q with
  | nil=>intro x hx;exact nomatch hx
  | @cons p q ps qs hq t ih =>
   intro x hx
   rcases List.mem_cons.mp hx with e | hx
   ·subst e
    exact uw2 ok (by rw [<- hq.1];exact hq.2.1)
   ·exact ih x hx
 exact all r x hx
theorem wx0 {kvs:List (List Key × V)} (ok:HOk P w H h) (e:H a=some (.dT kvs)):kvs.length<=sizeLine /\ (a == sysModules)=false /\
  ∃ xs,KT H kvs xs /\ h.DictOfH (tupleKind (u33 P w)) a xs:=v87 ok (.inl e)
end
def DGet (H:Hp) (a:Addr) (y:V) (r:Option V):Prop :=
 (∃ kvs k,Rd H a (.dK kvs) /\ y=kV k /\ r=valV kvs k) \/ ∃ kvs k b,Rd H a (.dT kvs) /\ y=.ref b /\ H b=some (.tup (k.map kV)) /\ r=valV kvs k
def DPut (H:Hp) (a:Addr) (y v:V) (H':Hp):Prop :=
 (∃ kvs k,H a=some (.dK kvs) /\ y=kV k /\ kvs.length < sizeLine /\ H'=upd H a (.dK (putK kvs k v))) \/
 ∃ kvs k b,H a=some (.dT kvs) /\ y=.ref b /\ H b=some (.tup (k.map kV)) /\ kvs.length < sizeLine /\ H'=upd H a (.dT (putK kvs k v))
theorem DGet.k {H:Hp} {a:Addr} {kvs:List (Key × V)} {k:Key} (e:H a=some (.dK kvs)):DGet H a (kV k) (valV kvs k):=.inl ⟨kvs,k,.inl e,rfl,rfl⟩
theorem DPut.k {H:Hp} {a:Addr} {kvs:List (Key × V)} {k:Key} {v:V} (e:H a=some (.dK kvs)) (hl:kvs.length < sizeLine):DPut H a (kV k) v (upd H a (.dK (putK kvs k v))):=.inl ⟨kvs,k,e,rfl,hl,rfl⟩
section
variable {X:Cx} {pins:List (Addr × Obj)} {σ:St} {H:Hp} {s:Shared} {a:Addr} {y v:V} {u r:Value} {o:Option V} {A:Around} {E:Value->Shared->Prop}
theorem Inv.big (I:Inv X pins σ H s):sysModules < s.heap.objs.size:=by
 have h:mainGlobals < s.heap.objs.size:=(I.mod.glob.keeps I.bk).lt;exact Nat.lt_trans (by decide) h
theorem v95 {Q:Value->Shared->Prop} (hu:A.units+1 < cLine) (I:Inv X pins σ H s) (g:DGet H a y (some v)) (ry:RelV y u) (h:∀ w' s',Inv X pins σ H s'->RelV v w'->Q w' s') :
  wpAny (model X.prog X.w) A (getItem (.ref a) u) Q E s:=by
 rcases g with ⟨kvs,k,e,ey,l⟩ | ⟨kvs,k,b,e,ey,eb,l⟩
 ·subst ey
  obtain ⟨z,hd,vs,rel,dd⟩:=v00 I.hok e;obtain ⟨w',hw,rw'⟩:=RelO.some_of (v:=v) (o:=valueAt vs k) (by rw [l];exact rel.val k);exact wpAny_getItem_of (v72 ry) dd.mapOf hw (h w' _ (I.tok _) rw')
 ·subst ey
  cases (show u=Value.ref b from ry);obtain ⟨z,hd,xs,rel,dd⟩:=v87 I.hok e;obtain ⟨w',hw,rw'⟩:=RelO.some_of (v:=v) (o:=(atKey xs k).map (·.2)) (by rw [l];exact rel.val k);obtain ⟨p,hp,hp2⟩:=Option.map_eq_some_iff.mp hw;refine wpAny_getItem_heap (tupleKind_room_in1 hu) (uw2 I.hok eb) dd hp ?_;rw [hp2];exact h w' _ (I.tok _) rw'
theorem ul1 {h':Heap} {t':Nat} {ob:HO} (I:Inv X pins σ H s) (mu:Mut (H a)) (hs:Heap.SameBut a s.heap h') (he:∃ q,h'.get? a=some q) (new:ObjOk X.prog X.w (upd H a ob) h' a ob) :
  Inv X pins σ (upd H a ob) { s with heap:=h',toks:=t' } :=
 I.write (x:=a) (e:=a) mu (.inl rfl) (fun b q hb z=>(hs.2 b hb).trans z) he new
theorem v90 {P:Program} {w:World} {H':Hp} {h':Heap} {kvs:List (Key × V)} {vs:List (Key × Value)} (z:kvs.length<=sizeLine) (hd:(a == sysModules)=false) (rel:KV kvs vs) (dd:h'.DictOf (u33 P w) a vs) :
  ObjOk P w H' h' a (.dK kvs):=⟨z,hd,vs,rel,dd⟩
theorem v94 {H':Hp} {Q:Unit->Shared->Prop} (hu:A.units+1 < cLine) (I:Inv X pins σ H s) (g:DPut H a y v H') (ry:RelV y u) (rv:RelV v r) (h:∀ s',Inv X pins σ H' s'->Q () s') :
  wpAny (model X.prog X.w) A (setItem (.ref a) u r) Q E s:=by
 rcases g with ⟨kvs,k,e,ey,l,eH⟩ | ⟨kvs,k,b,e,ey,eb,l,eH⟩
 ·subst ey eH
  obtain ⟨z,hd,vs,rel,dd⟩:=vj6 I.hok e;have hz:vs.length<=sizeLine:=by rw [<- rel.length];exact z
  have hl:(putK kvs k v).length<=sizeLine:=by have:=u66 kvs k v;omega
  refine wpAny_setItem_pairs (hsz:=hz) (v72 ry) dd fun h' dd' hs=>h _ ?_
  have he:∃ q,h'.get? a=some q:=let ⟨q,_,_,hq,_⟩:=dd';⟨q,hq⟩;exact ul1 I (by rw [e];exact True.intro) hs he (v90 hl hd (rel.put k rv) dd')
 ·subst ey eH
  cases (show u=Value.ref b from ry);obtain ⟨z,hd,xs,rel,dd⟩:=wx0 I.hok e;have hz:xs.length<=sizeLine:=by rw [<- Paired.length rel];exact z
  have hl:(putK kvs k v).length<=sizeLine:=by have:=u66 kvs k v;omega
  refine wpAny_setItem_heap (hsz:=hz) (tupleKind_room_in1 hu) (uw2 I.hok eb) dd fun h' dd' hs=>h _ ?_
  obtain ⟨q,es,ep,hq,h2,h3,h4,_,h5⟩:=dd';refine ul1 I (by rw [e];exact True.intro) hs ⟨q,hq⟩ ⟨hl,hd,_,(rel.put k eb rv).keeps fun c ys ec=>?_,q,es,ep,hq,h2,h3,h4,h5⟩;rw [u18 (ww1 ec e (fun z=>nomatch z))];exact ec
end
def NoSl (i:Expr):Prop:=∀ ov iv,subscripted i false ov iv=operate [ov,iv] (getItem ov iv)
theorem vs5 {prog:Program} {w:World} {A:Around} {E:Value->Shared->Prop} {s:Shared} {env:Env} {value slice:Expr} {pos:Pos} {T id:String} {Q:Value->Shared->Prop}
  (hl:typeLookup (.type T) "__getitem__" = pure (some (.builtin id))) (hs:NoSl slice)
  (h:wpAny (model prog w) A (eval value env) (fun o s₁=>wpAny (model prog w) A (eval slice env) (fun i s₂=>s₂.TypeIs o T /\ wpAny (model prog w) A (getItem o i) Q E s₂) E s₁) E s) :
  wpAny (model prog w) A (eval (.Subscript value slice pos) env) Q E s:=by
 refine Subscript_ (wpAny_mono h (fun o s₁ h₁=>wpAny_mono h₁ (fun i s₂ h₂=>?_) fun _ _ x=>x) fun _ _ x=>x);obtain ⟨hT,h₂⟩:=h₂;unfold subscriptTail;refine wpAny_bind ?_;rw [getitemInPython_of_ne hT.not_modules];refine wpAny_bind (wpAny_specialOf hT hl ?_);have fin:wpAny (model prog w) A (subscripted slice false o i) (fun r s₃=>wpAny (model prog w) A (letTemporaryGo value o r >>= fun _=>pure r) Q E s₃) E s₂:=by
  rw [hs o i];exact wpAny_operating (wpAny_mono h₂ (fun r s₃ h₃=>wpAny_bind (wpAny_letTemporaryGo (wpAny_pure h₃))) fun _ _ x=>x)
 first
  | exact wpAny_pure (wpAny_bind fin)
  | exact wpAny_bind (wpAny_pure (wpAny_bind fin))
  | exact wpAny_bind fin
theorem us2 {X:Cx} {pins:List (Addr × Obj)} {σ:St} {H:Hp} {s:Shared} {a:Addr} {y:V} {o:Option V} (I:Inv X pins σ H s) (g:DGet H a y o):s.TypeIs (.ref a) "dict" := by
 rcases g with ⟨kvs,k,e,_,_⟩ | ⟨kvs,k,b,e,_,_,_⟩
 ·obtain ⟨_,_,vs,_,dd⟩:=v00 I.hok e
  exact dd.typeIs
 ·obtain ⟨_,_,xs,_,dd⟩:=v87 I.hok e
  exact dd.typeIs
def vs3 (td ty:TE):TE:=fun σ H Q=>td σ H fun x H1=>ty σ H1 fun y H2=>∃ a v,x=.ref a /\ DGet H2 a y (some v) /\ Q v H2
def wu7 (td ty tv:TE):TS:=fun D σ H=>tv σ H fun v H1=>td σ H1 fun x H2=>ty σ H2 fun y H3=>∃ a H4,x=.ref a /\ DPut H3 a y v H4 /\ D.nx σ H4
section
variable {X:Cx} {o i e value:Expr} {pos pos' tpos:Pos} {td ty tv:TE}
theorem v47 (hu:X.A.units+1 < cLine) (ho:PE X o td) (hi:PE X i ty) (hs:NoSl i):PE X (.Subscript o i pos) (vs3 td ty):=by
 intro pins s σ H Q I h
 (refine vs5 PySem.F.slot_dict_getitem.lookup hs (thn (ho pins s σ H _ I h) ?_);rintro u s1 ⟨x,H1,I1,rx,q1⟩;refine thn (hi pins s1 σ H1 _ I1 q1) ?_;rintro iv s2 ⟨y,H2,I2,ry,a,v,ex,g,q2⟩)
 subst ex;obtain rfl:u=Value.ref a:=rx;exact ⟨us2 I2 g,v95 hu I2 g ry fun w' s3 I3 rw'=>⟨v,H2,I3,rw',q2⟩⟩
theorem vy5 (hu:X.A.units+1 < cLine) (ho:PE X o td) (hi:PE X i ty) (hv:PE X value tv) (hs:swapsWith value (some (.Subscript o i pos')) pos.line X.env=pure false) :
  PS X (.Assign [.Subscript o i pos'] value pos) (wu7 td ty tv):=by
 intro pins s σ H D I h
 (refine wpAny_Assign_Subscript (thn (hv pins s σ H _ I h) ?_) hs;rintro r s1 ⟨v,H1,I1,rv,q1⟩;refine thn (ho pins s1 σ H1 _ I1 q1) ?_;rintro u s2 ⟨x,H2,I2,rx,q2⟩;refine thn (hi pins s2 σ H2 _ I2 q2) ?_;rintro iv s3 ⟨y,H3,I3,ry,a,H4,ex,g,q3⟩)
 subst ex;obtain rfl:u=Value.ref a:=rx;exact v94 hu I3 g ry rv fun s4 I4=>⟨σ,H4,I4,q3⟩
end
def ui0 (kvs more:List (Key × V)):List (Key × V):=more.foldl (fun acc kv=>putK acc kv.1 kv.2) kvs
theorem KV.merge:∀ {more:List (Key × V)} {rs:List (Key × Value)} {kvs:List (Key × V)} {vs:List (Key × Value)},KV more rs->KV kvs vs->KV (ui0 kvs more) (merged vs rs):=by
 intro more rs kvs vs r;unfold KV at r
 induction r generalizing kvs vs with
 | nil=>intro q;exact q
 | @cons p q ps qs h t ih =>
  intro r0;have e:KV (putK kvs p.1 p.2) (stored vs q.1 q.2):=by
   have:=r0.put p.1 h.2;rw [<- h.1];exact this
  exact ih e
theorem ua9:∀ (more kvs:List (Key × V)),(ui0 kvs more).length<=kvs.length+more.length
 | [],kvs=>by show kvs.length<=kvs.length+0;omega
 | p::r,kvs=>by
  have h1:=ua9 r (putK kvs p.1 p.2);have h2:=u66 kvs p.1 p.2
  show (ui0 (putK kvs p.1 p.2) r).length<=_
  rw [List.length_cons];omega
structure M1 (X:Cx) (o:Expr) (m:Str) (apos:Pos) (e:Expr) (cpos:Pos):Prop where
 base:attributeBase o m X.env (eval o X.env)=eval o X.env
 few:((backTo cpos (starEach [e] X.env)).all (fun x=>!x.1) && (backToKw cpos (keywordEach [] X.env)).all (fun x=>x.1.isSome)
  && decide (([e]:List Expr).length+([]:List Keyword).length+(if ([]:List Keyword).isEmpty then 0 else 1) < 30))=true
 line:(apos.endLine == cpos.line)=true
 trees:backTo cpos (starEach [e] X.env)=[(false,eval e X.env)]
structure M2 (X:Cx) (o:Expr) (m:Str) (apos:Pos) (e f:Expr) (cpos:Pos):Prop where
 base:attributeBase o m X.env (eval o X.env)=eval o X.env
 few:((backTo cpos (starEach [e,f] X.env)).all (fun x=>!x.1) && (backToKw cpos (keywordEach [] X.env)).all (fun x=>x.1.isSome)
  && decide (([e,f]:List Expr).length+([]:List Keyword).length+(if ([]:List Keyword).isEmpty then 0 else 1) < 30))=true
 line:(apos.endLine == cpos.line)=true
 trees:backTo cpos (starEach [e,f] X.env)=[(false,eval e X.env),(false,eval f X.env)]
def IsD (H:Hp) (a:Addr):Prop:=(∃ kvs,Rd H a (.dK kvs)) \/ ∃ kvs,Rd H a (.dT kvs)
theorem vp3 {X:Cx} {pins:List (Addr × Obj)} {σ:St} {H:Hp} {s:Shared} {a:Addr} (I:Inv X pins σ H s) (d:IsD H a) :
  s.TypeIs (.ref a) "dict" /\ (∀ b,Value.ref a=.ref b->∃ ob,s.heap.get? b=some ob /\ ob.dict=none) /\ (a == sysModules)=false:=by
 rcases d with ⟨kvs,e⟩ | ⟨kvs,e⟩
 ·obtain ⟨_,hd,vs,_,dd⟩:=v00 I.hok e
  refine ⟨dd.typeIs,fun b q=>?_,hd⟩;cases q;obtain ⟨ob,_,_,h1,h2,_⟩:=dd;exact ⟨ob,h1,h2.2.1⟩
 ·obtain ⟨_,hd,xs,_,dd⟩:=v87 I.hok e
  refine ⟨dd.typeIs,fun b q=>?_,hd⟩;cases q;obtain ⟨ob,_,_,h1,h2,_⟩:=dd;exact ⟨ob,h1,h2.2.1⟩
section
variable {X:Cx} {pins:List (Addr × Obj)} {σ:St} {H:Hp} {s:Shared} {a:Addr} {y d:V} {u r:Value} {o:Option V} {A:Around} {E:Value->Shared->Prop}
theorem wo3 {Q:Value->Shared->Prop} (hu:A.units+1 < cLine) (I:Inv X pins σ H s) (g:DGet H a y o) (ry:RelV y u) (rd:RelV d r) (h:∀ w' s',Inv X pins σ H s'->RelV (o.getD d) w'->Q w' s') :
  wpAny (model X.prog X.w) A (call (.builtin "dict.get") [.ref a,u,r]) Q E s:=by
 rcases g with ⟨kvs,k,e,ey,l⟩ | ⟨kvs,k,b,e,ey,eb,l⟩
 ·subst ey
  obtain ⟨z,hd,vs,rel,dd⟩:=v00 I.hok e;refine call_meetsIn PySem.F.slot_dict_get dd.typeIs PySem.F.entry_dict_get (PySem.F.args_dict_get_3 _ _ _) (meets_dict_get_default (u33 X.prog X.w) a (v72 ry) hd r) ⟨_,dd.mapOf,h _ _ (I.tok _) ?_⟩;rw [l];exact (rel.val k).getD rd
 ·subst ey
  cases (show u=Value.ref b from ry);obtain ⟨z,hd,xs,rel,dd⟩:=v87 I.hok e;refine call_meetsIn PySem.F.slot_dict_get dd.typeIs PySem.F.entry_dict_get (PySem.F.args_dict_get_3 _ _ _) (meetsH_dict_get_default (tupleKind (u33 X.prog X.w)) a b hd r) ⟨tupleKind_room_in1 hu,k,xs,uw2 I.hok eb,dd,h _ _ (I.tok _) ?_⟩;rw [l];exact (rel.val k).getD rd
end
def vm0 (td ty tx:TE):TE:=fun σ H Q=>td σ H fun x H1=>∃ a,x=.ref a /\ IsD H1 a /\ ty σ H1 fun y H2=>tx σ H2 fun z H3=>∃ o,DGet H3 a y o /\ Q (o.getD z) H3
section
variable {X:Cx} {o e f:Expr} {apos cpos:Pos} {td ty tx:TE}
theorem vf8 (hu:X.A.units+1 < cLine) (ho:PE X o td) (he:PE X e ty) (hf:PE X f tx) (m:M2 X o "get" apos e f cpos):PE X (.Call (.Attribute o "get" apos) [e,f] [] cpos) (vm0 td ty tx):=by
 intro pins s σ H Q I h
 (refine wpAny_Call_method m.base m.few m.line PySem.F.plainAttrs_dict PySem.F.slot_dict_get PySem.F.type_dict_get (thn (ho pins s σ H _ I h) ?_);rintro u s1 ⟨x,H1,I1,rx,a,ex,d,q1⟩)
 subst ex;obtain rfl:u=Value.ref a:=rx;obtain ⟨t1,t2,_⟩:=vp3 I1 d;refine ⟨t1,t2,?_⟩;rw [m.trees];refine Calls.callWith_builtin rfl (Calls.evalArgs_plain (Calls.spliced_cons (thn (he pins s1 σ H1 _ I1 q1) fun iv s2 ⟨y,H2,I2,ry,q2⟩ =>
  Calls.spliced_cons (thn (hf pins s2 σ H2 _ I2 q2) fun fv s3 ⟨z,H3,I3,rz,ov,g,q3⟩=>Calls.spliced_nil ?_))))
 exact wo3 hu I3 g ry rz fun w' s4 I4 rw'=>⟨_,H3,I4,rw',q3⟩
end
section
variable {X:Cx} {pins:List (Addr × Obj)} {σ:St} {H:Hp} {s:Shared} {a:Addr} {kvs:List (Key × V)} {A:Around} {E:Value->Shared->Prop}
theorem vj7 {Q:Value->Shared->Prop} (I:Inv X pins σ H s) (e:Rd H a (.dK kvs)) (h:∀ p s',H p=none->Inv X pins σ (upd H p (.dK kvs)) s'->Q (.ref p) s'):wpAny (model X.prog X.w) A (call (.type "dict") [.ref a]) Q E s:=by
 obtain ⟨z,hd,vs,rel,dd⟩:=v00 I.hok e;refine kt_call_dict hd dd (by rw [<- rel.length];exact z) fun h' dd' hs=>?_
 refine h _ _ (I.hok.fresh (Nat.le_refl _)) (I.laid (a:=s.heap.objs.size) (o:=.dK kvs) (t':=s.toks) (fun b q hq=>?_) (Nat.le_refl _) (v90 z (beq_eq_false_iff_ne.mpr (Ne.symm (Nat.ne_of_lt I.big))) rel dd'));exact (hs.2 b (Nat.ne_of_lt (Heap.lt_size hq))).trans (Heap.get?_push_of_some _ hq)
end
end L2
namespace HT
open PySem PyProof.Rows
section
open PySem.SeqAt
open PySem.AutoSeq1 (wpAny_loadPart')
open PySem.MeetsSeq PySem.MeetsSeq2 PySem.MeetsSeq3
end
section
variable {prog:Program} {w:World} {A:Around} {E:Value->Shared->Prop} {s:Shared}
theorem cat_tup {t b:Addr} {vs ws:List Value} {Q:Value->Shared->Prop} (ht:IsTup s.heap t vs.toArray) (hb:IsTup s.heap b ws.toArray) (hv:vs ≠ [])
  (h1:ws=[]->Q (.ref t) s) (h2:ws ≠ []->Q (.ref s.heap.objs.size) { s with heap:=s.heap.push { cls:=.type "tuple",data:=.seq (vs++ws).toArray } })
  (hsz:vs.length+ws.length<=sizeLine):wpAny (model prog w) A (binaryOp .Add (.ref t) (.ref b)) Q E s:=by
 obtain ⟨⟨cls,dd,data,sl⟩,ho,hc,n,hd⟩:=id ht;obtain ⟨⟨cls2,dd2,data2,sl2⟩,ho2,hc2,n2,hd2⟩:=id hb;simp only at hc hd hc2 hd2;subst hc hd hc2 hd2;have e:vs.toArray++ws.toArray=(vs++ws).toArray:=by simp
 by_cases hw:ws=[]
 ·exact concat_meets ⟨_,ho,rfl⟩ ⟨_,ho2,rfl⟩ noFill_tuple_add seq_tuple_add PySem.F.slot_tuple_add PySem.F.entry_tuple_add (PySem.F.args_tuple_add_2 _ _)
   (tuple_addW1 t b vs.toArray ws.toArray n n2 dd dd2 sl sl2 (by simpa using hv) (by simp [hw])) ⟨ho,ho2,h1 hw⟩
 ·refine concat_meets ⟨_,ho,rfl⟩ ⟨_,ho2,rfl⟩ noFill_tuple_add seq_tuple_add PySem.F.slot_tuple_add PySem.F.entry_tuple_add (PySem.F.args_tuple_add_2 _ _)
   (tuple_addW2 t b vs.toArray ws.toArray n n2 dd dd2 sl sl2 (by simpa using hv) (by simpa using hw) (by rw [List.size_toArray,List.size_toArray];exact hsz)) ⟨ho,ho2,?_⟩
  rw [e];exact h2 hw
def sIx (n d:Nat):Option Int->Nat
 | none=>d
 | some v=>if v < 0 then (v+(n:Int)).toNat else min v.toNat n
theorem sIx_none (n d:Nat):sIx n d none=d:=rfl
theorem sIx_nat (n d k:Nat):sIx n d (some (k:Int))=min k n:=by
 show (if (k:Int) < 0 then ((k:Int)+(n:Int)).toNat else min (k:Int).toNat n)=min k n
 rw [if_neg (by omega),Int.toNat_natCast]
theorem wa5 (n d:Nat) (hd:d<=n) (o:Option Int):sIx n d o<=n:=by
 cases o with
 | none=>exact hd
 | some v =>
  show (if v < 0 then (v+(n:Int)).toNat else min v.toNat n)<=n
  by_cases hv:v < 0
  ·rw [if_pos hv];omega
  ·rw [if_neg hv];exact Nat.min_le_right _ _
theorem va2 (v:Int) (n d:Nat):(if v < 0 then max (v+(n:Int)) 0 else min v (n:Int))=((sIx n d (some v):Nat):Int):=by
 show (if v < 0 then max (v+(n:Int)) 0 else min v (n:Int))=(((if v < 0 then (v+(n:Int)).toNat else min v.toNat n):Nat):Int)
 by_cases hv:v < 0
 ·simp only [if_pos hv];omega
 ·simp only [if_neg hv];omega
theorem v03 (lo hi:Option Int) (n:Nat):Builtin.Slice.sliceAdjust lo hi 1 (n:Int)=(((sIx n 0 lo:Nat):Int),((sIx n n hi:Nat):Int)):=by
 have h1:¬ ((1:Int) < 0):=by omega
 unfold Builtin.Slice.sliceAdjust;simp only [h1,if_false];refine Prod.ext ?_ ?_
 ·cases lo with
  | none=>rfl
  | some v=>exact va2 v n 0
 ·cases hi with
  | none=>rfl
  | some v=>exact va2 v n n
theorem uy6 (i j:Nat):Builtin.Slice.slicePlaces (i:Int) (j:Int) 1=j - i:=by
 unfold Builtin.Slice.slicePlaces;have h1:(1:Int) > 0:=by omega
 simp only [h1,if_true,Int.ediv_one];split <;> omega
theorem uh3 {v:Value} {o:Option Int} {Q:Option Int->Shared->Prop} (p:IsPart v o) (h:Q o s):wpAny (model prog w) A (Builtin.Slice.slicePartIndex v) Q E s:=by
 cases p with
 | none=>exact slicePart_none h
 | int i t=>exact slicePart_int h
theorem uc6 {sl:Addr} {vl vu:Value} {lo hi:Option Int} {n:Nat} {Q:Int × Int × Nat->Shared->Prop} (hs:s.heap.IsSliceOf sl vl vu .none) (pl:IsPart vl lo) (pu:IsPart vu hi)
  (h:Q (((sIx n 0 lo:Nat):Int),1,sIx n n hi - sIx n 0 lo) s):wpAny (model prog w) A (Builtin.Slice.sliceApplied (.ref sl) (pure (n:Int))) Q E s:=by
 obtain ⟨os,hos,hcs,hds⟩:=id hs;unfold Builtin.Slice.sliceApplied Builtin.Slice.sliceFields;refine wpAny_bind (wpAny_bind (wpAny_field hos hds (x:=vl) rfl (wpAny_bind (wpAny_field hos hds (x:=vu) rfl (wpAny_bind (wpAny_field hos hds (x:=.none) rfl (wpAny_pure ?_)))))));refine wpAny_bind (slicePart_none ?_)
 show wpAny _ _ (if ((1:Int) == 0)=true then _ else _) _ _ s
 rw [if_neg (by decide)];refine wpAny_bind (uh3 pl (wpAny_bind (uh3 pu (wpAny_bind (wpAny_pure ?_)))))
 show wpAny _ _ (match Builtin.Slice.sliceAdjust lo hi 1 (n:Int) with | (lo,hi)=>pure (lo,(1:Int),Builtin.Slice.slicePlaces lo hi 1)) _ _ s
 rw [v03 lo hi n]
 show wpAny _ _ (pure (((sIx n 0 lo:Nat):Int),(1:Int),Builtin.Slice.slicePlaces ((sIx n 0 lo:Nat):Int) ((sIx n n hi:Nat):Int) 1)) _ _ s
 rw [uy6];exact wpAny_pure h
theorem vf2 (xs:Array Value) (i k:Nat):((List.range k).filterMap fun (m:Nat)=>xs[((i:Int)+(m:Int) * 1).toNat]?).toArray=((xs.toList.drop i).take k).toArray:=by
 have e:(fun (m:Nat)=>xs[((i:Int)+(m:Int) * 1).toNat]?)=fun m=>xs[i+m]?:=by
  funext m
  have:((i:Int)+(m:Int) * 1).toNat=i+m:=by omega
  rw [this]
 rw [e];have:=pick_run xs i k;rw [List.filterMap_map] at this;have e2:((fun x=>xs[x]?) ∘ fun x=>i+x)=fun m=>xs[i+m]?:=rfl
 rw [e2] at this;rw [this]
theorem getItem_tuple_cut {t sl:Addr} {items:Array Value} {vl vu:Value} {lo hi:Option Int} {Q:Value->Shared->Prop} (ht:IsTup s.heap t items) (hs:s.heap.IsSliceOf sl vl vu .none) (pl:IsPart vl lo) (pu:IsPart vu hi)
  (hw:¬ (sIx items.size 0 lo=0 /\ sIx items.size items.size hi=items.size))
  (h:Q (.ref s.heap.objs.size) { s with heap:=s.heap.push { cls:=.type "tuple",data:=.seq ((items.toList.drop (sIx items.size 0 lo)).take (sIx items.size items.size hi - sIx items.size 0 lo)).toArray } })
  (hsz:items.size<=sizeLine):wpAny (model prog w) A (getItem (.ref t) (.ref sl)) Q E s:=by
 have htake:sizeOk (.seq ((items.toList.drop (sIx items.size 0 lo)).take (sIx items.size items.size hi - sIx items.size 0 lo)).toArray):=by
  show ((items.toList.drop (sIx items.size 0 lo)).take (sIx items.size items.size hi - sIx items.size 0 lo)).toArray.size<=sizeLine
  rw [List.size_toArray,List.length_take,List.length_drop,Array.length_toList];omega
 have hj:sIx items.size items.size hi<=items.size:=wa5 _ _ (Nat.le_refl _) hi;obtain ⟨os,hos,hcs,hds⟩:=id hs;have hTs:s.TypeIs (.ref sl) "slice" := ⟨os,hos,hcs⟩;unfold getItem
 try with_reducible refine wpAny_holding ?_
 first | refine wpAny_bind (wpAny_pure ?_) | skip
 refine wpAny_bind (wpAny_sequenceKey ht.typeIs (by decide) ?_);refine wpAny_bind (wpAny_callSpecial?_slot (name:=Str.ofString "__getitem__") ht.typeIs PyProof.Rows.slot_tuple_getitem
  (wpAny_call_entry PyProof.Rows.slot_tuple_getitem ht.typeIs entry_tuple_getitem ?_ (args_tuple_getitem _ _)))
 show wpAny _ _ (Builtin.Tuple.tupleItemsOf (.ref t) >>= _) _ _ s
 refine wpAny_bind (tupleItemsOf_ ht ?_);refine wpAny_bind (wpAny_typeOf hTs ?_);rw [if_pos (by decide)];refine wpAny_bind (uc6 hs pl pu ?_);have hno:¬ ((((sIx items.size 0 lo:Nat):Int) == 0 && (1:Int) == 1 && (sIx items.size items.size hi - sIx items.size 0 lo) == items.size)=true):=by
  intro q;rw [Bool.and_eq_true,Bool.and_eq_true] at q;have q1:((sIx items.size 0 lo:Nat):Int)=0:=eq_of_beq q.1.1;have q2:sIx items.size items.size hi - sIx items.size 0 lo=items.size:=eq_of_beq q.2;exact hw ⟨by omega,by omega⟩
 show wpAny _ _ (if (((sIx items.size 0 lo:Nat):Int) == 0 && (1:Int) == 1 && (sIx items.size items.size hi - sIx items.size 0 lo) == items.size)=true then _ else _) _ _ s
 rw [if_neg hno,vf2]
 first
  | exact wpAny_bind (m:=Builtin.Tuple.tupleExact _) (wpAny_newObj_type (wpAny_pure ⟨_,rfl,wpAny_pure h⟩) htake)
  | exact wpAny_bind (m:=Builtin.Tuple.tupleExact _) (wpAny_newObj_type (wpAny_bind (wpAny_pure (wpAny_pure ⟨_,rfl,wpAny_pure h⟩))) htake)
  | exact wpAny_bind (wpAny_bind (m:=Builtin.Tuple.tupleExact _) (wpAny_newObj_type (wpAny_pure (wpAny_pure ⟨_,rfl,wpAny_pure h⟩)) htake))
  | exact wpAny_bind (wpAny_bind (m:=Builtin.Tuple.tupleExact _) (wpAny_newObj_type (wpAny_pure ⟨_,rfl,wpAny_pure h⟩) htake))
end
end HT
namespace L2
open PySem PySem.Spec PyProof.Rows
abbrev TO:=St->Hp->(Option Int->Hp->Prop)->Prop
def PO (X:Cx) (e:Option Expr) (t:TO):Prop :=
 ∀ (pins:List (Addr × Obj)) (s:Shared) (σ:St) (H:Hp) (Q:Option Int->Hp->Prop),Inv X pins σ H s->t σ H Q ->
  wpAny (model X.prog X.w) X.A (evalPart e X.env) (fun u s'=>∃ o H',Inv X pins σ H' s' /\ IsPart u o /\ Q o H') X.xe s
def v23:TO:=fun _ H Q=>Q none H
def w89 (t:TE):TO:=fun σ H Q=>t σ H fun x H1=>∃ i,x=.int i /\ Q (some i) H1
section
variable {X:Cx} {e:Expr} {te:TE} {lo hi:Option Expr} {tl th:TO} {pos p2:Pos}
theorem vy7:PO X none v23:=by
 intro pins s σ H Q I h;rw [evalPart_none];exact wpAny_pure ⟨none,H,I,.none,h⟩
theorem vy6 (h:PE X e te):PO X (some e) (w89 te):=by
 intro pins s σ H Q I hw;rw [evalPart_some]
 (refine thn (h pins s σ H _ I hw) ?_;rintro u s1 ⟨x,H1,I1,r1,q1⟩)
 obtain ⟨i,rfl,q⟩:=q1;obtain ⟨t,rfl⟩:=r1;exact ⟨some i,H1,I1,.int i t,q⟩
def SlR (X:Cx) (r:V->Option Int->Option Int->Hp->VK->Prop):Prop :=
 ∀ (pins:List (Addr × Obj)) (s:Shared) (σ:St) (H:Hp) (x:V) (v vl vu:Value) (lo hi:Option Int) (sl:Addr) (Q:VK),Inv X pins σ H s->RelV x v->s.heap.IsSliceOf sl vl vu .none->IsPart vl lo->IsPart vu hi->r x lo hi H Q ->
  ∃ T id,typeLookup (.type T) "__getitem__" = pure (some (.builtin id)) /\ s.TypeIs v T /\ wpAny (model X.prog X.w) X.A (getItem v (.ref sl)) (EP X pins σ Q) X.xe s
theorem SlR.or {r r':V->Option Int->Option Int->Hp->VK->Prop} (h:SlR X r) (h':SlR X r'):SlR X (fun x lo hi H Q=>r x lo hi H Q \/ r' x lo hi H Q):=by
 intro pins s σ H x v vl vu lo hi sl Q I rx hs pl pu q
 rcases q with q | q
 ·exact h pins s σ H x v vl vu lo hi sl Q I rx hs pl pu q
 ·exact h' pins s σ H x v vl vu lo hi sl Q I rx hs pl pu q
def tSl (r:V->Option Int->Option Int->Hp->VK->Prop) (te:TE) (tl th:TO):TE:=fun σ H Q=>te σ H fun x H1=>tl σ H1 fun l H2=>th σ H2 fun u H3=>r x l u H3 Q
theorem vf5 {r:V->Option Int->Option Int->Hp->VK->Prop} (hr:SlR X r) (he:PE X e te) (hl:PO X lo tl) (hu:PO X hi th):PE X (.Subscript e (.Slice lo hi none p2) pos) (tSl r te tl th):=by
 intro pins s σ H Q I h
 (refine Subscript_ (thn (he pins s σ H _ I h) ?_);rintro v s1 ⟨x,H1,I1,r1,q1⟩)
 (refine wpAny_Slice (thn (hl pins s1 σ H1 _ I1 q1) ?_);rintro vl s2 ⟨l,H2,I2,pl,q2⟩;refine thn (hu pins s2 σ H2 _ I2 q2) ?_;rintro vu s3 ⟨u,H3,I3,pu,q3⟩)
 rw [evalPart_none];refine wpAny_pure ?_;have I4:Inv X pins σ H3 { s3 with heap:=s3.heap.push { cls:=.type "slice",data:=.fields #[vl,vu,.none] } }:=I3.kept (t':=s3.toks) fun b ob q=>Heap.get?_push_of_some _ q
 obtain ⟨T,id,hT,ht,hg⟩:=hr pins { s3 with heap:=s3.heap.push { cls:=.type "slice",data:=.fields #[vl,vu,.none] } } σ H3 x v vl vu l u s3.heap.objs.size Q I4 r1 (Heap.IsSliceOf.new ..) pl pu q3
 show wpAny (model X.prog X.w) X.A (subscriptTail e (.Slice lo hi none p2) v (.ref s3.heap.objs.size)) (EP X pins σ Q) X.xe { s3 with heap:=s3.heap.push { cls:=.type "slice",data:=.fields #[vl,vu,.none] } }
 exact tail_any (ops:=[.ref s3.heap.objs.size,v]) ht hT hg (by with_unfolding_all rfl)
def cutV (xs:List V) (lo hi:Option Int):List V:=(xs.drop (HT.sIx xs.length 0 lo)).take (HT.sIx xs.length xs.length hi - HT.sIx xs.length 0 lo)
theorem uf7 (xs:List V) (lo hi:Option Int):(cutV xs lo hi).length<=xs.length:=by
 unfold cutV;rw [List.length_take,List.length_drop];omega
def rSlT (K:W.Frag):V->Option Int->Option Int->Hp->VK->Prop:=fun x lo hi H Q=>∃ a xs,x=.ref a /\ SqT K H a xs /\
 ¬ (HT.sIx xs.length 0 lo=0 /\ HT.sIx xs.length xs.length hi=xs.length) /\ ∀ p,H p=none->Q (.ref p) (upd H p (.tup (cutV xs lo hi)))
theorem wa0:SlR X (rSlT X.K):=by
 intro pins s σ H x v vl vu lo hi sl Q I rx hs pl pu h;obtain ⟨a,xs,rfl,hx,hw,q⟩:=h;cases rx;obtain ⟨its,r,ht,hz⟩:=I.tuple hx;have hlen:its.toArray.size=xs.length:=by rw [List.size_toArray];exact r.length.symm
 refine ⟨"tuple",_,PyProof.Rows.slot_tuple_getitem.lookup,ht.typeIs,?_⟩;refine HT.getItem_tuple_cut ht hs pl pu (by rw [hlen];exact hw) ?_ (by rw [hlen];exact hz);rw [hlen];refine ⟨.ref s.heap.objs.size,_,I.laid (t':=s.toks) (o:=.tup (cutV xs lo hi)) (fun b ob q=>Heap.get?_push_of_some _ q) (Nat.le_refl _) ?_,rfl,q _ (I.hok.fresh (Nat.le_refl _))⟩;exact ⟨Nat.le_trans (uf7 xs lo hi) hz,_,(r.drop (HT.sIx xs.length 0 lo)).take (HT.sIx xs.length xs.length hi - HT.sIx xs.length 0 lo),TupD.new _ _⟩
def wu9 (K:W.Frag):R2:=fun x y H Q=>∃ a b xs ys,x=.ref a /\ y=.ref b /\ SqT K H a xs /\ SqT K H b ys /\ xs ≠ [] /\ xs.length+ys.length<=sizeLine /\
 (ys=[]->Q (.ref a) H) /\ (ys ≠ []->∀ p,H p=none->Q (.ref p) (upd H p (.tup (xs++ys))))
theorem Vals.nil_iff {xs:List V} {us:List Value} (r:Vals xs us):us=[] ↔ xs=[]:=by
 cases r with
 | nil=>simp
 | cons _ _=>simp
theorem op_catT:OpR X (binaryOp .Add) (wu9 X.K):=by
 intro pins s σ H x y v u Q I rx ry h;obtain ⟨a,b,xs,ys,rfl,rfl,ha,hb,hx,hz,q1,q2⟩:=h;cases rx;cases ry;obtain ⟨its,r1,p1,_⟩:=I.tuple ha;obtain ⟨its2,r2,p2,_⟩:=I.tuple hb;refine HT.cat_tup p1 p2 (fun z=>hx (r1.nil_iff.mp z)) (fun z=>⟨.ref a,H,I,rfl,q1 (r2.nil_iff.mp z)⟩) (fun z=>?_) (by rw [<- r1.length,<- r2.length];exact hz);refine ⟨.ref s.heap.objs.size,_,I.laid (t':=s.toks) (o:=.tup (xs++ys)) (fun b ob q=>Heap.get?_push_of_some _ q) (Nat.le_refl _) ?_,rfl,q2 (fun w=>z (r2.nil_iff.mpr w)) _ (I.hok.fresh (Nat.le_refl _))⟩;exact ⟨by rw [List.length_append];exact hz,_,r1.append r2,TupD.new _ _⟩
end
def ixN (n:Nat) (i:Int):Option Nat:=if 0<=i then (if i < n then some i.toNat else none) else if -(n:Int)<=i then some (i+n).toNat else none
def atI {α:Type} (xs:List α) (i:Int):Option α:=(ixN xs.length i).bind fun j=>xs[j]?
theorem ur5 {n:Nat} {i:Int} {j:Nat} (h:ixN n i=some j):seqIndex? i n=some j /\ j < n /\ -(n:Int)<=i /\ i < n:=by
 unfold ixN at h
 by_cases h0:0<=i
 ·rw [if_pos h0] at h
  by_cases h1:i < n
  ·rw [if_pos h1] at h
   have e:i.toNat=j:=Option.some.inj h;exact ⟨by rw [seqIndex_of h0 h1,e],by omega,by omega,h1⟩
  ·rw [if_neg h1] at h;cases h
 ·rw [if_neg h0] at h
  by_cases h1:-(n:Int)<=i
  ·rw [if_pos h1] at h
   have e:(i+n).toNat=j:=Option.some.inj h;exact ⟨by rw [seqIndex_neg (by omega) h1,e],by omega,h1,by omega⟩
  ·rw [if_neg h1] at h;cases h
theorem us9 {α:Type} {xs:List α} {i:Int} {v:α} (h:atI xs i=some v):∃ j,seqIndex? i xs.length=some j /\ xs[j]?=some v /\ j < xs.length /\ -(xs.length:Int)<=i /\ i < xs.length:=by
 unfold atI at h;cases e:ixN xs.length i with
 | none=>rw [e] at h;cases h
 | some j =>
  rw [e] at h;obtain ⟨h1,h2,h3,h4⟩:=ur5 e;exact ⟨j,h1,h,h2,h3,h4⟩
theorem u71 {α:Type} {xs:List α} {j:Nat} {v:α} (h:xs[j]?=some v):atI xs (j:Int)=some v:=by
 have hj:j < xs.length:=(List.getElem?_eq_some_iff.mp h).1;have e:ixN xs.length (j:Int)=some j:=by
  unfold ixN;rw [if_pos (by omega),if_pos (by omega)];simp
 unfold atI;rw [e];exact h
def vb7 (b:Expr):Prop:=∀ o i,subscripted b false o i=operate [o,i] (getItem o i)
def IxR (X:Cx) (r:R2):Prop :=
 ∀ (value slice:Expr) (pins:List (Addr × Obj)) (s:Shared) (σ:St) (H:Hp) (x y:V) (v u:Value) (Q:VK),Inv X pins σ H s->RelV x v->RelV y u->r x y H Q ->
  subscripted slice false v u=operate [v,u] (getItem v u)->wpAny (model X.prog X.w) X.A (subscriptTail value slice v u) (EP X pins σ Q) X.xe s
def MtR (X:Cx) (id:String) (r:V->List V->Hp->VK->Prop):Prop :=
 ∀ (pins:List (Addr × Obj)) (s:Shared) (σ:St) (H:Hp) (x:V) (xs:List V) (v:Value) (us:List Value) (Q:VK),Inv X pins σ H s->RelV x v->Vals xs us->r x xs H Q ->
  wpAny (model X.prog X.w) X.A (call (.builtin id) (v::us)) (EP X pins σ Q) X.xe s
section
variable {X:Cx} {a b:Expr} {ta tb:TE} {pos:Pos}
theorem IxR.or {r r':R2} (h:IxR X r) (h':IxR X r'):IxR X (fun x y H Q=>r x y H Q \/ r' x y H Q):=by
 intro value slice pins s σ H x y v u Q I rx ry q hs
 rcases q with q | q
 ·exact h value slice pins s σ H x y v u Q I rx ry q hs
 ·exact h' value slice pins s σ H x y v u Q I rx ry q hs
theorem wv4 {r:R2} (hr:IxR X r) (ha:PE X a ta) (hb:PE X b tb) (hs:vb7 b):PE X (.Subscript a b pos) (tOp r ta tb):=by
 intro pins s σ H Q I h;exact Subscript_ (binT ha hb I h fun v u s2 x y H2 I2 rx ry q=>hr a b pins s2 σ H2 x y v u Q I2 rx ry q (hs _ _))
def rIxL (K:W.Frag):R2:=fun x y H Q=>∃ p xs i v,x=.ref p /\ y=.int i /\ SqL K H p xs /\ atI xs i=some v /\ Q v H
def rIxT (K:W.Frag):R2:=fun x y H Q=>∃ p xs i v,x=.ref p /\ y=.int i /\ SqT K H p xs /\ atI xs i=some v /\ Q v H
def rIxS:R2:=fun x y H Q=>∃ z i c,x=.str z /\ y=.int i /\ z.length<=sizeLine /\ atI z.cps.toList i=some c /\ Q (.str ⟨#[c]⟩) H
theorem ix_list:IxR X (rIxL X.K):=by
 intro value slice pins s σ H x y v u Q I rx ry h hs;obtain ⟨p,xs,i,z,rfl,rfl,hq,he,q⟩:=h;cases rx;obtain ⟨t,rfl⟩:=ry;obtain ⟨its,r,pl,hz⟩:=I.list hq;obtain ⟨j,h1,h2,h3,h4,h5⟩:=us9 he;obtain ⟨w,ew,rw'⟩:=r.get h2;have hl:=r.length;have hn:=line63;have fin:EP X pins σ Q w s:=⟨z,H,I,rw',q⟩
 by_cases h0:0<=i
 ·have hj:i.toNat=j:=by
   rw [seqIndex_of h0 h5] at h1;exact Option.some.inj h1
  exact item_listR pl.isList h0 (by omega) (by rw [hj];simpa using ew) fin hs
 ·have hj:(i+(its.toArray.size:Int)).toNat=j:=by
   rw [seqIndex_neg (by omega) h4] at h1;rw [List.size_toArray,<- hl];exact Option.some.inj h1
  exact subscriptTail_builtinR (x:=w) pl.isList.typeIs slot_list_getitem.lookup
   (wpAny_getItem_list_neg (Q:=fun r s'=>r=w /\ EP X pins σ Q r s') pl.isList (by omega) (by rw [List.size_toArray] <;> omega) (by omega) (by rw [hj];simpa using ew) ⟨rfl,fin⟩) hs
theorem ix_tup:IxR X (rIxT X.K):=by
 intro value slice pins s σ H x y v u Q I rx ry h hs;obtain ⟨p,xs,i,z,rfl,rfl,hq,he,q⟩:=h;cases rx;obtain ⟨t,rfl⟩:=ry;obtain ⟨its,r,pl,hz⟩:=I.tuple hq;obtain ⟨j,h1,h2,h3,h4,h5⟩:=us9 he;obtain ⟨w,ew,rw'⟩:=r.get h2;have hl:=r.length;have hn:=line63;have fin:EP X pins σ Q w s:=⟨z,H,I,rw',q⟩;exact subscriptTail_builtinR (x:=w) pl.typeIs slot_tuple_getitem.lookup
  (getItem_tuple (j:=j) (Q:=fun r s'=>r=w /\ EP X pins σ Q r s') pl (by omega) (by omega) (by rw [List.size_toArray,<- hl];exact h1) (by simpa using ew) ⟨rfl,fin⟩) hs
theorem wm4:IxR X rIxS:=by
 intro value slice pins s σ H x y v u Q I rx ry h hs;obtain ⟨z,i,c,rfl,rfl,hz,he,q⟩:=h;obtain ⟨t,rfl⟩:=rx;obtain ⟨t',rfl⟩:=ry;obtain ⟨j,h1,h2,h3,h4,h5⟩:=us9 he;have hl:z.cps.toList.length=z.length:=by simp [Str.length]
 rw [hl] at h1 h4 h5;have hn:=line63;exact tail_any (typeIs_str s z t) slot_str_getitem.lookup (getItem_str (c:=c) (by
  have e1:decide (i < -(2 ^ 63:Int))=false:=decide_eq_false (by omega);have e2:decide (i ≥ 2 ^ 63)=false:=decide_eq_false (by omega);rw [e1,e2,Bool.or_false]) (by rw [h1];simpa using h2) ⟨.str ⟨#[c]⟩,H,I.tok _,⟨_,rfl⟩,q⟩) hs
def rIx (K:W.Frag):R2:=fun x y H Q=>rIxL K x y H Q \/ rIxT K x y H Q \/ rIxS x y H Q
theorem wm5:IxR X (rIx X.K):=ix_list.or (ix_tup.or wm4)
theorem uy9 (its:List Value) (n j:Nat) (u:Value):Obj.mapSeq (·.setIfInBounds j u) { cls:=.type "list",data:=.seq its.toArray n }={ cls:=.type "list",data:=.seq (its.set j u).toArray n }:=by
 simp [Obj.mapSeq]
theorem Inv.lst {pins:List (Addr × Obj)} {σ:St} {H:Hp} {s:Shared} {p:Addr} {xs:List V} (I:Inv X pins σ H s) (h:H p=some (.lst xs)) :
  ∃ (its:List Value) (n:Nat),Vals xs its /\ s.heap.get? p=some { cls:=.type "list",data:=.seq its.toArray n } /\ xs.length<=sizeLine:=by
 obtain ⟨z,its,n,r,e⟩:=I.hok p _ h;exact ⟨its,n,r,e,z⟩
theorem Inv.lstUpd {pins:List (Addr × Obj)} {σ:St} {H:Hp} {s:Shared} {p:Addr} {xs ys:List V} {its its':List Value} {n n':Nat} {f:Obj->Obj} (I:Inv X pins σ H s) (h:H p=some (.lst xs))
  (ho:s.heap.get? p=some { cls:=.type "list",data:=.seq its.toArray n }) (hf:f { cls:=.type "list",data:=.seq its.toArray n }={ cls:=.type "list",data:=.seq its'.toArray n' }) (r:Vals ys its') (hz:ys.length<=sizeLine) (t:Nat) :
  Inv X pins σ (upd H p (.lst ys)) { s with heap:=s.heap.update p f,toks:=t }:=by
 have e:(s.heap.update p f).get? p=some { cls:=.type "list",data:=.seq its'.toArray n' }:=by
  rw [Heap.get?_update_self f ho (by rw [hf] <;> rfl),hf]
 refine I.write (x:=p) (e:=p) (by rw [h];trivial) (.inl rfl) (fun b u hb q=>(Heap.get?_update_other _ _ (Ne.symm hb)).trans q) ⟨_,e⟩ ?_;exact ⟨hz,its',n',r,e⟩
def wu8:V->V->V->Hp->(Hp->Prop)->Prop:=fun o i v H Q=>∃ p xs k j,o=.ref p /\ i=.int k /\ H p=some (.lst xs) /\ ixN xs.length k=some j /\ Q (upd H p (.lst (xs.set j v)))
theorem set_list:PSet X wu8:=by
 intro pins s σ H o i v ov iv u Q I ro ri rv h;obtain ⟨p,xs,k,j,rfl,rfl,hp,hj,q⟩:=h;cases ro;obtain ⟨t,rfl⟩:=ri;obtain ⟨its,n,r,ho,hz⟩:=I.lst hp;obtain ⟨h1,h2,h3,h4⟩:=ur5 hj;have hl:=r.length;have hn:=line63;have I':Inv X pins σ (upd H p (.lst (xs.set j v))) { s with heap:=s.heap.update p (Obj.mapSeq (·.setIfInBounds j u)) } :=
  I.lstUpd hp ho (uy9 its n j u) (r.set rv j) (by rw [List.length_set];exact hz) s.toks
 by_cases h0:0<=k
 ·have hk:k.toNat=j:=by
   rw [seqIndex_of h0 h4] at h1;exact Option.some.inj h1
  exact W.ki_setAt ho h0 (by omega) (by rw [List.size_toArray,<- hl];exact h4) (by rw [hk];exact ⟨_,I',q⟩)
 ·have hk:(k+(its.toArray.size:Int)).toNat=j:=by
   rw [seqIndex_neg (by omega) h3] at h1;rw [List.size_toArray,<- hl];exact Option.some.inj h1
  exact W.ki_setBack ho (by omega) (by rw [List.size_toArray,<- hl];exact h3) (by omega) (by rw [hk];exact ⟨_,I',q⟩)
theorem un3 (lo hi:Option Int) (n:Nat):(sliceBounds lo hi none n).1=((HT.sIx n 0 lo:Nat):Int) /\ (sliceBounds lo hi none n).2.1=((HT.sIx n n hi:Nat):Int) /\ (sliceBounds lo hi none n).2.2=1:=by
 refine ⟨?_,?_,rfl⟩
 ·cases lo with
  | none=>simp [sliceBounds,HT.sIx]
  | some i =>
   simp only [sliceBounds,HT.sIx,Option.getD_none,show (1:Int) > 0 by decide,if_true]
   by_cases h:i < 0
   ·simp only [h,if_true] <;> omega
   ·simp only [h,if_false] <;> omega
 ·cases hi with
  | none=>simp [sliceBounds,HT.sIx]
  | some i =>
   simp only [sliceBounds,HT.sIx,Option.getD_none,show (1:Int) > 0 by decide,if_true]
   by_cases h:i < 0
   ·simp only [h,if_true] <;> omega
   ·simp only [h,if_false] <;> omega
theorem uj7 (its:List Value) (lo hi:Option Int):slicePick its.toArray lo hi none=((its.drop (HT.sIx its.length 0 lo)).take (HT.sIx its.length its.length hi - HT.sIx its.length 0 lo)).toArray:=by
 obtain ⟨h1,h2,h3⟩:=un3 lo hi its.toArray.size;unfold slicePick;rw [h1,h2,h3];simp only [sliceRange_one,pick_run,List.size_toArray] <;> rfl
def rSlL (K:W.Frag):V->Option Int->Option Int->Hp->VK->Prop:=fun x lo hi H Q=>∃ a xs,x=.ref a /\ SqL K H a xs /\ ∀ p,H p=none->Q (.ref p) (upd H p (.lst (cutV xs lo hi)))
theorem sl_list:SlR X (rSlL X.K):=by
 intro pins s σ H x v vl vu lo hi sl Q I rx hs pl pu h;obtain ⟨a,xs,rfl,hx,q⟩:=h;cases rx;obtain ⟨its,r,ht,hz⟩:=I.list hx;have hlen:=r.length;refine ⟨"list",_,slot_list_getitem.lookup,ht.isList.typeIs,?_⟩;refine wpAny_getItem_list_slice ht.isList hs pl pu .none (by simp) ?_ (by rw [List.size_toArray] <;> omega);rw [uj7,<- hlen];refine ⟨.ref s.heap.objs.size,_,I.laid (t':=s.toks) (o:=.lst (cutV xs lo hi)) (fun b ob q=>Heap.get?_push_of_some _ q) (Nat.le_refl _) ?_,rfl,q _ (I.hok.fresh (Nat.le_refl _))⟩;exact ⟨Nat.le_trans (uf7 xs lo hi) hz,_,0,(r.drop (HT.sIx xs.length 0 lo)).take (HT.sIx xs.length xs.length hi - HT.sIx xs.length 0 lo),Heap.get?_push_size _ rfl⟩
def uf4:V->Bool
 | .non=>true
 | .bl _=>true
 | .int _=>true
 | .str _=>true
 | _=>false
def eqV:V->V->Bool
 | .non,.non=>true
 | .bl a,.bl b=>a == b
 | .bl a,.int b=>(if a then 1 else 0) == b
 | .int a,.bl b=>a == (if b then 1 else 0)
 | .int a,.int b=>a == b
 | .str a,.str b=>a == b
 | _,_=>false
theorem vp9 {A:Around} {s:Shared} {y x:V} {u v:Value} (ry:RelV y u) (rx:RelV x v) (fy:uf4 y=true) (fx:uf4 x=true):SeqAt.EqAt A s u v (eqV y x):=by
 cases y with
 | non =>
  cases ry;cases x with
  | non=>cases rx;exact SeqAt.EqAt.same _
  | bl b=>cases rx;exact SeqAt.EqAt.none_bool b
  | int b=>obtain ⟨t,rfl⟩:=rx;exact SeqAt.EqAt.none_int b t
  | str b=>obtain ⟨t,rfl⟩:=rx;exact SeqAt.EqAt.none_str b t
  | _=>exact absurd (show false=true from fx) Bool.false_ne_true
 | bl a =>
  cases ry;cases x with
  | non=>cases rx;exact SeqAt.EqAt.bool_none a
  | bl b=>cases rx;exact SeqAt.EqAt.bool_bool a b
  | int b=>obtain ⟨t,rfl⟩:=rx;exact SeqAt.EqAt.bool_int a b t
  | str b=>obtain ⟨t,rfl⟩:=rx;exact SeqAt.EqAt.bool_str a b t
  | _=>exact absurd (show false=true from fx) Bool.false_ne_true
 | int a =>
  obtain ⟨t',rfl⟩:=ry;cases x with
  | non=>cases rx;exact SeqAt.EqAt.int_none a t'
  | bl b=>cases rx;exact SeqAt.EqAt.int_bool a t' b
  | int b=>obtain ⟨t,rfl⟩:=rx;exact SeqAt.EqAt.int_int a t' b t
  | str b=>obtain ⟨t,rfl⟩:=rx;exact SeqAt.EqAt.int_str a t' b t
  | _=>exact absurd (show false=true from fx) Bool.false_ne_true
 | str a =>
  obtain ⟨t',rfl⟩:=ry;cases x with
  | non=>cases rx;exact SeqAt.EqAt.str_none a t'
  | bl b=>cases rx;exact SeqAt.EqAt.str_bool a t' b
  | int b=>obtain ⟨t,rfl⟩:=rx;exact SeqAt.EqAt.str_int a t' b t
  | str b=>obtain ⟨t,rfl⟩:=rx;exact SeqAt.EqAt.str_str a t' b t
  | _=>exact absurd (show false=true from fx) Bool.false_ne_true
 | _=>exact absurd (show false=true from fy) Bool.false_ne_true
def eqU (x:V) (u:Value):Bool:=match u with
 | .none=>eqV .non x
 | .bool b=>eqV (.bl b) x
 | .int i _=>eqV (.int i) x
 | .str z _=>eqV (.str z) x
 | _=>false
theorem vp8 {x y:V} {u:Value} (r:RelV y u) (f:uf4 y=true):eqU x u=eqV y x:=by
 cases y with
 | non=>cases r;rfl
 | bl b=>cases r;rfl
 | int i=>obtain ⟨t,rfl⟩:=r;rfl
 | str z=>obtain ⟨t,rfl⟩:=r;rfl
 | _=>exact absurd (show false=true from f) Bool.false_ne_true
theorem ug1 {x:V}:∀ {xs:List V} {us:List Value},Vals xs us->xs.all uf4=true->us.any (eqU x)=xs.any fun y=>eqV y x
 | _,_,.nil,_=>rfl
 | y::xs,u::us,.cons r t,f=>by
  rw [List.all_cons,Bool.and_eq_true] at f;rw [List.any_cons,List.any_cons,vp8 r f.1,ug1 t f.2]
theorem ua8 {A:Around} {s:Shared} {x:V} {v:Value} (rx:RelV x v) (fx:uf4 x=true):∀ {xs:List V} {us:List Value},Vals xs us->xs.all uf4=true->∀ u ∈ us,SeqAt.EqAt A s u v (eqU x u)
 | _,_,.nil,_=>fun u hu=>by cases hu
 | y::xs,u::us,.cons r t,f=>fun u' hu=>by
  rw [List.all_cons,Bool.and_eq_true] at f
  rcases List.mem_cons.mp hu with rfl | hu
  ·rw [vp8 r f.1];exact vp9 r rx f.1 fx
  ·exact ua8 rx fx t f.2 u' hu
def inV (x:V) (xs:List V):Bool:=xs.any fun y=>eqV y x
def rIn (K:W.Frag) (neg:Bool):R2:=fun x y H Q=>∃ p xs,y=.ref p /\ (SqL K H p xs \/ SqT K H p xs) /\ uf4 x=true /\ xs.all uf4=true /\ Q (.bl (if neg then !inV x xs else inV x xs)) H
theorem un9:OpR X (compareOp .In) (rIn X.K false):=by
 intro pins s σ H x y v u Q I rx ry h;obtain ⟨p,xs,rfl,hq,fx,fs,q⟩:=h;cases ry
 rcases hq with hq | hq
 ·obtain ⟨its,r,pl,hz⟩:=I.list hq
  refine SeqAt.in_listAt (eqU x) pl.isList (fun w hw=>ua8 rx fx r fs w (by simpa using hw)) ⟨.bl _,H,I,rfl,?_⟩;rw [show its.toArray.any (eqU x)=its.any (eqU x) by simp,ug1 r fs];exact q
 ·obtain ⟨its,r,pl,hz⟩:=I.tuple hq
  refine SeqAt.in_tupleAt (eqU x) pl (fun w hw=>ua8 rx fx r fs w (by simpa using hw)) ⟨.bl _,H,I,rfl,?_⟩;rw [show its.toArray.any (eqU x)=its.any (eqU x) by simp,ug1 r fs];exact q
theorem un8:OpR X (compareOp .NotIn) (rIn X.K true):=by
 intro pins s σ H x y v u Q I rx ry h;obtain ⟨p,xs,rfl,hq,fx,fs,q⟩:=h;cases ry
 rcases hq with hq | hq
 ·obtain ⟨its,r,pl,hz⟩:=I.list hq
  refine SeqAt.notIn_listAt (eqU x) pl.isList (fun w hw=>ua8 rx fx r fs w (by simpa using hw)) ⟨.bl _,H,I,rfl,?_⟩;rw [show its.toArray.any (eqU x)=its.any (eqU x) by simp,ug1 r fs];exact q
 ·obtain ⟨its,r,pl,hz⟩:=I.tuple hq
  refine SeqAt.notIn_tupleAt (eqU x) pl (fun w hw=>ua8 rx fx r fs w (by simpa using hw)) ⟨.bl _,H,I,rfl,?_⟩;rw [show its.toArray.any (eqU x)=its.any (eqU x) by simp,ug1 r fs];exact q
theorem call_len_seq:CallR X (.builtin "len") (fun xs H Q=>∃ p ys,xs=[.ref p] /\ (SqL X.K H p ys \/ SqT X.K H p ys) /\ Q (.int ys.length) H):=by
 intro pins s σ H xs us Q I r h;obtain ⟨p,ys,rfl,hq,q⟩:=h;obtain ⟨u,rfl,rx⟩:=vals1 r;cases rx;have hn:=line63
 rcases hq with hq | hq
 ·obtain ⟨its,r',pl,hz⟩:=I.list hq
  have hlen:=r'.length;exact Calls.call_len_list pl.isList (by simp only [List.size_toArray] <;> omega) ⟨.int ys.length,H,I.tok _,⟨s.toks+1,by rw [List.size_toArray,hlen]⟩,q⟩
 ·obtain ⟨its,r',pl,hz⟩:=I.tuple hq
  have hlen:=r'.length;exact len_tuple pl (by simp only [List.size_toArray] <;> omega) ⟨.int ys.length,H,I.tok _,⟨s.toks+1,by rw [List.size_toArray,hlen]⟩,q⟩
theorem up5:CallR X (.builtin "len") (fun xs H Q=>∃ z,xs=[.str z] /\ z.length<=sizeLine /\ Q (.int z.length) H):=by
 intro pins s σ H xs us Q I r h;obtain ⟨z,rfl,hz,q⟩:=h;obtain ⟨u,rfl,t,rfl⟩:=vals1 r;have hn:=line63;exact len_str (by omega) ⟨.int z.length,H,I.tok _,⟨_,rfl⟩,q⟩
theorem CallR.or {f:Value} {r r':List V->Hp->VK->Prop} (h:CallR X f r) (h':CallR X f r'):CallR X f (fun xs H Q=>r xs H Q \/ r' xs H Q):=by
 intro pins s σ H xs us Q I rs q
 rcases q with q | q
 ·exact h pins s σ H xs us Q I rs q
 ·exact h' pins s σ H xs us Q I rs q
theorem up4:CallR X (.type "list") (fun xs H Q=>∃ p ys,xs=[.ref p] /\ (SqL X.K H p ys \/ SqT X.K H p ys) /\ ∀ l,H l=none->Q (.ref l) (upd H l (.lst ys))):=by
 intro pins s σ H xs us Q I r h;obtain ⟨p,ys,rfl,hq,q⟩:=h;obtain ⟨u,rfl,rx⟩:=vals1 r;cases rx;have fin:∀ (its:List Value),Vals ys its->ys.length<=sizeLine->∀ (h':Heap) (c':Nat),(∀ b o',s.heap.get? b=some o'->h'.get? b=some o') ->
   h'.get? s.heap.objs.size=some { cls:=.type "list",dict:=none,data:=.seq its.toArray c',slots:=#[] }->EP X pins σ Q (.ref s.heap.objs.size) { s with heap:=h' }:=fun its r' hz h' c' kp e =>
  ⟨.ref s.heap.objs.size,_,I.laid (t':=s.toks) kp (Nat.le_refl _) (show ObjOk X.prog X.w _ h' _ (.lst ys) from ⟨hz,its,c',r',e⟩),rfl,q _ (I.hok.fresh (Nat.le_refl _))⟩
 rcases hq with hq | hq
 ·obtain ⟨its,r',pl,hz⟩:=I.list hq
  have hlen:=r'.length;obtain ⟨o,ho,hc,n,hd⟩:=pl.isList;exact call_list_seq p (.inl rfl) ho hc hd (fun h' c' kp e=>fin its r' hz h' c' kp e) (by simp only [List.size_toArray] <;> omega)
 ·obtain ⟨its,r',pl,hz⟩:=I.tuple hq
  have hlen:=r'.length;obtain ⟨o,ho,hc,n,hd⟩:=pl;exact call_list_seq p (.inr rfl) ho hc hd (fun h' c' kp e=>fin its r' hz h' c' kp e) (by simp only [List.size_toArray] <;> omega)
theorem ul3:CallR X (.type "tuple") (fun xs H Q=>∃ p ys,xs=[.ref p] /\ ((SqL X.K H p ys /\ ∀ l,H l=none->Q (.ref l) (upd H l (.tup ys))) \/ (SqT X.K H p ys /\ Q (.ref p) H))):=by
 intro pins s σ H xs us Q I r h;obtain ⟨p,ys,rfl,h⟩:=h;obtain ⟨u,rfl,rx⟩:=vals1 r;cases rx
 rcases h with ⟨hq,q⟩ | ⟨hq,q⟩
 ·obtain ⟨its,r',pl,hz⟩:=I.list hq
  have hlen:=r'.length;refine call_tuple_list pl.isList (fun h' kp=>?_) (by simp only [List.size_toArray] <;> omega);have I1:Inv X pins σ H { s with heap:=h' }:=I.kept (t':=s.toks) kp
  have I2:Inv X pins σ (upd H h'.objs.size (.tup ys)) { s with heap:=h'.push { cls:=.type "tuple",data:=.seq its.toArray } } :=
   I1.laid (t':=s.toks) (fun b o e=>Heap.get?_push_of_some _ e) (Nat.le_refl _) (show ObjOk X.prog X.w _ _ _ (.tup ys) from ⟨hz,its,r',TupD.new _ _⟩)
  exact ⟨.ref h'.objs.size,_,I2,rfl,q _ (I1.hok.fresh (Nat.le_refl _))⟩
 ·obtain ⟨its,r',pl,hz⟩:=I.tuple hq
  exact call_tuple_same pl ⟨.ref p,H,I,rfl,q⟩
def tyV (K:W.Frag) (T:String) (x:V) (H:Hp):Prop:=match x with
 | .str _=>T = "str"
 | .int _=>T = "int"
 | .ref p=>(T = "list" /\ ∃ xs,SqL K H p xs) \/ (T = "tuple" /\ ∃ o,K.lookup p=some o /\ o.cls=.type "tuple" /\ o.dict=none) \/
   (T = "dict" /\ ((∃ kvs,H p=some (.dK kvs)) \/ ∃ kvs,H p=some (.dT kvs))) \/ (T = "set" /\ ∃ S n,H p=some (.set S n))
 | _=>False
theorem w87 {pins:List (Addr × Obj)} {σ:St} {H:Hp} {s:Shared} {T:String} {x:V} {v:Value} (I:Inv X pins σ H s) (r:RelV x v) (ty:tyV X.K T x H) :
  s.TypeIs v T /\ ∀ a,v=.ref a->∃ ob,s.heap.get? a=some ob /\ ob.dict=none:=by
 cases x with
 | str z =>
  obtain ⟨t,rfl⟩:=r;cases (show T = "str" from ty);exact ⟨typeIs_str s z t,fun _ e=>nomatch e⟩
 | int i =>
  obtain ⟨t,rfl⟩:=r;cases (show T = "int" from ty);exact ⟨typeIs_int s i t,fun _ e=>nomatch e⟩
 | ref p =>
  cases r
  rcases ty with ⟨rfl,xs,hq⟩ | ⟨rfl,o,hk,hc,hd⟩ | ⟨rfl,hk⟩ | ⟨rfl,S,n,hk⟩
  ·obtain ⟨its,_,pl,_⟩:=I.list hq
   refine ⟨pl.isList.typeIs,fun a e=>?_⟩;cases e;obtain ⟨o,n,e,c,hd,_⟩:=pl;exact ⟨o,e,hd⟩
  ·refine ⟨⟨o,I.kIn p o hk,hc⟩,fun a e=>?_⟩
   cases e;exact ⟨o,I.kIn _ o hk,hd⟩
  ·have z:∃ o,s.heap.get? p=some o /\ o.ExactDict:=by
    rcases hk with ⟨kvs,hk⟩ | ⟨kvs,hk⟩
    ·obtain ⟨_,_,_,_,o,_,_,e,ex,_⟩:=I.hok p _ hk
     exact ⟨o,e,ex⟩
    ·obtain ⟨_,_,_,_,o,_,_,e,ex,_⟩:=I.hok p _ hk
     exact ⟨o,e,ex⟩
   obtain ⟨o,e,ex⟩:=z;refine ⟨⟨o,e,ex.1⟩,fun a e2=>?_⟩;cases e2;exact ⟨o,e,ex.2.1⟩
  ·obtain ⟨o,_,_,_,e,ex,_⟩:=I.hok p _ hk
   refine ⟨⟨o,e,ex.1⟩,fun a e2=>?_⟩;cases e2;exact ⟨o,e,ex.2.1⟩
 | _=>exact False.elim ty
def tBM (K:W.Frag) (T:String) (r:V->List V->Hp->VK->Prop) (to:TE) (t:TA):TE:=fun σ H Q=>to σ H fun x H1=>tyV K T x H1 /\ t σ H1 fun xs H2=>r x xs H2 Q
variable {o e:Expr} {es:List Expr} {to:TE} {t:TA} {name:Str} {apos cpos:Pos} {T id:String} {r:V->List V->Hp->VK->Prop}
theorem vg0 (pa:PlainAttrs T) (slot:Slot T name id) (hty:typeOf (.builtin id)=pure (.type "method_descriptor")) (hm:MtR X id r) (ho:PE X o to) (ha:PA X (e::es) t)
  (hbase:attributeBase o name X.env (eval o X.env)=eval o X.env:=by rfl)
  (hfew:((backTo cpos (starEach (e::es) X.env)).all (fun x=>!x.1) && (backToKw cpos (keywordEach [] X.env)).all (fun x=>x.1.isSome)
   && decide ((e::es).length+([]:List Keyword).length+(if ([]:List Keyword).isEmpty then 0 else 1) < 30))=true:=by rfl)
  (hline:(apos.endLine == cpos.line)=true:=by rfl) (hs:starEach (e::es) X.env=(false,eval e X.env)::starEach es X.env:=by rfl) (hplain:(backTo cpos (starEach es X.env)).any (·.1)=false:=by rfl) :
  PE X (.Call (.Attribute o name apos) (e::es) [] cpos) (tBM X.K T r to t):=by
 intro pins s σ H Q I h
 (refine wpAny_Call_method_late hbase hfew hline rfl (thn (ho pins s σ H _ I h) ?_);rintro v s1 ⟨x,H1,I1,r1,ty,q1⟩)
 obtain ⟨h1,h2⟩:=w87 I1 r1 ty;refine ⟨T,id,pa,slot,hty,h1,h2,?_⟩;have hA:=ha cpos pins s1 σ H1 _ I1 q1;rw [hs] at hA ⊢;refine Calls.callWith_builtin (by show (false || (backTo cpos (starEach es X.env)).any (·.1))=false;rw [hplain] <;> rfl) (Calls.evalArgs_plain ?_)
 (refine thn hA ?_;rintro us s2 ⟨vs,H2,I2,r2,q2⟩;exact hm pins s2 σ H2 x vs v us Q I2 r1 r2 q2)
/- xs.append(e),list.index on a module's tuple .. are MtR facts of 06m -/
end
def MtM (X:Cx) (id:String) (r:V->List V->Hp->VK->Prop):Prop :=
 ∀ (pins:List (Addr × Obj)) (s:Shared) (σ:St) (H:Hp) (x:V) (xs:List V) (v:Value) (us:List Value) (Q:VK),Inv X pins σ H s->RelV x v->Vals xs us->r x xs H Q ->
  wpAny (model X.prog X.w) X.A (call (.builtin id) (v::us)) (EP X pins σ Q) X.xe s
theorem Vals.one:∀ {x:V} {us:List Value},Vals [x] us->∃ u,us=[u] /\ RelV x u
 | _,_,.cons r .nil=>⟨_,rfl,r⟩
theorem Vals.eraseIdx:∀ {xs:List V} {us:List Value} (i:Nat),Vals xs us->Vals (xs.eraseIdx i) (us.eraseIdx i)
 | _,_,_,.nil=>.nil
 | _,_,0,.cons _ t=>t
 | _,_,i+1,.cons r t=>.cons r (Vals.eraseIdx i t)
theorem Vals.rep {xs:List V} {us:List Value} (h:Vals xs us):∀ k:Nat,Vals (List.replicate k xs).flatten (List.replicate k us).flatten
 | 0=>.nil
 | k+1=>by
  rw [List.replicate_succ,List.replicate_succ,List.flatten_cons,List.flatten_cons];exact Vals.append h (Vals.rep h k)
theorem uo4 {α:Type}:∀ (l:List α) (i:Nat),(l.eraseIdx i).length<=l.length
 | [],_=>Nat.le_refl _
 | _::_,0=>Nat.le_succ _
 | _::r,i+1=>Nat.succ_le_succ (uo4 r i)
theorem foldl_rep (its:List Value):∀ (k:Nat) (acc:List Value),
  List.foldl (fun x1 x2=>x1++x2) acc.toArray (List.replicate k its.toArray)=(acc++(List.replicate k its).flatten).toArray
 | 0,acc=>by simp
 | k+1,acc=>by
  have e:acc.toArray++its.toArray=(acc++its).toArray:=by simp
  have e2:(acc++its)++(List.replicate k its).flatten=acc++(List.replicate (k+1) its).flatten:=by
   rw [List.replicate_succ,List.flatten_cons,List.append_assoc]
  rw [<- e2,<- foldl_rep its k (acc++its),<- e,List.replicate_succ,List.foldl_cons]
section
variable {X:Cx} {pins:List (Addr × Obj)} {σ:St} {H:Hp} {s:Shared} {l b:Addr} {xs ys zs:List V}
theorem Inv.lset {its its':List Value} {n:Nat} {f:Array Value->Array Value} {t':Nat} (I:Inv X pins σ H s) (hH:H l=some (.lst xs))
  (e:s.heap.get? l=some { cls:=.type "list",data:=.seq its.toArray n }) (hf:f its.toArray=its'.toArray) (hv:Vals ys its') (hz:ys.length<=sizeLine) :
  Inv X pins σ (upd H l (.lst ys)) { s with heap:=s.heap.update l (Obj.mapSeq f),toks:=t' }:=by
 have q:=PySem.IsL.update e f;rw [hf] at q;refine I.write (x:=l) (e:=l) (by rw [hH];exact trivial) (.inl rfl) (fun b' u hb hu=>(Heap.get?_update_other s.heap (Obj.mapSeq f) (Ne.symm hb)).trans hu) ⟨_,q⟩ ?_;exact ⟨hz,its',_,hv,q⟩
theorem Inv.lnew {its:List Value} {t':Nat} (I:Inv X pins σ H s) (hv:Vals ys its) (hz:ys.length<=sizeLine) :
  Inv X pins σ (upd H s.heap.objs.size (.lst ys)) { s with heap:=s.heap.push { cls:=.type "list",data:=.seq its.toArray },toks:=t' } :=
 I.laid (fun _ _ q=>Heap.get?_push_of_some _ q) (Nat.le_refl _) ⟨hz,its,0,hv,Heap.get?_push_size _ rfl⟩
theorem Inv.fresh (I:Inv X pins σ H s):H s.heap.objs.size=none:=I.hok.fresh (Nat.le_refl _)
theorem Inv.lstM (I:Inv X pins σ H s) (hH:H l=some (.lst xs)):xs.length<=sizeLine /\ ∃ (its:List Value) (n:Nat),Vals xs its /\ xs.length=its.length /\ s.heap.get? l=some { cls:=.type "list",data:=.seq its.toArray n }:=by
 obtain ⟨z,its,n,r,e⟩:=I.hok l _ hH;exact ⟨z,its,n,r,r.length,e⟩
theorem uv4 {n:Nat} (h:n<=sizeLine):Builtin.List.listTooLong n=false:=by
 unfold Builtin.List.listTooLong;exact decide_eq_false (by omega)
end
section
variable {X:Cx}
def vx6:V->List V->Hp->VK->Prop:=fun x vs H Q=>∃ l xs y,x=.ref l /\ vs=[y] /\ H l=some (.lst xs) /\ xs.length < sizeLine /\ Q .non (upd H l (.lst (xs++[y])))
theorem uo1:MtM X "list.append" vx6:=by
 intro pins s σ H x vs v us Q I rx rv h;obtain ⟨l,xs,y,rfl,rfl,hH,hz,q⟩:=h;cases rx;obtain ⟨u,rfl,ru⟩:=rv.one;obtain ⟨z,its,n,r,hl,e⟩:=I.lstM hH;refine call_meets F.slot_list_append ⟨_,e,rfl⟩ F.entry_list_append (F.args_list_append_2 _ _) (PySem.list_append l its.toArray n u (by rw [List.size_toArray];omega)) ⟨e,?_⟩;refine ⟨.non,_,I.lset (its':=its++[u]) hH e (by simp) (r.append (.cons ru .nil)) ?_,rfl,q⟩;rw [List.length_append,List.length_singleton];omega
def vx5:V->List V->Hp->VK->Prop:=fun x vs H Q=>∃ l b xs zs,x=.ref l /\ vs=[.ref b] /\ H l=some (.lst xs) /\ H b=some (.lst zs) /\ xs.length+zs.length<=sizeLine /\ Q .non (upd H l (.lst (xs++zs)))
theorem v56:MtM X "list.extend" vx5:=by
 intro pins s σ H x vs v us Q I rx rv h;obtain ⟨l,b,xs,zs,rfl,rfl,hH,hB,hz,q⟩:=h;cases rx;obtain ⟨u,rfl,ru⟩:=rv.one;cases ru;obtain ⟨z,its,n,r,hl,e⟩:=I.lstM hH;obtain ⟨z2,its2,n2,r2,hl2,e2⟩:=I.lstM hB;have hsz:its.toArray.size+its2.toArray.size<=sizeLine:=by rw [List.size_toArray,List.size_toArray];omega
 have hlong:¬ (!its.toArray.isEmpty && Builtin.List.listTooLong (its.toArray.size+its2.toArray.size))=true:=by
  rw [uv4 hsz,Bool.and_false];exact Bool.false_ne_true
 refine call_meets F.slot_list_extend ⟨_,e,rfl⟩ F.entry_list_extend (F.args_list_extend_2 _ _)
  (AutoSeq1.list_extend_list_list_0 l its.toArray n b its2.toArray n2 hlong (by rw [List.size_toArray];omega) (by omega)) ⟨e,e2,?_⟩
 refine ⟨.non,_,I.lset (its':=its++its2) hH e (by simp) (r.append r2) ?_,rfl,q⟩;rw [List.length_append];omega
def wa9:V->List V->Hp->VK->Prop:=fun x vs H Q=>∃ l xs i k y,x=.ref l /\ vs=[.int i] /\ H l=some (.lst xs) /\ -(2 ^ 63)<=i /\ i < 2 ^ 63 /\ seqIndex? i xs.length=some k /\ xs[k]?=some y /\ Q y (upd H l (.lst (xs.eraseIdx k)))
theorem vg3:MtM X "list.pop" wa9:=by
 intro pins s σ H x vs v us Q I rx rv h;obtain ⟨l,xs,i,k,y,rfl,rfl,hH,h1,h2,hk,hy,q⟩:=h;cases rx;obtain ⟨u,rfl,ru⟩:=rv.one;obtain ⟨t,rfl⟩:=ru;obtain ⟨z,its,n,r,hl,e⟩:=I.lstM hH;obtain ⟨w,hw,rw'⟩:=r.get hy;refine call_meets F.slot_list_pop ⟨_,e,rfl⟩ F.entry_list_pop (F.args_list_pop_2 _ _)
  (MeetsSeq.list_pop_at l its.toArray n i t k w (fitsIndex_both h1 h2) (by rw [List.size_toArray,<- hl];exact hk) (by rw [<- Array.getElem?_toList];exact hw) (by rw [List.size_toArray];omega)) ⟨e,?_⟩
 refine ⟨y,_,I.lset (its':=its.eraseIdx k) hH e ?_ (r.eraseIdx k) ?_,rw',q⟩
 ·show its.toArray.eraseIdxIfInBounds k=(its.eraseIdx k).toArray
  rw [List.eraseIdxIfInBounds_toArray]
 ·have:=uo4 xs k
  omega
def rCat:R2:=fun x y H Q=>∃ l b xs zs,x=.ref l /\ y=.ref b /\ H l=some (.lst xs) /\ H b=some (.lst zs) /\ xs.length+zs.length<=sizeLine /\ ∀ p,H p=none->Q (.ref p) (upd H p (.lst (xs++zs)))
theorem we6:OpR X (binaryOp .Add) rCat:=by
 intro pins s σ H x y v u Q I rx ry h;obtain ⟨l,b,xs,zs,rfl,rfl,hH,hB,hz,q⟩:=h;cases rx;cases ry;obtain ⟨z,its,n,r,hl,e⟩:=I.lstM hH;obtain ⟨z2,its2,n2,r2,hl2,e2⟩:=I.lstM hB;refine PySem.P.add_list e e2 ?_ (by rw [List.size_toArray,List.size_toArray];omega);have ea:its.toArray++its2.toArray=(its++its2).toArray:=by simp
 rw [ea];exact ⟨.ref _,_,I.lnew (t':=s.toks) (r.append r2) (by rw [List.length_append];omega),rfl,q _ I.fresh⟩
def rRep:R2:=fun x y H Q=>∃ l k xs,x=.ref l /\ y=.int k /\ H l=some (.lst xs) /\ -(2 ^ 63)<=k /\ k < 2 ^ 63 /\ xs.length * k.toNat<=sizeLine /\
 ∀ p,H p=none->Q (.ref p) (upd H p (.lst (List.replicate k.toNat xs).flatten))
theorem len_rep {α:Type} (xs:List α) (k:Nat):(List.replicate k xs).flatten.length=k * xs.length:=by
 induction k with
 | zero=>simp
 | succ k ih=>rw [List.replicate_succ,List.flatten_cons,List.length_append,ih,Nat.succ_mul,Nat.add_comm]
theorem we1:OpR X (binaryOp .Mult) rRep:=by
 intro pins s σ H x y v u Q I rx ry h;obtain ⟨l,k,xs,rfl,rfl,hH,h1,h2,hz,q⟩:=h;cases rx;obtain ⟨t,rfl⟩:=ry;obtain ⟨z,its,n,r,hl,e⟩:=I.lstM hH;have hlen:its.toArray.size * k.toNat<=sizeLine:=by rw [List.size_toArray,<- hl];exact hz
 have hcap:¬ its.toArray.size * k.toNat > (2 ^ 63 - 1) / 8:=by
  have:(sizeLine:Nat)<=(2 ^ 63 - 1) / 8:=by decide
  omega
 have hfit:¬ (!Builtin.List.listFitsIndex k)=true:=by
  rw [fitsIndex_both h1 h2];exact Bool.false_ne_true
 have hlong:¬ Builtin.List.listTooLong (its.toArray.size * k.toNat)=true:=by
  rw [uv4 hlen];exact Bool.false_ne_true
 have hnew:List.foldl (fun x1 x2=>x1++x2) #[] (List.replicate (if its.toArray.isEmpty=true then 0 else k.toNat) its.toArray)=(List.replicate k.toNat its).flatten.toArray:=by
  have f0:∀ m:Nat,List.foldl (fun x1 x2=>x1++x2) #[] (List.replicate m its.toArray)=(List.replicate m its).flatten.toArray:=fun m=>by
   have:=foldl_rep its m [];rw [List.nil_append] at this;exact this
  rw [f0];cases its with
  | nil=>simp
  | cons a r'=>rw [if_neg (by simp)]
 refine wpAny_binaryOp_repeat_ref (T := "list") (U := "int") (by decide) ⟨_,e,rfl⟩ (fun s'=>typeIs_int s' k t) noFill_list_mul F.fills_int_mul F.slot_int_rmul repeat_list F.slot_int_index.lookup
  (call_meets F.slot_int_rmul (typeIs_int s k t) F.entry_int_rmul (F.args_int_rmul_2 _ _) (int___rmul___int_list k t l its.toArray n)
   ⟨e,rfl,⟨_,e,rfl⟩,call_meets F.slot_list_mul ⟨_,e,rfl⟩ F.entry_list_mul (F.args_list_mul_2 _ _) (AutoListH.list___mul___list_int_3 l its.toArray n k t hfit hcap hlong) ⟨e,?_⟩⟩)
 rw [hnew];exact ⟨.ref _,_,I.lnew (t':=s.toks) (r.rep k.toNat) (by rw [len_rep,Nat.mul_comm];exact hz),rfl,q _ I.fresh⟩
end
end L2
namespace Att
open PySem PySem.W PySem.Calls PyProof.Rows
theorem uf2 {P:Params} {h:Heap}:∀ (ns:List Int) (vs:List Value),WellAll P h vs (ns.map WData.int)->IntsAre vs ns:=by
 intro ns
 induction ns with
 | nil =>
  intro vs w;rw [List.map_nil] at w;cases w;exact .nil
 | cons n ns ih =>
  intro vs w;rw [List.map_cons] at w;cases w with
  | cons a b =>
   cases a;exact .cons _ _ (ih _ b)
theorem v30 {l:OpenLaw} {n:Nat} (hn:l.most=some n) {P:Params} {h:Heap} {args:List WData} {vals:List Value}
  (hpre:l.row.toRowW.claim.pre args=true) (hwl:WellAll P h vals args) :
  ∃ a vs ns,vals=[Value.ref a] /\ args=[WData.list (ns.map WData.int)] /\ h.get? a=some { cls:=.type "list",data:=.seq vs.toArray } /\ IntsAre vs ns /\ ns.length<=n:=by
 have hsh:WShape.hasAll [] args [.list .int]=true:=(pre_splitW hpre).1;have hc:l.pre.holds [] { args:=args }=true:=(pre_splitW hpre).2;obtain ⟨d,r,rfl,h1,h2⟩:=hasAllW_cons hsh;obtain rfl:=hasAllW_nil h2;obtain ⟨xs,rfl,h3⟩:=hasW_list h1;obtain ⟨ns,rfl⟩:=items_int h3;have hlen:ns.length<=n:=by
  unfold OpenLaw.pre at hc;have h4:(WTm.not (.lt (.lit (.int (n:Int))) (.len (.arg 0)))).holds [] { args:=[.list (ns.map .int)] }=true:=by
   have h4:=(holds_andW hc).1;rw [hn] at h4;exact h4
  have h5:=condW_of h4 (w_not (w_lt w_lit (w_len_list (w_arg rfl))));rw [List.length_map] at h5;refine Nat.le_of_not_lt fun q=>?_
  have q':(n:Int) < ((ns.length:Nat):Int):=by omega
  first
   | (rw [decide_eq_true q'] at h5;exact absurd h5 (by decide))
   | (simp at h5;omega)
 cases hwl with
 | cons w1 w2 =>
  cases w2;cases w1 with
  | list ho hall=>exact ⟨_,_,ns,rfl,rfl,ho,uf2 ns _ hall,hlen⟩
theorem v43 (l:OpenLaw) (args:List WData):l.row.toRowW.claim.post args (.bool true) args=true :=
 postW_of (r:=l.row.toRowW) (X:=(true == true))
  (show WShape.has [] (.bool true) .bool=true by first | rfl | decide | simp [WShape.has,WShape.arms,WShape.armsAll])
  (show (WTm.eq .res (.lit (.bool true))).value [] { args:=args,res:=some (.bool true),after:=args }=some (.bool (true == true)) from w_eq_bool (w_res rfl) w_lit) rfl
theorem attach_call {l:OpenLaw} {n:Nat} {q:Program} {loose:List Str} {XP:(Str->Option Value)->Heap->Prop} {YP:World->Heap->Prop} {d:DefRec}
  (hn:l.most=some n) (hdf:d.params.defaults=[])
  (call:∀ (w:World) (s₀ s₁:Shared) (mg mb:Str->Option Value) (fa:Addr) (o:Obj) (pm cd doc:Value) (a:Addr) (vs:List Value) (ns:List Int),
   Ground q loose [] XP w s₀ mg mb s₁.heap->YP w s₁.heap ->
   s₁.heap.get? fa=some o->o.data=.func (docDef d.name d.params d.body d.scope pm cd doc)->s₁.heap.CodeRec cd d.name->mg d.name=some (.ref fa) ->
   s₁.heap.get? a=some { cls:=.type "list",data:=.seq vs.toArray }->IntsAre vs ns->ns.length<=n->s₁.gens=#[] ->
   codeAny (model l.prog w) callerA (.call (.ref fa) ⟨[.ref a],[]⟩) (fun r s'=>r=.ok (.ret (.bool true)) /\ OldK s₁.heap s'.heap /\ s'.os=s₁.os /\ AllBare s'.gens) s₁) :
  WalkO q loose XP YP l.row.toRowW d [] (fun f vs=>PySem.call f vs):=by
 intro w s₀ s₁ mg mb G Y fa o pm cd doc dV kV ho hd hcd hD hmg hg args vals as hpre hlay hrd hwl hlo;obtain rfl:dV=.none:=Dflts.none hD hdf;obtain rfl:kV=.none:=Dflts.noKw hD;obtain ⟨a,vs,ns,rfl,rfl,hobj,hints,hlen⟩:=v30 hn hpre hwl;refine enter_call (codeAny_mono (call w s₀ s₁ mg mb fa o pm cd doc a vs ns G Y ho (fd_plain hd) hcd hmg hobj hints hlen hg) fun r s' hq=>?_);obtain ⟨rfl,h2,h3,h4⟩:=hq;exact ⟨.inl ⟨.bool true,.bool true,[],rfl,fun _=>rfl,.bool true,v43 l _,fun _=>⟨List.Pairwise.nil,fun _ hm=>(nomatch hm)⟩⟩,h2,h3,h4⟩
end Att
namespace L2
open PySem PySem.Spec PyProof.Rows
theorem um1:∀ {vs:List Value} {ns:List Int},IntsAre vs ns->Vals (ns.map V.int) vs
 | _,_,.nil=>.nil
 | _,_,.cons n t h=>.cons ⟨t,rfl⟩ (um1 h)
def Only (H:Hp):Prop:=∀ b,H b=none \/ ∃ o xs,H b=some (.frz o (.lst xs))
theorem vi7 {P:Program} {w:World} {K:W.Frag} {mg mb:Str->Option Value} {CX:CXT} {k:Nat} {fa a:Addr} {fd:FuncData} {x:Str} {sp:Sp} {s₁:Shared} {vs:List Value} {ns:List Int}
  (KX:K.In s₁.heap) (hns:s₁.heap.Ns mainGlobals mg) (hb:s₁.heap.Ns builtinsNs mb) (hbb:∀ x:Str,x ≠ "__name__" -> mb x=bootBuiltins x) (hlim:s₁.heap.NoLimit) (hg:s₁.gens=#[])
  (ha:s₁.heap.get? a=some { cls:=.type "list",data:=.seq vs.toArray }) (hi:IntsAre vs ns) (hl:ns.length<=sizeLine) (hr:Room k callerA)
  (F:∀ base:Heap,K.In base->base.Ns mainGlobals mg->FnOk P w K mg base CX k fa fd [x] sp) (hbind:∀ (s:Shared) (u:Value),BindsTo s fd ⟨[u],[]⟩ [(x,u)])
  (hsp:∀ H:Hp,Only H->SqL K H a (ns.map V.int)->sp [.ref a] H (fun v _=>v=.bl true) fun _ _ _=>False)
  (hCX:∀ H e s',CX [] H s₁ (fun _ _ _=>False) e s'->False) :
  codeAny (model P w) callerA (.call (.ref fa) ⟨[.ref a],[]⟩) (fun r s'=>r=.ok (.ret (.bool true)) /\ OldK s₁.heap s'.heap /\ s'.os=s₁.os /\ AllBare s'.gens) s₁:=by
 have rv:=um1 hi;have lenV:=hi.length;have core:∀ H:Hp,Only H->SqL K H a (ns.map V.int)->HOk P w H s₁.heap->(∀ b,H b ≠ none->b=a)->(H a ≠ none->K.lookup a=none) ->
   codeAny (model P w) callerA (.call (.ref fa) ⟨[.ref a],[]⟩) (fun r s'=>r=.ok (.ret (.bool true)) /\ OldK s₁.heap s'.heap /\ s'.os=s₁.os /\ AllBare s'.gens) s₁:=by
  intro H hO hS hok hA hK;have base_of:∀ {b:Addr} {o:Obj},s₁.heap.get? b=some o->H b=none->(hidT s₁.heap H).get? b=some o:=fun e n=>vi9 e n
  have noA:∀ {b:Addr} {o:Obj} {es:Array DictEntry} {ep:Nat},s₁.heap.get? b=some o->o.data=.dict es ep->H b=none:=fun {b o es ep} e d=>by
   cases q:H b with
   | none=>rfl
   | some u =>
    have e':b=a:=hA b (by rw [q];simp);subst e';rw [ha] at e;cases e;have d':Data.seq vs.toArray _=Data.dict es ep:=d;cases d'
  have nsK:∀ {b:Addr} {m:Str->Option Value},s₁.heap.Ns b m->(hidT s₁.heap H).Ns b m:=fun {b m} ⟨o,es,ep,e,d,r⟩=>⟨o,es,ep,base_of e (noA e d),d,r⟩
  have hKb:K.In (hidT s₁.heap H):=fun b o e=>base_of (KX b o e) (by
   cases q:H b with
   | none=>rfl
   | some u =>
    have e':b=a:=hA b (by rw [q];simp);subst e';rw [hK (by rw [q];simp)] at e;cases e)
  have hM:Mod K mg (hidT s₁.heap H):=⟨hKb,nsK hns,⟨mb,nsK hb,hbb⟩,let ⟨mc,h1,h2⟩:=hlim;⟨mc,nsK h1,h2⟩⟩;have e0:Env0 P w K mg (hidT s₁.heap H) callerA [] s₁ H:=⟨rfl,hM,fun b o e=>w01 e,Nat.le_of_eq (v78 _ _),trivial,fun b hb=>absurd (show b ∈ ([]:List Addr) from hb) (by simp),hok,.of_eq hg⟩;refine codeAny_mono ((F _ hKb (nsK hns)).run callerA [] s₁ H ⟨[.ref a],[]⟩ [.ref a] [.ref a] _ _ hr e0 (hbind s₁ (.ref a)) (.cons rfl .nil) (hsp H hO hS)) fun r s' h=>?_
  cases r with
  | error e=>exact (hCX H e s' h).elim
  | ok fl =>
   cases fl with
   | next=>exact False.elim h
   | brk=>exact False.elim h
   | cont=>exact False.elim h
   | ret u =>
    obtain ⟨v,H',os,bare,un,hok',r',q⟩:=h;have q':v=.bl true:=q;subst q';obtain rfl:u=Value.bool true:=r';refine ⟨rfl,OldK.of_keep fun b o e=>?_,os,bare⟩;cases q:H b with
    | none=>exact un.keep b o e q (by intro z;exact absurd (show b ∈ ([]:List Addr) from z) (by simp)) (by simp)
    | some u =>
     rcases hO b with z | ⟨ob,xs,z⟩
     ·rw [q] at z;cases z
     ·have z2:=un.frzs b ob _ z
      obtain ⟨e1,_⟩:=hok b _ z;obtain ⟨e2,_⟩:=hok' b _ z2;rw [e] at e1;cases e1;exact e2
 cases hk:K.lookup a with
 | some o =>
  have e:=KX a o hk;rw [ha] at e;cases e;refine core (fun _=>none) (fun _=>.inl rfl) (.inr ⟨_,vs.toArray,_,hk,rfl,rfl,rfl,by rw [List.size_toArray,lenV];exact hl,by simpa using rv⟩) (fun b u z=>by have z':(none:Option HO)=some u:=z;cases z') (fun b z=>absurd rfl z) fun z=>absurd rfl z
 | none =>
  refine core (fun b=>if b=a then some (.frz { cls:=.type "list",data:=.seq vs.toArray } (.lst (ns.map V.int))) else none) (fun b=>?_) (.inl (.inr ⟨{ cls:=.type "list",data:=.seq vs.toArray },if_pos rfl⟩)) (fun b u z=>?_) (fun b z=>?_) fun _=>hk
  ·by_cases hb:b=a
   ·exact .inr ⟨_,_,if_pos hb⟩
   ·exact .inl (if_neg hb)
  ·by_cases hb:b=a
   ·have z':=(if_pos hb).symm.trans z
    cases z';subst hb;exact ⟨ha,by rw [List.length_map];exact hl,vs,_,rv,ha⟩
   ·have z':=(if_neg hb).symm.trans z
    cases z'
  ·by_cases hb:b=a
   ·exact hb
   ·exact absurd (if_neg hb) z
abbrev KOf {K:W.Frag} {h:Heap} (_:K.In h):W.Frag:=K
theorem walk_of {l:W.OpenLaw} {n k:Nat} {q:Program} {loose:List Str} {XP:(Str->Option Value)->Heap->Prop} {YP:World->Heap->Prop} {d:DefRec} {K:Params->W.Frag} {CX:World->CXT} {sp:World->Sp} {x:Str}
  (hn:l.most=some n) (hn2:n<=sizeLine) (hdf:d.params.defaults=[]) (hr:Room k callerA)
  (hY:∀ (w:World) (h:Heap),YP w h->(K w.params).In h)
  (F:∀ (w:World) (mg:Str->Option Value) (fa:Addr) (h:Heap),(K w.params).In h->h.Ns mainGlobals mg->mg d.name=some (.ref fa) ->
   ∃ fd:FuncData,(∀ (s:Shared) (u:Value),BindsTo s fd ⟨[u],[]⟩ [(x,u)]) /\
    ∀ base:Heap,(K w.params).In base->base.Ns mainGlobals mg->FnOk l.prog w (K w.params) mg base (CX w) k fa fd [x] (sp w))
  (hsp:∀ (w:World) (H:Hp) (a:Addr) (ns:List Int),ns.length<=n->Only H->SqL (K w.params) H a (ns.map V.int)->sp w [.ref a] H (fun v _=>v=.bl true) fun _ _ _=>False)
  (hCX:∀ (w:World) (H:Hp) (s:Shared) (e:Value) (s':Shared),CX w [] H s (fun _ _ _=>False) e s'->False) :
  W.WalkO q loose XP YP l.row.toRowW d [] (fun f vs=>PySem.call f vs):=by
 refine Att.attach_call hn hdf fun w s₀ s₁ mg mb fa o pm cd doc a vs ns G Y ho hd hcd hmg hobj hints hlen hg=>?_
 have KX:=hY w _ Y;obtain ⟨fd,hb,hF⟩:=F w mg fa _ KX G.T.g hmg;exact vi7 KX G.T.g G.T.b G.T.builtins G.T.nolimit hg hobj hints (Nat.le_trans hlen hn2) hr hF hb (fun H hO hS=>hsp w H a ns hlen hO hS) fun H e s'=>hCX w H s₁ e s'
end L2
/- THE LAST THEOREM (shape; LID,My.* are yours):
   My.Adr: a structure of the addresses that your layer names (classes,functions);My.Txt K t: a structure (Prop) of the equations over K;
   My.txt_mk:{K} {implicit addresses ..} (e1:nsIn K mainGlobals "law" = some (some (.ref f))) (e2:K.lookup f=some ⟨oc,od,.func (fnOf "law" "law" params body scope dV kV doc pm an cdv ct),sl⟩) (e3:codeIn K cdv "law" = true) ..:∃ t,My.Txt K t
set_option maxHeartbeats 0 in
theorem PySem.Challenge.cw_LID_holds:PySem.Challenge.rw_LID.Holds:=by
 w_on;o_law;k_head;(case hw=>w_witness2)
 k_fill
 refine L2.walk_of (l:=PySem.Challenge.rw_LID) (n:=63) (k:=40) (x := "script") (CX:=fun w=>..) (sp:=fun _=>My.sp_law) rfl (by decide) rfl ⟨rfl,by decide,by decide⟩ (fun w h Y=>W.kIn_of Y) ?F ?S ?C
 case F =>
  intro w mg fa h KX G hmg;have T:∃ t,My.Txt (L2.KOf KX) t:=by
   dsimp only [L2.KOf]                          -- K must stand as «<heap const> w.params» for k_is;refine' My.txt_mk ?e1 ?e2 ?e3 ..
   (case e1=>W.k_is)                    -- in the order: a name->its address->its object->its parts
   (case e2=>W.k_is)
   ..
  obtain ⟨t,T⟩:=T;have e0:=hmg.symm.trans (W.mg_of KX G T.law);cases e0                                       -- fa is the law's own address;exact ⟨_,fun s u=>.of_eq rfl,fun base kb nb=>My.law_fn T kb nb⟩     -- if «.of_eq rfl» comes too early: refine' ⟨_,?b,fun base kb nb=>My.law_fn T kb nb⟩;exact fun s u=>.of_eq rfl
 case S=>exact fun w H a ns hl hO hS=>..
 case C=>exact ..
(the tactic k_is has no namespace: write k_is) -/
namespace L2
open PySem PySem.Spec PyProof.Rows
def inClass (s:Stmt) (j:Nat):Stmt:=match s with
 | .ClassDef _ _ _ body _ _ _ _ _ _ _=>body.getD j (.Pass ⟨0,0,0,0⟩)
 | _=>.Pass ⟨0,0,0,0⟩
def u61 (s:Stmt):Arguments:=match s with
 | .FunctionDef _ a _ _ _ _ _ _ _ _=>a
 | _=>{ posonlyargs:=[],args:=[],vararg:=none,kwonlyargs:=[],kw_defaults:=[],kwarg:=none,defaults:=[] }
def u53 (s:Stmt):List Stmt:=match s with
 | .FunctionDef _ _ b _ _ _ _ _ _ _=>b
 | _=>[]
def u04 (s:Stmt):Scope:=match s with
 | .FunctionDef _ _ _ _ _ _ sc _ _ _=>sc
 | _=>{ kind:=.function,names:=[],isGenerator:=false,isCoroutine:=false }
abbrev CX0:CXT:=fun _ _ _ _ _ _=>False
abbrev E0:XK:=fun _ _ _=>False
theorem pass0 {X:Cx}:Passes CX0 X E0:=fun _ _ _ _ _ _ _ h=>h.elim
theorem vi8 {A:Around} {k:Nat} (hr:Room k A):A.units+1 < cLine:=Nat.lt_of_le_of_lt (Nat.add_le_add_left (by decide:1<=64) _) hr.units
theorem w20 {prog:Program} {w:World} {A:Around} {R:Result->Shared->Prop} {s:Shared} {elt target iter:Expr} {ifs:List Expr} {scope:Scope} {pos:Pos} {it acc:Value} {env:Env} (I:Nat->Shared->Prop)
  (turn:∀ n s,I n s->wpAny (model prog w) A (pyNext it) (fun r s₁=>match r with
   | none=>R (.ok .next) s₁
   | some v=>wpAny (model prog w) A (letOwnedTupleGo target it v) (fun _ s₁=>wpAny (model prog w) A (assign target env v) (fun _ s₂ =>
     wpAny (model prog w) A (forIn ifs true fun c r=>if r=true then do let ok <- isTrue c env (eval c env);pure (ForInStep.yield ok) else pure (ForInStep.yield r)) (fun ok s₃ =>
      if ok=true then wpAny (model prog w) A (eval elt env) (fun x s₄ =>
       wpAny (model prog w) A (call (.builtin "list.append") [acc,x]) (fun _ s₅=>∃ m,m < n /\ I m s₅) (fun _ _=>False) s₄) (fun _ _=>False) s₃
      else ∃ m,m < n /\ I m s₃) (fun _ _=>False) s₂) (fun _ _=>False) s₁) (fun _ _=>False) s₁) (fun _ _=>False) s)
  (n:Nat) (h:I n s) :
  codeAny (model prog w) A (.compLoop (.ListComp elt [⟨target,iter,ifs,0⟩] scope pos) 0 it acc env) R s:=by
 refine codeAny_loop rfl I (fun n s hI=>?_) n h
 show wpAny _ A ((compTurn (.ListComp elt [⟨target,iter,ifs,0⟩] scope pos) 0 it acc env).onRaise (fun x=>do noteFrame x env;theTreesLotGoes x)) _ _ s
 refine wpAny_noted ?_;rw [compTurn_list];refine wpAny_bind (wpAny_standAt (wpAny_bind (wpAny_mono (turn n s hI) (fun r s₁ h₁=>?_) fun _ _ h'=>h'.elim)));cases r with
 | none=>exact wpAny_pure h₁
 | some v =>
  refine wpAny_bind (wpAny_mono h₁ (fun _ s₂ h₂=>?_) fun _ _ h'=>h'.elim);refine wpAny_bind (wpAny_mono h₂ (fun _ s₂ h₂=>wpAny_bind (wpAny_mono h₂ (fun ok s₃ h₃=>?_) fun _ _ h'=>h'.elim)) fun _ _ h'=>h'.elim);cases ok with
  | false=>exact wpAny_pure ⟨rfl,h₃⟩
  | true =>
   exact wpAny_bind (wpAny_bind (wpAny_mono h₃ (fun x s₄ h₄=>wpAny_bind (wpAny_mono h₄ (fun _ s₅ h₅=>wpAny_pure (wpAny_pure ⟨rfl,h₅⟩)) fun _ _ h'=>h'.elim)) fun _ _ h'=>h'.elim))
def clOf (env:Env):List (Str × NameKind)->List (Str × Addr)->List (Str × Addr)
 | [],cs=>cs
 | (x,k)::r,cs=>clOf env r (if (k == .free)=true then (x,(env.cells.lookup x).getD 0)::cs else cs)
theorem us4 {env:Env} {x:Str} {c:Addr} (h:env.cells.lookup x=some c):cellOf env x=pure c:=by
 unfold cellOf;rw [h]
theorem ui7 {scope:Scope} {env:Env} (h:∀ y ∈ scope.names,y.2=.free->∃ c,env.cells.lookup y.1=some c):closureFor scope env=pure (clOf env scope.names []):=by
 have key:∀ (l:List (Str × NameKind)) (cs:List (Str × Addr)),(∀ y ∈ l,y.2=.free->∃ c,env.cells.lookup y.1=some c) ->
   (forIn l cs fun (y:Str × NameKind) r=>if (y.2 == NameKind.free)=true then do let c <- cellOf env y.1;pure (ForInStep.yield ((y.1,c)::r)) else pure (ForInStep.yield r):Sem (List (Str × Addr)))=pure (clOf env l cs):=by
  intro l
  induction l with
  | nil=>intro cs _;rfl
  | cons y r ih =>
   intro cs hl;obtain ⟨x,k⟩:=y;rw [List.forIn_cons]
   by_cases hk:k=.free
   ·subst hk
    obtain ⟨c,hc⟩:=hl (x,.free) List.mem_cons_self rfl;have e:((NameKind.free == NameKind.free):Bool)=true:=rfl;simp only [e,if_true,us4 hc,pure_bind];rw [ih _ fun z hz=>hl z (List.mem_cons_of_mem _ hz)]
    show _=pure (clOf env r (if (NameKind.free == NameKind.free)=true then _ else _))
    rw [e,if_pos rfl,hc] <;> rfl
   ·have e:(k == NameKind.free)=false:=by simpa using hk
    simp only [e,Bool.false_eq_true,if_false,pure_bind];rw [ih _ fun z hz=>hl z (List.mem_cons_of_mem _ hz)]
    show _=pure (clOf env r (if (k == NameKind.free)=true then _ else _))
    rw [e,if_neg Bool.false_ne_true]
 have e:closureFor scope env=((forIn scope.names ([]:List (Str × Addr)) fun (y:Str × NameKind) r=>if (y.2 == NameKind.free)=true then do let c <- cellOf env y.1;pure (ForInStep.yield ((y.1,c)::r)) else pure (ForInStep.yield r):Sem (List (Str × Addr))) >>= fun cs=>pure cs):=rfl;rw [e,key scope.names [] h];rfl
theorem uf9 {env:Env} {x:Str} {c:Addr}:∀ {l:List (Str × NameKind)} {cs:List (Str × Addr)},(∀ y ∈ l,y.2=.free->∃ c,env.cells.lookup y.1=some c)->(∀ x c,cs.lookup x=some c->env.cells.lookup x=some c) ->
  (clOf env l cs).lookup x=some c->env.cells.lookup x=some c
 | [],_,_,h,e=>h x c e
 | (y,k)::r,cs,hl,h,e=>by
  refine uf9 (l:=r) (fun z hz=>hl z (List.mem_cons_of_mem _ hz)) (fun x c e=>?_) e
  by_cases hk:k=.free
  ·subst hk
   obtain ⟨d,hd⟩:=hl (y,.free) List.mem_cons_self rfl;rw [if_pos (show (NameKind.free == NameKind.free)=true from rfl),List.lookup_cons] at e;cases hx:x == y with
   | true=>rw [hx,hd] at e;cases e;rw [eq_of_beq hx];exact hd
   | false=>rw [hx] at e;exact h x c e
  ·rw [if_neg (by simpa using hk)] at e;exact h x c e
theorem ul2 {env:Env} {x:Str}:∀ {l:List (Str × NameKind)} {cs:List (Str × Addr)},((∃ c,cs.lookup x=some c) \/ (x,NameKind.free) ∈ l)->∃ c,(clOf env l cs).lookup x=some c
 | [],_,h=>by
  rcases h with h | h
  ·exact h
  ·simp at h
 | (y,k)::r,cs,h=>by
  refine ul2 (l:=r) ?_
  rcases h with ⟨c,h⟩ | h
  ·left
   by_cases hk:(k == NameKind.free)=true
   ·rw [if_pos hk,List.lookup_cons]
    cases hx:x == y with
    | true=>exact ⟨_,rfl⟩
    | false=>exact ⟨c,h⟩
   ·rw [if_neg hk];exact ⟨c,h⟩
  ·rcases List.mem_cons.mp h with e | h
   ·injection e with e1 e2
    subst e1;subst e2
    left
    rw [if_pos (show (NameKind.free == NameKind.free)=true from rfl),List.lookup_cons];simp
   ·exact .inr h
def u57 (X:Cx) (N':List Str) (scope:Scope) (C:Addr) (s:Shared) (H:Hp) (fp:List Addr):Cx :=
 { X with N:=N',s₀:=s,H₀:=H,env:=compEnvC scope (clOf X.env scope.names []) C X.env,outer:=X.stack,ex:=fp,fn:=fun _=>false,pn:=[],xe:=fun _ _=>False }
structure BlkOk (X:Cx) (N':List Str) (ix:List (Option Nat)) (scope:Scope):Prop where
 kind:scope.kind=.function
 nocell:∀ y ∈ scope.names,y.2 ≠ .cell
 names:∀ y ∈ scope.names,y.2=.local->scope.names.lookup y.1=some .local
 frees:∀ y ∈ scope.names,y.2=.free->X.env.kindOf y.1=some .cell \/ X.env.kindOf y.1=some .free
 len:ix.length=N'.length
 at_:∀ (i j:Nat) (x:Str),N'[i]?=some x->ix[i]?=some (some j)->X.N[j]?=some x /\ scope.names.lookup x=some .free
def inner (ix:List (Option Nat)) (σ:St):St:=ix.map fun o=>o.bind fun j=>(σ[j]?).bind id
def vs4 (ix:List (Option Nat)) (wi:TI) (g:TG) (tc:TT) (te:TE):TE:=fun σ H Q=>wi σ H fun J H1=>∀ D,H1 D=none->∃ W:Nat->Nat->St->Hp->Prop,(∃ m,W 0 m (inner ix σ) (upd H1 D (.lst []))) /\ ∀ i m σi H,W i m σi H ->
 (J.stop i H /\ Q (.ref D) H) \/ (J.go i H /\ ∃ N:St->Hp->Prop,(∀ σ' H',N σ' H'->∃ m',m' < m /\ W (i+1) m' σ' H') /\ ∀ x H',J.yld i H x H'->g x σi H' fun σ2 H2=>tc σ2 H2 fun b H3 =>
  if b=true then te σ2 H3 fun v H4=>∃ ys,H4 D=some (.lst ys) /\ ys.length < sizeLine /\ N σ2 (upd H4 D (.lst (ys++[v]))) else N σ2 H3)
theorem u64 {env:Env} {x:Str}:∀ {names:List (Str × NameKind)},names.lookup x=some .free->(env.kindOf x=some .cell \/ env.kindOf x=some .free) ->
  (names.map fun (n,k)=>if (k == NameKind.free && env.scope.kind == .function && env.kindOf n == some .cell) then (n,NameKind.cell) else (n,k)).lookup x=some .cell \/
  (names.map fun (n,k)=>if (k == NameKind.free && env.scope.kind == .function && env.kindOf n == some .cell) then (n,NameKind.cell) else (n,k)).lookup x=some .free
 | [],h,_=>by simp at h
 | (n,k)::r,h,ho=>by
  cases hx:x == n with
  | true =>
   simp only [List.lookup_cons,hx] at h;cases h
   by_cases hc:(NameKind.free == NameKind.free && env.scope.kind == .function && env.kindOf n == some .cell)=true
   ·left
    show List.lookup x ((if (NameKind.free == NameKind.free && env.scope.kind == .function && env.kindOf n == some .cell)=true then (n,NameKind.cell) else (n,.free))::_)=_
    rw [if_pos hc];simp only [List.lookup_cons,hx]
   ·right
    show List.lookup x ((if (NameKind.free == NameKind.free && env.scope.kind == .function && env.kindOf n == some .cell)=true then (n,NameKind.cell) else (n,.free))::_)=_
    rw [if_neg hc];simp only [List.lookup_cons,hx]
  | false =>
   simp only [List.lookup_cons,hx] at h;have ih:=u64 (env:=env) h ho
   show List.lookup x ((if (k == NameKind.free && env.scope.kind == .function && env.kindOf n == some .cell)=true then (n,NameKind.cell) else (n,k))::_)=_ \/
    List.lookup x ((if (k == NameKind.free && env.scope.kind == .function && env.kindOf n == some .cell)=true then (n,NameKind.cell) else (n,k))::_)=_
   by_cases hc:(k == NameKind.free && env.scope.kind == .function && env.kindOf n == some .cell)=true
   ·rw [if_pos hc];simp only [List.lookup_cons,hx];exact ih
   ·rw [if_neg hc];simp only [List.lookup_cons,hx];exact ih
theorem u65 {env:Env} {x:Str}:∀ {names:List (Str × NameKind)},(∀ y ∈ names,y.2 ≠ .cell) ->
  ((names.map fun (n,k)=>if (k == NameKind.free && env.scope.kind == .function && env.kindOf n == some .cell) then (n,NameKind.cell) else (n,k)).lookup x=some .cell \/
  (names.map fun (n,k)=>if (k == NameKind.free && env.scope.kind == .function && env.kindOf n == some .cell) then (n,NameKind.cell) else (n,k)).lookup x=some .free)->(x,NameKind.free) ∈ names
 | [],_,h=>by simp at h
 | (n,k)::r,hn,h=>by
  have h:List.lookup x ((if (k == NameKind.free && env.scope.kind == .function && env.kindOf n == some .cell)=true then (n,NameKind.cell) else (n,k))::(r.map fun (n,k)=>if (k == NameKind.free && env.scope.kind == .function && env.kindOf n == some .cell) then (n,NameKind.cell) else (n,k)))=some .cell \/
   List.lookup x ((if (k == NameKind.free && env.scope.kind == .function && env.kindOf n == some .cell)=true then (n,NameKind.cell) else (n,k))::(r.map fun (n,k)=>if (k == NameKind.free && env.scope.kind == .function && env.kindOf n == some .cell) then (n,NameKind.cell) else (n,k)))=some .free:=h
  cases hx:x == n with
  | true =>
   have e:x=n:=eq_of_beq hx;subst e
   by_cases hc:(k == NameKind.free && env.scope.kind == .function && env.kindOf x == some .cell)=true
   ·have hk:k=.free:=by
     simp only [Bool.and_eq_true,beq_iff_eq] at hc;exact hc.1.1
    subst hk;exact List.mem_cons_self
   ·rw [if_neg hc] at h
    simp only [List.lookup_cons,hx,Option.some.injEq] at h
    rcases h with h | h
    ·exact absurd h (hn (x,k) List.mem_cons_self)
    ·subst h;exact List.mem_cons_self
  | false =>
   refine List.mem_cons_of_mem _ (u65 (env:=env) (fun y hy=>hn y (List.mem_cons_of_mem _ hy)) ?_)
   by_cases hc:(k == NameKind.free && env.scope.kind == .function && env.kindOf n == some .cell)=true
   ·rw [if_pos hc] at h;simp only [List.lookup_cons,hx] at h;exact h
   ·rw [if_neg hc] at h;simp only [List.lookup_cons,hx] at h;exact h
def PIfs (X:Cx) (ifs:List Expr) (t:TT):Prop :=
 ∀ (pins:List (Addr × Obj)) (s:Shared) (σ:St) (H:Hp) (Q:Bool->Hp->Prop),Inv X pins σ H s->t σ H Q ->
  wpAny (model X.prog X.w) X.A (forIn ifs true fun c r=>if r=true then do let ok <- isTrue c X.env (eval c X.env);pure (ForInStep.yield ok) else pure (ForInStep.yield r)) (TP X pins σ Q) X.xe s
def tYes:TT:=fun _ H Q=>Q true H
section
variable {X:Cx} {pins:List (Addr × Obj)} {σ:St} {H:Hp} {s:Shared}
theorem vf1:PIfs X [] tYes:=fun _ _ _ H _ I h=>wpAny_tests_nil ⟨H,I,h⟩
theorem vf0 {c:Expr} {t:TT} (h:PT X c t):PIfs X [c] t:=fun pins s σ H Q I hw=>wpAny_tests_one (h pins s σ H Q I hw)
theorem Inv.blk {N':List Str} {ix:List (Option Nat)} {scope:Scope} {fp:List Addr} {h1:Heap} {tk:Nat} (I:Inv X pins σ H s) (B:BlkOk X N' ix scope) (f:∀ b ∈ fp,FpOk X pins H b) (hlt:∀ b ∈ fp,b < s.heap.objs.size)
  (ns:h1.Ns s.heap.objs.size (fun _=>none)) (old:∀ b o,s.heap.get? b=some o->h1.get? b=some o) :
  Inv (u57 X N' scope s.heap.objs.size s H fp) [] (inner ix σ) H { s with heap:=h1,toks:=tk }:=by
 have hfree:∀ y ∈ scope.names,y.2=.free->∃ c,X.env.cells.lookup y.1=some c:=fun y hy e=>I.ok.has y.1 (B.frees y hy e)
 have hc:∀ x c,(clOf X.env scope.names []).lookup x=some c->X.env.cells.lookup x=some c:=fun x c e=>uf9 hfree (fun _ _ z=>by cases z) e
 have stk:∀ b ∈ fp,b ∉ frs X.stack:=fun b hb z=>by
  rcases List.mem_cons.mp (I.stkSub b z) with e | e
  ·exact (f b hb).2.1 e
  ·exact (f b hb).2.2.1 e
 refine ⟨⟨I.ok.mod,B.kind,I.ok.glob,I.ok.blt,Nat.le_refl _,fun x y c h1 h2=>I.ok.inj x y c (hc x c h1) (hc y c h2),fun x hx=>?_,fun x c h=>(by cases h),I.ok.hd,I.ok.frames,.inl rfl,fun b hb=>⟨Nat.ne_of_lt (hlt b hb),fun x c e=>(f b hb).2.2.2.2.1 x c (hc x c e)⟩,
   I.bs,Nat.le_trans I.ok.bsz I.sz,fun b o e hb=>?_,stk,I.stack,I.stkFree⟩,rfl,I.bare,Un.kept old,⟨_,ns,fun i x v h1 h2 h3=>?_⟩,fun x c e=>?_,I.hok.fresh (Nat.le_refl _),fun x c e=>I.freeC x c (hc x c e),fun p hp=>absurd (show p ∈ ([]:List (Addr × Obj)) from hp) (by simp),I.hok.kept old,?_⟩
 ·exact ul2 (.inr (u65 B.nocell hx))
 ·rcases (f b hb).2.2.2.1 with z | z
  ·exact I.ok.noex b o e z
  ·exact absurd (Nat.lt_of_lt_of_le (Heap.lt_size e) (Nat.le_trans I.ok.bsz z)) (Nat.lt_irrefl _)
 ·have h2:(ix.map fun o=>o.bind fun j=>(σ[j]?).bind id)[i]?=some (some v):=h2
  rw [List.getElem?_map] at h2;cases ho:ix[i]? with
  | none=>rw [ho] at h2;cases h2
  | some o =>
   rw [ho] at h2;cases o with
   | none=>cases h2
   | some j =>
    have h2:(σ[j]?).bind id=some v:=Option.some.inj h2;have h2:σ[j]?=some (some v):=by
     cases hs:σ[j]? with
     | none=>rw [hs] at h2;cases h2
     | some w=>rw [hs] at h2;cases h2;rfl
    obtain ⟨hN,hf⟩:=B.at_ i j x h1 ho
    have hk:=B.frees (x,.free) (PySem.mem_of_lookup hf) rfl;obtain ⟨m,hn,hl⟩:=I.loc;obtain ⟨u,r,lk⟩:=hl j x v hN h2 (hk.elim (fun z=>.inr (.inl z)) fun z=>.inr (.inr z));refine ⟨u,r,.inr ?_⟩
    rcases lk with ⟨z,_⟩ | ⟨_,c,e,z⟩
    ·rcases hk with hk | hk
     ·exact absurd (hk.symm.trans z) (by decide)
     ·exact absurd (hk.symm.trans z) (by decide)
    ·obtain ⟨c',e'⟩:=ul2 (env:=X.env) (cs:=[]) (.inr (PySem.mem_of_lookup hf))
     have ec:c'=c:=Option.some.inj ((hc x c' e').symm.trans e);subst ec;refine ⟨u64 hf hk,c',e',?_⟩;obtain ⟨o,ho,hd⟩:=z;exact ⟨o,old _ _ ho,hd⟩
 ·obtain ⟨v,o,ho,hd⟩:=I.cell x c (hc x c e)
  exact ⟨v,o,old _ _ ho,hd⟩
 ·show (inner ix σ).length=N'.length
  unfold inner;rw [List.length_map];exact B.len
theorem va8 {elt tg iter:Expr} {ifs:List Expr} {scope:Scope} {pos:Pos} {N':List Str} {ix:List (Option Nat)} {g:TG} {tc:TT} {te:TE} {J:It} {fp:List Addr} {it:Addr} {tn:Nat->Heap->Prop} (B:BlkOk X N' ix scope)
  (hg:∀ C s H fp,PG (u57 X N' scope C s H fp) tg g) (hi:∀ C s H fp,PIfs (u57 X N' scope C s H fp) ifs tc) (he:∀ C s H fp,PE (u57 X N' scope C s H fp) elt te) (hc:X.calm=true)
  (I:Inv X pins σ H s) (T:Turn X.prog X.w X.K tg J fp it tn) (st:tn 0 s.heap) (f:∀ b ∈ fp,FpOk X pins H b) {Q:VK} {E:Value->Shared->Prop}
  (w:∃ W:Nat->Nat->St->Hp->Prop,(∃ m,W 0 m (inner ix σ) (upd H s.heap.objs.size (.lst []))) /\ ∀ i m σi H,W i m σi H ->
   (J.stop i H /\ Q (.ref s.heap.objs.size) H) \/ (J.go i H /\ ∃ N:St->Hp->Prop,(∀ σ' H',N σ' H'->∃ m',m' < m /\ W (i+1) m' σ' H') /\ ∀ x H',J.yld i H x H'->g x σi H' fun σ2 H2=>tc σ2 H2 fun b H3 =>
    if b=true then te σ2 H3 fun v H4=>∃ ys,H4 s.heap.objs.size=some (.lst ys) /\ ys.length < sizeLine /\ N σ2 (upd H4 s.heap.objs.size (.lst (ys++[v]))) else N σ2 H3))
  {RR:Value->Addr->Result->Shared->Prop} (hRR:∀ C H' s' m,Inv X pins σ H' s'->FpOk X pins H' C->s'.heap.Ns C m->Q (.ref s.heap.objs.size) H'->RR (.ref s.heap.objs.size) C (.ok .next) s') :
  wpAny (model X.prog X.w) X.A (newList []) (fun acc s₃=>wpAny (model X.prog X.w) X.A (newFunctionEnv scope X.env.globals (clOf X.env scope.names []) [] X.env.qual none .none (some X.env)) (fun cenv s₄ =>
   codeAny (model X.prog X.w) X.A (.compStart (.ListComp elt [⟨tg,iter,ifs,0⟩] scope pos) 0 (.ref it) acc { cenv with scope:=relabel scope X.env }) (RR acc cenv.locals) s₄) E s₃) E s:=by
 obtain ⟨W,⟨m0,w0⟩,turn⟩:=w;have flt:∀ b ∈ fp,b < s.heap.objs.size:=fun b hb=>by
  obtain ⟨o,ho,_⟩:=T.obj 0 _ st b hb;exact Heap.lt_size ho
 have I3:Inv X pins σ (upd H s.heap.objs.size (.lst [])) { s with heap:=s.heap.push { cls:=.type "list",data:=.seq ([]:List Value).toArray },toks:=s.toks }:=I.lnew .nil (Nat.zero_le _)
 have hfr:∀ b ∈ fp,(upd H s.heap.objs.size (.lst [])) b=none:=fun b hb=>by rw [u18 (Nat.ne_of_lt (flt b hb))];exact (f b hb).1
 have f3:∀ b ∈ fp,FpOk X pins (upd H s.heap.objs.size (.lst [])) b:=fun b hb=>⟨hfr b hb,(f b hb).2⟩
 refine wpAny_newObj_type (wpAny_newFunctionEnv B.nocell (by intro y hy;simp at hy) (fun h₁ hns₁ hsb₁=>?_) B.kind);dsimp only at hns₁ hsb₁ ⊢;generalize hH3:s.heap.push { cls:=.type "list",data:=.seq ([]:List Value).toArray }=h3 at hns₁ hsb₁ I3 ⊢;obtain ⟨s3,e3⟩:∃ s3:Shared,s3={ s with heap:=h3 }:=⟨_,rfl⟩
 obtain rfl:h3=s3.heap:=by rw [e3]
 have I3:Inv X pins σ (upd H s.heap.objs.size (.lst [])) s3:=by
  have e:s3={ s with heap:=s3.heap,toks:=s.toks }:=e3
  rw [e];exact I3
 have eT:s3.toks=s.toks:=by rw [e3]
 have eS:({ s with heap:=h₁,toks:=s.toks+([]:List (Str × Value)).length }:Shared)={ s3 with heap:=h₁,toks:=s3.toks+([]:List (Str × Value)).length }:=by rw [e3]
 rw [eS];have hz3:s3.heap.objs.size=s.heap.objs.size+1:=by rw [<- hH3];exact Heap.size_push _ _
 have old:∀ b o,s3.heap.get? b=some o->h₁.get? b=some o:=fun b o e=>hsb₁.extBut b o (Nat.ne_of_lt (Heap.lt_size e)) (Heap.get?_push_of_some _ e)
 have st3:tn 0 s3.heap:=T.keep _ _ _ st fun b hb o e=>by rw [<- hH3];exact Heap.get?_push_of_some _ e
 have st4:tn 0 h₁:=T.keep _ _ _ st3 fun b _ o e=>old b o e
 have I4:=I3.blk (tk:=s3.toks+([]:List (Str × Value)).length) B f3 (fun b hb=>Nat.lt_of_lt_of_le (flt b hb) (by rw [hz3];exact Nat.le_succ _)) (show h₁.Ns s3.heap.objs.size (fun _=>none) from hns₁) old;generalize hX':u57 X N' scope s3.heap.objs.size s3 (upd H s.heap.objs.size (.lst [])) fp=X' at I4;have eX:X'.prog=X.prog /\ X'.w=X.w /\ X'.K=X.K /\ X'.A=X.A /\ X'.calm=X.calm /\ X'.env=compEnvC scope (clOf X.env scope.names []) s3.heap.objs.size X.env /\ X'.ex=fp /\ X'.outer=X.stack /\ X'.s₀=s3 /\ X'.H₀=upd H s.heap.objs.size (.lst []) /\ X'.pn=[] /\ X'.xe=(fun _ _=>False):=by
  rw [<- hX'];exact ⟨rfl,rfl,rfl,rfl,rfl,rfl,rfl,rfl,rfl,rfl,rfl,rfl⟩
 have hg':PG X' tg g:=hX' ▸ hg _ _ _ _;have hi':PIfs X' ifs tc:=hX' ▸ hi _ _ _ _;have he':PE X' elt te:=hX' ▸ he _ _ _ _;obtain ⟨e1,e2,e3,e4,e5,e6,e7,e8,e9,e10,e11,e12⟩:=eX;have stat:∀ {H':Hp},(∀ b ∈ fp,H' b=none)->∀ b ∈ fp,FpOk X' [] H' b:=fun {H'} hn b hb=>by
  have q:=I4.ok.exf b (by rw [e7];exact hb);refine ⟨hn b hb,q.1,?_,.inl (by rw [e7];exact hb),q.2,fun p hp=>?_⟩
  ·exact I4.ok.exfs b (by rw [e7];exact hb)
  ·rw [e11] at hp;simp at hp
 have loop:codeAny (model X.prog X.w) X.A (.compLoop (.ListComp elt [⟨tg,iter,ifs,0⟩] scope pos) 0 (.ref it) (.ref s.heap.objs.size) (compEnvC scope (clOf X.env scope.names []) s3.heap.objs.size X.env))
   (RR (.ref s.heap.objs.size) s3.heap.objs.size) { s3 with heap:=h₁,toks:=s3.toks+([]:List (Str × Value)).length }:=by
  refine w20 (fun n s'=>∃ i σi Hi,Inv X' [] σi Hi s' /\ tn i s'.heap /\ (∀ b ∈ fp,Hi b=none) /\ W i n σi Hi) ?_ m0 ⟨0,_,_,I4,st4,hfr,w0⟩;rintro n s5 ⟨i,σ5,H5,I5,st5,fr5,w5⟩
  rcases turn i n σ5 H5 w5 with ⟨stop,qn⟩ | ⟨go,N,hN,step⟩
  ·have d:=T.done X' e1 e2 e3 (by rw [e5];exact hc) i [] s5 σ5 H5 (fun _ _=>False) I5 (stat fr5) st5 stop
   rw [e4] at d
   (refine thn d ?_;rintro r s6 ⟨hr,I6⟩)
   subst hr;have u:=I6.base;rw [e7,e9,e10] at u;have u:Un (frs X'.outer) fp (upd H s.heap.objs.size (.lst [])) H5 s3.heap s6.heap:=u;rw [e8] at u;have ok6:=I6.hok;rw [e1,e2] at ok6;have I7:Inv X pins σ H5 s6:=I3.call' (ch:=fp) (by have:=I6.os;rw [e9] at this;exact this) u ok6 I6.bare fun b hb=>⟨(f b hb).2.2.2.1,(f b hb).2.1,(f b hb).2.2.2.2.1,(f b hb).2.2.2.2.2⟩
   have hfree:=I6.free;obtain ⟨m,hm,_⟩:=I6.loc;rw [e6] at hfree hm;exact hRR _ H5 s6 m I7 (I3.fpOk (Nat.le_refl _) hfree) hm qn
  ·have d:=T.item X' e1 e2 e3 (by rw [e5];exact hc) i [] s5 σ5 H5 (fun _ _=>False) I5 (stat fr5) st5 go
   rw [e4] at d
   (refine thn d ?_;rintro r s6 ⟨u,hr,h6⟩)
   subst hr
   (refine thn h6 ?_;rintro _ s7 ⟨x,H7,I7,r7,y7,st7,fr7⟩)
   have I7':=I7.pinned (stat fr7) (T.obj _ _ st7);have a:=hg' _ s7 σ5 H7 x u _ I7' r7 (step x H7 y7);rw [e1,e2,e4,e6,e12] at a
   (refine thn a ?_;rintro _ s8 ⟨σ8,H8,I8,q8⟩)
   have t:=hi' _ s8 σ8 H8 _ I8 q8;rw [e1,e2,e4,e6,e12] at t;have again:∀ {σ9:St} {H9:Hp} {s9:Shared},Inv X' ([]++un7 fp s7.heap) σ9 H9 s9->N σ9 H9->∃ m,m < n /\ ∃ i σi Hi,Inv X' [] σi Hi s9 /\ tn i s9.heap /\ (∀ b ∈ fp,Hi b=none) /\ W i m σi Hi:=fun {σ9 H9 s9} I9 n9=>by
    obtain ⟨m',hm,w9⟩:=hN σ9 H9 n9;refine ⟨m',hm,i+1,σ9,H9,I9.unpinned,T.keep _ _ _ st7 fun b hb o e=>(I9.pin (b,o) (List.mem_append_right _ (List.mem_append_right _ (u91 hb e)))).1,fun b hb=>?_,w9⟩;obtain ⟨o,e,d⟩:=T.obj _ _ st7 b hb;exact (I9.pin (b,o) (List.mem_append_right _ (List.mem_append_right _ (u91 hb e)))).2.1
   (refine thn t ?_;rintro ok s9 ⟨H9,I9,q9⟩)
   cases ok with
   | false =>
    rw [if_neg Bool.false_ne_true] at q9 ⊢;exact again I9 q9
   | true =>
    rw [if_pos rfl] at q9 ⊢;have v:=he' _ s9 σ8 H9 _ I9 q9;rw [e1,e2,e4,e6,e12] at v
    (refine thn v ?_;rintro y s10 ⟨z,H10,I10,r10,ys,hD,hz,q10⟩)
    have ap:=uo1 _ s10 σ8 H10 (.ref s.heap.objs.size) [z] (.ref s.heap.objs.size) [y] (fun _ H'=>N σ8 H') I10 rfl (.cons r10 .nil) ⟨_,ys,z,rfl,rfl,hD,hz,q10⟩;rw [e1,e2,e4,e12] at ap
    (refine thn ap ?_;rintro _ s11 ⟨_,H11,I11,_,q11⟩;exact again I11 q11)
 exact codeAny_compStart_list loop (T.self _ _ _ _ _ st4 loop)
variable {elt tg iter:Expr} {ifs:List Expr} {scope:Scope} {pos:Pos} {N':List Str} {ix:List (Option Nat)} {wi:TI} {g:TG} {tc:TT} {te:TE}
theorem vz6 (B:BlkOk X N' ix scope) (hc:X.calm=true) (hw:PI X tg iter wi)
  (hg:∀ C s H fp,PG (u57 X N' scope C s H fp) tg g) (hi:∀ C s H fp,PIfs (u57 X N' scope C s H fp) ifs tc) (he:∀ C s H fp,PE (u57 X N' scope C s H fp) elt te)
  (hs:∀ x,foldedSetIterable iter X.env x=pure x:=by intro _;rfl) :
  PE X (.ListComp elt [⟨tg,iter,ifs,0⟩] scope pos) (vs4 ix wi g tc te):=by
 intro pins s σ H Q I h;rw [eval_ListComp];refine wpAny_comprehension_free (use:=none) rfl hs (ui7 fun y hy e=>I.ok.has y.1 (B.frees y hy e)) B.kind B.names ?_;refine thn (hw pins s σ H _ I h) fun v s1 h1=>thn h1 fun itv s2 h2=>?_
 obtain ⟨it,fp,tn,J,H2,e,I2,T,st2,f2,q2⟩:=h2;subst e;refine va8 B hg hi he hc I2 T st2 f2 (Q:=Q) (q2 _ I2.fresh) fun C H' s' m I' fC hm q=>?_
 refine ⟨m,hm,fun h' sb=>⟨.ref s2.heap.objs.size,H',?_,rfl,q⟩⟩;exact I'.turned (t':=s'.toks) (it:=C) (fun b o hb e=>sb.extBut b o hb e) fC.1 fC.2.1 fC.2.2.2.1 fC.2.2.2.2.1 fC.2.2.2.2.2
def wu5 (i:Nat) (t:TE):TS:=fun D σ H=>t σ H fun x H1=>D.nx (σ.set i (some x)) H1
theorem vy2 {i:Nat} {y:Str} {py spos:Pos} (B:BlkOk X N' ix scope) (hc:X.calm=true) (hN:X.N.Nodup) (hy:X.N[i]?=some y) (hl:Loc X.env.scope y) (hw:PI X tg iter wi)
  (hg:∀ C s H fp,PG (u57 X N' scope C s H fp) tg g) (hi:∀ C s H fp,PIfs (u57 X N' scope C s H fp) ifs tc) (he:∀ C s H fp,PE (u57 X N' scope C s H fp) elt te)
  (hsw:swapsWith (.ListComp elt [⟨tg,iter,ifs,0⟩] scope pos) (some (.Name y py)) spos.line X.env=pure true:=by rfl)
  (hf:X.fn y=true \/ X.env.scope.names.lookup y=some .local:=by first | exact .inl rfl | exact .inr rfl | assumption)
  (hs:∀ x,foldedSetIterable iter X.env x=pure x:=by intro _;rfl) :
  PS X (.Assign [.Name y py] (.ListComp elt [⟨tg,iter,ifs,0⟩] scope pos) spos) (wu5 i (vs4 ix wi g tc te)):=by
 intro pins s σ H D I h;rw [exec_Assign_Name_used _ _ _ _ hsw];refine wpAny_bind (wpAny_standAt (wpAny_bind ?_))
 show wpAny _ X.A (do let _ <- comprehension (.ListComp elt [⟨tg,iter,ifs,0⟩] scope pos) scope X.env _ (newList []) false (eval iter X.env) (some (assign (.Name y py) X.env))) _ _ s
 refine wpAny_bind (wpAny_mono (wpAny_comprehension_free (use:=some (assign (.Name y py) X.env)) (Q:=fun _ s'=>SP X pins D .next s') rfl hs (ui7 fun y hy e=>I.ok.has y.1 (B.frees y hy e)) B.kind B.names
  (thn (hw pins s σ H _ I h) fun v s1 h1=>thn h1 fun itv s2 h2=>?_)) (fun _ s' hq=>wpAny_pure (wpAny_pure hq)) fun _ _ e=>e)
 obtain ⟨it,fp,tn,J,H2,e,I2,T,st2,f2,q2⟩:=h2;subst e;refine va8 B hg hi he hc I2 T st2 f2 (Q:=fun x H1=>D.nx (σ.set i (some x)) H1) (q2 _ I2.fresh) fun C H' s' m I' fC hm q=>?_
 show wpAny _ _ (assign (.Name y py) X.env (.ref s2.heap.objs.size)) _ _ _
 (refine wpAny_assign_Name (um3 I' hN hy hl (v:=.ref s2.heap.objs.size) rfl (?_) hf);rintro s'' I'' ⟨a,hsame,ha⟩)
 have hCa:C ≠ a:=by
  rcases ha with z | z
  ·rw [z];exact fC.2.1
  ·intro e;exact fC.2.2.2.2.1 _ _ z e.symm
 refine ⟨m,hm.sameBut hsame hCa,fun h' sb=>⟨_,H',?_,q⟩⟩;exact I''.turned (t':=s''.toks) (it:=C) (fun b o hb e=>sb.extBut b o hb e) fC.1 fC.2.1 fC.2.2.2.1 fC.2.2.2.2.1 fC.2.2.2.2.2
end
section
variable {X:Cx} {pos:Pos}
def gLst (K:W.Frag) (n:Nat) (t:TGs):TG:=fun v σ H Q=>∃ a xs,v=.ref a /\ SqL K H a xs /\ xs.length=n /\ t xs σ H Q
theorem vz1 {es:List Expr} {k:Nat} {t:TGs} {n:Nat} (hc:X.calm=true) (h:PGs X es t)
  (hn:(assignEach es X.env).length=n:=by rfl) (hst:(assignEach es X.env).findIdx? (·.1)=none:=by rfl):PG X (.Tuple es k pos) (gLst X.K n t):=by
 intro pins s σ H v u Q I r hw;obtain ⟨a,xs,e1,hq,hl,hw⟩:=hw;subst e1;cases r;obtain ⟨its,rv,ht,hz⟩:=I.list hq;rw [PyProof.Rows.assign_Tuple];refine wpAny_bind (wpAny_standAt ?_);unfold unpack;have hsz:(assignEach es X.env).length=its.toArray.size:=by simp [hn,<- hl,rv.length]
 rw [hsz,hst];refine wpAny_bind (wpAny_holding (W.kun_itemsOf (I.ok.hd hc) ht.isList fun h' hx=>?_));have I1:Inv X pins σ H { s with heap:=h' }:=I.kept (t':=s.toks) fun b o e=>hx b o (Nat.ne_of_lt (Heap.lt_size e)) e
 exact h pins _ σ H xs _ Q I1 (by simpa using rv) hw
theorem wv2 {tg:Expr} {t t':TG} (h:PG X tg t) (h':PG X tg t'):PG X tg (fun v σ H Q=>t v σ H Q \/ t' v σ H Q):=by
 intro pins s σ H v u Q I r q
 rcases q with q | q
 ·exact h pins s σ H v u Q I r q
 ·exact h' pins s σ H v u Q I r q
def iSeq (K:W.Frag) (tl:TE):TI:=fun σ H R=>tl σ H fun x H1=>∃ a,x=.ref a /\ (((∃ xs,SqL K H1 a xs) /\ R (Itl K a) H1) \/ ((∃ xs,SqT K H1 a xs) /\ R (Itt K a) H1))
theorem wc1 {tg l:Expr} {tl:TE} (hl:PE X l tl):PI X tg l (iSeq X.K tl):=by
 intro pins s σ H R I h
 (refine thn (hl pins s σ H _ I h) ?_;rintro v s1 ⟨x,H1,I1,r1,q1⟩)
 obtain ⟨a,e,⟨⟨xs,hq⟩,q⟩ | ⟨⟨xs,hq⟩,q⟩⟩:=q1
 ·subst e
  cases r1;obtain ⟨its,rv,p,hz⟩:=I1.list hq;refine wpAny_pyIter_list p.isList ?_;refine ⟨s1.heap.objs.size,[s1.heap.objs.size],_,_,H1,rfl,I1.kept (t':=s1.toks) fun b o e=>Heap.get?_push_of_some _ e,v17 a _,⟨_,Heap.get?_push_size _ rfl,rfl,rfl⟩,fun b hb=>?_,q⟩;have e:b=s1.heap.objs.size:=by simpa using hb
  subst e;exact I1.fpOk (Nat.le_refl _) (I1.hok.fresh (Nat.le_refl _))
 ·subst e
  cases r1;obtain ⟨its,rv,p,hz⟩:=I1.tuple hq;refine wpAny_pyIter_tuple (show s1.heap.IsTuple a its.toArray from p) ?_;refine ⟨s1.heap.objs.size,[s1.heap.objs.size],_,_,H1,rfl,I1.kept (t':=s1.toks) fun b o e=>Heap.get?_push_of_some _ e,ux8 a _,⟨_,Heap.get?_push_size _ rfl,rfl,rfl⟩,fun b hb=>?_,q⟩;have e:b=s1.heap.objs.size:=by simpa using hb
  subst e;exact I1.fpOk (Nat.le_refl _) (I1.hok.fresh (Nat.le_refl _))
theorem v50:OpR X (compareOp .IsNot) (fun x y H Q=>∃ b,y=.bl b /\ Q (.bl (!decide (x=.bl b))) H):=by
 intro pins s σ H x y v u Q I rx ry h;obtain ⟨b,rfl,q⟩:=h;cases ry;refine wpAny_isNot_plain ?_ (u31 I q ?_)
 ·cases x <;> first
   | (cases rx;rfl)
   | (obtain ⟨t,rfl⟩:=rx;rfl)
 ·cases x <;> first
   | (obtain ⟨t,rfl⟩:=rx;rfl)
   | (cases rx;cases b <;> rfl)
   | (cases rx;rename_i c;cases b <;> cases c <;> rfl)
theorem ug6:∀ {bs:List Bool} {us:List Value},Vals (bs.map V.bl) us->us=bs.map Value.bool
 | [],_,.nil=>rfl
 | b::bs,_,.cons r t=>by cases r;rw [ug6 t];rfl
theorem vk2 (hc:X.calm=true):CallR X (.builtin "all") (fun xs H Q=>∃ (p:Addr) (bs:List Bool),xs=[.ref p] /\ SqL X.K H p (bs.map V.bl) /\ Q (.bl (bs.all id)) H):=by
 intro pins s σ H xs us Q I r h;obtain ⟨p,bs,rfl,hq,q⟩:=h;obtain ⟨u,rfl,rx⟩:=vals1 r;cases rx;obtain ⟨its,r',pl,hz⟩:=I.list hq;have e:=ug6 r';subst e;have hl:=pl.isList;have hlt:p < s.heap.objs.size:=by obtain ⟨_,e,_⟩:=hl;exact Heap.lt_size e
 refine call_all_walk (wpAny_pyIter_list hl ?_);refine ⟨s.heap.objs.size,[s.heap.objs.size,p],[s.heap.objs.size],(bs.map Value.bool).toArray.size,_,_,fun i=>(bs[i]?).getD true,rfl,Walks.list (A:=X.A.in1) (I.ok.hd hc) _ p (Nat.ne_of_lt hlt) (bs.map Value.bool).toArray,
  ⟨⟨_,Heap.get?_push_size _ rfl,rfl,rfl⟩,hl.push _⟩,fun i v s' Q' E' hP hQ=>?_,fun h' tk hk=>?_⟩
 ·have hP:(bs.map Value.bool)[i]?=some v:=by simpa using hP
  rw [List.getElem?_map] at hP;cases hb:bs[i]? with
  | none=>rw [hb] at hP;cases hP
  | some b =>
   rw [hb] at hP;cases hP;simp only [hb,Option.getD_some] at hQ;exact wpAny_truthy_bool hQ
 ·have e:((List.range (bs.map Value.bool).toArray.size).all fun i=>(bs[i]?).getD true)=bs.all id:=by
   rw [List.size_toArray,List.length_map,Bool.eq_iff_iff,List.all_eq_true,List.all_eq_true]
   constructor
   ·intro h b hb
    obtain ⟨i,hi,e⟩:=List.mem_iff_getElem.mp hb;have:=h i (List.mem_range.mpr hi);rw [List.getElem?_eq_getElem hi,e] at this;exact this
   ·intro h i hi
    have hi:=List.mem_range.mp hi;rw [List.getElem?_eq_getElem hi];exact h _ (List.getElem_mem hi)
  rw [e];refine ⟨.bl _,H,?_,rfl,q⟩;exact I.kept fun b x e=>hk b x (fun hm=>by rw [List.mem_singleton.mp hm] at e;exact Nat.lt_irrefl _ (Heap.lt_size e)) (Heap.get?_push_of_some _ e)
def w21 (K:W.Frag) (H:Hp):V->String->Prop
 | .non,n=>n = "NoneType"
 | .bl _,n=>n = "bool"
 | .int _,n=>n = "int"
 | .str _,n=>n = "str"
 | .ref a,n=>(n = "list" /\ ((∃ xs,H a=some (.lst xs)) \/ ∃ o xs,H a=some (.frz o (.lst xs)))) \/ (n = "tuple" /\ ∃ xs,H a=some (.tup xs)) \/ (n = "dict" /\ ∃ xs,H a=some (.dK xs))
 | _,_=>False
def subK (n T:String):Bool:=n == T || (n == "bool" && T == "int")
theorem u86 {K:W.Frag} {n T:String} (hn:n = "NoneType" \/ n = "bool" \/ n = "int" \/ n = "str" \/ n = "list" \/ n = "tuple" \/ n = "dict") (hT:T = "int" \/ T = "str" \/ T = "bool" \/ T = "list" \/ T = "tuple" \/ T = "dict"):W.kitOne K (.type n) (.type T)=some (subK n T):=by
 rcases hn with rfl | rfl | rfl | rfl | rfl | rfl | rfl <;> rcases hT with rfl | rfl | rfl | rfl | rfl | rfl <;> rfl
theorem us5:CallR X (.builtin "isinstance") (fun xs H Q=>∃ x n T,xs=[x,.ty T] /\ w21 X.K H x n /\ (T = "int" \/ T = "str" \/ T = "bool" \/ T = "list" \/ T = "tuple" \/ T = "dict") /\ Q (.bl (subK n T)) H):=by
 intro pins s σ H xs us Q I r h;obtain ⟨x,n,T,rfl,hk,hT,q⟩:=h;obtain ⟨u,w,rfl,rx,rt⟩:=vals2 r;cases rt;have fin:∀ tk,EP X pins σ Q (.bool (subK n T)) { s with toks:=tk }:=fun tk=>⟨.bl (subK n T),H,I.tok tk,rfl,q⟩
 cases x with
 | non=>cases (show n = "NoneType" from hk);exact u56 I rx .non (u86 (by simp) hT) fin
 | bl b=>cases (show n = "bool" from hk);exact u56 I rx (.bl b) (u86 (by simp) hT) fin
 | int i=>cases (show n = "int" from hk);exact u56 I rx (.int i) (u86 (by simp) hT) fin
 | str i=>cases (show n = "str" from hk);exact u56 I rx (.str i) (u86 (by simp) hT) fin
 | ref a =>
  rcases (show (n = "list" /\ ((∃ xs,H a=some (.lst xs)) \/ ∃ o xs,H a=some (.frz o (.lst xs)))) \/ (n = "tuple" /\ ∃ xs,H a=some (.tup xs)) \/ (n = "dict" /\ ∃ xs,H a=some (.dK xs)) from hk) with ⟨e,⟨xs,h1⟩ | ⟨o,xs,h1⟩⟩ | ⟨e,xs,h1⟩ | ⟨e,xs,h1⟩
  ·cases e;exact u56 I rx (.lst h1) (u86 (by simp) hT) fin
  ·cases e;exact u56 I rx (.frz h1) (u86 (by simp) hT) fin
  ·cases e;exact u56 I rx (.tup h1) (u86 (by simp) hT) fin
  ·cases e;exact u56 I rx (.dK h1) (u86 (by simp) hT) fin
 | _=>exact (show False from hk).elim
end
end L2
namespace L2
open PySem
def XH (a C:Addr) (dx:Option Addr) (h:Heap):Prop:=∃ o vs,h.get? a=some o /\ o.cls=.ref C /\ o.dict=dx /\ o.data=.fields vs
def XDict (H:Hp):Option Addr->List (Str × V)->Prop
 | none,ys=>ys=[]
 | some d,ys=>∃ o,H d=some (.frz o (.xd ys))
end L2
namespace L3
open PySem L2
inductive D where
 | non | bl (b:Bool) | int (i:Int) | str (x:Str) | tup (xs:List D) | ref (a:Addr) | ty (n:String)
inductive DO where
 | lst (xs:List D) | fro (xs:List D) | dic (kvs:List (Key × D)) | dit (kvs:List (List Key × D)) | ins (C:Addr) (fs:List (Str × D)) | exc (C:Addr) (fs:List (Str × D)) | frd (kvs:List (Key × D))
abbrev Gp:=Addr->Option DO
def gup (G:Gp) (a:Addr) (o:DO):Gp:=fun b=>if b=a then some o else G b
theorem u02 {G:Gp} {a:Addr} {o:DO}:gup G a o a=some o:=by unfold gup;rw [if_pos rfl]
theorem u06 {G:Gp} {a b:Addr} {o:DO} (h:b ≠ a):gup G a o b=G b:=by unfold gup;rw [if_neg h]
theorem u30 {G:Gp} {a:Addr} {o u:DO}:gup (gup G a o) a u=gup G a u:=by
 funext b;unfold gup;split <;> rfl
theorem gne {G:Gp} {a b:Addr} {o:DO} (h:G a=some o) (h':G b=none):a ≠ b:=by
 intro e;subst e;rw [h] at h';cases h'
structure Le (H H':Hp):Prop where
 tups:∀ b xs,H b=some (.tup xs)->H' b=some (.tup xs)
 frzs:∀ b o u,H b=some (.frz o u)->H' b=some (.frz o u)
theorem Le.refl (H:Hp):Le H H:=⟨fun _ _ h=>h,fun _ _ _ h=>h⟩
theorem Le.trans {H H1 H2:Hp} (a:Le H H1) (b:Le H1 H2):Le H H2:=⟨fun c xs h=>b.tups c xs (a.tups c xs h),fun c o u h=>b.frzs c o u (a.frzs c o u h)⟩
theorem Le.sqT {K:W.Frag} {H H':Hp} (l:Le H H') {a:Addr} {xs:List V} (h:SqT K H a xs):SqT K H' a xs:=by
 rcases h with (h | ⟨o,h⟩) | h
 ·exact .inl (.inl (l.tups _ _ h))
 ·exact .inl (.inr ⟨o,l.frzs _ _ _ h⟩)
 ·exact .inr h
theorem Le.fresh {H:Hp} {p:Addr} {o:HO} (h:H p=none):Le H (upd H p o) :=
 ⟨fun b xs q=>by rw [u18 (u50 q h)];exact q,fun b o u q=>by rw [u18 (u50 q h)];exact q⟩
mutual
def RelD (K:W.Frag) (H:Hp):D->V->Prop
 | .non,v=>v=.non
 | .bl b,v=>v=.bl b
 | .int i,v=>v=.int i
 | .str x,v=>v=.str x
 | .ref a,v=>v=.ref a
 | .ty n,v=>v=.ty n
 | .tup ds,v=>∃ a xs,v=.ref a /\ SqT K H a xs /\ RelDs K H ds xs
def RelDs (K:W.Frag) (H:Hp):List D->List V->Prop
 | [],xs=>xs=[]
 | d::ds,xs=>∃ x r,xs=x::r /\ RelD K H d x /\ RelDs K H ds r
end
section
variable {K:W.Frag} {H H':Hp}
mutual
theorem RelD.le (l:Le H H'):∀ {d:D} {v:V},RelD K H d v->RelD K H' d v
 | .non,_,h=>by simpa [RelD] using h
 | .bl _,_,h=>by simpa [RelD] using h
 | .int _,_,h=>by simpa [RelD] using h
 | .str _,_,h=>by simpa [RelD] using h
 | .ref _,_,h=>by simpa [RelD] using h
 | .ty _,_,h=>by simpa [RelD] using h
 | .tup ds,_,h=>by
  rw [RelD] at h ⊢;obtain ⟨a,xs,e,s,r⟩:=h;exact ⟨a,xs,e,l.sqT s,RelDs.le l r⟩
theorem RelDs.le (l:Le H H'):∀ {ds:List D} {xs:List V},RelDs K H ds xs->RelDs K H' ds xs
 | [],_,h=>by simpa [RelDs] using h
 | d::ds,_,h=>by
  rw [RelDs] at h ⊢;obtain ⟨x,r,e,h1,h2⟩:=h;exact ⟨x,r,e,RelD.le l h1,RelDs.le l h2⟩
end
theorem RelDs.nil:RelDs K H [] []:=by rw [RelDs]
theorem RelDs.cons {d:D} {ds:List D} {x:V} {xs:List V} (h:RelD K H d x) (t:RelDs K H ds xs):RelDs K H (d::ds) (x::xs):=by
 rw [RelDs];exact ⟨x,xs,rfl,h,t⟩
theorem RelDs.inv_nil {xs:List V} (h:RelDs K H [] xs):xs=[]:=by rw [RelDs] at h;exact h
theorem RelDs.inv_cons {d:D} {ds:List D} {xs:List V} (h:RelDs K H (d::ds) xs):∃ x r,xs=x::r /\ RelD K H d x /\ RelDs K H ds r:=by rw [RelDs] at h;exact h
theorem RelDs.length:∀ {ds:List D} {xs:List V},RelDs K H ds xs->ds.length=xs.length
 | [],_,h=>by rw [h.inv_nil];rfl
 | _::_,_,h=>by obtain ⟨x,r,e,_,t⟩:=h.inv_cons;rw [e,List.length_cons,List.length_cons,t.length]
theorem RelDs.get:∀ {ds:List D} {xs:List V} {i:Nat} {d:D},RelDs K H ds xs->ds[i]?=some d->∃ x,xs[i]?=some x /\ RelD K H d x
 | [],_,_,_,_,e=>by simp at e
 | _::_,_,0,_,h,e=>by
  obtain ⟨x,r,rfl,h1,t⟩:=h.inv_cons;simp at e;subst e;exact ⟨x,rfl,h1⟩
 | _::_,_,i+1,d,h,e=>by
  obtain ⟨x,r,rfl,h1,t⟩:=h.inv_cons;obtain ⟨y,h2,h3⟩:=RelDs.get (i:=i) t (by simpa using e);exact ⟨y,by simpa using h2,h3⟩
theorem RelDs.append:∀ {ds es:List D} {xs ys:List V},RelDs K H ds xs->RelDs K H es ys->RelDs K H (ds++es) (xs++ys)
 | [],_,_,_,h,t=>by rw [h.inv_nil];exact t
 | _::_,_,_,_,h,t=>by
  obtain ⟨x,r,rfl,h1,h2⟩:=h.inv_cons;exact .cons h1 (h2.append t)
theorem RelDs.set {d:D} {x:V} (q:RelD K H d x):∀ {ds:List D} {xs:List V} (i:Nat),RelDs K H ds xs->RelDs K H (ds.set i d) (xs.set i x)
 | [],_,_,h=>by rw [h.inv_nil];exact .nil
 | _::_,_,0,h=>by
  obtain ⟨x,r,rfl,h1,h2⟩:=h.inv_cons;exact .cons q h2
 | _::_,_,i+1,h=>by
  obtain ⟨x,r,rfl,h1,h2⟩:=h.inv_cons;exact .cons h1 (h2.set q i)
theorem RelDs.take:∀ {ds:List D} {xs:List V} (n:Nat),RelDs K H ds xs->RelDs K H (ds.take n) (xs.take n)
 | _,_,0,_=>by simpa using RelDs.nil
 | [],_,_+1,h=>by rw [h.inv_nil];exact .nil
 | _::_,_,n+1,h=>by
  obtain ⟨x,r,rfl,h1,h2⟩:=h.inv_cons;exact .cons h1 (h2.take n)
theorem RelDs.drop:∀ {ds:List D} {xs:List V} (n:Nat),RelDs K H ds xs->RelDs K H (ds.drop n) (xs.drop n)
 | _,_,0,h=>by simpa using h
 | [],_,_+1,h=>by rw [h.inv_nil];exact .nil
 | _::_,_,n+1,h=>by
  obtain ⟨x,r,rfl,h1,h2⟩:=h.inv_cons;exact h2.drop n
theorem RelDs.rep {ds:List D} {xs:List V} (h:RelDs K H ds xs):∀ k:Nat,RelDs K H (List.replicate k ds).flatten (List.replicate k xs).flatten
 | 0=>.nil
 | k+1=>by rw [List.replicate_succ,List.replicate_succ,List.flatten_cons,List.flatten_cons];exact h.append (h.rep k)
def RelPs {κ:Type} (K:W.Frag) (H:Hp) (ps:List (κ × D)) (qs:List (κ × V)):Prop:=ps.map (·.1)=qs.map (·.1) /\ RelDs K H (ps.map (·.2)) (qs.map (·.2))
theorem RelPs.le {κ:Type} (l:Le H H') {ps:List (κ × D)} {qs:List (κ × V)} (h:RelPs K H ps qs):RelPs K H' ps qs:=⟨h.1,RelDs.le l h.2⟩
end
def ObjD (K:W.Frag) (H:Hp) (a:Addr):DO->Prop
 | .lst ds=>∃ xs,H a=some (.lst xs) /\ RelDs K H ds xs
 | .fro ds=>∃ o xs,H a=some (.frz o (.lst xs)) /\ RelDs K H ds xs
 | .dic kvs=>∃ ys,H a=some (.dK ys) /\ RelPs K H kvs ys
 | .dit kvs=>∃ ys,H a=some (.dT ys) /\ RelPs K H kvs ys
 | .ins C fs=>∃ dx ys,H a=some (.ins C dx ys) /\ RelPs K H fs ys
 | .exc C fs=>∃ dx ys,H a=some (.ext (XH a C dx)) /\ XDict H dx ys /\ RelPs K H fs ys
 | .frd kvs=>∃ o ys,H a=some (.frz o (.dK ys)) /\ RelPs K H kvs ys
theorem _root_.L2.XDict.le {H H':Hp} (l:Le H H') {dx:Option Addr} {ys:List (Str × V)} (h:XDict H dx ys):XDict H' dx ys:=by
 cases dx with
 | none=>exact h
 | some d=>obtain ⟨o,e⟩:=h;exact ⟨o,l.frzs _ _ _ e⟩
def Con (K:W.Frag) (G:Gp) (H:Hp):Prop:=∀ a o,G a=some o->ObjD K H a o
section
variable {K:W.Frag} {G:Gp} {H H':Hp} {a p:Addr} {o:DO}
theorem ObjD.some (h:ObjD K H a o):∃ u,H a=some u:=by
 cases o with
 | lst ds=>obtain ⟨xs,e,_⟩:=h;exact ⟨_,e⟩
 | fro ds=>obtain ⟨_,xs,e,_⟩:=h;exact ⟨_,e⟩
 | dic ds=>obtain ⟨xs,e,_⟩:=h;exact ⟨_,e⟩
 | dit ds=>obtain ⟨xs,e,_⟩:=h;exact ⟨_,e⟩
 | ins C ds=>obtain ⟨_,xs,e,_⟩:=h;exact ⟨_,e⟩
 | exc C ds=>obtain ⟨_,xs,e,_⟩:=h;exact ⟨_,e⟩
 | frd ds=>obtain ⟨_,xs,e,_⟩:=h;exact ⟨_,e⟩
theorem ObjD.stay (h:ObjD K H a o) (l:Le H H') (e:H' a=H a):ObjD K H' a o:=by
 cases o with
 | lst ds=>obtain ⟨xs,q,r⟩:=h;exact ⟨xs,e.trans q,RelDs.le l r⟩
 | fro ds=>obtain ⟨o,xs,q,r⟩:=h;exact ⟨o,xs,e.trans q,RelDs.le l r⟩
 | dic ds=>obtain ⟨xs,q,r⟩:=h;exact ⟨xs,e.trans q,r.le l⟩
 | dit ds=>obtain ⟨xs,q,r⟩:=h;exact ⟨xs,e.trans q,r.le l⟩
 | ins C ds=>obtain ⟨dx,xs,q,r⟩:=h;exact ⟨dx,xs,e.trans q,r.le l⟩
 | exc C ds=>obtain ⟨dx,xs,q,z,r⟩:=h;exact ⟨dx,xs,e.trans q,z.le l,r.le l⟩
 | frd ds=>obtain ⟨o,xs,q,r⟩:=h;exact ⟨o,xs,e.trans q,r.le l⟩
theorem Con.fresh (c:Con K G H) (h:H p=none):G p=none:=by
 cases e:G p with
 | none=>rfl
 | some o=>obtain ⟨u,q⟩:=(c p o e).some;rw [h] at q;cases q
theorem Con.stay (c:Con K G H) (l:Le H H') (e:∀ a o,G a=some o->H' a=H a):Con K G H':=fun a o q=>(c a o q).stay l (e a o q)
theorem Con.side {u:HO} (c:Con K G H) (h:H p=none):Con K G (upd H p u):=c.stay (Le.fresh h) fun a o q=>by
 obtain ⟨u,e⟩:=(c a o q).some;exact u18 (u50 e h)
theorem Con.put {u:HO} (c:Con K G H) (l:Le H (upd H p u)) (n:ObjD K (upd H p u) p o):Con K (gup G p o) (upd H p u):=fun b q e=>by
 by_cases hb:b=p
 ·subst hb;rw [u02] at e;cases e;exact n
 ·rw [u06 hb] at e
  exact (c b q e).stay l (u18 hb)
theorem Le.lst {xs ys:List V} (h:H p=some (.lst xs)):Le H (upd H p (.lst ys)) :=
  ⟨fun b zs q => by by_cases e : b = p
                    · subst e;rw [h] at q;cases q
                    · rw [u18 e];exact q,
   fun b o u q => by by_cases e : b = p
                     · subst e;rw [h] at q;cases q
                     · rw [u18 e];exact q⟩
theorem Le.dK {xs ys:List (Key × V)} (h:H p=some (.dK xs)):Le H (upd H p (.dK ys)) :=
  ⟨fun b zs q => by by_cases e : b = p
                    · subst e;rw [h] at q;cases q
                    · rw [u18 e];exact q,
   fun b o u q => by by_cases e : b = p
                     · subst e;rw [h] at q;cases q
                     · rw [u18 e];exact q⟩
theorem Le.ins {C dx C' dx':Addr} {xs ys:List (Str × V)} (h:H p=some (.ins C dx xs)):Le H (upd H p (.ins C' dx' ys)) :=
  ⟨fun b zs q => by by_cases e : b = p
                    · subst e;rw [h] at q;cases q
                    · rw [u18 e];exact q,
   fun b o u q => by by_cases e : b = p
                     · subst e;rw [h] at q;cases q
                     · rw [u18 e];exact q⟩
theorem Con.lstNew {ds:List D} {xs:List V} (c:Con K G H) (h:H p=none) (r:RelDs K H ds xs):Con K (gup G p (.lst ds)) (upd H p (.lst xs)) :=
 c.put (Le.fresh h) ⟨xs,u24,RelDs.le (Le.fresh h) r⟩
theorem Con.lstSet {ds:List D} {xs ys:List V} (c:Con K G H) (h:H p=some (.lst ys)) (r:RelDs K H ds xs):Con K (gup G p (.lst ds)) (upd H p (.lst xs)) :=
 c.put (Le.lst h) ⟨xs,u24,RelDs.le (Le.lst h) r⟩
end
abbrev DSt:=List (Option D)
def RelSt (K:W.Frag) (H:Hp) (σd:DSt) (σ:St):Prop:=σd.length=σ.length /\ ∀ (i:Nat) d,σd[i]?=some (some d)->∃ v,σ[i]?=some (some v) /\ RelD K H d v
theorem RelSt.le {K:W.Frag} {H H':Hp} {σd:DSt} {σ:St} (h:RelSt K H σd σ) (l:Le H H'):RelSt K H' σd σ :=
 ⟨h.1,fun i d e=>let ⟨v,a,b⟩:=h.2 i d e;⟨v,a,RelD.le l b⟩⟩
theorem RelSt.set {K:W.Frag} {H:Hp} {σd:DSt} {σ:St} {d:D} {v:V} (h:RelSt K H σd σ) (i:Nat) (r:RelD K H d v):RelSt K H (σd.set i (some d)) (σ.set i (some v)):=by
 refine ⟨by rw [List.length_set,List.length_set];exact h.1,fun j e q=>?_⟩;rw [List.getElem?_set] at q;split at q
 ·rename_i hij;subst hij
  split at q
  ·rename_i hl;cases q
   exact ⟨v,by rw [List.getElem?_set_self (by rw [<- h.1];exact hl)],r⟩
  ·cases q
 ·rename_i hij
  obtain ⟨w,a,b⟩:=h.2 j e q;exact ⟨w,by rw [List.getElem?_set_ne hij];exact a,b⟩
abbrev DK:=D->Gp->Prop
abbrev TE3:=DSt->Gp->DK->Prop
abbrev TT3:=DSt->Gp->(Bool->Gp->Prop)->Prop
abbrev TA3:=DSt->Gp->(List D->Gp->Prop)->Prop
structure Ends3 where
 nx:DSt->Gp->Prop
 rt:DK
 bk:DSt->Gp->Prop:=fun _ _=>False
 ct:DSt->Gp->Prop:=fun _ _=>False
abbrev TS3:=Ends3->DSt->Gp->Prop
def FutE (K:W.Frag) (H:Hp) (q:DK) (Q:VK):Prop:=∀ d G' v H',RelD K H' d v->Con K G' H'->Le H H'->q d G'->Q v H'
def FutT (K:W.Frag) (H:Hp) (q:Bool->Gp->Prop) (Q:Bool->Hp->Prop):Prop:=∀ b G' H',Con K G' H'->Le H H'->q b G'->Q b H'
def FutA (K:W.Frag) (H:Hp) (q:List D->Gp->Prop) (Q:List V->Hp->Prop):Prop:=∀ ds G' vs H',RelDs K H' ds vs->Con K G' H'->Le H H'->q ds G'->Q vs H'
def FutS (K:W.Frag) (H:Hp) (q:DSt->Gp->Prop) (Q:St->Hp->Prop):Prop:=∀ σd G' σ H',RelSt K H' σd σ->Con K G' H'->Le H H'->q σd G'->Q σ H'
theorem FutE.le {K:W.Frag} {H H1:Hp} {q:DK} {Q:VK} (f:FutE K H q Q) (l:Le H H1):FutE K H1 q Q:=fun d G v H' r c l'=>f d G v H' r c (l.trans l')
theorem FutS.le {K:W.Frag} {H H1:Hp} {q:DSt->Gp->Prop} {Q:St->Hp->Prop} (f:FutS K H q Q) (l:Le H H1):FutS K H1 q Q:=fun d G v H' r c l'=>f d G v H' r c (l.trans l')
structure FutD (K:W.Frag) (H:Hp) (d:Ends3) (D:Ends):Prop where
 nx:FutS K H d.nx D.nx
 rt:FutE K H d.rt D.rt
 bk:FutS K H d.bk D.bk
 ct:FutS K H d.ct D.ct
theorem FutD.le {K:W.Frag} {H H1:Hp} {d:Ends3} {D:Ends} (f:FutD K H d D) (l:Le H H1):FutD K H1 d D:=⟨f.nx.le l,f.rt.le l,f.bk.le l,f.ct.le l⟩
def lowE (K:W.Frag) (t:TE3):TE:=fun σ H Q=>∃ σd G q,RelSt K H σd σ /\ Con K G H /\ t σd G q /\ FutE K H q Q
def lowT (K:W.Frag) (t:TT3):TT:=fun σ H Q=>∃ σd G q,RelSt K H σd σ /\ Con K G H /\ t σd G q /\ FutT K H q Q
def lowA (K:W.Frag) (t:TA3):TA:=fun σ H Q=>∃ σd G q,RelSt K H σd σ /\ Con K G H /\ t σd G q /\ FutA K H q Q
def lowS (K:W.Frag) (t:TS3):TS:=fun D σ H=>∃ σd G d,RelSt K H σd σ /\ Con K G H /\ t d σd G /\ FutD K H d D
abbrev R3:=D->D->Gp->DK->Prop
def lowR (K:W.Frag) (r:R3):R2:=fun x y H Q=>∃ d e G q,RelD K H d x /\ RelD K H e y /\ Con K G H /\ r d e G q /\ FutE K H q Q
abbrev U3:=D->Gp->DK->Prop
abbrev C3:=List D->Gp->DK->Prop
def lowC (K:W.Frag) (r:C3):List V->Hp->VK->Prop:=fun xs H Q=>∃ ds G q,RelDs K H ds xs /\ Con K G H /\ r ds G q /\ FutE K H q Q
def dVar (i:Nat):TE3:=fun σ G q=>match σ[i]? with | some (some d)=>q d G | _=>False
def dC (d:D):TE3:=fun _ G q=>q d G
def dOp (r:R3) (ta tb:TE3):TE3:=fun σ G q=>ta σ G fun x G1=>tb σ G1 fun y G2=>r x y G2 q
def dUn (r:U3) (ta:TE3):TE3:=fun σ G q=>ta σ G fun x G1=>r x G1 q
def dNil:TA3:=fun _ G q=>q [] G
def u68 (ta:TE3) (tr:TA3):TA3:=fun σ G q=>ta σ G fun x G1=>tr σ G1 fun xs G2=>q (x::xs) G2
def dTup (t:TA3):TE3:=fun σ G q=>t σ G fun xs G1=>xs.length<=sizeLine /\ q (.tup xs) G1
def dLst (t:TA3):TE3:=fun σ G q=>t σ G fun xs G1=>xs.length<=sizeLine /\ ∀ p,G1 p=none->q (.ref p) (gup G1 p (.lst xs))
def dB (t:TE3):TT3:=fun σ G q=>t σ G fun x G1=>match x with | .bl c=>q c G1 | _=>False
def dAnd (t u:TT3):TT3:=fun σ G q=>t σ G fun c G1=>if c=true then u σ G1 q else q false G1
def dOr (t u:TT3):TT3:=fun σ G q=>t σ G fun c G1=>if c=true then q true G1 else u σ G1 q
def dNot (t:TT3):TT3:=fun σ G q=>t σ G fun c G1=>q (!c) G1
def w48 (ta tb:TE3):TE3:=fun σ G q=>ta σ G fun x G1=>match x with | .bl c=>if c=true then tb σ G1 q else q (.bl false) G1 | _=>False
def dOrV (ta tb:TE3):TE3:=fun σ G q=>ta σ G fun x G1=>match x with | .bl c=>if c=true then q (.bl true) G1 else tb σ G1 q | _=>False
def w45 (ta:TE3):TE3:=fun σ G q=>ta σ G fun x G1=>match x with | .bl c=>q (.bl (!c)) G1 | _=>False
def dIf (t:TT3) (ta tb:TE3):TE3:=fun σ G q=>t σ G fun c G1=>if c=true then ta σ G1 q else tb σ G1 q
section
variable {K:W.Frag} {σ:St} {H:Hp} {Q:VK}
theorem w06 {i:Nat} (h:lowE K (dVar i) σ H Q):tVar i σ H Q:=by
 obtain ⟨σd,G,q,rs,c,t,f⟩:=h;unfold dVar at t;split at t
 ·rename_i d e
  obtain ⟨v,hv,r⟩:=rs.2 i d e;exact ⟨v,hv,f d G v H r c (Le.refl H) t⟩
 ·exact t.elim
theorem uz3 {d:D} {v:V} (r:∀ H,RelD K H d v) (h:lowE K (dC d) σ H Q):tC v σ H Q:=by
 obtain ⟨σd,G,q,rs,c,t,f⟩:=h;exact f d G v H (r H) c (Le.refl H) t
theorem uv8 {r:R3} {ta tb:TE3} (h:lowE K (dOp r ta tb) σ H Q):tOp (lowR K r) (lowE K ta) (lowE K tb) σ H Q:=by
 obtain ⟨σd,G,q,rs,c,t,f⟩:=h;exact ⟨σd,G,_,rs,c,t,fun d G1 v H1 r1 c1 l1 t1=>⟨σd,G1,_,rs.le l1,c1,t1,fun e G2 u H2 r2 c2 l2 t2=>⟨d,e,G2,q,RelD.le l2 r1,r2,c2,t2,f.le (l1.trans l2)⟩⟩⟩
theorem v62 {Q:List V->Hp->Prop} (h:lowA K dNil σ H Q):tNil σ H Q:=by
 obtain ⟨σd,G,q,rs,c,t,f⟩:=h;exact f [] G [] H .nil c (Le.refl H) t
theorem vi0 {ta:TE3} {tr:TA3} {Q:List V->Hp->Prop} (h:lowA K (u68 ta tr) σ H Q):w96 (lowE K ta) (lowA K tr) σ H Q:=by
 obtain ⟨σd,G,q,rs,c,t,f⟩:=h;exact ⟨σd,G,_,rs,c,t,fun d G1 v H1 r1 c1 l1 t1=>⟨σd,G1,_,rs.le l1,c1,t1,fun ds G2 vs H2 r2 c2 l2 t2=>f (d::ds) G2 (v::vs) H2 (.cons (RelD.le l2 r1) r2) c2 (l1.trans l2) t2⟩⟩
theorem w08 {ta:TA3} (h:lowE K (dTup ta) σ H Q):tTup (lowA K ta) σ H Q:=by
 obtain ⟨σd,G,q,rs,c,t,f⟩:=h;refine ⟨σd,G,_,rs,c,t,fun ds G1 vs H1 r1 c1 l1 t1=>⟨by rw [<- r1.length];exact t1.1,fun p hp=>?_⟩⟩;refine f (.tup ds) G1 (.ref p) _ ?_ (c1.side hp) (l1.trans (Le.fresh hp)) t1.2;rw [RelD];exact ⟨p,vs,rfl,SqT.of u24,RelDs.le (Le.fresh hp) r1⟩
theorem w14 {ta:TA3} (h:lowE K (dLst ta) σ H Q):tLst (lowA K ta) σ H Q:=by
 obtain ⟨σd,G,q,rs,c,t,f⟩:=h;refine ⟨σd,G,_,rs,c,t,fun ds G1 vs H1 r1 c1 l1 t1=>⟨by rw [<- r1.length];exact t1.1,fun p hp=>?_⟩⟩;exact f (.ref p) _ (.ref p) _ (by rw [RelD]) (c1.lstNew hp r1) (l1.trans (Le.fresh hp)) (t1.2 p (c1.fresh hp))
theorem RelD.bl_inv {c:Bool} {v:V} (h:RelD K H (.bl c) v):v=.bl c:=by rw [RelD] at h;exact h
theorem vi4 {t u:TT3} {Q:Bool->Hp->Prop} (h:lowT K (dAnd t u) σ H Q):tAnd (lowT K t) (lowT K u) σ H Q:=by
 obtain ⟨σd,G,q,rs,c,t,f⟩:=h;refine ⟨σd,G,_,rs,c,t,fun b G1 H1 c1 l1 t1=>?_⟩;cases b with
 | true=>rw [if_pos rfl] at t1 ⊢;exact ⟨σd,G1,q,rs.le l1,c1,t1,fun b G2 H2 c2 l2 t2=>f b G2 H2 c2 (l1.trans l2) t2⟩
 | false=>rw [if_neg Bool.false_ne_true] at t1 ⊢;exact f _ _ _ c1 l1 t1
theorem w13 {t u:TT3} {Q:Bool->Hp->Prop} (h:lowT K (dOr t u) σ H Q):tOr (lowT K t) (lowT K u) σ H Q:=by
 obtain ⟨σd,G,q,rs,c,t,f⟩:=h;refine ⟨σd,G,_,rs,c,t,fun b G1 H1 c1 l1 t1=>?_⟩;cases b with
 | false=>rw [if_neg Bool.false_ne_true] at t1 ⊢;exact ⟨σd,G1,q,rs.le l1,c1,t1,fun b G2 H2 c2 l2 t2=>f b G2 H2 c2 (l1.trans l2) t2⟩
 | true=>rw [if_pos rfl] at t1 ⊢;exact f _ _ _ c1 l1 t1
theorem vh2 {t:TT3} {Q:Bool->Hp->Prop} (h:lowT K (dNot t) σ H Q):tNot (lowT K t) σ H Q:=by
 obtain ⟨σd,G,q,rs,c,t,f⟩:=h;exact ⟨σd,G,_,rs,c,t,fun b G1 H1 c1 l1 t1=>f _ _ _ c1 l1 t1⟩
theorem wl4 {t:TT3} {ta tb:TE3} (h:lowE K (dIf t ta tb) σ H Q):tIf (lowT K t) (lowE K ta) (lowE K tb) σ H Q:=by
 obtain ⟨σd,G,q,rs,c,t,f⟩:=h;refine ⟨σd,G,_,rs,c,t,fun b G1 H1 c1 l1 t1=>?_⟩;cases b with
 | true=>rw [if_pos rfl] at t1 ⊢;exact ⟨σd,G1,q,rs.le l1,c1,t1,f.le l1⟩
 | false=>rw [if_neg Bool.false_ne_true] at t1 ⊢;exact ⟨σd,G1,q,rs.le l1,c1,t1,f.le l1⟩
end
def w46:TS3:=fun E σ G=>E.nx σ G
def Go (k:DSt->Gp->Prop) (σ:DSt) (G:Gp):Prop:=k σ G
def dSeq (t u:TS3):TS3:=fun E σ G=>t { E with nx:=Go (u E) } σ G
def v98 (te:TE3):TS3:=fun E σ G=>te σ G fun _ G1=>E.nx σ G1
def dRet (te:TE3):TS3:=fun E σ G=>te σ G E.rt
def w43:TS3:=fun E _ G=>E.rt .non G
def dIfS (c:TT3) (t u:TS3):TS3:=fun E σ G=>c σ G fun b G1=>if b=true then t E σ G1 else u E σ G1
abbrev TG3:=D->DSt->Gp->(DSt->Gp->Prop)->Prop
abbrev TGs3:=List D->DSt->Gp->(DSt->Gp->Prop)->Prop
def lowG (K:W.Frag) (t:TG3):TG:=fun v σ H Q=>∃ d σd G q,RelD K H d v /\ RelSt K H σd σ /\ Con K G H /\ t d σd G q /\ FutS K H q Q
def vi6 (K:W.Frag) (t:TGs3):TGs:=fun vs σ H Q=>∃ ds σd G q,RelDs K H ds vs /\ RelSt K H σd σ /\ Con K G H /\ t ds σd G q /\ FutS K H q Q
def uk6 (i:Nat):TG3:=fun d σ G q=>q (σ.set i (some d)) G
def jNil:TGs3:=fun ds σ G q=>ds=[] /\ q σ G
def w22 (t:TG3) (u:TGs3):TGs3:=fun ds σ G q=>match ds with | d::r=>t d σ G fun σ' G'=>u r σ' G' q | []=>False
abbrev TSet3:=D->D->D->Gp->(Gp->Prop)->Prop
def v66 (K:W.Frag) (t:TSet3):TSet:=fun o i v H Q=>∃ d e x G q,RelD K H d o /\ RelD K H e i /\ RelD K H x v /\ Con K G H /\ t d e x G q /\ ∀ G' H',Con K G' H'->Le H H'->q G'->Q H'
def jSub (to ti:TE3) (t:TSet3):TG3:=fun d σ G q=>to σ G fun o G1=>ti σ G1 fun i G2=>t o i d G2 fun G3=>q σ G3
def dAsg (te:TE3) (g:TG3):TS3:=fun E σ G=>te σ G fun x G1=>g x σ G1 E.nx
section
variable {K:W.Frag} {σ:St} {H:Hp} {E:Ends}
theorem vh3 (h:lowS K w46 E σ H):w91 E σ H:=by
 obtain ⟨σd,G,d,rs,c,t,f⟩:=h;exact f.nx _ _ _ _ rs c (Le.refl H) t
theorem w09 {t u:TS3} (h:lowS K (dSeq t u) E σ H):tSeq (lowS K t) (lowS K u) E σ H:=by
 obtain ⟨σd,G,d,rs,c,t,f⟩:=h;exact ⟨σd,G,_,rs,c,t,fun σd' G' σ' H' rs' c' l' t'=>⟨σd',G',d,rs',c',t',f.le l'⟩,f.rt,f.bk,f.ct⟩
theorem vh9 {te:TE3} (h:lowS K (v98 te) E σ H):w94 (lowE K te) E σ H:=by
 obtain ⟨σd,G,d,rs,c,t,f⟩:=h;exact ⟨σd,G,_,rs,c,t,fun x G1 v H1 r1 c1 l1 t1=>f.nx _ _ _ _ (rs.le l1) c1 l1 t1⟩
theorem w12 {te:TE3} (h:lowS K (dRet te) E σ H):tRet (lowE K te) E σ H:=by
 obtain ⟨σd,G,d,rs,c,t,f⟩:=h;exact ⟨σd,G,_,rs,c,t,f.rt⟩
theorem vg9 (h:lowS K w43 E σ H):w88 E σ H:=by
 obtain ⟨σd,G,d,rs,c,t,f⟩:=h;exact f.rt .non _ .non _ (by rw [RelD]) c (Le.refl H) t
theorem w15 {tc:TT3} {t u:TS3} (h:lowS K (dIfS tc t u) E σ H):tIfS (lowT K tc) (lowS K t) (lowS K u) E σ H:=by
 obtain ⟨σd,G,d,rs,c,t,f⟩:=h;refine ⟨σd,G,_,rs,c,t,fun b G1 H1 c1 l1 t1=>?_⟩;cases b with
 | true=>rw [if_pos rfl] at t1 ⊢;exact ⟨σd,G1,d,rs.le l1,c1,t1,f.le l1⟩
 | false=>rw [if_neg Bool.false_ne_true] at t1 ⊢;exact ⟨σd,G1,d,rs.le l1,c1,t1,f.le l1⟩
theorem v63 {i:Nat} {v:V} {Q:St->Hp->Prop} (h:lowG K (uk6 i) v σ H Q):w28 i v σ H Q:=by
 obtain ⟨d,σd,G,q,r,rs,c,t,f⟩:=h;exact f _ _ _ _ (rs.set i r) c (Le.refl H) t
theorem vh6 {vs:List V} {Q:St->Hp->Prop} (h:vi6 K jNil vs σ H Q):gNil vs σ H Q:=by
 obtain ⟨ds,σd,G,q,r,rs,c,⟨e,t⟩,f⟩:=h;subst e;exact ⟨r.inv_nil,f _ _ _ _ rs c (Le.refl H) t⟩
theorem v64 {t:TG3} {u:TGs3} {vs:List V} {Q:St->Hp->Prop} (h:vi6 K (w22 t u) vs σ H Q):wn5 (lowG K t) (vi6 K u) vs σ H Q:=by
 obtain ⟨ds,σd,G,q,r,rs,c,t,f⟩:=h;cases ds with
 | nil=>exact t.elim
 | cons d ds =>
  obtain ⟨x,xs,rfl,r1,r2⟩:=r.inv_cons;exact ⟨x,xs,rfl,d,σd,G,_,r1,rs,c,t,fun σd' G' σ' H' rs' c' l' t'=>⟨ds,σd',G',q,RelDs.le l' r2,rs',c',t',f.le l'⟩⟩
theorem vh5 {to ti:TE3} {t:TSet3} {v:V} {Q:St->Hp->Prop} (h:lowG K (jSub to ti t) v σ H Q):gSub (lowE K to) (lowE K ti) (v66 K t) v σ H Q:=by
 obtain ⟨d,σd,G,q,r,rs,c,t,f⟩:=h;exact ⟨σd,G,_,rs,c,t,fun o G1 vo H1 r1 c1 l1 t1=>⟨σd,G1,_,rs.le l1,c1,t1,fun i G2 vi H2 r2 c2 l2 t2=>⟨o,i,d,G2,_,RelD.le l2 r1,r2,RelD.le (l1.trans l2) r,c2,t2,fun G3 H3 c3 l3 t3 =>
  f _ _ _ _ (rs.le (l1.trans (l2.trans l3))) c3 (l1.trans (l2.trans l3)) t3⟩⟩⟩
theorem w19 {te:TE3} {g:TG3} (h:lowS K (dAsg te g) E σ H):tAsg (lowE K te) (lowG K g) E σ H:=by
 obtain ⟨σd,G,d,rs,c,t,f⟩:=h;exact ⟨σd,G,_,rs,c,t,fun x G1 v H1 r1 c1 l1 t1=>⟨x,σd,G1,_,r1,rs.le l1,c1,t1,f.nx.le l1⟩⟩
end
def whN (c:TT3) (tb:TS3) (E:Ends3):Nat->DSt->Gp->Prop
 | 0,_,_=>False
 | n+1,σ,G=>c σ G fun b G1=>if b=true then tb { E with nx:=whN c tb E n,ct:=whN c tb E n,bk:=E.nx } σ G1 else E.nx σ G1
def v96 (c:TT3) (tb:TS3):TS3:=fun E σ G=>∃ n,whN c tb E n σ G
theorem v59 {K:W.Frag} {c:TT3} {tb:TS3} {σ:St} {H:Hp} {E:Ends} (h:lowS K (v96 c tb) E σ H):vl9 (lowT K c) (lowS K tb) E σ H:=by
 obtain ⟨σd,G,d,rs,cc,⟨n,t⟩,f⟩:=h;refine ⟨fun m σ' H'=>∃ σd' G',Le H H' /\ RelSt K H' σd' σ' /\ Con K G' H' /\ whN c tb d m σd' G',⟨n,σd,G,Le.refl H,rs,cc,t⟩,?_⟩;rintro m σ1 H1 ⟨σd1,G1,l1,rs1,c1,t1⟩;cases m with
 | zero=>exact t1.elim
 | succ m =>
  refine ⟨σd1,G1,_,rs1,c1,t1,fun b G2 H2 c2 l2 t2=>?_⟩;cases b with
  | true =>
   rw [if_pos rfl] at t2 ⊢;refine ⟨fun σ' H'=>∃ σd' G',Le H H' /\ RelSt K H' σd' σ' /\ Con K G' H' /\ whN c tb d m σd' G',fun σ' H' w=>⟨m,Nat.lt_succ_self m,w⟩,σd1,G2,_,rs1.le l2,c2,t2,?_,?_,?_,?_⟩
   ·exact fun σd3 G3 σ3 H3 rs3 c3 l3 t3=>⟨σd3,G3,l1.trans (l2.trans l3),rs3,c3,t3⟩
   ·exact f.rt.le (l1.trans l2)
   ·exact f.nx.le (l1.trans l2)
   ·exact fun σd3 G3 σ3 H3 rs3 c3 l3 t3=>⟨σd3,G3,l1.trans (l2.trans l3),rs3,c3,t3⟩
  | false =>
   rw [if_neg Bool.false_ne_true] at t2 ⊢;exact f.nx _ _ _ _ (rs1.le l2) c2 (l1.trans l2) t2
structure IT where
 items:List D
 ok:Gp->Prop
structure ItRel (K:W.Frag) (H0:Hp) (it:IT) (J:It):Prop where
 go:∀ (i:Nat) G H,Le H0 H->Con K G H->it.ok G->i < it.items.length->J.go i H
 stop:∀ (i:Nat) G H,Le H0 H->Con K G H->it.ok G->it.items.length<=i->J.stop i H
 yld:∀ (i:Nat) G H x H',Le H0 H->Con K G H->it.ok G->i < it.items.length->J.yld i H x H'->Con K G H' /\ Le H H' /\ ∃ d,it.items[i]?=some d /\ RelD K H' d x
abbrev TI3:=DSt->Gp->(IT->Gp->Prop)->Prop
def lowI (K:W.Frag) (t:TI3):TI:=fun σ H R=>∃ σd G r,RelSt K H σd σ /\ Con K G H /\ t σd G r /\ ∀ it J G' H',ItRel K H' it J->Con K G' H'->Le H H'->r it G'->R J H'
def forL (ok:Gp->Prop) (g:TG3) (tb:TS3) (E:Ends3):List D->DSt->Gp->Prop
 | [],σ,G=>ok G /\ E.nx σ G
 | x::r,σ,G=>ok G /\ g x σ G fun σ1 G1=>tb { E with nx:=forL ok g tb E r,ct:=forL ok g tb E r,bk:=E.nx } σ1 G1
def dFor (wi:TI3) (g:TG3) (tb:TS3):TS3:=fun E σ G=>wi σ G fun it G1=>forL it.ok g tb E it.items σ G1
theorem w16 {K:W.Frag} {wi:TI3} {g:TG3} {tb:TS3} {σ:St} {H:Hp} {E:Ends} (h:lowS K (dFor wi g tb) E σ H):tFor (lowI K wi) (lowG K g) (lowS K tb) E σ H:=by
 obtain ⟨σd,G,d,rs,cc,t,f⟩:=h;refine ⟨σd,G,_,rs,cc,t,fun it J G1 H1 ir c1 l1 t1=>?_⟩;refine ⟨fun i m σ' H'=>∃ σd' G',Le H1 H' /\ RelSt K H' σd' σ' /\ Con K G' H' /\ i+m=it.items.length /\ forL it.ok g tb d (it.items.drop i) σd' G',⟨it.items.length,σd,G1,Le.refl _,rs.le l1,c1,by omega,by rw [List.drop_zero];exact t1⟩,?_⟩;rintro i m σ2 H2 ⟨σd2,G2,l2,rs2,c2,e2,t2⟩
 by_cases hi:i < it.items.length
 ·rw [List.drop_eq_getElem_cons hi] at t2
  obtain ⟨ok2,t2⟩:=t2;refine .inr ⟨ir.go i G2 H2 l2 c2 ok2 hi,fun σ' H'=>∃ σd' G',Le H1 H' /\ RelSt K H' σd' σ' /\ Con K G' H' /\ forL it.ok g tb d (it.items.drop (i+1)) σd' G',?_,?_⟩
  ·rintro σ' H' ⟨σd',G',a1,a2,a3,a4⟩
   exact ⟨m - 1,by omega,σd',G',a1,a2,a3,by omega,a4⟩
  ·intro x H3 y
   obtain ⟨c3,l3,e,he,r3⟩:=ir.yld i G2 H2 x H3 l2 c2 ok2 hi y;rw [List.getElem?_eq_getElem hi] at he;cases he;refine ⟨_,σd2,G2,_,r3,rs2.le l3,c3,t2,fun σd4 G4 σ4 H4 rs4 c4 l4 t4=>?_⟩;have l14:Le H1 H4:=l2.trans (l3.trans l4);have key:FutS K H4 (forL it.ok g tb d (it.items.drop (i+1))) (fun σ' H'=>∃ σd' G',Le H1 H' /\ RelSt K H' σd' σ' /\ Con K G' H' /\ forL it.ok g tb d (it.items.drop (i+1)) σd' G') :=
    fun σd5 G5 σ5 H5 rs5 c5 l5 t5=>⟨σd5,G5,l14.trans l5,rs5,c5,t5⟩
   exact ⟨σd4,G4,_,rs4,c4,t4,key,f.rt.le (l1.trans l14),f.nx.le (l1.trans l14),key⟩
 ·rw [List.drop_eq_nil_of_le (by omega)] at t2
  exact .inl ⟨ir.stop i G2 H2 l2 c2 t2.1 (by omega),f.nx _ _ _ _ rs2 c2 (l1.trans l2) t2.2⟩
theorem RelDs.at_ {K:W.Frag} {H:Hp} {ds:List D} {xs:List V} {i:Nat} {x:V} (h:RelDs K H ds xs) (e:xs[i]?=some x):∃ d,ds[i]?=some d /\ RelD K H d x:=by
 have hl:i < ds.length:=by rw [h.length];exact (List.getElem?_eq_some_iff.mp e).1
 obtain ⟨y,hy,r⟩:=h.get (List.getElem?_eq_getElem hl);rw [e] at hy;cases hy;exact ⟨_,List.getElem?_eq_getElem hl,r⟩
theorem v75 {K:W.Frag} {H0:Hp} {a:Addr} {ds:List D} {xs:List V} (s:SqT K H0 a xs) (r:RelDs K H0 ds xs):ItRel K H0 ⟨ds,fun _=>True⟩ (Itt K a) where
 go:=fun i G H l c _ hi=>⟨xs,xs[i]'(by rw [<- r.length];exact hi),l.sqT s,List.getElem?_eq_getElem _⟩
 stop:=fun i G H l c _ hi=>⟨xs,l.sqT s,by rw [<- r.length];exact hi⟩
 yld:=fun i G H x H' l c _ hi y=>by
  obtain ⟨e,y⟩:=y;subst e;have hx:=y xs (l.sqT s);obtain ⟨d,hd,rd⟩:=(RelDs.le l r).at_ hx
  exact ⟨c,Le.refl _,d,hd,rd⟩
def u19:Option DO->Option (List D)
 | some (.lst xs)=>some xs
 | some (.fro xs)=>some xs
 | _=>none
theorem u26 {K:W.Frag} {G:Gp} {H:Hp} {a:Addr} {ds:List D} (c:Con K G H) (h:u19 (G a)=some ds):∃ xs,SqL K H a xs /\ RelDs K H ds xs:=by
 cases e:G a with
 | none=>rw [e] at h;cases h
 | some o =>
  rw [e] at h;have q:=c a o e;cases o with
  | lst xs=>cases h;obtain ⟨ys,q,r⟩:=q;exact ⟨ys,.inl (.inl q),r⟩
  | fro xs=>cases h;obtain ⟨o,ys,q,r⟩:=q;exact ⟨ys,.inl (.inr ⟨o,q⟩),r⟩
  | dic _=>cases h
  | dit _=>cases h
  | ins _ _=>cases h
  | exc _ _=>cases h
  | frd _=>cases h
theorem uz6 {K:W.Frag} {H0:Hp} {a:Addr} {ds:List D}:ItRel K H0 ⟨ds,fun G=>u19 (G a)=some ds⟩ (Itl K a) where
 go:=fun i G H l c ok hi=>by
  obtain ⟨xs,s,r⟩:=u26 c ok;exact ⟨xs,xs[i]'(by rw [<- r.length];exact hi),s,List.getElem?_eq_getElem _⟩
 stop:=fun i G H l c ok hi=>by
  obtain ⟨xs,s,r⟩:=u26 c ok;exact ⟨xs,s,by rw [<- r.length];exact hi⟩
 yld:=fun i G H x H' l c ok hi y=>by
  obtain ⟨e,y⟩:=y;subst e;obtain ⟨xs,s,r⟩:=u26 c ok;obtain ⟨d,hd,rd⟩:=r.at_ (y xs s)
  exact ⟨c,Le.refl _,d,hd,rd⟩
def rngD (lo:Int) (n:Nat):List D:=(List.range n).map fun (i:Nat)=>.int (lo+i)
theorem ur6 {K:W.Frag} {H0:Hp} {lo:Int} {n:Nat}:ItRel K H0 ⟨rngD lo n,fun _=>True⟩ (Itr lo n) where
 go:=fun i G H l c _ hi=>by
  have:i < n:=by simpa [rngD] using hi
  exact this
 stop:=fun i G H l c _ hi=>by
  have:n<=i:=by simpa [rngD] using hi
  exact this
 yld:=fun i G H x H' l c _ hi y=>by
  obtain ⟨e,y⟩:=y;subst e;subst y;refine ⟨c,Le.refl _,.int (lo+i),?_,by rw [RelD]⟩;have:i < n:=by simpa [rngD] using hi
  simp [rngD,this]
abbrev Sp3:=List D->Gp->DK->Prop
def u93 (K:W.Frag) (S:Sp3):Sp:=fun vs H Q _=>∃ ds G R,RelDs K H ds vs /\ Con K G H /\ S ds G R /\ FutE K H R Q
def dCall (S:Sp3) (dds:List D) (t:TA3):TE3:=fun σ G q=>t σ G fun ds G1=>∃ R,S (ds++dds) G1 R /\ ∀ d G',R d G'->q d G'
def ug4 (C:Addr) (m:Str) (S:Sp3) (dds:List D) (ta:TE3) (t:TA3):TE3:=fun σ G q=>ta σ G fun x G1=>match x with
 | .ref a=>(match G1 a with
  | some (.ins C' fs)=>C'=C /\ fs.lookup m=none /\ t σ G1 fun ds G2=>∃ R,S (.ref a::(ds++dds)) G2 R /\ ∀ d G',R d G'->q d G'
  | _=>False)
 | _=>False
def v97 (C:Addr) (S:Sp3) (dds:List D) (t:TA3):TE3:=fun σ G q=>t σ G fun ds G1=>∀ x,G1 x=none ->
 ∃ R,S (.ref x::(ds++dds)) (gup G1 x (.ins C [])) R /\ ∀ d G',R d G'->d=.non /\ q (.ref x) G'
def putD (f:Str) (v:D):List (Str × D)->List (Str × D)
 | []=>[(f,v)]
 | (g,u)::r=>if g=f then (g,v)::r else (g,u)::putD f v r
def dFld (C:Addr) (ta:TE3) (f:Str):TE3:=fun σ G q=>ta σ G fun x G1=>match x with
 | .ref a=>(match G1 a with
  | some (.ins C' fs)=>C'=C /\ (match fs.lookup f with | some d=>q d G1 | none=>False)
  | _=>False)
 | _=>False
def w42 (C:Addr) (ta tv:TE3) (f:Str):TS3:=fun E σ G=>tv σ G fun y G1=>ta σ G1 fun x G2=>match x with
 | .ref a=>(match G2 a with
  | some (.ins C' fs)=>C'=C /\ fs.length < 1000 /\ E.nx σ (gup G2 a (.ins C (putD f y fs)))
  | _=>False)
 | _=>False
def w47 (C:Addr) (ta tv:TE3) (r:R3) (f:Str):TS3:=fun E σ G=>ta σ G fun x G1=>match x with
 | .ref a=>(match G1 a with
  | some (.ins C' fs)=>C'=C /\ (match fs.lookup f with
   | some d=>tv σ G1 fun y G2=>r d y G2 fun z G3=>(match G3 a with
    | some (.ins C'' fs')=>C''=C /\ fs'.length < 1000 /\ E.nx σ (gup G3 a (.ins C (putD f z fs')))
    | _=>False)
   | none=>False)
  | _=>False)
 | _=>False
section
variable {K:W.Frag} {σ:St} {H:Hp} {Q:VK} {E:Ends}
theorem vi1 {S:Sp3} {dds:List D} {dvs:List V} {t:TA3} {XE:XK} (hd:∀ H,RelDs K H dds dvs) (h:lowE K (dCall S dds t) σ H Q):w97 (u93 K S) dvs XE (lowA K t) σ H Q:=by
 obtain ⟨σd,G,q,rs,c,t,f⟩:=h;exact ⟨σd,G,_,rs,c,t,fun ds G1 vs H1 r1 c1 l1 ⟨R,s1,t1⟩=>⟨_,G1,R,r1.append (hd H1),c1,s1,fun d G2 v H2 r2 c2 l2 t2=>f d G2 v H2 r2 c2 (l1.trans l2) (t1 d G2 t2)⟩⟩
theorem RelD.refI {a:Addr}:RelD K H (.ref a) (.ref a):=by rw [RelD]
theorem RelD.ref_inv {a:Addr} {v:V} (h:RelD K H (.ref a) v):v=.ref a:=by rw [RelD] at h;exact h
theorem RelPs.lookup_none {κ:Type} [BEq κ] {k:κ}:∀ {ps:List (κ × D)} {qs:List (κ × V)},RelPs K H ps qs->ps.lookup k=none->qs.lookup k=none
 | [],qs,h,_=>by
  cases qs with
  | nil=>rfl
  | cons _ _=>have:=h.1;simp at this
 | (g,d)::ps,qs,h,e=>by
  cases qs with
  | nil=>have:=h.1;simp at this
  | cons q qs =>
   obtain ⟨g',v⟩:=q;have h1:=h.1;simp only [List.map_cons,List.cons.injEq] at h1;obtain ⟨rfl,h1⟩:=h1;obtain ⟨x,r,e2,_,h2⟩:=(show RelDs K H (d::ps.map (·.2)) (v::qs.map (·.2)) from h.2).inv_cons;cases e2;rw [List.lookup_cons] at e ⊢;cases hk:k == g with
   | true=>rw [hk] at e;cases e
   | false=>rw [hk] at e;exact RelPs.lookup_none ⟨h1,h2⟩ e
theorem RelPs.lookup {κ:Type} [BEq κ] {k:κ} {d:D}:∀ {ps:List (κ × D)} {qs:List (κ × V)},RelPs K H ps qs->ps.lookup k=some d->∃ v,qs.lookup k=some v /\ RelD K H d v
 | [],qs,h,e=>by cases e
 | (g,d')::ps,qs,h,e=>by
  cases qs with
  | nil=>have:=h.1;simp at this
  | cons q qs =>
   obtain ⟨g',v⟩:=q;have h1:=h.1;simp only [List.map_cons,List.cons.injEq] at h1;obtain ⟨rfl,h1⟩:=h1;obtain ⟨x,r,e2,r1,h2⟩:=(show RelDs K H (d'::ps.map (·.2)) (v::qs.map (·.2)) from h.2).inv_cons;cases e2;rw [List.lookup_cons] at e ⊢;cases hk:k == g with
   | true=>rw [hk] at e;cases e;exact ⟨v,rfl,r1⟩
   | false=>rw [hk] at e;exact RelPs.lookup ⟨h1,h2⟩ e
theorem RelPs.nil {κ:Type}:RelPs (κ:=κ) K H [] []:=⟨rfl,.nil⟩
theorem RelPs.cons {κ:Type} {k:κ} {d:D} {v:V} {ps:List (κ × D)} {qs:List (κ × V)} (r:RelD K H d v) (h:RelPs K H ps qs):RelPs K H ((k,d)::ps) ((k,v)::qs) :=
 ⟨by simp [h.1],.cons r h.2⟩
theorem RelPs.inv_cons {κ:Type} {k:κ} {d:D} {ps:List (κ × D)} {qs:List (κ × V)} (h:RelPs K H ((k,d)::ps) qs):∃ v r,qs=(k,v)::r /\ RelD K H d v /\ RelPs K H ps r:=by
 cases qs with
 | nil=>have:=h.1;simp at this
 | cons q qs =>
  obtain ⟨g',v⟩:=q;have h1:=h.1;simp only [List.map_cons,List.cons.injEq] at h1;obtain ⟨rfl,h1⟩:=h1;obtain ⟨x,r,e2,r1,h2⟩:=(show RelDs K H (d::ps.map (·.2)) (v::qs.map (·.2)) from h.2).inv_cons;cases e2;exact ⟨v,qs,rfl,r1,h1,h2⟩
theorem RelPs.inv_nil {κ:Type} {qs:List (κ × V)} (h:RelPs K H [] qs):qs=[]:=by
 cases qs with
 | nil=>rfl
 | cons _ _=>have:=h.1;simp at this
theorem RelPs.putF {f:Str} {d:D} {v:V} (r:RelD K H d v):∀ {ps:List (Str × D)} {qs:List (Str × V)},RelPs K H ps qs->RelPs K H (putD f d ps) (L2.putF f v qs)
 | [],qs,h=>by rw [h.inv_nil];exact RelPs.cons r RelPs.nil
 | (g,d')::ps,qs,h=>by
  obtain ⟨u,qs',rfl,r1,h2⟩:=h.inv_cons
  show RelPs K H (if g=f then (g,d)::ps else (g,d')::putD f d ps) (if g=f then (g,v)::qs' else (g,u)::L2.putF f v qs')
  split
  ·exact RelPs.cons r h2
  ·exact RelPs.cons r1 (RelPs.putF r h2)
theorem RelPs.length {κ:Type} {ps:List (κ × D)} {qs:List (κ × V)} (h:RelPs K H ps qs):ps.length=qs.length:=by
 have:=h.2.length;simpa using this
theorem uv9 {C:Addr} {m:Str} {S:Sp3} {dds:List D} {dvs:List V} {ta:TE3} {t:TA3} {XE:XK} (hd:∀ H,RelDs K H dds dvs) (h:lowE K (ug4 C m S dds ta t) σ H Q):vs0 C m (u93 K S) dvs XE (lowE K ta) (lowA K t) σ H Q:=by
 obtain ⟨σd,G,q,rs,c,t,f⟩:=h;refine ⟨σd,G,_,rs,c,t,fun x G1 v H1 r1 c1 l1 t1=>?_⟩;split at t1
 ·rename_i a
  split at t1
  ·rename_i C' fs e
   obtain ⟨rfl,n,t1⟩:=t1;obtain ⟨dx,ys,e2,rf⟩:=c1 _ _ e;refine ⟨a,dx,ys,r1.ref_inv,e2,rf.lookup_none n,σd,G1,_,rs.le l1,c1,t1,fun ds G2 vs H2 r2 c2 l2 ⟨R,s2,t2⟩=>?_⟩;exact ⟨_,G2,R,.cons (RelD.le l2 r1) (r2.append (hd H2)),c2,s2,fun d G3 v H3 r3 c3 l3 t3=>f d G3 v H3 r3 c3 (l1.trans (l2.trans l3)) (t2 d G3 t3)⟩
  ·exact t1.elim
 ·exact t1.elim
theorem Con.insNew {G:Gp} {x dx C:Addr} (c:Con K G H) (h:H x=none) (h':H dx=none) (ne:dx ≠ x):Con K (gup G x (.ins C [])) (upd (upd H dx (.own x)) x (.ins C dx [])) /\ Le H (upd (upd H dx (.own x)) x (.ins C dx [])):=by
 have c1:=c.side (u:=.own x) h';have hx:upd H dx (.own x) x=none:=by rw [u18 (Ne.symm ne)];exact h
 exact ⟨c1.put (Le.fresh hx) ⟨dx,[],u24,RelPs.nil⟩,(Le.fresh h').trans (Le.fresh hx)⟩
theorem vh4 {C:Addr} {S:Sp3} {dds:List D} {dvs:List V} {t:TA3} {XE:XK} (hd:∀ H,RelDs K H dds dvs) (h:lowE K (v97 C S dds t) σ H Q):w93 C (u93 K S) dvs XE (lowA K t) σ H Q:=by
 obtain ⟨σd,G,q,rs,c,t,f⟩:=h;refine ⟨σd,G,_,rs,c,t,fun ds G1 vs H1 r1 c1 l1 t1 x dx hx hdx ne=>?_⟩;obtain ⟨R,s1,t1⟩:=t1 x (c1.fresh hx);obtain ⟨c2,l2⟩:=c1.insNew (C:=C) hx hdx ne;refine ⟨_,_,R,.cons RelD.refI ((RelDs.le l2 r1).append (hd _)),c2,s1,fun d G3 v H3 r3 c3 l3 t3=>?_⟩;obtain ⟨rfl,t4⟩:=t1 d G3 t3;exact ⟨by rw [RelD] at r3;exact r3,f _ _ _ _ RelD.refI c3 (l1.trans (l2.trans l3)) t4⟩
theorem w17 {C:Addr} {ta:TE3} {f:Str} (cl:Cls K C) (na:NoAttr K C f) (h:lowE K (dFld C ta f) σ H Q):tFld K (lowE K ta) f σ H Q:=by
 obtain ⟨σd,G,q,rs,c,t,fu⟩:=h;refine ⟨σd,G,_,rs,c,t,fun x G1 v H1 r1 c1 l1 t1=>?_⟩;split at t1
 ·rename_i a
  split at t1
  ·rename_i C' fs e
   obtain ⟨rfl,t1⟩:=t1;obtain ⟨dx,ys,e2,rf⟩:=c1 _ _ e;split at t1
   ·rename_i d el
    obtain ⟨w,ew,rw'⟩:=rf.lookup el;exact ⟨a,_,dx,ys,w,r1.ref_inv,e2,cl,na,ew,fu d G1 w H1 rw' c1 l1 t1⟩
   ·exact t1.elim
  ·exact t1.elim
 ·exact t1.elim
theorem vg8 {C:Addr} {ta tv:TE3} {f:Str} (cl:Cls K C) (na:NoAttr K C f) (h:lowS K (w42 C ta tv f) E σ H):sFld K (lowE K ta) (lowE K tv) f E σ H:=by
 obtain ⟨σd,G,d,rs,c,t,fu⟩:=h;refine ⟨σd,G,_,rs,c,t,fun y G1 v H1 r1 c1 l1 t1=>⟨σd,G1,_,rs.le l1,c1,t1,fun x G2 w H2 r2 c2 l2 t2=>?_⟩⟩;split at t2
 ·rename_i a
  split at t2
  ·rename_i C' fs e
   obtain ⟨rfl,hl,t2⟩:=t2;obtain ⟨dx,ys,e2,rf⟩:=c2 _ _ e;refine ⟨a,_,dx,ys,r2.ref_inv,e2,cl,na,by rw [<- rf.length];exact hl,?_⟩;have l3:=Le.ins (C':=C') (dx':=dx) (ys:=L2.putF f v ys) e2;exact fu.nx _ _ _ _ (rs.le (l1.trans (l2.trans l3))) (c2.put (o:=.ins C' (putD f y fs)) l3 ⟨dx,_,u24,RelPs.le l3 (rf.putF (RelD.le l2 r1))⟩) (l1.trans (l2.trans l3)) t2
  ·exact t2.elim
 ·exact t2.elim
theorem vi2 {C:Addr} {ta tv:TE3} {r:R3} {f:Str} (cl:Cls K C) (na:NoAttr K C f) (h:lowS K (w47 C ta tv r f) E σ H):v33 K (lowE K ta) (lowE K tv) (lowR K r) f E σ H:=by
 obtain ⟨σd,G,d,rs,c,t,fu⟩:=h;refine ⟨σd,G,_,rs,c,t,fun x G1 v H1 r1 c1 l1 t1=>?_⟩;split at t1
 ·rename_i a
  split at t1
  ·rename_i C' fs e
   obtain ⟨rfl,t1⟩:=t1;obtain ⟨dx,ys,e2,rf⟩:=c1 _ _ e;split at t1
   ·rename_i d0 el
    obtain ⟨w,ew,rw'⟩:=rf.lookup el;refine ⟨a,_,dx,ys,w,r1.ref_inv,e2,cl,na,ew,σd,G1,_,rs.le l1,c1,t1,fun y G2 u H2 r2 c2 l2 t2=>?_⟩;refine ⟨d0,y,G2,_,RelD.le l2 rw',r2,c2,t2,fun z G3 vz H3 r3 c3 l3 t3=>?_⟩;split at t3
    ·rename_i C'' fs' e'
     obtain ⟨rfl,hl,t3⟩:=t3;obtain ⟨dx',ys',e3,rf'⟩:=c3 _ _ e';refine ⟨dx',ys',e3,by rw [<- rf'.length];exact hl,?_⟩;have l4:=Le.ins (C':=C'') (dx':=dx') (ys:=L2.putF f vz ys') e3;have l14:=l1.trans (l2.trans (l3.trans l4));exact fu.nx _ _ _ _ (rs.le l14) (c3.put (o:=.ins C'' (putD f z fs')) l4 ⟨dx',_,u24,RelPs.le l4 (rf'.putF r3)⟩) l14 t3
    ·exact t3.elim
   ·exact t1.elim
  ·exact t1.elim
 ·exact t1.elim
theorem ww2 {te:TE3} {Q:Bool->Hp->Prop} (h:lowT K (dB te) σ H Q):tB (lowE K te) σ H Q:=by
 obtain ⟨σd,G,q,rs,c,t,f⟩:=h;refine ⟨σd,G,_,rs,c,t,fun x G1 v H1 r1 c1 l1 t1=>?_⟩;split at t1
 ·rename_i k
  exact ⟨k,r1.bl_inv,f _ _ _ c1 l1 t1⟩
 ·exact t1.elim
theorem vi3 {ta tb:TE3} (h:lowE K (w48 ta tb) σ H Q):w98 (lowE K ta) (lowE K tb) σ H Q:=by
 obtain ⟨σd,G,q,rs,c,t,f⟩:=h;refine ⟨σd,G,_,rs,c,t,fun x G1 v H1 r1 c1 l1 t1=>?_⟩;split at t1
 ·rename_i k
  refine ⟨k,r1.bl_inv,?_⟩;cases k with
  | true=>rw [if_pos rfl] at t1 ⊢;exact ⟨σd,G1,q,rs.le l1,c1,t1,f.le l1⟩
  | false=>rw [if_neg Bool.false_ne_true] at t1 ⊢;exact f _ _ _ _ (by rw [RelD]) c1 l1 t1
 ·exact t1.elim
theorem vh1 {ta:TE3} (h:lowE K (w45 ta) σ H Q):w90 (lowE K ta) σ H Q:=by
 obtain ⟨σd,G,q,rs,c,t,f⟩:=h;refine ⟨σd,G,_,rs,c,t,fun x G1 v H1 r1 c1 l1 t1=>?_⟩;split at t1
 ·rename_i k
  exact ⟨k,r1.bl_inv,f _ _ _ _ (by rw [RelD]) c1 l1 t1⟩
 ·exact t1.elim
def dAug (i:Nat) (te:TE3) (r:R3):TS3:=fun E σ G=>match σ[i]? with
 | some (some x)=>te σ G fun y G1=>r x y G1 fun z G2=>E.nx (σ.set i (some z)) G2
 | _=>False
theorem w18 {i:Nat} {te:TE3} {r:R3} (h:lowS K (dAug i te r) E σ H):tAug i (lowE K te) (lowR K r) E σ H:=by
 obtain ⟨σd,G,d,rs,c,t,fu⟩:=h;unfold dAug at t;split at t
 ·rename_i x e
  obtain ⟨v,hv,r1⟩:=rs.2 i x e;refine ⟨v,hv,σd,G,_,rs,c,t,fun y G1 u H1 r2 c1 l1 t1=>?_⟩;exact ⟨x,y,G1,_,RelD.le l1 r1,r2,c1,t1,fun z G2 vz H2 r3 c2 l2 t2=>fu.nx _ _ _ _ ((rs.le (l1.trans l2)).set i r3) c2 (l1.trans l2) t2⟩
 ·exact t.elim
abbrev TO3:=DSt->Gp->(Option Int->Gp->Prop)->Prop
def lowO (K:W.Frag) (t:TO3):TO:=fun σ H Q=>∃ σd G q,RelSt K H σd σ /\ Con K G H /\ t σd G q /\ ∀ o G' H',Con K G' H'->Le H H'->q o G'->Q o H'
def us3:TO3:=fun _ G q=>q none G
def w44 (t:TE3):TO3:=fun σ G q=>t σ G fun x G1=>match x with | .int i=>q (some i) G1 | _=>False
theorem uz2 {Q:Option Int->Hp->Prop} (h:lowO K us3 σ H Q):v23 σ H Q:=by
 obtain ⟨σd,G,q,rs,c,t,f⟩:=h;exact f _ _ _ c (Le.refl H) t
theorem vh0 {t:TE3} {Q:Option Int->Hp->Prop} (h:lowO K (w44 t) σ H Q):w89 (lowE K t) σ H Q:=by
 obtain ⟨σd,G,q,rs,c,t,f⟩:=h;refine ⟨σd,G,_,rs,c,t,fun x G1 v H1 r1 c1 l1 t1=>?_⟩;split at t1
 ·rename_i k
  rw [RelD] at r1;exact ⟨k,r1,f _ _ _ c1 l1 t1⟩
 ·exact t1.elim
abbrev RS3:=D->Option Int->Option Int->Gp->DK->Prop
def vi5 (K:W.Frag) (r:RS3):V->Option Int->Option Int->Hp->VK->Prop:=fun x l u H Q=>∃ d G q,RelD K H d x /\ Con K G H /\ r d l u G q /\ FutE K H q Q
def dSl (r:RS3) (te:TE3) (tl th:TO3):TE3:=fun σ G q=>te σ G fun x G1=>tl σ G1 fun l G2=>th σ G2 fun u G3=>r x l u G3 q
theorem wl3 {r:RS3} {te:TE3} {tl th:TO3} (h:lowE K (dSl r te tl th) σ H Q):tSl (vi5 K r) (lowE K te) (lowO K tl) (lowO K th) σ H Q:=by
 obtain ⟨σd,G,q,rs,c,t,f⟩:=h;exact ⟨σd,G,_,rs,c,t,fun x G1 v H1 r1 c1 l1 t1=>⟨σd,G1,_,rs.le l1,c1,t1,fun o G2 H2 c2 l2 t2=>⟨σd,G2,_,rs.le (l1.trans l2),c2,t2,fun u G3 H3 c3 l3 t3 =>
  ⟨x,G3,q,RelD.le (l2.trans l3) r1,c3,t3,f.le (l1.trans (l2.trans l3))⟩⟩⟩⟩
def dCB (r:C3) (t:TA3):TE3:=fun σ G q=>t σ G fun ds G1=>r ds G1 q
theorem vp0 {r:C3} {t:TA3} (h:lowE K (dCB r t) σ H Q):tCB (lowC K r) (lowA K t) σ H Q:=by
 obtain ⟨σd,G,q,rs,c,t,f⟩:=h;exact ⟨σd,G,_,rs,c,t,fun ds G1 vs H1 r1 c1 l1 t1=>⟨ds,G1,q,r1,c1,t1,f.le l1⟩⟩
abbrev M3:=D->List D->Gp->DK->Prop
def lowM (K:W.Frag) (r:M3):V->List V->Hp->VK->Prop:=fun x xs H Q=>∃ d ds G q,RelD K H d x /\ RelDs K H ds xs /\ Con K G H /\ r d ds G q /\ FutE K H q Q
def tyD (G:Gp) (T:String):D->Prop
 | .str _=>T = "str"
 | .int _=>T = "int"
 | .ref a=>match G a with
  | some (.lst _)=>T = "list"
  | some (.fro _)=>T = "list"
  | some (.dic _)=>T = "dict"
  | _=>False
 | _=>False
def dBM (T:String) (r:M3) (to:TE3) (t:TA3):TE3:=fun σ G q=>to σ G fun x G1=>tyD G1 T x /\ t σ G1 fun ds G2=>r x ds G2 q
def dBM0 (T:String) (r:M3) (to:TE3):TE3:=fun σ G q=>to σ G fun x G1=>tyD G1 T x /\ r x [] G1 q
theorem uw1 {T:String} {r:M3} {to:TE3} {t:TA3} (ty:∀ G H x v,Con K G H->RelD K H x v->tyD G T x->tyV K T v H) (h:lowE K (dBM T r to t) σ H Q):tBM K T (lowM K r) (lowE K to) (lowA K t) σ H Q:=by
 obtain ⟨σd,G,q,rs,c,t,f⟩:=h;exact ⟨σd,G,_,rs,c,t,fun x G1 v H1 r1 c1 l1 ⟨y,t1⟩=>⟨ty G1 H1 x v c1 r1 y,σd,G1,_,rs.le l1,c1,t1,fun ds G2 vs H2 r2 c2 l2 t2=>⟨x,ds,G2,q,RelD.le l2 r1,r2,c2,t2,f.le (l1.trans l2)⟩⟩⟩
end
end L3
namespace L3
open PySem PySem.Spec PyProof.Rows L2
section
variable {X:Cx}
theorem u43 {e:Expr} {t t':TE} (h:PE X e t) (w:∀ σ H Q,t' σ H Q->t σ H Q):PE X e t':=fun pins s σ H Q I q=>h pins s σ H Q I (w _ _ _ q)
theorem vr0 {e:Expr} {t t':TT} (h:PT X e t) (w:∀ σ H Q,t' σ H Q->t σ H Q):PT X e t':=fun pins s σ H Q I q=>h pins s σ H Q I (w _ _ _ q)
theorem w76 {e:Expr} {t t':TT} (h:PW X e t) (w:∀ σ H Q,t' σ H Q->t σ H Q):PW X e t':=fun wh pins s σ H Q I q=>h wh pins s σ H Q I (w _ _ _ q)
theorem w79 {e:List Expr} {t t':TA} (h:PA X e t) (w:∀ σ H Q,t' σ H Q->t σ H Q):PA X e t':=fun pos pins s σ H Q I q=>h pos pins s σ H Q I (w _ _ _ q)
theorem ua5 {e:Stmt} {t t':TS} (h:PS X e t) (w:∀ D σ H,t' D σ H->t D σ H):PS X e t':=fun pins s σ H D I q=>h pins s σ H D I (w _ _ _ q)
theorem vl4 {e:List Stmt} {t t':TS} (h:PSs X e t) (w:∀ D σ H,t' D σ H->t D σ H):PSs X e t':=fun pins s σ H D I q=>h pins s σ H D I (w _ _ _ q)
theorem vr3 {e:Expr} {t t':TG} (h:PG X e t) (w:∀ v σ H Q,t' v σ H Q->t v σ H Q):PG X e t':=fun pins s σ H v u Q I r q=>h pins s σ H v u Q I r (w _ _ _ _ q)
theorem vl6 {e:List Expr} {t t':TGs} (h:PGs X e t) (w:∀ v σ H Q,t' v σ H Q->t v σ H Q):PGs X e t':=fun pins s σ H v u Q I r q=>h pins s σ H v u Q I r (w _ _ _ _ q)
theorem vr1 {t t':TSet} (h:PSet X t) (w:∀ o i v H Q,t' o i v H Q->t o i v H Q):PSet X t':=fun pins s σ H o i v ov iv u Q I r1 r2 r3 q=>h pins s σ H o i v ov iv u Q I r1 r2 r3 (w _ _ _ _ _ q)
theorem v13 {tg e:Expr} {t t':TI} (h:PI X tg e t) (w:∀ σ H R,t' σ H R->t σ H R):PI X tg e t':=fun pins s σ H R I q=>h pins s σ H R I (w _ _ _ q)
theorem u78 {f:Value->Value->Sem Value} {r r':R2} (h:OpR X f r) (w:∀ x y H Q,r' x y H Q->r x y H Q):OpR X f r':=fun pins s σ H x y v u Q I a b q=>h pins s σ H x y v u Q I a b (w _ _ _ _ q)
theorem u54 {f:Value} {r r':List V->Hp->VK->Prop} (h:CallR X f r) (w:∀ x H Q,r' x H Q->r x H Q):CallR X f r':=fun pins s σ H x v Q I a q=>h pins s σ H x v Q I a (w _ _ _ q)
theorem ut6 {id:String} {r r':V->List V->Hp->VK->Prop} (h:MtR X id r) (w:∀ x xs H Q,r' x xs H Q->r x xs H Q):MtR X id r':=fun pins s σ H x xs v us Q I a b q=>h pins s σ H x xs v us Q I a b (w _ _ _ _ q)
theorem w78 {r r':R2} (h:IxR X r) (w:∀ x y H Q,r' x y H Q->r x y H Q):IxR X r':=fun va sl pins s σ H x y v u Q I a b q=>h va sl pins s σ H x y v u Q I a b (w _ _ _ _ q)
theorem vl5 {r r':V->Option Int->Option Int->Hp->VK->Prop} (h:SlR X r) (w:∀ x l u H Q,r' x l u H Q->r x l u H Q):SlR X r':=by
 intro pins s σ H x lo hi
 intros
 apply h <;> first | assumption | (apply w;assumption)
theorem w77 {e:Option Expr} {t t':TO} (h:PO X e t) (w:∀ σ H Q,t' σ H Q->t σ H Q):PO X e t':=by
 intro pins s σ H Q I q;exact h pins s σ H Q I (w _ _ _ q)
theorem vr2 {e:List Expr} {t t':TT} (h:PIfs X e t) (w:∀ σ H Q,t' σ H Q->t σ H Q):PIfs X e t':=fun pins s σ H Q I q=>h pins s σ H Q I (w _ _ _ q)
end
def E3 (X:Cx) (e:Expr) (t:TE3):Prop:=PE X e (lowE X.K t)
def T3 (X:Cx) (e:Expr) (t:TT3):Prop:=PT X e (lowT X.K t)
def W3 (X:Cx) (e:Expr) (t:TT3):Prop:=PW X e (lowT X.K t)
def A3 (X:Cx) (es:List Expr) (t:TA3):Prop:=PA X es (lowA X.K t)
def S3 (X:Cx) (st:Stmt) (t:TS3):Prop:=PS X st (lowS X.K t)
def Ss3 (X:Cx) (sts:List Stmt) (t:TS3):Prop:=PSs X sts (lowS X.K t)
def J3 (X:Cx) (e:Expr) (t:TG3):Prop:=PG X e (lowG X.K t)
def Js3 (X:Cx) (es:List Expr) (t:TGs3):Prop:=PGs X es (vi6 X.K t)
def I3 (X:Cx) (tg e:Expr) (t:TI3):Prop:=PI X tg e (lowI X.K t)
def O3 (X:Cx) (e:Option Expr) (t:TO3):Prop:=PO X e (lowO X.K t)
def Ifs3 (X:Cx) (es:List Expr) (t:TT3):Prop:=PIfs X es (lowT X.K t)
abbrev Op3 (X:Cx) (f:Value->Value->Sem Value) (r:R3):Prop:=OpR X f (lowR X.K r)
abbrev Call3 (X:Cx) (f:Value) (r:C3):Prop:=CallR X f (lowC X.K r)
section
variable {X:Cx} {a b c e o:Expr} {es:List Expr} {pos apos cpos p p2:Pos} {ta tb tc te:TE3} {t u:TT3} {ts us:TA3}
theorem ev (i:Nat) {x:Str} {pos:Pos} (hN:X.N[i]?=some x:=by rfl) (hv:Vis X.env.scope x:=by first | exact Or.inl rfl | exact Or.inr (Or.inl rfl) | exact Or.inr (Or.inr rfl)) (hd:(x == ("__debug__" : Str))=false:=by decide)
  (hcd:(x == ("__classdict__" : Str))=false:=by decide):E3 X (.Name x pos) (dVar i):=u43 (wc4 hN hv hd hcd) fun _ _ _=>w06
theorem u05 {i j pos}:E3 X (.Constant (.int i) j pos) (dC (.int i)):=u43 wd2 fun _ _ _=>uz3 fun _=>by rw [RelD]
theorem e_bl {i j pos}:E3 X (.Constant (.bool i) j pos) (dC (.bl i)):=u43 wv5 fun _ _ _=>uz3 fun _=>by rw [RelD]
theorem ww9 {j pos}:E3 X (.Constant .none j pos) (dC .non):=u43 wd0 fun _ _ _=>uz3 fun _=>by rw [RelD]
theorem u09 {x j pos}:E3 X (.Constant (.str x) j pos) (dC (.str x)):=u43 wc7 fun _ _ _=>uz3 fun _=>by rw [RelD]
theorem wo0 {x:Str} {d:D} {v:V} {w:Value} (hg:Gl X x) (hm:X.mg x=some w) (r:RelV v w) (rd:∀ H,RelD X.K H d v) (hd:(x == ("__debug__" : Str))=false:=by decide):E3 X (.Name x pos) (dC d) :=
 u43 (vz4 hg hm r hd) fun _ _ _=>uz3 rd
theorem u14 {op:Operator} {r:R3} (ho:Op3 X (binaryOp op) r) (ha:E3 X a ta) (hb:E3 X b tb):E3 X (.BinOp a op b pos) (dOp r ta tb):=u43 (wv3 ho ha hb) fun _ _ _=>uv8
theorem uc0 {op:CmpOp} {r:R3} (ho:Op3 X (compareOp op) r) (ha:E3 X a ta) (hb:E3 X b tb) (hm:behindInMarks op b=false):E3 X (.Compare a [op] [b] pos) (dOp r ta tb):=u43 (vz7 ho ha hb hm) fun _ _ _=>uv8
theorem u25 {op:CmpOp} {r:R3} (ho:Op3 X (compareOp op) r) (ha:E3 X a ta) (hb:E3 X b tb) (hm:behindInMarks op b=false):T3 X (.Compare a [op] [b] pos) (dB (dOp r ta tb)) :=
 vr0 (vx8 ho ha hb hm) fun σ H Q h=>by
  obtain ⟨σd,G,q,rs,c,t,f⟩:=h;exact uv8 (K:=X.K) ⟨σd,G,_,rs,c,t,fun x G1 v H1 r1 c1 l1 t1=>by
   split at t1
   ·rename_i k
    exact ⟨k,r1.bl_inv,f _ _ _ c1 l1 t1⟩
   ·exact t1.elim⟩
theorem uc5 (h:E3 X e te) (he:∀ whole,isTrue e X.env whole=(do let v <- whole;standAt e.pos;holding [v] (truthy v)):=by intro _;rfl):T3 X e (dB te):=vr0 (wb2 h he) fun _ _ _=>ww2
theorem ut9 (ha:T3 X a t):W3 X (.BoolOp .And [a] pos) t:=vx7 ha
theorem vr6 (ha:T3 X a t):W3 X (.BoolOp .Or [a] pos) t:=wb0 ha
theorem w_and {rest:List Expr} (ha:T3 X a t) (hb:W3 X (.BoolOp .And (b::rest) pos) u):W3 X (.BoolOp .And (a::b::rest) pos) (dAnd t u):=w76 (wb1 ha hb) fun _ _ _=>vi4
theorem w_or {rest:List Expr} (ha:T3 X a t) (hb:W3 X (.BoolOp .Or (b::rest) pos) u):W3 X (.BoolOp .Or (a::b::rest) pos) (dOr t u):=w76 (wv0 ha hb) fun _ _ _=>w13
theorem t_w (h:W3 X e t):T3 X e t:=PW.pt h
theorem vd3 (ha:T3 X a t):T3 X (.UnaryOp .Not a pos) (dNot t):=vr0 (wb3 ha) fun _ _ _=>vh2
theorem w35 {op} (h:E3 X a ta):E3 X (.BoolOp op [a] pos) ta:=wc8 h
theorem vj4 {rest:List Expr} (ha:E3 X a ta) (hb:E3 X (.BoolOp .And (b::rest) pos) tb):E3 X (.BoolOp .And (a::b::rest) pos) (w48 ta tb):=u43 (wd4 ha hb) fun _ _ _=>vi3
theorem ww8 (ha:E3 X a ta):E3 X (.UnaryOp .Not a pos) (w45 ta):=u43 (wc9 ha) fun _ _ _=>vh1
theorem e_if (hc:T3 X c t) (ha:E3 X a ta) (hb:E3 X b tb):E3 X (.IfExp c a b pos) (dIf t ta tb):=u43 (vf7 hc ha hb) fun _ _ _=>wl4
theorem u03:A3 X [] dNil:=w79 wd5 fun _ _ _=>v62
theorem u00 (ha:E3 X e te) (hr:A3 X es ts) (hs:starEach (e::es) X.env=(false,eval e X.env)::starEach es X.env:=by rfl):A3 X (e::es) (u68 te ts):=w79 (w00 ha hr hs) fun _ _ _=>vi0
theorem u22 {x1} (h:A3 X es ts):E3 X (.Tuple es x1 pos) (dTup ts):=u43 (wc5 h) fun _ _ _=>w08
theorem u46 (h:A3 X es ts):E3 X (.List es pos) (dLst ts):=u43 (wd1 h) fun _ _ _=>w14
theorem e_ix {r:R3} (hr:IxR X (lowR X.K r)) (ha:E3 X a ta) (hb:E3 X b tb) (hs:vb7 b:=by exact fun _ _=>rfl):E3 X (.Subscript a b pos) (dOp r ta tb):=u43 (wv4 hr ha hb hs) fun _ _ _=>uv8
theorem v54:O3 X none us3:=w77 vy7 fun _ _ _=>uz2
theorem v53 (h:E3 X e te):O3 X (some e) (w44 te):=w77 (vy6 h) fun _ _ _=>vh0
theorem e_sl {r:RS3} {lo hi:Option Expr} {tl th:TO3} (hr:SlR X (vi5 X.K r)) (he:E3 X e te) (hl:O3 X lo tl) (hu:O3 X hi th):E3 X (.Subscript e (.Slice lo hi none p2) pos) (dSl r te tl th):=u43 (vf5 hr he hl hu) fun _ _ _=>wl3
end
section
variable {X:Cx} {a b c e o value:Expr} {es:List Expr} {st:Stmt} {sts sts2:List Stmt} {pos pos' spos tpos:Pos} {te ta tv:TE3} {t:TT3} {s1 s2:TS3} {g:TG3}
theorem u23:Ss3 X [] w46:=vl4 vy1 fun _ _ _=>vh3
theorem u01 (h1:S3 X st s1) (h2:Ss3 X sts s2):Ss3 X (st::sts) (dSeq s1 s2):=vl4 (ve7 h1 h2) fun _ _ _=>w09
theorem u07 (h1:S3 X st s1):Ss3 X [st] s1:=vy0 h1
theorem u38 (he:E3 X e te) (hs:swapsWith e none pos.line X.env=pure false:=by rfl):S3 X (.Expr e pos) (v98 te):=ua5 (vy4 he hs) fun _ _ _=>vh9
theorem u15 (he:E3 X e te):S3 X (.Return (some e) pos) (dRet te):=ua5 (wb5 he) fun _ _ _=>w12
theorem wa4:S3 X (.Return none pos) w43:=ua5 vy3 fun _ _ _=>vg9
theorem s_if (hc:T3 X c t) (ha:Ss3 X sts s1) (hb:Ss3 X sts2 s2):S3 X (.If c sts sts2 pos) (dIfS t s1 s2):=ua5 (wv1 hc ha hb) fun _ _ _=>w15
def wo4:TS3:=fun _ _ _=>False
theorem vt0:S3 X st wo4:=ua5 ve9 fun _ _ _ h=>by obtain ⟨_,_,_,_,_,h,_⟩:=h;exact h.elim
theorem u20 (i:Nat) {x:Str} (hN:X.N.Nodup) (hi:X.N[i]?=some x:=by rfl) (hx:Loc X.env.scope x:=by first | exact Or.inl rfl | exact Or.inr rfl) (hf:X.fn x=true \/ X.env.scope.names.lookup x=some .local:=by first | exact .inl rfl | exact .inr rfl | assumption):J3 X (.Name x pos) (uk6 i) :=
 vr3 (vz0 hN hi hx hf) fun _ _ _ _=>v63
theorem uf1:Js3 X [] jNil:=vl6 vy9 fun _ _ _ _=>vh6
theorem u42 {t:TG3} {u:TGs3} (h1:J3 X e t) (h2:Js3 X es u) (hs:(assignEach (e::es) X.env).map (·.2)=assign e X.env::(assignEach es X.env).map (·.2):=by rfl):Js3 X (e::es) (w22 t u):=vl6 (vf4 h1 h2 hs) fun _ _ _ _=>v64
theorem uk5 {i:Expr} {to ti:TE3} {t:TSet3} (ho:E3 X o to) (hi:E3 X i ti) (hs:PSet X (v66 X.K t))
  (ha:∀ v,assign (.Subscript o i pos) X.env v=(do
   let ov <- holding [v] (eval o X.env)
   let iv <- holding [v,ov] (eval i X.env)
   standAt pos
   holding [v,ov,iv] (setItem ov iv v)
   release [v,ov,iv] []):=by intro _;rfl):J3 X (.Subscript o i pos) (jSub to ti t):=vr3 (wc3 ho hi hs ha) fun _ _ _ _=>vh5
theorem ub6 {tg:Expr} (he:E3 X e te) (hg:J3 X tg g) (hs:swapsWithSole [tg] e pos.line X.env=pure false:=by rfl) (hw:swappedStores [tg] e X.env=pure none:=by rfl)
  (h1:(assignEach [tg] X.env).map (·.2)=[assign tg X.env]:=by rfl):S3 X (.Assign [tg] e pos) (dAsg te g):=ua5 (wb9 he hg hs hw h1) fun _ _ _=>w19
theorem u21 (i:Nat) {x:Str} (hN:X.N.Nodup) (he:E3 X e te) (hi:X.N[i]?=some x:=by rfl) (hx:Loc X.env.scope x:=by first | exact Or.inl rfl | exact Or.inr rfl) (hs:swapsWith e (some (.Name x pos')) pos.line X.env=pure false:=by rfl)
  (hf:X.fn x=true \/ X.env.scope.names.lookup x=some .local:=by first | exact .inl rfl | exact .inr rfl | assumption):S3 X (.Assign [.Name x pos'] e pos) (dAsg te (uk6 i)) :=
 ua5 (wb4 hN hi hx he hs hf) fun D σ H h=>by
  obtain ⟨σd,G,q,rs,c,t,f⟩:=h;exact ⟨σd,G,_,rs,c,t,fun x G1 v H1 r1 c1 l1 t1=>f.nx _ _ _ _ ((rs.le l1).set i r1) c1 l1 t1⟩
theorem wu6 (i:Nat) {x:Str} {op:Operator} {r:R3} (hN:X.N.Nodup) (he:E3 X e te) (ho:Op3 X (inplaceOp op) r) (hi:X.N[i]?=some x:=by rfl) (hx:Loc X.env.scope x:=by first | exact Or.inl rfl | exact Or.inr rfl)
  (hf:X.fn x=true \/ X.env.scope.names.lookup x=some .local:=by first | exact .inl rfl | exact .inr rfl | assumption):S3 X (.AugAssign (.Name x pos') op e pos) (dAug i te r):=ua5 (wb8 hN hi hx he ho hf) fun _ _ _=>w18
theorem vs9 {body:List Stmt} (hc:T3 X c t) (hb:Ss3 X body s1) (hp:PassesOwn (model X.prog X.w) X.A X.env X.xe:=by exact PassesOwn.never):S3 X (.While c body [] pos) (v96 t s1):=ua5 (ve8 hp hc hb) fun _ _ _=>v59
theorem ub5 {tg iter:Expr} {body:List Stmt} {wi:TI3} (hi:I3 X tg iter wi) (hg:J3 X tg g) (hb:Ss3 X body s1) (hc:X.calm=true:=by rfl) (hp:PassesOwn (model X.prog X.w) X.A X.env X.xe:=by exact PassesOwn.never)
  (hs:∀ x,foldedSetIterable iter X.env x=pure x:=by intro _;rfl):S3 X (.For tg iter body [] pos) (dFor wi g s1):=ua5 (wb6 hp hc hi hg hb hs) fun _ _ _=>w16
theorem u63 {C:Addr} {f:Str} (cl:Cls X.K C) (na:NoAttr X.K C f) (he:E3 X e te) (hb:attributeBase e f X.env (eval e X.env)=eval e X.env:=by rfl):E3 X (.Attribute e f pos) (dFld C te f):=u43 (wd3 he hb) fun _ _ _=>w17 cl na
theorem un5 {C:Addr} {f:Str} (cl:Cls X.K C) (na:NoAttr X.K C f) (ha:E3 X o ta) (hv:E3 X value tv) (hs:swapsWith value (some (.Attribute o f pos')) pos.line X.env=pure false:=by rfl):S3 X (.Assign [.Attribute o f pos'] value pos) (w42 C ta tv f) :=
 ua5 (wb7 ha hv hs) fun _ _ _=>vg8 cl na
theorem uu8 {C:Addr} {f:Str} {op:Operator} {r:R3} (cl:Cls X.K C) (na:NoAttr X.K C f) (ha:E3 X o ta) (hv:E3 X value tv) (ho:Op3 X (inplaceOp op) r):S3 X (.AugAssign (.Attribute o f tpos) op value pos) (w47 C ta tv r f) :=
 ua5 (v42 ha hv ho) fun _ _ _=>vi2 cl na
end
theorem v60 {K:W.Frag} {σ:L2.St} {H:Hp} {ta:TA3} {R:It->Hp->Prop} (h:lowI K (fun σ G r=>ta σ G fun ds G1=>match ds with | [.int j]=>(-(2 ^ 62)<=j /\ j < 2 ^ 62) /\ r ⟨rngD 0 j.toNat,fun _=>True⟩ G1 | _=>False) σ H R):wn1 (lowA K ta) σ H R:=by
 obtain ⟨σd,G,q,rs,c,t,f⟩:=h;refine ⟨σd,G,_,rs,c,t,fun ds G1 vs H1 r1 c1 l1 t1=>?_⟩;split at t1
 ·rename_i j
  obtain ⟨x,r,rfl,rx,rr⟩:=r1.inv_cons;rw [RelD] at rx;subst rx;rw [rr.inv_nil];exact ⟨j,rfl,t1.1.1,t1.1.2,f _ _ _ _ ur6 c1 l1 t1.2⟩
 ·exact t1.elim
def w86 (ta:TA3):TI3:=fun σ G r=>ta σ G fun ds G1=>match ds with | [.int j]=>(-(2 ^ 62)<=j /\ j < 2 ^ 62) /\ r ⟨rngD 0 j.toNat,fun _=>True⟩ G1 | _=>False
def wu0 (ta:TA3):TI3:=fun σ G r=>ta σ G fun ds G1=>match ds with | [.int i,.int j]=>(-(2 ^ 62)<=i /\ i < 2 ^ 62 /\ -(2 ^ 62)<=j /\ j < 2 ^ 62) /\ r ⟨rngD i (j - i).toNat,fun _=>True⟩ G1 | _=>False
section
variable {X:Cx} {a b e o tg:Expr} {es:List Expr} {p pos apos cpos:Pos} {ta:TE3} {ts:TA3}
theorem u88 (hg:Gl X "range") (hm:X.mg "range" = none) (ha:A3 X [a] ts) (hs:starEach [a] X.env=[(false,eval a X.env)]:=by rfl):I3 X tg (.Call (.Name "range" p) [a] [] pos) (w86 ts):=v13 (v46 hg hm ha hs) fun _ _ _=>v60
variable {k:Nat} {f C:Addr} {fd:FuncData} {ps:List Str} {S:Sp3} {dds:List D} {dvs:List V} {ds:List Value} {x m:Str}
theorem wo1 (F:FnOk X.prog X.w X.K X.mg X.base CX0 k f fd ps (u93 X.K S)) (hr:Room k X.A) (hg:Gl X x) (hm:X.mg x=some (.ref f)) (hk:W.keepIn X.K (.ref f)=true) (hb:Binds X.K fd ps ds) (hd:Vals dvs ds) (hdd:∀ H,RelDs X.K H dds dvs)
  (ha:A3 X (e::es) ts) (hdb:(x == ("__debug__" : Str))=false:=by decide) (he:starEach (e::es) X.env=(false,eval e X.env)::starEach es X.env:=by rfl) (hpl:(backTo pos (starEach es X.env)).any (·.1)=false:=by rfl) :
  E3 X (.Call (.Name x p) (e::es) [] pos) (dCall S dds ts):=u43 (vz8 F hr hg hm hk hb hd pass0 ha hdb he hpl) fun _ _ _=>vi1 hdd
theorem wn8 {pl:Sem Bool} (he:E3 X o ta) (c:Cls X.K C) (hm:Meth X.K C m f) (F:FnOk X.prog X.w X.K X.mg X.base CX0 k f fd ps (u93 X.K S)) (hr:Room k X.A) (hb:Binds X.K fd ps ds) (hd:Vals dvs ds) (hdd:∀ H,RelDs X.K H dds dvs) (ha:A3 X (e::es) ts)
  (hse:starEach (e::es) X.env=(false,eval e X.env)::starEach es X.env:=by rfl) (hpl:(backTo pos (starEach es X.env)).any (·.1)=false:=by rfl)
  (ht:eval (.Call (.Attribute o m apos) (e::es) [] pos) X.env=(do
   let ov <- eval o X.env
   standAt apos.atName
   let (f,first) <- holding [ov] (getMethod ov m pl)
   callWith pos f first (backTo pos (starEach (e::es) X.env)) (backToKw pos (keywordEach [] X.env))):=by rfl):E3 X (.Call (.Attribute o m apos) (e::es) [] pos) (ug4 C m S dds ta ts) :=
 u43 (vz2 he c hm F hr hb hd pass0 ha hse hpl ht) fun _ _ _=>uv9 hdd
theorem w36 {pl:Sem Bool} (he:E3 X o ta) (c:Cls X.K C) (hm:Meth X.K C m f) (F:FnOk X.prog X.w X.K X.mg X.base CX0 k f fd ps (u93 X.K S)) (hr:Room k X.A) (hb:Binds X.K fd ps ds) (hd:Vals dvs ds) (hdd:∀ H,RelDs X.K H dds dvs)
  (ht:eval (.Call (.Attribute o m apos) [] [] pos) X.env=(do
   let ov <- eval o X.env
   standAt apos.atName
   let (f,first) <- holding [ov] (getMethod ov m pl)
   callWith pos f first (backTo pos (starEach [] X.env)) (backToKw pos (keywordEach [] X.env))):=by rfl):E3 X (.Call (.Attribute o m apos) [] [] pos) (ug4 C m S dds ta dNil) :=
 u43 (vf6 he c hm F hr hb hd pass0 ht) fun σ H Q h=>by
  obtain ⟨σd,G,q,rs,cc,t,ff⟩:=uv9 (XE:=E0) hdd h;refine ⟨σd,G,q,rs,cc,t,fun d G1 v H1 r1 c1 l1 t1=>?_⟩;obtain ⟨a,dx,fs,e1,e2,e3,q3⟩:=ff d G1 v H1 r1 c1 l1 t1;exact ⟨a,dx,fs,e1,e2,e3,v62 q3⟩
theorem vq0 (M:Mk X.K C f) (F:FnOk X.prog X.w X.K X.mg X.base CX0 k f fd ps (u93 X.K S)) (hr:Room (k+1) X.A) (hg:Gl X x) (hm:X.mg x=some (.ref C)) (hb:Binds X.K fd ps ds) (hd:Vals dvs ds) (hdd:∀ H,RelDs X.K H dds dvs)
  (ha:A3 X (e::es) ts) (hdb:(x == ("__debug__" : Str))=false:=by decide) (he:starEach (e::es) X.env=(false,eval e X.env)::starEach es X.env:=by rfl) (hpl:(backTo pos (starEach es X.env)).any (·.1)=false:=by rfl) :
  E3 X (.Call (.Name x p) (e::es) [] pos) (v97 C S dds ts):=u43 (vz3 M F hr hg hm hb hd pass0 ha hdb he hpl) fun _ _ _=>vh4 hdd
variable {id T:String} {r:C3} {rm:M3} {name:Str}
theorem u37 (hc:Call3 X (.builtin id) r) (hg:Gl X x) (hm:X.mg x=none) (hv:bootBuiltins x=some (.builtin id)) (ha:A3 X (e::es) ts) (hn:x ≠ "__name__" := by decide) (hdb:(x == ("__debug__" : Str))=false:=by decide)
  (he:starEach (e::es) X.env=(false,eval e X.env)::starEach es X.env:=by rfl) (hpl:(backTo pos (starEach es X.env)).any (·.1)=false:=by rfl):E3 X (.Call (.Name x p) (e::es) [] pos) (dCB r ts) :=
 u43 (vf9 hc hg hm hv ha hn hdb he hpl) fun _ _ _=>vp0
theorem u48 (hc:Call3 X (.type T) r) (hg:Gl X x) (hm:X.mg x=none) (hv:bootBuiltins x=some (.type T)) (ha:A3 X (e::es) ts) (hn:x ≠ "__name__" := by decide) (hdb:(x == ("__debug__" : Str))=false:=by decide)
  (he:starEach (e::es) X.env=(false,eval e X.env)::starEach es X.env:=by rfl) (hpl:(backTo pos (starEach es X.env)).any (·.1)=false:=by rfl):E3 X (.Call (.Name x p) (e::es) [] pos) (dCB r ts) :=
 u43 (v48 hc hg hm hv ha hn hdb he hpl) fun _ _ _=>vp0
end
def ui3 (ix:List (Option Nat)) (σ:DSt):DSt:=ix.map fun o=>o.bind fun j=>(σ[j]?).bind id
def ug5 (ok:Gp->Prop) (g:TG3) (tc:TT3) (te:TE3) (p:Addr) (q:DK):List D->DSt->Gp->Prop
 | [],_,G=>ok G /\ q (.ref p) G
 | x::r,σ,G=>ok G /\ g x σ G fun σ2 G2=>tc σ2 G2 fun b G3 =>
  if b=true then te σ2 G3 fun d G4=>(match G4 p with | some (.lst ys)=>ys.length < sizeLine /\ ug5 ok g tc te p q r σ2 (gup G4 p (.lst (ys++[d]))) | _=>False)
  else ug5 ok g tc te p q r σ2 G3
def vj9 (ix:List (Option Nat)) (wi:TI3) (g:TG3) (tc:TT3) (te:TE3):TE3:=fun σ G q=>wi σ G fun it G1=>∀ p,G1 p=none->ug5 it.ok g tc te p q it.items (ui3 ix σ) (gup G1 p (.lst []))
theorem RelSt.inn {K:W.Frag} {H:Hp} {σd:DSt} {σ:L2.St} (h:RelSt K H σd σ) (ix:List (Option Nat)):RelSt K H (ui3 ix σd) (L2.inner ix σ):=by
 refine ⟨by unfold ui3 L2.inner;rw [List.length_map,List.length_map],fun i d e=>?_⟩;unfold ui3 at e;unfold L2.inner;rw [List.getElem?_map] at e ⊢;cases ho:ix[i]? with
 | none=>rw [ho] at e;cases e
 | some o =>
  rw [ho] at e;cases o with
  | none=>cases e
  | some j =>
   have e:(σd[j]?).bind id=some d:=Option.some.inj e;have e:σd[j]?=some (some d):=by
    cases hs:σd[j]? with
    | none=>rw [hs] at e;cases e
    | some w=>rw [hs] at e;cases e;rfl
   obtain ⟨v,hv,r⟩:=h.2 j d e;exact ⟨v,by show some ((σ[j]?).bind id)=_;rw [hv];rfl,r⟩
theorem uw0 {K:W.Frag} {ix:List (Option Nat)} {wi:TI3} {g:TG3} {tc:TT3} {te:TE3} {σ:L2.St} {H:Hp} {Q:VK} (h:lowE K (vj9 ix wi g tc te) σ H Q):vs4 ix (lowI K wi) (lowG K g) (lowT K tc) (lowE K te) σ H Q:=by
 obtain ⟨σd,G,q,rs,cc,t,f⟩:=h;refine ⟨σd,G,_,rs,cc,t,fun it J G1 H1 ir c1 l1 t1=>?_⟩;intro p hp;have t1:=t1 p (c1.fresh hp);have c2:Con K (gup G1 p (.lst [])) (upd H1 p (.lst [])):=c1.lstNew hp .nil;have l2:Le H1 (upd H1 p (.lst [])):=Le.fresh hp;refine ⟨fun i m σ' H'=>∃ σd' G',Le (upd H1 p (.lst [])) H' /\ RelSt K H' σd' σ' /\ Con K G' H' /\ i+m=it.items.length /\ ug5 it.ok g tc te p q (it.items.drop i) σd' G',
  ⟨it.items.length,ui3 ix σd,_,Le.refl _,(rs.le (l1.trans l2)).inn ix,c2,by omega,by rw [List.drop_zero];exact t1⟩,?_⟩
 rintro i m σ2 H2 ⟨σd2,G2,l3,rs2,c2,e2,t2⟩;have l12:Le H1 H2:=l2.trans l3
 by_cases hi:i < it.items.length
 ·rw [List.drop_eq_getElem_cons hi] at t2
  obtain ⟨ok2,t2⟩:=t2;refine .inr ⟨ir.go i G2 H2 l12 c2 ok2 hi,fun σ' H'=>∃ σd' G',Le (upd H1 p (.lst [])) H' /\ RelSt K H' σd' σ' /\ Con K G' H' /\ ug5 it.ok g tc te p q (it.items.drop (i+1)) σd' G',?_,?_⟩
  ·rintro σ' H' ⟨σd',G',a1,a2,a3,a4⟩
   exact ⟨m - 1,by omega,σd',G',a1,a2,a3,by omega,a4⟩
  ·intro x H3 y
   obtain ⟨c3,l4,e,he,r3⟩:=ir.yld i G2 H2 x H3 l12 c2 ok2 hi y;rw [List.getElem?_eq_getElem hi] at he;cases he;refine ⟨_,σd2,G2,_,r3,rs2.le l4,c3,t2,fun σd4 G4 σ4 H4 rs4 c4 l5 t4=>?_⟩;refine ⟨σd4,G4,_,rs4,c4,t4,fun b G5 H5 c5 l6 t5=>?_⟩;cases b with
   | false =>
    rw [if_neg Bool.false_ne_true] at t5 ⊢;exact ⟨σd4,G5,l3.trans (l4.trans (l5.trans l6)),rs4.le l6,c5,t5⟩
   | true =>
    rw [if_pos rfl] at t5 ⊢;refine ⟨σd4,G5,_,rs4.le l6,c5,t5,fun d G6 v H6 r6 c6 l7 t6=>?_⟩;split at t6
    ·rename_i ys eg
     obtain ⟨xs,ex,rx⟩:=c6 p _ eg;have l8:=Le.lst (ys:=xs++[v]) ex;exact ⟨xs,ex,by rw [<- rx.length];exact t6.1,σd4,_,l3.trans (l4.trans (l5.trans (l6.trans (l7.trans l8)))),rs4.le (l6.trans (l7.trans l8)),c6.lstSet ex (rx.append (.cons r6 .nil)),t6.2⟩
    ·exact t6.elim
 ·rw [List.drop_eq_nil_of_le (by omega)] at t2
  exact .inl ⟨ir.stop i G2 H2 l12 c2 t2.1 (by omega),f _ _ _ _ RelD.refI c2 (l1.trans l12) t2.2⟩
def dYes:TT3:=fun _ G q=>q true G
section
variable {X:Cx} {elt tg iter:Expr} {ifs:List Expr} {scope:Scope} {pos:Pos} {N':List Str} {ix:List (Option Nat)} {wi:TI3} {g:TG3} {tc:TT3} {te:TE3}
theorem u45:Ifs3 X [] dYes:=vr2 vf1 fun σ H Q h=>by
 obtain ⟨σd,G,q,rs,c,t,f⟩:=h;exact f _ _ _ c (Le.refl H) t
theorem w25 {c:Expr} (h:T3 X c tc):Ifs3 X [c] tc:=vf0 h
theorem u67 (B:BlkOk X N' ix scope) (hw:I3 X tg iter wi) (hg:∀ C s H fp,J3 (u57 X N' scope C s H fp) tg g) (hi:∀ C s H fp,Ifs3 (u57 X N' scope C s H fp) ifs tc) (he:∀ C s H fp,E3 (u57 X N' scope C s H fp) elt te)
  (hc:X.calm=true:=by rfl) (hs:∀ x,foldedSetIterable iter X.env x=pure x:=by intro _;rfl):E3 X (.ListComp elt [⟨tg,iter,ifs,0⟩] scope pos) (vj9 ix wi g tc te) :=
 u43 (vz6 (g:=lowG X.K g) (tc:=lowT X.K tc) (te:=lowE X.K te) B hc hw hg hi he hs) fun _ _ _=>uw0
theorem vo5 (i:Nat) {y:Str} {py spos:Pos} (hN:X.N.Nodup) (B:BlkOk X N' ix scope) (hw:I3 X tg iter wi) (hg:∀ C s H fp,J3 (u57 X N' scope C s H fp) tg g) (hi:∀ C s H fp,Ifs3 (u57 X N' scope C s H fp) ifs tc) (he:∀ C s H fp,E3 (u57 X N' scope C s H fp) elt te)
  (hy:X.N[i]?=some y:=by rfl) (hl:Loc X.env.scope y:=by first | exact Or.inl rfl | exact Or.inr rfl)
  (hc:X.calm=true:=by rfl) (hsw:swapsWith (.ListComp elt [⟨tg,iter,ifs,0⟩] scope pos) (some (.Name y py)) spos.line X.env=pure true:=by rfl)
  (hf:X.fn y=true \/ X.env.scope.names.lookup y=some .local:=by first | exact .inl rfl | exact .inr rfl | assumption)
  (hs:∀ x,foldedSetIterable iter X.env x=pure x:=by intro _;rfl):S3 X (.Assign [.Name y py] (.ListComp elt [⟨tg,iter,ifs,0⟩] scope pos) spos) (dAsg (vj9 ix wi g tc te) (uk6 i)) :=
 ua5 (vy2 (g:=lowG X.K g) (tc:=lowT X.K tc) (te:=lowE X.K te) B hc hN hy hl hw hg hi he hsw hf hs) fun D σ H h=>by
  obtain ⟨σd,G,d,rs,c,t,f⟩:=h;exact uw0 (K:=X.K) ⟨σd,G,_,rs,c,t,fun x G1 v H1 r1 c1 l1 t1=>f.nx _ _ _ _ ((rs.le l1).set i r1) c1 l1 t1⟩
end
def xAdd:R3:=fun x y G q=>match x,y with
 | .int i,.int j=>q (.int (i+j)) G
 | .str a,.str b=>a.length+b.length<=sizeLine /\ q (.str (a++b)) G
 | .tup a,.tup b=>a ≠ [] /\ a.length+b.length<=sizeLine /\ q (.tup (a++b)) G
 | .ref a,.ref b=>(match G a,G b with
  | some (.lst xs),some (.lst ys)=>xs.length+ys.length<=sizeLine /\ ∀ p,G p=none->q (.ref p) (gup G p (.lst (xs++ys)))
  | _,_=>False)
 | _,_=>False
def xInt (f:Int->Int->Int):R3:=fun x y G q=>match x,y with | .int i,.int j=>q (.int (f i j)) G | _,_=>False
def ul9 (C:Int->Int->Prop) (f:Int->Int->Int):R3:=fun x y G q=>match x,y with | .int i,.int j=>C i j /\ q (.int (f i j)) G | _,_=>False
def xSub:R3:=xInt fun i j=>i - j
def xMul:R3:=fun x y G q=>match x,y with
 | .int i,.int j=>CMul i j /\ q (.int (i * j)) G
 | .ref a,.int k=>(match G a with
  | some (.lst xs)=>(-(2 ^ 63)<=k /\ k < 2 ^ 63 /\ xs.length * k.toNat<=sizeLine) /\ ∀ p,G p=none->q (.ref p) (gup G p (.lst (List.replicate k.toNat xs).flatten))
  | _=>False)
 | _,_=>False
def w68 (_ j:Int):Prop:=0 < j /\ j < 18446744073709551616
def xDiv:R3:=ul9 w68 fun i j=>i / j
def xMod:R3:=ul9 (fun _ j=>0 < j) fun i j=>i % j
def xPow:R3:=ul9 CPow fun i j=>i ^ j.toNat
def xShl:R3:=ul9 CPow fun i j=>i * 2 ^ j.toNat
def xShr:R3:=ul9 (fun _ j=>0<=j) fun i j=>i / 2 ^ j.toNat
def xAnd:R3:=xInt Builtin.bitAnd
def xOr:R3:=xInt Builtin.bitOr
def xXor:R3:=xInt Builtin.bitXor
def xLt:R3:=fun x y G q=>match x,y with | .int i,.int j=>q (.bl (decide (i < j))) G | .str a,.str b=>q (.bl (decide (a.cps.toList < b.cps.toList))) G | _,_=>False
def xLe:R3:=fun x y G q=>match x,y with | .int i,.int j=>q (.bl (decide (i<=j))) G | _,_=>False
def xGt:R3:=fun x y G q=>match x,y with | .int i,.int j=>q (.bl (decide (j < i))) G | _,_=>False
def xGe:R3:=fun x y G q=>match x,y with | .int i,.int j=>q (.bl (decide (j<=i))) G | _,_=>False
section
variable {X:Cx} {K:W.Frag} {H:Hp}
theorem RelD.int_inv {i:Int} {v:V} (h:RelD K H (.int i) v):v=.int i:=by rw [RelD] at h;exact h
theorem RelD.str_inv {i:Str} {v:V} (h:RelD K H (.str i) v):v=.str i:=by rw [RelD] at h;exact h
theorem RelD.non_inv {v:V} (h:RelD K H .non v):v=.non:=by rw [RelD] at h;exact h
theorem RelD.tup_inv {ds:List D} {v:V} (h:RelD K H (.tup ds) v):∃ a xs,v=.ref a /\ SqT K H a xs /\ RelDs K H ds xs:=by rw [RelD] at h;exact h
theorem RelD.intI {i:Int}:RelD K H (.int i) (.int i):=by rw [RelD]
theorem RelD.strI {i:Str}:RelD K H (.str i) (.str i):=by rw [RelD]
theorem RelD.blI {i:Bool}:RelD K H (.bl i) (.bl i):=by rw [RelD]
theorem RelD.nonI:RelD K H .non .non:=by rw [RelD]
theorem v11 {f:Value->Value->Sem Value} {g:Int->Int->Int} (h:OpR X f (rI0 fun i j=>.int (g i j))):Op3 X f (xInt g):=u78 h fun x y H Q ⟨d,e,G,q,r1,r2,c,t,f⟩=>by
 unfold xInt at t;split at t
 ·exact ⟨_,_,r1.int_inv,r2.int_inv,f _ _ _ _ RelD.intI c (Le.refl H) t⟩
 ·exact t.elim
theorem ul7 {f:Value->Value->Sem Value} {C:Int->Int->Prop} {g:Int->Int->Int} (h:OpR X f (rI C fun i j=>.int (g i j))):Op3 X f (ul9 C g):=u78 h fun x y H Q ⟨d,e,G,q,r1,r2,c,t,f⟩=>by
 unfold ul9 at t;split at t
 ·exact ⟨_,_,r1.int_inv,r2.int_inv,t.1,f _ _ _ _ RelD.intI c (Le.refl H) t.2⟩
 ·exact t.elim
theorem ue1:Op3 X (binaryOp .Sub) xSub:=v11 wd8
theorem vg2:OpR X (binaryOp .FloorDiv) (rI w68 fun i j=>.int (i / j)):=opI fun i j _ _ _ _ _ hc q=>by
 have hl:j.natAbs.log2 < 9000:=by
  have h1:=hc.1;have h2:=hc.2;have hn:j.natAbs ≠ 0:=by omega
  have:j.natAbs.log2 < 64:=(Nat.log2_lt hn).mpr (by omega);omega
 refine floordiv_int (by have:=hc.1;omega) ?_ (.inl (PyProof.noPylong_of_log2 hl));rw [Int.fdiv_eq_ediv_of_nonneg i (by have:=hc.1;omega)];exact q
theorem wt6:Op3 X (binaryOp .FloorDiv) xDiv:=ul7 vg2
theorem ub2:Op3 X (binaryOp .Mod) xMod:=ul7 we4
theorem wt4:Op3 X (binaryOp .Pow) xPow:=ul7 we2
theorem uq4:Op3 X (binaryOp .LShift) xShl:=ul7 we0
theorem wt3:Op3 X (binaryOp .RShift) xShr:=ul7 wd9
theorem w75:Op3 X (binaryOp .BitAnd) xAnd:=v11 we7
theorem x_or:Op3 X (binaryOp .BitOr) xOr:=v11 wv7
theorem w73:Op3 X (binaryOp .BitXor) xXor:=v11 wd7
theorem ul8:Op3 X (inplaceOp .Add) (xInt fun i j=>i+j):=v11 w24
theorem u49:Op3 X (binaryOp .Add) xAdd:=u78 (op_add.or (op_add_str.or (op_catT.or we6))) <| by
 rintro x y H Q ⟨d,e,G,q,r1,r2,c,t,f⟩;unfold xAdd at t;split at t
 ·exact .inl ⟨_,_,r1.int_inv,r2.int_inv,f _ _ _ _ RelD.intI c (Le.refl H) t⟩
 ·exact .inr (.inl ⟨_,_,r1.str_inv,r2.str_inv,t.1,f _ _ _ _ RelD.strI c (Le.refl H) t.2⟩)
 ·obtain ⟨a,xs,rfl,s1,q1⟩:=r1.tup_inv
  obtain ⟨b,ys,rfl,s2,q2⟩:=r2.tup_inv;refine .inr (.inr (.inl ⟨a,b,xs,ys,rfl,rfl,s1,s2,fun z=>t.1 ?_,by rw [<- q1.length,<- q2.length];exact t.2.1,fun z=>?_,fun _ p hp=>?_⟩))
  ·have:=q1.length;rw [z] at this;exact List.eq_nil_of_length_eq_zero this
  ·refine f (.tup _) G (.ref a) _ ?_ c (Le.refl _) t.2.2
   rw [RelD];subst z;have e:∀ {bs:List D},RelDs X.K H bs []->bs=[]:=fun h=>List.eq_nil_of_length_eq_zero h.length
   rw [e q2,List.append_nil];exact ⟨a,_,rfl,s1,q1⟩
  ·refine f (.tup _) G (.ref p) _ ?_ (c.side hp) (Le.fresh hp) t.2.2
   rw [RelD];exact ⟨p,_,rfl,SqT.of u24,RelDs.le (Le.fresh hp) (q1.append q2)⟩
 ·rename_i a b
  split at t
  ·rename_i xs ys e1 e2
   obtain ⟨vs,h1,q1⟩:=c _ _ e1;obtain ⟨ws,h2,q2⟩:=c _ _ e2;exact .inr (.inr (.inr ⟨a,b,vs,ws,r1.ref_inv,r2.ref_inv,h1,h2,by rw [<- q1.length,<- q2.length];exact t.1,fun p hp=>f _ _ _ _ RelD.refI (c.lstNew hp (q1.append q2)) (Le.fresh hp) (t.2 p (c.fresh hp))⟩))
  ·exact t.elim
 ·exact t.elim
theorem uc4:Op3 X (binaryOp .Mult) xMul:=u78 (op_mul.or we1) <| by
 rintro x y H Q ⟨d,e,G,q,r1,r2,c,t,f⟩;unfold xMul at t;split at t
 ·exact .inl ⟨_,_,r1.int_inv,r2.int_inv,t.1,f _ _ _ _ RelD.intI c (Le.refl H) t.2⟩
 ·rename_i a k
  split at t
  ·rename_i xs e1
   obtain ⟨vs,h1,q1⟩:=c _ _ e1;refine .inr ⟨a,k,vs,r1.ref_inv,r2.int_inv,h1,t.1.1,t.1.2.1,by rw [<- q1.length];exact t.1.2.2,?_⟩;intro p hp;exact f _ _ _ _ RelD.refI (c.lstNew hp (q1.rep _)) (Le.fresh hp) (t.2 p (c.fresh hp))
  ·exact t.elim
 ·exact t.elim
theorem vl3 {f:Value->Value->Sem Value} {g:Int->Int->Bool} (h:OpR X f (rI0 fun i j=>.bl (g i j))):Op3 X f (fun x y G q=>match x,y with | .int i,.int j=>q (.bl (g i j)) G | _,_=>False):=u78 h fun x y H Q ⟨d,e,G,q,r1,r2,c,t,f⟩=>by
 dsimp only at t;split at t
 ·exact ⟨_,_,r1.int_inv,r2.int_inv,f _ _ _ _ RelD.blI c (Le.refl H) t⟩
 ·exact t.elim
theorem x_gt:Op3 X (compareOp .Gt) xGt:=vl3 wv8
theorem x_ge:Op3 X (compareOp .GtE) xGe:=vl3 wv9
theorem x_lt:Op3 X (compareOp .Lt) xLt:=u78 (op_lt.or v49) <| by
 rintro x y H Q ⟨d,e,G,q,r1,r2,c,t,f⟩;unfold xLt at t;split at t
 ·exact .inl ⟨_,_,r1.int_inv,r2.int_inv,f _ _ _ _ RelD.blI c (Le.refl H) t⟩
 ·exact .inr ⟨_,_,r1.str_inv,r2.str_inv,f _ _ _ _ RelD.blI c (Le.refl H) t⟩
 ·exact t.elim
theorem RelD.not_non {d:D} {v:V} (h:RelD K H d v) (n:d ≠ .non):v ≠ .non:=by
 cases d with
 | non=>exact absurd rfl n
 | bl _=>rw [h.bl_inv];exact fun z=>nomatch z
 | int _=>rw [h.int_inv];exact fun z=>nomatch z
 | str _=>rw [h.str_inv];exact fun z=>nomatch z
 | ref _=>rw [h.ref_inv];exact fun z=>nomatch z
 | ty _=>rw [RelD] at h;rw [h];exact fun z=>nomatch z
 | tup _=>obtain ⟨a,xs,e,_⟩:=h.tup_inv;rw [e];exact fun z=>nomatch z
def xNeg:U3:=fun x G q=>match x with | .int i=>q (.int (-i)) G | _=>False
def xIx:R3:=fun x y G q=>match x,y with
 | .tup ds,.int i=>(match atI ds i with | some d=>q d G | none=>False)
 | .ref a,.int i=>(match u19 (G a) with | some ds=>(match atI ds i with | some d=>q d G | none=>False) | none=>False)
 | .str z,.int i=>z.length<=sizeLine /\ (match atI z.cps.toList i with | some c=>q (.str ⟨#[c]⟩) G | none=>False)
 | _,_=>False
theorem RelDs.atI {ds:List D} {xs:List V} {i:Int} {d:D} (h:RelDs K H ds xs) (e:L2.atI ds i=some d):∃ v,L2.atI xs i=some v /\ RelD K H d v:=by
 unfold L2.atI at e ⊢;rw [<- h.length];cases hj:ixN ds.length i with
 | none=>rw [hj] at e;cases e
 | some j =>
  rw [hj] at e;exact h.get e
theorem x_ix:IxR X (lowR X.K xIx):=w78 wm5 <| by
 rintro x y H Q ⟨d,e,G,q,r1,r2,c,t,f⟩;unfold xIx at t;split at t
 ·rename_i ds i
  obtain ⟨a,xs,rfl,s1,q1⟩:=r1.tup_inv;split at t
  ·rename_i w ew
   obtain ⟨v,hv,rv⟩:=q1.atI ew;exact .inr (.inl ⟨a,xs,i,v,rfl,r2.int_inv,s1,hv,f _ _ _ _ rv c (Le.refl H) t⟩)
  ·exact t.elim
 ·rename_i a i
  split at t
  ·rename_i ds es
   obtain ⟨xs,s1,q1⟩:=u26 c es;split at t
   ·rename_i w ew
    obtain ⟨v,hv,rv⟩:=q1.atI ew;exact .inl ⟨a,xs,i,v,r1.ref_inv,r2.int_inv,s1,hv,f _ _ _ _ rv c (Le.refl H) t⟩
   ·exact t.elim
  ·exact t.elim
 ·rename_i z i
  obtain ⟨hz,t⟩:=t;split at t
  ·rename_i w ew
   exact .inr (.inr ⟨z,i,w,r1.str_inv,r2.int_inv,hz,ew,f _ _ _ _ RelD.strI c (Le.refl H) t⟩)
  ·exact t.elim
 ·exact t.elim
def cutD {α:Type} (xs:List α) (lo hi:Option Int):List α:=(xs.drop (HT.sIx xs.length 0 lo)).take (HT.sIx xs.length xs.length hi - HT.sIx xs.length 0 lo)
theorem RelDs.cut {ds:List D} {xs:List V} (h:RelDs K H ds xs) (lo hi:Option Int):RelDs K H (cutD ds lo hi) (cutV xs lo hi):=by
 unfold cutD cutV;rw [h.length];exact (h.drop _).take _
def xSet:TSet3:=fun o i v G q=>match o,i with
 | .ref a,.int k=>(match G a with | some (.lst ds)=>(match ixN ds.length k with | some j=>q (gup G a (.lst (ds.set j v))) | none=>False) | _=>False)
 | _,_=>False
theorem uj0:PSet X (v66 X.K xSet):=vr1 set_list <| by
 rintro o i v H Q ⟨d,e,x,G,q,r1,r2,r3,c,t,f⟩;unfold xSet at t;split at t
 ·rename_i a k
  split at t
  ·rename_i ds e1
   obtain ⟨xs,h1,q1⟩:=c _ _ e1;split at t
   ·rename_i j ej
    exact ⟨a,xs,k,j,r1.ref_inv,r2.int_inv,h1,by rw [<- q1.length];exact ej,f _ _ (c.lstSet h1 (q1.set r3 j)) (Le.lst h1) t⟩
   ·exact t.elim
  ·exact t.elim
 ·exact t.elim
end
inductive Sn where
 | non | bl (b:Bool) | int (i:Int) | str (x:Str) | tup (xs:List Sn) | lst (xs:List Sn)
def snap (G:Gp):Nat->D->Option Sn
 | _,.non=>some .non
 | _,.bl b=>some (.bl b)
 | _,.int i=>some (.int i)
 | _,.str x=>some (.str x)
 | n+1,.tup ds=>(ds.mapM (snap G n)).map .tup
 | n+1,.ref a=>(u19 (G a)).bind fun ds=>(ds.mapM (snap G n)).map .lst
 | _,_=>none
def u52:Sn->Bool
 | .non=>true | .bl _=>true | .int _=>true | .str _=>true | _=>false
def eqF:Sn->Sn->Bool
 | .non,.non=>true
 | .bl a,.bl b=>a == b
 | .bl a,.int b=>(if a then 1 else 0) == b
 | .int a,.bl b=>a == (if b then 1 else 0)
 | .int a,.int b=>a == b
 | .str a,.str b=>a == b
 | _,_=>false
def eqN:Nat->Sn->Sn->Option Bool
 | n+1,.tup xs,.tup ys=>if xs.length=ys.length then ((xs.zip ys).mapM fun p=>eqN n p.1 p.2).map fun bs=>bs.all id else none
 | n+1,.lst xs,.lst ys=>if xs.length=ys.length then ((xs.zip ys).mapM fun p=>eqN n p.1 p.2).map fun bs=>bs.all id else some false
 | _,x,y=>if (u52 x && u52 y)=true then some (eqF x y) else none
theorem u39 {α β:Type} {f:α->Option β}:∀ {xs:List α} {ys:List β},xs.mapM f=some ys->xs.length=ys.length /\ ∀ (i:Nat) x,xs[i]?=some x->∃ y,ys[i]?=some y /\ f x=some y
 | [],ys,h=>by
  have:ys=[]:=by simpa using h.symm
  subst this;exact ⟨rfl,fun i x e=>by simp at e⟩
 | x::xs,ys,h=>by
  rw [List.mapM_cons] at h;cases hx:f x with
  | none=>rw [hx] at h;cases h
  | some y =>
   rw [hx] at h;cases hr:xs.mapM f with
   | none=>rw [hr] at h;cases h
   | some r =>
    rw [hr] at h;have e:y::r=ys:=Option.some.inj h;subst e;obtain ⟨h1,h2⟩:=u39 hr;refine ⟨by simp [h1],fun i z e=>?_⟩;cases i with
    | zero=>cases (show x=z from Option.some.inj e);exact ⟨y,rfl,hx⟩
    | succ i=>exact h2 i z e
theorem ui9 {bs:List Bool} {e:Nat->Bool} {n:Nat} (hl:bs.length=n) (h:∀ (i:Nat) b,bs[i]?=some b->e i=b):(List.range n).all e=bs.all id:=by
 rw [Bool.eq_iff_iff,List.all_eq_true,List.all_eq_true]
 constructor
 ·intro q b hb
  obtain ⟨i,hi,eb⟩:=List.mem_iff_getElem.mp hb;have:=q i (List.mem_range.mpr (by omega));rw [h i b (by rw [List.getElem?_eq_getElem hi,eb])] at this;exact this
 ·intro q i hi
  have hi:=List.mem_range.mp hi;rw [h i bs[i] (List.getElem?_eq_getElem (by omega))];exact q _ (List.getElem_mem _)
section
variable {X:Cx} {pins:List (Addr × Obj)} {σ:L2.St} {H:Hp} {s:Shared} {G:Gp}
theorem us1 {n:Nat} {d:D} {sd:Sn} {x:V} {u:Value} (h:snap G n d=some sd) (fl:u52 sd=true) (r:RelD X.K H d x):uf4 x=true /\ ∀ (e:D) (se:Sn) (y:V),snap G n e=some se->u52 se=true->RelD X.K H e y->eqV x y=eqF sd se:=by
  have key:∀ (d:D) (sd:Sn) (x:V),snap G n d=some sd->u52 sd=true->RelD X.K H d x->(sd=.non /\ x=.non) \/ (∃ b,sd=.bl b /\ x=.bl b) \/ (∃ i,sd=.int i /\ x=.int i) \/ (∃ z,sd=.str z /\ x=.str z):=by
    intro d sd x h fl r;cases d with
    | non => have e : Sn.non = sd := by cases n <;> exact Option.some.inj h
             subst e;exact .inl ⟨rfl,r.non_inv⟩
    | bl b => have e : Sn.bl b = sd := by cases n <;> exact Option.some.inj h
              subst e;exact .inr (.inl ⟨b,rfl,r.bl_inv⟩)
    | int b => have e : Sn.int b = sd := by cases n <;> exact Option.some.inj h
               subst e;exact .inr (.inr (.inl ⟨b,rfl,r.int_inv⟩))
    | str b => have e : Sn.str b = sd := by cases n <;> exact Option.some.inj h
               subst e;exact .inr (.inr (.inr ⟨b,rfl,r.str_inv⟩))
    | tup ds =>
      cases n with
      | zero=>cases h
      | succ n =>
        have h:(ds.mapM (snap G n)).map Sn.tup=some sd:=h;obtain ⟨a,_,rfl⟩:=Option.map_eq_some_iff.mp h;cases fl
    | ref a =>
      cases n with
      | zero=>cases h
      | succ n =>
        have h:((u19 (G a)).bind fun ds=>(ds.mapM (snap G n)).map Sn.lst)=some sd:=h;obtain ⟨ds,_,h⟩:=Option.bind_eq_some_iff.mp h;obtain ⟨a,_,rfl⟩:=Option.map_eq_some_iff.mp h;cases fl
    | ty t=>cases n <;> cases h
  rcases key d sd x h fl r with ⟨rfl,rfl⟩ | ⟨b,rfl,rfl⟩ | ⟨b,rfl,rfl⟩ | ⟨b,rfl,rfl⟩ <;> refine ⟨rfl,fun e se y h' fl' r'=>?_⟩ <;>
    rcases key e se y h' fl' r' with ⟨rfl,rfl⟩ | ⟨c,rfl,rfl⟩ | ⟨c,rfl,rfl⟩ | ⟨c,rfl,rfl⟩ <;> rfl
theorem snap_tup {n:Nat} {ds:List D} {sd:Sn} (h:snap G n (.tup ds)=some sd):∃ m ss,n=m+1 /\ sd=.tup ss /\ ds.mapM (snap G m)=some ss:=by
 cases n with
 | zero=>cases h
 | succ n =>
  obtain ⟨ss,h1,rfl⟩:=Option.map_eq_some_iff.mp (show (ds.mapM (snap G n)).map Sn.tup=some sd from h);exact ⟨n,ss,rfl,rfl,h1⟩
theorem snap_ref {n:Nat} {a:Addr} {sd:Sn} (h:snap G n (.ref a)=some sd):∃ m ds ss,n=m+1 /\ sd=.lst ss /\ u19 (G a)=some ds /\ ds.mapM (snap G m)=some ss:=by
 cases n with
 | zero=>cases h
 | succ n =>
  obtain ⟨ds,h0,h⟩:=Option.bind_eq_some_iff.mp (show ((u19 (G a)).bind fun ds=>(ds.mapM (snap G n)).map Sn.lst)=some sd from h);obtain ⟨ss,h1,rfl⟩:=Option.map_eq_some_iff.mp h;exact ⟨n,ds,ss,rfl,rfl,h0,h1⟩
theorem uw6 {n:Nat} {x y:Sn} (hx:u52 x=true):eqN n x y=if (u52 x && u52 y)=true then some (eqF x y) else none:=by
 cases x with
 | tup _=>cases hx
 | lst _=>cases hx
 | non=>cases n <;> rfl
 | bl _=>cases n <;> rfl
 | int _=>cases n <;> rfl
 | str _=>cases n <;> rfl
theorem u92 {n:Nat} {x y:Sn} {b:Bool} (h:eqN n x y=some b) (fl:¬ (u52 x && u52 y)=true):(∃ m xs ys,n=m+1 /\ x=.tup xs /\ y=.tup ys) \/ (∃ m xs ys,n=m+1 /\ x=.lst xs /\ y=.lst ys):=by
 unfold eqN at h;split at h
 ·exact .inl ⟨_,_,_,rfl,rfl,rfl⟩
 ·exact .inr ⟨_,_,_,rfl,rfl,rfl⟩
 ·rw [if_neg fl] at h;cases h
theorem u69 {n:Nat} {d:D} {ss:List Sn} (h:snap G n d=some (.tup ss)):∃ ds,d=.tup ds:=by
 cases d with
 | tup ds=>exact ⟨ds,rfl⟩
 | ref a=>obtain ⟨_,_,_,_,e',_⟩:=snap_ref h;cases e'
 | _=>cases n <;> cases h
theorem u70 {n:Nat} {d:D} {ss:List Sn} (h:snap G n d=some (.lst ss)):∃ a,d=.ref a:=by
 cases d with
 | ref a=>exact ⟨a,rfl⟩
 | tup ds=>obtain ⟨_,_,_,e',_⟩:=snap_tup h;cases e'
 | _=>cases n <;> cases h
theorem un4 {n:Nat} {d e:D} {x:V} {sd se:Sn} {b:Bool} (r1:RelD X.K H d x) (r2:RelD X.K H e x) (h1:snap G n d=some sd) (h2:snap G n e=some se) (hb:eqN n sd se=some b) (fl:(u52 sd && u52 se)=true):b=true:=by
 rw [Bool.and_eq_true] at fl;have z:=hb;rw [uw6 fl.1,if_pos (by rw [fl.1,fl.2];rfl)] at z;obtain ⟨fx,k⟩:=us1 (u:=Value.none) h1 fl.1 r1;rw [<- Option.some.inj z,<- k e se x h2 fl.2 r2];cases x with
 | non=>rfl
 | bl b=>exact beq_self_eq_true b
 | int i=>exact beq_self_eq_true i
 | str w=>exact beq_self_eq_true w
 | _=>cases fx
theorem v31 (I:Inv X pins σ H s) (c:Con X.K G H):∀ (n:Nat) (d e:D) (x:V) (sd se:Sn) (b:Bool),RelD X.K H d x->RelD X.K H e x->snap G n d=some sd->snap G n e=some se->eqN n sd se=some b->b=true:=by
 intro n
 induction n with
 | zero =>
  intro d e x sd se b r1 r2 h1 h2 hb
  by_cases fl:(u52 sd && u52 se)=true
  ·exact un4 r1 r2 h1 h2 hb fl
  ·rcases u92 hb fl with ⟨_,_,_,z,_⟩ | ⟨_,_,_,z,_⟩ <;> cases z
 | succ m ih =>
  intro d e x sd se b r1 r2 h1 h2 hb
  by_cases fl:(u52 sd && u52 se)=true
  ·exact un4 r1 r2 h1 h2 hb fl
  have items:∀ (ds es:List D) (xs:List V) (ss ts:List Sn) (bs:List Bool),RelDs X.K H ds xs->RelDs X.K H es xs->ds.mapM (snap G m)=some ss->es.mapM (snap G m)=some ts->((ss.zip ts).mapM fun p=>eqN m p.1 p.2)=some bs->bs.all id=true:=by
   intro ds es xs ss ts bs q1 q2 k1 k2 kb;rw [List.all_eq_true];intro b hb;obtain ⟨i,hi,eb⟩:=List.mem_iff_getElem.mp hb;obtain ⟨l1,f1⟩:=u39 k1;obtain ⟨l2,f2⟩:=u39 k2;obtain ⟨l3,f3⟩:=u39 kb;have hz:(ss.zip ts).length=min ss.length ts.length:=List.length_zip;have e1:=q1.length;have e2:=q2.length;have hds:i < ds.length:=by omega
   have hes:i < es.length:=by omega
   obtain ⟨y1,g1,s1⟩:=f1 i ds[i] (List.getElem?_eq_getElem hds);obtain ⟨y2,g2,s2⟩:=f2 i es[i] (List.getElem?_eq_getElem hes);have hzip:(ss.zip ts)[i]?=some (y1,y2):=by rw [List.getElem?_zip_eq_some];exact ⟨g1,g2⟩
   obtain ⟨b',g3,s3⟩:=f3 i _ hzip;rw [List.getElem?_eq_getElem hi,eb] at g3;cases g3;obtain ⟨z1,hz1,rz1⟩:=q1.get (List.getElem?_eq_getElem hds);obtain ⟨z2,hz2,rz2⟩:=q2.get (List.getElem?_eq_getElem hes);rw [hz1] at hz2;cases hz2;exact ih ds[i] es[i] z1 y1 y2 b rz1 rz2 s1 s2 s3
  rcases u92 hb fl with ⟨m',ss,ts,em,rfl,rfl⟩ | ⟨m',ss,ts,em,rfl,rfl⟩
  ·cases em
   obtain ⟨ds,rfl⟩:=u69 h1;obtain ⟨es,rfl⟩:=u69 h2;obtain ⟨_,_,em,ez,k1⟩:=snap_tup h1;cases em;cases ez;obtain ⟨_,_,em,ez,k2⟩:=snap_tup h2;cases em;cases ez;obtain ⟨a,xs,rfl,q1,rr1⟩:=r1.tup_inv;obtain ⟨a',ys,e',q2,rr2⟩:=r2.tup_inv;cases e';have:=I.tuple_inj q1 q2;subst this;unfold eqN at hb;split at hb
   ·obtain ⟨bs,kb,rfl⟩:=Option.map_eq_some_iff.mp hb
    exact items ds es xs ss ts bs rr1 rr2 k1 k2 kb
   ·cases hb
  ·cases em
   obtain ⟨a,rfl⟩:=u70 h1;obtain ⟨a',rfl⟩:=u70 h2;cases r1.ref_inv;have e':=r2.ref_inv;cases e';obtain ⟨_,ds,_,em,ez,hs1,k1⟩:=snap_ref h1;cases em;cases ez;obtain ⟨_,es,_,em,ez,hs2,k2⟩:=snap_ref h2;cases em;cases ez;rw [hs1] at hs2;cases hs2;rw [k1] at k2;cases k2;obtain ⟨xs,_,rr⟩:=u26 c hs1;unfold eqN at hb;split at hb
   ·obtain ⟨bs,kb,rfl⟩:=Option.map_eq_some_iff.mp hb
    exact items ds ds xs ss ss bs rr rr k1 k1 kb
   ·rename_i h;exact absurd rfl h
structure SeqPair (G:Gp) (K:W.Frag) (H:Hp) (m:Nat) (its its2:List Value) (bs:List Bool):Prop where
 len:its.length=its2.length
 bl:bs.length=its.length
 at_:∀ (j:Nat) (h1:j < its.length) (h2:j < its2.length) (h3:j < bs.length),∃ d e x y sd se,RelD K H d x /\ RelV x its[j] /\ RelD K H e y /\ RelV y its2[j] /\ snap G m d=some sd /\ snap G m e=some se /\ eqN m sd se=some bs[j]
theorem ub4 {m:Nat} {ds es:List D} {xs ys:List V} {its its2:List Value} {ss ts:List Sn} {bs:List Bool} (q1:RelDs X.K H ds xs) (v1:Vals xs its) (q2:RelDs X.K H es ys) (v2:Vals ys its2)
  (k1:ds.mapM (snap G m)=some ss) (k2:es.mapM (snap G m)=some ts) (hl:ss.length=ts.length) (kb:((ss.zip ts).mapM fun p=>eqN m p.1 p.2)=some bs):SeqPair G X.K H m its its2 bs:=by
 obtain ⟨l1,f1⟩:=u39 k1;obtain ⟨l2,f2⟩:=u39 k2;obtain ⟨l3,f3⟩:=u39 kb;have hz:(ss.zip ts).length=min ss.length ts.length:=List.length_zip;have e1:=q1.length;have e2:=q2.length;have e3:=v1.length;have e4:=v2.length;refine ⟨by omega,by omega,fun j h1 h2 h3=>?_⟩;have hds:j < ds.length:=by omega
 have hes:j < es.length:=by omega
 obtain ⟨y1,g1,s1⟩:=f1 j ds[j] (List.getElem?_eq_getElem hds);obtain ⟨y2,g2,s2⟩:=f2 j es[j] (List.getElem?_eq_getElem hes);have hzip:(ss.zip ts)[j]?=some (y1,y2):=by rw [List.getElem?_zip_eq_some];exact ⟨g1,g2⟩
 obtain ⟨b',g3,s3⟩:=f3 j _ hzip;rw [List.getElem?_eq_getElem h3] at g3;cases g3;obtain ⟨z1,hz1,rz1⟩:=q1.get (List.getElem?_eq_getElem hds);obtain ⟨z2,hz2,rz2⟩:=q2.get (List.getElem?_eq_getElem hes);obtain ⟨u1,hu1,ru1⟩:=v1.get hz1;obtain ⟨u2,hu2,ru2⟩:=v2.get hz2;rw [List.getElem?_eq_getElem h1] at hu1;rw [List.getElem?_eq_getElem h2] at hu2;cases hu1;cases hu2;exact ⟨ds[j],es[j],z1,z2,y1,y2,rz1,ru1,rz2,ru2,s1,s2,s3⟩
end
section
variable {X:Cx} {pins:List (Addr × Obj)} {σ:L2.St} {H:Hp} {s:Shared} {G:Gp}
theorem v83 (I:Inv X pins σ H s) {n:Nat} {A:Around} {d e:D} {x y:V} {u v:Value} {sd se:Sn} {b:Bool} (r1:RelD X.K H d x) (v1:RelV x u) (r2:RelD X.K H e y) (v2:RelV y v) (h1:snap G n d=some sd) (h2:snap G n e=some se) (hb:eqN n sd se=some b) (fl:(u52 sd && u52 se)=true):SeqAt.EqAt A s u v b:=by
 rw [Bool.and_eq_true] at fl;have hb':b=eqF sd se:=by
  have z:=hb;rw [uw6 fl.1,if_pos (by rw [fl.1,fl.2];rfl)] at z;exact (Option.some.inj z).symm
 obtain ⟨fx,k⟩:=us1 (u:=u) h1 fl.1 r1;obtain ⟨fy,_⟩:=us1 (u:=v) h2 fl.2 r2;rw [hb',<- k e se y h2 fl.2 r2];exact vp9 v1 v2 fx fy
theorem vj3 (I:Inv X pins σ H s) (c:Con X.K G H):∀ (n:Nat) (A:Around) (d e:D) (x y:V) (u v:Value) (sd se:Sn) (b:Bool),RelD X.K H d x->RelV x u->RelD X.K H e y->RelV y v->snap G n d=some sd->snap G n e=some se->eqN n sd se=some b->A.units+n < cLine->SeqAt.EqAt A s u v b:=by
 intro n
 induction n with
 | zero =>
  intro A d e x y u v sd se b r1 v1 r2 v2 h1 h2 hb hu
  by_cases fl:(u52 sd && u52 se)=true
  ·exact v83 I r1 v1 r2 v2 h1 h2 hb fl
  ·rcases u92 hb fl with ⟨_,_,_,z,_⟩ | ⟨_,_,_,z,_⟩ <;> cases z
 | succ m ih =>
  intro A d e x y u v sd se b r1 v1 r2 v2 h1 h2 hb hu
  by_cases fl:(u52 sd && u52 se)=true
  ·exact v83 I r1 v1 r2 v2 h1 h2 hb fl
  ·have inner:∀ (its its2:List Value) (bs:List Bool),SeqPair G X.K H m its its2 bs->∀ j (h1:j < its.toArray.size) (h2:j < its2.toArray.size),SeqAt.EqAt A.in1 s its.toArray[j] its2.toArray[j] ((bs[j]?).getD true):=by
    intro its its2 bs P j h1 h2;have h1':j < its.length:=by simpa using h1
    have h2':j < its2.length:=by simpa using h2
    have h3':j < bs.length:=by rw [P.bl];exact h1'
    obtain ⟨d',e',x',y',sd',se',a1,a2,a3,a4,a5,a6,a7⟩:=P.at_ j h1' h2' h3'
    rw [List.getElem?_eq_getElem h3'];have hu':A.in1.units+m < cLine:=by
     have:A.in1.units=A.units+1:=rfl;omega
    have:=ih A.in1 d' e' x' y' _ _ sd' se' _ a1 a2 a3 a4 a5 a6 a7 hu';simpa using this
   rcases u92 hb fl with ⟨m',ss,ts,em,rfl,rfl⟩ | ⟨m',ss,ts,em,rfl,rfl⟩
   ·cases em
    obtain ⟨ds,rfl⟩:=u69 h1;obtain ⟨es,rfl⟩:=u69 h2;obtain ⟨_,_,em,ez,k1⟩:=snap_tup h1;cases em;cases ez;obtain ⟨_,_,em,ez,k2⟩:=snap_tup h2;cases em;cases ez;obtain ⟨a,xs,rfl,q1,rr1⟩:=r1.tup_inv;obtain ⟨a',ys,rfl,q2,rr2⟩:=r2.tup_inv;cases v1;cases v2
    by_cases haa:a=a'
    ·subst haa
     rw [v31 I c (m+1) (.tup ds) (.tup es) (.ref a) _ _ b r1 r2 h1 h2 hb];exact SeqAt.EqAt.same _
    ·unfold eqN at hb
     split at hb
     ·rename_i hlen
      obtain ⟨bs,kb,rfl⟩:=Option.map_eq_some_iff.mp hb;obtain ⟨its,w1,t1,_⟩:=I.tuple q1;obtain ⟨its2,w2,t2,_⟩:=I.tuple q2;have P:=ub4 rr1 w1 rr2 w2 k1 k2 hlen kb;have R:=SeqAt.RcAt.tuples (A:=A) (s:=s) (e:=fun j=>(bs[j]?).getD true) (show s.heap.IsTuple a its.toArray from t1) (show s.heap.IsTuple a' its2.toArray from t2) (by omega) (inner its its2 bs P);have e1:((List.range (min its.toArray.size its2.toArray.size)).all (fun j=>(bs[j]?).getD true) && its.toArray.size == its2.toArray.size)=bs.all id:=by
       have el:its.toArray.size=its2.toArray.size:=by simpa using P.len
       rw [el,Nat.min_self,beq_self_eq_true,Bool.and_true];exact ui9 (by rw [<- el];simpa using P.bl) fun i b hb=>by rw [hb];rfl
      rw [e1] at R;exact SeqAt.EqAt.of_refs haa R
     ·cases hb
   ·cases em
    obtain ⟨a,rfl⟩:=u70 h1;obtain ⟨a',rfl⟩:=u70 h2;obtain ⟨_,ds,_,em,ez,hs1,k1⟩:=snap_ref h1;cases em;cases ez;obtain ⟨_,es,_,em,ez,hs2,k2⟩:=snap_ref h2;cases em;cases ez;cases r1.ref_inv;cases r2.ref_inv;cases v1;cases v2
    by_cases haa:a=a'
    ·subst haa
     rw [v31 I c (m+1) (.ref a) (.ref a) (.ref a) _ _ b r1 r2 h1 h2 hb];exact SeqAt.EqAt.same _
    ·obtain ⟨xs,q1,rr1⟩:=u26 c hs1
     obtain ⟨ys,q2,rr2⟩:=u26 c hs2;obtain ⟨its,w1,t1,_⟩:=I.list q1;obtain ⟨its2,w2,t2,_⟩:=I.list q2;unfold eqN at hb;split at hb
     ·rename_i hlen
      obtain ⟨bs,kb,rfl⟩:=Option.map_eq_some_iff.mp hb;have P:=ub4 rr1 w1 rr2 w2 k1 k2 hlen kb;have el:its.toArray.size=its2.toArray.size:=by simpa using P.len
      have R:=SeqAt.RcAt.lists (A:=A) (s:=s) (e:=fun j=>(bs[j]?).getD true) t1.isList t2.isList el (by omega) (inner its its2 bs P);have e1:((List.range its.toArray.size).all (fun j=>(bs[j]?).getD true))=bs.all id :=
       ui9 (by simpa using P.bl) fun i b hb=>by rw [hb];rfl
      rw [e1] at R;exact SeqAt.EqAt.of_refs haa R
     ·rename_i hlen
      cases hb;have n1:=(u39 k1).1;have n2:=(u39 k2).1;have m1:=rr1.length;have m2:=rr2.length;have m3:=w1.length;have m4:=w2.length;exact SeqAt.EqAt.of_refs haa (SeqAt.RcAt.lists_lengths t1.isList t2.isList (by simp;omega) (by omega))
end
def rEqD (K:W.Frag) (neg:Bool):R2:=fun x y H Q=>∃ (d e:D) (G:Gp) (n:Nat) (sd se:Sn) (b:Bool),RelD K H d x /\ RelD K H e y /\ Con K G H /\ n<=40 /\ snap G n d=some sd /\ snap G n e=some se /\ eqN n sd se=some b /\ u52 sd=false /\ Q (.bl (if neg then !b else b)) H
section
variable {X:Cx} {k:Nat}
theorem we5 (hr:Room k X.A):OpR X (compareOp .Eq) (rEqD X.K false):=by
  intro pins s σ H x y v u Q I rx ry h;obtain ⟨d,e,G,n,sd,se,b,r1,r2,c,hn,h1,h2,hb,fl,q⟩:=h;have hu:=hr.units;have fin:EP X pins σ Q (.bool b) s:=⟨.bl b,H,I,rfl,q⟩
  rcases u92 hb (fun z=>by rw [fl] at z;cases z) with ⟨m,ss,ts,rfl,rfl,rfl⟩ | ⟨m,ss,ts,rfl,rfl,rfl⟩
  · obtain ⟨ds,rfl⟩:=u69 h1
    obtain ⟨es,rfl⟩:=u69 h2
    · · · obtain ⟨_,ss',em,ez,k1⟩ := snap_tup h1
          cases em;cases ez;obtain ⟨m',ts',em,es',k2⟩:=snap_tup h2;cases em;cases es';obtain ⟨a,xs,rfl,q1,rr1⟩:=r1.tup_inv;obtain ⟨a',ys,rfl,q2,rr2⟩:=r2.tup_inv;cases rx;cases ry;unfold eqN at hb;split at hb
          · rename_i hlen
            obtain ⟨bs,kb,rfl⟩:=Option.map_eq_some_iff.mp hb;obtain ⟨its,w1,t1,_⟩:=I.tuple q1;obtain ⟨its2,w2,t2,_⟩:=I.tuple q2;have P:=ub4 rr1 w1 rr2 w2 k1 k2 hlen kb;refine SeqAt.eq_tupleAt (e:=fun j=>(bs[j]?).getD true) (show s.heap.IsTuple a its.toArray from t1) (show s.heap.IsTuple a' its2.toArray from t2) (by omega) ?_ ?_
            · intro j h1 h2
              have h1':j < its.length:=by simpa using h1
              have h2':j < its2.length:=by simpa using h2
              have h3':j < bs.length:=by rw [P.bl];exact h1'
              obtain ⟨d',e',x',y',sd',se',a1,a2,a3,a4,a5,a6,a7⟩:=P.at_ j h1' h2' h3'
              rw [List.getElem?_eq_getElem h3'];have:=vj3 I c m X.A.in1 d' e' x' y' _ _ sd' se' _ a1 a2 a3 a4 a5 a6 a7 (by have:X.A.in1.units=X.A.units+1:=rfl;omega);simpa using this
            · have e1 : ((List.range (min its.toArray.size its2.toArray.size)).all (fun j => (bs[j]?).getD true) && its.toArray.size == its2.toArray.size) = bs.all id := by
                have el:its.toArray.size=its2.toArray.size:=by simpa using P.len
                rw [el,Nat.min_self,beq_self_eq_true,Bool.and_true];exact ui9 (by rw [<- el];simpa using P.bl) fun i b hb=>by rw [hb];rfl
              rw [e1];exact fin
          · cases hb
  · obtain ⟨a,rfl⟩:=u70 h1
    obtain ⟨a',rfl⟩:=u70 h2
    · · · obtain ⟨_,ds,ss',em,ez,hs1,k1⟩ := snap_ref h1
          cases em;cases ez;obtain ⟨m',es,ts',em,es',hs2,k2⟩:=snap_ref h2;cases em;cases es';cases r1.ref_inv;cases r2.ref_inv;cases rx;cases ry;obtain ⟨xs,q1,rr1⟩:=u26 c hs1;obtain ⟨ys,q2,rr2⟩:=u26 c hs2;obtain ⟨its,w1,t1,_⟩:=I.list q1;obtain ⟨its2,w2,t2,_⟩:=I.list q2;unfold eqN at hb;split at hb
          · rename_i hlen
            obtain ⟨bs,kb,rfl⟩:=Option.map_eq_some_iff.mp hb;have P:=ub4 rr1 w1 rr2 w2 k1 k2 hlen kb;have el:its.toArray.size=its2.toArray.size:=by simpa using P.len
            refine SeqAt.eq_listAt (e:=fun j=>(bs[j]?).getD true) t1.isList t2.isList el (by omega) ?_ ?_
            · intro j h1 h2
              have h1':j < its.length:=by simpa using h1
              have h2':j < its2.length:=by simpa using h2
              have h3':j < bs.length:=by rw [P.bl];exact h1'
              obtain ⟨d',e',x',y',sd',se',a1,a2,a3,a4,a5,a6,a7⟩:=P.at_ j h1' h2' h3'
              rw [List.getElem?_eq_getElem h3'];have:=vj3 I c m X.A.in1 d' e' x' y' _ _ sd' se' _ a1 a2 a3 a4 a5 a6 a7 (by have:X.A.in1.units=X.A.units+1:=rfl;omega);simpa using this
            · have e1 : ((List.range its.toArray.size).all (fun j => (bs[j]?).getD true)) = bs.all id :=
                ui9 (by simpa using P.bl) fun i b hb=>by rw [hb];rfl
              rw [e1];exact fin
          · rename_i hlen
            cases hb;have n1:=(u39 k1).1;have n2:=(u39 k2).1;have m1:=rr1.length;have m2:=rr2.length;have m3:=w1.length;have m4:=w2.length;exact SeqAt.eq_list_lengthsAt t1.isList t2.isList (by simp;omega) (by omega) fin
theorem we3 (hr:Room k X.A):OpR X (compareOp .NotEq) (rEqD X.K true):=by
  intro pins s σ H x y v u Q I rx ry h;obtain ⟨d,e,G,n,sd,se,b,r1,r2,c,hn,h1,h2,hb,fl,q⟩:=h;have hu:=hr.units;have fin:EP X pins σ Q (.bool (!b)) s:=⟨.bl (!b),H,I,rfl,q⟩
  rcases u92 hb (fun z=>by rw [fl] at z;cases z) with ⟨m,ss,ts,rfl,rfl,rfl⟩ | ⟨m,ss,ts,rfl,rfl,rfl⟩
  · obtain ⟨ds,rfl⟩:=u69 h1
    obtain ⟨es,rfl⟩:=u69 h2
    · · · obtain ⟨_,ss',em,ez,k1⟩ := snap_tup h1
          cases em;cases ez;obtain ⟨m',ts',em,es',k2⟩:=snap_tup h2;cases em;cases es';obtain ⟨a,xs,rfl,q1,rr1⟩:=r1.tup_inv;obtain ⟨a',ys,rfl,q2,rr2⟩:=r2.tup_inv;cases rx;cases ry;unfold eqN at hb;split at hb
          · rename_i hlen
            obtain ⟨bs,kb,rfl⟩:=Option.map_eq_some_iff.mp hb;obtain ⟨its,w1,t1,_⟩:=I.tuple q1;obtain ⟨its2,w2,t2,_⟩:=I.tuple q2;have P:=ub4 rr1 w1 rr2 w2 k1 k2 hlen kb;refine SeqAt.RcNeAt.tuples (e:=fun j=>(bs[j]?).getD true) (show s.heap.IsTuple a its.toArray from t1) (show s.heap.IsTuple a' its2.toArray from t2) (by omega) ?_ X.prog X.w X.xe _ ?_
            · intro j h1 h2
              have h1':j < its.length:=by simpa using h1
              have h2':j < its2.length:=by simpa using h2
              have h3':j < bs.length:=by rw [P.bl];exact h1'
              obtain ⟨d',e',x',y',sd',se',a1,a2,a3,a4,a5,a6,a7⟩:=P.at_ j h1' h2' h3'
              rw [List.getElem?_eq_getElem h3'];have:=vj3 I c m X.A.in1 d' e' x' y' _ _ sd' se' _ a1 a2 a3 a4 a5 a6 a7 (by have:X.A.in1.units=X.A.units+1:=rfl;omega);simpa using this
            · have e1 : ((List.range (min its.toArray.size its2.toArray.size)).all (fun j => (bs[j]?).getD true) && its.toArray.size == its2.toArray.size) = bs.all id := by
                have el:its.toArray.size=its2.toArray.size:=by simpa using P.len
                rw [el,Nat.min_self,beq_self_eq_true,Bool.and_true];exact ui9 (by rw [<- el];simpa using P.bl) fun i b hb=>by rw [hb];rfl
              rw [e1];exact fin
          · cases hb
  · obtain ⟨a,rfl⟩:=u70 h1
    obtain ⟨a',rfl⟩:=u70 h2
    · · · obtain ⟨_,ds,ss',em,ez,hs1,k1⟩ := snap_ref h1
          cases em;cases ez;obtain ⟨m',es,ts',em,es',hs2,k2⟩:=snap_ref h2;cases em;cases es';cases r1.ref_inv;cases r2.ref_inv;cases rx;cases ry;obtain ⟨xs,q1,rr1⟩:=u26 c hs1;obtain ⟨ys,q2,rr2⟩:=u26 c hs2;obtain ⟨its,w1,t1,_⟩:=I.list q1;obtain ⟨its2,w2,t2,_⟩:=I.list q2;unfold eqN at hb;split at hb
          · rename_i hlen
            obtain ⟨bs,kb,rfl⟩:=Option.map_eq_some_iff.mp hb;have P:=ub4 rr1 w1 rr2 w2 k1 k2 hlen kb;have el:its.toArray.size=its2.toArray.size:=by simpa using P.len
            refine SeqAt.RcNeAt.lists (e:=fun j=>(bs[j]?).getD true) t1.isList t2.isList el (by omega) ?_ X.prog X.w X.xe _ ?_
            · intro j h1 h2
              have h1':j < its.length:=by simpa using h1
              have h2':j < its2.length:=by simpa using h2
              have h3':j < bs.length:=by rw [P.bl];exact h1'
              obtain ⟨d',e',x',y',sd',se',a1,a2,a3,a4,a5,a6,a7⟩:=P.at_ j h1' h2' h3'
              rw [List.getElem?_eq_getElem h3'];have:=vj3 I c m X.A.in1 d' e' x' y' _ _ sd' se' _ a1 a2 a3 a4 a5 a6 a7 (by have:X.A.in1.units=X.A.units+1:=rfl;omega);simpa using this
            · have e1 : ((List.range its.toArray.size).all (fun j => (bs[j]?).getD true)) = bs.all id :=
                ui9 (by simpa using P.bl) fun i b hb=>by rw [hb];rfl
              rw [e1];exact fin
          · rename_i hlen
            cases hb;have n1:=(u39 k1).1;have n2:=(u39 k2).1;have m1:=rr1.length;have m2:=rr2.length;have m3:=w1.length;have m4:=w2.length;exact SeqAt.RcNeAt.lists_lengths t1.isList t2.isList (by simp;omega) (by omega) X.prog X.w X.xe _ fin
end
structure FnAt (K:W.Frag) (x qual:Str) (st:Stmt) (ps:List Str) where
 a:Addr
 fd:FuncData
 ex:∃ (oc:Value) (od:Option Addr) (dV kV doc pm:Value) (an:Option Addr) (cdv ct:Value) (osl:Array (Option Value)),
  fd=W.fnOf x qual (u61 st) (u53 st) (u04 st) dV kV doc pm an cdv ct /\ K.lookup a=some ⟨oc,od,.func fd,osl⟩ /\ W.codeIn K cdv qual=true
 kp:W.keepIn K (.ref a)=true
 b:Binds K fd ps []
abbrev Ok (P:Program) (w:World) {K:W.Frag} (mg:Str->Option Value) (base:Heap) (n:Nat) {x qual:Str} {st:Stmt} {ps:List Str} (d:FnAt K x qual st ps) (S:Sp3):Prop:=FnOk P w K mg base CX0 n d.a d.fd ps (u93 K S)
def um4 (N:List Str) (ds:List D):DSt:=ds.map some++List.replicate (N.length - ds.length) none
theorem uy0 {K:W.Frag} {H:Hp} {N:List Str} {ds:List D} {vs:List V} (r:RelDs K H ds vs):RelSt K H (um4 N ds) (L2.start N vs):=by
 unfold um4 L2.start;refine ⟨by simp [r.length],fun i d e=>?_⟩
 by_cases hi:i < ds.length
 ·rw [List.getElem?_append_left (by simpa using hi),List.getElem?_map] at e
  rw [List.getElem?_append_left (by simpa [<- r.length] using hi),List.getElem?_map];cases h:ds[i]? with
  | none=>rw [h] at e;cases e
  | some d' =>
   rw [h] at e;cases e;obtain ⟨v,hv,rv⟩:=r.get h;exact ⟨v,by rw [hv];rfl,rv⟩
 ·rw [List.getElem?_append_right (by simpa using hi),List.getElem?_replicate] at e
  split at e <;> cases e
section
variable {P:Program} {w:World} {K:W.Frag} {mg:Str->Option Value} {base:Heap}
theorem u12 {x qual:Str} {st:Stmt} {ps N:List Str} {k:Nat} (d:FnAt K x qual st ps) {S:Sp3} (sc:FnScope N ps (u04 st)) (hl:∀ ds G R,S ds G R->ds.length=ps.length) {t:TS3}
  (ht:∀ (cdv:Value) (A:Around) (outer:List Env) (s:Shared) (H:Hp) (E:XK),Room k (A.deeper (envOfC qual (u04 st) s.heap.objs.size d.a cdv))->Ss3 (cxOf CX0 P w K mg base N qual (u04 st) d.a cdv A outer s H E).nox (u53 st) t)
  (hb:∀ ds G R,S ds G R->t { nx:=fun _ G'=>R .non G',rt:=R } (um4 N ds) G):Ok P w mg base (k+1) d S:=by
 obtain ⟨oc,od,dV,kV,doc,pm,an,cdv,ct,osl,e,lk,hcd⟩:=d.ex;have lk':K.lookup d.a=some ⟨oc,od,.func (W.fnOf x qual (u61 st) (u53 st) (u04 st) dV kV doc pm an cdv ct),osl⟩:=e ▸ lk;have F:FnOk P w K mg base CX0 (k+1) d.a (W.fnOf x qual (u61 st) (u53 st) (u04 st) dV kV doc pm an cdv ct) ps (u93 K S):=by
  refine ww5 lk' hcd sc (fun vs H Q E h=>?_) fun A outer s H vs Q E hr h=>?_
  ·obtain ⟨ds,G,R,r,_,hS,_⟩:=h
   rw [<- r.length];exact hl ds G R hS
  ·obtain ⟨ds,G,R,r,c,hS,f⟩:=h
   refine ⟨_,(show PSs _ _ _ from ht cdv A outer s H E hr).nox,um4 N ds,G,_,uy0 r,c,hb ds G R hS,fun σd' G' σ' H' _ c' l' q=>?_,f,fun _ _ _ _ _ _ _ q=>q.elim,fun _ _ _ _ _ _ _ q=>q.elim⟩;exact f .non G' .non H' RelD.nonI c' l' q
 have F2:=F;rw [<- e] at F2;exact F2
end
section
variable {X:Cx} {e o:Expr} {es:List Expr} {p pos apos:Pos} {ta:TE3} {ts:TA3} {k n:Nat} {S:Sp3} {x m qual:Str} {st:Stmt} {ps:List Str} {C:Addr}
theorem ec (d:FnAt X.K x qual st ps) (hm:X.mg x=some (.ref d.a)) (G:FnOk X.prog X.w X.K X.mg X.base CX0 k d.a d.fd ps (u93 X.K S)) (hr:Room k X.A) (ha:A3 X (e::es) ts) (hg:Gl X x:=by rfl) (hdb:(x == ("__debug__" : Str))=false:=by decide)
  (he:starEach (e::es) X.env=(false,eval e X.env)::starEach es X.env:=by rfl) (hpl:(backTo pos (starEach es X.env)).any (·.1)=false:=by rfl):E3 X (.Call (.Name x p) (e::es) [] pos) (dCall S [] ts) :=
 wo1 G hr hg hm d.kp d.b .nil (fun _=>.nil) ha hdb he hpl
theorem em {pl:Sem Bool} (c:Cls X.K C) (d:FnAt X.K m qual st ps) (hm:Meth X.K C m d.a) (G:FnOk X.prog X.w X.K X.mg X.base CX0 k d.a d.fd ps (u93 X.K S)) (hr:Room k X.A) (he:E3 X o ta) (ha:A3 X (e::es) ts)
  (hse:starEach (e::es) X.env=(false,eval e X.env)::starEach es X.env:=by rfl) (hpl:(backTo pos (starEach es X.env)).any (·.1)=false:=by rfl)
  (ht:eval (.Call (.Attribute o m apos) (e::es) [] pos) X.env=(do
   let ov <- eval o X.env
   standAt apos.atName
   let (f,first) <- holding [ov] (getMethod ov m pl)
   callWith pos f first (backTo pos (starEach (e::es) X.env)) (backToKw pos (keywordEach [] X.env))):=by rfl):E3 X (.Call (.Attribute o m apos) (e::es) [] pos) (ug4 C m S [] ta ts) :=
 wn8 he c hm G hr d.b .nil (fun _=>.nil) ha hse hpl ht
theorem em0 {pl:Sem Bool} (c:Cls X.K C) (d:FnAt X.K m qual st ps) (hm:Meth X.K C m d.a) (G:FnOk X.prog X.w X.K X.mg X.base CX0 k d.a d.fd ps (u93 X.K S)) (hr:Room k X.A) (he:E3 X o ta)
  (ht:eval (.Call (.Attribute o m apos) [] [] pos) X.env=(do
   let ov <- eval o X.env
   standAt apos.atName
   let (f,first) <- holding [ov] (getMethod ov m pl)
   callWith pos f first (backTo pos (starEach [] X.env)) (backToKw pos (keywordEach [] X.env))):=by rfl):E3 X (.Call (.Attribute o m apos) [] [] pos) (ug4 C m S [] ta dNil) :=
 w36 he c hm G hr d.b .nil (fun _=>.nil) ht
end
def spec (pre:List D->Gp->Prop) (post:List D->Gp->D->Gp->Prop):Sp3:=fun ds G R=>pre ds G /\ ∀ d G',post ds G d G'->R d G'
theorem v27 {pre:List D->Gp->Prop} {post:List D->Gp->D->Gp->Prop} {ds:List D} {G:Gp} {q:DK} (h:pre ds G) (k:∀ d G',post ds G d G'->q d G'):∃ R,spec pre post ds G R /\ ∀ d G',R d G'->q d G' :=
 ⟨post ds G,⟨h,fun _ _ z=>z⟩,k⟩
def wo8 (osc:Scope) (N N':List Str) (ix:List (Option Nat)) (scope:Scope):Bool :=
 (scope.kind == .function) && scope.names.all (fun y=>y.2 != .cell) && scope.names.all (fun y=>y.2 != .local || scope.names.lookup y.1 == some .local) &&
 scope.names.all (fun y=>y.2 != .free || osc.names.lookup y.1 == some .cell || osc.names.lookup y.1 == some .free) && (ix.length == N'.length) &&
 (N'.zip ix).all (fun p=>match p.2 with | none=>true | some j=>N[j]? == some p.1 && scope.names.lookup p.1 == some .free)
theorem blk {X:Cx} {osc:Scope} {N N':List Str} {ix:List (Option Nat)} {scope:Scope} (h1:X.env.scope=osc) (h2:X.N=N) (h:wo8 osc N N' ix scope=true):BlkOk X N' ix scope:=by
 unfold wo8 at h;simp only [Bool.and_eq_true] at h;obtain ⟨⟨⟨⟨⟨a1,a2⟩,a3⟩,a4⟩,a5⟩,a6⟩:=h;rw [List.all_eq_true] at a2 a3 a4 a6;refine ⟨eq_of_beq a1,fun y hy=>by simpa using a2 y hy,fun y hy e=>?_,fun y hy e=>?_,eq_of_beq a5,fun i j x e1 e2=>?_⟩
 ·have:=a3 y hy
  simp only [e,bne_self_eq_false,Bool.false_or] at this;exact eq_of_beq this
 ·have:=a4 y hy
  simp only [e,bne_self_eq_false,Bool.false_or,Bool.or_eq_true,beq_iff_eq] at this;unfold Env.kindOf;rw [h1];exact this
 ·have hz:(N'.zip ix)[i]?=some (x,some j):=by rw [List.getElem?_zip_eq_some];exact ⟨e1,e2⟩
  have:=a6 _ (List.mem_of_getElem? hz);simp only [Bool.and_eq_true,beq_iff_eq] at this;rw [h2];exact this
section
variable {X:Cx} {K:W.Frag} {H:Hp}
def ut5:RS3:=fun x lo hi G q=>match x with
 | .ref a=>(match u19 (G a) with | some ds=>∀ p,G p=none->q (.ref p) (gup G p (.lst (cutD ds lo hi))) | none=>False)
 | .tup ds=>¬ (HT.sIx ds.length 0 lo=0 /\ HT.sIx ds.length ds.length hi=ds.length) /\ q (.tup (cutD ds lo hi)) G
 | _=>False
theorem x_sl:SlR X (vi5 X.K ut5):=vl5 (sl_list.or wa0) <| by
 rintro x lo hi H Q ⟨d,G,q,r1,c,t,f⟩;unfold ut5 at t;split at t
 ·rename_i a
  split at t
  ·rename_i ds e
   obtain ⟨xs,s1,q1⟩:=u26 c e;exact .inl ⟨a,xs,r1.ref_inv,s1,fun p hp=>f _ _ _ _ RelD.refI (c.lstNew hp (q1.cut lo hi)) (Le.fresh hp) (t p (c.fresh hp))⟩
  ·exact t.elim
 ·rename_i ds
  obtain ⟨a,xs,rfl,s1,q1⟩:=r1.tup_inv;refine .inr ⟨a,xs,rfl,s1,by rw [<- q1.length];exact t.1,fun p hp=>?_⟩;refine f (.tup _) G (.ref p) _ ?_ (c.side hp) (Le.fresh hp) t.2;rw [RelD];exact ⟨p,_,rfl,SqT.of u24,RelDs.le (Le.fresh hp) (q1.cut lo hi)⟩
 ·exact t.elim
def xLen:C3:=fun ds G q=>match ds with
 | [.str z]=>z.length<=sizeLine /\ q (.int z.length) G
 | [.tup xs]=>q (.int xs.length) G
 | [.ref a]=>(match u19 (G a) with | some xs=>q (.int xs.length) G | none=>False)
 | _=>False
theorem RelDs.one {d:D} {vs:List V} (h:RelDs K H [d] vs):∃ v,vs=[v] /\ RelD K H d v:=by
 obtain ⟨x,r,rfl,h1,h2⟩:=h.inv_cons;rw [h2.inv_nil];exact ⟨x,rfl,h1⟩
theorem RelDs.two {d e:D} {vs:List V} (h:RelDs K H [d,e] vs):∃ v u,vs=[v,u] /\ RelD K H d v /\ RelD K H e u:=by
 obtain ⟨x,r,rfl,h1,h2⟩:=h.inv_cons;obtain ⟨y,rfl,h3⟩:=h2.one;exact ⟨x,y,rfl,h1,h3⟩
theorem ua3:Call3 X (.builtin "len") xLen:=u54 (call_len_seq.or up5) <| by
 rintro xs H Q ⟨ds,G,q,r,c,t,f⟩;unfold xLen at t;split at t
 ·obtain ⟨v,rfl,r1⟩:=r.one
  cases r1.str_inv;exact .inr ⟨_,rfl,t.1,f _ _ _ _ RelD.intI c (Le.refl H) t.2⟩
 ·obtain ⟨v,rfl,r1⟩:=r.one
  obtain ⟨a,ys,rfl,s1,q1⟩:=r1.tup_inv;refine .inl ⟨a,ys,rfl,.inr s1,?_⟩;rw [<- q1.length];exact f _ _ _ _ RelD.intI c (Le.refl H) t
 ·obtain ⟨v,rfl,r1⟩:=r.one
  cases r1.ref_inv;split at t
  ·rename_i ds e
   obtain ⟨ys,s1,q1⟩:=u26 c e;refine .inl ⟨_,ys,rfl,.inl s1,?_⟩;rw [<- q1.length];exact f _ _ _ _ RelD.intI c (Le.refl H) t
  ·exact t.elim
 ·exact t.elim
def xAbs:C3:=fun ds G q=>match ds with | [.int i]=>q (.int (if i < 0 then -i else i)) G | _=>False
theorem wt7:Call3 X (.builtin "abs") xAbs:=u54 vk3 <| by
 rintro xs H Q ⟨ds,G,q,r,c,t,f⟩;unfold xAbs at t;split at t
 ·obtain ⟨v,rfl,r1⟩:=r.one
  cases r1.int_inv;exact ⟨_,rfl,f _ _ _ _ RelD.intI c (Le.refl H) t⟩
 ·exact t.elim
def uq6:C3:=fun ds G q=>match ds with | [.int i,.int j]=>CDiv i j /\ q (.tup [.int (i / j),.int (i % j)]) G | _=>False
theorem vc5:Call3 X (.builtin "divmod") uq6:=u54 us6 <| by
 rintro xs H Q ⟨ds,G,q,r,c,t,f⟩;unfold uq6 at t;split at t
 ·obtain ⟨v,u,rfl,r1,r2⟩:=r.two
  cases r1.int_inv;cases r2.int_inv;refine ⟨_,_,rfl,t.1,fun p hp=>f (.tup _) G (.ref p) _ ?_ (c.side hp) (Le.fresh hp) t.2⟩;rw [RelD];exact ⟨p,_,rfl,SqT.of u24,.cons RelD.intI (.cons RelD.intI .nil)⟩
 ·exact t.elim
def wt8:C3:=fun ds G q=>match ds with | [.int i,.int j]=>q (.int (if j > i then j else i)) G | _=>False
def vq8:C3:=fun ds G q=>match ds with | [.int i,.int j]=>q (.int (if j < i then j else i)) G | _=>False
theorem w74 (hc:X.calm=true:=by rfl):Call3 X (.builtin "min") vq8:=u54 (va4 hc) <| by
 rintro xs H Q ⟨ds,G,q,r,c,t,f⟩;unfold vq8 at t;split at t
 ·obtain ⟨v,u,rfl,r1,r2⟩:=r.two
  cases r1.int_inv;cases r2.int_inv;exact ⟨_,_,rfl,f _ _ _ _ RelD.intI c (Le.refl H) t⟩
 ·exact t.elim
def ut4:C3:=fun ds G q=>match ds with | [.int i]=>q (.int i) G | [.bl b]=>q (.int (if b then 1 else 0)) G | _=>False
theorem uq3:Call3 X (.type "int") ut4:=u54 va5 <| by
 rintro xs H Q ⟨ds,G,q,r,c,t,f⟩;unfold ut4 at t;split at t
 ·obtain ⟨v,rfl,r1⟩:=r.one
  cases r1.int_inv;exact .inl ⟨_,rfl,f _ _ _ _ RelD.intI c (Le.refl H) t⟩
 ·obtain ⟨v,rfl,r1⟩:=r.one
  cases r1.bl_inv;exact .inr ⟨_,rfl,f _ _ _ _ RelD.intI c (Le.refl H) t⟩
 ·exact t.elim
def uj1:C3:=fun ds G q=>match ds with
 | [.tup xs]=>∀ p,G p=none->q (.ref p) (gup G p (.lst xs))
 | [.ref a]=>(match u19 (G a) with | some xs=>∀ p,G p=none->q (.ref p) (gup G p (.lst xs)) | none=>False)
 | _=>False
theorem ud0:Call3 X (.type "list") uj1:=u54 up4 <| by
 rintro xs H Q ⟨ds,G,q,r,c,t,f⟩;unfold uj1 at t;split at t
 ·obtain ⟨v,rfl,r1⟩:=r.one
  obtain ⟨a,ys,rfl,s1,q1⟩:=r1.tup_inv;exact ⟨a,ys,rfl,.inr s1,fun p hp=>f _ _ _ _ RelD.refI (c.lstNew hp q1) (Le.fresh hp) (t p (c.fresh hp))⟩
 ·obtain ⟨v,rfl,r1⟩:=r.one
  cases r1.ref_inv;split at t
  ·rename_i ds e
   obtain ⟨ys,s1,q1⟩:=u26 c e;exact ⟨_,ys,rfl,.inl s1,fun p hp=>f _ _ _ _ RelD.refI (c.lstNew hp q1) (Le.fresh hp) (t p (c.fresh hp))⟩
  ·exact t.elim
 ·exact t.elim
def ua4:C3:=fun ds G q=>match ds with
 | [.tup xs]=>q (.tup xs) G
 | [.ref a]=>(match u19 (G a) with | some xs=>q (.tup xs) G | none=>False)
 | _=>False
theorem ue0:Call3 X (.type "tuple") ua4:=u54 ul3 <| by
 rintro xs H Q ⟨ds,G,q,r,c,t,f⟩;unfold ua4 at t;split at t
 ·obtain ⟨v,rfl,r1⟩:=r.one
  obtain ⟨a,ys,rfl,s1,q1⟩:=r1.tup_inv;exact ⟨a,ys,rfl,.inr ⟨s1,f _ _ _ _ r1 c (Le.refl H) t⟩⟩
 ·obtain ⟨v,rfl,r1⟩:=r.one
  cases r1.ref_inv;split at t
  ·rename_i ds e
   obtain ⟨ys,s1,q1⟩:=u26 c e;refine ⟨_,ys,rfl,.inl ⟨s1,fun p hp=>f (.tup _) G (.ref p) _ ?_ (c.side hp) (Le.fresh hp) t⟩⟩;rw [RelD];exact ⟨p,_,rfl,SqT.of u24,RelDs.le (Le.fresh hp) q1⟩
  ·exact t.elim
 ·exact t.elim
def ut2:List D->Option (List Bool)
 | []=>some []
 | .bl b::r=>(ut2 r).map (b::·)
 | _=>none
theorem uq1:∀ {ds:List D} {bs:List Bool} {vs:List V},ut2 ds=some bs->RelDs K H ds vs->vs=bs.map V.bl
 | [],bs,vs,e,r=>by cases e;rw [r.inv_nil];rfl
 | .bl b::ds,bs,vs,e,r=>by
  obtain ⟨x,xs,rfl,h1,h2⟩:=r.inv_cons;obtain ⟨bs',e',rfl⟩:=Option.map_eq_some_iff.mp (show (ut2 ds).map (b::·)=some bs from e);rw [h1.bl_inv,uq1 e' h2];rfl
 | .non::_,_,_,e,_=>by cases e
 | .int _::_,_,_,e,_=>by cases e
 | .str _::_,_,_,e,_=>by cases e
 | .tup _::_,_,_,e,_=>by cases e
 | .ref _::_,_,_,e,_=>by cases e
 | .ty _::_,_,_,e,_=>by cases e
def xAll:C3:=fun ds G q=>match ds with
 | [.ref a]=>(match u19 (G a) with | some xs=>(match ut2 xs with | some bs=>q (.bl (bs.all id)) G | none=>False) | none=>False)
 | _=>False
theorem vq7 (hc:X.calm=true:=by rfl):Call3 X (.builtin "all") xAll:=u54 (vk2 hc) <| by
 rintro xs H Q ⟨ds,G,q,r,c,t,f⟩;unfold xAll at t;split at t
 ·obtain ⟨v,rfl,r1⟩:=r.one
  cases r1.ref_inv;split at t
  ·rename_i ds e
   obtain ⟨ys,s1,q1⟩:=u26 c e;split at t
   ·rename_i bs eb
    have:=uq1 eb q1;subst this;exact ⟨_,bs,rfl,s1,f _ _ _ _ RelD.blI c (Le.refl H) t⟩
   ·exact t.elim
  ·exact t.elim
 ·exact t.elim
def uz4 (G:Gp):D->Option String
 | .non=>some "NoneType"
 | .bl _=>some "bool"
 | .int _=>some "int"
 | .str _=>some "str"
 | .ref a=>match G a with | some (.lst _)=>some "list" | some (.fro _)=>some "list" | some (.dic _)=>some "dict" | _=>none
 | _=>none
def uq5:C3:=fun ds G q=>match ds with
 | [x,.ty T]=>(T = "int" \/ T = "str" \/ T = "bool" \/ T = "list" \/ T = "tuple" \/ T = "dict") /\ (match uz4 G x with | some n=>q (.bl (subK n T)) G | none=>False)
 | _=>False
theorem vc3:Call3 X (.builtin "isinstance") uq5:=u54 us5 <| by
 rintro xs H Q ⟨ds,G,q,r,c,t,f⟩;unfold uq5 at t;split at t
 ·rename_i d T
  obtain ⟨v,u,rfl,r1,r2⟩:=r.two;rw [RelD] at r2;subst r2;obtain ⟨hT,t⟩:=t;split at t
  ·rename_i n en
   refine ⟨v,n,T,rfl,?_,hT,f _ _ _ _ RelD.blI c (Le.refl H) t⟩;unfold uz4 at en;split at en
   ·cases r1.non_inv;cases en;rfl
   ·cases r1.bl_inv;cases en;rfl
   ·cases r1.int_inv;cases en;rfl
   ·cases r1.str_inv;cases en;rfl
   ·rename_i a
    cases r1.ref_inv;split at en
    ·rename_i xs ea;cases en;obtain ⟨ys,h1,_⟩:=c _ _ ea;exact .inl ⟨rfl,.inl ⟨ys,h1⟩⟩
    ·rename_i xs ea;cases en;obtain ⟨o,ys,h1,_⟩:=c _ _ ea;exact .inl ⟨rfl,.inr ⟨o,ys,h1⟩⟩
    ·rename_i xs ea;cases en;obtain ⟨ys,h1,_⟩:=c _ _ ea;exact .inr (.inr ⟨rfl,ys,h1⟩)
    ·cases en
   ·cases en
  ·exact t.elim
 ·exact t.elim
theorem wn6 {x:Str} {T:String} {pos:Pos} (hm:X.mg x=none) (hv:bootBuiltins x=some (.type T)) (hg:Gl X x:=by rfl) (hn:x ≠ "__name__" := by decide) (hd:(x == ("__debug__" : Str))=false:=by decide):E3 X (.Name x pos) (dC (.ty T)) :=
 u43 (vz9 (v:=.ty T) hg hm hv rfl hn hd) fun _ _ _=>uz3 fun _=>by rw [RelD]
def xIs2:R3:=fun x y G q=>match y with
 | .non=>(match x with | .non=>q (.bl true) G | _=>q (.bl false) G)
 | .bl b=>(match x with | .bl c=>q (.bl (decide (c=b))) G | _=>q (.bl false) G)
 | _=>False
def uj2:R3:=fun x y G q=>match y with
 | .non=>(match x with | .non=>q (.bl false) G | _=>q (.bl true) G)
 | .bl b=>(match x with | .bl c=>q (.bl (!decide (c=b))) G | _=>q (.bl true) G)
 | _=>False
theorem RelD.not_bl {d:D} {v:V} (h:RelD K H d v) (b:Bool) (n:∀ c,d ≠ .bl c):v ≠ .bl b:=by
 cases d with
 | bl c=>exact absurd rfl (n c)
 | non=>rw [h.non_inv];exact fun z=>nomatch z
 | int _=>rw [h.int_inv];exact fun z=>nomatch z
 | str _=>rw [h.str_inv];exact fun z=>nomatch z
 | ref _=>rw [h.ref_inv];exact fun z=>nomatch z
 | ty _=>rw [RelD] at h;rw [h];exact fun z=>nomatch z
 | tup _=>obtain ⟨a,xs,e,_⟩:=h.tup_inv;rw [e];exact fun z=>nomatch z
theorem ul0 {c b:Bool}:decide (V.bl c=V.bl b)=decide (c=b):=by cases c <;> cases b <;> rfl
theorem vc4:Op3 X (compareOp .IsNot) uj2:=u78 (op_notN.or v50) <| by
 rintro x y H Q ⟨d,e,G,q,r1,r2,c,t,f⟩;unfold uj2 at t;split at t
 ·refine .inl ⟨r2.non_inv,?_⟩
  split at t
  ·rw [r1.non_inv]
   exact f _ _ _ _ RelD.blI c (Le.refl H) t
  ·rename_i hd
   rw [decide_eq_false (r1.not_non fun z=>hd z)];exact f _ _ _ _ RelD.blI c (Le.refl H) t
 ·rename_i b
  refine .inr ⟨b,r2.bl_inv,?_⟩;split at t
  ·rw [r1.bl_inv,ul0]
   exact f _ _ _ _ RelD.blI c (Le.refl H) t
  ·rename_i hd
   rw [decide_eq_false (r1.not_bl b fun z hz=>hd z hz)];exact f _ _ _ _ RelD.blI c (Le.refl H) t
 ·exact t.elim
end
def jSeq (n:Nat) (t:TGs3):TG3:=fun d σ G q=>match d with
 | .tup ds=>ds.length=n /\ t ds σ G q
 | .ref a=>(match u19 (G a) with | some ds=>ds.length=n /\ t ds σ G q | none=>False)
 | _=>False
def wAny (te:TE3):TI3:=fun σ G r=>te σ G fun x G1=>match x with
 | .ref a=>(match u19 (G1 a) with | some ds=>r ⟨ds,fun G=>u19 (G a)=some ds⟩ G1 | none=>False)
 | .tup ds=>r ⟨ds,fun _=>True⟩ G1
 | _=>False
section
variable {X:Cx} {es:List Expr} {e tg:Expr} {te:TE3} {pos:Pos}
theorem ur4 {k n:Nat} {t:TGs3} (hc:X.calm=true) (h:Js3 X es t) (hn:(assignEach es X.env).length=n:=by rfl) (hst:(assignEach es X.env).findIdx? (·.1)=none:=by rfl):J3 X (.Tuple es k pos) (jSeq n t) :=
 vr3 (wv2 (wc2 hc h hn hst) (vz1 hc h hn hst)) fun v σ H Q hh=>by
  obtain ⟨d,σd,G,q,r,rs,c,t,f⟩:=hh;unfold jSeq at t;split at t
  ·rename_i ds
   obtain ⟨a,xs,rfl,s,r2⟩:=r.tup_inv;exact .inl ⟨a,xs,rfl,s,by rw [<- r2.length];exact t.1,ds,σd,G,q,r2,rs,c,t.2,f⟩
  ·rename_i a
   split at t
   ·rename_i ds e
    obtain ⟨xs,s,r'⟩:=u26 c e;exact .inr ⟨a,xs,r.ref_inv,s,by rw [<- r'.length];exact t.1,ds,σd,G,q,r',rs,c,t.2,f⟩
   ·exact t.elim
  ·exact t.elim
theorem u94 (h:E3 X e te):I3 X tg e (wAny te):=v13 (wc1 h) fun σ H R hh=>by
 obtain ⟨σd,G,q,rs,c,t,f⟩:=hh;refine ⟨σd,G,_,rs,c,t,fun x G1 v H1 r1 c1 l1 t1=>?_⟩;split at t1
 ·rename_i a
  split at t1
  ·rename_i ds e
   obtain ⟨xs,s,_⟩:=u26 c1 e;exact ⟨a,r1.ref_inv,.inl ⟨⟨xs,s⟩,f _ _ _ _ uz6 c1 l1 t1⟩⟩
  ·exact t1.elim
 ·rename_i ds
  obtain ⟨a,xs,rfl,s,r⟩:=r1.tup_inv;exact ⟨a,rfl,.inr ⟨⟨xs,s⟩,f _ _ _ _ (v75 s r) c1 l1 t1⟩⟩
 ·exact t1.elim
end
section
variable {X:Cx} {e o:Expr} {es:List Expr} {to:TE3} {ts:TA3} {apos cpos:Pos}
theorem ty_list (K:W.Frag):∀ G H x v,Con K G H->RelD K H x v->tyD G "list" x->tyV K "list" v H:=by
 intro G H x v c r t;cases x with
 | ref a =>
  cases r.ref_inv;cases e:G a with
  | none=>simp [tyD,e] at t
  | some o =>
   cases o with
   | lst ds=>obtain ⟨xs,s,_⟩:=u26 (ds:=ds) c (by rw [e];rfl);exact .inl ⟨rfl,xs,s⟩
   | fro ds=>obtain ⟨xs,s,_⟩:=u26 (ds:=ds) c (by rw [e];rfl);exact .inl ⟨rfl,xs,s⟩
   | dic _=>simp [tyD,e] at t
   | dit _=>simp [tyD,e] at t
   | ins _ _=>simp [tyD,e] at t
   | exc _ _=>simp [tyD,e] at t
   | frd _=>simp [tyD,e] at t
 | str _=>simp [tyD] at t
 | int _=>simp [tyD] at t
 | _=>exact t.elim
def ue7:M3:=fun x ds G q=>match x,ds with
 | .ref a,[d]=>(match G a with | some (.lst xs)=>xs.length < sizeLine /\ q .non (gup G a (.lst (xs++[d]))) | _=>False)
 | _,_=>False
theorem ud7 (ho:E3 X o to) (ha:A3 X (e::es) ts) (hbase:attributeBase o "append" X.env (eval o X.env)=eval o X.env:=by rfl)
  (hfew:((backTo cpos (starEach (e::es) X.env)).all (fun x=>!x.1) && (backToKw cpos (keywordEach [] X.env)).all (fun x=>x.1.isSome)
   && decide ((e::es).length+([]:List Keyword).length+(if ([]:List Keyword).isEmpty then 0 else 1) < 30))=true:=by rfl)
  (hline:(apos.endLine == cpos.line)=true:=by rfl) (hs:starEach (e::es) X.env=(false,eval e X.env)::starEach es X.env:=by rfl) (hplain:(backTo cpos (starEach es X.env)).any (·.1)=false:=by rfl) :
  E3 X (.Call (.Attribute o "append" apos) (e::es) [] cpos) (dBM "list" ue7 to ts) :=
 u43 (vg0 PySem.F.plainAttrs_list PySem.F.slot_list_append PySem.F.type_list_append (ut6 (r':=lowM X.K ue7) uo1 <| by
  rintro x xs H Q ⟨d,ds,G,q,r1,r2,c,t,f⟩;unfold ue7 at t;split at t
  ·rename_i a d'
   split at t
   ·rename_i ys ea
    cases r1.ref_inv;obtain ⟨v,rfl,rv⟩:=r2.one;obtain ⟨zs,h1,q1⟩:=c _ _ ea;exact ⟨a,zs,v,rfl,rfl,h1,by rw [<- q1.length];exact t.1,f _ _ _ _ RelD.nonI (c.lstSet h1 (q1.append (.cons rv .nil))) (Le.lst h1) t.2⟩
   ·exact t.elim
  ·exact t.elim) ho ha hbase hfew hline hs hplain) fun _ _ _=>uw1 (ty_list X.K)
def uk3:M3:=fun x ds G q=>match x,ds with
 | .ref a,[.ref b]=>(match G a,G b with | some (.lst xs),some (.lst ys)=>xs.length+ys.length<=sizeLine /\ q .non (gup G a (.lst (xs++ys))) | _,_=>False)
 | _,_=>False
theorem uw8 (ho:E3 X o to) (ha:A3 X (e::es) ts) (hbase:attributeBase o "extend" X.env (eval o X.env)=eval o X.env:=by rfl)
  (hfew:((backTo cpos (starEach (e::es) X.env)).all (fun x=>!x.1) && (backToKw cpos (keywordEach [] X.env)).all (fun x=>x.1.isSome)
   && decide ((e::es).length+([]:List Keyword).length+(if ([]:List Keyword).isEmpty then 0 else 1) < 30))=true:=by rfl)
  (hline:(apos.endLine == cpos.line)=true:=by rfl) (hs:starEach (e::es) X.env=(false,eval e X.env)::starEach es X.env:=by rfl) (hplain:(backTo cpos (starEach es X.env)).any (·.1)=false:=by rfl) :
  E3 X (.Call (.Attribute o "extend" apos) (e::es) [] cpos) (dBM "list" uk3 to ts) :=
 u43 (vg0 PySem.F.plainAttrs_list PySem.F.slot_list_extend PySem.F.type_list_extend (ut6 (r':=lowM X.K uk3) v56 <| by
  rintro x xs H Q ⟨d,ds,G,q,r1,r2,c,t,f⟩;unfold uk3 at t;split at t
  ·rename_i a b
   split at t
   ·rename_i ys zs ea eb
    cases r1.ref_inv;obtain ⟨v,rfl,rv⟩:=r2.one;cases rv.ref_inv;obtain ⟨us,h1,q1⟩:=c _ _ ea;obtain ⟨ws,h2,q2⟩:=c _ _ eb;exact ⟨a,b,us,ws,rfl,rfl,h1,h2,by rw [<- q1.length,<- q2.length];exact t.1,f _ _ _ _ RelD.nonI (c.lstSet h1 (q1.append q2)) (Le.lst h1) t.2⟩
   ·exact t.elim
  ·exact t.elim) ho ha hbase hfew hline hs hplain) fun _ _ _=>uw1 (ty_list X.K)
def wx5:M3:=fun x ds G q=>match x,ds with
 | .ref a,[]=>(match G a with | some (.lst xs)=>(match xs[xs.length - 1]? with | some y=>q y (gup G a (.lst xs.dropLast)) | none=>False) | _=>False)
 | _,_=>False
def w05:M3:=fun x ds G q=>match x,ds with
 | .ref a,[]=>(match G a with | some (.lst _)=>q .non (gup G a (.lst [])) | _=>False)
 | _,_=>False
end
def xEqB (neg:Bool):R3:=fun x y G q=>match x,y with
 | .int i,.int j=>q (.bl (if neg then !decide (i=j) else decide (i=j))) G
 | .str i,.str j=>q (.bl (if neg then !decide (i=j) else decide (i=j))) G
 | .bl i,.bl j=>q (.bl (if neg then !decide (i=j) else decide (i=j))) G
 | .non,.non=>q (.bl (!neg)) G
 | .non,.int _=>q (.bl neg) G
 | .int _,.non=>q (.bl neg) G
 | .non,.bl _=>q (.bl neg) G
 | .bl _,.non=>q (.bl neg) G
 | .non,.str _=>q (.bl neg) G
 | .str _,.non=>q (.bl neg) G
 | .int _,.str _=>q (.bl neg) G
 | .str _,.int _=>q (.bl neg) G
 | .tup xs,.tup ys=>∃ n sd se b,n<=40 /\ snap G n (.tup xs)=some sd /\ snap G n (.tup ys)=some se /\ eqN n sd se=some b /\ q (.bl (if neg then !b else b)) G
 | .ref a,.ref c=>∃ n sd se b,n<=40 /\ snap G n (.ref a)=some sd /\ snap G n (.ref c)=some se /\ eqN n sd se=some b /\ q (.bl (if neg then !b else b)) G
 | _,_=>False
section
variable {X:Cx} {k:Nat}
theorem ux2 {i j:Int}:decide (V.int i=V.int j)=decide (i=j):=by
 by_cases h:i=j
 ·subst h;simp
 ·simp [h]
theorem ux1 {i j:Str}:decide (V.str i=V.str j)=decide (i=j):=by
 by_cases h:i=j
 ·subst h;simp
 ·simp [h]
theorem u80 {G:Gp} {n:Nat} {xs:List D} {sd:Sn} (h:snap G n (.tup xs)=some sd):u52 sd=false:=by
 obtain ⟨_,_,_,rfl,_⟩:=snap_tup h;rfl
theorem u81 {G:Gp} {n:Nat} {a:Addr} {sd:Sn} (h:snap G n (.ref a)=some sd):u52 sd=false:=by
 obtain ⟨_,_,_,_,rfl,_⟩:=snap_ref h;rfl
theorem x_eq (hr:Room k X.A):Op3 X (compareOp .Eq) (xEqB false):=u78 (op_eq.or (we5 hr)) <| by
 rintro x y H Q ⟨d,e,G,q,r1,r2,c,t,f⟩;have fin:∀ b,q (.bl b) G->Q (.bl b) H:=fun b z=>f _ _ _ _ RelD.blI c (Le.refl H) z
 unfold xEqB at t;split at t
 ·cases r1.int_inv;cases r2.int_inv;exact .inl ⟨rfl,by rw [ux2];exact fin _ t⟩
 ·cases r1.str_inv;cases r2.str_inv;exact .inl ⟨rfl,by rw [ux1];exact fin _ t⟩
 ·cases r1.bl_inv;cases r2.bl_inv;exact .inl ⟨rfl,by rw [ul0];exact fin _ t⟩
 ·cases r1.non_inv;cases r2.non_inv;exact .inl ⟨rfl,fin _ t⟩
 ·cases r1.non_inv;cases r2.int_inv;exact .inl ⟨rfl,fin _ t⟩
 ·cases r1.int_inv;cases r2.non_inv;exact .inl ⟨rfl,fin _ t⟩
 ·cases r1.non_inv;cases r2.bl_inv;exact .inl ⟨rfl,fin _ t⟩
 ·cases r1.bl_inv;cases r2.non_inv;exact .inl ⟨rfl,fin _ t⟩
 ·cases r1.non_inv;cases r2.str_inv;exact .inl ⟨rfl,fin _ t⟩
 ·cases r1.str_inv;cases r2.non_inv;exact .inl ⟨rfl,fin _ t⟩
 ·cases r1.int_inv;cases r2.str_inv;exact .inl ⟨rfl,fin _ t⟩
 ·cases r1.str_inv;cases r2.int_inv;exact .inl ⟨rfl,fin _ t⟩
 ·obtain ⟨n,sd,se,b,hn,h1,h2,hb,t⟩:=t
  exact .inr ⟨_,_,G,n,sd,se,b,r1,r2,c,hn,h1,h2,hb,u80 h1,fin _ t⟩
 ·obtain ⟨n,sd,se,b,hn,h1,h2,hb,t⟩:=t
  exact .inr ⟨_,_,G,n,sd,se,b,r1,r2,c,hn,h1,h2,hb,u81 h1,fin _ t⟩
 ·exact t.elim
theorem x_ne (hr:Room k X.A):Op3 X (compareOp .NotEq) (xEqB true):=u78 (op_ne.or (we3 hr)) <| by
 rintro x y H Q ⟨d,e,G,q,r1,r2,c,t,f⟩;have fin:∀ b,q (.bl b) G->Q (.bl b) H:=fun b z=>f _ _ _ _ RelD.blI c (Le.refl H) z
 unfold xEqB at t;split at t
 ·cases r1.int_inv;cases r2.int_inv;exact .inl ⟨rfl,by rw [ux2];exact fin _ t⟩
 ·cases r1.str_inv;cases r2.str_inv;exact .inl ⟨rfl,by rw [ux1];exact fin _ t⟩
 ·cases r1.bl_inv;cases r2.bl_inv;exact .inl ⟨rfl,by rw [ul0];exact fin _ t⟩
 ·cases r1.non_inv;cases r2.non_inv;exact .inl ⟨rfl,fin _ t⟩
 ·cases r1.non_inv;cases r2.int_inv;exact .inl ⟨rfl,fin _ t⟩
 ·cases r1.int_inv;cases r2.non_inv;exact .inl ⟨rfl,fin _ t⟩
 ·cases r1.non_inv;cases r2.bl_inv;exact .inl ⟨rfl,fin _ t⟩
 ·cases r1.bl_inv;cases r2.non_inv;exact .inl ⟨rfl,fin _ t⟩
 ·cases r1.non_inv;cases r2.str_inv;exact .inl ⟨rfl,fin _ t⟩
 ·cases r1.str_inv;cases r2.non_inv;exact .inl ⟨rfl,fin _ t⟩
 ·cases r1.int_inv;cases r2.str_inv;exact .inl ⟨rfl,fin _ t⟩
 ·cases r1.str_inv;cases r2.int_inv;exact .inl ⟨rfl,fin _ t⟩
 ·obtain ⟨n,sd,se,b,hn,h1,h2,hb,t⟩:=t
  exact .inr ⟨_,_,G,n,sd,se,b,r1,r2,c,hn,h1,h2,hb,u80 h1,fin _ t⟩
 ·obtain ⟨n,sd,se,b,hn,h1,h2,hb,t⟩:=t
  exact .inr ⟨_,_,G,n,sd,se,b,r1,r2,c,hn,h1,h2,hb,u81 h1,fin _ t⟩
 ·exact t.elim
end
section
variable {X:Cx} {e:Expr} {es:List Expr} {p pos:Pos} {ts:TA3} {k:Nat} {S:Sp3} {x m qual:Str} {st:Stmt} {ps:List Str} {C:Addr}
theorem emk {xi qi:Str} {d:FnAt X.K xi qi st ps} (M:Mk X.K C d.a) (hm:X.mg x=some (.ref C)) (G:FnOk X.prog X.w X.K X.mg X.base CX0 k d.a d.fd ps (u93 X.K S)) (hr:Room (k+1) X.A) (ha:A3 X (e::es) ts) (hg:Gl X x:=by rfl) (hdb:(x == ("__debug__" : Str))=false:=by decide)
  (he:starEach (e::es) X.env=(false,eval e X.env)::starEach es X.env:=by rfl) (hpl:(backTo pos (starEach es X.env)).any (·.1)=false:=by rfl):E3 X (.Call (.Name x p) (e::es) [] pos) (v97 C S [] ts) :=
 vq0 M G hr hg hm d.b .nil (fun _=>.nil) ha hdb he hpl
end
section
variable {X:Cx} {e:Expr} {es:List Expr} {p pos:Pos} {ts:TA3} {k:Nat} {S:Sp3} {x m qual:Str} {st:Stmt} {ps:List Str} {C f:Addr} {fd:FuncData}
theorem emkd {i:Int} (M:Mk X.K C f) (hm:X.mg x=some (.ref C)) (hd:∃ t,Binds X.K fd ps [.int i t]) (G:FnOk X.prog X.w X.K X.mg X.base CX0 k f fd ps (u93 X.K S)) (hr:Room (k+1) X.A) (ha:A3 X (e::es) ts) (hg:Gl X x:=by rfl) (hdb:(x == ("__debug__" : Str))=false:=by decide)
  (he:starEach (e::es) X.env=(false,eval e X.env)::starEach es X.env:=by rfl) (hpl:(backTo pos (starEach es X.env)).any (·.1)=false:=by rfl):E3 X (.Call (.Name x p) (e::es) [] pos) (v97 C S [.int i] ts):=by
 obtain ⟨t,hb⟩:=hd;exact vq0 (dvs:=[.int i]) M G hr hg hm hb (.cons ⟨t,rfl⟩ .nil) (fun _=>.cons RelD.intI .nil) ha hdb he hpl
theorem u77 {i:Int} (h:∃ t,X.mg x=some (.int i t)) (hg:Gl X x:=by rfl) (hdb:(x == ("__debug__" : Str))=false:=by decide):E3 X (.Name x pos) (dC (.int i)):=by
 obtain ⟨t,h⟩:=h;exact wo0 hg h (v:=.int i) ⟨t,rfl⟩ (fun _=>RelD.intI) hdb
end
theorem u72 {c A B:Prop} [Decidable c] (h1:c->A) (h2:¬ c->B):if decide c=true then A else B:=by
 by_cases h:c
 ·simpa [h] using h1 h
 ·simpa [h] using h2 h
theorem v28 {xs:List D}:u19 (some (.lst xs))=some xs:=rfl
theorem v29 {xs:List D}:u19 (some (.fro xs))=some xs:=rfl
theorem wx3 {α:Type} {x:α} {xs:List α}:atI (x::xs) 0=some x:=u71 (j:=0) rfl
theorem wp1 {α:Type} {x y:α} {xs:List α}:atI (x::y::xs) 1=some y:=u71 (j:=1) rfl
theorem wp0 {α:Type} {x y z:α} {xs:List α}:atI (x::y::z::xs) 2=some z:=u71 (j:=2) rfl
theorem wo9 {α:Type} {x y z u:α} {xs:List α}:atI (x::y::z::u::xs) 3=some u:=u71 (j:=3) rfl
theorem wx2 {α:Type} {x y z u v:α} {xs:List α}:atI (x::y::z::u::v::xs) 4=some v:=u71 (j:=4) rfl
theorem wm8:ixN 3 0=some 0:=rfl
theorem wm7:ixN 3 1=some 1:=rfl
theorem wm6:ixN 3 2=some 2:=rfl
theorem wn0:ixN 2 0=some 0:=rfl
theorem wm9:ixN 2 1=some 1:=rfl
theorem v73 {n j:Nat} (h:j < n):ixN n (j:Int)=some j:=by
 unfold ixN;rw [if_pos (by omega),if_pos (by omega)];simp
theorem w23 {n:Nat} {i:Int} (h0:0<=i) (h:i < n):ixN n i=some i.toNat:=by
 unfold ixN;rw [if_pos h0,if_pos h]
theorem us8 {α:Type} {xs:List α} {i:Int} (h0:0<=i) (h:i < xs.length):atI xs i=some (xs[i.toNat]'(by omega)):=by
 unfold atI;rw [w23 h0 h];exact List.getElem?_eq_getElem _
theorem w52 {α β:Type} {f:α->β} {xs:List α} {i:Int} (h0:0<=i) (h:i < xs.length):atI (xs.map f) i=some (f (xs[i.toNat]'(by omega))):=by
 rw [us8 h0 (by simpa using h)];simp
theorem uf8 {i j:Int} (h0:0<=i) (h:i < 18446744073709551616):CMul i j:=.inl ⟨by omega,by omega⟩
theorem wx4 {j:Int} (h0:0<=j) (h:j<=1000):CPow 2 j:=⟨h0,by omega,by decide⟩
theorem va0 {j:Int} (h0:0<=j) (h:j<=1000):CPow 1 j:=⟨h0,by omega,by decide⟩
end L3
namespace L3
theorem u35 {S:Sp3} {ds:List D} {G G1:Gp} {v:D} {q:DK} (h:∀ R:DK,R v G1->S ds G R) (k:q v G1):∃ R,S ds G R /\ ∀ d G',R d G'->q d G' :=
 ⟨fun d G'=>d=v /\ G'=G1,h _ ⟨rfl,rfl⟩,fun _ _ ⟨e1,e2⟩=>by subst e1;subst e2;exact k⟩
theorem u13 {S:Sp3} {ds:List D} {G:Gp} {post:DK} {q:DK} (h:∀ R:DK,(∀ d G',post d G'->R d G')->S ds G R) (k:∀ d G',post d G'->q d G'):∃ R,S ds G R /\ ∀ d G',R d G'->q d G' :=
 ⟨post,h _ fun _ _ z=>z,k⟩
theorem u47 {ok:Gp->Prop} {g:TG3} {tb:TS3} {E:Ends3} (I:List D->DSt->Gp->Prop) {items:List D} {σ:DSt} {G:Gp} (h0:I items σ G) (nil:∀ σ G,I [] σ G->ok G /\ E.nx σ G)
  (cons:∀ x r σ G,I (x::r) σ G->(∀ σ' G',I r σ' G'->forL ok g tb E r σ' G')->ok G /\ g x σ G fun σ1 G1=>tb { E with nx:=forL ok g tb E r,ct:=forL ok g tb E r,bk:=E.nx } σ1 G1):forL ok g tb E items σ G:=by
 induction items generalizing σ G with
 | nil=>exact nil σ G h0
 | cons x r ih=>exact cons x r σ G h0 fun σ' G' h=>ih h
theorem u34 {ok:Gp->Prop} {g:TG3} {tc:TT3} {te:TE3} {p:PySem.Addr} {q:DK} (I:List D->DSt->Gp->Prop) {items:List D} {σ:DSt} {G:Gp} (h0:I items σ G) (nil:∀ σ G,I [] σ G->ok G /\ q (.ref p) G)
  (cons:∀ x r σ G,I (x::r) σ G->(∀ σ' G',I r σ' G'->ug5 ok g tc te p q r σ' G')->ok G /\ g x σ G fun σ2 G2=>tc σ2 G2 fun b G3 =>
   if b=true then te σ2 G3 fun d G4=>(match G4 p with | some (.lst ys)=>ys.length < PySem.sizeLine /\ ug5 ok g tc te p q r σ2 (gup G4 p (.lst (ys++[d]))) | _=>False)
   else ug5 ok g tc te p q r σ2 G3):ug5 ok g tc te p q items σ G:=by
 induction items generalizing σ G with
 | nil=>exact nil σ G h0
 | cons x r ih=>exact cons x r σ G h0 fun σ' G' h=>ih h
theorem v12 {c:TT3} {tb:TS3} {E:Ends3} (I:Nat->DSt->Gp->Prop) {m:Nat} {σ:DSt} {G:Gp} (h0:I m σ G)
  (step:∀ m σ G N,I m σ G->(∀ σ' G' m',m=m'+1->I m' σ' G'->N σ' G')->c σ G fun b G1=>if b=true then tb { E with nx:=N,ct:=N,bk:=E.nx } σ G1 else E.nx σ G1):v96 c tb E σ G:=by
 refine ⟨m+1,?_⟩
 induction m generalizing σ G with
 | zero=>exact step 0 σ G (whN c tb E 0) h0 fun σ' G' m' e=>absurd e (by omega)
 | succ m ih=>exact step (m+1) σ G (whN c tb E (m+1)) h0 fun σ' G' m' e h=>ih (by cases e;exact h)
end L3
namespace L3
open PySem
theorem uq7:(("add" : Str) = "turn")=False:=eq_false (by decide)
theorem un2:(("add" : Str) = "go")=False:=eq_false (by decide)
theorem uq8:(("add" : Str) = "come")=False:=eq_false (by decide)
theorem um7:(("take" : Str) = "turn")=False:=eq_false (by decide)
theorem uh0:(("take" : Str) = "go")=False:=eq_false (by decide)
theorem um8:(("take" : Str) = "come")=False:=eq_false (by decide)
theorem ug9:(("turn" : Str) = "go")=False:=eq_false (by decide)
theorem um6:(("turn" : Str) = "come")=False:=eq_false (by decide)
theorem um9:(("swap" : Str) = "turn")=False:=eq_false (by decide)
theorem uh1:(("swap" : Str) = "go")=False:=eq_false (by decide)
theorem un0:(("swap" : Str) = "come")=False:=eq_false (by decide)
theorem uh2:(("go" : Str) = "turn")=False:=eq_false (by decide)
theorem uy1:(("go" : Str) = "swap")=False:=eq_false (by decide)
theorem uc2:(("come" : Str) = "turn")=False:=eq_false (by decide)
theorem un1:(("come" : Str) = "swap")=False:=eq_false (by decide)
theorem uy2:(("come" : Str) = "go")=False:=eq_false (by decide)
end L3
namespace Rw
open PySem PyProof.Rows L2 L3
inductive Opd where
 | num (n:Int) | box (y:Nat)
 deriving DecidableEq
inductive Row where
 | add (x:Nat) (o:Opd) | take (x:Nat) (o:Opd) | turn (x i:Nat) (cs:List (Nat × Nat)) | swap (x y:Nat) | go (x:Nat) (n:Int) (k:Nat) | come (x:Nat) (n:Int) (k:Nat)
 deriving DecidableEq
def Opd.d:Opd->D
 | .num n=>.tup [.str "num",.int n]
 | .box y=>.tup [.str "box",.int (y:Int)]
def cd (c:Nat × Nat):D:=.tup [.int (c.1:Int),.int (c.2:Int)]
def Row.d:Row->D
 | .add x o=>.tup [.str "add",.int (x:Int),o.d]
 | .take x o=>.tup [.str "take",.int (x:Int),o.d]
 | .turn x i cs=>.tup [.str "turn",.int (x:Int),.int (i:Int),.tup (cs.map cd)]
 | .swap x y=>.tup [.str "swap",.int (x:Int),.int (y:Int)]
 | .go x n k=>.tup [.str "go",.int (x:Int),.int n,.int (k:Int)]
 | .come x n k=>.tup [.str "come",.int (x:Int),.int n,.int (k:Int)]
def Opd.ok (sz x:Nat):Opd->Prop
 | .num n=>0<=n /\ n < 4294967296
 | .box y=>y < sz /\ y ≠ x
def Row.ok (sz:Nat):Row->Prop
 | .add x o=>x < sz /\ o.ok sz x
 | .take x o=>x < sz /\ o.ok sz x
 | .turn x i cs=>x < sz /\ i < 32 /\ cs.length<=2 /\ ∀ c ∈ cs,c.1 < sz /\ c.1 ≠ x /\ c.2 < 32
 | .swap x y=>x < sz /\ y < sz /\ y ≠ x
 | .go x n _=>x < sz /\ 0<=n /\ n < 4294967296
 | .come x n _=>x < sz /\ 0<=n /\ n < 4294967296
def Row.plain:Row->Bool
 | .go _ _ _=>false
 | .come _ _ _=>false
 | _=>true
def gt (bs:List Int) (x:Nat):Int:=bs.getD x 0
def bit (v:Int) (j:Nat):Int:=v / 2 ^ j % 2
def flp (v:Int) (i:Nat):Int:=v+2 ^ i * (1 - 2 * bit v i)
def val (bs:List Int):Opd->Int
 | .num n=>n
 | .box y=>gt bs y
def con (bs:List Int) (cs:List (Nat × Nat)):Bool:=cs.all fun c=>!decide (bit (gt bs c.1) c.2=0)
def stp (s:Int) (bs:List Int):Row->List Int
 | .add x o=>bs.set x ((gt bs x+s * val bs o) % 4294967296)
 | .take x o=>bs.set x ((gt bs x - s * val bs o) % 4294967296)
 | .turn x i cs=>if con bs cs=true then bs.set x (flp (gt bs x) i) else bs
 | .swap x y=>(bs.set x (gt bs y)).set y (gt bs x)
 | .go _ _ _=>bs
 | .come _ _ _=>bs
structure BsOk (sz:Nat) (bs:List Int):Prop where
 len:bs.length=sz
 rng:∀ v ∈ bs,0<=v /\ v < 4294967296
theorem uo6 {bs:List Int} {x:Nat} (h:x < bs.length):gt bs x=bs[x]:=by unfold gt;rw [List.getD_eq_getElem?_getD,List.getElem?_eq_getElem h];rfl
theorem ui4 {sz:Nat} {bs:List Int} {x:Nat} (h:BsOk sz bs) (hx:x < sz):0<=gt bs x /\ gt bs x < 4294967296:=by
 rw [uo6 (by rw [h.len];exact hx)];exact h.rng _ (List.getElem_mem _)
theorem u73 {bs:List Int} {x y:Nat} {v:Int} (h:x < bs.length):gt (bs.set x v) y=if y=x then v else gt bs y:=by
 unfold gt;rw [List.getD_eq_getElem?_getD,List.getD_eq_getElem?_getD,List.getElem?_set]
 by_cases e:x=y
 ·subst e;simp [h]
 ·rw [if_neg e,if_neg (Ne.symm e)]
theorem u44 {bs:List Int} {x:Nat} (h:x < bs.length):atI (bs.map D.int) (x:Int)=some (.int (gt bs x)):=by
 rw [u71 (v:=.int (gt bs x))];rw [List.getElem?_map,List.getElem?_eq_getElem h,uo6 h];rfl
theorem u87 {bs:List Int} {x:Nat} (h:x < bs.length):ixN (bs.map D.int).length (x:Int)=some x:=v73 (by simpa using h)
theorem setm {bs:List Int} {x:Nat} {v:Int}:(bs.map D.int).set x (.int v)=(bs.set x v).map D.int:=by rw [List.map_set]
theorem uc1 {rs:List Row} {x:Nat} {r:Row} (h:rs[x]?=some r):atI (rs.map Row.d) (x:Int)=some r.d:=u71 (by rw [List.getElem?_map,h];rfl)
theorem v08 {v:Int} {i:Nat}:Builtin.bitXor v (1 * 2 ^ i)=flp v i:=by
 rw [Int.one_mul,bitXor_and,W.kbt_bit];unfold flp bit;rw [Int.mul_sub,Int.mul_one,Int.mul_comm (2 ^ i) (2 * (v / 2 ^ i % 2)),Int.mul_assoc 2 (v / 2 ^ i % 2) (2 ^ i)];omega
theorem vb1 {v:Int} {j:Nat}:Builtin.bitAnd (v / 2 ^ j) 1=bit v j:=by rw [bitAnd_m1];rfl
theorem ui8 (v:Int) (j:Nat):bit v j=0 \/ bit v j=1:=by unfold bit;omega
theorem pow_pos (i:Nat):(0:Int) < 2 ^ i:=Int.pow_pos (by decide)
theorem v26 (v:Int) (i:Nat):∃ a r:Int,v=2 ^ i * (2 * a+bit v i)+r /\ 0<=r /\ r < 2 ^ i:=by
 refine ⟨v / 2 ^ i / 2,v % 2 ^ i,?_,Int.emod_nonneg _ (Int.ne_of_gt (pow_pos i)),Int.emod_lt_of_pos _ (pow_pos i)⟩;have h1:=Int.mul_ediv_add_emod v (2 ^ i);have h2:2 * (v / 2 ^ i / 2)+bit v i=v / 2 ^ i:=by unfold bit;omega
 rw [h2];omega
theorem wo2 {a r p:Int} (hp:0 < p) (h0:0<=r) (h1:r < p):(p * a+r) / p=a:=by
 rw [Int.add_comm,Int.add_mul_ediv_left _ _ (Int.ne_of_gt hp),Int.ediv_eq_zero_of_lt h0 h1];omega
theorem vp6 (v:Int) (i:Nat):∃ a r:Int,v=2 ^ i * (2 * a+bit v i)+r /\ flp v i=2 ^ i * (2 * a+(1 - bit v i))+r /\ 0<=r /\ r < 2 ^ i:=by
 obtain ⟨a,r,h,h0,h1⟩:=v26 v i;refine ⟨a,r,h,?_,h0,h1⟩;have e:flp v i=v+2 ^ i * (1 - 2 * bit v i):=rfl;rw [e]
 rcases ui8 v i with hb | hb
 ·rw [hb] at h ⊢
  have:(2:Int) ^ i * (1 - 2 * 0)=2 ^ i:=by omega
  have e2:(2:Int) ^ i * (2 * a+(1 - 0))=2 ^ i * (2 * a+0)+2 ^ i:=by rw [Int.mul_add,Int.mul_add];omega
  omega
 ·rw [hb] at h ⊢
  have:(2:Int) ^ i * (1 - 2 * 1)=- 2 ^ i:=by omega
  have e2:(2:Int) ^ i * (2 * a+1)=2 ^ i * (2 * a+(1 - 1))+2 ^ i:=by rw [Int.mul_add,Int.mul_add];omega
  omega
theorem w50 (v:Int) (i:Nat):bit (flp v i) i=1 - bit v i:=by
 obtain ⟨a,r,h,e,h0,h1⟩:=vp6 v i
 show flp v i / 2 ^ i % 2=_
 rw [e,wo2 (pow_pos i) h0 h1]
 rcases ui8 v i with hb | hb <;> rw [hb] <;> omega
theorem w31 (v:Int) (i:Nat):flp (flp v i) i=v:=by
 have e:flp (flp v i) i=flp v i+2 ^ i * (1 - 2 * bit (flp v i) i):=rfl;rw [e,w50];have e2:flp v i=v+2 ^ i * (1 - 2 * bit v i):=rfl;rw [e2];have:(1 - 2 * (1 - bit v i))=-(1 - 2 * bit v i):=by omega
 rw [this,Int.mul_neg];omega
theorem w29 {v:Int} {i:Nat} (hi:i < 32) (h0:0<=v) (h1:v < 4294967296):0<=flp v i /\ flp v i < 4294967296:=by
 obtain ⟨a,r,h,e,r0,r1⟩:=vp6 v i;have hp:=pow_pos i;have ha:0<=a:=by
  by_cases q:0<=a
  ·exact q
  ·have:(2:Int) ^ i * (2 * a+bit v i)<=2 ^ i * (-1):=Int.mul_le_mul_of_nonneg_left (by rcases ui8 v i with hb | hb <;> omega) (Int.le_of_lt hp)
   omega
 have hq:(4294967296:Int)=2 ^ i * (2 * 2 ^ (31 - i)):=by
  have e1:(2:Int) * 2 ^ (31 - i)=2 ^ (32 - i):=by
   rw [Int.mul_comm,<- Int.pow_succ];congr 1;omega
  rw [e1,<- Int.pow_add];have:i+(32 - i)=32:=by omega
  rw [this];rfl
 have ha2:a < 2 ^ (31 - i):=by
  by_cases q:a < 2 ^ (31 - i)
  ·exact q
  ·have:(2:Int) ^ i * (2 * 2 ^ (31 - i))<=2 ^ i * (2 * a+bit v i):=Int.mul_le_mul_of_nonneg_left (by rcases ui8 v i with hb | hb <;> omega) (Int.le_of_lt hp)
   omega
 rw [e]
 constructor
 ·have:0<=(2:Int) ^ i * (2 * a+(1 - bit v i)):=Int.mul_nonneg (Int.le_of_lt hp) (by rcases ui8 v i with hb | hb <;> omega)
  omega
 ·have:(2:Int) ^ i * (2 * a+(1 - bit v i))<=2 ^ i * (2 * 2 ^ (31 - i) - 1):=Int.mul_le_mul_of_nonneg_left (by rcases ui8 v i with hb | hb <;> omega) (Int.le_of_lt hp)
  rw [Int.mul_sub,<- hq] at this;omega
theorem v25 {s:Int} {sz:Nat} {bs:List Int} {r:Row} (h:BsOk sz bs) (hr:r.ok sz):BsOk sz (stp s bs r):=by
 have setOk:∀ {cs:List Int} {x:Nat} {v:Int},BsOk sz cs->0<=v->v < 4294967296->BsOk sz (cs.set x v):=fun {cs x v} h h0 h1 =>
  ⟨by rw [List.length_set];exact h.len,fun u hu=>by
   rcases List.mem_or_eq_of_mem_set hu with q | q
   ·exact h.rng u q
   ·subst q;exact ⟨h0,h1⟩⟩
 cases r with
 | add x o=>exact setOk h (Int.emod_nonneg _ (by decide)) (Int.emod_lt_of_pos _ (by decide))
 | take x o=>exact setOk h (Int.emod_nonneg _ (by decide)) (Int.emod_lt_of_pos _ (by decide))
 | turn x i cs =>
  show BsOk sz (if con bs cs=true then bs.set x (flp (gt bs x) i) else bs)
  split
  ·obtain ⟨hx,hi,_⟩:=hr
   obtain ⟨a,b⟩:=ui4 h hx;obtain ⟨c,d⟩:=w29 hi a b;exact setOk h c d
  ·exact h
 | swap x y =>
  obtain ⟨hx,hy,_⟩:=hr;obtain ⟨a,b⟩:=ui4 h hx;obtain ⟨c,d⟩:=ui4 h hy;exact setOk (setOk h c d) a b
 | go _ _ _=>exact h
 | come _ _ _=>exact h
theorem ub3 {bs:List Int} {x:Nat} (h:x < bs.length):bs.set x (gt bs x)=bs:=by
 rw [uo6 h,List.set_getElem_self]
theorem uu4 {s:Int} (hs:s=1 \/ s=-1) {sz:Nat} {bs:List Int} {r:Row} (h:BsOk sz bs) (hr:r.ok sz):stp (-s) (stp s bs r) r=bs:=by
 have hl:=h.len;cases r with
 | add x o =>
  obtain ⟨hx,ho⟩:=hr;have hv:val (bs.set x ((gt bs x+s * val bs o) % 4294967296)) o=val bs o:=by
   cases o with
   | num n=>rfl
   | box y=>show gt _ y=gt bs y;rw [u73 (by omega),if_neg ho.2]
  show (bs.set x _).set x ((gt (bs.set x _) x+-s * val (bs.set x _) o) % 4294967296)=bs
  rw [hv,u73 (by omega),if_pos rfl,List.set_set];have hg:=ui4 h hx;have e:((gt bs x+s * val bs o) % 4294967296+-s * val bs o) % 4294967296=gt bs x:=by
   rw [Int.neg_mul];omega
  rw [e,ub3 (by omega)]
 | take x o =>
  obtain ⟨hx,ho⟩:=hr;have hv:val (bs.set x ((gt bs x - s * val bs o) % 4294967296)) o=val bs o:=by
   cases o with
   | num n=>rfl
   | box y=>show gt _ y=gt bs y;rw [u73 (by omega),if_neg ho.2]
  show (bs.set x _).set x ((gt (bs.set x _) x - -s * val (bs.set x _) o) % 4294967296)=bs
  rw [hv,u73 (by omega),if_pos rfl,List.set_set];have hg:=ui4 h hx;have e:((gt bs x - s * val bs o) % 4294967296 - -s * val bs o) % 4294967296=gt bs x:=by
   rw [Int.neg_mul];omega
  rw [e,ub3 (by omega)]
 | turn x i cs =>
  obtain ⟨hx,hi,_,hc⟩:=hr
  show (if con (if con bs cs=true then bs.set x (flp (gt bs x) i) else bs) cs=true then _ else _)=bs
  by_cases hb:con bs cs=true
  ·have hb2:con (bs.set x (flp (gt bs x) i)) cs=true:=by
    unfold con at hb ⊢;rw [List.all_eq_true] at hb ⊢;intro c hcm;rw [u73 (by omega),if_neg (hc c hcm).2.1];exact hb c hcm
   show (if con (if con bs cs=true then bs.set x (flp (gt bs x) i) else bs) cs=true then (if con bs cs=true then bs.set x (flp (gt bs x) i) else bs).set x (flp (gt (if con bs cs=true then bs.set x (flp (gt bs x) i) else bs) x) i) else (if con bs cs=true then bs.set x (flp (gt bs x) i) else bs))=bs
   rw [if_pos hb,if_pos hb2,u73 (by omega),if_pos rfl,List.set_set,w31,ub3 (by omega)]
  ·show (if con (if con bs cs=true then bs.set x (flp (gt bs x) i) else bs) cs=true then (if con bs cs=true then bs.set x (flp (gt bs x) i) else bs).set x (flp (gt (if con bs cs=true then bs.set x (flp (gt bs x) i) else bs) x) i) else (if con bs cs=true then bs.set x (flp (gt bs x) i) else bs))=bs
   rw [if_neg hb,if_neg hb]
 | swap x y =>
  obtain ⟨hx,hy,hne⟩:=hr
  show (((bs.set x (gt bs y)).set y (gt bs x)).set x (gt ((bs.set x (gt bs y)).set y (gt bs x)) y)).set y (gt ((bs.set x (gt bs y)).set y (gt bs x)) x)=bs
  rw [u73 (by rw [List.length_set];omega),if_pos rfl,u73 (by rw [List.length_set];omega),if_neg (Ne.symm hne),u73 (by omega),if_pos rfl];rw [List.set_comm _ _ hne,List.set_set,List.set_comm _ _ (Ne.symm hne)];have e1:(bs.set x (gt bs y)).set x (gt bs x)=bs:=by rw [List.set_set,ub3 (by omega)]
  rw [List.set_comm _ _ hne] at *
  first
   | (rw [e1];exact ub3 (by omega))
   | (rw [List.set_comm _ _ (Ne.symm hne),e1];exact ub3 (by omega))
 | go _ _ _=>rfl
 | come _ _ _=>rfl
end Rw
namespace Rw
open PySem L2 L3
theorem ug8 {G:Gp}:∀ ks:List Int,(ks.map D.int).mapM (snap G 0)=some (ks.map Sn.int)
 | []=>rfl
 | k::ks=>by
  rw [List.map_cons,List.mapM_cons,ug8 ks];rfl
theorem um5 {G:Gp} {a:Addr} {ks:List Int} (h:u19 (G a)=some (ks.map .int)):snap G 1 (.ref a)=some (.lst (ks.map .int)):=by
 show ((u19 (G a)).bind fun ds=>(ds.mapM (snap G 0)).map Sn.lst)=_
 rw [h,Option.bind_some,ug8];rfl
theorem vp7:∀ ks ms:List Int,ks.length=ms.length->∃ bs,(((ks.map Sn.int).zip (ms.map Sn.int)).mapM fun p=>eqN 0 p.1 p.2)=some bs /\ bs.all id=decide (ks=ms)
 | [],[],_=>⟨[],rfl,rfl⟩
 | [],_::_,h=>by simp at h
 | _::_,[],h=>by simp at h
 | k::ks,m::ms,h=>by
  obtain ⟨bs,e,q⟩:=vp7 ks ms (by simpa using h);refine ⟨(k == m)::bs,?_,?_⟩
  ·rw [List.map_cons,List.map_cons,List.zip_cons_cons,List.mapM_cons,e]
   rfl
  ·rw [List.all_cons,q]
   by_cases hk:k=m
   ·subst hk;simp
   ·simp [hk]
theorem w34 {ks ms:List Int}:eqN 1 (.lst (ks.map .int)) (.lst (ms.map .int))=some (decide (ks=ms)):=by
 show (if (ks.map Sn.int).length=(ms.map Sn.int).length then (((ks.map Sn.int).zip (ms.map Sn.int)).mapM fun p=>eqN 0 p.1 p.2).map (fun bs=>bs.all id) else some false)=_
 by_cases h:ks.length=ms.length
 ·rw [if_pos (by simpa using h)]
  obtain ⟨bs,e,q⟩:=vp7 ks ms h;rw [e,Option.map_some,q]
 ·rw [if_neg (by simpa using h)]
  have:ks ≠ ms:=fun e=>h (by rw [e])
  simp [this]
theorem ux3 {G:Gp} {a b:Addr} {ks ms:List Int} {Q:Bool->Prop} (h1:u19 (G a)=some (ks.map .int)) (h2:u19 (G b)=some (ms.map .int)) (h:Q (decide (ks=ms))) :
  ∃ n sd se r,n<=40 /\ snap G n (.ref a)=some sd /\ snap G n (.ref b)=some se /\ eqN n sd se=some r /\ Q r :=
 ⟨1,_,_,_,by decide,um5 h1,um5 h2,w34,h⟩
theorem u28 (lo:Int) (n:Nat):rngD lo (n+1)=.int lo::rngD (lo+1) n:=by
 unfold rngD;rw [List.range_succ_eq_map,List.map_cons,List.map_map]
 congr 1
 ·simp
 ·apply List.map_congr_left
  intro i _
  show D.int _=D.int _
  congr 1
  simp;omega
structure Grow (G G':Gp):Prop where
 kp:∀ b o,G b=some o->G' b=some o
theorem Grow.refl {G:Gp}:Grow G G:=⟨fun _ _ h=>h⟩
theorem Grow.trans {G G1 G2:Gp} (a:Grow G G1) (b:Grow G1 G2):Grow G G2:=⟨fun c o h=>b.kp c o (a.kp c o h)⟩
theorem Grow.new {G G1:Gp} {p:Addr} {o:DO} (a:Grow G G1) (h:G1 p=none):Grow G (gup G1 p o):=⟨fun b u e=>by rw [u06 (gne (a.kp b u e) h)];exact a.kp b u e⟩
theorem Grow.none {G G1:Gp} {p:Addr} (a:Grow G G1) (h:G1 p=none):G p=none:=by
 cases e:G p with
 | none=>rfl
 | some o=>rw [a.kp p o e] at h;cases h
end Rw
namespace L3
open PySem
abbrev nS (a b:Str):Prop:=(a=b)=False
abbrev nB (a b:Str):Prop:=(a == b)=false
theorem u17:nS "add" "take" /\ nS "add" "turn" /\ nS "add" "swap" /\ nS "add" "go" /\ nS "add" "come" /\ nS "add" "box" /\ nS "add" "num" /\ nS "take" "add" /\ nS "take" "turn" /\ nS "take" "swap" /\ nS "take" "go" /\ nS "take" "come" /\ nS "take" "box" /\ nS "take" "num" /\ nS "turn" "add" /\ nS "turn" "take" /\ nS "turn" "swap" /\ nS "turn" "go" /\ nS "turn" "come" /\ nS "turn" "box" /\ nS "turn" "num" /\ nS "swap" "add" /\ nS "swap" "take" /\ nS "swap" "turn" /\ nS "swap" "go" /\ nS "swap" "come" /\ nS "swap" "box" /\ nS "swap" "num" /\ nS "go" "add" /\ nS "go" "take" /\ nS "go" "turn" /\ nS "go" "swap" /\ nS "go" "come" /\ nS "go" "box" /\ nS "go" "num" /\ nS "come" "add" /\ nS "come" "take" /\ nS "come" "turn" /\ nS "come" "swap" /\ nS "come" "go" /\ nS "come" "box" /\ nS "come" "num" /\ nS "box" "add" /\ nS "box" "take" /\ nS "box" "turn" /\ nS "box" "swap" /\ nS "box" "go" /\ nS "box" "come" /\ nS "box" "num" /\ nS "num" "add" /\ nS "num" "take" /\ nS "num" "turn" /\ nS "num" "swap" /\ nS "num" "go" /\ nS "num" "come" /\ nS "num" "box" := by (repeat' apply And.intro) <;> first | exact eq_false (by decide) | decide
theorem u95:nS "rows" "held" /\ nS "rows" "spot" /\ nS "held" "rows" /\ nS "held" "spot" /\ nS "spot" "rows" /\ nS "spot" "held" /\ nS "place" "rows" /\ nS "place" "held" /\ nS "place" "spot" /\ nS "boxes" "rows" /\ nS "boxes" "held" /\ nS "boxes" "spot" /\ nS "forth" "rows" /\ nS "forth" "held" /\ nS "forth" "spot" /\ nS "back" "rows" /\ nS "back" "held" /\ nS "back" "spot" /\ nS "at_end" "rows" /\ nS "at_end" "held" /\ nS "at_end" "spot" /\ nS "at_begin" "rows" /\ nS "at_begin" "held" /\ nS "at_begin" "spot" /\ nS "may_forth" "rows" /\ nS "may_forth" "held" /\ nS "may_forth" "spot" /\ nS "may_back" "rows" /\ nS "may_back" "held" /\ nS "may_back" "spot" /\ nB "rows" "held" /\ nB "rows" "spot" /\ nB "held" "rows" /\ nB "held" "spot" /\ nB "spot" "rows" /\ nB "spot" "held" /\ nB "place" "rows" /\ nB "place" "held" /\ nB "place" "spot" /\ nB "boxes" "rows" /\ nB "boxes" "held" /\ nB "boxes" "spot" /\ nB "forth" "rows" /\ nB "forth" "held" /\ nB "forth" "spot" /\ nB "back" "rows" /\ nB "back" "held" /\ nB "back" "spot" /\ nB "at_end" "rows" /\ nB "at_end" "held" /\ nB "at_end" "spot" /\ nB "at_begin" "rows" /\ nB "at_begin" "held" /\ nB "at_begin" "spot" /\ nB "may_forth" "rows" /\ nB "may_forth" "held" /\ nB "may_forth" "spot" /\ nB "may_back" "rows" /\ nB "may_back" "held" /\ nB "may_back" "spot" := by (repeat' apply And.intro) <;> first | exact eq_false (by decide) | decide
end L3
namespace L3
open PySem PySem.Spec PyProof.Rows L2
theorem w72:(∀ i j G q,xEqB false (.int i) (.int j) G q=q (.bl (decide (i=j))) G) /\ (∀ i j G q,xEqB true (.int i) (.int j) G q=q (.bl (!decide (i=j))) G) /\
  (∀ i j G q,xEqB false (.str i) (.str j) G q=q (.bl (decide (i=j))) G) /\ (∀ i j G q,xEqB true (.str i) (.str j) G q=q (.bl (!decide (i=j))) G) /\
  (∀ a c G q,xEqB false (.ref a) (.ref c) G q=∃ n sd se b,n<=40 /\ snap G n (.ref a)=some sd /\ snap G n (.ref c)=some se /\ eqN n sd se=some b /\ q (.bl b) G) /\
  (∀ a c G q,xEqB true (.ref a) (.ref c) G q=∃ n sd se b,n<=40 /\ snap G n (.ref a)=some sd /\ snap G n (.ref c)=some se /\ eqN n sd se=some b /\ q (.bl (!b)) G) /\
  (∀ a c G q,xEqB false (.tup a) (.tup c) G q=∃ n sd se b,n<=40 /\ snap G n (.tup a)=some sd /\ snap G n (.tup c)=some se /\ eqN n sd se=some b /\ q (.bl b) G) /\
  (∀ a c G q,xEqB true (.tup a) (.tup c) G q=∃ n sd se b,n<=40 /\ snap G n (.tup a)=some sd /\ snap G n (.tup c)=some se /\ eqN n sd se=some b /\ q (.bl (!b)) G) /\
  (∀ i j G q,xAdd (.int i) (.int j) G q=q (.int (i+j)) G) /\ (∀ i j G q,xMul (.int i) (.int j) G q=(CMul i j /\ q (.int (i * j)) G)) /\
  (∀ a k G q,xMul (.ref a) (.int k) G q=(match G a with | some (.lst xs)=>(-(2 ^ 63)<=k /\ k < 2 ^ 63 /\ xs.length * k.toNat<=sizeLine) /\ ∀ p,G p=none->q (.ref p) (gup G p (.lst (List.replicate k.toNat xs).flatten)) | _=>False)) /\
  (∀ i j G q,xLt (.int i) (.int j) G q=q (.bl (decide (i < j))) G) /\
  (∀ ds i G q,xIx (.tup ds) (.int i) G q=(match atI ds i with | some d=>q d G | none=>False)) /\
  (∀ a i G q,xIx (.ref a) (.int i) G q=(match u19 (G a) with | some ds=>(match atI ds i with | some d=>q d G | none=>False) | none=>False)) /\
  (∀ xs G q,xLen [.tup xs] G q=q (.int xs.length) G) /\ (∀ a G q,xLen [.ref a] G q=(match u19 (G a) with | some xs=>q (.int xs.length) G | none=>False)) :=
 ⟨fun _ _ _ _=>rfl,fun _ _ _ _=>rfl,fun _ _ _ _=>rfl,fun _ _ _ _=>rfl,fun _ _ _ _=>rfl,fun _ _ _ _=>rfl,fun _ _ _ _=>rfl,fun _ _ _ _=>rfl,fun _ _ _ _=>rfl,fun _ _ _ _=>rfl,fun _ _ _ _=>rfl,fun _ _ _ _=>rfl,fun _ _ _ _=>rfl,fun _ _ _ _=>rfl,fun _ _ _=>rfl,fun _ _ _=>rfl⟩
theorem w71:(∀ f i j G q,xInt f (.int i) (.int j) G q=q (.int (f i j)) G) /\ (∀ C f i j G q,ul9 C f (.int i) (.int j) G q=(C i j /\ q (.int (f i j)) G)) /\ (∀ i j G q,xLe (.int i) (.int j) G q=q (.bl (decide (i<=j))) G) /\
  (∀ i j G q,xGt (.int i) (.int j) G q=q (.bl (decide (j < i))) G) /\ (∀ i j G q,xGe (.int i) (.int j) G q=q (.bl (decide (j<=i))) G) /\ (∀ i G q,xNeg (.int i) G q=q (.int (-i)) G) /\
  (∀ a k v G q,xSet (.ref a) (.int k) v G q=(match G a with | some (.lst ds)=>(match ixN ds.length k with | some j=>q (gup G a (.lst (ds.set j v))) | none=>False) | _=>False)) /\
  (∀ a lo hi G q,ut5 (.ref a) lo hi G q=(match u19 (G a) with | some ds=>∀ p,G p=none->q (.ref p) (gup G p (.lst (cutD ds lo hi))) | none=>False)) /\
  (∀ ds lo hi G q,ut5 (.tup ds) lo hi G q=(¬ (HT.sIx ds.length 0 lo=0 /\ HT.sIx ds.length ds.length hi=ds.length) /\ q (.tup (cutD ds lo hi)) G)) /\
  (∀ x G q,xIs2 x .non G q=(match x with | .non=>q (.bl true) G | _=>q (.bl false) G)) /\ (∀ x b G q,xIs2 x (.bl b) G q=(match x with | .bl c=>q (.bl (decide (c=b))) G | _=>q (.bl false) G)) /\
  (∀ x G q,uj2 x .non G q=(match x with | .non=>q (.bl false) G | _=>q (.bl true) G)) /\ (∀ x b G q,uj2 x (.bl b) G q=(match x with | .bl c=>q (.bl (!decide (c=b))) G | _=>q (.bl true) G)) /\
  (∀ i G q,xAbs [.int i] G q=q (.int (if i < 0 then -i else i)) G) /\ (∀ i j G q,uq6 [.int i,.int j] G q=(CDiv i j /\ q (.tup [.int (i / j),.int (i % j)]) G)) /\
  (∀ i j G q,wt8 [.int i,.int j] G q=q (.int (if j > i then j else i)) G) /\ (∀ i j G q,vq8 [.int i,.int j] G q=q (.int (if j < i then j else i)) G) /\
  (∀ i G q,ut4 [.int i] G q=q (.int i) G) /\ (∀ b G q,ut4 [.bl b] G q=q (.int (if b then 1 else 0)) G) /\
  (∀ xs G q,uj1 [.tup xs] G q=∀ p,G p=none->q (.ref p) (gup G p (.lst xs))) /\ (∀ a G q,uj1 [.ref a] G q=(match u19 (G a) with | some xs=>∀ p,G p=none->q (.ref p) (gup G p (.lst xs)) | none=>False)) /\
  (∀ xs G q,ua4 [.tup xs] G q=q (.tup xs) G) /\ (∀ a G q,ua4 [.ref a] G q=(match u19 (G a) with | some xs=>q (.tup xs) G | none=>False)) /\
  (∀ a G q,xAll [.ref a] G q=(match u19 (G a) with | some xs=>(match ut2 xs with | some bs=>q (.bl (bs.all id)) G | none=>False) | none=>False)) /\
  (∀ x T G q,uq5 [x,.ty T] G q=((T = "int" \/ T = "str" \/ T = "bool" \/ T = "list" \/ T = "tuple" \/ T = "dict") /\ (match uz4 G x with | some n=>q (.bl (subK n T)) G | none=>False))) /\
  (∀ a d G q,ue7 (.ref a) [d] G q=(match G a with | some (.lst xs)=>xs.length < sizeLine /\ q .non (gup G a (.lst (xs++[d]))) | _=>False)) /\
  (∀ a b G q,uk3 (.ref a) [.ref b] G q=(match G a,G b with | some (.lst xs),some (.lst ys)=>xs.length+ys.length<=sizeLine /\ q .non (gup G a (.lst (xs++ys))) | _,_=>False)) /\
  (∀ a G q,w05 (.ref a) [] G q=(match G a with | some (.lst _)=>q .non (gup G a (.lst [])) | _=>False)):=by
 refine ⟨?_,?_,?_,?_,?_,?_,?_,?_,?_,?_,?_,?_,?_,?_,?_,?_,?_,?_,?_,?_,?_,?_,?_,?_,?_,?_,?_,?_⟩ <;> intros <;> rfl
def strsOf:List D->Option (List Str)
 | []=>some []
 | .str x::r=>(strsOf r).map (x::·)
 | _=>none
def intsOf:List D->Option (List Int)
 | []=>some []
 | .int x::r=>(intsOf r).map (x::·)
 | _=>none
section
variable {X:Cx} {K:W.Frag} {H:Hp}
theorem u90:∀ {ds:List D} {ws:List Str} {vs:List V},strsOf ds=some ws->RelDs K H ds vs->vs=ws.map V.str
 | [],ws,vs,e,r=>by cases e;rw [r.inv_nil];rfl
 | .str b::ds,ws,vs,e,r=>by
  obtain ⟨x,xs,rfl,h1,h2⟩:=r.inv_cons;obtain ⟨ws',e',rfl⟩:=Option.map_eq_some_iff.mp (show (strsOf ds).map (b::·)=some ws from e);rw [h1.str_inv,u90 e' h2];rfl
 | .non::_,_,_,e,_=>by cases e
 | .bl _::_,_,_,e,_=>by cases e
 | .int _::_,_,_,e,_=>by cases e
 | .tup _::_,_,_,e,_=>by cases e
 | .ref _::_,_,_,e,_=>by cases e
 | .ty _::_,_,_,e,_=>by cases e
theorem ub7:∀ {ds:List D} {ws:List Int} {vs:List V},intsOf ds=some ws->RelDs K H ds vs->vs=ws.map V.int
 | [],ws,vs,e,r=>by cases e;rw [r.inv_nil];rfl
 | .int b::ds,ws,vs,e,r=>by
  obtain ⟨x,xs,rfl,h1,h2⟩:=r.inv_cons;obtain ⟨ws',e',rfl⟩:=Option.map_eq_some_iff.mp (show (intsOf ds).map (b::·)=some ws from e);rw [h1.int_inv,ub7 e' h2];rfl
 | .non::_,_,_,e,_=>by cases e
 | .bl _::_,_,_,e,_=>by cases e
 | .str _::_,_,_,e,_=>by cases e
 | .tup _::_,_,_,e,_=>by cases e
 | .ref _::_,_,_,e,_=>by cases e
 | .ty _::_,_,_,e,_=>by cases e
theorem ur7 {w:Str} {ws:List Str}:inV (V.str w) (ws.map V.str)=decide (w ∈ ws):=by
 unfold inV
 induction ws with
 | nil=>rfl
 | cons x xs ih =>
  rw [List.map_cons,List.any_cons,ih]
  show ((x == w) || decide (w ∈ xs))=_
  by_cases h:x=w
  ·subst h;simp
  ·have h':¬ w=x:=fun e=>h e.symm
   have:(x == w)=false:=by simpa using h
   rw [this];simp [h']
theorem v77 {w:Int} {ws:List Int}:inV (V.int w) (ws.map V.int)=decide (w ∈ ws):=by
 unfold inV
 induction ws with
 | nil=>rfl
 | cons x xs ih =>
  rw [List.map_cons,List.any_cons,ih]
  show ((x == w) || decide (w ∈ xs))=_
  by_cases h:x=w
  ·subst h;simp
  ·have h':¬ w=x:=fun e=>h e.symm
   have:(x == w)=false:=by simpa using h
   rw [this];simp [h']
theorem u89:∀ ws:List Str,(ws.map V.str).all uf4=true
 | []=>rfl
 | _::ws=>by rw [List.map_cons,List.all_cons,u89 ws];rfl
theorem uf3:∀ ws:List Int,(ws.map V.int).all uf4=true
 | []=>rfl
 | _::ws=>by rw [List.map_cons,List.all_cons,uf3 ws];rfl
def xInB (neg:Bool):R3:=fun x y G q=>match x,y with
 | .str w,.tup ds=>(match strsOf ds with | some ws=>q (.bl (if neg then !decide (w ∈ ws) else decide (w ∈ ws))) G | none=>False)
 | .str w,.ref a=>(match u19 (G a) with | some ds=>(match strsOf ds with | some ws=>q (.bl (if neg then !decide (w ∈ ws) else decide (w ∈ ws))) G | none=>False) | none=>False)
 | .int w,.tup ds=>(match intsOf ds with | some ws=>q (.bl (if neg then !decide (w ∈ ws) else decide (w ∈ ws))) G | none=>False)
 | .int w,.ref a=>(match u19 (G a) with | some ds=>(match intsOf ds with | some ws=>q (.bl (if neg then !decide (w ∈ ws) else decide (w ∈ ws))) G | none=>False) | none=>False)
 | _,_=>False
theorem vo9 {neg:Bool} {x y:V} {Q:VK} (h:lowR K (xInB neg) x y H Q):rIn K neg x y H Q:=by
 obtain ⟨d,e,G,q,r1,r2,c,t,f⟩:=h;unfold xInB at t;split at t
 ·rename_i w ds
  split at t
  ·rename_i ws es
   obtain ⟨a,xs,rfl,s1,q1⟩:=r2.tup_inv;cases r1.str_inv;obtain rfl:=u90 es q1;exact ⟨a,_,rfl,.inr s1,rfl,u89 ws,f _ _ _ _ (by rw [ur7];exact RelD.blI) c (Le.refl H) t⟩
  ·exact t.elim
 ·rename_i w a
  split at t
  ·rename_i ds eq
   split at t
   ·rename_i ws es
    obtain ⟨xs,s1,q1⟩:=u26 c eq;cases r1.str_inv;obtain rfl:=u90 es q1;exact ⟨a,_,r2.ref_inv,.inl s1,rfl,u89 ws,f _ _ _ _ (by rw [ur7];exact RelD.blI) c (Le.refl H) t⟩
   ·exact t.elim
  ·exact t.elim
 ·rename_i w ds
  split at t
  ·rename_i ws es
   obtain ⟨a,xs,rfl,s1,q1⟩:=r2.tup_inv;cases r1.int_inv;obtain rfl:=ub7 es q1;exact ⟨a,_,rfl,.inr s1,rfl,uf3 ws,f _ _ _ _ (by rw [v77];exact RelD.blI) c (Le.refl H) t⟩
  ·exact t.elim
 ·rename_i w a
  split at t
  ·rename_i ds eq
   split at t
   ·rename_i ws es
    obtain ⟨xs,s1,q1⟩:=u26 c eq;cases r1.int_inv;obtain rfl:=ub7 es q1;exact ⟨a,_,r2.ref_inv,.inl s1,rfl,uf3 ws,f _ _ _ _ (by rw [v77];exact RelD.blI) c (Le.refl H) t⟩
   ·exact t.elim
  ·exact t.elim
 ·exact t.elim
theorem x_in {k:Nat} {A:Around} (_:Room k A):Op3 X (compareOp .In) (xInB false):=u78 un9 fun _ _ _ _ h=>vo9 h
theorem v10 {k:Nat} {A:Around} (_:Room k A):Op3 X (compareOp .NotIn) (xInB true):=u78 un8 fun _ _ _ _ h=>vo9 h
end
end L3
namespace L2
open PySem PySem.Spec PyProof.Rows
def Ite (K:W.Frag) (a:Addr):It :=
 ⟨fun i H=>∃ xs x,SqL K H a xs /\ xs[i]?=some x,fun i H v H'=>∃ p x,v=.ref p /\ H p=none /\ H'=upd H p (.tup [.int (i:Int),x]) /\ ∀ xs,SqL K H a xs->xs[i]?=some x,fun i H=>∃ xs,SqL K H a xs /\ xs.length<=i⟩
theorem Inv.turnedT {X:Cx} {pins:List (Addr × Obj)} {σ:List (Option V)} {H:Hp} {s:Shared} {h':Heap} {t':Nat} {e it:Addr} {o:HO} (I:Inv X pins σ H s) (k:∀ b o,b ≠ e->b ≠ it->s.heap.get? b=some o->h'.get? b=some o)
  (f:∀ b ∈ [e,it],FpOk X pins H b) (new:ObjOk X.prog X.w (upd H s.heap.objs.size o) h' s.heap.objs.size o):Inv X pins σ (upd H s.heap.objs.size o) { s with heap:=h',toks:=t' }:=by
 have hn:H s.heap.objs.size=none:=I.hok.fresh (Nat.le_refl _);have f1:=f e (by simp);have f2:=f it (by simp);have old:∀ b u,H b=some u->b ≠ s.heap.objs.size:=fun b u q z=>by rw [z,hn] at q;cases q
 have nit:∀ b u,H b=some u->b ≠ e /\ b ≠ it:=fun b u q=>⟨fun z=>(by rw [z,f1.1] at q;cases q),fun z=>(by rw [z,f2.1] at q;cases q)⟩
 have nch:∀ {b:Addr},b ∉ [e,it]->b ≠ e /\ b ≠ it:=fun hc=>⟨fun z=>hc (by simp [z]),fun z=>hc (by simp [z])⟩
 refine I.step (g':=s.gens) (d':=s.drawn) (ch:=[e,it]) (fun b hb=>?_) (fun b o _ _ hc q _=>k b o (nch hc).1 (nch hc).2 q) (fun b o _ _ hc q _=>⟨o.slots,k b o (nch hc).1 (nch hc).2 q⟩) (fun b u _ q n=>?_)
  (fun b o hc q=>⟨o,k b o (nch hc).1 (nch hc).2 q⟩) (fun b xs q=>?_) (fun b o u q=>?_) (fun b ps q=>⟨#[],?_⟩) (fun m hm=>?_) (fun b u q=>?_) I.bare
 ·obtain ⟨g0,g1,g2,g3,g4,g5⟩:=f b hb
  exact ⟨g3,g1,g4,g5⟩
 ·rw [u18 (Nat.ne_of_lt (Heap.lt_size q))];exact n
 ·rw [u18 (old b _ q)];exact q
 ·rw [u18 (old b _ q)];exact q
 ·rw [u18 (old b _ q),q];simp
 ·obtain ⟨o,es,ep,ho,r⟩:=hm
  exact ⟨o,es,ep,k _ o (Ne.symm f1.2.1) (Ne.symm f2.2.1) ho,r⟩
 ·by_cases hb:b=s.heap.objs.size
  ·subst hb;rw [u24] at q;cases q;exact new
  ·rw [u18 hb] at q
   refine (I.hok b u q).stay (fun c v hc z=>?_) (fun c z=>by rw [u18 (old c _ z)];exact z) fun c xs z=>by rw [u18 (old c _ z)];exact z
   rcases hc with y | y
   ·subst y;exact k _ v (nit _ u q).1 (nit _ u q).2 z
   ·exact k c v (nit c _ y).1 (nit c _ y).2 z
theorem v18 {P:Program} {w:World} {K:W.Frag} {elts:List Expr} {x1} {pos:Pos} (a e it:Addr) (hne:e ≠ it):Turn P w K (.Tuple elts x1 pos) (Ite K a) [e,it] e (fun i h=>(∃ old,IsEnum h e it (i:Int) old) /\ h.IsListIter it a i) where
 mem:=by simp
 obj:=fun i h st b hb=>by
  obtain ⟨⟨old,st1⟩,st2⟩:=st
  rcases List.mem_cons.mp hb with q | q
  ·subst q
   exact ⟨_,st1,fun v z=>by
    have z':Data.fields _=Data.cell v:=z;cases z'⟩
  ·have q:b=it:=by simpa using q
   subst q;obtain ⟨o,e,c,d⟩:=st2;exact ⟨o,e,fun v z=>by rw [d] at z;cases z⟩
 keep:=fun i h h' st k=>⟨st.1.elim fun old q=>⟨old,k e (by simp) _ q⟩,st.2.at fun o q=>k it (by simp) o q⟩
 item:=by
  intro X hP hw hK hc i pins s σ H E I hf st hg;subst hP hw hK;obtain ⟨⟨old,st1⟩,st2⟩:=st;obtain ⟨xs,x,hq,hx⟩:=hg;obtain ⟨its,rv,p,hz⟩:=I.list hq;obtain ⟨u,hu,ru⟩:=rv.get hx;have hel:e < s.heap.objs.size:=Heap.lt_size st1;have hn:H s.heap.objs.size=none:=I.hok.fresh (Nat.le_refl _);refine wpAny_pyNext_enum_item st1 st2 p.isList (x:=u) (by simpa using hu) hne fun h1 ho hit1 ht1 hz1 hk1=>?_
  refine ⟨_,rfl,wpAny_letOwnedTupleGo_enum ho fun h2 he2 hs2=>?_⟩
  replace hs2:Heap.SameBut e h1 h2:=hs2
  have hk2:∀ b o,b ≠ e->b ≠ it->s.heap.get? b=some o->h2.get? b=some o:=fun b o h1' h2' q=>(hs2.2 b h1').trans (hk1 b o h1' h2' q)
  have ht2:=(hs2.2 s.heap.objs.size (Nat.ne_of_gt hel)).trans ht1;refine ⟨.ref s.heap.objs.size,upd H s.heap.objs.size (.tup [.int (i:Int),x]),I.turnedT (t':=s.toks+1) hk2 hf ?_,rfl,⟨_,x,rfl,hn,rfl,fun ys hy=>by rw [I.list_inj hy hq];exact hx⟩,⟨⟨u,by simpa using he2⟩,?_⟩,fun b hb=>?_⟩
  ·exact ⟨show 2<=sizeLine by decide,[.int i s.toks,u],.cons ⟨s.toks,rfl⟩ (.cons ru .nil),⟨_,ht2,rfl,⟨_,rfl⟩,rfl⟩⟩
  ·exact hit1.at fun o q=>(hs2.2 it (Ne.symm hne)).trans q
  ·rw [u18 ?_];exact (hf b hb).1
   intro z
   rcases List.mem_cons.mp hb with q | q
   ·exact Nat.ne_of_lt hel (q ▸ z)
   ·have q:b=it:=by simpa using q
    obtain ⟨o,y,_⟩:=st2;exact Nat.ne_of_lt (Heap.lt_size y) (q ▸ z)
 done:=by
  intro X hP hw hK hc i pins s σ H E I hf st hg;subst hP hw hK;obtain ⟨⟨old,st1⟩,st2⟩:=st;obtain ⟨xs,hq,hx⟩:=hg;obtain ⟨its,rv,p,hz⟩:=I.list hq;obtain ⟨f0,f1,f2,f3,f4,f5⟩:=hf it (by simp);have hl:=rv.length;exact wpAny_pyNext_enum_end (I.ok.hd hc) st1 st2 p.isList (by simp;omega) fun h' eb=>⟨rfl,I.turned (t':=s.toks) (fun b o hb q=>eb b o hb q) f0 f1 f3 f4 f5⟩
 self:=fun _ _ _ _ _ st h=>st.1.elim fun _ q=>wpAny_pyIter_enum q h
def wn2 (K:W.Frag) (ta:TA):TI:=fun σ H R=>ta σ H fun vs H1=>∃ a,vs=[.ref a] /\ (∃ xs,SqL K H1 a xs) /\ R (Ite K a) H1
theorem va7:bootBuiltins "enumerate" = some (.type "enumerate"):=by decide
theorem vy8 {X:Cx} {elts:List Expr} {x1} {tpos:Pos} {a:Expr} {ta:TA} {p pos:Pos} (hg:Gl X "enumerate") (hm:X.mg "enumerate" = none) (ha:PA X [a] ta) (hs:starEach [a] X.env=[(false,eval a X.env)]:=by rfl) :
  PI X (.Tuple elts x1 tpos) (.Call (.Name "enumerate" p) [a] [] pos) (wn2 X.K ta):=by
 intro pins s σ H R I h;refine Call_ (u96 I hg hm va7 (PyProof.Rows.callWith_type1 (thn (ha pos pins s σ H _ I h) fun us s1 ⟨vs,H1,I1,r1,q1⟩=>?_) hs rfl));obtain ⟨l,e,⟨xs,hq⟩,q⟩:=q1;subst e;cases r1 with
 | cons r rr =>
  cases rr;cases r;obtain ⟨its,rv,pl,hz⟩:=I1.list hq;refine call_enumerate_list pl.isList fun h' he hit hsz hk=>?_
  refine wpAny_pyIter_enum he ?_;have I2:Inv X pins σ H1 { s1 with heap:=h' }:=I1.kept (t':=s1.toks) hk
  refine ⟨s1.heap.objs.size+1,[s1.heap.objs.size+1,s1.heap.objs.size],_,_,H1,rfl,I2,v18 l _ _ (Nat.succ_ne_self _),⟨⟨.none,he⟩,hit⟩,fun b hb=>?_,q⟩;have hb:s1.heap.objs.size<=b:=by
   rcases List.mem_cons.mp hb with z | z
   ·rw [z];exact Nat.le_succ _
   ·have e:b=s1.heap.objs.size:=by simpa using z
    rw [e];exact Nat.le_refl _
  exact I1.fpOk hb (I1.hok.fresh hb)
end L2
namespace L3
open PySem PySem.Spec PyProof.Rows L2
def enD:Nat->List D->List D
 | _,[]=>[]
 | i,d::r=>.tup [.int (i:Int),d]::enD (i+1) r
theorem ub9:∀ {i:Nat} {ds:List D},(enD i ds).length=ds.length
 | _,[]=>rfl
 | _,_::r=>by show (enD _ r).length+1=r.length+1;rw [ub9]
theorem v84:∀ {j i:Nat} {ds:List D} {d:D},ds[i]?=some d->(enD j ds)[i]?=some (.tup [.int ((j+i:Nat):Int),d])
 | j,0,d::r,_,h=>by cases h;rfl
 | j,i+1,d::r,e,h=>by
  have:=v84 (j:=j+1) (i:=i) (ds:=r) (d:=e) (by simpa using h)
  show (enD (j+1) r)[i]?=_
  rw [this,show j+1+i=j+(i+1) by omega]
 | _,_,[],_,h=>by simp at h
theorem uz7 {K:W.Frag} {H0:Hp} {a:Addr} {ds:List D}:ItRel K H0 ⟨enD 0 ds,fun G=>u19 (G a)=some ds⟩ (Ite K a) where
 go:=fun i G H l c ok hi=>by
  obtain ⟨xs,s,r⟩:=u26 c ok;rw [ub9] at hi;exact ⟨xs,xs[i]'(by rw [<- r.length];exact hi),s,List.getElem?_eq_getElem _⟩
 stop:=fun i G H l c ok hi=>by
  obtain ⟨xs,s,r⟩:=u26 c ok;rw [ub9] at hi;exact ⟨xs,s,by rw [<- r.length];exact hi⟩
 yld:=fun i G H x H' l c ok hi y=>by
  obtain ⟨p,v,rfl,hp,rfl,y⟩:=y;obtain ⟨xs,s,r⟩:=u26 c ok;obtain ⟨d,hd,rd⟩:=r.at_ (y xs s)
  refine ⟨c.side hp,Le.fresh hp,.tup [.int (i:Int),d],by rw [v84 hd,Nat.zero_add],?_⟩;rw [RelD];exact ⟨p,_,rfl,SqT.of u24,.cons RelD.intI (.cons (RelD.le (Le.fresh hp) rd) .nil)⟩
def vc8 (t:TA3):TI3:=fun σ G r=>t σ G fun ds G1=>match ds with
 | [.ref a]=>(match u19 (G1 a) with | some ds=>r ⟨enD 0 ds,fun G=>u19 (G a)=some ds⟩ G1 | none=>False)
 | _=>False
theorem v61 {K:W.Frag} {t:TA3} {σ:L2.St} {H:Hp} {R:It->Hp->Prop} (h:lowI K (vc8 t) σ H R):wn2 K (lowA K t) σ H R:=by
 obtain ⟨σd,G,q,rs,c,t,f⟩:=h;refine ⟨σd,G,_,rs,c,t,fun ds G1 vs H1 r1 c1 l1 t1=>?_⟩;split at t1
 ·rename_i a
  split at t1
  ·rename_i ds e
   obtain ⟨v,rfl,rv⟩:=r1.one;cases rv.ref_inv;obtain ⟨xs,s1,q1⟩:=u26 c1 e;exact ⟨a,rfl,⟨xs,s1⟩,f _ _ _ _ uz7 c1 l1 t1⟩
  ·exact t1.elim
 ·exact t1.elim
theorem ur8 {X:Cx} {elts:List Expr} {x1} {tpos:Pos} {a:Expr} {ts:TA3} {p pos:Pos} (hg:Gl X "enumerate") (hm:X.mg "enumerate" = none) (ha:A3 X [a] ts) (hs:starEach [a] X.env=[(false,eval a X.env)]:=by rfl) :
  I3 X (.Tuple elts x1 tpos) (.Call (.Name "enumerate" p) [a] [] pos) (vc8 ts):=v13 (vy8 hg hm ha hs) fun _ _ _=>v61
end L3
namespace Law
open PySem L2 L3 Rw
theorem u79 {v:Int} (h:0<=v):∃ x:Nat,v=(x:Int):=⟨v.toNat,by omega⟩
structure StAt (G:Gp) (st:Addr):Prop where
 ex:∃ (a:Addr) (ns:List Int) (k r:Int),G st=some (.lst [.ref a,.int k,.int r]) /\ G a=some (.fro (ns.map .int)) /\ 0<=k /\ 0<=r /\ a ≠ st /\ ns.length<=63
structure Adv (st:Addr) (G G':Gp):Prop where
 at_:StAt G' st
 kp:∀ b o,b ≠ st->G b=some o->G' b=some o
structure Upd1 (a:Addr) (bs:List Int) (G G':Gp):Prop where
 at_:G' a=some (.lst (bs.map .int))
 kp:∀ b,b ≠ a->G' b=G b
def flds (ra ha:Addr) (s:Nat):List (Str × D):=[("rows",.ref ra),("held",.ref ha),("spot",.int (s:Int))]
structure RideAt (C:Addr) (G:Gp) (p ra ha:Addr) (rs:List Row) (bs:List Int) (s:Nat):Prop where
 ob:G p=some (.ins C (flds ra ha s))
 ro:G ra=some (.lst (rs.map Row.d))
 he:G ha=some (.lst (bs.map .int))
 ne:ra ≠ ha
structure Cde (sz:Nat) (rs:List Row) (bs:List Int) (s:Nat):Prop where
 bo:BsOk sz bs
 ro:∀ r ∈ rs,r.ok sz
 le:s<=rs.length
def mayF (rs:List Row) (bs:List Int) (s:Nat):Bool:=match rs[s]? with
 | none=>false
 | some (.come x n _)=>!decide (gt bs x=n)
 | some _=>true
def mayB (rs:List Row) (bs:List Int) (s:Nat):Bool:=if s=0 then false else match rs[s - 1]? with
 | none=>false
 | some (.go x n _)=>!decide (gt bs x=n)
 | some _=>true
def nxF (rs:List Row) (bs:List Int) (s:Nat):Nat × List Int:=match rs[s]? with
 | some (.go x n k)=>if gt bs x=n then (k+1,bs) else (s+1,bs)
 | some r=>(s+1,stp 1 bs r)
 | none=>(s,bs)
def nxB (rs:List Row) (bs:List Int) (s:Nat):Nat × List Int:=match rs[s - 1]? with
 | some (.come x n k)=>if gt bs x=n then (k,bs) else (s - 1,bs)
 | some r=>(s - 1,stp (-1) bs r)
 | none=>(s,bs)
theorem RideAt.pr {C:Addr} {G:Gp} {p ra ha:Addr} {rs:List Row} {bs:List Int} {s:Nat} (h:RideAt C G p ra ha rs bs s):p ≠ ra:=by
 intro e;have:=h.ob;rw [e,h.ro] at this;cases this
theorem RideAt.ph {C:Addr} {G:Gp} {p ra ha:Addr} {rs:List Row} {bs:List Int} {s:Nat} (h:RideAt C G p ra ha rs bs s):p ≠ ha:=by
 intro e;have:=h.ob;rw [e,h.he] at this;cases this
theorem StAt.new {G:Gp} {st p:Addr} {o:DO} (h:StAt G st) (hp:G p=none):StAt (gup G p o) st:=by
 obtain ⟨a,ns,k,r,h1,h2,h3⟩:=h.ex;exact ⟨a,ns,k,r,by rw [u06 (gne h1 hp)];exact h1,by rw [u06 (gne h2 hp)];exact h2,h3⟩
theorem StAt.ne {G:Gp} {st p:Addr} (h:StAt G st) (hp:G p=none):p ≠ st:=by
 obtain ⟨a,ns,k,r,h1,h2,h3⟩:=h.ex;exact Ne.symm (gne h1 hp)
theorem StAt.set {G:Gp} {st p:Addr} {xs ys:List D} (h:StAt G st) (hp:G p=some (.lst xs)) (hne:p ≠ st):StAt (gup G p (.lst ys)) st:=by
 obtain ⟨a,ns,k,r,h1,h2,h3⟩:=h.ex;have:a ≠ p:=by intro e;rw [e,hp] at h2;cases h2
 exact ⟨a,ns,k,r,by rw [u06 (Ne.symm hne)];exact h1,by rw [u06 this];exact h2,h3⟩
theorem Adv.refl {G:Gp} {st:Addr} (h:StAt G st):Adv st G G:=⟨h,fun _ _ _ e=>e⟩
theorem Adv.trans {st:Addr} {G G1 G2:Gp} (a:Adv st G G1) (b:Adv st G1 G2):Adv st G G2:=⟨b.at_,fun c o hc e=>b.kp c o hc (a.kp c o hc e)⟩
theorem Adv.new {st p:Addr} {G G1:Gp} {o:DO} (a:Adv st G G1) (hp:G1 p=none):Adv st G (gup G1 p o):=⟨a.at_.new hp,fun c u hc e=>by rw [u06 (gne (a.kp c u hc e) hp)];exact a.kp c u hc e⟩
theorem Adv.own {st p:Addr} {G G1:Gp} {xs ys:List D} (a:Adv st G G1) (hp:G p=none) (h1:G1 p=some (.lst xs)) (hne:p ≠ st):Adv st G (gup G1 p (.lst ys)) :=
 ⟨a.at_.set h1 hne,fun c u hc e=>by rw [u06 (gne e hp)];exact a.kp c u hc e⟩
theorem Adv.none {st p:Addr} {G G1:Gp} (a:Adv st G G1) (hp:G1 p=none) (hne:p ≠ st):G p=none:=by
 cases e:G p with
 | none=>rfl
 | some o=>rw [a.kp p o hne e] at hp;cases hp
theorem v45 {rs:List Row} {bs:List Int} {s:Nat} (h:s < rs.length) (hp:rs[s].plain=true):mayF rs bs s=true /\ nxF rs bs s=(s+1,stp 1 bs rs[s]):=by
 have hg:=List.getElem?_eq_getElem h
 revert hp
 unfold mayF nxF;rw [hg];cases rs[s] <;> intro hp <;> first | exact ⟨rfl,rfl⟩ | cases hp
theorem vo7 {rs:List Row} {bs:List Int} {s:Nat} (h:s < rs.length) (hp:rs[s].plain=true):mayB rs bs (s+1)=true /\ nxB rs bs (s+1)=(s,stp (-1) bs rs[s]):=by
 have hg:=List.getElem?_eq_getElem h
 revert hp
 unfold mayB nxB;rw [if_neg (by omega),Nat.add_sub_cancel,hg];cases rs[s] <;> intro hp <;> first | exact ⟨rfl,rfl⟩ | cases hp
structure Kept (p ha:Addr) (G G':Gp):Prop where
 kp:∀ b o,b ≠ p->b ≠ ha->G b=some o->G' b=some o
theorem Kept.refl {p ha:Addr} {G:Gp}:Kept p ha G G:=⟨fun _ _ _ _ h=>h⟩
theorem Kept.eqs {p ha:Addr} {G G1 G2:Gp} (a:Kept p ha G G1) (b:∀ c,c ≠ p->c ≠ ha->G2 c=G1 c):Kept p ha G G2:=⟨fun c o h1 h2 h=>by rw [b c h1 h2];exact a.kp c o h1 h2 h⟩
end Law
namespace Rw
open PySem L2 L3
theorem ud6 {α β:Type} {f:α->Option β}:∀ {xs:List α},(∀ x ∈ xs,∃ y,f x=some y)->∃ ys,xs.mapM f=some ys
 | [],_=>⟨[],rfl⟩
 | x::xs,h=>by
  obtain ⟨y,hy⟩:=h x List.mem_cons_self;obtain ⟨ys,hys⟩:=ud6 (xs:=xs) fun z hz=>h z (List.mem_cons_of_mem _ hz)
  exact ⟨y::ys,by rw [List.mapM_cons,hy,hys];rfl⟩
theorem uk9 {n:Nat}:∀ {ys:List Sn},(∀ y ∈ ys,eqN n y y=some true)->∃ bs,((ys.zip ys).mapM fun p=>eqN n p.1 p.2)=some bs /\ bs.all id=true
 | [],_=>⟨[],rfl,rfl⟩
 | y::ys,h=>by
  obtain ⟨bs,e,q⟩:=uk9 (ys:=ys) fun z hz=>h z (List.mem_cons_of_mem _ hz)
  refine ⟨true::bs,?_,by rw [List.all_cons,q];rfl⟩;rw [List.zip_cons_cons,List.mapM_cons,e,h y List.mem_cons_self];rfl
theorem uk2 {α β:Type} {f:α->Option β}:∀ {xs:List α} {ys:List β},xs.mapM f=some ys->∀ y ∈ ys,∃ x,f x=some y
 | [],ys,h,y,hy=>by
  have:ys=[]:=by simpa using h.symm
  subst this;cases hy
 | x::xs,ys,h,y,hy=>by
  rw [List.mapM_cons] at h;cases hx:f x with
  | none=>rw [hx] at h;cases h
  | some z =>
   rw [hx] at h;cases hr:xs.mapM f with
   | none=>rw [hr] at h;cases h
   | some r =>
    rw [hr] at h;have e:z::r=ys:=Option.some.inj h;subst e
    rcases List.mem_cons.mp hy with rfl | q
    ·exact ⟨x,hx⟩
    ·exact uk2 hr y q
theorem uf5 {G:Gp}:∀ (n:Nat) {d:D} {s:Sn},snap G n d=some s->eqN n s s=some true
 | n,.non,s,h=>by cases n <;> (cases h;rfl)
 | n,.bl b,s,h=>by cases n <;> (cases h;cases b <;> rfl)
 | n,.int i,s,h=>by cases n <;> (cases h;simp [eqN,u52,eqF])
 | n,.str i,s,h=>by cases n <;> (cases h;simp [eqN,u52,eqF])
 | n,.ty _,s,h=>by cases n <;> cases h
 | 0,.tup _,s,h=>by cases h
 | 0,.ref _,s,h=>by cases h
 | n+1,.tup ds,s,h=>by
  obtain ⟨ys,e,rfl⟩:=Option.map_eq_some_iff.mp (show (ds.mapM (snap G n)).map Sn.tup=some s from h);obtain ⟨bs,e2,q⟩:=uk9 (n:=n) (ys:=ys) fun y hy=>by obtain ⟨x,hx⟩:=uk2 e y hy;exact uf5 n hx
  show (if ys.length=ys.length then ((ys.zip ys).mapM fun p=>eqN n p.1 p.2).map (fun bs=>bs.all id) else none)=_
  rw [if_pos rfl,e2,Option.map_some,q]
 | n+1,.ref a,s,h=>by
  obtain ⟨ds,e0,h⟩:=Option.bind_eq_some_iff.mp (show ((u19 (G a)).bind fun ds=>(ds.mapM (snap G n)).map Sn.lst)=some s from h);obtain ⟨ys,e,rfl⟩:=Option.map_eq_some_iff.mp h;obtain ⟨bs,e2,q⟩:=uk9 (n:=n) (ys:=ys) fun y hy=>by obtain ⟨x,hx⟩:=uk2 e y hy;exact uf5 n hx
  show (if ys.length=ys.length then ((ys.zip ys).mapM fun p=>eqN n p.1 p.2).map (fun bs=>bs.all id) else some false)=_
  rw [if_pos rfl,e2,Option.map_some,q]
theorem snap_tup {G:Gp} {n:Nat} {ds:List D} (h:∀ d ∈ ds,∃ s,snap G n d=some s):∃ s,snap G (n+1) (.tup ds)=some s:=by
 obtain ⟨ys,e⟩:=ud6 h;exact ⟨.tup ys,by show (ds.mapM (snap G n)).map Sn.tup=_;rw [e];rfl⟩
theorem snap_int {G:Gp} {n:Nat} {i:Int}:∃ s,snap G n (.int i)=some s:=by cases n <;> exact ⟨_,rfl⟩
theorem snap_str {G:Gp} {n:Nat} {i:Str}:∃ s,snap G n (.str i)=some s:=by cases n <;> exact ⟨_,rfl⟩
theorem all1 {p:D->Prop} {a:D} (h:p a):∀ d ∈ [a],p d:=fun d hd=>by cases List.mem_singleton.mp hd;exact h
theorem all2 {p:D->Prop} {a:D} {r:List D} (h:p a) (hr:∀ d ∈ r,p d):∀ d ∈ a::r,p d:=fun d hd=>by
 rcases List.mem_cons.mp hd with rfl | q
 ·exact h
 ·exact hr d q
theorem uu7 {G:Gp} {n:Nat} (o:Opd):∃ s,snap G (n+1) o.d=some s:=by
 cases o with
 | num m=>exact snap_tup (all2 snap_str (all1 snap_int))
 | box y=>exact snap_tup (all2 snap_str (all1 snap_int))
theorem uu6 {G:Gp} {n:Nat} (r:Row):∃ s,snap G (n+3) r.d=some s:=by
 cases r with
 | add x o=>exact snap_tup (all2 snap_str (all2 snap_int (all1 (uu7 o))))
 | take x o=>exact snap_tup (all2 snap_str (all2 snap_int (all1 (uu7 o))))
 | turn x i cs =>
  refine snap_tup (all2 snap_str (all2 snap_int (all2 snap_int (all1 (snap_tup fun d hd=>?_)))));obtain ⟨c,_,rfl⟩:=List.mem_map.mp hd;exact snap_tup (all2 snap_int (all1 snap_int))
 | swap x y=>exact snap_tup (all2 snap_str (all2 snap_int (all1 snap_int)))
 | go x m k=>exact snap_tup (all2 snap_str (all2 snap_int (all2 snap_int (all1 snap_int))))
 | come x m k=>exact snap_tup (all2 snap_str (all2 snap_int (all2 snap_int (all1 snap_int))))
theorem snap_rows {G:Gp} {n:Nat} {a:Addr} {rs:List Row} (h:u19 (G a)=some (rs.map Row.d)):∃ s,snap G (n+4) (.ref a)=some s:=by
 obtain ⟨ys,e⟩:=ud6 (f:=snap G (n+3)) (xs:=rs.map Row.d) fun d hd=>by
  obtain ⟨r,_,rfl⟩:=List.mem_map.mp hd;exact uu6 r
 exact ⟨.lst ys,by show ((u19 (G a)).bind fun ds=>(ds.mapM (snap G (n+3))).map Sn.lst)=_;rw [h,Option.bind_some,e];rfl⟩
theorem snap_ref {G:Gp} {n:Nat} {a b:Addr} (h:u19 (G a)=u19 (G b)):snap G n (.ref a)=snap G n (.ref b):=by
 cases n with
 | zero=>rfl
 | succ n=>show ((u19 (G a)).bind _)=((u19 (G b)).bind _);rw [h]
end Rw
namespace Law
open PySem L2 L3 Rw
structure Pairs (rs:List Row):Prop where
 go:∀ (j x:Nat) (n:Int) (k:Nat),rs[j]?=some (Row.go x n k)->rs[k]?=some (.come x n j)
 co:∀ (j x:Nat) (n:Int) (k:Nat),rs[j]?=some (Row.come x n k)->rs[k]?=some (.go x n j)
theorem uk4 {α:Type} {xs:List α} {i:Nat} {x:α} (h:xs[i]?=some x):i < xs.length:=(List.getElem?_eq_some_iff.mp h).1
theorem w04 {rs:List Row} {bs:List Int} {s:Nat} (h:mayF rs bs s=true):s < rs.length:=by
 by_cases q:s < rs.length
 ·exact q
 ·unfold mayF at h;rw [List.getElem?_eq_none (by omega)] at h;cases h
theorem vg5 {rs:List Row} {bs:List Int} {s:Nat} (h:mayB rs bs s=true):s ≠ 0:=by
 intro e;subst e;cases h
theorem wu2 {rs:List Row} {bs:List Int} {s sz:Nat} (hp:Pairs rs) (c:Cde sz rs bs s) (hm:mayF rs bs s=true) :
  Cde sz rs (nxF rs bs s).2 (nxF rs bs s).1 /\ mayB rs (nxF rs bs s).2 (nxF rs bs s).1=true /\ nxB rs (nxF rs bs s).2 (nxF rs bs s).1=(s,bs):=by
 have hlt:=w04 hm;have hg:=List.getElem?_eq_getElem hlt;have hok:=c.ro _ (List.getElem_mem hlt);have pln:∀ row:Row,rs[s]=row->row.plain=true->nxF rs bs s=(s+1,stp 1 bs row) /\ (mayB rs (stp 1 bs row) (s+1)=true /\ nxB rs (stp 1 bs row) (s+1)=(s,bs)):=by
  intro row hrow hpl;have h1:=v45 (bs:=bs) hlt (by rw [hrow];exact hpl);have h2:=vo7 (bs:=stp 1 bs row) hlt (by rw [hrow];exact hpl);rw [hrow] at h1 h2;rw [hrow] at hok;refine ⟨h1.2,h2.1,?_⟩;rw [h2.2,uu4 (.inl rfl) c.bo hok]
 have fin:∀ row:Row,rs[s]=row->row.plain=true->Cde sz rs (nxF rs bs s).2 (nxF rs bs s).1 /\ mayB rs (nxF rs bs s).2 (nxF rs bs s).1=true /\ nxB rs (nxF rs bs s).2 (nxF rs bs s).1=(s,bs):=by
  intro row hrow hpl;obtain ⟨h1,h2,h3⟩:=pln row hrow hpl;rw [h1];rw [hrow] at hok;exact ⟨⟨v25 c.bo hok,c.ro,hlt⟩,h2,h3⟩
 cases hrow:rs[s] with
 | add x o=>exact fin _ hrow rfl
 | take x o=>exact fin _ hrow rfl
 | turn x i cs=>exact fin _ hrow rfl
 | swap x y=>exact fin _ hrow rfl
 | go x n k =>
  have hk:=hp.go s x n k (by rw [hg,hrow]);have hkl:=uk4 hk
  by_cases h:gt bs x=n
  ·have e:nxF rs bs s=(k+1,bs):=by unfold nxF;rw [hg,hrow];simp [h]
   rw [e];refine ⟨⟨c.bo,c.ro,hkl⟩,?_,?_⟩
   ·show mayB rs bs (k+1)=true
    unfold mayB;rw [if_neg (by omega),Nat.add_sub_cancel,hk]
   ·show nxB rs bs (k+1)=(s,bs)
    unfold nxB;rw [Nat.add_sub_cancel,hk];simp [h]
  ·have e:nxF rs bs s=(s+1,bs):=by unfold nxF;rw [hg,hrow];simp [h]
   rw [e];refine ⟨⟨c.bo,c.ro,hlt⟩,?_,?_⟩
   ·show mayB rs bs (s+1)=true
    unfold mayB;rw [if_neg (by omega),Nat.add_sub_cancel,hg,hrow];simp [h]
   ·show nxB rs bs (s+1)=(s,bs)
    unfold nxB;rw [Nat.add_sub_cancel,hg,hrow];rfl
 | come x n k =>
  have h:¬ gt bs x=n:=by unfold mayF at hm;rw [hg,hrow] at hm;simpa using hm
  have e:nxF rs bs s=(s+1,bs):=by unfold nxF;rw [hg,hrow];rfl
  rw [e];refine ⟨⟨c.bo,c.ro,hlt⟩,?_,?_⟩
  ·show mayB rs bs (s+1)=true
   unfold mayB;rw [if_neg (by omega),Nat.add_sub_cancel,hg,hrow]
  ·show nxB rs bs (s+1)=(s,bs)
   unfold nxB;rw [Nat.add_sub_cancel,hg,hrow];simp [h]
theorem wu3 {rs:List Row} {bs:List Int} {s sz:Nat} (hp:Pairs rs) (c:Cde sz rs bs s) (hm:mayB rs bs s=true) :
  Cde sz rs (nxB rs bs s).2 (nxB rs bs s).1 /\ mayF rs (nxB rs bs s).2 (nxB rs bs s).1=true /\ nxF rs (nxB rs bs s).2 (nxB rs bs s).1=(s,bs):=by
 have hle:=c.le;obtain ⟨t,rfl⟩:∃ t,s=t+1:=⟨s - 1,by have:=vg5 hm;omega⟩;have hlt:t < rs.length:=hle;have hg:=List.getElem?_eq_getElem hlt;have hok:=c.ro _ (List.getElem_mem hlt);have fin:∀ row:Row,rs[t]=row->row.plain=true->Cde sz rs (nxB rs bs (t+1)).2 (nxB rs bs (t+1)).1 /\ mayF rs (nxB rs bs (t+1)).2 (nxB rs bs (t+1)).1=true /\ nxF rs (nxB rs bs (t+1)).2 (nxB rs bs (t+1)).1=(t+1,bs):=by
  intro row hrow hpl;have h2:=vo7 (bs:=bs) hlt (by rw [hrow];exact hpl);have h1:=v45 (bs:=stp (-1) bs row) hlt (by rw [hrow];exact hpl);rw [hrow] at h1 h2 hok;rw [h2.2];have sb:=uu4 (s:=-1) (.inr rfl) c.bo hok;rw [show (-(-1):Int)=1 from rfl] at sb;refine ⟨⟨v25 c.bo hok,c.ro,Nat.le_of_lt hlt⟩,h1.1,?_⟩
  show nxF rs (stp (-1) bs row) t=_
  rw [h1.2,sb]
 cases hrow:rs[t] with
 | add x o=>exact fin _ hrow rfl
 | take x o=>exact fin _ hrow rfl
 | turn x i cs=>exact fin _ hrow rfl
 | swap x y=>exact fin _ hrow rfl
 | come x n k =>
  have hk:=hp.co t x n k (by rw [hg,hrow]);have hkl:=uk4 hk
  by_cases h:gt bs x=n
  ·have e:nxB rs bs (t+1)=(k,bs):=by unfold nxB;rw [Nat.add_sub_cancel,hg,hrow];simp [h]
   rw [e];refine ⟨⟨c.bo,c.ro,Nat.le_of_lt hkl⟩,?_,?_⟩
   ·show mayF rs bs k=true
    unfold mayF;rw [hk]
   ·show nxF rs bs k=(t+1,bs)
    unfold nxF;rw [hk];simp [h]
  ·have e:nxB rs bs (t+1)=(t,bs):=by unfold nxB;rw [Nat.add_sub_cancel,hg,hrow];simp [h]
   rw [e];refine ⟨⟨c.bo,c.ro,Nat.le_of_lt hlt⟩,?_,?_⟩
   ·show mayF rs bs t=true
    unfold mayF;rw [hg,hrow];simp [h]
   ·show nxF rs bs t=(t+1,bs)
    unfold nxF;rw [hg,hrow];rfl
 | go x n k =>
  have h:¬ gt bs x=n:=by unfold mayB at hm;rw [if_neg (by omega),Nat.add_sub_cancel,hg,hrow] at hm;simpa using hm
  have e:nxB rs bs (t+1)=(t,bs):=by unfold nxB;rw [Nat.add_sub_cancel,hg,hrow];rfl
  rw [e];refine ⟨⟨c.bo,c.ro,Nat.le_of_lt hlt⟩,?_,?_⟩
  ·show mayF rs bs t=true
   unfold mayF;rw [hg,hrow]
  ·show nxF rs bs t=(t+1,bs)
   unfold nxF;rw [hg,hrow];simp [h]
def od:Option Row->D
 | none=>.non
 | some r=>r.d
end Law
namespace Law
open PySem L2 L3 Rw
theorem StAt.grow {G G':Gp} {st:Addr} (h:StAt G st) (g:Grow G G'):StAt G' st:=by
 obtain ⟨a,ns,k,r,h1,h2,h3⟩:=h.ex;exact ⟨a,ns,k,r,g.kp _ _ h1,g.kp _ _ h2,h3⟩
theorem u29 {ra ha:Addr} {s:Nat}:List.lookup ("rows" : Str) (flds ra ha s)=some (D.ref ra) /\ List.lookup ("held" : Str) (flds ra ha s)=some (D.ref ha) /\ List.lookup ("spot" : Str) (flds ra ha s)=some (D.int (s:Int)) /\
  List.lookup ("place" : Str) (flds ra ha s)=none /\ List.lookup ("boxes" : Str) (flds ra ha s)=none /\ List.lookup ("forth" : Str) (flds ra ha s)=none /\ List.lookup ("back" : Str) (flds ra ha s)=none /\ List.lookup ("at_end" : Str) (flds ra ha s)=none /\ List.lookup ("at_begin" : Str) (flds ra ha s)=none /\
  List.lookup ("may_forth" : Str) (flds ra ha s)=none /\ List.lookup ("may_back" : Str) (flds ra ha s)=none /\ (∀ v:D,putD ("spot" : Str) v (flds ra ha s)=([("rows",.ref ra),("held",.ref ha),("spot",v)]:List (Str × D))):=by
 refine ⟨?_,?_,?_,?_,?_,?_,?_,?_,?_,?_,?_,fun v=>?_⟩ <;> simp only [flds,u95,beq_self_eq_true,List.lookup_cons,List.lookup_nil,putD,if_false,if_true]
theorem v82 {ra ha:Addr} {s:Nat}:(flds ra ha s).length < 1000:=show 3 < 1000 by decide
theorem wl6 (r:Row):(∃ x m k,r=.go x m k) \/ ∃ w rest,r.d=.tup (.str w::rest) /\ (w=("go" : Str))=False /\ ∀ (rs:List Row) (bs:List Int) (s:Nat),rs[s]?=some r->nxF rs bs s=(s+1,stp 1 bs r):=by
 cases r with
 | go x m k=>exact .inl ⟨x,m,k,rfl⟩
 | come x m k=>exact .inr ⟨_,_,rfl,uy2,fun rs bs s h=>by unfold nxF;rw [h]⟩
 | add x o=>exact .inr ⟨_,_,rfl,un2,fun rs bs s h=>by unfold nxF;rw [h]⟩
 | take x o=>exact .inr ⟨_,_,rfl,uh0,fun rs bs s h=>by unfold nxF;rw [h]⟩
 | turn x i cs=>exact .inr ⟨_,_,rfl,ug9,fun rs bs s h=>by unfold nxF;rw [h]⟩
 | swap x y=>exact .inr ⟨_,_,rfl,uh1,fun rs bs s h=>by unfold nxF;rw [h]⟩
theorem kinds3 (r:Row):(∃ x m k,r=.go x m k) \/ (∃ x m k,r=.come x m k) \/ ∃ w rest,r.d=.tup (.str w::rest) /\ (w=("go" : Str))=False /\ (w=("come" : Str))=False /\ r.plain=true:=by
 cases r with
 | go x m k=>exact .inl ⟨x,m,k,rfl⟩
 | come x m k=>exact .inr (.inl ⟨x,m,k,rfl⟩)
 | add x o=>exact .inr (.inr ⟨_,_,rfl,un2,uq8,rfl⟩)
 | take x o=>exact .inr (.inr ⟨_,_,rfl,uh0,um8,rfl⟩)
 | turn x i cs=>exact .inr (.inr ⟨_,_,rfl,ug9,um6,rfl⟩)
 | swap x y=>exact .inr (.inr ⟨_,_,rfl,uh1,un0,rfl⟩)
end Law
namespace L3
open PySem PySem.Spec PyProof.Rows L2
theorem ui2:∀ ks:List Int,intsOf (ks.map D.int)=some ks
 | []=>rfl
 | k::ks=>by show (intsOf (ks.map D.int)).map (k::·)=_;rw [ui2 ks];rfl
theorem mem2 {w a b:Str}:decide (w ∈ [a,b])=(decide (w=a) || decide (w=b)):=by
 by_cases h1:w=a
 ·simp [h1]
 ·by_cases h2:w=b
  ·simp [h2]
  ·simp [h1,h2]
theorem u41:(∀ w a b G q,xInB false (.str w) (.tup [.str a,.str b]) G q=q (.bl (decide (w=a) || decide (w=b))) G) /\ (∀ w a b G q,xInB true (.str w) (.tup [.str a,.str b]) G q=q (.bl (!(decide (w=a) || decide (w=b)))) G) /\
  (∀ v a G q,xInB true (.int v) (.ref a) G q=(match u19 (G a) with | some ds=>(match intsOf ds with | some ws=>q (.bl (!decide (v ∈ ws))) G | none=>False) | none=>False)) /\
  (∀ v a G q,xInB false (.int v) (.ref a) G q=(match u19 (G a) with | some ds=>(match intsOf ds with | some ws=>q (.bl (decide (v ∈ ws))) G | none=>False) | none=>False)) /\
  (∀ i j G q,xEqB true (.bl i) (.bl j) G q=q (.bl (!decide (i=j))) G) /\ (∀ i j G q,xEqB false (.bl i) (.bl j) G q=q (.bl (decide (i=j))) G) /\
  (∀ a b G q,xAdd (.ref a) (.ref b) G q=(match G a,G b with | some (.lst xs),some (.lst ys)=>xs.length+ys.length<=sizeLine /\ ∀ p,G p=none->q (.ref p) (gup G p (.lst (xs++ys))) | _,_=>False)) /\ ((2<=sizeLine)=True):=by
 refine ⟨fun w a b G q=>?_,fun w a b G q=>?_,fun _ _ _ _=>rfl,fun _ _ _ _=>rfl,fun _ _ _ _=>rfl,fun _ _ _ _=>rfl,fun _ _ _ _=>rfl,eq_true (by decide)⟩
 ·show q (.bl (decide (w ∈ [a,b]))) G=_
  rw [mem2]
 ·show q (.bl (!decide (w ∈ [a,b]))) G=_
  rw [mem2]
theorem ub1:∀ m:Nat,ut2 (List.replicate m (.bl true))=some (List.replicate m true)
 | 0=>rfl
 | m+1=>by rw [List.replicate_succ,ut2,ub1 m];rfl
theorem ut1 (m:Nat):(List.replicate m true).all id=true:=by simp
theorem vb2 {a p:Addr} {G0:Gp} {ks0:List Int} {bnd:Int} {te:TE3} {tl:DSt} {q:DK} (hte:∀ (v:Int) (G:Gp) (q:DK),q (.bl (decide (v < bnd))) G->te (some (.int v)::tl) G q) (ha:u19 (G0 a)=some (ks0.map .int)) (hp:a ≠ p) (hl:ks0.length<=1000) (hks:∀ k ∈ ks0,k < bnd)
  (hq:q (.ref p) (gup G0 p (.lst (List.replicate ks0.length (.bl true))))) (v0:Option D):ug5 (fun G=>u19 (G a)=some (ks0.map .int)) (uk6 0) dYes te p q (ks0.map .int) (v0::tl) (gup G0 p (.lst [])):=by
 refine u34 (fun r σ G'=>∃ (ks:List Int) (m:Nat) (v:Option D),r=ks.map .int /\ ks.length+m=ks0.length /\ (∀ k ∈ ks,k < bnd) /\ G'=gup G0 p (.lst (List.replicate m (.bl true))) /\ σ=v::tl) ⟨ks0,0,v0,rfl,by omega,hks,rfl,rfl⟩ ?_ ?_
 ·rintro σ G' ⟨ks,m,v,e,hm,_,rfl,rfl⟩
  have hk:ks=[]:=by simpa using e.symm
  subst hk;refine ⟨by rw [u06 hp];exact ha,?_⟩;have hm':m=ks0.length:=by simpa using hm
  rw [hm'];exact hq
 ·rintro z r σ G' ⟨ks,m,v,e,hm,hk,rfl,rfl⟩ ih
  cases ks with
  | nil=>cases e
  | cons k ks =>
   cases e;refine ⟨by rw [u06 hp];exact ha,?_⟩;have hk1:decide (k < bnd)=true:=decide_eq_true (hk k List.mem_cons_self);simp only [uk6,dYes,List.set_cons_zero,if_true];refine hte k _ _ ?_;rw [hk1];simp only [u02];rw [List.length_cons] at hm;refine ⟨by rw [List.length_replicate];exact Nat.lt_of_le_of_lt (m:=1000) (by omega) (by decide),?_⟩;refine ih _ _ ⟨ks,m+1,_,rfl,by omega,fun j hj=>hk j (List.mem_cons_of_mem _ hj),?_,rfl⟩;rw [u30,List.replicate_succ']
end L3
namespace Rw
open PySem L2 L3
def rb:Row->List Int
 | .add _ (.box y)=>[(y:Int)]
 | .take _ (.box y)=>[(y:Int)]
 | .turn _ _ cs=>cs.map fun c=>(c.1:Int)
 | .swap _ y=>[(y:Int)]
 | _=>[]
def rbits:Row->List Int
 | .turn _ i cs=>(i:Int)::cs.map fun c=>(c.2:Int)
 | _=>[]
def rnums:Row->List Int
 | .add _ (.num n)=>[n]
 | .take _ (.num n)=>[n]
 | .go _ n _=>[n]
 | .come _ n _=>[n]
 | _=>[]
def Row.x:Row->Nat
 | .add x _=>x
 | .take x _=>x
 | .turn x _ _=>x
 | .swap x _=>x
 | .go x _ _=>x
 | .come x _ _=>x
theorem v35 (r:Row):∃ w rest,r.d=.tup (.str w::.int (r.x:Int)::rest):=by
 cases r <;> exact ⟨_,_,rfl⟩
theorem vo6 {sz:Nat} {r:Row} (h:r.ok sz):(rb r).length<=2:=by
 cases r with
 | add x o=>cases o <;> simp [rb]
 | take x o=>cases o <;> simp [rb]
 | turn x i cs=>simp only [rb,List.length_map];exact h.2.2.1
 | swap x y=>simp [rb]
 | go x n k=>simp [rb]
 | come x n k=>simp [rb]
theorem v40 {sz:Nat} {r:Row} (h:r.ok sz):(rbits r).length<=3:=by
 cases r with
 | turn x i cs=>simp only [rbits,List.length_cons,List.length_map];have:=h.2.2.1;omega
 | add x o=>simp [rbits]
 | take x o=>simp [rbits]
 | swap x y=>simp [rbits]
 | go x n k=>simp [rbits]
 | come x n k=>simp [rbits]
theorem v36 {r:Row}:(rnums r).length<=1:=by
 cases r with
 | add x o=>cases o <;> simp [rnums]
 | take x o=>cases o <;> simp [rnums]
 | turn x i cs=>simp [rnums]
 | swap x y=>simp [rnums]
 | go x n k=>simp [rnums]
 | come x n k=>simp [rnums]
theorem ok_x {sz:Nat} {r:Row} (h:r.ok sz):r.x < sz:=by
 cases r <;> exact h.1
theorem we8 {sz:Nat} {r:Row} (h:r.ok sz):∀ k ∈ rb r,k < (sz:Int) /\ k ≠ (r.x:Int):=by
 intro k hk;cases r with
 | add x o =>
  cases o with
  | num n=>cases hk
  | box y=>rw [rb,List.mem_singleton] at hk;subst hk;have:=h.2;exact ⟨by have:=this.1;omega,by have:=this.2;show (y:Int) ≠ (x:Int);omega⟩
 | take x o =>
  cases o with
  | num n=>cases hk
  | box y=>rw [rb,List.mem_singleton] at hk;subst hk;have:=h.2;exact ⟨by have:=this.1;omega,by have:=this.2;show (y:Int) ≠ (x:Int);omega⟩
 | turn x i cs =>
  obtain ⟨c,hc,rfl⟩:=List.mem_map.mp hk;have:=h.2.2.2 c hc;exact ⟨by have:=this.1;omega,by have:=this.2.1;show (c.1:Int) ≠ (x:Int);omega⟩
 | swap x y=>rw [rb,List.mem_singleton] at hk;subst hk;have:=h.2;exact ⟨by have:=this.1;omega,by have:=this.2;show (y:Int) ≠ (x:Int);omega⟩
 | go x n k=>cases hk
 | come x n k=>cases hk
theorem wg2 {sz:Nat} {r:Row} (h:r.ok sz):∀ k ∈ rbits r,k < 32:=by
 intro k hk;cases r with
 | turn x i cs =>
  rcases List.mem_cons.mp hk with rfl | hk
  ·have:=h.2.1;omega
  ·obtain ⟨c,hc,rfl⟩:=List.mem_map.mp hk
   have:=(h.2.2.2 c hc).2.2;omega
 | add x o=>cases hk
 | take x o=>cases hk
 | swap x y=>cases hk
 | go x n k=>cases hk
 | come x n k=>cases hk
theorem wg1 {sz:Nat} {r:Row} (h:r.ok sz):∀ k ∈ rnums r,k < 4294967296:=by
 intro k hk;cases r with
 | add x o =>
  cases o with
  | num n=>rw [rnums,List.mem_singleton] at hk;subst hk;exact h.2.2
  | box y=>cases hk
 | take x o =>
  cases o with
  | num n=>rw [rnums,List.mem_singleton] at hk;subst hk;exact h.2.2
  | box y=>cases hk
 | turn x i cs=>cases hk
 | swap x y=>cases hk
 | go x n k=>rw [rnums,List.mem_singleton] at hk;subst hk;exact h.2.2
 | come x n k=>rw [rnums,List.mem_singleton] at hk;subst hk;exact h.2.2
theorem vp1 (r:Row):(∃ w x o,(r=.add x o \/ r=.take x o) /\ r.d=.tup [.str w,.int (x:Int),o.d] /\ (decide (w=("add" : Str)) || decide (w=("take" : Str)))=true) \/ (∃ x i cs,r=.turn x i cs) \/ (∃ x y,r=.swap x y) \/
  ∃ w x n k,(r=.go x n k \/ r=.come x n k) /\ r.d=.tup [.str w,.int (x:Int),.int n,.int (k:Int)] /\ (decide (w=("add" : Str)) || decide (w=("take" : Str)))=false /\ (w=("turn" : Str))=False /\ (w=("swap" : Str))=False /\ (decide (w=("go" : Str)) || decide (w=("come" : Str)))=true:=by
 cases r with
 | add x o=>exact .inl ⟨_,x,o,.inl rfl,rfl,by decide⟩
 | take x o=>exact .inl ⟨_,x,o,.inr rfl,rfl,by decide⟩
 | turn x i cs=>exact .inr (.inl ⟨x,i,cs,rfl⟩)
 | swap x y=>exact .inr (.inr (.inl ⟨x,y,rfl⟩))
 | go x n k=>exact .inr (.inr (.inr ⟨_,x,n,k,.inl rfl,rfl,by decide,uh2,uy1,by decide⟩))
 | come x n k=>exact .inr (.inr (.inr ⟨_,x,n,k,.inr rfl,rfl,by decide,uc2,un1,by decide⟩))
theorem wl7 (r:Row):(∃ x i cs,r=.turn x i cs) \/ ∃ w rest,r.d=.tup (.str w::rest) /\ (w=("turn" : Str))=False /\ rbits r=[]:=by
 cases r with
 | turn x i cs=>exact .inl ⟨x,i,cs,rfl⟩
 | add x o=>exact .inr ⟨_,_,rfl,uq7,rfl⟩
 | take x o=>exact .inr ⟨_,_,rfl,um7,rfl⟩
 | swap x y=>exact .inr ⟨_,_,rfl,um9,rfl⟩
 | go x n k=>exact .inr ⟨_,_,rfl,uh2,rfl⟩
 | come x n k=>exact .inr ⟨_,_,rfl,uc2,rfl⟩
theorem va1 {G:Gp} {xs ys:List D} {r:Row} {Q:Bool->Prop} (h1:D.tup xs=r.d) (h2:D.tup ys=r.d) (h:Q true) :
  ∃ n sd se b,n<=40 /\ snap G n (.tup xs)=some sd /\ snap G n (.tup ys)=some se /\ eqN n sd se=some b /\ Q b:=by
 obtain ⟨s,hs⟩:=uu6 (G:=G) (n:=0) r;rw [h1,h2];exact ⟨3,s,s,true,by decide,hs,hs,uf5 3 hs,h⟩
end Rw
namespace Law
open PySem L2 L3 Rw
def mayX (fw:Bool) (rs:List Row) (bs:List Int) (s:Nat):Bool:=if fw=true then mayF rs bs s else mayB rs bs s
def nxX (fw:Bool) (rs:List Row) (bs:List Int) (s:Nat):Nat × List Int:=if fw=true then nxF rs bs s else nxB rs bs s
theorem wu1 {fw:Bool} {rs:List Row} {bs:List Int} {s sz:Nat} (hp:Pairs rs) (c:Cde sz rs bs s) (hm:mayX fw rs bs s=true) :
  Cde sz rs (nxX fw rs bs s).2 (nxX fw rs bs s).1 /\ mayX (!fw) rs (nxX fw rs bs s).2 (nxX fw rs bs s).1=true /\ nxX (!fw) rs (nxX fw rs bs s).2 (nxX fw rs bs s).1=(s,bs):=by
 cases fw with
 | true=>exact wu2 hp c hm
 | false=>exact wu3 hp c hm
def rn (fw:Bool) (rs:List Row):Nat->Nat->List Int->Nat × Nat × List Int
 | 0,s,bs=>(0,s,bs)
 | n+1,s,bs=>if mayX fw rs bs s=true then ((rn fw rs n (nxX fw rs bs s).1 (nxX fw rs bs s).2).1+1,(rn fw rs n (nxX fw rs bs s).1 (nxX fw rs bs s).2).2) else (0,s,bs)
def wrd (fw:Bool) (rs:List Row) (bs:List Int) (s:Nat):Str :=
 if s=(if fw=true then rs.length else 0) then (if fw=true then "end" else "begin") else if mayX fw rs bs s=true then "tired" else "torn"
def outD (fw:Bool) (rs:List Row) (r:Nat × Nat × List Int) (q:Addr):D:=.tup [.str (wrd fw rs r.2.2 r.2.1),.int (r.2.1:Int),.ref q,.int (r.1:Int)]
theorem wa6 {fw:Bool} {rs:List Row} {n s:Nat} {bs:List Int} (h:mayX fw rs bs s=true):rn fw rs (n+1) s bs=((rn fw rs n (nxX fw rs bs s).1 (nxX fw rs bs s).2).1+1,(rn fw rs n (nxX fw rs bs s).1 (nxX fw rs bs s).2).2):=by
 show (if mayX fw rs bs s=true then _ else _)=_
 rw [if_pos h]
theorem v37 {fw:Bool} {rs:List Row} {n s:Nat} {bs:List Int} (h:mayX fw rs bs s=false):rn fw rs n s bs=(0,s,bs):=by
 cases n with
 | zero=>rfl
 | succ n=>show (if mayX fw rs bs s=true then _ else _)=_;rw [if_neg (by rw [h];exact Bool.false_ne_true)]
structure RnI (fw:Bool) (rs:List Row) (most s0:Nat) (bs0:List Int) (k s:Nat) (bs:List Int):Prop where
 le:k<=most
 eq:rn fw rs most s0 bs0=(k+(rn fw rs (most - k) s bs).1,(rn fw rs (most - k) s bs).2)
theorem RnI.init {fw:Bool} {rs:List Row} {most s0:Nat} {bs0:List Int}:RnI fw rs most s0 bs0 0 s0 bs0:=⟨Nat.zero_le _,by rw [Nat.sub_zero,Nat.zero_add]⟩
theorem RnI.step {fw:Bool} {rs:List Row} {most s0 k s:Nat} {bs0 bs:List Int} (h:RnI fw rs most s0 bs0 k s bs) (hk:k < most) (hm:mayX fw rs bs s=true):RnI fw rs most s0 bs0 (k+1) (nxX fw rs bs s).1 (nxX fw rs bs s).2:=by
 refine ⟨hk,?_⟩;rw [h.eq,show most - k=(most - (k+1))+1 by omega,wa6 hm]
 show (k+((rn fw rs (most - (k+1)) _ _).1+1),_)=_
 rw [show ∀ a:Nat,k+(a+1)=k+1+a from fun a=>by omega]
theorem RnI.stop {fw:Bool} {rs:List Row} {most s0 k s:Nat} {bs0 bs:List Int} (h:RnI fw rs most s0 bs0 k s bs) (hk:¬ k < most \/ mayX fw rs bs s=false):rn fw rs most s0 bs0=(k,s,bs):=by
 have e:rn fw rs (most - k) s bs=(0,s,bs):=by
  rcases hk with hk | hk
  ·have:=h.le
   rw [show most - k=0 by omega];rfl
  ·exact v37 hk
 rw [h.eq,e];rfl
end Law
namespace L2
open PySem PySem.Spec PyProof.Rows
theorem Inv.turnedN {X:Cx} {pins:List (Addr × Obj)} {σ:List (Option V)} {H:Hp} {s:Shared} {h':Heap} {t':Nat} {fp:List Addr} (I:Inv X pins σ H s) (k:∀ b o,b ∉ fp->s.heap.get? b=some o->h'.get? b=some o)
  (f:∀ b ∈ fp,FpOk X pins H b):Inv X pins σ H { s with heap:=h',toks:=t' }:=by
 have nit:∀ b u,H b=some u->b ∉ fp:=fun b u e z=>by rw [(f b z).1] at e;cases e
 refine I.step (g':=s.gens) (d':=s.drawn) (ch:=fp) (fun b hb=>?_) (fun b o _ _ hc e _=>k b o hc e) (fun b o _ _ hc e _=>⟨o.slots,k b o hc e⟩) (fun _ _ _ _ n=>n)
  (fun b o hc e=>⟨o,k b o hc e⟩) (fun _ _ e=>e) (fun _ _ _ e=>e) (fun b ps e=>⟨#[],by rw [e];simp⟩) (fun m hm=>?_) (fun b u e=>?_) I.bare
 ·obtain ⟨g0,g1,g2,g3,g4,g5⟩:=f b hb
  exact ⟨g3,g1,g4,g5⟩
 ·obtain ⟨o,es,ep,ho,r⟩:=hm
  exact ⟨o,es,ep,k _ o (fun z=>(f _ z).2.1 rfl) ho,r⟩
 ·refine (I.hok b u e).stay (fun c v hc q=>k c v ?_ q) (fun _ q=>q) fun _ _ q=>q
  rcases hc with z | z
  ·rw [z];exact nit b u e
  ·exact nit c _ z
theorem Inv.turnedL {X:Cx} {pins:List (Addr × Obj)} {σ:List (Option V)} {H:Hp} {s:Shared} {h':Heap} {t':Nat} {fp:List Addr} {o:HO} (I:Inv X pins σ H s) (k:∀ b o,b ∉ fp->s.heap.get? b=some o->h'.get? b=some o)
  (f:∀ b ∈ fp,FpOk X pins H b) (new:ObjOk X.prog X.w (upd H s.heap.objs.size o) h' s.heap.objs.size o):Inv X pins σ (upd H s.heap.objs.size o) { s with heap:=h',toks:=t' }:=by
 have hn:H s.heap.objs.size=none:=I.hok.fresh (Nat.le_refl _);have old:∀ b u,H b=some u->b ≠ s.heap.objs.size:=fun b u q z=>by rw [z,hn] at q;cases q
 have nit:∀ b u,H b=some u->b ∉ fp:=fun b u e z=>by rw [(f b z).1] at e;cases e
 refine I.step (g':=s.gens) (d':=s.drawn) (ch:=fp) (fun b hb=>?_) (fun b o _ _ hc q _=>k b o hc q) (fun b o _ _ hc q _=>⟨o.slots,k b o hc q⟩) (fun b u _ q n=>?_)
  (fun b o hc q=>⟨o,k b o hc q⟩) (fun b xs q=>?_) (fun b o u q=>?_) (fun b ps q=>⟨#[],?_⟩) (fun m hm=>?_) (fun b u q=>?_) I.bare
 ·obtain ⟨g0,g1,g2,g3,g4,g5⟩:=f b hb
  exact ⟨g3,g1,g4,g5⟩
 ·rw [u18 (Nat.ne_of_lt (Heap.lt_size q))];exact n
 ·rw [u18 (old b _ q)];exact q
 ·rw [u18 (old b _ q)];exact q
 ·rw [u18 (old b _ q),q];simp
 ·obtain ⟨o,es,ep,ho,r⟩:=hm
  exact ⟨o,es,ep,k _ o (fun z=>(f _ z).2.1 rfl) ho,r⟩
 ·by_cases hb:b=s.heap.objs.size
  ·subst hb;rw [u24] at q;cases q;exact new
  ·rw [u18 hb] at q
   refine (I.hok b u q).stay (fun c v hc z=>?_) (fun c z=>by rw [u18 (old c _ z)];exact z) fun c xs z=>by rw [u18 (old c _ z)];exact z
   rcases hc with y | y
   ·subst y;exact k _ v (nit _ u q) z
   ·exact k c v (nit c _ y) z
def Itz (K:W.Frag) (a b:Addr):It :=
 ⟨fun i H=>∃ xs ys x y,SqL K H a xs /\ SqL K H b ys /\ xs[i]?=some x /\ ys[i]?=some y,fun i H v H'=>∃ p x y,v=.ref p /\ H p=none /\ H'=upd H p (.tup [x,y]) /\ (∀ xs,SqL K H a xs->xs[i]?=some x) /\ ∀ ys,SqL K H b ys->ys[i]?=some y,
  fun i H=>∃ xs ys,SqL K H a xs /\ SqL K H b ys /\ (xs.length<=i \/ ys.length<=i)⟩
def ZpSt (a b z TI TO i1 i2:Addr) (i:Nat) (h:Heap):Prop:=IsZip h z TI TO .none /\ IsPair h TI (.ref i1) (.ref i2) /\ (∃ u v,IsPair h TO u v) /\ h.IsListIter i1 a i /\ h.IsListIter i2 b i
theorem vd0 {P:Program} {w:World} {K:W.Frag} {elts:List Expr} {x1} {pos:Pos} {a b z TI TO i1 i2:Addr} (ap:ZipApart z TI TO i1 i2 a b):Turn P w K (.Tuple elts x1 pos) (Itz K a b) [z,TI,TO,i1,i2] z (ZpSt a b z TI TO i1 i2) where
 mem:=by simp
 obj:=fun i h st c hc=>by
  obtain ⟨h1,h2,⟨u,v,h3⟩,h4,h5⟩:=st;simp only [List.mem_cons,List.not_mem_nil,or_false] at hc
  rcases hc with q | q | q | q | q <;> subst q
  ·exact ⟨_,h1,fun v z=>by cases (show Data.fields _=Data.cell v from z)⟩
  ·exact ⟨_,h2,fun v z=>by cases (show Data.seq _ _=Data.cell v from z)⟩
  ·exact ⟨_,h3,fun v z=>by cases (show Data.seq _ _=Data.cell v from z)⟩
  ·obtain ⟨o,e,c,d⟩:=h4
   exact ⟨o,e,fun v z=>by rw [d] at z;cases z⟩
  ·obtain ⟨o,e,c,d⟩:=h5
   exact ⟨o,e,fun v z=>by rw [d] at z;cases z⟩
 keep:=fun i h h' st k=>by
  obtain ⟨h1,h2,⟨u,v,h3⟩,h4,h5⟩:=st;exact ⟨k z (by simp) _ h1,k TI (by simp) _ h2,⟨u,v,k TO (by simp) _ h3⟩,h4.at fun o q=>k i1 (by simp) o q,h5.at fun o q=>k i2 (by simp) o q⟩
 item:=by
  intro X hP hw hK hc i pins s σ H E I hf st hg;subst hP hw hK;obtain ⟨h1,h2,⟨u0,v0,h3⟩,h4,h5⟩:=st;obtain ⟨xs,ys,x,y,hq,hq2,hx,hy⟩:=hg;obtain ⟨its,rv,p,hz⟩:=I.list hq;obtain ⟨its2,rv2,p2,hz2⟩:=I.list hq2;obtain ⟨u,hu,ru⟩:=rv.get hx;obtain ⟨u2,hu2,ru2⟩:=rv2.get hy;have hn:H s.heap.objs.size=none:=I.hok.fresh (Nat.le_refl _);have lt:∀ {c o},s.heap.get? c=some o->c ≠ s.heap.objs.size:=fun e=>Nat.ne_of_lt (Heap.lt_size e)
  refine wpAny_pyNext_zip_item ap h1 h2 h3 h4 h5 p.isList p2.isList (x:=u) (y:=u2) (by simpa using hu) (by simpa using hu2) fun h' k1 k2 k3 k4 k5 k6 k7=>?_
  refine ⟨_,rfl,wpAny_letOwnedTupleGo_zip k1 fun h'' m1 m2=>?_⟩
  replace m2:Heap.SameBut z h' h'':=m2
  have hk:∀ c o,c ∉ [z,TI,TO,i1,i2]->s.heap.get? c=some o->h''.get? c=some o:=fun c o hc q=>by
   simp only [List.mem_cons,List.not_mem_nil,or_false,not_or] at hc;exact (m2.2 c hc.1).trans (k7 c o hc.1 hc.2.2.1 hc.2.2.2.1 hc.2.2.2.2 q)
  have k5':=(m2.2 s.heap.objs.size (Ne.symm (lt h1))).trans k5;refine ⟨.ref s.heap.objs.size,upd H s.heap.objs.size (.tup [x,y]),I.turnedL (t':=s.toks) hk hf ?_,rfl,⟨_,x,y,rfl,hn,rfl,fun ws hy'=>by rw [I.list_inj hy' hq];exact hx,fun ws hy'=>by rw [I.list_inj hy' hq2];exact hy⟩,⟨m1,?_,⟨u,u2,?_⟩,?_,?_⟩,fun c hc=>?_⟩
  ·exact ⟨show 2<=sizeLine by decide,[u,u2],.cons ru (.cons ru2 .nil),⟨_,k5',rfl,⟨_,rfl⟩,rfl⟩⟩
  ·exact (m2.2 TI ap.TIz).trans (k7 TI _ ap.TIz ap.TITO ap.TIi1 ap.TIi2 h2)
  ·exact (m2.2 TO ap.TOz).trans k2
  ·exact k3.at fun o q=>(m2.2 i1 ap.i1z).trans q
  ·exact k4.at fun o q=>(m2.2 i2 ap.i2z).trans q
  ·rw [u18 ?_];exact (hf c hc).1
   simp only [List.mem_cons,List.not_mem_nil,or_false] at hc
   rcases hc with q | q | q | q | q <;> subst q
   ·exact lt h1
   ·exact lt h2
   ·exact lt h3
   ·obtain ⟨o,e,_⟩:=h4;exact lt e
   ·obtain ⟨o,e,_⟩:=h5;exact lt e
 done:=by
  intro X hP hw hK hc i pins s σ H E I hf st hg;subst hP hw hK;obtain ⟨h1,h2,⟨u0,v0,h3⟩,h4,h5⟩:=st;obtain ⟨xs,ys,hq,hq2,hx⟩:=hg;obtain ⟨its,rv,p,hz⟩:=I.list hq;obtain ⟨its2,rv2,p2,hz2⟩:=I.list hq2;have hl:=rv.length;have hl2:=rv2.length;refine wpAny_pyNext_zip_end (I.ok.hd hc) ap h1 h2 h3 h4 h5 p.isList p2.isList (by simp;omega) fun h' k=>⟨rfl,I.turnedN (fp:=[z,TI,TO,i1,i2]) (t':=s.toks) (fun c o hc q=>?_) hf⟩
  simp only [List.mem_cons,List.not_mem_nil,or_false,not_or] at hc;exact k c o hc.1 hc.2.2.1 hc.2.2.2.1 hc.2.2.2.2 q
 self:=fun _ _ _ _ _ st h=>wpAny_pyIter_zip st.1 h
def iZip (K:W.Frag) (ta:TA):TI:=fun σ H R=>ta σ H fun vs H1=>∃ a b,vs=[.ref a,.ref b] /\ (∃ xs,SqL K H1 a xs) /\ (∃ xs,SqL K H1 b xs) /\ R (Itz K a b) H1
theorem wc0 {X:Cx} {elts:List Expr} {x1} {tpos:Pos} {a b:Expr} {ta:TA} {p pos:Pos} (hg:Gl X "zip") (hm:X.mg "zip" = none) (ha:PA X [a,b] ta) (hs:starEach [a,b] X.env=(false,eval a X.env)::starEach [b] X.env:=by rfl) (hs2:(backTo pos (starEach [b] X.env)).any (·.1)=false:=by rfl) :
  PI X (.Tuple elts x1 tpos) (.Call (.Name "zip" p) [a,b] [] pos) (iZip X.K ta):=by
 intro pins s σ H R I h;refine Call_ (u96 I hg hm boot_zip (PyProof.Rows.callWith_type1 (thn (ha pos pins s σ H _ I h) fun us s1 ⟨vs,H1,I1,r1,q1⟩=>?_) hs hs2));obtain ⟨l,m,e,⟨xs,hq⟩,⟨ys,hq2⟩,q⟩:=q1;subst e;cases r1 with
 | cons r rr =>
  cases rr with
  | cons r2 rr =>
   cases rr;cases r;cases r2;obtain ⟨its,rv,pl,hz⟩:=I1.list hq;obtain ⟨its2,rv2,pl2,hz2⟩:=I1.list hq2;have hll:l < s1.heap.objs.size:=by obtain ⟨o,e,_⟩:=pl.isList;exact Heap.lt_size e
   have hlm:m < s1.heap.objs.size:=by obtain ⟨o,e,_⟩:=pl2.isList;exact Heap.lt_size e
   refine call_zip_2 pl.isList pl2.isList fun h' k1 k2 k3 k4 k5 k6 k7=>?_
   refine wpAny_pyIter_zip k1 ?_;have I2:Inv X pins σ H1 { s1 with heap:=h' }:=I1.kept (t':=s1.toks) k7
   refine ⟨_,_,_,_,H1,rfl,I2,vd0 (zipApart_new hll hlm),⟨k1,k2,⟨_,_,k3⟩,k4,k5⟩,fun c hc=>?_,q⟩;have hb:s1.heap.objs.size<=c:=by
    simp only [List.mem_cons,List.not_mem_nil,or_false] at hc
    rcases hc with q | q | q | q | q <;> subst q <;> omega
   exact I1.fpOk hb (I1.hok.fresh hb)
end L2
namespace L3
open PySem PySem.Spec PyProof.Rows L2
def zpD:List D->List D->List D
 | d::r,e::t=>.tup [d,e]::zpD r t
 | _,_=>[]
theorem uq2:∀ {ds es:List D},(zpD ds es).length=min ds.length es.length
 | [],[]=>rfl
 | [],_::_=>by simp [zpD]
 | _::_,[]=>by simp [zpD]
 | _::r,_::t=>by show (zpD r t).length+1=_;rw [uq2];simp
theorem v06:∀ {i:Nat} {ds es:List D} {d e:D},ds[i]?=some d->es[i]?=some e->(zpD ds es)[i]?=some (.tup [d,e])
 | 0,d::r,e::t,_,_,h1,h2=>by cases h1;cases h2;rfl
 | i+1,d::r,e::t,_,_,h1,h2=>v06 (i:=i) (ds:=r) (es:=t) (by simpa using h1) (by simpa using h2)
 | _,[],_,_,_,h,_=>by simp at h
 | _,_::_,[],_,_,_,h=>by simp at h
theorem v74 {K:W.Frag} {H0:Hp} {a b:Addr} {ds es:List D}:ItRel K H0 ⟨zpD ds es,fun G=>u19 (G a)=some ds /\ u19 (G b)=some es⟩ (Itz K a b) where
 go:=fun i G H l c ok hi=>by
  obtain ⟨xs,s,r⟩:=u26 c ok.1;obtain ⟨ys,s2,r2⟩:=u26 c ok.2;rw [uq2] at hi;exact ⟨xs,ys,xs[i]'(by rw [<- r.length];omega),ys[i]'(by rw [<- r2.length];omega),s,s2,List.getElem?_eq_getElem _,List.getElem?_eq_getElem _⟩
 stop:=fun i G H l c ok hi=>by
  obtain ⟨xs,s,r⟩:=u26 c ok.1;obtain ⟨ys,s2,r2⟩:=u26 c ok.2;rw [uq2] at hi;exact ⟨xs,ys,s,s2,by rw [<- r.length,<- r2.length];omega⟩
 yld:=fun i G H x H' l c ok hi y=>by
  obtain ⟨p,v,v2,rfl,hp,rfl,y,y2⟩:=y;obtain ⟨xs,s,r⟩:=u26 c ok.1;obtain ⟨ys,s2,r2⟩:=u26 c ok.2;obtain ⟨d,hd,rd⟩:=r.at_ (y xs s)
  obtain ⟨e,he,re⟩:=r2.at_ (y2 ys s2)
  refine ⟨c.side hp,Le.fresh hp,.tup [d,e],v06 hd he,?_⟩;rw [RelD];exact ⟨p,_,rfl,SqT.of u24,.cons (RelD.le (Le.fresh hp) rd) (.cons (RelD.le (Le.fresh hp) re) .nil)⟩
def wZip (t:TA3):TI3:=fun σ G r=>t σ G fun ds G1=>match ds with
 | [.ref a,.ref b]=>(match u19 (G1 a),u19 (G1 b) with | some ds,some es=>r ⟨zpD ds es,fun G=>u19 (G a)=some ds /\ u19 (G b)=some es⟩ G1 | _,_=>False)
 | _=>False
theorem vg7 {K:W.Frag} {t:TA3} {σ:L2.St} {H:Hp} {R:It->Hp->Prop} (h:lowI K (wZip t) σ H R):iZip K (lowA K t) σ H R:=by
 obtain ⟨σd,G,q,rs,c,t,f⟩:=h;refine ⟨σd,G,_,rs,c,t,fun ds G1 vs H1 r1 c1 l1 t1=>?_⟩;split at t1
 ·rename_i a b
  split at t1
  ·rename_i ds es e e2
   obtain ⟨v,vs',rfl,rv,r2⟩:=r1.inv_cons;obtain ⟨v2,rfl,rv2⟩:=r2.one;cases rv.ref_inv;cases rv2.ref_inv;obtain ⟨xs,s1,q1⟩:=u26 c1 e;obtain ⟨ys,s2,q2⟩:=u26 c1 e2;exact ⟨a,b,rfl,⟨xs,s1⟩,⟨ys,s2⟩,f _ _ _ _ v74 c1 l1 t1⟩
  ·exact t1.elim
 ·exact t1.elim
theorem ww4 {X:Cx} {elts:List Expr} {x1} {tpos:Pos} {a b:Expr} {ts:TA3} {p pos:Pos} (hg:Gl X "zip") (hm:X.mg "zip" = none) (ha:A3 X [a,b] ts) (hs:starEach [a,b] X.env=(false,eval a X.env)::starEach [b] X.env:=by rfl) (hs2:(backTo pos (starEach [b] X.env)).any (·.1)=false:=by rfl) :
  I3 X (.Tuple elts x1 tpos) (.Call (.Name "zip" p) [a,b] [] pos) (wZip ts):=v13 (wc0 hg hm ha hs hs2) fun _ _ _=>vg7
end L3
namespace L3
open PySem PySem.Spec PyProof.Rows L2 Rw
def stn (k m:Nat):Bool:=k == 0 || m.testBit (k - 1)
def pc (b m:Nat):Nat:=(List.range b).countP fun i=>m.testBit i
theorem ug2 (a b:Nat):Builtin.bitAnd (a:Int) (b:Int)=((a &&& b:Nat):Int):=by
 unfold Builtin.bitAnd;simp
theorem uv2 (a b:Nat):Builtin.bitOr (a:Int) (b:Int)=((a ||| b:Nat):Int):=by
 have h1:∀ x:Nat,¬ (0<=Builtin.bitNot (x:Int)):=fun x=>by unfold Builtin.bitNot;omega
 have h2:∀ x:Int,Builtin.bitNot (Builtin.bitNot x)=x:=fun x=>by unfold Builtin.bitNot;omega
 unfold Builtin.bitOr Builtin.bitAnd;simp only [h1,decide_false,h2,Int.toNat_natCast]
end L3
namespace L2
open PySem PySem.Spec PyProof.Rows
abbrev u98 (h:Heap) (z TI TO T:Addr) (f:Bool):Prop:=h.get? z=some { cls:=.type "zip",data:=.fields #[rawInt (T:Int),.bool f,.bool false,.ref TI,.ref TO] }
end L2
namespace L3
open PySem PySem.Spec PyProof.Rows L2 Rw
abbrev Mv:=Bool × Nat
def nD (x:Nat):D:=.int (x:Int)
def xr (m k:Nat):Nat:=m ^^^ 2 ^ (k - 1)
def hi (m:Nat):Nat:=if m=0 then 0 else m.log2+1
theorem wv6 {m i:Nat} (h:m.testBit i=false):m ||| 2 ^ i=m ^^^ 2 ^ i:=Nat.eq_of_testBit_eq fun j=>by
 rw [Nat.testBit_or,Nat.testBit_xor,Nat.testBit_two_pow]
 by_cases e:i=j
 ·subst e;rw [h];simp
 ·simp [e]
theorem wd6 {m i:Nat} (h:m.testBit i=true):m ||| 2 ^ i=m:=Nat.eq_of_testBit_eq fun j=>by
 rw [Nat.testBit_or,Nat.testBit_two_pow]
 by_cases e:i=j
 ·subst e;rw [h];rfl
 ·simp [e]
theorem w53 {m i:Nat} (h:m.testBit i=true):m &&& 2 ^ i=2 ^ i:=Nat.eq_of_testBit_eq fun j=>by
 rw [Nat.testBit_and,Nat.testBit_two_pow]
 by_cases e:i=j
 ·subst e;rw [h];rfl
 ·simp [e]
theorem wp2 {m i:Nat} (h:m.testBit i=false):m &&& 2 ^ i=0:=Nat.eq_of_testBit_eq fun j=>by
 rw [Nat.testBit_and,Nat.testBit_two_pow,Nat.zero_testBit]
 by_cases e:i=j
 ·subst e;rw [h];rfl
 ·simp [e]
theorem vl2:∀ {i m:Nat},m.testBit i=true->(m ^^^ 2 ^ i)+2 ^ i=m
 | 0,m,h=>by
  have h1:m % 2=1:=by rw [Nat.testBit_zero] at h;simpa using h
  have h2:(m ^^^ 1) / 2=m / 2:=by rw [Nat.xor_div_two];simp
  have h3:(m ^^^ 1) % 2=0:=by
   have:(m ^^^ 1).testBit 0=false:=by rw [Nat.testBit_xor,h];rfl
   rw [Nat.testBit_zero] at this;have:=of_decide_eq_false this;omega
  show (m ^^^ 1)+1=m
  omega
 | i+1,m,h=>by
  have h0:(m / 2).testBit i=true:=by rw [<- Nat.testBit_succ];exact h
  have ih:=vl2 h0;have e1:2 ^ (i+1) / 2=2 ^ i:=by rw [Nat.pow_succ];omega
  have h2:(m ^^^ 2 ^ (i+1)) / 2=m / 2 ^^^ 2 ^ i:=by rw [Nat.xor_div_two,e1]
  have h3:(m ^^^ 2 ^ (i+1)) % 2=m % 2:=by
   have a:(m ^^^ 2 ^ (i+1)).testBit 0=m.testBit 0:=by
    rw [Nat.testBit_xor,Nat.testBit_two_pow];simp
   rw [Nat.testBit_zero,Nat.testBit_zero] at a;have b:=decide_eq_decide.mp a;omega
  rw [Nat.pow_succ] at h2 h3 ⊢;omega
theorem xor_int (m i:Nat):Builtin.bitXor (m:Int) (1 * 2 ^ i)=((m ^^^ 2 ^ i:Nat):Int):=by
 have e:(1 * 2 ^ i:Int)=((2 ^ i:Nat):Int):=by simp
 unfold Builtin.bitXor;rw [e,uv2,ug2];cases h:m.testBit i with
 | true =>
  rw [wd6 h,w53 h];have:=vl2 h;omega
 | false =>
  rw [wv6 h,wp2 h];simp
def fin:Nat->List Mv->Nat
 | m,[]=>m
 | m,p::r=>fin (xr m p.2) r
def low:Nat->List Mv->Nat
 | m,[]=>hi m
 | m,p::r=>min (low (xr m p.2) r) (hi m)
def thw:Nat->List Mv->List Mv
 | _,[]=>[]
 | m,p::r=>if p.2<=low (xr m p.2) r then p::thw (xr m p.2) r else thw (xr m p.2) r
def once (w:List Mv):List Mv:=thw 0 w
def hD (x:Nat):D:=nD (hi x)
def cnt:Nat->Nat->Nat
 | 0,_=>0
 | n+1,m=>cnt n m+(if m.testBit n then 1 else 0)
theorem vc2 {G:Gp} {a b:Addr} {xs ys:List D} {q:DK} (ha:G a=some (.lst xs)) (hb:G b=some (.lst ys)) (hz:xs.length+ys.length<=sizeLine) (k:∀ p,G p=none->q (.ref p) (gup G p (.lst (xs++ys)))):xAdd (.ref a) (.ref b) G q:=by
 unfold xAdd;simp only [ha,hb];exact ⟨hz,k⟩
theorem vk0 {α:Type} {xs:List α} {n:Nat}:cutD xs none (some (n:Int))=xs.take n:=by
 unfold cutD;rw [HT.sIx_none,HT.sIx_nat,List.drop_zero,Nat.sub_zero]
 rcases Nat.le_total n xs.length with h | h
 ·rw [Nat.min_eq_left h]
 ·rw [Nat.min_eq_right h,List.take_of_length_le (Nat.le_refl _),List.take_of_length_le h]
def cap:Nat->Bool->Nat
 | 0,_=>0
 | s+1,true=>2 ^ s
 | s+1,false=>2 ^ (s+1) - 1
abbrev Pm:=Option Mv
def flp:Pm->Pm
 | none=>none
 | some p=>some (!p.1,p.2)
theorem uv3 {P:Program} {w:World} {K:W.Frag} {mg:Str->Option Value} {base:Heap} {n:Nat} {x qual:Str} {st:Stmt} {ps:List Str} {d:FnAt K x qual st ps} {S:Sp3} (h:∀ ds G R,¬ S ds G R):Ok P w mg base n d S :=
 ⟨fun vs H Q E ⟨ds,G,R,_,_,s,_⟩=>absurd s (h ds G R),fun A outer s H args us vs Q E _ _ _ _ ⟨ds,G,R,_,_,s,_⟩=>absurd s (h ds G R)⟩
theorem v09 {G:Gp} {a b:Addr} {xs ys:List D} {q:DK} (ha:G a=some (.lst xs)) (hb:G b=some (.lst ys)) (hz:xs.length+ys.length<=100000) (k:∀ p,G p=none->q (.ref p) (gup G p (.lst (xs++ys)))):xAdd (.ref a) (.ref b) G q :=
 vc2 ha hb (Nat.le_of_lt (Nat.lt_of_le_of_lt hz (by decide))) k
end L3
namespace Law
open PySem L2 L3 Rw
theorem Adv.grow {G G1 G2:Gp} {st:Addr} (a:Adv st G G1) (g:Grow G1 G2):Adv st G G2:=⟨a.at_.grow g,fun c o h e=>g.kp _ _ (a.kp c o h e)⟩
end Law
namespace L3
open PySem PySem.Spec PyProof.Rows L2
def kD:Key->D
 | .inl i=>.int i
 | .inr x=>.str x
def valD (kvs:List (List Key × D)) (k:List Key):Option D:=(kvs.find? fun kv=>decide (kv.1=k)).map (·.2)
section
variable {X:Cx} {K:W.Frag} {G:Gp} {H:Hp} {p:Addr}
theorem uj8:∀ {ks:List Key} {xs:List V},RelDs K H (ks.map kD) xs->xs=ks.map kV
 | [],xs,r=>r.inv_nil
 | .inl i::ks,xs,r=>by
  obtain ⟨x,xs',rfl,h1,h2⟩:=r.inv_cons;rw [(show RelD K H (.int i) x from h1).int_inv,uj8 h2];rfl
 | .inr z::ks,xs,r=>by
  obtain ⟨x,xs',rfl,h1,h2⟩:=r.inv_cons;rw [(show RelD K H (.str z) x from h1).str_inv,uj8 h2];rfl
end
end L3
namespace L2
open PySem PySem.Spec PyProof.Rows
theorem vk4:bootBuiltins "list" = some (.type "list"):=by decide
end L2
namespace L3
open PySem PySem.Spec PyProof.Rows L2
theorem v38 {K:W.Frag} {H:Hp} {i:Int}:∀ l:List Nat,RelDs K H (l.map fun k:Nat=>D.int (i+k)) (l.map fun k:Nat=>V.int (i+k))
 | []=>.nil
 | _::l=>.cons RelD.intI (v38 l)
end L3
namespace L2
open PySem PySem.Spec PyProof.Rows
def jn (sep:Str) (ws:List Str):Str:=Builtin.Str.glued sep ws
section
variable {X:Cx}
theorem um0:∀ {ws:List Str} {us:List Value},Vals (ws.map V.str) us->∃ l:List (Str × Tok),us=strValues l /\ l.map (·.1)=ws
 | [],_,.nil=>⟨[],rfl,rfl⟩
 | w::ws,_,.cons r t=>by
  obtain ⟨l,rfl,e⟩:=um0 t;obtain ⟨k,rfl⟩:=r;exact ⟨(w,k)::l,rfl,by rw [List.map_cons,e]⟩
def rJoin (K:W.Frag):V->List V->Hp->VK->Prop:=fun x vs H Q=>∃ (sep:Str) (p:Addr) (ws:List Str),x=.str sep /\ vs=[.ref p] /\ SqL K H p (ws.map V.str) /\ Builtin.Str.tooLong ((ws.toArray).foldl (·+·.length+sep.length) 0)=false /\ (jn sep ws).length<=sizeLine /\ Q (.str (jn sep ws)) H
theorem w02:MtR X "str.join" (rJoin X.K):=by
 intro pins s σ H x vs v us Q I rx rv h;obtain ⟨sep,p,ws,rfl,rfl,hq,hl,hz,q⟩:=h;obtain ⟨t,rfl⟩:=rx;obtain ⟨u,rfl,ru⟩:=rv.one;cases ru;obtain ⟨its,r',pl,_⟩:=I.list hq;obtain ⟨l,rfl,e⟩:=um0 r';refine call_meets F.slot_str_join (typeIs_str _ _ _) F.entry_str_join (F.args_str_join_2 _ _) (meets_str_join_list sep t p l (by rw [e];exact hl)) ⟨pl.isList,?_⟩
 match l,e with
 | [],e =>
  subst e;exact ⟨hz,.str _,H,I.tok _,⟨_,rfl⟩,q⟩
 | [a],e =>
  subst e;exact ⟨.str _,H,I,⟨_,rfl⟩,q⟩
 | a::b::l,e =>
  subst e;exact ⟨hz,.str _,H,I.tok _,⟨_,rfl⟩,q⟩
end
end L2
namespace L3
open PySem PySem.Spec PyProof.Rows L2
section
variable {X:Cx} {K:W.Frag} {H:Hp} {o e:Expr} {es:List Expr} {to:TE3} {ts:TA3} {apos cpos:Pos}
@[reducible] def wl2:M3:=fun x ds G q=>∃ (sep:Str) (a:Addr) (ws:List Str),x=.str sep /\ ds=[.ref a] /\ u19 (G a)=some (ws.map .str) /\ Builtin.Str.tooLong ((ws.toArray).foldl (·+·.length+sep.length) 0)=false /\ (jn sep ws).length<=sizeLine /\ q (.str (jn sep ws)) G
theorem uv0:∀ {ws:List Str} {vs:List V},RelDs K H (ws.map .str) vs->vs=ws.map V.str
 | [],vs,r=>r.inv_nil
 | w::ws,vs,r=>by
  obtain ⟨x,ys,rfl,h1,h2⟩:=r.inv_cons;rw [uv0 h2,h1.str_inv];rfl
theorem ty_str (K:W.Frag):∀ G H x v,Con K G H->RelD K H x v->tyD G "str" x->tyV K "str" v H:=by
 intro G H x v c r t;cases x with
 | str i=>cases r.str_inv;exact rfl
 | int _=>simp [tyD] at t
 | ref a=>cases e:G a with
  | none=>simp [tyD,e] at t
  | some o=>cases o <;> simp [tyD,e] at t
 | _=>exact t.elim
theorem wn9 (ho:E3 X o to) (ha:A3 X (e::es) ts) (hbase:attributeBase o "join" X.env (eval o X.env)=eval o X.env:=by rfl)
  (hfew:((backTo cpos (starEach (e::es) X.env)).all (fun x=>!x.1) && (backToKw cpos (keywordEach [] X.env)).all (fun x=>x.1.isSome)
   && decide ((e::es).length+([]:List Keyword).length+(if ([]:List Keyword).isEmpty then 0 else 1) < 30))=true:=by rfl)
  (hline:(apos.endLine == cpos.line)=true:=by rfl) (hs:starEach (e::es) X.env=(false,eval e X.env)::starEach es X.env:=by rfl) (hplain:(backTo cpos (starEach es X.env)).any (·.1)=false:=by rfl) :
  E3 X (.Call (.Attribute o "join" apos) (e::es) [] cpos) (dBM "str" wl2 to ts) :=
 u43 (vg0 PySem.F.plainAttrs_str PySem.F.slot_str_join PySem.F.type_str_join (ut6 (r':=lowM X.K wl2) w02 <| by
  rintro x xs H Q ⟨d,ds,G,q,r1,r2,c,⟨sep,a,ws,rfl,rfl,es,h1,h2,t⟩,f⟩;obtain ⟨v,rfl,r3⟩:=r2.one;cases r3.ref_inv;cases r1.str_inv;obtain ⟨ys,s1,q1⟩:=u26 c es;obtain rfl:=uv0 q1;exact ⟨sep,a,ws,rfl,rfl,s1,h1,h2,f _ _ _ _ RelD.strI c (Le.refl H) t⟩) ho ha hbase hfew hline hs hplain) fun _ _ _=>uw1 (ty_str X.K)
theorem wm3:∀ ws:List Str,(jn Str.empty ws).length=(ws.map Str.length).sum:=by
 have key:∀ (ws:List Str) (acc:Array Nat),(ws.foldl (fun acc p=>acc++Str.empty.cps++p.cps) acc).size=acc.size+(ws.map Str.length).sum:=by
  intro ws
  induction ws with
  | nil=>intro acc;simp
  | cons w ws ih =>
   intro acc;rw [List.foldl_cons,ih,Array.size_append,Array.size_append]
   show acc.size+0+w.cps.size+_=_
   rw [List.map_cons,List.sum_cons]
   show _=acc.size+(w.cps.size+_)
   omega
 intro ws;cases ws with
 | nil=>rfl
 | cons w ws =>
  show (ws.foldl (fun acc p=>acc++Str.empty.cps++p.cps) w.cps).size=_
  rw [key];rfl
end
end L3
namespace L3
open PySem PySem.Spec PyProof.Rows L2 Rw
inductive Atm
 | num (i:Nat)
 | box (x:Str)
def aD:Atm->D
 | .num i=>.int (i:Int)
 | .box x=>.str x
inductive Rowp
 | is (x:Str) (a:Atm)
 | op (x o:Str) (a b:Atm)
 | cho (a:Atm) (ys ns:List Rowp)
 | tim (k:Nat) (ys:List Rowp)
mutual
def rowD:Rowp->D
 | .is x a=>.tup [.str "is",.str x,aD a]
 | .op x o a b=>.tup [.str "op",.str x,.str o,aD a,aD b]
 | .cho a ys ns=>.tup [.str "choose",aD a,.tup (u32 ys),.tup (u32 ns)]
 | .tim k ys=>.tup [.str "times",.int (k:Int),.tup (u32 ys)]
def u32:List Rowp->List D
 | []=>[]
 | r::rs=>rowD r::u32 rs
end
theorem ua6:∀ rs:List Rowp,u32 rs=rs.map rowD
 | []=>rfl
 | r::rs=>by rw [u32,ua6 rs];rfl
def okA (W:Nat) (bs:List Str):Atm->Prop
 | .num i=>i < 2 ^ W
 | .box x=>x ∈ bs
def signs:List Str:=["+", "-", "&", "|", "^", "<", "="]
mutual
def okR (W:Nat) (bs:List Str):Rowp->Prop
 | .is x a=>x ∈ bs /\ okA W bs a
 | .op x o a b=>x ∈ bs /\ o ∈ signs /\ okA W bs a /\ okA W bs b
 | .cho a ys ns=>okA W bs a /\ okL W bs ys /\ okL W bs ns
 | .tim k ys=>k<=20 /\ okL W bs ys
def okL (W:Nat) (bs:List Str):List Rowp->Prop
 | []=>True
 | r::rs=>okR W bs r /\ okL W bs rs
end
theorem okL_app {W:Nat} {bs:List Str}:∀ {a b:List Rowp},okL W bs (a++b) ↔ okL W bs a /\ okL W bs b
 | [],b=>by simp [okL]
 | r::a,b=>by
  show okR W bs r /\ okL W bs (a++b) ↔ (okR W bs r /\ okL W bs a) /\ okL W bs b
  rw [okL_app,and_assoc]
mutual
def depR:Rowp->Nat
 | .is _ _=>0
 | .op _ _ _ _=>0
 | .cho _ ys ns=>1+max (depL ys) (depL ns)
 | .tim _ ys=>1+depL ys
def depL:List Rowp->Nat
 | []=>0
 | r::rs=>max (depR r) (depL rs)
end
theorem ux0:∀ {a b:List Rowp},depL (a++b)=max (depL a) (depL b)
 | [],b=>by simp [depL]
 | r::a,b=>by
  show max (depR r) (depL (a++b))=max (max (depR r) (depL a)) (depL b)
  rw [ux0];omega
mutual
def szR:Rowp->Nat
 | .is _ _=>1
 | .op _ _ _ _=>1
 | .cho _ ys ns=>1+szL ys+szL ns
 | .tim _ ys=>1+szL ys
def szL:List Rowp->Nat
 | []=>0
 | r::rs=>szR r+szL rs
end
theorem ue3:∀ {a b:List Rowp},szL (a++b)=szL a+szL b
 | [],b=>by simp [szL]
 | r::a,b=>by
  show szR r+szL (a++b)=szR r+szL a+szL b
  rw [ue3];omega
inductive Hd
 | c1 (a:Atm)
 | c2 (a:Atm) (ys:List Rowp)
 | tm (k:Nat)
def hdD:Hd->D
 | .c1 a=>.tup [.str "choose",aD a]
 | .c2 a ys=>.tup [.str "choose",aD a,.tup (u32 ys)]
 | .tm k=>.tup [.str "times",.int (k:Int)]
theorem snap_rows {G:Gp}:∀ (d k:Nat) (r:Rowp),depR r<=d->∃ s,snap G (k+2 * d+1) (rowD r)=some s:=by
 intro d k
 induction d with
 | zero =>
  intro r h;cases r with
  | is x a =>
   refine Rw.snap_tup (n:=k+2 * 0) fun e he=>?_
   simp only [List.mem_cons,List.not_mem_nil,or_false] at he
   rcases he with rfl | rfl | rfl
   ·exact Rw.snap_str
   ·exact Rw.snap_str
   ·cases a <;> first | exact Rw.snap_int | exact Rw.snap_str
  | op x o a b =>
   refine Rw.snap_tup (n:=k+2 * 0) fun e he=>?_
   simp only [List.mem_cons,List.not_mem_nil,or_false] at he
   rcases he with rfl | rfl | rfl | rfl | rfl
   ·exact Rw.snap_str
   ·exact Rw.snap_str
   ·exact Rw.snap_str
   ·cases a <;> first | exact Rw.snap_int | exact Rw.snap_str
   ·cases b <;> first | exact Rw.snap_int | exact Rw.snap_str
  | cho a ys ns=>simp only [depR] at h;omega
  | tim k2 ys=>simp only [depR] at h;omega
 | succ d ih =>
  intro r h;have hin:∀ ys:List Rowp,depL ys<=d->∃ s,snap G (k+2 * d+2) (.tup (u32 ys))=some s:=by
   intro ys hy;refine Rw.snap_tup (n:=k+2 * d+1) fun e he=>?_
   rw [ua6] at he;obtain ⟨r',hr',rfl⟩:=List.mem_map.mp he;refine ih r' ?_;clear he
   induction ys with
   | nil=>cases hr'
   | cons y ys ih2 =>
    simp only [depL] at hy
    rcases List.mem_cons.mp hr' with e | e
    ·subst e;omega
    ·exact ih2 (by omega) e
  have at_:∀ a:Atm,∃ s,snap G (k+2 * d+2) (aD a)=some s:=fun a=>by
   cases a <;> first | exact Rw.snap_int | exact Rw.snap_str
  cases r with
  | is x a =>
   refine Rw.snap_tup (n:=k+2 * d+2) fun e he=>?_
   simp only [List.mem_cons,List.not_mem_nil,or_false] at he
   rcases he with rfl | rfl | rfl
   ·exact Rw.snap_str
   ·exact Rw.snap_str
   ·exact at_ a
  | op x o a b =>
   refine Rw.snap_tup (n:=k+2 * d+2) fun e he=>?_
   simp only [List.mem_cons,List.not_mem_nil,or_false] at he
   rcases he with rfl | rfl | rfl | rfl | rfl
   ·exact Rw.snap_str
   ·exact Rw.snap_str
   ·exact Rw.snap_str
   ·exact at_ a
   ·exact at_ b
  | cho a ys ns =>
   simp only [depR] at h;refine Rw.snap_tup (n:=k+2 * d+2) fun e he=>?_
   simp only [List.mem_cons,List.not_mem_nil,or_false] at he
   rcases he with rfl | rfl | rfl | rfl
   ·exact Rw.snap_str
   ·exact at_ a
   ·exact hin ys (by omega)
   ·exact hin ns (by omega)
  | tim k2 ys =>
   simp only [depR] at h;refine Rw.snap_tup (n:=k+2 * d+2) fun e he=>?_
   simp only [List.mem_cons,List.not_mem_nil,or_false] at he
   rcases he with rfl | rfl | rfl
   ·exact Rw.snap_str
   ·exact Rw.snap_int
   ·exact hin ys (by omega)
theorem uk0:∀ {ys:List Rowp} {d:Nat},depL ys<=d->∀ r ∈ ys,depR r<=d
 | [],_,_,r,h=>by cases h
 | y::ys,d,hd,r,h=>by
  simp only [depL] at hd
  rcases List.mem_cons.mp h with e | e
  ·subst e;omega
  ·exact uk0 (by omega) r e
end L3
namespace L2
open PySem PySem.Spec PyProof.Rows
def tyN:Bool->String
 | true => "tuple_iterator"
 | false => "list_iterator"
def SIt (c:Bool) (h:Heap) (it l:Addr) (i:Nat):Prop:=∃ o,h.get? it=some o /\ o.cls=.type (tyN c) /\ o.data=.fields #[.ref l,.int i 0]
def SOf (c:Bool) (h:Heap) (l:Addr) (xs:Array Value):Prop:=∃ o,h.get? l=some o /\ o.cls=.type (cond c "tuple" "list") /\ ∃ n,o.data=.seq xs n
theorem SIt.at {c:Bool} {h h':Heap} {it l:Addr} {i:Nat} (x:SIt c h it l i) (e:∀ o,h.get? it=some o->h'.get? it=some o):SIt c h' it l i:=let ⟨o,ho,r⟩:=x;⟨o,e _ ho,r⟩
theorem SOf.at {c:Bool} {h h':Heap} {l:Addr} {xs:Array Value} (x:SOf c h l xs) (e:∀ o,h.get? l=some o->h'.get? l=some o):SOf c h' l xs:=let ⟨o,ho,r⟩:=x;⟨o,e _ ho,r⟩
section
variable {prog:Program} {w:World} {A:Around} {E:Value->Shared->Prop} {s:Shared}
theorem wk9 {j l:Addr} {i:Nat} {xs:Array Value} {x:Value} {Q:Value->Shared->Prop} (hj:s.heap.IsTupleIter j l i) (hl:s.heap.IsTuple l xs) (hx:xs[i]?=some x)
  (q:∀ h',h'.IsTupleIter j l (i+1)->Heap.SameBut j s.heap h'->Q x { s with heap:=h' }):wpAny (model prog w) A (Builtin.SmallTypes.nextOf (.ref j)) Q E s:=by
 obtain ⟨u,eu,cu,du⟩:=id hj;obtain ⟨v,ev,_,nv,dv⟩:=hl;unfold Builtin.SmallTypes.nextOf;refine wpAny_bind (wpAny_callSpecial?_slot (name:=Str.ofString "__next__") hj.typeIs F.slot_tuple_iterator_next (wpAny_call_entry F.slot_tuple_iterator_next hj.typeIs F.entry_tuple_iterator_next ?_ (F.args_tuple_iterator_next_1 _)))
 show wpAny _ _ (field (.ref j) 0 >>= _) _ _ s
 refine wpAny_bind (wpAny_field eu du (x:=.ref l) rfl ?_)
 show wpAny _ _ (if (Value.ref l == Value.none)=true then _ else _) _ _ s
 rw [if_neg (c:=(Value.ref l == Value.none)=true) fun z=>Bool.false_ne_true z]
 show wpAny _ _ (field (.ref j) 1 >>= _) _ _ s
 refine wpAny_bind (wpAny_field eu du (x:=.int i 0) rfl ?_)
 show wpAny _ _ (seqItems? (.ref l) >>= _) _ _ s
 refine wpAny_bind (wpAny_seqItems ev dv ?_);simp only [Int.toNat_natCast,hx];refine wpAny_bind (wpAny_setField eu du (by simp) (wpAny_pure ⟨x,rfl,wpAny_pure (q _ ?_ (Heap.SameBut.update ..))⟩));refine ⟨_,Heap.get?_update_self _ eu (Obj.isFreed_of_fields (Obj.data_mapFields du _)),(Obj.cls_mapFields ..).trans cu,?_⟩;rw [Obj.data_mapFields du];simp [rawInt]
theorem uy8 {j l:Addr} {i:Nat} {xs:Array Value} {Q:Value->Shared->Prop} (hh:A.handled=none) (hj:s.heap.IsTupleIter j l i) (hl:s.heap.IsTuple l xs) (hx:xs[i]?=none)
  (q:∀ h' e,Heap.ExtBut j s.heap h'->(∃ o,h'.get? e=some o /\ o.cls=.type "StopIteration")->E (.ref e) { s with heap:=h' }):wpAny (model prog w) A (Builtin.SmallTypes.nextOf (.ref j)) Q E s:=by
 obtain ⟨u,eu,cu,du⟩:=id hj;obtain ⟨v,ev,_,nv,dv⟩:=hl;unfold Builtin.SmallTypes.nextOf;refine wpAny_bind (wpAny_callSpecial?_slot (name:=Str.ofString "__next__") hj.typeIs F.slot_tuple_iterator_next (wpAny_call_entry F.slot_tuple_iterator_next hj.typeIs F.entry_tuple_iterator_next ?_ (F.args_tuple_iterator_next_1 _)))
 show wpAny _ _ (field (.ref j) 0 >>= _) _ _ s
 refine wpAny_bind (wpAny_field eu du (x:=.ref l) rfl ?_)
 show wpAny _ _ (if (Value.ref l == Value.none)=true then _ else _) _ _ s
 rw [if_neg (c:=(Value.ref l == Value.none)=true) fun z=>Bool.false_ne_true z]
 show wpAny _ _ (field (.ref j) 1 >>= _) _ _ s
 refine wpAny_bind (wpAny_field eu du (x:=.int i 0) rfl ?_)
 show wpAny _ _ (seqItems? (.ref l) >>= _) _ _ s
 refine wpAny_bind (wpAny_seqItems ev dv ?_);simp only [Int.toNat_natCast,hx];refine wpAny_bind (wpAny_rule (wpAny_bind (wpAny_setField eu du (by simp) ?_)))
 show wpAny _ _ (newExc (.type "StopIteration") [] >>= _) _ _ _
 refine wpAny_bind ?_;simp only [newExc,newTuple];refine wpAny_bind (wpAny_newObj_type ?_ (by size_fits));refine wpAny_bind (m:=firstArgMember _ _) (wpAny_of_eq (a:=Value.none) (by first | rfl | (simp only [firstArgMember];rfl)) ?_);refine wpAny_newObj_type ?_ (by size_fits);simp only [raiseNew];refine wpAny_bind (wpAny_handled ?_)
 first | rw [show A.in1.handled=none from hh] | rw [hh]
 refine wpAny_bind (wpAny_pure (wpAny_throw ?_));exact q _ _ (((Heap.SameBut.update ..).extBut.push _).push _) ⟨_,Heap.get?_push_size _ rfl,rfl⟩
theorem ue5 {c:Bool} {j l:Addr} {i:Nat} {xs:Array Value} {x:Value} {Q:Value->Shared->Prop} (hj:SIt c s.heap j l i) (hl:SOf c s.heap l xs) (hx:xs[i]?=some x)
  (q:∀ h',SIt c h' j l (i+1)->Heap.SameBut j s.heap h'->Q x { s with heap:=h' }):wpAny (model prog w) A (Builtin.SmallTypes.nextOf (.ref j)) Q E s:=by
 cases c with
 | true=>exact wk9 hj hl hx q
 | false=>exact wpAny_nextOf_list_item hj hl hx q
theorem v55 {c:Bool} {j l:Addr} {i:Nat} {xs:Array Value} {Q:Value->Shared->Prop} (hh:A.handled=none) (hj:SIt c s.heap j l i) (hl:SOf c s.heap l xs) (hx:xs[i]?=none)
  (q:∀ h' e,Heap.ExtBut j s.heap h'->(∃ o,h'.get? e=some o /\ o.cls=.type "StopIteration")->E (.ref e) { s with heap:=h' }):wpAny (model prog w) A (Builtin.SmallTypes.nextOf (.ref j)) Q E s:=by
 cases c with
 | true=>exact uy8 hh hj hl hx q
 | false=>exact wpAny_nextOf_list_end hh hj hl hx q
theorem vq6 {c d:Bool} {z TI TO i1 i2 l1 l2:Addr} {k1 k2:Nat} {xs ys:Array Value} {x y a b:Value} {Q:Value->Shared->Prop} (D:ZipApart z TI TO i1 i2 l1 l2)
  (ez:IsZip s.heap z TI TO .none) (eI:IsPair s.heap TI (.ref i1) (.ref i2)) (eO:IsPair s.heap TO a b) (j1:SIt c s.heap i1 l1 k1) (j2:SIt d s.heap i2 l2 k2) (m1:SOf c s.heap l1 xs) (m2:SOf d s.heap l2 ys) (hx:xs[k1]?=some x) (hy:ys[k2]?=some y)
  (q:∀ h',IsZip h' z TI TO (rawInt s.heap.objs.size)->IsPair h' TO x y->SIt c h' i1 l1 (k1+1)->SIt d h' i2 l2 (k2+1)->IsPair h' s.heap.objs.size x y->h'.objs.size=s.heap.objs.size+1->(∀ e o,e ≠ z->e ≠ TO->e ≠ i1->e ≠ i2->s.heap.get? e=some o->h'.get? e=some o)->Q (.ref s.heap.objs.size) { s with heap:=h' }) :
  wpAny (model prog w) A (Builtin.«zip.__next__» ⟨[.ref z],[]⟩) (fun fin s'=>∃ v,fin=.done (.ret v) /\ Q v s') E s:=by
 show wpAny _ _ (field (.ref z) 2 >>= _) _ _ _
 refine wpAny_bind (wpAny_field ez rfl (x:=.bool false) rfl ?_)
 show wpAny _ _ (field (.ref z) 3 >>= _) _ _ _
 refine wpAny_bind (wpAny_field ez rfl (x:=.ref TI) rfl ?_);refine wpAny_bind (wpAny_seqItems eI rfl ?_)
 show wpAny _ _ (Builtin.SmallTypes.ownedTupleIsFree (.ref z) >>= _) _ _ _
 refine wpAny_bind ?_;unfold Builtin.SmallTypes.ownedTupleIsFree;refine wpAny_bind (wpAny_field ez rfl (x:=.none) rfl (wpAny_pure ?_));simp only [if_true];refine wpAny_bind (wpAny_rule ?_);refine wpAny_bind (wpAny_field ez rfl (x:=.ref TO) rfl ?_);refine wpAny_bind (wpAny_setField_rec ez (by simp) fun g1 e1 b1=>?_)
 replace e1:IsZip g1 z TI TO .ellipsis:=e1
 have u1:∀ {e o},e ≠ z->s.heap.get? e=some o->g1.get? e=some o:=fun n z=>(b1.2 _ n).trans z
 refine wpAny_bind ?_;simp only [List.zipIdx_cons,List.zipIdx_nil,List.forIn_cons,List.forIn_nil];refine wpAny_bind (wpAny_bind (wpAny_onRaise ?_))
 show wpAny _ _ (Builtin.SmallTypes.nextOf (.ref i1) >>= _) _ _ _
 refine wpAny_bind (ue5 (j1.at fun o=>u1 D.i1z) (m1.at fun o=>u1 D.l1z) hx fun g2 n1 b2=>wpAny_pure ?_);have u2:∀ {e o},e ≠ i1->g1.get? e=some o->g2.get? e=some o:=fun n z=>(b2.2 _ n).trans z
 have o2:IsPair g2 TO a b:=u2 D.TOi1 (u1 D.TOz eO);refine wpAny_bind (wpAny_seqItems o2 rfl ?_);refine wpAny_bind (wpAny_updateSeq_pair o2 fun g3 o3 b3=>?_)
 replace o3:IsPair g3 TO x b:=o3
 have u3:∀ {e o},e ≠ TO->g2.get? e=some o->g3.get? e=some o:=fun n z=>(b3.2 _ n).trans z
 refine wpAny_bind (wpAny_letGo (wpAny_pure ?_));refine wpAny_bind (wpAny_bind (wpAny_onRaise ?_))
 show wpAny _ _ (Builtin.SmallTypes.nextOf (.ref i2) >>= _) _ _ _
 refine wpAny_bind (ue5 (j2.at fun o e=>u3 (Ne.symm D.TOi2) (u2 (Ne.symm D.i12) (u1 D.i2z e))) (m2.at fun o e=>u3 D.l2TO (u2 D.l2i1 (u1 D.l2z e))) hy fun g4 n2 b4=>wpAny_pure ?_);have u4:∀ {e o},e ≠ i2->g3.get? e=some o->g4.get? e=some o:=fun n z=>(b4.2 _ n).trans z
 have o4:IsPair g4 TO x b:=u4 D.TOi2 o3;refine wpAny_bind (wpAny_seqItems o4 rfl ?_);refine wpAny_bind (wpAny_updateSeq_pair o4 fun g5 o5 b5=>?_)
 replace o5:IsPair g5 TO x y:=o5
 have u5:∀ {e o},e ≠ TO->g4.get? e=some o->g5.get? e=some o:=fun n z=>(b5.2 _ n).trans z
 refine wpAny_bind (wpAny_letGo (wpAny_pure (wpAny_pure ?_)));refine wpAny_bind (wpAny_seqItems o5 rfl ?_);refine wpAny_bind (wpAny_newTuple ?_);have sz:g5.objs.size=s.heap.objs.size:=by rw [b5.1,b4.1,b3.1,b2.1,b1.1]
 have z5:IsZip g5 z TI TO .ellipsis:=u5 (Ne.symm D.TOz) (u4 (Ne.symm D.i2z) (u3 (Ne.symm D.TOz) (u2 (Ne.symm D.i1z) e1)));have zl:z < g5.objs.size:=Heap.lt_size z5
 show wpAny _ _ (Builtin.SmallTypes.ownedTupleHandOut (.ref z) (.ref g5.objs.size) >>= _) _ _ _
 refine wpAny_bind ?_;unfold Builtin.SmallTypes.ownedTupleHandOut;have z6:IsZip (g5.push { cls:=.type "tuple",data:=.seq #[x,y] }) z TI TO .ellipsis:=Heap.get?_push_of_some _ z5;refine wpAny_bind (wpAny_setField_rec z6 (by simp) fun g7 z7 b7=>?_)
 replace z7:IsZip g7 z TI TO (rawInt g5.objs.size):=z7
 refine wpAny_setField_rec z7 (by simp) fun g8 z8 b8=>?_
 replace z8:IsZip g8 z TI TO (rawInt g5.objs.size):=z8
 have u8:∀ {e o},e ≠ z->(g5.push { cls:=.type "tuple",data:=.seq #[x,y] }).get? e=some o->g8.get? e=some o:=fun n z=>(b8.2 _ n).trans ((b7.2 _ n).trans z)
 have t8:IsPair g8 g5.objs.size x y:=u8 (Nat.ne_of_gt zl) (Heap.get?_push_size _ rfl);have s8:g8.objs.size=g5.objs.size+1:=by rw [b8.1,b7.1,Heap.size_push]
 rw [sz] at z8 t8 s8;refine wpAny_pure ⟨_,rfl,?_⟩
 show Q (.ref g5.objs.size) _
 rw [sz];have v8:∀ {e o},e ≠ z->g5.get? e=some o->g8.get? e=some o:=fun n z=>u8 n (Heap.get?_push_of_some _ z)
 exact q g8 z8 (v8 D.TOz o5) (n1.at fun o e=>v8 D.i1z (u5 (Ne.symm D.TOi1) (u4 D.i12 (u3 (Ne.symm D.TOi1) e)))) (n2.at fun o e=>v8 D.i2z (u5 (Ne.symm D.TOi2) e)) t8 s8
  fun e o p1 p2 p3 p4 h=>v8 p1 (u5 p2 (u4 p4 (u3 p2 (u2 p3 (u1 p1 h)))))
theorem w70 {c d:Bool} {z TI TO i1 i2 l1 l2:Addr} {k1 k2:Nat} {xs ys:Array Value} {a b:Value} {Q:Fin->Shared->Prop} (hh:A.handled=none) (D:ZipApart z TI TO i1 i2 l1 l2)
  (ez:IsZip s.heap z TI TO .none) (eI:IsPair s.heap TI (.ref i1) (.ref i2)) (eO:IsPair s.heap TO a b) (j1:SIt c s.heap i1 l1 k1) (j2:SIt d s.heap i2 l2 k2) (m1:SOf c s.heap l1 xs) (m2:SOf d s.heap l2 ys) (hend:xs[k1]?=none \/ ys[k2]?=none)
  (q:∀ h' e,(∀ e o,e ≠ z->e ≠ TO->e ≠ i1->e ≠ i2->s.heap.get? e=some o->h'.get? e=some o)->(∃ o,h'.get? e=some o /\ o.cls=.type "StopIteration")->E (.ref e) { s with heap:=h' }) :
  wpAny (model prog w) A (Builtin.«zip.__next__» ⟨[.ref z],[]⟩) Q E s:=by
 show wpAny _ _ (field (.ref z) 2 >>= _) _ _ _
 refine wpAny_bind (wpAny_field ez rfl (x:=.bool false) rfl ?_)
 show wpAny _ _ (field (.ref z) 3 >>= _) _ _ _
 refine wpAny_bind (wpAny_field ez rfl (x:=.ref TI) rfl ?_);refine wpAny_bind (wpAny_seqItems eI rfl ?_)
 show wpAny _ _ (Builtin.SmallTypes.ownedTupleIsFree (.ref z) >>= _) _ _ _
 refine wpAny_bind ?_;unfold Builtin.SmallTypes.ownedTupleIsFree;refine wpAny_bind (wpAny_field ez rfl (x:=.none) rfl (wpAny_pure ?_));simp only [if_true];refine wpAny_bind (wpAny_rule ?_);refine wpAny_bind (wpAny_field ez rfl (x:=.ref TO) rfl ?_);refine wpAny_bind (wpAny_setField_rec ez (by simp) fun g1 e1 b1=>?_)
 replace e1:IsZip g1 z TI TO .ellipsis:=e1
 have u1:∀ {e o},e ≠ z->s.heap.get? e=some o->g1.get? e=some o:=fun n z=>(b1.2 _ n).trans z
 refine wpAny_bind ?_;simp only [List.zipIdx_cons,List.zipIdx_nil,List.forIn_cons,List.forIn_nil];refine wpAny_bind (wpAny_bind (wpAny_onRaise ?_))
 show wpAny _ _ (Builtin.SmallTypes.nextOf (.ref i1) >>= _) _ _ _
 have stopz:∀ {g:Heap} {e:Addr},IsZip g z TI TO .ellipsis->(∃ o,g.get? e=some o /\ o.cls=.type "StopIteration")->e ≠ z:=fun hz ⟨o,h1,h2⟩ n=>by
  subst n;rw [hz] at h1;cases h1;simp at h2
 cases hx:xs[k1]? with
 | none =>
  refine wpAny_bind (v55 hh (j1.at fun o=>u1 D.i1z) (m1.at fun o=>u1 D.l1z) hx fun g2 e b2 he=>?_);have z2:IsZip g2 z TI TO .ellipsis:=b2 _ _ (Ne.symm D.i1z) e1;have ne:=stopz z2 he;obtain ⟨oe,k1,k2⟩:=he;refine wpAny_setField_rec z2 (by simp) fun g3 _ b3=>q g3 e (fun f o p1 _ p3 _ h=>(b3.2 _ p1).trans (b2 _ _ p3 (u1 p1 h))) ⟨oe,(b3.2 _ ne).trans k1,k2⟩
 | some x =>
  have hy:ys[k2]?=none:=by
   rcases hend with h | h
   ·rw [hx] at h;cases h
   ·exact h
  refine wpAny_bind (ue5 (j1.at fun o=>u1 D.i1z) (m1.at fun o=>u1 D.l1z) hx fun g2 n1 b2=>wpAny_pure ?_);have u2:∀ {e o},e ≠ i1->g1.get? e=some o->g2.get? e=some o:=fun n z=>(b2.2 _ n).trans z
  have o2:IsPair g2 TO a b:=u2 D.TOi1 (u1 D.TOz eO);refine wpAny_bind (wpAny_seqItems o2 rfl ?_);refine wpAny_bind (wpAny_updateSeq_pair o2 fun g3 o3 b3=>?_);have u3:∀ {e o},e ≠ TO->g2.get? e=some o->g3.get? e=some o:=fun n z=>(b3.2 _ n).trans z
  refine wpAny_bind (wpAny_letGo (wpAny_pure ?_));refine wpAny_bind (wpAny_bind (wpAny_onRaise ?_))
  show wpAny _ _ (Builtin.SmallTypes.nextOf (.ref i2) >>= _) _ _ _
  refine wpAny_bind (v55 hh (j2.at fun o e=>u3 (Ne.symm D.TOi2) (u2 (Ne.symm D.i12) (u1 D.i2z e))) (m2.at fun o e=>u3 D.l2TO (u2 D.l2i1 (u1 D.l2z e))) hy fun g4 e b4 he=>?_);have z4:IsZip g4 z TI TO .ellipsis:=b4 _ _ (Ne.symm D.i2z) (u3 (Ne.symm D.TOz) (u2 (Ne.symm D.i1z) e1));have ne:=stopz z4 he;obtain ⟨oe,k1,k2⟩:=he;refine wpAny_setField_rec z4 (by simp) fun g5 _ b5=>q g5 e (fun f o p1 p2 p3 p4 h=>(b5.2 _ p1).trans (b4 _ _ p4 (u3 p2 (u2 p3 (u1 p1 h))))) ⟨oe,(b5.2 _ ne).trans k1,k2⟩
theorem vq5 {c d:Bool} {z TI TO i1 i2 l1 l2:Addr} {k1 k2:Nat} {xs ys:Array Value} {x y a b:Value} {Q:Option Value->Shared->Prop} (D:ZipApart z TI TO i1 i2 l1 l2)
  (ez:IsZip s.heap z TI TO .none) (eI:IsPair s.heap TI (.ref i1) (.ref i2)) (eO:IsPair s.heap TO a b) (j1:SIt c s.heap i1 l1 k1) (j2:SIt d s.heap i2 l2 k2) (m1:SOf c s.heap l1 xs) (m2:SOf d s.heap l2 ys) (hx:xs[k1]?=some x) (hy:ys[k2]?=some y)
  (q:∀ h',IsZip h' z TI TO (rawInt s.heap.objs.size)->IsPair h' TO x y->SIt c h' i1 l1 (k1+1)->SIt d h' i2 l2 (k2+1)->IsPair h' s.heap.objs.size x y->h'.objs.size=s.heap.objs.size+1->(∀ e o,e ≠ z->e ≠ TO->e ≠ i1->e ≠ i2->s.heap.get? e=some o->h'.get? e=some o)->Q (some (.ref s.heap.objs.size)) { s with heap:=h' }) :
  wpAny (model prog w) A (pyNext (.ref z)) Q E s:=by
 have ty:s.TypeIs (.ref z) "zip" := ⟨_,ez,rfl⟩;unfold pyNext;refine wpAny_bind (wpAny_attempt (wpAny_callSpecial?_slot (name:=Str.ofString "__next__") ty F.slot_zip_next (wpAny_call_entry F.slot_zip_next ty F.entry_zip_next ?_ (F.args_zip_next_1 _))));exact vq6 D ez eI eO j1 j2 m1 m2 hx hy fun h' a1 a2 a3 a4 a5 a6 a7=>wpAny_pure (q h' a1 a2 a3 a4 a5 a6 a7)
theorem vq4 {c d:Bool} {z TI TO i1 i2 l1 l2:Addr} {k1 k2:Nat} {xs ys:Array Value} {a b:Value} {Q:Option Value->Shared->Prop} (hh:A.handled=none) (D:ZipApart z TI TO i1 i2 l1 l2)
  (ez:IsZip s.heap z TI TO .none) (eI:IsPair s.heap TI (.ref i1) (.ref i2)) (eO:IsPair s.heap TO a b) (j1:SIt c s.heap i1 l1 k1) (j2:SIt d s.heap i2 l2 k2) (m1:SOf c s.heap l1 xs) (m2:SOf d s.heap l2 ys) (hend:xs[k1]?=none \/ ys[k2]?=none)
  (q:∀ h',(∀ e o,e ≠ z->e ≠ TO->e ≠ i1->e ≠ i2->s.heap.get? e=some o->h'.get? e=some o)->Q none { s with heap:=h' }):wpAny (model prog w) A (pyNext (.ref z)) Q E s:=by
 have ty:s.TypeIs (.ref z) "zip" := ⟨_,ez,rfl⟩;unfold pyNext;refine wpAny_bind (wpAny_attempt (wpAny_callSpecial?_slot (name:=Str.ofString "__next__") ty F.slot_zip_next (wpAny_call_entry F.slot_zip_next ty F.entry_zip_next ?_ (F.args_zip_next_1 _))));refine w70 hh D ez eI eO j1 j2 m1 m2 hend fun h' e hk ⟨o,k1,k2⟩=>?_
 exact wpAny_bind (wpAny_isInstance (T := "StopIteration") (b:=true) ⟨o,k1,k2⟩ isSubtype_stop (wpAny_pure (q _ hk)))
end
abbrev itO (c:Bool) (l:Addr):Obj:={ cls:=.type (tyN c),data:=.fields #[.ref l,.int 0 0] }
abbrev zt1 (h:Heap) (c:Bool) (l1:Addr):Heap:=h.push (itO c l1)
abbrev zt2 (h:Heap) (c d:Bool) (l1 l2:Addr):Heap:=(zt1 h c l1).push (itO d l2)
abbrev zt3 (h:Heap) (c d:Bool) (l1 l2:Addr):Heap:=(zt2 h c d l1 l2).push { cls:=.type "tuple",data:=.seq #[.ref h.objs.size,.ref (zt1 h c l1).objs.size] }
abbrev zt4 (h:Heap) (c d:Bool) (l1 l2:Addr):Heap:=(zt3 h c d l1 l2).push { cls:=.type "tuple",data:=.seq #[.none,.none] }
abbrev zt5 (h:Heap) (c d:Bool) (l1 l2:Addr):Heap:=(zt4 h c d l1 l2).push { cls:=.type "zip",data:=.fields #[.none,.bool false,.bool false,.ref (zt2 h c d l1 l2).objs.size,.ref (zt3 h c d l1 l2).objs.size] }
theorem SOf.push {c:Bool} {h:Heap} {l:Addr} {xs:Array Value} (x:SOf c h l xs) (o:Obj):SOf c (h.push o) l xs:=x.at fun _ e=>Heap.get?_push_of_some o e
set_option maxHeartbeats 4000000 in
theorem w69 (c d:Bool) (l1 l2:Addr) (xs ys:Array Value) :
  Meets (Builtin.«zip.__new__» ⟨[.type "zip",.ref l1,.ref l2],[]⟩) (fun _ R s=>SOf c s.heap l1 xs /\ SOf d s.heap l2 ys /\ R (.ok (.ret (.ref (zt4 s.heap c d l1 l2).objs.size))) { s with heap:=zt5 s.heap c d l1 l2 }) :=
 .of_wp fun prog w A R s h=>by
  obtain ⟨hp,g,dd,tk,os⟩:=s;obtain ⟨m1,m2,h⟩:=h;have sub:=sub_zip;cases c with
  | true =>
   have a1:Heap.IsTuple (Shared.heap ⟨hp,g,dd,tk,os⟩) l1 xs:=m1;cases d with
   | true =>
    have a2:Heap.IsTuple (Shared.heap ⟨hp.push { cls:=.type "tuple_iterator",data:=.fields #[.ref l1,.int 0 0] },g,dd,tk,os⟩) l2 ys:=m2.push _
    wp_walk using wpAny_pyIter_tuple a1,wpAny_pyIter_tuple a2
    exact ⟨_,rfl,h⟩
   | false =>
    have a2:Heap.IsList (Shared.heap ⟨hp.push { cls:=.type "tuple_iterator",data:=.fields #[.ref l1,.int 0 0] },g,dd,tk,os⟩) l2 ys:=m2.push _
    wp_walk using wpAny_pyIter_tuple a1,wpAny_pyIter_list a2
    exact ⟨_,rfl,h⟩
  | false =>
   have a1:Heap.IsList (Shared.heap ⟨hp,g,dd,tk,os⟩) l1 xs:=m1;cases d with
   | true =>
    have a2:Heap.IsTuple (Shared.heap ⟨hp.push { cls:=.type "list_iterator",data:=.fields #[.ref l1,.int 0 0] },g,dd,tk,os⟩) l2 ys:=m2.push _
    wp_walk using wpAny_pyIter_list a1,wpAny_pyIter_tuple a2
    exact ⟨_,rfl,h⟩
   | false =>
    have a2:Heap.IsList (Shared.heap ⟨hp.push { cls:=.type "list_iterator",data:=.fields #[.ref l1,.int 0 0] },g,dd,tk,os⟩) l2 ys:=m2.push _
    wp_walk using wpAny_pyIter_list a1,wpAny_pyIter_list a2
    exact ⟨_,rfl,h⟩
def Sq (c:Bool) (K:W.Frag) (H:Hp) (a:Addr) (xs:List V):Prop:=match c with
 | true=>SqT K H a xs
 | false=>SqL K H a xs
theorem Inv.sq {X:Cx} {pins:List (Addr × Obj)} {σ:List (Option V)} {H:Hp} {s:Shared} {c:Bool} {a:Addr} {xs:List V} (I:Inv X pins σ H s) (h:Sq c X.K H a xs):∃ its:List Value,Vals xs its /\ SOf c s.heap a its.toArray:=by
 cases c with
 | true =>
  obtain ⟨its,r,p,_⟩:=I.tuple h;exact ⟨its,r,p⟩
 | false =>
  obtain ⟨its,r,p,_⟩:=I.list h;obtain ⟨o,e,h1,h2⟩:=p.isList;exact ⟨its,r,o,e,h1,h2⟩
end L2
namespace L3
open PySem PySem.Spec PyProof.Rows L2
def sqD (G:Gp):D->Option (List D)
 | .tup ds=>some ds
 | .ref a=>u19 (G a)
 | _=>none
theorem w99 {K:W.Frag} {G:Gp} {H0:Hp} {x:D} {v:V} {ds:List D} (r:RelD K H0 x v) (c0:Con K G H0) (h:sqD G x=some ds):∃ c a,v=.ref a /\ (∃ xs,Sq c K H0 a xs) /\ ∀ G' H',Le H0 H'->Con K G' H'->sqD G' x=some ds->∃ xs,Sq c K H' a xs /\ RelDs K H' ds xs:=by
 cases x with
 | tup es =>
  cases h;obtain ⟨a,xs,rfl,s1,q1⟩:=r.tup_inv;exact ⟨true,a,rfl,⟨xs,s1⟩,fun G' H' l c _=>⟨xs,l.sqT s1,RelDs.le l q1⟩⟩
 | ref a =>
  cases r.ref_inv;obtain ⟨xs,s1,q1⟩:=u26 c0 h;refine ⟨false,a,rfl,⟨xs,s1⟩,fun G' H' l c h'=>u26 c h'⟩
 | _=>cases h
end L3
namespace L3
open PySem PySem.Spec PyProof.Rows L2 Rw
mutual
def outR:Rowp->List Rowp
 | .is x a=>[.is x a]
 | .op x o a b=>[.op x o a b]
 | .cho a ys ns=>[.cho a (outL ys) (outL ns)]
 | .tim k ys=>(List.replicate k (outL ys)).flatten
def outL:List Rowp->List Rowp
 | []=>[]
 | r::rs=>outR r++outL rs
end
theorem vg1:∀ {a b:List Rowp},outL (a++b)=outL a++outL b
 | [],b=>rfl
 | r::a,b=>by
  show outR r++outL (a++b)=(outR r++outL a)++outL b
  rw [vg1,List.append_assoc]
mutual
def ntR:Rowp->Prop
 | .is _ _=>True
 | .op _ _ _ _=>True
 | .cho _ ys ns=>ntL ys /\ ntL ns
 | .tim _ _=>False
def ntL:List Rowp->Prop
 | []=>True
 | r::rs=>ntR r /\ ntL rs
end
theorem ntL_app:∀ {a b:List Rowp},ntL (a++b) ↔ ntL a /\ ntL b
 | [],b=>by simp [ntL]
 | r::a,b=>by
  show ntR r /\ ntL (a++b) ↔ (ntR r /\ ntL a) /\ ntL b
  rw [ntL_app,and_assoc]
theorem uv6:∀ {rs:List Rowp} {r:Rowp},ntL rs->r ∈ rs->ntR r
 | s::rs,r,h,m=>by
  rcases List.mem_cons.mp m with e | e
  ·subst e;exact h.1
  ·exact uv6 h.2 e
end L3
namespace L2
open PySem PySem.Spec PyProof.Rows
theorem vj5:entryFor table "zip.__getattribute__" = some Builtin.«object.__getattribute__» :=
 entryFor_alias (id' := "object.__getattribute__") (by kernel_rfl) (by decide) (by decide) (by kernel_rfl)
theorem w38:typeLookup (.type "zip") "__getattr__" = pure none:=by rw [typeLookup_type,builtinLookup_eq_fast];kernel_rfl
theorem v86:typeLookup (.type "zip") "keys" = pure none:=by rw [typeLookup_type,builtinLookup_eq_fast];kernel_rfl
theorem w39 (z TI TO:Addr) (u:Tok):Meets (Builtin.«object.__getattribute__» ⟨[.ref z,.str "keys" u],[]⟩) (fun A R s=>IsZip s.heap z TI TO .none /\ raisesAttr (.ref z) "keys" A R s) :=
 Meets.of_wp fun prog w A R s hs=>by
  obtain ⟨hp,g,d,tk,os⟩:=s;obtain ⟨hx,hs⟩:=hs;have ty:(⟨hp,g,d,tk,os⟩:Shared).TypeIs (.ref z) "zip" := ⟨_,hx,rfl⟩;have mi:=v86;unfold Builtin.«object.__getattribute__»
  repeat (any_goals (first | assumption | wp_step))
  exact wpAny_raiseAttrError hs.1 hs.2 (by decide)
theorem w41 {prog:Program} {w:World} {A:Around} {E:Value->Shared->Prop} {s:Shared} {z TI TO:Addr} {Q:Option Value->Shared->Prop} (hx:IsZip s.heap z TI TO .none) (hA:A.handled=none)
  (q:∀ h' tk,(∀ b o,s.heap.get? b=some o->h'.get? b=some o)->Q none { s with heap:=h',toks:=tk }):wpAny (model prog w) A (getAttr? (.ref z) "keys") Q E s:=by
 obtain ⟨hp,g,d,tk,os⟩:=s;have ty:∀ tk',(⟨hp,g,d,tk',os⟩:Shared).TypeIs (.ref z) "zip" := fun _=>⟨_,hx,rfl⟩
 have f1:=sub_AttributeError;have f3:=F.slot_zip_getattribute.lookup;have f4:=F.slot_zip_getattribute.bind (.ref z);have f5:=w38;unfold getAttr? getAttrBy? getAttrBy
 repeat (any_goals (first | assumption | exact ty _ | ((with_reducible show wpAny _ _ (call (Value.builtin "zip.__getattribute__") _ _) _ _ _);refine call_meets F.slot_zip_getattribute (ty _) vj5 (F.args_zip_getattribute_2 _ _) (w39 z TI TO _) ⟨hx,hA,fun h' tk' e hx'=>?_⟩) | wp_step))
 obtain ⟨t',u',he⟩:=hx'.there
 show wpAny _ _ (getattributeRaised _ _ _ _ _ _ _) _ _ _
 unfold getattributeRaised
 repeat (any_goals (first | assumption | wp_step))
 exact q _ _ hx'.keeps
section
variable {prog:Program} {w:World} {A:Around} {E:Value->Shared->Prop} {s:Shared}
theorem vc0 {c d:Bool} {z TI TO i1 i2 l1 l2 T:Addr} {f:Bool} {oT:Obj} {k1 k2:Nat} {xs ys:Array Value} {x y:Value} {Q:Value->Shared->Prop} (D:ZipApart z TI TO i1 i2 l1 l2) (ez:u98 s.heap z TI TO T f) (hT:s.heap.get? T=some oT)
  (eI:IsPair s.heap TI (.ref i1) (.ref i2)) (j1:SIt c s.heap i1 l1 k1) (j2:SIt d s.heap i2 l2 k2) (m1:SOf c s.heap l1 xs) (m2:SOf d s.heap l2 ys) (hx:xs[k1]?=some x) (hy:ys[k2]?=some y)
  (q:∀ h':Heap,u98 h' z TI TO T true->SIt c h' i1 l1 (k1+1)->SIt d h' i2 l2 (k2+1)->IsPair h' s.heap.objs.size x y->h'.objs.size=s.heap.objs.size+1->(∀ e o,e ≠ z->e ≠ i1->e ≠ i2->s.heap.get? e=some o->h'.get? e=some o)->Q (.ref s.heap.objs.size) { s with heap:=h' }) :
  wpAny (model prog w) A (Builtin.«zip.__next__» { pos:=[.ref z] }) (fun fin s'=>∃ v,fin=Fin.done (Flow.ret v) /\ Q v s') E s:=by
 unfold Builtin.«zip.__next__»;refine wpAny_bind (wpAny_pure ?_);refine wpAny_bind (wpAny_field ez rfl rfl ?_);refine wpAny_bind (wpAny_field ez rfl rfl ?_);refine wpAny_bind (wpAny_seqItems eI rfl ?_);refine wpAny_bind ?_;unfold Builtin.SmallTypes.ownedTupleIsFree;refine wpAny_bind (wpAny_field ez rfl rfl ?_);refine wpAny_bind (W.kdx_alive (a:=T) (o:=oT) hT ?_);refine thn (Q:=fun a s1=>a=false /\ ∃ h1,s1={ s with heap:=h1 } /\ u98 h1 z TI TO T true /\ Heap.SameBut z s.heap h1) ?_ ?_
 ·rw [if_neg (by simp)]
  refine wpAny_bind (wpAny_field ez rfl rfl ?_);cases f with
  | true=>exact wpAny_pure ⟨rfl,s.heap,rfl,ez,rfl,fun _ _=>rfl⟩
  | false =>
   refine wpAny_bind (wpAny_setField_rec ez (by simp) fun h' e sb=>?_);exact wpAny_pure ⟨rfl,h',rfl,e,sb⟩
 ·rintro a s1 ⟨rfl,h,rfl,hz1,sb⟩
  simp only [Bool.false_eq_true,if_false];simp only [<- Array.forIn_toList,List.forIn_cons,List.forIn_nil];have k1':SIt c h i1 l1 k1:=j1.at fun o e=>(sb.2 i1 D.i1z).trans e
  have k2':SIt d h i2 l2 k2:=j2.at fun o e=>(sb.2 i2 D.i2z).trans e
  have m1':SOf c h l1 xs:=m1.at fun o e=>(sb.2 l1 D.l1z).trans e
  have m2':SOf d h l2 ys:=m2.at fun o e=>(sb.2 l2 D.l2z).trans e
  refine wpAny_bind (wpAny_bind (wpAny_bind (wpAny_holding ?_)));refine wpAny_bind (ue5 k1' m1' hx fun h' a1 sa=>?_);refine wpAny_pure ?_;refine wpAny_pure ?_;have k2'':SIt d h' i2 l2 k2:=k2'.at fun o e=>(sa.2 i2 (Ne.symm D.i12)).trans e
  have m2'':SOf d h' l2 ys:=m2'.at fun o e=>(sa.2 l2 D.l2i1).trans e
  refine wpAny_bind (wpAny_bind (wpAny_holding ?_));refine wpAny_bind (ue5 k2'' m2'' hy fun h'' a2 sc=>?_);refine wpAny_pure ?_;refine wpAny_pure ?_;refine wpAny_pure ?_;refine wpAny_bind (wpAny_newTuple ?_ (by simp;decide));have hs:h''.objs.size=s.heap.objs.size:=sc.1.trans (sa.1.trans sb.1);refine wpAny_pure ⟨_,rfl,?_⟩
  show Q (.ref h''.objs.size) _
  rw [hs];have kp:∀ c o,c ≠ z->c ≠ i1->c ≠ i2->s.heap.get? c=some o->h''.get? c=some o:=fun c o c1 c2 c3 e=>(sc.2 c c3).trans ((sa.2 c c2).trans ((sb.2 c c1).trans e))
  refine q _ ?_ ?_ ?_ ?_ ?_ fun c o c1 c2 c3 e=>Heap.get?_push_of_some _ (kp c o c1 c2 c3 e)
  ·exact Heap.get?_push_of_some _ ((sc.2 z (Ne.symm D.i2z)).trans ((sa.2 z (Ne.symm D.i1z)).trans hz1))
  ·exact a1.at fun o e=>Heap.get?_push_of_some _ ((sc.2 i1 D.i12).trans e)
  ·exact a2.at fun o e=>Heap.get?_push_of_some _ e
  ·rw [<- hs];exact Heap.get?_push_size _ rfl
  ·show (h''.push _).objs.size=_
   rw [<- hs];simp [Heap.push]
theorem vq3 {c d:Bool} {z TI TO i1 i2 l1 l2 T:Addr} {f:Bool} {oT:Obj} {k1 k2:Nat} {xs ys:Array Value} {Q:PySem.Fin->Shared->Prop} (hh:A.handled=none) (D:ZipApart z TI TO i1 i2 l1 l2) (ez:u98 s.heap z TI TO T f) (hT:s.heap.get? T=some oT)
  (eI:IsPair s.heap TI (.ref i1) (.ref i2)) (j1:SIt c s.heap i1 l1 k1) (m1:SOf c s.heap l1 xs) (hx:xs[k1]?=none)
  (q:∀ (h':Heap) (e:Addr),(∀ e o,e ≠ z->e ≠ i1->e ≠ i2->s.heap.get? e=some o->h'.get? e=some o)->(∃ o,h'.get? e=some o /\ o.cls=.type "StopIteration")->E (.ref e) { s with heap:=h' }) :
  wpAny (model prog w) A (Builtin.«zip.__next__» { pos:=[.ref z] }) Q E s:=by
 unfold Builtin.«zip.__next__»;refine wpAny_bind (wpAny_pure ?_);refine wpAny_bind (wpAny_field ez rfl rfl ?_);refine wpAny_bind (wpAny_field ez rfl rfl ?_);refine wpAny_bind (wpAny_seqItems eI rfl ?_);refine wpAny_bind ?_;unfold Builtin.SmallTypes.ownedTupleIsFree;refine wpAny_bind (wpAny_field ez rfl rfl ?_);refine wpAny_bind (W.kdx_alive (a:=T) (o:=oT) hT ?_);refine thn (Q:=fun a s1=>a=false /\ ∃ h1,s1={ s with heap:=h1 } /\ u98 h1 z TI TO T true /\ Heap.SameBut z s.heap h1) ?_ ?_
 ·rw [if_neg (by simp)]
  refine wpAny_bind (wpAny_field ez rfl rfl ?_);cases f with
  | true=>exact wpAny_pure ⟨rfl,s.heap,rfl,ez,rfl,fun _ _=>rfl⟩
  | false =>
   refine wpAny_bind (wpAny_setField_rec ez (by simp) fun h' e sb=>?_);exact wpAny_pure ⟨rfl,h',rfl,e,sb⟩
 ·rintro a s1 ⟨rfl,h,rfl,hz1,sb⟩
  simp only [Bool.false_eq_true,if_false];simp only [<- Array.forIn_toList,List.forIn_cons,List.forIn_nil];refine wpAny_bind (wpAny_bind (wpAny_bind (wpAny_holding ?_)));refine wpAny_bind (v55 hh (j1.at fun o e=>(sb.2 i1 D.i1z).trans e) (m1.at fun o e=>(sb.2 l1 D.l1z).trans e) hx fun h' e ext he=>?_);exact q h' e (fun c o c1 c2 c3 e=>ext c o c2 ((sb.2 c c1).trans e)) he
theorem vb9 {c d:Bool} {z TI TO i1 i2 l1 l2 T:Addr} {f:Bool} {oT:Obj} {k1 k2:Nat} {xs ys:Array Value} {x y:Value} {Q:Option Value->Shared->Prop} (D:ZipApart z TI TO i1 i2 l1 l2) (ez:u98 s.heap z TI TO T f) (hT:s.heap.get? T=some oT)
  (eI:IsPair s.heap TI (.ref i1) (.ref i2)) (j1:SIt c s.heap i1 l1 k1) (j2:SIt d s.heap i2 l2 k2) (m1:SOf c s.heap l1 xs) (m2:SOf d s.heap l2 ys) (hx:xs[k1]?=some x) (hy:ys[k2]?=some y)
  (q:∀ h':Heap,u98 h' z TI TO T true->SIt c h' i1 l1 (k1+1)->SIt d h' i2 l2 (k2+1)->IsPair h' s.heap.objs.size x y->h'.objs.size=s.heap.objs.size+1->(∀ e o,e ≠ z->e ≠ i1->e ≠ i2->s.heap.get? e=some o->h'.get? e=some o)->Q (some (.ref s.heap.objs.size)) { s with heap:=h' }) :
  wpAny (model prog w) A (pyNext (.ref z)) Q E s:=by
 have ty:s.TypeIs (.ref z) "zip" := ⟨_,ez,rfl⟩;refine wpAny_bind (wpAny_attempt (wpAny_callSpecial?_slot ty F.slot_zip_next (wpAny_call_entry F.slot_zip_next ty F.entry_zip_next ?_ (F.args_zip_next_1 (.ref z)))));exact vc0 D ez hT eI j1 j2 m1 m2 hx hy fun h' a1 a2 a3 a4 a5 a6=>wpAny_pure (q h' a1 a2 a3 a4 a5 a6)
theorem vb8 {c d:Bool} {z TI TO i1 i2 l1 l2 T:Addr} {f:Bool} {oT:Obj} {k1:Nat} {xs:Array Value} {Q:Option Value->Shared->Prop} (hh:A.handled=none) (D:ZipApart z TI TO i1 i2 l1 l2) (ez:u98 s.heap z TI TO T f) (hT:s.heap.get? T=some oT)
  (eI:IsPair s.heap TI (.ref i1) (.ref i2)) (j1:SIt c s.heap i1 l1 k1) (m1:SOf c s.heap l1 xs) (hx:xs[k1]?=none)
  (q:∀ h':Heap,(∀ e o,e ≠ z->e ≠ i1->e ≠ i2->s.heap.get? e=some o->h'.get? e=some o)->Q none { s with heap:=h' }):wpAny (model prog w) A (pyNext (.ref z)) Q E s:=by
 have ty:s.TypeIs (.ref z) "zip" := ⟨_,ez,rfl⟩;refine wpAny_bind (wpAny_attempt (wpAny_callSpecial?_slot ty F.slot_zip_next (wpAny_call_entry F.slot_zip_next ty F.entry_zip_next ?_ (F.args_zip_next_1 (.ref z)))));refine vq3 (d:=d) (k2:=k1) (ys:=xs) hh D ez hT eI j1 m1 hx fun h' e hk ⟨o,e1,e2⟩=>?_
 exact wpAny_bind (wpAny_isInstance ⟨o,e1,e2⟩ isSubtype_stop (wpAny_pure (q h' hk)))
end
structure DzSt (c d:Bool) (l1 l2 z TI TO i1 i2 S:Addr) (xs ys:Array Value) (i:Nat) (h:Heap):Prop where
 zz:IsZip h z TI TO .none \/ ∃ T f oT,u98 h z TI TO T f /\ h.get? T=some oT /\ T ≠ z /\ T ≠ TO /\ T ≠ i1 /\ T ≠ i2 /\ T ≠ S
 ti:IsPair h TI (.ref i1) (.ref i2)
 to:∃ u v,IsPair h TO u v
 h1:SIt c h i1 l1 i
 h2:SIt d h i2 l2 i
 m1:SOf c h l1 xs
 m2:SOf d h l2 ys
def putAll:List Key->List V->List (Key × V)->List (Key × V)
 | k::ks,v::vs,kvs=>putAll ks vs (putK kvs k v)
 | _,_,kvs=>kvs
theorem uo8:entryFor table "dict.update.loop" = some Builtin.«dict.update.loop»:=entryFor_of_tree (by kernel_rfl)
theorem ud8:plainId "dict.update.loop" = true:=by decide
theorem w40 {prog:Program} {w:World} {A:Around} {s:Shared} {R:Result->Shared->Prop} {c d:Bool} {l1 l2 z TI TO i1 i2 S:Addr} {xs ys:Array Value} {h1:Heap} (hh:A.in1.handled=none) (D:ZipApart z TI TO i1 i2 l1 l2) (hS:S ≠ z /\ S ≠ TI /\ S ≠ TO /\ S ≠ i1 /\ S ≠ i2 /\ S ≠ l1 /\ S ≠ l2)
  {ks:List Key} {rv:List V} (rk:Vals (ks.map kV) xs.toList) (rr:Vals rv ys.toList) (hn:ks.length=rv.length) (hz:ks.length<=1000)
  (q:∀ (h':Heap) (tk:Nat) (vs:List (Key × Value)),(∀ b o,b ≠ S->b ≠ z->b ≠ TO->b ≠ i1->b ≠ i2->h1.get? b=some o->h'.get? b=some o)->KV (putAll ks rv []) vs->h'.DictOf (u33 prog w) S vs->R (.ok (.ret .none)) { s with heap:=h',toks:=tk }) :
  ∀ (k i:Nat) (h:Heap) (tk:Nat) (ii:Int) (kvs:List (Key × V)) (vs:List (Key × Value)),ks.length - i=k->i<=ks.length->DzSt c d l1 l2 z TI TO i1 i2 S xs ys i h->KV kvs vs->h.DictOf (u33 prog w) S vs->kvs.length<=i->putAll (ks.drop i) (rv.drop i) kvs=putAll ks rv [] ->
   (∀ b o,b ≠ S->b ≠ z->b ≠ TO->b ≠ i1->b ≠ i2->h1.get? b=some o->h.get? b=some o)->codeAny (model prog w) A (.builtin "dict.update.loop" { pos:=[.ref S,.ref z,rawInt ii,.none] }) R { s with heap:=h,toks:=tk }:=by
 obtain ⟨S1,S2,S3,S4,S5,S6,S7⟩:=hS;have lx:xs.size=ks.length:=by have:=rk.length;simp at this;omega
 have ly:ys.size=ks.length:=by have:=rr.length;simp at this;omega
 intro k
 induction k with
 | zero =>
  intro i h tk ii kvs vs hk hi st rel dd hl he kp;have hi:i=ks.length:=by omega
  subst hi;have hx:xs[ks.length]?=none:=by simp [lx]
  have hfin:putAll ks rv []=kvs:=by rw [<- he,List.drop_length];rfl
  refine codeAny_builtin uo8 ?_;rw [Around.under_plainId ud8]
  rcases st.zz with zz | ⟨T,f,oT,zz,hT,T1,T2,T3,T4,T5⟩
  ·obtain ⟨u,v,to⟩:=st.to
   refine wpAny_bind (vq4 (s:={ s with heap:=h,toks:=tk }) hh D zz st.ti to st.h1 st.h2 st.m1 st.m2 (.inl hx) fun h' k2=>?_);refine wpAny_bind (wpAny_pure (wpAny_pure ?_));exact q h' tk vs (fun b o b1 b2 b3 b4 b5 e=>k2 b o b2 b3 b4 b5 (kp b o b1 b2 b3 b4 b5 e)) (by rw [hfin];exact rel) (dd.at fun o e=>k2 S o S1 S3 S4 S5 e)
  ·refine wpAny_bind (vb8 (s:={ s with heap:=h,toks:=tk }) (d:=d) hh D zz hT st.ti st.h1 st.m1 hx fun h' k2=>?_)
   refine wpAny_bind (wpAny_pure (wpAny_pure ?_));exact q h' tk vs (fun b o b1 b2 b3 b4 b5 e=>k2 b o b2 b4 b5 (kp b o b1 b2 b3 b4 b5 e)) (by rw [hfin];exact rel) (dd.at fun o e=>k2 S o S1 S4 S5 e)
 | succ k ih =>
  intro i h tk ii kvs vs hk hi st rel dd hl he kp;have hlt:i < ks.length:=by omega
  have hx:xs[i]?=some (xs[i]'(by omega)):=Array.getElem?_eq_getElem _;have hy:ys[i]?=some (ys[i]'(by omega)):=Array.getElem?_eq_getElem _;obtain ⟨kk,ek⟩:∃ kk,ks[i]?=some kk:=⟨ks[i],List.getElem?_eq_getElem hlt⟩;obtain ⟨vv,ev⟩:∃ vv,rv[i]?=some vv:=⟨rv[i]'(by omega),List.getElem?_eq_getElem _⟩;have rkk:RelV (kV kk) (xs[i]'(by omega)):=by
   obtain ⟨u,hu,ru⟩:=rk.get (i:=i) (x:=kV kk) (by rw [List.getElem?_map,ek];rfl);have:u=xs[i]'(by omega):=by simp only [Array.getElem?_toList,hx] at hu;exact (Option.some.inj hu).symm
   rw [<- this];exact ru
  have rvv:RelV vv (ys[i]'(by omega)):=by
   obtain ⟨u,hu,ru⟩:=rr.get ev;have:u=ys[i]'(by omega):=by simp only [Array.getElem?_toList,hy] at hu;exact (Option.some.inj hu).symm
   rw [<- this];exact ru
  have he2:putAll (ks.drop (i+1)) (rv.drop (i+1)) (putK kvs kk vv)=putAll ks rv []:=by
   rw [<- he];have e1:ks.drop i=kk::ks.drop (i+1):=by rw [List.drop_eq_getElem_cons hlt];congr 1;exact Option.some.inj ((List.getElem?_eq_getElem hlt).symm.trans ek)
   have e2:rv.drop i=vv::rv.drop (i+1):=by rw [List.drop_eq_getElem_cons (by omega)];congr 1;exact Option.some.inj ((List.getElem?_eq_getElem (by omega)).symm.trans ev)
   rw [e1,e2];rfl
  refine codeAny_builtin uo8 ?_;rw [Around.under_plainId ud8];have hsz:vs.length<=sizeLine:=by rw [<- rel.length];exact Nat.le_trans (m:=1000) (by omega) (by decide)
  have go:∀ h':Heap,(∃ T f oT,u98 h' z TI TO T f /\ h'.get? T=some oT /\ T ≠ z /\ T ≠ TO /\ T ≠ i1 /\ T ≠ i2 /\ T ≠ S)->(∃ u v,IsPair h' TO u v)->SIt c h' i1 l1 (i+1)->SIt d h' i2 l2 (i+1)->IsPair h' h.objs.size (xs[i]'(by omega)) (ys[i]'(by omega))->(∀ c o,c ≠ z->c ≠ TO->c ≠ i1->c ≠ i2->h.get? c=some o->h'.get? c=some o) ->
    wpAny (model prog w) A.in1 (dictSet S (xs[i]'(by omega)) (ys[i]'(by omega))) (fun _ s1=>wpAny (model prog w) A.in1 (again (.builtin "dict.update.loop" { pos:=[.ref S,.ref z,rawInt (ii+1),.none] }))
     (fun fin s'=>match fin with | .done f=>R (.ok f) s' | .again c'=>c'.quiet=true /\ codeAny (model prog w) A c' R s') (fun e s'=>R (.error e) s') s1) (fun e s'=>R (.error e) s') { s with heap:=h',toks:=tk }:=by
   rintro h' ⟨T,f,oT,zz,hT,T1,T2,T3,T4,T5⟩ ⟨u,v,to⟩ a1 a2 a3 a5;have dd':h'.DictOf (u33 prog w) S vs:=dd.at fun o e=>a5 S o S1 S3 S4 S5 e
   refine wpAny_dictSet_pairs (s:={ s with heap:=h',toks:=tk }) (hsz:=hsz) (v72 rkk) dd' fun h'' dd2 hs2=>?_
   refine wpAny_pure ⟨plainId_quiet ud8 _,?_⟩;have oth:∀ b o,b ≠ S->h'.get? b=some o->h''.get? b=some o:=fun b o hb e=>(hs2.2 b hb).trans e
   have hlp:=u66 kvs kk vv;refine ih (i+1) _ _ _ (putK kvs kk vv) _ (by omega) hlt ⟨.inr ⟨T,f,oT,oth _ _ (Ne.symm S1) zz,oth _ _ T5 hT,T1,T2,T3,T4,T5⟩,oth _ _ (Ne.symm S2) (a5 TI _ D.TIz D.TITO D.TIi1 D.TIi2 st.ti),⟨u,v,oth _ _ (Ne.symm S3) to⟩,a1.at fun o e=>oth _ _ (Ne.symm S4) e,a2.at fun o e=>oth _ _ (Ne.symm S5) e,st.m1.at fun o e=>oth _ _ (Ne.symm S6) (a5 l1 _ D.l1z D.l1TO D.l1i1 D.l1i2 e),st.m2.at fun o e=>oth _ _ (Ne.symm S7) (a5 l2 _ D.l2z D.l2TO D.l2i1 D.l2i2 e)⟩ (rel.put kk rvv) dd2 (by omega) he2 fun b o b1 b2 b3 b4 b5 e=>oth b o b1 (a5 b o b2 b3 b4 b5 (kp b o b1 b2 b3 b4 b5 e))
  rcases st.zz with zz | ⟨T,f,oT,zz,hT,T1,T2,T3,T4,T5⟩
  ·obtain ⟨u,v,to⟩:=st.to
   have ne:∀ {b o},h.get? b=some o->h.objs.size ≠ b:=fun e=>Nat.ne_of_gt (Heap.lt_size e)
   refine wpAny_bind (vq5 (s:={ s with heap:=h,toks:=tk }) D zz st.ti to st.h1 st.h2 st.m1 st.m2 hx hy fun h' b1 b2 b3 b4 b5 b6 b7=>?_);have neS:h.objs.size ≠ S:=by obtain ⟨o,_,_,e,_⟩:=dd;exact ne e
   have:=go h' ⟨h.objs.size,false,_,b1,b5,ne zz,ne to,(by obtain ⟨o,e,_⟩:=st.h1;exact ne e),(by obtain ⟨o,e,_⟩:=st.h2;exact ne e),neS⟩ ⟨_,_,b2⟩ b3 b4 b5 b7;refine wpAny_bind (wpAny_holding (wpAny_bind (wpAny_tryCatch ?_)));unfold Builtin.Dict.pairItems;refine wpAny_bind (wpAny_typeOf ⟨_,b5,rfl⟩ ?_);rw [if_pos (by decide)];refine wpAny_bind (wpAny_seqItems b5 rfl (wpAny_pure ?_));exact wpAny_holding this
  ·refine wpAny_bind (vb9 (s:={ s with heap:=h,toks:=tk }) D zz hT st.ti st.h1 st.h2 st.m1 st.m2 hx hy fun h' b1 b3 b4 b5 b6 b7=>?_)
   obtain ⟨u,v,to⟩:=st.to;have:=go h' ⟨T,true,_,b1,b7 T _ T1 T3 T4 hT,T1,T2,T3,T4,T5⟩ ⟨u,v,b7 TO _ D.TOz D.TOi1 D.TOi2 to⟩ b3 b4 b5 fun c o c1 c2 c3 c4 e=>b7 c o c1 c3 c4 e
   refine wpAny_bind (wpAny_holding (wpAny_bind (wpAny_tryCatch ?_)));unfold Builtin.Dict.pairItems;refine wpAny_bind (wpAny_typeOf ⟨_,b5,rfl⟩ ?_);rw [if_pos (by decide)];refine wpAny_bind (wpAny_seqItems b5 rfl (wpAny_pure ?_));exact wpAny_holding this
section
variable {prog:Program} {w:World} {A:Around} {E:Value->Shared->Prop} {s:Shared}
theorem vc1 {c d:Bool} {l1 l2:Addr} {xs ys:Array Value} {Q:Value->Shared->Prop} (m1:SOf c s.heap l1 xs) (m2:SOf d s.heap l2 ys)
  (q:∀ h',IsZip h' (s.heap.objs.size+4) (s.heap.objs.size+2) (s.heap.objs.size+3) .none->IsPair h' (s.heap.objs.size+2) (.ref s.heap.objs.size) (.ref (s.heap.objs.size+1))->IsPair h' (s.heap.objs.size+3) .none .none ->
   SIt c h' s.heap.objs.size l1 0->SIt d h' (s.heap.objs.size+1) l2 0->h'.objs.size=s.heap.objs.size+5->(∀ e o,s.heap.get? e=some o->h'.get? e=some o)->Q (.ref (s.heap.objs.size+4)) { s with heap:=h' }) :
  wpAny (model prog w) A (call (.type "zip") [.ref l1,.ref l2]) Q E s:=by
 refine callType_new F.called_zip (by decide) (F.typeCall_zip_2 _ _) (F.newCall_zip_2 _ _) (fun obj=>F.args_object_init_3 obj _ _) F.entry_zip_new (w69 c d l1 l2 xs ys) ⟨m1,m2,?_⟩;have n1:(zt1 s.heap c l1).objs.size=s.heap.objs.size+1:=Heap.size_push ..;have n2:(zt2 s.heap c d l1 l2).objs.size=s.heap.objs.size+2:=by rw [Heap.size_push,n1]
 have n3:(zt3 s.heap c d l1 l2).objs.size=s.heap.objs.size+3:=by rw [Heap.size_push,n2]
 have n4:(zt4 s.heap c d l1 l2).objs.size=s.heap.objs.size+4:=by rw [Heap.size_push,n3]
 have n5:(zt5 s.heap c d l1 l2).objs.size=s.heap.objs.size+5:=by rw [Heap.size_push,n4]
 have r5:(zt5 s.heap c d l1 l2).get? (zt4 s.heap c d l1 l2).objs.size=some _:=Heap.get?_push_size _ rfl;have r4:(zt5 s.heap c d l1 l2).get? (zt3 s.heap c d l1 l2).objs.size=some _:=Heap.get?_push_of_some _ (Heap.get?_push_size _ rfl);have r3:(zt5 s.heap c d l1 l2).get? (zt2 s.heap c d l1 l2).objs.size=some _:=Heap.get?_push_of_some _ (Heap.get?_push_of_some _ (Heap.get?_push_size _ rfl));have r2:(zt5 s.heap c d l1 l2).get? (zt1 s.heap c l1).objs.size=some _:=Heap.get?_push_of_some _ (Heap.get?_push_of_some _ (Heap.get?_push_of_some _ (Heap.get?_push_size _ rfl)));have r1:(zt5 s.heap c d l1 l2).get? s.heap.objs.size=some _:=Heap.get?_push_of_some _ (Heap.get?_push_of_some _ (Heap.get?_push_of_some _ (Heap.get?_push_of_some _ (Heap.get?_push_size _ rfl))))
 show _ /\ _
 rw [n2,n3,n4] at r5;rw [n1,n2] at r3;rw [n3] at r4;rw [n1] at r2;rw [n4];refine ⟨⟨_,r5,rfl⟩,q _ r5 r3 r4 ⟨_,r1,rfl,rfl⟩ ⟨_,r2,rfl,rfl⟩ n5 fun e o x=>?_⟩;exact Heap.get?_push_of_some _ (Heap.get?_push_of_some _ (Heap.get?_push_of_some _ (Heap.get?_push_of_some _ (Heap.get?_push_of_some _ x))))
end
theorem ul4 {prog:Program} {w:World} {A:Around} {E:Value->Shared->Prop} {s:Shared} {c d:Bool} {l1 l2 z TI TO i1 i2:Addr} {xs ys:Array Value} {Q:Value->Shared->Prop} (hh:A.in1.in1.handled=none) (D:ZipApart z TI TO i1 i2 l1 l2)
  (zz:IsZip s.heap z TI TO .none) (ti:IsPair s.heap TI (.ref i1) (.ref i2)) (to:∃ u v,IsPair s.heap TO u v) (h1:SIt c s.heap i1 l1 0) (h2:SIt d s.heap i2 l2 0) (m1:SOf c s.heap l1 xs) (m2:SOf d s.heap l2 ys)
  {ks:List Key} {rv:List V} (rk:Vals (ks.map kV) xs.toList) (rr:Vals rv ys.toList) (hn:ks.length=rv.length) (hz:ks.length<=1000)
  (q:∀ (h':Heap) (tk:Nat) (vs:List (Key × Value)),(∀ b o,b ≠ z->b ≠ TO->b ≠ i1->b ≠ i2->s.heap.get? b=some o->h'.get? b=some o)->KV (putAll ks rv []) vs->h'.DictOf (u33 prog w) s.heap.objs.size vs->Q (.ref s.heap.objs.size) { s with heap:=h',toks:=tk }) :
  wpAny (model prog w) A (call (.type "dict") [.ref z]) Q E s:=by
 refine callType_codes (Q₁:=fun obj s1=>obj=.ref s.heap.objs.size /\ s1={ s with heap:=s.heap.push { cls:=.type "dict",data:=.dict #[] } }) F.kt_called_dict (F.kt_typeCall_dict_1 (.ref z)) F.entry_dict_init (kt_code_dict_new (.ref z) ⟨rfl,rfl⟩) fun obj s1 hs1=>?_
 obtain ⟨e1,e2⟩:=hs1;subst e1;subst e2;have ed:(s.heap.push { cls:=.type "dict",data:=.dict #[] }).DictOf (u33 prog w) s.heap.objs.size []:=Heap.DictOf.new s.heap;have up:∀ b o,s.heap.get? b=some o->(s.heap.push { cls:=.type "dict",data:=.dict #[] }).get? b=some o:=fun b o e=>Heap.get?_push_of_some _ e
 have ne:∀ {b o},s.heap.get? b=some o->s.heap.objs.size ≠ b:=fun e=>Nat.ne_of_gt (Heap.lt_size e)
 obtain ⟨u,v,to⟩:=to;refine ⟨ed.typeIs,F.args_dict_init_2 _ _,?_⟩;unfold Builtin.«dict.__init__» Builtin.Dict.selfAndRest;refine wpAny_bind (wpAny_bind (wpAny_notOrdered_dict ed.typeIs (wpAny_pure ?_)))
 show wpAny _ _ (Builtin.Dict.updateFrom "dict.__init__" s.heap.objs.size (.ref z) [] .none) _ _ { s with heap:=s.heap.push { cls:=.type "dict",data:=.dict #[] } }
 unfold Builtin.Dict.updateFrom;refine wpAny_bind (wpAny_typeOf ⟨_,up _ _ zz,rfl⟩ ?_);rw [if_pos (by decide)];refine wpAny_bind (w41 (s:={ s with heap:=s.heap.push { cls:=.type "dict",data:=.dict #[] } }) (up _ _ zz) hh fun h' tk kp=>?_);simp only [Option.isNone_none,if_true];refine wpAny_bind (wpAny_rule ?_);have up2:∀ b o,s.heap.get? b=some o->h'.get? b=some o:=fun b o e=>kp b o (up b o e)
 refine wpAny_bind (wpAny_pyIter_zip (s:={ s with heap:=h',toks:=tk }) (up2 _ _ zz) ?_);refine wpAny_pure ⟨plainId_quiet ud8 _,?_⟩;have S7:s.heap.objs.size ≠ z /\ s.heap.objs.size ≠ TI /\ s.heap.objs.size ≠ TO /\ s.heap.objs.size ≠ i1 /\ s.heap.objs.size ≠ i2 /\ s.heap.objs.size ≠ l1 /\ s.heap.objs.size ≠ l2:=by
  refine ⟨ne zz,ne ti,ne to,?_,?_,?_,?_⟩
  ·obtain ⟨o,e,_⟩:=h1;exact ne e
  ·obtain ⟨o,e,_⟩:=h2;exact ne e
  ·obtain ⟨o,e,_⟩:=m1;exact ne e
  ·obtain ⟨o,e,_⟩:=m2;exact ne e
 refine w40 (s:=s) (h1:=h') (c:=c) (d:=d) hh D S7 rk rr hn hz (fun h2 tk2 vs k2 rel dd=>⟨rfl,q h2 tk2 vs (fun b o b2 b3 b4 b5 e=>k2 b o (Ne.symm (ne e)) b2 b3 b4 b5 (up2 b o e)) rel dd⟩) ks.length 0 h' tk 0 [] [] rfl (Nat.zero_le _)
  ⟨.inl (up2 _ _ zz),up2 _ _ ti,⟨u,v,up2 _ _ to⟩,h1.at fun o e=>up2 _ _ e,h2.at fun o e=>up2 _ _ e,m1.at fun o e=>up2 _ _ e,m2.at fun o e=>up2 _ _ e⟩ .nil (ed.at fun o e=>kp _ _ e) (Nat.le_refl _) rfl fun b o _ _ _ _ _ e=>e
def uu3 (K:W.Frag) (ta:TA):TE:=fun σ H Q=>ta σ H fun vs H1=>∃ c d a b ks rv,vs=[.ref a,.ref b] /\ Sq c K H1 a (ks.map kV) /\ Sq d K H1 b rv /\ ks.length=rv.length /\ ks.length<=1000 /\ ∀ p,H1 p=none->Q (.ref p) (upd H1 p (.dK (putAll ks rv [])))
theorem uh6:∀ (ks:List Key) (rv:List V) (kvs:List (Key × V)),(putAll ks rv kvs).length<=ks.length+kvs.length
 | [],_,kvs=>by simp [putAll]
 | _::_,[],kvs=>by simp [putAll]
 | k::ks,v::rv,kvs=>by
  have h1:=uh6 ks rv (putK kvs k v);have h2:=u66 kvs k v
  show (putAll ks rv (putK kvs k v)).length<=(ks.length+1)+kvs.length
  omega
theorem uy7 {X:Cx} {a b:Expr} {ta:TA} {p p2 pos pos2:Pos} {k:Nat} (hr:Room k X.A) (hg:Gl X "zip") (hm:X.mg "zip" = none) (hg2:Gl X "dict") (hm2:X.mg "dict" = none) (ha:PA X [a,b] ta)
  (hs:starEach [a,b] X.env=(false,eval a X.env)::starEach [b] X.env:=by rfl) (hsb:(backTo pos (starEach [b] X.env)).any (·.1)=false:=by rfl)
  (hs2:starEach [.Call (.Name "zip" p) [a,b] [] pos] X.env=[(false,eval (.Call (.Name "zip" p) [a,b] [] pos) X.env)]:=by rfl) :
  PE X (.Call (.Name "dict" p2) [.Call (.Name "zip" p) [a,b] [] pos] [] pos2) (uu3 X.K ta):=by
 intro pins s σ H Q I h;refine wpAny_Call_Name_kw (u96 I hg2 hm2 (show bootBuiltins "dict" = some (.type "dict") by decide) ?_);refine PyProof.Rows.callWith_type1 ?_ hs2 rfl;rw [hs2]
 show wpAny _ _ (spliced ((false,eval (.Call (.Name "zip" p) [a,b] [] pos) X.env)::backTo pos2 [])) _ _ s
 refine Calls.spliced_cons ?_;refine wpAny_Call_Name_kw (u96 I hg hm boot_zip (PyProof.Rows.callWith_type1 (thn (ha pos pins s σ H _ I h) fun us s1 ⟨vs,H1,I1,r1,q1⟩=>?_) hs hsb));obtain ⟨c,d,l,m,ks,rv,e,hq,hq2,hn,hz,q⟩:=q1;subst e;cases r1 with
 | cons r rr =>
  cases rr with
  | cons r2 rr =>
   cases rr;cases r;cases r2;obtain ⟨its,r1,pl⟩:=I1.sq hq;obtain ⟨its2,r2,pl2⟩:=I1.sq hq2;have hll:l < s1.heap.objs.size:=by obtain ⟨o,e,_⟩:=pl;exact Heap.lt_size e
   have hlm:m < s1.heap.objs.size:=by obtain ⟨o,e,_⟩:=pl2;exact Heap.lt_size e
   refine vc1 pl pl2 fun h0 k1 k2 k3 k4 k5 k6 k7=>?_
   refine Calls.spliced_nil ?_;refine ul4 hr.hd (zipApart_new hll hlm) k1 k2 ⟨_,_,k3⟩ k4 k5 (pl.at fun o e=>k7 _ _ e) (pl2.at fun o e=>k7 _ _ e) (ks:=ks) (rv:=rv) (by simpa using r1) (by simpa using r2) hn hz fun h' tk vs kp rel dd=>?_
   have kp':∀ b o,s1.heap.get? b=some o->h'.get? b=some o:=fun b o e=>kp b o (Nat.ne_of_lt (Nat.lt_of_lt_of_le (Heap.lt_size e) (Nat.le_add_right _ _))) (Nat.ne_of_lt (Nat.lt_of_lt_of_le (Heap.lt_size e) (Nat.le_add_right _ _))) (Nat.ne_of_lt (Heap.lt_size e)) (Nat.ne_of_lt (Nat.lt_of_lt_of_le (Heap.lt_size e) (Nat.le_add_right _ _))) (k7 b o e)
   have hle:s1.heap.objs.size<=h0.objs.size:=by rw [k6];exact Nat.le_add_right _ _
   have hp:H1 h0.objs.size=none:=I1.hok.fresh hle;have hlen:(putAll ks rv []).length<=sizeLine:=Nat.le_trans (uh6 ks rv []) (Nat.le_trans (m:=1000) (by simpa using hz) (by decide));have hsys:(h0.objs.size == sysModules)=false:=beq_eq_false_iff_ne.mpr (Nat.ne_of_gt (Nat.lt_of_lt_of_le I1.big hle));have I2:=I1.laid (a:=h0.objs.size) (t':=tk) (o:=.dK (putAll ks rv [])) kp' hle ⟨hlen,hsys,vs,rel,dd⟩;exact ⟨.ref h0.objs.size,_,I2,rfl,q _ hp⟩
end L2
namespace L3
open PySem PySem.Spec PyProof.Rows L2
def valK (kvs:List (Key × D)) (k:Key):Option D:=(kvs.find? fun kv=>decide (kv.1=k)).map (·.2)
def ua7 (kvs:List (Key × D)) (k:Key) (v:D):List (Key × D) :=
 if (kvs.any fun kv=>decide (kv.1=k))=true then kvs.map (fun kv=>if kv.1=k then (kv.1,v) else kv) else kvs++[(k,v)]
def u84:List Key->List D->List (Key × D)->List (Key × D)
 | k::ks,v::vs,kvs=>u84 ks vs (ua7 kvs k v)
 | _,_,kvs=>kvs
section
variable {X:Cx} {K:W.Frag} {G:Gp} {H:Hp} {p:Addr}
theorem ud3 {k:Key}:∀ {kvs:List (Key × D)} {ys:List (Key × V)},RelPs K H kvs ys->(valK kvs k=none /\ valV ys k=none) \/ ∃ d v,valK kvs k=some d /\ valV ys k=some v /\ RelD K H d v
 | [],ys,⟨h1,h2⟩=>by
  have:ys=[]:=by cases ys with | nil=>rfl | cons y ys=>simp at h1
  subst this;exact .inl ⟨rfl,rfl⟩
 | (k',d)::kvs,[],⟨h1,h2⟩=>by simp at h1
 | (k',d)::kvs,(k2,v)::ys,⟨h1,h2⟩=>by
  rw [List.map_cons,List.map_cons] at h1;obtain ⟨e1,e2⟩:=List.cons.inj h1;have e1:k'=k2:=e1;subst e1;obtain ⟨x,xs',e3,q1,q2⟩:=h2.inv_cons;rw [List.map_cons] at e3;obtain ⟨e4,e5⟩:=List.cons.inj e3;have e4:v=x:=e4;subst e4
  by_cases hk:k'=k
  ·right
   exact ⟨d,v,by simp [valK,List.find?_cons,hk],ud1 hk,q1⟩
  ·have ih:=ud3 (k:=k) (kvs:=kvs) (ys:=ys) ⟨e2,by rw [e5];exact q2⟩
   have a1:valK ((k',d)::kvs) k=valK kvs k:=by simp [valK,List.find?_cons,hk]
   rw [a1,ud2 hk];exact ih
theorem uv7 {k:Key} {d:D} {v:V} (q:RelD K H d v):∀ {kvs:List (Key × D)} {ys:List (Key × V)},RelPs K H kvs ys->RelPs K H (kvs.map (fun kv=>if kv.1=k then (kv.1,d) else kv)) (ys.map (fun kv=>if kv.1=k then (kv.1,v) else kv)) /\ (kvs.any fun kv=>decide (kv.1=k))=(ys.any fun kv=>decide (kv.1=k))
 | [],ys,⟨h1,h2⟩=>by
  have:ys=[]:=by cases ys with | nil=>rfl | cons y ys=>simp at h1
  subst this;exact ⟨⟨rfl,.nil⟩,rfl⟩
 | (k',d')::kvs,[],⟨h1,h2⟩=>by simp at h1
 | (k',d')::kvs,(k2,v')::ys,⟨h1,h2⟩=>by
  rw [List.map_cons,List.map_cons] at h1;obtain ⟨e1,e2⟩:=List.cons.inj h1;have e1:k'=k2:=e1;subst e1;obtain ⟨x,xs',e3,q1,q2⟩:=h2.inv_cons;rw [List.map_cons] at e3;obtain ⟨e4,e5⟩:=List.cons.inj e3;have e4:v'=x:=e4;subst e4;obtain ⟨⟨i1,i2⟩,i3⟩:=uv7 (k:=k) q (kvs:=kvs) (ys:=ys) ⟨e2,by rw [e5];exact q2⟩;refine ⟨⟨?_,?_⟩,by rw [List.any_cons,List.any_cons,i3]⟩
  ·rw [List.map_cons,List.map_cons,List.map_cons,List.map_cons,i1]
   by_cases hk:k'=k <;> simp [hk]
  ·rw [List.map_cons,List.map_cons,List.map_cons,List.map_cons]
   by_cases hk:k'=k
   ·simp only [hk,if_true];exact .cons q i2
   ·simp only [hk,if_false];exact .cons q1 i2
theorem uj9 {k:Key} {d:D} {v:V} (q:RelD K H d v) {kvs:List (Key × D)} {ys:List (Key × V)} (h:RelPs K H kvs ys):RelPs K H (ua7 kvs k d) (putK ys k v):=by
 obtain ⟨i1,i3⟩:=uv7 (k:=k) q h;unfold ua7 putK;rw [i3];split
 ·exact i1
 ·exact ⟨by rw [List.map_append,List.map_append,h.1];rfl,by rw [List.map_append,List.map_append];exact h.2.append (.cons q .nil)⟩
theorem uh5:∀ {ks:List Key} {ds:List D} {vs:List V} {kvs:List (Key × D)} {ys:List (Key × V)},RelDs K H ds vs->RelPs K H kvs ys->RelPs K H (u84 ks ds kvs) (putAll ks vs ys)
 | [],_,_,_,_,_,h=>h
 | _::_,[],vs,_,_,r,h=>by rw [r.inv_nil];exact h
 | k::ks,d::ds,vs,kvs,ys,r,h=>by
  obtain ⟨x,xs',rfl,q1,q2⟩:=r.inv_cons;exact uh5 (ks:=ks) q2 (uj9 q1 h)
theorem uw3 {k:Key} {v:V} (r:RelD K H (kD k) v):v=kV k:=by
 cases k with
 | inl i=>exact (show RelD K H (.int i) v from r).int_inv
 | inr x=>exact (show RelD K H (.str x) v from r).str_inv
def up3 (td ti:TE3):TE3:=fun σ G q=>td σ G fun x G1=>ti σ G1 fun y G2=>∃ a kvs k d,x=.ref a /\ y=kD k /\ G2 a=some (.dic kvs) /\ valK kvs k=some d /\ q d G2
theorem vh7 {td ti:TE3} {σ:L2.St} {Q:VK} (h:lowE K (up3 td ti) σ H Q):vs3 (lowE K td) (lowE K ti) σ H Q:=by
 obtain ⟨σd,G,q,rs,c,t,f⟩:=h;refine ⟨σd,G,_,rs,c,t,fun x G1 v H1 r1 c1 l1 t1=>⟨σd,G1,_,rs.le l1,c1,t1,fun y G2 u H2 r2 c2 l2 t2=>?_⟩⟩;obtain ⟨a,kvs,k,d,rfl,rfl,hg,hv,t3⟩:=t2;have r1':=RelD.le l2 r1;cases r1'.ref_inv;obtain rfl:=uw3 r2;obtain ⟨ys,e,rp⟩:=c2 a _ hg
 rcases ud3 (k:=k) rp with ⟨z,_⟩ | ⟨d',w,z1,z2,z3⟩
 ·rw [hv] at z;cases z
 ·rw [hv] at z1;cases z1
  exact ⟨a,w,rfl,by rw [<- z2];exact DGet.k e,f _ _ _ _ z3 c2 (l1.trans l2) t3⟩
theorem ua2 {k:Nat} {o i:Expr} {pos:Pos} {to ti:TE3} (hr:Room k X.A) (ho:E3 X o to) (hi:E3 X i ti) (hs:NoSl i:=by exact fun _ _=>rfl):E3 X (.Subscript o i pos) (up3 to ti) :=
 u43 (v47 (vi8 hr) ho hi hs) fun _ _ _=>vh7
def v01 (td ti tv:TE3):TS3:=fun Dn σ G=>tv σ G fun v G1=>td σ G1 fun x G2=>ti σ G2 fun y G3=>∃ (a:Addr) (kvs:List (Key × D)) (k:Key),x=.ref a /\ y=kD k /\ G3 a=some (.dic kvs) /\ kvs.length < sizeLine /\ Dn.nx σ (gup G3 a (.dic (ua7 kvs k v)))
theorem ue4 {k:Nat} {o i value:Expr} {pos pos':Pos} {to ti tv:TE3} (hr:Room k X.A) (ho:E3 X o to) (hi:E3 X i ti) (hv:E3 X value tv)
  (hs:swapsWith value (some (.Subscript o i pos')) pos.line X.env=pure false:=by rfl):S3 X (.Assign [.Subscript o i pos'] value pos) (v01 to ti tv) :=
 ua5 (vy5 (vi8 hr) ho hi hv hs) fun D σ H h=>by
  obtain ⟨σd,G,d,rs,c,t,f⟩:=h;refine ⟨σd,G,_,rs,c,t,fun v G1 w H1 r1 c1 l1 t1=>⟨σd,G1,_,rs.le l1,c1,t1,fun x G2 u H2 r2 c2 l2 t2=>⟨σd,G2,_,rs.le (l1.trans l2),c2,t2,fun y G3 z H3 r3 c3 l3 t3=>?_⟩⟩⟩;obtain ⟨a,kvs,k,rfl,rfl,hg,hl,t4⟩:=t3;have r2':=RelD.le l3 r2;cases r2'.ref_inv;obtain rfl:=uw3 r3;obtain ⟨ys,e,rp⟩:=c3 a _ hg;have l5:Le H3 (upd H3 a (.dK (putK ys k w))):=Le.dK e;have lys:ys.length=kvs.length:=by
   have:=congrArg List.length rp.1;rw [List.length_map,List.length_map] at this;exact this.symm
  refine ⟨a,_,rfl,DPut.k e (by rw [lys];exact hl),?_⟩;refine f.nx _ _ _ _ (((rs.le l1).le l2).le (l3.trans l5)) ?_ (l1.trans (l2.trans (l3.trans l5))) t4;exact c3.put l5 ⟨_,u24,(uj9 (RelD.le (l2.trans l3) r1) rp).le l5⟩
def ud9 (t:TA3):TE3:=fun σ G q=>t σ G fun ds G1=>match ds with
 | [x,y]=>∃ (ks:List Key) (es:List D),sqD G1 x=some (ks.map kD) /\ sqD G1 y=some es /\ ks.length=es.length /\ ks.length<=1000 /\ ∀ p,G1 p=none->q (.ref p) (gup G1 p (.dic (u84 ks es [])))
 | _=>False
theorem ur2 {t:TA3} {σ:L2.St} {Q:VK} (h:lowE K (ud9 t) σ H Q):uu3 K (lowA K t) σ H Q:=by
 obtain ⟨σd,G,q,rs,c,t,f⟩:=h;refine ⟨σd,G,_,rs,c,t,fun ds G1 vs H1 r1 c1 l1 t1=>?_⟩;split at t1
 ·rename_i x y
  obtain ⟨ks,es,e,e2,hn,hz,t2⟩:=t1;obtain ⟨v,vs',rfl,rv,r2⟩:=r1.inv_cons;obtain ⟨v2,rfl,rv2⟩:=r2.one;obtain ⟨k1,a,rfl,_,q1⟩:=w99 rv c1 e;obtain ⟨k2,b,rfl,_,q2⟩:=w99 rv2 c1 e2;obtain ⟨xs,s1,rx⟩:=q1 G1 H1 (Le.refl _) c1 e;obtain ⟨ys,s2,ry⟩:=q2 G1 H1 (Le.refl _) c1 e2;obtain rfl:=uj8 rx;refine ⟨k1,k2,a,b,ks,ys,rfl,s1,s2,by rw [hn,ry.length],hz,fun p hp=>?_⟩;refine f (.ref p) _ (.ref p) _ RelD.refI (c1.put (o:=.dic (u84 ks es [])) (Le.fresh hp) ⟨_,u24,?_⟩) (l1.trans (Le.fresh hp)) (t2 p (c1.fresh hp));exact (uh5 ry ⟨rfl,.nil⟩).le (Le.fresh hp)
 ·exact t1.elim
theorem uo7 {a b:Expr} {ts:TA3} {p p2 pos pos2:Pos} {k:Nat} (hr:Room k X.A) (hg:Gl X "zip") (hm:X.mg "zip" = none) (hg2:Gl X "dict") (hm2:X.mg "dict" = none) (ha:A3 X [a,b] ts)
  (hs:starEach [a,b] X.env=(false,eval a X.env)::starEach [b] X.env:=by rfl) (hsb:(backTo pos (starEach [b] X.env)).any (·.1)=false:=by rfl)
  (hs2:starEach [.Call (.Name "zip" p) [a,b] [] pos] X.env=[(false,eval (.Call (.Name "zip" p) [a,b] [] pos) X.env)]:=by rfl) :
  E3 X (.Call (.Name "dict" p2) [.Call (.Name "zip" p) [a,b] [] pos] [] pos2) (ud9 ts):=u43 (uy7 hr hg hm hg2 hm2 ha hs hsb hs2) fun _ _ _=>ur2
end
end L3
namespace L3
open PySem PySem.Spec PyProof.Rows L2 Rw
def ixB:List Str->Str->Nat
 | [],_=>0
 | b::bs,x=>if b=x then 0 else 1+ixB bs x
def gtB (bs:List Str) (vs:List Nat) (x:Str):Nat:=(vs[ixB bs x]?).getD 0
def ptB (bs:List Str) (vs:List Nat) (x:Str) (v:Nat):List Nat:=vs.set (ixB bs x) v
def u08 (bs:List Str) (vs:List Nat):List (Key × D):=(bs.zip vs).map fun p=>(Sum.inr p.1,D.int (p.2:Int))
theorem uw4:∀ {bs:List Str} {x:Str},x ∈ bs->ixB bs x < bs.length
 | b::bs,x,h=>by
  unfold ixB
  by_cases e:b=x
  ·rw [if_pos e];simp
  ·rw [if_neg e]
   have:=uw4 (bs:=bs) (x:=x) (by rcases List.mem_cons.mp h with z | z;exact absurd z.symm e;exact z);simp only [List.length_cons];omega
theorem u51:∀ {bs:List Str} {vs:List Nat} {x:Str},x ∈ bs->vs.length=bs.length->valK (u08 bs vs) (.inr x)=some (.int (gtB bs vs x:Int))
 | b::bs,[],x,h,hl=>by simp at hl
 | b::bs,v::vs,x,h,hl=>by
  by_cases e:b=x
  ·subst e
   simp [valK,u08,gtB,ixB,List.find?_cons]
  ·have hx:x ∈ bs:=by rcases List.mem_cons.mp h with z | z;exact absurd z.symm e;exact z
   have ih:=u51 (bs:=bs) (vs:=vs) (x:=x) hx (by simpa using hl);have e2:valK (u08 (b::bs) (v::vs)) (.inr x)=valK (u08 bs vs) (.inr x):=by
    simp [valK,u08,List.find?_cons,e]
   rw [e2,ih];have:gtB (b::bs) (v::vs) x=gtB bs vs x:=by
    unfold gtB;rw [show ixB (b::bs) x=1+ixB bs x from by rw [ixB,if_neg e],Nat.add_comm,List.getElem?_cons_succ]
   rw [this]
theorem v41 {x:Str} {w:D}:∀ {bs:List Str} {vs:List Nat},x ∉ bs->(u08 bs vs).map (fun kv=>if kv.1=Sum.inr x then (kv.1,w) else kv)=u08 bs vs /\ ((u08 bs vs).any fun kv=>decide (kv.1=Sum.inr x))=false
 | [],_,_=>⟨rfl,rfl⟩
 | _::_,[],_=>⟨rfl,rfl⟩
 | b::bs,v::vs,h=>by
  have hb:b ≠ x:=fun e=>h (by rw [e];simp)
  obtain ⟨i1,i2⟩:=v41 (x:=x) (w:=w) (bs:=bs) (vs:=vs) fun z=>h (List.mem_cons_of_mem _ z)
  unfold u08 at i1 i2 ⊢;refine ⟨?_,?_⟩
  ·rw [List.zip_cons_cons,List.map_cons,List.map_cons,i1]
   simp [hb]
  ·rw [List.zip_cons_cons,List.map_cons,List.any_cons,i2]
   simp [hb]
theorem u83:∀ {bs:List Str} {vs:List Nat} {x:Str} {v:Nat},x ∈ bs->bs.Nodup->vs.length=bs.length->ua7 (u08 bs vs) (.inr x) (.int (v:Int))=u08 bs (ptB bs vs x v):=by
 intro bs vs x v h hn hl;have key:((u08 bs vs).any fun kv=>decide (kv.1=Sum.inr x))=true /\ (u08 bs vs).map (fun kv=>if kv.1=Sum.inr x then (kv.1,D.int (v:Int)) else kv)=u08 bs (ptB bs vs x v):=by
  induction bs generalizing vs with
  | nil=>cases h
  | cons b bs ih =>
   cases vs with
   | nil=>simp at hl
   | cons u vs =>
    obtain ⟨n1,n2⟩:=List.nodup_cons.mp hn
    by_cases e:b=x
    ·subst e
     obtain ⟨i1,i2⟩:=v41 (x:=b) (w:=D.int (v:Int)) (vs:=vs) n1;unfold u08 at i1 ⊢;refine ⟨by simp,?_⟩;rw [List.zip_cons_cons,List.map_cons,List.map_cons,i1];simp [ptB,ixB]
    ·have hx:x ∈ bs:=by rcases List.mem_cons.mp h with z | z;exact absurd z.symm e;exact z
     obtain ⟨i1,i2⟩:=ih (vs:=vs) hx n2 (by simpa using hl);have ep:ptB (b::bs) (u::vs) x v=u::ptB bs vs x v:=by
      unfold ptB;rw [show ixB (b::bs) x=ixB bs x+1 from by rw [ixB,if_neg e,Nat.add_comm],List.set_cons_succ]
     rw [ep];unfold u08 at i1 i2 ⊢;refine ⟨?_,?_⟩
     ·rw [List.zip_cons_cons,List.map_cons,List.any_cons,i1,Bool.or_true]
     ·rw [List.zip_cons_cons,List.zip_cons_cons,List.map_cons,List.map_cons,List.map_cons,i2]
      simp [e]
 unfold ua7;rw [if_pos key.1];exact key.2
theorem uh8:∀ {bs cs:List Str} {vs us:List Nat},vs.length=bs.length->us.length=cs.length->(cs++bs).Nodup->u84 (bs.map Sum.inr) (vs.map nD) (u08 cs us)=u08 (cs++bs) (us++vs)
 | [],cs,[],us,_,_,_=>by simp [u84]
 | [],cs,_::_,us,h,_,_=>by simp at h
 | _::_,cs,[],us,h,_,_=>by simp at h
 | b::bs,cs,v::vs,us,h,h2,hn=>by
  show u84 (bs.map Sum.inr) (vs.map nD) (ua7 (u08 cs us) (.inr b) (.int (v:Int)))=_
  have hb:b ∉ cs:=fun z=>by
   have:=List.nodup_append.mp hn;exact this.2.2 b z b (by simp) rfl
  obtain ⟨_,i2⟩:=v41 (x:=b) (w:=D.int (v:Int)) (vs:=us) hb;have e1:ua7 (u08 cs us) (.inr b) (.int (v:Int))=u08 (cs++[b]) (us++[v]):=by
   unfold ua7;rw [i2,if_neg (by simp)];unfold u08;rw [List.zip_append h2.symm,List.map_append];rfl
  rw [e1];have hn2:((cs++[b])++bs).Nodup:=by rw [List.append_assoc];exact hn
  rw [uh8 (bs:=bs) (cs:=cs++[b]) (vs:=vs) (us:=us++[v]) (by simpa using h) (by simp [h2]) hn2,List.append_assoc,List.append_assoc];rfl
theorem uh7 {bs:List Str} {vs:List Nat} (hl:vs.length=bs.length) (hn:bs.Nodup):u84 (bs.map Sum.inr) (vs.map nD) []=u08 bs vs:=by
 have:=uh8 (bs:=bs) (cs:=[]) (vs:=vs) (us:=[]) hl rfl hn;simpa [u08] using this
theorem vx9 {bs:List Str} {vs:List Nat} {x:Str} {v:Nat}:(ptB bs vs x v).length=vs.length:=by simp [ptB]
theorem u74 (bs:List Str) (vs:List Nat):(u08 bs vs).length<=bs.length:=by
 unfold u08;rw [List.length_map,List.length_zip];exact Nat.min_le_left _ _
def StW (W:Nat) (bs:List Str) (vs:List Nat):Prop:=vs.length=bs.length /\ ∀ v ∈ vs,v < 2 ^ W
theorem wn4 {W:Nat} {bs:List Str} {vs:List Nat} (h:StW W bs vs) (x:Str):gtB bs vs x < 2 ^ W:=by
 unfold gtB;cases e:vs[ixB bs x]? with
 | none=>exact Nat.two_pow_pos W
 | some v=>exact h.2 v (List.mem_of_getElem? e)
theorem StW.put {W:Nat} {bs:List Str} {vs:List Nat} (h:StW W bs vs) {x:Str} {v:Nat} (hv:v < 2 ^ W):StW W bs (ptB bs vs x v):=by
 refine ⟨by rw [vx9];exact h.1,fun u hu=>?_⟩
 rcases List.mem_or_eq_of_mem_set hu with z | z
 ·exact h.2 u z
 ·rw [z];exact hv
def avB (bs:List Str) (vs:List Nat):Atm->Nat
 | .num i=>i
 | .box x=>gtB bs vs x
theorem uc3 {W:Nat} {bs:List Str} {vs:List Nat} (h:StW W bs vs) {a:Atm} (ha:okA W bs a):avB bs vs a < 2 ^ W:=by
 cases a with
 | num i=>exact ha
 | box x=>exact wn4 h x
def rkB (W:Nat) (o:Str) (a b:Nat):Nat :=
 if o = "+" then (a+b) % 2 ^ W else if o = "-" then (a+(2 ^ W - b)) % 2 ^ W else if o = "&" then a &&& b else if o = "|" then a ||| b else if o = "^" then a ^^^ b else if o = "<" then (if a < b then 1 else 0) else (if a=b then 1 else 0)
theorem uh9 {W:Nat} (h:1<=W):1 < 2 ^ W:=Nat.lt_of_lt_of_le (by decide:1 < 2 ^ 1) (Nat.pow_le_pow_right (by decide) h)
theorem wa7 {W a b:Nat} {o:Str} (hW:1<=W) (ha:a < 2 ^ W) (hb:b < 2 ^ W):rkB W o a b < 2 ^ W:=by
 have h1:=uh9 hW;unfold rkB;split
 ·exact Nat.mod_lt _ (by omega)
 split
 ·exact Nat.mod_lt _ (by omega)
 split
 ·exact Nat.and_lt_two_pow _ hb
 split
 ·exact Nat.or_lt_two_pow ha hb
 split
 ·exact Nat.xor_lt_two_pow ha hb
 split
 ·split <;> omega
 ·split <;> omega
mutual
def doR (W:Nat) (bs:List Str):Rowp->List Nat->List Nat
 | .is x a,vs=>ptB bs vs x (avB bs vs a)
 | .op x o a b,vs=>ptB bs vs x (rkB W o (avB bs vs a) (avB bs vs b))
 | .cho a ys ns,vs=>if avB bs vs a=0 then doL W bs ns vs else doL W bs ys vs
 | .tim k ys,vs=>Nat.repeat (doL W bs ys) k vs
def doL (W:Nat) (bs:List Str):List Rowp->List Nat->List Nat
 | [],vs=>vs
 | r::rs,vs=>doL W bs rs (doR W bs r vs)
end
theorem v89 {W:Nat} {bs:List Str}:∀ {a b:List Rowp} {vs:List Nat},doL W bs (a++b) vs=doL W bs b (doL W bs a vs)
 | [],b,vs=>rfl
 | r::a,b,vs=>by
  show doL W bs (a++b) (doR W bs r vs)=doL W bs b (doL W bs a (doR W bs r vs))
  exact v89
mutual
theorem v88 {W:Nat} {bs:List Str} (hW:1<=W):∀ (r:Rowp) {vs:List Nat},okR W bs r->StW W bs vs->StW W bs (doR W bs r vs)
 | .is x a,vs,h,s=>s.put (uc3 s h.2)
 | .op x o a b,vs,h,s=>s.put (wa7 hW (uc3 s h.2.2.1) (uc3 s h.2.2.2))
 | .cho a ys ns,vs,h,s=>by
  show StW W bs (if avB bs vs a=0 then doL W bs ns vs else doL W bs ys vs)
  split
  ·exact uo9 hW ns h.2.2 s
  ·exact uo9 hW ys h.2.1 s
 | .tim k ys,vs,h,s=>by
  show StW W bs (Nat.repeat (doL W bs ys) k vs)
  have:∀ k,StW W bs (Nat.repeat (doL W bs ys) k vs):=fun k=>by
   induction k with
   | zero=>exact s
   | succ k ih=>exact uo9 hW ys h.2 ih
  exact this k
theorem uo9 {W:Nat} {bs:List Str} (hW:1<=W):∀ (rs:List Rowp) {vs:List Nat},okL W bs rs->StW W bs vs->StW W bs (doL W bs rs vs)
 | [],_,_,s=>s
 | r::rs,_,h,s=>uo9 hW rs h.2 (v88 hW r h.1 s)
end
theorem v51 {W:Nat} {bs:List Str}:∀ {rs:List Rowp} {r:Rowp},okL W bs rs->r ∈ rs->okR W bs r
 | s::rs,r,h,m=>by
  rcases List.mem_cons.mp m with e | e
  ·subst e;exact h.1
  ·exact v51 h.2 e
theorem v67:∀ (n a b:Nat),a < 2 ^ n->b < 2 ^ n->a ||| b=(a ^^^ b)+(a &&& b)
 | 0,a,b,ha,hb=>by
  have h1:a=0:=by simpa using ha
  have h2:b=0:=by simpa using hb
  subst h1 h2;rfl
 | n+1,a,b,ha,hb=>by
  rw [Nat.pow_succ] at ha hb;have h:=v67 n (a / 2) (b / 2) (by omega) (by omega);have d1:(a ||| b) / 2=(a / 2) ||| (b / 2):=by simpa using (Nat.or_div_two (a:=a) (b:=b))
  have d2:(a &&& b) / 2=(a / 2) &&& (b / 2):=by simpa using (Nat.and_div_two (a:=a) (b:=b))
  have d3:(a ^^^ b) / 2=(a / 2) ^^^ (b / 2):=by simpa using (Nat.xor_div_two (a:=a) (b:=b))
  have m1:(a ||| b) % 2=(a % 2) ||| (b % 2):=by simpa using (Nat.or_mod_two_pow (a:=a) (b:=b) (n:=1))
  have m2:(a &&& b) % 2=(a % 2) &&& (b % 2):=by simpa using (Nat.and_mod_two_pow (a:=a) (b:=b) (n:=1))
  have m3:(a ^^^ b) % 2=(a % 2) ^^^ (b % 2):=by simpa using (Nat.xor_mod_two_pow (a:=a) (b:=b) (n:=1))
  have ra:a % 2=0 \/ a % 2=1:=by omega
  have rb:b % 2=0 \/ b % 2=1:=by omega
  have t1:(0 ||| 0:Nat)=0:=rfl;have t2:(0 ||| 1:Nat)=1:=rfl;have t3:(1 ||| 0:Nat)=1:=rfl;have t4:(1 ||| 1:Nat)=1:=rfl;have t5:(0 &&& 0:Nat)=0:=rfl;have t6:(0 &&& 1:Nat)=0:=rfl;have t7:(1 &&& 0:Nat)=0:=rfl;have t8:(1 &&& 1:Nat)=1:=rfl;have t9:(0 ^^^ 0:Nat)=0:=rfl;have ta:(0 ^^^ 1:Nat)=1:=rfl;have tb:(1 ^^^ 0:Nat)=1:=rfl;have tc:(1 ^^^ 1:Nat)=0:=rfl
  rcases ra with ra | ra <;> rcases rb with rb | rb <;> rw [ra,rb] at m1 m2 m3 <;> first | (rw [t1] at m1;rw [t5] at m2;rw [t9] at m3;omega) | (rw [t2] at m1;rw [t6] at m2;rw [ta] at m3;omega) | (rw [t3] at m1;rw [t7] at m2;rw [tb] at m3;omega) | (rw [t4] at m1;rw [t8] at m2;rw [tc] at m3;omega)
theorem submod {a b P:Nat} (hb:b < P):((a:Int) - (b:Int)) % (P:Int)=(((a+(P - b)) % P:Nat):Int):=by
 have h:((a+(P - b):Nat):Int)=(a:Int) - b+P:=by omega
 rw [Int.natCast_emod,h,Int.add_emod_right]
theorem pw (W:Nat):(1:Int) * 2 ^ W=((2 ^ W:Nat):Int):=by rw [Int.one_mul,Int.natCast_pow];rfl
theorem v07 {a b W:Nat} (ha:a < 2 ^ W) (hb:b < 2 ^ W):Builtin.bitXor (a:Int) (b:Int)=((a ^^^ b:Nat):Int):=by
 show Builtin.bitOr (a:Int) (b:Int) - Builtin.bitAnd (a:Int) (b:Int)=_
 rw [uv2,ug2,v67 W a b ha hb];omega
theorem vj0 {G:Gp} {h:Addr} {o:DO} (e:G h=some o):gup G h o=G:=by
 funext b
 unfold gup;split
 ·rename_i z;rw [z];exact e.symm
 ·rfl
theorem vs7 {G:Gp} {h:Addr} {d:D} {o:List (Key × D)} {o':DO} {ds:List D} (hg:G h=some (.dic o)) (e:sqD G d=some ds):sqD (gup G h o') d=some ds:=by
 cases d with
 | tup es=>exact e
 | ref a =>
  have ne:a ≠ h:=fun z=>by
   have e':u19 (G a)=some ds:=e;rw [z,hg] at e';cases e'
  show u19 (gup G h o' a)=some ds
  rw [u06 ne];exact e
 | _=>cases e
theorem uk1:∀ {bs:List Str} {vs:List Nat},bs.Nodup->vs.length=bs.length->bs.map (gtB bs vs)=vs
 | [],[],_,_=>rfl
 | [],_::_,_,h=>by simp at h
 | _::_,[],_,h=>by simp at h
 | b::bs,v::vs,hn,h=>by
  obtain ⟨n1,n2⟩:=List.nodup_cons.mp hn;have e1:gtB (b::bs) (v::vs) b=v:=by simp [gtB,ixB]
  have e2:bs.map (gtB (b::bs) (v::vs))=bs.map (gtB bs vs):=by
   refine List.map_congr_left fun x hx=>?_
   have hb:b ≠ x:=fun z=>n1 (z ▸ hx)
   unfold gtB;rw [show ixB (b::bs) x=ixB bs x+1 from by rw [ixB,if_neg hb,Nat.add_comm],List.getElem?_cons_succ]
  rw [List.map_cons,e1,e2,uk1 n2 (by simpa using h)]
theorem abc_at {x:Int} (h1:0<=x) (h2:x < 26):atI (Str.ofString "abcdefghijklmnopqrstuvwxyz").cps.toList x=some (97+x.toNat):=by
 obtain ⟨n,rfl⟩:=Int.eq_ofNat_of_zero_le h1;have hn:n < 26:=by omega
 have key:∀ n:Fin 26,(Str.ofString "abcdefghijklmnopqrstuvwxyz").cps.toList[n.val]?=some (97+n.val):=by decide
 have e:=us8 (xs:=(Str.ofString "abcdefghijklmnopqrstuvwxyz").cps.toList) (i:=(n:Int)) h1 (by exact h2);rw [e,<- List.getElem?_eq_getElem];exact key ⟨n,hn⟩
end L3
namespace L2
open PySem PySem.Spec PyProof.Rows PySem.SeqAt
open AutoSeq1 (wpAny_loadPart')
theorem v20 (l:Addr) (us:Array Value) (n:Nat) (dd:Option Addr) (sl:Array (Option Value)) (x:Value) (k:Nat) (hk:k < us.size) (e:Nat->Bool) (ht:e k=true) (hno:∀ j,j < k->e j=false) :
  Meets (Builtin.«tuple.index» ⟨[.ref l,x],[]⟩) (fun A R s=>s.heap.get? l=some { cls:=.type "tuple",dict:=dd,data:=.seq us n,slots:=sl } /\ (∀ j (h:j < us.size),EqAt A.in1 s us[j] x (e j)) /\ R (.ok (.ret (.int k s.toks))) { s with toks:=s.toks+1 }) :=
 .of_wp fun prog w A R s h=>by
  obtain ⟨hp,g,d,tk,os⟩:=s;obtain ⟨hl,he,h⟩:=h
  wp_walk using wpAny_loadPart' hl
  generalize hF:(fun (i:Nat) (b:Option PySem.Fin × Unit)=>(match us[i]? with
   | some y=>(do
    let r <- eqBool y x
    if r=true then do
     let f <- retInt (i:Int)
     pure (ForInStep.done (some f,()))
    else pure (ForInStep.yield (none,())))
   | _=>pure (ForInStep.yield (none,())):Sem (ForInStep (Option PySem.Fin × Unit))))=F
  show wpAny _ _ (forIn [:min us.size us.size] ((none:Option PySem.Fin),()) F) _ _ _
  rw [Std.Legacy.Range.forIn_eq_forIn_range'];refine wpAny_forIn_list _ (fun rest b s'=>b.1=none /\ s'=⟨hp,g,d,tk,os⟩ /\ ∃ j,j<=k /\ rest=List.range' j (us.size - j)) _ ?_ ?_ _ _ ⟨rfl,rfl,0,Nat.zero_le _,by simp [Std.Legacy.Range.size]⟩
  ·rintro i rest b s' ⟨hb,rfl,j,hj,hr⟩
   have hjs:us.size - j=(us.size - (j+1))+1:=by omega
   rw [hjs,List.range'_succ] at hr;obtain ⟨rfl,rfl⟩:=List.cons.inj hr;rw [<- hF]
   show wpAny _ _ (match us[i]? with
    | some y=>_
    | _=>_) _ _ _
   rw [Array.getElem?_eq_getElem (by omega)];refine wpAny_bind (he i (by omega) prog w _ _ ?_)
   rcases Nat.lt_or_eq_of_le hj with z | z
   ·rw [hno i z]
    exact wpAny_pure ⟨rfl,rfl,i+1,z,rfl⟩
   ·subst z
    rw [ht]
    wp_walk
    exact ⟨_,rfl,h⟩
  ·rintro b s' ⟨hb,rfl,j,hj,hr⟩
   have:us.size - j=0:=by
    have:=congrArg List.length hr;simpa using this.symm
   omega
theorem uu1:Slot "tuple" "index" "tuple.index" :=
 .of (owner := "tuple") (n := "index") (by rw [typeLookup_type,builtinLookup_eq_fast];kernel_rfl) (by decide) (by decide) (by decide) (by first | exact .inl (by decide) | exact .inr (by decide)) (by rw [isSubtype_type];kernel_rfl)
theorem vd1:typeOf (.builtin "tuple.index")=pure (.type "method_descriptor"):=by show builtinType _=_;rw [builtinType_eq_fast];kernel_rfl
theorem v22:entryFor table "tuple.index" = some Builtin.«tuple.index»:=entryFor_of_tree (by kernel_rfl)
theorem vd2 (a b:Value):argsOk "tuple.index" ⟨[a,b],[]⟩:=by
 unfold argsOk;rw [signature?_of (id := "tuple.index") (n:=['x','e','d','n','i']) (o:=['e','l','p','u','t']) (by kernel_rfl) F.owner_tuple];kernel_rfl
section
variable {X:Cx} {o e:Expr} {es:List Expr} {to:TE} {t:TA} {apos cpos:Pos}
def tTix (K:W.Frag) (to:TE) (t:TA):TE:=fun σ H Q=>to σ H fun x H1=>∃ a,x=.ref a /\ (∃ xs,SqT K H1 a xs) /\ t σ H1 fun xs H2=>∃ (ws:List Str) (w:Str) (k:Nat),SqT K H2 a (ws.map V.str) /\ xs=[.str w] /\ ws[k]?=some w /\ (∀ j,j < k->ws[j]? ≠ some w) /\ Q (.int (k:Int)) H2
theorem wc6 (ho:PE X o to) (ha:PA X (e::es) t) (hbase:attributeBase o "index" X.env (eval o X.env)=eval o X.env:=by rfl)
  (hfew:((backTo cpos (starEach (e::es) X.env)).all (fun x=>!x.1) && (backToKw cpos (keywordEach [] X.env)).all (fun x=>x.1.isSome)
   && decide ((e::es).length+([]:List Keyword).length+(if ([]:List Keyword).isEmpty then 0 else 1) < 30))=true:=by rfl)
  (hline:(apos.endLine == cpos.line)=true:=by rfl) (hs:starEach (e::es) X.env=(false,eval e X.env)::starEach es X.env:=by rfl) (hplain:(backTo cpos (starEach es X.env)).any (·.1)=false:=by rfl) :
  PE X (.Call (.Attribute o "index" apos) (e::es) [] cpos) (tTix X.K to t):=by
 intro pins s σ H Q I h;refine wpAny_Call_method_late hbase hfew hline rfl (thn (ho pins s σ H _ I h) ?_);rintro v s1 ⟨x,H1,I1,r1,a,rfl,⟨xs,hq⟩,q1⟩;obtain rfl:v=Value.ref a:=r1;obtain ⟨its,_,⟨ob,e1,e2,_⟩,_⟩:=I1.tuple hq;refine ⟨"tuple", "tuple.index",PySem.F.plainAttrs_tuple,uu1,vd1,⟨ob,e1,e2⟩,fun b hb=>by cases hb;exact I1.tupleD hq,?_⟩;have hA:=ha cpos pins s1 σ H1 _ I1 q1;rw [hs] at hA ⊢;refine Calls.callWith_builtin (by show (false || (backTo cpos (starEach es X.env)).any (·.1))=false;rw [hplain] <;> rfl) (Calls.evalArgs_plain ?_);refine thn hA ?_;rintro us s2 ⟨vs,H2,I2,r2,ws,w,k,hq2,rfl,hk,hno,q2⟩;obtain ⟨u,rfl,ru⟩:=r2.one;obtain ⟨t,rfl⟩:=ru;obtain ⟨its,rv,⟨⟨c1,d1,da1,s1⟩,e1,e2,n,e3⟩,_⟩:=I2.tuple hq2;simp only at e2 e3;subst e2 e3;have hlen:=rv.length;rw [List.length_map] at hlen;have hkl:k < ws.length:=(List.getElem?_eq_some_iff.mp hk).1;have hstr:∀ (j:Nat) (h:j < its.toArray.size),∃ t',its.toArray[j]=.str (ws[j]'(by simp at h;omega)) t':=fun j h=>by
  have hj:j < ws.length:=by simp at h;omega
  obtain ⟨u,hu,ru⟩:=rv.get (i:=j) (x:=.str ws[j]) (by rw [List.getElem?_map,List.getElem?_eq_getElem hj];rfl);obtain ⟨t',rfl⟩:=ru;refine ⟨t',?_⟩;have:=List.getElem?_eq_some_iff.mp hu;obtain ⟨h1,h2⟩:=this;simpa using h2
 refine call_meets uu1 ⟨_,e1,rfl⟩ v22 (vd2 _ _) (v20 a its.toArray n d1 s1 (.str w t) k (by simp;omega) (fun j=>decide (ws[j]?=some w)) (decide_eq_true hk) (fun j hj=>decide_eq_false (hno j hj))) ⟨e1,fun j h=>?_,?_⟩
 ·obtain ⟨t',et⟩:=hstr j h
  have hj:j < ws.length:=by simp at h;omega
  rw [et];have:decide (ws[j]?=some w)=(ws[j] == w):=by
   rw [List.getElem?_eq_getElem hj,Bool.eq_iff_iff];simp
  rw [this];exact SeqAt.EqAt.str_str _ _ _ _
 ·exact ⟨.int (k:Int),H2,I2.tok _,⟨_,rfl⟩,q2⟩
end
end L2
namespace L3
open PySem PySem.Spec PyProof.Rows L2
section
variable {X:Cx} {o e:Expr} {es:List Expr} {to:TE3} {ts:TA3} {apos cpos:Pos}
def dTix (to:TE3) (t:TA3):TE3:=fun σ G q=>to σ G fun x G1=>∃ ws:List Str,x=.tup (ws.map .str) /\ t σ G1 fun ds G2=>∃ (w:Str) (k:Nat),ds=[.str w] /\ ws[k]?=some w /\ (∀ j,j < k->ws[j]? ≠ some w) /\ q (.int (k:Int)) G2
theorem v21 {K:W.Frag} {H:Hp}:∀ {ws:List Str} {vs:List V},RelDs K H (ws.map .str) vs->vs=ws.map V.str
 | [],vs,r=>r.inv_nil
 | w::ws,vs,r=>by
  obtain ⟨x,ys,rfl,h1,h2⟩:=r.inv_cons;rw [v21 h2,h1.str_inv];rfl
theorem w37 (ho:E3 X o to) (ha:A3 X (e::es) ts) (hbase:attributeBase o "index" X.env (eval o X.env)=eval o X.env:=by rfl)
  (hfew:((backTo cpos (starEach (e::es) X.env)).all (fun x=>!x.1) && (backToKw cpos (keywordEach [] X.env)).all (fun x=>x.1.isSome)
   && decide ((e::es).length+([]:List Keyword).length+(if ([]:List Keyword).isEmpty then 0 else 1) < 30))=true:=by rfl)
  (hline:(apos.endLine == cpos.line)=true:=by rfl) (hs:starEach (e::es) X.env=(false,eval e X.env)::starEach es X.env:=by rfl) (hplain:(backTo cpos (starEach es X.env)).any (·.1)=false:=by rfl) :
  E3 X (.Call (.Attribute o "index" apos) (e::es) [] cpos) (dTix to ts) :=
 u43 (wc6 ho ha hbase hfew hline hs hplain) fun σ H Q h=>by
  obtain ⟨σd,G,q,rs,c,t,f⟩:=h;refine ⟨σd,G,_,rs,c,t,fun x G1 v H1 r1 c1 l1 t1=>?_⟩;obtain ⟨ws,rfl,t2⟩:=t1;obtain ⟨a,xs,rfl,s1,q1⟩:=r1.tup_inv;obtain rfl:=v21 q1;refine ⟨a,rfl,⟨_,s1⟩,σd,G1,_,rs.le l1,c1,t2,fun ds G2 vs H2 r2 c2 l2 t3=>?_⟩;obtain ⟨w,k,rfl,hk,hno,t4⟩:=t3;obtain ⟨u,rfl,ru⟩:=r2.one;cases ru.str_inv;exact ⟨ws,w,k,l2.sqT s1,rfl,hk,hno,f _ _ _ _ RelD.intI c2 (l1.trans l2) t4⟩
end
end L3
namespace L3
open PySem PySem.Spec PyProof.Rows L2
section
variable {X:Cx} {e o:Expr} {es:List Expr} {to:TE3} {ts:TA3} {apos cpos:Pos}
@[reducible] def wl1:M3:=fun x ds G q=>∃ (a:Addr) (k:Nat) (xs:List D) (d:D),x=.ref a /\ ds=[.int (k:Int)] /\ G a=some (.lst xs) /\ xs[k]?=some d /\ xs.length<=100000 /\ q d (gup G a (.lst (xs.eraseIdx k)))
theorem un6 {K:W.Frag} {H:Hp}:∀ {ds:List D} {vs:List V} (k:Nat),RelDs K H ds vs->RelDs K H (ds.eraseIdx k) (vs.eraseIdx k)
 | [],vs,k,r=>by rw [r.inv_nil];exact .nil
 | d::ds,vs,k,r=>by
  obtain ⟨x,t,rfl,r1,r2⟩:=r.inv_cons;cases k with
  | zero=>exact r2
  | succ k=>exact .cons r1 (un6 k r2)
theorem wn7 (ho:E3 X o to) (ha:A3 X (e::es) ts) (hbase:attributeBase o "pop" X.env (eval o X.env)=eval o X.env:=by rfl)
  (hfew:((backTo cpos (starEach (e::es) X.env)).all (fun x=>!x.1) && (backToKw cpos (keywordEach [] X.env)).all (fun x=>x.1.isSome)
   && decide ((e::es).length+([]:List Keyword).length+(if ([]:List Keyword).isEmpty then 0 else 1) < 30))=true:=by rfl)
  (hline:(apos.endLine == cpos.line)=true:=by rfl) (hs:starEach (e::es) X.env=(false,eval e X.env)::starEach es X.env:=by rfl) (hplain:(backTo cpos (starEach es X.env)).any (·.1)=false:=by rfl) :
  E3 X (.Call (.Attribute o "pop" apos) (e::es) [] cpos) (dBM "list" wl1 to ts) :=
 u43 (vg0 PySem.F.plainAttrs_list PySem.F.slot_list_pop PySem.F.type_list_pop (ut6 (r':=lowM X.K wl1) vg3 <| by
  rintro x xs H Q ⟨d,ds,G,q,r1,r2,c,⟨a,k,ys,d',rfl,rfl,ea,ek,hl,t⟩,f⟩;cases r1.ref_inv;obtain ⟨v,rfl,rv⟩:=r2.one;cases rv.int_inv;obtain ⟨zs,h1,q1⟩:=c _ _ ea;have hk:k < ys.length:=(List.getElem?_eq_some_iff.mp ek).1;have hln:=q1.length;have hz:zs[k]?=some zs[k]:=List.getElem?_eq_getElem (by omega);have hr:RelD X.K H d' zs[k]:=by
   obtain ⟨v,hv,rv⟩:=q1.get ek;rw [hz] at hv;cases hv;exact rv
  refine ⟨a,zs,(k:Int),k,zs[k],rfl,rfl,h1,by omega,by omega,?_,hz,f _ _ _ _ (RelD.le (Le.lst h1) hr) (c.lstSet h1 (un6 k q1)) (Le.lst h1) t⟩;exact (ur5 (v73 (by omega))).1) ho ha hbase hfew hline hs hplain) fun _ _ _=>uw1 (ty_list X.K)
end
end L3
namespace Rw
open PySem PySem.Spec PyProof.Rows L2 L3
theorem v99 {α:Type} {xs:List α} {n:Nat}:L3.cutD xs (some (n:Int)) none=xs.drop n:=by
 unfold L3.cutD;rw [HT.sIx_none,HT.sIx_nat]
 rcases Nat.le_total n xs.length with h | h
 ·rw [Nat.min_eq_left h]
  exact List.take_of_length_le (by rw [List.length_drop];exact Nat.le_refl _)
 ·rw [Nat.min_eq_right h,List.drop_eq_nil_of_le (Nat.le_refl _),List.drop_eq_nil_of_le h,List.take_nil]
end Rw
namespace Rw
theorem map_erase {α β:Type} (f:α->β):∀ (l:List α) (k:Nat),(l.map f).eraseIdx k=(l.eraseIdx k).map f
 | [],k=>by simp
 | x::l,0=>rfl
 | x::l,k+1=>by
  show f x::(l.map f).eraseIdx k=f x::(l.eraseIdx k).map f
  rw [map_erase f l k]
end Rw
namespace L2
open PySem PySem.Spec PyProof.Rows
section
variable {X:Cx} {tg:Expr}
theorem wa1:SlR X (fun x _ _ H Q=>∃ y:Str,x=.str y /\ y.length<=sizeLine /\ ∀ z:Str,z.length<=y.length->Q (.str z) H):=by
 intro pins s σ H x v vl vu lo hi sl Q I rx hs pl pu h;obtain ⟨y,rfl,hy,q⟩:=h;obtain ⟨t,rfl⟩:=rx;refine ⟨"str",_,PySem.F.slot_str_getitem.lookup,typeIs_str _ _ _,?_⟩;obtain ⟨l,rfl⟩:∃ l,vl=partValue l:=by cases pl with
  | none=>exact ⟨none,rfl⟩
  | int i t=>exact ⟨some (i,t),rfl⟩
 obtain ⟨u,rfl⟩:∃ l,vu=partValue l:=by cases pu with
  | none=>exact ⟨none,rfl⟩
  | int i t=>exact ⟨some (i,t),rfl⟩
 refine wpAny_getItem_str_slice (l:=l) (u:=u) (st:=none) hs rfl ?_;unfold sliceMade;split
 ·exact ⟨.str y,H,I,⟨t,rfl⟩,q y (Nat.le_refl _)⟩
 ·have hl:(⟨((slicePicked y l u none).filterMap (y.cps[·]?)).toArray⟩:Str).length<=y.length:=by
   show (List.filterMap _ _).toArray.size<=_
   rw [List.size_toArray];exact Nat.le_trans (List.length_filterMap_le _ _) (sliceIndices_le _ _ _)
  exact ⟨Nat.le_trans hl hy,.str _,H,I.tok _,⟨_,rfl⟩,q _ hl⟩
end
end L2
namespace L3
open PySem PySem.Spec PyProof.Rows L2
section
variable {X:Cx} {K:W.Frag} {H:Hp} {o e tg:Expr} {es:List Expr} {te to:TE3} {ts:TA3} {apos cpos pos:Pos} {x:Str}
def xSlS:RS3:=fun x _ _ G q=>∃ y:Str,x=.str y /\ y.length<=sizeLine /\ ∀ z:Str,z.length<=y.length->q (.str z) G
theorem wt2:SlR X (vi5 X.K xSlS):=vl5 wa1 <| by
 rintro x lo hi H Q ⟨d,G,q,r1,c,⟨y,rfl,hy,t⟩,f⟩;exact ⟨y,r1.str_inv,hy,fun z hz=>f _ _ _ _ (by rw [RelD]) c (Le.refl H) (t z hz)⟩
end
end L3
namespace L2
open PySem PySem.Spec PyProof.Rows
def um2 (ta:TA):TE:=fun σ H Q=>ta σ H fun vs H1=>∃ j:Int,vs=[.int j] /\ (-1000000<=j /\ j<=1000000) /\ ∀ l,H1 l=none->Q (.ref l) (upd H1 l (.lst ((List.range (j - 0).toNat).map fun k:Nat=>V.int (0+k))))
theorem uq9 {X:Cx} {a:Expr} {ta:TA} {p p2 pos pos2:Pos} {k:Nat} (hr:Room k X.A) (hg:Gl X "range") (hm:X.mg "range" = none) (hg2:Gl X "list") (hm2:X.mg "list" = none) (ha:PA X [a] ta)
  (hs:starEach [a] X.env=[(false,eval a X.env)]:=by rfl)
  (hs2:starEach [.Call (.Name "range" p) [a] [] pos] X.env=[(false,eval (.Call (.Name "range" p) [a] [] pos) X.env)]:=by rfl) :
  PE X (.Call (.Name "list" p2) [.Call (.Name "range" p) [a] [] pos] [] pos2) (um2 ta):=by
 intro pins s σ H Q I h;refine wpAny_Call_Name_kw (u96 I hg2 hm2 vk4 ?_);refine PyProof.Rows.callWith_type1 ?_ hs2 rfl;rw [hs2]
 show wpAny _ _ (spliced ((false,eval (.Call (.Name "range" p) [a] [] pos) X.env)::backTo pos2 [])) _ _ s
 refine Calls.spliced_cons ?_;refine wpAny_Call_Name_kw (u96 I hg hm boot_range (PyProof.Rows.callWith_type1 (thn (ha pos pins s σ H _ I h) fun us s1 ⟨vs,H1,I1,r1,q1⟩=>?_) hs rfl));obtain ⟨j,e,⟨b3,b4⟩,q⟩:=q1;subst e;cases r1 with
 | cons r rr =>
   cases rr;obtain ⟨t2,rfl⟩:=r;refine call_range_1 ?_;refine Calls.spliced_nil ?_;have hn:Builtin.Range.rangeSize 0 j 1=(((j - 0).toNat:Nat):Int):=by rw [rangeSize_one];split <;> omega
   refine call_list_range (hh:=hr.hd) (IsRange.new ..) (small_one (by omega) (by omega) (by omega) (by omega)) hn (by omega) fun h' tk acc c kp hnew hit=>?_
   have kp':∀ b o,s1.heap.get? b=some o->h'.get? b=some o:=fun b o e=>kp b o (Heap.get?_push_of_some _ e)
   have hv:Vals ((List.range (j - 0).toNat).map fun k:Nat=>V.int (0+k)) acc.toList:=by
    have hz:acc.size=(j - 0).toNat:=hit.1;have key:∀ (m:Nat) (l:List Value),(∀ (y:Nat) v,l[y]?=some v->∃ t,v=.int (0+(y:Int)) t)->l.length=m->Vals ((List.range m).map fun k:Nat=>V.int (0+k)) l:=by
     intro m
     induction m with
     | zero=>intro l _ hl;have:l=[]:=List.eq_nil_of_length_eq_zero hl;subst this;exact .nil
     | succ m ih =>
      intro l hl hz
      rcases List.eq_nil_or_concat l with e | ⟨l',v,e⟩
      ·subst e;simp at hz
      ·rw [List.concat_eq_append] at e
       subst e;have hz':l'.length=m:=by simpa using hz
       rw [List.range_succ,List.map_append];refine (ih l' (fun y v e=>hl y v ?_) hz').append (.cons ?_ .nil)
       ·rw [List.getElem?_append_left (List.getElem?_eq_some_iff.mp e).1];exact e
       ·obtain ⟨t,e⟩:=hl m v (by rw [<- hz'];simp)
        exact ⟨t,e⟩
    refine key _ acc.toList (fun y v e=>?_) (by simpa using hz);obtain ⟨t,e⟩:=hit.2 y v (by simpa using e);exact ⟨t,by rw [e,Int.mul_one]⟩
   have hll:((List.range (j - 0).toNat).map fun k:Nat=>V.int (0+k)).length<=sizeLine:=by
    rw [List.length_map,List.length_range];exact Nat.le_of_lt (Nat.lt_of_le_of_lt (m:=3000000) (by omega) (by decide))
   have I2:=I1.laid (h':=h') (a:=s1.heap.objs.size+1) (o:=.lst ((List.range (j - 0).toNat).map fun k:Nat=>V.int (0+k))) (t':=tk) kp' (Nat.le_succ _) ⟨hll,acc.toList,c,hv,by simpa using hnew⟩;exact ⟨_,_,I2,by simp;rfl,q _ (I1.hok.fresh (Nat.le_succ _))⟩
end L2
namespace L3
open PySem PySem.Spec PyProof.Rows L2
def uf6 (t:TA3):TE3:=fun σ G q=>t σ G fun ds G1=>match ds with
 | [.int j]=>(-1000000<=j /\ j<=1000000) /\ ∀ p,G1 p=none->q (.ref p) (gup G1 p (.lst (rngD 0 (j - 0).toNat)))
 | _=>False
theorem uo3 {K:W.Frag} {t:TA3} {σ:L2.St} {H:Hp} {Q:VK} (h:lowE K (uf6 t) σ H Q):um2 (lowA K t) σ H Q:=by
 obtain ⟨σd,G,q,rs,c,t,f⟩:=h;refine ⟨σd,G,_,rs,c,t,fun ds G1 vs H1 r1 c1 l1 t1=>?_⟩;split at t1
 ·rename_i j
  obtain ⟨x,rfl,x1⟩:=r1.one;cases x1.int_inv;exact ⟨j,rfl,t1.1,fun p hp=>f _ _ _ _ RelD.refI (c1.lstNew hp (v38 _)) (l1.trans (Le.fresh hp)) (t1.2 p (c1.fresh hp))⟩
 ·exact t1.elim
theorem uz9 {X:Cx} {a:Expr} {ts:TA3} {p p2 pos pos2:Pos} {k:Nat} (hr:Room k X.A) (hg:Gl X "range") (hm:X.mg "range" = none) (hg2:Gl X "list") (hm2:X.mg "list" = none) (ha:A3 X [a] ts)
  (hs:starEach [a] X.env=[(false,eval a X.env)]:=by rfl)
  (hs2:starEach [.Call (.Name "range" p) [a] [] pos] X.env=[(false,eval (.Call (.Name "range" p) [a] [] pos) X.env)]:=by rfl) :
  E3 X (.Call (.Name "list" p2) [.Call (.Name "range" p) [a] [] pos] [] pos2) (uf6 ts):=u43 (uq9 hr hg hm hg2 hm2 ha hs hs2) fun _ _ _=>uo3
def up0 (td ti tf:TE3):TE3:=fun σ G q=>td σ G fun x G1=>(∃ a kvs,x=.ref a /\ G1 a=some (.dic kvs)) /\ ti σ G1 fun y G2=>tf σ G2 fun z G3=>∃ a kvs k,x=.ref a /\ y=kD k /\ G3 a=some (.dic kvs) /\ q ((valK kvs k).getD z) G3
theorem v65 {K:W.Frag} {H:Hp} {td ti tf:TE3} {σ:L2.St} {Q:VK} (h:lowE K (up0 td ti tf) σ H Q):vm0 (lowE K td) (lowE K ti) (lowE K tf) σ H Q:=by
 obtain ⟨σd,G,q,rs,c,t,f⟩:=h;refine ⟨σd,G,_,rs,c,t,fun x G1 v H1 r1 c1 l1 t1=>?_⟩;obtain ⟨⟨a,kvs,rfl,ha⟩,t1⟩:=t1;obtain ⟨ys,e,rp⟩:=c1 a _ ha;refine ⟨a,r1.ref_inv,.inl ⟨ys,.of e⟩,σd,G1,_,rs.le l1,c1,t1,fun y G2 u H2 r2 c2 l2 t2=>⟨σd,G2,_,rs.le (l1.trans l2),c2,t2,fun z G3 w H3 r3 c3 l3 t3=>?_⟩⟩;obtain ⟨a',kvs3,k,e1,rfl,hg,t4⟩:=t3;cases e1;obtain rfl:=uw3 r2;obtain ⟨ys3,e3,rp3⟩:=c3 a _ hg;refine ⟨valV ys3 k,DGet.k e3,?_⟩
 rcases ud3 (k:=k) rp3 with ⟨z1,z2⟩ | ⟨d',w',z1,z2,z3⟩
 ·rw [z1] at t4
  rw [z2];exact f _ _ _ _ r3 c3 (l1.trans (l2.trans l3)) t4
 ·rw [z1] at t4
  rw [z2];exact f _ _ _ _ z3 c3 (l1.trans (l2.trans l3)) t4
theorem uw7 {X:Cx} {k:Nat} {o e f:Expr} {apos cpos:Pos} {to te tf:TE3} (hr:Room k X.A) (ho:E3 X o to) (he:E3 X e te) (hf:E3 X f tf) (hbase:attributeBase o "get" X.env (eval o X.env)=eval o X.env:=by rfl)
  (hfew:((backTo cpos (starEach [e,f] X.env)).all (fun x=>!x.1) && (backToKw cpos (keywordEach [] X.env)).all (fun x=>x.1.isSome)
   && decide (([e,f]:List Expr).length+([]:List Keyword).length+(if ([]:List Keyword).isEmpty then 0 else 1) < 30))=true:=by rfl)
  (hline:(apos.endLine == cpos.line)=true:=by rfl) (htr:starEach [e,f] X.env=[(false,eval e X.env),(false,eval f X.env)]:=by rfl):E3 X (.Call (.Attribute o "get" apos) [e,f] [] cpos) (up0 to te tf) :=
 u43 (vf8 (vi8 hr) ho he hf ⟨hbase,hfew,hline,by rw [htr];rfl⟩) fun _ _ _=>v65
end L3
namespace Rw
open PySem PySem.Spec PyProof.Rows L2 L3 Law
def rnp (rs:List Row) (bs:List Int):List Int:=rs.foldl (stp 1) bs
theorem ua0 {a b:List Row} {bs:List Int}:rnp (a++b) bs=rnp b (rnp a bs):=List.foldl_append
theorem u27 {r:Row} {b:List Row} {bs:List Int}:rnp (r::b) bs=rnp b (stp 1 bs r):=rfl
theorem u59 {bs:List Int}:rnp [] bs=bs:=rfl
def tg (fr fr':Nat):Row->Prop
 | .add x o=>fr<=x /\ x < fr' /\ o.ok fr' x
 | .take x o=>fr<=x /\ x < fr' /\ o.ok fr' x
 | .turn x i cs=>fr<=x /\ x < fr' /\ i < 32 /\ cs.length<=2 /\ ∀ c ∈ cs,c.1 < fr' /\ c.1 ≠ x /\ c.2 < 32
 | _=>False
theorem ud5 {a b x:Nat} {o:Opd} (h:o.ok a x) (hb:a<=b):o.ok b x:=by
 cases o with
 | num n=>exact h
 | box y=>exact ⟨Nat.lt_of_lt_of_le h.1 hb,h.2⟩
theorem u99 {fr0 fr fr1 fr':Nat} {r:Row} (h:tg fr fr1 r) (h0:fr0<=fr) (h1:fr1<=fr'):tg fr0 fr' r:=by
 cases r with
 | add x o=>exact ⟨Nat.le_trans h0 h.1,Nat.lt_of_lt_of_le h.2.1 h1,ud5 h.2.2 h1⟩
 | take x o=>exact ⟨Nat.le_trans h0 h.1,Nat.lt_of_lt_of_le h.2.1 h1,ud5 h.2.2 h1⟩
 | turn x i cs=>exact ⟨Nat.le_trans h0 h.1,Nat.lt_of_lt_of_le h.2.1 h1,h.2.2.1,h.2.2.2.1,fun c hc=>⟨Nat.lt_of_lt_of_le (h.2.2.2.2 c hc).1 h1,(h.2.2.2.2 c hc).2⟩⟩
 | _=>exact h.elim
theorem vr8 {fr fr' sz:Nat} {r:Row} (h:tg fr fr' r) (hs:fr'<=sz):r.ok sz:=by
 have h:=u99 h (Nat.le_refl _) hs;cases r with
 | add x o=>exact ⟨h.2.1,h.2.2⟩
 | take x o=>exact ⟨h.2.1,h.2.2⟩
 | turn x i cs=>exact ⟨h.2.1,h.2.2.1,h.2.2.2.1,h.2.2.2.2⟩
 | _=>exact h.elim
theorem uj5 {fr fr':Nat} {r:Row} (h:tg fr fr' r):r.plain=true:=by
 cases r with
 | go=>exact h.elim
 | come=>exact h.elim
 | _=>rfl
theorem u97 {bs:List Int} {x i:Nat} {o:Opd} (h:x < bs.length):gt (stp 1 bs (.add x o)) i=if i=x then (gt bs x+val bs o) % 4294967296 else gt bs i:=by
 show gt (bs.set x ((gt bs x+1 * val bs o) % 4294967296)) i=_
 rw [u73 h,Int.one_mul]
theorem ua1 {bs:List Int} {x i:Nat} {o:Opd} (h:x < bs.length):gt (stp 1 bs (.take x o)) i=if i=x then (gt bs x - val bs o) % 4294967296 else gt bs i:=by
 show gt (bs.set x ((gt bs x - 1 * val bs o) % 4294967296)) i=_
 rw [u73 h,Int.one_mul]
theorem u60 {bs:List Int} {x i j:Nat} {cs:List (Nat × Nat)} (h:x < bs.length):gt (stp 1 bs (.turn x i cs)) j=if j=x then (if con bs cs=true then flp (gt bs x) i else gt bs x) else gt bs j:=by
 show gt (if con bs cs=true then bs.set x (flp (gt bs x) i) else bs) j=_
 by_cases hc:con bs cs=true
 ·rw [if_pos hc,if_pos hc,u73 h]
 ·rw [if_neg hc,if_neg hc]
  split
  ·rename_i e;rw [e]
  ·rfl
theorem vr9 {fr fr':Nat} {r:Row} {bs:List Int} {i:Nat} (h:tg fr fr' r) (hb:fr'<=bs.length) (hi:i < fr \/ fr'<=i):gt (stp 1 bs r) i=gt bs i:=by
 cases r with
 | add x o=>have:=h.1;have:=h.2.1;rw [u97 (by omega),if_neg (by omega)]
 | take x o=>have:=h.1;have:=h.2.1;rw [ua1 (by omega),if_neg (by omega)]
 | turn x j cs=>have:=h.1;have:=h.2.1;rw [u60 (by omega),if_neg (by omega)]
 | _=>exact h.elim
structure Wv (fr fr':Nat) (new:List Row) (F:List Int->List Int->Prop):Prop where
 le:fr<=fr'
 tg:∀ r ∈ new,tg fr fr' r
 ef:∀ sz bs,BsOk sz bs->fr'<=sz->(∀ i,fr<=i->gt bs i=0)->F bs (rnp new bs)
theorem uu2 {fr fr' sz:Nat}:∀ {new:List Row} {bs:List Int},(∀ r ∈ new,Rw.tg fr fr' r)->BsOk sz bs->fr'<=sz->BsOk sz (rnp new bs) /\ ∀ i,i < fr \/ fr'<=i->gt (rnp new bs) i=gt bs i
 | [],bs,_,hb,_=>⟨hb,fun _ _=>rfl⟩
 | r::new,bs,h,hb,hz=>by
  have h1:=h r List.mem_cons_self;have ok1:=v25 (s:=1) hb (vr8 h1 hz);obtain ⟨i1,i2⟩:=uu2 (new:=new) (bs:=stp 1 bs r) (fun x hx=>h x (List.mem_cons_of_mem _ hx)) ok1 hz;exact ⟨i1,fun i hi=>by rw [u27,i2 i hi,vr9 h1 (by rw [hb.len];exact hz) hi]⟩
theorem Wv.keep {fr fr' sz:Nat} {new:List Row} {F:List Int->List Int->Prop} {bs:List Int} (h:Wv fr fr' new F) (hb:BsOk sz bs) (hz:fr'<=sz):BsOk sz (rnp new bs) /\ ∀ i,i < fr \/ fr'<=i->gt (rnp new bs) i=gt bs i:=uu2 h.tg hb hz
theorem Wv.nil {fr:Nat} {F:List Int->List Int->Prop} (h:∀ bs,F bs bs):Wv fr fr [] F:=⟨Nat.le_refl _,fun r hr=>(by cases hr),fun _ bs _ _ _=>h bs⟩
theorem Wv.imp {fr fr':Nat} {new:List Row} {F F':List Int->List Int->Prop} (h:Wv fr fr' new F) (k:∀ bs bs',F bs bs'->F' bs bs'):Wv fr fr' new F':=⟨h.le,h.tg,fun sz bs a b c=>k _ _ (h.ef sz bs a b c)⟩
theorem Wv.seq {fr fr1 fr2:Nat} {n1 n2:List Row} {F1 F2:List Int->List Int->Prop} (h1:Wv fr fr1 n1 F1) (h2:Wv fr1 fr2 n2 F2) :
  Wv fr fr2 (n1++n2) (fun bs bs'=>∃ b1,F1 bs b1 /\ F2 b1 bs' /\ (∀ i,i < fr->gt b1 i=gt bs i) /\ ∀ i,i < fr1->gt bs' i=gt b1 i):=by
 refine ⟨Nat.le_trans h1.le h2.le,fun r hr=>?_,fun sz bs hb hz h0=>?_⟩
 ·rcases List.mem_append.mp hr with hr | hr
  ·exact u99 (h1.tg r hr) (Nat.le_refl _) h2.le
  ·exact u99 (h2.tg r hr) h1.le (Nat.le_refl _)
 ·have hz1:fr1<=sz:=Nat.le_trans h2.le hz
  obtain ⟨k1,k2⟩:=h1.keep hb hz1;obtain ⟨m1,m2⟩:=h2.keep k1 hz;rw [ua0];exact ⟨rnp n1 bs,h1.ef sz bs hb hz1 h0,h2.ef sz _ k1 hz fun i hi=>by rw [k2 i (.inr hi)];exact h0 i (Nat.le_trans h1.le hi),fun i hi=>k2 i (.inl hi),fun i hi=>m2 i (.inl hi)⟩
def okW (W x y fr:Nat):Prop:=1<=W /\ W<=16 /\ x < fr /\ y < fr
def Sg2 (W x y b:Nat) (o:Str):List Int->List Int->Prop:=fun bs bs'=>∀ a c:Nat,gt bs x=(a:Int)->gt bs y=(c:Int)->a < 2 ^ W->c < 2 ^ W->gt bs' b=((rkB W o a c:Nat):Int)
theorem p16 {W:Nat} (h:W<=16):2 ^ W<=65536:=Nat.pow_le_pow_right (by decide) h
theorem u58 {r:Row} {bs:List Int}:(stp 1 bs r).length=bs.length:=by
 cases r with
 | add=>exact List.length_set
 | take=>exact List.length_set
 | turn x i cs=>show (if con bs cs=true then bs.set x _ else bs).length=_;split;exact List.length_set;rfl
 | swap=>show ((bs.set _ _).set _ _).length=_;rw [List.length_set,List.length_set]
 | go=>rfl
 | come=>rfl
theorem flp0 (i:Nat):flp 0 i=2 ^ i:=by
 have:bit 0 i=0:=by unfold bit;rw [Int.zero_ediv];rfl
 show (0:Int)+2 ^ i * (1 - 2 * bit 0 i)=_
 rw [this];omega
theorem us7 (a k:Nat):bit (a:Int) k=((a / 2 ^ k % 2:Nat):Int):=by
 unfold bit;rw [Int.natCast_emod,Int.natCast_ediv,Int.natCast_pow];rfl
theorem bit31 {a c:Nat} (ha:a < 65536) (hc:c < 65536):bit (((a:Int) - (c:Int)) % 4294967296) 31=if a < c then 1 else 0:=by
 unfold bit;rw [show (2:Int) ^ 31=2147483648 from rfl];split <;> omega
theorem con1 {bs:List Int} {x i:Nat}:con bs [(x,i)]=!decide (bit (gt bs x) i=0):=by
 show ([(x,i)].all fun c=>!decide (bit (gt bs c.1) c.2=0))=_
 simp
theorem o1 {x fr:Nat} (k:Nat) (h:x < fr):x < fr+k:=Nat.lt_add_right k h
theorem o2 {x fr:Nat} (k:Nat) (h:x < fr):x ≠ fr+k:=Nat.ne_of_lt (o1 k h)
theorem o3 {a:Nat} (h:a < 65536):((0:Int)+a) % 4294967296=a:=by omega
theorem o4 {a c:Nat} (h:a < 65536) (h':c < 65536):((a:Int)+c) % 4294967296=((a+c:Nat):Int):=by omega
theorem o5 {v k:Nat} (h:v < 4294967296) (h':k<=v):((v:Int) - k) % 4294967296=((v - k:Nat):Int):=by omega
theorem o6 {a c P:Nat} (ha:a < P) (hc:c < P):(a+c) / P=if P<=a+c then 1 else 0:=by
 split
 ·exact Nat.div_eq_of_lt_le (by omega) (by omega)
 ·exact Nat.div_eq_of_lt (by omega)
theorem o7 {a c P:Nat} (ha:a < P) (hc:c < P) (hp:P<=65536):(((a+c:Nat):Int) - (if P<=a+c then (P:Int) else 0)) % 4294967296=(((a+c) % P:Nat):Int):=by
 by_cases q:P<=a+c
 ·rw [if_pos q,Nat.mod_eq_sub_mod q,Nat.mod_eq_of_lt (by omega)];omega
 ·rw [if_neg q,Nat.mod_eq_of_lt (by omega)];omega
theorem o8 {a c P:Nat} (ha:a < P) (hc:c < P) (hp:P<=65536):(((a:Int) - c) % 4294967296+(if a < c then (P:Int) else 0)) % 4294967296=(((a+(P - c)) % P:Nat):Int):=by
 by_cases q:a < c
 ·rw [if_pos q,Nat.mod_eq_of_lt (by omega)];omega
 ·rw [if_neg q,Nat.mod_eq_sub_mod (by omega),Nat.mod_eq_of_lt (by omega)];omega
theorem tga {fr m j z:Nat} (hj:j < m) (hz:z < fr+m) (hn:z ≠ fr+j):tg fr (fr+m) (.add (fr+j) (.box z)):=⟨Nat.le_add_right _ _,Nat.add_lt_add_left hj _,hz,hn⟩
theorem tgu {fr m j z i k:Nat} (hj:j < m) (hi:i < 32) (hz:z < fr+j) (hk:k < 32):tg fr (fr+m) (.turn (fr+j) i [(z,k)]):=⟨Nat.le_add_right _ _,Nat.add_lt_add_left hj _,hi,by simp,fun c hc=>by rw [List.mem_singleton.mp hc];exact ⟨Nat.lt_trans hz (Nat.add_lt_add_left hj _),Nat.ne_of_lt hz,hk⟩⟩
theorem vc7 {fr x y:Nat} (hx:x < fr) (hy:y < fr):Wv fr (fr+1) [.add fr (.box x),.take fr (.box y)] (fun bs bs'=>gt bs' fr=(gt bs x - gt bs y) % 4294967296):=by
 refine ⟨Nat.le_succ _,fun r hr=>?_,fun sz bs hb hz h0=>?_⟩
 ·rcases List.mem_cons.mp hr with e | hr
  ·rw [e];exact tga (j:=0) (by decide) (o1 1 hx) (o2 0 hx)
  ·rw [List.mem_singleton.mp hr];exact tga (j:=0) (by decide) (o1 1 hy) (o2 0 hy)
 ·have hl:=hb.len
  rw [u27,u27,u59,ua1 (by rw [u58];omega),if_pos rfl]
  show (gt (stp 1 bs (.add fr (.box x))) fr - gt (stp 1 bs (.add fr (.box x))) y) % 4294967296=_
  rw [u97 (by omega),if_pos rfl,u97 (by omega),if_neg (by omega),h0 fr (Nat.le_refl _)]
  show ((0+gt bs x) % 4294967296 - gt bs y) % 4294967296=_
  omega
theorem w83 {W x y fr:Nat} (h:okW W x y fr):Wv fr (fr+2) [.add fr (.box x),.add fr (.box y),.turn (fr+1) W [(fr,W)],.take fr (.box (fr+1))] (Sg2 W x y fr "+"):=by
 obtain ⟨hW,hW2,hx,hy⟩:=h;have w32:W < 32:=Nat.lt_of_le_of_lt hW2 (by decide);have l1:=Nat.lt_succ_self fr;refine ⟨Nat.le_add_right _ _,fun r hr=>?_,fun sz bs hb hz h0 a c ea ec ha hc=>?_⟩
 ·rcases List.mem_cons.mp hr with e | hr
  ·rw [e];exact tga (j:=0) (by decide) (o1 2 hx) (o2 0 hx)
  rcases List.mem_cons.mp hr with e | hr
  ·rw [e];exact tga (j:=0) (by decide) (o1 2 hy) (o2 0 hy)
  rcases List.mem_cons.mp hr with e | hr
  ·rw [e];exact tgu (j:=1) (by decide) w32 l1 w32
  ·rw [List.mem_singleton.mp hr];exact tga (j:=0) (by decide) (Nat.lt_succ_self _) (Nat.ne_of_gt l1)
 ·have hl:fr+1 < bs.length:=by rw [hb.len];exact hz
  have h1:=Nat.lt_of_succ_lt hl;have hp:=p16 hW2;obtain ⟨P,hP⟩:∃ P,P=2 ^ W:=⟨_,rfl⟩;rw [<- hP] at ha hc hp;have ha':=Nat.lt_of_lt_of_le ha hp;have hc':=Nat.lt_of_lt_of_le hc hp;have er:rkB W "+" a c=(a+c) % P:=by unfold rkB;rw [if_pos rfl,hP]
  rw [er,u27,u27,u27,u27,u59];obtain ⟨b1,hb1⟩:∃ b1,b1=stp 1 bs (.add fr (.box x)):=⟨_,rfl⟩;have l1:b1.length=bs.length:=by rw [hb1,u58]
  have g1:∀ i,gt b1 i=if i=fr then (a:Int) else gt bs i:=fun i=>by
   rw [hb1,u97 h1,h0 fr (Nat.le_refl _)]
   show (if i=fr then (0+gt bs x) % 4294967296 else _)=_
   rw [ea,o3 ha']
  rw [<- hb1];obtain ⟨b2,hb2⟩:∃ b2,b2=stp 1 b1 (.add fr (.box y)):=⟨_,rfl⟩;have l2:b2.length=bs.length:=by rw [hb2,u58,l1]
  have g2:∀ i,gt b2 i=if i=fr then ((a+c:Nat):Int) else gt bs i:=fun i=>by
   rw [hb2,u97 (by rw [l1];exact h1)]
   show (if i=fr then (gt b1 fr+gt b1 y) % 4294967296 else _)=_
   rw [g1 fr,g1 y,g1 i,if_pos rfl,if_neg (Nat.ne_of_lt hy),ec,o4 ha' hc'];split <;> rfl
  rw [<- hb2];obtain ⟨b3,hb3⟩:∃ b3,b3=stp 1 b2 (.turn (fr+1) W [(fr,W)]):=⟨_,rfl⟩;have l3:b3.length=bs.length:=by rw [hb3,u58,l2]
  rw [<- l2] at hl;have hcon:con b2 [(fr,W)]=decide (P<=a+c):=by
   rw [con1,g2,if_pos rfl,us7,<- hP,o6 ha hc]
   by_cases q:P<=a+c
   ·rw [if_pos q,decide_eq_true q];rfl
   ·rw [if_neg q,decide_eq_false q];rfl
  have n1:fr ≠ fr+1:=Nat.ne_of_lt (Nat.lt_succ_self _);have g3':gt b3 (fr+1)=if P<=a+c then (P:Int) else 0:=by
   rw [hb3,u60 hl,if_pos rfl,hcon,g2 (fr+1),if_neg n1.symm,h0 _ (Nat.le_succ _),flp0]
   by_cases q:P<=a+c
   ·rw [decide_eq_true q,if_pos rfl,if_pos q,hP,Int.natCast_pow];rfl
   ·rw [decide_eq_false q,if_neg (by decide),if_neg q]
  rw [<- hb3,ua1 (by rw [l3];exact h1),if_pos rfl]
  show (gt b3 fr - gt b3 (fr+1)) % 4294967296=_
  rw [g3',hb3,u60 hl,if_neg n1,g2,if_pos rfl,o7 ha hc hp]
theorem vr7 {W x y fr:Nat} (h:okW W x y fr):Wv fr (fr+2) ([.add fr (.box x),.take fr (.box y)]++[.turn (fr+1) W [(fr,31)],.add fr (.box (fr+1))]) (Sg2 W x y fr "-"):=by
 obtain ⟨hW,hW2,hx,hy⟩:=h;have hg:=vc7 hx hy;have l1:=Nat.lt_succ_self fr;have l2:=Nat.le_succ (fr+1);refine ⟨Nat.le_add_right _ _,fun r hr=>?_,fun sz bs hb hz h0 a c ea ec ha hc=>?_⟩
 ·rcases List.mem_append.mp hr with hr | hr
  ·exact u99 (hg.tg r hr) (Nat.le_refl _) l2
  rcases List.mem_cons.mp hr with e | hr
  ·rw [e];exact tgu (j:=1) (by decide) (Nat.lt_of_le_of_lt hW2 (by decide)) l1 (by decide)
  ·rw [List.mem_singleton.mp hr];exact tga (j:=0) (by decide) (Nat.lt_succ_self _) (Nat.ne_of_gt l1)
 ·have hp:=p16 hW2
  have z1:=Nat.le_trans l2 hz;obtain ⟨k1,k2⟩:=hg.keep hb z1;have e1:=hg.ef sz bs hb z1 h0;rw [ua0];obtain ⟨b2,hb2⟩:∃ b2,b2=rnp [.add fr (.box x),.take fr (.box y)] bs:=⟨_,rfl⟩;rw [<- hb2] at k1 k2 e1 ⊢;rw [ea,ec] at e1;have hl:fr+1 < b2.length:=by rw [k1.len];exact hz
  have h1:=Nat.lt_of_succ_lt hl;obtain ⟨P,hP⟩:∃ P,P=2 ^ W:=⟨_,rfl⟩;rw [<- hP] at ha hc hp;have er:rkB W "-" a c=(a+(P - c)) % P:=by unfold rkB;rw [if_neg (by decide),if_pos rfl,hP]
  rw [er,u27,u27,u59,u97 (by rw [u58];exact h1),if_pos rfl]
  show (gt (stp 1 b2 (.turn (fr+1) W [(fr,31)])) fr+gt (stp 1 b2 (.turn (fr+1) W [(fr,31)])) (fr+1)) % 4294967296=_
  rw [u60 hl,if_neg (Nat.ne_of_lt l1),u60 hl,if_pos rfl,con1,e1,bit31 (Nat.lt_of_lt_of_le ha hp) (Nat.lt_of_lt_of_le hc hp),k2 (fr+1) (.inr (Nat.le_refl _)),h0 _ (Nat.le_succ _),flp0];have eP:((2:Int) ^ W)=(P:Int):=by rw [hP,Int.natCast_pow];rfl
  rw [eP,<- o8 ha hc hp]
  by_cases q:a < c
  ·rw [if_pos q,if_pos (by decide),if_pos q]
  ·rw [if_neg q,if_neg (by decide),if_neg q]
theorem w84 {W x y fr:Nat} (h:okW W x y fr):Wv fr (fr+2) ([.add fr (.box x),.take fr (.box y)]++[.turn (fr+1) 0 [(fr,31)]]) (Sg2 W x y (fr+1) "<"):=by
 obtain ⟨hW,hW2,hx,hy⟩:=h;have hg:=vc7 hx hy;have l1:=Nat.lt_succ_self fr;have l2:=Nat.le_succ (fr+1);refine ⟨Nat.le_add_right _ _,fun r hr=>?_,fun sz bs hb hz h0 a c ea ec ha hc=>?_⟩
 ·rcases List.mem_append.mp hr with hr | hr
  ·exact u99 (hg.tg r hr) (Nat.le_refl _) l2
  rw [List.mem_singleton.mp hr];exact tgu (j:=1) (by decide) (by decide) l1 (by decide)
 ·have hp:=p16 hW2
  have z1:=Nat.le_trans l2 hz;obtain ⟨k1,k2⟩:=hg.keep hb z1;have e1:=hg.ef sz bs hb z1 h0;rw [ua0];obtain ⟨b2,hb2⟩:∃ b2,b2=rnp [.add fr (.box x),.take fr (.box y)] bs:=⟨_,rfl⟩;rw [<- hb2] at k1 k2 e1 ⊢;rw [ea,ec] at e1;have er:rkB W "<" a c=if a < c then 1 else 0:=by unfold rkB;rw [if_neg (by decide),if_neg (by decide),if_neg (by decide),if_neg (by decide),if_neg (by decide),if_pos rfl]
  rw [er,u27,u59,u60 (by rw [k1.len];exact hz),if_pos rfl,con1,e1,bit31 (Nat.lt_of_lt_of_le ha hp) (Nat.lt_of_lt_of_le hc hp),k2 (fr+1) (.inr (Nat.le_refl _)),h0 _ (Nat.le_succ _),flp0]
  by_cases q:a < c
  ·rw [if_pos q,if_pos (by decide),if_pos q];rfl
  ·rw [if_neg q,if_neg (by decide),if_neg q];rfl
theorem w81 {W x y fr:Nat} (h:okW W x y fr):Wv fr (fr+3) (([.add fr (.box x),.take fr (.box y)]++[.add (fr+1) (.box y),.take (fr+1) (.box x)])++[.turn (fr+2) 0 [],.turn (fr+2) 0 [(fr,31)],.turn (fr+2) 0 [(fr+1,31)]]) (Sg2 W x y (fr+2) "="):=by
 obtain ⟨hW,hW2,hx,hy⟩:=h;have hg:=(vc7 hx hy).seq (vc7 (fr:=fr+1) (o1 1 hy) (o1 1 hx));have l2:=Nat.le_succ (fr+2);refine ⟨Nat.le_add_right _ _,fun r hr=>?_,fun sz bs hb hz h0 a c ea ec ha hc=>?_⟩
 ·rcases List.mem_append.mp hr with hr | hr
  ·exact u99 (hg.tg r hr) (Nat.le_refl _) l2
  rcases List.mem_cons.mp hr with e | hr
  ·rw [e];exact ⟨Nat.le_add_right _ _,Nat.lt_succ_self _,by decide,by simp,fun c hc=>by cases hc⟩
  rcases List.mem_cons.mp hr with e | hr
  ·rw [e];exact tgu (j:=2) (by decide) (by decide) (o1 1 (Nat.lt_succ_self _)) (by decide)
  ·rw [List.mem_singleton.mp hr];exact tgu (j:=2) (by decide) (by decide) (Nat.lt_succ_self _) (by decide)
 ·have hp:=p16 hW2
  have ha':=Nat.lt_of_lt_of_le ha hp;have hc':=Nat.lt_of_lt_of_le hc hp;have z1:=Nat.le_trans l2 hz;obtain ⟨k1,k2⟩:=hg.keep hb z1;obtain ⟨b1,e1,e2,f1,f2⟩:=hg.ef sz bs hb z1 h0;rw [ua0];obtain ⟨b2,hb2⟩:∃ b2,b2=rnp ([.add fr (.box x),.take fr (.box y)]++[.add (fr+1) (.box y),.take (fr+1) (.box x)]) bs:=⟨_,rfl⟩;rw [<- hb2] at k1 k2 e2 f2 ⊢;rw [ea,ec] at e1;rw [f1 y hy,f1 x hx,ea,ec] at e2;have e1':gt b2 fr=((a:Int) - (c:Int)) % 4294967296:=by rw [f2 fr (Nat.lt_succ_self _)];exact e1
  have l2:fr+2 < b2.length:=by rw [k1.len];exact hz
  have er:rkB W "=" a c=if a=c then 1 else 0:=by unfold rkB;rw [if_neg (by decide),if_neg (by decide),if_neg (by decide),if_neg (by decide),if_neg (by decide),if_neg (by decide)]
  have z2:gt b2 (fr+2)=0:=by rw [k2 (fr+2) (.inr (Nat.le_refl _))];exact h0 _ (Nat.le_add_right _ _)
  rw [er,u27,u27,u27,u59];obtain ⟨b3,hb3⟩:∃ b3,b3=stp 1 b2 (.turn (fr+2) 0 []):=⟨_,rfl⟩;have l3:fr+2 < b3.length:=by rw [hb3,u58];exact l2
  have g3:∀ i,gt b3 i=if i=fr+2 then 1 else gt b2 i:=fun i=>by rw [hb3,u60 l2,if_pos (show con b2 []=true from rfl),z2,flp0];rfl
  rw [<- hb3];obtain ⟨b4,hb4⟩:∃ b4,b4=stp 1 b3 (.turn (fr+2) 0 [(fr,31)]):=⟨_,rfl⟩;have l4:fr+2 < b4.length:=by rw [hb4,u58];exact l3
  have f10:flp 1 0=0:=by decide
  have f00:flp 0 0=1:=by decide
  have g4:∀ i,gt b4 i=if i=fr+2 then (if a < c then 0 else 1) else gt b2 i:=fun i=>by
   rw [hb4,u60 l3,con1,g3 (fr+2),g3 fr,g3 i,if_pos rfl,if_neg (o2 1 (Nat.lt_succ_self fr)),e1',bit31 ha' hc',f10]
   by_cases hi:i=fr+2
   ·rw [if_pos hi,if_pos hi]
    by_cases q:a < c
    ·rw [if_pos q,if_pos q];rfl
    ·rw [if_neg q,if_neg q];rfl
   ·rw [if_neg hi,if_neg hi,if_neg hi]
  rw [<- hb4,u60 l4,if_pos rfl,con1,g4 (fr+2),g4 (fr+1),if_pos rfl,if_neg (Nat.ne_of_lt (Nat.lt_succ_self _)),e2,bit31 hc' ha']
  by_cases q:a < c
  ·rw [if_pos q,if_neg (Nat.lt_asymm q),if_neg (by decide),if_neg (Nat.ne_of_lt q)];rfl
  ·by_cases q2:c < a
   ·rw [if_pos q2,if_pos (by decide),if_neg q,f10,if_neg (Nat.ne_of_gt q2)];rfl
   ·rw [if_neg q2,if_neg (by decide),if_neg q,if_pos (Nat.le_antisymm (Nat.not_lt.mp q2) (Nat.not_lt.mp q))];rfl
def andR (fr x y:Nat) (k:Nat):List Row:=(List.range k).map fun i=>.turn fr i [(x,i),(y,i)]
theorem vl8 (a k:Nat):(!decide (bit (a:Int) k=0))=a.testBit k:=by
 rw [us7,Nat.testBit_eq_decide_div_mod_eq]
 rcases Nat.mod_two_eq_zero_or_one (a / 2 ^ k) with h | h <;> rw [h] <;> rfl
theorem vg4 (x k:Nat):x % 2 ^ (k+1)=x % 2 ^ k+2 ^ k * (if x.testBit k=true then 1 else 0):=by
 rw [Nat.pow_succ,Nat.mod_mul,Nat.testBit_eq_decide_div_mod_eq]
 rcases Nat.mod_two_eq_zero_or_one (x / 2 ^ k) with h | h <;> rw [h] <;> rfl
theorem con2 {bs:List Int} {x y i:Nat}:con bs [(x,i),(y,i)]=((!decide (bit (gt bs x) i=0)) && !decide (bit (gt bs y) i=0)):=by
 show ([(x,i),(y,i)].all fun c=>!decide (bit (gt bs c.1) c.2=0))=_
 simp
theorem w30 {v k:Nat} (h:v < 2 ^ k):flp (v:Int) k=((v+2 ^ k:Nat):Int):=by
 have:bit (v:Int) k=0:=by rw [us7,Nat.div_eq_of_lt h];rfl
 show (v:Int)+2 ^ k * (1 - 2 * bit (v:Int) k)=_
 rw [this,Int.natCast_add,Int.natCast_pow]
 show (v:Int)+2 ^ k * 1=_
 rw [Int.mul_one];rfl
theorem vb0 {fr x y sz:Nat} (hx:x < fr) (hy:y < fr) {bs:List Int} (hb:BsOk sz bs) (hz:fr+1<=sz) (h0:gt bs fr=0) {a c:Nat} (ea:gt bs x=(a:Int)) (ec:gt bs y=(c:Int)):∀ k,k<=32->gt (rnp (andR fr x y k) bs) fr=(((a &&& c) % 2 ^ k:Nat):Int) /\ (rnp (andR fr x y k) bs).length=bs.length /\ ∀ i,i ≠ fr->gt (rnp (andR fr x y k) bs) i=gt bs i
 | 0,_=>⟨by rw [show andR fr x y 0=[] from rfl,u59,h0,Nat.pow_zero,Nat.mod_one];rfl,rfl,fun _ _=>rfl⟩
 | k+1,hk=>by
  obtain ⟨i1,i2,i3⟩:=vb0 hx hy hb hz h0 ea ec k (by omega);have e:andR fr x y (k+1)=andR fr x y k++[.turn fr k [(x,k),(y,k)]]:=by
   unfold andR;rw [List.range_succ,List.map_append];rfl
  rw [e,ua0,u27,u59];have hl:=hb.len;refine ⟨?_,by rw [u58,i2],fun i hi=>by rw [u60 (by omega),if_neg hi];exact i3 i hi⟩;rw [u60 (by omega),if_pos rfl,con2,i3 x (by omega),i3 y (by omega),ea,ec,vl8,vl8,i1,<- Nat.testBit_and,vg4];cases hb2:(a &&& c).testBit k with
  | true=>rw [if_pos rfl,if_pos rfl,w30 (Nat.mod_lt _ (Nat.two_pow_pos k)),Nat.mul_one]
  | false=>rw [if_neg (by decide),if_neg (by decide),Nat.mul_zero,Nat.add_zero]
theorem w_and {W x y fr:Nat} (h:okW W x y fr):Wv fr (fr+1) (andR fr x y W) (Sg2 W x y fr "&"):=by
 obtain ⟨hW,hW2,hx,hy⟩:=h;refine ⟨by omega,fun r hr=>?_,fun sz bs hb hz h0 a c ea ec ha hc=>?_⟩
 ·obtain ⟨i,hi,rfl⟩:=List.mem_map.mp hr
  have hi:=List.mem_range.mp hi;refine ⟨by omega,by omega,by omega,by simp,fun c hc=>?_⟩
  rcases List.mem_cons.mp hc with e | hc
  ·rw [e];exact ⟨by show x < _;omega,by show x ≠ _;omega,by show i < 32;omega⟩
  ·rw [List.mem_singleton.mp hc];exact ⟨by show y < _;omega,by show y ≠ _;omega,by show i < 32;omega⟩
 ·rw [(vb0 hx hy hb hz (h0 fr (Nat.le_refl _)) ea ec W (by omega)).1]
  have er:rkB W "&" a c=a &&& c:=by unfold rkB;rw [if_neg (by decide),if_neg (by decide),if_pos rfl]
  rw [er,Nat.mod_eq_of_lt (Nat.and_lt_two_pow _ hc)]
theorem w_sum {W x y fr:Nat} (h:okW W x y fr) (n:Nat) (hn:n<=2):Wv fr (fr+2) (andR fr x y W++([.add (fr+1) (.box x),.add (fr+1) (.box y)]++List.replicate n (.take (fr+1) (.box fr)))) (fun bs bs'=>∀ a c:Nat,gt bs x=(a:Int)->gt bs y=(c:Int)->a < 2 ^ W->c < 2 ^ W->gt bs' (fr+1)=(((a+c - n * (a &&& c):Nat)):Int)):=by
 have ha:=w_and h;obtain ⟨hW,hW2,hx,hy⟩:=h;have l1:fr+1 < fr+2:=Nat.lt_succ_self _;have l0:fr<=fr+1:=Nat.le_succ _;refine ⟨Nat.le_add_right _ _,fun r hr=>?_,fun sz bs hb hz h0 a c ea ec hA hC=>?_⟩
 ·rcases List.mem_append.mp hr with hr | hr
  ·exact u99 (ha.tg r hr) (Nat.le_refl _) (Nat.le_of_lt l1)
  rcases List.mem_append.mp hr with hr | hr
  ·rcases List.mem_cons.mp hr with e | hr
   ·rw [e];exact ⟨l0,l1,o1 2 hx,o2 1 hx⟩
   ·rw [List.mem_singleton.mp hr];exact ⟨l0,l1,o1 2 hy,o2 1 hy⟩
  ·rw [(List.mem_replicate.mp hr).2];exact ⟨l0,l1,o1 1 (Nat.lt_succ_self _),Nat.ne_of_lt (Nat.lt_succ_self _)⟩
 ·have hp:=p16 hW2
  have hA':=Nat.lt_of_lt_of_le hA hp;have hC':=Nat.lt_of_lt_of_le hC hp;have z1:=Nat.le_trans (Nat.le_of_lt l1) hz;obtain ⟨k1,k2⟩:=ha.keep hb z1;have e1:=ha.ef sz bs hb z1 h0 a c ea ec hA hC;have er:rkB W "&" a c=a &&& c:=by unfold rkB;rw [if_neg (by decide),if_neg (by decide),if_pos rfl]
  rw [er] at e1;have hle:2 * (a &&& c)<=a+c:=by rw [Nat.two_mul];exact Nat.add_le_add Nat.and_le_left Nat.and_le_right
  rw [ua0,ua0];obtain ⟨b2,hb2⟩:∃ b2,b2=rnp (andR fr x y W) bs:=⟨_,rfl⟩;rw [<- hb2] at k1 k2 e1 ⊢;have l2:fr+1 < b2.length:=by rw [k1.len];exact hz
  rw [u27,u27,u59];obtain ⟨b3,hb3⟩:∃ b3,b3=stp 1 b2 (.add (fr+1) (.box x)):=⟨_,rfl⟩;have l3:fr+1 < b3.length:=by rw [hb3,u58];exact l2
  have g3:∀ i,gt b3 i=if i=fr+1 then (a:Int) else gt b2 i:=fun i=>by
   rw [hb3,u97 l2,k2 (fr+1) (.inr (Nat.le_refl _)),h0 _ l0]
   show (if i=fr+1 then (0+gt b2 x) % 4294967296 else _)=_
   rw [k2 x (.inl hx),ea,o3 hA']
  rw [<- hb3];obtain ⟨b4,hb4⟩:∃ b4,b4=stp 1 b3 (.add (fr+1) (.box y)):=⟨_,rfl⟩;have l4:fr+1 < b4.length:=by rw [hb4,u58];exact l3
  have g4:∀ i,gt b4 i=if i=fr+1 then ((a+c:Nat):Int) else gt b2 i:=fun i=>by
   rw [hb4,u97 l3]
   show (if i=fr+1 then (gt b3 (fr+1)+gt b3 y) % 4294967296 else _)=_
   rw [g3 (fr+1),g3 y,g3 i,if_pos rfl,if_neg (o2 1 hy),k2 y (.inl hy),ec,o4 hA' hC'];split <;> rfl
  rw [<- hb4];have loop:∀ (m:Nat) (b:List Int) (v:Nat),fr+1 < b.length->gt b fr=((a &&& c:Nat):Int)->gt b (fr+1)=(v:Int)->v < 4294967296->m * (a &&& c)<=v->gt (rnp (List.replicate m (.take (fr+1) (.box fr))) b) (fr+1)=((v - m * (a &&& c):Nat):Int):=by
   intro m
   induction m with
   | zero=>intro b v _ _ hv _ _;rw [List.replicate_zero,u59,hv,Nat.zero_mul,Nat.sub_zero]
   | succ m ih =>
    intro b v hlb hf hv hv2 hm;rw [List.replicate_succ,u27];rw [Nat.succ_mul] at hm;rw [ih (stp 1 b (.take (fr+1) (.box fr))) (v - (a &&& c)) (by rw [u58];exact hlb) (by rw [ua1 hlb,if_neg (Nat.ne_of_lt (Nat.lt_succ_self _))];exact hf) ?_ (Nat.lt_of_le_of_lt (Nat.sub_le _ _) hv2) (Nat.le_sub_of_add_le hm),Nat.succ_mul]
    ·rw [Nat.sub_sub,Nat.add_comm]
    ·rw [ua1 hlb,if_pos rfl,hv]
     show ((v:Int) - gt b fr) % 4294967296=_
     rw [hf,o5 hv2 (Nat.le_trans (Nat.le_add_left _ _) hm)]
  exact loop n b4 (a+c) l4 (by rw [g4,if_neg (Nat.ne_of_lt (Nat.lt_succ_self _))];exact e1) (by rw [g4,if_pos rfl]) (Nat.lt_of_lt_of_le (Nat.add_lt_add hA' hC') (by decide)) (Nat.le_trans (Nat.mul_le_mul_right _ hn) hle)
theorem w_or {W x y fr:Nat} (h:okW W x y fr):Wv fr (fr+2) (andR fr x y W++([.add (fr+1) (.box x),.add (fr+1) (.box y)]++List.replicate 1 (.take (fr+1) (.box fr)))) (Sg2 W x y (fr+1) "|"):=by
 refine (w_sum h 1 (by decide)).imp fun bs bs' k a c ea ec ha hc=>?_
 rw [k a c ea ec ha hc];have er:rkB W "|" a c=a ||| c:=by unfold rkB;rw [if_neg (by decide),if_neg (by decide),if_neg (by decide),if_pos rfl]
 have e1:=bitOr_and (a:Int) (c:Int);rw [uv2,ug2] at e1;rw [er,e1,Nat.one_mul,Int.ofNat_sub (Nat.le_trans Nat.and_le_left (Nat.le_add_right a c)),Int.natCast_add]
theorem wt9 {W x y fr:Nat} (h:okW W x y fr):Wv fr (fr+2) (andR fr x y W++([.add (fr+1) (.box x),.add (fr+1) (.box y)]++List.replicate 2 (.take (fr+1) (.box fr)))) (Sg2 W x y (fr+1) "^"):=by
 refine (w_sum h 2 (by decide)).imp fun bs bs' k a c ea ec ha hc=>?_
 rw [k a c ea ec ha hc];have er:rkB W "^" a c=a ^^^ c:=by unfold rkB;rw [if_neg (by decide),if_neg (by decide),if_neg (by decide),if_neg (by decide),if_pos rfl]
 have e1:=bitXor_and (a:Int) (c:Int);rw [v07 ha hc,ug2] at e1;rw [er,e1,Int.ofNat_sub (by rw [Nat.two_mul];exact Nat.add_le_add Nat.and_le_left Nat.and_le_right),Int.natCast_add,Int.natCast_mul];rfl
def lfl (rp:Addr) (W fr st:Nat):List (Str × D):=[("wide",.int (W:Int)),("fresh",.int (fr:Int)),("rows",.ref rp),("steps",.int (st:Int))]
theorem lsn:(("fresh" : Str) == "wide")=false /\ (("rows" : Str) == "wide")=false /\ (("rows" : Str) == "fresh")=false /\ (("steps" : Str) == "wide")=false /\ (("steps" : Str) == "fresh")=false /\ (("steps" : Str) == "rows")=false /\
  (("fresh_box" : Str) == "wide")=false /\ (("fresh_box" : Str) == "fresh")=false /\ (("fresh_box" : Str) == "rows")=false /\ (("fresh_box" : Str) == "steps")=false /\ (("put" : Str) == "wide")=false /\ (("put" : Str) == "fresh")=false /\ (("put" : Str) == "rows")=false /\ (("put" : Str) == "steps")=false /\
  (("wide" : Str) = "fresh")=False /\ (("wide" : Str) = "rows")=False /\ (("wide" : Str) = "steps")=False /\ (("fresh" : Str) = "rows")=False /\ (("fresh" : Str) = "steps")=False /\ (("rows" : Str) = "steps")=False /\ (("fresh" : Str) = "wide")=False /\ (("rows" : Str) = "wide")=False /\ (("rows" : Str) = "fresh")=False /\ (("steps" : Str) = "wide")=False /\ (("steps" : Str) = "fresh")=False /\ (("steps" : Str) = "rows")=False /\
  (("put_unless" : Str) == "wide")=false /\ (("put_unless" : Str) == "fresh")=false /\ (("put_unless" : Str) == "rows")=false /\ (("put_unless" : Str) == "steps")=false /\ (("put_by_choice" : Str) == "wide")=false /\ (("put_by_choice" : Str) == "fresh")=false /\ (("put_by_choice" : Str) == "rows")=false /\ (("put_by_choice" : Str) == "steps")=false:=by
 refine ⟨?_,?_,?_,?_,?_,?_,?_,?_,?_,?_,?_,?_,?_,?_,?_,?_,?_,?_,?_,?_,?_,?_,?_,?_,?_,?_,?_,?_,?_,?_,?_,?_,?_,?_⟩ <;> first | decide | exact eq_false (by decide)
theorem lm_all {rp:Addr} {W fr st:Nat}:List.lookup ("wide" : Str) (lfl rp W fr st)=some (.int (W:Int)) /\ List.lookup ("fresh" : Str) (lfl rp W fr st)=some (.int (fr:Int)) /\ List.lookup ("rows" : Str) (lfl rp W fr st)=some (.ref rp) /\ List.lookup ("steps" : Str) (lfl rp W fr st)=some (.int (st:Int)) /\
  List.lookup ("fresh_box" : Str) (lfl rp W fr st)=none /\ List.lookup ("put" : Str) (lfl rp W fr st)=none /\ List.lookup ("put_unless" : Str) (lfl rp W fr st)=none /\ List.lookup ("put_by_choice" : Str) (lfl rp W fr st)=none /\ (∀ v:Nat,putD ("fresh" : Str) (.int (v:Int)) (lfl rp W fr st)=lfl rp W v st) /\ (∀ v:Nat,putD ("steps" : Str) (.int (v:Int)) (lfl rp W fr st)=lfl rp W fr v):=by
 refine ⟨?_,?_,?_,?_,?_,?_,?_,?_,fun v=>?_,fun v=>?_⟩ <;> simp only [lfl,lsn,beq_self_eq_true,List.lookup_cons,List.lookup_nil,putD,if_false,if_true]
theorem v69 {rp:Addr} {W fr st:Nat}:(lfl rp W fr st).length < 1000:=show 4 < 1000 by decide
structure LoomAt (C:Addr) (G:Gp) (p rp:Addr) (W fr:Nat) (rows:List Row) (st:Nat):Prop where
 ob:G p=some (.ins C (lfl rp W fr st))
 ro:G rp=some (.lst (rows.map Row.d))
theorem LoomAt.pr {C:Addr} {G:Gp} {p rp:Addr} {W fr st:Nat} {rows:List Row} (h:LoomAt C G p rp W fr rows st):p ≠ rp:=fun e=>by have:=h.ro;rw [<- e,h.ob] at this;cases this
def LAdv (p rp:Addr) (G G':Gp):Prop:=∀ b o,b ≠ p->b ≠ rp->G b=some o->G' b=some o
theorem LAdv.refl {p rp:Addr} {G:Gp}:LAdv p rp G G:=fun _ _ _ _ h=>h
theorem LAdv.trans {p rp:Addr} {G G1 G2:Gp} (h:LAdv p rp G G1) (k:LAdv p rp G1 G2):LAdv p rp G G2:=fun b o h1 h2 e=>k b o h1 h2 (h b o h1 h2 e)
theorem LAdv.new {p rp q:Addr} {G G1:Gp} {o:DO} (h:LAdv p rp G G1) (hq:G1 q=none):LAdv p rp G (gup G1 q o):=fun b o h1 h2 e=>by have:=h b o h1 h2 e;rw [u06 (gne this hq)];exact this
theorem LoomAt.new {C:Addr} {G:Gp} {p rp q:Addr} {W fr st:Nat} {rows:List Row} {o:DO} (h:LoomAt C G p rp W fr rows st) (hq:G q=none):LoomAt C (gup G q o) p rp W fr rows st:=⟨by rw [u06 (gne h.ob hq)];exact h.ob,by rw [u06 (gne h.ro hq)];exact h.ro⟩
def sgR (W x y fr:Nat) (o:Str):List Row :=
 if o = "+" then [.add fr (.box x),.add fr (.box y),.turn (fr+1) W [(fr,W)],.take fr (.box (fr+1))]
 else if o = "-" then [.add fr (.box x),.take fr (.box y)]++[.turn (fr+1) W [(fr,31)],.add fr (.box (fr+1))]
 else if o = "&" then andR fr x y W
 else if o = "|" then andR fr x y W++([.add (fr+1) (.box x),.add (fr+1) (.box y)]++List.replicate 1 (.take (fr+1) (.box fr)))
 else if o = "^" then andR fr x y W++([.add (fr+1) (.box x),.add (fr+1) (.box y)]++List.replicate 2 (.take (fr+1) (.box fr)))
 else if o = "<" then [.add fr (.box x),.take fr (.box y)]++[.turn (fr+1) 0 [(fr,31)]]
 else ([.add fr (.box x),.take fr (.box y)]++[.add (fr+1) (.box y),.take (fr+1) (.box x)])++[.turn (fr+2) 0 [],.turn (fr+2) 0 [(fr,31)],.turn (fr+2) 0 [(fr+1,31)]]
def sgB (fr:Nat) (o:Str):Nat:=if o = "+" then fr else if o = "-" then fr else if o = "&" then fr else if o = "|" then fr+1 else if o = "^" then fr+1 else if o = "<" then fr+1 else fr+2
def sgF (fr:Nat) (o:Str):Nat:=if o = "+" then fr+2 else if o = "-" then fr+2 else if o = "&" then fr+1 else if o = "|" then fr+2 else if o = "^" then fr+2 else if o = "<" then fr+2 else fr+3
theorem ud4 {o:Str} (h:o ∈ L3.signs):o = "+" \/ o = "-" \/ o = "&" \/ o = "|" \/ o = "^" \/ o = "<" \/ o = "=" := by simpa [L3.signs] using h
theorem w80 {W x y fr:Nat} {o:Str} (h:okW W x y fr) (ho:o ∈ L3.signs):Wv fr (sgF fr o) (sgR W x y fr o) (Sg2 W x y (sgB fr o) o):=by
 rcases ud4 ho with rfl | rfl | rfl | rfl | rfl | rfl | rfl
 ·exact w83 h
 ·exact vr7 h
 ·exact w_and h
 ·exact w_or h
 ·exact wt9 h
 ·exact w84 h
 ·exact w81 h
theorem vm2 {W x y fr:Nat} {o:Str} (hW:W<=16) (ho:o ∈ L3.signs):(sgR W x y fr o).length<=20:=by
 have ha:(andR fr x y W).length=W:=by unfold andR;rw [List.length_map,List.length_range]
 rcases ud4 ho with rfl | rfl | rfl | rfl | rfl | rfl | rfl
 ·exact (by decide:4<=20)
 ·exact (by decide:4<=20)
 ·show (andR fr x y W).length<=20;omega
 ·show (andR fr x y W++_).length<=20;rw [List.length_append,ha];show W+3<=20;omega
 ·show (andR fr x y W++_).length<=20;rw [List.length_append,ha];show W+4<=20;omega
 ·exact (by decide:3<=20)
 ·exact (by decide:7<=20)
theorem vm3 {fr:Nat} {o:Str}:fr<=sgF fr o /\ sgF fr o<=fr+3 /\ sgB fr o < sgF fr o:=by
 unfold sgF sgB;split
 ·omega
 split
 ·omega
 split
 ·omega
 split
 ·omega
 split
 ·omega
 split <;> omega
def plR (fr:Nat):Atm->List Row
 | .num i=>[.add fr (.num (i:Int))]
 | .box _=>[]
def plF (fr:Nat):Atm->Nat
 | .num _=>fr+1
 | .box _=>fr
def plB (bs:List Str) (pl:List Nat) (fr:Nat):Atm->Nat
 | .num _=>fr
 | .box x=>gtB bs pl x
def Held (pl vs:List Nat) (b:List Int):Prop:=∀ (k p v:Nat),pl[k]?=some p->vs[k]?=some v->gt b p=(v:Int)
structure Plc (bs:List Str) (pl vs:List Nat) (fr:Nat):Prop where
 l1:pl.length=bs.length
 l2:vs.length=bs.length
 lt:∀ p ∈ pl,p < fr
theorem uk8 {bs:List Str} {pl:List Nat} {x:Str} (hx:x ∈ bs) (hl:pl.length=bs.length):pl[ixB bs x]?=some (gtB bs pl x):=by
 have:ixB bs x < pl.length:=by rw [hl];exact uw4 hx
 unfold gtB;rw [List.getElem?_eq_getElem this];rfl
theorem uv1 {W:Nat} {bs:List Str} {pl vs:List Nat} {fr:Nat} {a:Atm} (h:Plc bs pl vs fr) (ha:okA W bs a):plB bs pl fr a < plF fr a:=by
 cases a with
 | num i=>exact Nat.lt_succ_self fr
 | box x=>exact h.lt _ (List.mem_of_getElem? (uk8 ha h.l1))
theorem u85 {fr:Nat} (a:Atm):fr<=plF fr a /\ plF fr a<=fr+1 /\ (plR fr a).length<=1:=by
 cases a with
 | num i=>exact ⟨Nat.le_succ _,Nat.le_refl _,by show 1<=1;omega⟩
 | box x=>exact ⟨Nat.le_refl _,Nat.le_succ _,by show 0<=1;omega⟩
theorem uj3 {W:Nat} {bs:List Str} {pl vs:List Nat} {fr:Nat} {a:Atm} (hW:W<=16) (h:Plc bs pl vs fr) (ha:okA W bs a):Wv fr (plF fr a) (plR fr a) (fun b b'=>Held pl vs b->gt b' (plB bs pl fr a)=((avB bs vs a:Nat):Int)):=by
 cases a with
 | box x=>exact Wv.nil fun b hh=>hh _ _ _ (uk8 ha h.l1) (uk8 ha h.l2)
 | num i =>
  have hi:i < 2 ^ W:=ha;have hp:=p16 hW;refine ⟨Nat.le_succ _,fun r hr=>?_,fun sz b hb hz h0 _=>?_⟩
  ·rw [List.mem_singleton.mp hr];exact ⟨Nat.le_refl _,Nat.lt_succ_self _,by show (0:Int)<=(i:Int);omega,by show (i:Int) < 4294967296;omega⟩
  ·have hl:=hb.len
   have hz:fr+1<=sz:=hz
   show gt (rnp [.add fr (.num (i:Int))] b) fr=(i:Int)
   rw [u27,u59,u97 (by omega),if_pos rfl,h0 fr (Nat.le_refl _)]
   show (0+(i:Int)) % 4294967296=_
   omega
def wvR (W:Nat) (bs:List Str) (pl:List Nat) (fr:Nat):Rowp->List Row × List Nat × Nat
 | .is x a=>(plR fr a,ptB bs pl x (plB bs pl fr a),plF fr a)
 | .op x o a b=>(plR fr a++plR (plF fr a) b++sgR W (plB bs pl fr a) (plB bs pl (plF fr a) b) (plF (plF fr a) b) o,ptB bs pl x (sgB (plF (plF fr a) b) o),sgF (plF (plF fr a) b) o)
 | _=>([],pl,fr)
def smp:Rowp->Bool
 | .is _ _=>true
 | .op _ _ _ _=>true
 | _=>false
theorem u40 {pl vs:List Nat} {fr:Nat} {b b':List Int} (h:Held pl vs b) (hl:∀ p ∈ pl,p < fr) (hk:∀ i,i < fr->gt b' i=gt b i):Held pl vs b':=fun k p v e1 e2=>by rw [hk p (hl p (List.mem_of_getElem? e1))];exact h k p v e1 e2
theorem uw5 {bs:List Str} {pl vs:List Nat} {x:Str} {p v:Nat} {b:List Int} (hx:x ∈ bs) (h1:pl.length=bs.length) (h2:vs.length=bs.length) (h:Held pl vs b) (hp:gt b p=(v:Int)):Held (ptB bs pl x p) (ptB bs vs x v) b:=by
 intro k p' v' e1 e2;unfold ptB at e1 e2;rw [List.getElem?_set] at e1 e2
 by_cases e:ixB bs x=k
 ·have hk:ixB bs x < bs.length:=uw4 hx
  rw [if_pos e,if_pos (by omega)] at e1 e2;cases e1;cases e2;exact hp
 ·rw [if_neg e] at e1 e2
  exact h k p' v' e1 e2
theorem v44 {bs:List Str} {pl vs:List Nat} {fr fr' p v:Nat} {x:Str} (h:Plc bs pl vs fr) (hf:fr<=fr') (hp:p < fr'):Plc bs (ptB bs pl x p) (ptB bs vs x v) fr':=by
 refine ⟨by unfold ptB;rw [List.length_set];exact h.l1,by unfold ptB;rw [List.length_set];exact h.l2,fun q hq=>?_⟩
 rcases List.mem_or_eq_of_mem_set hq with z | z
 ·exact Nat.lt_of_lt_of_le (h.lt q z) hf
 ·rw [z];exact hp
theorem w82 {W:Nat} {bs:List Str} {pl vs:List Nat} {fr:Nat} {r:Rowp} (hW1:1<=W) (hW:W<=16) (h:Plc bs pl vs fr) (hs:StW W bs vs) (hr:okR W bs r) (hsm:smp r=true) :
  Wv fr (wvR W bs pl fr r).2.2 (wvR W bs pl fr r).1 (fun b b'=>Held pl vs b->Held (wvR W bs pl fr r).2.1 (doR W bs r vs) b') /\ Plc bs (wvR W bs pl fr r).2.1 (doR W bs r vs) (wvR W bs pl fr r).2.2 /\ (wvR W bs pl fr r).2.2<=fr+5 /\ (wvR W bs pl fr r).1.length<=22:=by
 cases r with
 | is x a =>
  have hx:x ∈ bs:=hr.1;have ha:okA W bs a:=hr.2;have hw:=uj3 hW h ha;have hl:=u85 (fr:=fr) a;refine ⟨⟨hw.le,hw.tg,fun sz b hb hz h0 hh=>?_⟩,v44 h hl.1 (uv1 h ha),by show plF fr a<=_;omega,by show (plR fr a).length<=_;omega⟩;have k:=hw.keep hb hz;exact uw5 hx h.l1 h.l2 (u40 hh h.lt fun i hi=>k.2 i (.inl hi)) (hw.ef sz b hb hz h0 hh)
 | op x o a c =>
  obtain ⟨hx,ho,ha,hc⟩:x ∈ bs /\ o ∈ L3.signs /\ okA W bs a /\ okA W bs c:=hr;have la:=u85 (fr:=fr) a;have lc:=u85 (fr:=plF fr a) c;have h1:Plc bs pl vs (plF fr a):=⟨h.l1,h.l2,fun p hp=>Nat.lt_of_lt_of_le (h.lt p hp) la.1⟩;have wa:=uj3 hW h ha;have wc:=uj3 hW h1 hc;have ba:=uv1 h ha;have bc:=uv1 h1 hc;have wg:=w80 (W:=W) (x:=plB bs pl fr a) (y:=plB bs pl (plF fr a) c) (fr:=plF (plF fr a) c) ⟨hW1,hW,by omega,by omega⟩ ho;have ws:=(wa.seq wc).seq wg;have sl:=vm3 (fr:=plF (plF fr a) c) (o:=o);refine ⟨⟨ws.le,ws.tg,fun sz b hb hz h0 hh=>?_⟩,v44 h (Nat.le_trans la.1 (Nat.le_trans lc.1 sl.1)) sl.2.2,by show sgF _ o<=_;omega,?_⟩
  ·obtain ⟨b2,⟨b1,q1,q2,q3,q4⟩,p2,p3,p4⟩:=ws.ef sz b hb hz h0
   have e1:=q1 hh;have hh1:Held pl vs b1:=u40 hh h.lt q3;have e2:=q2 hh1;have e1':gt b2 (plB bs pl fr a)=((avB bs vs a:Nat):Int):=by rw [q4 _ (by omega)];exact e1
   have hh2:Held pl vs b2:=u40 hh1 h1.lt q4;have e3:=p2 _ _ e1' e2 (uc3 hs ha) (uc3 hs hc);exact uw5 hx h.l1 h.l2 (u40 hh2 (fun p hp=>Nat.lt_of_lt_of_le (h1.lt p hp) lc.1) p4) e3
  ·show (plR fr a++plR (plF fr a) c++sgR W _ _ _ o).length<=22
   rw [List.length_append,List.length_append];have:=vm2 (W:=W) (x:=plB bs pl fr a) (y:=plB bs pl (plF fr a) c) (fr:=plF (plF fr a) c) hW ho;omega
 | cho a ys ns=>cases hsm
 | tim k ys=>cases hsm
end Rw
namespace L3
open PySem PySem.Spec PyProof.Rows L2
section
variable {X:Cx}
theorem vq2 {w1 w2 w3 w4 w5 w6:Str} {k1 k2 k3 k4 k5 k6:Nat} {p1 p2 p3 p4 p5 p6:Pos} {es:List Expr} {ts:TA3} (hr:A3 X es ts) :
  A3 X (.Constant (.str w1) k1 p1::.Constant (.str w2) k2 p2::.Constant (.str w3) k3 p3::.Constant (.str w4) k4 p4::.Constant (.str w5) k5 p5::.Constant (.str w6) k6 p6::es) (u68 (dC (.str w1)) (u68 (dC (.str w2)) (u68 (dC (.str w3)) (u68 (dC (.str w4)) (u68 (dC (.str w5)) (u68 (dC (.str w6)) ts)))))) :=
 u00 u09 (u00 u09 (u00 u09 (u00 u09 (u00 u09 (u00 u09 hr rfl) rfl) rfl) rfl) rfl) rfl
@[irreducible] def A3' (X:Cx) (es:List Expr) (t:TA3):Prop:=A3 X es t
@[irreducible] def S3' (X:Cx) (st:Stmt) (t:TS3):Prop:=S3 X st t
@[irreducible] def Ss3' (X:Cx) (l:List Stmt) (t:TS3):Prop:=Ss3 X l t
theorem A3'.of {es:List Expr} {t:TA3} (h:A3 X es t):A3' X es t:=by unfold A3';exact h
theorem A3'.to {es:List Expr} {t:TA3} (h:A3' X es t):A3 X es t:=by unfold A3' at h;exact h
theorem S3'.of {st:Stmt} {t:TS3} (h:S3 X st t):S3' X st t:=by unfold S3';exact h
theorem S3'.to {st:Stmt} {t:TS3} (h:S3' X st t):S3 X st t:=by unfold S3' at h;exact h
theorem Ss3'.of {l:List Stmt} {t:TS3} (h:Ss3 X l t):Ss3' X l t:=by unfold Ss3';exact h
theorem Ss3'.to {l:List Stmt} {t:TS3} (h:Ss3' X l t):Ss3 X l t:=by unfold Ss3' at h;exact h
theorem uu5 {st:Stmt} {sts:List Stmt} {s1 s2:TS3} (h1:S3' X st s1) (h2:Ss3' X sts s2):Ss3' X (st::sts) (dSeq s1 s2):=.of (u01 h1.to h2.to)
theorem vs6 {st:Stmt} {s1:TS3} (h:S3' X st s1):Ss3' X [st] s1:=.of (u07 h.to)
theorem wp4:A3' X [] dNil:=.of u03
theorem vb3 {w1 w2 w3 w4 w5 w6:Str} {k1 k2 k3 k4 k5 k6:Nat} {p1 p2 p3 p4 p5 p6:Pos} {es:List Expr} {ts:TA3} (hr:A3' X es ts) :
  A3' X (.Constant (.str w1) k1 p1::.Constant (.str w2) k2 p2::.Constant (.str w3) k3 p3::.Constant (.str w4) k4 p4::.Constant (.str w5) k5 p5::.Constant (.str w6) k6 p6::es) (u68 (dC (.str w1)) (u68 (dC (.str w2)) (u68 (dC (.str w3)) (u68 (dC (.str w4)) (u68 (dC (.str w5)) (u68 (dC (.str w6)) ts)))))):=.of (vq2 hr.to)
theorem wa3 (i:Nat) {x:Str} {es:List Expr} {ts:TA3} {pos pos' lpos:Pos} (hN:X.N.Nodup) (he:A3' X es ts) (hi:X.N[i]?=some x:=by rfl) (hx:Loc X.env.scope x:=by first | exact Or.inl rfl | exact Or.inr rfl) (hs:swapsWith (.List es lpos) (some (.Name x pos')) pos.line X.env=pure false:=by rfl)
  (hf:X.fn x=true \/ X.env.scope.names.lookup x=some .local:=by first | exact .inl rfl | exact .inr rfl | assumption):S3' X (.Assign [.Name x pos'] (.List es lpos) pos) (dAsg (dLst ts) (uk6 i)):=.of (u21 i hN (u46 he.to) hi hx hs hf)
end
end L3
namespace Rw
open PySem PySem.Spec PyProof.Rows L2 L3 Law
def At (rs:List Row) (a:Nat) (new:List Row):Prop:=∀ (j:Nat) (r:Row),new[j]?=some r->rs[a+j]?=some r
theorem At.left {rs n1 n2:List Row} {a:Nat} (h:At rs a (n1++n2)):At rs a n1:=fun j r e=>h j r (by rw [List.getElem?_append_left (uk4 e)];exact e)
theorem At.right {rs n1 n2:List Row} {a:Nat} (h:At rs a (n1++n2)):At rs (a+n1.length) n2:=fun j r e=>by
 rw [Nat.add_assoc];exact h _ r (by rw [List.getElem?_append_right (Nat.le_add_right _ _),Nat.add_sub_cancel_left];exact e)
theorem At.head {rs t:List Row} {r:Row} {a:Nat} (h:At rs a (r::t)):rs[a]?=some r:=h 0 r rfl
theorem At.tail {rs t:List Row} {r:Row} {a:Nat} (h:At rs a (r::t)):At rs (a+1) t:=fun j x e=>by rw [Nat.add_assoc,Nat.add_comm 1 j];exact h (j+1) x e
def Rch (rs:List Row) (n s:Nat) (b:List Int) (s':Nat) (b':List Int):Prop:=∀ m,rn true rs (n+m) s b=(n+(rn true rs m s' b').1,(rn true rs m s' b').2)
theorem Rch.refl {rs:List Row} {s:Nat} {b:List Int}:Rch rs 0 s b s b:=fun m=>by rw [Nat.zero_add,Nat.zero_add]
theorem Rch.trans {rs:List Row} {n1 n2 s s1 s2:Nat} {b b1 b2:List Int} (h1:Rch rs n1 s b s1 b1) (h2:Rch rs n2 s1 b1 s2 b2):Rch rs (n1+n2) s b s2 b2:=fun m=>by
 rw [Nat.add_assoc,h1 (n2+m),h2 m]
 show (n1+(n2+_),_)=_
 rw [Nat.add_assoc]
theorem Rch.step {rs:List Row} {s s':Nat} {b b':List Int} (h:mayF rs b s=true) (e:nxF rs b s=(s',b')):Rch rs 1 s b s' b':=fun m=>by
 rw [Nat.add_comm 1 m,wa6 (fw:=true) h]
 show ((rn true rs m (nxF rs b s).1 (nxF rs b s).2).1+1,(rn true rs m (nxF rs b s).1 (nxF rs b s).2).2)=_
 rw [e,Nat.add_comm]
theorem Rch.cast {rs:List Row} {n n' s s' t:Nat} {b b':List Int} (h:Rch rs n s b s' b') (e:n=n') (e2:s'=t):Rch rs n' s b t b':=by subst e e2;exact h
theorem Rch.plain {rs:List Row} {s:Nat} {b:List Int} {r:Row} (e:rs[s]?=some r) (hp:r.plain=true):Rch rs 1 s b (s+1) (stp 1 b r):=by
 have hl:=uk4 e;have er:rs[s]=r:=by rw [List.getElem?_eq_getElem hl] at e;exact Option.some.inj e
 have h:=v45 (bs:=b) hl (by rw [er];exact hp);rw [er] at h;exact Rch.step h.1 h.2
theorem Rch.plains {rs:List Row}:∀ {t:List Row} {s:Nat} {b:List Int},At rs s t->(∀ r ∈ t,r.plain=true)->Rch rs t.length s b (s+t.length) (rnp t b)
 | [],s,b,_,_=>Rch.refl
 | r::t,s,b,h,hp=>by
  have ih:=Rch.plains (t:=t) (s:=s+1) (b:=stp 1 b r) h.tail fun x hx=>hp x (List.mem_cons_of_mem _ hx)
  exact ((Rch.plain h.head (hp r List.mem_cons_self)).trans ih).cast (by rw [List.length_cons];omega) (by rw [List.length_cons];omega)
theorem Rch.goT {rs:List Row} {s x k:Nat} {n:Int} {b:List Int} (e:rs[s]?=some (.go x n k)) (h:gt b x=n):Rch rs 1 s b (k+1) b :=
 Rch.step (by unfold mayF;rw [e]) (by unfold nxF;rw [e];exact if_pos h)
theorem Rch.goF {rs:List Row} {s x k:Nat} {n:Int} {b:List Int} (e:rs[s]?=some (.go x n k)) (h:gt b x ≠ n):Rch rs 1 s b (s+1) b :=
 Rch.step (by unfold mayF;rw [e]) (by unfold nxF;rw [e];exact if_neg h)
theorem Rch.come {rs:List Row} {s x k:Nat} {n:Int} {b:List Int} (e:rs[s]?=some (.come x n k)) (h:gt b x ≠ n):Rch rs 1 s b (s+1) b :=
 Rch.step (by unfold mayF;rw [e];show (!decide (gt b x=n))=true;rw [decide_eq_false h];rfl) (by unfold nxF;rw [e];rfl)
theorem ve4 {a b:Nat} {r:Row} (h:r.ok a) (hb:a<=b):r.ok b:=by
 cases r with
 | add x o=>exact ⟨Nat.lt_of_lt_of_le h.1 hb,ud5 h.2 hb⟩
 | take x o=>exact ⟨Nat.lt_of_lt_of_le h.1 hb,ud5 h.2 hb⟩
 | turn x i cs=>exact ⟨Nat.lt_of_lt_of_le h.1 hb,h.2.1,h.2.2.1,fun c hc=>⟨Nat.lt_of_lt_of_le (h.2.2.2 c hc).1 hb,(h.2.2.2 c hc).2⟩⟩
 | swap x y=>exact ⟨Nat.lt_of_lt_of_le h.1 hb,Nat.lt_of_lt_of_le h.2.1 hb,h.2.2⟩
 | go x n k=>exact ⟨Nat.lt_of_lt_of_le h.1 hb,h.2⟩
 | come x n k=>exact ⟨Nat.lt_of_lt_of_le h.1 hb,h.2⟩
structure PairAt (a:Nat) (new:List Row):Prop where
 go:∀ (j x:Nat) (n:Int) (k:Nat),new[j]?=some (Row.go x n k)->a<=k /\ new[k - a]?=some (.come x n (a+j))
 co:∀ (j x:Nat) (n:Int) (k:Nat),new[j]?=some (Row.come x n k)->a<=k /\ new[k - a]?=some (.go x n (a+j))
theorem PairAt.plain {a:Nat} {new:List Row} (h:∀ r ∈ new,r.plain=true):PairAt a new:=by
 refine ⟨fun j x n k e=>?_,fun j x n k e=>?_⟩
 ·have:=h _ (List.mem_of_getElem? e);cases this
 ·have:=h _ (List.mem_of_getElem? e);cases this
theorem PairAt.pairs {new:List Row} (h:PairAt 0 new):Pairs new :=
 ⟨fun j x n k e=>by have:=(h.go j x n k e).2;rw [Nat.sub_zero,Nat.zero_add] at this;exact this,fun j x n k e=>by have:=(h.co j x n k e).2;rw [Nat.sub_zero,Nat.zero_add] at this;exact this⟩
theorem PairAt.app {a:Nat} {n1 n2:List Row} (h1:PairAt a n1) (h2:PairAt (a+n1.length) n2):PairAt a (n1++n2):=by
 refine ⟨fun j x n k e=>?_,fun j x n k e=>?_⟩
 ·rcases Nat.lt_or_ge j n1.length with q | q
  ·rw [List.getElem?_append_left q] at e
   obtain ⟨u,v⟩:=h1.go j x n k e;exact ⟨u,by rw [List.getElem?_append_left (uk4 v)];exact v⟩
  ·rw [List.getElem?_append_right q] at e
   obtain ⟨u,v⟩:=h2.go _ x n k e;refine ⟨by omega,?_⟩;rw [List.getElem?_append_right (by omega),show k - a - n1.length=k - (a+n1.length) by omega,v]
   congr 2;omega
 ·rcases Nat.lt_or_ge j n1.length with q | q
  ·rw [List.getElem?_append_left q] at e
   obtain ⟨u,v⟩:=h1.co j x n k e;exact ⟨u,by rw [List.getElem?_append_left (uk4 v)];exact v⟩
  ·rw [List.getElem?_append_right q] at e
   obtain ⟨u,v⟩:=h2.co _ x n k e;refine ⟨by omega,?_⟩;rw [List.getElem?_append_right (by omega),show k - a - n1.length=k - (a+n1.length) by omega,v]
   congr 2;omega
theorem PairAt.fence {a x:Nat} {n:Int} {t:List Row} (h:∀ r ∈ t,r.plain=true):PairAt a (.go x n (a+t.length+1)::(t++[.come x n a])):=by
 have key:∀ (j:Nat) (r:Row),(Row.go x n (a+t.length+1)::(t++[.come x n a]))[j]?=some r->(j=0 /\ r=.go x n (a+t.length+1)) \/ (j=t.length+1 /\ r=.come x n a) \/ r.plain=true:=by
  intro j r e;cases j with
  | zero=>exact .inl ⟨rfl,(Option.some.inj e).symm⟩
  | succ j =>
   rw [List.getElem?_cons_succ] at e
   rcases Nat.lt_or_ge j t.length with q | q
   ·rw [List.getElem?_append_left q] at e
    exact .inr (.inr (h r (List.mem_of_getElem? e)))
   ·rw [List.getElem?_append_right q] at e
    have hj:j - t.length < 1:=by simpa using uk4 e
    rw [show j - t.length=0 by omega] at e;exact .inr (.inl ⟨by omega,(Option.some.inj e).symm⟩)
 refine ⟨fun j x' n' k e=>?_,fun j x' n' k e=>?_⟩
 ·rcases key j _ e with ⟨rfl,q⟩ | ⟨rfl,q⟩ | q
  ·cases q
   refine ⟨by omega,?_⟩;rw [show a+t.length+1 - a=t.length+1 by omega,List.getElem?_cons_succ,List.getElem?_append_right (Nat.le_refl _),Nat.sub_self];rfl
  ·cases q
  ·cases q
 ·rcases key j _ e with ⟨rfl,q⟩ | ⟨rfl,q⟩ | q
  ·cases q
  ·cases q
   refine ⟨Nat.le_refl _,?_⟩;rw [Nat.sub_self]
   show some (Row.go x n (a+t.length+1))=some (Row.go x n (a+(t.length+1)))
   rw [Nat.add_assoc]
  ·cases q
structure Wk (a fr fr':Nat) (new:List Row) (st:Nat) (P:List Int->Prop) (F:List Int->List Int->Prop):Prop where
 le:fr<=fr'
 ok:∀ r ∈ new,r.ok fr'
 pr:PairAt a new
 run:∀ sz rs bs,At rs a new->BsOk sz bs->fr'<=sz->(∀ i,fr<=i->gt bs i=0)->P bs->∃ bs',BsOk sz bs' /\ (∀ i,i < fr \/ fr'<=i->gt bs' i=gt bs i) /\ F bs bs' /\ Rch rs st a bs (a+new.length) bs'
theorem Wk.of {a fr fr':Nat} {new:List Row} {P:List Int->Prop} {F:List Int->List Int->Prop} (h:Wv fr fr' new F):Wk a fr fr' new new.length P F:=by
 have hp:∀ r ∈ new,r.plain=true:=fun r hr=>uj5 (h.tg r hr)
 refine ⟨h.le,fun r hr=>vr8 (h.tg r hr) (Nat.le_refl _),PairAt.plain hp,fun sz rs bs ha hb hz h0 _=>?_⟩;have k:=h.keep hb hz;exact ⟨rnp new bs,k.1,k.2,h.ef sz bs hb hz h0,Rch.plains ha hp⟩
theorem Wk.imp {a fr fr' st:Nat} {new:List Row} {P P':List Int->Prop} {F F':List Int->List Int->Prop} (h:Wk a fr fr' new st P F) (hp:∀ b,P' b->P b) (hf:∀ b b',P' b->(∀ i,i < fr->gt b' i=gt b i)->F b b'->F' b b'):Wk a fr fr' new st P' F' :=
 ⟨h.le,h.ok,h.pr,fun sz rs bs ha hb hz h0 p=>by
  obtain ⟨b',q1,q2,q3,q4⟩:=h.run sz rs bs ha hb hz h0 (hp _ p);exact ⟨b',q1,q2,hf _ _ p (fun i hi=>q2 i (.inl hi)) q3,q4⟩⟩
theorem Wk.seq {a fr fr1 fr2 s1 s2:Nat} {n1 n2:List Row} {P P2:List Int->Prop} {F1 F2:List Int->List Int->Prop} (h1:Wk a fr fr1 n1 s1 P F1) (h2:Wk (a+n1.length) fr1 fr2 n2 s2 P2 F2) (hp:∀ b b1,P b->F1 b b1->(∀ i,i < fr->gt b1 i=gt b i)->P2 b1) :
  Wk a fr fr2 (n1++n2) (s1+s2) P (fun b b'=>∃ b1,F1 b b1 /\ F2 b1 b' /\ (∀ i,i < fr->gt b1 i=gt b i) /\ ∀ i,i < fr1->gt b' i=gt b1 i):=by
 refine ⟨Nat.le_trans h1.le h2.le,fun r hr=>?_,h1.pr.app h2.pr,fun sz rs bs ha hb hz h0 p=>?_⟩
 ·rcases List.mem_append.mp hr with hr | hr
  ·exact ve4 (h1.ok r hr) h2.le
  ·exact h2.ok r hr
 ·have l1:=h1.le
  have l2:=h2.le;obtain ⟨b1,q1,q2,q3,q4⟩:=h1.run sz rs bs ha.left hb (by omega) h0 p;obtain ⟨b2,r1,r2,r3,r4⟩:=h2.run sz rs b1 ha.right q1 hz (fun i hi=>by rw [q2 i (.inr hi)];exact h0 i (by omega)) (hp _ _ p q3 fun i hi=>q2 i (.inl hi));refine ⟨b2,r1,fun i hi=>?_,⟨b1,q3,r3,fun i hi=>q2 i (.inl hi),fun i hi=>r2 i (.inl hi)⟩,(q4.trans r4).cast rfl (by rw [List.length_append];omega)⟩;rw [r2 i (by omega),q2 i (by omega)]
def chR (a ch:Nat) (ys ns:List Row):List Row:=(.go ch 0 (a+ys.length+1)::(ys++[.come ch 0 a]))++(.go ch 1 (a+(ys.length+2)+ns.length+1)::(ns++[.come ch 1 (a+(ys.length+2))]))
theorem Wk.choice {a fr fr' ch:Nat} {ys ns:List Row} {Fy Fn:List Int->List Int->Prop} (hy:Wv fr fr' ys Fy) (hn:Wv fr fr' ns Fn) (hl:ys.length=ns.length) (hc:ch < fr) :
  Wk a fr fr' (chR a ch ys ns) (ys.length+3) (fun b=>gt b ch=0 \/ gt b ch=1) (fun b b'=>(gt b ch=1->Fy b b') /\ (gt b ch=0->Fn b b')):=by
 have py:∀ r ∈ ys,r.plain=true:=fun r hr=>uj5 (hy.tg r hr)
 have pn:∀ r ∈ ns,r.plain=true:=fun r hr=>uj5 (hn.tg r hr)
 have le:=hy.le;have l1:(Row.go ch 0 (a+ys.length+1)::(ys++[.come ch 0 a])).length=ys.length+2:=by rw [List.length_cons,List.length_append];rfl
 have fok:∀ (n:Int) (k:Nat) (t:List Row) (k2:Nat) (F:List Int->List Int->Prop),0<=n->n < 4294967296->Wv fr fr' t F->∀ r ∈ (Row.go ch n k::(t++[.come ch n k2])),r.ok fr':=by
  intro n k t k2 F h1 h2 hw r hr
  rcases List.mem_cons.mp hr with e | hr
  ·rw [e];exact ⟨by omega,h1,h2⟩
  rcases List.mem_append.mp hr with hr | hr
  ·exact vr8 (hw.tg r hr) (Nat.le_refl _)
  ·rw [List.mem_singleton.mp hr];exact ⟨by omega,h1,h2⟩
 refine ⟨le,fun r hr=>?_,?_,fun sz rs bs ha hb hz h0 p=>?_⟩
 ·rcases List.mem_append.mp hr with hr | hr
  ·exact fok 0 _ ys _ Fy (by decide) (by decide) hy r hr
  ·exact fok 1 _ ns _ Fn (by decide) (by decide) hn r hr
 ·refine PairAt.app (PairAt.fence py) ?_
  rw [l1];exact PairAt.fence pn
 ·have a1:=At.left ha
  have a2:=At.right ha;rw [l1] at a2;have g1:=a1.head;have y1:=(At.left a1.tail);have c1:=(At.right a1.tail).head;have g2:=a2.head;have y2:=(At.left a2.tail);have c2:=(At.right a2.tail).head;have hlen:(chR a ch ys ns).length=ys.length+2+(ns.length+2):=by
   unfold chR;rw [List.length_append,l1,List.length_cons,List.length_append];rfl
  rw [hlen]
  rcases p with p | p
  ·have k:=hn.keep hb hz
   refine ⟨rnp ns bs,k.1,k.2,⟨fun q=>(by rw [p] at q;cases q),fun _=>hn.ef sz bs hb hz h0⟩,?_⟩;have e1:=Rch.goT (b:=bs) g1 p;have e2:=(Rch.goF (b:=bs) g2 (by rw [p];decide));have e3:=Rch.plains (b:=bs) y2 pn;have e4:=Rch.come (b:=rnp ns bs) c2 (by rw [k.2 ch (.inl hc),p];decide);exact (((e1.cast rfl (show a+ys.length+1+1=a+(ys.length+2) by omega)).trans e2).trans e3 |>.trans e4).cast (by omega) (by omega)
  ·have k:=hy.keep hb hz
   refine ⟨rnp ys bs,k.1,k.2,⟨fun _=>hy.ef sz bs hb hz h0,fun q=>(by rw [p] at q;cases q)⟩,?_⟩;have e1:=Rch.goF (b:=bs) g1 (by rw [p];decide);have e2:=Rch.plains (b:=bs) y1 py;have e3:=Rch.come (b:=rnp ys bs) c1 (by rw [k.2 ch (.inl hc),p];decide);have e4:=Rch.goT (b:=rnp ys bs) g2 (by rw [k.2 ch (.inl hc),p]);exact ((e1.trans e2).trans e3 |>.cast rfl (show a+1+ys.length+1=a+(ys.length+2) by omega) |>.trans e4).cast (by omega) (by omega)
def tkR (fr:Nat):List Nat->List Row
 | []=>[]
 | p::ps=>.add fr (.box p)::tkR (fr+1) ps
theorem u75:∀ {ps:List Nat} {fr:Nat},(tkR fr ps).length=ps.length
 | [],_=>rfl
 | p::ps,fr=>by show (tkR (fr+1) ps).length+1=_;rw [u75];rfl
theorem w85 {fr p:Nat} (hp:p < fr):Wv fr (fr+1) [.add fr (.box p)] (fun b b'=>gt b' fr=gt b p):=by
 refine ⟨by omega,fun r hr=>?_,fun sz bs hb hz h0=>?_⟩
 ·rw [List.mem_singleton.mp hr];exact ⟨by omega,by omega,by show p < _;omega,by omega⟩
 ·have hl:=hb.len
  have hr:=ui4 hb (show p < sz by omega);rw [u27,u59,u97 (by omega),if_pos rfl,h0 fr (Nat.le_refl _)]
  show (0+gt bs p) % 4294967296=_
  omega
theorem w_tk:∀ {ps:List Nat} {fr f0:Nat},f0<=fr->(∀ p ∈ ps,p < f0)->Wv fr (fr+ps.length) (tkR fr ps) (fun b b'=>∀ (k p:Nat),ps[k]?=some p->gt b' (fr+k)=gt b p)
 | [],fr,f0,_,_=>Wv.nil fun b k p e=>by cases e
 | p::ps,fr,f0,hf,h=>by
  have hp:=h p List.mem_cons_self;have ih:=w_tk (ps:=ps) (fr:=fr+1) (f0:=f0) (by omega) fun x hx=>h x (List.mem_cons_of_mem _ hx)
  have w:=(w85 (fr:=fr) (p:=p) (by omega)).seq ih;rw [show fr+1+ps.length=fr+(p::ps).length by rw [List.length_cons];omega] at w;refine w.imp fun b b' ⟨b1,q1,q2,q3,q4⟩ k x e=>?_
  cases k with
  | zero =>
   cases e;rw [Nat.add_zero,q4 fr (Nat.lt_succ_self _)];exact q1
  | succ k =>
   have e:ps[k]?=some x:=e;have hx:=h x (List.mem_cons_of_mem _ (List.mem_of_getElem? e));rw [show fr+(k+1)=fr+1+k by omega,q2 k x e,q3 x (by omega)]
theorem vr5 {fr x:Nat} (hx:x < fr):Wv fr (fr+2) [.take fr (.box x),.turn (fr+1) 0 [(fr,31)]] (fun b b'=>∀ v:Nat,gt b x=(v:Int)->v < 65536->gt b' (fr+1)=if v=0 then 0 else 1):=by
 refine ⟨by omega,fun r hr=>?_,fun sz bs hb hz h0 v e hv=>?_⟩
 ·rcases List.mem_cons.mp hr with e | hr
  ·rw [e];exact ⟨by omega,by omega,by show x < _;omega,by omega⟩
  ·rw [List.mem_singleton.mp hr];exact ⟨by omega,by omega,by omega,by simp,fun c hc=>by rw [List.mem_singleton.mp hc];exact ⟨by show fr < _;omega,by show fr ≠ _;omega,by show 31 < 32;omega⟩⟩
 ·have hl:=hb.len
  have e1:gt (stp 1 bs (.take fr (.box x))) fr=(((0:Nat):Int) - (v:Int)) % 4294967296:=by
   rw [ua1 (by omega),if_pos rfl,h0 fr (Nat.le_refl _)]
   show (0 - gt bs x) % 4294967296=_
   rw [e];rfl
  have e2:gt (stp 1 bs (.take fr (.box x))) (fr+1)=0:=by rw [ua1 (by omega),if_neg (by omega),h0 (fr+1) (by omega)]
  rw [u27,u27,u59,u60 (by rw [u58];omega),if_pos rfl,con1,e1,e2,flp0,bit31 (by decide) hv]
  by_cases q:v=0
  ·rw [if_pos q,if_neg (by omega:¬ 0 < v)];rfl
  ·rw [if_neg q,if_pos (by omega:0 < v)];rfl
def mrg (fr:Nat):List Nat->List Nat->List Nat
 | p::ps,q::qs=>if p=q then p::mrg fr ps qs else fr::mrg (fr+1) ps qs
 | _,_=>[]
def uY:List Nat->List Nat->List Nat
 | p::ps,q::qs=>if p=q then uY ps qs else p::uY ps qs
 | _,_=>[]
def uN:List Nat->List Nat->List Nat
 | p::ps,q::qs=>if p=q then uN ps qs else q::uN ps qs
 | _,_=>[]
theorem ux6:∀ {ps qs:List Nat},(uY ps qs).length=(uN ps qs).length
 | [],_=>by cases ‹List Nat› <;> rfl
 | _::_,[]=>rfl
 | p::ps,q::qs=>by
  unfold uY uN;split
  ·exact ux6
  ·rw [List.length_cons,List.length_cons,ux6]
theorem v15:∀ {ps qs:List Nat} {x:Nat},x ∈ uY ps qs->x ∈ ps
 | [],qs,x,h=>by cases qs <;> exact h
 | _::_,[],x,h=>by cases h
 | p::ps,q::qs,x,h=>by
  unfold uY at h;split at h
  ·exact List.mem_cons_of_mem _ (v15 h)
  ·rcases List.mem_cons.mp h with e | h
   ·rw [e];exact List.mem_cons_self
   ·exact List.mem_cons_of_mem _ (v15 h)
theorem v16:∀ {ps qs:List Nat} {x:Nat},x ∈ uN ps qs->x ∈ qs
 | [],qs,x,h=>by cases qs <;> cases h
 | _::_,[],x,h=>by cases h
 | p::ps,q::qs,x,h=>by
  unfold uN at h;split at h
  ·exact List.mem_cons_of_mem _ (v16 h)
  ·rcases List.mem_cons.mp h with e | h
   ·rw [e];exact List.mem_cons_self
   ·exact List.mem_cons_of_mem _ (v16 h)
theorem ue6:∀ {ps qs:List Nat} {fr:Nat},ps.length=qs.length->(mrg fr ps qs).length=ps.length
 | [],qs,fr,h=>by cases qs <;> rfl
 | p::ps,[],fr,h=>by cases h
 | p::ps,q::qs,fr,h=>by
  have h:ps.length=qs.length:=Nat.succ.inj h;unfold mrg;split
  ·rw [List.length_cons,ue6 h,List.length_cons]
  ·rw [List.length_cons,ue6 h,List.length_cons]
theorem v57:∀ {ps qs:List Nat} {fr f0:Nat},f0<=fr->(∀ p ∈ ps,p < f0)->∀ x ∈ mrg fr ps qs,x < fr+(uY ps qs).length
 | [],qs,fr,f0,_,_,x,hx=>by cases qs <;> cases hx
 | p::ps,[],fr,f0,_,_,x,hx=>by cases hx
 | p::ps,q::qs,fr,f0,hf,h,x,hx=>by
  have hp:=h p List.mem_cons_self;have ht:=fun y hy=>h y (List.mem_cons_of_mem _ hy)
  unfold mrg at hx;unfold uY;split at hx
  ·rename_i e
   rw [if_pos e]
   rcases List.mem_cons.mp hx with z | hx
   ·omega
   ·exact v57 hf ht x hx
  ·rename_i e
   rw [if_neg e,List.length_cons]
   rcases List.mem_cons.mp hx with z | hx
   ·omega
   ·have:=v57 (fr:=fr+1) (f0:=f0) (by omega) ht x hx
    omega
theorem held_cons {p v:Nat} {pl vs:List Nat} {b:List Int}:Held (p::pl) (v::vs) b ↔ gt b p=(v:Int) /\ Held pl vs b:=by
 refine ⟨fun h=>⟨h 0 p v rfl rfl,fun k x y e1 e2=>h (k+1) x y e1 e2⟩,fun ⟨h1,h2⟩ k x y e1 e2=>?_⟩;cases k with
 | zero=>cases e1;cases e2;exact h1
 | succ k=>exact h2 k x y e1 e2
theorem ur9 {b b':List Int} {f0:Nat} (hk:∀ i,i < f0->gt b' i=gt b i):∀ {ps qs vs:List Nat} {fr:Nat},(∀ p ∈ ps,p < f0)->Held ps vs b->(∀ (k p:Nat),(uY ps qs)[k]?=some p->gt b' (fr+k)=gt b p)->Held (mrg fr ps qs) vs b'
 | [],qs,vs,fr,_,_,_=>by cases qs <;> exact fun k x y e=>by cases e
 | p::ps,[],vs,fr,_,_,_=>fun k x y e=>by cases e
 | p::ps,q::qs,[],fr,_,_,_=>fun k x y e e2=>by cases e2
 | p::ps,q::qs,v::vs,fr,h,hh,hu=>by
  have hp:=h p List.mem_cons_self;have ht:=fun y hy=>h y (List.mem_cons_of_mem _ hy)
  obtain ⟨h1,h2⟩:=held_cons.mp hh;unfold mrg;unfold uY at hu;split
  ·rename_i e
   rw [if_pos e] at hu;exact held_cons.mpr ⟨by rw [hk p hp];exact h1,ur9 hk ht h2 hu⟩
  ·rename_i e
   rw [if_neg e] at hu;refine held_cons.mpr ⟨by rw [<- h1];exact hu 0 p rfl,ur9 hk ht h2 fun k x e2=>?_⟩;rw [show fr+1+k=fr+(k+1) by omega];exact hu (k+1) x e2
theorem us0 {b b':List Int} {f0:Nat} (hk:∀ i,i < f0->gt b' i=gt b i):∀ {ps qs vs:List Nat} {fr:Nat},(∀ p ∈ qs,p < f0)->Held qs vs b->(∀ (k p:Nat),(uN ps qs)[k]?=some p->gt b' (fr+k)=gt b p)->Held (mrg fr ps qs) vs b'
 | [],qs,vs,fr,_,_,_=>by cases qs <;> exact fun k x y e=>by cases e
 | p::ps,[],vs,fr,_,_,_=>fun k x y e=>by cases e
 | p::ps,q::qs,[],fr,_,_,_=>fun k x y e e2=>by cases e2
 | p::ps,q::qs,v::vs,fr,h,hh,hu=>by
  have hp:=h q List.mem_cons_self;have ht:=fun y hy=>h y (List.mem_cons_of_mem _ hy)
  obtain ⟨h1,h2⟩:=held_cons.mp hh;unfold mrg;unfold uN at hu;split
  ·rename_i e
   rw [if_pos e] at hu;exact held_cons.mpr ⟨by rw [e,hk q hp];exact h1,us0 hk ht h2 hu⟩
  ·rename_i e
   rw [if_neg e] at hu;refine held_cons.mpr ⟨by rw [<- h1];exact hu 0 q rfl,us0 hk ht h2 fun k x e2=>?_⟩;rw [show fr+1+k=fr+(k+1) by omega];exact hu (k+1) x e2
mutual
def wcR (W:Nat) (bs:List Str):Rowp->Nat->List Nat->Nat->List Row × List Nat × Nat × Nat
 | .is x c,_,pl,fr=>((wvR W bs pl fr (.is x c)).1,(wvR W bs pl fr (.is x c)).2.1,(wvR W bs pl fr (.is x c)).2.2,(wvR W bs pl fr (.is x c)).1.length)
 | .op x o c d,_,pl,fr=>((wvR W bs pl fr (.op x o c d)).1,(wvR W bs pl fr (.op x o c d)).2.1,(wvR W bs pl fr (.op x o c d)).2.2,(wvR W bs pl fr (.op x o c d)).1.length)
 | .cho c ys ns,a,pl,fr =>
  let y:=wcL W bs ys a pl fr
  let n:=wcL W bs ns (a+y.1.length) pl y.2.2.1
  let f:=plF n.2.2.1 c
  let pre:=y.1++n.1++plR n.2.2.1 c++[.take f (.box (plB bs pl n.2.2.1 c)),.turn (f+1) 0 [(f,31)]]
  (pre++chR (a+pre.length) (f+1) (tkR (f+2) (uY y.2.1 n.2.1)) (tkR (f+2) (uN y.2.1 n.2.1)),mrg (f+2) y.2.1 n.2.1,f+2+(uY y.2.1 n.2.1).length,y.2.2.2+n.2.2.2+(plR n.2.2.1 c).length+2+((uY y.2.1 n.2.1).length+3))
 | .tim _ _,_,pl,fr=>([],pl,fr,0)
def wcL (W:Nat) (bs:List Str):List Rowp->Nat->List Nat->Nat->List Row × List Nat × Nat × Nat
 | [],_,pl,fr=>([],pl,fr,0)
 | r::rs,a,pl,fr =>
  let x:=wcR W bs r a pl fr
  let t:=wcL W bs rs (a+x.1.length) x.2.1 x.2.2.1
  (x.1++t.1,t.2.1,t.2.2.1,x.2.2.2+t.2.2.2)
end
theorem Plc.mono {bs:List Str} {pl vs:List Nat} {fr fr':Nat} (h:Plc bs pl vs fr) (hf:fr<=fr'):Plc bs pl vs fr':=⟨h.l1,h.l2,fun p hp=>Nat.lt_of_lt_of_le (h.lt p hp) hf⟩
def WkP (W:Nat) (bs:List Str) (a:Nat) (pl vs:List Nat) (fr:Nat) (x:List Row × List Nat × Nat × Nat) (vs':List Nat):Prop :=
 Wk a fr x.2.2.1 x.1 x.2.2.2 (Held pl vs) (fun _ b'=>Held x.2.1 vs' b') /\ Plc bs x.2.1 vs' x.2.2.1
mutual
theorem w_pc {W:Nat} {bs:List Str} (hW1:1<=W) (hW:W<=16):∀ (r:Rowp) {a:Nat} {pl vs:List Nat} {fr:Nat},okR W bs r->ntR r->Plc bs pl vs fr->StW W bs vs->WkP W bs a pl vs fr (wcR W bs r a pl fr) (doR W bs r vs)
 | .is x c,a,pl,vs,fr,hr,_,h,hs=>by
  obtain ⟨w1,w2,_⟩:=w82 hW1 hW h hs hr rfl;exact ⟨(Wk.of w1).imp (fun _ p=>p) fun b b' p _ f=>f p,w2⟩
 | .op x o c d,a,pl,vs,fr,hr,_,h,hs=>by
  obtain ⟨w1,w2,_⟩:=w82 hW1 hW h hs hr rfl;exact ⟨(Wk.of w1).imp (fun _ p=>p) fun b b' p _ f=>f p,w2⟩
 | .cho c ys ns,a,pl,vs,fr,hr,hn,h,hs=>by
  obtain ⟨hc,hry,hrn⟩:okA W bs c /\ okL W bs ys /\ okL W bs ns:=hr;obtain ⟨hny,hnn⟩:ntL ys /\ ntL ns:=hn;have hy:=w_ps hW1 hW ys (a:=a) hry hny h hs;unfold WkP at hy
  show WkP W bs a pl vs fr
   ((wcL W bs ys a pl fr).1++(wcL W bs ns (a+(wcL W bs ys a pl fr).1.length) pl (wcL W bs ys a pl fr).2.2.1).1++_++_++_,_,_,_) (if avB bs vs c=0 then doL W bs ns vs else doL W bs ys vs)
  generalize wcL W bs ys a pl fr=y at hy ⊢;obtain ⟨yr,yp,yf,yst⟩:=y;obtain ⟨wy,py⟩:=hy;have wy:Wk a fr yf yr yst (Held pl vs) (fun _ b'=>Held yp (doL W bs ys vs) b'):=wy;have py:Plc bs yp (doL W bs ys vs) yf:=py;have h2:=h.mono wy.le;have hn2:=w_ps hW1 hW ns (a:=a+yr.length) hrn hnn h2 hs;unfold WkP at hn2
  show WkP W bs a pl vs fr
   (yr++(wcL W bs ns (a+yr.length) pl yf).1++_++_++_,_,_,_) (if avB bs vs c=0 then doL W bs ns vs else doL W bs ys vs)
  generalize wcL W bs ns (a+yr.length) pl yf=n at hn2 ⊢;obtain ⟨nr,np,nf,nst⟩:=n;obtain ⟨wn,pn⟩:=hn2;have wn:Wk (a+yr.length) yf nf nr nst (Held pl vs) (fun _ b'=>Held np (doL W bs ns vs) b'):=wn;have pn:Plc bs np (doL W bs ns vs) nf:=pn;have h3:=h2.mono wn.le;have hp:=u85 (fr:=nf) c;have hb:=uv1 h3 hc
  show WkP W bs a pl vs fr (yr++nr++plR nf c++[Row.take (plF nf c) (.box (plB bs pl nf c)),Row.turn (plF nf c+1) 0 [(plF nf c,31)]]++chR (a+(yr++nr++plR nf c++[Row.take (plF nf c) (.box (plB bs pl nf c)),Row.turn (plF nf c+1) 0 [(plF nf c,31)]]).length) (plF nf c+1) (tkR (plF nf c+2) (uY yp np)) (tkR (plF nf c+2) (uN yp np)),mrg (plF nf c+2) yp np,plF nf c+2+(uY yp np).length,yst+nst+(plR nf c).length+2+((uY yp np).length+3)) (if avB bs vs c=0 then doL W bs ns vs else doL W bs ys vs)
  have wl:=wn.le;have s1:=wy.seq wn fun b b1 p _ k=>u40 p h.lt k
  have s2:=s1.seq (P2:=Held pl vs) (Wk.of (uj3 hW h3 hc)) fun b b1 p ⟨b0,q1,q2,q3,q4⟩ k=>u40 p h.lt k
  have s3:=s2.seq (P2:=fun _=>True) (Wk.of (vr5 hb)) fun _ _ _ _ _=>trivial
  have ly:∀ p ∈ uY yp np,p < nf:=fun p q=>Nat.lt_of_lt_of_le (py.lt p (v15 q)) wl
  have ln:∀ p ∈ uN yp np,p < nf:=fun p q=>pn.lt p (v16 q)
  have ty:=w_tk (fr:=plF nf c+2) (by omega) ly;have tn:=w_tk (fr:=plF nf c+2) (by omega) ln;rw [<- ux6] at tn;have va:avB bs vs c < 65536:=Nat.lt_of_lt_of_le (uc3 hs hc) (p16 hW);have key:∀ b b4,Held pl vs b->(∃ b3,(∃ b2,(∃ b1,Held yp (doL W bs ys vs) b1 /\ Held np (doL W bs ns vs) b2 /\ (∀ i,i < fr->gt b1 i=gt b i) /\ ∀ i,i < yf->gt b2 i=gt b1 i) /\ (Held pl vs b2->gt b3 (plB bs pl nf c)=((avB bs vs c:Nat):Int)) /\ (∀ i,i < fr->gt b2 i=gt b i) /\ ∀ i,i < nf->gt b3 i=gt b2 i) /\ (∀ v:Nat,gt b3 (plB bs pl nf c)=(v:Int)->v < 65536->gt b4 (plF nf c+1)=if v=0 then 0 else 1) /\ (∀ i,i < fr->gt b3 i=gt b i) /\ ∀ i,i < plF nf c->gt b4 i=gt b3 i) ->
    gt b4 (plF nf c+1)=(if avB bs vs c=0 then 0 else 1) /\ Held yp (doL W bs ys vs) b4 /\ Held np (doL W bs ns vs) b4:=by
   rintro b b4 p ⟨b3,⟨b2,⟨b1,q1,q2,q3,q4⟩,q5,q6,q7⟩,q8,q9,q10⟩;have p2:Held pl vs b2:=u40 p h.lt q6;refine ⟨q8 _ (q5 p2) va,?_,?_⟩
   ·exact u40 (u40 (u40 q1 py.lt q4) (fun x hx=>Nat.lt_of_lt_of_le (py.lt x hx) wl) q7) (fun x hx=>Nat.lt_of_lt_of_le (py.lt x hx) (Nat.le_trans wl hp.1)) q10
   ·exact u40 (u40 q2 pn.lt q7) (fun x hx=>Nat.lt_of_lt_of_le (pn.lt x hx) hp.1) q10
  have s4:=s3.seq (Wk.choice (ch:=plF nf c+1) ty tn (by rw [u75,u75,ux6]) (by omega)) fun b b4 p f _=>by
   have:=(key b b4 p f).1;rw [this]
   by_cases q:avB bs vs c=0
   ·rw [if_pos q];exact .inl rfl
   ·rw [if_neg q];exact .inr rfl
  refine ⟨?_,?_⟩
  ·have s5:=s4.imp (P':=Held pl vs) (F':=fun _ b'=>Held (mrg (plF nf c+2) yp np) (if avB bs vs c=0 then doL W bs ns vs else doL W bs ys vs) b') (fun _ p=>p) fun b b5 p _ ⟨b4,f,⟨c1,c2⟩,_,k4⟩=>by
    obtain ⟨e,hY,hN⟩:=key b b4 p f
    by_cases q:avB bs vs c=0
    ·rw [if_pos q] at e ⊢
     exact us0 (f0:=nf) (fun i hi=>k4 i (by omega)) pn.lt hN (c2 e)
    ·rw [if_neg q] at e ⊢
     exact ur9 (f0:=nf) (fun i hi=>k4 i (by omega)) (fun x hx=>Nat.lt_of_lt_of_le (py.lt x hx) wl) hY (c1 e)
   rw [u75] at s5;exact s5
  ·have hl:yp.length=np.length:=by rw [py.l1,pn.l1]
   refine ⟨by show (mrg _ _ _).length=_;rw [ue6 hl];exact py.l1,?_,fun x hx=>v57 (f0:=nf) (by omega) (fun x hx=>Nat.lt_of_lt_of_le (py.lt x hx) wl) x hx⟩;split
   ·exact pn.l2
   ·exact py.l2
 | .tim k ys,a,pl,vs,fr,_,hn,_,_=>hn.elim
theorem w_ps {W:Nat} {bs:List Str} (hW1:1<=W) (hW:W<=16):∀ (rs:List Rowp) {a:Nat} {pl vs:List Nat} {fr:Nat},okL W bs rs->ntL rs->Plc bs pl vs fr->StW W bs vs->WkP W bs a pl vs fr (wcL W bs rs a pl fr) (doL W bs rs vs)
 | [],a,pl,vs,fr,_,_,h,hs=>⟨Wk.of (Wv.nil (F:=fun b b'=>Held pl vs b->Held pl vs b') fun b p=>p) |>.imp (fun _ p=>p) fun b b' p _ f=>f p,h⟩
 | r::rs,a,pl,vs,fr,hr,hn,h,hs=>by
  obtain ⟨hr1,hr2⟩:okR W bs r /\ okL W bs rs:=hr;obtain ⟨hn1,hn2⟩:ntR r /\ ntL rs:=hn;have h1:=w_pc hW1 hW r (a:=a) hr1 hn1 h hs
  show WkP W bs a pl vs fr ((wcR W bs r a pl fr).1++_,_,_,_) (doL W bs rs (doR W bs r vs))
  unfold WkP at h1;generalize wcR W bs r a pl fr=y at h1 ⊢;obtain ⟨yr,yp,yf,yst⟩:=y;obtain ⟨wy,py⟩:=h1;have wy:Wk a fr yf yr yst (Held pl vs) (fun _ b'=>Held yp (doR W bs r vs) b'):=wy;have py:Plc bs yp (doR W bs r vs) yf:=py;have h2:=w_ps hW1 hW rs (a:=a+yr.length) hr2 hn2 py (v88 hW1 r hr1 hs)
  show WkP W bs a pl vs fr (yr++(wcL W bs rs (a+yr.length) yp yf).1,_,_,_) (doL W bs rs (doR W bs r vs))
  unfold WkP at h2;generalize wcL W bs rs (a+yr.length) yp yf=n at h2 ⊢;obtain ⟨nr,np,nf,nst⟩:=n;obtain ⟨wn,pn⟩:=h2;exact ⟨(wy.seq wn fun b b1 _ f _=>f).imp (fun _ p=>p) fun b b' _ _ ⟨b1,_,f,_⟩=>f,pn⟩
end
theorem u_le:∀ {ps qs:List Nat},(uY ps qs).length<=ps.length
 | [],qs=>by cases qs <;> exact Nat.le_refl _
 | _::_,[]=>Nat.zero_le _
 | p::ps,q::qs=>by
  have:=u_le (ps:=ps) (qs:=qs);unfold uY;split
  ·rw [List.length_cons];omega
  ·rw [List.length_cons,List.length_cons];omega
theorem w49 {a ch:Nat} {ys ns:List Row}:(chR a ch ys ns).length=ys.length+ns.length+4:=by
 unfold chR;rw [List.length_append,List.length_cons,List.length_cons,List.length_append,List.length_append]
 show ys.length+1+1+(ns.length+1+1)=_
 omega
def WkL (bs:List Str) (fr sz:Nat) (x:List Row × List Nat × Nat × Nat):Prop:=x.1.length<=22 * sz /\ x.2.2.1<=fr+9 * sz /\ fr<=x.2.2.1 /\ x.2.1.length=bs.length /\ x.2.2.2<=22 * sz
mutual
theorem vr4 {W:Nat} {bs:List Str} (hW:W<=16) (hb:bs.length<=6):∀ (r:Rowp) {a:Nat} {pl:List Nat} {fr:Nat},okR W bs r->ntR r->pl.length=bs.length->WkL bs fr (szR r) (wcR W bs r a pl fr)
 | .is x c,a,pl,fr,hr,_,hl=>by
  have la:=u85 (fr:=fr) c;exact ⟨by show (plR fr c).length<=22 * 1;omega,by show plF fr c<=fr+9 * 1;omega,la.1,by show (ptB bs pl x _).length=_;unfold ptB;rw [List.length_set];exact hl,by show (plR fr c).length<=22 * 1;omega⟩
 | .op x o c d,a,pl,fr,hr,_,hl=>by
  obtain ⟨hx,ho,_,_⟩:x ∈ bs /\ o ∈ L3.signs /\ okA W bs c /\ okA W bs d:=hr;have la:=u85 (fr:=fr) c;have lc:=u85 (fr:=plF fr c) d;have sl:=vm3 (fr:=plF (plF fr c) d) (o:=o);have lg:=vm2 (W:=W) (x:=plB bs pl fr c) (y:=plB bs pl (plF fr c) d) (fr:=plF (plF fr c) d) hW ho;have hrl:(plR fr c++plR (plF fr c) d++sgR W (plB bs pl fr c) (plB bs pl (plF fr c) d) (plF (plF fr c) d) o).length<=22 * 1:=by rw [List.length_append,List.length_append];omega
  exact ⟨hrl,by show sgF _ o<=fr+9 * 1;omega,by show fr<=sgF _ o;omega,by show (ptB bs pl x _).length=_;unfold ptB;rw [List.length_set];exact hl,hrl⟩
 | .cho c ys ns,a,pl,fr,hr,hn,hl=>by
  obtain ⟨_,hry,hrn⟩:okA W bs c /\ okL W bs ys /\ okL W bs ns:=hr;obtain ⟨hny,hnn⟩:ntL ys /\ ntL ns:=hn;have hy:=u82 hW hb ys (a:=a) (fr:=fr) hry hny hl
  show WkL bs fr (1+szL ys+szL ns) ((wcL W bs ys a pl fr).1++(wcL W bs ns (a+(wcL W bs ys a pl fr).1.length) pl (wcL W bs ys a pl fr).2.2.1).1++_++_++_,_,_,_)
  generalize wcL W bs ys a pl fr=y at hy ⊢;obtain ⟨yr,yp,yf,yst⟩:=y;obtain ⟨y1,y2,y3,y4,y5⟩:yr.length<=22 * szL ys /\ yf<=fr+9 * szL ys /\ fr<=yf /\ yp.length=bs.length /\ yst<=22 * szL ys:=hy;have hn2:=u82 hW hb ns (a:=a+yr.length) (fr:=yf) hrn hnn hl
  show WkL bs fr (1+szL ys+szL ns) (yr++(wcL W bs ns (a+yr.length) pl yf).1++_++_++_,_,_,_)
  generalize wcL W bs ns (a+yr.length) pl yf=n at hn2 ⊢;obtain ⟨nr,np,nf,nst⟩:=n;obtain ⟨n1,n2,n3,n4,n5⟩:nr.length<=22 * szL ns /\ nf<=yf+9 * szL ns /\ yf<=nf /\ np.length=bs.length /\ nst<=22 * szL ns:=hn2;have hp:=u85 (fr:=nf) c;have hu:=u_le (ps:=yp) (qs:=np);have hul:=ux6 (ps:=yp) (qs:=np);refine ⟨?_,?_,?_,?_,?_⟩
  ·show (yr++nr++plR nf c++[_,_]++chR _ _ (tkR _ (uY yp np)) (tkR _ (uN yp np))).length<=_
   rw [List.length_append,List.length_append,List.length_append,List.length_append,w49,u75,u75]
   show yr.length+nr.length+(plR nf c).length+2+_<=_
   omega
  ·show plF nf c+2+(uY yp np).length<=_
   omega
  ·show fr<=plF nf c+2+(uY yp np).length
   omega
  ·show (mrg _ yp np).length=_
   rw [ue6 (by omega)];exact y4
  ·show yst+nst+(plR nf c).length+2+((uY yp np).length+3)<=_
   omega
 | .tim k ys,a,pl,fr,_,hn,_=>hn.elim
theorem u82 {W:Nat} {bs:List Str} (hW:W<=16) (hb:bs.length<=6):∀ (rs:List Rowp) {a:Nat} {pl:List Nat} {fr:Nat},okL W bs rs->ntL rs->pl.length=bs.length->WkL bs fr (szL rs) (wcL W bs rs a pl fr)
 | [],a,pl,fr,_,_,hl=>⟨Nat.zero_le _,Nat.le_add_right _ _,Nat.le_refl _,hl,Nat.zero_le _⟩
 | r::rs,a,pl,fr,hr,hn,hl=>by
  obtain ⟨hr1,hr2⟩:okR W bs r /\ okL W bs rs:=hr;obtain ⟨hn1,hn2⟩:ntR r /\ ntL rs:=hn;have h1:=vr4 hW hb r (a:=a) (fr:=fr) hr1 hn1 hl
  show WkL bs fr (szR r+szL rs) ((wcR W bs r a pl fr).1++_,_,_,_)
  generalize wcR W bs r a pl fr=y at h1 ⊢;obtain ⟨yr,yp,yf,yst⟩:=y;obtain ⟨y1,y2,y3,y4,y5⟩:yr.length<=22 * szR r /\ yf<=fr+9 * szR r /\ fr<=yf /\ yp.length=bs.length /\ yst<=22 * szR r:=h1;have h2:=u82 hW hb rs (a:=a+yr.length) (fr:=yf) hr2 hn2 y4
  show WkL bs fr (szR r+szL rs) (yr++(wcL W bs rs (a+yr.length) yp yf).1,_,_,_)
  generalize wcL W bs rs (a+yr.length) yp yf=n at h2 ⊢;obtain ⟨nr,np,nf,nst⟩:=n;obtain ⟨n1,n2,n3,n4,n5⟩:nr.length<=22 * szL rs /\ nf<=yf+9 * szL rs /\ yf<=nf /\ np.length=bs.length /\ nst<=22 * szL rs:=h2;exact ⟨by show (yr++nr).length<=_;rw [List.length_append];omega,by show nf<=_;omega,by show fr<=nf;omega,n4,by show yst+nst<=_;omega⟩
end
end Rw
namespace L2
open PySem PySem.Spec PyProof.Rows
section
variable {X:Cx} {tg:Expr}
theorem up6:CallR X (.type "dict") (fun xs H Q=>∃ a kvs,xs=[.ref a] /\ H a=some (.dK kvs) /\ ∀ p,H p=none->Q (.ref p) (upd H p (.dK kvs))):=by
 intro pins s σ H xs us Q I r h;obtain ⟨a,kvs,rfl,ha,q⟩:=h;obtain ⟨u,rfl,rx⟩:=vals1 r;cases rx;exact vj7 I (.of ha) fun p s' hp I'=>⟨.ref p,_,I',rfl,q p hp⟩
def w95 (td ty:TE):TE:=fun σ H Q=>td σ H fun x H1=>∃ a,x=.ref a /\ IsD H1 a /\ ty σ H1 fun y H2=>∃ b k1 k2,y=.ref b /\ a ≠ b /\ H2 a=some (.dK k1) /\ H2 b=some (.dK k2) /\ k1.length+k2.length<=sizeLine /\ Q .non (upd H2 a (.dK (ui0 k1 k2)))
theorem vz5 {o e:Expr} {apos cpos:Pos} {td ty:TE} (ho:PE X o td) (he:PE X e ty) (m:M1 X o "update" apos e cpos):PE X (.Call (.Attribute o "update" apos) [e] [] cpos) (w95 td ty):=by
 intro pins s σ H Q I h
 (refine wpAny_Call_method m.base m.few m.line PySem.F.plainAttrs_dict PySem.F.slot_dict_update PySem.F.type_dict_update (thn (ho pins s σ H _ I h) ?_);rintro u s1 ⟨x,H1,I1,rx,a,ex,d,q1⟩)
 subst ex;obtain rfl:u=Value.ref a:=rx;obtain ⟨t1,t2,_⟩:=vp3 I1 d;refine ⟨t1,t2,?_⟩;rw [m.trees]
 (refine Calls.callWith_builtin rfl (Calls.evalArgs_plain (Calls.spliced_cons (thn (he pins s1 σ H1 _ I1 q1) ?_)));rintro iv s2 ⟨y,H2,I2,ry,b,k1,k2,ey,hab,ha,hb,hz,q2⟩;refine Calls.spliced_nil ?_)
 subst ey;obtain rfl:iv=Value.ref b:=ry;obtain ⟨z1,hd1,vs1,rel1,dd1⟩:=vj6 I2.hok ha;obtain ⟨z2,hd2,vs2,rel2,dd2⟩:=vj6 I2.hok hb;refine call_meetsIn PySem.F.slot_dict_update dd1.typeIs PySem.F.entry_dict_update (PySem.F.args_dict_update_2 _ _) (meets_dict_update (u33 X.prog X.w) a b hab hd2) ⟨vs1,vs2,dd1,dd2,by rw [<- rel1.length,<- rel2.length];exact hz,fun h' d1 d2 sb=>?_⟩;have he:∃ q,h'.get? a=some q:=let ⟨q,_,_,hq,_⟩:=d1;⟨q,hq⟩;have hl:=ua9 k2 k1;exact ⟨.non,_,ul1 (t':=s2.toks) I2 (by rw [ha];exact True.intro) sb he (v90 (Nat.le_trans hl hz) hd1 (rel2.merge rel1) d1),rfl,q2⟩
def Itd (a:Addr) (o:Obj) (kvs:List (Key × V)):It:=⟨fun i H=>H a=some (.frz o (.dK kvs)) /\ i < kvs.length,fun i H v H'=>H'=H /\ ∃ p,kvs[i]?=some p /\ v=kV p.1,fun i H=>H a=some (.frz o (.dK kvs)) /\ kvs.length<=i⟩
theorem ww3 {P:Program} {w:World} {k:Key} {u:Value} (h:(u33 P w).is k u=true):RelV (kV k) u:=by
 rcases u36 h with ⟨i,t,rfl,rfl⟩ | ⟨x,t,rfl,rfl⟩
 ·exact ⟨t,rfl⟩
 ·exact ⟨t,rfl⟩
theorem vp5 {P:Program} {w:World} {H:Hp} {h:Heap} {a:Addr} {o:Obj} {kvs:List (Key × V)} {es:Array DictEntry} {ep:Nat} (ok:HOk P w H h) (e:H a=some (.frz o (.dK kvs))) (hd:o.data=.dict es ep):(a == sysModules)=false /\ ∃ vs,KV kvs vs /\ h.DictAt (u33 P w) a vs ep:=by
 obtain ⟨ho,z,hs,vs,rel,o',es',ep',ho',hc,hd',hk,hp,hn⟩:=(show ObjOk P w H h a (.frz o (.dK kvs)) from ok a _ e);rw [ho] at ho';cases ho';rw [hd] at hd';cases hd';exact ⟨hs,vs,rel,o,es,ho,hc,hd,hk,hp,hn⟩
theorem v19 {P:Program} {w:World} {K:W.Frag} (it a:Addr) (o:Obj) (kvs:List (Key × V)) {es:Array DictEntry} {ep:Nat} (hd:o.data=.dict es ep):Turn P w K tg (Itd a o kvs) [it] it (fun i h=>h.IsKeyIter it a i kvs.length ep) where
 mem:=by simp
 obj:=fun i h st b hb=>by
  have e:b=it:=by simpa using hb
  subst e;obtain ⟨o,e,c,d⟩:=st;exact ⟨o,e,fun v z=>by rw [d] at z;cases z⟩
 keep:=fun i h h' st k=>let ⟨o,e,r⟩:=st;⟨o,k it (by simp) o e,r⟩
 item:=by
  intro X hP hw hK hc i pins s σ H E I hf st hg;subst hP hw hK;obtain ⟨f0,f1,f2,f3,f4,f5⟩:=hf it (by simp);obtain ⟨hg1,hg2⟩:H a=some (.frz o (.dK kvs)) /\ i < kvs.length:=hg;obtain ⟨_,vs,rel,at_⟩:=vp5 I.hok hg1 hd;have hlv:=rel.length;have hk:=rel.keys;obtain ⟨p,hp⟩:∃ p,vs[i]?=some p:=⟨_,List.getElem?_eq_getElem (by omega)⟩;have hkey:kvs[i]?.map (·.1)=some p.1:=by rw [<- List.getElem?_map,hk,List.getElem?_map,hp];rfl
  obtain ⟨q,hq,hq2⟩:=Option.map_eq_some_iff.mp hkey;rw [hlv] at st;refine wpAny_pyNext_dict_item (k:=p.1) (v:=p.2) st at_ hp fun key h' hkk st' sb=>?_
  have I1:Inv X pins σ H { s with heap:=h' }:=I.turned (t':=s.toks) (fun b o hb e=>(sb.2 b hb).trans e) f0 f1 f3 f4 f5
  obtain ⟨o2,e,cc,d⟩:=id st';exact ⟨_,rfl,vj1 (s:={ s with heap:=h' }) e cc d (by decide) ⟨kV p.1,H,I1,ww3 hkk,⟨rfl,q,hq,by rw [hq2]⟩,by rw [hlv];exact st',fun b hb=>(hf b hb).1⟩⟩
 done:=by
  intro X hP hw hK hc i pins s σ H E I hf st hg;subst hP hw hK;obtain ⟨f0,f1,f2,f3,f4,f5⟩:=hf it (by simp);obtain ⟨hg1,hg2⟩:H a=some (.frz o (.dK kvs)) /\ kvs.length<=i:=hg;obtain ⟨_,vs,rel,at_⟩:=vp5 I.hok hg1 hd;have hlv:=rel.length;rw [hlv] at st;exact wpAny_pyNext_dict_end (I.ok.hd hc) st at_ (List.getElem?_eq_none (by omega)) fun h' eb=>⟨rfl,I.turned (t':=s.toks) (fun b o hb e=>eb b o hb e) f0 f1 f3 f4 f5⟩
 self:=fun _ _ _ _ _ st h=>wpAny_pyIter_keyiter st h
def wn3 (tl:TE):TI:=fun σ H R=>tl σ H fun v H1=>∃ a kvs,v=.ref a /\ H1 a=some (.dK kvs) /\ ∀ o,R (Itd a o kvs) (upd H1 a (.frz o (.dK kvs)))
theorem vf3 {l:Expr} {tl:TE} (hl:PE X l tl):PI X tg l (wn3 tl):=by
 intro pins s σ H R I h
 (refine thn (hl pins s σ H _ I h) ?_;rintro v s1 ⟨y,H1,I1,r1,q1⟩)
 obtain ⟨a,kvs,rfl,ha,q⟩:=q1;obtain rfl:v=Value.ref a:=r1;obtain ⟨z,hd,vs,rel,dd⟩:=vj6 I1.hok ha;obtain ⟨o,es,ep,ho,hc,hdat,hk,hp,hn⟩:=id dd;have I2:Inv X pins σ (upd H1 a (.frz o (.dK kvs))) { s1 with heap:=s1.heap,toks:=s1.toks }:=ul1 I1 (by rw [ha];exact True.intro) (Heap.SameBut.refl _ _) ⟨o,ho⟩ ⟨ho,z,hd,vs,rel,dd⟩
 have fp:∀ b ∈ [s1.heap.objs.size],FpOk X pins (upd H1 a (.frz o (.dK kvs))) b:=fun b hb=>by
  have e:b=s1.heap.objs.size:=by simpa using hb
  subst e;exact I2.fpOk (Nat.le_refl _) (I2.hok.fresh (Nat.le_refl _))
 refine wpAny_pyIter_dict hd (kvs:=vs) (ep:=ep) ⟨o,es,ho,hc,hdat,hk,hp,hn⟩ ?_;refine ⟨s1.heap.objs.size,[s1.heap.objs.size],_,_,_,rfl,I2.kept (t':=s1.toks) fun b o e=>Heap.get?_push_of_some _ e,v19 (s1.heap.objs.size) a o kvs hdat,?_,fp,q o⟩;rw [rel.length];exact ⟨_,Heap.get?_push_size _ rfl,rfl,rfl⟩
end
end L2
namespace L3
open PySem PySem.Spec PyProof.Rows L2
section
variable {X:Cx} {K:W.Frag} {G:Gp} {H:Hp} {tg e:Expr} {te:TE3}
@[reducible] def vq9:C3:=fun ds G q=>∃ a kvs,ds=[.ref a] /\ G a=some (.dic kvs) /\ ∀ p,G p=none->q (.ref p) (gup G p (.dic kvs))
theorem ut3:Call3 X (.type "dict") vq9:=u54 up6 <| by
 rintro xs H Q ⟨ds,G,q,r,c,⟨a,kvs,rfl,ha,t⟩,f⟩;obtain ⟨v,rfl,rv⟩:=r.one;cases rv.ref_inv;obtain ⟨ys,e,rp⟩:=c a _ ha;exact ⟨a,ys,rfl,e,fun p hp=>f (.ref p) _ (.ref p) _ RelD.refI (c.put (o:=.dic kvs) (Le.fresh hp) ⟨_,u24,rp.le (Le.fresh hp)⟩) (Le.fresh hp) (t p (c.fresh hp))⟩
def ui1 (kvs more:List (Key × D)):List (Key × D):=more.foldl (fun acc kv=>ua7 acc kv.1 kv.2) kvs
theorem uo2:∀ {more:List (Key × D)} {ms:List (Key × V)} {kvs:List (Key × D)} {ys:List (Key × V)},RelPs K H more ms->RelPs K H kvs ys->RelPs K H (ui1 kvs more) (ui0 ys ms)
 | [],ms,kvs,ys,h,k=>by
  have:ms=[]:=by have:=congrArg List.length h.1;simpa using this.symm
  subst this;exact k
 | p::more,[],kvs,ys,h,k=>by have:=congrArg List.length h.1;simp at this
 | p::more,m::ms,kvs,ys,h,k=>by
  obtain ⟨h1,h2⟩:=h;rw [List.map_cons,List.map_cons] at h1 h2;obtain ⟨v,vs,e,r1,r2⟩:=h2.inv_cons;injection e with e1 e2
  injection h1 with h3 h4
  have kk:RelPs K H (ua7 kvs p.1 p.2) (putK ys m.1 m.2):=by rw [<- h3];exact uj9 (by rw [e1];exact r1) k
  exact uo2 (more:=more) (ms:=ms) ⟨h4,by rw [e2];exact r2⟩ kk
def dUpd (td ty:TE3):TE3:=fun σ G q=>td σ G fun x G1=>(∃ a kvs,x=.ref a /\ G1 a=some (.dic kvs)) /\ ty σ G1 fun y G2=>∃ a b k1 k2,x=.ref a /\ y=.ref b /\ a ≠ b /\ G2 a=some (.dic k1) /\ G2 b=some (.dic k2) /\ k1.length+k2.length<=sizeLine /\ q .non (gup G2 a (.dic (ui1 k1 k2)))
theorem v39 {κ:Type} {kvs:List (κ × D)} {ys:List (κ × V)} (rp:RelPs K H kvs ys):ys.length=kvs.length:=by
 have:=congrArg List.length rp.1;rw [List.length_map,List.length_map] at this;exact this.symm
theorem w07 {td ty:TE3} {σ:L2.St} {Q:VK} (h:lowE K (dUpd td ty) σ H Q):w95 (lowE K td) (lowE K ty) σ H Q:=by
 obtain ⟨σd,G,q,rs,c,t,f⟩:=h;refine ⟨σd,G,_,rs,c,t,fun x G1 v H1 r1 c1 l1 t1=>?_⟩;obtain ⟨⟨a,kvs,rfl,ha⟩,t1⟩:=t1;obtain ⟨ys,e,rp⟩:=c1 a _ ha;refine ⟨a,r1.ref_inv,.inl ⟨ys,.of e⟩,σd,G1,_,rs.le l1,c1,t1,fun y G2 u H2 r2 c2 l2 t2=>?_⟩;obtain ⟨a',b,k1,k2,e1,rfl,hab,h1,h2,hz,t3⟩:=t2;cases e1;cases r2.ref_inv;obtain ⟨y1,e1,p1⟩:=c2 a _ h1;obtain ⟨y2,e2,p2⟩:=c2 b _ h2;have l3:Le H2 (upd H2 a (.dK (ui0 y1 y2))):=Le.dK e1;exact ⟨b,y1,y2,rfl,hab,e1,e2,by rw [v39 p1,v39 p2];exact hz,f _ _ _ _ RelD.nonI (c2.put (o:=.dic (ui1 k1 k2)) l3 ⟨_,u24,(uo2 p2 p1).le l3⟩) (l1.trans (l2.trans l3)) t3⟩
theorem ww7 {o:Expr} {apos cpos:Pos} {to:TE3} (ho:E3 X o to) (he:E3 X e te) (hbase:attributeBase o "update" X.env (eval o X.env)=eval o X.env:=by rfl)
  (hfew:((backTo cpos (starEach [e] X.env)).all (fun x=>!x.1) && (backToKw cpos (keywordEach [] X.env)).all (fun x=>x.1.isSome)
   && decide (([e]:List Expr).length+([]:List Keyword).length+(if ([]:List Keyword).isEmpty then 0 else 1) < 30))=true:=by rfl)
  (hline:(apos.endLine == cpos.line)=true:=by rfl) (htr:starEach [e] X.env=[(false,eval e X.env)]:=by rfl):E3 X (.Call (.Attribute o "update" apos) [e] [] cpos) (dUpd to te) :=
 u43 (vz5 ho he ⟨hbase,hfew,hline,by rw [htr];rfl⟩) fun _ _ _=>w07
theorem Le.frz {a:Addr} {o:Obj} {ys:List (Key × V)} (h:H a=some (.dK ys)):Le H (upd H a (.frz o (.dK ys))) :=
 ⟨fun b zs q=>by
  by_cases e:b=a
  ·subst e;rw [h] at q;cases q
  ·rw [u18 e];exact q,fun b o u q=>by
  by_cases e:b=a
  ·subst e;rw [h] at q;cases q
  ·rw [u18 e];exact q⟩
theorem uz8 {H0:Hp} {a:Addr} {o:Obj} {kvs:List (Key × D)} {ys:List (Key × V)} (h0:H0 a=some (.frz o (.dK ys))) (hk:kvs.map (·.1)=ys.map (·.1)):ItRel K H0 ⟨kvs.map fun kv=>kD kv.1,fun G=>G a=some (.frd kvs)⟩ (Itd a o ys) where
 go:=fun i G H l c _ hi=>by
  have hi:i < (kvs.map fun kv=>kD kv.1).length:=hi;have hl:=congrArg List.length hk;rw [List.length_map,List.length_map] at hl;rw [List.length_map] at hi;exact ⟨l.frzs _ _ _ h0,by omega⟩
 stop:=fun i G H l c _ hi=>by
  have hi:(kvs.map fun kv=>kD kv.1).length<=i:=hi;have hl:=congrArg List.length hk;rw [List.length_map,List.length_map] at hl;rw [List.length_map] at hi;exact ⟨l.frzs _ _ _ h0,by omega⟩
 yld:=fun i G H v H' l c _ hi y=>by
  obtain ⟨rfl,p,hp,rfl⟩:=y;refine ⟨c,Le.refl _,kD p.1,?_,?_⟩
  ·show (kvs.map fun kv=>kD kv.1)[i]?=_
   have e:(kvs.map (·.1))[i]?=some p.1:=by rw [hk,List.getElem?_map,hp];rfl
   rw [List.getElem?_map] at e ⊢;obtain ⟨w,hw,hw2⟩:=Option.map_eq_some_iff.mp e;rw [hw];show some (kD w.1)=_;rw [hw2]
  ·cases p.1 with
   | inl i=>show RelD K _ (.int i) (.int i);rw [RelD]
   | inr x=>show RelD K _ (.str x) (.str x);rw [RelD]
def vl7 (te:TE3):TI3:=fun σ G r=>te σ G fun d G1=>∃ a kvs,d=.ref a /\ G1 a=some (.dic kvs) /\ r ⟨kvs.map fun kv=>kD kv.1,fun G=>G a=some (.frd kvs)⟩ (gup G1 a (.frd kvs))
theorem w26 (h:E3 X e te):I3 X tg e (vl7 te):=v13 (vf3 h) fun σ H R hh=>by
 obtain ⟨σd,G,q,rs,c,t,f⟩:=hh;refine ⟨σd,G,_,rs,c,t,fun d G1 v H1 r1 c1 l1 t1=>?_⟩;obtain ⟨a,kvs,rfl,ha,t2⟩:=t1;obtain ⟨ys,e,rp⟩:=c1 a _ ha;refine ⟨a,ys,r1.ref_inv,e,fun o=>f _ _ _ _ (uz8 u24 rp.1) (c1.put (o:=.frd kvs) (Le.frz e) ⟨o,ys,u24,rp.le (Le.frz e)⟩) (l1.trans (Le.frz e)) t2⟩
def vj8 (td ti:TE3):TE3:=fun σ G q=>td σ G fun x G1=>ti σ G1 fun y G2=>∃ a kvs k d,x=.ref a /\ y=kD k /\ G2 a=some (.frd kvs) /\ valK kvs k=some d /\ q d G2
theorem vh8 {td ti:TE3} {σ:L2.St} {Q:VK} (h:lowE K (vj8 td ti) σ H Q):vs3 (lowE K td) (lowE K ti) σ H Q:=by
 obtain ⟨σd,G,q,rs,c,t,f⟩:=h;refine ⟨σd,G,_,rs,c,t,fun x G1 v H1 r1 c1 l1 t1=>⟨σd,G1,_,rs.le l1,c1,t1,fun y G2 u H2 r2 c2 l2 t2=>?_⟩⟩;obtain ⟨a,kvs,k,d,rfl,rfl,hg,hv,t3⟩:=t2;have r1':=RelD.le l2 r1;cases r1'.ref_inv;obtain rfl:=uw3 r2;obtain ⟨o,ys,e,rp⟩:=c2 a _ hg
 rcases ud3 (k:=k) rp with ⟨z,_⟩ | ⟨d',w,z1,z2,z3⟩
 ·rw [hv] at z;cases z
 ·rw [hv] at z1;cases z1
  exact ⟨a,w,rfl,.inl ⟨ys,k,.inr ⟨o,e⟩,rfl,z2.symm⟩,f _ _ _ _ z3 c2 (l1.trans l2) t3⟩
theorem v85 {k:Nat} {o i:Expr} {pos:Pos} {to ti:TE3} (hr:Room k X.A) (ho:E3 X o to) (hi:E3 X i ti) (hs:NoSl i:=by exact fun _ _=>rfl):E3 X (.Subscript o i pos) (vj8 to ti) :=
 u43 (v47 (vi8 hr) ho hi hs) fun _ _ _=>vh8
end
section
variable {X:Cx}
theorem vp4 {i:Int}:∀ ws:List Str,inV (V.int i) (ws.map V.str)=false
 | []=>rfl
 | w::ws=>by
  show (false || inV (V.int i) (ws.map V.str))=false
  rw [vp4 ws];rfl
def atIn (ws:List Str):Atm->Bool
 | .num _=>false
 | .box w=>decide (w ∈ ws)
@[reducible] def xInA:R3:=fun x y G q=>∃ (a:Atm) (ws:List Str),x=aD a /\ y=.tup (ws.map .str) /\ q (.bl (atIn ws a)) G
theorem v24:∀ ws:List Str,strsOf (ws.map D.str)=some ws
 | []=>rfl
 | w::ws=>by show (strsOf (ws.map D.str)).map (w::·)=_;rw [v24 ws];rfl
theorem wt5:Op3 X (compareOp .In) xInA:=u78 un9 fun x y H Q ⟨d,e,G,q,r1,r2,c,t,f⟩=>by
 obtain ⟨a,ws,rfl,rfl,t⟩:=t;obtain ⟨p,xs,rfl,s1,q1⟩:=r2.tup_inv;obtain rfl:=u90 (v24 ws) q1;cases a with
 | num i =>
  have r1:RelD _ _ (.int (i:Int)) x:=r1;cases r1.int_inv;exact ⟨p,_,rfl,.inr s1,rfl,u89 ws,f _ _ _ _ (by rw [vp4];exact RelD.blI) c (Le.refl H) t⟩
 | box w =>
  have r1:RelD _ _ (.str w) x:=r1;cases r1.str_inv;exact ⟨p,_,rfl,.inr s1,rfl,u89 ws,f _ _ _ _ (by rw [ur7];exact RelD.blI) c (Le.refl H) t⟩
end
end L3
namespace Law
open PySem L2 L3
def top (i:Nat):Stmt:=PySem.Challenge.pw_nolitter_k23_sides_as_long.main.body.getD i (.Pass ⟨0,0,0,0⟩)
abbrev vx2:Stmt:=inClass (top 3) 0
abbrev vx3:Stmt:=inClass (top 3) 1
abbrev vx1:Stmt:=inClass (top 3) 2
abbrev vx0:Stmt:=inClass (top 3) 3
abbrev vw9:Stmt:=inClass (top 3) 4
abbrev vd4:Stmt:=top 4
abbrev vt4:Stmt:=top 5
abbrev uy3:Stmt:=top 6
abbrev vu1:Stmt:=top 7
abbrev vt3:Stmt:=top 8
abbrev vt7:Stmt:=top 9
abbrev vv8:Stmt:=top 10
abbrev vx4:Stmt:=top 11
abbrev ve1:Stmt:=top 12
abbrev vw2:Stmt:=top 13
abbrev vw1:Stmt:=top 14
abbrev vt8:Stmt:=top 15
abbrev vt9:Stmt:=top 16
abbrev vw3:Stmt:=top 17
abbrev vt6:Stmt:=top 18
abbrev vv9:Stmt:=top 25
abbrev ve0:Stmt:=top 26
abbrev ve2:Stmt:=top 27
abbrev vu3:Stmt:=top 28
abbrev uy4:Stmt:=top 29
abbrev vv5:Stmt:=top 30
abbrev vv7:Stmt:=top 31
abbrev uy5:Stmt:=inClass (top 33) 0
abbrev vw4:Stmt:=inClass (top 33) 1
abbrev vw7:Stmt:=inClass (top 33) 2
abbrev vw6:Stmt:=inClass (top 33) 3
abbrev vw8:Stmt:=inClass (top 33) 5
abbrev vw5:Stmt:=inClass (top 33) 7
abbrev vv6:Stmt:=top 34
abbrev vw0:Stmt:=top 35
abbrev vu2:Stmt:=top 36
abbrev vt5:Stmt:=top 37
abbrev vu0:Stmt:=top 38
abbrev vt2:Stmt:=top 39
abbrev vv1:Stmt:=top 41
abbrev v32:Stmt:=top 42
abbrev vu9:Stmt:=top 43
abbrev vv4:Stmt:=top 44
abbrev vu7:Stmt:=top 45
abbrev vu4:Stmt:=top 46
abbrev vu6:Stmt:=top 47
abbrev vd7:Stmt:=top 48
abbrev vv3:Stmt:=top 49
abbrev vd8:Stmt:=top 50
abbrev vd5:Stmt:=top 51
abbrev vu8:Stmt:=top 53
abbrev vv0:Stmt:=top 54
abbrev vd9:Stmt:=top 55
abbrev vd6:Stmt:=top 56
abbrev vv2:Stmt:=top 57
abbrev vu5:Stmt:=top 58
abbrev vt1:Stmt:=top 59
local macro_rules | `(tactic| ac_nf)=>`(tactic| exact ⟨rfl,rfl,rfl,by decide,rfl,by decide,by decide⟩)
theorem vo3:FnScope ["self", "wide", "fresh"] ["self", "wide", "fresh"] (u04 vx2):=by ac_nf
theorem vo4:FnScope ["self"] ["self"] (u04 vx3):=by ac_nf
theorem vo2:FnScope ["self", "rows"] ["self", "rows"] (u04 vx1):=by ac_nf
theorem vo1:FnScope ["self", "chosen", "yes", "no"] ["self", "chosen", "yes", "no"] (u04 vx0):=by ac_nf
theorem sc_jae:FnScope ["self", "box", "number", "rows", "start"] ["self", "box", "number", "rows"] (u04 vw9):=by ac_nf
theorem sc_jcf:FnScope ["pieces", "boxes", "wide", "places", "fresh", "loom", "where"] ["pieces", "boxes", "wide", "places", "fresh"] (u04 vd4):=by ac_nf
theorem sc_jci:FnScope ["rows", "where", "loom", "row", "first", "second"] ["rows", "where", "loom"] (u04 vt4):=by ac_nf
theorem sc_jcg:FnScope ["row", "where", "loom", "yes", "no", "chosen", "unlike", "name"] ["row", "where", "loom"] (u04 uy3):=by ac_nf
theorem sc_jbw:FnScope ["atom", "where", "loom", "box"] ["atom", "where", "loom"] (u04 vu1):=by ac_nf
theorem vm5:FnScope ["sign", "first", "second", "loom"] ["sign", "first", "second", "loom"] (u04 vt3):=by ac_nf
theorem sc_jcc:FnScope ["first", "second", "loom", "box", "over"] ["first", "second", "loom"] (u04 vt7):=by ac_nf
theorem sc_jat:FnScope ["first", "second", "loom", "box", "over"] ["first", "second", "loom"] (u04 vv8):=by ac_nf
theorem sc_gap:FnScope ["first", "second", "loom", "box"] ["first", "second", "loom"] (u04 vx4):=by ac_nf
theorem sc_jao:FnScope ["first", "second", "loom", "box"] ["first", "second", "loom"] (u04 ve1):=by ac_nf
theorem vn6:FnScope ["first", "second", "loom"] ["first", "second", "loom"] (u04 vw2):=by ac_nf
theorem vn5:FnScope ["first", "second", "loom"] ["first", "second", "loom"] (u04 vw1):=by ac_nf
theorem sc_jcb:FnScope ["first", "second", "count", "loom", "both", "box"] ["first", "second", "count", "loom"] (u04 vt8):=by ac_nf
theorem sc_jca:FnScope ["first", "second", "loom", "apart", "box"] ["first", "second", "loom"] (u04 vt9):=by ac_nf
theorem sc_jal:FnScope ["first", "second", "loom", "apart", "other_way", "box"] ["first", "second", "loom"] (u04 vw3):=by ac_nf
theorem sc_jcd:FnScope ["asked", "loom", "below", "box"] ["asked", "loom"] (u04 vt6):=by ac_nf
theorem sc_jas:FnScope ["code", "at", "row"] ["code"] (u04 vv9):=by ac_nf
theorem vn4:FnScope ["row"] ["row"] (u04 ve0):=by ac_nf
theorem vn7:FnScope ["row"] ["row"] (u04 ve2):=by ac_nf
theorem vm7:FnScope ["row"] ["row"] (u04 vu3):=by ac_nf
theorem vn1:FnScope ["row", "size"] ["row", "size"] (u04 uy4):=by ac_nf
theorem vn2:FnScope ["row"] ["row"] (u04 vv5):=by ac_nf
theorem sc_jav:FnScope ["row", "at", "rows", "fellow"] ["row", "at", "rows"] (u04 vv7):=by ac_nf
theorem wa2:FnScope ["self", "code", "boxes", "place"] ["self", "code", "boxes", "place"] (u04 uy5):=by ac_nf
theorem vn8:FnScope ["self"] ["self"] (u04 vw4):=by ac_nf
theorem vn9:FnScope ["self"] ["self"] (u04 vw7):=by ac_nf
theorem sc_jah:FnScope ["self", "row"] ["self"] (u04 vw6):=by ac_nf
theorem vo0:FnScope ["self"] ["self"] (u04 vw8):=by ac_nf
theorem sc_jaj:FnScope ["self", "row"] ["self"] (u04 vw5):=by ac_nf
theorem vn3:FnScope ["row", "held"] ["row", "held"] (u04 vv6):=by ac_nf
theorem sc_jar:FnScope ["row", "held", "way", "first"] ["row", "held", "way"] (u04 vw0):=by ac_nf
theorem vm6:FnScope ["operand", "held"] ["operand", "held"] (u04 vu2):=by ac_nf
theorem sc_jce:FnScope ["row", "held", "cond"] ["row", "held"] (u04 vt5):=by ac_nf
theorem sc_jbz:FnScope ["code", "boxes", "most", "ride", "steps", "word"] ["code", "boxes", "most"] (u04 vu0):=by ac_nf
theorem vm4:FnScope ["there", "there_word", "may_go_on"] ["there", "there_word", "may_go_on"] (u04 vt2):=by ac_nf
theorem sc_jbe:FnScope ["_law_state", "_law_many", "_law_script", "_law_k", "_law_rest", "_law_cell", "_law_number_here", "_law_digit"] ["_law_state", "_law_many"] (u04 vv1):=by ac_nf
theorem sc_jbh:FnScope ["_law_state", "_law_many", "_law_letters", "_law_names_here", "_law_k", "_law_name", "_law_begin", "_law_j", "_law_words", "_law_first"] ["_law_state", "_law_many"] (u04 v32):=by ac_nf
theorem sc_jbi:FnScope ["_law_state", "_law_wide", "_law_form"] ["_law_state", "_law_wide"] (u04 vu9):=by ac_nf
theorem vn0:FnScope ["_law_state", "_law_names_here", "_law_wide"] ["_law_state", "_law_names_here", "_law_wide"] (u04 vv4):=by ac_nf
theorem sc_jbk:FnScope ["_law_state", "_law_names_here", "_law_wide", "_law_deep", "_law_room", "_law_form", "_law_x", "_law_one", "_law_sign", "_law_left", "_law_much", "_law_yes"] ["_law_state", "_law_names_here", "_law_wide", "_law_deep", "_law_room"] (u04 vu7):=by ac_nf
theorem sc_jbs:FnScope ["_law_rows", "_law_total", "_law_row"] ["_law_rows"] (u04 vu4):=by ac_nf
theorem sc_jbm:FnScope ["_law_state", "_law_names_here", "_law_wide", "_law_deep", "_law_room", "_law_rows", "_law_k", "_law_left"] ["_law_state", "_law_names_here", "_law_wide", "_law_deep", "_law_room"] (u04 vu6):=by ac_nf
theorem sc_jbo:FnScope ["_law_state", "_law_many", "_law_fresh", "_law_left"] ["_law_state", "_law_many"] (u04 vd7):=by ac_nf
theorem vm9:FnScope ["_law_state"] ["_law_state"] (u04 vv3):=by ac_nf
theorem sc_jbc:FnScope ["_law_state", "_law_places_here", "_law_values_here", "_law_fresh", "_law_boxes_here", "_law_spot", "_law_value"] ["_law_state", "_law_places_here", "_law_values_here", "_law_fresh"] (u04 vd8):=by ac_nf
theorem vm8:FnScope ["_law_state", "_law_names_here", "_law_wide"] ["_law_state", "_law_names_here", "_law_wide"] (u04 vd5):=by ac_nf
theorem sc_jbj:FnScope ["_law_sign", "_law_one", "_law_other", "_law_wide", "_law_top"] ["_law_sign", "_law_one", "_law_other", "_law_wide"] (u04 vu8):=by ac_nf
theorem sc_jbf:FnScope ["_law_rows", "_law_held", "_law_wide", "_law_row", "_law_k"] ["_law_rows", "_law_held", "_law_wide"] (u04 vv0):=by ac_nf
theorem sc_jba:FnScope ["_law_rows", "_law_names_here", "_law_wide", "_law_values_here", "_law_held"] ["_law_rows", "_law_names_here", "_law_wide", "_law_values_here"] (u04 vd9):=by ac_nf
theorem sc_jbq:FnScope ["_law_told", "_law_boxes_here", "_law_places_here", "_law_fresh", "_law_due", "_law_rows", "_law_spots", "_law_after", "_law_wanted", "_law_word", "_law_place", "_law_found", "_law_many"] ["_law_told", "_law_boxes_here", "_law_places_here", "_law_fresh", "_law_due"] (u04 vd6):=by ac_nf
theorem sc_jbd:FnScope ["_law_state", "_law_names_here", "_law_wide", "_law_one", "_law_yes"] ["_law_state", "_law_names_here", "_law_wide"] (u04 vv2):=by ac_nf
theorem sc_jbp:FnScope ["_law_state", "_law_names_here", "_law_wide", "_law_piece_here", "_law_places_here", "_law_fresh", "_law_told", "_law_k", "_law_values_here", "_law_boxes_here"] ["_law_state", "_law_names_here", "_law_wide", "_law_piece_here"] (u04 vu5):=by ac_nf
theorem sc_law:FnScope ["_law_script", "_law_state", "_law_wide", "_law_names_here", "_law_k"] ["_law_script"] (u04 vt1):=by ac_nf
set_option genInjectivity false in
set_option genSizeOf false in
structure C_Loom (K:W.Frag) (mg:Str->Option Value) where
 C:Addr
 cl:Cls K C
 m:mg "Loom" = some (.ref C)
 n_wide:NoAttr K C "wide"
 n_fresh:NoAttr K C "fresh"
 n_rows:NoAttr K C "rows"
 n_steps:NoAttr K C "steps"
set_option genInjectivity false in
set_option genSizeOf false in
structure C_Ride (K:W.Frag) (mg:Str->Option Value) where
 C:Addr
 cl:Cls K C
 m:mg "Ride" = some (.ref C)
 n_rows:NoAttr K C "rows"
 n_held:NoAttr K C "held"
 n_spot:NoAttr K C "spot"
set_option genInjectivity false in
set_option genSizeOf false in
structure Txt (K:W.Frag) (mg:Str->Option Value) where
 f_jab:FnAt K "__init__" "Loom.__init__" vx2 ["self", "wide", "fresh"]
 f_jaa:FnAt K "fresh_box" "Loom.fresh_box" vx3 ["self"]
 f_jac:FnAt K "put" "Loom.put" vx1 ["self", "rows"]
 f_jad:FnAt K "put_by_choice" "Loom.put_by_choice" vx0 ["self", "chosen", "yes", "no"]
 f_jae:FnAt K "put_unless" "Loom.put_unless" vw9 ["self", "box", "number", "rows"]
 f_jcf:FnAt K "weave" "weave" vd4 ["pieces", "boxes", "wide", "places", "fresh"]
 g_weave:mg "weave" = some (.ref f_jcf.a)
 f_jci:FnAt K "weave_rows" "weave_rows" vt4 ["rows", "where", "loom"]
 g_weave_rows:mg "weave_rows" = some (.ref f_jci.a)
 f_jcg:FnAt K "weave_choose" "weave_choose" uy3 ["row", "where", "loom"]
 g_weave_choose:mg "weave_choose" = some (.ref f_jcg.a)
 f_jbw:FnAt K "place_of" "place_of" vu1 ["atom", "where", "loom"]
 g_place_of:mg "place_of" = some (.ref f_jbw.a)
 f_jck:FnAt K "weave_sign" "weave_sign" vt3 ["sign", "first", "second", "loom"]
 g_weave_sign:mg "weave_sign" = some (.ref f_jck.a)
 f_jcc:FnAt K "total" "total" vt7 ["first", "second", "loom"]
 g_total:mg "total" = some (.ref f_jcc.a)
 f_jat:FnAt K "difference" "difference" vv8 ["first", "second", "loom"]
 g_difference:mg "difference" = some (.ref f_jat.a)
 f_gap:FnAt K "gap" "gap" vx4 ["first", "second", "loom"]
 g_gap:mg "gap" = some (.ref f_gap.a)
 f_jao:FnAt K "bits_of_both" "bits_of_both" ve1 ["first", "second", "loom"]
 g_bits_of_both:mg "bits_of_both" = some (.ref f_jao.a)
 f_jan:FnAt K "bits_of_any" "bits_of_any" vw2 ["first", "second", "loom"]
 g_bits_of_any:mg "bits_of_any" = some (.ref f_jan.a)
 f_jap:FnAt K "bits_of_one" "bits_of_one" vw1 ["first", "second", "loom"]
 g_bits_of_one:mg "bits_of_one" = some (.ref f_jap.a)
 f_jcb:FnAt K "sum_without_both" "sum_without_both" vt8 ["first", "second", "count", "loom"]
 g_sum_without_both:mg "sum_without_both" = some (.ref f_jcb.a)
 f_jca:FnAt K "smaller" "smaller" vt9 ["first", "second", "loom"]
 g_smaller:mg "smaller" = some (.ref f_jca.a)
 f_jal:FnAt K "alike" "alike" vw3 ["first", "second", "loom"]
 g_alike:mg "alike" = some (.ref f_jal.a)
 f_jcd:FnAt K "truth" "truth" vt6 ["asked", "loom"]
 g_truth:mg "truth" = some (.ref f_jcd.a)
 f_jas:FnAt K "check_code" "check_code" vv9 ["code"]
 g_check_code:mg "check_code" = some (.ref f_jas.a)
 f_jaq:FnAt K "boxes_read" "boxes_read" ve0 ["row"]
 g_boxes_read:mg "boxes_read" = some (.ref f_jaq.a)
 f_jam:FnAt K "bits_of" "bits_of" ve2 ["row"]
 g_bits_of:mg "bits_of" = some (.ref f_jam.a)
 f_jbu:FnAt K "numbers_of" "numbers_of" vu3 ["row"]
 g_numbers_of:mg "numbers_of" = some (.ref f_jbu.a)
 f_jay:FnAt K "is_within" "is_within" uy4 ["row", "size"]
 g_is_within:mg "is_within" = some (.ref f_jay.a)
 f_jax:FnAt K "is_apart" "is_apart" vv5 ["row"]
 g_is_apart:mg "is_apart" = some (.ref f_jax.a)
 f_jav:FnAt K "has_fellow" "has_fellow" vv7 ["row", "at", "rows"]
 g_has_fellow:mg "has_fellow" = some (.ref f_jav.a)
 f_jai:FnAt K "__init__" "Ride.__init__" uy5 ["self", "code", "boxes", "place"]
 f_jak:FnAt K "place" "Ride.place" vw4 ["self"]
 f_jag:FnAt K "boxes" "Ride.boxes" vw7 ["self"]
 f_jah:FnAt K "forth" "Ride.forth" vw6 ["self"]
 f_jaf:FnAt K "at_end" "Ride.at_end" vw8 ["self"]
 f_jaj:FnAt K "may_forth" "Ride.may_forth" vw5 ["self"]
 f_jaw:FnAt K "holds" "holds" vv6 ["row", "held"]
 g_holds:mg "holds" = some (.ref f_jaw.a)
 f_jar:FnAt K "change" "change" vw0 ["row", "held", "way"]
 g_change:mg "change" = some (.ref f_jar.a)
 f_jbv:FnAt K "operand_value" "operand_value" vu2 ["operand", "held"]
 g_operand_value:mg "operand_value" = some (.ref f_jbv.a)
 f_jce:FnAt K "turn_bit" "turn_bit" vt5 ["row", "held"]
 g_turn_bit:mg "turn_bit" = some (.ref f_jce.a)
 f_jbz:FnAt K "run_forth" "run_forth" vu0 ["code", "boxes", "most"]
 g_run_forth:mg "run_forth" = some (.ref f_jbz.a)
 f_jcl:FnAt K "word_of" "word_of" vt2 ["there", "there_word", "may_go_on"]
 g_word_of:mg "word_of" = some (.ref f_jcl.a)
 f_jbe:FnAt K "_law_draw" "_law_draw" vv1 ["_law_state", "_law_many"]
 g_law_draw:mg "_law_draw" = some (.ref f_jbe.a)
 f_jbh:FnAt K "_law_names" "_law_names" v32 ["_law_state", "_law_many"]
 g_law_names:mg "_law_names" = some (.ref f_jbh.a)
 f_jbi:FnAt K "_law_number" "_law_number" vu9 ["_law_state", "_law_wide"]
 g_law_number:mg "_law_number" = some (.ref f_jbi.a)
 f_jaz:FnAt K "_law_atom" "_law_atom" vv4 ["_law_state", "_law_names_here", "_law_wide"]
 g_law_atom:mg "_law_atom" = some (.ref f_jaz.a)
 f_jbk:FnAt K "_law_piece" "_law_piece" vu7 ["_law_state", "_law_names_here", "_law_wide", "_law_deep", "_law_room"]
 g_law_piece:mg "_law_piece" = some (.ref f_jbk.a)
 f_jbs:FnAt K "_law_weight" "_law_weight" vu4 ["_law_rows"]
 g_law_weight:mg "_law_weight" = some (.ref f_jbs.a)
 f_jbm:FnAt K "_law_pieces" "_law_pieces" vu6 ["_law_state", "_law_names_here", "_law_wide", "_law_deep", "_law_room"]
 g_law_pieces:mg "_law_pieces" = some (.ref f_jbm.a)
 f_jbo:FnAt K "_law_places" "_law_places" vd7 ["_law_state", "_law_many"]
 g_law_places:mg "_law_places" = some (.ref f_jbo.a)
 f_jbb:FnAt K "_law_big" "_law_big" vv3 ["_law_state"]
 g_law_big:mg "_law_big" = some (.ref f_jbb.a)
 f_jbc:FnAt K "_law_boxes" "_law_boxes" vd8 ["_law_state", "_law_places_here", "_law_values_here", "_law_fresh"]
 g_law_boxes:mg "_law_boxes" = some (.ref f_jbc.a)
 f_jbr:FnAt K "_law_values" "_law_values" vd5 ["_law_state", "_law_names_here", "_law_wide"]
 g_law_values:mg "_law_values" = some (.ref f_jbr.a)
 f_jbj:FnAt K "_law_op" "_law_op" vu8 ["_law_sign", "_law_one", "_law_other", "_law_wide"]
 g_law_op:mg "_law_op" = some (.ref f_jbj.a)
 f_jbf:FnAt K "_law_go" "_law_go" vv0 ["_law_rows", "_law_held", "_law_wide"]
 g_law_go:mg "_law_go" = some (.ref f_jbf.a)
 f_jba:FnAt K "_law_behind" "_law_behind" vd9 ["_law_rows", "_law_names_here", "_law_wide", "_law_values_here"]
 g_law_behind:mg "_law_behind" = some (.ref f_jba.a)
 f_jbq:FnAt K "_law_run" "_law_run" vd6 ["_law_told", "_law_boxes_here", "_law_places_here", "_law_fresh", "_law_due"]
 g_law_run:mg "_law_run" = some (.ref f_jbq.a)
 f_jbd:FnAt K "_law_choose" "_law_choose" vv2 ["_law_state", "_law_names_here", "_law_wide"]
 g_law_choose:mg "_law_choose" = some (.ref f_jbd.a)
 f_jbp:FnAt K "_law_right" "_law_right" vu5 ["_law_state", "_law_names_here", "_law_wide", "_law_piece_here"]
 g_law_right:mg "_law_right" = some (.ref f_jbp.a)
 f_law:FnAt K "law" "law" vt1 ["_law_script"]
 g_law:mg "law" = some (.ref f_law.a)
 c_Loom:C_Loom K mg
 c_Ride:C_Ride K mg
 mk_Loom:Mk K c_Loom.C f_jab.a
 m_jaa:Meth K c_Loom.C "fresh_box" f_jaa.a
 m_jac:Meth K c_Loom.C "put" f_jac.a
 m_jad:Meth K c_Loom.C "put_by_choice" f_jad.a
 m_jae:Meth K c_Loom.C "put_unless" f_jae.a
 mk_Ride:Mk K c_Ride.C f_jai.a
 d_jai:∃ t,Binds K f_jai.fd ["self", "code", "boxes", "place"] [.int 0 t]
 m_jak:Meth K c_Ride.C "place" f_jak.a
 m_jag:Meth K c_Ride.C "boxes" f_jag.a
 m_jah:Meth K c_Ride.C "forth" f_jah.a
 m_jaf:Meth K c_Ride.C "at_end" f_jaf.a
 m_jaj:Meth K c_Ride.C "may_forth" f_jaj.a
 k_BELOW_NOUGHT:∃ t,mg "BELOW_NOUGHT" = some (.int 31 t)
 k_NUMBERS:∃ t,mg "NUMBERS" = some (.int 4294967296 t)
 k_BITS:∃ t,mg "BITS" = some (.int 32 t)
 b_abs:mg "abs" = none
 b_all:mg "all" = none
 b_dict:mg "dict" = none
 b_divmod:mg "divmod" = none
 b_enumerate:mg "enumerate" = none
 b_int:mg "int" = none
 b_isinstance:mg "isinstance" = none
 b_len:mg "len" = none
 b_list:mg "list" = none
 b_min:mg "min" = none
 b_range:mg "range" = none
 b_str:mg "str" = none
 b_tuple:mg "tuple" = none
 b_zip:mg "zip" = none
end Law
namespace Law
open PySem L2 L3 Rw
section
variable {P:Program} {w:World} {K:W.Frag} {mg:Str->Option Value} {base:Heap} (T:Txt K mg)
def uc7 (_:Txt K mg):Sp3:=spec (fun ds G=>∃ (st:Addr) (m:Int),ds=[.ref st,.int m] /\ StAt G st /\ 0 < m /\ m < 1073741824)
 (fun ds G d G'=>∃ (st:Addr) (m v:Int),ds=[.ref st,.int m] /\ Adv st G G' /\ d=.int v /\ 0<=v /\ v < m)
def w61 (_:Txt K mg):Sp3:=fun ds G R=>∃ (row:Row) (a x:Nat) (bs:List Int) (n:Int) (k:Nat),ds=[row.d,.ref a] /\ (row=.go x n k \/ row=.come x n k) /\ G a=some (.lst (bs.map .int)) /\ x < bs.length /\ R (.bl (decide (gt bs x=n))) G
def wq4 (_:Txt K mg):Sp3:=fun ds G R=>∃ (o:Opd) (a:Nat) (bs:List Int),ds=[o.d,.ref a] /\ G a=some (.lst (bs.map .int)) /\ (∀ y,o=.box y->y < bs.length) /\ R (.int (val bs o)) G
def wq0 (_:Txt K mg):Sp3:=fun ds G R=>∃ (x i:Nat) (cs:List (Nat × Nat)) (a sz:Nat) (bs:List Int),ds=[(Row.turn x i cs).d,.ref a] /\ (Row.turn x i cs).ok sz /\ BsOk sz bs /\ G a=some (.lst (bs.map .int)) /\ ∀ G',Upd1 a (stp 1 bs (.turn x i cs)) G G'->R .non G'
def vb6 (_:Txt K mg):Sp3:=fun ds G R=>∃ (row:Row) (a sz:Nat) (s:Int) (bs:List Int),ds=[row.d,.ref a,.int s] /\ (s=1 \/ s=-1) /\ row.ok sz /\ BsOk sz bs /\ G a=some (.lst (bs.map .int)) /\ ∀ G',Upd1 a (stp s bs row) G G'->R .non G'
def vl0:Sp3:=fun ds G R=>∃ (p ra ha:Addr) (rs:List Row) (bs:List Int) (s:Nat),ds=[.ref p] /\ RideAt T.c_Ride.C G p ra ha rs bs s /\ R (.bl (decide (s=rs.length))) G
def w64:Sp3:=fun ds G R=>∃ (p ra ha:Addr) (rs:List Row) (bs:List Int) (s:Nat),ds=[.ref p] /\ RideAt T.c_Ride.C G p ra ha rs bs s /\ R (.int (s:Int)) G
def w66:Sp3:=fun ds G R=>∃ (p ra ha:Addr) (rs:List Row) (bs:List Int) (s:Nat),ds=[.ref p] /\ RideAt T.c_Ride.C G p ra ha rs bs s /\ ∀ q,G q=none->R (.ref q) (gup G q (.lst (bs.map .int)))
def vk9:Sp3:=fun ds G R=>∃ (p ra ha:Addr) (rs:List Row) (bs:List Int) (s sz:Nat),ds=[.ref p] /\ RideAt T.c_Ride.C G p ra ha rs bs s /\ Cde sz rs bs s /\ R (.bl (mayF rs bs s)) G
def ws5:Sp3:=fun ds G R=>∃ (p ra ha:Addr) (rs:List Row) (bs:List Int) (s sz:Nat),ds=[.ref p] /\ RideAt T.c_Ride.C G p ra ha rs bs s /\ Cde sz rs bs s /\
 ∀ G',(mayF rs bs s=false->G'=G)->(mayF rs bs s=true->RideAt T.c_Ride.C G' p ra ha rs (nxF rs bs s).2 (nxF rs bs s).1 /\ ∀ b,b ≠ p->b ≠ ha->G' b=G b)->R (.bl (mayF rs bs s)) G'
def w65:Sp3:=fun ds G R=>∃ (p:Addr) (c0:D) (cr bx:Addr) (rs:List Row) (bs:List Int) (s:Nat),ds=[.ref p,.tup [c0,.ref cr],.ref bx,.int (s:Int)] /\ G p=some (.ins T.c_Ride.C []) /\ G cr=some (.lst (rs.map Row.d)) /\ G bx=some (.lst (bs.map .int)) /\
 ∀ ra ha G',G ra=none->G ha=none->RideAt T.c_Ride.C G' p ra ha rs bs s->(∀ b o,b ≠ p->G b=some o->G' b=some o)->R .non G'
theorem u16 {K:W.Frag} {mg:Str->Option Value} {T:Txt K mg} {G:Gp} {st:Addr} {m:Int} {q:DK} (h:StAt G st) (h0:0 < m) (h1:m < 1073741824) (k:∀ (v:Int) (G':Gp),Adv st G G'->0<=v->v < m->q (.int v) G') :
  ∃ R,uc7 T [.ref st,.int m] G R /\ ∀ d G',R d G'->q d G' :=
 v27 ⟨st,m,rfl,h,h0,h1⟩ fun d G' ⟨st',m',v,e,a,ed,v0,v1⟩=>by
  cases e;subst ed;exact k v G' a v0 v1
theorem wo7 {G:Gp} {p cr bx:Addr} {rs:List Row} {bs:List Int} {s:Nat} {c0:D} {q:Gp->Prop} (hp:G p=none) (hcr:G cr=some (.lst (rs.map Row.d))) (hbx:G bx=some (.lst (bs.map .int)))
  (k:∀ ra ha G',G ra=none->G ha=none->RideAt T.c_Ride.C G' p ra ha rs bs s->Grow G G'->q G'):∃ R,w65 T [.ref p,.tup [c0,.ref cr],.ref bx,.int (s:Int)] (gup G p (.ins T.c_Ride.C [])) R /\ ∀ d G',R d G'->d=.non /\ q G':=by
 have g9:Grow G (gup G p (.ins T.c_Ride.C [])):=Grow.refl.new hp;exact u13 (post:=fun d G'=>d=.non /\ ∃ ra ha,G ra=none /\ G ha=none /\ RideAt T.c_Ride.C G' p ra ha rs bs s /\ Grow G G')
   (fun R h=>⟨p,c0,cr,bx,rs,bs,s,rfl,u02,g9.kp _ _ hcr,g9.kp _ _ hbx,fun ra ha G' x1 x2 x3 x4=>h _ _ ⟨rfl,ra,ha,g9.none x1,g9.none x2,x3,⟨fun b o e=>x4 b o (gne e hp) (g9.kp _ _ e)⟩⟩⟩) fun d G' ⟨e,ra,ha,x1,x2,x3,x4⟩=>⟨e,k ra ha G' x1 x2 x3 x4⟩
def vk8 (_:Txt K mg):Sp3:=fun ds G R=>∃ (row:Row) (sz:Nat),ds=[row.d] /\ row.ok sz /\ ∀ q G',G q=none->G' q=some (.lst ((rb row).map .int))->Grow G G'->R (.ref q) G'
def w63 (_:Txt K mg):Sp3:=fun ds G R=>∃ (row:Row) (sz:Nat),ds=[row.d] /\ row.ok sz /\ ∀ q G',G q=none->G' q=some (.lst ((rbits row).map .int))->Grow G G'->R (.ref q) G'
def w58 (_:Txt K mg):Sp3:=fun ds G R=>∃ (row:Row) (sz:Nat),ds=[row.d] /\ row.ok sz /\ ∀ q G',G q=none->G' q=some (.lst ((rnums row).map .int))->Grow G G'->R (.ref q) G'
def wr7 (_:Txt K mg):Sp3:=fun ds G R=>∃ (row:Row) (sz:Nat),ds=[row.d,.int (sz:Int)] /\ row.ok sz /\ ∀ G',Grow G G'->R (.bl true) G'
def wr8 (_:Txt K mg):Sp3:=fun ds G R=>∃ (row:Row) (sz:Nat),ds=[row.d] /\ row.ok sz /\ ∀ G',Grow G G'->R (.bl true) G'
def wr9 (_:Txt K mg):Sp3:=fun ds G R=>∃ (row:Row) (at0:Nat) (ra:Addr) (rs:List Row),ds=[row.d,.int (at0:Int),.ref ra] /\ G ra=some (.lst (rs.map Row.d)) /\ Pairs rs /\ rs[at0]?=some row /\ R (.bl true) G
def ws1 (_:Txt K mg):Sp3:=fun ds G R=>∃ (ra:Addr) (rs:List Row) (sz:Nat),ds=[.tup [.int (sz:Int),.ref ra]] /\ G ra=some (.lst (rs.map Row.d)) /\ (∀ r ∈ rs,r.ok sz) /\ Pairs rs /\ ∀ G',Grow G G'->R .non G'
def w55 (_:Txt K mg):Sp3:=fun ds G R=>∃ (a c:Bool) (w:Str),ds=[.bl a,.str w,.bl c] /\ R (.str (if a=true then w else if c=true then "tired" else "torn")) G
def w57 (_:Txt K mg):Sp3:=fun ds G R=>∃ (c0:D) (rc bx:Addr) (rs:List Row) (bs:List Int) (most sz:Nat),ds=[.tup [c0,.ref rc],.ref bx,.int (most:Int)] /\ G rc=some (.lst (rs.map Row.d)) /\ G bx=some (.lst (bs.map .int)) /\ Cde sz rs bs 0 /\ Pairs rs /\
 ∀ q G',G q=none->G' q=some (.lst ((rn true rs most 0 bs).2.2.map .int))->Grow G G'->R (outD true rs (rn true rs most 0 bs) q) G'
theorem wo5 {G:Gp} {rc bx:Addr} {rs:List Row} {bs:List Int} {most sz:Nat} {c0:D} {q:DK} (h1:G rc=some (.lst (rs.map Row.d))) (h2:G bx=some (.lst (bs.map .int))) (c:Cde sz rs bs 0) (hp:Pairs rs)
  (k:∀ q' G',G q'=none->G' q'=some (.lst ((rn true rs most 0 bs).2.2.map .int))->Grow G G'->q (outD true rs (rn true rs most 0 bs) q') G'):∃ R1,w57 T [.tup [c0,.ref rc],.ref bx,.int (most:Int)] G R1 /\ ∀ d G',R1 d G'->q d G' :=
 u13 (post:=fun d G'=>∃ q',d=outD true rs (rn true rs most 0 bs) q' /\ G q'=none /\ G' q'=some (.lst ((rn true rs most 0 bs).2.2.map .int)) /\ Grow G G') (fun R h=>⟨c0,rc,bx,rs,bs,most,sz,rfl,h1,h2,c,hp,fun q' G' x y z=>h _ _ ⟨q',rfl,x,y,z⟩⟩) fun d G' ⟨q',e,x,y,z⟩=>by subst e;exact k q' G' x y z
def ws7:Sp3:=fun ds G R=>∃ (p:Addr) (W fr:Nat),ds=[.ref p,.int (W:Int),.int (fr:Int)] /\ G p=some (.ins T.c_Loom.C []) /\ ∀ rp G',G rp=none->LoomAt T.c_Loom.C G' p rp W fr [] 0->(∀ b o,b ≠ p->G b=some o->G' b=some o)->R .non G'
def uc9:Sp3:=fun ds G R=>∃ (p rp:Addr) (W fr:Nat) (rows:List Row) (st:Nat),ds=[.ref p] /\ LoomAt T.c_Loom.C G p rp W fr rows st /\ ∀ G',LoomAt T.c_Loom.C G' p rp W (fr+1) rows st->LAdv p rp G G'->R (.int (fr:Int)) G'
def uc8:Sp3:=fun ds G R=>∃ (p rp q:Addr) (W fr:Nat) (rows new:List Row) (st:Nat),ds=[.ref p,.ref q] /\ LoomAt T.c_Loom.C G p rp W fr rows st /\ G q=some (.lst (new.map Row.d)) /\ q ≠ rp /\ rows.length<=1000 /\ new.length<=1000 /\ ∀ G',LoomAt T.c_Loom.C G' p rp W fr (rows++new) (st+new.length)->LAdv p rp G G'->R .non G'
def ug3 (T:Txt K mg) (mx:Nat) (xs:Nat->Nat->List D) (bx:Nat->Nat) (fn:Nat->Nat) (nw:Nat->Nat->Nat->Nat->List Row):Sp3:=fun ds G R=>∃ (p rp:Addr) (W fr x y:Nat) (rows:List Row) (st:Nat),ds=xs x y++[.ref p] /\ LoomAt T.c_Loom.C G p rp W fr rows st /\ W<=16 /\ rows.length+2 * mx<=500 /\ ∀ G',LoomAt T.c_Loom.C G' p rp W (fn fr) (rows++nw W x y fr) (st+(nw W x y fr).length)->LAdv p rp G G'->R (.int (bx fr:Int)) G'
def xy (x y:Nat):List D:=[.int (x:Int),.int (y:Int)]
def wq2 (T:Txt K mg):Sp3:=ug3 T 20 xy (fun fr=>fr) (fun fr=>fr+2) fun W x y fr=>sgR W x y fr "+"
def ws0 (T:Txt K mg):Sp3:=ug3 T 20 xy (fun fr=>fr) (fun fr=>fr+2) fun W x y fr=>sgR W x y fr "-"
def vl1 (T:Txt K mg):Sp3:=ug3 T 0 xy (fun fr=>fr) (fun fr=>fr+1) fun _ x y fr=>[.add fr (.box x),.take fr (.box y)]
def w62 (T:Txt K mg):Sp3:=ug3 T 0 xy (fun fr=>fr) (fun fr=>fr+1) fun W x y fr=>andR fr x y W
def ws3 (T:Txt K mg):Sp3:=ug3 T 20 xy (fun fr=>fr+1) (fun fr=>fr+2) fun W x y fr=>sgR W x y fr "|"
def ws2 (T:Txt K mg):Sp3:=ug3 T 20 xy (fun fr=>fr+1) (fun fr=>fr+2) fun W x y fr=>sgR W x y fr "^"
def w56 (T:Txt K mg):Sp3:=fun ds G R=>∃ n:Nat,n<=2 /\ ug3 T 19 (fun x y=>[.int (x:Int),.int (y:Int),.int (n:Int)]) (fun fr=>fr+1) (fun fr=>fr+2) (fun W x y fr=>andR fr x y W++([.add (fr+1) (.box x),.add (fr+1) (.box y)]++List.replicate n (.take (fr+1) (.box fr)))) ds G R
def wq3 (T:Txt K mg):Sp3:=ug3 T 20 xy (fun fr=>fr+1) (fun fr=>fr+2) fun W x y fr=>sgR W x y fr "<"
def ws4 (T:Txt K mg):Sp3:=ug3 T 20 xy (fun fr=>fr+2) (fun fr=>fr+3) fun W x y fr=>sgR W x y fr "="
def wp6 (T:Txt K mg):Sp3:=fun ds G R=>∃ o:Str,o ∈ L3.signs /\ ug3 T 21 (fun x y=>[.str o,.int (x:Int),.int (y:Int)]) (fun fr=>sgB fr o) (fun fr=>sgF fr o) (fun W x y fr=>sgR W x y fr o) ds G R
def vk5 (T:Txt K mg):Sp3:=fun ds G R=>∃ (p rp wa:Addr) (W fr:Nat) (rows:List Row) (st:Nat) (bs:List Str) (pl:List Nat) (a:Atm),ds=[aD a,.ref wa,.ref p] /\ LoomAt T.c_Loom.C G p rp W fr rows st /\ G wa=some (.dic (u08 bs pl)) /\ pl.length=bs.length /\ okA W bs a /\ rows.length<=500 /\ ∀ G',LoomAt T.c_Loom.C G' p rp W (plF fr a) (rows++plR fr a) (st+(plR fr a).length)->LAdv p rp G G'->R (.int (plB bs pl fr a:Int)) G'
def w67 (T:Txt K mg):Sp3:=fun ds G R=>∃ (p rp q:Addr) (W fr x:Nat) (n:Int) (rows new:List Row) (st:Nat),ds=[.ref p,.int (x:Int),.int n,.ref q] /\ LoomAt T.c_Loom.C G p rp W fr rows st /\ G q=some (.lst (new.map Row.d)) /\ q ≠ rp /\ rows.length<=1000 /\ new.length<=1000 /\ ∀ G',LoomAt T.c_Loom.C G' p rp W fr (rows++(.go x n (rows.length+new.length+1)::(new++[.come x n rows.length]))) st->LAdv p rp G G'->R .non G'
def ws6 (T:Txt K mg):Sp3:=fun ds G R=>∃ (p rp q1 q2:Addr) (W fr ch:Nat) (rows ys ns:List Row) (st:Nat),ds=[.ref p,.int (ch:Int),.ref q1,.ref q2] /\ LoomAt T.c_Loom.C G p rp W fr rows st /\ G q1=some (.lst (ys.map Row.d)) /\ G q2=some (.lst (ns.map Row.d)) /\ q1 ≠ rp /\ q2 ≠ rp /\ rows.length<=500 /\ ys.length<=10 /\ ns.length<=10 /\ ∀ G',LoomAt T.c_Loom.C G' p rp W fr (rows++chR rows.length ch ys ns) (st+(ys.length+3))->LAdv p rp G G'->R .non G'
def wq1 (T:Txt K mg):Sp3:=fun ds G R=>∃ (p rp:Addr) (W fr x:Nat) (rows:List Row) (st:Nat),ds=[.int (x:Int),.ref p] /\ LoomAt T.c_Loom.C G p rp W fr rows st /\ rows.length<=500 /\ ∀ G',LoomAt T.c_Loom.C G' p rp W (fr+2) (rows++[.take fr (.box x),.turn (fr+1) 0 [(fr,31)]]) (st+2)->LAdv p rp G G'->R (.int ((fr+1:Nat):Int)) G'
def vb4 (T:Txt K mg) (dp:Nat):Sp3:=fun ds G R=>∃ (d:D) (p rp wa:Addr) (W fr:Nat) (bs:List Str) (pl:List Nat) (rows:List Row) (st:Nat) (rs:List Rowp),ds=[d,.ref wa,.ref p] /\ LoomAt T.c_Loom.C G p rp W fr rows st /\ G wa=some (.dic (u08 bs pl)) /\ sqD G d=some (u32 rs) /\ d ≠ .ref rp /\ pl.length=bs.length /\ bs.length<=6 /\ bs.Nodup /\ okL W bs rs /\ ntL rs /\ depL rs < dp /\ rows.length+22 * szL rs<=440 /\ W<=16 /\
 ∀ G',LoomAt T.c_Loom.C G' p rp W (wcL W bs rs rows.length pl fr).2.2.1 (rows++(wcL W bs rs rows.length pl fr).1) (st+(wcL W bs rs rows.length pl fr).2.2.2)->G' wa=some (.dic (u08 bs (wcL W bs rs rows.length pl fr).2.1))->(∀ b o,b ≠ p->b ≠ rp->b ≠ wa->G b=some o->G' b=some o)->R .non G'
def wp7 (T:Txt K mg):Sp3:=vb4 T 8
theorem ws8 {n:Nat}:Ok P w mg base n T.f_jci (vb4 T 0):=uv3 (by rintro ds G R ⟨_,_,_,_,_,_,_,_,_,_,_,_,_,_,_,_,_,_,_,_,_,h,_⟩;omega)
def wp8 (T:Txt K mg) (dp:Nat):Sp3:=fun ds G R=>∃ (p rp wa:Addr) (W fr:Nat) (bs:List Str) (pl:List Nat) (rows:List Row) (st:Nat) (c:Atm) (ys ns:List Rowp),ds=[rowD (.cho c ys ns),.ref wa,.ref p] /\ LoomAt T.c_Loom.C G p rp W fr rows st /\ G wa=some (.dic (u08 bs pl)) /\ pl.length=bs.length /\ bs.length<=6 /\ bs.Nodup /\ okR W bs (.cho c ys ns) /\ ntR (.cho c ys ns) /\ depL ys < dp /\ depL ns < dp /\ rows.length+22 * szR (.cho c ys ns)<=440 /\ W<=16 /\
 ∀ G',LoomAt T.c_Loom.C G' p rp W (wcR W bs (.cho c ys ns) rows.length pl fr).2.2.1 (rows++(wcR W bs (.cho c ys ns) rows.length pl fr).1) (st+(wcR W bs (.cho c ys ns) rows.length pl fr).2.2.2)->G' wa=some (.dic (u08 bs (wcR W bs (.cho c ys ns) rows.length pl fr).2.1))->(∀ b o,b ≠ p->b ≠ rp->b ≠ wa->G b=some o->G' b=some o)->R .non G'
def wp9 (_:Txt K mg):Sp3:=fun ds G R=>∃ (pc pa:Addr) (W fr:Nat) (bs:List Str) (pl:List Nat) (rs:List Rowp),ds=[.ref pc,.tup (bs.map .str),.int (W:Int),.ref pa,.int (fr:Int)] /\ G pc=some (.lst (u32 rs)) /\ G pa=some (.lst (pl.map nD)) /\ pl.length=bs.length /\ bs.length<=6 /\ bs.Nodup /\ okL W bs rs /\ ntL rs /\ depL rs<=6 /\ 22 * szL rs<=440 /\ W<=16 /\
 ∀ (q1 q2:Addr) (G':Gp),G q1=none->G q2=none->q1 ≠ q2->G' q1=some (.lst ((wcL W bs rs 0 pl fr).1.map Row.d))->G' q2=some (.lst ((wcL W bs rs 0 pl fr).2.1.map nD))->Grow G G'->R (.tup [.ref q1,.ref q2,.int ((wcL W bs rs 0 pl fr).2.2.1:Int),.int ((wcL W bs rs 0 pl fr).2.2.2:Int)]) G'
def wr2 (_:Txt K mg):Sp3:=fun ds G R=>∃ (st:Addr) (m:Nat),ds=[.ref st,.int (m:Int)] /\ StAt G st /\ 1<=m /\ m<=6 /\ ∀ (bs:List Str) (G':Gp),bs.length=m->(∀ b ∈ bs,b.length<=20)->bs.Nodup->Adv st G G'->R (.tup (bs.map .str)) G'
def vk6 (_:Txt K mg):Sp3:=fun ds G R=>∃ (st:Addr) (W:Nat),ds=[.ref st,.int (W:Int)] /\ StAt G st /\ W<=16 /\ ∀ (i:Nat) (G':Gp),i < 2 ^ W->Adv st G G'->R (.int (i:Int)) G'
def vk7 (_:Txt K mg):Sp3:=fun ds G R=>∃ (st:Addr) (W:Nat) (bs:List Str),ds=[.ref st,.tup (bs.map .str),.int (W:Int)] /\ StAt G st /\ W<=16 /\ 1<=bs.length /\ bs.length<=6 /\ ∀ (a:Atm) (G':Gp),okA W bs a->Adv st G G'->R (aD a) G'
def wq9 (_:Txt K mg):Sp3:=fun ds G R=>∃ (st:Addr) (m:Nat),ds=[.ref st,.int (m:Int)] /\ StAt G st /\ m<=6 /\ ∀ (q q1:Addr) (fr:Nat) (pl:List Nat) (G':Gp),Adv st G G'->q ≠ st->q1 ≠ st->G' q=some (.lst [.ref q1,.int (fr:Int)])->G' q1=some (.lst (pl.map nD))->pl.length=m->pl.Nodup->(∀ x ∈ pl,x < fr)->fr<=100->R (.ref q) G'
def wr5 (_:Txt K mg):Sp3:=fun ds G R=>∃ (st:Addr),ds=[.ref st] /\ StAt G st /\ ∀ (v:Int) (G':Gp),Adv st G G'->0<=v->v < 4294967296->R (.int v) G'
def w60 (_:Txt K mg):Sp3:=fun ds G R=>∃ (st pa va:Addr) (fr:Nat) (pl vs:List Nat),ds=[.ref st,.ref pa,.ref va,.int (fr:Int)] /\ StAt G st /\ pa ≠ st /\ va ≠ st /\ G pa=some (.lst (pl.map nD)) /\ G va=some (.lst (vs.map nD)) /\ pl.length=vs.length /\ pl.Nodup /\ (∀ x ∈ pl,x < fr) /\ (∀ v ∈ vs,v < 65536) /\ fr<=100 /\ pl.length<=6 /\
 ∀ (q:Addr) (bx:List Int) (G':Gp),Adv st G G'->q ≠ st->G' q=some (.lst (bx.map .int))->BsOk fr bx->Held pl vs bx->R (.ref q) G'
def wq6 (_:Txt K mg):Sp3:=fun ds G R=>∃ (st:Addr) (W:Nat) (bs:List Str),ds=[.ref st,.tup (bs.map .str),.int (W:Int)] /\ StAt G st /\ W<=16 /\ bs.length<=6 /\ ∀ (q:Addr) (vs:List Nat) (G':Gp),Adv st G G'->q ≠ st->G q=none->G' q=some (.lst (vs.map nD))->StW W bs vs->R (.ref q) G'
def wr1 (_:Txt K mg):Sp3:=fun ds G R=>∃ (W a b:Nat) (o:Str),ds=[.str o,.int (a:Int),.int (b:Int),.int (W:Int)] /\ o ∈ L3.signs /\ W<=16 /\ a < 2 ^ W /\ b < 2 ^ W /\ R (.int (rkB W o a b:Int)) G
def vb5 (_:Txt K mg) (dp:Nat):Sp3:=fun ds G R=>∃ (d:D) (rs:List Rowp),ds=[d] /\ sqD G d=some (u32 rs) /\ ntL rs /\ depL rs < dp /\ szL rs<=1000 /\ R (.int (szL rs:Int)) G
def wq5 (T:Txt K mg):Sp3:=vb5 T 8
theorem ws9 {n:Nat}:Ok P w mg base n T.f_jbs (vb5 T 0):=uv3 (by rintro ds G R ⟨_,_,_,_,_,h,_⟩;omega)
def v04 (_:Txt K mg) (dp:Nat):Sp3:=fun ds G R=>∃ (st:Addr) (W deep room:Nat) (bs:List Str),ds=[.ref st,.tup (bs.map .str),.int (W:Int),.int (deep:Int),.int (room:Int)] /\ StAt G st /\ W<=16 /\ 1<=bs.length /\ bs.length<=6 /\ deep < dp /\ deep<=5 /\ room<=200 /\ ∀ (rs:List Rowp) (G':Gp),okL W bs rs->ntL rs->szL rs<=room->depL rs<=deep->Adv st G G'->R (.tup (u32 rs)) G'
def w59 (T:Txt K mg):Sp3:=v04 T 8
theorem wt0 {n:Nat}:Ok P w mg base n T.f_jbm (v04 T 0):=uv3 (by rintro ds G R ⟨_,_,_,_,_,_,_,_,_,_,h,_⟩;omega)
def wr0 (_:Txt K mg) (dp:Nat):Sp3:=fun ds G R=>∃ (st:Addr) (W deep room:Nat) (bs:List Str),ds=[.ref st,.tup (bs.map .str),.int (W:Int),.int (deep:Int),.int (room:Int)] /\ StAt G st /\ W<=16 /\ 1<=bs.length /\ bs.length<=6 /\ deep<=dp /\ deep<=5 /\ 1<=room /\ room<=200 /\ ∀ (r:Rowp) (G':Gp),okR W bs r->ntR r->szR r<=room->depR r<=deep->Adv st G G'->R (rowD r) G'
def v05 (_:Txt K mg) (dp:Nat):Sp3:=fun ds G R=>∃ (d:D) (h:Addr) (W:Nat) (bs:List Str) (vs:List Nat) (rs:List Rowp),ds=[d,.ref h,.int (W:Int)] /\ sqD G d=some (u32 rs) /\ G h=some (.dic (u08 bs vs)) /\ StW W bs vs /\ bs.Nodup /\ bs.length<=6 /\ 1<=W /\ W<=16 /\ okL W bs rs /\ ntL rs /\ depL rs < dp /\ R .non (gup G h (.dic (u08 bs (doL W bs rs vs))))
def wr3 (T:Txt K mg):Sp3:=v05 T 8
theorem wt1 {n:Nat}:Ok P w mg base n T.f_jbf (v05 T 0):=uv3 (by rintro ds G R ⟨_,_,_,_,_,_,_,_,_,_,_,_,_,_,_,_,h,_⟩;omega)
def wr6 (_:Txt K mg):Sp3:=fun ds G R=>∃ (pa va:Addr) (W:Nat) (bs:List Str) (vs:List Nat) (rs:List Rowp),ds=[.ref pa,.tup (bs.map .str),.int (W:Int),.ref va] /\ G pa=some (.lst (u32 rs)) /\ G va=some (.lst (vs.map nD)) /\ StW W bs vs /\ bs.Nodup /\ bs.length<=6 /\ 1<=W /\ W<=16 /\ okL W bs rs /\ ntL rs /\ depL rs<=6 /\ ∀ (q:Addr) (G':Gp),G q=none->G' q=some (.lst ((doL W bs rs vs).map nD))->Grow G G'->R (.ref q) G'
def wq7 (_:Txt K mg):Sp3:=fun ds G R=>∃ (q1 q2 ba pa da:Addr) (W fr:Nat) (bs:List Str) (pl vs:List Nat) (bx:List Int) (rs:List Rowp),ds=[.tup [.ref q1,.ref q2,.int ((wcL W bs rs 0 pl fr).2.2.1:Int),.int ((wcL W bs rs 0 pl fr).2.2.2:Int)],.ref ba,.ref pa,.int (fr:Int),.ref da] /\ G q1=some (.lst ((wcL W bs rs 0 pl fr).1.map Row.d)) /\ G q2=some (.lst ((wcL W bs rs 0 pl fr).2.1.map nD)) /\ G ba=some (.lst (bx.map .int)) /\ G da=some (.lst ((doL W bs rs vs).map nD)) /\ Plc bs pl vs fr /\ StW W bs vs /\ BsOk fr bx /\ Held pl vs bx /\ fr<=100 /\ okL W bs rs /\ ntL rs /\ 22 * szL rs<=440 /\ bs.length<=6 /\ 1<=W /\ W<=16 /\ ∀ G',Grow G G'->R (.bl true) G'
def wr4 (_:Txt K mg):Sp3:=fun ds G R=>∃ (st:Addr) (W:Nat) (bs:List Str),ds=[.ref st,.tup (bs.map .str),.int (W:Int)] /\ StAt G st /\ W<=16 /\ 1<=bs.length /\ bs.length<=6 /\ ∀ (c:Atm) (ys ns:List Rowp) (G':Gp),okR W bs (.cho c ys ns)->ntR (.cho c ys ns)->szR (.cho c ys ns)<=17->depR (.cho c ys ns)<=2->Adv st G G'->R (rowD (.cho c ys ns)) G'
def wq8 (_:Txt K mg):Sp3:=fun ds G R=>∃ (st:Addr) (W:Nat) (bs:List Str) (c:Atm) (ys ns:List Rowp),ds=[.ref st,.tup (bs.map .str),.int (W:Int),rowD (.cho c ys ns)] /\ StAt G st /\ 1<=W /\ W<=16 /\ 1<=bs.length /\ bs.length<=6 /\ bs.Nodup /\ okR W bs (.cho c ys ns) /\ ntR (.cho c ys ns) /\ szR (.cho c ys ns)<=17 /\ depR (.cho c ys ns)<=2 /\ ∀ (G':Gp),Adv st G G'->R (.bl true) G'
def wp5 (_:Txt K mg):Sp3:=fun ds G R=>∃ (a:Addr) (ns:List Int),ds=[.ref a] /\ G a=some (.fro (ns.map .int)) /\ ns.length<=63 /\ ∀ G',R (.bl true) G'
theorem u62 {G:Gp} {p rp:Addr} {W fr st:Nat} {rows:List Row} {q:DK} (h:LoomAt T.c_Loom.C G p rp W fr rows st) (k:∀ G',LoomAt T.c_Loom.C G' p rp W (fr+1) rows st->LAdv p rp G G'->q (.int (fr:Int)) G'):∃ R,uc9 T [.ref p] G R /\ ∀ d G',R d G'->q d G' :=
 u13 (post:=fun d G'=>d=.int (fr:Int) /\ LoomAt T.c_Loom.C G' p rp W (fr+1) rows st /\ LAdv p rp G G') (fun R h'=>⟨p,rp,W,fr,rows,st,rfl,h,fun G' x y=>h' _ _ ⟨rfl,x,y⟩⟩) fun d G' ⟨e,x,y⟩=>by subst e;exact k G' x y
theorem wx1 {G:Gp} {p rp q0:Addr} {W fr st:Nat} {rows new:List Row} {q:DK} (h:LoomAt T.c_Loom.C G p rp W fr rows st) (hq:G q0=some (.lst (new.map Row.d))) (hn:q0 ≠ rp) (h1:rows.length<=1000) (h2:new.length<=1000) (k:∀ G',LoomAt T.c_Loom.C G' p rp W fr (rows++new) (st+new.length)->LAdv p rp G G'->q .non G'):∃ R,uc8 T [.ref p,.ref q0] G R /\ ∀ d G',R d G'->q d G' :=
 u13 (post:=fun d G'=>d=.non /\ LoomAt T.c_Loom.C G' p rp W fr (rows++new) (st+new.length) /\ LAdv p rp G G') (fun R h'=>⟨p,rp,q0,W,fr,rows,new,st,rfl,h,hq,hn,h1,h2,fun G' x y=>h' _ _ ⟨rfl,x,y⟩⟩) fun d G' ⟨e,x,y⟩=>by subst e;exact k G' x y
theorem ug0 {mx:Nat} {xs:Nat->Nat->List D} {bx fn:Nat->Nat} {nw:Nat->Nat->Nat->Nat->List Row} {G:Gp} {p rp:Addr} {W fr x y st:Nat} {rows:List Row} {q:DK} (h:LoomAt T.c_Loom.C G p rp W fr rows st) (hW:W<=16) (h1:rows.length+2 * mx<=500) (k:∀ G',LoomAt T.c_Loom.C G' p rp W (fn fr) (rows++nw W x y fr) (st+(nw W x y fr).length)->LAdv p rp G G'->q (.int (bx fr:Int)) G'):∃ R,ug3 T mx xs bx fn nw (xs x y++[.ref p]) G R /\ ∀ d G',R d G'->q d G' :=
 u13 (post:=fun d G'=>d=.int (bx fr:Int) /\ LoomAt T.c_Loom.C G' p rp W (fn fr) (rows++nw W x y fr) (st+(nw W x y fr).length) /\ LAdv p rp G G') (fun R h'=>⟨p,rp,W,fr,x,y,rows,st,rfl,h,hW,h1,fun G' a b=>h' _ _ ⟨rfl,a,b⟩⟩) fun d G' ⟨e,a,b⟩=>by subst e;exact k G' a b
theorem ul5 {G:Gp} {p rp wa:Addr} {W fr st:Nat} {rows:List Row} {bs:List Str} {pl:List Nat} {a:Atm} {q:DK} (h:LoomAt T.c_Loom.C G p rp W fr rows st) (hw:G wa=some (.dic (u08 bs pl))) (hl:pl.length=bs.length) (ha:okA W bs a) (h1:rows.length<=500) (k:∀ G',LoomAt T.c_Loom.C G' p rp W (plF fr a) (rows++plR fr a) (st+(plR fr a).length)->LAdv p rp G G'->q (.int (plB bs pl fr a:Int)) G'):∃ R,vk5 T [aD a,.ref wa,.ref p] G R /\ ∀ d G',R d G'->q d G' :=
 u13 (post:=fun d G'=>d=.int (plB bs pl fr a:Int) /\ LoomAt T.c_Loom.C G' p rp W (plF fr a) (rows++plR fr a) (st+(plR fr a).length) /\ LAdv p rp G G') (fun R h'=>⟨p,rp,wa,W,fr,rows,st,bs,pl,a,rfl,h,hw,hl,ha,h1,fun G' x y=>h' _ _ ⟨rfl,x,y⟩⟩) fun d G' ⟨e,x,y⟩=>by subst e;exact k G' x y
theorem wo6 {G:Gp} {st:Addr} {W:Nat} {q:DK} (hs:StAt G st) (hW:W<=16) (k:∀ (i:Nat) G',i < 2 ^ W->Adv st G G'->q (.int (i:Int)) G'):∃ R,vk6 T [.ref st,.int (W:Int)] G R /\ ∀ d G',R d G'->q d G' :=
 u13 (post:=fun d G'=>∃ i:Nat,d=.int (i:Int) /\ i < 2 ^ W /\ Adv st G G') (fun R h'=>⟨st,W,rfl,hs,hW,fun i G' x y=>h' _ _ ⟨i,rfl,x,y⟩⟩) fun d G' ⟨i,e,x,y⟩=>by subst e;exact k i G' x y
theorem va6 {G:Gp} {st:Addr} {W:Nat} {bs:List Str} {q:DK} (hs:StAt G st) (hW:W<=16) (h1:1<=bs.length) (h2:bs.length<=6) (k:∀ (a:Atm) G',okA W bs a->Adv st G G'->q (aD a) G'):∃ R,vk7 T [.ref st,.tup (bs.map .str),.int (W:Int)] G R /\ ∀ d G',R d G'->q d G' :=
 u13 (post:=fun d G'=>∃ a:Atm,d=aD a /\ okA W bs a /\ Adv st G G') (fun R h'=>⟨st,W,bs,rfl,hs,hW,h1,h2,fun a G' x y=>h' _ _ ⟨a,rfl,x,y⟩⟩) fun d G' ⟨a,e,x,y⟩=>by subst e;exact k a G' x y
theorem ub0 {G:Gp} {p rp p1:Addr} {W fr st:Nat} {rows new:List Row} {q:DK} (A:LoomAt T.c_Loom.C G p rp W fr rows st) (hp:G p1=none) (h1:rows.length<=1000) (h2:new.length<=1000) (k:∀ G',LoomAt T.c_Loom.C G' p rp W fr (rows++new) (st+new.length)->LAdv p rp G G'->q .non G'):∃ R,uc8 T [.ref p,.ref p1] (gup G p1 (.lst (new.map Row.d))) R /\ ∀ d G',R d G'->q d G' :=
 wx1 T (A.new hp) u02 (Ne.symm (gne A.ro hp)) h1 h2 fun G' A' a'=>k G' A' ((LAdv.refl.new hp).trans a')
theorem vc9 {bs:List Str} {vs:List Nat} {i:Int}:valK (u08 bs vs) (.inl i)=none:=by
 unfold valK;rw [List.find?_eq_none.mpr]
 ·rfl
 ·intro x hx
  unfold u08 at hx;obtain ⟨q,_,rfl⟩:=List.mem_map.mp hx;simp
theorem vp2:∀ {bs:List Str} {x:Str},x ∈ bs->bs[ixB bs x]?=some x /\ ∀ j,j < ixB bs x->bs[j]? ≠ some x
 | b::bs,x,h=>by
  by_cases e:b=x
  ·rw [ixB,if_pos e];exact ⟨by rw [e];rfl,fun j hj=>by omega⟩
  ·have hx:x ∈ bs:=by rcases List.mem_cons.mp h with z | z;exact absurd z.symm e;exact z
   obtain ⟨i1,i2⟩:=vp2 hx;rw [ixB,if_neg e,Nat.add_comm];refine ⟨i1,fun j hj=>?_⟩;cases j with
   | zero=>intro z;exact e (Option.some.inj z)
   | succ j=>exact i2 j (by omega)
theorem ui6:∀ {l:List Nat} {i:Nat} (h:i < l.length),(l[i]::l.eraseIdx i).Perm l
 | x::l,0,_=>List.Perm.refl _
 | x::l,i+1,h=>by
  have hi:i < l.length:=by simpa using h
  have ih:=ui6 (l:=l) (i:=i) hi
  show (l[i]::x::l.eraseIdx i).Perm (x::l)
  exact (List.Perm.swap x _ _).trans (ih.cons x)
theorem ww6 {G:Gp} {a b c d:Addr} {rs:List Row} {pl:List Nat} {i j:Int} {Q:Bool->Prop} (h1:u19 (G a)=some (rs.map Row.d)) (h2:u19 (G c)=some (rs.map Row.d)) (h3:u19 (G b)=some (pl.map nD)) (h4:u19 (G d)=some (pl.map nD)) (h:Q true) :
  ∃ n sd se r,n<=40 /\ snap G n (.tup [.ref a,.ref b,.int i,.int j])=some sd /\ snap G n (.tup [.ref c,.ref d,.int i,.int j])=some se /\ eqN n sd se=some r /\ Q r:=by
 have sb:∃ s,snap G 4 (.ref b)=some s:=by
  obtain ⟨ys,e⟩:=ud6 (f:=snap G 3) (xs:=pl.map nD) fun d hd=>by
   obtain ⟨x,_,rfl⟩:=List.mem_map.mp hd;exact snap_int
  exact ⟨.lst ys,by show ((u19 (G b)).bind fun ds=>(ds.mapM (snap G 3)).map Sn.lst)=_;rw [h3,Option.bind_some,e];rfl⟩
 obtain ⟨s,hs⟩:=snap_tup (n:=4) (ds:=[.ref a,.ref b,.int i,.int j]) (all2 (snap_rows (n:=0) h1) (all2 sb (all2 snap_int (all1 snap_int))));have e1:snap G 4 (.ref a)=snap G 4 (.ref c):=snap_ref (h1.trans h2.symm);have e2:snap G 4 (.ref b)=snap G 4 (.ref d):=snap_ref (h3.trans h4.symm);have e3:snap G 5 (.tup [.ref a,.ref b,.int i,.int j])=snap G 5 (.tup [.ref c,.ref d,.int i,.int j]):=by
  show (([D.ref a,.ref b,.int i,.int j].mapM (snap G 4)).map Sn.tup)=(([D.ref c,.ref d,.int i,.int j].mapM (snap G 4)).map Sn.tup)
  rw [List.mapM_cons,List.mapM_cons,List.mapM_cons (a:=D.ref c),List.mapM_cons (a:=D.ref d),e1,e2]
 exact ⟨5,s,s,true,by decide,hs,by rw [<- e3];exact hs,uf5 5 hs,h⟩
theorem w33 {G:Gp} {w:Str} {i j:Int} {Q:Bool->Prop} (h:Q true) :
  ∃ n sd se r,n<=40 /\ snap G n (.tup [.str w,.int i,.int j])=some sd /\ snap G n (.tup [.str w,.int i,.int j])=some se /\ eqN n sd se=some r /\ Q r:=by
 obtain ⟨s,hs⟩:=snap_tup (G:=G) (n:=0) (ds:=[.str w,.int i,.int j]) (all2 snap_str (all2 snap_int (all1 snap_int)));exact ⟨1,s,s,true,by decide,hs,hs,uf5 1 hs,h⟩
theorem wl0 (l:List Nat):l.map nD=(l.map fun (k:Nat)=>(k:Int)).map D.int:=by rw [List.map_map];rfl
theorem v02 {α:Type} {xs:List α} {n:Nat}:cutD xs none (some (n:Int))=xs.take n:=vk0
theorem uo0:∀ {l m:List Str},l.Nodup->(∀ x ∈ l,x ∈ m)->l.length<=m.length
 | [],m,_,_=>Nat.zero_le _
 | x::l,m,hn,h=>by
  obtain ⟨h1,h2⟩:=List.nodup_cons.mp hn;have hx:=h x List.mem_cons_self;have ih:=uo0 (l:=l) (m:=m.erase x) h2 fun y hy=>(List.mem_erase_of_ne (fun e=>h1 (by rw [<- e];exact hy))).mpr (h y (List.mem_cons_of_mem _ hy))
  rw [List.length_erase_of_mem hx] at ih;have:0 < m.length:=List.length_pos_of_mem hx;rw [List.length_cons];omega
def cand (b:Str) (i:Nat):Str:=b++Str.ofString "z" ++ ⟨#[97+i]⟩
theorem vk1 {b:Str} {i j:Nat} (h:cand b i=cand b j):i=j:=by
 have e:=congrArg (fun x:Str=>x.cps.toList) h;have c:∀ k,(cand b k).cps.toList=b.cps.toList++[122,97+k]:=fun k=>by
  show ((b.cps++(Str.ofString "z").cps)++#[97+k]).toList=_
  rw [Array.toList_append,Array.toList_append,List.append_assoc];rfl
 have e:(cand b i).cps.toList=(cand b j).cps.toList:=e;rw [c,c] at e;have:=List.append_cancel_left e;simp at this;exact this
theorem va3 {b nm:Str} {ws:List Str} (hl:ws.length < 26) (h:nm ∉ ws \/ ∀ i,i < 26->cand b i ∈ ws):nm ∉ ws:=by
 rcases h with h | h
 ·exact h
 ·exfalso
  have hn:((List.range 26).map (cand b)).Nodup:=List.pairwise_map.mpr (List.nodup_range.imp fun hne e=>hne (vk1 e));have:=uo0 (m:=ws) hn fun x hx=>by
   obtain ⟨i,hi,rfl⟩:=List.mem_map.mp hx;exact h i (List.mem_range.mp hi)
  rw [List.length_map,List.length_range] at this;omega
theorem wm2 {ws:List Str} (h:∀ w ∈ ws,w.length=1):(ws.map Str.length).sum=ws.length:=by
 induction ws with
 | nil=>rfl
 | cons w ws ih=>rw [List.map_cons,List.sum_cons,List.length_cons,h w List.mem_cons_self,ih fun x hx=>h x (List.mem_cons_of_mem _ hx)];omega
def words12:List Str:=[Str.ofString "box",Str.ofString "num",Str.ofString "is",Str.ofString "op",Str.ofString "go",Str.ofString "add",Str.ofString "take",Str.ofString "turn",Str.ofString "swap",Str.ofString "come",Str.ofString "lay",Str.ofString "show"]
theorem vc6:((List.range 12).all fun f=>(List.range 7).all fun m=>decide (((List.range m).map fun k=>words12.getD ((f+5 * k) % 12) (Str.ofString "")).Nodup) && ((List.range m).map fun k=>words12.getD ((f+5 * k) % 12) (Str.ofString "")).all fun w=>decide (w.length<=20))=true:=by decide
theorem hso22:∀ l:List Str,strsOf (l.map D.str)=some l:=by
 intro l
 induction l with
 | nil=>rfl
 | cons w l ih=>show (strsOf (l.map D.str)).map (w::·)=_;rw [ih];rfl
theorem abc_at {x:Int} (h1:0<=x) (h2:x < 26):atI (Str.ofString "abcdefghijklmnopqrstuvwxyz").cps.toList x=some (97+x.toNat):=by
 obtain ⟨n,rfl⟩:=Int.eq_ofNat_of_zero_le h1;have hn:n < 26:=by omega
 have key:∀ n:Fin 26,(Str.ofString "abcdefghijklmnopqrstuvwxyz").cps.toList[n.val]?=some (97+n.val):=by decide
 have e:=us8 (xs:=(Str.ofString "abcdefghijklmnopqrstuvwxyz").cps.toList) (i:=(n:Int)) h1 (by exact h2);rw [e,<- List.getElem?_eq_getElem];exact key ⟨n,hn⟩
theorem v80 {d:D} {xs:List D} {G:Gp} {σ:DSt} {i:Nat} {g:TG3} {tb:TS3} {E:Ends3} (h0:sqD G d=some xs) (hs:σ[i]?=some (some d)) (k:∀ ok:Gp->Prop,(∀ G',sqD G' d=some xs->ok G')->forL ok g tb E xs σ G):dFor (wAny (dVar i)) g tb E σ G:=by
 unfold dFor wAny dVar;rw [hs];cases d with
 | tup ds =>
  have e:ds=xs:=by simpa [sqD] using h0
  subst e;exact k _ fun _ _=>trivial
 | ref a =>
  have h0':u19 (G a)=some xs:=h0;dsimp only;rw [h0'];exact k _ fun G' h=>h
 | _=>exact absurd h0 (by simp [sqD])
theorem ut8 {W:Nat} {bs:List Str} {q:Rowp} {l:List Rowp} {a:Nat} {pl:List Nat} {fr:Nat}:wcL W bs (q::l) a pl fr=((wcR W bs q a pl fr).1++(wcL W bs l (a+(wcR W bs q a pl fr).1.length) (wcR W bs q a pl fr).2.1 (wcR W bs q a pl fr).2.2.1).1,(wcL W bs l (a+(wcR W bs q a pl fr).1.length) (wcR W bs q a pl fr).2.1 (wcR W bs q a pl fr).2.2.1).2.1,(wcL W bs l (a+(wcR W bs q a pl fr).1.length) (wcR W bs q a pl fr).2.1 (wcR W bs q a pl fr).2.2.1).2.2.1,(wcR W bs q a pl fr).2.2.2+(wcL W bs l (a+(wcR W bs q a pl fr).1.length) (wcR W bs q a pl fr).2.1 (wcR W bs q a pl fr).2.2.1).2.2.2):=rfl
theorem ut7 {W:Nat} {bs:List Str}:∀ (l:List Rowp) {r:Rowp} {a:Nat} {pl:List Nat} {fr:Nat},wcL W bs (l++[r]) a pl fr=((wcL W bs l a pl fr).1++(wcR W bs r (a+(wcL W bs l a pl fr).1.length) (wcL W bs l a pl fr).2.1 (wcL W bs l a pl fr).2.2.1).1,(wcR W bs r (a+(wcL W bs l a pl fr).1.length) (wcL W bs l a pl fr).2.1 (wcL W bs l a pl fr).2.2.1).2.1,(wcR W bs r (a+(wcL W bs l a pl fr).1.length) (wcL W bs l a pl fr).2.1 (wcL W bs l a pl fr).2.2.1).2.2.1,(wcL W bs l a pl fr).2.2.2+(wcR W bs r (a+(wcL W bs l a pl fr).1.length) (wcL W bs l a pl fr).2.1 (wcL W bs l a pl fr).2.2.1).2.2.2)
 | [],r,a,pl,fr=>by
  show ((wcR W bs r a pl fr).1++[],(wcR W bs r a pl fr).2.1,(wcR W bs r a pl fr).2.2.1,(wcR W bs r a pl fr).2.2.2+0)=([]++(wcR W bs r (a+0) pl fr).1,(wcR W bs r (a+0) pl fr).2.1,(wcR W bs r (a+0) pl fr).2.2.1,0+(wcR W bs r (a+0) pl fr).2.2.2)
  rw [List.append_nil,List.nil_append,Nat.add_zero,Nat.add_zero,Nat.zero_add]
 | q::l,r,a,pl,fr=>by
  rw [List.cons_append,ut8,ut8,ut7 l];simp only [List.length_append,List.append_assoc,Nat.add_assoc]
def unN:List Str->List Nat->List Nat->List Str
 | b::bs,p::ps,q::qs=>if p=q then unN bs ps qs else b::unN bs ps qs
 | _,_,_=>[]
def asg (bs:List Str):List Str->Nat->List Nat->List Nat
 | [],_,pl=>pl
 | n::ns,f,pl=>asg bs ns (f+1) (ptB bs pl n f)
theorem ue2:∀ {bs:List Str} {ps qs:List Nat} {x:Str},x ∈ unN bs ps qs->x ∈ bs
 | [],ps,qs,x,h=>by cases ps <;> cases qs <;> cases h
 | b::bs,[],qs,x,h=>by cases qs <;> cases h
 | b::bs,p::ps,[],x,h=>by cases h
 | b::bs,p::ps,q::qs,x,h=>by
  unfold unN at h;split at h
  ·exact List.mem_cons_of_mem _ (ue2 h)
  ·rcases List.mem_cons.mp h with e | h
   ·rw [e];exact List.mem_cons_self
   ·exact List.mem_cons_of_mem _ (ue2 h)
theorem ve6 {b n:Str} {bs:List Str} {p f:Nat} {pl:List Nat} (h:b ≠ n):ptB (b::bs) (p::pl) n f=p::ptB bs pl n f:=by
 unfold ptB;rw [ixB,if_neg h,Nat.add_comm];rfl
theorem u55 {b n:Str} {bs:List Str} {p:Nat} {pl:List Nat} (h:b ≠ n):gtB (b::bs) (p::pl) n=gtB bs pl n:=by
 unfold gtB;rw [ixB,if_neg h,Nat.add_comm];rfl
theorem u76 {b:Str} {bs:List Str} {p:Nat} {pl:List Nat}:gtB (b::bs) (p::pl) b=p:=by
 unfold gtB;rw [ixB,if_pos rfl];rfl
theorem ul6 {b:Str} {bs:List Str}:∀ {ns:List Str} {p f:Nat} {pl:List Nat},b ∉ ns->asg (b::bs) ns f (p::pl)=p::asg bs ns f pl
 | [],_,_,_,_=>rfl
 | n::ns,p,f,pl,h=>by
  have h1:b ≠ n:=fun e=>h (by rw [e];exact List.mem_cons_self)
  show asg (b::bs) ns (f+1) (ptB (b::bs) (p::pl) n f)=p::asg bs ns (f+1) (ptB bs pl n f)
  rw [ve6 h1,ul6 fun e=>h (List.mem_cons_of_mem _ e)]
theorem ut0:∀ {bs:List Str} {ps qs:List Nat} {f:Nat},bs.Nodup->ps.length=bs.length->qs.length=bs.length->asg bs (unN bs ps qs) f ps=mrg f ps qs
 | [],ps,qs,f,_,h1,h2=>by
  have e1:ps=[]:=List.eq_nil_of_length_eq_zero h1;subst e1;cases qs <;> rfl
 | b::bs,[],qs,f,_,h1,_=>by cases h1
 | b::bs,p::ps,[],f,_,_,h2=>by cases h2
 | b::bs,p::ps,q::qs,f,hn,h1,h2=>by
  obtain ⟨n1,n2⟩:=List.nodup_cons.mp hn;have h1:ps.length=bs.length:=Nat.succ.inj h1;have h2:qs.length=bs.length:=Nat.succ.inj h2;have nb:b ∉ unN bs ps qs:=fun e=>n1 (ue2 e)
  unfold unN mrg;split
  ·rw [ul6 nb,ut0 n2 h1 h2]
  ·show asg (b::bs) (unN bs ps qs) (f+1) (ptB (b::bs) (p::ps) b f)=_
   have e:ptB (b::bs) (p::ps) b f=f::ps:=by unfold ptB;rw [ixB,if_pos rfl];rfl
   rw [e,ul6 nb,ut0 n2 h1 h2]
theorem uj4:∀ {bs:List Str} {ps qs:List Nat} {f:Nat},bs.Nodup->ps.length=bs.length->qs.length=bs.length ->
  ((unN bs ps qs).map fun n=>Row.add (gtB bs (mrg f ps qs) n) (.box (gtB bs ps n)))=tkR f (uY ps qs) /\ ((unN bs ps qs).map fun n=>Row.add (gtB bs (mrg f ps qs) n) (.box (gtB bs qs n)))=tkR f (uN ps qs)
 | [],ps,qs,f,_,h1,h2=>by
  have e1:ps=[]:=List.eq_nil_of_length_eq_zero h1;have e2:qs=[]:=List.eq_nil_of_length_eq_zero h2;subst e1 e2;exact ⟨rfl,rfl⟩
 | b::bs,[],qs,f,_,h1,_=>by cases h1
 | b::bs,p::ps,[],f,_,_,h2=>by cases h2
 | b::bs,p::ps,q::qs,f,hn,h1,h2=>by
  obtain ⟨n1,n2⟩:=List.nodup_cons.mp hn;have h1:ps.length=bs.length:=Nat.succ.inj h1;have h2:qs.length=bs.length:=Nat.succ.inj h2;have nb:∀ n ∈ unN bs ps qs,b ≠ n:=fun n hm e=>n1 (by rw [e];exact ue2 hm)
  by_cases e:p=q
  ·have ih:=uj4 (f:=f) n2 h1 h2
   have e1:unN (b::bs) (p::ps) (q::qs)=unN bs ps qs:=by rw [unN,if_pos e]
   have e2:mrg f (p::ps) (q::qs)=p::mrg f ps qs:=by rw [mrg,if_pos e]
   have e3:uY (p::ps) (q::qs)=uY ps qs:=by rw [uY,if_pos e]
   have e4:uN (p::ps) (q::qs)=uN ps qs:=by rw [uN,if_pos e]
   rw [e1,e2,e3,e4,<- ih.1,<- ih.2];exact ⟨List.map_congr_left fun n hm=>by rw [u55 (nb n hm),u55 (nb n hm)],List.map_congr_left fun n hm=>by rw [u55 (nb n hm),u55 (nb n hm)]⟩
  ·have ih:=uj4 (f:=f+1) n2 h1 h2
   have e1:unN (b::bs) (p::ps) (q::qs)=b::unN bs ps qs:=by rw [unN,if_neg e]
   have e2:mrg f (p::ps) (q::qs)=f::mrg (f+1) ps qs:=by rw [mrg,if_neg e]
   have e3:uY (p::ps) (q::qs)=p::uY ps qs:=by rw [uY,if_neg e]
   have e4:uN (p::ps) (q::qs)=q::uN ps qs:=by rw [uN,if_neg e]
   rw [e1,e2,e3,e4,List.map_cons,List.map_cons,u76,u76,u76]
   show (_::_=Row.add f (.box p)::tkR (f+1) (uY ps qs)) /\ (_::_=Row.add f (.box q)::tkR (f+1) (uN ps qs))
   rw [<- ih.1,<- ih.2];exact ⟨congrArg _ (List.map_congr_left fun n hm=>by rw [u55 (nb n hm),u55 (nb n hm)]),congrArg _ (List.map_congr_left fun n hm=>by rw [u55 (nb n hm),u55 (nb n hm)])⟩
theorem v14:∀ {bs:List Str} {ps qs:List Nat},ps.length=bs.length->qs.length=bs.length->(unN bs ps qs).length=(uY ps qs).length
 | [],ps,qs,h1,h2=>by
  have e1:ps=[]:=List.eq_nil_of_length_eq_zero h1;have e2:qs=[]:=List.eq_nil_of_length_eq_zero h2;subst e1 e2;rfl
 | b::bs,[],qs,h1,_=>by cases h1
 | b::bs,p::ps,[],_,h2=>by cases h2
 | b::bs,p::ps,q::qs,h1,h2=>by
  have ih:=v14 (bs:=bs) (ps:=ps) (qs:=qs) (Nat.succ.inj h1) (Nat.succ.inj h2);unfold unN uY;split
  ·exact ih
  ·rw [List.length_cons,List.length_cons,ih]
theorem v58:∀ {bs:List Str} {pl ps:List Nat},bs.Nodup->pl.length=bs.length->ps.length=bs.length->ui1 (u08 bs pl) (u08 bs ps)=u08 bs ps:=by
 have key:∀ (b1 b2:List Str) (p1 p2 q2:List Nat),(b1++b2).Nodup->p1.length=b1.length->p2.length=b2.length->q2.length=b2.length->ui1 (u08 (b1++b2) (p1++p2)) (u08 b2 q2)=u08 (b1++b2) (p1++q2):=by
  intro b1 b2
  induction b2 generalizing b1 with
  | nil =>
   intro p1 p2 q2 _ _ h2 h3;have e1:p2=[]:=List.eq_nil_of_length_eq_zero h2;have e2:q2=[]:=List.eq_nil_of_length_eq_zero h3;subst e1 e2;rfl
  | cons b b2 ih =>
   intro p1 p2 q2 hn h1 h2 h3;cases p2 with
   | nil=>cases h2
   | cons p p2 =>
    cases q2 with
    | nil=>cases h3
    | cons q q2 =>
     have hx:b ∈ b1++b::b2:=by simp
     have st:ua7 (u08 (b1++b::b2) (p1++p::p2)) (.inr b) (.int (q:Int))=u08 (b1++b::b2) (p1++q::p2):=by
      rw [u83 hx hn (by rw [List.length_append,List.length_append,h1,h2])];have hix:ixB (b1++b::b2) b=b1.length:=by
       have nb:b ∉ b1:=fun h=>(List.nodup_append.mp hn).2.2 b h b List.mem_cons_self rfl
       clear ih hn h1 h2 h3 hx
       induction b1 with
       | nil=>show (if b=b then 0 else _)=0;rw [if_pos rfl]
       | cons a b1 ih =>
        have na:¬ a=b:=fun e=>nb (by rw [e];exact List.mem_cons_self)
        show (if a=b then 0 else 1+ixB (b1++b::b2) b)=_
        rw [if_neg na,ih fun h=>nb (List.mem_cons_of_mem _ h),List.length_cons];omega
      unfold ptB;rw [hix,<- h1,List.set_append_right _ _ (Nat.le_refl _),Nat.sub_self];rfl
     show ui1 (ua7 (u08 (b1++b::b2) (p1++p::p2)) (.inr b) (.int (q:Int))) (u08 b2 q2)=_
     rw [st];have:=ih (b1++[b]) (p1++[q]) p2 q2 (by simpa using hn) (by simp [h1]) (Nat.succ.inj h2) (Nat.succ.inj h3);simpa using this
 intro bs pl ps hn h1 h2;have:=key [] bs [] pl ps hn rfl h1 h2;simpa using this
theorem uw9:∀ {bs:List Str} {ps:List Nat},ps.length=bs.length->(u08 bs ps).map (fun kv=>kD kv.1)=bs.map D.str
 | [],ps,_=>by cases ps <;> rfl
 | b::bs,[],h=>by cases h
 | b::bs,p::ps,h=>by
  show D.str b::(u08 bs ps).map (fun kv=>kD kv.1)=_
  rw [uw9 (Nat.succ.inj h)];rfl
theorem ug7:∀ {bs:List Str} {ps qs:List Nat},bs.Nodup->ps.length=bs.length->qs.length=bs.length->bs.filter (fun n=>!decide (gtB bs ps n=gtB bs qs n))=unN bs ps qs
 | [],ps,qs,_,_,_=>by cases ps <;> cases qs <;> rfl
 | b::bs,[],qs,_,h1,_=>by cases h1
 | b::bs,p::ps,[],_,_,h2=>by cases h2
 | b::bs,p::ps,q::qs,hn,h1,h2=>by
  obtain ⟨n1,n2⟩:=List.nodup_cons.mp hn;have ih:=ug7 n2 (show ps.length=bs.length from Nat.succ.inj h1) (show qs.length=bs.length from Nat.succ.inj h2);have ht:bs.filter (fun n=>!decide (gtB (b::bs) (p::ps) n=gtB (b::bs) (q::qs) n))=unN bs ps qs:=by
   rw [<- ih];refine List.filter_congr fun n hm=>?_
   have hb:b ≠ n:=fun e=>n1 (by rw [e];exact hm)
   rw [u55 hb,u55 hb]
  by_cases e:p=q
  ·rw [List.filter_cons_of_neg (by rw [u76,u76];simp [e]),ht,unN,if_pos e]
  ·rw [List.filter_cons_of_pos (by rw [u76,u76];simp [e]),ht,unN,if_neg e]
theorem ux5 {bs:List Str}:∀ {u:List Str} {x:Str} {f:Nat} {pl:List Nat},asg bs (u++[x]) f pl=ptB bs (asg bs u f pl) x (f+u.length)
 | [],x,f,pl=>rfl
 | n::u,x,f,pl=>by
  show asg bs (u++[x]) (f+1) (ptB bs pl n f)=ptB bs (asg bs u (f+1) (ptB bs pl n f)) x (f+(u.length+1))
  rw [ux5,show f+1+u.length=f+(u.length+1) by omega]
theorem va9 {bs:List Str}:∀ {u:List Str} {f:Nat} {pl:List Nat},(asg bs u f pl).length=pl.length
 | [],f,pl=>rfl
 | n::u,f,pl=>by
  show (asg bs u (f+1) (ptB bs pl n f)).length=_
  rw [va9];unfold ptB;rw [List.length_set]
end
end Law
set_option compiler.extract_closed false
open PySem L2 L3 Rw in
set_option hygiene false in
local macro_rules | `(tactic| simp! [$xs,*])=>`(tactic| try simp only [vj9,Int.toNat_natCast,dCall,ug4,v97,List.append_nil,dSeq,w46,dAsg,v98,dRet,w43,dIfS,dB,dAnd,dOr,dNot,w48,dOrV,w45,dIf,dVar,dC,dOp,dUn,dNil,u68,dTup,dLst,dCB,dSl,w44,us3,dBM,dBM0,dAug,dFld,w42,w47,dYes,uk6,jSub,jSeq,w22,jNil,w86,wu0,wAny,dFor,xSub,xDiv,xMod,xPow,xShl,xShr,xAnd,xOr,xXor,uz4,tyD,um4,ui3,List.map_cons,List.map_nil,List.cons_append,List.nil_append,List.length_cons,List.length_nil,List.replicate,List.getElem?_cons_zero,List.getElem?_cons_succ,List.set_cons_zero,List.set_cons_succ,Nat.reduceAdd,Nat.reduceSub,Nat.sub_self,v28,v29,u02,Option.bind_some,Option.bind_none,id,Bool.false_eq_true,if_true,if_false,reduceIte,true_and,and_true,decide_true,decide_false,Bool.not_true,Bool.not_false,wx3,wp1,wp0,wo9,wx2,wm8,wm7,wm6,wn0,wm9,w72,w71,$xs,*])
open L3 in
set_option hygiene false in
local macro_rules | `(tactic| dsimp! [$xs,*])=>`(tactic| (simp only [Go];simp! [$xs,*]))
namespace Law
open PySem L2 L3 Rw
section
variable {P:Program} {w:World} {K:W.Frag} {mg:Str->Option Value} {base:Heap} (T:Txt K mg)
theorem wk6 {n:Nat}:Ok P w mg base (n+1) T.f_jab (ws7 T):=by
 refine u12 T.f_jab vo3 (fun ds G R h=>?_) (fun cdv A outer s H E hr =>
   (u01 (un5 T.c_Loom.cl T.c_Loom.n_wide (ev 0) (ev 1))
   (u01 (un5 T.c_Loom.cl T.c_Loom.n_fresh (ev 0) (ev 2))
   (u01 (un5 T.c_Loom.cl T.c_Loom.n_rows (ev 0) (u46 u03))
   (u07 (un5 T.c_Loom.cl T.c_Loom.n_steps (ev 0) u05)))))) (fun ds G R h=>?_)
 ·obtain ⟨p,W,fr,rfl,_⟩:=h;rfl
 ·obtain ⟨p,W,fr,rfl,hp,post⟩:=h
  simp! [hp,lsn,u95,beq_self_eq_true,List.lookup_cons,List.lookup_nil,putD];refine ⟨by decide,?_⟩;dsimp! [u02,lsn,u95,beq_self_eq_true,List.lookup_cons,List.lookup_nil,putD];refine ⟨by decide,?_⟩;dsimp! [u02,lsn,u95,beq_self_eq_true,List.lookup_cons,List.lookup_nil,putD];refine ⟨by decide,fun rp hrp=>?_⟩;rw [u30] at hrp;have np:p ≠ rp:=gne u02 hrp;rw [u06 (Ne.symm np)] at hrp;simp! [u30,u06 np,u02,lsn,u95,beq_self_eq_true,List.lookup_cons,List.lookup_nil,putD];refine ⟨by decide,?_⟩;dsimp! [u02,lsn,u95,beq_self_eq_true,List.lookup_cons,List.lookup_nil,putD];refine ⟨by decide,?_⟩;refine post rp _ hrp ⟨by rw [u02];rfl,?_⟩ fun b o hb e=>?_
  ·rw [u06 (Ne.symm np),u06 (Ne.symm np),u02];rfl
  ·rw [u06 hb,u06 hb,u06 (gne e hrp),u06 hb];exact e
theorem wk7 {n:Nat}:Ok P w mg base (n+1) T.f_jaa (uc9 T):=by
 refine u12 T.f_jaa vo4 (fun ds G R h=>?_) (fun cdv A outer s H E hr =>
   (u01 (uu8 T.c_Loom.cl T.c_Loom.n_fresh (ev 0) u05 ul8)
   (u07 (u15 (u14 ue1 (u63 T.c_Loom.cl T.c_Loom.n_fresh (ev 0)) u05))))) (fun ds G R h=>?_)
 ·obtain ⟨p,rp,W,fr,rows,st,rfl,_⟩:=h;rfl
 ·obtain ⟨p,rp,W,fr,rows,st,rfl,A,post⟩:=h
  simp! [A.ob,lm_all];refine ⟨v69,?_⟩;rw [show ((fr:Int)+1)=((fr+1:Nat):Int) by omega,lm_all.2.2.2.2.2.2.2.2.1];dsimp! [u02,lm_all];rw [show (((fr+1:Nat):Int) - 1)=(fr:Int) by omega];exact post _ ⟨u02,by rw [u06 (Ne.symm A.pr)];exact A.ro⟩ fun b o h1 h2 e=>by rw [u06 h1];exact e
theorem wk5 {n:Nat}:Ok P w mg base (n+1) T.f_jac (uc8 T):=by
 refine u12 T.f_jac vo2 (fun ds G R h=>?_) (fun cdv A outer s H E hr =>
   (u01 (u38 (uw8 (u63 T.c_Loom.cl T.c_Loom.n_rows (ev 0)) (u00 (ev 1) u03)))
   (u07 (uu8 T.c_Loom.cl T.c_Loom.n_steps (ev 0) (u37 ua3 rfl T.b_len (by decide) (u00 (ev 1) u03)) ul8)))) (fun ds G R h=>?_)
 ·obtain ⟨p,rp,q,W,fr,rows,new,st,rfl,_⟩:=h;rfl
 ·obtain ⟨p,rp,q,W,fr,rows,new,st,rfl,A,hq,nq,h1,h2,post⟩:=h
  simp! [A.ob,A.ro,lm_all,hq];refine ⟨by rw [List.length_map,List.length_map];exact Nat.le_trans (m:=2000) (by omega) (by decide),?_⟩;have l2:((new.map Row.d).length<=sizeLine)=True:=eq_true (by rw [List.length_map];exact Nat.le_trans (m:=2000) (by omega) (by decide));dsimp! [u06 A.pr,A.ob,lm_all,u06 nq,hq,l2,List.length_map];rw [show ((st:Int)+(new.length:Int))=((st+new.length:Nat):Int) by omega];refine ⟨v69,?_⟩;rw [lm_all.2.2.2.2.2.2.2.2.2];refine post _ ⟨u02,by rw [u06 (Ne.symm A.pr),u02,List.map_append]⟩ fun b o h1 h2 e=>by rw [u06 h1,u06 h2];exact e
theorem wk4 {n:Nat} (G_jae:Ok P w mg base n T.f_jae (w67 T)):Ok P w mg base (n+1) T.f_jad (ws6 T):=by
 refine u12 T.f_jad vo1 (fun ds G R h=>?_) (fun cdv A outer s H E hr =>
   (u01 (u38 (em T.c_Loom.cl T.f_jae T.m_jae G_jae hr (ev 0) (u00 (ev 1) (u00 u05 (u00 (ev 2) u03)))))
   (u01 (u38 (em T.c_Loom.cl T.f_jae T.m_jae G_jae hr (ev 0) (u00 (ev 1) (u00 u05 (u00 (ev 3) u03)))))
   (u07 (uu8 T.c_Loom.cl T.c_Loom.n_steps (ev 0) (u14 u49 (u37 ua3 rfl T.b_len (by decide) (u00 (ev 2) u03)) u05) ul8))))) (fun ds G R h=>?_)
 ·obtain ⟨p,rp,q1,q2,W,fr,ch,rows,ys,ns,st,rfl,_⟩:=h;rfl
 ·obtain ⟨p,rp,q1,q2,W,fr,ch,rows,ys,ns,st,rfl,A,k1,k2,n1,n2,h1,h2,h3,post⟩:=h
  have cpu:∀ {G:Gp} {q:Addr} {n:Int} {rows new:List Row} {Q:DK},LoomAt T.c_Loom.C G p rp W fr rows st->G q=some (.lst (new.map Row.d))->q ≠ rp->rows.length<=1000->new.length<=1000->(∀ G',LoomAt T.c_Loom.C G' p rp W fr (rows++(.go ch n (rows.length+new.length+1)::(new++[.come ch n rows.length]))) st->LAdv p rp G G'->Q .non G')->∃ R,w67 T [.ref p,.int (ch:Int),.int n,.ref q] G R /\ ∀ d G',R d G'->Q d G':=fun A hq nq h1 h2 k =>
   u13 (post:=fun d G'=>d=.non /\ LoomAt T.c_Loom.C G' p rp W fr _ st /\ LAdv p rp _ G') (fun R h'=>⟨p,rp,_,W,fr,ch,_,_,_,st,rfl,A,hq,nq,h1,h2,fun G' x y=>h' _ _ ⟨rfl,x,y⟩⟩) fun d G' ⟨e,x,y⟩=>by subst e;exact k G' x y
  have np:∀ {G:Gp} {q:Addr} {l:List Row} {rows:List Row},LoomAt T.c_Loom.C G p rp W fr rows st->G q=some (.lst (l.map Row.d))->q ≠ p:=fun A k z=>by rw [z,A.ob] at k;cases k
  simp! [A.ob,lm_all];refine cpu A k1 n1 (by omega) (by omega) fun G1 A1 a1=>?_
  have k2':=a1 _ _ (np A k2) n2 k2;have k1':=a1 _ _ (np A k1) n1 k1;simp! [A1.ob,lm_all];dsimp! [A1.ob,lm_all];refine cpu A1 k2' n2 (by rw [List.length_append,List.length_cons,List.length_append];show rows.length+(ys.length+1+1)<=1000;omega) (by omega) fun G2 A2 a2=>?_
  have k1'':=a2 _ _ (np A1 k1') n1 k1';have l2:((ys.map Row.d).length<=sizeLine)=True:=eq_true (by rw [List.length_map];exact Nat.le_trans (m:=3000) (by omega) (by decide));simp! [id];dsimp! [A2.ob,lm_all,k1'',l2,List.length_map];refine ⟨v69,?_⟩;rw [show ((st:Int)+((ys.length:Int)+3))=((st+(ys.length+3):Nat):Int) by omega,lm_all.2.2.2.2.2.2.2.2.2];refine post _ ⟨u02,?_⟩ fun b o h1 h2 e=>by rw [u06 h1];exact a2 b o h1 h2 (a1 b o h1 h2 e)
  rw [u06 (Ne.symm A.pr),A2.ro];have e3:(rows++(Row.go ch 0 (rows.length+ys.length+1)::(ys++[.come ch 0 rows.length]))).length=rows.length+(ys.length+2):=by rw [List.length_append,List.length_cons,List.length_append];rfl
  rw [e3,List.append_assoc];rfl
theorem wk3 {n:Nat}:Ok P w mg base (n+1) T.f_jae (w67 T):=by
 refine u12 T.f_jae sc_jae (fun ds G R h=>?_) (fun cdv A outer s H E hr =>
   (u01 (u21 4 sc_jae.nd (u37 ua3 rfl T.b_len (by decide) (u00 (u63 T.c_Loom.cl T.c_Loom.n_rows (ev 0)) u03)))
   (u01 (u38 (ud7 (u63 T.c_Loom.cl T.c_Loom.n_rows (ev 0)) (u00 (u22 (u00 u09 (u00 (ev 1) (u00 (ev 2) (u00 (u14 u49 (u14 u49 (ev 4) (u37 ua3 rfl T.b_len (by decide) (u00 (ev 3) u03))) u05) u03))))) u03)))
   (u01 (u38 (uw8 (u63 T.c_Loom.cl T.c_Loom.n_rows (ev 0)) (u00 (ev 3) u03)))
   (u07 (u38 (ud7 (u63 T.c_Loom.cl T.c_Loom.n_rows (ev 0)) (u00 (u22 (u00 u09 (u00 (ev 1) (u00 (ev 2) (u00 (ev 4) u03))))) u03)))))))) (fun ds G R h=>?_)
 ·obtain ⟨p,rp,q,W,fr,x,n,rows,new,st,rfl,_⟩:=h;rfl
 ·obtain ⟨p,rp,q,W,fr,x,n,rows,new,st,rfl,A,hq,nq,h1,h2,post⟩:=h
  have l1:((rows.map Row.d).length<=sizeLine)=True:=eq_true (by rw [List.length_map];exact Nat.le_trans (m:=3000) (by omega) (by decide));have l2:((new.map Row.d).length<=sizeLine)=True:=eq_true (by rw [List.length_map];exact Nat.le_trans (m:=3000) (by omega) (by decide));simp! [A.ob,A.ro,lm_all,l1];dsimp! [A.ob,A.ro,lm_all,hq,l2];refine ⟨by decide,by rw [List.length_map];exact Nat.lt_of_le_of_lt (m:=3000) (by omega) (by decide),?_⟩;have e1:(rows.map Row.d++[D.tup [D.str "go",.int (x:Int),.int n,.int (((rows.map Row.d).length:Int)+((new.map Row.d).length:Int)+1)]])=(rows++[Row.go x n (rows.length+new.length+1)]).map Row.d:=by
   rw [List.map_append,List.length_map,List.length_map];rfl
  rw [e1];obtain ⟨r2,hr2⟩:∃ r2,r2=rows++[Row.go x n (rows.length+new.length+1)]:=⟨_,rfl⟩;have hl2:r2.length=rows.length+1:=by rw [hr2,List.length_append];rfl
  rw [<- hr2];dsimp! [u06 A.pr,A.ob,lm_all,u02,u06 nq,hq];refine ⟨by rw [List.length_map,List.length_map];exact Nat.le_trans (m:=3000) (by omega) (by decide),?_⟩;rw [<- List.map_append];dsimp! [u06 A.pr,A.ob,lm_all,u02];refine ⟨by decide,by rw [List.length_map,List.length_append];exact Nat.lt_of_le_of_lt (m:=3000) (by omega) (by decide),?_⟩;rw [u30,u30];refine post _ ⟨by rw [u06 A.pr];exact A.ob,?_⟩ fun b o h1 h2 e=>by rw [u06 h2];exact e
  rw [u02,hr2];have e2:rows++(Row.go x n (rows.length+new.length+1)::(new++[.come x n rows.length]))=(rows++[Row.go x n (rows.length+new.length+1)]++new)++[Row.come x n rows.length]:=by simp
  rw [e2,List.map_append (l₁:=rows++[Row.go x n (rows.length+new.length+1)]++new),List.length_map];rfl
theorem wf4 {n:Nat} (G_jab:Ok P w mg base n T.f_jab (ws7 T)) (G_jci:Ok P w mg base (n+1) T.f_jci (wp7 T)):Ok P w mg base (n+1+1) T.f_jcf (wp9 T):=by
 refine u12 T.f_jcf sc_jcf (fun ds G R h=>?_) (fun cdv A outer s H E hr =>
   (u01 (u21 5 sc_jcf.nd (emk T.mk_Loom T.c_Loom.m G_jab hr (u00 (ev 2) (u00 (ev 4) u03))))
   (u01 (u21 6 sc_jcf.nd (uo7 hr rfl T.b_zip rfl T.b_dict (u00 (ev 1) (u00 (ev 3) u03))))
   (u01 (u38 (ec T.f_jci T.g_weave_rows G_jci hr (u00 (ev 0) (u00 (ev 6) (u00 (ev 5) u03)))))
   (u07 (u15 (u22 (u00 (u63 T.c_Loom.cl T.c_Loom.n_rows (ev 5)) (u00 (u67 (N':=["name", "where"]) (ix:=[none,some 6]) (blk (osc:=u04 vd4) (N:=["pieces", "boxes", "wide", "places", "fresh", "loom", "where"]) rfl rfl (by decide)) (u94 (ev 1)) (fun _ _ _ _=>(u20 0 (show (["name", "where"]:List Str).Nodup by decide))) (fun _ _ _ _=>u45) (fun _ _ _ _=>(ua2 hr (ev 1) (ev 0)))) (u00 (u63 T.c_Loom.cl T.c_Loom.n_fresh (ev 5)) (u00 (u63 T.c_Loom.cl T.c_Loom.n_steps (ev 5)) u03))))))))))) (fun ds G R h=>?_)
 ·obtain ⟨pc,pa,W,fr,bs,pl,rs,rfl,_⟩:=h;rfl
 ·obtain ⟨pc,pa,W,fr,bs,pl,rs,rfl,hpc,hpa,hl,hb,hn,hr,hs,hdp,hsz,hW,post⟩:=h
  simp! [id];intro p hp;have g0:Grow G (gup G p (.ins T.c_Loom.C [])):=Grow.refl.new hp;refine u13 (post:=fun d G'=>d=.non /\ ∃ rp,G rp=none /\ rp ≠ p /\ LoomAt T.c_Loom.C G' p rp W fr [] 0 /\ Grow G G') (fun R h=>⟨p,W,fr,rfl,u02,fun rp G' x1 x2 x3=>h _ _ ⟨rfl,rp,g0.none x1,Ne.symm (gne u02 x1),x2,⟨fun b o e=>x3 b o (gne e hp) (g0.kp _ _ e)⟩⟩⟩) ?_;rintro d G1 ⟨rfl,rp,hrp,nrp,A1,g1⟩;refine ⟨rfl,?_⟩;have hpa1:=g1.kp _ _ hpa;have hpc1:=g1.kp _ _ hpc;have hkb:(bs.map Sum.inr).map kD=bs.map D.str:=by rw [List.map_map];rfl
  dsimp! [ud9];refine ⟨bs.map Sum.inr,pl.map nD,by rw [hkb];rfl,by show u19 (G1 pa)=_;rw [hpa1];rfl,by rw [List.length_map,List.length_map];exact hl.symm,by rw [List.length_map];omega,fun wa hwa=>?_⟩;rw [uh7 hl hn];have g2:Grow G (gup G1 wa (.dic (u08 bs pl))):=g1.new hwa;have A2:=A1.new (o:=.dic (u08 bs pl)) hwa;have fwa:G wa=none:=g1.none hwa;dsimp! [id];refine u13 (post:=fun d G'=>d=.non /\ LoomAt T.c_Loom.C G' p rp W (wcL W bs rs 0 pl fr).2.2.1 (wcL W bs rs 0 pl fr).1 (wcL W bs rs 0 pl fr).2.2.2 /\ G' wa=some (.dic (u08 bs (wcL W bs rs 0 pl fr).2.1)) /\ (∀ b o,b ≠ p->b ≠ rp->b ≠ wa->gup G1 wa (.dic (u08 bs pl)) b=some o->G' b=some o)) (fun R h=>⟨.ref pc,p,rp,wa,W,fr,bs,pl,[],0,rs,rfl,A2,u02,by show u19 (gup G1 wa (.dic (u08 bs pl)) pc)=_;rw [g2.kp _ _ hpc];rfl,fun z=>gne hpc hrp (D.ref.inj z),hl,hb,hn,hr,hs,Nat.lt_of_le_of_lt hdp (by decide),by show 0+22 * szL rs<=440;omega,hW,fun G' x y z=>h _ _ ⟨rfl,by rw [List.nil_append,Nat.zero_add] at x;exact x,y,z⟩⟩) ?_;rintro d G3 ⟨rfl,A3,w3,f3⟩;have g3:Grow G G3:=⟨fun b o e=>f3 b o (gne e hp) (gne e hrp) (gne e fwa) (g2.kp _ _ e)⟩;simp! [id];dsimp! [A3.ob,lm_all];intro p1 hp1;have hl3:(wcL W bs rs 0 pl fr).2.1.length=bs.length:=(u82 hW hb rs (a:=0) (fr:=fr) hr hs hl).2.2.2.1;generalize hX:wcL W bs rs 0 pl fr=X at *;obtain ⟨new,pl3,f3',stp3⟩:=X;refine u34 (fun r σ G'=>∃ (l t:List Str) (v0:Option D),l++t=bs /\ r=t.map D.str /\ G'=gup G3 p1 (.lst ((l.map (gtB bs pl3)).map nD)) /\ σ=[v0,some (.ref wa)]) ⟨[],bs,none,rfl,rfl,rfl,rfl⟩ ?_ ?_
  ·rintro σ G4 ⟨l,t,v0,el,e2,rfl,rfl⟩
   have ht:t=[]:=by simpa using e2.symm
   subst ht;rw [List.append_nil] at el;subst el;refine ⟨trivial,?_⟩;have A4:=A3.new (o:=.lst ((l.map (gtB l pl3)).map nD)) hp1;simp! [A4.ob,lm_all];rw [uk1 hn hl3];rw [uk1 hn hl3] at A4;refine ⟨by decide,post rp p1 _ hrp (g3.none hp1) ?_ A4.ro u02 (g3.new hp1)⟩;exact gne A3.ro hp1
  ·rintro z t σ G4 ⟨l,t,v0,el,e2,rfl,rfl⟩ ih
   cases t with
   | nil=>cases e2
   | cons x0 t =>
    cases e2;refine ⟨trivial,?_⟩;have hm:x0 ∈ bs:=by rw [<- el];simp
    have hlen:=congrArg List.length el;rw [List.length_append,List.length_cons] at hlen;simp! [up3];refine ⟨wa,u08 bs pl3,.inr x0,_,rfl,rfl,by rw [u06 (gne w3 hp1)];exact w3,u51 hm hl3,?_⟩;simp! [u02];refine ⟨Nat.lt_of_le_of_lt (m:=1000) (by rw [List.length_map,List.length_map];omega) (by decide),ih _ _ ⟨l++[x0],t,_,by rw [<- el];simp,rfl,?_,rfl⟩⟩;rw [u30,List.map_append,List.map_append];rfl
theorem wf2 {n dp:Nat} (G_jcg:Ok P w mg base n T.f_jcg (wp8 T dp)) (G_jbw:Ok P w mg base n T.f_jbw (vk5 T)) (G_jck:Ok P w mg base n T.f_jck (wp6 T)):Ok P w mg base (n+1) T.f_jci (vb4 T (dp+1)):=by
 refine u12 T.f_jci sc_jci (fun ds G R h=>?_) (fun cdv A outer s H E hr =>
   (u07 (ub5 (u94 (ev 0)) (u20 3 sc_jci.nd) (u07 (s_if (u25 (x_eq hr) (e_ix x_ix (ev 3) u05) u09 (nomark _)) (u07 (ue4 hr (ev 1) (e_ix x_ix (ev 3) u05) (ec T.f_jbw T.g_place_of G_jbw hr (u00 (e_ix x_ix (ev 3) u05) (u00 (ev 1) (u00 (ev 2) u03)))))) (u07 (s_if (u25 (x_eq hr) (e_ix x_ix (ev 3) u05) u09 (nomark _)) (u01 (u21 4 sc_jci.nd (ec T.f_jbw T.g_place_of G_jbw hr (u00 (e_ix x_ix (ev 3) u05) (u00 (ev 1) (u00 (ev 2) u03)))))
   (u01 (u21 5 sc_jci.nd (ec T.f_jbw T.g_place_of G_jbw hr (u00 (e_ix x_ix (ev 3) u05) (u00 (ev 1) (u00 (ev 2) u03)))))
   (u07 (ue4 hr (ev 1) (e_ix x_ix (ev 3) u05) (ec T.f_jck T.g_weave_sign G_jck hr (u00 (e_ix x_ix (ev 3) u05) (u00 (ev 4) (u00 (ev 5) (u00 (ev 2) u03))))))))) (u07 (u38 (ec T.f_jcg T.g_weave_choose G_jcg hr (u00 (ev 3) (u00 (ev 1) (u00 (ev 2) u03))))))))))))) (fun ds G R h=>?_)
 ·obtain ⟨d,p,rp,wa,W,fr,bs,pl,rows,st,rs,rfl,_⟩:=h;rfl
 ·obtain ⟨d,p,rp,wa,W,fr,bs,pl,rows,st,rs,rfl,A,hw,h0,nd,hl,hb,hn,hok,hnt,hdp,hsz,hW,post⟩:=h
  have nwp:wa ≠ p:=fun z=>by rw [z,A.ob] at hw;cases hw
  have nwr:wa ≠ rp:=fun z=>by rw [z,A.ro] at hw;cases hw
  have kd:∀ G':Gp,(∀ b o,b ≠ p->b ≠ rp->b ≠ wa->G b=some o->G' b=some o)->sqD G' d=some (u32 rs):=by
   intro G' f;cases d with
   | tup ds=>exact h0
   | ref a =>
    have h0':u19 (G a)=some (u32 rs):=h0;cases e:G a with
    | none=>rw [e] at h0';cases h0'
    | some o =>
     have n1:a ≠ p:=fun z=>by rw [z,A.ob] at h0';cases h0'
     have n2:a ≠ rp:=fun z=>nd (by rw [z])
     have n3:a ≠ wa:=fun z=>by rw [z,hw] at h0';cases h0'
     show u19 (G' a)=_
     rw [f a o n1 n2 n3 e,<- e];exact h0'
   | _=>exact absurd h0 (by simp [sqD])
  refine v80 h0 rfl fun ok hok0=>?_
  refine u47 (fun r σ G'=>∃ (l t:List Rowp) (v3 v4 v5:Option D),l++t=rs /\ r=u32 t /\ LoomAt T.c_Loom.C G' p rp W (wcL W bs l rows.length pl fr).2.2.1 (rows++(wcL W bs l rows.length pl fr).1) (st+(wcL W bs l rows.length pl fr).2.2.2) /\ G' wa=some (.dic (u08 bs (wcL W bs l rows.length pl fr).2.1)) /\ (∀ b o,b ≠ p->b ≠ rp->b ≠ wa->G b=some o->G' b=some o) /\ σ=[some d,some (.ref wa),some (.ref p),v3,v4,v5]) ⟨[],rs,none,none,none,rfl,rfl,by show LoomAt T.c_Loom.C G p rp W fr (rows++[]) (st+0);rw [List.append_nil];exact A,hw,fun _ _ _ _ _ e=>e,rfl⟩ ?_ ?_
  ·rintro σ G1 ⟨l,t,v3,v4,v5,e,e2,A1,w1,f1,rfl⟩
   have ht:t=[]:=by
    cases t with
    | nil=>rfl
    | cons x t=>cases e2
   subst ht;rw [List.append_nil] at e;subst e;exact ⟨hok0 _ (kd _ f1),post G1 A1 w1 f1⟩
  ·rintro z r σ G1 ⟨l,t,v3,v4,v5,e,e2,A1,w1,f1,rfl⟩ ih
   cases t with
   | nil=>cases e2
   | cons r0 t =>
    cases e2;refine ⟨hok0 _ (kd _ f1),?_⟩;have hm:r0 ∈ rs:=by rw [<- e];simp
    have hor:=v51 hok hm;have hnr:=uv6 hnt hm;have hdr:=uk0 (Nat.le_of_lt_succ hdp) r0 hm;have hsn:=ut7 (W:=W) (bs:=bs) l (r:=r0) (a:=rows.length) (pl:=pl) (fr:=fr);have hsl:szL rs=szL l+(szR r0+szL t):=by rw [<- e,ue3];rfl
    have hoL:okL W bs l:=by rw [<- e] at hok;exact (okL_app.mp hok).1
    have hnL:ntL l:=by rw [<- e] at hnt;exact (ntL_app.mp hnt).1
    have hle:=u82 hW hb l (a:=rows.length) (fr:=fr) hoL hnL hl;generalize hX:wcL W bs l rows.length pl fr=X at *;obtain ⟨xr,xp,xf,xs⟩:=X;obtain ⟨q1,q2,q3,q4,q5⟩:xr.length<=22 * szL l /\ xf<=fr+9 * szL l /\ fr<=xf /\ xp.length=bs.length /\ xs<=22 * szL l:=hle;have A1:LoomAt T.c_Loom.C G1 p rp W xf (rows++xr) (st+xs):=A1;have w1:G1 wa=some (.dic (u08 bs xp)):=w1;have hrl:(rows++xr).length=rows.length+xr.length:=List.length_append;have ld:(u08 bs xp).length < sizeLine:=Nat.lt_of_le_of_lt (m:=1000) (by have:=u74 bs xp;omega) (by decide);have hsn:wcL W bs (l++[r0]) rows.length pl fr=(xr++(wcR W bs r0 (rows.length+xr.length) xp xf).1,(wcR W bs r0 (rows.length+xr.length) xp xf).2.1,(wcR W bs r0 (rows.length+xr.length) xp xf).2.2.1,xs+(wcR W bs r0 (rows.length+xr.length) xp xf).2.2.2):=hsn;generalize hFL:forL ok _ _ _ (u32 t)=FL at ih ⊢;have nxt:∀ (G2:Gp) (v3 v4 v5:Option D),LoomAt T.c_Loom.C G2 p rp W (wcR W bs r0 (rows.length+xr.length) xp xf).2.2.1 (rows++xr++(wcR W bs r0 (rows.length+xr.length) xp xf).1) (st+xs+(wcR W bs r0 (rows.length+xr.length) xp xf).2.2.2)->G2 wa=some (.dic (u08 bs (wcR W bs r0 (rows.length+xr.length) xp xf).2.1))->(∀ b o,b ≠ p->b ≠ rp->b ≠ wa->G1 b=some o->G2 b=some o)->FL [some d,some (.ref wa),some (.ref p),v3,v4,v5] G2:=fun G2 v3 v4 v5 B1 B2 B3 =>
     ih _ _ ⟨l++[r0],t,v3,v4,v5,by rw [<- e];simp,rfl,by rw [hsn,<- List.append_assoc,<- Nat.add_assoc];exact B1,by rw [hsn];exact B2,fun b o h1 h2 h3 e=>B3 b o h1 h2 h3 (f1 b o h1 h2 h3 e),rfl⟩
    have fin:∀ (G2:Gp) (v3 v4 v5:Option D) (x:Str) (b f2:Nat) (new:List Row),LoomAt T.c_Loom.C G2 p rp W f2 (rows++xr++new) (st+xs+new.length)->LAdv p rp G1 G2->x ∈ bs->wcR W bs r0 (rows.length+xr.length) xp xf=(new,ptB bs xp x b,f2,new.length)->FL [some d,some (.ref wa),some (.ref p),v3,v4,v5] (gup G2 wa (.dic (ua7 (u08 bs xp) (.inr x) (.int (b:Int))))):=by
     intro G2 v3 v4 v5 x b f2 new A2 a2 hx ev;rw [u83 hx hn q4];refine nxt _ _ _ _ ?_ ?_ fun c o h1 h2 h3 e=>?_
     ·rw [ev];exact ⟨by rw [u06 (Ne.symm nwp)];exact A2.ob,by rw [u06 (Ne.symm nwr)];exact A2.ro⟩
     ·rw [u02,ev]
     ·rw [u06 h3];exact a2 c o h1 h2 e
    cases r0 with
    | is x a =>
     obtain ⟨hx,ha⟩:x ∈ bs /\ okA W bs a:=hor;have hs1:szR (.is x a)=1:=rfl;simp! [rowD,v01];refine ul5 T A1 w1 q4 ha (by omega) fun G2 A2 a2=>?_
     simp! [id];refine ⟨wa,u08 bs xp,.inr x,rfl,rfl,a2 _ _ nwp nwr w1,ld,?_⟩;exact fin G2 _ _ _ x _ _ _ A2 a2 hx rfl
    | op x o a c =>
     obtain ⟨hx,ho,ha,hc⟩:x ∈ bs /\ o ∈ L3.signs /\ okA W bs a /\ okA W bs c:=hor;have hs1:szR (.op x o a c)=1:=rfl;have d1:(Str.ofString "op" = Str.ofString "is")=False:=eq_false (by decide);simp! [rowD,d1];refine ul5 T A1 w1 q4 ha (by omega) fun G2 A2 a2=>?_
     have hw2:=a2 _ _ nwp nwr w1;have la:=u85 (fr:=xf) a;have lc:=u85 (fr:=plF xf a) c;simp! [id];dsimp! [id];refine ul5 T A2 hw2 q4 hc (by rw [List.length_append];omega) fun G3 A3 a3=>?_
     have hw3:=a3 _ _ nwp nwr hw2;simp! [id];dsimp! [v01];refine u13 (post:=fun d G'=>d=.int ((sgB (plF (plF xf a) c) o:Nat):Int) /\ LoomAt T.c_Loom.C G' p rp W (sgF (plF (plF xf a) c) o) (rows++xr++plR xf a++plR (plF xf a) c++sgR W (plB bs xp xf a) (plB bs xp (plF xf a) c) (plF (plF xf a) c) o) (st+xs+(plR xf a).length+(plR (plF xf a) c).length+(sgR W (plB bs xp xf a) (plB bs xp (plF xf a) c) (plF (plF xf a) c) o).length) /\ LAdv p rp G3 G') (fun R h'=>⟨o,ho,p,rp,W,plF (plF xf a) c,plB bs xp xf a,plB bs xp (plF xf a) c,_,_,rfl,A3,hW,by rw [List.length_append,List.length_append];omega,fun G' x y=>h' _ _ ⟨rfl,x,y⟩⟩) ?_;rintro d G4 ⟨rfl,A4,a4⟩;simp! [id];refine ⟨wa,u08 bs xp,.inr x,rfl,rfl,a4 _ _ nwp nwr hw3,ld,?_⟩;refine fin G4 _ _ _ x _ _ _ ?_ (a2.trans (a3.trans a4)) hx rfl
     show LoomAt T.c_Loom.C G4 p rp W (sgF (plF (plF xf a) c) o) (rows++xr++(plR xf a++plR (plF xf a) c++sgR W (plB bs xp xf a) (plB bs xp (plF xf a) c) (plF (plF xf a) c) o)) (st+xs+(plR xf a++plR (plF xf a) c++sgR W (plB bs xp xf a) (plB bs xp (plF xf a) c) (plF (plF xf a) c) o).length)
     rw [show rows++xr++(plR xf a++plR (plF xf a) c++sgR W (plB bs xp xf a) (plB bs xp (plF xf a) c) (plF (plF xf a) c) o)=rows++xr++plR xf a++plR (plF xf a) c++sgR W (plB bs xp xf a) (plB bs xp (plF xf a) c) (plF (plF xf a) c) o by simp [List.append_assoc],List.length_append,List.length_append,<- Nat.add_assoc,<- Nat.add_assoc];exact A4
    | cho a ys ns =>
     have d1:(Str.ofString "choose" = Str.ofString "is")=False:=eq_false (by decide);have d2:(Str.ofString "choose" = Str.ofString "op")=False:=eq_false (by decide);have hd':1+max (depL ys) (depL ns)<=dp:=hdr;simp! [rowD,d1,d2];refine u13 (post:=fun d G'=>d=.non /\ LoomAt T.c_Loom.C G' p rp W (wcR W bs (.cho a ys ns) (rows.length+xr.length) xp xf).2.2.1 (rows++xr++(wcR W bs (.cho a ys ns) (rows.length+xr.length) xp xf).1) (st+xs+(wcR W bs (.cho a ys ns) (rows.length+xr.length) xp xf).2.2.2) /\ G' wa=some (.dic (u08 bs (wcR W bs (.cho a ys ns) (rows.length+xr.length) xp xf).2.1)) /\ ∀ b o,b ≠ p->b ≠ rp->b ≠ wa->G1 b=some o->G' b=some o) (fun R h'=>⟨p,rp,wa,W,xf,bs,xp,rows++xr,st+xs,a,ys,ns,rfl,A1,w1,q4,hb,hn,hor,hnr,by omega,by omega,by omega,hW,fun G' x y z=>h' _ _ ⟨rfl,by rw [hrl] at x;exact x,by rw [hrl] at y;exact y,z⟩⟩) ?_;rintro d G2 ⟨rfl,A2,w2,f2⟩;simp! [id];exact nxt G2 _ _ _ A2 w2 f2
    | tim k ys=>exact hnr.elim
theorem wf3 {n dp:Nat} (G_jaa:Ok P w mg base n T.f_jaa (uc9 T)) (G_jad:Ok P w mg base n T.f_jad (ws6 T)) (G_jci:Ok P w mg base n T.f_jci (vb4 T dp)) (G_jbw:Ok P w mg base n T.f_jbw (vk5 T)) (G_jcd:Ok P w mg base n T.f_jcd (wq1 T)):Ok P w mg base (n+1) T.f_jcg (wp8 T dp):=by
 refine u12 T.f_jcg sc_jcg (fun ds G R h=>?_) (fun cdv A outer s H E hr =>
   (u01 (u21 3 sc_jcg.nd (u48 ut3 rfl T.b_dict (by decide) (u00 (ev 1) u03)))
   (u01 (u38 (ec T.f_jci T.g_weave_rows G_jci hr (u00 (e_ix x_ix (ev 0) u05) (u00 (ev 3) (u00 (ev 2) u03)))))
   (u01 (u21 4 sc_jcg.nd (u48 ut3 rfl T.b_dict (by decide) (u00 (ev 1) u03)))
   (u01 (u38 (ec T.f_jci T.g_weave_rows G_jci hr (u00 (e_ix x_ix (ev 0) u05) (u00 (ev 4) (u00 (ev 2) u03)))))
   (u01 (u21 5 sc_jcg.nd (ec T.f_jcd T.g_truth G_jcd hr (u00 (ec T.f_jbw T.g_place_of G_jbw hr (u00 (e_ix x_ix (ev 0) u05) (u00 (ev 1) (u00 (ev 2) u03)))) (u00 (ev 2) u03))))
   (u01 (u38 (ww7 (ev 1) (ev 3)))
   (u01 (vo5 6 sc_jcg.nd (N':=["name", "yes", "no"]) (ix:=[none,some 3,some 4]) (blk (osc:=u04 uy3) (N:=["row", "where", "loom", "yes", "no", "chosen", "unlike", "name"]) rfl rfl (by decide)) (w26 (ev 3)) (fun _ _ _ _=>(u20 0 (show (["name", "yes", "no"]:List Str).Nodup by decide))) (fun _ _ _ _=>(w25 (u25 (x_ne hr) (v85 hr (ev 1) (ev 0)) (ua2 hr (ev 2) (ev 0)) (nomark _)))) (fun _ _ _ _=>(ev 0)))
   (u01 (ub5 (u94 (ev 6)) (u20 7 sc_jcg.nd) (u07 (ue4 hr (ev 1) (ev 7) (em0 T.c_Loom.cl T.f_jaa T.m_jaa G_jaa hr (ev 2)))))
   (u07 (u38 (em T.c_Loom.cl T.f_jad T.m_jad G_jad hr (ev 2) (u00 (ev 5) (u00 (u67 (N':=["name", "where", "yes"]) (ix:=[none,some 1,some 3]) (blk (osc:=u04 uy3) (N:=["row", "where", "loom", "yes", "no", "chosen", "unlike", "name"]) rfl rfl (by decide)) (u94 (ev 6)) (fun _ _ _ _=>(u20 0 (show (["name", "where", "yes"]:List Str).Nodup by decide))) (fun _ _ _ _=>u45) (fun _ _ _ _=>(u22 (u00 u09 (u00 (ua2 hr (ev 1) (ev 0)) (u00 (u22 (u00 u09 (u00 (v85 hr (ev 2) (ev 0)) u03))) u03)))))) (u00 (u67 (N':=["name", "where", "no"]) (ix:=[none,some 1,some 4]) (blk (osc:=u04 uy3) (N:=["row", "where", "loom", "yes", "no", "chosen", "unlike", "name"]) rfl rfl (by decide)) (u94 (ev 6)) (fun _ _ _ _=>(u20 0 (show (["name", "where", "no"]:List Str).Nodup by decide))) (fun _ _ _ _=>u45) (fun _ _ _ _=>(u22 (u00 u09 (u00 (ua2 hr (ev 1) (ev 0)) (u00 (u22 (u00 u09 (u00 (ua2 hr (ev 2) (ev 0)) u03))) u03)))))) u03))))))))))))))) (fun ds G R h=>?_)
 ·obtain ⟨p,rp,wa,W,fr,bs,pl,rows,st,c,ys,ns,rfl,_⟩:=h;rfl
 ·obtain ⟨p,rp,wa,W,fr,bs,pl,rows,st,c,ys,ns,rfl,A,hw,hl,hb,hn,hok,hnt,hdy,hdn,hsz,hW,post⟩:=h
  obtain ⟨hc,oky,okn⟩:okA W bs c /\ okL W bs ys /\ okL W bs ns:=hok;obtain ⟨nty,ntn⟩:ntL ys /\ ntL ns:=hnt;have hsz:rows.length+22 * (1+szL ys+szL ns)<=440:=hsz;have nwp:wa ≠ p:=fun z=>by rw [z,A.ob] at hw;cases hw
  have nwr:wa ≠ rp:=fun z=>by rw [z,A.ro] at hw;cases hw
  have hyl:=u82 hW hb ys (a:=rows.length) (fr:=fr) oky nty hl;simp! [rowD];refine ⟨wa,_,rfl,hw,fun py hpy=>?_⟩;have nyp:py ≠ p:=Ne.symm (gne A.ob hpy);have nyr:py ≠ rp:=Ne.symm (gne A.ro hpy);have nyw:py ≠ wa:=Ne.symm (gne hw hpy);dsimp! [id];refine u13 (post:=fun d G'=>d=.non /\ LoomAt T.c_Loom.C G' p rp W (wcL W bs ys rows.length pl fr).2.2.1 (rows++(wcL W bs ys rows.length pl fr).1) (st+(wcL W bs ys rows.length pl fr).2.2.2) /\ G' py=some (.dic (u08 bs (wcL W bs ys rows.length pl fr).2.1)) /\ ∀ b o,b ≠ p->b ≠ rp->b ≠ py->gup G py (.dic (u08 bs pl)) b=some o->G' b=some o) (fun R h'=>⟨.tup (u32 ys),p,rp,py,W,fr,bs,pl,rows,st,ys,rfl,A.new hpy,u02,rfl,by simp,hl,hb,hn,oky,nty,hdy,by omega,hW,fun G' x y z=>h' _ _ ⟨rfl,x,y,z⟩⟩) ?_;rintro d G2 ⟨rfl,A2,y2,f2⟩;have f2':∀ b o,b ≠ p->b ≠ rp->G b=some o->G2 b=some o:=fun b o h1 h2 e=>f2 b o h1 h2 (gne e hpy) (by rw [u06 (gne e hpy)];exact e)
  have w2:=f2' _ _ nwp nwr hw;have hcho:∀ {N:List Row × List Nat × Nat × Nat},wcL W bs ns (rows.length+(wcL W bs ys rows.length pl fr).1.length) pl (wcL W bs ys rows.length pl fr).2.2.1=N->wcR W bs (.cho c ys ns) rows.length pl fr=((wcL W bs ys rows.length pl fr).1++N.1++plR N.2.2.1 c++[Row.take (plF N.2.2.1 c) (.box (plB bs pl N.2.2.1 c)),Row.turn (plF N.2.2.1 c+1) 0 [(plF N.2.2.1 c,31)]]++chR (rows.length+((wcL W bs ys rows.length pl fr).1++N.1++plR N.2.2.1 c++[Row.take (plF N.2.2.1 c) (.box (plB bs pl N.2.2.1 c)),Row.turn (plF N.2.2.1 c+1) 0 [(plF N.2.2.1 c,31)]]).length) (plF N.2.2.1 c+1) (tkR (plF N.2.2.1 c+2) (uY (wcL W bs ys rows.length pl fr).2.1 N.2.1)) (tkR (plF N.2.2.1 c+2) (uN (wcL W bs ys rows.length pl fr).2.1 N.2.1)),mrg (plF N.2.2.1 c+2) (wcL W bs ys rows.length pl fr).2.1 N.2.1,plF N.2.2.1 c+2+(uY (wcL W bs ys rows.length pl fr).2.1 N.2.1).length,(wcL W bs ys rows.length pl fr).2.2.2+N.2.2.2+(plR N.2.2.1 c).length+2+((uY (wcL W bs ys rows.length pl fr).2.1 N.2.1).length+3)):=fun e=>by subst e;rfl
  generalize hY:wcL W bs ys rows.length pl fr=Y at *;obtain ⟨yr,yp,yf,yst⟩:=Y;obtain ⟨l1,l2,l3,l4,l5⟩:yr.length<=22 * szL ys /\ yf<=fr+9 * szL ys /\ fr<=yf /\ yp.length=bs.length /\ yst<=22 * szL ys:=hyl;have A2:LoomAt T.c_Loom.C G2 p rp W yf (rows++yr) (st+yst):=A2;have y2:G2 py=some (.dic (u08 bs yp)):=y2;have hnl:=u82 hW hb ns (a:=rows.length+yr.length) (fr:=yf) okn ntn hl;have hrl:(rows++yr).length=rows.length+yr.length:=List.length_append;simp! [id];dsimp! [id];refine ⟨wa,_,rfl,w2,fun pn hpn=>?_⟩;have nnp:pn ≠ p:=Ne.symm (gne A2.ob hpn);have nnr:pn ≠ rp:=Ne.symm (gne A2.ro hpn);have nnw:pn ≠ wa:=Ne.symm (gne w2 hpn);have nny:pn ≠ py:=Ne.symm (gne y2 hpn);dsimp! [id];refine u13 (post:=fun d G'=>d=.non /\ LoomAt T.c_Loom.C G' p rp W (wcL W bs ns (rows.length+yr.length) pl yf).2.2.1 (rows++yr++(wcL W bs ns (rows.length+yr.length) pl yf).1) (st+yst+(wcL W bs ns (rows.length+yr.length) pl yf).2.2.2) /\ G' pn=some (.dic (u08 bs (wcL W bs ns (rows.length+yr.length) pl yf).2.1)) /\ ∀ b o,b ≠ p->b ≠ rp->b ≠ pn->gup G2 pn (.dic (u08 bs pl)) b=some o->G' b=some o) (fun R h'=>⟨.tup (u32 ns),p,rp,pn,W,yf,bs,pl,rows++yr,st+yst,ns,rfl,A2.new hpn,u02,rfl,by simp,hl,hb,hn,okn,ntn,hdn,by rw [hrl];omega,hW,fun G' x y z=>h' _ _ ⟨rfl,by rw [hrl] at x;exact x,by rw [hrl] at y;exact y,z⟩⟩) ?_;rintro d G4 ⟨rfl,A4,n4,f4⟩;have f4':∀ b o,b ≠ p->b ≠ rp->G2 b=some o->G4 b=some o:=fun b o h1 h2 e=>f4 b o h1 h2 (gne e hpn) (by rw [u06 (gne e hpn)];exact e)
  have w4:=f4' _ _ nwp nwr w2;have y4:=f4' _ _ nyp nyr y2;have hcho:=hcho (N:=wcL W bs ns (rows.length+yr.length) pl yf) rfl;generalize hN:wcL W bs ns (rows.length+yr.length) pl yf=N at *;obtain ⟨nr,np,nf,nst⟩:=N;obtain ⟨m1,m2,m3,m4,m5⟩:nr.length<=22 * szL ns /\ nf<=yf+9 * szL ns /\ yf<=nf /\ np.length=bs.length /\ nst<=22 * szL ns:=hnl;have A4:LoomAt T.c_Loom.C G4 p rp W nf (rows++yr++nr) (st+yst+nst):=A4;have n4:G4 pn=some (.dic (u08 bs np)):=n4;have hpc:=u85 (fr:=nf) c;simp! [id];dsimp! [id];refine ul5 T A4 w4 hl hc (by rw [List.length_append,hrl];omega) fun G5 A5 a5=>?_
  simp! [id];refine u13 (post:=fun d G'=>d=.int ((plF nf c+1:Nat):Int) /\ LoomAt T.c_Loom.C G' p rp W (plF nf c+2) (rows++yr++nr++plR nf c++[.take (plF nf c) (.box (plB bs pl nf c)),.turn (plF nf c+1) 0 [(plF nf c,31)]]) (st+yst+nst+(plR nf c).length+2) /\ LAdv p rp G5 G') (fun R h'=>⟨p,rp,W,plF nf c,plB bs pl nf c,_,_,rfl,A5,by rw [List.length_append,List.length_append,hrl];omega,fun G' x y=>h' _ _ ⟨rfl,x,y⟩⟩) ?_;rintro d G6 ⟨rfl,A6,a6⟩;have f6:∀ b o,b ≠ p->b ≠ rp->G4 b=some o->G6 b=some o:=fun b o h1 h2 e=>a6 b o h1 h2 (a5 b o h1 h2 e)
  have w6:=f6 _ _ nwp nwr w4;have y6:=f6 _ _ nyp nyr y4;have n6:=f6 _ _ nnp nnr n4;generalize hF:plF nf c+2=F at *;simp! [id];dsimp! [dUpd];refine ⟨⟨wa,_,rfl,w6⟩,wa,py,_,_,rfl,rfl,Ne.symm nyw,w6,y6,Nat.le_trans (m:=1000) (by have:=u74 bs pl;have:=u74 bs yp;omega) (by decide),?_⟩;rw [v58 hn hl l4];obtain ⟨G7,hG7⟩:∃ G7,G7=gup G6 wa (.dic (u08 bs yp)):=⟨_,rfl⟩;have w7:G7 wa=some (.dic (u08 bs yp)):=by rw [hG7];exact u02
  have y7:G7 py=some (.dic (u08 bs yp)):=by rw [hG7,u06 nyw];exact y6
  have n7:G7 pn=some (.dic (u08 bs np)):=by rw [hG7,u06 nnw];exact n6
  have A7:LoomAt T.c_Loom.C G7 p rp W F (rows++yr++nr++plR nf c++[.take (plF nf c) (.box (plB bs pl nf c)),.turn (plF nf c+1) 0 [(plF nf c,31)]]) (st+yst+nst+(plR nf c).length+2):=by rw [hG7];exact ⟨by rw [u06 (Ne.symm nwp)];exact A6.ob,by rw [u06 (Ne.symm nwr)];exact A6.ro⟩
  have f7:∀ b o,b ≠ p->b ≠ rp->b ≠ wa->G b=some o->G7 b=some o:=fun b o h1 h2 h3 e=>by rw [hG7,u06 h3];exact f6 b o h1 h2 (f4' b o h1 h2 (f2' b o h1 h2 e))
  rw [<- hG7];clear hG7;generalize hPre:rows++yr++nr++plR nf c++[Row.take (plF nf c) (.box (plB bs pl nf c)),.turn (plF nf c+1) 0 [(plF nf c,31)]]=pre at *;generalize hSt:st+yst+nst+(plR nf c).length+2=stp at *;dsimp! [vl7];refine ⟨py,u08 bs yp,rfl,y7,?_⟩;rw [uw9 l4];obtain ⟨G8,hG8⟩:∃ G8,G8=gup G7 py (.frd (u08 bs yp)):=⟨_,rfl⟩;have w8:G8 wa=some (.dic (u08 bs yp)):=by rw [hG8,u06 (Ne.symm nyw)];exact w7
  have y8:G8 py=some (.frd (u08 bs yp)):=by rw [hG8];exact u02
  have n8:G8 pn=some (.dic (u08 bs np)):=by rw [hG8,u06 nny];exact n7
  have A8:LoomAt T.c_Loom.C G8 p rp W F pre stp:=by rw [hG8];exact ⟨by rw [u06 (Ne.symm nyp)];exact A7.ob,by rw [u06 (Ne.symm nyr)];exact A7.ro⟩
  have f8:∀ b o,b ≠ p->b ≠ rp->b ≠ wa->G b=some o->G8 b=some o:=fun b o h1 h2 h3 e=>by rw [hG8,u06 (gne e hpy)];exact f7 b o h1 h2 h3 e
  rw [<- hG8];clear hG8;intro p1 hp1;generalize hN9:Go (dSeq _ _ _)=N9;have np1:py ≠ p1:=gne y8 hp1;have nn1:pn ≠ p1:=gne n8 hp1;refine u34 (fun r σ G'=>∃ (l t:List Str) (v0:Option D),l++t=bs /\ r=t.map D.str /\ G'=gup G8 p1 (.lst ((l.filter fun n=>!decide (gtB bs yp n=gtB bs np n)).map D.str)) /\ σ=[v0,some (.ref py),some (.ref pn)]) ⟨[],bs,none,rfl,rfl,rfl,rfl⟩ ?_ ?_
  ·rintro σ G9 ⟨l,t,v0,el,e2,rfl,rfl⟩
   have ht:t=[]:=by simpa using e2.symm
   subst ht;rw [List.append_nil] at el;subst el;refine ⟨by rw [u06 np1];exact y8,?_⟩;rw [ug7 hn l4 m4];have hU:=v14 (bs:=l) (ps:=yp) (qs:=np) l4 m4;have hUl:=u_le (ps:=yp) (qs:=np);have hUm:=fun x=>ue2 (bs:=l) (ps:=yp) (qs:=np) (x:=x)
   have hAsg:=ut0 (f:=F) hn l4 m4;have hTk:=uj4 (f:=F) hn l4 m4;generalize unN l yp np=U at *;obtain ⟨G9,hG9⟩:∃ G9,G9=gup G8 p1 (.lst (U.map D.str)):=⟨_,rfl⟩;have w9:G9 wa=some (.dic (u08 l yp)):=by rw [hG9,u06 (gne w8 hp1)];exact w8
   have y9:G9 py=some (.frd (u08 l yp)):=by rw [hG9,u06 np1];exact y8
   have n9:G9 pn=some (.dic (u08 l np)):=by rw [hG9,u06 nn1];exact n8
   have u9:G9 p1=some (.lst (U.map D.str)):=by rw [hG9];exact u02
   have A9:LoomAt T.c_Loom.C G9 p rp W F pre stp:=by rw [hG9];exact A8.new hp1
   have n1w:p1 ≠ wa:=Ne.symm (gne w8 hp1);have n1p:p1 ≠ p:=Ne.symm (gne A8.ob hp1);have n1r:p1 ≠ rp:=Ne.symm (gne A8.ro hp1);have f9:∀ b o,b ≠ p->b ≠ rp->b ≠ wa->G b=some o->G9 b=some o:=fun b o h1 h2 h3 e=>by have:=f8 b o h1 h2 h3 e;rw [hG9,u06 (gne this hp1)];exact this
   rw [<- hG9];clear hG9;rw [<- hN9];dsimp! [u9];generalize hNA:Go (v98 _ _)=NA;refine u47 (fun r σ G'=>∃ (u1 u2:List Str) (v7:Option D),u1++u2=U /\ r=u2.map D.str /\ LoomAt T.c_Loom.C G' p rp W (F+u1.length) pre stp /\ G' wa=some (.dic (u08 l (asg l u1 F yp))) /\ (∀ b o,b ≠ p->b ≠ rp->b ≠ wa->G9 b=some o->G' b=some o) /\ σ=[some (.tup [.str (Str.ofString "choose"),aD c,.tup (u32 ys),.tup (u32 ns)]),some (.ref wa),some (.ref p),some (.ref py),some (.ref pn),some (.int ((plF nf c+1:Nat):Int)),some (.ref p1),v7]) ⟨[],U,none,rfl,rfl,A9,w9,fun _ _ _ _ _ e=>e,rfl⟩ ?_ ?_
   ·rintro σ G10 ⟨u1,u2,v7,eu,e2,A10,w10,f10,rfl⟩
    have ht:u2=[]:=by simpa using e2.symm
    subst ht;rw [List.append_nil] at eu;subst eu;have u10:=f10 _ _ n1p n1r n1w u9;refine ⟨by rw [u10];rfl,?_⟩;rw [hAsg] at w10;have y10:=f10 _ _ nyp nyr nyw y9;have n10:=f10 _ _ nnp nnr nnw n9;have hml:=ue6 (ps:=yp) (qs:=np) (fr:=F) (by omega);rw [<- hNA];dsimp! [A10.ob,lm_all,u10];intro q1 hq1;have dl:(u08 l (mrg F yp np)).length<=6:=by have:=u74 l (mrg F yp np);omega
    refine u34 (fun r σ G'=>∃ (a t:List Str) (v0:Option D),a++t=u1 /\ r=t.map D.str /\ G'=gup G10 q1 (.lst ((a.map fun n=>Row.add (gtB l (mrg F yp np) n) (.box (gtB l yp n))).map Row.d)) /\ σ=[v0,some (.ref wa),some (.ref py)]) ⟨[],u1,none,rfl,rfl,rfl,rfl⟩ ?_ ?_
    ·rintro σ G11 ⟨a,t,v0,ea,e2,rfl,rfl⟩
     have ht:t=[]:=by simpa using e2.symm
     subst ht;rw [List.append_nil] at ea;subst ea;rw [hTk.1];obtain ⟨G11,hG11⟩:∃ G11,G11=gup G10 q1 (.lst ((tkR F (uY yp np)).map Row.d)):=⟨_,rfl⟩;have g11:∀ b o,G10 b=some o->G11 b=some o:=fun b o e=>by rw [hG11,u06 (gne e hq1)];exact e
     have k11:G11 q1=some (.lst ((tkR F (uY yp np)).map Row.d)):=by rw [hG11];exact u02
     have A11:LoomAt T.c_Loom.C G11 p rp W (F+a.length) pre stp:=by rw [hG11];exact A10.new hq1
     have nq1r:q1 ≠ rp:=Ne.symm (gne A10.ro hq1);rw [<- hG11];clear hG11;have u11:=g11 _ _ u10;refine ⟨by rw [u11];rfl,?_⟩;simp only [u11,u19];intro q2 hq2;refine u34 (fun r σ G'=>∃ (b t:List Str) (v0:Option D),b++t=a /\ r=t.map D.str /\ G'=gup G11 q2 (.lst ((b.map fun n=>Row.add (gtB l (mrg F yp np) n) (.box (gtB l np n))).map Row.d)) /\ σ=[v0,some (.ref wa),some (.ref pn)]) ⟨[],a,none,rfl,rfl,rfl,rfl⟩ ?_ ?_
     ·rintro σ G12 ⟨b,t,v0,eb,e2,rfl,rfl⟩
      have ht:t=[]:=by simpa using e2.symm
      subst ht;rw [List.append_nil] at eb;subst eb;rw [hTk.2];obtain ⟨G12,hG12⟩:∃ G12,G12=gup G11 q2 (.lst ((tkR F (uN yp np)).map Row.d)):=⟨_,rfl⟩;have g12:∀ b o,G11 b=some o->G12 b=some o:=fun b o e=>by rw [hG12,u06 (gne e hq2)];exact e
      have k12:G12 q2=some (.lst ((tkR F (uN yp np)).map Row.d)):=by rw [hG12];exact u02
      have A12:LoomAt T.c_Loom.C G12 p rp W (F+b.length) pre stp:=by rw [hG12];exact A11.new hq2
      have nq2r:q2 ≠ rp:=Ne.symm (gne A11.ro hq2);rw [<- hG12];clear hG12;refine ⟨by rw [g12 _ _ u11],?_⟩;have hul:=ux6 (ps:=yp) (qs:=np);have hpl:pre.length<=500:=by
       rw [<- hPre,List.length_append,List.length_append,List.length_append,hrl]
       show rows.length+yr.length+nr.length+(plR nf c).length+2<=500
       omega
      refine u13 (post:=fun d G'=>d=.non /\ LoomAt T.c_Loom.C G' p rp W (F+b.length) (pre++chR pre.length (plF nf c+1) (tkR F (uY yp np)) (tkR F (uN yp np))) (stp+((tkR F (uY yp np)).length+3)) /\ LAdv p rp G12 G') (fun R h'=>⟨p,rp,q1,q2,W,F+b.length,plF nf c+1,pre,_,_,stp,rfl,A12,g12 _ _ k11,k12,nq1r,nq2r,hpl,by rw [u75];omega,by rw [u75];omega,fun G' x y=>h' _ _ ⟨rfl,x,y⟩⟩) ?_;rintro d G13 ⟨rfl,A13,a13⟩;have f13:∀ c o,c ≠ p->c ≠ rp->G10 c=some o->G13 c=some o:=fun c o h1 h2 e=>a13 c o h1 h2 (g12 c o (g11 c o e))
      refine post G13 ?_ ?_ fun c o h1 h2 h3 e=>f13 c o h1 h2 (f10 c o h1 h2 h3 (f9 c o h1 h2 h3 e))
      ·rw [hcho]
       show LoomAt T.c_Loom.C G13 p rp W (F+(uY yp np).length) (rows++(yr++nr++plR nf c++[Row.take (plF nf c) (.box (plB l pl nf c)),.turn (plF nf c+1) 0 [(plF nf c,31)]]++chR (rows.length+(yr++nr++plR nf c++[Row.take (plF nf c) (.box (plB l pl nf c)),.turn (plF nf c+1) 0 [(plF nf c,31)]]).length) (plF nf c+1) (tkR F (uY yp np)) (tkR F (uN yp np)))) (st+(yst+nst+(plR nf c).length+2+((uY yp np).length+3)))
       have hP:pre=rows++(yr++nr++plR nf c++[Row.take (plF nf c) (.box (plB l pl nf c)),.turn (plF nf c+1) 0 [(plF nf c,31)]]):=by rw [<- hPre];simp only [List.append_assoc]
       generalize yr++nr++plR nf c++[Row.take (plF nf c) (.box (plB l pl nf c)),.turn (plF nf c+1) 0 [(plF nf c,31)]]=PP at hP ⊢;rw [u75,hP,List.length_append,List.append_assoc,hU,<- hSt] at A13;rw [show st+(yst+nst+(plR nf c).length+2+((uY yp np).length+3))=st+yst+nst+(plR nf c).length+2+((uY yp np).length+3) by omega];exact A13
      ·rw [hcho]
       exact f13 _ _ nwp nwr w10
     ·rintro z t σ G12 ⟨b,t,v0,eb,e2,rfl,rfl⟩ ih
      cases t with
      | nil=>cases e2
      | cons x0 t =>
       cases e2;have hx:x0 ∈ l:=hUm x0 (by rw [<- eb];simp);have hlen:=congrArg List.length eb;rw [List.length_append,List.length_cons] at hlen;refine ⟨by rw [u06 (gne u11 hq2),u11],?_⟩;simp! [up3];have w11:=g11 _ _ w10;have n11:=g11 _ _ n10;refine ⟨wa,u08 l (mrg F yp np),.inr x0,_,rfl,rfl,by rw [u06 (gne w11 hq2)];exact w11,u51 hx (by omega),pn,u08 l np,.inr x0,_,rfl,rfl,by rw [u06 (gne n11 hq2)];exact n11,u51 hx m4,?_⟩;simp! [u02];refine ⟨by decide,by decide,Nat.lt_of_le_of_lt (m:=1000) (by rw [List.length_map,List.length_map];omega) (by decide),ih _ _ ⟨b++[x0],t,_,by rw [<- eb];simp,rfl,?_,rfl⟩⟩;rw [u30,List.map_append,List.map_append];rfl
    ·rintro z t σ G11 ⟨a,t,v0,ea,e2,rfl,rfl⟩ ih
     cases t with
     | nil=>cases e2
     | cons x0 t =>
      cases e2;have hx:x0 ∈ l:=hUm x0 (by rw [<- ea];simp);have hlen:=congrArg List.length ea;rw [List.length_append,List.length_cons] at hlen;refine ⟨by rw [u06 (gne u10 hq1),u10];rfl,?_⟩;simp! [up3,vj8];refine ⟨wa,u08 l (mrg F yp np),.inr x0,_,rfl,rfl,by rw [u06 (gne w10 hq1)];exact w10,u51 hx (by omega),py,u08 l yp,.inr x0,_,rfl,rfl,by rw [u06 (gne y10 hq1)];exact y10,u51 hx l4,?_⟩;simp! [u02];refine ⟨by decide,by decide,Nat.lt_of_le_of_lt (m:=1000) (by rw [List.length_map,List.length_map];omega) (by decide),ih _ _ ⟨a++[x0],t,_,by rw [<- ea];simp,rfl,?_,rfl⟩⟩;rw [u30,List.map_append,List.map_append];rfl
   ·rintro z r σ G10 ⟨u1,u2,v7,eu,e2,A10,w10,f10,rfl⟩ ih
    cases u2 with
    | nil=>cases e2
    | cons x0 u2 =>
     cases e2;have hx:x0 ∈ l:=hUm x0 (by rw [<- eu];simp);refine ⟨by rw [f10 _ _ n1p n1r n1w u9];rfl,?_⟩;simp! [v01,A10.ob,lm_all];refine u62 T A10 fun G11 A11 a11=>?_
     simp! [id];have w11:=a11 _ _ nwp nwr w10;refine ⟨wa,u08 l (asg l u1 F yp),.inr x0,rfl,rfl,w11,Nat.lt_of_le_of_lt (m:=1000) (by have:=u74 l (asg l u1 F yp);omega) (by decide),?_⟩;rw [u83 hx hn (by rw [va9];exact l4),<- ux5];refine ih _ _ ⟨u1++[x0],u2,_,by rw [<- eu];simp,rfl,?_,u02,fun b o h1 h2 h3 e=>by rw [u06 h3];exact a11 b o h1 h2 (f10 b o h1 h2 h3 e),rfl⟩;rw [List.length_append,show F+(u1.length+[x0].length)=F+u1.length+1 from rfl];exact ⟨by rw [u06 (Ne.symm nwp)];exact A11.ob,by rw [u06 (Ne.symm nwr)];exact A11.ro⟩
  ·rintro z t σ G9 ⟨l,t,v0,el,e2,rfl,rfl⟩ ih
   cases t with
   | nil=>cases e2
   | cons x0 t =>
    cases e2;refine ⟨by rw [u06 np1];exact y8,?_⟩;have hm:x0 ∈ bs:=by rw [<- el];simp
    simp! [vj8,up3];refine ⟨py,u08 bs yp,.inr x0,_,rfl,rfl,by rw [u06 np1];exact y8,u51 hm l4,?_⟩;refine ⟨pn,u08 bs np,.inr x0,_,rfl,rfl,by rw [u06 nn1];exact n8,u51 hm m4,?_⟩;simp! [u02];have hlen:=congrArg List.length el;rw [List.length_append,List.length_cons] at hlen
    by_cases q:gtB bs yp x0=gtB bs np x0
    ·rw [if_neg (by simp [q])]
     refine ih _ _ ⟨l++[x0],t,_,by rw [<- el];simp,rfl,?_,rfl⟩;rw [List.filter_append,List.filter_cons_of_neg (by simp [q]),List.filter_nil,List.append_nil]
    ·rw [if_pos (by rw [decide_eq_false (by omega)];rfl)]
     refine ⟨Nat.lt_of_le_of_lt (m:=1000) (by rw [List.length_map];have:=List.length_filter_le (fun n=>!decide (gtB bs yp n=gtB bs np n)) l;omega) (by decide),ih _ _ ⟨l++[x0],t,_,by rw [<- el];simp,rfl,?_,rfl⟩⟩;rw [u30,List.filter_append,List.filter_cons_of_pos (by simp [q]),List.filter_nil,List.map_append];rfl
theorem wg3 {n:Nat} (G_jaa:Ok P w mg base n T.f_jaa (uc9 T)) (G_jac:Ok P w mg base n T.f_jac (uc8 T)):Ok P w mg base (n+1) T.f_jbw (vk5 T):=by
 refine u12 T.f_jbw sc_jbw (fun ds G R h=>?_) (fun cdv A outer s H E hr =>
   (u01 (s_if (uc5 (u37 vc3 rfl T.b_isinstance (by decide) (u00 (ev 0) (u00 (wn6 (T := "str") T.b_str (by decide)) u03)))) (u07 (u15 (ua2 hr (ev 1) (ev 0)))) u23)
   (u01 (u21 3 sc_jbw.nd (em0 T.c_Loom.cl T.f_jaa T.m_jaa G_jaa hr (ev 2)))
   (u01 (u38 (em T.c_Loom.cl T.f_jac T.m_jac G_jac hr (ev 2) (u00 (u46 (u00 (u22 (u00 u09 (u00 (ev 3) (u00 (u22 (u00 u09 (u00 (ev 0) u03))) u03)))) u03)) u03)))
   (u07 (u15 (ev 3))))))) (fun ds G R h=>?_)
 ·obtain ⟨p,rp,wa,W,fr,rows,st,bs,pl,a,rfl,_⟩:=h;rfl
 ·obtain ⟨p,rp,wa,W,fr,rows,st,bs,pl,a,rfl,A,hw,hl,ha,h1,post⟩:=h
  cases a with
  | num i =>
   simp! [aD,uz4];refine ⟨by simp,?_⟩;rw [if_neg (by decide)];dsimp! [A.ob,lm_all];refine u62 T A fun G1 A1 a1=>?_
   simp! [id];dsimp! [A1.ob,lm_all];refine ⟨by decide,by decide,by decide,fun p1 hp1=>?_⟩;refine ub0 T (new:=[.add fr (.num (i:Int))]) A1 hp1 (by omega) (Nat.le_of_ble_eq_true rfl) fun G2 A2 a2=>?_
   simp! [id];dsimp! [id];exact post G2 A2 (a1.trans a2)
  | box x =>
   simp! [aD,uz4,up3];refine ⟨by simp,?_⟩;rw [if_pos (by decide)];exact ⟨wa,_,.inr x,_,rfl,rfl,hw,u51 ha hl,post G (by rw [show rows++plR fr (.box x)=rows from List.append_nil _];exact A) LAdv.refl⟩
theorem wf1 {n:Nat} (G_jcc:Ok P w mg base n T.f_jcc (wq2 T)) (G_jat:Ok P w mg base n T.f_jat (ws0 T)) (G_jao:Ok P w mg base n T.f_jao (w62 T)) (G_jan:Ok P w mg base n T.f_jan (ws3 T)) (G_jap:Ok P w mg base n T.f_jap (ws2 T)) (G_jca:Ok P w mg base n T.f_jca (wq3 T)) (G_jal:Ok P w mg base n T.f_jal (ws4 T)):Ok P w mg base (n+1) T.f_jck (wp6 T):=by
 refine u12 T.f_jck vm5 (fun ds G R h=>?_) (fun cdv A outer s H E hr =>
   (u01 (s_if (u25 (x_eq hr) (ev 0) u09 (nomark _)) (u07 (u15 (ec T.f_jcc T.g_total G_jcc hr (u00 (ev 1) (u00 (ev 2) (u00 (ev 3) u03)))))) u23)
   (u01 (s_if (u25 (x_eq hr) (ev 0) u09 (nomark _)) (u07 (u15 (ec T.f_jat T.g_difference G_jat hr (u00 (ev 1) (u00 (ev 2) (u00 (ev 3) u03)))))) u23)
   (u01 (s_if (u25 (x_eq hr) (ev 0) u09 (nomark _)) (u07 (u15 (ec T.f_jao T.g_bits_of_both G_jao hr (u00 (ev 1) (u00 (ev 2) (u00 (ev 3) u03)))))) u23)
   (u01 (s_if (u25 (x_eq hr) (ev 0) u09 (nomark _)) (u07 (u15 (ec T.f_jan T.g_bits_of_any G_jan hr (u00 (ev 1) (u00 (ev 2) (u00 (ev 3) u03)))))) u23)
   (u01 (s_if (u25 (x_eq hr) (ev 0) u09 (nomark _)) (u07 (u15 (ec T.f_jap T.g_bits_of_one G_jap hr (u00 (ev 1) (u00 (ev 2) (u00 (ev 3) u03)))))) u23)
   (u01 (s_if (u25 (x_eq hr) (ev 0) u09 (nomark _)) (u07 (u15 (ec T.f_jca T.g_smaller G_jca hr (u00 (ev 1) (u00 (ev 2) (u00 (ev 3) u03)))))) u23)
   (u07 (u15 (ec T.f_jal T.g_alike G_jal hr (u00 (ev 1) (u00 (ev 2) (u00 (ev 3) u03))))))))))))) (fun ds G R h=>?_)
 ·obtain ⟨o,ho,p,rp,W,fr,x,y,rows,st,rfl,_⟩:=h;rfl
 ·obtain ⟨o,ho,p,rp,W,fr,x,y,rows,st,rfl,A,hW,hl,post⟩:=h
  rcases ud4 ho with rfl | rfl | rfl | rfl | rfl | rfl | rfl
  ·simp! [List.cons_append,List.nil_append]
   exact ug0 T (xs:=xy) (bx:=fun fr=>fr) (fn:=fun fr=>fr+2) (nw:=fun W x y fr=>sgR W x y fr "+") A hW (by omega) post
  ·simp! [List.cons_append,List.nil_append]
   rw [if_neg (by decide)];dsimp! [id];exact ug0 T (xs:=xy) (bx:=fun fr=>fr) (fn:=fun fr=>fr+2) (nw:=fun W x y fr=>sgR W x y fr "-") A hW (by omega) post
  ·simp! [List.cons_append,List.nil_append]
   rw [if_neg (by decide)];dsimp! [id];rw [if_neg (by decide)];dsimp! [id];exact ug0 T (xs:=xy) (bx:=fun fr=>fr) (fn:=fun fr=>fr+1) (nw:=fun W x y fr=>andR fr x y W) A hW (by omega) post
  ·simp! [List.cons_append,List.nil_append]
   rw [if_neg (by decide)];dsimp! [id];rw [if_neg (by decide)];dsimp! [id];rw [if_neg (by decide)];dsimp! [id];exact ug0 T (xs:=xy) (bx:=fun fr=>fr+1) (fn:=fun fr=>fr+2) (nw:=fun W x y fr=>sgR W x y fr "|") A hW (by omega) post
  ·simp! [List.cons_append,List.nil_append]
   rw [if_neg (by decide)];dsimp! [id];rw [if_neg (by decide)];dsimp! [id];rw [if_neg (by decide)];dsimp! [id];rw [if_neg (by decide)];dsimp! [id];exact ug0 T (xs:=xy) (bx:=fun fr=>fr+1) (fn:=fun fr=>fr+2) (nw:=fun W x y fr=>sgR W x y fr "^") A hW (by omega) post
  ·simp! [List.cons_append,List.nil_append]
   rw [if_neg (by decide)];dsimp! [id];rw [if_neg (by decide)];dsimp! [id];rw [if_neg (by decide)];dsimp! [id];rw [if_neg (by decide)];dsimp! [id];rw [if_neg (by decide)];dsimp! [id];exact ug0 T (xs:=xy) (bx:=fun fr=>fr+1) (fn:=fun fr=>fr+2) (nw:=fun W x y fr=>sgR W x y fr "<") A hW (by omega) post
  ·simp! [List.cons_append,List.nil_append]
   rw [if_neg (by decide)];dsimp! [id];rw [if_neg (by decide)];dsimp! [id];rw [if_neg (by decide)];dsimp! [id];rw [if_neg (by decide)];dsimp! [id];rw [if_neg (by decide)];dsimp! [id];rw [if_neg (by decide)];dsimp! [id];exact ug0 T (xs:=xy) (bx:=fun fr=>fr+2) (fn:=fun fr=>fr+3) (nw:=fun W x y fr=>sgR W x y fr "=") A hW (by omega) post
theorem wf7 {n:Nat} (G_jaa:Ok P w mg base n T.f_jaa (uc9 T)) (G_jac:Ok P w mg base n T.f_jac (uc8 T)):Ok P w mg base (n+1) T.f_jcc (wq2 T):=by
 refine u12 T.f_jcc sc_jcc (fun ds G R h=>?_) (fun cdv A outer s H E hr =>
   (u01 (u21 3 sc_jcc.nd (em0 T.c_Loom.cl T.f_jaa T.m_jaa G_jaa hr (ev 2)))
   (u01 (u21 4 sc_jcc.nd (em0 T.c_Loom.cl T.f_jaa T.m_jaa G_jaa hr (ev 2)))
   (u01 (u38 (em T.c_Loom.cl T.f_jac T.m_jac G_jac hr (ev 2) (u00 (u46 (u00 (u22 (u00 u09 (u00 (ev 3) (u00 (u22 (u00 u09 (u00 (ev 0) u03))) u03)))) (u00 (u22 (u00 u09 (u00 (ev 3) (u00 (u22 (u00 u09 (u00 (ev 1) u03))) u03)))) (u00 (u22 (u00 u09 (u00 (ev 4) (u00 (u63 T.c_Loom.cl T.c_Loom.n_wide (ev 2)) (u00 (u22 (u00 (u22 (u00 (ev 3) (u00 (u63 T.c_Loom.cl T.c_Loom.n_wide (ev 2)) u03))) u03)) u03))))) (u00 (u22 (u00 u09 (u00 (ev 3) (u00 (u22 (u00 u09 (u00 (ev 4) u03))) u03)))) u03))))) u03)))
   (u07 (u15 (ev 3))))))) (fun ds G R h=>?_)
 ·obtain ⟨p,rp,W,fr,x,y,rows,st,rfl,_⟩:=h;rfl
 ·obtain ⟨p,rp,W,fr,x,y,rows,st,rfl,A,hW,hl,post⟩:=h
  simp! [xy,List.cons_append,List.nil_append,A.ob,lm_all];refine u62 T A fun G1 A1 a1=>?_
  simp! [id];dsimp! [A1.ob,lm_all];refine u62 T A1 fun G2 A2 a2=>?_
  simp! [id];dsimp! [A2.ob,lm_all];refine ⟨by decide,by decide,by decide,by decide,by decide,by decide,by decide,by decide,by decide,by decide,fun p1 hp1=>?_⟩;refine ub0 T (new:=sgR W x y fr "+") A2 hp1 (by omega) (Nat.le_of_ble_eq_true rfl) fun G3 A3 a3=>?_
  simp! [id];dsimp! [id];exact post G3 A3 ((a1.trans a2).trans a3)
theorem wi7 {n:Nat} (G_jaa:Ok P w mg base n T.f_jaa (uc9 T)) (G_jac:Ok P w mg base n T.f_jac (uc8 T)) (G_gap:Ok P w mg base n T.f_gap (vl1 T)):Ok P w mg base (n+1) T.f_jat (ws0 T):=by
 refine u12 T.f_jat sc_jat (fun ds G R h=>?_) (fun cdv A outer s H E hr =>
   (u01 (u21 3 sc_jat.nd (ec T.f_gap T.g_gap G_gap hr (u00 (ev 0) (u00 (ev 1) (u00 (ev 2) u03)))))
   (u01 (u21 4 sc_jat.nd (em0 T.c_Loom.cl T.f_jaa T.m_jaa G_jaa hr (ev 2)))
   (u01 (u38 (em T.c_Loom.cl T.f_jac T.m_jac G_jac hr (ev 2) (u00 (u46 (u00 (u22 (u00 u09 (u00 (ev 4) (u00 (u63 T.c_Loom.cl T.c_Loom.n_wide (ev 2)) (u00 (u22 (u00 (u22 (u00 (ev 3) (u00 (u77 T.k_BELOW_NOUGHT) u03))) u03)) u03))))) (u00 (u22 (u00 u09 (u00 (ev 3) (u00 (u22 (u00 u09 (u00 (ev 4) u03))) u03)))) u03))) u03)))
   (u07 (u15 (ev 3))))))) (fun ds G R h=>?_)
 ·obtain ⟨p,rp,W,fr,x,y,rows,st,rfl,_⟩:=h;rfl
 ·obtain ⟨p,rp,W,fr,x,y,rows,st,rfl,A,hW,hl,post⟩:=h
  simp! [xy,List.cons_append,List.nil_append];refine ug0 T (xs:=xy) (bx:=fun fr=>fr) (fn:=fun fr=>fr+1) (nw:=fun _ x y fr=>[.add fr (.box x),.take fr (.box y)]) A hW (by omega) fun G1 A1 a1=>?_
  simp! [id];dsimp! [A1.ob,lm_all];refine u62 T A1 fun G2 A2 a2=>?_
  simp! [id];dsimp! [A2.ob,lm_all];refine ⟨by decide,by decide,by decide,by decide,by decide,by decide,fun p1 hp1=>?_⟩;refine ub0 T (new:=[.turn (fr+1) W [(fr,31)],.add fr (.box (fr+1))]) A2 hp1 (by rw [List.length_append];show _+2<=_;omega) (Nat.le_of_ble_eq_true rfl) fun G3 A3 a3=>?_
  simp! [id];dsimp! [id];rw [List.append_assoc,Nat.add_assoc] at A3;exact post G3 A3 ((a1.trans a2).trans a3)
theorem wk8 {n:Nat} (G_jaa:Ok P w mg base n T.f_jaa (uc9 T)) (G_jac:Ok P w mg base n T.f_jac (uc8 T)):Ok P w mg base (n+1) T.f_gap (vl1 T):=by
 refine u12 T.f_gap sc_gap (fun ds G R h=>?_) (fun cdv A outer s H E hr =>
   (u01 (u21 3 sc_gap.nd (em0 T.c_Loom.cl T.f_jaa T.m_jaa G_jaa hr (ev 2)))
   (u01 (u38 (em T.c_Loom.cl T.f_jac T.m_jac G_jac hr (ev 2) (u00 (u46 (u00 (u22 (u00 u09 (u00 (ev 3) (u00 (u22 (u00 u09 (u00 (ev 0) u03))) u03)))) (u00 (u22 (u00 u09 (u00 (ev 3) (u00 (u22 (u00 u09 (u00 (ev 1) u03))) u03)))) u03))) u03)))
   (u07 (u15 (ev 3)))))) (fun ds G R h=>?_)
 ·obtain ⟨p,rp,W,fr,x,y,rows,st,rfl,_⟩:=h;rfl
 ·obtain ⟨p,rp,W,fr,x,y,rows,st,rfl,A,hW,hl,post⟩:=h
  simp! [xy,List.cons_append,List.nil_append,A.ob,lm_all];refine u62 T A fun G1 A1 a1=>?_
  simp! [id];dsimp! [A1.ob,lm_all];refine ⟨by decide,by decide,by decide,by decide,by decide,fun p1 hp1=>?_⟩;refine ub0 T (new:=[.add fr (.box x),.take fr (.box y)]) A1 hp1 (by omega) (Nat.le_of_ble_eq_true rfl) fun G2 A2 a2=>?_
  simp! [id];dsimp! [id];exact post G2 A2 (a1.trans a2)
theorem wj2 {n:Nat} (G_jaa:Ok P w mg base n T.f_jaa (uc9 T)) (G_jac:Ok P w mg base n T.f_jac (uc8 T)):Ok P w mg base (n+1) T.f_jao (w62 T):=by
 refine u12 T.f_jao sc_jao (fun ds G R h=>?_) (fun cdv A outer s H E hr =>
   (u01 (u21 3 sc_jao.nd (em0 T.c_Loom.cl T.f_jaa T.m_jaa G_jaa hr (ev 2)))
   (u01 (u38 (em T.c_Loom.cl T.f_jac T.m_jac G_jac hr (ev 2) (u00 (u67 (N':=["bit", "box", "first", "second"]) (ix:=[none,some 3,some 0,some 1]) (blk (osc:=u04 ve1) (N:=["first", "second", "loom", "box"]) rfl rfl (by decide)) (u88 rfl T.b_range (u00 (u63 T.c_Loom.cl T.c_Loom.n_wide (ev 2)) u03)) (fun _ _ _ _=>(u20 0 (show (["bit", "box", "first", "second"]:List Str).Nodup by decide))) (fun _ _ _ _=>u45) (fun _ _ _ _=>(u22 (u00 u09 (u00 (ev 1) (u00 (ev 0) (u00 (u22 (u00 (u22 (u00 (ev 2) (u00 (ev 0) u03))) (u00 (u22 (u00 (ev 3) (u00 (ev 0) u03))) u03))) u03))))))) u03)))
   (u07 (u15 (ev 3)))))) (fun ds G R h=>?_)
 ·obtain ⟨p,rp,W,fr,x,y,rows,st,rfl,_⟩:=h;rfl
 ·obtain ⟨p,rp,W,fr,x,y,rows,st,rfl,A,hW,hl,post⟩:=h
  simp! [xy,List.cons_append,List.nil_append,A.ob,lm_all];refine u62 T A fun G1 A1 a1=>?_
  simp! [id];dsimp! [A1.ob,lm_all];refine ⟨⟨by omega,by omega⟩,fun p1 hp1=>?_⟩;refine u34 (fun r σ G'=>∃ (i c:Nat) (v:Option D),i+c=W /\ r=rngD (i:Int) c /\ G'=gup G1 p1 (.lst ((andR fr x y i).map Row.d)) /\ σ=[v,some (.int (fr:Int)),some (.int (x:Int)),some (.int (y:Int))]) ⟨0,W,none,by omega,rfl,rfl,rfl⟩ ?_ ?_
  ·rintro σ G2 ⟨i,c,v,e,e2,rfl,rfl⟩
   have hc:c=0:=by
    cases c with
    | zero=>rfl
    | succ c=>rw [u28] at e2;cases e2
   subst hc;obtain rfl:i=W:=by omega
   refine ⟨trivial,?_⟩;refine ub0 T (new:=andR fr x y i) A1 hp1 (by omega) (by unfold andR;rw [List.length_map,List.length_range];omega) fun G3 A3 a3=>?_
   simp! [id];dsimp! [id];exact post G3 A3 (a1.trans a3)
  ·rintro z r σ G2 ⟨i,c,v,e,e2,rfl,rfl⟩ ih
   cases c with
   | zero=>cases e2
   | succ c =>
    rw [u28] at e2;cases e2;refine ⟨trivial,?_⟩;simp! [u02];refine ⟨by decide,by decide,by decide,by decide,?_,ih _ _ ⟨i+1,c,_,by omega,rfl,?_,rfl⟩⟩
    ·rw [List.length_map]
     unfold andR;rw [List.length_map,List.length_range];exact Nat.lt_of_le_of_lt (m:=1000) (by omega) (by decide)
    ·rw [u30]
     unfold andR;rw [List.range_succ,List.map_append,List.map_append];rfl
theorem wj3 {n:Nat} (G_jcb:Ok P w mg base n T.f_jcb (w56 T)):Ok P w mg base (n+1) T.f_jan (ws3 T):=by
 refine u12 T.f_jan vn6 (fun ds G R h=>?_) (fun cdv A outer s H E hr =>
   (u07 (u15 (ec T.f_jcb T.g_sum_without_both G_jcb hr (u00 (ev 0) (u00 (ev 1) (u00 u05 (u00 (ev 2) u03)))))))) (fun ds G R h=>?_)
 ·obtain ⟨p,rp,W,fr,x,y,rows,st,rfl,_⟩:=h;rfl
 ·obtain ⟨p,rp,W,fr,x,y,rows,st,rfl,A,hW,hl,post⟩:=h
  simp! [xy,List.cons_append,List.nil_append];exact u13 (post:=fun d G'=>d=.int ((fr+1:Nat):Int) /\ LoomAt T.c_Loom.C G' p rp W (fr+2) (rows++sgR W x y fr "|") (st+(sgR W x y fr "|").length) /\ LAdv p rp G G') (fun R h'=>⟨1,by decide,p,rp,W,fr,x,y,rows,st,rfl,A,hW,by omega,fun G' a b=>h' _ _ ⟨rfl,a,b⟩⟩) fun d G' ⟨e,a,b⟩=>by subst e;exact post G' a b
theorem wj1 {n:Nat} (G_jcb:Ok P w mg base n T.f_jcb (w56 T)):Ok P w mg base (n+1) T.f_jap (ws2 T):=by
 refine u12 T.f_jap vn5 (fun ds G R h=>?_) (fun cdv A outer s H E hr =>
   (u07 (u15 (ec T.f_jcb T.g_sum_without_both G_jcb hr (u00 (ev 0) (u00 (ev 1) (u00 u05 (u00 (ev 2) u03)))))))) (fun ds G R h=>?_)
 ·obtain ⟨p,rp,W,fr,x,y,rows,st,rfl,_⟩:=h;rfl
 ·obtain ⟨p,rp,W,fr,x,y,rows,st,rfl,A,hW,hl,post⟩:=h
  simp! [xy,List.cons_append,List.nil_append];exact u13 (post:=fun d G'=>d=.int ((fr+1:Nat):Int) /\ LoomAt T.c_Loom.C G' p rp W (fr+2) (rows++sgR W x y fr "^") (st+(sgR W x y fr "^").length) /\ LAdv p rp G G') (fun R h'=>⟨2,by decide,p,rp,W,fr,x,y,rows,st,rfl,A,hW,by omega,fun G' a b=>h' _ _ ⟨rfl,a,b⟩⟩) fun d G' ⟨e,a,b⟩=>by subst e;exact post G' a b
theorem wf8 {n:Nat} (G_jaa:Ok P w mg base n T.f_jaa (uc9 T)) (G_jac:Ok P w mg base n T.f_jac (uc8 T)) (G_jao:Ok P w mg base n T.f_jao (w62 T)):Ok P w mg base (n+1) T.f_jcb (w56 T):=by
 refine u12 T.f_jcb sc_jcb (fun ds G R h=>?_) (fun cdv A outer s H E hr =>
   (u01 (u21 4 sc_jcb.nd (ec T.f_jao T.g_bits_of_both G_jao hr (u00 (ev 0) (u00 (ev 1) (u00 (ev 3) u03)))))
   (u01 (u21 5 sc_jcb.nd (em0 T.c_Loom.cl T.f_jaa T.m_jaa G_jaa hr (ev 3)))
   (u01 (u38 (em T.c_Loom.cl T.f_jac T.m_jac G_jac hr (ev 3) (u00 (u14 u49 (u46 (u00 (u22 (u00 u09 (u00 (ev 5) (u00 (u22 (u00 u09 (u00 (ev 0) u03))) u03)))) (u00 (u22 (u00 u09 (u00 (ev 5) (u00 (u22 (u00 u09 (u00 (ev 1) u03))) u03)))) u03))) (u14 uc4 (u46 (u00 (u22 (u00 u09 (u00 (ev 5) (u00 (u22 (u00 u09 (u00 (ev 4) u03))) u03)))) u03)) (ev 2))) u03)))
   (u07 (u15 (ev 5))))))) (fun ds G R h=>?_)
 ·obtain ⟨n,hn,p,rp,W,fr,x,y,rows,st,rfl,_⟩:=h;rfl
 ·obtain ⟨n,hn,p,rp,W,fr,x,y,rows,st,rfl,A,hW,hl,post⟩:=h
  have hand:(andR fr x y W).length=W:=by unfold andR;rw [List.length_map,List.length_range]
  simp! [List.cons_append,List.nil_append,A.ob,lm_all];refine ug0 T (xs:=xy) (bx:=fun fr=>fr) (fn:=fun fr=>fr+1) (nw:=fun W x y fr=>andR fr x y W) A hW (by omega) fun G1 A1 a1=>?_
  simp! [id];dsimp! [A1.ob,lm_all];refine u62 T A1 fun G2 A2 a2=>?_
  simp! [id];dsimp! [A2.ob,lm_all];refine ⟨by decide,by decide,by decide,by decide,by decide,fun p1 hp1=>?_⟩;simp! [id];refine ⟨by decide,by decide,by decide,fun p2 hp2=>⟨⟨by omega,by omega,Nat.le_trans (m:=10) (by omega) (by decide)⟩,fun p3 hp3=>?_⟩⟩;have k1:∀ {o2 o3:DO},gup (gup (gup G2 p1 (.lst (([.add (fr+1) (.box x),.add (fr+1) (.box y)]:List Row).map Row.d))) p2 o2) p3 o3 p1=some (.lst (([.add (fr+1) (.box x),.add (fr+1) (.box y)]:List Row).map Row.d)):=fun {o2 o3}=>by
   have n2:p1 ≠ p2:=gne u02 hp2;have n3:p1 ≠ p3:=fun z=>by rw [<- z,u06 n2,u02] at hp3;cases hp3
   rw [u06 n3,u06 n2,u02]
  refine v09 k1 u02 (by rw [List.flatten_replicate_singleton,List.length_replicate];exact Nat.le_trans (m:=10) (by show 2+n<=10;omega) (by decide)) fun p4 hp4=>?_
  have ef:([Row.add (fr+1) (.box x),.add (fr+1) (.box y)]:List Row).map Row.d++(List.replicate n [D.tup [.str "take",.int ((fr+1:Nat):Int),.tup [.str "box",.int (fr:Int)]]]).flatten=([.add (fr+1) (.box x),.add (fr+1) (.box y)]++List.replicate n (.take (fr+1) (.box fr)):List Row).map Row.d:=by
   rw [List.flatten_replicate_singleton,List.map_append,List.map_replicate];rfl
  rw [ef];have A2':=((A2.new (o:=.lst (([.add (fr+1) (.box x),.add (fr+1) (.box y)]:List Row).map Row.d)) hp1).new (o:=.lst (([.take (fr+1) (.box fr)]:List Row).map Row.d)) hp2).new (o:=.lst ((List.replicate n [D.tup [.str "take",.int ((fr+1:Nat):Int),.tup [.str "box",.int (fr:Int)]]]).flatten)) hp3;have a2':=((LAdv.refl (p:=p) (rp:=rp)).new (o:=.lst (([.add (fr+1) (.box x),.add (fr+1) (.box y)]:List Row).map Row.d)) hp1).new (o:=.lst (([.take (fr+1) (.box fr)]:List Row).map Row.d)) hp2 |>.new (o:=.lst ((List.replicate n [D.tup [.str "take",.int ((fr+1:Nat):Int),.tup [.str "box",.int (fr:Int)]]]).flatten)) hp3
  refine ub0 T (new:=[.add (fr+1) (.box x),.add (fr+1) (.box y)]++List.replicate n (.take (fr+1) (.box fr))) A2' hp4 (by rw [List.length_append,hand];omega) (by rw [List.length_append,List.length_replicate];show 2+n<=1000;omega) fun G3 A3 a3=>?_
  simp! [id];dsimp! [id];refine post G3 ?_ ((a1.trans a2).trans (a2'.trans a3))
  show LoomAt T.c_Loom.C G3 p rp W (fr+2) (rows++(andR fr x y W++([.add (fr+1) (.box x),.add (fr+1) (.box y)]++List.replicate n (.take (fr+1) (.box fr))))) (st+(andR fr x y W++([Row.add (fr+1) (.box x),.add (fr+1) (.box y)]++List.replicate n (Row.take (fr+1) (.box fr)))).length)
  rw [List.length_append (as:=andR fr x y W),<- Nat.add_assoc,<- List.append_assoc];exact A3
theorem wf9 {n:Nat} (G_jaa:Ok P w mg base n T.f_jaa (uc9 T)) (G_jac:Ok P w mg base n T.f_jac (uc8 T)) (G_gap:Ok P w mg base n T.f_gap (vl1 T)):Ok P w mg base (n+1) T.f_jca (wq3 T):=by
 refine u12 T.f_jca sc_jca (fun ds G R h=>?_) (fun cdv A outer s H E hr =>
   (u01 (u21 3 sc_jca.nd (ec T.f_gap T.g_gap G_gap hr (u00 (ev 0) (u00 (ev 1) (u00 (ev 2) u03)))))
   (u01 (u21 4 sc_jca.nd (em0 T.c_Loom.cl T.f_jaa T.m_jaa G_jaa hr (ev 2)))
   (u01 (u38 (em T.c_Loom.cl T.f_jac T.m_jac G_jac hr (ev 2) (u00 (u46 (u00 (u22 (u00 u09 (u00 (ev 4) (u00 u05 (u00 (u22 (u00 (u22 (u00 (ev 3) (u00 (u77 T.k_BELOW_NOUGHT) u03))) u03)) u03))))) u03)) u03)))
   (u07 (u15 (ev 4))))))) (fun ds G R h=>?_)
 ·obtain ⟨p,rp,W,fr,x,y,rows,st,rfl,_⟩:=h;rfl
 ·obtain ⟨p,rp,W,fr,x,y,rows,st,rfl,A,hW,hl,post⟩:=h
  simp! [xy,List.cons_append,List.nil_append];refine ug0 T (xs:=xy) (bx:=fun fr=>fr) (fn:=fun fr=>fr+1) (nw:=fun _ x y fr=>[.add fr (.box x),.take fr (.box y)]) A hW (by omega) fun G1 A1 a1=>?_
  simp! [id];dsimp! [A1.ob,lm_all];refine u62 T A1 fun G2 A2 a2=>?_
  simp! [id];dsimp! [A2.ob,lm_all];refine ⟨by decide,by decide,by decide,by decide,fun p1 hp1=>?_⟩;refine ub0 T (new:=[.turn (fr+1) 0 [(fr,31)]]) A2 hp1 (by rw [List.length_append];show _+2<=_;omega) (Nat.le_of_ble_eq_true rfl) fun G3 A3 a3=>?_
  simp! [id];dsimp! [id];rw [List.append_assoc,Nat.add_assoc] at A3;exact post G3 A3 ((a1.trans a2).trans a3)
theorem wj5 {n:Nat} (G_jaa:Ok P w mg base n T.f_jaa (uc9 T)) (G_jac:Ok P w mg base n T.f_jac (uc8 T)) (G_gap:Ok P w mg base n T.f_gap (vl1 T)):Ok P w mg base (n+1) T.f_jal (ws4 T):=by
 refine u12 T.f_jal sc_jal (fun ds G R h=>?_) (fun cdv A outer s H E hr =>
   (u01 (u21 3 sc_jal.nd (ec T.f_gap T.g_gap G_gap hr (u00 (ev 0) (u00 (ev 1) (u00 (ev 2) u03)))))
   (u01 (u21 4 sc_jal.nd (ec T.f_gap T.g_gap G_gap hr (u00 (ev 1) (u00 (ev 0) (u00 (ev 2) u03)))))
   (u01 (u21 5 sc_jal.nd (em0 T.c_Loom.cl T.f_jaa T.m_jaa G_jaa hr (ev 2)))
   (u01 (u38 (em T.c_Loom.cl T.f_jac T.m_jac G_jac hr (ev 2) (u00 (u46 (u00 (u22 (u00 u09 (u00 (ev 5) (u00 u05 (u00 (u22 u03) u03))))) (u00 (u22 (u00 u09 (u00 (ev 5) (u00 u05 (u00 (u22 (u00 (u22 (u00 (ev 3) (u00 (u77 T.k_BELOW_NOUGHT) u03))) u03)) u03))))) (u00 (u22 (u00 u09 (u00 (ev 5) (u00 u05 (u00 (u22 (u00 (u22 (u00 (ev 4) (u00 (u77 T.k_BELOW_NOUGHT) u03))) u03)) u03))))) u03)))) u03)))
   (u07 (u15 (ev 5)))))))) (fun ds G R h=>?_)
 ·obtain ⟨p,rp,W,fr,x,y,rows,st,rfl,_⟩:=h;rfl
 ·obtain ⟨p,rp,W,fr,x,y,rows,st,rfl,A,hW,hl,post⟩:=h
  simp! [xy,List.cons_append,List.nil_append];refine ug0 T (xs:=xy) (bx:=fun fr=>fr) (fn:=fun fr=>fr+1) (nw:=fun _ x y fr=>[.add fr (.box x),.take fr (.box y)]) A hW (by omega) fun G1 A1 a1=>?_
  simp! [id];dsimp! [id];have hl2:(rows++[Row.add fr (.box x),.take fr (.box y)]).length+2 * 0<=500:=by rw [List.length_append];show _+2+0<=_;omega
  refine u13 (post:=fun d G'=>d=.int ((fr+1:Nat):Int) /\ LoomAt T.c_Loom.C G' p rp W (fr+2) (rows++[.add fr (.box x),.take fr (.box y)]++[.add (fr+1) (.box y),.take (fr+1) (.box x)]) (st+2+2) /\ LAdv p rp G1 G') (fun R h'=>⟨p,rp,W,fr+1,y,x,_,_,rfl,A1,hW,hl2,fun G' a b=>h' _ _ ⟨rfl,a,b⟩⟩) ?_;rintro d G2 ⟨rfl,A2,a2⟩;simp! [id];dsimp! [A2.ob,lm_all];refine u62 T A2 fun G3 A3 a3=>?_
  simp! [id];dsimp! [A3.ob,lm_all];refine ⟨by decide,by decide,by decide,by decide,by decide,by decide,by decide,by decide,by decide,fun p1 hp1=>?_⟩;refine ub0 T (new:=[.turn (fr+2) 0 [],.turn (fr+2) 0 [(fr,31)],.turn (fr+2) 0 [(fr+1,31)]]) A3 hp1 (by rw [List.length_append,List.length_append];show _+2+2<=_;omega) (Nat.le_of_ble_eq_true rfl) fun G4 A4 a4=>?_
  simp! [id];dsimp! [id];refine post G4 ?_ ((a1.trans a2).trans (a3.trans a4))
  show LoomAt T.c_Loom.C G4 p rp W (fr+3) (rows++(([Row.add fr (.box x),.take fr (.box y)]++[.add (fr+1) (.box y),.take (fr+1) (.box x)])++[.turn (fr+2) 0 [],.turn (fr+2) 0 [(fr,31)],.turn (fr+2) 0 [(fr+1,31)]])) (st+2+2+3)
  rw [<- List.append_assoc,<- List.append_assoc];exact A4
theorem wf6 {n:Nat} (G_jaa:Ok P w mg base n T.f_jaa (uc9 T)) (G_jac:Ok P w mg base n T.f_jac (uc8 T)):Ok P w mg base (n+1) T.f_jcd (wq1 T):=by
 refine u12 T.f_jcd sc_jcd (fun ds G R h=>?_) (fun cdv A outer s H E hr =>
   (u01 (u21 2 sc_jcd.nd (em0 T.c_Loom.cl T.f_jaa T.m_jaa G_jaa hr (ev 1)))
   (u01 (u21 3 sc_jcd.nd (em0 T.c_Loom.cl T.f_jaa T.m_jaa G_jaa hr (ev 1)))
   (u01 (u38 (em T.c_Loom.cl T.f_jac T.m_jac G_jac hr (ev 1) (u00 (u46 (u00 (u22 (u00 u09 (u00 (ev 2) (u00 (u22 (u00 u09 (u00 (ev 0) u03))) u03)))) (u00 (u22 (u00 u09 (u00 (ev 3) (u00 u05 (u00 (u22 (u00 (u22 (u00 (ev 2) (u00 (u77 T.k_BELOW_NOUGHT) u03))) u03)) u03))))) u03))) u03)))
   (u07 (u15 (ev 3))))))) (fun ds G R h=>?_)
 ·obtain ⟨p,rp,W,fr,x,rows,st,rfl,_⟩:=h;rfl
 ·obtain ⟨p,rp,W,fr,x,rows,st,rfl,A,hl,post⟩:=h
  simp! [A.ob,lm_all];refine u62 T A fun G1 A1 a1=>?_
  simp! [id];dsimp! [A1.ob,lm_all];refine u62 T A1 fun G2 A2 a2=>?_
  simp! [id];dsimp! [A2.ob,lm_all];refine ⟨by decide,by decide,by decide,by decide,by decide,by decide,fun p1 hp1=>?_⟩;refine ub0 T (new:=[.take fr (.box x),.turn (fr+1) 0 [(fr,31)]]) A2 hp1 (by omega) (Nat.le_of_ble_eq_true rfl) fun G3 A3 a3=>?_
  simp! [id];dsimp! [id];exact post G3 A3 ((a1.trans a2).trans a3)
theorem wi8 {n:Nat} (G_jay:Ok P w mg base n T.f_jay (wr7 T)) (G_jax:Ok P w mg base n T.f_jax (wr8 T)) (G_jav:Ok P w mg base n T.f_jav (wr9 T)):Ok P w mg base (n+1) T.f_jas (ws1 T):=by
 refine u12 T.f_jas sc_jas (fun ds G R h=>?_) (fun cdv A outer s H E hr =>
   (u07 (ub5 (ur8 rfl T.b_enumerate (u00 (e_ix x_ix (ev 0) u05) u03)) (ur4 (n:=2) rfl (u42 (u20 1 sc_jas.nd) (u42 (u20 2 sc_jas.nd) uf1))) (u07 (s_if (vd3 (t_w (w_and (uc5 (ec T.f_jay T.g_is_within G_jay hr (u00 (ev 2) (u00 (e_ix x_ix (ev 0) u05) u03)))) (w_and (uc5 (ec T.f_jax T.g_is_apart G_jax hr (u00 (ev 2) u03))) (ut9 (uc5 (ec T.f_jav T.g_has_fellow G_jav hr (u00 (ev 2) (u00 (ev 1) (u00 (e_ix x_ix (ev 0) u05) u03)))))))))) (u07 vt0) u23))))) (fun ds G R h=>?_)
 ·obtain ⟨ra,rs,sz,rfl,_⟩:=h;rfl
 ·obtain ⟨ra,rs,sz,rfl,hra,hok,hp,post⟩:=h
  (simp! [vc8,hra];repeat (simp only [Go];simp! [vc8,hra]))
  refine u47 (fun r σ G'=>∃ (r1 r2:List Row) (v1 v2:Option D),r1++r2=rs /\ r=enD r1.length (r2.map Row.d) /\ Grow G G' /\ σ=[some (.tup [.int (sz:Int),.ref ra]),v1,v2]) ⟨[],rs,none,none,rfl,rfl,Grow.refl,rfl⟩ ?_ ?_
  ·rintro σ G' ⟨r1,r2,v1,v2,e,e2,g,rfl⟩
   exact ⟨by rw [g.kp _ _ hra];rfl,post _ g⟩
  ·rintro z r σ G' ⟨r1,r2,v1,v2,e,e2,g,rfl⟩ ih
   cases r2 with
   | nil=>cases e2
   | cons row r2 =>
    cases e2;refine ⟨by rw [g.kp _ _ hra];rfl,?_⟩;have hmem:row ∈ rs:=by rw [<- e];simp
    have hat:rs[r1.length]?=some row:=by rw [<- e];simp
    simp! [id];refine u13 (post:=fun d G1=>d=.bl true /\ Grow G' G1) (fun R h=>⟨row,sz,rfl,hok row hmem,fun G1 x=>h _ _ ⟨rfl,x⟩⟩) ?_;rintro d G1 ⟨rfl,g1⟩;simp! [id];refine u13 (post:=fun d G2=>d=.bl true /\ Grow G1 G2) (fun R h=>⟨row,sz,rfl,hok row hmem,fun G1 x=>h _ _ ⟨rfl,x⟩⟩) ?_;rintro d G2 ⟨rfl,g2⟩;have g02:=(g.trans g1).trans g2;simp! [id];refine u35 (v:=.bl true) (G1:=G2) (fun R h=>⟨row,r1.length,ra,rs,rfl,g02.kp _ _ hra,hp,hat,h⟩) ?_;simp! [id];exact ih _ _ ⟨r1++[row],r2,_,_,by rw [<- e,List.append_assoc];rfl,by rw [List.length_append];rfl,g02,rfl⟩
theorem wj0 {n:Nat}:Ok P w mg base (n+1) T.f_jaq (vk8 T):=by
 refine u12 T.f_jaq vn4 (fun ds G R h=>?_) (fun cdv A outer s H E hr =>
   (u01 (s_if (u25 (x_in hr) (e_ix x_ix (ev 0) u05) (u22 (u00 u09 (u00 u09 u03))) (by with_unfolding_all rfl)) (u07 (u15 (e_if (u25 (x_eq hr) (e_ix x_ix (e_ix x_ix (ev 0) u05) u05) u09 (nomark _)) (u46 (u00 (e_ix x_ix (e_ix x_ix (ev 0) u05) u05) u03)) (u46 u03)))) u23)
   (u01 (s_if (u25 (x_eq hr) (e_ix x_ix (ev 0) u05) u09 (nomark _)) (u07 (u15 (u67 (N':=["cond"]) (ix:=[none]) (blk (osc:=u04 ve0) (N:=["row"]) rfl rfl (by decide)) (u94 (e_ix x_ix (ev 0) u05)) (fun _ _ _ _=>(u20 0 (show (["cond"]:List Str).Nodup by decide))) (fun _ _ _ _=>u45) (fun _ _ _ _=>(e_ix x_ix (ev 0) u05))))) u23)
   (u07 (u15 (e_if (u25 (x_eq hr) (e_ix x_ix (ev 0) u05) u09 (nomark _)) (u46 (u00 (e_ix x_ix (ev 0) u05) u03)) (u46 u03))))))) (fun ds G R h=>?_)
 ·obtain ⟨row,sz,rfl,_⟩:=h;rfl
 ·obtain ⟨row,sz,rfl,hok,post⟩:=h
  rcases vp1 row with ⟨w0,x,o,hr,hd,hw⟩ | ⟨x,i,cs,rfl⟩ | ⟨x,y,rfl⟩ | ⟨w0,x,n,k,hr,hd,h1,h2,h3,h4⟩
  ·simp only [hd]
   cases o with
   | num n =>
    have e:rb row=[]:=by rcases hr with rfl | rfl <;> rfl
    rw [e] at post;simp! [Opd.d,u17,u41,hw];exact ⟨by decide,fun q hq=>post q _ hq u02 (Grow.refl.new hq)⟩
   | box y =>
    have e:rb row=[(y:Int)]:=by rcases hr with rfl | rfl <;> rfl
    rw [e] at post;simp! [Opd.d,u17,u41,hw];exact ⟨by decide,fun q hq=>post q _ hq u02 (Grow.refl.new hq)⟩
  ·simp! [Row.d,u17,u41,Bool.true_or,Bool.false_or,Bool.or_true,Bool.or_false]
   dsimp! [u17];intro p hp;have hl:=hok.2.2.1;refine u34 (fun r σ G'=>∃ (c1 c2:List (Nat × Nat)) (v:Option D),c1++c2=cs /\ r=c2.map cd /\ G'=gup G p (.lst ((c1.map fun c=>(c.1:Int)).map .int)) /\ σ=[v]) ⟨[],cs,none,rfl,rfl,rfl,rfl⟩ ?_ ?_
   ·rintro σ G' ⟨c1,c2,v,e,e2,rfl,rfl⟩
    have h2:c2=[]:=by simpa using e2.symm
    subst h2;rw [List.append_nil] at e;subst e;exact ⟨trivial,post p _ hp u02 (Grow.refl.new hp)⟩
   ·rintro z r σ G' ⟨c1,c2,v,e,e2,rfl,rfl⟩ ih
    cases c2 with
    | nil=>cases e2
    | cons c c2 =>
     cases e2;refine ⟨trivial,?_⟩;simp! [cd];refine ⟨?_,ih _ _ ⟨c1++[c],c2,_,by rw [<- e,List.append_assoc];rfl,rfl,?_,rfl⟩⟩
     ·have:=congrArg List.length e
      rw [List.length_append,List.length_cons] at this;rw [List.length_map,List.length_map];exact Nat.lt_of_le_of_lt (m:=1000) (by omega) (by decide)
     ·rw [u30,List.map_append,List.map_append];rfl
  ·simp! [Row.d,u17,u41,Bool.true_or,Bool.false_or,Bool.or_true,Bool.or_false]
   dsimp! [u17];dsimp! [u17];exact ⟨by decide,fun q hq=>post q _ hq u02 (Grow.refl.new hq)⟩
  ·have e:rb row=[]:=by rcases hr with rfl | rfl <;> rfl
   rw [e] at post;simp only [hd];simp! [u41,h1];dsimp! [h2];dsimp! [h3];exact ⟨by decide,fun q hq=>post q _ hq u02 (Grow.refl.new hq)⟩
theorem wj4 {n:Nat}:Ok P w mg base (n+1) T.f_jam (w63 T):=by
 refine u12 T.f_jam vn7 (fun ds G R h=>?_) (fun cdv A outer s H E hr =>
   (u07 (u15 (e_if (u25 (x_eq hr) (e_ix x_ix (ev 0) u05) u09 (nomark _)) (u14 u49 (u46 (u00 (e_ix x_ix (ev 0) u05) u03)) (u67 (N':=["cond"]) (ix:=[none]) (blk (osc:=u04 ve2) (N:=["row"]) rfl rfl (by decide)) (u94 (e_ix x_ix (ev 0) u05)) (fun _ _ _ _=>(u20 0 (show (["cond"]:List Str).Nodup by decide))) (fun _ _ _ _=>u45) (fun _ _ _ _=>(e_ix x_ix (ev 0) u05)))) (u46 u03))))) (fun ds G R h=>?_)
 ·obtain ⟨row,sz,rfl,_⟩:=h;rfl
 ·obtain ⟨row,sz,rfl,hok,post⟩:=h
  rcases wl7 row with ⟨x,i,cs,rfl⟩ | ⟨w0,rest,hd,h1,e⟩
  ·simp! [Row.d,u17]
   refine ⟨by decide,fun p0 hp0=>?_⟩;intro p hp;have hl:=hok.2.2.1;have g0:Grow G (gup G p0 (.lst [.int (i:Int)])):=Grow.refl.new hp0;have hpn:p ≠ p0:=fun e=>by rw [e,u02] at hp;cases hp
   refine u34 (fun r σ G'=>∃ (c1 c2:List (Nat × Nat)) (v:Option D),c1++c2=cs /\ r=c2.map cd /\ G'=gup (gup G p0 (.lst [.int (i:Int)])) p (.lst ((c1.map fun c=>(c.2:Int)).map .int)) /\ σ=[v]) ⟨[],cs,none,rfl,rfl,rfl,rfl⟩ ?_ ?_
   ·rintro σ G' ⟨c1,c2,v,e,e2,rfl,rfl⟩
    have h2:c2=[]:=by simpa using e2.symm
    subst h2;rw [List.append_nil] at e;subst e;refine ⟨trivial,?_⟩;have g1:Grow G (gup (gup G p0 (.lst [.int (i:Int)])) p (.lst ((c1.map fun c=>(c.2:Int)).map .int))):=g0.new hp;have h0:gup (gup G p0 (.lst [.int (i:Int)])) p (.lst ((c1.map fun c=>(c.2:Int)).map .int)) p0=some (.lst [.int (i:Int)]):=by rw [u06 (Ne.symm hpn),u02]
    simp! [u41,h0];refine ⟨by rw [List.length_map,List.length_map];exact Nat.le_trans (m:=1000) (by omega) (by decide),fun q hq=>post q _ (g1.none hq) u02 (g1.new hq)⟩
   ·rintro z r σ G' ⟨c1,c2,v,e,e2,rfl,rfl⟩ ih
    cases c2 with
    | nil=>cases e2
    | cons c c2 =>
     cases e2;refine ⟨trivial,?_⟩;simp! [cd];refine ⟨?_,ih _ _ ⟨c1++[c],c2,_,by rw [<- e,List.append_assoc];rfl,rfl,?_,rfl⟩⟩
     ·have:=congrArg List.length e
      rw [List.length_append,List.length_cons] at this;rw [List.length_map,List.length_map];exact Nat.lt_of_le_of_lt (m:=1000) (by omega) (by decide)
     ·rw [u30,List.map_append,List.map_append];rfl
  ·rw [e] at post
   simp only [hd];simp! [h1];exact ⟨by decide,fun q hq=>post q _ hq u02 (Grow.refl.new hq)⟩
theorem wg5 {n:Nat}:Ok P w mg base (n+1) T.f_jbu (w58 T):=by
 refine u12 T.f_jbu vm7 (fun ds G R h=>?_) (fun cdv A outer s H E hr =>
   (u01 (s_if (u25 (x_in hr) (e_ix x_ix (ev 0) u05) (u22 (u00 u09 (u00 u09 u03))) (by with_unfolding_all rfl)) (u07 (u15 (e_if (u25 (x_eq hr) (e_ix x_ix (e_ix x_ix (ev 0) u05) u05) u09 (nomark _)) (u46 (u00 (e_ix x_ix (e_ix x_ix (ev 0) u05) u05) u03)) (u46 u03)))) u23)
   (u07 (u15 (e_if (u25 (x_in hr) (e_ix x_ix (ev 0) u05) (u22 (u00 u09 (u00 u09 u03))) (by with_unfolding_all rfl)) (u46 (u00 (e_ix x_ix (ev 0) u05) u03)) (u46 u03)))))) (fun ds G R h=>?_)
 ·obtain ⟨row,sz,rfl,_⟩:=h;rfl
 ·obtain ⟨row,sz,rfl,hok,post⟩:=h
  rcases vp1 row with ⟨w0,x,o,hr,hd,hw⟩ | ⟨x,i,cs,rfl⟩ | ⟨x,y,rfl⟩ | ⟨w0,x,n,k,hr,hd,h1,h2,h3,h4⟩
  ·simp only [hd]
   cases o with
   | num n =>
    have e:rnums row=[n]:=by rcases hr with rfl | rfl <;> rfl
    rw [e] at post;simp! [Opd.d,u17,u41,hw];exact ⟨by decide,fun q hq=>post q _ hq u02 (Grow.refl.new hq)⟩
   | box y =>
    have e:rnums row=[]:=by rcases hr with rfl | rfl <;> rfl
    rw [e] at post;simp! [Opd.d,u17,u41,hw];exact ⟨by decide,fun q hq=>post q _ hq u02 (Grow.refl.new hq)⟩
  ·simp! [Row.d,u17,u41,Bool.true_or,Bool.false_or,Bool.or_true,Bool.or_false]
   dsimp! [u17,u41,Bool.true_or,Bool.false_or,Bool.or_true,Bool.or_false];exact ⟨by decide,fun q hq=>post q _ hq u02 (Grow.refl.new hq)⟩
  ·simp! [Row.d,u17,u41,Bool.true_or,Bool.false_or,Bool.or_true,Bool.or_false]
   dsimp! [u17,u41,Bool.true_or,Bool.false_or,Bool.or_true,Bool.or_false];exact ⟨by decide,fun q hq=>post q _ hq u02 (Grow.refl.new hq)⟩
  ·have e:rnums row=[n]:=by rcases hr with rfl | rfl <;> rfl
   rw [e] at post;simp only [hd];simp! [u41,h1];dsimp! [u41,h4];exact ⟨by decide,fun q hq=>post q _ hq u02 (Grow.refl.new hq)⟩
theorem wi3 {n:Nat} (G_jaq:Ok P w mg base n T.f_jaq (vk8 T)) (G_jam:Ok P w mg base n T.f_jam (w63 T)) (G_jbu:Ok P w mg base n T.f_jbu (w58 T)):Ok P w mg base (n+1) T.f_jay (wr7 T):=by
 refine u12 T.f_jay vn1 (fun ds G R h=>?_) (fun cdv A outer s H E hr =>
   (u07 (u15 (vj4 (u37 vq7 rfl T.b_all (by decide) (u00 (u67 (N':=["box", "size"]) (ix:=[none,some 1]) (blk (osc:=u04 uy4) (N:=["row", "size"]) rfl rfl (by decide)) (u94 (u14 u49 (u46 (u00 (e_ix x_ix (ev 0) u05) u03)) (ec T.f_jaq T.g_boxes_read G_jaq hr (u00 (ev 0) u03)))) (fun _ _ _ _=>(u20 0 (show (["box", "size"]:List Str).Nodup by decide))) (fun _ _ _ _=>u45) (fun _ _ _ _=>(uc0 (x_lt) (ev 0) (ev 1) (nomark _)))) u03)) (vj4 (u37 vq7 rfl T.b_all (by decide) (u00 (u67 (N':=["bit"]) (ix:=[none]) (blk (osc:=u04 uy4) (N:=["row", "size"]) rfl rfl (by decide)) (u94 (ec T.f_jam T.g_bits_of G_jam hr (u00 (ev 0) u03))) (fun _ _ _ _=>(u20 0 (show (["bit"]:List Str).Nodup by decide))) (fun _ _ _ _=>u45) (fun _ _ _ _=>(uc0 (x_lt) (ev 0) (u77 T.k_BITS) (nomark _)))) u03)) (w35 (u37 vq7 rfl T.b_all (by decide) (u00 (u67 (N':=["number"]) (ix:=[none]) (blk (osc:=u04 uy4) (N:=["row", "size"]) rfl rfl (by decide)) (u94 (ec T.f_jbu T.g_numbers_of G_jbu hr (u00 (ev 0) u03))) (fun _ _ _ _=>(u20 0 (show (["number"]:List Str).Nodup by decide))) (fun _ _ _ _=>u45) (fun _ _ _ _=>(uc0 (x_lt) (ev 0) (u77 T.k_NUMBERS) (nomark _)))) u03)))))))) (fun ds G R h=>?_)
 ·obtain ⟨row,sz,rfl,_⟩:=h;rfl
 ·obtain ⟨row,sz,rfl,hok,post⟩:=h
  obtain ⟨w0,rest,hd⟩:=v35 row;have lst:∀ {S:Sp3} {ks:List Int} {G:Gp} {q:DK},(∀ R,(∀ a G',G a=none->G' a=some (.lst (ks.map .int))->Grow G G'->R (.ref a) G')->S [row.d] G R)->(∀ a G',G a=none->G' a=some (.lst (ks.map .int))->Grow G G'->q (.ref a) G')->∃ R,S [row.d] G R /\ ∀ d G',R d G'->q d G':=fun {S ks G q} hS k =>
   u13 (post:=fun d G'=>∃ a,d=.ref a /\ G a=none /\ G' a=some (.lst (ks.map .int)) /\ Grow G G') (fun R h=>hS R fun a G' x y z=>h _ _ ⟨a,rfl,x,y,z⟩) fun d G' ⟨a,e,x,y,z⟩=>by subst e;exact k a G' x y z
  simp only [hd]
  (simp! [id];repeat (simp only [Go];simp! [id]))
  rw [<- hd];refine ⟨by decide,fun p0 hp0=>?_⟩;have g0:Grow G (gup G p0 (.lst [.int (row.x:Int)])):=Grow.refl.new hp0;refine lst (S:=vk8 T) (ks:=rb row) (fun R h=>⟨row,sz,rfl,hok,h⟩) fun a1 G1 na1 h1 g1=>?_
  have h10:G1 p0=some (.lst [.int (row.x:Int)]):=g1.kp _ _ u02;have g01:=g0.trans g1;simp! [u41,h10,h1];refine ⟨by rw [List.length_map];have:=vo6 hok;exact Nat.le_trans (m:=1000) (by omega) (by decide),fun a2 ha2=>?_⟩;have g2:Grow G (gup G1 a2 (.lst ([.int (row.x:Int)]++(rb row).map .int))):=g01.new ha2;simp! [id];intro p1 hp1;have hn1:a2 ≠ p1:=fun e=>by rw [<- e,u02] at hp1;cases hp1
  refine vb2 (ks0:=(row.x:Int)::rb row) (bnd:=(sz:Int)) (fun v G q h=>h) (by rw [u02];rfl) hn1 (by rw [List.length_cons];have:=vo6 hok;omega) (fun k hk=>?_) ?_ _
  ·rcases List.mem_cons.mp hk with rfl | hk
   ·have:=ok_x hok;omega
   ·exact (we8 hok k hk).1
  generalize ((row.x:Int)::rb row).length=L1;have g3:=g2.new (o:=.lst (List.replicate L1 (.bl true))) hp1;simp! [ub1,ut1];refine lst (S:=w63 T) (ks:=rbits row) (fun R h=>⟨row,sz,rfl,hok,h⟩) fun a4 G4 na4 h4 g4=>?_
  have g5:=g3.trans g4;simp! [h4];intro p2 hp2;refine vb2 (ks0:=rbits row) (bnd:=32) (fun v G q h=>h) (by rw [h4];rfl) (gne h4 hp2) (by have:=v40 hok;omega) (wg2 hok) ?_ _;have g6:=g5.new (o:=.lst (List.replicate (rbits row).length (.bl true))) hp2;simp! [ub1,ut1];refine lst (S:=w58 T) (ks:=rnums row) (fun R h=>⟨row,sz,rfl,hok,h⟩) fun a7 G7 na7 h7 g7=>?_
  have g8:=g6.trans g7;simp! [h7];intro p3 hp3;refine vb2 (ks0:=rnums row) (bnd:=4294967296) (fun v G q h=>h) (by rw [h7];rfl) (gne h7 hp3) (by have:=v36 (r:=row);omega) (wg1 hok) ?_ _;have g9:=g8.new (o:=.lst (List.replicate (rnums row).length (.bl true))) hp3;simp! [ub1,ut1];exact post _ g9
theorem wi4 {n:Nat} (G_jaq:Ok P w mg base n T.f_jaq (vk8 T)):Ok P w mg base (n+1) T.f_jax (wr8 T):=by
 refine u12 T.f_jax vn2 (fun ds G R h=>?_) (fun cdv A outer s H E hr =>
   (u07 (u15 (uc0 (v10 hr) (e_ix x_ix (ev 0) u05) (ec T.f_jaq T.g_boxes_read G_jaq hr (u00 (ev 0) u03)) (by with_unfolding_all rfl))))) (fun ds G R h=>?_)
 ·obtain ⟨row,sz,rfl,_⟩:=h;rfl
 ·obtain ⟨row,sz,rfl,hok,post⟩:=h
  obtain ⟨w0,rest,hd⟩:=v35 row;simp only [hd]
  (simp! [id];repeat (simp only [Go];simp! [id]))
  rw [<- hd];refine u13 (post:=fun d G'=>∃ a,d=.ref a /\ G a=none /\ G' a=some (.lst ((rb row).map .int)) /\ Grow G G') (fun R h=>⟨row,sz,rfl,hok,fun a G' x y z=>h _ _ ⟨a,rfl,x,y,z⟩⟩) ?_;rintro d G' ⟨a,rfl,na,ha,g⟩;have hn:decide ((row.x:Int) ∈ rb row)=false:=decide_eq_false fun h=>(we8 hok _ h).2 rfl
  simp! [u41,ha,ui2,hn];exact post _ g
theorem wi6 {n:Nat}:Ok P w mg base (n+1) T.f_jav (wr9 T):=by
 refine u12 T.f_jav sc_jav (fun ds G R h=>?_) (fun cdv A outer s H E hr =>
   (u01 (s_if (u25 (v10 hr) (e_ix x_ix (ev 0) u05) (u22 (u00 u09 (u00 u09 u03))) (by with_unfolding_all rfl)) (u07 (u15 e_bl)) u23)
   (u01 (u21 3 sc_jav.nd (e_if (u25 (x_eq hr) (e_ix x_ix (ev 0) u05) u09 (nomark _)) u09 u09))
   (u07 (u15 (vj4 (uc0 (x_lt) (e_ix x_ix (ev 0) u05) (u37 ua3 rfl T.b_len (by decide) (u00 (ev 2) u03)) (nomark _)) (w35 (uc0 (x_eq hr) (e_ix x_ix (ev 2) (e_ix x_ix (ev 0) u05)) (u22 (u00 (ev 3) (u00 (e_ix x_ix (ev 0) u05) (u00 (e_ix x_ix (ev 0) u05) (u00 (ev 1) u03))))) (nomark _))))))))) (fun ds G R h=>?_)
 ·obtain ⟨row,at0,ra,rs,rfl,_⟩:=h;rfl
 ·obtain ⟨row,at0,ra,rs,rfl,hra,hp,hrow,post⟩:=h
  rcases kinds3 row with ⟨x,n,k,rfl⟩ | ⟨x,n,k,rfl⟩ | ⟨w0,rest,hd,h1,h2,hp'⟩
  case inr.inr =>
   simp only [hd];simp! [h1,h2,u41,Bool.true_or,Bool.false_or,Bool.or_true,Bool.or_false];exact post
  case inl =>
   have hk:=hp.go _ _ _ _ hrow;have hkl:decide ((k:Int) < ((rs.map Row.d).length:Int))=true:=decide_eq_true (by rw [List.length_map];have:=uk4 hk;omega);simp! [Row.d,u17,u41,Bool.true_or,Bool.false_or,Bool.or_true,Bool.or_false];dsimp! [u17];dsimp! [hra,hkl,uc1 hk,Row.d];refine ⟨by decide,va1 (r:=.come x n at0) rfl rfl ?_⟩;exact post
  case inr.inl =>
   have hk:=hp.co _ _ _ _ hrow;have hkl:decide ((k:Int) < ((rs.map Row.d).length:Int))=true:=decide_eq_true (by rw [List.length_map];have:=uk4 hk;omega);simp! [Row.d,u17,u41,Bool.true_or,Bool.false_or,Bool.or_true,Bool.or_false];dsimp! [u17];dsimp! [hra,hkl,uc1 hk,Row.d];refine ⟨by decide,va1 (r:=.go x n at0) rfl rfl ?_⟩;exact post
theorem wj8 {n:Nat}:Ok P w mg base (n+1) T.f_jai (w65 T):=by
 refine u12 T.f_jai wa2 (fun ds G R h=>?_) (fun cdv A outer s H E hr =>
   (u01 (un5 T.c_Ride.cl T.c_Ride.n_rows (ev 0) (u48 ud0 rfl T.b_list (by decide) (u00 (e_ix x_ix (ev 1) u05) u03)))
   (u01 (un5 T.c_Ride.cl T.c_Ride.n_held (ev 0) (u48 ud0 rfl T.b_list (by decide) (u00 (ev 2) u03)))
   (u07 (un5 T.c_Ride.cl T.c_Ride.n_spot (ev 0) (ev 3)))))) (fun ds G R h=>?_)
 ·obtain ⟨p,c0,cr,bx,rs,bs,s,rfl,_⟩:=h;rfl
 ·obtain ⟨p,c0,cr,bx,rs,bs,s,rfl,hp,hcr,hbx,post⟩:=h
  (simp! [hcr];repeat (simp only [Go];simp! [hcr]))
  intro ra hra;have n1:p ≠ ra:=gne hp hra;have n2:bx ≠ ra:=gne hbx hra
  (simp! [u06 n1,hp,u95,beq_self_eq_true,List.lookup_cons,List.lookup_nil,putD];repeat (simp only [Go];simp! [u06 n1,hp,u95,beq_self_eq_true,List.lookup_cons,List.lookup_nil,putD]))
  refine ⟨by decide,?_⟩;have n3:bx ≠ p:=by intro e;rw [e,hp] at hbx;cases hbx
  (simp! [u06 n3,u06 n2,hbx];repeat (simp only [Go];simp! [u06 n3,u06 n2,hbx]))
  intro ha hha;have n4:ha ≠ p:=by intro e;rw [e,u02] at hha;cases hha
  have n5:ha ≠ ra:=by intro e;rw [e,u06 (Ne.symm n1),u02] at hha;cases hha
  rw [u06 n4,u06 n5] at hha
  (simp! [u06 (Ne.symm n4),u95,beq_self_eq_true,List.lookup_cons,List.lookup_nil,putD];repeat (simp only [Go];simp! [u06 (Ne.symm n4),u95,beq_self_eq_true,List.lookup_cons,List.lookup_nil,putD]))
  refine ⟨by decide,by decide,?_⟩;refine post ra ha _ hra hha ⟨by rw [u02];rfl,?_,?_,Ne.symm n5⟩ fun b o hb e=>?_
  ·rw [u06 (Ne.symm n1),u06 (Ne.symm n1),u06 (Ne.symm n5),u06 (Ne.symm n1),u02]
  ·rw [u06 n4,u06 n4,u02]
  ·rw [u06 hb,u06 hb,u06 (gne e hha),u06 hb,u06 (gne e hra)]
   exact e
theorem wj6 {n:Nat}:Ok P w mg base (n+1) T.f_jak (w64 T):=by
 refine u12 T.f_jak vn8 (fun ds G R h=>?_) (fun cdv A outer s H E hr =>
   (u07 (u15 (u63 T.c_Ride.cl T.c_Ride.n_spot (ev 0))))) (fun ds G R h=>?_)
 ·obtain ⟨p,ra,ha,rs,bs,s,rfl,_⟩:=h;rfl
 ·obtain ⟨p,ra,ha,rs,bs,s,rfl,A,post⟩:=h
  (simp! [A.ob,A.ro,u29];repeat (simp only [Go];simp! [A.ob,A.ro,u29]))
  exact post
theorem wk1 {n:Nat}:Ok P w mg base (n+1) T.f_jag (w66 T):=by
 refine u12 T.f_jag vn9 (fun ds G R h=>?_) (fun cdv A outer s H E hr =>
   (u07 (u15 (u48 ud0 rfl T.b_list (by decide) (u00 (u63 T.c_Ride.cl T.c_Ride.n_held (ev 0)) u03))))) (fun ds G R h=>?_)
 ·obtain ⟨p,ra,ha,rs,bs,s,rfl,_⟩:=h;rfl
 ·obtain ⟨p,ra,ha,rs,bs,s,rfl,A,post⟩:=h
  (simp! [A.ob,A.he,u29];repeat (simp only [Go];simp! [A.ob,A.he,u29]))
  exact post
theorem wj9 {n:Nat} (G_jaj:Ok P w mg base n T.f_jaj (vk9 T)) (G_jaw:Ok P w mg base n T.f_jaw (w61 T)) (G_jar:Ok P w mg base n T.f_jar (vb6 T)):Ok P w mg base (n+1) T.f_jah (ws5 T):=by
 refine u12 T.f_jah sc_jah (fun ds G R h=>?_) (fun cdv A outer s H E hr =>
   (u01 (s_if (vd3 (uc5 (em0 T.c_Ride.cl T.f_jaj T.m_jaj G_jaj hr (ev 0)))) (u07 (u15 e_bl)) u23)
   (u01 (u21 1 sc_jah.nd (e_ix x_ix (u63 T.c_Ride.cl T.c_Ride.n_rows (ev 0)) (u63 T.c_Ride.cl T.c_Ride.n_spot (ev 0))))
   (u01 (s_if (t_w (w_and (u25 (x_eq hr) (e_ix x_ix (ev 1) u05) u09 (nomark _)) (ut9 (uc5 (ec T.f_jaw T.g_holds G_jaw hr (u00 (ev 1) (u00 (u63 T.c_Ride.cl T.c_Ride.n_held (ev 0)) u03))))))) (u01 (un5 T.c_Ride.cl T.c_Ride.n_spot (ev 0) (u14 u49 (e_ix x_ix (ev 1) u05) u05))
   (u07 (u15 e_bl))) u23)
   (u01 (u38 (ec T.f_jar T.g_change G_jar hr (u00 (ev 1) (u00 (u63 T.c_Ride.cl T.c_Ride.n_held (ev 0)) (u00 u05 u03)))))
   (u01 (uu8 T.c_Ride.cl T.c_Ride.n_spot (ev 0) u05 ul8)
   (u07 (u15 e_bl)))))))) (fun ds G R h=>?_)
 ·obtain ⟨p,ra,ha,rs,bs,s,sz,rfl,_⟩:=h;rfl
 ·obtain ⟨p,ra,ha,rs,bs,s,sz,rfl,A,c,post⟩:=h
  have hph:=A.ph;have hpr:=A.pr;have hl:=c.bo.len
  (simp! [A.ob,u29];repeat (simp only [Go];simp! [A.ob,u29]))
  refine u35 (v:=.bl (mayF rs bs s)) (G1:=G) (fun R h=>⟨p,ra,ha,rs,bs,s,sz,rfl,A,c,h⟩) ?_
  (simp! [id];repeat (simp only [Go];simp! [id]))
  cases hm:mayF rs bs s with
  | false =>
   (simp! [id];repeat (simp only [Go];simp! [id]))
   rw [hm] at post;exact post G (fun _=>rfl) fun z=>by cases z
  | true =>
   (simp! [id];repeat (simp only [Go];simp! [id]))
   rw [hm] at post;have hlt:s < rs.length:=by
    by_cases q:s < rs.length
    ·exact q
    ·unfold mayF at hm;rw [List.getElem?_eq_none (by omega)] at hm;cases hm
   have hg:=List.getElem?_eq_getElem hlt;have hok:=c.ro _ (List.getElem_mem hlt)
   (simp! [A.ob,A.ro,u29,uc1 hg];repeat (simp only [Go];simp! [A.ob,A.ro,u29,uc1 hg]))
   have step:∀ (row:Row),rs[s]=row->row.ok sz->(nxF rs bs s=(s+1,stp 1 bs row))->∃ R1,vb6 T [row.d,.ref ha,.int 1] G R1 /\ ∀ d G',R1 d G'->∃ fs',G' p=some (.ins T.c_Ride.C fs') /\ fs'=flds ra ha s /\ R (.bl true) (gup G' p (.ins T.c_Ride.C (flds ra ha (s+1)))):=by
    intro row _ hrok hnx;refine u13 (post:=fun d G'=>d=.non /\ Upd1 ha (stp 1 bs row) G G') (fun R h=>⟨row,ha,sz,1,bs,rfl,.inl rfl,hrok,c.bo,A.he,fun G' u=>h _ _ ⟨rfl,u⟩⟩) ?_;rintro d G' ⟨rfl,u⟩;refine ⟨flds ra ha s,by rw [u.kp p hph];exact A.ob,rfl,?_⟩;refine post _ (fun z=>by cases z) fun _=>?_
    rw [hnx];refine ⟨⟨u02,by rw [u06 (Ne.symm hpr),u.kp ra A.ne];exact A.ro,by rw [u06 (Ne.symm hph)];exact u.at_,A.ne⟩,fun b h1 h2=>by rw [u06 h1,u.kp b h2]⟩
   have fin:∀ {row:Row} {tl:D->Gp->Prop},(∃ R1,vb6 T [row.d,.ref ha,.int 1] G R1 /\ ∀ d G',R1 d G'->∃ fs',G' p=some (.ins T.c_Ride.C fs') /\ fs'=flds ra ha s /\ R (.bl true) (gup G' p (.ins T.c_Ride.C (flds ra ha (s+1))))) ->
     (∀ d G',(∃ fs',G' p=some (.ins T.c_Ride.C fs') /\ fs'=flds ra ha s /\ R (.bl true) (gup G' p (.ins T.c_Ride.C (flds ra ha (s+1)))))->tl d G')->∃ R1,vb6 T [row.d,.ref ha,.int 1] G R1 /\ ∀ d G',R1 d G'->tl d G':=fun ⟨R1,a,b⟩ h=>⟨R1,a,fun d G' q=>h d G' (b d G' q)⟩
   have es:((s:Int)+1)=((s+1:Nat):Int):=by omega
   rcases wl6 rs[s] with ⟨x,m,k,hrow⟩ | ⟨w,rest,hd,hw,hnx⟩
   ·rw [hrow]
    rw [hrow] at hok
    (simp! [Row.d,u17,A.ob,u29];repeat (simp only [Go];simp! [Row.d,u17,A.ob,u29]))
    refine u35 (v:=.bl (decide (gt bs x=m))) (G1:=G) (fun R h=>⟨.go x m k,ha,x,bs,m,k,rfl,.inl rfl,A.he,by rw [hl];exact hok.1,h⟩) ?_
    (simp! [id];repeat (simp only [Go];simp! [id]))
    refine u72 (fun h0=>?_) (fun h0=>?_)
    ·(simp! [A.ob,u29];repeat (simp only [Go];simp! [A.ob,u29]))
     refine ⟨v82,?_⟩;refine post _ (fun z=>by cases z) fun _=>?_
     have hnx:nxF rs bs s=(k+1,bs):=by unfold nxF;rw [hg,hrow];simp [h0]
     rw [hnx];refine ⟨⟨?_,by rw [u06 (Ne.symm hpr)];exact A.ro,by rw [u06 (Ne.symm hph)];exact A.he,A.ne⟩,fun b h1 h2=>u06 h1⟩;rw [u02];unfold flds;rw [show ((k+1:Nat):Int)=(k:Int)+1 by omega]
    ·(simp! [A.ob,u29];repeat (simp only [Go];simp! [A.ob,u29]))
     refine fin (row:=.go x m k) (step _ hrow hok (by unfold nxF;rw [hg,hrow];simp [h0,stp])) ?_;rintro d G' ⟨fs',e1,rfl,q⟩
     (simp! [e1,u29,es];repeat (simp only [Go];simp! [e1,u29,es]))
     exact ⟨v82,q⟩
   ·(simp! [hd,hw,A.ob,u29];repeat (simp only [Go];simp! [hd,hw,A.ob,u29]))
    rw [<- hd];refine fin (row:=rs[s]) (step _ rfl hok (hnx rs bs s hg)) ?_;rintro d G' ⟨fs',e1,rfl,q⟩
    (simp! [e1,u29,es];repeat (simp only [Go];simp! [e1,u29,es]))
    exact ⟨v82,q⟩
theorem wk2 {n:Nat}:Ok P w mg base (n+1) T.f_jaf (vl0 T):=by
 refine u12 T.f_jaf vo0 (fun ds G R h=>?_) (fun cdv A outer s H E hr =>
   (u07 (u15 (uc0 (x_eq hr) (u63 T.c_Ride.cl T.c_Ride.n_spot (ev 0)) (u37 ua3 rfl T.b_len (by decide) (u00 (u63 T.c_Ride.cl T.c_Ride.n_rows (ev 0)) u03)) (nomark _))))) (fun ds G R h=>?_)
 ·obtain ⟨p,ra,ha,rs,bs,s,rfl,_⟩:=h;rfl
 ·obtain ⟨p,ra,ha,rs,bs,s,rfl,A,post⟩:=h
  (simp! [A.ob,A.ro,u29,List.length_map];repeat (simp only [Go];simp! [A.ob,A.ro,u29,List.length_map]))
  have e:decide ((s:Int)=(rs.length:Int))=decide (s=rs.length):=by
   by_cases q:s=rs.length
   ·simp [q]
   ·have:¬ (s:Int)=(rs.length:Int):=by omega
    simp [q,this]
  rw [e];exact post
theorem wj7 {n:Nat} (G_jaf:Ok P w mg base n T.f_jaf (vl0 T)) (G_jaw:Ok P w mg base n T.f_jaw (w61 T)):Ok P w mg base (n+1) T.f_jaj (vk9 T):=by
 refine u12 T.f_jaj sc_jaj (fun ds G R h=>?_) (fun cdv A outer s H E hr =>
   (u01 (s_if (uc5 (em0 T.c_Ride.cl T.f_jaf T.m_jaf G_jaf hr (ev 0))) (u07 (u15 e_bl)) u23)
   (u01 (u21 1 sc_jaj.nd (e_ix x_ix (u63 T.c_Ride.cl T.c_Ride.n_rows (ev 0)) (u63 T.c_Ride.cl T.c_Ride.n_spot (ev 0))))
   (u07 (u15 (ww8 (vj4 (uc0 (x_eq hr) (e_ix x_ix (ev 1) u05) u09 (nomark _)) (w35 (ec T.f_jaw T.g_holds G_jaw hr (u00 (ev 1) (u00 (u63 T.c_Ride.cl T.c_Ride.n_held (ev 0)) u03))))))))))) (fun ds G R h=>?_)
 ·obtain ⟨p,ra,ha,rs,bs,s,sz,rfl,_⟩:=h;rfl
 ·obtain ⟨p,ra,ha,rs,bs,s,sz,rfl,A,c,post⟩:=h
  (simp! [A.ob,u29];repeat (simp only [Go];simp! [A.ob,u29]))
  refine u35 (v:=.bl (decide (s=rs.length))) (G1:=G) (fun R h=>⟨p,ra,ha,rs,bs,s,rfl,A,h⟩) ?_
  (simp! [A.ob,u29];repeat (simp only [Go];simp! [A.ob,u29]))
  refine u72 (fun h0=>?_) (fun h0=>?_)
  ·subst h0
   have:mayF rs bs rs.length=false:=by unfold mayF;rw [List.getElem?_eq_none (Nat.le_refl _)]
   rw [this] at post;exact post
  ·have hlt:s < rs.length:=by have:=c.le;omega
   have hg:=List.getElem?_eq_getElem hlt;have hok:=c.ro _ (List.getElem_mem hlt);have hl:=c.bo.len;unfold mayF at post;rw [hg] at post
   (simp! [A.ob,A.ro,u29,uc1 hg];repeat (simp only [Go];simp! [A.ob,A.ro,u29,uc1 hg]))
   revert hok post
   cases rs[s] with
   | come x m k =>
    intro post hok
    (simp! [Row.d,u17,A.ob,u29];repeat (simp only [Go];simp! [Row.d,u17,A.ob,u29]))
    refine u35 (v:=.bl (decide (gt bs x=m))) (G1:=G) (fun R h=>⟨.come x m k,ha,x,bs,m,k,rfl,.inr rfl,A.he,by rw [hl];exact hok.1,h⟩) ?_;exact post
   | go x m k=>intro post hok;(simp! [Row.d,u17];repeat (simp only [Go];simp! [Row.d,u17]));exact post
   | add x o=>intro post hok;(simp! [Row.d,u17];repeat (simp only [Go];simp! [Row.d,u17]));exact post
   | take x o=>intro post hok;(simp! [Row.d,u17];repeat (simp only [Go];simp! [Row.d,u17]));exact post
   | turn x i cs=>intro post hok;(simp! [Row.d,u17];repeat (simp only [Go];simp! [Row.d,u17]));exact post
   | swap x y=>intro post hok;(simp! [Row.d,u17];repeat (simp only [Go];simp! [Row.d,u17]));exact post
theorem wi5 {n:Nat}:Ok P w mg base (n+1) T.f_jaw (w61 T):=by
 refine u12 T.f_jaw vn3 (fun ds G R h=>?_) (fun cdv A outer s H E hr =>
   (u07 (u15 (uc0 (x_eq hr) (e_ix x_ix (ev 1) (e_ix x_ix (ev 0) u05)) (e_ix x_ix (ev 0) u05) (nomark _))))) (fun ds G R h=>?_)
 ·obtain ⟨row,a,x,bs,n,k,rfl,_⟩:=h;rfl
 ·obtain ⟨row,a,x,bs,m,k,rfl,hrow,ha,hx,post⟩:=h
  rcases hrow with rfl | rfl
  ·(simp! [Row.d,ha,u44 hx];repeat (simp only [Go];simp! [Row.d,ha,u44 hx]))
   exact post
  ·(simp! [Row.d,ha,u44 hx];repeat (simp only [Go];simp! [Row.d,ha,u44 hx]))
   exact post
theorem wi9 {n:Nat} (G_jbv:Ok P w mg base n T.f_jbv (wq4 T)) (G_jce:Ok P w mg base n T.f_jce (wq0 T)):Ok P w mg base (n+1) T.f_jar (vb6 T):=by
 refine u12 T.f_jar sc_jar (fun ds G R h=>?_) (fun cdv A outer s H E hr =>
   (u07 (s_if (u25 (x_eq hr) (e_ix x_ix (ev 0) u05) u09 (nomark _)) (u07 (ub6 (u14 ub2 (u14 u49 (e_ix x_ix (ev 1) (e_ix x_ix (ev 0) u05)) (u14 uc4 (ev 2) (ec T.f_jbv T.g_operand_value G_jbv hr (u00 (e_ix x_ix (ev 0) u05) (u00 (ev 1) u03))))) (u77 T.k_NUMBERS)) (uk5 (ev 1) (e_ix x_ix (ev 0) u05) uj0))) (u07 (s_if (u25 (x_eq hr) (e_ix x_ix (ev 0) u05) u09 (nomark _)) (u07 (ub6 (u14 ub2 (u14 ue1 (e_ix x_ix (ev 1) (e_ix x_ix (ev 0) u05)) (u14 uc4 (ev 2) (ec T.f_jbv T.g_operand_value G_jbv hr (u00 (e_ix x_ix (ev 0) u05) (u00 (ev 1) u03))))) (u77 T.k_NUMBERS)) (uk5 (ev 1) (e_ix x_ix (ev 0) u05) uj0))) (u07 (s_if (u25 (x_eq hr) (e_ix x_ix (ev 0) u05) u09 (nomark _)) (u07 (u38 (ec T.f_jce T.g_turn_bit G_jce hr (u00 (ev 0) (u00 (ev 1) u03))))) (u07 (s_if (u25 (x_eq hr) (e_ix x_ix (ev 0) u05) u09 (nomark _)) (u01 (u21 3 sc_jar.nd (e_ix x_ix (ev 1) (e_ix x_ix (ev 0) u05)))
   (u01 (ub6 (e_ix x_ix (ev 1) (e_ix x_ix (ev 0) u05)) (uk5 (ev 1) (e_ix x_ix (ev 0) u05) uj0))
   (u07 (ub6 (ev 3) (uk5 (ev 1) (e_ix x_ix (ev 0) u05) uj0))))) u23))))))))) (fun ds G R h=>?_)
 ·obtain ⟨row,a,sz,s,bs,rfl,_⟩:=h;rfl
 ·obtain ⟨row,a,sz,s,bs,rfl,hs,hok,hb,ha,post⟩:=h
  have hl:=hb.len;have cm:∀ y:Int,CMul s y:=fun y=>.inl (by rcases hs with rfl | rfl <;> decide)
  have p1:((0:Int) < 4294967296)=True:=by decide
  cases row with
  | add x o =>
   have hx':x < bs.length:=by rw [hl];exact hok.1
   (simp! [Row.d,u17,ha,u44 hx'];repeat (simp only [Go];simp! [Row.d,u17,ha,u44 hx']))
   refine u35 (v:=.int (val bs o)) (G1:=G) (fun R h=>⟨o,a,bs,rfl,ha,fun y e=>by subst e;rw [hl];exact hok.2.1,h⟩) ?_
   (simp! [ha,u44 hx',u87 hx',setm,cm,p1];repeat (simp only [Go];simp! [ha,u44 hx',u87 hx',setm,cm,p1]))
   exact post _ ⟨u02,fun b hb=>u06 hb⟩
  | take x o =>
   have hx':x < bs.length:=by rw [hl];exact hok.1
   (simp! [Row.d,u17,ha,u44 hx'];repeat (simp only [Go];simp! [Row.d,u17,ha,u44 hx']))
   refine u35 (v:=.int (val bs o)) (G1:=G) (fun R h=>⟨o,a,bs,rfl,ha,fun y e=>by subst e;rw [hl];exact hok.2.1,h⟩) ?_
   (simp! [ha,u44 hx',u87 hx',setm,cm,p1];repeat (simp only [Go];simp! [ha,u44 hx',u87 hx',setm,cm,p1]))
   exact post _ ⟨u02,fun b hb=>u06 hb⟩
  | turn x i cs =>
   (simp! [Row.d,u17];repeat (simp only [Go];simp! [Row.d,u17]))
   refine u13 (post:=fun d G'=>d=.non /\ Upd1 a (stp 1 bs (.turn x i cs)) G G') (fun R h=>⟨x,i,cs,a,sz,bs,rfl,hok,hb,ha,fun G' u=>h _ _ ⟨rfl,u⟩⟩) ?_;rintro d G' ⟨rfl,u⟩;exact post _ u
  | swap x y =>
   have hx':x < bs.length:=by rw [hl];exact hok.1
   have hy':y < bs.length:=by rw [hl];exact hok.2.1
   have hx2:x < (bs.set x (gt bs y)).length:=by rw [List.length_set];exact hx'
   have hy2:y < (bs.set x (gt bs y)).length:=by rw [List.length_set];exact hy'
   (simp! [Row.d,u17,ha,u44 hx',u44 hy',u87 hx',setm,u87 hy2,u30];repeat (simp only [Go];simp! [Row.d,u17,ha,u44 hx',u44 hy',u87 hx',setm,u87 hy2,u30]))
   exact post _ ⟨u02,fun b hb=>u06 hb⟩
  | go x m k =>
   (simp! [Row.d,u17];repeat (simp only [Go];simp! [Row.d,u17]))
   exact post _ ⟨ha,fun b hb=>rfl⟩
  | come x m k =>
   (simp! [Row.d,u17];repeat (simp only [Go];simp! [Row.d,u17]))
   exact post _ ⟨ha,fun b hb=>rfl⟩
theorem wg4 {n:Nat}:Ok P w mg base (n+1) T.f_jbv (wq4 T):=by
 refine u12 T.f_jbv vm6 (fun ds G R h=>?_) (fun cdv A outer s H E hr =>
   (u07 (u15 (e_if (u25 (x_eq hr) (e_ix x_ix (ev 0) u05) u09 (nomark _)) (e_ix x_ix (ev 1) (e_ix x_ix (ev 0) u05)) (e_ix x_ix (ev 0) u05))))) (fun ds G R h=>?_)
 ·obtain ⟨o,a,bs,rfl,_⟩:=h;rfl
 ·obtain ⟨o,a,bs,rfl,ha,hy,post⟩:=h
  cases o with
  | num m =>
   (simp! [Opd.d,u17];repeat (simp only [Go];simp! [Opd.d,u17]))
   exact post
  | box y =>
   (simp! [Opd.d,u17,ha,u44 (hy y rfl)];repeat (simp only [Go];simp! [Opd.d,u17,ha,u44 (hy y rfl)]))
   exact post
theorem wf5 {n:Nat}:Ok P w mg base (n+1) T.f_jce (wq0 T):=by
 refine u12 T.f_jce sc_jce (fun ds G R h=>?_) (fun cdv A outer s H E hr =>
   (u01 (ub5 (u94 (e_ix x_ix (ev 0) u05)) (u20 2 sc_jce.nd) (u07 (s_if (u25 (x_eq hr) (u14 w75 (u14 wt3 (e_ix x_ix (ev 1) (e_ix x_ix (ev 2) u05)) (e_ix x_ix (ev 2) u05)) u05) u05 (nomark _)) (u07 wa4) u23)))
   (u07 (ub6 (u14 w73 (e_ix x_ix (ev 1) (e_ix x_ix (ev 0) u05)) (u14 uq4 u05 (e_ix x_ix (ev 0) u05))) (uk5 (ev 1) (e_ix x_ix (ev 0) u05) uj0))))) (fun ds G R h=>?_)
 ·obtain ⟨x,i,cs,a,sz,bs,rfl,_⟩:=h;rfl
 ·obtain ⟨x,i,cs,a,sz,bs,rfl,hok,hb,ha,post⟩:=h
  have hl:=hb.len;obtain ⟨hx,hi,_,hc⟩:=hok;have hx':x < bs.length:=by omega
  (simp! [Row.d];repeat (simp only [Go];simp! [Row.d]))
  refine u47 (fun r σ G'=>∃ (cs':List (Nat × Nat)) (v:Option D),r=cs'.map cd /\ (∀ c ∈ cs',c ∈ cs) /\ con bs cs=con bs cs' /\ G'=G /\ σ=[some (Row.turn x i cs).d,some (.ref a),v]) ⟨cs,none,rfl,fun _ h=>h,rfl,rfl,rfl⟩ ?_ ?_
  ·rintro σ G' ⟨cs',v,e1,_,hcon,rfl,rfl⟩
   have e2:cs'=[]:=by simpa using e1.symm
   subst e2;refine ⟨trivial,?_⟩
   (simp! [Row.d,ha,u44 hx',u87 hx',setm,v08];repeat (simp only [Go];simp! [Row.d,ha,u44 hx',u87 hx',setm,v08]))
   refine ⟨va0 (by omega) (by omega),?_⟩;refine post _ ⟨?_,fun b hb=>u06 hb⟩;rw [u02]
   show _=some (DO.lst (List.map D.int (if con bs cs=true then _ else _)))
   rw [hcon];rfl
  ·rintro z r σ G' ⟨cs',v,e1,hsub,hcon,rfl,rfl⟩ ih
   cases cs' with
   | nil=>cases e1
   | cons c cs' =>
    cases e1;obtain ⟨h1,h2,h3⟩:=hc c (hsub c List.mem_cons_self);have hc1:c.1 < bs.length:=by omega
    (simp! [Row.d,cd,ha,u44 hc1,vb1];repeat (simp only [Go];simp! [Row.d,cd,ha,u44 hc1,vb1]))
    refine ⟨by omega,?_⟩;refine u72 (fun h0=>?_) (fun h0=>?_)
    ·refine post _ ⟨?_,fun b hb=>rfl⟩
     have:con bs cs=false:=by rw [hcon];unfold con;rw [List.all_cons,h0];rfl
     show _=some (DO.lst (List.map D.int (if con bs cs=true then _ else _)))
     rw [this];exact ha
    ·refine ih _ _ ⟨cs',_,rfl,fun d hd=>hsub d (List.mem_cons_of_mem _ hd),?_,rfl,rfl⟩
     rw [hcon];unfold con;rw [List.all_cons];simp [h0]
theorem wg0 {n:Nat} (G_jai:Ok P w mg base n T.f_jai (w65 T)) (G_jak:Ok P w mg base (n+1) T.f_jak (w64 T)) (G_jag:Ok P w mg base (n+1) T.f_jag (w66 T)) (G_jah:Ok P w mg base (n+1) T.f_jah (ws5 T)) (G_jaf:Ok P w mg base (n+1) T.f_jaf (vl0 T)) (G_jaj:Ok P w mg base (n+1) T.f_jaj (vk9 T)) (G_jcl:Ok P w mg base (n+1) T.f_jcl (w55 T)):Ok P w mg base (n+1+1) T.f_jbz (w57 T):=by
 refine u12 T.f_jbz sc_jbz (fun ds G R h=>?_) (fun cdv A outer s H E hr =>
   (u01 (u21 3 sc_jbz.nd (emkd T.mk_Ride T.c_Ride.m T.d_jai G_jai hr (u00 (ev 0) (u00 (ev 1) u03))))
   (u01 (u21 4 sc_jbz.nd u05)
   (u01 (vs9 (t_w (w_and (u25 (x_lt) (ev 4) (ev 2) (nomark _)) (ut9 (uc5 (em0 T.c_Ride.cl T.f_jah T.m_jah G_jah hr (ev 3)))))) (u07 (wu6 4 sc_jbz.nd u05 ul8)))
   (u01 (u21 5 sc_jbz.nd (ec T.f_jcl T.g_word_of G_jcl hr (u00 (em0 T.c_Ride.cl T.f_jaf T.m_jaf G_jaf hr (ev 3)) (u00 u09 (u00 (em0 T.c_Ride.cl T.f_jaj T.m_jaj G_jaj hr (ev 3)) u03)))))
   (u07 (u15 (u22 (u00 (ev 5) (u00 (em0 T.c_Ride.cl T.f_jak T.m_jak G_jak hr (ev 3)) (u00 (em0 T.c_Ride.cl T.f_jag T.m_jag G_jag hr (ev 3)) (u00 (ev 4) u03)))))))))))) (fun ds G R h=>?_)
 ·obtain ⟨c0,rc,bx,rs,bs,most,sz,rfl,_⟩:=h;rfl
 ·obtain ⟨c0,rc,bx,rs,bs,most,sz,rfl,hrc,hbx,c,hp,post⟩:=h
  simp! [id];intro p hp0;refine wo7 T (s:=0) hp0 hrc hbx fun ra ha G1 nra nha A1 g1=>?_
  dsimp! [id];dsimp! [id];refine v12 (fun m σ G'=>∃ (k s:Nat) (cs:List Int),m=most - k /\ RnI true rs most 0 bs k s cs /\ Cde sz rs cs s /\ RideAt T.c_Ride.C G' p ra ha rs cs s /\ Kept p ha G1 G' /\ σ=[some (.tup [c0,.ref rc]),some (.ref bx),some (.int (most:Int)),some (.ref p),some (.int (k:Int)),none]) (m:=most)
   ⟨0,0,bs,rfl,RnI.init,c,A1,Kept.refl,rfl⟩ ?_
  rintro m σ G' N ⟨k,s,cs,em,hR,cc,A,kp,rfl⟩ ih;have stop:∀ (e:rn true rs most 0 bs=(k,s,cs)),Go ((dSeq (dAsg (dCall (w55 T) [] (u68 (ug4 T.c_Ride.C "at_end" (vl0 T) [] (dVar 3) dNil) (u68 (dC (.str "end")) (u68 (ug4 T.c_Ride.C "may_forth" (vk9 T) [] (dVar 3) dNil) dNil)))) (uk6 5)) (dRet (dTup (u68 (dVar 5) (u68 (ug4 T.c_Ride.C "place" (w64 T) [] (dVar 3) dNil) (u68 (ug4 T.c_Ride.C "boxes" (w66 T) [] (dVar 3) dNil) (u68 (dVar 4) dNil))))))) { nx:=fun _ G'=>R .non G',rt:=R }) [some (.tup [c0,.ref rc]),some (.ref bx),some (.int (most:Int)),some (.ref p),some (.int (k:Int)),none] G':=by
   intro e;dsimp! [A.ob,u29];refine u35 (v:=.bl (decide (s=rs.length))) (G1:=G') (fun R h=>⟨p,ra,ha,rs,cs,s,rfl,A,h⟩) ?_;simp! [A.ob,u29];refine u35 (v:=.bl (mayF rs cs s)) (G1:=G') (fun R h=>⟨p,ra,ha,rs,cs,s,sz,rfl,A,cc,h⟩) ?_;simp! [id];refine u35 (v:=.str (wrd true rs cs s)) (G1:=G') (fun R h=>⟨_,_,_,rfl,by
    have ew:(if decide (s=rs.length)=true then ("end" : Str) else if mayF rs cs s=true then "tired" else "torn")=wrd true rs cs s:=by
     unfold wrd
     by_cases h0:s=rs.length
     ·rw [decide_eq_true h0,if_pos rfl]
      exact (if_pos (show s=(if true=true then rs.length else 0) from h0)).symm
     ·rw [decide_eq_false h0,if_neg Bool.false_ne_true]
      exact (if_neg (show ¬ s=(if true=true then rs.length else 0) from h0)).symm
    rw [ew];exact h⟩) ?_
   dsimp! [A.ob,u29];refine u35 (v:=.int (s:Int)) (G1:=G') (fun R h=>⟨p,ra,ha,rs,cs,s,rfl,A,h⟩) ?_;simp! [A.ob,u29];refine u13 (post:=fun d G2=>∃ q1,d=.ref q1 /\ G' q1=none /\ G2=gup G' q1 (.lst (cs.map .int))) (fun R h=>⟨p,ra,ha,rs,cs,s,rfl,A,fun q1 e=>h _ _ ⟨q1,rfl,e,rfl⟩⟩) ?_;rintro d G2 ⟨q1,rfl,hq1,rfl⟩;simp! [id];refine ⟨by decide,?_⟩;have gk:∀ b o,G b=some o->G' b=some o:=fun b o e=>kp.kp b o (gne e hp0) (gne e nha) (g1.kp _ _ e)
   have hGq:G q1=none:=by
    cases ez:G q1 with
    | none=>rfl
    | some o=>rw [gk q1 o ez] at hq1;cases hq1
   have:=post q1 (gup G' q1 (.lst (cs.map .int))) hGq (by rw [e];exact u02) ⟨fun b o eb=>by rw [u06 (gne (gk b o eb) hq1)];exact gk b o eb⟩;rw [e] at this;exact this
  simp! [id];refine u72 (fun hk=>?_) (fun hk=>stop (hR.stop (.inl fun z=>hk (by omega))));simp! [A.ob,u29];refine u13 (post:=fun d G2=>(mayX true rs cs s=false /\ d=.bl false /\ G2=G') \/ (mayX true rs cs s=true /\ d=.bl true /\ RideAt T.c_Ride.C G2 p ra ha rs (nxX true rs cs s).2 (nxX true rs cs s).1 /\ ∀ b,b ≠ p->b ≠ ha->G2 b=G' b))
   (fun R h=>⟨p,ra,ha,rs,cs,s,sz,rfl,A,cc,fun G2 h0 h1=>by
    cases hm:mayF rs cs s with
    | false=>exact h _ _ (.inl ⟨hm,rfl,h0 hm⟩)
    | true=>exact h _ _ (.inr ⟨hm,rfl,(h1 hm).1,(h1 hm).2⟩)⟩) ?_
  rintro d G2 (⟨hm,rfl,rfl⟩ | ⟨hm,rfl,A2,e2⟩)
  ·simp! [id]
   exact stop (hR.stop (.inr hm))
  ·simp! [id]
   have hk':k < most:=by omega
   exact ih _ _ (most - (k+1)) (by omega) ⟨k+1,_,_,rfl,hR.step hk' hm,(wu1 hp cc hm).1,A2,kp.eqs e2,rfl⟩
theorem wf0 {n:Nat}:Ok P w mg base (n+1) T.f_jcl (w55 T):=by
 refine u12 T.f_jcl vm4 (fun ds G R h=>?_) (fun cdv A outer s H E hr =>
   (u01 (s_if (uc5 (ev 0)) (u07 (u15 (ev 1))) u23)
   (u07 (u15 (e_if (uc5 (ev 2)) u09 u09))))) (fun ds G R h=>?_)
 ·obtain ⟨a,c,w,rfl,_⟩:=h;rfl
 ·obtain ⟨a,c,w,rfl,post⟩:=h
  cases a <;> cases c <;> ((simp! [id];repeat (simp only [Go];simp! [id]));exact post)
theorem wh7 {n:Nat}:Ok P w mg base (n+1) T.f_jbe (uc7 T):=by
 refine u12 T.f_jbe sc_jbe (fun ds G R h=>?_) (fun cdv A outer s H E hr =>
   (u01 (ub6 (ev 0) (ur4 (n:=3) rfl (u42 (u20 2 sc_jbe.nd) (u42 (u20 3 sc_jbe.nd) (u42 (u20 4 sc_jbe.nd) uf1)))))
   (u01 (s_if (u25 (x_eq hr) (ev 4) u05 (nomark _)) (u01 (ub6 (u14 u49 (ev 3) u05) (uk5 (ev 0) u05 uj0))
   (u01 (u21 5 sc_jbe.nd (u14 u49 (u14 uc4 u05 (ev 3)) u05))
   (u01 (s_if (u25 (x_gt) (u37 ua3 rfl T.b_len (by decide) (u00 (ev 2) u03)) u05 (nomark _)) (u07 (u21 5 sc_jbe.nd (e_ix x_ix (ev 2) (u14 ub2 (ev 3) (u37 ua3 rfl T.b_len (by decide) (u00 (ev 2) u03)))))) u23)
   (u01 (u21 4 sc_jbe.nd (u37 wt7 rfl T.b_abs (by decide) (u00 (ev 5) u03)))
   (u07 (s_if (t_w (w_or (u25 (x_ge) (ev 3) (u37 ua3 rfl T.b_len (by decide) (u00 (ev 2) u03)) (nomark _)) (vr6 (u25 (x_lt) (ev 4) (u14 wt4 u05 u05) (nomark _))))) (u01 (u21 6 sc_jbe.nd (u14 ub2 (u14 u49 (u14 u49 (u14 uc4 (u14 ub2 (ev 5) u05) (u14 u49 u05 (ev 3))) (u14 uc4 u05 (ev 3))) u05) u05))
   (u01 (u21 6 sc_jbe.nd (u14 ub2 (u14 uc4 (ev 6) (ev 6)) u05))
   (u07 (u15 (u14 ub2 (u14 ub2 (u14 uc4 (ev 6) (ev 6)) u05) (ev 1)))))) u23)))))) u23)
   (u01 (ub6 (u37 vc5 rfl T.b_divmod (by decide) (u00 (ev 4) (u00 (ev 1) u03))) (ur4 (n:=2) rfl (u42 (uk5 (ev 0) u05 uj0) (u42 (u20 7 sc_jbe.nd) uf1))))
   (u07 (u15 (ev 7))))))) (fun ds G R h=>?_)
 ·obtain ⟨⟨st,m,rfl,_⟩,_⟩:=h;rfl
 ·obtain ⟨⟨st,m,rfl,⟨a,ns,k,r,hst,ha,hk,hr0,hne,hlen⟩,hm0,hm1⟩,post⟩:=h
  have fin:∀ (v k' r':Int),0<=v->v < m->0<=k'->0<=r'->R (.int v) (gup G st (.lst [.ref a,.int k',.int r'])):=fun v k' r' h1 h2 h3 h4=>post _ _ ⟨st,m,v,rfl,
   ⟨⟨a,ns,k',r',u02,by rw [u06 hne];exact ha,h3,h4,hne,hlen⟩,fun b o hb e=>by rw [u06 hb];exact e⟩,rfl,h1,h2⟩
  have tail:∀ (y k' r':Int),0<=k'->0<=r'->R (.int (y % m)) (gup G st (.lst [.ref a,.int k',.int r'])):=fun y k' r' h1 h2=>fin _ _ _ (Int.emod_nonneg _ (by omega)) (Int.emod_lt_of_pos _ hm0) h1 h2
  have cd:∀ c:Int,CDiv c m:=fun c=>⟨hm0,hm1⟩
  have cm:∀ c y:Int,CMul (c % 2147483629) y:=fun c y=>uf8 (by omega) (by omega)
  have cm2:∀ c y:Int,CMul (c % 2147483587) y:=fun c y=>uf8 (by omega) (by omega)
  have c7:∀ y:Int,CMul 7 y:=fun y=>uf8 (by decide) (by decide)
  have c79:∀ y:Int,CMul 7919 y:=fun y=>uf8 (by decide) (by decide)
  have cp:CPow 10 18:=⟨by decide,by decide,by decide⟩;have p1:((0:Int) < 2147483629)=True:=by decide
  have p2:((0:Int) < 2147483587)=True:=by decide
  have p3:((0:Int) < 1999999973)=True:=by decide
  have p4:((0:Int) < m)=True:=eq_true hm0
  by_cases hn:ns=[]
  ·subst hn
   (simp! [hst,ha,u06 hne,u30,cd,cm,cm2,c7,c79,cp,p1,p2,p3,p4];repeat (simp only [Go];simp! [hst,ha,u06 hne,u30,cd,cm,cm2,c7,c79,cp,p1,p2,p3,p4]))
   refine u72 (fun h0=>?_) (fun h0=>?_)
   ·simp only [Int.lt_irrefl,Int.natCast_zero,decide_false,Bool.false_eq_true,if_false]
    refine u72 (fun h1=>?_) (fun h1=>?_)
    ·exact tail _ _ _ (by omega) hr0
    ·exact absurd hk h1
   ·exact tail _ _ _ hk (Int.ediv_nonneg hr0 (by omega))
  ·have hpos:0 < ns.length:=List.length_pos_iff.mpr hn
   have hl:((ns.map D.int).length:Int)=(ns.length:Int):=by simp
   obtain ⟨c,hc⟩:∃ c,atI (ns.map D.int) (k % (ns.length:Int))=some (.int c):=⟨_,w52 (Int.emod_nonneg _ (by omega)) (Int.emod_lt_of_pos _ (by omega))⟩;have p5:((0:Int) < (ns.length:Int))=True:=eq_true (by omega)
   (simp! [hst,ha,u06 hne,u30,cd,cm,cm2,c7,c79,cp,p1,p2,p3,p4,hl,hc,p5];repeat (simp only [Go];simp! [hst,ha,u06 hne,u30,cd,cm,cm2,c7,c79,cp,p1,p2,p3,p4,hl,hc,p5]))
   refine u72 (fun h0=>?_) (fun h0=>?_)
   ·refine u72 (fun h1=>?_) (fun h1=>?_)
    ·exact tail _ _ _ (by omega) hr0
    ·refine u72 (fun h2=>?_) (fun h2=>?_)
     ·exact tail _ _ _ (by omega) hr0
     ·refine tail _ _ _ (by omega) (Int.ediv_nonneg ?_ (by omega))
      split <;> omega
   ·exact tail _ _ _ hk (Int.ediv_nonneg hr0 (by omega))
theorem wh5 {n:Nat} (G_jbe:Ok P w mg base n T.f_jbe (uc7 T)):Ok P w mg base (n+1) T.f_jbh (wr2 T):=by
 refine u12 T.f_jbh sc_jbh (fun ds G R h=>?_) (fun cdv A outer s H E hr =>
   @(u01 @(u21 2 sc_jbh.nd u09)
   @(u01 @(u21 3 sc_jbh.nd @(u46 @(vq2 u03)))
   @(u01 @(ub5 (u88 rfl T.b_range @(u00 (ev 1) u03)) (u20 4 sc_jbh.nd) @(u01 @(u21 5 sc_jbh.nd @(wn9 u09 @(u00 @(u67 (N':=["_law_j", "_law_letters", "_law_state"]) (ix:=[none,some 2,some 0]) (blk (osc:=u04 v32) (N:=["_law_state", "_law_many", "_law_letters", "_law_names_here", "_law_k", "_law_name", "_law_begin", "_law_j", "_law_words", "_law_first"]) rfl rfl (by decide)) (u88 rfl T.b_range @(u00 @(u14 u49 u05 (ec T.f_jbe T.g_law_draw G_jbe hr @(u00 (ev 0) @(u00 u05 u03)))) u03)) (fun _ _ _ _=>(u20 0 (show (["_law_j", "_law_letters", "_law_state"]:List Str).Nodup by decide))) (fun _ _ _ _=>u45) (fun _ _ _ _=>@(e_ix x_ix (ev 1) (ec T.f_jbe T.g_law_draw G_jbe hr @(u00 (ev 2) @(u00 u05 u03)))))) u03)))
   @(u01 @(u21 6 sc_jbh.nd @(e_sl wt2 (ev 5) v54 (v53 u05)))
   @(u01 @(ub5 (u88 rfl T.b_range @(u00 u05 u03)) (u20 7 sc_jbh.nd) @(u07 @(s_if (u25 (x_in hr) (ev 5) (ev 3) (by with_unfolding_all rfl)) @(u07 @(u21 5 sc_jbh.nd @(u14 u49 @(u14 u49 (ev 6) u09) @(e_ix x_ix (ev 2) (ev 7))))) u23)))
   @(u07 @(u38 (ud7 (ev 3) @(u00 (ev 5) u03))))))))
   @(u01 @(s_if (u25 (x_eq hr) (ec T.f_jbe T.g_law_draw G_jbe hr @(u00 (ev 0) @(u00 u05 u03))) u05 (nomark _)) (by (with_unfolding_all change Ss3' _ _ _);exact (uu5 (wa3 8 sc_jbh.nd (vb3 (vb3 wp4))) (uu5 (S3'.of @(u21 9 sc_jbh.nd (ec T.f_jbe T.g_law_draw G_jbe hr @(u00 (ev 0) @(u00 u05 u03))))) (vs6 (S3'.of @(u15 @(u48 ue0 rfl T.b_tuple (by decide) @(u00 @(u67 (N':=["_law_k", "_law_words", "_law_first"]) (ix:=[none,some 8,some 9]) (blk (osc:=u04 v32) (N:=["_law_state", "_law_many", "_law_letters", "_law_names_here", "_law_k", "_law_name", "_law_begin", "_law_j", "_law_words", "_law_first"]) rfl rfl (by decide)) (u88 rfl T.b_range @(u00 (ev 1) u03)) (fun _ _ _ _=>(u20 0 (show (["_law_k", "_law_words", "_law_first"]:List Str).Nodup by decide))) (fun _ _ _ _=>u45) (fun _ _ _ _=>@(e_ix x_ix (ev 1) @(u14 ub2 @(u14 u49 (ev 2) @(u14 uc4 u05 (ev 0))) u05)))) u03)))))))) u23)
   @(u07 @(u15 @(u48 ue0 rfl T.b_tuple (by decide) @(u00 @(e_sl x_sl (ev 3) (v53 u05) v54) u03))))))))) (fun ds G R h=>?_)
 ·obtain ⟨st,m,rfl,_⟩:=h;rfl
 ·obtain ⟨st,m,rfl,S,hm1,hm2,post⟩:=h
  have hab:(Str.ofString "abcdefghijklmnopqrstuvwxyz").length<=sizeLine:=by decide
  simp! [id];dsimp! [id];refine ⟨by decide,fun nh hnh=>?_⟩;have nn:nh ≠ st:=S.ne hnh;obtain ⟨six,hsix⟩:∃ six:List Str,six=[Str.ofString "wide",Str.ofString "boxes",Str.ofString "choose",Str.ofString "else",Str.ofString "end",Str.ofString "times"]:=⟨_,rfl⟩;have s1:six.length=6:=by rw [hsix];rfl
  have s2:six.Nodup:=by rw [hsix];decide
  rw [show [D.str "wide",D.str "boxes",D.str "choose",D.str "else",D.str "end",D.str "times"]=six.map D.str by rw [hsix];rfl];clear hsix;have A0:Adv st G (gup G nh (.lst (six.map D.str))):=(Adv.refl S).new hnh;dsimp! [id];refine ⟨⟨by omega,by omega⟩,?_⟩;generalize hN:Go (dSeq _ _ _)=N;refine u47 (fun r σ G'=>∃ (i c:Nat) (ns:List Str) (v4 v5 v6 v7:Option D),i+c=m /\ r=rngD (i:Int) c /\ Adv st G G' /\ G' nh=some (.lst ((six++ns).map D.str)) /\ ns.length=i /\ (six++ns).Nodup /\ (∀ w ∈ ns,w.length<=20) /\ σ=[some (.ref st),some (.int (m:Int)),some (.str (Str.ofString "abcdefghijklmnopqrstuvwxyz")),some (.ref nh),v4,v5,v6,v7,none,none]) ⟨0,m,[],none,none,none,none,by omega,rfl,A0,by rw [List.append_nil];exact u02,rfl,by rw [List.append_nil];exact s2,fun w hw=>(by cases hw),rfl⟩ ?_ ?_
  ·rintro σ G1 ⟨i,c,ns,v4,v5,v6,v7,e,e2,A1,k1,hl,hnd,hw,rfl⟩
   have hc:c=0:=by
    cases c with
    | zero=>rfl
    | succ c=>rw [u28] at e2;cases e2
   subst hc;refine ⟨trivial,?_⟩;rw [<- hN];dsimp! [id];refine u16 A1.at_ (by decide) (by decide) fun x1 G2 a2 b1 b2=>?_
   have A2:=A1.trans a2;have k2:=a2.kp _ _ nn k1;simp! [id];refine u72 (fun q=>?_) (fun q=>?_)
   ·simp! [id]
    refine ⟨by decide,fun pw hpw=>?_⟩;rw [show [D.str "box",D.str "num",D.str "is",D.str "op",D.str "go",D.str "add",D.str "take",D.str "turn",D.str "swap",D.str "come",D.str "lay",D.str "show"]=words12.map D.str from rfl];have A3:=A2.new (o:=.lst (words12.map D.str)) hpw;have nw:=A2.at_.ne hpw
    dsimp! [id];refine u16 A3.at_ (by decide) (by decide) fun x2 G4 a4 c1 c2=>?_
    obtain ⟨x2,rfl⟩:=u79 c1;have A4:=A3.trans a4;have k4:=a4.kp _ _ nw u02;simp! [id];dsimp! [id];refine ⟨⟨by omega,by omega⟩,fun p hp=>?_⟩;have np:=A4.at_.ne hp
    have nwp:pw ≠ p:=gne k4 hp;refine u34 (fun r σ G'=>∃ (j c:Nat) (v:Option D),j+c=m /\ r=rngD (j:Int) c /\ G'=gup G4 p (.lst (((List.range j).map fun k=>words12.getD ((x2+5 * k) % 12) (Str.ofString "")).map .str)) /\ σ=[v,some (.ref pw),some (.int (x2:Int))]) ⟨0,m,none,by omega,rfl,rfl,rfl⟩ ?_ ?_
    ·rintro σ G5 ⟨j,c,v,e5,e6,rfl,rfl⟩
     have hc:c=0:=by
      cases c with
      | zero=>rfl
      | succ c=>rw [u28] at e6;cases e6
     refine ⟨trivial,?_⟩;have hx:x2 < 12:=by omega
     have hj:j=m:=by omega
     subst hj;have hok:=List.all_eq_true.mp (List.all_eq_true.mp vc6 x2 (List.mem_range.mpr hx)) j (List.mem_range.mpr (by omega));rw [Bool.and_eq_true] at hok;unfold ua4;simp only [u02,u19];exact post _ _ (by rw [List.length_map,List.length_range]) (fun b hb=>of_decide_eq_true (List.all_eq_true.mp hok.2 b hb)) (of_decide_eq_true hok.1) (A4.new hp)
    ·rintro z r σ G5 ⟨j,c,v,e5,e6,rfl,rfl⟩ ih
     cases c with
     | zero=>cases e6
     | succ c =>
      rw [u28] at e6;cases e6;refine ⟨trivial,?_⟩;have kw:gup G4 p (.lst (((List.range j).map fun k=>words12.getD ((x2+5 * k) % 12) (Str.ofString "")).map .str)) pw=some (.lst (words12.map D.str)):=by rw [u06 nwp];exact k4
      have hi:((x2:Int)+5 * (j:Int)) % 12=(((x2+5 * j) % 12:Nat):Int):=by omega
      have hq:(x2+5 * j) % 12 < 12:=Nat.mod_lt _ (by decide);have hat:atI (words12.map D.str) (((x2+5 * j) % 12:Nat):Int)=some (.str (words12.getD ((x2+5 * j) % 12) (Str.ofString ""))):=by
       generalize (x2+5 * j) % 12=t at hq;refine u71 ?_;rw [List.getElem?_map,List.getD_eq_getElem?_getD,List.getElem?_eq_getElem (by exact hq)];rfl
      simp! [kw,hi,hat];refine ⟨uf8 (by decide) (by decide),by decide,?_,?_⟩
      ·rw [List.length_map,List.length_map,List.length_range]
       exact Nat.lt_of_le_of_lt (m:=1000) (by omega) (by decide)
      ·rw [u30]
       refine ih _ _ ⟨j+1,c,_,by omega,by congr 1,?_,rfl⟩;rw [List.range_succ,List.map_append,List.map_append];rfl
   ·dsimp! [k2]
    intro p hp;rw [show ((6:Int))=((6:Nat):Int) from rfl,v99,<- List.map_drop,show (six++ns).drop 6=ns by rw [List.drop_append_of_le_length (by omega),List.drop_eq_nil_of_le (by omega),List.nil_append]];exact post ns _ (by omega) hw (List.nodup_append.mp hnd).2.1 (A2.new hp)
  ·rintro z r σ G1 ⟨i,c,ns,v4,v5,v6,v7,e,e2,A1,k1,hl,hnd,hw,rfl⟩ ih
   cases c with
   | zero=>cases e2
   | succ c =>
    rw [u28] at e2;cases e2;refine ⟨trivial,?_⟩;simp! [id];refine u16 A1.at_ (by decide) (by decide) fun x1 G2 a2 b1 b2=>?_
    have A2:=A1.trans a2;have k2:=a2.kp _ _ nn k1;obtain ⟨sz,hsz,hz1,hz2⟩:∃ sz:Nat,1+x1=(sz:Int) /\ 1<=sz /\ sz<=8:=⟨(1+x1).toNat,by omega,by omega,by omega⟩;simp! [hsz];refine ⟨⟨by omega,by omega⟩,fun p hp=>?_⟩;have np:=A2.at_.ne hp
    have fp:G p=none:=A2.none hp np;have npn:nh ≠ p:=gne k2 hp;have happ:∀ a b:Str,(a++b).length=a.length+b.length:=fun a b=>by
     show (a.cps++b.cps).size=_
     rw [Array.size_append];rfl
    generalize hN2:Go (dSeq (dAsg (dSl xSlS _ _ _) _) _ _)=N2;refine u34 (fun r σ G'=>∃ (j c':Nat) (ws:List Str) (v:Option D),j+c'=sz /\ r=rngD (j:Int) c' /\ Adv st G G' /\ G' nh=some (.lst ((six++ns).map D.str)) /\ G' p=some (.lst (ws.map .str)) /\ ws.length=j /\ (∀ w ∈ ws,w.length=1) /\ σ=[v,some (.str (Str.ofString "abcdefghijklmnopqrstuvwxyz")),some (.ref st)]) ⟨0,sz,[],none,by omega,rfl,A2.new hp,by rw [u06 npn];exact k2,u02,rfl,by simp,rfl⟩ ?_ ?_
    ·rintro σ G3 ⟨j,c',ws,v,e5,e6,A3,k3,kp3,hlw,hw1,rfl⟩
     have hc:c'=0:=by
      cases c' with
      | zero=>rfl
      | succ c=>rw [u28] at e6;cases e6
     have hjl:(jn Str.empty ws).length=sz:=by rw [wm3,wm2 hw1];omega
     have hfold:Builtin.Str.tooLong ((ws.toArray).foldl (·+·.length+Str.empty.length) 0)=false:=by
      have:∀ (l:List Str) (n:Nat),(∀ w ∈ l,w.length=1)->l.foldl (·+·.length+Str.empty.length) n=n+l.length:=by
       intro l
       induction l with
       | nil=>intro n _;rfl
       | cons w l ih=>intro n h;rw [List.foldl_cons,ih _ fun v hv=>h v (List.mem_cons_of_mem _ hv),h w (List.mem_cons_self ..),List.length_cons];show n+1+0+l.length=_;omega
      rw [List.foldl_toArray,this ws 0 hw1];unfold Builtin.Str.tooLong;exact decide_eq_false (Nat.not_lt.mpr (Nat.le_of_lt (Nat.lt_of_le_of_lt (m:=1000) (by omega) (by decide))))
     refine ⟨trivial,Str.empty,p,ws,rfl,rfl,by rw [kp3];rfl,hfold,by rw [hjl];exact Nat.le_of_lt (Nat.lt_of_le_of_lt (m:=1000) (by omega) (by decide)),?_⟩;obtain ⟨nm,hnm⟩:∃ nm,nm=jn Str.empty ws:=⟨_,rfl⟩;rw [<- hnm] at hjl ⊢;rw [<- hN2];dsimp! [id];refine ⟨nm,rfl,Nat.le_of_lt (Nat.lt_of_le_of_lt (m:=1000) (by omega) (by decide)),fun bg hbg=>?_⟩;dsimp! [id];refine ⟨⟨by decide,by decide⟩,?_⟩;generalize hN3:Go (v98 (dBM "list" ue7 _ _) _)=N3;refine u47 (fun r σ G'=>∃ (t c'':Nat) (nm:Str) (v7:Option D),t+c''=26 /\ r=rngD (t:Int) c'' /\ G'=G3 /\ nm.length<=20 /\ (nm ∉ six++ns \/ ∀ i,i < t->cand bg i ∈ six++ns) /\ σ=[some (.ref st),some (.int (m:Int)),some (.str (Str.ofString "abcdefghijklmnopqrstuvwxyz")),some (.ref nh),some (.int (i:Int)),some (.str nm),some (.str bg),v7,none,none]) ⟨0,26,nm,_,by omega,rfl,rfl,by omega,.inr fun i hi=>absurd hi (Nat.not_lt_zero _),rfl⟩ ?_ ?_
     ·rintro σ G4 ⟨t,c'',nm,v7',e7,e8,rfl,hn7,hfr,rfl⟩
      have hc:c''=0:=by
       cases c'' with
       | zero=>rfl
       | succ c=>rw [u28] at e8;cases e8
      refine ⟨trivial,?_⟩;have ht:t=26:=by omega
      subst ht;have hfree:=va3 (by rw [List.length_append];omega) hfr;rw [<- hN3];dsimp! [k3];refine ⟨by rw [List.length_map,List.length_append];exact Nat.lt_of_le_of_lt (m:=1000) (by omega) (by decide),ih _ _ ⟨i+1,c,ns++[nm],_,_,_,_,by omega,by congr 1,A3.own hnh k3 nn,by rw [u02,<- List.append_assoc,List.map_append (l₁:=six++ns)];rfl,by simp [hl],?_,?_,rfl⟩⟩
      ·rw [<- List.append_assoc]
       refine List.nodup_append.mpr ⟨hnd,List.nodup_cons.mpr ⟨by simp,List.nodup_nil⟩,fun a ha b hb e=>hfree ?_⟩;rw [<- List.mem_singleton.mp hb,<- e];exact ha
      ·intro w hw'
       rcases List.mem_append.mp hw' with h | h
       ·exact hw w h
       ·rw [List.mem_singleton.mp h];exact hn7
     ·rintro z r σ G4 ⟨t,c'',nm,v7',e7,e8,rfl,hn7,hfr,rfl⟩ ih2
      cases c'' with
      | zero=>cases e8
      | succ c'' =>
       rw [u28] at e8;cases e8;refine ⟨trivial,?_⟩;dsimp! [id];unfold xInB;simp only [k3,u19,hso22];refine u72 (fun q=>?_) (fun q=>?_)
       ·have hin:nm ∈ six++ns:=by simpa using q
        have hch:=abc_at (x:=(t:Int)) (by omega) (by omega);rw [Int.toNat_natCast] at hch;unfold xAdd xIx;simp only [hch];have hz:(Str.ofString "z").length=1:=rfl;refine ⟨Nat.le_of_lt (Nat.lt_of_le_of_lt (m:=1000) (by omega) (by decide)),hab,?_,?_⟩
        ·rw [happ,hz]
         exact Nat.le_of_lt (Nat.lt_of_le_of_lt (m:=1000) (by show bg.length+1+1<=1000;omega) (by decide))
        ·refine ih2 _ _ ⟨t+1,c'',cand bg t,_,by omega,by congr 1,rfl,?_,?_,rfl⟩
         ·unfold cand
          rw [happ,happ,hz]
          show bg.length+1+1<=20
          omega
         ·by_cases hct:cand bg t ∈ six++ns
          ·refine .inr fun i hi=>?_
           rcases Nat.lt_or_ge i t with h | h
           ·rcases hfr with h' | h'
            ·exact absurd hin h'
            ·exact h' i h
           ·rw [show i=t by omega];exact hct
          ·exact .inl hct
       ·have hin:nm ∉ six++ns:=by simpa using q
        exact ih2 _ _ ⟨t+1,c'',nm,_,by omega,by congr 1,rfl,hn7,.inl hin,rfl⟩
    ·rintro z r σ G3 ⟨j,c',ws,v,e5,e6,A3,k3,kp3,hlw,hw1,rfl⟩ ih2
     cases c' with
     | zero=>cases e6
     | succ c' =>
      rw [u28] at e6;cases e6;refine ⟨trivial,?_⟩;simp! [id];refine u16 A3.at_ (by decide) (by decide) fun x3 G4 a4 c1 c2=>?_
      have hch:=abc_at c1 c2;have A4:=A3.trans a4;have k4:=a4.kp _ _ nn k3;have kp4:=a4.kp _ _ np kp3;refine ⟨hab,?_⟩;rw [hch];simp! [kp4];refine ⟨by rw [List.length_map];exact Nat.lt_of_le_of_lt (m:=1000) (by omega) (by decide),ih2 _ _ ⟨j+1,c',ws++[⟨#[97+x3.toNat]⟩],_,by omega,by congr 1,A4.own fp kp4 np,by rw [u06 npn];exact k4,by rw [u02,List.map_append];rfl,by simp [hlw],?_,rfl⟩⟩;intro w hw'
      rcases List.mem_append.mp hw' with h | h
      ·exact hw1 w h
      ·rw [List.mem_singleton.mp h];rfl
theorem wh4 {n:Nat} (G_jbe:Ok P w mg base n T.f_jbe (uc7 T)):Ok P w mg base (n+1) T.f_jbi (vk6 T):=by
 refine u12 T.f_jbi sc_jbi (fun ds G R h=>?_) (fun cdv A outer s H E hr =>
   (u01 (u21 2 sc_jbi.nd (ec T.f_jbe T.g_law_draw G_jbe hr (u00 (ev 0) (u00 u05 u03))))
   (u01 (s_if (u25 (x_eq hr) (ev 2) u05 (nomark _)) (u07 (u15 (e_ix x_ix (u46 (u00 u05 (u00 (u14 ue1 (u14 uq4 u05 (ev 1)) u05) u03))) (ec T.f_jbe T.g_law_draw G_jbe hr (u00 (ev 0) (u00 u05 u03)))))) u23)
   (u01 (s_if (u25 (x_eq hr) (ev 2) u05 (nomark _)) (u07 (u15 (u14 ub2 (ec T.f_jbe T.g_law_draw G_jbe hr (u00 (ev 0) (u00 u05 u03))) (u14 uq4 u05 (ev 1))))) u23)
   (u07 (u15 (ec T.f_jbe T.g_law_draw G_jbe hr (u00 (ev 0) (u00 (u14 uq4 u05 (ev 1)) u03))))))))) (fun ds G R h=>?_)
 ·obtain ⟨st,W,rfl,_⟩:=h;rfl
 ·obtain ⟨st,W,rfl,S,hW,post⟩:=h
  have hP:=pw W;have hC:CPow 1 (W:Int):=⟨by omega,by omega,by decide⟩;have hp:=p16 hW;have h0:=Nat.two_pow_pos W;obtain ⟨P,hPe⟩:∃ P,P=2 ^ W:=⟨_,rfl⟩;rw [<- hPe] at hP hp h0 post;simp! [id];refine u16 S (by decide) (by decide) fun x1 G1 a1 b1 b2=>?_
  simp! [id];dsimp! [hP];refine u72 (fun q0=>?_) (fun q0=>?_)
  ·refine ⟨hC,by decide,fun p hp1=>?_⟩
   have A2:=a1.new (o:=.lst [D.int 0,D.int ((P:Int) - 1)]) hp1;have n2:=a1.at_.ne hp1
   refine u16 A2.at_ (by decide) (by decide) fun x2 G3 a3 c1 c2=>?_
   have k3:=a3.kp _ _ n2 u02;obtain ⟨v,ev,hv⟩:∃ v:Nat,atI [D.int 0,D.int ((P:Int) - 1)] x2=some (.int (v:Int)) /\ v < P:=by
    have:x2=0 \/ x2=1:=by omega
    rcases this with e | e <;> subst e
    ·exact ⟨0,rfl,h0⟩
    ·exact ⟨P - 1,by show some (D.int ((P:Int) - 1))=_;rw [show ((P - 1:Nat):Int)=(P:Int) - 1 by omega],by omega⟩
   simp! [k3,ev];exact post v _ hv (A2.trans a3)
  ·dsimp! [hP]
   refine u72 (fun q1=>?_) (fun q1=>?_)
   ·refine u16 a1.at_ (by decide) (by decide) fun x2 G3 a3 c1 c2=>?_
    simp! [id];refine ⟨hC,by omega,?_⟩;obtain ⟨x2,rfl⟩:=u79 c1;rw [<- Int.natCast_emod];exact post _ _ (Nat.mod_lt _ h0) (a1.trans a3)
   ·dsimp! [hP]
    refine ⟨hC,?_⟩;refine u16 a1.at_ (by omega) (by omega) fun x2 G3 a3 c1 c2=>?_
    obtain ⟨x2,rfl⟩:=u79 c1;exact post _ _ (by omega) (a1.trans a3)
theorem wi2 {n:Nat} (G_jbe:Ok P w mg base n T.f_jbe (uc7 T)) (G_jbi:Ok P w mg base n T.f_jbi (vk6 T)):Ok P w mg base (n+1) T.f_jaz (vk7 T):=by
 refine u12 T.f_jaz vn0 (fun ds G R h=>?_) (fun cdv A outer s H E hr =>
   (u01 (s_if (u25 (x_eq hr) (ec T.f_jbe T.g_law_draw G_jbe hr (u00 (ev 0) (u00 u05 u03))) u05 (nomark _)) (u07 (u15 (ec T.f_jbi T.g_law_number G_jbi hr (u00 (ev 0) (u00 (ev 2) u03))))) u23)
   (u07 (u15 (e_ix x_ix (ev 1) (ec T.f_jbe T.g_law_draw G_jbe hr (u00 (ev 0) (u00 (u37 ua3 rfl T.b_len (by decide) (u00 (ev 1) u03)) u03)))))))) (fun ds G R h=>?_)
 ·obtain ⟨st,W,bs,rfl,_⟩:=h;rfl
 ·obtain ⟨st,W,bs,rfl,S,hW,h1,h2,post⟩:=h
  simp! [id];refine u16 S (by decide) (by decide) fun x1 G1 a1 b1 b2=>?_
  simp! [List.length_map];refine u72 (fun h0=>?_) (fun h0=>?_)
  ·exact wo6 T a1.at_ hW fun i G2 hi a2=>post (.num i) G2 hi (a1.trans a2)
  ·dsimp! [List.length_map]
   refine u16 a1.at_ (by omega) (by omega) fun x2 G3 a3 c1 c2=>?_
   obtain ⟨x2,rfl⟩:=u79 c1;obtain ⟨b,hb⟩:∃ b,bs[x2]?=some b:=⟨_,List.getElem?_eq_getElem (by omega)⟩;have eb:atI (bs.map D.str) (x2:Int)=some (.str b):=u71 (by rw [List.getElem?_map,hb];rfl);simp! [eb];exact post (.box b) _ (List.mem_of_getElem? hb) (a1.trans a3)
theorem wg6 {n dp:Nat} (G_jbs:Ok P w mg base n T.f_jbs (vb5 T dp)):Ok P w mg base (n+1) T.f_jbs (vb5 T (dp+1)):=by
 refine u12 T.f_jbs sc_jbs (fun ds G R h=>?_) (fun cdv A outer s H E hr =>
   (u01 (u21 1 sc_jbs.nd u05)
   (u01 (ub5 (u94 (ev 0)) (u20 2 sc_jbs.nd) (u01 (u21 1 sc_jbs.nd (u14 u49 (ev 1) u05))
   (u07 (s_if (u25 (x_eq hr) (e_ix x_ix (ev 2) u05) u09 (nomark _)) (u07 (u21 1 sc_jbs.nd (u14 u49 (u14 u49 (ev 1) (ec T.f_jbs T.g_law_weight G_jbs hr (u00 (e_ix x_ix (ev 2) u05) u03))) (ec T.f_jbs T.g_law_weight G_jbs hr (u00 (e_ix x_ix (ev 2) u05) u03))))) u23))))
   (u07 (u15 (ev 1)))))) (fun ds G R h=>?_)
 ·obtain ⟨d,rs,rfl,_⟩:=h;rfl
 ·obtain ⟨d,rs,rfl,h0,hnt,hdp,hsz,post⟩:=h
  simp! [id];simp only [Go,dSeq];refine v80 h0 rfl fun ok hok0=>?_
  generalize hN:Go (dRet _ _)=N;refine u47 (fun r σ G'=>∃ (l t:List Rowp) (v2:Option D),l++t=rs /\ r=u32 t /\ G'=G /\ σ=[some d,some (.int (szL l:Int)),v2]) ⟨[],rs,none,rfl,rfl,rfl,rfl⟩ ?_ ?_
  ·rintro σ G1 ⟨l,t,v2,e,e2,rfl,rfl⟩
   have ht:t=[]:=by
    cases t with
    | nil=>rfl
    | cons x t=>cases e2
   subst ht;rw [List.append_nil] at e;subst e;refine ⟨hok0 _ h0,?_⟩;rw [<- hN];dsimp! [id];exact post
  ·rintro z r σ G1 ⟨l,t,v2,e,e2,rfl,rfl⟩ ih
   cases t with
   | nil=>cases e2
   | cons r0 t =>
    cases e2;refine ⟨hok0 _ h0,?_⟩;have hm:r0 ∈ rs:=by rw [<- e];simp
    have hnr:=uv6 hnt hm;have hdr:=uk0 (Nat.le_of_lt_succ hdp) r0 hm;have hsl:szL rs=szL l+(szR r0+szL t):=by rw [<- e,ue3];rfl
    have nxt:∀ {k:Int},k=((szL l+szR r0:Nat):Int)->∃ (l' t':List Rowp) (v2:Option D),l'++t'=rs /\ u32 t=u32 t' /\ G1=G1 /\ [some d,some (.int k),some (rowD r0)]=[some d,some (.int (szL l':Int)),v2]:=fun {k} ek=>⟨l++[r0],t,some (rowD r0),by rw [<- e];simp,rfl,rfl,by rw [ek,ue3];rfl⟩
    cases r0 with
    | is x a =>
     have d1:(Str.ofString "is" = Str.ofString "choose")=False:=eq_false (by decide);simp! [rowD];dsimp! [d1];exact ih _ _ (nxt (by show _=((szL l+1:Nat):Int);omega))
    | op x o a c =>
     have d1:(Str.ofString "op" = Str.ofString "choose")=False:=eq_false (by decide);simp! [rowD];dsimp! [d1];exact ih _ _ (nxt (by show _=((szL l+1:Nat):Int);omega))
    | cho a ys ns =>
     obtain ⟨hny,hnn⟩:ntL ys /\ ntL ns:=hnr;have hd':1+max (depL ys) (depL ns)<=dp:=hdr;have hs1:szR (.cho a ys ns)=1+szL ys+szL ns:=rfl;simp! [rowD];dsimp! [id];refine u35 (v:=.int (szL ys:Int)) (G1:=G1) (fun R h=>⟨.tup (u32 ys),ys,rfl,rfl,hny,by omega,by omega,h⟩) ?_;simp! [id];refine u35 (v:=.int (szL ns:Int)) (G1:=G1) (fun R h=>⟨.tup (u32 ns),ns,rfl,rfl,hnn,by omega,by omega,h⟩) ?_;simp! [id];exact ih _ _ (nxt (by rw [hs1];omega))
    | tim k ys=>exact hnr.elim
theorem wh1 {n dp:Nat} (G_jbe:Ok P w mg base n T.f_jbe (uc7 T)) (G_jbk:Ok P w mg base n T.f_jbk (wr0 T dp)) (G_jbs:Ok P w mg base n T.f_jbs (wq5 T)):Ok P w mg base (n+1) T.f_jbm (v04 T (dp+1)):=by
 refine u12 T.f_jbm sc_jbm (fun ds G R h=>?_) (fun cdv A outer s H E hr =>
   (u01 (u21 5 sc_jbm.nd (u46 u03))
   (u01 (ub5 (u88 rfl T.b_range (u00 (ec T.f_jbe T.g_law_draw G_jbe hr (u00 (ev 0) (u00 (u14 u49 u05 (u37 w74 rfl T.b_min (by decide) (u00 (ev 4) (u00 u05 u03)))) u03))) u03)) (u20 6 sc_jbm.nd) (u01 (u21 7 sc_jbm.nd (u14 ue1 (ev 4) (ec T.f_jbs T.g_law_weight G_jbs hr (u00 (ev 5) u03))))
   (u07 (s_if (u25 (x_gt) (ev 7) u05 (nomark _)) (u07 (u38 (ud7 (ev 5) (u00 (ec T.f_jbk T.g_law_piece G_jbk hr (u00 (ev 0) (u00 (ev 1) (u00 (ev 2) (u00 (ev 3) (u00 (ev 7) u03)))))) u03)))) u23))))
   (u07 (u15 (u48 ue0 rfl T.b_tuple (by decide) (u00 (ev 5) u03))))))) (fun ds G R h=>?_)
 ·obtain ⟨st,W,deep,room,bs,rfl,_⟩:=h;rfl
 ·obtain ⟨st,W,deep,room,bs,rfl,S,hW,h1,h2,hd,hd5,hroom,post⟩:=h
  simp! [id];refine ⟨by decide,fun q hq=>?_⟩;have nq:=S.ne hq;dsimp! [id];have A1:=(Adv.refl S).new (o:=.lst []) hq;refine u16 A1.at_ (by split <;> omega) (by split <;> omega) fun x1 G1 a1 b1 b2=>?_
  have b3:x1<=4:=by
   revert b2
   split <;> intro b2 <;> omega
  obtain ⟨cnt,rfl⟩:=u79 b1;have k1:=a1.kp _ _ nq u02;have A2:=A1.trans a1;simp! [id];refine ⟨⟨by omega,by omega⟩,?_⟩;generalize hN:Go (dRet _ _)=N;refine u47 (fun r σ G'=>∃ (i c:Nat) (rs:List Rowp) (v6 v7:Option D),i+c=cnt /\ r=rngD (i:Int) c /\ Adv st G G' /\ G' q=some (.lst (u32 rs)) /\ okL W bs rs /\ ntL rs /\ szL rs<=room /\ depL rs<=deep /\ (u32 rs).length<=i /\ σ=[some (.ref st),some (.tup (bs.map .str)),some (.int (W:Int)),some (.int (deep:Int)),some (.int (room:Int)),some (.ref q),v6,v7]) ⟨0,cnt,[],none,none,by omega,rfl,A2,k1,trivial,trivial,Nat.zero_le _,Nat.zero_le _,Nat.le_refl _,rfl⟩ ?_ ?_
  ·rintro σ G2 ⟨i,c,rs,v6,v7,e,e2,A3,k3,o1,o2,o3,o4,o5,rfl⟩
   refine ⟨trivial,?_⟩;rw [<- hN];dsimp! [k3];exact post rs G2 o1 o2 o3 o4 A3
  ·rintro z r σ G2 ⟨i,c,rs,v6,v7,e,e2,A3,k3,o1,o2,o3,o4,o5,rfl⟩ ih
   cases c with
   | zero=>cases e2
   | succ c =>
    rw [u28] at e2;cases e2;refine ⟨trivial,?_⟩;simp! [id];refine u35 (v:=.int (szL rs:Int)) (G1:=G2) (fun R h=>⟨.ref q,rs,rfl,by show u19 (G2 q)=_;rw [k3];rfl,o2,by omega,by omega,h⟩) ?_;simp! [id];dsimp! [id];refine u72 (fun g=>?_) (fun g=>?_)
    ·rw [show ((room:Int) - (szL rs:Int))=((room - szL rs:Nat):Int) by omega]
     simp! [k3];refine u13 (post:=fun d G'=>∃ r0:Rowp,d=rowD r0 /\ okR W bs r0 /\ ntR r0 /\ szR r0<=room - szL rs /\ depR r0<=deep /\ Adv st G2 G') (fun R h=>⟨st,W,deep,room - szL rs,bs,rfl,A3.at_,hW,h1,h2,by omega,hd5,by omega,by omega,fun r0 G' a b c d e=>h _ _ ⟨r0,rfl,a,b,c,d,e⟩⟩) ?_;rintro d G3 ⟨r0,rfl,p1,p2,p3,p4,a3⟩;have k4:=a3.kp _ _ nq k3;have A4:=A3.trans a3;simp! [k4];have er:u32 rs++[rowD r0]=u32 (rs++[r0]):=by rw [ua6,ua6,List.map_append];rfl
     rw [er];have hl6:(u32 (rs++[r0])).length=(u32 rs).length+1:=by rw [<- er,List.length_append];rfl
     refine ⟨Nat.lt_of_le_of_lt (m:=1000) (by omega) (by decide),ih _ _ ⟨i+1,c,rs++[r0],_,_,by omega,by congr 1,A4.own hq k4 nq,u02,okL_app.mpr ⟨o1,p1,trivial⟩,ntL_app.mpr ⟨o2,p2,trivial⟩,?_,?_,by omega,rfl⟩⟩
     ·rw [ue3];show szL rs+(szR r0+0)<=room;omega
     ·rw [ux0];show max (depL rs) (max (depR r0) 0)<=deep;omega
    ·exact ih _ _ ⟨i+1,c,rs,_,_,by omega,by congr 1,A3,k3,o1,o2,o3,o4,by omega,rfl⟩
theorem wh0 {n:Nat} (G_jbe:Ok P w mg base n T.f_jbe (uc7 T)):Ok P w mg base (n+1) T.f_jbo (wq9 T):=by
 refine u12 T.f_jbo sc_jbo (fun ds G R h=>?_) (fun cdv A outer s H E hr =>
   (u01 (u21 2 sc_jbo.nd (u14 u49 (ev 1) (ec T.f_jbe T.g_law_draw G_jbe hr (u00 (ev 0) (u00 (u14 u49 u05 (e_ix x_ix (u46 (u00 u05 (u00 u05 u03))) (ec T.f_jbe T.g_law_draw G_jbe hr (u00 (ev 0) (u00 u05 u03))))) u03)))))
   (u01 (u21 3 sc_jbo.nd (uz9 hr rfl T.b_range rfl T.b_list (u00 (ev 2) u03)))
   (u07 (u15 (u46 (u00 (u67 (N':=["_law_k", "_law_left", "_law_state"]) (ix:=[none,some 3,some 0]) (blk (osc:=u04 vd7) (N:=["_law_state", "_law_many", "_law_fresh", "_law_left"]) rfl rfl (by decide)) (u88 rfl T.b_range (u00 (ev 1) u03)) (fun _ _ _ _=>(u20 0 (show (["_law_k", "_law_left", "_law_state"]:List Str).Nodup by decide))) (fun _ _ _ _=>u45) (fun _ _ _ _=>(wn7 (ev 1) (u00 (ec T.f_jbe T.g_law_draw G_jbe hr (u00 (ev 2) (u00 (u37 ua3 rfl T.b_len (by decide) (u00 (ev 1) u03)) u03))) u03)))) (u00 (ev 2) u03)))))))) (fun ds G R h=>?_)
 ·obtain ⟨st,m,rfl,_⟩:=h;rfl
 ·obtain ⟨st,m,rfl,S,hm,post⟩:=h
  simp! [id];refine ⟨by decide,fun p hp=>?_⟩;have A1:Adv st G (gup G p (.lst [D.int 4,D.int 40])):=(Adv.refl S).new hp;have np:p ≠ st:=S.ne hp;refine u16 A1.at_ (by decide) (by decide) fun x1 G2 a2 b1 b2=>?_
  have k2:=a2.kp _ _ np u02;obtain ⟨v,ev,hv1,hv2⟩:∃ v:Int,atI [D.int 4,D.int 40] x1=some (.int v) /\ 4<=v /\ v<=40:=by
   have:x1=0 \/ x1=1:=by omega
   rcases this with e | e <;> subst e
   ·exact ⟨4,rfl,by decide,by decide⟩
   ·exact ⟨40,rfl,by decide,by decide⟩
  simp! [k2,ev];have A2:=A1.trans a2;refine u16 A2.at_ (by omega) (by omega) fun x2 G3 a3 c1 c2=>?_
  obtain ⟨x2,rfl⟩:=u79 c1;have A3:=A2.trans a3;obtain ⟨fr,hfr,hf1,hf2⟩:∃ fr:Nat,(m:Int)+(x2:Int)=(fr:Int) /\ m<=fr /\ fr<=100:=⟨m+x2,by omega,by omega,by omega⟩;simp! [hfr];dsimp! [uf6];refine ⟨⟨by omega,by omega⟩,fun pL hpL=>?_⟩;have er:rngD 0 ((fr:Int) - 0).toNat=(List.range fr).map nD:=by
   rw [show ((fr:Int) - 0).toNat=fr by omega];unfold rngD;exact List.map_congr_left fun k _=>by show D.int (0+(k:Int))=D.int (k:Int);rw [Int.zero_add]
  rw [er];have nL:pL ≠ st:=A3.at_.ne hpL
  have A4:=A3.new (o:=.lst ((List.range fr).map nD)) hpL;dsimp! [id];refine ⟨⟨by omega,by omega⟩,fun p3 hp3=>?_⟩;have n3:p3 ≠ st:=A4.at_.ne hp3
  have n3L:pL ≠ p3:=gne u02 hp3;have fpL:G pL=none:=A3.none hpL nL;have fp3:G p3=none:=A4.none hp3 n3;refine u34 (fun r σ G'=>∃ (i c:Nat) (left pl:List Nat) (v0:Option D),i+c=m /\ r=rngD (i:Int) c /\ Adv st G G' /\ G' pL=some (.lst (left.map nD)) /\ G' p3=some (.lst (pl.map nD)) /\ pl.length=i /\ left.length+i=fr /\ (pl++left).Nodup /\ (∀ x ∈ pl++left,x < fr) /\ σ=[v0,some (.ref pL),some (.ref st)]) ⟨0,m,List.range fr,[],none,by omega,rfl,A4.new hp3,by rw [u06 n3L];exact u02,u02,rfl,by rw [List.length_range];rfl,by rw [List.nil_append];exact List.nodup_range,fun x hx=>by rw [List.nil_append] at hx;exact List.mem_range.mp hx,rfl⟩ ?_ ?_
  ·rintro σ G5 ⟨i,c,left,pl,v0,e,e2,A5,kL,k3,hl1,hl2,hnd,hlt,rfl⟩
   have hc:c=0:=by
    cases c with
    | zero=>rfl
    | succ c=>rw [u28] at e2;cases e2
   subst hc;refine ⟨trivial,?_⟩;simp! [id];refine ⟨by decide,fun q hq=>?_⟩;refine post q p3 fr pl _ (A5.new hq) (A5.at_.ne hq) n3 u02 (by rw [u06 (gne k3 hq)];exact k3) (by omega) (List.nodup_append.mp hnd).1 (fun x hx=>hlt x (List.mem_append_left _ hx)) hf2
  ·rintro z r σ G5 ⟨i,c,left,pl,v0,e,e2,A5,kL,k3,hl1,hl2,hnd,hlt,rfl⟩ ih
   cases c with
   | zero=>cases e2
   | succ c =>
    rw [u28] at e2;cases e2;refine ⟨trivial,?_⟩;have lz:(left.length<=sizeLine)=True:=eq_true (Nat.le_trans (m:=1000) (by omega) (by decide));simp! [kL,List.length_map,lz];refine u16 A5.at_ (by omega) (by omega) fun x5 G6 a6 d1 d2=>?_
    obtain ⟨x5,rfl⟩:=u79 d1;have kL6:=a6.kp _ _ nL kL;have k36:=a6.kp _ _ n3 k3;have hx5:x5 < left.length:=by omega
    refine ⟨pL,x5,left.map nD,nD left[x5],rfl,rfl,kL6,by rw [List.getElem?_map,List.getElem?_eq_getElem hx5];rfl,by rw [List.length_map];omega,?_⟩;rw [Rw.map_erase];simp! [u06 (Ne.symm n3L),k36];have A6:=(A5.trans a6).own (ys:=(left.eraseIdx x5).map nD) fpL kL6 nL;have k37:gup G6 pL (.lst ((left.eraseIdx x5).map nD)) p3=some (.lst (pl.map nD)):=by rw [u06 (Ne.symm n3L)];exact k36
    have hper:(pl++[left[x5]]++left.eraseIdx x5).Perm (pl++left):=by
     rw [List.append_assoc];exact List.Perm.append_left _ (ui6 hx5)
    refine ⟨Nat.lt_of_le_of_lt (m:=1000) (by rw [List.length_map];omega) (by decide),ih _ _ ⟨i+1,c,left.eraseIdx x5,pl++[left[x5]],_,by omega,rfl,A6.own fp3 k37 n3,by rw [u06 n3L];exact u02,by rw [u02,List.map_append];rfl,by rw [List.length_append,hl1];rfl,by rw [List.length_eraseIdx_of_lt hx5];omega,hper.nodup_iff.mpr hnd,fun x hx=>hlt x (hper.mem_iff.mp hx),rfl⟩⟩
theorem wi0 {n:Nat} (G_jbe:Ok P w mg base n T.f_jbe (uc7 T)):Ok P w mg base (n+1) T.f_jbb (wr5 T):=by
 refine u12 T.f_jbb vm9 (fun ds G R h=>?_) (fun cdv A outer s H E hr =>
   (u07 (u15 (u14 u49 (u14 uc4 (ec T.f_jbe T.g_law_draw G_jbe hr (u00 (ev 0) (u00 u05 u03))) u05) (ec T.f_jbe T.g_law_draw G_jbe hr (u00 (ev 0) (u00 u05 u03))))))) (fun ds G R h=>?_)
 ·obtain ⟨st,rfl,_⟩:=h;rfl
 ·obtain ⟨st,rfl,S,post⟩:=h
  simp! [id];refine u16 S (by decide) (by decide) fun x1 G1 a1 b1 b2=>?_
  simp! [id];refine ⟨uf8 (by omega) (by omega),?_⟩;refine u16 a1.at_ (by decide) (by decide) fun x2 G2 a2 c1 c2=>?_
  simp! [id];exact post _ _ (a1.trans a2) (by omega) (by omega)
theorem wh9 {n:Nat} (G_jbe:Ok P w mg base n T.f_jbe (uc7 T)) (G_jbb:Ok P w mg base n T.f_jbb (wr5 T)):Ok P w mg base (n+1) T.f_jbc (w60 T):=by
 refine u12 T.f_jbc sc_jbc (fun ds G R h=>?_) (fun cdv A outer s H E hr =>
   (u01 (vo5 4 sc_jbc.nd (N':=["_law_k", "_law_state"]) (ix:=[none,some 0]) (blk (osc:=u04 vd8) (N:=["_law_state", "_law_places_here", "_law_values_here", "_law_fresh", "_law_boxes_here", "_law_spot", "_law_value"]) rfl rfl (by decide)) (u88 rfl T.b_range (u00 (ev 3) u03)) (fun _ _ _ _=>(u20 0 (show (["_law_k", "_law_state"]:List Str).Nodup by decide))) (fun _ _ _ _=>u45) (fun _ _ _ _=>(e_ix x_ix (u46 (u00 u05 (u00 (ec T.f_jbb T.g_law_big G_jbb hr (u00 (ev 1) u03)) u03))) (ec T.f_jbe T.g_law_draw G_jbe hr (u00 (ev 1) (u00 u05 u03))))))
   (u01 (ub5 (ww4 rfl T.b_zip (u00 (ev 1) (u00 (ev 2) u03))) (ur4 (n:=2) rfl (u42 (u20 5 sc_jbc.nd) (u42 (u20 6 sc_jbc.nd) uf1))) (u07 (ub6 (ev 6) (uk5 (ev 4) (ev 5) uj0))))
   (u07 (u15 (ev 4)))))) (fun ds G R h=>?_)
 ·obtain ⟨st,pa,va,fr,pl,vs,rfl,_⟩:=h;rfl
 ·obtain ⟨st,pa,va,fr,pl,vs,rfl,S,npa,nva,hpa,hva,hl,hnd,hlt,hv,hf,hl6,post⟩:=h
  simp! [id];refine ⟨⟨by omega,by omega⟩,fun p hp=>?_⟩;have np:p ≠ st:=S.ne hp;have npp:pa ≠ p:=gne hpa hp;have nvp:va ≠ p:=gne hva hp;have A0:Adv st G (gup G p (.lst [])):=(Adv.refl S).new hp;refine u34 (fun r σ G'=>∃ (i c:Nat) (bx:List Int) (v0:Option D),i+c=fr /\ r=rngD (i:Int) c /\ Adv st G G' /\ bx.length=i /\ (∀ u ∈ bx,0<=u /\ u < 4294967296) /\ G' p=some (.lst (bx.map .int)) /\ σ=[v0,some (.ref st)]) ⟨0,fr,[],none,by omega,rfl,A0,rfl,fun u hu=>(by cases hu),u02,rfl⟩ ?_ ?_
  ·rintro σ G1 ⟨i,c,bx,v0,e,e2,A1,hb1,hb2,k1,rfl⟩
   have hc:c=0:=by
    cases c with
    | zero=>rfl
    | succ c=>rw [u28] at e2;cases e2
   subst hc;obtain rfl:i=fr:=by omega
   refine ⟨trivial,?_⟩;have hpa1:=A1.kp _ _ npa hpa;have hva1:=A1.kp _ _ nva hva;dsimp! [wZip,hpa1,hva1];refine u47 (fun r σ G'=>∃ (l1 t1 l2 t2:List Nat) (b:List Int) (v5 v6:Option D),l1++t1=pl /\ l2++t2=vs /\ l1.length=l2.length /\ r=zpD (t1.map nD) (t2.map nD) /\ Adv st G G' /\ BsOk i b /\ Held l1 l2 b /\ G' p=some (.lst (b.map .int)) /\ G' pa=some (.lst (pl.map nD)) /\ G' va=some (.lst (vs.map nD)) /\ σ=[some (.ref st),some (.ref pa),some (.ref va),some (.int (i:Int)),some (.ref p),v5,v6]) ⟨[],pl,[],vs,bx,none,none,rfl,rfl,rfl,rfl,A1,⟨hb1,hb2⟩,(fun k p v h=>by simp at h),k1,hpa1,hva1,rfl⟩ ?_ ?_
   ·rintro σ G2 ⟨l1,t1,l2,t2,b,v5,v6,e1,e2,hll,e3,A2,hb,hh,k2,hp2,hv2,rfl⟩
    have ht:t1=[]:=by
     have h1:=congrArg List.length e1;have h2:=congrArg List.length e2;rw [List.length_append] at h1 h2;cases t1 with
     | nil=>rfl
     | cons x t1 =>
      cases t2 with
      | nil=>simp at h1 h2;omega
      | cons y t2=>cases e3
    have ht2:t2=[]:=by
     have h1:=congrArg List.length e1;have h2:=congrArg List.length e2;rw [List.length_append] at h1 h2;rw [ht] at h1;have:t2.length=0:=by simp at h1;omega
     exact List.eq_nil_of_length_eq_zero this
    subst ht ht2;rw [List.append_nil] at e1 e2;subst e1 e2;refine ⟨⟨by rw [hp2];rfl,by rw [hv2];rfl⟩,?_⟩;dsimp! [id];exact post p b G2 A2 np k2 hb hh
   ·rintro z r σ G2 ⟨l1,t1,l2,t2,b,v5,v6,e1,e2,hll,e3,A2,hb,hh,k2,hp2,hv2,rfl⟩ ih
    cases t1 with
    | nil=>cases e3
    | cons x t1 =>
     cases t2 with
     | nil=>cases e3
     | cons y t2 =>
      cases e3;refine ⟨⟨by rw [hp2];rfl,by rw [hv2];rfl⟩,?_⟩;have hx:=hlt x (by rw [<- e1];simp);have hy:=hv y (by rw [<- e2];simp);have hxl:x < b.length:=by rw [hb.len];exact hx
      have ex:nD x=.int (x:Int):=rfl;have ey:nD y=.int (y:Int):=rfl;simp! [ex,ey,k2,u87 hxl,setm];have h1:=congrArg List.length e1;rw [List.length_append,List.length_cons] at h1;refine ih _ _ ⟨l1++[x],t1,l2++[y],t2,b.set x (y:Int),_,_,by rw [<- e1];simp,by rw [<- e2];simp,by rw [List.length_append,List.length_append,hll];rfl,rfl,A2.own hp k2 np,⟨by rw [List.length_set];exact hb.len,fun u hu=>?_⟩,fun k p' v' q1 q2=>?_,u02,by rw [u06 npp];exact hp2,by rw [u06 nvp];exact hv2,rfl⟩
      ·rcases List.mem_or_eq_of_mem_set hu with z | z
       ·exact hb.rng u z
       ·rw [z];omega
      ·rw [u73 hxl]
       by_cases hk:k < l1.length
       ·rw [List.getElem?_append_left hk] at q1
        rw [List.getElem?_append_left (by omega)] at q2;have hne:p' ≠ x:=fun z=>by
         rw [<- e1] at hnd;have:=(List.nodup_append.mp hnd).2.2 p' (List.mem_of_getElem? q1) x (by simp);exact this z
        rw [if_neg hne];exact hh k p' v' q1 q2
       ·have hk2:k=l1.length:=by
         have:=(List.getElem?_eq_some_iff.mp q1).1;rw [List.length_append] at this;have:k < l1.length+1:=this;omega
        subst hk2;rw [List.getElem?_append_right (Nat.le_refl _),Nat.sub_self] at q1;rw [List.getElem?_append_right (by omega),hll,Nat.sub_self] at q2;cases q1;cases q2;rw [if_pos rfl]
  ·rintro z r σ G1 ⟨i,c,bx,v0,e,e2,A1,hb1,hb2,k1,rfl⟩ ih
   cases c with
   | zero=>cases e2
   | succ c =>
    rw [u28] at e2;cases e2;refine ⟨trivial,?_⟩;simp! [id];refine u13 (post:=fun d G'=>∃ v:Int,d=.int v /\ Adv st G1 G' /\ 0<=v /\ v < 4294967296) (fun R h=>⟨st,rfl,A1.at_,fun v G' y1 y2 y3=>h _ _ ⟨v,rfl,y1,y2,y3⟩⟩) ?_;rintro d G2 ⟨v,rfl,a2,v1,v2⟩;simp! [id];refine ⟨by decide,fun p3 hp3=>?_⟩;have A2:=A1.trans a2;have A3:=A2.new (o:=.lst [D.int 0,D.int v]) hp3;have n3:=A2.at_.ne hp3
    refine u16 A3.at_ (by decide) (by decide) fun x4 G4 a4 d1 d2=>?_
    have k4:=a4.kp _ _ n3 u02;obtain ⟨u,eu,u1,u2⟩:∃ u:Int,atI [D.int 0,D.int v] x4=some (.int u) /\ 0<=u /\ u < 4294967296:=by
     have:x4=0 \/ x4=1:=by omega
     rcases this with e | e <;> subst e
     ·exact ⟨0,rfl,by decide,by decide⟩
     ·exact ⟨v,rfl,v1,v2⟩
    have A4:=A3.trans a4;have kp4:G4 p=some (.lst (bx.map .int)):=a4.kp _ _ np (by rw [u06 (gne (a2.kp _ _ np k1) hp3)];exact a2.kp _ _ np k1);simp! [k4,eu,kp4];refine ⟨Nat.lt_of_le_of_lt (m:=1000) (by rw [List.length_map];omega) (by decide),ih _ _ ⟨i+1,c,bx++[u],_,by omega,rfl,A4.own hp kp4 np,by rw [List.length_append,hb1];rfl,fun w hw=>?_,by rw [u02,List.map_append];rfl,rfl⟩⟩
    rcases List.mem_append.mp hw with h | h
    ·exact hb2 w h
    ·rw [List.mem_singleton.mp h];exact ⟨u1,u2⟩
theorem wg7 {n:Nat} (G_jbi:Ok P w mg base n T.f_jbi (vk6 T)):Ok P w mg base (n+1) T.f_jbr (wq6 T):=by
 refine u12 T.f_jbr vm8 (fun ds G R h=>?_) (fun cdv A outer s H E hr =>
   (u07 (u15 (u67 (N':=["_law_x", "_law_state", "_law_wide"]) (ix:=[none,some 0,some 2]) (blk (osc:=u04 vd5) (N:=["_law_state", "_law_names_here", "_law_wide"]) rfl rfl (by decide)) (u94 (ev 1)) (fun _ _ _ _=>(u20 0 (show (["_law_x", "_law_state", "_law_wide"]:List Str).Nodup by decide))) (fun _ _ _ _=>u45) (fun _ _ _ _=>(ec T.f_jbi T.g_law_number G_jbi hr (u00 (ev 1) (u00 (ev 2) u03)))))))) (fun ds G R h=>?_)
 ·obtain ⟨st,W,bs,rfl,_⟩:=h;rfl
 ·obtain ⟨st,W,bs,rfl,S,hW,h2,post⟩:=h
  simp! [id];intro p hp;have np:p ≠ st:=S.ne hp;have A0:Adv st G (gup G p (.lst [])):=(Adv.refl S).new hp;refine u34 (fun r σ G'=>∃ (l t:List Str) (us:List Nat) (v0:Option D),l++t=bs /\ r=t.map D.str /\ Adv st G G' /\ us.length=l.length /\ (∀ u ∈ us,u < 2 ^ W) /\ G' p=some (.lst (us.map nD)) /\ σ=[v0,some (.ref st),some (.int (W:Int))]) ⟨[],bs,[],none,rfl,rfl,A0,rfl,fun u hu=>(by cases hu),u02,rfl⟩ ?_ ?_
  ·rintro σ G1 ⟨l,t,us,v0,el,e2,A1,hl,hu,k1,rfl⟩
   have ht:t=[]:=by simpa using e2.symm
   subst ht;rw [List.append_nil] at el;subst el;exact ⟨trivial,post p us G1 A1 np hp k1 ⟨hl,hu⟩⟩
  ·rintro z t σ G1 ⟨l,t,us,v0,el,e2,A1,hl,hu,k1,rfl⟩ ih
   cases t with
   | nil=>cases e2
   | cons x0 t =>
    cases e2;refine ⟨trivial,?_⟩;have hlen:=congrArg List.length el;rw [List.length_append,List.length_cons] at hlen;simp! [id];refine wo6 T A1.at_ hW fun i G2 hi a2=>?_
    have k2:=a2.kp _ _ np k1;simp! [k2];have A2:=A1.trans a2;refine ⟨Nat.lt_of_le_of_lt (m:=1000) (by rw [List.length_map];omega) (by decide),ih _ _ ⟨l++[x0],t,us++[i],_,by rw [<- el];simp,rfl,A2.own hp k2 np,by rw [List.length_append,List.length_append,hl];rfl,fun u hu'=>?_,by rw [u02,List.map_append];rfl,rfl⟩⟩
    rcases List.mem_append.mp hu' with h | h
    ·exact hu u h
    ·rw [List.mem_singleton.mp h];exact hi
theorem wh3 {n:Nat}:Ok P w mg base (n+1) T.f_jbj (wr1 T):=by
 refine u12 T.f_jbj sc_jbj (fun ds G R h=>?_) (fun cdv A outer s H E hr =>
   (u01 (u21 4 sc_jbj.nd (u14 uq4 u05 (ev 3)))
   (u01 (s_if (u25 (x_eq hr) (ev 0) u09 (nomark _)) (u07 (u15 (u14 ub2 (u14 u49 (ev 1) (ev 2)) (ev 4)))) u23)
   (u01 (s_if (u25 (x_eq hr) (ev 0) u09 (nomark _)) (u07 (u15 (u14 ub2 (u14 ue1 (ev 1) (ev 2)) (ev 4)))) u23)
   (u01 (s_if (u25 (x_eq hr) (ev 0) u09 (nomark _)) (u07 (u15 (u14 w75 (ev 1) (ev 2)))) u23)
   (u01 (s_if (u25 (x_eq hr) (ev 0) u09 (nomark _)) (u07 (u15 (u14 x_or (ev 1) (ev 2)))) u23)
   (u01 (s_if (u25 (x_eq hr) (ev 0) u09 (nomark _)) (u07 (u15 (u14 w73 (ev 1) (ev 2)))) u23)
   (u01 (s_if (u25 (x_eq hr) (ev 0) u09 (nomark _)) (u07 (u15 (u48 uq3 rfl T.b_int (by decide) (u00 (uc0 (x_lt) (ev 1) (ev 2) (nomark _)) u03)))) u23)
   (u07 (u15 (u48 uq3 rfl T.b_int (by decide) (u00 (uc0 (x_eq hr) (ev 1) (ev 2) (nomark _)) u03)))))))))))) (fun ds G R h=>?_)
 ·obtain ⟨W,a,b,o,rfl,_⟩:=h;rfl
 ·obtain ⟨W,a,b,o,rfl,ho,hW,ha,hb,post⟩:=h
  have hP:=pw W;have h0:(0:Int) < ((2 ^ W:Nat):Int):=by have:=Nat.two_pow_pos W;omega
  have hC:CPow 1 (W:Int):=⟨by omega,by omega,by decide⟩;simp! [hP];refine ⟨hC,?_⟩
  rcases ud4 ho with rfl | rfl | rfl | rfl | rfl | rfl | rfl
  ·dsimp! [id]
   have e:rkB W (Str.ofString "+") a b=(a+b) % 2 ^ W:=by unfold rkB;rw [if_pos rfl]
   rw [e,Int.natCast_emod] at post;exact ⟨h0,post⟩
  ·dsimp! [id]
   rw [if_neg (by decide)];dsimp! [id];have e:rkB W (Str.ofString "-") a b=(a+(2 ^ W - b)) % 2 ^ W:=by unfold rkB;rw [if_neg (by decide),if_pos rfl]
   rw [e,<- submod hb] at post;exact ⟨h0,post⟩
  ·dsimp! [id]
   rw [if_neg (by decide)];dsimp! [id];rw [if_neg (by decide)];dsimp! [id];have e:rkB W (Str.ofString "&") a b=a &&& b:=by unfold rkB;rw [if_neg (by decide),if_neg (by decide),if_pos rfl]
   rw [e,<- ug2] at post;exact post
  ·dsimp! [id]
   rw [if_neg (by decide)];dsimp! [id];rw [if_neg (by decide)];dsimp! [id];rw [if_neg (by decide)];dsimp! [id];have e:rkB W (Str.ofString "|") a b=a ||| b:=by unfold rkB;rw [if_neg (by decide),if_neg (by decide),if_neg (by decide),if_pos rfl]
   rw [e,<- uv2] at post;exact post
  ·dsimp! [id]
   rw [if_neg (by decide)];dsimp! [id];rw [if_neg (by decide)];dsimp! [id];rw [if_neg (by decide)];dsimp! [id];rw [if_neg (by decide)];dsimp! [id];have e:rkB W (Str.ofString "^") a b=a ^^^ b:=by unfold rkB;rw [if_neg (by decide),if_neg (by decide),if_neg (by decide),if_neg (by decide),if_pos rfl]
   rw [e,<- v07 ha hb] at post;exact post
  ·dsimp! [id]
   rw [if_neg (by decide)];dsimp! [id];rw [if_neg (by decide)];dsimp! [id];rw [if_neg (by decide)];dsimp! [id];rw [if_neg (by decide)];dsimp! [id];rw [if_neg (by decide)];dsimp! [id];have e:rkB W (Str.ofString "<") a b=if a < b then 1 else 0:=by unfold rkB;rw [if_neg (by decide),if_neg (by decide),if_neg (by decide),if_neg (by decide),if_neg (by decide),if_pos rfl]
   rw [e] at post
   by_cases q:a < b
   ·rw [if_pos q] at post
    rw [if_pos (decide_eq_true (by omega))];exact post
   ·rw [if_neg q] at post
    rw [if_neg (by rw [decide_eq_false (by omega)];decide)];exact post
  ·dsimp! [id]
   rw [if_neg (by decide)];dsimp! [id];rw [if_neg (by decide)];dsimp! [id];rw [if_neg (by decide)];dsimp! [id];rw [if_neg (by decide)];dsimp! [id];rw [if_neg (by decide)];dsimp! [id];rw [if_neg (by decide)];dsimp! [id];have e:rkB W (Str.ofString "=") a b=if a=b then 1 else 0:=by unfold rkB;rw [if_neg (by decide),if_neg (by decide),if_neg (by decide),if_neg (by decide),if_neg (by decide),if_neg (by decide)]
   rw [e] at post
   by_cases q:a=b
   ·rw [if_pos q] at post
    rw [if_pos (decide_eq_true (by omega))];exact post
   ·rw [if_neg q] at post
    rw [if_neg (by rw [decide_eq_false (by omega)];decide)];exact post
theorem wh2 {n dp:Nat} (G_jbe:Ok P w mg base n T.f_jbe (uc7 T)) (G_jaz:Ok P w mg base n T.f_jaz (vk7 T)) (G_jbm:Ok P w mg base n T.f_jbm (v04 T dp)):Ok P w mg base (n+1) T.f_jbk (wr0 T dp):=by
 refine u12 T.f_jbk sc_jbk (fun ds G R h=>?_) (fun cdv A outer s H E hr =>
   (u01 (u21 5 sc_jbk.nd (ec T.f_jbe T.g_law_draw G_jbe hr (u00 (ev 0) (u00 u05 u03))))
   (u01 (u21 6 sc_jbk.nd (e_ix x_ix (ev 1) (ec T.f_jbe T.g_law_draw G_jbe hr (u00 (ev 0) (u00 (u37 ua3 rfl T.b_len (by decide) (u00 (ev 1) u03)) u03)))))
   (u01 (u21 7 sc_jbk.nd (ec T.f_jaz T.g_law_atom G_jaz hr (u00 (ev 0) (u00 (ev 1) (u00 (ev 2) u03)))))
   (u01 (s_if (u25 (x_lt) (ev 5) u05 (nomark _)) (u07 (u15 (u22 (u00 u09 (u00 (ev 6) (u00 (ev 7) u03)))))) u23)
   (u01 (s_if (t_w (w_or (u25 (x_lt) (ev 5) u05 (nomark _)) (w_or (u25 (x_eq hr) (ev 3) u05 (nomark _)) (vr6 (u25 (x_lt) (ev 4) u05 (nomark _)))))) (u01 (u21 8 sc_jbk.nd (e_ix x_ix u09 (ec T.f_jbe T.g_law_draw G_jbe hr (u00 (ev 0) (u00 u05 u03)))))
   (u07 (u15 (u22 (u00 u09 (u00 (ev 6) (u00 (ev 8) (u00 (ev 7) (u00 (ec T.f_jaz T.g_law_atom G_jaz hr (u00 (ev 0) (u00 (ev 1) (u00 (ev 2) u03)))) u03))))))))) u23)
   (u01 (u21 9 sc_jbk.nd (u14 ue1 (ev 4) u05))
   (u01 (u21 10 sc_jbk.nd (e_ix x_ix (u46 (u00 (u14 wt6 (ev 9) u05) (u00 (ev 9) (u00 u05 u03)))) (ec T.f_jbe T.g_law_draw G_jbe hr (u00 (ev 0) (u00 u05 u03)))))
   (u01 (u21 11 sc_jbk.nd (ec T.f_jbm T.g_law_pieces G_jbm hr (u00 (ev 0) (u00 (ev 1) (u00 (ev 2) (u00 (u14 ue1 (ev 3) u05) (u00 (ev 10) u03)))))))
   (u07 (u15 (u22 (u00 u09 (u00 (ev 7) (u00 (ev 11) (u00 (ec T.f_jbm T.g_law_pieces G_jbm hr (u00 (ev 0) (u00 (ev 1) (u00 (ev 2) (u00 (u14 ue1 (ev 3) u05) (u00 (u14 ue1 (ev 9) (ev 10)) u03)))))) u03)))))))))))))))) (fun ds G R h=>?_)
 ·obtain ⟨st,W,deep,room,bs,rfl,_⟩:=h;rfl
 ·obtain ⟨st,W,deep,room,bs,rfl,S,hW,h1,h2,hd,hd5,hr1,hr2,post⟩:=h
  simp! [id];refine u16 S (by decide) (by decide) fun x1 G1 a1 b1 b2=>?_
  simp! [id];dsimp! [List.length_map];refine u16 a1.at_ (by omega) (by omega) fun x2 G2 a2 c1 c2=>?_
  obtain ⟨x2,rfl⟩:=u79 c1;obtain ⟨b,hb⟩:∃ b,bs[x2]?=some b:=⟨_,List.getElem?_eq_getElem (by omega)⟩;have eb:atI (bs.map D.str) (x2:Int)=some (.str b):=u71 (by rw [List.getElem?_map,hb];rfl);have hbm:=List.mem_of_getElem? hb;simp! [eb];dsimp! [id];refine va6 T a2.at_ hW h1 h2 fun a G3 ha a3=>?_
  have A3:=(a1.trans a2).trans a3;simp! [id];dsimp! [id];refine u72 (fun q=>?_) (fun q=>?_)
  ·exact ⟨by decide,post (.is b a) G3 ⟨hbm,ha⟩ trivial hr1 (Nat.zero_le _) A3⟩
  dsimp! [id];generalize hOP:@Exists _ _=OP;have op:OP:=by
   rw [<- hOP];refine u16 A3.at_ (by decide) (by decide) fun x3 G4 a4 d1 d2=>?_
   obtain ⟨fm,rfl⟩:=u79 d1;obtain ⟨o,eo,ho⟩:∃ o:Nat,atI (Str.ofString "+-&|^<=").cps.toList (fm:Int)=some o /\ (⟨#[o]⟩:Str) ∈ L3.signs:=by
    have:fm=0 \/ fm=1 \/ fm=2 \/ fm=3 \/ fm=4 \/ fm=5 \/ fm=6:=by omega
    rcases this with e | e | e | e | e | e | e <;> subst e
    ·exact ⟨43,by decide,by decide⟩
    ·exact ⟨45,by decide,by decide⟩
    ·exact ⟨38,by decide,by decide⟩
    ·exact ⟨124,by decide,by decide⟩
    ·exact ⟨94,by decide,by decide⟩
    ·exact ⟨60,by decide,by decide⟩
    ·exact ⟨61,by decide,by decide⟩
   have hx:∀ (G:Gp) (q:DK),xIx (.str (Str.ofString "+-&|^<=")) (.int (fm:Int)) G q=(((Str.ofString "+-&|^<=").length<=sizeLine) /\ q (.str ⟨#[o]⟩) G):=fun G q=>by
    show (_ /\ (match atI (Str.ofString "+-&|^<=").cps.toList (fm:Int) with | some c=>q (.str ⟨#[c]⟩) G | none=>False))=_
    rw [eo]
   simp! [hx];refine ⟨by decide,?_⟩;dsimp! [id];refine va6 T a4.at_ hW h1 h2 fun c G5 hc a5=>?_
   simp! [id];exact ⟨by decide,post (.op b _ a c) G5 ⟨hbm,ho,ha,hc⟩ trivial hr1 (Nat.zero_le _) ((A3.trans a4).trans a5)⟩
  refine u72 (fun _=>op) fun q1=>?_
  simp! [id];refine u72 (fun _=>op) fun q2=>?_
  simp! [id];refine u72 (fun _=>op) fun q3=>?_
  dsimp! [id];dsimp! [id];obtain ⟨rm,hrm⟩:∃ rm:Nat,room=rm+1:=⟨room - 1,by omega⟩;obtain ⟨dm,hdm⟩:∃ dm:Nat,deep=dm+1:=⟨deep - 1,by omega⟩;rw [show ((room:Int) - 1)=(rm:Int) by omega];refine ⟨by unfold w68;omega,by decide,fun q0 hq0=>?_⟩;rw [show ((rm:Int) / 2)=((rm / 2:Nat):Int) by omega];have nq:=A3.at_.ne hq0
  have A4:=A3.new (o:=.lst [.int ((rm / 2:Nat):Int),.int (rm:Int),.int 0]) hq0;refine u16 A4.at_ (by decide) (by decide) fun x3 G5 a5 d1 d2=>?_
  have k5:=a5.kp _ _ nq u02;have A5:=A4.trans a5;obtain ⟨mu,hmu,hmu2⟩:∃ mu:Nat,atI [D.int ((rm / 2:Nat):Int),.int (rm:Int),.int 0] x3=some (.int (mu:Int)) /\ mu<=rm:=by
   have:x3=0 \/ x3=1 \/ x3=2:=by omega
   rcases this with rfl | rfl | rfl
   ·exact ⟨rm / 2,rfl,Nat.div_le_self _ _⟩
   ·exact ⟨rm,rfl,Nat.le_refl _⟩
   ·exact ⟨0,rfl,Nat.zero_le _⟩
  simp! [k5,hmu];have cps:∀ {G:Gp} {q:DK} {rr:Nat},rr<=200->StAt G st->(∀ (rs:List Rowp) (G':Gp),okL W bs rs->ntL rs->szL rs<=rr->depL rs<=dm->Adv st G G'->q (.tup (u32 rs)) G')->∃ R,v04 T dp [.ref st,.tup (bs.map .str),.int (W:Int),.int (dm:Int),.int (rr:Int)] G R /\ ∀ d G',R d G'->q d G':=fun {G q rr} hr S k =>
   u13 (post:=fun d G'=>∃ rs:List Rowp,d=.tup (u32 rs) /\ okL W bs rs /\ ntL rs /\ szL rs<=rr /\ depL rs<=dm /\ Adv st G G') (fun R h=>⟨st,W,dm,rr,bs,rfl,S,hW,h1,h2,by omega,by omega,hr,fun rs G' a b c d e=>h _ _ ⟨rs,rfl,a,b,c,d,e⟩⟩) fun d G' ⟨rs,e,a,b,c,d',f⟩=>by subst e;exact k rs G' a b c d' f
  dsimp! [id];rw [show ((deep:Int) - 1)=(dm:Int) by omega];refine cps (by omega) A5.at_ fun ys G6 y1 y2 y3 y4 a6=>?_
  simp! [id];dsimp! [id];rw [show ((deep:Int) - 1)=(dm:Int) by omega,show ((rm:Int) - (mu:Int))=((rm - mu:Nat):Int) by omega];refine cps (by omega) a6.at_ fun ns G7 n1 n2 n3 n4 a7=>?_
  simp! [id];refine ⟨by decide,post (.cho a ys ns) G7 ⟨ha,y1,n1⟩ ⟨y2,n2⟩ (by show 1+szL ys+szL ns<=room;omega) (by show 1+max (depL ys) (depL ns)<=deep;omega) ((A5.trans a6).trans a7)⟩
theorem wh6 {n dp:Nat} (G_jbj:Ok P w mg base n T.f_jbj (wr1 T)) (G_jbf:Ok P w mg base n T.f_jbf (v05 T dp)):Ok P w mg base (n+1) T.f_jbf (v05 T (dp+1)):=by
 refine u12 T.f_jbf sc_jbf (fun ds G R h=>?_) (fun cdv A outer s H E hr =>
   (u07 (ub5 (u94 (ev 0)) (u20 3 sc_jbf.nd) (u07 (s_if (u25 (x_eq hr) (e_ix x_ix (ev 3) u05) u09 (nomark _)) (u07 (ue4 hr (ev 1) (e_ix x_ix (ev 3) u05) (uw7 hr (ev 1) (e_ix x_ix (ev 3) u05) (e_ix x_ix (ev 3) u05)))) (u07 (s_if (u25 (x_eq hr) (e_ix x_ix (ev 3) u05) u09 (nomark _)) (u07 (ue4 hr (ev 1) (e_ix x_ix (ev 3) u05) (ec T.f_jbj T.g_law_op G_jbj hr (u00 (e_ix x_ix (ev 3) u05) (u00 (uw7 hr (ev 1) (e_ix x_ix (ev 3) u05) (e_ix x_ix (ev 3) u05)) (u00 (uw7 hr (ev 1) (e_ix x_ix (ev 3) u05) (e_ix x_ix (ev 3) u05)) (u00 (ev 2) u03))))))) (u07 (s_if (u25 (x_eq hr) (e_ix x_ix (ev 3) u05) u09 (nomark _)) (u07 (u38 (ec T.f_jbf T.g_law_go G_jbf hr (u00 (e_ix x_ix (ev 3) (u14 u49 u05 (u48 uq3 rfl T.b_int (by decide) (u00 (uc0 (x_eq hr) (uw7 hr (ev 1) (e_ix x_ix (ev 3) u05) (e_ix x_ix (ev 3) u05)) u05 (nomark _)) u03)))) (u00 (ev 1) (u00 (ev 2) u03)))))) (u07 (ub5 (u88 rfl T.b_range (u00 (e_ix x_ix (ev 3) u05) u03)) (u20 4 sc_jbf.nd) (u07 (u38 (ec T.f_jbf T.g_law_go G_jbf hr (u00 (e_ix x_ix (ev 3) u05) (u00 (ev 1) (u00 (ev 2) u03))))))))))))))))) (fun ds G R h=>?_)
 ·obtain ⟨d,h,W,bs,vs,rs,rfl,_⟩:=h;rfl
 ·obtain ⟨d,h,W,bs,vs,rs,rfl,h0,hg,hs,hn,hb,hW1,hW2,hok,hnt,hd,post⟩:=h
  have kd:∀ o,sqD (gup G h (.dic o)) d=some (u32 rs):=fun o=>vs7 hg h0
  refine v80 h0 rfl fun ok hok0=>?_
  refine u47 (fun r σ G'=>∃ (l t:List Rowp) (v3:Option D),l++t=rs /\ r=u32 t /\ G'=gup G h (.dic (u08 bs (doL W bs l vs))) /\ StW W bs (doL W bs l vs) /\ σ=[some d,some (.ref h),some (.int (W:Int)),v3,none]) ⟨[],rs,none,rfl,rfl,(vj0 hg).symm,hs,rfl⟩ ?_ ?_
  ·rintro σ G1 ⟨l,t,v3,e,e2,rfl,hsl,rfl⟩
   have ht:t=[]:=by
    cases t with
    | nil=>rfl
    | cons x t=>cases e2
   subst ht;rw [List.append_nil] at e;subst e;exact ⟨hok0 _ (kd _),post⟩
  ·rintro x r σ G1 ⟨l,t,v3,e,e2,rfl,hsl,rfl⟩ ih
   cases t with
   | nil=>cases e2
   | cons r0 t =>
    cases e2;refine ⟨hok0 _ (kd _),?_⟩;have hm:r0 ∈ rs:=by rw [<- e];simp
    have hdr:=uk0 (Nat.le_of_lt_succ hd) r0 hm;have hor:=v51 hok hm;have hnr:=uv6 hnt hm;have hdl:doL W bs (l++[r0]) vs=doR W bs r0 (doL W bs l vs):=by rw [v89];rfl
    generalize hU:doL W bs l vs=U at hsl hdl;have hsn:=v88 hW1 r0 hor hsl;generalize hFL:forL ok _ _ _ (u32 t)=FL at ih ⊢;have nxt:∀ v,FL [some d,some (.ref h),some (.int (W:Int)),v,none] (gup G h (.dic (u08 bs (doR W bs r0 U)))):=fun v=>ih _ _ ⟨l++[r0],t,v,by rw [<- e];simp,rfl,by rw [hdl],by rw [hdl];exact hsn,rfl⟩
    have hG:gup G h (.dic (u08 bs U)) h=some (.dic (u08 bs U)):=u02;have hdc:=u74 bs U;have look:∀ (a:Atm),okA W bs a->∃ k,aD a=kD k /\ (valK (u08 bs U) k).getD (aD a)=.int ((avB bs U a:Nat):Int):=by
     intro a ha;cases a with
     | num i=>exact ⟨.inl (i:Int),rfl,by rw [vc9];rfl⟩
     | box x=>exact ⟨.inr x,rfl,by rw [u51 ha hsl.1];rfl⟩
    cases r0 with
    | is x a =>
     obtain ⟨hx,ha⟩:x ∈ bs /\ okA W bs a:=hor;obtain ⟨k,ek,ev⟩:=look a ha;simp! [rowD,v01,up0];refine ⟨⟨h,_,rfl,hG⟩,h,_,k,rfl,ek,hG,?_⟩;rw [ev];refine ⟨h,u08 bs U,.inr x,rfl,rfl,hG,Nat.lt_of_le_of_lt (m:=6) (by omega) (by decide),?_⟩;rw [u30,u83 hx hn hsl.1];exact nxt _
    | op x o a c =>
     obtain ⟨hx,ho,ha,hc⟩:x ∈ bs /\ o ∈ L3.signs /\ okA W bs a /\ okA W bs c:=hor;obtain ⟨k,ek,ev⟩:=look a ha;obtain ⟨k',ek',ev'⟩:=look c hc;have d1:(Str.ofString "op" = Str.ofString "is")=False:=eq_false (by decide);simp! [rowD,v01,up0,d1];refine ⟨⟨h,_,rfl,hG⟩,h,_,k,rfl,ek,hG,?_⟩;rw [ev];refine ⟨⟨h,_,rfl,hG⟩,h,_,k',rfl,ek',hG,?_⟩;rw [ev'];refine u35 (v:=.int ((rkB W o (avB bs U a) (avB bs U c):Nat):Int)) (G1:=gup G h (.dic (u08 bs U))) (fun R hR=>⟨W,_,_,o,rfl,ho,hW2,uc3 hsl ha,uc3 hsl hc,hR⟩) ?_;simp! [id];refine ⟨h,u08 bs U,.inr x,rfl,rfl,hG,Nat.lt_of_le_of_lt (m:=6) (by omega) (by decide),?_⟩;rw [u30,u83 hx hn hsl.1];exact nxt _
    | cho a ys ns =>
     obtain ⟨ha,oky,okn⟩:okA W bs a /\ okL W bs ys /\ okL W bs ns:=hor;obtain ⟨nty,ntn⟩:ntL ys /\ ntL ns:=hnr;obtain ⟨k,ek,ev⟩:=look a ha;have d1:(Str.ofString "choose" = Str.ofString "is")=False:=eq_false (by decide);have d2:(Str.ofString "choose" = Str.ofString "op")=False:=eq_false (by decide);have hd':1+max (depL ys) (depL ns)<=dp:=hdr;have crec:∀ {ws:List Rowp} {q:DK},depL ws < dp->okL W bs ws->ntL ws->q .non (gup G h (.dic (u08 bs (doL W bs ws U))))->∃ R,v05 T dp [.tup (u32 ws),.ref h,.int (W:Int)] (gup G h (.dic (u08 bs U))) R /\ ∀ d G',R d G'->q d G':=fun {ws q} hw hko hnw hq=>u35 (v:=.non) (G1:=gup G h (.dic (u08 bs (doL W bs ws U)))) (fun R hR=>⟨.tup (u32 ws),h,W,bs,U,ws,rfl,rfl,hG,hsl,hn,hb,hW1,hW2,hko,hnw,hw,by rw [u30];exact hR⟩) hq
     have hdo:doR W bs (.cho a ys ns) U=if avB bs U a=0 then doL W bs ns U else doL W bs ys U:=rfl
     rw [hdo] at nxt;simp! [rowD,up0,d1,d2];refine ⟨⟨h,_,rfl,hG⟩,h,_,k,rfl,ek,hG,?_⟩;rw [ev];simp! [id]
     by_cases z:avB bs U a=0
     ·rw [decide_eq_true (by omega),if_pos rfl,show ((2:Int)+1)=3 from rfl,wo9]
      rw [if_pos z] at nxt;exact crec (ws:=ns) (by omega) okn ntn (nxt _)
     ·rw [decide_eq_false (by omega),if_neg (by decide),show ((2:Int)+0)=2 from rfl,wp0]
      rw [if_neg z] at nxt;exact crec (ws:=ys) (by omega) oky nty (nxt _)
    | tim k ys=>exact hnr.elim
theorem wi1 {n:Nat} (G_jbf:Ok P w mg base n T.f_jbf (wr3 T)):Ok P w mg base (n+1) T.f_jba (wr6 T):=by
 refine u12 T.f_jba sc_jba (fun ds G R h=>?_) (fun cdv A outer s H E hr =>
   (u01 (u21 4 sc_jba.nd (uo7 hr rfl T.b_zip rfl T.b_dict (u00 (ev 1) (u00 (ev 3) u03))))
   (u01 (u38 (ec T.f_jbf T.g_law_go G_jbf hr (u00 (ev 0) (u00 (ev 4) (u00 (ev 2) u03)))))
   (u07 (u15 (u67 (N':=["_law_x", "_law_held"]) (ix:=[none,some 4]) (blk (osc:=u04 vd9) (N:=["_law_rows", "_law_names_here", "_law_wide", "_law_values_here", "_law_held"]) rfl rfl (by decide)) (u94 (ev 1)) (fun _ _ _ _=>(u20 0 (show (["_law_x", "_law_held"]:List Str).Nodup by decide))) (fun _ _ _ _=>u45) (fun _ _ _ _=>(ua2 hr (ev 1) (ev 0))))))))) (fun ds G R h=>?_)
 ·obtain ⟨pa,va,W,bs,vs,rs,rfl,_⟩:=h;rfl
 ·obtain ⟨pa,va,W,bs,vs,rs,rfl,hpa,hva,hs,hn,hb,hW1,hW2,hok,hnt,hd,post⟩:=h
  have hkb:(bs.map Sum.inr).map kD=bs.map D.str:=by rw [List.map_map];rfl
  simp! [ud9];refine ⟨bs.map Sum.inr,vs.map nD,by rw [hkb];rfl,by show u19 (G va)=_;rw [hva];rfl,by rw [List.length_map,List.length_map];exact hs.1.symm,by rw [List.length_map];omega,fun p hp=>?_⟩;rw [uh7 hs.1 hn];dsimp! [id];refine u35 (v:=.non) (G1:=gup G p (.dic (u08 bs (doL W bs rs vs)))) (fun R h=>⟨.ref pa,p,W,bs,vs,rs,rfl,by show u19 (gup G p _ pa)=_;rw [u06 (gne hpa hp),hpa];rfl,u02,hs,hn,hb,hW1,hW2,hok,hnt,Nat.lt_of_le_of_lt hd (by decide),by rw [u30];exact h⟩) ?_;have hs2:=uo9 hW1 rs hok hs;have g1:Grow G (gup G p (.dic (u08 bs (doL W bs rs vs)))):=Grow.refl.new hp;generalize doL W bs rs vs=U at *;obtain ⟨G1,hG1⟩:∃ G1,G1=gup G p (.dic (u08 bs U)):=⟨_,rfl⟩;have w1:G1 p=some (.dic (u08 bs U)):=by rw [hG1];exact u02
  rw [<- hG1] at g1 ⊢;clear hG1;simp! [id];dsimp! [id];intro p1 hp1;refine u34 (fun r σ G'=>∃ (l t:List Str) (v0:Option D),l++t=bs /\ r=t.map D.str /\ G'=gup G1 p1 (.lst ((l.map (gtB bs U)).map nD)) /\ σ=[v0,some (.ref p)]) ⟨[],bs,none,rfl,rfl,rfl,rfl⟩ ?_ ?_
  ·rintro σ G4 ⟨l,t,v0,el,e2,rfl,rfl⟩
   have ht:t=[]:=by simpa using e2.symm
   subst ht;rw [List.append_nil] at el;subst el;refine ⟨trivial,?_⟩;rw [uk1 hn hs2.1];exact post p1 _ (g1.none hp1) u02 (g1.new hp1)
  ·rintro z t σ G4 ⟨l,t,v0,el,e2,rfl,rfl⟩ ih
   cases t with
   | nil=>cases e2
   | cons x0 t =>
    cases e2;refine ⟨trivial,?_⟩;have hm:x0 ∈ bs:=by rw [<- el];simp
    have hlen:=congrArg List.length el;rw [List.length_append,List.length_cons] at hlen;simp! [up3];refine ⟨p,u08 bs U,.inr x0,_,rfl,rfl,by rw [u06 (gne w1 hp1)];exact w1,u51 hm hs2.1,?_⟩;simp! [u02];refine ⟨Nat.lt_of_le_of_lt (m:=1000) (by rw [List.length_map,List.length_map];omega) (by decide),ih _ _ ⟨l++[x0],t,_,by rw [<- el];simp,rfl,?_,rfl⟩⟩;rw [u30,List.map_append,List.map_append];rfl
theorem wg8 {n:Nat} (G_jbz:Ok P w mg base n T.f_jbz (w57 T)):Ok P w mg base (n+1) T.f_jbq (wq7 T):=by
 refine u12 T.f_jbq sc_jbq (fun ds G R h=>?_) (fun cdv A outer s H E hr =>
   (u01 (ub6 (ev 0) (ur4 (n:=4) rfl (u42 (u20 5 sc_jbq.nd) (u42 (u20 6 sc_jbq.nd) (u42 (u20 7 sc_jbq.nd) (u42 (u20 8 sc_jbq.nd) uf1))))))
   (u01 (ub6 (ec T.f_jbz T.g_run_forth G_jbz hr (u00 (u22 (u00 (ev 7) (u00 (ev 5) u03))) (u00 (u14 u49 (ev 1) (u14 uc4 (u46 (u00 u05 u03)) (u14 ue1 (ev 7) (ev 3)))) (u00 (u14 u49 (ev 8) u05) u03)))) (ur4 (n:=4) rfl (u42 (u20 9 sc_jbq.nd) (u42 (u20 10 sc_jbq.nd) (u42 (u20 11 sc_jbq.nd) (u42 (u20 12 sc_jbq.nd) uf1))))))
   (u01 (s_if (t_w (w_or (u25 (x_ne hr) (u22 (u00 (ev 9) (u00 (ev 10) (u00 (ev 12) u03)))) (u22 (u00 u09 (u00 (u37 ua3 rfl T.b_len (by decide) (u00 (ev 5) u03)) (u00 (ev 8) u03)))) (nomark _)) (vr6 (u25 (x_ne hr) (e_sl x_sl (ev 11) v54 (v53 (ev 3))) (ev 1) (nomark _))))) (u07 (u15 e_bl)) u23)
   (u07 (u15 (uc0 (x_eq hr) (u67 (N':=["_law_spot", "_law_found"]) (ix:=[none,some 11]) (blk (osc:=u04 vd6) (N:=["_law_told", "_law_boxes_here", "_law_places_here", "_law_fresh", "_law_due", "_law_rows", "_law_spots", "_law_after", "_law_wanted", "_law_word", "_law_place", "_law_found", "_law_many"]) rfl rfl (by decide)) (u94 (ev 6)) (fun _ _ _ _=>(u20 0 (show (["_law_spot", "_law_found"]:List Str).Nodup by decide))) (fun _ _ _ _=>u45) (fun _ _ _ _=>(e_ix x_ix (ev 1) (ev 0)))) (ev 4) (nomark _)))))))) (fun ds G R h=>?_)
 ·obtain ⟨q1,q2,ba,pa,da,W,fr,bs,pl,vs,bx,rs,rfl,_⟩:=h;rfl
 ·obtain ⟨q1,q2,ba,pa,da,W,fr,bs,pl,vs,bx,rs,rfl,k1,k2,kba,kda,hpl,hs,hbx,hheld,hfr,hok,hnt,hsz,hb,hW1,hW,post⟩:=h
  obtain ⟨wk,pc⟩:=w_ps hW1 hW rs (a:=0) hok hnt hpl hs;have hle:=u82 hW hb rs (a:=0) (fr:=fr) hok hnt hpl.l1;generalize wcL W bs rs 0 pl fr=X at *;obtain ⟨new,pl3,f3,stp⟩:=X;obtain ⟨m1,m2,m3,m4,m5⟩:new.length<=22 * szL rs /\ f3<=fr+9 * szL rs /\ fr<=f3 /\ pl3.length=bs.length /\ stp<=22 * szL rs:=hle;have wk:Wk 0 fr f3 new stp (Held pl vs) (fun _ b'=>Held pl3 (doL W bs rs vs) b'):=wk;have pc:Plc bs pl3 (doL W bs rs vs) f3:=pc;have k1:G q1=some (.lst (new.map Row.d)):=k1;have k2:G q2=some (.lst (pl3.map nD)):=k2;simp! [id];dsimp! [kba];obtain ⟨zn,hzn,hzn2⟩:∃ zn:Nat,((f3:Int) - (fr:Int)).toNat=zn /\ fr+zn=f3:=⟨f3 - fr,by omega,by omega⟩;rw [hzn];refine ⟨by decide,by decide,fun p8 hp8=>⟨⟨by omega,by omega,Nat.le_trans (m:=1000) (by omega) (by decide)⟩,fun p9 hp9=>?_⟩⟩;rw [List.flatten_replicate_singleton];have hbl:=hbx.len;have n8:ba ≠ p8:=gne kba hp8;have n9:ba ≠ p9:=fun z=>by rw [<- z,u06 n8,kba] at hp9;cases hp9
  refine v09 (by rw [u06 n9,u06 n8];exact kba) u02 (by rw [List.length_map,List.length_replicate];exact Nat.le_trans (m:=1000) (by omega) (by decide)) fun p10 hp10=>?_
  have ezz:bx.map D.int++List.replicate zn (D.int 0)=(bx++List.replicate zn 0).map D.int:=by rw [List.map_append,List.map_replicate]
  rw [ezz];obtain ⟨G7,hG7⟩:∃ G7,G7=gup (gup (gup G p8 (.lst [D.int 0])) p9 (.lst (List.replicate zn (D.int 0)))) p10 (.lst ((bx++List.replicate zn 0).map D.int)):=⟨_,rfl⟩;have g7:Grow G G7:=by rw [hG7];exact ((Grow.refl.new hp8).trans (Grow.refl.new hp9)).trans (Grow.refl.new hp10)
  have k10:G7 p10=some (.lst ((bx++List.replicate zn 0).map D.int)):=by rw [hG7];exact u02
  rw [<- hG7];clear hG7;obtain ⟨bb,hbb⟩:∃ bb,bb=bx++List.replicate zn (0:Int):=⟨_,rfl⟩;rw [<- hbb] at k10;have gtl:∀ i,i < fr->gt bb i=gt bx i:=fun i hi=>by
   rw [hbb];unfold gt;rw [List.getD_eq_getElem?_getD,List.getD_eq_getElem?_getD,List.getElem?_append_left (by omega)]
  have gth:∀ i,fr<=i->gt bb i=0:=fun i hi=>by
   rw [hbb];unfold gt;rw [List.getD_eq_getElem?_getD,List.getElem?_append_right (by omega)]
   by_cases h:i - bx.length < zn
   ·rw [List.getElem?_replicate,if_pos h];rfl
   ·rw [List.getElem?_replicate,if_neg h];rfl
  have bok:BsOk f3 bb:=by
   refine ⟨by rw [hbb,List.length_append,List.length_replicate];omega,fun v hv=>?_⟩;rw [hbb] at hv
   rcases List.mem_append.mp hv with h | h
   ·exact hbx.rng v h
   ·rw [(List.mem_replicate.mp h).2];omega
  obtain ⟨b',rok,rkeep,rheld,rch⟩:=wk.run f3 new bb (fun j r e=>by rw [Nat.zero_add];exact e) bok (Nat.le_refl _) gth (u40 hheld hpl.lt gtl);have hrn:rn true new (stp+9) 0 bb=(stp,new.length,b'):=by
   rw [rch 9,Nat.zero_add,v37 (by
    show mayF new b' new.length=false
    unfold mayF;rw [List.getElem?_eq_none (Nat.le_refl _)])]
   rfl
  rw [show ((stp:Int)+9)=((stp+9:Nat):Int) by omega];refine wo5 T (most:=stp+9) (sz:=f3) (g7.kp _ _ k1) k10 ⟨bok,wk.ok,Nat.zero_le _⟩ wk.pr.pairs fun q8 G8 f8 k8 g8=>?_
  rw [hrn] at k8 ⊢;have k8:G8 q8=some (.lst (b'.map .int)):=k8;have ewd:outD true new (stp,new.length,b') q8=.tup [.str "end",.int (new.length:Int),.ref q8,.int (stp:Int)]:=by
   show D.tup [.str (wrd true new b' new.length),_,_,_]=_
   unfold wrd;rw [if_pos rfl,if_pos rfl];rfl
  rw [ewd];have g78:Grow G G8:=g7.trans g8;have ka1:=g78.kp _ _ k1;have ka2:=g78.kp _ _ k2;have kba:=g78.kp _ _ kba;have kda:=g78.kp _ _ kda;have rl:=rok.len;have etk:b'.take fr=bx:=by
   apply List.ext_getElem?;intro i
   by_cases hi:i < fr
   ·rw [List.getElem?_take_of_lt hi,List.getElem?_eq_getElem (by omega),List.getElem?_eq_getElem (by omega)]
    have:=rkeep i (.inl hi);rw [gtl i hi,uo6 (by omega),uo6 (by omega)] at this;rw [this]
   ·rw [List.getElem?_eq_none (by rw [List.length_take];omega),List.getElem?_eq_none (by omega)]
  have z1:((new.map Row.d).length<=sizeLine)=True:=eq_true (by rw [List.length_map];exact Nat.le_trans (m:=1000) (by omega) (by decide));simp! [id];dsimp! [ka1,z1,List.length_map];refine ⟨by decide,by decide,w33 ?_⟩;rw [if_neg (by decide)];simp only [k8,u19];intro p11 hp11;have ecut:cutD (b'.map D.int) none (some (fr:Int))=bx.map D.int:=by
   rw [show cutD (b'.map D.int) none (some (fr:Int))=(b'.map D.int).take fr from v02,<- List.map_take,etk]
  rw [ecut];obtain ⟨G9,hG9⟩:∃ G9,G9=gup G8 p11 (.lst (bx.map D.int)):=⟨_,rfl⟩;have g9:Grow G8 G9:=by rw [hG9];exact Grow.refl.new hp11
  have k11:G9 p11=some (.lst (bx.map D.int)):=by rw [hG9];exact u02
  rw [<- hG9];clear hG9;have ka2:=g9.kp _ _ ka2;have kba:=g9.kp _ _ kba;have kda:=g9.kp _ _ kda;have k9:=g9.kp _ _ k8;have g89:=g78.trans g9;refine ux3 (ks:=bx) (ms:=bx) (by rw [k11];rfl) (by rw [kba];rfl) ?_;rw [decide_eq_true rfl,if_neg (by decide)];dsimp! [ka2];intro p12 hp12;refine u34 (fun r σ G'=>∃ (l t:List Nat) (v0:Option D),l++t=pl3 /\ r=t.map nD /\ G'=gup G9 p12 (.lst ((l.map fun p=>gt b' p).map D.int)) /\ σ=[v0,some (.ref q8)]) ⟨[],pl3,none,rfl,rfl,rfl,rfl⟩ ?_ ?_
  ·rintro σ G10 ⟨l,t,v0,el,e2,rfl,rfl⟩
   have ht:t=[]:=by simpa using e2.symm
   subst ht;rw [List.append_nil] at el;subst el;have g10:Grow G9 (gup G9 p12 (.lst ((l.map fun p=>gt b' p).map D.int))):=Grow.refl.new hp12;refine ⟨by rw [g10.kp _ _ ka2];rfl,?_⟩;have elist:(l.map fun p=>gt b' p)=(doL W bs rs vs).map fun (k:Nat)=>(k:Int):=by
    apply List.ext_getElem?;intro k;rw [List.getElem?_map,List.getElem?_map];have hll:l.length=(doL W bs rs vs).length:=pc.l1.trans pc.l2.symm
    by_cases hk:k < l.length
    ·have q1:=List.getElem?_eq_getElem hk
     have q2:=List.getElem?_eq_getElem (l:=doL W bs rs vs) (i:=k) (by omega);rw [q1,q2];exact congrArg some (rheld k _ _ q1 q2)
    ·rw [List.getElem?_eq_none (by omega),List.getElem?_eq_none (by omega)];rfl
   simp! [id];refine ux3 (ks:=l.map fun p=>gt b' p) (ms:=(doL W bs rs vs).map fun (k:Nat)=>(k:Int)) (by rw [u02];rfl) (by rw [g10.kp _ _ kda,wl0];rfl) ?_;rw [decide_eq_true elist];exact post _ (g89.trans g10)
  ·rintro z t σ G10 ⟨l,t,v0,el,e2,rfl,rfl⟩ ih
   cases t with
   | nil=>cases e2
   | cons x0 t =>
    cases e2;have g10:Grow G9 (gup G9 p12 (.lst ((l.map fun p=>gt b' p).map D.int))):=Grow.refl.new hp12;refine ⟨by rw [g10.kp _ _ ka2];rfl,?_⟩;have hx0:x0 < b'.length:=by rw [rl];exact pc.lt x0 (by rw [<- el];simp)
    have hlen:=congrArg List.length el;rw [List.length_append,List.length_cons,pc.l1] at hlen;have e0:nD x0=.int (x0:Int):=rfl;have k9':=g10.kp _ _ k9;simp! [e0,k9',u44 hx0,u02];refine ⟨Nat.lt_of_le_of_lt (m:=1000) (by rw [List.length_map,List.length_map];omega) (by decide),ih _ _ ⟨l++[x0],t,_,by rw [<- el];simp,rfl,?_,rfl⟩⟩;rw [u30,List.map_append,List.map_append];rfl
theorem wh8 {n:Nat} (G_jaz:Ok P w mg base n T.f_jaz (vk7 T)) (G_jbm:Ok P w mg base n T.f_jbm (w59 T)):Ok P w mg base (n+1) T.f_jbd (wr4 T):=by
 refine u12 T.f_jbd sc_jbd (fun ds G R h=>?_) (fun cdv A outer s H E hr =>
   (u01 (u21 3 sc_jbd.nd (ec T.f_jaz T.g_law_atom G_jaz hr (u00 (ev 0) (u00 (ev 1) (u00 (ev 2) u03)))))
   (u01 (u21 4 sc_jbd.nd (ec T.f_jbm T.g_law_pieces G_jbm hr (u00 (ev 0) (u00 (ev 1) (u00 (ev 2) (u00 u05 (u00 u05 u03)))))))
   (u07 (u15 (u22 (u00 u09 (u00 (ev 3) (u00 (ev 4) (u00 (ec T.f_jbm T.g_law_pieces G_jbm hr (u00 (ev 0) (u00 (ev 1) (u00 (ev 2) (u00 u05 (u00 u05 u03)))))) u03)))))))))) (fun ds G R h=>?_)
 ·obtain ⟨st,W,bs,rfl,_⟩:=h;rfl
 ·obtain ⟨st,W,bs,rfl,S,hW,h1,h2,post⟩:=h
  have cps:∀ {G:Gp} {q:DK},StAt G st->(∀ (rs:List Rowp) (G':Gp),okL W bs rs->ntL rs->szL rs<=8->depL rs<=1->Adv st G G'->q (.tup (u32 rs)) G')->∃ R,w59 T [.ref st,.tup (bs.map .str),.int (W:Int),.int 1,.int 8] G R /\ ∀ d G',R d G'->q d G':=fun {G q} S k =>
   u13 (post:=fun d G'=>∃ rs:List Rowp,d=.tup (u32 rs) /\ okL W bs rs /\ ntL rs /\ szL rs<=8 /\ depL rs<=1 /\ Adv st G G') (fun R h=>⟨st,W,1,8,bs,rfl,S,hW,h1,h2,by decide,by decide,by decide,fun rs G' a b c d e=>h _ _ ⟨rs,rfl,a,b,c,d,e⟩⟩) fun d G' ⟨rs,e,a,b,c,d',f⟩=>by subst e;exact k rs G' a b c d' f
  simp! [id];refine va6 T S hW h1 h2 fun c G1 hc a1=>?_
  simp! [id];dsimp! [id];refine cps a1.at_ fun ys G2 y1 y2 y3 y4 a2=>?_
  simp! [id];dsimp! [id];refine cps a2.at_ fun ns G3 n1 n2 n3 n4 a3=>?_
  simp! [id];refine ⟨by decide,post c ys ns G3 ⟨hc,y1,n1⟩ ⟨y2,n2⟩ (by show 1+szL ys+szL ns<=17;omega) (by show 1+max (depL ys) (depL ns)<=2;omega) ((a1.trans a2).trans a3)⟩
theorem wg9 {n:Nat} (G_jcf:Ok P w mg base n T.f_jcf (wp9 T)) (G_jas:Ok P w mg base n T.f_jas (ws1 T)) (G_jbe:Ok P w mg base n T.f_jbe (uc7 T)) (G_jbo:Ok P w mg base n T.f_jbo (wq9 T)) (G_jbc:Ok P w mg base n T.f_jbc (w60 T)) (G_jbr:Ok P w mg base n T.f_jbr (wq6 T)) (G_jba:Ok P w mg base n T.f_jba (wr6 T)) (G_jbq:Ok P w mg base n T.f_jbq (wq7 T)):Ok P w mg base (n+1) T.f_jbp (wq8 T):=by
 refine u12 T.f_jbp sc_jbp (fun ds G R h=>?_) (fun cdv A outer s H E hr =>
   (u01 (ub6 (ec T.f_jbo T.g_law_places G_jbo hr (u00 (ev 0) (u00 (u37 ua3 rfl T.b_len (by decide) (u00 (ev 1) u03)) u03))) (ur4 (n:=2) rfl (u42 (u20 4 sc_jbp.nd) (u42 (u20 5 sc_jbp.nd) uf1))))
   (u01 (u21 6 sc_jbp.nd (ec T.f_jcf T.g_weave G_jcf hr (u00 (u46 (u00 (ev 3) u03)) (u00 (ev 1) (u00 (ev 2) (u00 (u48 ud0 rfl T.b_list (by decide) (u00 (ev 4) u03)) (u00 (ev 5) u03)))))))
   (u01 (s_if (u25 (vc4) (ec T.f_jas T.g_check_code G_jas hr (u00 (u22 (u00 (e_ix x_ix (ev 6) u05) (u00 (e_ix x_ix (ev 6) u05) u03))) u03)) ww9 (nomark _)) (u07 (u15 e_bl)) u23)
   (u01 (ub5 (u88 rfl T.b_range (u00 u05 u03)) (u20 7 sc_jbp.nd) (u01 (u21 8 sc_jbp.nd (ec T.f_jbr T.g_law_values G_jbr hr (u00 (ev 0) (u00 (ev 1) (u00 (ev 2) u03)))))
   (u01 (s_if (t_w (w_and (u25 (x_lt) (ev 7) u05 (nomark _)) (ut9 (u25 (wt5) (e_ix x_ix (ev 3) u05) (ev 1) (by with_unfolding_all rfl))))) (u07 (ub6 (u14 ub2 (u14 uc4 (ev 7) (u14 u49 u05 (ec T.f_jbe T.g_law_draw G_jbe hr (u00 (ev 0) (u00 (u14 ue1 (u14 uq4 u05 (ev 2)) u05) u03))))) (u14 uq4 u05 (ev 2))) (uk5 (ev 8) (w37 (ev 1) (u00 (e_ix x_ix (ev 3) u05) u03)) uj0))) u23)
   (u01 (u21 9 sc_jbp.nd (ec T.f_jbc T.g_law_boxes G_jbc hr (u00 (ev 0) (u00 (ev 4) (u00 (ev 8) (u00 (ev 5) u03))))))
   (u07 (s_if (vd3 (uc5 (ec T.f_jbq T.g_law_run G_jbq hr (u00 (ev 6) (u00 (ev 9) (u00 (ev 4) (u00 (ev 5) (u00 (ec T.f_jba T.g_law_behind G_jba hr (u00 (u46 (u00 (ev 3) u03)) (u00 (ev 1) (u00 (ev 2) (u00 (ev 8) u03))))) u03)))))))) (u07 (u15 e_bl)) u23))))))
   (u07 (u15 e_bl))))))) (fun ds G R h=>?_)
 ·obtain ⟨st,W,bs,c,ys,ns,rfl,_⟩:=h;rfl
 ·obtain ⟨st,W,bs,c,ys,ns,rfl,S,hW1,hW,h1,h2,hn,hr,hnt,hsz,hdp,post⟩:=h
  obtain ⟨rs,hrs⟩:∃ rs:List Rowp,rs=[.cho c ys ns]:=⟨_,rfl⟩;have hok:okL W bs rs:=by rw [hrs];exact ⟨hr,trivial⟩
  have hntL:ntL rs:=by rw [hrs];exact ⟨hnt,trivial⟩
  have hszL:szL rs<=17:=by rw [hrs];show szR _+0<=17;omega
  have hdpL:depL rs<=2:=by rw [hrs];show max (depR _) 0<=2;omega
  have erow:[rowD (.cho c ys ns)]=u32 rs:=by rw [hrs];rfl
  have hp16:=p16 hW;have hpos:1 < 2 ^ W:=uh9 hW1;simp! [List.length_map];refine u13 (post:=fun d G'=>∃ (q q1:Addr) (fr:Nat) (pl:List Nat),d=.ref q /\ Adv st G G' /\ q ≠ st /\ q1 ≠ st /\ G' q=some (.lst [.ref q1,.int (fr:Int)]) /\ G' q1=some (.lst (pl.map nD)) /\ pl.length=bs.length /\ pl.Nodup /\ (∀ x ∈ pl,x < fr) /\ fr<=100) (fun R h=>⟨st,bs.length,rfl,S,h2,fun q q1 fr pl G' y1 y2 y3 y4 y5 y6 y7 y8 y9=>h _ _ ⟨q,q1,fr,pl,rfl,y1,y2,y3,y4,y5,y6,y7,y8,y9⟩⟩) ?_;rintro d G1 ⟨q,q1,fr,pl,rfl,A1,nq,nq1,kq,kq1,hl,hnd,hlt,hf⟩;simp! [kq];dsimp! [kq1];refine ⟨by decide,fun p7 hp7=>?_⟩;simp! [u06 (gne kq1 hp7),kq1];intro p6 hp6;rw [erow] at hp6 ⊢;obtain ⟨G2,hG2⟩:∃ G2,G2=gup (gup G1 p7 (.lst (u32 rs))) p6 (.lst (pl.map nD)):=⟨_,rfl⟩;have g2:Grow G1 G2:=by rw [hG2];exact (Grow.refl.new hp7).trans (Grow.refl.new hp6)
  have k6:G2 p6=some (.lst (pl.map nD)):=by rw [hG2];exact u02
  have k7:G2 p7=some (.lst (u32 rs)):=by rw [hG2,u06 (gne u02 hp6)];exact u02
  rw [<- hG2];clear hG2;have A2:Adv st G G2:=A1.grow g2;have kq2:=g2.kp _ _ kq1;refine u13 (post:=fun d G'=>∃ a1 a2,d=.tup [.ref a1,.ref a2,.int ((wcL W bs rs 0 pl fr).2.2.1:Int),.int ((wcL W bs rs 0 pl fr).2.2.2:Int)] /\ G2 a1=none /\ G2 a2=none /\ G' a1=some (.lst ((wcL W bs rs 0 pl fr).1.map Row.d)) /\ G' a2=some (.lst ((wcL W bs rs 0 pl fr).2.1.map nD)) /\ Grow G2 G') (fun R h=>⟨p7,p6,W,fr,bs,pl,rs,rfl,k7,k6,hl,h2,hn,hok,hntL,by omega,by omega,hW,fun q1 q2 G' z1 z2 z3 z4 z5 z6=>h _ _ ⟨q1,q2,rfl,z1,z2,z4,z5,z6⟩⟩) ?_;rintro d G3 ⟨a1,a2,rfl,fa1,fa2,ka1,ka2,g3⟩;have A3:Adv st G G3:=A2.grow g3;have m1:a1 ≠ st:=A2.at_.ne fa1
  have m2:a2 ≠ st:=A2.at_.ne fa2
  have kq3:=g3.kp _ _ kq2;obtain ⟨wk0,_⟩:=w_ps hW1 hW rs (a:=0) (pl:=pl) (vs:=List.replicate bs.length 0) (fr:=fr) hok hntL ⟨hl,List.length_replicate,hlt⟩ ⟨List.length_replicate,fun v hv=>by rw [(List.mem_replicate.mp hv).2];exact Nat.two_pow_pos W⟩;simp! [id];dsimp! [id];refine ⟨by decide,?_⟩;refine u13 (post:=fun d G'=>d=.non /\ Grow G3 G') (fun R h=>⟨a1,(wcL W bs rs 0 pl fr).1,(wcL W bs rs 0 pl fr).2.2.1,rfl,ka1,wk0.ok,wk0.pr.pairs,fun G' z=>h _ _ ⟨rfl,z⟩⟩) ?_;rintro d G4 ⟨rfl,g4⟩;have A4:Adv st G G4:=A3.grow g4;have ka1:=g4.kp _ _ ka1;have ka2:=g4.kp _ _ ka2;have kq4:=g4.kp _ _ kq3;simp! [id];dsimp! [id];refine ⟨⟨by decide,by decide⟩,?_⟩;generalize hN:Go (dRet _ _)=N;refine u47 (fun r σ G'=>∃ (i cc:Nat) (v7 v8 v9:Option D),i+cc=4 /\ r=rngD (i:Int) cc /\ Adv st G4 G' /\ σ=[some (.ref st),some (.tup (bs.map .str)),some (.int (W:Int)),some (rowD (.cho c ys ns)),some (.ref q1),some (.int (fr:Int)),some (.tup [.ref a1,.ref a2,.int ((wcL W bs rs 0 pl fr).2.2.1:Int),.int ((wcL W bs rs 0 pl fr).2.2.2:Int)]),v7,v8,v9]) ⟨0,4,none,none,none,by omega,rfl,Adv.refl A4.at_,rfl⟩ ?_ ?_
  ·rintro σ G5 ⟨i,cc,v7,v8,v9,e,e2,A5,rfl⟩
   refine ⟨trivial,?_⟩;rw [<- hN];dsimp! [id];exact post G5 (A4.trans A5)
  ·rintro z r σ G5 ⟨i,cc,v7,v8,v9,e,e2,A5,rfl⟩ ih
   cases cc with
   | zero=>cases e2
   | succ cc =>
    rw [u28] at e2;cases e2;refine ⟨trivial,?_⟩;simp! [id];refine u13 (post:=fun d G'=>∃ (va:Addr) (vs:List Nat),d=.ref va /\ Adv st G5 G' /\ va ≠ st /\ G5 va=none /\ G' va=some (.lst (vs.map nD)) /\ StW W bs vs) (fun R h=>⟨st,W,bs,rfl,A5.at_,hW,h2,fun va vs G' y1 y2 y0 y3 y4=>h _ _ ⟨va,vs,rfl,y1,y2,y0,y3,y4⟩⟩) ?_;rintro d G6 ⟨va,vs,rfl,a6,nva,fva,kva,hs⟩;have A6:=A5.trans a6;generalize hFL:forL _ _ _ _ (rngD _ cc)=FL at ih ⊢;simp! [id];dsimp! [id];generalize hN2:Go (dSeq (dAsg (dCall (w60 T) _ _) _) _ _)=N2;have rest:∀ (vs:List Nat) (G7:Gp),StW W bs vs->G7 va=some (.lst (vs.map nD))->Adv st G4 G7->N2 [some (.ref st),some (.tup (bs.map .str)),some (.int (W:Int)),some (rowD (.cho c ys ns)),some (.ref q1),some (.int (fr:Int)),some (.tup [.ref a1,.ref a2,.int ((wcL W bs rs 0 pl fr).2.2.1:Int),.int ((wcL W bs rs 0 pl fr).2.2.2:Int)]),some (.int (i:Int)),some (.ref va),v9] G7:=by
     intro vs G7 hs kva A7;rw [<- hN2];dsimp! [id];have kq7:=A7.kp _ _ nq1 kq4;have kc1:=A7.kp _ _ m1 ka1;have kc2:=A7.kp _ _ m2 ka2;refine u13 (post:=fun d G'=>∃ (ba:Addr) (bx:List Int),d=.ref ba /\ Adv st G7 G' /\ ba ≠ st /\ G' ba=some (.lst (bx.map .int)) /\ BsOk fr bx /\ Held pl vs bx) (fun R h=>⟨st,q1,va,fr,pl,vs,rfl,A7.at_,nq1,nva,kq7,kva,hl.trans hs.1.symm,hnd,hlt,fun v hv=>by have:=hs.2 v hv;omega,hf,by omega,fun ba bx G' y1 y2 y3 y4 y5=>h _ _ ⟨ba,bx,rfl,y1,y2,y3,y4,y5⟩⟩) ?_;rintro d G8 ⟨ba,bx,rfl,a8,nba,kba,hbx,hheld⟩;have kva8:=a8.kp _ _ nva kva;simp! [id];dsimp! [id];refine ⟨by decide,fun p9 hp9=>?_⟩;rw [erow];have g9:Grow G8 (gup G8 p9 (.lst (u32 rs))):=Grow.refl.new hp9;refine u13 (post:=fun d G'=>∃ qd,d=.ref qd /\ G' qd=some (.lst ((doL W bs rs vs).map nD)) /\ Grow (gup G8 p9 (.lst (u32 rs))) G') (fun R h=>⟨p9,va,W,bs,vs,rs,rfl,u02,g9.kp _ _ kva8,hs,hn,h2,hW1,hW,hok,hntL,by omega,fun q G' y1 y2 y3=>h _ _ ⟨q,rfl,y2,y3⟩⟩) ?_;rintro d G10 ⟨qd,rfl,kqd,g10⟩;have g810:Grow G8 G10:=g9.trans g10;simp! [id];refine u13 (post:=fun d G'=>d=.bl true /\ Grow G10 G') (fun R h=>⟨a1,a2,ba,q1,qd,W,fr,bs,pl,vs,bx,rs,rfl,g810.kp _ _ (a8.kp _ _ m1 kc1),g810.kp _ _ (a8.kp _ _ m2 kc2),g810.kp _ _ kba,kqd,⟨hl,hs.1,hlt⟩,hs,hbx,hheld,hf,hok,hntL,by omega,h2,hW1,hW,fun G' z=>h _ _ ⟨rfl,z⟩⟩) ?_;rintro d G11 ⟨rfl,g11⟩;simp! [id];exact ih _ _ ⟨i+1,cc,_,_,_,by omega,by congr 1,(A7.trans a8).grow (g810.trans g11),rfl⟩
    refine u72 (fun z=>?_) (fun z=>rest vs G6 hs kva A6);have hix:∀ (G:Gp) (q:DK),xIx (rowD (.cho c ys ns)) (.int 1) G q=q (aD c) G:=fun G q=>by
     rw [show rowD (.cho c ys ns)=.tup [.str "choose",aD c,.tup (u32 ys),.tup (u32 ns)] by rw [rowD]];unfold xIx;dsimp only;rw [wp1]
    rw [hix];refine ⟨c,bs,rfl,rfl,?_⟩;have hpw:(1 * (2:Int) ^ W)=((2 ^ W:Nat):Int):=by rw [Int.one_mul];exact (Int.natCast_pow 2 W).symm
    cases c with
    | num k=>exact rest vs G6 hs kva A6
    | box w =>
     by_cases hw:w ∈ bs
     ·rw [show atIn bs (.box w)=true from decide_eq_true hw]
      dsimp only;rw [if_pos rfl,hpw];refine ⟨va0 (by omega) (by omega),?_⟩;refine u16 A6.at_ (by omega) (by omega) fun x9 G7 a7 d1 d2=>?_
      obtain ⟨x9,rfl⟩:=u79 d1;have kva7:=a7.kp _ _ nva kva;simp! [dTix];obtain ⟨i1,i2⟩:=vp2 hw;refine ⟨uf8 (by omega) (by omega),va0 (by omega) (by omega),by omega,bs,rfl,?_⟩;rw [hix];refine ⟨w,ixB bs w,rfl,i1,i2,?_⟩;have hk:ixB bs w < (vs.map nD).length:=by rw [List.length_map,hs.1];exact uw4 hw
      rw [kva7];dsimp only;rw [v73 hk];dsimp only;obtain ⟨v,hv,hv2⟩:∃ v:Nat,((i:Int) * (1+(x9:Int)) % ((2 ^ W:Nat):Int))=(v:Int) /\ v < 2 ^ W:=⟨i * (1+x9) % 2 ^ W,by rw [Int.natCast_emod,Int.natCast_mul,Int.natCast_add];rfl,Nat.mod_lt _ (by omega)⟩;rw [hv];refine rest (vs.set (ixB bs w) v) _ ⟨by rw [List.length_set];exact hs.1,fun u hu=>?_⟩ (by rw [u02,List.map_set];rfl) ((A6.trans a7).own (A5.none fva nva) kva7 nva)
      rcases List.mem_or_eq_of_mem_set hu with h | h
      ·exact hs.2 u h
      ·rw [h];exact hv2
     ·rw [show atIn bs (.box w)=false from decide_eq_false hw]
      exact rest vs G6 hs kva A6
theorem we9 {n:Nat} (G_jbe:Ok P w mg base n T.f_jbe (uc7 T)) (G_jbh:Ok P w mg base n T.f_jbh (wr2 T)) (G_jbd:Ok P w mg base n T.f_jbd (wr4 T)) (G_jbp:Ok P w mg base n T.f_jbp (wq8 T)):Ok P w mg base (n+1) T.f_law (wp5 T):=by
 refine u12 T.f_law sc_law (fun ds G R h=>?_) (fun cdv A outer s H E hr =>
   (u01 (u21 1 sc_law.nd (u46 (u00 (ev 0) (u00 u05 (u00 u05 u03)))))
   (u01 (u21 2 sc_law.nd (u14 u49 u05 (ec T.f_jbe T.g_law_draw G_jbe hr (u00 (ev 1) (u00 u05 u03)))))
   (u01 (u21 3 sc_law.nd (ec T.f_jbh T.g_law_names G_jbh hr (u00 (ev 1) (u00 (u14 u49 u05 (ec T.f_jbe T.g_law_draw G_jbe hr (u00 (ev 1) (u00 u05 u03)))) u03))))
   (u01 (ub5 (u88 rfl T.b_range (u00 u05 u03)) (u20 4 sc_law.nd) (u07 (s_if (vd3 (uc5 (ec T.f_jbp T.g_law_right G_jbp hr (u00 (ev 1) (u00 (ev 3) (u00 (ev 2) (u00 (ec T.f_jbd T.g_law_choose G_jbd hr (u00 (ev 1) (u00 (ev 3) (u00 (ev 2) u03)))) u03))))))) (u07 (u15 e_bl)) u23)))
   (u07 (u15 e_bl))))))) (fun ds G R h=>?_)
 ·obtain ⟨a,ns,rfl,_⟩:=h;rfl
 ·obtain ⟨a,ns,rfl,ha,hns,post⟩:=h
  simp! [id];refine ⟨by decide,fun st hst=>?_⟩;have hast:a ≠ st:=gne ha hst;have S0:StAt (gup G st (.lst [.ref a,.int 0,.int 0])) st:=⟨a,ns,0,0,u02,by rw [u06 hast];exact ha,by omega,by omega,hast,hns⟩;dsimp! [id];refine u16 S0 (by decide) (by decide) fun x1 G1 a1 b1 b2=>?_
  obtain ⟨x1,rfl⟩:=u79 b1;obtain ⟨W,hW,w1,w2⟩:∃ W:Nat,1+(x1:Int)=(W:Int) /\ 1<=W /\ W<=16:=⟨1+x1,by omega,by omega,by omega⟩;simp! [hW];dsimp! [id];refine u16 a1.at_ (by decide) (by decide) fun x2 G2 a2 c1 c2=>?_
  obtain ⟨x2,rfl⟩:=u79 c1;obtain ⟨m,hm,m1,m2⟩:∃ m:Nat,1+(x2:Int)=(m:Int) /\ 1<=m /\ m<=6:=⟨1+x2,by omega,by omega,by omega⟩;simp! [hm];refine u13 (post:=fun d G'=>∃ bs:List Str,d=.tup (bs.map .str) /\ bs.length=m /\ (∀ b ∈ bs,b.length<=20) /\ bs.Nodup /\ Adv st G2 G') (fun R h=>⟨st,m,rfl,a2.at_,m1,m2,fun bs G' y1 y2 y3 y4=>h _ _ ⟨bs,rfl,y1,y2,y3,y4⟩⟩) ?_;rintro d G3 ⟨bs,rfl,hl,hbl,hn,a3⟩;simp! [id];dsimp! [id];refine ⟨⟨by decide,by decide⟩,?_⟩;refine u47 (fun r σ G'=>∃ (i c:Nat) (v:Option D),i+c=3 /\ r=rngD (i:Int) c /\ StAt G' st /\ σ=[some (.ref a),some (.ref st),some (.int (W:Int)),some (.tup (bs.map .str)),v]) ⟨0,3,none,by omega,rfl,a3.at_,rfl⟩ ?_ ?_
  ·rintro σ G5 ⟨i,c,v,e,e2,S5,rfl⟩
   refine ⟨trivial,?_⟩;dsimp! [id];exact post G5
  ·rintro z r σ G5 ⟨i,c,v,e,e2,S5,rfl⟩ ih
   cases c with
   | zero=>cases e2
   | succ c =>
    rw [u28] at e2;cases e2;refine ⟨trivial,?_⟩;simp! [id];refine u13 (post:=fun d G'=>∃ (k:Atm) (ys zs:List Rowp),d=rowD (.cho k ys zs) /\ okR W bs (.cho k ys zs) /\ ntR (.cho k ys zs) /\ szR (.cho k ys zs)<=17 /\ depR (.cho k ys zs)<=2 /\ Adv st G5 G') (fun R h=>⟨st,W,bs,rfl,S5,w2,by omega,by omega,fun k ys zs G' y1 y2 y3 y4 y5=>h _ _ ⟨k,ys,zs,rfl,y1,y2,y3,y4,y5⟩⟩) ?_;rintro d G6 ⟨k,ys,zs,rfl,o1,o2,o3,o4,a6⟩;simp! [id];refine u13 (post:=fun d G'=>d=.bl true /\ Adv st G6 G') (fun R h=>⟨st,W,bs,k,ys,zs,rfl,a6.at_,w1,w2,by omega,by omega,hn,o1,o2,o3,o4,fun G' y=>h _ _ ⟨rfl,y⟩⟩) ?_;rintro d G7 ⟨rfl,a7⟩;simp! [id];exact ih _ _ ⟨i+1,c,_,by omega,by congr 1,a7.at_,rfl⟩
end
end Law
namespace Law
open PySem PySem.Spec PyProof.Rows L2 L3
def noL:W.Frag->Bool
 | []=>true
 | p::r=>(match p.2.data with | .seq _ _=>(match p.2.cls with | .type s=>!(s == "list") | _=>true) | _=>true) && noL r
theorem vo8:∀ {K:W.Frag} {a:Addr} {o:Obj} {its:Array Value} {n:Nat},noL K=true->K.lookup a=some o->o.cls=.type "list" -> o.data=.seq its n->False
 | [],a,o,its,n,_,e,_,_=>by cases e
 | p::r,a,o,its,n,h,e,h1,h2=>by
  unfold noL at h;rw [Bool.and_eq_true] at h;rw [List.lookup_cons] at e;split at e
  ·cases e
   have q:=h.1;rw [h2] at q;simp only [h1] at q;exact absurd q (by decide)
  ·exact vo8 h.2 e h1 h2
theorem arZ {P:List Value->Prop} (h:P []):∀ us:List Value,us.length=0->P us:=fun us e=>by rw [List.eq_nil_of_length_eq_zero e];exact h
theorem arS {n:Nat} {P:List Value->Prop} (h:∀ (a:Value) (us:List Value),us.length=n->P (a::us)):∀ us:List Value,us.length=n+1->P us:=fun us e=>by
 cases us with
 | nil=>cases e
 | cons a us=>exact h a us (Nat.succ.inj e)
theorem ar1 {P:List Value->Prop} (h:∀ a0,P [a0]):∀ us:List Value,us.length=1->P us:=arS fun a0=>arZ (h a0)
theorem ar2 {P:List Value->Prop} (h:∀ a0 a1,P [a0,a1]):∀ us:List Value,us.length=2->P us:=arS fun a0=>arS fun a1=>arZ (h a0 a1)
theorem ar3 {P:List Value->Prop} (h:∀ a0 a1 a2,P [a0,a1,a2]):∀ us:List Value,us.length=3->P us:=arS fun a0=>arS fun a1=>arS fun a2=>arZ (h a0 a1 a2)
theorem ar4 {P:List Value->Prop} (h:∀ a0 a1 a2 a3,P [a0,a1,a2,a3]):∀ us:List Value,us.length=4->P us:=arS fun a0=>arS fun a1=>arS fun a2=>arS fun a3=>arZ (h a0 a1 a2 a3)
theorem ar5 {P:List Value->Prop} (h:∀ a0 a1 a2 a3 a4,P [a0,a1,a2,a3,a4]):∀ us:List Value,us.length=5->P us:=arS fun a0=>arS fun a1=>arS fun a2=>arS fun a3=>arS fun a4=>arZ (h a0 a1 a2 a3 a4)
def v81 {K:W.Frag} {x qual:Str} {st:Stmt} {ps:List Str} {f:Addr} {oc:Value} {od an:Option Addr} {osl:Array (Option Value)} {kV doc pm cdv ct:Value} (l:K.lookup f=some ⟨oc,od,.func (W.fnOf x qual (u61 st) (u53 st) (u04 st) .none kV doc pm an cdv ct),osl⟩)
  (c:W.codeIn K cdv qual=true) (k:W.keepIn K (.ref f)=true) (hb:∀ us:List Value,us.length=ps.length->bindArgs (W.fnOf x qual (u61 st) (u53 st) (u04 st) .none kV doc pm an cdv ct) ⟨us,[]⟩=pure (ps.zip us)):FnAt K x qual st ps :=
 ⟨f,_,⟨oc,od,.none,kV,doc,pm,an,cdv,ct,osl,rfl,l,c⟩,k,.all hb⟩
def DF (K:W.Frag) (x:Str) (st:Stmt):Prop:=∃ (p:Addr) (oc:Value) (od an:Option Addr) (sl:Array (Option Value)) (kV dc pm cd ct:Value),W.nsIn K mainGlobals x=some (some (.ref p)) /\ K.lookup p=some ⟨oc,od,.func (W.fnOf x x (u61 st) (u53 st) (u04 st) .none kV dc pm an cd ct),sl⟩ /\ W.codeIn K cd x=true /\ W.keepIn K (.ref p)=true
def DM (K:W.Frag) (C:Addr) (x q:Str) (st:Stmt):Prop:=∃ (p:Addr) (oc:Value) (od an:Option Addr) (sl:Array (Option Value)) (kV dc pm cd ct:Value),W.findIn K (.ref C) x=some (some (.ref p)) /\ W.isFn K (.ref p)=true /\ K.lookup p=some ⟨oc,od,.func (W.fnOf x q (u61 st) (u53 st) (u04 st) .none kV dc pm an cd ct),sl⟩ /\ W.codeIn K cd q=true /\ W.keepIn K (.ref p)=true
section
variable {K:W.Frag} {h:Heap} {mg:Str->Option Value} {C:Addr} {x q:Str} {st:Stmt} {ps:List Str}
theorem df_m {p:Addr} {oc:Value} {od an:Option Addr} {sl:Array (Option Value)} {kV dc pm cd ct:Value} (a:W.nsIn K mainGlobals x=some (some (.ref p))) (l:K.lookup p=some ⟨oc,od,.func (W.fnOf x x (u61 st) (u53 st) (u04 st) .none kV dc pm an cd ct),sl⟩) (c:W.codeIn K cd x=true) (k:W.keepIn K (.ref p)=true):DF K x st:=⟨p,oc,od,an,sl,kV,dc,pm,cd,ct,a,l,c,k⟩
theorem dm_m {p:Addr} {oc:Value} {od an:Option Addr} {sl:Array (Option Value)} {kV dc pm cd ct:Value} (a:W.findIn K (.ref C) x=some (some (.ref p))) (i:W.isFn K (.ref p)=true) (l:K.lookup p=some ⟨oc,od,.func (W.fnOf x q (u61 st) (u53 st) (u04 st) .none kV dc pm an cd ct),sl⟩) (c:W.codeIn K cd q=true) (k:W.keepIn K (.ref p)=true):DM K C x q st:=⟨p,oc,od,an,sl,kV,dc,pm,cd,ct,a,i,l,c,k⟩
theorem df_f {N:List Str} (_:FnScope N ps (u04 st)) (X:K.In h) (G:h.Ns mainGlobals mg) (hb:∀ kV dc pm an cd ct,∀ us:List Value,us.length=ps.length->bindArgs (W.fnOf x x (u61 st) (u53 st) (u04 st) .none kV dc pm an cd ct) ⟨us,[]⟩=pure (ps.zip us)) (d:DF K x st) :
  ∃ f:FnAt K x x st ps,mg x=some (.ref f.a) /\ ∀ (s:Shared) (us:List Value),us.length=ps.length->BindsTo s f.fd ⟨us,[]⟩ (ps.zip us):=by
 obtain ⟨p,oc,od,an,sl,kV,dc,pm,cd,ct,a,l,c,k⟩:=d;exact ⟨v81 l c k (hb kV dc pm an cd ct),W.mg_of X G a,fun s us e=>.of_eq (hb kV dc pm an cd ct us e)⟩
theorem dm_f {N:List Str} (_:FnScope N ps (u04 st)) (hb:∀ kV dc pm an cd ct,∀ us:List Value,us.length=ps.length->bindArgs (W.fnOf x q (u61 st) (u53 st) (u04 st) .none kV dc pm an cd ct) ⟨us,[]⟩=pure (ps.zip us)) (d:DM K C x q st) :
  ∃ f:FnAt K x q st ps,W.findIn K (.ref C) x=some (some (.ref f.a)) /\ W.isFn K (.ref f.a)=true:=by
 obtain ⟨p,oc,od,an,sl,kV,dc,pm,cd,ct,a,i,l,c,k⟩:=d;exact ⟨v81 l c k (hb kV dc pm an cd ct),a,i⟩
end
def vm1:Sp3:=fun ds G R=>∃ (a:Addr) (ns:List Int),ds=[.ref a] /\ G a=some (.fro (ns.map .int)) /\ ns.length<=63 /\ ∀ G',R (.bl true) G'
theorem uu9 {K:W.Frag} {H:Hp}:∀ ns:List Int,RelDs K H (ns.map D.int) (ns.map V.int)
 | []=>.nil
 | _::ns=>.cons RelD.intI (uu9 ns)
theorem wl5 {K:W.Frag} {H:Hp} {a:Addr} {ns:List Int} (hL:noL K=true) (hl:ns.length<=63) (hO:Only H) (hS:SqL K H a (ns.map V.int)):u93 K vm1 [.ref a] H (fun v _=>v=.bl true) fun _ _ _=>False:=by
 have ha:∃ o,H a=some (.frz o (.lst (ns.map V.int))):=by
  rcases hS with (h | h) | ⟨o,its,n,h1,h2,_,h3,_⟩
  ·rcases hO a with z | ⟨o,xs,z⟩
   ·rw [h] at z;cases z
   ·rw [h] at z;cases z
  ·exact h
  ·exact (vo8 hL h1 h2 h3).elim
 obtain ⟨o,ha⟩:=ha;refine ⟨[.ref a],gup (fun _=>none) a (.fro (ns.map .int)),fun d _=>d=.bl true,.cons ?_ .nil,fun b u e=>?_,⟨a,ns,rfl,u02,hl,fun _=>rfl⟩,fun d G' v H' r _ _ e=>?_⟩
 ·rw [RelD]
 ·by_cases hb:b=a
  ·subst hb
   rw [u02] at e;cases e;exact ⟨o,_,ha,uu9 ns⟩
  ·rw [u06 hb] at e;cases e
 ·subst e
  rw [RelD] at r;exact r
end Law
namespace Law
open PySem PySem.Spec PyProof.Rows L2 L3 Rw
theorem txt_mk {K:W.Frag} {h:Heap} {mg:Str->Option Value} (X:K.In h) (G:h.Ns mainGlobals mg) {C_Loom:Addr} {C_Ride:Addr} 
  {p_8:Addr} {od_8 an_8:Option Addr} {sl_8:Array (Option Value)} {oc_8 kV_8 dc_8 pm_8 cd_8 ct_8:Value}
  {td_Ride_init:Addr} {to_Ride_init:Obj} {tn_Ride_init:Nat} {tt_Ride_init:Tok}
  {t_BELOW_NOUGHT:Tok}
  {t_NUMBERS:Tok}
  {t_BITS:Tok}
  (aC_Loom:W.nsIn K mainGlobals "Loom" = some (some (.ref C_Loom)))
  (aC_Ride:W.nsIn K mainGlobals "Ride" = some (some (.ref C_Ride)))
  (pm_1:DM K C_Loom "__init__" "Loom.__init__" vx2)
  (pm_0:DM K C_Loom "fresh_box" "Loom.fresh_box" vx3)
  (pm_2:DM K C_Loom "put" "Loom.put" vx1)
  (pm_3:DM K C_Loom "put_by_choice" "Loom.put_by_choice" vx0)
  (pm_4:DM K C_Loom "put_unless" "Loom.put_unless" vw9)
  (pm_52:DF K "weave" vd4)
  (pm_54:DF K "weave_rows" vt4)
  (pm_53:DF K "weave_choose" uy3)
  (pm_45:DF K "place_of" vu1)
  (pm_55:DF K "weave_sign" vt3)
  (pm_49:DF K "total" vt7)
  (pm_19:DF K "difference" vv8)
  (pm_20:DF K "gap" vx4)
  (pm_14:DF K "bits_of_both" ve1)
  (pm_13:DF K "bits_of_any" vw2)
  (pm_15:DF K "bits_of_one" vw1)
  (pm_48:DF K "sum_without_both" vt8)
  (pm_47:DF K "smaller" vt9)
  (pm_11:DF K "alike" vw3)
  (pm_50:DF K "truth" vt6)
  (pm_18:DF K "check_code" vv9)
  (pm_16:DF K "boxes_read" ve0)
  (pm_12:DF K "bits_of" ve2)
  (pm_43:DF K "numbers_of" vu3)
  (pm_24:DF K "is_within" uy4)
  (pm_23:DF K "is_apart" vv5)
  (pm_21:DF K "has_fellow" vv7)
  (a_8:W.findIn K (.ref C_Ride) "__init__" = some (some (.ref p_8)))
  (i_8:W.isFn K (.ref p_8)=true)
  (l_8:K.lookup p_8=some ⟨oc_8,od_8,.func (W.fnOf "__init__" "Ride.__init__" (u61 uy5) (u53 uy5) (u04 uy5) (.ref td_Ride_init) kV_8 dc_8 pm_8 an_8 cd_8 ct_8),sl_8⟩)
  (c_8:W.codeIn K cd_8 "Ride.__init__" = true)
  (k_8:W.keepIn K (.ref p_8)=true)
  (dl_Ride_init:K.lookup td_Ride_init=some to_Ride_init)
  (ds_Ride_init:to_Ride_init.data=.seq #[.int 0 tt_Ride_init] tn_Ride_init)
  (pm_10:DM K C_Ride "place" "Ride.place" vw4)
  (pm_6:DM K C_Ride "boxes" "Ride.boxes" vw7)
  (pm_7:DM K C_Ride "forth" "Ride.forth" vw6)
  (pm_5:DM K C_Ride "at_end" "Ride.at_end" vw8)
  (pm_9:DM K C_Ride "may_forth" "Ride.may_forth" vw5)
  (pm_22:DF K "holds" vv6)
  (pm_17:DF K "change" vw0)
  (pm_44:DF K "operand_value" vu2)
  (pm_51:DF K "turn_bit" vt5)
  (pm_46:DF K "run_forth" vu0)
  (pm_56:DF K "word_of" vt2)
  (pm_31:DF K "_law_draw" vv1)
  (pm_33:DF K "_law_names" v32)
  (pm_34:DF K "_law_number" vu9)
  (pm_26:DF K "_law_atom" vv4)
  (pm_36:DF K "_law_piece" vu7)
  (pm_42:DF K "_law_weight" vu4)
  (pm_37:DF K "_law_pieces" vu6)
  (pm_38:DF K "_law_places" vd7)
  (pm_28:DF K "_law_big" vv3)
  (pm_29:DF K "_law_boxes" vd8)
  (pm_41:DF K "_law_values" vd5)
  (pm_35:DF K "_law_op" vu8)
  (pm_32:DF K "_law_go" vv0)
  (pm_27:DF K "_law_behind" vd9)
  (pm_40:DF K "_law_run" vd6)
  (pm_30:DF K "_law_choose" vv2)
  (pm_39:DF K "_law_right" vu5)
  (pm_25:DF K "law" vt1)
  (pg_Loom:W.plainGet K C_Loom Str.empty=true)
  (hd_Loom:W.hasDictIn K C_Loom=true)
  (po_Loom:W.plainOver K C_Loom=true)
  (sa_Loom:W.findIn K (.ref C_Loom) "__setattr__" = some (some (.builtin "object.__setattr__")))
  (mk_Loom:W.makesIn K C_Loom=true)
  (kc_Loom:W.keepIn K (.ref C_Loom)=true)
  (n_Loom_wide:W.findIn K (.ref C_Loom) "wide" = some none)
  (n_Loom_fresh:W.findIn K (.ref C_Loom) "fresh" = some none)
  (n_Loom_rows:W.findIn K (.ref C_Loom) "rows" = some none)
  (n_Loom_steps:W.findIn K (.ref C_Loom) "steps" = some none)
  (pg_Ride:W.plainGet K C_Ride Str.empty=true)
  (hd_Ride:W.hasDictIn K C_Ride=true)
  (po_Ride:W.plainOver K C_Ride=true)
  (sa_Ride:W.findIn K (.ref C_Ride) "__setattr__" = some (some (.builtin "object.__setattr__")))
  (mk_Ride:W.makesIn K C_Ride=true)
  (kc_Ride:W.keepIn K (.ref C_Ride)=true)
  (n_Ride_rows:W.findIn K (.ref C_Ride) "rows" = some none)
  (n_Ride_held:W.findIn K (.ref C_Ride) "held" = some none)
  (n_Ride_spot:W.findIn K (.ref C_Ride) "spot" = some none)
  (v_BELOW_NOUGHT:W.nsIn K mainGlobals "BELOW_NOUGHT" = some (some (.int 31 t_BELOW_NOUGHT)))
  (v_NUMBERS:W.nsIn K mainGlobals "NUMBERS" = some (some (.int 4294967296 t_NUMBERS)))
  (v_BITS:W.nsIn K mainGlobals "BITS" = some (some (.int 32 t_BITS)))
  (b_abs:W.nsIn K mainGlobals "abs" = some none)
  (b_all:W.nsIn K mainGlobals "all" = some none)
  (b_dict:W.nsIn K mainGlobals "dict" = some none)
  (b_divmod:W.nsIn K mainGlobals "divmod" = some none)
  (b_enumerate:W.nsIn K mainGlobals "enumerate" = some none)
  (b_int:W.nsIn K mainGlobals "int" = some none)
  (b_isinstance:W.nsIn K mainGlobals "isinstance" = some none)
  (b_len:W.nsIn K mainGlobals "len" = some none)
  (b_list:W.nsIn K mainGlobals "list" = some none)
  (b_min:W.nsIn K mainGlobals "min" = some none)
  (b_range:W.nsIn K mainGlobals "range" = some none)
  (b_str:W.nsIn K mainGlobals "str" = some none)
  (b_tuple:W.nsIn K mainGlobals "tuple" = some none)
  (b_zip:W.nsIn K mainGlobals "zip" = some none) :
  ∃ T:Txt K mg,∀ (s:Shared) (v:Value),BindsTo s T.f_law.fd ⟨[v],[]⟩ [("_law_script",v)]:=by
 obtain ⟨f_jab,a_1,i_1⟩:=dm_f vo3 (fun _ _ _ _ _ _=>ar3 fun _ _ _=>rfl) pm_1;obtain ⟨f_jaa,a_0,i_0⟩:=dm_f vo4 (fun _ _ _ _ _ _=>ar1 fun _=>rfl) pm_0;obtain ⟨f_jac,a_2,i_2⟩:=dm_f vo2 (fun _ _ _ _ _ _=>ar2 fun _ _=>rfl) pm_2;obtain ⟨f_jad,a_3,i_3⟩:=dm_f vo1 (fun _ _ _ _ _ _=>ar4 fun _ _ _ _=>rfl) pm_3;obtain ⟨f_jae,a_4,i_4⟩:=dm_f sc_jae (fun _ _ _ _ _ _=>ar4 fun _ _ _ _=>rfl) pm_4;obtain ⟨f_jcf,g_weave,_⟩:=df_f sc_jcf X G (fun _ _ _ _ _ _=>ar5 fun _ _ _ _ _=>rfl) pm_52;obtain ⟨f_jci,g_weave_rows,_⟩:=df_f sc_jci X G (fun _ _ _ _ _ _=>ar3 fun _ _ _=>rfl) pm_54;obtain ⟨f_jcg,g_weave_choose,_⟩:=df_f sc_jcg X G (fun _ _ _ _ _ _=>ar3 fun _ _ _=>rfl) pm_53;obtain ⟨f_jbw,g_place_of,_⟩:=df_f sc_jbw X G (fun _ _ _ _ _ _=>ar3 fun _ _ _=>rfl) pm_45;obtain ⟨f_jck,g_weave_sign,_⟩:=df_f vm5 X G (fun _ _ _ _ _ _=>ar4 fun _ _ _ _=>rfl) pm_55;obtain ⟨f_jcc,g_total,_⟩:=df_f sc_jcc X G (fun _ _ _ _ _ _=>ar3 fun _ _ _=>rfl) pm_49;obtain ⟨f_jat,g_difference,_⟩:=df_f sc_jat X G (fun _ _ _ _ _ _=>ar3 fun _ _ _=>rfl) pm_19;obtain ⟨f_gap,g_gap,_⟩:=df_f sc_gap X G (fun _ _ _ _ _ _=>ar3 fun _ _ _=>rfl) pm_20;obtain ⟨f_jao,g_bits_of_both,_⟩:=df_f sc_jao X G (fun _ _ _ _ _ _=>ar3 fun _ _ _=>rfl) pm_14;obtain ⟨f_jan,g_bits_of_any,_⟩:=df_f vn6 X G (fun _ _ _ _ _ _=>ar3 fun _ _ _=>rfl) pm_13;obtain ⟨f_jap,g_bits_of_one,_⟩:=df_f vn5 X G (fun _ _ _ _ _ _=>ar3 fun _ _ _=>rfl) pm_15;obtain ⟨f_jcb,g_sum_without_both,_⟩:=df_f sc_jcb X G (fun _ _ _ _ _ _=>ar4 fun _ _ _ _=>rfl) pm_48;obtain ⟨f_jca,g_smaller,_⟩:=df_f sc_jca X G (fun _ _ _ _ _ _=>ar3 fun _ _ _=>rfl) pm_47;obtain ⟨f_jal,g_alike,_⟩:=df_f sc_jal X G (fun _ _ _ _ _ _=>ar3 fun _ _ _=>rfl) pm_11;obtain ⟨f_jcd,g_truth,_⟩:=df_f sc_jcd X G (fun _ _ _ _ _ _=>ar2 fun _ _=>rfl) pm_50;obtain ⟨f_jas,g_check_code,_⟩:=df_f sc_jas X G (fun _ _ _ _ _ _=>ar1 fun _=>rfl) pm_18;obtain ⟨f_jaq,g_boxes_read,_⟩:=df_f vn4 X G (fun _ _ _ _ _ _=>ar1 fun _=>rfl) pm_16;obtain ⟨f_jam,g_bits_of,_⟩:=df_f vn7 X G (fun _ _ _ _ _ _=>ar1 fun _=>rfl) pm_12;obtain ⟨f_jbu,g_numbers_of,_⟩:=df_f vm7 X G (fun _ _ _ _ _ _=>ar1 fun _=>rfl) pm_43;obtain ⟨f_jay,g_is_within,_⟩:=df_f vn1 X G (fun _ _ _ _ _ _=>ar2 fun _ _=>rfl) pm_24;obtain ⟨f_jax,g_is_apart,_⟩:=df_f vn2 X G (fun _ _ _ _ _ _=>ar1 fun _=>rfl) pm_23;obtain ⟨f_jav,g_has_fellow,_⟩:=df_f sc_jav X G (fun _ _ _ _ _ _=>ar3 fun _ _ _=>rfl) pm_21
 let f_jai:FnAt K "__init__" "Ride.__init__" uy5 ["self", "code", "boxes", "place"]:=⟨p_8,_,⟨_,_,_,_,_,_,_,_,_,_,rfl,l_8,c_8⟩,k_8,fun s us hX hl=>match us,hl with | [_,_,_,_],_=>W.binds_K hX rfl dl_Ride_init ds_Ride_init rfl rfl⟩
 obtain ⟨f_jak,a_10,i_10⟩:=dm_f vn8 (fun _ _ _ _ _ _=>ar1 fun _=>rfl) pm_10;obtain ⟨f_jag,a_6,i_6⟩:=dm_f vn9 (fun _ _ _ _ _ _=>ar1 fun _=>rfl) pm_6;obtain ⟨f_jah,a_7,i_7⟩:=dm_f sc_jah (fun _ _ _ _ _ _=>ar1 fun _=>rfl) pm_7;obtain ⟨f_jaf,a_5,i_5⟩:=dm_f vo0 (fun _ _ _ _ _ _=>ar1 fun _=>rfl) pm_5;obtain ⟨f_jaj,a_9,i_9⟩:=dm_f sc_jaj (fun _ _ _ _ _ _=>ar1 fun _=>rfl) pm_9;obtain ⟨f_jaw,g_holds,_⟩:=df_f vn3 X G (fun _ _ _ _ _ _=>ar2 fun _ _=>rfl) pm_22;obtain ⟨f_jar,g_change,_⟩:=df_f sc_jar X G (fun _ _ _ _ _ _=>ar3 fun _ _ _=>rfl) pm_17;obtain ⟨f_jbv,g_operand_value,_⟩:=df_f vm6 X G (fun _ _ _ _ _ _=>ar2 fun _ _=>rfl) pm_44;obtain ⟨f_jce,g_turn_bit,_⟩:=df_f sc_jce X G (fun _ _ _ _ _ _=>ar2 fun _ _=>rfl) pm_51;obtain ⟨f_jbz,g_run_forth,_⟩:=df_f sc_jbz X G (fun _ _ _ _ _ _=>ar3 fun _ _ _=>rfl) pm_46;obtain ⟨f_jcl,g_word_of,_⟩:=df_f vm4 X G (fun _ _ _ _ _ _=>ar3 fun _ _ _=>rfl) pm_56;obtain ⟨f_jbe,g_law_draw,_⟩:=df_f sc_jbe X G (fun _ _ _ _ _ _=>ar2 fun _ _=>rfl) pm_31;obtain ⟨f_jbh,g_law_names,_⟩:=df_f sc_jbh X G (fun _ _ _ _ _ _=>ar2 fun _ _=>rfl) pm_33;obtain ⟨f_jbi,g_law_number,_⟩:=df_f sc_jbi X G (fun _ _ _ _ _ _=>ar2 fun _ _=>rfl) pm_34;obtain ⟨f_jaz,g_law_atom,_⟩:=df_f vn0 X G (fun _ _ _ _ _ _=>ar3 fun _ _ _=>rfl) pm_26;obtain ⟨f_jbk,g_law_piece,_⟩:=df_f sc_jbk X G (fun _ _ _ _ _ _=>ar5 fun _ _ _ _ _=>rfl) pm_36;obtain ⟨f_jbs,g_law_weight,_⟩:=df_f sc_jbs X G (fun _ _ _ _ _ _=>ar1 fun _=>rfl) pm_42;obtain ⟨f_jbm,g_law_pieces,_⟩:=df_f sc_jbm X G (fun _ _ _ _ _ _=>ar5 fun _ _ _ _ _=>rfl) pm_37;obtain ⟨f_jbo,g_law_places,_⟩:=df_f sc_jbo X G (fun _ _ _ _ _ _=>ar2 fun _ _=>rfl) pm_38;obtain ⟨f_jbb,g_law_big,_⟩:=df_f vm9 X G (fun _ _ _ _ _ _=>ar1 fun _=>rfl) pm_28;obtain ⟨f_jbc,g_law_boxes,_⟩:=df_f sc_jbc X G (fun _ _ _ _ _ _=>ar4 fun _ _ _ _=>rfl) pm_29;obtain ⟨f_jbr,g_law_values,_⟩:=df_f vm8 X G (fun _ _ _ _ _ _=>ar3 fun _ _ _=>rfl) pm_41;obtain ⟨f_jbj,g_law_op,_⟩:=df_f sc_jbj X G (fun _ _ _ _ _ _=>ar4 fun _ _ _ _=>rfl) pm_35;obtain ⟨f_jbf,g_law_go,_⟩:=df_f sc_jbf X G (fun _ _ _ _ _ _=>ar3 fun _ _ _=>rfl) pm_32;obtain ⟨f_jba,g_law_behind,_⟩:=df_f sc_jba X G (fun _ _ _ _ _ _=>ar4 fun _ _ _ _=>rfl) pm_27;obtain ⟨f_jbq,g_law_run,_⟩:=df_f sc_jbq X G (fun _ _ _ _ _ _=>ar5 fun _ _ _ _ _=>rfl) pm_40;obtain ⟨f_jbd,g_law_choose,_⟩:=df_f sc_jbd X G (fun _ _ _ _ _ _=>ar3 fun _ _ _=>rfl) pm_30;obtain ⟨f_jbp,g_law_right,_⟩:=df_f sc_jbp X G (fun _ _ _ _ _ _=>ar4 fun _ _ _ _=>rfl) pm_39;obtain ⟨f_law,g_law,b_law⟩:=df_f sc_law X G (fun _ _ _ _ _ _=>ar1 fun _=>rfl) pm_25;exact ⟨⟨f_jab,f_jaa,f_jac,f_jad,f_jae,f_jcf,g_weave,f_jci,g_weave_rows,f_jcg,g_weave_choose,f_jbw,g_place_of,f_jck,g_weave_sign,f_jcc,g_total,f_jat,g_difference,f_gap,g_gap,f_jao,g_bits_of_both,f_jan,g_bits_of_any,f_jap,g_bits_of_one,f_jcb,g_sum_without_both,f_jca,g_smaller,f_jal,g_alike,f_jcd,g_truth,f_jas,g_check_code,f_jaq,g_boxes_read,f_jam,g_bits_of,f_jbu,g_numbers_of,f_jay,g_is_within,f_jax,g_is_apart,f_jav,g_has_fellow,f_jai,f_jak,f_jag,f_jah,f_jaf,f_jaj,f_jaw,g_holds,f_jar,g_change,f_jbv,g_operand_value,f_jce,g_turn_bit,f_jbz,g_run_forth,f_jcl,g_word_of,f_jbe,g_law_draw,f_jbh,g_law_names,f_jbi,g_law_number,f_jaz,g_law_atom,f_jbk,g_law_piece,f_jbs,g_law_weight,f_jbm,g_law_pieces,f_jbo,g_law_places,f_jbb,g_law_big,f_jbc,g_law_boxes,f_jbr,g_law_values,f_jbj,g_law_op,f_jbf,g_law_go,f_jba,g_law_behind,f_jbq,g_law_run,f_jbd,g_law_choose,f_jbp,g_law_right,f_law,g_law,⟨C_Loom,⟨pg_Loom,hd_Loom,po_Loom,sa_Loom⟩,W.mg_of X G aC_Loom,n_Loom_wide,n_Loom_fresh,n_Loom_rows,n_Loom_steps⟩,⟨C_Ride,⟨pg_Ride,hd_Ride,po_Ride,sa_Ride⟩,W.mg_of X G aC_Ride,n_Ride_rows,n_Ride_held,n_Ride_spot⟩,⟨mk_Loom,a_1,i_1,kc_Loom⟩,⟨a_0,i_0,f_jaa.kp⟩,⟨a_2,i_2,f_jac.kp⟩,⟨a_3,i_3,f_jad.kp⟩,⟨a_4,i_4,f_jae.kp⟩,⟨mk_Ride,a_8,i_8,kc_Ride⟩,⟨tt_Ride_init,fun s us hX hl=>(fun (hl2:us.length=3)=>match us,hl2 with | [_,_,_],_=>W.binds_K hX rfl dl_Ride_init ds_Ride_init rfl rfl) (by simpa using hl)⟩,⟨a_10,i_10,f_jak.kp⟩,⟨a_6,i_6,f_jag.kp⟩,⟨a_7,i_7,f_jah.kp⟩,⟨a_5,i_5,f_jaf.kp⟩,⟨a_9,i_9,f_jaj.kp⟩,⟨t_BELOW_NOUGHT,W.mg_of X G v_BELOW_NOUGHT⟩,⟨t_NUMBERS,W.mg_of X G v_NUMBERS⟩,⟨t_BITS,W.mg_of X G v_BITS⟩,W.mg_none_of X G b_abs,W.mg_none_of X G b_all,W.mg_none_of X G b_dict,W.mg_none_of X G b_divmod,W.mg_none_of X G b_enumerate,W.mg_none_of X G b_int,W.mg_none_of X G b_isinstance,W.mg_none_of X G b_len,W.mg_none_of X G b_list,W.mg_none_of X G b_min,W.mg_none_of X G b_range,W.mg_none_of X G b_str,W.mg_none_of X G b_tuple,W.mg_none_of X G b_zip⟩,fun s v=>b_law s [v] rfl⟩
theorem wp3 {P:Program} {w:World} {K:W.Frag} {mg:Str->Option Value} {base:Heap} (T:Txt K mg):Ok P w mg base 26 T.f_law (wp5 T):=by
 have H_jbe:=@wh7 P w K mg base T 0;have H_jbh:=@wh5 P w K mg base T 1 (FnOk.mono H_jbe (by decide));have H_jbi:=@wh4 P w K mg base T 1 (FnOk.mono H_jbe (by decide));have H_jaz:=@wi2 P w K mg base T 2 (FnOk.mono H_jbe (by decide)) (FnOk.mono H_jbi (by decide));have R_jbs:∀ dp,Ok P w mg base (0+dp) T.f_jbs (vb5 T dp):=by
  intro dp
  induction dp with
  | zero=>exact ws9 T
  | succ dp ih=>exact wg6 T (n:=0+dp) (dp:=dp) ih
 have H_jbs:Ok P w mg base 8 T.f_jbs (wq5 T):=R_jbs 8;have R_jbm:∀ dp,Ok P w mg base (8+2 * dp) T.f_jbm (v04 T dp):=by
  intro dp
  induction dp with
  | zero=>exact wt0 T
  | succ dp ih=>exact FnOk.mono (wh1 T (n:=8+2 * dp+1) (dp:=dp) (FnOk.mono H_jbe (by omega)) (wh2 T (n:=8+2 * dp) (dp:=dp) (FnOk.mono H_jbe (by omega)) (FnOk.mono H_jaz (by omega)) ih) (FnOk.mono H_jbs (by omega))) (by omega)
 have H_jbm:Ok P w mg base 24 T.f_jbm (w59 T):=R_jbm 8;have H_jbd:=@wh8 P w K mg base T 24 (FnOk.mono H_jaz (by decide)) (FnOk.mono H_jbm (by decide));have H_jab:=@wk6 P w K mg base T 0;have H_jaa:=@wk7 P w K mg base T 0;have H_jac:=@wk5 P w K mg base T 0;have H_jbw:=@wg3 P w K mg base T 1 (FnOk.mono H_jaa (by decide)) (FnOk.mono H_jac (by decide));have H_jcc:=@wf7 P w K mg base T 1 (FnOk.mono H_jaa (by decide)) (FnOk.mono H_jac (by decide));have H_gap:=@wk8 P w K mg base T 1 (FnOk.mono H_jaa (by decide)) (FnOk.mono H_jac (by decide));have H_jat:=@wi7 P w K mg base T 2 (FnOk.mono H_jaa (by decide)) (FnOk.mono H_jac (by decide)) (FnOk.mono H_gap (by decide));have H_jao:=@wj2 P w K mg base T 1 (FnOk.mono H_jaa (by decide)) (FnOk.mono H_jac (by decide));have H_jcb:=@wf8 P w K mg base T 2 (FnOk.mono H_jaa (by decide)) (FnOk.mono H_jac (by decide)) (FnOk.mono H_jao (by decide));have H_jan:=@wj3 P w K mg base T 3 (FnOk.mono H_jcb (by decide));have H_jap:=@wj1 P w K mg base T 3 (FnOk.mono H_jcb (by decide));have H_jca:=@wf9 P w K mg base T 2 (FnOk.mono H_jaa (by decide)) (FnOk.mono H_jac (by decide)) (FnOk.mono H_gap (by decide));have H_jal:=@wj5 P w K mg base T 2 (FnOk.mono H_jaa (by decide)) (FnOk.mono H_jac (by decide)) (FnOk.mono H_gap (by decide));have H_jck:=@wf1 P w K mg base T 4 (FnOk.mono H_jcc (by decide)) (FnOk.mono H_jat (by decide)) (FnOk.mono H_jao (by decide)) (FnOk.mono H_jan (by decide)) (FnOk.mono H_jap (by decide)) (FnOk.mono H_jca (by decide)) (FnOk.mono H_jal (by decide));have H_jae:=@wk3 P w K mg base T 0;have H_jad:=@wk4 P w K mg base T 1 (FnOk.mono H_jae (by decide));have H_jcd:=@wf6 P w K mg base T 1 (FnOk.mono H_jaa (by decide)) (FnOk.mono H_jac (by decide));have R_jci:∀ dp,Ok P w mg base (5+2 * dp) T.f_jci (vb4 T dp):=by
  intro dp
  induction dp with
  | zero=>exact ws8 T
  | succ dp ih=>exact FnOk.mono (wf2 T (n:=5+2 * dp+1) (dp:=dp) (wf3 T (n:=5+2 * dp) (dp:=dp) (FnOk.mono H_jaa (by omega)) (FnOk.mono H_jad (by omega)) ih (FnOk.mono H_jbw (by omega)) (FnOk.mono H_jcd (by omega))) (FnOk.mono H_jbw (by omega)) (FnOk.mono H_jck (by omega))) (by omega)
 have H_jci:Ok P w mg base 21 T.f_jci (wp7 T):=R_jci 8;have H_jcf:=@wf4 P w K mg base T 20 (FnOk.mono H_jab (by decide)) (FnOk.mono H_jci (by decide));have H_jaq:=@wj0 P w K mg base T 0;have H_jam:=@wj4 P w K mg base T 0;have H_jbu:=@wg5 P w K mg base T 0;have H_jay:=@wi3 P w K mg base T 1 (FnOk.mono H_jaq (by decide)) (FnOk.mono H_jam (by decide)) (FnOk.mono H_jbu (by decide));have H_jax:=@wi4 P w K mg base T 1 (FnOk.mono H_jaq (by decide));have H_jav:=@wi6 P w K mg base T 0;have H_jas:=@wi8 P w K mg base T 2 (FnOk.mono H_jay (by decide)) (FnOk.mono H_jax (by decide)) (FnOk.mono H_jav (by decide));have H_jbo:=@wh0 P w K mg base T 1 (FnOk.mono H_jbe (by decide));have H_jbb:=@wi0 P w K mg base T 1 (FnOk.mono H_jbe (by decide));have H_jbc:=@wh9 P w K mg base T 2 (FnOk.mono H_jbe (by decide)) (FnOk.mono H_jbb (by decide));have H_jbr:=@wg7 P w K mg base T 2 (FnOk.mono H_jbi (by decide));have H_jbj:=@wh3 P w K mg base T 0;have R_jbf:∀ dp,Ok P w mg base (1+dp) T.f_jbf (v05 T dp):=by
  intro dp
  induction dp with
  | zero=>exact wt1 T
  | succ dp ih=>exact wh6 T (n:=1+dp) (dp:=dp) (FnOk.mono H_jbj (by omega)) ih
 have H_jbf:Ok P w mg base 9 T.f_jbf (wr3 T):=R_jbf 8;have H_jba:=@wi1 P w K mg base T 9 (FnOk.mono H_jbf (by decide));have H_jai:=@wj8 P w K mg base T 0;have H_jak:=@wj6 P w K mg base T 0;have H_jag:=@wk1 P w K mg base T 0;have H_jaf:=@wk2 P w K mg base T 0;have H_jaw:=@wi5 P w K mg base T 0;have H_jaj:=@wj7 P w K mg base T 1 (FnOk.mono H_jaf (by decide)) (FnOk.mono H_jaw (by decide));have H_jbv:=@wg4 P w K mg base T 0;have H_jce:=@wf5 P w K mg base T 0;have H_jar:=@wi9 P w K mg base T 1 (FnOk.mono H_jbv (by decide)) (FnOk.mono H_jce (by decide));have H_jah:=@wj9 P w K mg base T 2 (FnOk.mono H_jaj (by decide)) (FnOk.mono H_jaw (by decide)) (FnOk.mono H_jar (by decide));have H_jcl:=@wf0 P w K mg base T 0;have H_jbz:=@wg0 P w K mg base T 2 (FnOk.mono H_jai (by decide)) (FnOk.mono H_jak (by decide)) (FnOk.mono H_jag (by decide)) (FnOk.mono H_jah (by decide)) (FnOk.mono H_jaf (by decide)) (FnOk.mono H_jaj (by decide)) (FnOk.mono H_jcl (by decide));have H_jbq:=@wg8 P w K mg base T 4 (FnOk.mono H_jbz (by decide));have H_jbp:=@wg9 P w K mg base T 22 (FnOk.mono H_jcf (by decide)) (FnOk.mono H_jas (by decide)) (FnOk.mono H_jbe (by decide)) (FnOk.mono H_jbo (by decide)) (FnOk.mono H_jbc (by decide)) (FnOk.mono H_jbr (by decide)) (FnOk.mono H_jba (by decide)) (FnOk.mono H_jbq (by decide));have H_law:=@we9 P w K mg base T 25 (FnOk.mono H_jbe (by decide)) (FnOk.mono H_jbh (by decide)) (FnOk.mono H_jbd (by decide)) (FnOk.mono H_jbp (by decide));exact H_law
theorem walk {l:W.OpenLaw} {q:Program} {loose:List Str} {XP:(Str->Option Value)->Heap->Prop} {YP:World->Heap->Prop} {d:DefRec} {K:Params->W.Frag} (hn:l.most=some 63) (hdf:d.params.defaults=[])
  (hY:∀ (w:World) (h:Heap),YP w h->(K w.params).In h) (hL:∀ w:World,noL (K w.params)=true)
  (F:∀ (w:World) (mg:Str->Option Value) (fa:Addr) (h:Heap),(K w.params).In h->h.Ns mainGlobals mg->mg d.name=some (.ref fa)->∃ T:Txt (K w.params) mg,∀ (s:Shared) (v:Value),BindsTo s T.f_law.fd ⟨[v],[]⟩ [("_law_script",v)]) (hdn:d.name = "law" := by rfl) :
  W.WalkO q loose XP YP l.row.toRowW d [] (fun f vs=>PySem.call f vs):=by
 refine L2.walk_of (n:=63) (k:=26) (x := "_law_script") (CX:=fun _=>CX0) (sp:=fun w=>u93 (K w.params) vm1) hn (by decide) hdf ⟨rfl,by decide,by decide⟩ hY (fun w mg fa h hK hN hm=>?_) (fun w H a ns hl hO hS=>wl5 (hL w) hl hO hS) fun _ _ _ _ _ z=>z
 obtain ⟨T,hb⟩:=F w mg fa h hK hN hm;rw [hdn] at hm;have e:=hm.symm.trans T.g_law;cases e;exact ⟨T.f_law.fd,hb,fun base _ _=>wp3 T⟩
end Law
end
namespace PySem.W.Fast
def tw16454176440533345045:=0
def tw7056464000944401639:=0
def tw13464448779621213537:=0
def tw916585236043658602:=0
def tw5219447488904949593:=0
def tw4401552289840471871:=0
def tw3195268993163669549:=0
def tw9740164251302067075:=0
def tw811743844841779304:=0
def tw15744481481965914634:=0
def tw14189440807114879983:=0
def tw6060725228657364950:=0
def tw10770480869001142450:=0
def tw9323684684474513042:=0
def tw235638629190042992:=0
def tw2352512818030387600:=0
def tw4027256794548543822:=0
def tw14834401650537730248:=0
def tw9988300609150344280:=0
def tw16752976926659619367:=0
def tw17419428019645907963:=0
def tw1490850686756340573:=0
def tw16106545499487359649:=0
def tw2303876981865505240:=0
def tw16413545253695777418:=0
def tw13490501970738960200:=0
def tw15300045667741996782:=0
def tw17816182431848222055:=0
def tw12917970030414646112:=0
def tw15046778925594606782:=0
def tw10240922324012548994:=0
def tw14105412526103687347:=0
def tw17628189430157616017:=0
def tw4663590934390482069:=0
def tw4648112397009300960:=0
def tw15780252261397872503:=0
def tw2099128190453521957:=0
def tw363978281264785143:=0
def tw6282933640987536073:=0
def tw528902848607629295:=0
def tw7359443112553364552:=0
def tw3412600083366850898:=0
def tw1113449548148649076:=0
def tw12716620836653002091:=0
def tw1335969589612629422:=0
def tw16087895663083099106:=0
def tw12976477259707019710:=0
def tw11108517079111495919:=0
def tw16531635170131934879:=0
def tw1613242249516734193:=0
def tw16586817428343125895:=0
def tw1382061519468028887:=0
def tw9220331302047987636:=0
def tw18164715534340396090:=0
def tw11503039096765023366:=0
def tw17032134018780618877:=0
def tw4110752816360771076:=0
def tw6317923707900051878:=0
def tw6966636822566772952:=0
def tw8121487040976325558:=0
def tw10853910786291391985:=0
def tw16501823775587455238:=0
def tw8113700825634874686:=0
def tw4309026049709543863:=0
def tw1047218928317153458:=0
def tw4752654898068188817:=0
def tw13260188778329312051:=0
def tw17176999347573179924:=0
def tw6530277447450858112:=0
def tw5291243095548094972:=0
def tw17497579975746655923:=0
def tw8606398450332502999:=0
def tw2236919387246318640:=0
def tw2119643789521191371:=0
def tw11504130768112214503:=0
def tw4277215202247474970:=0
def tw15195719789291887628:=0
def tw3982387399270796298:=0
def tw1990781311710011647:=0
def tw5382338376279764293:=0
def tw3376029419622532609:=0
def tw11027531793984921676:=0
def tw9461473059286316171:=0
def tw10612598337880710100:=0
def tw17448872504317622232:=0
def tw3565011229868323111:=0
def tw2781173036170262873:=0
def tw8510616660735850894:=0
def tw13982083252680865681:=0
def tw5199698090519628128:=0
def tw5933022501636671818:=0
def tw2649674077846567638:=0
def tw8273706269302564297:=0
def tw830482084654797736:=0
def tw17807306109987376058:=0
def tw13277798681523456550:=0
def tw6555390102883161641:=0
def tw1931734787221810541:=0
def tw7903351646991334110:=0
def tw2036475140580707623:=0
def tw11356150561293788007:=0
def tw12323559254439480626:=0
def tw888478316572394:=0
def tw15295297790113585939:=0
def tw454278616399537329:=0
def tw12840123550462287937:=0
def tw7616405181973778087:=0
def tw5199945683259425224:=0
def tw16334399712037613584:=0
def tw552147025574450658:=0
def tw4023235905883395444:=0
def tw12184538807491932543:=0
def tw11135207148773035662:=0
def tw4045453939823397552:=0
def tw75490239506302448:=0
def tw6769583022146664568:=0
def tw17374458562546688608:=0
def tw17892614699369386529:=0
def tw561204776076291240:=0
def tw15787840019330012191:=0
def tw13948756420066606152:=0
def tw12064339188016140014:=0
def tw5687769644429099210:=0
def tw16670904482508640023:=0
def tw17640568643545271169:=0
def tw6992883310136893797:=0
def tw896532540906160892:=0
def tw4366004415479733759:=0
def tw11349315109264759468:=0
def tw735845179374565078:=0
def tw6128256289944269726:=0
def tw4265098316548303268:=0
def tw11867967368056269384:=0
def tw7050494416441701539:=0
def tw12647853686245728981:=0
def tw3767036588156685372:=0
def tw712460195635047498:=0
def tw10726848893094133491:=0
def tw15978505437070641323:=0
def tw1459122772129625183:=0
def tw11465579265585825051:=0
def tw4457843093880349350:=0
def tw11481250251889891385:=0
def tw2036901593180214123:=0
def tw15270265395195206998:=0
def tw16339870638087894734:=0
def tw7126924940467835866:=0
def tw13518830361471048946:=0
def tw11915174924904995530:=0
def tw12256984486907768206:=0
def tw14591534426173137501:=0
def tw7212844006003285787:=0
def tw4575697017909075027:=0
def tw7907254139323941103:=0
def tw1837515247695940493:=0
def tw1011550711201713545:=0
def tw6483494846669813579:=0
def tw15607835704045743613:=0
def tw5915835432553521630:=0
def tw11077864293246515690:=0
def tw17303732627508711856:=0
def tw9945429899467680659:=0
def tw14521858757820398305:=0
def tw10752260874293407373:=0
def tw16013668000241900692:=0
def tw7790391729020028065:=0
def tw1916169552613920819:=0
def tw5176779751476733797:=0
def tw7398460362790938681:=0
def tw14910843903651189303:=0
def tw4442309901466247600:=0
def tw17334453365579944158:=0
def tw9949270071953894174:=0
def tw17524519602084336111:=0
def tw17064336915708267992:=0
def tw16069719881383338451:=0
def tw7465861569843664435:=0
def tw12936654806371721806:=0
def tw6366204208655619330:=0
def tw8447109580643000786:=0
def tw12385321555953688222:=0
def tw6042603637011416471:=0
def tw6076683718900023159:=0
def tw4513374467247871975:=0
def tw8053886504168409900:=0
def tw11821304550884903221:=0
def tw17445752083624176212:=0
def tw869412234956025839:=0
def tw13281581266625466669:=0
def tw8900992536297781687:=0
def tw16745849110582906430:=0
def tw14493545086597329110:=0
def tw12484526235175968696:=0
def tw11034698620040382637:=0
def tw16980453780949187347:=0
def tw1093274412287909469:=0
def tw16399301764846988895:=0
def tw6560195134243313406:=0
def tw11981429957163863315:=0
def tw9893368443375336304:=0
def tw15494655662898860534:=0
def tw7893180652422322344:=0
def tw6328979397835507079:=0
def tw10609653495916885644:=0
def tw874690581758637172:=0
def tw2205602129514333720:=0
def tw18294318080774568863:=0
def tw13921893038674706436:=0
def tw9119532323419165934:=0
def tw1766240452962991347:=0
def tw11131604978999337897:=0
def tw11975508370917913368:=0
def tw2460135050681676175:=0
def tw13542749145136086948:=0
def tw12918530616951063585:=0
def tw15100428527420790491:=0
def tw15217860667080222410:=0
def tw5730878566906428287:=0
def tw3656091109363463950:=0
def tw17887459924610717014:=0
def tw17346277969188069945:=0
def tw16111316367707376170:=0
def tw12808696660434361847:=0
def tw957140366551392936:=0
def tw18031261845787990063:=0
def tw13877122852347482233:=0
def tw13108014373954586732:=0
def tw7668634939660542741:=0
def tw16582279370894222557:=0
def tw145938376398060410:=0
def tw13874287199513152054:=0
def tw9118411114678576700:=0
def tw57595634574546794:=0
def tw2701079629687584859:=0
def tw11930130903103264415:=0
def tw8075439346278334820:=0
def tw12369866928054422764:=0
def tw6897216374947977859:=0
end PySem.W.Fast
open PySem PySem.W PyProof.Rows
local macro_rules | `(tactic| ac_rfl) => `(tactic| (refine' Law.df_m ?a ?b ?c ?d; (case a => k_is); (case b => k_is); (case c => k_is); (case d => k_is)))
local macro_rules | `(tactic| bv_omega) => `(tactic| (refine' Law.dm_m ?a ?b ?c ?d ?e; (case a => k_is); (case b => k_is); (case c => k_is); (case d => k_is); (case e => k_is)))
set_option maxHeartbeats 0 in
theorem PySem.Challenge.cw_nolitter_k23_sides_as_long_holds : PySem.Challenge.rw_nolitter_k23_sides_as_long.Holds := by
 w_on; o_law; k_head; (case hw => w_witness2)
 k_fill
 refine Law.walk (l := PySem.Challenge.rw_nolitter_k23_sides_as_long) rfl rfl (fun w h Y => PySem.W.kIn_of Y) ?L ?F
 case L => exact fun w => rfl
 case F =>
  intro w mg fa h KX G hmg
  refine' Law.txt_mk KX G ?aC_Loom ?aC_Ride ?pm_1 ?pm_0 ?pm_2 ?pm_3 ?pm_4 ?pm_52 ?pm_54 ?pm_53 ?pm_45 ?pm_55 ?pm_49 ?pm_19 ?pm_20 ?pm_14 ?pm_13 ?pm_15 ?pm_48 ?pm_47 ?pm_11 ?pm_50 ?pm_18 ?pm_16 ?pm_12 ?pm_43 ?pm_24 ?pm_23 ?pm_21 ?a_8 ?i_8 ?l_8 ?c_8 ?k_8 ?dl_Ride_init ?ds_Ride_init ?pm_10 ?pm_6 ?pm_7 ?pm_5 ?pm_9 ?pm_22 ?pm_17 ?pm_44 ?pm_51 ?pm_46 ?pm_56 ?pm_31 ?pm_33 ?pm_34 ?pm_26 ?pm_36 ?pm_42 ?pm_37 ?pm_38 ?pm_28 ?pm_29 ?pm_41 ?pm_35 ?pm_32 ?pm_27 ?pm_40 ?pm_30 ?pm_39 ?pm_25 ?pg_Loom ?hd_Loom ?po_Loom ?sa_Loom ?mk_Loom ?kc_Loom ?n_Loom_wide ?n_Loom_fresh ?n_Loom_rows ?n_Loom_steps ?pg_Ride ?hd_Ride ?po_Ride ?sa_Ride ?mk_Ride ?kc_Ride ?n_Ride_rows ?n_Ride_held ?n_Ride_spot ?v_BELOW_NOUGHT ?v_NUMBERS ?v_BITS ?b_abs ?b_all ?b_dict ?b_divmod ?b_enumerate ?b_int ?b_isinstance ?b_len ?b_list ?b_min ?b_range ?b_str ?b_tuple ?b_zip
  (case aC_Loom => k_is)
  (case aC_Ride => k_is)
  (case pm_1 => bv_omega)
  (case pm_0 => bv_omega)
  (case pm_2 => bv_omega)
  (case pm_3 => bv_omega)
  (case pm_4 => bv_omega)
  (case pm_52 => ac_rfl)
  (case pm_54 => ac_rfl)
  (case pm_53 => ac_rfl)
  (case pm_45 => ac_rfl)
  (case pm_55 => ac_rfl)
  (case pm_49 => ac_rfl)
  (case pm_19 => ac_rfl)
  (case pm_20 => ac_rfl)
  (case pm_14 => ac_rfl)
  (case pm_13 => ac_rfl)
  (case pm_15 => ac_rfl)
  (case pm_48 => ac_rfl)
  (case pm_47 => ac_rfl)
  (case pm_11 => ac_rfl)
  (case pm_50 => ac_rfl)
  (case pm_18 => ac_rfl)
  (case pm_16 => ac_rfl)
  (case pm_12 => ac_rfl)
  (case pm_43 => ac_rfl)
  (case pm_24 => ac_rfl)
  (case pm_23 => ac_rfl)
  (case pm_21 => ac_rfl)
  (case a_8 => k_is)
  (case i_8 => k_is)
  (case l_8 => k_is)
  (case c_8 => k_is)
  (case k_8 => k_is)
  (case dl_Ride_init => k_is)
  (case ds_Ride_init => exact rfl)
  (case pm_10 => bv_omega)
  (case pm_6 => bv_omega)
  (case pm_7 => bv_omega)
  (case pm_5 => bv_omega)
  (case pm_9 => bv_omega)
  (case pm_22 => ac_rfl)
  (case pm_17 => ac_rfl)
  (case pm_44 => ac_rfl)
  (case pm_51 => ac_rfl)
  (case pm_46 => ac_rfl)
  (case pm_56 => ac_rfl)
  (case pm_31 => ac_rfl)
  (case pm_33 => ac_rfl)
  (case pm_34 => ac_rfl)
  (case pm_26 => ac_rfl)
  (case pm_36 => ac_rfl)
  (case pm_42 => ac_rfl)
  (case pm_37 => ac_rfl)
  (case pm_38 => ac_rfl)
  (case pm_28 => ac_rfl)
  (case pm_29 => ac_rfl)
  (case pm_41 => ac_rfl)
  (case pm_35 => ac_rfl)
  (case pm_32 => ac_rfl)
  (case pm_27 => ac_rfl)
  (case pm_40 => ac_rfl)
  (case pm_30 => ac_rfl)
  (case pm_39 => ac_rfl)
  (case pm_25 => ac_rfl)
  (case pg_Loom => k_is)
  (case hd_Loom => k_is)
  (case po_Loom => k_is)
  (case sa_Loom => k_is)
  (case mk_Loom => k_is)
  (case kc_Loom => k_is)
  (case n_Loom_wide => k_is)
  (case n_Loom_fresh => k_is)
  (case n_Loom_rows => k_is)
  (case n_Loom_steps => k_is)
  (case pg_Ride => k_is)
  (case hd_Ride => k_is)
  (case po_Ride => k_is)
  (case sa_Ride => k_is)
  (case mk_Ride => k_is)
  (case kc_Ride => k_is)
  (case n_Ride_rows => k_is)
  (case n_Ride_held => k_is)
  (case n_Ride_spot => k_is)
  (case v_BELOW_NOUGHT => k_is)
  (case v_NUMBERS => k_is)
  (case v_BITS => k_is)
  (case b_abs => k_is)
  (case b_all => k_is)
  (case b_dict => k_is)
  (case b_divmod => k_is)
  (case b_enumerate => k_is)
  (case b_int => k_is)
  (case b_isinstance => k_is)
  (case b_len => k_is)
  (case b_list => k_is)
  (case b_min => k_is)
  (case b_range => k_is)
  (case b_str => k_is)
  (case b_tuple => k_is)
  (case b_zip => k_is)
