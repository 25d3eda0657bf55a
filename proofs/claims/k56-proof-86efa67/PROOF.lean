import PyProof.Rows.All
import Wide.All
import OpenK.AllK
import Wide.FinOn
import Lean
import PyProof.EqAt
import PyProof.EqKinds
import PyProof.TupleCall
import PyProof.NeKinds
import PyProof.Rows.SeqMore
import PyProof.FactsAll.tuple_2
import KE.KDictOf
import PyProof.ExcInit
import PyProof.ExcClass3
import PyProof.NsDelKeeps
import PyProof.RulesAs
import PyProof.Rows.CountFlat
import PyProof.AutoListH
import KE.KIntText
import PyProof.Rows.CatFin
import PyProof.Rows.Range3
import PyProof.Rows.CallKwBuiltin
import PyProof.NoPylong
import PyProof.EnumMake
import PyProof.Draws
import PyProof.DictWalks
import PyProof.DictUpdate
import PyProof.ToksMono
import PyProof.StrReplace2
import PyProof.FactsAll.str_6
import PySem.Challenge.RW_nolitter_k56_plan_texts_refused
set_option Elab.async false
set_option linter.all false
set_option maxRecDepth 100000
local macro_rules | `(tactic| decide) => `(tactic| decide +kernel)
noncomputable section
namespace L2
open PySem PySem.Spec PyProof.Rows
abbrev Key:=Sum Int Str
def vv2:Key->Value->Bool
 | .inl k,v=>Value.isInt k v
 | .inr x,v=>Value.isStrOf x v
def keyH (w:World):Key->Int
 | .inl k=>hashInt k
 | .inr x=>hashStr w x
theorem u15:∀ {k:Key} {v:Value},vv2 k v=true->(∃ i t,k=Sum.inl i /\ v=Value.int i t) \/ (∃ x t,k=Sum.inr x /\ v=Value.str x t)
 | .inl i,v,h=>by
  obtain ⟨t,e⟩:=Value.isInt_shape (k:=i) (v:=v) h;exact .inl ⟨i,t,rfl,e⟩
 | .inr x,v,h=>by
  obtain ⟨t,e⟩:=Value.isStrOf_shape (x:=x) (v:=v) h;exact .inr ⟨x,t,rfl,e⟩
theorem vv1 (a b:Int):decide ((Sum.inl a:Key)=Sum.inl b)=(a == b):=by
 by_cases e:a=b
 ·subst e;simp
 ·have h:¬ (Sum.inl a:Key)=Sum.inl b:=fun q=>e (Sum.inl.inj q)
  rw [decide_eq_false h];exact (beq_eq_false_iff_ne.mpr e).symm
theorem vu8 (a b:Str):decide ((Sum.inr a:Key)=Sum.inr b)=decide (a=b):=by
 by_cases e:a=b
 ·subst e;simp
 ·have h:¬ (Sum.inr a:Key)=Sum.inr b:=fun q=>e (Sum.inr.inj q)
  rw [decide_eq_false h,decide_eq_false e]
theorem vv0 (a:Int) (b:Str):decide ((Sum.inl a:Key)=Sum.inr b)=false:=decide_eq_false (fun q=>nomatch q)
theorem vu9 (a:Str) (b:Int):decide ((Sum.inr a:Key)=Sum.inl b)=false:=decide_eq_false (fun q=>nomatch q)
def ut2 (prog:Program) (w:World):PySem.KeyKind prog w Key where
 is:=vv2
 hash:=keyH w
 inj:=fun v a b ha hb=>by
  rcases u15 ha with ⟨i,t,rfl,rfl⟩ | ⟨x,t,rfl,rfl⟩
  ·rcases u15 hb with ⟨j,u,rfl,e⟩ | ⟨y,u,rfl,e⟩
   ·injection e with e1 _;rw [e1]
   ·exact nomatch e
  ·rcases u15 hb with ⟨j,u,rfl,e⟩ | ⟨y,u,rfl,e⟩
   ·exact nomatch e
   ·injection e with e1 _;rw [e1]
 byValue:=fun k v h=>by
  rcases u15 h with ⟨i,t,rfl,rfl⟩ | ⟨x,t,rfl,rfl⟩ <;> rfl
 pyHash:=fun hv h=>by
  rcases u15 hv with ⟨i,t,rfl,rfl⟩ | ⟨x,t,rfl,rfl⟩
  ·exact wpAny_pyHash_int h
  ·exact wpAny_pyHash_str h
 eqBool:=fun hu hv h=>by
  rcases u15 hu with ⟨i,t,rfl,rfl⟩ | ⟨x,t,rfl,rfl⟩
  ·rcases u15 hv with ⟨j,u,rfl,rfl⟩ | ⟨y,u,rfl,rfl⟩
   ·rw [vv1] at h;exact wpAny_eqBool_int h
   ·rw [vv0] at h;exact SeqAt.EqAt.int_str i t y u _ _ _ _ h
  ·rcases u15 hv with ⟨j,u,rfl,rfl⟩ | ⟨y,u,rfl,rfl⟩
   ·rw [vu9] at h;exact SeqAt.EqAt.str_int x t j u _ _ _ _ h
   ·rw [vu8] at h;exact wpAny_eqBool_str h
 «strs»:=fun k x t v h=>by
  rcases u15 h with ⟨i,u,rfl,e⟩ | ⟨y,u,rfl,e⟩
  ·exact nomatch e
  ·injection e with e1 _
   subst e1;cases v <;> rfl
inductive V where
 | non | bl (b:Bool) | int (i:Int) | str (x:Str) | byt (b:Array UInt8) | flt (b:UInt64) | ref (a:Addr) | ty (n:String)
 deriving DecidableEq
def RelV:V->Value->Prop
 | .non,u=>u=Value.none
 | .bl b,u=>u=Value.bool b
 | .int i,u=>∃ t,u=Value.int i t
 | .str x,u=>∃ t,u=Value.str x t
 | .byt b,u=>∃ t,u=Value.bytes b t
 | .flt b,u=>∃ t,u=Value.float b t
 | .ref a,u=>u=Value.ref a
 | .ty n,u=>u=Value.type n
abbrev Vals:List V->List Value->Prop:=Paired RelV
theorem Vals.length {xs:List V} {us:List Value} (r:Vals xs us):xs.length=us.length:=Paired.length r
theorem Vals.get:∀ {xs:List V} {us:List Value} {i:Nat} {x:V},Vals xs us->xs[i]?=some x->∃ u,us[i]?=some u /\ RelV x u
 | _,_,_,_,.nil,e=>by simp at e
 | _,_,0,_,.cons r _,e=>by simp at e;subst e;exact ⟨_,rfl,r⟩
 | _,_,i+1,x,.cons _ t,e=>by
  obtain ⟨u,h1,h2⟩:=Vals.get (i:=i) (x:=x) t (by simpa using e);exact ⟨u,by simpa using h1,h2⟩
theorem Vals.set {x:V} {u:Value} (r:RelV x u):∀ {xs:List V} {us:List Value} (i:Nat),Vals xs us->Vals (xs.set i x) (us.set i u)
 | _,_,_,.nil=>.nil
 | _,_,0,.cons _ t=>.cons r t
 | _,_,i+1,.cons q t=>.cons q (Vals.set r i t)
theorem Vals.append:∀ {xs ys:List V} {us ws:List Value},Vals xs us->Vals ys ws->Vals (xs++ys) (us++ws)
 | _,_,_,_,.nil,s=>s
 | _,_,_,_,.cons r t,s=>.cons r (Vals.append t s)
theorem Vals.take:∀ {xs:List V} {us:List Value} (n:Nat),Vals xs us->Vals (xs.take n) (us.take n)
 | _,_,0,_=>.nil
 | _,_,_+1,.nil=>.nil
 | _,_,n+1,.cons r t=>.cons r (Vals.take n t)
theorem Vals.drop:∀ {xs:List V} {us:List Value} (n:Nat),Vals xs us->Vals (xs.drop n) (us.drop n)
 | _,_,0,r=>r
 | _,_,_+1,.nil=>.nil
 | _,_,n+1,.cons _ t=>Vals.drop n t
theorem Vals.none_of:∀ {xs:List V} {us:List Value} {i:Nat},Vals xs us->xs[i]?=none->us[i]?=none:=fun {xs us i} r e=>by
 have h1:=r.length;have h2:xs.length<=i:=List.getElem?_eq_none_iff.mp e;exact List.getElem?_eq_none_iff.mpr (by omega)
def RelO:Option V->Option Value->Prop
 | some v,some u=>RelV v u
 | none,none=>True
 | _,_=>False
def KV {κ:Type}:List (κ × V)->List (κ × Value)->Prop:=Paired fun (p:κ × V) (q:κ × Value)=>p.1=q.1 /\ RelV p.2 q.2
def kV:Key->V
 | .inl i=>.int i
 | .inr x=>.str x
inductive HO where
 | lst (xs:List V)
 | tup (xs:List V)
 | dK (kvs:List (Key × V)) | dT (kvs:List (List Key × V))
 | set (S:Int->Bool) (n:Nat)
 | ins (C dx:Addr) (fs:List (Str × V))
 | own (x:Addr)
 | xd (fs:List (Str × V))
 | met (f x:Addr)
 | rng (lo hi:Int)
 | frz (o:Obj) (u:HO)
 | tbl (ps:Array Value)
 | ext (φ:Heap->Prop)
abbrev Hp:=Addr->Option HO
def upd (H:Hp) (a:Addr) (o:HO):Hp:=fun b=>if b=a then some o else H b
theorem u12 {H:Hp} {a:Addr} {o:HO}:upd H a o a=some o:=by unfold upd;rw [if_pos rfl]
theorem u05 {H:Hp} {a b:Addr} {o:HO} (h:b ≠ a):upd H a o b=H b:=by unfold upd;rw [if_neg h]
theorem vb2 {H:Hp} {a:Addr} {o u:HO}:upd (upd H a o) a u=upd H a u:=by
 funext b;unfold upd;split <;> rfl
theorem u21 {H:Hp} {a b:Addr} {o:HO} (h:H a=some o) (h':H b=none):a ≠ b:=by
 intro e;subst e;rw [h] at h';cases h'
section
variable (P:Program) (w:World)
def TupD (h:Heap) (a:Addr) (its:Array Value):Prop:=∃ o,h.get? a=some o /\ o.cls=.type "tuple" /\ (∃ n,o.data=.seq its n) /\ o.dict=none
theorem TupD.tup {h:Heap} {a:Addr} {its:Array Value} (x:TupD h a its):IsTup h a its:=let ⟨o,e,c,d,_⟩:=x;⟨o,e,c,d⟩
theorem TupD.new (h:Heap) (its:Array Value):TupD (h.push { cls:=.type "tuple",data:=.seq its }) h.objs.size its:=⟨_,Heap.get?_push_size _ rfl,rfl,⟨_,rfl⟩,rfl⟩
def ObjOk (H:Hp) (h:Heap) (a:Addr):HO->Prop
 | .lst xs=>xs.length<=sizeLine /\ ∃ (its:List Value) (n:Nat),Vals xs its /\ h.get? a=some { cls:=.type "list",data:=.seq its.toArray n }
 | .tup xs=>xs.length<=sizeLine /\ ∃ its:List Value,Vals xs its /\ TupD h a its.toArray
 | .dK kvs=>kvs.length<=sizeLine /\ (a == sysModules)=false /\ ∃ vs,KV kvs vs /\ h.DictOf (ut2 P w) a vs
 | .dT kvs=>kvs.length<=sizeLine /\ (a == sysModules)=false /\ ∃ xs:List (List Key × Addr × Value),
   Paired (fun (p:List Key × V) (q:List Key × Addr × Value)=>p.1=q.1 /\ H q.2.1=some (.tup (p.1.map kV)) /\ RelV p.2 q.2.2) kvs xs /\
   ∃ o es ep,h.get? a=some o /\ o.ExactDict /\ o.data=.dict es ep /\ es.toList=xs.map (entryOfKey (tupleKind (ut2 P w))) /\ (xs.map (·.1)).Nodup
 | .set S n=>h.SetOf (intKind P w) a S n
 | .ins C dx fs=>H dx=some (.own a) /\ fs.length<=1000 /\ dx ≠ a /\ h.get? a=some (PySem.W.instObj C dx) /\
   ∃ mA,h.Ns1 dx mA /\ (∀ f,RelO (fs.lookup f) (mA f)) /\ PySem.Within mA (fs.map (·.1))
 | .own _=>∃ o,h.get? a=some o
 | .xd fs=>∃ mA,h.Ns1 a mA /\ ∀ f,RelO (fs.lookup f) (mA f)
 | .rng lo hi=>∃ t u v,h.get? a=some { cls:=.type "range",data:=.fields #[.int lo t,.int hi u,.int 1 v] }
 | .frz o u=>h.get? a=some o /\ ObjOk H h a u
 | .tbl ps=>h.get? a=some { cls:=.none,data:=.fields ps }
 | .met f x=>h.get? a=some (PySem.W.methodObj (.ref f) (.ref x))
 | .ext φ=>φ h /\ (∃ o,h.get? a=some o) /\ ∀ h1 h2:Heap,φ h1->(∀ o,h1.get? a=some o->h2.get? a=some o)->φ h2
def HOk (H:Hp) (h:Heap):Prop:=∀ a o,H a=some o->ObjOk P w H h a o
end
section
variable {P:Program} {w:World} {H H':Hp} {h h':Heap} {a:Addr} {o:HO}
theorem ObjOk.lt (x:ObjOk P w H h a o):a < h.objs.size:=by
 cases o with
 | lst xs=>obtain ⟨_,_,_,_,e⟩:=x;exact Heap.lt_size e
 | tup xs=>obtain ⟨_,_,_,p⟩:=x;exact p.tup.lt
 | dK kvs=>obtain ⟨_,_,_,_,o,_,_,e,_⟩:=x;exact Heap.lt_size e
 | dT kvs=>obtain ⟨_,_,_,_,o,_,_,e,_⟩:=x;exact Heap.lt_size e
 | set S n=>obtain ⟨o,_,_,_,e,_⟩:=x;exact Heap.lt_size e
 | ins C dx fs=>obtain ⟨_,_,_,e,_⟩:=x;exact Heap.lt_size e
 | own y=>obtain ⟨_,e⟩:=x;exact Heap.lt_size e
 | xd fs=>obtain ⟨_,⟨_,_,_,e,_⟩,_⟩:=x;exact Heap.lt_size e
 | rng lo hi=>obtain ⟨_,_,_,e⟩:=x;exact Heap.lt_size e
 | frz ob u=>obtain ⟨e,_⟩:=x;exact Heap.lt_size e
 | tbl ps=>exact Heap.lt_size (show h.get? a=some _ from x)
 | met f y=>exact Heap.lt_size (show h.get? a=some _ from x)
 | ext φ=>obtain ⟨_,⟨_,e⟩,_⟩:=x;exact Heap.lt_size e
theorem Paired.mapP {α β:Type} {F G:α->β->Prop}:∀ {l₁:List α} {l₂:List β},Paired F l₁ l₂->(∀ a b,F a b->G a b)->Paired G l₁ l₂
 | _,_,.nil,_=>.nil
 | _,_,.cons r t,f=>.cons (f _ _ r) (Paired.mapP t f)
theorem ObjOk.stay (x:ObjOk P w H h a o) (k:∀ b u,(b=a \/ H b=some (.own a))->h.get? b=some u->h'.get? b=some u)
  (ho:∀ b,H b=some (.own a)->H' b=some (.own a)) (ht:∀ b xs,H b=some (.tup xs)->H' b=some (.tup xs)):ObjOk P w H' h' a o:=by
 induction o with
 | lst xs=>obtain ⟨z,its,n,r,e⟩:=x;exact ⟨z,its,n,r,k _ _ (.inl rfl) e⟩
 | tup xs=>obtain ⟨z,its,r,ob,e,c⟩:=x;exact ⟨z,its,r,ob,k _ _ (.inl rfl) e,c⟩
 | dK kvs=>obtain ⟨z,y,vs,r,ob,es,ep,e,c⟩:=x;exact ⟨z,y,vs,r,ob,es,ep,k _ _ (.inl rfl) e,c⟩
 | dT kvs =>
  obtain ⟨z,y,xs,r,ob,es,ep,e,c⟩:=x;exact ⟨z,y,xs,Paired.mapP r fun p q z=>⟨z.1,ht _ _ z.2.1,z.2.2⟩,ob,es,ep,k _ _ (.inl rfl) e,c⟩
 | set S n=>obtain ⟨ob,es,ep,t,e,c⟩:=x;exact ⟨ob,es,ep,t,k _ _ (.inl rfl) e,c⟩
 | ins C dx fs =>
  obtain ⟨d,z,ne,e,mA,⟨od,es,ep,e2,c⟩,r⟩:=x;exact ⟨ho _ d,z,ne,k _ _ (.inl rfl) e,mA,⟨od,es,ep,k _ _ (.inr d) e2,c⟩,r⟩
 | own y=>obtain ⟨ob,e⟩:=x;exact ⟨ob,k _ _ (.inl rfl) e⟩
 | xd fs=>obtain ⟨mA,⟨od,es,ep,e,c⟩,r⟩:=x;exact ⟨mA,⟨od,es,ep,k _ _ (.inl rfl) e,c⟩,r⟩
 | rng lo hi=>obtain ⟨t,u,v,e⟩:=x;exact ⟨t,u,v,k _ _ (.inl rfl) e⟩
 | frz ob u ih=>obtain ⟨e,q⟩:=x;exact ⟨k _ _ (.inl rfl) e,ih q⟩
 | tbl ps =>
  have e:h.get? a=some { cls:=.none,data:=.fields ps }:=x
  show h'.get? a=some { cls:=.none,data:=.fields ps }
  exact k a _ (.inl rfl) e
 | met f y =>
  have e:h.get? a=some (PySem.W.methodObj (.ref f) (.ref y)):=x
  show h'.get? a=some (PySem.W.methodObj (.ref f) (.ref y))
  exact k a _ (.inl rfl) e
 | ext φ=>obtain ⟨p,⟨o,e⟩,st⟩:=x;exact ⟨st _ _ p fun o q=>k _ _ (.inl rfl) q,⟨o,k _ _ (.inl rfl) e⟩,st⟩
theorem HOk.lt (x:HOk P w H h) (e:H a=some o):a < h.objs.size:=(x a o e).lt
theorem HOk.fresh (x:HOk P w H h) (e:h.objs.size<=a):H a=none:=by
 cases q:H a with
 | none=>rfl
 | some u=>exact absurd (Nat.lt_of_lt_of_le (x.lt q) e) (Nat.lt_irrefl _)
theorem HOk.kept (x:HOk P w H h) (k:∀ b u,h.get? b=some u->h'.get? b=some u):HOk P w H h':=fun a o e =>
 (x a o e).stay (fun b u _ q=>k b u q) (fun _ q=>q) fun _ _ q=>q
theorem HOk.laid (x:HOk P w H h) (k:∀ b u,h.get? b=some u->h'.get? b=some u) (hp:h.objs.size<=a) (new:ObjOk P w (upd H a o) h' a o):HOk P w (upd H a o) h':=fun b u e=>by
 have hn:=x.fresh hp
 by_cases hb:b=a
 ·subst hb;rw [u12] at e;cases e;exact new
 ·rw [u05 hb] at e
  exact (x b u e).stay (fun c v _ q=>k c v q) (fun c q=>by rw [u05 (u21 q hn)];exact q) fun c xs q=>by rw [u05 (u21 q hn)];exact q
end
def Rd (H:Hp) (a:Addr) (u:HO):Prop:=H a=some u \/ ∃ o,H a=some (.frz o u)
theorem Rd.of {H:Hp} {a:Addr} {u:HO} (h:H a=some u):Rd H a u:=.inl h
theorem Rd.ok {P:Program} {w:World} {H:Hp} {h:Heap} {a:Addr} {u:HO} (r:Rd H a u) (x:HOk P w H h):ObjOk P w H h a u:=by
 rcases r with r | ⟨o,r⟩
 ·exact x a u r
 ·obtain ⟨_,q⟩:=x a _ r
  exact q
def Mut:Option HO->Prop
 | some (.lst _)=>True
 | some (.dK _)=>True
 | some (.dT _)=>True
 | some (.set _ _)=>True
 | some (.ins _ _ _)=>True
 | some (.ext _)=>True
 | _=>False
section
variable {P:Program} {w:World} {H:Hp} {h h':Heap} {x e:Addr} {o':HO}
theorem HOk.write (ok:HOk P w H h) (mu:Mut (H x)) (he:e=x \/ H e=some (.own x)) (k:∀ b u,b ≠ e->h.get? b=some u->h'.get? b=some u) (heo:∃ u,h'.get? e=some u)
  (new:ObjOk P w (upd H x o') h' x o'):HOk P w (upd H x o') h':=fun b u q=>by
 have nown:∀ c y,H c=some (.own y)->c ≠ x:=fun c y r z=>by subst z;rw [r] at mu;exact mu
 have ntup:∀ c xs,H c=some (.tup xs)->c ≠ x:=fun c xs r z=>by subst z;rw [r] at mu;exact mu
 by_cases hb:b=x
 ·subst hb;rw [u12] at q;cases q;exact new
 ·rw [u05 hb] at q
  by_cases hbe:b=e
  ·have q':H b=some (.own x):=by
    rcases he with z | z
    ·exact absurd (hbe.trans z) hb
    ·rw [hbe];exact z
   rw [q] at q';cases q';obtain ⟨v,hv⟩:=heo;exact ⟨v,by rw [hbe];exact hv⟩
  ·refine (ok b u q).stay (fun c v hc r=>k c v ?_ r) (fun c r=>by rw [u05 (nown c b r)];exact r) fun c xs r=>by rw [u05 (ntup c xs r)];exact r
   rcases hc with rfl | hc
   ·exact hbe
   ·rintro rfl
    rcases he with z | z
    ·exact nown c b hc z
    ·rw [hc] at z;cases z;exact hb rfl
end
structure Un (fs ex:List Addr) (H H':Hp) (h h':Heap):Prop where
 keep:∀ b o,h.get? b=some o->H b=none->b ∉ fs->b ∉ ex->h'.get? b=some o
 slot:∀ b o,h.get? b=some o->H b=none->b ∈ fs->b ∉ ex->∃ sl,h'.get? b=some { o with slots:=sl }
 free:∀ b o,h.get? b=some o->H b=none->b ∉ ex->H' b=none
 there:∀ b o,h.get? b=some o->b ∉ ex->∃ o',h'.get? b=some o'
 tups:∀ b xs,H b=some (.tup xs)->H' b=some (.tup xs)
 frzs:∀ b o u,H b=some (.frz o u)->H' b=some (.frz o u)
 tbls:∀ b ps,H b=some (.tbl ps)->∃ more,H' b=some (.tbl (ps++more))
section
variable {fs fs' ex ex':List Addr} {H H1 H2:Hp} {h h1 h2 h':Heap} {a x e:Addr} {o:HO}
theorem Un.any (u:Un fs ex H H1 h h1) {b:Addr} {ob:Obj} (q:h.get? b=some ob) (n:H b=none) (hx:b ∉ ex):∃ sl,h1.get? b=some { ob with slots:=sl }:=by
 by_cases hb:b ∈ fs
 ·exact u.slot b ob q n hb hx
 ·exact ⟨ob.slots,u.keep b ob q n hb hx⟩
theorem Un.trans (a:Un fs ex H H1 h h1) (b:Un fs ex H1 H2 h1 h2):Un fs ex H H2 h h2 where
 keep:=fun c ob q n hc hx=>b.keep c ob (a.keep c ob q n hc hx) (a.free c ob q n hx) hc hx
 slot:=fun c ob q n hc hx=>by
  obtain ⟨sl,e1⟩:=a.slot c ob q n hc hx;obtain ⟨sl',e2⟩:=b.slot c _ e1 (a.free c ob q n hx) hc hx;exact ⟨sl',e2⟩
 free:=fun c ob q n hx=>by
  obtain ⟨o',e1⟩:=a.there c ob q hx;exact b.free c o' e1 (a.free c ob q n hx) hx
 there:=fun c ob q hx=>by
  obtain ⟨o',e1⟩:=a.there c ob q hx;exact b.there c o' e1 hx
 tups:=fun c xs q=>b.tups c xs (a.tups c xs q)
 frzs:=fun c ob xs q=>b.frzs c ob xs (a.frzs c ob xs q)
 tbls:=fun c ps q=>by
  obtain ⟨m1,e1⟩:=a.tbls c ps q;obtain ⟨m2,e2⟩:=b.tbls c _ e1;exact ⟨m1++m2,by rw [e2,Array.append_assoc]⟩
theorem Un.kept (k:∀ b u,h.get? b=some u->h'.get? b=some u):Un fs ex H H h h' :=
 ⟨fun b ob q _ _ _=>k b ob q,fun b ob q _ _ _=>⟨ob.slots,k b ob q⟩,fun _ _ _ n _=>n,fun b ob q _=>⟨ob,k b ob q⟩,fun _ _ q=>q,fun _ _ _ q=>q,fun _ ps q=>⟨#[],by rw [q];simp⟩⟩
theorem Un.refl:Un fs ex H H h h:=Un.kept fun _ _ q=>q
theorem Un.laid (k:∀ b u,h.get? b=some u->h'.get? b=some u) (hp:h.objs.size<=a) (hn:H a=none):Un fs ex H (upd H a o) h h' where
 keep:=fun b u q _ _ _=>k b u q
 slot:=fun b u q _ _ _=>⟨u.slots,k b u q⟩
 free:=fun b u q n _=>by rw [u05 (Nat.ne_of_lt (Nat.lt_of_lt_of_le (Heap.lt_size q) hp))];exact n
 there:=fun b u q _=>⟨u,k b u q⟩
 tups:=fun b xs q=>by rw [u05 (u21 q hn)];exact q
 frzs:=fun b u xs q=>by rw [u05 (u21 q hn)];exact q
 tbls:=fun b ps q=>⟨#[],by rw [u05 (u21 q hn),q];simp⟩
theorem Un.write (mu:Mut (H x)) (he:e=x \/ H e=some (.own x)) (k:∀ b u,b ≠ e->h.get? b=some u->h'.get? b=some u) (heo:∃ u,h'.get? e=some u):Un fs ex H (upd H x o) h h':=by
 have hx:∀ b,H b=none->b ≠ x:=fun b n z=>by subst z;rw [n] at mu;exact mu
 have hb:∀ b,H b=none->b ≠ e:=fun b n z=>by
  subst z
  rcases he with r | r
  ·exact hx b n r
  ·rw [n] at r;cases r
 have hm:∀ b u,H b=some u->¬ Mut (some u)->b ≠ x:=fun b u q nm z=>by subst z;rw [q] at mu;exact nm mu
 refine ⟨fun b u q n _ _=>k b u (hb b n) q,fun b u q n _ _=>⟨u.slots,k b u (hb b n) q⟩,fun b u q n _=>by rw [u05 (hx b n)];exact n,fun b u q _=>?_,
  fun b xs q=>by rw [u05 (hm b _ q fun z=>z)];exact q,fun b u xs q=>by rw [u05 (hm b _ q fun z=>z)];exact q,fun b ps q=>⟨#[],by rw [u05 (hm b _ q fun z=>z),q];simp⟩⟩
 by_cases hbe:b=e
 ·subst hbe;exact heo
 ·exact ⟨u,k b u hbe q⟩
end
def trk (h:Heap) (H:Hp):List Addr:=(List.range h.objs.size).filter fun a=>(H a).isSome
def hidT (h:Heap) (H:Hp):Heap:=PySem.W.hideAll h (trk h H)
theorem uw2 (h:Heap) (H:Hp):(hidT h H).objs.size=h.objs.size:=PySem.W.hideAll_size _ _
theorem v48 {h:Heap} {H:Hp} {b:Addr} {o:Obj} (e:h.get? b=some o) (n:H b=none):(hidT h H).get? b=some o :=
 PySem.W.hideAll_get _ e fun hm=>by
  have q:(H b).isSome=true:=(List.mem_filter.mp hm).2;rw [n] at q;simp at q
theorem vf8 {h:Heap} {H:Hp} {b:Addr} {o:Obj} (e:(hidT h H).get? b=some o):h.get? b=some o /\ H b=none:=by
 have e':h.get? b=some o:=PySem.W.of_hideAll (trk h H) e;refine ⟨e',?_⟩;cases q:H b with
 | none=>rfl
 | some x =>
  have hm:b ∈ trk h H:=List.mem_filter.mpr ⟨List.mem_range.mpr (Heap.lt_size e'),by simp [q]⟩;have z:(hidT h H).get? b=none:=PySem.W.hideAll_none (trk h H) hm;rw [z] at e;cases e
def vl5 (g h:Heap) (L:Addr):List (Addr × Obj):=(List.range h.objs.size).filterMap fun a=>if a=L \/ (g.get? a).isSome=true then none else (h.get? a).map fun o=>(a,o)
def rest (g h:Heap) (L d:Addr):List (Addr × Obj):=(vl5 g h L).filter fun p=>decide (p.1 ≠ d)
structure Mod (K:PySem.W.Frag) (mg:Str->Option Value) (base:Heap):Prop where
 kin:K.In base
 glob:base.Ns mainGlobals mg
 blt:∃ mb,base.Ns builtinsNs mb /\ ∀ x:Str,x ≠ "__name__" -> mb x=bootBuiltins x
 nolimit:base.NoLimit
/-- the context: a def's body (or a comprehension's block) running. base: fixed through the whole law; s₀,H₀: the entry; outer: the frames whose slots others may change (a def's callers); stack: all frames that run;
   ex: iterators that were made ahead of the entry and are walked here (a comprehension's);fn: the names whose cells were made at the entry (a def: all;a comprehension's block: its own);calm: not within an except suite;pn: pins that every state bears;xe: what is wanted of an exception that leaves the code -/
structure Cx where
 prog:Program
 w:World
 K:PySem.W.Frag
 mg:Str->Option Value
 base:Heap
 A:Around
 N:List Str
 s₀:Shared
 H₀:Hp
 env:Env
 outer:List Env
 stack:List Env
 ex:List Addr
 fn:Str->Bool
 calm:Bool
 pn:List (Addr × Obj)
 xe:Value->Shared->Prop
def frs (l:List Env):List Addr:=l.filterMap (·.frame)
abbrev Cx.fs (X:Cx):List Addr:=frs X.outer
def Vis (sc:Scope) (x:Str):Prop:=sc.names.lookup x=some .local \/ sc.names.lookup x=some .cell \/ sc.names.lookup x=some .free
def Loc (sc:Scope) (x:Str):Prop:=sc.names.lookup x=some .local \/ sc.names.lookup x=some .cell
def Look (env:Env) (h:Heap) (m:Str->Option Value) (x:Str) (u:Value):Prop :=
 (env.kindOf x=some .local /\ m x=some u) \/ ((env.kindOf x=some .cell \/ env.kindOf x=some .free) /\ ∃ c,env.cells.lookup x=some c /\ h.IsCell c (some u))
structure Cx.Ok (X:Cx):Prop where
 mod:Mod X.K X.mg X.base
 kind:X.env.scope.kind=.function
 glob:X.env.globals=mainGlobals
 blt:X.env.builtins=builtinsNs
 above:X.s₀.heap.objs.size<=X.env.locals
 inj:∀ x y c,X.env.cells.lookup x=some c->X.env.cells.lookup y=some c->x=y
 has:∀ x,(X.env.kindOf x=some .cell \/ X.env.kindOf x=some .free)->∃ c,X.env.cells.lookup x=some c
 cab:∀ x c,X.fn x=true->X.env.cells.lookup x=some c->X.s₀.heap.objs.size<=c
 hd:X.calm=true->X.A.handled=none
 frames:X.A.frames=some X.stack
 stk:X.stack=X.outer \/ (X.stack=X.env::X.outer /\ X.env.frame=some X.env.locals)
 exf:∀ b ∈ X.ex,b ≠ X.env.locals /\ ∀ x c,X.env.cells.lookup x=some c->c ≠ b
 bs:∀ b o,X.base.get? b=some o->X.s₀.heap.get? b=some o /\ X.H₀ b=none
 bsz:X.base.objs.size<=X.s₀.heap.objs.size
 noex:∀ b o,X.base.get? b=some o->b ∉ X.ex
 exfs:∀ b ∈ X.ex,b ∉ X.fs
 funs:X.s₀.heap.FunFrames X.base X.outer
 frf:∀ b ∈ X.fs,X.H₀ b=none
structure Inv (X:Cx) (pins:List (Addr × Obj)) (σ:List (Option V)) (H:Hp) (s:Shared):Prop where
 ok:X.Ok
 os:s.os=X.s₀.os
 bare:AllBare s.gens
 base:Un X.fs X.ex X.H₀ H X.s₀.heap s.heap
 loc:∃ m,s.heap.Ns X.env.locals m /\ ∀ (i:Nat) (x:Str) (v:V),X.N[i]?=some x->σ[i]?=some (some v)->Vis X.env.scope x->∃ u,RelV v u /\ Look X.env s.heap m x u
 cell:∀ x c,X.env.cells.lookup x=some c->∃ v,s.heap.IsCell c v
 free:H X.env.locals=none
 freeC:∀ x c,X.env.cells.lookup x=some c->H c=none
 pin:∀ p ∈ X.pn++pins,s.heap.get? p.1=some p.2 /\ H p.1=none /\ p.1 ≠ X.env.locals /\ p.1 ∉ X.fs /\ ∀ v,p.2.data ≠ .cell v
 hok:HOk X.prog X.w H s.heap
 len:σ.length=X.N.length
section
variable {X:Cx} {pins:List (Addr × Obj)} {σ:List (Option V)} {H H':Hp} {s:Shared} {h':Heap}
theorem Cx.Ok.nofr (ok:X.Ok) {b:Addr} {o:Obj} (e:X.base.get? b=some o):b ∉ X.fs:=fun hb=>by
 have:=(ok.funs.mem hb).1;rw [e] at this;cases this
theorem Inv.bs (I:Inv X pins σ H s):∀ b o,X.base.get? b=some o->s.heap.get? b=some o /\ H b=none:=fun b o e =>
 ⟨I.base.keep b o (I.ok.bs b o e).1 (I.ok.bs b o e).2 (I.ok.nofr e) (I.ok.noex b o e),I.base.free b o (I.ok.bs b o e).1 (I.ok.bs b o e).2 (I.ok.noex b o e)⟩
theorem Inv.bk (I:Inv X pins σ H s):∀ b o,X.base.get? b=some o->s.heap.get? b=some o:=fun b o e=>(I.bs b o e).1
theorem Inv.mod (I:Inv X pins σ H s):Mod X.K X.mg X.base:=I.ok.mod
theorem Inv.kIn (I:Inv X pins σ H s):X.K.In s.heap:=I.ok.mod.kin.keeps I.bk
theorem Inv.nolimit (I:Inv X pins σ H s):s.heap.NoLimit:=I.ok.mod.nolimit.keeps I.bk
theorem Inv.fr (I:Inv X pins σ H s):∃ m,Fr X.base X.env.locals s.heap m :=
 let ⟨m,hn,_⟩:=I.loc
 ⟨m,hn,I.bk,Nat.le_trans I.ok.bsz I.ok.above⟩
theorem Inv.lt (I:Inv X pins σ H s):X.env.locals < s.heap.objs.size:=let ⟨_,hn,_⟩:=I.loc;hn.lt
theorem Inv.sz (I:Inv X pins σ H s):X.s₀.heap.objs.size<=s.heap.objs.size:=Nat.le_trans I.ok.above (Nat.le_of_lt I.lt)
theorem Inv.nofs (I:Inv X pins σ H s) {a:Addr} (h:s.heap.objs.size<=a):a ∉ X.fs:=fun hb=>by
 obtain ⟨_,o,ho,_⟩:=I.ok.funs.mem hb;exact absurd (Nat.lt_of_lt_of_le (Heap.lt_size ho) (Nat.le_trans I.sz h)) (Nat.lt_irrefl _)
theorem Inv.cne (I:Inv X pins σ H s):∀ x c,X.env.cells.lookup x=some c->c ≠ X.env.locals:=fun x c e z=>by
 obtain ⟨v,o,ho,hd⟩:=I.cell x c e;obtain ⟨m,⟨o',es,ep,ho',hd',_⟩,_⟩:=I.loc;rw [z,ho'] at ho;cases ho;rw [hd'] at hd;cases hd
theorem Inv.funs (I:Inv X pins σ H s):s.heap.FunFrames X.base X.outer:=by
 have all:∀ (l:List Env),(∀ b ∈ frs l,b ∈ X.fs)->X.s₀.heap.FunFrames X.base l->s.heap.FunFrames X.base l:=by
  intro l
  induction l with
  | nil=>intro _ _;trivial
  | cons env r ih =>
   intro hs hl;obtain ⟨hk,⟨L,o,hf,hn,ho,hd⟩,hr⟩:=hl;have hL:L ∈ X.fs:=hs L (by unfold frs;rw [List.filterMap_cons,hf];exact List.mem_cons_self);obtain ⟨sl,e⟩:=I.base.slot L o ho (I.ok.frf L hL) hL fun z=>I.ok.exfs L z hL
   exact ⟨hk,⟨L,_,hf,hn,e,hd⟩,ih (fun b hb=>hs b (by unfold frs;rw [List.filterMap_cons,hf];exact List.mem_cons_of_mem _ hb)) hr⟩
 exact all X.outer (fun _ hb=>hb) I.ok.funs
theorem Inv.stack (I:Inv X pins σ H s):s.heap.FunFrames X.base X.stack:=by
 rcases I.ok.stk with e | ⟨e,hf⟩
 ·rw [e];exact I.funs
 ·rw [e]
  obtain ⟨m,hn,_⟩:=I.loc;refine .cons (by rw [I.ok.kind];decide) hf hn ?_ I.funs;exact Heap.get?_none_of_le (Nat.le_trans I.ok.bsz I.ok.above)
theorem Inv.stkSub (I:Inv X pins σ H s):∀ b ∈ frs X.stack,b ∈ X.env.locals::X.fs:=fun b hb=>by
 rcases I.ok.stk with e | ⟨e,hf⟩
 ·rw [e] at hb;exact List.mem_cons_of_mem _ hb
 ·rw [e] at hb
  unfold frs at hb;rw [List.filterMap_cons,hf] at hb;exact hb
theorem Inv.stkFree (I:Inv X pins σ H s):∀ b ∈ frs X.stack,H b=none:=fun b hb=>by
 rcases List.mem_cons.mp (I.stkSub b hb) with e | hb
 ·rw [e];exact I.free
 ·obtain ⟨_,o,ho,_⟩:=I.ok.funs.mem hb
  exact I.base.free b o ho (I.ok.frf b hb) fun z=>I.ok.exfs b z hb
theorem Inv.step {g':Array GenState} {t':Nat} {d':Drawn} {ch:List Addr} (I:Inv X pins σ H s)
  (hch:∀ b ∈ ch,(b ∈ X.ex \/ X.s₀.heap.objs.size<=b) /\ b ≠ X.env.locals /\ (∀ x c,X.env.cells.lookup x=some c->c ≠ b) /\ ∀ p ∈ X.pn++pins,p.1 ≠ b)
  (keep:∀ b o,b ≠ X.env.locals->b ∉ X.fs->b ∉ ch->s.heap.get? b=some o->H b=none->h'.get? b=some o)
  (slot:∀ b o,b ≠ X.env.locals->b ∈ X.fs->b ∉ ch->s.heap.get? b=some o->H b=none->∃ sl,h'.get? b=some { o with slots:=sl }) (free:∀ b o,b ∉ ch->s.heap.get? b=some o->H b=none->H' b=none)
  (there:∀ b o,b ∉ ch->s.heap.get? b=some o->∃ o',h'.get? b=some o')
  (tups:∀ b xs,H b=some (.tup xs)->H' b=some (.tup xs)) (frzs:∀ b o u,H b=some (.frz o u)->H' b=some (.frz o u)) (tbls:∀ b ps,H b=some (.tbl ps)->∃ more,H' b=some (.tbl (ps++more)))
  (ns:∀ m,s.heap.Ns X.env.locals m->h'.Ns X.env.locals m) (hok:HOk X.prog X.w H' h') (hg:AllBare g') :
  Inv X pins σ H' { s with heap:=h',gens:=g',drawn:=d',toks:=t' }:=by
 have neL:∀ b o,X.s₀.heap.get? b=some o->b ≠ X.env.locals:=fun b o e=>Nat.ne_of_lt (Nat.lt_of_lt_of_le (Heap.lt_size e) I.ok.above)
 have neC:∀ b o,X.s₀.heap.get? b=some o->b ∉ X.ex->b ∉ ch:=fun b o e hx hb=>by
  rcases (hch b hb).1 with z | z
  ·exact hx z
  ·exact absurd (Nat.lt_of_lt_of_le (Heap.lt_size e) z) (Nat.lt_irrefl _)
 have cellK:∀ x c,X.env.cells.lookup x=some c->∀ v,s.heap.IsCell c v->h'.IsCell c v:=fun x c e v ⟨o,ho,hd⟩=>by
  have nch:c ∉ ch:=fun z=>(hch c z).2.2.1 x c e rfl
  by_cases hc:c ∈ X.fs
  ·obtain ⟨sl,q⟩:=slot c o (I.cne x c e) hc nch ho (I.freeC x c e)
   exact ⟨_,q,hd⟩
  ·exact ⟨o,keep c o (I.cne x c e) hc nch ho (I.freeC x c e),hd⟩
 refine ⟨I.ok,I.os,hg,⟨fun b o e n hb hx=>?_,fun b o e n hb hx=>?_,fun b o e n hx=>?_,fun b o e hx=>?_,fun b xs e=>tups b xs (I.base.tups b xs e),fun b o xs e=>frzs b o xs (I.base.frzs b o xs e),fun b ps e=>?_⟩,?_,fun x c e=>?_,?_,fun x c e=>?_,fun p hp=>?_,hok,I.len⟩
 ·exact keep b o (neL b o e) hb (neC b o e hx) (I.base.keep b o e n hb hx) (I.base.free b o e n hx)
 ·obtain ⟨sl,e1⟩:=I.base.slot b o e n hb hx
  obtain ⟨sl',e2⟩:=slot b _ (neL b o e) hb (neC b o e hx) e1 (I.base.free b o e n hx);exact ⟨sl',e2⟩
 ·obtain ⟨o',e1⟩:=I.base.there b o e hx
  exact free b o' (neC b o e hx) e1 (I.base.free b o e n hx)
 ·obtain ⟨o',e1⟩:=I.base.there b o e hx
  exact there b o' (neC b o e hx) e1
 ·obtain ⟨m1,e1⟩:=I.base.tbls b ps e
  obtain ⟨m2,e2⟩:=tbls b _ e1;exact ⟨m1++m2,by rw [e2,Array.append_assoc]⟩
 ·obtain ⟨m,hn,hl⟩:=I.loc
  refine ⟨m,ns m hn,fun i x v e1 e2 e3=>?_⟩;obtain ⟨u,r,l⟩:=hl i x v e1 e2 e3;refine ⟨u,r,?_⟩
  rcases l with l | ⟨k,c,e,z⟩
  ·exact .inl l
  ·exact .inr ⟨k,c,e,cellK x c e _ z⟩
 ·obtain ⟨v,z⟩:=I.cell x c e
  exact ⟨v,cellK x c e v z⟩
 ·obtain ⟨m,⟨o,_,_,ho,_⟩,_⟩:=I.loc
  exact free _ o (fun z=>(hch _ z).2.1 rfl) ho I.free
 ·obtain ⟨v,o,ho,hd⟩:=I.cell x c e
  exact free c o (fun z=>(hch c z).2.2.1 x c e rfl) ho (I.freeC x c e)
 ·obtain ⟨e,n,ne,nf,d⟩:=I.pin p hp
  have nch:p.1 ∉ ch:=fun z=>(hch p.1 z).2.2.2 p hp rfl
  exact ⟨keep p.1 p.2 ne nf nch e n,free p.1 p.2 nch e n,ne,nf,d⟩
theorem Inv.un {t':Nat} (I:Inv X pins σ H s) (u:Un X.fs [] H H' s.heap h') (hok:HOk X.prog X.w H' h'):Inv X pins σ H' { s with heap:=h',toks:=t' }:=by
 obtain ⟨m,⟨o,es,ep,ho,r⟩,_⟩:=id I.loc;obtain ⟨sl,hL⟩:=u.any ho I.free (by simp);exact I.step (g':=s.gens) (d':=s.drawn) (ch:=[]) (fun _ z=>nomatch z) (fun b o _ hb _ e n=>u.keep b o e n hb (by simp)) (fun b o _ hb _ e n=>u.slot b o e n hb (by simp)) (fun b o _ e n=>u.free b o e n (by simp)) (fun b o _ e=>u.there b o e (by simp)) u.tups u.frzs u.tbls (fun m' hm=>by
  obtain ⟨o',es',ep',ho',r'⟩:=hm;rw [ho] at ho';cases ho';exact ⟨_,es',ep',hL,r'⟩) hok I.bare
theorem Inv.call {g':Array GenState} {t':Nat} {d':Drawn} {ch:List Addr} (I:Inv X pins σ H s) (u:Un (frs X.stack) ch H H' s.heap h') (hok:HOk X.prog X.w H' h') (hg:AllBare g')
  (hch:∀ b ∈ ch,(b ∈ X.ex \/ X.s₀.heap.objs.size<=b) /\ b ≠ X.env.locals /\ (∀ x c,X.env.cells.lookup x=some c->c ≠ b) /\ ∀ p ∈ X.pn++pins,p.1 ≠ b) :
  Inv X pins σ H' { s with heap:=h',gens:=g',drawn:=d',toks:=t' }:=by
 obtain ⟨m,⟨o,es,ep,ho,r⟩,_⟩:=id I.loc;obtain ⟨sl,hL⟩:=u.any ho I.free fun z=>(hch _ z).2.1 rfl
 exact I.step (ch:=ch) hch (fun b o hL hb hc e n=>u.keep b o e n (fun z=>(List.mem_cons.mp (I.stkSub b z)).elim hL hb) hc) (fun b o _ _ hc e n=>u.any e n hc) (fun b o hc e n=>u.free b o e n hc) (fun b o hc e=>u.there b o e hc) u.tups u.frzs u.tbls (fun m' hm=>by
  obtain ⟨o',es',ep',ho',r'⟩:=hm;rw [ho] at ho';cases ho';exact ⟨_,es',ep',hL,r'⟩) hok hg
theorem Inv.turned {t':Nat} {it:Addr} (I:Inv X pins σ H s) (k:∀ b o,b ≠ it->s.heap.get? b=some o->h'.get? b=some o) (hn:H it=none) (hL:it ≠ X.env.locals)
  (h1:it ∈ X.ex \/ X.s₀.heap.objs.size<=it) (h2:∀ x c,X.env.cells.lookup x=some c->c ≠ it) (h3:∀ p ∈ X.pn++pins,p.1 ≠ it):Inv X pins σ H { s with heap:=h',toks:=t' }:=by
 have nit:∀ b u,H b=some u->b ≠ it:=fun b u e z=>by rw [z,hn] at e;cases e
 refine I.step (g':=s.gens) (d':=s.drawn) (ch:=[it]) (fun b hb=>?_) (fun b o _ _ hc e _=>k b o (fun z=>hc (by simp [z])) e) (fun b o _ _ hc e _=>⟨o.slots,k b o (fun z=>hc (by simp [z])) e⟩) (fun _ _ _ _ n=>n)
  (fun b o hc e=>⟨o,k b o (fun z=>hc (by simp [z])) e⟩) (fun _ _ e=>e) (fun _ _ _ e=>e) (fun b ps e=>⟨#[],by rw [e];simp⟩) (fun m hm=>?_) (fun b u e=>?_) I.bare
 ·have e:b=it:=by simpa using hb
  subst e;exact ⟨h1,hL,h2,h3⟩
 ·obtain ⟨o,es,ep,ho,r⟩:=hm
  exact ⟨o,es,ep,k _ o (Ne.symm hL) ho,r⟩
 ·refine (I.hok b u e).stay (fun c v hc q=>k c v ?_ q) (fun _ q=>q) fun _ _ q=>q
  rcases hc with z | z
  ·rw [z];exact nit b u e
  ·exact nit c _ z
theorem Inv.tok (I:Inv X pins σ H s) (t:Nat):Inv X pins σ H { s with toks:=t }:=I.un (h':=s.heap) (t':=t) Un.refl I.hok
theorem Inv.kept {t':Nat} (I:Inv X pins σ H s) (k:∀ b u,s.heap.get? b=some u->h'.get? b=some u):Inv X pins σ H { s with heap:=h',toks:=t' }:=I.un (Un.kept k) (I.hok.kept k)
theorem Inv.laid {a:Addr} {o:HO} {t':Nat} (I:Inv X pins σ H s) (k:∀ b u,s.heap.get? b=some u->h'.get? b=some u) (hp:s.heap.objs.size<=a) (new:ObjOk X.prog X.w (upd H a o) h' a o) :
  Inv X pins σ (upd H a o) { s with heap:=h',toks:=t' }:=I.un (Un.laid k hp (I.hok.fresh hp)) (I.hok.laid k hp new)
theorem Inv.write {x e:Addr} {o:HO} {t':Nat} (I:Inv X pins σ H s) (mu:Mut (H x)) (he:e=x \/ H e=some (.own x)) (k:∀ b u,b ≠ e->s.heap.get? b=some u->h'.get? b=some u) (heo:∃ u,h'.get? e=some u)
  (new:ObjOk X.prog X.w (upd H x o) h' x o):Inv X pins σ (upd H x o) { s with heap:=h',toks:=t' }:=I.un (Un.write mu he k heo) (I.hok.write mu he k heo new)
theorem Inv.pins_of {pins':List (Addr × Obj)} (I:Inv X pins σ H s) (h:∀ p ∈ pins',s.heap.get? p.1=some p.2 /\ H p.1=none /\ p.1 ≠ X.env.locals /\ p.1 ∉ X.fs /\ ∀ v,p.2.data ≠ .cell v):Inv X pins' σ H s :=
 ⟨I.ok,I.os,I.bare,I.base,I.loc,I.cell,I.free,I.freeC,fun p hp=>(List.mem_append.mp hp).elim (fun z=>I.pin p (List.mem_append_left _ z)) (h p),I.hok,I.len⟩
theorem uc3 {N:List Str} (hN:N.Nodup) {i j:Nat} {x:Str} (a:N[i]?=some x) (b:N[j]?=some x):i=j:=by
 obtain ⟨h1,e1⟩:=List.getElem?_eq_some_iff.mp a;obtain ⟨h2,e2⟩:=List.getElem?_eq_some_iff.mp b;exact (List.getElem_inj hN).mp (e1.trans e2.symm)
theorem uq5 {M:Model} {A:Around} {E:Value->Shared->Prop} {i:Nat} {x:Str} {v:V} {u:Value} {Q:Unit->Shared->Prop} (I:Inv X pins σ H s) (hN:X.N.Nodup) (hi:X.N[i]?=some x) (hx:Loc X.env.scope x) (r:RelV v u)
  (h:∀ s',Inv X pins (σ.set i (some v)) H s'->(∃ a,Heap.SameBut a s.heap s'.heap /\ (a=X.env.locals \/ X.env.cells.lookup x=some a))->Q () s') (hf:X.fn x=true \/ X.env.scope.names.lookup x=some .local:=by first | exact .inl rfl | exact .inr rfl | assumption):wpAny M A (storeName X.env x u) Q E s:=by
 obtain ⟨m,hn,hl⟩:=id I.loc;have hcls:(X.env.scope.kind == .class || (X.env.scope.kind == .module && X.env.locals != X.env.globals))=false:=by rw [I.ok.kind];rfl
 have hiσ:i < σ.length:=by rw [I.len];exact (List.getElem?_eq_some_iff.mp hi).1
 have cne:=I.cne;have tracked:∀ {a:Addr} {h':Heap},(∃ o,s.heap.get? a=some o /\ H a=none)->Heap.SameBut a s.heap h'->HOk X.prog X.w H h':=fun {a h'} ha hs b ob e=>by
  obtain ⟨_,_,hfree⟩:=ha;refine (I.hok b ob e).stay (fun c w' hc q=>(hs.2 c ?_).trans q) (fun _ q=>q) fun _ _ q=>q
  rintro rfl
  rcases hc with rfl | hc
  ·rw [hfree] at e;cases e
  ·rw [hfree] at hc;cases hc
 rcases hx with hk | hk
 ·refine wpAny_storeName_local hk hn (fun h' hn' hs=>?_) hcls
  obtain ⟨oL,_,_,hoL,_⟩:=id hn;refine h _ ⟨I.ok,I.os,I.bare,⟨fun b o e n hb hx=>?_,fun b o e n hb hx=>?_,I.base.free,fun b o e hx=>?_,I.base.tups,I.base.frzs,I.base.tbls⟩,⟨_,hn',fun j y v' e1 e2 e3=>?_⟩,fun y c e=>?_,I.free,I.freeC,fun p hp=>?_,tracked ⟨oL,hoL,I.free⟩ hs,by simpa using I.len⟩ ⟨_,hs,.inl rfl⟩
  ·exact (hs.2 b (Nat.ne_of_lt (Nat.lt_of_lt_of_le (Heap.lt_size e) I.ok.above))).trans (I.base.keep b o e n hb hx)
  ·obtain ⟨sl,e1⟩:=I.base.slot b o e n hb hx
   exact ⟨sl,(hs.2 b (Nat.ne_of_lt (Nat.lt_of_lt_of_le (Heap.lt_size e) I.ok.above))).trans e1⟩
  ·obtain ⟨o',e1⟩:=I.base.there b o e hx
   exact ⟨o',(hs.2 b (Nat.ne_of_lt (Nat.lt_of_lt_of_le (Heap.lt_size e) I.ok.above))).trans e1⟩
  ·by_cases hj:j=i
   ·subst hj
    rw [hi] at e1;cases e1;rw [List.getElem?_set_self hiσ] at e2;cases e2;exact ⟨u,r,.inl ⟨hk,by simp⟩⟩
   ·rw [List.getElem?_set_ne (Ne.symm hj)] at e2
    obtain ⟨u',r',q⟩:=hl j y v' e1 e2 e3;refine ⟨u',r',?_⟩
    rcases q with ⟨k,e⟩ | ⟨k,c,e,z⟩
    ·refine .inl ⟨k,?_⟩
     have:y ≠ x:=fun e=>hj (uc3 hN e1 (e ▸ hi))
     simp [this,e]
    ·exact .inr ⟨k,c,e,z.sameBut hs (cne y c e)⟩
  ·obtain ⟨w',z⟩:=I.cell y c e
   exact ⟨w',z.sameBut hs (cne y c e)⟩
  ·obtain ⟨e,n,ne,nf,d⟩:=I.pin p hp
   exact ⟨(hs.2 p.1 ne).trans e,n,ne,nf,d⟩
 ·have hfn:X.fn x=true:=by
   rcases hf with z | z
   ·exact z
   ·rw [z] at hk;cases hk
  obtain ⟨c,hc⟩:=I.ok.has x (.inl hk);obtain ⟨w',z⟩:=I.cell x c hc;refine wpAny_storeName_cell I.ok.kind hk hc z (fun h' hc' hs=>?_);obtain ⟨oc,hoc,hocd⟩:=id z;refine h { s with heap:=h' } ⟨I.ok,I.os,I.bare,⟨fun b o e n hb hx=>?_,fun b o e n hb hx=>?_,I.base.free,fun b o e hx=>?_,I.base.tups,I.base.frzs,I.base.tbls⟩,⟨m,hn.sameBut hs (Ne.symm (cne x c hc)),fun j y v' e1 e2 e3=>?_⟩,fun y c' e=>?_,I.free,I.freeC,fun p hp=>?_,tracked ⟨oc,hoc,I.freeC x c hc⟩ hs,by simpa using I.len⟩ ⟨c,hs,.inr hc⟩
  ·exact (hs.2 b (Nat.ne_of_lt (Nat.lt_of_lt_of_le (Heap.lt_size e) (I.ok.cab x c hfn hc)))).trans (I.base.keep b o e n hb hx)
  ·obtain ⟨sl,e1⟩:=I.base.slot b o e n hb hx
   exact ⟨sl,(hs.2 b (Nat.ne_of_lt (Nat.lt_of_lt_of_le (Heap.lt_size e) (I.ok.cab x c hfn hc)))).trans e1⟩
  ·obtain ⟨o',e1⟩:=I.base.there b o e hx
   exact ⟨o',(hs.2 b (Nat.ne_of_lt (Nat.lt_of_lt_of_le (Heap.lt_size e) (I.ok.cab x c hfn hc)))).trans e1⟩
  ·by_cases hj:j=i
   ·subst hj
    rw [hi] at e1;cases e1;rw [List.getElem?_set_self hiσ] at e2;cases e2;exact ⟨u,r,.inr ⟨.inl hk,c,hc,hc'⟩⟩
   ·rw [List.getElem?_set_ne (Ne.symm hj)] at e2
    obtain ⟨u',r',q⟩:=hl j y v' e1 e2 e3;refine ⟨u',r',?_⟩
    rcases q with q | ⟨k,c',e,z'⟩
    ·exact .inl q
    ·refine .inr ⟨k,c',e,z'.sameBut hs ?_⟩
     rintro rfl;exact hj (uc3 hN e1 (I.ok.inj _ _ _ e hc ▸ hi))
  ·by_cases hcc:c'=c
   ·subst hcc;exact ⟨_,hc'⟩
   ·obtain ⟨w2,z2⟩:=I.cell y c' e
    exact ⟨w2,z2.sameBut hs hcc⟩
  ·obtain ⟨e,n,ne,nf,d⟩:=I.pin p hp
   refine ⟨(hs.2 p.1 ?_).trans e,n,ne,nf,d⟩;intro q;rw [q,hoc] at e;have q':oc=p.2:=Option.some.inj e;exact d w' (by rw [<- q'];exact hocd)
theorem u81 {M:Model} {A:Around} {E:Value->Shared->Prop} {i:Nat} {x:Str} {v:V} {u:Value} {Q:Unit->Shared->Prop} (I:Inv X pins σ H s) (hN:X.N.Nodup) (hi:X.N[i]?=some x) (hx:Loc X.env.scope x) (r:RelV v u)
  (h:∀ s',Inv X pins (σ.set i (some v)) H s'->Q () s') (hf:X.fn x=true \/ X.env.scope.names.lookup x=some .local:=by first | exact .inl rfl | exact .inr rfl | assumption):wpAny M A (storeName X.env x u) Q E s :=
 uq5 I hN hi hx r (fun s' I' _=>h s' I') hf
theorem Inv.call' {s':Shared} {ch:List Addr} (I:Inv X pins σ H s) (ho:s'.os=s.os) (u:Un (frs X.stack) ch H H' s.heap s'.heap) (hok:HOk X.prog X.w H' s'.heap) (hg:AllBare s'.gens)
  (hch:∀ b ∈ ch,(b ∈ X.ex \/ X.s₀.heap.objs.size<=b) /\ b ≠ X.env.locals /\ (∀ x c,X.env.cells.lookup x=some c->c ≠ b) /\ ∀ p ∈ X.pn++pins,p.1 ≠ b):Inv X pins σ H' s':=by
 obtain ⟨h',g',d',t',o'⟩:=s';have e:o'=s.os:=ho;subst e;exact I.call (g':=g') (t':=t') (d':=d') u hok hg hch
end
abbrev XK:=Value->Option Addr->Hp->Prop
abbrev St:=List (Option V)
abbrev VK:=V->Hp->Prop
abbrev TE:=St->Hp->VK->Prop
abbrev TT:=St->Hp->(Bool->Hp->Prop)->Prop
abbrev TA:=St->Hp->(List V->Hp->Prop)->Prop
structure Ends where
 nx:St->Hp->Prop
 rt:VK
 bk:St->Hp->Prop:=fun _ _=>False
 ct:St->Hp->Prop:=fun _ _=>False
abbrev TS:=Ends->St->Hp->Prop
def EP (X:Cx) (pins:List (Addr × Obj)) (σ:St) (Q:VK) (u:Value) (s':Shared):Prop:=∃ v H',Inv X pins σ H' s' /\ RelV v u /\ Q v H'
def TP (X:Cx) (pins:List (Addr × Obj)) (σ:St) (Q:Bool->Hp->Prop) (b:Bool) (s':Shared):Prop:=∃ H',Inv X pins σ H' s' /\ Q b H'
def AP (X:Cx) (pins:List (Addr × Obj)) (σ:St) (Q:List V->Hp->Prop) (us:List Value) (s':Shared):Prop:=∃ vs H',Inv X pins σ H' s' /\ Vals vs us /\ Q vs H'
def SP (X:Cx) (pins:List (Addr × Obj)) (D:Ends) (f:Flow) (s':Shared):Prop :=
 match f with
 | .next=>∃ σ' H',Inv X pins σ' H' s' /\ D.nx σ' H'
 | .brk=>∃ σ' H',Inv X pins σ' H' s' /\ D.bk σ' H'
 | .cont=>∃ σ' H',Inv X pins σ' H' s' /\ D.ct σ' H'
 | .ret u=>∃ v σ' H',Inv X pins σ' H' s' /\ RelV v u /\ D.rt v H'
def PE (X:Cx) (e:Expr) (t:TE):Prop :=
 ∀ (pins:List (Addr × Obj)) (s:Shared) (σ:St) (H:Hp) (Q:VK),Inv X pins σ H s->t σ H Q->wpAny (model X.prog X.w) X.A (eval e X.env) (EP X pins σ Q) X.xe s
def PT (X:Cx) (e:Expr) (t:TT):Prop :=
 ∀ (pins:List (Addr × Obj)) (s:Shared) (σ:St) (H:Hp) (Q:Bool->Hp->Prop),Inv X pins σ H s->t σ H Q->wpAny (model X.prog X.w) X.A (isTrue e X.env (eval e X.env)) (TP X pins σ Q) X.xe s
def PW (X:Cx) (e:Expr) (t:TT):Prop :=
 ∀ (whole:Sem Value) (pins:List (Addr × Obj)) (s:Shared) (σ:St) (H:Hp) (Q:Bool->Hp->Prop),Inv X pins σ H s->t σ H Q->wpAny (model X.prog X.w) X.A (isTrue e X.env whole) (TP X pins σ Q) X.xe s
theorem PW.pt {X:Cx} {e:Expr} {t:TT} (h:PW X e t):PT X e t:=h _
def PA (X:Cx) (es:List Expr) (t:TA):Prop :=
 ∀ (pos:Pos) (pins:List (Addr × Obj)) (s:Shared) (σ:St) (H:Hp) (Q:List V->Hp->Prop),Inv X pins σ H s->t σ H Q->wpAny (model X.prog X.w) X.A (spliced (backTo pos (starEach es X.env))) (AP X pins σ Q) X.xe s
def PS (X:Cx) (st:Stmt) (t:TS):Prop :=
 ∀ (pins:List (Addr × Obj)) (s:Shared) (σ:St) (H:Hp) (D:Ends),Inv X pins σ H s->t D σ H->wpAny (model X.prog X.w) X.A (exec st X.env) (SP X pins D) X.xe s
def PSs (X:Cx) (st:List Stmt) (t:TS):Prop :=
 ∀ (pins:List (Addr × Obj)) (s:Shared) (σ:St) (H:Hp) (D:Ends),Inv X pins σ H s->t D σ H->wpAny (model X.prog X.w) X.A (execs st X.env) (SP X pins D) X.xe s
theorem thn {α:Type} {t:Sem α} {Q Q':α->Shared->Prop} {M:Model} {A:Around} {E:Value->Shared->Prop} {s:Shared} (h:wpAny M A t Q E s) (hQ:∀ a s,Q a s->Q' a s):wpAny M A t Q' E s:=wpAny_mono h hQ fun _ _ x=>x
section
variable {X:Cx}
def tVar (i:Nat):TE:=fun σ H Q=>∃ v,σ[i]?=some (some v) /\ Q v H
def tC (v:V):TE:=fun _ H Q=>Q v H
theorem v82 {i:Nat} {x:Str} {pos:Pos} (hN:X.N[i]?=some x) (hv:Vis X.env.scope x) (hd:(x == ("__debug__" : Str))=false:=by decide) (hcd:(x == ("__classdict__" : Str))=false:=by decide):PE X (.Name x pos) (tVar i):=by
 intro pins s σ H Q I h;obtain ⟨v,e,h⟩:=h;obtain ⟨m,hn,hl⟩:=I.loc;obtain ⟨u,r,l⟩:=hl i x v hN e hv;have fin:EP X pins σ Q u s:=⟨v,H,I,r,h⟩
 rcases l with ⟨hk,hm⟩ | ⟨hk,c,hc,hcell⟩
 ·exact wpAny_Name (wpAny_loadName_local I.ok.kind hk hn hm fin) hd
 ·rcases hk with hk | hk
  ·exact wpAny_Name (wpAny_loadName_cell I.ok.kind hk hc hcell fin) hd
  ·exact wpAny_Name (wpAny_loadName_free I.ok.kind hk hc hcell fin hcd) hd
theorem vr4 {i j pos}:PE X (.Constant (.int i) j pos) (tC (.int i)):=fun _ _ _ H _ I h=>wpAny_Constant_int ⟨.int i,H,I.tok _,⟨_,rfl⟩,h⟩
theorem w02 {b j pos}:PE X (.Constant (.bool b) j pos) (tC (.bl b)):=fun _ _ _ H _ I h=>Constant_bool ⟨.bl b,H,I,rfl,h⟩
theorem vr2 {j pos}:PE X (.Constant .none j pos) (tC .non):=fun _ _ _ H _ I h=>Constant_none ⟨.non,H,I,rfl,h⟩
theorem vq9 {x j pos}:PE X (.Constant (.str x) j pos) (tC (.str x)):=fun _ _ _ H _ I h=>Calls.Constant_str ⟨.str x,H,I.tok _,⟨_,rfl⟩,h⟩
def Gl (X:Cx) (x:Str):Prop:=X.env.kindOf x=some .globalImplicit
theorem u75 {E:Value->Shared->Prop} {pins:List (Addr × Obj)} {s:Shared} {σ:St} {H:Hp} {x:Str} {u:Value} {pos:Pos} {Q:Value->Shared->Prop} (I:Inv X pins σ H s) (hg:Gl X x) (hm:X.mg x=some u) (h:Q u s)
  (hd:(x == ("__debug__" : Str))=false:=by decide):wpAny (model X.prog X.w) X.A (eval (.Name x pos) X.env) Q E s :=
 Calls.Name_function_global I.ok.kind hg (Calls.loadGlobal_global (by rw [I.ok.glob];exact I.mod.glob.keeps I.bk) hm h) hd
theorem uf3 {E:Value->Shared->Prop} {pins:List (Addr × Obj)} {s:Shared} {σ:St} {H:Hp} {x:Str} {u:Value} {pos:Pos} {Q:Value->Shared->Prop} (I:Inv X pins σ H s) (hg:Gl X x) (hm:X.mg x=none) (hv:bootBuiltins x=some u) (h:Q u s)
  (hn:x ≠ "__name__" := by decide) (hd:(x == ("__debug__" : Str))=false:=by decide):wpAny (model X.prog X.w) X.A (eval (.Name x pos) X.env) Q E s:=by
 obtain ⟨mb,h1,h2⟩:=I.mod.blt;exact Calls.Name_function_global I.ok.kind hg (Calls.loadGlobal_builtin (by rw [I.ok.glob];exact I.mod.glob.keeps I.bk) hm (by rw [I.ok.blt];exact h1.keeps I.bk) ((h2 x hn).trans hv) h) hd
theorem vf1 {x:Str} {v:V} {u:Value} {pos:Pos} (hg:Gl X x) (hm:X.mg x=some u) (r:RelV v u) (hd:(x == ("__debug__" : Str))=false:=by decide):PE X (.Name x pos) (tC v) :=
 fun _ _ _ H _ I h=>u75 I hg hm ⟨v,H,I,r,h⟩ hd
theorem vf5 {x:Str} {v:V} {u:Value} {pos:Pos} (hg:Gl X x) (hm:X.mg x=none) (hv:bootBuiltins x=some u) (r:RelV v u) (hn:x ≠ "__name__" := by decide) (hd:(x == ("__debug__" : Str))=false:=by decide):PE X (.Name x pos) (tC v) :=
 fun _ _ _ H _ I h=>uf3 I hg hm hv ⟨v,H,I,r,h⟩ hn hd
variable {a b:Expr} {ta tb:TE} {pos:Pos}
def tB (t:TE):TT:=fun σ H Q=>t σ H fun x H1=>∃ c,x=.bl c /\ Q c H1
theorem vp7 {e:Expr} {t:TE} (h:PE X e t) (he:∀ whole,isTrue e X.env whole=(do let v <- whole;standAt e.pos;holding [v] (truthy v)):=by intro _;rfl):PT X e (tB t):=by
 intro pins s σ H Q I hw
 (refine isTrue_plain (thn (h pins s σ H _ I hw) ?_) (he _);rintro v s1 ⟨x,H1,I1,r1,q1⟩)
 obtain ⟨d,rfl,q⟩:=q1;cases r1;exact wpAny_truthy_bool ⟨H1,I1,q⟩
variable {tA tB':TT} {rest:List Expr}
def tAnd (t u:TT):TT:=fun σ H Q=>t σ H fun c H1=>if c=true then u σ H1 Q else Q false H1
def tOr (t u:TT):TT:=fun σ H Q=>t σ H fun c H1=>if c=true then Q true H1 else u σ H1 Q
def tNot (t:TT):TT:=fun σ H Q=>t σ H fun c H1=>Q (!c) H1
theorem vd7 (ha:PT X a tA):PW X (.BoolOp .And [a] pos) tA:=by
 intro wh pins s σ H Q I h;refine isTrue_and (thn (ha pins s σ H Q I h) fun c s1 e=>?_);cases c with
 | true=>exact isTrue_and_nil e
 | false=>exact e
theorem vp5 (ha:PT X a tA):PW X (.BoolOp .Or [a] pos) tA:=by
 intro wh pins s σ H Q I h;refine isTrue_or (thn (ha pins s σ H Q I h) fun c s1 e=>?_);cases c with
 | false=>exact isTrue_or_nil e
 | true=>exact e
theorem vp6 (ha:PT X a tA) (hb:PW X (.BoolOp .And (b::rest) pos) tB'):PW X (.BoolOp .And (a::b::rest) pos) (tAnd tA tB'):=by
 intro wh pins s σ H Q I h
 (refine isTrue_and (thn (ha pins s σ H _ I h) ?_);rintro c s1 ⟨H1,I1,q1⟩)
 cases c with
 | true=>exact hb wh pins s1 σ H1 Q I1 q1
 | false=>exact ⟨H1,I1,q1⟩
theorem vz5 (ha:PT X a tA) (hb:PW X (.BoolOp .Or (b::rest) pos) tB'):PW X (.BoolOp .Or (a::b::rest) pos) (tOr tA tB'):=by
 intro wh pins s σ H Q I h
 (refine isTrue_or (thn (ha pins s σ H _ I h) ?_);rintro c s1 ⟨H1,I1,q1⟩)
 cases c with
 | true=>exact ⟨H1,I1,q1⟩
 | false=>exact hb wh pins s1 σ H1 Q I1 q1
theorem vp8 (ha:PT X a tA):PT X (.UnaryOp .Not a pos) (tNot tA):=by
 intro pins s σ H Q I h;exact isTrue_not (ha pins s σ H (fun c H1=>Q (!c) H1) I h)
def vo8 (ta tb:TE):TE:=fun σ H Q=>ta σ H fun x H1=>∃ c,x=.bl c /\ if c=true then tb σ H1 Q else Q (.bl false) H1
def vo4 (ta:TE):TE:=fun σ H Q=>ta σ H fun x H1=>∃ c,x=.bl c /\ Q (.bl (!c)) H1
theorem vr0 {op} {t:TE} (h:PE X a t):PE X (.BoolOp op [a] pos) t:=fun pins s σ H Q I hw=>BoolOp_one (h pins s σ H Q I hw)
theorem vr5 (ha:PE X a ta) (hb:PE X (.BoolOp .And (b::rest) pos) tb):PE X (.BoolOp .And (a::b::rest) pos) (vo8 ta tb):=by
 intro pins s σ H Q I h
 (refine BoolOp_and (thn (ha pins s σ H _ I h) ?_);rintro v s1 ⟨x,H1,I1,r1,q1⟩)
 obtain ⟨c,rfl,q1⟩:=q1;cases r1;refine wpAny_truthy_bool ?_;cases c with
 | true=>exact hb pins s1 σ H1 Q I1 q1
 | false=>exact ⟨.bl false,H1,I1,rfl,q1⟩
theorem vr1 (ha:PE X a ta):PE X (.UnaryOp .Not a pos) (vo4 ta):=by
 intro pins s σ H Q I h
 (refine UnaryOp_ (thn (ha pins s σ H _ I h) ?_);rintro v s1 ⟨x,H1,I1,r1,q1⟩)
 obtain ⟨c,rfl,q1⟩:=q1;cases r1;exact not_of (wpAny_truthy_bool ⟨.bl (!c),H1,I1,rfl,q1⟩)
def tIf (t:TT) (ta tb:TE):TE:=fun σ H Q=>t σ H fun c H1=>if c=true then ta σ H1 Q else tb σ H1 Q
theorem v21 {c:Expr} (hc:PT X c tA) (ha:PE X a ta) (hb:PE X b tb):PE X (.IfExp c a b pos) (tIf tA ta tb):=by
 intro pins s σ H Q I h
 (refine wpAny_IfExp (thn (hc pins s σ H _ I h) ?_);rintro d s1 ⟨H1,I1,q1⟩)
 cases d with
 | true=>exact ha pins s1 σ H1 Q I1 q1
 | false=>exact hb pins s1 σ H1 Q I1 q1
end
def SqL (K:PySem.W.Frag) (H:Hp) (a:Addr) (xs:List V):Prop :=
 Rd H a (.lst xs) \/
  ∃ (o:Obj) (its:Array Value) (n:Nat),K.lookup a=some o /\ o.cls=.type "list" /\ o.dict=none /\ o.data=.seq its n /\ its.size<=sizeLine /\ Vals xs its.toList
def SqT (K:PySem.W.Frag) (H:Hp) (a:Addr) (xs:List V):Prop :=
 Rd H a (.tup xs) \/
  ∃ (o:Obj) (its:Array Value) (n:Nat),K.lookup a=some o /\ o.cls=.type "tuple" /\ o.data=.seq its n /\ its.size<=sizeLine /\ Vals xs its.toList /\ o.dict=none
def absV:Value->Option V
 | .none=>some .non
 | .bool b=>some (.bl b)
 | .int i _=>some (.int i)
 | .str x _=>some (.str x)
 | .bytes b _=>some (.byt b)
 | .float b _=>some (.flt b)
 | .ref a=>some (.ref a)
 | .type n=>some (.ty n)
 | _=>none
theorem RelV.abs {x:V} {u:Value} (r:RelV x u):absV u=some x:=by
 cases x with
 | non=>cases r;rfl
 | bl _=>cases r;rfl
 | int _=>obtain ⟨t,rfl⟩:=r;rfl
 | str _=>obtain ⟨t,rfl⟩:=r;rfl
 | byt _=>obtain ⟨t,rfl⟩:=r;rfl
 | flt _=>obtain ⟨t,rfl⟩:=r;rfl
 | ref _=>cases r;rfl
 | ty _=>cases r;rfl
theorem RelV.inj {x y:V} {u:Value} (r:RelV x u) (q:RelV y u):x=y:=Option.some.inj (r.abs.symm.trans q.abs)
theorem Vals.inj:∀ {xs ys:List V} {us:List Value},Vals xs us->Vals ys us->xs=ys
 | _,_,_,.nil,.nil=>rfl
 | _,_,_,.cons r t,.cons r' t'=>by rw [r.inj r',Vals.inj t t']
section
variable {X:Cx} {pins:List (Addr × Obj)} {σ:St} {H:Hp} {s:Shared} {a:Addr} {xs ys:List V}
theorem SqL.of {K:PySem.W.Frag} (h:H a=some (.lst xs)):SqL K H a xs:=.inl (.inl h)
theorem SqT.of {K:PySem.W.Frag} (h:H a=some (.tup xs)):SqT K H a xs:=.inl (.inl h)
theorem Inv.list (I:Inv X pins σ H s) (h:SqL X.K H a xs):∃ its:List Value,Vals xs its /\ PlainL s.heap a its.toArray /\ xs.length<=sizeLine:=by
 rcases h with h | ⟨o,its,n,hk,hc,hd,hs,hz,r⟩
 ·obtain ⟨z,its,n,r,e⟩:=h.ok I.hok
  exact ⟨its,r,⟨_,n,e,rfl,rfl,rfl⟩,z⟩
 ·refine ⟨its.toList,r,⟨o,n,I.kIn a o hk,hc,hd,by simpa using hs⟩,?_⟩
  have e:=r.length;simp only [Array.length_toList] at e;omega
theorem Inv.tuple (I:Inv X pins σ H s) (h:SqT X.K H a xs):∃ its:List Value,Vals xs its /\ IsTup s.heap a its.toArray /\ xs.length<=sizeLine:=by
 rcases h with h | ⟨o,its,n,hk,hc,hs,hz,r,_⟩
 ·obtain ⟨z,its,r,p⟩:=h.ok I.hok
  exact ⟨its,r,p.tup,z⟩
 ·refine ⟨its.toList,r,⟨o,I.kIn a o hk,hc,n,by simpa using hs⟩,?_⟩
  have e:=r.length;simp only [Array.length_toList] at e;omega
theorem Inv.list_inj (I:Inv X pins σ H s) (h:SqL X.K H a xs) (h':SqL X.K H a ys):xs=ys:=by
 obtain ⟨its,r,⟨o,n,e,_,_,d⟩,_⟩:=I.list h;obtain ⟨its',r',⟨o',n',e',_,_,d'⟩,_⟩:=I.list h';rw [e] at e';cases e';rw [d] at d';injection d' with d1 _
 have:its=its':=by simpa using congrArg Array.toList d1
 subst this;exact r.inj r'
theorem Inv.tuple_inj (I:Inv X pins σ H s) (h:SqT X.K H a xs) (h':SqT X.K H a ys):xs=ys:=by
 obtain ⟨its,r,⟨o,e,_,n,d⟩,_⟩:=I.tuple h;obtain ⟨its',r',⟨o',e',_,n',d'⟩,_⟩:=I.tuple h';rw [e] at e';cases e';rw [d] at d';injection d' with d1 _
 have:its=its':=by simpa using congrArg Array.toList d1
 subst this;exact r.inj r'
end
abbrev Cx.wish (X:Cx) (E:Value->Shared->Prop):Cx:={ X with xe:=E }
abbrev Cx.nox (X:Cx):Cx:=X.wish fun _ _=>False
theorem Cx.Ok.wish {X:Cx} (ok:X.Ok) (E:Value->Shared->Prop):(X.wish E).Ok :=
 ⟨ok.mod,ok.kind,ok.glob,ok.blt,ok.above,ok.inj,ok.has,ok.cab,ok.hd,ok.frames,ok.stk,ok.exf,ok.bs,ok.bsz,ok.noex,ok.exfs,ok.funs,ok.frf⟩
theorem Cx.Ok.unwish {X:Cx} {E:Value->Shared->Prop} (ok:(X.wish E).Ok):X.Ok :=
 ⟨ok.mod,ok.kind,ok.glob,ok.blt,ok.above,ok.inj,ok.has,ok.cab,ok.hd,ok.frames,ok.stk,ok.exf,ok.bs,ok.bsz,ok.noex,ok.exfs,ok.funs,ok.frf⟩
section
variable {X:Cx} {pins:List (Addr × Obj)} {σ:St} {H:Hp} {s:Shared} {E:Value->Shared->Prop}
theorem Inv.wish (I:Inv X pins σ H s) (E:Value->Shared->Prop):Inv (X.wish E) pins σ H s:=⟨I.ok.wish E,I.os,I.bare,I.base,I.loc,I.cell,I.free,I.freeC,I.pin,I.hok,I.len⟩
theorem Inv.unwish (I:Inv (X.wish E) pins σ H s):Inv X pins σ H s:=⟨I.ok.unwish,I.os,I.bare,I.base,I.loc,I.cell,I.free,I.freeC,I.pin,I.hok,I.len⟩
theorem SP.unwish {D:Ends} {f:Flow} {s':Shared} (h:SP (X.wish E) pins D f s'):SP X pins D f s':=by
 cases f with
 | next=>obtain ⟨σ',H',I,q⟩:=h;exact ⟨σ',H',I.unwish,q⟩
 | brk=>obtain ⟨σ',H',I,q⟩:=h;exact ⟨σ',H',I.unwish,q⟩
 | cont=>obtain ⟨σ',H',I,q⟩:=h;exact ⟨σ',H',I.unwish,q⟩
 | ret u=>obtain ⟨v,σ',H',I,r,q⟩:=h;exact ⟨v,σ',H',I.unwish,r,q⟩
theorem PE.nox {e:Expr} {t:TE} (h:PE X.nox e t):PE X e t:=fun pins s σ H Q I hw =>
 wpAny_mono (h pins s σ H Q (I.wish _) hw) (fun _ _ ⟨v,H',I',r,q⟩=>⟨v,H',I'.unwish,r,q⟩) fun _ _ z=>False.elim z
theorem PT.nox {e:Expr} {t:TT} (h:PT X.nox e t):PT X e t:=fun pins s σ H Q I hw =>
 wpAny_mono (h pins s σ H Q (I.wish _) hw) (fun _ _ ⟨H',I',q⟩=>⟨H',I'.unwish,q⟩) fun _ _ z=>False.elim z
theorem PSs.nox {st:List Stmt} {t:TS} (h:PSs X.nox st t):PSs X st t:=fun pins s σ H D I hw =>
 wpAny_mono (h pins s σ H D (I.wish _) hw) (fun _ _ q=>q.unwish) fun _ _ z=>False.elim z
end
section
variable {X:Cx} {st:Stmt} {rest:List Stmt} {t u:TS} {e:Expr} {te:TE} {pos:Pos}
def vo5:TS:=fun D σ H=>D.nx σ H
def tSeq (t u:TS):TS:=fun D σ H=>t { D with nx:=u D } σ H
theorem ve0:PSs X [] vo5:=fun _ _ σ H _ I h=>wpAny_execs_nil ⟨σ,H,I,h⟩
theorem uk5 (h1:PS X st t) (h2:PSs X rest u):PSs X (st::rest) (tSeq t u):=by
 intro pins s σ H D I h;refine wpAny_execs_cons (thn (h1 pins s σ H { D with nx:=u D } I h) fun f s1 q=>?_);cases f with
 | next =>
  obtain ⟨σ',H',I',q⟩:=q;exact h2 pins s1 σ' H' D I' q
 | ret v=>exact q
 | brk=>exact q
 | cont=>exact q
theorem ur7 (h1:PS X st t):PSs X [st] t:=by
 intro pins s σ H D I h;refine wpAny_execs_cons (thn (h1 pins s σ H D I h) fun f s1 q=>?_);cases f with
 | next=>exact wpAny_execs_nil q
 | ret v=>exact q
 | brk=>exact q
 | cont=>exact q
theorem Inv.quiet {pins:List (Addr × Obj)} {σ:St} {H:Hp} {s:Shared} (I:Inv X pins σ H s):interactive X.env=false:=by simp [interactive,I.ok.kind]
def vb7 (te:TE):TS:=fun D σ H=>te σ H fun _ H1=>D.nx σ H1
theorem ur8 (he:PE X e te) (hs:swapsWith e none pos.line X.env=pure false:=by rfl):PS X (.Expr e pos) (vb7 te):=by
 intro pins s σ H D I h
 (refine wpAny_Expr_any (thn (he pins s σ H _ I h) ?_) I.quiet hs;rintro v s1 ⟨x,H1,I1,r1,q1⟩;exact ⟨σ,H1,I1,q1⟩)
def tRet (te:TE):TS:=fun D σ H=>te σ H D.rt
theorem vq0 (he:PE X e te):PS X (.Return (some e) pos) (tRet te):=by
 intro pins s σ H D I h
 (refine wpAny_Return_some (thn (he pins s σ H _ I h) ?_);rintro v s1 ⟨x,H1,I1,r1,q1⟩;exact ⟨x,σ,H1,I1,r1,q1⟩)
def tIfS (c:TT) (t u:TS):TS:=fun D σ H=>c σ H fun b H1=>if b=true then t D σ H1 else u D σ H1
theorem vz6 {c:Expr} {a b:List Stmt} {tc:TT} (hc:PT X c tc) (ha:PSs X a t) (hb:PSs X b u):PS X (.If c a b pos) (tIfS tc t u):=by
 intro pins s σ H D I h
 (refine wpAny_If (thn (hc pins s σ H _ I h) ?_);rintro d s1 ⟨H1,I1,q1⟩)
 cases d with
 | true=>exact ha pins s1 σ H1 D I1 q1
 | false=>exact hb pins s1 σ H1 D I1 q1
end
abbrev TG:=V->St->Hp->(St->Hp->Prop)->Prop
abbrev TGs:=List V->St->Hp->(St->Hp->Prop)->Prop
def PG (X:Cx) (target:Expr) (t:TG):Prop :=
 ∀ (pins:List (Addr × Obj)) (s:Shared) (σ:St) (H:Hp) (v:V) (u:Value) (Q:St->Hp->Prop),Inv X pins σ H s->RelV v u->t v σ H Q ->
  wpAny (model X.prog X.w) X.A (assign target X.env u) (fun _ s'=>∃ σ' H',Inv X pins σ' H' s' /\ Q σ' H') X.xe s
def PGs (X:Cx) (ts:List Expr) (t:TGs):Prop :=
 ∀ (pins:List (Addr × Obj)) (s:Shared) (σ:St) (H:Hp) (vs:List V) (us:List Value) (Q:St->Hp->Prop),Inv X pins σ H s->Vals vs us->t vs σ H Q ->
  wpAny (model X.prog X.w) X.A (assignInOrder ((assignEach ts X.env).map (·.2)) us) (fun _ s'=>∃ σ' H',Inv X pins σ' H' s' /\ Q σ' H') X.xe s
abbrev TSet:=V->V->V->Hp->(Hp->Prop)->Prop
def PSet (X:Cx) (t:TSet):Prop :=
 ∀ (pins:List (Addr × Obj)) (s:Shared) (σ:St) (H:Hp) (o i v:V) (ov iv u:Value) (Q:Hp->Prop),Inv X pins σ H s->RelV o ov->RelV i iv->RelV v u->t o i v H Q ->
  wpAny (model X.prog X.w) X.A (setItem ov iv u) (fun _ s'=>∃ H',Inv X pins σ H' s' /\ Q H') X.xe s
section
variable {X:Cx} {pos:Pos}
def vj1 (i:Nat):TG:=fun v σ H Q=>Q (σ.set i (some v)) H
theorem ve7 {i:Nat} {x:Str} (hN:X.N.Nodup) (hi:X.N[i]?=some x) (hx:Loc X.env.scope x) (hf:X.fn x=true \/ X.env.scope.names.lookup x=some .local:=by first | exact .inl rfl | exact .inr rfl | assumption):PG X (.Name x pos) (vj1 i):=by
 intro pins s σ H v u Q I r h;exact wpAny_assign_Name (u81 I hN hi hx r (fun s' I'=>⟨_,H,I',h⟩) hf)
def gNil:TGs:=fun vs σ H Q=>vs=[] /\ Q σ H
def vw8 (t:TG) (u:TGs):TGs:=fun vs σ H Q=>∃ v r,vs=v::r /\ t v σ H fun σ' H'=>u r σ' H' Q
theorem ve6:PGs X [] gNil:=by
 intro pins s σ H vs us Q I r h;obtain ⟨e,h⟩:=h;subst e;cases r;exact assignInOrder_nil ⟨σ,H,I,h⟩
theorem v18 {e:Expr} {es:List Expr} {t:TG} {u:TGs} (h1:PG X e t) (h2:PGs X es u)
  (hs:(assignEach (e::es) X.env).map (·.2)=assign e X.env::(assignEach es X.env).map (·.2):=by rfl):PGs X (e::es) (vw8 t u):=by
 intro pins s σ H vs us Q I r h;obtain ⟨v,vr,e1,h⟩:=h;subst e1;cases r with
 | cons r rr =>
  rw [hs]
  (refine assignInOrder_cons (thn (h1 pins s σ H _ _ _ I r h) ?_);rintro _ s1 ⟨σ1,H1,I1,q1⟩)
  exact h2 pins s1 σ1 H1 _ _ Q I1 rr q1
def gTup (K:PySem.W.Frag) (n:Nat) (t:TGs):TG:=fun v σ H Q=>∃ a xs,v=.ref a /\ SqT K H a xs /\ xs.length=n /\ t xs σ H Q
theorem vq6 {es:List Expr} {k:Nat} {t:TGs} {n:Nat} (hc:X.calm=true) (h:PGs X es t)
  (hn:(assignEach es X.env).length=n:=by rfl) (hst:(assignEach es X.env).findIdx? (·.1)=none:=by rfl):PG X (.Tuple es k pos) (gTup X.K n t):=by
 intro pins s σ H v u Q I r hw;obtain ⟨a,xs,e1,hq,hl,hw⟩:=hw;subst e1;cases r;obtain ⟨its,rv,ht,hz⟩:=I.tuple hq;refine assign_Tuple_tuple (I.ok.hd hc) ht (by simp [hn,<- hl,rv.length]) hst fun h' hx=>?_
 have I1:Inv X pins σ H { s with heap:=h' }:=I.kept (t':=s.toks) fun b o e=>hx b o (Nat.ne_of_lt (Heap.lt_size e)) e
 exact h pins _ σ H xs _ Q I1 (by simpa using rv) hw
def gSub (to ti:TE) (t:TSet):TG:=fun v σ H Q=>to σ H fun o H1=>ti σ H1 fun i H2=>t o i v H2 fun H3=>Q σ H3
theorem vq7 {o i:Expr} {to ti:TE} {t:TSet} (ho:PE X o to) (hi:PE X i ti) (hs:PSet X t)
  (ha:∀ v,assign (.Subscript o i pos) X.env v=(do
   let ov <- holding [v] (eval o X.env)
   let iv <- holding [v,ov] (eval i X.env)
   standAt pos
   holding [v,ov,iv] (setItem ov iv v)
   release [v,ov,iv] []):=by intro _;rfl):PG X (.Subscript o i pos) (gSub to ti t):=by
 intro pins s σ H v u Q I r h;rw [ha]
 (refine wpAny_bind (wpAny_holding (thn (ho pins s σ H _ I h) ?_));rintro ov s1 ⟨x,H1,I1,r1,q1⟩)
 (refine wpAny_bind (wpAny_holding (thn (hi pins s1 σ H1 _ I1 q1) ?_));rintro iv s2 ⟨y,H2,I2,r2,q2⟩)
 (refine wpAny_bind (wpAny_standAt (wpAny_bind (wpAny_holding (thn (hs pins s2 σ H2 x y v ov iv u _ I2 r1 r2 r q2) ?_))));rintro _ s3 ⟨H3,I3,q3⟩)
 exact wpAny_release ⟨σ,H3,I3,q3⟩
def tAsg (te:TE) (g:TG):TS:=fun D σ H=>te σ H fun x H1=>g x σ H1 D.nx
theorem vq2 {tg e:Expr} {te:TE} {g:TG} (he:PE X e te) (hg:PG X tg g) (hs:swapsWithSole [tg] e pos.line X.env=pure false:=by rfl) (hw:swappedStores [tg] e X.env=pure none:=by rfl)
  (h1:(assignEach [tg] X.env).map (·.2)=[assign tg X.env]:=by rfl):PS X (.Assign [tg] e pos) (tAsg te g):=by
 intro pins s σ H D I h
 (refine wpAny_Assign_stores (thn (he pins s σ H _ I h) ?_) hs hw;rintro v s1 ⟨x,H1,I1,r1,q1⟩)
 rw [h1];exact thn (hg pins s1 σ H1 x v _ I1 r1 q1) fun _ s2 q=>q
theorem vp9 {i:Nat} {x:Str} {e:Expr} {te:TE} {pos':Pos} (hN:X.N.Nodup) (hi:X.N[i]?=some x) (hx:Loc X.env.scope x) (he:PE X e te) (hs:swapsWith e (some (.Name x pos')) pos.line X.env=pure false:=by rfl) (hf:X.fn x=true \/ X.env.scope.names.lookup x=some .local:=by first | exact .inl rfl | exact .inr rfl | assumption) :
  PS X (.Assign [.Name x pos'] e pos) (tAsg te (vj1 i)):=by
 intro pins s σ H D I h
 (refine wpAny_Assign_Name (thn (he pins s σ H _ I h) ?_) hs;rintro v s1 ⟨y,H1,I1,r1,q1⟩)
 exact u81 I1 hN hi hx r1 (fun s2 I2=>⟨_,H1,I2,q1⟩) hf
end
structure It where
 go:Nat->Hp->Prop
 yld:Nat->Hp->V->Hp->Prop
 stop:Nat->Hp->Prop
def FpOk (X:Cx) (pins:List (Addr × Obj)) (H:Hp) (b:Addr):Prop :=
 H b=none /\ b ≠ X.env.locals /\ b ∉ X.fs /\ (b ∈ X.ex \/ X.s₀.heap.objs.size<=b) /\ (∀ x c,X.env.cells.lookup x=some c->c ≠ b) /\ ∀ p ∈ X.pn++pins,p.1 ≠ b
theorem Inv.fpOk {X:Cx} {pins:List (Addr × Obj)} {σ:St} {H H':Hp} {s:Shared} {b:Addr} (I:Inv X pins σ H s) (hb:s.heap.objs.size<=b) (hn:H' b=none):FpOk X pins H' b:=by
 refine ⟨hn,Nat.ne_of_gt (Nat.lt_of_lt_of_le I.lt hb),I.nofs hb,.inr (Nat.le_trans I.sz hb),fun x c e z=>?_,fun p hp z=>?_⟩
 ·obtain ⟨v,q⟩:=I.cell x c e
  exact absurd (Nat.lt_of_lt_of_le q.lt (by rw [z];exact hb)) (Nat.lt_irrefl _)
 ·exact absurd (Nat.lt_of_lt_of_le (Heap.lt_size (I.pin p hp).1) (by rw [z];exact hb)) (Nat.lt_irrefl _)
structure Turn (P:Program) (w:World) (K:PySem.W.Frag) (tg:Expr) (J:It) (fp:List Addr) (it:Addr) (tn:Nat->Heap->Prop):Prop where
 mem:it ∈ fp
 obj:∀ i h,tn i h->∀ b ∈ fp,∃ o,h.get? b=some o /\ ∀ v,o.data ≠ .cell v
 keep:∀ i h h',tn i h->(∀ b ∈ fp,∀ o,h.get? b=some o->h'.get? b=some o)->tn i h'
 item:∀ (X:Cx),X.prog=P->X.w=w->X.K=K->X.calm=true->∀ (i:Nat) (pins:List (Addr × Obj)) (s:Shared) (σ:St) (H:Hp) (E:Value->Shared->Prop),Inv X pins σ H s->(∀ b ∈ fp,FpOk X pins H b)->tn i s.heap->J.go i H ->
  wpAny (model P w) X.A (pyNext (.ref it)) (fun r s1=>∃ u,r=some u /\
   wpAny (model P w) X.A (letOwnedTupleGo tg (.ref it) u) (fun _ s2=>∃ x H',Inv X pins σ H' s2 /\ RelV x u /\ J.yld i H x H' /\ tn (i+1) s2.heap /\ ∀ b ∈ fp,H' b=none) E s1) E s
 done:∀ (X:Cx),X.prog=P->X.w=w->X.K=K->X.calm=true->∀ (i:Nat) (pins:List (Addr × Obj)) (s:Shared) (σ:St) (H:Hp) (E:Value->Shared->Prop),Inv X pins σ H s->(∀ b ∈ fp,FpOk X pins H b)->tn i s.heap->J.stop i H ->
  wpAny (model P w) X.A (pyNext (.ref it)) (fun r s1=>r=none /\ Inv X pins σ H s1) E s
 self:∀ (A:Around) (i:Nat) (s:Shared) (Q:Value->Shared->Prop) (E:Value->Shared->Prop),tn i s.heap->Q (.ref it) s->wpAny (model P w) A (pyIter (.ref it)) Q E s
abbrev TI:=St->Hp->(It->Hp->Prop)->Prop
def PIE (X:Cx) (pins:List (Addr × Obj)) (σ:St) (tg:Expr) (R:It->Hp->Prop) (itv:Value) (s2:Shared):Prop :=
 ∃ (it:Addr) (fp:List Addr) (tn:Nat->Heap->Prop) (J:It) (H':Hp),itv=.ref it /\ Inv X pins σ H' s2 /\ Turn X.prog X.w X.K tg J fp it tn /\ tn 0 s2.heap /\ (∀ b ∈ fp,FpOk X pins H' b) /\ R J H'
def PI (X:Cx) (tg iter:Expr) (wi:TI):Prop :=
 ∀ (pins:List (Addr × Obj)) (s:Shared) (σ:St) (H:Hp) (R:It->Hp->Prop),Inv X pins σ H s->wi σ H R ->
  wpAny (model X.prog X.w) X.A (eval iter X.env) (fun v s1=>wpAny (model X.prog X.w) X.A (pyIter v) (PIE X pins σ tg R) X.xe s1) X.xe s
theorem uw7 {M : Model} {A : Around} {E : Value -> Shared -> Prop} {s : Shared} {tg : Expr} {it : Addr} {u : Value} {o : Obj} {n : String} {vs : Array Value} {Q : Unit -> Shared -> Prop} (ho : s.heap.get? it = some o) (hc : o.cls = .type n) (hd : o.data = .fields vs)
    (hn:["enumerate", "zip", "dict_itemiterator", "dict_reverseitemiterator", "odict_iterator", "itertools.zip_longest", "itertools.pairwise"].contains n=false) (hQ:Q () s):wpAny M A (letOwnedTupleGo tg (.ref it) u) Q E s:=by
  unfold letOwnedTupleGo;cases tg <;> first
    | exact wpAny_pure hQ
    | (cases u <;> first
        | exact wpAny_pure hQ
        | (refine wpAny_bind (wpAny_load ho ?_)
           rw [hc,hd]
           show wpAny M A (if (["enumerate", "zip", "dict_itemiterator", "dict_reverseitemiterator", "odict_iterator", "itertools.zip_longest", "itertools.pairwise"].contains n && vs[0]? == some (rawInt _))=true then _ else _) Q E s
           rw [if_neg (by intro h;rw [hn,Bool.false_and] at h;cases h)];exact wpAny_pure hQ))
def Itl (K:PySem.W.Frag) (a:Addr):It :=
 ⟨fun i H=>∃ xs x,SqL K H a xs /\ xs[i]?=some x,fun i H x H'=>H'=H /\ ∀ xs,SqL K H a xs->xs[i]?=some x,fun i H=>∃ xs,SqL K H a xs /\ xs.length<=i⟩
def Itt (K:PySem.W.Frag) (a:Addr):It :=
 ⟨fun i H=>∃ xs x,SqT K H a xs /\ xs[i]?=some x,fun i H x H'=>H'=H /\ ∀ xs,SqT K H a xs->xs[i]?=some x,fun i H=>∃ xs,SqT K H a xs /\ xs.length<=i⟩
def Itr (lo:Int) (n:Nat):It:=⟨fun i _=>i < n,fun i H x H'=>H'=H /\ x=.int (lo+i),fun i _=>n<=i⟩
theorem up9 {P:Program} {w:World} {K:PySem.W.Frag} {tg:Expr} (a it:Addr):Turn P w K tg (Itl K a) [it] it (fun i h=>h.IsListIter it a i) where
 mem:=by simp
 obj:=fun i h st b hb=>by
  have e:b=it:=by simpa using hb
  subst e;obtain ⟨o,e,c,d⟩:=st;exact ⟨o,e,fun v z=>by rw [d] at z;cases z⟩
 keep:=fun i h h' st k=>st.at fun o e=>k it (by simp) o e
 item:=by
  intro X hP hw hK hc i pins s σ H E I hf st hg;subst hP hw hK;obtain ⟨xs,x,hq,hx⟩:=hg;obtain ⟨its,rv,p,hz⟩:=I.list hq;obtain ⟨u,hu,ru⟩:=rv.get hx;obtain ⟨f0,f1,f2,f3,f4,f5⟩:=hf it (by simp);refine wpAny_pyNext_list_item st p.isList (x:=u) (by simpa using hu) fun h' st' sb=>?_
  have I1:Inv X pins σ H { s with heap:=h' }:=I.turned (t':=s.toks) (fun b o hb e=>(sb.2 b hb).trans e) f0 f1 f3 f4 f5
  obtain ⟨o,e,c,d⟩:=id st';exact ⟨u,rfl,uw7 (s:={ s with heap:=h' }) e c d (by decide) ⟨x,H,I1,ru,⟨rfl,fun ys hy=>by rw [I.list_inj hy hq];exact hx⟩,st',fun b hb=>(hf b hb).1⟩⟩
 done:=by
  intro X hP hw hK hc i pins s σ H E I hf st hg;subst hP hw hK;obtain ⟨xs,hq,hx⟩:=hg;obtain ⟨its,rv,p,hz⟩:=I.list hq;obtain ⟨f0,f1,f2,f3,f4,f5⟩:=hf it (by simp);have hl:=rv.length;exact wpAny_pyNext_list_end (I.ok.hd hc) st p.isList (by simp;omega) fun h' eb=>⟨rfl,I.turned (t':=s.toks) (fun b o hb e=>eb b o hb e) f0 f1 f3 f4 f5⟩
 self:=fun _ _ _ _ _ st h=>wpAny_pyIter_listiter st h
theorem un0 {P:Program} {w:World} {K:PySem.W.Frag} {tg:Expr} (a it:Addr):Turn P w K tg (Itt K a) [it] it (fun i h=>h.IsTupleIter it a i) where
 mem:=by simp
 obj:=fun i h st b hb=>by
  have e:b=it:=by simpa using hb
  subst e;obtain ⟨o,e,c,d⟩:=st;exact ⟨o,e,fun v z=>by rw [d] at z;cases z⟩
 keep:=fun i h h' st k=>st.at fun o e=>k it (by simp) o e
 item:=by
  intro X hP hw hK hc i pins s σ H E I hf st hg;subst hP hw hK;obtain ⟨xs,x,hq,hx⟩:=hg;obtain ⟨its,rv,p,hz⟩:=I.tuple hq;obtain ⟨u,hu,ru⟩:=rv.get hx;obtain ⟨f0,f1,f2,f3,f4,f5⟩:=hf it (by simp);refine wpAny_pyNext_tuple_item st (show s.heap.IsTuple a its.toArray from p) (x:=u) (by simpa using hu) fun h' st' sb=>?_
  have I1:Inv X pins σ H { s with heap:=h' }:=I.turned (t':=s.toks) (fun b o hb e=>(sb.2 b hb).trans e) f0 f1 f3 f4 f5
  obtain ⟨o,e,c,d⟩:=id st';exact ⟨u,rfl,uw7 (s:={ s with heap:=h' }) e c d (by decide) ⟨x,H,I1,ru,⟨rfl,fun ys hy=>by rw [I.tuple_inj hy hq];exact hx⟩,st',fun b hb=>(hf b hb).1⟩⟩
 done:=by
  intro X hP hw hK hc i pins s σ H E I hf st hg;subst hP hw hK;obtain ⟨xs,hq,hx⟩:=hg;obtain ⟨its,rv,p,hz⟩:=I.tuple hq;obtain ⟨f0,f1,f2,f3,f4,f5⟩:=hf it (by simp);have hl:=rv.length;exact wpAny_pyNext_tuple_end (I.ok.hd hc) st (show s.heap.IsTuple a its.toArray from p) (by simp;omega) fun h' eb=>⟨rfl,I.turned (t':=s.toks) (fun b o hb e=>eb b o hb e) f0 f1 f3 f4 f5⟩
 self:=fun _ _ _ _ _ st h=>wpAny_pyIter_tupleiter st h
theorem un1 {P:Program} {w:World} {K:PySem.W.Frag} {tg:Expr} (it:Addr) (lo:Int) (n:Nat):Turn P w K tg (Itr lo n) [it] it (fun i h=>IsRangeIter h it (lo+(i:Nat) * 1) ((n:Int) - (i:Nat)) 1) where
 mem:=by simp
 obj:=fun i h st b hb=>by
  have e:b=it:=by simpa using hb
  subst e;exact ⟨_,st,fun v z=>by
   have z':Data.fields _=Data.cell v:=z;cases z'⟩
 keep:=fun i h h' st k=>k it (by simp) _ st
 item:=by
  intro X hP hw hK hc i pins s σ H E I hf st hg;subst hP hw hK;obtain ⟨f0,f1,f2,f3,f4,f5⟩:=hf it (by simp);have W:=Walks.range (prog:=X.prog) (w:=X.w) (I.ok.hd hc) it lo 1 n;refine W.item i s _ _ hg st fun v h' tk hv st' kk=>?_
  obtain ⟨t,rfl⟩:=hv;have I1:Inv X pins σ H { s with heap:=h',toks:=tk }:=I.turned (fun b o hb e=>kk b o (by simpa using hb) e) f0 f1 f3 f4 f5
  refine ⟨_,rfl,uw7 (s:={ s with heap:=h',toks:=tk }) (n := "range_iterator") st' rfl rfl (by decide) ⟨.int (lo+i),H,I1,⟨t,?_⟩,⟨rfl,rfl⟩,st',fun b hb=>(hf b hb).1⟩⟩;rw [Int.mul_one]
 done:=by
  intro X hP hw hK hc i pins s σ H E I hf st hg;subst hP hw hK;obtain ⟨f0,f1,f2,f3,f4,f5⟩:=hf it (by simp);exact wpAny_pyNext_range_end (I.ok.hd hc) st (by have:n<=i:=hg;omega) fun h' eb=>⟨rfl,I.turned (t':=s.toks) (fun b o hb e=>eb b o hb e) f0 f1 f3 f4 f5⟩
 self:=fun _ _ _ _ _ st h=>wpAny_pyIter_rangeiter st h
section
variable {X:Cx} {tg:Expr}
theorem v12 {pins:List (Addr × Obj)} {σ:St} {H:Hp} {s:Shared} {R:It->Hp->Prop} {E:Value->Shared->Prop} {lo hi:Int} {t u v:Tok} {tk:Nat} (I:Inv X pins σ H s) (h1:-(2 ^ 62)<=lo) (h2:lo < 2 ^ 62) (h3:-(2 ^ 62)<=hi) (h4:hi < 2 ^ 62)
  (q:R (Itr lo (hi - lo).toNat) H):wpAny (model X.prog X.w) X.A (pyIter (.ref s.heap.objs.size)) (PIE X pins σ tg R) E { s with heap:=s.heap.push { cls:=.type "range",data:=.fields #[.int lo t,.int hi u,.int 1 v] },toks:=tk }:=by
 refine wpAny_pyIter_range (IsRange.new ..) (small_one h1 h2 h3 h4) ?_;have I1:Inv X pins σ H { s with heap:=s.heap.push { cls:=.type "range",data:=.fields #[.int lo t,.int hi u,.int 1 v] },toks:=tk }:=I.kept fun b o e=>Heap.get?_push_of_some _ e
 refine ⟨(s.heap.push { cls:=.type "range",data:=.fields #[.int lo t,.int hi u,.int 1 v] }).objs.size,[(s.heap.push { cls:=.type "range",data:=.fields #[.int lo t,.int hi u,.int 1 v] }).objs.size],_,_,H,rfl,
  I1.kept (t':=tk) fun b o e=>Heap.get?_push_of_some _ e,un1 _ lo (hi - lo).toNat,?_,fun b hb=>?_,q⟩
 ·have e1:lo+((0:Nat):Int) * 1=lo:=by simp
  have e2:(((hi - lo).toNat:Nat):Int) - ((0:Nat):Int)=Builtin.Range.rangeSize lo hi 1:=by rw [rangeSize_one];split <;> omega
  show IsRangeIter _ _ (lo+((0:Nat):Int) * 1) ((((hi - lo).toNat:Nat):Int) - ((0:Nat):Int)) 1
  rw [e1,e2];exact Heap.get?_push_size _ rfl
 ·have e:b=(s.heap.push { cls:=.type "range",data:=.fields #[.int lo t,.int hi u,.int 1 v] }).objs.size:=by simpa using hb
  subst e;exact I1.fpOk (Nat.le_refl _) (I1.hok.fresh (Nat.le_refl _))
def vw2 (ta:TA):TI:=fun σ H R=>ta σ H fun vs H1=>∃ j:Int,vs=[.int j] /\ -(2 ^ 62)<=j /\ j < 2 ^ 62 /\ R (Itr 0 j.toNat) H1
theorem us0 {a:Expr} {ta:TA} {p pos:Pos} (hg:Gl X "range") (hm:X.mg "range" = none) (ha:PA X [a] ta) (hs:starEach [a] X.env=[(false,eval a X.env)]:=by rfl):PI X tg (.Call (.Name "range" p) [a] [] pos) (vw2 ta):=by
 intro pins s σ H R I h
 (refine Call_ (uf3 I hg hm boot_range (PyProof.Rows.callWith_type1 (thn (ha pos pins s σ H _ I h) ?_) hs rfl));rintro us s1 ⟨vs,H1,I1,r1,q1⟩)
 obtain ⟨j,e,q1,q2,q⟩:=q1;subst e;cases r1 with
 | cons r rr =>
  cases rr;obtain ⟨t,rfl⟩:=r;exact call_range_1 (v12 I1 (by omega) (by omega) q1 q2 (by simpa using q))
def tFor (wi:TI) (g:TG) (tb:TS):TS:=fun D σ H=>wi σ H fun J H1=>∃ W:Nat->Nat->St->Hp->Prop,(∃ m,W 0 m σ H1) /\ ∀ i m σ H,W i m σ H ->
 (J.stop i H /\ D.nx σ H) \/ (J.go i H /\ ∃ N:St->Hp->Prop,(∀ σ' H',N σ' H'->∃ m',m' < m /\ W (i+1) m' σ' H') /\ ∀ x H',J.yld i H x H'->g x σ H' fun σ2 H2=>tb { D with nx:=N,ct:=N,bk:=D.nx } σ2 H2)
def ue8 (fp:List Addr) (h:Heap):List (Addr × Obj):=fp.filterMap fun b=>(h.get? b).map fun o=>(b,o)
theorem u58 {fp:List Addr} {h:Heap} {b:Addr} {o:Obj} (hb:b ∈ fp) (e:h.get? b=some o):(b,o) ∈ ue8 fp h:=List.mem_filterMap.mpr ⟨b,hb,by rw [e];rfl⟩
theorem us9 {fp:List Addr} {h:Heap} {p:Addr × Obj} (hp:p ∈ ue8 fp h):p.1 ∈ fp /\ h.get? p.1=some p.2:=by
 obtain ⟨b,hb,e⟩:=List.mem_filterMap.mp hp;cases q:h.get? b with
 | none=>rw [q] at e;cases e
 | some o =>
  rw [q] at e;have e':(b,o)=p:=Option.some.inj e;subst e';exact ⟨hb,q⟩
theorem Inv.pinned {pins:List (Addr × Obj)} {σ:St} {H:Hp} {s:Shared} {fp:List Addr} (I:Inv X pins σ H s) (hf:∀ b ∈ fp,FpOk X pins H b) (ho:∀ b ∈ fp,∃ o,s.heap.get? b=some o /\ ∀ v,o.data ≠ .cell v):Inv X (pins++ue8 fp s.heap) σ H s :=
 I.pins_of fun p hp=>(List.mem_append.mp hp).elim (fun z=>I.pin p (List.mem_append_right _ z)) fun z=>by
  obtain ⟨hb,e⟩:=us9 z;obtain ⟨f0,f1,f2,_⟩:=hf p.1 hb;obtain ⟨o,e',d⟩:=ho p.1 hb;rw [e] at e';cases e';exact ⟨e,f0,f1,f2,d⟩
theorem Inv.unpinned {pins pl:List (Addr × Obj)} {σ:St} {H:Hp} {s:Shared} (I:Inv X (pins++pl) σ H s):Inv X pins σ H s:=I.pins_of fun p hp=>I.pin p (List.mem_append_right _ (List.mem_append_left _ hp))
theorem vq1 {iter:Expr} {body:List Stmt} {wi:TI} {g:TG} {tb:TS} {pos:Pos} (hp:PassesOwn (model X.prog X.w) X.A X.env X.xe) (hc:X.calm=true) (hi:PI X tg iter wi) (hg:PG X tg g) (hb:PSs X body tb)
  (hs:∀ x,foldedSetIterable iter X.env x=pure x:=by intro _;rfl):PS X (.For tg iter body [] pos) (tFor wi g tb):=by
 intro pins s σ H D I h;refine wpAny_For (thn (hi pins s σ H _ I h) fun v s1 h1=>thn h1 fun itv s2 h2=>?_) hs;obtain ⟨it,fp,tn,J,H2,e,I2,T,st2,f2,W,⟨m0,w0⟩,turn⟩:=h2;subst e;have stat:∀ {H':Hp},(∀ b ∈ fp,H' b=none)->∀ b ∈ fp,FpOk X pins H' b:=fun hn b hb=>⟨hn b hb,(f2 b hb).2⟩
 refine codeAny_forLoop_any (fun n s'=>∃ i σ' H',Inv X pins σ' H' s' /\ tn i s'.heap /\ (∀ b ∈ fp,H' b=none) /\ W i n σ' H') ?_ m0 ⟨0,σ,H2,I2,st2,fun b hb=>(f2 b hb).1,w0⟩;rintro n s3 ⟨i,σ3,H3,I3,st3,fr3,w3⟩
 rcases turn i n σ3 H3 w3 with ⟨stop,qn⟩ | ⟨go,N,hN,step⟩
 ·(refine wpAny_passesOwn hp (thn (T.done X rfl rfl rfl hc i pins s3 σ3 H3 X.xe I3 (stat fr3) st3 stop) ?_);rintro r s4 ⟨hr,I4⟩)
  subst hr;exact wpAny_execs_nil ⟨σ3,H3,I4,qn⟩
 ·(refine wpAny_passesOwn hp (thn (T.item X rfl rfl rfl hc i pins s3 σ3 H3 X.xe I3 (stat fr3) st3 go) ?_);rintro r s4 ⟨u,hr,h4⟩)
  subst hr
  (refine wpAny_passesOwn hp (thn h4 ?_);rintro _ s5 ⟨x,H5,I5,r5,y5,st5,fr5⟩)
  have I5':=I5.pinned (stat fr5) (T.obj _ _ st5)
  (refine wpAny_passesOwn hp (thn (hg _ s5 σ3 H5 x u _ I5' r5 (step x H5 y5)) ?_);rintro _ s6 ⟨σ6,H6,I6,q6⟩)
  refine wpAny_passesOwn hp (thn (hb _ s6 σ6 H6 _ I6 q6) fun f s7 q7=>?_);have again:∀ {σ7:St} {H7:Hp},Inv X (pins++ue8 fp s5.heap) σ7 H7 s7->N σ7 H7->∃ m,m < n /\ ∃ i σ' H',Inv X pins σ' H' s7 /\ tn i s7.heap /\ (∀ b ∈ fp,H' b=none) /\ W i m σ' H':=fun {σ7 H7} I7 n7=>by
   obtain ⟨m',hm,w7⟩:=hN σ7 H7 n7;refine ⟨m',hm,i+1,σ7,H7,I7.unpinned,T.keep _ _ _ st5 fun b hb o e=>(I7.pin (b,o) (List.mem_append_right _ (List.mem_append_right _ (u58 hb e)))).1,fun b hb=>?_,w7⟩;obtain ⟨o,e,d⟩:=T.obj _ _ st5 b hb;exact (I7.pin (b,o) (List.mem_append_right _ (List.mem_append_right _ (u58 hb e)))).2.1
  cases f with
  | next=>obtain ⟨σ7,H7,I7,n7⟩:=q7;exact again I7 n7
  | cont=>obtain ⟨σ7,H7,I7,n7⟩:=q7;exact again I7 n7
  | brk=>obtain ⟨σ7,H7,I7,q7⟩:=q7;exact ⟨σ7,H7,I7.unpinned,q7⟩
  | ret v=>obtain ⟨x7,σ7,H7,I7,r7,q7⟩:=q7;exact ⟨x7,σ7,H7,I7.unpinned,r7,q7⟩
end
abbrev R2:=V->V->Hp->VK->Prop
def OpR (X:Cx) (f:Value->Value->Sem Value) (r:R2):Prop :=
 ∀ (pins:List (Addr × Obj)) (s:Shared) (σ:St) (H:Hp) (x y:V) (v u:Value) (Q:VK),Inv X pins σ H s->RelV x v->RelV y u->r x y H Q ->
  wpAny (model X.prog X.w) X.A (f v u) (EP X pins σ Q) X.xe s
def UnR (X:Cx) (f:Value->Sem Value) (r:V->Hp->VK->Prop):Prop :=
 ∀ (pins:List (Addr × Obj)) (s:Shared) (σ:St) (H:Hp) (x:V) (v:Value) (Q:VK),Inv X pins σ H s->RelV x v->r x H Q ->
  wpAny (model X.prog X.w) X.A (f v) (EP X pins σ Q) X.xe s
def CallR (X:Cx) (f:Value) (r:List V->Hp->VK->Prop):Prop :=
 ∀ (pins:List (Addr × Obj)) (s:Shared) (σ:St) (H:Hp) (xs:List V) (us:List Value) (Q:VK),Inv X pins σ H s->Vals xs us->r xs H Q ->
  wpAny (model X.prog X.w) X.A (call f us) (EP X pins σ Q) X.xe s
def tOp (r:R2) (ta tb:TE):TE:=fun σ H Q=>ta σ H fun x H1=>tb σ H1 fun y H2=>r x y H2 Q
def tUn (r:V->Hp->VK->Prop) (ta:TE):TE:=fun σ H Q=>ta σ H fun x H1=>r x H1 Q
def rI (C:Int->Int->Prop) (g:Int->Int->V):R2:=fun x y H Q=>∃ i j,x=.int i /\ y=.int j /\ C i j /\ Q (g i j) H
def rI0 (g:Int->Int->V):R2:=fun x y H Q=>∃ i j,x=.int i /\ y=.int j /\ Q (g i j) H
def rU (g:Int->V):V->Hp->VK->Prop:=fun x H Q=>∃ i,x=.int i /\ Q (g i) H
section
variable {X:Cx} {a b c:Expr} {ta tb tc:TE} {pos:Pos}
theorem binT (ha:PE X a ta) (hb:PE X b tb) {pins:List (Addr × Obj)} {s:Shared} {σ:St} {H:Hp} {R:V->V->Hp->Prop} (I:Inv X pins σ H s)
  (h:ta σ H fun x H1=>tb σ H1 fun y H2=>R x y H2) {Q:Value->Shared->Prop} {f:Value->Value->Sem Value}
  (hf:∀ v u s2 x y H2,Inv X pins σ H2 s2->RelV x v->RelV y u->R x y H2->wpAny (model X.prog X.w) X.A (f v u) Q X.xe s2) :
  wpAny (model X.prog X.w) X.A (eval a X.env) (fun v s₁=>wpAny (model X.prog X.w) X.A (eval b X.env) (fun u s₂=>wpAny (model X.prog X.w) X.A (f v u) Q X.xe s₂) X.xe s₁) X.xe s:=by
 (refine thn (ha pins s σ H _ I h) ?_;rintro v s1 ⟨x,H1,I1,r1,q1⟩)
 (refine thn (hb pins s1 σ H1 _ I1 q1) ?_;rintro u s2 ⟨y,H2,I2,r2,q2⟩)
 exact hf v u s2 x y H2 I2 r1 r2 q2
theorem w00 {op:Operator} {r:R2} (ho:OpR X (binaryOp op) r) (ha:PE X a ta) (hb:PE X b tb):PE X (.BinOp a op b pos) (tOp r ta tb):=by
 intro pins s σ H Q I h;exact wpAny_BinOp (binT ha hb I h fun v u s2 x y H2 I2 rx ry q=>ho pins s2 σ H2 x y v u Q I2 rx ry q)
theorem vz9 {op:UnaryOp} {r:V->Hp->VK->Prop} (ho:UnR X (unaryOp op) r) (ha:PE X a ta):PE X (.UnaryOp op a pos) (tUn r ta):=by
 intro pins s σ H Q I h
 (refine UnaryOp_ (thn (ha pins s σ H _ I h) ?_);rintro v s1 ⟨x,H1,I1,r1,q1⟩;exact ho pins s1 σ H1 x v Q I1 r1 q1)
theorem opI {f:Value->Value->Sem Value} {C:Int->Int->Prop} {g:Int->Int->Int}
  (rule:∀ (i j:Int) (t u:Tok) (s:Shared) (Q:Value->Shared->Prop) (E:Value->Shared->Prop),C i j->Q (.int (g i j) s.toks) { s with toks:=s.toks+1 }->wpAny (model X.prog X.w) X.A (f (.int i t) (.int j u)) Q E s) :
  OpR X f (rI C fun i j=>.int (g i j)):=by
 intro pins s σ H x y v u Q I rx ry h;obtain ⟨i,j,rfl,rfl,hc,q⟩:=h;obtain ⟨t,rfl⟩:=rx;obtain ⟨t',rfl⟩:=ry;exact rule i j t t' s _ _ hc ⟨.int (g i j),H,I.tok _,⟨_,rfl⟩,q⟩
theorem opI0 {f:Value->Value->Sem Value} {g:Int->Int->Int}
  (rule:∀ (i j:Int) (t u:Tok) (s:Shared) (Q:Value->Shared->Prop) (E:Value->Shared->Prop),Q (.int (g i j) s.toks) { s with toks:=s.toks+1 }->wpAny (model X.prog X.w) X.A (f (.int i t) (.int j u)) Q E s) :
  OpR X f (rI0 fun i j=>.int (g i j)):=by
 intro pins s σ H x y v u Q I rx ry h;obtain ⟨i,j,rfl,rfl,q⟩:=h;obtain ⟨t,rfl⟩:=rx;obtain ⟨t',rfl⟩:=ry;exact rule i j t t' s _ _ ⟨.int (g i j),H,I.tok _,⟨_,rfl⟩,q⟩
theorem opB0 {f:Value->Value->Sem Value} {g:Int->Int->Bool}
  (rule:∀ (i j:Int) (t u:Tok) (s:Shared) (Q:Value->Shared->Prop) (E:Value->Shared->Prop),Q (.bool (g i j)) s->wpAny (model X.prog X.w) X.A (f (.int i t) (.int j u)) Q E s) :
  OpR X f (rI0 fun i j=>.bl (g i j)):=by
 intro pins s σ H x y v u Q I rx ry h;obtain ⟨i,j,rfl,rfl,q⟩:=h;obtain ⟨t,rfl⟩:=rx;obtain ⟨t',rfl⟩:=ry;exact rule i j t t' s _ _ ⟨.bl (g i j),H,I,rfl,q⟩
def CDiv (i j:Int):Prop:=0 < j /\ j < 1073741824
def CPow (i j:Int):Prop:=0<=j /\ j<=1000000 /\ i.natAbs < 2 ^ 64
def CMul (i j:Int):Prop:=(-(2 ^ 64) < i /\ i < 2 ^ 64) \/ (-(2 ^ 64) < j /\ j < 2 ^ 64)
theorem CMul.ok {i j:Int} (h:CMul i j):IntMulOk i j:=by
 rcases h with ⟨h1,h2⟩ | ⟨h1,h2⟩
 ·exact .of_left (intBits_le_64 h1 h2)
 ·exact .of_right (intBits_le_64 h1 h2)
theorem op_add:OpR X (binaryOp .Add) (rI0 fun i j=>.int (i+j)):=opI0 fun _ _ _ _ _ _ _ q=>add_int q
theorem op_mul:OpR X (binaryOp .Mult) (rI CMul fun i j=>.int (i * j)):=opI fun _ _ _ _ _ _ _ hc q=>mul_int q hc.ok
theorem w06:OpR X (binaryOp .FloorDiv) (rI CDiv fun i j=>.int (i / j)):=opI fun i j _ _ _ _ _ hc q=>by
 have h1:(0:Int) < j:=hc.1;have h2:j < 1073741824:=hc.2;exact floordiv_int (by omega) (by rw [Int.fdiv_eq_ediv_of_nonneg i (by omega)];exact q) (.inl (PyProof.noPylong_small (by omega)))
theorem vs0:OpR X (binaryOp .Mod) (rI (fun _ j=>0 < j) fun i j=>.int (i % j)):=opI fun i j _ _ _ _ _ hc q=>by
 have h1:(0:Int) < j:=hc;exact mod_int' (by omega) (by rw [Int.fmod_eq_emod_of_nonneg i (by omega)];exact q)
theorem vr8:OpR X (binaryOp .Pow) (rI CPow fun i j=>.int (i ^ j.toNat)):=opI fun _ _ _ _ _ _ _ hc q=>pow_int_small hc.1 hc.2.1 hc.2.2 q
theorem unI {f:Value->Sem Value} {g:Int->Int}
  (rule:∀ (i:Int) (t:Tok) (s:Shared) (Q:Value->Shared->Prop) (E:Value->Shared->Prop),Q (.int (g i) s.toks) { s with toks:=s.toks+1 }->wpAny (model X.prog X.w) X.A (f (.int i t)) Q E s) :
  UnR X f (rU fun i=>.int (g i)):=by
 intro pins s σ H x v Q I rx h;obtain ⟨i,rfl,q⟩:=h;obtain ⟨t,rfl⟩:=rx;exact rule i t s _ _ ⟨.int (g i),H,I.tok _,⟨_,rfl⟩,q⟩
theorem vo1:UnR X (unaryOp .USub) (rU fun i=>.int (-i)):=unI fun _ _ _ _ _ q=>neg_int q
end
def scal:V->V->Bool
 | .non,.non=>true | .non,.int _=>true | .int _,.non=>true | .non,.bl _=>true | .bl _,.non=>true | .non,.str _=>true | .str _,.non=>true
 | .int _,.int _=>true | .bl _,.bl _=>true | .str _,.str _=>true | .byt _,.byt _=>true
 | .int _,.str _=>true | .str _,.int _=>true | .bl _,.str _=>true | .str _,.bl _=>true
 | _,_=>false
def rEq:R2:=fun x y H Q=>scal x y=true /\ Q (.bl (decide (x=y))) H
def rNe:R2:=fun x y H Q=>scal x y=true /\ Q (.bl (!decide (x=y))) H
theorem ux7 {i j:Int}:decide (V.int i=V.int j)=(i == j):=by
 rw [Bool.eq_iff_iff];simp
theorem v95 {i j:Bool}:decide (V.bl i=V.bl j)=(i == j):=by
 rw [Bool.eq_iff_iff];simp
theorem ux6 {i j:Str}:decide (V.str i=V.str j)=(i == j):=by
 rw [Bool.eq_iff_iff];simp
theorem ux8 {i j:Array UInt8}:decide (V.byt i=V.byt j)=(i.toList == j.toList):=by
 rw [Bool.eq_iff_iff];cases i;cases j;simp
section
variable {X:Cx} {a b c:Expr} {ta tb tc:TE} {pos:Pos}
theorem u09 {pins:List (Addr × Obj)} {σ:St} {H:Hp} {s:Shared} {Q:VK} {k k':Bool} (I:Inv X pins σ H s) (q:Q (.bl k) H) (e:k=k'):EP X pins σ Q (.bool k') s:=by
 subst e;exact ⟨.bl k,H,I,rfl,q⟩
theorem op_eq:OpR X (compareOp .Eq) rEq:=by
 intro pins s σ H x y v u Q I rx ry h;obtain ⟨hs,q⟩:=h;cases x with
 | non =>
  cases rx;cases y with
  | non=>cases ry;exact PySem.EqNone.eq_none_none (u09 I q (by simp))
  | bl j=>cases ry;exact PySem.EqNone.eq_none_bool (u09 I q (by simp))
  | int j=>obtain ⟨t',rfl⟩:=ry;exact PySem.EqNone.eq_none_int (u09 I q (by simp))
  | str j=>obtain ⟨t',rfl⟩:=ry;exact PySem.EqNone.eq_none_str (u09 I q (by simp))
  | _=>exact absurd (show false=true from hs) Bool.false_ne_true
 | bl i =>
  cases rx;cases y with
  | non=>cases ry;exact PySem.EqNone.eq_bool_none (u09 I q (by simp))
  | bl j=>cases ry;exact eq_bool (u09 I q v95)
  | str j=>obtain ⟨t',rfl⟩:=ry;exact PySem.EqMixed.eq_bool_str (u09 I q (by simp))
  | _=>exact absurd (show false=true from hs) Bool.false_ne_true
 | int i =>
  obtain ⟨t,rfl⟩:=rx;cases y with
  | non=>cases ry;exact PySem.EqNone.eq_int_none (u09 I q (by simp))
  | int j=>obtain ⟨t',rfl⟩:=ry;exact eq_int (u09 I q ux7)
  | str j=>obtain ⟨t',rfl⟩:=ry;exact PySem.EqMixed.eq_int_str (u09 I q (by simp))
  | _=>exact absurd (show false=true from hs) Bool.false_ne_true
 | str i =>
  obtain ⟨t,rfl⟩:=rx;cases y with
  | non=>cases ry;exact PySem.EqNone.eq_str_none (u09 I q (by simp))
  | bl j=>cases ry;exact PySem.EqMixed.eq_str_bool (u09 I q (by simp))
  | int j=>obtain ⟨t',rfl⟩:=ry;exact PySem.EqMixed.eq_str_int (u09 I q (by simp))
  | str j=>obtain ⟨t',rfl⟩:=ry;exact eq_str (u09 I q ux6)
  | _=>exact absurd (show false=true from hs) Bool.false_ne_true
 | byt i =>
  obtain ⟨t,rfl⟩:=rx;cases y with
  | byt j=>obtain ⟨t',rfl⟩:=ry;exact PySem.W.eq_bytes (u09 I q ux8)
  | _=>exact absurd (show false=true from hs) Bool.false_ne_true
 | _=>cases y <;> exact absurd (show false=true from hs) Bool.false_ne_true
theorem op_ne:OpR X (compareOp .NotEq) rNe:=by
 intro pins s σ H x y v u Q I rx ry h;obtain ⟨hs,q⟩:=h;cases x with
 | non =>
  cases rx;cases y with
  | non=>cases ry;exact PySem.EqNone.ne_none_none (u09 I q (by simp))
  | bl j=>cases ry;exact PySem.EqNone.ne_none_bool (u09 I q (by simp))
  | int j=>obtain ⟨t',rfl⟩:=ry;exact PySem.EqNone.ne_none_int (u09 I q (by simp))
  | str j=>obtain ⟨t',rfl⟩:=ry;exact PySem.EqNone.ne_none_str (u09 I q (by simp))
  | _=>exact absurd (show false=true from hs) Bool.false_ne_true
 | bl i =>
  cases rx;cases y with
  | non=>cases ry;exact PySem.EqNone.ne_bool_none (u09 I q (by simp))
  | bl j=>cases ry;exact ne_bool (u09 I q (congrArg not v95))
  | str j=>obtain ⟨t',rfl⟩:=ry;exact PySem.EqMixed.ne_bool_str (u09 I q (by simp))
  | _=>exact absurd (show false=true from hs) Bool.false_ne_true
 | int i =>
  obtain ⟨t,rfl⟩:=rx;cases y with
  | non=>cases ry;exact PySem.EqNone.ne_int_none (u09 I q (by simp))
  | int j=>obtain ⟨t',rfl⟩:=ry;exact ne_int (u09 I q (congrArg not ux7))
  | str j=>obtain ⟨t',rfl⟩:=ry;exact PySem.EqMixed.ne_int_str (u09 I q (by simp))
  | _=>exact absurd (show false=true from hs) Bool.false_ne_true
 | str i =>
  obtain ⟨t,rfl⟩:=rx;cases y with
  | non=>cases ry;exact PySem.EqNone.ne_str_none (u09 I q (by simp))
  | bl j=>cases ry;exact PySem.EqMixed.ne_str_bool (u09 I q (by simp))
  | int j=>obtain ⟨t',rfl⟩:=ry;exact PySem.EqMixed.ne_str_int (u09 I q (by simp))
  | str j=>obtain ⟨t',rfl⟩:=ry;exact ne_str (u09 I q (congrArg not ux6))
  | _=>exact absurd (show false=true from hs) Bool.false_ne_true
 | byt i =>
  obtain ⟨t,rfl⟩:=rx;cases y with
  | byt j=>obtain ⟨t',rfl⟩:=ry;exact PySem.W.ne_bytes (u09 I q (congrArg not ux8))
  | _=>exact absurd (show false=true from hs) Bool.false_ne_true
 | _=>cases y <;> exact absurd (show false=true from hs) Bool.false_ne_true
theorem op_lt:OpR X (compareOp .Lt) (rI0 fun i j=>.bl (decide (i < j))):=opB0 fun _ _ _ _ _ _ _ q=>lt_int q
theorem w03:OpR X (compareOp .LtE) (rI0 fun i j=>.bl (decide (i<=j))):=opB0 fun _ _ _ _ _ _ _ q=>le_int q
theorem w04:OpR X (compareOp .Gt) (rI0 fun i j=>.bl (decide (j < i))):=opB0 fun _ _ _ _ _ _ _ q=>gt_int q
theorem w05:OpR X (compareOp .GtE) (rI0 fun i j=>.bl (decide (j<=i))):=opB0 fun _ _ _ _ _ _ _ q=>ge_int q
theorem us4:OpR X (compareOp .Lt) (fun x y H Q=>∃ i j,x=.str i /\ y=.str j /\ Q (.bl (decide (i.cps.toList < j.cps.toList))) H):=by
 intro pins s σ H x y v u Q I rx ry h;obtain ⟨i,j,rfl,rfl,q⟩:=h;obtain ⟨t,rfl⟩:=rx;obtain ⟨t',rfl⟩:=ry;exact lt_str (u09 I q rfl)
theorem us6:OpR X (compareOp .In) (fun x y H Q=>∃ i j,x=.str i /\ y=.str j /\ Q (.bl (!(Builtin.Str.occurrences j i 0 j.length 1).isEmpty)) H):=by
 intro pins s σ H x y v u Q I rx ry h;obtain ⟨i,j,rfl,rfl,q⟩:=h;obtain ⟨t,rfl⟩:=rx;obtain ⟨t',rfl⟩:=ry;exact in_str (u09 I q rfl)
theorem op_isN:OpR X (compareOp .Is) (fun x y H Q=>y=.non /\ Q (.bl (decide (x=.non))) H):=by
 intro pins s σ H x y v u Q I rx ry h;obtain ⟨rfl,q⟩:=h;cases ry;refine is_none_gen (u09 I q ?_);cases x <;> first
  | (cases rx;rfl)
  | (obtain ⟨t,rfl⟩:=rx;rfl)
theorem OpR.or {f:Value->Value->Sem Value} {r r':R2} (h:OpR X f r) (h':OpR X f r'):OpR X f (fun x y H Q=>r x y H Q \/ r' x y H Q):=by
 intro pins s σ H x y v u Q I rx ry q
 rcases q with q | q
 ·exact h pins s σ H x y v u Q I rx ry q
 ·exact h' pins s σ H x y v u Q I rx ry q
theorem nomark (b:Expr) {op:CmpOp} (h:op ≠ .In:=by decide) (h2:op ≠ .NotIn:=by decide):behindInMarks op b=false:=by
 have e1:(op == CmpOp.In)=false:=by cases op <;> first | rfl | exact absurd rfl h
 have e2:(op == CmpOp.NotIn)=false:=by cases op <;> first | rfl | exact absurd rfl h2
 cases b <;> simp [behindInMarks,e1,e2]
theorem vf3 {op:CmpOp} {r:R2} (ho:OpR X (compareOp op) r) (ha:PE X a ta) (hb:PE X b tb) (hm:behindInMarks op b=false):PE X (.Compare a [op] [b] pos) (tOp r ta tb):=by
 intro pins s σ H Q I h;exact wpAny_Compare1 (binT ha hb I h fun v u s2 x y H2 I2 rx ry q=>ho pins s2 σ H2 x y v u Q I2 rx ry q) hm
def vo2 (t:TE):TT:=fun σ H Q=>t σ H fun x H'=>∃ k,x=.bl k /\ Q k H'
theorem vd8 {op:CmpOp} {r:R2} (ho:OpR X (compareOp op) r) (ha:PE X a ta) (hb:PE X b tb) (hm:behindInMarks op b=false):PT X (.Compare a [op] [b] pos) (vo2 (tOp r ta tb)):=by
 intro pins s σ H Q I h;refine wpAny_isTrue_Compare1 (thn (ha pins s σ H _ I h) fun v s1 ⟨x,H1,I1,r1,q1⟩=>thn (hb pins s1 σ H1 _ I1 q1) fun u s2 ⟨y,H2,I2,r2,q2⟩ =>
  thn (ho pins s2 σ H2 x y v u _ I2 r1 r2 q2) fun c s3 ⟨z,H3,I3,r3,k,e,q3⟩=>?_) hm
 subst e;cases r3;exact wpAny_truthy_bool ⟨H3,I3,q3⟩
def uq3 (r r':R2) (ta tb tc:TE):TE:=fun σ H Q=>ta σ H fun x H1=>tb σ H1 fun y H2=>r x y H2 fun z H3=>∃ k,z=.bl k /\
 (if k=true then tc σ H3 fun w' H4=>r' y w' H4 Q else Q (.bl false) H3)
theorem v22 {op op':CmpOp} {r r':R2} (ho:OpR X (compareOp op) r) (ho':OpR X (compareOp op') r') (ha:PE X a ta) (hb:PE X b tb) (hc:PE X c tc)
  (hm:lastMarks [op,op'] [b,c]=false:=by with_unfolding_all rfl):PE X (.Compare a [op,op'] [b,c] pos) (uq3 r r' ta tb tc):=by
 intro pins s σ H Q I h;refine Compare_chain (thn (ha pins s σ H _ I h) fun v s1 ⟨x,H1,I1,r1,q1⟩=>chain_link (thn (hb pins s1 σ H1 _ I1 q1) fun u s2 ⟨y,H2,I2,r2,q2⟩ =>
  thn (ho pins s2 σ H2 x y v u _ I2 r1 r2 q2) fun d s3 ⟨z,H3,I3,r3,k,e,q3⟩=>?_)) hm
 subst e;cases r3;refine wpAny_truthy_bool ?_;cases k with
 | false=>exact ite_ff ⟨.bl false,H3,I3,rfl,q3⟩
 | true=>exact ite_tt (chain_last (thn (hc pins s3 σ H3 _ I3 q3) fun w' s4 ⟨z',H4,I4,r4,q4⟩=>ho' pins s4 σ H4 y z' u w' Q I4 r2 r4 q4))
theorem v14 {op op':CmpOp} {r r':R2} (ho:OpR X (compareOp op) r) (ho':OpR X (compareOp op') r') (ha:PE X a ta) (hb:PE X b tb) (hc:PE X c tc)
  (hm:lastMarks [op,op'] [b,c]=false:=by with_unfolding_all rfl):PT X (.Compare a [op,op'] [b,c] pos) (vo2 (uq3 r r' ta tb tc)):=by
 intro pins s σ H Q I h;refine isTrue_chain (thn (ha pins s σ H _ I h) fun v s1 ⟨x,H1,I1,r1,q1⟩=>test_link (thn (hb pins s1 σ H1 _ I1 q1) fun u s2 ⟨y,H2,I2,r2,q2⟩ =>
  thn (ho pins s2 σ H2 x y v u _ I2 r1 r2 q2) fun d s3 ⟨z,H3,I3,r3,k,e,q3⟩=>?_)) hm
 subst e;cases r3;refine wpAny_truthy_bool ?_;cases k with
 | false =>
  obtain ⟨k',e',q'⟩:=q3;cases e';exact ite_ff ⟨H3,I3,q'⟩
 | true =>
  (refine ite_tt (test_last (thn (hc pins s3 σ H3 _ I3 q3) ?_));rintro w' s4 ⟨z',H4,I4,r4,q4⟩;refine thn (ho' pins s4 σ H4 y z' u w' _ I4 r2 r4 q4) ?_;rintro d' s5 ⟨z2,H5,I5,r5,k2,e2,q5⟩)
  subst e2;cases r5;exact wpAny_truthy_bool ⟨H5,I5,q5⟩
theorem line63:(sizeLine:Nat) < 2 ^ 63:=by rw [sizeLine_eq];decide
theorem op_add_str:OpR X (binaryOp .Add) (fun x y H Q=>∃ i j,x=.str i /\ y=.str j /\ i.length+j.length<=sizeLine /\ Q (.str (i++j)) H):=by
 intro pins s σ H x y v u Q I rx ry h;obtain ⟨i,j,rfl,rfl,hz,q⟩:=h;obtain ⟨t,rfl⟩:=rx;obtain ⟨t',rfl⟩:=ry;exact add_str (fun t' tk=>⟨.str (i++j),H,I.tok _,⟨_,rfl⟩,q⟩) hz
theorem vals1 {x:V} {us:List Value} (r:Vals [x] us):∃ u,us=[u] /\ RelV x u:=by
 cases r with
 | cons r1 r2=>cases r2;exact ⟨_,rfl,r1⟩
theorem vals2 {x y:V} {us:List Value} (r:Vals [x,y] us):∃ u w',us=[u,w'] /\ RelV x u /\ RelV y w':=by
 cases r with
 | cons r1 r2 =>
  cases r2 with
  | cons r3 r4=>cases r4;exact ⟨_,_,rfl,r1,r3⟩
theorem v60:CallR X (.builtin "abs") (fun xs H Q=>∃ i,xs=[.int i] /\ Q (.int (if i < 0 then -i else i)) H):=by
 intro pins s σ H xs us Q I r h;obtain ⟨i,rfl,q⟩:=h;obtain ⟨u,rfl,t,rfl⟩:=vals1 r;exact call_abs_int fun u tk=>⟨.int (if i < 0 then -i else i),H,I.tok _,⟨_,rfl⟩,q⟩
theorem uy7 (hc:X.calm=true):CallR X (.builtin "min") (fun xs H Q=>∃ i j,xs=[.int i,.int j] /\ Q (.int (if j < i then j else i)) H):=by
 intro pins s σ H xs us Q I r h;obtain ⟨i,j,rfl,q⟩:=h;obtain ⟨u,w',rfl,⟨t,rfl⟩,⟨t',rfl⟩⟩:=vals2 r;refine min_two_ints (I.ok.hd hc) fun h' tk k=>⟨_,H,I.kept k,?_,q⟩
 by_cases hj:j < i
 ·rw [if_pos hj,if_pos hj];exact ⟨_,rfl⟩
 ·rw [if_neg hj,if_neg hj];exact ⟨_,rfl⟩
theorem ui9:CallR X (.builtin "divmod") (fun xs H Q=>∃ i j,xs=[.int i,.int j] /\ CDiv i j /\ ∀ p,H p=none->Q (.ref p) (upd H p (.tup [.int (i / j),.int (i % j)]))):=by
 intro pins s σ H xs us Q I r h;obtain ⟨i,j,rfl,⟨h1,h2⟩,q⟩:=h;obtain ⟨u,w',rfl,⟨t,rfl⟩,⟨t',rfl⟩⟩:=vals2 r;refine divmod_int (by omega) ?_ (.inl (PyProof.noPylong_small (by omega)));rw [Int.fdiv_eq_ediv_of_nonneg i (by omega),Int.fmod_eq_emod_of_nonneg i (by omega)];have hn:H s.heap.objs.size=none:=I.hok.fresh (Nat.le_refl _);refine ⟨.ref s.heap.objs.size,_,?_,rfl,q _ hn⟩;refine I.laid (fun b o e=>Heap.get?_push_of_some _ e) (Nat.le_refl _) ⟨by simp only [List.length_cons,List.length_nil];rw [sizeLine_eq];decide,[.int (i / j) s.toks,.int (i % j) (s.toks+1)],.cons ⟨_,rfl⟩ (.cons ⟨_,rfl⟩ .nil),?_⟩;exact ⟨_,Heap.get?_push_size s.heap rfl,rfl,⟨0,rfl⟩,rfl⟩
end
structure ObjM (h:Heap) (x dx C:Addr) (mA:Str->Option Value):Prop where
 obj:h.get? x=some (PySem.W.instObj C dx)
 ns:h.Ns1 dx mA
 ne:dx ≠ x
theorem uu1 {h:Heap} {dx:Addr} {mA:Str->Option Value} (n:h.Ns1 dx mA):∃ od,h.get? dx=some od /\ ∀ name,PySem.W.lookIn name od=some (mA name):=by
 obtain ⟨o,es,ep,ho,hd,hk,_,hm⟩:=n;refine ⟨o,ho,fun name=>?_⟩;have e:=hm name;unfold nsFind findBy at e;rw [<- Array.find?_toList] at e;unfold PySem.W.lookIn;rw [hd];dsimp only;split
 ·rename_i y q
  rw [q] at e;exact congrArg some e
 ·rename_i q
  rw [q] at e;have a:es.toList.any (·.refKey)=false:=by
   rw [List.any_eq_false];intro y hy;obtain ⟨z,t,hkey⟩:=hk y (Array.mem_toList_iff.mp hy);simp [DictEntry.refKey,hkey]
  have a':¬ es.toList.any (·.refKey)=true:=by rw [a];exact Bool.false_ne_true
  rw [if_neg a'];exact congrArg some e
theorem ObjM.look {h:Heap} {x dx C:Addr} {mA:Str->Option Value} (I:ObjM h x dx C mA):∃ od,PySem.W.InstAt h x (PySem.W.instObj C dx) C (some od) /\ ∀ name,PySem.W.lookIn name od=some (mA name) :=
 let ⟨od,ho,hl⟩:=uu1 I.ns
 ⟨od,⟨I.obj,rfl,rfl,ho⟩,hl⟩
section
variable {prog:Program} {w:World} {A:Around} {E:Value->Shared->Prop} {s:Shared} {K:PySem.W.Frag} {x dx C f:Addr} {mA:Str->Option Value} {name:Str} {v:Value}
theorem v49 {pl:Sem Bool} {Q:Value × List Value->Shared->Prop} (X:K.In s.heap) (I:ObjM s.heap x dx C mA) (hg:PySem.W.plainGet K C name=true)
  (hf:PySem.W.findIn K (.ref C) name=some (some (.ref f))) (ht:PySem.W.isFn K (.ref f)=true) (hv:mA name=none) (h:Q (.ref f,[.ref x]) s) :
  wpAny (model prog w) A (getMethod (.ref x) name pl) Q E s:=by
 obtain ⟨od,J,hl⟩:=I.look;exact PySem.W.method_fn X J (PySem.W.plainGet_of hg).1 (PySem.W.plainGet_of hg).2 hf (beq_iff_eq.mp ht) (by show (PySem.W.lookIn name od).map (·.isSome)=some false;rw [hl,hv];rfl) h
end
theorem RelO.some_of {v:V} {o:Option Value} (r:RelO (some v) o):∃ u,o=some u /\ RelV v u:=by
 cases o with
 | none=>exact (show False from r).elim
 | some u=>exact ⟨u,rfl,r⟩
theorem RelO.none_of {o:Option Value} (r:RelO none o):o=none:=by
 cases o with
 | none=>rfl
 | some u=>exact (show False from r).elim
theorem uw3 {v:V} {u:Value} (r:RelV v u):PySem.W.handedIn u=true:=by
 cases v with
 | non=>cases (show u=Value.none from r);rfl
 | bl b=>cases (show u=Value.bool b from r);rfl
 | int i=>obtain ⟨t,e⟩:=(show ∃ t,u=Value.int i t from r);cases e;rfl
 | str x=>obtain ⟨t,e⟩:=(show ∃ t,u=Value.str x t from r);cases e;rfl
 | byt b=>obtain ⟨t,e⟩:=(show ∃ t,u=Value.bytes b t from r);cases e;rfl
 | flt b=>obtain ⟨t,e⟩:=(show ∃ t,u=Value.float b t from r);cases e;rfl
 | ref a=>cases (show u=Value.ref a from r);rfl
 | ty n=>cases (show u=Value.type n from r);rfl
section
variable {P:Program} {w:World} {H H':Hp} {h h':Heap} {a C dx:Addr} {fs fs':List (Str × V)}
theorem uv8 (hok:HOk P w H h) (e:H a=some (.ins C dx fs)):∃ mA,ObjM h a dx C mA /\ (∀ f,RelO (fs.lookup f) (mA f)) /\ PySem.Within mA (fs.map (·.1)) /\ fs.length<=1000 /\ H dx=some (.own a):=by
 obtain ⟨d,z,ne,ob,mA,n,r,q⟩:=(show ObjOk P w H h a (.ins C dx fs) from hok a _ e);exact ⟨mA,⟨ob,n,ne⟩,r,q,z,d⟩
end
structure Cls (K:PySem.W.Frag) (C:Addr):Prop where
 pg:PySem.W.plainGet K C Str.empty=true
 hd:PySem.W.hasDictIn K C=true
 po:PySem.W.plainOver K C=true
 sa:PySem.W.findIn K (.ref C) "__setattr__" = some (some (.builtin "object.__setattr__"))
theorem Cls.get {K:PySem.W.Frag} {C:Addr} (c:Cls K C) (f:Str):PySem.W.plainGet K C f=true:=c.pg
structure Con (K:PySem.W.Frag) (C:Addr) (f:Str) (v:V) (u:Value):Prop where
 at_:PySem.W.findIn K (.ref C) f=some (some u)
 rel:RelV v u
 get:PySem.W.specialIn K u "__get__" = some none
 cp:PySem.W.copiedNames.contains f=false
structure Meth (K:PySem.W.Frag) (C:Addr) (m:Str) (f:Addr):Prop where
 at_:PySem.W.findIn K (.ref C) m=some (some (.ref f))
 fn:PySem.W.isFn K (.ref f)=true
 kp:PySem.W.keepIn K (.ref f)=true
section
variable {X:Cx} {pins:List (Addr × Obj)} {σ:St} {H:Hp} {s:Shared} {a C dx:Addr} {fs:List (Str × V)} {f:Str} {v:V} {A:Around} {E:Value->Shared->Prop}
theorem uo1 {m:Str} {g:Addr} {pl:Sem Bool} {Q:Value × List Value->Shared->Prop} (I:Inv X pins σ H s) (e:H a=some (.ins C dx fs)) (c:Cls X.K C) (k:Meth X.K C m g) (l:fs.lookup m=none)
  (h:Q (.ref g,[.ref a]) s):wpAny (model X.prog X.w) A (getMethod (.ref a) m pl) Q E s:=by
 obtain ⟨mA,O,r,_,_,_⟩:=uv8 I.hok e;have hn:mA m=none:=RelO.none_of (by rw [<- l];exact r m);exact v49 I.kIn O (c.get m) k.at_ k.fn hn h
theorem Inv.made (I:Inv X pins σ H s):Inv X pins σ (upd (upd H s.heap.objs.size (.own (s.heap.objs.size+1))) (s.heap.objs.size+1) (.ins C s.heap.objs.size []))
  { s with heap:=(s.heap.push PySem.W.emptyDict).push (PySem.W.instObj C s.heap.objs.size) }:=by
 have e1:(s.heap.push PySem.W.emptyDict).get? s.heap.objs.size=some PySem.W.emptyDict:=Heap.get?_push_size s.heap rfl;have e2:((s.heap.push PySem.W.emptyDict).push (PySem.W.instObj C s.heap.objs.size)).get? (s.heap.objs.size+1)=some (PySem.W.instObj C s.heap.objs.size):=by
  have:=Heap.get?_push_size (s.heap.push PySem.W.emptyDict) (o:=PySem.W.instObj C s.heap.objs.size) rfl
  rwa [Heap.size_push] at this
 have e3:(s.heap.push PySem.W.emptyDict).Ns s.heap.objs.size (fun _=>none):=⟨PySem.W.emptyDict,#[],_,e1,rfl,(fun e he=>absurd he (by simp)),fun _=>rfl⟩;have I1:=I.laid (a:=s.heap.objs.size) (o:=.own (s.heap.objs.size+1)) (h':=s.heap.push PySem.W.emptyDict) (t':=s.toks) (fun b u q=>Heap.get?_push_of_some _ q) (Nat.le_refl _) ⟨_,e1⟩;refine I1.laid (a:=s.heap.objs.size+1) (o:=.ins C s.heap.objs.size []) (t':=s.toks) (fun b u q=>Heap.get?_push_of_some _ q) (Nat.le_of_eq (Heap.size_push _ _)) ?_;have ne:s.heap.objs.size ≠ s.heap.objs.size+1:=Nat.ne_of_lt (Nat.lt_succ_self _);refine ⟨by rw [u05 ne,u12],Nat.zero_le _,ne,e2,fun _=>none,(Heap.Ns1.of_empty e3).at fun o q=>Heap.get?_push_of_some _ q,fun _=>True.intro,fun y hy=>absurd rfl hy⟩
theorem vl1 {prog:Program} {w:World} {env:Env} {e:Expr} {f:Str} {pos:Pos} {s:Shared} {Q:Value->Shared->Prop} (hb:attributeBase e f env (eval e env)=eval e env)
  (h:wpAny (model prog w) A (eval e env) (fun o s₁=>wpAny (model prog w) A (getAttr o f true) Q E s₁) E s):wpAny (model prog w) A (eval (.Attribute e f pos) env) Q E s :=
 Attribute_any_ h (by rw [arm_eval_Attribute,hb])
end
section
variable {X:Cx} {pins:List (Addr × Obj)} {σ:St} {H:Hp} {s:Shared} {A:Around} {E:Value->Shared->Prop} {Q:Value->Shared->Prop} {c:Value} {b:Bool}
inductive TyOf (K:PySem.W.Frag) (H:Hp):V->Value->Prop where
 | non:TyOf K H .non (.type "NoneType")
 | bl (x:Bool):TyOf K H (.bl x) (.type "bool")
 | int (i:Int):TyOf K H (.int i) (.type "int")
 | str (x:Str):TyOf K H (.str x) (.type "str")
 | flt (x:UInt64):TyOf K H (.flt x) (.type "float")
 | lst {a:Addr} {xs:List V} (e:H a=some (.lst xs)):TyOf K H (.ref a) (.type "list")
 | frz {a:Addr} {o:Obj} {xs:List V} (e:H a=some (.frz o (.lst xs))):TyOf K H (.ref a) (.type "list")
 | tup {a:Addr} {xs:List V} (e:H a=some (.tup xs)):TyOf K H (.ref a) (.type "tuple")
 | dK {a:Addr} {kvs:List (Key × V)} (e:H a=some (.dK kvs)):TyOf K H (.ref a) (.type "dict")
 | dT {a:Addr} {kvs:List (List Key × V)} (e:H a=some (.dT kvs)):TyOf K H (.ref a) (.type "dict")
 | ins {a C dx:Addr} {fs:List (Str × V)} (e:H a=some (.ins C dx fs)) (cl:Cls K C) (ha:PySem.W.findIn K (.ref C) "__class__" = some (some (.builtin "object.__class__")))
   (hn:PySem.W.specialIn K (.builtin "object.__class__") "__get__" = some (some (.builtin "getset_descriptor.__get__"))) (htk:PySem.W.takesIn K (.builtin "object.__class__")=some true)
   (hm:PySem.W.mroIn K C (.type "object")=some true):TyOf K H (.ref a) (.ref C)
theorem u27 {x:V} {u t:Value} (I:Inv X pins σ H s) (rx:RelV x u) (ty:TyOf X.K H x t) (e:PySem.W.kitOne X.K t c=some b) (h:∀ tk,Q (.bool b) { s with toks:=tk }) :
  wpAny (model X.prog X.w) A (call (.builtin "isinstance") [u,c]) Q E s:=by
 cases ty with
 | non=>cases (show u=Value.none from rx);exact PySem.W.kia_one PySem.W.kitx_none I.kIn True.intro e (fun z=>nomatch z) h
 | bl y=>cases (show u=Value.bool y from rx);exact PySem.W.kia_one PySem.W.kitx_bool I.kIn True.intro e (fun z=>nomatch z) h
 | int i=>obtain ⟨t,q⟩:=(show ∃ t,u=Value.int i t from rx);cases q;exact PySem.W.kia_one PySem.W.kitx_int I.kIn True.intro e (fun z=>nomatch z) h
 | str y=>obtain ⟨t,q⟩:=(show ∃ t,u=Value.str y t from rx);cases q;exact PySem.W.kia_one PySem.W.kitx_str I.kIn True.intro e (fun z=>nomatch z) h
 | flt y=>obtain ⟨t,q⟩:=(show ∃ t,u=Value.float y t from rx);cases q;exact PySem.W.kia_one PySem.W.kitx_float I.kIn True.intro e (fun z=>nomatch z) h
 | @lst a xs ea =>
  cases (show u=Value.ref a from rx);obtain ⟨_,_,n,_,h1⟩:=(show ObjOk X.prog X.w H s.heap a (.lst xs) from I.hok a _ ea);exact PySem.W.kia_one PySem.W.kitx_list I.kIn ⟨_,h1,rfl⟩ e (fun z=>nomatch z) h
 | @frz a ob xs ea =>
  cases (show u=Value.ref a from rx);obtain ⟨_,_,_,n,_,h1⟩:=(show ObjOk X.prog X.w H s.heap a (.frz ob (.lst xs)) from I.hok a _ ea);exact PySem.W.kia_one PySem.W.kitx_list I.kIn ⟨_,h1,rfl⟩ e (fun z=>nomatch z) h
 | @tup a xs ea =>
  cases (show u=Value.ref a from rx);obtain ⟨_,_,_,p⟩:=(show ObjOk X.prog X.w H s.heap a (.tup xs) from I.hok a _ ea);obtain ⟨o,h1,h2,_⟩:=p;exact PySem.W.kia_one PySem.W.kitx_tuple I.kIn ⟨o,h1,h2⟩ e (fun z=>nomatch z) h
 | @dK a kvs ea =>
  cases (show u=Value.ref a from rx);obtain ⟨_,_,vs,_,p⟩:=(show ObjOk X.prog X.w H s.heap a (.dK kvs) from I.hok a _ ea);obtain ⟨o,es,ep,h1,h2,_⟩:=p;exact PySem.W.kia_one PySem.W.kitx_dict I.kIn ⟨o,h1,h2.1⟩ e (fun z=>nomatch z) h
 | @dT a kvs ea =>
  cases (show u=Value.ref a from rx);obtain ⟨_,_,xs,_,o,es,ep,h1,h2,_⟩:=(show ObjOk X.prog X.w H s.heap a (.dT kvs) from I.hok a _ ea);exact PySem.W.kia_one PySem.W.kitx_dict I.kIn ⟨o,h1,h2.1⟩ e (fun z=>nomatch z) h
 | @ins a C dx fs ea cl ha hn htk hm =>
  cases (show u=Value.ref a from rx);obtain ⟨mA,O,_⟩:=uv8 I.hok ea;obtain ⟨od,J,_⟩:=O.look;exact PySem.W.kia_one (PySem.W.kitx_own (cl.get _) cl.hd ha hn htk hm) I.kIn J e (fun z=>nomatch z) h
end
structure Room (k:Nat) (A:Around):Prop where
 hd:A.handled=none
 dp:A.depth+3 * k+5 < recursionLimit
 un:A.units+16 * k+200 < cLine
theorem Room.mono {j k:Nat} {A:Around} (r:Room k A) (h:j<=k):Room j A:=⟨r.hd,by have:=r.dp;omega,by have:=r.un;omega⟩
theorem Room.deeper {k:Nat} {A:Around} (r:Room (k+1) A) (env:Env):Room k (A.deeper env) :=
 ⟨r.hd,by have:=r.dp;show A.depth+1+3 * k+5 < _;omega,by have:=r.un;show A.units+3+16 * k+200 < _;omega⟩
theorem un6 {A:Around} {C:Addr} {us:List Value} {kw:List (Str × Value)}:(A.under (.builtin "type.__call__" ⟨.ref C::us,kw⟩)).depth=A.depth+1:=by
 first | rfl | simp [Around.under,Code.weight,Code.isCreation,Code.isGuard,Code.isCaller,Code.frames,Code.isFrame,guardIds]
theorem un5 {A:Around} {C:Addr} {us:List Value} {kw:List (Str × Value)}:(A.under (.builtin "type.__call__" ⟨.ref C::us,kw⟩)).units=A.units+1:=by
 first | rfl | simp [Around.under,Code.cUnits,Code.frames,Code.isFrame]
theorem Room.make {k:Nat} {A:Around} (r:Room (k+1) A) (C:Addr) (us:List Value) (kw:List (Str × Value)):Room k (A.under (.builtin "type.__call__" ⟨.ref C::us,kw⟩)) :=
 ⟨r.hd,by have:=r.dp;rw [un6];omega,by have:=r.un;rw [un5];omega⟩
theorem Room.depth {k:Nat} {A:Around} (r:Room k A):A.depth < recursionLimit:=by have:=r.dp;omega
theorem Room.units {k:Nat} {A:Around} (r:Room k A):A.units+64 < cLine:=by have:=r.un;omega
def tNil:TA:=fun _ H Q=>Q [] H
def un3 (ta:TE) (tr:TA):TA:=fun σ H Q=>ta σ H fun x H1=>tr σ H1 fun xs H2=>Q (x::xs) H2
section
variable {X:Cx} {e:Expr} {es:List Expr} {te:TE} {t:TA} {pos:Pos}
theorem v83:PA X [] tNil:=fun _ _ _ _ H Q I h=>Calls.spliced_nil ⟨[],H,I,.nil,h⟩
theorem uh4 (ha:PE X e te) (hr:PA X es t) (hs:starEach (e::es) X.env=(false,eval e X.env)::starEach es X.env:=by rfl):PA X (e::es) (un3 te t):=by
 intro pos pins s σ H Q I h;rw [hs]
 show wpAny _ _ (spliced ((false,eval e X.env)::backTo pos (starEach es X.env))) _ _ s
 (refine Calls.spliced_cons (thn (ha pins s σ H _ I h) ?_);rintro u s1 ⟨x,H1,I1,r1,q1⟩)
 (refine thn (hr pos pins s1 σ H1 _ I1 q1) ?_;rintro us s2 ⟨xs,H2,I2,r2,q2⟩;exact ⟨x::xs,H2,I2,.cons r1 r2,q2⟩)
def tTup (t:TA):TE:=fun σ H Q=>t σ H fun xs H1=>xs.length<=sizeLine /\ ∀ p,H1 p=none->Q (.ref p) (upd H1 p (.tup xs))
def tLst (t:TA):TE:=fun σ H Q=>t σ H fun xs H1=>xs.length<=sizeLine /\ ∀ p,H1 p=none->Q (.ref p) (upd H1 p (.lst xs))
theorem vq8 {x1} (h:PA X es t):PE X (.Tuple es x1 pos) (tTup t):=by
 intro pins s σ H Q I hq;refine wpAny_Tuple_spliced (thn (h pos pins s σ H _ I hq) fun us s1 ⟨xs,H1,I1,r,z,q⟩=>⟨by rw [<- r.length];exact z,?_⟩);have hf:H1 s1.heap.objs.size=none:=I1.hok.fresh (Nat.le_refl _);refine ⟨.ref s1.heap.objs.size,upd H1 s1.heap.objs.size (.tup xs),I1.laid (t':=s1.toks) (fun b u e=>Heap.get?_push_of_some _ e) (Nat.le_refl _) ?_,rfl,q _ hf⟩;exact ⟨z,us,r,⟨_,Heap.get?_push_size _ rfl,rfl,⟨_,rfl⟩,rfl⟩⟩
theorem vr3 (h:PA X es t):PE X (.List es pos) (tLst t):=by
 intro pins s σ H Q I hq;refine wpAny_List_spliced (thn (h pos pins s σ H _ I hq) fun us s1 ⟨xs,H1,I1,r,z,q⟩=>⟨by rw [<- r.length];exact z,?_⟩);have hf:H1 s1.heap.objs.size=none:=I1.hok.fresh (Nat.le_refl _);refine ⟨.ref s1.heap.objs.size,upd H1 s1.heap.objs.size (.lst xs),I1.laid (t':=s1.toks) (fun b u e=>Heap.get?_push_of_some _ e) (Nat.le_refl _) ?_,rfl,q _ hf⟩;exact ⟨z,us,0,r,Heap.get?_push_size _ rfl⟩
end
abbrev Sp:=List V->Hp->VK->XK->Prop
abbrev CXT:=List Env->Hp->Shared->XK->Value->Shared->Prop
structure Env0 (P:Program) (w:World) (K:PySem.W.Frag) (mg:Str->Option Value) (base:Heap) (A:Around) (outer:List Env) (s:Shared) (H:Hp):Prop where
 frames:A.frames=some outer
 mod:Mod K mg base
 bs:∀ b o,base.get? b=some o->s.heap.get? b=some o /\ H b=none
 bsz:base.objs.size<=s.heap.objs.size
 funs:s.heap.FunFrames base outer
 frf:∀ b ∈ frs outer,H b=none
 hok:HOk P w H s.heap
 bare:AllBare s.gens
def CE (outer:List Env) (P:Program) (w:World) (H:Hp) (s:Shared) (Q:VK) (u:Value) (s':Shared):Prop :=
 ∃ v H',s'.os=s.os /\ AllBare s'.gens /\ Un (frs outer) [] H H' s.heap s'.heap /\ HOk P w H' s'.heap /\ RelV v u /\ Q v H'
def CR (CX:CXT) (outer:List Env) (P:Program) (w:World) (H:Hp) (s:Shared) (Q:VK) (E:XK) (r:Result) (s':Shared):Prop :=
 match r with
 | .ok (.ret u)=>CE outer P w H s Q u s'
 | .ok _=>False
 | .error e=>CX outer H s E e s'
structure FnOk (P:Program) (w:World) (K:PySem.W.Frag) (mg:Str->Option Value) (base:Heap) (CX:CXT) (k:Nat) (f:Addr) (fd:FuncData) (ps:List Str) (sp:Sp):Prop where
 len:∀ vs H Q E,sp vs H Q E->vs.length=ps.length
 run:∀ (A:Around) (outer:List Env) (s:Shared) (H:Hp) (args:Args) (us:List Value) (vs:List V) (Q:VK) (E:XK),Room k A->Env0 P w K mg base A outer s H->BindsTo s fd args (ps.zip us)->Vals vs us->sp vs H Q E ->
  codeAny (model P w) A (.call (.ref f) args) (CR CX outer P w H s Q E) s
theorem FnOk.mono {P:Program} {w:World} {K:PySem.W.Frag} {mg:Str->Option Value} {base:Heap} {CX:CXT} {j k:Nat} {f:Addr} {fd:FuncData} {ps:List Str} {sp:Sp} (F:FnOk P w K mg base CX j f fd ps sp) (h:j<=k) :
  FnOk P w K mg base CX k f fd ps sp:=⟨F.len,fun A outer s H args us vs Q E hr=>F.run A outer s H args us vs Q E (hr.mono h)⟩
theorem FnOk.imp {P:Program} {w:World} {K:PySem.W.Frag} {mg:Str->Option Value} {base:Heap} {CX:CXT} {k:Nat} {f:Addr} {fd:FuncData} {ps:List Str} {sp sp':Sp} (F:FnOk P w K mg base CX k f fd ps sp)
  (h:∀ vs H Q E,sp' vs H Q E->sp vs H Q E):FnOk P w K mg base CX k f fd ps sp' :=
 ⟨fun vs H Q E q=>F.len vs H Q E (h _ _ _ _ q),fun A outer s H args us vs Q E hr he hb hv hs=>F.run A outer s H args us vs Q E hr he hb hv (h _ _ _ _ hs)⟩
theorem Env0.make {P:Program} {w:World} {K:PySem.W.Frag} {mg:Str->Option Value} {base:Heap} {A:Around} {outer:List Env} {s:Shared} {H:Hp} (e:Env0 P w K mg base A outer s H) (C:Addr) (us:List Value) (kw:List (Str × Value)) :
  Env0 P w K mg base (A.under (.builtin "type.__call__" ⟨.ref C::us,kw⟩)) outer s H:=⟨by first | exact e.frames | (simpa [Around.under,Code.envs,Code.isFrame,pushEnvs] using e.frames),e.mod,e.bs,e.bsz,e.funs,e.frf,e.hok,e.bare⟩
section
variable {X:Cx} {pins:List (Addr × Obj)} {σ:St} {H:Hp} {s s':Shared}
theorem Inv.env0 (I:Inv X pins σ H s):Env0 X.prog X.w X.K X.mg X.base X.A X.stack s H :=
 ⟨I.ok.frames,I.ok.mod,I.bs,Nat.le_trans I.ok.bsz I.sz,I.stack,I.stkFree,I.hok,I.bare⟩
theorem Inv.after {Q:VK} {u:Value} (I:Inv X pins σ H s) (h:CE X.stack X.prog X.w H s Q u s'):EP X pins σ Q u s':=by
 obtain ⟨v,H',os,bare,un,hok,r,q⟩:=h;obtain ⟨hh,g,d,t,os'⟩:=s';obtain rfl:os'=s.os:=os;exact ⟨v,H',I.call (h':=hh) (g':=g) (d':=d) (t':=t) (ch:=[]) un hok bare (fun b z=>absurd z (by simp)),r,q⟩
end
def vb8 (sp:Sp) (dvs:List V) (E:XK) (t:TA):TE:=fun σ H Q=>t σ H fun vs H1=>sp (vs++dvs) H1 Q E
def vo6 (C:Addr) (m:Str) (sp:Sp) (dvs:List V) (E:XK) (ta:TE) (t:TA):TE:=fun σ H Q=>ta σ H fun x H1=>∃ a dx fs,x=.ref a /\ H1 a=some (.ins C dx fs) /\ fs.lookup m=none /\
 t σ H1 fun vs H2=>sp (x::(vs++dvs)) H2 Q E
def Binds (K:PySem.W.Frag) (fd:FuncData) (ps:List Str) (ds:List Value):Prop :=
 ∀ (s:Shared) (us:List Value),K.In s.heap->(us++ds).length=ps.length->BindsTo s fd ⟨us,[]⟩ (ps.zip (us++ds))
theorem Binds.all {K:PySem.W.Frag} {fd:FuncData} {ps:List Str} (h:∀ us:List Value,us.length=ps.length->bindArgs fd ⟨us,[]⟩=pure (ps.zip us)):Binds K fd ps []:=fun s us _ hl=>by
 rw [List.append_nil] at hl ⊢;exact .of_eq (h us hl)
def Passes (CX:CXT) (X:Cx) (E:XK):Prop:=∀ (pins:List (Addr × Obj)) (σ:St) (H:Hp) (s:Shared) (e:Value) (s':Shared),Inv X pins σ H s->CX X.stack H s E e s'->X.xe e s'
section
variable {X:Cx} {CX:CXT} {k:Nat} {f C:Addr} {fd:FuncData} {ps:List Str} {sp:Sp} {dvs:List V} {ds:List Value} {E:XK} {x m:Str} {p pos apos:Pos} {e o:Expr} {es:List Expr} {ta:TE} {t:TA}
theorem v81 {pins:List (Addr × Obj)} {σ:St} {H:Hp} {s:Shared} {Q:VK} {us:List Value} {vs:List V} (F:FnOk X.prog X.w X.K X.mg X.base CX k f fd ps sp) (hr:Room k X.A) (hb:Binds X.K fd ps ds) (hd:Vals dvs ds) (hx:Passes CX X E)
  (I:Inv X pins σ H s) (r:Vals vs us) (h:sp (vs++dvs) H Q E):wpAny (model X.prog X.w) X.A (call (.ref f) us) (EP X pins σ Q) X.xe s:=by
 have r2:Vals (vs++dvs) (us++ds):=r.append hd;have hl:(us++ds).length=ps.length:=by rw [<- r2.length];exact F.len _ _ _ _ h
 refine wpAny_call (codeAny_mono (F.run X.A X.stack s H ⟨us,[]⟩ (us++ds) (vs++dvs) Q E hr I.env0 (hb s us I.kIn hl) r2 h) fun r s' hq=>?_);cases r with
 | error e=>exact hx pins σ H s e s' I hq
 | ok fl =>
  cases fl with
  | ret u=>exact I.after hq
  | next=>exact False.elim hq
  | brk=>exact False.elim hq
  | cont=>exact False.elim hq
theorem us2 (F:FnOk X.prog X.w X.K X.mg X.base CX k f fd ps sp) (hr:Room k X.A) (hg:Gl X x) (hm:X.mg x=some (.ref f)) (hk:PySem.W.keepIn X.K (.ref f)=true) (hb:Binds X.K fd ps ds) (hd:Vals dvs ds) (hx:Passes CX X E)
  (ha:PA X (e::es) t) (hdb:(x == ("__debug__" : Str))=false:=by decide) (he:starEach (e::es) X.env=(false,eval e X.env)::starEach es X.env:=by rfl) (hpl:(backTo pos (starEach es X.env)).any (·.1)=false:=by rfl) :
  PE X (.Call (.Name x p) (e::es) [] pos) (vb8 sp dvs E t):=by
 intro pins s σ H Q I h;refine wpAny_Call_Name_kw (u75 I hg hm ?_ hdb)
 (refine PySem.W.callWith_K (h₀:=X.base) I.ok.mod.kin hk (thn (ha pos pins s σ H _ I h) ?_) he hpl;rintro us s1 ⟨vs,H1,I1,r,q⟩;refine ⟨I1.kIn,?_⟩)
 exact v81 F hr hb hd hx I1 r q
theorem vf0 {pl:Sem Bool} (he:PE X o ta) (c:Cls X.K C) (hm:Meth X.K C m f) (F:FnOk X.prog X.w X.K X.mg X.base CX k f fd ps sp) (hr:Room k X.A) (hb:Binds X.K fd ps ds) (hd:Vals dvs ds) (hx:Passes CX X E) (ha:PA X (e::es) t)
  (hst:starEach (e::es) X.env=(false,eval e X.env)::starEach es X.env:=by rfl) (hpl:(backTo pos (starEach es X.env)).any (·.1)=false:=by rfl)
  (ht:eval (.Call (.Attribute o m apos) (e::es) [] pos) X.env=(do
   let ov <- eval o X.env
   standAt apos.atName
   let (f,first) <- holding [ov] (getMethod ov m pl)
   callWith pos f first (backTo pos (starEach (e::es) X.env)) (backToKw pos (keywordEach [] X.env))):=by rfl) :
  PE X (.Call (.Attribute o m apos) (e::es) [] pos) (vo6 C m sp dvs E ta t):=by
 intro pins s σ H Q I h
 (refine PySem.W.methodCall_KW (pl:=pl) (thn (he pins s σ H _ I h) ?_) ht;rintro u s1 ⟨x,H1,I1,rx,a,dx,fs,ex,ea,l,q⟩)
 subst ex;obtain rfl:u=Value.ref a:=rx;refine uo1 I1 ea c hm l ?_
 (refine PySem.W.callWith_K (first:=[.ref a]) (h₀:=X.base) I.ok.mod.kin hm.kp (thn (ha pos pins s1 σ H1 _ I1 q) ?_) hst hpl;rintro us s2 ⟨vs,H2,I2,r,q2⟩;refine ⟨I2.kIn,?_⟩)
 exact v81 (us:=.ref a::us) (vs:=.ref a::vs) F hr hb hd hx I2 (.cons rfl r) q2
structure Mk (K:PySem.W.Frag) (C f:Addr):Prop where
 makes:PySem.W.makesIn K C=true
 init:PySem.W.findIn K (.ref C) "__init__" = some (some (.ref f))
 fn:PySem.W.isFn K (.ref f)=true
 kp:PySem.W.keepIn K (.ref C)=true
end
section
variable {X:Cx} {CX:CXT} {k:Nat} {f C:Addr} {fd:FuncData} {ps ks:List Str} {sp:Sp} {E:XK} {x m:Str} {p pos apos kpos:Pos} {e o:Expr} {es:List Expr} {kws:List Keyword} {te ta:TE} {t tk:TA} {nm:Option Str}
structure KBinds (K:PySem.W.Frag) (fd:FuncData) (ps ks:List Str) (g:List Value->List Value->List Value) (gV:List V->List V->List V):Prop where
 to:∀ (s:Shared) (us ws:List Value),K.In s.heap->(g us ws).length=ps.length->BindsTo s fd ⟨us,ks.zip ws⟩ (ps.zip (g us ws))
 rel:∀ {vs:List V} {us:List Value} {zs:List V} {ws:List Value},Vals vs us->Vals zs ws->Vals (gV vs zs) (g us ws)
variable {g:List Value->List Value->List Value} {gV:List V->List V->List V}
end
structure FnScope (N P:List Str) (sc:Scope):Prop where
 kind:sc.kind=.function
 co:sc.isCoroutine=false
 gen:sc.isGenerator=false
 nd:N.Nodup
 pre:N.take P.length=P
 par:∀ x ∈ P,sc.names.lookup x=some .local \/ sc.names.lookup x=some .cell
 nofree:∀ y ∈ sc.names,y.2 ≠ .free
theorem ug2 {kindOf:Str->Option NameKind} {x:Str}:∀ {binds:List (Str × Value)} {m:Str->Option Value},(∀ v,(x,v) ∉ binds)->bindL kindOf binds m x=m x
 | [],_,_=>rfl
 | (n,v)::r,m,h=>by
  unfold bindL;rw [ug2 fun w hw=>h w (List.mem_cons_of_mem _ hw)];split
  ·have:x ≠ n:=by rintro rfl;exact h v List.mem_cons_self
   simp [this]
  ·rfl
theorem ug4 {kindOf:Str->Option NameKind} {x:Str}:∀ {binds:List (Str × Value)} {m:Str->Option Value},(∀ v,(x,v) ∉ binds)->bindC kindOf binds m x=m x
 | [],_,_=>rfl
 | (n,v)::r,m,h=>by
  unfold bindC;rw [ug4 fun w hw=>h w (List.mem_cons_of_mem _ hw)];split
  ·rfl
  ·have:x ≠ n:=by rintro rfl;exact h v List.mem_cons_self
   simp [this]
theorem ug3 {kindOf:Str->Option NameKind} {x:Str} {v:Value}:∀ {P:List Str} {vs:List Value} {i:Nat} {m:Str->Option Value},P.Nodup->P[i]?=some x->vs[i]?=some v->kindOf x=some .local ->
  bindL kindOf (P.zip vs) m x=some v
 | [],_,_,_,_,h,_,_=>by simp at h
 | _::_,[],_,_,_,_,h,_=>by simp at h
 | p::P,w::vs,0,m,nd,h1,h2,hk=>by
  simp at h1 h2;subst h1;subst h2
  show bindL kindOf ((p,w)::P.zip vs) m p=_
  unfold bindL;rw [ug2 fun v hv=>(List.nodup_cons.mp nd).1 (List.of_mem_zip hv).1,if_pos hk];simp
 | p::P,w::vs,i+1,m,nd,h1,h2,hk=>by
  show bindL kindOf ((p,w)::P.zip vs) m x=_
  unfold bindL;exact ug3 (i:=i) (List.nodup_cons.mp nd).2 (by simpa using h1) (by simpa using h2) hk
theorem ug5 {kindOf:Str->Option NameKind} {x:Str} {v:Value}:∀ {P:List Str} {vs:List Value} {i:Nat} {m:Str->Option Value},P.Nodup->P[i]?=some x->vs[i]?=some v->kindOf x ≠ some .local ->
  bindC kindOf (P.zip vs) m x=some v
 | [],_,_,_,_,h,_,_=>by simp at h
 | _::_,[],_,_,_,_,h,_=>by simp at h
 | p::P,w::vs,0,m,nd,h1,h2,hk=>by
  simp at h1 h2;subst h1;subst h2
  show bindC kindOf ((p,w)::P.zip vs) m p=_
  unfold bindC;rw [ug4 fun v hv=>(List.nodup_cons.mp nd).1 (List.of_mem_zip hv).1,if_neg hk];simp
 | p::P,w::vs,i+1,m,nd,h1,h2,hk=>by
  show bindC kindOf ((p,w)::P.zip vs) m x=_
  unfold bindC;exact ug5 (i:=i) (List.nodup_cons.mp nd).2 (by simpa using h1) (by simpa using h2) hk
def start (N:List Str) (vs:List V):St:=vs.map some++List.replicate (N.length - vs.length) none
def cxOf (CX:CXT) (P:Program) (w:World) (K:PySem.W.Frag) (mg:Str->Option Value) (base:Heap) (N:List Str) (qual:Str) (scope:Scope) (f:Addr) (cd:Value) (A:Around) (outer:List Env) (s:Shared) (H:Hp) (E:XK):Cx where
 prog:=P
 w:=w
 K:=K
 mg:=mg
 base:=base
 A:=A.deeper (envOfC qual scope s.heap.objs.size f cd)
 N:=N
 s₀:=s
 H₀:=H
 env:=envOfC qual scope s.heap.objs.size f cd
 outer:=outer
 stack:=envOfC qual scope s.heap.objs.size f cd::outer
 ex:=[]
 calm:=true
 fn:=fun _=>true
 pn:=[]
 xe:=fun e s'=>wpAny (model P w) (A.deeper (envOfC qual scope s.heap.objs.size f cd)) (leaving (envOfC qual scope s.heap.objs.size f cd) e) (fun _ s''=>CX outer H s E e s'') (fun e' s''=>CX outer H s E e' s'') s'
theorem um7 {sc:Scope} {n:Nat} {x:Str} (h:sc.names.lookup x=some .cell):∃ c,(cellsFrom n sc.names []).lookup x=some c:=by
 have q:=PySem.W.cellsFrom_some sc.names n [] (.inl h);exact Option.isSome_iff_exists.mp q
theorem uv7 {CX:CXT} {P:Program} {w:World} {K:PySem.W.Frag} {mg:Str->Option Value} {base:Heap} {N ps:List Str} {qual:Str} {scope:Scope} {f:Addr} {cd:Value} {A:Around} {outer:List Env} {s s1:Shared} {H:Hp} {E:XK} {us:List Value} {vs:List V}
  (S:FnScope N ps scope) (hd:A.handled=none) (e0:Env0 P w K mg base A outer s H) (hl:vs.length=ps.length) (r:Vals vs us)
  (x:InCallC s s.heap.objs.size (bindL (envOfC qual scope s.heap.objs.size f cd).kindOf (ps.zip us) fun _=>none) (cellsFrom (s.heap.objs.size+1) scope.names []) (bindC (envOfC qual scope s.heap.objs.size f cd).kindOf (ps.zip us) fun _=>none) s1) :
  Inv (cxOf CX P w K mg base N qual scope f cd A outer s H E) [] (start N vs) H s1:=by
 have hpl:ps.length<=N.length:=by have:=congrArg List.length S.pre;rw [List.length_take] at this;omega
 obtain ⟨h1,tk,rfl,hk⟩:=x.done;have noA:∀ b:Addr,b ∉ (cxOf CX P w K mg base N qual scope f cd A outer s H E).ex:=fun b z=>absurd (show b ∈ ([]:List Addr) from z) (by simp)
 refine ⟨⟨e0.mod,S.kind,rfl,rfl,Nat.le_refl _,fun y z c h1 h2=>?_,fun y hy=>?_,fun y c _ h=>?_,fun _=>hd,Around.frames_deeper e0.frames,.inr ⟨rfl,rfl⟩,fun b z=>absurd z (noA b),e0.bs,e0.bsz,fun b _ _=>noA b,fun b z=>absurd z (noA b),e0.funs,e0.frf⟩,
  rfl,e0.bare,Un.kept hk,⟨_,x.toInCall.ns,fun i y v h1 h2 h3=>?_⟩,fun y c h=>⟨_,x.cell y c h⟩,e0.hok.fresh (Nat.le_refl _),fun y c h=>?_,fun p hp=>absurd (show p ∈ ([]:List (Addr × Obj)) from hp) (by simp),e0.hok.kept hk,?_⟩
 ·exact name_of_addr x.apart (PySem.mem_of_lookup h1) (PySem.mem_of_lookup h2)
 ·have hy:scope.names.lookup y=some .cell \/ scope.names.lookup y=some .free:=hy
  rcases hy with hy | hy
  ·exact um7 hy
  ·exact absurd rfl (S.nofree _ (PySem.mem_of_lookup hy))
 ·exact Nat.le_of_lt (x.above y c (PySem.mem_of_lookup h))
 ·have hi:i < vs.length:=by
   unfold start at h2
   by_cases hi:i < vs.length
   ·exact hi
   ·rw [List.getElem?_append_right (by simpa using hi)] at h2
    rw [List.getElem?_replicate] at h2;split at h2 <;> cases h2
  have ha:vs[i]?=some v:=by
   unfold start at h2;rw [List.getElem?_append_left (by simpa using hi),List.getElem?_map] at h2;cases e:vs[i]? with
   | none=>rw [e] at h2;cases h2
   | some a=>rw [e] at h2;cases h2;rfl
  obtain ⟨u,hu,rv⟩:=r.get ha;have hp:ps[i]?=some y:=by
   rw [<- S.pre,List.getElem?_take_of_lt (by omega)];exact h1
  have ndP:ps.Nodup:=by rw [<- S.pre];exact S.nd.sublist (List.take_sublist _ _)
  refine ⟨u,rv,?_⟩
  rcases S.par y (List.mem_of_getElem? hp) with k | k
  ·exact .inl ⟨k,ug3 ndP hp hu k⟩
  ·obtain ⟨c,e⟩:=um7 (n:=s.heap.objs.size+1) k
   refine .inr ⟨.inl k,c,e,?_⟩;have q:=x.cell y c e;rw [ug5 ndP hp hu (by show scope.names.lookup y ≠ _;rw [k];decide)] at q;exact q
 ·exact e0.hok.fresh (Nat.le_of_lt (x.above y c (PySem.mem_of_lookup h)))
 ·unfold start
  show _=N.length
  rw [List.length_append,List.length_map,List.length_replicate];omega
theorem v50 {CX:CXT} {P:Program} {w:World} {K:PySem.W.Frag} {mg:Str->Option Value} {base:Heap} {k:Nat} {f:Addr} {name qual:Str} {params:Arguments} {body:List Stmt} {scope:Scope} {dV kV doc pm cdv ct oc:Value} {an od:Option Addr}
  {osl:Array (Option Value)} {N ps:List Str} {sp:Sp} (lk:K.lookup f=some ⟨oc,od,.func (PySem.W.fnOf name qual params body scope dV kV doc pm an cdv ct),osl⟩) (hcd:PySem.W.codeIn K cdv qual=true) (S:FnScope N ps scope)
  (len:∀ vs H Q E,sp vs H Q E->vs.length=ps.length)
  (hbody:∀ (A:Around) (outer:List Env) (s:Shared) (H:Hp) (vs:List V) (Q:VK) (E:XK),Room k (A.deeper (envOfC qual scope s.heap.objs.size f cdv))->sp vs H Q E ->
   ∃ t,PSs (cxOf CX P w K mg base N qual scope f cdv A outer s H E) body t /\ t { nx:=fun _ H'=>Q .non H',rt:=Q } (start N vs) H) :
  FnOk P w K mg base CX (k+1) f (PySem.W.fnOf name qual params body scope dV kV doc pm an cdv ct) ps sp:=by
 refine ⟨len,fun A outer s H args us vs Q E hr e0 hb r hsp=>?_⟩;have hl:=len _ _ _ _ hsp;have KX:K.In s.heap:=e0.mod.kin.keeps fun b o e=>(e0.bs b o e).1
 have lim:s.heap.NoLimit:=e0.mod.nolimit.keeps fun b o e=>(e0.bs b o e).1
 have hkind:∀ y ∈ ps.zip us,scope.names.lookup y.1=some .local \/ (scope.names.lookup y.1=some .cell /\ ((cellsFrom (s.heap.objs.size+1) scope.names []).lookup y.1).isSome=true):=fun ⟨n,v⟩ hy=>by
  rcases S.par n (List.of_mem_zip hy).1 with q | q
  ·exact .inl q
  ·exact .inr ⟨q,PySem.W.cellsFrom_some _ _ _ (.inl q)⟩
 refine codeAny_call_function hr.depth (KX _ _ lk) rfl S.co S.gen rfl (PySem.W.codeRec_of KX hcd) (hb _ _ _ _ ?_);refine wpAny_newFunctionEnv_cells S.kind hkind fun env he s1 x=>?_
 subst he;refine ⟨lim.keeps x.toInCall.keep,codeAny_func ?_⟩;obtain ⟨t,ht,hq⟩:=hbody A outer s H vs Q E (hr.deeper _) hsp;have I:Inv (cxOf CX P w K mg base N qual scope f cdv A outer s H E) [] (start N vs) H s1:=uv7 S hr.hd e0 hl r x;refine wpAny_mono (ht [] s1 (start N vs) H _ I hq) (fun fl s' hs=>?_) fun e s' hs=>hs
 have fin:∀ {σ':St} {H':Hp} {v:V} {u:Value},Inv (cxOf CX P w K mg base N qual scope f cdv A outer s H E) [] σ' H' s'->RelV v u->Q v H'->CE outer P w H s Q u s' :=
  fun {σ' H' v u} J rv q=>⟨v,H',J.os,J.bare,J.base,J.hok,rv,q⟩
 cases fl with
 | ret u =>
  obtain ⟨v,σ',H',J,rv,q⟩:=hs;exact fin J rv q
 | next =>
  obtain ⟨σ',H',J,q⟩:=hs;exact fin (v:=V.non) (u:=Value.none) J rfl q
 | brk =>
  obtain ⟨_,_,_,q⟩:=hs;exact False.elim q
 | cont =>
  obtain ⟨_,_,_,q⟩:=hs;exact False.elim q
section
variable {X:Cx} {x:Str} {p pos:Pos} {e:Expr} {es:List Expr} {t:TA} {id T:String} {r:List V->Hp->VK->Prop}
def tCB (r:List V->Hp->VK->Prop) (t:TA):TE:=fun σ H Q=>t σ H fun vs H1=>r vs H1 Q
theorem v23 (hc:CallR X (.builtin id) r) (hg:Gl X x) (hm:X.mg x=none) (hv:bootBuiltins x=some (.builtin id)) (ha:PA X (e::es) t) (hn:x ≠ "__name__" := by decide) (hdb:(x == ("__debug__" : Str))=false:=by decide)
  (he:starEach (e::es) X.env=(false,eval e X.env)::starEach es X.env:=by rfl) (hpl:(backTo pos (starEach es X.env)).any (·.1)=false:=by rfl):PE X (.Call (.Name x p) (e::es) [] pos) (tCB r t):=by
 intro pins s σ H Q I h;refine wpAny_Call_Name_kw (uf3 I hg hm hv ?_ hn hdb)
 (refine PyProof.Rows.callWith_builtin1 (thn (ha pos pins s σ H _ I h) ?_) he hpl;rintro us s1 ⟨vs,H1,I1,r1,q1⟩;exact hc pins s1 σ H1 vs us Q I1 r1 q1)
theorem us1 (hc:CallR X (.type T) r) (hg:Gl X x) (hm:X.mg x=none) (hv:bootBuiltins x=some (.type T)) (ha:PA X (e::es) t) (hn:x ≠ "__name__" := by decide) (hdb:(x == ("__debug__" : Str))=false:=by decide)
  (he:starEach (e::es) X.env=(false,eval e X.env)::starEach es X.env:=by rfl) (hpl:(backTo pos (starEach es X.env)).any (·.1)=false:=by rfl):PE X (.Call (.Name x p) (e::es) [] pos) (tCB r t):=by
 intro pins s σ H Q I h;refine wpAny_Call_Name_kw (uf3 I hg hm hv ?_ hn hdb)
 (refine PyProof.Rows.callWith_type1 (thn (ha pos pins s σ H _ I h) ?_) he hpl;rintro us s1 ⟨vs,H1,I1,r1,q1⟩;exact hc pins s1 σ H1 vs us Q I1 r1 q1)
end
section
variable {κ:Type} [DecidableEq κ]
def valV (kvs:List (κ × V)) (k:κ):Option V:=(kvs.find? fun kv=>decide (kv.1=k)).map (·.2)
def putK (kvs:List (κ × V)) (k:κ) (v:V):List (κ × V) :=
 if (kvs.any fun kv=>decide (kv.1=k))=true then kvs.map (fun kv=>if kv.1=k then (kv.1,v) else kv) else kvs++[(k,v)]
def vx5 (kvs:List (κ × V)) (k:κ):List (κ × V):=kvs.filter fun kv=>decide (kv.1 ≠ k)
theorem ub3 {p:κ × V} {r:List (κ × V)} {k:κ} (e:p.1=k):valV (p::r) k=some p.2:=by simp [valV,List.find?_cons,e]
theorem ub4 {p:κ × V} {r:List (κ × V)} {k:κ} (e:¬ p.1=k):valV (p::r) k=valV r k:=by simp [valV,List.find?_cons,e]
theorem uj8 (k:κ):∀ kvs:List (κ × V),(kvs.any fun kv=>decide (kv.1=k))=(valV kvs k).isSome
 | []=>rfl
 | p::r=>by
  rw [List.any_cons]
  by_cases e:p.1=k
  ·simp only [ub3 e,decide_eq_true e,Bool.true_or,Option.isSome_some]
  ·rw [ub4 e,decide_eq_false e,Bool.false_or];exact uj8 k r
theorem RelO.isSome_eq {o:Option V} {u:Option Value} (r:RelO o u):o.isSome=u.isSome:=by
 cases o with
 | none=>cases u with
  | none=>rfl
  | some _=>exact (show False from r).elim
 | some _=>cases u with
  | none=>exact (show False from r).elim
  | some _=>rfl
theorem RelO.getD {o:Option V} {u:Option Value} {d:V} {d':Value} (r:RelO o u) (rd:RelV d d'):RelV (o.getD d) (u.getD d'):=by
 cases o with
 | none=>cases u with
  | none=>exact rd
  | some _=>exact (show False from r).elim
 | some _=>cases u with
  | none=>exact (show False from r).elim
  | some _=>exact r
theorem KV.val {kvs:List (κ × V)} {vs:List (κ × Value)} (r:KV kvs vs) (k:κ):RelO (valV kvs k) (valueAt vs k):=by
 unfold KV at r
 induction r with
 | nil=>exact True.intro
 | @cons p q ps qs h t ih =>
  obtain ⟨h1,h2⟩:=h
  by_cases e:p.1=k
  ·have e':q.1=k:=h1.symm.trans e
   have b:valueAt (q::qs) k=some q.2:=by simp [valueAt,List.find?_cons,e']
   rw [ub3 e,b];exact h2
  ·have e':¬ q.1=k:=fun z=>e (h1.trans z)
   have b:valueAt (q::qs) k=valueAt qs k:=by simp [valueAt,List.find?_cons,e']
   rw [ub4 e,b];exact ih
theorem KV.any {kvs:List (κ × V)} {vs:List (κ × Value)} (r:KV kvs vs) (k:κ):(kvs.any fun kv=>decide (kv.1=k))=vs.any fun kv=>decide (kv.1=k):=by
 unfold KV at r
 induction r with
 | nil=>rfl
 | cons h t ih=>rw [List.any_cons,List.any_cons,ih,h.1]
theorem KV.repl {kvs:List (κ × V)} {vs:List (κ × Value)} (r:KV kvs vs) (k:κ) {y:V} {u:Value} (ry:RelV y u) :
  KV (kvs.map fun kv=>if kv.1=k then (kv.1,y) else kv) (vs.map fun kv=>if kv.1=k then (kv.1,u) else kv):=by
 unfold KV at r ⊢
 induction r with
 | nil=>exact .nil
 | @cons p q ps qs h t ih =>
  rw [List.map_cons,List.map_cons];refine .cons ?_ ih;obtain ⟨h1,h2⟩:=h
  by_cases e:p.1=k
  ·rw [if_pos e,if_pos (h1.symm.trans e)];exact ⟨h1,ry⟩
  ·rw [if_neg e,if_neg (fun z=>e (h1.trans z))];exact ⟨h1,h2⟩
theorem KV.put {kvs:List (κ × V)} {vs:List (κ × Value)} (r:KV kvs vs) (k:κ) {y:V} {u:Value} (ry:RelV y u):KV (putK kvs k y) (stored vs k u):=by
 unfold putK stored;rw [r.any k]
 by_cases e:(vs.any fun kv=>decide (kv.1=k))=true
 ·rw [if_pos e,if_pos e];exact r.repl k ry
 ·rw [if_neg e,if_neg e];exact Paired.snoc r ⟨rfl,ry⟩
theorem KV.drop {kvs:List (κ × V)} {vs:List (κ × Value)} (r:KV kvs vs) (k:κ):KV (vx5 kvs k) (without vs k):=by
 unfold KV at r ⊢;unfold vx5 without
 induction r with
 | nil=>exact .nil
 | @cons p q ps qs h t ih =>
  obtain ⟨h1,h2⟩:=h;rw [List.filter_cons,List.filter_cons]
  by_cases e:p.1=k
  ·have a:¬ decide (p.1 ≠ k)=true:=by simp [e]
   have b:¬ decide (q.1 ≠ k)=true:=by simp [h1.symm.trans e]
   rw [if_neg a,if_neg b];exact ih
  ·have e':¬ q.1=k:=fun z=>e (h1.trans z)
   have a:decide (p.1 ≠ k)=true:=by simp [e]
   have b:decide (q.1 ≠ k)=true:=by simp [e']
   rw [if_pos a,if_pos b];exact .cons ⟨h1,h2⟩ ih
theorem KV.keys {kvs:List (κ × V)} {vs:List (κ × Value)} (r:KV kvs vs):kvs.map (·.1)=vs.map (·.1):=by
 unfold KV at r
 induction r with
 | nil=>rfl
 | cons h t ih=>rw [List.map_cons,List.map_cons,ih,h.1]
theorem KV.length {kvs:List (κ × V)} {vs:List (κ × Value)} (r:KV kvs vs):kvs.length=vs.length:=Paired.length r
end
abbrev KT (H:Hp):List (List Key × V)->List (List Key × Addr × Value)->Prop:=Paired fun p q=>p.1=q.1 /\ H q.2.1=some (.tup (p.1.map kV)) /\ RelV p.2 q.2.2
theorem KT.val {H:Hp} {kvs:List (List Key × V)} {xs:List (List Key × Addr × Value)} (r:KT H kvs xs) (k:List Key):RelO (valV kvs k) ((atKey xs k).map (·.2)):=by
 induction r with
 | nil=>exact True.intro
 | @cons p q ps qs h t ih =>
  obtain ⟨h1,_,h2⟩:=h
  by_cases e:p.1=k
  ·have e':q.1=k:=h1.symm.trans e
   have b:atKey (q::qs) k=some q.2:=by simp [atKey,List.find?_cons,e']
   rw [ub3 e,b];exact h2
  ·have e':¬ q.1=k:=fun z=>e (h1.trans z)
   have b:atKey (q::qs) k=atKey qs k:=by simp [atKey,List.find?_cons,e']
   rw [ub4 e,b];exact ih
theorem KT.repl {H:Hp} {kvs:List (List Key × V)} {xs:List (List Key × Addr × Value)} (r:KT H kvs xs) (k:List Key) {y:V} {u:Value} (ry:RelV y u) :
  KT H (kvs.map fun kv=>if kv.1=k then (kv.1,y) else kv) (xs.map (putAt k u)):=by
 induction r with
 | nil=>exact .nil
 | @cons p q ps qs h t ih =>
  rw [List.map_cons,List.map_cons];refine .cons ?_ ih;obtain ⟨h1,h2,h3⟩:=h;unfold putAt
  by_cases e:p.1=k
  ·rw [if_pos e,if_pos (h1.symm.trans e)];exact ⟨h1,h2,ry⟩
  ·rw [if_neg e,if_neg (fun z=>e (h1.trans z))];exact ⟨h1,h2,h3⟩
theorem KT.put {H:Hp} {kvs:List (List Key × V)} {xs:List (List Key × Addr × Value)} (r:KT H kvs xs) (k:List Key) {b:Addr} {y:V} {u:Value} (hb:H b=some (.tup (k.map kV))) (ry:RelV y u) :
  KT H (putK kvs k y) (storedH xs k b u):=by
 have e:(kvs.any fun kv=>decide (kv.1=k))=(atKey xs k).isSome:=by
  rw [uj8,(r.val k).isSome_eq,Option.isSome_map]
 unfold putK storedH;rw [e]
 by_cases q:(atKey xs k).isSome=true
 ·rw [if_pos q,if_pos q];exact r.repl k ry
 ·rw [if_neg q,if_neg q];exact Paired.snoc r ⟨rfl,hb,ry⟩
theorem KT.keeps {H H':Hp} {kvs:List (List Key × V)} {xs:List (List Key × Addr × Value)} (r:KT H kvs xs) (ht:∀ b ys,H b=some (.tup ys)->H' b=some (.tup ys)):KT H' kvs xs :=
 Paired.mapP r fun _ _ z=>⟨z.1,ht _ _ z.2.1,z.2.2⟩
def DGet (H:Hp) (a:Addr) (y:V) (r:Option V):Prop :=
 (∃ kvs k,Rd H a (.dK kvs) /\ y=kV k /\ r=valV kvs k) \/ ∃ kvs k b,Rd H a (.dT kvs) /\ y=.ref b /\ H b=some (.tup (k.map kV)) /\ r=valV kvs k
def DPut (H:Hp) (a:Addr) (y v:V) (H':Hp):Prop :=
 (∃ kvs k,H a=some (.dK kvs) /\ y=kV k /\ kvs.length < sizeLine /\ H'=upd H a (.dK (putK kvs k v))) \/
 ∃ kvs k b,H a=some (.dT kvs) /\ y=.ref b /\ H b=some (.tup (k.map kV)) /\ kvs.length < sizeLine /\ H'=upd H a (.dT (putK kvs k v))
theorem DGet.k {H:Hp} {a:Addr} {kvs:List (Key × V)} {k:Key} (e:H a=some (.dK kvs)):DGet H a (kV k) (valV kvs k):=.inl ⟨kvs,k,.inl e,rfl,rfl⟩
theorem DGet.t {H:Hp} {a b:Addr} {kvs:List (List Key × V)} {k:List Key} (e:H a=some (.dT kvs)) (eb:H b=some (.tup (k.map kV))):DGet H a (.ref b) (valV kvs k):=.inr ⟨kvs,k,b,.inl e,rfl,eb,rfl⟩
theorem DPut.k {H:Hp} {a:Addr} {kvs:List (Key × V)} {k:Key} {v:V} (e:H a=some (.dK kvs)) (hl:kvs.length < sizeLine):DPut H a (kV k) v (upd H a (.dK (putK kvs k v))):=.inl ⟨kvs,k,e,rfl,hl,rfl⟩
theorem DPut.t {H:Hp} {a b:Addr} {kvs:List (List Key × V)} {k:List Key} {v:V} (e:H a=some (.dT kvs)) (eb:H b=some (.tup (k.map kV))) (hl:kvs.length < sizeLine) :
  DPut H a (.ref b) v (upd H a (.dT (putK kvs k v))):=.inr ⟨kvs,k,b,e,rfl,eb,hl,rfl⟩
structure M1 (X:Cx) (o:Expr) (m:Str) (apos:Pos) (e:Expr) (cpos:Pos):Prop where
 base:attributeBase o m X.env (eval o X.env)=eval o X.env
 few:((backTo cpos (starEach [e] X.env)).all (fun x=>!x.1) && (backToKw cpos (keywordEach [] X.env)).all (fun x=>x.1.isSome)
  && decide (([e]:List Expr).length+([]:List Keyword).length+(if ([]:List Keyword).isEmpty then 0 else 1) < 30))=true
 line:(apos.endLine == cpos.line)=true
 trees:backTo cpos (starEach [e] X.env)=[(false,eval e X.env)]
structure M2 (X:Cx) (o:Expr) (m:Str) (apos:Pos) (e f:Expr) (cpos:Pos):Prop where
 base:attributeBase o m X.env (eval o X.env)=eval o X.env
 few:((backTo cpos (starEach [e,f] X.env)).all (fun x=>!x.1) && (backToKw cpos (keywordEach [] X.env)).all (fun x=>x.1.isSome)
  && decide (([e,f]:List Expr).length+([]:List Keyword).length+(if ([]:List Keyword).isEmpty then 0 else 1) < 30))=true
 line:(apos.endLine == cpos.line)=true
 trees:backTo cpos (starEach [e,f] X.env)=[(false,eval e X.env),(false,eval f X.env)]
end L2
namespace HT
open PySem PyProof.Rows
section
open PySem.SeqAt
open PySem.AutoSeq1 (wpAny_loadPart')
open PySem.MeetsSeq PySem.MeetsSeq2 PySem.MeetsSeq3
end
section
variable {prog:Program} {w:World} {A:Around} {E:Value->Shared->Prop} {s:Shared}
theorem cat_tup {t b:Addr} {vs ws:List Value} {Q:Value->Shared->Prop} (ht:IsTup s.heap t vs.toArray) (hb:IsTup s.heap b ws.toArray) (hv:vs ≠ [])
  (h1:ws=[]->Q (.ref t) s) (h2:ws ≠ []->Q (.ref s.heap.objs.size) { s with heap:=s.heap.push { cls:=.type "tuple",data:=.seq (vs++ws).toArray } })
  (hsz:vs.length+ws.length<=sizeLine):wpAny (model prog w) A (binaryOp .Add (.ref t) (.ref b)) Q E s:=by
 obtain ⟨⟨cls,dd,data,sl⟩,ho,hc,n,hd⟩:=id ht;obtain ⟨⟨cls2,dd2,data2,sl2⟩,ho2,hc2,n2,hd2⟩:=id hb;simp only at hc hd hc2 hd2;subst hc hd hc2 hd2;have e:vs.toArray++ws.toArray=(vs++ws).toArray:=by simp
 by_cases hw:ws=[]
 ·exact concat_meets ⟨_,ho,rfl⟩ ⟨_,ho2,rfl⟩ noFill_tuple_add seq_tuple_add PySem.F.slot_tuple_add PySem.F.entry_tuple_add (PySem.F.args_tuple_add_2 _ _)
   (tuple_addW1 t b vs.toArray ws.toArray n n2 dd dd2 sl sl2 (by simpa using hv) (by simp [hw])) ⟨ho,ho2,h1 hw⟩
 ·refine concat_meets ⟨_,ho,rfl⟩ ⟨_,ho2,rfl⟩ noFill_tuple_add seq_tuple_add PySem.F.slot_tuple_add PySem.F.entry_tuple_add (PySem.F.args_tuple_add_2 _ _)
   (tuple_addW2 t b vs.toArray ws.toArray n n2 dd dd2 sl sl2 (by simpa using hv) (by simpa using hw) (by rw [List.size_toArray,List.size_toArray];exact hsz)) ⟨ho,ho2,?_⟩
  rw [e];exact h2 hw
def sIx (n d:Nat):Option Int->Nat
 | none=>d
 | some v=>if v < 0 then (v+(n:Int)).toNat else min v.toNat n
end
end HT
namespace L2
open PySem PySem.Spec PyProof.Rows
abbrev TO:=St->Hp->(Option Int->Hp->Prop)->Prop
def PO (X:Cx) (e:Option Expr) (t:TO):Prop :=
 ∀ (pins:List (Addr × Obj)) (s:Shared) (σ:St) (H:Hp) (Q:Option Int->Hp->Prop),Inv X pins σ H s->t σ H Q ->
  wpAny (model X.prog X.w) X.A (evalPart e X.env) (fun u s'=>∃ o H',Inv X pins σ H' s' /\ IsPart u o /\ Q o H') X.xe s
def uq2:TO:=fun _ H Q=>Q none H
def vo3 (t:TE):TO:=fun σ H Q=>t σ H fun x H1=>∃ i,x=.int i /\ Q (some i) H1
section
variable {X:Cx} {e:Expr} {te:TE} {lo hi:Option Expr} {tl th:TO} {pos p2:Pos}
theorem ve3:PO X none uq2:=by
 intro pins s σ H Q I h;rw [evalPart_none];exact wpAny_pure ⟨none,H,I,.none,h⟩
theorem ve2 (h:PE X e te):PO X (some e) (vo3 te):=by
 intro pins s σ H Q I hw;rw [evalPart_some]
 (refine thn (h pins s σ H _ I hw) ?_;rintro u s1 ⟨x,H1,I1,r1,q1⟩)
 obtain ⟨i,rfl,q⟩:=q1;obtain ⟨t,rfl⟩:=r1;exact ⟨some i,H1,I1,.int i t,q⟩
def SlR (X:Cx) (r:V->Option Int->Option Int->Hp->VK->Prop):Prop :=
 ∀ (pins:List (Addr × Obj)) (s:Shared) (σ:St) (H:Hp) (x:V) (v vl vu:Value) (lo hi:Option Int) (sl:Addr) (Q:VK),Inv X pins σ H s->RelV x v->s.heap.IsSliceOf sl vl vu .none->IsPart vl lo->IsPart vu hi->r x lo hi H Q ->
  ∃ T id,typeLookup (.type T) "__getitem__" = pure (some (.builtin id)) /\ s.TypeIs v T /\ wpAny (model X.prog X.w) X.A (getItem v (.ref sl)) (EP X pins σ Q) X.xe s
theorem SlR.or {r r':V->Option Int->Option Int->Hp->VK->Prop} (h:SlR X r) (h':SlR X r'):SlR X (fun x lo hi H Q=>r x lo hi H Q \/ r' x lo hi H Q):=by
 intro pins s σ H x v vl vu lo hi sl Q I rx hs pl pu q
 rcases q with q | q
 ·exact h pins s σ H x v vl vu lo hi sl Q I rx hs pl pu q
 ·exact h' pins s σ H x v vl vu lo hi sl Q I rx hs pl pu q
def tSl (r:V->Option Int->Option Int->Hp->VK->Prop) (te:TE) (tl th:TO):TE:=fun σ H Q=>te σ H fun x H1=>tl σ H1 fun l H2=>th σ H2 fun u H3=>r x l u H3 Q
theorem v20 {r:V->Option Int->Option Int->Hp->VK->Prop} (hr:SlR X r) (he:PE X e te) (hl:PO X lo tl) (hu:PO X hi th):PE X (.Subscript e (.Slice lo hi none p2) pos) (tSl r te tl th):=by
 intro pins s σ H Q I h
 (refine Subscript_ (thn (he pins s σ H _ I h) ?_);rintro v s1 ⟨x,H1,I1,r1,q1⟩)
 (refine wpAny_Slice (thn (hl pins s1 σ H1 _ I1 q1) ?_);rintro vl s2 ⟨l,H2,I2,pl,q2⟩;refine thn (hu pins s2 σ H2 _ I2 q2) ?_;rintro vu s3 ⟨u,H3,I3,pu,q3⟩)
 rw [evalPart_none];refine wpAny_pure ?_;have I4:Inv X pins σ H3 { s3 with heap:=s3.heap.push { cls:=.type "slice",data:=.fields #[vl,vu,.none] } }:=I3.kept (t':=s3.toks) fun b ob q=>Heap.get?_push_of_some _ q
 obtain ⟨T,id,hT,ht,hg⟩:=hr pins { s3 with heap:=s3.heap.push { cls:=.type "slice",data:=.fields #[vl,vu,.none] } } σ H3 x v vl vu l u s3.heap.objs.size Q I4 r1 (Heap.IsSliceOf.new ..) pl pu q3
 show wpAny (model X.prog X.w) X.A (subscriptTail e (.Slice lo hi none p2) v (.ref s3.heap.objs.size)) (EP X pins σ Q) X.xe { s3 with heap:=s3.heap.push { cls:=.type "slice",data:=.fields #[vl,vu,.none] } }
 exact tail_any (ops:=[.ref s3.heap.objs.size,v]) ht hT hg (by with_unfolding_all rfl)
def cutV (xs:List V) (lo hi:Option Int):List V:=(xs.drop (HT.sIx xs.length 0 lo)).take (HT.sIx xs.length xs.length hi - HT.sIx xs.length 0 lo)
theorem ui6 (xs:List V) (lo hi:Option Int):(cutV xs lo hi).length<=xs.length:=by
 unfold cutV;rw [List.length_take,List.length_drop];omega
def vz4 (K:PySem.W.Frag):R2:=fun x y H Q=>∃ a b xs ys,x=.ref a /\ y=.ref b /\ SqT K H a xs /\ SqT K H b ys /\ xs ≠ [] /\ xs.length+ys.length<=sizeLine /\
 (ys=[]->Q (.ref a) H) /\ (ys ≠ []->∀ p,H p=none->Q (.ref p) (upd H p (.tup (xs++ys))))
theorem Vals.nil_iff {xs:List V} {us:List Value} (r:Vals xs us):us=[] ↔ xs=[]:=by
 cases r with
 | nil=>simp
 | cons _ _=>simp
theorem op_catT:OpR X (binaryOp .Add) (vz4 X.K):=by
 intro pins s σ H x y v u Q I rx ry h;obtain ⟨a,b,xs,ys,rfl,rfl,ha,hb,hx,hz,q1,q2⟩:=h;cases rx;cases ry;obtain ⟨its,r1,p1,_⟩:=I.tuple ha;obtain ⟨its2,r2,p2,_⟩:=I.tuple hb;refine HT.cat_tup p1 p2 (fun z=>hx (r1.nil_iff.mp z)) (fun z=>⟨.ref a,H,I,rfl,q1 (r2.nil_iff.mp z)⟩) (fun z=>?_) (by rw [<- r1.length,<- r2.length];exact hz);refine ⟨.ref s.heap.objs.size,_,I.laid (t':=s.toks) (o:=.tup (xs++ys)) (fun b ob q=>Heap.get?_push_of_some _ q) (Nat.le_refl _) ?_,rfl,q2 (fun w=>z (r2.nil_iff.mpr w)) _ (I.hok.fresh (Nat.le_refl _))⟩;exact ⟨by rw [List.length_append];exact hz,_,r1.append r2,TupD.new _ _⟩
end
def ixN (n:Nat) (i:Int):Option Nat:=if 0<=i then (if i < n then some i.toNat else none) else if -(n:Int)<=i then some (i+n).toNat else none
def atI {α:Type} (xs:List α) (i:Int):Option α:=(ixN xs.length i).bind fun j=>xs[j]?
theorem uv1 {n:Nat} {i:Int} {j:Nat} (h:ixN n i=some j):seqIndex? i n=some j /\ j < n /\ -(n:Int)<=i /\ i < n:=by
 unfold ixN at h
 by_cases h0:0<=i
 ·rw [if_pos h0] at h
  by_cases h1:i < n
  ·rw [if_pos h1] at h
   have e:i.toNat=j:=Option.some.inj h;exact ⟨by rw [seqIndex_of h0 h1,e],by omega,by omega,h1⟩
  ·rw [if_neg h1] at h;cases h
 ·rw [if_neg h0] at h
  by_cases h1:-(n:Int)<=i
  ·rw [if_pos h1] at h
   have e:(i+n).toNat=j:=Option.some.inj h;exact ⟨by rw [seqIndex_neg (by omega) h1,e],by omega,h1,by omega⟩
  ·rw [if_neg h1] at h;cases h
theorem uj2 {α:Type} {xs:List α} {i:Int} {v:α} (h:atI xs i=some v):∃ j,seqIndex? i xs.length=some j /\ xs[j]?=some v /\ j < xs.length /\ -(xs.length:Int)<=i /\ i < xs.length:=by
 unfold atI at h;cases e:ixN xs.length i with
 | none=>rw [e] at h;cases h
 | some j =>
  rw [e] at h;obtain ⟨h1,h2,h3,h4⟩:=uv1 e;exact ⟨j,h1,h,h2,h3,h4⟩
theorem u79 {α:Type} {xs:List α} {j:Nat} {v:α} (h:xs[j]?=some v):atI xs (j:Int)=some v:=by
 have hj:j < xs.length:=(List.getElem?_eq_some_iff.mp h).1;have e:ixN xs.length (j:Int)=some j:=by
  unfold ixN;rw [if_pos (by omega),if_pos (by omega)];simp
 unfold atI;rw [e];exact h
def uz2 (b:Expr):Prop:=∀ o i,subscripted b false o i=operate [o,i] (getItem o i)
def IxR (X:Cx) (r:R2):Prop :=
 ∀ (value slice:Expr) (pins:List (Addr × Obj)) (s:Shared) (σ:St) (H:Hp) (x y:V) (v u:Value) (Q:VK),Inv X pins σ H s->RelV x v->RelV y u->r x y H Q ->
  subscripted slice false v u=operate [v,u] (getItem v u)->wpAny (model X.prog X.w) X.A (subscriptTail value slice v u) (EP X pins σ Q) X.xe s
def MtR (X:Cx) (id:String) (r:V->List V->Hp->VK->Prop):Prop :=
 ∀ (pins:List (Addr × Obj)) (s:Shared) (σ:St) (H:Hp) (x:V) (xs:List V) (v:Value) (us:List Value) (Q:VK),Inv X pins σ H s->RelV x v->Vals xs us->r x xs H Q ->
  wpAny (model X.prog X.w) X.A (call (.builtin id) (v::us)) (EP X pins σ Q) X.xe s
section
variable {X:Cx} {a b:Expr} {ta tb:TE} {pos:Pos}
theorem IxR.or {r r':R2} (h:IxR X r) (h':IxR X r'):IxR X (fun x y H Q=>r x y H Q \/ r' x y H Q):=by
 intro value slice pins s σ H x y v u Q I rx ry q hs
 rcases q with q | q
 ·exact h value slice pins s σ H x y v u Q I rx ry q hs
 ·exact h' value slice pins s σ H x y v u Q I rx ry q hs
theorem MtR.or {id:String} {r r':V->List V->Hp->VK->Prop} (h:MtR X id r) (h':MtR X id r'):MtR X id (fun x xs H Q=>r x xs H Q \/ r' x xs H Q):=by
 intro pins s σ H x xs v us Q I rx rs q
 rcases q with q | q
 ·exact h pins s σ H x xs v us Q I rx rs q
 ·exact h' pins s σ H x xs v us Q I rx rs q
theorem w01 {r:R2} (hr:IxR X r) (ha:PE X a ta) (hb:PE X b tb) (hs:uz2 b):PE X (.Subscript a b pos) (tOp r ta tb):=by
 intro pins s σ H Q I h;exact Subscript_ (binT ha hb I h fun v u s2 x y H2 I2 rx ry q=>hr a b pins s2 σ H2 x y v u Q I2 rx ry q (hs _ _))
def rIxL (K:PySem.W.Frag):R2:=fun x y H Q=>∃ p xs i v,x=.ref p /\ y=.int i /\ SqL K H p xs /\ atI xs i=some v /\ Q v H
def rIxT (K:PySem.W.Frag):R2:=fun x y H Q=>∃ p xs i v,x=.ref p /\ y=.int i /\ SqT K H p xs /\ atI xs i=some v /\ Q v H
def rIxS:R2:=fun x y H Q=>∃ z i c,x=.str z /\ y=.int i /\ z.length<=sizeLine /\ atI z.cps.toList i=some c /\ Q (.str ⟨#[c]⟩) H
theorem ix_list:IxR X (rIxL X.K):=by
 intro value slice pins s σ H x y v u Q I rx ry h hs;obtain ⟨p,xs,i,z,rfl,rfl,hq,he,q⟩:=h;cases rx;obtain ⟨t,rfl⟩:=ry;obtain ⟨its,r,pl,hz⟩:=I.list hq;obtain ⟨j,h1,h2,h3,h4,h5⟩:=uj2 he;obtain ⟨w,ew,rw'⟩:=r.get h2;have hl:=r.length;have hn:=line63;have fin:EP X pins σ Q w s:=⟨z,H,I,rw',q⟩
 by_cases h0:0<=i
 ·have hj:i.toNat=j:=by
   rw [seqIndex_of h0 h5] at h1;exact Option.some.inj h1
  exact item_listR pl.isList h0 (by omega) (by rw [hj];simpa using ew) fin hs
 ·have hj:(i+(its.toArray.size:Int)).toNat=j:=by
   rw [seqIndex_neg (by omega) h4] at h1;rw [List.size_toArray,<- hl];exact Option.some.inj h1
  exact subscriptTail_builtinR (x:=w) pl.isList.typeIs slot_list_getitem.lookup
   (wpAny_getItem_list_neg (Q:=fun r s'=>r=w /\ EP X pins σ Q r s') pl.isList (by omega) (by rw [List.size_toArray] <;> omega) (by omega) (by rw [hj];simpa using ew) ⟨rfl,fin⟩) hs
theorem ix_tup:IxR X (rIxT X.K):=by
 intro value slice pins s σ H x y v u Q I rx ry h hs;obtain ⟨p,xs,i,z,rfl,rfl,hq,he,q⟩:=h;cases rx;obtain ⟨t,rfl⟩:=ry;obtain ⟨its,r,pl,hz⟩:=I.tuple hq;obtain ⟨j,h1,h2,h3,h4,h5⟩:=uj2 he;obtain ⟨w,ew,rw'⟩:=r.get h2;have hl:=r.length;have hn:=line63;have fin:EP X pins σ Q w s:=⟨z,H,I,rw',q⟩;exact subscriptTail_builtinR (x:=w) pl.typeIs slot_tuple_getitem.lookup
  (getItem_tuple (j:=j) (Q:=fun r s'=>r=w /\ EP X pins σ Q r s') pl (by omega) (by omega) (by rw [List.size_toArray,<- hl];exact h1) (by simpa using ew) ⟨rfl,fin⟩) hs
theorem vv3:IxR X rIxS:=by
 intro value slice pins s σ H x y v u Q I rx ry h hs;obtain ⟨z,i,c,rfl,rfl,hz,he,q⟩:=h;obtain ⟨t,rfl⟩:=rx;obtain ⟨t',rfl⟩:=ry;obtain ⟨j,h1,h2,h3,h4,h5⟩:=uj2 he;have hl:z.cps.toList.length=z.length:=by simp [Str.length]
 rw [hl] at h1 h4 h5;have hn:=line63;exact tail_any (typeIs_str s z t) slot_str_getitem.lookup (getItem_str (c:=c) (by
  have e1:decide (i < -(2 ^ 63:Int))=false:=decide_eq_false (by omega);have e2:decide (i ≥ 2 ^ 63)=false:=decide_eq_false (by omega);rw [e1,e2,Bool.or_false]) (by rw [h1];simpa using h2) ⟨.str ⟨#[c]⟩,H,I.tok _,⟨_,rfl⟩,q⟩) hs
def rIx (K:PySem.W.Frag):R2:=fun x y H Q=>rIxL K x y H Q \/ rIxT K x y H Q \/ rIxS x y H Q
theorem vv4:IxR X (rIx X.K):=ix_list.or (ix_tup.or vv3)
theorem un4 (its:List Value) (n j:Nat) (u:Value):Obj.mapSeq (·.setIfInBounds j u) { cls:=.type "list",data:=.seq its.toArray n }={ cls:=.type "list",data:=.seq (its.set j u).toArray n }:=by
 simp [Obj.mapSeq]
theorem Inv.lst {pins:List (Addr × Obj)} {σ:St} {H:Hp} {s:Shared} {p:Addr} {xs:List V} (I:Inv X pins σ H s) (h:H p=some (.lst xs)) :
  ∃ (its:List Value) (n:Nat),Vals xs its /\ s.heap.get? p=some { cls:=.type "list",data:=.seq its.toArray n } /\ xs.length<=sizeLine:=by
 obtain ⟨z,its,n,r,e⟩:=I.hok p _ h;exact ⟨its,n,r,e,z⟩
theorem Inv.lstUpd {pins:List (Addr × Obj)} {σ:St} {H:Hp} {s:Shared} {p:Addr} {xs ys:List V} {its its':List Value} {n n':Nat} {f:Obj->Obj} (I:Inv X pins σ H s) (h:H p=some (.lst xs))
  (ho:s.heap.get? p=some { cls:=.type "list",data:=.seq its.toArray n }) (hf:f { cls:=.type "list",data:=.seq its.toArray n }={ cls:=.type "list",data:=.seq its'.toArray n' }) (r:Vals ys its') (hz:ys.length<=sizeLine) (t:Nat) :
  Inv X pins σ (upd H p (.lst ys)) { s with heap:=s.heap.update p f,toks:=t }:=by
 have e:(s.heap.update p f).get? p=some { cls:=.type "list",data:=.seq its'.toArray n' }:=by
  rw [Heap.get?_update_self f ho (by rw [hf] <;> rfl),hf]
 refine I.write (x:=p) (e:=p) (by rw [h];trivial) (.inl rfl) (fun b u hb q=>(Heap.get?_update_other _ _ (Ne.symm hb)).trans q) ⟨_,e⟩ ?_;exact ⟨hz,its',n',r,e⟩
def vz3:V->V->V->Hp->(Hp->Prop)->Prop:=fun o i v H Q=>∃ p xs k j,o=.ref p /\ i=.int k /\ H p=some (.lst xs) /\ ixN xs.length k=some j /\ Q (upd H p (.lst (xs.set j v)))
theorem set_list:PSet X vz3:=by
 intro pins s σ H o i v ov iv u Q I ro ri rv h;obtain ⟨p,xs,k,j,rfl,rfl,hp,hj,q⟩:=h;cases ro;obtain ⟨t,rfl⟩:=ri;obtain ⟨its,n,r,ho,hz⟩:=I.lst hp;obtain ⟨h1,h2,h3,h4⟩:=uv1 hj;have hl:=r.length;have hn:=line63;have I':Inv X pins σ (upd H p (.lst (xs.set j v))) { s with heap:=s.heap.update p (Obj.mapSeq (·.setIfInBounds j u)) } :=
  I.lstUpd hp ho (un4 its n j u) (r.set rv j) (by rw [List.length_set];exact hz) s.toks
 by_cases h0:0<=k
 ·have hk:k.toNat=j:=by
   rw [seqIndex_of h0 h4] at h1;exact Option.some.inj h1
  exact PySem.W.ki_setAt ho h0 (by omega) (by rw [List.size_toArray,<- hl];exact h4) (by rw [hk];exact ⟨_,I',q⟩)
 ·have hk:(k+(its.toArray.size:Int)).toNat=j:=by
   rw [seqIndex_neg (by omega) h3] at h1;rw [List.size_toArray,<- hl];exact Option.some.inj h1
  exact PySem.W.ki_setBack ho (by omega) (by rw [List.size_toArray,<- hl];exact h3) (by omega) (by rw [hk];exact ⟨_,I',q⟩)
theorem ue5 (lo hi:Option Int) (n:Nat):(sliceBounds lo hi none n).1=((HT.sIx n 0 lo:Nat):Int) /\ (sliceBounds lo hi none n).2.1=((HT.sIx n n hi:Nat):Int) /\ (sliceBounds lo hi none n).2.2=1:=by
 refine ⟨?_,?_,rfl⟩
 ·cases lo with
  | none=>simp [sliceBounds,HT.sIx]
  | some i =>
   simp only [sliceBounds,HT.sIx,Option.getD_none,show (1:Int) > 0 by decide,if_true]
   by_cases h:i < 0
   ·simp only [h,if_true] <;> omega
   ·simp only [h,if_false] <;> omega
 ·cases hi with
  | none=>simp [sliceBounds,HT.sIx]
  | some i =>
   simp only [sliceBounds,HT.sIx,Option.getD_none,show (1:Int) > 0 by decide,if_true]
   by_cases h:i < 0
   ·simp only [h,if_true] <;> omega
   ·simp only [h,if_false] <;> omega
theorem ub8 (its:List Value) (lo hi:Option Int):slicePick its.toArray lo hi none=((its.drop (HT.sIx its.length 0 lo)).take (HT.sIx its.length its.length hi - HT.sIx its.length 0 lo)).toArray:=by
 obtain ⟨h1,h2,h3⟩:=ue5 lo hi its.toArray.size;unfold slicePick;rw [h1,h2,h3];simp only [sliceRange_one,pick_run,List.size_toArray] <;> rfl
def rSlL (K:PySem.W.Frag):V->Option Int->Option Int->Hp->VK->Prop:=fun x lo hi H Q=>∃ a xs,x=.ref a /\ SqL K H a xs /\ ∀ p,H p=none->Q (.ref p) (upd H p (.lst (cutV xs lo hi)))
theorem vz1:SlR X (rSlL X.K):=by
 intro pins s σ H x v vl vu lo hi sl Q I rx hs pl pu h;obtain ⟨a,xs,rfl,hx,q⟩:=h;cases rx;obtain ⟨its,r,ht,hz⟩:=I.list hx;have hlen:=r.length;refine ⟨"list",_,slot_list_getitem.lookup,ht.isList.typeIs,?_⟩;refine wpAny_getItem_list_slice ht.isList hs pl pu .none (by simp) ?_ (by rw [List.size_toArray] <;> omega);rw [ub8,<- hlen];refine ⟨.ref s.heap.objs.size,_,I.laid (t':=s.toks) (o:=.lst (cutV xs lo hi)) (fun b ob q=>Heap.get?_push_of_some _ q) (Nat.le_refl _) ?_,rfl,q _ (I.hok.fresh (Nat.le_refl _))⟩;exact ⟨Nat.le_trans (ui6 xs lo hi) hz,_,0,(r.drop (HT.sIx xs.length 0 lo)).take (HT.sIx xs.length xs.length hi - HT.sIx xs.length 0 lo),Heap.get?_push_size _ rfl⟩
def u92:V->Bool
 | .non=>true
 | .bl _=>true
 | .int _=>true
 | .str _=>true
 | _=>false
def eqV:V->V->Bool
 | .non,.non=>true
 | .bl a,.bl b=>a == b
 | .bl a,.int b=>(if a then 1 else 0) == b
 | .int a,.bl b=>a == (if b then 1 else 0)
 | .int a,.int b=>a == b
 | .str a,.str b=>a == b
 | _,_=>false
theorem v93 {A:Around} {s:Shared} {y x:V} {u v:Value} (ry:RelV y u) (rx:RelV x v) (fy:u92 y=true) (fx:u92 x=true):SeqAt.EqAt A s u v (eqV y x):=by
 cases y with
 | non =>
  cases ry;cases x with
  | non=>cases rx;exact SeqAt.EqAt.same _
  | bl b=>cases rx;exact SeqAt.EqAt.none_bool b
  | int b=>obtain ⟨t,rfl⟩:=rx;exact SeqAt.EqAt.none_int b t
  | str b=>obtain ⟨t,rfl⟩:=rx;exact SeqAt.EqAt.none_str b t
  | _=>exact absurd (show false=true from fx) Bool.false_ne_true
 | bl a =>
  cases ry;cases x with
  | non=>cases rx;exact SeqAt.EqAt.bool_none a
  | bl b=>cases rx;exact SeqAt.EqAt.bool_bool a b
  | int b=>obtain ⟨t,rfl⟩:=rx;exact SeqAt.EqAt.bool_int a b t
  | str b=>obtain ⟨t,rfl⟩:=rx;exact SeqAt.EqAt.bool_str a b t
  | _=>exact absurd (show false=true from fx) Bool.false_ne_true
 | int a =>
  obtain ⟨t',rfl⟩:=ry;cases x with
  | non=>cases rx;exact SeqAt.EqAt.int_none a t'
  | bl b=>cases rx;exact SeqAt.EqAt.int_bool a t' b
  | int b=>obtain ⟨t,rfl⟩:=rx;exact SeqAt.EqAt.int_int a t' b t
  | str b=>obtain ⟨t,rfl⟩:=rx;exact SeqAt.EqAt.int_str a t' b t
  | _=>exact absurd (show false=true from fx) Bool.false_ne_true
 | str a =>
  obtain ⟨t',rfl⟩:=ry;cases x with
  | non=>cases rx;exact SeqAt.EqAt.str_none a t'
  | bl b=>cases rx;exact SeqAt.EqAt.str_bool a t' b
  | int b=>obtain ⟨t,rfl⟩:=rx;exact SeqAt.EqAt.str_int a t' b t
  | str b=>obtain ⟨t,rfl⟩:=rx;exact SeqAt.EqAt.str_str a t' b t
  | _=>exact absurd (show false=true from fx) Bool.false_ne_true
 | _=>exact absurd (show false=true from fy) Bool.false_ne_true
def eqU (x:V) (u:Value):Bool:=match u with
 | .none=>eqV .non x
 | .bool b=>eqV (.bl b) x
 | .int i _=>eqV (.int i) x
 | .str z _=>eqV (.str z) x
 | _=>false
theorem v92 {x y:V} {u:Value} (r:RelV y u) (f:u92 y=true):eqU x u=eqV y x:=by
 cases y with
 | non=>cases r;rfl
 | bl b=>cases r;rfl
 | int i=>obtain ⟨t,rfl⟩:=r;rfl
 | str z=>obtain ⟨t,rfl⟩:=r;rfl
 | _=>exact absurd (show false=true from f) Bool.false_ne_true
theorem uj3 {x:V}:∀ {xs:List V} {us:List Value},Vals xs us->xs.all u92=true->us.any (eqU x)=xs.any fun y=>eqV y x
 | _,_,.nil,_=>rfl
 | y::xs,u::us,.cons r t,f=>by
  rw [List.all_cons,Bool.and_eq_true] at f;rw [List.any_cons,List.any_cons,v92 r f.1,uj3 t f.2]
theorem uc5 {A:Around} {s:Shared} {x:V} {v:Value} (rx:RelV x v) (fx:u92 x=true):∀ {xs:List V} {us:List Value},Vals xs us->xs.all u92=true->∀ u ∈ us,SeqAt.EqAt A s u v (eqU x u)
 | _,_,.nil,_=>fun u hu=>by cases hu
 | y::xs,u::us,.cons r t,f=>fun u' hu=>by
  rw [List.all_cons,Bool.and_eq_true] at f
  rcases List.mem_cons.mp hu with rfl | hu
  ·rw [v92 r f.1];exact v93 r rx f.1 fx
  ·exact uc5 rx fx t f.2 u' hu
def inV (x:V) (xs:List V):Bool:=xs.any fun y=>eqV y x
def rIn (K:PySem.W.Frag) (neg:Bool):R2:=fun x y H Q=>∃ p xs,y=.ref p /\ (SqL K H p xs \/ SqT K H p xs) /\ u92 x=true /\ xs.all u92=true /\ Q (.bl (if neg then !inV x xs else inV x xs)) H
theorem ue9:OpR X (compareOp .NotIn) (rIn X.K true):=by
 intro pins s σ H x y v u Q I rx ry h;obtain ⟨p,xs,rfl,hq,fx,fs,q⟩:=h;cases ry
 rcases hq with hq | hq
 ·obtain ⟨its,r,pl,hz⟩:=I.list hq
  refine SeqAt.notIn_listAt (eqU x) pl.isList (fun w hw=>uc5 rx fx r fs w (by simpa using hw)) ⟨.bl _,H,I,rfl,?_⟩;rw [show its.toArray.any (eqU x)=its.any (eqU x) by simp,uj3 r fs];exact q
 ·obtain ⟨its,r,pl,hz⟩:=I.tuple hq
  refine SeqAt.notIn_tupleAt (eqU x) pl (fun w hw=>uc5 rx fx r fs w (by simpa using hw)) ⟨.bl _,H,I,rfl,?_⟩;rw [show its.toArray.any (eqU x)=its.any (eqU x) by simp,uj3 r fs];exact q
theorem call_len_seq:CallR X (.builtin "len") (fun xs H Q=>∃ p ys,xs=[.ref p] /\ (SqL X.K H p ys \/ SqT X.K H p ys) /\ Q (.int ys.length) H):=by
 intro pins s σ H xs us Q I r h;obtain ⟨p,ys,rfl,hq,q⟩:=h;obtain ⟨u,rfl,rx⟩:=vals1 r;cases rx;have hn:=line63
 rcases hq with hq | hq
 ·obtain ⟨its,r',pl,hz⟩:=I.list hq
  have hlen:=r'.length;exact Calls.call_len_list pl.isList (by simp only [List.size_toArray] <;> omega) ⟨.int ys.length,H,I.tok _,⟨s.toks+1,by rw [List.size_toArray,hlen]⟩,q⟩
 ·obtain ⟨its,r',pl,hz⟩:=I.tuple hq
  have hlen:=r'.length;exact len_tuple pl (by simp only [List.size_toArray] <;> omega) ⟨.int ys.length,H,I.tok _,⟨s.toks+1,by rw [List.size_toArray,hlen]⟩,q⟩
theorem ug0:CallR X (.builtin "len") (fun xs H Q=>∃ z,xs=[.str z] /\ z.length<=sizeLine /\ Q (.int z.length) H):=by
 intro pins s σ H xs us Q I r h;obtain ⟨z,rfl,hz,q⟩:=h;obtain ⟨u,rfl,t,rfl⟩:=vals1 r;have hn:=line63;exact len_str (by omega) ⟨.int z.length,H,I.tok _,⟨_,rfl⟩,q⟩
theorem CallR.or {f:Value} {r r':List V->Hp->VK->Prop} (h:CallR X f r) (h':CallR X f r'):CallR X f (fun xs H Q=>r xs H Q \/ r' xs H Q):=by
 intro pins s σ H xs us Q I rs q
 rcases q with q | q
 ·exact h pins s σ H xs us Q I rs q
 ·exact h' pins s σ H xs us Q I rs q
theorem uf9:CallR X (.type "list") (fun xs H Q=>∃ p ys,xs=[.ref p] /\ (SqL X.K H p ys \/ SqT X.K H p ys) /\ ∀ l,H l=none->Q (.ref l) (upd H l (.lst ys))):=by
 intro pins s σ H xs us Q I r h;obtain ⟨p,ys,rfl,hq,q⟩:=h;obtain ⟨u,rfl,rx⟩:=vals1 r;cases rx;have fin:∀ (its:List Value),Vals ys its->ys.length<=sizeLine->∀ (h':Heap) (c':Nat),(∀ b o',s.heap.get? b=some o'->h'.get? b=some o') ->
   h'.get? s.heap.objs.size=some { cls:=.type "list",dict:=none,data:=.seq its.toArray c',slots:=#[] }->EP X pins σ Q (.ref s.heap.objs.size) { s with heap:=h' }:=fun its r' hz h' c' kp e =>
  ⟨.ref s.heap.objs.size,_,I.laid (t':=s.toks) kp (Nat.le_refl _) (show ObjOk X.prog X.w _ h' _ (.lst ys) from ⟨hz,its,c',r',e⟩),rfl,q _ (I.hok.fresh (Nat.le_refl _))⟩
 rcases hq with hq | hq
 ·obtain ⟨its,r',pl,hz⟩:=I.list hq
  have hlen:=r'.length;obtain ⟨o,ho,hc,n,hd⟩:=pl.isList;exact call_list_seq p (.inl rfl) ho hc hd (fun h' c' kp e=>fin its r' hz h' c' kp e) (by simp only [List.size_toArray] <;> omega)
 ·obtain ⟨its,r',pl,hz⟩:=I.tuple hq
  have hlen:=r'.length;obtain ⟨o,ho,hc,n,hd⟩:=pl;exact call_list_seq p (.inr rfl) ho hc hd (fun h' c' kp e=>fin its r' hz h' c' kp e) (by simp only [List.size_toArray] <;> omega)
def tyV (K:PySem.W.Frag) (T:String) (x:V) (H:Hp):Prop:=match x with
 | .str _=>T = "str"
 | .int _=>T = "int"
 | .ref p=>(T = "list" /\ ∃ xs,SqL K H p xs) \/ (T = "tuple" /\ ∃ o,K.lookup p=some o /\ o.cls=.type "tuple" /\ o.dict=none) \/
   (T = "dict" /\ ((∃ kvs,H p=some (.dK kvs)) \/ ∃ kvs,H p=some (.dT kvs))) \/ (T = "set" /\ ∃ S n,H p=some (.set S n))
 | _=>False
theorem v73 {pins:List (Addr × Obj)} {σ:St} {H:Hp} {s:Shared} {T:String} {x:V} {v:Value} (I:Inv X pins σ H s) (r:RelV x v) (ty:tyV X.K T x H) :
  s.TypeIs v T /\ ∀ a,v=.ref a->∃ ob,s.heap.get? a=some ob /\ ob.dict=none:=by
 cases x with
 | str z =>
  obtain ⟨t,rfl⟩:=r;cases (show T = "str" from ty);exact ⟨typeIs_str s z t,fun _ e=>nomatch e⟩
 | int i =>
  obtain ⟨t,rfl⟩:=r;cases (show T = "int" from ty);exact ⟨typeIs_int s i t,fun _ e=>nomatch e⟩
 | ref p =>
  cases r
  rcases ty with ⟨rfl,xs,hq⟩ | ⟨rfl,o,hk,hc,hd⟩ | ⟨rfl,hk⟩ | ⟨rfl,S,n,hk⟩
  ·obtain ⟨its,_,pl,_⟩:=I.list hq
   refine ⟨pl.isList.typeIs,fun a e=>?_⟩;cases e;obtain ⟨o,n,e,c,hd,_⟩:=pl;exact ⟨o,e,hd⟩
  ·refine ⟨⟨o,I.kIn p o hk,hc⟩,fun a e=>?_⟩
   cases e;exact ⟨o,I.kIn _ o hk,hd⟩
  ·have z:∃ o,s.heap.get? p=some o /\ o.ExactDict:=by
    rcases hk with ⟨kvs,hk⟩ | ⟨kvs,hk⟩
    ·obtain ⟨_,_,_,_,o,_,_,e,ex,_⟩:=I.hok p _ hk
     exact ⟨o,e,ex⟩
    ·obtain ⟨_,_,_,_,o,_,_,e,ex,_⟩:=I.hok p _ hk
     exact ⟨o,e,ex⟩
   obtain ⟨o,e,ex⟩:=z;refine ⟨⟨o,e,ex.1⟩,fun a e2=>?_⟩;cases e2;exact ⟨o,e,ex.2.1⟩
  ·obtain ⟨o,_,_,_,e,ex,_⟩:=I.hok p _ hk
   refine ⟨⟨o,e,ex.1⟩,fun a e2=>?_⟩;cases e2;exact ⟨o,e,ex.2.1⟩
 | _=>exact False.elim ty
def tBM (K:PySem.W.Frag) (T:String) (r:V->List V->Hp->VK->Prop) (to:TE) (t:TA):TE:=fun σ H Q=>to σ H fun x H1=>tyV K T x H1 /\ t σ H1 fun xs H2=>r x xs H2 Q
variable {o e:Expr} {es:List Expr} {to:TE} {t:TA} {name:Str} {apos cpos:Pos} {T id:String} {r:V->List V->Hp->VK->Prop}
theorem vf4 (pa:PlainAttrs T) (slot:Slot T name id) (hty:typeOf (.builtin id)=pure (.type "method_descriptor")) (hm:MtR X id r) (ho:PE X o to) (ha:PA X (e::es) t)
  (hbase:attributeBase o name X.env (eval o X.env)=eval o X.env:=by rfl)
  (hfew:((backTo cpos (starEach (e::es) X.env)).all (fun x=>!x.1) && (backToKw cpos (keywordEach [] X.env)).all (fun x=>x.1.isSome)
   && decide ((e::es).length+([]:List Keyword).length+(if ([]:List Keyword).isEmpty then 0 else 1) < 30))=true:=by rfl)
  (hline:(apos.endLine == cpos.line)=true:=by rfl) (hs:starEach (e::es) X.env=(false,eval e X.env)::starEach es X.env:=by rfl) (hplain:(backTo cpos (starEach es X.env)).any (·.1)=false:=by rfl) :
  PE X (.Call (.Attribute o name apos) (e::es) [] cpos) (tBM X.K T r to t):=by
 intro pins s σ H Q I h
 (refine wpAny_Call_method_late hbase hfew hline rfl (thn (ho pins s σ H _ I h) ?_);rintro v s1 ⟨x,H1,I1,r1,ty,q1⟩)
 obtain ⟨h1,h2⟩:=v73 I1 r1 ty;refine ⟨T,id,pa,slot,hty,h1,h2,?_⟩;have hA:=ha cpos pins s1 σ H1 _ I1 q1;rw [hs] at hA ⊢;refine Calls.callWith_builtin (by show (false || (backTo cpos (starEach es X.env)).any (·.1))=false;rw [hplain] <;> rfl) (Calls.evalArgs_plain ?_)
 (refine thn hA ?_;rintro us s2 ⟨vs,H2,I2,r2,q2⟩;exact hm pins s2 σ H2 x vs v us Q I2 r1 r2 q2)
/- xs.append(e),list.index on a module's tuple .. are MtR facts of 06m -/
end
def MtM (X:Cx) (id:String) (r:V->List V->Hp->VK->Prop):Prop :=
 ∀ (pins:List (Addr × Obj)) (s:Shared) (σ:St) (H:Hp) (x:V) (xs:List V) (v:Value) (us:List Value) (Q:VK),Inv X pins σ H s->RelV x v->Vals xs us->r x xs H Q ->
  wpAny (model X.prog X.w) X.A (call (.builtin id) (v::us)) (EP X pins σ Q) X.xe s
theorem Vals.one:∀ {x:V} {us:List Value},Vals [x] us->∃ u,us=[u] /\ RelV x u
 | _,_,.cons r .nil=>⟨_,rfl,r⟩
theorem Vals.two:∀ {x y:V} {us:List Value},Vals [x,y] us->∃ u v,us=[u,v] /\ RelV x u /\ RelV y v
 | _,_,_,.cons r (.cons q .nil)=>⟨_,_,rfl,r,q⟩
theorem Vals.zero:∀ {us:List Value},Vals [] us->us=[]
 | _,.nil=>rfl
theorem Vals.reverse {xs:List V} {us:List Value} (h:Vals xs us):Vals xs.reverse us.reverse:=by
 induction h with
 | nil=>exact .nil
 | cons r t ih=>rw [List.reverse_cons,List.reverse_cons];exact Vals.append ih (.cons r .nil)
theorem Vals.rep {xs:List V} {us:List Value} (h:Vals xs us):∀ k:Nat,Vals (List.replicate k xs).flatten (List.replicate k us).flatten
 | 0=>.nil
 | k+1=>by
  rw [List.replicate_succ,List.replicate_succ,List.flatten_cons,List.flatten_cons];exact Vals.append h (Vals.rep h k)
theorem foldl_rep (its:List Value):∀ (k:Nat) (acc:List Value),
  List.foldl (fun x1 x2=>x1++x2) acc.toArray (List.replicate k its.toArray)=(acc++(List.replicate k its).flatten).toArray
 | 0,acc=>by simp
 | k+1,acc=>by
  have e:acc.toArray++its.toArray=(acc++its).toArray:=by simp
  have e2:(acc++its)++(List.replicate k its).flatten=acc++(List.replicate (k+1) its).flatten:=by
   rw [List.replicate_succ,List.flatten_cons,List.append_assoc]
  rw [<- e2,<- foldl_rep its k (acc++its),<- e,List.replicate_succ,List.foldl_cons]
section
variable {X:Cx} {pins:List (Addr × Obj)} {σ:St} {H:Hp} {s:Shared} {l b:Addr} {xs ys zs:List V}
theorem Inv.lset {its its':List Value} {n:Nat} {f:Array Value->Array Value} {t':Nat} (I:Inv X pins σ H s) (hH:H l=some (.lst xs))
  (e:s.heap.get? l=some { cls:=.type "list",data:=.seq its.toArray n }) (hf:f its.toArray=its'.toArray) (hv:Vals ys its') (hz:ys.length<=sizeLine) :
  Inv X pins σ (upd H l (.lst ys)) { s with heap:=s.heap.update l (Obj.mapSeq f),toks:=t' }:=by
 have q:=PySem.IsL.update e f;rw [hf] at q;refine I.write (x:=l) (e:=l) (by rw [hH];exact trivial) (.inl rfl) (fun b' u hb hu=>(Heap.get?_update_other s.heap (Obj.mapSeq f) (Ne.symm hb)).trans hu) ⟨_,q⟩ ?_;exact ⟨hz,its',_,hv,q⟩
theorem Inv.lnew {its:List Value} {t':Nat} (I:Inv X pins σ H s) (hv:Vals ys its) (hz:ys.length<=sizeLine) :
  Inv X pins σ (upd H s.heap.objs.size (.lst ys)) { s with heap:=s.heap.push { cls:=.type "list",data:=.seq its.toArray },toks:=t' } :=
 I.laid (fun _ _ q=>Heap.get?_push_of_some _ q) (Nat.le_refl _) ⟨hz,its,0,hv,Heap.get?_push_size _ rfl⟩
theorem Inv.fresh (I:Inv X pins σ H s):H s.heap.objs.size=none:=I.hok.fresh (Nat.le_refl _)
theorem Inv.lstM (I:Inv X pins σ H s) (hH:H l=some (.lst xs)):xs.length<=sizeLine /\ ∃ (its:List Value) (n:Nat),Vals xs its /\ xs.length=its.length /\ s.heap.get? l=some { cls:=.type "list",data:=.seq its.toArray n }:=by
 obtain ⟨z,its,n,r,e⟩:=I.hok l _ hH;exact ⟨z,its,n,r,r.length,e⟩
theorem ul0 {n:Nat} (h:n<=sizeLine):Builtin.List.listTooLong n=false:=by
 unfold Builtin.List.listTooLong;exact decide_eq_false (by omega)
end
section
variable {X:Cx}
def vd6:V->List V->Hp->VK->Prop:=fun x vs H Q=>∃ l xs y,x=.ref l /\ vs=[y] /\ H l=some (.lst xs) /\ xs.length < sizeLine /\ Q .non (upd H l (.lst (xs++[y])))
theorem uf0:MtM X "list.append" vd6:=by
 intro pins s σ H x vs v us Q I rx rv h;obtain ⟨l,xs,y,rfl,rfl,hH,hz,q⟩:=h;cases rx;obtain ⟨u,rfl,ru⟩:=rv.one;obtain ⟨z,its,n,r,hl,e⟩:=I.lstM hH;refine call_meets F.slot_list_append ⟨_,e,rfl⟩ F.entry_list_append (F.args_list_append_2 _ _) (PySem.list_append l its.toArray n u (by rw [List.size_toArray];omega)) ⟨e,?_⟩;refine ⟨.non,_,I.lset (its':=its++[u]) hH e (by simp) (r.append (.cons ru .nil)) ?_,rfl,q⟩;rw [List.length_append,List.length_singleton];omega
def vd5:V->List V->Hp->VK->Prop:=fun x vs H Q=>∃ l b xs zs,x=.ref l /\ vs=[.ref b] /\ H l=some (.lst xs) /\ H b=some (.lst zs) /\ xs.length+zs.length<=sizeLine /\ Q .non (upd H l (.lst (xs++zs)))
theorem vt9:MtM X "list.extend" vd5:=by
 intro pins s σ H x vs v us Q I rx rv h;obtain ⟨l,b,xs,zs,rfl,rfl,hH,hB,hz,q⟩:=h;cases rx;obtain ⟨u,rfl,ru⟩:=rv.one;cases ru;obtain ⟨z,its,n,r,hl,e⟩:=I.lstM hH;obtain ⟨z2,its2,n2,r2,hl2,e2⟩:=I.lstM hB;have hsz:its.toArray.size+its2.toArray.size<=sizeLine:=by rw [List.size_toArray,List.size_toArray];omega
 have hlong:¬ (!its.toArray.isEmpty && Builtin.List.listTooLong (its.toArray.size+its2.toArray.size))=true:=by
  rw [ul0 hsz,Bool.and_false];exact Bool.false_ne_true
 refine call_meets F.slot_list_extend ⟨_,e,rfl⟩ F.entry_list_extend (F.args_list_extend_2 _ _)
  (AutoSeq1.list_extend_list_list_0 l its.toArray n b its2.toArray n2 hlong (by rw [List.size_toArray];omega) (by omega)) ⟨e,e2,?_⟩
 refine ⟨.non,_,I.lset (its':=its++its2) hH e (by simp) (r.append r2) ?_,rfl,q⟩;rw [List.length_append];omega
def rCat:R2:=fun x y H Q=>∃ l b xs zs,x=.ref l /\ y=.ref b /\ H l=some (.lst xs) /\ H b=some (.lst zs) /\ xs.length+zs.length<=sizeLine /\ ∀ p,H p=none->Q (.ref p) (upd H p (.lst (xs++zs)))
theorem vs4:OpR X (binaryOp .Add) rCat:=by
 intro pins s σ H x y v u Q I rx ry h;obtain ⟨l,b,xs,zs,rfl,rfl,hH,hB,hz,q⟩:=h;cases rx;cases ry;obtain ⟨z,its,n,r,hl,e⟩:=I.lstM hH;obtain ⟨z2,its2,n2,r2,hl2,e2⟩:=I.lstM hB;refine PySem.P.add_list e e2 ?_ (by rw [List.size_toArray,List.size_toArray];omega);have ea:its.toArray++its2.toArray=(its++its2).toArray:=by simp
 rw [ea];exact ⟨.ref _,_,I.lnew (t':=s.toks) (r.append r2) (by rw [List.length_append];omega),rfl,q _ I.fresh⟩
def rRep:R2:=fun x y H Q=>∃ l k xs,x=.ref l /\ y=.int k /\ H l=some (.lst xs) /\ -(2 ^ 63)<=k /\ k < 2 ^ 63 /\ xs.length * k.toNat<=sizeLine /\
 ∀ p,H p=none->Q (.ref p) (upd H p (.lst (List.replicate k.toNat xs).flatten))
theorem len_rep {α:Type} (xs:List α) (k:Nat):(List.replicate k xs).flatten.length=k * xs.length:=by
 induction k with
 | zero=>simp
 | succ k ih=>rw [List.replicate_succ,List.flatten_cons,List.length_append,ih,Nat.succ_mul,Nat.add_comm]
theorem vr7:OpR X (binaryOp .Mult) rRep:=by
 intro pins s σ H x y v u Q I rx ry h;obtain ⟨l,k,xs,rfl,rfl,hH,h1,h2,hz,q⟩:=h;cases rx;obtain ⟨t,rfl⟩:=ry;obtain ⟨z,its,n,r,hl,e⟩:=I.lstM hH;have hlen:its.toArray.size * k.toNat<=sizeLine:=by rw [List.size_toArray,<- hl];exact hz
 have hcap:¬ its.toArray.size * k.toNat > (2 ^ 63 - 1) / 8:=by
  have:(sizeLine:Nat)<=(2 ^ 63 - 1) / 8:=by decide
  omega
 have hfit:¬ (!Builtin.List.listFitsIndex k)=true:=by
  rw [fitsIndex_both h1 h2];exact Bool.false_ne_true
 have hlong:¬ Builtin.List.listTooLong (its.toArray.size * k.toNat)=true:=by
  rw [ul0 hlen];exact Bool.false_ne_true
 have hnew:List.foldl (fun x1 x2=>x1++x2) #[] (List.replicate (if its.toArray.isEmpty=true then 0 else k.toNat) its.toArray)=(List.replicate k.toNat its).flatten.toArray:=by
  have f0:∀ m:Nat,List.foldl (fun x1 x2=>x1++x2) #[] (List.replicate m its.toArray)=(List.replicate m its).flatten.toArray:=fun m=>by
   have:=foldl_rep its m [];rw [List.nil_append] at this;exact this
  rw [f0];cases its with
  | nil=>simp
  | cons a r'=>rw [if_neg (by simp)]
 refine wpAny_binaryOp_repeat_ref (T := "list") (U := "int") (by decide) ⟨_,e,rfl⟩ (fun s'=>typeIs_int s' k t) noFill_list_mul F.fills_int_mul F.slot_int_rmul repeat_list F.slot_int_index.lookup
  (call_meets F.slot_int_rmul (typeIs_int s k t) F.entry_int_rmul (F.args_int_rmul_2 _ _) (int___rmul___int_list k t l its.toArray n)
   ⟨e,rfl,⟨_,e,rfl⟩,call_meets F.slot_list_mul ⟨_,e,rfl⟩ F.entry_list_mul (F.args_list_mul_2 _ _) (AutoListH.list___mul___list_int_3 l its.toArray n k t hfit hcap hlong) ⟨e,?_⟩⟩)
 rw [hnew];exact ⟨.ref _,_,I.lnew (t':=s.toks) (r.rep k.toNat) (by rw [len_rep,Nat.mul_comm];exact hz),rfl,q _ I.fresh⟩
end
end L2
namespace Att
open PySem PySem.W PySem.Calls PyProof.Rows
theorem u88 {P:Params} {h:Heap}:∀ (ns:List Int) (vs:List Value),WellAll P h vs (ns.map WData.int)->IntsAre vs ns:=by
 intro ns
 induction ns with
 | nil =>
  intro vs w;rw [List.map_nil] at w;cases w;exact .nil
 | cons n ns ih =>
  intro vs w;rw [List.map_cons] at w;cases w with
  | cons a b =>
   cases a;exact .cons _ _ (ih _ b)
theorem ur1 {l:OpenLaw} {n:Nat} (hn:l.most=some n) {P:Params} {h:Heap} {args:List WData} {vals:List Value}
  (hpre:l.row.toRowW.claim.pre args=true) (hwl:WellAll P h vals args) :
  ∃ a vs ns,vals=[Value.ref a] /\ args=[WData.list (ns.map WData.int)] /\ h.get? a=some { cls:=.type "list",data:=.seq vs.toArray } /\ IntsAre vs ns /\ ns.length<=n:=by
 have hsh:WShape.hasAll [] args [.list .int]=true:=(pre_splitW hpre).1;have hc:l.pre.holds [] { args:=args }=true:=(pre_splitW hpre).2;obtain ⟨d,r,rfl,h1,h2⟩:=hasAllW_cons hsh;obtain rfl:=hasAllW_nil h2;obtain ⟨xs,rfl,h3⟩:=hasW_list h1;obtain ⟨ns,rfl⟩:=items_int h3;have hlen:ns.length<=n:=by
  unfold OpenLaw.pre at hc;have h4:(WTm.not (.lt (.lit (.int (n:Int))) (.len (.arg 0)))).holds [] { args:=[.list (ns.map .int)] }=true:=by
   have h4:=(holds_andW hc).1;rw [hn] at h4;exact h4
  have h5:=condW_of h4 (w_not (w_lt w_lit (w_len_list (w_arg rfl))));rw [List.length_map] at h5;refine Nat.le_of_not_lt fun q=>?_
  have q':(n:Int) < ((ns.length:Nat):Int):=by omega
  first
   | (rw [decide_eq_true q'] at h5;exact absurd h5 (by decide))
   | (simp at h5;omega)
 cases hwl with
 | cons w1 w2 =>
  cases w2;cases w1 with
  | list ho hall=>exact ⟨_,_,ns,rfl,rfl,ho,u88 ns _ hall,hlen⟩
theorem ur9 (l:OpenLaw) (args:List WData):l.row.toRowW.claim.post args (.bool true) args=true :=
 postW_of (r:=l.row.toRowW) (X:=(true == true))
  (show WShape.has [] (.bool true) .bool=true by first | rfl | decide | simp [WShape.has,WShape.arms,WShape.armsAll])
  (show (WTm.eq .res (.lit (.bool true))).value [] { args:=args,res:=some (.bool true),after:=args }=some (.bool (true == true)) from w_eq_bool (w_res rfl) w_lit) rfl
theorem attach_call {l:OpenLaw} {n:Nat} {q:Program} {loose:List Str} {XP:(Str->Option Value)->Heap->Prop} {YP:World->Heap->Prop} {d:DefRec}
  (hn:l.most=some n) (hdf:d.params.defaults=[])
  (call:∀ (w:World) (s₀ s₁:Shared) (mg mb:Str->Option Value) (fa:Addr) (o:Obj) (pm cd doc:Value) (a:Addr) (vs:List Value) (ns:List Int),
   Ground q loose [] XP w s₀ mg mb s₁.heap->YP w s₁.heap ->
   s₁.heap.get? fa=some o->o.data=.func (docDef d.name d.params d.body d.scope pm cd doc)->s₁.heap.CodeRec cd d.name->mg d.name=some (.ref fa) ->
   s₁.heap.get? a=some { cls:=.type "list",data:=.seq vs.toArray }->IntsAre vs ns->ns.length<=n->s₁.gens=#[] ->
   codeAny (model l.prog w) callerA (.call (.ref fa) ⟨[.ref a],[]⟩) (fun r s'=>r=.ok (.ret (.bool true)) /\ OldK s₁.heap s'.heap /\ s'.os=s₁.os /\ AllBare s'.gens) s₁) :
  WalkO q loose XP YP l.row.toRowW d [] (fun f vs=>PySem.call f vs):=by
 intro w s₀ s₁ mg mb G Y fa o pm cd doc dV kV ho hd hcd hD hmg hg args vals as hpre hlay hrd hwl hlo;obtain rfl:dV=.none:=Dflts.none hD hdf;obtain rfl:kV=.none:=Dflts.noKw hD;obtain ⟨a,vs,ns,rfl,rfl,hobj,hints,hlen⟩:=ur1 hn hpre hwl;refine enter_call (codeAny_mono (call w s₀ s₁ mg mb fa o pm cd doc a vs ns G Y ho (fd_plain hd) hcd hmg hobj hints hlen hg) fun r s' hq=>?_);obtain ⟨rfl,h2,h3,h4⟩:=hq;exact ⟨.inl ⟨.bool true,.bool true,[],rfl,fun _=>rfl,.bool true,ur9 l _,fun _=>⟨List.Pairwise.nil,fun _ hm=>(nomatch hm)⟩⟩,h2,h3,h4⟩
end Att
namespace L2
open PySem PySem.Spec PyProof.Rows
theorem ue3:∀ {vs:List Value} {ns:List Int},IntsAre vs ns->Vals (ns.map V.int) vs
 | _,_,.nil=>.nil
 | _,_,.cons n t h=>.cons ⟨t,rfl⟩ (ue3 h)
def Only (H:Hp):Prop:=∀ b,H b=none \/ ∃ o xs,H b=some (.frz o (.lst xs))
theorem v40 {P:Program} {w:World} {K:PySem.W.Frag} {mg mb:Str->Option Value} {CX:CXT} {k:Nat} {fa a:Addr} {fd:FuncData} {x:Str} {sp:Sp} {s₁:Shared} {vs:List Value} {ns:List Int}
  (KX:K.In s₁.heap) (hns:s₁.heap.Ns mainGlobals mg) (hb:s₁.heap.Ns builtinsNs mb) (hbb:∀ x:Str,x ≠ "__name__" -> mb x=bootBuiltins x) (hlim:s₁.heap.NoLimit) (hg:s₁.gens=#[])
  (ha:s₁.heap.get? a=some { cls:=.type "list",data:=.seq vs.toArray }) (hi:IntsAre vs ns) (hl:ns.length<=sizeLine) (hr:Room k callerA)
  (F:∀ base:Heap,K.In base->base.Ns mainGlobals mg->FnOk P w K mg base CX k fa fd [x] sp) (hbind:∀ (s:Shared) (u:Value),BindsTo s fd ⟨[u],[]⟩ [(x,u)])
  (hsp:∀ H:Hp,Only H->SqL K H a (ns.map V.int)->sp [.ref a] H (fun v _=>v=.bl true) fun _ _ _=>False)
  (hCX:∀ H e s',CX [] H s₁ (fun _ _ _=>False) e s'->False) :
  codeAny (model P w) callerA (.call (.ref fa) ⟨[.ref a],[]⟩) (fun r s'=>r=.ok (.ret (.bool true)) /\ OldK s₁.heap s'.heap /\ s'.os=s₁.os /\ AllBare s'.gens) s₁:=by
 have rv:=ue3 hi;have lenV:=hi.length;have core:∀ H:Hp,Only H->SqL K H a (ns.map V.int)->HOk P w H s₁.heap->(∀ b,H b ≠ none->b=a)->(H a ≠ none->K.lookup a=none) ->
   codeAny (model P w) callerA (.call (.ref fa) ⟨[.ref a],[]⟩) (fun r s'=>r=.ok (.ret (.bool true)) /\ OldK s₁.heap s'.heap /\ s'.os=s₁.os /\ AllBare s'.gens) s₁:=by
  intro H hO hS hok hA hK;have base_of:∀ {b:Addr} {o:Obj},s₁.heap.get? b=some o->H b=none->(hidT s₁.heap H).get? b=some o:=fun e n=>v48 e n
  have noA:∀ {b:Addr} {o:Obj} {es:Array DictEntry} {ep:Nat},s₁.heap.get? b=some o->o.data=.dict es ep->H b=none:=fun {b o es ep} e d=>by
   cases q:H b with
   | none=>rfl
   | some u =>
    have e':b=a:=hA b (by rw [q];simp);subst e';rw [ha] at e;cases e;have d':Data.seq vs.toArray _=Data.dict es ep:=d;cases d'
  have nsK:∀ {b:Addr} {m:Str->Option Value},s₁.heap.Ns b m->(hidT s₁.heap H).Ns b m:=fun {b m} ⟨o,es,ep,e,d,r⟩=>⟨o,es,ep,base_of e (noA e d),d,r⟩
  have hKb:K.In (hidT s₁.heap H):=fun b o e=>base_of (KX b o e) (by
   cases q:H b with
   | none=>rfl
   | some u =>
    have e':b=a:=hA b (by rw [q];simp);subst e';rw [hK (by rw [q];simp)] at e;cases e)
  have hM:Mod K mg (hidT s₁.heap H):=⟨hKb,nsK hns,⟨mb,nsK hb,hbb⟩,let ⟨mc,h1,h2⟩:=hlim;⟨mc,nsK h1,h2⟩⟩;have e0:Env0 P w K mg (hidT s₁.heap H) callerA [] s₁ H:=⟨rfl,hM,fun b o e=>vf8 e,Nat.le_of_eq (uw2 _ _),trivial,fun b hb=>absurd (show b ∈ ([]:List Addr) from hb) (by simp),hok,.of_eq hg⟩;refine codeAny_mono ((F _ hKb (nsK hns)).run callerA [] s₁ H ⟨[.ref a],[]⟩ [.ref a] [.ref a] _ _ hr e0 (hbind s₁ (.ref a)) (.cons rfl .nil) (hsp H hO hS)) fun r s' h=>?_
  cases r with
  | error e=>exact (hCX H e s' h).elim
  | ok fl =>
   cases fl with
   | next=>exact False.elim h
   | brk=>exact False.elim h
   | cont=>exact False.elim h
   | ret u =>
    obtain ⟨v,H',os,bare,un,hok',r',q⟩:=h;have q':v=.bl true:=q;subst q';obtain rfl:u=Value.bool true:=r';refine ⟨rfl,OldK.of_keep fun b o e=>?_,os,bare⟩;cases q:H b with
    | none=>exact un.keep b o e q (by intro z;exact absurd (show b ∈ ([]:List Addr) from z) (by simp)) (by simp)
    | some u =>
     rcases hO b with z | ⟨ob,xs,z⟩
     ·rw [q] at z;cases z
     ·have z2:=un.frzs b ob _ z
      obtain ⟨e1,_⟩:=hok b _ z;obtain ⟨e2,_⟩:=hok' b _ z2;rw [e] at e1;cases e1;exact e2
 cases hk:K.lookup a with
 | some o =>
  have e:=KX a o hk;rw [ha] at e;cases e;refine core (fun _=>none) (fun _=>.inl rfl) (.inr ⟨_,vs.toArray,_,hk,rfl,rfl,rfl,by rw [List.size_toArray,lenV];exact hl,by simpa using rv⟩) (fun b u z=>by have z':(none:Option HO)=some u:=z;cases z') (fun b z=>absurd rfl z) fun z=>absurd rfl z
 | none =>
  refine core (fun b=>if b=a then some (.frz { cls:=.type "list",data:=.seq vs.toArray } (.lst (ns.map V.int))) else none) (fun b=>?_) (.inl (.inr ⟨{ cls:=.type "list",data:=.seq vs.toArray },if_pos rfl⟩)) (fun b u z=>?_) (fun b z=>?_) fun _=>hk
  ·by_cases hb:b=a
   ·exact .inr ⟨_,_,if_pos hb⟩
   ·exact .inl (if_neg hb)
  ·by_cases hb:b=a
   ·have z':=(if_pos hb).symm.trans z
    cases z';subst hb;exact ⟨ha,by rw [List.length_map];exact hl,vs,_,rv,ha⟩
   ·have z':=(if_neg hb).symm.trans z
    cases z'
  ·by_cases hb:b=a
   ·exact hb
   ·exact absurd (if_neg hb) z
theorem walk_of {l:PySem.W.OpenLaw} {n k:Nat} {q:Program} {loose:List Str} {XP:(Str->Option Value)->Heap->Prop} {YP:World->Heap->Prop} {d:DefRec} {K:Params->PySem.W.Frag} {CX:World->CXT} {sp:World->Sp} {x:Str}
  (hn:l.most=some n) (hn2:n<=sizeLine) (hdf:d.params.defaults=[]) (hr:Room k callerA)
  (hY:∀ (w:World) (h:Heap),YP w h->(K w.params).In h)
  (F:∀ (w:World) (mg:Str->Option Value) (fa:Addr) (h:Heap),(K w.params).In h->h.Ns mainGlobals mg->mg d.name=some (.ref fa) ->
   ∃ fd:FuncData,(∀ (s:Shared) (u:Value),BindsTo s fd ⟨[u],[]⟩ [(x,u)]) /\
    ∀ base:Heap,(K w.params).In base->base.Ns mainGlobals mg->FnOk l.prog w (K w.params) mg base (CX w) k fa fd [x] (sp w))
  (hsp:∀ (w:World) (H:Hp) (a:Addr) (ns:List Int),ns.length<=n->Only H->SqL (K w.params) H a (ns.map V.int)->sp w [.ref a] H (fun v _=>v=.bl true) fun _ _ _=>False)
  (hCX:∀ (w:World) (H:Hp) (s:Shared) (e:Value) (s':Shared),CX w [] H s (fun _ _ _=>False) e s'->False) :
  PySem.W.WalkO q loose XP YP l.row.toRowW d [] (fun f vs=>PySem.call f vs):=by
 refine Att.attach_call hn hdf fun w s₀ s₁ mg mb fa o pm cd doc a vs ns G Y ho hd hcd hmg hobj hints hlen hg=>?_
 have KX:=hY w _ Y;obtain ⟨fd,hb,hF⟩:=F w mg fa _ KX G.T.g hmg;exact v40 KX G.T.g G.T.b G.T.builtins G.T.nolimit hg hobj hints (Nat.le_trans hlen hn2) hr hF hb (fun H hO hS=>hsp w H a ns hlen hO hS) fun H e s'=>hCX w H s₁ e s'
end L2
/- THE LAST THEOREM (shape; LID,My.* are yours):
   My.Adr: a structure of the addresses that your layer names (classes,functions);My.Txt K t: a structure (Prop) of the equations over K;
   My.txt_mk:{K} {implicit addresses ..} (e1:nsIn K mainGlobals "law" = some (some (.ref f))) (e2:K.lookup f=some ⟨oc,od,.func (fnOf "law" "law" params body scope dV kV doc pm an cdv ct),sl⟩) (e3:codeIn K cdv "law" = true) ..:∃ t,My.Txt K t
set_option maxHeartbeats 0 in
theorem PySem.Challenge.cw_LID_holds:PySem.Challenge.rw_LID.Holds:=by
 w_on;o_law;k_head;(case hw=>w_witness2)
 k_fill
 refine L2.walk_of (l:=PySem.Challenge.rw_LID) (n:=63) (k:=40) (x := "script") (CX:=fun w=>..) (sp:=fun _=>My.sp_law) rfl (by decide) rfl ⟨rfl,by decide,by decide⟩ (fun w h Y=>PySem.W.kIn_of Y) ?F ?S ?C
 case F =>
  intro w mg fa h KX G hmg;have T:∃ t,My.Txt (L2.KOf KX) t:=by
   dsimp only [L2.KOf]                          -- K must stand as «<heap const> w.params» for k_is;refine' My.txt_mk ?e1 ?e2 ?e3 ..
   (case e1=>PySem.W.k_is)                    -- in the order: a name->its address->its object->its parts
   (case e2=>PySem.W.k_is)
   ..
  obtain ⟨t,T⟩:=T;have e0:=hmg.symm.trans (PySem.W.mg_of KX G T.law);cases e0                                       -- fa is the law's own address;exact ⟨_,fun s u=>.of_eq rfl,fun base kb nb=>My.law_fn T kb nb⟩     -- if «.of_eq rfl» comes too early: refine' ⟨_,?b,fun base kb nb=>My.law_fn T kb nb⟩;exact fun s u=>.of_eq rfl
 case S=>exact fun w H a ns hl hO hS=>..
 case C=>exact ..
(the tactic k_is has no namespace: write k_is) -/
namespace L2
open PySem PySem.Spec PyProof.Rows
def inClass (s:Stmt) (j:Nat):Stmt:=match s with
 | .ClassDef _ _ _ body _ _ _ _ _ _ _=>body.getD j (.Pass ⟨0,0,0,0⟩)
 | _=>.Pass ⟨0,0,0,0⟩
def u19 (s:Stmt):Arguments:=match s with
 | .FunctionDef _ a _ _ _ _ _ _ _ _=>a
 | _=>{ posonlyargs:=[],args:=[],vararg:=none,kwonlyargs:=[],kw_defaults:=[],kwarg:=none,defaults:=[] }
def u13 (s:Stmt):List Stmt:=match s with
 | .FunctionDef _ _ b _ _ _ _ _ _ _=>b
 | _=>[]
def u01 (s:Stmt):Scope:=match s with
 | .FunctionDef _ _ _ _ _ _ sc _ _ _=>sc
 | _=>{ kind:=.function,names:=[],isGenerator:=false,isCoroutine:=false }
abbrev CX0:CXT:=fun _ _ _ _ _ _=>False
abbrev E0:XK:=fun _ _ _=>False
theorem pass0 {X:Cx}:Passes CX0 X E0:=fun _ _ _ _ _ _ _ h=>h.elim
structure Fun (K:PySem.W.Frag) (x qual:Str) (st:Stmt) (f:Addr) (fd:FuncData):Prop where
 ex:∃ (oc:Value) (od:Option Addr) (kV doc pm:Value) (an:Option Addr) (cdv ct:Value) (osl:Array (Option Value)),
  fd=PySem.W.fnOf x qual (u19 st) (u13 st) (u01 st) .none kV doc pm an cdv ct /\ K.lookup f=some ⟨oc,od,.func fd,osl⟩ /\ PySem.W.codeIn K cdv qual=true
 kp:PySem.W.keepIn K (.ref f)=true
section
variable {P:Program} {w:World} {K:PySem.W.Frag} {mg:Str->Option Value} {base:Heap}
theorem Fun.ok {x qual:Str} {st:Stmt} {f:Addr} {fd:FuncData} {N ps:List Str} {k:Nat} {sp:Sp} (F:Fun K x qual st f fd) (S:FnScope N ps (u01 st)) (len:∀ vs H Q E,sp vs H Q E->vs.length=ps.length)
  (hbody:∀ (cdv:Value) (A:Around) (outer:List Env) (s:Shared) (H:Hp) (vs:List V) (Q:VK) (E:XK),Room k (A.deeper (envOfC qual (u01 st) s.heap.objs.size f cdv))->sp vs H Q E ->
   ∃ t,PSs (cxOf CX0 P w K mg base N qual (u01 st) f cdv A outer s H E).nox (u13 st) t /\ t { nx:=fun _ H'=>Q .non H',rt:=Q } (start N vs) H):FnOk P w K mg base CX0 (k+1) f fd ps sp:=by
 obtain ⟨oc,od,kV,doc,pm,an,cdv,ct,osl,rfl,lk,hcd⟩:=F.ex;refine v50 lk hcd S len fun A outer s H vs Q E hr hsp=>?_
 obtain ⟨t,h,q⟩:=hbody cdv A outer s H vs Q E hr hsp;exact ⟨t,h.nox,q⟩
theorem Fun.binds {x qual:Str} {st:Stmt} {f:Addr} {fd:FuncData} {ps:List Str} (F:Fun K x qual st f fd)
  (h:∀ (kV doc pm:Value) (an:Option Addr) (cdv ct:Value) (us:List Value),us.length=ps.length->bindArgs (PySem.W.fnOf x qual (u19 st) (u13 st) (u01 st) .none kV doc pm an cdv ct) ⟨us,[]⟩=pure (ps.zip us)):Binds K fd ps []:=by
 obtain ⟨oc,od,kV,doc,pm,an,cdv,ct,osl,rfl,lk,hcd⟩:=F.ex;exact .all (h kV doc pm an cdv ct)
end
section
variable {X:Cx}
theorem pv (i:Nat) {x:Str} {pos:Pos} (hN:X.N[i]?=some x:=by rfl) (hv:Vis X.env.scope x:=by first | exact Or.inl rfl | exact Or.inr (Or.inl rfl) | exact Or.inr (Or.inr rfl)) (hd:(x == ("__debug__" : Str))=false:=by decide)
  (hcd:(x == ("__classdict__" : Str))=false:=by decide):PE X (.Name x pos) (tVar i):=v82 hN hv hd hcd
end
def Same (H H':Hp):Prop:=∀ b o,H b=some o->H' b=some o
theorem Same.refl (H:Hp):Same H H:=fun _ _ h=>h
theorem Same.trans {H H1 H2:Hp} (a:Same H H1) (b:Same H1 H2):Same H H2:=fun c o h=>b c o (a c o h)
theorem Same.free {H H':Hp} (e:Same H H') {l:Addr} (h:H' l=Option.none):H l=Option.none:=by
 cases q:H l with
 | none=>rfl
 | some o =>
  rw [e l o q] at h;cases h
theorem Same.seq {K:PySem.W.Frag} {H H':Hp} {a:Addr} {xs:List V} (e:Same H H') (h:SqL K H a xs):SqL K H' a xs:=by
 rcases h with (h | ⟨o,h⟩) | h
 ·exact .inl (.inl (e _ _ h))
 ·exact .inl (.inr ⟨o,e _ _ h⟩)
 ·exact .inr h
theorem vh7 {prog:Program} {w:World} {A:Around} {R:Result->Shared->Prop} {s:Shared} {elt target iter:Expr} {ifs:List Expr} {scope:Scope} {pos:Pos} {it acc:Value} {env:Env} (I:Nat->Shared->Prop)
  (turn:∀ n s,I n s->wpAny (model prog w) A (pyNext it) (fun r s₁=>match r with
   | none=>R (.ok .next) s₁
   | some v=>wpAny (model prog w) A (letOwnedTupleGo target it v) (fun _ s₁=>wpAny (model prog w) A (assign target env v) (fun _ s₂ =>
     wpAny (model prog w) A (forIn ifs true fun c r=>if r=true then do let ok <- isTrue c env (eval c env);pure (ForInStep.yield ok) else pure (ForInStep.yield r)) (fun ok s₃ =>
      if ok=true then wpAny (model prog w) A (eval elt env) (fun x s₄ =>
       wpAny (model prog w) A (call (.builtin "list.append") [acc,x]) (fun _ s₅=>∃ m,m < n /\ I m s₅) (fun _ _=>False) s₄) (fun _ _=>False) s₃
      else ∃ m,m < n /\ I m s₃) (fun _ _=>False) s₂) (fun _ _=>False) s₁) (fun _ _=>False) s₁) (fun _ _=>False) s)
  (n:Nat) (h:I n s) :
  codeAny (model prog w) A (.compLoop (.ListComp elt [⟨target,iter,ifs,0⟩] scope pos) 0 it acc env) R s:=by
 refine codeAny_loop rfl I (fun n s hI=>?_) n h
 show wpAny _ A ((compTurn (.ListComp elt [⟨target,iter,ifs,0⟩] scope pos) 0 it acc env).onRaise (fun x=>do noteFrame x env;theTreesLotGoes x)) _ _ s
 refine wpAny_noted ?_;rw [compTurn_list];refine wpAny_bind (wpAny_standAt (wpAny_bind (wpAny_mono (turn n s hI) (fun r s₁ h₁=>?_) fun _ _ h'=>h'.elim)));cases r with
 | none=>exact wpAny_pure h₁
 | some v =>
  refine wpAny_bind (wpAny_mono h₁ (fun _ s₂ h₂=>?_) fun _ _ h'=>h'.elim);refine wpAny_bind (wpAny_mono h₂ (fun _ s₂ h₂=>wpAny_bind (wpAny_mono h₂ (fun ok s₃ h₃=>?_) fun _ _ h'=>h'.elim)) fun _ _ h'=>h'.elim);cases ok with
  | false=>exact wpAny_pure ⟨rfl,h₃⟩
  | true =>
   exact wpAny_bind (wpAny_bind (wpAny_mono h₃ (fun x s₄ h₄=>wpAny_bind (wpAny_mono h₄ (fun _ s₅ h₅=>wpAny_pure (wpAny_pure ⟨rfl,h₅⟩)) fun _ _ h'=>h'.elim)) fun _ _ h'=>h'.elim))
def clOf (env:Env):List (Str × NameKind)->List (Str × Addr)->List (Str × Addr)
 | [],cs=>cs
 | (x,k)::r,cs=>clOf env r (if (k == .free)=true then (x,(env.cells.lookup x).getD 0)::cs else cs)
theorem ui7 {env:Env} {x:Str} {c:Addr} (h:env.cells.lookup x=some c):cellOf env x=pure c:=by
 unfold cellOf;rw [h]
theorem uo4 {scope:Scope} {env:Env} (h:∀ y ∈ scope.names,y.2=.free->∃ c,env.cells.lookup y.1=some c):closureFor scope env=pure (clOf env scope.names []):=by
 have key:∀ (l:List (Str × NameKind)) (cs:List (Str × Addr)),(∀ y ∈ l,y.2=.free->∃ c,env.cells.lookup y.1=some c) ->
   (forIn l cs fun (y:Str × NameKind) r=>if (y.2 == NameKind.free)=true then do let c <- cellOf env y.1;pure (ForInStep.yield ((y.1,c)::r)) else pure (ForInStep.yield r):Sem (List (Str × Addr)))=pure (clOf env l cs):=by
  intro l
  induction l with
  | nil=>intro cs _;rfl
  | cons y r ih =>
   intro cs hl;obtain ⟨x,k⟩:=y;rw [List.forIn_cons]
   by_cases hk:k=.free
   ·subst hk
    obtain ⟨c,hc⟩:=hl (x,.free) List.mem_cons_self rfl;have e:((NameKind.free == NameKind.free):Bool)=true:=rfl;simp only [e,if_true,ui7 hc,pure_bind];rw [ih _ fun z hz=>hl z (List.mem_cons_of_mem _ hz)]
    show _=pure (clOf env r (if (NameKind.free == NameKind.free)=true then _ else _))
    rw [e,if_pos rfl,hc] <;> rfl
   ·have e:(k == NameKind.free)=false:=by simpa using hk
    simp only [e,Bool.false_eq_true,if_false,pure_bind];rw [ih _ fun z hz=>hl z (List.mem_cons_of_mem _ hz)]
    show _=pure (clOf env r (if (k == NameKind.free)=true then _ else _))
    rw [e,if_neg Bool.false_ne_true]
 have e:closureFor scope env=((forIn scope.names ([]:List (Str × Addr)) fun (y:Str × NameKind) r=>if (y.2 == NameKind.free)=true then do let c <- cellOf env y.1;pure (ForInStep.yield ((y.1,c)::r)) else pure (ForInStep.yield r):Sem (List (Str × Addr))) >>= fun cs=>pure cs):=rfl;rw [e,key scope.names [] h];rfl
theorem u95 {env:Env} {x:Str} {c:Addr}:∀ {l:List (Str × NameKind)} {cs:List (Str × Addr)},(∀ y ∈ l,y.2=.free->∃ c,env.cells.lookup y.1=some c)->(∀ x c,cs.lookup x=some c->env.cells.lookup x=some c) ->
  (clOf env l cs).lookup x=some c->env.cells.lookup x=some c
 | [],_,_,h,e=>h x c e
 | (y,k)::r,cs,hl,h,e=>by
  refine u95 (l:=r) (fun z hz=>hl z (List.mem_cons_of_mem _ hz)) (fun x c e=>?_) e
  by_cases hk:k=.free
  ·subst hk
   obtain ⟨d,hd⟩:=hl (y,.free) List.mem_cons_self rfl;rw [if_pos (show (NameKind.free == NameKind.free)=true from rfl),List.lookup_cons] at e;cases hx:x == y with
   | true=>rw [hx,hd] at e;cases e;rw [eq_of_beq hx];exact hd
   | false=>rw [hx] at e;exact h x c e
  ·rw [if_neg (by simpa using hk)] at e;exact h x c e
theorem ud6 {env:Env} {x:Str}:∀ {l:List (Str × NameKind)} {cs:List (Str × Addr)},((∃ c,cs.lookup x=some c) \/ (x,NameKind.free) ∈ l)->∃ c,(clOf env l cs).lookup x=some c
 | [],_,h=>by
  rcases h with h | h
  ·exact h
  ·simp at h
 | (y,k)::r,cs,h=>by
  refine ud6 (l:=r) ?_
  rcases h with ⟨c,h⟩ | h
  ·left
   by_cases hk:(k == NameKind.free)=true
   ·rw [if_pos hk,List.lookup_cons]
    cases hx:x == y with
    | true=>exact ⟨_,rfl⟩
    | false=>exact ⟨c,h⟩
   ·rw [if_neg hk];exact ⟨c,h⟩
  ·rcases List.mem_cons.mp h with e | h
   ·injection e with e1 e2
    subst e1;subst e2
    left
    rw [if_pos (show (NameKind.free == NameKind.free)=true from rfl),List.lookup_cons];simp
   ·exact .inr h
def u55 (X:Cx) (N':List Str) (scope:Scope) (C:Addr) (s:Shared) (H:Hp) (fp:List Addr):Cx :=
 { X with N:=N',s₀:=s,H₀:=H,env:=compEnvC scope (clOf X.env scope.names []) C X.env,outer:=X.stack,ex:=fp,fn:=fun _=>false,pn:=[],xe:=fun _ _=>False }
structure BlkOk (X:Cx) (N':List Str) (ix:List (Option Nat)) (scope:Scope):Prop where
 kind:scope.kind=.function
 nocell:∀ y ∈ scope.names,y.2 ≠ .cell
 names:∀ y ∈ scope.names,y.2=.local->scope.names.lookup y.1=some .local
 frees:∀ y ∈ scope.names,y.2=.free->X.env.kindOf y.1=some .cell \/ X.env.kindOf y.1=some .free
 len:ix.length=N'.length
 at_:∀ (i j:Nat) (x:Str),N'[i]?=some x->ix[i]?=some (some j)->X.N[j]?=some x /\ scope.names.lookup x=some .free
def inner (ix:List (Option Nat)) (σ:St):St:=ix.map fun o=>o.bind fun j=>(σ[j]?).bind id
def vo7 (ix:List (Option Nat)) (wi:TI) (g:TG) (tc:TT) (te:TE):TE:=fun σ H Q=>wi σ H fun J H1=>∀ D,H1 D=none->∃ W:Nat->Nat->St->Hp->Prop,(∃ m,W 0 m (inner ix σ) (upd H1 D (.lst []))) /\ ∀ i m σi H,W i m σi H ->
 (J.stop i H /\ Q (.ref D) H) \/ (J.go i H /\ ∃ N:St->Hp->Prop,(∀ σ' H',N σ' H'->∃ m',m' < m /\ W (i+1) m' σ' H') /\ ∀ x H',J.yld i H x H'->g x σi H' fun σ2 H2=>tc σ2 H2 fun b H3 =>
  if b=true then te σ2 H3 fun v H4=>∃ ys,H4 D=some (.lst ys) /\ ys.length < sizeLine /\ N σ2 (upd H4 D (.lst (ys++[v]))) else N σ2 H3)
theorem u33 {env:Env} {x:Str}:∀ {names:List (Str × NameKind)},names.lookup x=some .free->(env.kindOf x=some .cell \/ env.kindOf x=some .free) ->
  (names.map fun (n,k)=>if (k == NameKind.free && env.scope.kind == .function && env.kindOf n == some .cell) then (n,NameKind.cell) else (n,k)).lookup x=some .cell \/
  (names.map fun (n,k)=>if (k == NameKind.free && env.scope.kind == .function && env.kindOf n == some .cell) then (n,NameKind.cell) else (n,k)).lookup x=some .free
 | [],h,_=>by simp at h
 | (n,k)::r,h,ho=>by
  cases hx:x == n with
  | true =>
   simp only [List.lookup_cons,hx] at h;cases h
   by_cases hc:(NameKind.free == NameKind.free && env.scope.kind == .function && env.kindOf n == some .cell)=true
   ·left
    show List.lookup x ((if (NameKind.free == NameKind.free && env.scope.kind == .function && env.kindOf n == some .cell)=true then (n,NameKind.cell) else (n,.free))::_)=_
    rw [if_pos hc];simp only [List.lookup_cons,hx]
   ·right
    show List.lookup x ((if (NameKind.free == NameKind.free && env.scope.kind == .function && env.kindOf n == some .cell)=true then (n,NameKind.cell) else (n,.free))::_)=_
    rw [if_neg hc];simp only [List.lookup_cons,hx]
  | false =>
   simp only [List.lookup_cons,hx] at h;have ih:=u33 (env:=env) h ho
   show List.lookup x ((if (k == NameKind.free && env.scope.kind == .function && env.kindOf n == some .cell)=true then (n,NameKind.cell) else (n,k))::_)=_ \/
    List.lookup x ((if (k == NameKind.free && env.scope.kind == .function && env.kindOf n == some .cell)=true then (n,NameKind.cell) else (n,k))::_)=_
   by_cases hc:(k == NameKind.free && env.scope.kind == .function && env.kindOf n == some .cell)=true
   ·rw [if_pos hc];simp only [List.lookup_cons,hx];exact ih
   ·rw [if_neg hc];simp only [List.lookup_cons,hx];exact ih
theorem u34 {env:Env} {x:Str}:∀ {names:List (Str × NameKind)},(∀ y ∈ names,y.2 ≠ .cell) ->
  ((names.map fun (n,k)=>if (k == NameKind.free && env.scope.kind == .function && env.kindOf n == some .cell) then (n,NameKind.cell) else (n,k)).lookup x=some .cell \/
  (names.map fun (n,k)=>if (k == NameKind.free && env.scope.kind == .function && env.kindOf n == some .cell) then (n,NameKind.cell) else (n,k)).lookup x=some .free)->(x,NameKind.free) ∈ names
 | [],_,h=>by simp at h
 | (n,k)::r,hn,h=>by
  have h:List.lookup x ((if (k == NameKind.free && env.scope.kind == .function && env.kindOf n == some .cell)=true then (n,NameKind.cell) else (n,k))::(r.map fun (n,k)=>if (k == NameKind.free && env.scope.kind == .function && env.kindOf n == some .cell) then (n,NameKind.cell) else (n,k)))=some .cell \/
   List.lookup x ((if (k == NameKind.free && env.scope.kind == .function && env.kindOf n == some .cell)=true then (n,NameKind.cell) else (n,k))::(r.map fun (n,k)=>if (k == NameKind.free && env.scope.kind == .function && env.kindOf n == some .cell) then (n,NameKind.cell) else (n,k)))=some .free:=h
  cases hx:x == n with
  | true =>
   have e:x=n:=eq_of_beq hx;subst e
   by_cases hc:(k == NameKind.free && env.scope.kind == .function && env.kindOf x == some .cell)=true
   ·have hk:k=.free:=by
     simp only [Bool.and_eq_true,beq_iff_eq] at hc;exact hc.1.1
    subst hk;exact List.mem_cons_self
   ·rw [if_neg hc] at h
    simp only [List.lookup_cons,hx,Option.some.injEq] at h
    rcases h with h | h
    ·exact absurd h (hn (x,k) List.mem_cons_self)
    ·subst h;exact List.mem_cons_self
  | false =>
   refine List.mem_cons_of_mem _ (u34 (env:=env) (fun y hy=>hn y (List.mem_cons_of_mem _ hy)) ?_)
   by_cases hc:(k == NameKind.free && env.scope.kind == .function && env.kindOf n == some .cell)=true
   ·rw [if_pos hc] at h;simp only [List.lookup_cons,hx] at h;exact h
   ·rw [if_neg hc] at h;simp only [List.lookup_cons,hx] at h;exact h
def PIfs (X:Cx) (ifs:List Expr) (t:TT):Prop :=
 ∀ (pins:List (Addr × Obj)) (s:Shared) (σ:St) (H:Hp) (Q:Bool->Hp->Prop),Inv X pins σ H s->t σ H Q ->
  wpAny (model X.prog X.w) X.A (forIn ifs true fun c r=>if r=true then do let ok <- isTrue c X.env (eval c X.env);pure (ForInStep.yield ok) else pure (ForInStep.yield r)) (TP X pins σ Q) X.xe s
def tYes:TT:=fun _ H Q=>Q true H
section
variable {X:Cx} {pins:List (Addr × Obj)} {σ:St} {H:Hp} {s:Shared}
theorem v17:PIfs X [] tYes:=fun _ _ _ H _ I h=>wpAny_tests_nil ⟨H,I,h⟩
theorem Inv.blk {N':List Str} {ix:List (Option Nat)} {scope:Scope} {fp:List Addr} {h1:Heap} {tk:Nat} (I:Inv X pins σ H s) (B:BlkOk X N' ix scope) (f:∀ b ∈ fp,FpOk X pins H b) (hlt:∀ b ∈ fp,b < s.heap.objs.size)
  (ns:h1.Ns s.heap.objs.size (fun _=>none)) (old:∀ b o,s.heap.get? b=some o->h1.get? b=some o) :
  Inv (u55 X N' scope s.heap.objs.size s H fp) [] (inner ix σ) H { s with heap:=h1,toks:=tk }:=by
 have hfree:∀ y ∈ scope.names,y.2=.free->∃ c,X.env.cells.lookup y.1=some c:=fun y hy e=>I.ok.has y.1 (B.frees y hy e)
 have hc:∀ x c,(clOf X.env scope.names []).lookup x=some c->X.env.cells.lookup x=some c:=fun x c e=>u95 hfree (fun _ _ z=>by cases z) e
 have stk:∀ b ∈ fp,b ∉ frs X.stack:=fun b hb z=>by
  rcases List.mem_cons.mp (I.stkSub b z) with e | e
  ·exact (f b hb).2.1 e
  ·exact (f b hb).2.2.1 e
 refine ⟨⟨I.ok.mod,B.kind,I.ok.glob,I.ok.blt,Nat.le_refl _,fun x y c h1 h2=>I.ok.inj x y c (hc x c h1) (hc y c h2),fun x hx=>?_,fun x c h=>(by cases h),I.ok.hd,I.ok.frames,.inl rfl,fun b hb=>⟨Nat.ne_of_lt (hlt b hb),fun x c e=>(f b hb).2.2.2.2.1 x c (hc x c e)⟩,
   I.bs,Nat.le_trans I.ok.bsz I.sz,fun b o e hb=>?_,stk,I.stack,I.stkFree⟩,rfl,I.bare,Un.kept old,⟨_,ns,fun i x v h1 h2 h3=>?_⟩,fun x c e=>?_,I.hok.fresh (Nat.le_refl _),fun x c e=>I.freeC x c (hc x c e),fun p hp=>absurd (show p ∈ ([]:List (Addr × Obj)) from hp) (by simp),I.hok.kept old,?_⟩
 ·exact ud6 (.inr (u34 B.nocell hx))
 ·rcases (f b hb).2.2.2.1 with z | z
  ·exact I.ok.noex b o e z
  ·exact absurd (Nat.lt_of_lt_of_le (Heap.lt_size e) (Nat.le_trans I.ok.bsz z)) (Nat.lt_irrefl _)
 ·have h2:(ix.map fun o=>o.bind fun j=>(σ[j]?).bind id)[i]?=some (some v):=h2
  rw [List.getElem?_map] at h2;cases ho:ix[i]? with
  | none=>rw [ho] at h2;cases h2
  | some o =>
   rw [ho] at h2;cases o with
   | none=>cases h2
   | some j =>
    have h2:(σ[j]?).bind id=some v:=Option.some.inj h2;have h2:σ[j]?=some (some v):=by
     cases hs:σ[j]? with
     | none=>rw [hs] at h2;cases h2
     | some w=>rw [hs] at h2;cases h2;rfl
    obtain ⟨hN,hf⟩:=B.at_ i j x h1 ho
    have hk:=B.frees (x,.free) (PySem.mem_of_lookup hf) rfl;obtain ⟨m,hn,hl⟩:=I.loc;obtain ⟨u,r,lk⟩:=hl j x v hN h2 (hk.elim (fun z=>.inr (.inl z)) fun z=>.inr (.inr z));refine ⟨u,r,.inr ?_⟩
    rcases lk with ⟨z,_⟩ | ⟨_,c,e,z⟩
    ·rcases hk with hk | hk
     ·exact absurd (hk.symm.trans z) (by decide)
     ·exact absurd (hk.symm.trans z) (by decide)
    ·obtain ⟨c',e'⟩:=ud6 (env:=X.env) (cs:=[]) (.inr (PySem.mem_of_lookup hf))
     have ec:c'=c:=Option.some.inj ((hc x c' e').symm.trans e);subst ec;refine ⟨u33 hf hk,c',e',?_⟩;obtain ⟨o,ho,hd⟩:=z;exact ⟨o,old _ _ ho,hd⟩
 ·obtain ⟨v,o,ho,hd⟩:=I.cell x c (hc x c e)
  exact ⟨v,o,old _ _ ho,hd⟩
 ·show (inner ix σ).length=N'.length
  unfold inner;rw [List.length_map];exact B.len
theorem vk8 {elt tg iter:Expr} {ifs:List Expr} {scope:Scope} {pos:Pos} {N':List Str} {ix:List (Option Nat)} {g:TG} {tc:TT} {te:TE} {J:It} {fp:List Addr} {it:Addr} {tn:Nat->Heap->Prop} (B:BlkOk X N' ix scope)
  (hg:∀ C s H fp,PG (u55 X N' scope C s H fp) tg g) (hi:∀ C s H fp,PIfs (u55 X N' scope C s H fp) ifs tc) (he:∀ C s H fp,PE (u55 X N' scope C s H fp) elt te) (hc:X.calm=true)
  (I:Inv X pins σ H s) (T:Turn X.prog X.w X.K tg J fp it tn) (st:tn 0 s.heap) (f:∀ b ∈ fp,FpOk X pins H b) {Q:VK} {E:Value->Shared->Prop}
  (w:∃ W:Nat->Nat->St->Hp->Prop,(∃ m,W 0 m (inner ix σ) (upd H s.heap.objs.size (.lst []))) /\ ∀ i m σi H,W i m σi H ->
   (J.stop i H /\ Q (.ref s.heap.objs.size) H) \/ (J.go i H /\ ∃ N:St->Hp->Prop,(∀ σ' H',N σ' H'->∃ m',m' < m /\ W (i+1) m' σ' H') /\ ∀ x H',J.yld i H x H'->g x σi H' fun σ2 H2=>tc σ2 H2 fun b H3 =>
    if b=true then te σ2 H3 fun v H4=>∃ ys,H4 s.heap.objs.size=some (.lst ys) /\ ys.length < sizeLine /\ N σ2 (upd H4 s.heap.objs.size (.lst (ys++[v]))) else N σ2 H3))
  {RR:Value->Addr->Result->Shared->Prop} (hRR:∀ C H' s' m,Inv X pins σ H' s'->FpOk X pins H' C->s'.heap.Ns C m->Q (.ref s.heap.objs.size) H'->RR (.ref s.heap.objs.size) C (.ok .next) s') :
  wpAny (model X.prog X.w) X.A (newList []) (fun acc s₃=>wpAny (model X.prog X.w) X.A (newFunctionEnv scope X.env.globals (clOf X.env scope.names []) [] X.env.qual none .none (some X.env)) (fun cenv s₄ =>
   codeAny (model X.prog X.w) X.A (.compStart (.ListComp elt [⟨tg,iter,ifs,0⟩] scope pos) 0 (.ref it) acc { cenv with scope:=relabel scope X.env }) (RR acc cenv.locals) s₄) E s₃) E s:=by
 obtain ⟨W,⟨m0,w0⟩,turn⟩:=w;have flt:∀ b ∈ fp,b < s.heap.objs.size:=fun b hb=>by
  obtain ⟨o,ho,_⟩:=T.obj 0 _ st b hb;exact Heap.lt_size ho
 have I3:Inv X pins σ (upd H s.heap.objs.size (.lst [])) { s with heap:=s.heap.push { cls:=.type "list",data:=.seq ([]:List Value).toArray },toks:=s.toks }:=I.lnew .nil (Nat.zero_le _)
 have hfr:∀ b ∈ fp,(upd H s.heap.objs.size (.lst [])) b=none:=fun b hb=>by rw [u05 (Nat.ne_of_lt (flt b hb))];exact (f b hb).1
 have f3:∀ b ∈ fp,FpOk X pins (upd H s.heap.objs.size (.lst [])) b:=fun b hb=>⟨hfr b hb,(f b hb).2⟩
 refine wpAny_newObj_type (wpAny_newFunctionEnv B.nocell (by intro y hy;simp at hy) (fun h₁ hns₁ hsb₁=>?_) B.kind);dsimp only at hns₁ hsb₁ ⊢;generalize hH3:s.heap.push { cls:=.type "list",data:=.seq ([]:List Value).toArray }=h3 at hns₁ hsb₁ I3 ⊢;obtain ⟨s3,e3⟩:∃ s3:Shared,s3={ s with heap:=h3 }:=⟨_,rfl⟩
 obtain rfl:h3=s3.heap:=by rw [e3]
 have I3:Inv X pins σ (upd H s.heap.objs.size (.lst [])) s3:=by
  have e:s3={ s with heap:=s3.heap,toks:=s.toks }:=e3
  rw [e];exact I3
 have eT:s3.toks=s.toks:=by rw [e3]
 have eS:({ s with heap:=h₁,toks:=s.toks+([]:List (Str × Value)).length }:Shared)={ s3 with heap:=h₁,toks:=s3.toks+([]:List (Str × Value)).length }:=by rw [e3]
 rw [eS];have hz3:s3.heap.objs.size=s.heap.objs.size+1:=by rw [<- hH3];exact Heap.size_push _ _
 have old:∀ b o,s3.heap.get? b=some o->h₁.get? b=some o:=fun b o e=>hsb₁.extBut b o (Nat.ne_of_lt (Heap.lt_size e)) (Heap.get?_push_of_some _ e)
 have st3:tn 0 s3.heap:=T.keep _ _ _ st fun b hb o e=>by rw [<- hH3];exact Heap.get?_push_of_some _ e
 have st4:tn 0 h₁:=T.keep _ _ _ st3 fun b _ o e=>old b o e
 have I4:=I3.blk (tk:=s3.toks+([]:List (Str × Value)).length) B f3 (fun b hb=>Nat.lt_of_lt_of_le (flt b hb) (by rw [hz3];exact Nat.le_succ _)) (show h₁.Ns s3.heap.objs.size (fun _=>none) from hns₁) old;generalize hX':u55 X N' scope s3.heap.objs.size s3 (upd H s.heap.objs.size (.lst [])) fp=X' at I4;have eX:X'.prog=X.prog /\ X'.w=X.w /\ X'.K=X.K /\ X'.A=X.A /\ X'.calm=X.calm /\ X'.env=compEnvC scope (clOf X.env scope.names []) s3.heap.objs.size X.env /\ X'.ex=fp /\ X'.outer=X.stack /\ X'.s₀=s3 /\ X'.H₀=upd H s.heap.objs.size (.lst []) /\ X'.pn=[] /\ X'.xe=(fun _ _=>False):=by
  rw [<- hX'];exact ⟨rfl,rfl,rfl,rfl,rfl,rfl,rfl,rfl,rfl,rfl,rfl,rfl⟩
 have hg':PG X' tg g:=hX' ▸ hg _ _ _ _;have hi':PIfs X' ifs tc:=hX' ▸ hi _ _ _ _;have he':PE X' elt te:=hX' ▸ he _ _ _ _;obtain ⟨e1,e2,e3,e4,e5,e6,e7,e8,e9,e10,e11,e12⟩:=eX;have stat:∀ {H':Hp},(∀ b ∈ fp,H' b=none)->∀ b ∈ fp,FpOk X' [] H' b:=fun {H'} hn b hb=>by
  have q:=I4.ok.exf b (by rw [e7];exact hb);refine ⟨hn b hb,q.1,?_,.inl (by rw [e7];exact hb),q.2,fun p hp=>?_⟩
  ·exact I4.ok.exfs b (by rw [e7];exact hb)
  ·rw [e11] at hp;simp at hp
 have loop:codeAny (model X.prog X.w) X.A (.compLoop (.ListComp elt [⟨tg,iter,ifs,0⟩] scope pos) 0 (.ref it) (.ref s.heap.objs.size) (compEnvC scope (clOf X.env scope.names []) s3.heap.objs.size X.env))
   (RR (.ref s.heap.objs.size) s3.heap.objs.size) { s3 with heap:=h₁,toks:=s3.toks+([]:List (Str × Value)).length }:=by
  refine vh7 (fun n s'=>∃ i σi Hi,Inv X' [] σi Hi s' /\ tn i s'.heap /\ (∀ b ∈ fp,Hi b=none) /\ W i n σi Hi) ?_ m0 ⟨0,_,_,I4,st4,hfr,w0⟩;rintro n s5 ⟨i,σ5,H5,I5,st5,fr5,w5⟩
  rcases turn i n σ5 H5 w5 with ⟨stop,qn⟩ | ⟨go,N,hN,step⟩
  ·have d:=T.done X' e1 e2 e3 (by rw [e5];exact hc) i [] s5 σ5 H5 (fun _ _=>False) I5 (stat fr5) st5 stop
   rw [e4] at d
   (refine thn d ?_;rintro r s6 ⟨hr,I6⟩)
   subst hr;have u:=I6.base;rw [e7,e9,e10] at u;have u:Un (frs X'.outer) fp (upd H s.heap.objs.size (.lst [])) H5 s3.heap s6.heap:=u;rw [e8] at u;have ok6:=I6.hok;rw [e1,e2] at ok6;have I7:Inv X pins σ H5 s6:=I3.call' (ch:=fp) (by have:=I6.os;rw [e9] at this;exact this) u ok6 I6.bare fun b hb=>⟨(f b hb).2.2.2.1,(f b hb).2.1,(f b hb).2.2.2.2.1,(f b hb).2.2.2.2.2⟩
   have hfree:=I6.free;obtain ⟨m,hm,_⟩:=I6.loc;rw [e6] at hfree hm;exact hRR _ H5 s6 m I7 (I3.fpOk (Nat.le_refl _) hfree) hm qn
  ·have d:=T.item X' e1 e2 e3 (by rw [e5];exact hc) i [] s5 σ5 H5 (fun _ _=>False) I5 (stat fr5) st5 go
   rw [e4] at d
   (refine thn d ?_;rintro r s6 ⟨u,hr,h6⟩)
   subst hr
   (refine thn h6 ?_;rintro _ s7 ⟨x,H7,I7,r7,y7,st7,fr7⟩)
   have I7':=I7.pinned (stat fr7) (T.obj _ _ st7);have a:=hg' _ s7 σ5 H7 x u _ I7' r7 (step x H7 y7);rw [e1,e2,e4,e6,e12] at a
   (refine thn a ?_;rintro _ s8 ⟨σ8,H8,I8,q8⟩)
   have t:=hi' _ s8 σ8 H8 _ I8 q8;rw [e1,e2,e4,e6,e12] at t;have again:∀ {σ9:St} {H9:Hp} {s9:Shared},Inv X' ([]++ue8 fp s7.heap) σ9 H9 s9->N σ9 H9->∃ m,m < n /\ ∃ i σi Hi,Inv X' [] σi Hi s9 /\ tn i s9.heap /\ (∀ b ∈ fp,Hi b=none) /\ W i m σi Hi:=fun {σ9 H9 s9} I9 n9=>by
    obtain ⟨m',hm,w9⟩:=hN σ9 H9 n9;refine ⟨m',hm,i+1,σ9,H9,I9.unpinned,T.keep _ _ _ st7 fun b hb o e=>(I9.pin (b,o) (List.mem_append_right _ (List.mem_append_right _ (u58 hb e)))).1,fun b hb=>?_,w9⟩;obtain ⟨o,e,d⟩:=T.obj _ _ st7 b hb;exact (I9.pin (b,o) (List.mem_append_right _ (List.mem_append_right _ (u58 hb e)))).2.1
   (refine thn t ?_;rintro ok s9 ⟨H9,I9,q9⟩)
   cases ok with
   | false =>
    rw [if_neg Bool.false_ne_true] at q9 ⊢;exact again I9 q9
   | true =>
    rw [if_pos rfl] at q9 ⊢;have v:=he' _ s9 σ8 H9 _ I9 q9;rw [e1,e2,e4,e6,e12] at v
    (refine thn v ?_;rintro y s10 ⟨z,H10,I10,r10,ys,hD,hz,q10⟩)
    have ap:=uf0 _ s10 σ8 H10 (.ref s.heap.objs.size) [z] (.ref s.heap.objs.size) [y] (fun _ H'=>N σ8 H') I10 rfl (.cons r10 .nil) ⟨_,ys,z,rfl,rfl,hD,hz,q10⟩;rw [e1,e2,e4,e12] at ap
    (refine thn ap ?_;rintro _ s11 ⟨_,H11,I11,_,q11⟩;exact again I11 q11)
 exact codeAny_compStart_list loop (T.self _ _ _ _ _ st4 loop)
variable {elt tg iter:Expr} {ifs:List Expr} {scope:Scope} {pos:Pos} {N':List Str} {ix:List (Option Nat)} {wi:TI} {g:TG} {tc:TT} {te:TE}
theorem vf2 (B:BlkOk X N' ix scope) (hc:X.calm=true) (hw:PI X tg iter wi)
  (hg:∀ C s H fp,PG (u55 X N' scope C s H fp) tg g) (hi:∀ C s H fp,PIfs (u55 X N' scope C s H fp) ifs tc) (he:∀ C s H fp,PE (u55 X N' scope C s H fp) elt te)
  (hs:∀ x,foldedSetIterable iter X.env x=pure x:=by intro _;rfl) :
  PE X (.ListComp elt [⟨tg,iter,ifs,0⟩] scope pos) (vo7 ix wi g tc te):=by
 intro pins s σ H Q I h;rw [eval_ListComp];refine wpAny_comprehension_free (use:=none) rfl hs (uo4 fun y hy e=>I.ok.has y.1 (B.frees y hy e)) B.kind B.names ?_;refine thn (hw pins s σ H _ I h) fun v s1 h1=>thn h1 fun itv s2 h2=>?_
 obtain ⟨it,fp,tn,J,H2,e,I2,T,st2,f2,q2⟩:=h2;subst e;refine vk8 B hg hi he hc I2 T st2 f2 (Q:=Q) (q2 _ I2.fresh) fun C H' s' m I' fC hm q=>?_
 refine ⟨m,hm,fun h' sb=>⟨.ref s2.heap.objs.size,H',?_,rfl,q⟩⟩;exact I'.turned (t':=s'.toks) (it:=C) (fun b o hb e=>sb.extBut b o hb e) fC.1 fC.2.1 fC.2.2.2.1 fC.2.2.2.2.1 fC.2.2.2.2.2
end
section
variable {X:Cx} {pos:Pos}
def gLst (K:PySem.W.Frag) (n:Nat) (t:TGs):TG:=fun v σ H Q=>∃ a xs,v=.ref a /\ SqL K H a xs /\ xs.length=n /\ t xs σ H Q
theorem ve8 {es:List Expr} {k:Nat} {t:TGs} {n:Nat} (hc:X.calm=true) (h:PGs X es t)
  (hn:(assignEach es X.env).length=n:=by rfl) (hst:(assignEach es X.env).findIdx? (·.1)=none:=by rfl):PG X (.Tuple es k pos) (gLst X.K n t):=by
 intro pins s σ H v u Q I r hw;obtain ⟨a,xs,e1,hq,hl,hw⟩:=hw;subst e1;cases r;obtain ⟨its,rv,ht,hz⟩:=I.list hq;rw [PyProof.Rows.assign_Tuple];refine wpAny_bind (wpAny_standAt ?_);unfold unpack;have hsz:(assignEach es X.env).length=its.toArray.size:=by simp [hn,<- hl,rv.length]
 rw [hsz,hst];refine wpAny_bind (wpAny_holding (PySem.W.kun_itemsOf (I.ok.hd hc) ht.isList fun h' hx=>?_));have I1:Inv X pins σ H { s with heap:=h' }:=I.kept (t':=s.toks) fun b o e=>hx b o (Nat.ne_of_lt (Heap.lt_size e)) e
 exact h pins _ σ H xs _ Q I1 (by simpa using rv) hw
theorem vz8 {tg:Expr} {t t':TG} (h:PG X tg t) (h':PG X tg t'):PG X tg (fun v σ H Q=>t v σ H Q \/ t' v σ H Q):=by
 intro pins s σ H v u Q I r q
 rcases q with q | q
 ·exact h pins s σ H v u Q I r q
 ·exact h' pins s σ H v u Q I r q
def iSeq (K:PySem.W.Frag) (tl:TE):TI:=fun σ H R=>tl σ H fun x H1=>∃ a,x=.ref a /\ (((∃ xs,SqL K H1 a xs) /\ R (Itl K a) H1) \/ ((∃ xs,SqT K H1 a xs) /\ R (Itt K a) H1))
theorem vq5 {tg l:Expr} {tl:TE} (hl:PE X l tl):PI X tg l (iSeq X.K tl):=by
 intro pins s σ H R I h
 (refine thn (hl pins s σ H _ I h) ?_;rintro v s1 ⟨x,H1,I1,r1,q1⟩)
 obtain ⟨a,e,⟨⟨xs,hq⟩,q⟩ | ⟨⟨xs,hq⟩,q⟩⟩:=q1
 ·subst e
  cases r1;obtain ⟨its,rv,p,hz⟩:=I1.list hq;refine wpAny_pyIter_list p.isList ?_;refine ⟨s1.heap.objs.size,[s1.heap.objs.size],_,_,H1,rfl,I1.kept (t':=s1.toks) fun b o e=>Heap.get?_push_of_some _ e,up9 a _,⟨_,Heap.get?_push_size _ rfl,rfl,rfl⟩,fun b hb=>?_,q⟩;have e:b=s1.heap.objs.size:=by simpa using hb
  subst e;exact I1.fpOk (Nat.le_refl _) (I1.hok.fresh (Nat.le_refl _))
 ·subst e
  cases r1;obtain ⟨its,rv,p,hz⟩:=I1.tuple hq;refine wpAny_pyIter_tuple (show s1.heap.IsTuple a its.toArray from p) ?_;refine ⟨s1.heap.objs.size,[s1.heap.objs.size],_,_,H1,rfl,I1.kept (t':=s1.toks) fun b o e=>Heap.get?_push_of_some _ e,un0 a _,⟨_,Heap.get?_push_size _ rfl,rfl,rfl⟩,fun b hb=>?_,q⟩;have e:b=s1.heap.objs.size:=by simpa using hb
  subst e;exact I1.fpOk (Nat.le_refl _) (I1.hok.fresh (Nat.le_refl _))
theorem vs1:OpR X (compareOp .Is) (fun x y H Q=>∃ b,y=.bl b /\ Q (.bl (decide (x=.bl b))) H):=by
 intro pins s σ H x y v u Q I rx ry h;obtain ⟨b,rfl,q⟩:=h;cases ry;refine wpAny_is_plain ?_ (u09 I q ?_)
 ·cases x <;> first
   | (cases rx;rfl)
   | (obtain ⟨t,rfl⟩:=rx;rfl)
 ·cases x <;> first
   | (obtain ⟨t,rfl⟩:=rx;rfl)
   | (cases rx;cases b <;> rfl)
   | (cases rx;rename_i c;cases b <;> cases c <;> rfl)
theorem ua1:∀ {bs:List Bool} {us:List Value},Vals (bs.map V.bl) us->us=bs.map Value.bool
 | [],_,.nil=>rfl
 | b::bs,_,.cons r t=>by cases r;rw [ua1 t];rfl
theorem v59 (hc:X.calm=true):CallR X (.builtin "all") (fun xs H Q=>∃ (p:Addr) (bs:List Bool),xs=[.ref p] /\ SqL X.K H p (bs.map V.bl) /\ Q (.bl (bs.all id)) H):=by
 intro pins s σ H xs us Q I r h;obtain ⟨p,bs,rfl,hq,q⟩:=h;obtain ⟨u,rfl,rx⟩:=vals1 r;cases rx;obtain ⟨its,r',pl,hz⟩:=I.list hq;have e:=ua1 r';subst e;have hl:=pl.isList;have hlt:p < s.heap.objs.size:=by obtain ⟨_,e,_⟩:=hl;exact Heap.lt_size e
 refine call_all_walk (wpAny_pyIter_list hl ?_);refine ⟨s.heap.objs.size,[s.heap.objs.size,p],[s.heap.objs.size],(bs.map Value.bool).toArray.size,_,_,fun i=>(bs[i]?).getD true,rfl,Walks.list (A:=X.A.in1) (I.ok.hd hc) _ p (Nat.ne_of_lt hlt) (bs.map Value.bool).toArray,
  ⟨⟨_,Heap.get?_push_size _ rfl,rfl,rfl⟩,hl.push _⟩,fun i v s' Q' E' hP hQ=>?_,fun h' tk hk=>?_⟩
 ·have hP:(bs.map Value.bool)[i]?=some v:=by simpa using hP
  rw [List.getElem?_map] at hP;cases hb:bs[i]? with
  | none=>rw [hb] at hP;cases hP
  | some b =>
   rw [hb] at hP;cases hP;simp only [hb,Option.getD_some] at hQ;exact wpAny_truthy_bool hQ
 ·have e:((List.range (bs.map Value.bool).toArray.size).all fun i=>(bs[i]?).getD true)=bs.all id:=by
   rw [List.size_toArray,List.length_map,Bool.eq_iff_iff,List.all_eq_true,List.all_eq_true]
   constructor
   ·intro h b hb
    obtain ⟨i,hi,e⟩:=List.mem_iff_getElem.mp hb;have:=h i (List.mem_range.mpr hi);rw [List.getElem?_eq_getElem hi,e] at this;exact this
   ·intro h i hi
    have hi:=List.mem_range.mp hi;rw [List.getElem?_eq_getElem hi];exact h _ (List.getElem_mem hi)
  rw [e];refine ⟨.bl _,H,?_,rfl,q⟩;exact I.kept fun b x e=>hk b x (fun hm=>by rw [List.mem_singleton.mp hm] at e;exact Nat.lt_irrefl _ (Heap.lt_size e)) (Heap.get?_push_of_some _ e)
def vi0 (K:PySem.W.Frag) (H:Hp):V->String->Prop
 | .non,n=>n = "NoneType"
 | .bl _,n=>n = "bool"
 | .int _,n=>n = "int"
 | .str _,n=>n = "str"
 | .ref a,n=>(n = "list" /\ ((∃ xs,H a=some (.lst xs)) \/ ∃ o xs,H a=some (.frz o (.lst xs)))) \/ (n = "tuple" /\ ∃ xs,H a=some (.tup xs)) \/ (n = "dict" /\ ∃ xs,H a=some (.dK xs))
 | _,_=>False
def subK (n T:String):Bool:=n == T || (n == "bool" && T == "int")
theorem u53 {K:PySem.W.Frag} {n T:String} (hn:n = "NoneType" \/ n = "bool" \/ n = "int" \/ n = "str" \/ n = "list" \/ n = "tuple" \/ n = "dict") (hT:T = "int" \/ T = "str" \/ T = "bool" \/ T = "list" \/ T = "tuple" \/ T = "dict"):PySem.W.kitOne K (.type n) (.type T)=some (subK n T):=by
 rcases hn with rfl | rfl | rfl | rfl | rfl | rfl | rfl <;> rcases hT with rfl | rfl | rfl | rfl | rfl | rfl <;> rfl
theorem ui8:CallR X (.builtin "isinstance") (fun xs H Q=>∃ x n T,xs=[x,.ty T] /\ vi0 X.K H x n /\ (T = "int" \/ T = "str" \/ T = "bool" \/ T = "list" \/ T = "tuple" \/ T = "dict") /\ Q (.bl (subK n T)) H):=by
 intro pins s σ H xs us Q I r h;obtain ⟨x,n,T,rfl,hk,hT,q⟩:=h;obtain ⟨u,w,rfl,rx,rt⟩:=vals2 r;cases rt;have fin:∀ tk,EP X pins σ Q (.bool (subK n T)) { s with toks:=tk }:=fun tk=>⟨.bl (subK n T),H,I.tok tk,rfl,q⟩
 cases x with
 | non=>cases (show n = "NoneType" from hk);exact u27 I rx .non (u53 (by simp) hT) fin
 | bl b=>cases (show n = "bool" from hk);exact u27 I rx (.bl b) (u53 (by simp) hT) fin
 | int i=>cases (show n = "int" from hk);exact u27 I rx (.int i) (u53 (by simp) hT) fin
 | str i=>cases (show n = "str" from hk);exact u27 I rx (.str i) (u53 (by simp) hT) fin
 | ref a =>
  rcases (show (n = "list" /\ ((∃ xs,H a=some (.lst xs)) \/ ∃ o xs,H a=some (.frz o (.lst xs)))) \/ (n = "tuple" /\ ∃ xs,H a=some (.tup xs)) \/ (n = "dict" /\ ∃ xs,H a=some (.dK xs)) from hk) with ⟨e,⟨xs,h1⟩ | ⟨o,xs,h1⟩⟩ | ⟨e,xs,h1⟩ | ⟨e,xs,h1⟩
  ·cases e;exact u27 I rx (.lst h1) (u53 (by simp) hT) fin
  ·cases e;exact u27 I rx (.frz h1) (u53 (by simp) hT) fin
  ·cases e;exact u27 I rx (.tup h1) (u53 (by simp) hT) fin
  ·cases e;exact u27 I rx (.dK h1) (u53 (by simp) hT) fin
 | _=>exact (show False from hk).elim
end
end L2
namespace L2
open PySem
def XH (a C:Addr) (dx:Option Addr) (h:Heap):Prop:=∃ o vs,h.get? a=some o /\ o.cls=.ref C /\ o.dict=dx /\ o.data=.fields vs
def XDict (H:Hp):Option Addr->List (Str × V)->Prop
 | none,ys=>ys=[]
 | some d,ys=>∃ o,H d=some (.frz o (.xd ys))
end L2
namespace L3
open PySem L2
set_option maxHeartbeats 4000000
inductive D where
 | non | bl (b:Bool) | int (i:Int) | str (x:Str) | tup (xs:List D) | ref (a:Addr) | ty (n:String)
inductive DO where
 | lst (xs:List D) | fro (xs:List D) | dic (kvs:List (Key × D)) | dit (kvs:List (List Key × D)) | ins (C:Addr) (fs:List (Str × D)) | exc (C:Addr) (fs:List (Str × D)) | frd (kvs:List (Key × D))
abbrev Gp:=Addr->Option DO
def gup (G:Gp) (a:Addr) (o:DO):Gp:=fun b=>if b=a then some o else G b
theorem u02 {G:Gp} {a:Addr} {o:DO}:gup G a o a=some o:=by unfold gup;rw [if_pos rfl]
theorem u06 {G:Gp} {a b:Addr} {o:DO} (h:b ≠ a):gup G a o b=G b:=by unfold gup;rw [if_neg h]
theorem u42 {G:Gp} {a:Addr} {o u:DO}:gup (gup G a o) a u=gup G a u:=by
 funext b;unfold gup;split <;> rfl
theorem gne {G:Gp} {a b:Addr} {o:DO} (h:G a=some o) (h':G b=none):a ≠ b:=by
 intro e;subst e;rw [h] at h';cases h'
structure Le (H H':Hp):Prop where
 tups:∀ b xs,H b=some (.tup xs)->H' b=some (.tup xs)
 frzs:∀ b o u,H b=some (.frz o u)->H' b=some (.frz o u)
theorem Le.refl (H:Hp):Le H H:=⟨fun _ _ h=>h,fun _ _ _ h=>h⟩
theorem Le.trans {H H1 H2:Hp} (a:Le H H1) (b:Le H1 H2):Le H H2:=⟨fun c xs h=>b.tups c xs (a.tups c xs h),fun c o u h=>b.frzs c o u (a.frzs c o u h)⟩
theorem Le.sqT {K:PySem.W.Frag} {H H':Hp} (l:Le H H') {a:Addr} {xs:List V} (h:SqT K H a xs):SqT K H' a xs:=by
 rcases h with (h | ⟨o,h⟩) | h
 ·exact .inl (.inl (l.tups _ _ h))
 ·exact .inl (.inr ⟨o,l.frzs _ _ _ h⟩)
 ·exact .inr h
theorem Le.fresh {H:Hp} {p:Addr} {o:HO} (h:H p=none):Le H (upd H p o) :=
 ⟨fun b xs q=>by rw [u05 (u21 q h)];exact q,fun b o u q=>by rw [u05 (u21 q h)];exact q⟩
mutual
def RelD (K:PySem.W.Frag) (H:Hp):D->V->Prop
 | .non,v=>v=.non
 | .bl b,v=>v=.bl b
 | .int i,v=>v=.int i
 | .str x,v=>v=.str x
 | .ref a,v=>v=.ref a
 | .ty n,v=>v=.ty n
 | .tup ds,v=>∃ a xs,v=.ref a /\ SqT K H a xs /\ RelDs K H ds xs
def RelDs (K:PySem.W.Frag) (H:Hp):List D->List V->Prop
 | [],xs=>xs=[]
 | d::ds,xs=>∃ x r,xs=x::r /\ RelD K H d x /\ RelDs K H ds r
end
section
variable {K:PySem.W.Frag} {H H':Hp}
mutual
theorem RelD.le (l:Le H H'):∀ {d:D} {v:V},RelD K H d v->RelD K H' d v
 | .non,_,h=>by simpa [RelD] using h
 | .bl _,_,h=>by simpa [RelD] using h
 | .int _,_,h=>by simpa [RelD] using h
 | .str _,_,h=>by simpa [RelD] using h
 | .ref _,_,h=>by simpa [RelD] using h
 | .ty _,_,h=>by simpa [RelD] using h
 | .tup ds,_,h=>by
  rw [RelD] at h ⊢;obtain ⟨a,xs,e,s,r⟩:=h;exact ⟨a,xs,e,l.sqT s,RelDs.le l r⟩
theorem RelDs.le (l:Le H H'):∀ {ds:List D} {xs:List V},RelDs K H ds xs->RelDs K H' ds xs
 | [],_,h=>by simpa [RelDs] using h
 | d::ds,_,h=>by
  rw [RelDs] at h ⊢;obtain ⟨x,r,e,h1,h2⟩:=h;exact ⟨x,r,e,RelD.le l h1,RelDs.le l h2⟩
end
theorem RelDs.nil:RelDs K H [] []:=by rw [RelDs]
theorem RelDs.cons {d:D} {ds:List D} {x:V} {xs:List V} (h:RelD K H d x) (t:RelDs K H ds xs):RelDs K H (d::ds) (x::xs):=by
 rw [RelDs];exact ⟨x,xs,rfl,h,t⟩
theorem RelDs.inv_nil {xs:List V} (h:RelDs K H [] xs):xs=[]:=by rw [RelDs] at h;exact h
theorem RelDs.inv_cons {d:D} {ds:List D} {xs:List V} (h:RelDs K H (d::ds) xs):∃ x r,xs=x::r /\ RelD K H d x /\ RelDs K H ds r:=by rw [RelDs] at h;exact h
theorem RelDs.length:∀ {ds:List D} {xs:List V},RelDs K H ds xs->ds.length=xs.length
 | [],_,h=>by rw [h.inv_nil];rfl
 | _::_,_,h=>by obtain ⟨x,r,e,_,t⟩:=h.inv_cons;rw [e,List.length_cons,List.length_cons,t.length]
theorem RelDs.get:∀ {ds:List D} {xs:List V} {i:Nat} {d:D},RelDs K H ds xs->ds[i]?=some d->∃ x,xs[i]?=some x /\ RelD K H d x
 | [],_,_,_,_,e=>by simp at e
 | _::_,_,0,_,h,e=>by
  obtain ⟨x,r,rfl,h1,t⟩:=h.inv_cons;simp at e;subst e;exact ⟨x,rfl,h1⟩
 | _::_,_,i+1,d,h,e=>by
  obtain ⟨x,r,rfl,h1,t⟩:=h.inv_cons;obtain ⟨y,h2,h3⟩:=RelDs.get (i:=i) t (by simpa using e);exact ⟨y,by simpa using h2,h3⟩
theorem RelDs.of:∀ {ds:List D} {xs:List V},ds.length=xs.length->(∀ (i:Nat) d x,ds[i]?=some d->xs[i]?=some x->RelD K H d x)->RelDs K H ds xs
 | [],[],_,_=>.nil
 | [],_::_,h,_=>by simp at h
 | _::_,[],h,_=>by simp at h
 | d::ds,x::xs,h,f=>.cons (f 0 d x rfl rfl) (RelDs.of (by simpa using h) fun i d x a b=>f (i+1) d x (by simpa using a) (by simpa using b))
theorem RelDs.append:∀ {ds es:List D} {xs ys:List V},RelDs K H ds xs->RelDs K H es ys->RelDs K H (ds++es) (xs++ys)
 | [],_,_,_,h,t=>by rw [h.inv_nil];exact t
 | _::_,_,_,_,h,t=>by
  obtain ⟨x,r,rfl,h1,h2⟩:=h.inv_cons;exact .cons h1 (h2.append t)
theorem RelDs.set {d:D} {x:V} (q:RelD K H d x):∀ {ds:List D} {xs:List V} (i:Nat),RelDs K H ds xs->RelDs K H (ds.set i d) (xs.set i x)
 | [],_,_,h=>by rw [h.inv_nil];exact .nil
 | _::_,_,0,h=>by
  obtain ⟨x,r,rfl,h1,h2⟩:=h.inv_cons;exact .cons q h2
 | _::_,_,i+1,h=>by
  obtain ⟨x,r,rfl,h1,h2⟩:=h.inv_cons;exact .cons h1 (h2.set q i)
theorem RelDs.take:∀ {ds:List D} {xs:List V} (n:Nat),RelDs K H ds xs->RelDs K H (ds.take n) (xs.take n)
 | _,_,0,_=>by simpa using RelDs.nil
 | [],_,_+1,h=>by rw [h.inv_nil];exact .nil
 | _::_,_,n+1,h=>by
  obtain ⟨x,r,rfl,h1,h2⟩:=h.inv_cons;exact .cons h1 (h2.take n)
theorem RelDs.drop:∀ {ds:List D} {xs:List V} (n:Nat),RelDs K H ds xs->RelDs K H (ds.drop n) (xs.drop n)
 | _,_,0,h=>by simpa using h
 | [],_,_+1,h=>by rw [h.inv_nil];exact .nil
 | _::_,_,n+1,h=>by
  obtain ⟨x,r,rfl,h1,h2⟩:=h.inv_cons;exact h2.drop n
theorem RelDs.reverse:∀ {ds:List D} {xs:List V},RelDs K H ds xs->RelDs K H ds.reverse xs.reverse
 | [],_,h=>by rw [h.inv_nil];exact .nil
 | _::_,_,h=>by
  obtain ⟨x,r,rfl,h1,h2⟩:=h.inv_cons;rw [List.reverse_cons,List.reverse_cons];exact h2.reverse.append (.cons h1 .nil)
theorem RelDs.rep {ds:List D} {xs:List V} (h:RelDs K H ds xs):∀ k:Nat,RelDs K H (List.replicate k ds).flatten (List.replicate k xs).flatten
 | 0=>.nil
 | k+1=>by rw [List.replicate_succ,List.replicate_succ,List.flatten_cons,List.flatten_cons];exact h.append (h.rep k)
def RelPs {κ:Type} (K:PySem.W.Frag) (H:Hp) (ps:List (κ × D)) (qs:List (κ × V)):Prop:=ps.map (·.1)=qs.map (·.1) /\ RelDs K H (ps.map (·.2)) (qs.map (·.2))
theorem RelPs.le {κ:Type} (l:Le H H') {ps:List (κ × D)} {qs:List (κ × V)} (h:RelPs K H ps qs):RelPs K H' ps qs:=⟨h.1,RelDs.le l h.2⟩
end
def ObjD (K:PySem.W.Frag) (H:Hp) (a:Addr):DO->Prop
 | .lst ds=>∃ xs,H a=some (.lst xs) /\ RelDs K H ds xs
 | .fro ds=>∃ o xs,H a=some (.frz o (.lst xs)) /\ RelDs K H ds xs
 | .dic kvs=>∃ ys,H a=some (.dK ys) /\ RelPs K H kvs ys
 | .dit kvs=>∃ ys,H a=some (.dT ys) /\ RelPs K H kvs ys
 | .ins C fs=>∃ dx ys,H a=some (.ins C dx ys) /\ RelPs K H fs ys
 | .exc C fs=>∃ dx ys,H a=some (.ext (XH a C dx)) /\ XDict H dx ys /\ RelPs K H fs ys
 | .frd kvs=>∃ o ys,H a=some (.frz o (.dK ys)) /\ RelPs K H kvs ys
theorem _root_.L2.XDict.le {H H':Hp} (l:Le H H') {dx:Option Addr} {ys:List (Str × V)} (h:XDict H dx ys):XDict H' dx ys:=by
 cases dx with
 | none=>exact h
 | some d=>obtain ⟨o,e⟩:=h;exact ⟨o,l.frzs _ _ _ e⟩
def Con (K:PySem.W.Frag) (G:Gp) (H:Hp):Prop:=∀ a o,G a=some o->ObjD K H a o
section
variable {K:PySem.W.Frag} {G:Gp} {H H':Hp} {a p:Addr} {o:DO}
theorem ObjD.some (h:ObjD K H a o):∃ u,H a=some u:=by
 cases o with
 | lst ds=>obtain ⟨xs,e,_⟩:=h;exact ⟨_,e⟩
 | fro ds=>obtain ⟨_,xs,e,_⟩:=h;exact ⟨_,e⟩
 | dic ds=>obtain ⟨xs,e,_⟩:=h;exact ⟨_,e⟩
 | dit ds=>obtain ⟨xs,e,_⟩:=h;exact ⟨_,e⟩
 | ins C ds=>obtain ⟨_,xs,e,_⟩:=h;exact ⟨_,e⟩
 | exc C ds=>obtain ⟨_,xs,e,_⟩:=h;exact ⟨_,e⟩
 | frd ds=>obtain ⟨_,xs,e,_⟩:=h;exact ⟨_,e⟩
theorem ObjD.stay (h:ObjD K H a o) (l:Le H H') (e:H' a=H a):ObjD K H' a o:=by
 cases o with
 | lst ds=>obtain ⟨xs,q,r⟩:=h;exact ⟨xs,e.trans q,RelDs.le l r⟩
 | fro ds=>obtain ⟨o,xs,q,r⟩:=h;exact ⟨o,xs,e.trans q,RelDs.le l r⟩
 | dic ds=>obtain ⟨xs,q,r⟩:=h;exact ⟨xs,e.trans q,r.le l⟩
 | dit ds=>obtain ⟨xs,q,r⟩:=h;exact ⟨xs,e.trans q,r.le l⟩
 | ins C ds=>obtain ⟨dx,xs,q,r⟩:=h;exact ⟨dx,xs,e.trans q,r.le l⟩
 | exc C ds=>obtain ⟨dx,xs,q,z,r⟩:=h;exact ⟨dx,xs,e.trans q,z.le l,r.le l⟩
 | frd ds=>obtain ⟨o,xs,q,r⟩:=h;exact ⟨o,xs,e.trans q,r.le l⟩
theorem Con.fresh (c:Con K G H) (h:H p=none):G p=none:=by
 cases e:G p with
 | none=>rfl
 | some o=>obtain ⟨u,q⟩:=(c p o e).some;rw [h] at q;cases q
theorem Con.stay (c:Con K G H) (l:Le H H') (e:∀ a o,G a=some o->H' a=H a):Con K G H':=fun a o q=>(c a o q).stay l (e a o q)
theorem Con.side {u:HO} (c:Con K G H) (h:H p=none):Con K G (upd H p u):=c.stay (Le.fresh h) fun a o q=>by
 obtain ⟨u,e⟩:=(c a o q).some;exact u05 (u21 e h)
theorem Con.put {u:HO} (c:Con K G H) (l:Le H (upd H p u)) (n:ObjD K (upd H p u) p o):Con K (gup G p o) (upd H p u):=fun b q e=>by
 by_cases hb:b=p
 ·subst hb;rw [u02] at e;cases e;exact n
 ·rw [u06 hb] at e
  exact (c b q e).stay l (u05 hb)
theorem Le.lst {xs ys:List V} (h:H p=some (.lst xs)):Le H (upd H p (.lst ys)) :=
  ⟨fun b zs q => by by_cases e : b = p
                    · subst e;rw [h] at q;cases q
                    · rw [u05 e];exact q,
   fun b o u q => by by_cases e : b = p
                     · subst e;rw [h] at q;cases q
                     · rw [u05 e];exact q⟩
theorem Le.dK {xs ys:List (Key × V)} (h:H p=some (.dK xs)):Le H (upd H p (.dK ys)) :=
  ⟨fun b zs q => by by_cases e : b = p
                    · subst e;rw [h] at q;cases q
                    · rw [u05 e];exact q,
   fun b o u q => by by_cases e : b = p
                     · subst e;rw [h] at q;cases q
                     · rw [u05 e];exact q⟩
theorem Le.ins {C dx C' dx':Addr} {xs ys:List (Str × V)} (h:H p=some (.ins C dx xs)):Le H (upd H p (.ins C' dx' ys)) :=
  ⟨fun b zs q => by by_cases e : b = p
                    · subst e;rw [h] at q;cases q
                    · rw [u05 e];exact q,
   fun b o u q => by by_cases e : b = p
                     · subst e;rw [h] at q;cases q
                     · rw [u05 e];exact q⟩
theorem Con.lstNew {ds:List D} {xs:List V} (c:Con K G H) (h:H p=none) (r:RelDs K H ds xs):Con K (gup G p (.lst ds)) (upd H p (.lst xs)) :=
 c.put (Le.fresh h) ⟨xs,u12,RelDs.le (Le.fresh h) r⟩
theorem Con.lstSet {ds:List D} {xs ys:List V} (c:Con K G H) (h:H p=some (.lst ys)) (r:RelDs K H ds xs):Con K (gup G p (.lst ds)) (upd H p (.lst xs)) :=
 c.put (Le.lst h) ⟨xs,u12,RelDs.le (Le.lst h) r⟩
end
abbrev DSt:=List (Option D)
def RelSt (K:PySem.W.Frag) (H:Hp) (σd:DSt) (σ:St):Prop:=σd.length=σ.length /\ ∀ (i:Nat) d,σd[i]?=some (some d)->∃ v,σ[i]?=some (some v) /\ RelD K H d v
theorem RelSt.le {K:PySem.W.Frag} {H H':Hp} {σd:DSt} {σ:St} (h:RelSt K H σd σ) (l:Le H H'):RelSt K H' σd σ :=
 ⟨h.1,fun i d e=>let ⟨v,a,b⟩:=h.2 i d e;⟨v,a,RelD.le l b⟩⟩
theorem RelSt.set {K:PySem.W.Frag} {H:Hp} {σd:DSt} {σ:St} {d:D} {v:V} (h:RelSt K H σd σ) (i:Nat) (r:RelD K H d v):RelSt K H (σd.set i (some d)) (σ.set i (some v)):=by
 refine ⟨by rw [List.length_set,List.length_set];exact h.1,fun j e q=>?_⟩;rw [List.getElem?_set] at q;split at q
 ·rename_i hij;subst hij
  split at q
  ·rename_i hl;cases q
   exact ⟨v,by rw [List.getElem?_set_self (by rw [<- h.1];exact hl)],r⟩
  ·cases q
 ·rename_i hij
  obtain ⟨w,a,b⟩:=h.2 j e q;exact ⟨w,by rw [List.getElem?_set_ne hij];exact a,b⟩
abbrev DK:=D->Gp->Prop
abbrev TE3:=DSt->Gp->DK->Prop
abbrev TT3:=DSt->Gp->(Bool->Gp->Prop)->Prop
abbrev TA3:=DSt->Gp->(List D->Gp->Prop)->Prop
structure Ends3 where
 nx:DSt->Gp->Prop
 rt:DK
 bk:DSt->Gp->Prop:=fun _ _=>False
 ct:DSt->Gp->Prop:=fun _ _=>False
abbrev TS3:=Ends3->DSt->Gp->Prop
def FutE (K:PySem.W.Frag) (H:Hp) (q:DK) (Q:VK):Prop:=∀ d G' v H',RelD K H' d v->Con K G' H'->Le H H'->q d G'->Q v H'
def FutT (K:PySem.W.Frag) (H:Hp) (q:Bool->Gp->Prop) (Q:Bool->Hp->Prop):Prop:=∀ b G' H',Con K G' H'->Le H H'->q b G'->Q b H'
def FutA (K:PySem.W.Frag) (H:Hp) (q:List D->Gp->Prop) (Q:List V->Hp->Prop):Prop:=∀ ds G' vs H',RelDs K H' ds vs->Con K G' H'->Le H H'->q ds G'->Q vs H'
def FutS (K:PySem.W.Frag) (H:Hp) (q:DSt->Gp->Prop) (Q:St->Hp->Prop):Prop:=∀ σd G' σ H',RelSt K H' σd σ->Con K G' H'->Le H H'->q σd G'->Q σ H'
theorem FutE.le {K:PySem.W.Frag} {H H1:Hp} {q:DK} {Q:VK} (f:FutE K H q Q) (l:Le H H1):FutE K H1 q Q:=fun d G v H' r c l'=>f d G v H' r c (l.trans l')
theorem FutS.le {K:PySem.W.Frag} {H H1:Hp} {q:DSt->Gp->Prop} {Q:St->Hp->Prop} (f:FutS K H q Q) (l:Le H H1):FutS K H1 q Q:=fun d G v H' r c l'=>f d G v H' r c (l.trans l')
structure FutD (K:PySem.W.Frag) (H:Hp) (d:Ends3) (D:Ends):Prop where
 nx:FutS K H d.nx D.nx
 rt:FutE K H d.rt D.rt
 bk:FutS K H d.bk D.bk
 ct:FutS K H d.ct D.ct
theorem FutD.le {K:PySem.W.Frag} {H H1:Hp} {d:Ends3} {D:Ends} (f:FutD K H d D) (l:Le H H1):FutD K H1 d D:=⟨f.nx.le l,f.rt.le l,f.bk.le l,f.ct.le l⟩
def lowE (K:PySem.W.Frag) (t:TE3):TE:=fun σ H Q=>∃ σd G q,RelSt K H σd σ /\ Con K G H /\ t σd G q /\ FutE K H q Q
def lowT (K:PySem.W.Frag) (t:TT3):TT:=fun σ H Q=>∃ σd G q,RelSt K H σd σ /\ Con K G H /\ t σd G q /\ FutT K H q Q
def lowA (K:PySem.W.Frag) (t:TA3):TA:=fun σ H Q=>∃ σd G q,RelSt K H σd σ /\ Con K G H /\ t σd G q /\ FutA K H q Q
def lowS (K:PySem.W.Frag) (t:TS3):TS:=fun D σ H=>∃ σd G d,RelSt K H σd σ /\ Con K G H /\ t d σd G /\ FutD K H d D
abbrev R3:=D->D->Gp->DK->Prop
def lowR (K:PySem.W.Frag) (r:R3):R2:=fun x y H Q=>∃ d e G q,RelD K H d x /\ RelD K H e y /\ Con K G H /\ r d e G q /\ FutE K H q Q
abbrev U3:=D->Gp->DK->Prop
def lowU (K:PySem.W.Frag) (r:U3):V->Hp->VK->Prop:=fun x H Q=>∃ d G q,RelD K H d x /\ Con K G H /\ r d G q /\ FutE K H q Q
abbrev C3:=List D->Gp->DK->Prop
def lowC (K:PySem.W.Frag) (r:C3):List V->Hp->VK->Prop:=fun xs H Q=>∃ ds G q,RelDs K H ds xs /\ Con K G H /\ r ds G q /\ FutE K H q Q
def dVar (i:Nat):TE3:=fun σ G q=>match σ[i]? with | some (some d)=>q d G | _=>False
def dC (d:D):TE3:=fun _ G q=>q d G
def dOp (r:R3) (ta tb:TE3):TE3:=fun σ G q=>ta σ G fun x G1=>tb σ G1 fun y G2=>r x y G2 q
def dUn (r:U3) (ta:TE3):TE3:=fun σ G q=>ta σ G fun x G1=>r x G1 q
def dNil:TA3:=fun _ G q=>q [] G
def uy0 (ta:TE3) (tr:TA3):TA3:=fun σ G q=>ta σ G fun x G1=>tr σ G1 fun xs G2=>q (x::xs) G2
def dTup (t:TA3):TE3:=fun σ G q=>t σ G fun xs G1=>xs.length<=sizeLine /\ q (.tup xs) G1
def dLst (t:TA3):TE3:=fun σ G q=>t σ G fun xs G1=>xs.length<=sizeLine /\ ∀ p,G1 p=none->q (.ref p) (gup G1 p (.lst xs))
def dB (t:TE3):TT3:=fun σ G q=>t σ G fun x G1=>match x with | .bl c=>q c G1 | _=>False
def dAnd (t u:TT3):TT3:=fun σ G q=>t σ G fun c G1=>if c=true then u σ G1 q else q false G1
def dOr (t u:TT3):TT3:=fun σ G q=>t σ G fun c G1=>if c=true then q true G1 else u σ G1 q
def dNot (t:TT3):TT3:=fun σ G q=>t σ G fun c G1=>q (!c) G1
def vk5 (ta tb:TE3):TE3:=fun σ G q=>ta σ G fun x G1=>match x with | .bl c=>if c=true then tb σ G1 q else q (.bl false) G1 | _=>False
def dOrV (ta tb:TE3):TE3:=fun σ G q=>ta σ G fun x G1=>match x with | .bl c=>if c=true then q (.bl true) G1 else tb σ G1 q | _=>False
def vk2 (ta:TE3):TE3:=fun σ G q=>ta σ G fun x G1=>match x with | .bl c=>q (.bl (!c)) G1 | _=>False
def dIf (t:TT3) (ta tb:TE3):TE3:=fun σ G q=>t σ G fun c G1=>if c=true then ta σ G1 q else tb σ G1 q
section
variable {K:PySem.W.Frag} {σ:St} {H:Hp} {Q:VK}
theorem vg6 {i:Nat} (h:lowE K (dVar i) σ H Q):tVar i σ H Q:=by
 obtain ⟨σd,G,q,rs,c,t,f⟩:=h;unfold dVar at t;split at t
 ·rename_i d e
  obtain ⟨v,hv,r⟩:=rs.2 i d e;exact ⟨v,hv,f d G v H r c (Le.refl H) t⟩
 ·exact t.elim
theorem uh8 {d:D} {v:V} (r:∀ H,RelD K H d v) (h:lowE K (dC d) σ H Q):tC v σ H Q:=by
 obtain ⟨σd,G,q,rs,c,t,f⟩:=h;exact f d G v H (r H) c (Le.refl H) t
theorem ul3 {r:R3} {ta tb:TE3} (h:lowE K (dOp r ta tb) σ H Q):tOp (lowR K r) (lowE K ta) (lowE K tb) σ H Q:=by
 obtain ⟨σd,G,q,rs,c,t,f⟩:=h;exact ⟨σd,G,_,rs,c,t,fun d G1 v H1 r1 c1 l1 t1=>⟨σd,G1,_,rs.le l1,c1,t1,fun e G2 u H2 r2 c2 l2 t2=>⟨d,e,G2,q,RelD.le l2 r1,r2,c2,t2,f.le (l1.trans l2)⟩⟩⟩
theorem vu1 {r:U3} {ta:TE3} (h:lowE K (dUn r ta) σ H Q):tUn (lowU K r) (lowE K ta) σ H Q:=by
 obtain ⟨σd,G,q,rs,c,t,f⟩:=h;exact ⟨σd,G,_,rs,c,t,fun d G1 v H1 r1 c1 l1 t1=>⟨d,G1,q,r1,c1,t1,f.le l1⟩⟩
theorem vh1 {Q:List V->Hp->Prop} (h:lowA K dNil σ H Q):tNil σ H Q:=by
 obtain ⟨σd,G,q,rs,c,t,f⟩:=h;exact f [] G [] H .nil c (Le.refl H) t
theorem uc7 {ta:TE3} {tr:TA3} {Q:List V->Hp->Prop} (h:lowA K (uy0 ta tr) σ H Q):un3 (lowE K ta) (lowA K tr) σ H Q:=by
 obtain ⟨σd,G,q,rs,c,t,f⟩:=h;exact ⟨σd,G,_,rs,c,t,fun d G1 v H1 r1 c1 l1 t1=>⟨σd,G1,_,rs.le l1,c1,t1,fun ds G2 vs H2 r2 c2 l2 t2=>f (d::ds) G2 (v::vs) H2 (.cons (RelD.le l2 r1) r2) c2 (l1.trans l2) t2⟩⟩
theorem vg7 {ta:TA3} (h:lowE K (dTup ta) σ H Q):tTup (lowA K ta) σ H Q:=by
 obtain ⟨σd,G,q,rs,c,t,f⟩:=h;refine ⟨σd,G,_,rs,c,t,fun ds G1 vs H1 r1 c1 l1 t1=>⟨by rw [<- r1.length];exact t1.1,fun p hp=>?_⟩⟩;refine f (.tup ds) G1 (.ref p) _ ?_ (c1.side hp) (l1.trans (Le.fresh hp)) t1.2;rw [RelD];exact ⟨p,vs,rfl,SqT.of u12,RelDs.le (Le.fresh hp) r1⟩
theorem vh2 {ta:TA3} (h:lowE K (dLst ta) σ H Q):tLst (lowA K ta) σ H Q:=by
 obtain ⟨σd,G,q,rs,c,t,f⟩:=h;refine ⟨σd,G,_,rs,c,t,fun ds G1 vs H1 r1 c1 l1 t1=>⟨by rw [<- r1.length];exact t1.1,fun p hp=>?_⟩⟩;exact f (.ref p) _ (.ref p) _ (by rw [RelD]) (c1.lstNew hp r1) (l1.trans (Le.fresh hp)) (t1.2 p (c1.fresh hp))
theorem RelD.bl_inv {c:Bool} {v:V} (h:RelD K H (.bl c) v):v=.bl c:=by rw [RelD] at h;exact h
theorem v38 {t u:TT3} {Q:Bool->Hp->Prop} (h:lowT K (dAnd t u) σ H Q):tAnd (lowT K t) (lowT K u) σ H Q:=by
 obtain ⟨σd,G,q,rs,c,t,f⟩:=h;refine ⟨σd,G,_,rs,c,t,fun b G1 H1 c1 l1 t1=>?_⟩;cases b with
 | true=>rw [if_pos rfl] at t1 ⊢;exact ⟨σd,G1,q,rs.le l1,c1,t1,fun b G2 H2 c2 l2 t2=>f b G2 H2 c2 (l1.trans l2) t2⟩
 | false=>rw [if_neg Bool.false_ne_true] at t1 ⊢;exact f _ _ _ c1 l1 t1
theorem vh0 {t u:TT3} {Q:Bool->Hp->Prop} (h:lowT K (dOr t u) σ H Q):tOr (lowT K t) (lowT K u) σ H Q:=by
 obtain ⟨σd,G,q,rs,c,t,f⟩:=h;refine ⟨σd,G,_,rs,c,t,fun b G1 H1 c1 l1 t1=>?_⟩;cases b with
 | false=>rw [if_neg Bool.false_ne_true] at t1 ⊢;exact ⟨σd,G1,q,rs.le l1,c1,t1,fun b G2 H2 c2 l2 t2=>f b G2 H2 c2 (l1.trans l2) t2⟩
 | true=>rw [if_pos rfl] at t1 ⊢;exact f _ _ _ c1 l1 t1
theorem v30 {t:TT3} {Q:Bool->Hp->Prop} (h:lowT K (dNot t) σ H Q):tNot (lowT K t) σ H Q:=by
 obtain ⟨σd,G,q,rs,c,t,f⟩:=h;exact ⟨σd,G,_,rs,c,t,fun b G1 H1 c1 l1 t1=>f _ _ _ c1 l1 t1⟩
theorem vu4 {t:TT3} {ta tb:TE3} (h:lowE K (dIf t ta tb) σ H Q):tIf (lowT K t) (lowE K ta) (lowE K tb) σ H Q:=by
 obtain ⟨σd,G,q,rs,c,t,f⟩:=h;refine ⟨σd,G,_,rs,c,t,fun b G1 H1 c1 l1 t1=>?_⟩;cases b with
 | true=>rw [if_pos rfl] at t1 ⊢;exact ⟨σd,G1,q,rs.le l1,c1,t1,f.le l1⟩
 | false=>rw [if_neg Bool.false_ne_true] at t1 ⊢;exact ⟨σd,G1,q,rs.le l1,c1,t1,f.le l1⟩
end
def vk3:TS3:=fun E σ G=>E.nx σ G
def Go (k:DSt->Gp->Prop) (σ:DSt) (G:Gp):Prop:=k σ G
def dSeq (t u:TS3):TS3:=fun E σ G=>t { E with nx:=Go (u E) } σ G
def v56 (te:TE3):TS3:=fun E σ G=>te σ G fun _ G1=>E.nx σ G1
def dRet (te:TE3):TS3:=fun E σ G=>te σ G E.rt
def w11:TS3:=fun E _ G=>E.rt .non G
def dIfS (c:TT3) (t u:TS3):TS3:=fun E σ G=>c σ G fun b G1=>if b=true then t E σ G1 else u E σ G1
abbrev TG3:=D->DSt->Gp->(DSt->Gp->Prop)->Prop
abbrev TGs3:=List D->DSt->Gp->(DSt->Gp->Prop)->Prop
def lowG (K:PySem.W.Frag) (t:TG3):TG:=fun v σ H Q=>∃ d σd G q,RelD K H d v /\ RelSt K H σd σ /\ Con K G H /\ t d σd G q /\ FutS K H q Q
def v39 (K:PySem.W.Frag) (t:TGs3):TGs:=fun vs σ H Q=>∃ ds σd G q,RelDs K H ds vs /\ RelSt K H σd σ /\ Con K G H /\ t ds σd G q /\ FutS K H q Q
def uv0 (i:Nat):TG3:=fun d σ G q=>q (σ.set i (some d)) G
def jNil:TGs3:=fun ds σ G q=>ds=[] /\ q σ G
def vi3 (t:TG3) (u:TGs3):TGs3:=fun ds σ G q=>match ds with | d::r=>t d σ G fun σ' G'=>u r σ' G' q | []=>False
abbrev TSet3:=D->D->D->Gp->(Gp->Prop)->Prop
def uu0 (K:PySem.W.Frag) (t:TSet3):TSet:=fun o i v H Q=>∃ d e x G q,RelD K H d o /\ RelD K H e i /\ RelD K H x v /\ Con K G H /\ t d e x G q /\ ∀ G' H',Con K G' H'->Le H H'->q G'->Q H'
def jSub (to ti:TE3) (t:TSet3):TG3:=fun d σ G q=>to σ G fun o G1=>ti σ G1 fun i G2=>t o i d G2 fun G3=>q σ G3
def dAsg (te:TE3) (g:TG3):TS3:=fun E σ G=>te σ G fun x G1=>g x σ G1 E.nx
section
variable {K:PySem.W.Frag} {σ:St} {H:Hp} {E:Ends}
theorem v31 (h:lowS K vk3 E σ H):vo5 E σ H:=by
 obtain ⟨σd,G,d,rs,c,t,f⟩:=h;exact f.nx _ _ _ _ rs c (Le.refl H) t
theorem vg8 {t u:TS3} (h:lowS K (dSeq t u) E σ H):tSeq (lowS K t) (lowS K u) E σ H:=by
 obtain ⟨σd,G,d,rs,c,t,f⟩:=h;exact ⟨σd,G,_,rs,c,t,fun σd' G' σ' H' rs' c' l' t'=>⟨σd',G',d,rs',c',t',f.le l'⟩,f.rt,f.bk,f.ct⟩
theorem ul4 {te:TE3} (h:lowS K (v56 te) E σ H):vb7 (lowE K te) E σ H:=by
 obtain ⟨σd,G,d,rs,c,t,f⟩:=h;exact ⟨σd,G,_,rs,c,t,fun x G1 v H1 r1 c1 l1 t1=>f.nx _ _ _ _ (rs.le l1) c1 l1 t1⟩
theorem vg9 {te:TE3} (h:lowS K (dRet te) E σ H):tRet (lowE K te) E σ H:=by
 obtain ⟨σd,G,d,rs,c,t,f⟩:=h;exact ⟨σd,G,_,rs,c,t,f.rt⟩
theorem vh3 {tc:TT3} {t u:TS3} (h:lowS K (dIfS tc t u) E σ H):tIfS (lowT K tc) (lowS K t) (lowS K u) E σ H:=by
 obtain ⟨σd,G,d,rs,c,t,f⟩:=h;refine ⟨σd,G,_,rs,c,t,fun b G1 H1 c1 l1 t1=>?_⟩;cases b with
 | true=>rw [if_pos rfl] at t1 ⊢;exact ⟨σd,G1,d,rs.le l1,c1,t1,f.le l1⟩
 | false=>rw [if_neg Bool.false_ne_true] at t1 ⊢;exact ⟨σd,G1,d,rs.le l1,c1,t1,f.le l1⟩
theorem ut6 {i:Nat} {v:V} {Q:St->Hp->Prop} (h:lowG K (uv0 i) v σ H Q):vj1 i v σ H Q:=by
 obtain ⟨d,σd,G,q,r,rs,c,t,f⟩:=h;exact f _ _ _ _ (rs.set i r) c (Le.refl H) t
theorem v34 {vs:List V} {Q:St->Hp->Prop} (h:v39 K jNil vs σ H Q):gNil vs σ H Q:=by
 obtain ⟨ds,σd,G,q,r,rs,c,⟨e,t⟩,f⟩:=h;subst e;exact ⟨r.inv_nil,f _ _ _ _ rs c (Le.refl H) t⟩
theorem ut7 {t:TG3} {u:TGs3} {vs:List V} {Q:St->Hp->Prop} (h:v39 K (vi3 t u) vs σ H Q):vw8 (lowG K t) (v39 K u) vs σ H Q:=by
 obtain ⟨ds,σd,G,q,r,rs,c,t,f⟩:=h;cases ds with
 | nil=>exact t.elim
 | cons d ds =>
  obtain ⟨x,xs,rfl,r1,r2⟩:=r.inv_cons;exact ⟨x,xs,rfl,d,σd,G,_,r1,rs,c,t,fun σd' G' σ' H' rs' c' l' t'=>⟨ds,σd',G',q,RelDs.le l' r2,rs',c',t',f.le l'⟩⟩
theorem v33 {to ti:TE3} {t:TSet3} {v:V} {Q:St->Hp->Prop} (h:lowG K (jSub to ti t) v σ H Q):gSub (lowE K to) (lowE K ti) (uu0 K t) v σ H Q:=by
 obtain ⟨d,σd,G,q,r,rs,c,t,f⟩:=h;exact ⟨σd,G,_,rs,c,t,fun o G1 vo H1 r1 c1 l1 t1=>⟨σd,G1,_,rs.le l1,c1,t1,fun i G2 vi H2 r2 c2 l2 t2=>⟨o,i,d,G2,_,RelD.le l2 r1,r2,RelD.le (l1.trans l2) r,c2,t2,fun G3 H3 c3 l3 t3 =>
  f _ _ _ _ (rs.le (l1.trans (l2.trans l3))) c3 (l1.trans (l2.trans l3)) t3⟩⟩⟩
theorem vh5 {te:TE3} {g:TG3} (h:lowS K (dAsg te g) E σ H):tAsg (lowE K te) (lowG K g) E σ H:=by
 obtain ⟨σd,G,d,rs,c,t,f⟩:=h;exact ⟨σd,G,_,rs,c,t,fun x G1 v H1 r1 c1 l1 t1=>⟨x,σd,G1,_,r1,rs.le l1,c1,t1,f.nx.le l1⟩⟩
end
structure IT where
 items:List D
 ok:Gp->Prop
structure ItRel (K:PySem.W.Frag) (H0:Hp) (it:IT) (J:It):Prop where
 go:∀ (i:Nat) G H,Le H0 H->Con K G H->it.ok G->i < it.items.length->J.go i H
 stop:∀ (i:Nat) G H,Le H0 H->Con K G H->it.ok G->it.items.length<=i->J.stop i H
 yld:∀ (i:Nat) G H x H',Le H0 H->Con K G H->it.ok G->i < it.items.length->J.yld i H x H'->Con K G H' /\ Le H H' /\ ∃ d,it.items[i]?=some d /\ RelD K H' d x
abbrev TI3:=DSt->Gp->(IT->Gp->Prop)->Prop
def lowI (K:PySem.W.Frag) (t:TI3):TI:=fun σ H R=>∃ σd G r,RelSt K H σd σ /\ Con K G H /\ t σd G r /\ ∀ it J G' H',ItRel K H' it J->Con K G' H'->Le H H'->r it G'->R J H'
def forL (ok:Gp->Prop) (g:TG3) (tb:TS3) (E:Ends3):List D->DSt->Gp->Prop
 | [],σ,G=>ok G /\ E.nx σ G
 | x::r,σ,G=>ok G /\ g x σ G fun σ1 G1=>tb { E with nx:=forL ok g tb E r,ct:=forL ok g tb E r,bk:=E.nx } σ1 G1
def dFor (wi:TI3) (g:TG3) (tb:TS3):TS3:=fun E σ G=>wi σ G fun it G1=>forL it.ok g tb E it.items σ G1
theorem vh4 {K:PySem.W.Frag} {wi:TI3} {g:TG3} {tb:TS3} {σ:St} {H:Hp} {E:Ends} (h:lowS K (dFor wi g tb) E σ H):tFor (lowI K wi) (lowG K g) (lowS K tb) E σ H:=by
 obtain ⟨σd,G,d,rs,cc,t,f⟩:=h;refine ⟨σd,G,_,rs,cc,t,fun it J G1 H1 ir c1 l1 t1=>?_⟩;refine ⟨fun i m σ' H'=>∃ σd' G',Le H1 H' /\ RelSt K H' σd' σ' /\ Con K G' H' /\ i+m=it.items.length /\ forL it.ok g tb d (it.items.drop i) σd' G',⟨it.items.length,σd,G1,Le.refl _,rs.le l1,c1,by omega,by rw [List.drop_zero];exact t1⟩,?_⟩;rintro i m σ2 H2 ⟨σd2,G2,l2,rs2,c2,e2,t2⟩
 by_cases hi:i < it.items.length
 ·rw [List.drop_eq_getElem_cons hi] at t2
  obtain ⟨ok2,t2⟩:=t2;refine .inr ⟨ir.go i G2 H2 l2 c2 ok2 hi,fun σ' H'=>∃ σd' G',Le H1 H' /\ RelSt K H' σd' σ' /\ Con K G' H' /\ forL it.ok g tb d (it.items.drop (i+1)) σd' G',?_,?_⟩
  ·rintro σ' H' ⟨σd',G',a1,a2,a3,a4⟩
   exact ⟨m - 1,by omega,σd',G',a1,a2,a3,by omega,a4⟩
  ·intro x H3 y
   obtain ⟨c3,l3,e,he,r3⟩:=ir.yld i G2 H2 x H3 l2 c2 ok2 hi y;rw [List.getElem?_eq_getElem hi] at he;cases he;refine ⟨_,σd2,G2,_,r3,rs2.le l3,c3,t2,fun σd4 G4 σ4 H4 rs4 c4 l4 t4=>?_⟩;have l14:Le H1 H4:=l2.trans (l3.trans l4);have key:FutS K H4 (forL it.ok g tb d (it.items.drop (i+1))) (fun σ' H'=>∃ σd' G',Le H1 H' /\ RelSt K H' σd' σ' /\ Con K G' H' /\ forL it.ok g tb d (it.items.drop (i+1)) σd' G') :=
    fun σd5 G5 σ5 H5 rs5 c5 l5 t5=>⟨σd5,G5,l14.trans l5,rs5,c5,t5⟩
   exact ⟨σd4,G4,_,rs4,c4,t4,key,f.rt.le (l1.trans l14),f.nx.le (l1.trans l14),key⟩
 ·rw [List.drop_eq_nil_of_le (by omega)] at t2
  exact .inl ⟨ir.stop i G2 H2 l2 c2 t2.1 (by omega),f.nx _ _ _ _ rs2 c2 (l1.trans l2) t2.2⟩
theorem RelDs.at_ {K:PySem.W.Frag} {H:Hp} {ds:List D} {xs:List V} {i:Nat} {x:V} (h:RelDs K H ds xs) (e:xs[i]?=some x):∃ d,ds[i]?=some d /\ RelD K H d x:=by
 have hl:i < ds.length:=by rw [h.length];exact (List.getElem?_eq_some_iff.mp e).1
 obtain ⟨y,hy,r⟩:=h.get (List.getElem?_eq_getElem hl);rw [e] at hy;cases hy;exact ⟨_,List.getElem?_eq_getElem hl,r⟩
theorem uv2 {K:PySem.W.Frag} {H0:Hp} {a:Addr} {ds:List D} {xs:List V} (s:SqT K H0 a xs) (r:RelDs K H0 ds xs):ItRel K H0 ⟨ds,fun _=>True⟩ (Itt K a) where
 go:=fun i G H l c _ hi=>⟨xs,xs[i]'(by rw [<- r.length];exact hi),l.sqT s,List.getElem?_eq_getElem _⟩
 stop:=fun i G H l c _ hi=>⟨xs,l.sqT s,by rw [<- r.length];exact hi⟩
 yld:=fun i G H x H' l c _ hi y=>by
  obtain ⟨e,y⟩:=y;subst e;have hx:=y xs (l.sqT s);obtain ⟨d,hd,rd⟩:=(RelDs.le l r).at_ hx
  exact ⟨c,Le.refl _,d,hd,rd⟩
def u18:Option DO->Option (List D)
 | some (.lst xs)=>some xs
 | some (.fro xs)=>some xs
 | _=>none
theorem u17 {K:PySem.W.Frag} {G:Gp} {H:Hp} {a:Addr} {ds:List D} (c:Con K G H) (h:u18 (G a)=some ds):∃ xs,SqL K H a xs /\ RelDs K H ds xs:=by
 cases e:G a with
 | none=>rw [e] at h;cases h
 | some o =>
  rw [e] at h;have q:=c a o e;cases o with
  | lst xs=>cases h;obtain ⟨ys,q,r⟩:=q;exact ⟨ys,.inl (.inl q),r⟩
  | fro xs=>cases h;obtain ⟨o,ys,q,r⟩:=q;exact ⟨ys,.inl (.inr ⟨o,q⟩),r⟩
  | dic _=>cases h
  | dit _=>cases h
  | ins _ _=>cases h
  | exc _ _=>cases h
  | frd _=>cases h
theorem un8 {K:PySem.W.Frag} {H0:Hp} {a:Addr} {ds:List D}:ItRel K H0 ⟨ds,fun G=>u18 (G a)=some ds⟩ (Itl K a) where
 go:=fun i G H l c ok hi=>by
  obtain ⟨xs,s,r⟩:=u17 c ok;exact ⟨xs,xs[i]'(by rw [<- r.length];exact hi),s,List.getElem?_eq_getElem _⟩
 stop:=fun i G H l c ok hi=>by
  obtain ⟨xs,s,r⟩:=u17 c ok;exact ⟨xs,s,by rw [<- r.length];exact hi⟩
 yld:=fun i G H x H' l c ok hi y=>by
  obtain ⟨e,y⟩:=y;subst e;obtain ⟨xs,s,r⟩:=u17 c ok;obtain ⟨d,hd,rd⟩:=r.at_ (y xs s)
  exact ⟨c,Le.refl _,d,hd,rd⟩
def rngD (lo:Int) (n:Nat):List D:=(List.range n).map fun (i:Nat)=>.int (lo+i)
theorem ui0 {K:PySem.W.Frag} {H0:Hp} {lo:Int} {n:Nat}:ItRel K H0 ⟨rngD lo n,fun _=>True⟩ (Itr lo n) where
 go:=fun i G H l c _ hi=>by
  have:i < n:=by simpa [rngD] using hi
  exact this
 stop:=fun i G H l c _ hi=>by
  have:n<=i:=by simpa [rngD] using hi
  exact this
 yld:=fun i G H x H' l c _ hi y=>by
  obtain ⟨e,y⟩:=y;subst e;subst y;refine ⟨c,Le.refl _,.int (lo+i),?_,by rw [RelD]⟩;have:i < n:=by simpa [rngD] using hi
  simp [rngD,this]
abbrev Sp3:=List D->Gp->DK->Prop
def u99 (K:PySem.W.Frag) (S:Sp3):Sp:=fun vs H Q _=>∃ ds G R,RelDs K H ds vs /\ Con K G H /\ S ds G R /\ FutE K H R Q
def dCall (S:Sp3) (dds:List D) (t:TA3):TE3:=fun σ G q=>t σ G fun ds G1=>∃ R,S (ds++dds) G1 R /\ ∀ d G',R d G'->q d G'
def v55 (C:Addr) (m:Str) (S:Sp3) (dds:List D) (ta:TE3) (t:TA3):TE3:=fun σ G q=>ta σ G fun x G1=>match x with
 | .ref a=>(match G1 a with
  | some (.ins C' fs)=>C'=C /\ fs.lookup m=none /\ t σ G1 fun ds G2=>∃ R,S (.ref a::(ds++dds)) G2 R /\ ∀ d G',R d G'->q d G'
  | _=>False)
 | _=>False
def w12 (C:Addr) (S:Sp3) (dds:List D) (t:TA3):TE3:=fun σ G q=>t σ G fun ds G1=>∀ x,G1 x=none ->
 ∃ R,S (.ref x::(ds++dds)) (gup G1 x (.ins C [])) R /\ ∀ d G',R d G'->d=.non /\ q (.ref x) G'
def putD (f:Str) (v:D):List (Str × D)->List (Str × D)
 | []=>[(f,v)]
 | (g,u)::r=>if g=f then (g,v)::r else (g,u)::putD f v r
def dFld (C:Addr) (ta:TE3) (f:Str):TE3:=fun σ G q=>ta σ G fun x G1=>match x with
 | .ref a=>(match G1 a with
  | some (.ins C' fs)=>C'=C /\ (match fs.lookup f with | some d=>q d G1 | none=>False)
  | _=>False)
 | _=>False
def w10 (C:Addr) (ta tv:TE3) (f:Str):TS3:=fun E σ G=>tv σ G fun y G1=>ta σ G1 fun x G2=>match x with
 | .ref a=>(match G2 a with
  | some (.ins C' fs)=>C'=C /\ fs.length < 1000 /\ E.nx σ (gup G2 a (.ins C (putD f y fs)))
  | _=>False)
 | _=>False
def w14 (C:Addr) (ta tv:TE3) (r:R3) (f:Str):TS3:=fun E σ G=>ta σ G fun x G1=>match x with
 | .ref a=>(match G1 a with
  | some (.ins C' fs)=>C'=C /\ (match fs.lookup f with
   | some d=>tv σ G1 fun y G2=>r d y G2 fun z G3=>(match G3 a with
    | some (.ins C'' fs')=>C''=C /\ fs'.length < 1000 /\ E.nx σ (gup G3 a (.ins C (putD f z fs')))
    | _=>False)
   | none=>False)
  | _=>False)
 | _=>False
section
variable {K:PySem.W.Frag} {σ:St} {H:Hp} {Q:VK} {E:Ends}
theorem v36 {S:Sp3} {dds:List D} {dvs:List V} {t:TA3} {XE:XK} (hd:∀ H,RelDs K H dds dvs) (h:lowE K (dCall S dds t) σ H Q):vb8 (u99 K S) dvs XE (lowA K t) σ H Q:=by
 obtain ⟨σd,G,q,rs,c,t,f⟩:=h;exact ⟨σd,G,_,rs,c,t,fun ds G1 vs H1 r1 c1 l1 ⟨R,s1,t1⟩=>⟨_,G1,R,r1.append (hd H1),c1,s1,fun d G2 v H2 r2 c2 l2 t2=>f d G2 v H2 r2 c2 (l1.trans l2) (t1 d G2 t2)⟩⟩
theorem RelD.refI {a:Addr}:RelD K H (.ref a) (.ref a):=by rw [RelD]
theorem RelD.ref_inv {a:Addr} {v:V} (h:RelD K H (.ref a) v):v=.ref a:=by rw [RelD] at h;exact h
theorem RelPs.lookup_none {κ:Type} [BEq κ] {k:κ}:∀ {ps:List (κ × D)} {qs:List (κ × V)},RelPs K H ps qs->ps.lookup k=none->qs.lookup k=none
 | [],qs,h,_=>by
  cases qs with
  | nil=>rfl
  | cons _ _=>have:=h.1;simp at this
 | (g,d)::ps,qs,h,e=>by
  cases qs with
  | nil=>have:=h.1;simp at this
  | cons q qs =>
   obtain ⟨g',v⟩:=q;have h1:=h.1;simp only [List.map_cons,List.cons.injEq] at h1;obtain ⟨rfl,h1⟩:=h1;obtain ⟨x,r,e2,_,h2⟩:=(show RelDs K H (d::ps.map (·.2)) (v::qs.map (·.2)) from h.2).inv_cons;cases e2;rw [List.lookup_cons] at e ⊢;cases hk:k == g with
   | true=>rw [hk] at e;cases e
   | false=>rw [hk] at e;exact RelPs.lookup_none ⟨h1,h2⟩ e
theorem RelPs.lookup {κ:Type} [BEq κ] {k:κ} {d:D}:∀ {ps:List (κ × D)} {qs:List (κ × V)},RelPs K H ps qs->ps.lookup k=some d->∃ v,qs.lookup k=some v /\ RelD K H d v
 | [],qs,h,e=>by cases e
 | (g,d')::ps,qs,h,e=>by
  cases qs with
  | nil=>have:=h.1;simp at this
  | cons q qs =>
   obtain ⟨g',v⟩:=q;have h1:=h.1;simp only [List.map_cons,List.cons.injEq] at h1;obtain ⟨rfl,h1⟩:=h1;obtain ⟨x,r,e2,r1,h2⟩:=(show RelDs K H (d'::ps.map (·.2)) (v::qs.map (·.2)) from h.2).inv_cons;cases e2;rw [List.lookup_cons] at e ⊢;cases hk:k == g with
   | true=>rw [hk] at e;cases e;exact ⟨v,rfl,r1⟩
   | false=>rw [hk] at e;exact RelPs.lookup ⟨h1,h2⟩ e
theorem RelPs.nil {κ:Type}:RelPs (κ:=κ) K H [] []:=⟨rfl,.nil⟩
theorem RelPs.cons {κ:Type} {k:κ} {d:D} {v:V} {ps:List (κ × D)} {qs:List (κ × V)} (r:RelD K H d v) (h:RelPs K H ps qs):RelPs K H ((k,d)::ps) ((k,v)::qs) :=
 ⟨by simp [h.1],.cons r h.2⟩
theorem RelPs.inv_cons {κ:Type} {k:κ} {d:D} {ps:List (κ × D)} {qs:List (κ × V)} (h:RelPs K H ((k,d)::ps) qs):∃ v r,qs=(k,v)::r /\ RelD K H d v /\ RelPs K H ps r:=by
 cases qs with
 | nil=>have:=h.1;simp at this
 | cons q qs =>
  obtain ⟨g',v⟩:=q;have h1:=h.1;simp only [List.map_cons,List.cons.injEq] at h1;obtain ⟨rfl,h1⟩:=h1;obtain ⟨x,r,e2,r1,h2⟩:=(show RelDs K H (d::ps.map (·.2)) (v::qs.map (·.2)) from h.2).inv_cons;cases e2;exact ⟨v,qs,rfl,r1,h1,h2⟩
theorem RelPs.inv_nil {κ:Type} {qs:List (κ × V)} (h:RelPs K H [] qs):qs=[]:=by
 cases qs with
 | nil=>rfl
 | cons _ _=>have:=h.1;simp at this
theorem RelPs.length {κ:Type} {ps:List (κ × D)} {qs:List (κ × V)} (h:RelPs K H ps qs):ps.length=qs.length:=by
 have:=h.2.length;simpa using this
theorem v32 {C:Addr} {m:Str} {S:Sp3} {dds:List D} {dvs:List V} {ta:TE3} {t:TA3} {XE:XK} (hd:∀ H,RelDs K H dds dvs) (h:lowE K (v55 C m S dds ta t) σ H Q):vo6 C m (u99 K S) dvs XE (lowE K ta) (lowA K t) σ H Q:=by
 obtain ⟨σd,G,q,rs,c,t,f⟩:=h;refine ⟨σd,G,_,rs,c,t,fun x G1 v H1 r1 c1 l1 t1=>?_⟩;split at t1
 ·rename_i a
  split at t1
  ·rename_i C' fs e
   obtain ⟨rfl,n,t1⟩:=t1;obtain ⟨dx,ys,e2,rf⟩:=c1 _ _ e;refine ⟨a,dx,ys,r1.ref_inv,e2,rf.lookup_none n,σd,G1,_,rs.le l1,c1,t1,fun ds G2 vs H2 r2 c2 l2 ⟨R,s2,t2⟩=>?_⟩;exact ⟨_,G2,R,.cons (RelD.le l2 r1) (r2.append (hd H2)),c2,s2,fun d G3 v H3 r3 c3 l3 t3=>f d G3 v H3 r3 c3 (l1.trans (l2.trans l3)) (t2 d G3 t3)⟩
  ·exact t1.elim
 ·exact t1.elim
theorem w08 {te:TE3} {Q:Bool->Hp->Prop} (h:lowT K (dB te) σ H Q):tB (lowE K te) σ H Q:=by
 obtain ⟨σd,G,q,rs,c,t,f⟩:=h;refine ⟨σd,G,_,rs,c,t,fun x G1 v H1 r1 c1 l1 t1=>?_⟩;split at t1
 ·rename_i k
  exact ⟨k,r1.bl_inv,f _ _ _ c1 l1 t1⟩
 ·exact t1.elim
theorem v37 {ta tb:TE3} (h:lowE K (vk5 ta tb) σ H Q):vo8 (lowE K ta) (lowE K tb) σ H Q:=by
 obtain ⟨σd,G,q,rs,c,t,f⟩:=h;refine ⟨σd,G,_,rs,c,t,fun x G1 v H1 r1 c1 l1 t1=>?_⟩;split at t1
 ·rename_i k
  refine ⟨k,r1.bl_inv,?_⟩;cases k with
  | true=>rw [if_pos rfl] at t1 ⊢;exact ⟨σd,G1,q,rs.le l1,c1,t1,f.le l1⟩
  | false=>rw [if_neg Bool.false_ne_true] at t1 ⊢;exact f _ _ _ _ (by rw [RelD]) c1 l1 t1
 ·exact t1.elim
theorem v29 {ta:TE3} (h:lowE K (vk2 ta) σ H Q):vo4 (lowE K ta) σ H Q:=by
 obtain ⟨σd,G,q,rs,c,t,f⟩:=h;refine ⟨σd,G,_,rs,c,t,fun x G1 v H1 r1 c1 l1 t1=>?_⟩;split at t1
 ·rename_i k
  exact ⟨k,r1.bl_inv,f _ _ _ _ (by rw [RelD]) c1 l1 t1⟩
 ·exact t1.elim
def dAug (i:Nat) (te:TE3) (r:R3):TS3:=fun E σ G=>match σ[i]? with
 | some (some x)=>te σ G fun y G1=>r x y G1 fun z G2=>E.nx (σ.set i (some z)) G2
 | _=>False
abbrev TO3:=DSt->Gp->(Option Int->Gp->Prop)->Prop
def lowO (K:PySem.W.Frag) (t:TO3):TO:=fun σ H Q=>∃ σd G q,RelSt K H σd σ /\ Con K G H /\ t σd G q /\ ∀ o G' H',Con K G' H'->Le H H'->q o G'->Q o H'
def ui5:TO3:=fun _ G q=>q none G
def vk1 (t:TE3):TO3:=fun σ G q=>t σ G fun x G1=>match x with | .int i=>q (some i) G1 | _=>False
theorem un7 {Q:Option Int->Hp->Prop} (h:lowO K ui5 σ H Q):uq2 σ H Q:=by
 obtain ⟨σd,G,q,rs,c,t,f⟩:=h;exact f _ _ _ c (Le.refl H) t
theorem v28 {t:TE3} {Q:Option Int->Hp->Prop} (h:lowO K (vk1 t) σ H Q):vo3 (lowE K t) σ H Q:=by
 obtain ⟨σd,G,q,rs,c,t,f⟩:=h;refine ⟨σd,G,_,rs,c,t,fun x G1 v H1 r1 c1 l1 t1=>?_⟩;split at t1
 ·rename_i k
  rw [RelD] at r1;exact ⟨k,r1,f _ _ _ c1 l1 t1⟩
 ·exact t1.elim
abbrev RS3:=D->Option Int->Option Int->Gp->DK->Prop
def vh6 (K:PySem.W.Frag) (r:RS3):V->Option Int->Option Int->Hp->VK->Prop:=fun x l u H Q=>∃ d G q,RelD K H d x /\ Con K G H /\ r d l u G q /\ FutE K H q Q
def dSl (r:RS3) (te:TE3) (tl th:TO3):TE3:=fun σ G q=>te σ G fun x G1=>tl σ G1 fun l G2=>th σ G2 fun u G3=>r x l u G3 q
theorem vu2 {r:RS3} {te:TE3} {tl th:TO3} (h:lowE K (dSl r te tl th) σ H Q):tSl (vh6 K r) (lowE K te) (lowO K tl) (lowO K th) σ H Q:=by
 obtain ⟨σd,G,q,rs,c,t,f⟩:=h;exact ⟨σd,G,_,rs,c,t,fun x G1 v H1 r1 c1 l1 t1=>⟨σd,G1,_,rs.le l1,c1,t1,fun o G2 H2 c2 l2 t2=>⟨σd,G2,_,rs.le (l1.trans l2),c2,t2,fun u G3 H3 c3 l3 t3 =>
  ⟨x,G3,q,RelD.le (l2.trans l3) r1,c3,t3,f.le (l1.trans (l2.trans l3))⟩⟩⟩⟩
def dCB (r:C3) (t:TA3):TE3:=fun σ G q=>t σ G fun ds G1=>r ds G1 q
theorem v87 {r:C3} {t:TA3} (h:lowE K (dCB r t) σ H Q):tCB (lowC K r) (lowA K t) σ H Q:=by
 obtain ⟨σd,G,q,rs,c,t,f⟩:=h;exact ⟨σd,G,_,rs,c,t,fun ds G1 vs H1 r1 c1 l1 t1=>⟨ds,G1,q,r1,c1,t1,f.le l1⟩⟩
abbrev M3:=D->List D->Gp->DK->Prop
def lowM (K:PySem.W.Frag) (r:M3):V->List V->Hp->VK->Prop:=fun x xs H Q=>∃ d ds G q,RelD K H d x /\ RelDs K H ds xs /\ Con K G H /\ r d ds G q /\ FutE K H q Q
def tyD (G:Gp) (T:String):D->Prop
 | .str _=>T = "str"
 | .int _=>T = "int"
 | .ref a=>match G a with
  | some (.lst _)=>T = "list"
  | some (.fro _)=>T = "list"
  | some (.dic _)=>T = "dict"
  | _=>False
 | _=>False
def dBM (T:String) (r:M3) (to:TE3) (t:TA3):TE3:=fun σ G q=>to σ G fun x G1=>tyD G1 T x /\ t σ G1 fun ds G2=>r x ds G2 q
def dBM0 (T:String) (r:M3) (to:TE3):TE3:=fun σ G q=>to σ G fun x G1=>tyD G1 T x /\ r x [] G1 q
theorem ut9 {T:String} {r:M3} {to:TE3} {t:TA3} (ty:∀ G H x v,Con K G H->RelD K H x v->tyD G T x->tyV K T v H) (h:lowE K (dBM T r to t) σ H Q):tBM K T (lowM K r) (lowE K to) (lowA K t) σ H Q:=by
 obtain ⟨σd,G,q,rs,c,t,f⟩:=h;exact ⟨σd,G,_,rs,c,t,fun x G1 v H1 r1 c1 l1 ⟨y,t1⟩=>⟨ty G1 H1 x v c1 r1 y,σd,G1,_,rs.le l1,c1,t1,fun ds G2 vs H2 r2 c2 l2 t2=>⟨x,ds,G2,q,RelD.le l2 r1,r2,c2,t2,f.le (l1.trans l2)⟩⟩⟩
end
end L3
namespace L3
open PySem PySem.Spec PyProof.Rows L2
set_option maxHeartbeats 4000000
section
variable {X:Cx}
theorem u26 {e:Expr} {t t':TE} (h:PE X e t) (w:∀ σ H Q,t' σ H Q->t σ H Q):PE X e t':=fun pins s σ H Q I q=>h pins s σ H Q I (w _ _ _ q)
theorem v00 {e:Expr} {t t':TT} (h:PT X e t) (w:∀ σ H Q,t' σ H Q->t σ H Q):PT X e t':=fun pins s σ H Q I q=>h pins s σ H Q I (w _ _ _ q)
theorem vn3 {e:Expr} {t t':TT} (h:PW X e t) (w:∀ σ H Q,t' σ H Q->t σ H Q):PW X e t':=fun wh pins s σ H Q I q=>h wh pins s σ H Q I (w _ _ _ q)
theorem vn8 {e:List Expr} {t t':TA} (h:PA X e t) (w:∀ σ H Q,t' σ H Q->t σ H Q):PA X e t':=fun pos pins s σ H Q I q=>h pos pins s σ H Q I (w _ _ _ q)
theorem uh2 {e:Stmt} {t t':TS} (h:PS X e t) (w:∀ D σ H,t' D σ H->t D σ H):PS X e t':=fun pins s σ H D I q=>h pins s σ H D I (w _ _ _ q)
theorem v68 {e:List Stmt} {t t':TS} (h:PSs X e t) (w:∀ D σ H,t' D σ H->t D σ H):PSs X e t':=fun pins s σ H D I q=>h pins s σ H D I (w _ _ _ q)
theorem va8 {e:Expr} {t t':TG} (h:PG X e t) (w:∀ v σ H Q,t' v σ H Q->t v σ H Q):PG X e t':=fun pins s σ H v u Q I r q=>h pins s σ H v u Q I r (w _ _ _ _ q)
theorem v69 {e:List Expr} {t t':TGs} (h:PGs X e t) (w:∀ v σ H Q,t' v σ H Q->t v σ H Q):PGs X e t':=fun pins s σ H v u Q I r q=>h pins s σ H v u Q I r (w _ _ _ _ q)
theorem va6 {t t':TSet} (h:PSet X t) (w:∀ o i v H Q,t' o i v H Q->t o i v H Q):PSet X t':=fun pins s σ H o i v ov iv u Q I r1 r2 r3 q=>h pins s σ H o i v ov iv u Q I r1 r2 r3 (w _ _ _ _ _ q)
theorem v01 {tg e:Expr} {t t':TI} (h:PI X tg e t) (w:∀ σ H R,t' σ H R->t σ H R):PI X tg e t':=fun pins s σ H R I q=>h pins s σ H R I (w _ _ _ q)
theorem u48 {f:Value->Value->Sem Value} {r r':R2} (h:OpR X f r) (w:∀ x y H Q,r' x y H Q->r x y H Q):OpR X f r':=fun pins s σ H x y v u Q I a b q=>h pins s σ H x y v u Q I a b (w _ _ _ _ q)
theorem vn4 {f:Value->Sem Value} {r r':V->Hp->VK->Prop} (h:UnR X f r) (w:∀ x H Q,r' x H Q->r x H Q):UnR X f r':=fun pins s σ H x v Q I a q=>h pins s σ H x v Q I a (w _ _ _ q)
theorem u30 {f:Value} {r r':List V->Hp->VK->Prop} (h:CallR X f r) (w:∀ x H Q,r' x H Q->r x H Q):CallR X f r':=fun pins s σ H x v Q I a q=>h pins s σ H x v Q I a (w _ _ _ q)
theorem up4 {id:String} {r r':V->List V->Hp->VK->Prop} (h:MtR X id r) (w:∀ x xs H Q,r' x xs H Q->r x xs H Q):MtR X id r':=fun pins s σ H x xs v us Q I a b q=>h pins s σ H x xs v us Q I a b (w _ _ _ _ q)
theorem vn7 {r r':R2} (h:IxR X r) (w:∀ x y H Q,r' x y H Q->r x y H Q):IxR X r':=fun va sl pins s σ H x y v u Q I a b q=>h va sl pins s σ H x y v u Q I a b (w _ _ _ _ q)
theorem vn5 {r r':V->Option Int->Option Int->Hp->VK->Prop} (h:SlR X r) (w:∀ x l u H Q,r' x l u H Q->r x l u H Q):SlR X r':=by
 intro pins s σ H x lo hi
 intros
 apply h <;> first | assumption | (apply w;assumption)
theorem vn6 {e:Option Expr} {t t':TO} (h:PO X e t) (w:∀ σ H Q,t' σ H Q->t σ H Q):PO X e t':=by
 intro pins s σ H Q I q;exact h pins s σ H Q I (w _ _ _ q)
theorem va7 {e:List Expr} {t t':TT} (h:PIfs X e t) (w:∀ σ H Q,t' σ H Q->t σ H Q):PIfs X e t':=fun pins s σ H Q I q=>h pins s σ H Q I (w _ _ _ q)
end
def E3 (X:Cx) (e:Expr) (t:TE3):Prop:=PE X e (lowE X.K t)
def T3 (X:Cx) (e:Expr) (t:TT3):Prop:=PT X e (lowT X.K t)
def W3 (X:Cx) (e:Expr) (t:TT3):Prop:=PW X e (lowT X.K t)
def A3 (X:Cx) (es:List Expr) (t:TA3):Prop:=PA X es (lowA X.K t)
def S3 (X:Cx) (st:Stmt) (t:TS3):Prop:=PS X st (lowS X.K t)
def Ss3 (X:Cx) (sts:List Stmt) (t:TS3):Prop:=PSs X sts (lowS X.K t)
def J3 (X:Cx) (e:Expr) (t:TG3):Prop:=PG X e (lowG X.K t)
def Js3 (X:Cx) (es:List Expr) (t:TGs3):Prop:=PGs X es (v39 X.K t)
def I3 (X:Cx) (tg e:Expr) (t:TI3):Prop:=PI X tg e (lowI X.K t)
def O3 (X:Cx) (e:Option Expr) (t:TO3):Prop:=PO X e (lowO X.K t)
def Ifs3 (X:Cx) (es:List Expr) (t:TT3):Prop:=PIfs X es (lowT X.K t)
abbrev Op3 (X:Cx) (f:Value->Value->Sem Value) (r:R3):Prop:=OpR X f (lowR X.K r)
abbrev Call3 (X:Cx) (f:Value) (r:C3):Prop:=CallR X f (lowC X.K r)
section
variable {X:Cx} {a b c e o:Expr} {es:List Expr} {pos apos cpos p p2:Pos} {ta tb tc te:TE3} {t u:TT3} {ts us:TA3}
theorem ev (i:Nat) {x:Str} {pos:Pos} (hN:X.N[i]?=some x:=by rfl) (hv:Vis X.env.scope x:=by first | exact Or.inl rfl | exact Or.inr (Or.inl rfl) | exact Or.inr (Or.inr rfl)) (hd:(x == ("__debug__" : Str))=false:=by decide)
  (hcd:(x == ("__classdict__" : Str))=false:=by decide):E3 X (.Name x pos) (dVar i):=u26 (v82 hN hv hd hcd) fun _ _ _=>vg6
theorem u10 {i j pos}:E3 X (.Constant (.int i) j pos) (dC (.int i)):=u26 vr4 fun _ _ _=>uh8 fun _=>by rw [RelD]
theorem e_bl {i j pos}:E3 X (.Constant (.bool i) j pos) (dC (.bl i)):=u26 w02 fun _ _ _=>uh8 fun _=>by rw [RelD]
theorem uf5 {j pos}:E3 X (.Constant .none j pos) (dC .non):=u26 vr2 fun _ _ _=>uh8 fun _=>by rw [RelD]
theorem u08 {x j pos}:E3 X (.Constant (.str x) j pos) (dC (.str x)):=u26 vq9 fun _ _ _=>uh8 fun _=>by rw [RelD]
theorem ux5 {x:Str} {d:D} {v:V} {w:Value} (hg:Gl X x) (hm:X.mg x=some w) (r:RelV v w) (rd:∀ H,RelD X.K H d v) (hd:(x == ("__debug__" : Str))=false:=by decide):E3 X (.Name x pos) (dC d) :=
 u26 (vf1 hg hm r hd) fun _ _ _=>uh8 rd
theorem u16 {op:Operator} {r:R3} (ho:Op3 X (binaryOp op) r) (ha:E3 X a ta) (hb:E3 X b tb):E3 X (.BinOp a op b pos) (dOp r ta tb):=u26 (w00 ho ha hb) fun _ _ _=>ul3
theorem e_un {op:UnaryOp} {r:U3} (ho:UnR X (unaryOp op) (lowU X.K r)) (ha:E3 X a ta):E3 X (.UnaryOp op a pos) (dUn r ta):=u26 (vz9 ho ha) fun _ _ _=>vu1
theorem uo2 {op:CmpOp} {r:R3} (ho:Op3 X (compareOp op) r) (ha:E3 X a ta) (hb:E3 X b tb) (hm:behindInMarks op b=false):E3 X (.Compare a [op] [b] pos) (dOp r ta tb):=u26 (vf3 ho ha hb hm) fun _ _ _=>ul3
theorem u31 {op:CmpOp} {r:R3} (ho:Op3 X (compareOp op) r) (ha:E3 X a ta) (hb:E3 X b tb) (hm:behindInMarks op b=false):T3 X (.Compare a [op] [b] pos) (dB (dOp r ta tb)) :=
 v00 (vd8 ho ha hb hm) fun σ H Q h=>by
  obtain ⟨σd,G,q,rs,c,t,f⟩:=h;exact ul3 (K:=X.K) ⟨σd,G,_,rs,c,t,fun x G1 v H1 r1 c1 l1 t1=>by
   split at t1
   ·rename_i k
    exact ⟨k,r1.bl_inv,f _ _ _ c1 l1 t1⟩
   ·exact t1.elim⟩
theorem uq1 (h:E3 X e te) (he:∀ whole,isTrue e X.env whole=(do let v <- whole;standAt e.pos;holding [v] (truthy v)):=by intro _;rfl):T3 X e (dB te):=v00 (vp7 h he) fun _ _ _=>w08
theorem v72 (ha:T3 X a t):W3 X (.BoolOp .And [a] pos) t:=vd7 ha
theorem v02 (ha:T3 X a t):W3 X (.BoolOp .Or [a] pos) t:=vp5 ha
theorem w_and {rest:List Expr} (ha:T3 X a t) (hb:W3 X (.BoolOp .And (b::rest) pos) u):W3 X (.BoolOp .And (a::b::rest) pos) (dAnd t u):=vn3 (vp6 ha hb) fun _ _ _=>v38
theorem w_or {rest:List Expr} (ha:T3 X a t) (hb:W3 X (.BoolOp .Or (b::rest) pos) u):W3 X (.BoolOp .Or (a::b::rest) pos) (dOr t u):=vn3 (vz5 ha hb) fun _ _ _=>vh0
theorem t_w (h:W3 X e t):T3 X e t:=PW.pt h
theorem un2 (ha:T3 X a t):T3 X (.UnaryOp .Not a pos) (dNot t):=v00 (vp8 ha) fun _ _ _=>v30
theorem vx2 {op} (h:E3 X a ta):E3 X (.BoolOp op [a] pos) ta:=vr0 h
theorem vj7 {rest:List Expr} (ha:E3 X a ta) (hb:E3 X (.BoolOp .And (b::rest) pos) tb):E3 X (.BoolOp .And (a::b::rest) pos) (vk5 ta tb):=u26 (vr5 ha hb) fun _ _ _=>v37
theorem w09 (ha:E3 X a ta):E3 X (.UnaryOp .Not a pos) (vk2 ta):=u26 (vr1 ha) fun _ _ _=>v29
theorem e_if (hc:T3 X c t) (ha:E3 X a ta) (hb:E3 X b tb):E3 X (.IfExp c a b pos) (dIf t ta tb):=u26 (v21 hc ha hb) fun _ _ _=>vu4
theorem u04:A3 X [] dNil:=vn8 v83 fun _ _ _=>vh1
theorem u00 (ha:E3 X e te) (hr:A3 X es ts) (hs:starEach (e::es) X.env=(false,eval e X.env)::starEach es X.env:=by rfl):A3 X (e::es) (uy0 te ts):=vn8 (uh4 ha hr hs) fun _ _ _=>uc7
theorem ux3 {x1} (h:A3 X es ts):E3 X (.Tuple es x1 pos) (dTup ts):=u26 (vq8 h) fun _ _ _=>vg7
theorem u69 (h:A3 X es ts):E3 X (.List es pos) (dLst ts):=u26 (vr3 h) fun _ _ _=>vh2
theorem e_ix {r:R3} (hr:IxR X (lowR X.K r)) (ha:E3 X a ta) (hb:E3 X b tb) (hs:uz2 b:=by exact fun _ _=>rfl):E3 X (.Subscript a b pos) (dOp r ta tb):=u26 (w01 hr ha hb hs) fun _ _ _=>ul3
theorem uk8:O3 X none ui5:=vn6 ve3 fun _ _ _=>un7
theorem uk7 (h:E3 X e te):O3 X (some e) (vk1 te):=vn6 (ve2 h) fun _ _ _=>v28
theorem e_sl {r:RS3} {lo hi:Option Expr} {tl th:TO3} (hr:SlR X (vh6 X.K r)) (he:E3 X e te) (hl:O3 X lo tl) (hu:O3 X hi th):E3 X (.Subscript e (.Slice lo hi none p2) pos) (dSl r te tl th):=u26 (v20 hr he hl hu) fun _ _ _=>vu2
end
section
variable {X:Cx} {a b c e o value:Expr} {es:List Expr} {st:Stmt} {sts sts2:List Stmt} {pos pos' spos tpos:Pos} {te ta tv:TE3} {t:TT3} {s1 s2:TS3} {g:TG3}
theorem u25:Ss3 X [] vk3:=v68 ve0 fun _ _ _=>v31
theorem u03 (h1:S3 X st s1) (h2:Ss3 X sts s2):Ss3 X (st::sts) (dSeq s1 s2):=v68 (uk5 h1 h2) fun _ _ _=>vg8
theorem u07 (h1:S3 X st s1):Ss3 X [st] s1:=ur7 h1
theorem ur4 (he:E3 X e te) (hs:swapsWith e none pos.line X.env=pure false:=by rfl):S3 X (.Expr e pos) (v56 te):=uh2 (ur8 he hs) fun _ _ _=>ul4
theorem u24 (he:E3 X e te):S3 X (.Return (some e) pos) (dRet te):=uh2 (vq0 he) fun _ _ _=>vg9
theorem s_if (hc:T3 X c t) (ha:Ss3 X sts s1) (hb:Ss3 X sts2 s2):S3 X (.If c sts sts2 pos) (dIfS t s1 s2):=uh2 (vz6 hc ha hb) fun _ _ _=>vh3
theorem u37 (i:Nat) {x:Str} (hN:X.N.Nodup) (hi:X.N[i]?=some x:=by rfl) (hx:Loc X.env.scope x:=by first | exact Or.inl rfl | exact Or.inr rfl) (hf:X.fn x=true \/ X.env.scope.names.lookup x=some .local:=by first | exact .inl rfl | exact .inr rfl | assumption):J3 X (.Name x pos) (uv0 i) :=
 va8 (ve7 hN hi hx hf) fun _ _ _ _=>ut6
theorem uu8:Js3 X [] jNil:=v69 ve6 fun _ _ _ _=>v34
theorem u63 {t:TG3} {u:TGs3} (h1:J3 X e t) (h2:Js3 X es u) (hs:(assignEach (e::es) X.env).map (·.2)=assign e X.env::(assignEach es X.env).map (·.2):=by rfl):Js3 X (e::es) (vi3 t u):=v69 (v18 h1 h2 hs) fun _ _ _ _=>ut7
theorem vi1 {i:Expr} {to ti:TE3} {t:TSet3} (ho:E3 X o to) (hi:E3 X i ti) (hs:PSet X (uu0 X.K t))
  (ha:∀ v,assign (.Subscript o i pos) X.env v=(do
   let ov <- holding [v] (eval o X.env)
   let iv <- holding [v,ov] (eval i X.env)
   standAt pos
   holding [v,ov,iv] (setItem ov iv v)
   release [v,ov,iv] []):=by intro _;rfl):J3 X (.Subscript o i pos) (jSub to ti t):=va8 (vq7 ho hi hs ha) fun _ _ _ _=>v33
theorem v10 {tg:Expr} (he:E3 X e te) (hg:J3 X tg g) (hs:swapsWithSole [tg] e pos.line X.env=pure false:=by rfl) (hw:swappedStores [tg] e X.env=pure none:=by rfl)
  (h1:(assignEach [tg] X.env).map (·.2)=[assign tg X.env]:=by rfl):S3 X (.Assign [tg] e pos) (dAsg te g):=uh2 (vq2 he hg hs hw h1) fun _ _ _=>vh5
theorem u20 (i:Nat) {x:Str} (hN:X.N.Nodup) (he:E3 X e te) (hi:X.N[i]?=some x:=by rfl) (hx:Loc X.env.scope x:=by first | exact Or.inl rfl | exact Or.inr rfl) (hs:swapsWith e (some (.Name x pos')) pos.line X.env=pure false:=by rfl)
  (hf:X.fn x=true \/ X.env.scope.names.lookup x=some .local:=by first | exact .inl rfl | exact .inr rfl | assumption):S3 X (.Assign [.Name x pos'] e pos) (dAsg te (uv0 i)) :=
 uh2 (vp9 hN hi hx he hs hf) fun D σ H h=>by
  obtain ⟨σd,G,q,rs,c,t,f⟩:=h;exact ⟨σd,G,_,rs,c,t,fun x G1 v H1 r1 c1 l1 t1=>f.nx _ _ _ _ ((rs.le l1).set i r1) c1 l1 t1⟩
theorem v09 {tg iter:Expr} {body:List Stmt} {wi:TI3} (hi:I3 X tg iter wi) (hg:J3 X tg g) (hb:Ss3 X body s1) (hc:X.calm=true:=by rfl) (hp:PassesOwn (model X.prog X.w) X.A X.env X.xe:=by exact PassesOwn.never)
  (hs:∀ x,foldedSetIterable iter X.env x=pure x:=by intro _;rfl):S3 X (.For tg iter body [] pos) (dFor wi g s1):=uh2 (vq1 hp hc hi hg hb hs) fun _ _ _=>vh4
end
theorem ut4 {K:PySem.W.Frag} {σ:L2.St} {H:Hp} {ta:TA3} {R:It->Hp->Prop} (h:lowI K (fun σ G r=>ta σ G fun ds G1=>match ds with | [.int j]=>(-(2 ^ 62)<=j /\ j < 2 ^ 62) /\ r ⟨rngD 0 j.toNat,fun _=>True⟩ G1 | _=>False) σ H R):vw2 (lowA K ta) σ H R:=by
 obtain ⟨σd,G,q,rs,c,t,f⟩:=h;refine ⟨σd,G,_,rs,c,t,fun ds G1 vs H1 r1 c1 l1 t1=>?_⟩;split at t1
 ·rename_i j
  obtain ⟨x,r,rfl,rx,rr⟩:=r1.inv_cons;rw [RelD] at rx;subst rx;rw [rr.inv_nil];exact ⟨j,rfl,t1.1.1,t1.1.2,f _ _ _ _ ui0 c1 l1 t1.2⟩
 ·exact t1.elim
def vo0 (ta:TA3):TI3:=fun σ G r=>ta σ G fun ds G1=>match ds with | [.int j]=>(-(2 ^ 62)<=j /\ j < 2 ^ 62) /\ r ⟨rngD 0 j.toNat,fun _=>True⟩ G1 | _=>False
def vy8 (ta:TA3):TI3:=fun σ G r=>ta σ G fun ds G1=>match ds with | [.int i,.int j]=>(-(2 ^ 62)<=i /\ i < 2 ^ 62 /\ -(2 ^ 62)<=j /\ j < 2 ^ 62) /\ r ⟨rngD i (j - i).toNat,fun _=>True⟩ G1 | _=>False
section
variable {X:Cx} {a b e o tg:Expr} {es:List Expr} {p pos apos cpos:Pos} {ta:TE3} {ts:TA3}
theorem uw1 (hg:Gl X "range") (hm:X.mg "range" = none) (ha:A3 X [a] ts) (hs:starEach [a] X.env=[(false,eval a X.env)]:=by rfl):I3 X tg (.Call (.Name "range" p) [a] [] pos) (vo0 ts):=v01 (us0 hg hm ha hs) fun _ _ _=>ut4
variable {k:Nat} {f C:Addr} {fd:FuncData} {ps:List Str} {S:Sp3} {dds:List D} {dvs:List V} {ds:List Value} {x m:Str}
theorem vx4 (F:FnOk X.prog X.w X.K X.mg X.base CX0 k f fd ps (u99 X.K S)) (hr:Room k X.A) (hg:Gl X x) (hm:X.mg x=some (.ref f)) (hk:PySem.W.keepIn X.K (.ref f)=true) (hb:Binds X.K fd ps ds) (hd:Vals dvs ds) (hdd:∀ H,RelDs X.K H dds dvs)
  (ha:A3 X (e::es) ts) (hdb:(x == ("__debug__" : Str))=false:=by decide) (he:starEach (e::es) X.env=(false,eval e X.env)::starEach es X.env:=by rfl) (hpl:(backTo pos (starEach es X.env)).any (·.1)=false:=by rfl) :
  E3 X (.Call (.Name x p) (e::es) [] pos) (dCall S dds ts):=u26 (us2 F hr hg hm hk hb hd pass0 ha hdb he hpl) fun _ _ _=>v36 hdd
theorem vx3 {pl:Sem Bool} (he:E3 X o ta) (c:Cls X.K C) (hm:Meth X.K C m f) (F:FnOk X.prog X.w X.K X.mg X.base CX0 k f fd ps (u99 X.K S)) (hr:Room k X.A) (hb:Binds X.K fd ps ds) (hd:Vals dvs ds) (hdd:∀ H,RelDs X.K H dds dvs) (ha:A3 X (e::es) ts)
  (hse:starEach (e::es) X.env=(false,eval e X.env)::starEach es X.env:=by rfl) (hpl:(backTo pos (starEach es X.env)).any (·.1)=false:=by rfl)
  (ht:eval (.Call (.Attribute o m apos) (e::es) [] pos) X.env=(do
   let ov <- eval o X.env
   standAt apos.atName
   let (f,first) <- holding [ov] (getMethod ov m pl)
   callWith pos f first (backTo pos (starEach (e::es) X.env)) (backToKw pos (keywordEach [] X.env))):=by rfl):E3 X (.Call (.Attribute o m apos) (e::es) [] pos) (v55 C m S dds ta ts) :=
 u26 (vf0 he c hm F hr hb hd pass0 ha hse hpl ht) fun _ _ _=>v32 hdd
variable {id T:String} {r:C3} {rm:M3} {name:Str}
theorem u11 (hc:Call3 X (.builtin id) r) (hg:Gl X x) (hm:X.mg x=none) (hv:bootBuiltins x=some (.builtin id)) (ha:A3 X (e::es) ts) (hn:x ≠ "__name__" := by decide) (hdb:(x == ("__debug__" : Str))=false:=by decide)
  (he:starEach (e::es) X.env=(false,eval e X.env)::starEach es X.env:=by rfl) (hpl:(backTo pos (starEach es X.env)).any (·.1)=false:=by rfl):E3 X (.Call (.Name x p) (e::es) [] pos) (dCB r ts) :=
 u26 (v23 hc hg hm hv ha hn hdb he hpl) fun _ _ _=>v87
theorem u61 (hc:Call3 X (.type T) r) (hg:Gl X x) (hm:X.mg x=none) (hv:bootBuiltins x=some (.type T)) (ha:A3 X (e::es) ts) (hn:x ≠ "__name__" := by decide) (hdb:(x == ("__debug__" : Str))=false:=by decide)
  (he:starEach (e::es) X.env=(false,eval e X.env)::starEach es X.env:=by rfl) (hpl:(backTo pos (starEach es X.env)).any (·.1)=false:=by rfl):E3 X (.Call (.Name x p) (e::es) [] pos) (dCB r ts) :=
 u26 (us1 hc hg hm hv ha hn hdb he hpl) fun _ _ _=>v87
end
def ua6 (ix:List (Option Nat)) (σ:DSt):DSt:=ix.map fun o=>o.bind fun j=>(σ[j]?).bind id
def ua0 (ok:Gp->Prop) (g:TG3) (tc:TT3) (te:TE3) (p:Addr) (q:DK):List D->DSt->Gp->Prop
 | [],_,G=>ok G /\ q (.ref p) G
 | x::r,σ,G=>ok G /\ g x σ G fun σ2 G2=>tc σ2 G2 fun b G3 =>
  if b=true then te σ2 G3 fun d G4=>(match G4 p with | some (.lst ys)=>ys.length < sizeLine /\ ua0 ok g tc te p q r σ2 (gup G4 p (.lst (ys++[d]))) | _=>False)
  else ua0 ok g tc te p q r σ2 G3
def vk4 (ix:List (Option Nat)) (wi:TI3) (g:TG3) (tc:TT3) (te:TE3):TE3:=fun σ G q=>wi σ G fun it G1=>∀ p,G1 p=none->ua0 it.ok g tc te p q it.items (ua6 ix σ) (gup G1 p (.lst []))
theorem RelSt.inn {K:PySem.W.Frag} {H:Hp} {σd:DSt} {σ:L2.St} (h:RelSt K H σd σ) (ix:List (Option Nat)):RelSt K H (ua6 ix σd) (L2.inner ix σ):=by
 refine ⟨by unfold ua6 L2.inner;rw [List.length_map,List.length_map],fun i d e=>?_⟩;unfold ua6 at e;unfold L2.inner;rw [List.getElem?_map] at e ⊢;cases ho:ix[i]? with
 | none=>rw [ho] at e;cases e
 | some o =>
  rw [ho] at e;cases o with
  | none=>cases e
  | some j =>
   have e:(σd[j]?).bind id=some d:=Option.some.inj e;have e:σd[j]?=some (some d):=by
    cases hs:σd[j]? with
    | none=>rw [hs] at e;cases e
    | some w=>rw [hs] at e;cases e;rfl
   obtain ⟨v,hv,r⟩:=h.2 j d e;exact ⟨v,by show some ((σ[j]?).bind id)=_;rw [hv];rfl,r⟩
theorem v35 {K:PySem.W.Frag} {ix:List (Option Nat)} {wi:TI3} {g:TG3} {tc:TT3} {te:TE3} {σ:L2.St} {H:Hp} {Q:VK} (h:lowE K (vk4 ix wi g tc te) σ H Q):vo7 ix (lowI K wi) (lowG K g) (lowT K tc) (lowE K te) σ H Q:=by
 obtain ⟨σd,G,q,rs,cc,t,f⟩:=h;refine ⟨σd,G,_,rs,cc,t,fun it J G1 H1 ir c1 l1 t1=>?_⟩;intro p hp;have t1:=t1 p (c1.fresh hp);have c2:Con K (gup G1 p (.lst [])) (upd H1 p (.lst [])):=c1.lstNew hp .nil;have l2:Le H1 (upd H1 p (.lst [])):=Le.fresh hp;refine ⟨fun i m σ' H'=>∃ σd' G',Le (upd H1 p (.lst [])) H' /\ RelSt K H' σd' σ' /\ Con K G' H' /\ i+m=it.items.length /\ ua0 it.ok g tc te p q (it.items.drop i) σd' G',
  ⟨it.items.length,ua6 ix σd,_,Le.refl _,(rs.le (l1.trans l2)).inn ix,c2,by omega,by rw [List.drop_zero];exact t1⟩,?_⟩
 rintro i m σ2 H2 ⟨σd2,G2,l3,rs2,c2,e2,t2⟩;have l12:Le H1 H2:=l2.trans l3
 by_cases hi:i < it.items.length
 ·rw [List.drop_eq_getElem_cons hi] at t2
  obtain ⟨ok2,t2⟩:=t2;refine .inr ⟨ir.go i G2 H2 l12 c2 ok2 hi,fun σ' H'=>∃ σd' G',Le (upd H1 p (.lst [])) H' /\ RelSt K H' σd' σ' /\ Con K G' H' /\ ua0 it.ok g tc te p q (it.items.drop (i+1)) σd' G',?_,?_⟩
  ·rintro σ' H' ⟨σd',G',a1,a2,a3,a4⟩
   exact ⟨m - 1,by omega,σd',G',a1,a2,a3,by omega,a4⟩
  ·intro x H3 y
   obtain ⟨c3,l4,e,he,r3⟩:=ir.yld i G2 H2 x H3 l12 c2 ok2 hi y;rw [List.getElem?_eq_getElem hi] at he;cases he;refine ⟨_,σd2,G2,_,r3,rs2.le l4,c3,t2,fun σd4 G4 σ4 H4 rs4 c4 l5 t4=>?_⟩;refine ⟨σd4,G4,_,rs4,c4,t4,fun b G5 H5 c5 l6 t5=>?_⟩;cases b with
   | false =>
    rw [if_neg Bool.false_ne_true] at t5 ⊢;exact ⟨σd4,G5,l3.trans (l4.trans (l5.trans l6)),rs4.le l6,c5,t5⟩
   | true =>
    rw [if_pos rfl] at t5 ⊢;refine ⟨σd4,G5,_,rs4.le l6,c5,t5,fun d G6 v H6 r6 c6 l7 t6=>?_⟩;split at t6
    ·rename_i ys eg
     obtain ⟨xs,ex,rx⟩:=c6 p _ eg;have l8:=Le.lst (ys:=xs++[v]) ex;exact ⟨xs,ex,by rw [<- rx.length];exact t6.1,σd4,_,l3.trans (l4.trans (l5.trans (l6.trans (l7.trans l8)))),rs4.le (l6.trans (l7.trans l8)),c6.lstSet ex (rx.append (.cons r6 .nil)),t6.2⟩
    ·exact t6.elim
 ·rw [List.drop_eq_nil_of_le (by omega)] at t2
  exact .inl ⟨ir.stop i G2 H2 l12 c2 t2.1 (by omega),f _ _ _ _ RelD.refI c2 (l1.trans l12) t2.2⟩
def dYes:TT3:=fun _ G q=>q true G
section
variable {X:Cx} {elt tg iter:Expr} {ifs:List Expr} {scope:Scope} {pos:Pos} {N':List Str} {ix:List (Option Nat)} {wi:TI3} {g:TG3} {tc:TT3} {te:TE3}
theorem u89:Ifs3 X [] dYes:=va7 v17 fun σ H Q h=>by
 obtain ⟨σd,G,q,rs,c,t,f⟩:=h;exact f _ _ _ c (Le.refl H) t
theorem uf6 (B:BlkOk X N' ix scope) (hw:I3 X tg iter wi) (hg:∀ C s H fp,J3 (u55 X N' scope C s H fp) tg g) (hi:∀ C s H fp,Ifs3 (u55 X N' scope C s H fp) ifs tc) (he:∀ C s H fp,E3 (u55 X N' scope C s H fp) elt te)
  (hc:X.calm=true:=by rfl) (hs:∀ x,foldedSetIterable iter X.env x=pure x:=by intro _;rfl):E3 X (.ListComp elt [⟨tg,iter,ifs,0⟩] scope pos) (vk4 ix wi g tc te) :=
 u26 (vf2 (g:=lowG X.K g) (tc:=lowT X.K tc) (te:=lowE X.K te) B hc hw hg hi he hs) fun _ _ _=>v35
end
def xAdd:R3:=fun x y G q=>match x,y with
 | .int i,.int j=>q (.int (i+j)) G
 | .str a,.str b=>a.length+b.length<=sizeLine /\ q (.str (a++b)) G
 | .tup a,.tup b=>a ≠ [] /\ a.length+b.length<=sizeLine /\ q (.tup (a++b)) G
 | .ref a,.ref b=>(match G a,G b with
  | some (.lst xs),some (.lst ys)=>xs.length+ys.length<=sizeLine /\ ∀ p,G p=none->q (.ref p) (gup G p (.lst (xs++ys)))
  | _,_=>False)
 | _,_=>False
def xInt (f:Int->Int->Int):R3:=fun x y G q=>match x,y with | .int i,.int j=>q (.int (f i j)) G | _,_=>False
def ue0 (C:Int->Int->Prop) (f:Int->Int->Int):R3:=fun x y G q=>match x,y with | .int i,.int j=>C i j /\ q (.int (f i j)) G | _,_=>False
def xSub:R3:=xInt fun i j=>i - j
def xMul:R3:=fun x y G q=>match x,y with
 | .int i,.int j=>CMul i j /\ q (.int (i * j)) G
 | .ref a,.int k=>(match G a with
  | some (.lst xs)=>(-(2 ^ 63)<=k /\ k < 2 ^ 63 /\ xs.length * k.toNat<=sizeLine) /\ ∀ p,G p=none->q (.ref p) (gup G p (.lst (List.replicate k.toNat xs).flatten))
  | _=>False)
 | _,_=>False
def w21 (_ j:Int):Prop:=0 < j /\ j < 18446744073709551616
def xDiv:R3:=ue0 w21 fun i j=>i / j
def xMod:R3:=ue0 (fun _ j=>0 < j) fun i j=>i % j
def xPow:R3:=ue0 CPow fun i j=>i ^ j.toNat
def xShl:R3:=ue0 CPow fun i j=>i * 2 ^ j.toNat
def xShr:R3:=ue0 (fun _ j=>0<=j) fun i j=>i / 2 ^ j.toNat
def xAnd:R3:=xInt Builtin.bitAnd
def xOr:R3:=xInt Builtin.bitOr
def xXor:R3:=xInt Builtin.bitXor
def xLt:R3:=fun x y G q=>match x,y with | .int i,.int j=>q (.bl (decide (i < j))) G | .str a,.str b=>q (.bl (decide (a.cps.toList < b.cps.toList))) G | _,_=>False
def xLe:R3:=fun x y G q=>match x,y with | .int i,.int j=>q (.bl (decide (i<=j))) G | _,_=>False
def xGt:R3:=fun x y G q=>match x,y with | .int i,.int j=>q (.bl (decide (j < i))) G | _,_=>False
def xGe:R3:=fun x y G q=>match x,y with | .int i,.int j=>q (.bl (decide (j<=i))) G | _,_=>False
section
variable {X:Cx} {K:PySem.W.Frag} {H:Hp}
theorem RelD.int_inv {i:Int} {v:V} (h:RelD K H (.int i) v):v=.int i:=by rw [RelD] at h;exact h
theorem RelD.str_inv {i:Str} {v:V} (h:RelD K H (.str i) v):v=.str i:=by rw [RelD] at h;exact h
theorem RelD.non_inv {v:V} (h:RelD K H .non v):v=.non:=by rw [RelD] at h;exact h
theorem RelD.tup_inv {ds:List D} {v:V} (h:RelD K H (.tup ds) v):∃ a xs,v=.ref a /\ SqT K H a xs /\ RelDs K H ds xs:=by rw [RelD] at h;exact h
theorem RelD.intI {i:Int}:RelD K H (.int i) (.int i):=by rw [RelD]
theorem RelD.strI {i:Str}:RelD K H (.str i) (.str i):=by rw [RelD]
theorem RelD.blI {i:Bool}:RelD K H (.bl i) (.bl i):=by rw [RelD]
theorem RelD.nonI:RelD K H .non .non:=by rw [RelD]
theorem v63 {f:Value->Value->Sem Value} {C:Int->Int->Prop} {g:Int->Int->Int} (h:OpR X f (rI C fun i j=>.int (g i j))):Op3 X f (ue0 C g):=u48 h fun x y H Q ⟨d,e,G,q,r1,r2,c,t,f⟩=>by
 unfold ue0 at t;split at t
 ·exact ⟨_,_,r1.int_inv,r2.int_inv,t.1,f _ _ _ _ RelD.intI c (Le.refl H) t.2⟩
 ·exact t.elim
theorem ug8:Op3 X (binaryOp .Mod) xMod:=v63 vs0
theorem vm7:Op3 X (binaryOp .Pow) xPow:=v63 vr8
theorem u28:Op3 X (binaryOp .Add) xAdd:=u48 (op_add.or (op_add_str.or (op_catT.or vs4))) <| by
 rintro x y H Q ⟨d,e,G,q,r1,r2,c,t,f⟩;unfold xAdd at t;split at t
 ·exact .inl ⟨_,_,r1.int_inv,r2.int_inv,f _ _ _ _ RelD.intI c (Le.refl H) t⟩
 ·exact .inr (.inl ⟨_,_,r1.str_inv,r2.str_inv,t.1,f _ _ _ _ RelD.strI c (Le.refl H) t.2⟩)
 ·obtain ⟨a,xs,rfl,s1,q1⟩:=r1.tup_inv
  obtain ⟨b,ys,rfl,s2,q2⟩:=r2.tup_inv;refine .inr (.inr (.inl ⟨a,b,xs,ys,rfl,rfl,s1,s2,fun z=>t.1 ?_,by rw [<- q1.length,<- q2.length];exact t.2.1,fun z=>?_,fun _ p hp=>?_⟩))
  ·have:=q1.length;rw [z] at this;exact List.eq_nil_of_length_eq_zero this
  ·refine f (.tup _) G (.ref a) _ ?_ c (Le.refl _) t.2.2
   rw [RelD];subst z;have e:∀ {bs:List D},RelDs X.K H bs []->bs=[]:=fun h=>List.eq_nil_of_length_eq_zero h.length
   rw [e q2,List.append_nil];exact ⟨a,_,rfl,s1,q1⟩
  ·refine f (.tup _) G (.ref p) _ ?_ (c.side hp) (Le.fresh hp) t.2.2
   rw [RelD];exact ⟨p,_,rfl,SqT.of u12,RelDs.le (Le.fresh hp) (q1.append q2)⟩
 ·rename_i a b
  split at t
  ·rename_i xs ys e1 e2
   obtain ⟨vs,h1,q1⟩:=c _ _ e1;obtain ⟨ws,h2,q2⟩:=c _ _ e2;exact .inr (.inr (.inr ⟨a,b,vs,ws,r1.ref_inv,r2.ref_inv,h1,h2,by rw [<- q1.length,<- q2.length];exact t.1,fun p hp=>f _ _ _ _ RelD.refI (c.lstNew hp (q1.append q2)) (Le.fresh hp) (t.2 p (c.fresh hp))⟩))
  ·exact t.elim
 ·exact t.elim
theorem uo8:Op3 X (binaryOp .Mult) xMul:=u48 (op_mul.or vr7) <| by
 rintro x y H Q ⟨d,e,G,q,r1,r2,c,t,f⟩;unfold xMul at t;split at t
 ·exact .inl ⟨_,_,r1.int_inv,r2.int_inv,t.1,f _ _ _ _ RelD.intI c (Le.refl H) t.2⟩
 ·rename_i a k
  split at t
  ·rename_i xs e1
   obtain ⟨vs,h1,q1⟩:=c _ _ e1;refine .inr ⟨a,k,vs,r1.ref_inv,r2.int_inv,h1,t.1.1,t.1.2.1,by rw [<- q1.length];exact t.1.2.2,?_⟩;intro p hp;exact f _ _ _ _ RelD.refI (c.lstNew hp (q1.rep _)) (Le.fresh hp) (t.2 p (c.fresh hp))
  ·exact t.elim
 ·exact t.elim
theorem uo9 {f:Value->Value->Sem Value} {g:Int->Int->Bool} (h:OpR X f (rI0 fun i j=>.bl (g i j))):Op3 X f (fun x y G q=>match x,y with | .int i,.int j=>q (.bl (g i j)) G | _,_=>False):=u48 h fun x y H Q ⟨d,e,G,q,r1,r2,c,t,f⟩=>by
 dsimp only at t;split at t
 ·exact ⟨_,_,r1.int_inv,r2.int_inv,f _ _ _ _ RelD.blI c (Le.refl H) t⟩
 ·exact t.elim
theorem x_le:Op3 X (compareOp .LtE) xLe:=uo9 w03
theorem x_gt:Op3 X (compareOp .Gt) xGt:=uo9 w04
theorem x_ge:Op3 X (compareOp .GtE) xGe:=uo9 w05
theorem x_lt:Op3 X (compareOp .Lt) xLt:=u48 (op_lt.or us4) <| by
 rintro x y H Q ⟨d,e,G,q,r1,r2,c,t,f⟩;unfold xLt at t;split at t
 ·exact .inl ⟨_,_,r1.int_inv,r2.int_inv,f _ _ _ _ RelD.blI c (Le.refl H) t⟩
 ·exact .inr ⟨_,_,r1.str_inv,r2.str_inv,f _ _ _ _ RelD.blI c (Le.refl H) t⟩
 ·exact t.elim
theorem RelD.not_non {d:D} {v:V} (h:RelD K H d v) (n:d ≠ .non):v ≠ .non:=by
 cases d with
 | non=>exact absurd rfl n
 | bl _=>rw [h.bl_inv];exact fun z=>nomatch z
 | int _=>rw [h.int_inv];exact fun z=>nomatch z
 | str _=>rw [h.str_inv];exact fun z=>nomatch z
 | ref _=>rw [h.ref_inv];exact fun z=>nomatch z
 | ty _=>rw [RelD] at h;rw [h];exact fun z=>nomatch z
 | tup _=>obtain ⟨a,xs,e,_⟩:=h.tup_inv;rw [e];exact fun z=>nomatch z
def xNeg:U3:=fun x G q=>match x with | .int i=>q (.int (-i)) G | _=>False
theorem va2:UnR X (unaryOp .USub) (lowU X.K xNeg):=vn4 vo1 <| by
 rintro x H Q ⟨d,G,q,r1,c,t,f⟩;unfold xNeg at t;split at t
 ·exact ⟨_,r1.int_inv,f _ _ _ _ RelD.intI c (Le.refl H) t⟩
 ·exact t.elim
def xIx:R3:=fun x y G q=>match x,y with
 | .tup ds,.int i=>(match atI ds i with | some d=>q d G | none=>False)
 | .ref a,.int i=>(match u18 (G a) with | some ds=>(match atI ds i with | some d=>q d G | none=>False) | none=>False)
 | .str z,.int i=>z.length<=sizeLine /\ (match atI z.cps.toList i with | some c=>q (.str ⟨#[c]⟩) G | none=>False)
 | _,_=>False
theorem RelDs.atI {ds:List D} {xs:List V} {i:Int} {d:D} (h:RelDs K H ds xs) (e:L2.atI ds i=some d):∃ v,L2.atI xs i=some v /\ RelD K H d v:=by
 unfold L2.atI at e ⊢;rw [<- h.length];cases hj:ixN ds.length i with
 | none=>rw [hj] at e;cases e
 | some j =>
  rw [hj] at e;exact h.get e
theorem x_ix:IxR X (lowR X.K xIx):=vn7 vv4 <| by
 rintro x y H Q ⟨d,e,G,q,r1,r2,c,t,f⟩;unfold xIx at t;split at t
 ·rename_i ds i
  obtain ⟨a,xs,rfl,s1,q1⟩:=r1.tup_inv;split at t
  ·rename_i w ew
   obtain ⟨v,hv,rv⟩:=q1.atI ew;exact .inr (.inl ⟨a,xs,i,v,rfl,r2.int_inv,s1,hv,f _ _ _ _ rv c (Le.refl H) t⟩)
  ·exact t.elim
 ·rename_i a i
  split at t
  ·rename_i ds es
   obtain ⟨xs,s1,q1⟩:=u17 c es;split at t
   ·rename_i w ew
    obtain ⟨v,hv,rv⟩:=q1.atI ew;exact .inl ⟨a,xs,i,v,r1.ref_inv,r2.int_inv,s1,hv,f _ _ _ _ rv c (Le.refl H) t⟩
   ·exact t.elim
  ·exact t.elim
 ·rename_i z i
  obtain ⟨hz,t⟩:=t;split at t
  ·rename_i w ew
   exact .inr (.inr ⟨z,i,w,r1.str_inv,r2.int_inv,hz,ew,f _ _ _ _ RelD.strI c (Le.refl H) t⟩)
  ·exact t.elim
 ·exact t.elim
def cutD {α:Type} (xs:List α) (lo hi:Option Int):List α:=(xs.drop (HT.sIx xs.length 0 lo)).take (HT.sIx xs.length xs.length hi - HT.sIx xs.length 0 lo)
def xSet:TSet3:=fun o i v G q=>match o,i with
 | .ref a,.int k=>(match G a with | some (.lst ds)=>(match ixN ds.length k with | some j=>q (gup G a (.lst (ds.set j v))) | none=>False) | _=>False)
 | _,_=>False
theorem va0:PSet X (uu0 X.K xSet):=va6 set_list <| by
 rintro o i v H Q ⟨d,e,x,G,q,r1,r2,r3,c,t,f⟩;unfold xSet at t;split at t
 ·rename_i a k
  split at t
  ·rename_i ds e1
   obtain ⟨xs,h1,q1⟩:=c _ _ e1;split at t
   ·rename_i j ej
    exact ⟨a,xs,k,j,r1.ref_inv,r2.int_inv,h1,by rw [<- q1.length];exact ej,f _ _ (c.lstSet h1 (q1.set r3 j)) (Le.lst h1) t⟩
   ·exact t.elim
  ·exact t.elim
 ·exact t.elim
end
inductive Sn where
 | non | bl (b:Bool) | int (i:Int) | str (x:Str) | tup (xs:List Sn) | lst (xs:List Sn)
def snap (G:Gp):Nat->D->Option Sn
 | _,.non=>some .non
 | _,.bl b=>some (.bl b)
 | _,.int i=>some (.int i)
 | _,.str x=>some (.str x)
 | n+1,.tup ds=>(ds.mapM (snap G n)).map .tup
 | n+1,.ref a=>(u18 (G a)).bind fun ds=>(ds.mapM (snap G n)).map .lst
 | _,_=>none
def u29:Sn->Bool
 | .non=>true | .bl _=>true | .int _=>true | .str _=>true | _=>false
def eqF:Sn->Sn->Bool
 | .non,.non=>true
 | .bl a,.bl b=>a == b
 | .bl a,.int b=>(if a then 1 else 0) == b
 | .int a,.bl b=>a == (if b then 1 else 0)
 | .int a,.int b=>a == b
 | .str a,.str b=>a == b
 | _,_=>false
def eqN:Nat->Sn->Sn->Option Bool
 | n+1,.tup xs,.tup ys=>if xs.length=ys.length then ((xs.zip ys).mapM fun p=>eqN n p.1 p.2).map fun bs=>bs.all id else none
 | n+1,.lst xs,.lst ys=>if xs.length=ys.length then ((xs.zip ys).mapM fun p=>eqN n p.1 p.2).map fun bs=>bs.all id else some false
 | _,x,y=>if (u29 x && u29 y)=true then some (eqF x y) else none
theorem u14 {α β:Type} {f:α->Option β}:∀ {xs:List α} {ys:List β},xs.mapM f=some ys->xs.length=ys.length /\ ∀ (i:Nat) x,xs[i]?=some x->∃ y,ys[i]?=some y /\ f x=some y
 | [],ys,h=>by
  have:ys=[]:=by simpa using h.symm
  subst this;exact ⟨rfl,fun i x e=>by simp at e⟩
 | x::xs,ys,h=>by
  rw [List.mapM_cons] at h;cases hx:f x with
  | none=>rw [hx] at h;cases h
  | some y =>
   rw [hx] at h;cases hr:xs.mapM f with
   | none=>rw [hr] at h;cases h
   | some r =>
    rw [hr] at h;have e:y::r=ys:=Option.some.inj h;subst e;obtain ⟨h1,h2⟩:=u14 hr;refine ⟨by simp [h1],fun i z e=>?_⟩;cases i with
    | zero=>cases (show x=z from Option.some.inj e);exact ⟨y,rfl,hx⟩
    | succ i=>exact h2 i z e
theorem ua7 {bs:List Bool} {e:Nat->Bool} {n:Nat} (hl:bs.length=n) (h:∀ (i:Nat) b,bs[i]?=some b->e i=b):(List.range n).all e=bs.all id:=by
 rw [Bool.eq_iff_iff,List.all_eq_true,List.all_eq_true]
 constructor
 ·intro q b hb
  obtain ⟨i,hi,eb⟩:=List.mem_iff_getElem.mp hb;have:=q i (List.mem_range.mpr (by omega));rw [h i b (by rw [List.getElem?_eq_getElem hi,eb])] at this;exact this
 ·intro q i hi
  have hi:=List.mem_range.mp hi;rw [h i bs[i] (List.getElem?_eq_getElem (by omega))];exact q _ (List.getElem_mem _)
section
variable {X:Cx} {pins:List (Addr × Obj)} {σ:L2.St} {H:Hp} {s:Shared} {G:Gp}
theorem ui4 {n:Nat} {d:D} {sd:Sn} {x:V} {u:Value} (h:snap G n d=some sd) (fl:u29 sd=true) (r:RelD X.K H d x):u92 x=true /\ ∀ (e:D) (se:Sn) (y:V),snap G n e=some se->u29 se=true->RelD X.K H e y->eqV x y=eqF sd se:=by
  have key:∀ (d:D) (sd:Sn) (x:V),snap G n d=some sd->u29 sd=true->RelD X.K H d x->(sd=.non /\ x=.non) \/ (∃ b,sd=.bl b /\ x=.bl b) \/ (∃ i,sd=.int i /\ x=.int i) \/ (∃ z,sd=.str z /\ x=.str z):=by
    intro d sd x h fl r;cases d with
    | non => have e : Sn.non = sd := by cases n <;> exact Option.some.inj h
             subst e;exact .inl ⟨rfl,r.non_inv⟩
    | bl b => have e : Sn.bl b = sd := by cases n <;> exact Option.some.inj h
              subst e;exact .inr (.inl ⟨b,rfl,r.bl_inv⟩)
    | int b => have e : Sn.int b = sd := by cases n <;> exact Option.some.inj h
               subst e;exact .inr (.inr (.inl ⟨b,rfl,r.int_inv⟩))
    | str b => have e : Sn.str b = sd := by cases n <;> exact Option.some.inj h
               subst e;exact .inr (.inr (.inr ⟨b,rfl,r.str_inv⟩))
    | tup ds =>
      cases n with
      | zero=>cases h
      | succ n =>
        have h:(ds.mapM (snap G n)).map Sn.tup=some sd:=h;obtain ⟨a,_,rfl⟩:=Option.map_eq_some_iff.mp h;cases fl
    | ref a =>
      cases n with
      | zero=>cases h
      | succ n =>
        have h:((u18 (G a)).bind fun ds=>(ds.mapM (snap G n)).map Sn.lst)=some sd:=h;obtain ⟨ds,_,h⟩:=Option.bind_eq_some_iff.mp h;obtain ⟨a,_,rfl⟩:=Option.map_eq_some_iff.mp h;cases fl
    | ty t=>cases n <;> cases h
  rcases key d sd x h fl r with ⟨rfl,rfl⟩ | ⟨b,rfl,rfl⟩ | ⟨b,rfl,rfl⟩ | ⟨b,rfl,rfl⟩ <;> refine ⟨rfl,fun e se y h' fl' r'=>?_⟩ <;>
    rcases key e se y h' fl' r' with ⟨rfl,rfl⟩ | ⟨c,rfl,rfl⟩ | ⟨c,rfl,rfl⟩ | ⟨c,rfl,rfl⟩ <;> rfl
theorem snap_tup {n:Nat} {ds:List D} {sd:Sn} (h:snap G n (.tup ds)=some sd):∃ m ss,n=m+1 /\ sd=.tup ss /\ ds.mapM (snap G m)=some ss:=by
 cases n with
 | zero=>cases h
 | succ n =>
  obtain ⟨ss,h1,rfl⟩:=Option.map_eq_some_iff.mp (show (ds.mapM (snap G n)).map Sn.tup=some sd from h);exact ⟨n,ss,rfl,rfl,h1⟩
theorem snap_ref {n:Nat} {a:Addr} {sd:Sn} (h:snap G n (.ref a)=some sd):∃ m ds ss,n=m+1 /\ sd=.lst ss /\ u18 (G a)=some ds /\ ds.mapM (snap G m)=some ss:=by
 cases n with
 | zero=>cases h
 | succ n =>
  obtain ⟨ds,h0,h⟩:=Option.bind_eq_some_iff.mp (show ((u18 (G a)).bind fun ds=>(ds.mapM (snap G n)).map Sn.lst)=some sd from h);obtain ⟨ss,h1,rfl⟩:=Option.map_eq_some_iff.mp h;exact ⟨n,ds,ss,rfl,rfl,h0,h1⟩
theorem ul8 {n:Nat} {x y:Sn} (hx:u29 x=true):eqN n x y=if (u29 x && u29 y)=true then some (eqF x y) else none:=by
 cases x with
 | tup _=>cases hx
 | lst _=>cases hx
 | non=>cases n <;> rfl
 | bl _=>cases n <;> rfl
 | int _=>cases n <;> rfl
 | str _=>cases n <;> rfl
theorem u60 {n:Nat} {x y:Sn} {b:Bool} (h:eqN n x y=some b) (fl:¬ (u29 x && u29 y)=true):(∃ m xs ys,n=m+1 /\ x=.tup xs /\ y=.tup ys) \/ (∃ m xs ys,n=m+1 /\ x=.lst xs /\ y=.lst ys):=by
 unfold eqN at h;split at h
 ·exact .inl ⟨_,_,_,rfl,rfl,rfl⟩
 ·exact .inr ⟨_,_,_,rfl,rfl,rfl⟩
 ·rw [if_neg fl] at h;cases h
theorem u35 {n:Nat} {d:D} {ss:List Sn} (h:snap G n d=some (.tup ss)):∃ ds,d=.tup ds:=by
 cases d with
 | tup ds=>exact ⟨ds,rfl⟩
 | ref a=>obtain ⟨_,_,_,_,e',_⟩:=snap_ref h;cases e'
 | _=>cases n <;> cases h
theorem u36 {n:Nat} {d:D} {ss:List Sn} (h:snap G n d=some (.lst ss)):∃ a,d=.ref a:=by
 cases d with
 | ref a=>exact ⟨a,rfl⟩
 | tup ds=>obtain ⟨_,_,_,e',_⟩:=snap_tup h;cases e'
 | _=>cases n <;> cases h
theorem ue6 {n:Nat} {d e:D} {x:V} {sd se:Sn} {b:Bool} (r1:RelD X.K H d x) (r2:RelD X.K H e x) (h1:snap G n d=some sd) (h2:snap G n e=some se) (hb:eqN n sd se=some b) (fl:(u29 sd && u29 se)=true):b=true:=by
 rw [Bool.and_eq_true] at fl;have z:=hb;rw [ul8 fl.1,if_pos (by rw [fl.1,fl.2];rfl)] at z;obtain ⟨fx,k⟩:=ui4 (u:=Value.none) h1 fl.1 r1;rw [<- Option.some.inj z,<- k e se x h2 fl.2 r2];cases x with
 | non=>rfl
 | bl b=>exact beq_self_eq_true b
 | int i=>exact beq_self_eq_true i
 | str w=>exact beq_self_eq_true w
 | _=>cases fx
theorem ur2 (I:Inv X pins σ H s) (c:Con X.K G H):∀ (n:Nat) (d e:D) (x:V) (sd se:Sn) (b:Bool),RelD X.K H d x->RelD X.K H e x->snap G n d=some sd->snap G n e=some se->eqN n sd se=some b->b=true:=by
 intro n
 induction n with
 | zero =>
  intro d e x sd se b r1 r2 h1 h2 hb
  by_cases fl:(u29 sd && u29 se)=true
  ·exact ue6 r1 r2 h1 h2 hb fl
  ·rcases u60 hb fl with ⟨_,_,_,z,_⟩ | ⟨_,_,_,z,_⟩ <;> cases z
 | succ m ih =>
  intro d e x sd se b r1 r2 h1 h2 hb
  by_cases fl:(u29 sd && u29 se)=true
  ·exact ue6 r1 r2 h1 h2 hb fl
  have items:∀ (ds es:List D) (xs:List V) (ss ts:List Sn) (bs:List Bool),RelDs X.K H ds xs->RelDs X.K H es xs->ds.mapM (snap G m)=some ss->es.mapM (snap G m)=some ts->((ss.zip ts).mapM fun p=>eqN m p.1 p.2)=some bs->bs.all id=true:=by
   intro ds es xs ss ts bs q1 q2 k1 k2 kb;rw [List.all_eq_true];intro b hb;obtain ⟨i,hi,eb⟩:=List.mem_iff_getElem.mp hb;obtain ⟨l1,f1⟩:=u14 k1;obtain ⟨l2,f2⟩:=u14 k2;obtain ⟨l3,f3⟩:=u14 kb;have hz:(ss.zip ts).length=min ss.length ts.length:=List.length_zip;have e1:=q1.length;have e2:=q2.length;have hds:i < ds.length:=by omega
   have hes:i < es.length:=by omega
   obtain ⟨y1,g1,s1⟩:=f1 i ds[i] (List.getElem?_eq_getElem hds);obtain ⟨y2,g2,s2⟩:=f2 i es[i] (List.getElem?_eq_getElem hes);have hzip:(ss.zip ts)[i]?=some (y1,y2):=by rw [List.getElem?_zip_eq_some];exact ⟨g1,g2⟩
   obtain ⟨b',g3,s3⟩:=f3 i _ hzip;rw [List.getElem?_eq_getElem hi,eb] at g3;cases g3;obtain ⟨z1,hz1,rz1⟩:=q1.get (List.getElem?_eq_getElem hds);obtain ⟨z2,hz2,rz2⟩:=q2.get (List.getElem?_eq_getElem hes);rw [hz1] at hz2;cases hz2;exact ih ds[i] es[i] z1 y1 y2 b rz1 rz2 s1 s2 s3
  rcases u60 hb fl with ⟨m',ss,ts,em,rfl,rfl⟩ | ⟨m',ss,ts,em,rfl,rfl⟩
  ·cases em
   obtain ⟨ds,rfl⟩:=u35 h1;obtain ⟨es,rfl⟩:=u35 h2;obtain ⟨_,_,em,ez,k1⟩:=snap_tup h1;cases em;cases ez;obtain ⟨_,_,em,ez,k2⟩:=snap_tup h2;cases em;cases ez;obtain ⟨a,xs,rfl,q1,rr1⟩:=r1.tup_inv;obtain ⟨a',ys,e',q2,rr2⟩:=r2.tup_inv;cases e';have:=I.tuple_inj q1 q2;subst this;unfold eqN at hb;split at hb
   ·obtain ⟨bs,kb,rfl⟩:=Option.map_eq_some_iff.mp hb
    exact items ds es xs ss ts bs rr1 rr2 k1 k2 kb
   ·cases hb
  ·cases em
   obtain ⟨a,rfl⟩:=u36 h1;obtain ⟨a',rfl⟩:=u36 h2;cases r1.ref_inv;have e':=r2.ref_inv;cases e';obtain ⟨_,ds,_,em,ez,hs1,k1⟩:=snap_ref h1;cases em;cases ez;obtain ⟨_,es,_,em,ez,hs2,k2⟩:=snap_ref h2;cases em;cases ez;rw [hs1] at hs2;cases hs2;rw [k1] at k2;cases k2;obtain ⟨xs,_,rr⟩:=u17 c hs1;unfold eqN at hb;split at hb
   ·obtain ⟨bs,kb,rfl⟩:=Option.map_eq_some_iff.mp hb
    exact items ds ds xs ss ss bs rr rr k1 k1 kb
   ·rename_i h;exact absurd rfl h
structure SeqPair (G:Gp) (K:PySem.W.Frag) (H:Hp) (m:Nat) (its its2:List Value) (bs:List Bool):Prop where
 len:its.length=its2.length
 bl:bs.length=its.length
 at_:∀ (j:Nat) (h1:j < its.length) (h2:j < its2.length) (h3:j < bs.length),∃ d e x y sd se,RelD K H d x /\ RelV x its[j] /\ RelD K H e y /\ RelV y its2[j] /\ snap G m d=some sd /\ snap G m e=some se /\ eqN m sd se=some bs[j]
theorem u74 {m:Nat} {ds es:List D} {xs ys:List V} {its its2:List Value} {ss ts:List Sn} {bs:List Bool} (q1:RelDs X.K H ds xs) (v1:Vals xs its) (q2:RelDs X.K H es ys) (v2:Vals ys its2)
  (k1:ds.mapM (snap G m)=some ss) (k2:es.mapM (snap G m)=some ts) (hl:ss.length=ts.length) (kb:((ss.zip ts).mapM fun p=>eqN m p.1 p.2)=some bs):SeqPair G X.K H m its its2 bs:=by
 obtain ⟨l1,f1⟩:=u14 k1;obtain ⟨l2,f2⟩:=u14 k2;obtain ⟨l3,f3⟩:=u14 kb;have hz:(ss.zip ts).length=min ss.length ts.length:=List.length_zip;have e1:=q1.length;have e2:=q2.length;have e3:=v1.length;have e4:=v2.length;refine ⟨by omega,by omega,fun j h1 h2 h3=>?_⟩;have hds:j < ds.length:=by omega
 have hes:j < es.length:=by omega
 obtain ⟨y1,g1,s1⟩:=f1 j ds[j] (List.getElem?_eq_getElem hds);obtain ⟨y2,g2,s2⟩:=f2 j es[j] (List.getElem?_eq_getElem hes);have hzip:(ss.zip ts)[j]?=some (y1,y2):=by rw [List.getElem?_zip_eq_some];exact ⟨g1,g2⟩
 obtain ⟨b',g3,s3⟩:=f3 j _ hzip;rw [List.getElem?_eq_getElem h3] at g3;cases g3;obtain ⟨z1,hz1,rz1⟩:=q1.get (List.getElem?_eq_getElem hds);obtain ⟨z2,hz2,rz2⟩:=q2.get (List.getElem?_eq_getElem hes);obtain ⟨u1,hu1,ru1⟩:=v1.get hz1;obtain ⟨u2,hu2,ru2⟩:=v2.get hz2;rw [List.getElem?_eq_getElem h1] at hu1;rw [List.getElem?_eq_getElem h2] at hu2;cases hu1;cases hu2;exact ⟨ds[j],es[j],z1,z2,y1,y2,rz1,ru1,rz2,ru2,s1,s2,s3⟩
end
section
variable {X:Cx} {pins:List (Addr × Obj)} {σ:L2.St} {H:Hp} {s:Shared} {G:Gp}
theorem ux1 (I:Inv X pins σ H s) {n:Nat} {A:Around} {d e:D} {x y:V} {u v:Value} {sd se:Sn} {b:Bool} (r1:RelD X.K H d x) (v1:RelV x u) (r2:RelD X.K H e y) (v2:RelV y v) (h1:snap G n d=some sd) (h2:snap G n e=some se) (hb:eqN n sd se=some b) (fl:(u29 sd && u29 se)=true):SeqAt.EqAt A s u v b:=by
 rw [Bool.and_eq_true] at fl;have hb':b=eqF sd se:=by
  have z:=hb;rw [ul8 fl.1,if_pos (by rw [fl.1,fl.2];rfl)] at z;exact (Option.some.inj z).symm
 obtain ⟨fx,k⟩:=ui4 (u:=u) h1 fl.1 r1;obtain ⟨fy,_⟩:=ui4 (u:=v) h2 fl.2 r2;rw [hb',<- k e se y h2 fl.2 r2];exact v93 v1 v2 fx fy
theorem v52 (I:Inv X pins σ H s) (c:Con X.K G H):∀ (n:Nat) (A:Around) (d e:D) (x y:V) (u v:Value) (sd se:Sn) (b:Bool),RelD X.K H d x->RelV x u->RelD X.K H e y->RelV y v->snap G n d=some sd->snap G n e=some se->eqN n sd se=some b->A.units+n < cLine->SeqAt.EqAt A s u v b:=by
 intro n
 induction n with
 | zero =>
  intro A d e x y u v sd se b r1 v1 r2 v2 h1 h2 hb hu
  by_cases fl:(u29 sd && u29 se)=true
  ·exact ux1 I r1 v1 r2 v2 h1 h2 hb fl
  ·rcases u60 hb fl with ⟨_,_,_,z,_⟩ | ⟨_,_,_,z,_⟩ <;> cases z
 | succ m ih =>
  intro A d e x y u v sd se b r1 v1 r2 v2 h1 h2 hb hu
  by_cases fl:(u29 sd && u29 se)=true
  ·exact ux1 I r1 v1 r2 v2 h1 h2 hb fl
  ·have inner:∀ (its its2:List Value) (bs:List Bool),SeqPair G X.K H m its its2 bs->∀ j (h1:j < its.toArray.size) (h2:j < its2.toArray.size),SeqAt.EqAt A.in1 s its.toArray[j] its2.toArray[j] ((bs[j]?).getD true):=by
    intro its its2 bs P j h1 h2;have h1':j < its.length:=by simpa using h1
    have h2':j < its2.length:=by simpa using h2
    have h3':j < bs.length:=by rw [P.bl];exact h1'
    obtain ⟨d',e',x',y',sd',se',a1,a2,a3,a4,a5,a6,a7⟩:=P.at_ j h1' h2' h3'
    rw [List.getElem?_eq_getElem h3'];have hu':A.in1.units+m < cLine:=by
     have:A.in1.units=A.units+1:=rfl;omega
    have:=ih A.in1 d' e' x' y' _ _ sd' se' _ a1 a2 a3 a4 a5 a6 a7 hu';simpa using this
   rcases u60 hb fl with ⟨m',ss,ts,em,rfl,rfl⟩ | ⟨m',ss,ts,em,rfl,rfl⟩
   ·cases em
    obtain ⟨ds,rfl⟩:=u35 h1;obtain ⟨es,rfl⟩:=u35 h2;obtain ⟨_,_,em,ez,k1⟩:=snap_tup h1;cases em;cases ez;obtain ⟨_,_,em,ez,k2⟩:=snap_tup h2;cases em;cases ez;obtain ⟨a,xs,rfl,q1,rr1⟩:=r1.tup_inv;obtain ⟨a',ys,rfl,q2,rr2⟩:=r2.tup_inv;cases v1;cases v2
    by_cases haa:a=a'
    ·subst haa
     rw [ur2 I c (m+1) (.tup ds) (.tup es) (.ref a) _ _ b r1 r2 h1 h2 hb];exact SeqAt.EqAt.same _
    ·unfold eqN at hb
     split at hb
     ·rename_i hlen
      obtain ⟨bs,kb,rfl⟩:=Option.map_eq_some_iff.mp hb;obtain ⟨its,w1,t1,_⟩:=I.tuple q1;obtain ⟨its2,w2,t2,_⟩:=I.tuple q2;have P:=u74 rr1 w1 rr2 w2 k1 k2 hlen kb;have R:=SeqAt.RcAt.tuples (A:=A) (s:=s) (e:=fun j=>(bs[j]?).getD true) (show s.heap.IsTuple a its.toArray from t1) (show s.heap.IsTuple a' its2.toArray from t2) (by omega) (inner its its2 bs P);have e1:((List.range (min its.toArray.size its2.toArray.size)).all (fun j=>(bs[j]?).getD true) && its.toArray.size == its2.toArray.size)=bs.all id:=by
       have el:its.toArray.size=its2.toArray.size:=by simpa using P.len
       rw [el,Nat.min_self,beq_self_eq_true,Bool.and_true];exact ua7 (by rw [<- el];simpa using P.bl) fun i b hb=>by rw [hb];rfl
      rw [e1] at R;exact SeqAt.EqAt.of_refs haa R
     ·cases hb
   ·cases em
    obtain ⟨a,rfl⟩:=u36 h1;obtain ⟨a',rfl⟩:=u36 h2;obtain ⟨_,ds,_,em,ez,hs1,k1⟩:=snap_ref h1;cases em;cases ez;obtain ⟨_,es,_,em,ez,hs2,k2⟩:=snap_ref h2;cases em;cases ez;cases r1.ref_inv;cases r2.ref_inv;cases v1;cases v2
    by_cases haa:a=a'
    ·subst haa
     rw [ur2 I c (m+1) (.ref a) (.ref a) (.ref a) _ _ b r1 r2 h1 h2 hb];exact SeqAt.EqAt.same _
    ·obtain ⟨xs,q1,rr1⟩:=u17 c hs1
     obtain ⟨ys,q2,rr2⟩:=u17 c hs2;obtain ⟨its,w1,t1,_⟩:=I.list q1;obtain ⟨its2,w2,t2,_⟩:=I.list q2;unfold eqN at hb;split at hb
     ·rename_i hlen
      obtain ⟨bs,kb,rfl⟩:=Option.map_eq_some_iff.mp hb;have P:=u74 rr1 w1 rr2 w2 k1 k2 hlen kb;have el:its.toArray.size=its2.toArray.size:=by simpa using P.len
      have R:=SeqAt.RcAt.lists (A:=A) (s:=s) (e:=fun j=>(bs[j]?).getD true) t1.isList t2.isList el (by omega) (inner its its2 bs P);have e1:((List.range its.toArray.size).all (fun j=>(bs[j]?).getD true))=bs.all id :=
       ua7 (by simpa using P.bl) fun i b hb=>by rw [hb];rfl
      rw [e1] at R;exact SeqAt.EqAt.of_refs haa R
     ·rename_i hlen
      cases hb;have n1:=(u14 k1).1;have n2:=(u14 k2).1;have m1:=rr1.length;have m2:=rr2.length;have m3:=w1.length;have m4:=w2.length;exact SeqAt.EqAt.of_refs haa (SeqAt.RcAt.lists_lengths t1.isList t2.isList (by simp;omega) (by omega))
end
def rEqD (K:PySem.W.Frag) (neg:Bool):R2:=fun x y H Q=>∃ (d e:D) (G:Gp) (n:Nat) (sd se:Sn) (b:Bool),RelD K H d x /\ RelD K H e y /\ Con K G H /\ n<=40 /\ snap G n d=some sd /\ snap G n e=some se /\ eqN n sd se=some b /\ u29 sd=false /\ Q (.bl (if neg then !b else b)) H
section
variable {X:Cx} {k:Nat}
theorem vs3 (hr:Room k X.A):OpR X (compareOp .Eq) (rEqD X.K false):=by
  intro pins s σ H x y v u Q I rx ry h;obtain ⟨d,e,G,n,sd,se,b,r1,r2,c,hn,h1,h2,hb,fl,q⟩:=h;have hu:=hr.units;have fin:EP X pins σ Q (.bool b) s:=⟨.bl b,H,I,rfl,q⟩
  rcases u60 hb (fun z=>by rw [fl] at z;cases z) with ⟨m,ss,ts,rfl,rfl,rfl⟩ | ⟨m,ss,ts,rfl,rfl,rfl⟩
  · obtain ⟨ds,rfl⟩:=u35 h1
    obtain ⟨es,rfl⟩:=u35 h2
    · · · obtain ⟨_,ss',em,ez,k1⟩ := snap_tup h1
          cases em;cases ez;obtain ⟨m',ts',em,es',k2⟩:=snap_tup h2;cases em;cases es';obtain ⟨a,xs,rfl,q1,rr1⟩:=r1.tup_inv;obtain ⟨a',ys,rfl,q2,rr2⟩:=r2.tup_inv;cases rx;cases ry;unfold eqN at hb;split at hb
          · rename_i hlen
            obtain ⟨bs,kb,rfl⟩:=Option.map_eq_some_iff.mp hb;obtain ⟨its,w1,t1,_⟩:=I.tuple q1;obtain ⟨its2,w2,t2,_⟩:=I.tuple q2;have P:=u74 rr1 w1 rr2 w2 k1 k2 hlen kb;refine SeqAt.eq_tupleAt (e:=fun j=>(bs[j]?).getD true) (show s.heap.IsTuple a its.toArray from t1) (show s.heap.IsTuple a' its2.toArray from t2) (by omega) ?_ ?_
            · intro j h1 h2
              have h1':j < its.length:=by simpa using h1
              have h2':j < its2.length:=by simpa using h2
              have h3':j < bs.length:=by rw [P.bl];exact h1'
              obtain ⟨d',e',x',y',sd',se',a1,a2,a3,a4,a5,a6,a7⟩:=P.at_ j h1' h2' h3'
              rw [List.getElem?_eq_getElem h3'];have:=v52 I c m X.A.in1 d' e' x' y' _ _ sd' se' _ a1 a2 a3 a4 a5 a6 a7 (by have:X.A.in1.units=X.A.units+1:=rfl;omega);simpa using this
            · have e1 : ((List.range (min its.toArray.size its2.toArray.size)).all (fun j => (bs[j]?).getD true) && its.toArray.size == its2.toArray.size) = bs.all id := by
                have el:its.toArray.size=its2.toArray.size:=by simpa using P.len
                rw [el,Nat.min_self,beq_self_eq_true,Bool.and_true];exact ua7 (by rw [<- el];simpa using P.bl) fun i b hb=>by rw [hb];rfl
              rw [e1];exact fin
          · cases hb
  · obtain ⟨a,rfl⟩:=u36 h1
    obtain ⟨a',rfl⟩:=u36 h2
    · · · obtain ⟨_,ds,ss',em,ez,hs1,k1⟩ := snap_ref h1
          cases em;cases ez;obtain ⟨m',es,ts',em,es',hs2,k2⟩:=snap_ref h2;cases em;cases es';cases r1.ref_inv;cases r2.ref_inv;cases rx;cases ry;obtain ⟨xs,q1,rr1⟩:=u17 c hs1;obtain ⟨ys,q2,rr2⟩:=u17 c hs2;obtain ⟨its,w1,t1,_⟩:=I.list q1;obtain ⟨its2,w2,t2,_⟩:=I.list q2;unfold eqN at hb;split at hb
          · rename_i hlen
            obtain ⟨bs,kb,rfl⟩:=Option.map_eq_some_iff.mp hb;have P:=u74 rr1 w1 rr2 w2 k1 k2 hlen kb;have el:its.toArray.size=its2.toArray.size:=by simpa using P.len
            refine SeqAt.eq_listAt (e:=fun j=>(bs[j]?).getD true) t1.isList t2.isList el (by omega) ?_ ?_
            · intro j h1 h2
              have h1':j < its.length:=by simpa using h1
              have h2':j < its2.length:=by simpa using h2
              have h3':j < bs.length:=by rw [P.bl];exact h1'
              obtain ⟨d',e',x',y',sd',se',a1,a2,a3,a4,a5,a6,a7⟩:=P.at_ j h1' h2' h3'
              rw [List.getElem?_eq_getElem h3'];have:=v52 I c m X.A.in1 d' e' x' y' _ _ sd' se' _ a1 a2 a3 a4 a5 a6 a7 (by have:X.A.in1.units=X.A.units+1:=rfl;omega);simpa using this
            · have e1 : ((List.range its.toArray.size).all (fun j => (bs[j]?).getD true)) = bs.all id :=
                ua7 (by simpa using P.bl) fun i b hb=>by rw [hb];rfl
              rw [e1];exact fin
          · rename_i hlen
            cases hb;have n1:=(u14 k1).1;have n2:=(u14 k2).1;have m1:=rr1.length;have m2:=rr2.length;have m3:=w1.length;have m4:=w2.length;exact SeqAt.eq_list_lengthsAt t1.isList t2.isList (by simp;omega) (by omega) fin
theorem vr9 (hr:Room k X.A):OpR X (compareOp .NotEq) (rEqD X.K true):=by
  intro pins s σ H x y v u Q I rx ry h;obtain ⟨d,e,G,n,sd,se,b,r1,r2,c,hn,h1,h2,hb,fl,q⟩:=h;have hu:=hr.units;have fin:EP X pins σ Q (.bool (!b)) s:=⟨.bl (!b),H,I,rfl,q⟩
  rcases u60 hb (fun z=>by rw [fl] at z;cases z) with ⟨m,ss,ts,rfl,rfl,rfl⟩ | ⟨m,ss,ts,rfl,rfl,rfl⟩
  · obtain ⟨ds,rfl⟩:=u35 h1
    obtain ⟨es,rfl⟩:=u35 h2
    · · · obtain ⟨_,ss',em,ez,k1⟩ := snap_tup h1
          cases em;cases ez;obtain ⟨m',ts',em,es',k2⟩:=snap_tup h2;cases em;cases es';obtain ⟨a,xs,rfl,q1,rr1⟩:=r1.tup_inv;obtain ⟨a',ys,rfl,q2,rr2⟩:=r2.tup_inv;cases rx;cases ry;unfold eqN at hb;split at hb
          · rename_i hlen
            obtain ⟨bs,kb,rfl⟩:=Option.map_eq_some_iff.mp hb;obtain ⟨its,w1,t1,_⟩:=I.tuple q1;obtain ⟨its2,w2,t2,_⟩:=I.tuple q2;have P:=u74 rr1 w1 rr2 w2 k1 k2 hlen kb;refine SeqAt.RcNeAt.tuples (e:=fun j=>(bs[j]?).getD true) (show s.heap.IsTuple a its.toArray from t1) (show s.heap.IsTuple a' its2.toArray from t2) (by omega) ?_ X.prog X.w X.xe _ ?_
            · intro j h1 h2
              have h1':j < its.length:=by simpa using h1
              have h2':j < its2.length:=by simpa using h2
              have h3':j < bs.length:=by rw [P.bl];exact h1'
              obtain ⟨d',e',x',y',sd',se',a1,a2,a3,a4,a5,a6,a7⟩:=P.at_ j h1' h2' h3'
              rw [List.getElem?_eq_getElem h3'];have:=v52 I c m X.A.in1 d' e' x' y' _ _ sd' se' _ a1 a2 a3 a4 a5 a6 a7 (by have:X.A.in1.units=X.A.units+1:=rfl;omega);simpa using this
            · have e1 : ((List.range (min its.toArray.size its2.toArray.size)).all (fun j => (bs[j]?).getD true) && its.toArray.size == its2.toArray.size) = bs.all id := by
                have el:its.toArray.size=its2.toArray.size:=by simpa using P.len
                rw [el,Nat.min_self,beq_self_eq_true,Bool.and_true];exact ua7 (by rw [<- el];simpa using P.bl) fun i b hb=>by rw [hb];rfl
              rw [e1];exact fin
          · cases hb
  · obtain ⟨a,rfl⟩:=u36 h1
    obtain ⟨a',rfl⟩:=u36 h2
    · · · obtain ⟨_,ds,ss',em,ez,hs1,k1⟩ := snap_ref h1
          cases em;cases ez;obtain ⟨m',es,ts',em,es',hs2,k2⟩:=snap_ref h2;cases em;cases es';cases r1.ref_inv;cases r2.ref_inv;cases rx;cases ry;obtain ⟨xs,q1,rr1⟩:=u17 c hs1;obtain ⟨ys,q2,rr2⟩:=u17 c hs2;obtain ⟨its,w1,t1,_⟩:=I.list q1;obtain ⟨its2,w2,t2,_⟩:=I.list q2;unfold eqN at hb;split at hb
          · rename_i hlen
            obtain ⟨bs,kb,rfl⟩:=Option.map_eq_some_iff.mp hb;have P:=u74 rr1 w1 rr2 w2 k1 k2 hlen kb;have el:its.toArray.size=its2.toArray.size:=by simpa using P.len
            refine SeqAt.RcNeAt.lists (e:=fun j=>(bs[j]?).getD true) t1.isList t2.isList el (by omega) ?_ X.prog X.w X.xe _ ?_
            · intro j h1 h2
              have h1':j < its.length:=by simpa using h1
              have h2':j < its2.length:=by simpa using h2
              have h3':j < bs.length:=by rw [P.bl];exact h1'
              obtain ⟨d',e',x',y',sd',se',a1,a2,a3,a4,a5,a6,a7⟩:=P.at_ j h1' h2' h3'
              rw [List.getElem?_eq_getElem h3'];have:=v52 I c m X.A.in1 d' e' x' y' _ _ sd' se' _ a1 a2 a3 a4 a5 a6 a7 (by have:X.A.in1.units=X.A.units+1:=rfl;omega);simpa using this
            · have e1 : ((List.range its.toArray.size).all (fun j => (bs[j]?).getD true)) = bs.all id :=
                ua7 (by simpa using P.bl) fun i b hb=>by rw [hb];rfl
              rw [e1];exact fin
          · rename_i hlen
            cases hb;have n1:=(u14 k1).1;have n2:=(u14 k2).1;have m1:=rr1.length;have m2:=rr2.length;have m3:=w1.length;have m4:=w2.length;exact SeqAt.RcNeAt.lists_lengths t1.isList t2.isList (by simp;omega) (by omega) X.prog X.w X.xe _ fin
end
structure FnAt (K:PySem.W.Frag) (x qual:Str) (st:Stmt) (ps:List Str) where
 a:Addr
 fd:FuncData
 ex:∃ (oc:Value) (od:Option Addr) (dV kV doc pm:Value) (an:Option Addr) (cdv ct:Value) (osl:Array (Option Value)),
  fd=PySem.W.fnOf x qual (u19 st) (u13 st) (u01 st) dV kV doc pm an cdv ct /\ K.lookup a=some ⟨oc,od,.func fd,osl⟩ /\ PySem.W.codeIn K cdv qual=true
 kp:PySem.W.keepIn K (.ref a)=true
 b:Binds K fd ps []
abbrev Ok (P:Program) (w:World) {K:PySem.W.Frag} (mg:Str->Option Value) (base:Heap) (n:Nat) {x qual:Str} {st:Stmt} {ps:List Str} (d:FnAt K x qual st ps) (S:Sp3):Prop:=FnOk P w K mg base CX0 n d.a d.fd ps (u99 K S)
def u86 (N:List Str) (ds:List D):DSt:=ds.map some++List.replicate (N.length - ds.length) none
theorem ua3 {K:PySem.W.Frag} {H:Hp} {N:List Str} {ds:List D} {vs:List V} (r:RelDs K H ds vs):RelSt K H (u86 N ds) (L2.start N vs):=by
 unfold u86 L2.start;refine ⟨by simp [r.length],fun i d e=>?_⟩
 by_cases hi:i < ds.length
 ·rw [List.getElem?_append_left (by simpa using hi),List.getElem?_map] at e
  rw [List.getElem?_append_left (by simpa [<- r.length] using hi),List.getElem?_map];cases h:ds[i]? with
  | none=>rw [h] at e;cases e
  | some d' =>
   rw [h] at e;cases e;obtain ⟨v,hv,rv⟩:=r.get h;exact ⟨v,by rw [hv];rfl,rv⟩
 ·rw [List.getElem?_append_right (by simpa using hi),List.getElem?_replicate] at e
  split at e <;> cases e
section
variable {P:Program} {w:World} {K:PySem.W.Frag} {mg:Str->Option Value} {base:Heap}
theorem u46 {x qual:Str} {st:Stmt} {ps N:List Str} {k:Nat} (d:FnAt K x qual st ps) {S:Sp3} (sc:FnScope N ps (u01 st)) (hl:∀ ds G R,S ds G R->ds.length=ps.length) {t:TS3}
  (ht:∀ (cdv:Value) (A:Around) (outer:List Env) (s:Shared) (H:Hp) (E:XK),Room k (A.deeper (envOfC qual (u01 st) s.heap.objs.size d.a cdv))->Ss3 (cxOf CX0 P w K mg base N qual (u01 st) d.a cdv A outer s H E).nox (u13 st) t)
  (hb:∀ ds G R,S ds G R->t { nx:=fun _ G'=>R .non G',rt:=R } (u86 N ds) G):Ok P w mg base (k+1) d S:=by
 obtain ⟨oc,od,dV,kV,doc,pm,an,cdv,ct,osl,e,lk,hcd⟩:=d.ex;have lk':K.lookup d.a=some ⟨oc,od,.func (PySem.W.fnOf x qual (u19 st) (u13 st) (u01 st) dV kV doc pm an cdv ct),osl⟩:=e ▸ lk;have F:FnOk P w K mg base CX0 (k+1) d.a (PySem.W.fnOf x qual (u19 st) (u13 st) (u01 st) dV kV doc pm an cdv ct) ps (u99 K S):=by
  refine v50 lk' hcd sc (fun vs H Q E h=>?_) fun A outer s H vs Q E hr h=>?_
  ·obtain ⟨ds,G,R,r,_,hS,_⟩:=h
   rw [<- r.length];exact hl ds G R hS
  ·obtain ⟨ds,G,R,r,c,hS,f⟩:=h
   refine ⟨_,(show PSs _ _ _ from ht cdv A outer s H E hr).nox,u86 N ds,G,_,ua3 r,c,hb ds G R hS,fun σd' G' σ' H' _ c' l' q=>?_,f,fun _ _ _ _ _ _ _ q=>q.elim,fun _ _ _ _ _ _ _ q=>q.elim⟩;exact f .non G' .non H' RelD.nonI c' l' q
 have F2:=F;rw [<- e] at F2;exact F2
end
section
variable {X:Cx} {e o:Expr} {es:List Expr} {p pos apos:Pos} {ta:TE3} {ts:TA3} {k n:Nat} {S:Sp3} {x m qual:Str} {st:Stmt} {ps:List Str} {C:Addr}
theorem ec (d:FnAt X.K x qual st ps) (hm:X.mg x=some (.ref d.a)) (G:FnOk X.prog X.w X.K X.mg X.base CX0 k d.a d.fd ps (u99 X.K S)) (hr:Room k X.A) (ha:A3 X (e::es) ts) (hg:Gl X x:=by rfl) (hdb:(x == ("__debug__" : Str))=false:=by decide)
  (he:starEach (e::es) X.env=(false,eval e X.env)::starEach es X.env:=by rfl) (hpl:(backTo pos (starEach es X.env)).any (·.1)=false:=by rfl):E3 X (.Call (.Name x p) (e::es) [] pos) (dCall S [] ts) :=
 vx4 G hr hg hm d.kp d.b .nil (fun _=>.nil) ha hdb he hpl
theorem em {pl:Sem Bool} (c:Cls X.K C) (d:FnAt X.K m qual st ps) (hm:Meth X.K C m d.a) (G:FnOk X.prog X.w X.K X.mg X.base CX0 k d.a d.fd ps (u99 X.K S)) (hr:Room k X.A) (he:E3 X o ta) (ha:A3 X (e::es) ts)
  (hse:starEach (e::es) X.env=(false,eval e X.env)::starEach es X.env:=by rfl) (hpl:(backTo pos (starEach es X.env)).any (·.1)=false:=by rfl)
  (ht:eval (.Call (.Attribute o m apos) (e::es) [] pos) X.env=(do
   let ov <- eval o X.env
   standAt apos.atName
   let (f,first) <- holding [ov] (getMethod ov m pl)
   callWith pos f first (backTo pos (starEach (e::es) X.env)) (backToKw pos (keywordEach [] X.env))):=by rfl):E3 X (.Call (.Attribute o m apos) (e::es) [] pos) (v55 C m S [] ta ts) :=
 vx3 he c hm G hr d.b .nil (fun _=>.nil) ha hse hpl ht
end
def spec (pre:List D->Gp->Prop) (post:List D->Gp->D->Gp->Prop):Sp3:=fun ds G R=>pre ds G /\ ∀ d G',post ds G d G'->R d G'
theorem uq9 {pre:List D->Gp->Prop} {post:List D->Gp->D->Gp->Prop} {ds:List D} {G:Gp} {q:DK} (h:pre ds G) (k:∀ d G',post ds G d G'->q d G'):∃ R,spec pre post ds G R /\ ∀ d G',R d G'->q d G' :=
 ⟨post ds G,⟨h,fun _ _ z=>z⟩,k⟩
def vy0 (osc:Scope) (N N':List Str) (ix:List (Option Nat)) (scope:Scope):Bool :=
 (scope.kind == .function) && scope.names.all (fun y=>y.2 != .cell) && scope.names.all (fun y=>y.2 != .local || scope.names.lookup y.1 == some .local) &&
 scope.names.all (fun y=>y.2 != .free || osc.names.lookup y.1 == some .cell || osc.names.lookup y.1 == some .free) && (ix.length == N'.length) &&
 (N'.zip ix).all (fun p=>match p.2 with | none=>true | some j=>N[j]? == some p.1 && scope.names.lookup p.1 == some .free)
theorem blk {X:Cx} {osc:Scope} {N N':List Str} {ix:List (Option Nat)} {scope:Scope} (h1:X.env.scope=osc) (h2:X.N=N) (h:vy0 osc N N' ix scope=true):BlkOk X N' ix scope:=by
 unfold vy0 at h;simp only [Bool.and_eq_true] at h;obtain ⟨⟨⟨⟨⟨a1,a2⟩,a3⟩,a4⟩,a5⟩,a6⟩:=h;rw [List.all_eq_true] at a2 a3 a4 a6;refine ⟨eq_of_beq a1,fun y hy=>by simpa using a2 y hy,fun y hy e=>?_,fun y hy e=>?_,eq_of_beq a5,fun i j x e1 e2=>?_⟩
 ·have:=a3 y hy
  simp only [e,bne_self_eq_false,Bool.false_or] at this;exact eq_of_beq this
 ·have:=a4 y hy
  simp only [e,bne_self_eq_false,Bool.false_or,Bool.or_eq_true,beq_iff_eq] at this;unfold Env.kindOf;rw [h1];exact this
 ·have hz:(N'.zip ix)[i]?=some (x,some j):=by rw [List.getElem?_zip_eq_some];exact ⟨e1,e2⟩
  have:=a6 _ (List.mem_of_getElem? hz);simp only [Bool.and_eq_true,beq_iff_eq] at this;rw [h2];exact this
section
variable {X:Cx} {K:PySem.W.Frag} {H:Hp}
def v65:RS3:=fun x lo hi G q=>match x with
 | .ref a=>(match u18 (G a) with | some ds=>∀ p,G p=none->q (.ref p) (gup G p (.lst (cutD ds lo hi))) | none=>False)
 | .tup ds=>¬ (HT.sIx ds.length 0 lo=0 /\ HT.sIx ds.length ds.length hi=ds.length) /\ q (.tup (cutD ds lo hi)) G
 | _=>False
def xLen:C3:=fun ds G q=>match ds with
 | [.str z]=>z.length<=sizeLine /\ q (.int z.length) G
 | [.tup xs]=>q (.int xs.length) G
 | [.ref a]=>(match u18 (G a) with | some xs=>q (.int xs.length) G | none=>False)
 | _=>False
theorem RelDs.one {d:D} {vs:List V} (h:RelDs K H [d] vs):∃ v,vs=[v] /\ RelD K H d v:=by
 obtain ⟨x,r,rfl,h1,h2⟩:=h.inv_cons;rw [h2.inv_nil];exact ⟨x,rfl,h1⟩
theorem RelDs.two {d e:D} {vs:List V} (h:RelDs K H [d,e] vs):∃ v u,vs=[v,u] /\ RelD K H d v /\ RelD K H e u:=by
 obtain ⟨x,r,rfl,h1,h2⟩:=h.inv_cons;obtain ⟨y,rfl,h3⟩:=h2.one;exact ⟨x,y,rfl,h1,h3⟩
theorem u72:Call3 X (.builtin "len") xLen:=u30 (call_len_seq.or ug0) <| by
 rintro xs H Q ⟨ds,G,q,r,c,t,f⟩;unfold xLen at t;split at t
 ·obtain ⟨v,rfl,r1⟩:=r.one
  cases r1.str_inv;exact .inr ⟨_,rfl,t.1,f _ _ _ _ RelD.intI c (Le.refl H) t.2⟩
 ·obtain ⟨v,rfl,r1⟩:=r.one
  obtain ⟨a,ys,rfl,s1,q1⟩:=r1.tup_inv;refine .inl ⟨a,ys,rfl,.inr s1,?_⟩;rw [<- q1.length];exact f _ _ _ _ RelD.intI c (Le.refl H) t
 ·obtain ⟨v,rfl,r1⟩:=r.one
  cases r1.ref_inv;split at t
  ·rename_i ds e
   obtain ⟨ys,s1,q1⟩:=u17 c e;refine .inl ⟨_,ys,rfl,.inl s1,?_⟩;rw [<- q1.length];exact f _ _ _ _ RelD.intI c (Le.refl H) t
  ·exact t.elim
 ·exact t.elim
def xAbs:C3:=fun ds G q=>match ds with | [.int i]=>q (.int (if i < 0 then -i else i)) G | _=>False
theorem vy6:Call3 X (.builtin "abs") xAbs:=u30 v60 <| by
 rintro xs H Q ⟨ds,G,q,r,c,t,f⟩;unfold xAbs at t;split at t
 ·obtain ⟨v,rfl,r1⟩:=r.one
  cases r1.int_inv;exact ⟨_,rfl,f _ _ _ _ RelD.intI c (Le.refl H) t⟩
 ·exact t.elim
def uh0:C3:=fun ds G q=>match ds with | [.int i,.int j]=>CDiv i j /\ q (.tup [.int (i / j),.int (i % j)]) G | _=>False
theorem uz9:Call3 X (.builtin "divmod") uh0:=u30 ui9 <| by
 rintro xs H Q ⟨ds,G,q,r,c,t,f⟩;unfold uh0 at t;split at t
 ·obtain ⟨v,u,rfl,r1,r2⟩:=r.two
  cases r1.int_inv;cases r2.int_inv;refine ⟨_,_,rfl,t.1,fun p hp=>f (.tup _) G (.ref p) _ ?_ (c.side hp) (Le.fresh hp) t.2⟩;rw [RelD];exact ⟨p,_,rfl,SqT.of u12,.cons RelD.intI (.cons RelD.intI .nil)⟩
 ·exact t.elim
def vy7:C3:=fun ds G q=>match ds with | [.int i,.int j]=>q (.int (if j > i then j else i)) G | _=>False
def va5:C3:=fun ds G q=>match ds with | [.int i,.int j]=>q (.int (if j < i then j else i)) G | _=>False
theorem vm8 (hc:X.calm=true:=by rfl):Call3 X (.builtin "min") va5:=u30 (uy7 hc) <| by
 rintro xs H Q ⟨ds,G,q,r,c,t,f⟩;unfold va5 at t;split at t
 ·obtain ⟨v,u,rfl,r1,r2⟩:=r.two
  cases r1.int_inv;cases r2.int_inv;exact ⟨_,_,rfl,f _ _ _ _ RelD.intI c (Le.refl H) t⟩
 ·exact t.elim
def v64:C3:=fun ds G q=>match ds with | [.int i]=>q (.int i) G | [.bl b]=>q (.int (if b then 1 else 0)) G | _=>False
def ub1:C3:=fun ds G q=>match ds with
 | [.tup xs]=>∀ p,G p=none->q (.ref p) (gup G p (.lst xs))
 | [.ref a]=>(match u18 (G a) with | some xs=>∀ p,G p=none->q (.ref p) (gup G p (.lst xs)) | none=>False)
 | _=>False
theorem uz5:Call3 X (.type "list") ub1:=u30 uf9 <| by
 rintro xs H Q ⟨ds,G,q,r,c,t,f⟩;unfold ub1 at t;split at t
 ·obtain ⟨v,rfl,r1⟩:=r.one
  obtain ⟨a,ys,rfl,s1,q1⟩:=r1.tup_inv;exact ⟨a,ys,rfl,.inr s1,fun p hp=>f _ _ _ _ RelD.refI (c.lstNew hp q1) (Le.fresh hp) (t p (c.fresh hp))⟩
 ·obtain ⟨v,rfl,r1⟩:=r.one
  cases r1.ref_inv;split at t
  ·rename_i ds e
   obtain ⟨ys,s1,q1⟩:=u17 c e;exact ⟨_,ys,rfl,.inl s1,fun p hp=>f _ _ _ _ RelD.refI (c.lstNew hp q1) (Le.fresh hp) (t p (c.fresh hp))⟩
  ·exact t.elim
 ·exact t.elim
def uj6:C3:=fun ds G q=>match ds with
 | [.tup xs]=>q (.tup xs) G
 | [.ref a]=>(match u18 (G a) with | some xs=>q (.tup xs) G | none=>False)
 | _=>False
def uj4:List D->Option (List Bool)
 | []=>some []
 | .bl b::r=>(uj4 r).map (b::·)
 | _=>none
theorem ug6:∀ {ds:List D} {bs:List Bool} {vs:List V},uj4 ds=some bs->RelDs K H ds vs->vs=bs.map V.bl
 | [],bs,vs,e,r=>by cases e;rw [r.inv_nil];rfl
 | .bl b::ds,bs,vs,e,r=>by
  obtain ⟨x,xs,rfl,h1,h2⟩:=r.inv_cons;obtain ⟨bs',e',rfl⟩:=Option.map_eq_some_iff.mp (show (uj4 ds).map (b::·)=some bs from e);rw [h1.bl_inv,ug6 e' h2];rfl
 | .non::_,_,_,e,_=>by cases e
 | .int _::_,_,_,e,_=>by cases e
 | .str _::_,_,_,e,_=>by cases e
 | .tup _::_,_,_,e,_=>by cases e
 | .ref _::_,_,_,e,_=>by cases e
 | .ty _::_,_,_,e,_=>by cases e
def xAll:C3:=fun ds G q=>match ds with
 | [.ref a]=>(match u18 (G a) with | some xs=>(match uj4 xs with | some bs=>q (.bl (bs.all id)) G | none=>False) | none=>False)
 | _=>False
theorem vn1 (hc:X.calm=true:=by rfl):Call3 X (.builtin "all") xAll:=u30 (v59 hc) <| by
 rintro xs H Q ⟨ds,G,q,r,c,t,f⟩;unfold xAll at t;split at t
 ·obtain ⟨v,rfl,r1⟩:=r.one
  cases r1.ref_inv;split at t
  ·rename_i ds e
   obtain ⟨ys,s1,q1⟩:=u17 c e;split at t
   ·rename_i bs eb
    have:=ug6 eb q1;subst this;exact ⟨_,bs,rfl,s1,f _ _ _ _ RelD.blI c (Le.refl H) t⟩
   ·exact t.elim
  ·exact t.elim
 ·exact t.elim
def v43 (G:Gp):D->Option String
 | .non=>some "NoneType"
 | .bl _=>some "bool"
 | .int _=>some "int"
 | .str _=>some "str"
 | .ref a=>match G a with | some (.lst _)=>some "list" | some (.fro _)=>some "list" | some (.dic _)=>some "dict" | _=>none
 | _=>none
def ug9:C3:=fun ds G q=>match ds with
 | [x,.ty T]=>(T = "int" \/ T = "str" \/ T = "bool" \/ T = "list" \/ T = "tuple" \/ T = "dict") /\ (match v43 G x with | some n=>q (.bl (subK n T)) G | none=>False)
 | _=>False
theorem uz8:Call3 X (.builtin "isinstance") ug9:=u30 ui8 <| by
 rintro xs H Q ⟨ds,G,q,r,c,t,f⟩;unfold ug9 at t;split at t
 ·rename_i d T
  obtain ⟨v,u,rfl,r1,r2⟩:=r.two;rw [RelD] at r2;subst r2;obtain ⟨hT,t⟩:=t;split at t
  ·rename_i n en
   refine ⟨v,n,T,rfl,?_,hT,f _ _ _ _ RelD.blI c (Le.refl H) t⟩;unfold v43 at en;split at en
   ·cases r1.non_inv;cases en;rfl
   ·cases r1.bl_inv;cases en;rfl
   ·cases r1.int_inv;cases en;rfl
   ·cases r1.str_inv;cases en;rfl
   ·rename_i a
    cases r1.ref_inv;split at en
    ·rename_i xs ea;cases en;obtain ⟨ys,h1,_⟩:=c _ _ ea;exact .inl ⟨rfl,.inl ⟨ys,h1⟩⟩
    ·rename_i xs ea;cases en;obtain ⟨o,ys,h1,_⟩:=c _ _ ea;exact .inl ⟨rfl,.inr ⟨o,ys,h1⟩⟩
    ·rename_i xs ea;cases en;obtain ⟨ys,h1,_⟩:=c _ _ ea;exact .inr (.inr ⟨rfl,ys,h1⟩)
    ·cases en
   ·cases en
  ·exact t.elim
 ·exact t.elim
theorem v94 {x:Str} {T:String} {pos:Pos} (hm:X.mg x=none) (hv:bootBuiltins x=some (.type T)) (hg:Gl X x:=by rfl) (hn:x ≠ "__name__" := by decide) (hd:(x == ("__debug__" : Str))=false:=by decide):E3 X (.Name x pos) (dC (.ty T)) :=
 u26 (vf5 (v:=.ty T) hg hm hv rfl hn hd) fun _ _ _=>uh8 fun _=>by rw [RelD]
def xIs2:R3:=fun x y G q=>match y with
 | .non=>(match x with | .non=>q (.bl true) G | _=>q (.bl false) G)
 | .bl b=>(match x with | .bl c=>q (.bl (decide (c=b))) G | _=>q (.bl false) G)
 | _=>False
def up0:R3:=fun x y G q=>match y with
 | .non=>(match x with | .non=>q (.bl false) G | _=>q (.bl true) G)
 | .bl b=>(match x with | .bl c=>q (.bl (!decide (c=b))) G | _=>q (.bl true) G)
 | _=>False
theorem RelD.not_bl {d:D} {v:V} (h:RelD K H d v) (b:Bool) (n:∀ c,d ≠ .bl c):v ≠ .bl b:=by
 cases d with
 | bl c=>exact absurd rfl (n c)
 | non=>rw [h.non_inv];exact fun z=>nomatch z
 | int _=>rw [h.int_inv];exact fun z=>nomatch z
 | str _=>rw [h.str_inv];exact fun z=>nomatch z
 | ref _=>rw [h.ref_inv];exact fun z=>nomatch z
 | ty _=>rw [RelD] at h;rw [h];exact fun z=>nomatch z
 | tup _=>obtain ⟨a,xs,e,_⟩:=h.tup_inv;rw [e];exact fun z=>nomatch z
theorem ud3 {c b:Bool}:decide (V.bl c=V.bl b)=decide (c=b):=by cases c <;> cases b <;> rfl
theorem vn0:Op3 X (compareOp .Is) xIs2:=u48 (op_isN.or vs1) <| by
 rintro x y H Q ⟨d,e,G,q,r1,r2,c,t,f⟩;unfold xIs2 at t;split at t
 ·refine .inl ⟨r2.non_inv,?_⟩
  split at t
  ·rw [r1.non_inv]
   exact f _ _ _ _ RelD.blI c (Le.refl H) t
  ·rename_i hd
   rw [decide_eq_false (r1.not_non fun z=>hd z)];exact f _ _ _ _ RelD.blI c (Le.refl H) t
 ·rename_i b
  refine .inr ⟨b,r2.bl_inv,?_⟩;split at t
  ·rw [r1.bl_inv,ud3]
   exact f _ _ _ _ RelD.blI c (Le.refl H) t
  ·rename_i hd
   rw [decide_eq_false (r1.not_bl b fun z hz=>hd z hz)];exact f _ _ _ _ RelD.blI c (Le.refl H) t
 ·exact t.elim
end
def jSeq (n:Nat) (t:TGs3):TG3:=fun d σ G q=>match d with
 | .tup ds=>ds.length=n /\ t ds σ G q
 | .ref a=>(match u18 (G a) with | some ds=>ds.length=n /\ t ds σ G q | none=>False)
 | _=>False
def wAny (te:TE3):TI3:=fun σ G r=>te σ G fun x G1=>match x with
 | .ref a=>(match u18 (G1 a) with | some ds=>r ⟨ds,fun G=>u18 (G a)=some ds⟩ G1 | none=>False)
 | .tup ds=>r ⟨ds,fun _=>True⟩ G1
 | _=>False
section
variable {X:Cx} {es:List Expr} {e tg:Expr} {te:TE3} {pos:Pos}
theorem vi2 {k n:Nat} {t:TGs3} (hc:X.calm=true) (h:Js3 X es t) (hn:(assignEach es X.env).length=n:=by rfl) (hst:(assignEach es X.env).findIdx? (·.1)=none:=by rfl):J3 X (.Tuple es k pos) (jSeq n t) :=
 va8 (vz8 (vq6 hc h hn hst) (ve8 hc h hn hst)) fun v σ H Q hh=>by
  obtain ⟨d,σd,G,q,r,rs,c,t,f⟩:=hh;unfold jSeq at t;split at t
  ·rename_i ds
   obtain ⟨a,xs,rfl,s,r2⟩:=r.tup_inv;exact .inl ⟨a,xs,rfl,s,by rw [<- r2.length];exact t.1,ds,σd,G,q,r2,rs,c,t.2,f⟩
  ·rename_i a
   split at t
   ·rename_i ds e
    obtain ⟨xs,s,r'⟩:=u17 c e;exact .inr ⟨a,xs,r.ref_inv,s,by rw [<- r'.length];exact t.1,ds,σd,G,q,r',rs,c,t.2,f⟩
   ·exact t.elim
  ·exact t.elim
theorem vi8 (h:E3 X e te):I3 X tg e (wAny te):=v01 (vq5 h) fun σ H R hh=>by
 obtain ⟨σd,G,q,rs,c,t,f⟩:=hh;refine ⟨σd,G,_,rs,c,t,fun x G1 v H1 r1 c1 l1 t1=>?_⟩;split at t1
 ·rename_i a
  split at t1
  ·rename_i ds e
   obtain ⟨xs,s,_⟩:=u17 c1 e;exact ⟨a,r1.ref_inv,.inl ⟨⟨xs,s⟩,f _ _ _ _ un8 c1 l1 t1⟩⟩
  ·exact t1.elim
 ·rename_i ds
  obtain ⟨a,xs,rfl,s,r⟩:=r1.tup_inv;exact ⟨a,rfl,.inr ⟨⟨xs,s⟩,f _ _ _ _ (uv2 s r) c1 l1 t1⟩⟩
 ·exact t1.elim
end
section
variable {X:Cx} {e o:Expr} {es:List Expr} {to:TE3} {ts:TA3} {apos cpos:Pos}
theorem ty_list (K:PySem.W.Frag):∀ G H x v,Con K G H->RelD K H x v->tyD G "list" x->tyV K "list" v H:=by
 intro G H x v c r t;cases x with
 | ref a =>
  cases r.ref_inv;cases e:G a with
  | none=>simp [tyD,e] at t
  | some o =>
   cases o with
   | lst ds=>obtain ⟨xs,s,_⟩:=u17 (ds:=ds) c (by rw [e];rfl);exact .inl ⟨rfl,xs,s⟩
   | fro ds=>obtain ⟨xs,s,_⟩:=u17 (ds:=ds) c (by rw [e];rfl);exact .inl ⟨rfl,xs,s⟩
   | dic _=>simp [tyD,e] at t
   | dit _=>simp [tyD,e] at t
   | ins _ _=>simp [tyD,e] at t
   | exc _ _=>simp [tyD,e] at t
   | frd _=>simp [tyD,e] at t
 | str _=>simp [tyD] at t
 | int _=>simp [tyD] at t
 | _=>exact t.elim
def uc6:M3:=fun x ds G q=>match x,ds with
 | .ref a,[d]=>(match G a with | some (.lst xs)=>xs.length < sizeLine /\ q .non (gup G a (.lst (xs++[d]))) | _=>False)
 | _,_=>False
theorem ud0 (ho:E3 X o to) (ha:A3 X (e::es) ts) (hbase:attributeBase o "append" X.env (eval o X.env)=eval o X.env:=by rfl)
  (hfew:((backTo cpos (starEach (e::es) X.env)).all (fun x=>!x.1) && (backToKw cpos (keywordEach [] X.env)).all (fun x=>x.1.isSome)
   && decide ((e::es).length+([]:List Keyword).length+(if ([]:List Keyword).isEmpty then 0 else 1) < 30))=true:=by rfl)
  (hline:(apos.endLine == cpos.line)=true:=by rfl) (hs:starEach (e::es) X.env=(false,eval e X.env)::starEach es X.env:=by rfl) (hplain:(backTo cpos (starEach es X.env)).any (·.1)=false:=by rfl) :
  E3 X (.Call (.Attribute o "append" apos) (e::es) [] cpos) (dBM "list" uc6 to ts) :=
 u26 (vf4 PySem.F.plainAttrs_list PySem.F.slot_list_append PySem.F.type_list_append (up4 (r':=lowM X.K uc6) uf0 <| by
  rintro x xs H Q ⟨d,ds,G,q,r1,r2,c,t,f⟩;unfold uc6 at t;split at t
  ·rename_i a d'
   split at t
   ·rename_i ys ea
    cases r1.ref_inv;obtain ⟨v,rfl,rv⟩:=r2.one;obtain ⟨zs,h1,q1⟩:=c _ _ ea;exact ⟨a,zs,v,rfl,rfl,h1,by rw [<- q1.length];exact t.1,f _ _ _ _ RelD.nonI (c.lstSet h1 (q1.append (.cons rv .nil))) (Le.lst h1) t.2⟩
   ·exact t.elim
  ·exact t.elim) ho ha hbase hfew hline hs hplain) fun _ _ _=>ut9 (ty_list X.K)
def vg3:M3:=fun x ds G q=>match x,ds with
 | .ref a,[.ref b]=>(match G a,G b with | some (.lst xs),some (.lst ys)=>xs.length+ys.length<=sizeLine /\ q .non (gup G a (.lst (xs++ys))) | _,_=>False)
 | _,_=>False
def w22:M3:=fun x ds G q=>match x,ds with
 | .ref a,[]=>(match G a with | some (.lst xs)=>(match xs[xs.length - 1]? with | some y=>q y (gup G a (.lst xs.dropLast)) | none=>False) | _=>False)
 | _,_=>False
def vg4:M3:=fun x ds G q=>match x,ds with
 | .ref a,[]=>(match G a with | some (.lst _)=>q .non (gup G a (.lst [])) | _=>False)
 | _,_=>False
end
def xEqB (neg:Bool):R3:=fun x y G q=>match x,y with
 | .int i,.int j=>q (.bl (if neg then !decide (i=j) else decide (i=j))) G
 | .str i,.str j=>q (.bl (if neg then !decide (i=j) else decide (i=j))) G
 | .bl i,.bl j=>q (.bl (if neg then !decide (i=j) else decide (i=j))) G
 | .non,.non=>q (.bl (!neg)) G
 | .non,.int _=>q (.bl neg) G
 | .int _,.non=>q (.bl neg) G
 | .non,.bl _=>q (.bl neg) G
 | .bl _,.non=>q (.bl neg) G
 | .non,.str _=>q (.bl neg) G
 | .str _,.non=>q (.bl neg) G
 | .int _,.str _=>q (.bl neg) G
 | .str _,.int _=>q (.bl neg) G
 | .tup xs,.tup ys=>∃ n sd se b,n<=40 /\ snap G n (.tup xs)=some sd /\ snap G n (.tup ys)=some se /\ eqN n sd se=some b /\ q (.bl (if neg then !b else b)) G
 | .ref a,.ref c=>∃ n sd se b,n<=40 /\ snap G n (.ref a)=some sd /\ snap G n (.ref c)=some se /\ eqN n sd se=some b /\ q (.bl (if neg then !b else b)) G
 | _,_=>False
section
variable {X:Cx} {k:Nat}
theorem um0 {i j:Int}:decide (V.int i=V.int j)=decide (i=j):=by
 by_cases h:i=j
 ·subst h;simp
 ·simp [h]
theorem ul9 {i j:Str}:decide (V.str i=V.str j)=decide (i=j):=by
 by_cases h:i=j
 ·subst h;simp
 ·simp [h]
theorem u44 {G:Gp} {n:Nat} {xs:List D} {sd:Sn} (h:snap G n (.tup xs)=some sd):u29 sd=false:=by
 obtain ⟨_,_,_,rfl,_⟩:=snap_tup h;rfl
theorem u45 {G:Gp} {n:Nat} {a:Addr} {sd:Sn} (h:snap G n (.ref a)=some sd):u29 sd=false:=by
 obtain ⟨_,_,_,_,rfl,_⟩:=snap_ref h;rfl
theorem x_eq (hr:Room k X.A):Op3 X (compareOp .Eq) (xEqB false):=u48 (op_eq.or (vs3 hr)) <| by
 rintro x y H Q ⟨d,e,G,q,r1,r2,c,t,f⟩;have fin:∀ b,q (.bl b) G->Q (.bl b) H:=fun b z=>f _ _ _ _ RelD.blI c (Le.refl H) z
 unfold xEqB at t;split at t
 ·cases r1.int_inv;cases r2.int_inv;exact .inl ⟨rfl,by rw [um0];exact fin _ t⟩
 ·cases r1.str_inv;cases r2.str_inv;exact .inl ⟨rfl,by rw [ul9];exact fin _ t⟩
 ·cases r1.bl_inv;cases r2.bl_inv;exact .inl ⟨rfl,by rw [ud3];exact fin _ t⟩
 ·cases r1.non_inv;cases r2.non_inv;exact .inl ⟨rfl,fin _ t⟩
 ·cases r1.non_inv;cases r2.int_inv;exact .inl ⟨rfl,fin _ t⟩
 ·cases r1.int_inv;cases r2.non_inv;exact .inl ⟨rfl,fin _ t⟩
 ·cases r1.non_inv;cases r2.bl_inv;exact .inl ⟨rfl,fin _ t⟩
 ·cases r1.bl_inv;cases r2.non_inv;exact .inl ⟨rfl,fin _ t⟩
 ·cases r1.non_inv;cases r2.str_inv;exact .inl ⟨rfl,fin _ t⟩
 ·cases r1.str_inv;cases r2.non_inv;exact .inl ⟨rfl,fin _ t⟩
 ·cases r1.int_inv;cases r2.str_inv;exact .inl ⟨rfl,fin _ t⟩
 ·cases r1.str_inv;cases r2.int_inv;exact .inl ⟨rfl,fin _ t⟩
 ·obtain ⟨n,sd,se,b,hn,h1,h2,hb,t⟩:=t
  exact .inr ⟨_,_,G,n,sd,se,b,r1,r2,c,hn,h1,h2,hb,u44 h1,fin _ t⟩
 ·obtain ⟨n,sd,se,b,hn,h1,h2,hb,t⟩:=t
  exact .inr ⟨_,_,G,n,sd,se,b,r1,r2,c,hn,h1,h2,hb,u45 h1,fin _ t⟩
 ·exact t.elim
theorem x_ne (hr:Room k X.A):Op3 X (compareOp .NotEq) (xEqB true):=u48 (op_ne.or (vr9 hr)) <| by
 rintro x y H Q ⟨d,e,G,q,r1,r2,c,t,f⟩;have fin:∀ b,q (.bl b) G->Q (.bl b) H:=fun b z=>f _ _ _ _ RelD.blI c (Le.refl H) z
 unfold xEqB at t;split at t
 ·cases r1.int_inv;cases r2.int_inv;exact .inl ⟨rfl,by rw [um0];exact fin _ t⟩
 ·cases r1.str_inv;cases r2.str_inv;exact .inl ⟨rfl,by rw [ul9];exact fin _ t⟩
 ·cases r1.bl_inv;cases r2.bl_inv;exact .inl ⟨rfl,by rw [ud3];exact fin _ t⟩
 ·cases r1.non_inv;cases r2.non_inv;exact .inl ⟨rfl,fin _ t⟩
 ·cases r1.non_inv;cases r2.int_inv;exact .inl ⟨rfl,fin _ t⟩
 ·cases r1.int_inv;cases r2.non_inv;exact .inl ⟨rfl,fin _ t⟩
 ·cases r1.non_inv;cases r2.bl_inv;exact .inl ⟨rfl,fin _ t⟩
 ·cases r1.bl_inv;cases r2.non_inv;exact .inl ⟨rfl,fin _ t⟩
 ·cases r1.non_inv;cases r2.str_inv;exact .inl ⟨rfl,fin _ t⟩
 ·cases r1.str_inv;cases r2.non_inv;exact .inl ⟨rfl,fin _ t⟩
 ·cases r1.int_inv;cases r2.str_inv;exact .inl ⟨rfl,fin _ t⟩
 ·cases r1.str_inv;cases r2.int_inv;exact .inl ⟨rfl,fin _ t⟩
 ·obtain ⟨n,sd,se,b,hn,h1,h2,hb,t⟩:=t
  exact .inr ⟨_,_,G,n,sd,se,b,r1,r2,c,hn,h1,h2,hb,u44 h1,fin _ t⟩
 ·obtain ⟨n,sd,se,b,hn,h1,h2,hb,t⟩:=t
  exact .inr ⟨_,_,G,n,sd,se,b,r1,r2,c,hn,h1,h2,hb,u45 h1,fin _ t⟩
 ·exact t.elim
end
section
variable {X:Cx} {e:Expr} {es:List Expr} {p pos:Pos} {ts:TA3} {k:Nat} {S:Sp3} {x m qual:Str} {st:Stmt} {ps:List Str} {C f:Addr} {fd:FuncData}
theorem vj5 {i:Int} (h:∃ t,X.mg x=some (.int i t)) (hg:Gl X x:=by rfl) (hdb:(x == ("__debug__" : Str))=false:=by decide):E3 X (.Name x pos) (dC (.int i)):=by
 obtain ⟨t,h⟩:=h;exact ux5 hg h (v:=.int i) ⟨t,rfl⟩ (fun _=>RelD.intI) hdb
end
theorem uv5 {c A B:Prop} [Decidable c] (h1:c->A) (h2:¬ c->B):if decide c=true then A else B:=by
 by_cases h:c
 ·simpa [h] using h1 h
 ·simpa [h] using h2 h
theorem u50 {xs:List D}:u18 (some (.lst xs))=some xs:=rfl
theorem ur0 {xs:List D}:u18 (some (.fro xs))=some xs:=rfl
theorem w19 {α:Type} {x:α} {xs:List α}:atI (x::xs) 0=some x:=u79 (j:=0) rfl
theorem w18 {α:Type} {x y:α} {xs:List α}:atI (x::y::xs) 1=some y:=u79 (j:=1) rfl
theorem w17 {α:Type} {x y z:α} {xs:List α}:atI (x::y::z::xs) 2=some z:=u79 (j:=2) rfl
theorem w16 {α:Type} {x y z u:α} {xs:List α}:atI (x::y::z::u::xs) 3=some u:=u79 (j:=3) rfl
theorem w15 {α:Type} {x y z u v:α} {xs:List α}:atI (x::y::z::u::v::xs) 4=some v:=u79 (j:=4) rfl
theorem vv8:ixN 3 0=some 0:=rfl
theorem vv7:ixN 3 1=some 1:=rfl
theorem vv6:ixN 3 2=some 2:=rfl
theorem vw0:ixN 2 0=some 0:=rfl
theorem vv9:ixN 2 1=some 1:=rfl
theorem vv5 {n j:Nat} (h:j < n):ixN n (j:Int)=some j:=by
 unfold ixN;rw [if_pos (by omega),if_pos (by omega)];simp
theorem vi4 {n:Nat} {i:Int} (h0:0<=i) (h:i < n):ixN n i=some i.toNat:=by
 unfold ixN;rw [if_pos h0,if_pos h]
theorem vl3 {α:Type} {xs:List α} {i:Int} (h0:0<=i) (h:i < xs.length):atI xs i=some (xs[i.toNat]'(by omega)):=by
 unfold atI;rw [vi4 h0 h];exact List.getElem?_eq_getElem _
theorem vl2 {α β:Type} {f:α->β} {xs:List α} {i:Int} (h0:0<=i) (h:i < xs.length):atI (xs.map f) i=some (f (xs[i.toNat]'(by omega))):=by
 rw [vl3 h0 (by simpa using h)];simp
theorem um5 {i j:Int} (h0:0<=i) (h:i < 18446744073709551616):CMul i j:=.inl ⟨by omega,by omega⟩
end L3
namespace L3
theorem v58 {S:Sp3} {ds:List D} {G G1:Gp} {v:D} {q:DK} (h:∀ R:DK,R v G1->S ds G R) (k:q v G1):∃ R,S ds G R /\ ∀ d G',R d G'->q d G' :=
 ⟨fun d G'=>d=v /\ G'=G1,h _ ⟨rfl,rfl⟩,fun _ _ ⟨e1,e2⟩=>by subst e1;subst e2;exact k⟩
theorem u23 {S:Sp3} {ds:List D} {G:Gp} {post:DK} {q:DK} (h:∀ R:DK,(∀ d G',post d G'->R d G')->S ds G R) (k:∀ d G',post d G'->q d G'):∃ R,S ds G R /\ ∀ d G',R d G'->q d G' :=
 ⟨post,h _ fun _ _ z=>z,k⟩
theorem u83 {ok:Gp->Prop} {g:TG3} {tb:TS3} {E:Ends3} (I:List D->DSt->Gp->Prop) {items:List D} {σ:DSt} {G:Gp} (h0:I items σ G) (nil:∀ σ G,I [] σ G->ok G /\ E.nx σ G)
  (cons:∀ x r σ G,I (x::r) σ G->(∀ σ' G',I r σ' G'->forL ok g tb E r σ' G')->ok G /\ g x σ G fun σ1 G1=>tb { E with nx:=forL ok g tb E r,ct:=forL ok g tb E r,bk:=E.nx } σ1 G1):forL ok g tb E items σ G:=by
 induction items generalizing σ G with
 | nil=>exact nil σ G h0
 | cons x r ih=>exact cons x r σ G h0 fun σ' G' h=>ih h
theorem u56 {ok:Gp->Prop} {g:TG3} {tc:TT3} {te:TE3} {p:PySem.Addr} {q:DK} (I:List D->DSt->Gp->Prop) {items:List D} {σ:DSt} {G:Gp} (h0:I items σ G) (nil:∀ σ G,I [] σ G->ok G /\ q (.ref p) G)
  (cons:∀ x r σ G,I (x::r) σ G->(∀ σ' G',I r σ' G'->ua0 ok g tc te p q r σ' G')->ok G /\ g x σ G fun σ2 G2=>tc σ2 G2 fun b G3 =>
   if b=true then te σ2 G3 fun d G4=>(match G4 p with | some (.lst ys)=>ys.length < PySem.sizeLine /\ ua0 ok g tc te p q r σ2 (gup G4 p (.lst (ys++[d]))) | _=>False)
   else ua0 ok g tc te p q r σ2 G3):ua0 ok g tc te p q items σ G:=by
 induction items generalizing σ G with
 | nil=>exact nil σ G h0
 | cons x r ih=>exact cons x r σ G h0 fun σ' G' h=>ih h
end L3
namespace Rw
open PySem PyProof.Rows L2 L3
inductive Opd where
 | num (n:Int) | box (y:Nat)
 deriving DecidableEq
inductive Row where
 | add (x:Nat) (o:Opd) | take (x:Nat) (o:Opd) | turn (x i:Nat) (cs:List (Nat × Nat)) | swap (x y:Nat) | go (x:Nat) (n:Int) (k:Nat) | come (x:Nat) (n:Int) (k:Nat)
 deriving DecidableEq
def Opd.d:Opd->D
 | .num n=>.tup [.str "num",.int n]
 | .box y=>.tup [.str "box",.int (y:Int)]
def cd (c:Nat × Nat):D:=.tup [.int (c.1:Int),.int (c.2:Int)]
def Row.d:Row->D
 | .add x o=>.tup [.str "add",.int (x:Int),o.d]
 | .take x o=>.tup [.str "take",.int (x:Int),o.d]
 | .turn x i cs=>.tup [.str "turn",.int (x:Int),.int (i:Int),.tup (cs.map cd)]
 | .swap x y=>.tup [.str "swap",.int (x:Int),.int (y:Int)]
 | .go x n k=>.tup [.str "go",.int (x:Int),.int n,.int (k:Int)]
 | .come x n k=>.tup [.str "come",.int (x:Int),.int n,.int (k:Int)]
def Opd.ok (sz x:Nat):Opd->Prop
 | .num n=>0<=n /\ n < 4294967296
 | .box y=>y < sz /\ y ≠ x
def Row.ok (sz:Nat):Row->Prop
 | .add x o=>x < sz /\ o.ok sz x
 | .take x o=>x < sz /\ o.ok sz x
 | .turn x i cs=>x < sz /\ i < 32 /\ cs.length<=2 /\ ∀ c ∈ cs,c.1 < sz /\ c.1 ≠ x /\ c.2 < 32
 | .swap x y=>x < sz /\ y < sz /\ y ≠ x
 | .go x n _=>x < sz /\ 0<=n /\ n < 4294967296
 | .come x n _=>x < sz /\ 0<=n /\ n < 4294967296
def Row.plain:Row->Bool
 | .go _ _ _=>false
 | .come _ _ _=>false
 | _=>true
def gt (bs:List Int) (x:Nat):Int:=bs.getD x 0
def bit (v:Int) (j:Nat):Int:=v / 2 ^ j % 2
def flp (v:Int) (i:Nat):Int:=v+2 ^ i * (1 - 2 * bit v i)
def val (bs:List Int):Opd->Int
 | .num n=>n
 | .box y=>gt bs y
def con (bs:List Int) (cs:List (Nat × Nat)):Bool:=cs.all fun c=>!decide (bit (gt bs c.1) c.2=0)
def stp (s:Int) (bs:List Int):Row->List Int
 | .add x o=>bs.set x ((gt bs x+s * val bs o) % 4294967296)
 | .take x o=>bs.set x ((gt bs x - s * val bs o) % 4294967296)
 | .turn x i cs=>if con bs cs=true then bs.set x (flp (gt bs x) i) else bs
 | .swap x y=>(bs.set x (gt bs y)).set y (gt bs x)
 | .go _ _ _=>bs
 | .come _ _ _=>bs
structure BsOk (sz:Nat) (bs:List Int):Prop where
 len:bs.length=sz
 rng:∀ v ∈ bs,0<=v /\ v < 4294967296
theorem vw6 {bs:List Int} {x:Nat} (h:x < bs.length):gt bs x=bs[x]:=by unfold gt;rw [List.getD_eq_getElem?_getD,List.getElem?_eq_getElem h];rfl
theorem uw5 {sz:Nat} {bs:List Int} {x:Nat} (h:BsOk sz bs) (hx:x < sz):0<=gt bs x /\ gt bs x < 4294967296:=by
 rw [vw6 (by rw [h.len];exact hx)];exact h.rng _ (List.getElem_mem _)
theorem uw4 {bs:List Int} {x y:Nat} {v:Int} (h:x < bs.length):gt (bs.set x v) y=if y=x then v else gt bs y:=by
 unfold gt;rw [List.getD_eq_getElem?_getD,List.getD_eq_getElem?_getD,List.getElem?_set]
 by_cases e:x=y
 ·subst e;simp [h]
 ·rw [if_neg e,if_neg (Ne.symm e)]
theorem ug1 (v:Int) (j:Nat):bit v j=0 \/ bit v j=1:=by unfold bit;omega
theorem pow_pos (i:Nat):(0:Int) < 2 ^ i:=Int.pow_pos (by decide)
theorem uq8 (v:Int) (i:Nat):∃ a r:Int,v=2 ^ i * (2 * a+bit v i)+r /\ 0<=r /\ r < 2 ^ i:=by
 refine ⟨v / 2 ^ i / 2,v % 2 ^ i,?_,Int.emod_nonneg _ (Int.ne_of_gt (pow_pos i)),Int.emod_lt_of_pos _ (pow_pos i)⟩;have h1:=Int.mul_ediv_add_emod v (2 ^ i);have h2:2 * (v / 2 ^ i / 2)+bit v i=v / 2 ^ i:=by unfold bit;omega
 rw [h2];omega
theorem vw9 (v:Int) (i:Nat):∃ a r:Int,v=2 ^ i * (2 * a+bit v i)+r /\ flp v i=2 ^ i * (2 * a+(1 - bit v i))+r /\ 0<=r /\ r < 2 ^ i:=by
 obtain ⟨a,r,h,h0,h1⟩:=uq8 v i;refine ⟨a,r,h,?_,h0,h1⟩;have e:flp v i=v+2 ^ i * (1 - 2 * bit v i):=rfl;rw [e]
 rcases ug1 v i with hb | hb
 ·rw [hb] at h ⊢
  have:(2:Int) ^ i * (1 - 2 * 0)=2 ^ i:=by omega
  have e2:(2:Int) ^ i * (2 * a+(1 - 0))=2 ^ i * (2 * a+0)+2 ^ i:=by rw [Int.mul_add,Int.mul_add];omega
  omega
 ·rw [hb] at h ⊢
  have:(2:Int) ^ i * (1 - 2 * 1)=- 2 ^ i:=by omega
  have e2:(2:Int) ^ i * (2 * a+1)=2 ^ i * (2 * a+(1 - 1))+2 ^ i:=by rw [Int.mul_add,Int.mul_add];omega
  omega
theorem vj2 {v:Int} {i:Nat} (hi:i < 32) (h0:0<=v) (h1:v < 4294967296):0<=flp v i /\ flp v i < 4294967296:=by
 obtain ⟨a,r,h,e,r0,r1⟩:=vw9 v i;have hp:=pow_pos i;have ha:0<=a:=by
  by_cases q:0<=a
  ·exact q
  ·have:(2:Int) ^ i * (2 * a+bit v i)<=2 ^ i * (-1):=Int.mul_le_mul_of_nonneg_left (by rcases ug1 v i with hb | hb <;> omega) (Int.le_of_lt hp)
   omega
 have hq:(4294967296:Int)=2 ^ i * (2 * 2 ^ (31 - i)):=by
  have e1:(2:Int) * 2 ^ (31 - i)=2 ^ (32 - i):=by
   rw [Int.mul_comm,<- Int.pow_succ];congr 1;omega
  rw [e1,<- Int.pow_add];have:i+(32 - i)=32:=by omega
  rw [this];rfl
 have ha2:a < 2 ^ (31 - i):=by
  by_cases q:a < 2 ^ (31 - i)
  ·exact q
  ·have:(2:Int) ^ i * (2 * 2 ^ (31 - i))<=2 ^ i * (2 * a+bit v i):=Int.mul_le_mul_of_nonneg_left (by rcases ug1 v i with hb | hb <;> omega) (Int.le_of_lt hp)
   omega
 rw [e]
 constructor
 ·have:0<=(2:Int) ^ i * (2 * a+(1 - bit v i)):=Int.mul_nonneg (Int.le_of_lt hp) (by rcases ug1 v i with hb | hb <;> omega)
  omega
 ·have:(2:Int) ^ i * (2 * a+(1 - bit v i))<=2 ^ i * (2 * 2 ^ (31 - i) - 1):=Int.mul_le_mul_of_nonneg_left (by rcases ug1 v i with hb | hb <;> omega) (Int.le_of_lt hp)
  rw [Int.mul_sub,<- hq] at this;omega
theorem vp0 {s:Int} {sz:Nat} {bs:List Int} {r:Row} (h:BsOk sz bs) (hr:r.ok sz):BsOk sz (stp s bs r):=by
 have setOk:∀ {cs:List Int} {x:Nat} {v:Int},BsOk sz cs->0<=v->v < 4294967296->BsOk sz (cs.set x v):=fun {cs x v} h h0 h1 =>
  ⟨by rw [List.length_set];exact h.len,fun u hu=>by
   rcases List.mem_or_eq_of_mem_set hu with q | q
   ·exact h.rng u q
   ·subst q;exact ⟨h0,h1⟩⟩
 cases r with
 | add x o=>exact setOk h (Int.emod_nonneg _ (by decide)) (Int.emod_lt_of_pos _ (by decide))
 | take x o=>exact setOk h (Int.emod_nonneg _ (by decide)) (Int.emod_lt_of_pos _ (by decide))
 | turn x i cs =>
  show BsOk sz (if con bs cs=true then bs.set x (flp (gt bs x) i) else bs)
  split
  ·obtain ⟨hx,hi,_⟩:=hr
   obtain ⟨a,b⟩:=uw5 h hx;obtain ⟨c,d⟩:=vj2 hi a b;exact setOk h c d
  ·exact h
 | swap x y =>
  obtain ⟨hx,hy,_⟩:=hr;obtain ⟨a,b⟩:=uw5 h hx;obtain ⟨c,d⟩:=uw5 h hy;exact setOk (setOk h c d) a b
 | go _ _ _=>exact h
 | come _ _ _=>exact h
end Rw
namespace Rw
open PySem L2 L3
theorem u52 (lo:Int) (n:Nat):rngD lo (n+1)=.int lo::rngD (lo+1) n:=by
 unfold rngD;rw [List.range_succ_eq_map,List.map_cons,List.map_map]
 congr 1
 ·simp
 ·apply List.map_congr_left
  intro i _
  show D.int _=D.int _
  congr 1
  simp;omega
structure Grow (G G':Gp):Prop where
 kp:∀ b o,G b=some o->G' b=some o
theorem Grow.refl {G:Gp}:Grow G G:=⟨fun _ _ h=>h⟩
theorem Grow.trans {G G1 G2:Gp} (a:Grow G G1) (b:Grow G1 G2):Grow G G2:=⟨fun c o h=>b.kp c o (a.kp c o h)⟩
theorem Grow.new {G G1:Gp} {p:Addr} {o:DO} (a:Grow G G1) (h:G1 p=none):Grow G (gup G1 p o):=⟨fun b u e=>by rw [u06 (gne (a.kp b u e) h)];exact a.kp b u e⟩
theorem Grow.own {G G1:Gp} {p:Addr} {o:DO} (a:Grow G G1) (h:G p=none):Grow G (gup G1 p o):=⟨fun b u e=>by rw [u06 (gne e h)];exact a.kp b u e⟩
theorem Grow.none {G G1:Gp} {p:Addr} (a:Grow G G1) (h:G1 p=none):G p=none:=by
 cases e:G p with
 | none=>rfl
 | some o=>rw [a.kp p o e] at h;cases h
end Rw
namespace L3
open PySem PySem.Spec PyProof.Rows L2
theorem vm6:(∀ i j G q,xEqB false (.int i) (.int j) G q=q (.bl (decide (i=j))) G) /\ (∀ i j G q,xEqB true (.int i) (.int j) G q=q (.bl (!decide (i=j))) G) /\
  (∀ i j G q,xEqB false (.str i) (.str j) G q=q (.bl (decide (i=j))) G) /\ (∀ i j G q,xEqB true (.str i) (.str j) G q=q (.bl (!decide (i=j))) G) /\
  (∀ a c G q,xEqB false (.ref a) (.ref c) G q=∃ n sd se b,n<=40 /\ snap G n (.ref a)=some sd /\ snap G n (.ref c)=some se /\ eqN n sd se=some b /\ q (.bl b) G) /\
  (∀ a c G q,xEqB true (.ref a) (.ref c) G q=∃ n sd se b,n<=40 /\ snap G n (.ref a)=some sd /\ snap G n (.ref c)=some se /\ eqN n sd se=some b /\ q (.bl (!b)) G) /\
  (∀ a c G q,xEqB false (.tup a) (.tup c) G q=∃ n sd se b,n<=40 /\ snap G n (.tup a)=some sd /\ snap G n (.tup c)=some se /\ eqN n sd se=some b /\ q (.bl b) G) /\
  (∀ a c G q,xEqB true (.tup a) (.tup c) G q=∃ n sd se b,n<=40 /\ snap G n (.tup a)=some sd /\ snap G n (.tup c)=some se /\ eqN n sd se=some b /\ q (.bl (!b)) G) /\
  (∀ i j G q,xAdd (.int i) (.int j) G q=q (.int (i+j)) G) /\ (∀ i j G q,xMul (.int i) (.int j) G q=(CMul i j /\ q (.int (i * j)) G)) /\
  (∀ a k G q,xMul (.ref a) (.int k) G q=(match G a with | some (.lst xs)=>(-(2 ^ 63)<=k /\ k < 2 ^ 63 /\ xs.length * k.toNat<=sizeLine) /\ ∀ p,G p=none->q (.ref p) (gup G p (.lst (List.replicate k.toNat xs).flatten)) | _=>False)) /\
  (∀ i j G q,xLt (.int i) (.int j) G q=q (.bl (decide (i < j))) G) /\
  (∀ ds i G q,xIx (.tup ds) (.int i) G q=(match atI ds i with | some d=>q d G | none=>False)) /\
  (∀ a i G q,xIx (.ref a) (.int i) G q=(match u18 (G a) with | some ds=>(match atI ds i with | some d=>q d G | none=>False) | none=>False)) /\
  (∀ xs G q,xLen [.tup xs] G q=q (.int xs.length) G) /\ (∀ a G q,xLen [.ref a] G q=(match u18 (G a) with | some xs=>q (.int xs.length) G | none=>False)) :=
 ⟨fun _ _ _ _=>rfl,fun _ _ _ _=>rfl,fun _ _ _ _=>rfl,fun _ _ _ _=>rfl,fun _ _ _ _=>rfl,fun _ _ _ _=>rfl,fun _ _ _ _=>rfl,fun _ _ _ _=>rfl,fun _ _ _ _=>rfl,fun _ _ _ _=>rfl,fun _ _ _ _=>rfl,fun _ _ _ _=>rfl,fun _ _ _ _=>rfl,fun _ _ _ _=>rfl,fun _ _ _=>rfl,fun _ _ _=>rfl⟩
theorem vm5:(∀ f i j G q,xInt f (.int i) (.int j) G q=q (.int (f i j)) G) /\ (∀ C f i j G q,ue0 C f (.int i) (.int j) G q=(C i j /\ q (.int (f i j)) G)) /\ (∀ i j G q,xLe (.int i) (.int j) G q=q (.bl (decide (i<=j))) G) /\
  (∀ i j G q,xGt (.int i) (.int j) G q=q (.bl (decide (j < i))) G) /\ (∀ i j G q,xGe (.int i) (.int j) G q=q (.bl (decide (j<=i))) G) /\ (∀ i G q,xNeg (.int i) G q=q (.int (-i)) G) /\
  (∀ a k v G q,xSet (.ref a) (.int k) v G q=(match G a with | some (.lst ds)=>(match ixN ds.length k with | some j=>q (gup G a (.lst (ds.set j v))) | none=>False) | _=>False)) /\
  (∀ a lo hi G q,v65 (.ref a) lo hi G q=(match u18 (G a) with | some ds=>∀ p,G p=none->q (.ref p) (gup G p (.lst (cutD ds lo hi))) | none=>False)) /\
  (∀ ds lo hi G q,v65 (.tup ds) lo hi G q=(¬ (HT.sIx ds.length 0 lo=0 /\ HT.sIx ds.length ds.length hi=ds.length) /\ q (.tup (cutD ds lo hi)) G)) /\
  (∀ x G q,xIs2 x .non G q=(match x with | .non=>q (.bl true) G | _=>q (.bl false) G)) /\ (∀ x b G q,xIs2 x (.bl b) G q=(match x with | .bl c=>q (.bl (decide (c=b))) G | _=>q (.bl false) G)) /\
  (∀ x G q,up0 x .non G q=(match x with | .non=>q (.bl false) G | _=>q (.bl true) G)) /\ (∀ x b G q,up0 x (.bl b) G q=(match x with | .bl c=>q (.bl (!decide (c=b))) G | _=>q (.bl true) G)) /\
  (∀ i G q,xAbs [.int i] G q=q (.int (if i < 0 then -i else i)) G) /\ (∀ i j G q,uh0 [.int i,.int j] G q=(CDiv i j /\ q (.tup [.int (i / j),.int (i % j)]) G)) /\
  (∀ i j G q,vy7 [.int i,.int j] G q=q (.int (if j > i then j else i)) G) /\ (∀ i j G q,va5 [.int i,.int j] G q=q (.int (if j < i then j else i)) G) /\
  (∀ i G q,v64 [.int i] G q=q (.int i) G) /\ (∀ b G q,v64 [.bl b] G q=q (.int (if b then 1 else 0)) G) /\
  (∀ xs G q,ub1 [.tup xs] G q=∀ p,G p=none->q (.ref p) (gup G p (.lst xs))) /\ (∀ a G q,ub1 [.ref a] G q=(match u18 (G a) with | some xs=>∀ p,G p=none->q (.ref p) (gup G p (.lst xs)) | none=>False)) /\
  (∀ xs G q,uj6 [.tup xs] G q=q (.tup xs) G) /\ (∀ a G q,uj6 [.ref a] G q=(match u18 (G a) with | some xs=>q (.tup xs) G | none=>False)) /\
  (∀ a G q,xAll [.ref a] G q=(match u18 (G a) with | some xs=>(match uj4 xs with | some bs=>q (.bl (bs.all id)) G | none=>False) | none=>False)) /\
  (∀ x T G q,ug9 [x,.ty T] G q=((T = "int" \/ T = "str" \/ T = "bool" \/ T = "list" \/ T = "tuple" \/ T = "dict") /\ (match v43 G x with | some n=>q (.bl (subK n T)) G | none=>False))) /\
  (∀ a d G q,uc6 (.ref a) [d] G q=(match G a with | some (.lst xs)=>xs.length < sizeLine /\ q .non (gup G a (.lst (xs++[d]))) | _=>False)) /\
  (∀ a b G q,vg3 (.ref a) [.ref b] G q=(match G a,G b with | some (.lst xs),some (.lst ys)=>xs.length+ys.length<=sizeLine /\ q .non (gup G a (.lst (xs++ys))) | _,_=>False)) /\
  (∀ a G q,vg4 (.ref a) [] G q=(match G a with | some (.lst _)=>q .non (gup G a (.lst [])) | _=>False)):=by
 refine ⟨?_,?_,?_,?_,?_,?_,?_,?_,?_,?_,?_,?_,?_,?_,?_,?_,?_,?_,?_,?_,?_,?_,?_,?_,?_,?_,?_,?_⟩ <;> intros <;> rfl
section
variable {X:Cx} {e:Expr} {te:TE3} {pos p2 p3 p4:Pos} {K:PySem.W.Frag} {σ:L2.St} {H:Hp} {Q:VK}
def w13 (te:TE3):TE3:=fun σ G q=>te σ G fun x G1=>match x with
 | .ref a=>(match u18 (G1 a) with | some ds=>∀ p,G1 p=none->q (.ref p) (gup G1 p (.lst ds.reverse)) | none=>False)
 | _=>False
end
def strsOf:List D->Option (List Str)
 | []=>some []
 | .str x::r=>(strsOf r).map (x::·)
 | _=>none
def intsOf:List D->Option (List Int)
 | []=>some []
 | .int x::r=>(intsOf r).map (x::·)
 | _=>none
section
variable {X:Cx} {K:PySem.W.Frag} {H:Hp}
theorem u73:∀ {ds:List D} {ws:List Str} {vs:List V},strsOf ds=some ws->RelDs K H ds vs->vs=ws.map V.str
 | [],ws,vs,e,r=>by cases e;rw [r.inv_nil];rfl
 | .str b::ds,ws,vs,e,r=>by
  obtain ⟨x,xs,rfl,h1,h2⟩:=r.inv_cons;obtain ⟨ws',e',rfl⟩:=Option.map_eq_some_iff.mp (show (strsOf ds).map (b::·)=some ws from e);rw [h1.str_inv,u73 e' h2];rfl
 | .non::_,_,_,e,_=>by cases e
 | .bl _::_,_,_,e,_=>by cases e
 | .int _::_,_,_,e,_=>by cases e
 | .tup _::_,_,_,e,_=>by cases e
 | .ref _::_,_,_,e,_=>by cases e
 | .ty _::_,_,_,e,_=>by cases e
theorem u77:∀ {ds:List D} {ws:List Int} {vs:List V},intsOf ds=some ws->RelDs K H ds vs->vs=ws.map V.int
 | [],ws,vs,e,r=>by cases e;rw [r.inv_nil];rfl
 | .int b::ds,ws,vs,e,r=>by
  obtain ⟨x,xs,rfl,h1,h2⟩:=r.inv_cons;obtain ⟨ws',e',rfl⟩:=Option.map_eq_some_iff.mp (show (intsOf ds).map (b::·)=some ws from e);rw [h1.int_inv,u77 e' h2];rfl
 | .non::_,_,_,e,_=>by cases e
 | .bl _::_,_,_,e,_=>by cases e
 | .str _::_,_,_,e,_=>by cases e
 | .tup _::_,_,_,e,_=>by cases e
 | .ref _::_,_,_,e,_=>by cases e
 | .ty _::_,_,_,e,_=>by cases e
theorem uv9 {w:Str} {ws:List Str}:inV (V.str w) (ws.map V.str)=decide (w ∈ ws):=by
 unfold inV
 induction ws with
 | nil=>rfl
 | cons x xs ih =>
  rw [List.map_cons,List.any_cons,ih]
  show ((x == w) || decide (w ∈ xs))=_
  by_cases h:x=w
  ·subst h;simp
  ·have h':¬ w=x:=fun e=>h e.symm
   have:(x == w)=false:=by simpa using h
   rw [this];simp [h']
theorem uw0 {w:Int} {ws:List Int}:inV (V.int w) (ws.map V.int)=decide (w ∈ ws):=by
 unfold inV
 induction ws with
 | nil=>rfl
 | cons x xs ih =>
  rw [List.map_cons,List.any_cons,ih]
  show ((x == w) || decide (w ∈ xs))=_
  by_cases h:x=w
  ·subst h;simp
  ·have h':¬ w=x:=fun e=>h e.symm
   have:(x == w)=false:=by simpa using h
   rw [this];simp [h']
theorem u90:∀ ws:List Str,(ws.map V.str).all u92=true
 | []=>rfl
 | _::ws=>by rw [List.map_cons,List.all_cons,u90 ws];rfl
theorem u91:∀ ws:List Int,(ws.map V.int).all u92=true
 | []=>rfl
 | _::ws=>by rw [List.map_cons,List.all_cons,u91 ws];rfl
def xInB (neg:Bool):R3:=fun x y G q=>match x,y with
 | .str w,.tup ds=>(match strsOf ds with | some ws=>q (.bl (if neg then !decide (w ∈ ws) else decide (w ∈ ws))) G | none=>False)
 | .str w,.ref a=>(match u18 (G a) with | some ds=>(match strsOf ds with | some ws=>q (.bl (if neg then !decide (w ∈ ws) else decide (w ∈ ws))) G | none=>False) | none=>False)
 | .int w,.tup ds=>(match intsOf ds with | some ws=>q (.bl (if neg then !decide (w ∈ ws) else decide (w ∈ ws))) G | none=>False)
 | .int w,.ref a=>(match u18 (G a) with | some ds=>(match intsOf ds with | some ws=>q (.bl (if neg then !decide (w ∈ ws) else decide (w ∈ ws))) G | none=>False) | none=>False)
 | _,_=>False
theorem vu3 {neg:Bool} {x y:V} {Q:VK} (h:lowR K (xInB neg) x y H Q):rIn K neg x y H Q:=by
 obtain ⟨d,e,G,q,r1,r2,c,t,f⟩:=h;unfold xInB at t;split at t
 ·rename_i w ds
  split at t
  ·rename_i ws es
   obtain ⟨a,xs,rfl,s1,q1⟩:=r2.tup_inv;cases r1.str_inv;obtain rfl:=u73 es q1;exact ⟨a,_,rfl,.inr s1,rfl,u90 ws,f _ _ _ _ (by rw [uv9];exact RelD.blI) c (Le.refl H) t⟩
  ·exact t.elim
 ·rename_i w a
  split at t
  ·rename_i ds eq
   split at t
   ·rename_i ws es
    obtain ⟨xs,s1,q1⟩:=u17 c eq;cases r1.str_inv;obtain rfl:=u73 es q1;exact ⟨a,_,r2.ref_inv,.inl s1,rfl,u90 ws,f _ _ _ _ (by rw [uv9];exact RelD.blI) c (Le.refl H) t⟩
   ·exact t.elim
  ·exact t.elim
 ·rename_i w ds
  split at t
  ·rename_i ws es
   obtain ⟨a,xs,rfl,s1,q1⟩:=r2.tup_inv;cases r1.int_inv;obtain rfl:=u77 es q1;exact ⟨a,_,rfl,.inr s1,rfl,u91 ws,f _ _ _ _ (by rw [uw0];exact RelD.blI) c (Le.refl H) t⟩
  ·exact t.elim
 ·rename_i w a
  split at t
  ·rename_i ds eq
   split at t
   ·rename_i ws es
    obtain ⟨xs,s1,q1⟩:=u17 c eq;cases r1.int_inv;obtain rfl:=u77 es q1;exact ⟨a,_,r2.ref_inv,.inl s1,rfl,u91 ws,f _ _ _ _ (by rw [uw0];exact RelD.blI) c (Le.refl H) t⟩
   ·exact t.elim
  ·exact t.elim
 ·exact t.elim
theorem va1 {k:Nat} {A:Around} (_:Room k A):Op3 X (compareOp .NotIn) (xInB true):=u48 ue9 fun _ _ _ _ h=>vu3 h
end
end L3
namespace L2
open PySem PySem.Spec PyProof.Rows
def Ite (K:PySem.W.Frag) (a:Addr):It :=
 ⟨fun i H=>∃ xs x,SqL K H a xs /\ xs[i]?=some x,fun i H v H'=>∃ p x,v=.ref p /\ H p=none /\ H'=upd H p (.tup [.int (i:Int),x]) /\ ∀ xs,SqL K H a xs->xs[i]?=some x,fun i H=>∃ xs,SqL K H a xs /\ xs.length<=i⟩
theorem Inv.turnedT {X:Cx} {pins:List (Addr × Obj)} {σ:List (Option V)} {H:Hp} {s:Shared} {h':Heap} {t':Nat} {e it:Addr} {o:HO} (I:Inv X pins σ H s) (k:∀ b o,b ≠ e->b ≠ it->s.heap.get? b=some o->h'.get? b=some o)
  (f:∀ b ∈ [e,it],FpOk X pins H b) (new:ObjOk X.prog X.w (upd H s.heap.objs.size o) h' s.heap.objs.size o):Inv X pins σ (upd H s.heap.objs.size o) { s with heap:=h',toks:=t' }:=by
 have hn:H s.heap.objs.size=none:=I.hok.fresh (Nat.le_refl _);have f1:=f e (by simp);have f2:=f it (by simp);have old:∀ b u,H b=some u->b ≠ s.heap.objs.size:=fun b u q z=>by rw [z,hn] at q;cases q
 have nit:∀ b u,H b=some u->b ≠ e /\ b ≠ it:=fun b u q=>⟨fun z=>(by rw [z,f1.1] at q;cases q),fun z=>(by rw [z,f2.1] at q;cases q)⟩
 have nch:∀ {b:Addr},b ∉ [e,it]->b ≠ e /\ b ≠ it:=fun hc=>⟨fun z=>hc (by simp [z]),fun z=>hc (by simp [z])⟩
 refine I.step (g':=s.gens) (d':=s.drawn) (ch:=[e,it]) (fun b hb=>?_) (fun b o _ _ hc q _=>k b o (nch hc).1 (nch hc).2 q) (fun b o _ _ hc q _=>⟨o.slots,k b o (nch hc).1 (nch hc).2 q⟩) (fun b u _ q n=>?_)
  (fun b o hc q=>⟨o,k b o (nch hc).1 (nch hc).2 q⟩) (fun b xs q=>?_) (fun b o u q=>?_) (fun b ps q=>⟨#[],?_⟩) (fun m hm=>?_) (fun b u q=>?_) I.bare
 ·obtain ⟨g0,g1,g2,g3,g4,g5⟩:=f b hb
  exact ⟨g3,g1,g4,g5⟩
 ·rw [u05 (Nat.ne_of_lt (Heap.lt_size q))];exact n
 ·rw [u05 (old b _ q)];exact q
 ·rw [u05 (old b _ q)];exact q
 ·rw [u05 (old b _ q),q];simp
 ·obtain ⟨o,es,ep,ho,r⟩:=hm
  exact ⟨o,es,ep,k _ o (Ne.symm f1.2.1) (Ne.symm f2.2.1) ho,r⟩
 ·by_cases hb:b=s.heap.objs.size
  ·subst hb;rw [u12] at q;cases q;exact new
  ·rw [u05 hb] at q
   refine (I.hok b u q).stay (fun c v hc z=>?_) (fun c z=>by rw [u05 (old c _ z)];exact z) fun c xs z=>by rw [u05 (old c _ z)];exact z
   rcases hc with y | y
   ·subst y;exact k _ v (nit _ u q).1 (nit _ u q).2 z
   ·exact k c v (nit c _ y).1 (nit c _ y).2 z
theorem uq0 {P:Program} {w:World} {K:PySem.W.Frag} {elts:List Expr} {x1} {pos:Pos} (a e it:Addr) (hne:e ≠ it):Turn P w K (.Tuple elts x1 pos) (Ite K a) [e,it] e (fun i h=>(∃ old,IsEnum h e it (i:Int) old) /\ h.IsListIter it a i) where
 mem:=by simp
 obj:=fun i h st b hb=>by
  obtain ⟨⟨old,st1⟩,st2⟩:=st
  rcases List.mem_cons.mp hb with q | q
  ·subst q
   exact ⟨_,st1,fun v z=>by
    have z':Data.fields _=Data.cell v:=z;cases z'⟩
  ·have q:b=it:=by simpa using q
   subst q;obtain ⟨o,e,c,d⟩:=st2;exact ⟨o,e,fun v z=>by rw [d] at z;cases z⟩
 keep:=fun i h h' st k=>⟨st.1.elim fun old q=>⟨old,k e (by simp) _ q⟩,st.2.at fun o q=>k it (by simp) o q⟩
 item:=by
  intro X hP hw hK hc i pins s σ H E I hf st hg;subst hP hw hK;obtain ⟨⟨old,st1⟩,st2⟩:=st;obtain ⟨xs,x,hq,hx⟩:=hg;obtain ⟨its,rv,p,hz⟩:=I.list hq;obtain ⟨u,hu,ru⟩:=rv.get hx;have hel:e < s.heap.objs.size:=Heap.lt_size st1;have hn:H s.heap.objs.size=none:=I.hok.fresh (Nat.le_refl _);refine wpAny_pyNext_enum_item st1 st2 p.isList (x:=u) (by simpa using hu) hne fun h1 ho hit1 ht1 hz1 hk1=>?_
  refine ⟨_,rfl,wpAny_letOwnedTupleGo_enum ho fun h2 he2 hs2=>?_⟩
  replace hs2:Heap.SameBut e h1 h2:=hs2
  have hk2:∀ b o,b ≠ e->b ≠ it->s.heap.get? b=some o->h2.get? b=some o:=fun b o h1' h2' q=>(hs2.2 b h1').trans (hk1 b o h1' h2' q)
  have ht2:=(hs2.2 s.heap.objs.size (Nat.ne_of_gt hel)).trans ht1;refine ⟨.ref s.heap.objs.size,upd H s.heap.objs.size (.tup [.int (i:Int),x]),I.turnedT (t':=s.toks+1) hk2 hf ?_,rfl,⟨_,x,rfl,hn,rfl,fun ys hy=>by rw [I.list_inj hy hq];exact hx⟩,⟨⟨u,by simpa using he2⟩,?_⟩,fun b hb=>?_⟩
  ·exact ⟨show 2<=sizeLine by decide,[.int i s.toks,u],.cons ⟨s.toks,rfl⟩ (.cons ru .nil),⟨_,ht2,rfl,⟨_,rfl⟩,rfl⟩⟩
  ·exact hit1.at fun o q=>(hs2.2 it (Ne.symm hne)).trans q
  ·rw [u05 ?_];exact (hf b hb).1
   intro z
   rcases List.mem_cons.mp hb with q | q
   ·exact Nat.ne_of_lt hel (q ▸ z)
   ·have q:b=it:=by simpa using q
    obtain ⟨o,y,_⟩:=st2;exact Nat.ne_of_lt (Heap.lt_size y) (q ▸ z)
 done:=by
  intro X hP hw hK hc i pins s σ H E I hf st hg;subst hP hw hK;obtain ⟨⟨old,st1⟩,st2⟩:=st;obtain ⟨xs,hq,hx⟩:=hg;obtain ⟨its,rv,p,hz⟩:=I.list hq;obtain ⟨f0,f1,f2,f3,f4,f5⟩:=hf it (by simp);have hl:=rv.length;exact wpAny_pyNext_enum_end (I.ok.hd hc) st1 st2 p.isList (by simp;omega) fun h' eb=>⟨rfl,I.turned (t':=s.toks) (fun b o hb q=>eb b o hb q) f0 f1 f3 f4 f5⟩
 self:=fun _ _ _ _ _ st h=>st.1.elim fun _ q=>wpAny_pyIter_enum q h
def vw3 (K:PySem.W.Frag) (ta:TA):TI:=fun σ H R=>ta σ H fun vs H1=>∃ a,vs=[.ref a] /\ (∃ xs,SqL K H1 a xs) /\ R (Ite K a) H1
theorem uy9:bootBuiltins "enumerate" = some (.type "enumerate"):=by decide
theorem ve5 {X:Cx} {elts:List Expr} {x1} {tpos:Pos} {a:Expr} {ta:TA} {p pos:Pos} (hg:Gl X "enumerate") (hm:X.mg "enumerate" = none) (ha:PA X [a] ta) (hs:starEach [a] X.env=[(false,eval a X.env)]:=by rfl) :
  PI X (.Tuple elts x1 tpos) (.Call (.Name "enumerate" p) [a] [] pos) (vw3 X.K ta):=by
 intro pins s σ H R I h;refine Call_ (uf3 I hg hm uy9 (PyProof.Rows.callWith_type1 (thn (ha pos pins s σ H _ I h) fun us s1 ⟨vs,H1,I1,r1,q1⟩=>?_) hs rfl));obtain ⟨l,e,⟨xs,hq⟩,q⟩:=q1;subst e;cases r1 with
 | cons r rr =>
  cases rr;cases r;obtain ⟨its,rv,pl,hz⟩:=I1.list hq;refine call_enumerate_list pl.isList fun h' he hit hsz hk=>?_
  refine wpAny_pyIter_enum he ?_;have I2:Inv X pins σ H1 { s1 with heap:=h' }:=I1.kept (t':=s1.toks) hk
  refine ⟨s1.heap.objs.size+1,[s1.heap.objs.size+1,s1.heap.objs.size],_,_,H1,rfl,I2,uq0 l _ _ (Nat.succ_ne_self _),⟨⟨.none,he⟩,hit⟩,fun b hb=>?_,q⟩;have hb:s1.heap.objs.size<=b:=by
   rcases List.mem_cons.mp hb with z | z
   ·rw [z];exact Nat.le_succ _
   ·have e:b=s1.heap.objs.size:=by simpa using z
    rw [e];exact Nat.le_refl _
  exact I1.fpOk hb (I1.hok.fresh hb)
end L2
namespace L3
open PySem PySem.Spec PyProof.Rows L2
def enD:Nat->List D->List D
 | _,[]=>[]
 | i,d::r=>.tup [.int (i:Int),d]::enD (i+1) r
theorem u78:∀ {i:Nat} {ds:List D},(enD i ds).length=ds.length
 | _,[]=>rfl
 | _,_::r=>by show (enD _ r).length+1=r.length+1;rw [u78]
theorem ux2:∀ {j i:Nat} {ds:List D} {d:D},ds[i]?=some d->(enD j ds)[i]?=some (.tup [.int ((j+i:Nat):Int),d])
 | j,0,d::r,_,h=>by cases h;rfl
 | j,i+1,d::r,e,h=>by
  have:=ux2 (j:=j+1) (i:=i) (ds:=r) (d:=e) (by simpa using h)
  show (enD (j+1) r)[i]?=_
  rw [this,show j+1+i=j+(i+1) by omega]
 | _,_,[],_,h=>by simp at h
theorem un9 {K:PySem.W.Frag} {H0:Hp} {a:Addr} {ds:List D}:ItRel K H0 ⟨enD 0 ds,fun G=>u18 (G a)=some ds⟩ (Ite K a) where
 go:=fun i G H l c ok hi=>by
  obtain ⟨xs,s,r⟩:=u17 c ok;rw [u78] at hi;exact ⟨xs,xs[i]'(by rw [<- r.length];exact hi),s,List.getElem?_eq_getElem _⟩
 stop:=fun i G H l c ok hi=>by
  obtain ⟨xs,s,r⟩:=u17 c ok;rw [u78] at hi;exact ⟨xs,s,by rw [<- r.length];exact hi⟩
 yld:=fun i G H x H' l c ok hi y=>by
  obtain ⟨p,v,rfl,hp,rfl,y⟩:=y;obtain ⟨xs,s,r⟩:=u17 c ok;obtain ⟨d,hd,rd⟩:=r.at_ (y xs s)
  refine ⟨c.side hp,Le.fresh hp,.tup [.int (i:Int),d],by rw [ux2 hd,Nat.zero_add],?_⟩;rw [RelD];exact ⟨p,_,rfl,SqT.of u12,.cons RelD.intI (.cons (RelD.le (Le.fresh hp) rd) .nil)⟩
def vb1 (t:TA3):TI3:=fun σ G r=>t σ G fun ds G1=>match ds with
 | [.ref a]=>(match u18 (G1 a) with | some ds=>r ⟨enD 0 ds,fun G=>u18 (G a)=some ds⟩ G1 | none=>False)
 | _=>False
theorem ut5 {K:PySem.W.Frag} {t:TA3} {σ:L2.St} {H:Hp} {R:It->Hp->Prop} (h:lowI K (vb1 t) σ H R):vw3 K (lowA K t) σ H R:=by
 obtain ⟨σd,G,q,rs,c,t,f⟩:=h;refine ⟨σd,G,_,rs,c,t,fun ds G1 vs H1 r1 c1 l1 t1=>?_⟩;split at t1
 ·rename_i a
  split at t1
  ·rename_i ds e
   obtain ⟨v,rfl,rv⟩:=r1.one;cases rv.ref_inv;obtain ⟨xs,s1,q1⟩:=u17 c1 e;exact ⟨a,rfl,⟨xs,s1⟩,f _ _ _ _ un9 c1 l1 t1⟩
  ·exact t1.elim
 ·exact t1.elim
theorem ui1 {X:Cx} {elts:List Expr} {x1} {tpos:Pos} {a:Expr} {ts:TA3} {p pos:Pos} (hg:Gl X "enumerate") (hm:X.mg "enumerate" = none) (ha:A3 X [a] ts) (hs:starEach [a] X.env=[(false,eval a X.env)]:=by rfl) :
  I3 X (.Tuple elts x1 tpos) (.Call (.Name "enumerate" p) [a] [] pos) (vb1 ts):=v01 (ve5 hg hm ha hs) fun _ _ _=>ut5
end L3
namespace Law
open PySem L2 L3 Rw
set_option maxHeartbeats 4000000
theorem ua2 {v:Int} (h:0<=v):∃ x:Nat,v=(x:Int):=⟨v.toNat,by omega⟩
structure StAt (G:Gp) (st:Addr):Prop where
 ex:∃ (a:Addr) (ns:List Int) (k r:Int),G st=some (.lst [.ref a,.int k,.int r]) /\ G a=some (.fro (ns.map .int)) /\ 0<=k /\ 0<=r /\ a ≠ st /\ ns.length<=63
structure Adv (st:Addr) (G G':Gp):Prop where
 at_:StAt G' st
 kp:∀ b o,b ≠ st->G b=some o->G' b=some o
structure Upd1 (a:Addr) (bs:List Int) (G G':Gp):Prop where
 at_:G' a=some (.lst (bs.map .int))
 kp:∀ b,b ≠ a->G' b=G b
def flds (ra ha:Addr) (s:Nat):List (Str × D):=[("rows",.ref ra),("held",.ref ha),("spot",.int (s:Int))]
structure RideAt (C:Addr) (G:Gp) (p ra ha:Addr) (rs:List Row) (bs:List Int) (s:Nat):Prop where
 ob:G p=some (.ins C (flds ra ha s))
 ro:G ra=some (.lst (rs.map Row.d))
 he:G ha=some (.lst (bs.map .int))
 ne:ra ≠ ha
structure Cde (sz:Nat) (rs:List Row) (bs:List Int) (s:Nat):Prop where
 bo:BsOk sz bs
 ro:∀ r ∈ rs,r.ok sz
 le:s<=rs.length
def mayF (rs:List Row) (bs:List Int) (s:Nat):Bool:=match rs[s]? with
 | none=>false
 | some (.come x n _)=>!decide (gt bs x=n)
 | some _=>true
def mayB (rs:List Row) (bs:List Int) (s:Nat):Bool:=if s=0 then false else match rs[s - 1]? with
 | none=>false
 | some (.go x n _)=>!decide (gt bs x=n)
 | some _=>true
def nxF (rs:List Row) (bs:List Int) (s:Nat):Nat × List Int:=match rs[s]? with
 | some (.go x n k)=>if gt bs x=n then (k+1,bs) else (s+1,bs)
 | some r=>(s+1,stp 1 bs r)
 | none=>(s,bs)
def nxB (rs:List Row) (bs:List Int) (s:Nat):Nat × List Int:=match rs[s - 1]? with
 | some (.come x n k)=>if gt bs x=n then (k,bs) else (s - 1,bs)
 | some r=>(s - 1,stp (-1) bs r)
 | none=>(s,bs)
theorem RideAt.pr {C:Addr} {G:Gp} {p ra ha:Addr} {rs:List Row} {bs:List Int} {s:Nat} (h:RideAt C G p ra ha rs bs s):p ≠ ra:=by
 intro e;have:=h.ob;rw [e,h.ro] at this;cases this
theorem StAt.new {G:Gp} {st p:Addr} {o:DO} (h:StAt G st) (hp:G p=none):StAt (gup G p o) st:=by
 obtain ⟨a,ns,k,r,h1,h2,h3⟩:=h.ex;exact ⟨a,ns,k,r,by rw [u06 (gne h1 hp)];exact h1,by rw [u06 (gne h2 hp)];exact h2,h3⟩
theorem StAt.ne {G:Gp} {st p:Addr} (h:StAt G st) (hp:G p=none):p ≠ st:=by
 obtain ⟨a,ns,k,r,h1,h2,h3⟩:=h.ex;exact Ne.symm (gne h1 hp)
theorem StAt.set {G:Gp} {st p:Addr} {xs ys:List D} (h:StAt G st) (hp:G p=some (.lst xs)) (hne:p ≠ st):StAt (gup G p (.lst ys)) st:=by
 obtain ⟨a,ns,k,r,h1,h2,h3⟩:=h.ex;have:a ≠ p:=by intro e;rw [e,hp] at h2;cases h2
 exact ⟨a,ns,k,r,by rw [u06 (Ne.symm hne)];exact h1,by rw [u06 this];exact h2,h3⟩
theorem Adv.refl {G:Gp} {st:Addr} (h:StAt G st):Adv st G G:=⟨h,fun _ _ _ e=>e⟩
theorem Adv.trans {st:Addr} {G G1 G2:Gp} (a:Adv st G G1) (b:Adv st G1 G2):Adv st G G2:=⟨b.at_,fun c o hc e=>b.kp c o hc (a.kp c o hc e)⟩
theorem Adv.new {st p:Addr} {G G1:Gp} {o:DO} (a:Adv st G G1) (hp:G1 p=none):Adv st G (gup G1 p o):=⟨a.at_.new hp,fun c u hc e=>by rw [u06 (gne (a.kp c u hc e) hp)];exact a.kp c u hc e⟩
theorem Adv.own {st p:Addr} {G G1:Gp} {xs ys:List D} (a:Adv st G G1) (hp:G p=none) (h1:G1 p=some (.lst xs)) (hne:p ≠ st):Adv st G (gup G1 p (.lst ys)) :=
 ⟨a.at_.set h1 hne,fun c u hc e=>by rw [u06 (gne e hp)];exact a.kp c u hc e⟩
theorem Adv.none {st p:Addr} {G G1:Gp} (a:Adv st G G1) (hp:G1 p=none) (hne:p ≠ st):G p=none:=by
 cases e:G p with
 | none=>rfl
 | some o=>rw [a.kp p o hne e] at hp;cases hp
theorem RideAt.grow {C:Addr} {G G':Gp} {p ra ha:Addr} {rs:List Row} {bs:List Int} {s:Nat} (h:RideAt C G p ra ha rs bs s) (g:Grow G G'):RideAt C G' p ra ha rs bs s :=
 ⟨g.kp _ _ h.ob,g.kp _ _ h.ro,g.kp _ _ h.he,h.ne⟩
structure Kept (p ha:Addr) (G G':Gp):Prop where
 kp:∀ b o,b ≠ p->b ≠ ha->G b=some o->G' b=some o
theorem Kept.refl {p ha:Addr} {G:Gp}:Kept p ha G G:=⟨fun _ _ _ _ h=>h⟩
theorem Kept.trans {p ha:Addr} {G G1 G2:Gp} (a:Kept p ha G G1) (b:Kept p ha G1 G2):Kept p ha G G2:=⟨fun c o h1 h2 h=>b.kp c o h1 h2 (a.kp c o h1 h2 h)⟩
theorem Kept.grow {p ha:Addr} {G G1 G2:Gp} (a:Kept p ha G G1) (b:Grow G1 G2):Kept p ha G G2:=⟨fun c o h1 h2 h=>b.kp c o (a.kp c o h1 h2 h)⟩
theorem Kept.none {p ha q:Addr} {G G1:Gp} (a:Kept p ha G G1) (h1:q ≠ p) (h2:q ≠ ha) (h:G1 q=none):G q=none:=by
 cases e:G q with
 | none=>rfl
 | some o=>rw [a.kp q o h1 h2 e] at h;cases h
structure AllIn (C:Addr) (G:Gp) (p ra ha rr a:Addr) (rs:List Row) (bs:List Int) (s sz:Nat):Prop where
 A:RideAt C G p ra ha rs bs s
 c:Cde sz rs bs s
 pl:∀ r ∈ rs,r.plain=true
 le:sz<=1000
 r:G rr=some (.lst (rs.map Row.d))
 b:G a=some (.lst (bs.map .int))
 rh:rr ≠ ha
 ah:a ≠ ha
structure AllOut (C:Addr) (G G':Gp) (p ra ha a q:Addr) (rs:List Row) (bs:List Int) (s:Nat):Prop where
 A:RideAt C G' p ra ha rs bs s
 b:G' q=some (.lst (bs.map .int))
 k:Kept p ha G G'
 q:q=a \/ G q=none
end Law
namespace Rw
open PySem L2 L3
theorem ul2 {α β:Type} {f:α->Option β}:∀ {xs:List α},(∀ x ∈ xs,∃ y,f x=some y)->∃ ys,xs.mapM f=some ys
 | [],_=>⟨[],rfl⟩
 | x::xs,h=>by
  obtain ⟨y,hy⟩:=h x List.mem_cons_self;obtain ⟨ys,hys⟩:=ul2 (xs:=xs) fun z hz=>h z (List.mem_cons_of_mem _ hz)
  exact ⟨y::ys,by rw [List.mapM_cons,hy,hys];rfl⟩
theorem snap_tup {G:Gp} {n:Nat} {ds:List D} (h:∀ d ∈ ds,∃ s,snap G n d=some s):∃ s,snap G (n+1) (.tup ds)=some s:=by
 obtain ⟨ys,e⟩:=ul2 h;exact ⟨.tup ys,by show (ds.mapM (snap G n)).map Sn.tup=_;rw [e];rfl⟩
theorem snap_ref {G:Gp} {n:Nat} {a b:Addr} (h:u18 (G a)=u18 (G b)):snap G n (.ref a)=snap G n (.ref b):=by
 cases n with
 | zero=>rfl
 | succ n=>show ((u18 (G a)).bind _)=((u18 (G b)).bind _);rw [h]
end Rw
namespace Law
open PySem L2 L3 Rw
set_option maxHeartbeats 4000000
structure Pairs (rs:List Row):Prop where
 go:∀ (j x:Nat) (n:Int) (k:Nat),rs[j]?=some (Row.go x n k)->rs[k]?=some (.come x n j)
 co:∀ (j x:Nat) (n:Int) (k:Nat),rs[j]?=some (Row.come x n k)->rs[k]?=some (.go x n j)
theorem w07 {α:Type} {xs:List α} {i:Nat} {x:α} (h:xs[i]?=some x):i < xs.length:=(List.getElem?_eq_some_iff.mp h).1
def od:Option Row->D
 | none=>.non
 | some r=>r.d
structure PairsO (os:List (Option Row)):Prop where
 go:∀ (j x:Nat) (n:Int) (k:Nat),os[j]?=some (some (Row.go x n k))->os[k]?=some (some (.come x n j))
 co:∀ (j x:Nat) (n:Int) (k:Nat),os[j]?=some (some (Row.come x n k))->os[k]?=some (some (.go x n j))
theorem PairsO.plain {os:List (Option Row)} {i:Nat} {r:Row} (h:PairsO os) (hi:os[i]?=some none) (hr:r.plain=true):PairsO (os.set i (some r)):=by
 have hl:=w07 hi;refine ⟨fun j x n k e=>?_,fun j x n k e=>?_⟩
 ·rw [List.getElem?_set] at e ⊢
  by_cases hj:i=j
  ·subst hj;rw [if_pos rfl,if_pos hl] at e;cases e;cases hr
  ·rw [if_neg hj] at e
   have q:=h.go j x n k e
   by_cases hk:i=k
   ·subst hk;rw [hi] at q;cases q
   ·rw [if_neg hk];exact q
 ·rw [List.getElem?_set] at e ⊢
  by_cases hj:i=j
  ·subst hj;rw [if_pos rfl,if_pos hl] at e;cases e;cases hr
  ·rw [if_neg hj] at e
   have q:=h.co j x n k e
   by_cases hk:i=k
   ·subst hk;rw [hi] at q;cases q
   ·rw [if_neg hk];exact q
theorem PairsO.empty {m:Nat}:PairsO (List.replicate m none):=by
 refine ⟨fun j x n k e=>?_,fun j x n k e=>?_⟩ <;> (rw [List.getElem?_replicate] at e;split at e <;> cases e)
theorem PairsO.pairs {rs:List Row} (h:PairsO (rs.map some)):Pairs rs:=by
 have e:∀ {j:Nat} {r:Row},rs[j]?=some r ↔ (rs.map some)[j]?=some (some r):=fun {j r}=>by
  rw [List.getElem?_map];cases rs[j]? <;> simp
 exact ⟨fun j x n k q=>e.mpr (h.go j x n k (e.mp q)),fun j x n k q=>e.mpr (h.co j x n k (e.mp q))⟩
end Law
namespace Law
open PySem L2 L3 Rw
structure Ent where
 s:Nat
 q:Addr
 bs:List Int
def Ent.d (e:Ent):D:=.tup [.int (e.s:Int),.ref e.q]
theorem StAt.grow {G G':Gp} {st:Addr} (h:StAt G st) (g:Grow G G'):StAt G' st:=by
 obtain ⟨a,ns,k,r,h1,h2,h3⟩:=h.ex;exact ⟨a,ns,k,r,g.kp _ _ h1,g.kp _ _ h2,h3⟩
end Law
namespace Rw
open PySem L2 L3
def Row.x:Row->Nat
 | .add x _=>x
 | .take x _=>x
 | .turn x _ _=>x
 | .swap x _=>x
 | .go x _ _=>x
 | .come x _ _=>x
end Rw
namespace Law
open PySem L2 L3 Rw
def mayX (fw:Bool) (rs:List Row) (bs:List Int) (s:Nat):Bool:=if fw=true then mayF rs bs s else mayB rs bs s
def nxX (fw:Bool) (rs:List Row) (bs:List Int) (s:Nat):Nat × List Int:=if fw=true then nxF rs bs s else nxB rs bs s
structure Ent2 where
 fw:Bool
 s:Nat
 q:Addr
 bs:List Int
def Ent2.d (e:Ent2):D:=.tup [.bl e.fw,.int (e.s:Int),.ref e.q]
def rn (fw:Bool) (rs:List Row):Nat->Nat->List Int->Nat × Nat × List Int
 | 0,s,bs=>(0,s,bs)
 | n+1,s,bs=>if mayX fw rs bs s=true then ((rn fw rs n (nxX fw rs bs s).1 (nxX fw rs bs s).2).1+1,(rn fw rs n (nxX fw rs bs s).1 (nxX fw rs bs s).2).2) else (0,s,bs)
theorem vz2 {fw:Bool} {rs:List Row} {n s:Nat} {bs:List Int} (h:mayX fw rs bs s=true):rn fw rs (n+1) s bs=((rn fw rs n (nxX fw rs bs s).1 (nxX fw rs bs s).2).1+1,(rn fw rs n (nxX fw rs bs s).1 (nxX fw rs bs s).2).2):=by
 show (if mayX fw rs bs s=true then _ else _)=_
 rw [if_pos h]
theorem vd4 {fw:Bool} {rs:List Row} {n s:Nat} {bs:List Int} (h:mayX fw rs bs s=false):rn fw rs n s bs=(0,s,bs):=by
 cases n with
 | zero=>rfl
 | succ n=>show (if mayX fw rs bs s=true then _ else _)=_;rw [if_neg (by rw [h];exact Bool.false_ne_true)]
structure RnI (fw:Bool) (rs:List Row) (most s0:Nat) (bs0:List Int) (k s:Nat) (bs:List Int):Prop where
 le:k<=most
 eq:rn fw rs most s0 bs0=(k+(rn fw rs (most - k) s bs).1,(rn fw rs (most - k) s bs).2)
theorem RnI.init {fw:Bool} {rs:List Row} {most s0:Nat} {bs0:List Int}:RnI fw rs most s0 bs0 0 s0 bs0:=⟨Nat.zero_le _,by rw [Nat.sub_zero,Nat.zero_add]⟩
theorem RnI.step {fw:Bool} {rs:List Row} {most s0 k s:Nat} {bs0 bs:List Int} (h:RnI fw rs most s0 bs0 k s bs) (hk:k < most) (hm:mayX fw rs bs s=true):RnI fw rs most s0 bs0 (k+1) (nxX fw rs bs s).1 (nxX fw rs bs s).2:=by
 refine ⟨hk,?_⟩;rw [h.eq,show most - k=(most - (k+1))+1 by omega,vz2 hm]
 show (k+((rn fw rs (most - (k+1)) _ _).1+1),_)=_
 rw [show ∀ a:Nat,k+(a+1)=k+1+a from fun a=>by omega]
theorem RnI.stop {fw:Bool} {rs:List Row} {most s0 k s:Nat} {bs0 bs:List Int} (h:RnI fw rs most s0 bs0 k s bs) (hk:¬ k < most \/ mayX fw rs bs s=false):rn fw rs most s0 bs0=(k,s,bs):=by
 have e:rn fw rs (most - k) s bs=(0,s,bs):=by
  rcases hk with hk | hk
  ·have:=h.le
   rw [show most - k=0 by omega];rfl
  ·exact vd4 hk
 rw [h.eq,e];rfl
end Law
namespace L3
open PySem PySem.Spec PyProof.Rows L2 Rw
def stn (k m:Nat):Bool:=k == 0 || m.testBit (k - 1)
theorem vl4 (a b:Nat):Builtin.bitAnd (a:Int) (b:Int)=((a &&& b:Nat):Int):=by
 unfold Builtin.bitAnd;simp
theorem vr6 (a b:Nat):Builtin.bitOr (a:Int) (b:Int)=((a ||| b:Nat):Int):=by
 have h1:∀ x:Nat,¬ (0<=Builtin.bitNot (x:Int)):=fun x=>by unfold Builtin.bitNot;omega
 have h2:∀ x:Int,Builtin.bitNot (Builtin.bitNot x)=x:=fun x=>by unfold Builtin.bitNot;omega
 unfold Builtin.bitOr Builtin.bitAnd;simp only [h1,decide_false,h2,Int.toNat_natCast]
def pD (p:Str × Int):D:=.tup [.str p.1,.int p.2]
def Src (G:Gp) (s a:Addr):Prop:=∃ (ns:List Int) (x y:Int),G s=some (.lst [.ref a,.int x,.int y]) /\ G a=some (.lst (ns.map .int)) /\ 0<=x /\ s ≠ a
structure Ady (s a:Addr) (G G':Gp):Prop where
 at_:Src G' s a
 kp:∀ c o,c ≠ s->c ≠ a->G c=some o->G' c=some o
theorem Src.ne {G:Gp} {s a p:Addr} (h:Src G s a) (hp:G p=none):p ≠ s /\ p ≠ a:=by
 obtain ⟨ns,x,y,h1,h2,_⟩:=h;exact ⟨fun e=>(by rw [e,h1] at hp;cases hp),fun e=>(by rw [e,h2] at hp;cases hp)⟩
theorem Src.put {G:Gp} {s a p:Addr} {o:DO} (h:Src G s a) (hs:p ≠ s) (ha:p ≠ a):Src (gup G p o) s a:=by
 obtain ⟨ns,x,y,h1,h2,h3,h4⟩:=h;exact ⟨ns,x,y,by rw [u06 (Ne.symm hs)];exact h1,by rw [u06 (Ne.symm ha)];exact h2,h3,h4⟩
theorem Src.grow {G G':Gp} {s a:Addr} (h:Src G s a) (g:Grow G G'):Src G' s a:=by
 obtain ⟨ns,x,y,h1,h2,h3⟩:=h;exact ⟨ns,x,y,g.kp _ _ h1,g.kp _ _ h2,h3⟩
theorem Ady.trans {s a:Addr} {G G1 G2:Gp} (h:Ady s a G G1) (k:Ady s a G1 G2):Ady s a G G2:=⟨k.at_,fun c o h1 h2 e=>k.kp c o h1 h2 (h.kp c o h1 h2 e)⟩
theorem Ady.refl {s a:Addr} {G:Gp} (h:Src G s a):Ady s a G G:=⟨h,fun _ _ _ _ e=>e⟩
theorem Ady.new {s a p:Addr} {G G1:Gp} {o:DO} (h:Ady s a G G1) (hp:G1 p=none):Ady s a G (gup G1 p o) :=
 ⟨h.at_.put (h.at_.ne hp).1 (h.at_.ne hp).2,fun c u h1 h2 e=>by rw [u06 (gne (h.kp c u h1 h2 e) hp)];exact h.kp c u h1 h2 e⟩
end L3
namespace L2
open PySem PySem.Spec PyProof.Rows
abbrev v98 (h:Heap) (z TI TO T:Addr) (f:Bool):Prop:=h.get? z=some { cls:=.type "zip",data:=.fields #[rawInt (T:Int),.bool f,.bool false,.ref TI,.ref TO] }
theorem far {z t:Addr} {n:Nat} (a:z < n) (b:n<=t):t ≠ z:=Nat.ne_of_gt (Nat.lt_of_lt_of_le a b)
structure LzSt (l1 l2 z TI TO i1 i2 S:Addr) (xs ys:Array Value) (i:Nat) (h:Heap):Prop where
 zz:IsZip h z TI TO .none \/ ∃ T f oT,v98 h z TI TO T f /\ h.get? T=some oT /\ T ≠ z /\ T ≠ TO /\ T ≠ i1 /\ T ≠ i2 /\ T ≠ S
 ti:IsPair h TI (.ref i1) (.ref i2)
 to:∃ u v,IsPair h TO u v
 h1:h.IsListIter i1 l1 i
 h2:h.IsListIter i2 l2 i
 m1:h.IsList l1 xs
 m2:h.IsList l2 ys
structure LzTs (n0:Nat) (xs ys:Array Value) (h:Heap) (ts:List Addr):Prop where
 nd:ts.Nodup
 at_:∀ (j:Nat) (t:Addr),ts[j]?=some t->n0<=t /\ ∃ x y,xs[j]?=some x /\ ys[j]?=some y /\ IsPair h t x y
end L2
namespace L3
open PySem PySem.Spec PyProof.Rows L2 Rw
abbrev Mv:=Bool × Nat
def mP (p:Mv):Str × Int:=(if p.1 then "lay" else "clear",(p.2:Int))
def mD (p:Mv):D:=pD (mP p)
def nD (x:Nat):D:=.int (x:Int)
def stb (k m:Nat):Bool:=m.testBit (k - 1)
def xr (m k:Nat):Nat:=m ^^^ 2 ^ (k - 1)
def hi (m:Nat):Nat:=if m=0 then 0 else m.log2+1
theorem vg5 (m:Nat):m < 2 ^ hi m:=by
 unfold hi
 by_cases h:m=0
 ·subst h;simp
 ·rw [if_neg h];exact Nat.lt_log2_self
def okw:Nat->List Mv->Prop
 | _,[]=>True
 | m,p::r=>(1<=p.2 /\ p.2<=900) /\ p.1=!stb p.2 m /\ okw (xr m p.2) r
def fin:Nat->List Mv->Nat
 | m,[]=>m
 | m,p::r=>fin (xr m p.2) r
def low:Nat->List Mv->Nat
 | m,[]=>hi m
 | m,p::r=>min (low (xr m p.2) r) (hi m)
def thw:Nat->List Mv->List Mv
 | _,[]=>[]
 | m,p::r=>if p.2<=low (xr m p.2) r then p::thw (xr m p.2) r else thw (xr m p.2) r
def once (w:List Mv):List Mv:=thw 0 w
def sbh:Nat->List Mv->List Nat
 | _,[]=>[]
 | m,p::r=>xr m p.2::sbh (xr m p.2) r
theorem ux0:∀ {l r:List Mv} {m:Nat},fin m (l++r)=fin (fin m l) r
 | [],_,_=>rfl
 | p::l,r,m=>by show fin (xr m p.2) (l++r)=_;rw [ux0];rfl
theorem thw_sub:∀ {w:List Mv} {m:Nat},(thw m w).Sublist w
 | [],_=>.slnil
 | p::r,m=>by
  rw [thw];split
  ·exact thw_sub.cons₂ _
  ·exact thw_sub.cons _
theorem uc4 {m l:Nat}:m % 2 ^ (min l (hi m))=m % 2 ^ l:=by
 rcases Nat.le_total l (hi m) with h | h
 ·rw [Nat.min_eq_left h]
 ·rw [Nat.min_eq_right h,Nat.mod_eq_of_lt (vg5 m),Nat.mod_eq_of_lt (Nat.lt_of_lt_of_le (vg5 m) (Nat.pow_le_pow_right (by decide) h))]
theorem uj5 {m k l:Nat} (h1:1<=k) (h:k<=l):xr (m % 2 ^ l) k=xr m k % 2 ^ l:=Nat.eq_of_testBit_eq fun j=>by
 unfold xr;rw [Nat.testBit_xor,Nat.testBit_mod_two_pow,Nat.testBit_mod_two_pow,Nat.testBit_xor,Nat.testBit_two_pow]
 by_cases e:k - 1=j
 ·have:j < l:=by omega
  simp [e,this]
 ·simp [e]
theorem ua8 {m k l:Nat} (h:l < k):m % 2 ^ l=xr m k % 2 ^ l:=Nat.eq_of_testBit_eq fun j=>by
 unfold xr;rw [Nat.testBit_mod_two_pow,Nat.testBit_mod_two_pow,Nat.testBit_xor,Nat.testBit_two_pow]
 by_cases e:k - 1=j
 ·have:¬ j < l:=by omega
  simp [this]
 ·simp [e]
theorem uq6 {m k l:Nat} (h1:1<=k) (h:k<=l):stb k (m % 2 ^ l)=stb k m:=by
 unfold stb;rw [Nat.testBit_mod_two_pow];have:k - 1 < l:=by omega
 simp [this]
theorem us7:∀ {w:List Mv} {m:Nat},okw m w->okw (m % 2 ^ low m w) (thw m w)
 | [],_,_=>trivial
 | p::r,m,⟨h1,h2,h3⟩=>by
  have ih:=us7 h3
  show okw (m % 2 ^ min (low (xr m p.2) r) (hi m)) (if p.2<=low (xr m p.2) r then p::thw (xr m p.2) r else thw (xr m p.2) r)
  rw [uc4];split
  ·rename_i hk
   refine ⟨h1,by rw [uq6 h1.1 hk];exact h2,?_⟩;rw [uj5 h1.1 hk];exact ih
  ·rename_i hk
   rw [ua8 (by omega:low (xr m p.2) r < p.2)];exact ih
theorem v26 {w:List Mv} (h:okw 0 w):okw 0 (once w):=by
 have:=us7 h;rw [Nat.zero_mod] at this;exact this
theorem v25 (w:List Mv):(once w).length<=w.length:=thw_sub.length_le
def itn:Nat->List Mv->List Mv
 | 0,w=>w
 | n+1,w=>once (itn n w)
theorem us8 {w:List Mv} (h:okw 0 w):∀ n,okw 0 (itn n w)
 | 0=>h
 | n+1=>v26 (us8 h n)
theorem uv4 {w:List Mv}:∀ n,(itn n w).length<=w.length
 | 0=>Nat.le_refl _
 | n+1=>Nat.le_trans (v25 _) (uv4 n)
def Fx (w x:List Mv):Prop:=(∃ n,x=itn n w) /\ once x=x
theorem Fx.self {w x:List Mv} (h:Fx w x):Fx x x:=⟨⟨0,rfl⟩,h.2⟩
theorem Fx.ok {w x:List Mv} (h:Fx w x) (hw:okw 0 w):okw 0 x:=by obtain ⟨⟨a,rfl⟩,_⟩:=h;exact us8 hw a
theorem Fx.len {w x:List Mv} (h:Fx w x):x.length<=w.length:=by obtain ⟨⟨a,rfl⟩,_⟩:=h;exact uv4 a
theorem at_getD {α:Type} {xs:List α} {v:Int} (h0:0<=v) (h1:v < (xs.length:Int)):∃ x,x ∈ xs /\ atI xs v=some x:=by
 have h2:v.toNat < xs.length:=by omega
 refine ⟨xs[v.toNat],List.getElem_mem _,?_⟩;unfold atI ixN;rw [if_pos h0,if_pos h1,Option.bind_some,List.getElem?_eq_getElem h2]
def hD (x:Nat):D:=nD (hi x)
theorem u98:∀ bs:List Bool,uj4 (bs.map D.bl)=some bs
 | []=>rfl
 | b::bs=>by rw [List.map_cons,uj4,u98 bs];rfl
end L3
namespace L2
open PySem PySem.Spec PyProof.Rows
structure BlkOkC (X:Cx) (N':List Str) (ix:List (Option Nat)) (scope:Scope):Prop where
 kind:scope.kind=.function
 own:∀ y ∈ scope.names,scope.names.lookup y.1=some y.2
 frees:∀ y ∈ scope.names,y.2=.free->X.env.kindOf y.1=some .cell \/ X.env.kindOf y.1=some .free
 len:ix.length=N'.length
 at_:∀ (i j:Nat) (x:Str),N'[i]?=some x->ix[i]?=some (some j)->X.N[j]?=some x /\ scope.names.lookup x=some .free
end L2
namespace L3
open PySem PySem.Spec PyProof.Rows L2 Rw
def cnt:Nat->Nat->Nat
 | 0,_=>0
 | n+1,m=>cnt n m+(if m.testBit n then 1 else 0)
theorem um4:∀ {n m m':Nat},(∀ i,m.testBit i=true->m'.testBit i=true)->cnt n m<=cnt n m'
 | 0,_,_,_=>Nat.le_refl _
 | n+1,m,m',h=>by
  have ih:=um4 (n:=n) h;rw [cnt,cnt];cases e:m.testBit n with
  | true=>rw [h n e];simp;omega
  | false=>simp;omega
theorem uy1 {n m l:Nat}:cnt n (m % 2 ^ l)<=cnt n m:=um4 fun i h=>by
 rw [Nat.testBit_mod_two_pow] at h;simp at h;exact h.2
theorem ud4:∀ {n m m':Nat},(∀ i,i < n->m.testBit i=m'.testBit i)->cnt n m=cnt n m'
 | 0,_,_,_=>rfl
 | n+1,m,m',h=>by
  rw [cnt,cnt,ud4 (n:=n) fun i hi=>h i (by omega),h n (by omega)]
theorem u47 {m k j:Nat}:(xr m k).testBit j=(m.testBit j ^^ decide (k - 1=j)):=by
 unfold xr;rw [Nat.testBit_xor,Nat.testBit_two_pow]
theorem v97:∀ {n m k:Nat},1<=k->k<=n->stb k m=false->cnt n (xr m k)=cnt n m+1
 | 0,_,_,h1,h2,_=>by omega
 | n+1,m,k,h1,h2,h=>by
  unfold stb at h
  by_cases e:k - 1=n
  ·subst e
   have e1:cnt (k - 1) (xr m k)=cnt (k - 1) m:=ud4 fun i hi=>by
    have:¬ (k - 1=i):=by omega
    rw [u47];simp [this]
   rw [cnt,cnt,e1,u47,h];simp
  ·have ih:=v97 (n:=n) (m:=m) h1 (by omega) h
   rw [cnt,cnt,ih,u47];simp [e];omega
theorem ud5:∀ {n m k:Nat},1<=k->k<=n->stb k m=true->cnt n (xr m k)+1=cnt n m
 | 0,_,_,h1,h2,_=>by omega
 | n+1,m,k,h1,h2,h=>by
  unfold stb at h
  by_cases e:k - 1=n
  ·subst e
   have e1:cnt (k - 1) (xr m k)=cnt (k - 1) m:=ud4 fun i hi=>by
    have:¬ (k - 1=i):=by omega
    rw [u47];simp [this]
   rw [cnt,cnt,e1,u47,h];simp
  ·have ih:=ud5 (n:=n) (m:=m) h1 (by omega) h
   rw [cnt,cnt,u47];simp [e];omega
def lgl (n s m:Nat) (p:Mv):Prop:=(1<=p.2 /\ p.2<=n) /\ (p.2=1 \/ m.testBit (p.2 - 2)=true) /\ p.1=(!stb p.2 m) /\ (p.1=true->cnt n m < s)
def lgw (n s:Nat):Nat->List Mv->Prop
 | _,[]=>True
 | m,p::r=>lgl n s m p /\ lgw n s (xr m p.2) r
theorem uu4 {n s:Nat}:∀ {l r:List Mv} {m:Nat},lgw n s m (l++r) ↔ lgw n s m l /\ lgw n s (fin m l) r
 | [],r,m=>by show lgw n s m r ↔ True /\ lgw n s m r;simp
 | p::l,r,m=>by
  show lgl n s m p /\ lgw n s (xr m p.2) (l++r) ↔ (lgl n s m p /\ lgw n s (xr m p.2) l) /\ lgw n s (fin (xr m p.2) l) r
  rw [uu4,and_assoc]
theorem v88 {n s:Nat} (hn:n<=900):∀ {w:List Mv} {m:Nat},lgw n s m w->okw m w
 | [],_,_=>trivial
 | p::r,m,⟨⟨h1,h2,h3,h4⟩,h5⟩=>⟨⟨h1.1,by omega⟩,h3,v88 hn h5⟩
theorem uu2 {n s:Nat}:∀ {w:List Mv} {m:Nat},lgw n s m w->lgw n s (m % 2 ^ low m w) (thw m w)
 | [],_,_=>trivial
 | p::r,m,⟨⟨h1,h2,h3,h4⟩,h5⟩=>by
  have ih:=uu2 h5
  show lgw n s (m % 2 ^ min (low (xr m p.2) r) (hi m)) (if p.2<=low (xr m p.2) r then p::thw (xr m p.2) r else thw (xr m p.2) r)
  rw [uc4];split
  ·rename_i hk
   refine ⟨⟨h1,?_,by rw [uq6 h1.1 hk];exact h3,fun e=>Nat.lt_of_le_of_lt uy1 (h4 e)⟩,?_⟩
   ·rcases h2 with h2 | h2
    ·exact .inl h2
    ·right
     rw [Nat.testBit_mod_two_pow,h2];simp;omega
   ·rw [uj5 h1.1 hk]
    exact ih
  ·rename_i hk
   rw [ua8 (by omega:low (xr m p.2) r < p.2)];exact ih
theorem uw9:∀ {w:List Mv} {m:Nat},okw m w->fin (m % 2 ^ low m w) (thw m w)=fin m w
 | [],m,_=>by
  show m % 2 ^ hi m=m
  exact Nat.mod_eq_of_lt (vg5 m)
 | p::r,m,⟨h1,_,h5⟩=>by
  have ih:=uw9 h5
  show fin (m % 2 ^ min (low (xr m p.2) r) (hi m)) (if p.2<=low (xr m p.2) r then p::thw (xr m p.2) r else thw (xr m p.2) r)=fin (xr m p.2) r
  rw [uc4];split
  ·rename_i hk
   show fin (xr (m % 2 ^ low (xr m p.2) r) p.2) (thw (xr m p.2) r)=_
   rw [uj5 h1.1 hk];exact ih
  ·rename_i hk
   rw [ua8 (by omega:low (xr m p.2) r < p.2)];exact ih
theorem uk1:∀ {w:List Mv} {m:Nat},okw m w->∀ x,x ∈ (m % 2 ^ low m w)::sbh (m % 2 ^ low m w) (thw m w)->∃ y l,y ∈ m::sbh m w /\ x=y % 2 ^ l
 | [],m,_,x,hx=>by
  have:x=m % 2 ^ low m []:=by simpa [thw,sbh] using hx
  exact ⟨m,_,by simp,this⟩
 | p::r,m,⟨h1,_,h5⟩,x,hx=>by
  have ih:=uk1 h5;have e:low m (p::r)=min (low (xr m p.2) r) (hi m):=rfl;rw [e,uc4] at hx;rw [thw] at hx;split at hx
  ·rename_i hk
   rcases List.mem_cons.mp hx with hx | hx
   ·exact ⟨m,_,by simp,hx⟩
   ·have hx:x ∈ xr (m % 2 ^ low (xr m p.2) r) p.2::sbh (xr (m % 2 ^ low (xr m p.2) r) p.2) (thw (xr m p.2) r):=hx
    rw [uj5 h1.1 hk] at hx;obtain ⟨y,l,hy,e⟩:=ih x hx;exact ⟨y,l,List.mem_cons_of_mem _ hy,e⟩
  ·rename_i hk
   rw [ua8 (by omega:low (xr m p.2) r < p.2)] at hx;obtain ⟨y,l,hy,e⟩:=ih x hx;exact ⟨y,l,List.mem_cons_of_mem _ hy,e⟩
structure Thn (n s:Nat) (w x:List Mv):Prop where
 leg:lgw n s 0 x
 fin:fin 0 x=fin 0 w
 sub:x.Sublist w
 cnt:∀ a ∈ 0::sbh 0 x,∃ b ∈ 0::sbh 0 w,cnt 24 a<=cnt 24 b
theorem Thn.once {n s:Nat} {w x:List Mv} (hn:n<=900) (h:Thn n s w x):Thn n s w (once x):=by
 have ok:=v88 hn h.leg;have z:0 % 2 ^ low 0 x=0:=Nat.zero_mod _;refine ⟨?_,?_,thw_sub.trans h.sub,fun a ha=>?_⟩
 ·have:=uu2 h.leg
  rw [z] at this;exact this
 ·have:=uw9 ok
  rw [z] at this;exact this.trans h.fin
 ·have:=uk1 ok a
  rw [z] at this;obtain ⟨y,l,hy,rfl⟩:=this ha;obtain ⟨b,hb,e⟩:=h.cnt y hy;exact ⟨b,hb,Nat.le_trans uy1 e⟩
theorem Thn.itn {n s:Nat} {w:List Mv} (hn:n<=900) (h:lgw n s 0 w):∀ k,Thn n s w (itn k w)
 | 0=>⟨h,rfl,List.Sublist.refl _,fun a ha=>⟨a,ha,Nat.le_refl _⟩⟩
 | k+1=>(Thn.itn hn h k).once hn
theorem Fx.thn {n s:Nat} {w x:List Mv} (hn:n<=900) (h:lgw n s 0 w) (f:Fx w x):Thn n s w x:=by
 obtain ⟨⟨k,rfl⟩,_⟩:=f;exact Thn.itn hn h k
theorem uc8 {n s:Nat}:∀ {w:List Mv} {m:Nat},lgw n s m w->∀ p ∈ w,1<=p.2 /\ p.2<=n
 | [],_,_,p,hp=>by simp at hp
 | q::r,m,⟨h1,h2⟩,p,hp=>by
  rcases List.mem_cons.mp hp with e | hp
  ·subst e;exact h1.1
  ·exact uc8 h2 p hp
def bkw (w:List Mv):List Mv:=(w.map fun p=>(!p.1,p.2)).reverse
theorem vp1 {m k:Nat}:stb k (xr m k)=!stb k m:=by
 unfold stb;rw [u47];simp
theorem vy3 {m k:Nat}:xr (xr m k) k=m:=Nat.eq_of_testBit_eq fun j=>by
 rw [u47,u47];cases m.testBit j <;> cases decide (k - 1=j) <;> rfl
theorem uu3 {n s:Nat}:∀ {w:List Mv} {m:Nat},cnt n m<=s->lgw n s m w->lgw n s (fin m w) (bkw w) /\ fin (fin m w) (bkw w)=m
 | [],_,_,_=>⟨trivial,rfl⟩
 | p::r,m,h,⟨⟨h1,h2,h3,h4⟩,h5⟩=>by
  have hc:cnt n (xr m p.2)<=s:=by
   cases e:stb p.2 m with
   | true=>have:=ud5 h1.1 h1.2 e;omega
   | false =>
    rw [e] at h3;rw [v97 h1.1 h1.2 e];exact h4 h3
  obtain ⟨i1,i2⟩:=uu3 hc h5;have e:bkw (p::r)=bkw r++[(!p.1,p.2)]:=by unfold bkw;rw [List.map_cons,List.reverse_cons]
  have ef:fin m (p::r)=fin (xr m p.2) r:=rfl;rw [e,ef,uu4,ux0,i2];refine ⟨⟨i1,⟨h1,?_,?_,fun hb=>?_⟩,trivial⟩,vy3⟩
  ·rcases h2 with h2 | h2
   ·exact .inl h2
   ·by_cases hk:p.2=1
    ·exact .inl hk
    ·right
     show (xr m p.2).testBit (p.2 - 2)=true
     rw [u47,h2];have:¬ (p.2 - 1=p.2 - 2):=by omega
     simp [this]
  ·show (!p.1)=!stb p.2 (xr m p.2)
   rw [vp1,h3]
  ·have hp:p.1=false:=by simpa using hb
   rw [hp] at h3;have hs:stb p.2 m=true:=by simpa using h3.symm
   have:=ud5 h1.1 h1.2 hs;omega
theorem uz4 {G:Gp} {a b:Addr} {xs ys:List D} {q:DK} (ha:G a=some (.lst xs)) (hb:G b=some (.lst ys)) (hz:xs.length+ys.length<=sizeLine) (k:∀ p,G p=none->q (.ref p) (gup G p (.lst (xs++ys)))):xAdd (.ref a) (.ref b) G q:=by
 unfold xAdd;simp only [ha,hb];exact ⟨hz,k⟩
theorem u71:∀ {n:Nat},cnt n 0=0
 | 0=>rfl
 | n+1=>by rw [cnt,u71,Nat.zero_testBit];rfl
def cap:Nat->Bool->Nat
 | 0,_=>0
 | s+1,true=>2 ^ s
 | s+1,false=>2 ^ (s+1) - 1
def WOK (f l s:Nat) (b:Bool) (w:List Mv):Prop:=∀ n S m,l<=n->(f=0 \/ m.testBit (f - 1)=true)->(∀ i,f<=i->i < l->m.testBit i=false)->cnt n m+s<=S ->
 lgw n S m w /\ (∀ i,(i < f \/ l<=i)->(fin m w).testBit i=m.testBit i) /\ (fin m w).testBit (l - 1)=true /\ (b=true->∀ i,f<=i->i+1 < l->(fin m w).testBit i=false)
theorem WOK.fin_xr {f l s:Nat} {w:List Mv} (hl:f < l) (h:WOK f l s true w) {n S m:Nat} (hn:l<=n) (hf:f=0 \/ m.testBit (f - 1)=true) (hz:∀ i,f<=i->i < l->m.testBit i=false) (hc:cnt n m+s<=S):fin m w=xr m l:=by
 obtain ⟨_,h2,h3,h4⟩:=h n S m hn hf hz hc;refine Nat.eq_of_testBit_eq fun i=>?_
 rw [u47]
 by_cases e:l - 1=i
 ·subst e
  rw [h3,hz _ (by omega) (by omega)];simp
 ·have:decide (l - 1=i)=false:=decide_eq_false e
  rw [this,Bool.xor_false]
  by_cases h5:i < f \/ l<=i
  ·exact h2 i h5
  ·rw [h4 rfl i (by omega) (by omega),hz i (by omega) (by omega)]
theorem WOK.start {l s n S:Nat} {b:Bool} {w:List Mv} (h:WOK 0 l s b w) (hn:l<=n) (hs:s<=S):lgw n S 0 w /\ (fin 0 w).testBit (l - 1)=true:=by
 obtain ⟨a,_,c,_⟩:=h n S 0 hn (.inl rfl) (fun i _ _=>Nat.zero_testBit i) (by rw [u71];omega);exact ⟨a,c⟩
theorem WOK.left {l s n S:Nat} {w:List Mv} (h0:0 < l) (h:WOK 0 l s true w) (hn:l<=n) (hs:s<=S):fin 0 w=2 ^ (l - 1):=by
 have e:=h.fin_xr h0 (n:=n) (S:=S) hn (.inl rfl) (fun i _ _=>Nat.zero_testBit i) (by rw [u71];omega);rw [e];unfold xr;exact Nat.zero_xor _
theorem uy5 {s:Nat} {b:Bool} (h:1<=s):1<=cap s b:=by
 cases s with
 | zero=>omega
 | succ s =>
  have:=Nat.two_pow_pos s;cases b
  ·simp only [cap];rw [Nat.pow_succ];omega
  ·simp only [cap];omega
abbrev Pm:=Option Mv
def pmD:Pm->D
 | none=>.tup [.str "show"]
 | some p=>mD p
def nxp (m:Nat):Pm->Nat
 | none=>m
 | some p=>xr m p.2
def finp:Nat->List Pm->Nat
 | m,[]=>m
 | m,p::r=>finp (nxp m p) r
theorem u39:∀ {l r:List Pm} {m:Nat},finp m (l++r)=finp (finp m l) r
 | [],_,_=>rfl
 | p::l,r,m=>by show finp (nxp m p) (l++r)=_;rw [u39];rfl
theorem u54:∀ {w:List Mv} {m:Nat},finp m (w.map some)=fin m w
 | [],_=>rfl
 | p::r,m=>u54 (w:=r) (m:=xr m p.2)
def flp:Pm->Pm
 | none=>none
 | some p=>some (!p.1,p.2)
def bkp (w:List Pm):List Pm:=(w.map flp).reverse
theorem um8 {w:List Mv}:bkp (w.map some)=(bkw w).map some:=by
 unfold bkp bkw;rw [List.map_map,List.map_reverse,List.map_map];rfl
def PLN (n s:Nat) (left:Bool) (P:List Pm):Prop :=
 if left then ∃ w:List Mv,P=w.map some /\ lgw n s 0 w /\ fin 0 w=2 ^ (n - 1)
 else ∃ u v:List Mv,P=u.map some++[none]++(bkw v).map some /\ lgw n s 0 u /\ lgw n s 0 v /\ fin 0 u=fin 0 v /\ (fin 0 u).testBit (n - 1)=true
theorem vk9 {w:List Mv} {p:Mv} (h:p ∈ bkw w):∃ q ∈ w,q.2=p.2:=by
 unfold bkw at h;rw [List.mem_reverse,List.mem_map] at h;obtain ⟨q,hq,rfl⟩:=h;exact ⟨q,hq,rfl⟩
theorem PLN.mem {n s:Nat} {left:Bool} {P:List Pm} (h:PLN n s left P):∀ p,some p ∈ P->1<=p.2 /\ p.2<=n:=by
 unfold PLN at h;intro p hp;split at h
 ·obtain ⟨w,rfl,hw,_⟩:=h
  obtain ⟨q,hq,e⟩:=List.mem_map.mp hp;cases e;exact uc8 hw p hq
 ·obtain ⟨u,v,rfl,hu,hv,_⟩:=h
  rcases List.mem_append.mp hp with hp | hp
  ·rcases List.mem_append.mp hp with hp | hp
   ·obtain ⟨q,hq,e⟩:=List.mem_map.mp hp
    cases e;exact uc8 hu p hq
   ·simp at hp
  ·obtain ⟨q,hq,e⟩:=List.mem_map.mp hp
   cases e;obtain ⟨r,hr,er⟩:=vk9 hq;rw [<- er];exact uc8 hv r hr
theorem ua9 {G:Gp} {a b:Addr} {xs ys:List D} {q:DK} (ha:G a=some (.lst xs)) (hb:G b=some (.lst ys)) (hz:xs.length+ys.length<=100000) (k:∀ p,G p=none->q (.ref p) (gup G p (.lst (xs++ys)))):xAdd (.ref a) (.ref b) G q :=
 uz4 ha hb (Nat.le_of_lt (Nat.lt_of_le_of_lt hz (by decide))) k
end L3
namespace Law
open PySem L2 L3 Rw
theorem Adv.grow {G G1 G2:Gp} {st:Addr} (a:Adv st G G1) (g:Grow G1 G2):Adv st G G2:=⟨a.at_.grow g,fun c o h e=>g.kp _ _ (a.kp c o h e)⟩
end Law
namespace L3
open PySem PySem.Spec PyProof.Rows L2 Rw
theorem vl0 {w:List Mv}:bkw (bkw w)=w:=by
 unfold bkw;rw [List.map_reverse,List.reverse_reverse,List.map_map];have:((fun p:Mv=>(!p.1,p.2)) ∘ fun p:Mv=>(!p.1,p.2))=id:=by funext p;show (!(!p.1),p.2)=p;rw [Bool.not_not]
 rw [this,List.map_id]
theorem PLN.turned {n s:Nat} {P:List Pm} (h:PLN n s false P):PLN n s false (bkp P):=by
 unfold PLN at h ⊢;rw [if_neg Bool.false_ne_true] at h ⊢;obtain ⟨u,v,rfl,hu,hv,e,hb⟩:=h;refine ⟨v,u,?_,hv,hu,e.symm,by rw [<- e];exact hb⟩;have:bkp (u.map some++[none]++(bkw v).map some)=bkp ((bkw v).map some)++[none]++bkp (u.map some):=by
  unfold bkp;simp [flp]
 rw [this,um8,um8,vl0]
def ckp (n s:Nat):Nat->Bool->List Pm->Prop
 | _,_,[]=>True
 | m,sh,none::r=>(m.testBit (n - 1)=true /\ sh=false) /\ ckp n s m true r
 | m,sh,some p::r=>lgl n s m p /\ ckp n s (xr m p.2) sh r
def shw:Bool->List Pm->Bool
 | sh,[]=>sh
 | _,none::r=>shw true r
 | sh,some _::r=>shw sh r
theorem ckp_app {n s:Nat}:∀ {l r:List Pm} {m:Nat} {sh:Bool},ckp n s m sh (l++r) ↔ ckp n s m sh l /\ ckp n s (finp m l) (shw sh l) r
 | [],r,m,sh=>by show ckp n s m sh r ↔ True /\ ckp n s m sh r;simp
 | none::l,r,m,sh=>by
  show _ /\ ckp n s m true (l++r) ↔ (_ /\ ckp n s m true l) /\ ckp n s (finp m l) (shw true l) r
  rw [ckp_app];exact and_assoc.symm
 | some p::l,r,m,sh=>by
  show _ /\ ckp n s (xr m p.2) sh (l++r) ↔ (_ /\ ckp n s (xr m p.2) sh l) /\ ckp n s (finp (xr m p.2) l) (shw sh l) r
  rw [ckp_app,and_assoc]
theorem u49:∀ {l r:List Pm} {sh:Bool},shw sh (l++r)=shw (shw sh l) r
 | [],_,_=>rfl
 | none::l,r,sh=>u49 (l:=l)
 | some _::l,r,sh=>u49 (l:=l)
theorem u84 {n s:Nat} {sh:Bool}:∀ {w:List Mv} {m:Nat},lgw n s m w->ckp n s m sh (w.map some)
 | [],_,_=>trivial
 | p::r,m,⟨h1,h2⟩=>⟨h1,u84 h2⟩
theorem u66 {sh:Bool}:∀ {w:List Mv},shw sh (w.map some)=sh
 | []=>rfl
 | p::r=>u66 (w:=r)
theorem PLN.ckp {n s:Nat} {left:Bool} {P:List Pm} (h:PLN n s left P):ckp n s 0 false P /\ shw false P=(!left) /\ finp 0 P=if left then 2 ^ (n - 1) else 0:=by
 unfold PLN at h;split at h
 ·rename_i hl
  obtain ⟨w,rfl,hw,e⟩:=h;refine ⟨u84 hw,by rw [u66,hl];rfl,by rw [u54,hl,if_pos rfl];exact e⟩
 ·rename_i hl
  have hl:left=false:=by simpa using hl
  obtain ⟨u,v,rfl,hu,hv,e,hb⟩:=h;obtain ⟨b1,b2⟩:=uu3 (by rw [u71];exact Nat.zero_le _) hv;subst hl;refine ⟨?_,?_,?_⟩
  ·rw [ckp_app,ckp_app,u39,u54,u66]
   refine ⟨⟨u84 hu,⟨hb,rfl⟩,trivial⟩,?_⟩
   show L3.ckp n s (fin 0 u) _ _
   rw [e];exact u84 b1
  ·rw [u49,u49,u66,u66];rfl
  ·rw [u39,u39,if_neg Bool.false_ne_true,u54]
   show fin (finp 0 (u.map some)) (bkw v)=0
   rw [u54,e];exact b2
end L3
namespace L3
open PySem PySem.Spec PyProof.Rows L2
def valD (kvs:List (List Key × D)) (k:List Key):Option D:=(kvs.find? fun kv=>decide (kv.1=k)).map (·.2)
def putT (kvs:List (List Key × D)) (k:List Key) (v:D):List (List Key × D) :=
 if (kvs.any fun kv=>decide (kv.1=k))=true then kvs.map (fun kv=>if kv.1=k then (kv.1,v) else kv) else kvs++[(k,v)]
section
variable {X:Cx} {K:PySem.W.Frag} {G:Gp} {H:Hp} {p:Addr}
theorem Le.dT {xs ys:List (List Key × V)} (h:H p=some (.dT xs)):Le H (upd H p (.dT ys)) :=
  ⟨fun b zs q => by by_cases e : b = p
                    · subst e;rw [h] at q;cases q
                    · rw [u05 e];exact q,
   fun b o u q => by by_cases e : b = p
                     · subst e;rw [h] at q;cases q
                     · rw [u05 e];exact q⟩
end
end L3
namespace L2
open PySem PySem.Spec PyProof.Rows
structure CmpIn (prog:Program) (w:World) (A:Around) (P:Nat->Value->Prop) (bt:Nat->Nat->Bool) (no:List Addr) (T:Heap->Prop):Prop where
 keep:∀ h h',T h->(∀ b o,b ∉ no->h.get? b=some o->h'.get? b=some o)->T h'
 cmp:∀ i j x y (s:Shared) (Q:Value->Shared->Prop) (E:Value->Shared->Prop),T s.heap->P i x->P j y->Q (.bool (bt i j)) s->wpAny (model prog w) A (richCompare .Lt x y) Q E s
end L2
namespace L3
open PySem PySem.Spec PyProof.Rows L2 Rw
def k3 (p b e:Nat):List Key:=[.inl (p:Int),.inl (b:Int),.inl (e:Int)]
def k2 (p b:Nat):List Key:=[.inl (p:Int),.inl (b:Int)]
theorem uu7 {p b e p' b' e':Nat} (h:k3 p b e=k3 p' b' e'):p=p' /\ b=b' /\ e=e':=by
 unfold k3 at h;simp at h;omega
theorem ul5 {p b p' b':Nat} (h:k2 p b=k2 p' b'):p=p' /\ b=b':=by
 unfold k2 at h;simp at h;omega
theorem v51 {kvs:List (List Key × D)} {k k':List Key} {v:D} (hn:(kvs.any fun kv=>decide (kv.1=k))=false):valD (kvs++[(k,v)]) k'=if k'=k then some v else valD kvs k':=by
 induction kvs with
 | nil =>
  by_cases h:k'=k
  ·subst h;simp [valD]
  ·rw [if_neg h]
   have:¬ k=k':=fun z=>h z.symm
   simp [valD,this]
 | cons q r ih =>
  rw [List.any_cons,Bool.or_eq_false_iff] at hn;have hq:¬ q.1=k:=of_decide_eq_false hn.1;have ih:=ih hn.2
  by_cases h1:q.1=k'
  ·have h2:¬ k'=k:=fun z=>hq (h1.trans z)
   rw [if_neg h2];simp [valD,List.find?_cons,h1]
  ·have e1:valD (q::r++[(k,v)]) k'=valD (r++[(k,v)]) k':=by simp [valD,List.find?_cons,h1]
   have e2:valD (q::r) k'=valD r k':=by simp [valD,List.find?_cons,h1]
   rw [e1,e2,ih]
theorem up6 {kvs:List (List Key × D)} {k:List Key} (h:valD kvs k=none):(kvs.any fun kv=>decide (kv.1=k))=false:=by
 unfold valD at h;rw [Option.map_eq_none_iff] at h;rw [List.any_eq_false];intro x hx;have:=List.find?_eq_none.mp h x hx;simpa using this
theorem u62 {kvs:List (List Key × D)} {k k':List Key} {v:D} (h:valD kvs k=none):valD (putT kvs k v) k'=if k'=k then some v else valD kvs k':=by
 have hn:=up6 h;unfold putT;rw [if_neg (by rw [hn];decide)];exact v51 hn
def mA (p b e m:Nat):Prop:=if e - b=1 then m=e else 2<=p /\ b < m /\ m < e /\ m - b<=cap (p - 1) true /\ e - m<=cap (p - 1) true
def mR (n p b m:Nat):Prop:=if n - b=1 then m=n else 2<=p /\ b < m /\ m < n /\ m - b<=cap p true /\ n - m<=cap (p - 1) false
def vD (w:Int) (m:Nat):D:=.tup [.int w,.int (m:Int)]
def TA (Dm:Nat->Nat->Nat->Prop) (kvs:List (List Key × D)):Prop:=∀ p b e,(Dm p b e->∃ w m,valD kvs (k3 p b e)=some (vD w m) /\ mA p b e m) /\ (¬ Dm p b e->valD kvs (k3 p b e)=none)
def TR (n:Nat) (Dm:Nat->Nat->Prop) (kvs:List (List Key × D)):Prop:=∀ p b,(Dm p b->∃ w m,valD kvs (k2 p b)=some (vD w m) /\ mR n p b m) /\ (¬ Dm p b->valD kvs (k2 p b)=none)
theorem TA.congr {D1 D2:Nat->Nat->Nat->Prop} {kvs:List (List Key × D)} (h:TA D1 kvs) (e:∀ p b e,D1 p b e ↔ D2 p b e):TA D2 kvs:=fun p b e'=>⟨fun z=>(h p b e').1 ((e p b e').mpr z),fun z=>(h p b e').2 fun q=>z ((e p b e').mp q)⟩
theorem TR.congr {n:Nat} {D1 D2:Nat->Nat->Prop} {kvs:List (List Key × D)} (h:TR n D1 kvs) (e:∀ p b,D1 p b ↔ D2 p b):TR n D2 kvs:=fun p b=>⟨fun z=>(h p b).1 ((e p b).mpr z),fun z=>(h p b).2 fun q=>z ((e p b).mp q)⟩
theorem TA.put {Dm:Nat->Nat->Nat->Prop} {kvs:List (List Key × D)} {p b e m:Nat} {w:Int} (h:TA Dm kvs) (hn:¬ Dm p b e) (hm:mA p b e m):TA (fun p' b' e'=>Dm p' b' e' \/ (p'=p /\ b'=b /\ e'=e)) (putT kvs (k3 p b e) (vD w m)):=by
 intro p' b' e';rw [u62 ((h p b e).2 hn)]
 by_cases hk:k3 p' b' e'=k3 p b e
 ·obtain ⟨rfl,rfl,rfl⟩:=uu7 hk
  rw [if_pos rfl];exact ⟨fun _=>⟨w,m,rfl,hm⟩,fun z=>absurd (.inr ⟨rfl,rfl,rfl⟩) z⟩
 ·rw [if_neg hk]
  refine ⟨fun z=>(h p' b' e').1 (z.resolve_right fun q=>hk ?_),fun z=>(h p' b' e').2 fun q=>z (.inl q)⟩;obtain ⟨rfl,rfl,rfl⟩:=q;rfl
theorem TR.put {n:Nat} {Dm:Nat->Nat->Prop} {kvs:List (List Key × D)} {p b m:Nat} {w:Int} (h:TR n Dm kvs) (hn:¬ Dm p b) (hm:mR n p b m):TR n (fun p' b'=>Dm p' b' \/ (p'=p /\ b'=b)) (putT kvs (k2 p b) (vD w m)):=by
 intro p' b';rw [u62 ((h p b).2 hn)]
 by_cases hk:k2 p' b'=k2 p b
 ·obtain ⟨rfl,rfl⟩:=ul5 hk
  rw [if_pos rfl];exact ⟨fun _=>⟨w,m,rfl,hm⟩,fun z=>absurd (.inr ⟨rfl,rfl⟩) z⟩
 ·rw [if_neg hk]
  refine ⟨fun z=>(h p' b').1 (z.resolve_right fun q=>hk ?_),fun z=>(h p' b').2 fun q=>z (.inl q)⟩;obtain ⟨rfl,rfl⟩:=q;rfl
theorem uy4 {p:Nat} (h:2<=p):cap p true=2 * cap (p - 1) true /\ cap p false=cap p true+cap (p - 1) false:=by
 obtain ⟨q,rfl⟩:∃ q,p=q+2:=⟨p - 2,by omega⟩;have:=Nat.two_pow_pos q
 show 2 ^ (q+1)=2 * 2 ^ q /\ 2 ^ (q+2) - 1=2 ^ (q+1)+(2 ^ (q+1) - 1)
 rw [Nat.pow_succ,Nat.pow_succ,Nat.pow_succ];omega
inductive Pa (c:Nat->Int):Nat->Nat->Nat->Int->Prop
 | one {p b:Nat}:Pa c (p+1) b (b+1) (c b)
 | two {p b m e:Nat} {w1 w2 w3:Int}:Pa c (p+1) b m w1->Pa c p m e w2->Pa c p b m w3->Pa c (p+1) b e (w1+w2+w3)
inductive Pr (c:Nat->Int) (n:Nat):Nat->Nat->Int->Prop
 | one {p b:Nat}:b+1=n->Pr c n (p+1) b (c b)
 | two {p b m:Nat} {w1 w2:Int}:Pa c (p+1) b m w1->Pr c n p m w2->Pr c n (p+1) b (w1+w2)
variable {c c':Nat->Int} {n p b e:Nat} {w:Int}
theorem Pa.lt (h:Pa c p b e w):b < e /\ 1<=p:=by
 induction h with
 | one=>omega
 | two _ _ _ i1 i2 i3=>omega
theorem Pr.lt (h:Pr c n p b w):b < n /\ 1<=p:=by
 induction h with
 | one=>omega
 | two h1 _ i=>have:=h1.lt;omega
theorem Pa.cap (h:Pa c p b e w):e - b<=L3.cap p true:=by
 induction h with
 | @one p b=>have:=uy5 (s:=p+1) (b:=true) (by omega);omega
 | @two p b m e w1 w2 w3 h1 h2 h3 i1 i2 i3 =>
  have q:=(uy4 (p:=p+1) (by have:=h2.lt;omega)).1;rw [show p+1 - 1=p by omega] at q;omega
theorem Pr.cap (h:Pr c n p b w):n - b<=L3.cap p false:=by
 induction h with
 | @one p b h=>have:=uy5 (s:=p+1) (b:=false) (by omega);omega
 | @two p b m w1 w2 h1 h2 i2 =>
  have q:=(uy4 (p:=p+1) (by have:=h2.lt;omega)).2;rw [show p+1 - 1=p by omega] at q;have:=h1.cap;omega
theorem Pa.more (h:Pa c p b e w):Pa c (p+1) b e w:=by
 induction h with
 | one=>exact .one
 | two _ _ _ i1 i2 i3=>exact .two i1 i2 i3
theorem Pr.more (h:Pr c n p b w):Pr c n (p+1) b w:=by
 induction h with
 | one h=>exact .one h
 | two h1 _ i2=>exact .two h1.more i2
theorem Pa.mul {k:Int} (h:Pa c p b e w):Pa (fun i=>c i * k) p b e (w * k):=by
 induction h with
 | @one p b=>exact Pa.one (c:=fun i=>c i * k)
 | two _ _ _ i1 i2 i3=>rw [Int.add_mul,Int.add_mul];exact .two i1 i2 i3
theorem Pr.mul {k:Int} (h:Pr c n p b w):Pr (fun i=>c i * k) n p b (w * k):=by
 induction h with
 | @one p b h=>exact Pr.one (c:=fun i=>c i * k) h
 | two h1 _ i2=>rw [Int.add_mul];exact .two h1.mul i2
theorem Pa.pos (hc:∀ i,0<=c i) (h:Pa c p b e w):0<=w:=by
 induction h with
 | one=>exact hc _
 | two _ _ _ i1 i2 i3=>omega
theorem Pa.pr (hc:∀ i,0<=c i) (h:Pa c p b e w):∃ v,Pr c e p b v /\ v<=w:=by
 induction h with
 | one=>exact ⟨_,.one rfl,Int.le_refl _⟩
 | two h1 _ h3 i1 i2 i3 =>
  obtain ⟨v2,q2,r2⟩:=i2;have:=h3.pos hc;exact ⟨_,.two h1 q2,by omega⟩
theorem Pr.last (hc:∀ i,0<=c i) {N:Nat} (h:Pr c N p b w):∀ n,N=n+1->b < n->∃ v,Pr c n p b v /\ v+c n<=w:=by
 induction h with
 | one h=>intro n e hb;omega
 | @two p b m w1 w2 h1 h2 i2 =>
  intro n e hb;subst e
  rcases Nat.lt_or_ge m n with z | z
  ·obtain ⟨v,q,r⟩:=i2 n rfl z
   exact ⟨w1+v,.two h1 q,by omega⟩
  ·have hm:m=n:=by have:=h2.lt;omega
   subst hm;obtain ⟨v,q,r⟩:=h1.pr hc;refine ⟨v,q,?_⟩;have hw:w2=c m:=by
    cases h2 with
    | one _=>rfl
    | two h3 h4=>have:=h3.lt;have:=h4.lt;omega
   omega
def LeastA (c:Nat->Int) (p b e:Nat) (w:Int):Prop:=Pa c p b e w /\ ∀ v,Pa c p b e v->w<=v
def LeastR (c:Nat->Int) (n p b:Nat) (w:Int):Prop:=Pr c n p b w /\ ∀ v,Pr c n p b v->w<=v
theorem LeastA.one {p b:Nat}:LeastA c (p+1) b (b+1) (c b):=by
 refine ⟨.one,fun v h=>?_⟩;generalize he:b+1=e at h;cases h with
 | one=>exact Int.le_refl _
 | two h1 h2 _=>have:=h1.lt;have:=h2.lt;omega
theorem LeastR.one {p b:Nat}:LeastR c (b+1) (p+1) b (c b):=by
 refine ⟨.one rfl,fun v h=>?_⟩;cases h with
 | one _=>exact Int.le_refl _
 | two h1 h2=>have:=h1.lt;have:=h2.lt;omega
theorem LeastA.two {p b e:Nat} {w:Int} (hb:b+1 < e) (hw:∃ m w1 w2 w3,LeastA c (p+1) b m w1 /\ LeastA c p m e w2 /\ LeastA c p b m w3 /\ w=w1+w2+w3)
  (hl:∀ m,b < m->m < e->m - b<=L3.cap p true->e - m<=L3.cap p true->∃ w1 w2 w3,LeastA c (p+1) b m w1 /\ LeastA c p m e w2 /\ LeastA c p b m w3 /\ w<=w1+w2+w3):LeastA c (p+1) b e w:=by
 obtain ⟨m,w1,w2,w3,h1,h2,h3,rfl⟩:=hw;refine ⟨.two h1.1 h2.1 h3.1,fun v h=>?_⟩;cases h with
 | one=>omega
 | @two _ _ m' _ u1 u2 u3 q1 q2 q3 =>
  obtain ⟨x1,x2,x3,y1,y2,y3,y⟩:=hl m' q1.lt.1 q2.lt.1 q3.cap q2.cap;have:=y1.2 _ q1;have:=y2.2 _ q2;have:=y3.2 _ q3;omega
theorem LeastR.two {n p b:Nat} {w:Int} (hb:b+1 < n) (hw:∃ m w1 w2,LeastA c (p+1) b m w1 /\ LeastR c n p m w2 /\ w=w1+w2)
  (hl:∀ m,b < m->m < n->m - b<=L3.cap (p+1) true->n - m<=L3.cap p false->∃ w1 w2,LeastA c (p+1) b m w1 /\ LeastR c n p m w2 /\ w<=w1+w2):LeastR c n (p+1) b w:=by
 obtain ⟨m,w1,w2,h1,h2,rfl⟩:=hw;refine ⟨.two h1.1 h2.1,fun v h=>?_⟩;cases h with
 | one h=>omega
 | @two _ _ m' u1 u2 q1 q2 =>
  obtain ⟨x1,x2,y1,y2,y⟩:=hl m' q1.lt.1 q2.lt.1 q1.cap q2.cap;have:=y1.2 _ q1;have:=y2.2 _ q2;omega
theorem Pa.congr (h:Pa c p b e w):(∀ i,i < e->c i=c' i)->Pa c' p b e w:=by
 induction h with
 | @one p b=>intro hc;rw [hc b (by omega)];exact .one
 | two h1 h2 h3 i1 i2 i3 =>
  intro hc;have:=h2.lt;exact .two (i1 fun i hi=>hc i (by omega)) (i2 hc) (i3 fun i hi=>hc i (by omega))
theorem Pr.congr (h:Pr c n p b w):(∀ i,i < n->c i=c' i)->Pr c' n p b w:=by
 induction h with
 | @one p b hb=>intro hc;rw [hc b (by omega)];exact .one hb
 | two h1 h2 i2 =>
  intro hc;have:=h2.lt;exact .two (h1.congr fun i hi=>hc i (by omega)) (i2 hc)
theorem LeastA.congr (h:LeastA c p b e w) (hc:∀ i,i < e->c i=c' i):LeastA c' p b e w :=
 ⟨h.1.congr hc,fun v hv=>h.2 v (hv.congr fun i hi=>(hc i hi).symm)⟩
theorem LeastR.congr (h:LeastR c n p b w) (hc:∀ i,i < n->c i=c' i):LeastR c' n p b w :=
 ⟨h.1.congr hc,fun v hv=>h.2 v (hv.congr fun i hi=>(hc i hi).symm)⟩
def cf (pl:List Int) (i:Nat):Int:=pl.getD i 0
def TAv (c:Nat->Int) (Dm:Nat->Nat->Nat->Prop) (kvs:List (List Key × D)):Prop:=∀ p b e,(Dm p b e->∃ w m,valD kvs (k3 p b e)=some (vD w m) /\ LeastA c p b e w) /\ (¬ Dm p b e->valD kvs (k3 p b e)=none)
def TRv (c:Nat->Int) (n:Nat) (Dm:Nat->Nat->Prop) (kvs:List (List Key × D)):Prop:=∀ p b,(Dm p b->∃ w m,valD kvs (k2 p b)=some (vD w m) /\ LeastR c n p b w) /\ (¬ Dm p b->valD kvs (k2 p b)=none)
theorem TAv.congr {c:Nat->Int} {D1 D2:Nat->Nat->Nat->Prop} {kvs:List (List Key × D)} (h:TAv c D1 kvs) (e:∀ p b e,D1 p b e ↔ D2 p b e):TAv c D2 kvs:=fun p b e'=>⟨fun z=>(h p b e').1 ((e p b e').mpr z),fun z=>(h p b e').2 fun q=>z ((e p b e').mp q)⟩
theorem TRv.congr {n:Nat} {c:Nat->Int} {D1 D2:Nat->Nat->Prop} {kvs:List (List Key × D)} (h:TRv c n D1 kvs) (e:∀ p b,D1 p b ↔ D2 p b):TRv c n D2 kvs:=fun p b=>⟨fun z=>(h p b).1 ((e p b).mpr z),fun z=>(h p b).2 fun q=>z ((e p b).mp q)⟩
theorem TAv.put {c:Nat->Int} {Dm:Nat->Nat->Nat->Prop} {kvs:List (List Key × D)} {p b e m:Nat} {w:Int} (h:TAv c Dm kvs) (hn:¬ Dm p b e) (hm:LeastA c p b e w):TAv c (fun p' b' e'=>Dm p' b' e' \/ (p'=p /\ b'=b /\ e'=e)) (putT kvs (k3 p b e) (vD w m)):=by
 intro p' b' e';rw [u62 ((h p b e).2 hn)]
 by_cases hk:k3 p' b' e'=k3 p b e
 ·obtain ⟨rfl,rfl,rfl⟩:=uu7 hk
  rw [if_pos rfl];exact ⟨fun _=>⟨w,m,rfl,hm⟩,fun z=>absurd (.inr ⟨rfl,rfl,rfl⟩) z⟩
 ·rw [if_neg hk]
  refine ⟨fun z=>(h p' b' e').1 (z.resolve_right fun q=>hk ?_),fun z=>(h p' b' e').2 fun q=>z (.inl q)⟩;obtain ⟨rfl,rfl,rfl⟩:=q;rfl
theorem TRv.put {n:Nat} {c:Nat->Int} {Dm:Nat->Nat->Prop} {kvs:List (List Key × D)} {p b m:Nat} {w:Int} (h:TRv c n Dm kvs) (hn:¬ Dm p b) (hm:LeastR c n p b w):TRv c n (fun p' b'=>Dm p' b' \/ (p'=p /\ b'=b)) (putT kvs (k2 p b) (vD w m)):=by
 intro p' b';rw [u62 ((h p b).2 hn)]
 by_cases hk:k2 p' b'=k2 p b
 ·obtain ⟨rfl,rfl⟩:=ul5 hk
  rw [if_pos rfl];exact ⟨fun _=>⟨w,m,rfl,hm⟩,fun z=>absurd (.inr ⟨rfl,rfl⟩) z⟩
 ·rw [if_neg hk]
  refine ⟨fun z=>(h p' b').1 (z.resolve_right fun q=>hk ?_),fun z=>(h p' b').2 fun q=>z (.inl q)⟩;obtain ⟨rfl,rfl⟩:=q;rfl
def oD:Option Int->D
 | none=>.non
 | some w=>.int w
def AnsA (pl:List Int) (s:Nat) (x:Option Int):Prop:=(∃ W,x=some W /\ LeastA (cf pl) s 0 pl.length W) \/ (¬ pl.length<=cap s true /\ x=none)
def AnsR (pl:List Int) (s:Nat) (x:Option Int):Prop:=(∃ W,x=some W /\ LeastR (cf pl) pl.length s 0 W) \/ (¬ pl.length<=cap s false /\ x=none)
variable {pl pl':List Int} {s:Nat} {x y:Option Int}
theorem AnsA.get (h:AnsA pl s x) {W:Int} (e:x=some W):LeastA (cf pl) s 0 pl.length W:=by
 rcases h with ⟨V,rfl,hV⟩ | ⟨_,rfl⟩
 ·cases e;exact hV
 ·cases e
theorem AnsR.get (h:AnsR pl s x) {W:Int} (e:x=some W):LeastR (cf pl) pl.length s 0 W:=by
 rcases h with ⟨V,rfl,hV⟩ | ⟨_,rfl⟩
 ·cases e;exact hV
 ·cases e
def OA (c:Nat->Int) (p b e:Nat) (x:Option Int):Prop:=(∃ W,x=some W /\ LeastA c p b e W) \/ (x=none /\ ∀ w,¬ Pa c p b e w)
def OR (c:Nat->Int) (n p b:Nat) (x:Option Int):Prop:=(∃ W,x=some W /\ LeastR c n p b W) \/ (x=none /\ ∀ w,¬ Pr c n p b w)
variable {c:Nat->Int} {n p b e f z M:Nat} {x y:Option Int} {w:Int}
theorem OA.of (h:OA c p b e x) (q:Pa c p b e w):∃ W,x=some W /\ W<=w:=by
 rcases h with ⟨W,rfl,hW⟩ | ⟨_,h⟩
 ·exact ⟨W,rfl,hW.2 _ q⟩
 ·exact absurd q (h _)
theorem OR.of (h:OR c n p b x) (q:Pr c n p b w):∃ W,x=some W /\ W<=w:=by
 rcases h with ⟨W,rfl,hW⟩ | ⟨_,h⟩
 ·exact ⟨W,rfl,hW.2 _ q⟩
 ·exact absurd q (h _)
theorem OA.pa (h:OA c p b e (some w)):Pa c p b e w:=by
 rcases h with ⟨W,e,hW⟩ | ⟨e,_⟩
 ·cases e;exact hW.1
 ·cases e
theorem OR.pr (h:OR c n p b (some w)):Pr c n p b w:=by
 rcases h with ⟨W,e,hW⟩ | ⟨e,_⟩
 ·cases e;exact hW.1
 ·cases e
theorem OA.eq (h:OA c p b e x) (h':OA c p b e y):x=y:=by
 rcases h with ⟨W,rfl,hW⟩ | ⟨rfl,h⟩
 ·obtain ⟨V,rfl,hV⟩:=h'.of hW.1
  have:=hW.2 _ h'.pa
  congr 1;omega
 ·rcases h' with ⟨W,rfl,hW⟩ | ⟨rfl,_⟩
  ·exact absurd hW.1 (h _)
  ·rfl
theorem OR.eq (h:OR c n p b x) (h':OR c n p b y):x=y:=by
 rcases h with ⟨W,rfl,hW⟩ | ⟨rfl,h⟩
 ·obtain ⟨V,rfl,hV⟩:=h'.of hW.1
  have:=hW.2 _ h'.pr
  congr 1;omega
 ·rcases h' with ⟨W,rfl,hW⟩ | ⟨rfl,_⟩
  ·exact absurd hW.1 (h _)
  ·rfl
theorem OA.zero:OA c 0 b e none:=.inr ⟨rfl,fun w q=>by have:=q.lt;omega⟩
theorem OR.zero:OR c n 0 b none:=.inr ⟨rfl,fun w q=>by have:=q.lt;omega⟩
def Hts (P:Nat->Option Int->Prop) (M:Nat) (xs:List (Option Int)):Prop:=(∀ y ∈ xs,y=none \/ ∃ m,1<=m /\ m < M /\ P m y) /\ ∀ m,1<=m->m < M->∃ y ∈ xs,P m y
theorem Hts.nil {P:Nat->Option Int->Prop}:Hts P 1 [none]:=⟨fun y h=>.inl (by simpa using h),fun m h1 h2=>by omega⟩
theorem Hts.add {P:Nat->Option Int->Prop} {xs:List (Option Int)} (h:Hts P M xs) (hM:1<=M) (hy:P M y):Hts P (M+1) (xs++[y]):=by
 refine ⟨fun v hv=>?_,fun m h1 h2=>?_⟩
 ·rcases List.mem_append.mp hv with q | q
  ·rcases h.1 v q with r | ⟨m,r1,r2,r3⟩
   ·exact .inl r
   ·exact .inr ⟨m,r1,by omega,r3⟩
  ·rw [List.mem_singleton.mp q];exact .inr ⟨M,hM,by omega,hy⟩
 ·rcases Nat.lt_or_ge m M with q | q
  ·obtain ⟨v,r1,r2⟩:=h.2 m h1 q
   exact ⟨v,List.mem_append_left _ r1,r2⟩
  ·have:m=M:=by omega
   subst this;exact ⟨y,List.mem_append_right _ (List.mem_singleton.mpr rfl),hy⟩
theorem OA.one:OA c (p+1) b (b+1) (some (c b)):=.inl ⟨_,rfl,LeastA.one⟩
theorem OR.one:OR c (b+1) (p+1) b (some (c b)):=.inl ⟨_,rfl,LeastR.one⟩
def TG (Dm:Nat->Nat->Prop) (Pv:Nat->Nat->D->Prop) (kvs:List (List Key × D)):Prop:=∀ f z,(Dm f z->∃ d,valD kvs (k2 f z)=some d /\ Pv f z d) /\ (¬ Dm f z->valD kvs (k2 f z)=none)
theorem TG.congr {D1 D2:Nat->Nat->Prop} {Pv:Nat->Nat->D->Prop} {kvs:List (List Key × D)} (h:TG D1 Pv kvs) (e:∀ f z,D1 f z ↔ D2 f z):TG D2 Pv kvs:=fun f z=>⟨fun q=>(h f z).1 ((e f z).mpr q),fun q=>(h f z).2 fun r=>q ((e f z).mp r)⟩
theorem TG.put {Dm:Nat->Nat->Prop} {Pv:Nat->Nat->D->Prop} {kvs:List (List Key × D)} {d:D} (h:TG Dm Pv kvs) (hn:¬ Dm f z) (hd:Pv f z d):TG (fun f' z'=>Dm f' z' \/ (f'=f /\ z'=z)) Pv (putT kvs (k2 f z) d):=by
 intro f' z';rw [u62 ((h f z).2 hn)]
 by_cases hk:k2 f' z'=k2 f z
 ·obtain ⟨rfl,rfl⟩:=ul5 hk
  rw [if_pos rfl];exact ⟨fun _=>⟨d,rfl,hd⟩,fun q=>absurd (.inr ⟨rfl,rfl⟩) q⟩
 ·rw [if_neg hk]
  refine ⟨fun q=>(h f' z').1 (q.resolve_right fun r=>hk ?_),fun q=>(h f' z').2 fun r=>q (.inl r)⟩;obtain ⟨rfl,rfl⟩:=r;rfl
end L3
namespace L3
open PySem PySem.Spec PyProof.Rows L2
section
variable {X:Cx} {K:PySem.W.Frag} {H:Hp} {σ:L2.St} {a b c:Expr} {ta tb tc:TE3} {pos:Pos}
def u70 (r r':R3) (ta tb tc:TE3):TE3:=fun σ G q=>ta σ G fun x G1=>tb σ G1 fun y G2=>r x y G2 fun z G3=>match z with
 | .bl k=>if k=true then tc σ G3 fun w G4=>r' y w G4 q else q (.bl false) G3
 | _=>False
theorem uf1 {r r':R3} {Q:VK} (h:lowE K (u70 r r' ta tb tc) σ H Q):uq3 (lowR K r) (lowR K r') (lowE K ta) (lowE K tb) (lowE K tc) σ H Q:=by
 obtain ⟨σd,G,q,rs,c,t,f⟩:=h;refine ⟨σd,G,_,rs,c,t,fun d G1 v H1 r1 c1 l1 t1=>⟨σd,G1,_,rs.le l1,c1,t1,fun e G2 u H2 r2 c2 l2 t2=>⟨d,e,G2,_,RelD.le l2 r1,r2,c2,t2,fun z G3 x H3 r3 c3 l3 t3=>?_⟩⟩⟩;have l13:=l1.trans (l2.trans l3);split at t3
 ·rename_i k
  refine ⟨k,r3.bl_inv,?_⟩;cases k with
  | true =>
   rw [if_pos rfl] at t3 ⊢;exact ⟨σd,G3,_,rs.le l13,c3,t3,fun z2 G4 x2 H4 r4 c4 l4 t4=>⟨e,z2,G4,q,RelD.le (l3.trans l4) r2,r4,c4,t4,f.le (l13.trans l4)⟩⟩
  | false =>
   rw [if_neg Bool.false_ne_true] at t3 ⊢;exact f _ _ _ _ RelD.blI c3 l13 t3
 ·exact t3.elim
theorem vj6 {op op':CmpOp} {r r':R3} (ho:Op3 X (compareOp op) r) (ho':Op3 X (compareOp op') r') (ha:E3 X a ta) (hb:E3 X b tb) (hc:E3 X c tc) (hm:lastMarks [op,op'] [b,c]=false:=by with_unfolding_all rfl):E3 X (.Compare a [op,op'] [b,c] pos) (u70 r r' ta tb tc) :=
 u26 (v22 ho ho' ha hb hc hm) fun _ _ _=>uf1
theorem vb5 {op op':CmpOp} {r r':R3} (ho:Op3 X (compareOp op) r) (ho':Op3 X (compareOp op') r') (ha:E3 X a ta) (hb:E3 X b tb) (hc:E3 X c tc) (hm:lastMarks [op,op'] [b,c]=false:=by with_unfolding_all rfl):T3 X (.Compare a [op,op'] [b,c] pos) (dB (u70 r r' ta tb tc)) :=
 v00 (v14 ho ho' ha hb hc hm) fun σ H Q h=>by
  obtain ⟨σd,G,q,rs,c,t,f⟩:=h;exact uf1 (K:=X.K) ⟨σd,G,_,rs,c,t,fun x G1 v H1 r1 c1 l1 t1=>by
   split at t1
   ·rename_i k
    exact ⟨k,r1.bl_inv,f _ _ _ c1 l1 t1⟩
   ·exact t1.elim⟩
end
end L3
namespace L3
open PySem PySem.Spec PyProof.Rows L2 Rw
variable {c:Nat->Int} {n p b e:Nat} {w v:Int}
theorem LeastA.eq (h:LeastA c p b e w) (h':LeastA c p b e v):w=v:=by
 have:=h.2 _ h'.1;have:=h'.2 _ h.1;omega
theorem LeastR.eq (h:LeastR c n p b w) (h':LeastR c n p b v):w=v:=by
 have:=h.2 _ h'.1;have:=h'.2 _ h.1;omega
def VA (c:Nat->Int) (p b e:Nat) (w:Int) (m:Nat):Prop:=LeastA c p b e w /\ mA p b e m /\ (e - b ≠ 1->∃ w1 w2 w3,LeastA c p b m w1 /\ LeastA c (p - 1) m e w2 /\ LeastA c (p - 1) b m w3 /\ w=w1+w2+w3)
def VR (c:Nat->Int) (n p b:Nat) (w:Int) (m:Nat):Prop:=LeastR c n p b w /\ mR n p b m /\ (n - b ≠ 1->∃ w1 w2,LeastA c p b m w1 /\ LeastR c n (p - 1) m w2 /\ w=w1+w2)
def TAw (c:Nat->Int) (Dm:Nat->Nat->Nat->Prop) (kvs:List (List Key × D)):Prop:=∀ p b e,(Dm p b e->∃ w m,valD kvs (k3 p b e)=some (vD w m) /\ VA c p b e w m) /\ (¬ Dm p b e->valD kvs (k3 p b e)=none)
def TRw (c:Nat->Int) (n:Nat) (Dm:Nat->Nat->Prop) (kvs:List (List Key × D)):Prop:=∀ p b,(Dm p b->∃ w m,valD kvs (k2 p b)=some (vD w m) /\ VR c n p b w m) /\ (¬ Dm p b->valD kvs (k2 p b)=none)
theorem TAw.congr {D1 D2:Nat->Nat->Nat->Prop} {kvs:List (List Key × D)} (h:TAw c D1 kvs) (e:∀ p b e,D1 p b e ↔ D2 p b e):TAw c D2 kvs:=fun p b e'=>⟨fun z=>(h p b e').1 ((e p b e').mpr z),fun z=>(h p b e').2 fun q=>z ((e p b e').mp q)⟩
theorem TRw.congr {D1 D2:Nat->Nat->Prop} {kvs:List (List Key × D)} (h:TRw c n D1 kvs) (e:∀ p b,D1 p b ↔ D2 p b):TRw c n D2 kvs:=fun p b=>⟨fun z=>(h p b).1 ((e p b).mpr z),fun z=>(h p b).2 fun q=>z ((e p b).mp q)⟩
theorem TAw.put {Dm:Nat->Nat->Nat->Prop} {kvs:List (List Key × D)} {m:Nat} (h:TAw c Dm kvs) (hn:¬ Dm p b e) (hm:VA c p b e w m):TAw c (fun p' b' e'=>Dm p' b' e' \/ (p'=p /\ b'=b /\ e'=e)) (putT kvs (k3 p b e) (vD w m)):=by
 intro p' b' e';rw [u62 ((h p b e).2 hn)]
 by_cases hk:k3 p' b' e'=k3 p b e
 ·obtain ⟨rfl,rfl,rfl⟩:=uu7 hk
  rw [if_pos rfl];exact ⟨fun _=>⟨w,m,rfl,hm⟩,fun z=>absurd (.inr ⟨rfl,rfl,rfl⟩) z⟩
 ·rw [if_neg hk]
  refine ⟨fun z=>(h p' b' e').1 (z.resolve_right fun q=>hk ?_),fun z=>(h p' b' e').2 fun q=>z (.inl q)⟩;obtain ⟨rfl,rfl,rfl⟩:=q;rfl
theorem TRw.put {Dm:Nat->Nat->Prop} {kvs:List (List Key × D)} {m:Nat} (h:TRw c n Dm kvs) (hn:¬ Dm p b) (hm:VR c n p b w m):TRw c n (fun p' b'=>Dm p' b' \/ (p'=p /\ b'=b)) (putT kvs (k2 p b) (vD w m)):=by
 intro p' b';rw [u62 ((h p b).2 hn)]
 by_cases hk:k2 p' b'=k2 p b
 ·obtain ⟨rfl,rfl⟩:=ul5 hk
  rw [if_pos rfl];exact ⟨fun _=>⟨w,m,rfl,hm⟩,fun z=>absurd (.inr ⟨rfl,rfl⟩) z⟩
 ·rw [if_neg hk]
  refine ⟨fun z=>(h p' b').1 (z.resolve_right fun q=>hk ?_),fun z=>(h p' b').2 fun q=>z (.inl q)⟩;obtain ⟨rfl,rfl⟩:=q;rfl
end L3
namespace L2
open PySem PySem.Spec PyProof.Rows
def jn (sep:Str) (ws:List Str):Str:=Builtin.Str.glued sep ws
section
variable {X:Cx}
theorem ue2:∀ {ws:List Str} {us:List Value},Vals (ws.map V.str) us->∃ l:List (Str × Tok),us=strValues l /\ l.map (·.1)=ws
 | [],_,.nil=>⟨[],rfl,rfl⟩
 | w::ws,_,.cons r t=>by
  obtain ⟨l,rfl,e⟩:=ue2 t;obtain ⟨k,rfl⟩:=r;exact ⟨(w,k)::l,rfl,by rw [List.map_cons,e]⟩
def rJoin (K:PySem.W.Frag):V->List V->Hp->VK->Prop:=fun x vs H Q=>∃ (sep:Str) (p:Addr) (ws:List Str),x=.str sep /\ vs=[.ref p] /\ SqL K H p (ws.map V.str) /\ Builtin.Str.tooLong ((ws.toArray).foldl (·+·.length+sep.length) 0)=false /\ (jn sep ws).length<=sizeLine /\ Q (.str (jn sep ws)) H
theorem vg1:MtR X "str.join" (rJoin X.K):=by
 intro pins s σ H x vs v us Q I rx rv h;obtain ⟨sep,p,ws,rfl,rfl,hq,hl,hz,q⟩:=h;obtain ⟨t,rfl⟩:=rx;obtain ⟨u,rfl,ru⟩:=rv.one;cases ru;obtain ⟨its,r',pl,_⟩:=I.list hq;obtain ⟨l,rfl,e⟩:=ue2 r';refine call_meets F.slot_str_join (typeIs_str _ _ _) F.entry_str_join (F.args_str_join_2 _ _) (meets_str_join_list sep t p l (by rw [e];exact hl)) ⟨pl.isList,?_⟩
 match l,e with
 | [],e =>
  subst e;exact ⟨hz,.str _,H,I.tok _,⟨_,rfl⟩,q⟩
 | [a],e =>
  subst e;exact ⟨.str _,H,I,⟨_,rfl⟩,q⟩
 | a::b::l,e =>
  subst e;exact ⟨hz,.str _,H,I.tok _,⟨_,rfl⟩,q⟩
end
end L2
namespace L3
open PySem PySem.Spec PyProof.Rows L2
section
variable {X:Cx} {K:PySem.W.Frag} {H:Hp} {o e:Expr} {es:List Expr} {to:TE3} {ts:TA3} {apos cpos:Pos}
@[reducible] def vu0:M3:=fun x ds G q=>∃ (sep:Str) (a:Addr) (ws:List Str),x=.str sep /\ ds=[.ref a] /\ u18 (G a)=some (ws.map .str) /\ Builtin.Str.tooLong ((ws.toArray).foldl (·+·.length+sep.length) 0)=false /\ (jn sep ws).length<=sizeLine /\ q (.str (jn sep ws)) G
theorem uk3:∀ {ws:List Str} {vs:List V},RelDs K H (ws.map .str) vs->vs=ws.map V.str
 | [],vs,r=>r.inv_nil
 | w::ws,vs,r=>by
  obtain ⟨x,ys,rfl,h1,h2⟩:=r.inv_cons;rw [uk3 h2,h1.str_inv];rfl
theorem ty_str (K:PySem.W.Frag):∀ G H x v,Con K G H->RelD K H x v->tyD G "str" x->tyV K "str" v H:=by
 intro G H x v c r t;cases x with
 | str i=>cases r.str_inv;exact rfl
 | int _=>simp [tyD] at t
 | ref a=>cases e:G a with
  | none=>simp [tyD,e] at t
  | some o=>cases o <;> simp [tyD,e] at t
 | _=>exact t.elim
theorem ux4 (ho:E3 X o to) (ha:A3 X (e::es) ts) (hbase:attributeBase o "join" X.env (eval o X.env)=eval o X.env:=by rfl)
  (hfew:((backTo cpos (starEach (e::es) X.env)).all (fun x=>!x.1) && (backToKw cpos (keywordEach [] X.env)).all (fun x=>x.1.isSome)
   && decide ((e::es).length+([]:List Keyword).length+(if ([]:List Keyword).isEmpty then 0 else 1) < 30))=true:=by rfl)
  (hline:(apos.endLine == cpos.line)=true:=by rfl) (hs:starEach (e::es) X.env=(false,eval e X.env)::starEach es X.env:=by rfl) (hplain:(backTo cpos (starEach es X.env)).any (·.1)=false:=by rfl) :
  E3 X (.Call (.Attribute o "join" apos) (e::es) [] cpos) (dBM "str" vu0 to ts) :=
 u26 (vf4 PySem.F.plainAttrs_str PySem.F.slot_str_join PySem.F.type_str_join (up4 (r':=lowM X.K vu0) vg1 <| by
  rintro x xs H Q ⟨d,ds,G,q,r1,r2,c,⟨sep,a,ws,rfl,rfl,es,h1,h2,t⟩,f⟩;obtain ⟨v,rfl,r3⟩:=r2.one;cases r3.ref_inv;cases r1.str_inv;obtain ⟨ys,s1,q1⟩:=u17 c es;obtain rfl:=uk3 q1;exact ⟨sep,a,ws,rfl,rfl,s1,h1,h2,f _ _ _ _ RelD.strI c (Le.refl H) t⟩) ho ha hbase hfew hline hs hplain) fun _ _ _=>ut9 (ty_str X.K)
end
end L3
namespace L3
open PySem PySem.Spec PyProof.Rows L2 Rw
inductive Atm
 | num (i:Nat)
 | box (x:Str)
inductive Rowp
 | is (x:Str) (a:Atm)
 | op (x o:Str) (a b:Atm)
 | cho (a:Atm) (ys ns:List Rowp)
 | tim (k:Nat) (ys:List Rowp)
def okA (W:Nat) (bs:List Str):Atm->Prop
 | .num i=>i < 2 ^ W
 | .box x=>x ∈ bs
def signs:List Str:=["+", "-", "&", "|", "^", "<", "="]
mutual
def okR (W:Nat) (bs:List Str):Rowp->Prop
 | .is x a=>x ∈ bs /\ okA W bs a
 | .op x o a b=>x ∈ bs /\ o ∈ signs /\ okA W bs a /\ okA W bs b
 | .cho a ys ns=>okA W bs a /\ okL W bs ys /\ okL W bs ns
 | .tim k ys=>k<=20 /\ okL W bs ys
def okL (W:Nat) (bs:List Str):List Rowp->Prop
 | []=>True
 | r::rs=>okR W bs r /\ okL W bs rs
end
theorem okL_app {W:Nat} {bs:List Str}:∀ {a b:List Rowp},okL W bs (a++b) ↔ okL W bs a /\ okL W bs b
 | [],b=>by simp [okL]
 | r::a,b=>by
  show okR W bs r /\ okL W bs (a++b) ↔ (okR W bs r /\ okL W bs a) /\ okL W bs b
  rw [okL_app,and_assoc]
mutual
def depR:Rowp->Nat
 | .is _ _=>0
 | .op _ _ _ _=>0
 | .cho _ ys ns=>1+max (depL ys) (depL ns)
 | .tim _ ys=>1+depL ys
def depL:List Rowp->Nat
 | []=>0
 | r::rs=>max (depR r) (depL rs)
end
theorem ud1:∀ {a b:List Rowp},depL (a++b)=max (depL a) (depL b)
 | [],b=>by simp [depL]
 | r::a,b=>by
  show max (depR r) (depL (a++b))=max (max (depR r) (depL a)) (depL b)
  rw [ud1];omega
mutual
def wtR:Rowp->Nat
 | .is _ _=>1
 | .op _ _ _ _=>1
 | .cho _ ys ns=>1+wtL ys+wtL ns
 | .tim k ys=>k * wtL ys
def wtL:List Rowp->Nat
 | []=>0
 | r::rs=>wtR r+wtL rs
end
theorem uh1:∀ {a b:List Rowp},wtL (a++b)=wtL a+wtL b
 | [],b=>by simp [wtL]
 | r::a,b=>by
  show wtR r+wtL (a++b)=wtR r+wtL a+wtL b
  rw [uh1];omega
mutual
def szR:Rowp->Nat
 | .is _ _=>1
 | .op _ _ _ _=>1
 | .cho _ ys ns=>1+szL ys+szL ns
 | .tim _ ys=>1+szL ys
def szL:List Rowp->Nat
 | []=>0
 | r::rs=>szR r+szL rs
end
theorem uh3:∀ {a b:List Rowp},szL (a++b)=szL a+szL b
 | [],b=>by simp [szL]
 | r::a,b=>by
  show szR r+szL (a++b)=szR r+szL a+szL b
  rw [uh3];omega
theorem vb9:∀ r:Rowp,1<=szR r
 | .is _ _=>Nat.le_refl _
 | .op _ _ _ _=>Nat.le_refl _
 | .cho _ ys ns=>by show 1<=1+szL ys+szL ns;omega
 | .tim _ ys=>by show 1<=1+szL ys;omega
theorem uu5:∀ rs:List Rowp,rs.length<=szL rs
 | []=>Nat.le_refl _
 | r::rs=>by
  have:=vb9 r;have:=uu5 rs
  show rs.length+1<=szR r+szL rs
  omega
inductive Hd
 | c1 (a:Atm)
 | c2 (a:Atm) (ys:List Rowp)
 | tm (k:Nat)
structure Fr where
 p:Addr
 ahead:List Rowp
 hd:Hd
 o:Nat
def Hd.mul:Hd->Nat
 | .tm k=>k
 | _=>1
def Hd.wt:Hd->Nat
 | .c1 _=>1
 | .c2 _ ys=>1+wtL ys
 | .tm _=>0
def Hd.ys:Hd->List Rowp
 | .c2 _ ys=>ys
 | _=>[]
def Hd.ok (W:Nat) (bs:List Str):Hd->Prop
 | .c1 a=>okA W bs a
 | .c2 a ys=>okA W bs a /\ okL W bs ys
 | .tm k=>k<=20
def SK (W:Nat) (bs:List Str):List Fr->Nat->List Rowp->Nat->Nat->Prop
 | [],o,rows,w,z=>o=1 /\ wtL rows=w /\ szL rows=z /\ depL rows<=5 /\ okL W bs rows
 | f::fs,o,rows,w,z=>o=f.o * f.hd.mul /\ depL rows+(fs.length+1)<=5 /\ depL f.hd.ys+(fs.length+1)<=5 /\ okL W bs rows /\ f.hd.ok W bs /\
  ∃ w' z',w=w'+o * wtL rows+f.o * f.hd.wt /\ z=z'+szL rows+1+szL f.hd.ys /\ SK W bs fs f.o f.ahead w' z'
def PuAt (G:Gp) (pr:Addr):Prop:=∃ a b:Int,0<=a /\ 0<=b /\ b < 2147483648 /\ G pr=some (.lst [.int a,.int b])
structure PAdv (pr:Addr) (G G':Gp):Prop where
 at_:PuAt G' pr
 kp:∀ c o,c ≠ pr->G c=some o->G' c=some o
theorem PuAt.grow {G G':Gp} {pr:Addr} (h:PuAt G pr) (g:Grow G G'):PuAt G' pr:=by
 obtain ⟨a,b,h1,h2,h3,h4⟩:=h;exact ⟨a,b,h1,h2,h3,g.kp _ _ h4⟩
theorem PuAt.ne {G:Gp} {pr p:Addr} (h:PuAt G pr) (hp:G p=none):p ≠ pr:=by
 obtain ⟨a,b,_,_,_,h4⟩:=h;exact fun e=>by rw [e,h4] at hp;cases hp
theorem PAdv.refl {pr:Addr} {G:Gp} (h:PuAt G pr):PAdv pr G G:=⟨h,fun _ _ _ e=>e⟩
theorem PAdv.trans {pr:Addr} {G G1 G2:Gp} (a:PAdv pr G G1) (b:PAdv pr G1 G2):PAdv pr G G2:=⟨b.at_,fun c o h e=>b.kp c o h (a.kp c o h e)⟩
theorem PAdv.grow {pr:Addr} {G G1 G2:Gp} (a:PAdv pr G G1) (g:Grow G1 G2):PAdv pr G G2:=⟨a.at_.grow g,fun c o h e=>g.kp _ _ (a.kp c o h e)⟩
theorem PAdv.own {pr p:Addr} {G G1:Gp} {o:DO} (a:PAdv pr G G1) (hp:G p=none) (hne:p ≠ pr):PAdv pr G (gup G1 p o):=by
 refine ⟨?_,fun c u hc e=>by rw [u06 (gne e hp)];exact a.kp c u hc e⟩;obtain ⟨x,y,h1,h2,h3,h4⟩:=a.at_
 exact ⟨x,y,h1,h2,h3,by rw [u06 (Ne.symm hne)];exact h4⟩
theorem PAdv.fresh {pr p:Addr} {G G1:Gp} (a:PAdv pr G G1) (hp:G1 p=none) (hne:p ≠ pr):G p=none:=by
 cases e:G p with
 | none=>rfl
 | some o=>rw [a.kp p o hne e] at hp;cases hp
theorem PAdv.back {pr:Addr} {G G1 G2:Gp} (g:Grow G G1) (hp:G pr=none) (a:PAdv pr G1 G2):Grow G G2:=⟨fun c o e=>a.kp c o (gne e hp) (g.kp c o e)⟩
theorem SK.row {W:Nat} {bs:List Str} {fs:List Fr} {o:Nat} {rows:List Rowp} {w z:Nat} {r:Rowp} (h:SK W bs fs o rows w z) (hr:okR W bs r) (h1:wtR r=1) (h2:szR r=1) (h3:depR r=0):SK W bs fs o (rows++[r]) (w+o) (z+1):=by
 cases fs with
 | nil =>
  obtain ⟨q1,q2,q3,q4,q5⟩:=h;subst q1;refine ⟨rfl,?_,?_,?_,okL_app.mpr ⟨q5,hr,trivial⟩⟩
  ·rw [uh1];simp only [wtL];omega
  ·rw [uh3];simp only [szL];omega
  ·rw [ud1];simp only [depL];omega
 | cons g gs =>
  obtain ⟨q1,q2,q3,q4,q5,w2,z2,e3,e4,q6⟩:=h;refine ⟨q1,?_,q3,okL_app.mpr ⟨q4,hr,trivial⟩,q5,w2,z2,?_,?_,q6⟩
  ·rw [ud1];simp only [depL];omega
  ·rw [uh1];simp only [wtL,Nat.mul_add,h1,Nat.mul_one,Nat.mul_zero];omega
  ·rw [uh3];simp only [szL];omega
theorem SK.len {W:Nat} {bs:List Str}:∀ {fs:List Fr} {o:Nat} {rows:List Rowp} {w z:Nat},SK W bs fs o rows w z->rows.length<=z /\ ∀ f ∈ fs,f.ahead.length<=z
 | [],_,rows,_,_,⟨_,_,h,_,_⟩=>⟨by have:=uu5 rows;omega,fun f hf=>by cases hf⟩
 | f::fs,_,rows,_,_,⟨_,_,_,_,_,w',z',_,e2,h6⟩=>by
  have q:=SK.len h6;have:=uu5 rows;refine ⟨by omega,fun g hg=>?_⟩
  rcases List.mem_cons.mp hg with e | e
  ·subst e;have:=q.1;omega
  ·have:=q.2 g e;omega
theorem SK.fl {W:Nat} {bs:List Str}:∀ {fs:List Fr} {o:Nat} {rows:List Rowp} {w z:Nat},SK W bs fs o rows w z->fs.length<=5
 | [],_,_,_,_,_=>by simp
 | f::fs,_,_,_,_,⟨_,h,_⟩=>by simp only [List.length_cons];omega
end L3
namespace L2
open PySem PySem.Spec PyProof.Rows
def tyN:Bool->String
 | true => "tuple_iterator"
 | false => "list_iterator"
def SIt (c:Bool) (h:Heap) (it l:Addr) (i:Nat):Prop:=∃ o,h.get? it=some o /\ o.cls=.type (tyN c) /\ o.data=.fields #[.ref l,.int i 0]
def SOf (c:Bool) (h:Heap) (l:Addr) (xs:Array Value):Prop:=∃ o,h.get? l=some o /\ o.cls=.type (cond c "tuple" "list") /\ ∃ n,o.data=.seq xs n
theorem SIt.at {c:Bool} {h h':Heap} {it l:Addr} {i:Nat} (x:SIt c h it l i) (e:∀ o,h.get? it=some o->h'.get? it=some o):SIt c h' it l i:=let ⟨o,ho,r⟩:=x;⟨o,e _ ho,r⟩
theorem SOf.at {c:Bool} {h h':Heap} {l:Addr} {xs:Array Value} (x:SOf c h l xs) (e:∀ o,h.get? l=some o->h'.get? l=some o):SOf c h' l xs:=let ⟨o,ho,r⟩:=x;⟨o,e _ ho,r⟩
theorem SOf.push {c:Bool} {h:Heap} {l:Addr} {xs:Array Value} (x:SOf c h l xs) (o:Obj):SOf c (h.push o) l xs:=x.at fun _ e=>Heap.get?_push_of_some o e
set_option maxHeartbeats 4000000 in
def Sq (c:Bool) (K:PySem.W.Frag) (H:Hp) (a:Addr) (xs:List V):Prop:=match c with
 | true=>SqT K H a xs
 | false=>SqL K H a xs
theorem Inv.sq {X:Cx} {pins:List (Addr × Obj)} {σ:List (Option V)} {H:Hp} {s:Shared} {c:Bool} {a:Addr} {xs:List V} (I:Inv X pins σ H s) (h:Sq c X.K H a xs):∃ its:List Value,Vals xs its /\ SOf c s.heap a its.toArray:=by
 cases c with
 | true =>
  obtain ⟨its,r,p,_⟩:=I.tuple h;exact ⟨its,r,p⟩
 | false =>
  obtain ⟨its,r,p,_⟩:=I.list h;obtain ⟨o,e,h1,h2⟩:=p.isList;exact ⟨its,r,o,e,h1,h2⟩
structure DzSt (c d:Bool) (l1 l2 z TI TO i1 i2 S:Addr) (xs ys:Array Value) (i:Nat) (h:Heap):Prop where
 zz:IsZip h z TI TO .none \/ ∃ T f oT,v98 h z TI TO T f /\ h.get? T=some oT /\ T ≠ z /\ T ≠ TO /\ T ≠ i1 /\ T ≠ i2 /\ T ≠ S
 ti:IsPair h TI (.ref i1) (.ref i2)
 to:∃ u v,IsPair h TO u v
 h1:SIt c h i1 l1 i
 h2:SIt d h i2 l2 i
 m1:SOf c h l1 xs
 m2:SOf d h l2 ys
end L2
namespace L3
open PySem PySem.Spec PyProof.Rows L2 Rw
def ixB:List Str->Str->Nat
 | [],_=>0
 | b::bs,x=>if b=x then 0 else 1+ixB bs x
def ptB (bs:List Str) (vs:List Nat) (x:Str) (v:Nat):List Nat:=vs.set (ixB bs x) v
theorem vd9 {bs:List Str} {vs:List Nat} {x:Str} {v:Nat}:(ptB bs vs x v).length=vs.length:=by simp [ptB]
def StW (W:Nat) (bs:List Str) (vs:List Nat):Prop:=vs.length=bs.length /\ ∀ v ∈ vs,v < 2 ^ W
theorem StW.put {W:Nat} {bs:List Str} {vs:List Nat} (h:StW W bs vs) {x:Str} {v:Nat} (hv:v < 2 ^ W):StW W bs (ptB bs vs x v):=by
 refine ⟨by rw [vd9];exact h.1,fun u hu=>?_⟩
 rcases List.mem_or_eq_of_mem_set hu with z | z
 ·exact h.2 u z
 ·rw [z];exact hv
def rkB (W:Nat) (o:Str) (a b:Nat):Nat :=
 if o = "+" then (a+b) % 2 ^ W else if o = "-" then (a+(2 ^ W - b)) % 2 ^ W else if o = "&" then a &&& b else if o = "|" then a ||| b else if o = "^" then a ^^^ b else if o = "<" then (if a < b then 1 else 0) else (if a=b then 1 else 0)
def bt (x k:Nat):Nat:=x / 2 ^ k % 2
theorem mod_succ (x k:Nat):x % 2 ^ (k+1)=x % 2 ^ k+2 ^ k * bt x k:=by
 unfold bt;rw [Nat.pow_succ,Nat.mod_mul]
end L3
namespace L3
open PySem L2
set_option maxHeartbeats 4000000
abbrev Gm:=Option (Bool × Int)
def toG:Pm->Gm
 | none=>none
 | some p=>some (p.1,(p.2:Int))
def lgg (n s m:Nat) (p:Bool × Int):Bool:=decide (1<=p.2 /\ p.2<=n) && stn (p.2.toNat - 1) m && (if p.1 then !stn p.2.toNat m && decide (cnt n m < s) else stn p.2.toNat m)
def nxg (m:Nat):Gm->Nat
 | none=>m
 | some p=>xr m p.2.toNat
def okg (n s m:Nat) (sh:Bool):Gm->Bool
 | none=>stn n m && !sh
 | some p=>lgg n s m p
def out (n s:Nat):Nat->Bool->Nat->List Gm->Sum Nat (Nat × Bool)
 | m,sh,_,[]=>.inr (m,sh)
 | m,sh,i,p::r=>if okg n s m sh p=true then out n s (nxg m p) (sh || p.isNone) (i+1) r else .inl i
def told (n s:Nat) (w:List Gm):Sum Nat Bool :=
 match out n s 0 false 0 w with
 | .inl i=>.inl i
 | .inr (m,sh)=>if sh=true then (if m=0 then .inr false else .inl w.length) else if m=2 ^ (n - 1) then .inr true else .inl w.length
theorem vu5 {n s m:Nat} {p:Mv} (h:lgl n s m p):lgg n s m (p.1,(p.2:Int))=true:=by
 obtain ⟨⟨h1,h2⟩,h3,h4,h5⟩:=h;have e1:stn (p.2 - 1) m=true:=by
  unfold stn
  rcases h3 with z | z
  ·have:p.2 - 1=0:=by omega
   rw [this];rfl
  ·have:p.2 - 1 - 1=p.2 - 2:=by omega
   rw [this,z];simp
 have e2:stn p.2 m=stb p.2 m:=by
  unfold stn stb;have:(p.2 == 0)=false:=by rw [beq_eq_false_iff_ne];omega
  rw [this];simp
 unfold lgg;dsimp only;rw [Int.toNat_natCast,e1,e2,decide_eq_true (by omega)];cases hp:p.1 with
 | true =>
  rw [hp] at h4;have:stb p.2 m=false:=by simpa using h4.symm
  rw [this,decide_eq_true (h5 hp)];rfl
 | false =>
  rw [hp] at h4;have:stb p.2 m=true:=by simpa using h4.symm
  rw [this];rfl
theorem vc1 {k m:Nat} (h:1<=k):stn k m=m.testBit (k - 1):=by
 unfold stn;have:(k == 0)=false:=by rw [beq_eq_false_iff_ne];omega
 rw [this];simp
theorem uh5 {n s:Nat} (hn:1<=n):∀ {w:List Pm} {m i:Nat} {sh:Bool},ckp n s m sh w->out n s m sh i (w.map toG)=.inr (finp m w,shw sh w)
 | [],_,_,_,_=>rfl
 | none::r,m,i,sh,⟨⟨h1,h2⟩,h3⟩=>by
  show (if okg n s m sh none=true then _ else _)=_
  rw [if_pos (by show (stn n m && !sh)=true;rw [vc1 hn,h1,h2];rfl)]
  show out n s m (sh || true) (i+1) (r.map toG)=_
  rw [Bool.or_true];exact uh5 hn h3
 | some p::r,m,i,sh,⟨h1,h3⟩=>by
  show (if okg n s m sh (some (p.1,(p.2:Int)))=true then _ else _)=_
  rw [if_pos (show okg n s m sh (some (p.1,(p.2:Int)))=true from vu5 h1)]
  show out n s (xr m (p.2:Int).toNat) (sh || false) (i+1) (r.map toG)=_
  rw [Bool.or_false,Int.toNat_natCast];exact uh5 hn h3
theorem ub5 {n s:Nat} (hn:1<=n) {w:List Pm} (h:ckp n s 0 false w):told n s (w.map toG)=if shw false w=true then (if finp 0 w=0 then .inr false else .inl w.length) else if finp 0 w=2 ^ (n - 1) then .inr true else .inl w.length:=by
 unfold told;rw [uh5 hn h];dsimp only;rw [List.length_map]
theorem ud7 {n s s':Nat} (h:s<=s'):∀ {w:List Pm} {m:Nat} {sh:Bool},ckp n s m sh w->ckp n s' m sh w
 | [],_,_,_=>trivial
 | none::r,m,sh,⟨h1,h2⟩=>⟨h1,ud7 h h2⟩
 | some p::r,m,sh,⟨⟨h1,h2,h3,h4⟩,h5⟩=>⟨⟨h1,h2,h3,fun z=>Nat.lt_of_lt_of_le (h4 z) h⟩,ud7 h h5⟩
theorem u96 {n s:Nat}:∀ {w:List Pm} {m:Nat} {sh sh':Bool},ckp n s m sh w->ckp n s m sh' (w.filter (·.isSome)) /\ finp m (w.filter (·.isSome))=finp m w /\ shw sh' (w.filter (·.isSome))=sh'
 | [],_,_,_,_=>⟨trivial,rfl,rfl⟩
 | none::r,m,sh,sh',⟨_,h2⟩=>by
  rw [List.filter_cons_of_neg (by decide)];exact u96 (w:=r) h2
 | some p::r,m,sh,sh',⟨h1,h2⟩=>by
  rw [List.filter_cons_of_pos (by rfl)];obtain ⟨a,b,c⟩:=u96 (w:=r) (sh':=sh') h2;exact ⟨⟨h1,a⟩,b,c⟩
theorem vh8 {n s:Nat} (hn:1<=n) (hs:1<=s):lgl n s 0 (true,1):=⟨⟨Nat.le_refl _,hn⟩,.inl rfl,by show true=!stb 1 0;rfl,fun _=>by rw [u71];omega⟩
theorem uy3 {n s:Nat} (hn:1<=n):lgl n s 1 (false,1):=⟨⟨Nat.le_refl _,hn⟩,.inl rfl,by show false=!stb 1 1;rfl,fun z=>nomatch z⟩
theorem v57 {n s:Nat} (hn:1<=n) (hs:1<=s) {sh:Bool}:ckp n s 0 sh [some (true,1),some (false,1)] /\ finp 0 [some (true,1),some (false,1)]=0:=⟨⟨vh8 hn hs,uy3 hn,trivial⟩,rfl⟩
theorem uf8 {n s:Nat} (hn:1<=n) (hs:1<=s) {sh:Bool}:∀ k,ckp n s 0 sh (List.replicate k [some (true,1),some (false,1)]).flatten /\ finp 0 (List.replicate k [some (true,1),some (false,1)]).flatten=0 /\ shw sh (List.replicate k [some (true,1),some (false,1)]).flatten=sh
 | 0=>⟨trivial,rfl,rfl⟩
 | k+1=>by
  obtain ⟨a,b,c⟩:=uf8 (sh:=sh) hn hs k;rw [List.replicate_succ,List.flatten_cons,ckp_app,u39,u49];have e:=(v57 (n:=n) (s:=s) (sh:=sh) hn hs);rw [e.2];exact ⟨⟨e.1,a⟩,b,c⟩
structure CKD (n s:Nat) (lf:Bool) (w:List Pm):Prop where
 ck:ckp n s 0 false w
 sh:shw false w=!lf
 fi:finp 0 w=if lf then 2 ^ (n - 1) else 0
 la:lf=false->∃ l p,w=l++[some p]
section
variable {n s:Nat} {lf:Bool} {w:List Pm}
theorem CKD.good (h:CKD n s lf w) (hn:1<=n):told n s (w.map toG)=.inr lf:=by
 rw [ub5 hn h.ck,h.sh,h.fi];cases lf <;> simp
theorem CKD.more {s':Nat} (h:CKD n s lf w) (hs:s<=s'):CKD n s' lf w:=⟨ud7 hs h.ck,h.sh,h.fi,h.la⟩
theorem CKD.ahead (h:CKD n s lf w) (hn:1<=n) (hs:1<=s) (k:Nat):CKD n s lf ((List.replicate k [some (true,1),some (false,1)]).flatten++w):=by
 obtain ⟨a,b,c⟩:=uf8 (sh:=false) hn hs k;refine ⟨ckp_app.mpr ⟨a,by rw [b,c];exact h.ck⟩,by rw [u49,c];exact h.sh,by rw [u39,b];exact h.fi,fun e=>?_⟩;obtain ⟨l,p,rfl⟩:=h.la e;exact ⟨(List.replicate k [some (true,1),some (false,1)]).flatten++l,p,by rw [List.append_assoc]⟩
theorem CKD.again (h:CKD n s false w) (hn:1<=n):told n s ((w++w.filter (·.isSome)).map toG)=.inr false:=by
 have f:finp 0 w=0:=h.fi;have sh:shw false w=true:=h.sh;obtain ⟨a,b,c⟩:=u96 (sh':=true) h.ck;have d:ckp n s 0 false (w++w.filter (·.isSome)):=ckp_app.mpr ⟨h.ck,by rw [f,sh];exact a⟩;rw [ub5 hn d,u49,u39,f,sh,b,c,f];rfl
theorem CKD.shown (h:CKD n s true w) (hn:1<=n):told n s ((w++[none]).map toG)=.inl (w.length+1):=by
 have f:finp 0 w=2 ^ (n - 1):=h.fi;have sh:shw false w=false:=h.sh;have c:ckp n s 0 false (w++[none]):=ckp_app.mpr ⟨h.ck,by rw [f];exact ⟨⟨Nat.testBit_two_pow_self,sh⟩,trivial⟩⟩;have f0:finp (finp 0 w) [none] ≠ 0:=by
  show finp 0 w ≠ 0
  rw [f];exact Nat.ne_of_gt (Nat.two_pow_pos _)
 rw [ub5 hn c,u49,u39,if_pos (show shw (shw false w) [none]=true from rfl),if_neg f0,List.length_append];rfl
end
end L3
namespace L2
open PySem PySem.Spec PyProof.Rows
set_option maxHeartbeats 4000000
abbrev VM:List Value:=[.type "ValueError",.type "Exception",.type "BaseException",.type "object"]
abbrev vy4 (nm q:Str) (C N:Addr) (bs bm:List Value) (sn:List Str) (sub:List Value) (ab:Bool) (col:Option Bool) (dd:Option Addr) (k0 k1 k2 k3 k5:Option Value):Obj:=excClassObj nm q C N bs bm true sn sub ab col dd k0 k1 k2 k3 k5 "ValueError.__new__"
def xcIn (K:PySem.W.Frag) (C:Addr) (bm:List Value):Bool :=
  match K.lookup C with
  | some ⟨.type "type",_,.cls cd,sl⟩ =>
    (match cd.mro,sl.toList with
     | .ref B::r,[_,_,_,_,some (.builtin i),_]=>B == C && r == bm && i == "ValueError.__new__" && cd.hasDict && !cd.hasDel && PySem.W.tailIn K VM bm
     | _,_=>false)
  | _=>false
def XcAt (C:Addr) (bm:List Value) (h:Heap):Prop:=∃ nm q N bs sn sub ab col dd k0 k1 k2 k3 k5,h.get? C=some (vy4 nm q C N bs bm sn sub ab col dd k0 k1 k2 k3 k5)
theorem ug7 {K:PySem.W.Frag} {C:Addr} {bm:List Value} {h:Heap} (X:K.In h) (e:xcIn K C bm=true):XcAt C bm h /\ OwnTail h VM bm:=by
 unfold xcIn at e;split at e
 ·rename_i dd cd sl ho
  split at e
  ·rename_i B r k0 k1 k2 k3 i k5 hm hs
   simp only [Bool.and_eq_true,beq_iff_eq,Bool.not_eq_true'] at e;obtain ⟨⟨⟨⟨⟨rfl,rfl⟩,rfl⟩,hd⟩,hl⟩,ht⟩:=e;obtain ⟨nm,bs,mro,ns,qn,hdd,sn,sub,ab,col,del⟩:=cd;dsimp only at hm hl hd;subst hm hl hd;have hsl:sl=#[k0,k1,k2,k3,some (.builtin "ValueError.__new__"),k5]:=by
    obtain ⟨l⟩:=sl;simp only at hs;rw [hs]
   subst hsl;exact ⟨⟨nm,qn,ns,bs,sn,sub,ab,col,dd,k0,k1,k2,k3,k5,X _ _ ho⟩,PySem.W.tail_of_in X ht⟩
  ·cases e
 ·cases e
theorem XcAt.keeps {C:Addr} {bm:List Value} {h h':Heap} (x:XcAt C bm h) (k:∀ b o,h.get? b=some o->h'.get? b=some o):XcAt C bm h':=by
 obtain ⟨nm,q,N,bs,sn,sub,ab,col,dd,k0,k1,k2,k3,k5,e⟩:=x;exact ⟨nm,q,N,bs,sn,sub,ab,col,dd,k0,k1,k2,k3,k5,k _ _ e⟩
section
variable {prog:Program} {w:World} {A:Around} {E:Value->Shared->Prop} {K:PySem.W.Frag} {C fI:Addr} {bm:List Value}
theorem vb3 {h:Heap} {g:Array GenState} {d:Drawn} {t:Nat} {os:OsState} {us:List Value} {Q:Fin->Shared->Prop} (X:K.In h) (hc:xcIn K C bm=true) (hi:PySem.W.findIn K (.ref C) "__init__" = some (some (.ref fI))) (hf:PySem.W.isFn K (.ref fI)=true) (hl:us.length<=sizeLine)
  (hq:∀ h' e,Heap.MadeExcOf h h' e (.ref C) us->h.objs.size<=e->wpAny (model prog w) A (call (.ref fI) (.ref e::us)) (fun r s'=>r=.none /\ Q (.done (.ret (.ref e))) s') E ⟨h',g,d,t,os⟩) :
  wpAny (model prog w) A (Builtin.«type.__call__» ⟨.ref C::us,[]⟩) Q E ⟨h,g,d,t,os⟩:=by
 obtain ⟨⟨nm,q,N,bs,sn,sub,ab,col,dd,k0,k1,k2,k3,k5,hC⟩,T⟩:=ug7 X hc;have VF:=PySem.F.excBase_ValueError;have hB:VM.contains (.type "ValueError")=true:=by decide
 repeat (first | with_reducible refine wpAny_madeBy_exc hC ?_ | with_reducible refine wpAny_loadPart_at hC ?_ | wp_step)
 refine codeAny_call_builtin_code (Code.quiet_builtin _ VF.quiet) (wpAny_check_new_subU VF hB T hC (codeAny_exc_new_subU VF hB VF T hC ?_ hl))
 show wpAny _ _ _ _ _ _
 have kk:∀ b o,h.get? b=some o->((h.push { cls:=.type "tuple",data:=.seq us.toArray }).push { cls:=.ref C,data:=.fields #[.ref h.objs.size,.none,.none,.none,.bool false,.none] }).get? b=some o:=fun b o e=>Heap.get?_push_of_some _ (Heap.get?_push_of_some _ e)
 have X1:=X.keeps kk;have hC1:=kk _ _ hC;have ge:((h.push { cls:=.type "tuple",data:=.seq us.toArray }).push { cls:=.ref C,data:=.fields #[.ref h.objs.size,.none,.none,.none,.bool false,.none] }).get? (h.objs.size+1)=some
   { cls:=.ref C,data:=.fields #[.ref h.objs.size,.none,.none,.none,.bool false,.none] }:=by heap_get
 have hcC:(Value.ref C::bm).contains (.ref C)=true:=by simp
 unfold isInstance
 repeat (first | with_reducible refine wpAny_loadPart_at ge ?_ | (with_reducible refine wpAny_isSubtype_exc hC1 ?_;rw [hcC]) | wp_step)
 show wpAny _ _ (typeLookup (.ref C) _) _ _ _
 refine (PySem.W.looks_findIn X1 hi).here (wpAny_holding (wpAny_bind ((PySem.W.bind_fn X1 _ (beq_iff_eq.mp hf)).here ?_)));refine wpAny_bind (wpAny_mono (hq _ (h.objs.size+1) ⟨kk,Heap.get?_none_of_le (Nat.le_succ _),h.objs.size,ge,Heap.get?_none_of_le (Nat.le_refl _),?_⟩ (Nat.le_succ _)) (fun r s' hr=>?_) fun _ _ x=>x)
 ·exact Heap.get?_push_of_some _ (Heap.get?_push_at rfl rfl)
 ·obtain ⟨rfl,hQ⟩:=hr
  wp_walk
  exact hQ
theorem vk7 {s:Shared} {us:List Value} {Q:Value->Shared->Prop} (X:K.In s.heap) (hc:xcIn K C bm=true) (hi:PySem.W.findIn K (.ref C) "__init__" = some (some (.ref fI))) (hf:PySem.W.isFn K (.ref fI)=true) (hl:us.length<=sizeLine)
  (hq:∀ h' e,Heap.MadeExcOf s.heap h' e (.ref C) us->s.heap.objs.size<=e->wpAny (model prog w) (A.under (.builtin "type.__call__" ⟨.ref C::us,[]⟩)) (call (.ref fI) (.ref e::us)) (fun r s'=>r=.none /\ Q (.ref e) s') E { s with heap:=h' }) :
  wpAny (model prog w) A (call (.ref C) us) Q E s:=by
 obtain ⟨⟨nm,q,N,bs,sn,sub,ab,col,dd,k0,k1,k2,k3,k5,hC⟩,T⟩:=ug7 X hc;obtain ⟨h,g,d,t,os⟩:=s;have t1:=tc_lookup;have t2:=tc_bind (.ref C);have t3:(⟨h,g,d,t,os⟩:Shared).TypeIs (.ref C) "type" := ⟨_,hC,rfl⟩;refine wpAny_call (codeAny_of_tree ?_)
 show wpAny _ _ (callAny (.ref C) _) _ _ _
 repeat (any_goals (first | assumption | with_reducible refine wpAny_loadPart_at hC ?_ | wp_step))
 exact And.intro rfl (codeAny_call_builtin_at (Code.quiet_builtin _ (by decide)) entry_typeCall (wpAny_check_type_call_sub hC (vb3 X hc hi hf hl fun h' e hm le=>hq h' e hm le)))
end
structure FlyO (lim:Nat) (H:Hp) (a C:Addr) (dx:Option Addr) (h:Heap) (oe:Obj) (vs:Array Value):Prop where
 la:lim<=a
 ha:H a=none
 ge:h.get? a=some oe
 cl:oe.cls=.ref C
 di:oe.dict=dx
 da:oe.data=.fields vs
structure FlyT (lim:Nat) (H:Hp) (a T:Addr) (h:Heap) (v:Value) (oT:Obj) (ts:Array Value):Prop where
 lt:lim<=T
 ne:T ≠ a
 hT:H T=none
 gT:h.get? T=some oT
 dT:oT.data=.fields ts
 t3:ts[3]?=some v
def Fly (fl:Value->Prop) (lim:Nat) (H:Hp) (a C:Addr) (dx:Option Addr) (h:Heap):Prop :=
 ∃ oe vs T oT ts v,FlyO lim H a C dx h oe vs /\ vs[1]?=some (.ref T) /\ FlyT lim H a T h v oT ts /\ fl v
def FlyN (lim:Nat) (H:Hp) (a C:Addr) (dx:Option Addr) (h:Heap):Prop:=∃ oe vs,FlyO lim H a C dx h oe vs /\ vs[1]?=some .none
theorem Fly.imp {f g:Value->Prop} {lim:Nat} {H:Hp} {a C:Addr} {dx:Option Addr} {h:Heap} (x:Fly f lim H a C dx h) (k:∀ v,f v->g v):Fly g lim H a C dx h:=by
 obtain ⟨oe,vs,T,oT,ts,v,o,e,t,z⟩:=x;exact ⟨oe,vs,T,oT,ts,v,o,e,t,k v z⟩
theorem FlyO.low {lim lim':Nat} {H:Hp} {a C:Addr} {dx:Option Addr} {h:Heap} {oe:Obj} {vs:Array Value} (x:FlyO lim H a C dx h oe vs) (l:lim'<=lim):FlyO lim' H a C dx h oe vs:=⟨Nat.le_trans l x.la,x.ha,x.ge,x.cl,x.di,x.da⟩
theorem Fly.low {f:Value->Prop} {lim lim':Nat} {H:Hp} {a C:Addr} {dx:Option Addr} {h:Heap} (x:Fly f lim H a C dx h) (l:lim'<=lim):Fly f lim' H a C dx h:=by
 obtain ⟨oe,vs,T,oT,ts,v,o,e,t,z⟩:=x;exact ⟨oe,vs,T,oT,ts,v,o.low l,e,⟨Nat.le_trans l t.lt,t.ne,t.hT,t.gT,t.dT,t.t3⟩,z⟩
section
variable {M:Model} {A:Around} {E:Value->Shared->Prop} {s:Shared}
theorem ua4 {base:Heap} {env:Env} {outer:List Env} {L a:Addr} {oe:Obj} {vs:Array Value} {head:Value} {had:Bool} {Q:Unit->Shared->Prop}
  (hfr:A.frames=some (env::outer)) (hl:s.heap.FunFrames base (env::outer)) (hf:env.frame=some L) (ha:s.heap.get? a=some oe) (hd:oe.data=.fields vs) (hz:1 < vs.size)
  (k:∀ (h':Heap) (oT:Obj) (ts:Array Value),(∀ b o,b ≠ a->b ∉ frs (env::outer)->s.heap.get? b=some o->h'.get? b=some o)->(∀ b o,b ≠ a->s.heap.get? b=some o->∃ sl,h'.get? b=some { o with slots:=sl }) ->
   h'.get? a=some (oe.mapFields (·.setIfInBounds 1 (.ref s.heap.objs.size)))->h'.get? s.heap.objs.size=some oT->oT.data=.fields ts->ts[3]?=some (rawInt L)->Q () { s with heap:=h' }) :
  wpAny M A (do let x <- frameOf env;let pl <- entryPlaceOf L had;let b <- EntryCells.newEntry head x .none (rawInt L) .none pl;setField (.ref a) 1 b) Q E s:=by
 have na:a ∉ frs (env::outer):=fun hm=>by
  obtain ⟨_,o,ho,nf⟩:=hl.mem hm;rw [ha] at ho;cases ho;exact nf vs hd
 refine wpAny_bind (wpAny_frameOf_fun hfr hl hf fun h1 hs=>wpAny_bind (wpAny_entryPlaceOf fun pl hp=>?_));have ha1:h1.get? a=some oe:=by rw [hs.2.1 a na];exact ha
 have z1:h1.objs.size=s.heap.objs.size:=hs.1;unfold EntryCells.newEntry newFields;refine wpAny_bind (wpAny_newObj_type (wpAny_setField (Heap.get?_push_of_some _ ha1) hd hz ?_) (hp.sizeOk5 _ _ _ _ _));rw [<- z1] at k;have nT:h1.objs.size ≠ a:=Nat.ne_of_gt (Heap.lt_size ha1);have up:∀ b o,b ≠ a->h1.get? b=some o->((h1.push { cls:=.type "traceback",dict:=none,data:=.fields ([head,.ref L,.none,rawInt L,.none]++(if pl.isEmpty then List.replicate 6 Value.none else pl)).toArray }).update a (Obj.mapFields (·.setIfInBounds 1 (Value.ref h1.objs.size)))).get? b=some o :=
  fun b o n e=>(Heap.get?_update_other _ _ (Ne.symm n)).trans (Heap.get?_push_of_some _ e)
 refine k _ { cls:=.type "traceback",dict:=none,data:=.fields ([head,.ref L,.none,rawInt L,.none]++(if pl.isEmpty then List.replicate 6 Value.none else pl)).toArray } _ (fun b o n nb e=>up b o n ?_) (fun b o n e=>?_) ?_ ?_ rfl ?_
 ·rw [hs.2.1 b nb];exact e
 ·obtain ⟨sl,q⟩:=hs.2.2 b o e
  exact ⟨sl,up b _ n q⟩
 ·exact Heap.get?_update_self _ (Heap.get?_push_of_some _ ha1) (Obj.isFreed_of_fields (Obj.data_mapFields hd _))
 ·rw [Heap.get?_update_other _ _ (Ne.symm nT)]
  exact Heap.get?_push_size h1 rfl
 ·simp
end
section
variable {X:Cx} {pins:List (Addr × Obj)} {σ:St} {H:Hp} {s:Shared} {a C T:Addr} {dx:Option Addr} {lim:Nat}
theorem Inv.rec_ne (I:Inv X pins σ H s) {o:Obj} {vs:Array Value} (h:s.heap.get? a=some o) (hd:o.data=.fields vs):a ≠ X.env.locals /\ (∀ x c,X.env.cells.lookup x=some c->c ≠ a) /\ a ∉ X.fs:=by
 refine ⟨fun e=>?_,fun x c e z=>?_,fun hb=>?_⟩
 ·obtain ⟨m,⟨o',es,ep,ho,hd',_⟩,_⟩:=I.loc
  rw [<- e,h] at ho;cases ho;rw [hd] at hd';cases hd'
 ·obtain ⟨v,o',ho,hd'⟩:=I.cell x c e
  rw [z,h] at ho;cases ho;rw [hd] at hd';cases hd'
 ·obtain ⟨_,o',ho,hd'⟩:=I.funs.mem hb
  rw [h] at ho;cases ho;exact hd' vs hd
theorem Inv.noted {h':Heap} {ch:List Addr} (I:Inv X pins σ H s) (hs:X.stack=X.env::X.outer) (hf:X.env.frame=some X.env.locals) (hc:∀ b ∈ ch,X.s₀.heap.objs.size<=b /\ H b=none /\ (∀ p ∈ X.pn++pins,p.1 ≠ b) /\ (∀ o,s.heap.get? b=some o->∃ vs,o.data=.fields vs) /\ ∃ o,s.heap.get? b=some o)
  (k:∀ b o,b ∉ ch->b ∉ frs (X.env::X.outer)->s.heap.get? b=some o->h'.get? b=some o) (sl:∀ b o,b ∉ ch->s.heap.get? b=some o->∃ sl,h'.get? b=some { o with slots:=sl }):Inv X pins σ H { s with heap:=h' }:=by
 have fr:∀ b,b ∈ frs (X.env::X.outer) ↔ b=X.env.locals \/ b ∈ X.fs:=fun b=>by
  unfold Cx.fs frs;rw [List.filterMap_cons,hf];exact List.mem_cons
 have hcc:∀ b ∈ ch,b ≠ X.env.locals /\ (∀ x c,X.env.cells.lookup x=some c->c ≠ b) /\ b ∉ X.fs:=fun b hb=>by
  obtain ⟨_,_,_,f,o,e⟩:=hc b hb;obtain ⟨vs,d⟩:=f o e;exact I.rec_ne e d
 have lc:X.env.locals ∉ ch:=fun z=>(hcc _ z).1 rfl
 refine I.step (g':=s.gens) (t':=s.toks) (d':=s.drawn) (ch:=ch) (fun b hb=>⟨.inr (hc b hb).1,(hcc b hb).1,(hcc b hb).2.1,(hc b hb).2.2.1⟩) (fun b o n1 n2 n3 e n=>k b o n3 (fun z=>((fr b).mp z).elim n1 n2) e)
  (fun b o n1 n2 n3 e n=>sl b o n3 e) (fun _ _ _ _ n=>n) (fun b o n e=>let ⟨_,q⟩:=sl b o n e;⟨_,q⟩) (fun _ _ e=>e) (fun _ _ _ e=>e) (fun b ps e=>⟨#[],by rw [e];simp⟩) (fun m hm=>?_) (fun b u e=>?_) I.bare
 ·obtain ⟨o,es,ep,ho,r⟩:=hm
  obtain ⟨sl',q⟩:=sl _ o lc ho;exact ⟨_,es,ep,q,r⟩
 ·have nb:∀ c u,H c=some u->c ∉ ch /\ c ∉ frs (X.env::X.outer):=fun c u q=>by
   refine ⟨fun z=>?_,fun z=>?_⟩
   ·rw [(hc c z).2.1] at q;cases q
   ·rw [I.stkFree c (by rw [hs];exact z)] at q;cases q
  refine (I.hok b u e).stay (fun c v hc' q=>?_) (fun _ q=>q) fun _ _ q=>q
  rcases hc' with z | z
  ·subst z;exact k c v (nb c u e).1 (nb c u e).2 q
  ·exact k c v (nb c _ z).1 (nb c _ z).2 q
theorem FlyO.moved {oe oe':Obj} {vs vs':Array Value} {h h':Heap} (x:FlyO lim H a C dx h oe vs) (e:h'.get? a=some oe') (c:oe'.cls=oe.cls) (d:oe'.dict=oe.dict) (v:oe'.data=.fields vs'):FlyO lim H a C dx h' oe' vs' :=
 ⟨x.la,x.ha,e,c.trans x.cl,d.trans x.di,v⟩
theorem u41 (f:Array Value->Array Value) (o:Obj):(o.mapFields f).dict=o.dict:=by
 unfold Obj.mapFields;split <;> rfl
theorem uc2 {M:Model} {E:Value->Shared->Prop} {Q:Unit->Shared->Prop} (I:Inv X pins σ H s) (hs:X.stack=X.env::X.outer) (hf:X.env.frame=some X.env.locals) (hl:X.s₀.heap.objs.size<=lim) (hp:∀ p ∈ X.pn++pins,p.1 < lim)
  (F:FlyN lim H a C dx s.heap \/ Fly (fun v=>v=.none \/ v=rawInt X.env.locals) lim H a C dx s.heap)
  (k:∀ h',Inv X pins σ H { s with heap:=h' }->Fly (fun v=>v=rawInt X.env.locals) lim H a C dx h'->Q () { s with heap:=h' }):wpAny M X.A (noteFrame (.ref a) X.env) Q E s:=by
 have hfr:X.A.frames=some (X.env::X.outer):=by rw [<- hs];exact I.ok.frames
 have hFF:s.heap.FunFrames X.base (X.env::X.outer):=by rw [<- hs];exact I.stack
 have pn:∀ b,lim<=b->∀ p ∈ X.pn++pins,p.1 ≠ b:=fun b l p h e=>absurd (hp p h) (by rw [e];exact Nat.not_lt.mpr l)
 unfold noteFrame;simp only [hf]
 rcases F with ⟨oe,vs,o,v1⟩ | ⟨oe,vs,T,oT,ts,v,o,v1,t,fl⟩
 ·refine wpAny_bind (wpAny_field o.ge o.da v1 ?_)
  rw [if_neg (by decide)];refine ua4 hfr hFF hf o.ge o.da (Array.getElem?_eq_some_iff.mp v1).1 fun h' oT ts k1 k2 e1 e2 e3 e4=>k h' ?_ ?_
  ·refine I.noted hs hf (ch:=[a]) (fun b hb=>?_) (fun b o' n1 n2 e=>k1 b o' (by simpa using n1) n2 e) fun b o' n1 e=>k2 b o' (by simpa using n1) e
   have hb:b=a:=by simpa using hb
   subst hb;exact ⟨Nat.le_trans hl o.la,o.ha,pn b o.la,fun o' e=>by rw [o.ge] at e;cases e;exact ⟨_,o.da⟩,_,o.ge⟩
  ·refine ⟨_,_,s.heap.objs.size,oT,ts,_,o.moved e1 (Obj.cls_mapFields _ _) (u41 _ _) (Obj.data_mapFields o.da _),by simp [(Array.getElem?_eq_some_iff.mp v1).1],⟨Nat.le_trans o.la (Nat.le_of_lt (Heap.lt_size o.ge)),Nat.ne_of_gt (Heap.lt_size o.ge),I.hok.fresh (Nat.le_refl _),e2,e3,e4⟩,rfl⟩
 ·refine wpAny_bind (wpAny_field o.ge o.da v1 ?_)
  rw [if_pos (show (Value.ref T != Value.none)=true from by simp)];refine wpAny_bind (wpAny_field t.gT t.dT t.t3 ?_)
  rcases fl with rfl | rfl
  ·rw [if_neg (show ¬ ((Value.none == rawInt X.env.locals)=true) from by simp [rawInt])]
   refine wpAny_bind (wpAny_setField t.gT t.dT (Array.getElem?_eq_some_iff.mp t.t3).1 ?_);have oth:∀ b,b ≠ T->(s.heap.update T (Obj.mapFields (·.setIfInBounds 3 Value.none))).get? b=s.heap.get? b:=fun b hb=>Heap.get?_update_other _ _ (Ne.symm hb)
   have z:(s.heap.update T (Obj.mapFields (·.setIfInBounds 3 Value.none))).objs.size=s.heap.objs.size:=Heap.size_after_update ..;have nr:∀ b o',s.heap.get? b=some o'->(∀ vs,o'.data ≠ .fields vs)->b ≠ T:=fun b o' e nf q=>by rw [q,t.gT] at e;cases e;exact nf ts t.dT
   have hFF2:(s.heap.update T (Obj.mapFields (·.setIfInBounds 3 Value.none))).FunFrames X.base (X.env::X.outer):=hFF.of_keeps fun b o' e nf=>⟨o',(oth b (nr b o' e nf)).trans e,rfl⟩
   refine ua4 hfr hFF2 hf ((oth a (Ne.symm t.ne)).trans o.ge) o.da (Array.getElem?_eq_some_iff.mp v1).1 fun h' oT2 ts2 k1 k2 e1 e2 e3 e4=>k h' ?_ ?_
   ·refine I.noted hs hf (ch:=[a,T]) (fun b hb=>?_) (fun b o' n1 n2 e=>?_) fun b o' n1 e=>?_
    ·have hb:b=a \/ b=T:=by simpa using hb
     rcases hb with rfl | rfl
     ·exact ⟨Nat.le_trans hl o.la,o.ha,pn b o.la,fun o' e=>by rw [o.ge] at e;cases e;exact ⟨_,o.da⟩,_,o.ge⟩
     ·exact ⟨Nat.le_trans hl t.lt,t.hT,pn b t.lt,fun o' e=>by rw [t.gT] at e;cases e;exact ⟨_,t.dT⟩,_,t.gT⟩
    ·have n1:b ≠ a /\ b ≠ T:=by simpa using n1
     exact k1 b o' n1.1 n2 ((oth b n1.2).trans e)
    ·have n1:b ≠ a /\ b ≠ T:=by simpa using n1
     exact k2 b o' n1.1 ((oth b n1.2).trans e)
   ·have la:=Heap.lt_size o.ge
    rw [z] at e1 e2;exact ⟨_,_,s.heap.objs.size,oT2,ts2,_,o.moved e1 (Obj.cls_mapFields _ _) (u41 _ _) (Obj.data_mapFields o.da _),by simp [(Array.getElem?_eq_some_iff.mp v1).1],⟨Nat.le_trans o.la (Nat.le_of_lt la),Nat.ne_of_gt la,I.hok.fresh (Nat.le_refl _),e2,e3,e4⟩,rfl⟩
  ·rw [if_pos (show (rawInt X.env.locals == rawInt X.env.locals)=true from by simp)]
   exact wpAny_pure (k s.heap I ⟨oe,vs,T,oT,ts,_,o,v1,t,rfl⟩)
theorem u59 {M:Model} {A:Around} {E:Value->Shared->Prop} {Q:Unit->Shared->Prop} {fl:Value->Prop} {fr:Option Addr} (I:Inv X pins σ H s) (hs:X.stack=X.env::X.outer) (hf:X.env.frame=some X.env.locals) (hl:X.s₀.heap.objs.size<=lim) (hp:∀ p ∈ X.pn++pins,p.1 < lim)
  (F:Fly fl lim H a C dx s.heap) (k:∀ h',Inv X pins σ H { s with heap:=h' }->Fly (fun v=>v=fr.elim .none fun f=>rawInt f) lim H a C dx h'->Q () { s with heap:=h' }):wpAny M A (setFlight (.ref a) fr) Q E s:=by
 obtain ⟨oe,vs,T,oT,ts,v,o,v1,t,_⟩:=F;unfold setFlight;refine wpAny_bind (wpAny_field o.ge o.da v1 ?_);rw [if_pos (show (Value.ref T != Value.none)=true from by simp)];have l3:=(Array.getElem?_eq_some_iff.mp t.t3).1;refine wpAny_setField t.gT t.dT l3 (k _ ?_ ?_)
 ·refine I.noted hs hf (ch:=[T]) (fun b hb=>?_) (fun b o' n1 n2 e=>?_) fun b o' n1 e=>⟨o'.slots,?_⟩
  ·have hb:b=T:=by simpa using hb
   subst hb;exact ⟨Nat.le_trans hl t.lt,t.hT,fun p h e=>absurd (hp p h) (by rw [e];exact Nat.not_lt.mpr t.lt),fun o' e=>by rw [t.gT] at e;cases e;exact ⟨_,t.dT⟩,_,t.gT⟩
  ·exact (Heap.get?_update_other _ _ (Ne.symm (by simpa using n1))).trans e
  ·exact (Heap.get?_update_other _ _ (Ne.symm (by simpa using n1))).trans e
 ·exact ⟨oe,vs,T,_,_,_,o.moved ((Heap.get?_update_other _ _ t.ne).trans o.ge) rfl rfl o.da,v1,⟨t.lt,t.ne,t.hT,Heap.get?_update_self _ t.gT (Obj.isFreed_of_fields (Obj.data_mapFields t.dT _)),Obj.data_mapFields t.dT _,by simp [l3]⟩,rfl⟩
end
end L2
namespace L2
open PySem PySem.Spec PyProof.Rows PySem.W Builtin Builtin.ObjectAttr
set_option maxHeartbeats 4000000
theorem u80 {K:Frag} {C:Addr} {bm:List Value} (e:xcIn K C bm=true):∃ cd,clsIn K C=some cd /\ cd.mro=.ref C::bm /\ cd.hasDict=true:=by
 unfold xcIn at e;unfold clsIn;split at e
 ·rename_i dd cd sl ho
  split at e
  ·rename_i B r k0 k1 k2 k3 i k5 hm hs
   simp only [Bool.and_eq_true,beq_iff_eq,Bool.not_eq_true'] at e;obtain ⟨⟨⟨⟨⟨rfl,rfl⟩,rfl⟩,hd⟩,hl⟩,ht⟩:=e;exact ⟨cd,by rw [ho],hm,hd⟩
  ·cases e
 ·cases e
section
variable {prog:Program} {w:World} {A:Around} {E:Value->Shared->Prop} {K:Frag} {C L x:Addr} {o:Obj} {vs:Array Value} {name:Str} {s:Shared}
theorem ur6 (self:Value) (C L:Addr):refuseLoop self "__setattr__" (.ref C::.ref L::VM)=pure ():=by
 rw [refuseLoop_ref,refuseLoop_ref];exact PySem.F.store_ValueError.passes self
theorem uq4 {M:Model} {h:Heap} (X:K.In h) (hc:xcIn K C (.ref L::VM)=true) (b:Value):Looks M h (isSubtype (.ref C) b) ((Value.ref C::.ref L::VM).contains b):=by
 obtain ⟨cd,c1,c2,c3⟩:=u80 hc;exact looks_mroIn X (by unfold mroIn;rw [c1,Option.bind_some,c2];rfl)
theorem u85 {M:Model} {h:Heap} (hx:h.get? x=some o) (hcl:o.cls=.ref C):Looks M h (typeOf (.ref x)) (.ref C):=hcl ▸ (Looks.ld hx).andThen .now
theorem vp2 {v:Value} {Q:Unit->Shared->Prop} (X:K.In s.heap) (hc:xcIn K C (.ref L::VM)=true) (hsa:findIn K (.ref C) "__setattr__" = some (some (.builtin "object.__setattr__"))) (hna:findIn K (.ref C) name=some none)
  (hx:s.heap.get? x=some o) (hcl:o.cls=.ref C) (hdi:o.dict=none) (hda:o.data=.fields vs)
  (k:∀ h' tk,(∀ b ob,b ≠ x->s.heap.get? b=some ob->h'.get? b=some ob)->h'.get? x=some { o with dict:=some s.heap.objs.size }->h'.Ns1 s.heap.objs.size (fun y=>if y=name then some v else none)->Q () { s with heap:=h',toks:=tk }) :
  wpAny (model prog w) A (setAttr (.ref x) name v) Q E s:=by
 have SF:=PySem.F.store_ValueError;obtain ⟨cd,c1,c2,c3⟩:=u80 hc;obtain ⟨h,g,d,t,os⟩:=s;have T:=u85 (M:=model prog w) hx hcl;have hT:Looks (model prog w) h (isInstance (.ref x) (.type "object")) true:=T.andThen (by
  have:=uq4 (M:=model prog w) X hc (.type "object")
  rwa [show (Value.ref C::.ref L::VM).contains (.type "object")=true from by simp] at this)
 have hm:Looks (model prog w) h (mroOf (.ref C)) (.ref C::.ref L::VM):=c2 ▸ (looks_clsIn X c1).andThen .now;unfold setAttr callSpecial? specialOf;refine wpAny_bind (wpAny_mkText (wpAny_bind (wpAny_bind (wpAny_bind (T _ _ _ _ (fun _ _ e=>e) (looks_findIn X hsa _ _ _ _ (fun _ _ e=>e) ?_))))));refine wpAny_holding (wpAny_bind ?_);rw [SF.slot.bind];refine wpAny_pure (wpAny_bind (wpAny_call ?_));refine codeAny_call_builtin SF.slot.plain SF.entry ?_;refine @check_slot (model prog w) _ _ ⟨h,g,d,t+1,os⟩ "object.__setattr__" "object" "__setattr__" (.ref x) [.str name t,v] [] _ SF.kind SF.split hT (SF.args (.ref x) (.str name t) v) ?_
 show wpAny _ _ (Builtin.«object.__setattr__» ⟨[.ref x,.str name t,v],[]⟩) _ _ _
 rw [osa_eq,refuse_eq];refine wpAny_bind (wpAny_bind (T _ _ _ _ (fun _ _ e=>e) (wpAny_bind (hm _ _ _ _ (fun _ _ e=>e) ?_))));rw [ur6];refine wpAny_pure (wpAny_bind (T _ _ _ _ (fun _ _ e=>e) (wpAny_bind (looks_findIn X hna _ _ _ _ (fun _ _ e=>e) (wpAny_bind (wpAny_pure ?_))))));refine wpAny_bind (wpAny_pure (wpAny_bind (wpAny_bind (wpAny_loadPart hx ?_))));rw [hcl];refine wpAny_bind (looks_clsIn X c1 _ _ _ _ (fun _ _ e=>e) ?_);rw [c3,if_neg (by decide)];have hx:h.get? x=some o:=hx;have nx:x ≠ h.objs.size:=Nat.ne_of_lt (Heap.lt_size hx);have hx1:(h.push { cls:=.type "dict",data:=.dict #[] }).get? x=some o:=Heap.get?_push_of_some _ hx;rw [hdi];dsimp only;rw [if_neg (by simp [typeHasDict])];rw [hda];refine wpAny_bind (wpAny_alloc' (wpAny_bind (wpAny_update' hx1 (wpAny_pure ?_))));have e0:((h.push { cls:=.type "dict",data:=.dict #[] }).update x fun o=>{ o with dict:=some h.objs.size }).get? h.objs.size=some { cls:=.type "dict",data:=.dict #[] }:=(Heap.get?_update_other _ _ nx).trans (Heap.get?_push_at rfl rfl);have n0:((h.push { cls:=.type "dict",data:=.dict #[] }).update x fun o=>{ o with dict:=some h.objs.size }).Ns h.objs.size (fun _=>none):=⟨_,#[],_,e0,rfl,fun e he=>absurd he (by simp),fun _=>rfl⟩
 show wpAny _ _ (storeInDict h.objs.size (.str name t) name v) _ _ _
 unfold storeInDict newKeyGuard;refine wpAny_bind (wpAny_pure (wpAny_bind (wpAny_nsSet1 (Heap.Ns1.of_empty n0) fun h' n1 sb=>?_)));obtain ⟨oD,esD,epD,g1,g2,g3⟩:=n1.count (Within.cons name v Within.nil);refine wpAny_bind (wpAny_lookBehind g1 (by rw [g2];exact pastItsLine_dict (Nat.le_trans g3 (by rw [List.length_cons,List.length_nil,sizeLine_eq];omega))) ?_)
 wp_walk
 refine k h' _ (fun b ob nb e=>?_) ?_ ?_
 ·exact (sb.2 b (Nat.ne_of_lt (Heap.lt_size e))).trans ((Heap.get?_update_other _ _ (Ne.symm nb)).trans (Heap.get?_push_of_some _ e))
 ·refine (sb.2 x nx).trans (Heap.get?_update_self _ hx1 ?_)
  exact Obj.isFreed_of_fields (vs:=vs) hda
 ·exact n1
end
section
variable {prog:Program} {w:World} {A:Around} {E:Value->Shared->Prop} {K:Frag} {C L x:Addr} {o:Obj} {vs:Array Value} {name:Str} {h:Heap} {g:Array GenState} {d:Drawn} {t:Nat} {os:OsState}
theorem u97 {M:Model} {nv:Value} {Q:Unit->Shared->Prop} (X:K.In h) (hc:xcIn K C (.ref L::VM)=true) (hx:h.get? x=some o) (hcl:o.cls=.ref C) (hq:Q () ⟨h,g,d,t,os⟩) :
  wpAny M A (checkBuiltinCall "BaseException.__getattribute__" ⟨[.ref x,nv],[]⟩) Q E ⟨h,g,d,t,os⟩:=by
 have hT:Looks M h (isInstance (.ref x) (.type "BaseException")) true:=(u85 hx hcl).andThen (by
  have:=uq4 (M:=M) X hc (.type "BaseException")
  rwa [show (Value.ref C::.ref L::VM).contains (.type "BaseException")=true from by simp] at this)
 exact @check_slot M A E ⟨h,g,d,t,os⟩ "BaseException.__getattribute__" "BaseException" "__getattribute__" (.ref x) [nv] [] Q (by decide) (by decide) hT (PySem.F.args_bexc_ga (.ref x) nv) hq
theorem vw7 {v:Value} {od:Obj} {dx:Addr} {expr:Bool} {Q:Value->Shared->Prop} (X:K.In h) (hc:xcIn K C (.ref L::VM)=true) (hga:findIn K (.ref C) "__getattribute__" = some (some (.builtin "BaseException.__getattribute__"))) (hgt:findIn K (.ref C) "__getattr__" = some none)
  (hna:findIn K (.ref C) name=some none) (hx:h.get? x=some o) (hcl:o.cls=.ref C) (hda:o.data=.fields vs) (hdi:o.dict=some dx) (hd:h.get? dx=some od) (hl:lookIn name od=some (some v)) (hh:handedIn v=true) (hq:Q v ⟨h,g,d,t+1,os⟩) :
  wpAny (model prog w) A (getAttr (.ref x) name expr) Q E ⟨h,g,d,t,os⟩:=by
 have GA:=PySem.F.attr_ValueError.ga;obtain ⟨cd,c1,c2,c3⟩:=u80 hc;have I:InstAt h x o C (some od):=⟨hx,hcl,by unfold notCls;rw [hda],by rw [hdi];exact hd⟩;have hf:findObj K C (some od) name=some (.value v):=by
  unfold findObj PySem.W.ownOf;rw [c1,Option.bind_some,hna,Option.bind_some];simp only [Option.bind_some,c3,if_true];rw [hl];rfl
 have T:=u85 (M:=model prog w) hx hcl;have L1:=looks_findIn (M:=model prog w) X hga;have L2:=looks_findIn (M:=model prog w) X hgt;have L3:=looks_find (M:=model prog w) X I hf;have f3:=GA.bind (.ref x);have hx0:(expr && onTheHeap (Value.builtin "BaseException.__getattribute__"))=false:=by cases expr <;> rfl
 have hx2:(Value.builtin "BaseException.__getattribute__" == Value.builtin "object.__getattribute__")=false:=by decide
 have hx1:(onTheHeap (Value.ref C) && Value.builtin "BaseException.__getattribute__" == Value.builtin "object.__getattribute__")=false:=by rw [hx2];rfl
 unfold getAttr getAttrBy
 repeat (any_goals (first | assumption | with_reducible refine Looks.at (by assumption) ?_ | wp_step))
 refine codeAny_call_builtin GA.plain PySem.F.entry_bexc_ga (u97 X hc hx hcl ?_)
 show wpAny _ _ (Builtin.«object.__getattribute__» ⟨[.ref x,.str name t],[]⟩) _ _ _
 unfold Builtin.«object.__getattribute__»
 repeat (any_goals (first | assumption | with_reducible refine Looks.at (by assumption) ?_ | wp_step))
 show wpAny _ _ (handedOut v) _ _ _
 rw [handedOut_of hh];exact wpAny_pure hq
theorem vi7 {us:List Value} {Q:Value->Shared->Prop} (X:K.In h) (hc:xcIn K C (.ref L::VM)=true) (hx:h.get? x=some o) (hcl:o.cls=.ref C) (hda:o.data=.fields vs) {t0:Addr} (h0:vs[0]?=some (.ref t0)) (hl:us.length<=sizeLine)
  (k:∀ h',(∀ b ob,b ≠ x->h.get? b=some ob->h'.get? b=some ob)->h'.get? x=some (o.mapFields (·.setIfInBounds 0 (.ref h.objs.size)))->Q .none ⟨h',g,d,t,os⟩) :
  wpAny (model prog w) A (call (.builtin "ValueError.__init__") (.ref x::us)) Q E ⟨h,g,d,t,os⟩:=by
 have VF:=PySem.F.excBase_ValueError;obtain ⟨⟨nm,q,N,bs,sn,sub,ab,col,dd,k0,k1,k2,k3,k5,hC⟩,T⟩:=ug7 X hc;refine wpAny_call (codeAny_call_builtin VF.init.plain VF.initEntry (wpAny_check_init_subU VF T hC hx hcl ?_));unfold Builtin.«BaseException.__init__»
 repeat (any_goals (first | assumption | wp_step))
 rw [hda];refine wpAny_pure ?_;rw [h0];refine wpAny_pure (wpAny_bind (wpAny_setField (Heap.get?_push_of_some _ hx) hda (Array.getElem?_eq_some_iff.mp h0).1 ?_));dsimp only
 repeat (any_goals (first | assumption | wp_step))
 refine k _ (fun b ob nb e=>?_) ?_
 ·exact (Heap.get?_update_other _ _ (Ne.symm nb)).trans (Heap.get?_push_of_some _ e)
 ·exact Heap.get?_update_self _ (Heap.get?_push_of_some _ hx) (Obj.isFreed_of_fields (Obj.data_mapFields hda _))
end
end L2
namespace L2
open PySem PySem.Spec PyProof.Rows
set_option maxHeartbeats 4000000
def XN (a C:Addr) (dx:Option Addr) (h:Heap):Prop:=∃ o vs t0,h.get? a=some o /\ o.cls=.ref C /\ o.dict=dx /\ o.data=.fields vs /\ vs[0]?=some (.ref t0) /\ vs[1]?=some .none
theorem XN.stays {a C:Addr} {dx:Option Addr}:∀ h1 h2:Heap,XN a C dx h1->(∀ o,h1.get? a=some o->h2.get? a=some o)->XN a C dx h2:=fun _ _ ⟨o,vs,t0,e,r⟩ k=>⟨o,vs,t0,k _ e,r⟩
theorem XH.stays {a C:Addr} {dx:Option Addr}:∀ h1 h2:Heap,XH a C dx h1->(∀ o,h1.get? a=some o->h2.get? a=some o)->XH a C dx h2:=fun _ _ ⟨o,vs,e,r⟩ k=>⟨o,vs,k _ e,r⟩
def del (H:Hp) (a:Addr):Hp:=fun b=>if b=a then none else H b
theorem ud2 {H:Hp} {a:Addr}:del H a a=none:=by unfold del;rw [if_pos rfl]
theorem u93 {H:Hp} {a b:Addr} (h:b ≠ a):del H a b=H b:=by unfold del;rw [if_neg h]
theorem v03 {H:Hp} {a:Addr} {o:HO} (h:H a=some o):upd H a o=H:=by
 funext b;unfold upd;split
 ·rename_i e;rw [e,h]
 ·rfl
section
variable {X:Cx} {pins:List (Addr × Obj)} {σ:St} {H:Hp} {s:Shared}
theorem Inv.track {b:Addr} {o:HO} (I:Inv X pins σ H s) (hb:H b=none) (h1:X.s₀.heap.objs.size<=b) (hp:∀ p ∈ X.pn++pins,p.1 ≠ b) (hL:b ≠ X.env.locals) (hc:∀ x c,X.env.cells.lookup x=some c->c ≠ b)
  (ok:ObjOk X.prog X.w (upd H b o) s.heap b o):Inv X pins σ (upd H b o) s:=by
 have ne:∀ c u,H c=some u->c ≠ b:=fun c u e z=>by rw [z,hb] at e;cases e
 refine I.step (h':=s.heap) (g':=s.gens) (t':=s.toks) (d':=s.drawn) (ch:=[b]) (fun c hc'=>?_) (fun _ _ _ _ _ e _=>e) (fun _ o _ _ _ e _=>⟨o.slots,e⟩) (fun c o' n e z=>?_) (fun _ o' _ e=>⟨o',e⟩)
  (fun c xs e=>by rw [u05 (ne c _ e)];exact e) (fun c o' u e=>by rw [u05 (ne c _ e)];exact e) (fun c ps e=>⟨#[],by rw [u05 (ne c _ e),e];simp⟩) (fun _ m=>m) (fun c u e=>?_) I.bare
 ·have z:c=b:=by simpa using hc'
  subst z;exact ⟨.inr h1,hL,hc,hp⟩
 ·rw [u05 (by simpa using n)];exact z
 ·by_cases z:c=b
  ·subst z;rw [u12] at e;cases e;exact ok
  ·rw [u05 z] at e
   exact (I.hok c u e).stay (fun _ _ _ q=>q) (fun d q=>by rw [u05 (ne d _ q)];exact q) fun d xs q=>by rw [u05 (ne d _ q)];exact q
theorem Inv.untrack {b:Addr} {φ:Heap->Prop} (I:Inv X pins σ H s) (hb:H b=some (.ext φ)):Inv X pins σ (del H b) s:=by
 have ne:∀ c u,H c=some u->(∀ ψ,u ≠ .ext ψ)->c ≠ b:=fun c u e n z=>by rw [z,hb] at e;cases e;exact n _ rfl
 refine I.step (h':=s.heap) (g':=s.gens) (t':=s.toks) (d':=s.drawn) (ch:=[]) (fun c hc'=>nomatch hc') (fun _ _ _ _ _ e _=>e) (fun _ o _ _ _ e _=>⟨o.slots,e⟩) (fun c o' n e z=>?_) (fun _ o' _ e=>⟨o',e⟩)
  (fun c xs e=>by rw [u93 (ne c _ e (by intro _ z;cases z))];exact e) (fun c o' u e=>by rw [u93 (ne c _ e (by intro _ z;cases z))];exact e) (fun c ps e=>⟨#[],by rw [u93 (ne c _ e (by intro _ z;cases z)),e];simp⟩) (fun _ m=>m) (fun c u e=>?_) I.bare
 ·unfold del;split
  ·rfl
  ·exact z
 ·have z:c ≠ b:=fun z=>by rw [z,ud2] at e;cases e
  rw [u93 z] at e;exact (I.hok c u e).stay (fun _ _ _ q=>q) (fun d q=>by rw [u93 (ne d _ q (by intro _ z;cases z))];exact q) fun d xs q=>by rw [u93 (ne d _ q (by intro _ z;cases z))];exact q
end
def v76 (K:PySem.W.Frag) (L:Addr) (t:TA):TE:=fun σ H Q=>t σ H fun vs H1=>∃ a C rest,vs=.ref a::rest /\ H1 a=some (.ext (XN a C none)) /\ xcIn K C (.ref L::VM)=true /\ rest.length<=1000 /\ Q .non H1
def vp4 (K:PySem.W.Frag) (L:Addr) (ta tv:TE) (f:Str):TS:=fun D σ H=>tv σ H fun y H1=>ta σ H1 fun x H2=>∃ a C,x=.ref a /\ H2 a=some (.ext (XN a C none)) /\ xcIn K C (.ref L::VM)=true /\
 PySem.W.findIn K (.ref C) "__setattr__" = some (some (.builtin "object.__setattr__")) /\ PySem.W.findIn K (.ref C) f=some none /\ ∀ dx o,H2 dx=none->dx ≠ a->D.nx σ (upd (upd H2 a (.ext (XN a C (some dx)))) dx (.frz o (.xd [(f,y)])))
section
variable {X:Cx} {L:Addr} {LN f:Str} {p apos pos pos':Pos} {e o value:Expr} {es:List Expr} {t:TA} {ta tv:TE}
theorem v19 {pl:Sem Bool} (hg:Gl X LN) (hm:X.mg LN=some (.ref L)) (hsp:PySem.W.specialIn X.K (.ref L) "__getattribute__" = some (some (.builtin "type.__getattribute__"))) (hr:PySem.W.readsIn X.K L (.type "type")=true)
  (hfc:PySem.W.findCls X.K (.ref L) (.type "type") "__init__" = some (.val (.builtin "ValueError.__init__"))) (ha:PA X (e::es) t) (hdb:(LN == ("__debug__" : Str))=false:=by decide)
  (hst:starEach (e::es) X.env=(false,eval e X.env)::starEach es X.env:=by rfl) (hpl:(backTo pos (starEach es X.env)).any (·.1)=false:=by rfl)
  (ht:eval (.Call (.Attribute (.Name LN p) "__init__" apos) (e::es) [] pos) X.env=(do
   let ov <- eval (.Name LN p) X.env
   standAt apos.atName
   let (f,first) <- holding [ov] (getMethod ov "__init__" pl)
   callWith pos f first (backTo pos (starEach (e::es) X.env)) (backToKw pos (keywordEach [] X.env))):=by rfl) :
  PE X (.Call (.Attribute (.Name LN p) "__init__" apos) (e::es) [] pos) (v76 X.K L t):=by
 intro pins s σ H Q I h;refine PySem.W.methodCall_KW (pl:=pl) (u75 I hg hm (PySem.W.method_cls I.kIn hsp (PySem.W.cls_value I.kIn hr hfc rfl ?_)) hdb) ht;have hA:=ha pos pins { s with toks:=s.toks+1 } σ H _ (I.tok _) h
 rw [hst] at hA ⊢;refine Calls.callWith_builtin (by show (false || (backTo pos (starEach es X.env)).any (·.1))=false;rw [hpl] <;> rfl) (Calls.evalArgs_plain ?_);refine thn hA ?_;rintro us s2 ⟨vs,H2,I2,r2,a,C,rest,rfl,h2,hc,hl,q⟩;obtain ⟨o,ws,t0,g1,g2,g3,g4,g5,g6⟩:=(I2.hok a _ h2).1;cases r2 with
 | cons r r' =>
  cases r;obtain ⟨hh,gg,dd,tt,oo⟩:=s2;refine vi7 I2.kIn hc g1 g2 g4 g5 (by rw [<- r'.length,sizeLine_eq];omega) fun h' k1 k2=>?_
  have d2:=Obj.data_mapFields g4 (·.setIfInBounds 0 (Value.ref hh.objs.size));have I3:=I2.write (x:=a) (e:=a) (o:=.ext (XN a C none)) (t':=tt) (by rw [h2];exact True.intro) (.inl rfl) (fun b u nb e=>k1 b u nb e) ⟨_,k2⟩
   ⟨⟨_,_,hh.objs.size,k2,(Obj.cls_mapFields _ _).trans g2,(u41 _ _).trans g3,d2,by simp [(Array.getElem?_eq_some_iff.mp g5).1],by rw [Array.getElem?_setIfInBounds_ne (by decide)];exact g6⟩,⟨_,k2⟩,XN.stays⟩
  rw [v03 h2] at I3;exact ⟨.non,H2,I3,rfl,q⟩
theorem ve1 (ha:PE X o ta) (hv:PE X value tv) (hs:swapsWith value (some (.Attribute o f pos')) pos.line X.env=pure false:=by rfl):PS X (.Assign [.Attribute o f pos'] value pos) (vp4 X.K L ta tv f):=by
 intro pins s σ H D I h;refine plainObj_wpAny_Assign_Attribute (thn (hv pins s σ H _ I h) ?_) hs;rintro u s1 ⟨y,H1,I1,ry,q⟩;refine thn (ha pins s1 σ H1 _ I1 q) ?_;rintro ov s2 ⟨x,H2,I2,rx,a,C,rfl,h2,hc,hsa,hna,q2⟩;cases rx;obtain ⟨ob,ws,t0,g1,g2,g3,g4,g5,g6⟩:=(I2.hok a _ h2).1;refine vp2 I2.kIn hc hsa hna g1 g2 g3 g4 fun h' tk k1 k2 n1=>?_
 have la:=Heap.lt_size g1;have nd:s2.heap.objs.size ≠ a:=Nat.ne_of_gt la;have I3:=I2.write (x:=a) (e:=a) (o:=.ext (XN a C (some s2.heap.objs.size))) (t':=tk) (by rw [h2];exact True.intro) (.inl rfl) (fun b u' nb e=>k1 b u' nb e) ⟨_,k2⟩
  ⟨⟨_,_,t0,k2,g2,rfl,g4,g5,g6⟩,⟨_,k2⟩,XN.stays⟩
 have fr:H2 s2.heap.objs.size=none:=I2.hok.fresh (Nat.le_refl _);have lc:=I2.lt;obtain ⟨od,es',ep,m1,m2⟩:=id n1;have I4:=I3.track (b:=s2.heap.objs.size) (o:=.frz od (.xd [(f,y)])) (by rw [u05 nd];exact fr) I2.sz (fun p hp e=>?_) (Nat.ne_of_gt lc) (fun x c e z=>?_) ⟨m1,_,n1,fun g=>?_⟩
 ·exact ⟨σ,_,I4,q2 _ od fr nd⟩
 ·obtain ⟨e1,_⟩:=I2.pin p hp
  exact absurd (Heap.lt_size e1) (by rw [e];exact Nat.lt_irrefl _)
 ·obtain ⟨v,oc,e1,_⟩:=I2.cell x c e
  exact absurd (Heap.lt_size e1) (by rw [z];exact Nat.lt_irrefl _)
 ·show RelO (([(f,y)]:List (Str × V)).lookup g) (if g=f then some u else none)
  rw [List.lookup_cons]
  by_cases z:g=f
  ·subst z;rw [if_pos rfl,beq_self_eq_true];exact ry
  ·rw [if_neg z,beq_false_of_ne z];exact True.intro
end
section
variable {M:Model} {A:Around} {E:Value->Shared->Prop} {K:PySem.W.Frag} {L:Addr} {env:Env}
theorem v13 {s:Shared} {x:Sem Value} {Q:Flow->Shared->Prop} (hh:A.handled=none) (h:wpAny M A x (fun v s1=>∃ a C o vs,v=.ref a /\ K.In s1.heap /\ xcIn K C (.ref L::VM)=true /\ s1.heap.get? a=some o /\ o.cls=.ref C /\ o.data=.fields vs /\ vs[1]?=some .none /\ E (.ref a) s1) E s) :
  wpAny M A (raiseStmt env (some x) none) Q E s:=by
 unfold raiseStmt;refine wpAny_bind (wpAny_mono h (fun v s1 h1=>?_) fun _ _ x=>x);obtain ⟨a,C,o,vs,rfl,X,hc,g1,g2,g3,g4,q⟩:=h1;obtain ⟨⟨nm,q',N,bs,sn,sub,ab,col,dd,k0,k1,k2,k3,k5,hC⟩,T⟩:=ug7 X hc;have hcB:(Value.ref C::.ref L::VM).contains (.type "BaseException")=true:=by simp
 obtain ⟨oc,od,oda,osl⟩:=o;dsimp only at g2 g3;subst g2 g3;obtain ⟨hp,g,d,tk,os⟩:=s1
 repeat (first | with_reducible refine wpAny_loadPart_at g1 ?_ | with_reducible refine wpAny_loadPart_at hC ?_ | (with_reducible refine wpAny_isSubtype_exc hC ?_;rw [hcB]) | (with_reducible refine wpAny_field g1 rfl g4 ?_) | wp_step)
 exact wpAny_raiseNew_none hh q
end
def CX1 (P:Program) (w:World):CXT:=fun outer H s E e s'=>∃ a C dx H',e=.ref a /\ s'.os=s.os /\ AllBare s'.gens /\ Un (frs outer) [] H H' s.heap s'.heap /\ HOk P w H' s'.heap /\ Fly (fun v=>v=.none) s.heap.objs.size H' a C dx s'.heap /\ E (.ref C) dx H'
def FlyIn (X:Cx) (E:XK) (e:Value) (s:Shared):Prop:=∃ σ H a C dx,e=.ref a /\ Inv X [] σ H s /\ (FlyN X.s₀.heap.objs.size H a C dx s.heap \/ Fly (fun v=>v=.none \/ v=rawInt X.env.locals) X.s₀.heap.objs.size H a C dx s.heap) /\ E (.ref C) dx H
structure Def (X:Cx):Prop where
 st:X.stack=X.env::X.outer
 fr:X.env.frame=some X.env.locals
 pn:X.pn=[]
 ex:X.ex=[]
section
variable {X:Cx} {E:XK}
theorem Def.low (D:Def X):∀ p ∈ X.pn++([]:List (Addr × Obj)),p.1 < X.s₀.heap.objs.size:=fun p h=>by rw [D.pn] at h;exact nomatch h
theorem FlyIn.own (D:Def X):PassesOwn (model X.prog X.w) X.A X.env (FlyIn X E):=by
 rintro e s ⟨σ,H,a,C,dx,rfl,I,F,q⟩;refine uc2 I D.st D.fr (Nat.le_refl _) D.low F fun h1 I1 F1=>?_
 obtain ⟨oe,vs,T,oT,ts,v,o,v1,t,fl⟩:=id F1;refine wpAny_bind (wpAny_field o.ge o.da v1 ?_);rw [if_neg (by simp)];refine u59 I1 D.st D.fr (Nat.le_refl _) D.low F1 fun h2 I2 F2=>?_
 exact ⟨σ,H,a,C,dx,rfl,I2,.inr (F2.imp fun v e=>.inr (by rw [e,D.fr];rfl)),q⟩
theorem FlyIn.leaves (D:Def X) {e:Value} {s:Shared} {E2:Value->Shared->Prop} (F:FlyIn X E e s):wpAny (model X.prog X.w) X.A (leaving X.env e) (fun _ s'=>CX1 X.prog X.w X.outer X.H₀ X.s₀ E e s') E2 s:=by
 obtain ⟨σ,H,a,C,dx,rfl,I,F,q⟩:=F;unfold leaving;refine wpAny_bind (uc2 I D.st D.fr (Nat.le_refl _) D.low F fun h1 I1 F1=>u59 I1 D.st D.fr (Nat.le_refl _) D.low F1 fun h2 I2 F2=>?_);refine ⟨a,C,dx,H,rfl,I2.os,I2.bare,?_,I2.hok,F2,q⟩;have:=I2.base;rw [D.ex] at this;exact this
end
def u87 (C:Addr) (f:Str):Sp:=fun vs H Q _=>∃ a v,vs=[.ref a,v] /\ H a=some (.ext (XN a C none)) /\ ∀ dx o,H dx=none->dx ≠ a->Q .non (upd (upd H a (.ext (XN a C (some dx)))) dx (.frz o (.xd [(f,v)])))
def vb6 (C:Addr) (f:Str) (E:XK) (t:TA):TS:=fun _ σ H=>t σ H fun vs H1=>∃ v,vs=[v] /\ ∀ dx o,H1 dx=none->E (.ref C) (some dx) (upd H1 dx (.frz o (.xd [(f,v)])))
structure XMk (K:PySem.W.Frag) (C L fI:Addr):Prop where
 xc:xcIn K C (.ref L::VM)=true
 init:PySem.W.findIn K (.ref C) "__init__" = some (some (.ref fI))
 fn:PySem.W.isFn K (.ref fI)=true
 kp:PySem.W.keepIn K (.ref C)=true
section
variable {X:Cx} {E:XK} {k:Nat} {C L fI:Addr} {fd:FuncData} {ps:List Str} {f x:Str} {p pos cpos:Pos} {e:Expr} {t:TA}
theorem vj8 {H:Hp} {a b:Addr} {o o':HO} (hn:a ≠ b) (h:H a=none):del (upd (upd H a o) b o') a=upd H b o':=by
 funext c
 by_cases z:c=a
 ·subst z;rw [ud2,u05 hn,h]
 ·rw [u93 z]
  by_cases y:c=b
  ·subst y;rw [u12,u12]
  ·rw [u05 y,u05 z,u05 y]
theorem ur5 {pins:List (Addr × Obj)} {σ:St} {H:Hp} {s:Shared} {Q:Addr->Hp->Prop} {us:List Value} {vs:List V} {sp:Sp} (M:XMk X.K C L fI) (F:FnOk X.prog X.w X.K X.mg X.base CX0 k fI fd ps sp) (hr:Room (k+1) X.A) (hb:Binds X.K fd ps [])
  (I:Inv X pins σ H s) (r:Vals vs us) (hl:us.length<=sizeLine)
  (h:∀ a,H a=none->s.heap.objs.size<=a->sp (.ref a::vs) (upd H a (.ext (XN a C none))) (fun v H2=>v=.non /\ Q a H2) E0) :
  wpAny (model X.prog X.w) X.A (call (.ref C) us) (fun u s'=>∃ a H2,u=.ref a /\ s.heap.objs.size<=a /\ Inv X pins σ H2 s' /\ Q a H2) X.xe s:=by
 refine vk7 I.kIn M.xc M.init M.fn hl fun h' a hm le=>?_
 obtain ⟨t,g1,_,g2⟩:=hm.there;have I1:Inv X pins σ H { s with heap:=h' }:=I.kept (t':=s.toks) hm.keeps
 have ha:H a=none:=I.hok.fresh le;have I2:Inv X pins σ (upd H a (.ext (XN a C none))) { s with heap:=h' }:=by
  refine I1.track ha (Nat.le_trans I.sz le) (fun p hp z=>?_) (Nat.ne_of_gt (Nat.lt_of_lt_of_le I.lt le)) (fun x c e z=>?_) ⟨⟨_,_,t,g1,rfl,rfl,rfl,rfl,rfl⟩,⟨_,g1⟩,XN.stays⟩
  ·obtain ⟨e1,_⟩:=I.pin p hp
   exact absurd (Nat.lt_of_lt_of_le (Heap.lt_size e1) le) (by rw [z];exact Nat.lt_irrefl _)
  ·obtain ⟨v,oc,e1,_⟩:=I.cell x c e
   exact absurd (Nat.lt_of_lt_of_le (Heap.lt_size e1) le) (by rw [z];exact Nat.lt_irrefl _)
 have hq:=h a ha le;have r2:Vals (V.ref a::vs) (Value.ref a::us):=.cons rfl r;have hln:(Value.ref a::us++[]).length=ps.length:=by
  have z:=r2.length;rw [F.len _ _ _ _ hq] at z;rw [List.append_nil];exact z.symm
 have hbb:=hb { s with heap:=h' } (Value.ref a::us) I2.kIn hln
 rw [List.append_nil] at hbb;refine wpAny_call (codeAny_mono (F.run _ X.stack _ _ ⟨Value.ref a::us,[]⟩ (Value.ref a::us) _ _ E0 (hr.make C us []) (I2.env0.make C us []) hbb r2 hq) fun r' s' hq'=>?_);cases r' with
 | error e=>exact False.elim hq'
 | ok fl =>
  cases fl with
  | ret u =>
   obtain ⟨v,H',I3,rv,ev,q3⟩:=I2.after hq';subst ev;exact ⟨rv,a,H',rfl,le,I3,q3⟩
  | next=>exact False.elim hq'
  | brk=>exact False.elim hq'
  | cont=>exact False.elim hq'
def Flies (X:Cx) (E:XK):Prop:=∀ (pins:List (Addr × Obj)) (σ:St) (H:Hp) (s:Shared) (a C:Addr) (dx:Option Addr),Inv X pins σ H s->FlyN X.s₀.heap.objs.size H a C dx s.heap->E (.ref C) dx H->X.xe (.ref a) s
theorem v15 (M:XMk X.K C L fI) (F:FnOk X.prog X.w X.K X.mg X.base CX0 k fI fd ps (u87 C f)) (hr:Room (k+1) X.A) (hb:Binds X.K fd ps []) (hg:Gl X x) (hm:X.mg x=some (.ref C)) (hc:X.calm=true) (hx:Flies X E) (ha:PA X [e] t)
  (hdb:(x == ("__debug__" : Str))=false:=by decide) (he:starEach [e] X.env=(false,eval e X.env)::starEach [] X.env:=by rfl) (hpl:(backTo cpos (starEach [] X.env)).any (·.1)=false:=by rfl) :
  PS X (.Raise (some (.Call (.Name x p) [e] [] cpos)) none pos) (vb6 C f E t):=by
 intro pins s σ H D I h;rw [arm_exec_Raise];refine wpAny_bind (wpAny_standAt (v13 (K:=X.K) (L:=L) (I.ok.hd hc) (wpAny_bind ?_)));refine wpAny_Call_Name_kw (u75 I hg hm ?_ hdb);refine PySem.W.callWith_K (h₀:=X.base) I.ok.mod.kin M.kp (thn (ha cpos pins s σ H _ I h) ?_) he hpl;rintro us s1 ⟨vs,H1,I1,r,v,rfl,q⟩;refine ⟨I1.kIn,?_⟩;have hl:us.length<=sizeLine:=by rw [<- r.length,sizeLine_eq];simp
 refine thn (ur5 (Q:=fun a H2=>∃ dx o,H1 a=none /\ H1 dx=none /\ dx ≠ a /\ H2=upd (upd H1 a (.ext (XN a C (some dx)))) dx (.frz o (.xd [(f,v)]))) M F hr hb I1 r hl fun a h0 le=>?_) ?_
 ·refine ⟨a,v,rfl,u12,fun dx o h1 h2=>⟨rfl,dx,o,h0,?_,h2,?_⟩⟩
  ·rw [u05 h2] at h1;exact h1
  ·rw [vb2]
 ·rintro u s2 ⟨a,H2,rfl,le,I2,dx,o,z1,z2,z3,rfl⟩
  refine wpAny_bind (wpAny_standAt (wpAny_pure ?_));have ta:(upd (upd H1 a (.ext (XN a C (some dx)))) dx (.frz o (.xd [(f,v)]))) a=some (.ext (XN a C (some dx))):=by rw [u05 (Ne.symm z3),u12]
  obtain ⟨ob,ws,t0,g1,g2,g3,g4,g5,g6⟩:=(I2.hok a _ ta).1;refine ⟨a,C,ob,ws,rfl,I2.kIn,M.xc,g1,g2,g4,g6,?_⟩;have I3:=I2.untrack ta;rw [vj8 (Ne.symm z3) z1] at I3;exact hx pins σ _ s2 a C (some dx) I3 ⟨ob,ws,⟨Nat.le_trans I1.sz le,by rw [u05 (Ne.symm z3)];exact z1,g1,g2,g3,g4⟩,g6⟩ (q dx o z2)
end
end L2
namespace L3
open PySem PySem.Spec PyProof.Rows L2
set_option maxHeartbeats 4000000
abbrev XD:=Addr->List (Str × D)->Gp->Prop
abbrev Spx3:=List D->Gp->DK->XD->Prop
def FutX (K:PySem.W.Frag) (H:Hp) (r:XD) (E:XK):Prop:=∀ C fs G' dx ys H',Con K G' H'->Le H H'->XDict H' dx ys->RelPs K H' fs ys->r C fs G'->E (.ref C) dx H'
def lowX (K:PySem.W.Frag) (r:XD):XK:=fun cls dx H=>∃ C fs ys G,cls=.ref C /\ Con K G H /\ XDict H dx ys /\ RelPs K H fs ys /\ r C fs G
def ua5 (K:PySem.W.Frag) (S:Spx3):Sp:=fun vs H Q E=>∃ ds G R r,RelDs K H ds vs /\ Con K G H /\ S ds G R r /\ FutE K H R Q /\ FutX K H r E
def um1 (S:Spx3) (r:XD) (t:TA3):TE3:=fun σ G q=>t σ G fun ds G1=>∃ R,S ds G1 R r /\ ∀ d G',R d G'->q d G'
def v96 (C:Addr) (f:Str) (r:XD) (ta:TA3):TS3:=fun _ σ G=>ta σ G fun ds G1=>match ds with | [d]=>r C [(f,d)] G1 | _=>False
def vk0 (C:Addr) (r:XD):TS3:=fun _ _ G=>r C [] G
theorem vu6 {fs ex:List Addr} {H H':Hp} {h h':Heap} (u:Un fs ex H H' h h'):Le H H':=⟨u.tups,u.frzs⟩
theorem ul6 {K:PySem.W.Frag} {H:Hp} {r:XD}:FutX K H r (lowX K r):=fun C fs G dx ys H' c l z p q=>⟨C,fs,ys,G,rfl,c,z,p,q⟩
abbrev xcx (X:Cx) (r:XD):Cx:=X.wish (FlyIn X (lowX X.K r))
theorem PSs.wish {X:Cx} {E:Value->Shared->Prop} {st:List Stmt} {t:TS} (h:PSs (X.wish E) st t) (k:∀ e s,E e s->X.xe e s):PSs X st t:=fun pins s σ H D I hw =>
 wpAny_mono (h pins s σ H D (I.wish _) hw) (fun _ _ q=>q.unwish) k
section
variable {X:Cx} {r:XD}
theorem v99 (D:Def X):PassesOwn (model (xcx X r).prog (xcx X r).w) (xcx X r).A (xcx X r).env (xcx X r).xe:=FlyIn.own D
theorem uo7:Flies (xcx X r) (lowX X.K r):=fun pins σ H s a C dx I F q=>⟨σ,H,a,C,dx,rfl,(I.unwish).pins_of (fun p h=>absurd h (by simp)),.inl F,q⟩
end
abbrev OkX (P:Program) (w:World) {K:PySem.W.Frag} (mg:Str->Option Value) (base:Heap) (n:Nat) {x qual:Str} {st:Stmt} {ps:List Str} (d:FnAt K x qual st ps) (S:Spx3):Prop:=FnOk P w K mg base (CX1 P w) n d.a d.fd ps (ua5 K S)
section
variable {P:Program} {w:World} {K:PySem.W.Frag} {mg:Str->Option Value} {base:Heap}
theorem um2 {CX:CXT} {N:List Str} {qual:Str} {sc:Scope} {f:Addr} {cd:Value} {A:Around} {outer:List Env} {s:Shared} {H:Hp} {E:XK}:Def (cxOf CX P w K mg base N qual sc f cd A outer s H E):=⟨rfl,rfl,rfl,rfl⟩
theorem vj9 {x qual:Str} {st:Stmt} {ps N:List Str} {k:Nat} (d:FnAt K x qual st ps) {S:Spx3} (sc:FnScope N ps (u01 st)) (hl:∀ ds G R r,S ds G R r->ds.length=ps.length) {t:XD->TS3}
  (ht:∀ (cdv:Value) (A:Around) (outer:List Env) (s:Shared) (H:Hp) (E:XK) (r:XD),Room k (A.deeper (envOfC qual (u01 st) s.heap.objs.size d.a cdv))->Ss3 (xcx (cxOf (CX1 P w) P w K mg base N qual (u01 st) d.a cdv A outer s H E) r) (u13 st) (t r))
  (hb:∀ ds G R r,S ds G R r->t r { nx:=fun _ G'=>R .non G',rt:=R } (u86 N ds) G):OkX P w mg base (k+1) d S:=by
 obtain ⟨oc,od,dV,kV,doc,pm,an,cdv,ct,osl,e,lk,hcd⟩:=d.ex;have lk':K.lookup d.a=some ⟨oc,od,.func (PySem.W.fnOf x qual (u19 st) (u13 st) (u01 st) dV kV doc pm an cdv ct),osl⟩:=e ▸ lk;have F:FnOk P w K mg base (CX1 P w) (k+1) d.a (PySem.W.fnOf x qual (u19 st) (u13 st) (u01 st) dV kV doc pm an cdv ct) ps (ua5 K S):=by
  refine v50 lk' hcd sc (fun vs H Q E h=>?_) fun A outer s H vs Q E hr h=>?_
  ·obtain ⟨ds,G,R,r,rr,_,hS,_⟩:=h
   rw [<- rr.length];exact hl ds G R r hS
  ·obtain ⟨ds,G,R,r,rr,c,hS,f,fx⟩:=h
   have fin:=PSs.wish (show PSs _ _ _ from ht cdv A outer s H E r hr) fun e s' hf=>by
    refine wpAny_mono (FlyIn.leaves um2 hf) (fun _ s'' hq=>?_) fun _ _ z=>z
    obtain ⟨a,C,dx,H',e1,e2,e3,un,e4,e5,C',fs,ys,G',z1,z2,z3,z4,z5⟩:=hq;cases z1;exact ⟨a,_,dx,H',e1,e2,e3,un,e4,e5,fx _ fs G' dx ys H' z2 (vu6 un) z3 z4 z5⟩
   refine ⟨_,fin,u86 N ds,G,_,ua3 rr,c,hb ds G R r hS,fun σd' G' σ' H' _ c' l' q=>?_,f,fun _ _ _ _ _ _ _ q=>q.elim,fun _ _ _ _ _ _ _ q=>q.elim⟩;exact f .non G' .non H' RelD.nonI c' l' q
 have F2:=F;rw [<- e] at F2;exact F2
end
section
variable {X:Cx} {r:XD} {e:Expr} {es:List Expr} {p pos cpos:Pos} {ta:TE3} {ts:TA3} {k:Nat} {S:Spx3} {x qual f:Str} {st:Stmt} {ps ps':List Str} {C L fI:Addr} {fd:FuncData}
theorem ut8 {K:PySem.W.Frag} {σ:L2.St} {H:Hp} {Q:VK} {t:TA3} (h:lowE K (um1 S r t) σ H Q):vb8 (ua5 K S) [] (lowX K r) (lowA K t) σ H Q:=by
 obtain ⟨σd,G,q,rs,c,t,f⟩:=h;refine ⟨σd,G,_,rs,c,t,fun ds G1 vs H1 r1 c1 l1 ⟨R,s1,t1⟩=>⟨ds,G1,R,r,?_,c1,s1,fun d G2 v H2 r2 c2 l2 t2=>f d G2 v H2 r2 c2 (l1.trans l2) (t1 d G2 t2),ul6⟩⟩;rw [List.append_nil];exact r1
theorem vc4 (M:XMk X.K C L fI) (F:FnOk X.prog X.w X.K X.mg X.base CX0 k fI fd ps (u87 C f)) (hr:Room (k+1) X.A) (hb:Binds X.K fd ps []) (hm:X.mg x=some (.ref C)) (ha:A3 (xcx X r) [e] ts) (hc:X.calm=true:=by rfl) (hg:Gl X x:=by rfl)
  (hdb:(x == ("__debug__" : Str))=false:=by decide) (he:starEach [e] X.env=(false,eval e X.env)::starEach [] X.env:=by rfl) (hpl:(backTo cpos (starEach [] X.env)).any (·.1)=false:=by rfl) :
  S3 (xcx X r) (.Raise (some (.Call (.Name x p) [e] [] cpos)) none pos) (v96 C f r ts) :=
 uh2 (v15 (X:=xcx X r) M F hr hb hg hm hc uo7 ha hdb he hpl) fun D σ H h=>by
  obtain ⟨σd,G,d,rs,c,t,fd⟩:=h;refine ⟨σd,G,_,rs,c,t,fun ds G1 vs H1 r1 c1 l1 t1=>?_⟩;cases ds with
  | nil=>exact t1.elim
  | cons d rest =>
   cases rest with
   | cons _ _=>exact t1.elim
   | nil =>
    obtain ⟨v,r',rfl,rv,rn⟩:=r1.inv_cons;cases rn.inv_nil;exact ⟨v,rfl,fun dx o hn=>⟨C,[(f,d)],[(f,v)],G1,rfl,c1.side hn,⟨o,u12⟩,.cons (RelD.le (Le.fresh hn) rv) .nil,t1⟩⟩
end
structure XBase (K:PySem.W.Frag) (L:Addr):Prop where
 sp:PySem.W.specialIn K (.ref L) "__getattribute__" = some (some (.builtin "type.__getattribute__"))
 rd:PySem.W.readsIn K L (.type "type")=true
 fc:PySem.W.findCls K (.ref L) (.type "type") "__init__" = some (.val (.builtin "ValueError.__init__"))
structure XAttr (K:PySem.W.Frag) (C:Addr) (f:Str):Prop where
 sa:PySem.W.findIn K (.ref C) "__setattr__" = some (some (.builtin "object.__setattr__"))
 na:PySem.W.findIn K (.ref C) f=some none
 ga:PySem.W.findIn K (.ref C) "__getattribute__" = some (some (.builtin "BaseException.__getattribute__"))
 gt:PySem.W.findIn K (.ref C) "__getattr__" = some none
section
variable {P:Program} {w:World} {K:PySem.W.Frag} {mg:Str->Option Value} {base:Heap} {C L:Addr} {f v qual:Str} {st:Stmt} {k:Nat}
theorem uz3 (d:FnAt K "__init__" qual st ["self",v]) (sc:FnScope ["self",v] ["self",v] (u01 st)) (hc:xcIn K C (.ref L::VM)=true) (A:XAttr K C f)
  (ht:∀ (cdv:Value) (A:Around) (outer:List Env) (s:Shared) (H:Hp) (E:XK),PSs (cxOf CX0 P w K mg base ["self",v] qual (u01 st) d.a cdv A outer s H E).nox (u13 st) (tSeq (vb7 (v76 K L (un3 (tVar 0) (un3 (tVar 1) tNil)))) (vp4 K L (tVar 0) (tVar 1) f))) :
  FnOk P w K mg base CX0 (k+1) d.a d.fd ["self",v] (u87 C f):=by
 obtain ⟨oc,od,dV,kV,doc,pm,an,cdv,ct,osl,e,lk,hcd⟩:=d.ex;have lk':K.lookup d.a=some ⟨oc,od,.func (PySem.W.fnOf "__init__" qual (u19 st) (u13 st) (u01 st) dV kV doc pm an cdv ct),osl⟩:=e ▸ lk;have F:FnOk P w K mg base CX0 (k+1) d.a (PySem.W.fnOf "__init__" qual (u19 st) (u13 st) (u01 st) dV kV doc pm an cdv ct) ["self",v] (u87 C f):=by
  refine v50 lk' hcd sc (fun vs H Q E h=>?_) fun A' outer s H vs Q E hr h=>⟨_,(ht cdv A' outer s H E).nox,?_⟩
  ·obtain ⟨a,x,rfl,_⟩:=h;rfl
  ·obtain ⟨a,x,rfl,ha,q⟩:=h
   refine ⟨.ref a,rfl,x,rfl,a,C,[x],rfl,ha,hc,by simp,x,rfl,.ref a,rfl,a,C,rfl,ha,hc,A.sa,A.na,fun dx o h1 h2=>q dx o h1 h2⟩
 have F2:=F;rw [<- e] at F2;exact F2
end
def vx6 (K:PySem.W.Frag) (L:Addr) (ta:TE3) (f:Str):TE3:=fun σ G q=>ta σ G fun x G1=>match x with
 | .ref a=>(match G1 a with
  | some (.exc C fs)=>xcIn K C (.ref L::VM)=true /\ XAttr K C f /\ (match fs.lookup f with | some d=>q d G1 | none=>False)
  | _=>False)
 | _=>False
section
variable {X:Cx} {e:Expr} {f:Str} {pos:Pos} {ta:TE3}
theorem vg0 {h:Heap} {dx:Addr} {o:Obj} {m:Str->Option Value} {f:Str} {u:Value} (n:h.Ns dx m) (e:h.get? dx=some o) (hm:m f=some u):PySem.W.lookIn f o=some (some u):=by
 obtain ⟨o',es,ep,e1,e2,e3,e4⟩:=n;rw [e] at e1;cases e1;unfold PySem.W.lookIn;rw [e2];have q:=e4 f;rw [hm] at q;unfold nsFind findBy at q;rw [<- Array.find?_toList] at q;cases z:es.toList.find? (fun x=>x.key.isStr f) with
 | none=>rw [z] at q;cases q
 | some en=>rw [z] at q;simp only [Option.map_some,Option.some.injEq] at q;rw [<- q];dsimp only;rw [z]
theorem vx0 {K:PySem.W.Frag} (L:Addr) (he:E3 X e ta) (hb:attributeBase e f X.env (eval e X.env)=eval e X.env:=by rfl) (hK:X.K=K:=by rfl):E3 X (.Attribute e f pos) (vx6 K L ta f):=by
 subst hK;intro pins s σ H Q I h;obtain ⟨σd,G,q,rs,c,t,fu⟩:=h;refine vl1 hb (thn (he pins s σ H (fun v H1=>∃ a C fs d G1,v=.ref a /\ Con X.K G1 H1 /\ Le H H1 /\ G1 a=some (.exc C fs) /\ xcIn X.K C (.ref L::VM)=true /\ XAttr X.K C f /\ fs.lookup f=some d /\ q d G1) I ⟨σd,G,_,rs,c,t,fun x G1 v H1 r1 c1 l1 t1=>?_⟩) ?_)
 ·cases x with
  | ref a =>
   cases r1.ref_inv;dsimp only at t1;cases z:G1 a with
   | none=>rw [z] at t1;exact t1.elim
   | some o =>
    rw [z] at t1;cases o with
    | exc C fs =>
     obtain ⟨t1,t2,t3⟩:=t1;cases y:fs.lookup f with
     | none=>rw [y] at t3;exact t3.elim
     | some d=>rw [y] at t3;exact ⟨a,C,fs,d,G1,rfl,c1,l1,z,t1,t2,y,t3⟩
    | _=>exact t1.elim
  | _=>exact t1.elim
 ·rintro u s1 ⟨v,H1,I1,rv,a,C,fs,d,G1,rfl,c1,l1,z,hc,A,y,qq⟩
  cases rv;obtain ⟨dx,ys,h1,h2,h3⟩:=c1 a _ z;obtain ⟨v,h4,h5⟩:=h3.lookup y;obtain ⟨⟨o,vs,g1,g2,g3,g4⟩,_⟩:=I1.hok a _ h1;cases dx with
  | none=>cases (show ys=[] from h2);cases h4
  | some dx =>
   obtain ⟨od,h2⟩:=h2;obtain ⟨k1,mA,k2,k3⟩:=I1.hok dx _ h2;have k4:=k3 f;rw [h4] at k4;obtain ⟨u,k5,k6⟩:=RelO.some_of k4;obtain ⟨hh,gg,dd,tt,oo⟩:=s1;exact vw7 I1.kIn hc A.ga A.gt A.na g1 g2 g4 g3 k1 (vg0 k2.ns k1 k5) (uw3 k6) ⟨v,H1,I1.tok _,k6,fu d G1 v H1 h5 c1 l1 qq⟩
end
def mkd (X:Cx) (a:Addr):Cx:={ X with A:=X.A.mark (some (.ref a)),calm:=false }
section
variable {X:Cx} {pins:List (Addr × Obj)} {σ:L2.St} {H:Hp} {s:Shared} {a:Addr}
theorem vs5 (k:X.Ok):(mkd X a).Ok:=⟨k.mod,k.kind,k.glob,k.blt,k.above,k.inj,k.has,k.cab,(fun z=>nomatch z),k.frames,k.stk,k.exf,k.bs,k.bsz,k.noex,k.exfs,k.funs,k.frf⟩
theorem Inv.mkd (I:Inv X pins σ H s):Inv (mkd X a) pins σ H s:=⟨vs5 I.ok,I.os,I.bare,I.base,I.loc,I.cell,I.free,I.freeC,I.pin,I.hok,I.len⟩
theorem Inv.unmkd (I:Inv (L3.mkd X a) pins σ H s) (k:X.Ok):Inv X pins σ H s:=⟨k,I.os,I.bare,I.base,I.loc,I.cell,I.free,I.freeC,I.pin,I.hok,I.len⟩
theorem SP.unmkd {D:Ends} {f:Flow} (h:SP (L3.mkd X a) pins D f s) (k:X.Ok):SP X pins D f s:=by
 cases f with
 | next=>obtain ⟨σ',H',I,q⟩:=h;exact ⟨σ',H',Inv.unmkd I k,q⟩
 | brk=>obtain ⟨σ',H',I,q⟩:=h;exact ⟨σ',H',Inv.unmkd I k,q⟩
 | cont=>obtain ⟨σ',H',I,q⟩:=h;exact ⟨σ',H',Inv.unmkd I k,q⟩
 | ret u=>obtain ⟨v,σ',H',I,r,q⟩:=h;exact ⟨v,σ',H',Inv.unmkd I k,r,q⟩
theorem Inv.names {h':Heap} {m':Str->Option Value} {σ':L2.St} {t':Nat} (I:Inv X pins σ H s) (hn:h'.Ns X.env.locals m') (sb:Heap.SameBut X.env.locals s.heap h') (hl:σ'.length=σ.length)
  (k:∀ m,s.heap.Ns X.env.locals m->(∀ (i:Nat) (x:Str) (v:V),X.N[i]?=some x->σ[i]?=some (some v)->Vis X.env.scope x->∃ u,RelV v u /\ Look X.env s.heap m x u) ->
   ∀ (i:Nat) (x:Str) (v:V),X.N[i]?=some x->σ'[i]?=some (some v)->Vis X.env.scope x->∃ u,RelV v u /\ Look X.env s.heap m' x u):Inv X pins σ' H { s with heap:=h',toks:=t' }:=by
 obtain ⟨m,hm,lk⟩:=id I.loc;obtain ⟨oL,_,_,hoL,_⟩:=id hm;have nb:∀ b o,X.s₀.heap.get? b=some o->b ≠ X.env.locals:=fun b o e=>Nat.ne_of_lt (Nat.lt_of_lt_of_le (Heap.lt_size e) I.ok.above)
 refine ⟨I.ok,I.os,I.bare,⟨fun b o e n hb hx=>?_,fun b o e n hb hx=>?_,I.base.free,fun b o e hx=>?_,I.base.tups,I.base.frzs,I.base.tbls⟩,⟨m',hn,fun j y v e1 e2 e3=>?_⟩,fun y c e=>?_,I.free,I.freeC,fun p hp=>?_,fun b ob e=>?_,hl.trans I.len⟩
 ·exact (sb.2 b (nb b o e)).trans (I.base.keep b o e n hb hx)
 ·obtain ⟨sl,e1⟩:=I.base.slot b o e n hb hx
  exact ⟨sl,(sb.2 b (nb b o e)).trans e1⟩
 ·obtain ⟨o',e1⟩:=I.base.there b o e hx
  exact ⟨o',(sb.2 b (nb b o e)).trans e1⟩
 ·obtain ⟨u,r,l⟩:=k m hm lk j y v e1 e2 e3
  refine ⟨u,r,?_⟩
  rcases l with l | ⟨z,c,e,q⟩
  ·exact .inl l
  ·exact .inr ⟨z,c,e,q.sameBut sb (I.cne y c e)⟩
 ·obtain ⟨v,q⟩:=I.cell y c e
  exact ⟨v,q.sameBut sb (I.cne y c e)⟩
 ·obtain ⟨e,n,ne,nf,d⟩:=I.pin p hp
  exact ⟨(sb.2 p.1 ne).trans e,n,ne,nf,d⟩
 ·refine (I.hok b ob e).stay (fun c w' hc q=>(sb.2 c ?_).trans q) (fun _ q=>q) fun _ _ q=>q
  rintro rfl
  rcases hc with rfl | hc
  ·rw [I.free] at e;cases e
  ·rw [I.free] at hc;cases hc
theorem u68 {M:Model} {A:Around} {E:Value->Shared->Prop} {i:Nat} {n:Str} {pos:Pos} {Q:Unit->Shared->Prop} (I:Inv X pins σ H s) (hN:X.N.Nodup) (hi:X.N[i]?=some n) (hl:X.env.scope.names.lookup n=some .local)
  (k:∀ s',Inv X pins (σ.set i none) H s'->Q () s'):wpAny M A (do bindName X.env n .none;unbindBehindTheSuite X.env n pos) Q E s:=by
 have hp:(X.env.scope.kind == .class || (X.env.scope.kind == .module && X.env.locals != X.env.globals))=false:=by rw [I.ok.kind];rfl
 have hk:X.env.kindOf n=some .local:=hl;refine wpAny_bind (wpAny_bindName (u81 (v:=.non) (u:=.none) I hN hi (.inl hl) rfl (fun s1 I1=>?_) (.inr hl)));have hiσ:i < σ.length:=by rw [I.len];exact (List.getElem?_eq_some_iff.mp hi).1
 obtain ⟨m,hm,lk⟩:=id I1.loc;unfold unbindBehindTheSuite;refine wpAny_onRaise ?_;unfold unbindName;refine wpAny_bind (wpAny_point (wpAny_bind ?_));unfold deleteName;simp only [hk,hp];rw [if_neg (by decide)];have there:(m n).isSome=true:=by
  obtain ⟨u,ru,l⟩:=lk i n .non hi (by rw [List.getElem?_set_self hiσ]) (.inl hl)
  rcases l with ⟨_,e⟩ | ⟨z,_⟩
  ·rw [e];rfl
  ·rw [hk] at z;rcases z with z | z <;> cases z
 refine wpAny_bind (wpAny_nsDel_keeps hm fun h2 v0 hn2 sb=>?_);rw [there];simp only [Bool.not_true,Bool.false_eq_true,if_false];refine wpAny_pure (wpAny_point (k { s1 with heap:=h2 } ?_));refine Inv.names (t':=s1.toks) I1 hn2 sb (by simp) fun m0 hm0 lk0 j y v e1 e2 e3=>?_
 by_cases hj:j=i
 ·subst hj
  rw [List.getElem?_set_self hiσ] at e2;cases e2
 ·rw [List.getElem?_set_ne (Ne.symm hj)] at e2
  obtain ⟨u,ru,l⟩:=lk j y v e1 (by rw [List.getElem?_set_ne (Ne.symm hj)];exact e2) e3;refine ⟨u,ru,?_⟩
  rcases l with ⟨z,e⟩ | l
  ·refine .inl ⟨z,?_⟩
   have ny:y ≠ n:=fun e=>hj (uc3 hN e1 (e ▸ hi))
   show (if y=n then v0 else m y)=some u
   rw [if_neg ny];exact e
  ·exact .inr l
end
def XP (X:Cx) (pins:List (Addr × Obj)) (σ:L2.St) (H:Hp) (r:XD) (e:Value) (s':Shared):Prop:=∃ H1 s1,Inv X pins σ H1 s1 /\ Le H H1 /\ CX1 X.prog X.w X.stack H1 s1 (lowX X.K r) e s'
def E3X (X:Cx) (e:Expr) (t:XD->TE3):Prop:=∀ (pins:List (Addr × Obj)) (s:Shared) (σ:L2.St) (H:Hp) (Q:VK) (r:XD),Inv X pins σ H s->lowE X.K (t r) σ H Q->wpAny (model X.prog X.w) X.A (eval e X.env) (EP X pins σ Q) (XP X pins σ H r) s
def PB (X:Cx) (st:List Stmt) (t:XD->TS3):Prop:=∀ (pins:List (Addr × Obj)) (s:Shared) (σ:L2.St) (H:Hp) (D:Ends) (r:XD),Inv X pins σ H s->lowS X.K (t r) D σ H->wpAny (model X.prog X.w) X.A (execs st X.env) (SP X pins D) (XP X pins σ H r) s
section
variable {X:Cx} {e c:Expr} {es:List Expr} {p pos:Pos} {ts:TA3} {k:Nat} {S:Spx3} {x qual:Str} {st:Stmt} {ps:List Str} {t:XD->TE3} {tc:TT3} {a b:List Stmt} {ta tb:XD->TS3}
theorem XP.le {pins:List (Addr × Obj)} {σ:L2.St} {H H1:Hp} {r:XD} {e:Value} {s':Shared} (h:XP X pins σ H1 r e s') (l:Le H H1):XP X pins σ H r e s':=by
 obtain ⟨H2,s1,I,l2,q⟩:=h;exact ⟨H2,s1,I,l.trans l2,q⟩
theorem ecT (d:FnAt X.K x qual st ps) (hm:X.mg x=some (.ref d.a)) (G:FnOk X.prog X.w X.K X.mg X.base (CX1 X.prog X.w) k d.a d.fd ps (ua5 X.K S)) (hr:Room k X.A) (ha:A3 X (e::es) ts) (hg:Gl X x:=by rfl) (hdb:(x == ("__debug__" : Str))=false:=by decide)
  (he:starEach (e::es) X.env=(false,eval e X.env)::starEach es X.env:=by rfl) (hpl:(backTo pos (starEach es X.env)).any (·.1)=false:=by rfl) (hn:∀ e s,¬ X.xe e s:=by exact fun _ _ z=>z):E3X X (.Call (.Name x p) (e::es) [] pos) (fun r=>um1 S r ts):=by
 intro pins s σ H Q r I h;obtain ⟨σd,G0,q,rs,c,t,f⟩:=h;refine wpAny_Call_Name_kw (u75 I hg hm ?_ hdb);refine PySem.W.callWith_K (h₀:=X.base) I.ok.mod.kin d.kp (wpAny_mono (ha pos pins s σ H (fun vs H1=>Le H H1 /\ ∃ ds G1 R,RelDs X.K H1 ds vs /\ Con X.K G1 H1 /\ S ds G1 R r /\ FutE X.K H1 R Q) I ⟨σd,G0,_,rs,c,t,fun ds G1 vs H1 r1 c1 l1 ⟨R,s1,t1⟩=>⟨l1,ds,G1,R,r1,c1,s1,fun d G2 v H2 r2 c2 l2 t2=>f d G2 v H2 r2 c2 (l1.trans l2) (t1 d G2 t2)⟩⟩) ?_ fun e s' z=>(hn e s' z).elim) he hpl;rintro us s1 ⟨vs,H1,I1,rv,l1,ds,G1,R,r1,c1,hS,fu⟩;refine ⟨I1.kIn,?_⟩;have hsp:ua5 X.K S vs H1 Q (lowX X.K r):=⟨ds,G1,R,r,r1,c1,hS,fu,ul6⟩;have hln:(us++[]).length=ps.length:=by rw [List.append_nil,<- rv.length];exact G.len _ _ _ _ hsp
 have hb:=d.b s1 us I1.kIn hln;rw [List.append_nil] at hb;refine wpAny_call (codeAny_mono (G.run X.A X.stack s1 H1 ⟨us,[]⟩ us vs Q (lowX X.K r) hr I1.env0 hb rv hsp) fun r' s' hq=>?_);cases r' with
 | error e=>exact ⟨H1,s1,I1,l1,hq⟩
 | ok fl =>
  cases fl with
  | ret u=>exact I1.after hq
  | next=>exact False.elim hq
  | brk=>exact False.elim hq
  | cont=>exact False.elim hq
theorem us3 (h:E3X X e t) (hs:swapsWith e none pos.line X.env=pure false:=by rfl):PB X [.Expr e pos] (fun r=>v56 (t r)):=by
 intro pins s σ H D r I hw;refine wpAny_execs_cons (wpAny_Expr_any (thn (h pins s σ H (fun _ H1=>D.nx σ H1) r I (ul4 hw)) ?_) I.quiet hs);rintro v s1 ⟨y,H1,I1,r1,q1⟩;exact wpAny_execs_nil ⟨σ,H1,I1,q1⟩
end
def isX (C L C2:Addr):Bool:=decide (C2=C \/ C2=L)
def H3 (X:Cx) (hs:List ExceptHandler) (th:Addr->List (Str × D)->TS3):Prop :=
 ∀ (pins:List (Addr × Obj)) (s:Shared) (σ:L2.St) (H:Hp) (D:Ends) (a C:Addr) (dx:Option Addr) (ys:List (Str × V)) (fs:List (Str × L3.D)) (lim:Nat),Inv X pins σ H s->X.s₀.heap.objs.size<=lim->(∀ p ∈ X.pn++pins,p.1 < lim) ->
  Fly (fun v=>v=.none) lim H a C dx s.heap->XDict H dx ys->RelPs X.K H fs ys->lowS X.K (th C fs) D σ H->wpAny (model X.prog X.w) X.A (handleBy (.ref a) X.env hs) (SP X pins D) X.xe s
def vx9 (K:PySem.W.Frag) (L C2:Addr) (i:Nat) (ts:TS3) (th:Addr->List (Str × D)->TS3):Addr->List (Str × D)->TS3:=fun C fs E σ G=>xcIn K C (.ref L::VM)=true /\
 if isX C L C2=true then ∀ a,G a=none->ts { E with nx:=fun σ' G'=>E.nx (σ'.set i none) G',bk:=fun σ' G'=>E.bk (σ'.set i none) G',ct:=fun σ' G'=>E.ct (σ'.set i none) G' } (σ.set i (some (.ref a))) (gup G a (.exc C fs)) else th C fs E σ G
def vx8 (K:PySem.W.Frag) (L C2:Addr) (ts:TS3) (th:Addr->List (Str × D)->TS3):Addr->List (Str × D)->TS3:=fun C fs E σ G=>xcIn K C (.ref L::VM)=true /\
 if isX C L C2=true then ts E σ G else th C fs E σ G
def ux9:Addr->List (Str × D)->TS3:=fun _ _ _ _ _=>False
def dTry (tb:XD->TS3) (th:Addr->List (Str × D)->TS3):TS3:=fun E σ G=>tb (fun C fs G'=>th C fs E σ G') E σ G
theorem vw5 {X:Cx}:H3 X [] ux9:=fun _ _ _ _ _ _ _ _ _ _ _ _ _ _ _ _ _ h=>by
 obtain ⟨_,_,_,_,_,z,_⟩:=h;exact z.elim
section
variable {M:Model} {A:Around} {E:Value->Shared->Prop} {K:PySem.W.Frag} {C L C2 a:Addr} {bm:List Value} {o:Obj}
theorem v27 {s:Shared} {Q:Bool->Shared->Prop} (X:K.In s.heap) (c2:xcIn K C2 bm=true) (hb:bm.contains (.type "BaseException")=true) (hc:xcIn K C (.ref L::VM)=true) (hx:s.heap.get? a=some o) (hcl:o.cls=.ref C) (q:Q (isX C L C2) s) :
  wpAny M A (excMatches (.ref a) (.ref C2)) Q E s:=by
 obtain ⟨⟨nm,q',N,bs,sn,sub,ab,col,dd,k0,k1,k2,k3,k5,hC2⟩,_⟩:=ug7 X c2;have hcB:(Value.ref C2::bm).contains (.type "BaseException")=true:=by rw [List.contains_cons,hb,Bool.or_true]
 have e1:(Value.ref C::.ref L::VM).contains (.ref C2)=isX C L C2:=by
  unfold isX VM;rw [Bool.eq_iff_iff,List.contains_iff_mem];simp
 obtain ⟨h,g,d,t,os⟩:=s;have T:=u85 (M:=M) hx hcl;have S1:=uq4 (M:=M) X hc (.ref C2);rw [e1] at S1;have S2:isSubtype (.type "type") (.type "tuple")=pure false:=PySem.F.notTuple_ValueError;unfold excMatches
 repeat (any_goals (first | assumption | with_reducible refine wpAny_loadPart_at hC2 ?_ | (with_reducible refine wpAny_isSubtype_exc hC2 ?_;rw [hcB]) | with_reducible refine PySem.W.Looks.at (by assumption) ?_ | wp_step))
 generalize isX C L C2=b at q ⊢;cases b <;> (wp_walk;exact q)
end
theorem RelSt.unset {K:PySem.W.Frag} {H:Hp} {σd:DSt} {σ:L2.St} (h:RelSt K H σd σ) (i:Nat):RelSt K H (σd.set i none) (σ.set i none):=by
 refine ⟨by rw [List.length_set,List.length_set];exact h.1,fun j d q=>?_⟩
 by_cases hj:i=j
 ·subst hj
  rw [List.getElem?_set] at q;simp at q
 ·rw [List.getElem?_set_ne hj] at q ⊢
  exact h.2 j d q
section
variable {X:Cx} {np pos:Pos} {c n:Str} {C2:Addr} {bm:List Value} {b₀:Stmt} {suite:List Stmt} {rest:List ExceptHandler} {ts:TS3} {th:Addr->List (Str × D)->TS3}
theorem v91 {f:Value->Prop} {lim:Nat} {H:Hp} {a C:Addr} {dx:Option Addr} {h:Heap} (F:Fly f lim H a C dx h):∃ o vs,h.get? a=some o /\ o.cls=.ref C /\ o.dict=dx /\ o.data=.fields vs /\ lim<=a /\ H a=none:=by
 obtain ⟨oe,vs,T,oT,ts,v,o,_⟩:=F;exact ⟨oe,vs,o.ge,o.cl,o.di,o.da,o.la,o.ha⟩
theorem h_as {K:PySem.W.Frag} (L:Addr) (i:Nat) (hm:X.mg c=some (.ref C2)) (c2:xcIn K C2 bm=true) (hb:bm.contains (.type "BaseException")=true) (hN:X.N.Nodup) (hsu:∀ a,Ss3 (mkd X a) (b₀::suite) ts) (hr:H3 X rest th)
  (hi:X.N[i]?=some n:=by rfl) (hl:X.env.scope.names.lookup n=some .local:=by rfl) (hg:Gl X c:=by rfl) (hdb:(c == ("__debug__" : Str))=false:=by decide) (hn:∀ e s,¬ X.xe e s:=by exact fun _ _ z=>z) (Df:Def X:=by exact ⟨rfl,rfl,rfl,rfl⟩) (hK:X.K=K:=by rfl):H3 X (.ExceptHandler (some (.Name c np)) (some n) (b₀::suite) pos::rest) (vx9 K L C2 i ts th):=by
 subst hK;intro pins s σ H D a C dx ys fs lim I hlim hp F hx hf h;obtain ⟨σd,G,d,rs,cc,⟨hc,t⟩,f⟩:=h;obtain ⟨o,vs,g1,g2,g3,g4,la,ha⟩:=v91 F;refine wpAny_handleBy_cons (codeAny_handlers_test ?_) (by intro q;cases q);refine wpAny_mono (u75 (X:=mkd X a) (E:=fun _ _=>False) (Inv.mkd I) hg hm ?_ hdb) (fun _ _ z=>z) fun _ _ z=>z.elim
 refine wpAny_mono (v27 (E:=fun _ _=>False) I.kIn c2 hb hc g1 g2 ?_) (fun _ _ z=>z) fun _ _ z=>z.elim
 by_cases hX:isX C L C2=true
 ·rw [if_pos hX] at t ⊢
  refine codeAny_handlers_suite_as ?_;refine u59 I Df.st Df.fr hlim hp F fun h2 I2 F2=>?_
  obtain ⟨o2,vs2,e1,e2,e3,e4,_,_⟩:=v91 F2;obtain ⟨n1,n2,n3⟩:=I2.rec_ne e1 e4;have hpa:∀ p ∈ X.pn++pins,p.1 ≠ a:=fun p h e=>absurd (hp p h) (by rw [e];exact Nat.not_lt.mpr la)
  have I3:=I2.track (b:=a) (o:=.ext (XH a C dx)) ha (Nat.le_trans hlim la) hpa n1 n2 ⟨⟨o2,vs2,e1,e2,e3,e4⟩,⟨_,e1⟩,XH.stays⟩;have l3:Le H (upd H a (.ext (XH a C dx))):=Le.fresh ha;have c3:Con X.K (gup G a (.exc C fs)) (upd H a (.ext (XH a C dx))):=cc.put l3 ⟨dx,ys,u12,hx.le l3,hf.le l3⟩;refine wpAny_mono (u81 (X:=mkd X a) (v:=.ref a) (E:=fun _ _=>False) (Inv.mkd (a:=a) I3) hN hi (.inl hl) rfl (fun s4 I4=>?_) (.inr hl)) (fun _ _ z=>z) fun _ _ z=>z.elim
  have low:lowS X.K ts { D with nx:=fun σ' H'=>D.nx (σ'.set i none) H',bk:=fun σ' H'=>D.bk (σ'.set i none) H',ct:=fun σ' H'=>D.ct (σ'.set i none) H' } (σ.set i (some (.ref a))) (upd H a (.ext (XH a C dx))) :=
   ⟨σd.set i (some (.ref a)),_,_,(rs.le l3).set i RelD.refI,c3,t a (cc.fresh ha),(fun x1 x2 x3 x4 r1 r2 r3 q=>f.nx _ _ _ _ (r1.unset i) r2 (l3.trans r3) q),f.rt.le l3,(fun x1 x2 x3 x4 r1 r2 r3 q=>f.bk _ _ _ _ (r1.unset i) r2 (l3.trans r3) q),fun x1 x2 x3 x4 r1 r2 r3 q=>f.ct _ _ _ _ (r1.unset i) r2 (l3.trans r3) q⟩
  refine wpAny_mono (hsu a pins s4 _ _ _ I4 low) (fun fl s5 q5=>?_) fun e s' z=>(hn e s' z).elim
  have q6:=SP.unmkd q5 I.ok;cases fl with
  | next=>obtain ⟨σ6,H6,I6,q6⟩:=q6;exact u68 I6 hN hi hl fun s7 I7=>⟨_,H6,I7,q6⟩
  | brk=>obtain ⟨σ6,H6,I6,q6⟩:=q6;exact u68 I6 hN hi hl fun s7 I7=>⟨_,H6,I7,q6⟩
  | cont=>obtain ⟨σ6,H6,I6,q6⟩:=q6;exact u68 I6 hN hi hl fun s7 I7=>⟨_,H6,I7,q6⟩
  | ret u=>obtain ⟨v,σ6,H6,I6,r6,q6⟩:=q6;exact u68 I6 hN hi hl fun s7 I7=>⟨v,_,H6,I7,r6,q6⟩
 ·rw [if_neg hX] at t
  rw [if_neg hX];exact hr pins s σ H D a C dx ys fs lim I hlim hp F hx hf ⟨σd,G,d,rs,cc,t,f⟩
theorem vp3 {h₀:ExceptHandler} {hs:List ExceptHandler} {body:List Stmt} {tb:XD->TS3} (pb:PB X body tb) (hh:H3 X (h₀::hs) th) (Df:Def X:=by exact ⟨rfl,rfl,rfl,rfl⟩):S3 X (.Try body (h₀::hs) [] [] pos) (dTry tb th):=by
 intro pins s σ H D I h;obtain ⟨σd,G,d,rs,cc,t,f⟩:=h;refine wpAny_Try_except (wpAny_mono (pb pins s σ H D (fun C fs G'=>th C fs d σd G') I ⟨σd,G,d,rs,cc,t,f⟩) (fun fl s1 q=>?_) fun e s1 hx=>?_)
 ·cases fl with
  | next=>exact wpAny_execs_nil q
  | ret v=>exact q
  | brk=>exact q
  | cont=>exact q
 ·obtain ⟨H1,s0,I1,l1,a,C,dx,H2,rfl,os,ba,un,hok,F,C',fs,ys,G2,z1,c2,x2,p2,q⟩:=hx
  cases z1;have I2:=I1.call' (ch:=[]) os un hok ba (fun b z=>nomatch z);have hp:∀ p ∈ X.pn++pins,p.1 < s0.heap.objs.size:=fun p h=>Heap.lt_size (I1.pin p h).1
  have l2:=l1.trans (vu6 un);refine uc2 I2 Df.st Df.fr I1.sz hp (.inr (F.imp fun v e=>.inl e)) fun h3 I3 F3=>u59 I3 Df.st Df.fr I1.sz hp F3 fun h4 I4 F4=>?_
  exact hh pins _ σ H2 D a _ dx ys fs _ I4 I1.sz hp F4 x2 p2 ⟨σd,G2,d,rs.le l2,c2,q,f.le l2⟩
end
end L3
namespace L2
open PySem PySem.Spec PyProof.Rows PySem.W
set_option maxHeartbeats 4000000
section
variable {prog:Program} {w:World} {A:Around} {E:Value->Shared->Prop} {K:Frag} {C C2 L x:Addr} {o:Obj} {vs:Array Value}
theorem uo3:specialIn K (.builtin "object.__class__") "__get__" = some (some (.builtin "getset_descriptor.__get__")):=by kernel_rfl
theorem uy2:takesIn K (.builtin "object.__class__")=some true:=by kernel_rfl
theorem um6 {od:Option Obj} {s:Shared} {Q:Option Value->Shared->Prop} (X:K.In s.heap) (hc:xcIn K C (.ref L::VM)=true) (hga:findIn K (.ref C) "__getattribute__" = some (some (.builtin "BaseException.__getattribute__"))) (hgt:findIn K (.ref C) "__getattr__" = some none)
  (hcc:findIn K (.ref C) "__class__" = some (some (.builtin "object.__class__"))) (I:InstAt s.heap x o C od) (hq:Q (some (.ref C)) { s with toks:=s.toks+1 }):wpAny (model prog w) A (getAttr? (.ref x) "__class__") Q E s:=by
 have GA:=PySem.F.attr_ValueError.ga;obtain ⟨cd,c1,c2,c3⟩:=u80 hc;have hf:findObj K C od "__class__" = some (.bind (.builtin "getset_descriptor.__get__") (.builtin "object.__class__")):=by
  unfold findObj;rw [c1,Option.bind_some,hcc,Option.bind_some];dsimp only;rw [uo3,Option.bind_some];dsimp only;rw [uy2,Option.bind_some]
 have hm:mroIn K C (.type "object")=some true:=by unfold mroIn;rw [c1,Option.bind_some,c2];rfl
 obtain ⟨h,g,d,t,os⟩:=s;have T:=I.type (M:=model prog w);have L1:=looks_findIn (M:=model prog w) X hga;have L2:=looks_findIn (M:=model prog w) X hgt;have L3:=looks_find (M:=model prog w) X I hf;have f3:=GA.bind (.ref x);have hx2:(Value.builtin "BaseException.__getattribute__" == Value.builtin "object.__getattribute__")=false:=by decide
 have hx1:(onTheHeap (Value.ref C) && Value.builtin "BaseException.__getattribute__" == Value.builtin "object.__getattribute__")=false:=by rw [hx2];rfl
 unfold getAttr? getAttrBy? getAttrBy
 repeat (any_goals (first | assumption | with_reducible refine Looks.at (by assumption) ?_ | wp_step))
 refine codeAny_call_builtin GA.plain PySem.F.entry_bexc_ga (u97 X hc I.at_ I.cls ?_)
 show wpAny _ _ (Builtin.«object.__getattribute__» ⟨[.ref x,.str "__class__" t],[]⟩) _ _ _
 unfold Builtin.«object.__getattribute__»
 repeat (any_goals (first | assumption | with_reducible refine Looks.at (by assumption) ?_ | wp_step))
 refine class_get (s:=⟨h,g,d,t+1,os⟩) (ox:=o) (od:=od) X I hm ?_;refine wpAny_pure ?_;exact wpAny_pure (wpAny_pure hq)
def XcX (K:Frag) (C:Addr):Prop:=findIn K (.ref C) "__getattribute__" = some (some (.builtin "BaseException.__getattribute__")) /\ findIn K (.ref C) "__getattr__" = some none /\ findIn K (.ref C) "__class__" = some (some (.builtin "object.__class__"))
theorem uh9 {dx:Option Addr} (hc:xcIn K C (.ref L::VM)=true) (h2:XcX K C):KitX K (.ref x) (.ref C) (fun h=>XH x C dx h /\ ∀ d,dx=some d->∃ od,h.get? d=some od) where
 ty:=fun M h _ p=>by obtain ⟨⟨o,vs,e1,e2,_⟩,_⟩:=p;exact u85 e1 e2
 it:=fun M h X _=>by
  obtain ⟨⟨nm,q',N,bs,sn,sub,ab,col,dd,k0,k1,k2,k3,k5,hC⟩,_⟩:=ug7 X hc;intro A' Q' E' s' k q;unfold isType loadHead;exact wpAny_bind (wpAny_loadPart (k _ _ hC) (wpAny_pure q))
 ne:=fun h tp dd its n sl X htp=>by
  obtain ⟨⟨nm,q',N,bs,sn,sub,ab,col,dd,k0,k1,k2,k3,k5,hC⟩,_⟩:=ug7 X hc;refine Bool.eq_false_iff.mpr fun q=>?_
  have e:C=tp:=Value.ref.inj (beq_iff_eq.mp q);subst e;have z:=congrArg (fun o:Option Obj=>o.map (·.cls)) (hC.symm.trans htp);exact absurd z (by simp)
 ca:=fun {_ _ _ _ _ s} X p k=>by
  obtain ⟨⟨o,vs,e1,e2,e3,e4⟩,p2⟩:=p;have nc:notCls o=true:=by unfold notCls;rw [e4]
  cases dx with
  | none=>exact um6 (o:=o) (od:=none) X hc h2.1 h2.2.1 h2.2.2 ⟨e1,e2,nc,by rw [e3];trivial⟩ k
  | some d =>
   obtain ⟨od,p3⟩:=p2 d rfl;exact um6 (o:=o) (od:=some od) X hc h2.1 h2.2.1 h2.2.2 ⟨e1,e2,nc,by rw [e3];exact p3⟩ k
theorem v89 {bm:List Value} (hc:xcIn K C (.ref L::VM)=true) (c2:xcIn K C2 bm=true):kitOne K (.ref C) (.ref C2)=some (decide (C2=C \/ C2=L)):=by
 obtain ⟨cd,c1,c3,_⟩:=u80 hc;obtain ⟨cd2,d1,d3,_⟩:=u80 c2;have ty:typeIn K (.ref C2)=some (.type "type"):=by
  unfold xcIn at c2;split at c2
  ·rename_i dd cd' sl ho
   show (K.lookup C2).map (·.cls)=_
   rw [ho];rfl
  ·cases c2
 unfold kitOne
 by_cases e:C=C2
 ·subst e;rw [if_pos (by simp)];simp
 ·rw [if_neg (by simpa using e)]
  unfold kitCls;dsimp only;rw [d1,ty,if_pos (by rfl)]
  show mroIn K C (.ref C2)=_
  unfold mroIn;rw [c1,Option.bind_some,c3]
  show some ((Value.ref C::.ref L::VM).contains (.ref C2))=_
  congr 1
  rw [Bool.eq_iff_iff,List.contains_iff_mem];simp
theorem vh9 (hc:xcIn K C (.ref L::VM)=true):kitOne K (.ref C) (.type "ValueError")=some true:=by
 obtain ⟨cd,c1,c3,_⟩:=u80 hc;unfold kitOne;rw [if_neg (by simp)];unfold kitCls;dsimp only;rw [if_pos (show kitMeta "ValueError" = true by decide)]
 show mroIn K C (.type "ValueError")=_
 unfold mroIn;rw [c1,Option.bind_some,c3];rfl
theorem v42:kitOne K (.type "NoneType") (.type "ValueError")=some false:=by kernel_rfl
theorem v41 {bm:List Value} (c2:xcIn K C2 bm=true):kitOne K (.type "NoneType") (.ref C2)=some false:=by
 obtain ⟨cd2,d1,d3,_⟩:=u80 c2;have ty:typeIn K (.ref C2)=some (.type "type"):=by
  unfold xcIn at c2;split at c2
  ·rename_i dd cd' sl ho
   show (K.lookup C2).map (·.cls)=_
   rw [ho];rfl
  ·cases c2
 unfold kitOne;rw [if_neg (by simp)];unfold kitCls;dsimp only;rw [d1,ty,if_pos (by rfl)];have m:fastBuiltinMro "NoneType" = some [.type "NoneType",.type "object"]:=by kernel_rfl
 show (fastBuiltinMro "NoneType").map (·.contains (.ref C2))=_
 rw [m];simp
theorem uu6 (hc:xcIn K C (.ref L::VM)=true):∀ {cs:List Addr},(∀ c ∈ cs,∃ bm,xcIn K c bm=true)->kitAny K (.ref C) (cs.map Value.ref)=some (cs.any fun c=>decide (c=C \/ c=L))
 | [],_=>rfl
 | c::cs,h=>by
  obtain ⟨bm,e⟩:=h c List.mem_cons_self;rw [List.map_cons];unfold kitAny;rw [v89 hc e,List.any_cons]
  by_cases z:c=C \/ c=L
  ·rw [decide_eq_true z];rfl
  ·rw [decide_eq_false z];exact uu6 hc fun c' m=>h c' (List.mem_cons_of_mem _ m)
end
end L2
namespace L3
open PySem PySem.Spec PyProof.Rows L2
set_option maxHeartbeats 4000000
def uc1:List D->Option (List Addr)
 | []=>some []
 | .ref a::r=>(uc1 r).map (a::·)
 | _::_=>none
def xIsX (K:PySem.W.Frag) (L:Addr):C3:=fun ds G q=>match ds with
 | [.non,.ref C2]=>(∃ bm,xcIn K C2 bm=true) /\ q (.bl false) G
 | [.non,.ty "ValueError"]=>q (.bl false) G
 | [.ref a,.ref C2]=>(match G a with | some (.exc C _)=>xcIn K C (.ref L::VM)=true /\ XcX K C /\ (∃ bm,xcIn K C2 bm=true) /\ q (.bl (isX C L C2)) G | _=>False)
 | [.ref a,.ty "ValueError"]=>(match G a with | some (.exc C _)=>xcIn K C (.ref L::VM)=true /\ XcX K C /\ q (.bl true) G | _=>False)
 | [.ref a,.tup cs]=>(match G a,uc1 cs with | some (.exc C _),some l=>xcIn K C (.ref L::VM)=true /\ XcX K C /\ (∀ c ∈ l,∃ bm,xcIn K c bm=true) /\ q (.bl (l.any (isX C L))) G | _,_=>False)
 | _=>False
theorem uk4 {K:PySem.W.Frag} {H:Hp}:∀ {ds:List D} {xs:List V} {l:List Addr} {us:List Value},uc1 ds=some l->RelDs K H ds xs->Vals xs us->us=l.map Value.ref
 | [],xs,l,us,e,r,v=>by
  cases r.inv_nil;cases v;cases e;rfl
 | d::ds,xs,l,us,e,r,v=>by
  obtain ⟨x,t,rfl,r1,r2⟩:=r.inv_cons;cases v with
  | cons v1 v2 =>
   cases d with
   | ref a =>
    cases r1.ref_inv;cases v1;cases z:uc1 ds with
    | none=>simp [uc1,z] at e
    | some l' =>
     simp only [uc1,z,Option.map_some,Option.some.injEq] at e;subst e;rw [List.map_cons,uk4 z r2 v2]
   | _=>simp [uc1] at e
section
variable {X:Cx}
theorem va3 {K:PySem.W.Frag} (L:Addr) (hK:X.K=K:=by rfl):Call3 X (.builtin "isinstance") (xIsX K L):=by
 subst hK;intro pins s σ H xs us Q I rv h;obtain ⟨ds,G,q,r,c,t,f⟩:=h;have fin:∀ b tk,q (.bl b) G->EP X pins σ Q (.bool b) { s with toks:=tk }:=fun b tk z=>⟨.bl b,H,I.tok tk,rfl,f (.bl b) G (.bl b) H (by rw [RelD]) c (Le.refl H) z⟩
 have exc:∀ {a C fs},G a=some (.exc C fs)->∃ dx,(XH a C dx s.heap /\ ∀ d,dx=some d->∃ od,s.heap.get? d=some od):=fun {a C fs} e=>by
  obtain ⟨dx,ys,h1,h2,_⟩:=c a _ e;refine ⟨dx,(I.hok a _ h1).1,fun d z=>?_⟩;subst z;obtain ⟨o,h2⟩:=h2;exact ⟨o,(I.hok d _ h2).1⟩
 unfold xIsX at t;split at t
 ·rename_i C2
  obtain ⟨⟨bm,e1⟩,t⟩:=t;obtain ⟨x1,r1,rfl,rx,r2⟩:=r.inv_cons;obtain ⟨x2,r3,rfl,ry,r4⟩:=r2.inv_cons;cases r4.inv_nil;rw [RelD] at rx;subst rx;cases ry.ref_inv;obtain ⟨u,v,rfl,ru,rw'⟩:=Vals.two rv;cases ru;cases rw';exact PySem.W.kia_one PySem.W.kitx_none I.kIn True.intro (v41 e1) (fun z=>nomatch z) fun tk=>fin _ tk t
 ·obtain ⟨x1,r1,rfl,rx,r2⟩:=r.inv_cons
  obtain ⟨x2,r3,rfl,ry,r4⟩:=r2.inv_cons;cases r4.inv_nil;have rx:=(show x1=V.non by simpa only [RelD] using rx);have ry:=(show x2=V.ty "ValueError" by simpa only [RelD] using ry);subst rx;subst ry;obtain ⟨u,v,rfl,ru,rw'⟩:=Vals.two rv;cases ru;cases rw';exact PySem.W.kia_one PySem.W.kitx_none I.kIn True.intro v42 (fun z=>nomatch z) fun tk=>fin _ tk t
 ·rename_i a C2
  obtain ⟨x1,r1,rfl,rx,r2⟩:=r.inv_cons;obtain ⟨x2,r3,rfl,ry,r4⟩:=r2.inv_cons;cases r4.inv_nil;cases rx.ref_inv;cases ry.ref_inv;obtain ⟨u,v,rfl,ru,rw'⟩:=Vals.two rv;cases ru;cases rw';split at t
  ·rename_i C fs e
   obtain ⟨t1,t2,⟨bm,e1⟩,t⟩:=t;obtain ⟨dx,p⟩:=exc e;exact PySem.W.kia_one (uh9 t1 t2) I.kIn p (v89 t1 e1) (fun z=>nomatch z) fun tk=>fin _ tk t
  ·exact t.elim
 ·rename_i a
  obtain ⟨x1,r1,rfl,rx,r2⟩:=r.inv_cons;obtain ⟨x2,r3,rfl,ry,r4⟩:=r2.inv_cons;cases r4.inv_nil;cases rx.ref_inv;rw [RelD] at ry;subst ry;obtain ⟨u,v,rfl,ru,rw'⟩:=Vals.two rv;cases ru;cases rw';split at t
  ·rename_i C fs e
   obtain ⟨t1,t2,t⟩:=t;obtain ⟨dx,p⟩:=exc e;exact PySem.W.kia_one (uh9 t1 t2) I.kIn p (vh9 t1) (fun z=>nomatch z) fun tk=>fin _ tk t
  ·exact t.elim
 ·rename_i a cs
  obtain ⟨x1,r1,rfl,rx,r2⟩:=r.inv_cons;obtain ⟨x2,r3,rfl,ry,r4⟩:=r2.inv_cons;cases r4.inv_nil;cases rx.ref_inv;obtain ⟨u,v,rfl,ru,rw'⟩:=Vals.two rv;cases ru;rw [RelD] at ry;obtain ⟨ta,ys,rfl,sq,ry⟩:=ry;cases rw';split at t
  ·rename_i C fs l e z
   obtain ⟨t1,t2,t3,t⟩:=t;obtain ⟨dx,p⟩:=exc e;obtain ⟨its,rvs,tp,_⟩:=I.tuple sq;obtain ⟨o,e1,e2,n,e3⟩:=tp;have ee:=uk4 z ry rvs;subst ee;obtain ⟨oc,od,oda,osl⟩:=o;dsimp only at e2 e3;subst e2;subst e3;exact PySem.W.kia_tup (uh9 t1 t2) I.kIn p e1 (uu6 t1 t3) (fun z=>nomatch z) fun tk=>fin _ tk t
  ·exact t.elim
 ·exact t.elim
end
structure XL (K:PySem.W.Frag) (mg:Str->Option Value) (nm:Str) where
 C:Addr
 m:mg nm=some (.ref C)
 xc:xcIn K C VM=true
 b:XBase K C
structure XE (K:PySem.W.Frag) (mg:Str->Option Value) (L:Addr) (nm:Str) where
 C:Addr
 m:mg nm=some (.ref C)
 xc:xcIn K C (.ref L::VM)=true
 x:XcX K C
 ne:C ≠ L
def noX:XD:=fun _ _ _=>False
section
variable {X:Cx} {e:Expr} {es:List Expr} {p pos:Pos} {ts:TA3} {k:Nat} {S:Spx3} {x qual:Str} {st:Stmt} {ps:List Str} {C:Addr}
theorem uf7 (hm:X.mg x=some (.ref C)) (hg:Gl X x:=by rfl) (hd:(x == ("__debug__" : Str))=false:=by decide):E3 X (.Name x pos) (dC (.ref C)):=ux5 hg hm (v:=.ref C) rfl (fun _=>RelD.refI) hd
theorem vf6:Passes (CX1 X.prog X.w) X (lowX X.K noX):=by
 rintro pins σ H s e s' I ⟨a,C,dx,H',_,_,_,_,_,_,C',fs,ys,G,_,_,_,_,z⟩;exact z.elim
theorem ecN (d:FnAt X.K x qual st ps) (hm:X.mg x=some (.ref d.a)) (G:FnOk X.prog X.w X.K X.mg X.base (CX1 X.prog X.w) k d.a d.fd ps (ua5 X.K S)) (hr:Room k X.A) (ha:A3 X (e::es) ts) (hg:Gl X x:=by rfl) (hdb:(x == ("__debug__" : Str))=false:=by decide)
  (he:starEach (e::es) X.env=(false,eval e X.env)::starEach es X.env:=by rfl) (hpl:(backTo pos (starEach es X.env)).any (·.1)=false:=by rfl):E3 X (.Call (.Name x p) (e::es) [] pos) (um1 S noX ts) :=
 u26 (us2 G hr hg hm d.kp d.b .nil vf6 ha hdb he hpl) fun _ _ _=>ut8
end
theorem v45 {C L:Addr}:isX C L C=true:=by unfold isX;simp
theorem v46 {C L:Addr}:isX C L L=true:=by unfold isX;simp
theorem u64 {C L C2:Addr} (h:C2 ≠ C) (h2:C2 ≠ L):isX C L C2=false:=by unfold isX;simp [h,h2]
theorem vi5:(∀ K L C2 G q,xIsX K L [.non,.ref C2] G q=((∃ bm,xcIn K C2 bm=true) /\ q (.bl false) G)) /\ (∀ K L G q,xIsX K L [.non,.ty "ValueError"] G q=q (.bl false) G) /\
  (∀ K L a C2 G q,xIsX K L [.ref a,.ref C2] G q=(match G a with | some (.exc C _)=>xcIn K C (.ref L::VM)=true /\ XcX K C /\ (∃ bm,xcIn K C2 bm=true) /\ q (.bl (isX C L C2)) G | _=>False)) /\
  (∀ K L a G q,xIsX K L [.ref a,.ty "ValueError"] G q=(match G a with | some (.exc C _)=>xcIn K C (.ref L::VM)=true /\ XcX K C /\ q (.bl true) G | _=>False)) /\
  (∀ K L a cs G q,xIsX K L [.ref a,.tup cs] G q=(match G a,uc1 cs with | some (.exc C _),some l=>xcIn K C (.ref L::VM)=true /\ XcX K C /\ (∀ c ∈ l,∃ bm,xcIn K c bm=true) /\ q (.bl (l.any (isX C L))) G | _,_=>False)) :=
 ⟨fun _ _ _ _ _=>rfl,fun _ _ _ _=>rfl,fun _ _ _ _ _ _=>rfl,fun _ _ _ _ _=>rfl,fun _ _ _ _ _ _=>rfl⟩
theorem ud8 {S:Spx3} {ds:List D} {G:Gp} {r:XD} {q:DK} {post:D->Gp->Prop} (h:∀ R:DK,(∀ d G',post d G'->R d G')->S ds G R r) (k:∀ d G',post d G'->q d G'):∃ R,S ds G R r /\ ∀ d G',R d G'->q d G' :=
 ⟨post,h _ fun _ _ z=>z,k⟩
end L3
namespace L2
open PySem PySem.Spec PyProof.Rows
set_option maxHeartbeats 4000000
section
variable {X:Cx} {k:Nat} {C L fI:Addr} {fd:FuncData} {ps:List Str} {f x:Str} {p cpos:Pos} {e:Expr} {t:TA}
theorem held {pins:List (Addr × Obj)} {σ:St} {H:Hp} {s:Shared} {a:Addr} {dx:Option Addr} {n:Nat} (I:Inv X pins σ H s) (ta:H a=some (.ext (XN a C dx))) (I0:X.s₀.heap.objs.size<=a) (hp:∀ p ∈ X.pn++pins,p.1 ≠ a) (hL:a ≠ X.env.locals) (hc:∀ x c,X.env.cells.lookup x=some c->c ≠ a):Inv X pins σ (upd (del H a) a (.ext (XH a C dx))) s:=by
 obtain ⟨ob,ws,t0,g1,g2,g3,g4,g5,g6⟩:=(I.hok a _ ta).1;exact (I.untrack ta).track ud2 I0 hp hL hc ⟨⟨ob,ws,g1,g2,g3,g4⟩,⟨_,g1⟩,XH.stays⟩
theorem apart {pins:List (Addr × Obj)} {σ:St} {H:Hp} {s:Shared} {a:Addr} (I:Inv X pins σ H s) (le:s.heap.objs.size<=a):X.s₀.heap.objs.size<=a /\ (∀ p ∈ X.pn++pins,p.1 ≠ a) /\ a ≠ X.env.locals /\ ∀ x c,X.env.cells.lookup x=some c->c ≠ a:=by
 refine ⟨Nat.le_trans I.sz le,fun p hp z=>?_,Nat.ne_of_gt (Nat.lt_of_lt_of_le I.lt le),fun x c e z=>?_⟩
 ·obtain ⟨e1,_⟩:=I.pin p hp
  exact absurd (Nat.lt_of_lt_of_le (Heap.lt_size e1) le) (by rw [z];exact Nat.lt_irrefl _)
 ·obtain ⟨v,oc,e1,_⟩:=I.cell x c e
  exact absurd (Nat.lt_of_lt_of_le (Heap.lt_size e1) le) (by rw [z];exact Nat.lt_irrefl _)
end
end L2
namespace Rw
open PySem PySem.Spec PyProof.Rows L2 L3
def opG (sz x:Nat):Opd->Bool
 | .num n=>decide (n < 4294967296)
 | .box y=>decide (y < sz) && decide (y ≠ x)
def felG (rs:List Row) (at0:Nat):Row->Bool
 | .go x n k=>decide (rs[k]?=some (.come x n at0))
 | .come x n k=>decide (rs[k]?=some (.go x n at0))
 | _=>true
def ownG (sz:Nat):Row->Bool
 | .add x o=>decide (x < sz) && opG sz x o
 | .take x o=>decide (x < sz) && opG sz x o
 | .turn x i cs=>decide (x < sz) && (decide (i < 32) && cs.all fun c=>decide (c.1 < sz) && decide (c.1 ≠ x) && decide (c.2 < 32))
 | .swap x y=>decide (x < sz) && (decide (y < sz) && decide (y ≠ x))
 | .go x n _=>decide (x < sz) && decide (n < 4294967296)
 | .come x n _=>decide (x < sz) && decide (n < 4294967296)
def gd (sz:Nat) (rs:List Row) (at0:Nat) (r:Row):Bool:=ownG sz r && felG rs at0 r
def bad1 (sz:Nat) (rs:List Row):Nat->List Row->Option Nat
 | _,[]=>none
 | i,r::t=>if gd sz rs i r=true then bad1 sz rs (i+1) t else some i
def bad (sz:Nat) (rs:List Row):Option Nat:=bad1 sz rs 0 rs
end Rw
namespace L2
open PySem PySem.Spec PyProof.Rows
def Its (x:Str):It:=⟨fun i _=>i < x.cps.size,fun i H v H'=>H'=H /\ ∃ c,x.cps[i]?=some c /\ v=.str ⟨#[c]⟩,fun i _=>x.cps.size<=i⟩
theorem up8 {P:Program} {w:World} {K:PySem.W.Frag} {tg:Expr} (it:Addr) (x:Str) (t:Tok):Turn P w K tg (Its x) [it] it (fun i h=>h.IsStrIter it "str_ascii_iterator" x t i) where
 mem:=by simp
 obj:=fun i h st b hb=>by
  have e:b=it:=by simpa using hb
  subst e;obtain ⟨o,e,c,d⟩:=st;exact ⟨o,e,fun v z=>by rw [d] at z;cases z⟩
 keep:=fun i h h' st k=>let ⟨o,e,r⟩:=st;⟨o,k it (by simp) o e,r⟩
 item:=by
  intro X hP hw hK hc i pins s σ H E I hf st hg;subst hP hw hK;obtain ⟨f0,f1,f2,f3,f4,f5⟩:=hf it (by simp);refine (Walks.strAscii (prog:=X.prog) (w:=X.w) (I.ok.hd hc) it x t).item i s _ _ hg st fun v h' tk hv st' kk=>?_
  obtain ⟨c,u,hc',rfl⟩:=hv;have I1:Inv X pins σ H { s with heap:=h',toks:=tk }:=I.turned (fun b o hb e=>kk b o (by simpa using hb) e) f0 f1 f3 f4 f5
  obtain ⟨o,e,cc,d⟩:=id st';exact ⟨_,rfl,uw7 (s:={ s with heap:=h',toks:=tk }) e cc d (by decide) ⟨.str ⟨#[c]⟩,H,I1,⟨u,rfl⟩,⟨rfl,c,hc',rfl⟩,st',fun b hb=>(hf b hb).1⟩⟩
 done:=by
  intro X hP hw hK hc i pins s σ H E I hf st hg;subst hP hw hK;obtain ⟨f0,f1,f2,f3,f4,f5⟩:=hf it (by simp);have hg:x.cps.size<=i:=hg;exact wpAny_pyNext_ascii_end (I.ok.hd hc) st (by simpa using hg) fun h' eb=>⟨rfl,I.turned (t':=s.toks) (fun b o hb e=>eb b o hb e) f0 f1 f3 f4 f5⟩
 self:=fun _ _ _ _ _ st h=>wpAny_pyIter_striter_ascii st h
theorem up7 {P:Program} {w:World} {K:PySem.W.Frag} {tg:Expr} (it:Addr) (x:Str) (t:Tok):Turn P w K tg (Its x) [it] it (fun i h=>h.IsStrIter it "str_iterator" x t i) where
 mem:=by simp
 obj:=fun i h st b hb=>by
  have e:b=it:=by simpa using hb
  subst e;obtain ⟨o,e,c,d⟩:=st;exact ⟨o,e,fun v z=>by rw [d] at z;cases z⟩
 keep:=fun i h h' st k=>let ⟨o,e,r⟩:=st;⟨o,k it (by simp) o e,r⟩
 item:=by
  intro X hP hw hK hc i pins s σ H E I hf st hg;subst hP hw hK;obtain ⟨f0,f1,f2,f3,f4,f5⟩:=hf it (by simp);refine (Walks.strWide (prog:=X.prog) (w:=X.w) (I.ok.hd hc) it x t).item i s _ _ hg st fun v h' tk hv st' kk=>?_
  obtain ⟨c,u,hc',rfl⟩:=hv;have I1:Inv X pins σ H { s with heap:=h',toks:=tk }:=I.turned (fun b o hb e=>kk b o (by simpa using hb) e) f0 f1 f3 f4 f5
  obtain ⟨o,e,cc,d⟩:=id st';exact ⟨_,rfl,uw7 (s:={ s with heap:=h',toks:=tk }) e cc d (by decide) ⟨.str ⟨#[c]⟩,H,I1,⟨u,rfl⟩,⟨rfl,c,hc',rfl⟩,st',fun b hb=>(hf b hb).1⟩⟩
 done:=by
  intro X hP hw hK hc i pins s σ H E I hf st hg;subst hP hw hK;obtain ⟨f0,f1,f2,f3,f4,f5⟩:=hf it (by simp);have hg:x.cps.size<=i:=hg;exact wpAny_pyNext_wide_end (I.ok.hd hc) st (by simpa using hg) fun h' eb=>⟨rfl,I.turned (t':=s.toks) (fun b o hb e=>eb b o hb e) f0 f1 f3 f4 f5⟩
 self:=fun _ _ _ _ _ st h=>wpAny_pyIter_striter_wide st h
section
variable {X:Cx} {tg:Expr}
def iStr (tl:TE):TI:=fun σ H R=>tl σ H fun v H1=>∃ x,v=.str x /\ R (Its x) H1
theorem vq4 {l:Expr} {tl:TE} (hl:PE X l tl):PI X tg l (iStr tl):=by
 intro pins s σ H R I h
 (refine thn (hl pins s σ H _ I h) ?_;rintro v s1 ⟨y,H1,I1,r1,q1⟩)
 obtain ⟨x,rfl,q⟩:=q1;obtain ⟨t,rfl⟩:=r1;have fp:∀ b ∈ [s1.heap.objs.size],FpOk X pins H1 b:=fun b hb=>by
  have e:b=s1.heap.objs.size:=by simpa using hb
  subst e;exact I1.fpOk (Nat.le_refl _) (I1.hok.fresh (Nat.le_refl _))
 cases ha:x.cps.all (· < 128)
 ·exact wpAny_pyIter_wide ha ⟨s1.heap.objs.size,[s1.heap.objs.size],_,_,H1,rfl,I1.kept (t':=s1.toks) fun b o e=>Heap.get?_push_of_some _ e,up7 _ x t,⟨_,Heap.get?_push_size _ rfl,rfl,rfl⟩,fp,q⟩
 ·exact wpAny_pyIter_ascii ha ⟨s1.heap.objs.size,[s1.heap.objs.size],_,_,H1,rfl,I1.kept (t':=s1.toks) fun b o e=>Heap.get?_push_of_some _ e,up8 _ x t,⟨_,Heap.get?_push_size _ rfl,rfl,rfl⟩,fp,q⟩
theorem us5:OpR X (compareOp .LtE) (fun x y H Q=>∃ i j,x=.str i /\ y=.str j /\ Q (.bl (!decide (j.cps.toList < i.cps.toList))) H):=by
 intro pins s σ H x y v u Q I rx ry h;obtain ⟨i,j,rfl,rfl,q⟩:=h;obtain ⟨t,rfl⟩:=rx;obtain ⟨t',rfl⟩:=ry;exact PySem.P.le_str (u09 I q rfl)
def partsOf (s t:Str):List Str:=Builtin.Str.partsBetween s (Builtin.Str.occurrences s t 0 s.length (s.length+1)) t.length
theorem u65:∀ (ws:List Str) (n:Nat),Vals (ws.map V.str) (strsFrom n ws)
 | [],_=>.nil
 | w::ws,n=>.cons ⟨n,rfl⟩ (u65 ws (n+1))
end
end L2
namespace L3
open PySem PySem.Spec PyProof.Rows L2
section
variable {X:Cx} {K:PySem.W.Frag} {H:Hp} {o e tg:Expr} {es:List Expr} {te to:TE3} {ts:TA3} {apos cpos pos:Pos} {x:Str}
@[reducible] def sgns (x:Str):List D:=x.cps.toList.map fun c=>.str ⟨#[c]⟩
theorem uv3 {H0:Hp} {x:Str}:ItRel K H0 ⟨sgns x,fun _=>True⟩ (Its x) where
 go:=fun i G H l c _ hi=>by
  have hi:i < (sgns x).length:=hi
  show i < x.cps.size
  simpa [sgns] using hi
 stop:=fun i G H l c _ hi=>by
  have hi:(sgns x).length<=i:=hi
  show x.cps.size<=i
  simpa [sgns] using hi
 yld:=fun i G H v H' l c _ hi y=>by
  obtain ⟨rfl,n,hn,rfl⟩:=y;refine ⟨c,Le.refl _,.str ⟨#[n]⟩,?_,by rw [RelD]⟩
  show (sgns x)[i]?=_
  unfold sgns;rw [List.getElem?_map,Array.getElem?_toList,hn];rfl
def wStr (te:TE3):TI3:=fun σ G r=>te σ G fun d G1=>∃ x,d=.str x /\ r ⟨sgns x,fun _=>True⟩ G1
theorem vw1 (h:E3 X e te):I3 X tg e (wStr te):=v01 (vq4 h) fun σ H R hh=>by
 obtain ⟨σd,G,q,rs,c,t,f⟩:=hh;refine ⟨σd,G,_,rs,c,t,fun d G1 v H1 r1 c1 l1 t1=>?_⟩;obtain ⟨y,rfl,t2⟩:=t1;exact ⟨y,r1.str_inv,f _ _ _ _ uv3 c1 l1 t2⟩
@[reducible] def xLeS:R3:=fun x y G q=>∃ i j:Str,x=.str i /\ y=.str j /\ q (.bl (!decide (j.cps.toList < i.cps.toList))) G
theorem vm9:Op3 X (compareOp .LtE) xLeS:=u48 us5 fun x y H Q ⟨d,e,G,q,r1,r2,c,⟨i,j,e1,e2,t⟩,f⟩=>by
 subst e1 e2;exact ⟨i,j,r1.str_inv,r2.str_inv,f _ _ _ _ RelD.blI c (Le.refl H) t⟩
@[reducible] def xInS:R3:=fun x y G q=>∃ (c:Nat) (j:Str),x=.str ⟨#[c]⟩ /\ y=.str j /\ q (.bl (decide (c ∈ j.cps.toList))) G
theorem vy5:Op3 X (compareOp .In) xInS:=u48 us6 fun x y H Q ⟨d,e,G,q,r1,r2,c,⟨i,j,e1,e2,t⟩,f⟩=>by
 subst e1 e2;exact ⟨_,j,r1.str_inv,r2.str_inv,by rw [StrLaws.found_one];exact f _ _ _ _ RelD.blI c (Le.refl H) t⟩
theorem relS:∀ (ws:List Str),RelDs K H (ws.map .str) (ws.map V.str)
 | []=>.nil
 | w::ws=>.cons (by rw [RelD]) (relS ws)
theorem v53 {s:Str} (h:∃ t,X.mg x=some (.str s t)) (hg:Gl X x:=by rfl) (hdb:(x == ("__debug__" : Str))=false:=by decide):E3 X (.Name x pos) (dC (.str s)):=by
 obtain ⟨t,h⟩:=h;exact ux5 hg h (v:=.str s) ⟨t,rfl⟩ (fun _=>by rw [RelD]) hdb
end
end L3
namespace L2
open PySem PySem.Spec PyProof.Rows
set_option maxHeartbeats 4000000
section
variable {X:Cx}
theorem uy8:CallR X (.type "int") (fun xs H Q=>∃ (x:Str) (n:Int),xs=[.str x] /\ intText? x=some n /\ x.length<=640 /\ Q (.int n) H):=by
 intro pins s σ H xs us Q I r h;obtain ⟨x,n,rfl,hn,hl,q⟩:=h;obtain ⟨u,rfl,rx⟩:=vals1 r;obtain ⟨t,rfl⟩:=rx;exact PySem.W.KIN.call_text hn hl ⟨.int n,H,I.tok _,⟨_,rfl⟩,q⟩
theorem uy6:CallR X (.type "str") (fun xs H Q=>∃ i:Int,xs=[.int i] /\ i.natAbs.log2 < 1920 /\ Q (.str (Str.ofString (toString i))) H):=by
 intro pins s σ H xs us Q I r h;obtain ⟨i,rfl,hl,q⟩:=h;obtain ⟨u,rfl,rx⟩:=vals1 r;obtain ⟨t,rfl⟩:=rx;exact PySem.P.str_of_int hl ⟨.str _,H,I.tok _,⟨_,rfl⟩,q⟩
theorem vc2:SlR X (fun x lo hi H Q=>∃ y:Str,x=.str y /\ y.length<=sizeLine /\ Q (.str (Txt.slice y lo hi)) H):=by
 intro pins s σ H x v vl vu lo hi sl Q I rx hs pl pu h;obtain ⟨y,rfl,hy,q⟩:=h;obtain ⟨t,rfl⟩:=rx;refine ⟨"str",_,PySem.F.slot_str_getitem.lookup,typeIs_str _ _ _,?_⟩;obtain ⟨l,rfl,el⟩:∃ l:Option (Int × Tok),vl=partValue l /\ l.map (·.1)=lo:=by cases pl with
  | none=>exact ⟨none,rfl,rfl⟩
  | int i t=>exact ⟨some (i,t),rfl,rfl⟩
 obtain ⟨u,rfl,eu⟩:∃ l:Option (Int × Tok),vu=partValue l /\ l.map (·.1)=hi:=by cases pu with
  | none=>exact ⟨none,rfl,rfl⟩
  | int i t=>exact ⟨some (i,t),rfl,rfl⟩
 subst el;subst eu;refine wpAny_getItem_str_slice (l:=l) (u:=u) (st:=none) hs rfl ?_;refine post_val_or_str ⟨Nat.le_trans (Txt.slice_le y _ _) hy,fun t' k=>?_⟩;exact ⟨.str _,H,I.tok k,⟨t',rfl⟩,q⟩
theorem ut1:MtR X "str.split" (fun x vs H Q=>∃ s t:Str,x=.str s /\ vs=[.str t] /\ (t.length == 0)=false /\ s.length<=sizeLine /\ (Txt.split s t).length<=sizeLine /\ ∀ p,H p=none->Q (.ref p) (upd H p (.lst ((Txt.split s t).map V.str)))):=by
 intro pins s σ H x vs v us Q I rx rv h;obtain ⟨y,z,rfl,rfl,h2,h4,h5,q⟩:=h;obtain ⟨t,rfl⟩:=rx;obtain ⟨u,rfl,ru⟩:=rv.one;obtain ⟨t',rfl⟩:=ru;have one:Txt.split y z=[y]->EP X pins σ Q (.ref s.heap.objs.size) { s with heap:=s.heap.push { cls:=.type "list",data:=.seq [Value.str y t].toArray } }:=fun e=>by
  rw [e] at q;refine ⟨.ref s.heap.objs.size,_,I.laid (a:=s.heap.objs.size) (o:=.lst [V.str y]) (t':=s.toks) (fun b ob q=>Heap.get?_push_of_some _ q) (Nat.le_refl _) ?_,rfl,q _ (I.hok.fresh (Nat.le_refl _))⟩;exact ⟨by show 1<=sizeLine;decide,_,0,.cons ⟨t,rfl⟩ .nil,Heap.get?_push_size _ rfl⟩
 cases h1:(decide (y.length < z.length) || decide (Builtin.Str.strKind y < Builtin.Str.strKind z)) with
 | true=>exact call_meets PySem.F.slot_str_split (typeIs_str _ _ _) PySem.F.entry_str_split (PySem.F.args_str_split_2 _ _) (meets_str_split_cannot_occur y z t t' h1) (one (if_pos h1))
 | false =>
  cases h3:(Builtin.Str.occurrences y z 0 y.length (y.length+1)).isEmpty with
  | true=>exact call_meets PySem.F.slot_str_split (typeIs_str _ _ _) PySem.F.entry_str_split (PySem.F.args_str_split_2 _ _) (meets_str_split_not_found y z t t' h1 h2 h3) (one ((if_neg (ne_true_of_eq_false h1)).trans (if_pos h3)))
  | false =>
   have e:Txt.split y z=partsOf y z:=(if_neg (ne_true_of_eq_false h1)).trans (if_neg (ne_true_of_eq_false h3));rw [e] at h5 q;refine call_meets PySem.F.slot_str_split (typeIs_str _ _ _) PySem.F.entry_str_split (PySem.F.args_str_split_2 _ _) (meets_str_split_sep y z t t' h1 h2 h3 h4 h5) ?_;refine ⟨.ref s.heap.objs.size,_,I.laid (a:=s.heap.objs.size) (o:=.lst ((partsOf y z).map V.str)) (fun b ob q=>Heap.get?_push_of_some _ q) (Nat.le_refl _) ?_,rfl,q _ (I.hok.fresh (Nat.le_refl _))⟩;exact ⟨by rw [List.length_map];exact h5,_,0,u65 _ _,Heap.get?_push_size _ rfl⟩
end
end L2
namespace L3
open PySem PySem.Spec PyProof.Rows L2
set_option maxHeartbeats 4000000
section
variable {X:Cx} {K:PySem.W.Frag} {H:Hp} {o e tg:Expr} {es:List Expr} {te to:TE3} {ts:TA3} {apos cpos pos:Pos} {x:Str}
@[reducible] def va4:C3:=fun ds G q=>∃ (x:Str) (n:Int),ds=[.str x] /\ intText? x=some n /\ x.length<=640 /\ q (.int n) G
theorem uz6:Call3 X (.type "int") va4:=u30 uy8 <| by
 rintro xs H Q ⟨ds,G,q,r,c,⟨x,n,rfl,h1,h2,t⟩,f⟩;obtain ⟨v,rfl,r1⟩:=r.one;cases r1.str_inv;exact ⟨x,n,rfl,h1,h2,f _ _ _ _ RelD.intI c (Le.refl H) t⟩
@[reducible] def vn2:C3:=fun ds G q=>∃ i:Int,ds=[.int i] /\ i.natAbs.log2 < 1920 /\ q (.str (Str.ofString (toString i))) G
theorem ub0:Call3 X (.type "str") vn2:=u30 uy6 <| by
 rintro xs H Q ⟨ds,G,q,r,c,⟨i,rfl,h1,t⟩,f⟩;obtain ⟨v,rfl,r1⟩:=r.one;cases r1.int_inv;exact ⟨i,rfl,h1,f _ _ _ _ (by rw [RelD]) c (Le.refl H) t⟩
@[reducible] def xSlX:RS3:=fun x lo hi G q=>∃ y:Str,x=.str y /\ y.length<=sizeLine /\ q (.str (Txt.slice y lo hi)) G
theorem uz7:SlR X (vh6 X.K xSlX):=vn5 vc2 <| by
 rintro x lo hi H Q ⟨d,G,q,r1,c,⟨y,rfl,hy,t⟩,f⟩;exact ⟨y,r1.str_inv,hy,f _ _ _ _ (by rw [RelD]) c (Le.refl H) t⟩
@[reducible] def ut3:M3:=fun x ds G q=>∃ s t:Str,x=.str s /\ ds=[.str t] /\ (t.length == 0)=false /\ s.length<=sizeLine /\ (Txt.split s t).length<=sizeLine /\ ∀ p,G p=none->q (.ref p) (gup G p (.lst ((Txt.split s t).map .str)))
theorem uc9 (ho:E3 X o to) (ha:A3 X (e::es) ts) (hbase:attributeBase o "split" X.env (eval o X.env)=eval o X.env:=by rfl)
  (hfew:((backTo cpos (starEach (e::es) X.env)).all (fun x=>!x.1) && (backToKw cpos (keywordEach [] X.env)).all (fun x=>x.1.isSome)
   && decide ((e::es).length+([]:List Keyword).length+(if ([]:List Keyword).isEmpty then 0 else 1) < 30))=true:=by rfl)
  (hline:(apos.endLine == cpos.line)=true:=by rfl) (hs:starEach (e::es) X.env=(false,eval e X.env)::starEach es X.env:=by rfl) (hplain:(backTo cpos (starEach es X.env)).any (·.1)=false:=by rfl) :
  E3 X (.Call (.Attribute o "split" apos) (e::es) [] cpos) (dBM "str" ut3 to ts) :=
 u26 (vf4 PySem.F.plainAttrs_str PySem.F.slot_str_split PySem.F.type_str_split (up4 (r':=lowM X.K ut3) ut1 <| by
  rintro x xs H Q ⟨d,ds,G,q,r1,r2,c,⟨s,t,rfl,rfl,h1,h2,h3,tt⟩,f⟩;obtain ⟨u,rfl,ru⟩:=r2.one;cases ru.str_inv;exact ⟨s,t,r1.str_inv,rfl,h1,h2,h3,fun p hp=>f _ _ _ _ RelD.refI (c.lstNew hp (relS _)) (Le.fresh hp) (tt p (c.fresh hp))⟩) ho ha hbase hfew hline hs hplain) fun _ _ _=>ut9 (ty_str _)
end
def numS (k:Nat):Str:=Str.ofString (toString (k:Int))
theorem uk9 (k:Nat):(numS k).cps.toList=(Nat.toDigits 10 k).map Char.toNat:=PySem.W.KIN.signs_num k
def uh7 (cs:List Nat):Bool:=cs.length != 0 && decide (cs.length<=4) && cs.all (fun c=>decide (48<=c) && decide (c<=57)) && (cs.length == 1 || cs.head? != some 48)
theorem vf9:(List.range 10000).all (fun k=>uh7 ((Nat.toDigits 10 k).map Char.toNat))=true:=by decide
theorem v84 {k:Nat} (h:k<=9999):uh7 (numS k).cps.toList=true:=by
 rw [uk9];exact List.all_eq_true.mp vf9 k (List.mem_range.mpr (by omega))
theorem str_len (x:Str):x.length=x.cps.toList.length:=by simp [Str.length]
theorem u57 {k:Nat} (h:k<=9999):1<=(numS k).length /\ (numS k).length<=4 /\ (∀ c ∈ (numS k).cps.toList,48<=c /\ c<=57) /\ ((numS k).length=1 \/ (numS k).cps.toList.head? ≠ some 48):=by
 have e:=v84 h;unfold uh7 at e;rw [str_len];simp only [Bool.and_eq_true,bne_iff_ne,ne_eq,decide_eq_true_eq,List.all_eq_true,Bool.or_eq_true,beq_iff_eq] at e;obtain ⟨⟨⟨e1,e2⟩,e3⟩,e4⟩:=e;exact ⟨by omega,e2,e3,e4⟩
theorem uh6 {k:Nat} (h:k<=9999):intText? (numS k)=some (k:Int):=by
 have e:(10:Int) ^ 10=10000000000:=by decide
 exact PySem.W.KIN.num_reads (by omega) (by rw [e];omega)
def wdS:Pm->Str
 | none => "!"
 | some p=>(if p.1 then ("+" : Str) else "-")++numS p.2
def wOk:Pm->Prop
 | none=>True
 | some p=>p.2<=9999
theorem u94 (a b:Str):(a++b).cps.toList=a.cps.toList++b.cps.toList:=by
 show (a.cps++b.cps).toList=_
 rw [Array.toList_append]
theorem u43 (p:Bool × Nat):(wdS (some p)).cps.toList=(if p.1 then 43 else 45)::(numS p.2).cps.toList:=by
 show ((if p.1 then ("+" : Str) else "-")++numS p.2).cps.toList=_
 rw [u94];cases p.1
 ·rfl
 ·rfl
theorem up5 {p:Pm} (h:wOk p):1<=(wdS p).length /\ (wdS p).length<=5:=by
 cases p with
 | none=>exact ⟨by decide,by decide⟩
 | some p =>
  rw [str_len,u43,List.length_cons,<- str_len];have:=u57 h;omega
theorem vb0 {p:Pm} (h:wOk p):32 ∉ (wdS p).cps.toList:=by
 cases p with
 | none=>decide
 | some p =>
  rw [u43,List.mem_cons];rintro (e | e)
  ·cases hb:p.1 <;> rw [hb] at e <;> cases e
  ·have:=(u57 h).2.2.1 32 e
   omega
theorem u32 {a b:Str} (h:a.cps.toList=b.cps.toList):a=b:=Str.ext' (Array.toList_inj.mp h)
theorem va9 (p:Bool × Nat) (h:p.2<=9999):Txt.slice (wdS (some p)) (some 1) none=numS p.2:=by
 have hl:=up5 (p:=some p) h;rw [slice_from_eq (b:=((wdS (some p)).length:Int)) (by decide) (by omega) rfl];apply u32
 show List.take _ (List.drop (1:Int).toNat (wdS (some p)).cps.toList)=_
 rw [u43]
 show List.take _ (numS p.2).cps.toList=_
 apply List.take_of_length_le;rw [<- str_len];have:(wdS (some p)).length=(numS p.2).length+1:=by rw [str_len,u43,List.length_cons,<- str_len]
 omega
theorem vn9 (p:Bool × Nat) (h:p.2<=9999):(wdS (some p)=("!" : Str))=False:=eq_false fun e=>by
 have e1:=congrArg (fun x:Str=>x.cps.toList.head?) e;rw [u43] at e1;have e2:(("!" : Str).cps.toList.head?)=some 33:=by decide
 rw [e2] at e1;cases hb:p.1 <;> rw [hb] at e1 <;> simp at e1
theorem u82 (c:Nat):∀ (w:Str) (v:Str) (r:List Str),(Str.join ⟨#[c]⟩ (w::v::r)).cps.toList=w.cps.toList++c::(Str.join ⟨#[c]⟩ (v::r)).cps.toList:=fun w v r=>by
 show ((w++(⟨#[c]⟩:Str))++Str.join ⟨#[c]⟩ (v::r)).cps.toList=_
 rw [u94,u94,List.append_assoc];rfl
theorem um3 {c:Nat}:∀ {a a' r r':List Nat},c ∉ a->c ∉ a'->a++c::r=a'++c::r'->a=a' /\ r=r'
 | [],[],r,r',_,_,e=>by cases e;exact ⟨rfl,rfl⟩
 | [],x::a',r,r',_,h,e=>by
  have e:c::r=x::(a'++c::r'):=e;cases e;exact absurd List.mem_cons_self h
 | x::a,[],r,r',h,_,e=>by
  have e:x::(a++c::r)=c::r':=e;cases e;exact absurd List.mem_cons_self h
 | x::a,y::a',r,r',h,h',e=>by
  have e:x::(a++c::r)=y::(a'++c::r'):=e;injection e with e1 e2
  obtain ⟨z1,z2⟩:=um3 (fun z=>h (List.mem_cons_of_mem _ z)) (fun z=>h' (List.mem_cons_of_mem _ z)) e2;exact ⟨by rw [e1,z1],z2⟩
theorem uf4 {c:Nat}:∀ {ws vs:List Str},ws ≠ []->vs ≠ []->(∀ w ∈ ws,c ∉ w.cps.toList)->(∀ w ∈ vs,c ∉ w.cps.toList)->Str.join ⟨#[c]⟩ ws=Str.join ⟨#[c]⟩ vs->ws=vs
 | [],_,h,_,_,_,_=>absurd rfl h
 | _,[],_,h,_,_,_=>absurd rfl h
 | [w],[v],_,_,_,_,e=>by
  have e:w=v:=e;rw [e]
 | [w],v::v'::r,_,_,h,_,e=>by
  have e1:=congrArg (fun x:Str=>x.cps.toList) e;rw [u82] at e1;have e1:w.cps.toList=v.cps.toList++c::(Str.join ⟨#[c]⟩ (v'::r)).cps.toList:=e1;exact absurd (by rw [e1];simp) (h w List.mem_cons_self)
 | w::w'::r,[v],_,_,_,h,e=>by
  have e1:=congrArg (fun x:Str=>x.cps.toList) e;rw [u82] at e1;have e1:w.cps.toList++c::(Str.join ⟨#[c]⟩ (w'::r)).cps.toList=v.cps.toList:=e1;exact absurd (by rw [<- e1];simp) (h v List.mem_cons_self)
 | w::w'::r,v::v'::r',_,_,h,h',e=>by
  have e1:=congrArg (fun x:Str=>x.cps.toList) e;rw [u82,u82] at e1;obtain ⟨z1,z2⟩:=um3 (h w List.mem_cons_self) (h' v List.mem_cons_self) e1;rw [u32 z1,uf4 (ws:=w'::r) (vs:=v'::r') (by simp) (by simp) (fun x hx=>h x (List.mem_cons_of_mem _ hx)) (fun x hx=>h' x (List.mem_cons_of_mem _ hx)) (u32 z2)]
theorem v05 (x y:Str):Txt.split x y ≠ []:=by
 unfold Txt.split;split
 ·simp
 ·split
  ·simp
  ·intro e
   have:=congrArg List.length e;rw [length_partsBetween] at this;simp at this
theorem blank:(" " : Str)=⟨#[32]⟩:=by decide
theorem uk0 {ws:List Str} (h0:ws ≠ []) (h:∀ w ∈ ws,32 ∉ w.cps.toList):Txt.split (jn " " ws) " " = ws:=by
 have e:jn " " ws=Str.join " " ws:=StrLaws.glued_eq_join _ _;refine uf4 (c:=32) (v05 _ _) h0 ?_ h ?_
 ·rw [blank]
  exact StrLaws.split_free _ 32
 ·rw [<- blank,StrLaws.join_split,e]
theorem u76 (ws:List Str):(jn " " ws).length=(ws.map (·.length)).sum+(ws.length - 1):=by
 have:=size_glued " " ws
 show (Builtin.Str.glued " " ws).length=_
 rw [this,show (" " : Str).length=1 by decide,Nat.mul_one]
theorem vo9 {ws:List Str} (h:∀ w ∈ ws,w.length<=5):(ws.map (·.length)).sum<=5 * ws.length:=by
 induction ws with
 | nil=>simp
 | cons w ws ih =>
  rw [List.map_cons,List.sum_cons,List.length_cons];have:=h w List.mem_cons_self;have:=ih fun x hx=>h x (List.mem_cons_of_mem _ hx)
  omega
theorem ul7 (ws:List Str):∀ a:Nat,ws.foldl (·+·.length+(" " : Str).length) a=a+(ws.map (·.length)).sum+ws.length:=by
 induction ws with
 | nil=>intro a;simp
 | cons w ws ih =>
  intro a;rw [List.foldl_cons,ih,List.map_cons,List.sum_cons,List.length_cons,show (" " : Str).length=1 by decide];omega
theorem uu9 {ws:List Str} (h:∀ w ∈ ws,w.length<=5) (hl:ws.length<=3000):Builtin.Str.tooLong ((ws.toArray).foldl (·+·.length+(" " : Str).length) 0)=false /\ (jn " " ws).length<=sizeLine:=by
 have s:=vo9 h;have z:(100000:Nat)<=sizeLine:=by decide
 refine ⟨?_,?_⟩
 ·rw [List.foldl_toArray,ul7]
  unfold Builtin.Str.tooLong;exact decide_eq_false (by omega)
 ·rw [u76];omega
def plS (w:List Pm):Str:=jn " " (w.map wdS)
theorem ve4 {w:List Pm} (h:∀ p ∈ w,wOk p):∀ x ∈ w.map wdS,32 ∉ x.cps.toList:=fun x hx=>by
 obtain ⟨p,hp,rfl⟩:=List.mem_map.mp hx;exact vb0 (h p hp)
theorem ue7 {w:List Pm} (h:∀ p ∈ w,wOk p):∀ x ∈ w.map wdS,x.length<=5:=fun x hx=>by
 obtain ⟨p,hp,rfl⟩:=List.mem_map.mp hx;exact (up5 (h p hp)).2
theorem v16 {w:List Pm} (h0:w ≠ []) (h:∀ p ∈ w,wOk p):Txt.split (plS w) " " = w.map wdS:=uk0 (by simpa using h0) (ve4 h)
theorem vq3:plS [] = "" := by decide
theorem vz7 {w:List Pm} (h0:w ≠ []) (h:∀ p ∈ w,wOk p):(plS w=("" : Str))=False:=eq_false fun e=>by
 cases w with
 | nil=>exact h0 rfl
 | cons p w =>
  have e1:=congrArg Str.length e;rw [show plS (p::w)=jn " " ((p::w).map wdS) from rfl,u76,List.map_cons,List.map_cons,List.sum_cons,show ("" : Str).length=0 by decide] at e1;have:=(up5 (h p List.mem_cons_self)).1;omega
end L3
namespace L3
open PySem PySem.Spec PyProof.Rows L2
theorem lenS {z:Str} {G:Gp} {q:DK}:xLen [.str z] G q=(z.length<=sizeLine /\ q (.int z.length) G):=rfl
theorem ixS {z:Str} {i:Int} {G:Gp} {q:DK}:xIx (.str z) (.int i) G q=(z.length<=sizeLine /\ (match atI z.cps.toList i with | some c=>q (.str ⟨#[c]⟩) G | none=>False)):=rfl
theorem uf2 {k:Nat} (h:k<=9999):((k:Int)).natAbs.log2 < 1920:=by
 rw [Int.natAbs_natCast]
 by_cases h0:k=0
 ·subst h0;decide
 ·exact (Nat.log2_lt h0).mpr (Nat.lt_of_le_of_lt h (Nat.lt_of_lt_of_le (show 9999 < 2 ^ 14 by decide) (Nat.pow_le_pow_right (by decide) (by decide))))
theorem most4:(Str.ofString (toString (9999:Int))).length=4:=by decide
theorem at0 {α:Type} {c:α} {r:List α}:atI (c::r) 0=some c:=by
 unfold atI ixN;rw [if_pos (by decide),if_pos (by rw [List.length_cons];omega)];rfl
theorem one_eq {c d:Nat}:((⟨#[c]⟩:Str)=⟨#[d]⟩)=(c=d):=by
 apply propext
 constructor
 ·intro e
  have:=congrArg (fun x:Str=>x.cps.toList) e;simpa using this
 ·rintro rfl;rfl
theorem zero_mk:("0" : Str)=⟨#[48]⟩:=by decide
theorem plus_mk:("+" : Str)=⟨#[43]⟩:=by decide
theorem minus_mk:("-" : Str)=⟨#[45]⟩:=by decide
theorem figures {c:Nat} (h:48<=c /\ c<=57):decide (c ∈ ("0123456789" : Str).cps.toList)=true:=by
 have:c=48 \/ c=49 \/ c=50 \/ c=51 \/ c=52 \/ c=53 \/ c=54 \/ c=55 \/ c=56 \/ c=57:=by omega
 rcases this with e | e | e | e | e | e | e | e | e | e <;> subst e <;> decide
end L3
namespace Rw
open PySem PySem.Spec PyProof.Rows L2 L3 Law
set_option maxHeartbeats 4000000
def rnp (rs:List Row) (bs:List Int):List Int:=rs.foldl (stp 1) bs
theorem uc0 {a b:List Row} {bs:List Int}:rnp (a++b) bs=rnp b (rnp a bs):=List.foldl_append
theorem u67 {r:Row} {b:List Row} {bs:List Int}:rnp (r::b) bs=rnp b (stp 1 bs r):=rfl
theorem ub9 {bs:List Int}:rnp [] bs=bs:=rfl
def tg (fr fr':Nat):Row->Prop
 | .add x o=>fr<=x /\ x < fr' /\ o.ok fr' x
 | .take x o=>fr<=x /\ x < fr' /\ o.ok fr' x
 | .turn x i cs=>fr<=x /\ x < fr' /\ i < 32 /\ cs.length<=2 /\ ∀ c ∈ cs,c.1 < fr' /\ c.1 ≠ x /\ c.2 < 32
 | _=>False
theorem uk6 {a b x:Nat} {o:Opd} (h:o.ok a x) (hb:a<=b):o.ok b x:=by
 cases o with
 | num n=>exact h
 | box y=>exact ⟨Nat.lt_of_lt_of_le h.1 hb,h.2⟩
theorem ub6 {fr0 fr fr1 fr':Nat} {r:Row} (h:tg fr fr1 r) (h0:fr0<=fr) (h1:fr1<=fr'):tg fr0 fr' r:=by
 cases r with
 | add x o=>exact ⟨Nat.le_trans h0 h.1,Nat.lt_of_lt_of_le h.2.1 h1,uk6 h.2.2 h1⟩
 | take x o=>exact ⟨Nat.le_trans h0 h.1,Nat.lt_of_lt_of_le h.2.1 h1,uk6 h.2.2 h1⟩
 | turn x i cs=>exact ⟨Nat.le_trans h0 h.1,Nat.lt_of_lt_of_le h.2.1 h1,h.2.2.1,h.2.2.2.1,fun c hc=>⟨Nat.lt_of_lt_of_le (h.2.2.2.2 c hc).1 h1,(h.2.2.2.2 c hc).2⟩⟩
 | _=>exact h.elim
theorem vy9 {fr fr' sz:Nat} {r:Row} (h:tg fr fr' r) (hs:fr'<=sz):r.ok sz:=by
 have h:=ub6 h (Nat.le_refl _) hs;cases r with
 | add x o=>exact ⟨h.2.1,h.2.2⟩
 | take x o=>exact ⟨h.2.1,h.2.2⟩
 | turn x i cs=>exact ⟨h.2.1,h.2.2.1,h.2.2.2.1,h.2.2.2.2⟩
 | _=>exact h.elim
theorem uw6 {bs:List Int} {x i:Nat} {o:Opd} (h:x < bs.length):gt (stp 1 bs (.add x o)) i=if i=x then (gt bs x+val bs o) % 4294967296 else gt bs i:=by
 show gt (bs.set x ((gt bs x+1 * val bs o) % 4294967296)) i=_
 rw [uw4 h,Int.one_mul]
theorem ui3 {bs:List Int} {x i:Nat} {o:Opd} (h:x < bs.length):gt (stp 1 bs (.take x o)) i=if i=x then (gt bs x - val bs o) % 4294967296 else gt bs i:=by
 show gt (bs.set x ((gt bs x - 1 * val bs o) % 4294967296)) i=_
 rw [uw4 h,Int.one_mul]
theorem ui2 {bs:List Int} {x i j:Nat} {cs:List (Nat × Nat)} (h:x < bs.length):gt (stp 1 bs (.turn x i cs)) j=if j=x then (if con bs cs=true then flp (gt bs x) i else gt bs x) else gt bs j:=by
 show gt (if con bs cs=true then bs.set x (flp (gt bs x) i) else bs) j=_
 by_cases hc:con bs cs=true
 ·rw [if_pos hc,if_pos hc,uw4 h]
 ·rw [if_neg hc,if_neg hc]
  split
  ·rename_i e;rw [e]
  ·rfl
theorem vb4 {fr fr':Nat} {r:Row} {bs:List Int} {i:Nat} (h:tg fr fr' r) (hb:fr'<=bs.length) (hi:i < fr \/ fr'<=i):gt (stp 1 bs r) i=gt bs i:=by
 cases r with
 | add x o=>have:=h.1;have:=h.2.1;rw [uw6 (by omega),if_neg (by omega)]
 | take x o=>have:=h.1;have:=h.2.1;rw [ui3 (by omega),if_neg (by omega)]
 | turn x j cs=>have:=h.1;have:=h.2.1;rw [ui2 (by omega),if_neg (by omega)]
 | _=>exact h.elim
structure Wv (fr fr':Nat) (new:List Row) (F:List Int->List Int->Prop):Prop where
 le:fr<=fr'
 tg:∀ r ∈ new,tg fr fr' r
 ef:∀ sz bs,BsOk sz bs->fr'<=sz->(∀ i,fr<=i->gt bs i=0)->F bs (rnp new bs)
theorem uj9 {fr fr' sz:Nat}:∀ {new:List Row} {bs:List Int},(∀ r ∈ new,Rw.tg fr fr' r)->BsOk sz bs->fr'<=sz->BsOk sz (rnp new bs) /\ ∀ i,i < fr \/ fr'<=i->gt (rnp new bs) i=gt bs i
 | [],bs,_,hb,_=>⟨hb,fun _ _=>rfl⟩
 | r::new,bs,h,hb,hz=>by
  have h1:=h r List.mem_cons_self;have ok1:=vp0 (s:=1) hb (vy9 h1 hz);obtain ⟨i1,i2⟩:=uj9 (new:=new) (bs:=stp 1 bs r) (fun x hx=>h x (List.mem_cons_of_mem _ hx)) ok1 hz;exact ⟨i1,fun i hi=>by rw [u67,i2 i hi,vb4 h1 (by rw [hb.len];exact hz) hi]⟩
theorem Wv.keep {fr fr' sz:Nat} {new:List Row} {F:List Int->List Int->Prop} {bs:List Int} (h:Wv fr fr' new F) (hb:BsOk sz bs) (hz:fr'<=sz):BsOk sz (rnp new bs) /\ ∀ i,i < fr \/ fr'<=i->gt (rnp new bs) i=gt bs i:=uj9 h.tg hb hz
theorem Wv.nil {fr:Nat} {F:List Int->List Int->Prop} (h:∀ bs,F bs bs):Wv fr fr [] F:=⟨Nat.le_refl _,fun r hr=>(by cases hr),fun _ bs _ _ _=>h bs⟩
theorem Wv.imp {fr fr':Nat} {new:List Row} {F F':List Int->List Int->Prop} (h:Wv fr fr' new F) (k:∀ bs bs',F bs bs'->F' bs bs'):Wv fr fr' new F':=⟨h.le,h.tg,fun sz bs a b c=>k _ _ (h.ef sz bs a b c)⟩
theorem Wv.seq {fr fr1 fr2:Nat} {n1 n2:List Row} {F1 F2:List Int->List Int->Prop} (h1:Wv fr fr1 n1 F1) (h2:Wv fr1 fr2 n2 F2) :
  Wv fr fr2 (n1++n2) (fun bs bs'=>∃ b1,F1 bs b1 /\ F2 b1 bs' /\ (∀ i,i < fr->gt b1 i=gt bs i) /\ ∀ i,i < fr1->gt bs' i=gt b1 i):=by
 refine ⟨Nat.le_trans h1.le h2.le,fun r hr=>?_,fun sz bs hb hz h0=>?_⟩
 ·rcases List.mem_append.mp hr with hr | hr
  ·exact ub6 (h1.tg r hr) (Nat.le_refl _) h2.le
  ·exact ub6 (h2.tg r hr) h1.le (Nat.le_refl _)
 ·have hz1:fr1<=sz:=Nat.le_trans h2.le hz
  obtain ⟨k1,k2⟩:=h1.keep hb hz1;obtain ⟨m1,m2⟩:=h2.keep k1 hz;rw [uc0];exact ⟨rnp n1 bs,h1.ef sz bs hb hz1 h0,h2.ef sz _ k1 hz fun i hi=>by rw [k2 i (.inr hi)];exact h0 i (Nat.le_trans h1.le hi),fun i hi=>k2 i (.inl hi),fun i hi=>m2 i (.inl hi)⟩
def okW (W x y fr:Nat):Prop:=1<=W /\ W<=16 /\ x < fr /\ y < fr
def Sg2 (W x y b:Nat) (o:Str):List Int->List Int->Prop:=fun bs bs'=>∀ a c:Nat,gt bs x=(a:Int)->gt bs y=(c:Int)->a < 2 ^ W->c < 2 ^ W->gt bs' b=((rkB W o a c:Nat):Int)
theorem p16 {W:Nat} (h:W<=16):2 ^ W<=65536:=Nat.pow_le_pow_right (by decide) h
theorem ub7 {r:Row} {bs:List Int}:(stp 1 bs r).length=bs.length:=by
 cases r with
 | add=>exact List.length_set
 | take=>exact List.length_set
 | turn x i cs=>show (if con bs cs=true then bs.set x _ else bs).length=_;split;exact List.length_set;rfl
 | swap=>show ((bs.set _ _).set _ _).length=_;rw [List.length_set,List.length_set]
 | go=>rfl
 | come=>rfl
theorem uz0 (a k:Nat):bit (a:Int) k=((a / 2 ^ k % 2:Nat):Int):=by
 unfold bit;rw [Int.natCast_emod,Int.natCast_ediv,Int.natCast_pow];rfl
theorem o1 {x fr:Nat} (k:Nat) (h:x < fr):x < fr+k:=Nat.lt_add_right k h
theorem o2 {x fr:Nat} (k:Nat) (h:x < fr):x ≠ fr+k:=Nat.ne_of_lt (o1 k h)
theorem o3 {a:Nat} (h:a < 65536):((0:Int)+a) % 4294967296=a:=by omega
theorem o4 {a c:Nat} (h:a < 65536) (h':c < 65536):((a:Int)+c) % 4294967296=((a+c:Nat):Int):=by omega
theorem o5 {v k:Nat} (h:v < 4294967296) (h':k<=v):((v:Int) - k) % 4294967296=((v - k:Nat):Int):=by omega
def andR (fr x y:Nat) (k:Nat):List Row:=(List.range k).map fun i=>.turn fr i [(x,i),(y,i)]
theorem v75 (a k:Nat):(!decide (bit (a:Int) k=0))=a.testBit k:=by
 rw [uz0,Nat.testBit_eq_decide_div_mod_eq]
 rcases Nat.mod_two_eq_zero_or_one (a / 2 ^ k) with h | h <;> rw [h] <;> rfl
theorem mod_succ (x k:Nat):x % 2 ^ (k+1)=x % 2 ^ k+2 ^ k * (if x.testBit k=true then 1 else 0):=by
 rw [Nat.pow_succ,Nat.mod_mul,Nat.testBit_eq_decide_div_mod_eq]
 rcases Nat.mod_two_eq_zero_or_one (x / 2 ^ k) with h | h <;> rw [h] <;> rfl
theorem con2 {bs:List Int} {x y i:Nat}:con bs [(x,i),(y,i)]=((!decide (bit (gt bs x) i=0)) && !decide (bit (gt bs y) i=0)):=by
 show ([(x,i),(y,i)].all fun c=>!decide (bit (gt bs c.1) c.2=0))=_
 simp
theorem vj3 {v k:Nat} (h:v < 2 ^ k):flp (v:Int) k=((v+2 ^ k:Nat):Int):=by
 have:bit (v:Int) k=0:=by rw [uz0,Nat.div_eq_of_lt h];rfl
 show (v:Int)+2 ^ k * (1 - 2 * bit (v:Int) k)=_
 rw [this,Int.natCast_add,Int.natCast_pow]
 show (v:Int)+2 ^ k * 1=_
 rw [Int.mul_one];rfl
theorem uz1 {fr x y sz:Nat} (hx:x < fr) (hy:y < fr) {bs:List Int} (hb:BsOk sz bs) (hz:fr+1<=sz) (h0:gt bs fr=0) {a c:Nat} (ea:gt bs x=(a:Int)) (ec:gt bs y=(c:Int)):∀ k,k<=32->gt (rnp (andR fr x y k) bs) fr=(((a &&& c) % 2 ^ k:Nat):Int) /\ (rnp (andR fr x y k) bs).length=bs.length /\ ∀ i,i ≠ fr->gt (rnp (andR fr x y k) bs) i=gt bs i
 | 0,_=>⟨by rw [show andR fr x y 0=[] from rfl,ub9,h0,Nat.pow_zero,Nat.mod_one];rfl,rfl,fun _ _=>rfl⟩
 | k+1,hk=>by
  obtain ⟨i1,i2,i3⟩:=uz1 hx hy hb hz h0 ea ec k (by omega);have e:andR fr x y (k+1)=andR fr x y k++[.turn fr k [(x,k),(y,k)]]:=by
   unfold andR;rw [List.range_succ,List.map_append];rfl
  rw [e,uc0,u67,ub9];have hl:=hb.len;refine ⟨?_,by rw [ub7,i2],fun i hi=>by rw [ui2 (by omega),if_neg hi];exact i3 i hi⟩;rw [ui2 (by omega),if_pos rfl,con2,i3 x (by omega),i3 y (by omega),ea,ec,v75,v75,i1,<- Nat.testBit_and,mod_succ];cases hb2:(a &&& c).testBit k with
  | true=>rw [if_pos rfl,if_pos rfl,vj3 (Nat.mod_lt _ (Nat.two_pow_pos k)),Nat.mul_one]
  | false=>rw [if_neg (by decide),if_neg (by decide),Nat.mul_zero,Nat.add_zero]
theorem w_and {W x y fr:Nat} (h:okW W x y fr):Wv fr (fr+1) (andR fr x y W) (Sg2 W x y fr "&"):=by
 obtain ⟨hW,hW2,hx,hy⟩:=h;refine ⟨by omega,fun r hr=>?_,fun sz bs hb hz h0 a c ea ec ha hc=>?_⟩
 ·obtain ⟨i,hi,rfl⟩:=List.mem_map.mp hr
  have hi:=List.mem_range.mp hi;refine ⟨by omega,by omega,by omega,by simp,fun c hc=>?_⟩
  rcases List.mem_cons.mp hc with e | hc
  ·rw [e];exact ⟨by show x < _;omega,by show x ≠ _;omega,by show i < 32;omega⟩
  ·rw [List.mem_singleton.mp hc];exact ⟨by show y < _;omega,by show y ≠ _;omega,by show i < 32;omega⟩
 ·rw [(uz1 hx hy hb hz (h0 fr (Nat.le_refl _)) ea ec W (by omega)).1]
  have er:rkB W "&" a c=a &&& c:=by unfold rkB;rw [if_neg (by decide),if_neg (by decide),if_pos rfl]
  rw [er,Nat.mod_eq_of_lt (Nat.and_lt_two_pow _ hc)]
theorem w_sum {W x y fr:Nat} (h:okW W x y fr) (n:Nat) (hn:n<=2):Wv fr (fr+2) (andR fr x y W++([.add (fr+1) (.box x),.add (fr+1) (.box y)]++List.replicate n (.take (fr+1) (.box fr)))) (fun bs bs'=>∀ a c:Nat,gt bs x=(a:Int)->gt bs y=(c:Int)->a < 2 ^ W->c < 2 ^ W->gt bs' (fr+1)=(((a+c - n * (a &&& c):Nat)):Int)):=by
 have ha:=w_and h;obtain ⟨hW,hW2,hx,hy⟩:=h;have l1:fr+1 < fr+2:=Nat.lt_succ_self _;have l0:fr<=fr+1:=Nat.le_succ _;refine ⟨Nat.le_add_right _ _,fun r hr=>?_,fun sz bs hb hz h0 a c ea ec hA hC=>?_⟩
 ·rcases List.mem_append.mp hr with hr | hr
  ·exact ub6 (ha.tg r hr) (Nat.le_refl _) (Nat.le_of_lt l1)
  rcases List.mem_append.mp hr with hr | hr
  ·rcases List.mem_cons.mp hr with e | hr
   ·rw [e];exact ⟨l0,l1,o1 2 hx,o2 1 hx⟩
   ·rw [List.mem_singleton.mp hr];exact ⟨l0,l1,o1 2 hy,o2 1 hy⟩
  ·rw [(List.mem_replicate.mp hr).2];exact ⟨l0,l1,o1 1 (Nat.lt_succ_self _),Nat.ne_of_lt (Nat.lt_succ_self _)⟩
 ·have hp:=p16 hW2
  have hA':=Nat.lt_of_lt_of_le hA hp;have hC':=Nat.lt_of_lt_of_le hC hp;have z1:=Nat.le_trans (Nat.le_of_lt l1) hz;obtain ⟨k1,k2⟩:=ha.keep hb z1;have e1:=ha.ef sz bs hb z1 h0 a c ea ec hA hC;have er:rkB W "&" a c=a &&& c:=by unfold rkB;rw [if_neg (by decide),if_neg (by decide),if_pos rfl]
  rw [er] at e1;have hle:2 * (a &&& c)<=a+c:=by rw [Nat.two_mul];exact Nat.add_le_add Nat.and_le_left Nat.and_le_right
  rw [uc0,uc0];obtain ⟨b2,hb2⟩:∃ b2,b2=rnp (andR fr x y W) bs:=⟨_,rfl⟩;rw [<- hb2] at k1 k2 e1 ⊢;have l2:fr+1 < b2.length:=by rw [k1.len];exact hz
  rw [u67,u67,ub9];obtain ⟨b3,hb3⟩:∃ b3,b3=stp 1 b2 (.add (fr+1) (.box x)):=⟨_,rfl⟩;have l3:fr+1 < b3.length:=by rw [hb3,ub7];exact l2
  have g3:∀ i,gt b3 i=if i=fr+1 then (a:Int) else gt b2 i:=fun i=>by
   rw [hb3,uw6 l2,k2 (fr+1) (.inr (Nat.le_refl _)),h0 _ l0]
   show (if i=fr+1 then (0+gt b2 x) % 4294967296 else _)=_
   rw [k2 x (.inl hx),ea,o3 hA']
  rw [<- hb3];obtain ⟨b4,hb4⟩:∃ b4,b4=stp 1 b3 (.add (fr+1) (.box y)):=⟨_,rfl⟩;have l4:fr+1 < b4.length:=by rw [hb4,ub7];exact l3
  have g4:∀ i,gt b4 i=if i=fr+1 then ((a+c:Nat):Int) else gt b2 i:=fun i=>by
   rw [hb4,uw6 l3]
   show (if i=fr+1 then (gt b3 (fr+1)+gt b3 y) % 4294967296 else _)=_
   rw [g3 (fr+1),g3 y,g3 i,if_pos rfl,if_neg (o2 1 hy),k2 y (.inl hy),ec,o4 hA' hC'];split <;> rfl
  rw [<- hb4];have loop:∀ (m:Nat) (b:List Int) (v:Nat),fr+1 < b.length->gt b fr=((a &&& c:Nat):Int)->gt b (fr+1)=(v:Int)->v < 4294967296->m * (a &&& c)<=v->gt (rnp (List.replicate m (.take (fr+1) (.box fr))) b) (fr+1)=((v - m * (a &&& c):Nat):Int):=by
   intro m
   induction m with
   | zero=>intro b v _ _ hv _ _;rw [List.replicate_zero,ub9,hv,Nat.zero_mul,Nat.sub_zero]
   | succ m ih =>
    intro b v hlb hf hv hv2 hm;rw [List.replicate_succ,u67];rw [Nat.succ_mul] at hm;rw [ih (stp 1 b (.take (fr+1) (.box fr))) (v - (a &&& c)) (by rw [ub7];exact hlb) (by rw [ui3 hlb,if_neg (Nat.ne_of_lt (Nat.lt_succ_self _))];exact hf) ?_ (Nat.lt_of_le_of_lt (Nat.sub_le _ _) hv2) (Nat.le_sub_of_add_le hm),Nat.succ_mul]
    ·rw [Nat.sub_sub,Nat.add_comm]
    ·rw [ui3 hlb,if_pos rfl,hv]
     show ((v:Int) - gt b fr) % 4294967296=_
     rw [hf,o5 hv2 (Nat.le_trans (Nat.le_add_left _ _) hm)]
  exact loop n b4 (a+c) l4 (by rw [g4,if_neg (Nat.ne_of_lt (Nat.lt_succ_self _))];exact e1) (by rw [g4,if_pos rfl]) (Nat.lt_of_lt_of_le (Nat.add_lt_add hA' hC') (by decide)) (Nat.le_trans (Nat.mul_le_mul_right _ hn) hle)
theorem w_or {W x y fr:Nat} (h:okW W x y fr):Wv fr (fr+2) (andR fr x y W++([.add (fr+1) (.box x),.add (fr+1) (.box y)]++List.replicate 1 (.take (fr+1) (.box fr)))) (Sg2 W x y (fr+1) "|"):=by
 refine (w_sum h 1 (by decide)).imp fun bs bs' k a c ea ec ha hc=>?_
 rw [k a c ea ec ha hc];have er:rkB W "|" a c=a ||| c:=by unfold rkB;rw [if_neg (by decide),if_neg (by decide),if_neg (by decide),if_pos rfl]
 have e1:=bitOr_and (a:Int) (c:Int);rw [vr6,vl4] at e1;rw [er,e1,Nat.one_mul,Int.ofNat_sub (Nat.le_trans Nat.and_le_left (Nat.le_add_right a c)),Int.natCast_add]
def lfl (rp:Addr) (W fr st:Nat):List (Str × D):=[("wide",.int (W:Int)),("fresh",.int (fr:Int)),("rows",.ref rp),("steps",.int (st:Int))]
structure LoomAt (C:Addr) (G:Gp) (p rp:Addr) (W fr:Nat) (rows:List Row) (st:Nat):Prop where
 ob:G p=some (.ins C (lfl rp W fr st))
 ro:G rp=some (.lst (rows.map Row.d))
theorem LoomAt.pr {C:Addr} {G:Gp} {p rp:Addr} {W fr st:Nat} {rows:List Row} (h:LoomAt C G p rp W fr rows st):p ≠ rp:=fun e=>by have:=h.ro;rw [<- e,h.ob] at this;cases this
def LAdv (p rp:Addr) (G G':Gp):Prop:=∀ b o,b ≠ p->b ≠ rp->G b=some o->G' b=some o
theorem LAdv.refl {p rp:Addr} {G:Gp}:LAdv p rp G G:=fun _ _ _ _ h=>h
theorem LAdv.trans {p rp:Addr} {G G1 G2:Gp} (h:LAdv p rp G G1) (k:LAdv p rp G1 G2):LAdv p rp G G2:=fun b o h1 h2 e=>k b o h1 h2 (h b o h1 h2 e)
theorem LAdv.new {p rp q:Addr} {G G1:Gp} {o:DO} (h:LAdv p rp G G1) (hq:G1 q=none):LAdv p rp G (gup G1 q o):=fun b o h1 h2 e=>by have:=h b o h1 h2 e;rw [u06 (gne this hq)];exact this
theorem LoomAt.new {C:Addr} {G:Gp} {p rp q:Addr} {W fr st:Nat} {rows:List Row} {o:DO} (h:LoomAt C G p rp W fr rows st) (hq:G q=none):LoomAt C (gup G q o) p rp W fr rows st:=⟨by rw [u06 (gne h.ob hq)];exact h.ob,by rw [u06 (gne h.ro hq)];exact h.ro⟩
structure Plc (bs:List Str) (pl vs:List Nat) (fr:Nat):Prop where
 l1:pl.length=bs.length
 l2:vs.length=bs.length
 lt:∀ p ∈ pl,p < fr
end Rw
namespace L3
open PySem PySem.Spec PyProof.Rows L2
section
variable {X:Cx}
@[irreducible] def A3' (X:Cx) (es:List Expr) (t:TA3):Prop:=A3 X es t
@[irreducible] def S3' (X:Cx) (st:Stmt) (t:TS3):Prop:=S3 X st t
@[irreducible] def Ss3' (X:Cx) (l:List Stmt) (t:TS3):Prop:=Ss3 X l t
theorem A3'.of {es:List Expr} {t:TA3} (h:A3 X es t):A3' X es t:=by unfold A3';exact h
theorem A3'.to {es:List Expr} {t:TA3} (h:A3' X es t):A3 X es t:=by unfold A3' at h;exact h
theorem S3'.of {st:Stmt} {t:TS3} (h:S3 X st t):S3' X st t:=by unfold S3';exact h
theorem S3'.to {st:Stmt} {t:TS3} (h:S3' X st t):S3 X st t:=by unfold S3' at h;exact h
theorem Ss3'.of {l:List Stmt} {t:TS3} (h:Ss3 X l t):Ss3' X l t:=by unfold Ss3';exact h
theorem Ss3'.to {l:List Stmt} {t:TS3} (h:Ss3' X l t):Ss3 X l t:=by unfold Ss3' at h;exact h
end
end L3
namespace L2
open PySem PySem.Spec PyProof.Rows Builtin Builtin.Str
theorem uo0 (x y z : Str) (t u v w : Tok) (h0 : (u == 0 || v == 0) = false) (huv : (u == v) = false) (hyz : (y == z) = false) (hl : tooLong (x.length + (occurrences x y 0 x.length 1).length * z.length) = false) :
    Gives («str.replace» ⟨[.str x t,.str y u,.str z v,.int 1 w],[]⟩)
      (if ((occurrences x y 0 x.length 1).isEmpty || (y.length == 0 && z.length == 0))=true then .val (.str x t)
       else .str (glued z (partsBetween x (occurrences x y 0 x.length 1) y.length))):=by
  show Gives (if ((occurrences x y 0 x.length 1).isEmpty || (y.length == 0 && z.length == 0)) = true then (do rule "str.replace.nothing"; ret (.str x t)) else
          (do let same <- isSame (.str y u) (.str z v)
              if same=true then (do rule "str.replace.old-is-new";ret (.str x t)) else
              if tooLong (x.length+(occurrences x y 0 x.length 1).length * z.length)=true then unsupported "str.replace:memory" else
              retStr (glued z (partsBetween x (occurrences x y 0 x.length 1) y.length)))) _
  cases hc:((occurrences x y 0 x.length 1).isEmpty || (y.length == 0 && z.length == 0))
  · rw [isSame_str_other y z u v h0 huv hyz,hl]
    exact .of_eq rfl
  · exact .rule (.of_eq rfl)
theorem v11 {x y z:Str}:(glued z (partsBetween x (occurrences x y 0 x.length 1) y.length)).length<=x.length+z.length:=by
 have h1:(occurrences x y 0 x.length 1).length<=1:=StrLaws.occ_length_le x y 0 x.length 1;have hy:(glued y (partsBetween x (occurrences x y 0 x.length 1) y.length)).length=x.length:=by rw [StrLaws.glued_between_self]
 rw [size_glued,length_partsBetween,Nat.add_sub_cancel] at hy;rw [size_glued,length_partsBetween,Nat.add_sub_cancel];have h2:(occurrences x y 0 x.length 1).length * z.length<=1 * z.length:=Nat.mul_le_mul_right _ h1;omega
section
variable {X:Cx}
def PEp (X:Cx) (e:Expr) (t:TE):Prop :=
 ∀ (pins:List (Addr × Obj)) (s:Shared) (σ:St) (H:Hp) (Q:VK),Inv X pins σ H s->0 < s.toks->t σ H Q->wpAny (model X.prog X.w) X.A (eval e X.env) (EP X pins σ Q) X.xe s
def PAp (X:Cx) (es:List Expr) (t:TA):Prop :=
 ∀ (pos:Pos) (pins:List (Addr × Obj)) (s:Shared) (σ:St) (H:Hp) (Q:List V->Hp->Prop),Inv X pins σ H s->0 < s.toks->t σ H Q->wpAny (model X.prog X.w) X.A (spliced (backTo pos (starEach es X.env))) (AP X pins σ Q) X.xe s
theorem v24 {e:Expr} {es:List Expr} {te:TE} {t:TA} (ha:PEp X e te) (hr:PAp X es t) (hs:starEach (e::es) X.env=(false,eval e X.env)::starEach es X.env:=by rfl):PAp X (e::es) (un3 te t):=by
 intro pos pins s σ H Q I h0 h;rw [hs]
 show wpAny _ _ (spliced ((false,eval e X.env)::backTo pos (starEach es X.env))) _ _ s
 refine Calls.spliced_cons (wpAny_mono (wpAny_toks (ha pins s σ H _ I h0 h)) ?_ fun _ _ x=>x.2);rintro u s1 ⟨t1,x,H1,I1,r1,q1⟩;refine thn (hr pos pins s1 σ H1 _ I1 (Nat.lt_of_lt_of_le h0 t1) q1) ?_;rintro us s2 ⟨xs,H2,I2,r2,q2⟩;exact ⟨x::xs,H2,I2,.cons r1 r2,q2⟩
theorem vf7 {x:Str} {j:_} {p:Pos} {es:List Expr} {t:TA} (hr:PAp X es t) (hs:starEach (.Constant (.str x) j p::es) X.env=(false,eval (.Constant (.str x) j p) X.env)::starEach es X.env:=by rfl):PA X (.Constant (.str x) j p::es) (un3 (tC (.str x)) t):=by
 intro pos pins s σ H Q I h;rw [hs]
 show wpAny _ _ (spliced ((false,eval (.Constant (.str x) j p) X.env)::backTo pos (starEach es X.env))) _ _ s
 refine Calls.spliced_cons (Calls.Constant_str ?_);refine thn (hr pos pins _ σ H _ (I.tok _) (Nat.succ_pos _) h) ?_;rintro us s2 ⟨xs,H2,I2,r2,q2⟩;exact ⟨.str x::xs,H2,I2,.cons ⟨_,rfl⟩ r2,q2⟩
def vz0 (z:Str) (to:TE):TE:=fun σ H Q=>to σ H fun x H1=>∃ w:Str,x=.str w /\ w.length+z.length<=16777216 /\ ∀ r:Str,r.length<=w.length+z.length->Q (.str r) H1
theorem ve9 {o:Expr} {to:TE} {y z:Str} {j1 j2 j3:_} {p1 p2 p3 apos cpos:Pos} (hyz:(y == z)=false) (ho:PE X o to)
  (hbase:attributeBase o "replace" X.env (eval o X.env)=eval o X.env:=by rfl)
  (hfew:((backTo cpos (starEach [.Constant (.str y) j1 p1,.Constant (.str z) j2 p2,.Constant (.int 1) j3 p3] X.env)).all (fun x=>!x.1) && (backToKw cpos (keywordEach [] X.env)).all (fun x=>x.1.isSome)
   && decide ((3:Nat)+([]:List Keyword).length+(if ([]:List Keyword).isEmpty then 0 else 1) < 30))=true:=by rfl)
  (hline:(apos.endLine == cpos.line)=true:=by rfl) :
  PEp X (.Call (.Attribute o "replace" apos) [.Constant (.str y) j1 p1,.Constant (.str z) j2 p2,.Constant (.int 1) j3 p3] [] cpos) (vz0 z to):=by
 intro pins s σ H Q I h0 h;refine wpAny_Call_method_late hbase hfew hline rfl (wpAny_mono (wpAny_toks (ho pins s σ H _ I h)) ?_ fun _ _ x=>x.2);rintro v s1 ⟨t1,x,H1,I1,r1,w,rfl,hb,q⟩;obtain ⟨h1,h2⟩:=v73 (T := "str") I1 r1 rfl;obtain ⟨tw,rfl⟩:∃ tw,v=.str w tw:=r1;refine ⟨"str",_,PySem.F.plainAttrs_str,PySem.F.slot_str_replace,PySem.F.type_str_replace,h1,h2,?_⟩;refine Calls.callWith_builtin rfl (Calls.evalArgs_plain ?_)
 show wpAny _ _ (spliced ((false,eval (.Constant (.str y) j1 p1) X.env)::backTo cpos (starEach [.Constant (.str z) j2 p2,.Constant (.int 1) j3 p3] X.env))) _ _ s1
 refine Calls.spliced_cons (Calls.Constant_str ?_)
 show wpAny _ _ (spliced ((false,eval (.Constant (.str z) j2 p2) X.env)::backTo cpos (starEach [.Constant (.int 1) j3 p3] X.env))) _ _ _
 refine Calls.spliced_cons (Calls.Constant_str ?_)
 show wpAny _ _ (spliced ((false,eval (.Constant (.int 1) j3 p3) X.env)::backTo cpos (starEach [] X.env))) _ _ _
 refine Calls.spliced_cons (wpAny_Constant_int ?_);refine Calls.spliced_nil ?_;have n0:s1.toks ≠ 0:=Nat.ne_of_gt (Nat.lt_of_lt_of_le h0 t1);have h1:(occurrences w y 0 w.length 1).length<=1:=StrLaws.occ_length_le w y 0 w.length 1;have h2:(occurrences w y 0 w.length 1).length * z.length<=1 * z.length:=Nat.mul_le_mul_right _ h1;refine call_gives F.slot_str_replace (typeIs_str _ _ _) F.entry_str_replace (F.args_str_replace_4 _ _ _ _) (uo0 w y z tw s1.toks (s1.toks+1) _ (by simp [n0]) (by simp) hyz (by unfold tooLong sizeLine;exact decide_eq_false (by omega))) ?_;have I2:=(I1.tok (s1.toks+1)).tok (s1.toks+1+1) |>.tok (s1.toks+1+1+1)
 cases hc:((occurrences w y 0 w.length 1).isEmpty || (y.length == 0 && z.length == 0))
 ·simp only [Bool.false_eq_true,if_false]
  have hlen:=v11 (x:=w) (y:=y) (z:=z);exact ⟨by rw [sizeLine_eq];omega,.str _,H1,I2.tok _,⟨_,rfl⟩,q _ hlen⟩
 ·simp only [if_true]
  exact ⟨.str w,H1,I2,⟨_,rfl⟩,q _ (by omega)⟩
end
end L2
namespace L3
open PySem PySem.Spec PyProof.Rows L2
section
variable {X:Cx} {e o:Expr} {es:List Expr} {te to:TE3} {ts:TA3}
def E3p (X:Cx) (e:Expr) (t:TE3):Prop:=PEp X e (lowE X.K t)
def A3p (X:Cx) (es:List Expr) (t:TA3):Prop:=PAp X es (lowA X.K t)
theorem vj4 (h:E3 X e te):E3p X e te:=fun pins s σ H Q I _ q=>h pins s σ H Q I q
theorem w20 (h:A3 X es ts):A3p X es ts:=fun pos pins s σ H Q I _ q=>h pos pins s σ H Q I q
theorem ud9 (ha:E3p X e te) (hr:A3p X es ts) (hs:starEach (e::es) X.env=(false,eval e X.env)::starEach es X.env:=by rfl):A3p X (e::es) (uy0 te ts):=fun pos pins s σ H Q I h0 q=>v24 ha hr hs pos pins s σ H Q I h0 (uc7 q)
theorem vy2 {x:Str} {j:_} {p:Pos} (hr:A3p X es ts) (hs:starEach (.Constant (.str x) j p::es) X.env=(false,eval (.Constant (.str x) j p) X.env)::starEach es X.env:=by rfl):A3 X (.Constant (.str x) j p::es) (uy0 (dC (.str x)) ts) :=
 fun pos pins s σ H Q I q=>vf7 hr hs pos pins s σ H Q I (uh8 (d:=.str x) (v:=.str x) (fun _=>by rw [RelD]) (uc7 q))
def vx7 (z:Str) (to:TE3):TE3:=fun σ G q=>to σ G fun x G1=>∃ w:Str,x=.str w /\ w.length+z.length<=16777216 /\ ∀ r:Str,r.length<=w.length+z.length->q (.str r) G1
theorem vx1 {y z:Str} {j1 j2 j3:_} {p1 p2 p3 apos cpos:Pos} (hyz:(y == z)=false) (ho:E3 X o to)
  (hbase:attributeBase o "replace" X.env (eval o X.env)=eval o X.env:=by rfl)
  (hfew:((backTo cpos (starEach [.Constant (.str y) j1 p1,.Constant (.str z) j2 p2,.Constant (.int 1) j3 p3] X.env)).all (fun x=>!x.1) && (backToKw cpos (keywordEach [] X.env)).all (fun x=>x.1.isSome)
   && decide ((3:Nat)+([]:List Keyword).length+(if ([]:List Keyword).isEmpty then 0 else 1) < 30))=true:=by rfl)
  (hline:(apos.endLine == cpos.line)=true:=by rfl) :
  E3p X (.Call (.Attribute o "replace" apos) [.Constant (.str y) j1 p1,.Constant (.str z) j2 p2,.Constant (.int 1) j3 p3] [] cpos) (vx7 z to):=by
 intro pins s σ H Q I h0 h;refine ve9 hyz ho hbase hfew hline pins s σ H Q I h0 ?_;obtain ⟨σd,G,q,rs,c,t,f⟩:=h;refine ⟨σd,G,_,rs,c,t,fun x G1 v H1 r1 c1 l1 t1=>?_⟩;obtain ⟨w,rfl,hb,t2⟩:=t1;cases r1.str_inv;exact ⟨w,rfl,hb,fun r hr=>f _ _ _ _ RelD.strI c1 l1 (t2 r hr)⟩
end
end L3
namespace L3
open PySem PySem.Spec PyProof.Rows L2
set_option maxHeartbeats 4000000
def digs:Nat->List (List Nat)
 | 0=>[[]]
 | n+1=>(digs n).flatMap fun l=>(List.range 10).map fun d=>(48+d)::l
def dval (cs:List Nat):Nat:=cs.foldl (fun v c=>10 * v+(c - 48)) 0
theorem ul1:∀ {cs:List Nat},(∀ c ∈ cs,48<=c /\ c<=57)->cs ∈ digs cs.length
 | [],_=>by simp [digs]
 | c::cs,h=>by
  have h1:=h c List.mem_cons_self;exact List.mem_flatMap.mpr ⟨cs,ul1 fun x hx=>h x (List.mem_cons_of_mem _ hx),List.mem_map.mpr ⟨c - 48,List.mem_range.mpr (by omega),by rw [show 48+(c - 48)=c by omega]⟩⟩
theorem vc0:([1,2,3,4].all fun m=>(digs m).all fun cs=>!(uh7 cs) || (decide ((Nat.toDigits 10 (dval cs)).map Char.toNat=cs) && decide (dval cs<=9999)))=true:=by decide
def isN (w:Str):Prop:=∃ k,k<=9999 /\ w=numS k
def isW (w:Str):Prop:=∃ p,wOk p /\ w=wdS p
theorem vi6 {w:Str}:isN w ↔ uh7 w.cps.toList=true:=by
 constructor
 ·rintro ⟨k,hk,rfl⟩;exact v84 hk
 ·intro h
  obtain ⟨cs,hcs⟩:∃ cs,cs=w.cps.toList:=⟨_,rfl⟩;rw [<- hcs] at h;have e:=h;unfold uh7 at e;simp only [Bool.and_eq_true,bne_iff_ne,ne_eq,decide_eq_true_eq,List.all_eq_true,Bool.or_eq_true,beq_iff_eq] at e;obtain ⟨⟨⟨e1,e2⟩,e3⟩,e4⟩:=e;have hm:cs.length ∈ [1,2,3,4]:=by
   have:cs.length=1 \/ cs.length=2 \/ cs.length=3 \/ cs.length=4:=by omega
   rcases this with z | z | z | z <;> rw [z] <;> simp
  have a:=List.all_eq_true.mp (List.all_eq_true.mp vc0 _ hm) cs (ul1 e3);rw [h] at a;simp only [Bool.not_true,Bool.false_or,Bool.and_eq_true,decide_eq_true_eq] at a;exact ⟨dval cs,a.2,u32 (by rw [uk9,a.1,hcs])⟩
theorem v90 {w:Str} (h1:1<=w.length) (h2:w.length<=4) (h3:∀ c ∈ w.cps.toList,48<=c /\ c<=57) (h4:w.length=1 \/ w.cps.toList.head? ≠ some 48):isN w:=by
 rw [vi6];unfold uh7;rw [str_len] at h1 h2 h4;simp only [Bool.and_eq_true,bne_iff_ne,ne_eq,decide_eq_true_eq,List.all_eq_true,Bool.or_eq_true,beq_iff_eq];exact ⟨⟨⟨by omega,h2⟩,h3⟩,h4⟩
theorem u38 {w:Str} (h:isN w):1<=w.length /\ w.length<=4 /\ (∀ c ∈ w.cps.toList,48<=c /\ c<=57) /\ (w.length=1 \/ w.cps.toList.head? ≠ some 48):=by
 obtain ⟨k,hk,rfl⟩:=h;exact u57 hk
theorem ut0 {k j:Nat} (hk:k<=9999) (hj:j<=9999) (e:numS k=numS j):k=j:=by
 have h1:=uh6 hk;rw [e,uh6 hj] at h1;have:=Option.some.inj h1;omega
def tl (w:Str):Str:=Txt.slice w (some 1) none
def hd1 (w:Str):Str:=Txt.slice w none (some 1)
theorem v74 (w:Str):(tl w).cps.toList=w.cps.toList.drop 1:=by
 by_cases h:w.length=0
 ·have e:w.cps.toList=[]:=by rw [str_len] at h;exact List.length_eq_zero_iff.mp h
  have hl:=Txt.slice_le w (some 1) none;have:(tl w).cps.toList.length=0:=by rw [<- str_len];unfold tl;omega
  rw [List.length_eq_zero_iff.mp this,e];rfl
 ·unfold tl
  rw [slice_from_eq (b:=(w.length:Int)) (by decide) (by omega) rfl]
  show List.take _ (List.drop (1:Int).toNat w.cps.toList)=_
  apply List.take_of_length_le;rw [List.length_drop,<- str_len];omega
theorem v04 (w:Str):(tl w).length<=w.length:=Txt.slice_le w _ _
theorem v47:isW "!" := ⟨none,trivial,rfl⟩
theorem uv6 {w:Str} (h:w ≠ "!"):isW w ↔ (∃ c,w.cps.toList.head?=some c /\ (c=43 \/ c=45)) /\ isN (tl w):=by
 constructor
 ·rintro ⟨p,hp,rfl⟩
  cases p with
  | none=>exact absurd rfl h
  | some p =>
   refine ⟨⟨if p.1 then 43 else 45,by rw [u43];rfl,?_⟩,p.2,hp,va9 p hp⟩;cases p.1
   ·exact .inr rfl
   ·exact .inl rfl
 ·rintro ⟨⟨c,hc,hv⟩,k,hk,e⟩
  have e1:w.cps.toList=c::(numS k).cps.toList:=by
   rw [<- e,v74];cases ew:w.cps.toList with
   | nil=>rw [ew] at hc;cases hc
   | cons a r=>rw [ew] at hc;cases hc;rfl
  rcases hv with rfl | rfl
  ·exact ⟨some (true,k),hk,u32 (by rw [e1,u43];rfl)⟩
  ·exact ⟨some (false,k),hk,u32 (by rw [e1,u43];rfl)⟩
theorem v71 {p q:Pm} (hp:wOk p) (hq:wOk q) (e:wdS p=wdS q):p=q:=by
 cases p with
 | none =>
  cases q with
  | none=>rfl
  | some q=>exact absurd e.symm (fun z=>by have:=vn9 q hq;rw [show wdS none=("!" : Str) from rfl] at z;rw [this] at z;exact z)
 | some p =>
  cases q with
  | none=>exact absurd e (fun z=>by have:=vn9 p hp;rw [show wdS none=("!" : Str) from rfl] at z;rw [this] at z;exact z)
  | some q =>
   have e1:=congrArg (fun x:Str=>x.cps.toList) e;rw [u43,u43] at e1;injection e1 with e2 e3
   have e4:=ut0 hp hq (u32 e3);have e5:p.1=q.1:=by
    cases h1:p.1 <;> cases h2:q.1 <;> rw [h1,h2] at e2 <;> first | rfl | (simp at e2)
   exact congrArg some (Prod.ext e5 e4)
def wsO (t:Str):List Str:=if t = "" then [] else Txt.split t " "
def GW (ps:List Pm):Prop:=∀ p ∈ ps,wOk p
theorem uj7:∀ ws:List Str,(∃ ps,GW ps /\ ws=ps.map wdS) \/ ∃ ps w r,GW ps /\ ¬ isW w /\ ws=ps.map wdS++w::r
 | []=>.inl ⟨[],by simp [GW],rfl⟩
 | w::ws=>by
  by_cases h:isW w
  ·obtain ⟨p,hp,e⟩:=h
   rcases uj7 ws with ⟨ps,h1,h2⟩ | ⟨ps,v,r,h1,h2,h3⟩
   ·exact .inl ⟨p::ps,fun x hx=>(List.mem_cons.mp hx).elim (fun z=>z ▸ hp) (h1 x),by rw [h2,e];rfl⟩
   ·exact .inr ⟨p::ps,v,r,fun x hx=>(List.mem_cons.mp hx).elim (fun z=>z ▸ hp) (h1 x),h2,by rw [h3,e];rfl⟩
  ·exact .inr ⟨[],w,ws,by simp [GW],h,rfl⟩
theorem ue4 (t:Str):((Txt.split t " ").map (·.length)).sum+((Txt.split t " ").length - 1)=t.length:=by
 rw [<- u76,show jn " " (Txt.split t " ")=Str.join " " (Txt.split t " ") from StrLaws.glued_eq_join _ _,StrLaws.join_split]
theorem vg2 {ws:List Str} {w:Str} (h:w ∈ ws):w.length<=(ws.map (·.length)).sum:=by
 induction ws with
 | nil=>cases h
 | cons v ws ih =>
  rw [List.map_cons,List.sum_cons]
  rcases List.mem_cons.mp h with e | h
  ·rw [e];omega
  ·have:=ih h;omega
theorem split_len (t:Str):(Txt.split t " ").length<=t.length+1:=by have:=ue4 t;omega
theorem uq7 {t w:Str} (h:w ∈ Txt.split t " "):w.length<=t.length:=by have:=ue4 t;have:=vg2 h;omega
theorem v67 (t:Str):(wsO t).length<=t.length+1:=by
 unfold wsO;split
 ·exact Nat.zero_le _
 ·exact split_len t
theorem v66 {t w:Str} (h:w ∈ wsO t):w.length<=t.length:=by
 unfold wsO at h;split at h
 ·cases h
 ·exact uq7 h
theorem up3 {t:Str} {ps:List Pm} (h:wsO t=ps.map wdS):plS ps=t:=by
 unfold wsO at h;split at h
 ·rename_i e
  have:ps=[]:=by simpa using h.symm
  rw [this,e];exact vq3
 ·show jn " " (ps.map wdS)=t
  rw [<- h,show jn " " (Txt.split t " ")=Str.join " " (Txt.split t " ") from StrLaws.glued_eq_join _ _,StrLaws.join_split]
theorem ub2 {ws:List Str} (h:∀ w ∈ ws,w.length<=40) (hl:ws.length<=20):(jn " " ws).length<=820:=by
 rw [u76];have:(ws.map (·.length)).sum<=40 * ws.length:=by
  clear hl
  induction ws with
  | nil=>simp
  | cons w ws ih =>
   rw [List.map_cons,List.sum_cons,List.length_cons];have:=h w List.mem_cons_self;have:=ih fun x hx=>h x (List.mem_cons_of_mem _ hx)
   omega
 omega
theorem v44 {ws:List Str} (h:∀ w ∈ ws,w.length<=40) (hl:ws.length<=20):Builtin.Str.tooLong ((ws.toArray).foldl (·+·.length+(" " : Str).length) 0)=false /\ (jn " " ws).length<=sizeLine:=by
 have s:=ub2 h hl;rw [u76] at s;have z:(100000:Nat)<=sizeLine:=by decide
 refine ⟨?_,by rw [u76];omega⟩;rw [List.foldl_toArray,ul7];unfold Builtin.Str.tooLong;exact decide_eq_false (by omega)
theorem vj0 {ps:List Pm} (h:GW ps) (h0:ps ≠ []):wsO (plS ps)=ps.map wdS:=by
 unfold wsO;rw [if_neg (by rw [vz7 h0 h];exact id),v16 h0 h]
theorem v54 (c:Nat):decide (c ∈ ("0123456789" : Str).cps.toList)=decide (48<=c /\ c<=57):=by
 by_cases h:48<=c /\ c<=57
 ·rw [figures h,decide_eq_true h]
 ·rw [decide_eq_false h,decide_eq_false]
  intro m;have:(("0123456789" : Str).cps.toList.all fun c=>decide (48<=c /\ c<=57))=true:=by decide
  exact h (of_decide_eq_true (List.all_eq_true.mp this c m))
end L3
namespace L3
open PySem PySem.Spec PyProof.Rows L2
theorem v70:∀ {ps qs:List Pm},GW ps->GW qs->ps.map wdS=qs.map wdS->ps=qs
 | [],[],_,_,_=>rfl
 | [],_::_,_,_,e=>by cases e
 | _::_,[],_,_,e=>by cases e
 | p::ps,q::qs,h1,h2,e=>by
  injection e with e1 e2
  rw [v71 (h1 p List.mem_cons_self) (h2 q List.mem_cons_self) e1,v70 (fun x hx=>h1 x (List.mem_cons_of_mem _ hx)) (fun x hx=>h2 x (List.mem_cons_of_mem _ hx)) e2]
theorem up2:∀ {ps qs:List Pm} {v w:Str} {l m:List Str},GW ps->GW qs->¬ isW v->¬ isW w->ps.map wdS++v::l=qs.map wdS++w::m->ps.length=qs.length
 | [],[],_,_,_,_,_,_,_,_,_=>rfl
 | [],q::qs,v,w,l,m,_,h,hv,_,e=>by
  injection e with e1 e2
  exact absurd ⟨q,h q List.mem_cons_self,e1⟩ hv
 | p::ps,[],v,w,l,m,h,_,_,hw,e=>by
  injection e with e1 e2
  exact absurd ⟨p,h p List.mem_cons_self,e1.symm⟩ hw
 | p::ps,q::qs,v,w,l,m,h1,h2,hv,hw,e=>by
  injection e with e1 e2
  rw [List.length_cons,List.length_cons,up2 (fun x hx=>h1 x (List.mem_cons_of_mem _ hx)) (fun x hx=>h2 x (List.mem_cons_of_mem _ hx)) hv hw e2]
theorem vi9 (w:Str):(hd1 w).cps.toList=w.cps.toList.take 1:=by
 by_cases h:w.length=0
 ·have e:w.cps.toList=[]:=by rw [str_len] at h;exact List.length_eq_zero_iff.mp h
  have hl:=Txt.slice_le w none (some 1);have:(hd1 w).cps.toList.length=0:=by rw [<- str_len];unfold hd1;omega
  rw [List.length_eq_zero_iff.mp this,e];rfl
 ·unfold hd1
  rw [beq_iff_eq.mp (slice_closes_toL (x:=w) (j:=1) (by decide) (by omega))];rfl
theorem vw4 (w:Str):hd1 w ∈ [("+" : Str), "-"] ↔ ∃ c,w.cps.toList.head?=some c /\ (c=43 \/ c=45):=by
 have e:=vi9 w;have ei:∀ c:Nat,hd1 w=⟨#[c]⟩ ↔ w.cps.toList.head?=some c:=fun c=>by
  constructor
  ·intro z
   rw [z] at e;cases ew:w.cps.toList with
   | nil=>rw [ew] at e;cases e
   | cons a r=>rw [ew] at e;cases e;rfl
  ·intro z
   apply u32;rw [e];cases ew:w.cps.toList with
   | nil=>rw [ew] at z;cases z
   | cons a r=>rw [ew] at z;cases z;rfl
 rw [List.mem_cons,List.mem_singleton,plus_mk,minus_mk,ei,ei]
 constructor
 ·rintro (z | z)
  ·exact ⟨43,z,.inl rfl⟩
  ·exact ⟨45,z,.inr rfl⟩
 ·rintro ⟨c,z,rfl | rfl⟩
  ·exact .inl z
  ·exact .inr z
theorem vc3 (c:Nat):((!decide ((⟨#[c]⟩:Str).cps.toList < ("0" : Str).cps.toList)) && !decide (("9" : Str).cps.toList < (⟨#[c]⟩:Str).cps.toList))=decide (48<=c /\ c<=57):=by
 have e0:("0" : Str).cps.toList=[48]:=by decide
 have e9:("9" : Str).cps.toList=[57]:=by decide
 have e:(⟨#[c]⟩:Str).cps.toList=[c]:=rfl;rw [e0,e9,e,Bool.eq_iff_iff];simp [List.cons_lt_cons_iff]
end L3
namespace Law
open PySem L2 L3
set_option maxHeartbeats 4000000
def top (i:Nat):Stmt:=PySem.Challenge.pw_nolitter_k56_plan_texts_refused.main.body.getD i (.Pass ⟨0,0,0,0⟩)
abbrev u40:Stmt:=inClass (top 5) 0
abbrev v07:Stmt:=top 12
abbrev v06:Stmt:=top 15
abbrev vc8:Stmt:=top 16
abbrev vc6:Stmt:=top 17
abbrev vc7:Stmt:=top 18
abbrev vd3:Stmt:=top 20
abbrev vc9:Stmt:=top 21
abbrev ur3:Stmt:=top 22
abbrev v08:Stmt:=top 23
abbrev vd2:Stmt:=top 24
abbrev vd1:Stmt:=top 25
abbrev vd0:Stmt:=top 26
abbrev vc5:Stmt:=top 27
local macro_rules | `(tactic| ac_nf)=>`(tactic| exact ⟨rfl,rfl,rfl,by decide,rfl,by decide,by decide⟩)
theorem u51:FnScope ["self", "at"] ["self", "at"] (u01 u40):=by ac_nf
theorem sc_jai:FnScope ["word", "most", "number"] ["word", "most"] (u01 v07):=by ac_nf
theorem v79:FnScope ["plan"] ["plan"] (u01 v06):=by ac_nf
theorem v80:FnScope ["move"] ["move"] (u01 vc8):=by ac_nf
theorem sc_jak:FnScope ["text", "words", "plan", "at", "word", "move"] ["text"] (u01 vc6):=by ac_nf
theorem sc_jaj:FnScope ["word", "k"] ["word"] (u01 vc7):=by ac_nf
theorem sc_jaa:FnScope ["_law_state", "_law_many", "_law_script", "_law_k", "_law_rest", "_law_cell", "_law_number", "_law_digit"] ["_law_state", "_law_many"] (u01 vd3):=by ac_nf
theorem sc_jag:FnScope ["_law_state", "_law_found", "_law_turn", "_law_k"] ["_law_state"] (u01 vc9):=by ac_nf
theorem sc_jaf:FnScope ["_law_state", "_law_word", "_law_rest", "_law_some"] ["_law_state", "_law_word"] (u01 ur3):=by ac_nf
theorem sc_jac:FnScope ["_law_word", "_law_rest"] ["_law_word"] (u01 v08):=by ac_nf
theorem sc_jab:FnScope ["_law_text", "_law_words_here", "_law_at"] ["_law_text"] (u01 vd2):=by ac_nf
theorem sc_jad:FnScope ["_law_text", "_law_due", "_law_own", "_law_said", "e"] ["_law_text", "_law_due"] (u01 vd1):=by ac_nf
theorem sc_jae:FnScope ["_law_text", "_law_due"] ["_law_text"] (u01 vd0):=by ac_nf
theorem sc_law:FnScope ["_law_script", "_law_state", "_law_many", "_law_sort", "_law_good_here", "_law_words_here", "_law_turn", "_law_at", "_law_text", "_law_odd"] ["_law_script"] (u01 vc5):=by ac_nf
set_option genInjectivity false in
set_option genSizeOf false in
structure Txt (K:PySem.W.Frag) (mg:Str->Option Value) where
 f_BadText_init:FnAt K "__init__" "BadText.__init__" u40 ["self", "at"]
 f_jai:FnAt K "number_in" "number_in" v07 ["word", "most"]
 g_number_in:mg "number_in" = some (.ref f_jai.a)
 f_jal:FnAt K "show_plan" "show_plan" v06 ["plan"]
 g_show_plan:mg "show_plan" = some (.ref f_jal.a)
 f_jah:FnAt K "move_word" "move_word" vc8 ["move"]
 g_move_word:mg "move_word" = some (.ref f_jah.a)
 f_jak:FnAt K "read_plan" "read_plan" vc6 ["text"]
 g_read_plan:mg "read_plan" = some (.ref f_jak.a)
 f_jaj:FnAt K "read_move" "read_move" vc7 ["word"]
 g_read_move:mg "read_move" = some (.ref f_jaj.a)
 f_jaa:FnAt K "_law_draw" "_law_draw" vd3 ["_law_state", "_law_many"]
 g_law_draw:mg "_law_draw" = some (.ref f_jaa.a)
 f_jag:FnAt K "_law_words" "_law_words" vc9 ["_law_state"]
 g_law_words:mg "_law_words" = some (.ref f_jag.a)
 f_jaf:FnAt K "_law_spoilt" "_law_spoilt" ur3 ["_law_state", "_law_word"]
 g_law_spoilt:mg "_law_spoilt" = some (.ref f_jaf.a)
 f_jac:FnAt K "_law_good" "_law_good" v08 ["_law_word"]
 g_law_good:mg "_law_good" = some (.ref f_jac.a)
 f_jab:FnAt K "_law_first_bad" "_law_first_bad" vd2 ["_law_text"]
 g_law_first_bad:mg "_law_first_bad" = some (.ref f_jab.a)
 f_jad:FnAt K "_law_refused" "_law_refused" vd1 ["_law_text", "_law_due"]
 g_law_refused:mg "_law_refused" = some (.ref f_jad.a)
 f_jae:FnAt K "_law_right" "_law_right" vd0 ["_law_text"]
 g_law_right:mg "_law_right" = some (.ref f_jae.a)
 f_law:FnAt K "law" "law" vc5 ["_law_script"]
 g_law:mg "law" = some (.ref f_law.a)
 e_LitterError:XL K mg "LitterError"
 e_BadText:XE K mg e_LitterError.C "BadText"
 e_TwiceNamed:XE K mg e_LitterError.C "TwiceNamed"
 e_TooWide:XE K mg e_LitterError.C "TooWide"
 e_NoRow:XE K mg e_LitterError.C "NoRow"
 e_NoBox:XE K mg e_LitterError.C "NoBox"
 e_BadPlan:XE K mg e_LitterError.C "BadPlan"
 e_BadCuts:XE K mg e_LitterError.C "BadCuts"
 e_BadCode:XE K mg e_LitterError.C "BadCode"
 xm_BadText:XMk K e_BadText.C e_LitterError.C f_BadText_init.a
 xa_BadText:XAttr K e_BadText.C "at"
 ne_BadText_TwiceNamed:e_TwiceNamed.C ≠ e_BadText.C
 ne_BadText_TooWide:e_TooWide.C ≠ e_BadText.C
 ne_BadText_NoRow:e_NoRow.C ≠ e_BadText.C
 ne_BadText_NoBox:e_NoBox.C ≠ e_BadText.C
 ne_BadText_BadPlan:e_BadPlan.C ≠ e_BadText.C
 ne_BadText_BadCuts:e_BadCuts.C ≠ e_BadText.C
 ne_BadText_BadCode:e_BadCode.C ≠ e_BadText.C
 k_FIGURES:∃ t,mg "FIGURES" = some (.str "0123456789" t)
 k_GREATEST_MARK:∃ t,mg "GREATEST_MARK" = some (.int 9999 t)
 b_ValueError:mg "ValueError" = none
 b_abs:mg "abs" = none
 b_all:mg "all" = none
 b_bool:mg "bool" = none
 b_divmod:mg "divmod" = none
 b_enumerate:mg "enumerate" = none
 b_int:mg "int" = none
 b_isinstance:mg "isinstance" = none
 b_len:mg "len" = none
 b_list:mg "list" = none
 b_min:mg "min" = none
 b_range:mg "range" = none
 b_str:mg "str" = none
end Law
namespace Law
open PySem L2 L3 Rw
set_option maxHeartbeats 4000000
section
variable {P:Program} {w:World} {K:PySem.W.Frag} {mg:Str->Option Value} {base:Heap} (T:Txt K mg)
def uo6 (_:Txt K mg):Sp3:=spec (fun ds G=>∃ (st:Addr) (m:Int),ds=[.ref st,.int m] /\ StAt G st /\ 0 < m /\ m < 1073741824)
 (fun ds G d G'=>∃ (st:Addr) (m v:Int),ds=[.ref st,.int m] /\ Adv st G G' /\ d=.int v /\ 0<=v /\ v < m)
theorem u22 {K:PySem.W.Frag} {mg:Str->Option Value} {T:Txt K mg} {G:Gp} {st:Addr} {m:Int} {q:DK} (h:StAt G st) (h0:0 < m) (h1:m < 1073741824) (k:∀ (v:Int) (G':Gp),Adv st G G'->0<=v->v < m->q (.int v) G') :
  ∃ R,uo6 T [.ref st,.int m] G R /\ ∀ d G',R d G'->q d G' :=
 uq9 ⟨st,m,rfl,h,h0,h1⟩ fun d G' ⟨st',m',v,e,a,ed,v0,v1⟩=>by
  cases e;subst ed;exact k v G' a v0 v1
def vl8 (_:Txt K mg):Sp3:=fun ds G R=>∃ w:Str,ds=[.str w,.int 9999] /\ w.length<=10000 /\ (∀ k,k<=9999->w=numS k->∀ G',Grow G G'->R (.int (k:Int)) G') /\ (¬ isN w->∀ G',Grow G G'->R .non G')
def vl9 (_:Txt K mg):Sp3:=fun ds G R=>∃ p:Pm,ds=[pmD p] /\ wOk p /\ R (.str (wdS p)) G
def v61 (_:Txt K mg):Sp3:=fun ds G R=>∃ (a:Addr) (w:List Pm),ds=[.ref a] /\ G a=some (.lst (w.map pmD)) /\ (∀ p ∈ w,wOk p) /\ w.length<=1000 /\ ∀ G',Grow G G'->R (.str (plS w)) G'
def vl7 (_:Txt K mg):Sp3:=fun ds G R=>∃ w:Str,ds=[.str w] /\ w.length<=10000 /\ (∀ p,wOk p->w=wdS p->∀ G',Grow G G'->R (pmD p) G') /\ (¬ isW w->∀ G',Grow G G'->R .non G')
def uo5 (T:Txt K mg):Spx3:=fun ds G R r=>∃ t:Str,ds=[.str t] /\ t.length<=900 /\ (∀ ps,GW ps->wsO t=ps.map wdS->∀ (q:Addr) (G':Gp),G q=none->G' q=some (.lst (ps.map pmD))->Grow G G'->R (.ref q) G') /\ (∀ ps w l,GW ps->¬ isW w->wsO t=ps.map wdS++w::l->∀ G',Grow G G'->r T.e_BadText.C [("at",.int (ps.length:Int))] G')
def vm0 (_:Txt K mg):Sp3:=fun ds G R=>∃ st:Addr,ds=[.ref st] /\ StAt G st /\ ∀ (q:Addr) (ps:List Pm) (G':Gp),Adv st G G'->q ≠ st->G' q=some (.lst ((ps.map wdS).map .str))->GW ps->1<=ps.length->ps.length<=20->R (.ref q) G'
def vm1 (_:Txt K mg):Sp3:=fun ds G R=>∃ (st:Addr) (w:Str),ds=[.ref st,.str w] /\ StAt G st /\ w.length<=5 /\ ∀ (x:Str) (G':Gp),Adv st G G'->x.length<=40->R (.str x) G'
def vm3 (_:Txt K mg):Sp3:=fun ds G R=>∃ w:Str,ds=[.str w] /\ w.length<=10000 /\ (isW w->∀ G',Grow G G'->R (.bl true) G') /\ (¬ isW w->∀ G',Grow G G'->R (.bl false) G')
def vm4 (_:Txt K mg):Sp3:=fun ds G R=>∃ t:Str,ds=[.str t] /\ t.length<=900 /\ (∀ ps,GW ps->wsO t=ps.map wdS->∀ G',Grow G G'->R (.int (-1)) G') /\ (∀ ps w l,GW ps->¬ isW w->wsO t=ps.map wdS++w::l->∀ G',Grow G G'->R (.int (ps.length:Int)) G')
def vm2 (_:Txt K mg):Sp3:=fun ds G R=>∃ (t:Str) (ps:List Pm) (w:Str) (l:List Str),ds=[.str t,.int (ps.length:Int)] /\ t.length<=900 /\ GW ps /\ ¬ isW w /\ wsO t=ps.map wdS++w::l /\ ∀ G',Grow G G'->R (.bl true) G'
def v62 (_:Txt K mg):Sp3:=fun ds G R=>∃ t:Str,ds=[.str t] /\ t.length<=900 /\ ∀ G',Grow G G'->R (.bl true) G'
def vl6 (_:Txt K mg):Sp3:=fun ds G R=>∃ (a:Addr) (ns:List Int),ds=[.ref a] /\ G a=some (.fro (ns.map .int)) /\ ns.length<=63 /\ ∀ G',R (.bl true) G'
theorem uj0 {G:Gp} {t:Str} {q:DK} (h:t.length<=900) (k:∀ G',Grow G G'->q (.bl true) G'):∃ R,v62 T [.str t] G R /\ ∀ d G',R d G'->q d G' :=
 u23 (post:=fun d G'=>d=.bl true /\ Grow G G') (fun R h'=>⟨t,rfl,h,fun G' z=>h' _ _ ⟨rfl,z⟩⟩) fun d G' ⟨e,z⟩=>by subst e;exact k G' z
theorem ue1 {t:Str} {ps:List Pm} {w:Str} {l:List Str} (h:GW ps) (h1:wsO t=ps.map wdS) (hw:¬ isW w) (ps':List Pm) (h2:wsO t=ps'.map wdS++w::l):False:=by
 rw [h1] at h2;have:w ∈ ps.map wdS:=by rw [h2];simp
 obtain ⟨p,hp,e⟩:=List.mem_map.mp this;exact hw ⟨p,h p hp,e.symm⟩
theorem uj1 {G:Gp} {t:Str} {ps:List Pm} {q:DK} (h:t.length<=900) (hp:GW ps) (hw:wsO t=ps.map wdS) (k:∀ q' G',G q'=none->G' q'=some (.lst (ps.map pmD))->Grow G G'->q (.ref q') G'):∃ R,uo5 T [.str t] G R noX /\ ∀ d G',R d G'->q d G' :=
 ud8 (post:=fun d G'=>∃ q',d=.ref q' /\ G q'=none /\ G' q'=some (.lst (ps.map pmD)) /\ Grow G G') (fun R h'=>⟨t,rfl,h,(fun ps' h1 h2 q' G' x y z=>h' _ _ ⟨q',rfl,x,by rw [hw] at h2;rw [v70 hp h1 h2];exact y,z⟩),fun ps' w l h1 h2 h3=>(ue1 hp hw h2 ps' h3).elim⟩) fun d G' ⟨q',e,x,y,z⟩=>by subst e;exact k q' G' x y z
theorem v85 {w a b:Str} {G:Gp} {q:DK}:xInB true (.str w) (.tup [.str a,.str b]) G q=q (.bl (!decide (w ∈ [a,b]))) G:=rfl
theorem vk6 {G:Gp} {a b:Addr} {Q:Bool->Prop} (h1:u18 (G a)=some [.bl true,.bl true,.bl false]) (h2:u18 (G b)=some [.bl true,.bl true,.bl false]) (h:Q true) :
  ∃ n sd se r,n<=40 /\ snap G n (.ref a)=some sd /\ snap G n (.ref b)=some se /\ eqN n sd se=some r /\ Q r:=by
 have e:∀ c,u18 (G c)=some [.bl true,.bl true,.bl false]->snap G 1 (.ref c)=some (.lst [.bl true,.bl true,.bl false]):=fun c hc=>by
  show ((u18 (G c)).bind fun ds=>(ds.mapM (snap G 0)).map Sn.lst)=_
  rw [hc];rfl
 exact ⟨1,_,_,true,by decide,e a h1,e b h2,rfl,h⟩
theorem v77:Txt.split (Str.ofString "+ - !! +-1 0 +1. +10000 -9999 +0 -00 ++1") (Str.ofString " ")=([("+" : Str), "-", "!!", "+-1", "0", "+1.", "+10000", "-9999", "+0", "-00", "++1"]:List Str):=by
 rw [show Str.ofString "+ - !! +-1 0 +1. +10000 -9999 +0 -00 ++1" = jn " " ["+", "-", "!!", "+-1", "0", "+1.", "+10000", "-9999", "+0", "-00", "++1"] by decide];exact uk0 (by simp) (by decide)
theorem um9 {k:Nat}:FnOk P w K mg base CX0 (k+1) T.f_BadText_init.a T.f_BadText_init.fd ["self", "at"] (u87 T.e_BadText.C "at") :=
 uz3 (L:=T.e_LitterError.C) T.f_BadText_init u51 T.e_BadText.xc T.xa_BadText (fun cdv A outer s H E=>uk5 (ur8 (v19 rfl T.e_LitterError.m T.e_LitterError.b.sp T.e_LitterError.b.rd T.e_LitterError.b.fc (uh4 (pv 0) (uh4 (pv 1) v83)))) (ur7 (ve1 (pv 0) (pv 1))))
end
end Law
set_option compiler.extract_closed false
open PySem L2 L3 Rw in
set_option hygiene false in
local macro_rules | `(tactic| simp! [$xs,*])=>`(tactic| try simp only [dTry,vx9,vx8,ux9,um1,v96,vk0,vx6,vi5,v45,v46,uc1,vk4,Int.toNat_natCast,dCall,v55,w12,List.append_nil,dSeq,vk3,dAsg,v56,dRet,w11,dIfS,dB,dAnd,dOr,dNot,vk5,dOrV,vk2,dIf,dVar,dC,dOp,dUn,dNil,uy0,dTup,dLst,dCB,dSl,vk1,ui5,dBM,dBM0,dAug,dFld,w10,w14,dYes,uv0,jSub,jSeq,vi3,jNil,vo0,vy8,wAny,dFor,xSub,xDiv,xMod,xPow,xShl,xShr,xAnd,xOr,xXor,v43,tyD,u86,ua6,List.map_cons,List.map_nil,List.cons_append,List.nil_append,List.length_cons,List.length_nil,List.replicate,List.getElem?_cons_zero,List.getElem?_cons_succ,List.set_cons_zero,List.set_cons_succ,Nat.reduceAdd,Nat.reduceSub,Nat.sub_self,u50,ur0,u02,Option.bind_some,Option.bind_none,id,Bool.false_eq_true,if_true,if_false,reduceIte,true_and,and_true,decide_true,decide_false,Bool.not_true,Bool.not_false,w19,w18,w17,w16,w15,vv8,vv7,vv6,vw0,vv9,vm6,vm5,w13,$xs,*])
open L3 in
set_option hygiene false in
local macro_rules | `(tactic| dsimp! [$xs,*])=>`(tactic| (simp only [Go];simp! [$xs,*]))
namespace Law
open PySem L2 L3 Rw
set_option maxHeartbeats 4000000
section
variable {P:Program} {w:World} {K:PySem.W.Frag} {mg:Str->Option Value} {base:Heap} (T:Txt K mg)
theorem vt0 {n:Nat}:Ok P w mg base (n+1) T.f_jai (vl8 T):=by
 refine u46 T.f_jai sc_jai (fun ds G R h=>?_) (fun cdv A outer s H E hr =>
   (u03 (s_if (t_w (w_or (u31 (x_lt) (u11 u72 rfl T.b_len (by decide) (u00 (ev 0) u04)) u10 (nomark _)) (v02 (u31 (x_gt) (u11 u72 rfl T.b_len (by decide) (u00 (ev 0) u04)) (u11 u72 rfl T.b_len (by decide) (u00 (u61 ub0 rfl T.b_str (by decide) (u00 (ev 1) u04)) u04)) (nomark _))))) (u07 (u24 uf5)) u25)
   (u03 (s_if (un2 (uq1 (u11 vn1 rfl T.b_all (by decide) (u00 (uf6 (N':=["sign"]) (ix:=[none]) (blk (osc:=u01 v07) (N:=["word", "most", "number"]) rfl rfl (by decide)) (vw1 (ev 0)) (fun _ _ _ _=>(u37 0 (show (["sign"]:List Str).Nodup by decide))) (fun _ _ _ _=>u89) (fun _ _ _ _=>(uo2 (vy5) (ev 0) (v53 T.k_FIGURES) (by with_unfolding_all rfl)))) u04)))) (u07 (u24 uf5)) u25)
   (u03 (s_if (t_w (w_and (u31 (x_eq hr) (e_ix x_ix (ev 0) u10) u08 (nomark _)) (v72 (u31 (x_gt) (u11 u72 rfl T.b_len (by decide) (u00 (ev 0) u04)) u10 (nomark _))))) (u07 (u24 uf5)) u25)
   (u03 (u20 2 sc_jai.nd (u61 uz6 rfl T.b_int (by decide) (u00 (ev 0) u04)))
   (u07 (u24 (e_if (u31 (x_le) (ev 2) (ev 1) (nomark _)) (ev 2) uf5)))))))) (fun ds G R h=>?_)
 ·obtain ⟨w,rfl,_⟩:=h;rfl
 ·obtain ⟨w,rfl,hl,good,bad⟩:=h
  have hz:w.length<=sizeLine:=Nat.le_trans hl (by decide);have hzT:(w.length<=sizeLine)=True:=eq_true hz
  by_cases l1:w.length < 1
  ·have d1:((w.length:Int) < 1)=True:=eq_true (by omega)
   (simp! [lenS,hzT,d1];repeat (simp only [Go];simp! [lenS,hzT,d1]))
   exact bad (fun h=>by have:=u38 h;omega) _ Grow.refl
  have d1:((w.length:Int) < 1)=False:=eq_false (by omega);simp! [lenS,hzT,d1];refine ⟨9999,rfl,uf2 (Nat.le_refl 9999),?_⟩;have d2:((4:Nat)<=sizeLine)=True:=eq_true (by decide)
  by_cases l2:w.length > 4
  ·have d3:((w.length:Int) > ((4:Nat):Int))=True:=eq_true (by omega)
   (simp! [lenS,most4,d2,d3];repeat (simp only [Go];simp! [lenS,most4,d2,d3]))
   exact bad (fun h=>by have:=u38 h;omega) _ Grow.refl
  have d3:((w.length:Int) > ((4:Nat):Int))=False:=eq_false (by omega);simp! [lenS,most4,d2,d3];dsimp! [wStr];refine ⟨w,rfl,fun p hp=>?_⟩;refine u56 (fun r σ G'=>∃ (l t:List Nat) (v:Option D),l++t=w.cps.toList /\ r=t.map (fun c=>D.str ⟨#[c]⟩) /\ G'=gup G p (.lst ((l.map fun c=>decide (48<=c /\ c<=57)).map .bl)) /\ σ=[v]) ⟨[],_,none,rfl,rfl,rfl,rfl⟩ ?_ ?_
  ·rintro σ G1 ⟨l,t,v,e,e2,rfl,rfl⟩
   refine ⟨trivial,?_⟩;have ht:t=[]:=by simpa using e2.symm
   subst ht;rw [List.append_nil] at e;obtain ⟨G2,hG2⟩:∃ G2,G2=gup G p (.lst ((l.map fun c=>decide (48<=c /\ c<=57)).map .bl)):=⟨_,rfl⟩;have k2:G2 p=some (.lst ((l.map fun c=>decide (48<=c /\ c<=57)).map .bl)):=by rw [hG2];exact u02
   have g2:Grow G G2:=by rw [hG2];exact Grow.refl.new hp
   rw [<- hG2];clear hG2;simp! [k2,u50,u98];have ea:(l.map fun c=>decide (48<=c /\ c<=57)).all id=decide (∀ c ∈ w.cps.toList,48<=c /\ c<=57):=by
    rw [e,Bool.eq_iff_iff,List.all_eq_true,decide_eq_true_iff]
    constructor
    ·intro h c hc
     exact of_decide_eq_true (h _ (List.mem_map.mpr ⟨c,hc,rfl⟩))
    ·intro h b hb
     obtain ⟨c,hc,rfl⟩:=List.mem_map.mp hb;exact decide_eq_true (h c hc)
   rw [ea]
   by_cases hd:¬ ∀ c ∈ w.cps.toList,48<=c /\ c<=57
   ·rw [decide_eq_false hd]
    simp! [id];exact bad (fun h=>hd (u38 h).2.2.1) _ g2
   have hd:=Classical.not_not.mp hd;rw [decide_eq_true hd];simp! [id];obtain ⟨c,r,hc⟩:∃ c r,w.cps.toList=c::r:=by
    cases ew:w.cps.toList with
    | nil=>rw [str_len,ew] at l1;exact absurd (by decide) l1
    | cons c r=>exact ⟨c,r,rfl⟩
   dsimp! [ixS,hzT,hc,at0];generalize hN:Go (dSeq _ _ _)=N;have r1:(w.length=1 \/ w.cps.toList.head? ≠ some 48)->N [some (.str w),some (.int 9999),none] G2:=by
    intro h4;obtain ⟨k,hk,ek⟩:=v90 (by omega) (by omega) hd h4;rw [<- hN];dsimp! [id];refine ⟨_,(k:Int),rfl,by rw [ek];exact uh6 hk,by omega,?_⟩;have d5:((k:Int)<=9999)=True:=eq_true (by omega);simp! [id];dsimp! [d5];exact good k hk ek _ g2
   by_cases h0:c=48
   ·have d6:({ cps:=#[c] }:Str)=Str.ofString "0" := by rw [h0];exact zero_mk.symm
    rw [if_pos (decide_eq_true d6)]
    by_cases h5:w.length > 1
    ·have d8:((w.length:Int) > 1)=True:=eq_true (by omega)
     simp! [lenS,hzT,d8];refine bad (fun h=>?_) _ g2
     rcases (u38 h).2.2.2 with z | z
     ·omega
     ·exact z (by rw [hc,h0];rfl)
    ·have d8:((w.length:Int) > 1)=False:=eq_false (by omega)
     simp! [lenS,hzT,d8];exact r1 (.inl (by omega))
   ·have d6:¬ ({ cps:=#[c] }:Str)=Str.ofString "0" := fun e=>h0 (one_eq.mp (e.trans zero_mk))
    rw [if_neg (by rw [decide_eq_false d6];decide)];exact r1 (.inr (by rw [hc];intro z;cases z;exact h0 rfl))
  ·rintro z r σ G1 ⟨l,t,v,e,e2,rfl,rfl⟩ ih
   cases t with
   | nil=>cases e2
   | cons c t =>
    cases e2;refine ⟨trivial,?_⟩;have hlen:=congrArg List.length e;rw [List.length_append,List.length_cons,<- str_len] at hlen;simp! [id];refine ⟨c,_,rfl,rfl,?_⟩;rw [v54];simp! [u02];refine ⟨Nat.lt_of_le_of_lt (m:=1000) (by rw [List.length_map,List.length_map];omega) (by decide),ih _ _ ⟨l++[c],t,_,by rw [<- e,List.append_assoc];rfl,rfl,?_,rfl⟩⟩;rw [u42,List.map_append,List.map_append];rfl
theorem vs7 {n:Nat} (G_jah:Ok P w mg base n T.f_jah (vl9 T)):Ok P w mg base (n+1) T.f_jal (v61 T):=by
 refine u46 T.f_jal v79 (fun ds G R h=>?_) (fun cdv A outer s H E hr =>
   (u07 (u24 (ux4 u08 (u00 (uf6 (N':=["move"]) (ix:=[none]) (blk (osc:=u01 v06) (N:=["plan"]) rfl rfl (by decide)) (vi8 (ev 0)) (fun _ _ _ _=>(u37 0 (show (["move"]:List Str).Nodup by decide))) (fun _ _ _ _=>u89) (fun _ _ _ _=>(ec T.f_jah T.g_move_word G_jah hr (u00 (ev 0) u04)))) u04))))) (fun ds G R h=>?_)
 ·obtain ⟨a,w,rfl,_⟩:=h;rfl
 ·obtain ⟨a,w,rfl,ha,hw,hl,post⟩:=h
  simp! [ha];intro p hp;have ha1:∀ {o:DO},gup G p o a=some (.lst (w.map pmD)):=fun {o}=>by rw [u06 (gne ha hp)];exact ha
  refine u56 (fun r σ G'=>∃ (l t:List Pm) (v:Option D),l++t=w /\ r=t.map pmD /\ G'=gup G p (.lst ((l.map wdS).map .str)) /\ σ=[v]) ⟨[],w,none,rfl,rfl,rfl,rfl⟩ ?_ ?_
  ·rintro σ G1 ⟨l,t,v,e,e2,rfl,rfl⟩
   have ht:t=[]:=by simpa using e2.symm
   subst ht;rw [List.append_nil] at e;subst e;refine ⟨by rw [ha1];rfl,?_⟩;obtain ⟨f1,f2⟩:=uu9 (ue7 hw) (by rw [List.length_map];omega);exact ⟨_,p,l.map wdS,rfl,rfl,by rw [u02];rfl,f1,f2,post _ (Grow.refl.new hp)⟩
  ·rintro z r σ G1 ⟨l,t,v,e,e2,rfl,rfl⟩ ih
   cases t with
   | nil=>cases e2
   | cons p0 t =>
    cases e2;refine ⟨by rw [ha1];rfl,?_⟩;have hlen:=congrArg List.length e;rw [List.length_append,List.length_cons] at hlen;simp! [id];refine v58 (v:=.str (wdS p0)) (G1:=gup G p (.lst ((l.map wdS).map .str))) (fun R h=>⟨p0,rfl,hw p0 (by rw [<- e];simp),h⟩) ?_;simp! [u02];refine ⟨Nat.lt_of_le_of_lt (m:=1000) (by rw [List.length_map,List.length_map];omega) (by decide),ih _ _ ⟨l++[p0],t,_,by rw [<- e,List.append_assoc];rfl,rfl,?_,rfl⟩⟩;rw [u42,List.map_append,List.map_append];rfl
theorem vt1 {n:Nat}:Ok P w mg base (n+1) T.f_jah (vl9 T):=by
 refine u46 T.f_jah v80 (fun ds G R h=>?_) (fun cdv A outer s H E hr =>
   (u03 (s_if (u31 (x_eq hr) (e_ix x_ix (ev 0) u10) u08 (nomark _)) (u07 (u24 u08)) u25)
   (u07 (u24 (u16 u28 (e_if (u31 (x_eq hr) (e_ix x_ix (ev 0) u10) u08 (nomark _)) u08 u08) (u61 ub0 rfl T.b_str (by decide) (u00 (e_ix x_ix (ev 0) u10) u04))))))) (fun ds G R h=>?_)
 ·obtain ⟨p,rfl,_⟩:=h;rfl
 ·obtain ⟨p,rfl,hp,post⟩:=h
  cases p with
  | none =>
   simp! [pmD];exact post
  | some p =>
   obtain ⟨b,k⟩:=p;have hk:k<=9999:=hp;have hl:=u57 hk;cases b with
   | true =>
    simp! [pmD,mD,pD,mP];dsimp! [id];refine ⟨(k:Int),rfl,uf2 hk,?_⟩;exact ⟨Nat.le_trans (m:=10) (show 1+(numS k).length<=10 by omega) (by decide),post⟩
   | false =>
    have l1:(("clear" : Str) = "lay")=False:=eq_false (by decide);have l2:(("clear" : Str) = "show")=False:=eq_false (by decide);simp! [pmD,mD,pD,mP,l2];dsimp! [l1];refine ⟨(k:Int),rfl,uf2 hk,?_⟩;exact ⟨Nat.le_trans (m:=10) (show 1+(numS k).length<=10 by omega) (by decide),post⟩
theorem vs8 {n:Nat} (G_jaj:Ok P w mg base (n+2) T.f_jaj (vl7 T)):OkX P w mg base (n+3) T.f_jak (uo5 T):=by
 refine vj9 T.f_jak sc_jak (fun ds G R r h=>?_) (fun cdv A outer s H E r hr =>
   (u03 (u20 1 sc_jak.nd (e_if (u31 (x_ne hr) (ev 0) u08 (nomark _)) (uc9 (ev 0) (u00 u08 u04)) (u69 u04)))
   (u03 (u20 2 sc_jak.nd (u69 u04))
   (u03 (v09 (ui1 rfl T.b_enumerate (u00 (ev 1) u04)) (vi2 (n:=2) rfl (u63 (u37 3 sc_jak.nd) (u63 (u37 4 sc_jak.nd) uu8))) (u03 (u20 5 sc_jak.nd (ec T.f_jaj T.g_read_move G_jaj hr (u00 (ev 4) u04)))
   (u03 (s_if (u31 (vn0) (ev 5) uf5 (nomark _)) (u07 (vc4 T.xm_BadText (um9 T) hr T.f_BadText_init.b T.e_BadText.m (u00 (ev 3) u04))) u25)
   (u07 (ur4 (ud0 (ev 2) (u00 (ev 5) u04)))))) (hp:=v99 um2))
   (u07 (u24 (ev 2))))))) (fun ds G R r h=>?_)
 ·obtain ⟨t,rfl,_⟩:=h;rfl
 ·obtain ⟨t,rfl,hl,good,bad⟩:=h
  have hn:=v67 t;have hz:t.length<=sizeLine:=Nat.le_trans hl (by decide);simp! [id];generalize hN:Go (dSeq _ _ _)=N;have core:∀ (G1:Gp) (q0:Addr),Grow G G1->G1 q0=some (.lst ((wsO t).map .str))->N [some (.str t),some (.ref q0),none,none,none,none] G1:=by
   intro G1 q0 g1 k1;rw [<- hN];dsimp! [id];refine ⟨by decide,fun p hp=>?_⟩;have g0:Grow G1 (gup G1 p (.lst [])):=Grow.refl.new hp;have fp:G p=none:=g1.none hp;dsimp! [vb1,g0.kp _ _ k1];refine u83 (fun r σ G'=>∃ (ps:List Pm) (l:List Str) (v3 v4 v5:Option D),GW ps /\ wsO t=ps.map wdS++l /\ r=enD ps.length (l.map .str) /\ Grow G1 G' /\ G' p=some (.lst (ps.map pmD)) /\ σ=[some (.str t),some (.ref q0),some (.ref p),v3,v4,v5]) ⟨[],wsO t,none,none,none,by simp [GW],rfl,rfl,g0,u02,rfl⟩ ?_ ?_
   ·rintro σ G2 ⟨ps,l,v3,v4,v5,hg,e,e2,g2,k2,rfl⟩
    have ht:l=[]:=by
     cases l with
     | nil=>rfl
     | cons x t=>cases e2
    subst ht;rw [List.append_nil] at e;refine ⟨by rw [g2.kp _ _ k1];rfl,?_⟩;dsimp! [id];exact good ps hg e p _ fp k2 (g1.trans g2)
   ·rintro z r σ G2 ⟨ps,l,v3,v4,v5,hg,e,e2,g2,k2,rfl⟩ ih
    cases l with
    | nil=>cases e2
    | cons w l =>
     cases e2;refine ⟨by rw [g2.kp _ _ k1];rfl,?_⟩;have hlen:=congrArg List.length e;rw [List.length_append,List.length_cons,List.length_map] at hlen;have hwl:w.length<=10000:=Nat.le_trans (v66 (t:=t) (by rw [e];simp)) (by omega);simp! [id]
     by_cases hw:isW w
     ·obtain ⟨p0,hp0,ep0⟩:=hw
      refine u23 (post:=fun d G'=>d=pmD p0 /\ Grow G2 G') (fun R h=>⟨w,rfl,hwl,(fun p1 hp1 ep1 G' z=>h _ _ ⟨by rw [v71 hp0 hp1 (ep0.symm.trans ep1)],z⟩),fun z=>(z ⟨p0,hp0,ep0⟩).elim⟩) ?_;rintro d G3 ⟨rfl,g3⟩;have k3:=g3.kp _ _ k2;obtain ⟨ds,hds⟩:∃ ds,pmD p0=.tup ds:=by cases p0 <;> exact ⟨_,rfl⟩
      rw [hds];simp! [id];dsimp! [id];dsimp! [k3];refine ⟨Nat.lt_of_le_of_lt (m:=1000) (by rw [List.length_map];omega) (by decide),ih _ _ ⟨ps++[p0],l,_,_,_,fun y hy=>(List.mem_append.mp hy).elim (hg y) fun z=>by rw [List.mem_singleton.mp z];exact hp0,by rw [e,List.map_append,List.append_assoc,ep0];rfl,by rw [List.length_append];rfl,(g2.trans g3).own hp,by rw [u02,<- hds,List.map_append];rfl,rfl⟩⟩
     ·refine u23 (post:=fun d G'=>d=.non /\ Grow G2 G') (fun R h=>⟨w,rfl,hwl,(fun p1 hp1 ep1=>(hw ⟨p1,hp1,ep1⟩).elim),fun _ G' z=>h _ _ ⟨rfl,z⟩⟩) ?_
      rintro d G3 ⟨rfl,g3⟩;simp! [id];dsimp! [id];exact bad ps w l hg hw e _ ((g1.trans g2).trans g3)
  by_cases h0:t = ""
  ·have d1:(t=Str.ofString "")=True:=eq_true h0
   simp! [d1];exact ⟨by decide,fun p hp=>core _ p (Grow.refl.new hp) (by unfold wsO;rw [if_pos h0];exact u02)⟩
  ·have d1:(t=Str.ofString "")=False:=eq_false h0
   have ew:wsO t=Txt.split t " " := by unfold wsO;rw [if_neg h0]
   simp! [d1];refine ⟨t,_,rfl,rfl,by decide,hz,by rw [<- ew];exact Nat.le_trans (m:=10000) (by omega) (by decide),fun p hp=>?_⟩;rw [<- ew];exact core _ p (Grow.refl.new hp) u02
theorem vs9 {n:Nat} (G_jai:Ok P w mg base n T.f_jai (vl8 T)):Ok P w mg base (n+1) T.f_jaj (vl7 T):=by
 refine u46 T.f_jaj sc_jaj (fun ds G R h=>?_) (fun cdv A outer s H E hr =>
   (u03 (s_if (u31 (x_eq hr) (ev 0) u08 (nomark _)) (u07 (u24 (ux3 (u00 u08 u04)))) u25)
   (u03 (u20 1 sc_jaj.nd (ec T.f_jai T.g_number_in G_jai hr (u00 (e_sl uz7 (ev 0) (uk7 u10) uk8) (u00 (vj5 T.k_GREATEST_MARK) u04))))
   (u03 (s_if (u31 (vn0) (ev 1) uf5 (nomark _)) (u07 (u24 uf5)) u25)
   (u03 (s_if (u31 (x_eq hr) (e_ix x_ix (ev 0) u10) u08 (nomark _)) (u07 (u24 (ux3 (u00 u08 (u00 (ev 1) u04))))) u25)
   (u07 (u24 (e_if (u31 (x_eq hr) (e_ix x_ix (ev 0) u10) u08 (nomark _)) (ux3 (u00 u08 (u00 (ev 1) u04))) uf5)))))))) (fun ds G R h=>?_)
 ·obtain ⟨w,rfl,_⟩:=h;rfl
 ·obtain ⟨w,rfl,hl,good,bad⟩:=h
  have hz:w.length<=sizeLine:=Nat.le_trans hl (by decide);have hzT:(w.length<=sizeLine)=True:=eq_true hz
  by_cases hb:w = "!"
  ·have d1:(w=Str.ofString "!")=True:=eq_true hb
   simp! [d1];exact ⟨by decide,good none trivial hb _ Grow.refl⟩
  have d1:(w=Str.ofString "!")=False:=eq_false hb;simp! [d1];dsimp! [id];refine ⟨_,rfl,hz,?_⟩;have iw:=uv6 hb
  by_cases hn:isN (tl w)
  ·obtain ⟨k,hk,ek⟩:=hn
   refine u23 (post:=fun d G'=>d=.int (k:Int) /\ Grow G G') (fun R h=>⟨tl w,rfl,Nat.le_trans (v04 w) hl,(fun j hj ej G' z=>h _ _ ⟨by rw [ut0 hk hj (ek.symm.trans ej)],z⟩),fun hn=>(hn ⟨k,hk,ek⟩).elim⟩) ?_;rintro d G1 ⟨rfl,g1⟩;have e1:=v74 w;have hn0:=(u57 hk).1;obtain ⟨c,r,hc⟩:∃ c r,w.cps.toList=c::r:=by
    cases ew:w.cps.toList with
    | nil=>rw [ew,ek] at e1;rw [str_len,e1] at hn0;simp at hn0
    | cons c r=>exact ⟨c,r,rfl⟩
   have er:r=(numS k).cps.toList:=by rw [hc] at e1;rw [<- ek,e1];rfl
   have ha:atI w.cps.toList 0=some c:=by rw [hc];exact at0
   by_cases h1:c=43
   ·subst h1
    simp! [id];have d6:((⟨#[43]⟩:Str)=Str.ofString "+")=True:=eq_true plus_mk.symm;dsimp! [ixS,hzT,ha];dsimp! [ixS,hzT,ha,d6];exact ⟨by decide,good (some (true,k)) hk (u32 (by rw [hc,er,u43];rfl)) _ g1⟩
   have d6:((⟨#[c]⟩:Str)=Str.ofString "+")=False:=eq_false (fun z=>h1 (one_eq.mp (z.trans plus_mk)));simp! [id];dsimp! [ixS,hzT,ha]
   by_cases h2:c=45
   ·subst h2
    have d7:((⟨#[45]⟩:Str)=Str.ofString "-")=True:=eq_true minus_mk.symm
    (simp! [ixS,hzT,ha,d6,d7];repeat (simp only [Go];simp! [ixS,hzT,ha,d6,d7]))
    exact ⟨by decide,good (some (false,k)) hk (u32 (by rw [hc,er,u43];rfl)) _ g1⟩
   ·have d7:((⟨#[c]⟩:Str)=Str.ofString "-")=False:=eq_false (fun z=>h2 (one_eq.mp (z.trans minus_mk)))
    (simp! [ixS,hzT,ha,d6,d7];repeat (simp only [Go];simp! [ixS,hzT,ha,d6,d7]))
    refine bad (fun z=>?_) _ g1;obtain ⟨⟨c',hc',hv⟩,_⟩:=iw.mp z;rw [hc] at hc';cases hc';exact hv.elim h1 h2
  ·refine u23 (post:=fun d G'=>d=.non /\ Grow G G') (fun R h=>⟨tl w,rfl,Nat.le_trans (v04 w) hl,(fun j hj ej G' z=>(hn ⟨j,hj,ej⟩).elim),fun _ G' z=>h _ _ ⟨rfl,z⟩⟩) ?_
   rintro d G1 ⟨rfl,g1⟩
   (simp! [id];repeat (simp only [Go];simp! [id]))
   exact bad (fun z=>hn (iw.mp z).2) _ g1
theorem vt8 {n:Nat}:Ok P w mg base (n+1) T.f_jaa (uo6 T):=by
 refine u46 T.f_jaa sc_jaa (fun ds G R h=>?_) (fun cdv A outer s H E hr =>
   (u03 (v10 (ev 0) (vi2 (n:=3) rfl (u63 (u37 2 sc_jaa.nd) (u63 (u37 3 sc_jaa.nd) (u63 (u37 4 sc_jaa.nd) uu8)))))
   (u03 (s_if (u31 (x_eq hr) (ev 4) u10 (nomark _)) (u03 (v10 (u16 u28 (ev 3) u10) (vi1 (ev 0) u10 va0))
   (u03 (u20 5 sc_jaa.nd (u16 u28 (u16 uo8 u10 (ev 3)) u10))
   (u03 (s_if (u31 (x_gt) (u11 u72 rfl T.b_len (by decide) (u00 (ev 2) u04)) u10 (nomark _)) (u07 (u20 5 sc_jaa.nd (e_ix x_ix (ev 2) (u16 ug8 (ev 3) (u11 u72 rfl T.b_len (by decide) (u00 (ev 2) u04)))))) u25)
   (u03 (u20 4 sc_jaa.nd (u11 vy6 rfl T.b_abs (by decide) (u00 (ev 5) u04)))
   (u07 (s_if (t_w (w_or (u31 (x_ge) (ev 3) (u11 u72 rfl T.b_len (by decide) (u00 (ev 2) u04)) (nomark _)) (v02 (u31 (x_lt) (ev 4) (u16 vm7 u10 u10) (nomark _))))) (u03 (u20 6 sc_jaa.nd (u16 ug8 (u16 u28 (u16 u28 (u16 uo8 (u16 ug8 (ev 5) u10) (u16 u28 u10 (ev 3))) (u16 uo8 u10 (ev 3))) u10) u10))
   (u03 (u20 6 sc_jaa.nd (u16 ug8 (u16 uo8 (ev 6) (ev 6)) u10))
   (u07 (u24 (u16 ug8 (u16 ug8 (u16 uo8 (ev 6) (ev 6)) u10) (ev 1)))))) u25)))))) u25)
   (u03 (v10 (u11 uz9 rfl T.b_divmod (by decide) (u00 (ev 4) (u00 (ev 1) u04))) (vi2 (n:=2) rfl (u63 (vi1 (ev 0) u10 va0) (u63 (u37 7 sc_jaa.nd) uu8))))
   (u07 (u24 (ev 7))))))) (fun ds G R h=>?_)
 ·obtain ⟨⟨st,m,rfl,_⟩,_⟩:=h;rfl
 ·obtain ⟨⟨st,m,rfl,⟨a,ns,k,r,hst,ha,hk,hr0,hne,hlen⟩,hm0,hm1⟩,post⟩:=h
  have fin:∀ (v k' r':Int),0<=v->v < m->0<=k'->0<=r'->R (.int v) (gup G st (.lst [.ref a,.int k',.int r'])):=fun v k' r' h1 h2 h3 h4=>post _ _ ⟨st,m,v,rfl,
   ⟨⟨a,ns,k',r',u02,by rw [u06 hne];exact ha,h3,h4,hne,hlen⟩,fun b o hb e=>by rw [u06 hb];exact e⟩,rfl,h1,h2⟩
  have tail:∀ (y k' r':Int),0<=k'->0<=r'->R (.int (y % m)) (gup G st (.lst [.ref a,.int k',.int r'])):=fun y k' r' h1 h2=>fin _ _ _ (Int.emod_nonneg _ (by omega)) (Int.emod_lt_of_pos _ hm0) h1 h2
  have cd:∀ c:Int,CDiv c m:=fun c=>⟨hm0,hm1⟩
  have cm:∀ c y:Int,CMul (c % 2147483629) y:=fun c y=>um5 (by omega) (by omega)
  have cm2:∀ c y:Int,CMul (c % 2147483587) y:=fun c y=>um5 (by omega) (by omega)
  have c7:∀ y:Int,CMul 7 y:=fun y=>um5 (by decide) (by decide)
  have c79:∀ y:Int,CMul 7919 y:=fun y=>um5 (by decide) (by decide)
  have cp:CPow 10 18:=⟨by decide,by decide,by decide⟩;have p1:((0:Int) < 2147483629)=True:=by decide
  have p2:((0:Int) < 2147483587)=True:=by decide
  have p3:((0:Int) < 1999999973)=True:=by decide
  have p4:((0:Int) < m)=True:=eq_true hm0
  by_cases hn:ns=[]
  ·subst hn
   (simp! [hst,ha,u06 hne,u42,cd,cm,cm2,c7,c79,cp,p1,p2,p3,p4];repeat (simp only [Go];simp! [hst,ha,u06 hne,u42,cd,cm,cm2,c7,c79,cp,p1,p2,p3,p4]))
   refine uv5 (fun h0=>?_) (fun h0=>?_)
   ·simp only [Int.lt_irrefl,Int.natCast_zero,decide_false,Bool.false_eq_true,if_false]
    refine uv5 (fun h1=>?_) (fun h1=>?_)
    ·exact tail _ _ _ (by omega) hr0
    ·exact absurd hk h1
   ·exact tail _ _ _ hk (Int.ediv_nonneg hr0 (by omega))
  ·have hpos:0 < ns.length:=List.length_pos_iff.mpr hn
   have hl:((ns.map D.int).length:Int)=(ns.length:Int):=by simp
   obtain ⟨c,hc⟩:∃ c,atI (ns.map D.int) (k % (ns.length:Int))=some (.int c):=⟨_,vl2 (Int.emod_nonneg _ (by omega)) (Int.emod_lt_of_pos _ (by omega))⟩;have p5:((0:Int) < (ns.length:Int))=True:=eq_true (by omega)
   (simp! [hst,ha,u06 hne,u42,cd,cm,cm2,c7,c79,cp,p1,p2,p3,p4,hl,hc,p5];repeat (simp only [Go];simp! [hst,ha,u06 hne,u42,cd,cm,cm2,c7,c79,cp,p1,p2,p3,p4,hl,hc,p5]))
   refine uv5 (fun h0=>?_) (fun h0=>?_)
   ·refine uv5 (fun h1=>?_) (fun h1=>?_)
    ·exact tail _ _ _ (by omega) hr0
    ·refine uv5 (fun h2=>?_) (fun h2=>?_)
     ·exact tail _ _ _ (by omega) hr0
     ·refine tail _ _ _ (by omega) (Int.ediv_nonneg ?_ (by omega))
      split <;> omega
   ·exact tail _ _ _ hk (Int.ediv_nonneg hr0 (by omega))
theorem vt2 {n:Nat} (G_jaa:Ok P w mg base n T.f_jaa (uo6 T)):Ok P w mg base (n+1) T.f_jag (vm0 T):=by
 refine u46 T.f_jag sc_jag (fun ds G R h=>?_) (fun cdv A outer s H E hr =>
   (u03 (u20 1 sc_jag.nd (u69 u04))
   (u03 (v09 (uw1 rfl T.b_range (u00 (u16 u28 u10 (ec T.f_jaa T.g_law_draw G_jaa hr (u00 (ev 0) (u00 u10 u04)))) u04)) (u37 2 sc_jag.nd) (u03 (u20 3 sc_jag.nd (e_ix x_ix (u69 (u00 (ec T.f_jaa T.g_law_draw G_jaa hr (u00 (ev 0) (u00 u10 u04))) (u00 (ec T.f_jaa T.g_law_draw G_jaa hr (u00 (ev 0) (u00 (u16 vm7 u10 u10) u04))) u04))) (ec T.f_jaa T.g_law_draw G_jaa hr (u00 (ev 0) (u00 u10 u04)))))
   (u07 (ur4 (ud0 (ev 1) (u00 (e_ix x_ix (u69 (u00 (u16 u28 u08 (u61 ub0 rfl T.b_str (by decide) (u00 (ev 3) u04))) (u00 (u16 u28 u08 (u61 ub0 rfl T.b_str (by decide) (u00 (ev 3) u04))) (u00 u08 u04)))) (u16 ug8 (ec T.f_jaa T.g_law_draw G_jaa hr (u00 (ev 0) (u00 u10 u04))) u10)) u04))))))
   (u07 (u24 (ev 1)))))) (fun ds G R h=>?_)
 ·obtain ⟨st,rfl,_⟩:=h;rfl
 ·obtain ⟨st,rfl,S,post⟩:=h
  simp! [id];refine ⟨by decide,fun q hq=>?_⟩;have nq:=S.ne hq;dsimp! [id];refine u22 (S.new hq) (by decide) (by decide) fun x1 G1 a1 b1 b2=>?_
  obtain ⟨x1,rfl⟩:=ua2 b1;simp! [id];refine ⟨⟨by omega,by omega⟩,?_⟩;rw [show (1+(x1:Int)).toNat=1+x1 by omega];refine u83 (fun r σ G'=>∃ (i c:Nat) (w:List Pm) (v2 v3:Option D),i+c=1+x1 /\ r=rngD (i:Int) c /\ Adv st G G' /\ G' q=some (.lst ((w.map wdS).map .str)) /\ GW w /\ w.length=i /\ σ=[some (.ref st),some (.ref q),v2,v3]) ⟨0,1+x1,[],_,_,by omega,rfl,((Adv.refl S).new hq).trans a1,a1.kp _ _ nq u02,by simp [GW],rfl,rfl⟩ ?_ ?_
  ·rintro σ G2 ⟨i,c,w,v2,v3,e,e2,A2,k2,hw,hl,rfl⟩
   have hc:c=0:=by
    cases c with
    | zero=>rfl
    | succ c=>rw [u52] at e2;cases e2
   refine ⟨trivial,?_⟩;dsimp! [id];exact post q w G2 A2 nq k2 hw (by omega) (by omega)
  ·rintro z r σ G2 ⟨i,c,w,v2,v3,e,e2,A2,k2,hw,hl,rfl⟩ ih
   cases c with
   | zero=>cases e2
   | succ c =>
    rw [u52] at e2;cases e2;refine ⟨trivial,?_⟩;have ei:(i:Int)+1=((i+1:Nat):Int):=by omega
    rw [ei] at ih;simp! [id];refine u22 A2.at_ (by decide) (by decide) fun x2 G3 a3 c1 c2=>?_
    obtain ⟨x2,rfl⟩:=ua2 c1;simp! [id];refine ⟨⟨by decide,by decide⟩,?_⟩;rw [show (10:Int) ^ Int.toNat 4=10000 from rfl];refine u22 a3.at_ (by decide) (by decide) fun x3 G4 a4 d1 d2=>?_
    obtain ⟨x3,rfl⟩:=ua2 d1;simp! [id];refine ⟨by decide,fun p5 hp5=>?_⟩;have n5:=a4.at_.ne hp5
    refine u22 (a4.at_.new hp5) (by decide) (by decide) fun x4 G6 a6 f1 f2=>?_
    have k56:=a6.kp _ _ n5 u02;obtain ⟨k,hk,ek⟩:∃ k:Nat,k<=9999 /\ atI [D.int (x2:Int),D.int (x3:Int)] x4=some (.int (k:Int)):=by
     have:x4=0 \/ x4=1:=by omega
     rcases this with e | e <;> subst e
     ·exact ⟨x2,by omega,rfl⟩
     ·exact ⟨x3,by omega,rfl⟩
    have A6:=((A2.trans a3).trans a4).new (o:=.lst [D.int (x2:Int),D.int (x3:Int)]) hp5 |>.trans a6
    have k6:=a6.kp _ _ nq (show gup G4 p5 (.lst [D.int (x2:Int),D.int (x3:Int)]) q=some (.lst ((w.map wdS).map .str)) by
     have:=a4.kp _ _ nq (a3.kp _ _ nq k2);rw [u06 (gne this hp5)];exact this)
    simp! [k56,ek];dsimp! [k6];have hks:=u57 hk;have z1:1+(numS k).length<=sizeLine:=Nat.le_trans (m:=10) (by omega) (by decide);refine ⟨(k:Int),rfl,uf2 hk,?_⟩;refine ⟨z1,?_⟩;refine ⟨(k:Int),rfl,uf2 hk,?_⟩;refine ⟨z1,?_⟩;refine ⟨by decide,fun p7 hp7=>?_⟩;obtain ⟨xs,hxs⟩:∃ xs,xs=[D.str (Str.ofString "+" ++ Str.ofString (toString (k:Int))),D.str (Str.ofString "-" ++ Str.ofString (toString (k:Int))),D.str "!"]:=⟨_,rfl⟩;rw [<- hxs];have k67:gup G6 p7 (.lst xs) q=some (.lst ((w.map wdS).map .str)):=by rw [u06 (gne k6 hp7)];exact k6
    have n7:=A6.at_.ne hp7
    have A7:=A6.new (o:=.lst xs) hp7;refine u22 A7.at_ (by decide) (by decide) fun x5 G8 a8 g1 g2=>?_
    have k8:=a8.kp _ _ nq k67;have k78:=a8.kp _ _ n7 u02;obtain ⟨p,hp,ep⟩:∃ p:Pm,wOk p /\ atI xs (x5 % 3)=some (.str (wdS p)):=by
     have:x5 % 3=0 \/ x5 % 3=1 \/ x5 % 3=2:=by omega
     rw [hxs]
     rcases this with e | e | e <;> rw [e]
     ·exact ⟨some (true,k),hk,rfl⟩
     ·exact ⟨some (false,k),hk,rfl⟩
     ·exact ⟨none,trivial,rfl⟩
    simp! [k78,ep,k8];refine ⟨by decide,Nat.lt_of_le_of_lt (m:=1000) (by rw [List.length_map,List.length_map];omega) (by decide),?_⟩;rw [ei];refine ih _ _ ⟨i+1,c,w++[p],_,_,by omega,rfl,(A7.trans a8).own hq k8 nq,by rw [u02,List.map_append,List.map_append];rfl,fun y hy=>?_,by rw [List.length_append];show _+1=_;omega,rfl⟩
    rcases List.mem_append.mp hy with hy | hy
    ·exact hw y hy
    ·rw [List.mem_singleton.mp hy];exact hp
theorem vt3 {n:Nat} (G_jaa:Ok P w mg base n T.f_jaa (uo6 T)):Ok P w mg base (n+1) T.f_jaf (vm1 T):=by
 refine u46 T.f_jaf sc_jaf (fun ds G R h=>?_) (fun cdv A outer s H E hr =>
   (u03 (u20 2 sc_jaf.nd (e_sl uz7 (ev 1) (uk7 u10) uk8))
   (u03 (u20 3 sc_jaf.nd (u69 (u00 u08 (u00 (ev 2) (u00 (u16 u28 u08 (ev 1)) (u00 (u16 u28 (ev 1) u08) (u00 (u16 u28 (ev 1) (ev 1)) (u00 (u16 u28 u08 (ev 1)) (u00 (u16 u28 (u16 u28 u08 (ev 2)) u08) u04)))))))))
   (u03 (u20 3 sc_jaf.nd (u16 u28 (ev 3) (uf6 (N':=["_law_sign", "_law_rest"]) (ix:=[none,some 2]) (blk (osc:=u01 ur3) (N:=["_law_state", "_law_word", "_law_rest", "_law_some"]) rfl rfl (by decide)) (vi8 (u69 (u00 u08 (u00 u08 (u00 u08 (u00 u08 (u00 u08 (u00 u08 u04)))))))) (fun _ _ _ _=>(u37 0 (show (["_law_sign", "_law_rest"]:List Str).Nodup by decide))) (fun _ _ _ _=>u89) (fun _ _ _ _=>(u16 u28 (ev 0) (ev 1))))))
   (u03 (u20 3 sc_jaf.nd (u16 u28 (ev 3) (uf6 (N':=["_law_sign", "_law_word"]) (ix:=[none,some 1]) (blk (osc:=u01 ur3) (N:=["_law_state", "_law_word", "_law_rest", "_law_some"]) rfl rfl (by decide)) (vi8 (u69 (u00 u08 (u00 u08 (u00 u08 (u00 u08 (u00 u08 u04))))))) (fun _ _ _ _=>(u37 0 (show (["_law_sign", "_law_word"]:List Str).Nodup by decide))) (fun _ _ _ _=>u89) (fun _ _ _ _=>(u16 u28 (ev 1) (ev 0))))))
   (u03 (u20 3 sc_jaf.nd (u16 u28 (u16 u28 (ev 3) (u69 (u00 u08 (u00 u08 u04)))) (uc9 u08 (u00 u08 u04))))
   (u07 (u24 (e_ix x_ix (ev 3) (ec T.f_jaa T.g_law_draw G_jaa hr (u00 (ev 0) (u00 (u11 u72 rfl T.b_len (by decide) (u00 (ev 3) u04)) u04)))))))))))) (fun ds G R h=>?_)
 ·obtain ⟨st,w,rfl,_⟩:=h;rfl
 ·obtain ⟨st,w,rfl,S,hl,post⟩:=h
  have hz:w.length<=sizeLine:=Nat.le_trans (m:=10) (by omega) (by decide);simp! [id];refine ⟨w,rfl,hz,?_⟩;rw [show Txt.slice w (some 1) none=tl w from rfl];have hlt:=v04 w;have z20:(20:Nat)<=sizeLine:=by decide
  have one:∀ c:Str,c.length<=5->c.length+w.length<=sizeLine:=fun c h=>by omega
  have two:∀ c:Str,c.length<=5->w.length+c.length<=sizeLine:=fun c h=>by omega
  have ln:∀ a b:Str,(a++b).length=a.length+b.length:=fun a b=>by rw [str_len,u94,List.length_append,<- str_len,<- str_len]
  dsimp! [id];generalize hN:Go (dSeq _ _ _)=N;have c1:∀ (p:Addr) (ws:List Str) (G1:Gp),p ≠ st->(∀ x ∈ ws,x.length<=20)->ws.length=7->G1 p=some (.lst (ws.map .str))->Adv st G G1->N [some (.ref st),some (.str w),some (.str (tl w)),some (.ref p)] G1:=by
   intro p ws G1 np hws hn k1 A1;rw [<- hN];clear hN;dsimp! [id];refine ⟨by decide,fun q hq=>?_⟩;obtain ⟨us,hus⟩:∃ us:List Str,us=([("*" : Str), "+0", "-+", "+1_", "+_", "!"]:List Str):=⟨_,rfl⟩;rw [show [D.str "*",D.str "+0",D.str "-+",D.str "+1_",D.str "+_",D.str "!"]=us.map D.str by rw [hus];rfl];have hul:us.length=6:=by rw [hus];rfl
   have hu5:∀ x ∈ us,x.length<=5:=by rw [hus];decide
   clear hus;have A2:=A1.new (o:=.lst (us.map D.str)) hq;have k2:gup G1 q (.lst (us.map D.str)) p=some (.lst (ws.map .str)):=by rw [u06 (gne k1 hq)];exact k1
   have kq2:gup G1 q (.lst (us.map D.str)) q=some (.lst (us.map .str)):=u02;have nq:=A1.at_.ne hq
   obtain ⟨G2,hG2⟩:∃ G2,G2=gup G1 q (.lst (us.map D.str)):=⟨_,rfl⟩;rw [<- hG2] at A2 k2 kq2 ⊢;clear hG2;simp! [kq2,u50];intro p3 hp3;generalize hN2:Go (dSeq _ _ _)=N2;have c2:∀ (p:Addr) (ws:List Str) (G1:Gp),p ≠ st->(∀ x ∈ ws,x.length<=20)->ws.length=13->G1 p=some (.lst (ws.map .str))->Adv st G G1->N2 [some (.ref st),some (.str w),some (.str (tl w)),some (.ref p)] G1:=by
    intro p ws G1 np hws hn k1 A1;rw [<- hN2];clear hN2;dsimp! [id];refine ⟨by decide,fun q hq=>?_⟩;obtain ⟨us,hus⟩:∃ us:List Str,us=([("_1" : Str), "a", "!","\n", "."] : List Str) := ⟨_, rfl⟩;rw [show [D.str "_1", D.str "a", D.str "!", D.str "\n", D.str "."]=us.map D.str by rw [hus];rfl];have hul:us.length=5:=by rw [hus];rfl
    have hu5:∀ x ∈ us, x.length<=5:=by rw [hus];decide
    clear hus;have A2:=A1.new (o:=.lst (us.map D.str)) hq;have k2:gup G1 q (.lst (us.map D.str)) p=some (.lst (ws.map .str)):=by rw [u06 (gne k1 hq)];exact k1
    have kq2:gup G1 q (.lst (us.map D.str)) q=some (.lst (us.map .str)):=u02;have nq:=A1.at_.ne hq
    obtain ⟨G2, hG2⟩:∃ G2, G2=gup G1 q (.lst (us.map D.str)):=⟨_, rfl⟩;rw [<- hG2] at A2 k2 kq2 ⊢;clear hG2;simp! [kq2, u50];intro p3 hp3;generalize hN3:Go (dSeq _ _ _)=N3;have c3:∀ (p:Addr) (ws:List Str) (G1:Gp), p ≠ st->(∀ x ∈ ws, x.length<=20)->ws.length=18->G1 p=some (.lst (ws.map .str))->Adv st G G1->N3 [some (.ref st), some (.str w), some (.str (tl w)), some (.ref p)] G1:=by
     intro p ws G1 np hws hn k1 A1;rw [<- hN3];clear hN3;dsimp! [id];refine ⟨by decide, fun p5 hp5=>?_⟩;refine ua9 (xs:=ws.map .str) (ys:=[D.str "lay 3", D.str "+ 1"]) (by rw [u06 (gne k1 hp5)];exact k1) u02 (by rw [List.length_map];show _+2<=_;omega) fun p6 hp6=>?_
     refine ⟨_, _, rfl, rfl, by decide, by decide, by rw [v77];decide, fun p7 hp7=>?_⟩;rw [v77];refine ua9 (xs:=ws.map .str++[D.str "lay 3", D.str "+ 1"]) (by rw [u06 (gne u02 hp7)];exact u02) u02 (by rw [List.length_append, List.length_map, List.length_map];show _+2+11<=_;omega) fun p8 hp8=>?_
     have A8:=(((A1.new hp5).new hp6).new hp7).new (o:=.lst (ws.map D.str++[D.str "lay 3", D.str "+ 1"]++List.map D.str [("+" : Str), "-", "!!", "+-1", "0", "+1.", "+10000", "-9999", "+0", "-00", "++1"])) hp8;have n8:=(((A1.new hp5).new hp6).new hp7).at_.ne hp8
     obtain ⟨zs, hzs⟩:∃ zs:List Str, zs=ws++[Str.ofString "lay 3", Str.ofString "+ 1"]++[("+" : Str), "-", "!!", "+-1", "0", "+1.", "+10000", "-9999", "+0", "-00", "++1"]:=⟨_, rfl⟩;have ez:ws.map D.str++[D.str "lay 3", D.str "+ 1"]++List.map D.str [("+" : Str), "-", "!!", "+-1", "0", "+1.", "+10000", "-9999", "+0", "-00", "++1"]=zs.map D.str:=by rw [hzs, List.map_append, List.map_append];rfl
     have zl:∀ z ∈ zs, z.length<=20:=by
      rw [hzs];intro z hz
      rcases List.mem_append.mp hz with hz | hz
      ·rcases List.mem_append.mp hz with hz | hz
       ·exact hws z hz
       ·have:∀ z ∈ [Str.ofString "lay 3", Str.ofString "+ 1"], z.length<=20:=by decide
        exact this z hz
      ·have:∀ z ∈ [("+" : Str), "-", "!!", "+-1", "0", "+1.", "+10000", "-9999", "+0", "-00", "++1"], z.length<=20:=by decide
       exact this z hz
     have zn:zs.length=31:=by rw [hzs, List.length_append, List.length_append, hn];rfl
     clear hzs;rw [ez] at A8 ⊢;obtain ⟨G8, hG8⟩:∃ G8, G8=gup (gup (gup (gup G1 p5 (.lst [D.str "lay 3", D.str "+ 1"])) p6 (.lst (ws.map .str++[D.str "lay 3", D.str "+ 1"]))) p7 (.lst (List.map D.str [("+" : Str), "-", "!!", "+-1", "0", "+1.", "+10000", "-9999", "+0", "-00", "++1"]))) p8 (.lst (zs.map D.str)):=⟨_,rfl⟩;have k8:G8 p8=some (.lst (zs.map D.str)):=by rw [hG8];exact u02
     rw [<- hG8] at A8 ⊢;clear hG8;dsimp! [k8,List.length_map,zn];refine u22 A8.at_ (by decide) (by decide) fun x G9 a9 b1 b2=>?_
     obtain ⟨y,hy,ey⟩:=at_getD (xs:=zs.map D.str) (v:=x) b1 (by rw [List.length_map,zn];exact b2);obtain ⟨z,hz,rfl⟩:=List.mem_map.mp hy;simp! [a9.kp _ _ n8 k8,ey];exact post z _ (A8.trans a9) (Nat.le_trans (zl z hz) (by decide))
    have n3:=A2.at_.ne hp3
    refine u56 (fun r σ G'=>∃ (l t:List Str) (v:Option D),l++t=us /\ r=t.map .str /\ G'=gup G2 p3 (.lst ((l.map fun x=>w++x).map .str)) /\ σ=[v,some (.str w)]) ⟨[],us,none,rfl,rfl,rfl,rfl⟩ ?_ ?_
    ·rintro σ G3 ⟨l,t,v,e,e2,rfl,rfl⟩
     have ht:t=[]:=by simpa using e2.symm
     subst ht;rw [List.append_nil] at e;subst e;refine ⟨by rw [u06 (gne kq2 hp3),kq2];rfl,?_⟩;refine ua9 (by rw [u06 (gne k2 hp3)];exact k2) u02 (by rw [List.length_map,List.length_map,List.length_map];omega) fun p4 hp4=>?_
     have A3:=A2.new (o:=.lst ((l.map fun x=>w++x).map .str)) hp3;refine c3 p4 (ws++l.map fun x=>w++x) _ (A3.at_.ne hp4) (fun x hx=>?_) (by rw [List.length_append,List.length_map];omega) (by rw [u02,List.map_append]) (A3.new hp4)
     rcases List.mem_append.mp hx with hx | hx
     ·exact hws x hx
     ·obtain ⟨u,hu,rfl⟩:=List.mem_map.mp hx
      have:=hu5 u hu;rw [ln];omega
    ·rintro z r σ G3 ⟨l,t,v,e,e2,rfl,rfl⟩ ih
     cases t with
     | nil=>cases e2
     | cons u t =>
      cases e2;refine ⟨by rw [u06 (gne kq2 hp3),kq2];rfl,?_⟩;have hlen:=congrArg List.length e;rw [List.length_append,List.length_cons] at hlen;have hu:=hu5 u (by rw [<- e];simp);simp! [id];refine ⟨by omega,?_⟩;simp! [u02];refine ⟨Nat.lt_of_le_of_lt (m:=1000) (by rw [List.length_map,List.length_map];omega) (by decide),ih _ _ ⟨l++[u],t,_,by rw [<- e,List.append_assoc];rfl,rfl,?_,rfl⟩⟩;rw [u42,List.map_append,List.map_append];rfl
   have n3:=A2.at_.ne hp3
   refine u56 (fun r σ G'=>∃ (l t:List Str) (v:Option D),l++t=us /\ r=t.map .str /\ G'=gup G2 p3 (.lst ((l.map fun x=>x++tl w).map .str)) /\ σ=[v,some (.str (tl w))]) ⟨[],us,none,rfl,rfl,rfl,rfl⟩ ?_ ?_
   ·rintro σ G3 ⟨l,t,v,e,e2,rfl,rfl⟩
    have ht:t=[]:=by simpa using e2.symm
    subst ht;rw [List.append_nil] at e;subst e;refine ⟨by rw [u06 (gne kq2 hp3),kq2];rfl,?_⟩;refine ua9 (by rw [u06 (gne k2 hp3)];exact k2) u02 (by rw [List.length_map,List.length_map,List.length_map];omega) fun p4 hp4=>?_
    have A3:=A2.new (o:=.lst ((l.map fun x=>x++tl w).map .str)) hp3;refine c2 p4 (ws++l.map fun x=>x++tl w) _ (A3.at_.ne hp4) (fun x hx=>?_) (by rw [List.length_append,List.length_map];omega) (by rw [u02,List.map_append]) (A3.new hp4)
    rcases List.mem_append.mp hx with hx | hx
    ·exact hws x hx
    ·obtain ⟨u,hu,rfl⟩:=List.mem_map.mp hx
     have:=hu5 u hu;rw [ln];omega
   ·rintro z r σ G3 ⟨l,t,v,e,e2,rfl,rfl⟩ ih
    cases t with
    | nil=>cases e2
    | cons u t =>
     cases e2;refine ⟨by rw [u06 (gne kq2 hp3),kq2];rfl,?_⟩;have hlen:=congrArg List.length e;rw [List.length_append,List.length_cons] at hlen;have hu:=hu5 u (by rw [<- e];simp);simp! [id];refine ⟨by omega,?_⟩;simp! [u02];refine ⟨Nat.lt_of_le_of_lt (m:=1000) (by rw [List.length_map,List.length_map];omega) (by decide),ih _ _ ⟨l++[u],t,_,by rw [<- e,List.append_assoc];rfl,rfl,?_,rfl⟩⟩;rw [u42,List.map_append,List.map_append];rfl
  refine ⟨one _ (by decide),two _ (by decide),two w hl,one _ (by decide),?_,?_,by decide,fun p hp=>?_⟩
  ·have:(Str.ofString "+").length=1:=by decide
   omega
  ·rw [ln,show (Str.ofString "+").length=1 by decide,show (Str.ofString "12345").length=5 by decide];omega
  refine c1 p [Str.ofString "",tl w,Str.ofString " " ++ w,w++Str.ofString " ",w++w,Str.ofString "\n" ++ w, Str.ofString "+" ++ tl w ++ Str.ofString "12345"] _ (S.ne hp) ?_ rfl u02 ((Adv.refl S).new hp);intro x hx;simp only [List.mem_cons, List.mem_nil_iff, or_false] at hx
  rcases hx with rfl | rfl | rfl | rfl | rfl | rfl | rfl
  all_goals (first | decide | (simp only [ln, show (Str.ofString " ").length=1 by decide, show (Str.ofString "\n").length = 1 by decide, show (Str.ofString "+").length = 1 by decide, show (Str.ofString "12345").length=5 by decide];omega) | omega)
theorem vt6 {n:Nat}:Ok P w mg base (n+1) T.f_jac (vm3 T):=by
 refine u46 T.f_jac sc_jac (fun ds G R h=>?_) (fun cdv A outer s H E hr =>
   (u03 (s_if (u31 (x_eq hr) (ev 0) u08 (nomark _)) (u07 (u24 e_bl)) u25)
   (u03 (u20 1 sc_jac.nd (e_sl uz7 (ev 0) (uk7 u10) uk8))
   (u03 (s_if (t_w (w_or (u31 (va1 hr) (e_sl uz7 (ev 0) uk8 (uk7 u10)) (ux3 (u00 u08 (u00 u08 u04))) (by with_unfolding_all rfl)) (w_or (un2 (vb5 (x_le) (x_le) u10 (u11 u72 rfl T.b_len (by decide) (u00 (ev 1) u04)) u10)) (v02 (t_w (w_and (u31 (x_eq hr) (e_ix x_ix (ev 1) u10) u08 (nomark _)) (v72 (u31 (x_ne hr) (ev 1) u08 (nomark _))))))))) (u07 (u24 e_bl)) u25)
   (u07 (u24 (u11 vn1 rfl T.b_all (by decide) (u00 (uf6 (N':=["_law_sign"]) (ix:=[none]) (blk (osc:=u01 v08) (N:=["_law_word", "_law_rest"]) rfl rfl (by decide)) (vw1 (ev 1)) (fun _ _ _ _=>(u37 0 (show (["_law_sign"]:List Str).Nodup by decide))) (fun _ _ _ _=>u89) (fun _ _ _ _=>(vj6 (vm9) (vm9) u08 (ev 0) u08))) u04)))))))) (fun ds G R h=>?_)
 ·obtain ⟨w, rfl, _⟩:=h;rfl
 ·obtain ⟨w, rfl, hl, good, bad⟩:=h
  have hz:w.length<=sizeLine:=Nat.le_trans hl (by decide);have hzT:(w.length<=sizeLine)=True:=eq_true hz
  by_cases hb:w = "!"
  ·have d1:(w=Str.ofString "!")=True:=eq_true hb
   simp! [d1];exact good (hb ▸ v47) _ Grow.refl
  have d1:(w=Str.ofString "!")=False:=eq_false hb;have iw:=uv6 hb;simp! [d1];dsimp! [id];refine ⟨_,rfl,hz,?_⟩;have et:Txt.slice w (some 1) none=tl w:=rfl;rw [et];have hzt:(tl w).length<=sizeLine:=Nat.le_trans (v04 w) hz;have hztT:((tl w).length<=sizeLine)=True:=eq_true hzt;simp! [id];dsimp! [id];refine ⟨w,rfl,hz,by decide,?_⟩;have ei:=vw4 w;rw [show Txt.slice w none (some 1)=hd1 w from rfl]
  by_cases hc:¬ ∃ c,w.cps.toList.head?=some c /\ (c=43 \/ c=45)
  ·have d2:(hd1 w ∈ [Str.ofString "+",Str.ofString "-"])=False:=eq_false fun z=>hc (ei.mp z)
   simp! [v85,d2];exact bad (fun z=>hc (iw.mp z).1) _ Grow.refl
  have hc:=Classical.not_not.mp hc;have d2:(hd1 w ∈ [Str.ofString "+",Str.ofString "-"])=True:=eq_true (ei.mpr hc);simp! [v85,d2,u70,lenS,hztT]
  by_cases l1:¬ 1<=(tl w).length
  ·have d3:((1:Int)<=(tl w).length)=False:=eq_false (by omega)
   simp! [u70,lenS,hztT,d3];exact bad (fun z=>by have:=u38 (iw.mp z).2;omega) _ Grow.refl
  have l1:=Classical.not_not.mp l1;have d3:((1:Int)<=(tl w).length)=True:=eq_true (by omega)
  by_cases l2:¬ (tl w).length<=4
  ·have d4:(((tl w).length:Int)<=4)=False:=eq_false (by omega)
   simp! [u70,lenS,hztT,d3,d4];exact bad (fun z=>by have:=u38 (iw.mp z).2;omega) _ Grow.refl
  have l2:=Classical.not_not.mp l2;have d4:(((tl w).length:Int)<=4)=True:=eq_true (by omega);obtain ⟨c,r,hc2⟩:∃ c r,(tl w).cps.toList=c::r:=by
   cases ew:(tl w).cps.toList with
   | nil=>rw [str_len,ew] at l1;exact absurd l1 (by decide)
   | cons c r=>exact ⟨c,r,rfl⟩
  have ha:atI (tl w).cps.toList 0=some c:=by rw [hc2];exact at0
  simp! [u70,lenS,hztT,d3,d4,ixS,ha];generalize hN:Go (dRet _ _)=N;have r1:((tl w).length=1 \/ (tl w).cps.toList.head? ≠ some 48)->N [some (.str w),some (.str (tl w))] G:=by
   intro h4;rw [<- hN];dsimp! [wStr];refine ⟨tl w,rfl,fun p hp=>?_⟩;refine u56 (fun r σ G'=>∃ (l t:List Nat) (v:Option D),l++t=(tl w).cps.toList /\ r=t.map (fun c=>D.str ⟨#[c]⟩) /\ G'=gup G p (.lst ((l.map fun c=>decide (48<=c /\ c<=57)).map .bl)) /\ σ=[v]) ⟨[],_,none,rfl,rfl,rfl,rfl⟩ ?_ ?_
   ·rintro σ G1 ⟨l,t,v,e,e2,rfl,rfl⟩
    refine ⟨trivial,?_⟩;have ht:t=[]:=by simpa using e2.symm
    subst ht;rw [List.append_nil] at e;simp! [u02,u50,u98];have ea:(l.map fun c=>decide (48<=c /\ c<=57)).all id=decide (∀ c ∈ (tl w).cps.toList,48<=c /\ c<=57):=by
     rw [e,Bool.eq_iff_iff,List.all_eq_true,decide_eq_true_iff]
     constructor
     ·intro h c hc
      exact of_decide_eq_true (h _ (List.mem_map.mpr ⟨c,hc,rfl⟩))
     ·intro h b hb
      obtain ⟨c,hc,rfl⟩:=List.mem_map.mp hb;exact decide_eq_true (h c hc)
    rw [ea]
    by_cases hd:∀ c ∈ (tl w).cps.toList,48<=c /\ c<=57
    ·rw [decide_eq_true hd]
     exact good (iw.mpr ⟨hc,v90 l1 l2 hd h4⟩) _ (Grow.refl.new hp)
    ·rw [decide_eq_false hd]
     exact bad (fun z=>hd (u38 (iw.mp z).2).2.2.1) _ (Grow.refl.new hp)
   ·rintro z r σ G1 ⟨l,t,v,e,e2,rfl,rfl⟩ ih
    cases t with
    | nil=>cases e2
    | cons c t =>
     cases e2;refine ⟨trivial,?_⟩;have hlen:=congrArg List.length e;rw [List.length_append,List.length_cons,<- str_len] at hlen;have fin:∀ b:Bool,b=decide (48<=c /\ c<=57)->match (gup G p (.lst ((l.map fun c=>decide (48<=c /\ c<=57)).map .bl))) p with
       | some (DO.lst ys)=>ys.length < sizeLine /\ ua0 (fun x=>True) (uv0 0) dYes (u70 xLeS xLeS (dC (D.str "0")) (dVar 0) (dC (D.str "9"))) p (fun x G1=>xAll [x] G1 R) (t.map (fun c=>D.str ⟨#[c]⟩)) [some (.str ⟨#[c]⟩)] (gup (gup G p (.lst ((l.map fun c=>decide (48<=c /\ c<=57)).map .bl))) p (.lst (ys++[.bl b])))
       | _=>False:=by
      intro b eb;simp! [u02];refine ⟨Nat.lt_of_le_of_lt (m:=1000) (by rw [List.length_map,List.length_map];omega) (by decide),ih _ _ ⟨l++[c],t,_,by rw [<- e,List.append_assoc];rfl,rfl,?_,rfl⟩⟩;rw [u42,List.map_append,List.map_append,eb];rfl
     simp! [u70];refine ⟨_,_,rfl,rfl,?_⟩;have es:=vc3 c;cases h1:(!decide ((⟨#[c]⟩:Str).cps.toList < ("0" : Str).cps.toList)) with
     | false =>
      rw [h1,Bool.false_and] at es
      show (if false=true then _ else _)
      rw [if_neg (by decide)];exact fin false es
     | true =>
      rw [h1,Bool.true_and] at es
      show (if true=true then _ else _)
      rw [if_pos rfl];refine ⟨_,_,rfl,rfl,?_⟩;exact fin _ es
  by_cases h0:c=48
  ·have d6:({ cps:=#[c] }:Str)=Str.ofString "0" := by rw [h0];exact zero_mk.symm
   rw [if_pos (decide_eq_true d6)]
   by_cases h5:tl w=Str.ofString "0"
   ·rw [decide_eq_true h5]
    exact r1 (.inl (by rw [h5];decide))
   ·rw [decide_eq_false h5]
    refine bad (fun h=>?_) _ Grow.refl
    rcases (u38 (iw.mp h).2).2.2.2 with z | z
    ·apply h5
     apply u32;rw [str_len,hc2,List.length_cons] at z;have:r=[]:=List.length_eq_zero_iff.mp (by omega);rw [hc2,this,h0];rfl
    ·exact z (by rw [hc2,h0];rfl)
  ·have d6:¬ ({ cps:=#[c] }:Str)=Str.ofString "0" := fun e=>h0 (one_eq.mp (e.trans zero_mk))
   rw [if_neg (by rw [decide_eq_false d6];decide)];exact r1 (.inr (by rw [hc2];intro z;cases z;exact h0 rfl))
theorem vt7 {n:Nat} (G_jac:Ok P w mg base n T.f_jac (vm3 T)):Ok P w mg base (n+1) T.f_jab (vm4 T):=by
 refine u46 T.f_jab sc_jab (fun ds G R h=>?_) (fun cdv A outer s H E hr =>
   (u03 (s_if (u31 (x_eq hr) (ev 0) u08 (nomark _)) (u07 (u24 (e_un va2 u10))) u25)
   (u03 (u20 1 sc_jab.nd (uc9 (ev 0) (u00 u08 u04)))
   (u03 (v09 (uw1 rfl T.b_range (u00 (u11 u72 rfl T.b_len (by decide) (u00 (ev 1) u04)) u04)) (u37 2 sc_jab.nd) (u07 (s_if (un2 (uq1 (ec T.f_jac T.g_law_good G_jac hr (u00 (e_ix x_ix (ev 1) (ev 2)) u04)))) (u07 (u24 (ev 2))) u25)))
   (u07 (u24 (e_un va2 u10))))))) (fun ds G R h=>?_)
 ·obtain ⟨t,rfl,_⟩:=h;rfl
 ·obtain ⟨t,rfl,hl,good,bad⟩:=h
  by_cases h0:t = ""
  ·have d1:(t=Str.ofString "")=True:=eq_true h0
   simp! [d1];exact good [] (by simp [GW]) (by unfold wsO;rw [if_pos h0];rfl) _ Grow.refl
  have d1:(t=Str.ofString "")=False:=eq_false h0;have ew:wsO t=Txt.split t " " := by unfold wsO;rw [if_neg h0]
  have hn:=split_len t;have hz:t.length<=sizeLine:=Nat.le_trans hl (by decide);simp! [d1];dsimp! [id];refine ⟨t,_,rfl,rfl,by decide,hz,Nat.le_trans hn (Nat.le_trans (m:=10000) (by omega) (by decide)),fun p hp=>?_⟩;rw [show Txt.split t (Str.ofString " ")=wsO t from ew.symm];have hn:(wsO t).length<=901:=by rw [ew];omega
  have k1:gup G p (.lst ((wsO t).map .str)) p=some (.lst ((wsO t).map .str)):=u02;have g1:Grow G (gup G p (.lst ((wsO t).map .str))):=Grow.refl.new hp;obtain ⟨G1,hG1⟩:∃ G1,G1=gup G p (.lst ((wsO t).map .str)):=⟨_,rfl⟩;rw [<- hG1] at k1 g1 ⊢;clear hG1;dsimp! [k1,List.length_map];refine ⟨⟨by omega,by omega⟩,?_⟩;refine u83 (fun r σ G'=>∃ (i c:Nat) (ps:List Pm) (l:List Str) (v2:Option D),i+c=(wsO t).length /\ r=rngD (i:Int) c /\ Grow G1 G' /\ GW ps /\ wsO t=ps.map wdS++l /\ ps.length=i /\ σ=[some (.str t),some (.ref p),v2]) ⟨0,_,[],wsO t,_,by omega,rfl,Grow.refl,by simp [GW],rfl,rfl,rfl⟩ ?_ ?_
  ·rintro σ G2 ⟨i,c,ps,l,v2,e,e2,g2,hg,e3,e4,rfl⟩
   have hc:c=0:=by
    cases c with
    | zero=>rfl
    | succ c=>rw [u52] at e2;cases e2
   refine ⟨trivial,?_⟩;have hl0:l=[]:=by
    have:=congrArg List.length e3;rw [List.length_append,List.length_map] at this;exact List.length_eq_zero_iff.mp (by omega)
   dsimp! [id];exact good ps hg (by rw [e3,hl0,List.append_nil]) _ (g1.trans g2)
  ·rintro z r σ G2 ⟨i,c,ps,l,v2,e,e2,g2,hg,e3,e4,rfl⟩ ih
   cases c with
   | zero=>cases e2
   | succ c =>
    rw [u52] at e2;cases e2;refine ⟨trivial,?_⟩;have ei:(i:Int)+1=((i+1:Nat):Int):=by omega
    rw [ei] at ih;have hlen:=congrArg List.length e3;rw [List.length_append,List.length_map] at hlen;cases l with
    | nil=>rw [List.length_nil] at hlen;omega
    | cons w l =>
     have hget:atI ((wsO t).map D.str) (i:Int)=some (.str w):=by
      rw [e3];refine u79 ?_;rw [List.getElem?_map,List.getElem?_append_right (by rw [List.length_map];omega),List.length_map,e4,Nat.sub_self];rfl
     have hwl:w.length<=10000:=Nat.le_trans (v66 (t:=t) (by rw [e3];simp)) (by omega);have k2:=g2.kp _ _ k1;simp! [k2,hget]
     by_cases hw:isW w
     ·refine u23 (post:=fun d G'=>d=.bl true /\ Grow G2 G') (fun R h=>⟨w,rfl,hwl,(fun _ G' z=>h _ _ ⟨rfl,z⟩),fun z=>(z hw).elim⟩) ?_
      rintro d G3 ⟨rfl,g3⟩;obtain ⟨p0,hp0,ep0⟩:=hw;simp! [id];rw [ei];exact ih _ _ ⟨i+1,c,ps++[p0],l,_,by omega,rfl,g2.trans g3,fun y hy=>(List.mem_append.mp hy).elim (hg y) fun z=>by rw [List.mem_singleton.mp z];exact hp0,by rw [e3,List.map_append,List.append_assoc,ep0];rfl,by rw [List.length_append,e4];rfl,rfl⟩
     ·refine u23 (post:=fun d G'=>d=.bl false /\ Grow G2 G') (fun R h=>⟨w,rfl,hwl,(fun z=>(hw z).elim),fun _ G' z=>h _ _ ⟨rfl,z⟩⟩) ?_
      rintro d G3 ⟨rfl,g3⟩;simp! [id];rw [<- e4];exact bad ps w l hg hw e3 _ ((g1.trans g2).trans g3)
theorem vt5 {n:Nat} (G_jak:OkX P w mg base n T.f_jak (uo5 T)):Ok P w mg base (n+1) T.f_jad (vm2 T):=by
 refine u46 T.f_jad sc_jad (fun ds G R h=>?_) (fun cdv A outer s H E hr =>
   (u03 (u20 2 sc_jad.nd (e_un va2 u10))
   (u03 (u20 3 sc_jad.nd (u69 u04))
   (u03 (vp3 (us3 (ecT T.f_jak T.g_read_plan G_jak hr (u00 (ev 0) u04))) (h_as (K:=K) T.e_LitterError.C 4 T.e_BadText.m T.e_BadText.xc (by simp [VM]) sc_jad.nd (fun _=>(u07 (u20 2 sc_jad.nd (vx0 (K:=K) T.e_LitterError.C (ev 4))))) vw5))
   (u03 (vp3 (us3 (ecT T.f_jak T.g_read_plan G_jak hr (u00 (ev 0) u04))) (h_as (K:=K) T.e_LitterError.C 4 T.e_LitterError.m T.e_LitterError.xc (by simp [VM]) sc_jad.nd (fun _=>(u03 (u20 3 sc_jad.nd (u69 (u00 (u11 (va3 (K:=K) T.e_LitterError.C) rfl T.b_isinstance (by decide) (u00 (ev 4) (u00 (v94 (T := "ValueError") T.b_ValueError (by decide)) u04))) (u00 (u11 (va3 (K:=K) T.e_LitterError.C) rfl T.b_isinstance (by decide) (u00 (ev 4) (u00 (uf7 T.e_BadText.m) u04))) u04))))
   (u07 (ur4 (ud0 (ev 3) (u00 (u11 (va3 (K:=K) T.e_LitterError.C) rfl T.b_isinstance (by decide) (u00 (ev 4) (u00 (ux3 (u00 (uf7 T.e_BadCode.m) (u00 (uf7 T.e_BadCuts.m) (u00 (uf7 T.e_BadPlan.m) (u00 (uf7 T.e_NoBox.m) (u00 (uf7 T.e_NoRow.m) (u00 (uf7 T.e_TooWide.m) (u00 (uf7 T.e_TwiceNamed.m) u04)))))))) u04))) u04)))))) vw5))
   (u07 (u24 (vj7 (uo2 (x_eq hr) (ev 2) (ev 1) (nomark _)) (vj7 (w09 (u11 uz8 rfl T.b_isinstance (by decide) (u00 (ev 2) (u00 (v94 (T := "bool") T.b_bool (by decide)) u04)))) (vx2 (uo2 (x_eq hr) (ev 3) (u69 (u00 e_bl (u00 e_bl (u00 e_bl u04)))) (nomark _)))))))))))) (fun ds G R h=>?_)
 ·obtain ⟨t,ps,w,l,rfl,_⟩:=h;rfl
 ·obtain ⟨t,ps,w,l,rfl,hl,hg,hw,e,post⟩:=h
  simp! [id];dsimp! [id];refine ⟨by decide,fun p hp=>?_⟩;have g0:Grow G (gup G p (.lst [])):=Grow.refl.new hp;have kp0:gup G p (.lst []) p=some (.lst []):=u02;obtain ⟨G0,hG0⟩:∃ G0,G0=gup G p (.lst []):=⟨_,rfl⟩;rw [<- hG0] at g0 kp0 ⊢;clear hG0;dsimp! [id];refine ud8 (post:=fun _ _=>False) (fun R h=>⟨t,rfl,hl,(fun ps' hg' e'=>(ue1 hg' e' hw ps e).elim),fun ps' w' l' hg' hw' e' G1 g1=>?_⟩) fun d G' z=>z.elim
  rw [<- up2 hg hg' hw hw' (e.symm.trans e')];refine ⟨T.e_BadText.xc,?_⟩;simp! [id];intro a2 h2;have kp1:=g1.kp _ _ kp0;have g12:Grow G (gup G1 a2 (DO.exc T.e_BadText.C [(Str.ofString "at",D.int (ps.length:Int))])):=(g0.trans g1).new h2;simp! [u02,List.lookup_cons,beq_self_eq_true];have lx:xcIn K T.e_BadText.C (Value.ref T.e_LitterError.C::VM)=true:=T.e_BadText.xc;refine ⟨lx,T.xa_BadText,?_⟩;obtain ⟨G2,hG2⟩:∃ G2,G2=gup G1 a2 (DO.exc T.e_BadText.C [(Str.ofString "at",D.int (ps.length:Int))]):=⟨_,rfl⟩;have kp2:G2 p=some (.lst []):=by rw [hG2,u06 (gne kp1 h2)];exact kp1
  rw [<- hG2] at g12 ⊢;clear hG2;dsimp! [id];refine ud8 (post:=fun _ _=>False) (fun R h=>⟨t,rfl,hl,(fun ps' hg' e'=>(ue1 hg' e' hw ps e).elim),fun ps' w' l' hg' hw' e' G3 g3=>?_⟩) fun d G' z=>z.elim
  refine ⟨T.e_BadText.xc,?_⟩;simp! [id];intro a4 h4;have kp3:=g3.kp _ _ kp2;obtain ⟨G4,hG4⟩:∃ G4,G4=gup G3 a4 (DO.exc T.e_BadText.C [(Str.ofString "at",D.int (ps'.length:Int))]):=⟨_,rfl⟩;have g14:Grow G G4:=by rw [hG4];exact (g12.trans g3).new h4
  have k4:G4 a4=some (DO.exc T.e_BadText.C [(Str.ofString "at",D.int (ps'.length:Int))]):=by rw [hG4];exact u02
  rw [<- hG4];clear hG4;dsimp! [k4];refine ⟨lx,T.e_BadText.x,lx,T.e_BadText.x,⟨_,lx⟩,by decide,fun p5 hp5=>⟨by decide,?_⟩⟩;have k45:gup G4 p5 (.lst [D.bl true,D.bl true]) a4=some (DO.exc T.e_BadText.C [(Str.ofString "at",D.int (ps'.length:Int))]):=by rw [u06 (gne k4 hp5)];exact k4
  have g15:Grow G (gup G4 p5 (.lst [D.bl true,D.bl true])):=g14.new hp5;have fp5:=g14.none hp5;obtain ⟨G5,hG5⟩:∃ G5,G5=gup G4 p5 (.lst [D.bl true,D.bl true]):=⟨_,rfl⟩;rw [<- hG5] at k45 g15 ⊢;clear hG5;simp! [k45];refine ⟨lx,T.e_BadText.x,fun c hc=>?_,by decide,.inr (.inr (.inl trivial)),?_⟩
  ·simp only [List.mem_cons,List.mem_nil_iff,or_false] at hc
   rcases hc with rfl | rfl | rfl | rfl | rfl | rfl | rfl
   ·exact ⟨_,T.e_BadCode.xc⟩
   ·exact ⟨_,T.e_BadCuts.xc⟩
   ·exact ⟨_,T.e_BadPlan.xc⟩
   ·exact ⟨_,T.e_NoBox.xc⟩
   ·exact ⟨_,T.e_NoRow.xc⟩
   ·exact ⟨_,T.e_TooWide.xc⟩
   ·exact ⟨_,T.e_TwiceNamed.xc⟩
  dsimp only;rw [if_pos (show (!subK "int" "bool")=true from rfl)];refine ⟨by decide,fun p6 hp6=>?_⟩;have eX:([T.e_BadCode.C,T.e_BadCuts.C,T.e_BadPlan.C,T.e_NoBox.C,T.e_NoRow.C,T.e_TooWide.C,T.e_TwiceNamed.C].any (isX T.e_BadText.C T.e_LitterError.C))=false:=by
   simp only [List.any_cons,List.any_nil,u64 T.ne_BadText_BadCode T.e_BadCode.ne,u64 T.ne_BadText_BadCuts T.e_BadCuts.ne,u64 T.ne_BadText_BadPlan T.e_BadPlan.ne,u64 T.ne_BadText_NoBox T.e_NoBox.ne,u64 T.ne_BadText_NoRow T.e_NoRow.ne,u64 T.ne_BadText_TooWide T.e_TooWide.ne,u64 T.ne_BadText_TwiceNamed T.e_TwiceNamed.ne];rfl
  rw [eX] at hp6 ⊢;refine vk6 (by rw [u06 (gne u02 hp6),u02];rfl) (by rw [u02];rfl) ?_;exact post _ ((g15.own fp5).new hp6)
theorem vt4 {n:Nat} (G_jal:Ok P w mg base n T.f_jal (v61 T)) (G_jak:OkX P w mg base n T.f_jak (uo5 T)) (G_jab:Ok P w mg base n T.f_jab (vm4 T)) (G_jad:Ok P w mg base n T.f_jad (vm2 T)):Ok P w mg base (n+1) T.f_jae (v62 T):=by
 refine u46 T.f_jae sc_jae (fun ds G R h=>?_) (fun cdv A outer s H E hr =>
   (u03 (u20 1 sc_jae.nd (ec T.f_jab T.g_law_first_bad G_jab hr (u00 (ev 0) u04)))
   (u03 (s_if (u31 (x_ge) (ev 1) u10 (nomark _)) (u07 (u24 (ec T.f_jad T.g_law_refused G_jad hr (u00 (ev 0) (u00 (ev 1) u04))))) u25)
   (u07 (u24 (uo2 (x_eq hr) (ec T.f_jal T.g_show_plan G_jal hr (u00 (ecN T.f_jak T.g_read_plan G_jak hr (u00 (ev 0) u04)) u04)) (ev 0) (nomark _))))))) (fun ds G R h=>?_)
 ·obtain ⟨t,rfl,_⟩:=h;rfl
 ·obtain ⟨t,rfl,hl,post⟩:=h
  have hn:=v67 t;simp! [id]
  rcases uj7 (wsO t) with ⟨ps,hg,e⟩ | ⟨ps,w,l,hg,hw,e⟩
  ·refine u23 (post:=fun d G'=>d=.int (-1) /\ Grow G G') (fun R h=>⟨t,rfl,hl,(fun _ _ _ G' z=>h _ _ ⟨rfl,z⟩),fun ps' w l _ hw e'=>(ue1 hg e hw ps' e').elim⟩) ?_
   rintro d G1 ⟨rfl,g1⟩;have hpl:ps.length<=1000:=by have:=congrArg List.length e;rw [List.length_map] at this;omega
   simp! [id];dsimp! [id];refine uj1 T hl hg e fun q G2 f2 k2 g2=>?_
   refine u23 (post:=fun d G'=>d=.str (plS ps) /\ Grow G2 G') (fun R h=>⟨q,ps,rfl,k2,hg,hpl,fun G' z=>h _ _ ⟨rfl,z⟩⟩) ?_;rintro d G3 ⟨rfl,g3⟩;have d1:(plS ps=t)=True:=eq_true (up3 e);simp! [d1];exact post _ ((g1.trans g2).trans g3)
  ·refine u23 (post:=fun d G'=>d=.int (ps.length:Int) /\ Grow G G') (fun R h=>⟨t,rfl,hl,(fun ps' hg' e'=>(ue1 hg' e' hw ps e).elim),fun ps' w' l' hg' hw' e' G' z=>h _ _ ⟨by rw [up2 hg hg' hw hw' (e.symm.trans e')],z⟩⟩) ?_
   rintro d G1 ⟨rfl,g1⟩;have d1:((ps.length:Int) ≥ 0)=True:=eq_true (by omega);simp! [d1];dsimp! [d1];refine u23 (post:=fun d G'=>d=.bl true /\ Grow G1 G') (fun R h=>⟨t,ps,w,l,rfl,hl,hg,hw,e,fun G' z=>h _ _ ⟨rfl,z⟩⟩) ?_;rintro d G2 ⟨rfl,g2⟩;exact post _ (g1.trans g2)
theorem vs6 {n:Nat} (G_jal:Ok P w mg base n T.f_jal (v61 T)) (G_jak:OkX P w mg base n T.f_jak (uo5 T)) (G_jaa:Ok P w mg base n T.f_jaa (uo6 T)) (G_jag:Ok P w mg base n T.f_jag (vm0 T)) (G_jaf:Ok P w mg base n T.f_jaf (vm1 T)) (G_jae:Ok P w mg base n T.f_jae (v62 T)):Ok P w mg base (n+1) T.f_law (vl6 T):=by
 refine u46 T.f_law sc_law (fun ds G R h=>?_) (fun cdv A outer s H E hr =>
   (u03 (u20 1 sc_law.nd (u69 (u00 (ev 0) (u00 u10 (u00 u10 u04)))))
   (u03 (u20 2 sc_law.nd (u16 u28 u10 (ec T.f_jaa T.g_law_draw G_jaa hr (u00 (ev 1) (u00 u10 u04)))))
   (u03 (u20 3 sc_law.nd (ec T.f_jaa T.g_law_draw G_jaa hr (u00 (ev 1) (u00 u10 u04))))
   (u03 (u20 4 sc_law.nd (ec T.f_jag T.g_law_words G_jag hr (u00 (ev 1) u04)))
   (u03 (u20 5 sc_law.nd (u61 uz5 rfl T.b_list (by decide) (u00 (ev 4) u04)))
   (u03 (v09 (uw1 rfl T.b_range (u00 (ev 2) u04)) (u37 6 sc_law.nd) (u03 (u20 7 sc_law.nd (ec T.f_jaa T.g_law_draw G_jaa hr (u00 (ev 1) (u00 (u11 u72 rfl T.b_len (by decide) (u00 (ev 4) u04)) u04))))
   (u07 (v10 (ec T.f_jaf T.g_law_spoilt G_jaf hr (u00 (ev 1) (u00 (e_ix x_ix (ev 4) (ev 7)) u04))) (vi1 (ev 5) (ev 7) va0)))))
   (u03 (u20 8 sc_law.nd (ux4 u08 (u00 (ev 4) u04)))
   (u03 (s_if (t_w (w_or (un2 (uq1 (ec T.f_jae T.g_law_right G_jae hr (u00 (ux4 u08 (u00 (ev 5) u04)) u04)))) (v02 (un2 (uq1 (ec T.f_jae T.g_law_right G_jae hr (u00 (ev 8) u04))))))) (u07 (u24 e_bl)) u25)
   (u03 (u20 9 sc_law.nd (u69 (vy2 (ud9 (vj4 (u16 u28 (ev 8) u08)) (ud9 (vj4 (u16 u28 u08 (ev 8))) (ud9 (vj4 (u16 u28 (ev 8) u08)) (ud9 (vx1 (by decide) (ev 8)) (w20 (u00 u08 (u00 (ev 8) u04))))))))))
   (u03 (s_if (un2 (uq1 (ec T.f_jae T.g_law_right G_jae hr (u00 (e_ix x_ix (ev 9) (u11 vm8 rfl T.b_min (by decide) (u00 (ev 3) (u00 u10 u04)))) u04)))) (u07 (u24 e_bl)) u25)
   (u07 (u24 (vj7 (uo2 (x_eq hr) (ec T.f_jal T.g_show_plan G_jal hr (u00 (ecN T.f_jak T.g_read_plan G_jak hr (u00 (ev 8) u04)) u04)) (ev 8) (nomark _)) (vx2 (uo2 (x_eq hr) (u11 u72 rfl T.b_len (by decide) (u00 (ecN T.f_jak T.g_read_plan G_jak hr (u00 (ev 8) u04)) u04)) (u11 u72 rfl T.b_len (by decide) (u00 (ev 4) u04)) (nomark _))))))))))))))))) (fun ds G R h=>?_)
 ·obtain ⟨a,ns,rfl,_⟩:=h;rfl
 ·obtain ⟨a,ns,rfl,ha,hns,post⟩:=h
  simp! [id];refine ⟨by decide,fun st hst=>?_⟩;have hast:a ≠ st:=gne ha hst;have S0:StAt (gup G st (.lst [.ref a,.int 0,.int 0])) st:=⟨a,ns,0,0,u02,by rw [u06 hast];exact ha,by omega,by omega,hast,hns⟩;dsimp! [id];refine u22 S0 (by decide) (by decide) fun x1 G1 a1 b1 b2=>?_
  obtain ⟨x1,rfl⟩:=ua2 b1;simp! [id];dsimp! [id];refine u22 a1.at_ (by decide) (by decide) fun x2 G2 a2 c1 c2=>?_
  obtain ⟨x2,rfl⟩:=ua2 c1;simp! [id];dsimp! [id];refine u23 (post:=fun d G'=>∃ (q:Addr) (ps:List Pm),d=.ref q /\ StAt G' st /\ q ≠ st /\ G' q=some (.lst ((ps.map wdS).map .str)) /\ GW ps /\ 1<=ps.length /\ ps.length<=20) (fun R h=>⟨st,rfl,a2.at_,fun q ps G' y1 y2 y3 y4 y5 y6=>h _ _ ⟨q,ps,rfl,y1.at_,y2,y3,y4,y5,y6⟩⟩) ?_;rintro d G3 ⟨q,ps,rfl,S3,nq,k3,hg,hl1,hl2⟩;simp! [id];dsimp! [k3];intro p4 hp4;have n4:=S3.ne hp4;have S4:=S3.new (o:=.lst ((ps.map wdS).map .str)) hp4;have k4:gup G3 p4 (.lst ((ps.map wdS).map .str)) q=some (.lst ((ps.map wdS).map .str)):=by rw [u06 (gne k3 hp4)];exact k3
  have kp4:gup G3 p4 (.lst ((ps.map wdS).map .str)) p4=some (.lst ((ps.map wdS).map .str)):=u02;have n4q:q ≠ p4:=gne k3 hp4;obtain ⟨G4,hG4⟩:∃ G4,G4=gup G3 p4 (.lst ((ps.map wdS).map .str)):=⟨_,rfl⟩;rw [<- hG4] at S4 k4 kp4 ⊢;clear hG4;dsimp! [id];refine ⟨⟨by omega,by omega⟩,?_⟩;refine u83 (fun r σ G'=>∃ (i c:Nat) (ws:List Str) (v6 v7:Option D),r=rngD (i:Int) c /\ StAt G' st /\ G' q=some (.lst ((ps.map wdS).map .str)) /\ G' p4=some (.lst (ws.map .str)) /\ ws.length=ps.length /\ (∀ x ∈ ws,x.length<=40) /\ σ=[some (.ref a),some (.ref st),some (.int (1+(x1:Int))),some (.int (x2:Int)),some (.ref q),some (.ref p4),v6,v7,none,none]) ⟨0,_,ps.map wdS,none,none,rfl,S4,k4,kp4,List.length_map ..,(fun x hx=>Nat.le_trans (ue7 hg x hx) (by decide)),rfl⟩ ?_ ?_
  ·rintro σ G5 ⟨i,c,ws,v6,v7,_,S5,k5,kp5,hwl,hw40,rfl⟩
   refine ⟨trivial,?_⟩;dsimp! [id];obtain ⟨f1,f2⟩:=uu9 (ue7 hg) (by rw [List.length_map];omega);refine ⟨_,q,ps.map wdS,rfl,rfl,by rw [k5];rfl,f1,f2,?_⟩;have ep:jn (Str.ofString " ") (ps.map wdS)=plS ps:=rfl;rw [ep];obtain ⟨f3,f4⟩:=v44 hw40 (by omega);have hj:=ub2 hw40 (by omega);have hpl:(plS ps).length<=820:=ub2 (fun x hx=>Nat.le_trans (ue7 hg x hx) (by decide)) (by rw [List.length_map];exact hl2);dsimp! [id];refine ⟨_,p4,ws,rfl,rfl,by rw [kp5];rfl,f3,f4,?_⟩;refine uj0 T (Nat.le_trans hj (by decide)) fun G6 g6=>?_
   simp! [id];refine uj0 T (Nat.le_trans hpl (by decide)) fun G7 g7=>?_
   have k7:=(g6.trans g7).kp _ _ k5;have hps:ps ≠ []:=fun z=>by rw [z] at hl1;exact absurd hl1 (by decide)
   have ews:=vj0 hg hps;generalize plS ps=tx at hpl ews ⊢;have z1:tx.length+1<=sizeLine:=Nat.le_trans (m:=900) (by omega) (by decide);have z2:1+tx.length<=sizeLine:=Nat.le_trans (m:=900) (by omega) (by decide);simp! [id];dsimp! [id];refine ⟨z1,z2,z1,?_⟩;have l1:∀ a b:Str,(a++b).length=a.length+b.length:=fun a b=>by rw [str_len,u94,List.length_append,<- str_len,<- str_len]
   have o1:(Str.ofString " ").length=1:=by decide
   have o2:(Str.ofString "\n").length=1:=by decide
   have o3:(Str.ofString "  ").length=2:=by decide
   simp! [vx7];refine ⟨tx, rfl, by rw [o3];omega, fun rx hrx=>⟨by decide, fun p8 hp8=>?_⟩⟩;rw [o3] at hrx;obtain ⟨os, hos⟩:∃ os:List Str, os=[Str.ofString " ", tx++Str.ofString " ", Str.ofString " " ++ tx, tx++Str.ofString "\n", rx, Str.ofString "", tx] := ⟨_, rfl⟩;have eo : [D.str " ", D.str (tx ++ Str.ofString " "), D.str (Str.ofString " " ++ tx), D.str (tx ++ Str.ofString "\n"), D.str rx, D.str "",D.str tx]=os.map D.str:=by rw [hos];rfl
   have on:os.length=7:=by rw [hos];rfl
   have ol:∀ x ∈ os,x.length<=900:=by
    rw [hos];intro x hx;simp only [List.mem_cons,List.mem_nil_iff,or_false] at hx
    rcases hx with rfl | rfl | rfl | rfl | rfl | rfl | rfl
    all_goals (first | decide | (simp only [l1,o1,o2];omega) | omega)
   clear hos;rw [eo];have g8:Grow G7 (gup G7 p8 (.lst (os.map D.str))):=Grow.refl.new hp8;have k8:gup G7 p8 (.lst (os.map D.str)) p8=some (.lst (os.map D.str)):=u02;obtain ⟨G8,hG8⟩:∃ G8,G8=gup G7 p8 (.lst (os.map D.str)):=⟨_,rfl⟩;rw [<- hG8] at g8 k8 ⊢;clear hG8;obtain ⟨y,hy,ey⟩:=at_getD (xs:=os.map D.str) (v:=if (6:Int) < (x2:Int) then 6 else (x2:Int)) (by split <;> omega) (by rw [List.length_map,on];split <;> omega);obtain ⟨y,hy0,rfl⟩:=List.mem_map.mp hy;dsimp! [k8,ey];refine uj0 T (ol y hy0) fun G9 g9=>?_
   simp! [id];dsimp! [id];have hle:tx.length<=900:=by omega
   refine uj1 T hle hg ews fun q2 G10 f10 k10 g10=>?_
   refine u23 (post:=fun d G'=>d=.str (plS ps) /\ Grow G10 G') (fun R h=>⟨q2,ps,rfl,k10,hg,by omega,fun G' z=>h _ _ ⟨rfl,z⟩⟩) ?_;rintro d G11 ⟨rfl,g11⟩;have d1:(plS ps=tx)=True:=eq_true (up3 ews);simp! [d1];refine uj1 T hle hg ews fun q3 G12 f12 k12 g12=>?_
   have k13:=((((g8.trans g9).trans g10).trans g11).trans g12).kp _ _ k7;simp! [k12,k13,List.length_map];exact post _
  ·rintro z r σ G5 ⟨i,c,ws,v6,v7,e2,S5,k5,kp5,hwl,hw40,rfl⟩ ih
   cases c with
   | zero=>cases e2
   | succ c =>
    rw [u52] at e2;cases e2;refine ⟨trivial,?_⟩;have ei:(i:Int)+1=((i+1:Nat):Int):=by omega
    rw [ei] at ih;simp! [k5,List.length_map];refine u22 S5 (by omega) (by omega) fun x3 G6 a6 d1 d2=>?_
    obtain ⟨x3,rfl⟩:=ua2 d1;have k6:=a6.kp _ _ nq k5;obtain ⟨y,hy,ey⟩:=at_getD (xs:=(ps.map wdS).map D.str) (v:=(x3:Int)) (by omega) (by rw [List.length_map,List.length_map];exact d2);obtain ⟨w0,hw0,rfl⟩:=List.mem_map.mp hy;simp! [id];dsimp! [k6,ey];refine u23 (post:=fun d G'=>∃ x:Str,d=.str x /\ Adv st G6 G' /\ x.length<=40) (fun R h=>⟨st,w0,rfl,a6.at_,ue7 hg w0 hw0,fun x G' y1 y2=>h _ _ ⟨x,rfl,y1,y2⟩⟩) ?_;rintro d G7 ⟨x,rfl,a7,hx⟩;have k7:=a7.kp _ _ n4 (a6.kp _ _ n4 kp5);have ix:ixN (ws.map D.str).length (x3:Int)=some x3:=vv5 (by rw [List.length_map];omega);simp! [k7,ix];rw [ei];refine ih _ _ ⟨i+1,c,ws.set x3 x,_,_,rfl,a7.at_.set k7 n4,by rw [u06 n4q];exact a7.kp _ _ nq k6,by rw [u02,List.map_set],by rw [List.length_set];exact hwl,fun y hy=>?_,rfl⟩
    rcases List.mem_or_eq_of_mem_set hy with z | z
    ·exact hw40 y z
    ·rw [z];exact hx
end
end Law
namespace Law
open PySem PySem.Spec PyProof.Rows L2 L3
def noL:PySem.W.Frag->Bool
 | []=>true
 | p::r=>(match p.2.data with | .seq _ _=>(match p.2.cls with | .type s=>!(s == "list") | _=>true) | _=>true) && noL r
theorem v86:∀ {K:PySem.W.Frag} {a:Addr} {o:Obj} {its:Array Value} {n:Nat},noL K=true->K.lookup a=some o->o.cls=.type "list" -> o.data=.seq its n->False
 | [],a,o,its,n,_,e,_,_=>by cases e
 | p::r,a,o,its,n,h,e,h1,h2=>by
  unfold noL at h;rw [Bool.and_eq_true] at h;rw [List.lookup_cons] at e;split at e
  ·cases e
   have q:=h.1;rw [h2] at q;simp only [h1] at q;exact absurd q (by decide)
  ·exact v86 h.2 e h1 h2
theorem arZ {P:List Value->Prop} (h:P []):∀ us:List Value,us.length=0->P us:=fun us e=>by rw [List.eq_nil_of_length_eq_zero e];exact h
theorem arS {n:Nat} {P:List Value->Prop} (h:∀ (a:Value) (us:List Value),us.length=n->P (a::us)):∀ us:List Value,us.length=n+1->P us:=fun us e=>by
 cases us with
 | nil=>cases e
 | cons a us=>exact h a us (Nat.succ.inj e)
theorem ar1 {P:List Value->Prop} (h:∀ a0,P [a0]):∀ us:List Value,us.length=1->P us:=arS fun a0=>arZ (h a0)
theorem ar2 {P:List Value->Prop} (h:∀ a0 a1,P [a0,a1]):∀ us:List Value,us.length=2->P us:=arS fun a0=>arS fun a1=>arZ (h a0 a1)
theorem ar3 {P:List Value->Prop} (h:∀ a0 a1 a2,P [a0,a1,a2]):∀ us:List Value,us.length=3->P us:=arS fun a0=>arS fun a1=>arS fun a2=>arZ (h a0 a1 a2)
theorem ar4 {P:List Value->Prop} (h:∀ a0 a1 a2 a3,P [a0,a1,a2,a3]):∀ us:List Value,us.length=4->P us:=arS fun a0=>arS fun a1=>arS fun a2=>arS fun a3=>arZ (h a0 a1 a2 a3)
theorem ar5 {P:List Value->Prop} (h:∀ a0 a1 a2 a3 a4,P [a0,a1,a2,a3,a4]):∀ us:List Value,us.length=5->P us:=arS fun a0=>arS fun a1=>arS fun a2=>arS fun a3=>arS fun a4=>arZ (h a0 a1 a2 a3 a4)
def uw8 {K:PySem.W.Frag} {x qual:Str} {st:Stmt} {ps:List Str} {f:Addr} {oc:Value} {od an:Option Addr} {osl:Array (Option Value)} {kV doc pm cdv ct:Value} (l:K.lookup f=some ⟨oc,od,.func (PySem.W.fnOf x qual (u19 st) (u13 st) (u01 st) .none kV doc pm an cdv ct),osl⟩)
  (c:PySem.W.codeIn K cdv qual=true) (k:PySem.W.keepIn K (.ref f)=true) (hb:∀ us:List Value,us.length=ps.length->bindArgs (PySem.W.fnOf x qual (u19 st) (u13 st) (u01 st) .none kV doc pm an cdv ct) ⟨us,[]⟩=pure (ps.zip us)):FnAt K x qual st ps :=
 ⟨f,_,⟨oc,od,.none,kV,doc,pm,an,cdv,ct,osl,rfl,l,c⟩,k,.all hb⟩
def DF (K:PySem.W.Frag) (x:Str) (st:Stmt):Prop:=∃ (p:Addr) (oc:Value) (od an:Option Addr) (sl:Array (Option Value)) (kV dc pm cd ct:Value),PySem.W.nsIn K mainGlobals x=some (some (.ref p)) /\ K.lookup p=some ⟨oc,od,.func (PySem.W.fnOf x x (u19 st) (u13 st) (u01 st) .none kV dc pm an cd ct),sl⟩ /\ PySem.W.codeIn K cd x=true /\ PySem.W.keepIn K (.ref p)=true
def DM (K:PySem.W.Frag) (C:Addr) (x q:Str) (st:Stmt):Prop:=∃ (p:Addr) (oc:Value) (od an:Option Addr) (sl:Array (Option Value)) (kV dc pm cd ct:Value),PySem.W.findIn K (.ref C) x=some (some (.ref p)) /\ PySem.W.isFn K (.ref p)=true /\ K.lookup p=some ⟨oc,od,.func (PySem.W.fnOf x q (u19 st) (u13 st) (u01 st) .none kV dc pm an cd ct),sl⟩ /\ PySem.W.codeIn K cd q=true /\ PySem.W.keepIn K (.ref p)=true
section
variable {K:PySem.W.Frag} {h:Heap} {mg:Str->Option Value} {C:Addr} {x q:Str} {st:Stmt} {ps:List Str}
theorem df_m {p:Addr} {oc:Value} {od an:Option Addr} {sl:Array (Option Value)} {kV dc pm cd ct:Value} (a:PySem.W.nsIn K mainGlobals x=some (some (.ref p))) (l:K.lookup p=some ⟨oc,od,.func (PySem.W.fnOf x x (u19 st) (u13 st) (u01 st) .none kV dc pm an cd ct),sl⟩) (c:PySem.W.codeIn K cd x=true) (k:PySem.W.keepIn K (.ref p)=true):DF K x st:=⟨p,oc,od,an,sl,kV,dc,pm,cd,ct,a,l,c,k⟩
theorem dm_m {p:Addr} {oc:Value} {od an:Option Addr} {sl:Array (Option Value)} {kV dc pm cd ct:Value} (a:PySem.W.findIn K (.ref C) x=some (some (.ref p))) (i:PySem.W.isFn K (.ref p)=true) (l:K.lookup p=some ⟨oc,od,.func (PySem.W.fnOf x q (u19 st) (u13 st) (u01 st) .none kV dc pm an cd ct),sl⟩) (c:PySem.W.codeIn K cd q=true) (k:PySem.W.keepIn K (.ref p)=true):DM K C x q st:=⟨p,oc,od,an,sl,kV,dc,pm,cd,ct,a,i,l,c,k⟩
theorem df_f {N:List Str} (_:FnScope N ps (u01 st)) (X:K.In h) (G:h.Ns mainGlobals mg) (hb:∀ kV dc pm an cd ct,∀ us:List Value,us.length=ps.length->bindArgs (PySem.W.fnOf x x (u19 st) (u13 st) (u01 st) .none kV dc pm an cd ct) ⟨us,[]⟩=pure (ps.zip us)) (d:DF K x st) :
  ∃ f:FnAt K x x st ps,mg x=some (.ref f.a) /\ ∀ (s:Shared) (us:List Value),us.length=ps.length->BindsTo s f.fd ⟨us,[]⟩ (ps.zip us):=by
 obtain ⟨p,oc,od,an,sl,kV,dc,pm,cd,ct,a,l,c,k⟩:=d;exact ⟨uw8 l c k (hb kV dc pm an cd ct),PySem.W.mg_of X G a,fun s us e=>.of_eq (hb kV dc pm an cd ct us e)⟩
theorem dm_f {N:List Str} (_:FnScope N ps (u01 st)) (hb:∀ kV dc pm an cd ct,∀ us:List Value,us.length=ps.length->bindArgs (PySem.W.fnOf x q (u19 st) (u13 st) (u01 st) .none kV dc pm an cd ct) ⟨us,[]⟩=pure (ps.zip us)) (d:DM K C x q st) :
  ∃ f:FnAt K x q st ps,PySem.W.findIn K (.ref C) x=some (some (.ref f.a)) /\ PySem.W.isFn K (.ref f.a)=true:=by
 obtain ⟨p,oc,od,an,sl,kV,dc,pm,cd,ct,a,i,l,c,k⟩:=d;exact ⟨uw8 l c k (hb kV dc pm an cd ct),a,i⟩
end
def v78:Sp3:=fun ds G R=>∃ (a:Addr) (ns:List Int),ds=[.ref a] /\ G a=some (.fro (ns.map .int)) /\ ns.length<=63 /\ ∀ G',R (.bl true) G'
theorem uk2 {K:PySem.W.Frag} {H:Hp}:∀ ns:List Int,RelDs K H (ns.map D.int) (ns.map V.int)
 | []=>.nil
 | _::ns=>.cons RelD.intI (uk2 ns)
theorem vu7 {K:PySem.W.Frag} {H:Hp} {a:Addr} {ns:List Int} (hL:noL K=true) (hl:ns.length<=63) (hO:Only H) (hS:SqL K H a (ns.map V.int)):u99 K v78 [.ref a] H (fun v _=>v=.bl true) fun _ _ _=>False:=by
 have ha:∃ o,H a=some (.frz o (.lst (ns.map V.int))):=by
  rcases hS with (h | h) | ⟨o,its,n,h1,h2,_,h3,_⟩
  ·rcases hO a with z | ⟨o,xs,z⟩
   ·rw [h] at z;cases z
   ·rw [h] at z;cases z
  ·exact h
  ·exact (v86 hL h1 h2 h3).elim
 obtain ⟨o,ha⟩:=ha;refine ⟨[.ref a],gup (fun _=>none) a (.fro (ns.map .int)),fun d _=>d=.bl true,.cons ?_ .nil,fun b u e=>?_,⟨a,ns,rfl,u02,hl,fun _=>rfl⟩,fun d G' v H' r _ _ e=>?_⟩
 ·rw [RelD]
 ·by_cases hb:b=a
  ·subst hb
   rw [u02] at e;cases e;exact ⟨o,_,ha,uk2 ns⟩
  ·rw [u06 hb] at e;cases e
 ·subst e
  rw [RelD] at r;exact r
end Law
namespace Law
open PySem PySem.Spec PyProof.Rows L2 L3 Rw
set_option maxHeartbeats 4000000
theorem txt_mk {K:PySem.W.Frag} {h:Heap} {mg:Str->Option Value} (X:K.In h) (G:h.Ns mainGlobals mg) {C_LitterError:Addr} {C_BadText:Addr} {C_TwiceNamed:Addr} {C_TooWide:Addr} {C_NoRow:Addr} {C_NoBox:Addr} {C_BadPlan:Addr} {C_BadCuts:Addr} {C_BadCode:Addr} 
  {t_FIGURES:Tok}
  {t_GREATEST_MARK:Tok}
  (aC_LitterError:PySem.W.nsIn K mainGlobals "LitterError" = some (some (.ref C_LitterError)))
  (aC_BadText:PySem.W.nsIn K mainGlobals "BadText" = some (some (.ref C_BadText)))
  (aC_TwiceNamed:PySem.W.nsIn K mainGlobals "TwiceNamed" = some (some (.ref C_TwiceNamed)))
  (aC_TooWide:PySem.W.nsIn K mainGlobals "TooWide" = some (some (.ref C_TooWide)))
  (aC_NoRow:PySem.W.nsIn K mainGlobals "NoRow" = some (some (.ref C_NoRow)))
  (aC_NoBox:PySem.W.nsIn K mainGlobals "NoBox" = some (some (.ref C_NoBox)))
  (aC_BadPlan:PySem.W.nsIn K mainGlobals "BadPlan" = some (some (.ref C_BadPlan)))
  (aC_BadCuts:PySem.W.nsIn K mainGlobals "BadCuts" = some (some (.ref C_BadCuts)))
  (aC_BadCode:PySem.W.nsIn K mainGlobals "BadCode" = some (some (.ref C_BadCode)))
  (pm_0:DM K C_BadText "__init__" "BadText.__init__" u40)
  (pm_10:DF K "number_in" v07)
  (pm_13:DF K "show_plan" v06)
  (pm_9:DF K "move_word" vc8)
  (pm_12:DF K "read_plan" vc6)
  (pm_11:DF K "read_move" vc7)
  (pm_2:DF K "_law_draw" vd3)
  (pm_8:DF K "_law_words" vc9)
  (pm_7:DF K "_law_spoilt" ur3)
  (pm_4:DF K "_law_good" v08)
  (pm_3:DF K "_law_first_bad" vd2)
  (pm_5:DF K "_law_refused" vd1)
  (pm_6:DF K "_law_right" vd0)
  (pm_1:DF K "law" vc5)
  (xc_LitterError:xcIn K C_LitterError VM=true)
  (xs_LitterError:PySem.W.specialIn K (.ref C_LitterError) "__getattribute__" = some (some (.builtin "type.__getattribute__")))
  (xr_LitterError:PySem.W.readsIn K C_LitterError (.type "type")=true)
  (xf_LitterError:PySem.W.findCls K (.ref C_LitterError) (.type "type") "__init__" = some (.val (.builtin "ValueError.__init__")))
  (xc_BadText:xcIn K C_BadText (.ref C_LitterError::VM)=true)
  (xg_BadText:PySem.W.findIn K (.ref C_BadText) "__getattribute__" = some (some (.builtin "BaseException.__getattribute__")))
  (xt_BadText:PySem.W.findIn K (.ref C_BadText) "__getattr__" = some none)
  (xk_BadText:PySem.W.findIn K (.ref C_BadText) "__class__" = some (some (.builtin "object.__class__")))
  (zn_BadText:C_BadText ≠ C_LitterError)
  (xc_TwiceNamed:xcIn K C_TwiceNamed (.ref C_LitterError::VM)=true)
  (xg_TwiceNamed:PySem.W.findIn K (.ref C_TwiceNamed) "__getattribute__" = some (some (.builtin "BaseException.__getattribute__")))
  (xt_TwiceNamed:PySem.W.findIn K (.ref C_TwiceNamed) "__getattr__" = some none)
  (xk_TwiceNamed:PySem.W.findIn K (.ref C_TwiceNamed) "__class__" = some (some (.builtin "object.__class__")))
  (zn_TwiceNamed:C_TwiceNamed ≠ C_LitterError)
  (xc_TooWide:xcIn K C_TooWide (.ref C_LitterError::VM)=true)
  (xg_TooWide:PySem.W.findIn K (.ref C_TooWide) "__getattribute__" = some (some (.builtin "BaseException.__getattribute__")))
  (xt_TooWide:PySem.W.findIn K (.ref C_TooWide) "__getattr__" = some none)
  (xk_TooWide:PySem.W.findIn K (.ref C_TooWide) "__class__" = some (some (.builtin "object.__class__")))
  (zn_TooWide:C_TooWide ≠ C_LitterError)
  (xc_NoRow:xcIn K C_NoRow (.ref C_LitterError::VM)=true)
  (xg_NoRow:PySem.W.findIn K (.ref C_NoRow) "__getattribute__" = some (some (.builtin "BaseException.__getattribute__")))
  (xt_NoRow:PySem.W.findIn K (.ref C_NoRow) "__getattr__" = some none)
  (xk_NoRow:PySem.W.findIn K (.ref C_NoRow) "__class__" = some (some (.builtin "object.__class__")))
  (zn_NoRow:C_NoRow ≠ C_LitterError)
  (xc_NoBox:xcIn K C_NoBox (.ref C_LitterError::VM)=true)
  (xg_NoBox:PySem.W.findIn K (.ref C_NoBox) "__getattribute__" = some (some (.builtin "BaseException.__getattribute__")))
  (xt_NoBox:PySem.W.findIn K (.ref C_NoBox) "__getattr__" = some none)
  (xk_NoBox:PySem.W.findIn K (.ref C_NoBox) "__class__" = some (some (.builtin "object.__class__")))
  (zn_NoBox:C_NoBox ≠ C_LitterError)
  (xc_BadPlan:xcIn K C_BadPlan (.ref C_LitterError::VM)=true)
  (xg_BadPlan:PySem.W.findIn K (.ref C_BadPlan) "__getattribute__" = some (some (.builtin "BaseException.__getattribute__")))
  (xt_BadPlan:PySem.W.findIn K (.ref C_BadPlan) "__getattr__" = some none)
  (xk_BadPlan:PySem.W.findIn K (.ref C_BadPlan) "__class__" = some (some (.builtin "object.__class__")))
  (zn_BadPlan:C_BadPlan ≠ C_LitterError)
  (xc_BadCuts:xcIn K C_BadCuts (.ref C_LitterError::VM)=true)
  (xg_BadCuts:PySem.W.findIn K (.ref C_BadCuts) "__getattribute__" = some (some (.builtin "BaseException.__getattribute__")))
  (xt_BadCuts:PySem.W.findIn K (.ref C_BadCuts) "__getattr__" = some none)
  (xk_BadCuts:PySem.W.findIn K (.ref C_BadCuts) "__class__" = some (some (.builtin "object.__class__")))
  (zn_BadCuts:C_BadCuts ≠ C_LitterError)
  (xc_BadCode:xcIn K C_BadCode (.ref C_LitterError::VM)=true)
  (xg_BadCode:PySem.W.findIn K (.ref C_BadCode) "__getattribute__" = some (some (.builtin "BaseException.__getattribute__")))
  (xt_BadCode:PySem.W.findIn K (.ref C_BadCode) "__getattr__" = some none)
  (xk_BadCode:PySem.W.findIn K (.ref C_BadCode) "__class__" = some (some (.builtin "object.__class__")))
  (zn_BadCode:C_BadCode ≠ C_LitterError)
  (kc_BadText:PySem.W.keepIn K (.ref C_BadText)=true)
  (xa_BadText:PySem.W.findIn K (.ref C_BadText) "__setattr__" = some (some (.builtin "object.__setattr__")))
  (xn_BadText:PySem.W.findIn K (.ref C_BadText) "at" = some none)
  (zn_BadText_TwiceNamed:C_TwiceNamed ≠ C_BadText)
  (zn_BadText_TooWide:C_TooWide ≠ C_BadText)
  (zn_BadText_NoRow:C_NoRow ≠ C_BadText)
  (zn_BadText_NoBox:C_NoBox ≠ C_BadText)
  (zn_BadText_BadPlan:C_BadPlan ≠ C_BadText)
  (zn_BadText_BadCuts:C_BadCuts ≠ C_BadText)
  (zn_BadText_BadCode:C_BadCode ≠ C_BadText)
  (v_FIGURES:PySem.W.nsIn K mainGlobals "FIGURES" = some (some (.str "0123456789" t_FIGURES)))
  (v_GREATEST_MARK:PySem.W.nsIn K mainGlobals "GREATEST_MARK" = some (some (.int 9999 t_GREATEST_MARK)))
  (b_ValueError:PySem.W.nsIn K mainGlobals "ValueError" = some none)
  (b_abs:PySem.W.nsIn K mainGlobals "abs" = some none)
  (b_all:PySem.W.nsIn K mainGlobals "all" = some none)
  (b_bool:PySem.W.nsIn K mainGlobals "bool" = some none)
  (b_divmod:PySem.W.nsIn K mainGlobals "divmod" = some none)
  (b_enumerate:PySem.W.nsIn K mainGlobals "enumerate" = some none)
  (b_int:PySem.W.nsIn K mainGlobals "int" = some none)
  (b_isinstance:PySem.W.nsIn K mainGlobals "isinstance" = some none)
  (b_len:PySem.W.nsIn K mainGlobals "len" = some none)
  (b_list:PySem.W.nsIn K mainGlobals "list" = some none)
  (b_min:PySem.W.nsIn K mainGlobals "min" = some none)
  (b_range:PySem.W.nsIn K mainGlobals "range" = some none)
  (b_str:PySem.W.nsIn K mainGlobals "str" = some none) :
  ∃ T:Txt K mg,∀ (s:Shared) (v:Value),BindsTo s T.f_law.fd ⟨[v],[]⟩ [("_law_script",v)]:=by
 obtain ⟨f_BadText_init,a_0,i_0⟩:=dm_f u51 (fun _ _ _ _ _ _=>ar2 fun _ _=>rfl) pm_0;obtain ⟨f_jai,g_number_in,_⟩:=df_f sc_jai X G (fun _ _ _ _ _ _=>ar2 fun _ _=>rfl) pm_10;obtain ⟨f_jal,g_show_plan,_⟩:=df_f v79 X G (fun _ _ _ _ _ _=>ar1 fun _=>rfl) pm_13;obtain ⟨f_jah,g_move_word,_⟩:=df_f v80 X G (fun _ _ _ _ _ _=>ar1 fun _=>rfl) pm_9;obtain ⟨f_jak,g_read_plan,_⟩:=df_f sc_jak X G (fun _ _ _ _ _ _=>ar1 fun _=>rfl) pm_12;obtain ⟨f_jaj,g_read_move,_⟩:=df_f sc_jaj X G (fun _ _ _ _ _ _=>ar1 fun _=>rfl) pm_11;obtain ⟨f_jaa,g_law_draw,_⟩:=df_f sc_jaa X G (fun _ _ _ _ _ _=>ar2 fun _ _=>rfl) pm_2;obtain ⟨f_jag,g_law_words,_⟩:=df_f sc_jag X G (fun _ _ _ _ _ _=>ar1 fun _=>rfl) pm_8;obtain ⟨f_jaf,g_law_spoilt,_⟩:=df_f sc_jaf X G (fun _ _ _ _ _ _=>ar2 fun _ _=>rfl) pm_7;obtain ⟨f_jac,g_law_good,_⟩:=df_f sc_jac X G (fun _ _ _ _ _ _=>ar1 fun _=>rfl) pm_4;obtain ⟨f_jab,g_law_first_bad,_⟩:=df_f sc_jab X G (fun _ _ _ _ _ _=>ar1 fun _=>rfl) pm_3;obtain ⟨f_jad,g_law_refused,_⟩:=df_f sc_jad X G (fun _ _ _ _ _ _=>ar2 fun _ _=>rfl) pm_5;obtain ⟨f_jae,g_law_right,_⟩:=df_f sc_jae X G (fun _ _ _ _ _ _=>ar1 fun _=>rfl) pm_6;obtain ⟨f_law,g_law,b_law⟩:=df_f sc_law X G (fun _ _ _ _ _ _=>ar1 fun _=>rfl) pm_1;exact ⟨⟨f_BadText_init,f_jai,g_number_in,f_jal,g_show_plan,f_jah,g_move_word,f_jak,g_read_plan,f_jaj,g_read_move,f_jaa,g_law_draw,f_jag,g_law_words,f_jaf,g_law_spoilt,f_jac,g_law_good,f_jab,g_law_first_bad,f_jad,g_law_refused,f_jae,g_law_right,f_law,g_law,⟨C_LitterError,PySem.W.mg_of X G aC_LitterError,xc_LitterError,⟨xs_LitterError,xr_LitterError,xf_LitterError⟩⟩,⟨C_BadText,PySem.W.mg_of X G aC_BadText,xc_BadText,⟨xg_BadText,xt_BadText,xk_BadText⟩,zn_BadText⟩,⟨C_TwiceNamed,PySem.W.mg_of X G aC_TwiceNamed,xc_TwiceNamed,⟨xg_TwiceNamed,xt_TwiceNamed,xk_TwiceNamed⟩,zn_TwiceNamed⟩,⟨C_TooWide,PySem.W.mg_of X G aC_TooWide,xc_TooWide,⟨xg_TooWide,xt_TooWide,xk_TooWide⟩,zn_TooWide⟩,⟨C_NoRow,PySem.W.mg_of X G aC_NoRow,xc_NoRow,⟨xg_NoRow,xt_NoRow,xk_NoRow⟩,zn_NoRow⟩,⟨C_NoBox,PySem.W.mg_of X G aC_NoBox,xc_NoBox,⟨xg_NoBox,xt_NoBox,xk_NoBox⟩,zn_NoBox⟩,⟨C_BadPlan,PySem.W.mg_of X G aC_BadPlan,xc_BadPlan,⟨xg_BadPlan,xt_BadPlan,xk_BadPlan⟩,zn_BadPlan⟩,⟨C_BadCuts,PySem.W.mg_of X G aC_BadCuts,xc_BadCuts,⟨xg_BadCuts,xt_BadCuts,xk_BadCuts⟩,zn_BadCuts⟩,⟨C_BadCode,PySem.W.mg_of X G aC_BadCode,xc_BadCode,⟨xg_BadCode,xt_BadCode,xk_BadCode⟩,zn_BadCode⟩,⟨xc_BadText,a_0,i_0,kc_BadText⟩,⟨xa_BadText,xn_BadText,xg_BadText,xt_BadText⟩,zn_BadText_TwiceNamed,zn_BadText_TooWide,zn_BadText_NoRow,zn_BadText_NoBox,zn_BadText_BadPlan,zn_BadText_BadCuts,zn_BadText_BadCode,⟨t_FIGURES,PySem.W.mg_of X G v_FIGURES⟩,⟨t_GREATEST_MARK,PySem.W.mg_of X G v_GREATEST_MARK⟩,PySem.W.mg_none_of X G b_ValueError,PySem.W.mg_none_of X G b_abs,PySem.W.mg_none_of X G b_all,PySem.W.mg_none_of X G b_bool,PySem.W.mg_none_of X G b_divmod,PySem.W.mg_none_of X G b_enumerate,PySem.W.mg_none_of X G b_int,PySem.W.mg_none_of X G b_isinstance,PySem.W.mg_none_of X G b_len,PySem.W.mg_none_of X G b_list,PySem.W.mg_none_of X G b_min,PySem.W.mg_none_of X G b_range,PySem.W.mg_none_of X G b_str⟩,fun s v=>b_law s [v] rfl⟩
theorem vy1 {P:Program} {w:World} {K:PySem.W.Frag} {mg:Str->Option Value} {base:Heap} (T:Txt K mg):Ok P w mg base 6 T.f_law (vl6 T):=by
 have H_jah:Ok P w mg base 1 T.f_jah (vl9 T):=vt1 T (n:=0);have H_jal:Ok P w mg base 2 T.f_jal (v61 T):=vs7 T (n:=1) (FnOk.mono H_jah (by decide));have H_jai:Ok P w mg base 1 T.f_jai (vl8 T):=vt0 T (n:=0);have H_jaj:Ok P w mg base 2 T.f_jaj (vl7 T):=vs9 T (n:=1) (FnOk.mono H_jai (by decide));have H_jak:OkX P w mg base 3 T.f_jak (uo5 T):=vs8 T (n:=0) (FnOk.mono H_jaj (by decide));have H_jaa:Ok P w mg base 1 T.f_jaa (uo6 T):=vt8 T (n:=0);have H_jag:Ok P w mg base 2 T.f_jag (vm0 T):=vt2 T (n:=1) (FnOk.mono H_jaa (by decide));have H_jaf:Ok P w mg base 2 T.f_jaf (vm1 T):=vt3 T (n:=1) (FnOk.mono H_jaa (by decide));have H_jac:Ok P w mg base 1 T.f_jac (vm3 T):=vt6 T (n:=0);have H_jab:Ok P w mg base 2 T.f_jab (vm4 T):=vt7 T (n:=1) (FnOk.mono H_jac (by decide));have H_jad:Ok P w mg base 4 T.f_jad (vm2 T):=vt5 T (n:=3) (FnOk.mono H_jak (by decide));have H_jae:Ok P w mg base 5 T.f_jae (v62 T):=vt4 T (n:=4) (FnOk.mono H_jal (by decide)) (FnOk.mono H_jak (by decide)) (FnOk.mono H_jab (by decide)) (FnOk.mono H_jad (by decide));have H_law:Ok P w mg base 6 T.f_law (vl6 T):=vs6 T (n:=5) (FnOk.mono H_jal (by decide)) (FnOk.mono H_jak (by decide)) (FnOk.mono H_jaa (by decide)) (FnOk.mono H_jag (by decide)) (FnOk.mono H_jaf (by decide)) (FnOk.mono H_jae (by decide));exact H_law
theorem walk {l:PySem.W.OpenLaw} {q:Program} {loose:List Str} {XP:(Str->Option Value)->Heap->Prop} {YP:World->Heap->Prop} {d:DefRec} {K:Params->PySem.W.Frag} (hn:l.most=some 63) (hdf:d.params.defaults=[])
  (hY:∀ (w:World) (h:Heap),YP w h->(K w.params).In h) (hL:∀ w:World,noL (K w.params)=true)
  (F:∀ (w:World) (mg:Str->Option Value) (fa:Addr) (h:Heap),(K w.params).In h->h.Ns mainGlobals mg->mg d.name=some (.ref fa)->∃ T:Txt (K w.params) mg,∀ (s:Shared) (v:Value),BindsTo s T.f_law.fd ⟨[v],[]⟩ [("_law_script",v)]) (hdn:d.name = "law" := by rfl) :
  PySem.W.WalkO q loose XP YP l.row.toRowW d [] (fun f vs=>PySem.call f vs):=by
 refine L2.walk_of (n:=63) (k:=6) (x := "_law_script") (CX:=fun _=>CX0) (sp:=fun w=>u99 (K w.params) v78) hn (by decide) hdf ⟨rfl,by decide,by decide⟩ hY (fun w mg fa h hK hN hm=>?_) (fun w H a ns hl hO hS=>vu7 (hL w) hl hO hS) fun _ _ _ _ _ z=>z
 obtain ⟨T,hb⟩:=F w mg fa h hK hN hm;rw [hdn] at hm;have e:=hm.symm.trans T.g_law;cases e;exact ⟨T.f_law.fd,hb,fun base _ _=>vy1 T⟩
end Law
end
namespace PySem.W.Fast
def tw1914917734940189440:=0
def tw15007248444351403360:=0
def tw12759325208171131877:=0
def tw9502489730326655723:=0
def tw4657302341942905144:=0
def tw12360948948372447457:=0
def tw17681594404977818623:=0
def tw2608526272374184819:=0
def tw14513783947373332441:=0
def tw18045634493776019353:=0
def tw990385191022050431:=0
def tw9291968826147509770:=0
def tw2829921580461629706:=0
def tw9814779299978893903:=0
def tw17229433859879332319:=0
def tw7476237602964613823:=0
def tw7316866880368016275:=0
def tw15470192201914854510:=0
def tw13801640588100969066:=0
def tw12011333226269504169:=0
def tw12484321212073049470:=0
def tw970417486511602281:=0
def tw17361354188920682360:=0
def tw8566166634438718663:=0
def tw16450275668125122041:=0
def tw5629719428407423347:=0
def tw15018945621444711449:=0
def tw17469534998996461438:=0
def tw9216288437824970242:=0
def tw9120136166881217701:=0
def tw3821398150144265615:=0
def tw1603850295777752205:=0
def tw16384258772387946539:=0
def tw5523003225734198349:=0
def tw11466735226151338047:=0
def tw5666634178737296304:=0
def tw5913223634615982016:=0
def tw4023300067026139501:=0
def tw429595529862766942:=0
def tw10193968269843269194:=0
def tw5828377664262841488:=0
def tw16622699939560221125:=0
def tw16351601077185008221:=0
def tw7125290477584832053:=0
def tw15486727604970402862:=0
def tw11116376219455948370:=0
def tw17323499865709632115:=0
def tw16394633494864913332:=0
def tw16956424166695162893:=0
def tw18291254993485899967:=0
def tw16249144538713103993:=0
end PySem.W.Fast
open PySem PySem.W PyProof.Rows
local macro_rules | `(tactic| ac_rfl) => `(tactic| (refine' Law.df_m ?a ?b ?c ?d; (case a => k_is); (case b => k_is); (case c => k_is); (case d => k_is)))
local macro_rules | `(tactic| bv_omega) => `(tactic| (refine' Law.dm_m ?a ?b ?c ?d ?e; (case a => k_is); (case b => k_is); (case c => k_is); (case d => k_is); (case e => k_is)))
set_option maxHeartbeats 0 in
theorem PySem.Challenge.cw_nolitter_k56_plan_texts_refused_holds : PySem.Challenge.rw_nolitter_k56_plan_texts_refused.Holds := by
 w_on; o_law; k_head; (case hw => w_witness2)
 k_fill
 refine Law.walk (l := PySem.Challenge.rw_nolitter_k56_plan_texts_refused) rfl rfl (fun w h Y => PySem.W.kIn_of Y) ?L ?F
 case L => exact fun w => rfl
 case F =>
  intro w mg fa h KX G hmg
  refine' Law.txt_mk KX G ?aC_LitterError ?aC_BadText ?aC_TwiceNamed ?aC_TooWide ?aC_NoRow ?aC_NoBox ?aC_BadPlan ?aC_BadCuts ?aC_BadCode ?pm_0 ?pm_10 ?pm_13 ?pm_9 ?pm_12 ?pm_11 ?pm_2 ?pm_8 ?pm_7 ?pm_4 ?pm_3 ?pm_5 ?pm_6 ?pm_1 ?xc_LitterError ?xs_LitterError ?xr_LitterError ?xf_LitterError ?xc_BadText ?xg_BadText ?xt_BadText ?xk_BadText ?zn_BadText ?xc_TwiceNamed ?xg_TwiceNamed ?xt_TwiceNamed ?xk_TwiceNamed ?zn_TwiceNamed ?xc_TooWide ?xg_TooWide ?xt_TooWide ?xk_TooWide ?zn_TooWide ?xc_NoRow ?xg_NoRow ?xt_NoRow ?xk_NoRow ?zn_NoRow ?xc_NoBox ?xg_NoBox ?xt_NoBox ?xk_NoBox ?zn_NoBox ?xc_BadPlan ?xg_BadPlan ?xt_BadPlan ?xk_BadPlan ?zn_BadPlan ?xc_BadCuts ?xg_BadCuts ?xt_BadCuts ?xk_BadCuts ?zn_BadCuts ?xc_BadCode ?xg_BadCode ?xt_BadCode ?xk_BadCode ?zn_BadCode ?kc_BadText ?xa_BadText ?xn_BadText ?zn_BadText_TwiceNamed ?zn_BadText_TooWide ?zn_BadText_NoRow ?zn_BadText_NoBox ?zn_BadText_BadPlan ?zn_BadText_BadCuts ?zn_BadText_BadCode ?v_FIGURES ?v_GREATEST_MARK ?b_ValueError ?b_abs ?b_all ?b_bool ?b_divmod ?b_enumerate ?b_int ?b_isinstance ?b_len ?b_list ?b_min ?b_range ?b_str
  (case aC_LitterError => k_is)
  (case aC_BadText => k_is)
  (case aC_TwiceNamed => k_is)
  (case aC_TooWide => k_is)
  (case aC_NoRow => k_is)
  (case aC_NoBox => k_is)
  (case aC_BadPlan => k_is)
  (case aC_BadCuts => k_is)
  (case aC_BadCode => k_is)
  (case pm_0 => bv_omega)
  (case pm_10 => ac_rfl)
  (case pm_13 => ac_rfl)
  (case pm_9 => ac_rfl)
  (case pm_12 => ac_rfl)
  (case pm_11 => ac_rfl)
  (case pm_2 => ac_rfl)
  (case pm_8 => ac_rfl)
  (case pm_7 => ac_rfl)
  (case pm_4 => ac_rfl)
  (case pm_3 => ac_rfl)
  (case pm_5 => ac_rfl)
  (case pm_6 => ac_rfl)
  (case pm_1 => ac_rfl)
  (case xc_LitterError => first | (decide) | kernel_rfl | rfl)
  (case xs_LitterError => k_is)
  (case xr_LitterError => k_is)
  (case xf_LitterError => k_is)
  (case xc_BadText => first | (decide) | kernel_rfl | rfl)
  (case xg_BadText => k_is)
  (case xt_BadText => k_is)
  (case xk_BadText => k_is)
  (case zn_BadText => decide)
  (case xc_TwiceNamed => first | (decide) | kernel_rfl | rfl)
  (case xg_TwiceNamed => k_is)
  (case xt_TwiceNamed => k_is)
  (case xk_TwiceNamed => k_is)
  (case zn_TwiceNamed => decide)
  (case xc_TooWide => first | (decide) | kernel_rfl | rfl)
  (case xg_TooWide => k_is)
  (case xt_TooWide => k_is)
  (case xk_TooWide => k_is)
  (case zn_TooWide => decide)
  (case xc_NoRow => first | (decide) | kernel_rfl | rfl)
  (case xg_NoRow => k_is)
  (case xt_NoRow => k_is)
  (case xk_NoRow => k_is)
  (case zn_NoRow => decide)
  (case xc_NoBox => first | (decide) | kernel_rfl | rfl)
  (case xg_NoBox => k_is)
  (case xt_NoBox => k_is)
  (case xk_NoBox => k_is)
  (case zn_NoBox => decide)
  (case xc_BadPlan => first | (decide) | kernel_rfl | rfl)
  (case xg_BadPlan => k_is)
  (case xt_BadPlan => k_is)
  (case xk_BadPlan => k_is)
  (case zn_BadPlan => decide)
  (case xc_BadCuts => first | (decide) | kernel_rfl | rfl)
  (case xg_BadCuts => k_is)
  (case xt_BadCuts => k_is)
  (case xk_BadCuts => k_is)
  (case zn_BadCuts => decide)
  (case xc_BadCode => first | (decide) | kernel_rfl | rfl)
  (case xg_BadCode => k_is)
  (case xt_BadCode => k_is)
  (case xk_BadCode => k_is)
  (case zn_BadCode => decide)
  (case kc_BadText => k_is)
  (case xa_BadText => k_is)
  (case xn_BadText => k_is)
  (case zn_BadText_TwiceNamed => decide)
  (case zn_BadText_TooWide => decide)
  (case zn_BadText_NoRow => decide)
  (case zn_BadText_NoBox => decide)
  (case zn_BadText_BadPlan => decide)
  (case zn_BadText_BadCuts => decide)
  (case zn_BadText_BadCode => decide)
  (case v_FIGURES => k_is)
  (case v_GREATEST_MARK => k_is)
  (case b_ValueError => k_is)
  (case b_abs => k_is)
  (case b_all => k_is)
  (case b_bool => k_is)
  (case b_divmod => k_is)
  (case b_enumerate => k_is)
  (case b_int => k_is)
  (case b_isinstance => k_is)
  (case b_len => k_is)
  (case b_list => k_is)
  (case b_min => k_is)
  (case b_range => k_is)
  (case b_str => k_is)
