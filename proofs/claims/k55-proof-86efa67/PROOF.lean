import PyProof.Rows.All
import Wide.All
import OpenK.AllK
import Wide.FinOn
import Lean
import PyProof.EqAt
import PyProof.EqKinds
import PyProof.TupleCall
import PyProof.NeKinds
import PyProof.Rows.SeqMore
import PyProof.FactsAll.tuple_2
import KE.KDictOf
import PyProof.ExcInit
import PyProof.ExcClass3
import PyProof.NsDelKeeps
import PyProof.RulesAs
import PyProof.Rows.CountFlat
import PyProof.AutoListH
import KE.KIntText
import PyProof.Rows.CatFin
import PyProof.Rows.Range3
import PyProof.Rows.CallKwBuiltin
import PyProof.NoPylong
import PyProof.EnumMake
import PyProof.Draws
import PyProof.DictWalks
import PyProof.DictUpdate
import PyProof.FactsAll.str_8
import PyProof.ToksMono
import PyProof.StrReplace2
import PyProof.FactsAll.str_6
import PySem.Challenge.RW_nolitter_k55_code_texts_refused
set_option Elab.async false
set_option linter.all false
set_option maxRecDepth 100000
set_option maxHeartbeats 4000000
local macro_rules | `(tactic| decide) => `(tactic| decide +kernel)
noncomputable section
namespace L2
open PySem PySem.Spec PyProof.Rows
abbrev Key:=Sum Int Str
def wd6:Key->Value->Bool
 | .inl k,v=>Value.isInt k v
 | .inr x,v=>Value.isStrOf x v
def keyH (w:World):Key->Int
 | .inl k=>hashInt k
 | .inr x=>hashStr w x
theorem u30:∀ {k:Key} {v:Value},wd6 k v=true->(∃ i t,k=Sum.inl i /\ v=Value.int i t) \/ (∃ x t,k=Sum.inr x /\ v=Value.str x t)
 | .inl i,v,h=>by
  obtain ⟨t,e⟩:=Value.isInt_shape (k:=i) (v:=v) h;exact .inl ⟨i,t,rfl,e⟩
 | .inr x,v,h=>by
  obtain ⟨t,e⟩:=Value.isStrOf_shape (x:=x) (v:=v) h;exact .inr ⟨x,t,rfl,e⟩
theorem wd5 (a b:Int):decide ((Sum.inl a:Key)=Sum.inl b)=(a == b):=by
 by_cases e:a=b
 ·subst e;simp
 ·have h:¬ (Sum.inl a:Key)=Sum.inl b:=fun q=>e (Sum.inl.inj q)
  rw [decide_eq_false h];exact (beq_eq_false_iff_ne.mpr e).symm
theorem wd2 (a b:Str):decide ((Sum.inr a:Key)=Sum.inr b)=decide (a=b):=by
 by_cases e:a=b
 ·subst e;simp
 ·have h:¬ (Sum.inr a:Key)=Sum.inr b:=fun q=>e (Sum.inr.inj q)
  rw [decide_eq_false h,decide_eq_false e]
theorem wd4 (a:Int) (b:Str):decide ((Sum.inl a:Key)=Sum.inr b)=false:=decide_eq_false (fun q=>nomatch q)
theorem wd3 (a:Str) (b:Int):decide ((Sum.inr a:Key)=Sum.inl b)=false:=decide_eq_false (fun q=>nomatch q)
def v29 (prog:Program) (w:World):PySem.KeyKind prog w Key where
 is:=wd6
 hash:=keyH w
 inj:=fun v a b ha hb=>by
  rcases u30 ha with ⟨i,t,rfl,rfl⟩ | ⟨x,t,rfl,rfl⟩
  ·rcases u30 hb with ⟨j,u,rfl,e⟩ | ⟨y,u,rfl,e⟩
   ·injection e with e1 _;rw [e1]
   ·exact nomatch e
  ·rcases u30 hb with ⟨j,u,rfl,e⟩ | ⟨y,u,rfl,e⟩
   ·exact nomatch e
   ·injection e with e1 _;rw [e1]
 byValue:=fun k v h=>by
  rcases u30 h with ⟨i,t,rfl,rfl⟩ | ⟨x,t,rfl,rfl⟩ <;> rfl
 pyHash:=fun hv h=>by
  rcases u30 hv with ⟨i,t,rfl,rfl⟩ | ⟨x,t,rfl,rfl⟩
  ·exact wpAny_pyHash_int h
  ·exact wpAny_pyHash_str h
 eqBool:=fun hu hv h=>by
  rcases u30 hu with ⟨i,t,rfl,rfl⟩ | ⟨x,t,rfl,rfl⟩
  ·rcases u30 hv with ⟨j,u,rfl,rfl⟩ | ⟨y,u,rfl,rfl⟩
   ·rw [wd5] at h;exact wpAny_eqBool_int h
   ·rw [wd4] at h;exact SeqAt.EqAt.int_str i t y u _ _ _ _ h
  ·rcases u30 hv with ⟨j,u,rfl,rfl⟩ | ⟨y,u,rfl,rfl⟩
   ·rw [wd3] at h;exact SeqAt.EqAt.str_int x t j u _ _ _ _ h
   ·rw [wd2] at h;exact wpAny_eqBool_str h
 «strs»:=fun k x t v h=>by
  rcases u30 h with ⟨i,u,rfl,e⟩ | ⟨y,u,rfl,e⟩
  ·exact nomatch e
  ·injection e with e1 _
   subst e1;cases v <;> rfl
inductive V where
 | non | bl (b:Bool) | int (i:Int) | str (x:Str) | byt (b:Array UInt8) | flt (b:UInt64) | ref (a:Addr) | ty (n:String)
 deriving DecidableEq
def RelV:V->Value->Prop
 | .non,u=>u=Value.none
 | .bl b,u=>u=Value.bool b
 | .int i,u=>∃ t,u=Value.int i t
 | .str x,u=>∃ t,u=Value.str x t
 | .byt b,u=>∃ t,u=Value.bytes b t
 | .flt b,u=>∃ t,u=Value.float b t
 | .ref a,u=>u=Value.ref a
 | .ty n,u=>u=Value.type n
abbrev Vals:List V->List Value->Prop:=Paired RelV
theorem Vals.length {xs:List V} {us:List Value} (r:Vals xs us):xs.length=us.length:=Paired.length r
theorem Vals.get:∀ {xs:List V} {us:List Value} {i:Nat} {x:V},Vals xs us->xs[i]?=some x->∃ u,us[i]?=some u /\ RelV x u
 | _,_,_,_,.nil,e=>by simp at e
 | _,_,0,_,.cons r _,e=>by simp at e;subst e;exact ⟨_,rfl,r⟩
 | _,_,i+1,x,.cons _ t,e=>by
  obtain ⟨u,h1,h2⟩:=Vals.get (i:=i) (x:=x) t (by simpa using e);exact ⟨u,by simpa using h1,h2⟩
theorem Vals.set {x:V} {u:Value} (r:RelV x u):∀ {xs:List V} {us:List Value} (i:Nat),Vals xs us->Vals (xs.set i x) (us.set i u)
 | _,_,_,.nil=>.nil
 | _,_,0,.cons _ t=>.cons r t
 | _,_,i+1,.cons q t=>.cons q (Vals.set r i t)
theorem Vals.append:∀ {xs ys:List V} {us ws:List Value},Vals xs us->Vals ys ws->Vals (xs++ys) (us++ws)
 | _,_,_,_,.nil,s=>s
 | _,_,_,_,.cons r t,s=>.cons r (Vals.append t s)
theorem Vals.take:∀ {xs:List V} {us:List Value} (n:Nat),Vals xs us->Vals (xs.take n) (us.take n)
 | _,_,0,_=>.nil
 | _,_,_+1,.nil=>.nil
 | _,_,n+1,.cons r t=>.cons r (Vals.take n t)
theorem Vals.drop:∀ {xs:List V} {us:List Value} (n:Nat),Vals xs us->Vals (xs.drop n) (us.drop n)
 | _,_,0,r=>r
 | _,_,_+1,.nil=>.nil
 | _,_,n+1,.cons _ t=>Vals.drop n t
theorem Vals.none_of:∀ {xs:List V} {us:List Value} {i:Nat},Vals xs us->xs[i]?=none->us[i]?=none:=fun {xs us i} r e=>by
 have h1:=r.length;have h2:xs.length<=i:=List.getElem?_eq_none_iff.mp e;exact List.getElem?_eq_none_iff.mpr (by omega)
def RelO:Option V->Option Value->Prop
 | some v,some u=>RelV v u
 | none,none=>True
 | _,_=>False
def KV {κ:Type}:List (κ × V)->List (κ × Value)->Prop:=Paired fun (p:κ × V) (q:κ × Value)=>p.1=q.1 /\ RelV p.2 q.2
def kV:Key->V
 | .inl i=>.int i
 | .inr x=>.str x
inductive HO where
 | lst (xs:List V)
 | tup (xs:List V)
 | dK (kvs:List (Key × V)) | dT (kvs:List (List Key × V))
 | set (S:Int->Bool) (n:Nat)
 | ins (C dx:Addr) (fs:List (Str × V))
 | own (x:Addr)
 | xd (fs:List (Str × V))
 | met (f x:Addr)
 | rng (lo hi:Int)
 | frz (o:Obj) (u:HO)
 | tbl (ps:Array Value)
 | ext (φ:Heap->Prop)
abbrev Hp:=Addr->Option HO
def upd (H:Hp) (a:Addr) (o:HO):Hp:=fun b=>if b=a then some o else H b
theorem u20 {H:Hp} {a:Addr} {o:HO}:upd H a o a=some o:=by unfold upd;rw [if_pos rfl]
theorem u09 {H:Hp} {a b:Addr} {o:HO} (h:b ≠ a):upd H a o b=H b:=by unfold upd;rw [if_neg h]
theorem vp9 {H:Hp} {a:Addr} {o u:HO}:upd (upd H a o) a u=upd H a u:=by
 funext b;unfold upd;split <;> rfl
theorem u37 {H:Hp} {a b:Addr} {o:HO} (h:H a=some o) (h':H b=none):a ≠ b:=by
 intro e;subst e;rw [h] at h';cases h'
section
variable (P:Program) (w:World)
def TupD (h:Heap) (a:Addr) (its:Array Value):Prop:=∃ o,h.get? a=some o /\ o.cls=.type "tuple" /\ (∃ n,o.data=.seq its n) /\ o.dict=none
theorem TupD.tup {h:Heap} {a:Addr} {its:Array Value} (x:TupD h a its):IsTup h a its:=let ⟨o,e,c,d,_⟩:=x;⟨o,e,c,d⟩
theorem TupD.new (h:Heap) (its:Array Value):TupD (h.push { cls:=.type "tuple",data:=.seq its }) h.objs.size its:=⟨_,Heap.get?_push_size _ rfl,rfl,⟨_,rfl⟩,rfl⟩
def ObjOk (H:Hp) (h:Heap) (a:Addr):HO->Prop
 | .lst xs=>xs.length<=sizeLine /\ ∃ (its:List Value) (n:Nat),Vals xs its /\ h.get? a=some { cls:=.type "list",data:=.seq its.toArray n }
 | .tup xs=>xs.length<=sizeLine /\ ∃ its:List Value,Vals xs its /\ TupD h a its.toArray
 | .dK kvs=>kvs.length<=sizeLine /\ (a == sysModules)=false /\ ∃ vs,KV kvs vs /\ h.DictOf (v29 P w) a vs
 | .dT kvs=>kvs.length<=sizeLine /\ (a == sysModules)=false /\ ∃ xs:List (List Key × Addr × Value),
   Paired (fun (p:List Key × V) (q:List Key × Addr × Value)=>p.1=q.1 /\ H q.2.1=some (.tup (p.1.map kV)) /\ RelV p.2 q.2.2) kvs xs /\
   ∃ o es ep,h.get? a=some o /\ o.ExactDict /\ o.data=.dict es ep /\ es.toList=xs.map (entryOfKey (tupleKind (v29 P w))) /\ (xs.map (·.1)).Nodup
 | .set S n=>h.SetOf (intKind P w) a S n
 | .ins C dx fs=>H dx=some (.own a) /\ fs.length<=1000 /\ dx ≠ a /\ h.get? a=some (W.instObj C dx) /\
   ∃ mA,h.Ns1 dx mA /\ (∀ f,RelO (fs.lookup f) (mA f)) /\ PySem.Within mA (fs.map (·.1))
 | .own _=>∃ o,h.get? a=some o
 | .xd fs=>∃ mA,h.Ns1 a mA /\ ∀ f,RelO (fs.lookup f) (mA f)
 | .rng lo hi=>∃ t u v,h.get? a=some { cls:=.type "range",data:=.fields #[.int lo t,.int hi u,.int 1 v] }
 | .frz o u=>h.get? a=some o /\ ObjOk H h a u
 | .tbl ps=>h.get? a=some { cls:=.none,data:=.fields ps }
 | .met f x=>h.get? a=some (W.methodObj (.ref f) (.ref x))
 | .ext φ=>φ h /\ (∃ o,h.get? a=some o) /\ ∀ h1 h2:Heap,φ h1->(∀ o,h1.get? a=some o->h2.get? a=some o)->φ h2
def HOk (H:Hp) (h:Heap):Prop:=∀ a o,H a=some o->ObjOk P w H h a o
end
section
variable {P:Program} {w:World} {H H':Hp} {h h':Heap} {a:Addr} {o:HO}
theorem ObjOk.lt (x:ObjOk P w H h a o):a < h.objs.size:=by
 cases o with
 | lst xs=>obtain ⟨_,_,_,_,e⟩:=x;exact Heap.lt_size e
 | tup xs=>obtain ⟨_,_,_,p⟩:=x;exact p.tup.lt
 | dK kvs=>obtain ⟨_,_,_,_,o,_,_,e,_⟩:=x;exact Heap.lt_size e
 | dT kvs=>obtain ⟨_,_,_,_,o,_,_,e,_⟩:=x;exact Heap.lt_size e
 | set S n=>obtain ⟨o,_,_,_,e,_⟩:=x;exact Heap.lt_size e
 | ins C dx fs=>obtain ⟨_,_,_,e,_⟩:=x;exact Heap.lt_size e
 | own y=>obtain ⟨_,e⟩:=x;exact Heap.lt_size e
 | xd fs=>obtain ⟨_,⟨_,_,_,e,_⟩,_⟩:=x;exact Heap.lt_size e
 | rng lo hi=>obtain ⟨_,_,_,e⟩:=x;exact Heap.lt_size e
 | frz ob u=>obtain ⟨e,_⟩:=x;exact Heap.lt_size e
 | tbl ps=>exact Heap.lt_size (show h.get? a=some _ from x)
 | met f y=>exact Heap.lt_size (show h.get? a=some _ from x)
 | ext φ=>obtain ⟨_,⟨_,e⟩,_⟩:=x;exact Heap.lt_size e
theorem Paired.mapP {α β:Type} {F G:α->β->Prop}:∀ {l₁:List α} {l₂:List β},Paired F l₁ l₂->(∀ a b,F a b->G a b)->Paired G l₁ l₂
 | _,_,.nil,_=>.nil
 | _,_,.cons r t,f=>.cons (f _ _ r) (Paired.mapP t f)
theorem ObjOk.stay (x:ObjOk P w H h a o) (k:∀ b u,(b=a \/ H b=some (.own a))->h.get? b=some u->h'.get? b=some u)
  (ho:∀ b,H b=some (.own a)->H' b=some (.own a)) (ht:∀ b xs,H b=some (.tup xs)->H' b=some (.tup xs)):ObjOk P w H' h' a o:=by
 induction o with
 | lst xs=>obtain ⟨z,its,n,r,e⟩:=x;exact ⟨z,its,n,r,k _ _ (.inl rfl) e⟩
 | tup xs=>obtain ⟨z,its,r,ob,e,c⟩:=x;exact ⟨z,its,r,ob,k _ _ (.inl rfl) e,c⟩
 | dK kvs=>obtain ⟨z,y,vs,r,ob,es,ep,e,c⟩:=x;exact ⟨z,y,vs,r,ob,es,ep,k _ _ (.inl rfl) e,c⟩
 | dT kvs =>
  obtain ⟨z,y,xs,r,ob,es,ep,e,c⟩:=x;exact ⟨z,y,xs,Paired.mapP r fun p q z=>⟨z.1,ht _ _ z.2.1,z.2.2⟩,ob,es,ep,k _ _ (.inl rfl) e,c⟩
 | set S n=>obtain ⟨ob,es,ep,t,e,c⟩:=x;exact ⟨ob,es,ep,t,k _ _ (.inl rfl) e,c⟩
 | ins C dx fs =>
  obtain ⟨d,z,ne,e,mA,⟨od,es,ep,e2,c⟩,r⟩:=x;exact ⟨ho _ d,z,ne,k _ _ (.inl rfl) e,mA,⟨od,es,ep,k _ _ (.inr d) e2,c⟩,r⟩
 | own y=>obtain ⟨ob,e⟩:=x;exact ⟨ob,k _ _ (.inl rfl) e⟩
 | xd fs=>obtain ⟨mA,⟨od,es,ep,e,c⟩,r⟩:=x;exact ⟨mA,⟨od,es,ep,k _ _ (.inl rfl) e,c⟩,r⟩
 | rng lo hi=>obtain ⟨t,u,v,e⟩:=x;exact ⟨t,u,v,k _ _ (.inl rfl) e⟩
 | frz ob u ih=>obtain ⟨e,q⟩:=x;exact ⟨k _ _ (.inl rfl) e,ih q⟩
 | tbl ps =>
  have e:h.get? a=some { cls:=.none,data:=.fields ps }:=x
  show h'.get? a=some { cls:=.none,data:=.fields ps }
  exact k a _ (.inl rfl) e
 | met f y =>
  have e:h.get? a=some (W.methodObj (.ref f) (.ref y)):=x
  show h'.get? a=some (W.methodObj (.ref f) (.ref y))
  exact k a _ (.inl rfl) e
 | ext φ=>obtain ⟨p,⟨o,e⟩,st⟩:=x;exact ⟨st _ _ p fun o q=>k _ _ (.inl rfl) q,⟨o,k _ _ (.inl rfl) e⟩,st⟩
theorem HOk.lt (x:HOk P w H h) (e:H a=some o):a < h.objs.size:=(x a o e).lt
theorem HOk.fresh (x:HOk P w H h) (e:h.objs.size<=a):H a=none:=by
 cases q:H a with
 | none=>rfl
 | some u=>exact absurd (Nat.lt_of_lt_of_le (x.lt q) e) (Nat.lt_irrefl _)
theorem HOk.kept (x:HOk P w H h) (k:∀ b u,h.get? b=some u->h'.get? b=some u):HOk P w H h':=fun a o e =>
 (x a o e).stay (fun b u _ q=>k b u q) (fun _ q=>q) fun _ _ q=>q
theorem HOk.laid (x:HOk P w H h) (k:∀ b u,h.get? b=some u->h'.get? b=some u) (hp:h.objs.size<=a) (new:ObjOk P w (upd H a o) h' a o):HOk P w (upd H a o) h':=fun b u e=>by
 have hn:=x.fresh hp
 by_cases hb:b=a
 ·subst hb;rw [u20] at e;cases e;exact new
 ·rw [u09 hb] at e
  exact (x b u e).stay (fun c v _ q=>k c v q) (fun c q=>by rw [u09 (u37 q hn)];exact q) fun c xs q=>by rw [u09 (u37 q hn)];exact q
end
def Rd (H:Hp) (a:Addr) (u:HO):Prop:=H a=some u \/ ∃ o,H a=some (.frz o u)
theorem Rd.of {H:Hp} {a:Addr} {u:HO} (h:H a=some u):Rd H a u:=.inl h
theorem Rd.ok {P:Program} {w:World} {H:Hp} {h:Heap} {a:Addr} {u:HO} (r:Rd H a u) (x:HOk P w H h):ObjOk P w H h a u:=by
 rcases r with r | ⟨o,r⟩
 ·exact x a u r
 ·obtain ⟨_,q⟩:=x a _ r
  exact q
def Mut:Option HO->Prop
 | some (.lst _)=>True
 | some (.dK _)=>True
 | some (.dT _)=>True
 | some (.set _ _)=>True
 | some (.ins _ _ _)=>True
 | some (.ext _)=>True
 | _=>False
section
variable {P:Program} {w:World} {H:Hp} {h h':Heap} {x e:Addr} {o':HO}
theorem HOk.write (ok:HOk P w H h) (mu:Mut (H x)) (he:e=x \/ H e=some (.own x)) (k:∀ b u,b ≠ e->h.get? b=some u->h'.get? b=some u) (heo:∃ u,h'.get? e=some u)
  (new:ObjOk P w (upd H x o') h' x o'):HOk P w (upd H x o') h':=fun b u q=>by
 have nown:∀ c y,H c=some (.own y)->c ≠ x:=fun c y r z=>by subst z;rw [r] at mu;exact mu
 have ntup:∀ c xs,H c=some (.tup xs)->c ≠ x:=fun c xs r z=>by subst z;rw [r] at mu;exact mu
 by_cases hb:b=x
 ·subst hb;rw [u20] at q;cases q;exact new
 ·rw [u09 hb] at q
  by_cases hbe:b=e
  ·have q':H b=some (.own x):=by
    rcases he with z | z
    ·exact absurd (hbe.trans z) hb
    ·rw [hbe];exact z
   rw [q] at q';cases q';obtain ⟨v,hv⟩:=heo;exact ⟨v,by rw [hbe];exact hv⟩
  ·refine (ok b u q).stay (fun c v hc r=>k c v ?_ r) (fun c r=>by rw [u09 (nown c b r)];exact r) fun c xs r=>by rw [u09 (ntup c xs r)];exact r
   rcases hc with rfl | hc
   ·exact hbe
   ·rintro rfl
    rcases he with z | z
    ·exact nown c b hc z
    ·rw [hc] at z;cases z;exact hb rfl
end
structure Un (fs ex:List Addr) (H H':Hp) (h h':Heap):Prop where
 keep:∀ b o,h.get? b=some o->H b=none->b ∉ fs->b ∉ ex->h'.get? b=some o
 slot:∀ b o,h.get? b=some o->H b=none->b ∈ fs->b ∉ ex->∃ sl,h'.get? b=some { o with slots:=sl }
 free:∀ b o,h.get? b=some o->H b=none->b ∉ ex->H' b=none
 there:∀ b o,h.get? b=some o->b ∉ ex->∃ o',h'.get? b=some o'
 tups:∀ b xs,H b=some (.tup xs)->H' b=some (.tup xs)
 frzs:∀ b o u,H b=some (.frz o u)->H' b=some (.frz o u)
 tbls:∀ b ps,H b=some (.tbl ps)->∃ more,H' b=some (.tbl (ps++more))
section
variable {fs fs' ex ex':List Addr} {H H1 H2:Hp} {h h1 h2 h':Heap} {a x e:Addr} {o:HO}
theorem Un.any (u:Un fs ex H H1 h h1) {b:Addr} {ob:Obj} (q:h.get? b=some ob) (n:H b=none) (hx:b ∉ ex):∃ sl,h1.get? b=some { ob with slots:=sl }:=by
 by_cases hb:b ∈ fs
 ·exact u.slot b ob q n hb hx
 ·exact ⟨ob.slots,u.keep b ob q n hb hx⟩
theorem Un.trans (a:Un fs ex H H1 h h1) (b:Un fs ex H1 H2 h1 h2):Un fs ex H H2 h h2 where
 keep:=fun c ob q n hc hx=>b.keep c ob (a.keep c ob q n hc hx) (a.free c ob q n hx) hc hx
 slot:=fun c ob q n hc hx=>by
  obtain ⟨sl,e1⟩:=a.slot c ob q n hc hx;obtain ⟨sl',e2⟩:=b.slot c _ e1 (a.free c ob q n hx) hc hx;exact ⟨sl',e2⟩
 free:=fun c ob q n hx=>by
  obtain ⟨o',e1⟩:=a.there c ob q hx;exact b.free c o' e1 (a.free c ob q n hx) hx
 there:=fun c ob q hx=>by
  obtain ⟨o',e1⟩:=a.there c ob q hx;exact b.there c o' e1 hx
 tups:=fun c xs q=>b.tups c xs (a.tups c xs q)
 frzs:=fun c ob xs q=>b.frzs c ob xs (a.frzs c ob xs q)
 tbls:=fun c ps q=>by
  obtain ⟨m1,e1⟩:=a.tbls c ps q;obtain ⟨m2,e2⟩:=b.tbls c _ e1;exact ⟨m1++m2,by rw [e2,Array.append_assoc]⟩
theorem Un.kept (k:∀ b u,h.get? b=some u->h'.get? b=some u):Un fs ex H H h h' :=
 ⟨fun b ob q _ _ _=>k b ob q,fun b ob q _ _ _=>⟨ob.slots,k b ob q⟩,fun _ _ _ n _=>n,fun b ob q _=>⟨ob,k b ob q⟩,fun _ _ q=>q,fun _ _ _ q=>q,fun _ ps q=>⟨#[],by rw [q];simp⟩⟩
theorem Un.refl:Un fs ex H H h h:=Un.kept fun _ _ q=>q
theorem Un.laid (k:∀ b u,h.get? b=some u->h'.get? b=some u) (hp:h.objs.size<=a) (hn:H a=none):Un fs ex H (upd H a o) h h' where
 keep:=fun b u q _ _ _=>k b u q
 slot:=fun b u q _ _ _=>⟨u.slots,k b u q⟩
 free:=fun b u q n _=>by rw [u09 (Nat.ne_of_lt (Nat.lt_of_lt_of_le (Heap.lt_size q) hp))];exact n
 there:=fun b u q _=>⟨u,k b u q⟩
 tups:=fun b xs q=>by rw [u09 (u37 q hn)];exact q
 frzs:=fun b u xs q=>by rw [u09 (u37 q hn)];exact q
 tbls:=fun b ps q=>⟨#[],by rw [u09 (u37 q hn),q];simp⟩
theorem Un.write (mu:Mut (H x)) (he:e=x \/ H e=some (.own x)) (k:∀ b u,b ≠ e->h.get? b=some u->h'.get? b=some u) (heo:∃ u,h'.get? e=some u):Un fs ex H (upd H x o) h h':=by
 have hx:∀ b,H b=none->b ≠ x:=fun b n z=>by subst z;rw [n] at mu;exact mu
 have hb:∀ b,H b=none->b ≠ e:=fun b n z=>by
  subst z
  rcases he with r | r
  ·exact hx b n r
  ·rw [n] at r;cases r
 have hm:∀ b u,H b=some u->¬ Mut (some u)->b ≠ x:=fun b u q nm z=>by subst z;rw [q] at mu;exact nm mu
 refine ⟨fun b u q n _ _=>k b u (hb b n) q,fun b u q n _ _=>⟨u.slots,k b u (hb b n) q⟩,fun b u q n _=>by rw [u09 (hx b n)];exact n,fun b u q _=>?_,
  fun b xs q=>by rw [u09 (hm b _ q fun z=>z)];exact q,fun b u xs q=>by rw [u09 (hm b _ q fun z=>z)];exact q,fun b ps q=>⟨#[],by rw [u09 (hm b _ q fun z=>z),q];simp⟩⟩
 by_cases hbe:b=e
 ·subst hbe;exact heo
 ·exact ⟨u,k b u hbe q⟩
theorem Un.mono (u:Un fs ex H H1 h h1) (hs:∀ b ∈ fs,b ∈ fs') (hx:∀ b ∈ ex,b ∈ ex'):Un fs' ex' H H1 h h1 :=
 ⟨fun b ob q n hb he=>u.keep b ob q n (fun z=>hb (hs b z)) fun z=>he (hx b z),fun _ _ q n _ he=>u.any q n fun z=>he (hx _ z),fun b ob q n he=>u.free b ob q n fun z=>he (hx b z),fun b ob q he=>u.there b ob q fun z=>he (hx b z),u.tups,u.frzs,u.tbls⟩
end
def trk (h:Heap) (H:Hp):List Addr:=(List.range h.objs.size).filter fun a=>(H a).isSome
def hidT (h:Heap) (H:Hp):Heap:=W.hideAll h (trk h H)
theorem v58 (h:Heap) (H:Hp):(hidT h H).objs.size=h.objs.size:=W.hideAll_size _ _
theorem vg8 {h:Heap} {H:Hp} {b:Addr} {o:Obj} (e:h.get? b=some o) (n:H b=none):(hidT h H).get? b=some o :=
 W.hideAll_get _ e fun hm=>by
  have q:(H b).isSome=true:=(List.mem_filter.mp hm).2;rw [n] at q;simp at q
theorem vv6 {h:Heap} {H:Hp} {b:Addr} {o:Obj} (e:(hidT h H).get? b=some o):h.get? b=some o /\ H b=none:=by
 have e':h.get? b=some o:=W.of_hideAll (trk h H) e;refine ⟨e',?_⟩;cases q:H b with
 | none=>rfl
 | some x =>
  have hm:b ∈ trk h H:=List.mem_filter.mpr ⟨List.mem_range.mpr (Heap.lt_size e'),by simp [q]⟩;have z:(hidT h H).get? b=none:=W.hideAll_none (trk h H) hm;rw [z] at e;cases e
def w08 (g h:Heap) (L:Addr):List (Addr × Obj):=(List.range h.objs.size).filterMap fun a=>if a=L \/ (g.get? a).isSome=true then none else (h.get? a).map fun o=>(a,o)
def rest (g h:Heap) (L d:Addr):List (Addr × Obj):=(w08 g h L).filter fun p=>decide (p.1 ≠ d)
structure Mod (K:W.Frag) (mg:Str->Option Value) (base:Heap):Prop where
 kin:K.In base
 glob:base.Ns mainGlobals mg
 blt:∃ mb,base.Ns builtinsNs mb /\ ∀ x:Str,x ≠ "__name__" -> mb x=bootBuiltins x
 nolimit:base.NoLimit
/-- the context: a def's body (or a comprehension's block) running. base: fixed through the whole law; s₀,H₀: the entry; outer: the frames whose slots others may change (a def's callers); stack: all frames that run;
   ex: iterators that were made ahead of the entry and are walked here (a comprehension's);fn: the names whose cells were made at the entry (a def: all;a comprehension's block: its own);calm: not within an except suite;pn: pins that every state bears;xe: what is wanted of an exception that leaves the code -/
structure Cx where
 prog:Program
 w:World
 K:W.Frag
 mg:Str->Option Value
 base:Heap
 A:Around
 N:List Str
 s₀:Shared
 H₀:Hp
 env:Env
 outer:List Env
 stack:List Env
 ex:List Addr
 fn:Str->Bool
 calm:Bool
 pn:List (Addr × Obj)
 xe:Value->Shared->Prop
def frs (l:List Env):List Addr:=l.filterMap (·.frame)
abbrev Cx.fs (X:Cx):List Addr:=frs X.outer
def Vis (sc:Scope) (x:Str):Prop:=sc.names.lookup x=some .local \/ sc.names.lookup x=some .cell \/ sc.names.lookup x=some .free
def Loc (sc:Scope) (x:Str):Prop:=sc.names.lookup x=some .local \/ sc.names.lookup x=some .cell
def Look (env:Env) (h:Heap) (m:Str->Option Value) (x:Str) (u:Value):Prop :=
 (env.kindOf x=some .local /\ m x=some u) \/ ((env.kindOf x=some .cell \/ env.kindOf x=some .free) /\ ∃ c,env.cells.lookup x=some c /\ h.IsCell c (some u))
structure Cx.Ok (X:Cx):Prop where
 mod:Mod X.K X.mg X.base
 kind:X.env.scope.kind=.function
 glob:X.env.globals=mainGlobals
 blt:X.env.builtins=builtinsNs
 above:X.s₀.heap.objs.size<=X.env.locals
 inj:∀ x y c,X.env.cells.lookup x=some c->X.env.cells.lookup y=some c->x=y
 has:∀ x,(X.env.kindOf x=some .cell \/ X.env.kindOf x=some .free)->∃ c,X.env.cells.lookup x=some c
 cab:∀ x c,X.fn x=true->X.env.cells.lookup x=some c->X.s₀.heap.objs.size<=c
 hd:X.calm=true->X.A.handled=none
 frames:X.A.frames=some X.stack
 stk:X.stack=X.outer \/ (X.stack=X.env::X.outer /\ X.env.frame=some X.env.locals)
 exf:∀ b ∈ X.ex,b ≠ X.env.locals /\ ∀ x c,X.env.cells.lookup x=some c->c ≠ b
 bs:∀ b o,X.base.get? b=some o->X.s₀.heap.get? b=some o /\ X.H₀ b=none
 bsz:X.base.objs.size<=X.s₀.heap.objs.size
 noex:∀ b o,X.base.get? b=some o->b ∉ X.ex
 exfs:∀ b ∈ X.ex,b ∉ X.fs
 funs:X.s₀.heap.FunFrames X.base X.outer
 frf:∀ b ∈ X.fs,X.H₀ b=none
structure Inv (X:Cx) (pins:List (Addr × Obj)) (σ:List (Option V)) (H:Hp) (s:Shared):Prop where
 ok:X.Ok
 os:s.os=X.s₀.os
 bare:AllBare s.gens
 base:Un X.fs X.ex X.H₀ H X.s₀.heap s.heap
 loc:∃ m,s.heap.Ns X.env.locals m /\ ∀ (i:Nat) (x:Str) (v:V),X.N[i]?=some x->σ[i]?=some (some v)->Vis X.env.scope x->∃ u,RelV v u /\ Look X.env s.heap m x u
 cell:∀ x c,X.env.cells.lookup x=some c->∃ v,s.heap.IsCell c v
 free:H X.env.locals=none
 freeC:∀ x c,X.env.cells.lookup x=some c->H c=none
 pin:∀ p ∈ X.pn++pins,s.heap.get? p.1=some p.2 /\ H p.1=none /\ p.1 ≠ X.env.locals /\ p.1 ∉ X.fs /\ ∀ v,p.2.data ≠ .cell v
 hok:HOk X.prog X.w H s.heap
 len:σ.length=X.N.length
section
variable {X:Cx} {pins:List (Addr × Obj)} {σ:List (Option V)} {H H':Hp} {s:Shared} {h':Heap}
theorem Cx.Ok.nofr (ok:X.Ok) {b:Addr} {o:Obj} (e:X.base.get? b=some o):b ∉ X.fs:=fun hb=>by
 have:=(ok.funs.mem hb).1;rw [e] at this;cases this
theorem Inv.bs (I:Inv X pins σ H s):∀ b o,X.base.get? b=some o->s.heap.get? b=some o /\ H b=none:=fun b o e =>
 ⟨I.base.keep b o (I.ok.bs b o e).1 (I.ok.bs b o e).2 (I.ok.nofr e) (I.ok.noex b o e),I.base.free b o (I.ok.bs b o e).1 (I.ok.bs b o e).2 (I.ok.noex b o e)⟩
theorem Inv.bk (I:Inv X pins σ H s):∀ b o,X.base.get? b=some o->s.heap.get? b=some o:=fun b o e=>(I.bs b o e).1
theorem Inv.mod (I:Inv X pins σ H s):Mod X.K X.mg X.base:=I.ok.mod
theorem Inv.kIn (I:Inv X pins σ H s):X.K.In s.heap:=I.ok.mod.kin.keeps I.bk
theorem Inv.nolimit (I:Inv X pins σ H s):s.heap.NoLimit:=I.ok.mod.nolimit.keeps I.bk
theorem Inv.fr (I:Inv X pins σ H s):∃ m,Fr X.base X.env.locals s.heap m :=
 let ⟨m,hn,_⟩:=I.loc
 ⟨m,hn,I.bk,Nat.le_trans I.ok.bsz I.ok.above⟩
theorem Inv.lt (I:Inv X pins σ H s):X.env.locals < s.heap.objs.size:=let ⟨_,hn,_⟩:=I.loc;hn.lt
theorem Inv.sz (I:Inv X pins σ H s):X.s₀.heap.objs.size<=s.heap.objs.size:=Nat.le_trans I.ok.above (Nat.le_of_lt I.lt)
theorem Inv.nofs (I:Inv X pins σ H s) {a:Addr} (h:s.heap.objs.size<=a):a ∉ X.fs:=fun hb=>by
 obtain ⟨_,o,ho,_⟩:=I.ok.funs.mem hb;exact absurd (Nat.lt_of_lt_of_le (Heap.lt_size ho) (Nat.le_trans I.sz h)) (Nat.lt_irrefl _)
theorem Inv.cne (I:Inv X pins σ H s):∀ x c,X.env.cells.lookup x=some c->c ≠ X.env.locals:=fun x c e z=>by
 obtain ⟨v,o,ho,hd⟩:=I.cell x c e;obtain ⟨m,⟨o',es,ep,ho',hd',_⟩,_⟩:=I.loc;rw [z,ho'] at ho;cases ho;rw [hd'] at hd;cases hd
theorem Inv.funs (I:Inv X pins σ H s):s.heap.FunFrames X.base X.outer:=by
 have all:∀ (l:List Env),(∀ b ∈ frs l,b ∈ X.fs)->X.s₀.heap.FunFrames X.base l->s.heap.FunFrames X.base l:=by
  intro l
  induction l with
  | nil=>intro _ _;trivial
  | cons env r ih =>
   intro hs hl;obtain ⟨hk,⟨L,o,hf,hn,ho,hd⟩,hr⟩:=hl;have hL:L ∈ X.fs:=hs L (by unfold frs;rw [List.filterMap_cons,hf];exact List.mem_cons_self);obtain ⟨sl,e⟩:=I.base.slot L o ho (I.ok.frf L hL) hL fun z=>I.ok.exfs L z hL
   exact ⟨hk,⟨L,_,hf,hn,e,hd⟩,ih (fun b hb=>hs b (by unfold frs;rw [List.filterMap_cons,hf];exact List.mem_cons_of_mem _ hb)) hr⟩
 exact all X.outer (fun _ hb=>hb) I.ok.funs
theorem Inv.stack (I:Inv X pins σ H s):s.heap.FunFrames X.base X.stack:=by
 rcases I.ok.stk with e | ⟨e,hf⟩
 ·rw [e];exact I.funs
 ·rw [e]
  obtain ⟨m,hn,_⟩:=I.loc;refine .cons (by rw [I.ok.kind];decide) hf hn ?_ I.funs;exact Heap.get?_none_of_le (Nat.le_trans I.ok.bsz I.ok.above)
theorem Inv.stkSub (I:Inv X pins σ H s):∀ b ∈ frs X.stack,b ∈ X.env.locals::X.fs:=fun b hb=>by
 rcases I.ok.stk with e | ⟨e,hf⟩
 ·rw [e] at hb;exact List.mem_cons_of_mem _ hb
 ·rw [e] at hb
  unfold frs at hb;rw [List.filterMap_cons,hf] at hb;exact hb
theorem Inv.stkFree (I:Inv X pins σ H s):∀ b ∈ frs X.stack,H b=none:=fun b hb=>by
 rcases List.mem_cons.mp (I.stkSub b hb) with e | hb
 ·rw [e];exact I.free
 ·obtain ⟨_,o,ho,_⟩:=I.ok.funs.mem hb
  exact I.base.free b o ho (I.ok.frf b hb) fun z=>I.ok.exfs b z hb
theorem Inv.step {g':Array GenState} {t':Nat} {d':Drawn} {ch:List Addr} (I:Inv X pins σ H s)
  (hch:∀ b ∈ ch,(b ∈ X.ex \/ X.s₀.heap.objs.size<=b) /\ b ≠ X.env.locals /\ (∀ x c,X.env.cells.lookup x=some c->c ≠ b) /\ ∀ p ∈ X.pn++pins,p.1 ≠ b)
  (keep:∀ b o,b ≠ X.env.locals->b ∉ X.fs->b ∉ ch->s.heap.get? b=some o->H b=none->h'.get? b=some o)
  (slot:∀ b o,b ≠ X.env.locals->b ∈ X.fs->b ∉ ch->s.heap.get? b=some o->H b=none->∃ sl,h'.get? b=some { o with slots:=sl }) (free:∀ b o,b ∉ ch->s.heap.get? b=some o->H b=none->H' b=none)
  (there:∀ b o,b ∉ ch->s.heap.get? b=some o->∃ o',h'.get? b=some o')
  (tups:∀ b xs,H b=some (.tup xs)->H' b=some (.tup xs)) (frzs:∀ b o u,H b=some (.frz o u)->H' b=some (.frz o u)) (tbls:∀ b ps,H b=some (.tbl ps)->∃ more,H' b=some (.tbl (ps++more)))
  (ns:∀ m,s.heap.Ns X.env.locals m->h'.Ns X.env.locals m) (hok:HOk X.prog X.w H' h') (hg:AllBare g') :
  Inv X pins σ H' { s with heap:=h',gens:=g',drawn:=d',toks:=t' }:=by
 have neL:∀ b o,X.s₀.heap.get? b=some o->b ≠ X.env.locals:=fun b o e=>Nat.ne_of_lt (Nat.lt_of_lt_of_le (Heap.lt_size e) I.ok.above)
 have neC:∀ b o,X.s₀.heap.get? b=some o->b ∉ X.ex->b ∉ ch:=fun b o e hx hb=>by
  rcases (hch b hb).1 with z | z
  ·exact hx z
  ·exact absurd (Nat.lt_of_lt_of_le (Heap.lt_size e) z) (Nat.lt_irrefl _)
 have cellK:∀ x c,X.env.cells.lookup x=some c->∀ v,s.heap.IsCell c v->h'.IsCell c v:=fun x c e v ⟨o,ho,hd⟩=>by
  have nch:c ∉ ch:=fun z=>(hch c z).2.2.1 x c e rfl
  by_cases hc:c ∈ X.fs
  ·obtain ⟨sl,q⟩:=slot c o (I.cne x c e) hc nch ho (I.freeC x c e)
   exact ⟨_,q,hd⟩
  ·exact ⟨o,keep c o (I.cne x c e) hc nch ho (I.freeC x c e),hd⟩
 refine ⟨I.ok,I.os,hg,⟨fun b o e n hb hx=>?_,fun b o e n hb hx=>?_,fun b o e n hx=>?_,fun b o e hx=>?_,fun b xs e=>tups b xs (I.base.tups b xs e),fun b o xs e=>frzs b o xs (I.base.frzs b o xs e),fun b ps e=>?_⟩,?_,fun x c e=>?_,?_,fun x c e=>?_,fun p hp=>?_,hok,I.len⟩
 ·exact keep b o (neL b o e) hb (neC b o e hx) (I.base.keep b o e n hb hx) (I.base.free b o e n hx)
 ·obtain ⟨sl,e1⟩:=I.base.slot b o e n hb hx
  obtain ⟨sl',e2⟩:=slot b _ (neL b o e) hb (neC b o e hx) e1 (I.base.free b o e n hx);exact ⟨sl',e2⟩
 ·obtain ⟨o',e1⟩:=I.base.there b o e hx
  exact free b o' (neC b o e hx) e1 (I.base.free b o e n hx)
 ·obtain ⟨o',e1⟩:=I.base.there b o e hx
  exact there b o' (neC b o e hx) e1
 ·obtain ⟨m1,e1⟩:=I.base.tbls b ps e
  obtain ⟨m2,e2⟩:=tbls b _ e1;exact ⟨m1++m2,by rw [e2,Array.append_assoc]⟩
 ·obtain ⟨m,hn,hl⟩:=I.loc
  refine ⟨m,ns m hn,fun i x v e1 e2 e3=>?_⟩;obtain ⟨u,r,l⟩:=hl i x v e1 e2 e3;refine ⟨u,r,?_⟩
  rcases l with l | ⟨k,c,e,z⟩
  ·exact .inl l
  ·exact .inr ⟨k,c,e,cellK x c e _ z⟩
 ·obtain ⟨v,z⟩:=I.cell x c e
  exact ⟨v,cellK x c e v z⟩
 ·obtain ⟨m,⟨o,_,_,ho,_⟩,_⟩:=I.loc
  exact free _ o (fun z=>(hch _ z).2.1 rfl) ho I.free
 ·obtain ⟨v,o,ho,hd⟩:=I.cell x c e
  exact free c o (fun z=>(hch c z).2.2.1 x c e rfl) ho (I.freeC x c e)
 ·obtain ⟨e,n,ne,nf,d⟩:=I.pin p hp
  have nch:p.1 ∉ ch:=fun z=>(hch p.1 z).2.2.2 p hp rfl
  exact ⟨keep p.1 p.2 ne nf nch e n,free p.1 p.2 nch e n,ne,nf,d⟩
theorem Inv.un {t':Nat} (I:Inv X pins σ H s) (u:Un X.fs [] H H' s.heap h') (hok:HOk X.prog X.w H' h'):Inv X pins σ H' { s with heap:=h',toks:=t' }:=by
 obtain ⟨m,⟨o,es,ep,ho,r⟩,_⟩:=id I.loc;obtain ⟨sl,hL⟩:=u.any ho I.free (by simp);exact I.step (g':=s.gens) (d':=s.drawn) (ch:=[]) (fun _ z=>nomatch z) (fun b o _ hb _ e n=>u.keep b o e n hb (by simp)) (fun b o _ hb _ e n=>u.slot b o e n hb (by simp)) (fun b o _ e n=>u.free b o e n (by simp)) (fun b o _ e=>u.there b o e (by simp)) u.tups u.frzs u.tbls (fun m' hm=>by
  obtain ⟨o',es',ep',ho',r'⟩:=hm;rw [ho] at ho';cases ho';exact ⟨_,es',ep',hL,r'⟩) hok I.bare
theorem Inv.call {g':Array GenState} {t':Nat} {d':Drawn} {ch:List Addr} (I:Inv X pins σ H s) (u:Un (frs X.stack) ch H H' s.heap h') (hok:HOk X.prog X.w H' h') (hg:AllBare g')
  (hch:∀ b ∈ ch,(b ∈ X.ex \/ X.s₀.heap.objs.size<=b) /\ b ≠ X.env.locals /\ (∀ x c,X.env.cells.lookup x=some c->c ≠ b) /\ ∀ p ∈ X.pn++pins,p.1 ≠ b) :
  Inv X pins σ H' { s with heap:=h',gens:=g',drawn:=d',toks:=t' }:=by
 obtain ⟨m,⟨o,es,ep,ho,r⟩,_⟩:=id I.loc;obtain ⟨sl,hL⟩:=u.any ho I.free fun z=>(hch _ z).2.1 rfl
 exact I.step (ch:=ch) hch (fun b o hL hb hc e n=>u.keep b o e n (fun z=>(List.mem_cons.mp (I.stkSub b z)).elim hL hb) hc) (fun b o _ _ hc e n=>u.any e n hc) (fun b o hc e n=>u.free b o e n hc) (fun b o hc e=>u.there b o e hc) u.tups u.frzs u.tbls (fun m' hm=>by
  obtain ⟨o',es',ep',ho',r'⟩:=hm;rw [ho] at ho';cases ho';exact ⟨_,es',ep',hL,r'⟩) hok hg
theorem Inv.turned {t':Nat} {it:Addr} (I:Inv X pins σ H s) (k:∀ b o,b ≠ it->s.heap.get? b=some o->h'.get? b=some o) (hn:H it=none) (hL:it ≠ X.env.locals)
  (h1:it ∈ X.ex \/ X.s₀.heap.objs.size<=it) (h2:∀ x c,X.env.cells.lookup x=some c->c ≠ it) (h3:∀ p ∈ X.pn++pins,p.1 ≠ it):Inv X pins σ H { s with heap:=h',toks:=t' }:=by
 have nit:∀ b u,H b=some u->b ≠ it:=fun b u e z=>by rw [z,hn] at e;cases e
 refine I.step (g':=s.gens) (d':=s.drawn) (ch:=[it]) (fun b hb=>?_) (fun b o _ _ hc e _=>k b o (fun z=>hc (by simp [z])) e) (fun b o _ _ hc e _=>⟨o.slots,k b o (fun z=>hc (by simp [z])) e⟩) (fun _ _ _ _ n=>n)
  (fun b o hc e=>⟨o,k b o (fun z=>hc (by simp [z])) e⟩) (fun _ _ e=>e) (fun _ _ _ e=>e) (fun b ps e=>⟨#[],by rw [e];simp⟩) (fun m hm=>?_) (fun b u e=>?_) I.bare
 ·have e:b=it:=by simpa using hb
  subst e;exact ⟨h1,hL,h2,h3⟩
 ·obtain ⟨o,es,ep,ho,r⟩:=hm
  exact ⟨o,es,ep,k _ o (Ne.symm hL) ho,r⟩
 ·refine (I.hok b u e).stay (fun c v hc q=>k c v ?_ q) (fun _ q=>q) fun _ _ q=>q
  rcases hc with z | z
  ·rw [z];exact nit b u e
  ·exact nit c _ z
theorem Inv.tok (I:Inv X pins σ H s) (t:Nat):Inv X pins σ H { s with toks:=t }:=I.un (h':=s.heap) (t':=t) Un.refl I.hok
theorem Inv.kept {t':Nat} (I:Inv X pins σ H s) (k:∀ b u,s.heap.get? b=some u->h'.get? b=some u):Inv X pins σ H { s with heap:=h',toks:=t' }:=I.un (Un.kept k) (I.hok.kept k)
theorem Inv.laid {a:Addr} {o:HO} {t':Nat} (I:Inv X pins σ H s) (k:∀ b u,s.heap.get? b=some u->h'.get? b=some u) (hp:s.heap.objs.size<=a) (new:ObjOk X.prog X.w (upd H a o) h' a o) :
  Inv X pins σ (upd H a o) { s with heap:=h',toks:=t' }:=I.un (Un.laid k hp (I.hok.fresh hp)) (I.hok.laid k hp new)
theorem Inv.write {x e:Addr} {o:HO} {t':Nat} (I:Inv X pins σ H s) (mu:Mut (H x)) (he:e=x \/ H e=some (.own x)) (k:∀ b u,b ≠ e->s.heap.get? b=some u->h'.get? b=some u) (heo:∃ u,h'.get? e=some u)
  (new:ObjOk X.prog X.w (upd H x o) h' x o):Inv X pins σ (upd H x o) { s with heap:=h',toks:=t' }:=I.un (Un.write mu he k heo) (I.hok.write mu he k heo new)
theorem Inv.pins_of {pins':List (Addr × Obj)} (I:Inv X pins σ H s) (h:∀ p ∈ pins',s.heap.get? p.1=some p.2 /\ H p.1=none /\ p.1 ≠ X.env.locals /\ p.1 ∉ X.fs /\ ∀ v,p.2.data ≠ .cell v):Inv X pins' σ H s :=
 ⟨I.ok,I.os,I.bare,I.base,I.loc,I.cell,I.free,I.freeC,fun p hp=>(List.mem_append.mp hp).elim (fun z=>I.pin p (List.mem_append_left _ z)) (h p),I.hok,I.len⟩
theorem uh6 {N:List Str} (hN:N.Nodup) {i j:Nat} {x:Str} (a:N[i]?=some x) (b:N[j]?=some x):i=j:=by
 obtain ⟨h1,e1⟩:=List.getElem?_eq_some_iff.mp a;obtain ⟨h2,e2⟩:=List.getElem?_eq_some_iff.mp b;exact (List.getElem_inj hN).mp (e1.trans e2.symm)
theorem uj9 {M:Model} {A:Around} {E:Value->Shared->Prop} {i:Nat} {x:Str} {v:V} {u:Value} {Q:Unit->Shared->Prop} (I:Inv X pins σ H s) (hN:X.N.Nodup) (hi:X.N[i]?=some x) (hx:Loc X.env.scope x) (r:RelV v u)
  (h:∀ s',Inv X pins (σ.set i (some v)) H s'->(∃ a,Heap.SameBut a s.heap s'.heap /\ (a=X.env.locals \/ X.env.cells.lookup x=some a))->Q () s') (hf:X.fn x=true \/ X.env.scope.names.lookup x=some .local:=by first | exact .inl rfl | exact .inr rfl | assumption):wpAny M A (storeName X.env x u) Q E s:=by
 obtain ⟨m,hn,hl⟩:=id I.loc;have hcls:(X.env.scope.kind == .class || (X.env.scope.kind == .module && X.env.locals != X.env.globals))=false:=by rw [I.ok.kind];rfl
 have hiσ:i < σ.length:=by rw [I.len];exact (List.getElem?_eq_some_iff.mp hi).1
 have cne:=I.cne;have tracked:∀ {a:Addr} {h':Heap},(∃ o,s.heap.get? a=some o /\ H a=none)->Heap.SameBut a s.heap h'->HOk X.prog X.w H h':=fun {a h'} ha hs b ob e=>by
  obtain ⟨_,_,hfree⟩:=ha;refine (I.hok b ob e).stay (fun c w' hc q=>(hs.2 c ?_).trans q) (fun _ q=>q) fun _ _ q=>q
  rintro rfl
  rcases hc with rfl | hc
  ·rw [hfree] at e;cases e
  ·rw [hfree] at hc;cases hc
 rcases hx with hk | hk
 ·refine wpAny_storeName_local hk hn (fun h' hn' hs=>?_) hcls
  obtain ⟨oL,_,_,hoL,_⟩:=id hn;refine h _ ⟨I.ok,I.os,I.bare,⟨fun b o e n hb hx=>?_,fun b o e n hb hx=>?_,I.base.free,fun b o e hx=>?_,I.base.tups,I.base.frzs,I.base.tbls⟩,⟨_,hn',fun j y v' e1 e2 e3=>?_⟩,fun y c e=>?_,I.free,I.freeC,fun p hp=>?_,tracked ⟨oL,hoL,I.free⟩ hs,by simpa using I.len⟩ ⟨_,hs,.inl rfl⟩
  ·exact (hs.2 b (Nat.ne_of_lt (Nat.lt_of_lt_of_le (Heap.lt_size e) I.ok.above))).trans (I.base.keep b o e n hb hx)
  ·obtain ⟨sl,e1⟩:=I.base.slot b o e n hb hx
   exact ⟨sl,(hs.2 b (Nat.ne_of_lt (Nat.lt_of_lt_of_le (Heap.lt_size e) I.ok.above))).trans e1⟩
  ·obtain ⟨o',e1⟩:=I.base.there b o e hx
   exact ⟨o',(hs.2 b (Nat.ne_of_lt (Nat.lt_of_lt_of_le (Heap.lt_size e) I.ok.above))).trans e1⟩
  ·by_cases hj:j=i
   ·subst hj
    rw [hi] at e1;cases e1;rw [List.getElem?_set_self hiσ] at e2;cases e2;exact ⟨u,r,.inl ⟨hk,by simp⟩⟩
   ·rw [List.getElem?_set_ne (Ne.symm hj)] at e2
    obtain ⟨u',r',q⟩:=hl j y v' e1 e2 e3;refine ⟨u',r',?_⟩
    rcases q with ⟨k,e⟩ | ⟨k,c,e,z⟩
    ·refine .inl ⟨k,?_⟩
     have:y ≠ x:=fun e=>hj (uh6 hN e1 (e ▸ hi))
     simp [this,e]
    ·exact .inr ⟨k,c,e,z.sameBut hs (cne y c e)⟩
  ·obtain ⟨w',z⟩:=I.cell y c e
   exact ⟨w',z.sameBut hs (cne y c e)⟩
  ·obtain ⟨e,n,ne,nf,d⟩:=I.pin p hp
   exact ⟨(hs.2 p.1 ne).trans e,n,ne,nf,d⟩
 ·have hfn:X.fn x=true:=by
   rcases hf with z | z
   ·exact z
   ·rw [z] at hk;cases hk
  obtain ⟨c,hc⟩:=I.ok.has x (.inl hk);obtain ⟨w',z⟩:=I.cell x c hc;refine wpAny_storeName_cell I.ok.kind hk hc z (fun h' hc' hs=>?_);obtain ⟨oc,hoc,hocd⟩:=id z;refine h { s with heap:=h' } ⟨I.ok,I.os,I.bare,⟨fun b o e n hb hx=>?_,fun b o e n hb hx=>?_,I.base.free,fun b o e hx=>?_,I.base.tups,I.base.frzs,I.base.tbls⟩,⟨m,hn.sameBut hs (Ne.symm (cne x c hc)),fun j y v' e1 e2 e3=>?_⟩,fun y c' e=>?_,I.free,I.freeC,fun p hp=>?_,tracked ⟨oc,hoc,I.freeC x c hc⟩ hs,by simpa using I.len⟩ ⟨c,hs,.inr hc⟩
  ·exact (hs.2 b (Nat.ne_of_lt (Nat.lt_of_lt_of_le (Heap.lt_size e) (I.ok.cab x c hfn hc)))).trans (I.base.keep b o e n hb hx)
  ·obtain ⟨sl,e1⟩:=I.base.slot b o e n hb hx
   exact ⟨sl,(hs.2 b (Nat.ne_of_lt (Nat.lt_of_lt_of_le (Heap.lt_size e) (I.ok.cab x c hfn hc)))).trans e1⟩
  ·obtain ⟨o',e1⟩:=I.base.there b o e hx
   exact ⟨o',(hs.2 b (Nat.ne_of_lt (Nat.lt_of_lt_of_le (Heap.lt_size e) (I.ok.cab x c hfn hc)))).trans e1⟩
  ·by_cases hj:j=i
   ·subst hj
    rw [hi] at e1;cases e1;rw [List.getElem?_set_self hiσ] at e2;cases e2;exact ⟨u,r,.inr ⟨.inl hk,c,hc,hc'⟩⟩
   ·rw [List.getElem?_set_ne (Ne.symm hj)] at e2
    obtain ⟨u',r',q⟩:=hl j y v' e1 e2 e3;refine ⟨u',r',?_⟩
    rcases q with q | ⟨k,c',e,z'⟩
    ·exact .inl q
    ·refine .inr ⟨k,c',e,z'.sameBut hs ?_⟩
     rintro rfl;exact hj (uh6 hN e1 (I.ok.inj _ _ _ e hc ▸ hi))
  ·by_cases hcc:c'=c
   ·subst hcc;exact ⟨_,hc'⟩
   ·obtain ⟨w2,z2⟩:=I.cell y c' e
    exact ⟨w2,z2.sameBut hs hcc⟩
  ·obtain ⟨e,n,ne,nf,d⟩:=I.pin p hp
   refine ⟨(hs.2 p.1 ?_).trans e,n,ne,nf,d⟩;intro q;rw [q,hoc] at e;have q':oc=p.2:=Option.some.inj e;exact d w' (by rw [<- q'];exact hocd)
theorem u76 {M:Model} {A:Around} {E:Value->Shared->Prop} {i:Nat} {x:Str} {v:V} {u:Value} {Q:Unit->Shared->Prop} (I:Inv X pins σ H s) (hN:X.N.Nodup) (hi:X.N[i]?=some x) (hx:Loc X.env.scope x) (r:RelV v u)
  (h:∀ s',Inv X pins (σ.set i (some v)) H s'->Q () s') (hf:X.fn x=true \/ X.env.scope.names.lookup x=some .local:=by first | exact .inl rfl | exact .inr rfl | assumption):wpAny M A (storeName X.env x u) Q E s :=
 uj9 I hN hi hx r (fun s' I' _=>h s' I') hf
theorem Inv.call' {s':Shared} {ch:List Addr} (I:Inv X pins σ H s) (ho:s'.os=s.os) (u:Un (frs X.stack) ch H H' s.heap s'.heap) (hok:HOk X.prog X.w H' s'.heap) (hg:AllBare s'.gens)
  (hch:∀ b ∈ ch,(b ∈ X.ex \/ X.s₀.heap.objs.size<=b) /\ b ≠ X.env.locals /\ (∀ x c,X.env.cells.lookup x=some c->c ≠ b) /\ ∀ p ∈ X.pn++pins,p.1 ≠ b):Inv X pins σ H' s':=by
 obtain ⟨h',g',d',t',o'⟩:=s';have e:o'=s.os:=ho;subst e;exact I.call (g':=g') (t':=t') (d':=d') u hok hg hch
end
abbrev XK:=Value->Option Addr->Hp->Prop
abbrev St:=List (Option V)
abbrev VK:=V->Hp->Prop
abbrev TE:=St->Hp->VK->Prop
abbrev TT:=St->Hp->(Bool->Hp->Prop)->Prop
abbrev TA:=St->Hp->(List V->Hp->Prop)->Prop
structure Ends where
 nx:St->Hp->Prop
 rt:VK
 bk:St->Hp->Prop:=fun _ _=>False
 ct:St->Hp->Prop:=fun _ _=>False
abbrev TS:=Ends->St->Hp->Prop
def EP (X:Cx) (pins:List (Addr × Obj)) (σ:St) (Q:VK) (u:Value) (s':Shared):Prop:=∃ v H',Inv X pins σ H' s' /\ RelV v u /\ Q v H'
def TP (X:Cx) (pins:List (Addr × Obj)) (σ:St) (Q:Bool->Hp->Prop) (b:Bool) (s':Shared):Prop:=∃ H',Inv X pins σ H' s' /\ Q b H'
def AP (X:Cx) (pins:List (Addr × Obj)) (σ:St) (Q:List V->Hp->Prop) (us:List Value) (s':Shared):Prop:=∃ vs H',Inv X pins σ H' s' /\ Vals vs us /\ Q vs H'
def SP (X:Cx) (pins:List (Addr × Obj)) (D:Ends) (f:Flow) (s':Shared):Prop :=
 match f with
 | .next=>∃ σ' H',Inv X pins σ' H' s' /\ D.nx σ' H'
 | .brk=>∃ σ' H',Inv X pins σ' H' s' /\ D.bk σ' H'
 | .cont=>∃ σ' H',Inv X pins σ' H' s' /\ D.ct σ' H'
 | .ret u=>∃ v σ' H',Inv X pins σ' H' s' /\ RelV v u /\ D.rt v H'
def PE (X:Cx) (e:Expr) (t:TE):Prop :=
 ∀ (pins:List (Addr × Obj)) (s:Shared) (σ:St) (H:Hp) (Q:VK),Inv X pins σ H s->t σ H Q->wpAny (model X.prog X.w) X.A (eval e X.env) (EP X pins σ Q) X.xe s
def PT (X:Cx) (e:Expr) (t:TT):Prop :=
 ∀ (pins:List (Addr × Obj)) (s:Shared) (σ:St) (H:Hp) (Q:Bool->Hp->Prop),Inv X pins σ H s->t σ H Q->wpAny (model X.prog X.w) X.A (isTrue e X.env (eval e X.env)) (TP X pins σ Q) X.xe s
def PW (X:Cx) (e:Expr) (t:TT):Prop :=
 ∀ (whole:Sem Value) (pins:List (Addr × Obj)) (s:Shared) (σ:St) (H:Hp) (Q:Bool->Hp->Prop),Inv X pins σ H s->t σ H Q->wpAny (model X.prog X.w) X.A (isTrue e X.env whole) (TP X pins σ Q) X.xe s
theorem PW.pt {X:Cx} {e:Expr} {t:TT} (h:PW X e t):PT X e t:=h _
def PA (X:Cx) (es:List Expr) (t:TA):Prop :=
 ∀ (pos:Pos) (pins:List (Addr × Obj)) (s:Shared) (σ:St) (H:Hp) (Q:List V->Hp->Prop),Inv X pins σ H s->t σ H Q->wpAny (model X.prog X.w) X.A (spliced (backTo pos (starEach es X.env))) (AP X pins σ Q) X.xe s
def PS (X:Cx) (st:Stmt) (t:TS):Prop :=
 ∀ (pins:List (Addr × Obj)) (s:Shared) (σ:St) (H:Hp) (D:Ends),Inv X pins σ H s->t D σ H->wpAny (model X.prog X.w) X.A (exec st X.env) (SP X pins D) X.xe s
def PSs (X:Cx) (st:List Stmt) (t:TS):Prop :=
 ∀ (pins:List (Addr × Obj)) (s:Shared) (σ:St) (H:Hp) (D:Ends),Inv X pins σ H s->t D σ H->wpAny (model X.prog X.w) X.A (execs st X.env) (SP X pins D) X.xe s
theorem thn {α:Type} {t:Sem α} {Q Q':α->Shared->Prop} {M:Model} {A:Around} {E:Value->Shared->Prop} {s:Shared} (h:wpAny M A t Q E s) (hQ:∀ a s,Q a s->Q' a s):wpAny M A t Q' E s:=wpAny_mono h hQ fun _ _ x=>x
section
variable {X:Cx}
def tVar (i:Nat):TE:=fun σ H Q=>∃ v,σ[i]?=some (some v) /\ Q v H
def tC (v:V):TE:=fun _ H Q=>Q v H
theorem vl7 {i:Nat} {x:Str} {pos:Pos} (hN:X.N[i]?=some x) (hv:Vis X.env.scope x) (hd:(x == ("__debug__" : Str))=false:=by decide) (hcd:(x == ("__classdict__" : Str))=false:=by decide):PE X (.Name x pos) (tVar i):=by
 intro pins s σ H Q I h;obtain ⟨v,e,h⟩:=h;obtain ⟨m,hn,hl⟩:=I.loc;obtain ⟨u,r,l⟩:=hl i x v hN e hv;have fin:EP X pins σ Q u s:=⟨v,H,I,r,h⟩
 rcases l with ⟨hk,hm⟩ | ⟨hk,c,hc,hcell⟩
 ·exact wpAny_Name (wpAny_loadName_local I.ok.kind hk hn hm fin) hd
 ·rcases hk with hk | hk
  ·exact wpAny_Name (wpAny_loadName_cell I.ok.kind hk hc hcell fin) hd
  ·exact wpAny_Name (wpAny_loadName_free I.ok.kind hk hc hcell fin hcd) hd
theorem w80 {i j pos}:PE X (.Constant (.int i) j pos) (tC (.int i)):=fun _ _ _ H _ I h=>wpAny_Constant_int ⟨.int i,H,I.tok _,⟨_,rfl⟩,h⟩
theorem wj5 {b j pos}:PE X (.Constant (.bool b) j pos) (tC (.bl b)):=fun _ _ _ H _ I h=>Constant_bool ⟨.bl b,H,I,rfl,h⟩
theorem w78 {j pos}:PE X (.Constant .none j pos) (tC .non):=fun _ _ _ H _ I h=>Constant_none ⟨.non,H,I,rfl,h⟩
theorem w73 {x j pos}:PE X (.Constant (.str x) j pos) (tC (.str x)):=fun _ _ _ H _ I h=>Calls.Constant_str ⟨.str x,H,I.tok _,⟨_,rfl⟩,h⟩
def Gl (X:Cx) (x:Str):Prop:=X.env.kindOf x=some .globalImplicit
theorem ua4 {E:Value->Shared->Prop} {pins:List (Addr × Obj)} {s:Shared} {σ:St} {H:Hp} {x:Str} {u:Value} {pos:Pos} {Q:Value->Shared->Prop} (I:Inv X pins σ H s) (hg:Gl X x) (hm:X.mg x=some u) (h:Q u s)
  (hd:(x == ("__debug__" : Str))=false:=by decide):wpAny (model X.prog X.w) X.A (eval (.Name x pos) X.env) Q E s :=
 Calls.Name_function_global I.ok.kind hg (Calls.loadGlobal_global (by rw [I.ok.glob];exact I.mod.glob.keeps I.bk) hm h) hd
theorem ub0 {E:Value->Shared->Prop} {pins:List (Addr × Obj)} {s:Shared} {σ:St} {H:Hp} {x:Str} {u:Value} {pos:Pos} {Q:Value->Shared->Prop} (I:Inv X pins σ H s) (hg:Gl X x) (hm:X.mg x=none) (hv:bootBuiltins x=some u) (h:Q u s)
  (hn:x ≠ "__name__" := by decide) (hd:(x == ("__debug__" : Str))=false:=by decide):wpAny (model X.prog X.w) X.A (eval (.Name x pos) X.env) Q E s:=by
 obtain ⟨mb,h1,h2⟩:=I.mod.blt;exact Calls.Name_function_global I.ok.kind hg (Calls.loadGlobal_builtin (by rw [I.ok.glob];exact I.mod.glob.keeps I.bk) hm (by rw [I.ok.blt];exact h1.keeps I.bk) ((h2 x hn).trans hv) h) hd
theorem vu9 {x:Str} {v:V} {u:Value} {pos:Pos} (hg:Gl X x) (hm:X.mg x=some u) (r:RelV v u) (hd:(x == ("__debug__" : Str))=false:=by decide):PE X (.Name x pos) (tC v) :=
 fun _ _ _ H _ I h=>ua4 I hg hm ⟨v,H,I,r,h⟩ hd
theorem vv2 {x:Str} {v:V} {u:Value} {pos:Pos} (hg:Gl X x) (hm:X.mg x=none) (hv:bootBuiltins x=some u) (r:RelV v u) (hn:x ≠ "__name__" := by decide) (hd:(x == ("__debug__" : Str))=false:=by decide):PE X (.Name x pos) (tC v) :=
 fun _ _ _ H _ I h=>ub0 I hg hm hv ⟨v,H,I,r,h⟩ hn hd
variable {a b:Expr} {ta tb:TE} {pos:Pos}
def tB (t:TE):TT:=fun σ H Q=>t σ H fun x H1=>∃ c,x=.bl c /\ Q c H1
theorem w61 {e:Expr} {t:TE} (h:PE X e t) (he:∀ whole,isTrue e X.env whole=(do let v <- whole;standAt e.pos;holding [v] (truthy v)):=by intro _;rfl):PT X e (tB t):=by
 intro pins s σ H Q I hw
 (refine isTrue_plain (thn (h pins s σ H _ I hw) ?_) (he _);rintro v s1 ⟨x,H1,I1,r1,q1⟩)
 obtain ⟨d,rfl,q⟩:=q1;cases r1;exact wpAny_truthy_bool ⟨H1,I1,q⟩
variable {tA tB':TT} {rest:List Expr}
def tAnd (t u:TT):TT:=fun σ H Q=>t σ H fun c H1=>if c=true then u σ H1 Q else Q false H1
def tOr (t u:TT):TT:=fun σ H Q=>t σ H fun c H1=>if c=true then Q true H1 else u σ H1 Q
def tNot (t:TT):TT:=fun σ H Q=>t σ H fun c H1=>Q (!c) H1
theorem vt1 (ha:PT X a tA):PW X (.BoolOp .And [a] pos) tA:=by
 intro wh pins s σ H Q I h;refine isTrue_and (thn (ha pins s σ H Q I h) fun c s1 e=>?_);cases c with
 | true=>exact isTrue_and_nil e
 | false=>exact e
theorem w59 (ha:PT X a tA):PW X (.BoolOp .Or [a] pos) tA:=by
 intro wh pins s σ H Q I h;refine isTrue_or (thn (ha pins s σ H Q I h) fun c s1 e=>?_);cases c with
 | false=>exact isTrue_or_nil e
 | true=>exact e
theorem w60 (ha:PT X a tA) (hb:PW X (.BoolOp .And (b::rest) pos) tB'):PW X (.BoolOp .And (a::b::rest) pos) (tAnd tA tB'):=by
 intro wh pins s σ H Q I h
 (refine isTrue_and (thn (ha pins s σ H _ I h) ?_);rintro c s1 ⟨H1,I1,q1⟩)
 cases c with
 | true=>exact hb wh pins s1 σ H1 Q I1 q1
 | false=>exact ⟨H1,I1,q1⟩
theorem wi8 (ha:PT X a tA) (hb:PW X (.BoolOp .Or (b::rest) pos) tB'):PW X (.BoolOp .Or (a::b::rest) pos) (tOr tA tB'):=by
 intro wh pins s σ H Q I h
 (refine isTrue_or (thn (ha pins s σ H _ I h) ?_);rintro c s1 ⟨H1,I1,q1⟩)
 cases c with
 | true=>exact ⟨H1,I1,q1⟩
 | false=>exact hb wh pins s1 σ H1 Q I1 q1
theorem w62 (ha:PT X a tA):PT X (.UnaryOp .Not a pos) (tNot tA):=by
 intro pins s σ H Q I h;exact isTrue_not (ha pins s σ H (fun c H1=>Q (!c) H1) I h)
def w47 (ta tb:TE):TE:=fun σ H Q=>ta σ H fun x H1=>∃ c,x=.bl c /\ if c=true then tb σ H1 Q else Q (.bl false) H1
def tOrV (ta tb:TE):TE:=fun σ H Q=>ta σ H fun x H1=>∃ c,x=.bl c /\ if c=true then Q (.bl true) H1 else tb σ H1 Q
def w44 (ta:TE):TE:=fun σ H Q=>ta σ H fun x H1=>∃ c,x=.bl c /\ Q (.bl (!c)) H1
theorem w76 {op} {t:TE} (h:PE X a t):PE X (.BoolOp op [a] pos) t:=fun pins s σ H Q I hw=>BoolOp_one (h pins s σ H Q I hw)
theorem w82 (ha:PE X a ta) (hb:PE X (.BoolOp .And (b::rest) pos) tb):PE X (.BoolOp .And (a::b::rest) pos) (w47 ta tb):=by
 intro pins s σ H Q I h
 (refine BoolOp_and (thn (ha pins s σ H _ I h) ?_);rintro v s1 ⟨x,H1,I1,r1,q1⟩)
 obtain ⟨c,rfl,q1⟩:=q1;cases r1;refine wpAny_truthy_bool ?_;cases c with
 | true=>exact hb pins s1 σ H1 Q I1 q1
 | false=>exact ⟨.bl false,H1,I1,rfl,q1⟩
theorem wj2 (ha:PE X a ta) (hb:PE X (.BoolOp .Or (b::rest) pos) tb):PE X (.BoolOp .Or (a::b::rest) pos) (tOrV ta tb):=by
 intro pins s σ H Q I h
 (refine BoolOp_or (thn (ha pins s σ H _ I h) ?_);rintro v s1 ⟨x,H1,I1,r1,q1⟩)
 obtain ⟨c,rfl,q1⟩:=q1;cases r1;refine wpAny_truthy_bool ?_;cases c with
 | false=>exact hb pins s1 σ H1 Q I1 q1
 | true=>exact ⟨.bl true,H1,I1,rfl,q1⟩
theorem w77 (ha:PE X a ta):PE X (.UnaryOp .Not a pos) (w44 ta):=by
 intro pins s σ H Q I h
 (refine UnaryOp_ (thn (ha pins s σ H _ I h) ?_);rintro v s1 ⟨x,H1,I1,r1,q1⟩)
 obtain ⟨c,rfl,q1⟩:=q1;cases r1;exact not_of (wpAny_truthy_bool ⟨.bl (!c),H1,I1,rfl,q1⟩)
def tIf (t:TT) (ta tb:TE):TE:=fun σ H Q=>t σ H fun c H1=>if c=true then ta σ H1 Q else tb σ H1 Q
theorem ve0 {c:Expr} (hc:PT X c tA) (ha:PE X a ta) (hb:PE X b tb):PE X (.IfExp c a b pos) (tIf tA ta tb):=by
 intro pins s σ H Q I h
 (refine wpAny_IfExp (thn (hc pins s σ H _ I h) ?_);rintro d s1 ⟨H1,I1,q1⟩)
 cases d with
 | true=>exact ha pins s1 σ H1 Q I1 q1
 | false=>exact hb pins s1 σ H1 Q I1 q1
end
def SqL (K:W.Frag) (H:Hp) (a:Addr) (xs:List V):Prop :=
 Rd H a (.lst xs) \/
  ∃ (o:Obj) (its:Array Value) (n:Nat),K.lookup a=some o /\ o.cls=.type "list" /\ o.dict=none /\ o.data=.seq its n /\ its.size<=sizeLine /\ Vals xs its.toList
def SqT (K:W.Frag) (H:Hp) (a:Addr) (xs:List V):Prop :=
 Rd H a (.tup xs) \/
  ∃ (o:Obj) (its:Array Value) (n:Nat),K.lookup a=some o /\ o.cls=.type "tuple" /\ o.data=.seq its n /\ its.size<=sizeLine /\ Vals xs its.toList /\ o.dict=none
def absV:Value->Option V
 | .none=>some .non
 | .bool b=>some (.bl b)
 | .int i _=>some (.int i)
 | .str x _=>some (.str x)
 | .bytes b _=>some (.byt b)
 | .float b _=>some (.flt b)
 | .ref a=>some (.ref a)
 | .type n=>some (.ty n)
 | _=>none
theorem RelV.abs {x:V} {u:Value} (r:RelV x u):absV u=some x:=by
 cases x with
 | non=>cases r;rfl
 | bl _=>cases r;rfl
 | int _=>obtain ⟨t,rfl⟩:=r;rfl
 | str _=>obtain ⟨t,rfl⟩:=r;rfl
 | byt _=>obtain ⟨t,rfl⟩:=r;rfl
 | flt _=>obtain ⟨t,rfl⟩:=r;rfl
 | ref _=>cases r;rfl
 | ty _=>cases r;rfl
theorem RelV.inj {x y:V} {u:Value} (r:RelV x u) (q:RelV y u):x=y:=Option.some.inj (r.abs.symm.trans q.abs)
theorem Vals.inj:∀ {xs ys:List V} {us:List Value},Vals xs us->Vals ys us->xs=ys
 | _,_,_,.nil,.nil=>rfl
 | _,_,_,.cons r t,.cons r' t'=>by rw [r.inj r',Vals.inj t t']
section
variable {X:Cx} {pins:List (Addr × Obj)} {σ:St} {H:Hp} {s:Shared} {a:Addr} {xs ys:List V}
theorem SqL.of {K:W.Frag} (h:H a=some (.lst xs)):SqL K H a xs:=.inl (.inl h)
theorem SqT.of {K:W.Frag} (h:H a=some (.tup xs)):SqT K H a xs:=.inl (.inl h)
theorem Inv.list (I:Inv X pins σ H s) (h:SqL X.K H a xs):∃ its:List Value,Vals xs its /\ PlainL s.heap a its.toArray /\ xs.length<=sizeLine:=by
 rcases h with h | ⟨o,its,n,hk,hc,hd,hs,hz,r⟩
 ·obtain ⟨z,its,n,r,e⟩:=h.ok I.hok
  exact ⟨its,r,⟨_,n,e,rfl,rfl,rfl⟩,z⟩
 ·refine ⟨its.toList,r,⟨o,n,I.kIn a o hk,hc,hd,by simpa using hs⟩,?_⟩
  have e:=r.length;simp only [Array.length_toList] at e;omega
theorem Inv.tuple (I:Inv X pins σ H s) (h:SqT X.K H a xs):∃ its:List Value,Vals xs its /\ IsTup s.heap a its.toArray /\ xs.length<=sizeLine:=by
 rcases h with h | ⟨o,its,n,hk,hc,hs,hz,r,_⟩
 ·obtain ⟨z,its,r,p⟩:=h.ok I.hok
  exact ⟨its,r,p.tup,z⟩
 ·refine ⟨its.toList,r,⟨o,I.kIn a o hk,hc,n,by simpa using hs⟩,?_⟩
  have e:=r.length;simp only [Array.length_toList] at e;omega
theorem Inv.list_inj (I:Inv X pins σ H s) (h:SqL X.K H a xs) (h':SqL X.K H a ys):xs=ys:=by
 obtain ⟨its,r,⟨o,n,e,_,_,d⟩,_⟩:=I.list h;obtain ⟨its',r',⟨o',n',e',_,_,d'⟩,_⟩:=I.list h';rw [e] at e';cases e';rw [d] at d';injection d' with d1 _
 have:its=its':=by simpa using congrArg Array.toList d1
 subst this;exact r.inj r'
theorem Inv.tuple_inj (I:Inv X pins σ H s) (h:SqT X.K H a xs) (h':SqT X.K H a ys):xs=ys:=by
 obtain ⟨its,r,⟨o,e,_,n,d⟩,_⟩:=I.tuple h;obtain ⟨its',r',⟨o',e',_,n',d'⟩,_⟩:=I.tuple h';rw [e] at e';cases e';rw [d] at d';injection d' with d1 _
 have:its=its':=by simpa using congrArg Array.toList d1
 subst this;exact r.inj r'
end
abbrev Cx.wish (X:Cx) (E:Value->Shared->Prop):Cx:={ X with xe:=E }
abbrev Cx.nox (X:Cx):Cx:=X.wish fun _ _=>False
theorem Cx.Ok.wish {X:Cx} (ok:X.Ok) (E:Value->Shared->Prop):(X.wish E).Ok :=
 ⟨ok.mod,ok.kind,ok.glob,ok.blt,ok.above,ok.inj,ok.has,ok.cab,ok.hd,ok.frames,ok.stk,ok.exf,ok.bs,ok.bsz,ok.noex,ok.exfs,ok.funs,ok.frf⟩
theorem Cx.Ok.unwish {X:Cx} {E:Value->Shared->Prop} (ok:(X.wish E).Ok):X.Ok :=
 ⟨ok.mod,ok.kind,ok.glob,ok.blt,ok.above,ok.inj,ok.has,ok.cab,ok.hd,ok.frames,ok.stk,ok.exf,ok.bs,ok.bsz,ok.noex,ok.exfs,ok.funs,ok.frf⟩
section
variable {X:Cx} {pins:List (Addr × Obj)} {σ:St} {H:Hp} {s:Shared} {E:Value->Shared->Prop}
theorem Inv.wish (I:Inv X pins σ H s) (E:Value->Shared->Prop):Inv (X.wish E) pins σ H s:=⟨I.ok.wish E,I.os,I.bare,I.base,I.loc,I.cell,I.free,I.freeC,I.pin,I.hok,I.len⟩
theorem Inv.unwish (I:Inv (X.wish E) pins σ H s):Inv X pins σ H s:=⟨I.ok.unwish,I.os,I.bare,I.base,I.loc,I.cell,I.free,I.freeC,I.pin,I.hok,I.len⟩
theorem SP.unwish {D:Ends} {f:Flow} {s':Shared} (h:SP (X.wish E) pins D f s'):SP X pins D f s':=by
 cases f with
 | next=>obtain ⟨σ',H',I,q⟩:=h;exact ⟨σ',H',I.unwish,q⟩
 | brk=>obtain ⟨σ',H',I,q⟩:=h;exact ⟨σ',H',I.unwish,q⟩
 | cont=>obtain ⟨σ',H',I,q⟩:=h;exact ⟨σ',H',I.unwish,q⟩
 | ret u=>obtain ⟨v,σ',H',I,r,q⟩:=h;exact ⟨v,σ',H',I.unwish,r,q⟩
theorem PE.nox {e:Expr} {t:TE} (h:PE X.nox e t):PE X e t:=fun pins s σ H Q I hw =>
 wpAny_mono (h pins s σ H Q (I.wish _) hw) (fun _ _ ⟨v,H',I',r,q⟩=>⟨v,H',I'.unwish,r,q⟩) fun _ _ z=>False.elim z
theorem PT.nox {e:Expr} {t:TT} (h:PT X.nox e t):PT X e t:=fun pins s σ H Q I hw =>
 wpAny_mono (h pins s σ H Q (I.wish _) hw) (fun _ _ ⟨H',I',q⟩=>⟨H',I'.unwish,q⟩) fun _ _ z=>False.elim z
theorem PSs.nox {st:List Stmt} {t:TS} (h:PSs X.nox st t):PSs X st t:=fun pins s σ H D I hw =>
 wpAny_mono (h pins s σ H D (I.wish _) hw) (fun _ _ q=>q.unwish) fun _ _ z=>False.elim z
end
section
variable {X:Cx} {st:Stmt} {rest:List Stmt} {t u:TS} {e:Expr} {te:TE} {pos:Pos}
def w45:TS:=fun D σ H=>D.nx σ H
def tSeq (t u:TS):TS:=fun D σ H=>t { D with nx:=u D } σ H
theorem vt3:PSs X [] w45:=fun _ _ σ H _ I h=>wpAny_execs_nil ⟨σ,H,I,h⟩
theorem ur6 (h1:PS X st t) (h2:PSs X rest u):PSs X (st::rest) (tSeq t u):=by
 intro pins s σ H D I h;refine wpAny_execs_cons (thn (h1 pins s σ H { D with nx:=u D } I h) fun f s1 q=>?_);cases f with
 | next =>
  obtain ⟨σ',H',I',q⟩:=q;exact h2 pins s1 σ' H' D I' q
 | ret v=>exact q
 | brk=>exact q
 | cont=>exact q
theorem v07 (h1:PS X st t):PSs X [st] t:=by
 intro pins s σ H D I h;refine wpAny_execs_cons (thn (h1 pins s σ H D I h) fun f s1 q=>?_);cases f with
 | next=>exact wpAny_execs_nil q
 | ret v=>exact q
 | brk=>exact q
 | cont=>exact q
theorem Inv.quiet {pins:List (Addr × Obj)} {σ:St} {H:Hp} {s:Shared} (I:Inv X pins σ H s):interactive X.env=false:=by simp [interactive,I.ok.kind]
def vq5 (te:TE):TS:=fun D σ H=>te σ H fun _ H1=>D.nx σ H1
theorem v09 (he:PE X e te) (hs:swapsWith e none pos.line X.env=pure false:=by rfl):PS X (.Expr e pos) (vq5 te):=by
 intro pins s σ H D I h
 (refine wpAny_Expr_any (thn (he pins s σ H _ I h) ?_) I.quiet hs;rintro v s1 ⟨x,H1,I1,r1,q1⟩;exact ⟨σ,H1,I1,q1⟩)
def tRet (te:TE):TS:=fun D σ H=>te σ H D.rt
theorem w64 (he:PE X e te):PS X (.Return (some e) pos) (tRet te):=by
 intro pins s σ H D I h
 (refine wpAny_Return_some (thn (he pins s σ H _ I h) ?_);rintro v s1 ⟨x,H1,I1,r1,q1⟩;exact ⟨x,σ,H1,I1,r1,q1⟩)
def tIfS (c:TT) (t u:TS):TS:=fun D σ H=>c σ H fun b H1=>if b=true then t D σ H1 else u D σ H1
theorem wi9 {c:Expr} {a b:List Stmt} {tc:TT} (hc:PT X c tc) (ha:PSs X a t) (hb:PSs X b u):PS X (.If c a b pos) (tIfS tc t u):=by
 intro pins s σ H D I h
 (refine wpAny_If (thn (hc pins s σ H _ I h) ?_);rintro d s1 ⟨H1,I1,q1⟩)
 cases d with
 | true=>exact ha pins s1 σ H1 D I1 q1
 | false=>exact hb pins s1 σ H1 D I1 q1
end
abbrev TG:=V->St->Hp->(St->Hp->Prop)->Prop
abbrev TGs:=List V->St->Hp->(St->Hp->Prop)->Prop
def PG (X:Cx) (target:Expr) (t:TG):Prop :=
 ∀ (pins:List (Addr × Obj)) (s:Shared) (σ:St) (H:Hp) (v:V) (u:Value) (Q:St->Hp->Prop),Inv X pins σ H s->RelV v u->t v σ H Q ->
  wpAny (model X.prog X.w) X.A (assign target X.env u) (fun _ s'=>∃ σ' H',Inv X pins σ' H' s' /\ Q σ' H') X.xe s
def PGs (X:Cx) (ts:List Expr) (t:TGs):Prop :=
 ∀ (pins:List (Addr × Obj)) (s:Shared) (σ:St) (H:Hp) (vs:List V) (us:List Value) (Q:St->Hp->Prop),Inv X pins σ H s->Vals vs us->t vs σ H Q ->
  wpAny (model X.prog X.w) X.A (assignInOrder ((assignEach ts X.env).map (·.2)) us) (fun _ s'=>∃ σ' H',Inv X pins σ' H' s' /\ Q σ' H') X.xe s
abbrev TSet:=V->V->V->Hp->(Hp->Prop)->Prop
def PSet (X:Cx) (t:TSet):Prop :=
 ∀ (pins:List (Addr × Obj)) (s:Shared) (σ:St) (H:Hp) (o i v:V) (ov iv u:Value) (Q:Hp->Prop),Inv X pins σ H s->RelV o ov->RelV i iv->RelV v u->t o i v H Q ->
  wpAny (model X.prog X.w) X.A (setItem ov iv u) (fun _ s'=>∃ H',Inv X pins σ H' s' /\ Q H') X.xe s
section
variable {X:Cx} {pos:Pos}
def ux0 (i:Nat):TG:=fun v σ H Q=>Q (σ.set i (some v)) H
theorem vu1 {i:Nat} {x:Str} (hN:X.N.Nodup) (hi:X.N[i]?=some x) (hx:Loc X.env.scope x) (hf:X.fn x=true \/ X.env.scope.names.lookup x=some .local:=by first | exact .inl rfl | exact .inr rfl | assumption):PG X (.Name x pos) (ux0 i):=by
 intro pins s σ H v u Q I r h;exact wpAny_assign_Name (u76 I hN hi hx r (fun s' I'=>⟨_,H,I',h⟩) hf)
def gNil:TGs:=fun vs σ H Q=>vs=[] /\ Q σ H
def wf2 (t:TG) (u:TGs):TGs:=fun vs σ H Q=>∃ v r,vs=v::r /\ t v σ H fun σ' H'=>u r σ' H' Q
theorem vu0:PGs X [] gNil:=by
 intro pins s σ H vs us Q I r h;obtain ⟨e,h⟩:=h;subst e;cases r;exact assignInOrder_nil ⟨σ,H,I,h⟩
theorem vd7 {e:Expr} {es:List Expr} {t:TG} {u:TGs} (h1:PG X e t) (h2:PGs X es u)
  (hs:(assignEach (e::es) X.env).map (·.2)=assign e X.env::(assignEach es X.env).map (·.2):=by rfl):PGs X (e::es) (wf2 t u):=by
 intro pins s σ H vs us Q I r h;obtain ⟨v,vr,e1,h⟩:=h;subst e1;cases r with
 | cons r rr =>
  rw [hs]
  (refine assignInOrder_cons (thn (h1 pins s σ H _ _ _ I r h) ?_);rintro _ s1 ⟨σ1,H1,I1,q1⟩)
  exact h2 pins s1 σ1 H1 _ _ Q I1 rr q1
def gTup (K:W.Frag) (n:Nat) (t:TGs):TG:=fun v σ H Q=>∃ a xs,v=.ref a /\ SqT K H a xs /\ xs.length=n /\ t xs σ H Q
theorem w70 {es:List Expr} {k:Nat} {t:TGs} {n:Nat} (hc:X.calm=true) (h:PGs X es t)
  (hn:(assignEach es X.env).length=n:=by rfl) (hst:(assignEach es X.env).findIdx? (·.1)=none:=by rfl):PG X (.Tuple es k pos) (gTup X.K n t):=by
 intro pins s σ H v u Q I r hw;obtain ⟨a,xs,e1,hq,hl,hw⟩:=hw;subst e1;cases r;obtain ⟨its,rv,ht,hz⟩:=I.tuple hq;refine assign_Tuple_tuple (I.ok.hd hc) ht (by simp [hn,<- hl,rv.length]) hst fun h' hx=>?_
 have I1:Inv X pins σ H { s with heap:=h' }:=I.kept (t':=s.toks) fun b o e=>hx b o (Nat.ne_of_lt (Heap.lt_size e)) e
 exact h pins _ σ H xs _ Q I1 (by simpa using rv) hw
def gSub (to ti:TE) (t:TSet):TG:=fun v σ H Q=>to σ H fun o H1=>ti σ H1 fun i H2=>t o i v H2 fun H3=>Q σ H3
theorem w71 {o i:Expr} {to ti:TE} {t:TSet} (ho:PE X o to) (hi:PE X i ti) (hs:PSet X t)
  (ha:∀ v,assign (.Subscript o i pos) X.env v=(do
   let ov <- holding [v] (eval o X.env)
   let iv <- holding [v,ov] (eval i X.env)
   standAt pos
   holding [v,ov,iv] (setItem ov iv v)
   release [v,ov,iv] []):=by intro _;rfl):PG X (.Subscript o i pos) (gSub to ti t):=by
 intro pins s σ H v u Q I r h;rw [ha]
 (refine wpAny_bind (wpAny_holding (thn (ho pins s σ H _ I h) ?_));rintro ov s1 ⟨x,H1,I1,r1,q1⟩)
 (refine wpAny_bind (wpAny_holding (thn (hi pins s1 σ H1 _ I1 q1) ?_));rintro iv s2 ⟨y,H2,I2,r2,q2⟩)
 (refine wpAny_bind (wpAny_standAt (wpAny_bind (wpAny_holding (thn (hs pins s2 σ H2 x y v ov iv u _ I2 r1 r2 r q2) ?_))));rintro _ s3 ⟨H3,I3,q3⟩)
 exact wpAny_release ⟨σ,H3,I3,q3⟩
def tAsg (te:TE) (g:TG):TS:=fun D σ H=>te σ H fun x H1=>g x σ H1 D.nx
theorem w66 {tg e:Expr} {te:TE} {g:TG} (he:PE X e te) (hg:PG X tg g) (hs:swapsWithSole [tg] e pos.line X.env=pure false:=by rfl) (hw:swappedStores [tg] e X.env=pure none:=by rfl)
  (h1:(assignEach [tg] X.env).map (·.2)=[assign tg X.env]:=by rfl):PS X (.Assign [tg] e pos) (tAsg te g):=by
 intro pins s σ H D I h
 (refine wpAny_Assign_stores (thn (he pins s σ H _ I h) ?_) hs hw;rintro v s1 ⟨x,H1,I1,r1,q1⟩)
 rw [h1];exact thn (hg pins s1 σ H1 x v _ I1 r1 q1) fun _ s2 q=>q
theorem w63 {i:Nat} {x:Str} {e:Expr} {te:TE} {pos':Pos} (hN:X.N.Nodup) (hi:X.N[i]?=some x) (hx:Loc X.env.scope x) (he:PE X e te) (hs:swapsWith e (some (.Name x pos')) pos.line X.env=pure false:=by rfl) (hf:X.fn x=true \/ X.env.scope.names.lookup x=some .local:=by first | exact .inl rfl | exact .inr rfl | assumption) :
  PS X (.Assign [.Name x pos'] e pos) (tAsg te (ux0 i)):=by
 intro pins s σ H D I h
 (refine wpAny_Assign_Name (thn (he pins s σ H _ I h) ?_) hs;rintro v s1 ⟨y,H1,I1,r1,q1⟩)
 exact u76 I1 hN hi hx r1 (fun s2 I2=>⟨_,H1,I2,q1⟩) hf
end
structure It where
 go:Nat->Hp->Prop
 yld:Nat->Hp->V->Hp->Prop
 stop:Nat->Hp->Prop
def FpOk (X:Cx) (pins:List (Addr × Obj)) (H:Hp) (b:Addr):Prop :=
 H b=none /\ b ≠ X.env.locals /\ b ∉ X.fs /\ (b ∈ X.ex \/ X.s₀.heap.objs.size<=b) /\ (∀ x c,X.env.cells.lookup x=some c->c ≠ b) /\ ∀ p ∈ X.pn++pins,p.1 ≠ b
theorem Inv.fpOk {X:Cx} {pins:List (Addr × Obj)} {σ:St} {H H':Hp} {s:Shared} {b:Addr} (I:Inv X pins σ H s) (hb:s.heap.objs.size<=b) (hn:H' b=none):FpOk X pins H' b:=by
 refine ⟨hn,Nat.ne_of_gt (Nat.lt_of_lt_of_le I.lt hb),I.nofs hb,.inr (Nat.le_trans I.sz hb),fun x c e z=>?_,fun p hp z=>?_⟩
 ·obtain ⟨v,q⟩:=I.cell x c e
  exact absurd (Nat.lt_of_lt_of_le q.lt (by rw [z];exact hb)) (Nat.lt_irrefl _)
 ·exact absurd (Nat.lt_of_lt_of_le (Heap.lt_size (I.pin p hp).1) (by rw [z];exact hb)) (Nat.lt_irrefl _)
structure Turn (P:Program) (w:World) (K:W.Frag) (tg:Expr) (J:It) (fp:List Addr) (it:Addr) (tn:Nat->Heap->Prop):Prop where
 mem:it ∈ fp
 obj:∀ i h,tn i h->∀ b ∈ fp,∃ o,h.get? b=some o /\ ∀ v,o.data ≠ .cell v
 keep:∀ i h h',tn i h->(∀ b ∈ fp,∀ o,h.get? b=some o->h'.get? b=some o)->tn i h'
 item:∀ (X:Cx),X.prog=P->X.w=w->X.K=K->X.calm=true->∀ (i:Nat) (pins:List (Addr × Obj)) (s:Shared) (σ:St) (H:Hp) (E:Value->Shared->Prop),Inv X pins σ H s->(∀ b ∈ fp,FpOk X pins H b)->tn i s.heap->J.go i H ->
  wpAny (model P w) X.A (pyNext (.ref it)) (fun r s1=>∃ u,r=some u /\
   wpAny (model P w) X.A (letOwnedTupleGo tg (.ref it) u) (fun _ s2=>∃ x H',Inv X pins σ H' s2 /\ RelV x u /\ J.yld i H x H' /\ tn (i+1) s2.heap /\ ∀ b ∈ fp,H' b=none) E s1) E s
 done:∀ (X:Cx),X.prog=P->X.w=w->X.K=K->X.calm=true->∀ (i:Nat) (pins:List (Addr × Obj)) (s:Shared) (σ:St) (H:Hp) (E:Value->Shared->Prop),Inv X pins σ H s->(∀ b ∈ fp,FpOk X pins H b)->tn i s.heap->J.stop i H ->
  wpAny (model P w) X.A (pyNext (.ref it)) (fun r s1=>r=none /\ Inv X pins σ H s1) E s
 self:∀ (A:Around) (i:Nat) (s:Shared) (Q:Value->Shared->Prop) (E:Value->Shared->Prop),tn i s.heap->Q (.ref it) s->wpAny (model P w) A (pyIter (.ref it)) Q E s
abbrev TI:=St->Hp->(It->Hp->Prop)->Prop
def PIE (X:Cx) (pins:List (Addr × Obj)) (σ:St) (tg:Expr) (R:It->Hp->Prop) (itv:Value) (s2:Shared):Prop :=
 ∃ (it:Addr) (fp:List Addr) (tn:Nat->Heap->Prop) (J:It) (H':Hp),itv=.ref it /\ Inv X pins σ H' s2 /\ Turn X.prog X.w X.K tg J fp it tn /\ tn 0 s2.heap /\ (∀ b ∈ fp,FpOk X pins H' b) /\ R J H'
def PI (X:Cx) (tg iter:Expr) (wi:TI):Prop :=
 ∀ (pins:List (Addr × Obj)) (s:Shared) (σ:St) (H:Hp) (R:It->Hp->Prop),Inv X pins σ H s->wi σ H R ->
  wpAny (model X.prog X.w) X.A (eval iter X.env) (fun v s1=>wpAny (model X.prog X.w) X.A (pyIter v) (PIE X pins σ tg R) X.xe s1) X.xe s
theorem uw7 {M : Model} {A : Around} {E : Value -> Shared -> Prop} {s : Shared} {tg : Expr} {it : Addr} {u : Value} {o : Obj} {n : String} {vs : Array Value} {Q : Unit -> Shared -> Prop} (ho : s.heap.get? it = some o) (hc : o.cls = .type n) (hd : o.data = .fields vs)
    (hn:["enumerate", "zip", "dict_itemiterator", "dict_reverseitemiterator", "odict_iterator", "itertools.zip_longest", "itertools.pairwise"].contains n=false) (hQ:Q () s):wpAny M A (letOwnedTupleGo tg (.ref it) u) Q E s:=by
  unfold letOwnedTupleGo;cases tg <;> first
    | exact wpAny_pure hQ
    | (cases u <;> first
        | exact wpAny_pure hQ
        | (refine wpAny_bind (wpAny_load ho ?_)
           rw [hc,hd]
           show wpAny M A (if (["enumerate", "zip", "dict_itemiterator", "dict_reverseitemiterator", "odict_iterator", "itertools.zip_longest", "itertools.pairwise"].contains n && vs[0]? == some (rawInt _))=true then _ else _) Q E s
           rw [if_neg (by intro h;rw [hn,Bool.false_and] at h;cases h)];exact wpAny_pure hQ))
def Itl (K:W.Frag) (a:Addr):It :=
 ⟨fun i H=>∃ xs x,SqL K H a xs /\ xs[i]?=some x,fun i H x H'=>H'=H /\ ∀ xs,SqL K H a xs->xs[i]?=some x,fun i H=>∃ xs,SqL K H a xs /\ xs.length<=i⟩
def Itt (K:W.Frag) (a:Addr):It :=
 ⟨fun i H=>∃ xs x,SqT K H a xs /\ xs[i]?=some x,fun i H x H'=>H'=H /\ ∀ xs,SqT K H a xs->xs[i]?=some x,fun i H=>∃ xs,SqT K H a xs /\ xs.length<=i⟩
def Itr (lo:Int) (n:Nat):It:=⟨fun i _=>i < n,fun i H x H'=>H'=H /\ x=.int (lo+i),fun i _=>n<=i⟩
theorem uy8 {P:Program} {w:World} {K:W.Frag} {tg:Expr} (a it:Addr):Turn P w K tg (Itl K a) [it] it (fun i h=>h.IsListIter it a i) where
 mem:=by simp
 obj:=fun i h st b hb=>by
  have e:b=it:=by simpa using hb
  subst e;obtain ⟨o,e,c,d⟩:=st;exact ⟨o,e,fun v z=>by rw [d] at z;cases z⟩
 keep:=fun i h h' st k=>st.at fun o e=>k it (by simp) o e
 item:=by
  intro X hP hw hK hc i pins s σ H E I hf st hg;subst hP hw hK;obtain ⟨xs,x,hq,hx⟩:=hg;obtain ⟨its,rv,p,hz⟩:=I.list hq;obtain ⟨u,hu,ru⟩:=rv.get hx;obtain ⟨f0,f1,f2,f3,f4,f5⟩:=hf it (by simp);refine wpAny_pyNext_list_item st p.isList (x:=u) (by simpa using hu) fun h' st' sb=>?_
  have I1:Inv X pins σ H { s with heap:=h' }:=I.turned (t':=s.toks) (fun b o hb e=>(sb.2 b hb).trans e) f0 f1 f3 f4 f5
  obtain ⟨o,e,c,d⟩:=id st';exact ⟨u,rfl,uw7 (s:={ s with heap:=h' }) e c d (by decide) ⟨x,H,I1,ru,⟨rfl,fun ys hy=>by rw [I.list_inj hy hq];exact hx⟩,st',fun b hb=>(hf b hb).1⟩⟩
 done:=by
  intro X hP hw hK hc i pins s σ H E I hf st hg;subst hP hw hK;obtain ⟨xs,hq,hx⟩:=hg;obtain ⟨its,rv,p,hz⟩:=I.list hq;obtain ⟨f0,f1,f2,f3,f4,f5⟩:=hf it (by simp);have hl:=rv.length;exact wpAny_pyNext_list_end (I.ok.hd hc) st p.isList (by simp;omega) fun h' eb=>⟨rfl,I.turned (t':=s.toks) (fun b o hb e=>eb b o hb e) f0 f1 f3 f4 f5⟩
 self:=fun _ _ _ _ _ st h=>wpAny_pyIter_listiter st h
theorem uu9 {P:Program} {w:World} {K:W.Frag} {tg:Expr} (a it:Addr):Turn P w K tg (Itt K a) [it] it (fun i h=>h.IsTupleIter it a i) where
 mem:=by simp
 obj:=fun i h st b hb=>by
  have e:b=it:=by simpa using hb
  subst e;obtain ⟨o,e,c,d⟩:=st;exact ⟨o,e,fun v z=>by rw [d] at z;cases z⟩
 keep:=fun i h h' st k=>st.at fun o e=>k it (by simp) o e
 item:=by
  intro X hP hw hK hc i pins s σ H E I hf st hg;subst hP hw hK;obtain ⟨xs,x,hq,hx⟩:=hg;obtain ⟨its,rv,p,hz⟩:=I.tuple hq;obtain ⟨u,hu,ru⟩:=rv.get hx;obtain ⟨f0,f1,f2,f3,f4,f5⟩:=hf it (by simp);refine wpAny_pyNext_tuple_item st (show s.heap.IsTuple a its.toArray from p) (x:=u) (by simpa using hu) fun h' st' sb=>?_
  have I1:Inv X pins σ H { s with heap:=h' }:=I.turned (t':=s.toks) (fun b o hb e=>(sb.2 b hb).trans e) f0 f1 f3 f4 f5
  obtain ⟨o,e,c,d⟩:=id st';exact ⟨u,rfl,uw7 (s:={ s with heap:=h' }) e c d (by decide) ⟨x,H,I1,ru,⟨rfl,fun ys hy=>by rw [I.tuple_inj hy hq];exact hx⟩,st',fun b hb=>(hf b hb).1⟩⟩
 done:=by
  intro X hP hw hK hc i pins s σ H E I hf st hg;subst hP hw hK;obtain ⟨xs,hq,hx⟩:=hg;obtain ⟨its,rv,p,hz⟩:=I.tuple hq;obtain ⟨f0,f1,f2,f3,f4,f5⟩:=hf it (by simp);have hl:=rv.length;exact wpAny_pyNext_tuple_end (I.ok.hd hc) st (show s.heap.IsTuple a its.toArray from p) (by simp;omega) fun h' eb=>⟨rfl,I.turned (t':=s.toks) (fun b o hb e=>eb b o hb e) f0 f1 f3 f4 f5⟩
 self:=fun _ _ _ _ _ st h=>wpAny_pyIter_tupleiter st h
theorem uv0 {P:Program} {w:World} {K:PySem.W.Frag} {tg:Expr} (it:Addr) (lo:Int) (n:Nat):Turn P w K tg (Itr lo n) [it] it (fun i h=>IsRangeIter h it (lo+(i:Nat) * 1) ((n:Int) - (i:Nat)) 1) where
 mem:=by simp
 obj:=fun i h st b hb=>by
  have e:b=it:=by simpa using hb
  subst e;exact ⟨_,st,fun v z=>by
   have z':Data.fields _=Data.cell v:=z;cases z'⟩
 keep:=fun i h h' st k=>k it (by simp) _ st
 item:=by
  intro X hP hw hK hc i pins s σ H E I hf st hg;subst hP hw hK;obtain ⟨f0,f1,f2,f3,f4,f5⟩:=hf it (by simp);have W:=Walks.range (prog:=X.prog) (w:=X.w) (I.ok.hd hc) it lo 1 n;refine W.item i s _ _ hg st fun v h' tk hv st' kk=>?_
  obtain ⟨t,rfl⟩:=hv;have I1:Inv X pins σ H { s with heap:=h',toks:=tk }:=I.turned (fun b o hb e=>kk b o (by simpa using hb) e) f0 f1 f3 f4 f5
  refine ⟨_,rfl,uw7 (s:={ s with heap:=h',toks:=tk }) (n := "range_iterator") st' rfl rfl (by decide) ⟨.int (lo+i),H,I1,⟨t,?_⟩,⟨rfl,rfl⟩,st',fun b hb=>(hf b hb).1⟩⟩;rw [Int.mul_one]
 done:=by
  intro X hP hw hK hc i pins s σ H E I hf st hg;subst hP hw hK;obtain ⟨f0,f1,f2,f3,f4,f5⟩:=hf it (by simp);exact wpAny_pyNext_range_end (I.ok.hd hc) st (by have:n<=i:=hg;omega) fun h' eb=>⟨rfl,I.turned (t':=s.toks) (fun b o hb e=>eb b o hb e) f0 f1 f3 f4 f5⟩
 self:=fun _ _ _ _ _ st h=>wpAny_pyIter_rangeiter st h
section
variable {X:Cx} {tg:Expr}
theorem ur5 {pins:List (Addr × Obj)} {σ:St} {H:Hp} {s:Shared} {R:It->Hp->Prop} {E:Value->Shared->Prop} {lo hi:Int} {t u v:Tok} {tk:Nat} (I:Inv X pins σ H s) (h1:-(2 ^ 62)<=lo) (h2:lo < 2 ^ 62) (h3:-(2 ^ 62)<=hi) (h4:hi < 2 ^ 62)
  (q:R (Itr lo (hi - lo).toNat) H):wpAny (model X.prog X.w) X.A (pyIter (.ref s.heap.objs.size)) (PIE X pins σ tg R) E { s with heap:=s.heap.push { cls:=.type "range",data:=.fields #[.int lo t,.int hi u,.int 1 v] },toks:=tk }:=by
 refine wpAny_pyIter_range (IsRange.new ..) (small_one h1 h2 h3 h4) ?_;have I1:Inv X pins σ H { s with heap:=s.heap.push { cls:=.type "range",data:=.fields #[.int lo t,.int hi u,.int 1 v] },toks:=tk }:=I.kept fun b o e=>Heap.get?_push_of_some _ e
 refine ⟨(s.heap.push { cls:=.type "range",data:=.fields #[.int lo t,.int hi u,.int 1 v] }).objs.size,[(s.heap.push { cls:=.type "range",data:=.fields #[.int lo t,.int hi u,.int 1 v] }).objs.size],_,_,H,rfl,
  I1.kept (t':=tk) fun b o e=>Heap.get?_push_of_some _ e,uv0 _ lo (hi - lo).toNat,?_,fun b hb=>?_,q⟩
 ·have e1:lo+((0:Nat):Int) * 1=lo:=by simp
  have e2:(((hi - lo).toNat:Nat):Int) - ((0:Nat):Int)=Builtin.Range.rangeSize lo hi 1:=by rw [rangeSize_one];split <;> omega
  show IsRangeIter _ _ (lo+((0:Nat):Int) * 1) ((((hi - lo).toNat:Nat):Int) - ((0:Nat):Int)) 1
  rw [e1,e2];exact Heap.get?_push_size _ rfl
 ·have e:b=(s.heap.push { cls:=.type "range",data:=.fields #[.int lo t,.int hi u,.int 1 v] }).objs.size:=by simpa using hb
  subst e;exact I1.fpOk (Nat.le_refl _) (I1.hok.fresh (Nat.le_refl _))
def we9 (ta:TA):TI:=fun σ H R=>ta σ H fun vs H1=>∃ j:Int,vs=[.int j] /\ -(2 ^ 62)<=j /\ j < 2 ^ 62 /\ R (Itr 0 j.toNat) H1
def we8 (ta:TA):TI:=fun σ H R=>ta σ H fun vs H1=>∃ i j:Int,vs=[.int i,.int j] /\ (-(2 ^ 62)<=i /\ i < 2 ^ 62 /\ -(2 ^ 62)<=j /\ j < 2 ^ 62) /\ R (Itr i (j - i).toNat) H1
theorem v14 {a:Expr} {ta:TA} {p pos:Pos} (hg:Gl X "range") (hm:X.mg "range" = none) (ha:PA X [a] ta) (hs:starEach [a] X.env=[(false,eval a X.env)]:=by rfl):PI X tg (.Call (.Name "range" p) [a] [] pos) (we9 ta):=by
 intro pins s σ H R I h
 (refine Call_ (ub0 I hg hm boot_range (PyProof.Rows.callWith_type1 (thn (ha pos pins s σ H _ I h) ?_) hs rfl));rintro us s1 ⟨vs,H1,I1,r1,q1⟩)
 obtain ⟨j,e,q1,q2,q⟩:=q1;subst e;cases r1 with
 | cons r rr =>
  cases rr;obtain ⟨t,rfl⟩:=r;exact call_range_1 (ur5 I1 (by omega) (by omega) q1 q2 (by simpa using q))
theorem v13 {a b:Expr} {ta:TA} {p pos:Pos} (hg:Gl X "range") (hm:X.mg "range" = none) (ha:PA X [a,b] ta) (hs:starEach [a,b] X.env=[(false,eval a X.env),(false,eval b X.env)]:=by rfl) (hs2:starEach [b] X.env=[(false,eval b X.env)]:=by rfl) :
  PI X tg (.Call (.Name "range" p) [a,b] [] pos) (we8 ta):=by
 intro pins s σ H R I h;refine Call_ (ub0 I hg hm boot_range (PyProof.Rows.callWith_type1 (thn (ha pos pins s σ H _ I h) fun us s1 ⟨vs,H1,I1,r1,q1⟩=>?_) (by rw [hs,hs2]) (by rw [hs2];rfl)));obtain ⟨i,j,e,⟨q1,q2,q3,q4⟩,q⟩:=q1;subst e;cases r1 with
 | cons r rr =>
  cases rr with
  | cons r' rr =>
   cases rr;obtain ⟨t,rfl⟩:=r;obtain ⟨t',rfl⟩:=r';exact call_range_2 (ur5 I1 q1 q2 q3 q4 q)
def tFor (wi:TI) (g:TG) (tb:TS):TS:=fun D σ H=>wi σ H fun J H1=>∃ W:Nat->Nat->St->Hp->Prop,(∃ m,W 0 m σ H1) /\ ∀ i m σ H,W i m σ H ->
 (J.stop i H /\ D.nx σ H) \/ (J.go i H /\ ∃ N:St->Hp->Prop,(∀ σ' H',N σ' H'->∃ m',m' < m /\ W (i+1) m' σ' H') /\ ∀ x H',J.yld i H x H'->g x σ H' fun σ2 H2=>tb { D with nx:=N,ct:=N,bk:=D.nx } σ2 H2)
def uk5 (fp:List Addr) (h:Heap):List (Addr × Obj):=fp.filterMap fun b=>(h.get? b).map fun o=>(b,o)
theorem u79 {fp:List Addr} {h:Heap} {b:Addr} {o:Obj} (hb:b ∈ fp) (e:h.get? b=some o):(b,o) ∈ uk5 fp h:=List.mem_filterMap.mpr ⟨b,hb,by rw [e];rfl⟩
theorem v23 {fp:List Addr} {h:Heap} {p:Addr × Obj} (hp:p ∈ uk5 fp h):p.1 ∈ fp /\ h.get? p.1=some p.2:=by
 obtain ⟨b,hb,e⟩:=List.mem_filterMap.mp hp;cases q:h.get? b with
 | none=>rw [q] at e;cases e
 | some o =>
  rw [q] at e;have e':(b,o)=p:=Option.some.inj e;subst e';exact ⟨hb,q⟩
theorem Inv.pinned {pins:List (Addr × Obj)} {σ:St} {H:Hp} {s:Shared} {fp:List Addr} (I:Inv X pins σ H s) (hf:∀ b ∈ fp,FpOk X pins H b) (ho:∀ b ∈ fp,∃ o,s.heap.get? b=some o /\ ∀ v,o.data ≠ .cell v):Inv X (pins++uk5 fp s.heap) σ H s :=
 I.pins_of fun p hp=>(List.mem_append.mp hp).elim (fun z=>I.pin p (List.mem_append_right _ z)) fun z=>by
  obtain ⟨hb,e⟩:=v23 z;obtain ⟨f0,f1,f2,_⟩:=hf p.1 hb;obtain ⟨o,e',d⟩:=ho p.1 hb;rw [e] at e';cases e';exact ⟨e,f0,f1,f2,d⟩
theorem Inv.unpinned {pins pl:List (Addr × Obj)} {σ:St} {H:Hp} {s:Shared} (I:Inv X (pins++pl) σ H s):Inv X pins σ H s:=I.pins_of fun p hp=>I.pin p (List.mem_append_right _ (List.mem_append_left _ hp))
theorem w65 {iter:Expr} {body:List Stmt} {wi:TI} {g:TG} {tb:TS} {pos:Pos} (hp:PassesOwn (model X.prog X.w) X.A X.env X.xe) (hc:X.calm=true) (hi:PI X tg iter wi) (hg:PG X tg g) (hb:PSs X body tb)
  (hs:∀ x,foldedSetIterable iter X.env x=pure x:=by intro _;rfl):PS X (.For tg iter body [] pos) (tFor wi g tb):=by
 intro pins s σ H D I h;refine wpAny_For (thn (hi pins s σ H _ I h) fun v s1 h1=>thn h1 fun itv s2 h2=>?_) hs;obtain ⟨it,fp,tn,J,H2,e,I2,T,st2,f2,W,⟨m0,w0⟩,turn⟩:=h2;subst e;have stat:∀ {H':Hp},(∀ b ∈ fp,H' b=none)->∀ b ∈ fp,FpOk X pins H' b:=fun hn b hb=>⟨hn b hb,(f2 b hb).2⟩
 refine codeAny_forLoop_any (fun n s'=>∃ i σ' H',Inv X pins σ' H' s' /\ tn i s'.heap /\ (∀ b ∈ fp,H' b=none) /\ W i n σ' H') ?_ m0 ⟨0,σ,H2,I2,st2,fun b hb=>(f2 b hb).1,w0⟩;rintro n s3 ⟨i,σ3,H3,I3,st3,fr3,w3⟩
 rcases turn i n σ3 H3 w3 with ⟨stop,qn⟩ | ⟨go,N,hN,step⟩
 ·(refine wpAny_passesOwn hp (thn (T.done X rfl rfl rfl hc i pins s3 σ3 H3 X.xe I3 (stat fr3) st3 stop) ?_);rintro r s4 ⟨hr,I4⟩)
  subst hr;exact wpAny_execs_nil ⟨σ3,H3,I4,qn⟩
 ·(refine wpAny_passesOwn hp (thn (T.item X rfl rfl rfl hc i pins s3 σ3 H3 X.xe I3 (stat fr3) st3 go) ?_);rintro r s4 ⟨u,hr,h4⟩)
  subst hr
  (refine wpAny_passesOwn hp (thn h4 ?_);rintro _ s5 ⟨x,H5,I5,r5,y5,st5,fr5⟩)
  have I5':=I5.pinned (stat fr5) (T.obj _ _ st5)
  (refine wpAny_passesOwn hp (thn (hg _ s5 σ3 H5 x u _ I5' r5 (step x H5 y5)) ?_);rintro _ s6 ⟨σ6,H6,I6,q6⟩)
  refine wpAny_passesOwn hp (thn (hb _ s6 σ6 H6 _ I6 q6) fun f s7 q7=>?_);have again:∀ {σ7:St} {H7:Hp},Inv X (pins++uk5 fp s5.heap) σ7 H7 s7->N σ7 H7->∃ m,m < n /\ ∃ i σ' H',Inv X pins σ' H' s7 /\ tn i s7.heap /\ (∀ b ∈ fp,H' b=none) /\ W i m σ' H':=fun {σ7 H7} I7 n7=>by
   obtain ⟨m',hm,w7⟩:=hN σ7 H7 n7;refine ⟨m',hm,i+1,σ7,H7,I7.unpinned,T.keep _ _ _ st5 fun b hb o e=>(I7.pin (b,o) (List.mem_append_right _ (List.mem_append_right _ (u79 hb e)))).1,fun b hb=>?_,w7⟩;obtain ⟨o,e,d⟩:=T.obj _ _ st5 b hb;exact (I7.pin (b,o) (List.mem_append_right _ (List.mem_append_right _ (u79 hb e)))).2.1
  cases f with
  | next=>obtain ⟨σ7,H7,I7,n7⟩:=q7;exact again I7 n7
  | cont=>obtain ⟨σ7,H7,I7,n7⟩:=q7;exact again I7 n7
  | brk=>obtain ⟨σ7,H7,I7,q7⟩:=q7;exact ⟨σ7,H7,I7.unpinned,q7⟩
  | ret v=>obtain ⟨x7,σ7,H7,I7,r7,q7⟩:=q7;exact ⟨x7,σ7,H7,I7.unpinned,r7,q7⟩
end
abbrev R2:=V->V->Hp->VK->Prop
def OpR (X:Cx) (f:Value->Value->Sem Value) (r:R2):Prop :=
 ∀ (pins:List (Addr × Obj)) (s:Shared) (σ:St) (H:Hp) (x y:V) (v u:Value) (Q:VK),Inv X pins σ H s->RelV x v->RelV y u->r x y H Q ->
  wpAny (model X.prog X.w) X.A (f v u) (EP X pins σ Q) X.xe s
def UnR (X:Cx) (f:Value->Sem Value) (r:V->Hp->VK->Prop):Prop :=
 ∀ (pins:List (Addr × Obj)) (s:Shared) (σ:St) (H:Hp) (x:V) (v:Value) (Q:VK),Inv X pins σ H s->RelV x v->r x H Q ->
  wpAny (model X.prog X.w) X.A (f v) (EP X pins σ Q) X.xe s
def CallR (X:Cx) (f:Value) (r:List V->Hp->VK->Prop):Prop :=
 ∀ (pins:List (Addr × Obj)) (s:Shared) (σ:St) (H:Hp) (xs:List V) (us:List Value) (Q:VK),Inv X pins σ H s->Vals xs us->r xs H Q ->
  wpAny (model X.prog X.w) X.A (call f us) (EP X pins σ Q) X.xe s
def tOp (r:R2) (ta tb:TE):TE:=fun σ H Q=>ta σ H fun x H1=>tb σ H1 fun y H2=>r x y H2 Q
def tUn (r:V->Hp->VK->Prop) (ta:TE):TE:=fun σ H Q=>ta σ H fun x H1=>r x H1 Q
def rI (C:Int->Int->Prop) (g:Int->Int->V):R2:=fun x y H Q=>∃ i j,x=.int i /\ y=.int j /\ C i j /\ Q (g i j) H
def rI0 (g:Int->Int->V):R2:=fun x y H Q=>∃ i j,x=.int i /\ y=.int j /\ Q (g i j) H
def rU (g:Int->V):V->Hp->VK->Prop:=fun x H Q=>∃ i,x=.int i /\ Q (g i) H
section
variable {X:Cx} {a b c:Expr} {ta tb tc:TE} {pos:Pos}
theorem binT (ha:PE X a ta) (hb:PE X b tb) {pins:List (Addr × Obj)} {s:Shared} {σ:St} {H:Hp} {R:V->V->Hp->Prop} (I:Inv X pins σ H s)
  (h:ta σ H fun x H1=>tb σ H1 fun y H2=>R x y H2) {Q:Value->Shared->Prop} {f:Value->Value->Sem Value}
  (hf:∀ v u s2 x y H2,Inv X pins σ H2 s2->RelV x v->RelV y u->R x y H2->wpAny (model X.prog X.w) X.A (f v u) Q X.xe s2) :
  wpAny (model X.prog X.w) X.A (eval a X.env) (fun v s₁=>wpAny (model X.prog X.w) X.A (eval b X.env) (fun u s₂=>wpAny (model X.prog X.w) X.A (f v u) Q X.xe s₂) X.xe s₁) X.xe s:=by
 (refine thn (ha pins s σ H _ I h) ?_;rintro v s1 ⟨x,H1,I1,r1,q1⟩)
 (refine thn (hb pins s1 σ H1 _ I1 q1) ?_;rintro u s2 ⟨y,H2,I2,r2,q2⟩)
 exact hf v u s2 x y H2 I2 r1 r2 q2
theorem wj3 {op:Operator} {r:R2} (ho:OpR X (binaryOp op) r) (ha:PE X a ta) (hb:PE X b tb):PE X (.BinOp a op b pos) (tOp r ta tb):=by
 intro pins s σ H Q I h;exact wpAny_BinOp (binT ha hb I h fun v u s2 x y H2 I2 rx ry q=>ho pins s2 σ H2 x y v u Q I2 rx ry q)
theorem wj1 {op:UnaryOp} {r:V->Hp->VK->Prop} (ho:UnR X (unaryOp op) r) (ha:PE X a ta):PE X (.UnaryOp op a pos) (tUn r ta):=by
 intro pins s σ H Q I h
 (refine UnaryOp_ (thn (ha pins s σ H _ I h) ?_);rintro v s1 ⟨x,H1,I1,r1,q1⟩;exact ho pins s1 σ H1 x v Q I1 r1 q1)
theorem opI {f:Value->Value->Sem Value} {C:Int->Int->Prop} {g:Int->Int->Int}
  (rule:∀ (i j:Int) (t u:Tok) (s:Shared) (Q:Value->Shared->Prop) (E:Value->Shared->Prop),C i j->Q (.int (g i j) s.toks) { s with toks:=s.toks+1 }->wpAny (model X.prog X.w) X.A (f (.int i t) (.int j u)) Q E s) :
  OpR X f (rI C fun i j=>.int (g i j)):=by
 intro pins s σ H x y v u Q I rx ry h;obtain ⟨i,j,rfl,rfl,hc,q⟩:=h;obtain ⟨t,rfl⟩:=rx;obtain ⟨t',rfl⟩:=ry;exact rule i j t t' s _ _ hc ⟨.int (g i j),H,I.tok _,⟨_,rfl⟩,q⟩
theorem opI0 {f:Value->Value->Sem Value} {g:Int->Int->Int}
  (rule:∀ (i j:Int) (t u:Tok) (s:Shared) (Q:Value->Shared->Prop) (E:Value->Shared->Prop),Q (.int (g i j) s.toks) { s with toks:=s.toks+1 }->wpAny (model X.prog X.w) X.A (f (.int i t) (.int j u)) Q E s) :
  OpR X f (rI0 fun i j=>.int (g i j)):=by
 intro pins s σ H x y v u Q I rx ry h;obtain ⟨i,j,rfl,rfl,q⟩:=h;obtain ⟨t,rfl⟩:=rx;obtain ⟨t',rfl⟩:=ry;exact rule i j t t' s _ _ ⟨.int (g i j),H,I.tok _,⟨_,rfl⟩,q⟩
theorem opB0 {f:Value->Value->Sem Value} {g:Int->Int->Bool}
  (rule:∀ (i j:Int) (t u:Tok) (s:Shared) (Q:Value->Shared->Prop) (E:Value->Shared->Prop),Q (.bool (g i j)) s->wpAny (model X.prog X.w) X.A (f (.int i t) (.int j u)) Q E s) :
  OpR X f (rI0 fun i j=>.bl (g i j)):=by
 intro pins s σ H x y v u Q I rx ry h;obtain ⟨i,j,rfl,rfl,q⟩:=h;obtain ⟨t,rfl⟩:=rx;obtain ⟨t',rfl⟩:=ry;exact rule i j t t' s _ _ ⟨.bl (g i j),H,I,rfl,q⟩
def CDiv (i j:Int):Prop:=0 < j /\ j < 1073741824
def CPow (i j:Int):Prop:=0<=j /\ j<=1000000 /\ i.natAbs < 2 ^ 64
def CMul (i j:Int):Prop:=(-(2 ^ 64) < i /\ i < 2 ^ 64) \/ (-(2 ^ 64) < j /\ j < 2 ^ 64)
theorem CMul.ok {i j:Int} (h:CMul i j):IntMulOk i j:=by
 rcases h with ⟨h1,h2⟩ | ⟨h1,h2⟩
 ·exact .of_left (intBits_le_64 h1 h2)
 ·exact .of_right (intBits_le_64 h1 h2)
theorem op_add:OpR X (binaryOp .Add) (rI0 fun i j=>.int (i+j)):=opI0 fun _ _ _ _ _ _ _ q=>add_int q
theorem w83:OpR X (binaryOp .Sub) (rI0 fun i j=>.int (i - j)):=opI0 fun _ _ _ _ _ _ _ q=>sub_int q
theorem op_mul:OpR X (binaryOp .Mult) (rI CMul fun i j=>.int (i * j)):=opI fun _ _ _ _ _ _ _ hc q=>mul_int q hc.ok
theorem wj9:OpR X (binaryOp .FloorDiv) (rI CDiv fun i j=>.int (i / j)):=opI fun i j _ _ _ _ _ hc q=>by
 have h1:(0:Int) < j:=hc.1;have h2:j < 1073741824:=hc.2;exact floordiv_int (by omega) (by rw [Int.fdiv_eq_ediv_of_nonneg i (by omega)];exact q) (.inl (PyProof.noPylong_small (by omega)))
theorem w87:OpR X (binaryOp .Mod) (rI (fun _ j=>0 < j) fun i j=>.int (i % j)):=opI fun i j _ _ _ _ _ hc q=>by
 have h1:(0:Int) < j:=hc;exact mod_int' (by omega) (by rw [Int.fmod_eq_emod_of_nonneg i (by omega)];exact q)
theorem w85:OpR X (binaryOp .Pow) (rI CPow fun i j=>.int (i ^ j.toNat)):=opI fun _ _ _ _ _ _ _ hc q=>pow_int_small hc.1 hc.2.1 hc.2.2 q
theorem unI {f:Value->Sem Value} {g:Int->Int}
  (rule:∀ (i:Int) (t:Tok) (s:Shared) (Q:Value->Shared->Prop) (E:Value->Shared->Prop),Q (.int (g i) s.toks) { s with toks:=s.toks+1 }->wpAny (model X.prog X.w) X.A (f (.int i t)) Q E s) :
  UnR X f (rU fun i=>.int (g i)):=by
 intro pins s σ H x v Q I rx h;obtain ⟨i,rfl,q⟩:=h;obtain ⟨t,rfl⟩:=rx;exact rule i t s _ _ ⟨.int (g i),H,I.tok _,⟨_,rfl⟩,q⟩
theorem w39:UnR X (unaryOp .USub) (rU fun i=>.int (-i)):=unI fun _ _ _ _ _ q=>neg_int q
end
def scal:V->V->Bool
 | .non,.non=>true | .non,.int _=>true | .int _,.non=>true | .non,.bl _=>true | .bl _,.non=>true | .non,.str _=>true | .str _,.non=>true
 | .int _,.int _=>true | .bl _,.bl _=>true | .str _,.str _=>true | .byt _,.byt _=>true
 | .int _,.str _=>true | .str _,.int _=>true | .bl _,.str _=>true | .str _,.bl _=>true
 | _,_=>false
def rEq:R2:=fun x y H Q=>scal x y=true /\ Q (.bl (decide (x=y))) H
def rNe:R2:=fun x y H Q=>scal x y=true /\ Q (.bl (!decide (x=y))) H
theorem v78 {i j:Int}:decide (V.int i=V.int j)=(i == j):=by
 rw [Bool.eq_iff_iff];simp
theorem vo2 {i j:Bool}:decide (V.bl i=V.bl j)=(i == j):=by
 rw [Bool.eq_iff_iff];simp
theorem v77 {i j:Str}:decide (V.str i=V.str j)=(i == j):=by
 rw [Bool.eq_iff_iff];simp
theorem v79 {i j:Array UInt8}:decide (V.byt i=V.byt j)=(i.toList == j.toList):=by
 rw [Bool.eq_iff_iff];cases i;cases j;simp
section
variable {X:Cx} {a b c:Expr} {ta tb tc:TE} {pos:Pos}
theorem u22 {pins:List (Addr × Obj)} {σ:St} {H:Hp} {s:Shared} {Q:VK} {k k':Bool} (I:Inv X pins σ H s) (q:Q (.bl k) H) (e:k=k'):EP X pins σ Q (.bool k') s:=by
 subst e;exact ⟨.bl k,H,I,rfl,q⟩
theorem op_eq:OpR X (compareOp .Eq) rEq:=by
 intro pins s σ H x y v u Q I rx ry h;obtain ⟨hs,q⟩:=h;cases x with
 | non =>
  cases rx;cases y with
  | non=>cases ry;exact PySem.EqNone.eq_none_none (u22 I q (by simp))
  | bl j=>cases ry;exact PySem.EqNone.eq_none_bool (u22 I q (by simp))
  | int j=>obtain ⟨t',rfl⟩:=ry;exact PySem.EqNone.eq_none_int (u22 I q (by simp))
  | str j=>obtain ⟨t',rfl⟩:=ry;exact PySem.EqNone.eq_none_str (u22 I q (by simp))
  | _=>exact absurd (show false=true from hs) Bool.false_ne_true
 | bl i =>
  cases rx;cases y with
  | non=>cases ry;exact PySem.EqNone.eq_bool_none (u22 I q (by simp))
  | bl j=>cases ry;exact eq_bool (u22 I q vo2)
  | str j=>obtain ⟨t',rfl⟩:=ry;exact PySem.EqMixed.eq_bool_str (u22 I q (by simp))
  | _=>exact absurd (show false=true from hs) Bool.false_ne_true
 | int i =>
  obtain ⟨t,rfl⟩:=rx;cases y with
  | non=>cases ry;exact PySem.EqNone.eq_int_none (u22 I q (by simp))
  | int j=>obtain ⟨t',rfl⟩:=ry;exact eq_int (u22 I q v78)
  | str j=>obtain ⟨t',rfl⟩:=ry;exact PySem.EqMixed.eq_int_str (u22 I q (by simp))
  | _=>exact absurd (show false=true from hs) Bool.false_ne_true
 | str i =>
  obtain ⟨t,rfl⟩:=rx;cases y with
  | non=>cases ry;exact PySem.EqNone.eq_str_none (u22 I q (by simp))
  | bl j=>cases ry;exact PySem.EqMixed.eq_str_bool (u22 I q (by simp))
  | int j=>obtain ⟨t',rfl⟩:=ry;exact PySem.EqMixed.eq_str_int (u22 I q (by simp))
  | str j=>obtain ⟨t',rfl⟩:=ry;exact eq_str (u22 I q v77)
  | _=>exact absurd (show false=true from hs) Bool.false_ne_true
 | byt i =>
  obtain ⟨t,rfl⟩:=rx;cases y with
  | byt j=>obtain ⟨t',rfl⟩:=ry;exact W.eq_bytes (u22 I q v79)
  | _=>exact absurd (show false=true from hs) Bool.false_ne_true
 | _=>cases y <;> exact absurd (show false=true from hs) Bool.false_ne_true
theorem op_ne:OpR X (compareOp .NotEq) rNe:=by
 intro pins s σ H x y v u Q I rx ry h;obtain ⟨hs,q⟩:=h;cases x with
 | non =>
  cases rx;cases y with
  | non=>cases ry;exact PySem.EqNone.ne_none_none (u22 I q (by simp))
  | bl j=>cases ry;exact PySem.EqNone.ne_none_bool (u22 I q (by simp))
  | int j=>obtain ⟨t',rfl⟩:=ry;exact PySem.EqNone.ne_none_int (u22 I q (by simp))
  | str j=>obtain ⟨t',rfl⟩:=ry;exact PySem.EqNone.ne_none_str (u22 I q (by simp))
  | _=>exact absurd (show false=true from hs) Bool.false_ne_true
 | bl i =>
  cases rx;cases y with
  | non=>cases ry;exact PySem.EqNone.ne_bool_none (u22 I q (by simp))
  | bl j=>cases ry;exact ne_bool (u22 I q (congrArg not vo2))
  | str j=>obtain ⟨t',rfl⟩:=ry;exact PySem.EqMixed.ne_bool_str (u22 I q (by simp))
  | _=>exact absurd (show false=true from hs) Bool.false_ne_true
 | int i =>
  obtain ⟨t,rfl⟩:=rx;cases y with
  | non=>cases ry;exact PySem.EqNone.ne_int_none (u22 I q (by simp))
  | int j=>obtain ⟨t',rfl⟩:=ry;exact ne_int (u22 I q (congrArg not v78))
  | str j=>obtain ⟨t',rfl⟩:=ry;exact PySem.EqMixed.ne_int_str (u22 I q (by simp))
  | _=>exact absurd (show false=true from hs) Bool.false_ne_true
 | str i =>
  obtain ⟨t,rfl⟩:=rx;cases y with
  | non=>cases ry;exact PySem.EqNone.ne_str_none (u22 I q (by simp))
  | bl j=>cases ry;exact PySem.EqMixed.ne_str_bool (u22 I q (by simp))
  | int j=>obtain ⟨t',rfl⟩:=ry;exact PySem.EqMixed.ne_str_int (u22 I q (by simp))
  | str j=>obtain ⟨t',rfl⟩:=ry;exact ne_str (u22 I q (congrArg not v77))
  | _=>exact absurd (show false=true from hs) Bool.false_ne_true
 | byt i =>
  obtain ⟨t,rfl⟩:=rx;cases y with
  | byt j=>obtain ⟨t',rfl⟩:=ry;exact W.ne_bytes (u22 I q (congrArg not v79))
  | _=>exact absurd (show false=true from hs) Bool.false_ne_true
 | _=>cases y <;> exact absurd (show false=true from hs) Bool.false_ne_true
theorem op_lt:OpR X (compareOp .Lt) (rI0 fun i j=>.bl (decide (i < j))):=opB0 fun _ _ _ _ _ _ _ q=>lt_int q
theorem wj6:OpR X (compareOp .LtE) (rI0 fun i j=>.bl (decide (i<=j))):=opB0 fun _ _ _ _ _ _ _ q=>le_int q
theorem wj7:OpR X (compareOp .Gt) (rI0 fun i j=>.bl (decide (j < i))):=opB0 fun _ _ _ _ _ _ _ q=>gt_int q
theorem wj8:OpR X (compareOp .GtE) (rI0 fun i j=>.bl (decide (j<=i))):=opB0 fun _ _ _ _ _ _ _ q=>ge_int q
theorem v19:OpR X (compareOp .Lt) (fun x y H Q=>∃ i j,x=.str i /\ y=.str j /\ Q (.bl (decide (i.cps.toList < j.cps.toList))) H):=by
 intro pins s σ H x y v u Q I rx ry h;obtain ⟨i,j,rfl,rfl,q⟩:=h;obtain ⟨t,rfl⟩:=rx;obtain ⟨t',rfl⟩:=ry;exact lt_str (u22 I q rfl)
theorem v22:OpR X (compareOp .In) (fun x y H Q=>∃ i j,x=.str i /\ y=.str j /\ Q (.bl (!(Builtin.Str.occurrences j i 0 j.length 1).isEmpty)) H):=by
 intro pins s σ H x y v u Q I rx ry h;obtain ⟨i,j,rfl,rfl,q⟩:=h;obtain ⟨t,rfl⟩:=rx;obtain ⟨t',rfl⟩:=ry;exact in_str (u22 I q rfl)
theorem op_isN:OpR X (compareOp .Is) (fun x y H Q=>y=.non /\ Q (.bl (decide (x=.non))) H):=by
 intro pins s σ H x y v u Q I rx ry h;obtain ⟨rfl,q⟩:=h;cases ry;refine is_none_gen (u22 I q ?_);cases x <;> first
  | (cases rx;rfl)
  | (obtain ⟨t,rfl⟩:=rx;rfl)
theorem op_notN:OpR X (compareOp .IsNot) (fun x y H Q=>y=.non /\ Q (.bl (!decide (x=.non))) H):=by
 intro pins s σ H x y v u Q I rx ry h;obtain ⟨rfl,q⟩:=h;cases ry;refine isnot_none_gen (u22 I q ?_);cases x <;> first
  | (cases rx;rfl)
  | (obtain ⟨t,rfl⟩:=rx;rfl)
theorem OpR.or {f:Value->Value->Sem Value} {r r':R2} (h:OpR X f r) (h':OpR X f r'):OpR X f (fun x y H Q=>r x y H Q \/ r' x y H Q):=by
 intro pins s σ H x y v u Q I rx ry q
 rcases q with q | q
 ·exact h pins s σ H x y v u Q I rx ry q
 ·exact h' pins s σ H x y v u Q I rx ry q
theorem nomark (b:Expr) {op:CmpOp} (h:op ≠ .In:=by decide) (h2:op ≠ .NotIn:=by decide):behindInMarks op b=false:=by
 have e1:(op == CmpOp.In)=false:=by cases op <;> first | rfl | exact absurd rfl h
 have e2:(op == CmpOp.NotIn)=false:=by cases op <;> first | rfl | exact absurd rfl h2
 cases b <;> simp [behindInMarks,e1,e2]
theorem vv1 {op:CmpOp} {r:R2} (ho:OpR X (compareOp op) r) (ha:PE X a ta) (hb:PE X b tb) (hm:behindInMarks op b=false):PE X (.Compare a [op] [b] pos) (tOp r ta tb):=by
 intro pins s σ H Q I h;exact wpAny_Compare1 (binT ha hb I h fun v u s2 x y H2 I2 rx ry q=>ho pins s2 σ H2 x y v u Q I2 rx ry q) hm
def w41 (t:TE):TT:=fun σ H Q=>t σ H fun x H'=>∃ k,x=.bl k /\ Q k H'
theorem vt2 {op:CmpOp} {r:R2} (ho:OpR X (compareOp op) r) (ha:PE X a ta) (hb:PE X b tb) (hm:behindInMarks op b=false):PT X (.Compare a [op] [b] pos) (w41 (tOp r ta tb)):=by
 intro pins s σ H Q I h;refine wpAny_isTrue_Compare1 (thn (ha pins s σ H _ I h) fun v s1 ⟨x,H1,I1,r1,q1⟩=>thn (hb pins s1 σ H1 _ I1 q1) fun u s2 ⟨y,H2,I2,r2,q2⟩ =>
  thn (ho pins s2 σ H2 x y v u _ I2 r1 r2 q2) fun c s3 ⟨z,H3,I3,r3,k,e,q3⟩=>?_) hm
 subst e;cases r3;exact wpAny_truthy_bool ⟨H3,I3,q3⟩
def uz0 (r r':R2) (ta tb tc:TE):TE:=fun σ H Q=>ta σ H fun x H1=>tb σ H1 fun y H2=>r x y H2 fun z H3=>∃ k,z=.bl k /\
 (if k=true then tc σ H3 fun w' H4=>r' y w' H4 Q else Q (.bl false) H3)
theorem ve1 {op op':CmpOp} {r r':R2} (ho:OpR X (compareOp op) r) (ho':OpR X (compareOp op') r') (ha:PE X a ta) (hb:PE X b tb) (hc:PE X c tc)
  (hm:lastMarks [op,op'] [b,c]=false:=by with_unfolding_all rfl):PE X (.Compare a [op,op'] [b,c] pos) (uz0 r r' ta tb tc):=by
 intro pins s σ H Q I h;refine Compare_chain (thn (ha pins s σ H _ I h) fun v s1 ⟨x,H1,I1,r1,q1⟩=>chain_link (thn (hb pins s1 σ H1 _ I1 q1) fun u s2 ⟨y,H2,I2,r2,q2⟩ =>
  thn (ho pins s2 σ H2 x y v u _ I2 r1 r2 q2) fun d s3 ⟨z,H3,I3,r3,k,e,q3⟩=>?_)) hm
 subst e;cases r3;refine wpAny_truthy_bool ?_;cases k with
 | false=>exact ite_ff ⟨.bl false,H3,I3,rfl,q3⟩
 | true=>exact ite_tt (chain_last (thn (hc pins s3 σ H3 _ I3 q3) fun w' s4 ⟨z',H4,I4,r4,q4⟩=>ho' pins s4 σ H4 y z' u w' Q I4 r2 r4 q4))
theorem vd0 {op op':CmpOp} {r r':R2} (ho:OpR X (compareOp op) r) (ho':OpR X (compareOp op') r') (ha:PE X a ta) (hb:PE X b tb) (hc:PE X c tc)
  (hm:lastMarks [op,op'] [b,c]=false:=by with_unfolding_all rfl):PT X (.Compare a [op,op'] [b,c] pos) (w41 (uz0 r r' ta tb tc)):=by
 intro pins s σ H Q I h;refine isTrue_chain (thn (ha pins s σ H _ I h) fun v s1 ⟨x,H1,I1,r1,q1⟩=>test_link (thn (hb pins s1 σ H1 _ I1 q1) fun u s2 ⟨y,H2,I2,r2,q2⟩ =>
  thn (ho pins s2 σ H2 x y v u _ I2 r1 r2 q2) fun d s3 ⟨z,H3,I3,r3,k,e,q3⟩=>?_)) hm
 subst e;cases r3;refine wpAny_truthy_bool ?_;cases k with
 | false =>
  obtain ⟨k',e',q'⟩:=q3;cases e';exact ite_ff ⟨H3,I3,q'⟩
 | true =>
  (refine ite_tt (test_last (thn (hc pins s3 σ H3 _ I3 q3) ?_));rintro w' s4 ⟨z',H4,I4,r4,q4⟩;refine thn (ho' pins s4 σ H4 y z' u w' _ I4 r2 r4 q4) ?_;rintro d' s5 ⟨z2,H5,I5,r5,k2,e2,q5⟩)
  subst e2;cases r5;exact wpAny_truthy_bool ⟨H5,I5,q5⟩
theorem line63:(sizeLine:Nat) < 2 ^ 63:=by rw [sizeLine_eq];decide
theorem op_add_str:OpR X (binaryOp .Add) (fun x y H Q=>∃ i j,x=.str i /\ y=.str j /\ i.length+j.length<=sizeLine /\ Q (.str (i++j)) H):=by
 intro pins s σ H x y v u Q I rx ry h;obtain ⟨i,j,rfl,rfl,hz,q⟩:=h;obtain ⟨t,rfl⟩:=rx;obtain ⟨t',rfl⟩:=ry;exact add_str (fun t' tk=>⟨.str (i++j),H,I.tok _,⟨_,rfl⟩,q⟩) hz
theorem vals1 {x:V} {us:List Value} (r:Vals [x] us):∃ u,us=[u] /\ RelV x u:=by
 cases r with
 | cons r1 r2=>cases r2;exact ⟨_,rfl,r1⟩
theorem vals2 {x y:V} {us:List Value} (r:Vals [x,y] us):∃ u w',us=[u,w'] /\ RelV x u /\ RelV y w':=by
 cases r with
 | cons r1 r2 =>
  cases r2 with
  | cons r3 r4=>cases r4;exact ⟨_,_,rfl,r1,r3⟩
theorem vi6:CallR X (.builtin "abs") (fun xs H Q=>∃ i,xs=[.int i] /\ Q (.int (if i < 0 then -i else i)) H):=by
 intro pins s σ H xs us Q I r h;obtain ⟨i,rfl,q⟩:=h;obtain ⟨u,rfl,t,rfl⟩:=vals1 r;exact call_abs_int fun u tk=>⟨.int (if i < 0 then -i else i),H,I.tok _,⟨_,rfl⟩,q⟩
theorem v89:CallR X (.type "int") (fun xs H Q=>(∃ i,xs=[.int i] /\ Q (.int i) H) \/ ∃ k,xs=[.bl k] /\ Q (.int (if k then 1 else 0)) H):=by
 intro pins s σ H xs us Q I r h
 rcases h with ⟨i,rfl,q⟩ | ⟨k,rfl,q⟩
 ·obtain ⟨u,rfl,t,rfl⟩:=vals1 r
  exact call_int_int ⟨.int i,H,I,⟨_,rfl⟩,q⟩
 ·obtain ⟨u,rfl,r1⟩:=vals1 r
  cases r1;exact call_int_bool ⟨.int (if k then 1 else 0),H,I.tok _,⟨_,rfl⟩,q⟩
theorem up6:CallR X (.builtin "divmod") (fun xs H Q=>∃ i j,xs=[.int i,.int j] /\ CDiv i j /\ ∀ p,H p=none->Q (.ref p) (upd H p (.tup [.int (i / j),.int (i % j)]))):=by
 intro pins s σ H xs us Q I r h;obtain ⟨i,j,rfl,⟨h1,h2⟩,q⟩:=h;obtain ⟨u,w',rfl,⟨t,rfl⟩,⟨t',rfl⟩⟩:=vals2 r;refine divmod_int (by omega) ?_ (.inl (PyProof.noPylong_small (by omega)));rw [Int.fdiv_eq_ediv_of_nonneg i (by omega),Int.fmod_eq_emod_of_nonneg i (by omega)];have hn:H s.heap.objs.size=none:=I.hok.fresh (Nat.le_refl _);refine ⟨.ref s.heap.objs.size,_,?_,rfl,q _ hn⟩;refine I.laid (fun b o e=>Heap.get?_push_of_some _ e) (Nat.le_refl _) ⟨by simp only [List.length_cons,List.length_nil];rw [sizeLine_eq];decide,[.int (i / j) s.toks,.int (i % j) (s.toks+1)],.cons ⟨_,rfl⟩ (.cons ⟨_,rfl⟩ .nil),?_⟩;exact ⟨_,Heap.get?_push_size s.heap rfl,rfl,⟨0,rfl⟩,rfl⟩
end
structure ObjM (h:Heap) (x dx C:Addr) (mA:Str->Option Value):Prop where
 obj:h.get? x=some (W.instObj C dx)
 ns:h.Ns1 dx mA
 ne:dx ≠ x
theorem v42 {h:Heap} {dx:Addr} {mA:Str->Option Value} (n:h.Ns1 dx mA):∃ od,h.get? dx=some od /\ ∀ name,W.lookIn name od=some (mA name):=by
 obtain ⟨o,es,ep,ho,hd,hk,_,hm⟩:=n;refine ⟨o,ho,fun name=>?_⟩;have e:=hm name;unfold nsFind findBy at e;rw [<- Array.find?_toList] at e;unfold W.lookIn;rw [hd];dsimp only;split
 ·rename_i y q
  rw [q] at e;exact congrArg some e
 ·rename_i q
  rw [q] at e;have a:es.toList.any (·.refKey)=false:=by
   rw [List.any_eq_false];intro y hy;obtain ⟨z,t,hkey⟩:=hk y (Array.mem_toList_iff.mp hy);simp [DictEntry.refKey,hkey]
  have a':¬ es.toList.any (·.refKey)=true:=by rw [a];exact Bool.false_ne_true
  rw [if_neg a'];exact congrArg some e
theorem ObjM.look {h:Heap} {x dx C:Addr} {mA:Str->Option Value} (I:ObjM h x dx C mA):∃ od,W.InstAt h x (W.instObj C dx) C (some od) /\ ∀ name,W.lookIn name od=some (mA name) :=
 let ⟨od,ho,hl⟩:=v42 I.ns
 ⟨od,⟨I.obj,rfl,rfl,ho⟩,hl⟩
section
variable {prog:Program} {w:World} {A:Around} {E:Value->Shared->Prop} {s:Shared} {K:W.Frag} {x dx C f:Addr} {mA:Str->Option Value} {name:Str} {v:Value}
theorem vh0 {pl:Sem Bool} {Q:Value × List Value->Shared->Prop} (X:K.In s.heap) (I:ObjM s.heap x dx C mA) (hg:W.plainGet K C name=true)
  (hf:W.findIn K (.ref C) name=some (some (.ref f))) (ht:W.isFn K (.ref f)=true) (hv:mA name=none) (h:Q (.ref f,[.ref x]) s) :
  wpAny (model prog w) A (getMethod (.ref x) name pl) Q E s:=by
 obtain ⟨od,J,hl⟩:=I.look;exact W.method_fn X J (W.plainGet_of hg).1 (W.plainGet_of hg).2 hf (beq_iff_eq.mp ht) (by show (W.lookIn name od).map (·.isSome)=some false;rw [hl,hv];rfl) h
end
theorem RelO.some_of {v:V} {o:Option Value} (r:RelO (some v) o):∃ u,o=some u /\ RelV v u:=by
 cases o with
 | none=>exact (show False from r).elim
 | some u=>exact ⟨u,rfl,r⟩
theorem RelO.none_of {o:Option Value} (r:RelO none o):o=none:=by
 cases o with
 | none=>rfl
 | some u=>exact (show False from r).elim
theorem v60 {v:V} {u:Value} (r:RelV v u):W.handedIn u=true:=by
 cases v with
 | non=>cases (show u=Value.none from r);rfl
 | bl b=>cases (show u=Value.bool b from r);rfl
 | int i=>obtain ⟨t,e⟩:=(show ∃ t,u=Value.int i t from r);cases e;rfl
 | str x=>obtain ⟨t,e⟩:=(show ∃ t,u=Value.str x t from r);cases e;rfl
 | byt b=>obtain ⟨t,e⟩:=(show ∃ t,u=Value.bytes b t from r);cases e;rfl
 | flt b=>obtain ⟨t,e⟩:=(show ∃ t,u=Value.float b t from r);cases e;rfl
 | ref a=>cases (show u=Value.ref a from r);rfl
 | ty n=>cases (show u=Value.type n from r);rfl
section
variable {P:Program} {w:World} {H H':Hp} {h h':Heap} {a C dx:Addr} {fs fs':List (Str × V)}
theorem v55 (hok:HOk P w H h) (e:H a=some (.ins C dx fs)):∃ mA,ObjM h a dx C mA /\ (∀ f,RelO (fs.lookup f) (mA f)) /\ PySem.Within mA (fs.map (·.1)) /\ fs.length<=1000 /\ H dx=some (.own a):=by
 obtain ⟨d,z,ne,ob,mA,n,r,q⟩:=(show ObjOk P w H h a (.ins C dx fs) from hok a _ e);exact ⟨mA,⟨ob,n,ne⟩,r,q,z,d⟩
end
structure Cls (K:W.Frag) (C:Addr):Prop where
 pg:W.plainGet K C Str.empty=true
 hd:W.hasDictIn K C=true
 po:W.plainOver K C=true
 sa:W.findIn K (.ref C) "__setattr__" = some (some (.builtin "object.__setattr__"))
theorem Cls.get {K:W.Frag} {C:Addr} (c:Cls K C) (f:Str):W.plainGet K C f=true:=c.pg
structure Con (K:W.Frag) (C:Addr) (f:Str) (v:V) (u:Value):Prop where
 at_:W.findIn K (.ref C) f=some (some u)
 rel:RelV v u
 get:W.specialIn K u "__get__" = some none
 cp:W.copiedNames.contains f=false
structure Meth (K:W.Frag) (C:Addr) (m:Str) (f:Addr):Prop where
 at_:W.findIn K (.ref C) m=some (some (.ref f))
 fn:W.isFn K (.ref f)=true
 kp:W.keepIn K (.ref f)=true
section
variable {X:Cx} {pins:List (Addr × Obj)} {σ:St} {H:Hp} {s:Shared} {a C dx:Addr} {fs:List (Str × V)} {f:Str} {v:V} {A:Around} {E:Value->Shared->Prop}
theorem uw9 {m:Str} {g:Addr} {pl:Sem Bool} {Q:Value × List Value->Shared->Prop} (I:Inv X pins σ H s) (e:H a=some (.ins C dx fs)) (c:Cls X.K C) (k:Meth X.K C m g) (l:fs.lookup m=none)
  (h:Q (.ref g,[.ref a]) s):wpAny (model X.prog X.w) A (getMethod (.ref a) m pl) Q E s:=by
 obtain ⟨mA,O,r,_,_,_⟩:=v55 I.hok e;have hn:mA m=none:=RelO.none_of (by rw [<- l];exact r m);exact vh0 I.kIn O (c.get m) k.at_ k.fn hn h
theorem Inv.made (I:Inv X pins σ H s):Inv X pins σ (upd (upd H s.heap.objs.size (.own (s.heap.objs.size+1))) (s.heap.objs.size+1) (.ins C s.heap.objs.size []))
  { s with heap:=(s.heap.push W.emptyDict).push (W.instObj C s.heap.objs.size) }:=by
 have e1:(s.heap.push W.emptyDict).get? s.heap.objs.size=some W.emptyDict:=Heap.get?_push_size s.heap rfl;have e2:((s.heap.push W.emptyDict).push (W.instObj C s.heap.objs.size)).get? (s.heap.objs.size+1)=some (W.instObj C s.heap.objs.size):=by
  have:=Heap.get?_push_size (s.heap.push W.emptyDict) (o:=W.instObj C s.heap.objs.size) rfl
  rwa [Heap.size_push] at this
 have e3:(s.heap.push W.emptyDict).Ns s.heap.objs.size (fun _=>none):=⟨W.emptyDict,#[],_,e1,rfl,(fun e he=>absurd he (by simp)),fun _=>rfl⟩;have I1:=I.laid (a:=s.heap.objs.size) (o:=.own (s.heap.objs.size+1)) (h':=s.heap.push W.emptyDict) (t':=s.toks) (fun b u q=>Heap.get?_push_of_some _ q) (Nat.le_refl _) ⟨_,e1⟩;refine I1.laid (a:=s.heap.objs.size+1) (o:=.ins C s.heap.objs.size []) (t':=s.toks) (fun b u q=>Heap.get?_push_of_some _ q) (Nat.le_of_eq (Heap.size_push _ _)) ?_;have ne:s.heap.objs.size ≠ s.heap.objs.size+1:=Nat.ne_of_lt (Nat.lt_succ_self _);refine ⟨by rw [u09 ne,u20],Nat.zero_le _,ne,e2,fun _=>none,(Heap.Ns1.of_empty e3).at fun o q=>Heap.get?_push_of_some _ q,fun _=>True.intro,fun y hy=>absurd rfl hy⟩
theorem w04 {prog:Program} {w:World} {env:Env} {e:Expr} {f:Str} {pos:Pos} {s:Shared} {Q:Value->Shared->Prop} (hb:attributeBase e f env (eval e env)=eval e env)
  (h:wpAny (model prog w) A (eval e env) (fun o s₁=>wpAny (model prog w) A (getAttr o f true) Q E s₁) E s):wpAny (model prog w) A (eval (.Attribute e f pos) env) Q E s :=
 Attribute_any_ h (by rw [arm_eval_Attribute,hb])
end
section
variable {X:Cx} {pins:List (Addr × Obj)} {σ:St} {H:Hp} {s:Shared} {A:Around} {E:Value->Shared->Prop} {Q:Value->Shared->Prop} {c:Value} {b:Bool}
inductive TyOf (K:W.Frag) (H:Hp):V->Value->Prop where
 | non:TyOf K H .non (.type "NoneType")
 | bl (x:Bool):TyOf K H (.bl x) (.type "bool")
 | int (i:Int):TyOf K H (.int i) (.type "int")
 | str (x:Str):TyOf K H (.str x) (.type "str")
 | flt (x:UInt64):TyOf K H (.flt x) (.type "float")
 | lst {a:Addr} {xs:List V} (e:H a=some (.lst xs)):TyOf K H (.ref a) (.type "list")
 | frz {a:Addr} {o:Obj} {xs:List V} (e:H a=some (.frz o (.lst xs))):TyOf K H (.ref a) (.type "list")
 | tup {a:Addr} {xs:List V} (e:H a=some (.tup xs)):TyOf K H (.ref a) (.type "tuple")
 | dK {a:Addr} {kvs:List (Key × V)} (e:H a=some (.dK kvs)):TyOf K H (.ref a) (.type "dict")
 | dT {a:Addr} {kvs:List (List Key × V)} (e:H a=some (.dT kvs)):TyOf K H (.ref a) (.type "dict")
 | ins {a C dx:Addr} {fs:List (Str × V)} (e:H a=some (.ins C dx fs)) (cl:Cls K C) (ha:W.findIn K (.ref C) "__class__" = some (some (.builtin "object.__class__")))
   (hn:W.specialIn K (.builtin "object.__class__") "__get__" = some (some (.builtin "getset_descriptor.__get__"))) (htk:W.takesIn K (.builtin "object.__class__")=some true)
   (hm:W.mroIn K C (.type "object")=some true):TyOf K H (.ref a) (.ref C)
theorem u50 {x:V} {u t:Value} (I:Inv X pins σ H s) (rx:RelV x u) (ty:TyOf X.K H x t) (e:W.kitOne X.K t c=some b) (h:∀ tk,Q (.bool b) { s with toks:=tk }) :
  wpAny (model X.prog X.w) A (call (.builtin "isinstance") [u,c]) Q E s:=by
 cases ty with
 | non=>cases (show u=Value.none from rx);exact W.kia_one W.kitx_none I.kIn True.intro e (fun z=>nomatch z) h
 | bl y=>cases (show u=Value.bool y from rx);exact W.kia_one W.kitx_bool I.kIn True.intro e (fun z=>nomatch z) h
 | int i=>obtain ⟨t,q⟩:=(show ∃ t,u=Value.int i t from rx);cases q;exact W.kia_one W.kitx_int I.kIn True.intro e (fun z=>nomatch z) h
 | str y=>obtain ⟨t,q⟩:=(show ∃ t,u=Value.str y t from rx);cases q;exact W.kia_one W.kitx_str I.kIn True.intro e (fun z=>nomatch z) h
 | flt y=>obtain ⟨t,q⟩:=(show ∃ t,u=Value.float y t from rx);cases q;exact W.kia_one W.kitx_float I.kIn True.intro e (fun z=>nomatch z) h
 | @lst a xs ea =>
  cases (show u=Value.ref a from rx);obtain ⟨_,_,n,_,h1⟩:=(show ObjOk X.prog X.w H s.heap a (.lst xs) from I.hok a _ ea);exact W.kia_one W.kitx_list I.kIn ⟨_,h1,rfl⟩ e (fun z=>nomatch z) h
 | @frz a ob xs ea =>
  cases (show u=Value.ref a from rx);obtain ⟨_,_,_,n,_,h1⟩:=(show ObjOk X.prog X.w H s.heap a (.frz ob (.lst xs)) from I.hok a _ ea);exact W.kia_one W.kitx_list I.kIn ⟨_,h1,rfl⟩ e (fun z=>nomatch z) h
 | @tup a xs ea =>
  cases (show u=Value.ref a from rx);obtain ⟨_,_,_,p⟩:=(show ObjOk X.prog X.w H s.heap a (.tup xs) from I.hok a _ ea);obtain ⟨o,h1,h2,_⟩:=p;exact W.kia_one W.kitx_tuple I.kIn ⟨o,h1,h2⟩ e (fun z=>nomatch z) h
 | @dK a kvs ea =>
  cases (show u=Value.ref a from rx);obtain ⟨_,_,vs,_,p⟩:=(show ObjOk X.prog X.w H s.heap a (.dK kvs) from I.hok a _ ea);obtain ⟨o,es,ep,h1,h2,_⟩:=p;exact W.kia_one W.kitx_dict I.kIn ⟨o,h1,h2.1⟩ e (fun z=>nomatch z) h
 | @dT a kvs ea =>
  cases (show u=Value.ref a from rx);obtain ⟨_,_,xs,_,o,es,ep,h1,h2,_⟩:=(show ObjOk X.prog X.w H s.heap a (.dT kvs) from I.hok a _ ea);exact W.kia_one W.kitx_dict I.kIn ⟨o,h1,h2.1⟩ e (fun z=>nomatch z) h
 | @ins a C dx fs ea cl ha hn htk hm =>
  cases (show u=Value.ref a from rx);obtain ⟨mA,O,_⟩:=v55 I.hok ea;obtain ⟨od,J,_⟩:=O.look;exact W.kia_one (W.kitx_own (cl.get _) cl.hd ha hn htk hm) I.kIn J e (fun z=>nomatch z) h
end
structure Room (k:Nat) (A:Around):Prop where
 hd:A.handled=none
 dp:A.depth+3 * k+5 < recursionLimit
 un:A.units+16 * k+200 < cLine
theorem Room.mono {j k:Nat} {A:Around} (r:Room k A) (h:j<=k):Room j A:=⟨r.hd,by have:=r.dp;omega,by have:=r.un;omega⟩
theorem Room.deeper {k:Nat} {A:Around} (r:Room (k+1) A) (env:Env):Room k (A.deeper env) :=
 ⟨r.hd,by have:=r.dp;show A.depth+1+3 * k+5 < _;omega,by have:=r.un;show A.units+3+16 * k+200 < _;omega⟩
theorem Room.in1 {k:Nat} {A:Around} (r:Room (k+1) A):Room k A.in1 :=
 ⟨r.hd,by have:=r.dp;show A.depth+3 * k+5 < _;omega,by have:=r.un;show A.units+1+16 * k+200 < _;omega⟩
theorem uw0 {A:Around} {C:Addr} {us:List Value} {kw:List (Str × Value)}:(A.under (.builtin "type.__call__" ⟨.ref C::us,kw⟩)).depth=A.depth+1:=by
 first | rfl | simp [Around.under,Code.weight,Code.isCreation,Code.isGuard,Code.isCaller,Code.frames,Code.isFrame,guardIds]
theorem uv9 {A:Around} {C:Addr} {us:List Value} {kw:List (Str × Value)}:(A.under (.builtin "type.__call__" ⟨.ref C::us,kw⟩)).units=A.units+1:=by
 first | rfl | simp [Around.under,Code.cUnits,Code.frames,Code.isFrame]
theorem Room.make {k:Nat} {A:Around} (r:Room (k+1) A) (C:Addr) (us:List Value) (kw:List (Str × Value)):Room k (A.under (.builtin "type.__call__" ⟨.ref C::us,kw⟩)) :=
 ⟨r.hd,by have:=r.dp;rw [uw0];omega,by have:=r.un;rw [uv9];omega⟩
theorem Room.depth {k:Nat} {A:Around} (r:Room k A):A.depth < recursionLimit:=by have:=r.dp;omega
theorem Room.units {k:Nat} {A:Around} (r:Room k A):A.units+64 < cLine:=by have:=r.un;omega
def tNil:TA:=fun _ H Q=>Q [] H
def uv2 (ta:TE) (tr:TA):TA:=fun σ H Q=>ta σ H fun x H1=>tr σ H1 fun xs H2=>Q (x::xs) H2
section
variable {X:Cx} {e:Expr} {es:List Expr} {te:TE} {t:TA} {pos:Pos}
theorem vl8:PA X [] tNil:=fun _ _ _ _ H Q I h=>Calls.spliced_nil ⟨[],H,I,.nil,h⟩
theorem uo1 (ha:PE X e te) (hr:PA X es t) (hs:starEach (e::es) X.env=(false,eval e X.env)::starEach es X.env:=by rfl):PA X (e::es) (uv2 te t):=by
 intro pos pins s σ H Q I h;rw [hs]
 show wpAny _ _ (spliced ((false,eval e X.env)::backTo pos (starEach es X.env))) _ _ s
 (refine Calls.spliced_cons (thn (ha pins s σ H _ I h) ?_);rintro u s1 ⟨x,H1,I1,r1,q1⟩)
 (refine thn (hr pos pins s1 σ H1 _ I1 q1) ?_;rintro us s2 ⟨xs,H2,I2,r2,q2⟩;exact ⟨x::xs,H2,I2,.cons r1 r2,q2⟩)
def tTup (t:TA):TE:=fun σ H Q=>t σ H fun xs H1=>xs.length<=sizeLine /\ ∀ p,H1 p=none->Q (.ref p) (upd H1 p (.tup xs))
def tLst (t:TA):TE:=fun σ H Q=>t σ H fun xs H1=>xs.length<=sizeLine /\ ∀ p,H1 p=none->Q (.ref p) (upd H1 p (.lst xs))
theorem w72 {x1} (h:PA X es t):PE X (.Tuple es x1 pos) (tTup t):=by
 intro pins s σ H Q I hq;refine wpAny_Tuple_spliced (thn (h pos pins s σ H _ I hq) fun us s1 ⟨xs,H1,I1,r,z,q⟩=>⟨by rw [<- r.length];exact z,?_⟩);have hf:H1 s1.heap.objs.size=none:=I1.hok.fresh (Nat.le_refl _);refine ⟨.ref s1.heap.objs.size,upd H1 s1.heap.objs.size (.tup xs),I1.laid (t':=s1.toks) (fun b u e=>Heap.get?_push_of_some _ e) (Nat.le_refl _) ?_,rfl,q _ hf⟩;exact ⟨z,us,r,⟨_,Heap.get?_push_size _ rfl,rfl,⟨_,rfl⟩,rfl⟩⟩
theorem w79 (h:PA X es t):PE X (.List es pos) (tLst t):=by
 intro pins s σ H Q I hq;refine wpAny_List_spliced (thn (h pos pins s σ H _ I hq) fun us s1 ⟨xs,H1,I1,r,z,q⟩=>⟨by rw [<- r.length];exact z,?_⟩);have hf:H1 s1.heap.objs.size=none:=I1.hok.fresh (Nat.le_refl _);refine ⟨.ref s1.heap.objs.size,upd H1 s1.heap.objs.size (.lst xs),I1.laid (t':=s1.toks) (fun b u e=>Heap.get?_push_of_some _ e) (Nat.le_refl _) ?_,rfl,q _ hf⟩;exact ⟨z,us,0,r,Heap.get?_push_size _ rfl⟩
end
abbrev Sp:=List V->Hp->VK->XK->Prop
abbrev CXT:=List Env->Hp->Shared->XK->Value->Shared->Prop
structure Env0 (P:Program) (w:World) (K:W.Frag) (mg:Str->Option Value) (base:Heap) (A:Around) (outer:List Env) (s:Shared) (H:Hp):Prop where
 frames:A.frames=some outer
 mod:Mod K mg base
 bs:∀ b o,base.get? b=some o->s.heap.get? b=some o /\ H b=none
 bsz:base.objs.size<=s.heap.objs.size
 funs:s.heap.FunFrames base outer
 frf:∀ b ∈ frs outer,H b=none
 hok:HOk P w H s.heap
 bare:AllBare s.gens
def CE (outer:List Env) (P:Program) (w:World) (H:Hp) (s:Shared) (Q:VK) (u:Value) (s':Shared):Prop :=
 ∃ v H',s'.os=s.os /\ AllBare s'.gens /\ Un (frs outer) [] H H' s.heap s'.heap /\ HOk P w H' s'.heap /\ RelV v u /\ Q v H'
def CR (CX:CXT) (outer:List Env) (P:Program) (w:World) (H:Hp) (s:Shared) (Q:VK) (E:XK) (r:Result) (s':Shared):Prop :=
 match r with
 | .ok (.ret u)=>CE outer P w H s Q u s'
 | .ok _=>False
 | .error e=>CX outer H s E e s'
structure FnOk (P:Program) (w:World) (K:W.Frag) (mg:Str->Option Value) (base:Heap) (CX:CXT) (k:Nat) (f:Addr) (fd:FuncData) (ps:List Str) (sp:Sp):Prop where
 len:∀ vs H Q E,sp vs H Q E->vs.length=ps.length
 run:∀ (A:Around) (outer:List Env) (s:Shared) (H:Hp) (args:Args) (us:List Value) (vs:List V) (Q:VK) (E:XK),Room k A->Env0 P w K mg base A outer s H->BindsTo s fd args (ps.zip us)->Vals vs us->sp vs H Q E ->
  codeAny (model P w) A (.call (.ref f) args) (CR CX outer P w H s Q E) s
theorem FnOk.mono {P:Program} {w:World} {K:W.Frag} {mg:Str->Option Value} {base:Heap} {CX:CXT} {j k:Nat} {f:Addr} {fd:FuncData} {ps:List Str} {sp:Sp} (F:FnOk P w K mg base CX j f fd ps sp) (h:j<=k) :
  FnOk P w K mg base CX k f fd ps sp:=⟨F.len,fun A outer s H args us vs Q E hr=>F.run A outer s H args us vs Q E (hr.mono h)⟩
theorem FnOk.imp {P:Program} {w:World} {K:W.Frag} {mg:Str->Option Value} {base:Heap} {CX:CXT} {k:Nat} {f:Addr} {fd:FuncData} {ps:List Str} {sp sp':Sp} (F:FnOk P w K mg base CX k f fd ps sp)
  (h:∀ vs H Q E,sp' vs H Q E->sp vs H Q E):FnOk P w K mg base CX k f fd ps sp' :=
 ⟨fun vs H Q E q=>F.len vs H Q E (h _ _ _ _ q),fun A outer s H args us vs Q E hr he hb hv hs=>F.run A outer s H args us vs Q E hr he hb hv (h _ _ _ _ hs)⟩
theorem Env0.make {P:Program} {w:World} {K:W.Frag} {mg:Str->Option Value} {base:Heap} {A:Around} {outer:List Env} {s:Shared} {H:Hp} (e:Env0 P w K mg base A outer s H) (C:Addr) (us:List Value) (kw:List (Str × Value)) :
  Env0 P w K mg base (A.under (.builtin "type.__call__" ⟨.ref C::us,kw⟩)) outer s H:=⟨by first | exact e.frames | (simpa [Around.under,Code.envs,Code.isFrame,pushEnvs] using e.frames),e.mod,e.bs,e.bsz,e.funs,e.frf,e.hok,e.bare⟩
theorem Env0.in1 {P:Program} {w:World} {K:W.Frag} {mg:Str->Option Value} {base:Heap} {A:Around} {outer:List Env} {s:Shared} {H:Hp} (e:Env0 P w K mg base A outer s H) :
  Env0 P w K mg base A.in1 outer s H:=⟨e.frames,e.mod,e.bs,e.bsz,e.funs,e.frf,e.hok,e.bare⟩
section
variable {X:Cx} {pins:List (Addr × Obj)} {σ:St} {H:Hp} {s s':Shared}
theorem Inv.env0 (I:Inv X pins σ H s):Env0 X.prog X.w X.K X.mg X.base X.A X.stack s H :=
 ⟨I.ok.frames,I.ok.mod,I.bs,Nat.le_trans I.ok.bsz I.sz,I.stack,I.stkFree,I.hok,I.bare⟩
theorem Inv.after {Q:VK} {u:Value} (I:Inv X pins σ H s) (h:CE X.stack X.prog X.w H s Q u s'):EP X pins σ Q u s':=by
 obtain ⟨v,H',os,bare,un,hok,r,q⟩:=h;obtain ⟨hh,g,d,t,os'⟩:=s';obtain rfl:os'=s.os:=os;exact ⟨v,H',I.call (h':=hh) (g':=g) (d':=d) (t':=t) (ch:=[]) un hok bare (fun b z=>absurd z (by simp)),r,q⟩
end
def vq7 (sp:Sp) (dvs:List V) (E:XK) (t:TA):TE:=fun σ H Q=>t σ H fun vs H1=>sp (vs++dvs) H1 Q E
def w46 (C:Addr) (m:Str) (sp:Sp) (dvs:List V) (E:XK) (ta:TE) (t:TA):TE:=fun σ H Q=>ta σ H fun x H1=>∃ a dx fs,x=.ref a /\ H1 a=some (.ins C dx fs) /\ fs.lookup m=none /\
 t σ H1 fun vs H2=>sp (x::(vs++dvs)) H2 Q E
def Binds (K:W.Frag) (fd:FuncData) (ps:List Str) (ds:List Value):Prop :=
 ∀ (s:Shared) (us:List Value),K.In s.heap->(us++ds).length=ps.length->BindsTo s fd ⟨us,[]⟩ (ps.zip (us++ds))
theorem Binds.all {K:W.Frag} {fd:FuncData} {ps:List Str} (h:∀ us:List Value,us.length=ps.length->bindArgs fd ⟨us,[]⟩=pure (ps.zip us)):Binds K fd ps []:=fun s us _ hl=>by
 rw [List.append_nil] at hl ⊢;exact .of_eq (h us hl)
def Passes (CX:CXT) (X:Cx) (E:XK):Prop:=∀ (pins:List (Addr × Obj)) (σ:St) (H:Hp) (s:Shared) (e:Value) (s':Shared),Inv X pins σ H s->CX X.stack H s E e s'->X.xe e s'
section
variable {X:Cx} {CX:CXT} {k:Nat} {f C:Addr} {fd:FuncData} {ps:List Str} {sp:Sp} {dvs:List V} {ds:List Value} {E:XK} {x m:Str} {p pos apos:Pos} {e o:Expr} {es:List Expr} {ta:TE} {t:TA}
theorem vl5 {pins:List (Addr × Obj)} {σ:St} {H:Hp} {s:Shared} {Q:VK} {us:List Value} {vs:List V} (F:FnOk X.prog X.w X.K X.mg X.base CX k f fd ps sp) (hr:Room k X.A) (hb:Binds X.K fd ps ds) (hd:Vals dvs ds) (hx:Passes CX X E)
  (I:Inv X pins σ H s) (r:Vals vs us) (h:sp (vs++dvs) H Q E):wpAny (model X.prog X.w) X.A (call (.ref f) us) (EP X pins σ Q) X.xe s:=by
 have r2:Vals (vs++dvs) (us++ds):=r.append hd;have hl:(us++ds).length=ps.length:=by rw [<- r2.length];exact F.len _ _ _ _ h
 refine wpAny_call (codeAny_mono (F.run X.A X.stack s H ⟨us,[]⟩ (us++ds) (vs++dvs) Q E hr I.env0 (hb s us I.kIn hl) r2 h) fun r s' hq=>?_);cases r with
 | error e=>exact hx pins σ H s e s' I hq
 | ok fl =>
  cases fl with
  | ret u=>exact I.after hq
  | next=>exact False.elim hq
  | brk=>exact False.elim hq
  | cont=>exact False.elim hq
theorem v16 (F:FnOk X.prog X.w X.K X.mg X.base CX k f fd ps sp) (hr:Room k X.A) (hg:Gl X x) (hm:X.mg x=some (.ref f)) (hk:W.keepIn X.K (.ref f)=true) (hb:Binds X.K fd ps ds) (hd:Vals dvs ds) (hx:Passes CX X E)
  (ha:PA X (e::es) t) (hdb:(x == ("__debug__" : Str))=false:=by decide) (he:starEach (e::es) X.env=(false,eval e X.env)::starEach es X.env:=by rfl) (hpl:(backTo pos (starEach es X.env)).any (·.1)=false:=by rfl) :
  PE X (.Call (.Name x p) (e::es) [] pos) (vq7 sp dvs E t):=by
 intro pins s σ H Q I h;refine wpAny_Call_Name_kw (ua4 I hg hm ?_ hdb)
 (refine W.callWith_K (h₀:=X.base) I.ok.mod.kin hk (thn (ha pos pins s σ H _ I h) ?_) he hpl;rintro us s1 ⟨vs,H1,I1,r,q⟩;refine ⟨I1.kIn,?_⟩)
 exact vl5 F hr hb hd hx I1 r q
theorem vu6 {pl:Sem Bool} (he:PE X o ta) (c:Cls X.K C) (hm:Meth X.K C m f) (F:FnOk X.prog X.w X.K X.mg X.base CX k f fd ps sp) (hr:Room k X.A) (hb:Binds X.K fd ps ds) (hd:Vals dvs ds) (hx:Passes CX X E) (ha:PA X (e::es) t)
  (hst:starEach (e::es) X.env=(false,eval e X.env)::starEach es X.env:=by rfl) (hpl:(backTo pos (starEach es X.env)).any (·.1)=false:=by rfl)
  (ht:eval (.Call (.Attribute o m apos) (e::es) [] pos) X.env=(do
   let ov <- eval o X.env
   standAt apos.atName
   let (f,first) <- holding [ov] (getMethod ov m pl)
   callWith pos f first (backTo pos (starEach (e::es) X.env)) (backToKw pos (keywordEach [] X.env))):=by rfl) :
  PE X (.Call (.Attribute o m apos) (e::es) [] pos) (w46 C m sp dvs E ta t):=by
 intro pins s σ H Q I h
 (refine W.methodCall_KW (pl:=pl) (thn (he pins s σ H _ I h) ?_) ht;rintro u s1 ⟨x,H1,I1,rx,a,dx,fs,ex,ea,l,q⟩)
 subst ex;obtain rfl:u=Value.ref a:=rx;refine uw9 I1 ea c hm l ?_
 (refine W.callWith_K (first:=[.ref a]) (h₀:=X.base) I.ok.mod.kin hm.kp (thn (ha pos pins s1 σ H1 _ I1 q) ?_) hst hpl;rintro us s2 ⟨vs,H2,I2,r,q2⟩;refine ⟨I2.kIn,?_⟩)
 exact vl5 (us:=.ref a::us) (vs:=.ref a::vs) F hr hb hd hx I2 (.cons rfl r) q2
end
structure FnScope (N P:List Str) (sc:Scope):Prop where
 kind:sc.kind=.function
 co:sc.isCoroutine=false
 gen:sc.isGenerator=false
 nd:N.Nodup
 pre:N.take P.length=P
 par:∀ x ∈ P,sc.names.lookup x=some .local \/ sc.names.lookup x=some .cell
 nofree:∀ y ∈ sc.names,y.2 ≠ .free
theorem um1 {kindOf:Str->Option NameKind} {x:Str}:∀ {binds:List (Str × Value)} {m:Str->Option Value},(∀ v,(x,v) ∉ binds)->bindL kindOf binds m x=m x
 | [],_,_=>rfl
 | (n,v)::r,m,h=>by
  unfold bindL;rw [um1 fun w hw=>h w (List.mem_cons_of_mem _ hw)];split
  ·have:x ≠ n:=by rintro rfl;exact h v List.mem_cons_self
   simp [this]
  ·rfl
theorem um3 {kindOf:Str->Option NameKind} {x:Str}:∀ {binds:List (Str × Value)} {m:Str->Option Value},(∀ v,(x,v) ∉ binds)->bindC kindOf binds m x=m x
 | [],_,_=>rfl
 | (n,v)::r,m,h=>by
  unfold bindC;rw [um3 fun w hw=>h w (List.mem_cons_of_mem _ hw)];split
  ·rfl
  ·have:x ≠ n:=by rintro rfl;exact h v List.mem_cons_self
   simp [this]
theorem um2 {kindOf:Str->Option NameKind} {x:Str} {v:Value}:∀ {P:List Str} {vs:List Value} {i:Nat} {m:Str->Option Value},P.Nodup->P[i]?=some x->vs[i]?=some v->kindOf x=some .local ->
  bindL kindOf (P.zip vs) m x=some v
 | [],_,_,_,_,h,_,_=>by simp at h
 | _::_,[],_,_,_,_,h,_=>by simp at h
 | p::P,w::vs,0,m,nd,h1,h2,hk=>by
  simp at h1 h2;subst h1;subst h2
  show bindL kindOf ((p,w)::P.zip vs) m p=_
  unfold bindL;rw [um1 fun v hv=>(List.nodup_cons.mp nd).1 (List.of_mem_zip hv).1,if_pos hk];simp
 | p::P,w::vs,i+1,m,nd,h1,h2,hk=>by
  show bindL kindOf ((p,w)::P.zip vs) m x=_
  unfold bindL;exact um2 (i:=i) (List.nodup_cons.mp nd).2 (by simpa using h1) (by simpa using h2) hk
theorem um4 {kindOf:Str->Option NameKind} {x:Str} {v:Value}:∀ {P:List Str} {vs:List Value} {i:Nat} {m:Str->Option Value},P.Nodup->P[i]?=some x->vs[i]?=some v->kindOf x ≠ some .local ->
  bindC kindOf (P.zip vs) m x=some v
 | [],_,_,_,_,h,_,_=>by simp at h
 | _::_,[],_,_,_,_,h,_=>by simp at h
 | p::P,w::vs,0,m,nd,h1,h2,hk=>by
  simp at h1 h2;subst h1;subst h2
  show bindC kindOf ((p,w)::P.zip vs) m p=_
  unfold bindC;rw [um3 fun v hv=>(List.nodup_cons.mp nd).1 (List.of_mem_zip hv).1,if_neg hk];simp
 | p::P,w::vs,i+1,m,nd,h1,h2,hk=>by
  show bindC kindOf ((p,w)::P.zip vs) m x=_
  unfold bindC;exact um4 (i:=i) (List.nodup_cons.mp nd).2 (by simpa using h1) (by simpa using h2) hk
def start (N:List Str) (vs:List V):St:=vs.map some++List.replicate (N.length - vs.length) none
def cxOf (CX:CXT) (P:Program) (w:World) (K:W.Frag) (mg:Str->Option Value) (base:Heap) (N:List Str) (qual:Str) (scope:Scope) (f:Addr) (cd:Value) (A:Around) (outer:List Env) (s:Shared) (H:Hp) (E:XK):Cx where
 prog:=P
 w:=w
 K:=K
 mg:=mg
 base:=base
 A:=A.deeper (envOfC qual scope s.heap.objs.size f cd)
 N:=N
 s₀:=s
 H₀:=H
 env:=envOfC qual scope s.heap.objs.size f cd
 outer:=outer
 stack:=envOfC qual scope s.heap.objs.size f cd::outer
 ex:=[]
 calm:=true
 fn:=fun _=>true
 pn:=[]
 xe:=fun e s'=>wpAny (model P w) (A.deeper (envOfC qual scope s.heap.objs.size f cd)) (leaving (envOfC qual scope s.heap.objs.size f cd) e) (fun _ s''=>CX outer H s E e s'') (fun e' s''=>CX outer H s E e' s'') s'
theorem uu2 {sc:Scope} {n:Nat} {x:Str} (h:sc.names.lookup x=some .cell):∃ c,(cellsFrom n sc.names []).lookup x=some c:=by
 have q:=W.cellsFrom_some sc.names n [] (.inl h);exact Option.isSome_iff_exists.mp q
theorem v53 {CX:CXT} {P:Program} {w:World} {K:W.Frag} {mg:Str->Option Value} {base:Heap} {N ps:List Str} {qual:Str} {scope:Scope} {f:Addr} {cd:Value} {A:Around} {outer:List Env} {s s1:Shared} {H:Hp} {E:XK} {us:List Value} {vs:List V}
  (S:FnScope N ps scope) (hd:A.handled=none) (e0:Env0 P w K mg base A outer s H) (hl:vs.length=ps.length) (r:Vals vs us)
  (x:InCallC s s.heap.objs.size (bindL (envOfC qual scope s.heap.objs.size f cd).kindOf (ps.zip us) fun _=>none) (cellsFrom (s.heap.objs.size+1) scope.names []) (bindC (envOfC qual scope s.heap.objs.size f cd).kindOf (ps.zip us) fun _=>none) s1) :
  Inv (cxOf CX P w K mg base N qual scope f cd A outer s H E) [] (start N vs) H s1:=by
 have hpl:ps.length<=N.length:=by have:=congrArg List.length S.pre;rw [List.length_take] at this;omega
 obtain ⟨h1,tk,rfl,hk⟩:=x.done;have noA:∀ b:Addr,b ∉ (cxOf CX P w K mg base N qual scope f cd A outer s H E).ex:=fun b z=>absurd (show b ∈ ([]:List Addr) from z) (by simp)
 refine ⟨⟨e0.mod,S.kind,rfl,rfl,Nat.le_refl _,fun y z c h1 h2=>?_,fun y hy=>?_,fun y c _ h=>?_,fun _=>hd,Around.frames_deeper e0.frames,.inr ⟨rfl,rfl⟩,fun b z=>absurd z (noA b),e0.bs,e0.bsz,fun b _ _=>noA b,fun b z=>absurd z (noA b),e0.funs,e0.frf⟩,
  rfl,e0.bare,Un.kept hk,⟨_,x.toInCall.ns,fun i y v h1 h2 h3=>?_⟩,fun y c h=>⟨_,x.cell y c h⟩,e0.hok.fresh (Nat.le_refl _),fun y c h=>?_,fun p hp=>absurd (show p ∈ ([]:List (Addr × Obj)) from hp) (by simp),e0.hok.kept hk,?_⟩
 ·exact name_of_addr x.apart (PySem.mem_of_lookup h1) (PySem.mem_of_lookup h2)
 ·have hy:scope.names.lookup y=some .cell \/ scope.names.lookup y=some .free:=hy
  rcases hy with hy | hy
  ·exact uu2 hy
  ·exact absurd rfl (S.nofree _ (PySem.mem_of_lookup hy))
 ·exact Nat.le_of_lt (x.above y c (PySem.mem_of_lookup h))
 ·have hi:i < vs.length:=by
   unfold start at h2
   by_cases hi:i < vs.length
   ·exact hi
   ·rw [List.getElem?_append_right (by simpa using hi)] at h2
    rw [List.getElem?_replicate] at h2;split at h2 <;> cases h2
  have ha:vs[i]?=some v:=by
   unfold start at h2;rw [List.getElem?_append_left (by simpa using hi),List.getElem?_map] at h2;cases e:vs[i]? with
   | none=>rw [e] at h2;cases h2
   | some a=>rw [e] at h2;cases h2;rfl
  obtain ⟨u,hu,rv⟩:=r.get ha;have hp:ps[i]?=some y:=by
   rw [<- S.pre,List.getElem?_take_of_lt (by omega)];exact h1
  have ndP:ps.Nodup:=by rw [<- S.pre];exact S.nd.sublist (List.take_sublist _ _)
  refine ⟨u,rv,?_⟩
  rcases S.par y (List.mem_of_getElem? hp) with k | k
  ·exact .inl ⟨k,um2 ndP hp hu k⟩
  ·obtain ⟨c,e⟩:=uu2 (n:=s.heap.objs.size+1) k
   refine .inr ⟨.inl k,c,e,?_⟩;have q:=x.cell y c e;rw [um4 ndP hp hu (by show scope.names.lookup y ≠ _;rw [k];decide)] at q;exact q
 ·exact e0.hok.fresh (Nat.le_of_lt (x.above y c (PySem.mem_of_lookup h)))
 ·unfold start
  show _=N.length
  rw [List.length_append,List.length_map,List.length_replicate];omega
theorem vy8 {CX:CXT} {P:Program} {w:World} {K:W.Frag} {mg:Str->Option Value} {base:Heap} {k:Nat} {f:Addr} {name qual:Str} {params:Arguments} {body:List Stmt} {scope:Scope} {dV kV doc pm cdv ct oc:Value} {an od:Option Addr}
  {osl:Array (Option Value)} {N ps:List Str} {sp:Sp} (lk:K.lookup f=some ⟨oc,od,.func (W.fnOf name qual params body scope dV kV doc pm an cdv ct),osl⟩) (hcd:W.codeIn K cdv qual=true) (S:FnScope N ps scope)
  (len:∀ vs H Q E,sp vs H Q E->vs.length=ps.length)
  (hbody:∀ (A:Around) (outer:List Env) (s:Shared) (H:Hp) (vs:List V) (Q:VK) (E:XK),Room k (A.deeper (envOfC qual scope s.heap.objs.size f cdv))->sp vs H Q E ->
   ∃ t,PSs (cxOf CX P w K mg base N qual scope f cdv A outer s H E) body t /\ t { nx:=fun _ H'=>Q .non H',rt:=Q } (start N vs) H) :
  FnOk P w K mg base CX (k+1) f (W.fnOf name qual params body scope dV kV doc pm an cdv ct) ps sp:=by
 refine ⟨len,fun A outer s H args us vs Q E hr e0 hb r hsp=>?_⟩;have hl:=len _ _ _ _ hsp;have KX:K.In s.heap:=e0.mod.kin.keeps fun b o e=>(e0.bs b o e).1
 have lim:s.heap.NoLimit:=e0.mod.nolimit.keeps fun b o e=>(e0.bs b o e).1
 have hkind:∀ y ∈ ps.zip us,scope.names.lookup y.1=some .local \/ (scope.names.lookup y.1=some .cell /\ ((cellsFrom (s.heap.objs.size+1) scope.names []).lookup y.1).isSome=true):=fun ⟨n,v⟩ hy=>by
  rcases S.par n (List.of_mem_zip hy).1 with q | q
  ·exact .inl q
  ·exact .inr ⟨q,W.cellsFrom_some _ _ _ (.inl q)⟩
 refine codeAny_call_function hr.depth (KX _ _ lk) rfl S.co S.gen rfl (W.codeRec_of KX hcd) (hb _ _ _ _ ?_);refine wpAny_newFunctionEnv_cells S.kind hkind fun env he s1 x=>?_
 subst he;refine ⟨lim.keeps x.toInCall.keep,codeAny_func ?_⟩;obtain ⟨t,ht,hq⟩:=hbody A outer s H vs Q E (hr.deeper _) hsp;have I:Inv (cxOf CX P w K mg base N qual scope f cdv A outer s H E) [] (start N vs) H s1:=v53 S hr.hd e0 hl r x;refine wpAny_mono (ht [] s1 (start N vs) H _ I hq) (fun fl s' hs=>?_) fun e s' hs=>hs
 have fin:∀ {σ':St} {H':Hp} {v:V} {u:Value},Inv (cxOf CX P w K mg base N qual scope f cdv A outer s H E) [] σ' H' s'->RelV v u->Q v H'->CE outer P w H s Q u s' :=
  fun {σ' H' v u} J rv q=>⟨v,H',J.os,J.bare,J.base,J.hok,rv,q⟩
 cases fl with
 | ret u =>
  obtain ⟨v,σ',H',J,rv,q⟩:=hs;exact fin J rv q
 | next =>
  obtain ⟨σ',H',J,q⟩:=hs;exact fin (v:=V.non) (u:=Value.none) J rfl q
 | brk =>
  obtain ⟨_,_,_,q⟩:=hs;exact False.elim q
 | cont =>
  obtain ⟨_,_,_,q⟩:=hs;exact False.elim q
section
variable {X:Cx} {x:Str} {p pos:Pos} {e:Expr} {es:List Expr} {t:TA} {id T:String} {r:List V->Hp->VK->Prop}
def tCB (r:List V->Hp->VK->Prop) (t:TA):TE:=fun σ H Q=>t σ H fun vs H1=>r vs H1 Q
theorem ve2 (hc:CallR X (.builtin id) r) (hg:Gl X x) (hm:X.mg x=none) (hv:bootBuiltins x=some (.builtin id)) (ha:PA X (e::es) t) (hn:x ≠ "__name__" := by decide) (hdb:(x == ("__debug__" : Str))=false:=by decide)
  (he:starEach (e::es) X.env=(false,eval e X.env)::starEach es X.env:=by rfl) (hpl:(backTo pos (starEach es X.env)).any (·.1)=false:=by rfl):PE X (.Call (.Name x p) (e::es) [] pos) (tCB r t):=by
 intro pins s σ H Q I h;refine wpAny_Call_Name_kw (ub0 I hg hm hv ?_ hn hdb)
 (refine PyProof.Rows.callWith_builtin1 (thn (ha pos pins s σ H _ I h) ?_) he hpl;rintro us s1 ⟨vs,H1,I1,r1,q1⟩;exact hc pins s1 σ H1 vs us Q I1 r1 q1)
theorem v15 (hc:CallR X (.type T) r) (hg:Gl X x) (hm:X.mg x=none) (hv:bootBuiltins x=some (.type T)) (ha:PA X (e::es) t) (hn:x ≠ "__name__" := by decide) (hdb:(x == ("__debug__" : Str))=false:=by decide)
  (he:starEach (e::es) X.env=(false,eval e X.env)::starEach es X.env:=by rfl) (hpl:(backTo pos (starEach es X.env)).any (·.1)=false:=by rfl):PE X (.Call (.Name x p) (e::es) [] pos) (tCB r t):=by
 intro pins s σ H Q I h;refine wpAny_Call_Name_kw (ub0 I hg hm hv ?_ hn hdb)
 (refine PyProof.Rows.callWith_type1 (thn (ha pos pins s σ H _ I h) ?_) he hpl;rintro us s1 ⟨vs,H1,I1,r1,q1⟩;exact hc pins s1 σ H1 vs us Q I1 r1 q1)
end
section
variable {κ:Type} [DecidableEq κ]
def valV (kvs:List (κ × V)) (k:κ):Option V:=(kvs.find? fun kv=>decide (kv.1=k)).map (·.2)
def putK (kvs:List (κ × V)) (k:κ) (v:V):List (κ × V) :=
 if (kvs.any fun kv=>decide (kv.1=k))=true then kvs.map (fun kv=>if kv.1=k then (kv.1,v) else kv) else kvs++[(k,v)]
def wg2 (kvs:List (κ × V)) (k:κ):List (κ × V):=kvs.filter fun kv=>decide (kv.1 ≠ k)
theorem va7 {p:κ × V} {r:List (κ × V)} {k:κ} (e:p.1=k):valV (p::r) k=some p.2:=by simp [valV,List.find?_cons,e]
theorem va8 {p:κ × V} {r:List (κ × V)} {k:κ} (e:¬ p.1=k):valV (p::r) k=valV r k:=by simp [valV,List.find?_cons,e]
theorem RelO.getD {o:Option V} {u:Option Value} {d:V} {d':Value} (r:RelO o u) (rd:RelV d d'):RelV (o.getD d) (u.getD d'):=by
 cases o with
 | none=>cases u with
  | none=>exact rd
  | some _=>exact (show False from r).elim
 | some _=>cases u with
  | none=>exact (show False from r).elim
  | some _=>exact r
theorem KV.val {kvs:List (κ × V)} {vs:List (κ × Value)} (r:KV kvs vs) (k:κ):RelO (valV kvs k) (valueAt vs k):=by
 unfold KV at r
 induction r with
 | nil=>exact True.intro
 | @cons p q ps qs h t ih =>
  obtain ⟨h1,h2⟩:=h
  by_cases e:p.1=k
  ·have e':q.1=k:=h1.symm.trans e
   have b:valueAt (q::qs) k=some q.2:=by simp [valueAt,List.find?_cons,e']
   rw [va7 e,b];exact h2
  ·have e':¬ q.1=k:=fun z=>e (h1.trans z)
   have b:valueAt (q::qs) k=valueAt qs k:=by simp [valueAt,List.find?_cons,e']
   rw [va8 e,b];exact ih
theorem KV.any {kvs:List (κ × V)} {vs:List (κ × Value)} (r:KV kvs vs) (k:κ):(kvs.any fun kv=>decide (kv.1=k))=vs.any fun kv=>decide (kv.1=k):=by
 unfold KV at r
 induction r with
 | nil=>rfl
 | cons h t ih=>rw [List.any_cons,List.any_cons,ih,h.1]
theorem KV.repl {kvs:List (κ × V)} {vs:List (κ × Value)} (r:KV kvs vs) (k:κ) {y:V} {u:Value} (ry:RelV y u) :
  KV (kvs.map fun kv=>if kv.1=k then (kv.1,y) else kv) (vs.map fun kv=>if kv.1=k then (kv.1,u) else kv):=by
 unfold KV at r ⊢
 induction r with
 | nil=>exact .nil
 | @cons p q ps qs h t ih =>
  rw [List.map_cons,List.map_cons];refine .cons ?_ ih;obtain ⟨h1,h2⟩:=h
  by_cases e:p.1=k
  ·rw [if_pos e,if_pos (h1.symm.trans e)];exact ⟨h1,ry⟩
  ·rw [if_neg e,if_neg (fun z=>e (h1.trans z))];exact ⟨h1,h2⟩
theorem KV.put {kvs:List (κ × V)} {vs:List (κ × Value)} (r:KV kvs vs) (k:κ) {y:V} {u:Value} (ry:RelV y u):KV (putK kvs k y) (stored vs k u):=by
 unfold putK stored;rw [r.any k]
 by_cases e:(vs.any fun kv=>decide (kv.1=k))=true
 ·rw [if_pos e,if_pos e];exact r.repl k ry
 ·rw [if_neg e,if_neg e];exact Paired.snoc r ⟨rfl,ry⟩
theorem KV.drop {kvs:List (κ × V)} {vs:List (κ × Value)} (r:KV kvs vs) (k:κ):KV (wg2 kvs k) (without vs k):=by
 unfold KV at r ⊢;unfold wg2 without
 induction r with
 | nil=>exact .nil
 | @cons p q ps qs h t ih =>
  obtain ⟨h1,h2⟩:=h;rw [List.filter_cons,List.filter_cons]
  by_cases e:p.1=k
  ·have a:¬ decide (p.1 ≠ k)=true:=by simp [e]
   have b:¬ decide (q.1 ≠ k)=true:=by simp [h1.symm.trans e]
   rw [if_neg a,if_neg b];exact ih
  ·have e':¬ q.1=k:=fun z=>e (h1.trans z)
   have a:decide (p.1 ≠ k)=true:=by simp [e]
   have b:decide (q.1 ≠ k)=true:=by simp [e']
   rw [if_pos a,if_pos b];exact .cons ⟨h1,h2⟩ ih
theorem KV.length {kvs:List (κ × V)} {vs:List (κ × Value)} (r:KV kvs vs):kvs.length=vs.length:=Paired.length r
end
end L2
namespace HT
open PySem PyProof.Rows
section
open PySem.SeqAt
open PySem.AutoSeq1 (wpAny_loadPart')
open PySem.MeetsSeq PySem.MeetsSeq2 PySem.MeetsSeq3
end
section
variable {prog:Program} {w:World} {A:Around} {E:Value->Shared->Prop} {s:Shared}
theorem cat_tup {t b:Addr} {vs ws:List Value} {Q:Value->Shared->Prop} (ht:IsTup s.heap t vs.toArray) (hb:IsTup s.heap b ws.toArray) (hv:vs ≠ [])
  (h1:ws=[]->Q (.ref t) s) (h2:ws ≠ []->Q (.ref s.heap.objs.size) { s with heap:=s.heap.push { cls:=.type "tuple",data:=.seq (vs++ws).toArray } })
  (hsz:vs.length+ws.length<=sizeLine):wpAny (model prog w) A (binaryOp .Add (.ref t) (.ref b)) Q E s:=by
 obtain ⟨⟨cls,dd,data,sl⟩,ho,hc,n,hd⟩:=id ht;obtain ⟨⟨cls2,dd2,data2,sl2⟩,ho2,hc2,n2,hd2⟩:=id hb;simp only at hc hd hc2 hd2;subst hc hd hc2 hd2;have e:vs.toArray++ws.toArray=(vs++ws).toArray:=by simp
 by_cases hw:ws=[]
 ·exact concat_meets ⟨_,ho,rfl⟩ ⟨_,ho2,rfl⟩ noFill_tuple_add seq_tuple_add PySem.F.slot_tuple_add PySem.F.entry_tuple_add (PySem.F.args_tuple_add_2 _ _)
   (tuple_addW1 t b vs.toArray ws.toArray n n2 dd dd2 sl sl2 (by simpa using hv) (by simp [hw])) ⟨ho,ho2,h1 hw⟩
 ·refine concat_meets ⟨_,ho,rfl⟩ ⟨_,ho2,rfl⟩ noFill_tuple_add seq_tuple_add PySem.F.slot_tuple_add PySem.F.entry_tuple_add (PySem.F.args_tuple_add_2 _ _)
   (tuple_addW2 t b vs.toArray ws.toArray n n2 dd dd2 sl sl2 (by simpa using hv) (by simpa using hw) (by rw [List.size_toArray,List.size_toArray];exact hsz)) ⟨ho,ho2,?_⟩
  rw [e];exact h2 hw
def sIx (n d:Nat):Option Int->Nat
 | none=>d
 | some v=>if v < 0 then (v+(n:Int)).toNat else min v.toNat n
theorem sIx_none (n d:Nat):sIx n d none=d:=rfl
theorem sIx_nat (n d k:Nat):sIx n d (some (k:Int))=min k n:=by
 show (if (k:Int) < 0 then ((k:Int)+(n:Int)).toNat else min (k:Int).toNat n)=min k n
 rw [if_neg (by omega),Int.toNat_natCast]
theorem w55 (n d:Nat) (hd:d<=n) (o:Option Int):sIx n d o<=n:=by
 cases o with
 | none=>exact hd
 | some v =>
  show (if v < 0 then (v+(n:Int)).toNat else min v.toNat n)<=n
  by_cases hv:v < 0
  ·rw [if_pos hv];omega
  ·rw [if_neg hv];exact Nat.min_le_right _ _
theorem v85 (v:Int) (n d:Nat):(if v < 0 then max (v+(n:Int)) 0 else min v (n:Int))=((sIx n d (some v):Nat):Int):=by
 show (if v < 0 then max (v+(n:Int)) 0 else min v (n:Int))=(((if v < 0 then (v+(n:Int)).toNat else min v.toNat n):Nat):Int)
 by_cases hv:v < 0
 ·simp only [if_pos hv];omega
 ·simp only [if_neg hv];omega
theorem ux5 (lo hi:Option Int) (n:Nat):Builtin.Slice.sliceAdjust lo hi 1 (n:Int)=(((sIx n 0 lo:Nat):Int),((sIx n n hi:Nat):Int)):=by
 have h1:¬ ((1:Int) < 0):=by omega
 unfold Builtin.Slice.sliceAdjust;simp only [h1,if_false];refine Prod.ext ?_ ?_
 ·cases lo with
  | none=>rfl
  | some v=>exact v85 v n 0
 ·cases hi with
  | none=>rfl
  | some v=>exact v85 v n n
theorem uv7 (i j:Nat):Builtin.Slice.slicePlaces (i:Int) (j:Int) 1=j - i:=by
 unfold Builtin.Slice.slicePlaces;have h1:(1:Int) > 0:=by omega
 simp only [h1,if_true,Int.ediv_one];split <;> omega
theorem uf8 {v:Value} {o:Option Int} {Q:Option Int->Shared->Prop} (p:IsPart v o) (h:Q o s):wpAny (model prog w) A (Builtin.Slice.slicePartIndex v) Q E s:=by
 cases p with
 | none=>exact slicePart_none h
 | int i t=>exact slicePart_int h
theorem u71 {sl:Addr} {vl vu:Value} {lo hi:Option Int} {n:Nat} {Q:Int × Int × Nat->Shared->Prop} (hs:s.heap.IsSliceOf sl vl vu .none) (pl:IsPart vl lo) (pu:IsPart vu hi)
  (h:Q (((sIx n 0 lo:Nat):Int),1,sIx n n hi - sIx n 0 lo) s):wpAny (model prog w) A (Builtin.Slice.sliceApplied (.ref sl) (pure (n:Int))) Q E s:=by
 obtain ⟨os,hos,hcs,hds⟩:=id hs;unfold Builtin.Slice.sliceApplied Builtin.Slice.sliceFields;refine wpAny_bind (wpAny_bind (wpAny_field hos hds (x:=vl) rfl (wpAny_bind (wpAny_field hos hds (x:=vu) rfl (wpAny_bind (wpAny_field hos hds (x:=.none) rfl (wpAny_pure ?_)))))));refine wpAny_bind (slicePart_none ?_)
 show wpAny _ _ (if ((1:Int) == 0)=true then _ else _) _ _ s
 rw [if_neg (by decide)];refine wpAny_bind (uf8 pl (wpAny_bind (uf8 pu (wpAny_bind (wpAny_pure ?_)))))
 show wpAny _ _ (match Builtin.Slice.sliceAdjust lo hi 1 (n:Int) with | (lo,hi)=>pure (lo,(1:Int),Builtin.Slice.slicePlaces lo hi 1)) _ _ s
 rw [ux5 lo hi n]
 show wpAny _ _ (pure (((sIx n 0 lo:Nat):Int),(1:Int),Builtin.Slice.slicePlaces ((sIx n 0 lo:Nat):Int) ((sIx n n hi:Nat):Int) 1)) _ _ s
 rw [uv7];exact wpAny_pure h
theorem vd4 (xs:Array Value) (i k:Nat):((List.range k).filterMap fun (m:Nat)=>xs[((i:Int)+(m:Int) * 1).toNat]?).toArray=((xs.toList.drop i).take k).toArray:=by
 have e:(fun (m:Nat)=>xs[((i:Int)+(m:Int) * 1).toNat]?)=fun m=>xs[i+m]?:=by
  funext m
  have:((i:Int)+(m:Int) * 1).toNat=i+m:=by omega
  rw [this]
 rw [e];have:=pick_run xs i k;rw [List.filterMap_map] at this;have e2:((fun x=>xs[x]?) ∘ fun x=>i+x)=fun m=>xs[i+m]?:=rfl
 rw [e2] at this;rw [this]
theorem getItem_tuple_cut {t sl:Addr} {items:Array Value} {vl vu:Value} {lo hi:Option Int} {Q:Value->Shared->Prop} (ht:IsTup s.heap t items) (hs:s.heap.IsSliceOf sl vl vu .none) (pl:IsPart vl lo) (pu:IsPart vu hi)
  (hw:¬ (sIx items.size 0 lo=0 /\ sIx items.size items.size hi=items.size))
  (h:Q (.ref s.heap.objs.size) { s with heap:=s.heap.push { cls:=.type "tuple",data:=.seq ((items.toList.drop (sIx items.size 0 lo)).take (sIx items.size items.size hi - sIx items.size 0 lo)).toArray } })
  (hsz:items.size<=sizeLine):wpAny (model prog w) A (getItem (.ref t) (.ref sl)) Q E s:=by
 have htake:sizeOk (.seq ((items.toList.drop (sIx items.size 0 lo)).take (sIx items.size items.size hi - sIx items.size 0 lo)).toArray):=by
  show ((items.toList.drop (sIx items.size 0 lo)).take (sIx items.size items.size hi - sIx items.size 0 lo)).toArray.size<=sizeLine
  rw [List.size_toArray,List.length_take,List.length_drop,Array.length_toList];omega
 have hj:sIx items.size items.size hi<=items.size:=w55 _ _ (Nat.le_refl _) hi;obtain ⟨os,hos,hcs,hds⟩:=id hs;have hTs:s.TypeIs (.ref sl) "slice" := ⟨os,hos,hcs⟩;unfold getItem
 try with_reducible refine wpAny_holding ?_
 first | refine wpAny_bind (wpAny_pure ?_) | skip
 refine wpAny_bind (wpAny_sequenceKey ht.typeIs (by decide) ?_);refine wpAny_bind (wpAny_callSpecial?_slot (name:=Str.ofString "__getitem__") ht.typeIs PyProof.Rows.slot_tuple_getitem
  (wpAny_call_entry PyProof.Rows.slot_tuple_getitem ht.typeIs entry_tuple_getitem ?_ (args_tuple_getitem _ _)))
 show wpAny _ _ (Builtin.Tuple.tupleItemsOf (.ref t) >>= _) _ _ s
 refine wpAny_bind (tupleItemsOf_ ht ?_);refine wpAny_bind (wpAny_typeOf hTs ?_);rw [if_pos (by decide)];refine wpAny_bind (u71 hs pl pu ?_);have hno:¬ ((((sIx items.size 0 lo:Nat):Int) == 0 && (1:Int) == 1 && (sIx items.size items.size hi - sIx items.size 0 lo) == items.size)=true):=by
  intro q;rw [Bool.and_eq_true,Bool.and_eq_true] at q;have q1:((sIx items.size 0 lo:Nat):Int)=0:=eq_of_beq q.1.1;have q2:sIx items.size items.size hi - sIx items.size 0 lo=items.size:=eq_of_beq q.2;exact hw ⟨by omega,by omega⟩
 show wpAny _ _ (if (((sIx items.size 0 lo:Nat):Int) == 0 && (1:Int) == 1 && (sIx items.size items.size hi - sIx items.size 0 lo) == items.size)=true then _ else _) _ _ s
 rw [if_neg hno,vd4]
 first
  | exact wpAny_bind (m:=Builtin.Tuple.tupleExact _) (wpAny_newObj_type (wpAny_pure ⟨_,rfl,wpAny_pure h⟩) htake)
  | exact wpAny_bind (m:=Builtin.Tuple.tupleExact _) (wpAny_newObj_type (wpAny_bind (wpAny_pure (wpAny_pure ⟨_,rfl,wpAny_pure h⟩))) htake)
  | exact wpAny_bind (wpAny_bind (m:=Builtin.Tuple.tupleExact _) (wpAny_newObj_type (wpAny_pure (wpAny_pure ⟨_,rfl,wpAny_pure h⟩)) htake))
  | exact wpAny_bind (wpAny_bind (m:=Builtin.Tuple.tupleExact _) (wpAny_newObj_type (wpAny_pure ⟨_,rfl,wpAny_pure h⟩) htake))
end
end HT
namespace L2
open PySem PySem.Spec PyProof.Rows
abbrev TO:=St->Hp->(Option Int->Hp->Prop)->Prop
def PO (X:Cx) (e:Option Expr) (t:TO):Prop :=
 ∀ (pins:List (Addr × Obj)) (s:Shared) (σ:St) (H:Hp) (Q:Option Int->Hp->Prop),Inv X pins σ H s->t σ H Q ->
  wpAny (model X.prog X.w) X.A (evalPart e X.env) (fun u s'=>∃ o H',Inv X pins σ H' s' /\ IsPart u o /\ Q o H') X.xe s
def uy9:TO:=fun _ H Q=>Q none H
def w43 (t:TE):TO:=fun σ H Q=>t σ H fun x H1=>∃ i,x=.int i /\ Q (some i) H1
section
variable {X:Cx} {e:Expr} {te:TE} {lo hi:Option Expr} {tl th:TO} {pos p2:Pos}
theorem vt9:PO X none uy9:=by
 intro pins s σ H Q I h;rw [evalPart_none];exact wpAny_pure ⟨none,H,I,.none,h⟩
theorem vt8 (h:PE X e te):PO X (some e) (w43 te):=by
 intro pins s σ H Q I hw;rw [evalPart_some]
 (refine thn (h pins s σ H _ I hw) ?_;rintro u s1 ⟨x,H1,I1,r1,q1⟩)
 obtain ⟨i,rfl,q⟩:=q1;obtain ⟨t,rfl⟩:=r1;exact ⟨some i,H1,I1,.int i t,q⟩
def SlR (X:Cx) (r:V->Option Int->Option Int->Hp->VK->Prop):Prop :=
 ∀ (pins:List (Addr × Obj)) (s:Shared) (σ:St) (H:Hp) (x:V) (v vl vu:Value) (lo hi:Option Int) (sl:Addr) (Q:VK),Inv X pins σ H s->RelV x v->s.heap.IsSliceOf sl vl vu .none->IsPart vl lo->IsPart vu hi->r x lo hi H Q ->
  ∃ T id,typeLookup (.type T) "__getitem__" = pure (some (.builtin id)) /\ s.TypeIs v T /\ wpAny (model X.prog X.w) X.A (getItem v (.ref sl)) (EP X pins σ Q) X.xe s
theorem SlR.or {r r':V->Option Int->Option Int->Hp->VK->Prop} (h:SlR X r) (h':SlR X r'):SlR X (fun x lo hi H Q=>r x lo hi H Q \/ r' x lo hi H Q):=by
 intro pins s σ H x v vl vu lo hi sl Q I rx hs pl pu q
 rcases q with q | q
 ·exact h pins s σ H x v vl vu lo hi sl Q I rx hs pl pu q
 ·exact h' pins s σ H x v vl vu lo hi sl Q I rx hs pl pu q
def tSl (r:V->Option Int->Option Int->Hp->VK->Prop) (te:TE) (tl th:TO):TE:=fun σ H Q=>te σ H fun x H1=>tl σ H1 fun l H2=>th σ H2 fun u H3=>r x l u H3 Q
theorem vd9 {r:V->Option Int->Option Int->Hp->VK->Prop} (hr:SlR X r) (he:PE X e te) (hl:PO X lo tl) (hu:PO X hi th):PE X (.Subscript e (.Slice lo hi none p2) pos) (tSl r te tl th):=by
 intro pins s σ H Q I h
 (refine Subscript_ (thn (he pins s σ H _ I h) ?_);rintro v s1 ⟨x,H1,I1,r1,q1⟩)
 (refine wpAny_Slice (thn (hl pins s1 σ H1 _ I1 q1) ?_);rintro vl s2 ⟨l,H2,I2,pl,q2⟩;refine thn (hu pins s2 σ H2 _ I2 q2) ?_;rintro vu s3 ⟨u,H3,I3,pu,q3⟩)
 rw [evalPart_none];refine wpAny_pure ?_;have I4:Inv X pins σ H3 { s3 with heap:=s3.heap.push { cls:=.type "slice",data:=.fields #[vl,vu,.none] } }:=I3.kept (t':=s3.toks) fun b ob q=>Heap.get?_push_of_some _ q
 obtain ⟨T,id,hT,ht,hg⟩:=hr pins { s3 with heap:=s3.heap.push { cls:=.type "slice",data:=.fields #[vl,vu,.none] } } σ H3 x v vl vu l u s3.heap.objs.size Q I4 r1 (Heap.IsSliceOf.new ..) pl pu q3
 show wpAny (model X.prog X.w) X.A (subscriptTail e (.Slice lo hi none p2) v (.ref s3.heap.objs.size)) (EP X pins σ Q) X.xe { s3 with heap:=s3.heap.push { cls:=.type "slice",data:=.fields #[vl,vu,.none] } }
 exact tail_any (ops:=[.ref s3.heap.objs.size,v]) ht hT hg (by with_unfolding_all rfl)
def cutV (xs:List V) (lo hi:Option Int):List V:=(xs.drop (HT.sIx xs.length 0 lo)).take (HT.sIx xs.length xs.length hi - HT.sIx xs.length 0 lo)
theorem ud9 (xs:List V) (lo hi:Option Int):(cutV xs lo hi).length<=xs.length:=by
 unfold cutV;rw [List.length_take,List.length_drop];omega
def rSlT (K:W.Frag):V->Option Int->Option Int->Hp->VK->Prop:=fun x lo hi H Q=>∃ a xs,x=.ref a /\ SqT K H a xs /\
 ¬ (HT.sIx xs.length 0 lo=0 /\ HT.sIx xs.length xs.length hi=xs.length) /\ ∀ p,H p=none->Q (.ref p) (upd H p (.tup (cutV xs lo hi)))
theorem vk5:SlR X (rSlT X.K):=by
 intro pins s σ H x v vl vu lo hi sl Q I rx hs pl pu h;obtain ⟨a,xs,rfl,hx,hw,q⟩:=h;cases rx;obtain ⟨its,r,ht,hz⟩:=I.tuple hx;have hlen:its.toArray.size=xs.length:=by rw [List.size_toArray];exact r.length.symm
 refine ⟨"tuple",_,PyProof.Rows.slot_tuple_getitem.lookup,ht.typeIs,?_⟩;refine HT.getItem_tuple_cut ht hs pl pu (by rw [hlen];exact hw) ?_ (by rw [hlen];exact hz);rw [hlen];refine ⟨.ref s.heap.objs.size,_,I.laid (t':=s.toks) (o:=.tup (cutV xs lo hi)) (fun b ob q=>Heap.get?_push_of_some _ q) (Nat.le_refl _) ?_,rfl,q _ (I.hok.fresh (Nat.le_refl _))⟩;exact ⟨Nat.le_trans (ud9 xs lo hi) hz,_,(r.drop (HT.sIx xs.length 0 lo)).take (HT.sIx xs.length xs.length hi - HT.sIx xs.length 0 lo),TupD.new _ _⟩
def wi7 (K:W.Frag):R2:=fun x y H Q=>∃ a b xs ys,x=.ref a /\ y=.ref b /\ SqT K H a xs /\ SqT K H b ys /\ xs ≠ [] /\ xs.length+ys.length<=sizeLine /\
 (ys=[]->Q (.ref a) H) /\ (ys ≠ []->∀ p,H p=none->Q (.ref p) (upd H p (.tup (xs++ys))))
theorem Vals.nil_iff {xs:List V} {us:List Value} (r:Vals xs us):us=[] ↔ xs=[]:=by
 cases r with
 | nil=>simp
 | cons _ _=>simp
theorem op_catT:OpR X (binaryOp .Add) (wi7 X.K):=by
 intro pins s σ H x y v u Q I rx ry h;obtain ⟨a,b,xs,ys,rfl,rfl,ha,hb,hx,hz,q1,q2⟩:=h;cases rx;cases ry;obtain ⟨its,r1,p1,_⟩:=I.tuple ha;obtain ⟨its2,r2,p2,_⟩:=I.tuple hb;refine HT.cat_tup p1 p2 (fun z=>hx (r1.nil_iff.mp z)) (fun z=>⟨.ref a,H,I,rfl,q1 (r2.nil_iff.mp z)⟩) (fun z=>?_) (by rw [<- r1.length,<- r2.length];exact hz);refine ⟨.ref s.heap.objs.size,_,I.laid (t':=s.toks) (o:=.tup (xs++ys)) (fun b ob q=>Heap.get?_push_of_some _ q) (Nat.le_refl _) ?_,rfl,q2 (fun w=>z (r2.nil_iff.mpr w)) _ (I.hok.fresh (Nat.le_refl _))⟩;exact ⟨by rw [List.length_append];exact hz,_,r1.append r2,TupD.new _ _⟩
end
def ixN (n:Nat) (i:Int):Option Nat:=if 0<=i then (if i < n then some i.toNat else none) else if -(n:Int)<=i then some (i+n).toNat else none
def atI {α:Type} (xs:List α) (i:Int):Option α:=(ixN xs.length i).bind fun j=>xs[j]?
theorem v48 {n:Nat} {i:Int} {j:Nat} (h:ixN n i=some j):seqIndex? i n=some j /\ j < n /\ -(n:Int)<=i /\ i < n:=by
 unfold ixN at h
 by_cases h0:0<=i
 ·rw [if_pos h0] at h
  by_cases h1:i < n
  ·rw [if_pos h1] at h
   have e:i.toNat=j:=Option.some.inj h;exact ⟨by rw [seqIndex_of h0 h1,e],by omega,by omega,h1⟩
  ·rw [if_neg h1] at h;cases h
 ·rw [if_neg h0] at h
  by_cases h1:-(n:Int)<=i
  ·rw [if_pos h1] at h
   have e:(i+n).toNat=j:=Option.some.inj h;exact ⟨by rw [seqIndex_neg (by omega) h1,e],by omega,h1,by omega⟩
  ·rw [if_neg h1] at h;cases h
theorem up8 {α:Type} {xs:List α} {i:Int} {v:α} (h:atI xs i=some v):∃ j,seqIndex? i xs.length=some j /\ xs[j]?=some v /\ j < xs.length /\ -(xs.length:Int)<=i /\ i < xs.length:=by
 unfold atI at h;cases e:ixN xs.length i with
 | none=>rw [e] at h;cases h
 | some j =>
  rw [e] at h;obtain ⟨h1,h2,h3,h4⟩:=v48 e;exact ⟨j,h1,h,h2,h3,h4⟩
theorem u62 {α:Type} {xs:List α} {j:Nat} {v:α} (h:xs[j]?=some v):atI xs (j:Int)=some v:=by
 have hj:j < xs.length:=(List.getElem?_eq_some_iff.mp h).1;have e:ixN xs.length (j:Int)=some j:=by
  unfold ixN;rw [if_pos (by omega),if_pos (by omega)];simp
 unfold atI;rw [e];exact h
def v98 (b:Expr):Prop:=∀ o i,subscripted b false o i=operate [o,i] (getItem o i)
def IxR (X:Cx) (r:R2):Prop :=
 ∀ (value slice:Expr) (pins:List (Addr × Obj)) (s:Shared) (σ:St) (H:Hp) (x y:V) (v u:Value) (Q:VK),Inv X pins σ H s->RelV x v->RelV y u->r x y H Q ->
  subscripted slice false v u=operate [v,u] (getItem v u)->wpAny (model X.prog X.w) X.A (subscriptTail value slice v u) (EP X pins σ Q) X.xe s
def MtR (X:Cx) (id:String) (r:V->List V->Hp->VK->Prop):Prop :=
 ∀ (pins:List (Addr × Obj)) (s:Shared) (σ:St) (H:Hp) (x:V) (xs:List V) (v:Value) (us:List Value) (Q:VK),Inv X pins σ H s->RelV x v->Vals xs us->r x xs H Q ->
  wpAny (model X.prog X.w) X.A (call (.builtin id) (v::us)) (EP X pins σ Q) X.xe s
section
variable {X:Cx} {a b:Expr} {ta tb:TE} {pos:Pos}
theorem IxR.or {r r':R2} (h:IxR X r) (h':IxR X r'):IxR X (fun x y H Q=>r x y H Q \/ r' x y H Q):=by
 intro value slice pins s σ H x y v u Q I rx ry q hs
 rcases q with q | q
 ·exact h value slice pins s σ H x y v u Q I rx ry q hs
 ·exact h' value slice pins s σ H x y v u Q I rx ry q hs
theorem MtR.or {id:String} {r r':V->List V->Hp->VK->Prop} (h:MtR X id r) (h':MtR X id r'):MtR X id (fun x xs H Q=>r x xs H Q \/ r' x xs H Q):=by
 intro pins s σ H x xs v us Q I rx rs q
 rcases q with q | q
 ·exact h pins s σ H x xs v us Q I rx rs q
 ·exact h' pins s σ H x xs v us Q I rx rs q
theorem wj4 {r:R2} (hr:IxR X r) (ha:PE X a ta) (hb:PE X b tb) (hs:v98 b):PE X (.Subscript a b pos) (tOp r ta tb):=by
 intro pins s σ H Q I h;exact Subscript_ (binT ha hb I h fun v u s2 x y H2 I2 rx ry q=>hr a b pins s2 σ H2 x y v u Q I2 rx ry q (hs _ _))
def rIxL (K:W.Frag):R2:=fun x y H Q=>∃ p xs i v,x=.ref p /\ y=.int i /\ SqL K H p xs /\ atI xs i=some v /\ Q v H
def rIxT (K:W.Frag):R2:=fun x y H Q=>∃ p xs i v,x=.ref p /\ y=.int i /\ SqT K H p xs /\ atI xs i=some v /\ Q v H
def rIxS:R2:=fun x y H Q=>∃ z i c,x=.str z /\ y=.int i /\ z.length<=sizeLine /\ atI z.cps.toList i=some c /\ Q (.str ⟨#[c]⟩) H
theorem ix_list:IxR X (rIxL X.K):=by
 intro value slice pins s σ H x y v u Q I rx ry h hs;obtain ⟨p,xs,i,z,rfl,rfl,hq,he,q⟩:=h;cases rx;obtain ⟨t,rfl⟩:=ry;obtain ⟨its,r,pl,hz⟩:=I.list hq;obtain ⟨j,h1,h2,h3,h4,h5⟩:=up8 he;obtain ⟨w,ew,rw'⟩:=r.get h2;have hl:=r.length;have hn:=line63;have fin:EP X pins σ Q w s:=⟨z,H,I,rw',q⟩
 by_cases h0:0<=i
 ·have hj:i.toNat=j:=by
   rw [seqIndex_of h0 h5] at h1;exact Option.some.inj h1
  exact item_listR pl.isList h0 (by omega) (by rw [hj];simpa using ew) fin hs
 ·have hj:(i+(its.toArray.size:Int)).toNat=j:=by
   rw [seqIndex_neg (by omega) h4] at h1;rw [List.size_toArray,<- hl];exact Option.some.inj h1
  exact subscriptTail_builtinR (x:=w) pl.isList.typeIs slot_list_getitem.lookup
   (wpAny_getItem_list_neg (Q:=fun r s'=>r=w /\ EP X pins σ Q r s') pl.isList (by omega) (by rw [List.size_toArray] <;> omega) (by omega) (by rw [hj];simpa using ew) ⟨rfl,fin⟩) hs
theorem ix_tup:IxR X (rIxT X.K):=by
 intro value slice pins s σ H x y v u Q I rx ry h hs;obtain ⟨p,xs,i,z,rfl,rfl,hq,he,q⟩:=h;cases rx;obtain ⟨t,rfl⟩:=ry;obtain ⟨its,r,pl,hz⟩:=I.tuple hq;obtain ⟨j,h1,h2,h3,h4,h5⟩:=up8 he;obtain ⟨w,ew,rw'⟩:=r.get h2;have hl:=r.length;have hn:=line63;have fin:EP X pins σ Q w s:=⟨z,H,I,rw',q⟩;exact subscriptTail_builtinR (x:=w) pl.typeIs slot_tuple_getitem.lookup
  (getItem_tuple (j:=j) (Q:=fun r s'=>r=w /\ EP X pins σ Q r s') pl (by omega) (by omega) (by rw [List.size_toArray,<- hl];exact h1) (by simpa using ew) ⟨rfl,fin⟩) hs
theorem wd7:IxR X rIxS:=by
 intro value slice pins s σ H x y v u Q I rx ry h hs;obtain ⟨z,i,c,rfl,rfl,hz,he,q⟩:=h;obtain ⟨t,rfl⟩:=rx;obtain ⟨t',rfl⟩:=ry;obtain ⟨j,h1,h2,h3,h4,h5⟩:=up8 he;have hl:z.cps.toList.length=z.length:=by simp [Str.length]
 rw [hl] at h1 h4 h5;have hn:=line63;exact tail_any (typeIs_str s z t) slot_str_getitem.lookup (getItem_str (c:=c) (by
  have e1:decide (i < -(2 ^ 63:Int))=false:=decide_eq_false (by omega);have e2:decide (i ≥ 2 ^ 63)=false:=decide_eq_false (by omega);rw [e1,e2,Bool.or_false]) (by rw [h1];simpa using h2) ⟨.str ⟨#[c]⟩,H,I.tok _,⟨_,rfl⟩,q⟩) hs
def rIx (K:W.Frag):R2:=fun x y H Q=>rIxL K x y H Q \/ rIxT K x y H Q \/ rIxS x y H Q
theorem wd8:IxR X (rIx X.K):=ix_list.or (ix_tup.or wd7)
theorem uv8 (its:List Value) (n j:Nat) (u:Value):Obj.mapSeq (·.setIfInBounds j u) { cls:=.type "list",data:=.seq its.toArray n }={ cls:=.type "list",data:=.seq (its.set j u).toArray n }:=by
 simp [Obj.mapSeq]
theorem Inv.lst {pins:List (Addr × Obj)} {σ:St} {H:Hp} {s:Shared} {p:Addr} {xs:List V} (I:Inv X pins σ H s) (h:H p=some (.lst xs)) :
  ∃ (its:List Value) (n:Nat),Vals xs its /\ s.heap.get? p=some { cls:=.type "list",data:=.seq its.toArray n } /\ xs.length<=sizeLine:=by
 obtain ⟨z,its,n,r,e⟩:=I.hok p _ h;exact ⟨its,n,r,e,z⟩
theorem Inv.lstUpd {pins:List (Addr × Obj)} {σ:St} {H:Hp} {s:Shared} {p:Addr} {xs ys:List V} {its its':List Value} {n n':Nat} {f:Obj->Obj} (I:Inv X pins σ H s) (h:H p=some (.lst xs))
  (ho:s.heap.get? p=some { cls:=.type "list",data:=.seq its.toArray n }) (hf:f { cls:=.type "list",data:=.seq its.toArray n }={ cls:=.type "list",data:=.seq its'.toArray n' }) (r:Vals ys its') (hz:ys.length<=sizeLine) (t:Nat) :
  Inv X pins σ (upd H p (.lst ys)) { s with heap:=s.heap.update p f,toks:=t }:=by
 have e:(s.heap.update p f).get? p=some { cls:=.type "list",data:=.seq its'.toArray n' }:=by
  rw [Heap.get?_update_self f ho (by rw [hf] <;> rfl),hf]
 refine I.write (x:=p) (e:=p) (by rw [h];trivial) (.inl rfl) (fun b u hb q=>(Heap.get?_update_other _ _ (Ne.symm hb)).trans q) ⟨_,e⟩ ?_;exact ⟨hz,its',n',r,e⟩
def wi6:V->V->V->Hp->(Hp->Prop)->Prop:=fun o i v H Q=>∃ p xs k j,o=.ref p /\ i=.int k /\ H p=some (.lst xs) /\ ixN xs.length k=some j /\ Q (upd H p (.lst (xs.set j v)))
theorem set_list:PSet X wi6:=by
 intro pins s σ H o i v ov iv u Q I ro ri rv h;obtain ⟨p,xs,k,j,rfl,rfl,hp,hj,q⟩:=h;cases ro;obtain ⟨t,rfl⟩:=ri;obtain ⟨its,n,r,ho,hz⟩:=I.lst hp;obtain ⟨h1,h2,h3,h4⟩:=v48 hj;have hl:=r.length;have hn:=line63;have I':Inv X pins σ (upd H p (.lst (xs.set j v))) { s with heap:=s.heap.update p (Obj.mapSeq (·.setIfInBounds j u)) } :=
  I.lstUpd hp ho (uv8 its n j u) (r.set rv j) (by rw [List.length_set];exact hz) s.toks
 by_cases h0:0<=k
 ·have hk:k.toNat=j:=by
   rw [seqIndex_of h0 h4] at h1;exact Option.some.inj h1
  exact W.ki_setAt ho h0 (by omega) (by rw [List.size_toArray,<- hl];exact h4) (by rw [hk];exact ⟨_,I',q⟩)
 ·have hk:(k+(its.toArray.size:Int)).toNat=j:=by
   rw [seqIndex_neg (by omega) h3] at h1;rw [List.size_toArray,<- hl];exact Option.some.inj h1
  exact W.ki_setBack ho (by omega) (by rw [List.size_toArray,<- hl];exact h3) (by omega) (by rw [hk];exact ⟨_,I',q⟩)
theorem uk3 (lo hi:Option Int) (n:Nat):(sliceBounds lo hi none n).1=((HT.sIx n 0 lo:Nat):Int) /\ (sliceBounds lo hi none n).2.1=((HT.sIx n n hi:Nat):Int) /\ (sliceBounds lo hi none n).2.2=1:=by
 refine ⟨?_,?_,rfl⟩
 ·cases lo with
  | none=>simp [sliceBounds,HT.sIx]
  | some i =>
   simp only [sliceBounds,HT.sIx,Option.getD_none,show (1:Int) > 0 by decide,if_true]
   by_cases h:i < 0
   ·simp only [h,if_true] <;> omega
   ·simp only [h,if_false] <;> omega
 ·cases hi with
  | none=>simp [sliceBounds,HT.sIx]
  | some i =>
   simp only [sliceBounds,HT.sIx,Option.getD_none,show (1:Int) > 0 by decide,if_true]
   by_cases h:i < 0
   ·simp only [h,if_true] <;> omega
   ·simp only [h,if_false] <;> omega
theorem uh1 (its:List Value) (lo hi:Option Int):slicePick its.toArray lo hi none=((its.drop (HT.sIx its.length 0 lo)).take (HT.sIx its.length its.length hi - HT.sIx its.length 0 lo)).toArray:=by
 obtain ⟨h1,h2,h3⟩:=uk3 lo hi its.toArray.size;unfold slicePick;rw [h1,h2,h3];simp only [sliceRange_one,pick_run,List.size_toArray] <;> rfl
def rSlL (K:W.Frag):V->Option Int->Option Int->Hp->VK->Prop:=fun x lo hi H Q=>∃ a xs,x=.ref a /\ SqL K H a xs /\ ∀ p,H p=none->Q (.ref p) (upd H p (.lst (cutV xs lo hi)))
theorem sl_list:SlR X (rSlL X.K):=by
 intro pins s σ H x v vl vu lo hi sl Q I rx hs pl pu h;obtain ⟨a,xs,rfl,hx,q⟩:=h;cases rx;obtain ⟨its,r,ht,hz⟩:=I.list hx;have hlen:=r.length;refine ⟨"list",_,slot_list_getitem.lookup,ht.isList.typeIs,?_⟩;refine wpAny_getItem_list_slice ht.isList hs pl pu .none (by simp) ?_ (by rw [List.size_toArray] <;> omega);rw [uh1,<- hlen];refine ⟨.ref s.heap.objs.size,_,I.laid (t':=s.toks) (o:=.lst (cutV xs lo hi)) (fun b ob q=>Heap.get?_push_of_some _ q) (Nat.le_refl _) ?_,rfl,q _ (I.hok.fresh (Nat.le_refl _))⟩;exact ⟨Nat.le_trans (ud9 xs lo hi) hz,_,0,(r.drop (HT.sIx xs.length 0 lo)).take (HT.sIx xs.length xs.length hi - HT.sIx xs.length 0 lo),Heap.get?_push_size _ rfl⟩
def ub5:V->Bool
 | .non=>true
 | .bl _=>true
 | .int _=>true
 | .str _=>true
 | _=>false
def eqV:V->V->Bool
 | .non,.non=>true
 | .bl a,.bl b=>a == b
 | .bl a,.int b=>(if a then 1 else 0) == b
 | .int a,.bl b=>a == (if b then 1 else 0)
 | .int a,.int b=>a == b
 | .str a,.str b=>a == b
 | _,_=>false
theorem vn8 {A:Around} {s:Shared} {y x:V} {u v:Value} (ry:RelV y u) (rx:RelV x v) (fy:ub5 y=true) (fx:ub5 x=true):SeqAt.EqAt A s u v (eqV y x):=by
 cases y with
 | non =>
  cases ry;cases x with
  | non=>cases rx;exact SeqAt.EqAt.same _
  | bl b=>cases rx;exact SeqAt.EqAt.none_bool b
  | int b=>obtain ⟨t,rfl⟩:=rx;exact SeqAt.EqAt.none_int b t
  | str b=>obtain ⟨t,rfl⟩:=rx;exact SeqAt.EqAt.none_str b t
  | _=>exact absurd (show false=true from fx) Bool.false_ne_true
 | bl a =>
  cases ry;cases x with
  | non=>cases rx;exact SeqAt.EqAt.bool_none a
  | bl b=>cases rx;exact SeqAt.EqAt.bool_bool a b
  | int b=>obtain ⟨t,rfl⟩:=rx;exact SeqAt.EqAt.bool_int a b t
  | str b=>obtain ⟨t,rfl⟩:=rx;exact SeqAt.EqAt.bool_str a b t
  | _=>exact absurd (show false=true from fx) Bool.false_ne_true
 | int a =>
  obtain ⟨t',rfl⟩:=ry;cases x with
  | non=>cases rx;exact SeqAt.EqAt.int_none a t'
  | bl b=>cases rx;exact SeqAt.EqAt.int_bool a t' b
  | int b=>obtain ⟨t,rfl⟩:=rx;exact SeqAt.EqAt.int_int a t' b t
  | str b=>obtain ⟨t,rfl⟩:=rx;exact SeqAt.EqAt.int_str a t' b t
  | _=>exact absurd (show false=true from fx) Bool.false_ne_true
 | str a =>
  obtain ⟨t',rfl⟩:=ry;cases x with
  | non=>cases rx;exact SeqAt.EqAt.str_none a t'
  | bl b=>cases rx;exact SeqAt.EqAt.str_bool a t' b
  | int b=>obtain ⟨t,rfl⟩:=rx;exact SeqAt.EqAt.str_int a t' b t
  | str b=>obtain ⟨t,rfl⟩:=rx;exact SeqAt.EqAt.str_str a t' b t
  | _=>exact absurd (show false=true from fx) Bool.false_ne_true
 | _=>exact absurd (show false=true from fy) Bool.false_ne_true
def eqU (x:V) (u:Value):Bool:=match u with
 | .none=>eqV .non x
 | .bool b=>eqV (.bl b) x
 | .int i _=>eqV (.int i) x
 | .str z _=>eqV (.str z) x
 | _=>false
theorem vn7 {x y:V} {u:Value} (r:RelV y u) (f:ub5 y=true):eqU x u=eqV y x:=by
 cases y with
 | non=>cases r;rfl
 | bl b=>cases r;rfl
 | int i=>obtain ⟨t,rfl⟩:=r;rfl
 | str z=>obtain ⟨t,rfl⟩:=r;rfl
 | _=>exact absurd (show false=true from f) Bool.false_ne_true
theorem ue4 {x:V}:∀ {xs:List V} {us:List Value},Vals xs us->xs.all ub5=true->us.any (eqU x)=xs.any fun y=>eqV y x
 | _,_,.nil,_=>rfl
 | y::xs,u::us,.cons r t,f=>by
  rw [List.all_cons,Bool.and_eq_true] at f;rw [List.any_cons,List.any_cons,vn7 r f.1,ue4 t f.2]
theorem u95 {A:Around} {s:Shared} {x:V} {v:Value} (rx:RelV x v) (fx:ub5 x=true):∀ {xs:List V} {us:List Value},Vals xs us->xs.all ub5=true->∀ u ∈ us,SeqAt.EqAt A s u v (eqU x u)
 | _,_,.nil,_=>fun u hu=>by cases hu
 | y::xs,u::us,.cons r t,f=>fun u' hu=>by
  rw [List.all_cons,Bool.and_eq_true] at f
  rcases List.mem_cons.mp hu with rfl | hu
  ·rw [vn7 r f.1];exact vn8 r rx f.1 fx
  ·exact u95 rx fx t f.2 u' hu
def inV (x:V) (xs:List V):Bool:=xs.any fun y=>eqV y x
def rIn (K:W.Frag) (neg:Bool):R2:=fun x y H Q=>∃ p xs,y=.ref p /\ (SqL K H p xs \/ SqT K H p xs) /\ ub5 x=true /\ xs.all ub5=true /\ Q (.bl (if neg then !inV x xs else inV x xs)) H
theorem uk8:OpR X (compareOp .In) (rIn X.K false):=by
 intro pins s σ H x y v u Q I rx ry h;obtain ⟨p,xs,rfl,hq,fx,fs,q⟩:=h;cases ry
 rcases hq with hq | hq
 ·obtain ⟨its,r,pl,hz⟩:=I.list hq
  refine SeqAt.in_listAt (eqU x) pl.isList (fun w hw=>u95 rx fx r fs w (by simpa using hw)) ⟨.bl _,H,I,rfl,?_⟩;rw [show its.toArray.any (eqU x)=its.any (eqU x) by simp,ue4 r fs];exact q
 ·obtain ⟨its,r,pl,hz⟩:=I.tuple hq
  refine SeqAt.in_tupleAt (eqU x) pl (fun w hw=>u95 rx fx r fs w (by simpa using hw)) ⟨.bl _,H,I,rfl,?_⟩;rw [show its.toArray.any (eqU x)=its.any (eqU x) by simp,ue4 r fs];exact q
theorem uk7:OpR X (compareOp .NotIn) (rIn X.K true):=by
 intro pins s σ H x y v u Q I rx ry h;obtain ⟨p,xs,rfl,hq,fx,fs,q⟩:=h;cases ry
 rcases hq with hq | hq
 ·obtain ⟨its,r,pl,hz⟩:=I.list hq
  refine SeqAt.notIn_listAt (eqU x) pl.isList (fun w hw=>u95 rx fx r fs w (by simpa using hw)) ⟨.bl _,H,I,rfl,?_⟩;rw [show its.toArray.any (eqU x)=its.any (eqU x) by simp,ue4 r fs];exact q
 ·obtain ⟨its,r,pl,hz⟩:=I.tuple hq
  refine SeqAt.notIn_tupleAt (eqU x) pl (fun w hw=>u95 rx fx r fs w (by simpa using hw)) ⟨.bl _,H,I,rfl,?_⟩;rw [show its.toArray.any (eqU x)=its.any (eqU x) by simp,ue4 r fs];exact q
theorem call_len_seq:CallR X (.builtin "len") (fun xs H Q=>∃ p ys,xs=[.ref p] /\ (SqL X.K H p ys \/ SqT X.K H p ys) /\ Q (.int ys.length) H):=by
 intro pins s σ H xs us Q I r h;obtain ⟨p,ys,rfl,hq,q⟩:=h;obtain ⟨u,rfl,rx⟩:=vals1 r;cases rx;have hn:=line63
 rcases hq with hq | hq
 ·obtain ⟨its,r',pl,hz⟩:=I.list hq
  have hlen:=r'.length;exact Calls.call_len_list pl.isList (by simp only [List.size_toArray] <;> omega) ⟨.int ys.length,H,I.tok _,⟨s.toks+1,by rw [List.size_toArray,hlen]⟩,q⟩
 ·obtain ⟨its,r',pl,hz⟩:=I.tuple hq
  have hlen:=r'.length;exact len_tuple pl (by simp only [List.size_toArray] <;> omega) ⟨.int ys.length,H,I.tok _,⟨s.toks+1,by rw [List.size_toArray,hlen]⟩,q⟩
theorem um0:CallR X (.builtin "len") (fun xs H Q=>∃ z,xs=[.str z] /\ z.length<=sizeLine /\ Q (.int z.length) H):=by
 intro pins s σ H xs us Q I r h;obtain ⟨z,rfl,hz,q⟩:=h;obtain ⟨u,rfl,t,rfl⟩:=vals1 r;have hn:=line63;exact len_str (by omega) ⟨.int z.length,H,I.tok _,⟨_,rfl⟩,q⟩
theorem CallR.or {f:Value} {r r':List V->Hp->VK->Prop} (h:CallR X f r) (h':CallR X f r'):CallR X f (fun xs H Q=>r xs H Q \/ r' xs H Q):=by
 intro pins s σ H xs us Q I rs q
 rcases q with q | q
 ·exact h pins s σ H xs us Q I rs q
 ·exact h' pins s σ H xs us Q I rs q
theorem ul9:CallR X (.type "list") (fun xs H Q=>∃ p ys,xs=[.ref p] /\ (SqL X.K H p ys \/ SqT X.K H p ys) /\ ∀ l,H l=none->Q (.ref l) (upd H l (.lst ys))):=by
 intro pins s σ H xs us Q I r h;obtain ⟨p,ys,rfl,hq,q⟩:=h;obtain ⟨u,rfl,rx⟩:=vals1 r;cases rx;have fin:∀ (its:List Value),Vals ys its->ys.length<=sizeLine->∀ (h':Heap) (c':Nat),(∀ b o',s.heap.get? b=some o'->h'.get? b=some o') ->
   h'.get? s.heap.objs.size=some { cls:=.type "list",dict:=none,data:=.seq its.toArray c',slots:=#[] }->EP X pins σ Q (.ref s.heap.objs.size) { s with heap:=h' }:=fun its r' hz h' c' kp e =>
  ⟨.ref s.heap.objs.size,_,I.laid (t':=s.toks) kp (Nat.le_refl _) (show ObjOk X.prog X.w _ h' _ (.lst ys) from ⟨hz,its,c',r',e⟩),rfl,q _ (I.hok.fresh (Nat.le_refl _))⟩
 rcases hq with hq | hq
 ·obtain ⟨its,r',pl,hz⟩:=I.list hq
  have hlen:=r'.length;obtain ⟨o,ho,hc,n,hd⟩:=pl.isList;exact call_list_seq p (.inl rfl) ho hc hd (fun h' c' kp e=>fin its r' hz h' c' kp e) (by simp only [List.size_toArray] <;> omega)
 ·obtain ⟨its,r',pl,hz⟩:=I.tuple hq
  have hlen:=r'.length;obtain ⟨o,ho,hc,n,hd⟩:=pl;exact call_list_seq p (.inr rfl) ho hc hd (fun h' c' kp e=>fin its r' hz h' c' kp e) (by simp only [List.size_toArray] <;> omega)
theorem ui8:CallR X (.type "tuple") (fun xs H Q=>∃ p ys,xs=[.ref p] /\ ((SqL X.K H p ys /\ ∀ l,H l=none->Q (.ref l) (upd H l (.tup ys))) \/ (SqT X.K H p ys /\ Q (.ref p) H))):=by
 intro pins s σ H xs us Q I r h;obtain ⟨p,ys,rfl,h⟩:=h;obtain ⟨u,rfl,rx⟩:=vals1 r;cases rx
 rcases h with ⟨hq,q⟩ | ⟨hq,q⟩
 ·obtain ⟨its,r',pl,hz⟩:=I.list hq
  have hlen:=r'.length;refine call_tuple_list pl.isList (fun h' kp=>?_) (by simp only [List.size_toArray] <;> omega);have I1:Inv X pins σ H { s with heap:=h' }:=I.kept (t':=s.toks) kp
  have I2:Inv X pins σ (upd H h'.objs.size (.tup ys)) { s with heap:=h'.push { cls:=.type "tuple",data:=.seq its.toArray } } :=
   I1.laid (t':=s.toks) (fun b o e=>Heap.get?_push_of_some _ e) (Nat.le_refl _) (show ObjOk X.prog X.w _ _ _ (.tup ys) from ⟨hz,its,r',TupD.new _ _⟩)
  exact ⟨.ref h'.objs.size,_,I2,rfl,q _ (I1.hok.fresh (Nat.le_refl _))⟩
 ·obtain ⟨its,r',pl,hz⟩:=I.tuple hq
  exact call_tuple_same pl ⟨.ref p,H,I,rfl,q⟩
def tyV (K:W.Frag) (T:String) (x:V) (H:Hp):Prop:=match x with
 | .str _=>T = "str"
 | .int _=>T = "int"
 | .ref p=>(T = "list" /\ ∃ xs,SqL K H p xs) \/ (T = "tuple" /\ ∃ o,K.lookup p=some o /\ o.cls=.type "tuple" /\ o.dict=none) \/
   (T = "dict" /\ ((∃ kvs,H p=some (.dK kvs)) \/ ∃ kvs,H p=some (.dT kvs))) \/ (T = "set" /\ ∃ S n,H p=some (.set S n))
 | _=>False
theorem uq6 {pins:List (Addr × Obj)} {σ:St} {H:Hp} {s:Shared} {T:String} {x:V} {v:Value} (I:Inv X pins σ H s) (r:RelV x v) (ty:tyV X.K T x H) :
  s.TypeIs v T /\ ∀ a,v=.ref a->∃ ob,s.heap.get? a=some ob /\ ob.dict=none:=by
 cases x with
 | str z =>
  obtain ⟨t,rfl⟩:=r;cases (show T = "str" from ty);exact ⟨typeIs_str s z t,fun _ e=>nomatch e⟩
 | int i =>
  obtain ⟨t,rfl⟩:=r;cases (show T = "int" from ty);exact ⟨typeIs_int s i t,fun _ e=>nomatch e⟩
 | ref p =>
  cases r
  rcases ty with ⟨rfl,xs,hq⟩ | ⟨rfl,o,hk,hc,hd⟩ | ⟨rfl,hk⟩ | ⟨rfl,S,n,hk⟩
  ·obtain ⟨its,_,pl,_⟩:=I.list hq
   refine ⟨pl.isList.typeIs,fun a e=>?_⟩;cases e;obtain ⟨o,n,e,c,hd,_⟩:=pl;exact ⟨o,e,hd⟩
  ·refine ⟨⟨o,I.kIn p o hk,hc⟩,fun a e=>?_⟩
   cases e;exact ⟨o,I.kIn _ o hk,hd⟩
  ·have z:∃ o,s.heap.get? p=some o /\ o.ExactDict:=by
    rcases hk with ⟨kvs,hk⟩ | ⟨kvs,hk⟩
    ·obtain ⟨_,_,_,_,o,_,_,e,ex,_⟩:=I.hok p _ hk
     exact ⟨o,e,ex⟩
    ·obtain ⟨_,_,_,_,o,_,_,e,ex,_⟩:=I.hok p _ hk
     exact ⟨o,e,ex⟩
   obtain ⟨o,e,ex⟩:=z;refine ⟨⟨o,e,ex.1⟩,fun a e2=>?_⟩;cases e2;exact ⟨o,e,ex.2.1⟩
  ·obtain ⟨o,_,_,_,e,ex,_⟩:=I.hok p _ hk
   refine ⟨⟨o,e,ex.1⟩,fun a e2=>?_⟩;cases e2;exact ⟨o,e,ex.2.1⟩
 | _=>exact False.elim ty
def tBM0 (K:W.Frag) (T:String) (r:V->List V->Hp->VK->Prop) (to:TE):TE:=fun σ H Q=>to σ H fun x H1=>tyV K T x H1 /\ r x [] H1 Q
def tBM (K:W.Frag) (T:String) (r:V->List V->Hp->VK->Prop) (to:TE) (t:TA):TE:=fun σ H Q=>to σ H fun x H1=>tyV K T x H1 /\ t σ H1 fun xs H2=>r x xs H2 Q
variable {o e:Expr} {es:List Expr} {to:TE} {t:TA} {name:Str} {apos cpos:Pos} {T id:String} {r:V->List V->Hp->VK->Prop}
theorem w81 (pa:PlainAttrs T) (slot:Slot T name id) (hty:typeOf (.builtin id)=pure (.type "method_descriptor")) (hm:MtR X id r) (ho:PE X o to)
  (hbase:attributeBase o name X.env (eval o X.env)=eval o X.env:=by rfl) (hline:(apos.endLine == cpos.line)=true:=by rfl):PE X (.Call (.Attribute o name apos) [] [] cpos) (tBM0 X.K T r to):=by
 intro pins s σ H Q I h
 (refine wpAny_Call_method0_late hbase hline (thn (ho pins s σ H _ I h) ?_);rintro v s1 ⟨x,H1,I1,r1,ty,q1⟩)
 obtain ⟨h1,h2⟩:=uq6 I1 r1 ty;exact ⟨T,id,pa,slot,hty,h1,h2,Calls.callWith_builtin rfl (PySem.evalArgs_none (hm pins s1 σ H1 x [] v [] Q I1 r1 .nil q1))⟩
theorem v17 (pa:PlainAttrs T) (slot:Slot T name id) (hty:typeOf (.builtin id)=pure (.type "method_descriptor")) (hm:MtR X id r) (ho:PE X o to) (ha:PA X (e::es) t)
  (hbase:attributeBase o name X.env (eval o X.env)=eval o X.env:=by rfl)
  (hfew:((backTo cpos (starEach (e::es) X.env)).all (fun x=>!x.1) && (backToKw cpos (keywordEach [] X.env)).all (fun x=>x.1.isSome)
   && decide ((e::es).length+([]:List Keyword).length+(if ([]:List Keyword).isEmpty then 0 else 1) < 30))=true:=by rfl)
  (hline:(apos.endLine == cpos.line)=true:=by rfl) (hs:starEach (e::es) X.env=(false,eval e X.env)::starEach es X.env:=by rfl) (hplain:(backTo cpos (starEach es X.env)).any (·.1)=false:=by rfl) :
  PE X (.Call (.Attribute o name apos) (e::es) [] cpos) (tBM X.K T r to t):=by
 intro pins s σ H Q I h
 (refine wpAny_Call_method_late hbase hfew hline rfl (thn (ho pins s σ H _ I h) ?_);rintro v s1 ⟨x,H1,I1,r1,ty,q1⟩)
 obtain ⟨h1,h2⟩:=uq6 I1 r1 ty;refine ⟨T,id,pa,slot,hty,h1,h2,?_⟩;have hA:=ha cpos pins s1 σ H1 _ I1 q1;rw [hs] at hA ⊢;refine Calls.callWith_builtin (by show (false || (backTo cpos (starEach es X.env)).any (·.1))=false;rw [hplain] <;> rfl) (Calls.evalArgs_plain ?_)
 (refine thn hA ?_;rintro us s2 ⟨vs,H2,I2,r2,q2⟩;exact hm pins s2 σ H2 x vs v us Q I2 r1 r2 q2)
/- xs.append(e),list.index on a module's tuple .. are MtR facts of 06m -/
end
def MtM (X:Cx) (id:String) (r:V->List V->Hp->VK->Prop):Prop :=
 ∀ (pins:List (Addr × Obj)) (s:Shared) (σ:St) (H:Hp) (x:V) (xs:List V) (v:Value) (us:List Value) (Q:VK),Inv X pins σ H s->RelV x v->Vals xs us->r x xs H Q ->
  wpAny (model X.prog X.w) X.A (call (.builtin id) (v::us)) (EP X pins σ Q) X.xe s
theorem Vals.one:∀ {x:V} {us:List Value},Vals [x] us->∃ u,us=[u] /\ RelV x u
 | _,_,.cons r .nil=>⟨_,rfl,r⟩
theorem Vals.two:∀ {x y:V} {us:List Value},Vals [x,y] us->∃ u v,us=[u,v] /\ RelV x u /\ RelV y v
 | _,_,_,.cons r (.cons q .nil)=>⟨_,_,rfl,r,q⟩
theorem Vals.dropLast {xs:List V} {us:List Value} (h:Vals xs us):Vals xs.dropLast us.dropLast:=by
 induction h with
 | nil=>exact .nil
 | cons r t ih =>
  cases t with
  | nil=>exact .nil
  | cons q t'=>exact .cons r ih
theorem Vals.rep {xs:List V} {us:List Value} (h:Vals xs us):∀ k:Nat,Vals (List.replicate k xs).flatten (List.replicate k us).flatten
 | 0=>.nil
 | k+1=>by
  rw [List.replicate_succ,List.replicate_succ,List.flatten_cons,List.flatten_cons];exact Vals.append h (Vals.rep h k)
theorem foldl_rep (its:List Value):∀ (k:Nat) (acc:List Value),
  List.foldl (fun x1 x2=>x1++x2) acc.toArray (List.replicate k its.toArray)=(acc++(List.replicate k its).flatten).toArray
 | 0,acc=>by simp
 | k+1,acc=>by
  have e:acc.toArray++its.toArray=(acc++its).toArray:=by simp
  have e2:(acc++its)++(List.replicate k its).flatten=acc++(List.replicate (k+1) its).flatten:=by
   rw [List.replicate_succ,List.flatten_cons,List.append_assoc]
  rw [<- e2,<- foldl_rep its k (acc++its),<- e,List.replicate_succ,List.foldl_cons]
section
variable {X:Cx} {pins:List (Addr × Obj)} {σ:St} {H:Hp} {s:Shared} {l b:Addr} {xs ys zs:List V}
theorem Inv.lset {its its':List Value} {n:Nat} {f:Array Value->Array Value} {t':Nat} (I:Inv X pins σ H s) (hH:H l=some (.lst xs))
  (e:s.heap.get? l=some { cls:=.type "list",data:=.seq its.toArray n }) (hf:f its.toArray=its'.toArray) (hv:Vals ys its') (hz:ys.length<=sizeLine) :
  Inv X pins σ (upd H l (.lst ys)) { s with heap:=s.heap.update l (Obj.mapSeq f),toks:=t' }:=by
 have q:=PySem.IsL.update e f;rw [hf] at q;refine I.write (x:=l) (e:=l) (by rw [hH];exact trivial) (.inl rfl) (fun b' u hb hu=>(Heap.get?_update_other s.heap (Obj.mapSeq f) (Ne.symm hb)).trans hu) ⟨_,q⟩ ?_;exact ⟨hz,its',_,hv,q⟩
theorem Inv.lnew {its:List Value} {t':Nat} (I:Inv X pins σ H s) (hv:Vals ys its) (hz:ys.length<=sizeLine) :
  Inv X pins σ (upd H s.heap.objs.size (.lst ys)) { s with heap:=s.heap.push { cls:=.type "list",data:=.seq its.toArray },toks:=t' } :=
 I.laid (fun _ _ q=>Heap.get?_push_of_some _ q) (Nat.le_refl _) ⟨hz,its,0,hv,Heap.get?_push_size _ rfl⟩
theorem Inv.fresh (I:Inv X pins σ H s):H s.heap.objs.size=none:=I.hok.fresh (Nat.le_refl _)
theorem Inv.lstM (I:Inv X pins σ H s) (hH:H l=some (.lst xs)):xs.length<=sizeLine /\ ∃ (its:List Value) (n:Nat),Vals xs its /\ xs.length=its.length /\ s.heap.get? l=some { cls:=.type "list",data:=.seq its.toArray n }:=by
 obtain ⟨z,its,n,r,e⟩:=I.hok l _ hH;exact ⟨z,its,n,r,r.length,e⟩
theorem ur9 {n:Nat} (h:n<=sizeLine):Builtin.List.listTooLong n=false:=by
 unfold Builtin.List.listTooLong;exact decide_eq_false (by omega)
end
section
variable {X:Cx}
def vt0:V->List V->Hp->VK->Prop:=fun x vs H Q=>∃ l xs y,x=.ref l /\ vs=[y] /\ H l=some (.lst xs) /\ xs.length < sizeLine /\ Q .non (upd H l (.lst (xs++[y])))
theorem ul0:MtM X "list.append" vt0:=by
 intro pins s σ H x vs v us Q I rx rv h;obtain ⟨l,xs,y,rfl,rfl,hH,hz,q⟩:=h;cases rx;obtain ⟨u,rfl,ru⟩:=rv.one;obtain ⟨z,its,n,r,hl,e⟩:=I.lstM hH;refine call_meets F.slot_list_append ⟨_,e,rfl⟩ F.entry_list_append (F.args_list_append_2 _ _) (PySem.list_append l its.toArray n u (by rw [List.size_toArray];omega)) ⟨e,?_⟩;refine ⟨.non,_,I.lset (its':=its++[u]) hH e (by simp) (r.append (.cons ru .nil)) ?_,rfl,q⟩;rw [List.length_append,List.length_singleton];omega
def vs9:V->List V->Hp->VK->Prop:=fun x vs H Q=>∃ l b xs zs,x=.ref l /\ vs=[.ref b] /\ H l=some (.lst xs) /\ H b=some (.lst zs) /\ xs.length+zs.length<=sizeLine /\ Q .non (upd H l (.lst (xs++zs)))
theorem v28:MtM X "list.extend" vs9:=by
 intro pins s σ H x vs v us Q I rx rv h;obtain ⟨l,b,xs,zs,rfl,rfl,hH,hB,hz,q⟩:=h;cases rx;obtain ⟨u,rfl,ru⟩:=rv.one;cases ru;obtain ⟨z,its,n,r,hl,e⟩:=I.lstM hH;obtain ⟨z2,its2,n2,r2,hl2,e2⟩:=I.lstM hB;have hsz:its.toArray.size+its2.toArray.size<=sizeLine:=by rw [List.size_toArray,List.size_toArray];omega
 have hlong:¬ (!its.toArray.isEmpty && Builtin.List.listTooLong (its.toArray.size+its2.toArray.size))=true:=by
  rw [ur9 hsz,Bool.and_false];exact Bool.false_ne_true
 refine call_meets F.slot_list_extend ⟨_,e,rfl⟩ F.entry_list_extend (F.args_list_extend_2 _ _)
  (AutoSeq1.list_extend_list_list_0 l its.toArray n b its2.toArray n2 hlong (by rw [List.size_toArray];omega) (by omega)) ⟨e,e2,?_⟩
 refine ⟨.non,_,I.lset (its':=its++its2) hH e (by simp) (r.append r2) ?_,rfl,q⟩;rw [List.length_append];omega
def rCat:R2:=fun x y H Q=>∃ l b xs zs,x=.ref l /\ y=.ref b /\ H l=some (.lst xs) /\ H b=some (.lst zs) /\ xs.length+zs.length<=sizeLine /\ ∀ p,H p=none->Q (.ref p) (upd H p (.lst (xs++zs)))
theorem w90:OpR X (binaryOp .Add) rCat:=by
 intro pins s σ H x y v u Q I rx ry h;obtain ⟨l,b,xs,zs,rfl,rfl,hH,hB,hz,q⟩:=h;cases rx;cases ry;obtain ⟨z,its,n,r,hl,e⟩:=I.lstM hH;obtain ⟨z2,its2,n2,r2,hl2,e2⟩:=I.lstM hB;refine PySem.P.add_list e e2 ?_ (by rw [List.size_toArray,List.size_toArray];omega);have ea:its.toArray++its2.toArray=(its++its2).toArray:=by simp
 rw [ea];exact ⟨.ref _,_,I.lnew (t':=s.toks) (r.append r2) (by rw [List.length_append];omega),rfl,q _ I.fresh⟩
def rRep:R2:=fun x y H Q=>∃ l k xs,x=.ref l /\ y=.int k /\ H l=some (.lst xs) /\ -(2 ^ 63)<=k /\ k < 2 ^ 63 /\ xs.length * k.toNat<=sizeLine /\
 ∀ p,H p=none->Q (.ref p) (upd H p (.lst (List.replicate k.toNat xs).flatten))
theorem len_rep {α:Type} (xs:List α) (k:Nat):(List.replicate k xs).flatten.length=k * xs.length:=by
 induction k with
 | zero=>simp
 | succ k ih=>rw [List.replicate_succ,List.flatten_cons,List.length_append,ih,Nat.succ_mul,Nat.add_comm]
theorem w84:OpR X (binaryOp .Mult) rRep:=by
 intro pins s σ H x y v u Q I rx ry h;obtain ⟨l,k,xs,rfl,rfl,hH,h1,h2,hz,q⟩:=h;cases rx;obtain ⟨t,rfl⟩:=ry;obtain ⟨z,its,n,r,hl,e⟩:=I.lstM hH;have hlen:its.toArray.size * k.toNat<=sizeLine:=by rw [List.size_toArray,<- hl];exact hz
 have hcap:¬ its.toArray.size * k.toNat > (2 ^ 63 - 1) / 8:=by
  have:(sizeLine:Nat)<=(2 ^ 63 - 1) / 8:=by decide
  omega
 have hfit:¬ (!Builtin.List.listFitsIndex k)=true:=by
  rw [fitsIndex_both h1 h2];exact Bool.false_ne_true
 have hlong:¬ Builtin.List.listTooLong (its.toArray.size * k.toNat)=true:=by
  rw [ur9 hlen];exact Bool.false_ne_true
 have hnew:List.foldl (fun x1 x2=>x1++x2) #[] (List.replicate (if its.toArray.isEmpty=true then 0 else k.toNat) its.toArray)=(List.replicate k.toNat its).flatten.toArray:=by
  have f0:∀ m:Nat,List.foldl (fun x1 x2=>x1++x2) #[] (List.replicate m its.toArray)=(List.replicate m its).flatten.toArray:=fun m=>by
   have:=foldl_rep its m [];rw [List.nil_append] at this;exact this
  rw [f0];cases its with
  | nil=>simp
  | cons a r'=>rw [if_neg (by simp)]
 refine wpAny_binaryOp_repeat_ref (T := "list") (U := "int") (by decide) ⟨_,e,rfl⟩ (fun s'=>typeIs_int s' k t) noFill_list_mul F.fills_int_mul F.slot_int_rmul repeat_list F.slot_int_index.lookup
  (call_meets F.slot_int_rmul (typeIs_int s k t) F.entry_int_rmul (F.args_int_rmul_2 _ _) (int___rmul___int_list k t l its.toArray n)
   ⟨e,rfl,⟨_,e,rfl⟩,call_meets F.slot_list_mul ⟨_,e,rfl⟩ F.entry_list_mul (F.args_list_mul_2 _ _) (AutoListH.list___mul___list_int_3 l its.toArray n k t hfit hcap hlong) ⟨e,?_⟩⟩)
 rw [hnew];exact ⟨.ref _,_,I.lnew (t':=s.toks) (r.rep k.toNat) (by rw [len_rep,Nat.mul_comm];exact hz),rfl,q _ I.fresh⟩
end
end L2
namespace Att
open PySem PySem.W PySem.Calls PyProof.Rows
theorem ud4 {P:Params} {h:Heap}:∀ (ns:List Int) (vs:List Value),WellAll P h vs (ns.map WData.int)->IntsAre vs ns:=by
 intro ns
 induction ns with
 | nil =>
  intro vs w;rw [List.map_nil] at w;cases w;exact .nil
 | cons n ns ih =>
  intro vs w;rw [List.map_cons] at w;cases w with
  | cons a b =>
   cases a;exact .cons _ _ (ih _ b)
theorem uz6 {l:OpenLaw} {n:Nat} (hn:l.most=some n) {P:Params} {h:Heap} {args:List WData} {vals:List Value}
  (hpre:l.row.toRowW.claim.pre args=true) (hwl:WellAll P h vals args) :
  ∃ a vs ns,vals=[Value.ref a] /\ args=[WData.list (ns.map WData.int)] /\ h.get? a=some { cls:=.type "list",data:=.seq vs.toArray } /\ IntsAre vs ns /\ ns.length<=n:=by
 have hsh:WShape.hasAll [] args [.list .int]=true:=(pre_splitW hpre).1;have hc:l.pre.holds [] { args:=args }=true:=(pre_splitW hpre).2;obtain ⟨d,r,rfl,h1,h2⟩:=hasAllW_cons hsh;obtain rfl:=hasAllW_nil h2;obtain ⟨xs,rfl,h3⟩:=hasW_list h1;obtain ⟨ns,rfl⟩:=items_int h3;have hlen:ns.length<=n:=by
  unfold OpenLaw.pre at hc;have h4:(WTm.not (.lt (.lit (.int (n:Int))) (.len (.arg 0)))).holds [] { args:=[.list (ns.map .int)] }=true:=by
   have h4:=(holds_andW hc).1;rw [hn] at h4;exact h4
  have h5:=condW_of h4 (w_not (w_lt w_lit (w_len_list (w_arg rfl))));rw [List.length_map] at h5;refine Nat.le_of_not_lt fun q=>?_
  have q':(n:Int) < ((ns.length:Nat):Int):=by omega
  first
   | (rw [decide_eq_true q'] at h5;exact absurd h5 (by decide))
   | (simp at h5;omega)
 cases hwl with
 | cons w1 w2 =>
  cases w2;cases w1 with
  | list ho hall=>exact ⟨_,_,ns,rfl,rfl,ho,ud4 ns _ hall,hlen⟩
theorem v11 (l:OpenLaw) (args:List WData):l.row.toRowW.claim.post args (.bool true) args=true :=
 postW_of (r:=l.row.toRowW) (X:=(true == true))
  (show WShape.has [] (.bool true) .bool=true by first | rfl | decide | simp [WShape.has,WShape.arms,WShape.armsAll])
  (show (WTm.eq .res (.lit (.bool true))).value [] { args:=args,res:=some (.bool true),after:=args }=some (.bool (true == true)) from w_eq_bool (w_res rfl) w_lit) rfl
theorem attach_call {l:OpenLaw} {n:Nat} {q:Program} {loose:List Str} {XP:(Str->Option Value)->Heap->Prop} {YP:World->Heap->Prop} {d:DefRec}
  (hn:l.most=some n) (hdf:d.params.defaults=[])
  (call:∀ (w:World) (s₀ s₁:Shared) (mg mb:Str->Option Value) (fa:Addr) (o:Obj) (pm cd doc:Value) (a:Addr) (vs:List Value) (ns:List Int),
   Ground q loose [] XP w s₀ mg mb s₁.heap->YP w s₁.heap ->
   s₁.heap.get? fa=some o->o.data=.func (docDef d.name d.params d.body d.scope pm cd doc)->s₁.heap.CodeRec cd d.name->mg d.name=some (.ref fa) ->
   s₁.heap.get? a=some { cls:=.type "list",data:=.seq vs.toArray }->IntsAre vs ns->ns.length<=n->s₁.gens=#[] ->
   codeAny (model l.prog w) callerA (.call (.ref fa) ⟨[.ref a],[]⟩) (fun r s'=>r=.ok (.ret (.bool true)) /\ OldK s₁.heap s'.heap /\ s'.os=s₁.os /\ AllBare s'.gens) s₁) :
  WalkO q loose XP YP l.row.toRowW d [] (fun f vs=>PySem.call f vs):=by
 intro w s₀ s₁ mg mb G Y fa o pm cd doc dV kV ho hd hcd hD hmg hg args vals as hpre hlay hrd hwl hlo;obtain rfl:dV=.none:=Dflts.none hD hdf;obtain rfl:kV=.none:=Dflts.noKw hD;obtain ⟨a,vs,ns,rfl,rfl,hobj,hints,hlen⟩:=uz6 hn hpre hwl;refine enter_call (codeAny_mono (call w s₀ s₁ mg mb fa o pm cd doc a vs ns G Y ho (fd_plain hd) hcd hmg hobj hints hlen hg) fun r s' hq=>?_);obtain ⟨rfl,h2,h3,h4⟩:=hq;exact ⟨.inl ⟨.bool true,.bool true,[],rfl,fun _=>rfl,.bool true,v11 l _,fun _=>⟨List.Pairwise.nil,fun _ hm=>(nomatch hm)⟩⟩,h2,h3,h4⟩
end Att
namespace L2
open PySem PySem.Spec PyProof.Rows
theorem uj8:∀ {vs:List Value} {ns:List Int},IntsAre vs ns->Vals (ns.map V.int) vs
 | _,_,.nil=>.nil
 | _,_,.cons n t h=>.cons ⟨t,rfl⟩ (uj8 h)
def Only (H:Hp):Prop:=∀ b,H b=none \/ ∃ o xs,H b=some (.frz o (.lst xs))
theorem vg2 {P:Program} {w:World} {K:W.Frag} {mg mb:Str->Option Value} {CX:CXT} {k:Nat} {fa a:Addr} {fd:FuncData} {x:Str} {sp:Sp} {s₁:Shared} {vs:List Value} {ns:List Int}
  (KX:K.In s₁.heap) (hns:s₁.heap.Ns mainGlobals mg) (hb:s₁.heap.Ns builtinsNs mb) (hbb:∀ x:Str,x ≠ "__name__" -> mb x=bootBuiltins x) (hlim:s₁.heap.NoLimit) (hg:s₁.gens=#[])
  (ha:s₁.heap.get? a=some { cls:=.type "list",data:=.seq vs.toArray }) (hi:IntsAre vs ns) (hl:ns.length<=sizeLine) (hr:Room k callerA)
  (F:∀ base:Heap,K.In base->base.Ns mainGlobals mg->FnOk P w K mg base CX k fa fd [x] sp) (hbind:∀ (s:Shared) (u:Value),BindsTo s fd ⟨[u],[]⟩ [(x,u)])
  (hsp:∀ H:Hp,Only H->SqL K H a (ns.map V.int)->sp [.ref a] H (fun v _=>v=.bl true) fun _ _ _=>False)
  (hCX:∀ H e s',CX [] H s₁ (fun _ _ _=>False) e s'->False) :
  codeAny (model P w) callerA (.call (.ref fa) ⟨[.ref a],[]⟩) (fun r s'=>r=.ok (.ret (.bool true)) /\ OldK s₁.heap s'.heap /\ s'.os=s₁.os /\ AllBare s'.gens) s₁:=by
 have rv:=uj8 hi;have lenV:=hi.length;have core:∀ H:Hp,Only H->SqL K H a (ns.map V.int)->HOk P w H s₁.heap->(∀ b,H b ≠ none->b=a)->(H a ≠ none->K.lookup a=none) ->
   codeAny (model P w) callerA (.call (.ref fa) ⟨[.ref a],[]⟩) (fun r s'=>r=.ok (.ret (.bool true)) /\ OldK s₁.heap s'.heap /\ s'.os=s₁.os /\ AllBare s'.gens) s₁:=by
  intro H hO hS hok hA hK;have base_of:∀ {b:Addr} {o:Obj},s₁.heap.get? b=some o->H b=none->(hidT s₁.heap H).get? b=some o:=fun e n=>vg8 e n
  have noA:∀ {b:Addr} {o:Obj} {es:Array DictEntry} {ep:Nat},s₁.heap.get? b=some o->o.data=.dict es ep->H b=none:=fun {b o es ep} e d=>by
   cases q:H b with
   | none=>rfl
   | some u =>
    have e':b=a:=hA b (by rw [q];simp);subst e';rw [ha] at e;cases e;have d':Data.seq vs.toArray _=Data.dict es ep:=d;cases d'
  have nsK:∀ {b:Addr} {m:Str->Option Value},s₁.heap.Ns b m->(hidT s₁.heap H).Ns b m:=fun {b m} ⟨o,es,ep,e,d,r⟩=>⟨o,es,ep,base_of e (noA e d),d,r⟩
  have hKb:K.In (hidT s₁.heap H):=fun b o e=>base_of (KX b o e) (by
   cases q:H b with
   | none=>rfl
   | some u =>
    have e':b=a:=hA b (by rw [q];simp);subst e';rw [hK (by rw [q];simp)] at e;cases e)
  have hM:Mod K mg (hidT s₁.heap H):=⟨hKb,nsK hns,⟨mb,nsK hb,hbb⟩,let ⟨mc,h1,h2⟩:=hlim;⟨mc,nsK h1,h2⟩⟩;have e0:Env0 P w K mg (hidT s₁.heap H) callerA [] s₁ H:=⟨rfl,hM,fun b o e=>vv6 e,Nat.le_of_eq (v58 _ _),trivial,fun b hb=>absurd (show b ∈ ([]:List Addr) from hb) (by simp),hok,.of_eq hg⟩;refine codeAny_mono ((F _ hKb (nsK hns)).run callerA [] s₁ H ⟨[.ref a],[]⟩ [.ref a] [.ref a] _ _ hr e0 (hbind s₁ (.ref a)) (.cons rfl .nil) (hsp H hO hS)) fun r s' h=>?_
  cases r with
  | error e=>exact (hCX H e s' h).elim
  | ok fl =>
   cases fl with
   | next=>exact False.elim h
   | brk=>exact False.elim h
   | cont=>exact False.elim h
   | ret u =>
    obtain ⟨v,H',os,bare,un,hok',r',q⟩:=h;have q':v=.bl true:=q;subst q';obtain rfl:u=Value.bool true:=r';refine ⟨rfl,OldK.of_keep fun b o e=>?_,os,bare⟩;cases q:H b with
    | none=>exact un.keep b o e q (by intro z;exact absurd (show b ∈ ([]:List Addr) from z) (by simp)) (by simp)
    | some u =>
     rcases hO b with z | ⟨ob,xs,z⟩
     ·rw [q] at z;cases z
     ·have z2:=un.frzs b ob _ z
      obtain ⟨e1,_⟩:=hok b _ z;obtain ⟨e2,_⟩:=hok' b _ z2;rw [e] at e1;cases e1;exact e2
 cases hk:K.lookup a with
 | some o =>
  have e:=KX a o hk;rw [ha] at e;cases e;refine core (fun _=>none) (fun _=>.inl rfl) (.inr ⟨_,vs.toArray,_,hk,rfl,rfl,rfl,by rw [List.size_toArray,lenV];exact hl,by simpa using rv⟩) (fun b u z=>by have z':(none:Option HO)=some u:=z;cases z') (fun b z=>absurd rfl z) fun z=>absurd rfl z
 | none =>
  refine core (fun b=>if b=a then some (.frz { cls:=.type "list",data:=.seq vs.toArray } (.lst (ns.map V.int))) else none) (fun b=>?_) (.inl (.inr ⟨{ cls:=.type "list",data:=.seq vs.toArray },if_pos rfl⟩)) (fun b u z=>?_) (fun b z=>?_) fun _=>hk
  ·by_cases hb:b=a
   ·exact .inr ⟨_,_,if_pos hb⟩
   ·exact .inl (if_neg hb)
  ·by_cases hb:b=a
   ·have z':=(if_pos hb).symm.trans z
    cases z';subst hb;exact ⟨ha,by rw [List.length_map];exact hl,vs,_,rv,ha⟩
   ·have z':=(if_neg hb).symm.trans z
    cases z'
  ·by_cases hb:b=a
   ·exact hb
   ·exact absurd (if_neg hb) z
abbrev KOf {K:W.Frag} {h:Heap} (_:K.In h):W.Frag:=K
theorem walk_of {l:W.OpenLaw} {n k:Nat} {q:Program} {loose:List Str} {XP:(Str->Option Value)->Heap->Prop} {YP:World->Heap->Prop} {d:DefRec} {K:Params->W.Frag} {CX:World->CXT} {sp:World->Sp} {x:Str}
  (hn:l.most=some n) (hn2:n<=sizeLine) (hdf:d.params.defaults=[]) (hr:Room k callerA)
  (hY:∀ (w:World) (h:Heap),YP w h->(K w.params).In h)
  (F:∀ (w:World) (mg:Str->Option Value) (fa:Addr) (h:Heap),(K w.params).In h->h.Ns mainGlobals mg->mg d.name=some (.ref fa) ->
   ∃ fd:FuncData,(∀ (s:Shared) (u:Value),BindsTo s fd ⟨[u],[]⟩ [(x,u)]) /\
    ∀ base:Heap,(K w.params).In base->base.Ns mainGlobals mg->FnOk l.prog w (K w.params) mg base (CX w) k fa fd [x] (sp w))
  (hsp:∀ (w:World) (H:Hp) (a:Addr) (ns:List Int),ns.length<=n->Only H->SqL (K w.params) H a (ns.map V.int)->sp w [.ref a] H (fun v _=>v=.bl true) fun _ _ _=>False)
  (hCX:∀ (w:World) (H:Hp) (s:Shared) (e:Value) (s':Shared),CX w [] H s (fun _ _ _=>False) e s'->False) :
  W.WalkO q loose XP YP l.row.toRowW d [] (fun f vs=>PySem.call f vs):=by
 refine Att.attach_call hn hdf fun w s₀ s₁ mg mb fa o pm cd doc a vs ns G Y ho hd hcd hmg hobj hints hlen hg=>?_
 have KX:=hY w _ Y;obtain ⟨fd,hb,hF⟩:=F w mg fa _ KX G.T.g hmg;exact vg2 KX G.T.g G.T.b G.T.builtins G.T.nolimit hg hobj hints (Nat.le_trans hlen hn2) hr hF hb (fun H hO hS=>hsp w H a ns hlen hO hS) fun H e s'=>hCX w H s₁ e s'
end L2
/- THE LAST THEOREM (shape; LID,My.* are yours):
   My.Adr: a structure of the addresses that your layer names (classes,functions);My.Txt K t: a structure (Prop) of the equations over K;
   My.txt_mk:{K} {implicit addresses ..} (e1:nsIn K mainGlobals "law" = some (some (.ref f))) (e2:K.lookup f=some ⟨oc,od,.func (fnOf "law" "law" params body scope dV kV doc pm an cdv ct),sl⟩) (e3:codeIn K cdv "law" = true) ..:∃ t,My.Txt K t
set_option maxHeartbeats 0 in
theorem PySem.Challenge.cw_LID_holds:PySem.Challenge.rw_LID.Holds:=by
 w_on;o_law;k_head;(case hw=>w_witness2)
 k_fill
 refine L2.walk_of (l:=PySem.Challenge.rw_LID) (n:=63) (k:=40) (x := "script") (CX:=fun w=>..) (sp:=fun _=>My.sp_law) rfl (by decide) rfl ⟨rfl,by decide,by decide⟩ (fun w h Y=>W.kIn_of Y) ?F ?S ?C
 case F =>
  intro w mg fa h KX G hmg;have T:∃ t,My.Txt (L2.KOf KX) t:=by
   dsimp only [L2.KOf]                          -- K must stand as «<heap const> w.params» for k_is;refine' My.txt_mk ?e1 ?e2 ?e3 ..
   (case e1=>W.k_is)                    -- in the order: a name->its address->its object->its parts
   (case e2=>W.k_is)
   ..
  obtain ⟨t,T⟩:=T;have e0:=hmg.symm.trans (W.mg_of KX G T.law);cases e0                                       -- fa is the law's own address;exact ⟨_,fun s u=>.of_eq rfl,fun base kb nb=>My.law_fn T kb nb⟩     -- if «.of_eq rfl» comes too early: refine' ⟨_,?b,fun base kb nb=>My.law_fn T kb nb⟩;exact fun s u=>.of_eq rfl
 case S=>exact fun w H a ns hl hO hS=>..
 case C=>exact ..
(the tactic k_is has no namespace: write k_is) -/
namespace L2
open PySem PySem.Spec PyProof.Rows
def inClass (s:Stmt) (j:Nat):Stmt:=match s with
 | .ClassDef _ _ _ body _ _ _ _ _ _ _=>body.getD j (.Pass ⟨0,0,0,0⟩)
 | _=>.Pass ⟨0,0,0,0⟩
def u36 (s:Stmt):Arguments:=match s with
 | .FunctionDef _ a _ _ _ _ _ _ _ _=>a
 | _=>{ posonlyargs:=[],args:=[],vararg:=none,kwonlyargs:=[],kw_defaults:=[],kwarg:=none,defaults:=[] }
def u31 (s:Stmt):List Stmt:=match s with
 | .FunctionDef _ _ b _ _ _ _ _ _ _=>b
 | _=>[]
def u05 (s:Stmt):Scope:=match s with
 | .FunctionDef _ _ _ _ _ _ sc _ _ _=>sc
 | _=>{ kind:=.function,names:=[],isGenerator:=false,isCoroutine:=false }
abbrev CX0:CXT:=fun _ _ _ _ _ _=>False
abbrev E0:XK:=fun _ _ _=>False
theorem pass0 {X:Cx}:Passes CX0 X E0:=fun _ _ _ _ _ _ _ h=>h.elim
section
variable {X:Cx}
theorem pv (i:Nat) {x:Str} {pos:Pos} (hN:X.N[i]?=some x:=by rfl) (hv:Vis X.env.scope x:=by first | exact Or.inl rfl | exact Or.inr (Or.inl rfl) | exact Or.inr (Or.inr rfl)) (hd:(x == ("__debug__" : Str))=false:=by decide)
  (hcd:(x == ("__classdict__" : Str))=false:=by decide):PE X (.Name x pos) (tVar i):=vl7 hN hv hd hcd
end
theorem vx5 {prog:Program} {w:World} {A:Around} {R:Result->Shared->Prop} {s:Shared} {elt target iter:Expr} {ifs:List Expr} {scope:Scope} {pos:Pos} {it acc:Value} {env:Env} (I:Nat->Shared->Prop)
  (turn:∀ n s,I n s->wpAny (model prog w) A (pyNext it) (fun r s₁=>match r with
   | none=>R (.ok .next) s₁
   | some v=>wpAny (model prog w) A (letOwnedTupleGo target it v) (fun _ s₁=>wpAny (model prog w) A (assign target env v) (fun _ s₂ =>
     wpAny (model prog w) A (forIn ifs true fun c r=>if r=true then do let ok <- isTrue c env (eval c env);pure (ForInStep.yield ok) else pure (ForInStep.yield r)) (fun ok s₃ =>
      if ok=true then wpAny (model prog w) A (eval elt env) (fun x s₄ =>
       wpAny (model prog w) A (call (.builtin "list.append") [acc,x]) (fun _ s₅=>∃ m,m < n /\ I m s₅) (fun _ _=>False) s₄) (fun _ _=>False) s₃
      else ∃ m,m < n /\ I m s₃) (fun _ _=>False) s₂) (fun _ _=>False) s₁) (fun _ _=>False) s₁) (fun _ _=>False) s)
  (n:Nat) (h:I n s) :
  codeAny (model prog w) A (.compLoop (.ListComp elt [⟨target,iter,ifs,0⟩] scope pos) 0 it acc env) R s:=by
 refine codeAny_loop rfl I (fun n s hI=>?_) n h
 show wpAny _ A ((compTurn (.ListComp elt [⟨target,iter,ifs,0⟩] scope pos) 0 it acc env).onRaise (fun x=>do noteFrame x env;theTreesLotGoes x)) _ _ s
 refine wpAny_noted ?_;rw [compTurn_list];refine wpAny_bind (wpAny_standAt (wpAny_bind (wpAny_mono (turn n s hI) (fun r s₁ h₁=>?_) fun _ _ h'=>h'.elim)));cases r with
 | none=>exact wpAny_pure h₁
 | some v =>
  refine wpAny_bind (wpAny_mono h₁ (fun _ s₂ h₂=>?_) fun _ _ h'=>h'.elim);refine wpAny_bind (wpAny_mono h₂ (fun _ s₂ h₂=>wpAny_bind (wpAny_mono h₂ (fun ok s₃ h₃=>?_) fun _ _ h'=>h'.elim)) fun _ _ h'=>h'.elim);cases ok with
  | false=>exact wpAny_pure ⟨rfl,h₃⟩
  | true =>
   exact wpAny_bind (wpAny_bind (wpAny_mono h₃ (fun x s₄ h₄=>wpAny_bind (wpAny_mono h₄ (fun _ s₅ h₅=>wpAny_pure (wpAny_pure ⟨rfl,h₅⟩)) fun _ _ h'=>h'.elim)) fun _ _ h'=>h'.elim))
def clOf (env:Env):List (Str × NameKind)->List (Str × Addr)->List (Str × Addr)
 | [],cs=>cs
 | (x,k)::r,cs=>clOf env r (if (k == .free)=true then (x,(env.cells.lookup x).getD 0)::cs else cs)
theorem up4 {env:Env} {x:Str} {c:Addr} (h:env.cells.lookup x=some c):cellOf env x=pure c:=by
 unfold cellOf;rw [h]
theorem ug5 {scope:Scope} {env:Env} (h:∀ y ∈ scope.names,y.2=.free->∃ c,env.cells.lookup y.1=some c):closureFor scope env=pure (clOf env scope.names []):=by
 have key:∀ (l:List (Str × NameKind)) (cs:List (Str × Addr)),(∀ y ∈ l,y.2=.free->∃ c,env.cells.lookup y.1=some c) ->
   (forIn l cs fun (y:Str × NameKind) r=>if (y.2 == NameKind.free)=true then do let c <- cellOf env y.1;pure (ForInStep.yield ((y.1,c)::r)) else pure (ForInStep.yield r):Sem (List (Str × Addr)))=pure (clOf env l cs):=by
  intro l
  induction l with
  | nil=>intro cs _;rfl
  | cons y r ih =>
   intro cs hl;obtain ⟨x,k⟩:=y;rw [List.forIn_cons]
   by_cases hk:k=.free
   ·subst hk
    obtain ⟨c,hc⟩:=hl (x,.free) List.mem_cons_self rfl;have e:((NameKind.free == NameKind.free):Bool)=true:=rfl;simp only [e,if_true,up4 hc,pure_bind];rw [ih _ fun z hz=>hl z (List.mem_cons_of_mem _ hz)]
    show _=pure (clOf env r (if (NameKind.free == NameKind.free)=true then _ else _))
    rw [e,if_pos rfl,hc] <;> rfl
   ·have e:(k == NameKind.free)=false:=by simpa using hk
    simp only [e,Bool.false_eq_true,if_false,pure_bind];rw [ih _ fun z hz=>hl z (List.mem_cons_of_mem _ hz)]
    show _=pure (clOf env r (if (k == NameKind.free)=true then _ else _))
    rw [e,if_neg Bool.false_ne_true]
 have e:closureFor scope env=((forIn scope.names ([]:List (Str × Addr)) fun (y:Str × NameKind) r=>if (y.2 == NameKind.free)=true then do let c <- cellOf env y.1;pure (ForInStep.yield ((y.1,c)::r)) else pure (ForInStep.yield r):Sem (List (Str × Addr))) >>= fun cs=>pure cs):=rfl;rw [e,key scope.names [] h];rfl
theorem ue0 {env:Env} {x:Str} {c:Addr}:∀ {l:List (Str × NameKind)} {cs:List (Str × Addr)},(∀ y ∈ l,y.2=.free->∃ c,env.cells.lookup y.1=some c)->(∀ x c,cs.lookup x=some c->env.cells.lookup x=some c) ->
  (clOf env l cs).lookup x=some c->env.cells.lookup x=some c
 | [],_,_,h,e=>h x c e
 | (y,k)::r,cs,hl,h,e=>by
  refine ue0 (l:=r) (fun z hz=>hl z (List.mem_cons_of_mem _ hz)) (fun x c e=>?_) e
  by_cases hk:k=.free
  ·subst hk
   obtain ⟨d,hd⟩:=hl (y,.free) List.mem_cons_self rfl;rw [if_pos (show (NameKind.free == NameKind.free)=true from rfl),List.lookup_cons] at e;cases hx:x == y with
   | true=>rw [hx,hd] at e;cases e;rw [eq_of_beq hx];exact hd
   | false=>rw [hx] at e;exact h x c e
  ·rw [if_neg (by simpa using hk)] at e;exact h x c e
theorem ui6 {env:Env} {x:Str}:∀ {l:List (Str × NameKind)} {cs:List (Str × Addr)},((∃ c,cs.lookup x=some c) \/ (x,NameKind.free) ∈ l)->∃ c,(clOf env l cs).lookup x=some c
 | [],_,h=>by
  rcases h with h | h
  ·exact h
  ·simp at h
 | (y,k)::r,cs,h=>by
  refine ui6 (l:=r) ?_
  rcases h with ⟨c,h⟩ | h
  ·left
   by_cases hk:(k == NameKind.free)=true
   ·rw [if_pos hk,List.lookup_cons]
    cases hx:x == y with
    | true=>exact ⟨_,rfl⟩
    | false=>exact ⟨c,h⟩
   ·rw [if_neg hk];exact ⟨c,h⟩
  ·rcases List.mem_cons.mp h with e | h
   ·injection e with e1 e2
    subst e1;subst e2
    left
    rw [if_pos (show (NameKind.free == NameKind.free)=true from rfl),List.lookup_cons];simp
   ·exact .inr h
def u51 (X:Cx) (N':List Str) (scope:Scope) (C:Addr) (s:Shared) (H:Hp) (fp:List Addr):Cx :=
 { X with N:=N',s₀:=s,H₀:=H,env:=compEnvC scope (clOf X.env scope.names []) C X.env,outer:=X.stack,ex:=fp,fn:=fun _=>false,pn:=[],xe:=fun _ _=>False }
structure BlkOk (X:Cx) (N':List Str) (ix:List (Option Nat)) (scope:Scope):Prop where
 kind:scope.kind=.function
 nocell:∀ y ∈ scope.names,y.2 ≠ .cell
 names:∀ y ∈ scope.names,y.2=.local->scope.names.lookup y.1=some .local
 frees:∀ y ∈ scope.names,y.2=.free->X.env.kindOf y.1=some .cell \/ X.env.kindOf y.1=some .free
 len:ix.length=N'.length
 at_:∀ (i j:Nat) (x:Str),N'[i]?=some x->ix[i]?=some (some j)->X.N[j]?=some x /\ scope.names.lookup x=some .free
def inner (ix:List (Option Nat)) (σ:St):St:=ix.map fun o=>o.bind fun j=>(σ[j]?).bind id
def vq6 (ix:List (Option Nat)) (wi:TI) (g:TG) (tc:TT) (te:TE):TE:=fun σ H Q=>wi σ H fun J H1=>∀ D,H1 D=none->∃ W:Nat->Nat->St->Hp->Prop,(∃ m,W 0 m (inner ix σ) (upd H1 D (.lst []))) /\ ∀ i m σi H,W i m σi H ->
 (J.stop i H /\ Q (.ref D) H) \/ (J.go i H /\ ∃ N:St->Hp->Prop,(∀ σ' H',N σ' H'->∃ m',m' < m /\ W (i+1) m' σ' H') /\ ∀ x H',J.yld i H x H'->g x σi H' fun σ2 H2=>tc σ2 H2 fun b H3 =>
  if b=true then te σ2 H3 fun v H4=>∃ ys,H4 D=some (.lst ys) /\ ys.length < sizeLine /\ N σ2 (upd H4 D (.lst (ys++[v]))) else N σ2 H3)
theorem u53 {env:Env} {x:Str}:∀ {names:List (Str × NameKind)},names.lookup x=some .free->(env.kindOf x=some .cell \/ env.kindOf x=some .free) ->
  (names.map fun (n,k)=>if (k == NameKind.free && env.scope.kind == .function && env.kindOf n == some .cell) then (n,NameKind.cell) else (n,k)).lookup x=some .cell \/
  (names.map fun (n,k)=>if (k == NameKind.free && env.scope.kind == .function && env.kindOf n == some .cell) then (n,NameKind.cell) else (n,k)).lookup x=some .free
 | [],h,_=>by simp at h
 | (n,k)::r,h,ho=>by
  cases hx:x == n with
  | true =>
   simp only [List.lookup_cons,hx] at h;cases h
   by_cases hc:(NameKind.free == NameKind.free && env.scope.kind == .function && env.kindOf n == some .cell)=true
   ·left
    show List.lookup x ((if (NameKind.free == NameKind.free && env.scope.kind == .function && env.kindOf n == some .cell)=true then (n,NameKind.cell) else (n,.free))::_)=_
    rw [if_pos hc];simp only [List.lookup_cons,hx]
   ·right
    show List.lookup x ((if (NameKind.free == NameKind.free && env.scope.kind == .function && env.kindOf n == some .cell)=true then (n,NameKind.cell) else (n,.free))::_)=_
    rw [if_neg hc];simp only [List.lookup_cons,hx]
  | false =>
   simp only [List.lookup_cons,hx] at h;have ih:=u53 (env:=env) h ho
   show List.lookup x ((if (k == NameKind.free && env.scope.kind == .function && env.kindOf n == some .cell)=true then (n,NameKind.cell) else (n,k))::_)=_ \/
    List.lookup x ((if (k == NameKind.free && env.scope.kind == .function && env.kindOf n == some .cell)=true then (n,NameKind.cell) else (n,k))::_)=_
   by_cases hc:(k == NameKind.free && env.scope.kind == .function && env.kindOf n == some .cell)=true
   ·rw [if_pos hc];simp only [List.lookup_cons,hx];exact ih
   ·rw [if_neg hc];simp only [List.lookup_cons,hx];exact ih
theorem u54 {env:Env} {x:Str}:∀ {names:List (Str × NameKind)},(∀ y ∈ names,y.2 ≠ .cell) ->
  ((names.map fun (n,k)=>if (k == NameKind.free && env.scope.kind == .function && env.kindOf n == some .cell) then (n,NameKind.cell) else (n,k)).lookup x=some .cell \/
  (names.map fun (n,k)=>if (k == NameKind.free && env.scope.kind == .function && env.kindOf n == some .cell) then (n,NameKind.cell) else (n,k)).lookup x=some .free)->(x,NameKind.free) ∈ names
 | [],_,h=>by simp at h
 | (n,k)::r,hn,h=>by
  have h:List.lookup x ((if (k == NameKind.free && env.scope.kind == .function && env.kindOf n == some .cell)=true then (n,NameKind.cell) else (n,k))::(r.map fun (n,k)=>if (k == NameKind.free && env.scope.kind == .function && env.kindOf n == some .cell) then (n,NameKind.cell) else (n,k)))=some .cell \/
   List.lookup x ((if (k == NameKind.free && env.scope.kind == .function && env.kindOf n == some .cell)=true then (n,NameKind.cell) else (n,k))::(r.map fun (n,k)=>if (k == NameKind.free && env.scope.kind == .function && env.kindOf n == some .cell) then (n,NameKind.cell) else (n,k)))=some .free:=h
  cases hx:x == n with
  | true =>
   have e:x=n:=eq_of_beq hx;subst e
   by_cases hc:(k == NameKind.free && env.scope.kind == .function && env.kindOf x == some .cell)=true
   ·have hk:k=.free:=by
     simp only [Bool.and_eq_true,beq_iff_eq] at hc;exact hc.1.1
    subst hk;exact List.mem_cons_self
   ·rw [if_neg hc] at h
    simp only [List.lookup_cons,hx,Option.some.injEq] at h
    rcases h with h | h
    ·exact absurd h (hn (x,k) List.mem_cons_self)
    ·subst h;exact List.mem_cons_self
  | false =>
   refine List.mem_cons_of_mem _ (u54 (env:=env) (fun y hy=>hn y (List.mem_cons_of_mem _ hy)) ?_)
   by_cases hc:(k == NameKind.free && env.scope.kind == .function && env.kindOf n == some .cell)=true
   ·rw [if_pos hc] at h;simp only [List.lookup_cons,hx] at h;exact h
   ·rw [if_neg hc] at h;simp only [List.lookup_cons,hx] at h;exact h
def PIfs (X:Cx) (ifs:List Expr) (t:TT):Prop :=
 ∀ (pins:List (Addr × Obj)) (s:Shared) (σ:St) (H:Hp) (Q:Bool->Hp->Prop),Inv X pins σ H s->t σ H Q ->
  wpAny (model X.prog X.w) X.A (forIn ifs true fun c r=>if r=true then do let ok <- isTrue c X.env (eval c X.env);pure (ForInStep.yield ok) else pure (ForInStep.yield r)) (TP X pins σ Q) X.xe s
def tYes:TT:=fun _ H Q=>Q true H
section
variable {X:Cx} {pins:List (Addr × Obj)} {σ:St} {H:Hp} {s:Shared}
theorem vd3:PIfs X [] tYes:=fun _ _ _ H _ I h=>wpAny_tests_nil ⟨H,I,h⟩
theorem vd2 {c:Expr} {t:TT} (h:PT X c t):PIfs X [c] t:=fun pins s σ H Q I hw=>wpAny_tests_one (h pins s σ H Q I hw)
theorem Inv.blk {N':List Str} {ix:List (Option Nat)} {scope:Scope} {fp:List Addr} {h1:Heap} {tk:Nat} (I:Inv X pins σ H s) (B:BlkOk X N' ix scope) (f:∀ b ∈ fp,FpOk X pins H b) (hlt:∀ b ∈ fp,b < s.heap.objs.size)
  (ns:h1.Ns s.heap.objs.size (fun _=>none)) (old:∀ b o,s.heap.get? b=some o->h1.get? b=some o) :
  Inv (u51 X N' scope s.heap.objs.size s H fp) [] (inner ix σ) H { s with heap:=h1,toks:=tk }:=by
 have hfree:∀ y ∈ scope.names,y.2=.free->∃ c,X.env.cells.lookup y.1=some c:=fun y hy e=>I.ok.has y.1 (B.frees y hy e)
 have hc:∀ x c,(clOf X.env scope.names []).lookup x=some c->X.env.cells.lookup x=some c:=fun x c e=>ue0 hfree (fun _ _ z=>by cases z) e
 have stk:∀ b ∈ fp,b ∉ frs X.stack:=fun b hb z=>by
  rcases List.mem_cons.mp (I.stkSub b z) with e | e
  ·exact (f b hb).2.1 e
  ·exact (f b hb).2.2.1 e
 refine ⟨⟨I.ok.mod,B.kind,I.ok.glob,I.ok.blt,Nat.le_refl _,fun x y c h1 h2=>I.ok.inj x y c (hc x c h1) (hc y c h2),fun x hx=>?_,fun x c h=>(by cases h),I.ok.hd,I.ok.frames,.inl rfl,fun b hb=>⟨Nat.ne_of_lt (hlt b hb),fun x c e=>(f b hb).2.2.2.2.1 x c (hc x c e)⟩,
   I.bs,Nat.le_trans I.ok.bsz I.sz,fun b o e hb=>?_,stk,I.stack,I.stkFree⟩,rfl,I.bare,Un.kept old,⟨_,ns,fun i x v h1 h2 h3=>?_⟩,fun x c e=>?_,I.hok.fresh (Nat.le_refl _),fun x c e=>I.freeC x c (hc x c e),fun p hp=>absurd (show p ∈ ([]:List (Addr × Obj)) from hp) (by simp),I.hok.kept old,?_⟩
 ·exact ui6 (.inr (u54 B.nocell hx))
 ·rcases (f b hb).2.2.2.1 with z | z
  ·exact I.ok.noex b o e z
  ·exact absurd (Nat.lt_of_lt_of_le (Heap.lt_size e) (Nat.le_trans I.ok.bsz z)) (Nat.lt_irrefl _)
 ·have h2:(ix.map fun o=>o.bind fun j=>(σ[j]?).bind id)[i]?=some (some v):=h2
  rw [List.getElem?_map] at h2;cases ho:ix[i]? with
  | none=>rw [ho] at h2;cases h2
  | some o =>
   rw [ho] at h2;cases o with
   | none=>cases h2
   | some j =>
    have h2:(σ[j]?).bind id=some v:=Option.some.inj h2;have h2:σ[j]?=some (some v):=by
     cases hs:σ[j]? with
     | none=>rw [hs] at h2;cases h2
     | some w=>rw [hs] at h2;cases h2;rfl
    obtain ⟨hN,hf⟩:=B.at_ i j x h1 ho
    have hk:=B.frees (x,.free) (PySem.mem_of_lookup hf) rfl;obtain ⟨m,hn,hl⟩:=I.loc;obtain ⟨u,r,lk⟩:=hl j x v hN h2 (hk.elim (fun z=>.inr (.inl z)) fun z=>.inr (.inr z));refine ⟨u,r,.inr ?_⟩
    rcases lk with ⟨z,_⟩ | ⟨_,c,e,z⟩
    ·rcases hk with hk | hk
     ·exact absurd (hk.symm.trans z) (by decide)
     ·exact absurd (hk.symm.trans z) (by decide)
    ·obtain ⟨c',e'⟩:=ui6 (env:=X.env) (cs:=[]) (.inr (PySem.mem_of_lookup hf))
     have ec:c'=c:=Option.some.inj ((hc x c' e').symm.trans e);subst ec;refine ⟨u53 hf hk,c',e',?_⟩;obtain ⟨o,ho,hd⟩:=z;exact ⟨o,old _ _ ho,hd⟩
 ·obtain ⟨v,o,ho,hd⟩:=I.cell x c (hc x c e)
  exact ⟨v,o,old _ _ ho,hd⟩
 ·show (inner ix σ).length=N'.length
  unfold inner;rw [List.length_map];exact B.len
theorem v92 {elt tg iter:Expr} {ifs:List Expr} {scope:Scope} {pos:Pos} {N':List Str} {ix:List (Option Nat)} {g:TG} {tc:TT} {te:TE} {J:It} {fp:List Addr} {it:Addr} {tn:Nat->Heap->Prop} (B:BlkOk X N' ix scope)
  (hg:∀ C s H fp,PG (u51 X N' scope C s H fp) tg g) (hi:∀ C s H fp,PIfs (u51 X N' scope C s H fp) ifs tc) (he:∀ C s H fp,PE (u51 X N' scope C s H fp) elt te) (hc:X.calm=true)
  (I:Inv X pins σ H s) (T:Turn X.prog X.w X.K tg J fp it tn) (st:tn 0 s.heap) (f:∀ b ∈ fp,FpOk X pins H b) {Q:VK} {E:Value->Shared->Prop}
  (w:∃ W:Nat->Nat->St->Hp->Prop,(∃ m,W 0 m (inner ix σ) (upd H s.heap.objs.size (.lst []))) /\ ∀ i m σi H,W i m σi H ->
   (J.stop i H /\ Q (.ref s.heap.objs.size) H) \/ (J.go i H /\ ∃ N:St->Hp->Prop,(∀ σ' H',N σ' H'->∃ m',m' < m /\ W (i+1) m' σ' H') /\ ∀ x H',J.yld i H x H'->g x σi H' fun σ2 H2=>tc σ2 H2 fun b H3 =>
    if b=true then te σ2 H3 fun v H4=>∃ ys,H4 s.heap.objs.size=some (.lst ys) /\ ys.length < sizeLine /\ N σ2 (upd H4 s.heap.objs.size (.lst (ys++[v]))) else N σ2 H3))
  {RR:Value->Addr->Result->Shared->Prop} (hRR:∀ C H' s' m,Inv X pins σ H' s'->FpOk X pins H' C->s'.heap.Ns C m->Q (.ref s.heap.objs.size) H'->RR (.ref s.heap.objs.size) C (.ok .next) s') :
  wpAny (model X.prog X.w) X.A (newList []) (fun acc s₃=>wpAny (model X.prog X.w) X.A (newFunctionEnv scope X.env.globals (clOf X.env scope.names []) [] X.env.qual none .none (some X.env)) (fun cenv s₄ =>
   codeAny (model X.prog X.w) X.A (.compStart (.ListComp elt [⟨tg,iter,ifs,0⟩] scope pos) 0 (.ref it) acc { cenv with scope:=relabel scope X.env }) (RR acc cenv.locals) s₄) E s₃) E s:=by
 obtain ⟨W,⟨m0,w0⟩,turn⟩:=w;have flt:∀ b ∈ fp,b < s.heap.objs.size:=fun b hb=>by
  obtain ⟨o,ho,_⟩:=T.obj 0 _ st b hb;exact Heap.lt_size ho
 have I3:Inv X pins σ (upd H s.heap.objs.size (.lst [])) { s with heap:=s.heap.push { cls:=.type "list",data:=.seq ([]:List Value).toArray },toks:=s.toks }:=I.lnew .nil (Nat.zero_le _)
 have hfr:∀ b ∈ fp,(upd H s.heap.objs.size (.lst [])) b=none:=fun b hb=>by rw [u09 (Nat.ne_of_lt (flt b hb))];exact (f b hb).1
 have f3:∀ b ∈ fp,FpOk X pins (upd H s.heap.objs.size (.lst [])) b:=fun b hb=>⟨hfr b hb,(f b hb).2⟩
 refine wpAny_newObj_type (wpAny_newFunctionEnv B.nocell (by intro y hy;simp at hy) (fun h₁ hns₁ hsb₁=>?_) B.kind);dsimp only at hns₁ hsb₁ ⊢;generalize hH3:s.heap.push { cls:=.type "list",data:=.seq ([]:List Value).toArray }=h3 at hns₁ hsb₁ I3 ⊢;obtain ⟨s3,e3⟩:∃ s3:Shared,s3={ s with heap:=h3 }:=⟨_,rfl⟩
 obtain rfl:h3=s3.heap:=by rw [e3]
 have I3:Inv X pins σ (upd H s.heap.objs.size (.lst [])) s3:=by
  have e:s3={ s with heap:=s3.heap,toks:=s.toks }:=e3
  rw [e];exact I3
 have eT:s3.toks=s.toks:=by rw [e3]
 have eS:({ s with heap:=h₁,toks:=s.toks+([]:List (Str × Value)).length }:Shared)={ s3 with heap:=h₁,toks:=s3.toks+([]:List (Str × Value)).length }:=by rw [e3]
 rw [eS];have hz3:s3.heap.objs.size=s.heap.objs.size+1:=by rw [<- hH3];exact Heap.size_push _ _
 have old:∀ b o,s3.heap.get? b=some o->h₁.get? b=some o:=fun b o e=>hsb₁.extBut b o (Nat.ne_of_lt (Heap.lt_size e)) (Heap.get?_push_of_some _ e)
 have st3:tn 0 s3.heap:=T.keep _ _ _ st fun b hb o e=>by rw [<- hH3];exact Heap.get?_push_of_some _ e
 have st4:tn 0 h₁:=T.keep _ _ _ st3 fun b _ o e=>old b o e
 have I4:=I3.blk (tk:=s3.toks+([]:List (Str × Value)).length) B f3 (fun b hb=>Nat.lt_of_lt_of_le (flt b hb) (by rw [hz3];exact Nat.le_succ _)) (show h₁.Ns s3.heap.objs.size (fun _=>none) from hns₁) old;generalize hX':u51 X N' scope s3.heap.objs.size s3 (upd H s.heap.objs.size (.lst [])) fp=X' at I4;have eX:X'.prog=X.prog /\ X'.w=X.w /\ X'.K=X.K /\ X'.A=X.A /\ X'.calm=X.calm /\ X'.env=compEnvC scope (clOf X.env scope.names []) s3.heap.objs.size X.env /\ X'.ex=fp /\ X'.outer=X.stack /\ X'.s₀=s3 /\ X'.H₀=upd H s.heap.objs.size (.lst []) /\ X'.pn=[] /\ X'.xe=(fun _ _=>False):=by
  rw [<- hX'];exact ⟨rfl,rfl,rfl,rfl,rfl,rfl,rfl,rfl,rfl,rfl,rfl,rfl⟩
 have hg':PG X' tg g:=hX' ▸ hg _ _ _ _;have hi':PIfs X' ifs tc:=hX' ▸ hi _ _ _ _;have he':PE X' elt te:=hX' ▸ he _ _ _ _;obtain ⟨e1,e2,e3,e4,e5,e6,e7,e8,e9,e10,e11,e12⟩:=eX;have stat:∀ {H':Hp},(∀ b ∈ fp,H' b=none)->∀ b ∈ fp,FpOk X' [] H' b:=fun {H'} hn b hb=>by
  have q:=I4.ok.exf b (by rw [e7];exact hb);refine ⟨hn b hb,q.1,?_,.inl (by rw [e7];exact hb),q.2,fun p hp=>?_⟩
  ·exact I4.ok.exfs b (by rw [e7];exact hb)
  ·rw [e11] at hp;simp at hp
 have loop:codeAny (model X.prog X.w) X.A (.compLoop (.ListComp elt [⟨tg,iter,ifs,0⟩] scope pos) 0 (.ref it) (.ref s.heap.objs.size) (compEnvC scope (clOf X.env scope.names []) s3.heap.objs.size X.env))
   (RR (.ref s.heap.objs.size) s3.heap.objs.size) { s3 with heap:=h₁,toks:=s3.toks+([]:List (Str × Value)).length }:=by
  refine vx5 (fun n s'=>∃ i σi Hi,Inv X' [] σi Hi s' /\ tn i s'.heap /\ (∀ b ∈ fp,Hi b=none) /\ W i n σi Hi) ?_ m0 ⟨0,_,_,I4,st4,hfr,w0⟩;rintro n s5 ⟨i,σ5,H5,I5,st5,fr5,w5⟩
  rcases turn i n σ5 H5 w5 with ⟨stop,qn⟩ | ⟨go,N,hN,step⟩
  ·have d:=T.done X' e1 e2 e3 (by rw [e5];exact hc) i [] s5 σ5 H5 (fun _ _=>False) I5 (stat fr5) st5 stop
   rw [e4] at d
   (refine thn d ?_;rintro r s6 ⟨hr,I6⟩)
   subst hr;have u:=I6.base;rw [e7,e9,e10] at u;have u:Un (frs X'.outer) fp (upd H s.heap.objs.size (.lst [])) H5 s3.heap s6.heap:=u;rw [e8] at u;have ok6:=I6.hok;rw [e1,e2] at ok6;have I7:Inv X pins σ H5 s6:=I3.call' (ch:=fp) (by have:=I6.os;rw [e9] at this;exact this) u ok6 I6.bare fun b hb=>⟨(f b hb).2.2.2.1,(f b hb).2.1,(f b hb).2.2.2.2.1,(f b hb).2.2.2.2.2⟩
   have hfree:=I6.free;obtain ⟨m,hm,_⟩:=I6.loc;rw [e6] at hfree hm;exact hRR _ H5 s6 m I7 (I3.fpOk (Nat.le_refl _) hfree) hm qn
  ·have d:=T.item X' e1 e2 e3 (by rw [e5];exact hc) i [] s5 σ5 H5 (fun _ _=>False) I5 (stat fr5) st5 go
   rw [e4] at d
   (refine thn d ?_;rintro r s6 ⟨u,hr,h6⟩)
   subst hr
   (refine thn h6 ?_;rintro _ s7 ⟨x,H7,I7,r7,y7,st7,fr7⟩)
   have I7':=I7.pinned (stat fr7) (T.obj _ _ st7);have a:=hg' _ s7 σ5 H7 x u _ I7' r7 (step x H7 y7);rw [e1,e2,e4,e6,e12] at a
   (refine thn a ?_;rintro _ s8 ⟨σ8,H8,I8,q8⟩)
   have t:=hi' _ s8 σ8 H8 _ I8 q8;rw [e1,e2,e4,e6,e12] at t;have again:∀ {σ9:St} {H9:Hp} {s9:Shared},Inv X' ([]++uk5 fp s7.heap) σ9 H9 s9->N σ9 H9->∃ m,m < n /\ ∃ i σi Hi,Inv X' [] σi Hi s9 /\ tn i s9.heap /\ (∀ b ∈ fp,Hi b=none) /\ W i m σi Hi:=fun {σ9 H9 s9} I9 n9=>by
    obtain ⟨m',hm,w9⟩:=hN σ9 H9 n9;refine ⟨m',hm,i+1,σ9,H9,I9.unpinned,T.keep _ _ _ st7 fun b hb o e=>(I9.pin (b,o) (List.mem_append_right _ (List.mem_append_right _ (u79 hb e)))).1,fun b hb=>?_,w9⟩;obtain ⟨o,e,d⟩:=T.obj _ _ st7 b hb;exact (I9.pin (b,o) (List.mem_append_right _ (List.mem_append_right _ (u79 hb e)))).2.1
   (refine thn t ?_;rintro ok s9 ⟨H9,I9,q9⟩)
   cases ok with
   | false =>
    rw [if_neg Bool.false_ne_true] at q9 ⊢;exact again I9 q9
   | true =>
    rw [if_pos rfl] at q9 ⊢;have v:=he' _ s9 σ8 H9 _ I9 q9;rw [e1,e2,e4,e6,e12] at v
    (refine thn v ?_;rintro y s10 ⟨z,H10,I10,r10,ys,hD,hz,q10⟩)
    have ap:=ul0 _ s10 σ8 H10 (.ref s.heap.objs.size) [z] (.ref s.heap.objs.size) [y] (fun _ H'=>N σ8 H') I10 rfl (.cons r10 .nil) ⟨_,ys,z,rfl,rfl,hD,hz,q10⟩;rw [e1,e2,e4,e12] at ap
    (refine thn ap ?_;rintro _ s11 ⟨_,H11,I11,_,q11⟩;exact again I11 q11)
 exact codeAny_compStart_list loop (T.self _ _ _ _ _ st4 loop)
variable {elt tg iter:Expr} {ifs:List Expr} {scope:Scope} {pos:Pos} {N':List Str} {ix:List (Option Nat)} {wi:TI} {g:TG} {tc:TT} {te:TE}
theorem vv0 (B:BlkOk X N' ix scope) (hc:X.calm=true) (hw:PI X tg iter wi)
  (hg:∀ C s H fp,PG (u51 X N' scope C s H fp) tg g) (hi:∀ C s H fp,PIfs (u51 X N' scope C s H fp) ifs tc) (he:∀ C s H fp,PE (u51 X N' scope C s H fp) elt te)
  (hs:∀ x,foldedSetIterable iter X.env x=pure x:=by intro _;rfl) :
  PE X (.ListComp elt [⟨tg,iter,ifs,0⟩] scope pos) (vq6 ix wi g tc te):=by
 intro pins s σ H Q I h;rw [eval_ListComp];refine wpAny_comprehension_free (use:=none) rfl hs (ug5 fun y hy e=>I.ok.has y.1 (B.frees y hy e)) B.kind B.names ?_;refine thn (hw pins s σ H _ I h) fun v s1 h1=>thn h1 fun itv s2 h2=>?_
 obtain ⟨it,fp,tn,J,H2,e,I2,T,st2,f2,q2⟩:=h2;subst e;refine v92 B hg hi he hc I2 T st2 f2 (Q:=Q) (q2 _ I2.fresh) fun C H' s' m I' fC hm q=>?_
 refine ⟨m,hm,fun h' sb=>⟨.ref s2.heap.objs.size,H',?_,rfl,q⟩⟩;exact I'.turned (t':=s'.toks) (it:=C) (fun b o hb e=>sb.extBut b o hb e) fC.1 fC.2.1 fC.2.2.2.1 fC.2.2.2.2.1 fC.2.2.2.2.2
def wi3 (i:Nat) (t:TE):TS:=fun D σ H=>t σ H fun x H1=>D.nx (σ.set i (some x)) H1
theorem vt6 {i:Nat} {y:Str} {py spos:Pos} (B:BlkOk X N' ix scope) (hc:X.calm=true) (hN:X.N.Nodup) (hy:X.N[i]?=some y) (hl:Loc X.env.scope y) (hw:PI X tg iter wi)
  (hg:∀ C s H fp,PG (u51 X N' scope C s H fp) tg g) (hi:∀ C s H fp,PIfs (u51 X N' scope C s H fp) ifs tc) (he:∀ C s H fp,PE (u51 X N' scope C s H fp) elt te)
  (hsw:swapsWith (.ListComp elt [⟨tg,iter,ifs,0⟩] scope pos) (some (.Name y py)) spos.line X.env=pure true:=by rfl)
  (hf:X.fn y=true \/ X.env.scope.names.lookup y=some .local:=by first | exact .inl rfl | exact .inr rfl | assumption)
  (hs:∀ x,foldedSetIterable iter X.env x=pure x:=by intro _;rfl) :
  PS X (.Assign [.Name y py] (.ListComp elt [⟨tg,iter,ifs,0⟩] scope pos) spos) (wi3 i (vq6 ix wi g tc te)):=by
 intro pins s σ H D I h;rw [exec_Assign_Name_used _ _ _ _ hsw];refine wpAny_bind (wpAny_standAt (wpAny_bind ?_))
 show wpAny _ X.A (do let _ <- comprehension (.ListComp elt [⟨tg,iter,ifs,0⟩] scope pos) scope X.env _ (newList []) false (eval iter X.env) (some (assign (.Name y py) X.env))) _ _ s
 refine wpAny_bind (wpAny_mono (wpAny_comprehension_free (use:=some (assign (.Name y py) X.env)) (Q:=fun _ s'=>SP X pins D .next s') rfl hs (ug5 fun y hy e=>I.ok.has y.1 (B.frees y hy e)) B.kind B.names
  (thn (hw pins s σ H _ I h) fun v s1 h1=>thn h1 fun itv s2 h2=>?_)) (fun _ s' hq=>wpAny_pure (wpAny_pure hq)) fun _ _ e=>e)
 obtain ⟨it,fp,tn,J,H2,e,I2,T,st2,f2,q2⟩:=h2;subst e;refine v92 B hg hi he hc I2 T st2 f2 (Q:=fun x H1=>D.nx (σ.set i (some x)) H1) (q2 _ I2.fresh) fun C H' s' m I' fC hm q=>?_
 show wpAny _ _ (assign (.Name y py) X.env (.ref s2.heap.objs.size)) _ _ _
 (refine wpAny_assign_Name (uj9 I' hN hy hl (v:=.ref s2.heap.objs.size) rfl (?_) hf);rintro s'' I'' ⟨a,hsame,ha⟩)
 have hCa:C ≠ a:=by
  rcases ha with z | z
  ·rw [z];exact fC.2.1
  ·intro e;exact fC.2.2.2.2.1 _ _ z e.symm
 refine ⟨m,hm.sameBut hsame hCa,fun h' sb=>⟨_,H',?_,q⟩⟩;exact I''.turned (t':=s''.toks) (it:=C) (fun b o hb e=>sb.extBut b o hb e) fC.1 fC.2.1 fC.2.2.2.1 fC.2.2.2.2.1 fC.2.2.2.2.2
end
section
variable {X:Cx} {pos:Pos}
def gLst (K:W.Frag) (n:Nat) (t:TGs):TG:=fun v σ H Q=>∃ a xs,v=.ref a /\ SqL K H a xs /\ xs.length=n /\ t xs σ H Q
theorem vu2 {es:List Expr} {k:Nat} {t:TGs} {n:Nat} (hc:X.calm=true) (h:PGs X es t)
  (hn:(assignEach es X.env).length=n:=by rfl) (hst:(assignEach es X.env).findIdx? (·.1)=none:=by rfl):PG X (.Tuple es k pos) (gLst X.K n t):=by
 intro pins s σ H v u Q I r hw;obtain ⟨a,xs,e1,hq,hl,hw⟩:=hw;subst e1;cases r;obtain ⟨its,rv,ht,hz⟩:=I.list hq;rw [PyProof.Rows.assign_Tuple];refine wpAny_bind (wpAny_standAt ?_);unfold unpack;have hsz:(assignEach es X.env).length=its.toArray.size:=by simp [hn,<- hl,rv.length]
 rw [hsz,hst];refine wpAny_bind (wpAny_holding (W.kun_itemsOf (I.ok.hd hc) ht.isList fun h' hx=>?_));have I1:Inv X pins σ H { s with heap:=h' }:=I.kept (t':=s.toks) fun b o e=>hx b o (Nat.ne_of_lt (Heap.lt_size e)) e
 exact h pins _ σ H xs _ Q I1 (by simpa using rv) hw
theorem wj0 {tg:Expr} {t t':TG} (h:PG X tg t) (h':PG X tg t'):PG X tg (fun v σ H Q=>t v σ H Q \/ t' v σ H Q):=by
 intro pins s σ H v u Q I r q
 rcases q with q | q
 ·exact h pins s σ H v u Q I r q
 ·exact h' pins s σ H v u Q I r q
def iSeq (K:W.Frag) (tl:TE):TI:=fun σ H R=>tl σ H fun x H1=>∃ a,x=.ref a /\ (((∃ xs,SqL K H1 a xs) /\ R (Itl K a) H1) \/ ((∃ xs,SqT K H1 a xs) /\ R (Itt K a) H1))
theorem w69 {tg l:Expr} {tl:TE} (hl:PE X l tl):PI X tg l (iSeq X.K tl):=by
 intro pins s σ H R I h
 (refine thn (hl pins s σ H _ I h) ?_;rintro v s1 ⟨x,H1,I1,r1,q1⟩)
 obtain ⟨a,e,⟨⟨xs,hq⟩,q⟩ | ⟨⟨xs,hq⟩,q⟩⟩:=q1
 ·subst e
  cases r1;obtain ⟨its,rv,p,hz⟩:=I1.list hq;refine wpAny_pyIter_list p.isList ?_;refine ⟨s1.heap.objs.size,[s1.heap.objs.size],_,_,H1,rfl,I1.kept (t':=s1.toks) fun b o e=>Heap.get?_push_of_some _ e,uy8 a _,⟨_,Heap.get?_push_size _ rfl,rfl,rfl⟩,fun b hb=>?_,q⟩;have e:b=s1.heap.objs.size:=by simpa using hb
  subst e;exact I1.fpOk (Nat.le_refl _) (I1.hok.fresh (Nat.le_refl _))
 ·subst e
  cases r1;obtain ⟨its,rv,p,hz⟩:=I1.tuple hq;refine wpAny_pyIter_tuple (show s1.heap.IsTuple a its.toArray from p) ?_;refine ⟨s1.heap.objs.size,[s1.heap.objs.size],_,_,H1,rfl,I1.kept (t':=s1.toks) fun b o e=>Heap.get?_push_of_some _ e,uu9 a _,⟨_,Heap.get?_push_size _ rfl,rfl,rfl⟩,fun b hb=>?_,q⟩;have e:b=s1.heap.objs.size:=by simpa using hb
  subst e;exact I1.fpOk (Nat.le_refl _) (I1.hok.fresh (Nat.le_refl _))
theorem w88:OpR X (compareOp .Is) (fun x y H Q=>∃ b,y=.bl b /\ Q (.bl (decide (x=.bl b))) H):=by
 intro pins s σ H x y v u Q I rx ry h;obtain ⟨b,rfl,q⟩:=h;cases ry;refine wpAny_is_plain ?_ (u22 I q ?_)
 ·cases x <;> first
   | (cases rx;rfl)
   | (obtain ⟨t,rfl⟩:=rx;rfl)
 ·cases x <;> first
   | (obtain ⟨t,rfl⟩:=rx;rfl)
   | (cases rx;cases b <;> rfl)
   | (cases rx;rename_i c;cases b <;> cases c <;> rfl)
theorem v21:OpR X (compareOp .IsNot) (fun x y H Q=>∃ b,y=.bl b /\ Q (.bl (!decide (x=.bl b))) H):=by
 intro pins s σ H x y v u Q I rx ry h;obtain ⟨b,rfl,q⟩:=h;cases ry;refine wpAny_isNot_plain ?_ (u22 I q ?_)
 ·cases x <;> first
   | (cases rx;rfl)
   | (obtain ⟨t,rfl⟩:=rx;rfl)
 ·cases x <;> first
   | (obtain ⟨t,rfl⟩:=rx;rfl)
   | (cases rx;cases b <;> rfl)
   | (cases rx;rename_i c;cases b <;> cases c <;> rfl)
theorem uf4:∀ {bs:List Bool} {us:List Value},Vals (bs.map V.bl) us->us=bs.map Value.bool
 | [],_,.nil=>rfl
 | b::bs,_,.cons r t=>by cases r;rw [uf4 t];rfl
theorem vi5 (hc:X.calm=true):CallR X (.builtin "all") (fun xs H Q=>∃ (p:Addr) (bs:List Bool),xs=[.ref p] /\ SqL X.K H p (bs.map V.bl) /\ Q (.bl (bs.all id)) H):=by
 intro pins s σ H xs us Q I r h;obtain ⟨p,bs,rfl,hq,q⟩:=h;obtain ⟨u,rfl,rx⟩:=vals1 r;cases rx;obtain ⟨its,r',pl,hz⟩:=I.list hq;have e:=uf4 r';subst e;have hl:=pl.isList;have hlt:p < s.heap.objs.size:=by obtain ⟨_,e,_⟩:=hl;exact Heap.lt_size e
 refine call_all_walk (wpAny_pyIter_list hl ?_);refine ⟨s.heap.objs.size,[s.heap.objs.size,p],[s.heap.objs.size],(bs.map Value.bool).toArray.size,_,_,fun i=>(bs[i]?).getD true,rfl,Walks.list (A:=X.A.in1) (I.ok.hd hc) _ p (Nat.ne_of_lt hlt) (bs.map Value.bool).toArray,
  ⟨⟨_,Heap.get?_push_size _ rfl,rfl,rfl⟩,hl.push _⟩,fun i v s' Q' E' hP hQ=>?_,fun h' tk hk=>?_⟩
 ·have hP:(bs.map Value.bool)[i]?=some v:=by simpa using hP
  rw [List.getElem?_map] at hP;cases hb:bs[i]? with
  | none=>rw [hb] at hP;cases hP
  | some b =>
   rw [hb] at hP;cases hP;simp only [hb,Option.getD_some] at hQ;exact wpAny_truthy_bool hQ
 ·have e:((List.range (bs.map Value.bool).toArray.size).all fun i=>(bs[i]?).getD true)=bs.all id:=by
   rw [List.size_toArray,List.length_map,Bool.eq_iff_iff,List.all_eq_true,List.all_eq_true]
   constructor
   ·intro h b hb
    obtain ⟨i,hi,e⟩:=List.mem_iff_getElem.mp hb;have:=h i (List.mem_range.mpr hi);rw [List.getElem?_eq_getElem hi,e] at this;exact this
   ·intro h i hi
    have hi:=List.mem_range.mp hi;rw [List.getElem?_eq_getElem hi];exact h _ (List.getElem_mem hi)
  rw [e];refine ⟨.bl _,H,?_,rfl,q⟩;exact I.kept fun b x e=>hk b x (fun hm=>by rw [List.mem_singleton.mp hm] at e;exact Nat.lt_irrefl _ (Heap.lt_size e)) (Heap.get?_push_of_some _ e)
def vx9 (K:W.Frag) (H:Hp):V->String->Prop
 | .non,n=>n = "NoneType"
 | .bl _,n=>n = "bool"
 | .int _,n=>n = "int"
 | .str _,n=>n = "str"
 | .ref a,n=>(n = "list" /\ ((∃ xs,H a=some (.lst xs)) \/ ∃ o xs,H a=some (.frz o (.lst xs)))) \/ (n = "tuple" /\ ∃ xs,H a=some (.tup xs)) \/ (n = "dict" /\ ∃ xs,H a=some (.dK xs))
 | _,_=>False
def subK (n T:String):Bool:=n == T || (n == "bool" && T == "int")
theorem u74 {K:W.Frag} {n T:String} (hn:n = "NoneType" \/ n = "bool" \/ n = "int" \/ n = "str" \/ n = "list" \/ n = "tuple" \/ n = "dict") (hT:T = "int" \/ T = "str" \/ T = "bool" \/ T = "list" \/ T = "tuple" \/ T = "dict"):W.kitOne K (.type n) (.type T)=some (subK n T):=by
 rcases hn with rfl | rfl | rfl | rfl | rfl | rfl | rfl <;> rcases hT with rfl | rfl | rfl | rfl | rfl | rfl <;> rfl
theorem up5:CallR X (.builtin "isinstance") (fun xs H Q=>∃ x n T,xs=[x,.ty T] /\ vx9 X.K H x n /\ (T = "int" \/ T = "str" \/ T = "bool" \/ T = "list" \/ T = "tuple" \/ T = "dict") /\ Q (.bl (subK n T)) H):=by
 intro pins s σ H xs us Q I r h;obtain ⟨x,n,T,rfl,hk,hT,q⟩:=h;obtain ⟨u,w,rfl,rx,rt⟩:=vals2 r;cases rt;have fin:∀ tk,EP X pins σ Q (.bool (subK n T)) { s with toks:=tk }:=fun tk=>⟨.bl (subK n T),H,I.tok tk,rfl,q⟩
 cases x with
 | non=>cases (show n = "NoneType" from hk);exact u50 I rx .non (u74 (by simp) hT) fin
 | bl b=>cases (show n = "bool" from hk);exact u50 I rx (.bl b) (u74 (by simp) hT) fin
 | int i=>cases (show n = "int" from hk);exact u50 I rx (.int i) (u74 (by simp) hT) fin
 | str i=>cases (show n = "str" from hk);exact u50 I rx (.str i) (u74 (by simp) hT) fin
 | ref a =>
  rcases (show (n = "list" /\ ((∃ xs,H a=some (.lst xs)) \/ ∃ o xs,H a=some (.frz o (.lst xs)))) \/ (n = "tuple" /\ ∃ xs,H a=some (.tup xs)) \/ (n = "dict" /\ ∃ xs,H a=some (.dK xs)) from hk) with ⟨e,⟨xs,h1⟩ | ⟨o,xs,h1⟩⟩ | ⟨e,xs,h1⟩ | ⟨e,xs,h1⟩
  ·cases e;exact u50 I rx (.lst h1) (u74 (by simp) hT) fin
  ·cases e;exact u50 I rx (.frz h1) (u74 (by simp) hT) fin
  ·cases e;exact u50 I rx (.tup h1) (u74 (by simp) hT) fin
  ·cases e;exact u50 I rx (.dK h1) (u74 (by simp) hT) fin
 | _=>exact (show False from hk).elim
end
end L2
namespace L2
open PySem
def XH (a C:Addr) (dx:Option Addr) (h:Heap):Prop:=∃ o vs,h.get? a=some o /\ o.cls=.ref C /\ o.dict=dx /\ o.data=.fields vs
def XDict (H:Hp):Option Addr->List (Str × V)->Prop
 | none,ys=>ys=[]
 | some d,ys=>∃ o,H d=some (.frz o (.xd ys))
end L2
namespace L3
open PySem L2
inductive D where
 | non | bl (b:Bool) | int (i:Int) | str (x:Str) | tup (xs:List D) | ref (a:Addr) | ty (n:String)
inductive DO where
 | lst (xs:List D) | fro (xs:List D) | dic (kvs:List (Key × D)) | dit (kvs:List (List Key × D)) | ins (C:Addr) (fs:List (Str × D)) | exc (C:Addr) (fs:List (Str × D)) | frd (kvs:List (Key × D))
abbrev Gp:=Addr->Option DO
def gup (G:Gp) (a:Addr) (o:DO):Gp:=fun b=>if b=a then some o else G b
theorem u01 {G:Gp} {a:Addr} {o:DO}:gup G a o a=some o:=by unfold gup;rw [if_pos rfl]
theorem u07 {G:Gp} {a b:Addr} {o:DO} (h:b ≠ a):gup G a o b=G b:=by unfold gup;rw [if_neg h]
theorem u65 {G:Gp} {a:Addr} {o u:DO}:gup (gup G a o) a u=gup G a u:=by
 funext b;unfold gup;split <;> rfl
theorem gne {G:Gp} {a b:Addr} {o:DO} (h:G a=some o) (h':G b=none):a ≠ b:=by
 intro e;subst e;rw [h] at h';cases h'
theorem gne' {G:Gp} {a b:Addr} {o:DO} (h':G b=none) (h:G a=some o):b ≠ a:=Ne.symm (gne h h')
structure Le (H H':Hp):Prop where
 tups:∀ b xs,H b=some (.tup xs)->H' b=some (.tup xs)
 frzs:∀ b o u,H b=some (.frz o u)->H' b=some (.frz o u)
theorem Le.refl (H:Hp):Le H H:=⟨fun _ _ h=>h,fun _ _ _ h=>h⟩
theorem Le.trans {H H1 H2:Hp} (a:Le H H1) (b:Le H1 H2):Le H H2:=⟨fun c xs h=>b.tups c xs (a.tups c xs h),fun c o u h=>b.frzs c o u (a.frzs c o u h)⟩
theorem Le.sqT {K:W.Frag} {H H':Hp} (l:Le H H') {a:Addr} {xs:List V} (h:SqT K H a xs):SqT K H' a xs:=by
 rcases h with (h | ⟨o,h⟩) | h
 ·exact .inl (.inl (l.tups _ _ h))
 ·exact .inl (.inr ⟨o,l.frzs _ _ _ h⟩)
 ·exact .inr h
theorem Le.fresh {H:Hp} {p:Addr} {o:HO} (h:H p=none):Le H (upd H p o) :=
 ⟨fun b xs q=>by rw [u09 (u37 q h)];exact q,fun b o u q=>by rw [u09 (u37 q h)];exact q⟩
mutual
def RelD (K:W.Frag) (H:Hp):D->V->Prop
 | .non,v=>v=.non
 | .bl b,v=>v=.bl b
 | .int i,v=>v=.int i
 | .str x,v=>v=.str x
 | .ref a,v=>v=.ref a
 | .ty n,v=>v=.ty n
 | .tup ds,v=>∃ a xs,v=.ref a /\ SqT K H a xs /\ RelDs K H ds xs
def RelDs (K:W.Frag) (H:Hp):List D->List V->Prop
 | [],xs=>xs=[]
 | d::ds,xs=>∃ x r,xs=x::r /\ RelD K H d x /\ RelDs K H ds r
end
section
variable {K:W.Frag} {H H':Hp}
mutual
theorem RelD.le (l:Le H H'):∀ {d:D} {v:V},RelD K H d v->RelD K H' d v
 | .non,_,h=>by simpa [RelD] using h
 | .bl _,_,h=>by simpa [RelD] using h
 | .int _,_,h=>by simpa [RelD] using h
 | .str _,_,h=>by simpa [RelD] using h
 | .ref _,_,h=>by simpa [RelD] using h
 | .ty _,_,h=>by simpa [RelD] using h
 | .tup ds,_,h=>by
  rw [RelD] at h ⊢;obtain ⟨a,xs,e,s,r⟩:=h;exact ⟨a,xs,e,l.sqT s,RelDs.le l r⟩
theorem RelDs.le (l:Le H H'):∀ {ds:List D} {xs:List V},RelDs K H ds xs->RelDs K H' ds xs
 | [],_,h=>by simpa [RelDs] using h
 | d::ds,_,h=>by
  rw [RelDs] at h ⊢;obtain ⟨x,r,e,h1,h2⟩:=h;exact ⟨x,r,e,RelD.le l h1,RelDs.le l h2⟩
end
theorem RelDs.nil:RelDs K H [] []:=by rw [RelDs]
theorem RelDs.cons {d:D} {ds:List D} {x:V} {xs:List V} (h:RelD K H d x) (t:RelDs K H ds xs):RelDs K H (d::ds) (x::xs):=by
 rw [RelDs];exact ⟨x,xs,rfl,h,t⟩
theorem RelDs.inv_nil {xs:List V} (h:RelDs K H [] xs):xs=[]:=by rw [RelDs] at h;exact h
theorem RelDs.inv_cons {d:D} {ds:List D} {xs:List V} (h:RelDs K H (d::ds) xs):∃ x r,xs=x::r /\ RelD K H d x /\ RelDs K H ds r:=by rw [RelDs] at h;exact h
theorem RelDs.length:∀ {ds:List D} {xs:List V},RelDs K H ds xs->ds.length=xs.length
 | [],_,h=>by rw [h.inv_nil];rfl
 | _::_,_,h=>by obtain ⟨x,r,e,_,t⟩:=h.inv_cons;rw [e,List.length_cons,List.length_cons,t.length]
theorem RelDs.get:∀ {ds:List D} {xs:List V} {i:Nat} {d:D},RelDs K H ds xs->ds[i]?=some d->∃ x,xs[i]?=some x /\ RelD K H d x
 | [],_,_,_,_,e=>by simp at e
 | _::_,_,0,_,h,e=>by
  obtain ⟨x,r,rfl,h1,t⟩:=h.inv_cons;simp at e;subst e;exact ⟨x,rfl,h1⟩
 | _::_,_,i+1,d,h,e=>by
  obtain ⟨x,r,rfl,h1,t⟩:=h.inv_cons;obtain ⟨y,h2,h3⟩:=RelDs.get (i:=i) t (by simpa using e);exact ⟨y,by simpa using h2,h3⟩
theorem RelDs.of:∀ {ds:List D} {xs:List V},ds.length=xs.length->(∀ (i:Nat) d x,ds[i]?=some d->xs[i]?=some x->RelD K H d x)->RelDs K H ds xs
 | [],[],_,_=>.nil
 | [],_::_,h,_=>by simp at h
 | _::_,[],h,_=>by simp at h
 | d::ds,x::xs,h,f=>.cons (f 0 d x rfl rfl) (RelDs.of (by simpa using h) fun i d x a b=>f (i+1) d x (by simpa using a) (by simpa using b))
theorem RelDs.append:∀ {ds es:List D} {xs ys:List V},RelDs K H ds xs->RelDs K H es ys->RelDs K H (ds++es) (xs++ys)
 | [],_,_,_,h,t=>by rw [h.inv_nil];exact t
 | _::_,_,_,_,h,t=>by
  obtain ⟨x,r,rfl,h1,h2⟩:=h.inv_cons;exact .cons h1 (h2.append t)
theorem RelDs.set {d:D} {x:V} (q:RelD K H d x):∀ {ds:List D} {xs:List V} (i:Nat),RelDs K H ds xs->RelDs K H (ds.set i d) (xs.set i x)
 | [],_,_,h=>by rw [h.inv_nil];exact .nil
 | _::_,_,0,h=>by
  obtain ⟨x,r,rfl,h1,h2⟩:=h.inv_cons;exact .cons q h2
 | _::_,_,i+1,h=>by
  obtain ⟨x,r,rfl,h1,h2⟩:=h.inv_cons;exact .cons h1 (h2.set q i)
theorem RelDs.take:∀ {ds:List D} {xs:List V} (n:Nat),RelDs K H ds xs->RelDs K H (ds.take n) (xs.take n)
 | _,_,0,_=>by simpa using RelDs.nil
 | [],_,_+1,h=>by rw [h.inv_nil];exact .nil
 | _::_,_,n+1,h=>by
  obtain ⟨x,r,rfl,h1,h2⟩:=h.inv_cons;exact .cons h1 (h2.take n)
theorem RelDs.drop:∀ {ds:List D} {xs:List V} (n:Nat),RelDs K H ds xs->RelDs K H (ds.drop n) (xs.drop n)
 | _,_,0,h=>by simpa using h
 | [],_,_+1,h=>by rw [h.inv_nil];exact .nil
 | _::_,_,n+1,h=>by
  obtain ⟨x,r,rfl,h1,h2⟩:=h.inv_cons;exact h2.drop n
theorem RelDs.dropLast {ds:List D} {xs:List V} (h:RelDs K H ds xs):RelDs K H ds.dropLast xs.dropLast:=by
 rw [List.dropLast_eq_take,List.dropLast_eq_take,h.length];exact h.take _
theorem RelDs.rep {ds:List D} {xs:List V} (h:RelDs K H ds xs):∀ k:Nat,RelDs K H (List.replicate k ds).flatten (List.replicate k xs).flatten
 | 0=>.nil
 | k+1=>by rw [List.replicate_succ,List.replicate_succ,List.flatten_cons,List.flatten_cons];exact h.append (h.rep k)
def RelPs {κ:Type} (K:W.Frag) (H:Hp) (ps:List (κ × D)) (qs:List (κ × V)):Prop:=ps.map (·.1)=qs.map (·.1) /\ RelDs K H (ps.map (·.2)) (qs.map (·.2))
theorem RelPs.le {κ:Type} (l:Le H H') {ps:List (κ × D)} {qs:List (κ × V)} (h:RelPs K H ps qs):RelPs K H' ps qs:=⟨h.1,RelDs.le l h.2⟩
end
def ObjD (K:W.Frag) (H:Hp) (a:Addr):DO->Prop
 | .lst ds=>∃ xs,H a=some (.lst xs) /\ RelDs K H ds xs
 | .fro ds=>∃ o xs,H a=some (.frz o (.lst xs)) /\ RelDs K H ds xs
 | .dic kvs=>∃ ys,H a=some (.dK ys) /\ RelPs K H kvs ys
 | .dit kvs=>∃ ys,H a=some (.dT ys) /\ RelPs K H kvs ys
 | .ins C fs=>∃ dx ys,H a=some (.ins C dx ys) /\ RelPs K H fs ys
 | .exc C fs=>∃ dx ys,H a=some (.ext (XH a C dx)) /\ XDict H dx ys /\ RelPs K H fs ys
 | .frd kvs=>∃ o ys,H a=some (.frz o (.dK ys)) /\ RelPs K H kvs ys
theorem _root_.L2.XDict.le {H H':Hp} (l:Le H H') {dx:Option Addr} {ys:List (Str × V)} (h:XDict H dx ys):XDict H' dx ys:=by
 cases dx with
 | none=>exact h
 | some d=>obtain ⟨o,e⟩:=h;exact ⟨o,l.frzs _ _ _ e⟩
def Con (K:W.Frag) (G:Gp) (H:Hp):Prop:=∀ a o,G a=some o->ObjD K H a o
section
variable {K:W.Frag} {G:Gp} {H H':Hp} {a p:Addr} {o:DO}
theorem ObjD.some (h:ObjD K H a o):∃ u,H a=some u:=by
 cases o with
 | lst ds=>obtain ⟨xs,e,_⟩:=h;exact ⟨_,e⟩
 | fro ds=>obtain ⟨_,xs,e,_⟩:=h;exact ⟨_,e⟩
 | dic ds=>obtain ⟨xs,e,_⟩:=h;exact ⟨_,e⟩
 | dit ds=>obtain ⟨xs,e,_⟩:=h;exact ⟨_,e⟩
 | ins C ds=>obtain ⟨_,xs,e,_⟩:=h;exact ⟨_,e⟩
 | exc C ds=>obtain ⟨_,xs,e,_⟩:=h;exact ⟨_,e⟩
 | frd ds=>obtain ⟨_,xs,e,_⟩:=h;exact ⟨_,e⟩
theorem ObjD.stay (h:ObjD K H a o) (l:Le H H') (e:H' a=H a):ObjD K H' a o:=by
 cases o with
 | lst ds=>obtain ⟨xs,q,r⟩:=h;exact ⟨xs,e.trans q,RelDs.le l r⟩
 | fro ds=>obtain ⟨o,xs,q,r⟩:=h;exact ⟨o,xs,e.trans q,RelDs.le l r⟩
 | dic ds=>obtain ⟨xs,q,r⟩:=h;exact ⟨xs,e.trans q,r.le l⟩
 | dit ds=>obtain ⟨xs,q,r⟩:=h;exact ⟨xs,e.trans q,r.le l⟩
 | ins C ds=>obtain ⟨dx,xs,q,r⟩:=h;exact ⟨dx,xs,e.trans q,r.le l⟩
 | exc C ds=>obtain ⟨dx,xs,q,z,r⟩:=h;exact ⟨dx,xs,e.trans q,z.le l,r.le l⟩
 | frd ds=>obtain ⟨o,xs,q,r⟩:=h;exact ⟨o,xs,e.trans q,r.le l⟩
theorem Con.fresh (c:Con K G H) (h:H p=none):G p=none:=by
 cases e:G p with
 | none=>rfl
 | some o=>obtain ⟨u,q⟩:=(c p o e).some;rw [h] at q;cases q
theorem Con.stay (c:Con K G H) (l:Le H H') (e:∀ a o,G a=some o->H' a=H a):Con K G H':=fun a o q=>(c a o q).stay l (e a o q)
theorem Con.side {u:HO} (c:Con K G H) (h:H p=none):Con K G (upd H p u):=c.stay (Le.fresh h) fun a o q=>by
 obtain ⟨u,e⟩:=(c a o q).some;exact u09 (u37 e h)
theorem Con.put {u:HO} (c:Con K G H) (l:Le H (upd H p u)) (n:ObjD K (upd H p u) p o):Con K (gup G p o) (upd H p u):=fun b q e=>by
 by_cases hb:b=p
 ·subst hb;rw [u01] at e;cases e;exact n
 ·rw [u07 hb] at e
  exact (c b q e).stay l (u09 hb)
theorem Le.lst {xs ys:List V} (h:H p=some (.lst xs)):Le H (upd H p (.lst ys)) :=
  ⟨fun b zs q => by by_cases e : b = p
                    · subst e;rw [h] at q;cases q
                    · rw [u09 e];exact q,
   fun b o u q => by by_cases e : b = p
                     · subst e;rw [h] at q;cases q
                     · rw [u09 e];exact q⟩
theorem Le.dK {xs ys:List (Key × V)} (h:H p=some (.dK xs)):Le H (upd H p (.dK ys)) :=
  ⟨fun b zs q => by by_cases e : b = p
                    · subst e;rw [h] at q;cases q
                    · rw [u09 e];exact q,
   fun b o u q => by by_cases e : b = p
                     · subst e;rw [h] at q;cases q
                     · rw [u09 e];exact q⟩
theorem Le.ins {C dx C' dx':Addr} {xs ys:List (Str × V)} (h:H p=some (.ins C dx xs)):Le H (upd H p (.ins C' dx' ys)) :=
  ⟨fun b zs q => by by_cases e : b = p
                    · subst e;rw [h] at q;cases q
                    · rw [u09 e];exact q,
   fun b o u q => by by_cases e : b = p
                     · subst e;rw [h] at q;cases q
                     · rw [u09 e];exact q⟩
theorem Con.lstNew {ds:List D} {xs:List V} (c:Con K G H) (h:H p=none) (r:RelDs K H ds xs):Con K (gup G p (.lst ds)) (upd H p (.lst xs)) :=
 c.put (Le.fresh h) ⟨xs,u20,RelDs.le (Le.fresh h) r⟩
theorem Con.lstSet {ds:List D} {xs ys:List V} (c:Con K G H) (h:H p=some (.lst ys)) (r:RelDs K H ds xs):Con K (gup G p (.lst ds)) (upd H p (.lst xs)) :=
 c.put (Le.lst h) ⟨xs,u20,RelDs.le (Le.lst h) r⟩
end
abbrev DSt:=List (Option D)
def RelSt (K:W.Frag) (H:Hp) (σd:DSt) (σ:St):Prop:=σd.length=σ.length /\ ∀ (i:Nat) d,σd[i]?=some (some d)->∃ v,σ[i]?=some (some v) /\ RelD K H d v
theorem RelSt.le {K:W.Frag} {H H':Hp} {σd:DSt} {σ:St} (h:RelSt K H σd σ) (l:Le H H'):RelSt K H' σd σ :=
 ⟨h.1,fun i d e=>let ⟨v,a,b⟩:=h.2 i d e;⟨v,a,RelD.le l b⟩⟩
theorem RelSt.set {K:W.Frag} {H:Hp} {σd:DSt} {σ:St} {d:D} {v:V} (h:RelSt K H σd σ) (i:Nat) (r:RelD K H d v):RelSt K H (σd.set i (some d)) (σ.set i (some v)):=by
 refine ⟨by rw [List.length_set,List.length_set];exact h.1,fun j e q=>?_⟩;rw [List.getElem?_set] at q;split at q
 ·rename_i hij;subst hij
  split at q
  ·rename_i hl;cases q
   exact ⟨v,by rw [List.getElem?_set_self (by rw [<- h.1];exact hl)],r⟩
  ·cases q
 ·rename_i hij
  obtain ⟨w,a,b⟩:=h.2 j e q;exact ⟨w,by rw [List.getElem?_set_ne hij];exact a,b⟩
abbrev DK:=D->Gp->Prop
abbrev TE3:=DSt->Gp->DK->Prop
abbrev TT3:=DSt->Gp->(Bool->Gp->Prop)->Prop
abbrev TA3:=DSt->Gp->(List D->Gp->Prop)->Prop
structure Ends3 where
 nx:DSt->Gp->Prop
 rt:DK
 bk:DSt->Gp->Prop:=fun _ _=>False
 ct:DSt->Gp->Prop:=fun _ _=>False
abbrev TS3:=Ends3->DSt->Gp->Prop
def FutE (K:W.Frag) (H:Hp) (q:DK) (Q:VK):Prop:=∀ d G' v H',RelD K H' d v->Con K G' H'->Le H H'->q d G'->Q v H'
def FutT (K:W.Frag) (H:Hp) (q:Bool->Gp->Prop) (Q:Bool->Hp->Prop):Prop:=∀ b G' H',Con K G' H'->Le H H'->q b G'->Q b H'
def FutA (K:W.Frag) (H:Hp) (q:List D->Gp->Prop) (Q:List V->Hp->Prop):Prop:=∀ ds G' vs H',RelDs K H' ds vs->Con K G' H'->Le H H'->q ds G'->Q vs H'
def FutS (K:W.Frag) (H:Hp) (q:DSt->Gp->Prop) (Q:St->Hp->Prop):Prop:=∀ σd G' σ H',RelSt K H' σd σ->Con K G' H'->Le H H'->q σd G'->Q σ H'
theorem FutE.le {K:W.Frag} {H H1:Hp} {q:DK} {Q:VK} (f:FutE K H q Q) (l:Le H H1):FutE K H1 q Q:=fun d G v H' r c l'=>f d G v H' r c (l.trans l')
theorem FutS.le {K:W.Frag} {H H1:Hp} {q:DSt->Gp->Prop} {Q:St->Hp->Prop} (f:FutS K H q Q) (l:Le H H1):FutS K H1 q Q:=fun d G v H' r c l'=>f d G v H' r c (l.trans l')
structure FutD (K:W.Frag) (H:Hp) (d:Ends3) (D:Ends):Prop where
 nx:FutS K H d.nx D.nx
 rt:FutE K H d.rt D.rt
 bk:FutS K H d.bk D.bk
 ct:FutS K H d.ct D.ct
theorem FutD.le {K:W.Frag} {H H1:Hp} {d:Ends3} {D:Ends} (f:FutD K H d D) (l:Le H H1):FutD K H1 d D:=⟨f.nx.le l,f.rt.le l,f.bk.le l,f.ct.le l⟩
def lowE (K:W.Frag) (t:TE3):TE:=fun σ H Q=>∃ σd G q,RelSt K H σd σ /\ Con K G H /\ t σd G q /\ FutE K H q Q
def lowT (K:W.Frag) (t:TT3):TT:=fun σ H Q=>∃ σd G q,RelSt K H σd σ /\ Con K G H /\ t σd G q /\ FutT K H q Q
def lowA (K:W.Frag) (t:TA3):TA:=fun σ H Q=>∃ σd G q,RelSt K H σd σ /\ Con K G H /\ t σd G q /\ FutA K H q Q
def lowS (K:W.Frag) (t:TS3):TS:=fun D σ H=>∃ σd G d,RelSt K H σd σ /\ Con K G H /\ t d σd G /\ FutD K H d D
abbrev R3:=D->D->Gp->DK->Prop
def lowR (K:W.Frag) (r:R3):R2:=fun x y H Q=>∃ d e G q,RelD K H d x /\ RelD K H e y /\ Con K G H /\ r d e G q /\ FutE K H q Q
abbrev U3:=D->Gp->DK->Prop
def lowU (K:W.Frag) (r:U3):V->Hp->VK->Prop:=fun x H Q=>∃ d G q,RelD K H d x /\ Con K G H /\ r d G q /\ FutE K H q Q
abbrev C3:=List D->Gp->DK->Prop
def lowC (K:W.Frag) (r:C3):List V->Hp->VK->Prop:=fun xs H Q=>∃ ds G q,RelDs K H ds xs /\ Con K G H /\ r ds G q /\ FutE K H q Q
def dVar (i:Nat):TE3:=fun σ G q=>match σ[i]? with | some (some d)=>q d G | _=>False
def dC (d:D):TE3:=fun _ G q=>q d G
def dOp (r:R3) (ta tb:TE3):TE3:=fun σ G q=>ta σ G fun x G1=>tb σ G1 fun y G2=>r x y G2 q
def dUn (r:U3) (ta:TE3):TE3:=fun σ G q=>ta σ G fun x G1=>r x G1 q
def dNil:TA3:=fun _ G q=>q [] G
def ua8 (ta:TE3) (tr:TA3):TA3:=fun σ G q=>ta σ G fun x G1=>tr σ G1 fun xs G2=>q (x::xs) G2
def dTup (t:TA3):TE3:=fun σ G q=>t σ G fun xs G1=>xs.length<=sizeLine /\ q (.tup xs) G1
def dLst (t:TA3):TE3:=fun σ G q=>t σ G fun xs G1=>xs.length<=sizeLine /\ ∀ p,G1 p=none->q (.ref p) (gup G1 p (.lst xs))
def dB (t:TE3):TT3:=fun σ G q=>t σ G fun x G1=>match x with | .bl c=>q c G1 | _=>False
def dAnd (t u:TT3):TT3:=fun σ G q=>t σ G fun c G1=>if c=true then u σ G1 q else q false G1
def dOr (t u:TT3):TT3:=fun σ G q=>t σ G fun c G1=>if c=true then q true G1 else u σ G1 q
def dNot (t:TT3):TT3:=fun σ G q=>t σ G fun c G1=>q (!c) G1
def w00 (ta tb:TE3):TE3:=fun σ G q=>ta σ G fun x G1=>match x with | .bl c=>if c=true then tb σ G1 q else q (.bl false) G1 | _=>False
def dOrV (ta tb:TE3):TE3:=fun σ G q=>ta σ G fun x G1=>match x with | .bl c=>if c=true then q (.bl true) G1 else tb σ G1 q | _=>False
def vz8 (ta:TE3):TE3:=fun σ G q=>ta σ G fun x G1=>match x with | .bl c=>q (.bl (!c)) G1 | _=>False
def dIf (t:TT3) (ta tb:TE3):TE3:=fun σ G q=>t σ G fun c G1=>if c=true then ta σ G1 q else tb σ G1 q
section
variable {K:W.Frag} {σ:St} {H:Hp} {Q:VK}
theorem vw5 {i:Nat} (h:lowE K (dVar i) σ H Q):tVar i σ H Q:=by
 obtain ⟨σd,G,q,rs,c,t,f⟩:=h;unfold dVar at t;split at t
 ·rename_i d e
  obtain ⟨v,hv,r⟩:=rs.2 i d e;exact ⟨v,hv,f d G v H r c (Le.refl H) t⟩
 ·exact t.elim
theorem uo6 {d:D} {v:V} (r:∀ H,RelD K H d v) (h:lowE K (dC d) σ H Q):tC v σ H Q:=by
 obtain ⟨σd,G,q,rs,c,t,f⟩:=h;exact f d G v H (r H) c (Le.refl H) t
theorem ug0 {r:R3} {ta tb:TE3} (h:lowE K (dOp r ta tb) σ H Q):tOp (lowR K r) (lowE K ta) (lowE K tb) σ H Q:=by
 obtain ⟨σd,G,q,rs,c,t,f⟩:=h;exact ⟨σd,G,_,rs,c,t,fun d G1 v H1 r1 c1 l1 t1=>⟨σd,G1,_,rs.le l1,c1,t1,fun e G2 u H2 r2 c2 l2 t2=>⟨d,e,G2,q,RelD.le l2 r1,r2,c2,t2,f.le (l1.trans l2)⟩⟩⟩
theorem wc6 {r:U3} {ta:TE3} (h:lowE K (dUn r ta) σ H Q):tUn (lowU K r) (lowE K ta) σ H Q:=by
 obtain ⟨σd,G,q,rs,c,t,f⟩:=h;exact ⟨σd,G,_,rs,c,t,fun d G1 v H1 r1 c1 l1 t1=>⟨d,G1,q,r1,c1,t1,f.le l1⟩⟩
theorem vx0 {Q:List V->Hp->Prop} (h:lowA K dNil σ H Q):tNil σ H Q:=by
 obtain ⟨σd,G,q,rs,c,t,f⟩:=h;exact f [] G [] H .nil c (Le.refl H) t
theorem ui2 {ta:TE3} {tr:TA3} {Q:List V->Hp->Prop} (h:lowA K (ua8 ta tr) σ H Q):uv2 (lowE K ta) (lowA K tr) σ H Q:=by
 obtain ⟨σd,G,q,rs,c,t,f⟩:=h;exact ⟨σd,G,_,rs,c,t,fun d G1 v H1 r1 c1 l1 t1=>⟨σd,G1,_,rs.le l1,c1,t1,fun ds G2 vs H2 r2 c2 l2 t2=>f (d::ds) G2 (v::vs) H2 (.cons (RelD.le l2 r1) r2) c2 (l1.trans l2) t2⟩⟩
theorem vw6 {ta:TA3} (h:lowE K (dTup ta) σ H Q):tTup (lowA K ta) σ H Q:=by
 obtain ⟨σd,G,q,rs,c,t,f⟩:=h;refine ⟨σd,G,_,rs,c,t,fun ds G1 vs H1 r1 c1 l1 t1=>⟨by rw [<- r1.length];exact t1.1,fun p hp=>?_⟩⟩;refine f (.tup ds) G1 (.ref p) _ ?_ (c1.side hp) (l1.trans (Le.fresh hp)) t1.2;rw [RelD];exact ⟨p,vs,rfl,SqT.of u20,RelDs.le (Le.fresh hp) r1⟩
theorem uo5 {ta:TA3} (h:lowE K (dLst ta) σ H Q):tLst (lowA K ta) σ H Q:=by
 obtain ⟨σd,G,q,rs,c,t,f⟩:=h;refine ⟨σd,G,_,rs,c,t,fun ds G1 vs H1 r1 c1 l1 t1=>⟨by rw [<- r1.length];exact t1.1,fun p hp=>?_⟩⟩;exact f (.ref p) _ (.ref p) _ (by rw [RelD]) (c1.lstNew hp r1) (l1.trans (Le.fresh hp)) (t1.2 p (c1.fresh hp))
theorem RelD.bl_inv {c:Bool} {v:V} (h:RelD K H (.bl c) v):v=.bl c:=by rw [RelD] at h;exact h
theorem vf8 {t u:TT3} {Q:Bool->Hp->Prop} (h:lowT K (dAnd t u) σ H Q):tAnd (lowT K t) (lowT K u) σ H Q:=by
 obtain ⟨σd,G,q,rs,c,t,f⟩:=h;refine ⟨σd,G,_,rs,c,t,fun b G1 H1 c1 l1 t1=>?_⟩;cases b with
 | true=>rw [if_pos rfl] at t1 ⊢;exact ⟨σd,G1,q,rs.le l1,c1,t1,fun b G2 H2 c2 l2 t2=>f b G2 H2 c2 (l1.trans l2) t2⟩
 | false=>rw [if_neg Bool.false_ne_true] at t1 ⊢;exact f _ _ _ c1 l1 t1
theorem vw9 {t u:TT3} {Q:Bool->Hp->Prop} (h:lowT K (dOr t u) σ H Q):tOr (lowT K t) (lowT K u) σ H Q:=by
 obtain ⟨σd,G,q,rs,c,t,f⟩:=h;refine ⟨σd,G,_,rs,c,t,fun b G1 H1 c1 l1 t1=>?_⟩;cases b with
 | false=>rw [if_neg Bool.false_ne_true] at t1 ⊢;exact ⟨σd,G1,q,rs.le l1,c1,t1,fun b G2 H2 c2 l2 t2=>f b G2 H2 c2 (l1.trans l2) t2⟩
 | true=>rw [if_pos rfl] at t1 ⊢;exact f _ _ _ c1 l1 t1
theorem vf1 {t:TT3} {Q:Bool->Hp->Prop} (h:lowT K (dNot t) σ H Q):tNot (lowT K t) σ H Q:=by
 obtain ⟨σd,G,q,rs,c,t,f⟩:=h;exact ⟨σd,G,_,rs,c,t,fun b G1 H1 c1 l1 t1=>f _ _ _ c1 l1 t1⟩
theorem wc8 {t:TT3} {ta tb:TE3} (h:lowE K (dIf t ta tb) σ H Q):tIf (lowT K t) (lowE K ta) (lowE K tb) σ H Q:=by
 obtain ⟨σd,G,q,rs,c,t,f⟩:=h;refine ⟨σd,G,_,rs,c,t,fun b G1 H1 c1 l1 t1=>?_⟩;cases b with
 | true=>rw [if_pos rfl] at t1 ⊢;exact ⟨σd,G1,q,rs.le l1,c1,t1,f.le l1⟩
 | false=>rw [if_neg Bool.false_ne_true] at t1 ⊢;exact ⟨σd,G1,q,rs.le l1,c1,t1,f.le l1⟩
end
def vz9:TS3:=fun E σ G=>E.nx σ G
def Go (k:DSt->Gp->Prop) (σ:DSt) (G:Gp):Prop:=k σ G
def dSeq (t u:TS3):TS3:=fun E σ G=>t { E with nx:=Go (u E) } σ G
def vi2 (te:TE3):TS3:=fun E σ G=>te σ G fun _ G1=>E.nx σ G1
def dRet (te:TE3):TS3:=fun E σ G=>te σ G E.rt
def wk7:TS3:=fun E _ G=>E.rt .non G
def dIfS (c:TT3) (t u:TS3):TS3:=fun E σ G=>c σ G fun b G1=>if b=true then t E σ G1 else u E σ G1
abbrev TG3:=D->DSt->Gp->(DSt->Gp->Prop)->Prop
abbrev TGs3:=List D->DSt->Gp->(DSt->Gp->Prop)->Prop
def lowG (K:W.Frag) (t:TG3):TG:=fun v σ H Q=>∃ d σd G q,RelD K H d v /\ RelSt K H σd σ /\ Con K G H /\ t d σd G q /\ FutS K H q Q
def vf9 (K:W.Frag) (t:TGs3):TGs:=fun vs σ H Q=>∃ ds σd G q,RelDs K H ds vs /\ RelSt K H σd σ /\ Con K G H /\ t ds σd G q /\ FutS K H q Q
def ub3 (i:Nat):TG3:=fun d σ G q=>q (σ.set i (some d)) G
def jNil:TGs3:=fun ds σ G q=>ds=[] /\ q σ G
def vy0 (t:TG3) (u:TGs3):TGs3:=fun ds σ G q=>match ds with | d::r=>t d σ G fun σ' G'=>u r σ' G' q | []=>False
abbrev TSet3:=D->D->D->Gp->(Gp->Prop)->Prop
def v40 (K:W.Frag) (t:TSet3):TSet:=fun o i v H Q=>∃ d e x G q,RelD K H d o /\ RelD K H e i /\ RelD K H x v /\ Con K G H /\ t d e x G q /\ ∀ G' H',Con K G' H'->Le H H'->q G'->Q H'
def jSub (to ti:TE3) (t:TSet3):TG3:=fun d σ G q=>to σ G fun o G1=>ti σ G1 fun i G2=>t o i d G2 fun G3=>q σ G3
def dAsg (te:TE3) (g:TG3):TS3:=fun E σ G=>te σ G fun x G1=>g x σ G1 E.nx
section
variable {K:W.Frag} {σ:St} {H:Hp} {E:Ends}
theorem vf2 (h:lowS K vz9 E σ H):w45 E σ H:=by
 obtain ⟨σd,G,d,rs,c,t,f⟩:=h;exact f.nx _ _ _ _ rs c (Le.refl H) t
theorem uo4 {t u:TS3} (h:lowS K (dSeq t u) E σ H):tSeq (lowS K t) (lowS K u) E σ H:=by
 obtain ⟨σd,G,d,rs,c,t,f⟩:=h;exact ⟨σd,G,_,rs,c,t,fun σd' G' σ' H' rs' c' l' t'=>⟨σd',G',d,rs',c',t',f.le l'⟩,f.rt,f.bk,f.ct⟩
theorem us2 {te:TE3} (h:lowS K (vi2 te) E σ H):vq5 (lowE K te) E σ H:=by
 obtain ⟨σd,G,d,rs,c,t,f⟩:=h;exact ⟨σd,G,_,rs,c,t,fun x G1 v H1 r1 c1 l1 t1=>f.nx _ _ _ _ (rs.le l1) c1 l1 t1⟩
theorem vw7 {te:TE3} (h:lowS K (dRet te) E σ H):tRet (lowE K te) E σ H:=by
 obtain ⟨σd,G,d,rs,c,t,f⟩:=h;exact ⟨σd,G,_,rs,c,t,f.rt⟩
theorem vx1 {tc:TT3} {t u:TS3} (h:lowS K (dIfS tc t u) E σ H):tIfS (lowT K tc) (lowS K t) (lowS K u) E σ H:=by
 obtain ⟨σd,G,d,rs,c,t,f⟩:=h;refine ⟨σd,G,_,rs,c,t,fun b G1 H1 c1 l1 t1=>?_⟩;cases b with
 | true=>rw [if_pos rfl] at t1 ⊢;exact ⟨σd,G1,d,rs.le l1,c1,t1,f.le l1⟩
 | false=>rw [if_neg Bool.false_ne_true] at t1 ⊢;exact ⟨σd,G1,d,rs.le l1,c1,t1,f.le l1⟩
theorem v37 {i:Nat} {v:V} {Q:St->Hp->Prop} (h:lowG K (ub3 i) v σ H Q):ux0 i v σ H Q:=by
 obtain ⟨d,σd,G,q,r,rs,c,t,f⟩:=h;exact f _ _ _ _ (rs.set i r) c (Le.refl H) t
theorem vf5 {vs:List V} {Q:St->Hp->Prop} (h:vf9 K jNil vs σ H Q):gNil vs σ H Q:=by
 obtain ⟨ds,σd,G,q,r,rs,c,⟨e,t⟩,f⟩:=h;subst e;exact ⟨r.inv_nil,f _ _ _ _ rs c (Le.refl H) t⟩
theorem v38 {t:TG3} {u:TGs3} {vs:List V} {Q:St->Hp->Prop} (h:vf9 K (vy0 t u) vs σ H Q):wf2 (lowG K t) (vf9 K u) vs σ H Q:=by
 obtain ⟨ds,σd,G,q,r,rs,c,t,f⟩:=h;cases ds with
 | nil=>exact t.elim
 | cons d ds =>
  obtain ⟨x,xs,rfl,r1,r2⟩:=r.inv_cons;exact ⟨x,xs,rfl,d,σd,G,_,r1,rs,c,t,fun σd' G' σ' H' rs' c' l' t'=>⟨ds,σd',G',q,RelDs.le l' r2,rs',c',t',f.le l'⟩⟩
theorem vf4 {to ti:TE3} {t:TSet3} {v:V} {Q:St->Hp->Prop} (h:lowG K (jSub to ti t) v σ H Q):gSub (lowE K to) (lowE K ti) (v40 K t) v σ H Q:=by
 obtain ⟨d,σd,G,q,r,rs,c,t,f⟩:=h;exact ⟨σd,G,_,rs,c,t,fun o G1 vo H1 r1 c1 l1 t1=>⟨σd,G1,_,rs.le l1,c1,t1,fun i G2 vi H2 r2 c2 l2 t2=>⟨o,i,d,G2,_,RelD.le l2 r1,r2,RelD.le (l1.trans l2) r,c2,t2,fun G3 H3 c3 l3 t3 =>
  f _ _ _ _ (rs.le (l1.trans (l2.trans l3))) c3 (l1.trans (l2.trans l3)) t3⟩⟩⟩
theorem vx4 {te:TE3} {g:TG3} (h:lowS K (dAsg te g) E σ H):tAsg (lowE K te) (lowG K g) E σ H:=by
 obtain ⟨σd,G,d,rs,c,t,f⟩:=h;exact ⟨σd,G,_,rs,c,t,fun x G1 v H1 r1 c1 l1 t1=>⟨x,σd,G1,_,r1,rs.le l1,c1,t1,f.nx.le l1⟩⟩
end
structure IT where
 items:List D
 ok:Gp->Prop
structure ItRel (K:W.Frag) (H0:Hp) (it:IT) (J:It):Prop where
 go:∀ (i:Nat) G H,Le H0 H->Con K G H->it.ok G->i < it.items.length->J.go i H
 stop:∀ (i:Nat) G H,Le H0 H->Con K G H->it.ok G->it.items.length<=i->J.stop i H
 yld:∀ (i:Nat) G H x H',Le H0 H->Con K G H->it.ok G->i < it.items.length->J.yld i H x H'->Con K G H' /\ Le H H' /\ ∃ d,it.items[i]?=some d /\ RelD K H' d x
abbrev TI3:=DSt->Gp->(IT->Gp->Prop)->Prop
def lowI (K:W.Frag) (t:TI3):TI:=fun σ H R=>∃ σd G r,RelSt K H σd σ /\ Con K G H /\ t σd G r /\ ∀ it J G' H',ItRel K H' it J->Con K G' H'->Le H H'->r it G'->R J H'
def forL (ok:Gp->Prop) (g:TG3) (tb:TS3) (E:Ends3):List D->DSt->Gp->Prop
 | [],σ,G=>ok G /\ E.nx σ G
 | x::r,σ,G=>ok G /\ g x σ G fun σ1 G1=>tb { E with nx:=forL ok g tb E r,ct:=forL ok g tb E r,bk:=E.nx } σ1 G1
def dFor (wi:TI3) (g:TG3) (tb:TS3):TS3:=fun E σ G=>wi σ G fun it G1=>forL it.ok g tb E it.items σ G1
theorem vx2 {K:W.Frag} {wi:TI3} {g:TG3} {tb:TS3} {σ:St} {H:Hp} {E:Ends} (h:lowS K (dFor wi g tb) E σ H):tFor (lowI K wi) (lowG K g) (lowS K tb) E σ H:=by
 obtain ⟨σd,G,d,rs,cc,t,f⟩:=h;refine ⟨σd,G,_,rs,cc,t,fun it J G1 H1 ir c1 l1 t1=>?_⟩;refine ⟨fun i m σ' H'=>∃ σd' G',Le H1 H' /\ RelSt K H' σd' σ' /\ Con K G' H' /\ i+m=it.items.length /\ forL it.ok g tb d (it.items.drop i) σd' G',⟨it.items.length,σd,G1,Le.refl _,rs.le l1,c1,by omega,by rw [List.drop_zero];exact t1⟩,?_⟩;rintro i m σ2 H2 ⟨σd2,G2,l2,rs2,c2,e2,t2⟩
 by_cases hi:i < it.items.length
 ·rw [List.drop_eq_getElem_cons hi] at t2
  obtain ⟨ok2,t2⟩:=t2;refine .inr ⟨ir.go i G2 H2 l2 c2 ok2 hi,fun σ' H'=>∃ σd' G',Le H1 H' /\ RelSt K H' σd' σ' /\ Con K G' H' /\ forL it.ok g tb d (it.items.drop (i+1)) σd' G',?_,?_⟩
  ·rintro σ' H' ⟨σd',G',a1,a2,a3,a4⟩
   exact ⟨m - 1,by omega,σd',G',a1,a2,a3,by omega,a4⟩
  ·intro x H3 y
   obtain ⟨c3,l3,e,he,r3⟩:=ir.yld i G2 H2 x H3 l2 c2 ok2 hi y;rw [List.getElem?_eq_getElem hi] at he;cases he;refine ⟨_,σd2,G2,_,r3,rs2.le l3,c3,t2,fun σd4 G4 σ4 H4 rs4 c4 l4 t4=>?_⟩;have l14:Le H1 H4:=l2.trans (l3.trans l4);have key:FutS K H4 (forL it.ok g tb d (it.items.drop (i+1))) (fun σ' H'=>∃ σd' G',Le H1 H' /\ RelSt K H' σd' σ' /\ Con K G' H' /\ forL it.ok g tb d (it.items.drop (i+1)) σd' G') :=
    fun σd5 G5 σ5 H5 rs5 c5 l5 t5=>⟨σd5,G5,l14.trans l5,rs5,c5,t5⟩
   exact ⟨σd4,G4,_,rs4,c4,t4,key,f.rt.le (l1.trans l14),f.nx.le (l1.trans l14),key⟩
 ·rw [List.drop_eq_nil_of_le (by omega)] at t2
  exact .inl ⟨ir.stop i G2 H2 l2 c2 t2.1 (by omega),f.nx _ _ _ _ rs2 c2 (l1.trans l2) t2.2⟩
theorem RelDs.at_ {K:W.Frag} {H:Hp} {ds:List D} {xs:List V} {i:Nat} {x:V} (h:RelDs K H ds xs) (e:xs[i]?=some x):∃ d,ds[i]?=some d /\ RelD K H d x:=by
 have hl:i < ds.length:=by rw [h.length];exact (List.getElem?_eq_some_iff.mp e).1
 obtain ⟨y,hy,r⟩:=h.get (List.getElem?_eq_getElem hl);rw [e] at hy;cases hy;exact ⟨_,List.getElem?_eq_getElem hl,r⟩
theorem v50 {K:W.Frag} {H0:Hp} {a:Addr} {ds:List D} {xs:List V} (s:SqT K H0 a xs) (r:RelDs K H0 ds xs):ItRel K H0 ⟨ds,fun _=>True⟩ (Itt K a) where
 go:=fun i G H l c _ hi=>⟨xs,xs[i]'(by rw [<- r.length];exact hi),l.sqT s,List.getElem?_eq_getElem _⟩
 stop:=fun i G H l c _ hi=>⟨xs,l.sqT s,by rw [<- r.length];exact hi⟩
 yld:=fun i G H x H' l c _ hi y=>by
  obtain ⟨e,y⟩:=y;subst e;have hx:=y xs (l.sqT s);obtain ⟨d,hd,rd⟩:=(RelDs.le l r).at_ hx
  exact ⟨c,Le.refl _,d,hd,rd⟩
def u16:Option DO->Option (List D)
 | some (.lst xs)=>some xs
 | some (.fro xs)=>some xs
 | _=>none
theorem u19 {K:W.Frag} {G:Gp} {H:Hp} {a:Addr} {ds:List D} (c:Con K G H) (h:u16 (G a)=some ds):∃ xs,SqL K H a xs /\ RelDs K H ds xs:=by
 cases e:G a with
 | none=>rw [e] at h;cases h
 | some o =>
  rw [e] at h;have q:=c a o e;cases o with
  | lst xs=>cases h;obtain ⟨ys,q,r⟩:=q;exact ⟨ys,.inl (.inl q),r⟩
  | fro xs=>cases h;obtain ⟨o,ys,q,r⟩:=q;exact ⟨ys,.inl (.inr ⟨o,q⟩),r⟩
  | dic _=>cases h
  | dit _=>cases h
  | ins _ _=>cases h
  | exc _ _=>cases h
  | frd _=>cases h
theorem uw6 {K:W.Frag} {H0:Hp} {a:Addr} {ds:List D}:ItRel K H0 ⟨ds,fun G=>u16 (G a)=some ds⟩ (Itl K a) where
 go:=fun i G H l c ok hi=>by
  obtain ⟨xs,s,r⟩:=u19 c ok;exact ⟨xs,xs[i]'(by rw [<- r.length];exact hi),s,List.getElem?_eq_getElem _⟩
 stop:=fun i G H l c ok hi=>by
  obtain ⟨xs,s,r⟩:=u19 c ok;exact ⟨xs,s,by rw [<- r.length];exact hi⟩
 yld:=fun i G H x H' l c ok hi y=>by
  obtain ⟨e,y⟩:=y;subst e;obtain ⟨xs,s,r⟩:=u19 c ok;obtain ⟨d,hd,rd⟩:=r.at_ (y xs s)
  exact ⟨c,Le.refl _,d,hd,rd⟩
def rngD (lo:Int) (n:Nat):List D:=(List.range n).map fun (i:Nat)=>.int (lo+i)
theorem ud3 {K:W.Frag} {H0:Hp} {lo:Int} {n:Nat}:ItRel K H0 ⟨rngD lo n,fun _=>True⟩ (Itr lo n) where
 go:=fun i G H l c _ hi=>by
  have:i < n:=by simpa [rngD] using hi
  exact this
 stop:=fun i G H l c _ hi=>by
  have:n<=i:=by simpa [rngD] using hi
  exact this
 yld:=fun i G H x H' l c _ hi y=>by
  obtain ⟨e,y⟩:=y;subst e;subst y;refine ⟨c,Le.refl _,.int (lo+i),?_,by rw [RelD]⟩;have:i < n:=by simpa [rngD] using hi
  simp [rngD,this]
abbrev Sp3:=List D->Gp->DK->Prop
def ue8 (K:W.Frag) (S:Sp3):Sp:=fun vs H Q _=>∃ ds G R,RelDs K H ds vs /\ Con K G H /\ S ds G R /\ FutE K H R Q
def dCall (S:Sp3) (dds:List D) (t:TA3):TE3:=fun σ G q=>t σ G fun ds G1=>∃ R,S (ds++dds) G1 R /\ ∀ d G',R d G'->q d G'
def vi1 (C:Addr) (m:Str) (S:Sp3) (dds:List D) (ta:TE3) (t:TA3):TE3:=fun σ G q=>ta σ G fun x G1=>match x with
 | .ref a=>(match G1 a with
  | some (.ins C' fs)=>C'=C /\ fs.lookup m=none /\ t σ G1 fun ds G2=>∃ R,S (.ref a::(ds++dds)) G2 R /\ ∀ d G',R d G'->q d G'
  | _=>False)
 | _=>False
def wk8 (C:Addr) (S:Sp3) (dds:List D) (t:TA3):TE3:=fun σ G q=>t σ G fun ds G1=>∀ x,G1 x=none ->
 ∃ R,S (.ref x::(ds++dds)) (gup G1 x (.ins C [])) R /\ ∀ d G',R d G'->d=.non /\ q (.ref x) G'
def putD (f:Str) (v:D):List (Str × D)->List (Str × D)
 | []=>[(f,v)]
 | (g,u)::r=>if g=f then (g,v)::r else (g,u)::putD f v r
def dFld (C:Addr) (ta:TE3) (f:Str):TE3:=fun σ G q=>ta σ G fun x G1=>match x with
 | .ref a=>(match G1 a with
  | some (.ins C' fs)=>C'=C /\ (match fs.lookup f with | some d=>q d G1 | none=>False)
  | _=>False)
 | _=>False
def wk6 (C:Addr) (ta tv:TE3) (f:Str):TS3:=fun E σ G=>tv σ G fun y G1=>ta σ G1 fun x G2=>match x with
 | .ref a=>(match G2 a with
  | some (.ins C' fs)=>C'=C /\ fs.length < 1000 /\ E.nx σ (gup G2 a (.ins C (putD f y fs)))
  | _=>False)
 | _=>False
def wk9 (C:Addr) (ta tv:TE3) (r:R3) (f:Str):TS3:=fun E σ G=>ta σ G fun x G1=>match x with
 | .ref a=>(match G1 a with
  | some (.ins C' fs)=>C'=C /\ (match fs.lookup f with
   | some d=>tv σ G1 fun y G2=>r d y G2 fun z G3=>(match G3 a with
    | some (.ins C'' fs')=>C''=C /\ fs'.length < 1000 /\ E.nx σ (gup G3 a (.ins C (putD f z fs')))
    | _=>False)
   | none=>False)
  | _=>False)
 | _=>False
section
variable {K:W.Frag} {σ:St} {H:Hp} {Q:VK} {E:Ends}
theorem vf6 {S:Sp3} {dds:List D} {dvs:List V} {t:TA3} {XE:XK} (hd:∀ H,RelDs K H dds dvs) (h:lowE K (dCall S dds t) σ H Q):vq7 (ue8 K S) dvs XE (lowA K t) σ H Q:=by
 obtain ⟨σd,G,q,rs,c,t,f⟩:=h;exact ⟨σd,G,_,rs,c,t,fun ds G1 vs H1 r1 c1 l1 ⟨R,s1,t1⟩=>⟨_,G1,R,r1.append (hd H1),c1,s1,fun d G2 v H2 r2 c2 l2 t2=>f d G2 v H2 r2 c2 (l1.trans l2) (t1 d G2 t2)⟩⟩
theorem RelD.refI {a:Addr}:RelD K H (.ref a) (.ref a):=by rw [RelD]
theorem RelD.ref_inv {a:Addr} {v:V} (h:RelD K H (.ref a) v):v=.ref a:=by rw [RelD] at h;exact h
theorem RelPs.lookup_none {κ:Type} [BEq κ] {k:κ}:∀ {ps:List (κ × D)} {qs:List (κ × V)},RelPs K H ps qs->ps.lookup k=none->qs.lookup k=none
 | [],qs,h,_=>by
  cases qs with
  | nil=>rfl
  | cons _ _=>have:=h.1;simp at this
 | (g,d)::ps,qs,h,e=>by
  cases qs with
  | nil=>have:=h.1;simp at this
  | cons q qs =>
   obtain ⟨g',v⟩:=q;have h1:=h.1;simp only [List.map_cons,List.cons.injEq] at h1;obtain ⟨rfl,h1⟩:=h1;obtain ⟨x,r,e2,_,h2⟩:=(show RelDs K H (d::ps.map (·.2)) (v::qs.map (·.2)) from h.2).inv_cons;cases e2;rw [List.lookup_cons] at e ⊢;cases hk:k == g with
   | true=>rw [hk] at e;cases e
   | false=>rw [hk] at e;exact RelPs.lookup_none ⟨h1,h2⟩ e
theorem RelPs.lookup {κ:Type} [BEq κ] {k:κ} {d:D}:∀ {ps:List (κ × D)} {qs:List (κ × V)},RelPs K H ps qs->ps.lookup k=some d->∃ v,qs.lookup k=some v /\ RelD K H d v
 | [],qs,h,e=>by cases e
 | (g,d')::ps,qs,h,e=>by
  cases qs with
  | nil=>have:=h.1;simp at this
  | cons q qs =>
   obtain ⟨g',v⟩:=q;have h1:=h.1;simp only [List.map_cons,List.cons.injEq] at h1;obtain ⟨rfl,h1⟩:=h1;obtain ⟨x,r,e2,r1,h2⟩:=(show RelDs K H (d'::ps.map (·.2)) (v::qs.map (·.2)) from h.2).inv_cons;cases e2;rw [List.lookup_cons] at e ⊢;cases hk:k == g with
   | true=>rw [hk] at e;cases e;exact ⟨v,rfl,r1⟩
   | false=>rw [hk] at e;exact RelPs.lookup ⟨h1,h2⟩ e
theorem RelPs.nil {κ:Type}:RelPs (κ:=κ) K H [] []:=⟨rfl,.nil⟩
theorem RelPs.cons {κ:Type} {k:κ} {d:D} {v:V} {ps:List (κ × D)} {qs:List (κ × V)} (r:RelD K H d v) (h:RelPs K H ps qs):RelPs K H ((k,d)::ps) ((k,v)::qs) :=
 ⟨by simp [h.1],.cons r h.2⟩
theorem RelPs.inv_cons {κ:Type} {k:κ} {d:D} {ps:List (κ × D)} {qs:List (κ × V)} (h:RelPs K H ((k,d)::ps) qs):∃ v r,qs=(k,v)::r /\ RelD K H d v /\ RelPs K H ps r:=by
 cases qs with
 | nil=>have:=h.1;simp at this
 | cons q qs =>
  obtain ⟨g',v⟩:=q;have h1:=h.1;simp only [List.map_cons,List.cons.injEq] at h1;obtain ⟨rfl,h1⟩:=h1;obtain ⟨x,r,e2,r1,h2⟩:=(show RelDs K H (d::ps.map (·.2)) (v::qs.map (·.2)) from h.2).inv_cons;cases e2;exact ⟨v,qs,rfl,r1,h1,h2⟩
theorem RelPs.inv_nil {κ:Type} {qs:List (κ × V)} (h:RelPs K H [] qs):qs=[]:=by
 cases qs with
 | nil=>rfl
 | cons _ _=>have:=h.1;simp at this
theorem RelPs.length {κ:Type} {ps:List (κ × D)} {qs:List (κ × V)} (h:RelPs K H ps qs):ps.length=qs.length:=by
 have:=h.2.length;simpa using this
theorem vf3 {C:Addr} {m:Str} {S:Sp3} {dds:List D} {dvs:List V} {ta:TE3} {t:TA3} {XE:XK} (hd:∀ H,RelDs K H dds dvs) (h:lowE K (vi1 C m S dds ta t) σ H Q):w46 C m (ue8 K S) dvs XE (lowE K ta) (lowA K t) σ H Q:=by
 obtain ⟨σd,G,q,rs,c,t,f⟩:=h;refine ⟨σd,G,_,rs,c,t,fun x G1 v H1 r1 c1 l1 t1=>?_⟩;split at t1
 ·rename_i a
  split at t1
  ·rename_i C' fs e
   obtain ⟨rfl,n,t1⟩:=t1;obtain ⟨dx,ys,e2,rf⟩:=c1 _ _ e;refine ⟨a,dx,ys,r1.ref_inv,e2,rf.lookup_none n,σd,G1,_,rs.le l1,c1,t1,fun ds G2 vs H2 r2 c2 l2 ⟨R,s2,t2⟩=>?_⟩;exact ⟨_,G2,R,.cons (RelD.le l2 r1) (r2.append (hd H2)),c2,s2,fun d G3 v H3 r3 c3 l3 t3=>f d G3 v H3 r3 c3 (l1.trans (l2.trans l3)) (t2 d G3 t3)⟩
  ·exact t1.elim
 ·exact t1.elim
theorem wk0 {te:TE3} {Q:Bool->Hp->Prop} (h:lowT K (dB te) σ H Q):tB (lowE K te) σ H Q:=by
 obtain ⟨σd,G,q,rs,c,t,f⟩:=h;refine ⟨σd,G,_,rs,c,t,fun x G1 v H1 r1 c1 l1 t1=>?_⟩;split at t1
 ·rename_i k
  exact ⟨k,r1.bl_inv,f _ _ _ c1 l1 t1⟩
 ·exact t1.elim
theorem vf7 {ta tb:TE3} (h:lowE K (w00 ta tb) σ H Q):w47 (lowE K ta) (lowE K tb) σ H Q:=by
 obtain ⟨σd,G,q,rs,c,t,f⟩:=h;refine ⟨σd,G,_,rs,c,t,fun x G1 v H1 r1 c1 l1 t1=>?_⟩;split at t1
 ·rename_i k
  refine ⟨k,r1.bl_inv,?_⟩;cases k with
  | true=>rw [if_pos rfl] at t1 ⊢;exact ⟨σd,G1,q,rs.le l1,c1,t1,f.le l1⟩
  | false=>rw [if_neg Bool.false_ne_true] at t1 ⊢;exact f _ _ _ _ (by rw [RelD]) c1 l1 t1
 ·exact t1.elim
theorem vw8 {ta tb:TE3} (h:lowE K (dOrV ta tb) σ H Q):tOrV (lowE K ta) (lowE K tb) σ H Q:=by
 obtain ⟨σd,G,q,rs,c,t,f⟩:=h;refine ⟨σd,G,_,rs,c,t,fun x G1 v H1 r1 c1 l1 t1=>?_⟩;split at t1
 ·rename_i k
  refine ⟨k,r1.bl_inv,?_⟩;cases k with
  | false=>rw [if_neg Bool.false_ne_true] at t1 ⊢;exact ⟨σd,G1,q,rs.le l1,c1,t1,f.le l1⟩
  | true=>rw [if_pos rfl] at t1 ⊢;exact f _ _ _ _ (by rw [RelD]) c1 l1 t1
 ·exact t1.elim
theorem vf0 {ta:TE3} (h:lowE K (vz8 ta) σ H Q):w44 (lowE K ta) σ H Q:=by
 obtain ⟨σd,G,q,rs,c,t,f⟩:=h;refine ⟨σd,G,_,rs,c,t,fun x G1 v H1 r1 c1 l1 t1=>?_⟩;split at t1
 ·rename_i k
  exact ⟨k,r1.bl_inv,f _ _ _ _ (by rw [RelD]) c1 l1 t1⟩
 ·exact t1.elim
def dAug (i:Nat) (te:TE3) (r:R3):TS3:=fun E σ G=>match σ[i]? with
 | some (some x)=>te σ G fun y G1=>r x y G1 fun z G2=>E.nx (σ.set i (some z)) G2
 | _=>False
abbrev TO3:=DSt->Gp->(Option Int->Gp->Prop)->Prop
def lowO (K:W.Frag) (t:TO3):TO:=fun σ H Q=>∃ σd G q,RelSt K H σd σ /\ Con K G H /\ t σd G q /\ ∀ o G' H',Con K G' H'->Le H H'->q o G'->Q o H'
def ui5:TO3:=fun _ G q=>q none G
def ux1 (t:TE3):TO3:=fun σ G q=>t σ G fun x G1=>match x with | .int i=>q (some i) G1 | _=>False
theorem uw3 {Q:Option Int->Hp->Prop} (h:lowO K ui5 σ H Q):uy9 σ H Q:=by
 obtain ⟨σd,G,q,rs,c,t,f⟩:=h;exact f _ _ _ c (Le.refl H) t
theorem ve9 {t:TE3} {Q:Option Int->Hp->Prop} (h:lowO K (ux1 t) σ H Q):w43 (lowE K t) σ H Q:=by
 obtain ⟨σd,G,q,rs,c,t,f⟩:=h;refine ⟨σd,G,_,rs,c,t,fun x G1 v H1 r1 c1 l1 t1=>?_⟩;split at t1
 ·rename_i k
  rw [RelD] at r1;exact ⟨k,r1,f _ _ _ c1 l1 t1⟩
 ·exact t1.elim
abbrev RS3:=D->Option Int->Option Int->Gp->DK->Prop
def v41 (K:W.Frag) (r:RS3):V->Option Int->Option Int->Hp->VK->Prop:=fun x l u H Q=>∃ d G q,RelD K H d x /\ Con K G H /\ r d l u G q /\ FutE K H q Q
def dSl (r:RS3) (te:TE3) (tl th:TO3):TE3:=fun σ G q=>te σ G fun x G1=>tl σ G1 fun l G2=>th σ G2 fun u G3=>r x l u G3 q
theorem wc7 {r:RS3} {te:TE3} {tl th:TO3} (h:lowE K (dSl r te tl th) σ H Q):tSl (v41 K r) (lowE K te) (lowO K tl) (lowO K th) σ H Q:=by
 obtain ⟨σd,G,q,rs,c,t,f⟩:=h;exact ⟨σd,G,_,rs,c,t,fun x G1 v H1 r1 c1 l1 t1=>⟨σd,G1,_,rs.le l1,c1,t1,fun o G2 H2 c2 l2 t2=>⟨σd,G2,_,rs.le (l1.trans l2),c2,t2,fun u G3 H3 c3 l3 t3 =>
  ⟨x,G3,q,RelD.le (l2.trans l3) r1,c3,t3,f.le (l1.trans (l2.trans l3))⟩⟩⟩⟩
def dCB (r:C3) (t:TA3):TE3:=fun σ G q=>t σ G fun ds G1=>r ds G1 q
theorem vm8 {r:C3} {t:TA3} (h:lowE K (dCB r t) σ H Q):tCB (lowC K r) (lowA K t) σ H Q:=by
 obtain ⟨σd,G,q,rs,c,t,f⟩:=h;exact ⟨σd,G,_,rs,c,t,fun ds G1 vs H1 r1 c1 l1 t1=>⟨ds,G1,q,r1,c1,t1,f.le l1⟩⟩
abbrev M3:=D->List D->Gp->DK->Prop
def lowM (K:W.Frag) (r:M3):V->List V->Hp->VK->Prop:=fun x xs H Q=>∃ d ds G q,RelD K H d x /\ RelDs K H ds xs /\ Con K G H /\ r d ds G q /\ FutE K H q Q
def tyD (G:Gp) (T:String):D->Prop
 | .str _=>T = "str"
 | .int _=>T = "int"
 | .ref a=>match G a with
  | some (.lst _)=>T = "list"
  | some (.fro _)=>T = "list"
  | some (.dic _)=>T = "dict"
  | _=>False
 | _=>False
def dBM (T:String) (r:M3) (to:TE3) (t:TA3):TE3:=fun σ G q=>to σ G fun x G1=>tyD G1 T x /\ t σ G1 fun ds G2=>r x ds G2 q
def dBM0 (T:String) (r:M3) (to:TE3):TE3:=fun σ G q=>to σ G fun x G1=>tyD G1 T x /\ r x [] G1 q
theorem ul2 {T:String} {r:M3} {to:TE3} {t:TA3} (ty:∀ G H x v,Con K G H->RelD K H x v->tyD G T x->tyV K T v H) (h:lowE K (dBM T r to t) σ H Q):tBM K T (lowM K r) (lowE K to) (lowA K t) σ H Q:=by
 obtain ⟨σd,G,q,rs,c,t,f⟩:=h;exact ⟨σd,G,_,rs,c,t,fun x G1 v H1 r1 c1 l1 ⟨y,t1⟩=>⟨ty G1 H1 x v c1 r1 y,σd,G1,_,rs.le l1,c1,t1,fun ds G2 vs H2 r2 c2 l2 t2=>⟨x,ds,G2,q,RelD.le l2 r1,r2,c2,t2,f.le (l1.trans l2)⟩⟩⟩
theorem vx3 {T:String} {r:M3} {to:TE3} (ty:∀ G H x v,Con K G H->RelD K H x v->tyD G T x->tyV K T v H) (h:lowE K (dBM0 T r to) σ H Q):tBM0 K T (lowM K r) (lowE K to) σ H Q:=by
 obtain ⟨σd,G,q,rs,c,t,f⟩:=h;exact ⟨σd,G,_,rs,c,t,fun x G1 v H1 r1 c1 l1 ⟨y,t1⟩=>⟨ty G1 H1 x v c1 r1 y,x,[],G1,q,r1,.nil,c1,t1,f.le l1⟩⟩
end
end L3
namespace L3
open PySem PySem.Spec PyProof.Rows L2
section
variable {X:Cx}
theorem u34 {e:Expr} {t t':TE} (h:PE X e t) (w:∀ σ H Q,t' σ H Q->t σ H Q):PE X e t':=fun pins s σ H Q I q=>h pins s σ H Q I (w _ _ _ q)
theorem va6 {e:Expr} {t t':TT} (h:PT X e t) (w:∀ σ H Q,t' σ H Q->t σ H Q):PT X e t':=fun pins s σ H Q I q=>h pins s σ H Q I (w _ _ _ q)
theorem w30 {e:Expr} {t t':TT} (h:PW X e t) (w:∀ σ H Q,t' σ H Q->t σ H Q):PW X e t':=fun wh pins s σ H Q I q=>h wh pins s σ H Q I (w _ _ _ q)
theorem w34 {e:List Expr} {t t':TA} (h:PA X e t) (w:∀ σ H Q,t' σ H Q->t σ H Q):PA X e t':=fun pos pins s σ H Q I q=>h pos pins s σ H Q I (w _ _ _ q)
theorem uj6 {e:Stmt} {t t':TS} (h:PS X e t) (w:∀ D σ H,t' D σ H->t D σ H):PS X e t':=fun pins s σ H D I q=>h pins s σ H D I (w _ _ _ q)
theorem vj9 {e:List Stmt} {t t':TS} (h:PSs X e t) (w:∀ D σ H,t' D σ H->t D σ H):PSs X e t':=fun pins s σ H D I q=>h pins s σ H D I (w _ _ _ q)
theorem vp6 {e:Expr} {t t':TG} (h:PG X e t) (w:∀ v σ H Q,t' v σ H Q->t v σ H Q):PG X e t':=fun pins s σ H v u Q I r q=>h pins s σ H v u Q I r (w _ _ _ _ q)
theorem vk0 {e:List Expr} {t t':TGs} (h:PGs X e t) (w:∀ v σ H Q,t' v σ H Q->t v σ H Q):PGs X e t':=fun pins s σ H v u Q I r q=>h pins s σ H v u Q I r (w _ _ _ _ q)
theorem vp4 {t t':TSet} (h:PSet X t) (w:∀ o i v H Q,t' o i v H Q->t o i v H Q):PSet X t':=fun pins s σ H o i v ov iv u Q I r1 r2 r3 q=>h pins s σ H o i v ov iv u Q I r1 r2 r3 (w _ _ _ _ _ q)
theorem un2 {tg e:Expr} {t t':TI} (h:PI X tg e t) (w:∀ σ H R,t' σ H R->t σ H R):PI X tg e t':=fun pins s σ H R I q=>h pins s σ H R I (w _ _ _ q)
theorem u47 {f:Value->Value->Sem Value} {r r':R2} (h:OpR X f r) (w:∀ x y H Q,r' x y H Q->r x y H Q):OpR X f r':=fun pins s σ H x y v u Q I a b q=>h pins s σ H x y v u Q I a b (w _ _ _ _ q)
theorem w31 {f:Value->Sem Value} {r r':V->Hp->VK->Prop} (h:UnR X f r) (w:∀ x H Q,r' x H Q->r x H Q):UnR X f r':=fun pins s σ H x v Q I a q=>h pins s σ H x v Q I a (w _ _ _ q)
theorem u46 {f:Value} {r r':List V->Hp->VK->Prop} (h:CallR X f r) (w:∀ x H Q,r' x H Q->r x H Q):CallR X f r':=fun pins s σ H x v Q I a q=>h pins s σ H x v Q I a (w _ _ _ q)
theorem uf3 {id:String} {r r':V->List V->Hp->VK->Prop} (h:MtR X id r) (w:∀ x xs H Q,r' x xs H Q->r x xs H Q):MtR X id r':=fun pins s σ H x xs v us Q I a b q=>h pins s σ H x xs v us Q I a b (w _ _ _ _ q)
theorem w33 {r r':R2} (h:IxR X r) (w:∀ x y H Q,r' x y H Q->r x y H Q):IxR X r':=fun va sl pins s σ H x y v u Q I a b q=>h va sl pins s σ H x y v u Q I a b (w _ _ _ _ q)
theorem uy3 {r r':V->Option Int->Option Int->Hp->VK->Prop} (h:SlR X r) (w:∀ x l u H Q,r' x l u H Q->r x l u H Q):SlR X r':=by
 intro pins s σ H x lo hi
 intros
 apply h <;> first | assumption | (apply w;assumption)
theorem w32 {e:Option Expr} {t t':TO} (h:PO X e t) (w:∀ σ H Q,t' σ H Q->t σ H Q):PO X e t':=by
 intro pins s σ H Q I q;exact h pins s σ H Q I (w _ _ _ q)
theorem vp5 {e:List Expr} {t t':TT} (h:PIfs X e t) (w:∀ σ H Q,t' σ H Q->t σ H Q):PIfs X e t':=fun pins s σ H Q I q=>h pins s σ H Q I (w _ _ _ q)
end
def E3 (X:Cx) (e:Expr) (t:TE3):Prop:=PE X e (lowE X.K t)
def T3 (X:Cx) (e:Expr) (t:TT3):Prop:=PT X e (lowT X.K t)
def W3 (X:Cx) (e:Expr) (t:TT3):Prop:=PW X e (lowT X.K t)
def A3 (X:Cx) (es:List Expr) (t:TA3):Prop:=PA X es (lowA X.K t)
def S3 (X:Cx) (st:Stmt) (t:TS3):Prop:=PS X st (lowS X.K t)
def Ss3 (X:Cx) (sts:List Stmt) (t:TS3):Prop:=PSs X sts (lowS X.K t)
def J3 (X:Cx) (e:Expr) (t:TG3):Prop:=PG X e (lowG X.K t)
def Js3 (X:Cx) (es:List Expr) (t:TGs3):Prop:=PGs X es (vf9 X.K t)
def I3 (X:Cx) (tg e:Expr) (t:TI3):Prop:=PI X tg e (lowI X.K t)
def O3 (X:Cx) (e:Option Expr) (t:TO3):Prop:=PO X e (lowO X.K t)
def Ifs3 (X:Cx) (es:List Expr) (t:TT3):Prop:=PIfs X es (lowT X.K t)
abbrev Op3 (X:Cx) (f:Value->Value->Sem Value) (r:R3):Prop:=OpR X f (lowR X.K r)
abbrev Call3 (X:Cx) (f:Value) (r:C3):Prop:=CallR X f (lowC X.K r)
section
variable {X:Cx} {a b c e o:Expr} {es:List Expr} {pos apos cpos p p2:Pos} {ta tb tc te:TE3} {t u:TT3} {ts us:TA3}
theorem ev (i:Nat) {x:Str} {pos:Pos} (hN:X.N[i]?=some x:=by rfl) (hv:Vis X.env.scope x:=by first | exact Or.inl rfl | exact Or.inr (Or.inl rfl) | exact Or.inr (Or.inr rfl)) (hd:(x == ("__debug__" : Str))=false:=by decide)
  (hcd:(x == ("__classdict__" : Str))=false:=by decide):E3 X (.Name x pos) (dVar i):=u34 (vl7 hN hv hd hcd) fun _ _ _=>vw5
theorem u04 {i j pos}:E3 X (.Constant (.int i) j pos) (dC (.int i)):=u34 w80 fun _ _ _=>uo6 fun _=>by rw [RelD]
theorem e_bl {i j pos}:E3 X (.Constant (.bool i) j pos) (dC (.bl i)):=u34 wj5 fun _ _ _=>uo6 fun _=>by rw [RelD]
theorem u38 {j pos}:E3 X (.Constant .none j pos) (dC .non):=u34 w78 fun _ _ _=>uo6 fun _=>by rw [RelD]
theorem u08 {x j pos}:E3 X (.Constant (.str x) j pos) (dC (.str x)):=u34 w73 fun _ _ _=>uo6 fun _=>by rw [RelD]
theorem v74 {x:Str} {d:D} {v:V} {w:Value} (hg:Gl X x) (hm:X.mg x=some w) (r:RelV v w) (rd:∀ H,RelD X.K H d v) (hd:(x == ("__debug__" : Str))=false:=by decide):E3 X (.Name x pos) (dC d) :=
 u34 (vu9 hg hm r hd) fun _ _ _=>uo6 rd
theorem u11 {op:Operator} {r:R3} (ho:Op3 X (binaryOp op) r) (ha:E3 X a ta) (hb:E3 X b tb):E3 X (.BinOp a op b pos) (dOp r ta tb):=u34 (wj3 ho ha hb) fun _ _ _=>ug0
theorem e_un {op:UnaryOp} {r:U3} (ho:UnR X (unaryOp op) (lowU X.K r)) (ha:E3 X a ta):E3 X (.UnaryOp op a pos) (dUn r ta):=u34 (wj1 ho ha) fun _ _ _=>wc6
theorem ud7 {op:CmpOp} {r:R3} (ho:Op3 X (compareOp op) r) (ha:E3 X a ta) (hb:E3 X b tb) (hm:behindInMarks op b=false):E3 X (.Compare a [op] [b] pos) (dOp r ta tb):=u34 (vv1 ho ha hb hm) fun _ _ _=>ug0
theorem u13 {op:CmpOp} {r:R3} (ho:Op3 X (compareOp op) r) (ha:E3 X a ta) (hb:E3 X b tb) (hm:behindInMarks op b=false):T3 X (.Compare a [op] [b] pos) (dB (dOp r ta tb)) :=
 va6 (vt2 ho ha hb hm) fun σ H Q h=>by
  obtain ⟨σd,G,q,rs,c,t,f⟩:=h;exact ug0 (K:=X.K) ⟨σd,G,_,rs,c,t,fun x G1 v H1 r1 c1 l1 t1=>by
   split at t1
   ·rename_i k
    exact ⟨k,r1.bl_inv,f _ _ _ c1 l1 t1⟩
   ·exact t1.elim⟩
theorem un4 (h:E3 X e te) (he:∀ whole,isTrue e X.env whole=(do let v <- whole;standAt e.pos;holding [v] (truthy v)):=by intro _;rfl):T3 X e (dB te):=va6 (w61 h he) fun _ _ _=>wk0
theorem u90 (ha:T3 X a t):W3 X (.BoolOp .And [a] pos) t:=vt1 ha
theorem ug9 (ha:T3 X a t):W3 X (.BoolOp .Or [a] pos) t:=w59 ha
theorem w_and {rest:List Expr} (ha:T3 X a t) (hb:W3 X (.BoolOp .And (b::rest) pos) u):W3 X (.BoolOp .And (a::b::rest) pos) (dAnd t u):=w30 (w60 ha hb) fun _ _ _=>vf8
theorem w_or {rest:List Expr} (ha:T3 X a t) (hb:W3 X (.BoolOp .Or (b::rest) pos) u):W3 X (.BoolOp .Or (a::b::rest) pos) (dOr t u):=w30 (wi8 ha hb) fun _ _ _=>vw9
theorem t_w (h:W3 X e t):T3 X e t:=PW.pt h
theorem un5 (ha:T3 X a t):T3 X (.UnaryOp .Not a pos) (dNot t):=va6 (w62 ha) fun _ _ _=>vf1
theorem ui4 {op} (h:E3 X a ta):E3 X (.BoolOp op [a] pos) ta:=w76 h
theorem uf0 {rest:List Expr} (ha:E3 X a ta) (hb:E3 X (.BoolOp .And (b::rest) pos) tb):E3 X (.BoolOp .And (a::b::rest) pos) (w00 ta tb):=u34 (w82 ha hb) fun _ _ _=>vf7
theorem e_or {rest:List Expr} (ha:E3 X a ta) (hb:E3 X (.BoolOp .Or (b::rest) pos) tb):E3 X (.BoolOp .Or (a::b::rest) pos) (dOrV ta tb):=u34 (wj2 ha hb) fun _ _ _=>vw8
theorem wk5 (ha:E3 X a ta):E3 X (.UnaryOp .Not a pos) (vz8 ta):=u34 (w77 ha) fun _ _ _=>vf0
theorem e_if (hc:T3 X c t) (ha:E3 X a ta) (hb:E3 X b tb):E3 X (.IfExp c a b pos) (dIf t ta tb):=u34 (ve0 hc ha hb) fun _ _ _=>wc8
theorem u02:A3 X [] dNil:=w34 vl8 fun _ _ _=>vx0
theorem u00 (ha:E3 X e te) (hr:A3 X es ts) (hs:starEach (e::es) X.env=(false,eval e X.env)::starEach es X.env:=by rfl):A3 X (e::es) (ua8 te ts):=w34 (uo1 ha hr hs) fun _ _ _=>ui2
theorem u56 {x1} (h:A3 X es ts):E3 X (.Tuple es x1 pos) (dTup ts):=u34 (w72 h) fun _ _ _=>vw6
theorem u32 (h:A3 X es ts):E3 X (.List es pos) (dLst ts):=u34 (w79 h) fun _ _ _=>uo5
theorem e_ix {r:R3} (hr:IxR X (lowR X.K r)) (ha:E3 X a ta) (hb:E3 X b tb) (hs:v98 b:=by exact fun _ _=>rfl):E3 X (.Subscript a b pos) (dOp r ta tb):=u34 (wj4 hr ha hb hs) fun _ _ _=>ug0
theorem u41:O3 X none ui5:=w32 vt9 fun _ _ _=>uw3
theorem u35 (h:E3 X e te):O3 X (some e) (ux1 te):=w32 (vt8 h) fun _ _ _=>ve9
theorem e_sl {r:RS3} {lo hi:Option Expr} {tl th:TO3} (hr:SlR X (v41 X.K r)) (he:E3 X e te) (hl:O3 X lo tl) (hu:O3 X hi th):E3 X (.Subscript e (.Slice lo hi none p2) pos) (dSl r te tl th):=u34 (vd9 hr he hl hu) fun _ _ _=>wc7
end
section
variable {X:Cx} {a b c e o value:Expr} {es:List Expr} {st:Stmt} {sts sts2:List Stmt} {pos pos' spos tpos:Pos} {te ta tv:TE3} {t:TT3} {s1 s2:TS3} {g:TG3}
theorem u21:Ss3 X [] vz9:=vj9 vt3 fun _ _ _=>vf2
theorem u03 (h1:S3 X st s1) (h2:Ss3 X sts s2):Ss3 X (st::sts) (dSeq s1 s2):=vj9 (ur6 h1 h2) fun _ _ _=>uo4
theorem u06 (h1:S3 X st s1):Ss3 X [st] s1:=v07 h1
theorem uc9 (he:E3 X e te) (hs:swapsWith e none pos.line X.env=pure false:=by rfl):S3 X (.Expr e pos) (vi2 te):=uj6 (v09 he hs) fun _ _ _=>us2
theorem u17 (he:E3 X e te):S3 X (.Return (some e) pos) (dRet te):=uj6 (w64 he) fun _ _ _=>vw7
theorem s_if (hc:T3 X c t) (ha:Ss3 X sts s1) (hb:Ss3 X sts2 s2):S3 X (.If c sts sts2 pos) (dIfS t s1 s2):=uj6 (wi9 hc ha hb) fun _ _ _=>vx1
theorem u27 (i:Nat) {x:Str} (hN:X.N.Nodup) (hi:X.N[i]?=some x:=by rfl) (hx:Loc X.env.scope x:=by first | exact Or.inl rfl | exact Or.inr rfl) (hf:X.fn x=true \/ X.env.scope.names.lookup x=some .local:=by first | exact .inl rfl | exact .inr rfl | assumption):J3 X (.Name x pos) (ub3 i) :=
 vp6 (vu1 hN hi hx hf) fun _ _ _ _=>v37
theorem ul3:Js3 X [] jNil:=vk0 vu0 fun _ _ _ _=>vf5
theorem u55 {t:TG3} {u:TGs3} (h1:J3 X e t) (h2:Js3 X es u) (hs:(assignEach (e::es) X.env).map (·.2)=assign e X.env::(assignEach es X.env).map (·.2):=by rfl):Js3 X (e::es) (vy0 t u):=vk0 (vd7 h1 h2 hs) fun _ _ _ _=>v38
theorem uw4 {i:Expr} {to ti:TE3} {t:TSet3} (ho:E3 X o to) (hi:E3 X i ti) (hs:PSet X (v40 X.K t))
  (ha:∀ v,assign (.Subscript o i pos) X.env v=(do
   let ov <- holding [v] (eval o X.env)
   let iv <- holding [v,ov] (eval i X.env)
   standAt pos
   holding [v,ov,iv] (setItem ov iv v)
   release [v,ov,iv] []):=by intro _;rfl):J3 X (.Subscript o i pos) (jSub to ti t):=vp6 (w71 ho hi hs ha) fun _ _ _ _=>vf4
theorem un9 {tg:Expr} (he:E3 X e te) (hg:J3 X tg g) (hs:swapsWithSole [tg] e pos.line X.env=pure false:=by rfl) (hw:swappedStores [tg] e X.env=pure none:=by rfl)
  (h1:(assignEach [tg] X.env).map (·.2)=[assign tg X.env]:=by rfl):S3 X (.Assign [tg] e pos) (dAsg te g):=uj6 (w66 he hg hs hw h1) fun _ _ _=>vx4
theorem u15 (i:Nat) {x:Str} (hN:X.N.Nodup) (he:E3 X e te) (hi:X.N[i]?=some x:=by rfl) (hx:Loc X.env.scope x:=by first | exact Or.inl rfl | exact Or.inr rfl) (hs:swapsWith e (some (.Name x pos')) pos.line X.env=pure false:=by rfl)
  (hf:X.fn x=true \/ X.env.scope.names.lookup x=some .local:=by first | exact .inl rfl | exact .inr rfl | assumption):S3 X (.Assign [.Name x pos'] e pos) (dAsg te (ub3 i)) :=
 uj6 (w63 hN hi hx he hs hf) fun D σ H h=>by
  obtain ⟨σd,G,q,rs,c,t,f⟩:=h;exact ⟨σd,G,_,rs,c,t,fun x G1 v H1 r1 c1 l1 t1=>f.nx _ _ _ _ ((rs.le l1).set i r1) c1 l1 t1⟩
theorem un8 {tg iter:Expr} {body:List Stmt} {wi:TI3} (hi:I3 X tg iter wi) (hg:J3 X tg g) (hb:Ss3 X body s1) (hc:X.calm=true:=by rfl) (hp:PassesOwn (model X.prog X.w) X.A X.env X.xe:=by exact PassesOwn.never)
  (hs:∀ x,foldedSetIterable iter X.env x=pure x:=by intro _;rfl):S3 X (.For tg iter body [] pos) (dFor wi g s1):=uj6 (w65 hp hc hi hg hb hs) fun _ _ _=>vx2
end
theorem v35 {K:W.Frag} {σ:L2.St} {H:Hp} {ta:TA3} {R:It->Hp->Prop} (h:lowI K (fun σ G r=>ta σ G fun ds G1=>match ds with | [.int j]=>(-(2 ^ 62)<=j /\ j < 2 ^ 62) /\ r ⟨rngD 0 j.toNat,fun _=>True⟩ G1 | _=>False) σ H R):we9 (lowA K ta) σ H R:=by
 obtain ⟨σd,G,q,rs,c,t,f⟩:=h;refine ⟨σd,G,_,rs,c,t,fun ds G1 vs H1 r1 c1 l1 t1=>?_⟩;split at t1
 ·rename_i j
  obtain ⟨x,r,rfl,rx,rr⟩:=r1.inv_cons;rw [RelD] at rx;subst rx;rw [rr.inv_nil];exact ⟨j,rfl,t1.1.1,t1.1.2,f _ _ _ _ ud3 c1 l1 t1.2⟩
 ·exact t1.elim
theorem v34 {K:W.Frag} {σ:L2.St} {H:Hp} {ta:TA3} {R:It->Hp->Prop} (h:lowI K (fun σ G r=>ta σ G fun ds G1=>match ds with | [.int i,.int j]=>(-(2 ^ 62)<=i /\ i < 2 ^ 62 /\ -(2 ^ 62)<=j /\ j < 2 ^ 62) /\ r ⟨rngD i (j - i).toNat,fun _=>True⟩ G1 | _=>False) σ H R):we8 (lowA K ta) σ H R:=by
 obtain ⟨σd,G,q,rs,c,t,f⟩:=h;refine ⟨σd,G,_,rs,c,t,fun ds G1 vs H1 r1 c1 l1 t1=>?_⟩;split at t1
 ·rename_i i j
  obtain ⟨x,r,rfl,rx,rr⟩:=r1.inv_cons;obtain ⟨y,r',rfl,ry,rr2⟩:=rr.inv_cons;rw [RelD] at rx ry;subst rx ry;rw [rr2.inv_nil];exact ⟨i,j,rfl,t1.1,f _ _ _ _ ud3 c1 l1 t1.2⟩
 ·exact t1.elim
def w38 (ta:TA3):TI3:=fun σ G r=>ta σ G fun ds G1=>match ds with | [.int j]=>(-(2 ^ 62)<=j /\ j < 2 ^ 62) /\ r ⟨rngD 0 j.toNat,fun _=>True⟩ G1 | _=>False
def w37 (ta:TA3):TI3:=fun σ G r=>ta σ G fun ds G1=>match ds with | [.int i,.int j]=>(-(2 ^ 62)<=i /\ i < 2 ^ 62 /\ -(2 ^ 62)<=j /\ j < 2 ^ 62) /\ r ⟨rngD i (j - i).toNat,fun _=>True⟩ G1 | _=>False
section
variable {X:Cx} {a b e o tg:Expr} {es:List Expr} {p pos apos cpos:Pos} {ta:TE3} {ts:TA3}
theorem ul4 (hg:Gl X "range") (hm:X.mg "range" = none) (ha:A3 X [a] ts) (hs:starEach [a] X.env=[(false,eval a X.env)]:=by rfl):I3 X tg (.Call (.Name "range" p) [a] [] pos) (w38 ts):=un2 (v14 hg hm ha hs) fun _ _ _=>v35
theorem we6 (hg:Gl X "range") (hm:X.mg "range" = none) (ha:A3 X [a,b] ts) (hs:starEach [a,b] X.env=[(false,eval a X.env),(false,eval b X.env)]:=by rfl) (hs2:starEach [b] X.env=[(false,eval b X.env)]:=by rfl) :
  I3 X tg (.Call (.Name "range" p) [a,b] [] pos) (w37 ts):=un2 (v13 hg hm ha hs hs2) fun _ _ _=>v34
variable {k:Nat} {f C:Addr} {fd:FuncData} {ps:List Str} {S:Sp3} {dds:List D} {dvs:List V} {ds:List Value} {x m:Str}
theorem wf9 (F:FnOk X.prog X.w X.K X.mg X.base CX0 k f fd ps (ue8 X.K S)) (hr:Room k X.A) (hg:Gl X x) (hm:X.mg x=some (.ref f)) (hk:W.keepIn X.K (.ref f)=true) (hb:Binds X.K fd ps ds) (hd:Vals dvs ds) (hdd:∀ H,RelDs X.K H dds dvs)
  (ha:A3 X (e::es) ts) (hdb:(x == ("__debug__" : Str))=false:=by decide) (he:starEach (e::es) X.env=(false,eval e X.env)::starEach es X.env:=by rfl) (hpl:(backTo pos (starEach es X.env)).any (·.1)=false:=by rfl) :
  E3 X (.Call (.Name x p) (e::es) [] pos) (dCall S dds ts):=u34 (v16 F hr hg hm hk hb hd pass0 ha hdb he hpl) fun _ _ _=>vf6 hdd
theorem wf6 {pl:Sem Bool} (he:E3 X o ta) (c:Cls X.K C) (hm:Meth X.K C m f) (F:FnOk X.prog X.w X.K X.mg X.base CX0 k f fd ps (ue8 X.K S)) (hr:Room k X.A) (hb:Binds X.K fd ps ds) (hd:Vals dvs ds) (hdd:∀ H,RelDs X.K H dds dvs) (ha:A3 X (e::es) ts)
  (hse:starEach (e::es) X.env=(false,eval e X.env)::starEach es X.env:=by rfl) (hpl:(backTo pos (starEach es X.env)).any (·.1)=false:=by rfl)
  (ht:eval (.Call (.Attribute o m apos) (e::es) [] pos) X.env=(do
   let ov <- eval o X.env
   standAt apos.atName
   let (f,first) <- holding [ov] (getMethod ov m pl)
   callWith pos f first (backTo pos (starEach (e::es) X.env)) (backToKw pos (keywordEach [] X.env))):=by rfl):E3 X (.Call (.Attribute o m apos) (e::es) [] pos) (vi1 C m S dds ta ts) :=
 u34 (vu6 he c hm F hr hb hd pass0 ha hse hpl ht) fun _ _ _=>vf3 hdd
variable {id T:String} {r:C3} {rm:M3} {name:Str}
theorem u12 (hc:Call3 X (.builtin id) r) (hg:Gl X x) (hm:X.mg x=none) (hv:bootBuiltins x=some (.builtin id)) (ha:A3 X (e::es) ts) (hn:x ≠ "__name__" := by decide) (hdb:(x == ("__debug__" : Str))=false:=by decide)
  (he:starEach (e::es) X.env=(false,eval e X.env)::starEach es X.env:=by rfl) (hpl:(backTo pos (starEach es X.env)).any (·.1)=false:=by rfl):E3 X (.Call (.Name x p) (e::es) [] pos) (dCB r ts) :=
 u34 (ve2 hc hg hm hv ha hn hdb he hpl) fun _ _ _=>vm8
theorem u14 (hc:Call3 X (.type T) r) (hg:Gl X x) (hm:X.mg x=none) (hv:bootBuiltins x=some (.type T)) (ha:A3 X (e::es) ts) (hn:x ≠ "__name__" := by decide) (hdb:(x == ("__debug__" : Str))=false:=by decide)
  (he:starEach (e::es) X.env=(false,eval e X.env)::starEach es X.env:=by rfl) (hpl:(backTo pos (starEach es X.env)).any (·.1)=false:=by rfl):E3 X (.Call (.Name x p) (e::es) [] pos) (dCB r ts) :=
 u34 (v15 hc hg hm hv ha hn hdb he hpl) fun _ _ _=>vm8
end
def ug3 (ix:List (Option Nat)) (σ:DSt):DSt:=ix.map fun o=>o.bind fun j=>(σ[j]?).bind id
def ub6 (ok:Gp->Prop) (g:TG3) (tc:TT3) (te:TE3) (p:Addr) (q:DK):List D->DSt->Gp->Prop
 | [],_,G=>ok G /\ q (.ref p) G
 | x::r,σ,G=>ok G /\ g x σ G fun σ2 G2=>tc σ2 G2 fun b G3 =>
  if b=true then te σ2 G3 fun d G4=>(match G4 p with | some (.lst ys)=>ys.length < sizeLine /\ ub6 ok g tc te p q r σ2 (gup G4 p (.lst (ys++[d]))) | _=>False)
  else ub6 ok g tc te p q r σ2 G3
def v82 (ix:List (Option Nat)) (wi:TI3) (g:TG3) (tc:TT3) (te:TE3):TE3:=fun σ G q=>wi σ G fun it G1=>∀ p,G1 p=none->ub6 it.ok g tc te p q it.items (ug3 ix σ) (gup G1 p (.lst []))
theorem RelSt.inn {K:W.Frag} {H:Hp} {σd:DSt} {σ:L2.St} (h:RelSt K H σd σ) (ix:List (Option Nat)):RelSt K H (ug3 ix σd) (L2.inner ix σ):=by
 refine ⟨by unfold ug3 L2.inner;rw [List.length_map,List.length_map],fun i d e=>?_⟩;unfold ug3 at e;unfold L2.inner;rw [List.getElem?_map] at e ⊢;cases ho:ix[i]? with
 | none=>rw [ho] at e;cases e
 | some o =>
  rw [ho] at e;cases o with
  | none=>cases e
  | some j =>
   have e:(σd[j]?).bind id=some d:=Option.some.inj e;have e:σd[j]?=some (some d):=by
    cases hs:σd[j]? with
    | none=>rw [hs] at e;cases e
    | some w=>rw [hs] at e;cases e;rfl
   obtain ⟨v,hv,r⟩:=h.2 j d e;exact ⟨v,by show some ((σ[j]?).bind id)=_;rw [hv];rfl,r⟩
theorem us3 {K:W.Frag} {ix:List (Option Nat)} {wi:TI3} {g:TG3} {tc:TT3} {te:TE3} {σ:L2.St} {H:Hp} {Q:VK} (h:lowE K (v82 ix wi g tc te) σ H Q):vq6 ix (lowI K wi) (lowG K g) (lowT K tc) (lowE K te) σ H Q:=by
 obtain ⟨σd,G,q,rs,cc,t,f⟩:=h;refine ⟨σd,G,_,rs,cc,t,fun it J G1 H1 ir c1 l1 t1=>?_⟩;intro p hp;have t1:=t1 p (c1.fresh hp);have c2:Con K (gup G1 p (.lst [])) (upd H1 p (.lst [])):=c1.lstNew hp .nil;have l2:Le H1 (upd H1 p (.lst [])):=Le.fresh hp;refine ⟨fun i m σ' H'=>∃ σd' G',Le (upd H1 p (.lst [])) H' /\ RelSt K H' σd' σ' /\ Con K G' H' /\ i+m=it.items.length /\ ub6 it.ok g tc te p q (it.items.drop i) σd' G',
  ⟨it.items.length,ug3 ix σd,_,Le.refl _,(rs.le (l1.trans l2)).inn ix,c2,by omega,by rw [List.drop_zero];exact t1⟩,?_⟩
 rintro i m σ2 H2 ⟨σd2,G2,l3,rs2,c2,e2,t2⟩;have l12:Le H1 H2:=l2.trans l3
 by_cases hi:i < it.items.length
 ·rw [List.drop_eq_getElem_cons hi] at t2
  obtain ⟨ok2,t2⟩:=t2;refine .inr ⟨ir.go i G2 H2 l12 c2 ok2 hi,fun σ' H'=>∃ σd' G',Le (upd H1 p (.lst [])) H' /\ RelSt K H' σd' σ' /\ Con K G' H' /\ ub6 it.ok g tc te p q (it.items.drop (i+1)) σd' G',?_,?_⟩
  ·rintro σ' H' ⟨σd',G',a1,a2,a3,a4⟩
   exact ⟨m - 1,by omega,σd',G',a1,a2,a3,by omega,a4⟩
  ·intro x H3 y
   obtain ⟨c3,l4,e,he,r3⟩:=ir.yld i G2 H2 x H3 l12 c2 ok2 hi y;rw [List.getElem?_eq_getElem hi] at he;cases he;refine ⟨_,σd2,G2,_,r3,rs2.le l4,c3,t2,fun σd4 G4 σ4 H4 rs4 c4 l5 t4=>?_⟩;refine ⟨σd4,G4,_,rs4,c4,t4,fun b G5 H5 c5 l6 t5=>?_⟩;cases b with
   | false =>
    rw [if_neg Bool.false_ne_true] at t5 ⊢;exact ⟨σd4,G5,l3.trans (l4.trans (l5.trans l6)),rs4.le l6,c5,t5⟩
   | true =>
    rw [if_pos rfl] at t5 ⊢;refine ⟨σd4,G5,_,rs4.le l6,c5,t5,fun d G6 v H6 r6 c6 l7 t6=>?_⟩;split at t6
    ·rename_i ys eg
     obtain ⟨xs,ex,rx⟩:=c6 p _ eg;have l8:=Le.lst (ys:=xs++[v]) ex;exact ⟨xs,ex,by rw [<- rx.length];exact t6.1,σd4,_,l3.trans (l4.trans (l5.trans (l6.trans (l7.trans l8)))),rs4.le (l6.trans (l7.trans l8)),c6.lstSet ex (rx.append (.cons r6 .nil)),t6.2⟩
    ·exact t6.elim
 ·rw [List.drop_eq_nil_of_le (by omega)] at t2
  exact .inl ⟨ir.stop i G2 H2 l12 c2 t2.1 (by omega),f _ _ _ _ RelD.refI c2 (l1.trans l12) t2.2⟩
def dYes:TT3:=fun _ G q=>q true G
section
variable {X:Cx} {elt tg iter:Expr} {ifs:List Expr} {scope:Scope} {pos:Pos} {N':List Str} {ix:List (Option Nat)} {wi:TI3} {g:TG3} {tc:TT3} {te:TE3}
theorem u44:Ifs3 X [] dYes:=vp5 vd3 fun σ H Q h=>by
 obtain ⟨σd,G,q,rs,c,t,f⟩:=h;exact f _ _ _ c (Le.refl H) t
theorem vy5 {c:Expr} (h:T3 X c tc):Ifs3 X [c] tc:=vd2 h
theorem u84 (B:BlkOk X N' ix scope) (hw:I3 X tg iter wi) (hg:∀ C s H fp,J3 (u51 X N' scope C s H fp) tg g) (hi:∀ C s H fp,Ifs3 (u51 X N' scope C s H fp) ifs tc) (he:∀ C s H fp,E3 (u51 X N' scope C s H fp) elt te)
  (hc:X.calm=true:=by rfl) (hs:∀ x,foldedSetIterable iter X.env x=pure x:=by intro _;rfl):E3 X (.ListComp elt [⟨tg,iter,ifs,0⟩] scope pos) (v82 ix wi g tc te) :=
 u34 (vv0 (g:=lowG X.K g) (tc:=lowT X.K tc) (te:=lowE X.K te) B hc hw hg hi he hs) fun _ _ _=>us3
theorem uq9 (i:Nat) {y:Str} {py spos:Pos} (hN:X.N.Nodup) (B:BlkOk X N' ix scope) (hw:I3 X tg iter wi) (hg:∀ C s H fp,J3 (u51 X N' scope C s H fp) tg g) (hi:∀ C s H fp,Ifs3 (u51 X N' scope C s H fp) ifs tc) (he:∀ C s H fp,E3 (u51 X N' scope C s H fp) elt te)
  (hy:X.N[i]?=some y:=by rfl) (hl:Loc X.env.scope y:=by first | exact Or.inl rfl | exact Or.inr rfl)
  (hc:X.calm=true:=by rfl) (hsw:swapsWith (.ListComp elt [⟨tg,iter,ifs,0⟩] scope pos) (some (.Name y py)) spos.line X.env=pure true:=by rfl)
  (hf:X.fn y=true \/ X.env.scope.names.lookup y=some .local:=by first | exact .inl rfl | exact .inr rfl | assumption)
  (hs:∀ x,foldedSetIterable iter X.env x=pure x:=by intro _;rfl):S3 X (.Assign [.Name y py] (.ListComp elt [⟨tg,iter,ifs,0⟩] scope pos) spos) (dAsg (v82 ix wi g tc te) (ub3 i)) :=
 uj6 (vt6 (g:=lowG X.K g) (tc:=lowT X.K tc) (te:=lowE X.K te) B hc hN hy hl hw hg hi he hsw hf hs) fun D σ H h=>by
  obtain ⟨σd,G,d,rs,c,t,f⟩:=h;exact us3 (K:=X.K) ⟨σd,G,_,rs,c,t,fun x G1 v H1 r1 c1 l1 t1=>f.nx _ _ _ _ ((rs.le l1).set i r1) c1 l1 t1⟩
end
def xAdd:R3:=fun x y G q=>match x,y with
 | .int i,.int j=>q (.int (i+j)) G
 | .str a,.str b=>a.length+b.length<=sizeLine /\ q (.str (a++b)) G
 | .tup a,.tup b=>a ≠ [] /\ a.length+b.length<=sizeLine /\ q (.tup (a++b)) G
 | .ref a,.ref b=>(match G a,G b with
  | some (.lst xs),some (.lst ys)=>xs.length+ys.length<=sizeLine /\ ∀ p,G p=none->q (.ref p) (gup G p (.lst (xs++ys)))
  | _,_=>False)
 | _,_=>False
def xInt (f:Int->Int->Int):R3:=fun x y G q=>match x,y with | .int i,.int j=>q (.int (f i j)) G | _,_=>False
def uj5 (C:Int->Int->Prop) (f:Int->Int->Int):R3:=fun x y G q=>match x,y with | .int i,.int j=>C i j /\ q (.int (f i j)) G | _,_=>False
def xSub:R3:=xInt fun i j=>i - j
def xMul:R3:=fun x y G q=>match x,y with
 | .int i,.int j=>CMul i j /\ q (.int (i * j)) G
 | .ref a,.int k=>(match G a with
  | some (.lst xs)=>(-(2 ^ 63)<=k /\ k < 2 ^ 63 /\ xs.length * k.toNat<=sizeLine) /\ ∀ p,G p=none->q (.ref p) (gup G p (.lst (List.replicate k.toNat xs).flatten))
  | _=>False)
 | _,_=>False
def wl3 (_ j:Int):Prop:=0 < j /\ j < 18446744073709551616
def xDiv:R3:=uj5 wl3 fun i j=>i / j
def xMod:R3:=uj5 (fun _ j=>0 < j) fun i j=>i % j
def xPow:R3:=uj5 CPow fun i j=>i ^ j.toNat
def xShl:R3:=uj5 CPow fun i j=>i * 2 ^ j.toNat
def xShr:R3:=uj5 (fun _ j=>0<=j) fun i j=>i / 2 ^ j.toNat
def xAnd:R3:=xInt Builtin.bitAnd
def xOr:R3:=xInt Builtin.bitOr
def xXor:R3:=xInt Builtin.bitXor
def xLt:R3:=fun x y G q=>match x,y with | .int i,.int j=>q (.bl (decide (i < j))) G | .str a,.str b=>q (.bl (decide (a.cps.toList < b.cps.toList))) G | _,_=>False
def xLe:R3:=fun x y G q=>match x,y with | .int i,.int j=>q (.bl (decide (i<=j))) G | _,_=>False
def xGt:R3:=fun x y G q=>match x,y with | .int i,.int j=>q (.bl (decide (j < i))) G | _,_=>False
def xGe:R3:=fun x y G q=>match x,y with | .int i,.int j=>q (.bl (decide (j<=i))) G | _,_=>False
section
variable {X:Cx} {K:W.Frag} {H:Hp}
theorem RelD.int_inv {i:Int} {v:V} (h:RelD K H (.int i) v):v=.int i:=by rw [RelD] at h;exact h
theorem RelD.str_inv {i:Str} {v:V} (h:RelD K H (.str i) v):v=.str i:=by rw [RelD] at h;exact h
theorem RelD.non_inv {v:V} (h:RelD K H .non v):v=.non:=by rw [RelD] at h;exact h
theorem RelD.tup_inv {ds:List D} {v:V} (h:RelD K H (.tup ds) v):∃ a xs,v=.ref a /\ SqT K H a xs /\ RelDs K H ds xs:=by rw [RelD] at h;exact h
theorem RelD.intI {i:Int}:RelD K H (.int i) (.int i):=by rw [RelD]
theorem RelD.strI {i:Str}:RelD K H (.str i) (.str i):=by rw [RelD]
theorem RelD.blI {i:Bool}:RelD K H (.bl i) (.bl i):=by rw [RelD]
theorem RelD.nonI:RelD K H .non .non:=by rw [RelD]
theorem wh3 {f:Value->Value->Sem Value} {g:Int->Int->Int} (h:OpR X f (rI0 fun i j=>.int (g i j))):Op3 X f (xInt g):=u47 h fun x y H Q ⟨d,e,G,q,r1,r2,c,t,f⟩=>by
 unfold xInt at t;split at t
 ·exact ⟨_,_,r1.int_inv,r2.int_inv,f _ _ _ _ RelD.intI c (Le.refl H) t⟩
 ·exact t.elim
theorem vj8 {f:Value->Value->Sem Value} {C:Int->Int->Prop} {g:Int->Int->Int} (h:OpR X f (rI C fun i j=>.int (g i j))):Op3 X f (uj5 C g):=u47 h fun x y H Q ⟨d,e,G,q,r1,r2,c,t,f⟩=>by
 unfold uj5 at t;split at t
 ·exact ⟨_,_,r1.int_inv,r2.int_inv,t.1,f _ _ _ _ RelD.intI c (Le.refl H) t.2⟩
 ·exact t.elim
theorem um8:Op3 X (binaryOp .Sub) xSub:=wh3 w83
theorem uj4:Op3 X (binaryOp .Mod) xMod:=vj8 w87
theorem ub1:Op3 X (binaryOp .Pow) xPow:=vj8 w85
theorem u23:Op3 X (binaryOp .Add) xAdd:=u47 (op_add.or (op_add_str.or (op_catT.or w90))) <| by
 rintro x y H Q ⟨d,e,G,q,r1,r2,c,t,f⟩;unfold xAdd at t;split at t
 ·exact .inl ⟨_,_,r1.int_inv,r2.int_inv,f _ _ _ _ RelD.intI c (Le.refl H) t⟩
 ·exact .inr (.inl ⟨_,_,r1.str_inv,r2.str_inv,t.1,f _ _ _ _ RelD.strI c (Le.refl H) t.2⟩)
 ·obtain ⟨a,xs,rfl,s1,q1⟩:=r1.tup_inv
  obtain ⟨b,ys,rfl,s2,q2⟩:=r2.tup_inv;refine .inr (.inr (.inl ⟨a,b,xs,ys,rfl,rfl,s1,s2,fun z=>t.1 ?_,by rw [<- q1.length,<- q2.length];exact t.2.1,fun z=>?_,fun _ p hp=>?_⟩))
  ·have:=q1.length;rw [z] at this;exact List.eq_nil_of_length_eq_zero this
  ·refine f (.tup _) G (.ref a) _ ?_ c (Le.refl _) t.2.2
   rw [RelD];subst z;have e:∀ {bs:List D},RelDs X.K H bs []->bs=[]:=fun h=>List.eq_nil_of_length_eq_zero h.length
   rw [e q2,List.append_nil];exact ⟨a,_,rfl,s1,q1⟩
  ·refine f (.tup _) G (.ref p) _ ?_ (c.side hp) (Le.fresh hp) t.2.2
   rw [RelD];exact ⟨p,_,rfl,SqT.of u20,RelDs.le (Le.fresh hp) (q1.append q2)⟩
 ·rename_i a b
  split at t
  ·rename_i xs ys e1 e2
   obtain ⟨vs,h1,q1⟩:=c _ _ e1;obtain ⟨ws,h2,q2⟩:=c _ _ e2;exact .inr (.inr (.inr ⟨a,b,vs,ws,r1.ref_inv,r2.ref_inv,h1,h2,by rw [<- q1.length,<- q2.length];exact t.1,fun p hp=>f _ _ _ _ RelD.refI (c.lstNew hp (q1.append q2)) (Le.fresh hp) (t.2 p (c.fresh hp))⟩))
  ·exact t.elim
 ·exact t.elim
theorem um9:Op3 X (binaryOp .Mult) xMul:=u47 (op_mul.or w84) <| by
 rintro x y H Q ⟨d,e,G,q,r1,r2,c,t,f⟩;unfold xMul at t;split at t
 ·exact .inl ⟨_,_,r1.int_inv,r2.int_inv,t.1,f _ _ _ _ RelD.intI c (Le.refl H) t.2⟩
 ·rename_i a k
  split at t
  ·rename_i xs e1
   obtain ⟨vs,h1,q1⟩:=c _ _ e1;refine .inr ⟨a,k,vs,r1.ref_inv,r2.int_inv,h1,t.1.1,t.1.2.1,by rw [<- q1.length];exact t.1.2.2,?_⟩;intro p hp;exact f _ _ _ _ RelD.refI (c.lstNew hp (q1.rep _)) (Le.fresh hp) (t.2 p (c.fresh hp))
  ·exact t.elim
 ·exact t.elim
theorem uy2 {f:Value->Value->Sem Value} {g:Int->Int->Bool} (h:OpR X f (rI0 fun i j=>.bl (g i j))):Op3 X f (fun x y G q=>match x,y with | .int i,.int j=>q (.bl (g i j)) G | _,_=>False):=u47 h fun x y H Q ⟨d,e,G,q,r1,r2,c,t,f⟩=>by
 dsimp only at t;split at t
 ·exact ⟨_,_,r1.int_inv,r2.int_inv,f _ _ _ _ RelD.blI c (Le.refl H) t⟩
 ·exact t.elim
theorem x_le:Op3 X (compareOp .LtE) xLe:=uy2 wj6
theorem x_gt:Op3 X (compareOp .Gt) xGt:=uy2 wj7
theorem x_ge:Op3 X (compareOp .GtE) xGe:=uy2 wj8
theorem x_lt:Op3 X (compareOp .Lt) xLt:=u47 (op_lt.or v19) <| by
 rintro x y H Q ⟨d,e,G,q,r1,r2,c,t,f⟩;unfold xLt at t;split at t
 ·exact .inl ⟨_,_,r1.int_inv,r2.int_inv,f _ _ _ _ RelD.blI c (Le.refl H) t⟩
 ·exact .inr ⟨_,_,r1.str_inv,r2.str_inv,f _ _ _ _ RelD.blI c (Le.refl H) t⟩
 ·exact t.elim
theorem RelD.not_non {d:D} {v:V} (h:RelD K H d v) (n:d ≠ .non):v ≠ .non:=by
 cases d with
 | non=>exact absurd rfl n
 | bl _=>rw [h.bl_inv];exact fun z=>nomatch z
 | int _=>rw [h.int_inv];exact fun z=>nomatch z
 | str _=>rw [h.str_inv];exact fun z=>nomatch z
 | ref _=>rw [h.ref_inv];exact fun z=>nomatch z
 | ty _=>rw [RelD] at h;rw [h];exact fun z=>nomatch z
 | tup _=>obtain ⟨a,xs,e,_⟩:=h.tup_inv;rw [e];exact fun z=>nomatch z
def xNeg:U3:=fun x G q=>match x with | .int i=>q (.int (-i)) G | _=>False
theorem uy1:UnR X (unaryOp .USub) (lowU X.K xNeg):=w31 w39 <| by
 rintro x H Q ⟨d,G,q,r1,c,t,f⟩;unfold xNeg at t;split at t
 ·exact ⟨_,r1.int_inv,f _ _ _ _ RelD.intI c (Le.refl H) t⟩
 ·exact t.elim
def xIx:R3:=fun x y G q=>match x,y with
 | .tup ds,.int i=>(match atI ds i with | some d=>q d G | none=>False)
 | .ref a,.int i=>(match u16 (G a) with | some ds=>(match atI ds i with | some d=>q d G | none=>False) | none=>False)
 | .str z,.int i=>z.length<=sizeLine /\ (match atI z.cps.toList i with | some c=>q (.str ⟨#[c]⟩) G | none=>False)
 | _,_=>False
theorem RelDs.atI {ds:List D} {xs:List V} {i:Int} {d:D} (h:RelDs K H ds xs) (e:L2.atI ds i=some d):∃ v,L2.atI xs i=some v /\ RelD K H d v:=by
 unfold L2.atI at e ⊢;rw [<- h.length];cases hj:ixN ds.length i with
 | none=>rw [hj] at e;cases e
 | some j =>
  rw [hj] at e;exact h.get e
theorem x_ix:IxR X (lowR X.K xIx):=w33 wd8 <| by
 rintro x y H Q ⟨d,e,G,q,r1,r2,c,t,f⟩;unfold xIx at t;split at t
 ·rename_i ds i
  obtain ⟨a,xs,rfl,s1,q1⟩:=r1.tup_inv;split at t
  ·rename_i w ew
   obtain ⟨v,hv,rv⟩:=q1.atI ew;exact .inr (.inl ⟨a,xs,i,v,rfl,r2.int_inv,s1,hv,f _ _ _ _ rv c (Le.refl H) t⟩)
  ·exact t.elim
 ·rename_i a i
  split at t
  ·rename_i ds es
   obtain ⟨xs,s1,q1⟩:=u19 c es;split at t
   ·rename_i w ew
    obtain ⟨v,hv,rv⟩:=q1.atI ew;exact .inl ⟨a,xs,i,v,r1.ref_inv,r2.int_inv,s1,hv,f _ _ _ _ rv c (Le.refl H) t⟩
   ·exact t.elim
  ·exact t.elim
 ·rename_i z i
  obtain ⟨hz,t⟩:=t;split at t
  ·rename_i w ew
   exact .inr (.inr ⟨z,i,w,r1.str_inv,r2.int_inv,hz,ew,f _ _ _ _ RelD.strI c (Le.refl H) t⟩)
  ·exact t.elim
 ·exact t.elim
def cutD {α:Type} (xs:List α) (lo hi:Option Int):List α:=(xs.drop (HT.sIx xs.length 0 lo)).take (HT.sIx xs.length xs.length hi - HT.sIx xs.length 0 lo)
theorem RelDs.cut {ds:List D} {xs:List V} (h:RelDs K H ds xs) (lo hi:Option Int):RelDs K H (cutD ds lo hi) (cutV xs lo hi):=by
 unfold cutD cutV;rw [h.length];exact (h.drop _).take _
def xSet:TSet3:=fun o i v G q=>match o,i with
 | .ref a,.int k=>(match G a with | some (.lst ds)=>(match ixN ds.length k with | some j=>q (gup G a (.lst (ds.set j v))) | none=>False) | _=>False)
 | _,_=>False
theorem uu7:PSet X (v40 X.K xSet):=vp4 set_list <| by
 rintro o i v H Q ⟨d,e,x,G,q,r1,r2,r3,c,t,f⟩;unfold xSet at t;split at t
 ·rename_i a k
  split at t
  ·rename_i ds e1
   obtain ⟨xs,h1,q1⟩:=c _ _ e1;split at t
   ·rename_i j ej
    exact ⟨a,xs,k,j,r1.ref_inv,r2.int_inv,h1,by rw [<- q1.length];exact ej,f _ _ (c.lstSet h1 (q1.set r3 j)) (Le.lst h1) t⟩
   ·exact t.elim
  ·exact t.elim
 ·exact t.elim
end
inductive Sn where
 | non | bl (b:Bool) | int (i:Int) | str (x:Str) | tup (xs:List Sn) | lst (xs:List Sn)
def snap (G:Gp):Nat->D->Option Sn
 | _,.non=>some .non
 | _,.bl b=>some (.bl b)
 | _,.int i=>some (.int i)
 | _,.str x=>some (.str x)
 | n+1,.tup ds=>(ds.mapM (snap G n)).map .tup
 | n+1,.ref a=>(u16 (G a)).bind fun ds=>(ds.mapM (snap G n)).map .lst
 | _,_=>none
def u45:Sn->Bool
 | .non=>true | .bl _=>true | .int _=>true | .str _=>true | _=>false
def eqF:Sn->Sn->Bool
 | .non,.non=>true
 | .bl a,.bl b=>a == b
 | .bl a,.int b=>(if a then 1 else 0) == b
 | .int a,.bl b=>a == (if b then 1 else 0)
 | .int a,.int b=>a == b
 | .str a,.str b=>a == b
 | _,_=>false
def eqN:Nat->Sn->Sn->Option Bool
 | n+1,.tup xs,.tup ys=>if xs.length=ys.length then ((xs.zip ys).mapM fun p=>eqN n p.1 p.2).map fun bs=>bs.all id else none
 | n+1,.lst xs,.lst ys=>if xs.length=ys.length then ((xs.zip ys).mapM fun p=>eqN n p.1 p.2).map fun bs=>bs.all id else some false
 | _,x,y=>if (u45 x && u45 y)=true then some (eqF x y) else none
theorem u28 {α β:Type} {f:α->Option β}:∀ {xs:List α} {ys:List β},xs.mapM f=some ys->xs.length=ys.length /\ ∀ (i:Nat) x,xs[i]?=some x->∃ y,ys[i]?=some y /\ f x=some y
 | [],ys,h=>by
  have:ys=[]:=by simpa using h.symm
  subst this;exact ⟨rfl,fun i x e=>by simp at e⟩
 | x::xs,ys,h=>by
  rw [List.mapM_cons] at h;cases hx:f x with
  | none=>rw [hx] at h;cases h
  | some y =>
   rw [hx] at h;cases hr:xs.mapM f with
   | none=>rw [hr] at h;cases h
   | some r =>
    rw [hr] at h;have e:y::r=ys:=Option.some.inj h;subst e;obtain ⟨h1,h2⟩:=u28 hr;refine ⟨by simp [h1],fun i z e=>?_⟩;cases i with
    | zero=>cases (show x=z from Option.some.inj e);exact ⟨y,rfl,hx⟩
    | succ i=>exact h2 i z e
theorem ug6 {bs:List Bool} {e:Nat->Bool} {n:Nat} (hl:bs.length=n) (h:∀ (i:Nat) b,bs[i]?=some b->e i=b):(List.range n).all e=bs.all id:=by
 rw [Bool.eq_iff_iff,List.all_eq_true,List.all_eq_true]
 constructor
 ·intro q b hb
  obtain ⟨i,hi,eb⟩:=List.mem_iff_getElem.mp hb;have:=q i (List.mem_range.mpr (by omega));rw [h i b (by rw [List.getElem?_eq_getElem hi,eb])] at this;exact this
 ·intro q i hi
  have hi:=List.mem_range.mp hi;rw [h i bs[i] (List.getElem?_eq_getElem (by omega))];exact q _ (List.getElem_mem _)
section
variable {X:Cx} {pins:List (Addr × Obj)} {σ:L2.St} {H:Hp} {s:Shared} {G:Gp}
theorem uo9 {n:Nat} {d:D} {sd:Sn} {x:V} {u:Value} (h:snap G n d=some sd) (fl:u45 sd=true) (r:RelD X.K H d x):ub5 x=true /\ ∀ (e:D) (se:Sn) (y:V),snap G n e=some se->u45 se=true->RelD X.K H e y->eqV x y=eqF sd se:=by
  have key:∀ (d:D) (sd:Sn) (x:V),snap G n d=some sd->u45 sd=true->RelD X.K H d x->(sd=.non /\ x=.non) \/ (∃ b,sd=.bl b /\ x=.bl b) \/ (∃ i,sd=.int i /\ x=.int i) \/ (∃ z,sd=.str z /\ x=.str z):=by
    intro d sd x h fl r;cases d with
    | non => have e : Sn.non = sd := by cases n <;> exact Option.some.inj h
             subst e;exact .inl ⟨rfl,r.non_inv⟩
    | bl b => have e : Sn.bl b = sd := by cases n <;> exact Option.some.inj h
              subst e;exact .inr (.inl ⟨b,rfl,r.bl_inv⟩)
    | int b => have e : Sn.int b = sd := by cases n <;> exact Option.some.inj h
               subst e;exact .inr (.inr (.inl ⟨b,rfl,r.int_inv⟩))
    | str b => have e : Sn.str b = sd := by cases n <;> exact Option.some.inj h
               subst e;exact .inr (.inr (.inr ⟨b,rfl,r.str_inv⟩))
    | tup ds =>
      cases n with
      | zero=>cases h
      | succ n =>
        have h:(ds.mapM (snap G n)).map Sn.tup=some sd:=h;obtain ⟨a,_,rfl⟩:=Option.map_eq_some_iff.mp h;cases fl
    | ref a =>
      cases n with
      | zero=>cases h
      | succ n =>
        have h:((u16 (G a)).bind fun ds=>(ds.mapM (snap G n)).map Sn.lst)=some sd:=h;obtain ⟨ds,_,h⟩:=Option.bind_eq_some_iff.mp h;obtain ⟨a,_,rfl⟩:=Option.map_eq_some_iff.mp h;cases fl
    | ty t=>cases n <;> cases h
  rcases key d sd x h fl r with ⟨rfl,rfl⟩ | ⟨b,rfl,rfl⟩ | ⟨b,rfl,rfl⟩ | ⟨b,rfl,rfl⟩ <;> refine ⟨rfl,fun e se y h' fl' r'=>?_⟩ <;>
    rcases key e se y h' fl' r' with ⟨rfl,rfl⟩ | ⟨c,rfl,rfl⟩ | ⟨c,rfl,rfl⟩ | ⟨c,rfl,rfl⟩ <;> rfl
theorem snap_tup {n:Nat} {ds:List D} {sd:Sn} (h:snap G n (.tup ds)=some sd):∃ m ss,n=m+1 /\ sd=.tup ss /\ ds.mapM (snap G m)=some ss:=by
 cases n with
 | zero=>cases h
 | succ n =>
  obtain ⟨ss,h1,rfl⟩:=Option.map_eq_some_iff.mp (show (ds.mapM (snap G n)).map Sn.tup=some sd from h);exact ⟨n,ss,rfl,rfl,h1⟩
theorem snap_ref {n:Nat} {a:Addr} {sd:Sn} (h:snap G n (.ref a)=some sd):∃ m ds ss,n=m+1 /\ sd=.lst ss /\ u16 (G a)=some ds /\ ds.mapM (snap G m)=some ss:=by
 cases n with
 | zero=>cases h
 | succ n =>
  obtain ⟨ds,h0,h⟩:=Option.bind_eq_some_iff.mp (show ((u16 (G a)).bind fun ds=>(ds.mapM (snap G n)).map Sn.lst)=some sd from h);obtain ⟨ss,h1,rfl⟩:=Option.map_eq_some_iff.mp h;exact ⟨n,ds,ss,rfl,rfl,h0,h1⟩
theorem ut0 {n:Nat} {x y:Sn} (hx:u45 x=true):eqN n x y=if (u45 x && u45 y)=true then some (eqF x y) else none:=by
 cases x with
 | tup _=>cases hx
 | lst _=>cases hx
 | non=>cases n <;> rfl
 | bl _=>cases n <;> rfl
 | int _=>cases n <;> rfl
 | str _=>cases n <;> rfl
theorem u83 {n:Nat} {x y:Sn} {b:Bool} (h:eqN n x y=some b) (fl:¬ (u45 x && u45 y)=true):(∃ m xs ys,n=m+1 /\ x=.tup xs /\ y=.tup ys) \/ (∃ m xs ys,n=m+1 /\ x=.lst xs /\ y=.lst ys):=by
 unfold eqN at h;split at h
 ·exact .inl ⟨_,_,_,rfl,rfl,rfl⟩
 ·exact .inr ⟨_,_,_,rfl,rfl,rfl⟩
 ·rw [if_neg fl] at h;cases h
theorem u58 {n:Nat} {d:D} {ss:List Sn} (h:snap G n d=some (.tup ss)):∃ ds,d=.tup ds:=by
 cases d with
 | tup ds=>exact ⟨ds,rfl⟩
 | ref a=>obtain ⟨_,_,_,_,e',_⟩:=snap_ref h;cases e'
 | _=>cases n <;> cases h
theorem u59 {n:Nat} {d:D} {ss:List Sn} (h:snap G n d=some (.lst ss)):∃ a,d=.ref a:=by
 cases d with
 | ref a=>exact ⟨a,rfl⟩
 | tup ds=>obtain ⟨_,_,_,e',_⟩:=snap_tup h;cases e'
 | _=>cases n <;> cases h
theorem uk4 {n:Nat} {d e:D} {x:V} {sd se:Sn} {b:Bool} (r1:RelD X.K H d x) (r2:RelD X.K H e x) (h1:snap G n d=some sd) (h2:snap G n e=some se) (hb:eqN n sd se=some b) (fl:(u45 sd && u45 se)=true):b=true:=by
 rw [Bool.and_eq_true] at fl;have z:=hb;rw [ut0 fl.1,if_pos (by rw [fl.1,fl.2];rfl)] at z;obtain ⟨fx,k⟩:=uo9 (u:=Value.none) h1 fl.1 r1;rw [<- Option.some.inj z,<- k e se x h2 fl.2 r2];cases x with
 | non=>rfl
 | bl b=>exact beq_self_eq_true b
 | int i=>exact beq_self_eq_true i
 | str w=>exact beq_self_eq_true w
 | _=>cases fx
theorem uz7 (I:Inv X pins σ H s) (c:Con X.K G H):∀ (n:Nat) (d e:D) (x:V) (sd se:Sn) (b:Bool),RelD X.K H d x->RelD X.K H e x->snap G n d=some sd->snap G n e=some se->eqN n sd se=some b->b=true:=by
 intro n
 induction n with
 | zero =>
  intro d e x sd se b r1 r2 h1 h2 hb
  by_cases fl:(u45 sd && u45 se)=true
  ·exact uk4 r1 r2 h1 h2 hb fl
  ·rcases u83 hb fl with ⟨_,_,_,z,_⟩ | ⟨_,_,_,z,_⟩ <;> cases z
 | succ m ih =>
  intro d e x sd se b r1 r2 h1 h2 hb
  by_cases fl:(u45 sd && u45 se)=true
  ·exact uk4 r1 r2 h1 h2 hb fl
  have items:∀ (ds es:List D) (xs:List V) (ss ts:List Sn) (bs:List Bool),RelDs X.K H ds xs->RelDs X.K H es xs->ds.mapM (snap G m)=some ss->es.mapM (snap G m)=some ts->((ss.zip ts).mapM fun p=>eqN m p.1 p.2)=some bs->bs.all id=true:=by
   intro ds es xs ss ts bs q1 q2 k1 k2 kb;rw [List.all_eq_true];intro b hb;obtain ⟨i,hi,eb⟩:=List.mem_iff_getElem.mp hb;obtain ⟨l1,f1⟩:=u28 k1;obtain ⟨l2,f2⟩:=u28 k2;obtain ⟨l3,f3⟩:=u28 kb;have hz:(ss.zip ts).length=min ss.length ts.length:=List.length_zip;have e1:=q1.length;have e2:=q2.length;have hds:i < ds.length:=by omega
   have hes:i < es.length:=by omega
   obtain ⟨y1,g1,s1⟩:=f1 i ds[i] (List.getElem?_eq_getElem hds);obtain ⟨y2,g2,s2⟩:=f2 i es[i] (List.getElem?_eq_getElem hes);have hzip:(ss.zip ts)[i]?=some (y1,y2):=by rw [List.getElem?_zip_eq_some];exact ⟨g1,g2⟩
   obtain ⟨b',g3,s3⟩:=f3 i _ hzip;rw [List.getElem?_eq_getElem hi,eb] at g3;cases g3;obtain ⟨z1,hz1,rz1⟩:=q1.get (List.getElem?_eq_getElem hds);obtain ⟨z2,hz2,rz2⟩:=q2.get (List.getElem?_eq_getElem hes);rw [hz1] at hz2;cases hz2;exact ih ds[i] es[i] z1 y1 y2 b rz1 rz2 s1 s2 s3
  rcases u83 hb fl with ⟨m',ss,ts,em,rfl,rfl⟩ | ⟨m',ss,ts,em,rfl,rfl⟩
  ·cases em
   obtain ⟨ds,rfl⟩:=u58 h1;obtain ⟨es,rfl⟩:=u58 h2;obtain ⟨_,_,em,ez,k1⟩:=snap_tup h1;cases em;cases ez;obtain ⟨_,_,em,ez,k2⟩:=snap_tup h2;cases em;cases ez;obtain ⟨a,xs,rfl,q1,rr1⟩:=r1.tup_inv;obtain ⟨a',ys,e',q2,rr2⟩:=r2.tup_inv;cases e';have:=I.tuple_inj q1 q2;subst this;unfold eqN at hb;split at hb
   ·obtain ⟨bs,kb,rfl⟩:=Option.map_eq_some_iff.mp hb
    exact items ds es xs ss ts bs rr1 rr2 k1 k2 kb
   ·cases hb
  ·cases em
   obtain ⟨a,rfl⟩:=u59 h1;obtain ⟨a',rfl⟩:=u59 h2;cases r1.ref_inv;have e':=r2.ref_inv;cases e';obtain ⟨_,ds,_,em,ez,hs1,k1⟩:=snap_ref h1;cases em;cases ez;obtain ⟨_,es,_,em,ez,hs2,k2⟩:=snap_ref h2;cases em;cases ez;rw [hs1] at hs2;cases hs2;rw [k1] at k2;cases k2;obtain ⟨xs,_,rr⟩:=u19 c hs1;unfold eqN at hb;split at hb
   ·obtain ⟨bs,kb,rfl⟩:=Option.map_eq_some_iff.mp hb
    exact items ds ds xs ss ss bs rr rr k1 k1 kb
   ·rename_i h;exact absurd rfl h
structure SeqPair (G:Gp) (K:W.Frag) (H:Hp) (m:Nat) (its its2:List Value) (bs:List Bool):Prop where
 len:its.length=its2.length
 bl:bs.length=its.length
 at_:∀ (j:Nat) (h1:j < its.length) (h2:j < its2.length) (h3:j < bs.length),∃ d e x y sd se,RelD K H d x /\ RelV x its[j] /\ RelD K H e y /\ RelV y its2[j] /\ snap G m d=some sd /\ snap G m e=some se /\ eqN m sd se=some bs[j]
theorem ua3 {m:Nat} {ds es:List D} {xs ys:List V} {its its2:List Value} {ss ts:List Sn} {bs:List Bool} (q1:RelDs X.K H ds xs) (v1:Vals xs its) (q2:RelDs X.K H es ys) (v2:Vals ys its2)
  (k1:ds.mapM (snap G m)=some ss) (k2:es.mapM (snap G m)=some ts) (hl:ss.length=ts.length) (kb:((ss.zip ts).mapM fun p=>eqN m p.1 p.2)=some bs):SeqPair G X.K H m its its2 bs:=by
 obtain ⟨l1,f1⟩:=u28 k1;obtain ⟨l2,f2⟩:=u28 k2;obtain ⟨l3,f3⟩:=u28 kb;have hz:(ss.zip ts).length=min ss.length ts.length:=List.length_zip;have e1:=q1.length;have e2:=q2.length;have e3:=v1.length;have e4:=v2.length;refine ⟨by omega,by omega,fun j h1 h2 h3=>?_⟩;have hds:j < ds.length:=by omega
 have hes:j < es.length:=by omega
 obtain ⟨y1,g1,s1⟩:=f1 j ds[j] (List.getElem?_eq_getElem hds);obtain ⟨y2,g2,s2⟩:=f2 j es[j] (List.getElem?_eq_getElem hes);have hzip:(ss.zip ts)[j]?=some (y1,y2):=by rw [List.getElem?_zip_eq_some];exact ⟨g1,g2⟩
 obtain ⟨b',g3,s3⟩:=f3 j _ hzip;rw [List.getElem?_eq_getElem h3] at g3;cases g3;obtain ⟨z1,hz1,rz1⟩:=q1.get (List.getElem?_eq_getElem hds);obtain ⟨z2,hz2,rz2⟩:=q2.get (List.getElem?_eq_getElem hes);obtain ⟨u1,hu1,ru1⟩:=v1.get hz1;obtain ⟨u2,hu2,ru2⟩:=v2.get hz2;rw [List.getElem?_eq_getElem h1] at hu1;rw [List.getElem?_eq_getElem h2] at hu2;cases hu1;cases hu2;exact ⟨ds[j],es[j],z1,z2,y1,y2,rz1,ru1,rz2,ru2,s1,s2,s3⟩
end
section
variable {X:Cx} {pins:List (Addr × Obj)} {σ:L2.St} {H:Hp} {s:Shared} {G:Gp}
theorem v71 (I:Inv X pins σ H s) {n:Nat} {A:Around} {d e:D} {x y:V} {u v:Value} {sd se:Sn} {b:Bool} (r1:RelD X.K H d x) (v1:RelV x u) (r2:RelD X.K H e y) (v2:RelV y v) (h1:snap G n d=some sd) (h2:snap G n e=some se) (hb:eqN n sd se=some b) (fl:(u45 sd && u45 se)=true):SeqAt.EqAt A s u v b:=by
 rw [Bool.and_eq_true] at fl;have hb':b=eqF sd se:=by
  have z:=hb;rw [ut0 fl.1,if_pos (by rw [fl.1,fl.2];rfl)] at z;exact (Option.some.inj z).symm
 obtain ⟨fx,k⟩:=uo9 (u:=u) h1 fl.1 r1;obtain ⟨fy,_⟩:=uo9 (u:=v) h2 fl.2 r2;rw [hb',<- k e se y h2 fl.2 r2];exact vn8 v1 v2 fx fy
theorem vh4 (I:Inv X pins σ H s) (c:Con X.K G H):∀ (n:Nat) (A:Around) (d e:D) (x y:V) (u v:Value) (sd se:Sn) (b:Bool),RelD X.K H d x->RelV x u->RelD X.K H e y->RelV y v->snap G n d=some sd->snap G n e=some se->eqN n sd se=some b->A.units+n < cLine->SeqAt.EqAt A s u v b:=by
 intro n
 induction n with
 | zero =>
  intro A d e x y u v sd se b r1 v1 r2 v2 h1 h2 hb hu
  by_cases fl:(u45 sd && u45 se)=true
  ·exact v71 I r1 v1 r2 v2 h1 h2 hb fl
  ·rcases u83 hb fl with ⟨_,_,_,z,_⟩ | ⟨_,_,_,z,_⟩ <;> cases z
 | succ m ih =>
  intro A d e x y u v sd se b r1 v1 r2 v2 h1 h2 hb hu
  by_cases fl:(u45 sd && u45 se)=true
  ·exact v71 I r1 v1 r2 v2 h1 h2 hb fl
  ·have inner:∀ (its its2:List Value) (bs:List Bool),SeqPair G X.K H m its its2 bs->∀ j (h1:j < its.toArray.size) (h2:j < its2.toArray.size),SeqAt.EqAt A.in1 s its.toArray[j] its2.toArray[j] ((bs[j]?).getD true):=by
    intro its its2 bs P j h1 h2;have h1':j < its.length:=by simpa using h1
    have h2':j < its2.length:=by simpa using h2
    have h3':j < bs.length:=by rw [P.bl];exact h1'
    obtain ⟨d',e',x',y',sd',se',a1,a2,a3,a4,a5,a6,a7⟩:=P.at_ j h1' h2' h3'
    rw [List.getElem?_eq_getElem h3'];have hu':A.in1.units+m < cLine:=by
     have:A.in1.units=A.units+1:=rfl;omega
    have:=ih A.in1 d' e' x' y' _ _ sd' se' _ a1 a2 a3 a4 a5 a6 a7 hu';simpa using this
   rcases u83 hb fl with ⟨m',ss,ts,em,rfl,rfl⟩ | ⟨m',ss,ts,em,rfl,rfl⟩
   ·cases em
    obtain ⟨ds,rfl⟩:=u58 h1;obtain ⟨es,rfl⟩:=u58 h2;obtain ⟨_,_,em,ez,k1⟩:=snap_tup h1;cases em;cases ez;obtain ⟨_,_,em,ez,k2⟩:=snap_tup h2;cases em;cases ez;obtain ⟨a,xs,rfl,q1,rr1⟩:=r1.tup_inv;obtain ⟨a',ys,rfl,q2,rr2⟩:=r2.tup_inv;cases v1;cases v2
    by_cases haa:a=a'
    ·subst haa
     rw [uz7 I c (m+1) (.tup ds) (.tup es) (.ref a) _ _ b r1 r2 h1 h2 hb];exact SeqAt.EqAt.same _
    ·unfold eqN at hb
     split at hb
     ·rename_i hlen
      obtain ⟨bs,kb,rfl⟩:=Option.map_eq_some_iff.mp hb;obtain ⟨its,w1,t1,_⟩:=I.tuple q1;obtain ⟨its2,w2,t2,_⟩:=I.tuple q2;have P:=ua3 rr1 w1 rr2 w2 k1 k2 hlen kb;have R:=SeqAt.RcAt.tuples (A:=A) (s:=s) (e:=fun j=>(bs[j]?).getD true) (show s.heap.IsTuple a its.toArray from t1) (show s.heap.IsTuple a' its2.toArray from t2) (by omega) (inner its its2 bs P);have e1:((List.range (min its.toArray.size its2.toArray.size)).all (fun j=>(bs[j]?).getD true) && its.toArray.size == its2.toArray.size)=bs.all id:=by
       have el:its.toArray.size=its2.toArray.size:=by simpa using P.len
       rw [el,Nat.min_self,beq_self_eq_true,Bool.and_true];exact ug6 (by rw [<- el];simpa using P.bl) fun i b hb=>by rw [hb];rfl
      rw [e1] at R;exact SeqAt.EqAt.of_refs haa R
     ·cases hb
   ·cases em
    obtain ⟨a,rfl⟩:=u59 h1;obtain ⟨a',rfl⟩:=u59 h2;obtain ⟨_,ds,_,em,ez,hs1,k1⟩:=snap_ref h1;cases em;cases ez;obtain ⟨_,es,_,em,ez,hs2,k2⟩:=snap_ref h2;cases em;cases ez;cases r1.ref_inv;cases r2.ref_inv;cases v1;cases v2
    by_cases haa:a=a'
    ·subst haa
     rw [uz7 I c (m+1) (.ref a) (.ref a) (.ref a) _ _ b r1 r2 h1 h2 hb];exact SeqAt.EqAt.same _
    ·obtain ⟨xs,q1,rr1⟩:=u19 c hs1
     obtain ⟨ys,q2,rr2⟩:=u19 c hs2;obtain ⟨its,w1,t1,_⟩:=I.list q1;obtain ⟨its2,w2,t2,_⟩:=I.list q2;unfold eqN at hb;split at hb
     ·rename_i hlen
      obtain ⟨bs,kb,rfl⟩:=Option.map_eq_some_iff.mp hb;have P:=ua3 rr1 w1 rr2 w2 k1 k2 hlen kb;have el:its.toArray.size=its2.toArray.size:=by simpa using P.len
      have R:=SeqAt.RcAt.lists (A:=A) (s:=s) (e:=fun j=>(bs[j]?).getD true) t1.isList t2.isList el (by omega) (inner its its2 bs P);have e1:((List.range its.toArray.size).all (fun j=>(bs[j]?).getD true))=bs.all id :=
       ug6 (by simpa using P.bl) fun i b hb=>by rw [hb];rfl
      rw [e1] at R;exact SeqAt.EqAt.of_refs haa R
     ·rename_i hlen
      cases hb;have n1:=(u28 k1).1;have n2:=(u28 k2).1;have m1:=rr1.length;have m2:=rr2.length;have m3:=w1.length;have m4:=w2.length;exact SeqAt.EqAt.of_refs haa (SeqAt.RcAt.lists_lengths t1.isList t2.isList (by simp;omega) (by omega))
end
def rEqD (K:W.Frag) (neg:Bool):R2:=fun x y H Q=>∃ (d e:D) (G:Gp) (n:Nat) (sd se:Sn) (b:Bool),RelD K H d x /\ RelD K H e y /\ Con K G H /\ n<=40 /\ snap G n d=some sd /\ snap G n e=some se /\ eqN n sd se=some b /\ u45 sd=false /\ Q (.bl (if neg then !b else b)) H
section
variable {X:Cx} {k:Nat}
theorem w89 (hr:Room k X.A):OpR X (compareOp .Eq) (rEqD X.K false):=by
  intro pins s σ H x y v u Q I rx ry h;obtain ⟨d,e,G,n,sd,se,b,r1,r2,c,hn,h1,h2,hb,fl,q⟩:=h;have hu:=hr.units;have fin:EP X pins σ Q (.bool b) s:=⟨.bl b,H,I,rfl,q⟩
  rcases u83 hb (fun z=>by rw [fl] at z;cases z) with ⟨m,ss,ts,rfl,rfl,rfl⟩ | ⟨m,ss,ts,rfl,rfl,rfl⟩
  · obtain ⟨ds,rfl⟩:=u58 h1
    obtain ⟨es,rfl⟩:=u58 h2
    · · · obtain ⟨_,ss',em,ez,k1⟩ := snap_tup h1
          cases em;cases ez;obtain ⟨m',ts',em,es',k2⟩:=snap_tup h2;cases em;cases es';obtain ⟨a,xs,rfl,q1,rr1⟩:=r1.tup_inv;obtain ⟨a',ys,rfl,q2,rr2⟩:=r2.tup_inv;cases rx;cases ry;unfold eqN at hb;split at hb
          · rename_i hlen
            obtain ⟨bs,kb,rfl⟩:=Option.map_eq_some_iff.mp hb;obtain ⟨its,w1,t1,_⟩:=I.tuple q1;obtain ⟨its2,w2,t2,_⟩:=I.tuple q2;have P:=ua3 rr1 w1 rr2 w2 k1 k2 hlen kb;refine SeqAt.eq_tupleAt (e:=fun j=>(bs[j]?).getD true) (show s.heap.IsTuple a its.toArray from t1) (show s.heap.IsTuple a' its2.toArray from t2) (by omega) ?_ ?_
            · intro j h1 h2
              have h1':j < its.length:=by simpa using h1
              have h2':j < its2.length:=by simpa using h2
              have h3':j < bs.length:=by rw [P.bl];exact h1'
              obtain ⟨d',e',x',y',sd',se',a1,a2,a3,a4,a5,a6,a7⟩:=P.at_ j h1' h2' h3'
              rw [List.getElem?_eq_getElem h3'];have:=vh4 I c m X.A.in1 d' e' x' y' _ _ sd' se' _ a1 a2 a3 a4 a5 a6 a7 (by have:X.A.in1.units=X.A.units+1:=rfl;omega);simpa using this
            · have e1 : ((List.range (min its.toArray.size its2.toArray.size)).all (fun j => (bs[j]?).getD true) && its.toArray.size == its2.toArray.size) = bs.all id := by
                have el:its.toArray.size=its2.toArray.size:=by simpa using P.len
                rw [el,Nat.min_self,beq_self_eq_true,Bool.and_true];exact ug6 (by rw [<- el];simpa using P.bl) fun i b hb=>by rw [hb];rfl
              rw [e1];exact fin
          · cases hb
  · obtain ⟨a,rfl⟩:=u59 h1
    obtain ⟨a',rfl⟩:=u59 h2
    · · · obtain ⟨_,ds,ss',em,ez,hs1,k1⟩ := snap_ref h1
          cases em;cases ez;obtain ⟨m',es,ts',em,es',hs2,k2⟩:=snap_ref h2;cases em;cases es';cases r1.ref_inv;cases r2.ref_inv;cases rx;cases ry;obtain ⟨xs,q1,rr1⟩:=u19 c hs1;obtain ⟨ys,q2,rr2⟩:=u19 c hs2;obtain ⟨its,w1,t1,_⟩:=I.list q1;obtain ⟨its2,w2,t2,_⟩:=I.list q2;unfold eqN at hb;split at hb
          · rename_i hlen
            obtain ⟨bs,kb,rfl⟩:=Option.map_eq_some_iff.mp hb;have P:=ua3 rr1 w1 rr2 w2 k1 k2 hlen kb;have el:its.toArray.size=its2.toArray.size:=by simpa using P.len
            refine SeqAt.eq_listAt (e:=fun j=>(bs[j]?).getD true) t1.isList t2.isList el (by omega) ?_ ?_
            · intro j h1 h2
              have h1':j < its.length:=by simpa using h1
              have h2':j < its2.length:=by simpa using h2
              have h3':j < bs.length:=by rw [P.bl];exact h1'
              obtain ⟨d',e',x',y',sd',se',a1,a2,a3,a4,a5,a6,a7⟩:=P.at_ j h1' h2' h3'
              rw [List.getElem?_eq_getElem h3'];have:=vh4 I c m X.A.in1 d' e' x' y' _ _ sd' se' _ a1 a2 a3 a4 a5 a6 a7 (by have:X.A.in1.units=X.A.units+1:=rfl;omega);simpa using this
            · have e1 : ((List.range its.toArray.size).all (fun j => (bs[j]?).getD true)) = bs.all id :=
                ug6 (by simpa using P.bl) fun i b hb=>by rw [hb];rfl
              rw [e1];exact fin
          · rename_i hlen
            cases hb;have n1:=(u28 k1).1;have n2:=(u28 k2).1;have m1:=rr1.length;have m2:=rr2.length;have m3:=w1.length;have m4:=w2.length;exact SeqAt.eq_list_lengthsAt t1.isList t2.isList (by simp;omega) (by omega) fin
theorem w86 (hr:Room k X.A):OpR X (compareOp .NotEq) (rEqD X.K true):=by
  intro pins s σ H x y v u Q I rx ry h;obtain ⟨d,e,G,n,sd,se,b,r1,r2,c,hn,h1,h2,hb,fl,q⟩:=h;have hu:=hr.units;have fin:EP X pins σ Q (.bool (!b)) s:=⟨.bl (!b),H,I,rfl,q⟩
  rcases u83 hb (fun z=>by rw [fl] at z;cases z) with ⟨m,ss,ts,rfl,rfl,rfl⟩ | ⟨m,ss,ts,rfl,rfl,rfl⟩
  · obtain ⟨ds,rfl⟩:=u58 h1
    obtain ⟨es,rfl⟩:=u58 h2
    · · · obtain ⟨_,ss',em,ez,k1⟩ := snap_tup h1
          cases em;cases ez;obtain ⟨m',ts',em,es',k2⟩:=snap_tup h2;cases em;cases es';obtain ⟨a,xs,rfl,q1,rr1⟩:=r1.tup_inv;obtain ⟨a',ys,rfl,q2,rr2⟩:=r2.tup_inv;cases rx;cases ry;unfold eqN at hb;split at hb
          · rename_i hlen
            obtain ⟨bs,kb,rfl⟩:=Option.map_eq_some_iff.mp hb;obtain ⟨its,w1,t1,_⟩:=I.tuple q1;obtain ⟨its2,w2,t2,_⟩:=I.tuple q2;have P:=ua3 rr1 w1 rr2 w2 k1 k2 hlen kb;refine SeqAt.RcNeAt.tuples (e:=fun j=>(bs[j]?).getD true) (show s.heap.IsTuple a its.toArray from t1) (show s.heap.IsTuple a' its2.toArray from t2) (by omega) ?_ X.prog X.w X.xe _ ?_
            · intro j h1 h2
              have h1':j < its.length:=by simpa using h1
              have h2':j < its2.length:=by simpa using h2
              have h3':j < bs.length:=by rw [P.bl];exact h1'
              obtain ⟨d',e',x',y',sd',se',a1,a2,a3,a4,a5,a6,a7⟩:=P.at_ j h1' h2' h3'
              rw [List.getElem?_eq_getElem h3'];have:=vh4 I c m X.A.in1 d' e' x' y' _ _ sd' se' _ a1 a2 a3 a4 a5 a6 a7 (by have:X.A.in1.units=X.A.units+1:=rfl;omega);simpa using this
            · have e1 : ((List.range (min its.toArray.size its2.toArray.size)).all (fun j => (bs[j]?).getD true) && its.toArray.size == its2.toArray.size) = bs.all id := by
                have el:its.toArray.size=its2.toArray.size:=by simpa using P.len
                rw [el,Nat.min_self,beq_self_eq_true,Bool.and_true];exact ug6 (by rw [<- el];simpa using P.bl) fun i b hb=>by rw [hb];rfl
              rw [e1];exact fin
          · cases hb
  · obtain ⟨a,rfl⟩:=u59 h1
    obtain ⟨a',rfl⟩:=u59 h2
    · · · obtain ⟨_,ds,ss',em,ez,hs1,k1⟩ := snap_ref h1
          cases em;cases ez;obtain ⟨m',es,ts',em,es',hs2,k2⟩:=snap_ref h2;cases em;cases es';cases r1.ref_inv;cases r2.ref_inv;cases rx;cases ry;obtain ⟨xs,q1,rr1⟩:=u19 c hs1;obtain ⟨ys,q2,rr2⟩:=u19 c hs2;obtain ⟨its,w1,t1,_⟩:=I.list q1;obtain ⟨its2,w2,t2,_⟩:=I.list q2;unfold eqN at hb;split at hb
          · rename_i hlen
            obtain ⟨bs,kb,rfl⟩:=Option.map_eq_some_iff.mp hb;have P:=ua3 rr1 w1 rr2 w2 k1 k2 hlen kb;have el:its.toArray.size=its2.toArray.size:=by simpa using P.len
            refine SeqAt.RcNeAt.lists (e:=fun j=>(bs[j]?).getD true) t1.isList t2.isList el (by omega) ?_ X.prog X.w X.xe _ ?_
            · intro j h1 h2
              have h1':j < its.length:=by simpa using h1
              have h2':j < its2.length:=by simpa using h2
              have h3':j < bs.length:=by rw [P.bl];exact h1'
              obtain ⟨d',e',x',y',sd',se',a1,a2,a3,a4,a5,a6,a7⟩:=P.at_ j h1' h2' h3'
              rw [List.getElem?_eq_getElem h3'];have:=vh4 I c m X.A.in1 d' e' x' y' _ _ sd' se' _ a1 a2 a3 a4 a5 a6 a7 (by have:X.A.in1.units=X.A.units+1:=rfl;omega);simpa using this
            · have e1 : ((List.range its.toArray.size).all (fun j => (bs[j]?).getD true)) = bs.all id :=
                ug6 (by simpa using P.bl) fun i b hb=>by rw [hb];rfl
              rw [e1];exact fin
          · rename_i hlen
            cases hb;have n1:=(u28 k1).1;have n2:=(u28 k2).1;have m1:=rr1.length;have m2:=rr2.length;have m3:=w1.length;have m4:=w2.length;exact SeqAt.RcNeAt.lists_lengths t1.isList t2.isList (by simp;omega) (by omega) X.prog X.w X.xe _ fin
end
structure FnAt (K:W.Frag) (x qual:Str) (st:Stmt) (ps:List Str) where
 a:Addr
 fd:FuncData
 ex:∃ (oc:Value) (od:Option Addr) (dV kV doc pm:Value) (an:Option Addr) (cdv ct:Value) (osl:Array (Option Value)),
  fd=W.fnOf x qual (u36 st) (u31 st) (u05 st) dV kV doc pm an cdv ct /\ K.lookup a=some ⟨oc,od,.func fd,osl⟩ /\ W.codeIn K cdv qual=true
 kp:W.keepIn K (.ref a)=true
 b:Binds K fd ps []
abbrev Ok (P:Program) (w:World) {K:W.Frag} (mg:Str->Option Value) (base:Heap) (n:Nat) {x qual:Str} {st:Stmt} {ps:List Str} (d:FnAt K x qual st ps) (S:Sp3):Prop:=FnOk P w K mg base CX0 n d.a d.fd ps (ue8 K S)
def uc7 (N:List Str) (ds:List D):DSt:=ds.map some++List.replicate (N.length - ds.length) none
theorem uf5 {K:W.Frag} {H:Hp} {N:List Str} {ds:List D} {vs:List V} (r:RelDs K H ds vs):RelSt K H (uc7 N ds) (L2.start N vs):=by
 unfold uc7 L2.start;refine ⟨by simp [r.length],fun i d e=>?_⟩
 by_cases hi:i < ds.length
 ·rw [List.getElem?_append_left (by simpa using hi),List.getElem?_map] at e
  rw [List.getElem?_append_left (by simpa [<- r.length] using hi),List.getElem?_map];cases h:ds[i]? with
  | none=>rw [h] at e;cases e
  | some d' =>
   rw [h] at e;cases e;obtain ⟨v,hv,rv⟩:=r.get h;exact ⟨v,by rw [hv];rfl,rv⟩
 ·rw [List.getElem?_append_right (by simpa using hi),List.getElem?_replicate] at e
  split at e <;> cases e
section
variable {P:Program} {w:World} {K:W.Frag} {mg:Str->Option Value} {base:Heap}
theorem u25 {x qual:Str} {st:Stmt} {ps N:List Str} {k:Nat} (d:FnAt K x qual st ps) {S:Sp3} (sc:FnScope N ps (u05 st)) (hl:∀ ds G R,S ds G R->ds.length=ps.length) {t:TS3}
  (ht:∀ (cdv:Value) (A:Around) (outer:List Env) (s:Shared) (H:Hp) (E:XK),Room k (A.deeper (envOfC qual (u05 st) s.heap.objs.size d.a cdv))->Ss3 (cxOf CX0 P w K mg base N qual (u05 st) d.a cdv A outer s H E).nox (u31 st) t)
  (hb:∀ ds G R,S ds G R->t { nx:=fun _ G'=>R .non G',rt:=R } (uc7 N ds) G):Ok P w mg base (k+1) d S:=by
 obtain ⟨oc,od,dV,kV,doc,pm,an,cdv,ct,osl,e,lk,hcd⟩:=d.ex;have lk':K.lookup d.a=some ⟨oc,od,.func (W.fnOf x qual (u36 st) (u31 st) (u05 st) dV kV doc pm an cdv ct),osl⟩:=e ▸ lk;have F:FnOk P w K mg base CX0 (k+1) d.a (W.fnOf x qual (u36 st) (u31 st) (u05 st) dV kV doc pm an cdv ct) ps (ue8 K S):=by
  refine vy8 lk' hcd sc (fun vs H Q E h=>?_) fun A outer s H vs Q E hr h=>?_
  ·obtain ⟨ds,G,R,r,_,hS,_⟩:=h
   rw [<- r.length];exact hl ds G R hS
  ·obtain ⟨ds,G,R,r,c,hS,f⟩:=h
   refine ⟨_,(show PSs _ _ _ from ht cdv A outer s H E hr).nox,uc7 N ds,G,_,uf5 r,c,hb ds G R hS,fun σd' G' σ' H' _ c' l' q=>?_,f,fun _ _ _ _ _ _ _ q=>q.elim,fun _ _ _ _ _ _ _ q=>q.elim⟩;exact f .non G' .non H' RelD.nonI c' l' q
 have F2:=F;rw [<- e] at F2;exact F2
end
section
variable {X:Cx} {e o:Expr} {es:List Expr} {p pos apos:Pos} {ta:TE3} {ts:TA3} {k n:Nat} {S:Sp3} {x m qual:Str} {st:Stmt} {ps:List Str} {C:Addr}
theorem ec (d:FnAt X.K x qual st ps) (hm:X.mg x=some (.ref d.a)) (G:FnOk X.prog X.w X.K X.mg X.base CX0 k d.a d.fd ps (ue8 X.K S)) (hr:Room k X.A) (ha:A3 X (e::es) ts) (hg:Gl X x:=by rfl) (hdb:(x == ("__debug__" : Str))=false:=by decide)
  (he:starEach (e::es) X.env=(false,eval e X.env)::starEach es X.env:=by rfl) (hpl:(backTo pos (starEach es X.env)).any (·.1)=false:=by rfl):E3 X (.Call (.Name x p) (e::es) [] pos) (dCall S [] ts) :=
 wf9 G hr hg hm d.kp d.b .nil (fun _=>.nil) ha hdb he hpl
theorem em {pl:Sem Bool} (c:Cls X.K C) (d:FnAt X.K m qual st ps) (hm:Meth X.K C m d.a) (G:FnOk X.prog X.w X.K X.mg X.base CX0 k d.a d.fd ps (ue8 X.K S)) (hr:Room k X.A) (he:E3 X o ta) (ha:A3 X (e::es) ts)
  (hse:starEach (e::es) X.env=(false,eval e X.env)::starEach es X.env:=by rfl) (hpl:(backTo pos (starEach es X.env)).any (·.1)=false:=by rfl)
  (ht:eval (.Call (.Attribute o m apos) (e::es) [] pos) X.env=(do
   let ov <- eval o X.env
   standAt apos.atName
   let (f,first) <- holding [ov] (getMethod ov m pl)
   callWith pos f first (backTo pos (starEach (e::es) X.env)) (backToKw pos (keywordEach [] X.env))):=by rfl):E3 X (.Call (.Attribute o m apos) (e::es) [] pos) (vi1 C m S [] ta ts) :=
 wf6 he c hm G hr d.b .nil (fun _=>.nil) ha hse hpl ht
end
def spec (pre:List D->Gp->Prop) (post:List D->Gp->D->Gp->Prop):Sp3:=fun ds G R=>pre ds G /\ ∀ d G',post ds G d G'->R d G'
theorem uz2 {pre:List D->Gp->Prop} {post:List D->Gp->D->Gp->Prop} {ds:List D} {G:Gp} {q:DK} (h:pre ds G) (k:∀ d G',post ds G d G'->q d G'):∃ R,spec pre post ds G R /\ ∀ d G',R d G'->q d G' :=
 ⟨post ds G,⟨h,fun _ _ z=>z⟩,k⟩
def wg8 (osc:Scope) (N N':List Str) (ix:List (Option Nat)) (scope:Scope):Bool :=
 (scope.kind == .function) && scope.names.all (fun y=>y.2 != .cell) && scope.names.all (fun y=>y.2 != .local || scope.names.lookup y.1 == some .local) &&
 scope.names.all (fun y=>y.2 != .free || osc.names.lookup y.1 == some .cell || osc.names.lookup y.1 == some .free) && (ix.length == N'.length) &&
 (N'.zip ix).all (fun p=>match p.2 with | none=>true | some j=>N[j]? == some p.1 && scope.names.lookup p.1 == some .free)
theorem blk {X:Cx} {osc:Scope} {N N':List Str} {ix:List (Option Nat)} {scope:Scope} (h1:X.env.scope=osc) (h2:X.N=N) (h:wg8 osc N N' ix scope=true):BlkOk X N' ix scope:=by
 unfold wg8 at h;simp only [Bool.and_eq_true] at h;obtain ⟨⟨⟨⟨⟨a1,a2⟩,a3⟩,a4⟩,a5⟩,a6⟩:=h;rw [List.all_eq_true] at a2 a3 a4 a6;refine ⟨eq_of_beq a1,fun y hy=>by simpa using a2 y hy,fun y hy e=>?_,fun y hy e=>?_,eq_of_beq a5,fun i j x e1 e2=>?_⟩
 ·have:=a3 y hy
  simp only [e,bne_self_eq_false,Bool.false_or] at this;exact eq_of_beq this
 ·have:=a4 y hy
  simp only [e,bne_self_eq_false,Bool.false_or,Bool.or_eq_true,beq_iff_eq] at this;unfold Env.kindOf;rw [h1];exact this
 ·have hz:(N'.zip ix)[i]?=some (x,some j):=by rw [List.getElem?_zip_eq_some];exact ⟨e1,e2⟩
  have:=a6 _ (List.mem_of_getElem? hz);simp only [Bool.and_eq_true,beq_iff_eq] at this;rw [h2];exact this
section
variable {X:Cx} {K:W.Frag} {H:Hp}
def uq4:RS3:=fun x lo hi G q=>match x with
 | .ref a=>(match u16 (G a) with | some ds=>∀ p,G p=none->q (.ref p) (gup G p (.lst (cutD ds lo hi))) | none=>False)
 | .tup ds=>¬ (HT.sIx ds.length 0 lo=0 /\ HT.sIx ds.length ds.length hi=ds.length) /\ q (.tup (cutD ds lo hi)) G
 | _=>False
theorem x_sl:SlR X (v41 X.K uq4):=uy3 (sl_list.or vk5) <| by
 rintro x lo hi H Q ⟨d,G,q,r1,c,t,f⟩;unfold uq4 at t;split at t
 ·rename_i a
  split at t
  ·rename_i ds e
   obtain ⟨xs,s1,q1⟩:=u19 c e;exact .inl ⟨a,xs,r1.ref_inv,s1,fun p hp=>f _ _ _ _ RelD.refI (c.lstNew hp (q1.cut lo hi)) (Le.fresh hp) (t p (c.fresh hp))⟩
  ·exact t.elim
 ·rename_i ds
  obtain ⟨a,xs,rfl,s1,q1⟩:=r1.tup_inv;refine .inr ⟨a,xs,rfl,s1,by rw [<- q1.length];exact t.1,fun p hp=>?_⟩;refine f (.tup _) G (.ref p) _ ?_ (c.side hp) (Le.fresh hp) t.2;rw [RelD];exact ⟨p,_,rfl,SqT.of u20,RelDs.le (Le.fresh hp) (q1.cut lo hi)⟩
 ·exact t.elim
def xLen:C3:=fun ds G q=>match ds with
 | [.str z]=>z.length<=sizeLine /\ q (.int z.length) G
 | [.tup xs]=>q (.int xs.length) G
 | [.ref a]=>(match u16 (G a) with | some xs=>q (.int xs.length) G | none=>False)
 | _=>False
theorem RelDs.one {d:D} {vs:List V} (h:RelDs K H [d] vs):∃ v,vs=[v] /\ RelD K H d v:=by
 obtain ⟨x,r,rfl,h1,h2⟩:=h.inv_cons;rw [h2.inv_nil];exact ⟨x,rfl,h1⟩
theorem RelDs.two {d e:D} {vs:List V} (h:RelDs K H [d,e] vs):∃ v u,vs=[v,u] /\ RelD K H d v /\ RelD K H e u:=by
 obtain ⟨x,r,rfl,h1,h2⟩:=h.inv_cons;obtain ⟨y,rfl,h3⟩:=h2.one;exact ⟨x,y,rfl,h1,h3⟩
theorem u42:Call3 X (.builtin "len") xLen:=u46 (call_len_seq.or um0) <| by
 rintro xs H Q ⟨ds,G,q,r,c,t,f⟩;unfold xLen at t;split at t
 ·obtain ⟨v,rfl,r1⟩:=r.one
  cases r1.str_inv;exact .inr ⟨_,rfl,t.1,f _ _ _ _ RelD.intI c (Le.refl H) t.2⟩
 ·obtain ⟨v,rfl,r1⟩:=r.one
  obtain ⟨a,ys,rfl,s1,q1⟩:=r1.tup_inv;refine .inl ⟨a,ys,rfl,.inr s1,?_⟩;rw [<- q1.length];exact f _ _ _ _ RelD.intI c (Le.refl H) t
 ·obtain ⟨v,rfl,r1⟩:=r.one
  cases r1.ref_inv;split at t
  ·rename_i ds e
   obtain ⟨ys,s1,q1⟩:=u19 c e;refine .inl ⟨_,ys,rfl,.inl s1,?_⟩;rw [<- q1.length];exact f _ _ _ _ RelD.intI c (Le.refl H) t
  ·exact t.elim
 ·exact t.elim
def xAbs:C3:=fun ds G q=>match ds with | [.int i]=>q (.int (if i < 0 then -i else i)) G | _=>False
theorem wh6:Call3 X (.builtin "abs") xAbs:=u46 vi6 <| by
 rintro xs H Q ⟨ds,G,q,r,c,t,f⟩;unfold xAbs at t;split at t
 ·obtain ⟨v,rfl,r1⟩:=r.one
  cases r1.int_inv;exact ⟨_,rfl,f _ _ _ _ RelD.intI c (Le.refl H) t⟩
 ·exact t.elim
def un1:C3:=fun ds G q=>match ds with | [.int i,.int j]=>CDiv i j /\ q (.tup [.int (i / j),.int (i % j)]) G | _=>False
theorem va4:Call3 X (.builtin "divmod") un1:=u46 up6 <| by
 rintro xs H Q ⟨ds,G,q,r,c,t,f⟩;unfold un1 at t;split at t
 ·obtain ⟨v,u,rfl,r1,r2⟩:=r.two
  cases r1.int_inv;cases r2.int_inv;refine ⟨_,_,rfl,t.1,fun p hp=>f (.tup _) G (.ref p) _ ?_ (c.side hp) (Le.fresh hp) t.2⟩;rw [RelD];exact ⟨p,_,rfl,SqT.of u20,.cons RelD.intI (.cons RelD.intI .nil)⟩
 ·exact t.elim
def wh9:C3:=fun ds G q=>match ds with | [.int i,.int j]=>q (.int (if j > i then j else i)) G | _=>False
def wh8:C3:=fun ds G q=>match ds with | [.int i,.int j]=>q (.int (if j < i then j else i)) G | _=>False
def uq3:C3:=fun ds G q=>match ds with | [.int i]=>q (.int i) G | [.bl b]=>q (.int (if b then 1 else 0)) G | _=>False
theorem ux9:Call3 X (.type "int") uq3:=u46 v89 <| by
 rintro xs H Q ⟨ds,G,q,r,c,t,f⟩;unfold uq3 at t;split at t
 ·obtain ⟨v,rfl,r1⟩:=r.one
  cases r1.int_inv;exact .inl ⟨_,rfl,f _ _ _ _ RelD.intI c (Le.refl H) t⟩
 ·obtain ⟨v,rfl,r1⟩:=r.one
  cases r1.bl_inv;exact .inr ⟨_,rfl,f _ _ _ _ RelD.intI c (Le.refl H) t⟩
 ·exact t.elim
def ug7:C3:=fun ds G q=>match ds with
 | [.tup xs]=>∀ p,G p=none->q (.ref p) (gup G p (.lst xs))
 | [.ref a]=>(match u16 (G a) with | some xs=>∀ p,G p=none->q (.ref p) (gup G p (.lst xs)) | none=>False)
 | _=>False
theorem va1:Call3 X (.type "list") ug7:=u46 ul9 <| by
 rintro xs H Q ⟨ds,G,q,r,c,t,f⟩;unfold ug7 at t;split at t
 ·obtain ⟨v,rfl,r1⟩:=r.one
  obtain ⟨a,ys,rfl,s1,q1⟩:=r1.tup_inv;exact ⟨a,ys,rfl,.inr s1,fun p hp=>f _ _ _ _ RelD.refI (c.lstNew hp q1) (Le.fresh hp) (t p (c.fresh hp))⟩
 ·obtain ⟨v,rfl,r1⟩:=r.one
  cases r1.ref_inv;split at t
  ·rename_i ds e
   obtain ⟨ys,s1,q1⟩:=u19 c e;exact ⟨_,ys,rfl,.inl s1,fun p hp=>f _ _ _ _ RelD.refI (c.lstNew hp q1) (Le.fresh hp) (t p (c.fresh hp))⟩
  ·exact t.elim
 ·exact t.elim
def ub7:C3:=fun ds G q=>match ds with
 | [.tup xs]=>q (.tup xs) G
 | [.ref a]=>(match u16 (G a) with | some xs=>q (.tup xs) G | none=>False)
 | _=>False
theorem uc3:Call3 X (.type "tuple") ub7:=u46 ui8 <| by
 rintro xs H Q ⟨ds,G,q,r,c,t,f⟩;unfold ub7 at t;split at t
 ·obtain ⟨v,rfl,r1⟩:=r.one
  obtain ⟨a,ys,rfl,s1,q1⟩:=r1.tup_inv;exact ⟨a,ys,rfl,.inr ⟨s1,f _ _ _ _ r1 c (Le.refl H) t⟩⟩
 ·obtain ⟨v,rfl,r1⟩:=r.one
  cases r1.ref_inv;split at t
  ·rename_i ds e
   obtain ⟨ys,s1,q1⟩:=u19 c e;refine ⟨_,ys,rfl,.inl ⟨s1,fun p hp=>f (.tup _) G (.ref p) _ ?_ (c.side hp) (Le.fresh hp) t⟩⟩;rw [RelD];exact ⟨p,_,rfl,SqT.of u20,RelDs.le (Le.fresh hp) q1⟩
  ·exact t.elim
 ·exact t.elim
def up9:List D->Option (List Bool)
 | []=>some []
 | .bl b::r=>(up9 r).map (b::·)
 | _=>none
theorem um5:∀ {ds:List D} {bs:List Bool} {vs:List V},up9 ds=some bs->RelDs K H ds vs->vs=bs.map V.bl
 | [],bs,vs,e,r=>by cases e;rw [r.inv_nil];rfl
 | .bl b::ds,bs,vs,e,r=>by
  obtain ⟨x,xs,rfl,h1,h2⟩:=r.inv_cons;obtain ⟨bs',e',rfl⟩:=Option.map_eq_some_iff.mp (show (up9 ds).map (b::·)=some bs from e);rw [h1.bl_inv,um5 e' h2];rfl
 | .non::_,_,_,e,_=>by cases e
 | .int _::_,_,_,e,_=>by cases e
 | .str _::_,_,_,e,_=>by cases e
 | .tup _::_,_,_,e,_=>by cases e
 | .ref _::_,_,_,e,_=>by cases e
 | .ty _::_,_,_,e,_=>by cases e
def xAll:C3:=fun ds G q=>match ds with
 | [.ref a]=>(match u16 (G a) with | some xs=>(match up9 xs with | some bs=>q (.bl (bs.all id)) G | none=>False) | none=>False)
 | _=>False
theorem va5 (hc:X.calm=true:=by rfl):Call3 X (.builtin "all") xAll:=u46 (vi5 hc) <| by
 rintro xs H Q ⟨ds,G,q,r,c,t,f⟩;unfold xAll at t;split at t
 ·obtain ⟨v,rfl,r1⟩:=r.one
  cases r1.ref_inv;split at t
  ·rename_i ds e
   obtain ⟨ys,s1,q1⟩:=u19 c e;split at t
   ·rename_i bs eb
    have:=um5 eb q1;subst this;exact ⟨_,bs,rfl,s1,f _ _ _ _ RelD.blI c (Le.refl H) t⟩
   ·exact t.elim
  ·exact t.elim
 ·exact t.elim
def vg5 (G:Gp):D->Option String
 | .non=>some "NoneType"
 | .bl _=>some "bool"
 | .int _=>some "int"
 | .str _=>some "str"
 | .ref a=>match G a with | some (.lst _)=>some "list" | some (.fro _)=>some "list" | some (.dic _)=>some "dict" | _=>none
 | _=>none
def un0:C3:=fun ds G q=>match ds with
 | [x,.ty T]=>(T = "int" \/ T = "str" \/ T = "bool" \/ T = "list" \/ T = "tuple" \/ T = "dict") /\ (match vg5 G x with | some n=>q (.bl (subK n T)) G | none=>False)
 | _=>False
theorem va2:Call3 X (.builtin "isinstance") un0:=u46 up5 <| by
 rintro xs H Q ⟨ds,G,q,r,c,t,f⟩;unfold un0 at t;split at t
 ·rename_i d T
  obtain ⟨v,u,rfl,r1,r2⟩:=r.two;rw [RelD] at r2;subst r2;obtain ⟨hT,t⟩:=t;split at t
  ·rename_i n en
   refine ⟨v,n,T,rfl,?_,hT,f _ _ _ _ RelD.blI c (Le.refl H) t⟩;unfold vg5 at en;split at en
   ·cases r1.non_inv;cases en;rfl
   ·cases r1.bl_inv;cases en;rfl
   ·cases r1.int_inv;cases en;rfl
   ·cases r1.str_inv;cases en;rfl
   ·rename_i a
    cases r1.ref_inv;split at en
    ·rename_i xs ea;cases en;obtain ⟨ys,h1,_⟩:=c _ _ ea;exact .inl ⟨rfl,.inl ⟨ys,h1⟩⟩
    ·rename_i xs ea;cases en;obtain ⟨o,ys,h1,_⟩:=c _ _ ea;exact .inl ⟨rfl,.inr ⟨o,ys,h1⟩⟩
    ·rename_i xs ea;cases en;obtain ⟨ys,h1,_⟩:=c _ _ ea;exact .inr (.inr ⟨rfl,ys,h1⟩)
    ·cases en
   ·cases en
  ·exact t.elim
 ·exact t.elim
theorem vn9 {x:Str} {T:String} {pos:Pos} (hm:X.mg x=none) (hv:bootBuiltins x=some (.type T)) (hg:Gl X x:=by rfl) (hn:x ≠ "__name__" := by decide) (hd:(x == ("__debug__" : Str))=false:=by decide):E3 X (.Name x pos) (dC (.ty T)) :=
 u34 (vv2 (v:=.ty T) hg hm hv rfl hn hd) fun _ _ _=>uo6 fun _=>by rw [RelD]
def xIs2:R3:=fun x y G q=>match y with
 | .non=>(match x with | .non=>q (.bl true) G | _=>q (.bl false) G)
 | .bl b=>(match x with | .bl c=>q (.bl (decide (c=b))) G | _=>q (.bl false) G)
 | _=>False
def ug8:R3:=fun x y G q=>match y with
 | .non=>(match x with | .non=>q (.bl false) G | _=>q (.bl true) G)
 | .bl b=>(match x with | .bl c=>q (.bl (!decide (c=b))) G | _=>q (.bl true) G)
 | _=>False
theorem RelD.not_bl {d:D} {v:V} (h:RelD K H d v) (b:Bool) (n:∀ c,d ≠ .bl c):v ≠ .bl b:=by
 cases d with
 | bl c=>exact absurd rfl (n c)
 | non=>rw [h.non_inv];exact fun z=>nomatch z
 | int _=>rw [h.int_inv];exact fun z=>nomatch z
 | str _=>rw [h.str_inv];exact fun z=>nomatch z
 | ref _=>rw [h.ref_inv];exact fun z=>nomatch z
 | ty _=>rw [RelD] at h;rw [h];exact fun z=>nomatch z
 | tup _=>obtain ⟨a,xs,e,_⟩:=h.tup_inv;rw [e];exact fun z=>nomatch z
theorem uc0 {c b:Bool}:decide (V.bl c=V.bl b)=decide (c=b):=by cases c <;> cases b <;> rfl
theorem uc4:Op3 X (compareOp .Is) xIs2:=u47 (op_isN.or w88) <| by
 rintro x y H Q ⟨d,e,G,q,r1,r2,c,t,f⟩;unfold xIs2 at t;split at t
 ·refine .inl ⟨r2.non_inv,?_⟩
  split at t
  ·rw [r1.non_inv]
   exact f _ _ _ _ RelD.blI c (Le.refl H) t
  ·rename_i hd
   rw [decide_eq_false (r1.not_non fun z=>hd z)];exact f _ _ _ _ RelD.blI c (Le.refl H) t
 ·rename_i b
  refine .inr ⟨b,r2.bl_inv,?_⟩;split at t
  ·rw [r1.bl_inv,uc0]
   exact f _ _ _ _ RelD.blI c (Le.refl H) t
  ·rename_i hd
   rw [decide_eq_false (r1.not_bl b fun z hz=>hd z hz)];exact f _ _ _ _ RelD.blI c (Le.refl H) t
 ·exact t.elim
theorem va3:Op3 X (compareOp .IsNot) ug8:=u47 (op_notN.or v21) <| by
 rintro x y H Q ⟨d,e,G,q,r1,r2,c,t,f⟩;unfold ug8 at t;split at t
 ·refine .inl ⟨r2.non_inv,?_⟩
  split at t
  ·rw [r1.non_inv]
   exact f _ _ _ _ RelD.blI c (Le.refl H) t
  ·rename_i hd
   rw [decide_eq_false (r1.not_non fun z=>hd z)];exact f _ _ _ _ RelD.blI c (Le.refl H) t
 ·rename_i b
  refine .inr ⟨b,r2.bl_inv,?_⟩;split at t
  ·rw [r1.bl_inv,uc0]
   exact f _ _ _ _ RelD.blI c (Le.refl H) t
  ·rename_i hd
   rw [decide_eq_false (r1.not_bl b fun z hz=>hd z hz)];exact f _ _ _ _ RelD.blI c (Le.refl H) t
 ·exact t.elim
end
def jSeq (n:Nat) (t:TGs3):TG3:=fun d σ G q=>match d with
 | .tup ds=>ds.length=n /\ t ds σ G q
 | .ref a=>(match u16 (G a) with | some ds=>ds.length=n /\ t ds σ G q | none=>False)
 | _=>False
def wAny (te:TE3):TI3:=fun σ G r=>te σ G fun x G1=>match x with
 | .ref a=>(match u16 (G1 a) with | some ds=>r ⟨ds,fun G=>u16 (G a)=some ds⟩ G1 | none=>False)
 | .tup ds=>r ⟨ds,fun _=>True⟩ G1
 | _=>False
section
variable {X:Cx} {es:List Expr} {e tg:Expr} {te:TE3} {pos:Pos}
theorem v47 {k n:Nat} {t:TGs3} (hc:X.calm=true) (h:Js3 X es t) (hn:(assignEach es X.env).length=n:=by rfl) (hst:(assignEach es X.env).findIdx? (·.1)=none:=by rfl):J3 X (.Tuple es k pos) (jSeq n t) :=
 vp6 (wj0 (w70 hc h hn hst) (vu2 hc h hn hst)) fun v σ H Q hh=>by
  obtain ⟨d,σd,G,q,r,rs,c,t,f⟩:=hh;unfold jSeq at t;split at t
  ·rename_i ds
   obtain ⟨a,xs,rfl,s,r2⟩:=r.tup_inv;exact .inl ⟨a,xs,rfl,s,by rw [<- r2.length];exact t.1,ds,σd,G,q,r2,rs,c,t.2,f⟩
  ·rename_i a
   split at t
   ·rename_i ds e
    obtain ⟨xs,s,r'⟩:=u19 c e;exact .inr ⟨a,xs,r.ref_inv,s,by rw [<- r'.length];exact t.1,ds,σd,G,q,r',rs,c,t.2,f⟩
   ·exact t.elim
  ·exact t.elim
theorem ue9 (h:E3 X e te):I3 X tg e (wAny te):=un2 (w69 h) fun σ H R hh=>by
 obtain ⟨σd,G,q,rs,c,t,f⟩:=hh;refine ⟨σd,G,_,rs,c,t,fun x G1 v H1 r1 c1 l1 t1=>?_⟩;split at t1
 ·rename_i a
  split at t1
  ·rename_i ds e
   obtain ⟨xs,s,_⟩:=u19 c1 e;exact ⟨a,r1.ref_inv,.inl ⟨⟨xs,s⟩,f _ _ _ _ uw6 c1 l1 t1⟩⟩
  ·exact t1.elim
 ·rename_i ds
  obtain ⟨a,xs,rfl,s,r⟩:=r1.tup_inv;exact ⟨a,rfl,.inr ⟨⟨xs,s⟩,f _ _ _ _ (v50 s r) c1 l1 t1⟩⟩
 ·exact t1.elim
end
section
variable {X:Cx} {e o:Expr} {es:List Expr} {to:TE3} {ts:TA3} {apos cpos:Pos}
theorem ty_list (K:W.Frag):∀ G H x v,Con K G H->RelD K H x v->tyD G "list" x->tyV K "list" v H:=by
 intro G H x v c r t;cases x with
 | ref a =>
  cases r.ref_inv;cases e:G a with
  | none=>simp [tyD,e] at t
  | some o =>
   cases o with
   | lst ds=>obtain ⟨xs,s,_⟩:=u19 (ds:=ds) c (by rw [e];rfl);exact .inl ⟨rfl,xs,s⟩
   | fro ds=>obtain ⟨xs,s,_⟩:=u19 (ds:=ds) c (by rw [e];rfl);exact .inl ⟨rfl,xs,s⟩
   | dic _=>simp [tyD,e] at t
   | dit _=>simp [tyD,e] at t
   | ins _ _=>simp [tyD,e] at t
   | exc _ _=>simp [tyD,e] at t
   | frd _=>simp [tyD,e] at t
 | str _=>simp [tyD] at t
 | int _=>simp [tyD] at t
 | _=>exact t.elim
def ui1:M3:=fun x ds G q=>match x,ds with
 | .ref a,[d]=>(match G a with | some (.lst xs)=>xs.length < sizeLine /\ q .non (gup G a (.lst (xs++[d]))) | _=>False)
 | _,_=>False
theorem u97 (ho:E3 X o to) (ha:A3 X (e::es) ts) (hbase:attributeBase o "append" X.env (eval o X.env)=eval o X.env:=by rfl)
  (hfew:((backTo cpos (starEach (e::es) X.env)).all (fun x=>!x.1) && (backToKw cpos (keywordEach [] X.env)).all (fun x=>x.1.isSome)
   && decide ((e::es).length+([]:List Keyword).length+(if ([]:List Keyword).isEmpty then 0 else 1) < 30))=true:=by rfl)
  (hline:(apos.endLine == cpos.line)=true:=by rfl) (hs:starEach (e::es) X.env=(false,eval e X.env)::starEach es X.env:=by rfl) (hplain:(backTo cpos (starEach es X.env)).any (·.1)=false:=by rfl) :
  E3 X (.Call (.Attribute o "append" apos) (e::es) [] cpos) (dBM "list" ui1 to ts) :=
 u34 (v17 PySem.F.plainAttrs_list PySem.F.slot_list_append PySem.F.type_list_append (uf3 (r':=lowM X.K ui1) ul0 <| by
  rintro x xs H Q ⟨d,ds,G,q,r1,r2,c,t,f⟩;unfold ui1 at t;split at t
  ·rename_i a d'
   split at t
   ·rename_i ys ea
    cases r1.ref_inv;obtain ⟨v,rfl,rv⟩:=r2.one;obtain ⟨zs,h1,q1⟩:=c _ _ ea;exact ⟨a,zs,v,rfl,rfl,h1,by rw [<- q1.length];exact t.1,f _ _ _ _ RelD.nonI (c.lstSet h1 (q1.append (.cons rv .nil))) (Le.lst h1) t.2⟩
   ·exact t.elim
  ·exact t.elim) ho ha hbase hfew hline hs hplain) fun _ _ _=>ul2 (ty_list X.K)
def ui0:M3:=fun x ds G q=>match x,ds with
 | .ref a,[.ref b]=>(match G a,G b with | some (.lst xs),some (.lst ys)=>xs.length+ys.length<=sizeLine /\ q .non (gup G a (.lst (xs++ys))) | _,_=>False)
 | _,_=>False
theorem ut1 (ho:E3 X o to) (ha:A3 X (e::es) ts) (hbase:attributeBase o "extend" X.env (eval o X.env)=eval o X.env:=by rfl)
  (hfew:((backTo cpos (starEach (e::es) X.env)).all (fun x=>!x.1) && (backToKw cpos (keywordEach [] X.env)).all (fun x=>x.1.isSome)
   && decide ((e::es).length+([]:List Keyword).length+(if ([]:List Keyword).isEmpty then 0 else 1) < 30))=true:=by rfl)
  (hline:(apos.endLine == cpos.line)=true:=by rfl) (hs:starEach (e::es) X.env=(false,eval e X.env)::starEach es X.env:=by rfl) (hplain:(backTo cpos (starEach es X.env)).any (·.1)=false:=by rfl) :
  E3 X (.Call (.Attribute o "extend" apos) (e::es) [] cpos) (dBM "list" ui0 to ts) :=
 u34 (v17 PySem.F.plainAttrs_list PySem.F.slot_list_extend PySem.F.type_list_extend (uf3 (r':=lowM X.K ui0) v28 <| by
  rintro x xs H Q ⟨d,ds,G,q,r1,r2,c,t,f⟩;unfold ui0 at t;split at t
  ·rename_i a b
   split at t
   ·rename_i ys zs ea eb
    cases r1.ref_inv;obtain ⟨v,rfl,rv⟩:=r2.one;cases rv.ref_inv;obtain ⟨us,h1,q1⟩:=c _ _ ea;obtain ⟨ws,h2,q2⟩:=c _ _ eb;exact ⟨a,b,us,ws,rfl,rfl,h1,h2,by rw [<- q1.length,<- q2.length];exact t.1,f _ _ _ _ RelD.nonI (c.lstSet h1 (q1.append q2)) (Le.lst h1) t.2⟩
   ·exact t.elim
  ·exact t.elim) ho ha hbase hfew hline hs hplain) fun _ _ _=>ul2 (ty_list X.K)
def wl5:M3:=fun x ds G q=>match x,ds with
 | .ref a,[]=>(match G a with | some (.lst xs)=>(match xs[xs.length - 1]? with | some y=>q y (gup G a (.lst xs.dropLast)) | none=>False) | _=>False)
 | _,_=>False
def vw4:M3:=fun x ds G q=>match x,ds with
 | .ref a,[]=>(match G a with | some (.lst _)=>q .non (gup G a (.lst [])) | _=>False)
 | _,_=>False
end
def xEqB (neg:Bool):R3:=fun x y G q=>match x,y with
 | .int i,.int j=>q (.bl (if neg then !decide (i=j) else decide (i=j))) G
 | .str i,.str j=>q (.bl (if neg then !decide (i=j) else decide (i=j))) G
 | .bl i,.bl j=>q (.bl (if neg then !decide (i=j) else decide (i=j))) G
 | .non,.non=>q (.bl (!neg)) G
 | .non,.int _=>q (.bl neg) G
 | .int _,.non=>q (.bl neg) G
 | .non,.bl _=>q (.bl neg) G
 | .bl _,.non=>q (.bl neg) G
 | .non,.str _=>q (.bl neg) G
 | .str _,.non=>q (.bl neg) G
 | .int _,.str _=>q (.bl neg) G
 | .str _,.int _=>q (.bl neg) G
 | .tup xs,.tup ys=>∃ n sd se b,n<=40 /\ snap G n (.tup xs)=some sd /\ snap G n (.tup ys)=some se /\ eqN n sd se=some b /\ q (.bl (if neg then !b else b)) G
 | .ref a,.ref c=>∃ n sd se b,n<=40 /\ snap G n (.ref a)=some sd /\ snap G n (.ref c)=some se /\ eqN n sd se=some b /\ q (.bl (if neg then !b else b)) G
 | _,_=>False
section
variable {X:Cx} {k:Nat}
theorem ut6 {i j:Int}:decide (V.int i=V.int j)=decide (i=j):=by
 by_cases h:i=j
 ·subst h;simp
 ·simp [h]
theorem ut5 {i j:Str}:decide (V.str i=V.str j)=decide (i=j):=by
 by_cases h:i=j
 ·subst h;simp
 ·simp [h]
theorem u69 {G:Gp} {n:Nat} {xs:List D} {sd:Sn} (h:snap G n (.tup xs)=some sd):u45 sd=false:=by
 obtain ⟨_,_,_,rfl,_⟩:=snap_tup h;rfl
theorem u70 {G:Gp} {n:Nat} {a:Addr} {sd:Sn} (h:snap G n (.ref a)=some sd):u45 sd=false:=by
 obtain ⟨_,_,_,_,rfl,_⟩:=snap_ref h;rfl
theorem x_eq (hr:Room k X.A):Op3 X (compareOp .Eq) (xEqB false):=u47 (op_eq.or (w89 hr)) <| by
 rintro x y H Q ⟨d,e,G,q,r1,r2,c,t,f⟩;have fin:∀ b,q (.bl b) G->Q (.bl b) H:=fun b z=>f _ _ _ _ RelD.blI c (Le.refl H) z
 unfold xEqB at t;split at t
 ·cases r1.int_inv;cases r2.int_inv;exact .inl ⟨rfl,by rw [ut6];exact fin _ t⟩
 ·cases r1.str_inv;cases r2.str_inv;exact .inl ⟨rfl,by rw [ut5];exact fin _ t⟩
 ·cases r1.bl_inv;cases r2.bl_inv;exact .inl ⟨rfl,by rw [uc0];exact fin _ t⟩
 ·cases r1.non_inv;cases r2.non_inv;exact .inl ⟨rfl,fin _ t⟩
 ·cases r1.non_inv;cases r2.int_inv;exact .inl ⟨rfl,fin _ t⟩
 ·cases r1.int_inv;cases r2.non_inv;exact .inl ⟨rfl,fin _ t⟩
 ·cases r1.non_inv;cases r2.bl_inv;exact .inl ⟨rfl,fin _ t⟩
 ·cases r1.bl_inv;cases r2.non_inv;exact .inl ⟨rfl,fin _ t⟩
 ·cases r1.non_inv;cases r2.str_inv;exact .inl ⟨rfl,fin _ t⟩
 ·cases r1.str_inv;cases r2.non_inv;exact .inl ⟨rfl,fin _ t⟩
 ·cases r1.int_inv;cases r2.str_inv;exact .inl ⟨rfl,fin _ t⟩
 ·cases r1.str_inv;cases r2.int_inv;exact .inl ⟨rfl,fin _ t⟩
 ·obtain ⟨n,sd,se,b,hn,h1,h2,hb,t⟩:=t
  exact .inr ⟨_,_,G,n,sd,se,b,r1,r2,c,hn,h1,h2,hb,u69 h1,fin _ t⟩
 ·obtain ⟨n,sd,se,b,hn,h1,h2,hb,t⟩:=t
  exact .inr ⟨_,_,G,n,sd,se,b,r1,r2,c,hn,h1,h2,hb,u70 h1,fin _ t⟩
 ·exact t.elim
theorem x_ne (hr:Room k X.A):Op3 X (compareOp .NotEq) (xEqB true):=u47 (op_ne.or (w86 hr)) <| by
 rintro x y H Q ⟨d,e,G,q,r1,r2,c,t,f⟩;have fin:∀ b,q (.bl b) G->Q (.bl b) H:=fun b z=>f _ _ _ _ RelD.blI c (Le.refl H) z
 unfold xEqB at t;split at t
 ·cases r1.int_inv;cases r2.int_inv;exact .inl ⟨rfl,by rw [ut6];exact fin _ t⟩
 ·cases r1.str_inv;cases r2.str_inv;exact .inl ⟨rfl,by rw [ut5];exact fin _ t⟩
 ·cases r1.bl_inv;cases r2.bl_inv;exact .inl ⟨rfl,by rw [uc0];exact fin _ t⟩
 ·cases r1.non_inv;cases r2.non_inv;exact .inl ⟨rfl,fin _ t⟩
 ·cases r1.non_inv;cases r2.int_inv;exact .inl ⟨rfl,fin _ t⟩
 ·cases r1.int_inv;cases r2.non_inv;exact .inl ⟨rfl,fin _ t⟩
 ·cases r1.non_inv;cases r2.bl_inv;exact .inl ⟨rfl,fin _ t⟩
 ·cases r1.bl_inv;cases r2.non_inv;exact .inl ⟨rfl,fin _ t⟩
 ·cases r1.non_inv;cases r2.str_inv;exact .inl ⟨rfl,fin _ t⟩
 ·cases r1.str_inv;cases r2.non_inv;exact .inl ⟨rfl,fin _ t⟩
 ·cases r1.int_inv;cases r2.str_inv;exact .inl ⟨rfl,fin _ t⟩
 ·cases r1.str_inv;cases r2.int_inv;exact .inl ⟨rfl,fin _ t⟩
 ·obtain ⟨n,sd,se,b,hn,h1,h2,hb,t⟩:=t
  exact .inr ⟨_,_,G,n,sd,se,b,r1,r2,c,hn,h1,h2,hb,u69 h1,fin _ t⟩
 ·obtain ⟨n,sd,se,b,hn,h1,h2,hb,t⟩:=t
  exact .inr ⟨_,_,G,n,sd,se,b,r1,r2,c,hn,h1,h2,hb,u70 h1,fin _ t⟩
 ·exact t.elim
end
section
variable {X:Cx} {e:Expr} {es:List Expr} {p pos:Pos} {ts:TA3} {k:Nat} {S:Sp3} {x m qual:Str} {st:Stmt} {ps:List Str} {C f:Addr} {fd:FuncData}
theorem u52 {i:Int} (h:∃ t,X.mg x=some (.int i t)) (hg:Gl X x:=by rfl) (hdb:(x == ("__debug__" : Str))=false:=by decide):E3 X (.Name x pos) (dC (.int i)):=by
 obtain ⟨t,h⟩:=h;exact v74 hg h (v:=.int i) ⟨t,rfl⟩ (fun _=>RelD.intI) hdb
end
theorem wk2 {b:Bool} {A B:Prop} (h1:b=true->A) (h2:b=false->B):if b=true then A else B:=by
 cases b
 ·simpa using h2 rfl
 ·simpa using h1 rfl
theorem ub4 {c A B:Prop} [Decidable c] (h1:c->A) (h2:¬ c->B):if decide c=true then A else B:=by
 by_cases h:c
 ·simpa [h] using h1 h
 ·simpa [h] using h2 h
theorem u48 {xs:List D}:u16 (some (.lst xs))=some xs:=rfl
theorem uz5 {xs:List D}:u16 (some (.fro xs))=some xs:=rfl
theorem vi8 {α:Type} {x:α} {xs:List α}:atI (x::xs) 0=some x:=u62 (j:=0) rfl
theorem vi7 {α:Type} {x y:α} {xs:List α}:atI (x::y::xs) 1=some y:=u62 (j:=1) rfl
theorem w07 {α:Type} {x y z:α} {xs:List α}:atI (x::y::z::xs) 2=some z:=u62 (j:=2) rfl
theorem w06 {α:Type} {x y z u:α} {xs:List α}:atI (x::y::z::u::xs) 3=some u:=u62 (j:=3) rfl
theorem wl2 {α:Type} {x y z u v:α} {xs:List α}:atI (x::y::z::u::v::xs) 4=some v:=u62 (j:=4) rfl
theorem we1:ixN 3 0=some 0:=rfl
theorem we0:ixN 3 1=some 1:=rfl
theorem wd9:ixN 3 2=some 2:=rfl
theorem we3:ixN 2 0=some 0:=rfl
theorem we2:ixN 2 1=some 1:=rfl
theorem us4 {n j:Nat} (h:j < n):ixN n (j:Int)=some j:=by
 unfold ixN;rw [if_pos (by omega),if_pos (by omega)];simp
theorem vy1 {n:Nat} {i:Int} (h0:0<=i) (h:i < n):ixN n i=some i.toNat:=by
 unfold ixN;rw [if_pos h0,if_pos h]
theorem w05 {α:Type} {xs:List α} {i:Int} (h0:0<=i) (h:i < xs.length):atI xs i=some (xs[i.toNat]'(by omega)):=by
 unfold atI;rw [vy1 h0 h];exact List.getElem?_eq_getElem _
theorem v93 {α β:Type} {f:α->β} {xs:List α} {i:Int} (h0:0<=i) (h:i < xs.length):atI (xs.map f) i=some (f (xs[i.toNat]'(by omega))):=by
 rw [w05 h0 (by simpa using h)];simp
theorem ul8 {i j:Int} (h0:0<=i) (h:i < 18446744073709551616):CMul i j:=.inl ⟨by omega,by omega⟩
theorem uu0 {j:Int} (h0:0<=j) (h:j<=1000):CPow 2 j:=⟨h0,by omega,by decide⟩
end L3
namespace L3
theorem uj0 {S:Sp3} {ds:List D} {G G1:Gp} {v:D} {q:DK} (h:∀ R:DK,R v G1->S ds G R) (k:q v G1):∃ R,S ds G R /\ ∀ d G',R d G'->q d G' :=
 ⟨fun d G'=>d=v /\ G'=G1,h _ ⟨rfl,rfl⟩,fun _ _ ⟨e1,e2⟩=>by subst e1;subst e2;exact k⟩
theorem u18 {S:Sp3} {ds:List D} {G:Gp} {post:DK} {q:DK} (h:∀ R:DK,(∀ d G',post d G'->R d G')->S ds G R) (k:∀ d G',post d G'->q d G'):∃ R,S ds G R /\ ∀ d G',R d G'->q d G' :=
 ⟨post,h _ fun _ _ z=>z,k⟩
theorem u66 {ok:Gp->Prop} {g:TG3} {tb:TS3} {E:Ends3} (I:List D->DSt->Gp->Prop) {items:List D} {σ:DSt} {G:Gp} (h0:I items σ G) (nil:∀ σ G,I [] σ G->ok G /\ E.nx σ G)
  (cons:∀ x r σ G,I (x::r) σ G->(∀ σ' G',I r σ' G'->forL ok g tb E r σ' G')->ok G /\ g x σ G fun σ1 G1=>tb { E with nx:=forL ok g tb E r,ct:=forL ok g tb E r,bk:=E.nx } σ1 G1):forL ok g tb E items σ G:=by
 induction items generalizing σ G with
 | nil=>exact nil σ G h0
 | cons x r ih=>exact cons x r σ G h0 fun σ' G' h=>ih h
theorem u26 {ok:Gp->Prop} {g:TG3} {tc:TT3} {te:TE3} {p:PySem.Addr} {q:DK} (I:List D->DSt->Gp->Prop) {items:List D} {σ:DSt} {G:Gp} (h0:I items σ G) (nil:∀ σ G,I [] σ G->ok G /\ q (.ref p) G)
  (cons:∀ x r σ G,I (x::r) σ G->(∀ σ' G',I r σ' G'->ub6 ok g tc te p q r σ' G')->ok G /\ g x σ G fun σ2 G2=>tc σ2 G2 fun b G3 =>
   if b=true then te σ2 G3 fun d G4=>(match G4 p with | some (.lst ys)=>ys.length < PySem.sizeLine /\ ub6 ok g tc te p q r σ2 (gup G4 p (.lst (ys++[d]))) | _=>False)
   else ub6 ok g tc te p q r σ2 G3):ub6 ok g tc te p q items σ G:=by
 induction items generalizing σ G with
 | nil=>exact nil σ G h0
 | cons x r ih=>exact cons x r σ G h0 fun σ' G' h=>ih h
end L3
namespace L3
open PySem
theorem uv4:(("go" : Str) = "turn")=False:=eq_false (by decide)
theorem uv5:(("go" : Str) = "swap")=False:=eq_false (by decide)
theorem uk1:(("come" : Str) = "turn")=False:=eq_false (by decide)
theorem uk2:(("come" : Str) = "swap")=False:=eq_false (by decide)
end L3
namespace Rw
open PySem PyProof.Rows L2 L3
inductive Opd where
 | num (n:Int) | box (y:Nat)
 deriving DecidableEq
inductive Row where
 | add (x:Nat) (o:Opd) | take (x:Nat) (o:Opd) | turn (x i:Nat) (cs:List (Nat × Nat)) | swap (x y:Nat) | go (x:Nat) (n:Int) (k:Nat) | come (x:Nat) (n:Int) (k:Nat)
 deriving DecidableEq
def Opd.d:Opd->D
 | .num n=>.tup [.str "num",.int n]
 | .box y=>.tup [.str "box",.int (y:Int)]
def cd (c:Nat × Nat):D:=.tup [.int (c.1:Int),.int (c.2:Int)]
def Row.d:Row->D
 | .add x o=>.tup [.str "add",.int (x:Int),o.d]
 | .take x o=>.tup [.str "take",.int (x:Int),o.d]
 | .turn x i cs=>.tup [.str "turn",.int (x:Int),.int (i:Int),.tup (cs.map cd)]
 | .swap x y=>.tup [.str "swap",.int (x:Int),.int (y:Int)]
 | .go x n k=>.tup [.str "go",.int (x:Int),.int n,.int (k:Int)]
 | .come x n k=>.tup [.str "come",.int (x:Int),.int n,.int (k:Int)]
def Opd.ok (sz x:Nat):Opd->Prop
 | .num n=>0<=n /\ n < 4294967296
 | .box y=>y < sz /\ y ≠ x
def Row.ok (sz:Nat):Row->Prop
 | .add x o=>x < sz /\ o.ok sz x
 | .take x o=>x < sz /\ o.ok sz x
 | .turn x i cs=>x < sz /\ i < 32 /\ cs.length<=2 /\ ∀ c ∈ cs,c.1 < sz /\ c.1 ≠ x /\ c.2 < 32
 | .swap x y=>x < sz /\ y < sz /\ y ≠ x
 | .go x n _=>x < sz /\ 0<=n /\ n < 4294967296
 | .come x n _=>x < sz /\ 0<=n /\ n < 4294967296
def Row.plain:Row->Bool
 | .go _ _ _=>false
 | .come _ _ _=>false
 | _=>true
def gt (bs:List Int) (x:Nat):Int:=bs.getD x 0
def bit (v:Int) (j:Nat):Int:=v / 2 ^ j % 2
def val (bs:List Int):Opd->Int
 | .num n=>n
 | .box y=>gt bs y
structure BsOk (sz:Nat) (bs:List Int):Prop where
 len:bs.length=sz
 rng:∀ v ∈ bs,0<=v /\ v < 4294967296
end Rw
namespace Rw
open PySem L2 L3
theorem uf7 {G:Gp}:∀ ks:List Int,(ks.map D.int).mapM (snap G 0)=some (ks.map Sn.int)
 | []=>rfl
 | k::ks=>by
  rw [List.map_cons,List.mapM_cons,uf7 ks];rfl
theorem uk0 {G:Gp} {a:Addr} {ks:List Int} (h:u16 (G a)=some (ks.map .int)):snap G 1 (.ref a)=some (.lst (ks.map .int)):=by
 show ((u16 (G a)).bind fun ds=>(ds.mapM (snap G 0)).map Sn.lst)=_
 rw [h,Option.bind_some,uf7];rfl
theorem vn6:∀ ks ms:List Int,ks.length=ms.length->∃ bs,(((ks.map Sn.int).zip (ms.map Sn.int)).mapM fun p=>eqN 0 p.1 p.2)=some bs /\ bs.all id=decide (ks=ms)
 | [],[],_=>⟨[],rfl,rfl⟩
 | [],_::_,h=>by simp at h
 | _::_,[],h=>by simp at h
 | k::ks,m::ms,h=>by
  obtain ⟨bs,e,q⟩:=vn6 ks ms (by simpa using h);refine ⟨(k == m)::bs,?_,?_⟩
  ·rw [List.map_cons,List.map_cons,List.zip_cons_cons,List.mapM_cons,e]
   rfl
  ·rw [List.all_cons,q]
   by_cases hk:k=m
   ·subst hk;simp
   ·simp [hk]
theorem vz2 {ks ms:List Int}:eqN 1 (.lst (ks.map .int)) (.lst (ms.map .int))=some (decide (ks=ms)):=by
 show (if (ks.map Sn.int).length=(ms.map Sn.int).length then (((ks.map Sn.int).zip (ms.map Sn.int)).mapM fun p=>eqN 0 p.1 p.2).map (fun bs=>bs.all id) else some false)=_
 by_cases h:ks.length=ms.length
 ·rw [if_pos (by simpa using h)]
  obtain ⟨bs,e,q⟩:=vn6 ks ms h;rw [e,Option.map_some,q]
 ·rw [if_neg (by simpa using h)]
  have:ks ≠ ms:=fun e=>h (by rw [e])
  simp [this]
theorem vi4 {G:Gp} {a b:Addr} {ks ms:List Int} {Q:Bool->Prop} (h1:u16 (G a)=some (ks.map .int)) (h2:u16 (G b)=some (ms.map .int)) (h:Q (decide (ks=ms))) :
  ∃ n sd se r,n<=40 /\ snap G n (.ref a)=some sd /\ snap G n (.ref b)=some se /\ eqN n sd se=some r /\ Q r :=
 ⟨1,_,_,_,by decide,uk0 h1,uk0 h2,vz2,h⟩
theorem u49 (lo:Int) (n:Nat):rngD lo (n+1)=.int lo::rngD (lo+1) n:=by
 unfold rngD;rw [List.range_succ_eq_map,List.map_cons,List.map_map]
 congr 1
 ·simp
 ·apply List.map_congr_left
  intro i _
  show D.int _=D.int _
  congr 1
  simp;omega
theorem us8 {α:Type} (x:α):∀ n:Nat,(List.replicate n [x]).flatten=List.replicate n x
 | 0=>rfl
 | n+1=>by rw [List.replicate_succ,List.flatten_cons,us8 x n,List.replicate_succ];rfl
structure Grow (G G':Gp):Prop where
 kp:∀ b o,G b=some o->G' b=some o
theorem Grow.refl {G:Gp}:Grow G G:=⟨fun _ _ h=>h⟩
theorem Grow.trans {G G1 G2:Gp} (a:Grow G G1) (b:Grow G1 G2):Grow G G2:=⟨fun c o h=>b.kp c o (a.kp c o h)⟩
theorem Grow.new {G G1:Gp} {p:Addr} {o:DO} (a:Grow G G1) (h:G1 p=none):Grow G (gup G1 p o):=⟨fun b u e=>by rw [u07 (gne (a.kp b u e) h)];exact a.kp b u e⟩
theorem Grow.own {G G1:Gp} {p:Addr} {o:DO} (a:Grow G G1) (h:G p=none):Grow G (gup G1 p o):=⟨fun b u e=>by rw [u07 (gne e h)];exact a.kp b u e⟩
theorem Grow.none {G G1:Gp} {p:Addr} (a:Grow G G1) (h:G1 p=none):G p=none:=by
 cases e:G p with
 | none=>rfl
 | some o=>rw [a.kp p o e] at h;cases h
end Rw
namespace L3
open PySem
abbrev nS (a b:Str):Prop:=(a=b)=False
abbrev nB (a b:Str):Prop:=(a == b)=false
theorem u72:nS "add" "take" /\ nS "add" "turn" /\ nS "add" "swap" /\ nS "add" "go" /\ nS "add" "come" /\ nS "add" "box" /\ nS "add" "num" /\ nS "take" "add" /\ nS "take" "turn" /\ nS "take" "swap" /\ nS "take" "go" /\ nS "take" "come" /\ nS "take" "box" /\ nS "take" "num" /\ nS "turn" "add" /\ nS "turn" "take" /\ nS "turn" "swap" /\ nS "turn" "go" /\ nS "turn" "come" /\ nS "turn" "box" /\ nS "turn" "num" /\ nS "swap" "add" /\ nS "swap" "take" /\ nS "swap" "turn" /\ nS "swap" "go" /\ nS "swap" "come" /\ nS "swap" "box" /\ nS "swap" "num" /\ nS "go" "add" /\ nS "go" "take" /\ nS "go" "turn" /\ nS "go" "swap" /\ nS "go" "come" /\ nS "go" "box" /\ nS "go" "num" /\ nS "come" "add" /\ nS "come" "take" /\ nS "come" "turn" /\ nS "come" "swap" /\ nS "come" "go" /\ nS "come" "box" /\ nS "come" "num" /\ nS "box" "add" /\ nS "box" "take" /\ nS "box" "turn" /\ nS "box" "swap" /\ nS "box" "go" /\ nS "box" "come" /\ nS "box" "num" /\ nS "num" "add" /\ nS "num" "take" /\ nS "num" "turn" /\ nS "num" "swap" /\ nS "num" "go" /\ nS "num" "come" /\ nS "num" "box" := by (repeat' apply And.intro) <;> first | exact eq_false (by decide) | decide
end L3
namespace L3
open PySem PySem.Spec PyProof.Rows L2
theorem w25:(∀ i j G q,xEqB false (.int i) (.int j) G q=q (.bl (decide (i=j))) G) /\ (∀ i j G q,xEqB true (.int i) (.int j) G q=q (.bl (!decide (i=j))) G) /\
  (∀ i j G q,xEqB false (.str i) (.str j) G q=q (.bl (decide (i=j))) G) /\ (∀ i j G q,xEqB true (.str i) (.str j) G q=q (.bl (!decide (i=j))) G) /\
  (∀ a c G q,xEqB false (.ref a) (.ref c) G q=∃ n sd se b,n<=40 /\ snap G n (.ref a)=some sd /\ snap G n (.ref c)=some se /\ eqN n sd se=some b /\ q (.bl b) G) /\
  (∀ a c G q,xEqB true (.ref a) (.ref c) G q=∃ n sd se b,n<=40 /\ snap G n (.ref a)=some sd /\ snap G n (.ref c)=some se /\ eqN n sd se=some b /\ q (.bl (!b)) G) /\
  (∀ a c G q,xEqB false (.tup a) (.tup c) G q=∃ n sd se b,n<=40 /\ snap G n (.tup a)=some sd /\ snap G n (.tup c)=some se /\ eqN n sd se=some b /\ q (.bl b) G) /\
  (∀ a c G q,xEqB true (.tup a) (.tup c) G q=∃ n sd se b,n<=40 /\ snap G n (.tup a)=some sd /\ snap G n (.tup c)=some se /\ eqN n sd se=some b /\ q (.bl (!b)) G) /\
  (∀ i j G q,xAdd (.int i) (.int j) G q=q (.int (i+j)) G) /\ (∀ i j G q,xMul (.int i) (.int j) G q=(CMul i j /\ q (.int (i * j)) G)) /\
  (∀ a k G q,xMul (.ref a) (.int k) G q=(match G a with | some (.lst xs)=>(-(2 ^ 63)<=k /\ k < 2 ^ 63 /\ xs.length * k.toNat<=sizeLine) /\ ∀ p,G p=none->q (.ref p) (gup G p (.lst (List.replicate k.toNat xs).flatten)) | _=>False)) /\
  (∀ i j G q,xLt (.int i) (.int j) G q=q (.bl (decide (i < j))) G) /\
  (∀ ds i G q,xIx (.tup ds) (.int i) G q=(match atI ds i with | some d=>q d G | none=>False)) /\
  (∀ a i G q,xIx (.ref a) (.int i) G q=(match u16 (G a) with | some ds=>(match atI ds i with | some d=>q d G | none=>False) | none=>False)) /\
  (∀ xs G q,xLen [.tup xs] G q=q (.int xs.length) G) /\ (∀ a G q,xLen [.ref a] G q=(match u16 (G a) with | some xs=>q (.int xs.length) G | none=>False)) :=
 ⟨fun _ _ _ _=>rfl,fun _ _ _ _=>rfl,fun _ _ _ _=>rfl,fun _ _ _ _=>rfl,fun _ _ _ _=>rfl,fun _ _ _ _=>rfl,fun _ _ _ _=>rfl,fun _ _ _ _=>rfl,fun _ _ _ _=>rfl,fun _ _ _ _=>rfl,fun _ _ _ _=>rfl,fun _ _ _ _=>rfl,fun _ _ _ _=>rfl,fun _ _ _ _=>rfl,fun _ _ _=>rfl,fun _ _ _=>rfl⟩
theorem w24:(∀ f i j G q,xInt f (.int i) (.int j) G q=q (.int (f i j)) G) /\ (∀ C f i j G q,uj5 C f (.int i) (.int j) G q=(C i j /\ q (.int (f i j)) G)) /\ (∀ i j G q,xLe (.int i) (.int j) G q=q (.bl (decide (i<=j))) G) /\
  (∀ i j G q,xGt (.int i) (.int j) G q=q (.bl (decide (j < i))) G) /\ (∀ i j G q,xGe (.int i) (.int j) G q=q (.bl (decide (j<=i))) G) /\ (∀ i G q,xNeg (.int i) G q=q (.int (-i)) G) /\
  (∀ a k v G q,xSet (.ref a) (.int k) v G q=(match G a with | some (.lst ds)=>(match ixN ds.length k with | some j=>q (gup G a (.lst (ds.set j v))) | none=>False) | _=>False)) /\
  (∀ a lo hi G q,uq4 (.ref a) lo hi G q=(match u16 (G a) with | some ds=>∀ p,G p=none->q (.ref p) (gup G p (.lst (cutD ds lo hi))) | none=>False)) /\
  (∀ ds lo hi G q,uq4 (.tup ds) lo hi G q=(¬ (HT.sIx ds.length 0 lo=0 /\ HT.sIx ds.length ds.length hi=ds.length) /\ q (.tup (cutD ds lo hi)) G)) /\
  (∀ x G q,xIs2 x .non G q=(match x with | .non=>q (.bl true) G | _=>q (.bl false) G)) /\ (∀ x b G q,xIs2 x (.bl b) G q=(match x with | .bl c=>q (.bl (decide (c=b))) G | _=>q (.bl false) G)) /\
  (∀ x G q,ug8 x .non G q=(match x with | .non=>q (.bl false) G | _=>q (.bl true) G)) /\ (∀ x b G q,ug8 x (.bl b) G q=(match x with | .bl c=>q (.bl (!decide (c=b))) G | _=>q (.bl true) G)) /\
  (∀ i G q,xAbs [.int i] G q=q (.int (if i < 0 then -i else i)) G) /\ (∀ i j G q,un1 [.int i,.int j] G q=(CDiv i j /\ q (.tup [.int (i / j),.int (i % j)]) G)) /\
  (∀ i j G q,wh9 [.int i,.int j] G q=q (.int (if j > i then j else i)) G) /\ (∀ i j G q,wh8 [.int i,.int j] G q=q (.int (if j < i then j else i)) G) /\
  (∀ i G q,uq3 [.int i] G q=q (.int i) G) /\ (∀ b G q,uq3 [.bl b] G q=q (.int (if b then 1 else 0)) G) /\
  (∀ xs G q,ug7 [.tup xs] G q=∀ p,G p=none->q (.ref p) (gup G p (.lst xs))) /\ (∀ a G q,ug7 [.ref a] G q=(match u16 (G a) with | some xs=>∀ p,G p=none->q (.ref p) (gup G p (.lst xs)) | none=>False)) /\
  (∀ xs G q,ub7 [.tup xs] G q=q (.tup xs) G) /\ (∀ a G q,ub7 [.ref a] G q=(match u16 (G a) with | some xs=>q (.tup xs) G | none=>False)) /\
  (∀ a G q,xAll [.ref a] G q=(match u16 (G a) with | some xs=>(match up9 xs with | some bs=>q (.bl (bs.all id)) G | none=>False) | none=>False)) /\
  (∀ x T G q,un0 [x,.ty T] G q=((T = "int" \/ T = "str" \/ T = "bool" \/ T = "list" \/ T = "tuple" \/ T = "dict") /\ (match vg5 G x with | some n=>q (.bl (subK n T)) G | none=>False))) /\
  (∀ a d G q,ui1 (.ref a) [d] G q=(match G a with | some (.lst xs)=>xs.length < sizeLine /\ q .non (gup G a (.lst (xs++[d]))) | _=>False)) /\
  (∀ a b G q,ui0 (.ref a) [.ref b] G q=(match G a,G b with | some (.lst xs),some (.lst ys)=>xs.length+ys.length<=sizeLine /\ q .non (gup G a (.lst (xs++ys))) | _,_=>False)) /\
  (∀ a G q,vw4 (.ref a) [] G q=(match G a with | some (.lst _)=>q .non (gup G a (.lst [])) | _=>False)):=by
 refine ⟨?_,?_,?_,?_,?_,?_,?_,?_,?_,?_,?_,?_,?_,?_,?_,?_,?_,?_,?_,?_,?_,?_,?_,?_,?_,?_,?_,?_⟩ <;> intros <;> rfl
def strsOf:List D->Option (List Str)
 | []=>some []
 | .str x::r=>(strsOf r).map (x::·)
 | _=>none
def intsOf:List D->Option (List Int)
 | []=>some []
 | .int x::r=>(intsOf r).map (x::·)
 | _=>none
section
variable {X:Cx} {K:W.Frag} {H:Hp}
theorem ua2:∀ {ds:List D} {ws:List Str} {vs:List V},strsOf ds=some ws->RelDs K H ds vs->vs=ws.map V.str
 | [],ws,vs,e,r=>by cases e;rw [r.inv_nil];rfl
 | .str b::ds,ws,vs,e,r=>by
  obtain ⟨x,xs,rfl,h1,h2⟩:=r.inv_cons;obtain ⟨ws',e',rfl⟩:=Option.map_eq_some_iff.mp (show (strsOf ds).map (b::·)=some ws from e);rw [h1.str_inv,ua2 e' h2];rfl
 | .non::_,_,_,e,_=>by cases e
 | .bl _::_,_,_,e,_=>by cases e
 | .int _::_,_,_,e,_=>by cases e
 | .tup _::_,_,_,e,_=>by cases e
 | .ref _::_,_,_,e,_=>by cases e
 | .ty _::_,_,_,e,_=>by cases e
theorem ua6:∀ {ds:List D} {ws:List Int} {vs:List V},intsOf ds=some ws->RelDs K H ds vs->vs=ws.map V.int
 | [],ws,vs,e,r=>by cases e;rw [r.inv_nil];rfl
 | .int b::ds,ws,vs,e,r=>by
  obtain ⟨x,xs,rfl,h1,h2⟩:=r.inv_cons;obtain ⟨ws',e',rfl⟩:=Option.map_eq_some_iff.mp (show (intsOf ds).map (b::·)=some ws from e);rw [h1.int_inv,ua6 e' h2];rfl
 | .non::_,_,_,e,_=>by cases e
 | .bl _::_,_,_,e,_=>by cases e
 | .str _::_,_,_,e,_=>by cases e
 | .tup _::_,_,_,e,_=>by cases e
 | .ref _::_,_,_,e,_=>by cases e
 | .ty _::_,_,_,e,_=>by cases e
theorem v56 {w:Str} {ws:List Str}:inV (V.str w) (ws.map V.str)=decide (w ∈ ws):=by
 unfold inV
 induction ws with
 | nil=>rfl
 | cons x xs ih =>
  rw [List.map_cons,List.any_cons,ih]
  show ((x == w) || decide (w ∈ xs))=_
  by_cases h:x=w
  ·subst h;simp
  ·have h':¬ w=x:=fun e=>h e.symm
   have:(x == w)=false:=by simpa using h
   rw [this];simp [h']
theorem v57 {w:Int} {ws:List Int}:inV (V.int w) (ws.map V.int)=decide (w ∈ ws):=by
 unfold inV
 induction ws with
 | nil=>rfl
 | cons x xs ih =>
  rw [List.map_cons,List.any_cons,ih]
  show ((x == w) || decide (w ∈ xs))=_
  by_cases h:x=w
  ·subst h;simp
  ·have h':¬ w=x:=fun e=>h e.symm
   have:(x == w)=false:=by simpa using h
   rw [this];simp [h']
theorem ud5:∀ ws:List Str,(ws.map V.str).all ub5=true
 | []=>rfl
 | _::ws=>by rw [List.map_cons,List.all_cons,ud5 ws];rfl
theorem ud6:∀ ws:List Int,(ws.map V.int).all ub5=true
 | []=>rfl
 | _::ws=>by rw [List.map_cons,List.all_cons,ud6 ws];rfl
def xInB (neg:Bool):R3:=fun x y G q=>match x,y with
 | .str w,.tup ds=>(match strsOf ds with | some ws=>q (.bl (if neg then !decide (w ∈ ws) else decide (w ∈ ws))) G | none=>False)
 | .str w,.ref a=>(match u16 (G a) with | some ds=>(match strsOf ds with | some ws=>q (.bl (if neg then !decide (w ∈ ws) else decide (w ∈ ws))) G | none=>False) | none=>False)
 | .int w,.tup ds=>(match intsOf ds with | some ws=>q (.bl (if neg then !decide (w ∈ ws) else decide (w ∈ ws))) G | none=>False)
 | .int w,.ref a=>(match u16 (G a) with | some ds=>(match intsOf ds with | some ws=>q (.bl (if neg then !decide (w ∈ ws) else decide (w ∈ ws))) G | none=>False) | none=>False)
 | _,_=>False
theorem vm7 {neg:Bool} {x y:V} {Q:VK} (h:lowR K (xInB neg) x y H Q):rIn K neg x y H Q:=by
 obtain ⟨d,e,G,q,r1,r2,c,t,f⟩:=h;unfold xInB at t;split at t
 ·rename_i w ds
  split at t
  ·rename_i ws es
   obtain ⟨a,xs,rfl,s1,q1⟩:=r2.tup_inv;cases r1.str_inv;obtain rfl:=ua2 es q1;exact ⟨a,_,rfl,.inr s1,rfl,ud5 ws,f _ _ _ _ (by rw [v56];exact RelD.blI) c (Le.refl H) t⟩
  ·exact t.elim
 ·rename_i w a
  split at t
  ·rename_i ds eq
   split at t
   ·rename_i ws es
    obtain ⟨xs,s1,q1⟩:=u19 c eq;cases r1.str_inv;obtain rfl:=ua2 es q1;exact ⟨a,_,r2.ref_inv,.inl s1,rfl,ud5 ws,f _ _ _ _ (by rw [v56];exact RelD.blI) c (Le.refl H) t⟩
   ·exact t.elim
  ·exact t.elim
 ·rename_i w ds
  split at t
  ·rename_i ws es
   obtain ⟨a,xs,rfl,s1,q1⟩:=r2.tup_inv;cases r1.int_inv;obtain rfl:=ua6 es q1;exact ⟨a,_,rfl,.inr s1,rfl,ud6 ws,f _ _ _ _ (by rw [v57];exact RelD.blI) c (Le.refl H) t⟩
  ·exact t.elim
 ·rename_i w a
  split at t
  ·rename_i ds eq
   split at t
   ·rename_i ws es
    obtain ⟨xs,s1,q1⟩:=u19 c eq;cases r1.int_inv;obtain rfl:=ua6 es q1;exact ⟨a,_,r2.ref_inv,.inl s1,rfl,ud6 ws,f _ _ _ _ (by rw [v57];exact RelD.blI) c (Le.refl H) t⟩
   ·exact t.elim
  ·exact t.elim
 ·exact t.elim
theorem x_in {k:Nat} {A:Around} (_:Room k A):Op3 X (compareOp .In) (xInB false):=u47 uk8 fun _ _ _ _ h=>vm7 h
theorem uy0 {k:Nat} {A:Around} (_:Room k A):Op3 X (compareOp .NotIn) (xInB true):=u47 uk7 fun _ _ _ _ h=>vm7 h
end
end L3
namespace L2
open PySem PySem.Spec PyProof.Rows
theorem Inv.turnedT {X:Cx} {pins:List (Addr × Obj)} {σ:List (Option V)} {H:Hp} {s:Shared} {h':Heap} {t':Nat} {e it:Addr} {o:HO} (I:Inv X pins σ H s) (k:∀ b o,b ≠ e->b ≠ it->s.heap.get? b=some o->h'.get? b=some o)
  (f:∀ b ∈ [e,it],FpOk X pins H b) (new:ObjOk X.prog X.w (upd H s.heap.objs.size o) h' s.heap.objs.size o):Inv X pins σ (upd H s.heap.objs.size o) { s with heap:=h',toks:=t' }:=by
 have hn:H s.heap.objs.size=none:=I.hok.fresh (Nat.le_refl _);have f1:=f e (by simp);have f2:=f it (by simp);have old:∀ b u,H b=some u->b ≠ s.heap.objs.size:=fun b u q z=>by rw [z,hn] at q;cases q
 have nit:∀ b u,H b=some u->b ≠ e /\ b ≠ it:=fun b u q=>⟨fun z=>(by rw [z,f1.1] at q;cases q),fun z=>(by rw [z,f2.1] at q;cases q)⟩
 have nch:∀ {b:Addr},b ∉ [e,it]->b ≠ e /\ b ≠ it:=fun hc=>⟨fun z=>hc (by simp [z]),fun z=>hc (by simp [z])⟩
 refine I.step (g':=s.gens) (d':=s.drawn) (ch:=[e,it]) (fun b hb=>?_) (fun b o _ _ hc q _=>k b o (nch hc).1 (nch hc).2 q) (fun b o _ _ hc q _=>⟨o.slots,k b o (nch hc).1 (nch hc).2 q⟩) (fun b u _ q n=>?_)
  (fun b o hc q=>⟨o,k b o (nch hc).1 (nch hc).2 q⟩) (fun b xs q=>?_) (fun b o u q=>?_) (fun b ps q=>⟨#[],?_⟩) (fun m hm=>?_) (fun b u q=>?_) I.bare
 ·obtain ⟨g0,g1,g2,g3,g4,g5⟩:=f b hb
  exact ⟨g3,g1,g4,g5⟩
 ·rw [u09 (Nat.ne_of_lt (Heap.lt_size q))];exact n
 ·rw [u09 (old b _ q)];exact q
 ·rw [u09 (old b _ q)];exact q
 ·rw [u09 (old b _ q),q];simp
 ·obtain ⟨o,es,ep,ho,r⟩:=hm
  exact ⟨o,es,ep,k _ o (Ne.symm f1.2.1) (Ne.symm f2.2.1) ho,r⟩
 ·by_cases hb:b=s.heap.objs.size
  ·subst hb;rw [u20] at q;cases q;exact new
  ·rw [u09 hb] at q
   refine (I.hok b u q).stay (fun c v hc z=>?_) (fun c z=>by rw [u09 (old c _ z)];exact z) fun c xs z=>by rw [u09 (old c _ z)];exact z
   rcases hc with y | y
   ·subst y;exact k _ v (nit _ u q).1 (nit _ u q).2 z
   ·exact k c v (nit c _ y).1 (nit c _ y).2 z
theorem v91:bootBuiltins "enumerate" = some (.type "enumerate"):=by decide
end L2
namespace L3
open PySem PySem.Spec PyProof.Rows L2
def enD:Nat->List D->List D
 | _,[]=>[]
 | i,d::r=>.tup [.int (i:Int),d]::enD (i+1) r
theorem ua7:∀ {i:Nat} {ds:List D},(enD i ds).length=ds.length
 | _,[]=>rfl
 | _,_::r=>by show (enD _ r).length+1=r.length+1;rw [ua7]
theorem v72:∀ {j i:Nat} {ds:List D} {d:D},ds[i]?=some d->(enD j ds)[i]?=some (.tup [.int ((j+i:Nat):Int),d])
 | j,0,d::r,_,h=>by cases h;rfl
 | j,i+1,d::r,e,h=>by
  have:=v72 (j:=j+1) (i:=i) (ds:=r) (d:=e) (by simpa using h)
  show (enD (j+1) r)[i]?=_
  rw [this,show j+1+i=j+(i+1) by omega]
 | _,_,[],_,h=>by simp at h
end L3
namespace Law
open PySem L2 L3 Rw
theorem un6 {i k m:Nat} (h:i+(k+1)=m):i+1+k=m:=by omega
theorem uc6 {v:Int} (h:0<=v):∃ x:Nat,v=(x:Int):=⟨v.toNat,by omega⟩
theorem vl6 {m:Nat} (h:m<=100000):-(2 ^ 62)<=(m:Int) /\ (m:Int) < 2 ^ 62:=⟨by omega,by omega⟩
theorem wc5 {j i:Nat} (h:j < i+1) (e:¬ i=j):j < i:=by omega
theorem wc4 {j i:Nat} (h:j < i+1) (e:¬ j=i):j < i:=by omega
theorem i_lt {i k m:Nat} (h:i+(k+1)=m):i < m:=by omega
theorem nlt {x sz:Nat} (h:(x:Int) < (sz:Int)):x < sz:=by omega
theorem wi2 {v:Int} {n:Nat} (h0:0<=v) (h:v < (n:Int)):v.toNat < n:=by omega
theorem cases4 {t:Int} (h0:0<=t) (h:t < 4):t=0 \/ t=1 \/ t=2 \/ t=3:=by omega
theorem ipos {n:Nat} (h:0 < n):(0:Int) < (n:Int):=by omega
theorem ismall {n:Nat} (h:n<=1000):(n:Int) < 1073741824:=by omega
theorem nint {i j:Nat} (h:¬ i=j):¬ (i:Int)=(j:Int):=by omega
theorem vx7 {a k m:Nat} (h:a+(k+1)<=m):a+k<=m:=by omega
theorem vg1 {a k m:Nat} (h:a+(k+1)<=m):a+1+k<=m:=by omega
theorem wk1 {a k m:Nat} (h:a+(k+1)<=m):a<=m:=by omega
structure StAt (G:Gp) (st:Addr):Prop where
 ex:∃ (a:Addr) (ns:List Int) (k r:Int),G st=some (.lst [.ref a,.int k,.int r]) /\ G a=some (.fro (ns.map .int)) /\ 0<=k /\ 0<=r /\ a ≠ st /\ ns.length<=63
structure Adv (st:Addr) (G G':Gp):Prop where
 at_:StAt G' st
 kp:∀ b o,b ≠ st->G b=some o->G' b=some o
theorem vy2 {c1 c2 A B:Prop} [Decidable c1] [Decidable c2] (h1:c1->c2->A) (h2:¬ (c1 /\ c2)->B):if decide c1=true then (if decide c2=true then A else B) else B:=by
 by_cases a:c1
 ·by_cases b:c2
  ·simpa [a,b] using h1 a b
  ·simpa [a,b] using h2 fun z=>b z.2
 ·simpa [a] using h2 fun z=>a z.1
theorem StAt.new {G:Gp} {st p:Addr} {o:DO} (h:StAt G st) (hp:G p=none):StAt (gup G p o) st:=by
 obtain ⟨a,ns,k,r,h1,h2,h3⟩:=h.ex;exact ⟨a,ns,k,r,by rw [u07 (gne h1 hp)];exact h1,by rw [u07 (gne h2 hp)];exact h2,h3⟩
theorem StAt.ne {G:Gp} {st p:Addr} (h:StAt G st) (hp:G p=none):p ≠ st:=by
 obtain ⟨a,ns,k,r,h1,h2,h3⟩:=h.ex;exact Ne.symm (gne h1 hp)
theorem StAt.set {G:Gp} {st p:Addr} {xs ys:List D} (h:StAt G st) (hp:G p=some (.lst xs)) (hne:p ≠ st):StAt (gup G p (.lst ys)) st:=by
 obtain ⟨a,ns,k,r,h1,h2,h3⟩:=h.ex;have:a ≠ p:=by intro e;rw [e,hp] at h2;cases h2
 exact ⟨a,ns,k,r,by rw [u07 (Ne.symm hne)];exact h1,by rw [u07 this];exact h2,h3⟩
theorem Adv.refl {G:Gp} {st:Addr} (h:StAt G st):Adv st G G:=⟨h,fun _ _ _ e=>e⟩
theorem Adv.trans {st:Addr} {G G1 G2:Gp} (a:Adv st G G1) (b:Adv st G1 G2):Adv st G G2:=⟨b.at_,fun c o hc e=>b.kp c o hc (a.kp c o hc e)⟩
theorem Adv.new {st p:Addr} {G G1:Gp} {o:DO} (a:Adv st G G1) (hp:G1 p=none):Adv st G (gup G1 p o):=⟨a.at_.new hp,fun c u hc e=>by rw [u07 (gne (a.kp c u hc e) hp)];exact a.kp c u hc e⟩
theorem Adv.own {st p:Addr} {G G1:Gp} {xs ys:List D} (a:Adv st G G1) (hp:G p=none) (h1:G1 p=some (.lst xs)) (hne:p ≠ st):Adv st G (gup G1 p (.lst ys)) :=
 ⟨a.at_.set h1 hne,fun c u hc e=>by rw [u07 (gne e hp)];exact a.kp c u hc e⟩
theorem Adv.none {st p:Addr} {G G1:Gp} (a:Adv st G G1) (hp:G1 p=none) (hne:p ≠ st):G p=none:=by
 cases e:G p with
 | none=>rfl
 | some o=>rw [a.kp p o hne e] at hp;cases hp
end Law
namespace Rw
open PySem L2 L3
theorem uh9 {α β:Type} {f:α->Option β}:∀ {xs:List α},(∀ x ∈ xs,∃ y,f x=some y)->∃ ys,xs.mapM f=some ys
 | [],_=>⟨[],rfl⟩
 | x::xs,h=>by
  obtain ⟨y,hy⟩:=h x List.mem_cons_self;obtain ⟨ys,hys⟩:=uh9 (xs:=xs) fun z hz=>h z (List.mem_cons_of_mem _ hz)
  exact ⟨y::ys,by rw [List.mapM_cons,hy,hys];rfl⟩
theorem ui3 {n:Nat}:∀ {ys:List Sn},(∀ y ∈ ys,eqN n y y=some true)->∃ bs,((ys.zip ys).mapM fun p=>eqN n p.1 p.2)=some bs /\ bs.all id=true
 | [],_=>⟨[],rfl,rfl⟩
 | y::ys,h=>by
  obtain ⟨bs,e,q⟩:=ui3 (ys:=ys) fun z hz=>h z (List.mem_cons_of_mem _ hz)
  refine ⟨true::bs,?_,by rw [List.all_cons,q];rfl⟩;rw [List.zip_cons_cons,List.mapM_cons,e,h y List.mem_cons_self];rfl
theorem uh8 {α β:Type} {f:α->Option β}:∀ {xs:List α} {ys:List β},xs.mapM f=some ys->∀ y ∈ ys,∃ x,f x=some y
 | [],ys,h,y,hy=>by
  have:ys=[]:=by simpa using h.symm
  subst this;cases hy
 | x::xs,ys,h,y,hy=>by
  rw [List.mapM_cons] at h;cases hx:f x with
  | none=>rw [hx] at h;cases h
  | some z =>
   rw [hx] at h;cases hr:xs.mapM f with
   | none=>rw [hr] at h;cases h
   | some r =>
    rw [hr] at h;have e:z::r=ys:=Option.some.inj h;subst e
    rcases List.mem_cons.mp hy with rfl | q
    ·exact ⟨x,hx⟩
    ·exact uh8 hr y q
theorem up2 {G:Gp}:∀ (n:Nat) {d:D} {s:Sn},snap G n d=some s->eqN n s s=some true
 | n,.non,s,h=>by cases n <;> (cases h;rfl)
 | n,.bl b,s,h=>by cases n <;> (cases h;cases b <;> rfl)
 | n,.int i,s,h=>by cases n <;> (cases h;simp [eqN,u45,eqF])
 | n,.str i,s,h=>by cases n <;> (cases h;simp [eqN,u45,eqF])
 | n,.ty _,s,h=>by cases n <;> cases h
 | 0,.tup _,s,h=>by cases h
 | 0,.ref _,s,h=>by cases h
 | n+1,.tup ds,s,h=>by
  obtain ⟨ys,e,rfl⟩:=Option.map_eq_some_iff.mp (show (ds.mapM (snap G n)).map Sn.tup=some s from h);obtain ⟨bs,e2,q⟩:=ui3 (n:=n) (ys:=ys) fun y hy=>by obtain ⟨x,hx⟩:=uh8 e y hy;exact up2 n hx
  show (if ys.length=ys.length then ((ys.zip ys).mapM fun p=>eqN n p.1 p.2).map (fun bs=>bs.all id) else none)=_
  rw [if_pos rfl,e2,Option.map_some,q]
 | n+1,.ref a,s,h=>by
  obtain ⟨ds,e0,h⟩:=Option.bind_eq_some_iff.mp (show ((u16 (G a)).bind fun ds=>(ds.mapM (snap G n)).map Sn.lst)=some s from h);obtain ⟨ys,e,rfl⟩:=Option.map_eq_some_iff.mp h;obtain ⟨bs,e2,q⟩:=ui3 (n:=n) (ys:=ys) fun y hy=>by obtain ⟨x,hx⟩:=uh8 e y hy;exact up2 n hx
  show (if ys.length=ys.length then ((ys.zip ys).mapM fun p=>eqN n p.1 p.2).map (fun bs=>bs.all id) else some false)=_
  rw [if_pos rfl,e2,Option.map_some,q]
theorem snap_tup {G:Gp} {n:Nat} {ds:List D} (h:∀ d ∈ ds,∃ s,snap G n d=some s):∃ s,snap G (n+1) (.tup ds)=some s:=by
 obtain ⟨ys,e⟩:=uh9 h;exact ⟨.tup ys,by show (ds.mapM (snap G n)).map Sn.tup=_;rw [e];rfl⟩
theorem u24 {G:Gp} {n:Nat} {i:Int}:∃ s,snap G n (.int i)=some s:=by cases n <;> exact ⟨_,rfl⟩
theorem u57 {G:Gp} {n:Nat} {i:Str}:∃ s,snap G n (.str i)=some s:=by cases n <;> exact ⟨_,rfl⟩
theorem all1 {p:D->Prop} {a:D} (h:p a):∀ d ∈ [a],p d:=fun d hd=>by cases List.mem_singleton.mp hd;exact h
theorem all2 {p:D->Prop} {a:D} {r:List D} (h:p a) (hr:∀ d ∈ r,p d):∀ d ∈ a::r,p d:=fun d hd=>by
 rcases List.mem_cons.mp hd with rfl | q
 ·exact h
 ·exact hr d q
theorem uq8 {G:Gp} {n:Nat} (o:Opd):∃ s,snap G (n+1) o.d=some s:=by
 cases o with
 | num m=>exact snap_tup (all2 u57 (all1 u24))
 | box y=>exact snap_tup (all2 u57 (all1 u24))
theorem vb6 {G:Gp} {n:Nat} (r:Row):∃ s,snap G (n+3) r.d=some s:=by
 cases r with
 | add x o=>exact snap_tup (all2 u57 (all2 u24 (all1 (uq8 o))))
 | take x o=>exact snap_tup (all2 u57 (all2 u24 (all1 (uq8 o))))
 | turn x i cs =>
  refine snap_tup (all2 u57 (all2 u24 (all2 u24 (all1 (snap_tup fun d hd=>?_)))));obtain ⟨c,_,rfl⟩:=List.mem_map.mp hd;exact snap_tup (all2 u24 (all1 u24))
 | swap x y=>exact snap_tup (all2 u57 (all2 u24 (all1 u24)))
 | go x m k=>exact snap_tup (all2 u57 (all2 u24 (all2 u24 (all1 u24))))
 | come x m k=>exact snap_tup (all2 u57 (all2 u24 (all2 u24 (all1 u24))))
theorem uz3 {G:Gp} {n:Nat} {a:Addr} {rs:List Row} (h:u16 (G a)=some (rs.map Row.d)):∃ s,snap G (n+4) (.ref a)=some s:=by
 obtain ⟨ys,e⟩:=uh9 (f:=snap G (n+3)) (xs:=rs.map Row.d) fun d hd=>by
  obtain ⟨r,_,rfl⟩:=List.mem_map.mp hd;exact vb6 r
 exact ⟨.lst ys,by show ((u16 (G a)).bind fun ds=>(ds.mapM (snap G (n+3))).map Sn.lst)=_;rw [h,Option.bind_some,e];rfl⟩
theorem snap_ref {G:Gp} {n:Nat} {a b:Addr} (h:u16 (G a)=u16 (G b)):snap G n (.ref a)=snap G n (.ref b):=by
 cases n with
 | zero=>rfl
 | succ n=>show ((u16 (G a)).bind _)=((u16 (G b)).bind _);rw [h]
end Rw
namespace Law
open PySem L2 L3 Rw
structure Pairs (rs:List Row):Prop where
 go:∀ (j x:Nat) (n:Int) (k:Nat),rs[j]?=some (Row.go x n k)->rs[k]?=some (.come x n j)
 co:∀ (j x:Nat) (n:Int) (k:Nat),rs[j]?=some (Row.come x n k)->rs[k]?=some (.go x n j)
theorem uw1 {α:Type} {xs:List α} {i:Nat} {x:α} (h:xs[i]?=some x):i < xs.length:=(List.getElem?_eq_some_iff.mp h).1
def od:Option Row->D
 | none=>.non
 | some r=>r.d
structure PairsO (os:List (Option Row)):Prop where
 go:∀ (j x:Nat) (n:Int) (k:Nat),os[j]?=some (some (Row.go x n k))->os[k]?=some (some (.come x n j))
 co:∀ (j x:Nat) (n:Int) (k:Nat),os[j]?=some (some (Row.come x n k))->os[k]?=some (some (.go x n j))
theorem PairsO.plain {os:List (Option Row)} {i:Nat} {r:Row} (h:PairsO os) (hi:os[i]?=some none) (hr:r.plain=true):PairsO (os.set i (some r)):=by
 have hl:=uw1 hi;refine ⟨fun j x n k e=>?_,fun j x n k e=>?_⟩
 ·rw [List.getElem?_set] at e ⊢
  by_cases hj:i=j
  ·subst hj;rw [if_pos rfl,if_pos hl] at e;cases e;cases hr
  ·rw [if_neg hj] at e
   have q:=h.go j x n k e
   by_cases hk:i=k
   ·subst hk;rw [hi] at q;cases q
   ·rw [if_neg hk];exact q
 ·rw [List.getElem?_set] at e ⊢
  by_cases hj:i=j
  ·subst hj;rw [if_pos rfl,if_pos hl] at e;cases e;cases hr
  ·rw [if_neg hj] at e
   have q:=h.co j x n k e
   by_cases hk:i=k
   ·subst hk;rw [hi] at q;cases q
   ·rw [if_neg hk];exact q
theorem PairsO.pair {os:List (Option Row)} {i l:Nat} {x:Nat} {n:Int} {a b:Row} (h:PairsO os) (hi:os[i]?=some none) (hl:os[l]?=some none) (hne:l ≠ i) (hab:(a=.go x n l /\ b=.come x n i) \/ (a=.come x n l /\ b=.go x n i)) :
  PairsO ((os.set i (some a)).set l (some b)):=by
 have li:=uw1 hi;have ll:=uw1 hl;have at_:∀ j,((os.set i (some a)).set l (some b))[j]?=if j=l then some (some b) else if j=i then some (some a) else os[j]?:=by
  intro j;rw [List.getElem?_set,List.getElem?_set,List.length_set]
  by_cases h1:l=j
  ·subst h1;simp [ll]
  ·rw [if_neg h1,if_neg (Ne.symm h1)]
   by_cases h2:i=j
   ·subst h2;simp [li]
   ·rw [if_neg h2,if_neg (Ne.symm h2)]
 refine ⟨fun j y m k e=>?_,fun j y m k e=>?_⟩
 ·rw [at_] at e ⊢
  by_cases hj:j=l
  ·subst hj
   rw [if_pos rfl] at e
   rcases hab with ⟨ha,hb⟩ | ⟨ha,hb⟩
   ·rw [hb] at e;cases e
   ·rw [hb] at e;cases e;rw [if_neg (Ne.symm hne),if_pos rfl,ha]
  ·rw [if_neg hj] at e
   by_cases hji:j=i
   ·subst hji
    rw [if_pos rfl] at e
    rcases hab with ⟨ha,hb⟩ | ⟨ha,hb⟩
    ·rw [ha] at e;cases e;rw [if_pos rfl,hb]
    ·rw [ha] at e;cases e
   ·rw [if_neg hji] at e
    have q:=h.go j y m k e
    by_cases k1:k=l
    ·subst k1;rw [hl] at q;cases q
    ·by_cases k2:k=i
     ·subst k2;rw [hi] at q;cases q
     ·rw [if_neg k1,if_neg k2];exact q
 ·rw [at_] at e ⊢
  by_cases hj:j=l
  ·subst hj
   rw [if_pos rfl] at e
   rcases hab with ⟨ha,hb⟩ | ⟨ha,hb⟩
   ·rw [hb] at e;cases e;rw [if_neg (Ne.symm hne),if_pos rfl,ha]
   ·rw [hb] at e;cases e
  ·rw [if_neg hj] at e
   by_cases hji:j=i
   ·subst hji
    rw [if_pos rfl] at e
    rcases hab with ⟨ha,hb⟩ | ⟨ha,hb⟩
    ·rw [ha] at e;cases e
    ·rw [ha] at e;cases e;rw [if_pos rfl,hb]
   ·rw [if_neg hji] at e
    have q:=h.co j y m k e
    by_cases k1:k=l
    ·subst k1;rw [hl] at q;cases q
    ·by_cases k2:k=i
     ·subst k2;rw [hi] at q;cases q
     ·rw [if_neg k1,if_neg k2];exact q
theorem PairsO.empty {m:Nat}:PairsO (List.replicate m none):=by
 refine ⟨fun j x n k e=>?_,fun j x n k e=>?_⟩ <;> (rw [List.getElem?_replicate] at e;split at e <;> cases e)
theorem vi9 {os:List (Option Row)} (h:∀ j,j < os.length->∃ r,os[j]?=some (some r)):∃ rs:List Row,os=rs.map some:=by
 induction os with
 | nil=>exact ⟨[],rfl⟩
 | cons o os ih =>
  obtain ⟨r,hr⟩:=h 0 (by simp);obtain ⟨rs,hrs⟩:=ih fun j hj=>by
   obtain ⟨r,e⟩:=h (j+1) (by simpa using hj);exact ⟨r,by simpa using e⟩
  refine ⟨r::rs,?_⟩;have:o=some r:=by simpa using hr
  rw [this,hrs];rfl
theorem PairsO.pairs {rs:List Row} (h:PairsO (rs.map some)):Pairs rs:=by
 have e:∀ {j:Nat} {r:Row},rs[j]?=some r ↔ (rs.map some)[j]?=some (some r):=fun {j r}=>by
  rw [List.getElem?_map];cases rs[j]? <;> simp
 exact ⟨fun j x n k q=>e.mpr (h.go j x n k (e.mp q)),fun j x n k q=>e.mpr (h.co j x n k (e.mp q))⟩
theorem vv8 {rs:List Row}:(rs.map some).map od=rs.map Row.d:=by rw [List.map_map];rfl
end Law
namespace Law
open PySem L2 L3 Rw
theorem StAt.grow {G G':Gp} {st:Addr} (h:StAt G st) (g:Grow G G'):StAt G' st:=by
 obtain ⟨a,ns,k,r,h1,h2,h3⟩:=h.ex;exact ⟨a,ns,k,r,g.kp _ _ h1,g.kp _ _ h2,h3⟩
end Law
namespace L3
open PySem PySem.Spec PyProof.Rows L2
theorem mem2 {w a b:Str}:decide (w ∈ [a,b])=(decide (w=a) || decide (w=b)):=by
 by_cases h1:w=a
 ·simp [h1]
 ·by_cases h2:w=b
  ·simp [h2]
  ·simp [h1,h2]
theorem u39:(∀ w a b G q,xInB false (.str w) (.tup [.str a,.str b]) G q=q (.bl (decide (w=a) || decide (w=b))) G) /\ (∀ w a b G q,xInB true (.str w) (.tup [.str a,.str b]) G q=q (.bl (!(decide (w=a) || decide (w=b)))) G) /\
  (∀ v a G q,xInB true (.int v) (.ref a) G q=(match u16 (G a) with | some ds=>(match intsOf ds with | some ws=>q (.bl (!decide (v ∈ ws))) G | none=>False) | none=>False)) /\
  (∀ v a G q,xInB false (.int v) (.ref a) G q=(match u16 (G a) with | some ds=>(match intsOf ds with | some ws=>q (.bl (decide (v ∈ ws))) G | none=>False) | none=>False)) /\
  (∀ i j G q,xEqB true (.bl i) (.bl j) G q=q (.bl (!decide (i=j))) G) /\ (∀ i j G q,xEqB false (.bl i) (.bl j) G q=q (.bl (decide (i=j))) G) /\
  (∀ a b G q,xAdd (.ref a) (.ref b) G q=(match G a,G b with | some (.lst xs),some (.lst ys)=>xs.length+ys.length<=sizeLine /\ ∀ p,G p=none->q (.ref p) (gup G p (.lst (xs++ys))) | _,_=>False)) /\ ((2<=sizeLine)=True):=by
 refine ⟨fun w a b G q=>?_,fun w a b G q=>?_,fun _ _ _ _=>rfl,fun _ _ _ _=>rfl,fun _ _ _ _=>rfl,fun _ _ _ _=>rfl,fun _ _ _ _=>rfl,eq_true (by decide)⟩
 ·show q (.bl (decide (w ∈ [a,b]))) G=_
  rw [mem2]
 ·show q (.bl (!decide (w ∈ [a,b]))) G=_
  rw [mem2]
end L3
namespace Rw
open PySem L2 L3
def rb:Row->List Int
 | .add _ (.box y)=>[(y:Int)]
 | .take _ (.box y)=>[(y:Int)]
 | .turn _ _ cs=>cs.map fun c=>(c.1:Int)
 | .swap _ y=>[(y:Int)]
 | _=>[]
def Row.x:Row->Nat
 | .add x _=>x
 | .take x _=>x
 | .turn x _ _=>x
 | .swap x _=>x
 | .go x _ _=>x
 | .come x _ _=>x
theorem vn0 (r:Row):(∃ w x o,(r=.add x o \/ r=.take x o) /\ r.d=.tup [.str w,.int (x:Int),o.d] /\ (decide (w=("add" : Str)) || decide (w=("take" : Str)))=true) \/ (∃ x i cs,r=.turn x i cs) \/ (∃ x y,r=.swap x y) \/
  ∃ w x n k,(r=.go x n k \/ r=.come x n k) /\ r.d=.tup [.str w,.int (x:Int),.int n,.int (k:Int)] /\ (decide (w=("add" : Str)) || decide (w=("take" : Str)))=false /\ (w=("turn" : Str))=False /\ (w=("swap" : Str))=False /\ (decide (w=("go" : Str)) || decide (w=("come" : Str)))=true:=by
 cases r with
 | add x o=>exact .inl ⟨_,x,o,.inl rfl,rfl,by decide⟩
 | take x o=>exact .inl ⟨_,x,o,.inr rfl,rfl,by decide⟩
 | turn x i cs=>exact .inr (.inl ⟨x,i,cs,rfl⟩)
 | swap x y=>exact .inr (.inr (.inl ⟨x,y,rfl⟩))
 | go x n k=>exact .inr (.inr (.inr ⟨_,x,n,k,.inl rfl,rfl,by decide,uv4,uv5,by decide⟩))
 | come x n k=>exact .inr (.inr (.inr ⟨_,x,n,k,.inr rfl,rfl,by decide,uk1,uk2,by decide⟩))
end Rw
namespace Law
open PySem L2 L3 Rw
theorem Pairs.lt {rs:List Row} (hp:Pairs rs) {j:Nat} {r:Row} (h:rs[j]?=some r):∀ x n k,(r=.go x n k \/ r=.come x n k)->k < rs.length:=by
 intro x n k hr
 rcases hr with rfl | rfl
 ·exact uw1 (hp.go _ _ _ _ h)
 ·exact uw1 (hp.co _ _ _ _ h)
end Law
namespace L2
open PySem PySem.Spec PyProof.Rows
theorem Inv.turnedN {X:Cx} {pins:List (Addr × Obj)} {σ:List (Option V)} {H:Hp} {s:Shared} {h':Heap} {t':Nat} {fp:List Addr} (I:Inv X pins σ H s) (k:∀ b o,b ∉ fp->s.heap.get? b=some o->h'.get? b=some o)
  (f:∀ b ∈ fp,FpOk X pins H b):Inv X pins σ H { s with heap:=h',toks:=t' }:=by
 have nit:∀ b u,H b=some u->b ∉ fp:=fun b u e z=>by rw [(f b z).1] at e;cases e
 refine I.step (g':=s.gens) (d':=s.drawn) (ch:=fp) (fun b hb=>?_) (fun b o _ _ hc e _=>k b o hc e) (fun b o _ _ hc e _=>⟨o.slots,k b o hc e⟩) (fun _ _ _ _ n=>n)
  (fun b o hc e=>⟨o,k b o hc e⟩) (fun _ _ e=>e) (fun _ _ _ e=>e) (fun b ps e=>⟨#[],by rw [e];simp⟩) (fun m hm=>?_) (fun b u e=>?_) I.bare
 ·obtain ⟨g0,g1,g2,g3,g4,g5⟩:=f b hb
  exact ⟨g3,g1,g4,g5⟩
 ·obtain ⟨o,es,ep,ho,r⟩:=hm
  exact ⟨o,es,ep,k _ o (fun z=>(f _ z).2.1 rfl) ho,r⟩
 ·refine (I.hok b u e).stay (fun c v hc q=>k c v ?_ q) (fun _ q=>q) fun _ _ q=>q
  rcases hc with z | z
  ·rw [z];exact nit b u e
  ·exact nit c _ z
theorem Inv.turnedL {X:Cx} {pins:List (Addr × Obj)} {σ:List (Option V)} {H:Hp} {s:Shared} {h':Heap} {t':Nat} {fp:List Addr} {o:HO} (I:Inv X pins σ H s) (k:∀ b o,b ∉ fp->s.heap.get? b=some o->h'.get? b=some o)
  (f:∀ b ∈ fp,FpOk X pins H b) (new:ObjOk X.prog X.w (upd H s.heap.objs.size o) h' s.heap.objs.size o):Inv X pins σ (upd H s.heap.objs.size o) { s with heap:=h',toks:=t' }:=by
 have hn:H s.heap.objs.size=none:=I.hok.fresh (Nat.le_refl _);have old:∀ b u,H b=some u->b ≠ s.heap.objs.size:=fun b u q z=>by rw [z,hn] at q;cases q
 have nit:∀ b u,H b=some u->b ∉ fp:=fun b u e z=>by rw [(f b z).1] at e;cases e
 refine I.step (g':=s.gens) (d':=s.drawn) (ch:=fp) (fun b hb=>?_) (fun b o _ _ hc q _=>k b o hc q) (fun b o _ _ hc q _=>⟨o.slots,k b o hc q⟩) (fun b u _ q n=>?_)
  (fun b o hc q=>⟨o,k b o hc q⟩) (fun b xs q=>?_) (fun b o u q=>?_) (fun b ps q=>⟨#[],?_⟩) (fun m hm=>?_) (fun b u q=>?_) I.bare
 ·obtain ⟨g0,g1,g2,g3,g4,g5⟩:=f b hb
  exact ⟨g3,g1,g4,g5⟩
 ·rw [u09 (Nat.ne_of_lt (Heap.lt_size q))];exact n
 ·rw [u09 (old b _ q)];exact q
 ·rw [u09 (old b _ q)];exact q
 ·rw [u09 (old b _ q),q];simp
 ·obtain ⟨o,es,ep,ho,r⟩:=hm
  exact ⟨o,es,ep,k _ o (fun z=>(f _ z).2.1 rfl) ho,r⟩
 ·by_cases hb:b=s.heap.objs.size
  ·subst hb;rw [u20] at q;cases q;exact new
  ·rw [u09 hb] at q
   refine (I.hok b u q).stay (fun c v hc z=>?_) (fun c z=>by rw [u09 (old c _ z)];exact z) fun c xs z=>by rw [u09 (old c _ z)];exact z
   rcases hc with y | y
   ·subst y;exact k _ v (nit _ u q) z
   ·exact k c v (nit c _ y) z
def Itz (K:W.Frag) (a b:Addr):It :=
 ⟨fun i H=>∃ xs ys x y,SqL K H a xs /\ SqL K H b ys /\ xs[i]?=some x /\ ys[i]?=some y,fun i H v H'=>∃ p x y,v=.ref p /\ H p=none /\ H'=upd H p (.tup [x,y]) /\ (∀ xs,SqL K H a xs->xs[i]?=some x) /\ ∀ ys,SqL K H b ys->ys[i]?=some y,
  fun i H=>∃ xs ys,SqL K H a xs /\ SqL K H b ys /\ (xs.length<=i \/ ys.length<=i)⟩
def ZpSt (a b z TI TO i1 i2:Addr) (i:Nat) (h:Heap):Prop:=IsZip h z TI TO .none /\ IsPair h TI (.ref i1) (.ref i2) /\ (∃ u v,IsPair h TO u v) /\ h.IsListIter i1 a i /\ h.IsListIter i2 b i
theorem vb1 {P:Program} {w:World} {K:W.Frag} {elts:List Expr} {x1} {pos:Pos} {a b z TI TO i1 i2:Addr} (ap:ZipApart z TI TO i1 i2 a b):Turn P w K (.Tuple elts x1 pos) (Itz K a b) [z,TI,TO,i1,i2] z (ZpSt a b z TI TO i1 i2) where
 mem:=by simp
 obj:=fun i h st c hc=>by
  obtain ⟨h1,h2,⟨u,v,h3⟩,h4,h5⟩:=st;simp only [List.mem_cons,List.not_mem_nil,or_false] at hc
  rcases hc with q | q | q | q | q <;> subst q
  ·exact ⟨_,h1,fun v z=>by cases (show Data.fields _=Data.cell v from z)⟩
  ·exact ⟨_,h2,fun v z=>by cases (show Data.seq _ _=Data.cell v from z)⟩
  ·exact ⟨_,h3,fun v z=>by cases (show Data.seq _ _=Data.cell v from z)⟩
  ·obtain ⟨o,e,c,d⟩:=h4
   exact ⟨o,e,fun v z=>by rw [d] at z;cases z⟩
  ·obtain ⟨o,e,c,d⟩:=h5
   exact ⟨o,e,fun v z=>by rw [d] at z;cases z⟩
 keep:=fun i h h' st k=>by
  obtain ⟨h1,h2,⟨u,v,h3⟩,h4,h5⟩:=st;exact ⟨k z (by simp) _ h1,k TI (by simp) _ h2,⟨u,v,k TO (by simp) _ h3⟩,h4.at fun o q=>k i1 (by simp) o q,h5.at fun o q=>k i2 (by simp) o q⟩
 item:=by
  intro X hP hw hK hc i pins s σ H E I hf st hg;subst hP hw hK;obtain ⟨h1,h2,⟨u0,v0,h3⟩,h4,h5⟩:=st;obtain ⟨xs,ys,x,y,hq,hq2,hx,hy⟩:=hg;obtain ⟨its,rv,p,hz⟩:=I.list hq;obtain ⟨its2,rv2,p2,hz2⟩:=I.list hq2;obtain ⟨u,hu,ru⟩:=rv.get hx;obtain ⟨u2,hu2,ru2⟩:=rv2.get hy;have hn:H s.heap.objs.size=none:=I.hok.fresh (Nat.le_refl _);have lt:∀ {c o},s.heap.get? c=some o->c ≠ s.heap.objs.size:=fun e=>Nat.ne_of_lt (Heap.lt_size e)
  refine wpAny_pyNext_zip_item ap h1 h2 h3 h4 h5 p.isList p2.isList (x:=u) (y:=u2) (by simpa using hu) (by simpa using hu2) fun h' k1 k2 k3 k4 k5 k6 k7=>?_
  refine ⟨_,rfl,wpAny_letOwnedTupleGo_zip k1 fun h'' m1 m2=>?_⟩
  replace m2:Heap.SameBut z h' h'':=m2
  have hk:∀ c o,c ∉ [z,TI,TO,i1,i2]->s.heap.get? c=some o->h''.get? c=some o:=fun c o hc q=>by
   simp only [List.mem_cons,List.not_mem_nil,or_false,not_or] at hc;exact (m2.2 c hc.1).trans (k7 c o hc.1 hc.2.2.1 hc.2.2.2.1 hc.2.2.2.2 q)
  have k5':=(m2.2 s.heap.objs.size (Ne.symm (lt h1))).trans k5;refine ⟨.ref s.heap.objs.size,upd H s.heap.objs.size (.tup [x,y]),I.turnedL (t':=s.toks) hk hf ?_,rfl,⟨_,x,y,rfl,hn,rfl,fun ws hy'=>by rw [I.list_inj hy' hq];exact hx,fun ws hy'=>by rw [I.list_inj hy' hq2];exact hy⟩,⟨m1,?_,⟨u,u2,?_⟩,?_,?_⟩,fun c hc=>?_⟩
  ·exact ⟨show 2<=sizeLine by decide,[u,u2],.cons ru (.cons ru2 .nil),⟨_,k5',rfl,⟨_,rfl⟩,rfl⟩⟩
  ·exact (m2.2 TI ap.TIz).trans (k7 TI _ ap.TIz ap.TITO ap.TIi1 ap.TIi2 h2)
  ·exact (m2.2 TO ap.TOz).trans k2
  ·exact k3.at fun o q=>(m2.2 i1 ap.i1z).trans q
  ·exact k4.at fun o q=>(m2.2 i2 ap.i2z).trans q
  ·rw [u09 ?_];exact (hf c hc).1
   simp only [List.mem_cons,List.not_mem_nil,or_false] at hc
   rcases hc with q | q | q | q | q <;> subst q
   ·exact lt h1
   ·exact lt h2
   ·exact lt h3
   ·obtain ⟨o,e,_⟩:=h4;exact lt e
   ·obtain ⟨o,e,_⟩:=h5;exact lt e
 done:=by
  intro X hP hw hK hc i pins s σ H E I hf st hg;subst hP hw hK;obtain ⟨h1,h2,⟨u0,v0,h3⟩,h4,h5⟩:=st;obtain ⟨xs,ys,hq,hq2,hx⟩:=hg;obtain ⟨its,rv,p,hz⟩:=I.list hq;obtain ⟨its2,rv2,p2,hz2⟩:=I.list hq2;have hl:=rv.length;have hl2:=rv2.length;refine wpAny_pyNext_zip_end (I.ok.hd hc) ap h1 h2 h3 h4 h5 p.isList p2.isList (by simp;omega) fun h' k=>⟨rfl,I.turnedN (fp:=[z,TI,TO,i1,i2]) (t':=s.toks) (fun c o hc q=>?_) hf⟩
  simp only [List.mem_cons,List.not_mem_nil,or_false,not_or] at hc;exact k c o hc.1 hc.2.2.1 hc.2.2.2.1 hc.2.2.2.2 q
 self:=fun _ _ _ _ _ st h=>wpAny_pyIter_zip st.1 h
def iZip (K:W.Frag) (ta:TA):TI:=fun σ H R=>ta σ H fun vs H1=>∃ a b,vs=[.ref a,.ref b] /\ (∃ xs,SqL K H1 a xs) /\ (∃ xs,SqL K H1 b xs) /\ R (Itz K a b) H1
theorem w67 {X:Cx} {elts:List Expr} {x1} {tpos:Pos} {a b:Expr} {ta:TA} {p pos:Pos} (hg:Gl X "zip") (hm:X.mg "zip" = none) (ha:PA X [a,b] ta) (hs:starEach [a,b] X.env=(false,eval a X.env)::starEach [b] X.env:=by rfl) (hs2:(backTo pos (starEach [b] X.env)).any (·.1)=false:=by rfl) :
  PI X (.Tuple elts x1 tpos) (.Call (.Name "zip" p) [a,b] [] pos) (iZip X.K ta):=by
 intro pins s σ H R I h;refine Call_ (ub0 I hg hm boot_zip (PyProof.Rows.callWith_type1 (thn (ha pos pins s σ H _ I h) fun us s1 ⟨vs,H1,I1,r1,q1⟩=>?_) hs hs2));obtain ⟨l,m,e,⟨xs,hq⟩,⟨ys,hq2⟩,q⟩:=q1;subst e;cases r1 with
 | cons r rr =>
  cases rr with
  | cons r2 rr =>
   cases rr;cases r;cases r2;obtain ⟨its,rv,pl,hz⟩:=I1.list hq;obtain ⟨its2,rv2,pl2,hz2⟩:=I1.list hq2;have hll:l < s1.heap.objs.size:=by obtain ⟨o,e,_⟩:=pl.isList;exact Heap.lt_size e
   have hlm:m < s1.heap.objs.size:=by obtain ⟨o,e,_⟩:=pl2.isList;exact Heap.lt_size e
   refine call_zip_2 pl.isList pl2.isList fun h' k1 k2 k3 k4 k5 k6 k7=>?_
   refine wpAny_pyIter_zip k1 ?_;have I2:Inv X pins σ H1 { s1 with heap:=h' }:=I1.kept (t':=s1.toks) k7
   refine ⟨_,_,_,_,H1,rfl,I2,vb1 (zipApart_new hll hlm),⟨k1,k2,⟨_,_,k3⟩,k4,k5⟩,fun c hc=>?_,q⟩;have hb:s1.heap.objs.size<=c:=by
    simp only [List.mem_cons,List.not_mem_nil,or_false] at hc
    rcases hc with q | q | q | q | q <;> subst q <;> omega
   exact I1.fpOk hb (I1.hok.fresh hb)
end L2
namespace L3
open PySem PySem.Spec PyProof.Rows L2
def zpD:List D->List D->List D
 | d::r,e::t=>.tup [d,e]::zpD r t
 | _,_=>[]
theorem um6:∀ {ds es:List D},(zpD ds es).length=min ds.length es.length
 | [],[]=>rfl
 | [],_::_=>by simp [zpD]
 | _::_,[]=>by simp [zpD]
 | _::r,_::t=>by show (zpD r t).length+1=_;rw [um6];simp
theorem ux7:∀ {i:Nat} {ds es:List D} {d e:D},ds[i]?=some d->es[i]?=some e->(zpD ds es)[i]?=some (.tup [d,e])
 | 0,d::r,e::t,_,_,h1,h2=>by cases h1;cases h2;rfl
 | i+1,d::r,e::t,_,_,h1,h2=>ux7 (i:=i) (ds:=r) (es:=t) (by simpa using h1) (by simpa using h2)
 | _,[],_,_,_,h,_=>by simp at h
 | _,_::_,[],_,_,_,h=>by simp at h
theorem v49 {K:W.Frag} {H0:Hp} {a b:Addr} {ds es:List D}:ItRel K H0 ⟨zpD ds es,fun G=>u16 (G a)=some ds /\ u16 (G b)=some es⟩ (Itz K a b) where
 go:=fun i G H l c ok hi=>by
  obtain ⟨xs,s,r⟩:=u19 c ok.1;obtain ⟨ys,s2,r2⟩:=u19 c ok.2;rw [um6] at hi;exact ⟨xs,ys,xs[i]'(by rw [<- r.length];omega),ys[i]'(by rw [<- r2.length];omega),s,s2,List.getElem?_eq_getElem _,List.getElem?_eq_getElem _⟩
 stop:=fun i G H l c ok hi=>by
  obtain ⟨xs,s,r⟩:=u19 c ok.1;obtain ⟨ys,s2,r2⟩:=u19 c ok.2;rw [um6] at hi;exact ⟨xs,ys,s,s2,by rw [<- r.length,<- r2.length];omega⟩
 yld:=fun i G H x H' l c ok hi y=>by
  obtain ⟨p,v,v2,rfl,hp,rfl,y,y2⟩:=y;obtain ⟨xs,s,r⟩:=u19 c ok.1;obtain ⟨ys,s2,r2⟩:=u19 c ok.2;obtain ⟨d,hd,rd⟩:=r.at_ (y xs s)
  obtain ⟨e,he,re⟩:=r2.at_ (y2 ys s2)
  refine ⟨c.side hp,Le.fresh hp,.tup [d,e],ux7 hd he,?_⟩;rw [RelD];exact ⟨p,_,rfl,SqT.of u20,.cons (RelD.le (Le.fresh hp) rd) (.cons (RelD.le (Le.fresh hp) re) .nil)⟩
def wZip (t:TA3):TI3:=fun σ G r=>t σ G fun ds G1=>match ds with
 | [.ref a,.ref b]=>(match u16 (G1 a),u16 (G1 b) with | some ds,some es=>r ⟨zpD ds es,fun G=>u16 (G a)=some ds /\ u16 (G b)=some es⟩ G1 | _,_=>False)
 | _=>False
theorem ve7 {K:W.Frag} {t:TA3} {σ:L2.St} {H:Hp} {R:It->Hp->Prop} (h:lowI K (wZip t) σ H R):iZip K (lowA K t) σ H R:=by
 obtain ⟨σd,G,q,rs,c,t,f⟩:=h;refine ⟨σd,G,_,rs,c,t,fun ds G1 vs H1 r1 c1 l1 t1=>?_⟩;split at t1
 ·rename_i a b
  split at t1
  ·rename_i ds es e e2
   obtain ⟨v,vs',rfl,rv,r2⟩:=r1.inv_cons;obtain ⟨v2,rfl,rv2⟩:=r2.one;cases rv.ref_inv;cases rv2.ref_inv;obtain ⟨xs,s1,q1⟩:=u19 c1 e;obtain ⟨ys,s2,q2⟩:=u19 c1 e2;exact ⟨a,b,rfl,⟨xs,s1⟩,⟨ys,s2⟩,f _ _ _ _ v49 c1 l1 t1⟩
  ·exact t1.elim
 ·exact t1.elim
theorem wk3 {X:Cx} {elts:List Expr} {x1} {tpos:Pos} {a b:Expr} {ts:TA3} {p pos:Pos} (hg:Gl X "zip") (hm:X.mg "zip" = none) (ha:A3 X [a,b] ts) (hs:starEach [a,b] X.env=(false,eval a X.env)::starEach [b] X.env:=by rfl) (hs2:(backTo pos (starEach [b] X.env)).any (·.1)=false:=by rfl) :
  I3 X (.Tuple elts x1 tpos) (.Call (.Name "zip" p) [a,b] [] pos) (wZip ts):=un2 (w67 hg hm ha hs hs2) fun _ _ _=>ve7
end L3
namespace L3
open PySem PySem.Spec PyProof.Rows L2 Rw
abbrev Mv:=Bool × Nat
def nD (x:Nat):D:=.int (x:Int)
def stb (k m:Nat):Bool:=m.testBit (k - 1)
def xr (m k:Nat):Nat:=m ^^^ 2 ^ (k - 1)
def hi (m:Nat):Nat:=if m=0 then 0 else m.log2+1
def okw:Nat->List Mv->Prop
 | _,[]=>True
 | m,p::r=>(1<=p.2 /\ p.2<=900) /\ p.1=!stb p.2 m /\ okw (xr m p.2) r
def fin:Nat->List Mv->Nat
 | m,[]=>m
 | m,p::r=>fin (xr m p.2) r
def low:Nat->List Mv->Nat
 | m,[]=>hi m
 | m,p::r=>min (low (xr m p.2) r) (hi m)
def thw:Nat->List Mv->List Mv
 | _,[]=>[]
 | m,p::r=>if p.2<=low (xr m p.2) r then p::thw (xr m p.2) r else thw (xr m p.2) r
def once (w:List Mv):List Mv:=thw 0 w
theorem at_getD {α:Type} {xs:List α} {v:Int} (h0:0<=v) (h1:v < (xs.length:Int)):∃ x,x ∈ xs /\ atI xs v=some x:=by
 have h2:v.toNat < xs.length:=by omega
 refine ⟨xs[v.toNat],List.getElem_mem _,?_⟩;unfold atI ixN;rw [if_pos h0,if_pos h1,Option.bind_some,List.getElem?_eq_getElem h2]
def hD (x:Nat):D:=nD (hi x)
theorem u75:∀ bs:List Bool,up9 (bs.map D.bl)=some bs
 | []=>rfl
 | b::bs=>by rw [List.map_cons,up9,u75 bs];rfl
theorem va0 {G:Gp} {a b:Addr} {xs ys:List D} {q:DK} (ha:G a=some (.lst xs)) (hb:G b=some (.lst ys)) (hz:xs.length+ys.length<=sizeLine) (k:∀ p,G p=none->q (.ref p) (gup G p (.lst (xs++ys)))):xAdd (.ref a) (.ref b) G q:=by
 unfold xAdd;simp only [ha,hb];exact ⟨hz,k⟩
theorem vi3 {α:Type} {xs:List α} {n:Nat}:cutD xs none (some (n:Int))=xs.take n:=by
 unfold cutD;rw [HT.sIx_none,HT.sIx_nat,List.drop_zero,Nat.sub_zero]
 rcases Nat.le_total n xs.length with h | h
 ·rw [Nat.min_eq_left h]
 ·rw [Nat.min_eq_right h,List.take_of_length_le (Nat.le_refl _),List.take_of_length_le h]
abbrev Pm:=Option Mv
def nxp (m:Nat):Pm->Nat
 | none=>m
 | some p=>xr m p.2
def okm (m:Nat):Pm->Prop
 | none=>True
 | some p=>(1<=p.2 /\ p.2<=24) /\ p.1=!stb p.2 m
def okp:Nat->List Pm->Prop
 | _,[]=>True
 | m,p::r=>okm m p /\ okp (nxp m p) r
theorem u40 {G:Gp} {a b:Addr} {xs ys:List D} {q:DK} (ha:G a=some (.lst xs)) (hb:G b=some (.lst ys)) (hz:xs.length+ys.length<=100000) (k:∀ p,G p=none->q (.ref p) (gup G p (.lst (xs++ys)))):xAdd (.ref a) (.ref b) G q :=
 va0 ha hb (Nat.le_of_lt (Nat.lt_of_le_of_lt hz (by decide))) k
end L3
namespace Law
open PySem L2 L3 Rw
theorem Adv.grow {G G1 G2:Gp} {st:Addr} (a:Adv st G G1) (g:Grow G1 G2):Adv st G G2:=⟨a.at_.grow g,fun c o h e=>g.kp _ _ (a.kp c o h e)⟩
end Law
namespace L3
open PySem PySem.Spec PyProof.Rows L2 Rw
def oD:Option Int->D
 | none=>.non
 | some w=>.int w
variable {pl pl':List Int} {s:Nat} {x y:Option Int}
section
variable {X:Cx} {K:W.Frag} {H:Hp}
def oV:Option Int->V
 | none=>.non
 | some w=>.int w
theorem uh2:∀ {xs:List (Option Int)} {vs:List V},RelDs K H (xs.map oD) vs->vs=xs.map oV
 | [],vs,r=>r.inv_nil
 | none::xs,vs,r=>by
  obtain ⟨x,ys,rfl,h1,h2⟩:=r.inv_cons;rw [uh2 h2,show x=V.non from h1.non_inv];rfl
 | some a::xs,vs,r=>by
  obtain ⟨x,ys,rfl,h1,h2⟩:=r.inv_cons;rw [uh2 h2,show x=V.int a from h1.int_inv];rfl
theorem vy9:∀ xs:List (Option Int),(xs.map oV).all ub5=true
 | []=>rfl
 | none::xs=>by rw [List.map_cons,List.all_cons,vy9 xs];rfl
 | some _::xs=>by rw [List.map_cons,List.all_cons,vy9 xs];rfl
theorem in_O:∀ xs:List (Option Int),inV V.non (xs.map oV)=decide (none ∈ xs)
 | []=>rfl
 | none::xs=>by simp [inV,oV,eqV]
 | some a::xs=>by
  have:=in_O xs;unfold inV at this ⊢;rw [List.map_cons,List.any_cons,this];simp [oV,eqV]
@[reducible] def xInN:R3:=fun x y G q=>∃ (a:Addr) (xs:List (Option Int)),x=.non /\ y=.ref a /\ u16 (G a)=some (xs.map oD) /\ q (.bl (decide (none ∈ xs))) G
theorem wh5 {k:Nat} {A:Around} (_:Room k A):Op3 X (compareOp .In) xInN:=u47 uk8 fun x y H Q ⟨d,e,G,q,r1,r2,c,t,f⟩=>by
 obtain ⟨a,xs,rfl,rfl,es,t⟩:=t;obtain ⟨vs,s1,q1⟩:=u19 c es;cases r1.non_inv;obtain rfl:=uh2 q1;exact ⟨a,_,r2.ref_inv,.inl s1,rfl,vy9 xs,f _ _ _ _ (by rw [in_O];exact RelD.blI) c (Le.refl H) t⟩
end
variable {c:Nat->Int} {n p b e f z M:Nat} {x y:Option Int} {w:Int}
end L3
namespace L3
open PySem PySem.Spec PyProof.Rows L2
section
variable {X:Cx} {K:W.Frag} {H:Hp} {σ:L2.St} {a b c:Expr} {ta tb tc:TE3} {pos:Pos}
def u98 (r r':R3) (ta tb tc:TE3):TE3:=fun σ G q=>ta σ G fun x G1=>tb σ G1 fun y G2=>r x y G2 fun z G3=>match z with
 | .bl k=>if k=true then tc σ G3 fun w G4=>r' y w G4 q else q (.bl false) G3
 | _=>False
theorem ul1 {r r':R3} {Q:VK} (h:lowE K (u98 r r' ta tb tc) σ H Q):uz0 (lowR K r) (lowR K r') (lowE K ta) (lowE K tb) (lowE K tc) σ H Q:=by
 obtain ⟨σd,G,q,rs,c,t,f⟩:=h;refine ⟨σd,G,_,rs,c,t,fun d G1 v H1 r1 c1 l1 t1=>⟨σd,G1,_,rs.le l1,c1,t1,fun e G2 u H2 r2 c2 l2 t2=>⟨d,e,G2,_,RelD.le l2 r1,r2,c2,t2,fun z G3 x H3 r3 c3 l3 t3=>?_⟩⟩⟩;have l13:=l1.trans (l2.trans l3);split at t3
 ·rename_i k
  refine ⟨k,r3.bl_inv,?_⟩;cases k with
  | true =>
   rw [if_pos rfl] at t3 ⊢;exact ⟨σd,G3,_,rs.le l13,c3,t3,fun z2 G4 x2 H4 r4 c4 l4 t4=>⟨e,z2,G4,q,RelD.le (l3.trans l4) r2,r4,c4,t4,f.le (l13.trans l4)⟩⟩
  | false =>
   rw [if_neg Bool.false_ne_true] at t3 ⊢;exact f _ _ _ _ RelD.blI c3 l13 t3
 ·exact t3.elim
theorem vz4 {op op':CmpOp} {r r':R3} (ho:Op3 X (compareOp op) r) (ho':Op3 X (compareOp op') r') (ha:E3 X a ta) (hb:E3 X b tb) (hc:E3 X c tc) (hm:lastMarks [op,op'] [b,c]=false:=by with_unfolding_all rfl):E3 X (.Compare a [op,op'] [b,c] pos) (u98 r r' ta tb tc) :=
 u34 (ve1 ho ho' ha hb hc hm) fun _ _ _=>ul1
theorem vq2 {op op':CmpOp} {r r':R3} (ho:Op3 X (compareOp op) r) (ho':Op3 X (compareOp op') r') (ha:E3 X a ta) (hb:E3 X b tb) (hc:E3 X c tc) (hm:lastMarks [op,op'] [b,c]=false:=by with_unfolding_all rfl):T3 X (.Compare a [op,op'] [b,c] pos) (dB (u98 r r' ta tb tc)) :=
 va6 (vd0 ho ho' ha hb hc hm) fun σ H Q h=>by
  obtain ⟨σd,G,q,rs,c,t,f⟩:=h;exact ul1 (K:=X.K) ⟨σd,G,_,rs,c,t,fun x G1 v H1 r1 c1 l1 t1=>by
   split at t1
   ·rename_i k
    exact ⟨k,r1.bl_inv,f _ _ _ c1 l1 t1⟩
   ·exact t1.elim⟩
end
end L3
namespace L2
open PySem PySem.Spec PyProof.Rows
def jn (sep:Str) (ws:List Str):Str:=Builtin.Str.glued sep ws
section
variable {X:Cx}
theorem uj7:∀ {ws:List Str} {us:List Value},Vals (ws.map V.str) us->∃ l:List (Str × Tok),us=strValues l /\ l.map (·.1)=ws
 | [],_,.nil=>⟨[],rfl,rfl⟩
 | w::ws,_,.cons r t=>by
  obtain ⟨l,rfl,e⟩:=uj7 t;obtain ⟨k,rfl⟩:=r;exact ⟨(w,k)::l,rfl,by rw [List.map_cons,e]⟩
def rJoin (K:W.Frag):V->List V->Hp->VK->Prop:=fun x vs H Q=>∃ (sep:Str) (p:Addr) (ws:List Str),x=.str sep /\ vs=[.ref p] /\ SqL K H p (ws.map V.str) /\ Builtin.Str.tooLong ((ws.toArray).foldl (·+·.length+sep.length) 0)=false /\ (jn sep ws).length<=sizeLine /\ Q (.str (jn sep ws)) H
theorem vw1:MtR X "str.join" (rJoin X.K):=by
 intro pins s σ H x vs v us Q I rx rv h;obtain ⟨sep,p,ws,rfl,rfl,hq,hl,hz,q⟩:=h;obtain ⟨t,rfl⟩:=rx;obtain ⟨u,rfl,ru⟩:=rv.one;cases ru;obtain ⟨its,r',pl,_⟩:=I.list hq;obtain ⟨l,rfl,e⟩:=uj7 r';refine call_meets F.slot_str_join (typeIs_str _ _ _) F.entry_str_join (F.args_str_join_2 _ _) (meets_str_join_list sep t p l (by rw [e];exact hl)) ⟨pl.isList,?_⟩
 match l,e with
 | [],e =>
  subst e;exact ⟨hz,.str _,H,I.tok _,⟨_,rfl⟩,q⟩
 | [a],e =>
  subst e;exact ⟨.str _,H,I,⟨_,rfl⟩,q⟩
 | a::b::l,e =>
  subst e;exact ⟨hz,.str _,H,I.tok _,⟨_,rfl⟩,q⟩
end
end L2
namespace L3
open PySem PySem.Spec PyProof.Rows L2
section
variable {X:Cx} {K:W.Frag} {H:Hp} {o e:Expr} {es:List Expr} {to:TE3} {ts:TA3} {apos cpos:Pos}
@[reducible] def v32:M3:=fun x ds G q=>∃ (sep:Str) (a:Addr) (ws:List Str),x=.str sep /\ ds=[.ref a] /\ u16 (G a)=some (ws.map .str) /\ Builtin.Str.tooLong ((ws.toArray).foldl (·+·.length+sep.length) 0)=false /\ (jn sep ws).length<=sizeLine /\ q (.str (jn sep ws)) G
theorem ur3:∀ {ws:List Str} {vs:List V},RelDs K H (ws.map .str) vs->vs=ws.map V.str
 | [],vs,r=>r.inv_nil
 | w::ws,vs,r=>by
  obtain ⟨x,ys,rfl,h1,h2⟩:=r.inv_cons;rw [ur3 h2,h1.str_inv];rfl
theorem ty_str (K:W.Frag):∀ G H x v,Con K G H->RelD K H x v->tyD G "str" x->tyV K "str" v H:=by
 intro G H x v c r t;cases x with
 | str i=>cases r.str_inv;exact rfl
 | int _=>simp [tyD] at t
 | ref a=>cases e:G a with
  | none=>simp [tyD,e] at t
  | some o=>cases o <;> simp [tyD,e] at t
 | _=>exact t.elim
theorem u96 (ho:E3 X o to) (ha:A3 X (e::es) ts) (hbase:attributeBase o "join" X.env (eval o X.env)=eval o X.env:=by rfl)
  (hfew:((backTo cpos (starEach (e::es) X.env)).all (fun x=>!x.1) && (backToKw cpos (keywordEach [] X.env)).all (fun x=>x.1.isSome)
   && decide ((e::es).length+([]:List Keyword).length+(if ([]:List Keyword).isEmpty then 0 else 1) < 30))=true:=by rfl)
  (hline:(apos.endLine == cpos.line)=true:=by rfl) (hs:starEach (e::es) X.env=(false,eval e X.env)::starEach es X.env:=by rfl) (hplain:(backTo cpos (starEach es X.env)).any (·.1)=false:=by rfl) :
  E3 X (.Call (.Attribute o "join" apos) (e::es) [] cpos) (dBM "str" v32 to ts) :=
 u34 (v17 PySem.F.plainAttrs_str PySem.F.slot_str_join PySem.F.type_str_join (uf3 (r':=lowM X.K v32) vw1 <| by
  rintro x xs H Q ⟨d,ds,G,q,r1,r2,c,⟨sep,a,ws,rfl,rfl,es,h1,h2,t⟩,f⟩;obtain ⟨v,rfl,r3⟩:=r2.one;cases r3.ref_inv;cases r1.str_inv;obtain ⟨ys,s1,q1⟩:=u19 c es;obtain rfl:=ur3 q1;exact ⟨sep,a,ws,rfl,rfl,s1,h1,h2,f _ _ _ _ RelD.strI c (Le.refl H) t⟩) ho ha hbase hfew hline hs hplain) fun _ _ _=>ul2 (ty_str X.K)
end
end L3
namespace HT
open PySem PySem.Spec PyProof.Rows
variable {prog:Program} {w:World} {A:Around} {E:Value->Shared->Prop} {s:Shared}
theorem getItem_tuple_whole {t sl:Addr} {items:Array Value} {vl vu:Value} {lo hi:Option Int} {Q:Value->Shared->Prop} (ht:IsTup s.heap t items) (hs:s.heap.IsSliceOf sl vl vu .none) (pl:IsPart vl lo) (pu:IsPart vu hi)
  (hw:sIx items.size 0 lo=0 /\ sIx items.size items.size hi=items.size) (h:Q (.ref t) s):wpAny (model prog w) A (getItem (.ref t) (.ref sl)) Q E s:=by
 obtain ⟨os,hos,hcs,hds⟩:=id hs;have hTs:s.TypeIs (.ref sl) "slice" := ⟨os,hos,hcs⟩;unfold getItem
 try with_reducible refine wpAny_holding ?_
 first | refine wpAny_bind (wpAny_pure ?_) | skip
 refine wpAny_bind (wpAny_sequenceKey ht.typeIs (by decide) ?_);refine wpAny_bind (wpAny_callSpecial?_slot (name:=Str.ofString "__getitem__") ht.typeIs PyProof.Rows.slot_tuple_getitem
  (wpAny_call_entry PyProof.Rows.slot_tuple_getitem ht.typeIs entry_tuple_getitem ?_ (args_tuple_getitem _ _)))
 show wpAny _ _ (Builtin.Tuple.tupleItemsOf (.ref t) >>= _) _ _ s
 refine wpAny_bind (tupleItemsOf_ ht ?_);refine wpAny_bind (wpAny_typeOf hTs ?_);rw [if_pos (by decide)];refine wpAny_bind (u71 hs pl pu ?_);have hyes:((((sIx items.size 0 lo:Nat):Int) == 0 && (1:Int) == 1 && (sIx items.size items.size hi - sIx items.size 0 lo) == items.size)=true):=by
  rw [hw.1,hw.2];simp
 show wpAny _ _ (if (((sIx items.size 0 lo:Nat):Int) == 0 && (1:Int) == 1 && (sIx items.size items.size hi - sIx items.size 0 lo) == items.size)=true then _ else _) _ _ s
 rw [if_pos hyes];refine wpAny_bind (m:=Builtin.Tuple.tupleIsExact (.ref t)) (wpAny_bind (wpAny_typeOf ht.typeIs (wpAny_pure ?_)));rw [if_pos (by decide)];exact wpAny_bind (wpAny_rule (wpAny_pure ⟨_,rfl,wpAny_pure h⟩))
end HT
namespace L2
open PySem PySem.Spec PyProof.Rows
section
variable {X:Cx}
def rSlW (K:W.Frag):V->Option Int->Option Int->Hp->VK->Prop:=fun x lo hi H Q=>∃ a xs,x=.ref a /\ SqT K H a xs /\
 (HT.sIx xs.length 0 lo=0 /\ HT.sIx xs.length xs.length hi=xs.length) /\ Q (.ref a) H
theorem sl_tupW:SlR X (rSlW X.K):=by
 intro pins s σ H x v vl vu lo hi sl Q I rx hs pl pu h;obtain ⟨a,xs,rfl,hx,hw,q⟩:=h;cases rx;obtain ⟨its,r,ht,hz⟩:=I.tuple hx;have hlen:its.toArray.size=xs.length:=by rw [List.size_toArray];exact r.length.symm
 refine ⟨"tuple",_,PyProof.Rows.slot_tuple_getitem.lookup,ht.typeIs,?_⟩;exact HT.getItem_tuple_whole ht hs pl pu (by rw [hlen];exact hw) ⟨.ref a,H,I,rfl,q⟩
end
end L2
namespace L3
open PySem PySem.Spec PyProof.Rows L2
section
variable {X:Cx}
def wl4:R3:=fun x y G q=>match x,y with
 | .tup a,.tup b=>a.length+b.length<=sizeLine /\ q (.tup (a++b)) G
 | _,_=>False
def xSlT:RS3:=fun x lo hi G q=>match x with
 | .tup ds=>q (.tup (cutD ds lo hi)) G
 | _=>False
theorem w26:SlR X (v41 X.K xSlT):=uy3 (sl_tupW.or vk5) <| by
 rintro x lo hi H Q ⟨d,G,q,r1,c,t,f⟩;unfold xSlT at t;split at t
 ·rename_i ds
  obtain ⟨a,xs,rfl,s1,q1⟩:=r1.tup_inv
  by_cases hw:HT.sIx xs.length 0 lo=0 /\ HT.sIx xs.length xs.length hi=xs.length
  ·refine .inl ⟨a,xs,rfl,s1,hw,?_⟩
   refine f (.tup _) G (.ref a) _ ?_ c (Le.refl _) t;rw [RelD];have e:cutD ds lo hi=ds:=by
    unfold cutD;rw [q1.length,hw.1,hw.2,List.drop_zero,Nat.sub_zero,<- q1.length,List.take_length]
   rw [e];exact ⟨a,_,rfl,s1,q1⟩
  ·refine .inr ⟨a,xs,rfl,s1,hw,fun p hp=>?_⟩
   refine f (.tup _) G (.ref p) _ ?_ (c.side hp) (Le.fresh hp) t;rw [RelD];exact ⟨p,_,rfl,SqT.of u20,RelDs.le (Le.fresh hp) (q1.cut lo hi)⟩
 ·exact t.elim
end
end L3
namespace L2
open PySem PySem.Spec PyProof.Rows
abbrev VM:List Value:=[.type "ValueError",.type "Exception",.type "BaseException",.type "object"]
abbrev wh2 (nm q:Str) (C N:Addr) (bs bm:List Value) (sn:List Str) (sub:List Value) (ab:Bool) (col:Option Bool) (dd:Option Addr) (k0 k1 k2 k3 k5:Option Value):Obj:=excClassObj nm q C N bs bm true sn sub ab col dd k0 k1 k2 k3 k5 "ValueError.__new__"
def xcIn (K:W.Frag) (C:Addr) (bm:List Value):Bool :=
  match K.lookup C with
  | some ⟨.type "type",_,.cls cd,sl⟩ =>
    (match cd.mro,sl.toList with
     | .ref B::r,[_,_,_,_,some (.builtin i),_]=>B == C && r == bm && i == "ValueError.__new__" && cd.hasDict && !cd.hasDel && W.tailIn K VM bm
     | _,_=>false)
  | _=>false
def XcAt (C:Addr) (bm:List Value) (h:Heap):Prop:=∃ nm q N bs sn sub ab col dd k0 k1 k2 k3 k5,h.get? C=some (wh2 nm q C N bs bm sn sub ab col dd k0 k1 k2 k3 k5)
theorem um7 {K:W.Frag} {C:Addr} {bm:List Value} {h:Heap} (X:K.In h) (e:xcIn K C bm=true):XcAt C bm h /\ OwnTail h VM bm:=by
 unfold xcIn at e;split at e
 ·rename_i dd cd sl ho
  split at e
  ·rename_i B r k0 k1 k2 k3 i k5 hm hs
   simp only [Bool.and_eq_true,beq_iff_eq,Bool.not_eq_true'] at e;obtain ⟨⟨⟨⟨⟨rfl,rfl⟩,rfl⟩,hd⟩,hl⟩,ht⟩:=e;obtain ⟨nm,bs,mro,ns,qn,hdd,sn,sub,ab,col,del⟩:=cd;dsimp only at hm hl hd;subst hm hl hd;have hsl:sl=#[k0,k1,k2,k3,some (.builtin "ValueError.__new__"),k5]:=by
    obtain ⟨l⟩:=sl;simp only at hs;rw [hs]
   subst hsl;exact ⟨⟨nm,qn,ns,bs,sn,sub,ab,col,dd,k0,k1,k2,k3,k5,X _ _ ho⟩,W.tail_of_in X ht⟩
  ·cases e
 ·cases e
theorem XcAt.keeps {C:Addr} {bm:List Value} {h h':Heap} (x:XcAt C bm h) (k:∀ b o,h.get? b=some o->h'.get? b=some o):XcAt C bm h':=by
 obtain ⟨nm,q,N,bs,sn,sub,ab,col,dd,k0,k1,k2,k3,k5,e⟩:=x;exact ⟨nm,q,N,bs,sn,sub,ab,col,dd,k0,k1,k2,k3,k5,k _ _ e⟩
section
variable {prog:Program} {w:World} {A:Around} {E:Value->Shared->Prop} {K:W.Frag} {C fI:Addr} {bm:List Value}
theorem vq1 {h:Heap} {g:Array GenState} {d:Drawn} {t:Nat} {os:OsState} {us:List Value} {Q:Fin->Shared->Prop} (X:K.In h) (hc:xcIn K C bm=true) (hi:W.findIn K (.ref C) "__init__" = some (some (.ref fI))) (hf:W.isFn K (.ref fI)=true) (hl:us.length<=sizeLine)
  (hq:∀ h' e,Heap.MadeExcOf h h' e (.ref C) us->h.objs.size<=e->wpAny (model prog w) A (call (.ref fI) (.ref e::us)) (fun r s'=>r=.none /\ Q (.done (.ret (.ref e))) s') E ⟨h',g,d,t,os⟩) :
  wpAny (model prog w) A (Builtin.«type.__call__» ⟨.ref C::us,[]⟩) Q E ⟨h,g,d,t,os⟩:=by
 obtain ⟨⟨nm,q,N,bs,sn,sub,ab,col,dd,k0,k1,k2,k3,k5,hC⟩,T⟩:=um7 X hc;have VF:=PySem.F.excBase_ValueError;have hB:VM.contains (.type "ValueError")=true:=by decide
 repeat (first | with_reducible refine wpAny_madeBy_exc hC ?_ | with_reducible refine wpAny_loadPart_at hC ?_ | wp_step)
 refine codeAny_call_builtin_code (Code.quiet_builtin _ VF.quiet) (wpAny_check_new_subU VF hB T hC (codeAny_exc_new_subU VF hB VF T hC ?_ hl))
 show wpAny _ _ _ _ _ _
 have kk:∀ b o,h.get? b=some o->((h.push { cls:=.type "tuple",data:=.seq us.toArray }).push { cls:=.ref C,data:=.fields #[.ref h.objs.size,.none,.none,.none,.bool false,.none] }).get? b=some o:=fun b o e=>Heap.get?_push_of_some _ (Heap.get?_push_of_some _ e)
 have X1:=X.keeps kk;have hC1:=kk _ _ hC;have ge:((h.push { cls:=.type "tuple",data:=.seq us.toArray }).push { cls:=.ref C,data:=.fields #[.ref h.objs.size,.none,.none,.none,.bool false,.none] }).get? (h.objs.size+1)=some
   { cls:=.ref C,data:=.fields #[.ref h.objs.size,.none,.none,.none,.bool false,.none] }:=by heap_get
 have hcC:(Value.ref C::bm).contains (.ref C)=true:=by simp
 unfold isInstance
 repeat (first | with_reducible refine wpAny_loadPart_at ge ?_ | (with_reducible refine wpAny_isSubtype_exc hC1 ?_;rw [hcC]) | wp_step)
 show wpAny _ _ (typeLookup (.ref C) _) _ _ _
 refine (W.looks_findIn X1 hi).here (wpAny_holding (wpAny_bind ((W.bind_fn X1 _ (beq_iff_eq.mp hf)).here ?_)));refine wpAny_bind (wpAny_mono (hq _ (h.objs.size+1) ⟨kk,Heap.get?_none_of_le (Nat.le_succ _),h.objs.size,ge,Heap.get?_none_of_le (Nat.le_refl _),?_⟩ (Nat.le_succ _)) (fun r s' hr=>?_) fun _ _ x=>x)
 ·exact Heap.get?_push_of_some _ (Heap.get?_push_at rfl rfl)
 ·obtain ⟨rfl,hQ⟩:=hr
  wp_walk
  exact hQ
theorem w02 {s:Shared} {us:List Value} {Q:Value->Shared->Prop} (X:K.In s.heap) (hc:xcIn K C bm=true) (hi:W.findIn K (.ref C) "__init__" = some (some (.ref fI))) (hf:W.isFn K (.ref fI)=true) (hl:us.length<=sizeLine)
  (hq:∀ h' e,Heap.MadeExcOf s.heap h' e (.ref C) us->s.heap.objs.size<=e->wpAny (model prog w) (A.under (.builtin "type.__call__" ⟨.ref C::us,[]⟩)) (call (.ref fI) (.ref e::us)) (fun r s'=>r=.none /\ Q (.ref e) s') E { s with heap:=h' }) :
  wpAny (model prog w) A (call (.ref C) us) Q E s:=by
 obtain ⟨⟨nm,q,N,bs,sn,sub,ab,col,dd,k0,k1,k2,k3,k5,hC⟩,T⟩:=um7 X hc;obtain ⟨h,g,d,t,os⟩:=s;have t1:=tc_lookup;have t2:=tc_bind (.ref C);have t3:(⟨h,g,d,t,os⟩:Shared).TypeIs (.ref C) "type" := ⟨_,hC,rfl⟩;refine wpAny_call (codeAny_of_tree ?_)
 show wpAny _ _ (callAny (.ref C) _) _ _ _
 repeat (any_goals (first | assumption | with_reducible refine wpAny_loadPart_at hC ?_ | wp_step))
 exact And.intro rfl (codeAny_call_builtin_at (Code.quiet_builtin _ (by decide)) entry_typeCall (wpAny_check_type_call_sub hC (vq1 X hc hi hf hl fun h' e hm le=>hq h' e hm le)))
end
structure FlyO (lim:Nat) (H:Hp) (a C:Addr) (dx:Option Addr) (h:Heap) (oe:Obj) (vs:Array Value):Prop where
 la:lim<=a
 ha:H a=none
 ge:h.get? a=some oe
 cl:oe.cls=.ref C
 di:oe.dict=dx
 da:oe.data=.fields vs
structure FlyT (lim:Nat) (H:Hp) (a T:Addr) (h:Heap) (v:Value) (oT:Obj) (ts:Array Value):Prop where
 lt:lim<=T
 ne:T ≠ a
 hT:H T=none
 gT:h.get? T=some oT
 dT:oT.data=.fields ts
 t3:ts[3]?=some v
def Fly (fl:Value->Prop) (lim:Nat) (H:Hp) (a C:Addr) (dx:Option Addr) (h:Heap):Prop :=
 ∃ oe vs T oT ts v,FlyO lim H a C dx h oe vs /\ vs[1]?=some (.ref T) /\ FlyT lim H a T h v oT ts /\ fl v
def FlyN (lim:Nat) (H:Hp) (a C:Addr) (dx:Option Addr) (h:Heap):Prop:=∃ oe vs,FlyO lim H a C dx h oe vs /\ vs[1]?=some .none
theorem Fly.imp {f g:Value->Prop} {lim:Nat} {H:Hp} {a C:Addr} {dx:Option Addr} {h:Heap} (x:Fly f lim H a C dx h) (k:∀ v,f v->g v):Fly g lim H a C dx h:=by
 obtain ⟨oe,vs,T,oT,ts,v,o,e,t,z⟩:=x;exact ⟨oe,vs,T,oT,ts,v,o,e,t,k v z⟩
theorem FlyO.low {lim lim':Nat} {H:Hp} {a C:Addr} {dx:Option Addr} {h:Heap} {oe:Obj} {vs:Array Value} (x:FlyO lim H a C dx h oe vs) (l:lim'<=lim):FlyO lim' H a C dx h oe vs:=⟨Nat.le_trans l x.la,x.ha,x.ge,x.cl,x.di,x.da⟩
theorem Fly.low {f:Value->Prop} {lim lim':Nat} {H:Hp} {a C:Addr} {dx:Option Addr} {h:Heap} (x:Fly f lim H a C dx h) (l:lim'<=lim):Fly f lim' H a C dx h:=by
 obtain ⟨oe,vs,T,oT,ts,v,o,e,t,z⟩:=x;exact ⟨oe,vs,T,oT,ts,v,o.low l,e,⟨Nat.le_trans l t.lt,t.ne,t.hT,t.gT,t.dT,t.t3⟩,z⟩
section
variable {M:Model} {A:Around} {E:Value->Shared->Prop} {s:Shared}
theorem uf9 {base:Heap} {env:Env} {outer:List Env} {L a:Addr} {oe:Obj} {vs:Array Value} {head:Value} {had:Bool} {Q:Unit->Shared->Prop}
  (hfr:A.frames=some (env::outer)) (hl:s.heap.FunFrames base (env::outer)) (hf:env.frame=some L) (ha:s.heap.get? a=some oe) (hd:oe.data=.fields vs) (hz:1 < vs.size)
  (k:∀ (h':Heap) (oT:Obj) (ts:Array Value),(∀ b o,b ≠ a->b ∉ frs (env::outer)->s.heap.get? b=some o->h'.get? b=some o)->(∀ b o,b ≠ a->s.heap.get? b=some o->∃ sl,h'.get? b=some { o with slots:=sl }) ->
   h'.get? a=some (oe.mapFields (·.setIfInBounds 1 (.ref s.heap.objs.size)))->h'.get? s.heap.objs.size=some oT->oT.data=.fields ts->ts[3]?=some (rawInt L)->Q () { s with heap:=h' }) :
  wpAny M A (do let x <- frameOf env;let pl <- entryPlaceOf L had;let b <- EntryCells.newEntry head x .none (rawInt L) .none pl;setField (.ref a) 1 b) Q E s:=by
 have na:a ∉ frs (env::outer):=fun hm=>by
  obtain ⟨_,o,ho,nf⟩:=hl.mem hm;rw [ha] at ho;cases ho;exact nf vs hd
 refine wpAny_bind (wpAny_frameOf_fun hfr hl hf fun h1 hs=>wpAny_bind (wpAny_entryPlaceOf fun pl hp=>?_));have ha1:h1.get? a=some oe:=by rw [hs.2.1 a na];exact ha
 have z1:h1.objs.size=s.heap.objs.size:=hs.1;unfold EntryCells.newEntry newFields;refine wpAny_bind (wpAny_newObj_type (wpAny_setField (Heap.get?_push_of_some _ ha1) hd hz ?_) (hp.sizeOk5 _ _ _ _ _));rw [<- z1] at k;have nT:h1.objs.size ≠ a:=Nat.ne_of_gt (Heap.lt_size ha1);have up:∀ b o,b ≠ a->h1.get? b=some o->((h1.push { cls:=.type "traceback",dict:=none,data:=.fields ([head,.ref L,.none,rawInt L,.none]++(if pl.isEmpty then List.replicate 6 Value.none else pl)).toArray }).update a (Obj.mapFields (·.setIfInBounds 1 (Value.ref h1.objs.size)))).get? b=some o :=
  fun b o n e=>(Heap.get?_update_other _ _ (Ne.symm n)).trans (Heap.get?_push_of_some _ e)
 refine k _ { cls:=.type "traceback",dict:=none,data:=.fields ([head,.ref L,.none,rawInt L,.none]++(if pl.isEmpty then List.replicate 6 Value.none else pl)).toArray } _ (fun b o n nb e=>up b o n ?_) (fun b o n e=>?_) ?_ ?_ rfl ?_
 ·rw [hs.2.1 b nb];exact e
 ·obtain ⟨sl,q⟩:=hs.2.2 b o e
  exact ⟨sl,up b _ n q⟩
 ·exact Heap.get?_update_self _ (Heap.get?_push_of_some _ ha1) (Obj.isFreed_of_fields (Obj.data_mapFields hd _))
 ·rw [Heap.get?_update_other _ _ (Ne.symm nT)]
  exact Heap.get?_push_size h1 rfl
 ·simp
end
section
variable {X:Cx} {pins:List (Addr × Obj)} {σ:St} {H:Hp} {s:Shared} {a C T:Addr} {dx:Option Addr} {lim:Nat}
theorem Inv.rec_ne (I:Inv X pins σ H s) {o:Obj} {vs:Array Value} (h:s.heap.get? a=some o) (hd:o.data=.fields vs):a ≠ X.env.locals /\ (∀ x c,X.env.cells.lookup x=some c->c ≠ a) /\ a ∉ X.fs:=by
 refine ⟨fun e=>?_,fun x c e z=>?_,fun hb=>?_⟩
 ·obtain ⟨m,⟨o',es,ep,ho,hd',_⟩,_⟩:=I.loc
  rw [<- e,h] at ho;cases ho;rw [hd] at hd';cases hd'
 ·obtain ⟨v,o',ho,hd'⟩:=I.cell x c e
  rw [z,h] at ho;cases ho;rw [hd] at hd';cases hd'
 ·obtain ⟨_,o',ho,hd'⟩:=I.funs.mem hb
  rw [h] at ho;cases ho;exact hd' vs hd
theorem Inv.noted {h':Heap} {ch:List Addr} (I:Inv X pins σ H s) (hs:X.stack=X.env::X.outer) (hf:X.env.frame=some X.env.locals) (hc:∀ b ∈ ch,X.s₀.heap.objs.size<=b /\ H b=none /\ (∀ p ∈ X.pn++pins,p.1 ≠ b) /\ (∀ o,s.heap.get? b=some o->∃ vs,o.data=.fields vs) /\ ∃ o,s.heap.get? b=some o)
  (k:∀ b o,b ∉ ch->b ∉ frs (X.env::X.outer)->s.heap.get? b=some o->h'.get? b=some o) (sl:∀ b o,b ∉ ch->s.heap.get? b=some o->∃ sl,h'.get? b=some { o with slots:=sl }):Inv X pins σ H { s with heap:=h' }:=by
 have fr:∀ b,b ∈ frs (X.env::X.outer) ↔ b=X.env.locals \/ b ∈ X.fs:=fun b=>by
  unfold Cx.fs frs;rw [List.filterMap_cons,hf];exact List.mem_cons
 have hcc:∀ b ∈ ch,b ≠ X.env.locals /\ (∀ x c,X.env.cells.lookup x=some c->c ≠ b) /\ b ∉ X.fs:=fun b hb=>by
  obtain ⟨_,_,_,f,o,e⟩:=hc b hb;obtain ⟨vs,d⟩:=f o e;exact I.rec_ne e d
 have lc:X.env.locals ∉ ch:=fun z=>(hcc _ z).1 rfl
 refine I.step (g':=s.gens) (t':=s.toks) (d':=s.drawn) (ch:=ch) (fun b hb=>⟨.inr (hc b hb).1,(hcc b hb).1,(hcc b hb).2.1,(hc b hb).2.2.1⟩) (fun b o n1 n2 n3 e n=>k b o n3 (fun z=>((fr b).mp z).elim n1 n2) e)
  (fun b o n1 n2 n3 e n=>sl b o n3 e) (fun _ _ _ _ n=>n) (fun b o n e=>let ⟨_,q⟩:=sl b o n e;⟨_,q⟩) (fun _ _ e=>e) (fun _ _ _ e=>e) (fun b ps e=>⟨#[],by rw [e];simp⟩) (fun m hm=>?_) (fun b u e=>?_) I.bare
 ·obtain ⟨o,es,ep,ho,r⟩:=hm
  obtain ⟨sl',q⟩:=sl _ o lc ho;exact ⟨_,es,ep,q,r⟩
 ·have nb:∀ c u,H c=some u->c ∉ ch /\ c ∉ frs (X.env::X.outer):=fun c u q=>by
   refine ⟨fun z=>?_,fun z=>?_⟩
   ·rw [(hc c z).2.1] at q;cases q
   ·rw [I.stkFree c (by rw [hs];exact z)] at q;cases q
  refine (I.hok b u e).stay (fun c v hc' q=>?_) (fun _ q=>q) fun _ _ q=>q
  rcases hc' with z | z
  ·subst z;exact k c v (nb c u e).1 (nb c u e).2 q
  ·exact k c v (nb c _ z).1 (nb c _ z).2 q
theorem FlyO.moved {oe oe':Obj} {vs vs':Array Value} {h h':Heap} (x:FlyO lim H a C dx h oe vs) (e:h'.get? a=some oe') (c:oe'.cls=oe.cls) (d:oe'.dict=oe.dict) (v:oe'.data=.fields vs'):FlyO lim H a C dx h' oe' vs' :=
 ⟨x.la,x.ha,e,c.trans x.cl,d.trans x.di,v⟩
theorem u61 (f:Array Value->Array Value) (o:Obj):(o.mapFields f).dict=o.dict:=by
 unfold Obj.mapFields;split <;> rfl
theorem uh5 {M:Model} {E:Value->Shared->Prop} {Q:Unit->Shared->Prop} (I:Inv X pins σ H s) (hs:X.stack=X.env::X.outer) (hf:X.env.frame=some X.env.locals) (hl:X.s₀.heap.objs.size<=lim) (hp:∀ p ∈ X.pn++pins,p.1 < lim)
  (F:FlyN lim H a C dx s.heap \/ Fly (fun v=>v=.none \/ v=rawInt X.env.locals) lim H a C dx s.heap)
  (k:∀ h',Inv X pins σ H { s with heap:=h' }->Fly (fun v=>v=rawInt X.env.locals) lim H a C dx h'->Q () { s with heap:=h' }):wpAny M X.A (noteFrame (.ref a) X.env) Q E s:=by
 have hfr:X.A.frames=some (X.env::X.outer):=by rw [<- hs];exact I.ok.frames
 have hFF:s.heap.FunFrames X.base (X.env::X.outer):=by rw [<- hs];exact I.stack
 have pn:∀ b,lim<=b->∀ p ∈ X.pn++pins,p.1 ≠ b:=fun b l p h e=>absurd (hp p h) (by rw [e];exact Nat.not_lt.mpr l)
 unfold noteFrame;simp only [hf]
 rcases F with ⟨oe,vs,o,v1⟩ | ⟨oe,vs,T,oT,ts,v,o,v1,t,fl⟩
 ·refine wpAny_bind (wpAny_field o.ge o.da v1 ?_)
  rw [if_neg (by decide)];refine uf9 hfr hFF hf o.ge o.da (Array.getElem?_eq_some_iff.mp v1).1 fun h' oT ts k1 k2 e1 e2 e3 e4=>k h' ?_ ?_
  ·refine I.noted hs hf (ch:=[a]) (fun b hb=>?_) (fun b o' n1 n2 e=>k1 b o' (by simpa using n1) n2 e) fun b o' n1 e=>k2 b o' (by simpa using n1) e
   have hb:b=a:=by simpa using hb
   subst hb;exact ⟨Nat.le_trans hl o.la,o.ha,pn b o.la,fun o' e=>by rw [o.ge] at e;cases e;exact ⟨_,o.da⟩,_,o.ge⟩
  ·refine ⟨_,_,s.heap.objs.size,oT,ts,_,o.moved e1 (Obj.cls_mapFields _ _) (u61 _ _) (Obj.data_mapFields o.da _),by simp [(Array.getElem?_eq_some_iff.mp v1).1],⟨Nat.le_trans o.la (Nat.le_of_lt (Heap.lt_size o.ge)),Nat.ne_of_gt (Heap.lt_size o.ge),I.hok.fresh (Nat.le_refl _),e2,e3,e4⟩,rfl⟩
 ·refine wpAny_bind (wpAny_field o.ge o.da v1 ?_)
  rw [if_pos (show (Value.ref T != Value.none)=true from by simp)];refine wpAny_bind (wpAny_field t.gT t.dT t.t3 ?_)
  rcases fl with rfl | rfl
  ·rw [if_neg (show ¬ ((Value.none == rawInt X.env.locals)=true) from by simp [rawInt])]
   refine wpAny_bind (wpAny_setField t.gT t.dT (Array.getElem?_eq_some_iff.mp t.t3).1 ?_);have oth:∀ b,b ≠ T->(s.heap.update T (Obj.mapFields (·.setIfInBounds 3 Value.none))).get? b=s.heap.get? b:=fun b hb=>Heap.get?_update_other _ _ (Ne.symm hb)
   have z:(s.heap.update T (Obj.mapFields (·.setIfInBounds 3 Value.none))).objs.size=s.heap.objs.size:=Heap.size_after_update ..;have nr:∀ b o',s.heap.get? b=some o'->(∀ vs,o'.data ≠ .fields vs)->b ≠ T:=fun b o' e nf q=>by rw [q,t.gT] at e;cases e;exact nf ts t.dT
   have hFF2:(s.heap.update T (Obj.mapFields (·.setIfInBounds 3 Value.none))).FunFrames X.base (X.env::X.outer):=hFF.of_keeps fun b o' e nf=>⟨o',(oth b (nr b o' e nf)).trans e,rfl⟩
   refine uf9 hfr hFF2 hf ((oth a (Ne.symm t.ne)).trans o.ge) o.da (Array.getElem?_eq_some_iff.mp v1).1 fun h' oT2 ts2 k1 k2 e1 e2 e3 e4=>k h' ?_ ?_
   ·refine I.noted hs hf (ch:=[a,T]) (fun b hb=>?_) (fun b o' n1 n2 e=>?_) fun b o' n1 e=>?_
    ·have hb:b=a \/ b=T:=by simpa using hb
     rcases hb with rfl | rfl
     ·exact ⟨Nat.le_trans hl o.la,o.ha,pn b o.la,fun o' e=>by rw [o.ge] at e;cases e;exact ⟨_,o.da⟩,_,o.ge⟩
     ·exact ⟨Nat.le_trans hl t.lt,t.hT,pn b t.lt,fun o' e=>by rw [t.gT] at e;cases e;exact ⟨_,t.dT⟩,_,t.gT⟩
    ·have n1:b ≠ a /\ b ≠ T:=by simpa using n1
     exact k1 b o' n1.1 n2 ((oth b n1.2).trans e)
    ·have n1:b ≠ a /\ b ≠ T:=by simpa using n1
     exact k2 b o' n1.1 ((oth b n1.2).trans e)
   ·have la:=Heap.lt_size o.ge
    rw [z] at e1 e2;exact ⟨_,_,s.heap.objs.size,oT2,ts2,_,o.moved e1 (Obj.cls_mapFields _ _) (u61 _ _) (Obj.data_mapFields o.da _),by simp [(Array.getElem?_eq_some_iff.mp v1).1],⟨Nat.le_trans o.la (Nat.le_of_lt la),Nat.ne_of_gt la,I.hok.fresh (Nat.le_refl _),e2,e3,e4⟩,rfl⟩
  ·rw [if_pos (show (rawInt X.env.locals == rawInt X.env.locals)=true from by simp)]
   exact wpAny_pure (k s.heap I ⟨oe,vs,T,oT,ts,_,o,v1,t,rfl⟩)
theorem u82 {M:Model} {A:Around} {E:Value->Shared->Prop} {Q:Unit->Shared->Prop} {fl:Value->Prop} {fr:Option Addr} (I:Inv X pins σ H s) (hs:X.stack=X.env::X.outer) (hf:X.env.frame=some X.env.locals) (hl:X.s₀.heap.objs.size<=lim) (hp:∀ p ∈ X.pn++pins,p.1 < lim)
  (F:Fly fl lim H a C dx s.heap) (k:∀ h',Inv X pins σ H { s with heap:=h' }->Fly (fun v=>v=fr.elim .none fun f=>rawInt f) lim H a C dx h'->Q () { s with heap:=h' }):wpAny M A (setFlight (.ref a) fr) Q E s:=by
 obtain ⟨oe,vs,T,oT,ts,v,o,v1,t,_⟩:=F;unfold setFlight;refine wpAny_bind (wpAny_field o.ge o.da v1 ?_);rw [if_pos (show (Value.ref T != Value.none)=true from by simp)];have l3:=(Array.getElem?_eq_some_iff.mp t.t3).1;refine wpAny_setField t.gT t.dT l3 (k _ ?_ ?_)
 ·refine I.noted hs hf (ch:=[T]) (fun b hb=>?_) (fun b o' n1 n2 e=>?_) fun b o' n1 e=>⟨o'.slots,?_⟩
  ·have hb:b=T:=by simpa using hb
   subst hb;exact ⟨Nat.le_trans hl t.lt,t.hT,fun p h e=>absurd (hp p h) (by rw [e];exact Nat.not_lt.mpr t.lt),fun o' e=>by rw [t.gT] at e;cases e;exact ⟨_,t.dT⟩,_,t.gT⟩
  ·exact (Heap.get?_update_other _ _ (Ne.symm (by simpa using n1))).trans e
  ·exact (Heap.get?_update_other _ _ (Ne.symm (by simpa using n1))).trans e
 ·exact ⟨oe,vs,T,_,_,_,o.moved ((Heap.get?_update_other _ _ t.ne).trans o.ge) rfl rfl o.da,v1,⟨t.lt,t.ne,t.hT,Heap.get?_update_self _ t.gT (Obj.isFreed_of_fields (Obj.data_mapFields t.dT _)),Obj.data_mapFields t.dT _,by simp [l3]⟩,rfl⟩
end
end L2
namespace L2
open PySem PySem.Spec PyProof.Rows PySem.W Builtin Builtin.ObjectAttr
theorem ua9 {K:Frag} {C:Addr} {bm:List Value} (e:xcIn K C bm=true):∃ cd,clsIn K C=some cd /\ cd.mro=.ref C::bm /\ cd.hasDict=true:=by
 unfold xcIn at e;unfold clsIn;split at e
 ·rename_i dd cd sl ho
  split at e
  ·rename_i B r k0 k1 k2 k3 i k5 hm hs
   simp only [Bool.and_eq_true,beq_iff_eq,Bool.not_eq_true'] at e;obtain ⟨⟨⟨⟨⟨rfl,rfl⟩,rfl⟩,hd⟩,hl⟩,ht⟩:=e;exact ⟨cd,by rw [ho],hm,hd⟩
  ·cases e
 ·cases e
section
variable {prog:Program} {w:World} {A:Around} {E:Value->Shared->Prop} {K:Frag} {C L x:Addr} {o:Obj} {vs:Array Value} {name:Str} {s:Shared}
theorem v04 (self:Value) (C L:Addr):refuseLoop self "__setattr__" (.ref C::.ref L::VM)=pure ():=by
 rw [refuseLoop_ref,refuseLoop_ref];exact PySem.F.store_ValueError.passes self
theorem uz1 {M:Model} {h:Heap} (X:K.In h) (hc:xcIn K C (.ref L::VM)=true) (b:Value):Looks M h (isSubtype (.ref C) b) ((Value.ref C::.ref L::VM).contains b):=by
 obtain ⟨cd,c1,c2,c3⟩:=ua9 hc;exact looks_mroIn X (by unfold mroIn;rw [c1,Option.bind_some,c2];rfl)
theorem uc5 {M:Model} {h:Heap} (hx:h.get? x=some o) (hcl:o.cls=.ref C):Looks M h (typeOf (.ref x)) (.ref C):=hcl ▸ (Looks.ld hx).andThen .now
theorem w50 {v:Value} {Q:Unit->Shared->Prop} (X:K.In s.heap) (hc:xcIn K C (.ref L::VM)=true) (hsa:findIn K (.ref C) "__setattr__" = some (some (.builtin "object.__setattr__"))) (hna:findIn K (.ref C) name=some none)
  (hx:s.heap.get? x=some o) (hcl:o.cls=.ref C) (hdi:o.dict=none) (hda:o.data=.fields vs)
  (k:∀ h' tk,(∀ b ob,b ≠ x->s.heap.get? b=some ob->h'.get? b=some ob)->h'.get? x=some { o with dict:=some s.heap.objs.size }->h'.Ns1 s.heap.objs.size (fun y=>if y=name then some v else none)->Q () { s with heap:=h',toks:=tk }) :
  wpAny (model prog w) A (setAttr (.ref x) name v) Q E s:=by
 have SF:=PySem.F.store_ValueError;obtain ⟨cd,c1,c2,c3⟩:=ua9 hc;obtain ⟨h,g,d,t,os⟩:=s;have T:=uc5 (M:=model prog w) hx hcl;have hT:Looks (model prog w) h (isInstance (.ref x) (.type "object")) true:=T.andThen (by
  have:=uz1 (M:=model prog w) X hc (.type "object")
  rwa [show (Value.ref C::.ref L::VM).contains (.type "object")=true from by simp] at this)
 have hm:Looks (model prog w) h (mroOf (.ref C)) (.ref C::.ref L::VM):=c2 ▸ (looks_clsIn X c1).andThen .now;unfold setAttr callSpecial? specialOf;refine wpAny_bind (wpAny_mkText (wpAny_bind (wpAny_bind (wpAny_bind (T _ _ _ _ (fun _ _ e=>e) (looks_findIn X hsa _ _ _ _ (fun _ _ e=>e) ?_))))));refine wpAny_holding (wpAny_bind ?_);rw [SF.slot.bind];refine wpAny_pure (wpAny_bind (wpAny_call ?_));refine codeAny_call_builtin SF.slot.plain SF.entry ?_;refine @check_slot (model prog w) _ _ ⟨h,g,d,t+1,os⟩ "object.__setattr__" "object" "__setattr__" (.ref x) [.str name t,v] [] _ SF.kind SF.split hT (SF.args (.ref x) (.str name t) v) ?_
 show wpAny _ _ (Builtin.«object.__setattr__» ⟨[.ref x,.str name t,v],[]⟩) _ _ _
 rw [osa_eq,refuse_eq];refine wpAny_bind (wpAny_bind (T _ _ _ _ (fun _ _ e=>e) (wpAny_bind (hm _ _ _ _ (fun _ _ e=>e) ?_))));rw [v04];refine wpAny_pure (wpAny_bind (T _ _ _ _ (fun _ _ e=>e) (wpAny_bind (looks_findIn X hna _ _ _ _ (fun _ _ e=>e) (wpAny_bind (wpAny_pure ?_))))));refine wpAny_bind (wpAny_pure (wpAny_bind (wpAny_bind (wpAny_loadPart hx ?_))));rw [hcl];refine wpAny_bind (looks_clsIn X c1 _ _ _ _ (fun _ _ e=>e) ?_);rw [c3,if_neg (by decide)];have hx:h.get? x=some o:=hx;have nx:x ≠ h.objs.size:=Nat.ne_of_lt (Heap.lt_size hx);have hx1:(h.push { cls:=.type "dict",data:=.dict #[] }).get? x=some o:=Heap.get?_push_of_some _ hx;rw [hdi];dsimp only;rw [if_neg (by simp [typeHasDict])];rw [hda];refine wpAny_bind (wpAny_alloc' (wpAny_bind (wpAny_update' hx1 (wpAny_pure ?_))));have e0:((h.push { cls:=.type "dict",data:=.dict #[] }).update x fun o=>{ o with dict:=some h.objs.size }).get? h.objs.size=some { cls:=.type "dict",data:=.dict #[] }:=(Heap.get?_update_other _ _ nx).trans (Heap.get?_push_at rfl rfl);have n0:((h.push { cls:=.type "dict",data:=.dict #[] }).update x fun o=>{ o with dict:=some h.objs.size }).Ns h.objs.size (fun _=>none):=⟨_,#[],_,e0,rfl,fun e he=>absurd he (by simp),fun _=>rfl⟩
 show wpAny _ _ (storeInDict h.objs.size (.str name t) name v) _ _ _
 unfold storeInDict newKeyGuard;refine wpAny_bind (wpAny_pure (wpAny_bind (wpAny_nsSet1 (Heap.Ns1.of_empty n0) fun h' n1 sb=>?_)));obtain ⟨oD,esD,epD,g1,g2,g3⟩:=n1.count (Within.cons name v Within.nil);refine wpAny_bind (wpAny_lookBehind g1 (by rw [g2];exact pastItsLine_dict (Nat.le_trans g3 (by rw [List.length_cons,List.length_nil,sizeLine_eq];omega))) ?_)
 wp_walk
 refine k h' _ (fun b ob nb e=>?_) ?_ ?_
 ·exact (sb.2 b (Nat.ne_of_lt (Heap.lt_size e))).trans ((Heap.get?_update_other _ _ (Ne.symm nb)).trans (Heap.get?_push_of_some _ e))
 ·refine (sb.2 x nx).trans (Heap.get?_update_self _ hx1 ?_)
  exact Obj.isFreed_of_fields (vs:=vs) hda
 ·exact n1
end
section
variable {prog:Program} {w:World} {A:Around} {E:Value->Shared->Prop} {K:Frag} {C L x:Addr} {o:Obj} {vs:Array Value} {name:Str} {h:Heap} {g:Array GenState} {d:Drawn} {t:Nat} {os:OsState}
theorem ue1 {M:Model} {nv:Value} {Q:Unit->Shared->Prop} (X:K.In h) (hc:xcIn K C (.ref L::VM)=true) (hx:h.get? x=some o) (hcl:o.cls=.ref C) (hq:Q () ⟨h,g,d,t,os⟩) :
  wpAny M A (checkBuiltinCall "BaseException.__getattribute__" ⟨[.ref x,nv],[]⟩) Q E ⟨h,g,d,t,os⟩:=by
 have hT:Looks M h (isInstance (.ref x) (.type "BaseException")) true:=(uc5 hx hcl).andThen (by
  have:=uz1 (M:=M) X hc (.type "BaseException")
  rwa [show (Value.ref C::.ref L::VM).contains (.type "BaseException")=true from by simp] at this)
 exact @check_slot M A E ⟨h,g,d,t,os⟩ "BaseException.__getattribute__" "BaseException" "__getattribute__" (.ref x) [nv] [] Q (by decide) (by decide) hT (PySem.F.args_bexc_ga (.ref x) nv) hq
theorem wf1 {v:Value} {od:Obj} {dx:Addr} {expr:Bool} {Q:Value->Shared->Prop} (X:K.In h) (hc:xcIn K C (.ref L::VM)=true) (hga:findIn K (.ref C) "__getattribute__" = some (some (.builtin "BaseException.__getattribute__"))) (hgt:findIn K (.ref C) "__getattr__" = some none)
  (hna:findIn K (.ref C) name=some none) (hx:h.get? x=some o) (hcl:o.cls=.ref C) (hda:o.data=.fields vs) (hdi:o.dict=some dx) (hd:h.get? dx=some od) (hl:lookIn name od=some (some v)) (hh:handedIn v=true) (hq:Q v ⟨h,g,d,t+1,os⟩) :
  wpAny (model prog w) A (getAttr (.ref x) name expr) Q E ⟨h,g,d,t,os⟩:=by
 have GA:=PySem.F.attr_ValueError.ga;obtain ⟨cd,c1,c2,c3⟩:=ua9 hc;have I:InstAt h x o C (some od):=⟨hx,hcl,by unfold notCls;rw [hda],by rw [hdi];exact hd⟩;have hf:findObj K C (some od) name=some (.value v):=by
  unfold findObj W.ownOf;rw [c1,Option.bind_some,hna,Option.bind_some];simp only [Option.bind_some,c3,if_true];rw [hl];rfl
 have T:=uc5 (M:=model prog w) hx hcl;have L1:=looks_findIn (M:=model prog w) X hga;have L2:=looks_findIn (M:=model prog w) X hgt;have L3:=looks_find (M:=model prog w) X I hf;have f3:=GA.bind (.ref x);have hx0:(expr && onTheHeap (Value.builtin "BaseException.__getattribute__"))=false:=by cases expr <;> rfl
 have hx2:(Value.builtin "BaseException.__getattribute__" == Value.builtin "object.__getattribute__")=false:=by decide
 have hx1:(onTheHeap (Value.ref C) && Value.builtin "BaseException.__getattribute__" == Value.builtin "object.__getattribute__")=false:=by rw [hx2];rfl
 unfold getAttr getAttrBy
 repeat (any_goals (first | assumption | with_reducible refine Looks.at (by assumption) ?_ | wp_step))
 refine codeAny_call_builtin GA.plain PySem.F.entry_bexc_ga (ue1 X hc hx hcl ?_)
 show wpAny _ _ (Builtin.«object.__getattribute__» ⟨[.ref x,.str name t],[]⟩) _ _ _
 unfold Builtin.«object.__getattribute__»
 repeat (any_goals (first | assumption | with_reducible refine Looks.at (by assumption) ?_ | wp_step))
 show wpAny _ _ (handedOut v) _ _ _
 rw [handedOut_of hh];exact wpAny_pure hq
theorem vy4 {us:List Value} {Q:Value->Shared->Prop} (X:K.In h) (hc:xcIn K C (.ref L::VM)=true) (hx:h.get? x=some o) (hcl:o.cls=.ref C) (hda:o.data=.fields vs) {t0:Addr} (h0:vs[0]?=some (.ref t0)) (hl:us.length<=sizeLine)
  (k:∀ h',(∀ b ob,b ≠ x->h.get? b=some ob->h'.get? b=some ob)->h'.get? x=some (o.mapFields (·.setIfInBounds 0 (.ref h.objs.size)))->Q .none ⟨h',g,d,t,os⟩) :
  wpAny (model prog w) A (call (.builtin "ValueError.__init__") (.ref x::us)) Q E ⟨h,g,d,t,os⟩:=by
 have VF:=PySem.F.excBase_ValueError;obtain ⟨⟨nm,q,N,bs,sn,sub,ab,col,dd,k0,k1,k2,k3,k5,hC⟩,T⟩:=um7 X hc;refine wpAny_call (codeAny_call_builtin VF.init.plain VF.initEntry (wpAny_check_init_subU VF T hC hx hcl ?_));unfold Builtin.«BaseException.__init__»
 repeat (any_goals (first | assumption | wp_step))
 rw [hda];refine wpAny_pure ?_;rw [h0];refine wpAny_pure (wpAny_bind (wpAny_setField (Heap.get?_push_of_some _ hx) hda (Array.getElem?_eq_some_iff.mp h0).1 ?_));dsimp only
 repeat (any_goals (first | assumption | wp_step))
 refine k _ (fun b ob nb e=>?_) ?_
 ·exact (Heap.get?_update_other _ _ (Ne.symm nb)).trans (Heap.get?_push_of_some _ e)
 ·exact Heap.get?_update_self _ (Heap.get?_push_of_some _ hx) (Obj.isFreed_of_fields (Obj.data_mapFields hda _))
end
end L2
namespace L2
open PySem PySem.Spec PyProof.Rows
def XN (a C:Addr) (dx:Option Addr) (h:Heap):Prop:=∃ o vs t0,h.get? a=some o /\ o.cls=.ref C /\ o.dict=dx /\ o.data=.fields vs /\ vs[0]?=some (.ref t0) /\ vs[1]?=some .none
theorem XN.stays {a C:Addr} {dx:Option Addr}:∀ h1 h2:Heap,XN a C dx h1->(∀ o,h1.get? a=some o->h2.get? a=some o)->XN a C dx h2:=fun _ _ ⟨o,vs,t0,e,r⟩ k=>⟨o,vs,t0,k _ e,r⟩
theorem XH.stays {a C:Addr} {dx:Option Addr}:∀ h1 h2:Heap,XH a C dx h1->(∀ o,h1.get? a=some o->h2.get? a=some o)->XH a C dx h2:=fun _ _ ⟨o,vs,e,r⟩ k=>⟨o,vs,k _ e,r⟩
def del (H:Hp) (a:Addr):Hp:=fun b=>if b=a then none else H b
theorem ut4 {H:Hp} {a:Addr}:del H a a=none:=by unfold del;rw [if_pos rfl]
theorem ud8 {H:Hp} {a b:Addr} (h:b ≠ a):del H a b=H b:=by unfold del;rw [if_neg h]
theorem va9 {H:Hp} {a:Addr} {o:HO} (h:H a=some o):upd H a o=H:=by
 funext b;unfold upd;split
 ·rename_i e;rw [e,h]
 ·rfl
section
variable {X:Cx} {pins:List (Addr × Obj)} {σ:St} {H:Hp} {s:Shared}
theorem Inv.track {b:Addr} {o:HO} (I:Inv X pins σ H s) (hb:H b=none) (h1:X.s₀.heap.objs.size<=b) (hp:∀ p ∈ X.pn++pins,p.1 ≠ b) (hL:b ≠ X.env.locals) (hc:∀ x c,X.env.cells.lookup x=some c->c ≠ b)
  (ok:ObjOk X.prog X.w (upd H b o) s.heap b o):Inv X pins σ (upd H b o) s:=by
 have ne:∀ c u,H c=some u->c ≠ b:=fun c u e z=>by rw [z,hb] at e;cases e
 refine I.step (h':=s.heap) (g':=s.gens) (t':=s.toks) (d':=s.drawn) (ch:=[b]) (fun c hc'=>?_) (fun _ _ _ _ _ e _=>e) (fun _ o _ _ _ e _=>⟨o.slots,e⟩) (fun c o' n e z=>?_) (fun _ o' _ e=>⟨o',e⟩)
  (fun c xs e=>by rw [u09 (ne c _ e)];exact e) (fun c o' u e=>by rw [u09 (ne c _ e)];exact e) (fun c ps e=>⟨#[],by rw [u09 (ne c _ e),e];simp⟩) (fun _ m=>m) (fun c u e=>?_) I.bare
 ·have z:c=b:=by simpa using hc'
  subst z;exact ⟨.inr h1,hL,hc,hp⟩
 ·rw [u09 (by simpa using n)];exact z
 ·by_cases z:c=b
  ·subst z;rw [u20] at e;cases e;exact ok
  ·rw [u09 z] at e
   exact (I.hok c u e).stay (fun _ _ _ q=>q) (fun d q=>by rw [u09 (ne d _ q)];exact q) fun d xs q=>by rw [u09 (ne d _ q)];exact q
theorem Inv.untrack {b:Addr} {φ:Heap->Prop} (I:Inv X pins σ H s) (hb:H b=some (.ext φ)):Inv X pins σ (del H b) s:=by
 have ne:∀ c u,H c=some u->(∀ ψ,u ≠ .ext ψ)->c ≠ b:=fun c u e n z=>by rw [z,hb] at e;cases e;exact n _ rfl
 refine I.step (h':=s.heap) (g':=s.gens) (t':=s.toks) (d':=s.drawn) (ch:=[]) (fun c hc'=>nomatch hc') (fun _ _ _ _ _ e _=>e) (fun _ o _ _ _ e _=>⟨o.slots,e⟩) (fun c o' n e z=>?_) (fun _ o' _ e=>⟨o',e⟩)
  (fun c xs e=>by rw [ud8 (ne c _ e (by intro _ z;cases z))];exact e) (fun c o' u e=>by rw [ud8 (ne c _ e (by intro _ z;cases z))];exact e) (fun c ps e=>⟨#[],by rw [ud8 (ne c _ e (by intro _ z;cases z)),e];simp⟩) (fun _ m=>m) (fun c u e=>?_) I.bare
 ·unfold del;split
  ·rfl
  ·exact z
 ·have z:c ≠ b:=fun z=>by rw [z,ut4] at e;cases e
  rw [ud8 z] at e;exact (I.hok c u e).stay (fun _ _ _ q=>q) (fun d q=>by rw [ud8 (ne d _ q (by intro _ z;cases z))];exact q) fun d xs q=>by rw [ud8 (ne d _ q (by intro _ z;cases z))];exact q
end
def vk2 (K:W.Frag) (L:Addr) (t:TA):TE:=fun σ H Q=>t σ H fun vs H1=>∃ a C rest,vs=.ref a::rest /\ H1 a=some (.ext (XN a C none)) /\ xcIn K C (.ref L::VM)=true /\ rest.length<=1000 /\ Q .non H1
def w54 (K:W.Frag) (L:Addr) (ta tv:TE) (f:Str):TS:=fun D σ H=>tv σ H fun y H1=>ta σ H1 fun x H2=>∃ a C,x=.ref a /\ H2 a=some (.ext (XN a C none)) /\ xcIn K C (.ref L::VM)=true /\
 W.findIn K (.ref C) "__setattr__" = some (some (.builtin "object.__setattr__")) /\ W.findIn K (.ref C) f=some none /\ ∀ dx o,H2 dx=none->dx ≠ a->D.nx σ (upd (upd H2 a (.ext (XN a C (some dx)))) dx (.frz o (.xd [(f,y)])))
section
variable {X:Cx} {L:Addr} {LN f:Str} {p apos pos pos':Pos} {e o value:Expr} {es:List Expr} {t:TA} {ta tv:TE}
theorem vd8 {pl:Sem Bool} (hg:Gl X LN) (hm:X.mg LN=some (.ref L)) (hsp:W.specialIn X.K (.ref L) "__getattribute__" = some (some (.builtin "type.__getattribute__"))) (hr:W.readsIn X.K L (.type "type")=true)
  (hfc:W.findCls X.K (.ref L) (.type "type") "__init__" = some (.val (.builtin "ValueError.__init__"))) (ha:PA X (e::es) t) (hdb:(LN == ("__debug__" : Str))=false:=by decide)
  (hst:starEach (e::es) X.env=(false,eval e X.env)::starEach es X.env:=by rfl) (hpl:(backTo pos (starEach es X.env)).any (·.1)=false:=by rfl)
  (ht:eval (.Call (.Attribute (.Name LN p) "__init__" apos) (e::es) [] pos) X.env=(do
   let ov <- eval (.Name LN p) X.env
   standAt apos.atName
   let (f,first) <- holding [ov] (getMethod ov "__init__" pl)
   callWith pos f first (backTo pos (starEach (e::es) X.env)) (backToKw pos (keywordEach [] X.env))):=by rfl) :
  PE X (.Call (.Attribute (.Name LN p) "__init__" apos) (e::es) [] pos) (vk2 X.K L t):=by
 intro pins s σ H Q I h;refine W.methodCall_KW (pl:=pl) (ua4 I hg hm (W.method_cls I.kIn hsp (W.cls_value I.kIn hr hfc rfl ?_)) hdb) ht;have hA:=ha pos pins { s with toks:=s.toks+1 } σ H _ (I.tok _) h
 rw [hst] at hA ⊢;refine Calls.callWith_builtin (by show (false || (backTo pos (starEach es X.env)).any (·.1))=false;rw [hpl] <;> rfl) (Calls.evalArgs_plain ?_);refine thn hA ?_;rintro us s2 ⟨vs,H2,I2,r2,a,C,rest,rfl,h2,hc,hl,q⟩;obtain ⟨o,ws,t0,g1,g2,g3,g4,g5,g6⟩:=(I2.hok a _ h2).1;cases r2 with
 | cons r r' =>
  cases r;obtain ⟨hh,gg,dd,tt,oo⟩:=s2;refine vy4 I2.kIn hc g1 g2 g4 g5 (by rw [<- r'.length,sizeLine_eq];omega) fun h' k1 k2=>?_
  have d2:=Obj.data_mapFields g4 (·.setIfInBounds 0 (Value.ref hh.objs.size));have I3:=I2.write (x:=a) (e:=a) (o:=.ext (XN a C none)) (t':=tt) (by rw [h2];exact True.intro) (.inl rfl) (fun b u nb e=>k1 b u nb e) ⟨_,k2⟩
   ⟨⟨_,_,hh.objs.size,k2,(Obj.cls_mapFields _ _).trans g2,(u61 _ _).trans g3,d2,by simp [(Array.getElem?_eq_some_iff.mp g5).1],by rw [Array.getElem?_setIfInBounds_ne (by decide)];exact g6⟩,⟨_,k2⟩,XN.stays⟩
  rw [va9 h2] at I3;exact ⟨.non,H2,I3,rfl,q⟩
theorem vt4 (ha:PE X o ta) (hv:PE X value tv) (hs:swapsWith value (some (.Attribute o f pos')) pos.line X.env=pure false:=by rfl):PS X (.Assign [.Attribute o f pos'] value pos) (w54 X.K L ta tv f):=by
 intro pins s σ H D I h;refine plainObj_wpAny_Assign_Attribute (thn (hv pins s σ H _ I h) ?_) hs;rintro u s1 ⟨y,H1,I1,ry,q⟩;refine thn (ha pins s1 σ H1 _ I1 q) ?_;rintro ov s2 ⟨x,H2,I2,rx,a,C,rfl,h2,hc,hsa,hna,q2⟩;cases rx;obtain ⟨ob,ws,t0,g1,g2,g3,g4,g5,g6⟩:=(I2.hok a _ h2).1;refine w50 I2.kIn hc hsa hna g1 g2 g3 g4 fun h' tk k1 k2 n1=>?_
 have la:=Heap.lt_size g1;have nd:s2.heap.objs.size ≠ a:=Nat.ne_of_gt la;have I3:=I2.write (x:=a) (e:=a) (o:=.ext (XN a C (some s2.heap.objs.size))) (t':=tk) (by rw [h2];exact True.intro) (.inl rfl) (fun b u' nb e=>k1 b u' nb e) ⟨_,k2⟩
  ⟨⟨_,_,t0,k2,g2,rfl,g4,g5,g6⟩,⟨_,k2⟩,XN.stays⟩
 have fr:H2 s2.heap.objs.size=none:=I2.hok.fresh (Nat.le_refl _);have lc:=I2.lt;obtain ⟨od,es',ep,m1,m2⟩:=id n1;have I4:=I3.track (b:=s2.heap.objs.size) (o:=.frz od (.xd [(f,y)])) (by rw [u09 nd];exact fr) I2.sz (fun p hp e=>?_) (Nat.ne_of_gt lc) (fun x c e z=>?_) ⟨m1,_,n1,fun g=>?_⟩
 ·exact ⟨σ,_,I4,q2 _ od fr nd⟩
 ·obtain ⟨e1,_⟩:=I2.pin p hp
  exact absurd (Heap.lt_size e1) (by rw [e];exact Nat.lt_irrefl _)
 ·obtain ⟨v,oc,e1,_⟩:=I2.cell x c e
  exact absurd (Heap.lt_size e1) (by rw [z];exact Nat.lt_irrefl _)
 ·show RelO (([(f,y)]:List (Str × V)).lookup g) (if g=f then some u else none)
  rw [List.lookup_cons]
  by_cases z:g=f
  ·subst z;rw [if_pos rfl,beq_self_eq_true];exact ry
  ·rw [if_neg z,beq_false_of_ne z];exact True.intro
end
section
variable {M:Model} {A:Around} {E:Value->Shared->Prop} {K:W.Frag} {L:Addr} {env:Env}
theorem vc9 {s:Shared} {x:Sem Value} {Q:Flow->Shared->Prop} (hh:A.handled=none) (h:wpAny M A x (fun v s1=>∃ a C o vs,v=.ref a /\ K.In s1.heap /\ xcIn K C (.ref L::VM)=true /\ s1.heap.get? a=some o /\ o.cls=.ref C /\ o.data=.fields vs /\ vs[1]?=some .none /\ E (.ref a) s1) E s) :
  wpAny M A (raiseStmt env (some x) none) Q E s:=by
 unfold raiseStmt;refine wpAny_bind (wpAny_mono h (fun v s1 h1=>?_) fun _ _ x=>x);obtain ⟨a,C,o,vs,rfl,X,hc,g1,g2,g3,g4,q⟩:=h1;obtain ⟨⟨nm,q',N,bs,sn,sub,ab,col,dd,k0,k1,k2,k3,k5,hC⟩,T⟩:=um7 X hc;have hcB:(Value.ref C::.ref L::VM).contains (.type "BaseException")=true:=by simp
 obtain ⟨oc,od,oda,osl⟩:=o;dsimp only at g2 g3;subst g2 g3;obtain ⟨hp,g,d,tk,os⟩:=s1
 repeat (first | with_reducible refine wpAny_loadPart_at g1 ?_ | with_reducible refine wpAny_loadPart_at hC ?_ | (with_reducible refine wpAny_isSubtype_exc hC ?_;rw [hcB]) | (with_reducible refine wpAny_field g1 rfl g4 ?_) | wp_step)
 exact wpAny_raiseNew_none hh q
end
def CX1 (P:Program) (w:World):CXT:=fun outer H s E e s'=>∃ a C dx H',e=.ref a /\ s'.os=s.os /\ AllBare s'.gens /\ Un (frs outer) [] H H' s.heap s'.heap /\ HOk P w H' s'.heap /\ Fly (fun v=>v=.none) s.heap.objs.size H' a C dx s'.heap /\ E (.ref C) dx H'
def FlyIn (X:Cx) (E:XK) (e:Value) (s:Shared):Prop:=∃ σ H a C dx,e=.ref a /\ Inv X [] σ H s /\ (FlyN X.s₀.heap.objs.size H a C dx s.heap \/ Fly (fun v=>v=.none \/ v=rawInt X.env.locals) X.s₀.heap.objs.size H a C dx s.heap) /\ E (.ref C) dx H
structure Def (X:Cx):Prop where
 st:X.stack=X.env::X.outer
 fr:X.env.frame=some X.env.locals
 pn:X.pn=[]
 ex:X.ex=[]
section
variable {X:Cx} {E:XK}
theorem Def.low (D:Def X):∀ p ∈ X.pn++([]:List (Addr × Obj)),p.1 < X.s₀.heap.objs.size:=fun p h=>by rw [D.pn] at h;exact nomatch h
theorem FlyIn.own (D:Def X):PassesOwn (model X.prog X.w) X.A X.env (FlyIn X E):=by
 rintro e s ⟨σ,H,a,C,dx,rfl,I,F,q⟩;refine uh5 I D.st D.fr (Nat.le_refl _) D.low F fun h1 I1 F1=>?_
 obtain ⟨oe,vs,T,oT,ts,v,o,v1,t,fl⟩:=id F1;refine wpAny_bind (wpAny_field o.ge o.da v1 ?_);rw [if_neg (by simp)];refine u82 I1 D.st D.fr (Nat.le_refl _) D.low F1 fun h2 I2 F2=>?_
 exact ⟨σ,H,a,C,dx,rfl,I2,.inr (F2.imp fun v e=>.inr (by rw [e,D.fr];rfl)),q⟩
theorem FlyIn.leaves (D:Def X) {e:Value} {s:Shared} {E2:Value->Shared->Prop} (F:FlyIn X E e s):wpAny (model X.prog X.w) X.A (leaving X.env e) (fun _ s'=>CX1 X.prog X.w X.outer X.H₀ X.s₀ E e s') E2 s:=by
 obtain ⟨σ,H,a,C,dx,rfl,I,F,q⟩:=F;unfold leaving;refine wpAny_bind (uh5 I D.st D.fr (Nat.le_refl _) D.low F fun h1 I1 F1=>u82 I1 D.st D.fr (Nat.le_refl _) D.low F1 fun h2 I2 F2=>?_);refine ⟨a,C,dx,H,rfl,I2.os,I2.bare,?_,I2.hok,F2,q⟩;have:=I2.base;rw [D.ex] at this;exact this
end
def uc8 (C:Addr) (f:Str):Sp:=fun vs H Q _=>∃ a v,vs=[.ref a,v] /\ H a=some (.ext (XN a C none)) /\ ∀ dx o,H dx=none->dx ≠ a->Q .non (upd (upd H a (.ext (XN a C (some dx)))) dx (.frz o (.xd [(f,v)])))
def vq3 (C:Addr) (f:Str) (E:XK) (t:TA):TS:=fun _ σ H=>t σ H fun vs H1=>∃ v,vs=[v] /\ ∀ dx o,H1 dx=none->E (.ref C) (some dx) (upd H1 dx (.frz o (.xd [(f,v)])))
structure XMk (K:W.Frag) (C L fI:Addr):Prop where
 xc:xcIn K C (.ref L::VM)=true
 init:W.findIn K (.ref C) "__init__" = some (some (.ref fI))
 fn:W.isFn K (.ref fI)=true
 kp:W.keepIn K (.ref C)=true
section
variable {X:Cx} {E:XK} {k:Nat} {C L fI:Addr} {fd:FuncData} {ps:List Str} {f x:Str} {p pos cpos:Pos} {e:Expr} {t:TA}
theorem vz5 {H:Hp} {a b:Addr} {o o':HO} (hn:a ≠ b) (h:H a=none):del (upd (upd H a o) b o') a=upd H b o':=by
 funext c
 by_cases z:c=a
 ·subst z;rw [ut4,u09 hn,h]
 ·rw [ud8 z]
  by_cases y:c=b
  ·subst y;rw [u20,u20]
  ·rw [u09 y,u09 z,u09 y]
theorem v02 {pins:List (Addr × Obj)} {σ:St} {H:Hp} {s:Shared} {Q:Addr->Hp->Prop} {us:List Value} {vs:List V} {sp:Sp} (M:XMk X.K C L fI) (F:FnOk X.prog X.w X.K X.mg X.base CX0 k fI fd ps sp) (hr:Room (k+1) X.A) (hb:Binds X.K fd ps [])
  (I:Inv X pins σ H s) (r:Vals vs us) (hl:us.length<=sizeLine)
  (h:∀ a,H a=none->s.heap.objs.size<=a->sp (.ref a::vs) (upd H a (.ext (XN a C none))) (fun v H2=>v=.non /\ Q a H2) E0) :
  wpAny (model X.prog X.w) X.A (call (.ref C) us) (fun u s'=>∃ a H2,u=.ref a /\ s.heap.objs.size<=a /\ Inv X pins σ H2 s' /\ Q a H2) X.xe s:=by
 refine w02 I.kIn M.xc M.init M.fn hl fun h' a hm le=>?_
 obtain ⟨t,g1,_,g2⟩:=hm.there;have I1:Inv X pins σ H { s with heap:=h' }:=I.kept (t':=s.toks) hm.keeps
 have ha:H a=none:=I.hok.fresh le;have I2:Inv X pins σ (upd H a (.ext (XN a C none))) { s with heap:=h' }:=by
  refine I1.track ha (Nat.le_trans I.sz le) (fun p hp z=>?_) (Nat.ne_of_gt (Nat.lt_of_lt_of_le I.lt le)) (fun x c e z=>?_) ⟨⟨_,_,t,g1,rfl,rfl,rfl,rfl,rfl⟩,⟨_,g1⟩,XN.stays⟩
  ·obtain ⟨e1,_⟩:=I.pin p hp
   exact absurd (Nat.lt_of_lt_of_le (Heap.lt_size e1) le) (by rw [z];exact Nat.lt_irrefl _)
  ·obtain ⟨v,oc,e1,_⟩:=I.cell x c e
   exact absurd (Nat.lt_of_lt_of_le (Heap.lt_size e1) le) (by rw [z];exact Nat.lt_irrefl _)
 have hq:=h a ha le;have r2:Vals (V.ref a::vs) (Value.ref a::us):=.cons rfl r;have hln:(Value.ref a::us++[]).length=ps.length:=by
  have z:=r2.length;rw [F.len _ _ _ _ hq] at z;rw [List.append_nil];exact z.symm
 have hbb:=hb { s with heap:=h' } (Value.ref a::us) I2.kIn hln
 rw [List.append_nil] at hbb;refine wpAny_call (codeAny_mono (F.run _ X.stack _ _ ⟨Value.ref a::us,[]⟩ (Value.ref a::us) _ _ E0 (hr.make C us []) (I2.env0.make C us []) hbb r2 hq) fun r' s' hq'=>?_);cases r' with
 | error e=>exact False.elim hq'
 | ok fl =>
  cases fl with
  | ret u =>
   obtain ⟨v,H',I3,rv,ev,q3⟩:=I2.after hq';subst ev;exact ⟨rv,a,H',rfl,le,I3,q3⟩
  | next=>exact False.elim hq'
  | brk=>exact False.elim hq'
  | cont=>exact False.elim hq'
def Flies (X:Cx) (E:XK):Prop:=∀ (pins:List (Addr × Obj)) (σ:St) (H:Hp) (s:Shared) (a C:Addr) (dx:Option Addr),Inv X pins σ H s->FlyN X.s₀.heap.objs.size H a C dx s.heap->E (.ref C) dx H->X.xe (.ref a) s
theorem vd1 (M:XMk X.K C L fI) (F:FnOk X.prog X.w X.K X.mg X.base CX0 k fI fd ps (uc8 C f)) (hr:Room (k+1) X.A) (hb:Binds X.K fd ps []) (hg:Gl X x) (hm:X.mg x=some (.ref C)) (hc:X.calm=true) (hx:Flies X E) (ha:PA X [e] t)
  (hdb:(x == ("__debug__" : Str))=false:=by decide) (he:starEach [e] X.env=(false,eval e X.env)::starEach [] X.env:=by rfl) (hpl:(backTo cpos (starEach [] X.env)).any (·.1)=false:=by rfl) :
  PS X (.Raise (some (.Call (.Name x p) [e] [] cpos)) none pos) (vq3 C f E t):=by
 intro pins s σ H D I h;rw [arm_exec_Raise];refine wpAny_bind (wpAny_standAt (vc9 (K:=X.K) (L:=L) (I.ok.hd hc) (wpAny_bind ?_)));refine wpAny_Call_Name_kw (ua4 I hg hm ?_ hdb);refine W.callWith_K (h₀:=X.base) I.ok.mod.kin M.kp (thn (ha cpos pins s σ H _ I h) ?_) he hpl;rintro us s1 ⟨vs,H1,I1,r,v,rfl,q⟩;refine ⟨I1.kIn,?_⟩;have hl:us.length<=sizeLine:=by rw [<- r.length,sizeLine_eq];simp
 refine thn (v02 (Q:=fun a H2=>∃ dx o,H1 a=none /\ H1 dx=none /\ dx ≠ a /\ H2=upd (upd H1 a (.ext (XN a C (some dx)))) dx (.frz o (.xd [(f,v)]))) M F hr hb I1 r hl fun a h0 le=>?_) ?_
 ·refine ⟨a,v,rfl,u20,fun dx o h1 h2=>⟨rfl,dx,o,h0,?_,h2,?_⟩⟩
  ·rw [u09 h2] at h1;exact h1
  ·rw [vp9]
 ·rintro u s2 ⟨a,H2,rfl,le,I2,dx,o,z1,z2,z3,rfl⟩
  refine wpAny_bind (wpAny_standAt (wpAny_pure ?_));have ta:(upd (upd H1 a (.ext (XN a C (some dx)))) dx (.frz o (.xd [(f,v)]))) a=some (.ext (XN a C (some dx))):=by rw [u09 (Ne.symm z3),u20]
  obtain ⟨ob,ws,t0,g1,g2,g3,g4,g5,g6⟩:=(I2.hok a _ ta).1;refine ⟨a,C,ob,ws,rfl,I2.kIn,M.xc,g1,g2,g4,g6,?_⟩;have I3:=I2.untrack ta;rw [vz5 (Ne.symm z3) z1] at I3;exact hx pins σ _ s2 a C (some dx) I3 ⟨ob,ws,⟨Nat.le_trans I1.sz le,by rw [u09 (Ne.symm z3)];exact z1,g1,g2,g3,g4⟩,g6⟩ (q dx o z2)
end
end L2
namespace L3
open PySem PySem.Spec PyProof.Rows L2
abbrev XD:=Addr->List (Str × D)->Gp->Prop
abbrev Spx3:=List D->Gp->DK->XD->Prop
def FutX (K:W.Frag) (H:Hp) (r:XD) (E:XK):Prop:=∀ C fs G' dx ys H',Con K G' H'->Le H H'->XDict H' dx ys->RelPs K H' fs ys->r C fs G'->E (.ref C) dx H'
def lowX (K:W.Frag) (r:XD):XK:=fun cls dx H=>∃ C fs ys G,cls=.ref C /\ Con K G H /\ XDict H dx ys /\ RelPs K H fs ys /\ r C fs G
def ug1 (K:W.Frag) (S:Spx3):Sp:=fun vs H Q E=>∃ ds G R r,RelDs K H ds vs /\ Con K G H /\ S ds G R r /\ FutE K H R Q /\ FutX K H r E
def ut7 (S:Spx3) (r:XD) (t:TA3):TE3:=fun σ G q=>t σ G fun ds G1=>∃ R,S ds G1 R r /\ ∀ d G',R d G'->q d G'
def vo3 (C:Addr) (f:Str) (r:XD) (ta:TA3):TS3:=fun _ σ G=>ta σ G fun ds G1=>match ds with | [d]=>r C [(f,d)] G1 | _=>False
def vz7 (C:Addr) (r:XD):TS3:=fun _ _ G=>r C [] G
theorem wd0 {fs ex:List Addr} {H H':Hp} {h h':Heap} (u:Un fs ex H H' h h'):Le H H':=⟨u.tups,u.frzs⟩
theorem us7 {K:W.Frag} {H:Hp} {r:XD}:FutX K H r (lowX K r):=fun C fs G dx ys H' c l z p q=>⟨C,fs,ys,G,rfl,c,z,p,q⟩
abbrev xcx (X:Cx) (r:XD):Cx:=X.wish (FlyIn X (lowX X.K r))
theorem PSs.wish {X:Cx} {E:Value->Shared->Prop} {st:List Stmt} {t:TS} (h:PSs (X.wish E) st t) (k:∀ e s,E e s->X.xe e s):PSs X st t:=fun pins s σ H D I hw =>
 wpAny_mono (h pins s σ H D (I.wish _) hw) (fun _ _ q=>q.unwish) k
section
variable {X:Cx} {r:XD}
theorem vp1 (D:Def X):PassesOwn (model (xcx X r).prog (xcx X r).w) (xcx X r).A (xcx X r).env (xcx X r).xe:=FlyIn.own D
theorem ux8:Flies (xcx X r) (lowX X.K r):=fun pins σ H s a C dx I F q=>⟨σ,H,a,C,dx,rfl,(I.unwish).pins_of (fun p h=>absurd h (by simp)),.inl F,q⟩
end
abbrev OkX (P:Program) (w:World) {K:W.Frag} (mg:Str->Option Value) (base:Heap) (n:Nat) {x qual:Str} {st:Stmt} {ps:List Str} (d:FnAt K x qual st ps) (S:Spx3):Prop:=FnOk P w K mg base (CX1 P w) n d.a d.fd ps (ug1 K S)
section
variable {P:Program} {w:World} {K:W.Frag} {mg:Str->Option Value} {base:Heap}
theorem ut8 {CX:CXT} {N:List Str} {qual:Str} {sc:Scope} {f:Addr} {cd:Value} {A:Around} {outer:List Env} {s:Shared} {H:Hp} {E:XK}:Def (cxOf CX P w K mg base N qual sc f cd A outer s H E):=⟨rfl,rfl,rfl,rfl⟩
theorem vz6 {x qual:Str} {st:Stmt} {ps N:List Str} {k:Nat} (d:FnAt K x qual st ps) {S:Spx3} (sc:FnScope N ps (u05 st)) (hl:∀ ds G R r,S ds G R r->ds.length=ps.length) {t:XD->TS3}
  (ht:∀ (cdv:Value) (A:Around) (outer:List Env) (s:Shared) (H:Hp) (E:XK) (r:XD),Room k (A.deeper (envOfC qual (u05 st) s.heap.objs.size d.a cdv))->Ss3 (xcx (cxOf (CX1 P w) P w K mg base N qual (u05 st) d.a cdv A outer s H E) r) (u31 st) (t r))
  (hb:∀ ds G R r,S ds G R r->t r { nx:=fun _ G'=>R .non G',rt:=R } (uc7 N ds) G):OkX P w mg base (k+1) d S:=by
 obtain ⟨oc,od,dV,kV,doc,pm,an,cdv,ct,osl,e,lk,hcd⟩:=d.ex;have lk':K.lookup d.a=some ⟨oc,od,.func (W.fnOf x qual (u36 st) (u31 st) (u05 st) dV kV doc pm an cdv ct),osl⟩:=e ▸ lk;have F:FnOk P w K mg base (CX1 P w) (k+1) d.a (W.fnOf x qual (u36 st) (u31 st) (u05 st) dV kV doc pm an cdv ct) ps (ug1 K S):=by
  refine vy8 lk' hcd sc (fun vs H Q E h=>?_) fun A outer s H vs Q E hr h=>?_
  ·obtain ⟨ds,G,R,r,rr,_,hS,_⟩:=h
   rw [<- rr.length];exact hl ds G R r hS
  ·obtain ⟨ds,G,R,r,rr,c,hS,f,fx⟩:=h
   have fin:=PSs.wish (show PSs _ _ _ from ht cdv A outer s H E r hr) fun e s' hf=>by
    refine wpAny_mono (FlyIn.leaves ut8 hf) (fun _ s'' hq=>?_) fun _ _ z=>z
    obtain ⟨a,C,dx,H',e1,e2,e3,un,e4,e5,C',fs,ys,G',z1,z2,z3,z4,z5⟩:=hq;cases z1;exact ⟨a,_,dx,H',e1,e2,e3,un,e4,e5,fx _ fs G' dx ys H' z2 (wd0 un) z3 z4 z5⟩
   refine ⟨_,fin,uc7 N ds,G,_,uf5 rr,c,hb ds G R r hS,fun σd' G' σ' H' _ c' l' q=>?_,f,fun _ _ _ _ _ _ _ q=>q.elim,fun _ _ _ _ _ _ _ q=>q.elim⟩;exact f .non G' .non H' RelD.nonI c' l' q
 have F2:=F;rw [<- e] at F2;exact F2
end
section
variable {X:Cx} {r:XD} {e:Expr} {es:List Expr} {p pos cpos:Pos} {ta:TE3} {ts:TA3} {k:Nat} {S:Spx3} {x qual f:Str} {st:Stmt} {ps ps':List Str} {C L fI:Addr} {fd:FuncData}
theorem v39 {K:W.Frag} {σ:L2.St} {H:Hp} {Q:VK} {t:TA3} (h:lowE K (ut7 S r t) σ H Q):vq7 (ug1 K S) [] (lowX K r) (lowA K t) σ H Q:=by
 obtain ⟨σd,G,q,rs,c,t,f⟩:=h;refine ⟨σd,G,_,rs,c,t,fun ds G1 vs H1 r1 c1 l1 ⟨R,s1,t1⟩=>⟨ds,G1,R,r,?_,c1,s1,fun d G2 v H2 r2 c2 l2 t2=>f d G2 v H2 r2 c2 (l1.trans l2) (t1 d G2 t2),us7⟩⟩;rw [List.append_nil];exact r1
theorem uz8 (M:XMk X.K C L fI) (F:FnOk X.prog X.w X.K X.mg X.base CX0 k fI fd ps (uc8 C f)) (hr:Room (k+1) X.A) (hb:Binds X.K fd ps []) (hm:X.mg x=some (.ref C)) (ha:A3 (xcx X r) [e] ts) (hc:X.calm=true:=by rfl) (hg:Gl X x:=by rfl)
  (hdb:(x == ("__debug__" : Str))=false:=by decide) (he:starEach [e] X.env=(false,eval e X.env)::starEach [] X.env:=by rfl) (hpl:(backTo cpos (starEach [] X.env)).any (·.1)=false:=by rfl) :
  S3 (xcx X r) (.Raise (some (.Call (.Name x p) [e] [] cpos)) none pos) (vo3 C f r ts) :=
 uj6 (vd1 (X:=xcx X r) M F hr hb hg hm hc ux8 ha hdb he hpl) fun D σ H h=>by
  obtain ⟨σd,G,d,rs,c,t,fd⟩:=h;refine ⟨σd,G,_,rs,c,t,fun ds G1 vs H1 r1 c1 l1 t1=>?_⟩;cases ds with
  | nil=>exact t1.elim
  | cons d rest =>
   cases rest with
   | cons _ _=>exact t1.elim
   | nil =>
    obtain ⟨v,r',rfl,rv,rn⟩:=r1.inv_cons;cases rn.inv_nil;exact ⟨v,rfl,fun dx o hn=>⟨C,[(f,d)],[(f,v)],G1,rfl,c1.side hn,⟨o,u20⟩,.cons (RelD.le (Le.fresh hn) rv) .nil,t1⟩⟩
end
structure XBase (K:W.Frag) (L:Addr):Prop where
 sp:W.specialIn K (.ref L) "__getattribute__" = some (some (.builtin "type.__getattribute__"))
 rd:W.readsIn K L (.type "type")=true
 fc:W.findCls K (.ref L) (.type "type") "__init__" = some (.val (.builtin "ValueError.__init__"))
structure XAttr (K:W.Frag) (C:Addr) (f:Str):Prop where
 sa:W.findIn K (.ref C) "__setattr__" = some (some (.builtin "object.__setattr__"))
 na:W.findIn K (.ref C) f=some none
 ga:W.findIn K (.ref C) "__getattribute__" = some (some (.builtin "BaseException.__getattribute__"))
 gt:W.findIn K (.ref C) "__getattr__" = some none
section
variable {P:Program} {w:World} {K:W.Frag} {mg:Str->Option Value} {base:Heap} {C L:Addr} {f v qual:Str} {st:Stmt} {k:Nat}
theorem v99 (d:FnAt K "__init__" qual st ["self",v]) (sc:FnScope ["self",v] ["self",v] (u05 st)) (hc:xcIn K C (.ref L::VM)=true) (A:XAttr K C f)
  (ht:∀ (cdv:Value) (A:Around) (outer:List Env) (s:Shared) (H:Hp) (E:XK),PSs (cxOf CX0 P w K mg base ["self",v] qual (u05 st) d.a cdv A outer s H E).nox (u31 st) (tSeq (vq5 (vk2 K L (uv2 (tVar 0) (uv2 (tVar 1) tNil)))) (w54 K L (tVar 0) (tVar 1) f))) :
  FnOk P w K mg base CX0 (k+1) d.a d.fd ["self",v] (uc8 C f):=by
 obtain ⟨oc,od,dV,kV,doc,pm,an,cdv,ct,osl,e,lk,hcd⟩:=d.ex;have lk':K.lookup d.a=some ⟨oc,od,.func (W.fnOf "__init__" qual (u36 st) (u31 st) (u05 st) dV kV doc pm an cdv ct),osl⟩:=e ▸ lk;have F:FnOk P w K mg base CX0 (k+1) d.a (W.fnOf "__init__" qual (u36 st) (u31 st) (u05 st) dV kV doc pm an cdv ct) ["self",v] (uc8 C f):=by
  refine vy8 lk' hcd sc (fun vs H Q E h=>?_) fun A' outer s H vs Q E hr h=>⟨_,(ht cdv A' outer s H E).nox,?_⟩
  ·obtain ⟨a,x,rfl,_⟩:=h;rfl
  ·obtain ⟨a,x,rfl,ha,q⟩:=h
   refine ⟨.ref a,rfl,x,rfl,a,C,[x],rfl,ha,hc,by simp,x,rfl,.ref a,rfl,a,C,rfl,ha,hc,A.sa,A.na,fun dx o h1 h2=>q dx o h1 h2⟩
 have F2:=F;rw [<- e] at F2;exact F2
end
def wg3 (K:W.Frag) (L:Addr) (ta:TE3) (f:Str):TE3:=fun σ G q=>ta σ G fun x G1=>match x with
 | .ref a=>(match G1 a with
  | some (.exc C fs)=>xcIn K C (.ref L::VM)=true /\ XAttr K C f /\ (match fs.lookup f with | some d=>q d G1 | none=>False)
  | _=>False)
 | _=>False
section
variable {X:Cx} {e:Expr} {f:Str} {pos:Pos} {ta:TE3}
theorem vw0 {h:Heap} {dx:Addr} {o:Obj} {m:Str->Option Value} {f:Str} {u:Value} (n:h.Ns dx m) (e:h.get? dx=some o) (hm:m f=some u):W.lookIn f o=some (some u):=by
 obtain ⟨o',es,ep,e1,e2,e3,e4⟩:=n;rw [e] at e1;cases e1;unfold W.lookIn;rw [e2];have q:=e4 f;rw [hm] at q;unfold nsFind findBy at q;rw [<- Array.find?_toList] at q;cases z:es.toList.find? (fun x=>x.key.isStr f) with
 | none=>rw [z] at q;cases q
 | some en=>rw [z] at q;simp only [Option.map_some,Option.some.injEq] at q;rw [<- q];dsimp only;rw [z]
theorem wf4 {K:W.Frag} (L:Addr) (he:E3 X e ta) (hb:attributeBase e f X.env (eval e X.env)=eval e X.env:=by rfl) (hK:X.K=K:=by rfl):E3 X (.Attribute e f pos) (wg3 K L ta f):=by
 subst hK;intro pins s σ H Q I h;obtain ⟨σd,G,q,rs,c,t,fu⟩:=h;refine w04 hb (thn (he pins s σ H (fun v H1=>∃ a C fs d G1,v=.ref a /\ Con X.K G1 H1 /\ Le H H1 /\ G1 a=some (.exc C fs) /\ xcIn X.K C (.ref L::VM)=true /\ XAttr X.K C f /\ fs.lookup f=some d /\ q d G1) I ⟨σd,G,_,rs,c,t,fun x G1 v H1 r1 c1 l1 t1=>?_⟩) ?_)
 ·cases x with
  | ref a =>
   cases r1.ref_inv;dsimp only at t1;cases z:G1 a with
   | none=>rw [z] at t1;exact t1.elim
   | some o =>
    rw [z] at t1;cases o with
    | exc C fs =>
     obtain ⟨t1,t2,t3⟩:=t1;cases y:fs.lookup f with
     | none=>rw [y] at t3;exact t3.elim
     | some d=>rw [y] at t3;exact ⟨a,C,fs,d,G1,rfl,c1,l1,z,t1,t2,y,t3⟩
    | _=>exact t1.elim
  | _=>exact t1.elim
 ·rintro u s1 ⟨v,H1,I1,rv,a,C,fs,d,G1,rfl,c1,l1,z,hc,A,y,qq⟩
  cases rv;obtain ⟨dx,ys,h1,h2,h3⟩:=c1 a _ z;obtain ⟨v,h4,h5⟩:=h3.lookup y;obtain ⟨⟨o,vs,g1,g2,g3,g4⟩,_⟩:=I1.hok a _ h1;cases dx with
  | none=>cases (show ys=[] from h2);cases h4
  | some dx =>
   obtain ⟨od,h2⟩:=h2;obtain ⟨k1,mA,k2,k3⟩:=I1.hok dx _ h2;have k4:=k3 f;rw [h4] at k4;obtain ⟨u,k5,k6⟩:=RelO.some_of k4;obtain ⟨hh,gg,dd,tt,oo⟩:=s1;exact wf1 I1.kIn hc A.ga A.gt A.na g1 g2 g4 g3 k1 (vw0 k2.ns k1 k5) (v60 k6) ⟨v,H1,I1.tok _,k6,fu d G1 v H1 h5 c1 l1 qq⟩
end
def mkd (X:Cx) (a:Addr):Cx:={ X with A:=X.A.mark (some (.ref a)),calm:=false }
section
variable {X:Cx} {pins:List (Addr × Obj)} {σ:L2.St} {H:Hp} {s:Shared} {a:Addr}
theorem w91 (k:X.Ok):(mkd X a).Ok:=⟨k.mod,k.kind,k.glob,k.blt,k.above,k.inj,k.has,k.cab,(fun z=>nomatch z),k.frames,k.stk,k.exf,k.bs,k.bsz,k.noex,k.exfs,k.funs,k.frf⟩
theorem Inv.mkd (I:Inv X pins σ H s):Inv (mkd X a) pins σ H s:=⟨w91 I.ok,I.os,I.bare,I.base,I.loc,I.cell,I.free,I.freeC,I.pin,I.hok,I.len⟩
theorem Inv.unmkd (I:Inv (L3.mkd X a) pins σ H s) (k:X.Ok):Inv X pins σ H s:=⟨k,I.os,I.bare,I.base,I.loc,I.cell,I.free,I.freeC,I.pin,I.hok,I.len⟩
theorem SP.unmkd {D:Ends} {f:Flow} (h:SP (L3.mkd X a) pins D f s) (k:X.Ok):SP X pins D f s:=by
 cases f with
 | next=>obtain ⟨σ',H',I,q⟩:=h;exact ⟨σ',H',Inv.unmkd I k,q⟩
 | brk=>obtain ⟨σ',H',I,q⟩:=h;exact ⟨σ',H',Inv.unmkd I k,q⟩
 | cont=>obtain ⟨σ',H',I,q⟩:=h;exact ⟨σ',H',Inv.unmkd I k,q⟩
 | ret u=>obtain ⟨v,σ',H',I,r,q⟩:=h;exact ⟨v,σ',H',Inv.unmkd I k,r,q⟩
theorem Inv.names {h':Heap} {m':Str->Option Value} {σ':L2.St} {t':Nat} (I:Inv X pins σ H s) (hn:h'.Ns X.env.locals m') (sb:Heap.SameBut X.env.locals s.heap h') (hl:σ'.length=σ.length)
  (k:∀ m,s.heap.Ns X.env.locals m->(∀ (i:Nat) (x:Str) (v:V),X.N[i]?=some x->σ[i]?=some (some v)->Vis X.env.scope x->∃ u,RelV v u /\ Look X.env s.heap m x u) ->
   ∀ (i:Nat) (x:Str) (v:V),X.N[i]?=some x->σ'[i]?=some (some v)->Vis X.env.scope x->∃ u,RelV v u /\ Look X.env s.heap m' x u):Inv X pins σ' H { s with heap:=h',toks:=t' }:=by
 obtain ⟨m,hm,lk⟩:=id I.loc;obtain ⟨oL,_,_,hoL,_⟩:=id hm;have nb:∀ b o,X.s₀.heap.get? b=some o->b ≠ X.env.locals:=fun b o e=>Nat.ne_of_lt (Nat.lt_of_lt_of_le (Heap.lt_size e) I.ok.above)
 refine ⟨I.ok,I.os,I.bare,⟨fun b o e n hb hx=>?_,fun b o e n hb hx=>?_,I.base.free,fun b o e hx=>?_,I.base.tups,I.base.frzs,I.base.tbls⟩,⟨m',hn,fun j y v e1 e2 e3=>?_⟩,fun y c e=>?_,I.free,I.freeC,fun p hp=>?_,fun b ob e=>?_,hl.trans I.len⟩
 ·exact (sb.2 b (nb b o e)).trans (I.base.keep b o e n hb hx)
 ·obtain ⟨sl,e1⟩:=I.base.slot b o e n hb hx
  exact ⟨sl,(sb.2 b (nb b o e)).trans e1⟩
 ·obtain ⟨o',e1⟩:=I.base.there b o e hx
  exact ⟨o',(sb.2 b (nb b o e)).trans e1⟩
 ·obtain ⟨u,r,l⟩:=k m hm lk j y v e1 e2 e3
  refine ⟨u,r,?_⟩
  rcases l with l | ⟨z,c,e,q⟩
  ·exact .inl l
  ·exact .inr ⟨z,c,e,q.sameBut sb (I.cne y c e)⟩
 ·obtain ⟨v,q⟩:=I.cell y c e
  exact ⟨v,q.sameBut sb (I.cne y c e)⟩
 ·obtain ⟨e,n,ne,nf,d⟩:=I.pin p hp
  exact ⟨(sb.2 p.1 ne).trans e,n,ne,nf,d⟩
 ·refine (I.hok b ob e).stay (fun c w' hc q=>(sb.2 c ?_).trans q) (fun _ q=>q) fun _ _ q=>q
  rintro rfl
  rcases hc with rfl | hc
  ·rw [I.free] at e;cases e
  ·rw [I.free] at hc;cases hc
theorem u94 {M:Model} {A:Around} {E:Value->Shared->Prop} {i:Nat} {n:Str} {pos:Pos} {Q:Unit->Shared->Prop} (I:Inv X pins σ H s) (hN:X.N.Nodup) (hi:X.N[i]?=some n) (hl:X.env.scope.names.lookup n=some .local)
  (k:∀ s',Inv X pins (σ.set i none) H s'->Q () s'):wpAny M A (do bindName X.env n .none;unbindBehindTheSuite X.env n pos) Q E s:=by
 have hp:(X.env.scope.kind == .class || (X.env.scope.kind == .module && X.env.locals != X.env.globals))=false:=by rw [I.ok.kind];rfl
 have hk:X.env.kindOf n=some .local:=hl;refine wpAny_bind (wpAny_bindName (u76 (v:=.non) (u:=.none) I hN hi (.inl hl) rfl (fun s1 I1=>?_) (.inr hl)));have hiσ:i < σ.length:=by rw [I.len];exact (List.getElem?_eq_some_iff.mp hi).1
 obtain ⟨m,hm,lk⟩:=id I1.loc;unfold unbindBehindTheSuite;refine wpAny_onRaise ?_;unfold unbindName;refine wpAny_bind (wpAny_point (wpAny_bind ?_));unfold deleteName;simp only [hk,hp];rw [if_neg (by decide)];have there:(m n).isSome=true:=by
  obtain ⟨u,ru,l⟩:=lk i n .non hi (by rw [List.getElem?_set_self hiσ]) (.inl hl)
  rcases l with ⟨_,e⟩ | ⟨z,_⟩
  ·rw [e];rfl
  ·rw [hk] at z;rcases z with z | z <;> cases z
 refine wpAny_bind (wpAny_nsDel_keeps hm fun h2 v0 hn2 sb=>?_);rw [there];simp only [Bool.not_true,Bool.false_eq_true,if_false];refine wpAny_pure (wpAny_point (k { s1 with heap:=h2 } ?_));refine Inv.names (t':=s1.toks) I1 hn2 sb (by simp) fun m0 hm0 lk0 j y v e1 e2 e3=>?_
 by_cases hj:j=i
 ·subst hj
  rw [List.getElem?_set_self hiσ] at e2;cases e2
 ·rw [List.getElem?_set_ne (Ne.symm hj)] at e2
  obtain ⟨u,ru,l⟩:=lk j y v e1 (by rw [List.getElem?_set_ne (Ne.symm hj)];exact e2) e3;refine ⟨u,ru,?_⟩
  rcases l with ⟨z,e⟩ | l
  ·refine .inl ⟨z,?_⟩
   have ny:y ≠ n:=fun e=>hj (uh6 hN e1 (e ▸ hi))
   show (if y=n then v0 else m y)=some u
   rw [if_neg ny];exact e
  ·exact .inr l
end
def XP (X:Cx) (pins:List (Addr × Obj)) (σ:L2.St) (H:Hp) (r:XD) (e:Value) (s':Shared):Prop:=∃ H1 s1,Inv X pins σ H1 s1 /\ Le H H1 /\ CX1 X.prog X.w X.stack H1 s1 (lowX X.K r) e s'
def E3X (X:Cx) (e:Expr) (t:XD->TE3):Prop:=∀ (pins:List (Addr × Obj)) (s:Shared) (σ:L2.St) (H:Hp) (Q:VK) (r:XD),Inv X pins σ H s->lowE X.K (t r) σ H Q->wpAny (model X.prog X.w) X.A (eval e X.env) (EP X pins σ Q) (XP X pins σ H r) s
def PB (X:Cx) (st:List Stmt) (t:XD->TS3):Prop:=∀ (pins:List (Addr × Obj)) (s:Shared) (σ:L2.St) (H:Hp) (D:Ends) (r:XD),Inv X pins σ H s->lowS X.K (t r) D σ H->wpAny (model X.prog X.w) X.A (execs st X.env) (SP X pins D) (XP X pins σ H r) s
section
variable {X:Cx} {e c:Expr} {es:List Expr} {p pos:Pos} {ts:TA3} {k:Nat} {S:Spx3} {x qual:Str} {st:Stmt} {ps:List Str} {t:XD->TE3} {tc:TT3} {a b:List Stmt} {ta tb:XD->TS3}
theorem XP.le {pins:List (Addr × Obj)} {σ:L2.St} {H H1:Hp} {r:XD} {e:Value} {s':Shared} (h:XP X pins σ H1 r e s') (l:Le H H1):XP X pins σ H r e s':=by
 obtain ⟨H2,s1,I,l2,q⟩:=h;exact ⟨H2,s1,I,l.trans l2,q⟩
theorem ecT (d:FnAt X.K x qual st ps) (hm:X.mg x=some (.ref d.a)) (G:FnOk X.prog X.w X.K X.mg X.base (CX1 X.prog X.w) k d.a d.fd ps (ug1 X.K S)) (hr:Room k X.A) (ha:A3 X (e::es) ts) (hg:Gl X x:=by rfl) (hdb:(x == ("__debug__" : Str))=false:=by decide)
  (he:starEach (e::es) X.env=(false,eval e X.env)::starEach es X.env:=by rfl) (hpl:(backTo pos (starEach es X.env)).any (·.1)=false:=by rfl) (hn:∀ e s,¬ X.xe e s:=by exact fun _ _ z=>z):E3X X (.Call (.Name x p) (e::es) [] pos) (fun r=>ut7 S r ts):=by
 intro pins s σ H Q r I h;obtain ⟨σd,G0,q,rs,c,t,f⟩:=h;refine wpAny_Call_Name_kw (ua4 I hg hm ?_ hdb);refine W.callWith_K (h₀:=X.base) I.ok.mod.kin d.kp (wpAny_mono (ha pos pins s σ H (fun vs H1=>Le H H1 /\ ∃ ds G1 R,RelDs X.K H1 ds vs /\ Con X.K G1 H1 /\ S ds G1 R r /\ FutE X.K H1 R Q) I ⟨σd,G0,_,rs,c,t,fun ds G1 vs H1 r1 c1 l1 ⟨R,s1,t1⟩=>⟨l1,ds,G1,R,r1,c1,s1,fun d G2 v H2 r2 c2 l2 t2=>f d G2 v H2 r2 c2 (l1.trans l2) (t1 d G2 t2)⟩⟩) ?_ fun e s' z=>(hn e s' z).elim) he hpl;rintro us s1 ⟨vs,H1,I1,rv,l1,ds,G1,R,r1,c1,hS,fu⟩;refine ⟨I1.kIn,?_⟩;have hsp:ug1 X.K S vs H1 Q (lowX X.K r):=⟨ds,G1,R,r,r1,c1,hS,fu,us7⟩;have hln:(us++[]).length=ps.length:=by rw [List.append_nil,<- rv.length];exact G.len _ _ _ _ hsp
 have hb:=d.b s1 us I1.kIn hln;rw [List.append_nil] at hb;refine wpAny_call (codeAny_mono (G.run X.A X.stack s1 H1 ⟨us,[]⟩ us vs Q (lowX X.K r) hr I1.env0 hb rv hsp) fun r' s' hq=>?_);cases r' with
 | error e=>exact ⟨H1,s1,I1,l1,hq⟩
 | ok fl =>
  cases fl with
  | ret u=>exact I1.after hq
  | next=>exact False.elim hq
  | brk=>exact False.elim hq
  | cont=>exact False.elim hq
theorem v18 (h:E3X X e t) (hs:swapsWith e none pos.line X.env=pure false:=by rfl):PB X [.Expr e pos] (fun r=>vi2 (t r)):=by
 intro pins s σ H D r I hw;refine wpAny_execs_cons (wpAny_Expr_any (thn (h pins s σ H (fun _ H1=>D.nx σ H1) r I (us2 hw)) ?_) I.quiet hs);rintro v s1 ⟨y,H1,I1,r1,q1⟩;exact wpAny_execs_nil ⟨σ,H1,I1,q1⟩
end
def isX (C L C2:Addr):Bool:=decide (C2=C \/ C2=L)
def H3 (X:Cx) (hs:List ExceptHandler) (th:Addr->List (Str × D)->TS3):Prop :=
 ∀ (pins:List (Addr × Obj)) (s:Shared) (σ:L2.St) (H:Hp) (D:Ends) (a C:Addr) (dx:Option Addr) (ys:List (Str × V)) (fs:List (Str × L3.D)) (lim:Nat),Inv X pins σ H s->X.s₀.heap.objs.size<=lim->(∀ p ∈ X.pn++pins,p.1 < lim) ->
  Fly (fun v=>v=.none) lim H a C dx s.heap->XDict H dx ys->RelPs X.K H fs ys->lowS X.K (th C fs) D σ H->wpAny (model X.prog X.w) X.A (handleBy (.ref a) X.env hs) (SP X pins D) X.xe s
def wg5 (K:W.Frag) (L C2:Addr) (i:Nat) (ts:TS3) (th:Addr->List (Str × D)->TS3):Addr->List (Str × D)->TS3:=fun C fs E σ G=>xcIn K C (.ref L::VM)=true /\
 if isX C L C2=true then ∀ a,G a=none->ts { E with nx:=fun σ' G'=>E.nx (σ'.set i none) G',bk:=fun σ' G'=>E.bk (σ'.set i none) G',ct:=fun σ' G'=>E.ct (σ'.set i none) G' } (σ.set i (some (.ref a))) (gup G a (.exc C fs)) else th C fs E σ G
def wg4 (K:W.Frag) (L C2:Addr) (ts:TS3) (th:Addr->List (Str × D)->TS3):Addr->List (Str × D)->TS3:=fun C fs E σ G=>xcIn K C (.ref L::VM)=true /\
 if isX C L C2=true then ts E σ G else th C fs E σ G
def v81:Addr->List (Str × D)->TS3:=fun _ _ _ _ _=>False
def dTry (tb:XD->TS3) (th:Addr->List (Str × D)->TS3):TS3:=fun E σ G=>tb (fun C fs G'=>th C fs E σ G') E σ G
theorem wf0 {X:Cx}:H3 X [] v81:=fun _ _ _ _ _ _ _ _ _ _ _ _ _ _ _ _ _ h=>by
 obtain ⟨_,_,_,_,_,z,_⟩:=h;exact z.elim
section
variable {M:Model} {A:Around} {E:Value->Shared->Prop} {K:W.Frag} {C L C2 a:Addr} {bm:List Value} {o:Obj}
theorem ve6 {s:Shared} {Q:Bool->Shared->Prop} (X:K.In s.heap) (c2:xcIn K C2 bm=true) (hb:bm.contains (.type "BaseException")=true) (hc:xcIn K C (.ref L::VM)=true) (hx:s.heap.get? a=some o) (hcl:o.cls=.ref C) (q:Q (isX C L C2) s) :
  wpAny M A (excMatches (.ref a) (.ref C2)) Q E s:=by
 obtain ⟨⟨nm,q',N,bs,sn,sub,ab,col,dd,k0,k1,k2,k3,k5,hC2⟩,_⟩:=um7 X c2;have hcB:(Value.ref C2::bm).contains (.type "BaseException")=true:=by rw [List.contains_cons,hb,Bool.or_true]
 have e1:(Value.ref C::.ref L::VM).contains (.ref C2)=isX C L C2:=by
  unfold isX VM;rw [Bool.eq_iff_iff,List.contains_iff_mem];simp
 obtain ⟨h,g,d,t,os⟩:=s;have T:=uc5 (M:=M) hx hcl;have S1:=uz1 (M:=M) X hc (.ref C2);rw [e1] at S1;have S2:isSubtype (.type "type") (.type "tuple")=pure false:=PySem.F.notTuple_ValueError;unfold excMatches
 repeat (any_goals (first | assumption | with_reducible refine wpAny_loadPart_at hC2 ?_ | (with_reducible refine wpAny_isSubtype_exc hC2 ?_;rw [hcB]) | with_reducible refine W.Looks.at (by assumption) ?_ | wp_step))
 generalize isX C L C2=b at q ⊢;cases b <;> (wp_walk;exact q)
end
theorem RelSt.unset {K:W.Frag} {H:Hp} {σd:DSt} {σ:L2.St} (h:RelSt K H σd σ) (i:Nat):RelSt K H (σd.set i none) (σ.set i none):=by
 refine ⟨by rw [List.length_set,List.length_set];exact h.1,fun j d q=>?_⟩
 by_cases hj:i=j
 ·subst hj
  rw [List.getElem?_set] at q;simp at q
 ·rw [List.getElem?_set_ne hj] at q ⊢
  exact h.2 j d q
section
variable {X:Cx} {np pos:Pos} {c n:Str} {C2:Addr} {bm:List Value} {b₀:Stmt} {suite:List Stmt} {rest:List ExceptHandler} {ts:TS3} {th:Addr->List (Str × D)->TS3}
theorem vn4 {f:Value->Prop} {lim:Nat} {H:Hp} {a C:Addr} {dx:Option Addr} {h:Heap} (F:Fly f lim H a C dx h):∃ o vs,h.get? a=some o /\ o.cls=.ref C /\ o.dict=dx /\ o.data=.fields vs /\ lim<=a /\ H a=none:=by
 obtain ⟨oe,vs,T,oT,ts,v,o,_⟩:=F;exact ⟨oe,vs,o.ge,o.cl,o.di,o.da,o.la,o.ha⟩
theorem h_as {K:W.Frag} (L:Addr) (i:Nat) (hm:X.mg c=some (.ref C2)) (c2:xcIn K C2 bm=true) (hb:bm.contains (.type "BaseException")=true) (hN:X.N.Nodup) (hsu:∀ a,Ss3 (mkd X a) (b₀::suite) ts) (hr:H3 X rest th)
  (hi:X.N[i]?=some n:=by rfl) (hl:X.env.scope.names.lookup n=some .local:=by rfl) (hg:Gl X c:=by rfl) (hdb:(c == ("__debug__" : Str))=false:=by decide) (hn:∀ e s,¬ X.xe e s:=by exact fun _ _ z=>z) (Df:Def X:=by exact ⟨rfl,rfl,rfl,rfl⟩) (hK:X.K=K:=by rfl):H3 X (.ExceptHandler (some (.Name c np)) (some n) (b₀::suite) pos::rest) (wg5 K L C2 i ts th):=by
 subst hK;intro pins s σ H D a C dx ys fs lim I hlim hp F hx hf h;obtain ⟨σd,G,d,rs,cc,⟨hc,t⟩,f⟩:=h;obtain ⟨o,vs,g1,g2,g3,g4,la,ha⟩:=vn4 F;refine wpAny_handleBy_cons (codeAny_handlers_test ?_) (by intro q;cases q);refine wpAny_mono (ua4 (X:=mkd X a) (E:=fun _ _=>False) (Inv.mkd I) hg hm ?_ hdb) (fun _ _ z=>z) fun _ _ z=>z.elim
 refine wpAny_mono (ve6 (E:=fun _ _=>False) I.kIn c2 hb hc g1 g2 ?_) (fun _ _ z=>z) fun _ _ z=>z.elim
 by_cases hX:isX C L C2=true
 ·rw [if_pos hX] at t ⊢
  refine codeAny_handlers_suite_as ?_;refine u82 I Df.st Df.fr hlim hp F fun h2 I2 F2=>?_
  obtain ⟨o2,vs2,e1,e2,e3,e4,_,_⟩:=vn4 F2;obtain ⟨n1,n2,n3⟩:=I2.rec_ne e1 e4;have hpa:∀ p ∈ X.pn++pins,p.1 ≠ a:=fun p h e=>absurd (hp p h) (by rw [e];exact Nat.not_lt.mpr la)
  have I3:=I2.track (b:=a) (o:=.ext (XH a C dx)) ha (Nat.le_trans hlim la) hpa n1 n2 ⟨⟨o2,vs2,e1,e2,e3,e4⟩,⟨_,e1⟩,XH.stays⟩;have l3:Le H (upd H a (.ext (XH a C dx))):=Le.fresh ha;have c3:Con X.K (gup G a (.exc C fs)) (upd H a (.ext (XH a C dx))):=cc.put l3 ⟨dx,ys,u20,hx.le l3,hf.le l3⟩;refine wpAny_mono (u76 (X:=mkd X a) (v:=.ref a) (E:=fun _ _=>False) (Inv.mkd (a:=a) I3) hN hi (.inl hl) rfl (fun s4 I4=>?_) (.inr hl)) (fun _ _ z=>z) fun _ _ z=>z.elim
  have low:lowS X.K ts { D with nx:=fun σ' H'=>D.nx (σ'.set i none) H',bk:=fun σ' H'=>D.bk (σ'.set i none) H',ct:=fun σ' H'=>D.ct (σ'.set i none) H' } (σ.set i (some (.ref a))) (upd H a (.ext (XH a C dx))) :=
   ⟨σd.set i (some (.ref a)),_,_,(rs.le l3).set i RelD.refI,c3,t a (cc.fresh ha),(fun x1 x2 x3 x4 r1 r2 r3 q=>f.nx _ _ _ _ (r1.unset i) r2 (l3.trans r3) q),f.rt.le l3,(fun x1 x2 x3 x4 r1 r2 r3 q=>f.bk _ _ _ _ (r1.unset i) r2 (l3.trans r3) q),fun x1 x2 x3 x4 r1 r2 r3 q=>f.ct _ _ _ _ (r1.unset i) r2 (l3.trans r3) q⟩
  refine wpAny_mono (hsu a pins s4 _ _ _ I4 low) (fun fl s5 q5=>?_) fun e s' z=>(hn e s' z).elim
  have q6:=SP.unmkd q5 I.ok;cases fl with
  | next=>obtain ⟨σ6,H6,I6,q6⟩:=q6;exact u94 I6 hN hi hl fun s7 I7=>⟨_,H6,I7,q6⟩
  | brk=>obtain ⟨σ6,H6,I6,q6⟩:=q6;exact u94 I6 hN hi hl fun s7 I7=>⟨_,H6,I7,q6⟩
  | cont=>obtain ⟨σ6,H6,I6,q6⟩:=q6;exact u94 I6 hN hi hl fun s7 I7=>⟨_,H6,I7,q6⟩
  | ret u=>obtain ⟨v,σ6,H6,I6,r6,q6⟩:=q6;exact u94 I6 hN hi hl fun s7 I7=>⟨v,_,H6,I7,r6,q6⟩
 ·rw [if_neg hX] at t
  rw [if_neg hX];exact hr pins s σ H D a C dx ys fs lim I hlim hp F hx hf ⟨σd,G,d,rs,cc,t,f⟩
theorem w51 {h₀:ExceptHandler} {hs:List ExceptHandler} {body:List Stmt} {tb:XD->TS3} (pb:PB X body tb) (hh:H3 X (h₀::hs) th) (Df:Def X:=by exact ⟨rfl,rfl,rfl,rfl⟩):S3 X (.Try body (h₀::hs) [] [] pos) (dTry tb th):=by
 intro pins s σ H D I h;obtain ⟨σd,G,d,rs,cc,t,f⟩:=h;refine wpAny_Try_except (wpAny_mono (pb pins s σ H D (fun C fs G'=>th C fs d σd G') I ⟨σd,G,d,rs,cc,t,f⟩) (fun fl s1 q=>?_) fun e s1 hx=>?_)
 ·cases fl with
  | next=>exact wpAny_execs_nil q
  | ret v=>exact q
  | brk=>exact q
  | cont=>exact q
 ·obtain ⟨H1,s0,I1,l1,a,C,dx,H2,rfl,os,ba,un,hok,F,C',fs,ys,G2,z1,c2,x2,p2,q⟩:=hx
  cases z1;have I2:=I1.call' (ch:=[]) os un hok ba (fun b z=>nomatch z);have hp:∀ p ∈ X.pn++pins,p.1 < s0.heap.objs.size:=fun p h=>Heap.lt_size (I1.pin p h).1
  have l2:=l1.trans (wd0 un);refine uh5 I2 Df.st Df.fr I1.sz hp (.inr (F.imp fun v e=>.inl e)) fun h3 I3 F3=>u82 I3 Df.st Df.fr I1.sz hp F3 fun h4 I4 F4=>?_
  exact hh pins _ σ H2 D a _ dx ys fs _ I4 I1.sz hp F4 x2 p2 ⟨σd,G2,d,rs.le l2,c2,q,f.le l2⟩
end
end L3
namespace L2
open PySem PySem.Spec PyProof.Rows PySem.W
section
variable {prog:Program} {w:World} {A:Around} {E:Value->Shared->Prop} {K:Frag} {C C2 L x:Addr} {o:Obj} {vs:Array Value}
theorem ux2:specialIn K (.builtin "object.__class__") "__get__" = some (some (.builtin "getset_descriptor.__get__")):=by kernel_rfl
theorem v84:takesIn K (.builtin "object.__class__")=some true:=by kernel_rfl
theorem uu1 {od:Option Obj} {s:Shared} {Q:Option Value->Shared->Prop} (X:K.In s.heap) (hc:xcIn K C (.ref L::VM)=true) (hga:findIn K (.ref C) "__getattribute__" = some (some (.builtin "BaseException.__getattribute__"))) (hgt:findIn K (.ref C) "__getattr__" = some none)
  (hcc:findIn K (.ref C) "__class__" = some (some (.builtin "object.__class__"))) (I:InstAt s.heap x o C od) (hq:Q (some (.ref C)) { s with toks:=s.toks+1 }):wpAny (model prog w) A (getAttr? (.ref x) "__class__") Q E s:=by
 have GA:=PySem.F.attr_ValueError.ga;obtain ⟨cd,c1,c2,c3⟩:=ua9 hc;have hf:findObj K C od "__class__" = some (.bind (.builtin "getset_descriptor.__get__") (.builtin "object.__class__")):=by
  unfold findObj;rw [c1,Option.bind_some,hcc,Option.bind_some];dsimp only;rw [ux2,Option.bind_some];dsimp only;rw [v84,Option.bind_some]
 have hm:mroIn K C (.type "object")=some true:=by unfold mroIn;rw [c1,Option.bind_some,c2];rfl
 obtain ⟨h,g,d,t,os⟩:=s;have T:=I.type (M:=model prog w);have L1:=looks_findIn (M:=model prog w) X hga;have L2:=looks_findIn (M:=model prog w) X hgt;have L3:=looks_find (M:=model prog w) X I hf;have f3:=GA.bind (.ref x);have hx2:(Value.builtin "BaseException.__getattribute__" == Value.builtin "object.__getattribute__")=false:=by decide
 have hx1:(onTheHeap (Value.ref C) && Value.builtin "BaseException.__getattribute__" == Value.builtin "object.__getattribute__")=false:=by rw [hx2];rfl
 unfold getAttr? getAttrBy? getAttrBy
 repeat (any_goals (first | assumption | with_reducible refine Looks.at (by assumption) ?_ | wp_step))
 refine codeAny_call_builtin GA.plain PySem.F.entry_bexc_ga (ue1 X hc I.at_ I.cls ?_)
 show wpAny _ _ (Builtin.«object.__getattribute__» ⟨[.ref x,.str "__class__" t],[]⟩) _ _ _
 unfold Builtin.«object.__getattribute__»
 repeat (any_goals (first | assumption | with_reducible refine Looks.at (by assumption) ?_ | wp_step))
 refine class_get (s:=⟨h,g,d,t+1,os⟩) (ox:=o) (od:=od) X I hm ?_;refine wpAny_pure ?_;exact wpAny_pure (wpAny_pure hq)
def XcX (K:Frag) (C:Addr):Prop:=findIn K (.ref C) "__getattribute__" = some (some (.builtin "BaseException.__getattribute__")) /\ findIn K (.ref C) "__getattr__" = some none /\ findIn K (.ref C) "__class__" = some (some (.builtin "object.__class__"))
theorem uo7 {dx:Option Addr} (hc:xcIn K C (.ref L::VM)=true) (h2:XcX K C):KitX K (.ref x) (.ref C) (fun h=>XH x C dx h /\ ∀ d,dx=some d->∃ od,h.get? d=some od) where
 ty:=fun M h _ p=>by obtain ⟨⟨o,vs,e1,e2,_⟩,_⟩:=p;exact uc5 e1 e2
 it:=fun M h X _=>by
  obtain ⟨⟨nm,q',N,bs,sn,sub,ab,col,dd,k0,k1,k2,k3,k5,hC⟩,_⟩:=um7 X hc;intro A' Q' E' s' k q;unfold isType loadHead;exact wpAny_bind (wpAny_loadPart (k _ _ hC) (wpAny_pure q))
 ne:=fun h tp dd its n sl X htp=>by
  obtain ⟨⟨nm,q',N,bs,sn,sub,ab,col,dd,k0,k1,k2,k3,k5,hC⟩,_⟩:=um7 X hc;refine Bool.eq_false_iff.mpr fun q=>?_
  have e:C=tp:=Value.ref.inj (beq_iff_eq.mp q);subst e;have z:=congrArg (fun o:Option Obj=>o.map (·.cls)) (hC.symm.trans htp);exact absurd z (by simp)
 ca:=fun {_ _ _ _ _ s} X p k=>by
  obtain ⟨⟨o,vs,e1,e2,e3,e4⟩,p2⟩:=p;have nc:notCls o=true:=by unfold notCls;rw [e4]
  cases dx with
  | none=>exact uu1 (o:=o) (od:=none) X hc h2.1 h2.2.1 h2.2.2 ⟨e1,e2,nc,by rw [e3];trivial⟩ k
  | some d =>
   obtain ⟨od,p3⟩:=p2 d rfl;exact uu1 (o:=o) (od:=some od) X hc h2.1 h2.2.1 h2.2.2 ⟨e1,e2,nc,by rw [e3];exact p3⟩ k
theorem vm9 {bm:List Value} (hc:xcIn K C (.ref L::VM)=true) (c2:xcIn K C2 bm=true):kitOne K (.ref C) (.ref C2)=some (decide (C2=C \/ C2=L)):=by
 obtain ⟨cd,c1,c3,_⟩:=ua9 hc;obtain ⟨cd2,d1,d3,_⟩:=ua9 c2;have ty:typeIn K (.ref C2)=some (.type "type"):=by
  unfold xcIn at c2;split at c2
  ·rename_i dd cd' sl ho
   show (K.lookup C2).map (·.cls)=_
   rw [ho];rfl
  ·cases c2
 unfold kitOne
 by_cases e:C=C2
 ·subst e;rw [if_pos (by simp)];simp
 ·rw [if_neg (by simpa using e)]
  unfold kitCls;dsimp only;rw [d1,ty,if_pos (by rfl)]
  show mroIn K C (.ref C2)=_
  unfold mroIn;rw [c1,Option.bind_some,c3]
  show some ((Value.ref C::.ref L::VM).contains (.ref C2))=_
  congr 1
  rw [Bool.eq_iff_iff,List.contains_iff_mem];simp
theorem vx8 (hc:xcIn K C (.ref L::VM)=true):kitOne K (.ref C) (.type "ValueError")=some true:=by
 obtain ⟨cd,c1,c3,_⟩:=ua9 hc;unfold kitOne;rw [if_neg (by simp)];unfold kitCls;dsimp only;rw [if_pos (show kitMeta "ValueError" = true by decide)]
 show mroIn K C (.type "ValueError")=_
 unfold mroIn;rw [c1,Option.bind_some,c3];rfl
theorem vg4:kitOne K (.type "NoneType") (.type "ValueError")=some false:=by kernel_rfl
theorem vg3 {bm:List Value} (c2:xcIn K C2 bm=true):kitOne K (.type "NoneType") (.ref C2)=some false:=by
 obtain ⟨cd2,d1,d3,_⟩:=ua9 c2;have ty:typeIn K (.ref C2)=some (.type "type"):=by
  unfold xcIn at c2;split at c2
  ·rename_i dd cd' sl ho
   show (K.lookup C2).map (·.cls)=_
   rw [ho];rfl
  ·cases c2
 unfold kitOne;rw [if_neg (by simp)];unfold kitCls;dsimp only;rw [d1,ty,if_pos (by rfl)];have m:fastBuiltinMro "NoneType" = some [.type "NoneType",.type "object"]:=by kernel_rfl
 show (fastBuiltinMro "NoneType").map (·.contains (.ref C2))=_
 rw [m];simp
theorem v44 (hc:xcIn K C (.ref L::VM)=true):∀ {cs:List Addr},(∀ c ∈ cs,∃ bm,xcIn K c bm=true)->kitAny K (.ref C) (cs.map Value.ref)=some (cs.any fun c=>decide (c=C \/ c=L))
 | [],_=>rfl
 | c::cs,h=>by
  obtain ⟨bm,e⟩:=h c List.mem_cons_self;rw [List.map_cons];unfold kitAny;rw [vm9 hc e,List.any_cons]
  by_cases z:c=C \/ c=L
  ·rw [decide_eq_true z];rfl
  ·rw [decide_eq_false z];exact v44 hc fun c' m=>h c' (List.mem_cons_of_mem _ m)
end
end L2
namespace L3
open PySem PySem.Spec PyProof.Rows L2
def uh3:List D->Option (List Addr)
 | []=>some []
 | .ref a::r=>(uh3 r).map (a::·)
 | _::_=>none
def xIsX (K:W.Frag) (L:Addr):C3:=fun ds G q=>match ds with
 | [.non,.ref C2]=>(∃ bm,xcIn K C2 bm=true) /\ q (.bl false) G
 | [.non,.ty "ValueError"]=>q (.bl false) G
 | [.ref a,.ref C2]=>(match G a with | some (.exc C _)=>xcIn K C (.ref L::VM)=true /\ XcX K C /\ (∃ bm,xcIn K C2 bm=true) /\ q (.bl (isX C L C2)) G | _=>False)
 | [.ref a,.ty "ValueError"]=>(match G a with | some (.exc C _)=>xcIn K C (.ref L::VM)=true /\ XcX K C /\ q (.bl true) G | _=>False)
 | [.ref a,.tup cs]=>(match G a,uh3 cs with | some (.exc C _),some l=>xcIn K C (.ref L::VM)=true /\ XcX K C /\ (∀ c ∈ l,∃ bm,xcIn K c bm=true) /\ q (.bl (l.any (isX C L))) G | _,_=>False)
 | _=>False
theorem ur4 {K:W.Frag} {H:Hp}:∀ {ds:List D} {xs:List V} {l:List Addr} {us:List Value},uh3 ds=some l->RelDs K H ds xs->Vals xs us->us=l.map Value.ref
 | [],xs,l,us,e,r,v=>by
  cases r.inv_nil;cases v;cases e;rfl
 | d::ds,xs,l,us,e,r,v=>by
  obtain ⟨x,t,rfl,r1,r2⟩:=r.inv_cons;cases v with
  | cons v1 v2 =>
   cases d with
   | ref a =>
    cases r1.ref_inv;cases v1;cases z:uh3 ds with
    | none=>simp [uh3,z] at e
    | some l' =>
     simp only [uh3,z,Option.map_some,Option.some.injEq] at e;subst e;rw [List.map_cons,ur4 z r2 v2]
   | _=>simp [uh3] at e
section
variable {X:Cx}
theorem vp2 {K:W.Frag} (L:Addr) (hK:X.K=K:=by rfl):Call3 X (.builtin "isinstance") (xIsX K L):=by
 subst hK;intro pins s σ H xs us Q I rv h;obtain ⟨ds,G,q,r,c,t,f⟩:=h;have fin:∀ b tk,q (.bl b) G->EP X pins σ Q (.bool b) { s with toks:=tk }:=fun b tk z=>⟨.bl b,H,I.tok tk,rfl,f (.bl b) G (.bl b) H (by rw [RelD]) c (Le.refl H) z⟩
 have exc:∀ {a C fs},G a=some (.exc C fs)->∃ dx,(XH a C dx s.heap /\ ∀ d,dx=some d->∃ od,s.heap.get? d=some od):=fun {a C fs} e=>by
  obtain ⟨dx,ys,h1,h2,_⟩:=c a _ e;refine ⟨dx,(I.hok a _ h1).1,fun d z=>?_⟩;subst z;obtain ⟨o,h2⟩:=h2;exact ⟨o,(I.hok d _ h2).1⟩
 unfold xIsX at t;split at t
 ·rename_i C2
  obtain ⟨⟨bm,e1⟩,t⟩:=t;obtain ⟨x1,r1,rfl,rx,r2⟩:=r.inv_cons;obtain ⟨x2,r3,rfl,ry,r4⟩:=r2.inv_cons;cases r4.inv_nil;rw [RelD] at rx;subst rx;cases ry.ref_inv;obtain ⟨u,v,rfl,ru,rw'⟩:=Vals.two rv;cases ru;cases rw';exact W.kia_one W.kitx_none I.kIn True.intro (vg3 e1) (fun z=>nomatch z) fun tk=>fin _ tk t
 ·obtain ⟨x1,r1,rfl,rx,r2⟩:=r.inv_cons
  obtain ⟨x2,r3,rfl,ry,r4⟩:=r2.inv_cons;cases r4.inv_nil;have rx:=(show x1=V.non by simpa only [RelD] using rx);have ry:=(show x2=V.ty "ValueError" by simpa only [RelD] using ry);subst rx;subst ry;obtain ⟨u,v,rfl,ru,rw'⟩:=Vals.two rv;cases ru;cases rw';exact W.kia_one W.kitx_none I.kIn True.intro vg4 (fun z=>nomatch z) fun tk=>fin _ tk t
 ·rename_i a C2
  obtain ⟨x1,r1,rfl,rx,r2⟩:=r.inv_cons;obtain ⟨x2,r3,rfl,ry,r4⟩:=r2.inv_cons;cases r4.inv_nil;cases rx.ref_inv;cases ry.ref_inv;obtain ⟨u,v,rfl,ru,rw'⟩:=Vals.two rv;cases ru;cases rw';split at t
  ·rename_i C fs e
   obtain ⟨t1,t2,⟨bm,e1⟩,t⟩:=t;obtain ⟨dx,p⟩:=exc e;exact W.kia_one (uo7 t1 t2) I.kIn p (vm9 t1 e1) (fun z=>nomatch z) fun tk=>fin _ tk t
  ·exact t.elim
 ·rename_i a
  obtain ⟨x1,r1,rfl,rx,r2⟩:=r.inv_cons;obtain ⟨x2,r3,rfl,ry,r4⟩:=r2.inv_cons;cases r4.inv_nil;cases rx.ref_inv;rw [RelD] at ry;subst ry;obtain ⟨u,v,rfl,ru,rw'⟩:=Vals.two rv;cases ru;cases rw';split at t
  ·rename_i C fs e
   obtain ⟨t1,t2,t⟩:=t;obtain ⟨dx,p⟩:=exc e;exact W.kia_one (uo7 t1 t2) I.kIn p (vx8 t1) (fun z=>nomatch z) fun tk=>fin _ tk t
  ·exact t.elim
 ·rename_i a cs
  obtain ⟨x1,r1,rfl,rx,r2⟩:=r.inv_cons;obtain ⟨x2,r3,rfl,ry,r4⟩:=r2.inv_cons;cases r4.inv_nil;cases rx.ref_inv;obtain ⟨u,v,rfl,ru,rw'⟩:=Vals.two rv;cases ru;rw [RelD] at ry;obtain ⟨ta,ys,rfl,sq,ry⟩:=ry;cases rw';split at t
  ·rename_i C fs l e z
   obtain ⟨t1,t2,t3,t⟩:=t;obtain ⟨dx,p⟩:=exc e;obtain ⟨its,rvs,tp,_⟩:=I.tuple sq;obtain ⟨o,e1,e2,n,e3⟩:=tp;have ee:=ur4 z ry rvs;subst ee;obtain ⟨oc,od,oda,osl⟩:=o;dsimp only at e2 e3;subst e2;subst e3;exact W.kia_tup (uo7 t1 t2) I.kIn p e1 (v44 t1 t3) (fun z=>nomatch z) fun tk=>fin _ tk t
  ·exact t.elim
 ·exact t.elim
end
structure XL (K:W.Frag) (mg:Str->Option Value) (nm:Str) where
 C:Addr
 m:mg nm=some (.ref C)
 xc:xcIn K C VM=true
 b:XBase K C
structure XE (K:W.Frag) (mg:Str->Option Value) (L:Addr) (nm:Str) where
 C:Addr
 m:mg nm=some (.ref C)
 xc:xcIn K C (.ref L::VM)=true
 x:XcX K C
 ne:C ≠ L
def noX:XD:=fun _ _ _=>False
section
variable {X:Cx} {e:Expr} {es:List Expr} {p pos:Pos} {ts:TA3} {k:Nat} {S:Spx3} {x qual:Str} {st:Stmt} {ps:List Str} {C:Addr}
theorem ul6 (hm:X.mg x=some (.ref C)) (hg:Gl X x:=by rfl) (hd:(x == ("__debug__" : Str))=false:=by decide):E3 X (.Name x pos) (dC (.ref C)):=v74 hg hm (v:=.ref C) rfl (fun _=>RelD.refI) hd
theorem vv3:Passes (CX1 X.prog X.w) X (lowX X.K noX):=by
 rintro pins σ H s e s' I ⟨a,C,dx,H',_,_,_,_,_,_,C',fs,ys,G,_,_,_,_,z⟩;exact z.elim
theorem ecN (d:FnAt X.K x qual st ps) (hm:X.mg x=some (.ref d.a)) (G:FnOk X.prog X.w X.K X.mg X.base (CX1 X.prog X.w) k d.a d.fd ps (ug1 X.K S)) (hr:Room k X.A) (ha:A3 X (e::es) ts) (hg:Gl X x:=by rfl) (hdb:(x == ("__debug__" : Str))=false:=by decide)
  (he:starEach (e::es) X.env=(false,eval e X.env)::starEach es X.env:=by rfl) (hpl:(backTo pos (starEach es X.env)).any (·.1)=false:=by rfl):E3 X (.Call (.Name x p) (e::es) [] pos) (ut7 S noX ts) :=
 u34 (v16 G hr hg hm d.kp d.b .nil vv3 ha hdb he hpl) fun _ _ _=>v39
end
theorem vg6 {C L:Addr}:isX C L C=true:=by unfold isX;simp
theorem vg7 {C L:Addr}:isX C L L=true:=by unfold isX;simp
theorem u87 {C L C2:Addr} (h:C2 ≠ C) (h2:C2 ≠ L):isX C L C2=false:=by unfold isX;simp [h,h2]
theorem vy3:(∀ K L C2 G q,xIsX K L [.non,.ref C2] G q=((∃ bm,xcIn K C2 bm=true) /\ q (.bl false) G)) /\ (∀ K L G q,xIsX K L [.non,.ty "ValueError"] G q=q (.bl false) G) /\
  (∀ K L a C2 G q,xIsX K L [.ref a,.ref C2] G q=(match G a with | some (.exc C _)=>xcIn K C (.ref L::VM)=true /\ XcX K C /\ (∃ bm,xcIn K C2 bm=true) /\ q (.bl (isX C L C2)) G | _=>False)) /\
  (∀ K L a G q,xIsX K L [.ref a,.ty "ValueError"] G q=(match G a with | some (.exc C _)=>xcIn K C (.ref L::VM)=true /\ XcX K C /\ q (.bl true) G | _=>False)) /\
  (∀ K L a cs G q,xIsX K L [.ref a,.tup cs] G q=(match G a,uh3 cs with | some (.exc C _),some l=>xcIn K C (.ref L::VM)=true /\ XcX K C /\ (∀ c ∈ l,∃ bm,xcIn K c bm=true) /\ q (.bl (l.any (isX C L))) G | _,_=>False)) :=
 ⟨fun _ _ _ _ _=>rfl,fun _ _ _ _=>rfl,fun _ _ _ _ _ _=>rfl,fun _ _ _ _ _=>rfl,fun _ _ _ _ _ _=>rfl⟩
theorem ui9 {S:Spx3} {ds:List D} {G:Gp} {r:XD} {q:DK} {post:D->Gp->Prop} (h:∀ R:DK,(∀ d G',post d G'->R d G')->S ds G R r) (k:∀ d G',post d G'->q d G'):∃ R,S ds G R r /\ ∀ d G',R d G'->q d G' :=
 ⟨post,h _ fun _ _ z=>z,k⟩
end L3
namespace Rw
open PySem PySem.Spec PyProof.Rows L2 L3
def opG (sz x:Nat):Opd->Bool
 | .num n=>decide (n < 4294967296)
 | .box y=>decide (y < sz) && decide (y ≠ x)
def felG (rs:List Row) (at0:Nat):Row->Bool
 | .go x n k=>decide (rs[k]?=some (.come x n at0))
 | .come x n k=>decide (rs[k]?=some (.go x n at0))
 | _=>true
def ownG (sz:Nat):Row->Bool
 | .add x o=>decide (x < sz) && opG sz x o
 | .take x o=>decide (x < sz) && opG sz x o
 | .turn x i cs=>decide (x < sz) && (decide (i < 32) && cs.all fun c=>decide (c.1 < sz) && decide (c.1 ≠ x) && decide (c.2 < 32))
 | .swap x y=>decide (x < sz) && (decide (y < sz) && decide (y ≠ x))
 | .go x n _=>decide (x < sz) && decide (n < 4294967296)
 | .come x n _=>decide (x < sz) && decide (n < 4294967296)
def gd (sz:Nat) (rs:List Row) (at0:Nat) (r:Row):Bool:=ownG sz r && felG rs at0 r
def bad1 (sz:Nat) (rs:List Row):Nat->List Row->Option Nat
 | _,[]=>none
 | i,r::t=>if gd sz rs i r=true then bad1 sz rs (i+1) t else some i
def bad (sz:Nat) (rs:List Row):Option Nat:=bad1 sz rs 0 rs
theorem cut2 {α:Type} (a b:α) (rest:List α):L3.cutD (a::b::rest) (some 2) none=rest:=by
 unfold L3.cutD;rw [HT.sIx_none,show (some (2:Int))=some ((2:Nat):Int) from rfl,HT.sIx_nat,Nat.min_eq_left (by simp)]
 show List.take _ rest=rest
 apply List.take_of_length_le;simp
end Rw
namespace L3
open PySem L2
theorem addT {a b:List D} {G:Gp} {q:DK}:xAdd (.tup a) (.tup b) G q=(a ≠ [] /\ a.length+b.length<=sizeLine /\ q (.tup (a++b)) G):=rfl
end L3
namespace Rw
open PySem PySem.Spec PyProof.Rows L2 L3
theorem v83 {α:Type} {xs:List α} {n:Nat}:L3.cutD xs (some (n:Int)) none=xs.drop n:=by
 unfold L3.cutD;rw [HT.sIx_none,HT.sIx_nat]
 rcases Nat.le_total n xs.length with h | h
 ·rw [Nat.min_eq_left h]
  exact List.take_of_length_le (by rw [List.length_drop];exact Nat.le_refl _)
 ·rw [Nat.min_eq_right h,List.drop_eq_nil_of_le (Nat.le_refl _),List.drop_eq_nil_of_le h,List.take_nil]
end Rw
namespace L2
open PySem PySem.Spec PyProof.Rows
def Its (x:Str):It:=⟨fun i _=>i < x.cps.size,fun i H v H'=>H'=H /\ ∃ c,x.cps[i]?=some c /\ v=.str ⟨#[c]⟩,fun i _=>x.cps.size<=i⟩
theorem uy6 {P:Program} {w:World} {K:W.Frag} {tg:Expr} (it:Addr) (x:Str) (t:Tok):Turn P w K tg (Its x) [it] it (fun i h=>h.IsStrIter it "str_ascii_iterator" x t i) where
 mem:=by simp
 obj:=fun i h st b hb=>by
  have e:b=it:=by simpa using hb
  subst e;obtain ⟨o,e,c,d⟩:=st;exact ⟨o,e,fun v z=>by rw [d] at z;cases z⟩
 keep:=fun i h h' st k=>let ⟨o,e,r⟩:=st;⟨o,k it (by simp) o e,r⟩
 item:=by
  intro X hP hw hK hc i pins s σ H E I hf st hg;subst hP hw hK;obtain ⟨f0,f1,f2,f3,f4,f5⟩:=hf it (by simp);refine (Walks.strAscii (prog:=X.prog) (w:=X.w) (I.ok.hd hc) it x t).item i s _ _ hg st fun v h' tk hv st' kk=>?_
  obtain ⟨c,u,hc',rfl⟩:=hv;have I1:Inv X pins σ H { s with heap:=h',toks:=tk }:=I.turned (fun b o hb e=>kk b o (by simpa using hb) e) f0 f1 f3 f4 f5
  obtain ⟨o,e,cc,d⟩:=id st';exact ⟨_,rfl,uw7 (s:={ s with heap:=h',toks:=tk }) e cc d (by decide) ⟨.str ⟨#[c]⟩,H,I1,⟨u,rfl⟩,⟨rfl,c,hc',rfl⟩,st',fun b hb=>(hf b hb).1⟩⟩
 done:=by
  intro X hP hw hK hc i pins s σ H E I hf st hg;subst hP hw hK;obtain ⟨f0,f1,f2,f3,f4,f5⟩:=hf it (by simp);have hg:x.cps.size<=i:=hg;exact wpAny_pyNext_ascii_end (I.ok.hd hc) st (by simpa using hg) fun h' eb=>⟨rfl,I.turned (t':=s.toks) (fun b o hb e=>eb b o hb e) f0 f1 f3 f4 f5⟩
 self:=fun _ _ _ _ _ st h=>wpAny_pyIter_striter_ascii st h
theorem uy5 {P:Program} {w:World} {K:W.Frag} {tg:Expr} (it:Addr) (x:Str) (t:Tok):Turn P w K tg (Its x) [it] it (fun i h=>h.IsStrIter it "str_iterator" x t i) where
 mem:=by simp
 obj:=fun i h st b hb=>by
  have e:b=it:=by simpa using hb
  subst e;obtain ⟨o,e,c,d⟩:=st;exact ⟨o,e,fun v z=>by rw [d] at z;cases z⟩
 keep:=fun i h h' st k=>let ⟨o,e,r⟩:=st;⟨o,k it (by simp) o e,r⟩
 item:=by
  intro X hP hw hK hc i pins s σ H E I hf st hg;subst hP hw hK;obtain ⟨f0,f1,f2,f3,f4,f5⟩:=hf it (by simp);refine (Walks.strWide (prog:=X.prog) (w:=X.w) (I.ok.hd hc) it x t).item i s _ _ hg st fun v h' tk hv st' kk=>?_
  obtain ⟨c,u,hc',rfl⟩:=hv;have I1:Inv X pins σ H { s with heap:=h',toks:=tk }:=I.turned (fun b o hb e=>kk b o (by simpa using hb) e) f0 f1 f3 f4 f5
  obtain ⟨o,e,cc,d⟩:=id st';exact ⟨_,rfl,uw7 (s:={ s with heap:=h',toks:=tk }) e cc d (by decide) ⟨.str ⟨#[c]⟩,H,I1,⟨u,rfl⟩,⟨rfl,c,hc',rfl⟩,st',fun b hb=>(hf b hb).1⟩⟩
 done:=by
  intro X hP hw hK hc i pins s σ H E I hf st hg;subst hP hw hK;obtain ⟨f0,f1,f2,f3,f4,f5⟩:=hf it (by simp);have hg:x.cps.size<=i:=hg;exact wpAny_pyNext_wide_end (I.ok.hd hc) st (by simpa using hg) fun h' eb=>⟨rfl,I.turned (t':=s.toks) (fun b o hb e=>eb b o hb e) f0 f1 f3 f4 f5⟩
 self:=fun _ _ _ _ _ st h=>wpAny_pyIter_striter_wide st h
section
variable {X:Cx} {tg:Expr}
def iStr (tl:TE):TI:=fun σ H R=>tl σ H fun v H1=>∃ x,v=.str x /\ R (Its x) H1
theorem w68 {l:Expr} {tl:TE} (hl:PE X l tl):PI X tg l (iStr tl):=by
 intro pins s σ H R I h
 (refine thn (hl pins s σ H _ I h) ?_;rintro v s1 ⟨y,H1,I1,r1,q1⟩)
 obtain ⟨x,rfl,q⟩:=q1;obtain ⟨t,rfl⟩:=r1;have fp:∀ b ∈ [s1.heap.objs.size],FpOk X pins H1 b:=fun b hb=>by
  have e:b=s1.heap.objs.size:=by simpa using hb
  subst e;exact I1.fpOk (Nat.le_refl _) (I1.hok.fresh (Nat.le_refl _))
 cases ha:x.cps.all (· < 128)
 ·exact wpAny_pyIter_wide ha ⟨s1.heap.objs.size,[s1.heap.objs.size],_,_,H1,rfl,I1.kept (t':=s1.toks) fun b o e=>Heap.get?_push_of_some _ e,uy5 _ x t,⟨_,Heap.get?_push_size _ rfl,rfl,rfl⟩,fp,q⟩
 ·exact wpAny_pyIter_ascii ha ⟨s1.heap.objs.size,[s1.heap.objs.size],_,_,H1,rfl,I1.kept (t':=s1.toks) fun b o e=>Heap.get?_push_of_some _ e,uy6 _ x t,⟨_,Heap.get?_push_size _ rfl,rfl,rfl⟩,fp,q⟩
theorem v20:OpR X (compareOp .LtE) (fun x y H Q=>∃ i j,x=.str i /\ y=.str j /\ Q (.bl (!decide (j.cps.toList < i.cps.toList))) H):=by
 intro pins s σ H x y v u Q I rx ry h;obtain ⟨i,j,rfl,rfl,q⟩:=h;obtain ⟨t,rfl⟩:=rx;obtain ⟨t',rfl⟩:=ry;exact PySem.P.le_str (u22 I q rfl)
def partsOf (s t:Str):List Str:=Builtin.Str.partsBetween s (Builtin.Str.occurrences s t 0 s.length (s.length+1)) t.length
theorem u91:∀ (ws:List Str) (n:Nat),Vals (ws.map V.str) (strsFrom n ws)
 | [],_=>.nil
 | w::ws,n=>.cons ⟨n,rfl⟩ (u91 ws (n+1))
end
end L2
namespace L3
open PySem PySem.Spec PyProof.Rows L2
section
variable {X:Cx} {K:W.Frag} {H:Hp} {o e tg:Expr} {es:List Expr} {te to:TE3} {ts:TA3} {apos cpos pos:Pos} {x:Str}
@[reducible] def sgns (x:Str):List D:=x.cps.toList.map fun c=>.str ⟨#[c]⟩
theorem v51 {H0:Hp} {x:Str}:ItRel K H0 ⟨sgns x,fun _=>True⟩ (Its x) where
 go:=fun i G H l c _ hi=>by
  have hi:i < (sgns x).length:=hi
  show i < x.cps.size
  simpa [sgns] using hi
 stop:=fun i G H l c _ hi=>by
  have hi:(sgns x).length<=i:=hi
  show x.cps.size<=i
  simpa [sgns] using hi
 yld:=fun i G H v H' l c _ hi y=>by
  obtain ⟨rfl,n,hn,rfl⟩:=y;refine ⟨c,Le.refl _,.str ⟨#[n]⟩,?_,by rw [RelD]⟩
  show (sgns x)[i]?=_
  unfold sgns;rw [List.getElem?_map,Array.getElem?_toList,hn];rfl
def wStr (te:TE3):TI3:=fun σ G r=>te σ G fun d G1=>∃ x,d=.str x /\ r ⟨sgns x,fun _=>True⟩ G1
theorem we4 (h:E3 X e te):I3 X tg e (wStr te):=un2 (w68 h) fun σ H R hh=>by
 obtain ⟨σd,G,q,rs,c,t,f⟩:=hh;refine ⟨σd,G,_,rs,c,t,fun d G1 v H1 r1 c1 l1 t1=>?_⟩;obtain ⟨y,rfl,t2⟩:=t1;exact ⟨y,r1.str_inv,f _ _ _ _ v51 c1 l1 t2⟩
@[reducible] def xLeS:R3:=fun x y G q=>∃ i j:Str,x=.str i /\ y=.str j /\ q (.bl (!decide (j.cps.toList < i.cps.toList))) G
theorem w28:Op3 X (compareOp .LtE) xLeS:=u47 v20 fun x y H Q ⟨d,e,G,q,r1,r2,c,⟨i,j,e1,e2,t⟩,f⟩=>by
 subst e1 e2;exact ⟨i,j,r1.str_inv,r2.str_inv,f _ _ _ _ RelD.blI c (Le.refl H) t⟩
@[reducible] def xInS:R3:=fun x y G q=>∃ (c:Nat) (j:Str),x=.str ⟨#[c]⟩ /\ y=.str j /\ q (.bl (decide (c ∈ j.cps.toList))) G
theorem wh4:Op3 X (compareOp .In) xInS:=u47 v22 fun x y H Q ⟨d,e,G,q,r1,r2,c,⟨i,j,e1,e2,t⟩,f⟩=>by
 subst e1 e2;exact ⟨_,j,r1.str_inv,r2.str_inv,by rw [StrLaws.found_one];exact f _ _ _ _ RelD.blI c (Le.refl H) t⟩
theorem relS:∀ (ws:List Str),RelDs K H (ws.map .str) (ws.map V.str)
 | []=>.nil
 | w::ws=>.cons (by rw [RelD]) (relS ws)
theorem vh7 {s:Str} (h:∃ t,X.mg x=some (.str s t)) (hg:Gl X x:=by rfl) (hdb:(x == ("__debug__" : Str))=false:=by decide):E3 X (.Name x pos) (dC (.str s)):=by
 obtain ⟨t,h⟩:=h;exact v74 hg h (v:=.str s) ⟨t,rfl⟩ (fun _=>by rw [RelD]) hdb
end
end L3
namespace L2
open PySem PySem.Spec PyProof.Rows
section
variable {X:Cx}
theorem v88:CallR X (.type "int") (fun xs H Q=>∃ (x:Str) (n:Int),xs=[.str x] /\ intText? x=some n /\ x.length<=640 /\ Q (.int n) H):=by
 intro pins s σ H xs us Q I r h;obtain ⟨x,n,rfl,hn,hl,q⟩:=h;obtain ⟨u,rfl,rx⟩:=vals1 r;obtain ⟨t,rfl⟩:=rx;exact W.KIN.call_text hn hl ⟨.int n,H,I.tok _,⟨_,rfl⟩,q⟩
theorem v87:CallR X (.type "str") (fun xs H Q=>∃ i:Int,xs=[.int i] /\ i.natAbs.log2 < 1920 /\ Q (.str (Str.ofString (toString i))) H):=by
 intro pins s σ H xs us Q I r h;obtain ⟨i,rfl,hl,q⟩:=h;obtain ⟨u,rfl,rx⟩:=vals1 r;obtain ⟨t,rfl⟩:=rx;exact PySem.P.str_of_int hl ⟨.str _,H,I.tok _,⟨_,rfl⟩,q⟩
theorem vq8:SlR X (fun x lo hi H Q=>∃ y:Str,x=.str y /\ y.length<=sizeLine /\ Q (.str (Txt.slice y lo hi)) H):=by
 intro pins s σ H x v vl vu lo hi sl Q I rx hs pl pu h;obtain ⟨y,rfl,hy,q⟩:=h;obtain ⟨t,rfl⟩:=rx;refine ⟨"str",_,PySem.F.slot_str_getitem.lookup,typeIs_str _ _ _,?_⟩;obtain ⟨l,rfl,el⟩:∃ l:Option (Int × Tok),vl=partValue l /\ l.map (·.1)=lo:=by cases pl with
  | none=>exact ⟨none,rfl,rfl⟩
  | int i t=>exact ⟨some (i,t),rfl,rfl⟩
 obtain ⟨u,rfl,eu⟩:∃ l:Option (Int × Tok),vu=partValue l /\ l.map (·.1)=hi:=by cases pu with
  | none=>exact ⟨none,rfl,rfl⟩
  | int i t=>exact ⟨some (i,t),rfl,rfl⟩
 subst el;subst eu;refine wpAny_getItem_str_slice (l:=l) (u:=u) (st:=none) hs rfl ?_;refine post_val_or_str ⟨Nat.le_trans (Txt.slice_le y _ _) hy,fun t' k=>?_⟩;exact ⟨.str _,H,I.tok k,⟨t',rfl⟩,q⟩
theorem v27:MtR X "str.split" (fun x vs H Q=>∃ s t:Str,x=.str s /\ vs=[.str t] /\ (t.length == 0)=false /\ s.length<=sizeLine /\ (Txt.split s t).length<=sizeLine /\ ∀ p,H p=none->Q (.ref p) (upd H p (.lst ((Txt.split s t).map V.str)))):=by
 intro pins s σ H x vs v us Q I rx rv h;obtain ⟨y,z,rfl,rfl,h2,h4,h5,q⟩:=h;obtain ⟨t,rfl⟩:=rx;obtain ⟨u,rfl,ru⟩:=rv.one;obtain ⟨t',rfl⟩:=ru;have one:Txt.split y z=[y]->EP X pins σ Q (.ref s.heap.objs.size) { s with heap:=s.heap.push { cls:=.type "list",data:=.seq [Value.str y t].toArray } }:=fun e=>by
  rw [e] at q;refine ⟨.ref s.heap.objs.size,_,I.laid (a:=s.heap.objs.size) (o:=.lst [V.str y]) (t':=s.toks) (fun b ob q=>Heap.get?_push_of_some _ q) (Nat.le_refl _) ?_,rfl,q _ (I.hok.fresh (Nat.le_refl _))⟩;exact ⟨by show 1<=sizeLine;decide,_,0,.cons ⟨t,rfl⟩ .nil,Heap.get?_push_size _ rfl⟩
 cases h1:(decide (y.length < z.length) || decide (Builtin.Str.strKind y < Builtin.Str.strKind z)) with
 | true=>exact call_meets PySem.F.slot_str_split (typeIs_str _ _ _) PySem.F.entry_str_split (PySem.F.args_str_split_2 _ _) (meets_str_split_cannot_occur y z t t' h1) (one (if_pos h1))
 | false =>
  cases h3:(Builtin.Str.occurrences y z 0 y.length (y.length+1)).isEmpty with
  | true=>exact call_meets PySem.F.slot_str_split (typeIs_str _ _ _) PySem.F.entry_str_split (PySem.F.args_str_split_2 _ _) (meets_str_split_not_found y z t t' h1 h2 h3) (one ((if_neg (ne_true_of_eq_false h1)).trans (if_pos h3)))
  | false =>
   have e:Txt.split y z=partsOf y z:=(if_neg (ne_true_of_eq_false h1)).trans (if_neg (ne_true_of_eq_false h3));rw [e] at h5 q;refine call_meets PySem.F.slot_str_split (typeIs_str _ _ _) PySem.F.entry_str_split (PySem.F.args_str_split_2 _ _) (meets_str_split_sep y z t t' h1 h2 h3 h4 h5) ?_;refine ⟨.ref s.heap.objs.size,_,I.laid (a:=s.heap.objs.size) (o:=.lst ((partsOf y z).map V.str)) (fun b ob q=>Heap.get?_push_of_some _ q) (Nat.le_refl _) ?_,rfl,q _ (I.hok.fresh (Nat.le_refl _))⟩;exact ⟨by rw [List.length_map];exact h5,_,0,u91 _ _,Heap.get?_push_size _ rfl⟩
end
end L2
namespace L3
open PySem PySem.Spec PyProof.Rows L2
section
variable {X:Cx} {K:W.Frag} {H:Hp} {o e tg:Expr} {es:List Expr} {te to:TE3} {ts:TA3} {apos cpos pos:Pos} {x:Str}
@[reducible] def vp3:C3:=fun ds G q=>∃ (x:Str) (n:Int),ds=[.str x] /\ intText? x=some n /\ x.length<=640 /\ q (.int n) G
theorem uq1:Call3 X (.type "int") vp3:=u46 v88 <| by
 rintro xs H Q ⟨ds,G,q,r,c,⟨x,n,rfl,h1,h2,t⟩,f⟩;obtain ⟨v,rfl,r1⟩:=r.one;cases r1.str_inv;exact ⟨x,n,rfl,h1,h2,f _ _ _ _ RelD.intI c (Le.refl H) t⟩
@[reducible] def uq2:C3:=fun ds G q=>∃ i:Int,ds=[.int i] /\ i.natAbs.log2 < 1920 /\ q (.str (Str.ofString (toString i))) G
theorem u33:Call3 X (.type "str") uq2:=u46 v87 <| by
 rintro xs H Q ⟨ds,G,q,r,c,⟨i,rfl,h1,t⟩,f⟩;obtain ⟨v,rfl,r1⟩:=r.one;cases r1.int_inv;exact ⟨i,rfl,h1,f _ _ _ _ (by rw [RelD]) c (Le.refl H) t⟩
@[reducible] def xSlX:RS3:=fun x lo hi G q=>∃ y:Str,x=.str y /\ y.length<=sizeLine /\ q (.str (Txt.slice y lo hi)) G
theorem uu6:SlR X (v41 X.K xSlX):=uy3 vq8 <| by
 rintro x lo hi H Q ⟨d,G,q,r1,c,⟨y,rfl,hy,t⟩,f⟩;exact ⟨y,r1.str_inv,hy,f _ _ _ _ (by rw [RelD]) c (Le.refl H) t⟩
@[reducible] def v31:M3:=fun x ds G q=>∃ s t:Str,x=.str s /\ ds=[.str t] /\ (t.length == 0)=false /\ s.length<=sizeLine /\ (Txt.split s t).length<=sizeLine /\ ∀ p,G p=none->q (.ref p) (gup G p (.lst ((Txt.split s t).map .str)))
theorem u67 (ho:E3 X o to) (ha:A3 X (e::es) ts) (hbase:attributeBase o "split" X.env (eval o X.env)=eval o X.env:=by rfl)
  (hfew:((backTo cpos (starEach (e::es) X.env)).all (fun x=>!x.1) && (backToKw cpos (keywordEach [] X.env)).all (fun x=>x.1.isSome)
   && decide ((e::es).length+([]:List Keyword).length+(if ([]:List Keyword).isEmpty then 0 else 1) < 30))=true:=by rfl)
  (hline:(apos.endLine == cpos.line)=true:=by rfl) (hs:starEach (e::es) X.env=(false,eval e X.env)::starEach es X.env:=by rfl) (hplain:(backTo cpos (starEach es X.env)).any (·.1)=false:=by rfl) :
  E3 X (.Call (.Attribute o "split" apos) (e::es) [] cpos) (dBM "str" v31 to ts) :=
 u34 (v17 PySem.F.plainAttrs_str PySem.F.slot_str_split PySem.F.type_str_split (uf3 (r':=lowM X.K v31) v27 <| by
  rintro x xs H Q ⟨d,ds,G,q,r1,r2,c,⟨s,t,rfl,rfl,h1,h2,h3,tt⟩,f⟩;obtain ⟨u,rfl,ru⟩:=r2.one;cases ru.str_inv;exact ⟨s,t,r1.str_inv,rfl,h1,h2,h3,fun p hp=>f _ _ _ _ RelD.refI (c.lstNew hp (relS _)) (Le.fresh hp) (tt p (c.fresh hp))⟩) ho ha hbase hfew hline hs hplain) fun _ _ _=>ul2 (ty_str _)
end
theorem str_len (x:Str):x.length=x.cps.toList.length:=by simp [Str.length]
theorem u88 (a b:Str):(a++b).cps.toList=a.cps.toList++b.cps.toList:=by
 show (a.cps++b.cps).toList=_
 rw [Array.toList_append]
theorem u43 {a b:Str} (h:a.cps.toList=b.cps.toList):a=b:=Str.ext' (Array.toList_inj.mp h)
theorem u80 (c:Nat):∀ (w:Str) (v:Str) (r:List Str),(Str.join ⟨#[c]⟩ (w::v::r)).cps.toList=w.cps.toList++c::(Str.join ⟨#[c]⟩ (v::r)).cps.toList:=fun w v r=>by
 show ((w++(⟨#[c]⟩:Str))++Str.join ⟨#[c]⟩ (v::r)).cps.toList=_
 rw [u88,u88,List.append_assoc];rfl
theorem ut9 {c:Nat}:∀ {a a' r r':List Nat},c ∉ a->c ∉ a'->a++c::r=a'++c::r'->a=a' /\ r=r'
 | [],[],r,r',_,_,e=>by cases e;exact ⟨rfl,rfl⟩
 | [],x::a',r,r',_,h,e=>by
  have e:c::r=x::(a'++c::r'):=e;cases e;exact absurd List.mem_cons_self h
 | x::a,[],r,r',h,_,e=>by
  have e:x::(a++c::r)=c::r':=e;cases e;exact absurd List.mem_cons_self h
 | x::a,y::a',r,r',h,h',e=>by
  have e:x::(a++c::r)=y::(a'++c::r'):=e;injection e with e1 e2
  obtain ⟨z1,z2⟩:=ut9 (fun z=>h (List.mem_cons_of_mem _ z)) (fun z=>h' (List.mem_cons_of_mem _ z)) e2;exact ⟨by rw [e1,z1],z2⟩
theorem ud2 {c:Nat}:∀ {ws vs:List Str},ws ≠ []->vs ≠ []->(∀ w ∈ ws,c ∉ w.cps.toList)->(∀ w ∈ vs,c ∉ w.cps.toList)->Str.join ⟨#[c]⟩ ws=Str.join ⟨#[c]⟩ vs->ws=vs
 | [],_,h,_,_,_,_=>absurd rfl h
 | _,[],_,h,_,_,_=>absurd rfl h
 | [w],[v],_,_,_,_,e=>by
  have e:w=v:=e;rw [e]
 | [w],v::v'::r,_,_,h,_,e=>by
  have e1:=congrArg (fun x:Str=>x.cps.toList) e;rw [u80] at e1;have e1:w.cps.toList=v.cps.toList++c::(Str.join ⟨#[c]⟩ (v'::r)).cps.toList:=e1;exact absurd (by rw [e1];simp) (h w List.mem_cons_self)
 | w::w'::r,[v],_,_,_,h,e=>by
  have e1:=congrArg (fun x:Str=>x.cps.toList) e;rw [u80] at e1;have e1:w.cps.toList++c::(Str.join ⟨#[c]⟩ (w'::r)).cps.toList=v.cps.toList:=e1;exact absurd (by rw [<- e1];simp) (h v List.mem_cons_self)
 | w::w'::r,v::v'::r',_,_,h,h',e=>by
  have e1:=congrArg (fun x:Str=>x.cps.toList) e;rw [u80,u80] at e1;obtain ⟨z1,z2⟩:=ut9 (h w List.mem_cons_self) (h' v List.mem_cons_self) e1;rw [u43 z1,ud2 (ws:=w'::r) (vs:=v'::r') (by simp) (by simp) (fun x hx=>h x (List.mem_cons_of_mem _ hx)) (fun x hx=>h' x (List.mem_cons_of_mem _ hx)) (u43 z2)]
theorem u77 (x y:Str):Txt.split x y ≠ []:=by
 unfold Txt.split;split
 ·simp
 ·split
  ·simp
  ·intro e
   have:=congrArg List.length e;rw [length_partsBetween] at this;simp at this
theorem blank:(" " : Str)=⟨#[32]⟩:=by decide
theorem vb5 {ws:List Str} (h0:ws ≠ []) (h:∀ w ∈ ws,32 ∉ w.cps.toList):Txt.split (jn " " ws) " " = ws:=by
 have e:jn " " ws=Str.join " " ws:=StrLaws.glued_eq_join _ _;refine ud2 (c:=32) (u77 _ _) h0 ?_ h ?_
 ·rw [blank]
  exact StrLaws.split_free _ 32
 ·rw [<- blank,StrLaws.join_split,e]
end L3
namespace L3
open PySem PySem.Spec PyProof.Rows L2
theorem lenS {z:Str} {G:Gp} {q:DK}:xLen [.str z] G q=(z.length<=sizeLine /\ q (.int z.length) G):=rfl
theorem ixS {z:Str} {i:Int} {G:Gp} {q:DK}:xIx (.str z) (.int i) G q=(z.length<=sizeLine /\ (match atI z.cps.toList i with | some c=>q (.str ⟨#[c]⟩) G | none=>False)):=rfl
theorem addS {a b:Str} {G:Gp} {q:DK}:xAdd (.str a) (.str b) G q=(a.length+b.length<=sizeLine /\ q (.str (a++b)) G):=rfl
theorem at0 {α:Type} {c:α} {r:List α}:atI (c::r) 0=some c:=by
 unfold atI ixN;rw [if_pos (by decide),if_pos (by rw [List.length_cons];omega)];rfl
theorem one_eq {c d:Nat}:((⟨#[c]⟩:Str)=⟨#[d]⟩)=(c=d):=by
 apply propext
 constructor
 ·intro e
  have:=congrArg (fun x:Str=>x.cps.toList) e;simpa using this
 ·rintro rfl;rfl
theorem zero_mk:("0" : Str)=⟨#[48]⟩:=by decide
theorem figures {c:Nat} (h:48<=c /\ c<=57):decide (c ∈ ("0123456789" : Str).cps.toList)=true:=by
 have:c=48 \/ c=49 \/ c=50 \/ c=51 \/ c=52 \/ c=53 \/ c=54 \/ c=55 \/ c=56 \/ c=57:=by omega
 rcases this with e | e | e | e | e | e | e | e | e | e <;> subst e <;> decide
end L3
namespace L2
open PySem PySem.Spec PyProof.Rows
def Itrs (lo st:Int) (n:Nat):It:=⟨fun i _=>i < n,fun i H x H'=>H'=H /\ x=.int (lo+i * st),fun i _=>n<=i⟩
theorem un3 {P:Program} {w:World} {K:PySem.W.Frag} {tg:Expr} (it:Addr) (lo c:Int) (n:Nat):Turn P w K tg (Itrs lo c n) [it] it (fun i h=>IsRangeIter h it (lo+(i:Nat) * c) ((n:Int) - (i:Nat)) c) where
 mem:=by simp
 obj:=fun i h st b hb=>by
  have e:b=it:=by simpa using hb
  subst e;exact ⟨_,st,fun v z=>by
   have z':Data.fields _=Data.cell v:=z;cases z'⟩
 keep:=fun i h h' st k=>k it (by simp) _ st
 item:=by
  intro X hP hw hK hc i pins s σ H E I hf st hg;subst hP hw hK;obtain ⟨f0,f1,f2,f3,f4,f5⟩:=hf it (by simp);have W:=Walks.range (prog:=X.prog) (w:=X.w) (I.ok.hd hc) it lo c n;refine W.item i s _ _ hg st fun v h' tk hv st' kk=>?_
  obtain ⟨t,rfl⟩:=hv;have I1:Inv X pins σ H { s with heap:=h',toks:=tk }:=I.turned (fun b o hb e=>kk b o (by simpa using hb) e) f0 f1 f3 f4 f5
  exact ⟨_,rfl,uw7 (s:={ s with heap:=h',toks:=tk }) (n := "range_iterator") st' rfl rfl (by decide) ⟨.int (lo+i * c),H,I1,⟨t,rfl⟩,⟨rfl,rfl⟩,st',fun b hb=>(hf b hb).1⟩⟩
 done:=by
  intro X hP hw hK hc i pins s σ H E I hf st hg;subst hP hw hK;obtain ⟨f0,f1,f2,f3,f4,f5⟩:=hf it (by simp);exact wpAny_pyNext_range_end (I.ok.hd hc) st (by have:n<=i:=hg;omega) fun h' eb=>⟨rfl,I.turned (t':=s.toks) (fun b o hb e=>eb b o hb e) f0 f1 f3 f4 f5⟩
 self:=fun _ _ _ _ _ st h=>wpAny_pyIter_rangeiter st h
section
variable {X:Cx} {tg:Expr}
theorem rsize {lo hi c:Int} (hc:0 < c):Builtin.Range.rangeSize lo hi c=(((if lo < hi then (hi - lo - 1) / c+1 else 0:Int).toNat:Nat):Int):=by
 unfold Builtin.Range.rangeSize;rw [if_pos hc];split
 ·rw [Int.toNat_of_nonneg]
  have:=Int.ediv_nonneg (show 0<=hi - lo - 1 by omega) (Int.le_of_lt hc);omega
 ·rfl
theorem uv6 {a b c:Int} (hc:0 < c) (hc2:c < 2 ^ 40) (ha:-(2 ^ 40)<=a) (ha':a < 2 ^ 40) (hb:-(2 ^ 40)<=b) (hb':b < 2 ^ 40):Builtin.Range.small a b c=true:=by
 have h:=rsize (lo:=a) (hi:=b) hc;have hs:Builtin.Range.rangeSize a b c<=2 ^ 42:=by
  unfold Builtin.Range.rangeSize;rw [if_pos hc];split
  ·have:(b - a - 1) / c<=b - a - 1:=Int.ediv_le_self _ (by omega)
   omega
  ·decide
 have fits:∀ x:Int,-(2 ^ 42)<=x->x<=2 ^ 42->Builtin.Range.rangeFitsLong x=true:=by
  intro x h1 h2;unfold Builtin.Range.rangeFitsLong;simp;omega
 unfold Builtin.Range.small;rw [fits a (by omega) (by omega),fits b (by omega) (by omega),fits c (by omega) (by omega),fits _ (by omega) hs,if_pos hc,fits (b+(c - 1)) (by omega) (by omega)];simp
theorem v05 {pins:List (Addr × Obj)} {σ:St} {H:Hp} {s:Shared} {R:It->Hp->Prop} {E:Value->Shared->Prop} {lo hi c:Int} {t u v:Tok} {tk:Nat} (I:Inv X pins σ H s) (hc:0 < c) (hc2:c < 2 ^ 40) (h1:-(2 ^ 40)<=lo) (h2:lo < 2 ^ 40) (h3:-(2 ^ 40)<=hi) (h4:hi < 2 ^ 40)
  (q:R (Itrs lo c (if lo < hi then (hi - lo - 1) / c+1 else 0:Int).toNat) H):wpAny (model X.prog X.w) X.A (pyIter (.ref s.heap.objs.size)) (PIE X pins σ tg R) E { s with heap:=s.heap.push { cls:=.type "range",data:=.fields #[.int lo t,.int hi u,.int c v] },toks:=tk }:=by
 refine wpAny_pyIter_range (IsRange.new ..) (uv6 hc hc2 h1 h2 h3 h4) ?_;have I1:Inv X pins σ H { s with heap:=s.heap.push { cls:=.type "range",data:=.fields #[.int lo t,.int hi u,.int c v] },toks:=tk }:=I.kept fun b o e=>Heap.get?_push_of_some _ e
 refine ⟨(s.heap.push { cls:=.type "range",data:=.fields #[.int lo t,.int hi u,.int c v] }).objs.size,[(s.heap.push { cls:=.type "range",data:=.fields #[.int lo t,.int hi u,.int c v] }).objs.size],_,_,H,rfl,
  I1.kept (t':=tk) fun b o e=>Heap.get?_push_of_some _ e,un3 _ lo c _,?_,fun b hb=>?_,q⟩
 ·have e1:lo+((0:Nat):Int) * c=lo:=by simp
  have e2:=rsize (lo:=lo) (hi:=hi) hc
  show IsRangeIter _ _ (lo+((0:Nat):Int) * c) ((((if lo < hi then (hi - lo - 1) / c+1 else 0:Int).toNat:Nat):Int) - ((0:Nat):Int)) c
  rw [e1,<- e2,show (Builtin.Range.rangeSize lo hi c - ((0:Nat):Int))=Builtin.Range.rangeSize lo hi c by simp];exact Heap.get?_push_size _ rfl
 ·have e:b=(s.heap.push { cls:=.type "range",data:=.fields #[.int lo t,.int hi u,.int c v] }).objs.size:=by simpa using hb
  subst e;exact I1.fpOk (Nat.le_refl _) (I1.hok.fresh (Nat.le_refl _))
def we7 (ta:TA):TI:=fun σ H R=>ta σ H fun vs H1=>∃ i j c:Int,vs=[.int i,.int j,.int c] /\ (0 < c /\ c < 2 ^ 40 /\ -(2 ^ 40)<=i /\ i < 2 ^ 40 /\ -(2 ^ 40)<=j /\ j < 2 ^ 40) /\ R (Itrs i c (if i < j then (j - i - 1) / c+1 else 0:Int).toNat) H1
theorem v12 {a b d:Expr} {ta:TA} {p pos:Pos} (hg:Gl X "range") (hm:X.mg "range" = none) (ha:PA X [a,b,d] ta) (hs:starEach [a,b,d] X.env=(false,eval a X.env)::starEach [b,d] X.env:=by rfl) (hs2:(backTo pos (starEach [b,d] X.env)).any (·.1)=false:=by rfl) :
  PI X tg (.Call (.Name "range" p) [a,b,d] [] pos) (we7 ta):=by
 intro pins s σ H R I h;refine Call_ (ub0 I hg hm boot_range (PyProof.Rows.callWith_type1 (thn (ha pos pins s σ H _ I h) fun us s1 ⟨vs,H1,I1,r1,q1⟩=>?_) hs hs2));obtain ⟨i,j,c,e,⟨c0,c1,q1,q2,q3,q4⟩,q⟩:=q1;subst e;cases r1 with
 | cons r rr =>
  cases rr with
  | cons r' rr =>
   cases rr with
   | cons r'' rr =>
    cases rr;obtain ⟨t,rfl⟩:=r;obtain ⟨t',rfl⟩:=r';obtain ⟨t'',rfl⟩:=r'';exact call_range_3 (by omega) (v05 I1 c0 c1 q1 q2 q3 q4 q) (.inl (PyProof.noPylong_of_log2 (Nat.lt_trans ((Nat.log2_lt (by omega)).mpr (show c.natAbs < 2 ^ 50 by omega)) (by decide))))
end
section
variable {prog:Program} {w:World} {A:Around} {E:Value->Shared->Prop} {s:Shared}
theorem ue7 (a b:Value):checkTypeCall "enumerate" ⟨[a],[("start",b)]⟩=pure ():=by kernel_rfl
theorem uh7 (a b:Value):checkBuiltinCall "enumerate.__new__" ⟨[.type "enumerate",a],[("start",b)]⟩=pure ():=by kernel_rfl
theorem ux4 (a b c:Value):argsOk "object.__init__" ⟨[a,b],[("start",c)]⟩:=by
 unfold argsOk;rw [signature?_of (id := "object.__init__") (n:=['_','_','t','i','n','i','_','_']) (o:=['t','c','e','j','b','o']) (by kernel_rfl) PySem.F.owner_object];kernel_rfl
theorem ue2 {T newId initId:String} {Bn Bi:Builtin} {args:List Value} {kw:List (Str × Value)} {S:PySem.Spec} {Q Q₁:Value->Shared->Prop} (ft:TypeCalled T newId initId)
  (hct:checkTypeCall T ⟨args,kw⟩=pure ()) (hcn:checkBuiltinCall newId ⟨.type T::args,kw⟩=pure ())
  (entryN:entryFor table newId=some Bn) (entryI:entryFor table initId=some Bi) (g:Meets (Bn ⟨.type T::args,kw⟩) S)
  (h:S A.in1 (wants Q₁ E) s)
  (hnext:∀ obj s₁,Q₁ obj s₁->s₁.TypeIs obj T /\ argsOk initId ⟨obj::args,kw⟩ /\ ∃ Si,Meets (Bi ⟨obj::args,kw⟩) Si /\ Si A.in1 (wants (fun r s₂=>r=.none /\ Q obj s₂) E) s₁) :
  wpAny (model prog w) A (call (.type T) args kw) Q E s:=by
 obtain ⟨c,tl,hmro⟩:=ft.mro;have hmade:=ft.made;have hsub:=ft.sub;refine wpAny_call (codeAny_of_tree ?_)
 show wpAny _ _ (callAny (.type T) _) _ _ _
 refine wpAny_pure ⟨Code.quiet_builtin _ (by decide),codeAny_builtin PySem.F.entry_type_call ?_⟩;rw [Around.under_plain (weight_type_call_type T args kw) (units_type_call_type T args kw)];have h1:=ft.notType;have h2:=ft.canCreate
 repeat (any_goals (first | assumption | wp_step))
 refine codeAny_mono (codeAny_call_builtin ft.plain entryN (wpAny_of_eq hcn (g prog w A.in1 _ s h))) fun r s₁ hr=>?_
 cases r with
 | error e=>exact hr
 | ok fl =>
  cases fl with
  | ret obj =>
   obtain ⟨hT,hok,Si,gi,hsi⟩:=hnext _ _ hr;have hli:=ft.init.lookup;have hbi:=ft.init.bind obj
   repeat (any_goals (first | assumption | wp_step))
   refine codeAny_mono (codeAny_call_builtin ft.init.plain entryI (ft.init.check _ _ _ _ _ _ _ _ hT hok (gi prog w A.in1 _ s₁ hsi))) fun r₂ s₂ hr₂=>?_
   cases r₂ with
   | error e=>exact hr₂
   | ok fl₂ =>
    cases fl₂ with
    | ret r =>
     obtain ⟨rfl,hq⟩:=hr₂
     repeat (any_goals (first | assumption | wp_step))
    | _=>exact hr₂.elim
  | _=>exact hr.elim
theorem uk9 {T newId:String} {self:Value} {rest:List Value} {kw:List (Str × Value)} (hl:typeLookup (.type T) "__init__" = pure (some (.builtin "object.__init__")))
  (hm:Bind.madeBy (.type T)=pure (some newId)) (hne:(some newId != some "object.__new__")=true) :
  Meets (Builtin.«object.__init__» ⟨self::rest,kw⟩) (fun _ R s=>s.TypeIs self T /\ R (.ok (.ret .none)) s):=by
 refine Meets.of_wp fun prog w A R s hs=>?_
 obtain ⟨hT,hq⟩:=hs;cases rest with
 | nil =>
  cases kw with
  | nil=>exact wpAny_pure ⟨_,rfl,hq⟩
  | cons k kw =>
   repeat (any_goals (first | assumption | wp_step))
   exact ⟨_,rfl,hq⟩
 | cons a rest =>
  repeat (any_goals (first | assumption | wp_step))
  exact ⟨_,rfl,hq⟩
theorem uo3 (l:Addr) (items:Array Value) (n:Nat) (dct:Option Addr) (sl:Array (Option Value)) (tt:Tok) :
  Meets (Builtin.«enumerate.__new__» ⟨[.type "enumerate",.ref l],[("start",.int 1 tt)]⟩) (fun _ R s=>s.heap.get? l=some { cls:=.type "list",dict:=dct,data:=.seq items n,slots:=sl } /\
   R (.ok (.ret (.ref (s.heap.push { cls:=.type "list_iterator",data:=.fields #[.ref l,.int 0 0] }).objs.size)))
    { s with heap:=(s.heap.push { cls:=.type "list_iterator",data:=.fields #[.ref l,.int 0 0] }).push { cls:=.type "enumerate",data:=.fields #[.none,.bool false,.ref s.heap.objs.size,rawInt 1,.none,.none] } }) :=
 .of_wp fun prog w A R s h=>by
  obtain ⟨hp,g,d,tk,os⟩:=s;obtain ⟨hl,h⟩:=h;have hsub:=PySem.sub_enumerate;have hL:Heap.IsList (Shared.heap ⟨hp,g,d,tk,os⟩) l items:=⟨_,hl,rfl,n,rfl⟩
  wp_walk using PySem.AutoSeq1.wpAny_loadPart' hl
  refine wpAny_stack_any fun st=>wpAny_pure ?_
  split
  ·rename_i c _ _ _ _ _
   cases (c == Value.type "enumerate")
   ·wp_walk using PySem.AutoSeq1.wpAny_loadPart' hl,wpAny_pyIter_list hL
    exact ⟨_,rfl,h⟩
   ·wp_walk using PySem.AutoSeq1.wpAny_loadPart' hl,wpAny_pyIter_list hL
    exact ⟨_,rfl,h⟩
  ·wp_walk using PySem.AutoSeq1.wpAny_loadPart' hl,wpAny_pyIter_list hL
   exact ⟨_,rfl,h⟩
end
def IteS (K:W.Frag) (a:Addr):It :=
 ⟨fun i H=>∃ xs x,SqL K H a xs /\ xs[i]?=some x,fun i H v H'=>∃ p x,v=.ref p /\ H p=none /\ H'=upd H p (.tup [.int ((i+1:Nat):Int),x]) /\ ∀ xs,SqL K H a xs->xs[i]?=some x,fun i H=>∃ xs,SqL K H a xs /\ xs.length<=i⟩
theorem vh5 {prog:Program} {w:World} {A:Around} {E:Value->Shared->Prop} {s:Shared} {e it l:Addr} {m:Int} {i:Nat} {items:Array Value} {old:Value} {Q:Option Value->Shared->Prop} (hh:A.handled=none)
  (he:IsEnum s.heap e it m old) (hit:s.heap.IsListIter it l i) (hl:s.heap.IsList l items) (hx:items[i]?=none)
  (hQ:∀ h',Heap.ExtBut it s.heap h'->Q none { s with heap:=h' }):wpAny (model prog w) A (pyNext (.ref e)) Q E s:=by
 have hT:s.TypeIs (.ref e) "enumerate" := ⟨_,he,rfl⟩;unfold pyNext;refine wpAny_bind (wpAny_attempt (wpAny_callSpecial?_slot (name:=Str.ofString "__next__") hT PySem.F.slot_enumerate_next
  (wpAny_call_entry PySem.F.slot_enumerate_next hT PySem.F.entry_enumerate_next ?_ (PySem.F.args_enumerate_next_1 _))))
 show wpAny _ _ (field (.ref e) 2 >>= _) _ _ _
 refine wpAny_bind (wpAny_field he rfl (x:=.ref it) rfl (wpAny_bind (wpAny_nextOf_list_end hh hit hl hx fun h' x he' hx'=>?_)));obtain ⟨o,ho,hc⟩:=hx';exact wpAny_bind (wpAny_isInstance (T := "StopIteration") (b:=true) ⟨o,ho,hc⟩ isSubtype_stop (wpAny_pure (hQ _ he')))
theorem dshift {prog:Program} {w:World} {A:Around} {it:Addr} {fp:List Addr} {n:Nat} {P:Nat->Value->Prop} {St:Nat->Heap->Prop} (D:Draws prog w A it fp n P St):Draws prog w A it fp (n+1) (fun j x=>∃ i,j=i+1 /\ P i x) (fun j h=>∃ i,j=i+1 /\ St i h) where
 live:=fun j h ⟨i,_,z⟩=>D.live i h z
 frame:=fun j h h' ⟨i,e,z⟩ k=>⟨i,e,D.frame i h h' z k⟩
 item:=fun j s Q E hj ⟨i,e,z⟩ k=>D.item i s Q E (by omega) z fun x h' tk p st sb=>k x h' tk ⟨i,e,p⟩ ⟨i+1,by omega,st⟩ sb
 done:=fun s Q E ⟨i,e,z⟩ k=>by
  obtain rfl:n=i:=by omega
  exact D.done s Q E z k
theorem uv1 {P:Program} {w:World} {K:W.Frag} {elts:List Expr} {x1} {pos:Pos} (a e it:Addr) (hne:e ≠ it):Turn P w K (.Tuple elts x1 pos) (IteS K a) [e,it] e (fun i h=>(∃ old,IsEnum h e it ((i+1:Nat):Int) old) /\ h.IsListIter it a i) where
 mem:=by simp
 obj:=fun i h st b hb=>by
  obtain ⟨⟨old,st1⟩,st2⟩:=st
  rcases List.mem_cons.mp hb with q | q
  ·subst q
   exact ⟨_,st1,fun v z=>by
    have z':Data.fields _=Data.cell v:=z;cases z'⟩
  ·have q:b=it:=by simpa using q
   subst q;obtain ⟨o,e,c,d⟩:=st2;exact ⟨o,e,fun v z=>by rw [d] at z;cases z⟩
 keep:=fun i h h' st k=>⟨st.1.elim fun old q=>⟨old,k e (by simp) _ q⟩,st.2.at fun o q=>k it (by simp) o q⟩
 item:=by
  intro X hP hw hK hc i pins s σ H E I hf st hg;subst hP hw hK;obtain ⟨⟨old,st1⟩,st2⟩:=st;obtain ⟨xs,x,hq,hx⟩:=hg;obtain ⟨its,rv,p,hz⟩:=I.list hq;obtain ⟨u,hu,ru⟩:=rv.get hx;have hel:e < s.heap.objs.size:=Heap.lt_size st1;have hn:H s.heap.objs.size=none:=I.hok.fresh (Nat.le_refl _);have hla:a ≠ it:=fun z=>by
   subst z;obtain ⟨o1,z1,z2,_⟩:=st2;obtain ⟨o2,z3,z4,_⟩:=p.isList;rw [z1] at z3;cases z3;rw [z2] at z4;exact absurd (Value.type.inj z4) (by decide)
  have hea:e ≠ a:=fun z=>by
   subst z;obtain ⟨o2,z3,z4,_⟩:=p.isList;rw [st1] at z3;cases z3;exact absurd (Value.type.inj z4) (by decide)
  have D:=dshift (Draws.list (prog:=X.prog) (w:=X.w) (A:=X.A.in1) (I.ok.hd hc) it a hla its.toArray);have hil:i < its.toArray.size:=by
   have:=(List.getElem?_eq_some_iff.mp hu).1;simpa using this
  refine wpAny_pyNext_enum_itemD D st1 ⟨i,rfl,st2,p.isList⟩ (by omega) hne (by simp;exact ⟨hne,hea⟩) fun x' h1 tk hx1 ho hst ht1 hz1 hk1=>?_
  obtain ⟨i1,ei1,hx1⟩:=hx1;obtain rfl:i=i1:=by omega
  obtain rfl:x'=u:=by
   have hx2:its.toArray[i]?=some x':=hx1;rw [List.getElem?_toArray,hu] at hx2;exact (Option.some.inj hx2).symm
  obtain ⟨i2,ei2,hit1,_⟩:=hst;obtain rfl:i+1=i2:=by omega
  refine ⟨_,rfl,wpAny_letOwnedTupleGo_enum ho fun h2 he2 hs2=>?_⟩
  replace hs2:Heap.SameBut e h1 h2:=hs2
  have hk2:∀ b o,b ≠ e->b ≠ it->s.heap.get? b=some o->h2.get? b=some o:=fun b o h1' h2' q=>(hs2.2 b h1').trans (hk1 b o h1' h2' q)
  have ht2:=(hs2.2 s.heap.objs.size (Nat.ne_of_gt hel)).trans ht1;refine ⟨.ref s.heap.objs.size,upd H s.heap.objs.size (.tup [.int ((i+1:Nat):Int),x]),I.turnedT (t':=tk+1) hk2 hf ?_,rfl,⟨_,x,rfl,hn,rfl,fun ys hy=>by rw [I.list_inj hy hq];exact hx⟩,⟨⟨_,by simpa using he2⟩,?_⟩,fun b hb=>?_⟩
  ·exact ⟨show 2<=sizeLine by decide,[.int ((i+1:Nat):Int) tk,_],.cons ⟨tk,rfl⟩ (.cons ru .nil),⟨_,ht2,rfl,⟨_,rfl⟩,rfl⟩⟩
  ·exact hit1.at fun o q=>(hs2.2 it (Ne.symm hne)).trans q
  ·rw [u09 ?_];exact (hf b hb).1
   intro z
   rcases List.mem_cons.mp hb with q | q
   ·exact Nat.ne_of_lt hel (q ▸ z)
   ·have q:b=it:=by simpa using q
    obtain ⟨o,y,_⟩:=st2;exact Nat.ne_of_lt (Heap.lt_size y) (q ▸ z)
 done:=by
  intro X hP hw hK hc i pins s σ H E I hf st hg;subst hP hw hK;obtain ⟨⟨old,st1⟩,st2⟩:=st;obtain ⟨xs,hq,hx⟩:=hg;obtain ⟨its,rv,p,hz⟩:=I.list hq;obtain ⟨f0,f1,f2,f3,f4,f5⟩:=hf it (by simp);have hl:=rv.length;exact vh5 (I.ok.hd hc) st1 st2 p.isList (by simp;omega) fun h' eb=>⟨rfl,I.turned (t':=s.toks) (fun b o hb q=>eb b o hb q) f0 f1 f3 f4 f5⟩
 self:=fun _ _ _ _ _ st h=>st.1.elim fun _ q=>wpAny_pyIter_enum q h
section
variable {prog:Program} {w:World} {A:Around} {E:Value->Shared->Prop} {s:Shared}
theorem ux3 {l:Addr} {items:Array Value} {tt:Tok} {Q:Value->Shared->Prop} (hL:s.heap.IsList l items)
  (h:∀ h',IsEnum h' (s.heap.objs.size+1) s.heap.objs.size 1 .none->h'.IsListIter s.heap.objs.size l 0->h'.objs.size=s.heap.objs.size+2 ->
   (∀ b o,s.heap.get? b=some o->h'.get? b=some o)->Q (.ref (s.heap.objs.size+1)) { s with heap:=h' }) :
  wpAny (model prog w) A (call (.type "enumerate") [.ref l] [("start",.int 1 tt)]) Q E s:=by
 obtain ⟨⟨c,dct,dt,sl⟩,hl,hc,n,hd⟩:=hL
 replace hc:c=.type "list" := hc
 replace hd:dt=.seq items n:=hd
 subst hc hd;have hz:(s.heap.push { cls:=.type "list_iterator",data:=.fields #[.ref l,.int 0 0] }).objs.size=s.heap.objs.size+1:=Heap.size_push ..;have he:IsEnum ((s.heap.push { cls:=.type "list_iterator",data:=.fields #[.ref l,.int 0 0] }).push
   { cls:=.type "enumerate",data:=.fields #[.none,.bool false,.ref s.heap.objs.size,rawInt 1,.none,.none] }) (s.heap.objs.size+1) s.heap.objs.size 1 .none:=by
  have:=Heap.get?_push_size (s.heap.push { cls:=.type "list_iterator",data:=.fields #[.ref l,.int 0 0] })
   (o:={ cls:=.type "enumerate",data:=.fields #[.none,.bool false,.ref s.heap.objs.size,rawInt 1,.none,.none] }) rfl
  rw [hz] at this;exact this
 refine ue2 (Q₁:=fun obj s₁=>s₁.TypeIs obj "enumerate" /\ Q obj s₁) PySem.F.called_enumerate (ue7 _ _) (uh7 _ _) PySem.F.entry_enumerate_new PySem.F.entry_object_init (uo3 l items n dct sl tt) ⟨hl,?_⟩ fun obj s₁ hq=>⟨hq.1,ux4 _ _ _,_,uk9 PySem.F.called_enumerate.init.lookup PySem.F.called_enumerate.made (by decide),hq.1,rfl,hq.2⟩
 show _ /\ _
 rw [hz];exact ⟨⟨_,he,rfl⟩,h _ he ⟨_,Heap.get?_push_of_some _ (Heap.get?_push_size _ rfl),rfl,rfl⟩ (by rw [Heap.size_push,hz]) fun b o x=>Heap.get?_push_of_some _ (Heap.get?_push_of_some _ x)⟩
end
section
variable {M:Model} {A:Around} {E:Value->Shared->Prop} {s:Shared} {env:Env}
theorem uf1 {pos:Pos} {T:String} {e:Expr} {rest:List Expr} {kws:List Keyword} {Q:Value->Shared->Prop}
  (h:wpAny M A (spliced (backTo pos (starEach (e::rest) env))) (fun vs s₁=>wpAny M A (evalAll ((backToKw pos (keywordEach kws env)).map (·.2)))
   (fun kvs s₂=>wpAny M A (call (.type T) vs (((backToKw pos (keywordEach kws env)).filterMap (·.1)).zip kvs)) Q E s₂) E s₁) E s)
  (he:backTo pos (starEach (e::rest) env)=(false,eval e env)::backTo pos (starEach rest env))
  (hplain:(backTo pos (starEach (e::rest) env)).any (·.1)=false)
  (hall:(backToKw pos (keywordEach kws env)).all (·.1.isSome)=true)
  (hkw:(backToKw pos (keywordEach kws env)).any (·.1.isNone)=false) :
  wpAny M A (callWith pos (.type T) [] (backTo pos (starEach (e::rest) env)) (backToKw pos (keywordEach kws env))) Q E s:=by
 unfold callWith;rw [he] at h hplain ⊢;refine wpAny_bind (wpAny_holding (wpAny_mono (evalArgs_kwB (Q:=fun a s₁=>wpAny M A (call (.type T) ([]++a.pos) a.kw) Q E s₁) hall h) (fun a s₁ h₁=>wpAny_bind (wpAny_standAt ?_)) fun _ _ x=>x));simp only [hplain,hkw,Bool.or_false];refine wpAny_bind (wpAny_pure ?_);exact wpAny_bind (wpAny_mono h₁ (fun r s₂ hr=>wpAny_bind (wpAny_holding (wpAny_point (wpAny_pure hr)))) fun _ _ x=>x)
end
def vn3 (K:W.Frag) (ta:TA):TI:=fun σ H R=>ta σ H fun vs H1=>∃ a,vs=[.ref a] /\ (∃ xs,SqL K H1 a xs) /\ R (IteS K a) H1
theorem vd6 {X:Cx} {elts:List Expr} {x1} {tpos:Pos} {a:Expr} {ta:TA} {p pos kp vp:Pos} {vk:Nat} (hg:Gl X "enumerate") (hm:X.mg "enumerate" = none) (ha:PA X [a] ta) (hs:starEach [a] X.env=[(false,eval a X.env)]:=by rfl) :
  PI X (.Tuple elts x1 tpos) (.Call (.Name "enumerate" p) [a] [⟨some "start",.Constant (.int 1) vk vp,kp⟩] pos) (vn3 X.K ta):=by
 intro pins s σ H R I h;refine wpAny_bind (ub0 I hg hm v91 (uf1 (thn (ha pos pins s σ H _ I h) fun us s1 ⟨vs,H1,I1,r1,q1⟩=>?_) (by rw [hs];rfl) (by rw [hs];rfl) rfl rfl));obtain ⟨l,e,⟨xs,hq⟩,q⟩:=q1;subst e;cases r1 with
 | cons r rr =>
  cases rr;cases r;refine kws_cons ?_;refine wpAny_Constant_int (kws_nil ?_);obtain ⟨its,rv,pl,hz⟩:=I1.list hq;refine ux3 (s:={ s1 with toks:=s1.toks+1 }) pl.isList fun h' he hit hsz hk=>?_
  refine wpAny_pyIter_enum he ?_;have I2:Inv X pins σ H1 { s1 with heap:=h',toks:=s1.toks+1 }:=I1.kept (t':=s1.toks+1) hk
  refine ⟨s1.heap.objs.size+1,[s1.heap.objs.size+1,s1.heap.objs.size],_,_,H1,rfl,I2,uv1 l _ _ (Nat.succ_ne_self _),⟨⟨.none,he⟩,hit⟩,fun b hb=>?_,q⟩;have hb:s1.heap.objs.size<=b:=by
   rcases List.mem_cons.mp hb with z | z
   ·rw [z];exact Nat.le_succ _
   ·have e:b=s1.heap.objs.size:=by simpa using z
    rw [e];exact Nat.le_refl _
  exact I1.fpOk hb (I1.hok.fresh hb)
end L2
namespace L3
open PySem PySem.Spec PyProof.Rows L2
theorem uo8 {K:W.Frag} {H0:Hp} {a:Addr} {ds:List D}:ItRel K H0 ⟨enD 1 ds,fun G=>u16 (G a)=some ds⟩ (IteS K a) where
 go:=fun i G H l c ok hi=>by
  obtain ⟨xs,s,r⟩:=u19 c ok;rw [ua7] at hi;exact ⟨xs,xs[i]'(by rw [<- r.length];exact hi),s,List.getElem?_eq_getElem _⟩
 stop:=fun i G H l c ok hi=>by
  obtain ⟨xs,s,r⟩:=u19 c ok;rw [ua7] at hi;exact ⟨xs,s,by rw [<- r.length];exact hi⟩
 yld:=fun i G H x H' l c ok hi y=>by
  obtain ⟨p,v,rfl,hp,rfl,y⟩:=y;obtain ⟨xs,s,r⟩:=u19 c ok;obtain ⟨d,hd,rd⟩:=r.at_ (y xs s)
  refine ⟨c.side hp,Le.fresh hp,.tup [.int ((i+1:Nat):Int),d],by rw [v72 hd,Nat.add_comm],?_⟩;rw [RelD];exact ⟨p,_,rfl,SqT.of u20,.cons RelD.intI (.cons (RelD.le (Le.fresh hp) rd) .nil)⟩
def uy4 (t:TA3):TI3:=fun σ G r=>t σ G fun ds G1=>match ds with
 | [.ref a]=>(match u16 (G1 a) with | some ds=>r ⟨enD 1 ds,fun G=>u16 (G a)=some ds⟩ G1 | none=>False)
 | _=>False
theorem uw2 {K:W.Frag} {t:TA3} {σ:L2.St} {H:Hp} {R:It->Hp->Prop} (h:lowI K (uy4 t) σ H R):vn3 K (lowA K t) σ H R:=by
 obtain ⟨σd,G,q,rs,c,t,f⟩:=h;refine ⟨σd,G,_,rs,c,t,fun ds G1 vs H1 r1 c1 l1 t1=>?_⟩;split at t1
 ·rename_i a
  split at t1
  ·rename_i ds e
   obtain ⟨v,rfl,rv⟩:=r1.one;cases rv.ref_inv;obtain ⟨xs,s1,q1⟩:=u19 c1 e;exact ⟨a,rfl,⟨xs,s1⟩,f _ _ _ _ uo8 c1 l1 t1⟩
  ·exact t1.elim
 ·exact t1.elim
theorem vy6 {X:Cx} {elts:List Expr} {x1} {tpos:Pos} {a:Expr} {ts:TA3} {p pos kp vp:Pos} {vk:Nat} (hg:Gl X "enumerate") (hm:X.mg "enumerate" = none) (ha:A3 X [a] ts) (hs:starEach [a] X.env=[(false,eval a X.env)]:=by rfl) :
  I3 X (.Tuple elts x1 tpos) (.Call (.Name "enumerate" p) [a] [⟨some "start",.Constant (.int 1) vk vp,kp⟩] pos) (uy4 ts):=un2 (vd6 hg hm ha hs) fun _ _ _=>uw2
def rngS (lo c:Int) (n:Nat):List D:=(List.range n).map fun (i:Nat)=>D.int (lo+(i:Int) * c)
theorem uw5 {K:W.Frag} {H0:Hp} {lo c:Int} {n:Nat}:ItRel K H0 ⟨rngS lo c n,fun _=>True⟩ (Itrs lo c n) where
 go:=fun i G H l c _ hi=>by
  have hi:i < (rngS lo _ n).length:=hi
  show i < n
  simpa [rngS] using hi
 stop:=fun i G H l c _ hi=>by
  have hi:(rngS lo _ n).length<=i:=hi
  show n<=i
  simpa [rngS] using hi
 yld:=fun i G H v H' l c _ hi y=>by
  obtain ⟨rfl,rfl⟩:=y;refine ⟨c,Le.refl _,.int (lo+i * _),?_,RelD.intI⟩;have hi:i < (rngS lo _ n).length:=hi;have hi:i < n:=by simpa [rngS] using hi
  show (rngS lo _ n)[i]?=_
  unfold rngS;rw [List.getElem?_map,List.getElem?_range hi];rfl
def vp8 (ta:TA3):TI3:=fun σ G r=>ta σ G fun ds G1=>match ds with | [.int i,.int j,.int c]=>(0 < c /\ c < 2 ^ 40 /\ -(2 ^ 40)<=i /\ i < 2 ^ 40 /\ -(2 ^ 40)<=j /\ j < 2 ^ 40) /\ r ⟨rngS i c (if i < j then (j - i - 1) / c+1 else 0:Int).toNat,fun _=>True⟩ G1 | _=>False
theorem v33 {K:W.Frag} {σ:L2.St} {H:Hp} {ta:TA3} {R:It->Hp->Prop} (h:lowI K (vp8 ta) σ H R):we7 (lowA K ta) σ H R:=by
 obtain ⟨σd,G,q,rs,c,t,f⟩:=h;refine ⟨σd,G,_,rs,c,t,fun ds G1 vs H1 r1 c1 l1 t1=>?_⟩;split at t1
 ·rename_i i j c
  obtain ⟨x,r,rfl,rx,rr⟩:=r1.inv_cons;obtain ⟨y,r',rfl,ry,rr2⟩:=rr.inv_cons;obtain ⟨z,r'',rfl,rz,rr3⟩:=rr2.inv_cons;rw [RelD] at rx ry rz;subst rx ry rz;rw [rr3.inv_nil];exact ⟨i,j,c,rfl,t1.1,f _ _ _ _ uw5 c1 l1 t1.2⟩
 ·exact t1.elim
theorem we5 {X:Cx} {a b d tg:Expr} {ts:TA3} {p pos:Pos} (hg:Gl X "range") (hm:X.mg "range" = none) (ha:A3 X [a,b,d] ts) (hs:starEach [a,b,d] X.env=(false,eval a X.env)::starEach [b,d] X.env:=by rfl) (hs2:(backTo pos (starEach [b,d] X.env)).any (·.1)=false:=by rfl) :
  I3 X tg (.Call (.Name "range" p) [a,b,d] [] pos) (vp8 ts):=un2 (v12 hg hm ha hs hs2) fun _ _ _=>v33
end L3
namespace Rw
open PySem PySem.Spec PyProof.Rows L2 L3
def numI (k:Int):Str:=Str.ofString (toString k)
theorem u78 (k:Nat):(numI (k:Int)).cps.toList=(Nat.toDigits 10 k).map Char.toNat:=W.KIN.signs_num k
theorem ug4 {k c:Nat} (h:c ∈ (numI (k:Int)).cps.toList):48<=c /\ c<=57:=by
 rw [u78] at h;obtain ⟨d,hd,rfl⟩:=List.mem_map.mp h;have:=Nat.isDigit_of_mem_toDigits (by decide) (by decide) hd;unfold Char.isDigit at this;rw [Bool.and_eq_true,decide_eq_true_eq,decide_eq_true_eq,ge_iff_le,UInt32.le_iff_toNat_le,UInt32.le_iff_toNat_le] at this;exact this
theorem v59:∀ (n k:Nat),k<=n->1<=k->(Nat.toDigits 10 k).head? ≠ some '0'
 | 0,k,h,h1=>by omega
 | n+1,k,h,h1=>by
  by_cases hk:k < 10
  ·rw [Nat.toDigits_of_lt_base hk]
   have:∀ d:Nat,d < 10->1<=d->[Nat.digitChar d].head? ≠ some '0':=by decide
   exact this k hk h1
  ·rw [Nat.toDigits_of_base_le (by decide) (by omega),List.head?_append]
   have ih:=v59 n (k / 10) (by omega) (by omega);cases e:(Nat.toDigits 10 (k / 10)).head? with
   | none=>rw [List.head?_eq_none_iff] at e;exact absurd e Nat.toDigits_ne_nil
   | some c=>rw [e] at ih;exact ih
theorem ub9 (k:Nat):(numI (k:Int)).length=(Nat.toDigits 10 k).length:=by rw [str_len,u78,List.length_map]
theorem vv9 (k:Nat):1<=(numI (k:Int)).length:=by rw [ub9];exact Nat.length_toDigits_pos
theorem vm1 {k m:Nat} (h:k<=m):(numI (k:Int)).length<=(numI (m:Int)).length:=by
 rw [ub9,ub9];rw [Nat.length_toDigits_le_iff (by decide) Nat.length_toDigits_pos];have:=(Nat.length_toDigits_le_iff (b:=10) (n:=m) (k:=(Nat.toDigits 10 m).length) (by decide) Nat.length_toDigits_pos).mp (Nat.le_refl _);omega
theorem w03:(numI 9999999999).length=10:=by decide
theorem u93 {k:Nat} (h:k<=9999999999):(numI (k:Int)).length<=10:=by
 have:=vm1 h;rw [show ((9999999999:Nat):Int)=9999999999 from rfl,w03] at this;exact this
theorem v24 (k:Nat):∃ c r,(numI (k:Int)).cps.toList=c::r /\ (c=48->(numI (k:Int)).length=1):=by
 by_cases h0:k=0
 ·subst h0
  exact ⟨48,[],by decide,fun _=>by decide⟩
 ·have h:=v59 k k (Nat.le_refl _) (by omega)
  rw [u78];cases e:Nat.toDigits 10 k with
  | nil=>exact absurd e Nat.toDigits_ne_nil
  | cons c r =>
   rw [e] at h;refine ⟨c.toNat,r.map Char.toNat,rfl,fun z=>absurd ?_ h⟩;have:c='0':=Char.ext (UInt32.toNat_inj.mp z);rw [this];rfl
theorem ur8 {k:Nat} (h:k<=9999999999):intText? (numI (k:Int))=some (k:Int):=by
 have e:(10:Int) ^ 10=10000000000:=by decide
 exact W.KIN.num_reads (by omega) (by rw [e];omega)
theorem logI {k:Int} (h0:0<=k) (h:k<=9999999999):k.natAbs.log2 < 1920:=by
 by_cases z:k.natAbs=0
 ·rw [z];decide
 ·exact Nat.lt_trans ((Nat.log2_lt z).mpr (show k.natAbs < 2 ^ 40 by omega)) (by decide)
def bw (k:Nat):Str := "b" ++ numI (k:Int)
theorem ua0 (k:Nat):(bw k).cps.toList=98::(numI (k:Int)).cps.toList:=by
 show (("b" : Str)++numI (k:Int)).cps.toList=_
 rw [u88];rfl
theorem wg7 (k:Nat):(bw k).length=(numI (k:Int)).length+1:=by rw [str_len,ua0,List.length_cons,<- str_len]
def opS:Opd->Str
 | .num n=>numI n
 | .box y=>bw y
def csS (cs:List (Nat × Nat)):List Str:=cs.flatMap fun c=>[bw c.1,numI (c.2:Int)]
def rwS:Row->List Str
 | .add x o=>["add",numI (x:Int),opS o]
 | .take x o=>["take",numI (x:Int),opS o]
 | .turn x i cs => "turn" :: numI (x:Int)::numI (i:Int)::csS cs
 | .swap x y=>["swap",numI (x:Int),numI (y:Int)]
 | .go x n k=>["go",numI (x:Int),numI n,numI (k:Int)]
 | .come x n k=>["come",numI (x:Int),numI n,numI (k:Int)]
def opK:Opd->Prop
 | .num n=>0<=n /\ n < 4294967296
 | .box y=>y<=9999999999
def rK:Row->Prop
 | .add x o=>x<=9999999999 /\ opK o
 | .take x o=>x<=9999999999 /\ opK o
 | .turn x i cs=>x<=9999999999 /\ i < 32 /\ cs.length<=2 /\ ∀ c ∈ cs,c.1<=9999999999 /\ c.2 < 32
 | .swap x y=>x<=9999999999 /\ y<=9999999999
 | .go x n k=>x<=9999999999 /\ (0<=n /\ n < 4294967296) /\ k<=9999999999
 | .come x n k=>x<=9999999999 /\ (0<=n /\ n < 4294967296) /\ k<=9999999999
def wd (x:Str):Prop:=x.length<=11 /\ ∀ c ∈ x.cps.toList,33<=c
theorem u63 {k:Nat} (h:k<=9999999999):wd (numI (k:Int)):=⟨by have:=u93 h;omega,fun c hc=>by have:=ug4 hc;omega⟩
theorem w36 {k:Nat} (h:k<=9999999999):wd (bw k):=⟨by rw [wg7];have:=u93 h;omega,fun c hc=>by
 rw [ua0] at hc
 rcases List.mem_cons.mp hc with e | e
 ·omega
 ·have:=ug4 e;omega⟩
theorem ud1 {n:Int} (h:0<=n):∃ k:Nat,n=(k:Int):=⟨n.toNat,by omega⟩
theorem uq5 {n:Int} (h:0<=n /\ n < 4294967296):wd (numI n):=by
 obtain ⟨k,rfl⟩:=ud1 h.1;exact u63 (by omega)
theorem w35 {o:Opd} (h:opK o):wd (opS o):=by
 cases o with
 | num n=>exact uq5 h
 | box y=>exact w36 h
theorem up3 (cs:List (Nat × Nat)):(csS cs).length=2 * cs.length:=by
 induction cs with
 | nil=>rfl
 | cons c cs ih=>show ((csS cs).length+1)+1=2 * (cs.length+1);omega
theorem wi1 {cs:List (Nat × Nat)} (h:∀ c ∈ cs,c.1<=9999999999 /\ c.2 < 32):∀ x ∈ csS cs,wd x:=fun x hx=>by
 obtain ⟨c,hc,hx⟩:=List.mem_flatMap.mp hx;have:=h c hc
 rcases List.mem_cons.mp hx with e | e
 ·rw [e];exact w36 this.1
 ·rw [List.mem_singleton.mp e];exact u63 (by omega)
theorem wd_lit:wd "add" /\ wd "take" /\ wd "turn" /\ wd "swap" /\ wd "go" /\ wd "come" /\ wd "size" := by
 have:∀ x:Str,(decide (x.length<=11) && x.cps.toList.all (fun c=>decide (33<=c)))=true->wd x:=fun x h=>by
  rw [Bool.and_eq_true,decide_eq_true_eq,List.all_eq_true] at h;exact ⟨h.1,fun c hc=>of_decide_eq_true (h.2 c hc)⟩
 exact ⟨this _ (by decide),this _ (by decide),this _ (by decide),this _ (by decide),this _ (by decide),this _ (by decide),this _ (by decide)⟩
theorem uo0 {r:Row} (h:rK r):∀ x ∈ rwS r,wd x:=by
 have L:=wd_lit;have c3:∀ {a b c:Str},wd a->wd b->wd c->∀ x ∈ [a,b,c],wd x:=fun ha hb hc x hx=>by
  rcases List.mem_cons.mp hx with e | hx
  ·rw [e];exact ha
  rcases List.mem_cons.mp hx with e | hx
  ·rw [e];exact hb
  rw [List.mem_singleton.mp hx];exact hc
 have c4:∀ {a b c d:Str},wd a->wd b->wd c->wd d->∀ x ∈ [a,b,c,d],wd x:=fun ha hb hc hd x hx=>by
  rcases List.mem_cons.mp hx with e | hx
  ·rw [e];exact ha
  exact c3 hb hc hd x hx
 cases r with
 | add x o=>exact c3 L.1 (u63 h.1) (w35 h.2)
 | take x o=>exact c3 L.2.1 (u63 h.1) (w35 h.2)
 | turn x i cs =>
  intro y hy;have hi:i<=9999999999:=by have:=h.2.1;omega
  rcases List.mem_cons.mp hy with e | hy
  ·rw [e];exact L.2.2.1
  rcases List.mem_cons.mp hy with e | hy
  ·rw [e];exact u63 h.1
  rcases List.mem_cons.mp hy with e | hy
  ·rw [e];exact u63 hi
  exact wi1 h.2.2.2 y hy
 | swap x y=>exact c3 L.2.2.2.1 (u63 h.1) (u63 h.2)
 | go x n k=>exact c4 L.2.2.2.2.1 (u63 h.1) (uq5 h.2.1) (u63 h.2.2)
 | come x n k=>exact c4 L.2.2.2.2.2.1 (u63 h.1) (uq5 h.2.1) (u63 h.2.2)
theorem ur0 {r:Row} (h:rK r):(rwS r).length<=7:=by
 cases r with
 | turn x i cs =>
  show (csS cs).length+1+1+1<=7
  rw [up3];have:=h.2.2.1;omega
 | add=>exact (by decide:3<=7)
 | take=>exact (by decide:3<=7)
 | swap=>exact (by decide:3<=7)
 | go=>exact (by decide:4<=7)
 | come=>exact (by decide:4<=7)
theorem w56 (r:Row):rwS r ≠ []:=by cases r <;> exact List.cons_ne_nil _ _
theorem ub2:(" " : Str)=⟨#[32]⟩:=by decide
theorem vw2:("\n":Str)=⟨#[10]⟩:=by decide
theorem u92 {c:Nat} {sep:Str} (hs:sep=⟨#[c]⟩) {ws:List Str} (h0:ws ≠ []) (h:∀ w ∈ ws,c ∉ w.cps.toList):Txt.split (jn sep ws) sep=ws:=by
 have e:jn sep ws=Str.join sep ws:=StrLaws.glued_eq_join _ _;subst hs;refine ud2 (c:=c) (u77 _ _) h0 (StrLaws.split_free _ c) h ?_;rw [StrLaws.join_split,e]
theorem v46 {c s:Nat}:∀ {ws:List Str},s ∈ (Str.join ⟨#[c]⟩ ws).cps.toList->s=c \/ ∃ w ∈ ws,s ∈ w.cps.toList
 | [],h=>by
  have:s ∈ ([]:List Nat):=h;cases this
 | [w],h=>.inr ⟨w,List.mem_singleton.mpr rfl,h⟩
 | w::v::r,h=>by
  rw [u80] at h
  rcases List.mem_append.mp h with h | h
  ·exact .inr ⟨w,List.mem_cons_self,h⟩
  rcases List.mem_cons.mp h with h | h
  ·exact .inl h
  rcases v46 (ws:=v::r) h with h | ⟨u,hu,h⟩
  ·exact .inl h
  ·exact .inr ⟨u,List.mem_cons_of_mem _ hu,h⟩
theorem u86 {sep:Str} (hs:sep.length=1) (ws:List Str):(jn sep ws).length=(ws.map (·.length)).sum+(ws.length - 1):=by
 show (Builtin.Str.glued sep ws).length=_
 rw [size_glued sep ws,hs,Nat.mul_one]
theorem ua1 {B:Nat} {ws:List Str} (h:∀ w ∈ ws,w.length<=B):(ws.map (·.length)).sum<=B * ws.length:=by
 induction ws with
 | nil=>simp
 | cons w ws ih =>
  rw [List.map_cons,List.sum_cons,List.length_cons];have:=h w List.mem_cons_self;have:=ih fun x hx=>h x (List.mem_cons_of_mem _ hx)
  rw [Nat.mul_succ];omega
theorem v64 {sep:Str} (hs:sep.length=1) (ws:List Str):∀ a:Nat,ws.foldl (·+·.length+sep.length) a=a+(ws.map (·.length)).sum+ws.length:=by
 induction ws with
 | nil=>intro a;simp
 | cons w ws ih =>
  intro a;rw [List.foldl_cons,ih,List.map_cons,List.sum_cons,List.length_cons,hs];omega
theorem u81 {sep:Str} (hs:sep.length=1) {B N:Nat} {ws:List Str} (h:∀ w ∈ ws,w.length<=B) (hl:ws.length<=N) (hz:B * N+N<=4000000):Builtin.Str.tooLong ((ws.toArray).foldl (·+·.length+sep.length) 0)=false /\ (jn sep ws).length<=sizeLine:=by
 have s:=ua1 h;have z:(4000000:Nat)<=sizeLine:=by decide
 have m:B * ws.length<=B * N:=Nat.mul_le_mul_left _ hl;refine ⟨?_,?_⟩
 ·rw [List.foldl_toArray,v64 hs]
  unfold Builtin.Str.tooLong;exact decide_eq_false (by omega)
 ·rw [u86 hs];omega
def lnS (r:Row):Str:=jn " " (rwS r)
def szS (sz:Nat):Str:=jn " " ["size",numI (sz:Int)]
def cdS (sz:Nat) (rs:List Row):Str:=jn "\n" (szS sz::rs.map lnS)
theorem sp1:(" " : Str).length=1:=by decide
theorem nl1:("\n":Str).length=1:=by decide
theorem v45 {ws:List Str} (h:∀ x ∈ ws, wd x):10 ∉ (jn " " ws).cps.toList:=fun hh=>by
 have e:jn " " ws=Str.join " " ws:=StrLaws.glued_eq_join _ _;rw [e, ub2] at hh
 rcases v46 hh with z | ⟨w, hw, z⟩
 ·omega
 ·have:=(h w hw).2 _ z;omega
theorem vn1 {ws:List Str} (h:∀ x ∈ ws, wd x) (hl:ws.length<=7):(jn " " ws).length<=90:=by
 rw [u86 sp1];have:=ua1 (B:=11) fun w hw=>(h w hw).1
 omega
theorem uv3 {sz:Nat} (h:sz<=9999999999):∀ x ∈ (["size", numI (sz:Int)]:List Str), wd x:=fun x hx=>by
 rcases List.mem_cons.mp hx with e | e
 ·rw [e];exact wd_lit.2.2.2.2.2.2
 ·rw [List.mem_singleton.mp e];exact u63 h
theorem vx6 {r:Row} (h:rK r):10 ∉ (lnS r).cps.toList:=v45 (uo0 h)
theorem wc9 {r:Row} (h:rK r):(lnS r).length<=90:=vn1 (uo0 h) (ur0 h)
theorem vg0 {r:Row} (h:rK r):Txt.split (lnS r) " " = rwS r:=u92 ub2 (w56 r) fun w hw z=>by have:=(uo0 h w hw).2 _ z;omega
theorem vb3 {sz:Nat} (h:sz<=9999999999):Txt.split (szS sz) " " = (["size",numI (sz:Int)]:List Str):=u92 ub2 (List.cons_ne_nil _ _) fun w hw z=>by have:=(uv3 h w hw).2 _ z;omega
theorem w48 {sz:Nat} (h:sz<=9999999999):(szS sz).length<=90:=vn1 (uv3 h) (by exact (by decide:2<=7))
theorem ui7 {sz:Nat} {rs:List Row} (h:sz<=9999999999) (hr:∀ r ∈ rs,rK r):∀ x ∈ szS sz::rs.map lnS,10 ∉ x.cps.toList /\ x.length<=90:=fun x hx=>by
 rcases List.mem_cons.mp hx with e | e
 ·rw [e];exact ⟨v45 (uv3 h),w48 h⟩
 ·obtain ⟨r,h1,rfl⟩:=List.mem_map.mp e
  exact ⟨vx6 (hr r h1),wc9 (hr r h1)⟩
theorem uu3 {sz:Nat} {rs:List Row} (h:sz<=9999999999) (hr:∀ r ∈ rs,rK r):Txt.split (cdS sz rs) "\n"=szS sz::rs.map lnS:=u92 vw2 (List.cons_ne_nil _ _) fun w hw=>(ui7 h hr w hw).1
theorem v86 {sz:Nat} {rs:List Row} (h:sz<=9999999999) (hr:∀ r ∈ rs, rK r) (hl:rs.length<=4000):Builtin.Str.tooLong (((szS sz::rs.map lnS).toArray).foldl (·+·.length+("\n":Str).length) 0)=false /\ (cdS sz rs).length<=sizeLine :=
 u81 nl1 (B:=90) (N:=4001) (fun w hw=>(ui7 h hr w hw).2) (by simp;omega) (by decide)
end Rw
namespace L2
open PySem PySem.Spec PyProof.Rows
section
variable {X:Cx}
theorem v26:MtR X "str.startswith" (fun x vs H Q=>∃ s t:Str,x=.str s /\ vs=[.str t] /\ Q (.bl (Txt.startswith s t)) H):=by
 intro pins s σ H x vs v us Q I rx rv h;obtain ⟨y,z,rfl,rfl,q⟩:=h;obtain ⟨t,rfl⟩:=rx;obtain ⟨u,rfl,ru⟩:=rv.one;obtain ⟨t',rfl⟩:=ru;exact call_gives PySem.F.slot_str_startswith (typeIs_str _ _ _) PySem.F.entry_str_startswith (PySem.F.args_str_startswith_2 _ _) (gives_str_startswith y z t t') ⟨.bl _,H,I,rfl,q⟩
end
end L2
namespace L3
open PySem PySem.Spec PyProof.Rows L2
section
variable {X:Cx} {o e:Expr} {es:List Expr} {to:TE3} {ts:TA3} {apos cpos:Pos}
@[reducible] def v30:M3:=fun x ds G q=>∃ s t:Str,x=.str s /\ ds=[.str t] /\ q (.bl (Txt.startswith s t)) G
theorem ul5 (ho:E3 X o to) (ha:A3 X (e::es) ts) (hbase:attributeBase o "startswith" X.env (eval o X.env)=eval o X.env:=by rfl)
  (hfew:((backTo cpos (starEach (e::es) X.env)).all (fun x=>!x.1) && (backToKw cpos (keywordEach [] X.env)).all (fun x=>x.1.isSome)
   && decide ((e::es).length+([]:List Keyword).length+(if ([]:List Keyword).isEmpty then 0 else 1) < 30))=true:=by rfl)
  (hline:(apos.endLine == cpos.line)=true:=by rfl) (hs:starEach (e::es) X.env=(false,eval e X.env)::starEach es X.env:=by rfl) (hplain:(backTo cpos (starEach es X.env)).any (·.1)=false:=by rfl) :
  E3 X (.Call (.Attribute o "startswith" apos) (e::es) [] cpos) (dBM "str" v30 to ts) :=
 u34 (v17 PySem.F.plainAttrs_str PySem.F.slot_str_startswith PySem.F.type_str_startswith (uf3 (r':=lowM X.K v30) v26 <| by
  rintro x xs H Q ⟨d,ds,G,q,r1,r2,c,⟨s,t,rfl,rfl,tt⟩,f⟩;obtain ⟨u,rfl,ru⟩:=r2.one;cases ru.str_inv;exact ⟨s,t,r1.str_inv,rfl,f _ _ _ _ RelD.blI c (Le.refl H) tt⟩) ho ha hbase hfew hline hs hplain) fun _ _ _=>ul2 (ty_str _)
end
end L3
namespace L2
open PySem PySem.Spec PyProof.Rows Builtin Builtin.Str
theorem uw8 (x y z : Str) (t u v w : Tok) (h0 : (u == 0 || v == 0) = false) (huv : (u == v) = false) (hyz : (y == z) = false) (hl : tooLong (x.length + (occurrences x y 0 x.length 1).length * z.length) = false) :
    Gives («str.replace» ⟨[.str x t,.str y u,.str z v,.int 1 w],[]⟩)
      (if ((occurrences x y 0 x.length 1).isEmpty || (y.length == 0 && z.length == 0))=true then .val (.str x t)
       else .str (glued z (partsBetween x (occurrences x y 0 x.length 1) y.length))):=by
  show Gives (if ((occurrences x y 0 x.length 1).isEmpty || (y.length == 0 && z.length == 0)) = true then (do rule "str.replace.nothing"; ret (.str x t)) else
          (do let same <- isSame (.str y u) (.str z v)
              if same=true then (do rule "str.replace.old-is-new";ret (.str x t)) else
              if tooLong (x.length+(occurrences x y 0 x.length 1).length * z.length)=true then unsupported "str.replace:memory" else
              retStr (glued z (partsBetween x (occurrences x y 0 x.length 1) y.length)))) _
  cases hc:((occurrences x y 0 x.length 1).isEmpty || (y.length == 0 && z.length == 0))
  · rw [isSame_str_other y z u v h0 huv hyz,hl]
    exact .of_eq rfl
  · exact .rule (.of_eq rfl)
theorem vc8 {x y z:Str}:(glued z (partsBetween x (occurrences x y 0 x.length 1) y.length)).length<=x.length+z.length:=by
 have h1:(occurrences x y 0 x.length 1).length<=1:=StrLaws.occ_length_le x y 0 x.length 1;have hy:(glued y (partsBetween x (occurrences x y 0 x.length 1) y.length)).length=x.length:=by rw [StrLaws.glued_between_self]
 rw [size_glued,length_partsBetween,Nat.add_sub_cancel] at hy;rw [size_glued,length_partsBetween,Nat.add_sub_cancel];have h2:(occurrences x y 0 x.length 1).length * z.length<=1 * z.length:=Nat.mul_le_mul_right _ h1;omega
section
variable {X:Cx}
def PEp (X:Cx) (e:Expr) (t:TE):Prop :=
 ∀ (pins:List (Addr × Obj)) (s:Shared) (σ:St) (H:Hp) (Q:VK),Inv X pins σ H s->0 < s.toks->t σ H Q->wpAny (model X.prog X.w) X.A (eval e X.env) (EP X pins σ Q) X.xe s
def PAp (X:Cx) (es:List Expr) (t:TA):Prop :=
 ∀ (pos:Pos) (pins:List (Addr × Obj)) (s:Shared) (σ:St) (H:Hp) (Q:List V->Hp->Prop),Inv X pins σ H s->0 < s.toks->t σ H Q->wpAny (model X.prog X.w) X.A (spliced (backTo pos (starEach es X.env))) (AP X pins σ Q) X.xe s
theorem ve3 {e:Expr} {es:List Expr} {te:TE} {t:TA} (ha:PEp X e te) (hr:PAp X es t) (hs:starEach (e::es) X.env=(false,eval e X.env)::starEach es X.env:=by rfl):PAp X (e::es) (uv2 te t):=by
 intro pos pins s σ H Q I h0 h;rw [hs]
 show wpAny _ _ (spliced ((false,eval e X.env)::backTo pos (starEach es X.env))) _ _ s
 refine Calls.spliced_cons (wpAny_mono (wpAny_toks (ha pins s σ H _ I h0 h)) ?_ fun _ _ x=>x.2);rintro u s1 ⟨t1,x,H1,I1,r1,q1⟩;refine thn (hr pos pins s1 σ H1 _ I1 (Nat.lt_of_lt_of_le h0 t1) q1) ?_;rintro us s2 ⟨xs,H2,I2,r2,q2⟩;exact ⟨x::xs,H2,I2,.cons r1 r2,q2⟩
end
end L2
namespace L3
open PySem PySem.Spec PyProof.Rows L2
section
variable {X:Cx} {e o:Expr} {es:List Expr} {te to:TE3} {ts:TA3}
def E3p (X:Cx) (e:Expr) (t:TE3):Prop:=PEp X e (lowE X.K t)
def A3p (X:Cx) (es:List Expr) (t:TA3):Prop:=PAp X es (lowA X.K t)
theorem wk4 (h:E3 X e te):E3p X e te:=fun pins s σ H Q I _ q=>h pins s σ H Q I q
theorem wg9 (h:A3 X es ts):A3p X es ts:=fun pos pins s σ H Q I _ q=>h pos pins s σ H Q I q
theorem uj1 (ha:E3p X e te) (hr:A3p X es ts) (hs:starEach (e::es) X.env=(false,eval e X.env)::starEach es X.env:=by rfl):A3p X (e::es) (ua8 te ts):=fun pos pins s σ H Q I h0 q=>ve3 ha hr hs pos pins s σ H Q I h0 (ui2 q)
end
end L3
namespace L3
open PySem PySem.Spec PyProof.Rows L2
def tl (w:Str):Str:=Txt.slice w (some 1) none
def hd1 (w:Str):Str:=Txt.slice w none (some 1)
theorem vk1 (w:Str):(tl w).cps.toList=w.cps.toList.drop 1:=by
 by_cases h:w.length=0
 ·have e:w.cps.toList=[]:=by rw [str_len] at h;exact List.length_eq_zero_iff.mp h
  have hl:=Txt.slice_le w (some 1) none;have:(tl w).cps.toList.length=0:=by rw [<- str_len];unfold tl;omega
  rw [List.length_eq_zero_iff.mp this,e];rfl
 ·unfold tl
  rw [slice_from_eq (b:=(w.length:Int)) (by decide) (by omega) rfl]
  show List.take _ (List.drop (1:Int).toNat w.cps.toList)=_
  apply List.take_of_length_le;rw [List.length_drop,<- str_len];omega
theorem w40 (w:Str):(tl w).length<=w.length:=Txt.slice_le w _ _
theorem vw3 {ws:List Str} {w:Str} (h:w ∈ ws):w.length<=(ws.map (·.length)).sum:=by
 induction ws with
 | nil=>cases h
 | cons v ws ih =>
  rw [List.map_cons,List.sum_cons]
  rcases List.mem_cons.mp h with e | h
  ·rw [e];omega
  ·have:=ih h;omega
theorem vh9 (c:Nat):decide (c ∈ ("0123456789" : Str).cps.toList)=decide (48<=c /\ c<=57):=by
 by_cases h:48<=c /\ c<=57
 ·rw [figures h,decide_eq_true h]
 ·rw [decide_eq_false h,decide_eq_false]
  intro m;have:(("0123456789" : Str).cps.toList.all fun c=>decide (48<=c /\ c<=57))=true:=by decide
  exact h (of_decide_eq_true (List.all_eq_true.mp this c m))
end L3
namespace L3
open PySem PySem.Spec PyProof.Rows L2
theorem vy7 (w:Str):(hd1 w).cps.toList=w.cps.toList.take 1:=by
 by_cases h:w.length=0
 ·have e:w.cps.toList=[]:=by rw [str_len] at h;exact List.length_eq_zero_iff.mp h
  have hl:=Txt.slice_le w none (some 1);have:(hd1 w).cps.toList.length=0:=by rw [<- str_len];unfold hd1;omega
  rw [List.length_eq_zero_iff.mp this,e];rfl
 ·unfold hd1
  rw [beq_iff_eq.mp (slice_closes_toL (x:=w) (j:=1) (by decide) (by omega))];rfl
theorem vq9 (c:Nat):((!decide ((⟨#[c]⟩:Str).cps.toList < ("0" : Str).cps.toList)) && !decide (("9" : Str).cps.toList < (⟨#[c]⟩:Str).cps.toList))=decide (48<=c /\ c<=57):=by
 have e0:("0" : Str).cps.toList=[48]:=by decide
 have e9:("9" : Str).cps.toList=[57]:=by decide
 have e:(⟨#[c]⟩:Str).cps.toList=[c]:=rfl;rw [e0,e9,e,Bool.eq_iff_iff];simp [List.cons_lt_cons_iff]
end L3
namespace L2
open PySem PySem.Spec PyProof.Rows Builtin Builtin.Str
section
variable {X:Cx}
def PE1 (X:Cx) (e:Expr) (t:TE):Prop :=
 ∀ (pins:List (Addr × Obj)) (s:Shared) (σ:St) (H:Hp) (Q:VK),Inv X pins σ H s->t σ H Q->wpAny (model X.prog X.w) X.A (eval e X.env) (fun v s'=>EP X pins σ Q v s' /\ 0 < s'.toks) X.xe s
def PSp (X:Cx) (st:Stmt) (t:TS):Prop :=
 ∀ (pins:List (Addr × Obj)) (s:Shared) (σ:St) (H:Hp) (D:Ends),Inv X pins σ H s->0 < s.toks->t D σ H->wpAny (model X.prog X.w) X.A (exec st X.env) (SP X pins D) X.xe s
def PSsp (X:Cx) (st:List Stmt) (t:TS):Prop :=
 ∀ (pins:List (Addr × Obj)) (s:Shared) (σ:St) (H:Hp) (D:Ends),Inv X pins σ H s->0 < s.toks->t D σ H->wpAny (model X.prog X.w) X.A (execs st X.env) (SP X pins D) X.xe s
def PS1 (X:Cx) (st:Stmt) (t:TS):Prop :=
 ∀ (pins:List (Addr × Obj)) (s:Shared) (σ:St) (H:Hp) (D:Ends),Inv X pins σ H s->t D σ H->wpAny (model X.prog X.w) X.A (exec st X.env) (fun f s'=>SP X pins D f s' /\ 0 < s'.toks) X.xe s
theorem w75 {a b:Expr} {x:Str} {j:_} {p pos:Pos} {tb:TE} {op:Operator} {r:R2} (ho:OpR X (binaryOp op) r) (hb:PE X b tb):PE1 X (.BinOp (.Constant (.str x) j p) op b pos) (tOp r (tC (.str x)) tb):=by
 intro pins s σ H Q I h;refine wpAny_BinOp (Calls.Constant_str ?_);refine wpAny_mono (wpAny_toks_of (n:=1) (Nat.succ_le_succ (Nat.zero_le _)) (hb pins _ σ H _ (I.tok _) h)) ?_ fun _ _ x=>x.2
 rintro u s2 ⟨t2,y,H2,I2,r2,q2⟩;exact wpAny_mono (wpAny_toks_of (n:=1) t2 (ho pins s2 σ H2 (.str x) y _ u Q I2 ⟨_,rfl⟩ r2 q2)) (fun v s' z=>⟨z.2,z.1⟩) fun _ _ x=>x.2
theorem w74 {a b:Expr} {ta tb:TE} {pos:Pos} {op:Operator} {r:R2} (ho:OpR X (binaryOp op) r) (ha:PE X a ta) (hb:PEp X b tb):PEp X (.BinOp a op b pos) (tOp r ta tb):=by
 intro pins s σ H Q I h0 h;refine wpAny_BinOp (wpAny_mono (wpAny_toks (ha pins s σ H _ I h)) ?_ fun _ _ x=>x.2);rintro v s1 ⟨t1,x,H1,I1,r1,q1⟩;refine thn (hb pins s1 σ H1 _ I1 (Nat.lt_of_lt_of_le h0 t1) q1) ?_;rintro u s2 ⟨y,H2,I2,r2,q2⟩;exact ho pins s2 σ H2 x y v u Q I2 r1 r2 q2
theorem vu8 {e:Expr} {es:List Expr} {te:TE} {t:TA} {pos:Pos} (ha:PE1 X e te) (hr:PAp X es t) (hs:starEach (e::es) X.env=(false,eval e X.env)::starEach es X.env:=by rfl):PE1 X (.List (e::es) pos) (tLst (uv2 te t)):=by
 intro pins s σ H Q I h;refine wpAny_List_spliced ?_;rw [hs]
 show wpAny _ _ (spliced ((false,eval e X.env)::backTo pos (starEach es X.env))) _ _ s
 refine Calls.spliced_cons (thn (ha pins s σ H _ I h) ?_);rintro u s1 ⟨⟨x,H1,I1,r1,q1⟩,t1⟩;refine wpAny_mono (wpAny_toks_of (n:=1) t1 (hr pos pins s1 σ H1 _ I1 t1 q1)) ?_ fun _ _ x=>x.2
 rintro us s2 ⟨t2,xs,H2,I2,r2,z,q⟩;have r:Vals (x::xs) (u::us):=.cons r1 r2;refine ⟨by rw [<- r.length];exact z,?_⟩;have hf:H2 s2.heap.objs.size=none:=I2.hok.fresh (Nat.le_refl _);refine ⟨⟨.ref s2.heap.objs.size,upd H2 s2.heap.objs.size (.lst (x::xs)),I2.laid (t':=s2.toks) (fun b u e=>Heap.get?_push_of_some _ e) (Nat.le_refl _) ?_,rfl,q _ hf⟩,t2⟩;exact ⟨z,_,0,r,Heap.get?_push_size _ rfl⟩
theorem vu7 {es:List Expr} {t:TA} {pos:Pos} (ha:PAp X es t):PEp X (.List es pos) (tLst t):=by
 intro pins s σ H Q I h0 hq;refine wpAny_List_spliced (thn (ha pos pins s σ H _ I h0 hq) fun us s1 ⟨xs,H1,I1,r,z,q⟩=>⟨by rw [<- r.length];exact z,?_⟩);have hf:H1 s1.heap.objs.size=none:=I1.hok.fresh (Nat.le_refl _);refine ⟨.ref s1.heap.objs.size,upd H1 s1.heap.objs.size (.lst xs),I1.laid (t':=s1.toks) (fun b u e=>Heap.get?_push_of_some _ e) (Nat.le_refl _) ?_,rfl,q _ hf⟩;exact ⟨z,us,0,r,Heap.get?_push_size _ rfl⟩
theorem vt7 {i:Nat} {x:Str} {e:Expr} {te:TE} {pos pos':Pos} (hN:X.N.Nodup) (hi:X.N[i]?=some x) (hx:Loc X.env.scope x) (he:PE1 X e te) (hs:swapsWith e (some (.Name x pos')) pos.line X.env=pure false) (hf:X.fn x=true \/ X.env.scope.names.lookup x=some .local) :
  PS1 X (.Assign [.Name x pos'] e pos) (tAsg te (ux0 i)):=by
 intro pins s σ H D I h;refine wpAny_Assign_Name (thn (he pins s σ H _ I h) ?_) hs;rintro v s1 ⟨⟨y,H1,I1,r1,q1⟩,t1⟩;exact wpAny_mono (wpAny_toks_of (n:=1) t1 (u76 I1 hN hi hx r1 (Q:=fun _ s2=>SP X pins D .next s2) (fun s2 I2=>⟨_,H1,I2,q1⟩) hf)) (fun _ s2 z=>⟨z.2,z.1⟩) fun _ _ x=>x.2
theorem vt5 {i:Nat} {x:Str} {e:Expr} {te:TE} {pos pos':Pos} (hN:X.N.Nodup) (hi:X.N[i]?=some x) (hx:Loc X.env.scope x) (he:PEp X e te) (hs:swapsWith e (some (.Name x pos')) pos.line X.env=pure false) (hf:X.fn x=true \/ X.env.scope.names.lookup x=some .local) :
  PSp X (.Assign [.Name x pos'] e pos) (tAsg te (ux0 i)):=by
 intro pins s σ H D I h0 h;refine wpAny_Assign_Name (thn (he pins s σ H _ I h0 h) ?_) hs;rintro v s1 ⟨y,H1,I1,r1,q1⟩;exact u76 I1 hN hi hx r1 (fun s2 I2=>⟨_,H1,I2,q1⟩) hf
theorem v08 {st:Stmt} {rest:List Stmt} {t u:TS} (h1:PS1 X st t) (h2:PSsp X rest u):PSs X (st::rest) (tSeq t u):=by
 intro pins s σ H D I h;refine wpAny_execs_cons (thn (h1 pins s σ H { D with nx:=u D } I h) fun f s1 q=>?_);obtain ⟨q,t1⟩:=q;cases f with
 | next=>obtain ⟨σ',H',I',q⟩:=q;exact h2 pins s1 σ' H' D I' t1 q
 | ret v=>exact q
 | brk=>exact q
 | cont=>exact q
theorem v06 {st:Stmt} {rest:List Stmt} {t u:TS} (h1:PSp X st t) (h2:PSsp X rest u):PSsp X (st::rest) (tSeq t u):=by
 intro pins s σ H D I h0 h;refine wpAny_execs_cons (wpAny_mono (wpAny_toks (h1 pins s σ H { D with nx:=u D } I h0 h)) ?_ fun _ _ x=>x.2);rintro f s1 ⟨t1,q⟩;cases f with
 | next=>obtain ⟨σ',H',I',q⟩:=q;exact h2 pins s1 σ' H' D I' (Nat.lt_of_lt_of_le h0 t1) q
 | ret v=>exact q
 | brk=>exact q
 | cont=>exact q
end
theorem us6 {z:Str} {c:Nat}:∀ (r:List Str) (acc:Array Nat),c ∈ (r.foldl (fun acc p=>acc++z.cps++p.cps) acc).toList->c ∈ acc.toList \/ c ∈ z.cps.toList \/ ∃ p ∈ r,c ∈ p.cps.toList
 | [],acc,h=>.inl h
 | p::r,acc,h=>by
  rcases us6 r (acc++z.cps++p.cps) h with h | h | ⟨q,hq,h⟩
  ·rw [Array.toList_append,Array.toList_append] at h
   rcases List.mem_append.mp h with h | h
   ·rcases List.mem_append.mp h with h | h
    ·exact .inl h
    ·exact .inr (.inl h)
   ·exact .inr (.inr ⟨p,List.mem_cons_self,h⟩)
  ·exact .inr (.inl h)
  ·exact .inr (.inr ⟨q,List.mem_cons_of_mem _ hq,h⟩)
theorem uk6 {x p:Str} {cuts:List Nat} {w c:Nat} (hp:p ∈ partsBetween x cuts w) (hc:c ∈ p.cps.toList):c ∈ x.cps.toList:=by
 unfold partsBetween at hp;obtain ⟨⟨i,j⟩,_,rfl⟩:=List.mem_map.mp hp;have hc:c ∈ (x.cps.extract i j).toList:=hc;rw [Array.toList_extract] at hc;exact List.mem_of_mem_drop (List.mem_of_mem_take hc)
theorem ur1 {x z:Str} {cuts:List Nat} {w c:Nat} (h:c ∈ (glued z (partsBetween x cuts w)).cps.toList):c ∈ x.cps.toList \/ c ∈ z.cps.toList:=by
 cases e:partsBetween x cuts w with
 | nil=>rw [e] at h;have h:c ∈ ([]:List Nat):=h;cases h
 | cons p r =>
  rw [e] at h;have h:c ∈ (r.foldl (fun acc p=>acc++z.cps++p.cps) p.cps).toList:=h
  rcases us6 r p.cps h with h | h | ⟨q,hq,h⟩
  ·exact .inl (uk6 (p:=p) (by rw [e];exact List.mem_cons_self) h)
  ·exact .inr h
  ·exact .inl (uk6 (p:=q) (by rw [e];exact List.mem_cons_of_mem _ hq) h)
theorem v03 {x y z:Str}:(glued z (partsBetween x (occurrences x y 0 x.length (x.length+1)) y.length)).length<=x.length+(x.length+1) * z.length:=by
 have h1:=StrLaws.occ_length_le x y 0 x.length (x.length+1);have hy:(glued y (partsBetween x (occurrences x y 0 x.length (x.length+1)) y.length)).length=x.length:=by rw [StrLaws.glued_between_self]
 rw [size_glued,length_partsBetween,Nat.add_sub_cancel] at hy;rw [size_glued,length_partsBetween,Nat.add_sub_cancel];have h2:(occurrences x y 0 x.length (x.length+1)).length * z.length<=(x.length+1) * z.length:=Nat.mul_le_mul_right _ h1;omega
section
variable {X:Cx}
def vq4 (z:Str) (to:TE):TE:=fun σ H Q=>to σ H fun x H1=>∃ w:Str,x=.str w /\ w.length+(w.length+1) * z.length<=16777216 /\ ∀ r:Str,r.length<=w.length+(w.length+1) * z.length->(∀ c ∈ r.cps.toList,c ∈ w.cps.toList \/ c ∈ z.cps.toList)->Q (.str r) H1
theorem vu4 {o:Expr} {to:TE} {y z:Str} {j1 j2 j3:_} {p1 p2 p3 apos cpos:Pos} (hyz:(y == z)=false) (ho:PE X o to)
  (hbase:attributeBase o "replace" X.env (eval o X.env)=eval o X.env)
  (hfew:((backTo cpos (starEach [.Constant (.str y) j1 p1,.Constant (.str z) j2 p2,.Constant (.int 1) j3 p3] X.env)).all (fun x=>!x.1) && (backToKw cpos (keywordEach [] X.env)).all (fun x=>x.1.isSome)
   && decide ((3:Nat)+([]:List Keyword).length+(if ([]:List Keyword).isEmpty then 0 else 1) < 30))=true)
  (hline:(apos.endLine == cpos.line)=true) :
  PEp X (.Call (.Attribute o "replace" apos) [.Constant (.str y) j1 p1,.Constant (.str z) j2 p2,.Constant (.int 1) j3 p3] [] cpos) (vq4 z to):=by
 intro pins s σ H Q I h0 h;refine wpAny_Call_method_late hbase hfew hline rfl (wpAny_mono (wpAny_toks (ho pins s σ H _ I h)) ?_ fun _ _ x=>x.2);rintro v s1 ⟨t1,x,H1,I1,r1,w,rfl,hb,q⟩;obtain ⟨h1,h2⟩:=uq6 (T := "str") I1 r1 rfl;obtain ⟨tw,rfl⟩:∃ tw,v=.str w tw:=r1;refine ⟨"str",_,PySem.F.plainAttrs_str,PySem.F.slot_str_replace,PySem.F.type_str_replace,h1,h2,?_⟩;refine Calls.callWith_builtin rfl (Calls.evalArgs_plain ?_)
 show wpAny _ _ (spliced ((false,eval (.Constant (.str y) j1 p1) X.env)::backTo cpos (starEach [.Constant (.str z) j2 p2,.Constant (.int 1) j3 p3] X.env))) _ _ s1
 refine Calls.spliced_cons (Calls.Constant_str ?_)
 show wpAny _ _ (spliced ((false,eval (.Constant (.str z) j2 p2) X.env)::backTo cpos (starEach [.Constant (.int 1) j3 p3] X.env))) _ _ _
 refine Calls.spliced_cons (Calls.Constant_str ?_)
 show wpAny _ _ (spliced ((false,eval (.Constant (.int 1) j3 p3) X.env)::backTo cpos (starEach [] X.env))) _ _ _
 refine Calls.spliced_cons (wpAny_Constant_int ?_);refine Calls.spliced_nil ?_;have n0:s1.toks ≠ 0:=Nat.ne_of_gt (Nat.lt_of_lt_of_le h0 t1);have h1:(occurrences w y 0 w.length 1).length<=1:=StrLaws.occ_length_le w y 0 w.length 1;have h2:(occurrences w y 0 w.length 1).length * z.length<=1 * z.length:=Nat.mul_le_mul_right _ h1;have h3:1 * z.length<=(w.length+1) * z.length:=Nat.mul_le_mul_right _ (by omega);refine call_gives F.slot_str_replace (typeIs_str _ _ _) F.entry_str_replace (F.args_str_replace_4 _ _ _ _) (uw8 w y z tw s1.toks (s1.toks+1) _ (by simp [n0]) (by simp) hyz (by unfold tooLong sizeLine;exact decide_eq_false (by omega))) ?_;have I2:=(I1.tok (s1.toks+1)).tok (s1.toks+1+1) |>.tok (s1.toks+1+1+1)
 cases hc:((occurrences w y 0 w.length 1).isEmpty || (y.length == 0 && z.length == 0))
 ·simp only [Bool.false_eq_true,if_false]
  have hlen:=vc8 (x:=w) (y:=y) (z:=z);exact ⟨by rw [sizeLine_eq];omega,.str _,H1,I2.tok _,⟨_,rfl⟩,q _ (by omega) fun c hc=>ur1 hc⟩
 ·simp only [if_true]
  exact ⟨.str w,H1,I2,⟨_,rfl⟩,q _ (by omega) fun c hc=>.inl hc⟩
theorem vu5 {o:Expr} {to:TE} {y z:Str} {j1 j2:_} {p1 p2 apos cpos:Pos} (hyz:(y == z)=false) (ho:PE X o to)
  (hbase:attributeBase o "replace" X.env (eval o X.env)=eval o X.env)
  (hfew:((backTo cpos (starEach [.Constant (.str y) j1 p1,.Constant (.str z) j2 p2] X.env)).all (fun x=>!x.1) && (backToKw cpos (keywordEach [] X.env)).all (fun x=>x.1.isSome)
   && decide ((2:Nat)+([]:List Keyword).length+(if ([]:List Keyword).isEmpty then 0 else 1) < 30))=true)
  (hline:(apos.endLine == cpos.line)=true) :
  PEp X (.Call (.Attribute o "replace" apos) [.Constant (.str y) j1 p1,.Constant (.str z) j2 p2] [] cpos) (vq4 z to):=by
 intro pins s σ H Q I h0 h;refine wpAny_Call_method_late hbase hfew hline rfl (wpAny_mono (wpAny_toks (ho pins s σ H _ I h)) ?_ fun _ _ x=>x.2);rintro v s1 ⟨t1,x,H1,I1,r1,w,rfl,hb,q⟩;obtain ⟨h1,h2⟩:=uq6 (T := "str") I1 r1 rfl;obtain ⟨tw,rfl⟩:∃ tw,v=.str w tw:=r1;refine ⟨"str",_,PySem.F.plainAttrs_str,PySem.F.slot_str_replace,PySem.F.type_str_replace,h1,h2,?_⟩;refine Calls.callWith_builtin rfl (Calls.evalArgs_plain ?_)
 show wpAny _ _ (spliced ((false,eval (.Constant (.str y) j1 p1) X.env)::backTo cpos (starEach [.Constant (.str z) j2 p2] X.env))) _ _ s1
 refine Calls.spliced_cons (Calls.Constant_str ?_)
 show wpAny _ _ (spliced ((false,eval (.Constant (.str z) j2 p2) X.env)::backTo cpos (starEach [] X.env))) _ _ _
 refine Calls.spliced_cons (Calls.Constant_str ?_);refine Calls.spliced_nil ?_;have n0:s1.toks ≠ 0:=Nat.ne_of_gt (Nat.lt_of_lt_of_le h0 t1);have h1:=StrLaws.occ_length_le w y 0 w.length (w.length+1);have h2:(occurrences w y 0 w.length (w.length+1)).length * z.length<=(w.length+1) * z.length:=Nat.mul_le_mul_right _ h1;refine call_gives F.slot_str_replace (typeIs_str _ _ _) F.entry_str_replace (F.args_str_replace_3 _ _ _) (gives_str_replace w y z tw s1.toks (s1.toks+1) fun _=>⟨by simp [n0],by simp,hyz,by unfold tooLong sizeLine;exact decide_eq_false (by omega)⟩) ?_;have I2:=(I1.tok (s1.toks+1)).tok (s1.toks+1+1);cases hc:((occurrences w y 0 w.length (w.length+1)).isEmpty || (y.length == 0 && z.length == 0))
 ·simp only [Bool.false_eq_true,if_false]
  have hlen:=v03 (x:=w) (y:=y) (z:=z);exact ⟨by rw [sizeLine_eq];omega,.str _,H1,I2.tok _,⟨_,rfl⟩,q _ hlen fun c hc=>ur1 hc⟩
 ·simp only [if_true]
  exact ⟨.str w,H1,I2,⟨_,rfl⟩,q _ (by omega) fun c hc=>.inl hc⟩
theorem vb0:(List.range 128).all (fun c=>decide ((Unicode.upperOf c).length=1) && (Unicode.upperOf c).all (fun d=>decide (d < 128) && (decide (d ≠ 10) || decide (c=10))))=true:=by decide
theorem vq0 (x:Str) (h:∀ c ∈ x.cps.toList,c < 128):(placed x fun _ c=>Unicode.upperOf c).toList=x.cps.toList.flatMap Unicode.upperOf:=by
 unfold placed;rw [Array.toList_flatten,Array.toList_mapIdx];rw [List.flatMap]
 congr 1
 apply List.ext_getElem?;intro i;simp;rfl
theorem ve5:MtR X "str.upper" (fun x vs H Q=>∃ s:Str,x=.str s /\ vs=[] /\ s.length<=1000000 /\ (∀ c ∈ s.cps.toList,c < 128) /\ ∀ r:Str,r.length=s.length->(∀ d ∈ r.cps.toList,d < 128 /\ (10 ∉ s.cps.toList->d ≠ 10))->Q (.str r) H):=by
 intro pins s σ H x vs v us Q I rx rv h;obtain ⟨y,rfl,rfl,hl,h1,q⟩:=h;obtain ⟨t,rfl⟩:=rx;cases rv;have es:=vq0 y h1;have al:∀ c ∈ y.cps.toList,(Unicode.upperOf c).length=1 /\ ∀ d ∈ Unicode.upperOf c,d < 128 /\ (d ≠ 10 \/ c=10):=fun c hc=>by
  have:=List.all_eq_true.mp vb0 c (List.mem_range.mpr (h1 c hc));rw [Bool.and_eq_true,decide_eq_true_eq,List.all_eq_true] at this;refine ⟨this.1,fun d hd=>?_⟩;have h:=this.2 d hd;rw [Bool.and_eq_true,Bool.or_eq_true,decide_eq_true_eq,decide_eq_true_eq,decide_eq_true_eq] at h;exact h
 have hn:(placed y fun _ c=>Unicode.upperOf c).size=y.length:=by
  rw [<- Array.length_toList,es,List.length_flatMap];have:∀ l:List Nat,(∀ c ∈ l,(Unicode.upperOf c).length=1)->(l.map fun c=>(Unicode.upperOf c).length).sum=l.length:=by
   intro l
   induction l with
   | nil=>intro _;rfl
   | cons c l ih=>intro h;rw [List.map_cons,List.sum_cons,h c List.mem_cons_self,ih fun x hx=>h x (List.mem_cons_of_mem _ hx),List.length_cons];omega
  rw [this _ fun c hc=>(al c hc).1];simp [Str.length]
 refine call_gives F.slot_str_upper (typeIs_str _ _ _) F.entry_str_upper (F.args_str_upper_1 _) (gives_str_upper y t (by rw [hn];unfold tooLong;exact decide_eq_false (Nat.not_lt.mpr (Nat.le_trans hl (by decide))))) ?_;refine ⟨by show (placed y fun _ c=>Unicode.upperOf c).size<=_;rw [hn];exact Nat.le_trans hl (by decide),.str _,H,I.tok _,⟨_,rfl⟩,q _ hn fun d hd=>?_⟩;have hd:d ∈ (placed y fun _ c=>Unicode.upperOf c).toList:=hd;rw [es] at hd;obtain ⟨c,hc,hd⟩:=List.mem_flatMap.mp hd;have:=(al c hc).2 d hd;exact ⟨this.1,fun z=>this.2.resolve_right fun e=>z (e ▸ hc)⟩
end
end L2
namespace L2
open PySem PySem.Spec PyProof.Rows
section
variable {X:Cx} {e lo st:Expr} {te:TE} {tl ts:TO} {pos p2:Pos}
def evn {α:Type}:List α->List α
 | []=>[]
 | [x]=>[x]
 | x::_::r=>x::evn r
theorem v69 {α:Type}:∀ (xs:List α) (i:Nat),(evn xs)[i]?=xs[2 * i]?
 | [],i=>by simp [evn]
 | [x],0=>rfl
 | [x],i+1=>by rw [evn,List.getElem?_eq_none (by simp),List.getElem?_eq_none (by simp;omega)]
 | x::y::r,0=>rfl
 | x::y::r,i+1=>by
  rw [evn,show 2 * (i+1)=2 * i+1+1 by omega,List.getElem?_cons_succ,List.getElem?_cons_succ,List.getElem?_cons_succ];exact v69 r i
theorem wf3 {n:Nat} {f:Nat->Option Value} (h:∀ k,k < n->∃ v,f k=some v) (i:Nat):((List.range n).filterMap f)[i]?=if i < n then f i else none:=by
 obtain ⟨g,hg⟩:∃ g:Nat->Value,∀ k,k < n->f k=some (g k):=⟨fun k=>(f k).getD .none,fun k hk=>by obtain ⟨v,hv⟩:=h k hk;show f k=some ((f k).getD .none);rw [hv];rfl⟩;have go:∀ l:List Nat,(∀ k ∈ l,k < n)->l.filterMap f=l.map g:=by
  intro l
  induction l with
  | nil=>intro _;rfl
  | cons k l ih=>intro hl;rw [List.filterMap_cons,hg k (hl k List.mem_cons_self),List.map_cons,ih fun z hz=>hl z (List.mem_cons_of_mem _ hz)]
 rw [go _ fun k hk=>List.mem_range.mp hk,List.getElem?_map]
 by_cases hi:i < n
 ·rw [List.getElem?_range hi,if_pos hi,hg i hi];rfl
 ·rw [List.getElem?_eq_none (by simpa using hi),if_neg hi];rfl
theorem vd5 (its:List Value) (n:Nat):slicePick its.toArray (some (n:Int)) none (some 2)=(evn (its.drop n)).toArray:=by
 unfold slicePick sliceBounds sliceRange;simp only [Option.getD_some,show ((2:Int) > 0) by decide,if_true,List.size_toArray]
 congr 1
 have hn0:¬ ((n:Int) < 0):=by omega
 rw [if_neg hn0,List.filterMap_map]
 by_cases hn:its.length<=n
 ·have e1:max (0:Int) (min (n:Int) (its.length:Int))=its.length:=by omega
  rw [e1,if_neg (by omega),List.drop_eq_nil_of_le hn];rfl
 ·have e1:max (0:Int) (min (n:Int) (its.length:Int))=n:=by omega
  rw [e1,if_pos (by omega)];have e2:(((its.length:Int) - (n:Int)+2 - 1) / 2).toNat=(its.length - n+1) / 2:=by omega
  rw [e2];apply List.ext_getElem?;intro i;have ix:∀ k:Nat,((n:Int)+2 * (k:Int)).toNat=n+2 * k:=fun k=>by omega
  rw [v69,List.getElem?_drop,wf3]
  ·by_cases hi:i < (its.length - n+1) / 2
   ·rw [if_pos hi]
    show its.toArray[((n:Int)+2 * (i:Int)).toNat]?=_
    rw [ix];simp
   ·rw [if_neg hi,List.getElem?_eq_none (by omega)]
  ·intro k hk
   show ∃ v,its.toArray[((n:Int)+2 * (k:Int)).toNat]?=some v
   rw [ix];exact ⟨its[n+2 * k]'(by omega),by simp⟩
theorem vz1 {xs:List V} {its:List Value} (r:Vals xs its) (n:Nat):Vals (evn (xs.drop n)) (evn (its.drop n)):=by
 have key:∀ (m:Nat) {ys:List V} {us:List Value},ys.length<=m->Vals ys us->Vals (evn ys) (evn us):=by
  intro m
  induction m with
  | zero =>
   intro ys us h r;cases r with
   | nil=>exact .nil
   | cons=>simp at h
  | succ m ih =>
   intro ys us h r;cases r with
   | nil=>exact .nil
   | cons a r =>
    cases r with
    | nil=>exact .cons a .nil
    | cons b r=>exact .cons a (ih (by simp only [List.length_cons] at h;omega) r)
 exact key _ (Nat.le_refl _) (r.drop n)
theorem v68 {α:Type}:∀ xs:List α,(evn xs).length<=xs.length
 | []=>Nat.le_refl _
 | [x]=>Nat.le_refl _
 | x::y::r=>by rw [evn,List.length_cons,List.length_cons,List.length_cons];have:=v68 r;omega
def w42 (K:W.Frag) (te:TE) (tl ts:TO):TE:=fun σ H Q=>te σ H fun x H1=>tl σ H1 fun l H2=>ts σ H2 fun k H3=>k=some 2 /\ ∃ (n:Nat) (a:Addr) (xs:List V),l=some (n:Int) /\ x=.ref a /\ SqL K H3 a xs /\ ∀ p,H3 p=none->Q (.ref p) (upd H3 p (.lst (evn (xs.drop n))))
theorem vu3 (he:PE X e te) (hl:PO X (some lo) tl) (hs:PO X (some st) ts):PE X (.Subscript e (.Slice (some lo) none (some st) p2) pos) (w42 X.K te tl ts):=by
 intro pins s σ H Q I h;refine Subscript_ (thn (he pins s σ H _ I h) fun v s1 ⟨x,H1,I1,r1,q1⟩=>?_);refine wpAny_Slice ?_;refine thn (hl pins s1 σ H1 _ I1 q1) fun vl s2 ⟨l,H2,I2,pl,q2⟩=>?_
 rw [evalPart_none];refine wpAny_pure (thn (hs pins s2 σ H2 _ I2 q2) fun vs s3 ⟨k,H3,I3,pk,q3⟩=>?_);obtain ⟨rfl,n,a,xs,rfl,rfl,hx,q⟩:=q3;cases r1;have I4:Inv X pins σ H3 { s3 with heap:=s3.heap.push { cls:=.type "slice",data:=.fields #[vl,.none,vs] } }:=I3.kept (t':=s3.toks) fun b ob q=>Heap.get?_push_of_some _ q
 obtain ⟨its,r,ht,hz⟩:=I4.list hx;have hlen:=r.length
 show wpAny (model X.prog X.w) X.A (subscriptTail e (.Slice (some lo) none (some st) p2) (.ref a) (.ref s3.heap.objs.size)) (EP X pins σ Q) X.xe { s3 with heap:=s3.heap.push { cls:=.type "slice",data:=.fields #[vl,.none,vs] } }
 refine tail_any (ops:=[.ref a,.ref s3.heap.objs.size]) ht.isList.typeIs slot_list_getitem.lookup ?_ (by with_unfolding_all rfl);refine wpAny_getItem_list_slice ht.isList (Heap.IsSliceOf.new ..) pl .none pk (by decide) ?_ (by rw [List.size_toArray] <;> omega);rw [vd5];refine ⟨.ref _,_,I4.laid (t':=s3.toks) (o:=.lst (evn (xs.drop n))) (fun b ob q=>Heap.get?_push_of_some _ q) (Nat.le_refl _) ?_,rfl,q _ (I4.hok.fresh (Nat.le_refl _))⟩;exact ⟨Nat.le_trans (v68 _) (by rw [List.length_drop];omega),_,0,vz1 r n,Heap.get?_push_size _ rfl⟩
def isNn:Value->Bool
 | .none=>true
 | _=>false
theorem vm4:∀ {xs:List V} {its:List Value},Vals xs its->(∀ z ∈ xs,z=.non \/ ∃ a,z=.ref a)->its.any isNn=xs.any fun z=>decide (z=.non)
 | [],_,r,_=>by cases r;rfl
 | x::xs,_,r,h=>by
  cases r with
  | cons a r =>
   rw [List.any_cons,List.any_cons,vm4 r fun z hz=>h z (List.mem_cons_of_mem _ hz)]
   rcases h x List.mem_cons_self with rfl | ⟨b,rfl⟩
   ·cases a;rfl
   ·cases a;rfl
theorem vv5 {k:Nat} (hr:Room k X.A):OpR X (compareOp .In) (fun x y H Q=>∃ p xs,x=.non /\ y=.ref p /\ SqL X.K H p xs /\ (∀ z ∈ xs,z=.non \/ ∃ a ys,z=.ref a /\ SqT X.K H a ys) /\ Q (.bl (xs.any fun z=>decide (z=.non))) H):=by
 intro pins s σ H x y v u Q I rx ry h;obtain ⟨p,xs,rfl,rfl,hq,ht,q⟩:=h;cases rx;cases ry;obtain ⟨its,r,pl,hz⟩:=I.list hq;have hu:=hr.units;refine SeqAt.in_listAt isNn pl.isList (fun w hw=>?_) ⟨.bl (xs.any fun z=>decide (z=.non)),H,I,?_,q⟩
 ·have hw:w ∈ its:=by simpa using hw
  obtain ⟨z,hz,rz⟩:∃ z ∈ xs,RelV z w:=by
   obtain ⟨i,hi⟩:=List.getElem?_of_mem hw;have hl:=r.length;have hil:=(List.getElem?_eq_some_iff.mp hi).1;have hx:xs[i]?=some (xs[i]'(by omega)):=List.getElem?_eq_getElem _;obtain ⟨u,h1,h2⟩:=r.get hx;rw [hi] at h1;cases h1;exact ⟨_,List.getElem_mem _,h2⟩
  rcases ht z hz with rfl | ⟨a,ys,rfl,sq⟩
  ·cases rz
   exact SeqAt.EqAt.same _
  ·cases rz
   obtain ⟨its2,_,tp,_⟩:=I.tuple sq;exact SeqAt.EqAt.tuple_none tp (by show X.A.units+1 < cLine;omega)
 ·show Value.bool _=Value.bool _
  rw [List.any_toArray,vm4 r fun z hz=>(ht z hz).imp id fun ⟨a,_,e,_⟩=>⟨a,e⟩]
end
end L2
namespace L3
open PySem PySem.Spec PyProof.Rows L2
section
variable {X:Cx} {K:W.Frag} {H:Hp} {e o b lo:Expr} {es:List Expr} {te to tb:TE3} {ts:TA3} {pos p2 p3 apos cpos:Pos} {st:Stmt} {sts:List Stmt} {s1 s2:TS3}
def E31 (X:Cx) (e:Expr) (t:TE3):Prop:=PE1 X e (lowE X.K t)
def S31 (X:Cx) (st:Stmt) (t:TS3):Prop:=PS1 X st (lowS X.K t)
def S3p (X:Cx) (st:Stmt) (t:TS3):Prop:=PSp X st (lowS X.K t)
def Ss3p (X:Cx) (st:List Stmt) (t:TS3):Prop:=PSsp X st (lowS X.K t)
theorem wg1 {x:Str} {j:_} {p:Pos} {op:Operator} {r:R3} (ho:Op3 X (binaryOp op) r) (hb:E3 X b tb):E31 X (.BinOp (.Constant (.str x) j p) op b pos) (dOp r (dC (.str x)) tb) :=
 fun pins s σ H Q I h=>w75 (a:=.Constant (.str x) j p) ho hb pins s σ H Q I (uo6 (d:=.str x) (v:=.str x) (fun _=>by rw [RelD]) (ug0 h))
theorem wg0 {op:Operator} {r:R3} (ho:Op3 X (binaryOp op) r) (ha:E3 X e te) (hb:E3p X b tb):E3p X (.BinOp e op b pos) (dOp r te tb) :=
 fun pins s σ H Q I h0 h=>w74 ho ha hb pins s σ H Q I h0 (ug0 h)
theorem wf8 (ha:E31 X e te) (hr:A3p X es ts) (hs:starEach (e::es) X.env=(false,eval e X.env)::starEach es X.env:=by rfl):E31 X (.List (e::es) pos) (dLst (ua8 te ts)) :=
 fun pins s σ H Q I h=>vu8 ha hr hs pins s σ H Q I (by
  have h2:=uo5 h;exact ui2 h2)
theorem wf7 (ha:A3p X es ts):E3p X (.List es pos) (dLst ts):=fun pins s σ H Q I h0 h=>vu7 ha pins s σ H Q I h0 (uo5 h)
theorem v36 {i:Nat} {te:TE3} {D:Ends} {σ:L2.St} {H:Hp} (h:lowS K (dAsg te (ub3 i)) D σ H):tAsg (lowE K te) (ux0 i) D σ H:=by
 obtain ⟨σd,G,q,rs,c,t,f⟩:=h;exact ⟨σd,G,_,rs,c,t,fun x G1 v H1 r1 c1 l1 t1=>f.nx _ _ _ _ ((rs.le l1).set i r1) c1 l1 t1⟩
theorem w53 (i:Nat) {x:Str} {pos':Pos} (hN:X.N.Nodup) (he:E31 X e te) (hi:X.N[i]?=some x:=by rfl) (hx:Loc X.env.scope x:=by first | exact Or.inl rfl | exact Or.inr rfl) (hs:swapsWith e (some (.Name x pos')) pos.line X.env=pure false:=by rfl)
  (hf:X.fn x=true \/ X.env.scope.names.lookup x=some .local:=by first | exact .inl rfl | exact .inr rfl | assumption):S31 X (.Assign [.Name x pos'] e pos) (dAsg te (ub3 i)) :=
 fun pins s σ H D I h=>vt7 hN hi hx he hs hf pins s σ H D I (v36 h)
theorem w52 (i:Nat) {x:Str} {pos':Pos} (hN:X.N.Nodup) (he:E3p X e te) (hi:X.N[i]?=some x:=by rfl) (hx:Loc X.env.scope x:=by first | exact Or.inl rfl | exact Or.inr rfl) (hs:swapsWith e (some (.Name x pos')) pos.line X.env=pure false:=by rfl)
  (hf:X.fn x=true \/ X.env.scope.names.lookup x=some .local:=by first | exact .inl rfl | exact .inr rfl | assumption):S3p X (.Assign [.Name x pos'] e pos) (dAsg te (ub3 i)) :=
 fun pins s σ H D I h0 h=>vt5 hN hi hx he hs hf pins s σ H D I h0 (v36 h)
theorem vb4 (h1:S31 X st s1) (h2:Ss3p X sts s2):Ss3 X (st::sts) (dSeq s1 s2):=fun pins s σ H D I h=>v08 h1 h2 pins s σ H D I (uo4 h)
theorem uq7 (h1:S3p X st s1) (h2:Ss3p X sts s2):Ss3p X (st::sts) (dSeq s1 s2):=fun pins s σ H D I h0 h=>v06 h1 h2 pins s σ H D I h0 (uo4 h)
theorem w49 (h:Ss3 X sts s1):Ss3p X sts s1:=fun pins s σ H D I _ q=>h pins s σ H D I q
theorem wi5 (h:S3 X st s1):S3p X st s1:=fun pins s σ H D I _ q=>h pins s σ H D I q
def v80 (z:Str) (to:TE3):TE3:=fun σ G q=>to σ G fun x G1=>∃ w:Str,x=.str w /\ w.length+(w.length+1) * z.length<=16777216 /\ ∀ r:Str,r.length<=w.length+(w.length+1) * z.length->(∀ c ∈ r.cps.toList,c ∈ w.cps.toList \/ c ∈ z.cps.toList)->q (.str r) G1
theorem us1 {z:Str} {σ:L2.St} {H:Hp} {Q:VK} (h:lowE K (v80 z to) σ H Q):vq4 z (lowE K to) σ H Q:=by
 obtain ⟨σd,G,q,rs,c,t,f⟩:=h;refine ⟨σd,G,_,rs,c,t,fun x G1 v H1 r1 c1 l1 t1=>?_⟩;obtain ⟨w,rfl,hb,t2⟩:=t1;cases r1.str_inv;exact ⟨w,rfl,hb,fun r hr hc=>f _ _ _ _ RelD.strI c1 l1 (t2 r hr hc)⟩
theorem vo1 {y z:Str} {j1 j2 j3:_} {p1 p4 p5:Pos} (hyz:(y == z)=false) (ho:E3 X o to)
  (hbase:attributeBase o "replace" X.env (eval o X.env)=eval o X.env:=by rfl)
  (hfew:((backTo cpos (starEach [.Constant (.str y) j1 p1,.Constant (.str z) j2 p4,.Constant (.int 1) j3 p5] X.env)).all (fun x=>!x.1) && (backToKw cpos (keywordEach [] X.env)).all (fun x=>x.1.isSome)
   && decide ((3:Nat)+([]:List Keyword).length+(if ([]:List Keyword).isEmpty then 0 else 1) < 30))=true:=by rfl)
  (hline:(apos.endLine == cpos.line)=true:=by rfl) :
  E3p X (.Call (.Attribute o "replace" apos) [.Constant (.str y) j1 p1,.Constant (.str z) j2 p4,.Constant (.int 1) j3 p5] [] cpos) (v80 z to):=fun pins s σ H Q I h0 h=>vu4 hyz ho hbase hfew hline pins s σ H Q I h0 (us1 h)
theorem wf5 {y z:Str} {j1 j2:_} {p1 p4:Pos} (hyz:(y == z)=false) (ho:E3 X o to)
  (hbase:attributeBase o "replace" X.env (eval o X.env)=eval o X.env:=by rfl)
  (hfew:((backTo cpos (starEach [.Constant (.str y) j1 p1,.Constant (.str z) j2 p4] X.env)).all (fun x=>!x.1) && (backToKw cpos (keywordEach [] X.env)).all (fun x=>x.1.isSome)
   && decide ((2:Nat)+([]:List Keyword).length+(if ([]:List Keyword).isEmpty then 0 else 1) < 30))=true:=by rfl)
  (hline:(apos.endLine == cpos.line)=true:=by rfl) :
  E3p X (.Call (.Attribute o "replace" apos) [.Constant (.str y) j1 p1,.Constant (.str z) j2 p4] [] cpos) (v80 z to):=fun pins s σ H Q I h0 h=>vu5 hyz ho hbase hfew hline pins s σ H Q I h0 (us1 h)
@[reducible] def vm6:M3:=fun x ds G q=>∃ s:Str,x=.str s /\ ds=[] /\ s.length<=1000000 /\ (∀ c ∈ s.cps.toList,c < 128) /\ ∀ r:Str,r.length=s.length->(∀ d ∈ r.cps.toList,d < 128 /\ (10 ∉ s.cps.toList->d ≠ 10))->q (.str r) G
theorem vh6 (ho:E3 X o to) (hbase:attributeBase o "upper" X.env (eval o X.env)=eval o X.env:=by rfl) (hline:(apos.endLine == cpos.line)=true:=by rfl):E3 X (.Call (.Attribute o "upper" apos) [] [] cpos) (dBM0 "str" vm6 to) :=
 u34 (w81 PySem.F.plainAttrs_str PySem.F.slot_str_upper PySem.F.type_str_upper (uf3 (r':=lowM X.K vm6) ve5 <| by
  rintro x xs H Q ⟨d,ds,G,q,r1,r2,c,⟨s,rfl,rfl,hl,h1,t⟩,f⟩;cases r2.inv_nil;exact ⟨s,r1.str_inv,rfl,hl,h1,fun r h2 h3=>f _ _ _ _ (by rw [RelD]) c (Le.refl H) (t r h2 h3)⟩) ho hbase hline) fun _ _ _=>vx3 (ty_str _)
def vi0 (n:Nat) (te:TE3):TE3:=fun σ G q=>te σ G fun x G1=>∃ (a:Addr) (ds:List D),x=.ref a /\ u16 (G1 a)=some ds /\ ∀ p,G1 p=none->q (.ref p) (gup G1 p (.lst (evn (ds.drop n))))
theorem vh3 {ds:List D} {xs:List V} (r:RelDs K H ds xs):RelDs K H (evn ds) (evn xs):=by
 have key:∀ (m:Nat) {ds:List D} {xs:List V},ds.length<=m->RelDs K H ds xs->RelDs K H (evn ds) (evn xs):=by
  intro m
  induction m with
  | zero =>
   intro ds xs h r;cases ds with
   | nil=>rw [r.inv_nil];exact .nil
   | cons=>simp at h
  | succ m ih =>
   intro ds xs h r;cases ds with
   | nil=>rw [r.inv_nil];exact .nil
   | cons d ds =>
    obtain ⟨x,r',rfl,h1,r⟩:=r.inv_cons;cases ds with
    | nil=>rw [r.inv_nil];exact .cons h1 .nil
    | cons d2 ds =>
     obtain ⟨x2,r2,rfl,h2,r⟩:=r.inv_cons;exact .cons h1 (ih (by simp only [List.length_cons] at h;omega) r)
 exact key _ (Nat.le_refl _) r
theorem ve8 {n:Nat} {σ:L2.St} {Q:VK} (h:lowE K (vi0 n te) σ H Q):w42 K (lowE K te) (lowO K (ux1 (dC (.int (n:Int))))) (lowO K (ux1 (dC (.int 2)))) σ H Q:=by
 obtain ⟨σd,G,q,rs,c,t,f⟩:=h;refine ⟨σd,G,_,rs,c,t,fun x G1 v H1 r1 c1 l1 t1=>⟨σd,G1,fun o G2=>o=some (n:Int) /\ G2=G1,rs.le l1,c1,⟨rfl,rfl⟩,fun o G2 H2 c2 l2 e2=>?_⟩⟩;obtain ⟨rfl,rfl⟩:=e2;refine ⟨σd,G2,fun o G3=>o=some 2 /\ G3=G2,rs.le (l1.trans l2),c2,⟨rfl,rfl⟩,fun o G3 H3 c3 l3 e3=>?_⟩;obtain ⟨rfl,rfl⟩:=e3;obtain ⟨a,ds,rfl,hs,t1⟩:=t1;obtain ⟨xs,s1,q1⟩:=u19 c3 hs;exact ⟨rfl,n,a,xs,rfl,r1.ref_inv,s1,fun p hp=>f _ _ _ _ RelD.refI (c3.lstNew hp (vh3 (q1.drop n))) (((l1.trans l2).trans l3).trans (Le.fresh hp)) (t1 p (c3.fresh hp))⟩
theorem vo0 {n j k:Nat} {p4:Pos} (he:E3 X e te):E3 X (.Subscript e (.Slice (some (.Constant (.int (n:Int)) j p3)) none (some (.Constant (.int 2) k p4)) p2) pos) (vi0 n te) :=
 u34 (vu3 he (u35 u04) (u35 u04)) fun _ _ _=>ve8
def nnD:D->Bool
 | .non=>true
 | _=>false
@[reducible] def wi0:R3:=fun x y G q=>∃ (a:Addr) (ds:List D),x=.non /\ y=.ref a /\ u16 (G a)=some ds /\ (∀ d ∈ ds,d=.non \/ ∃ es,d=.tup es) /\ q (.bl (ds.any nnD)) G
theorem vm3:∀ {ds:List D} {xs:List V},RelDs K H ds xs->(∀ d ∈ ds,d=.non \/ ∃ es,d=.tup es)->(xs.any fun z=>decide (z=V.non))=ds.any nnD
 | [],xs,r,_=>by rw [r.inv_nil];rfl
 | d::ds,xs,r,h=>by
  obtain ⟨x,r',rfl,h1,r⟩:=r.inv_cons;rw [List.any_cons,List.any_cons,vm3 r fun z hz=>h z (List.mem_cons_of_mem _ hz)]
  rcases h d List.mem_cons_self with rfl | ⟨es,rfl⟩
  ·rw [h1.non_inv];rfl
  ·obtain ⟨a',xs',rfl,_,_⟩:=h1.tup_inv;rfl
theorem w29 {k:Nat} (hr:Room k X.A):Op3 X (compareOp .In) wi0:=u47 (vv5 hr) fun x y H Q ⟨d,e,G,q,r1,r2,c,t,f⟩=>by
 obtain ⟨a,ds,rfl,rfl,es,hd,t⟩:=t;obtain ⟨vs,s1,q1⟩:=u19 c es;refine ⟨a,vs,r1.non_inv,r2.ref_inv,s1,fun z hz=>?_,by rw [vm3 q1 hd];exact f _ _ _ _ RelD.blI c (Le.refl H) t⟩;obtain ⟨i,hi⟩:=List.getElem?_of_mem hz;obtain ⟨d,h1,h2⟩:=q1.at_ hi
 rcases hd d (List.mem_of_getElem? h1) with rfl | ⟨es',rfl⟩
 ·exact .inl h2.non_inv
 ·obtain ⟨a',xs,rfl,s2,_⟩:=h2.tup_inv
  exact .inr ⟨a',xs,rfl,s2⟩
end
end L3
namespace L2
open PySem PySem.Spec PyProof.Rows
section
variable {X:Cx}
theorem vv4:OpR X (binaryOp .Mult) (fun x y H Q=>x=.str "1" /\ y=.int 11 /\ ∀ r:Str,r.length<=11->10 ∉ r.cps.toList->Q (.str r) H):=by
 intro pins s σ H x y v u Q I rx ry h;obtain ⟨rfl,rfl,q⟩:=h;obtain ⟨t,rfl⟩:=rx;obtain ⟨t2,rfl⟩:=ry;refine PySem.P.mul_str (by decide) (fun _ _=>by decide) (fun _ _=>by decide) ?_;rw [if_neg (by decide),if_neg (by decide)];exact ⟨by decide,.str _,H,I.tok _,⟨_,rfl⟩,q _ (by decide) (by decide)⟩
end
end L2
namespace L3
open PySem PySem.Spec PyProof.Rows L2
section
variable {X:Cx}
@[reducible] def wh7:R3:=fun x y G q=>x=.str "1" /\ y=.int 11 /\ ∀ r:Str,r.length<=11->10 ∉ r.cps.toList->q (.str r) G
theorem w27:Op3 X (binaryOp .Mult) wh7:=u47 vv4 fun x y H Q ⟨d,e,G,q,r1,r2,c,t,f⟩=>by
 obtain ⟨rfl,rfl,t⟩:=t;exact ⟨r1.str_inv,r2.int_inv,fun r h1 h2=>f _ _ _ _ RelD.strI c (Le.refl _) (t r h1 h2)⟩
end
end L3
namespace Rw
open PySem PySem.Spec PyProof.Rows L2 L3
def dvl (cs:List Nat):Nat:=cs.foldl (fun v c=>10 * v+(c - 48)) 0
theorem vh8 (l:List Nat) (c:Nat):dvl (l++[c])=10 * dvl l+(c - 48):=by unfold dvl;rw [List.foldl_append];rfl
theorem v75:∀ (l:List Nat) (v:Nat),0 < v->0 < l.foldl (fun v c=>10 * v+(c - 48)) v
 | [],_,h=>h
 | c::l,v,h=>v75 l (10 * v+(c - 48)) (by omega)
theorem ut2:∀ d:Nat,d < 10->[Nat.digitChar d].map Char.toNat=[48+d]:=by decide
theorem ut3:∀ (n:Nat) (cs:List Nat),cs.length=n+1->(∀ c ∈ cs,48<=c /\ c<=57)->(cs.length=1 \/ cs.head? ≠ some 48)->(Nat.toDigits 10 (dvl cs)).map Char.toNat=cs
 | 0,cs,hn,hd,_=>by
  match cs,hn with
  | [c],_ =>
   have:=hd c List.mem_cons_self;have e:dvl [c]=c - 48:=by show 10 * 0+(c - 48)=_;omega
   rw [e,Nat.toDigits_of_lt_base (by omega),ut2 _ (by omega),show 48+(c - 48)=c by omega]
 | n+1,cs,hn,hd,h4=>by
  obtain ⟨l,c,rfl⟩:∃ l c,cs=l++[c]:=⟨cs.dropLast,cs.getLast (by intro z;rw [z] at hn;cases hn),(List.dropLast_concat_getLast _).symm⟩;rw [List.length_append,List.length_singleton] at hn;have hc:=hd c (by simp);have hl:l.length=n+1:=by omega
  have hh:l.head? ≠ some 48:=by
   rcases h4 with z | z
   ·rw [List.length_append,List.length_singleton] at z;omega
   ·cases l with
    | nil=>cases hl
    | cons a l=>exact z
  have ih:=ut3 n l hl (fun x hx=>hd x (List.mem_append_left _ hx)) (.inr hh);have hp:0 < dvl l:=by
   cases l with
   | nil=>cases hl
   | cons a l =>
    have ha:=hd a (by simp);refine v75 l (10 * 0+(a - 48)) ?_;have:a ≠ 48:=fun z=>hh (by rw [z];rfl)
    omega
  rw [vh8,<- Nat.toDigits_append_toDigits (by decide) hp (show c - 48 < 10 by omega),List.map_append,ih,Nat.toDigits_of_lt_base (by omega),ut2 _ (by omega),show 48+(c - 48)=c by omega]
def isK (m:Nat) (w:Str):Prop:=∃ k:Nat,k<=m /\ w=numI (k:Int)
theorem ua5 {m:Nat} {w:Str} (h:isK m w):1<=w.length /\ (∀ c ∈ w.cps.toList,48<=c /\ c<=57) /\ (w.length=1 \/ w.cps.toList.head? ≠ some 48):=by
 obtain ⟨k,_,rfl⟩:=h;obtain ⟨c,r,e,z⟩:=v24 k;refine ⟨vv9 k,fun c hc=>ug4 hc,?_⟩
 by_cases h0:c=48
 ·exact .inl (z h0)
 ·exact .inr (by rw [e];intro y;cases y;exact h0 rfl)
theorem v76 {w:Str} (h1:1<=w.length) (h3:∀ c ∈ w.cps.toList,48<=c /\ c<=57) (h4:w.length=1 \/ w.cps.toList.head? ≠ some 48):w=numI ((dvl w.cps.toList:Nat):Int):=by
 rw [str_len] at h1 h4;apply u43;rw [u78,ut3 (w.cps.toList.length - 1) _ (by omega) h3 h4]
theorem v52 {m:Nat} {w:Str} (h:isK m w):w.length<=(numI (m:Int)).length:=by
 obtain ⟨k,hk,rfl⟩:=h;exact vm1 hk
theorem u29 {k j:Nat} (e:numI (k:Int)=numI (j:Int)):k=j:=by
 have h1:=u78 k;rw [e,u78 j] at h1;have h2:(Nat.toDigits 10 j)=(Nat.toDigits 10 k):=List.map_inj_right (fun a b z=>Char.ext (UInt32.toNat_inj.mp z)) |>.mp h1
 have:=congrArg (Nat.ofDigitChars 10 · 0) h2;simpa using this.symm
def isB (w:Str):Prop:=∃ k:Nat,k<=9999999999 /\ w=bw k
def isO (w:Str):Prop:=∃ o,opK o /\ w=opS o
def isR (ws:List Str):Prop:=∃ r,rK r /\ ws=rwS r
def isZ (ws:List Str):Prop:=∃ sz:Nat,sz<=9999999999 /\ ws=[("size" : Str),numI (sz:Int)]
theorem isO_iff {w:Str}:isO w ↔ isB w \/ isK 4294967295 w:=by
 constructor
 ·rintro ⟨o,ho,rfl⟩
  cases o with
  | box y=>exact .inl ⟨y,ho,rfl⟩
  | num n =>
   obtain ⟨k,rfl⟩:=ud1 ho.1;exact .inr ⟨k,by have:=ho.2;omega,rfl⟩
 ·rintro (⟨k,hk,rfl⟩ | ⟨k,hk,rfl⟩)
  ·exact ⟨.box k,hk,rfl⟩
  ·exact ⟨.num (k:Int),⟨by omega,by omega⟩,rfl⟩
theorem v54 {n:Int} {m:Nat} (h0:0<=n) (h:n<=m):isK m (numI n):=by
 obtain ⟨k,rfl⟩:=ud1 h0;exact ⟨k,by omega,rfl⟩
inductive RW:Str->List Str->Prop
 | add {a b}:isK 9999999999 a->isO b->RW "add" [a,b]
 | take {a b}:isK 9999999999 a->isO b->RW "take" [a,b]
 | swap {a b}:isK 9999999999 a->isK 9999999999 b->RW "swap" [a,b]
 | go {a b c}:isK 9999999999 a->isK 4294967295 b->isK 9999999999 c->RW "go" [a,b,c]
 | come {a b c}:isK 9999999999 a->isK 4294967295 b->isK 9999999999 c->RW "come" [a,b,c]
 | t0 {a b}:isK 9999999999 a->isK 31 b->RW "turn" [a,b]
 | t1 {a b c d}:isK 9999999999 a->isK 31 b->isB c->isK 31 d->RW "turn" [a,b,c,d]
 | t2 {a b c d e f}:isK 9999999999 a->isK 31 b->isB c->isK 31 d->isB e->isK 31 f->RW "turn" [a,b,c,d,e,f]
theorem vn2 {w:Str} {us:List Str} (h:isR (w::us)):RW w us:=by
 obtain ⟨r,hr,e⟩:=h;have kk:∀ {x m:Nat},x<=m->isK m (numI (x:Int)):=fun {x m} h=>⟨x,h,rfl⟩
 cases r with
 | add x o=>injection e with e1 e2;rw [e1,e2];exact .add (kk hr.1) ⟨o,hr.2,rfl⟩
 | take x o=>injection e with e1 e2;rw [e1,e2];exact .take (kk hr.1) ⟨o,hr.2,rfl⟩
 | swap x y=>injection e with e1 e2;rw [e1,e2];exact .swap (kk hr.1) (kk hr.2)
 | go x n k=>injection e with e1 e2;rw [e1,e2];exact .go (kk hr.1) (v54 hr.2.1.1 (by have:=hr.2.1.2;omega)) (kk hr.2.2)
 | come x n k=>injection e with e1 e2;rw [e1,e2];exact .come (kk hr.1) (v54 hr.2.1.1 (by have:=hr.2.1.2;omega)) (kk hr.2.2)
 | turn x i cs =>
  injection e with e1 e2
  rw [e1,e2];have hi:isK 31 (numI (i:Int)):=kk (by have:=hr.2.1;omega)
  match cs,hr.2.2.1,hr.2.2.2 with
  | [],_,_=>exact .t0 (kk hr.1) hi
  | [c],_,h=>exact .t1 (kk hr.1) hi ⟨c.1,(h c (by simp)).1,rfl⟩ (kk (by have:=(h c (by simp)).2;omega))
  | [c,d],_,h=>exact .t2 (kk hr.1) hi ⟨c.1,(h c (by simp)).1,rfl⟩ (kk (by have:=(h c (by simp)).2;omega)) ⟨d.1,(h d (by simp)).1,rfl⟩ (kk (by have:=(h d (by simp)).2;omega))
  | _::_::_::_,h,_=>simp at h
theorem wh1 {w:Str} {us:List Str} (h:RW w us):isR (w::us):=by
 cases h with
 | add h1 h2=>obtain ⟨x,hx,rfl⟩:=h1;obtain ⟨o,ho,rfl⟩:=h2;exact ⟨.add x o,⟨hx,ho⟩,rfl⟩
 | take h1 h2=>obtain ⟨x,hx,rfl⟩:=h1;obtain ⟨o,ho,rfl⟩:=h2;exact ⟨.take x o,⟨hx,ho⟩,rfl⟩
 | swap h1 h2=>obtain ⟨x,hx,rfl⟩:=h1;obtain ⟨y,hy,rfl⟩:=h2;exact ⟨.swap x y,⟨hx,hy⟩,rfl⟩
 | go h1 h2 h3=>obtain ⟨x,hx,rfl⟩:=h1;obtain ⟨n,hn,rfl⟩:=h2;obtain ⟨k,hk,rfl⟩:=h3;exact ⟨.go x (n:Int) k,⟨hx,⟨by omega,by omega⟩,hk⟩,rfl⟩
 | come h1 h2 h3=>obtain ⟨x,hx,rfl⟩:=h1;obtain ⟨n,hn,rfl⟩:=h2;obtain ⟨k,hk,rfl⟩:=h3;exact ⟨.come x (n:Int) k,⟨hx,⟨by omega,by omega⟩,hk⟩,rfl⟩
 | t0 h1 h2=>obtain ⟨x,hx,rfl⟩:=h1;obtain ⟨i,hi,rfl⟩:=h2;exact ⟨.turn x i [],⟨hx,by omega,by simp,by simp⟩,rfl⟩
 | t1 h1 h2 h3 h4 =>
  obtain ⟨x,hx,rfl⟩:=h1;obtain ⟨i,hi,rfl⟩:=h2;obtain ⟨c,hc,rfl⟩:=h3;obtain ⟨j,hj,rfl⟩:=h4;exact ⟨.turn x i [(c,j)],⟨hx,by omega,by simp,fun z hz=>by rw [List.mem_singleton.mp hz];exact ⟨hc,by show j < 32;omega⟩⟩,rfl⟩
 | t2 h1 h2 h3 h4 h5 h6 =>
  obtain ⟨x,hx,rfl⟩:=h1;obtain ⟨i,hi,rfl⟩:=h2;obtain ⟨c,hc,rfl⟩:=h3;obtain ⟨j,hj,rfl⟩:=h4;obtain ⟨d,hd,rfl⟩:=h5;obtain ⟨l,hl,rfl⟩:=h6;refine ⟨.turn x i [(c,j),(d,l)],⟨hx,by omega,by simp,fun z hz=>?_⟩,rfl⟩
  rcases List.mem_cons.mp hz with e | hz
  ·rw [e];exact ⟨hc,by show j < 32;omega⟩
  ·rw [List.mem_singleton.mp hz];exact ⟨hd,by show l < 32;omega⟩
open Classical in
def fbR:Nat->List Str->Int
 | _,[]=>-1
 | i,l::t=>if isR (Txt.split l " ") then fbR (i+1) t else (i:Int)
open Classical in
def fb:List Str->Int
 | []=>-1
 | l::t=>if isZ (Txt.split l " ") then fbR 1 t else 0
theorem up0 {i:Nat} {l:Str} {t:List Str} (h:isR (Txt.split l " ")):fbR i (l::t)=fbR (i+1) t:=if_pos h
theorem vn5 {i:Nat} {l:Str} {t:List Str} (h:¬ isR (Txt.split l " ")):fbR i (l::t)=i:=if_neg h
theorem v67 {l:Str} {t:List Str} (h:isZ (Txt.split l " ")):fb (l::t)=fbR 1 t:=if_pos h
theorem vz0 {l:Str} {t:List Str} (h:¬ isZ (Txt.split l " ")):fb (l::t)=0:=if_neg h
def uj3 (ls:List Str) (sz:Nat) (rs:List Row):Prop:=sz<=9999999999 /\ (∀ r ∈ rs,rK r) /\ ls.map (fun l=>Txt.split l " ")=[("size" : Str),numI (sz:Int)]::rs.map rwS
theorem v43 {l:Str} {ws:List Str} (h:Txt.split l " " = ws):jn " " ws=l:=by
 rw [<- h,show jn " " (Txt.split l " ")=Str.join " " (Txt.split l " ") from StrLaws.glued_eq_join _ _,StrLaws.join_split]
theorem ug2:∀ {ls:List Str} {wss:List (List Str)},ls.map (fun l=>Txt.split l " ")=wss->wss.map (jn " ")=ls
 | [],wss,h=>by rw [<- h];rfl
 | l::ls,wss,h=>by
  cases wss with
  | nil=>cases h
  | cons ws wss =>
   injection h with h1 h2
   rw [List.map_cons,v43 h1,ug2 h2]
theorem v61 {t:Str} {sz:Nat} {rs:List Row} (h:uj3 (Txt.split t "\n") sz rs):cdS sz rs=t:=by
 have e:=ug2 h.2.2;have e2:szS sz::rs.map lnS=Txt.split t "\n":=by rw [<- e, List.map_cons, List.map_map];rfl
 show jn "\n" (szS sz::rs.map lnS)=t
 rw [e2, show jn "\n" (Txt.split t "\n") = Str.join "\n" (Txt.split t "\n") from StrLaws.glued_eq_join _ _,StrLaws.join_split]
theorem vo8 {k j:Nat} (e:bw k=bw j):k=j:=by
 have e1:=congrArg (fun x:Str=>x.cps.toList) e;rw [ua0,ua0] at e1;injection e1 with _ e2
 exact u29 (u43 e2)
theorem vo7 {k:Nat} {n:Int} (h:0<=n) (e:bw k=numI n):False:=by
 obtain ⟨j,rfl⟩:=ud1 h;have:(98:Nat) ∈ (numI (j:Int)).cps.toList:=by rw [<- e,ua0];simp
 have:=ug4 this;omega
theorem uh4 {n m:Int} (hn:0<=n) (hm:0<=m) (e:numI n=numI m):n=m:=by
 obtain ⟨j,rfl⟩:=ud1 hn;obtain ⟨k,rfl⟩:=ud1 hm;rw [u29 e]
theorem vl9 {o p:Opd} (ho:opK o) (hp:opK p) (e:opS o=opS p):o=p:=by
 cases o with
 | num n =>
  cases p with
  | num m=>rw [uh4 ho.1 hp.1 e]
  | box y=>exact (vo7 ho.1 e.symm).elim
 | box x =>
  cases p with
  | num m=>exact (vo7 hp.1 e).elim
  | box y=>rw [vo8 e]
theorem vo4:∀ {cs ds:List (Nat × Nat)},csS cs=csS ds->cs=ds
 | [],[],_=>rfl
 | [],_::_,e=>by cases e
 | _::_,[],e=>by cases e
 | c::cs,d::ds,e=>by
  have e:bw c.1::numI (c.2:Int)::csS cs=bw d.1::numI (d.2:Int)::csS ds:=e;injection e with e1 e2
  injection e2 with e3 e4
  rw [vo4 e4,show c=d from Prod.ext (vo8 e1) (u29 e3)]
theorem w57 {r s:Row} (hr:rK r) (hs:rK s) (e:rwS r=rwS s):r=s:=by
 cases r <;> cases s <;> injection e with e1 e2 <;> first | exact absurd e1 (by decide) | skip
 ·injection e2 with e2 e3;injection e3 with e3;rw [u29 e2,vl9 hr.2 hs.2 e3]
 ·injection e2 with e2 e3;injection e3 with e3;rw [u29 e2,vl9 hr.2 hs.2 e3]
 ·injection e2 with e2 e3;injection e3 with e3 e4;rw [u29 e2,u29 e3,vo4 e4]
 ·injection e2 with e2 e3;injection e3 with e3;rw [u29 e2,u29 e3]
 ·injection e2 with e2 e3;injection e3 with e3 e4;injection e4 with e4;rw [u29 e2,uh4 hr.2.1.1 hs.2.1.1 e3,u29 e4]
 ·injection e2 with e2 e3;injection e3 with e3 e4;injection e4 with e4;rw [u29 e2,uh4 hr.2.1.1 hs.2.1.1 e3,u29 e4]
theorem v01:∀ {rs ss:List Row},(∀ r ∈ rs,rK r)->(∀ r ∈ ss,rK r)->rs.map rwS=ss.map rwS->rs=ss
 | [],[],_,_,_=>rfl
 | [],_::_,_,_,e=>by cases e
 | _::_,[],_,_,e=>by cases e
 | r::rs,s::ss,h1,h2,e=>by
  injection e with e1 e2
  rw [w57 (h1 r List.mem_cons_self) (h2 s List.mem_cons_self) e1,v01 (fun x hx=>h1 x (List.mem_cons_of_mem _ hx)) (fun x hx=>h2 x (List.mem_cons_of_mem _ hx)) e2]
theorem vg9 {ls:List Str} {sz sz':Nat} {rs rs':List Row} (h:uj3 ls sz rs) (h':uj3 ls sz' rs'):sz=sz' /\ rs=rs':=by
 have e:=h.2.2.symm.trans h'.2.2;injection e with e1 e2
 injection e1 with _ e3
 injection e3 with e3
 exact ⟨u29 e3,v01 h.2.1 h'.2.1 e2⟩
theorem us5:∀ {t:List Str} {rs:List Row} {i:Nat},(∀ r ∈ rs,rK r)->t.map (fun l=>Txt.split l " ")=rs.map rwS->fbR i t=-1
 | [],_,_,_,_=>rfl
 | l::t,[],_,_,e=>by cases e
 | l::t,r::rs,i,h,e=>by
  injection e with e1 e2
  rw [up0 ⟨r,h r List.mem_cons_self,e1⟩,us5 (fun x hx=>h x (List.mem_cons_of_mem _ hx)) e2]
theorem v62 {ls:List Str} {sz:Nat} {rs:List Row} (h:uj3 ls sz rs):fb ls=-1:=by
 cases ls with
 | nil=>rfl
 | cons l t =>
  have e:=h.2.2;injection e with e1 e2
  rw [v67 ⟨sz,h.1,e1⟩,us5 h.2.1 e2]
theorem uf6 {c:Nat} {sep:Str} (hs:sep=⟨#[c]⟩) (t:Str):((Txt.split t sep).map (·.length)).sum+((Txt.split t sep).length - 1)=t.length:=by
 have h1:sep.length=1:=by rw [hs];rfl
 rw [<- u86 h1,show jn sep (Txt.split t sep)=Str.join sep (Txt.split t sep) from StrLaws.glued_eq_join _ _,StrLaws.join_split]
theorem uh0 {c:Nat} {sep:Str} (hs:sep=⟨#[c]⟩) {t w:Str} (h:w ∈ Txt.split t sep):w.length<=t.length:=by have:=uf6 hs t;have:=vw3 h;omega
theorem un7 {c:Nat} {sep:Str} (hs:sep=⟨#[c]⟩) (t:Str):(Txt.split t sep).length<=t.length+1:=by have:=uf6 hs t;omega
theorem bw_iff {w:Str}:isB w ↔ ∃ r,w.cps.toList=98::r /\ isK 9999999999 ⟨r.toArray⟩:=by
 constructor
 ·rintro ⟨k,hk,rfl⟩
  exact ⟨_,ua0 k,k,hk,u43 rfl⟩
 ·rintro ⟨r,e,k,hk,e2⟩
  refine ⟨k,hk,u43 ?_⟩;rw [e,ua0,<- e2]
end Rw
namespace Rw
open PySem PySem.Spec PyProof.Rows L2 L3
theorem vm0 {k:Nat} (h:(numI (k:Int)).length<=10):k<=9999999999:=by
 rw [ub9] at h;have:=(Nat.length_toDigits_le_iff (b:=10) (n:=k) (k:=10) (by decide) (by decide)).mp h;have e:(10:Nat) ^ 10=10000000000:=by decide
 omega
theorem isK_iff {m k:Nat}:isK m (numI (k:Int)) ↔ k<=m:=⟨fun ⟨j,hj,e⟩=>by rw [u29 e];exact hj,fun h=>⟨k,h,rfl⟩⟩
def rdN (p:Str × Nat):Option Nat->Prop
 | some k=>k<=p.2 /\ p.1=numI (k:Int)
 | none=>¬ isK p.2 p.1
def rdC (p:Str × Str):Option (Nat × Nat)->Prop
 | some c=>c.1<=9999999999 /\ c.2 < 32 /\ p.1=bw c.1 /\ p.2=numI (c.2:Int)
 | none=>¬ (isB p.1 /\ isK 31 p.2)
def All2 {α β:Type} (r:α->β->Prop):List α->List β->Prop
 | [],[]=>True
 | a::l,b::m=>r a b /\ All2 r l m
 | _,_=>False
theorem All2.snoc {α β:Type} {r:α->β->Prop} {a:α} {b:β} (h:r a b):∀ {l:List α} {m:List β},All2 r l m->All2 r (l++[a]) (m++[b])
 | [],[],_=>⟨h,trivial⟩
 | [],_::_,z=>z.elim
 | _::_,[],z=>z.elim
 | _::_,_::_,z=>⟨z.1,All2.snoc h z.2⟩
theorem All2.len {α β:Type} {r:α->β->Prop}:∀ {l:List α} {m:List β},All2 r l m->l.length=m.length
 | [],[],_=>rfl
 | [],_::_,z=>z.elim
 | _::_,[],z=>z.elim
 | _::_,_::_,z=>by rw [List.length_cons,List.length_cons,z.2.len]
theorem All2.all {α γ:Type} {r:α->Option γ->Prop}:∀ {l:List α} {m:List (Option γ)},All2 r l m->none ∉ m->∃ ks:List γ,m=ks.map some /\ All2 (fun a k=>r a (some k)) l ks
 | [],[],_,_=>⟨[],rfl,trivial⟩
 | [],_::_,z,_=>z.elim
 | _::_,[],z,_=>z.elim
 | a::l,o::m,z,h=>by
  obtain ⟨ks,e,h2⟩:=z.2.all fun y=>h (List.mem_cons_of_mem _ y)
  cases o with
  | none=>exact absurd List.mem_cons_self h
  | some k=>exact ⟨k::ks,by rw [e];rfl,z.1,h2⟩
theorem All2.bad {α γ:Type} {r:α->Option γ->Prop}:∀ {l:List α} {m:List (Option γ)},All2 r l m->none ∈ m->∃ a ∈ l,r a none
 | [],[],_,h=>by cases h
 | [],_::_,z,_=>z.elim
 | _::_,[],z,_=>z.elim
 | a::l,o::m,z,h=>by
  rcases List.mem_cons.mp h with e | h
  ·exact ⟨a,List.mem_cons_self,e ▸ z.1⟩
  ·obtain ⟨b,hb,h2⟩:=z.2.bad h
   exact ⟨b,List.mem_cons_of_mem _ hb,h2⟩
def NK (us:List Str) (ms ks:List Nat):Prop:=us=ks.map (fun k:Nat=>numI (k:Int)) /\ ks.length=ms.length /\ ∀ p ∈ ks.zip ms,p.1<=p.2
theorem wc3:∀ {zs:List (Str × Nat)} {ks:List Nat},All2 (fun a k=>rdN a (some k)) zs ks->NK (zs.map (·.1)) (zs.map (·.2)) ks
 | [],[],_=>⟨rfl,rfl,by simp⟩
 | [],_::_,z=>z.elim
 | _::_,[],z=>z.elim
 | p::zs,k::ks,z=>by
  obtain ⟨h1,h2,h3⟩:=wc3 z.2;refine ⟨by rw [List.map_cons,List.map_cons,h1,z.1.2],by rw [List.length_cons,List.map_cons,List.length_cons,h2],fun q hq=>?_⟩
  rcases List.mem_cons.mp hq with e | hq
  ·rw [e];exact z.1.1
  ·exact h3 q hq
theorem us0:∀ {zs:List (Str × Nat)} {ks:List Nat},NK (zs.map (·.1)) (zs.map (·.2)) ks->∀ p ∈ zs,isK p.2 p.1
 | [],_,_,p,hp=>by cases hp
 | z::zs,[],⟨_,h,_⟩,_,_=>by cases h
 | z::zs,k::ks,⟨h1,h2,h3⟩,p,hp=>by
  injection h1 with h1 h1'
  rcases List.mem_cons.mp hp with e | hp
  ·rw [e];exact ⟨k,h3 (k,z.2) List.mem_cons_self,h1⟩
  ·exact us0 (ks:=ks) ⟨h1',Nat.succ.inj h2,fun q hq=>h3 q (List.mem_cons_of_mem _ hq)⟩ p hp
def flt2 (zs:List (Str × Str)):List Str:=zs.flatMap fun z=>[z.1,z.2]
theorem vh1 (zs:List (Str × Str)):(flt2 zs).length=2 * zs.length:=by
 induction zs with
 | nil=>rfl
 | cons c cs ih=>show ((flt2 cs).length+1)+1=2 * (cs.length+1);omega
theorem v66:∀ {cs:List (Str × Str)} {i:Nat} {c:Str × Str},cs[i]?=some c->(flt2 cs)[2 * i]?=some c.1 /\ (flt2 cs)[2 * i+1]?=some c.2
 | c::cs,0,_,h=>by cases h;exact ⟨rfl,rfl⟩
 | d::cs,i+1,c,h=>by
  have ih:=v66 (cs:=cs) (i:=i) (c:=c) (by simpa using h);have e:flt2 (d::cs)=d.1::d.2::flt2 cs:=rfl;rw [e,show 2 * (i+1)=(2 * i)+1+1 by omega];exact ih
 | [],_,_,h=>by simp at h
theorem ue6 {a b:Str} {zs:List (Str × Str)} (h:RW "turn" (a::b::flt2 zs)):isK 9999999999 a /\ isK 31 b /\ ∀ z ∈ zs,isB z.1 /\ isK 31 z.2:=by
 match zs,h with
 | [],.t0 h1 h2=>exact ⟨h1,h2,by simp⟩
 | [z],.t1 h1 h2 h3 h4=>exact ⟨h1,h2,fun y hy=>by rw [List.mem_singleton.mp hy];exact ⟨h3,h4⟩⟩
 | [z,y],.t2 h1 h2 h3 h4 h5 h6=>exact ⟨h1,h2,fun x hx=>by
   rcases List.mem_cons.mp hx with e | hx
   ·rw [e];exact ⟨h3,h4⟩
   ·rw [List.mem_singleton.mp hx];exact ⟨h5,h6⟩⟩
theorem vo5:∀ {zs:List (Str × Str)} {cs:List (Nat × Nat)},All2 (fun a k=>rdC a (some k)) zs cs->flt2 zs=csS cs /\ ∀ c ∈ cs,c.1<=9999999999 /\ c.2 < 32
 | [],[],_=>⟨rfl,by simp⟩
 | [],_::_,z=>z.elim
 | _::_,[],z=>z.elim
 | p::zs,c::cs,z=>by
  obtain ⟨h1,h2⟩:=vo5 z.2;obtain ⟨y1,y2,y3,y4⟩:=z.1;refine ⟨?_,fun q hq=>?_⟩
  ·show p.1::p.2::flt2 zs=bw c.1::numI (c.2:Int)::csS cs
   rw [h1,y3,y4]
  ·rcases List.mem_cons.mp hq with e | hq
   ·rw [e];exact ⟨y1,y2⟩
   ·exact h2 q hq
theorem v70 (f:Str->D):∀ zs:List (Str × Str),evn ((flt2 zs).map f)=zs.map (fun z=>f z.1)
 | []=>rfl
 | z::zs=>by
  show f z.1::evn ((flt2 zs).map f)=_
  rw [v70 f zs];rfl
theorem us9 (f:Str->D):∀ zs:List (Str × Str),evn (((flt2 zs).map f).drop 1)=zs.map (fun z=>f z.2)
 | []=>rfl
 | [z]=>rfl
 | z::y::zs=>by
  have ih:=us9 f (y::zs)
  show f z.2::evn (((flt2 (y::zs)).map f).drop 1)=_
  rw [ih];rfl
theorem vj7 {a b:Str} {zs:List (Str × Str)} (hl:zs.length<=2) (h1:isK 9999999999 a) (h2:isK 31 b) (h3:∀ z ∈ zs,isB z.1) (h4:∀ z ∈ zs,isK 31 z.2):RW "turn" (a::b::flt2 zs):=by
 match zs,hl with
 | [],_=>exact .t0 h1 h2
 | [z],_=>exact .t1 h1 h2 (h3 z (by simp)) (h4 z (by simp))
 | [z,y],_=>exact .t2 h1 h2 (h3 z (by simp)) (h4 z (by simp)) (h3 y (by simp)) (h4 y (by simp))
theorem uu4 {α:Type} {P:α->Prop}:∀ {l:List α} {bs:List Bool},All2 (fun x b=>(b=true ↔ P x)) l bs->(bs.all id=true ↔ ∀ x ∈ l,P x)
 | [],[],_=>by simp
 | [],_::_,z=>z.elim
 | _::_,[],z=>z.elim
 | x::l,b::bs,z=>by
  rw [List.all_cons,Bool.and_eq_true,uu4 z.2]
  constructor
  ·rintro ⟨h1,h2⟩ y hy
   rcases List.mem_cons.mp hy with e | hy
   ·rw [e];exact z.1.mp h1
   ·exact h2 y hy
  ·intro h
   exact ⟨z.1.mpr (h x List.mem_cons_self),fun y hy=>h y (List.mem_cons_of_mem _ hy)⟩
theorem uu5 {α:Type} {P:α->Prop} {l:List α} {bs:List Bool} (h:All2 (fun x b=>(b=true ↔ P x)) l bs):(∀ x ∈ l,P x) /\ bs.all id=true \/ (¬ ∀ x ∈ l,P x) /\ bs.all id=false:=by
 have:=uu4 h;cases e:bs.all id with
 | true=>exact .inl ⟨this.mp e,rfl⟩
 | false=>exact .inr ⟨(fun z=>by rw [this.mpr z] at e;cases e),rfl⟩
theorem vv7 {rest:List Str} (h:rest.length<=4) (h2:rest.length % 2=0):∃ zs:List (Str × Str),rest=flt2 zs /\ zs.length<=2:=by
 match rest,h,h2 with
 | [],_,_=>exact ⟨[],rfl,by simp⟩
 | [a,b],_,_=>exact ⟨[(a,b)],rfl,by simp⟩
 | [a,b,c,d],_,_=>exact ⟨[(a,b),(c,d)],rfl,by simp⟩
 | [_],_,h=>simp at h
 | [_,_,_],_,h=>simp at h
 | _::_::_::_::_::_,h,_=>simp at h
def asc (x:Str):Prop:=∀ c ∈ x.cps.toList,c < 128
theorem ue3 {n:Int} (h:0<=n):asc (numI n):=by
 obtain ⟨k,rfl⟩:=ud1 h;intro c hc;have:=ug4 hc;omega
theorem vp0 (k:Nat):asc (bw k):=fun c hc=>by
 rw [ua0] at hc
 rcases List.mem_cons.mp hc with e | e
 ·omega
 ·have:=ug4 e;omega
theorem vo9 {o:Opd} (h:opK o):asc (opS o):=by
 cases o with
 | num n=>exact ue3 h.1
 | box y=>exact vp0 y
theorem u89 {x:Str} (h:(x.cps.toList.all fun c=>decide (c < 128))=true):asc x:=fun c hc=>of_decide_eq_true (List.all_eq_true.mp h c hc)
theorem w58 {r:Row} (h:rK r):∀ x ∈ rwS r,asc x:=by
 have c3:∀ {a b c:Str},asc a->asc b->asc c->∀ x ∈ [a,b,c],asc x:=fun ha hb hc x hx=>by
  rcases List.mem_cons.mp hx with e | hx
  ·rw [e];exact ha
  rcases List.mem_cons.mp hx with e | hx
  ·rw [e];exact hb
  rw [List.mem_singleton.mp hx];exact hc
 have c4:∀ {a b c d:Str},asc a->asc b->asc c->asc d->∀ x ∈ [a,b,c,d],asc x:=fun ha hb hc hd x hx=>by
  rcases List.mem_cons.mp hx with e | hx
  ·rw [e];exact ha
  exact c3 hb hc hd x hx
 have nn:∀ k:Nat,asc (numI (k:Int)):=fun k=>ue3 (by omega)
 cases r with
 | add x o=>exact c3 (u89 (by decide)) (nn x) (vo9 h.2)
 | take x o=>exact c3 (u89 (by decide)) (nn x) (vo9 h.2)
 | swap x y=>exact c3 (u89 (by decide)) (nn x) (nn y)
 | go x n k=>exact c4 (u89 (by decide)) (nn x) (ue3 h.2.1.1) (nn k)
 | come x n k=>exact c4 (u89 (by decide)) (nn x) (ue3 h.2.1.1) (nn k)
 | turn x i cs =>
  intro y hy
  rcases List.mem_cons.mp hy with e | hy
  ·rw [e];exact u89 (by decide)
  rcases List.mem_cons.mp hy with e | hy
  ·rw [e];exact nn x
  rcases List.mem_cons.mp hy with e | hy
  ·rw [e];exact nn i
  obtain ⟨c,hc,hx⟩:=List.mem_flatMap.mp hy
  rcases List.mem_cons.mp hx with e | e
  ·rw [e];exact vp0 _
  ·rw [List.mem_singleton.mp e];exact nn _
def wdsC (sz:Nat) (rs:List Row):List (List Str):=[("size" : Str),numI (sz:Int)]::rs.map rwS
theorem vp7 {sz:Nat} {rs:List Row} (hz:sz<=9999999999) (h:∀ r ∈ rs,rK r):∀ ws ∈ wdsC sz rs,ws ≠ [] /\ ws.length<=7 /\ ∀ w ∈ ws,w.length<=11 /\ ∀ c ∈ w.cps.toList,33<=c /\ c < 128:=fun ws hw=>by
 rcases List.mem_cons.mp hw with e | hw
 ·rw [e]
  refine ⟨by simp,by simp,fun w hw=>⟨(uv3 hz w hw).1,fun c hc=>⟨(uv3 hz w hw).2 c hc,?_⟩⟩⟩;have:asc w:=by
   rcases List.mem_cons.mp hw with e | e
   ·rw [e];exact u89 (by decide)
   ·rw [List.mem_singleton.mp e];exact ue3 (by omega)
  exact this c hc
 ·obtain ⟨r,hr,rfl⟩:=List.mem_map.mp hw
  exact ⟨w56 r,ur0 (h r hr),fun w hw=>⟨(uo0 (h r hr) w hw).1,fun c hc=>⟨(uo0 (h r hr) w hw).2 c hc,w58 (h r hr) w hw c hc⟩⟩⟩
theorem uu8 (sz:Nat) (rs:List Row):(wdsC sz rs).map (jn " ")=szS sz::rs.map lnS:=by
 show jn " " _::(rs.map rwS).map (jn " ")=_
 rw [List.map_map];rfl
theorem v63 {sz:Nat} {rs:List Row} (hz:sz<=9999999999) (h:∀ r ∈ rs,rK r):uj3 (Txt.split (cdS sz rs) "\n") sz rs:=by
 refine ⟨hz, h, ?_⟩;rw [uu3 hz h, List.map_cons, vb3 hz, List.map_map]
 congr 1
 exact List.map_congr_left fun r hr=>vg0 (h r hr)
theorem vh2:fb (Txt.split (Str.ofString "") "\n")=0:=by
 rw [show Txt.split (Str.ofString "") "\n" = [Str.ofString ""] by decide];refine vz0 ?_;rw [show Txt.split (Str.ofString "") " " = [Str.ofString ""] by decide];rintro ⟨sz, _, e⟩;cases e
end Rw
namespace Law
open PySem L2 L3
def top (i:Nat):Stmt:=PySem.Challenge.pw_nolitter_k55_code_texts_refused.main.body.getD i (.Pass ⟨0, 0, 0, 0⟩)
abbrev u60:Stmt:=inClass (top 5) 0
abbrev vc1:Stmt:=top 14
abbrev vb8:Stmt:=top 17
abbrev vb7:Stmt:=top 18
abbrev vr8:Stmt:=top 19
abbrev vs8:Stmt:=top 20
abbrev vr5:Stmt:=top 21
abbrev vr1:Stmt:=top 22
abbrev vr2:Stmt:=top 23
abbrev vc0:Stmt:=top 24
abbrev vr6:Stmt:=top 25
abbrev vr3:Stmt:=top 26
abbrev vr7:Stmt:=top 27
abbrev vb9:Stmt:=top 28
abbrev vr4:Stmt:=top 29
abbrev vs4:Stmt:=top 31
abbrev vs3:Stmt:=top 32
abbrev vs1:Stmt:=top 33
abbrev vs0:Stmt:=top 34
abbrev vs6:Stmt:=top 35
abbrev vc6:Stmt:=top 36
abbrev vc2:Stmt:=top 38
abbrev vc4:Stmt:=top 39
abbrev vc3:Stmt:=top 40
abbrev vs5:Stmt:=top 41
abbrev v00:Stmt:=top 42
abbrev vs7:Stmt:=top 43
abbrev uz9:Stmt:=top 44
abbrev vc5:Stmt:=top 45
abbrev vr9:Stmt:=top 46
abbrev vr0:Stmt:=top 47
local macro_rules | `(tactic| ac_nf)=>`(tactic| exact ⟨rfl, rfl, rfl, by decide, rfl, by decide, by decide⟩)
theorem u73:FnScope ["self", "at"] ["self", "at"] (u05 u60):=by ac_nf
theorem sc_jar:FnScope ["word", "most", "number"] ["word", "most"] (u05 vc1):=by ac_nf
theorem sc_jbc:FnScope ["code", "lines"] ["code"] (u05 vb8):=by ac_nf
theorem sc_jbd:FnScope ["row", "words", "cond"] ["row"] (u05 vb7):=by ac_nf
theorem vk9:FnScope ["operand"] ["operand"] (u05 vr8):=by ac_nf
theorem vl4:FnScope ["box"] ["box"] (u05 vs8):=by ac_nf
theorem sc_jav:FnScope ["text", "lines", "size", "rows", "at", "line", "row"] ["text"] (u05 vr5):=by ac_nf
theorem vk6:FnScope ["words"] ["words"] (u05 vr1):=by ac_nf
theorem vk7:FnScope ["words"] ["words"] (u05 vr2):=by ac_nf
theorem sc_jax:FnScope ["words", "mosts", "numbers"] ["words", "mosts"] (u05 vc0):=by ac_nf
theorem sc_jau:FnScope ["words", "box", "operand"] ["words"] (u05 vr6):=by ac_nf
theorem sc_jay:FnScope ["word", "box", "number"] ["word"] (u05 vr3):=by ac_nf
theorem vk8:FnScope ["word"] ["word"] (u05 vr7):=by ac_nf
theorem sc_jbb:FnScope ["words", "head", "conds"] ["words"] (u05 vb9):=by ac_nf
theorem sc_jaw:FnScope ["box_text", "bit_text", "box", "bit"] ["box_text", "bit_text"] (u05 vr4):=by ac_nf
theorem sc_jag:FnScope ["_law_state", "_law_many", "_law_script", "_law_k", "_law_rest", "_law_cell", "_law_number_here", "_law_digit"] ["_law_state", "_law_many"] (u05 vs4):=by ac_nf
theorem sc_jak:FnScope ["_law_state", "_law_sort"] ["_law_state"] (u05 vs3):=by ac_nf
theorem sc_jam:FnScope ["_law_state", "_law_size", "_law_x", "_law_y"] ["_law_state", "_law_size", "_law_x"] (u05 vs1):=by ac_nf
theorem sc_jan:FnScope ["_law_state", "_law_size", "_law_x", "_law_sort", "_law_found", "_law_turn", "_law_operand"] ["_law_state", "_law_size"] (u05 vs0):=by ac_nf
theorem vl3:FnScope ["_law_state"] ["_law_state"] (u05 vs6):=by ac_nf
theorem sc_jaf:FnScope ["_law_state", "_law_size", "_law_many", "_law_jumps", "_law_rows", "_law_at", "_law_free", "_law_k", "_law_x", "_law_n", "_law_turn"] ["_law_state", "_law_size", "_law_many", "_law_jumps"] (u05 vc6):=by ac_nf
theorem sc_jap:FnScope ["_law_row", "_law_words", "_law_y", "_law_j"] ["_law_row"] (u05 vc2):=by ac_nf
theorem vl1:FnScope ["_law_code_here"] ["_law_code_here"] (u05 vc4):=by ac_nf
theorem vl0:FnScope ["_law_word", "_law_end"] ["_law_word", "_law_end"] (u05 vc3):=by ac_nf
theorem vl2:FnScope ["_law_word"] ["_law_word"] (u05 vs5):=by ac_nf
theorem sc_jah:FnScope ["_law_line", "_law_words", "_law_word"] ["_law_line"] (u05 v00):=by ac_nf
theorem sc_jab:FnScope ["_law_lines_here", "_law_words", "_law_at"] ["_law_lines_here"] (u05 vs7):=by ac_nf
theorem sc_jaq:FnScope ["_law_state", "_law_word", "_law_some", "_law_more"] ["_law_state", "_law_word"] (u05 uz9):=by ac_nf
theorem sc_jai:FnScope ["_law_state", "_law_line", "_law_words", "_law_at", "_law_some"] ["_law_state", "_law_line"] (u05 vc5):=by ac_nf
theorem sc_jao:FnScope ["_law_text", "_law_due", "_law_own", "_law_said", "e"] ["_law_text", "_law_due"] (u05 vr9):=by ac_nf
theorem sc_law:FnScope ["_law_script", "_law_state", "_law_many", "_law_sort", "_law_size", "_law_code_here", "_law_good", "_law_lines_here", "_law_turn", "_law_at", "_law_due", "_law_text"] ["_law_script"] (u05 vr0):=by ac_nf
set_option genInjectivity false in
set_option genSizeOf false in
structure Txt (K:W.Frag) (mg:Str->Option Value) where
 f_BadText_init:FnAt K "__init__" "BadText.__init__" u60 ["self", "at"]
 f_jar:FnAt K "number_in" "number_in" vc1 ["word", "most"]
 g_number_in:mg "number_in" = some (.ref f_jar.a)
 f_jbc:FnAt K "show_code" "show_code" vb8 ["code"]
 g_show_code:mg "show_code" = some (.ref f_jbc.a)
 f_jbd:FnAt K "words_of" "words_of" vb7 ["row"]
 g_words_of:mg "words_of" = some (.ref f_jbd.a)
 f_jas:FnAt K "operand_word" "operand_word" vr8 ["operand"]
 g_operand_word:mg "operand_word" = some (.ref f_jas.a)
 f_jaa:FnAt K "box_word" "box_word" vs8 ["box"]
 g_box_word:mg "box_word" = some (.ref f_jaa.a)
 f_jav:FnAt K "read_code" "read_code" vr5 ["text"]
 g_read_code:mg "read_code" = some (.ref f_jav.a)
 f_jba:FnAt K "read_size" "read_size" vr1 ["words"]
 g_read_size:mg "read_size" = some (.ref f_jba.a)
 f_jaz:FnAt K "read_row" "read_row" vr2 ["words"]
 g_read_row:mg "read_row" = some (.ref f_jaz.a)
 f_jax:FnAt K "read_numbers" "read_numbers" vc0 ["words", "mosts"]
 g_read_numbers:mg "read_numbers" = some (.ref f_jax.a)
 f_jau:FnAt K "read_change" "read_change" vr6 ["words"]
 g_read_change:mg "read_change" = some (.ref f_jau.a)
 f_jay:FnAt K "read_operand" "read_operand" vr3 ["word"]
 g_read_operand:mg "read_operand" = some (.ref f_jay.a)
 f_jat:FnAt K "read_box" "read_box" vr7 ["word"]
 g_read_box:mg "read_box" = some (.ref f_jat.a)
 f_jbb:FnAt K "read_turn" "read_turn" vb9 ["words"]
 g_read_turn:mg "read_turn" = some (.ref f_jbb.a)
 f_jaw:FnAt K "read_cond" "read_cond" vr4 ["box_text", "bit_text"]
 g_read_cond:mg "read_cond" = some (.ref f_jaw.a)
 f_jag:FnAt K "_law_draw" "_law_draw" vs4 ["_law_state", "_law_many"]
 g_law_draw:mg "_law_draw" = some (.ref f_jag.a)
 f_jak:FnAt K "_law_number" "_law_number" vs3 ["_law_state"]
 g_law_number:mg "_law_number" = some (.ref f_jak.a)
 f_jam:FnAt K "_law_other" "_law_other" vs1 ["_law_state", "_law_size", "_law_x"]
 g_law_other:mg "_law_other" = some (.ref f_jam.a)
 f_jan:FnAt K "_law_plain_row" "_law_plain_row" vs0 ["_law_state", "_law_size"]
 g_law_plain_row:mg "_law_plain_row" = some (.ref f_jan.a)
 f_jac:FnAt K "_law_bit" "_law_bit" vs6 ["_law_state"]
 g_law_bit:mg "_law_bit" = some (.ref f_jac.a)
 f_jaf:FnAt K "_law_code" "_law_code" vc6 ["_law_state", "_law_size", "_law_many", "_law_jumps"]
 g_law_code:mg "_law_code" = some (.ref f_jaf.a)
 f_jap:FnAt K "_law_row_text" "_law_row_text" vc2 ["_law_row"]
 g_law_row_text:mg "_law_row_text" = some (.ref f_jap.a)
 f_jaj:FnAt K "_law_lines" "_law_lines" vc4 ["_law_code_here"]
 g_law_lines:mg "_law_lines" = some (.ref f_jaj.a)
 f_jal:FnAt K "_law_number_word" "_law_number_word" vc3 ["_law_word", "_law_end"]
 g_law_number_word:mg "_law_number_word" = some (.ref f_jal.a)
 f_jad:FnAt K "_law_box_word" "_law_box_word" vs5 ["_law_word"]
 g_law_box_word:mg "_law_box_word" = some (.ref f_jad.a)
 f_jah:FnAt K "_law_line_good" "_law_line_good" v00 ["_law_line"]
 g_law_line_good:mg "_law_line_good" = some (.ref f_jah.a)
 f_jab:FnAt K "_law_bad_line" "_law_bad_line" vs7 ["_law_lines_here"]
 g_law_bad_line:mg "_law_bad_line" = some (.ref f_jab.a)
 f_jaq:FnAt K "_law_word_spoilt" "_law_word_spoilt" uz9 ["_law_state", "_law_word"]
 g_law_word_spoilt:mg "_law_word_spoilt" = some (.ref f_jaq.a)
 f_jai:FnAt K "_law_line_spoilt" "_law_line_spoilt" vc5 ["_law_state", "_law_line"]
 g_law_line_spoilt:mg "_law_line_spoilt" = some (.ref f_jai.a)
 f_jao:FnAt K "_law_refused" "_law_refused" vr9 ["_law_text", "_law_due"]
 g_law_refused:mg "_law_refused" = some (.ref f_jao.a)
 f_law:FnAt K "law" "law" vr0 ["_law_script"]
 g_law:mg "law" = some (.ref f_law.a)
 e_LitterError:XL K mg "LitterError"
 e_BadText:XE K mg e_LitterError.C "BadText"
 e_TwiceNamed:XE K mg e_LitterError.C "TwiceNamed"
 e_TooWide:XE K mg e_LitterError.C "TooWide"
 e_NoRow:XE K mg e_LitterError.C "NoRow"
 e_NoBox:XE K mg e_LitterError.C "NoBox"
 e_BadPlan:XE K mg e_LitterError.C "BadPlan"
 e_BadCuts:XE K mg e_LitterError.C "BadCuts"
 e_BadCode:XE K mg e_LitterError.C "BadCode"
 xm_BadText:XMk K e_BadText.C e_LitterError.C f_BadText_init.a
 xa_BadText:XAttr K e_BadText.C "at"
 ne_BadText_TwiceNamed:e_TwiceNamed.C ≠ e_BadText.C
 ne_BadText_TooWide:e_TooWide.C ≠ e_BadText.C
 ne_BadText_NoRow:e_NoRow.C ≠ e_BadText.C
 ne_BadText_NoBox:e_NoBox.C ≠ e_BadText.C
 ne_BadText_BadPlan:e_BadPlan.C ≠ e_BadText.C
 ne_BadText_BadCuts:e_BadCuts.C ≠ e_BadText.C
 ne_BadText_BadCode:e_BadCode.C ≠ e_BadText.C
 k_NUMBERS:∃ t, mg "NUMBERS" = some (.int 4294967296 t)
 k_BITS:∃ t, mg "BITS" = some (.int 32 t)
 k_FIGURES:∃ t, mg "FIGURES" = some (.str "0123456789" t)
 k_GREATEST:∃ t, mg "GREATEST" = some (.int 9999999999 t)
 b_ValueError:mg "ValueError" = none
 b_abs:mg "abs" = none
 b_all:mg "all" = none
 b_bool:mg "bool" = none
 b_divmod:mg "divmod" = none
 b_enumerate:mg "enumerate" = none
 b_int:mg "int" = none
 b_isinstance:mg "isinstance" = none
 b_len:mg "len" = none
 b_list:mg "list" = none
 b_range:mg "range" = none
 b_str:mg "str" = none
 b_tuple:mg "tuple" = none
 b_zip:mg "zip" = none
end Law
namespace Law
open PySem L2 L3 Rw
section
variable {P:Program} {w:World} {K:W.Frag} {mg:Str->Option Value} {base:Heap} (T:Txt K mg)
def uq0 (_:Txt K mg):Sp3:=fun ds G R=>∃ (st:Addr),ds=[.ref st] /\ StAt G st /\ ∀ (v:Int) G',Adv st G G'->0<=v->v < 4294967296->R (.int v) G'
def vj2 (_:Txt K mg):Sp3:=fun ds G R=>∃ (st:Addr) (sz x:Nat),ds=[.ref st,.int (sz:Int),.int (x:Int)] /\ StAt G st /\ 2<=sz /\ sz<=1000 /\ x < sz /\ ∀ (y:Nat) G',Adv st G G'->y < sz->y ≠ x->R (.int (y:Int)) G'
def vj5 (_:Txt K mg):Sp3:=fun ds G R=>∃ (st:Addr),ds=[.ref st] /\ StAt G st /\ ∀ (j:Nat) G',Adv st G G'->j < 32->R (.int (j:Int)) G'
def v97 (_:Txt K mg):Sp3:=fun ds G R=>∃ (st:Addr) (sz:Nat),ds=[.ref st,.int (sz:Int)] /\ StAt G st /\ 1<=sz /\ sz<=1000 /\ ∀ (row:Row) G',Adv st G G'->row.ok sz->row.plain=true->R row.d G'
def wl7 (_:Txt K mg):Sp3:=fun ds G R=>∃ (st:Addr) (sz:Nat),ds=[.ref st,.int (sz:Int)] /\ StAt G st /\ sz<=1000 /\ ∀ (q:Addr) (bs:List Int) G',Adv st G G'->G q=none->G' q=some (.lst (bs.map .int))->BsOk sz bs->R (.ref q) G'
def ue5 (_:Txt K mg):Sp3:=spec (fun ds G=>∃ (st:Addr) (m:Int),ds=[.ref st,.int m] /\ StAt G st /\ 0 < m /\ m < 1073741824)
 (fun ds G d G'=>∃ (st:Addr) (m v:Int),ds=[.ref st,.int m] /\ Adv st G G' /\ d=.int v /\ 0<=v /\ v < m)
theorem u10 {K:W.Frag} {mg:Str->Option Value} {T:Txt K mg} {G:Gp} {st:Addr} {m:Int} {q:DK} (h:StAt G st) (h0:0 < m) (h1:m < 1073741824) (k:∀ (v:Int) (G':Gp),Adv st G G'->0<=v->v < m->q (.int v) G') :
  ∃ R,ue5 T [.ref st,.int m] G R /\ ∀ d G',R d G'->q d G' :=
 uz2 ⟨st,m,rfl,h,h0,h1⟩ fun d G' ⟨st',m',v,e,a,ed,v0,v1⟩=>by
  cases e;subst ed;exact k v G' a v0 v1
def w22 (_:Txt K mg):Sp3:=fun ds G R=>∃ (st:Addr) (sz m:Nat) (jm:Int),ds=[.ref st,.int (sz:Int),.int (m:Int),.int jm] /\ StAt G st /\ 1<=sz /\ sz<=1000 /\ m<=1000 /\
 ∀ (ra:Addr) (rs:List Row) G',Adv st G G'->G ra=none->G' ra=some (.lst (rs.map Row.d))->rs.length=m->(∀ r ∈ rs,r.ok sz)->Pairs rs->R (.tup [.int (sz:Int),.ref ra]) G'
def uj2 (_:Txt K mg):Sp3:=fun ds G R=>∃ (w:Str) (m:Nat),ds=[.str w,.int (m:Int)] /\ w.length<=100000 /\ m<=9999999999 /\ (∀ k:Nat,k<=m->w=numI (k:Int)->∀ G',Grow G G'->R (.int (k:Int)) G') /\ (¬ isK m w->∀ G',Grow G G'->R .non G')
def vj6 (_:Txt K mg):Sp3:=fun ds G R=>∃ k:Nat,ds=[.int (k:Int)] /\ k<=9999999999 /\ R (.str (bw k)) G
def w16 (_:Txt K mg):Sp3:=fun ds G R=>∃ o:Opd,ds=[o.d] /\ opK o /\ R (.str (opS o)) G
def w10 (_:Txt K mg):Sp3:=fun ds G R=>∃ r:Row,ds=[r.d] /\ rK r /\ ∀ (q:Addr) (G':Gp),G q=none->G' q=some (.lst ((rwS r).map .str))->Grow G G'->R (.ref q) G'
def w11 (_:Txt K mg):Sp3:=fun ds G R=>∃ (ra:Addr) (rs:List Row) (sz:Nat),ds=[.tup [.int (sz:Int),.ref ra]] /\ G ra=some (.lst (rs.map Row.d)) /\ (∀ r ∈ rs,rK r) /\ sz<=9999999999 /\ rs.length<=4000 /\ ∀ G',Grow G G'->R (.str (cdS sz rs)) G'
def v95 (T:Txt K mg):Spx3:=fun ds G R r=>∃ t:Str,ds=[.str t] /\ t.length<=100000 /\ (Txt.split t "\n").length<=100 /\ (∀ sz rs,uj3 (Txt.split t "\n") sz rs->∀ (q:Addr) (G':Gp),G q=none->G' q=some (.lst (rs.map Row.d))->Grow G G'->R (.tup [.int (sz:Int),.ref q]) G') /\ (∀ i:Nat,fb (Txt.split t "\n") = (i : Int) -> ∀ G', Grow G G' -> r T.e_BadText.C [("at",.int (i:Int))] G')
def w13 (_:Txt K mg):Sp3:=fun ds G R=>∃ (wa:Addr) (w:Str) (us:List Str),ds=[.ref wa] /\ G wa=some (.lst ((w::us).map .str)) /\ (∀ x ∈ w::us,x.length<=100000) /\ us.length<=100000 /\ (∀ sz:Nat,sz<=9999999999->w = "size" -> us=[numI (sz:Int)]->∀ G',Grow G G'->R (.int (sz:Int)) G') /\ (¬ isZ (w::us)->∀ G',Grow G G'->R .non G')
def w14 (_:Txt K mg):Sp3:=fun ds G R=>∃ (wa:Addr) (w:Str) (us:List Str),ds=[.ref wa] /\ G wa=some (.lst ((w::us).map .str)) /\ (∀ x ∈ w::us,x.length<=100000) /\ us.length<=100000 /\ (∀ r,rK r->w::us=rwS r->∀ G',Grow G G'->R r.d G') /\ (¬ RW w us->∀ G',Grow G G'->R .non G')
def v94 (_:Txt K mg):Sp3:=fun ds G R=>∃ (wa ma:Addr) (w:Str) (us:List Str) (ms:List Nat),ds=[.ref wa,.ref ma] /\ G wa=some (.lst ((w::us).map .str)) /\ G ma=some (.lst (ms.map fun m:Nat=>.int (m:Int))) /\ (∀ x ∈ w::us,x.length<=100000) /\ us.length<=100000 /\ (∀ m ∈ ms,m<=9999999999) /\ ms.length<=3 /\ (∀ ks,NK us ms ks->∀ G',Grow G G'->R (.tup (.str w::ks.map fun k:Nat=>.int (k:Int))) G') /\ ((¬ ∃ ks,NK us ms ks)->∀ G',Grow G G'->R .non G')
def vj1 (_:Txt K mg):Sp3:=fun ds G R=>∃ (wa:Addr) (w:Str) (us:List Str),ds=[.ref wa] /\ G wa=some (.lst ((w::us).map .str)) /\ (∀ x ∈ w::us,x.length<=100000) /\ us.length<=100000 /\ (∀ (x:Nat) (o:Opd),x<=9999999999->opK o->us=[numI (x:Int),opS o]->∀ G',Grow G G'->R (.tup [.str w,.int (x:Int),o.d]) G') /\ ((¬ ∃ a b,us=[a,b] /\ isK 9999999999 a /\ isO b)->∀ G',Grow G G'->R .non G')
def vj0 (_:Txt K mg):Sp3:=fun ds G R=>∃ w:Str,ds=[.str w] /\ w.length<=100000 /\ (∀ o,opK o->w=opS o->∀ G',Grow G G'->R o.d G') /\ (¬ isO w->∀ G',Grow G G'->R .non G')
def v96 (_:Txt K mg):Sp3:=fun ds G R=>∃ w:Str,ds=[.str w] /\ w.length<=100000 /\ (∀ k:Nat,k<=9999999999->w=bw k->∀ G',Grow G G'->R (.int (k:Int)) G') /\ (¬ isB w->∀ G',Grow G G'->R .non G')
def w12 (_:Txt K mg):Sp3:=fun ds G R=>∃ (wa:Addr) (us:List Str),ds=[.ref wa] /\ G wa=some (.lst ((Str.ofString "turn" :: us).map .str)) /\ (∀ x ∈ us,x.length<=100000) /\ us.length<=100000 /\ (∀ x i cs,rK (.turn x i cs)->Str.ofString "turn" :: us=rwS (.turn x i cs)->∀ G',Grow G G'->R (Row.turn x i cs).d G') /\ (¬ RW "turn" us->∀ G',Grow G G'->R .non G')
def w15 (_:Txt K mg):Sp3:=fun ds G R=>∃ a b:Str,ds=[.str a,.str b] /\ a.length<=100000 /\ b.length<=100000 /\ (∀ c:Nat × Nat,c.1<=9999999999->c.2 < 32->a=bw c.1->b=numI (c.2:Int)->∀ G',Grow G G'->R (cd c) G') /\ (¬ (isB a /\ isK 31 b)->∀ G',Grow G G'->R .non G')
def w18 (_:Txt K mg):Sp3:=fun ds G R=>∃ r:Row,ds=[r.d] /\ rK r /\ ∀ G',Grow G G'->R (.str (lnS r)) G'
def w20 (_:Txt K mg):Sp3:=fun ds G R=>∃ (ra:Addr) (rs:List Row) (sz:Nat),ds=[.tup [.int (sz:Int),.ref ra]] /\ G ra=some (.lst (rs.map Row.d)) /\ (∀ r ∈ rs,rK r) /\ sz<=9999999999 /\ rs.length<=4000 /\ ∀ (q:Addr) (G':Gp),G q=none->G' q=some (.lst ((szS sz::rs.map lnS).map .str))->Grow G G'->R (.ref q) G'
def ux6 (_:Txt K mg):Sp3:=fun ds G R=>∃ (w:Str) (m:Nat),ds=[.str w,.int ((m:Int)+1)] /\ w.length<=100000 /\ m<=9999999999 /\ (isK m w->∀ G',Grow G G'->R (.bl true) G') /\ (¬ isK m w->∀ G',Grow G G'->R (.bl false) G')
def vj4 (_:Txt K mg):Sp3:=fun ds G R=>∃ w:Str,ds=[.str w] /\ w.length<=100000 /\ (isB w->∀ G',Grow G G'->R (.bl true) G') /\ (¬ isB w->∀ G',Grow G G'->R (.bl false) G')
def vj3 (_:Txt K mg):Sp3:=fun ds G R=>∃ l:Str,ds=[.str l] /\ l.length<=90000 /\ (isR (Txt.split l " ")->∀ G',Grow G G'->R (.bl true) G') /\ (¬ isR (Txt.split l " ")->∀ G',Grow G G'->R (.bl false) G')
def w23 (_:Txt K mg):Sp3:=fun ds G R=>∃ (la:Addr) (l:Str) (ls:List Str),ds=[.ref la] /\ G la=some (.lst ((l::ls).map .str)) /\ (∀ x ∈ l::ls,x.length<=90000) /\ ls.length<=1000 /\ ∀ G',Grow G G'->R (.int (fb (l::ls))) G'
def fine (x:Str):Prop:=10 ∉ x.cps.toList
def w17 (_:Txt K mg):Sp3:=fun ds G R=>∃ (st:Addr) (w:Str),ds=[.ref st,.str w] /\ StAt G st /\ w.length<=11 /\ (∀ c ∈ w.cps.toList,33<=c /\ c < 128) /\ ∀ (x:Str) (G':Gp),Adv st G G'->x.length<=40->fine x->R (.str x) G'
def w21 (_:Txt K mg):Sp3:=fun ds G R=>∃ (st:Addr) (ws:List Str),ds=[.ref st,.str (jn " " ws)] /\ StAt G st /\ ws ≠ [] /\ ws.length<=7 /\ (∀ w ∈ ws,w.length<=11 /\ ∀ c ∈ w.cps.toList,33<=c /\ c < 128) /\ ∀ (x:Str) (G':Gp),Adv st G G'->x.length<=1000->fine x->R (.str x) G'
def w19 (_:Txt K mg):Sp3:=fun ds G R=>∃ (t:Str) (i:Nat),ds=[.str t,.int (i:Int)] /\ t.length<=100000 /\ (Txt.split t "\n").length<=100 /\ fb (Txt.split t "\n")=(i:Int) /\ ∀ G',Grow G G'->R (.bl true) G'
def w09 (_:Txt K mg):Sp3:=fun ds G R=>∃ (a:Addr) (ns:List Int),ds=[.ref a] /\ G a=some (.fro (ns.map .int)) /\ ns.length<=63 /\ ∀ G',R (.bl true) G'
theorem wl6 {G:Gp} {st:Addr} {q:DK} (hs:StAt G st) (k:∀ (v:Int) G',Adv st G G'->0<=v->v < 4294967296->q (.int v) G'):∃ R,uq0 T [.ref st] G R /\ ∀ d G',R d G'->q d G' :=
 u18 (post:=fun d G'=>∃ v:Int,d=.int v /\ Adv st G G' /\ 0<=v /\ v < 4294967296) (fun R h'=>⟨st,rfl,hs,fun v G' z z2 z3=>h' _ _ ⟨v,rfl,z,z2,z3⟩⟩) fun d G' ⟨v,e,z,z2,z3⟩=>by subst e;exact k v G' z z2 z3
theorem vz3 {G:Gp} {a b:Addr} {rs:List Row} {sz:Nat} {Q:Bool->Prop} (ha:u16 (G a)=some (rs.map Row.d)) (hb:u16 (G b)=some (rs.map Row.d)) (h:Q true) :
  ∃ n sd se r,n<=40 /\ snap G n (.tup [.int (sz:Int),.ref a])=some sd /\ snap G n (.tup [.int (sz:Int),.ref b])=some se /\ eqN n sd se=some r /\ Q r:=by
 obtain ⟨s,hs⟩:=snap_tup (n:=4) (ds:=[.int (sz:Int),.ref a]) (all2 u24 (all1 (uz3 (n:=0) ha)));have e:snap G 4 (.ref a)=snap G 4 (.ref b):=snap_ref (ha.trans hb.symm);have e2:snap G 5 (.tup [.int (sz:Int),.ref a])=snap G 5 (.tup [.int (sz:Int),.ref b]):=by
  show (([D.int (sz:Int),.ref a].mapM (snap G 4)).map Sn.tup)=(([D.int (sz:Int),.ref b].mapM (snap G 4)).map Sn.tup)
  rw [List.mapM_cons,List.mapM_cons,List.mapM_cons,List.mapM_cons,e]
 exact ⟨5,s,s,true,by decide,hs,by rw [<- e2];exact hs,up2 5 hs,h⟩
theorem wi4 (sz:Nat):("size " : Str)++numI (sz:Int)=szS sz:=by
 have e:szS sz=Str.join " " ["size",numI (sz:Int)]:=StrLaws.glued_eq_join _ _;apply u43;rw [e,ub2,u80,u88];rfl
theorem nI (k:Int):Str.ofString (toString k)=numI k:=rfl
theorem wc2 {k:Nat} (h:k<=9999999999):((numI (k:Int)).length<=sizeLine)=True:=eq_true (Nat.le_trans (u93 h) (by decide))
theorem cut1 {α:Type} (a:α) (rest:List α):L3.cutD (a::rest) (some 1) none=rest:=by
 have:=v83 (xs:=a::rest) (n:=1);exact this
theorem ul7 {α:Type} {xs:List α} {n:Nat}:cutD xs none (some (n:Int))=xs.take n:=vi3
theorem wl0 {α:Type} (a:α) (rest:List α):L3.cutD (a::rest) none (some 1)=[a]:=by
 have:=ul7 (xs:=a::rest) (n:=1);exact this
theorem wl1:∀ {cs:List (Nat × Nat)} {i:Nat} {c:Nat × Nat},cs[i]?=some c->(csS cs)[2 * i]?=some (bw c.1) /\ (csS cs)[2 * i+1]?=some (numI (c.2:Int))
 | c::cs,0,_,h=>by cases h;exact ⟨rfl,rfl⟩
 | d::cs,i+1,c,h=>by
  have ih:=wl1 (cs:=cs) (i:=i) (c:=c) (by simpa using h);have e:csS (d::cs)=bw d.1::numI (d.2:Int)::csS cs:=rfl;rw [e,show 2 * (i+1)=(2 * i)+1+1 by omega];exact ih
 | [],_,_,h=>by simp at h
theorem v73 (x:Str):(Str.ofString "")++x=x:=by
 apply u43;rw [u88];rfl
theorem vc7 (c:Nat):(if (3:Int) < ((2 * c+1+1+1:Nat):Int) then (((2 * c+1+1+1:Nat):Int) - 3 - 1) / 2+1 else 0).toNat=c:=by
 split <;> omega
theorem uy7 (x i:Nat) (l:List (Nat × Nat)) (c:Nat × Nat):rwS (.turn x i (l++[c]))=rwS (.turn x i l)++[bw c.1,numI (c.2:Int)]:=by
 show (Str.ofString "turn")::_::_::csS (l++[c])=(Str.ofString "turn")::_::_::(csS l++_)
 unfold csS;rw [List.flatMap_append];rfl
theorem vb2 (x i:Nat) (l:List (Nat × Nat)):(rwS (.turn x i l)).length=3+2 * l.length:=by
 show (csS l).length+1+1+1=_
 rw [up3];omega
theorem ve4 {rs:List Row} (hp:Pairs rs) {j:Nat} {r:Row} (h:rs[j]?=some r):∀ x n k,(r=.go x n k \/ r=.come x n k)->k < rs.length:=hp.lt h
theorem sw_b {x:Str} {c:Nat} {r:List Nat} (h:x.cps.toList=c::r):Txt.startswith x (Str.ofString "b")=decide (c=98):=by
 have hb:(Str.ofString "b").cps=#[98]:=by decide
 have hl:(Str.ofString "b").length=1:=by decide
 have e:x.cps=(c::r).toArray:=Array.toList_inj.mp (by rw [h]);unfold Txt.startswith Builtin.Str.subAt;rw [hl,hb,str_len,h,e];have e2:((c::r).toArray.extract 0 (0+1))=#[c]:=by simp
 rw [e2];have e3:decide (0+1<=(c::r).length)=true:=decide_eq_true (by simp);rw [e3,Bool.true_and,Bool.eq_iff_iff,beq_iff_eq,decide_eq_true_iff]
 constructor
 ·intro z
  have:=congrArg Array.toList z;simpa using this
 ·rintro rfl;rfl
theorem up7 {G:Gp} {w:Str} {m:Nat} {q:DK} (hw:w.length<=100000) (hm:m<=9999999999) (f:∀ (k:Nat) G',k<=m->w=numI (k:Int)->Grow G G'->q (.int (k:Int)) G') (b:∀ G',¬ isK m w->Grow G G'->q .non G'):∃ R,uj2 T [.str w,.int (m:Int)] G R /\ ∀ d G',R d G'->q d G' :=
 u18 (post:=fun d G'=>Grow G G' /\ ((∃ k:Nat,k<=m /\ w=numI (k:Int) /\ d=.int (k:Int)) \/ ¬ isK m w /\ d=.non)) (fun R h'=>⟨w,m,rfl,hw,hm,(fun k h1 h2 G' z=>h' _ _ ⟨z,.inl ⟨k,h1,h2,rfl⟩⟩),fun h1 G' z=>h' _ _ ⟨z,.inr ⟨h1,rfl⟩⟩⟩) fun d G' ⟨z,y⟩=>by
  rcases y with ⟨k,h1,h2,rfl⟩ | ⟨h1,rfl⟩
  ·exact f k G' h1 h2 z
  ·exact b G' h1 z
theorem wg6 {G:Gp} {w:Str} {q:DK} (hw:w.length<=100000) (f:∀ (k:Nat) G',k<=9999999999->w=bw k->Grow G G'->q (.int (k:Int)) G') (b:∀ G',¬ isB w->Grow G G'->q .non G'):∃ R,v96 T [.str w] G R /\ ∀ d G',R d G'->q d G' :=
 u18 (post:=fun d G'=>Grow G G' /\ ((∃ k:Nat,k<=9999999999 /\ w=bw k /\ d=.int (k:Int)) \/ ¬ isB w /\ d=.non)) (fun R h'=>⟨w,rfl,hw,(fun k h1 h2 G' z=>h' _ _ ⟨z,.inl ⟨k,h1,h2,rfl⟩⟩),fun h1 G' z=>h' _ _ ⟨z,.inr ⟨h1,rfl⟩⟩⟩) fun d G' ⟨z,y⟩=>by
  rcases y with ⟨k,h1,h2,rfl⟩ | ⟨h1,rfl⟩
  ·exact f k G' h1 h2 z
  ·exact b G' h1 z
theorem u99 {G:Gp} {w:Str} {m:Nat} {q:DK} (hw:w.length<=100000) (hm:m<=9999999999) (f:∀ G',isK m w->Grow G G'->q (.bl true) G') (b:∀ G',¬ isK m w->Grow G G'->q (.bl false) G'):∃ R,ux6 T [.str w,.int ((m:Int)+1)] G R /\ ∀ d G',R d G'->q d G' :=
 u18 (post:=fun d G'=>Grow G G' /\ (isK m w /\ d=.bl true \/ ¬ isK m w /\ d=.bl false)) (fun R h'=>⟨w,m,rfl,hw,hm,(fun h1 G' z=>h' _ _ ⟨z,.inl ⟨h1,rfl⟩⟩),fun h1 G' z=>h' _ _ ⟨z,.inr ⟨h1,rfl⟩⟩⟩) fun d G' ⟨z,y⟩=>by
  rcases y with ⟨h1,rfl⟩ | ⟨h1,rfl⟩
  ·exact f G' h1 z
  ·exact b G' h1 z
theorem vo6 {G:Gp} {w:Str} {q:DK} (hw:w.length<=100000) (f:∀ G',isB w->Grow G G'->q (.bl true) G') (b:∀ G',¬ isB w->Grow G G'->q (.bl false) G'):∃ R,vj4 T [.str w] G R /\ ∀ d G',R d G'->q d G' :=
 u18 (post:=fun d G'=>Grow G G' /\ (isB w /\ d=.bl true \/ ¬ isB w /\ d=.bl false)) (fun R h'=>⟨w,rfl,hw,(fun h1 G' z=>h' _ _ ⟨z,.inl ⟨h1,rfl⟩⟩),fun h1 G' z=>h' _ _ ⟨z,.inr ⟨h1,rfl⟩⟩⟩) fun d G' ⟨z,y⟩=>by
  rcases y with ⟨h1,rfl⟩ | ⟨h1,rfl⟩
  ·exact f G' h1 z
  ·exact b G' h1 z
def cO:Option (Nat × Nat)->D
 | none=>.non
 | some c=>cd c
theorem nnO (os:List (Option (Nat × Nat))):(os.map cO).any nnD=decide (none ∈ os):=by
 induction os with
 | nil=>rfl
 | cons o os ih =>
  rw [List.map_cons,List.any_cons,ih];cases o with
  | none=>simp [cO,nnD]
  | some c=>show (false || _)=_;simp
theorem in2 {w a b:Str} {G:Gp} {q:DK}:xInB false (.str w) (.tup [.str a,.str b]) G q=q (.bl (decide (w ∈ [a,b]))) G:=rfl
theorem v25 {w a b c d e f:Str} {G:Gp} {q:DK}:xInB true (.str w) (.tup [.str a,.str b,.str c,.str d,.str e,.str f]) G q=q (.bl (!decide (w ∈ [a,b,c,d,e,f]))) G:=rfl
theorem nk2 {a b:Str} {m n:Nat}:(∃ ks,NK [a,b] [m,n] ks) ↔ isK m a /\ isK n b:=by
 constructor
 ·rintro ⟨ks,h⟩
  have:=us0 (zs:=[(a,m),(b,n)]) h;exact ⟨this (a,m) (by simp),this (b,n) (by simp)⟩
 ·rintro ⟨⟨x,hx,rfl⟩,y,hy,rfl⟩
  exact ⟨[x,y],rfl,rfl,fun q hq=>by
   simp only [List.zip_cons_cons,List.zip_nil_right,List.mem_cons,List.mem_nil_iff,or_false] at hq
   rcases hq with rfl | rfl
   ·exact hx
   ·exact hy⟩
theorem nk3 {a b c:Str} {m n l:Nat}:(∃ ks,NK [a,b,c] [m,n,l] ks) ↔ isK m a /\ isK n b /\ isK l c:=by
 constructor
 ·rintro ⟨ks,h⟩
  have:=us0 (zs:=[(a,m),(b,n),(c,l)]) h;exact ⟨this (a,m) (by simp),this (b,n) (by simp),this (c,l) (by simp)⟩
 ·rintro ⟨⟨x,hx,rfl⟩,⟨y,hy,rfl⟩,z,hz,rfl⟩
  exact ⟨[x,y,z],rfl,rfl,fun q hq=>by
   simp only [List.zip_cons_cons,List.zip_nil_right,List.mem_cons,List.mem_nil_iff,or_false] at hq
   rcases hq with rfl | rfl | rfl
   ·exact hx
   ·exact hy
   ·exact hz⟩
theorem vm5 {us:List Str} {ms ks:List Nat} (h:NK us ms ks):us.length=ms.length:=by rw [h.1,List.length_map,h.2.1]
theorem w01 {G:Gp} {a b:Addr} {Q:Bool->Prop} (h1:u16 (G a)=some [.bl true,.bl true,.bl false]) (h2:u16 (G b)=some [.bl true,.bl true,.bl false]) (h:Q true) :
  ∃ n sd se r,n<=40 /\ snap G n (.ref a)=some sd /\ snap G n (.ref b)=some se /\ eqN n sd se=some r /\ Q r:=by
 have e:∀ c,u16 (G c)=some [.bl true,.bl true,.bl false]->snap G 1 (.ref c)=some (.lst [.bl true,.bl true,.bl false]):=fun c hc=>by
  show ((u16 (G c)).bind fun ds=>(ds.mapM (snap G 0)).map Sn.lst)=_
  rw [hc];rfl
 exact ⟨1,_,_,true,by decide,e a h1,e b h2,rfl,h⟩
theorem vk4:Txt.split (Str.ofString "32 31 4294967296 4294967295 9999999999 b b0 0 B1 size go") (Str.ofString " ")=([("32" : Str), "31", "4294967296", "4294967295", "9999999999", "b", "b0", "0", "B1", "size", "go"]:List Str):=by
 rw [show Str.ofString "32 31 4294967296 4294967295 9999999999 b b0 0 B1 size go" = jn " " [("32" : Str), "31", "4294967296", "4294967295", "9999999999", "b", "b0", "0", "B1", "size", "go"] by decide];exact vb5 (by simp) (by decide)
def okS (n:Nat) (x:Str):Prop:=x.length<=n /\ fine x
theorem uo2 {n m:Nat} {a b:Str} (h:okS n a) (h':okS m b):okS (n+m) (a++b):=by
 refine ⟨by rw [str_len,u88,List.length_append,<- str_len,<- str_len];exact Nat.add_le_add h.1 h'.1,fun z=>?_⟩;rw [u88] at z;exact (List.mem_append.mp z).elim h.2 h'.2
theorem u64 {n m:Nat} {a:Str} (h:okS n a) (hm:n<=m):okS m a:=⟨Nat.le_trans h.1 hm,h.2⟩
theorem u85 {n:Nat} {a:Str} (h:(decide (a.length<=n) && decide (10 ∉ a.cps.toList))=true):okS n a:=by
 rw [Bool.and_eq_true,decide_eq_true_eq,decide_eq_true_eq] at h;exact h
theorem uz4 {x:Str} {lo hi:Option Int} {c:Nat} (h:c ∈ (Txt.slice x lo hi).cps.toList):c ∈ x.cps.toList:=by
 unfold Txt.slice at h;split at h
 ·exact h
 ·have h:c ∈ (Builtin.Str.strSliceIndices lo hi 1 x.length).filterMap (x.cps[·]?):=h
  obtain ⟨i,_,e⟩:=List.mem_filterMap.mp h;rw [<- Array.getElem?_toList] at e;exact List.mem_of_getElem? e
theorem ud0 {n:Nat} {x:Str} {lo hi:Option Int} (h:okS n x):okS n (Txt.slice x lo hi):=⟨Nat.le_trans (Txt.slice_le x lo hi) h.1,fun z=>h.2 (uz4 z)⟩
theorem u68 {α:Type} (f:α->D) (xs:List α) (lo hi:Option Int):cutD (xs.map f) lo hi=(cutD xs lo hi).map f:=by
 unfold cutD;rw [List.length_map,List.map_take,List.map_drop]
theorem uc1 {α:Type} {xs:List α} {lo hi:Option Int} {x:α} (h:x ∈ cutD xs lo hi):x ∈ xs:=by
 unfold cutD at h;exact List.mem_of_mem_drop (List.mem_of_mem_take h)
theorem uc2 {α:Type} (xs:List α) (lo hi:Option Int):(cutD xs lo hi).length<=xs.length:=by
 unfold cutD;rw [List.length_take,List.length_drop];omega
theorem ub8 {ws:List Str} (h:∀ w ∈ ws,okS 40 w) (hl:ws.length<=15):okS 700 (jn " " ws) /\ Builtin.Str.tooLong ((ws.toArray).foldl (·+·.length+(" " : Str).length) 0)=false /\ (jn " " ws).length<=sizeLine:=by
 have f:=u81 sp1 (B:=40) (N:=15) (fun w hw=>(h w hw).1) hl (by decide);refine ⟨⟨?_,fun z=>?_⟩,f⟩
 ·rw [u86 sp1]
  have:=ua1 (B:=40) fun w hw=>(h w hw).1
  omega
 ·rw [show jn " " ws=Str.join " " ws from StrLaws.glued_eq_join _ _,ub2] at z
  rcases v46 z with e | ⟨w,hw,z⟩
  ·omega
  ·exact (h w hw).2 z
theorem ur7 {n:Nat} {ws:List Str} (h:(ws.all fun z=>(decide (z.length<=n) && decide (10 ∉ z.cps.toList)))=true):∀ z ∈ ws,okS n z:=fun z hz=>u85 (List.all_eq_true.mp h z hz)
theorem v90 {G:Gp} {t:Str} {q:DK} (h:t.length<=100000) (hl:(Txt.split t "\n").length <= 100) (hf : fb (Txt.split t "\n") < 0) (k : ∀ sz rs q' G', uj3 (Txt.split t "\n") sz rs->G q'=none->G' q'=some (.lst (rs.map Row.d))->Grow G G'->q (.tup [.int ((sz:Nat):Int),.ref q']) G'):∃ R,v95 T [.str t] G R noX /\ ∀ d G',R d G'->q d G' :=
 ui9 (post:=fun d G'=>∃ (sz:Nat) (rs:List Row) (q':Addr),uj3 (Txt.split t "\n") sz rs /\ d=.tup [.int (sz:Int),.ref q'] /\ G q'=none /\ G' q'=some (.lst (rs.map Row.d)) /\ Grow G G') (fun R h'=>⟨t,rfl,h,hl,(fun sz rs y0 q' G' y1 y2 y3=>h' _ _ ⟨sz,rs,q',y0,rfl,y1,y2,y3⟩),fun i e=>by omega⟩) fun d G' ⟨sz,rs,q',y0,e,y1,y2,y3⟩=>by subst e;exact k sz rs q' G' y0 y1 y2 y3
theorem uf2 {k:Nat}:FnOk P w K mg base CX0 (k+1) T.f_BadText_init.a T.f_BadText_init.fd ["self", "at"] (uc8 T.e_BadText.C "at") :=
 v99 (L:=T.e_LitterError.C) T.f_BadText_init u73 T.e_BadText.xc T.xa_BadText (fun cdv A outer s H E=>ur6 (v09 (vd8 rfl T.e_LitterError.m T.e_LitterError.b.sp T.e_LitterError.b.rd T.e_LitterError.b.fc (uo1 (pv 0) (uo1 (pv 1) vl8)))) (v07 (vt4 (pv 0) (pv 1))))
end
end Law
set_option compiler.extract_closed false
open PySem L2 L3 Rw in
set_option hygiene false in
local macro_rules | `(tactic| simp! [$xs,*])=>`(tactic| try simp only [dTry,wg5,wg4,v81,ut7,vo3,vz7,wg3,vy3,vg6,vg7,uh3,v82,Int.toNat_natCast,dCall,vi1,wk8,List.append_nil,dSeq,vz9,dAsg,vi2,dRet,wk7,dIfS,dB,dAnd,dOr,dNot,w00,dOrV,vz8,dIf,dVar,dC,dOp,dUn,dNil,ua8,dTup,dLst,dCB,dSl,ux1,ui5,dBM,dBM0,dAug,dFld,wk6,wk9,dYes,ub3,jSub,jSeq,vy0,jNil,w38,w37,wAny,dFor,xSub,xDiv,xMod,xPow,xShl,xShr,xAnd,xOr,xXor,vg5,tyD,uc7,ug3,List.map_cons,List.map_nil,List.cons_append,List.nil_append,List.length_cons,List.length_nil,List.replicate,List.getElem?_cons_zero,List.getElem?_cons_succ,List.set_cons_zero,List.set_cons_succ,Nat.reduceAdd,Nat.reduceSub,Nat.sub_self,u48,uz5,u01,Option.bind_some,Option.bind_none,id,Bool.false_eq_true,if_true,if_false,reduceIte,true_and,and_true,decide_true,decide_false,Bool.not_true,Bool.not_false,vi8,vi7,w07,w06,wl2,we1,we0,wd9,we3,we2,w25,w24,$xs,*])
open L3 in
set_option hygiene false in
local macro_rules | `(tactic| dsimp! [$xs,*])=>`(tactic| (simp only [Go];simp! [$xs,*]))
namespace Law
open PySem L2 L3 Rw
section
variable {P:Program} {w:World} {K:W.Frag} {mg:Str->Option Value} {base:Heap} (T:Txt K mg)
theorem wa5 {n:Nat}:Ok P w mg base (n+1) T.f_jar (uj2 T):=by
 refine u25 T.f_jar sc_jar (fun ds G R h=>?_) (fun cdv A outer s H E hr =>
   (u03 (s_if (t_w (w_or (u13 (x_lt) (u12 u42 rfl T.b_len (by decide) (u00 (ev 0) u02)) u04 (nomark _)) (ug9 (u13 (x_gt) (u12 u42 rfl T.b_len (by decide) (u00 (ev 0) u02)) (u12 u42 rfl T.b_len (by decide) (u00 (u14 u33 rfl T.b_str (by decide) (u00 (ev 1) u02)) u02)) (nomark _))))) (u06 (u17 u38)) u21)
   (u03 (s_if (un5 (un4 (u12 va5 rfl T.b_all (by decide) (u00 (u84 (N':=["sign"]) (ix:=[none]) (blk (osc:=u05 vc1) (N:=["word", "most", "number"]) rfl rfl (by decide)) (we4 (ev 0)) (fun _ _ _ _=>(u27 0 (show (["sign"]:List Str).Nodup by decide))) (fun _ _ _ _=>u44) (fun _ _ _ _=>(ud7 (wh4) (ev 0) (vh7 T.k_FIGURES) (by with_unfolding_all rfl)))) u02)))) (u06 (u17 u38)) u21)
   (u03 (s_if (t_w (w_and (u13 (x_eq hr) (e_ix x_ix (ev 0) u04) u08 (nomark _)) (u90 (u13 (x_gt) (u12 u42 rfl T.b_len (by decide) (u00 (ev 0) u02)) u04 (nomark _))))) (u06 (u17 u38)) u21)
   (u03 (u15 2 sc_jar.nd (u14 uq1 rfl T.b_int (by decide) (u00 (ev 0) u02)))
   (u06 (u17 (e_if (u13 (x_le) (ev 2) (ev 1) (nomark _)) (ev 2) u38)))))))) (fun ds G R h=>?_)
 ·obtain ⟨w,m,rfl,_⟩:=h;rfl
 ·obtain ⟨w,m,rfl,hl,hm,good,bad⟩:=h
  have hz:w.length<=sizeLine:=Nat.le_trans hl (by decide);have hzT:(w.length<=sizeLine)=True:=eq_true hz
  by_cases l1:w.length < 1
  ·have d1:((w.length:Int) < 1)=True:=eq_true (by omega)
   (simp! [lenS,hzT,d1];repeat (simp only [Go];simp! [lenS,hzT,d1]))
   exact bad (fun h=>by have:=ua5 h;omega) _ Grow.refl
  have d1:((w.length:Int) < 1)=False:=eq_false (by omega);simp! [lenS,hzT,d1];refine ⟨(m:Int),rfl,logI (by omega) (by omega),?_⟩;have hmz:=wc2 hm;have h10:=u93 hm;have nI':Str.ofString (toString (m:Int))=numI (m:Int):=rfl;rw [nI']
  by_cases l2:w.length > (numI (m:Int)).length
  ·have d3:((w.length:Int) > ((numI (m:Int)).length:Int))=True:=eq_true (by omega)
   (simp! [lenS,hmz,d3];repeat (simp only [Go];simp! [lenS,hmz,d3]))
   exact bad (fun h=>by have:=v52 h;omega) _ Grow.refl
  have d3:((w.length:Int) > ((numI (m:Int)).length:Int))=False:=eq_false (by omega);simp! [lenS,hmz,d3];dsimp! [wStr];refine ⟨w,rfl,fun p hp=>?_⟩;refine u26 (fun r σ G'=>∃ (l t:List Nat) (v:Option D),l++t=w.cps.toList /\ r=t.map (fun c=>D.str ⟨#[c]⟩) /\ G'=gup G p (.lst ((l.map fun c=>decide (48<=c /\ c<=57)).map .bl)) /\ σ=[v]) ⟨[],_,none,rfl,rfl,rfl,rfl⟩ ?_ ?_
  ·rintro σ G1 ⟨l,t,v,e,e2,rfl,rfl⟩
   refine ⟨trivial,?_⟩;have ht:t=[]:=by simpa using e2.symm
   subst ht;rw [List.append_nil] at e;obtain ⟨G2,hG2⟩:∃ G2,G2=gup G p (.lst ((l.map fun c=>decide (48<=c /\ c<=57)).map .bl)):=⟨_,rfl⟩;have k2:G2 p=some (.lst ((l.map fun c=>decide (48<=c /\ c<=57)).map .bl)):=by rw [hG2];exact u01
   have g2:Grow G G2:=by rw [hG2];exact Grow.refl.new hp
   rw [<- hG2];clear hG2;simp! [k2,u48,u75];have ea:(l.map fun c=>decide (48<=c /\ c<=57)).all id=decide (∀ c ∈ w.cps.toList,48<=c /\ c<=57):=by
    rw [e,Bool.eq_iff_iff,List.all_eq_true,decide_eq_true_iff]
    constructor
    ·intro h c hc
     exact of_decide_eq_true (h _ (List.mem_map.mpr ⟨c,hc,rfl⟩))
    ·intro h b hb
     obtain ⟨c,hc,rfl⟩:=List.mem_map.mp hb;exact decide_eq_true (h c hc)
   rw [ea]
   by_cases hd:¬ ∀ c ∈ w.cps.toList,48<=c /\ c<=57
   ·rw [decide_eq_false hd]
    simp! [id];exact bad (fun h=>hd (ua5 h).2.1) _ g2
   have hd:=Classical.not_not.mp hd;rw [decide_eq_true hd];simp! [id];obtain ⟨c,r,hc⟩:∃ c r,w.cps.toList=c::r:=by
    cases ew:w.cps.toList with
    | nil=>rw [str_len,ew] at l1;exact absurd (by decide) l1
    | cons c r=>exact ⟨c,r,rfl⟩
   dsimp! [ixS,hzT,hc,at0];generalize hN:Go (dSeq _ _ _)=N;have r1:(w.length=1 \/ w.cps.toList.head? ≠ some 48)->N [some (.str w),some (.int (m:Int)),none] G2:=by
    intro h4;obtain ⟨k,ek⟩:∃ k:Nat,w=numI (k:Int):=⟨_,v76 (by omega) hd h4⟩;have hk:k<=9999999999:=vm0 (by rw [<- ek];omega);rw [<- hN];dsimp! [id];refine ⟨_,(k:Int),rfl,by rw [ek];exact ur8 hk,by omega,?_⟩
    by_cases h5:k<=m
    ·have d5:((k:Int)<=(m:Int))=True:=eq_true (by omega)
     simp! [id];dsimp! [d5];exact good k h5 ek _ g2
    ·have d5:((k:Int)<=(m:Int))=False:=eq_false (by omega)
     simp! [id];dsimp! [d5];exact bad (fun z=>h5 (by rw [ek] at z;exact isK_iff.mp z)) _ g2
   by_cases h0:c=48
   ·have d6:({ cps:=#[c] }:Str)=Str.ofString "0" := by rw [h0];exact zero_mk.symm
    rw [if_pos (decide_eq_true d6)]
    by_cases h5:w.length > 1
    ·have d8:((w.length:Int) > 1)=True:=eq_true (by omega)
     simp! [lenS,hzT,d8];refine bad (fun h=>?_) _ g2
     rcases (ua5 h).2.2 with z | z
     ·omega
     ·exact z (by rw [hc,h0];rfl)
    ·have d8:((w.length:Int) > 1)=False:=eq_false (by omega)
     simp! [lenS,hzT,d8];exact r1 (.inl (by omega))
   ·have d6:¬ ({ cps:=#[c] }:Str)=Str.ofString "0" := fun e=>h0 (one_eq.mp (e.trans zero_mk))
    rw [if_neg (by rw [decide_eq_false d6];decide)];exact r1 (.inr (by rw [hc];intro z;cases z;exact h0 rfl))
  ·rintro z r σ G1 ⟨l,t,v,e,e2,rfl,rfl⟩ ih
   cases t with
   | nil=>cases e2
   | cons c t =>
    cases e2;refine ⟨trivial,?_⟩;have hlen:=congrArg List.length e;rw [List.length_append,List.length_cons,<- str_len] at hlen;simp! [id];refine ⟨c,_,rfl,rfl,?_⟩;rw [vh9];simp! [u01];refine ⟨Nat.lt_of_le_of_lt (m:=1000) (by rw [List.length_map,List.length_map];omega) (by decide),ih _ _ ⟨l++[c],t,_,by rw [<- e,List.append_assoc];rfl,rfl,?_,rfl⟩⟩;rw [u65,List.map_append,List.map_append];rfl
theorem w94 {n:Nat} (G_jbd:Ok P w mg base n T.f_jbd (w10 T)):Ok P w mg base (n+1) T.f_jbc (w11 T):=by
 refine u25 T.f_jbc sc_jbc (fun ds G R h=>?_) (fun cdv A outer s H E hr =>
   (u03 (u15 1 sc_jbc.nd (u32 (u00 (u96 u08 (u00 (u32 (u00 u08 (u00 (u14 u33 rfl T.b_str (by decide) (u00 (e_ix x_ix (ev 0) u04) u02)) u02))) u02)) u02)))
   (u03 (uc9 (ut1 (ev 1) (u00 (u84 (N':=["row"]) (ix:=[none]) (blk (osc:=u05 vb8) (N:=["code", "lines"]) rfl rfl (by decide)) (ue9 (e_ix x_ix (ev 0) u04)) (fun _ _ _ _=>(u27 0 (show (["row"]:List Str).Nodup by decide))) (fun _ _ _ _=>u44) (fun _ _ _ _=>(u96 u08 (u00 (ec T.f_jbd T.g_words_of G_jbd hr (u00 (ev 0) u02)) u02)))) u02)))
   (u06 (u17 (u96 u08 (u00 (ev 1) u02))))))) (fun ds G R h=>?_)
 ·obtain ⟨ra,rs,sz,rfl,_⟩:=h;rfl
 ·obtain ⟨ra,rs,sz,rfl,ha,hr,hz,hl,post⟩:=h
  simp! [id];refine ⟨(sz:Int),rfl,logI (by omega) (by omega),by decide,fun p hp=>?_⟩;obtain ⟨f1,f2⟩:=u81 sp1 (B:=11) (N:=7) (ws:=["size",numI (sz:Int)]) (fun w hw=>(uv3 hz w hw).1) (by exact (by decide:2<=7)) (by decide);refine ⟨_,p,["size",numI (sz:Int)],rfl,rfl,by rw [u01];rfl,f1,f2,?_⟩;refine ⟨by decide,fun p2 hp2=>?_⟩;obtain ⟨G1,hG1⟩:∃ G1,G1=gup (gup G p (.lst [D.str "size",D.str (Str.ofString (toString (sz:Int)))])) p2 (.lst [D.str (jn " " ["size",numI (sz:Int)])]):=⟨_,rfl⟩;have g1:Grow G G1:=by rw [hG1];exact (Grow.refl.new hp).trans (Grow.refl.new hp2)
  have k1:G1 p2=some (.lst [D.str (szS sz)]):=by rw [hG1];exact u01
  have f2':G p2=none:=(Grow.refl.new hp).none hp2;rw [<- hG1];clear hG1;have ha1:=g1.kp _ _ ha;dsimp! [ha1];refine ⟨by rw [k1];trivial,?_⟩;intro p3 hp3;refine u26 (fun r σ G'=>∃ (l t:List Row) (v:Option D),l++t=rs /\ r=t.map Row.d /\ Grow G1 G' /\ G' p3=some (.lst ((l.map lnS).map .str)) /\ σ=[v]) ⟨[],rs,none,rfl,rfl,Grow.refl.new hp3,u01,rfl⟩ ?_ ?_
  ·rintro σ G2 ⟨l,t,v,e,e2,g2,k2,rfl⟩
   have ht:t=[]:=by simpa using e2.symm
   subst ht;rw [List.append_nil] at e;subst e;refine ⟨by rw [g2.kp _ _ ha1];rfl,?_⟩;have k12:=g2.kp _ _ k1;simp! [k12,k2];refine ⟨?_,?_⟩
   ·refine Nat.le_trans (m:=5000) ?_ (by decide)
    rw [List.length_map,List.length_map];omega
   ·dsimp! [id]
    obtain ⟨c1,c2⟩:=v86 hz hr hl;exact ⟨_,p2,szS sz::l.map lnS,rfl,rfl,by rw [u01];rfl,c1,c2,post _ ((g1.trans g2).own f2')⟩
  ·rintro z r σ G2 ⟨l,t,v,e,e2,g2,k2,rfl⟩ ih
   cases t with
   | nil=>cases e2
   | cons c t =>
    cases e2;refine ⟨by rw [g2.kp _ _ ha1];rfl,?_⟩;have hc:=hr c (by rw [<- e];simp);have hlen:=congrArg List.length e;rw [List.length_append,List.length_cons] at hlen;simp! [id];refine u18 (post:=fun d G'=>∃ q,d=.ref q /\ G' q=some (.lst ((rwS c).map .str)) /\ Grow G2 G') (fun R h=>⟨c,rfl,hc,fun q G' z1 z2 z3=>h _ _ ⟨q,rfl,z2,z3⟩⟩) ?_;rintro d G3 ⟨q,rfl,kq,g3⟩;obtain ⟨f3,f4⟩:=u81 sp1 (B:=11) (N:=7) (fun w hw=>(uo0 hc w hw).1) (ur0 hc) (by decide);refine ⟨_,q,rwS c,rfl,rfl,by rw [kq];rfl,f3,f4,?_⟩;have k3:=g3.kp _ _ k2;simp! [k3];refine ⟨Nat.lt_of_le_of_lt (m:=5000) (by rw [List.length_map,List.length_map];omega) (by decide),ih _ _ ⟨l++[c],t,_,by rw [<- e];simp,rfl,(g2.trans g3).own hp3,?_,rfl⟩⟩;rw [u01,List.map_append,List.map_append];rfl
theorem w93 {n:Nat} (G_jas:Ok P w mg base n T.f_jas (w16 T)) (G_jaa:Ok P w mg base n T.f_jaa (vj6 T)):Ok P w mg base (n+1) T.f_jbd (w10 T):=by
 refine u25 T.f_jbd sc_jbd (fun ds G R h=>?_) (fun cdv A outer s H E hr =>
   (u03 (s_if (u13 (x_in hr) (e_ix x_ix (ev 0) u04) (u56 (u00 u08 (u00 u08 u02))) (by with_unfolding_all rfl)) (u06 (u17 (u32 (u00 (e_ix x_ix (ev 0) u04) (u00 (u14 u33 rfl T.b_str (by decide) (u00 (e_ix x_ix (ev 0) u04) u02)) (u00 (ec T.f_jas T.g_operand_word G_jas hr (u00 (e_ix x_ix (ev 0) u04) u02)) u02)))))) u21)
   (u03 (s_if (u13 (x_eq hr) (e_ix x_ix (ev 0) u04) u08 (nomark _)) (u03 (u15 1 sc_jbd.nd (u32 (u00 (e_ix x_ix (ev 0) u04) (u00 (u14 u33 rfl T.b_str (by decide) (u00 (e_ix x_ix (ev 0) u04) u02)) (u00 (u14 u33 rfl T.b_str (by decide) (u00 (e_ix x_ix (ev 0) u04) u02)) u02)))))
   (u03 (un8 (ue9 (e_ix x_ix (ev 0) u04)) (u27 2 sc_jbd.nd) (u06 (uc9 (ut1 (ev 1) (u00 (u32 (u00 (ec T.f_jaa T.g_box_word G_jaa hr (u00 (e_ix x_ix (ev 2) u04) u02)) (u00 (u14 u33 rfl T.b_str (by decide) (u00 (e_ix x_ix (ev 2) u04) u02)) u02))) u02)))))
   (u06 (u17 (ev 1))))) u21)
   (u06 (u17 (u11 u23 (u32 (u00 (e_ix x_ix (ev 0) u04) u02)) (u84 (N':=["number"]) (ix:=[none]) (blk (osc:=u05 vb7) (N:=["row", "words", "cond"]) rfl rfl (by decide)) (ue9 (e_sl w26 (ev 0) (u35 u04) u41)) (fun _ _ _ _=>(u27 0 (show (["number"]:List Str).Nodup by decide))) (fun _ _ _ _=>u44) (fun _ _ _ _=>(u14 u33 rfl T.b_str (by decide) (u00 (ev 0) u02)))))))))) (fun ds G R h=>?_)
 ·obtain ⟨r,rfl,_⟩:=h;rfl
 ·obtain ⟨r,rfl,hr,post⟩:=h
  have core:∀ (w0:Str) (ns:List Int),(∀ n ∈ ns,0<=n /\ n<=9999999999)->ns.length<=3->(∀ (q:Addr) (G':Gp),G q=none->G' q=some (.lst (.str w0::ns.map fun n=>.str (numI n)))->Grow G G'->R (.ref q) G') ->
    Go (dRet (dOp xAdd (dLst (ua8 (dOp xIx (dVar 0) (dC (D.int 0))) dNil)) (v82 [none] (wAny (dSl xSlT (dVar 0) (ux1 (dC (D.int 1))) ui5)) (ub3 0) dYes (dCB uq2 (ua8 (dVar 0) dNil)))) { nx:=fun x G'=>R D.non G',rt:=R }) [some (D.tup (.str w0::ns.map .int)),none,none] G:=by
   intro w0 ns hn hl post;dsimp! [id];refine ⟨by decide,fun p hp=>?_⟩;simp! [xSlT];rw [cut1];intro p2 hp2;obtain ⟨G1,hG1⟩:∃ G1,G1=gup G p (.lst [D.str w0]):=⟨_,rfl⟩;have g1:Grow G G1:=by rw [hG1];exact Grow.refl.new hp
   have kp:G1 p=some (.lst [D.str w0]):=by rw [hG1];exact u01
   rw [<- hG1] at hp2 ⊢;clear hG1;refine u26 (fun r σ G'=>∃ (l t:List Int) (v0:Option D),l++t=ns /\ r=t.map D.int /\ Grow G1 G' /\ G' p2=some (.lst (l.map fun n=>D.str (numI n))) /\ σ=[v0]) ⟨[],ns,none,rfl,rfl,Grow.refl.new hp2,u01,rfl⟩ ?_ ?_
   ·rintro σ G2 ⟨l,t,v0,e,e2,g2,k2,rfl⟩
    have ht:t=[]:=by simpa using e2.symm
    subst ht;rw [List.append_nil] at e;subst e;refine ⟨trivial,?_⟩;simp! [u39,g2.kp _ _ kp,k2];refine ⟨Nat.le_trans (m:=10) (by simp;omega) (by decide),fun p4 hp4=>?_⟩;exact post p4 _ (g1.none (g2.none hp4)) u01 ((g1.trans g2).trans (Grow.refl.new hp4))
   ·rintro z r σ G2 ⟨l,t,v0,e,e2,g2,k2,rfl⟩ ih
    cases t with
    | nil=>cases e2
    | cons c t =>
     cases e2;refine ⟨trivial,?_⟩;have hc:=hn c (by rw [<- e];simp);have hlen:=congrArg List.length e;rw [List.length_append,List.length_cons] at hlen;simp! [id];refine ⟨c,rfl,logI hc.1 hc.2,?_⟩;simp! [k2];refine ⟨Nat.lt_of_le_of_lt (m:=1000) (by rw [List.length_map];omega) (by decide),ih _ _ ⟨l++[c],t,_,by rw [<- e];simp,rfl,g2.own hp2,?_,rfl⟩⟩;rw [u01,List.map_append];rfl
  rcases vn0 r with ⟨w0,x,o,hrr,hd,hw⟩ | ⟨x,i,cs,rfl⟩ | ⟨x,y,rfl⟩ | ⟨w0,x,n,k,hrr,hd,h1,h2,h3,h4⟩
  ·have hk:x<=9999999999 /\ opK o:=by rcases hrr with rfl | rfl <;> exact hr
   have e:rwS r=[w0,numI (x:Int),opS o]:=by
    rcases hrr with rfl | rfl
    ·cases hd;rfl
    ·cases hd;rfl
   rw [e] at post;simp only [hd];simp! [u72,u39,hw];refine ⟨(x:Int),rfl,logI (by omega) (by omega),?_⟩;refine uj0 (v:=.str (opS o)) (G1:=G) (fun R h=>⟨o,rfl,hk.2,h⟩) ?_;exact ⟨by decide,fun q hq=>post q _ hq u01 (Grow.refl.new hq)⟩
  ·obtain ⟨hx,hi,hl,hc⟩:=hr
   simp! [Row.d,u72,u39,Bool.true_or,Bool.false_or,Bool.or_true,Bool.or_false];dsimp! [u72];refine ⟨(x:Int),rfl,logI (by omega) (by omega),(i:Int),rfl,logI (by omega) (by omega),by decide,fun p hp=>?_⟩;dsimp! [id];refine u66 (fun r σ G'=>∃ (l t:List (Nat × Nat)) (v:Option D),l++t=cs /\ r=t.map cd /\ Grow G G' /\ G' p=some (.lst ((rwS (.turn x i l)).map .str)) /\ σ=[some (Row.turn x i cs).d,some (.ref p),v]) ⟨[],cs,none,rfl,rfl,Grow.refl.new hp,u01,rfl⟩ ?_ ?_
   ·rintro σ G2 ⟨l,t,v,e,e2,g2,k2,rfl⟩
    have ht:t=[]:=by simpa using e2.symm
    subst ht;rw [List.append_nil] at e;subst e;refine ⟨trivial,?_⟩;dsimp! [id];exact post p G2 hp k2 g2
   ·rintro z r σ G2 ⟨l,t,v,e,e2,g2,k2,rfl⟩ ih
    cases t with
    | nil=>cases e2
    | cons c t =>
     cases e2;refine ⟨trivial,?_⟩;have hc1:=hc c (by rw [<- e];simp);have hlen:=congrArg List.length e;rw [List.length_append,List.length_cons] at hlen;simp! [cd];refine ⟨by rw [k2];trivial,?_⟩;refine uj0 (v:=.str (bw c.1)) (G1:=G2) (fun R h=>⟨c.1,rfl,hc1.1,h⟩) ?_;simp! [id];refine ⟨(c.2:Int),rfl,logI (by omega) (by omega),by decide,fun p3 hp3=>?_⟩;have k3:gup G2 p3 (.lst [D.str (bw c.1),D.str (Str.ofString (toString (c.2:Int)))]) p=some (.lst ((rwS (.turn x i l)).map .str)):=by rw [u07 (gne k2 hp3)];exact k2
     simp! [u01,k3];refine ⟨?_,ih _ _ ⟨l++[c],t,_,by rw [<- e];simp,rfl,((g2.trans (Grow.refl.new hp3))).own hp,?_,rfl⟩⟩
     ·refine Nat.le_trans (m:=20) ?_ (by decide)
      show ((csS l).map D.str).length+1+1+1+2<=20
      rw [List.length_map,up3];omega
     ·rw [u01]
      have e5:rwS (.turn x i (l++[c]))=rwS (.turn x i l)++[bw c.1,numI (c.2:Int)]:=by
       show (Str.ofString "turn")::_::_::csS (l++[c])=(Str.ofString "turn")::_::_::(csS l++_)
       unfold csS;rw [List.flatMap_append];rfl
      rw [e5,List.map_append];rfl
  ·have hk:x<=9999999999 /\ y<=9999999999:=hr
   simp! [Row.d,u72,u39,Bool.true_or,Bool.false_or,Bool.or_true,Bool.or_false];dsimp! [u72];refine core _ [(x:Int),(y:Int)] (fun n hn=>?_) (by simp) post
   rcases List.mem_cons.mp hn with e | hn
   ·rw [e];omega
   ·rw [List.mem_singleton.mp hn];omega
  ·have hk:x<=9999999999 /\ (0<=n /\ n < 4294967296) /\ k<=9999999999:=by rcases hrr with rfl | rfl <;> exact hr
   have e:rwS r=[w0,numI (x:Int),numI n,numI (k:Int)]:=by
    rcases hrr with rfl | rfl
    ·cases hd;rfl
    ·cases hd;rfl
   rw [e] at post;simp only [hd];simp! [u72,u39,h1,h2,h3,h4];dsimp! [h2];refine core _ [(x:Int),n,(k:Int)] (fun n hn=>?_) (by simp) post
   rcases List.mem_cons.mp hn with e | hn
   ·rw [e];omega
   rcases List.mem_cons.mp hn with e | hn
   ·rw [e];omega
   ·rw [List.mem_singleton.mp hn];omega
theorem wa4 {n:Nat} (G_jaa:Ok P w mg base n T.f_jaa (vj6 T)):Ok P w mg base (n+1) T.f_jas (w16 T):=by
 refine u25 T.f_jas vk9 (fun ds G R h=>?_) (fun cdv A outer s H E hr =>
   (u06 (u17 (e_if (u13 (x_eq hr) (e_ix x_ix (ev 0) u04) u08 (nomark _)) (ec T.f_jaa T.g_box_word G_jaa hr (u00 (e_ix x_ix (ev 0) u04) u02)) (u14 u33 rfl T.b_str (by decide) (u00 (e_ix x_ix (ev 0) u04) u02)))))) (fun ds G R h=>?_)
 ·obtain ⟨o,rfl,_⟩:=h;rfl
 ·obtain ⟨o,rfl,ho,post⟩:=h
  cases o with
  | num n =>
   simp! [Opd.d];refine ⟨n,rfl,logI ho.1 (by have:=ho.2;omega),?_⟩;exact post
  | box y =>
   simp! [Opd.d];exact uj0 (v:=.str (bw y)) (G1:=G) (fun R h=>⟨y,rfl,ho,h⟩) post
theorem wc1 {n:Nat}:Ok P w mg base (n+1) T.f_jaa (vj6 T):=by
 refine u25 T.f_jaa vl4 (fun ds G R h=>?_) (fun cdv A outer s H E hr =>
   (u06 (u17 (u11 u23 u08 (u14 u33 rfl T.b_str (by decide) (u00 (ev 0) u02)))))) (fun ds G R h=>?_)
 ·obtain ⟨k,rfl,_⟩:=h;rfl
 ·obtain ⟨k,rfl,hk,post⟩:=h
  simp! [id];refine ⟨(k:Int),rfl,logI (by omega) (by omega),?_⟩;have h2:=u93 hk;have d:((Str.ofString "b").length+(numI (k:Int)).length<=sizeLine)=True:=eq_true (Nat.le_trans (m:=20) (by show 1+_<=_;omega) (by decide))
  (simp! [addS,nI,d];repeat (simp only [Go];simp! [addS,nI,d]))
  exact post
theorem wa1 {n:Nat} (G_jba:Ok P w mg base (n+2) T.f_jba (w13 T)) (G_jaz:Ok P w mg base (n+2) T.f_jaz (w14 T)):OkX P w mg base (n+3) T.f_jav (v95 T):=by
 refine vz6 T.f_jav sc_jav (fun ds G R r h=>?_) (fun cdv A outer s H E r hr =>
   (u03 (u15 1 sc_jav.nd (u67 (ev 0) (u00 u08 u02)))
   (u03 (u15 2 sc_jav.nd (ec T.f_jba T.g_read_size G_jba hr (u00 (u67 (e_ix x_ix (ev 1) u04) (u00 u08 u02)) u02)))
   (u03 (s_if (u13 (uc4) (ev 2) u38 (nomark _)) (u06 (uz8 T.xm_BadText (uf2 T) hr T.f_BadText_init.b T.e_BadText.m (u00 u04 u02))) u21)
   (u03 (u15 3 sc_jav.nd (u32 u02))
   (u03 (un8 (vy6 rfl T.b_enumerate (u00 (e_sl x_sl (ev 1) (u35 u04) u41) u02)) (v47 (n:=2) rfl (u55 (u27 4 sc_jav.nd) (u55 (u27 5 sc_jav.nd) ul3))) (u03 (u15 6 sc_jav.nd (ec T.f_jaz T.g_read_row G_jaz hr (u00 (u67 (ev 5) (u00 u08 u02)) u02)))
   (u03 (s_if (u13 (uc4) (ev 6) u38 (nomark _)) (u06 (uz8 T.xm_BadText (uf2 T) hr T.f_BadText_init.b T.e_BadText.m (u00 (ev 4) u02))) u21)
   (u06 (uc9 (u97 (ev 3) (u00 (ev 6) u02)))))) (hp:=vp1 ut8))
   (u06 (u17 (u56 (u00 (ev 2) (u00 (ev 3) u02))))))))))) (fun ds G R r h=>?_)
 ·obtain ⟨t,rfl,_⟩:=h;rfl
 ·obtain ⟨t,rfl,hl,hls,good,bad⟩:=h
  have hz:t.length<=sizeLine:=Nat.le_trans hl (by decide);simp! [id];refine ⟨t,_,rfl,rfl,by decide,hz,Nat.le_trans hls (by decide),fun p hp=>?_⟩;have hne:=u77 t "\n";have hml : ∀ x ∈ Txt.split t "\n", x.length<=100000:=fun x hx=>Nat.le_trans (uh0 vw2 hx) hl
  rw [show Txt.split t (Str.ofString "\n") = Txt.split t "\n" from rfl];generalize Txt.split t "\n"=ls at hne hml hls good bad ⊢;obtain ⟨l0, lt, rfl⟩:∃ l0 lt, ls=l0::lt:=by
   cases ls with
   | nil=>exact absurd rfl hne
   | cons a b=>exact ⟨a, b, rfl⟩
  obtain ⟨G1, hG1⟩:∃ G1, G1=gup G p (.lst ((l0::lt).map D.str)):=⟨_, rfl⟩;have g1:Grow G G1:=by rw [hG1];exact Grow.refl.new hp
  have k1:G1 p=some (.lst (.str l0::lt.map D.str)):=by rw [hG1];exact u01
  rw [<- hG1];clear hG1;have words:∀ l:Str, l.length<=100000->∃ (w:Str) (us:List Str), Txt.split l " " = w::us /\ (∀ x ∈ w::us,x.length<=100000) /\ us.length<=100000:=fun l hl=>by
   have h1:=un7 ub2 l;have h2:∀ x ∈ Txt.split l " ",x.length<=100000:=fun x hx=>Nat.le_trans (uh0 ub2 hx) hl
   cases e:Txt.split l " " with
   | nil=>exact absurd e (u77 l " ")
   | cons w us=>rw [e] at h1 h2;exact ⟨w,us,rfl,h2,by rw [List.length_cons] at h1;omega⟩
  have l0l:=hml l0 List.mem_cons_self;obtain ⟨w0,u0,e0,m0,n0⟩:=words l0 l0l;dsimp! [k1,at0];refine ⟨l0,_,rfl,rfl,by decide,Nat.le_trans l0l (by decide),by rw [show Txt.split l0 (Str.ofString " ")=w0::u0 from e0,List.length_cons];exact Nat.le_trans (m:=100001) (by omega) (by decide),fun p2 hp2=>?_⟩;rw [show Txt.split l0 (Str.ofString " ")=w0::u0 from e0];refine u18 (post:=fun d G'=>Grow G1 G' /\ ((∃ sz:Nat,sz<=9999999999 /\ Txt.split l0 " " = [("size" : Str),numI (sz:Int)] /\ d=.int (sz:Int)) \/ ¬ isZ (Txt.split l0 " ") /\ d=.non)) (fun R h=>⟨p2,w0,u0,rfl,u01,m0,n0,(fun sz y1 y2 y3 G' z=>h _ _ ⟨(Grow.refl.new hp2).trans z,.inl ⟨sz,y1,by rw [e0,y2,y3],rfl⟩⟩),fun y G' z=>h _ _ ⟨(Grow.refl.new hp2).trans z,.inr ⟨by rw [e0];exact y,rfl⟩⟩⟩) ?_;rintro d G2 ⟨g2,hd⟩
  rcases hd with ⟨sz,hsz,esz,rfl⟩ | ⟨hnz,rfl⟩
  ·simp! [id]
   dsimp! [id];dsimp! [id];refine ⟨by decide,fun q hq=>?_⟩;have fq:G q=none:=g1.none (g2.none hq);obtain ⟨G3,hG3⟩:∃ G3,G3=gup G2 q (.lst []):=⟨_,rfl⟩;have g3:Grow G2 G3:=by rw [hG3];exact Grow.refl.new hq
   have k3:G3 q=some (.lst []):=by rw [hG3];exact u01
   rw [<- hG3];clear hG3;have k13:=g3.kp _ _ (g2.kp _ _ k1);dsimp! [uy4,k13];intro p4 hp4;rw [cut1];simp! [u01];obtain ⟨G4,hG4⟩:∃ G4,G4=gup G3 p4 (.lst (lt.map D.str)):=⟨_,rfl⟩;have g4:Grow G3 G4:=by rw [hG4];exact Grow.refl.new hp4
   have k4:G4 p4=some (.lst (lt.map D.str)):=by rw [hG4];exact u01
   have kq4:=g4.kp _ _ k3;rw [<- hG4];clear hG4;have gg:Grow G G4:=g1.trans (g2.trans (g3.trans g4));have nq:p4 ≠ q:=fun z=>by rw [z,k3] at hp4;cases hp4
   have f0:fb (l0::lt)=fbR 1 lt:=v67 ⟨sz,hsz,esz⟩;refine u66 (fun r σ G'=>∃ (l tt:List Str) (rs:List Row) (v4 v5 v6:Option D),l++tt=lt /\ r=enD (l.length+1) (tt.map .str) /\ Grow G G' /\ G' p4=some (.lst (lt.map D.str)) /\ G' q=some (.lst (rs.map Row.d)) /\ (∀ r ∈ rs,rK r) /\ l.map (fun l=>Txt.split l " ")=rs.map rwS /\ fb (l0::lt)=fbR (l.length+1) tt /\ σ=[some (.str t),some (.ref p),some (.int (sz:Int)),some (.ref q),v4,v5,v6]) ⟨[],lt,[],none,none,none,rfl,rfl,gg,k4,kq4,by simp,rfl,f0,rfl⟩ ?_ ?_
   ·rintro σ G5 ⟨l,tt,rs,v4,v5,v6,e,e2,g5,k5,kq,hrk,em,ef,rfl⟩
    have ht:tt=[]:=by
     cases tt with
     | nil=>rfl
     | cons x t=>cases e2
    subst ht;rw [List.append_nil] at e;subst e;refine ⟨by rw [k5];rfl,?_⟩;dsimp! [id];exact ⟨by decide,good sz rs ⟨hsz,hrk,by rw [List.map_cons,esz,em]⟩ q _ fq kq g5⟩
   ·rintro z r σ G5 ⟨l,tt,rs,v4,v5,v6,e,e2,g5,k5,kq,hrk,em,ef,rfl⟩ ih
    cases tt with
    | nil=>cases e2
    | cons c tt =>
     cases e2;refine ⟨by rw [k5];rfl,?_⟩;have hlen:=congrArg List.length e;rw [List.length_append,List.length_cons] at hlen;have hml2:=congrArg List.length em;rw [List.length_map,List.length_map] at hml2;rw [List.length_cons] at hls;have cl:=hml c (List.mem_cons_of_mem _ (by rw [<- e];simp));obtain ⟨w1,u1,e1,m1,n1⟩:=words c cl;simp! [id];refine ⟨c,_,rfl,rfl,by decide,Nat.le_trans cl (by decide),by rw [show Txt.split c (Str.ofString " ")=w1::u1 from e1,List.length_cons];exact Nat.le_trans (m:=100001) (by omega) (by decide),fun p6 hp6=>?_⟩;rw [show Txt.split c (Str.ofString " ")=w1::u1 from e1];refine u18 (post:=fun d G'=>Grow G5 G' /\ ((∃ r,rK r /\ Txt.split c " " = rwS r /\ d=r.d) \/ ¬ isR (Txt.split c " ") /\ d=.non)) (fun R h=>⟨p6,w1,u1,rfl,u01,m1,n1,(fun r y1 y2 G' z=>h _ _ ⟨(Grow.refl.new hp6).trans z,.inl ⟨r,y1,by rw [e1,y2],rfl⟩⟩),fun y G' z=>h _ _ ⟨(Grow.refl.new hp6).trans z,.inr ⟨by rw [e1];exact fun hr=>y (vn2 hr),rfl⟩⟩⟩) ?_;rintro d G6 ⟨g6,hd⟩;have k6:=g6.kp _ _ k5;have kq6:=g6.kp _ _ kq
     rcases hd with ⟨c',hc,ec,rfl⟩ | ⟨hnr,rfl⟩
     ·obtain ⟨ds,hds⟩:∃ ds,c'.d=.tup ds:=by cases c' <;> exact ⟨_,rfl⟩
      rw [hds];simp! [id];dsimp! [id];dsimp! [kq6];refine ⟨Nat.lt_of_le_of_lt (m:=5000) (by rw [List.length_map];omega) (by decide),ih _ _ ⟨l++[c],tt,rs++[c'],_,_,_,by rw [<- e];simp,by rw [List.length_append];rfl,(g5.trans g6).own fq,?_,?_,fun y hy=>(List.mem_append.mp hy).elim (hrk y) fun z=>by rw [List.mem_singleton.mp z];exact hc,?_,?_,rfl⟩⟩
      ·rw [u07 nq];exact k6
      ·rw [u01,<- hds,List.map_append];rfl
      ·rw [List.map_append,List.map_append,em]
       show _++[Txt.split c " "]=_++[rwS c']
       rw [ec]
      ·rw [ef,up0 ⟨c',hc,ec⟩,List.length_append];rfl
     ·simp! [id]
      dsimp! [id];have ei:((l.length+1:Nat):Int)=((l.length+1:Nat):Int):=rfl;exact bad (l.length+1) (by rw [ef,vn5 hnr]) _ (g5.trans g6)
  ·simp! [id]
   dsimp! [id];exact bad 0 (vz0 hnz) _ (g1.trans g2)
theorem w96 {n:Nat} (G_jar:Ok P w mg base n T.f_jar (uj2 T)):Ok P w mg base (n+1) T.f_jba (w13 T):=by
 refine u25 T.f_jba vk6 (fun ds G R h=>?_) (fun cdv A outer s H E hr =>
   (u06 (u17 (e_if (t_w (w_and (u13 (x_eq hr) (u12 u42 rfl T.b_len (by decide) (u00 (ev 0) u02)) u04 (nomark _)) (u90 (u13 (x_eq hr) (e_ix x_ix (ev 0) u04) u08 (nomark _))))) (ec T.f_jar T.g_number_in G_jar hr (u00 (e_ix x_ix (ev 0) u04) (u00 (u52 T.k_GREATEST) u02))) u38)))) (fun ds G R h=>?_)
 ·obtain ⟨wa,w,us,rfl,_⟩:=h;rfl
 ·obtain ⟨wa,w,us,rfl,k0,hl,hn,good,bad⟩:=h
  have l1:(us.length+1<=sizeLine)=True:=eq_true (Nat.le_trans (m:=100001) (by omega) (by decide));have k0:G wa=some (.lst (.str w::us.map .str)):=k0
  by_cases h1:¬ us.length=1
  ·have e3:(((us.length+1:Nat):Int)=2)=False:=eq_false (by omega)
   simp! [k0,List.length_cons,List.length_map,e3,l1];exact bad (fun ⟨sz,_,e⟩=>h1 (by injection e with _ e;rw [e];rfl)) _ Grow.refl
  have h1:=Classical.not_not.mp h1;obtain ⟨a,rfl⟩:∃ a,us=[a]:=List.length_eq_one_iff.mp h1;have k0:G wa=some (.lst [.str w,.str a]):=k0
  by_cases hw:w=Str.ofString "size"
  ·have d1:(w=Str.ofString "size")=True:=eq_true hw
   simp! [k0,d1];refine up7 T (m:=9999999999) (hl a (by simp)) (Nat.le_refl _) (fun x G1 hx ex g1=>?_) fun G1 hnx g1=>?_
   ·exact good x hx hw (by rw [ex]) _ g1
   ·exact bad (fun ⟨sz,h2,e⟩=>hnx (by cases e;exact ⟨sz,h2,rfl⟩)) _ g1
  ·have d1:(w=Str.ofString "size")=False:=eq_false hw
   simp! [k0,d1];exact bad (fun ⟨sz,h2,e⟩=>hw (by cases e;rfl)) _ Grow.refl
theorem w97 {n:Nat} (G_jax:Ok P w mg base n T.f_jax (v94 T)) (G_jau:Ok P w mg base n T.f_jau (vj1 T)) (G_jbb:Ok P w mg base n T.f_jbb (w12 T)):Ok P w mg base (n+1) T.f_jaz (w14 T):=by
 refine u25 T.f_jaz vk7 (fun ds G R h=>?_) (fun cdv A outer s H E hr =>
   (u03 (s_if (u13 (x_in hr) (e_ix x_ix (ev 0) u04) (u56 (u00 u08 (u00 u08 u02))) (by with_unfolding_all rfl)) (u06 (u17 (ec T.f_jau T.g_read_change G_jau hr (u00 (ev 0) u02)))) u21)
   (u03 (s_if (u13 (x_eq hr) (e_ix x_ix (ev 0) u04) u08 (nomark _)) (u06 (u17 (ec T.f_jbb T.g_read_turn G_jbb hr (u00 (ev 0) u02)))) u21)
   (u03 (s_if (u13 (x_eq hr) (e_ix x_ix (ev 0) u04) u08 (nomark _)) (u06 (u17 (ec T.f_jax T.g_read_numbers G_jax hr (u00 (ev 0) (u00 (u32 (u00 (u52 T.k_GREATEST) (u00 (u52 T.k_GREATEST) u02))) u02))))) u21)
   (u03 (s_if (u13 (x_in hr) (e_ix x_ix (ev 0) u04) (u56 (u00 u08 (u00 u08 u02))) (by with_unfolding_all rfl)) (u06 (u17 (ec T.f_jax T.g_read_numbers G_jax hr (u00 (ev 0) (u00 (u32 (u00 (u52 T.k_GREATEST) (u00 (u11 um8 (u52 T.k_NUMBERS) u04) (u00 (u52 T.k_GREATEST) u02)))) u02))))) u21)
   (u06 (u17 u38))))))) (fun ds G R h=>?_)
 ·obtain ⟨wa,w,us,rfl,_⟩:=h;rfl
 ·obtain ⟨wa,w,us,rfl,k0,hl,hn,good,bad⟩:=h
  have k1:G wa=some (.lst (.str w::us.map .str)):=k0;have z2:(2<=sizeLine)=True:=eq_true (by decide);have z3:(3<=sizeLine)=True:=eq_true (by decide);have nums:∀ (G1:Gp) (ma:Addr) (ms:List Nat) (q:DK),G1 wa=some (.lst ((w::us).map .str))->G1 ma=some (.lst (ms.map fun m:Nat=>.int (m:Int)))->(∀ m ∈ ms,m<=9999999999)->ms.length<=3->(∀ ks G',NK us ms ks->Grow G1 G'->q (.tup (.str w::ks.map fun k:Nat=>.int (k:Int))) G')->(∀ G',(¬ ∃ ks,NK us ms ks)->Grow G1 G'->q .non G')->∃ R,v94 T [.ref wa,.ref ma] G1 R /\ ∀ d G',R d G'->q d G' :=
   fun G1 ma ms q h1 h2 h3 h4 f g=>u18 (post:=fun d G'=>Grow G1 G' /\ ((∃ ks,NK us ms ks /\ d=.tup (.str w::ks.map fun k:Nat=>.int (k:Int))) \/ (¬ ∃ ks,NK us ms ks) /\ d=.non)) (fun R h'=>⟨wa,ma,w,us,ms,rfl,h1,h2,hl,hn,h3,h4,(fun ks hk G' z=>h' _ _ ⟨z,.inl ⟨ks,hk,rfl⟩⟩),fun hk G' z=>h' _ _ ⟨z,.inr ⟨hk,rfl⟩⟩⟩) fun d G' ⟨z,y⟩=>by
    rcases y with ⟨ks,hk,rfl⟩ | ⟨hk,rfl⟩
    ·exact f ks G' hk z
    ·exact g G' hk z
  have chg:(w = "add" \/ w = "take")->∃ R',vj1 T [.ref wa] G R' /\ ∀ d G',R' d G'->R d G':=fun hw =>
   u18 (post:=fun d G'=>Grow G G' /\ ((∃ (x:Nat) (o:Opd),x<=9999999999 /\ opK o /\ us=[numI (x:Int),opS o] /\ d=.tup [.str w,.int (x:Int),o.d]) \/ (¬ ∃ a b,us=[a,b] /\ isK 9999999999 a /\ isO b) /\ d=.non)) (fun R h'=>⟨wa,w,us,rfl,k0,hl,hn,(fun x o y1 y2 y3 G' z=>h' _ _ ⟨z,.inl ⟨x,o,y1,y2,y3,rfl⟩⟩),fun y G' z=>h' _ _ ⟨z,.inr ⟨y,rfl⟩⟩⟩) fun d G' ⟨z,y⟩=>by
    rcases y with ⟨x,o,y1,y2,y3,rfl⟩ | ⟨y,rfl⟩
    ·rcases hw with rfl | rfl
     ·exact good (.add x o) ⟨y1,y2⟩ (by rw [y3];rfl) _ z
     ·exact good (.take x o) ⟨y1,y2⟩ (by rw [y3];rfl) _ z
    ·refine bad (fun hr=>y ?_) _ z
     rcases hw with rfl | rfl
     ·cases hr with
      | add h1 h2=>exact ⟨_,_,rfl,h1,h2⟩
     ·cases hr with
      | take h1 h2=>exact ⟨_,_,rfl,h1,h2⟩
  by_cases w1:w = "add"
  ·have d1:(w ∈ [Str.ofString "add",Str.ofString "take"])=True:=eq_true (by rw [w1];simp)
   (simp! [k1,at0,in2,z2,z3,d1];repeat (simp only [Go];simp! [k1,at0,in2,z2,z3,d1]))
   exact chg (.inl w1)
  by_cases w2:w = "take"
  ·have d1:(w ∈ [Str.ofString "add",Str.ofString "take"])=True:=eq_true (by rw [w2];simp)
   (simp! [k1,at0,in2,z2,z3,d1];repeat (simp only [Go];simp! [k1,at0,in2,z2,z3,d1]))
   exact chg (.inr w2)
  clear chg;have d1:(w ∈ [Str.ofString "add",Str.ofString "take"])=False:=eq_false (by simp;exact ⟨w1,w2⟩)
  by_cases w3:w = "turn"
  ·have d2:(w=Str.ofString "turn")=True:=eq_true w3
   (simp! [k1,at0,in2,z2,z3,d1,d2];repeat (simp only [Go];simp! [k1,at0,in2,z2,z3,d1,d2]))
   subst w3;refine u18 (post:=fun d G'=>Grow G G' /\ ((∃ x i cs,rK (.turn x i cs) /\ Str.ofString "turn" :: us=rwS (.turn x i cs) /\ d=(Row.turn x i cs).d) \/ ¬ RW "turn" us /\ d=.non)) (fun R h'=>⟨wa,us,rfl,k0,(fun x hx=>hl x (List.mem_cons_of_mem _ hx)),hn,(fun x i cs y1 y2 G' z=>h' _ _ ⟨z,.inl ⟨x,i,cs,y1,y2,rfl⟩⟩),fun y G' z=>h' _ _ ⟨z,.inr ⟨y,rfl⟩⟩⟩) ?_;rintro d G' ⟨z,⟨x,i,cs,y1,y2,rfl⟩ | ⟨y,rfl⟩⟩
   ·exact good _ y1 y2 _ z
   ·exact bad y _ z
  have d2:(w=Str.ofString "turn")=False:=eq_false w3
  by_cases w4:w = "swap"
  ·have d3:(w=Str.ofString "swap")=True:=eq_true w4
   (simp! [k1,at0,in2,z2,z3,d1,d2,d3];repeat (simp only [Go];simp! [k1,at0,in2,z2,z3,d1,d2,d3]))
   intro p hp;have g0:Grow G (gup G p (.lst [D.int 9999999999,D.int 9999999999])):=Grow.refl.new hp;refine nums _ p [9999999999,9999999999] _ (g0.kp _ _ k0) u01 (by simp) (by simp) (fun ks G' hk z=>?_) fun G' hk z=>?_
   ·subst w4
    have hle:=vm5 hk
    match us,hle with
    | [a,b],_ =>
     match ks,hk with
     | [x,y],⟨e1,_,e3⟩ =>
      cases e1;exact good (.swap x y) ⟨e3 (x,9999999999) (by simp),e3 (y,9999999999) (by simp)⟩ rfl _ (g0.trans z)
     | [],⟨e1,_,_⟩=>cases e1
     | [_],⟨e1,_,_⟩=>cases e1
     | _::_::_::_,⟨e1,_,_⟩=>cases e1
   ·refine bad (fun hr=>hk ?_) _ (g0.trans z)
    subst w4;cases hr with
    | swap h1 h2=>exact nk2.mpr ⟨h1,h2⟩
  have d3:(w=Str.ofString "swap")=False:=eq_false w4
  by_cases w5:w = "go" \/ w = "come"
  ·have d4:(w ∈ [Str.ofString "go",Str.ofString "come"])=True:=eq_true (by simpa using w5)
   (simp! [k1,at0,in2,z2,z3,d1,d2,d3,d4];repeat (simp only [Go];simp! [k1,at0,in2,z2,z3,d1,d2,d3,d4]))
   intro p hp;have g0:Grow G (gup G p (.lst [D.int 9999999999,D.int (4294967296 - 1),D.int 9999999999])):=Grow.refl.new hp;refine nums _ p [9999999999,4294967295,9999999999] _ (g0.kp _ _ k0) u01 (by simp) (by simp) (fun ks G' hk z=>?_) fun G' hk z=>?_
   ·have hle:=vm5 hk
    match us,hle with
    | [a,b,c],_ =>
     match ks,hk with
     | [x,n,k],⟨e1,_,e3⟩ =>
      cases e1;have y1:=e3 (x,9999999999) (by simp);have y2:=e3 (n,4294967295) (by simp);have y3:=e3 (k,9999999999) (by simp);have y2:n<=4294967295:=y2
      rcases w5 with rfl | rfl
      ·exact good (.go x (n:Int) k) ⟨y1,⟨by omega,by omega⟩,y3⟩ rfl _ (g0.trans z)
      ·exact good (.come x (n:Int) k) ⟨y1,⟨by omega,by omega⟩,y3⟩ rfl _ (g0.trans z)
     | [],⟨e1,_,_⟩=>cases e1
     | [_],⟨e1,_,_⟩=>cases e1
     | [_,_],⟨e1,_,_⟩=>cases e1
     | _::_::_::_::_,⟨e1,_,_⟩=>cases e1
   ·refine bad (fun hr=>hk ?_) _ (g0.trans z)
    rcases w5 with rfl | rfl
    ·cases hr with
     | go h1 h2 h3=>exact nk3.mpr ⟨h1,h2,h3⟩
    ·cases hr with
     | come h1 h2 h3=>exact nk3.mpr ⟨h1,h2,h3⟩
  have d4:(w ∈ [Str.ofString "go",Str.ofString "come"])=False:=eq_false (by simpa using w5)
  (simp! [k1,at0,in2,z2,z3,d1,d2,d3,d4];repeat (simp only [Go];simp! [k1,at0,in2,z2,z3,d1,d2,d3,d4]))
  refine bad (fun hr=>?_) _ Grow.refl;cases hr with
  | add=>exact w1 rfl
  | take=>exact w2 rfl
  | swap=>exact w4 rfl
  | go=>exact w5 (.inl rfl)
  | come=>exact w5 (.inr rfl)
  | t0=>exact w3 rfl
  | t1=>exact w3 rfl
  | t2=>exact w3 rfl
theorem w99 {n:Nat} (G_jar:Ok P w mg base n T.f_jar (uj2 T)):Ok P w mg base (n+1) T.f_jax (v94 T):=by
 refine u25 T.f_jax sc_jax (fun ds G R h=>?_) (fun cdv A outer s H E hr =>
   (u03 (s_if (u13 (x_ne hr) (u12 u42 rfl T.b_len (by decide) (u00 (ev 0) u02)) (u11 u23 u04 (u12 u42 rfl T.b_len (by decide) (u00 (ev 1) u02))) (nomark _)) (u06 (u17 u38)) u21)
   (u03 (uq9 2 sc_jax.nd (N':=["word", "most"]) (ix:=[none,none]) (blk (osc:=u05 vc0) (N:=["words", "mosts", "numbers"]) rfl rfl (by decide)) (wk3 rfl T.b_zip (u00 (e_sl x_sl (ev 0) (u35 u04) u41) (u00 (ev 1) u02))) (fun _ _ _ _=>(v47 (n:=2) rfl (u55 (u27 0 (show (["word", "most"]:List Str).Nodup by decide)) (u55 (u27 1 (show (["word", "most"]:List Str).Nodup by decide)) ul3)))) (fun _ _ _ _=>u44) (fun _ _ _ _=>(ec T.f_jar T.g_number_in G_jar hr (u00 (ev 0) (u00 (ev 1) u02)))))
   (u06 (u17 (e_if (u13 (wh5 hr) u38 (ev 2) (by with_unfolding_all rfl)) u38 (u14 uc3 rfl T.b_tuple (by decide) (u00 (u11 u23 (e_sl x_sl (ev 0) u41 (u35 u04)) (ev 2)) u02)))))))) (fun ds G R h=>?_)
 ·obtain ⟨wa,ma,w,us,ms,rfl,_⟩:=h;rfl
 ·obtain ⟨wa,ma,w,us,ms,rfl,k0,km0,hl,hn,hm,h3,good,bad⟩:=h
  have l1:(us.length+1<=sizeLine)=True:=eq_true (Nat.le_trans (m:=100001) (by omega) (by decide));have l2:(ms.length<=sizeLine)=True:=eq_true (Nat.le_trans (m:=10) (by omega) (by decide));have k0:G wa=some (.lst (.str w::us.map .str)):=k0
  by_cases hne:¬ us.length=ms.length
  ·have e3:(((us.length+1:Nat):Int)=1+(ms.length:Int))=False:=eq_false (by omega)
   simp! [k0,km0,List.length_cons,List.length_map,e3,l1,l2];exact bad (fun ⟨ks,h1,h2,_⟩=>hne (by rw [h1,List.length_map,h2])) _ Grow.refl
  have hne:=Classical.not_not.mp hne;have e3:(((us.length+1:Nat):Int)=1+(ms.length:Int))=True:=eq_true (by omega);simp! [k0,km0,List.length_cons,List.length_map,e3,l1,l2];obtain ⟨zs,e1,e2⟩:∃ zs:List (Str × Nat),us=zs.map (·.1) /\ ms=zs.map (·.2):=⟨us.zip ms,by rw [List.map_fst_zip (by omega)],by rw [List.map_snd_zip (by omega)]⟩;subst e1;subst e2;rw [List.length_map] at h3;have km0:G ma=some (.lst (zs.map fun z=>.int (z.2:Int))):=by rw [km0,List.map_map];rfl
  have k0:G wa=some (.lst (.str w::zs.map fun z=>.str z.1)):=by rw [k0,List.map_map];rfl
  dsimp! [wZip,k0,km0];intro p hp;rw [cut1,u07 (gne km0 hp),km0];simp! [id];intro p2 hp2;obtain ⟨G1,hG1⟩:∃ G1,G1=gup G p (.lst (zs.map fun z=>D.str z.1)):=⟨_,rfl⟩;have g1:Grow G G1:=by rw [hG1];exact Grow.refl.new hp
  have kp:G1 p=some (.lst (zs.map fun z=>D.str z.1)):=by rw [hG1];exact u01
  rw [<- hG1] at hp2 ⊢;clear hG1;have kw:=g1.kp _ _ k0;have km:=g1.kp _ _ km0;refine u26 (fun r σ G'=>∃ (l t:List (Str × Nat)) (os:List (Option Nat)) (v0 v1:Option D),l++t=zs /\ r=zpD (t.map fun z=>D.str z.1) (t.map fun z=>D.int (z.2:Int)) /\ Grow G1 G' /\ G' p2=some (.lst ((os.map (Option.map Int.ofNat)).map oD)) /\ All2 rdN l os /\ σ=[v0,v1]) ⟨[],zs,[],none,none,rfl,rfl,Grow.refl.new hp2,u01,trivial,rfl⟩ ?_ ?_
  ·rintro σ G2 ⟨l,t,os,v0,v1,e,e2,g2,k2,ha,rfl⟩
   have ht:t=[]:=by
    cases t with
    | nil=>rfl
    | cons x t=>cases e2
   subst ht;rw [List.append_nil] at e;subst e;refine ⟨⟨by rw [g2.kp _ _ kp];rfl,by rw [g2.kp _ _ km];rfl⟩,?_⟩;dsimp! [id];refine ⟨p2,os.map (Option.map Int.ofNat),rfl,rfl,by rw [k2];rfl,?_⟩;have en:decide ((none:Option Int) ∈ os.map (Option.map Int.ofNat))=decide (none ∈ os):=by
    rw [Bool.eq_iff_iff,decide_eq_true_iff,decide_eq_true_iff,List.mem_map]
    constructor
    ·rintro ⟨o,ho,e⟩
     cases o with
     | none=>exact ho
     | some k=>cases e
    ·intro h;exact ⟨none,h,rfl⟩
   rw [en]
   by_cases hno:none ∈ os
   ·rw [decide_eq_true hno]
    simp! [id];obtain ⟨z,hz,hb⟩:=ha.bad hno;exact bad (fun ⟨ks,hk⟩=>hb (us0 hk z hz)) _ (g1.trans g2)
   ·rw [decide_eq_false hno]
    obtain ⟨ks,ek,hk⟩:=ha.all hno;have hks:=hk.len;subst ek;have kw2:=g2.kp _ _ kw;have k2:G2 p2=some (.lst (ks.map fun k:Nat=>D.int (k:Int))):=by rw [k2,List.map_map,List.map_map];rfl
    simp! [kw2];intro p3 hp3;rw [wl0];have k3:gup G2 p3 (.lst [D.str w]) p2=some (.lst (ks.map fun k:Nat=>D.int (k:Int))):=by rw [u07 (gne k2 hp3)];exact k2
    simp! [u39,u01,k3];refine ⟨Nat.le_trans (m:=10) (by simp;omega) (by decide),fun p4 hp4=>?_⟩;simp! [u01];exact good ks (wc3 hk) _ ((g1.trans g2).trans ((Grow.refl.new hp3).trans (Grow.refl.new hp4)))
  ·rintro z r σ G2 ⟨l,t,os,v0,v1,e,e2,g2,k2,ha,rfl⟩ ih
   cases t with
   | nil=>cases e2
   | cons c t =>
    cases e2;refine ⟨⟨by rw [g2.kp _ _ kp];rfl,by rw [g2.kp _ _ km];rfl⟩,?_⟩;have hc:c ∈ zs:=by rw [<- e];simp
    have hlen:=congrArg List.length e;rw [List.length_append,List.length_cons] at hlen;have hol:=ha.len;simp! [id];refine up7 T (hl c.1 (List.mem_cons_of_mem _ (List.mem_map.mpr ⟨c,hc,rfl⟩))) (hm c.2 (List.mem_map.mpr ⟨c,hc,rfl⟩)) (fun k G3 hk ek g3=>?_) fun G3 hk g3=>?_
    ·have k3:=g3.kp _ _ k2
     simp! [k3];refine ⟨Nat.lt_of_le_of_lt (m:=1000) (by rw [List.length_map,List.length_map];omega) (by decide),ih _ _ ⟨l++[c],t,os++[some k],_,_,by rw [<- e];simp,rfl,(g2.trans g3).own hp2,?_,ha.snoc (b:=some k) ⟨hk,ek⟩,rfl⟩⟩;rw [u01,List.map_append,List.map_append];rfl
    ·have k3:=g3.kp _ _ k2
     simp! [k3];refine ⟨Nat.lt_of_le_of_lt (m:=1000) (by rw [List.length_map,List.length_map];omega) (by decide),ih _ _ ⟨l++[c],t,os++[none],_,_,by rw [<- e];simp,rfl,(g2.trans g3).own hp2,?_,ha.snoc (b:=none) hk,rfl⟩⟩;rw [u01,List.map_append,List.map_append];rfl
theorem wa2 {n:Nat} (G_jar:Ok P w mg base n T.f_jar (uj2 T)) (G_jay:Ok P w mg base n T.f_jay (vj0 T)):Ok P w mg base (n+1) T.f_jau (vj1 T):=by
 refine u25 T.f_jau sc_jau (fun ds G R h=>?_) (fun cdv A outer s H E hr =>
   (u03 (s_if (u13 (x_ne hr) (u12 u42 rfl T.b_len (by decide) (u00 (ev 0) u02)) u04 (nomark _)) (u06 (u17 u38)) u21)
   (u03 (u15 1 sc_jau.nd (ec T.f_jar T.g_number_in G_jar hr (u00 (e_ix x_ix (ev 0) u04) (u00 (u52 T.k_GREATEST) u02))))
   (u03 (u15 2 sc_jau.nd (ec T.f_jay T.g_read_operand G_jay hr (u00 (e_ix x_ix (ev 0) u04) u02)))
   (u06 (u17 (e_if (t_w (w_or (u13 (uc4) (ev 1) u38 (nomark _)) (ug9 (u13 (uc4) (ev 2) u38 (nomark _))))) u38 (u56 (u00 (e_ix x_ix (ev 0) u04) (u00 (ev 1) (u00 (ev 2) u02))))))))))) (fun ds G R h=>?_)
 ·obtain ⟨wa,w,us,rfl,_⟩:=h;rfl
 ·obtain ⟨wa,w,us,rfl,k0,hl,hn,good,bad⟩:=h
  by_cases h3:¬ us.length=2
  ·have d1:((((us.length+1:Nat)):Int)=3)=False:=eq_false (by omega)
   have hz:(us.length+1<=sizeLine)=True:=eq_true (Nat.le_trans (m:=100001) (by omega) (by decide));simp! [k0,List.length_map,List.length_cons,hz,d1];exact bad (fun ⟨a,b,e,_⟩=>h3 (by rw [e];rfl)) _ Grow.refl
  have h3:=Classical.not_not.mp h3;obtain ⟨a,b,rfl⟩:∃ a b,us=[a,b]:=by
   match us,h3 with
   | [a,b],_=>exact ⟨a,b,rfl⟩
  have la:=hl a (by simp);have lb:=hl b (by simp);have k0:G wa=some (.lst [.str w,.str a,.str b]):=k0;have e3:(((3:Nat):Int)=3)=True:=eq_true rfl;simp! [k0,List.length,e3];dsimp! [k0];have kind:∀ (G1:Gp) (d1:D) (q:DK),Grow G G1->((∃ o,opK o /\ b=opS o /\ d1=o.d) \/ ¬ isO b /\ d1=.non)->True:=fun _ _ _ _ _=>trivial
  have opr:∀ (G1:Gp) (q:DK),(∀ o G2,opK o->b=opS o->Grow G1 G2->q o.d G2)->(∀ G2,¬ isO b->Grow G1 G2->q .non G2)->∃ R,vj0 T [.str b] G1 R /\ ∀ d G',R d G'->q d G':=fun G1 q f g =>
   u18 (post:=fun d G'=>Grow G1 G' /\ ((∃ o,opK o /\ b=opS o /\ d=o.d) \/ ¬ isO b /\ d=.non)) (fun R h'=>⟨b,rfl,lb,(fun o h1 h2 G' z=>h' _ _ ⟨z,.inl ⟨o,h1,h2,rfl⟩⟩),fun h1 G' z=>h' _ _ ⟨z,.inr ⟨h1,rfl⟩⟩⟩) fun d G' ⟨z,y⟩=>by
    rcases y with ⟨k,h1,h2,rfl⟩ | ⟨h1,rfl⟩
    ·exact f k G' h1 h2 z
    ·exact g G' h1 z
  refine up7 T (m:=9999999999) la (Nat.le_refl _) (fun x G1 hx ex g1=>?_) fun G1 hnx g1=>?_
  ·have k1:=g1.kp _ _ k0
   simp! [k1];dsimp! [k1];refine opr _ _ (fun o G2 ho eo g2=>?_) fun G2 hno g2=>?_
   ·have k2:=g2.kp _ _ k1
    obtain ⟨ds,hd⟩:∃ ds,o.d=.tup ds:=by cases o <;> exact ⟨_,rfl⟩
    rw [hd]
    (simp! [k2];repeat (simp only [Go];simp! [k2]))
    rw [<- hd];exact ⟨by decide,good x o hx ho (by rw [ex,eo]) _ (g1.trans g2)⟩
   ·(simp! [id];repeat (simp only [Go];simp! [id]))
    exact bad (fun ⟨a',b',e,_,h2⟩=>by cases e;exact hno h2) _ (g1.trans g2)
  ·have k1:=g1.kp _ _ k0
   simp! [k1];dsimp! [k1];refine opr _ _ (fun o G2 ho eo g2=>?_) fun G2 hno g2=>?_
   ·(simp! [id];repeat (simp only [Go];simp! [id]))
    exact bad (fun ⟨a',b',e,h1,_⟩=>by cases e;exact hnx h1) _ (g1.trans g2)
   ·(simp! [id];repeat (simp only [Go];simp! [id]))
    exact bad (fun ⟨a',b',e,h1,_⟩=>by cases e;exact hnx h1) _ (g1.trans g2)
theorem w98 {n:Nat} (G_jar:Ok P w mg base n T.f_jar (uj2 T)) (G_jat:Ok P w mg base n T.f_jat (v96 T)):Ok P w mg base (n+1) T.f_jay (vj0 T):=by
 refine u25 T.f_jay sc_jay (fun ds G R h=>?_) (fun cdv A outer s H E hr =>
   (u03 (u15 1 sc_jay.nd (ec T.f_jat T.g_read_box G_jat hr (u00 (ev 0) u02)))
   (u03 (s_if (u13 (va3) (ev 1) u38 (nomark _)) (u06 (u17 (u56 (u00 u08 (u00 (ev 1) u02))))) u21)
   (u03 (u15 2 sc_jay.nd (ec T.f_jar T.g_number_in G_jar hr (u00 (ev 0) (u00 (u11 um8 (u52 T.k_NUMBERS) u04) u02))))
   (u06 (u17 (e_if (u13 (uc4) (ev 2) u38 (nomark _)) u38 (u56 (u00 u08 (u00 (ev 2) u02)))))))))) (fun ds G R h=>?_)
 ·obtain ⟨w,rfl,_⟩:=h;rfl
 ·obtain ⟨w,rfl,hl,good,bad⟩:=h
  simp! [id];refine wg6 T hl (fun k G1 hk ek g1=>?_) fun G1 hn g1=>?_
  ·simp! [id]
   dsimp! [id];exact ⟨by decide,good (.box k) hk ek _ g1⟩
  ·simp! [id]
   dsimp! [id];refine up7 T (m:=4294967295) hl (by decide) (fun k G2 hk ek g2=>?_) fun G2 hn2 g2=>?_
   ·simp! [id]
    dsimp! [id];exact ⟨by decide,good (.num (k:Int)) ⟨by omega,by omega⟩ ek _ (g1.trans g2)⟩
   ·simp! [id]
    dsimp! [id];exact bad (fun z=>(isO_iff.mp z).elim hn hn2) _ (g1.trans g2)
theorem wa3 {n:Nat} (G_jar:Ok P w mg base n T.f_jar (uj2 T)):Ok P w mg base (n+1) T.f_jat (v96 T):=by
 refine u25 T.f_jat vk8 (fun ds G R h=>?_) (fun cdv A outer s H E hr =>
   (u06 (u17 (e_if (un4 (ul5 (ev 0) (u00 u08 u02))) (ec T.f_jar T.g_number_in G_jar hr (u00 (e_sl uu6 (ev 0) (u35 u04) u41) (u00 (u52 T.k_GREATEST) u02))) u38)))) (fun ds G R h=>?_)
 ·obtain ⟨w,rfl,_⟩:=h;rfl
 ·obtain ⟨w,rfl,hl,good,bad⟩:=h
  have hz:w.length<=sizeLine:=Nat.le_trans hl (by decide);simp! [id];refine ⟨w,_,rfl,rfl,?_⟩;cases hw:w.cps.toList with
  | nil =>
   have e:Txt.startswith w (Str.ofString "b")=false:=by
    have h0:w.length=0:=by rw [str_len,hw];rfl
    unfold Txt.startswith;rw [h0];rfl
   rw [e];simp! [id];refine bad (fun z=>?_) _ Grow.refl;obtain ⟨r,e2,_⟩:=bw_iff.mp z;rw [hw] at e2;cases e2
  | cons c r =>
   rw [sw_b hw]
   by_cases h0:c=98
   ·rw [decide_eq_true h0]
    simp! [id];refine ⟨w,rfl,hz,?_⟩;rw [show Txt.slice w (some 1) none=tl w from rfl];have et:(tl w).cps.toList=r:=by rw [vk1,hw];rfl
    have et2:tl w=⟨r.toArray⟩:=u43 et;refine up7 T (m:=9999999999) (Nat.le_trans (w40 w) hl) (Nat.le_refl _) (fun k G' hk ek g=>?_) fun G' hn g=>?_
    ·exact good k hk (u43 (by rw [hw,ua0,h0,<- ek,et])) _ g
    ·refine bad (fun z=>hn ?_) _ g
     obtain ⟨r',e2,h2⟩:=bw_iff.mp z;rw [hw] at e2;cases e2;rw [et2];exact h2
   ·rw [decide_eq_false h0]
    simp! [id];refine bad (fun z=>?_) _ Grow.refl;obtain ⟨r',e2,_⟩:=bw_iff.mp z;rw [hw] at e2;cases e2;exact h0 rfl
theorem w95 {n:Nat} (G_jax:Ok P w mg base n T.f_jax (v94 T)) (G_jaw:Ok P w mg base n T.f_jaw (w15 T)):Ok P w mg base (n+1) T.f_jbb (w12 T):=by
 refine u25 T.f_jbb sc_jbb (fun ds G R h=>?_) (fun cdv A outer s H E hr =>
   (u03 (s_if (u13 (uy0 hr) (u12 u42 rfl T.b_len (by decide) (u00 (ev 0) u02)) (u56 (u00 u04 (u00 u04 (u00 u04 u02)))) (by with_unfolding_all rfl)) (u06 (u17 u38)) u21)
   (u03 (u15 1 sc_jbb.nd (ec T.f_jax T.g_read_numbers G_jax hr (u00 (e_sl x_sl (ev 0) u41 (u35 u04)) (u00 (u32 (u00 (u52 T.k_GREATEST) (u00 (u11 um8 (u52 T.k_BITS) u04) u02))) u02))))
   (u03 (uq9 2 sc_jbb.nd (N':=["at", "words"]) (ix:=[none,some 0]) (blk (osc:=u05 vb9) (N:=["words", "head", "conds"]) rfl rfl (by decide)) (we5 rfl T.b_range (u00 u04 (u00 (u12 u42 rfl T.b_len (by decide) (u00 (ev 0) u02)) (u00 u04 u02)))) (fun _ _ _ _=>(u27 0 (show (["at", "words"]:List Str).Nodup by decide))) (fun _ _ _ _=>u44) (fun _ _ _ _=>(ec T.f_jaw T.g_read_cond G_jaw hr (u00 (e_ix x_ix (ev 1) (ev 0)) (u00 (e_ix x_ix (ev 1) (u11 u23 (ev 0) u04)) u02)))))
   (u06 (u17 (e_if (t_w (w_or (u13 (uc4) (ev 1) u38 (nomark _)) (ug9 (u13 (w29 hr) u38 (ev 2) (by with_unfolding_all rfl))))) u38 (u11 u23 (ev 1) (u56 (u00 (u14 uc3 rfl T.b_tuple (by decide) (u00 (ev 2) u02)) u02)))))))))) (fun ds G R h=>?_)
 ·obtain ⟨wa,us,rfl,_⟩:=h;rfl
 ·obtain ⟨wa,us,rfl,k0,hl,hn,good,bad⟩:=h
  have k0:G wa=some (.lst (.str "turn" :: us.map .str)):=k0;have l1:(us.length+1<=sizeLine)=True:=eq_true (Nat.le_trans (m:=100001) (by omega) (by decide))
  by_cases h3:¬ (us.length=2 \/ us.length=4 \/ us.length=6)
  ·have hin:∀ (G':Gp) (q:DK),q (.bl true) G'->xInB true (.int ((us.length+1:Nat):Int)) (.tup [.int 3,.int 5,.int 7]) G' q:=fun G' q h=>by
    show q (.bl (!decide (((us.length+1:Nat):Int) ∈ [(3:Int),5,7]))) G'
    rw [decide_eq_false (by simp;omega)];exact h
   simp! [k0,List.length_cons,List.length_map,l1];refine ⟨by decide,hin _ _ ?_⟩;simp! [id];refine bad (fun z=>?_) _ Grow.refl;cases z with
   | t0=>exact h3 (.inl rfl)
   | t1=>exact h3 (.inr (.inl rfl))
   | t2=>exact h3 (.inr (.inr rfl))
  have h3:=Classical.not_not.mp h3;have hin:∀ (G':Gp) (q:DK),q (.bl false) G'->xInB true (.int ((us.length+1:Nat):Int)) (.tup [.int 3,.int 5,.int 7]) G' q:=fun G' q h=>by
   show q (.bl (!decide (((us.length+1:Nat):Int) ∈ [(3:Int),5,7]))) G'
   rw [decide_eq_true (by simp;omega)];exact h
  simp! [k0,List.length_cons,List.length_map,l1];refine ⟨by decide,hin _ _ ?_⟩;clear hin;obtain ⟨a,b,zs,ez,hzl⟩:∃ (a b:Str) (zs:List (Str × Str)),us=a::b::flt2 zs /\ zs.length<=2:=by
   match us,h3 with
   | [a,b],_=>exact ⟨a,b,[],rfl,by simp⟩
   | [a,b,c,d],_=>exact ⟨a,b,[(c,d)],rfl,by simp⟩
   | [a,b,c,d,e,f],_=>exact ⟨a,b,[(c,d),(e,f)],rfl,by simp⟩
   | [],h=>simp at h
   | [_],h=>simp at h
   | [_,_,_],h=>simp at h
   | [_,_,_,_,_],h=>simp at h
   | _::_::_::_::_::_::_::_,h=>simp at h
  subst ez;clear h3;have la:=hl a (by simp);have lb:=hl b (by simp);have lz:∀ z ∈ zs,z.1.length<=100000 /\ z.2.length<=100000:=fun z hz=>⟨hl _ (by
   refine List.mem_cons_of_mem _ (List.mem_cons_of_mem _ (List.mem_flatMap.mpr ⟨z,hz,by simp⟩))),hl _ (by
   refine List.mem_cons_of_mem _ (List.mem_cons_of_mem _ (List.mem_flatMap.mpr ⟨z,hz,by simp⟩)))⟩
  have k0:G wa=some (.lst (.str "turn" :: .str a::.str b::(flt2 zs).map .str)):=k0;simp! [id];dsimp! [k0];intro p hp;refine ⟨by decide,fun p2 hp2=>?_⟩;have g1:Grow G (gup (gup G p (.lst (cutD (D.str "turn" :: D.str a::D.str b::(flt2 zs).map D.str) none (some 3)))) p2 (.lst [D.int 9999999999,D.int (32 - 1)])):=(Grow.refl.new hp).trans (Grow.refl.new hp2);refine u18 (post:=fun d G'=>Grow G G' /\ ((∃ x i:Nat,x<=9999999999 /\ i<=31 /\ a=numI (x:Int) /\ b=numI (i:Int) /\ d=.tup [.str "turn",.int (x:Int),.int (i:Int)]) \/ ¬ (isK 9999999999 a /\ isK 31 b) /\ d=.non)) (fun R h=>⟨p,p2, "turn",[a,b],[9999999999,31],rfl,?_,u01,?_,by simp,by simp,by simp,fun ks hk G' z=>?_,fun hk G' z=>h _ _ ⟨g1.trans z,.inr ⟨fun ⟨y1,y2⟩=>hk ?_,rfl⟩⟩⟩) ?_
  ·rw [u07 (gne u01 hp2),u01]
   exact congrArg (fun z=>some (DO.lst z)) (ul7 (n:=3))
  ·intro x hx
   simp only [List.mem_cons,List.mem_nil_iff,or_false] at hx
   rcases hx with rfl | rfl | rfl
   ·decide
   ·exact la
   ·exact lb
  ·obtain ⟨e1,e2,e3⟩:=hk
   match ks,e2 with
   | [x,i],_ =>
    cases e1;exact h _ _ ⟨g1.trans z,.inl ⟨x,i,e3 (x,9999999999) (by simp),e3 (i,31) (by simp),rfl,rfl,rfl⟩⟩
  ·obtain ⟨x,hx,rfl⟩:=y1
   obtain ⟨i,hi,rfl⟩:=y2;exact ⟨[x,i],rfl,rfl,fun q hq=>by
    simp only [List.zip_cons_cons,List.zip_nil_right,List.mem_cons,List.mem_nil_iff,or_false] at hq
    rcases hq with rfl | rfl
    ·exact hx
    ·exact hi⟩
  rintro d G3 ⟨g3,hd⟩;have k3:=g3.kp _ _ k0;simp! [id];dsimp! [vp8,k3,List.length_cons,List.length_map,vh1];rw [vc7];refine ⟨⟨by decide,by decide,by decide,by decide,by omega,by omega⟩,fun p3 hp3=>?_⟩;refine u26 (fun r σ G'=>∃ (j:Nat) (os:List (Option (Nat × Nat))) (v0:Option D),j<=zs.length /\ r=((List.range zs.length).drop j).map (fun (i:Nat)=>D.int (3+(i:Int) * 2)) /\ Grow G3 G' /\ G' p3=some (.lst (os.map cO)) /\ All2 rdC (zs.take j) os /\ σ=[v0,some (.ref wa)]) ⟨0,[],none,by omega,rfl,Grow.refl.new hp3,u01,trivial,rfl⟩ ?_ ?_
  ·rintro σ G4 ⟨j,os,v0,hj,e2,g4,k4,ha,rfl⟩
   have hj2:zs.length<=j:=by
    have:=congrArg List.length e2;rw [List.length_map,List.length_drop,List.length_range] at this;simp at this;omega
   rw [List.take_of_length_le hj2] at ha;refine ⟨trivial,?_⟩;dsimp! [id]
   rcases hd with ⟨x,i,hx,hi,ea,eb,rfl⟩ | ⟨hk,rfl⟩
   ·simp! [id]
    refine ⟨p3,os.map cO,rfl,rfl,by rw [k4];rfl,fun d hd=>?_,?_⟩
    ·obtain ⟨c,_,rfl⟩:=List.mem_map.mp hd
     cases c with
     | none=>exact .inl rfl
     | some c=>exact .inr ⟨_,rfl⟩
    rw [nnO]
    by_cases hno:none ∈ os
    ·rw [decide_eq_true hno]
     simp! [id];obtain ⟨z,hz,hb⟩:=ha.bad hno;exact bad (fun y=>hb ((ue6 y).2.2 z hz)) _ (g3.trans g4)
    ·rw [decide_eq_false hno]
     obtain ⟨cs,ek,hc⟩:=ha.all hno;subst ek;obtain ⟨f1,f2⟩:=vo5 hc;have hcl:=hc.len;have k4:G4 p3=some (.lst (cs.map cd)):=by rw [k4,List.map_map];rfl
     simp! [k4,addT];exact ⟨by decide,by simp,by exact (by decide:4<=sizeLine),good x i cs ⟨hx,by omega,by omega,f2⟩ (by rw [ea,eb,f1];rfl) G4 (g3.trans g4)⟩
   ·simp! [id]
    exact bad (fun y=>hk ⟨(ue6 y).1,(ue6 y).2.1⟩) _ (g3.trans g4)
  ·rintro z r σ G4 ⟨j,os,v0,hj,e2,g4,k4,ha,rfl⟩ ih
   have hj2:j < zs.length:=by
    have:=congrArg List.length e2;rw [List.length_map,List.length_drop,List.length_range,List.length_cons] at this;omega
   rw [List.drop_eq_getElem_cons (by simpa using hj2),List.map_cons,List.getElem_range] at e2;obtain ⟨rfl,rfl⟩:=List.cons.inj e2;obtain ⟨a1,a2⟩:=v66 (List.getElem?_eq_getElem hj2);have hz1:=lz zs[j] (List.getElem_mem _);have w1:atI (D.str "turn" :: D.str a::D.str b::(flt2 zs).map D.str) (3+(j:Int) * 2)=some (.str zs[j].1):=by
    rw [show (3+(j:Int) * 2)=((2 * j+1+1+1:Nat):Int) by omega];refine u62 ?_
    show ((flt2 zs).map D.str)[2 * j]?=_
    rw [List.getElem?_map,a1];rfl
   have w2:atI (D.str "turn" :: D.str a::D.str b::(flt2 zs).map D.str) (3+(j:Int) * 2+1)=some (.str zs[j].2):=by
    rw [show (3+(j:Int) * 2+1)=((2 * j+1+1+1+1:Nat):Int) by omega];refine u62 ?_
    show ((flt2 zs).map D.str)[2 * j+1]?=_
    rw [List.getElem?_map,a2];rfl
   have kw:=g4.kp _ _ k3;have hol:=ha.len;rw [List.length_take] at hol;refine ⟨trivial,?_⟩;simp! [kw,w1,w2];refine u18 (post:=fun d G'=>Grow G4 G' /\ ∃ o,rdC zs[j] o /\ d=cO o) (fun R h=>⟨zs[j].1,zs[j].2,rfl,hz1.1,hz1.2,(fun c y1 y2 y3 y4 G' z=>h _ _ ⟨z,some c,⟨y1,y2,y3,y4⟩,rfl⟩),fun y G' z=>h _ _ ⟨z,none,y,rfl⟩⟩) ?_;rintro d G5 ⟨g5,o,ho,rfl⟩;have k5:=g5.kp _ _ k4;simp! [k5];refine ⟨Nat.lt_of_le_of_lt (m:=1000) (by rw [List.length_map];omega) (by decide),ih _ _ ⟨j+1,os++[o],_,by omega,rfl,(g4.trans g5).own hp3,?_,?_,rfl⟩⟩
   ·rw [u01,List.map_append];rfl
   ·rw [List.take_succ_eq_append_getElem hj2];exact ha.snoc ho
theorem wa0 {n:Nat} (G_jar:Ok P w mg base n T.f_jar (uj2 T)) (G_jat:Ok P w mg base n T.f_jat (v96 T)):Ok P w mg base (n+1) T.f_jaw (w15 T):=by
 refine u25 T.f_jaw sc_jaw (fun ds G R h=>?_) (fun cdv A outer s H E hr =>
   (u03 (u15 2 sc_jaw.nd (ec T.f_jat T.g_read_box G_jat hr (u00 (ev 0) u02)))
   (u03 (u15 3 sc_jaw.nd (ec T.f_jar T.g_number_in G_jar hr (u00 (ev 1) (u00 (u11 um8 (u52 T.k_BITS) u04) u02))))
   (u06 (u17 (e_if (t_w (w_or (u13 (uc4) (ev 2) u38 (nomark _)) (ug9 (u13 (uc4) (ev 3) u38 (nomark _))))) u38 (u56 (u00 (ev 2) (u00 (ev 3) u02))))))))) (fun ds G R h=>?_)
 ·obtain ⟨a,b,rfl,_⟩:=h;rfl
 ·obtain ⟨a,b,rfl,ha,hb,good,bad⟩:=h
  simp! [id];refine wg6 T ha (fun k G1 hk ek g1=>?_) fun G1 hn g1=>?_
  ·simp! [id]
   dsimp! [id];refine up7 T (m:=31) hb (by decide) (fun j G2 hj ej g2=>?_) fun G2 hn2 g2=>?_
   ·simp! [id]
    dsimp! [id];exact ⟨by decide,good (k,j) hk (by show j < 32;omega) ek ej _ (g1.trans g2)⟩
   ·simp! [id]
    dsimp! [id];exact bad (fun z=>hn2 z.2) _ (g1.trans g2)
  ·simp! [id]
   dsimp! [id];refine up7 T (m:=31) hb (by decide) (fun j G2 hj ej g2=>?_) fun G2 hn2 g2=>?_
   ·simp! [id]
    dsimp! [id];exact bad (fun z=>hn z.1) _ (g1.trans g2)
   ·simp! [id]
    dsimp! [id];exact bad (fun z=>hn z.1) _ (g1.trans g2)
theorem wb6 {n:Nat}:Ok P w mg base (n+1) T.f_jag (ue5 T):=by
 refine u25 T.f_jag sc_jag (fun ds G R h=>?_) (fun cdv A outer s H E hr =>
   (u03 (un9 (ev 0) (v47 (n:=3) rfl (u55 (u27 2 sc_jag.nd) (u55 (u27 3 sc_jag.nd) (u55 (u27 4 sc_jag.nd) ul3)))))
   (u03 (s_if (u13 (x_eq hr) (ev 4) u04 (nomark _)) (u03 (un9 (u11 u23 (ev 3) u04) (uw4 (ev 0) u04 uu7))
   (u03 (u15 5 sc_jag.nd (u11 u23 (u11 um9 u04 (ev 3)) u04))
   (u03 (s_if (u13 (x_gt) (u12 u42 rfl T.b_len (by decide) (u00 (ev 2) u02)) u04 (nomark _)) (u06 (u15 5 sc_jag.nd (e_ix x_ix (ev 2) (u11 uj4 (ev 3) (u12 u42 rfl T.b_len (by decide) (u00 (ev 2) u02)))))) u21)
   (u03 (u15 4 sc_jag.nd (u12 wh6 rfl T.b_abs (by decide) (u00 (ev 5) u02)))
   (u06 (s_if (t_w (w_or (u13 (x_ge) (ev 3) (u12 u42 rfl T.b_len (by decide) (u00 (ev 2) u02)) (nomark _)) (ug9 (u13 (x_lt) (ev 4) (u11 ub1 u04 u04) (nomark _))))) (u03 (u15 6 sc_jag.nd (u11 uj4 (u11 u23 (u11 u23 (u11 um9 (u11 uj4 (ev 5) u04) (u11 u23 u04 (ev 3))) (u11 um9 u04 (ev 3))) u04) u04))
   (u03 (u15 6 sc_jag.nd (u11 uj4 (u11 um9 (ev 6) (ev 6)) u04))
   (u06 (u17 (u11 uj4 (u11 uj4 (u11 um9 (ev 6) (ev 6)) u04) (ev 1)))))) u21)))))) u21)
   (u03 (un9 (u12 va4 rfl T.b_divmod (by decide) (u00 (ev 4) (u00 (ev 1) u02))) (v47 (n:=2) rfl (u55 (uw4 (ev 0) u04 uu7) (u55 (u27 7 sc_jag.nd) ul3))))
   (u06 (u17 (ev 7))))))) (fun ds G R h=>?_)
 ·obtain ⟨⟨st,m,rfl,_⟩,_⟩:=h;rfl
 ·obtain ⟨⟨st,m,rfl,⟨a,ns,k,r,hst,ha,hk,hr0,hne,hlen⟩,hm0,hm1⟩,post⟩:=h
  have fin:∀ (v k' r':Int),0<=v->v < m->0<=k'->0<=r'->R (.int v) (gup G st (.lst [.ref a,.int k',.int r'])):=fun v k' r' h1 h2 h3 h4=>post _ _ ⟨st,m,v,rfl,
   ⟨⟨a,ns,k',r',u01,by rw [u07 hne];exact ha,h3,h4,hne,hlen⟩,fun b o hb e=>by rw [u07 hb];exact e⟩,rfl,h1,h2⟩
  have tail:∀ (y k' r':Int),0<=k'->0<=r'->R (.int (y % m)) (gup G st (.lst [.ref a,.int k',.int r'])):=fun y k' r' h1 h2=>fin _ _ _ (Int.emod_nonneg _ (by omega)) (Int.emod_lt_of_pos _ hm0) h1 h2
  have cd:∀ c:Int,CDiv c m:=fun c=>⟨hm0,hm1⟩
  have cm:∀ c y:Int,CMul (c % 2147483629) y:=fun c y=>ul8 (by omega) (by omega)
  have cm2:∀ c y:Int,CMul (c % 2147483587) y:=fun c y=>ul8 (by omega) (by omega)
  have c7:∀ y:Int,CMul 7 y:=fun y=>ul8 (by decide) (by decide)
  have c79:∀ y:Int,CMul 7919 y:=fun y=>ul8 (by decide) (by decide)
  have cp:CPow 10 18:=⟨by decide,by decide,by decide⟩;have p1:((0:Int) < 2147483629)=True:=by decide
  have p2:((0:Int) < 2147483587)=True:=by decide
  have p3:((0:Int) < 1999999973)=True:=by decide
  have p4:((0:Int) < m)=True:=eq_true hm0
  by_cases hn:ns=[]
  ·subst hn
   (simp! [hst,ha,u07 hne,u65,cd,cm,cm2,c7,c79,cp,p1,p2,p3,p4];repeat (simp only [Go];simp! [hst,ha,u07 hne,u65,cd,cm,cm2,c7,c79,cp,p1,p2,p3,p4]))
   refine ub4 (fun h0=>?_) (fun h0=>?_)
   ·simp only [Int.lt_irrefl,Int.natCast_zero,decide_false,Bool.false_eq_true,if_false]
    refine ub4 (fun h1=>?_) (fun h1=>?_)
    ·exact tail _ _ _ (by omega) hr0
    ·exact absurd hk h1
   ·exact tail _ _ _ hk (Int.ediv_nonneg hr0 (by omega))
  ·have hpos:0 < ns.length:=List.length_pos_iff.mpr hn
   have hl:((ns.map D.int).length:Int)=(ns.length:Int):=by simp
   obtain ⟨c,hc⟩:∃ c,atI (ns.map D.int) (k % (ns.length:Int))=some (.int c):=⟨_,v93 (Int.emod_nonneg _ (by omega)) (Int.emod_lt_of_pos _ (by omega))⟩;have p5:((0:Int) < (ns.length:Int))=True:=eq_true (by omega)
   (simp! [hst,ha,u07 hne,u65,cd,cm,cm2,c7,c79,cp,p1,p2,p3,p4,hl,hc,p5];repeat (simp only [Go];simp! [hst,ha,u07 hne,u65,cd,cm,cm2,c7,c79,cp,p1,p2,p3,p4,hl,hc,p5]))
   refine ub4 (fun h0=>?_) (fun h0=>?_)
   ·refine ub4 (fun h1=>?_) (fun h1=>?_)
    ·exact tail _ _ _ (by omega) hr0
    ·refine ub4 (fun h2=>?_) (fun h2=>?_)
     ·exact tail _ _ _ (by omega) hr0
     ·refine tail _ _ _ (by omega) (Int.ediv_nonneg ?_ (by omega))
      split <;> omega
   ·exact tail _ _ _ hk (Int.ediv_nonneg hr0 (by omega))
theorem wb2 {n:Nat} (G_jag:Ok P w mg base n T.f_jag (ue5 T)):Ok P w mg base (n+1) T.f_jak (uq0 T):=by
 refine u25 T.f_jak sc_jak (fun ds G R h=>?_) (fun cdv A outer s H E hr =>
   (u03 (u15 1 sc_jak.nd (ec T.f_jag T.g_law_draw G_jag hr (u00 (ev 0) (u00 u04 u02))))
   (u03 (s_if (u13 (x_eq hr) (ev 1) u04 (nomark _)) (u06 (u17 (u11 u23 (u11 um9 (ec T.f_jag T.g_law_draw G_jag hr (u00 (ev 0) (u00 (u11 ub1 u04 u04) u02))) (u11 ub1 u04 u04)) (ec T.f_jag T.g_law_draw G_jag hr (u00 (ev 0) (u00 (u11 ub1 u04 u04) u02)))))) u21)
   (u03 (s_if (u13 (x_eq hr) (ev 1) u04 (nomark _)) (u06 (u17 (u11 um8 (u11 um8 (u11 ub1 u04 u04) u04) (ec T.f_jag T.g_law_draw G_jag hr (u00 (ev 0) (u00 u04 u02)))))) u21)
   (u06 (u17 (ec T.f_jag T.g_law_draw G_jag hr (u00 (ev 0) (u00 u04 u02))))))))) (fun ds G R h=>?_)
 ·obtain ⟨st,rfl,_⟩:=h;rfl
 ·obtain ⟨st,rfl,hst,post⟩:=h
  (simp! [id];repeat (simp only [Go];simp! [id]))
  refine u10 hst (by decide) (by decide) fun v1 G1 a1 p1 q1=>?_
  (simp! [id];repeat (simp only [Go];simp! [id]))
  refine ub4 (fun h0=>?_) (fun h0=>?_)
  ·(simp! [id];repeat (simp only [Go];simp! [id]))
   refine ⟨uu0 (by decide) (by decide),?_⟩;refine u10 a1.at_ (by decide) (by decide) fun v2 G2 a2 p2 q2=>?_
   (simp! [id];repeat (simp only [Go];simp! [id]))
   refine ⟨uu0 (by decide) (by decide),ul8 (by omega) (by simp only [Int.reduceToNat,Int.reducePow] at q2;omega),uu0 (by decide) (by decide),?_⟩;refine u10 a2.at_ (by decide) (by decide) fun v3 G3 a3 p3 q3=>?_
   (simp! [id];repeat (simp only [Go];simp! [id]))
   simp only [Int.reduceToNat,Int.reducePow] at q2 q3 ⊢;exact post _ _ (a1.trans (a2.trans a3)) (by omega) (by omega)
  ·(simp! [id];repeat (simp only [Go];simp! [id]))
   refine ub4 (fun h1=>?_) (fun h1=>?_)
   ·(simp! [id];repeat (simp only [Go];simp! [id]))
    refine ⟨uu0 (by decide) (by decide),?_⟩;refine u10 a1.at_ (by decide) (by decide) fun v2 G2 a2 p2 q2=>?_
    (simp! [id];repeat (simp only [Go];simp! [id]))
    simp only [Int.reduceToNat,Int.reducePow];exact post _ _ (a1.trans a2) (by omega) (by omega)
   ·(simp! [id];repeat (simp only [Go];simp! [id]))
    refine u10 a1.at_ (by decide) (by decide) fun v2 G2 a2 p2 q2=>?_
    exact post _ _ (a1.trans a2) (by omega) (by omega)
theorem wb0 {n:Nat} (G_jag:Ok P w mg base n T.f_jag (ue5 T)):Ok P w mg base (n+1) T.f_jam (vj2 T):=by
 refine u25 T.f_jam sc_jam (fun ds G R h=>?_) (fun cdv A outer s H E hr =>
   (u03 (u15 3 sc_jam.nd (ec T.f_jag T.g_law_draw G_jag hr (u00 (ev 0) (u00 (u11 um8 (ev 1) u04) u02))))
   (u06 (u17 (u11 u23 (ev 3) (u14 ux9 rfl T.b_int (by decide) (u00 (ud7 (x_ge) (ev 3) (ev 2) (nomark _)) u02))))))) (fun ds G R h=>?_)
 ·obtain ⟨st,sz,x,rfl,_⟩:=h;rfl
 ·obtain ⟨st,sz,x,rfl,hst,h2,h1000,hx,post⟩:=h
  (simp! [id];repeat (simp only [Go];simp! [id]))
  refine u10 hst (by omega) (by omega) fun v1 G1 a1 p1 q1=>?_
  (simp! [id];repeat (simp only [Go];simp! [id]))
  by_cases hxv:(x:Int)<=v1
  ·have e:v1+(if decide ((x:Int)<=v1)=true then (1:Int) else 0)=((v1.toNat+1:Nat):Int):=by simp [hxv];omega
   rw [e];exact post _ _ a1 (by omega) (by omega)
  ·have e:v1+(if decide ((x:Int)<=v1)=true then (1:Int) else 0)=((v1.toNat:Nat):Int):=by simp [hxv];omega
   rw [e];exact post _ _ a1 (by omega) (by omega)
theorem wa9 {n:Nat} (G_jag:Ok P w mg base n T.f_jag (ue5 T)) (G_jak:Ok P w mg base n T.f_jak (uq0 T)) (G_jam:Ok P w mg base n T.f_jam (vj2 T)) (G_jac:Ok P w mg base n T.f_jac (vj5 T)):Ok P w mg base (n+1) T.f_jan (v97 T):=by
 refine u25 T.f_jan sc_jan (fun ds G R h=>?_) (fun cdv A outer s H E hr =>
   (u03 (u15 2 sc_jan.nd (ec T.f_jag T.g_law_draw G_jag hr (u00 (ev 0) (u00 (ev 1) u02))))
   (u03 (u15 3 sc_jan.nd (ec T.f_jag T.g_law_draw G_jag hr (u00 (ev 0) (u00 u04 u02))))
   (u03 (s_if (t_w (w_and (u13 (x_eq hr) (ev 3) u04 (nomark _)) (u90 (u13 (x_gt) (ev 1) u04 (nomark _))))) (u06 (u17 (u56 (u00 u08 (u00 (ev 2) (u00 (ec T.f_jam T.g_law_other G_jam hr (u00 (ev 0) (u00 (ev 1) (u00 (ev 2) u02)))) u02)))))) u21)
   (u03 (s_if (u13 (x_lt) (ev 3) u04 (nomark _)) (u03 (u15 4 sc_jan.nd (u32 u02))
   (u03 (un8 (ul4 rfl T.b_range (u00 (ec T.f_jag T.g_law_draw G_jag hr (u00 (ev 0) (u00 u04 u02))) u02)) (u27 5 sc_jan.nd) (u06 (s_if (u13 (x_gt) (ev 1) u04 (nomark _)) (u06 (uc9 (u97 (ev 4) (u00 (u56 (u00 (ec T.f_jam T.g_law_other G_jam hr (u00 (ev 0) (u00 (ev 1) (u00 (ev 2) u02)))) (u00 (ec T.f_jac T.g_law_bit G_jac hr (u00 (ev 0) u02)) u02))) u02)))) u21)))
   (u06 (u17 (u56 (u00 u08 (u00 (ev 2) (u00 (ec T.f_jac T.g_law_bit G_jac hr (u00 (ev 0) u02)) (u00 (u14 uc3 rfl T.b_tuple (by decide) (u00 (ev 4) u02)) u02))))))))) u21)
   (u03 (u15 6 sc_jan.nd (u56 (u00 u08 (u00 (ec T.f_jak T.g_law_number G_jak hr (u00 (ev 0) u02)) u02))))
   (u03 (s_if (t_w (w_and (u13 (x_gt) (ev 1) u04 (nomark _)) (u90 (u13 (x_eq hr) (ec T.f_jag T.g_law_draw G_jag hr (u00 (ev 0) (u00 u04 u02))) u04 (nomark _))))) (u06 (u15 6 sc_jan.nd (u56 (u00 u08 (u00 (ec T.f_jam T.g_law_other G_jam hr (u00 (ev 0) (u00 (ev 1) (u00 (ev 2) u02)))) u02))))) u21)
   (u06 (u17 (u56 (u00 (e_ix x_ix (u32 (u00 u08 (u00 u08 u02))) (u11 uj4 (ev 3) u04)) (u00 (ev 2) (u00 (ev 6) u02))))))))))))) (fun ds G R h=>?_)
 ·obtain ⟨st,sz,rfl,_⟩:=h;rfl
 ·obtain ⟨st,sz,rfl,hst,h1,h1000,post⟩:=h
  have other:∀ {G:Gp} {x:Nat} {q:DK},StAt G st->2<=sz->x < sz->(∀ (y:Nat) G',Adv st G G'->y < sz->y ≠ x->q (.int (y:Int)) G')->∃ R,vj2 T [.ref st,.int (sz:Int),.int (x:Int)] G R /\ ∀ d G',R d G'->q d G':=fun {G x q} hs h2 hx k =>
   u18 (post:=fun d G'=>∃ y:Nat,d=.int (y:Int) /\ Adv st G G' /\ y < sz /\ y ≠ x) (fun R h=>⟨st,sz,x,rfl,hs,h2,h1000,hx,fun y G' a b c=>h _ _ ⟨y,rfl,a,b,c⟩⟩) fun d G' ⟨y,e,a,b,c⟩=>by subst e;exact k y G' a b c
  have bitc:∀ {G:Gp} {q:DK},StAt G st->(∀ (j:Nat) G',Adv st G G'->j < 32->q (.int (j:Int)) G')->∃ R,vj5 T [.ref st] G R /\ ∀ d G',R d G'->q d G':=fun {G q} hs k =>
   u18 (post:=fun d G'=>∃ y:Nat,d=.int (y:Int) /\ Adv st G G' /\ y < 32) (fun R h=>⟨st,rfl,hs,fun y G' a b=>h _ _ ⟨y,rfl,a,b⟩⟩) fun d G' ⟨y,e,a,b⟩=>by subst e;exact k y G' a b
  have numc:∀ {G:Gp} {q:DK},StAt G st->(∀ (v:Int) G',Adv st G G'->0<=v->v < 4294967296->q (.int v) G')->∃ R,uq0 T [.ref st] G R /\ ∀ d G',R d G'->q d G':=fun {G q} hs k =>
   u18 (post:=fun d G'=>∃ v:Int,d=.int v /\ Adv st G G' /\ 0<=v /\ v < 4294967296) (fun R h=>⟨st,rfl,hs,fun y G' a b c=>h _ _ ⟨y,rfl,a,b,c⟩⟩) fun d G' ⟨y,e,a,b,c⟩=>by subst e;exact k y G' a b c
  have s3:3<=sizeLine:=by decide
  have s2:2<=sizeLine:=by decide
  simp! [id];refine u10 hst (by omega) (by omega) fun v1 G1 a1 p1 q1=>?_
  obtain ⟨x,rfl⟩:∃ x:Nat,v1=(x:Int):=⟨v1.toNat,by omega⟩;have hx:x < sz:=by omega
  dsimp! [id];refine u10 a1.at_ (by decide) (by decide) fun v2 G2 a2 p2 q2=>?_
  have a12:=a1.trans a2;have two:∀ (o:Opd) (G':Gp) (od:D),od=o.d->Adv st G G'->o.ok sz x->∀ p,G' p=none->(match atI [D.str "add",D.str "take"] (v2 % 2) with | some d=>3<=sizeLine /\ R (.tup [d,.int (x:Int),od]) (gup G' p (.lst [.str "add",.str "take"])) | none=>False):=by
   intro o G' od eo a ho p hp;subst eo;have:v2 % 2=0 \/ v2 % 2=1:=by omega
   rcases this with e | e
   ·rw [e,vi8];exact ⟨s3,post (.add x o) _ (a.new hp) ⟨hx,ho⟩ rfl⟩
   ·rw [e,vi7];exact ⟨s3,post (.take x o) _ (a.new hp) ⟨hx,ho⟩ rfl⟩
  dsimp! [id];refine vy2 (fun h0 h2=>?_) (fun h0=>?_)
  ·refine other a12.at_ (by omega) hx fun y G3 a3 hy hne=>?_
   exact ⟨s3,post (.swap x y) _ (a12.trans a3) ⟨hx,hy,hne⟩ rfl⟩
  ·dsimp! [id]
   refine ub4 (fun h4=>?_) (fun h4=>?_)
   ·refine ⟨by decide,fun p hp=>?_⟩
    have hps:p ≠ st:=a12.at_.ne hp
    have hGp:G p=none:=a12.none hp hps;dsimp! [id];refine u10 (a12.new hp).at_ (by decide) (by decide) fun v3 G3 a3 p3 q3=>?_
    have a13:=(a12.new (o:=.lst []) hp).trans a3;have h3:G3 p=some (.lst []):=a3.kp _ _ hps u01;simp! [id];refine ⟨⟨by omega,by omega⟩,?_⟩;refine u66 (fun r σ G'=>∃ (cs:List (Nat × Nat)) (i:Nat) (v:Option D),r.length=i /\ cs.length+i<=2 /\ (∀ c ∈ cs,c.1 < sz /\ c.1 ≠ x /\ c.2 < 32) /\ Adv st G G' /\ G' p=some (.lst (cs.map cd)) /\ σ=[some (.ref st),some (.int (sz:Int)),some (.int (x:Int)),some (.int v2),some (.ref p),v,none])
     ⟨[],_,none,rfl,by simp [rngD];omega,by simp,a13,h3,rfl⟩ ?_ ?_
    ·rintro σ G' ⟨cs,i,v,_,hlen,hcs,a,hp',rfl⟩
     refine ⟨trivial,?_⟩;dsimp! [id];refine bitc a.at_ fun j G4 a4 hj=>?_
     have h4':G4 p=some (.lst (cs.map cd)):=a4.kp _ _ hps hp';simp! [h4'];exact ⟨by decide,post (.turn x j cs) _ (a.trans a4) ⟨hx,hj,by omega,hcs⟩ rfl⟩
    ·rintro z r σ G' ⟨cs,i,v,hr,hlen,hcs,a,hp',rfl⟩ ih
     refine ⟨trivial,?_⟩;simp! [hp'];rw [List.length_cons] at hr;refine ub4 (fun h5=>?_) (fun h5=>?_)
     ·refine other a.at_ (by omega) hx fun y G4 a4 hy hne=>?_
      simp! [id];refine bitc a4.at_ fun j G5 a5 hj=>?_
      have a15:=a.trans (a4.trans a5);have h5':G5 p=some (.lst (cs.map cd)):=(a4.trans a5).kp _ _ hps hp';simp! [h5'];refine ⟨s2,by rw [List.length_map];exact Nat.lt_of_le_of_lt (m:=2) (by omega) (by decide),?_⟩;refine ih _ _ ⟨cs++[(y,j)],r.length,_,rfl,by rw [List.length_append,List.length_singleton];omega,?_,a15.own hGp h5' hps,by rw [u01,List.map_append];rfl,rfl⟩;intro c hc
      rcases List.mem_append.mp hc with q | q
      ·exact hcs c q
      ·rw [List.mem_singleton] at q;subst q;exact ⟨hy,hne,hj⟩
     ·exact ih _ _ ⟨cs,r.length,_,rfl,by omega,hcs,a,hp',rfl⟩
   ·dsimp! [id]
    refine numc a12.at_ fun v G3 a3 hv0 hv1=>?_
    have a13:=a12.trans a3;simp! [id];refine ⟨s2,?_⟩;dsimp! [id]
    by_cases h2:1 < sz
    ·have e:decide ((1:Int) < (sz:Int))=true:=by simp;omega
     simp! [e];refine u10 a13.at_ (by decide) (by decide) fun v4 G4 a4 p4 q4=>?_
     have a14:=a13.trans a4;simp! [id];refine ub4 (fun h5=>?_) (fun h5=>?_)
     ·refine other a14.at_ (by omega) hx fun y G5 a5 hy hne=>?_
      simp! [id];refine ⟨s2,?_⟩;dsimp! [id];exact ⟨s2,fun p hp=>⟨by decide,two (.box y) _ _ rfl (a14.trans a5) ⟨hy,hne⟩ p hp⟩⟩
     ·dsimp! [id]
      exact ⟨s2,fun p hp=>⟨by decide,two (.num v) _ _ rfl a14 ⟨hv0,hv1⟩ p hp⟩⟩
    ·have e:decide ((1:Int) < (sz:Int))=false:=by simp;omega
     simp! [e];dsimp! [id];exact ⟨s2,fun p hp=>⟨by decide,two (.num v) _ _ rfl a13 ⟨hv0,hv1⟩ p hp⟩⟩
theorem wb9 {n:Nat} (G_jag:Ok P w mg base n T.f_jag (ue5 T)):Ok P w mg base (n+1) T.f_jac (vj5 T):=by
 refine u25 T.f_jac vl3 (fun ds G R h=>?_) (fun cdv A outer s H E hr =>
   (u06 (u17 (e_ix x_ix (u32 (u00 (ec T.f_jag T.g_law_draw G_jag hr (u00 (ev 0) (u00 u04 u02))) (u00 (ec T.f_jag T.g_law_draw G_jag hr (u00 (ev 0) (u00 u04 u02))) u02))) (ec T.f_jag T.g_law_draw G_jag hr (u00 (ev 0) (u00 u04 u02))))))) (fun ds G R h=>?_)
 ·obtain ⟨st,rfl,_⟩:=h;rfl
 ·obtain ⟨st,rfl,hst,post⟩:=h
  (simp! [id];repeat (simp only [Go];simp! [id]))
  refine u10 hst (by decide) (by decide) fun v1 G1 a1 p1 q1=>?_
  (simp! [id];repeat (simp only [Go];simp! [id]))
  refine u10 a1.at_ (by decide) (by decide) fun v2 G2 a2 p2 q2=>?_
  (simp! [id];repeat (simp only [Go];simp! [id]))
  refine ⟨by decide,fun p hp=>?_⟩;have a12:=(a1.trans a2).new (o:=.lst [.int v1,.int v2]) hp;refine u10 a12.at_ (by decide) (by decide) fun v3 G3 a3 p3 q3=>?_
  have hps:p ≠ st:=(a1.trans a2).at_.ne hp
  have h3:G3 p=some (.lst [.int v1,.int v2]):=a3.kp _ _ hps u01
  (simp! [h3];repeat (simp only [Go];simp! [h3]))
  have:v3=0 \/ v3=1:=by omega
  rcases this with rfl | rfl
  ·(simp! [id];repeat (simp only [Go];simp! [id]))
   rw [show v1=((v1.toNat:Nat):Int) by omega];exact post _ _ (a12.trans a3) (by omega)
  ·(simp! [id];repeat (simp only [Go];simp! [id]))
   rw [show v2=((v2.toNat:Nat):Int) by omega];exact post _ _ (a12.trans a3) (by omega)
theorem wb7 {n:Nat} (G_jag:Ok P w mg base n T.f_jag (ue5 T)) (G_jak:Ok P w mg base n T.f_jak (uq0 T)) (G_jan:Ok P w mg base n T.f_jan (v97 T)):Ok P w mg base (n+1) T.f_jaf (w22 T):=by
 refine u25 T.f_jaf sc_jaf (fun ds G R h=>?_) (fun cdv A outer s H E hr =>
   (u03 (u15 4 sc_jaf.nd (u11 um9 (u32 (u00 u38 u02)) (ev 2)))
   (u03 (un8 (ul4 rfl T.b_range (u00 (ev 2) u02)) (u27 5 sc_jaf.nd) (u03 (uq9 6 sc_jaf.nd (N':=["_law_k", "_law_at", "_law_rows"]) (ix:=[none,some 5,some 4]) (blk (osc:=u05 vc6) (N:=["_law_state", "_law_size", "_law_many", "_law_jumps", "_law_rows", "_law_at", "_law_free", "_law_k", "_law_x", "_law_n", "_law_turn"]) rfl rfl (by decide)) (ul4 rfl T.b_range (u00 (ev 2) u02)) (fun _ _ _ _=>(u27 0 (show (["_law_k", "_law_at", "_law_rows"]:List Str).Nodup by decide))) (fun _ _ _ _=>(vy5 (t_w (w_and (u13 (x_ne hr) (ev 0) (ev 1) (nomark _)) (u90 (u13 (uc4) (e_ix x_ix (ev 2) (ev 0)) u38 (nomark _))))))) (fun _ _ _ _=>(ev 0)))
   (u06 (s_if (t_w (w_and (u13 (uc4) (e_ix x_ix (ev 4) (ev 5)) u38 (nomark _)) (w_and (u13 (x_ne hr) (ev 6) (u32 u02) (nomark _)) (u90 (u13 (x_lt) (ec T.f_jag T.g_law_draw G_jag hr (u00 (ev 0) (u00 u04 u02))) (ev 3) (nomark _)))))) (u03 (u15 7 sc_jaf.nd (e_ix x_ix (ev 6) (ec T.f_jag T.g_law_draw G_jag hr (u00 (ev 0) (u00 (u12 u42 rfl T.b_len (by decide) (u00 (ev 6) u02)) u02)))))
   (u03 (u15 8 sc_jaf.nd (ec T.f_jag T.g_law_draw G_jag hr (u00 (ev 0) (u00 (ev 1) u02))))
   (u03 (u15 9 sc_jaf.nd (ec T.f_jak T.g_law_number G_jak hr (u00 (ev 0) u02)))
   (u03 (u15 10 sc_jaf.nd (ec T.f_jag T.g_law_draw G_jag hr (u00 (ev 0) (u00 u04 u02))))
   (u03 (un9 (u56 (u00 (e_ix x_ix (u32 (u00 u08 (u00 u08 (u00 u08 (u00 u08 u02))))) (ev 10)) (u00 (ev 8) (u00 (ev 9) (u00 (ev 7) u02))))) (uw4 (ev 4) (ev 5) uu7))
   (u06 (un9 (u56 (u00 (e_ix x_ix (u32 (u00 u08 (u00 u08 (u00 u08 (u00 u08 u02))))) (ev 10)) (u00 (ev 8) (u00 (ev 9) (u00 (ev 5) u02))))) (uw4 (ev 4) (ev 7) uu7)))))))) (u06 (s_if (u13 (uc4) (e_ix x_ix (ev 4) (ev 5)) u38 (nomark _)) (u06 (un9 (ec T.f_jan T.g_law_plain_row G_jan hr (u00 (ev 0) (u00 (ev 1) u02))) (uw4 (ev 4) (ev 5) uu7))) u21))))))
   (u06 (u17 (u56 (u00 (ev 1) (u00 (ev 4) u02)))))))) (fun ds G R h=>?_)
 ·obtain ⟨st,sz,m,jm,rfl,_⟩:=h;rfl
 ·obtain ⟨st,sz,m,jm,rfl,hst,hs1,hs2,hm,post⟩:=h
  have rowc:∀ {G:Gp} {q:DK},StAt G st->(∀ (row:Row) G',Adv st G G'->row.ok sz->row.plain=true->q row.d G')->∃ R,v97 T [.ref st,.int (sz:Int)] G R /\ ∀ d G',R d G'->q d G':=fun {G q} hs k =>
   u18 (post:=fun d G'=>∃ row:Row,d=row.d /\ Adv st G G' /\ row.ok sz /\ row.plain=true) (fun R h=>⟨st,sz,rfl,hs,hs1,hs2,fun y G' a b c=>h _ _ ⟨y,rfl,a,b,c⟩⟩) fun d G' ⟨y,e,a,b,c⟩=>by subst e;exact k y G' a b c
  have numc:∀ {G:Gp} {q:DK},StAt G st->(∀ (v:Int) G',Adv st G G'->0<=v->v < 4294967296->q (.int v) G')->∃ R,uq0 T [.ref st] G R /\ ∀ d G',R d G'->q d G':=fun {G q} hs k =>
   u18 (post:=fun d G'=>∃ v:Int,d=.int v /\ Adv st G G' /\ 0<=v /\ v < 4294967296) (fun R h=>⟨st,rfl,hs,fun y G' a b c=>h _ _ ⟨y,rfl,a,b,c⟩⟩) fun d G' ⟨y,e,a,b,c⟩=>by subst e;exact k y G' a b c
  have s2:2<=sizeLine:=by decide
  have s3:3<=sizeLine:=by decide
  have s4:4<=sizeLine:=by decide
  simp! [id];refine ⟨by decide,fun p0 hp0=>⟨⟨by omega,by omega,?_⟩,fun ra hra=>?_⟩⟩
  ·exact Nat.le_trans (m:=1000) (by omega) (by decide)
  have a0:=(Adv.refl hst).new (o:=.lst [.non]) hp0;have hras:ra ≠ st:=a0.at_.ne hra
  have hGra:G ra=none:=a0.none hra hras;have a1:=a0.new (o:=.lst (List.replicate m [D.non]).flatten) hra;dsimp! [id];refine ⟨vl6 (Nat.le_trans hm (by decide)),?_⟩;refine u66 (fun r σ G'=>∃ (i k:Nat) (os:List (Option Row)) (v5 v6 v7 v8 v9 v10:Option D),r=rngD (i:Int) k /\ i+k=m /\ os.length=m /\ PairsO os /\ (∀ r,some r ∈ os->r.ok sz) /\ (∀ j,j < i->∃ r,os[j]?=some (some r)) /\ Adv st G G' /\ G' ra=some (.lst (os.map od)) /\
    σ=[some (.ref st),some (.int (sz:Int)),some (.int (m:Int)),some (.int jm),some (.ref ra),v5,v6,v7,v8,v9,v10])
   ⟨0,m,List.replicate m none,none,none,none,none,none,none,rfl,Nat.zero_add m,by simp,PairsO.empty,fun r h=>by (have:=(List.mem_replicate.mp h).2;cases this),fun j h=>absurd h (Nat.not_lt_zero j),a1,by rw [u01,us8,List.map_replicate];rfl,rfl⟩ ?_ ?_
  ·rintro σ G' ⟨i,k,os,v5,v6,v7,v8,v9,v10,e,hik,hos,hpo,hok,hall,a,hg,rfl⟩
   have hk:k=0:=by
    cases k with
    | zero=>rfl
    | succ k=>rw [u49] at e;cases e
   subst hk;obtain ⟨rs,rfl⟩:=vi9 fun j hj=>hall j (by omega)
   refine ⟨trivial,?_⟩;dsimp! [id];refine ⟨by decide,post ra rs G' a hGra (by rw [hg,vv8]) (by simpa using hos) (fun r hr=>hok r (List.mem_map_of_mem hr)) hpo.pairs⟩
  ·rintro z r σ G' ⟨i,k,os,v5,v6,v7,v8,v9,v10,e,hik,hos,hpo,hok,hall,a,hg,rfl⟩ ih
   cases k with
   | zero=>cases e
   | succ k =>
    rw [u49] at e;cases e;refine ⟨trivial,?_⟩;have hi:i < os.length:=hos ▸ i_lt hik;have hlen:(os.map od).length=m:=by rw [List.length_map];exact hos
    have hat:∀ j,j < os.length->atI (os.map od) (j:Int)=some (od os[j]!):=fun j hj=>by
     refine u62 ?_;rw [List.getElem?_map,List.getElem?_eq_getElem hj,List.getElem!_eq_getElem?_getD,List.getElem?_eq_getElem hj];rfl
    have hget:∀ j (hj:j < os.length),os[j]?=some os[j]!:=fun j hj=>by
     rw [List.getElem!_eq_getElem?_getD,List.getElem?_eq_getElem hj];rfl
    simp! [id];refine ⟨vl6 (Nat.le_trans hm (by decide)),fun p hp=>?_⟩;have hps:p ≠ st:=a.at_.ne hp
    have hpra:p ≠ ra:=gne' hp hg;refine u26 (fun r' σ' G''=>∃ (i' k':Nat) (ks:List Int) (v:Option D),r'=rngD (i':Int) k' /\ i'+k'=m /\ ks.length+k'<=m /\ (∀ z ∈ ks,∃ j:Nat,z=(j:Int) /\ j ≠ i /\ os[j]?=some none) /\ G''=gup G' p (.lst (ks.map .int)) /\ σ'=[v,some (.int (i:Int)),some (.ref ra)])
     ⟨0,m,[],none,rfl,Nat.zero_add m,by simp,by simp,rfl,rfl⟩ ?_ ?_
    ·rintro σ' G'' ⟨i',k',ks,v,e',hik',hks,hfree,rfl,rfl⟩
     refine ⟨trivial,?_⟩;have a2:=a.new (o:=.lst (ks.map .int)) hp;have hg2:gup G' p (.lst (ks.map .int)) ra=some (.lst (os.map od)):=by rw [u07 (Ne.symm hpra)];exact hg
     have lay:∀ (G3:Gp) (w5:Option D),os[i]?=some none->Adv st G G3->G3 ra=some (.lst (os.map od))->∀ {q:DSt->Gp->Prop},(∀ (row:Row) (G4:Gp),row.ok sz->row.plain=true->Adv st G G4->G4 ra=some (.lst ((os.set i (some row)).map od))->q [some (.ref st),some (.int (sz:Int)),some (.int (m:Int)),some (.int jm),some (.ref ra),some (.int (i:Int)),w5,v7,v8,v9,v10] G4) ->
       dAsg (dCall (v97 T) [] (ua8 (dVar 0) (ua8 (dVar 1) dNil))) (jSub (dVar 4) (dVar 5) xSet) { nx:=q,rt:=R } [some (.ref st),some (.int (sz:Int)),some (.int (m:Int)),some (.int jm),some (.ref ra),some (.int (i:Int)),w5,v7,v8,v9,v10] G3:=by
      intro G3 w5 hi0 a3 h3 q hq;simp! [id];refine rowc a3.at_ fun row G4 a4 ho hpl=>?_
      have h4:=a4.kp _ _ hras h3;have hix:ixN (os.map od).length (i:Int)=some i:=us4 (hlen ▸ i_lt hik);simp! [h4,hix];refine hq row _ ho hpl ((a3.trans a4).own hGra h4 hras) ?_;rw [u01,List.map_set];rfl
     have stays:∀ (G4:Gp) (os':List (Option Row)) (w4 w5 w6 w7 w8 w9:Option D),os'.length=m->PairsO os'->(∀ r,some r ∈ os'->r.ok sz)->(∀ j,j < i+1->∃ r,os'[j]?=some (some r))->Adv st G G4->G4 ra=some (.lst (os'.map od))->∃ (i' k':Nat) (os:List (Option Row)) (v5 v6 v7 v8 v9 v10:Option D),rngD ((i:Int)+1) k=rngD (i':Int) k' /\ i'+k'=m /\ os.length=m /\ PairsO os /\ (∀ r,some r ∈ os->r.ok sz) /\ (∀ j,j < i'->∃ r,os[j]?=some (some r)) /\ Adv st G G4 /\ G4 ra=some (.lst (os.map od)) /\
       [some (.ref st),some (.int (sz:Int)),some (.int (m:Int)),some (.int jm),some (.ref ra),w4,w5,w6,w7,w8,w9]=[some (.ref st),some (.int (sz:Int)),some (.int (m:Int)),some (.int jm),some (.ref ra),v5,v6,v7,v8,v9,v10] :=
      fun G4 os' w4 w5 w6 w7 w8 w9 h1 h2 h3 h4 h5 h6=>⟨i+1,k,os',w4,w5,w6,w7,w8,w9,rfl,un6 hik,h1,h2,h3,h4,h5,h6,rfl⟩
     have laid:∀ (row:Row) (G4:Gp) (w4 w5 w6 w7 w8 w9:Option D),os[i]?=some none->row.ok sz->row.plain=true->Adv st G G4->G4 ra=some (.lst ((os.set i (some row)).map od))->_:=fun row G4 w4 w5 w6 w7 w8 w9 h0 h1 h2 h3 h4=>stays G4 (os.set i (some row)) w4 w5 w6 w7 w8 w9 (by rw [List.length_set];exact hos) (hpo.plain h0 h2) (fun r hr=>by
      rcases List.mem_or_eq_of_mem_set hr with q | q
      ·exact hok r q
      ·cases q;exact h1) (fun j hj=>by
      rw [List.getElem?_set]
      by_cases e:i=j
      ·rw [if_pos e,if_pos hi];exact ⟨_,rfl⟩
      ·rw [if_neg e];exact hall j (wc5 hj e)) h3 h4
     dsimp! [id];simp! [hg2,hat i hi];cases ho:os[i]! with
     | some r =>
      have fin:=stays (gup G' p (.lst (ks.map .int))) os (some (.int (i:Int))) (some (.ref p)) v7 v8 v9 v10 hos hpo hok (fun j hj=>by
       by_cases e:j=i
       ·subst e;exact ⟨r,by rw [hget j hi,ho]⟩
       ·exact hall j (wc4 hj e)) a2 hg2
      cases r <;> (dsimp! only [od,Row.d,hg2,hat i hi,ho];exact ih _ _ fin)
     | none =>
      have hi0:os[i]?=some none:=by rw [hget i hi,ho]
      simp! [od];refine ⟨by decide,fun p2 hp2=>?_⟩;have hpp2:p ≠ p2:=fun e=>by rw [<- e,u01] at hp2;cases hp2
      have a3:=a2.new (o:=.lst []) hp2;have hra2:gup (gup G' p (.lst (ks.map .int))) p2 (.lst []) ra=some (.lst (os.map od)):=by rw [u07 (gne hg2 hp2)];exact hg2
      have hpv:gup (gup G' p (.lst (ks.map .int))) p2 (.lst []) p=some (.lst (ks.map .int)):=by rw [u07 hpp2,u01]
      refine vi4 (ks:=ks) (ms:=[]) (by rw [hpv];rfl) (by rw [u01];rfl) ?_;simp! [id];refine wk2 (fun hb=>?_) (fun hb=>?_)
      ·have hksm:ks.length<=m:=Nat.le_trans (Nat.le_add_right _ _) hks
       have hk0:0 < ks.length:=by
        cases ks with
        | nil=>cases hb
        | cons z zs=>simp
       refine u10 a3.at_ (by decide) (by decide) fun v G4 a4 l0 h0=>?_
       have g4:=a4.kp _ _ hras hra2;have p4:=a4.kp _ _ hps hpv;have A4:=a3.trans a4;refine ub4 (fun hv=>?_) (fun hv=>?_)
       ·simp! [p4,List.length_map]
        refine u10 a4.at_ (ipos hk0) (ismall (Nat.le_trans hksm hm)) fun w1 G6 a6 l1 h1=>?_
        have A6:=A4.trans a6;have p6:G6 p=some (.lst (ks.map .int)):=a6.kp _ _ hps p4;have g6:G6 ra=some (.lst (os.map od)):=a6.kp _ _ hras g4;simp! [p6,v93 l1 h1];obtain ⟨l,el,hli,hl0⟩:=hfree _ (List.getElem_mem (show w1.toNat < ks.length from wi2 l1 h1));rw [el];have hll:=uw1 hl0;dsimp! [id];refine u10 a6.at_ (ipos hs1) (ismall hs2) fun u1 G7 a7 m1 k1=>?_
        obtain ⟨x,rfl⟩:∃ x:Nat,u1=(x:Int):=uc6 m1;have hxs:x < sz:=nlt k1;dsimp! [id];refine numc a7.at_ fun n0 G8 a8 m2 k2=>?_
        dsimp! [id];refine u10 a8.at_ (by decide) (by decide) fun t G9 a9 m3 k3=>?_
        have A9:=((A6.trans a7).trans a8).trans a9;have g9:=a9.kp _ _ hras (a8.kp _ _ hras (a7.kp _ _ hras g6));have hix:∀ os':List (Option Row),os'.length=m->ixN (os'.map od).length (i:Int)=some i:=fun os' h=>us4 (by rw [List.length_map,h];exact i_lt hik)
        have hixl:∀ os':List (Option Row),os'.length=m->ixN (os'.map od).length (l:Int)=some l:=fun os' h=>us4 (by rw [List.length_map,h,<- hos];exact hll)
        have both:∀ (ra1 rb:Row) (G12:Gp),(ra1=.go x n0 l /\ rb=.come x n0 i) \/ (ra1=.come x n0 l /\ rb=.go x n0 i)->Adv st G G12->G12 ra=some (.lst (((os.set i (some ra1)).set l (some rb)).map od))->∀ w4 w5 w6 w7 w8 w9,_:=fun ra1 rb G12 hab a12 g12 w4 w5 w6 w7 w8 w9=>stays G12 ((os.set i (some ra1)).set l (some rb)) w4 w5 w6 w7 w8 w9 (by rw [List.length_set,List.length_set];exact hos) (hpo.pair hi0 hl0 hli hab) (fun r hr=>by
         have okp:ra1.ok sz /\ rb.ok sz:=by
          rcases hab with ⟨rfl,rfl⟩ | ⟨rfl,rfl⟩ <;> exact ⟨⟨hxs,m2,k2⟩,⟨hxs,m2,k2⟩⟩
         rcases List.mem_or_eq_of_mem_set hr with q | q
         ·rcases List.mem_or_eq_of_mem_set q with q | q
          ·exact hok r q
          ·cases q;exact okp.1
         ·cases q;exact okp.2) (fun j hj=>by
         rw [List.getElem?_set,List.length_set]
         by_cases e1:l=j
         ·rw [if_pos e1,if_pos hll];exact ⟨_,rfl⟩
         ·rw [if_neg e1,List.getElem?_set]
          by_cases e2:i=j
          ·rw [if_pos e2,if_pos hi];exact ⟨_,rfl⟩
          ·rw [if_neg e2];exact hall j (wc5 hj e2)) a12 g12
        have:(atI [D.str "go",.str "go",.str "go",.str "come"] t=some (.str "go") /\ atI [D.str "come",.str "come",.str "come",.str "go"] t=some (.str "come")) \/ (atI [D.str "go",.str "go",.str "go",.str "come"] t=some (.str "come") /\ atI [D.str "come",.str "come",.str "come",.str "go"] t=some (.str "go")):=by
         have:t=0 \/ t=1 \/ t=2 \/ t=3:=cases4 m3 k3
         rcases this with rfl | rfl | rfl | rfl
         ·exact .inl ⟨vi8,vi8⟩
         ·exact .inl ⟨vi7,vi7⟩
         ·exact .inl ⟨w07,w07⟩
         ·exact .inr ⟨w06,w06⟩
        rcases this with ⟨e1,e2⟩ | ⟨e1,e2⟩
        ·dsimp! [g9]
         refine ⟨s4,fun q1 hq1=>?_⟩;have gq1:gup G9 q1 (.lst [.str "go",.str "go",.str "go",.str "come"]) ra=some (.lst (os.map od)):=by rw [u07 (gne g9 hq1)];exact g9
         simp! [gq1,e1,hix os hos];refine ⟨s4,?_⟩;have A10:=(A9.new (o:=.lst [.str "go",.str "go",.str "go",.str "come"]) hq1).own (ys:=(os.set i (some (Row.go x n0 l))).map od) hGra gq1 hras;have e10:(os.map od).set i (Row.go x n0 l).d=(os.set i (some (Row.go x n0 l))).map od:=by rw [List.map_set];rfl
         have e10':=e10;simp only [Row.d] at e10';rw [e10'];dsimp! [id];refine ⟨s4,fun q2 hq2=>?_⟩;have nq2:ra ≠ q2:=fun e=>by rw [<- e,u01] at hq2;cases hq2
         simp! [u07 nq2,e2,hixl (os.set i (some (Row.go x n0 l))) (by rw [List.length_set];exact hos)];refine ⟨s4,?_⟩;have gq2:gup (gup (gup G9 q1 (.lst [.str "go",.str "go",.str "go",.str "come"])) ra (.lst ((os.set i (some (Row.go x n0 l))).map od))) q2 (.lst [.str "come",.str "come",.str "come",.str "go"]) ra=some (.lst ((os.set i (some (Row.go x n0 l))).map od)):=by rw [u07 nq2,u01]
         refine ih _ _ (both (Row.go x n0 l) (Row.come x n0 i) _ (.inl ⟨rfl,rfl⟩) ((A10.new hq2).own hGra gq2 hras) ?_ _ _ _ _ _ _);simp only [u01,List.map_set];rfl
        ·dsimp! [g9]
         refine ⟨s4,fun q1 hq1=>?_⟩;have gq1:gup G9 q1 (.lst [.str "go",.str "go",.str "go",.str "come"]) ra=some (.lst (os.map od)):=by rw [u07 (gne g9 hq1)];exact g9
         simp! [gq1,e1,hix os hos];refine ⟨s4,?_⟩;have A10:=(A9.new (o:=.lst [.str "go",.str "go",.str "go",.str "come"]) hq1).own (ys:=(os.set i (some (Row.come x n0 l))).map od) hGra gq1 hras;have e10:(os.map od).set i (Row.come x n0 l).d=(os.set i (some (Row.come x n0 l))).map od:=by rw [List.map_set];rfl
         have e10':=e10;simp only [Row.d] at e10';rw [e10'];dsimp! [id];refine ⟨s4,fun q2 hq2=>?_⟩;have nq2:ra ≠ q2:=fun e=>by rw [<- e,u01] at hq2;cases hq2
         simp! [u07 nq2,e2,hixl (os.set i (some (Row.come x n0 l))) (by rw [List.length_set];exact hos)];refine ⟨s4,?_⟩;have gq2:gup (gup (gup G9 q1 (.lst [.str "go",.str "go",.str "go",.str "come"])) ra (.lst ((os.set i (some (Row.come x n0 l))).map od))) q2 (.lst [.str "come",.str "come",.str "come",.str "go"]) ra=some (.lst ((os.set i (some (Row.come x n0 l))).map od)):=by rw [u07 nq2,u01]
         refine ih _ _ (both (Row.come x n0 l) (Row.go x n0 i) _ (.inr ⟨rfl,rfl⟩) ((A10.new hq2).own hGra gq2 hras) ?_ _ _ _ _ _ _);simp only [u01,List.map_set];rfl
       ·simp! [g4,hat i hi,ho,od]
        exact lay G4 _ hi0 A4 g4 fun row G5 h1 h2 h3 h4=>ih _ _ (laid row G5 _ _ _ _ _ _ hi0 h1 h2 h3 h4)
      ·simp! [hra2,hat i hi,ho,od]
       exact lay _ _ hi0 a3 hra2 fun row G5 h1 h2 h3 h4=>ih _ _ (laid row G5 _ _ _ _ _ _ hi0 h1 h2 h3 h4)
    ·rintro z' r' σ' G'' ⟨i',k',ks,v,e',hik',hks,hfree,rfl,rfl⟩ ih'
     cases k' with
     | zero=>cases e'
     | succ k' =>
      rw [u49] at e';cases e';refine ⟨trivial,?_⟩;have hi':i' < os.length:=hos ▸ i_lt hik';have hg2:gup G' p (.lst (ks.map .int)) ra=some (.lst (os.map od)):=by rw [u07 (Ne.symm hpra)];exact hg
      have skip:=ih' [some (.int (i':Int)),some (.int (i:Int)),some (.ref ra)] (gup G' p (.lst (ks.map .int))) ⟨i'+1,k',ks,_,rfl,un6 hik',vx7 hks,hfree,rfl,rfl⟩;simp! [hg2,hat i' hi'];have ne1:(!decide ((i':Int)=(i:Int)))=decide (i' ≠ i):=by
       by_cases q:i'=i
       ·simp [q]
       ·have:¬ (i':Int)=(i:Int):=nint q
        simp [q,this]
      rw [ne1];refine ub4 (fun h0=>?_) (fun h0=>?_)
      ·cases ho:os[i']! with
       | some r=>cases r <;> (dsimp! only [od,Row.d];exact skip)
       | none =>
        simp! [od];refine ⟨by rw [List.length_map];exact Nat.lt_of_le_of_lt (m:=1000) (Nat.le_trans (wk1 hks) hm) (by decide),?_⟩;refine ih' _ _ ⟨i'+1,k',ks++[(i':Int)],_,rfl,un6 hik',by rw [List.length_append,List.length_singleton];exact vg1 hks,fun z hz=>?_,by rw [u65,List.map_append];rfl,rfl⟩
        rcases List.mem_append.mp hz with q | q
        ·exact hfree z q
        ·rw [List.mem_singleton] at q;subst q
         exact ⟨i',rfl,h0,by rw [hget i' hi',ho]⟩
      ·exact skip
theorem wa7 {n:Nat}:Ok P w mg base (n+1) T.f_jap (w18 T):=by
 refine u25 T.f_jap sc_jap (fun ds G R h=>?_) (fun cdv A outer s H E hr =>
   (u03 (u15 1 sc_jap.nd (u32 (u00 (e_ix x_ix (ev 0) u04) (u00 (u14 u33 rfl T.b_str (by decide) (u00 (e_ix x_ix (ev 0) u04) u02)) u02))))
   (u03 (s_if (u13 (x_in hr) (e_ix x_ix (ev 0) u04) (u56 (u00 u08 (u00 u08 u02))) (by with_unfolding_all rfl)) (u06 (uc9 (u97 (ev 1) (u00 (u11 u23 (e_ix x_ix (u32 (u00 u08 (u00 u08 u02))) (u14 ux9 rfl T.b_int (by decide) (u00 (ud7 (x_eq hr) (e_ix x_ix (e_ix x_ix (ev 0) u04) u04) u08 (nomark _)) u02))) (u14 u33 rfl T.b_str (by decide) (u00 (e_ix x_ix (e_ix x_ix (ev 0) u04) u04) u02))) u02)))) (u06 (s_if (u13 (x_eq hr) (e_ix x_ix (ev 0) u04) u08 (nomark _)) (u03 (uc9 (u97 (ev 1) (u00 (u14 u33 rfl T.b_str (by decide) (u00 (e_ix x_ix (ev 0) u04) u02)) u02)))
   (u06 (un8 (ue9 (e_ix x_ix (ev 0) u04)) (v47 (n:=2) rfl (u55 (u27 2 sc_jap.nd) (u55 (u27 3 sc_jap.nd) ul3))) (u06 (u15 1 sc_jap.nd (u11 u23 (ev 1) (u32 (u00 (u11 u23 u08 (u14 u33 rfl T.b_str (by decide) (u00 (ev 2) u02))) (u00 (u14 u33 rfl T.b_str (by decide) (u00 (ev 3) u02)) u02))))))))) (u06 (u15 1 sc_jap.nd (u11 u23 (ev 1) (u84 (N':=["_law_number_here"]) (ix:=[none]) (blk (osc:=u05 vc2) (N:=["_law_row", "_law_words", "_law_y", "_law_j"]) rfl rfl (by decide)) (ue9 (e_sl w26 (ev 0) (u35 u04) u41)) (fun _ _ _ _=>(u27 0 (show (["_law_number_here"]:List Str).Nodup by decide))) (fun _ _ _ _=>u44) (fun _ _ _ _=>(u14 u33 rfl T.b_str (by decide) (u00 (ev 0) u02))))))))))
   (u06 (u17 (u96 u08 (u00 (ev 1) u02))))))) (fun ds G R h=>?_)
 ·obtain ⟨r,rfl,_⟩:=h;rfl
 ·obtain ⟨r,rfl,hr,post⟩:=h
  have fin:∀ (G':Gp) (p:Addr) (s2:Str),s2 = " " -> Grow G G'->G' p=some (.lst ((rwS r).map .str))->v32 (.str s2) [.ref p] G' R:=fun G' p s2 es g k=>by
   subst es;obtain ⟨f3,f4⟩:=u81 sp1 (B:=11) (N:=7) (fun w hw=>(uo0 hr w hw).1) (ur0 hr) (by decide);exact ⟨_,p,rwS r,rfl,rfl,by rw [k];rfl,f3,f4,post G' g⟩
  have core:∀ (w0:Str) (x:Nat) (ns:List Int),(∀ n ∈ ns,0<=n /\ n<=9999999999)->ns.length<=3->rwS r=w0::numI (x:Int)::ns.map numI->∀ (p:Addr) (G1:Gp),Grow G G1->G1 p=some (.lst [.str w0,.str (numI (x:Int))]) ->
    xSlT (D.tup (.str w0::.int (x:Int)::ns.map .int)) (some 2) none G1 fun x_1 G1 =>
     match x_1 with
     | D.ref a =>
      match u16 (G1 a) with
      | some ds =>
       ∀ (p_1:Addr),
        G1 p_1=none ->
         ub6 (fun G=>u16 (G a)=some ds) (ub3 0) dYes (dCB uq2 (ua8 (dVar 0) dNil)) p_1
          (fun y_1 G2 =>
           xAdd (D.ref p) y_1 G2 fun x_2 G1 =>
            Go
             (dRet (dBM "str" v32 (dC (D.str " ")) (ua8 (dVar 1) dNil))
              { nx:=fun x G'=>R D.non G',rt:=R })
             [some (D.tup (.str w0::.int (x:Int)::ns.map .int)),some x_2,none,none] G1)
          ds [none] (gup G1 p_1 (DO.lst []))
      | none=>False
     | D.tup ds =>
      ∀ (p_1:Addr),
       G1 p_1=none ->
        ub6 (fun x=>True) (ub3 0) dYes (dCB uq2 (ua8 (dVar 0) dNil)) p_1
         (fun y_1 G2 =>
          xAdd (D.ref p) y_1 G2 fun x_2 G1 =>
           Go
            (dRet (dBM "str" v32 (dC (D.str " ")) (ua8 (dVar 1) dNil))
             { nx:=fun x G'=>R D.non G',rt:=R })
            [some (D.tup (.str w0::.int (x:Int)::ns.map .int)),some x_2,none,none] G1)
         ds [none] (gup G1 p_1 (DO.lst []))
     | x=>False:=by
   intro w0 x ns hn hl e p G1 g1 kp;simp! [xSlT];rw [cut2];intro p2 hp2;refine u26 (fun r σ G'=>∃ (l t:List Int) (v0:Option D),l++t=ns /\ r=t.map D.int /\ Grow G1 G' /\ G' p2=some (.lst (l.map fun n=>D.str (numI n))) /\ σ=[v0]) ⟨[],ns,none,rfl,rfl,Grow.refl.new hp2,u01,rfl⟩ ?_ ?_
   ·rintro σ G2 ⟨l,t,v0,e1,e2,g2,k2,rfl⟩
    have ht:t=[]:=by simpa using e2.symm
    subst ht;rw [List.append_nil] at e1;subst e1;refine ⟨trivial,?_⟩;simp! [u39,g2.kp _ _ kp,k2];refine ⟨Nat.le_trans (m:=10) (by simp;omega) (by decide),fun p4 hp4=>?_⟩;dsimp! [id];refine fin _ _ _ rfl ((g1.trans g2).trans (Grow.refl.new hp4)) ?_;rw [u01,e,List.map_cons,List.map_cons,List.map_map];rfl
   ·rintro z r σ G2 ⟨l,t,v0,e1,e2,g2,k2,rfl⟩ ih
    cases t with
    | nil=>cases e2
    | cons c t =>
     cases e2;refine ⟨trivial,?_⟩;have hc:=hn c (by rw [<- e1];simp);have hlen:=congrArg List.length e1;rw [List.length_append,List.length_cons] at hlen;simp! [id];refine ⟨c,rfl,logI hc.1 hc.2,?_⟩;simp! [k2];refine ⟨Nat.lt_of_le_of_lt (m:=1000) (by rw [List.length_map];omega) (by decide),ih _ _ ⟨l++[c],t,_,by rw [<- e1];simp,rfl,g2.own hp2,?_,rfl⟩⟩;rw [u01,List.map_append];rfl
  rcases vn0 r with ⟨w0,x,o,hrr,hd,hw⟩ | ⟨x,i,cs,rfl⟩ | ⟨x,y,rfl⟩ | ⟨w0,x,n,k,hrr,hd,h1,h2,h3,h4⟩
  ·have hk:x<=9999999999 /\ opK o:=by rcases hrr with rfl | rfl <;> exact hr
   have e:rwS r=[w0,numI (x:Int),opS o]:=by
    rcases hrr with rfl | rfl
    ·cases hd;rfl
    ·cases hd;rfl
   rw [e] at fin;simp only [hd];simp! [id];refine ⟨(x:Int),rfl,logI (by omega) (by omega),?_⟩;refine ⟨by decide,fun p hp=>?_⟩;cases o with
   | num n =>
    have hn:0<=n /\ n < 4294967296:=hk.2;have hwl:=(uq5 hn).1;have d:((Str.ofString "").length+(numI n).length<=sizeLine)=True:=eq_true (Nat.le_trans (m:=20) (by show 0+_<=_;omega) (by decide));dsimp! [u72,u39,hw,Opd.d];intro p1 hp1;refine ⟨n,rfl,logI hn.1 (by omega),?_⟩;simp! [addS,nI,d,v73,u07 (gne u01 hp1),u01];refine ⟨by decide,?_⟩;dsimp! [id];exact fin _ _ _ rfl (((Grow.refl.new hp).trans (Grow.refl.new hp1)).own hp) u01
   | box y =>
    have hn:y<=9999999999:=hk.2;have hwl:=u93 hn;have d:((Str.ofString "b").length+(numI (y:Int)).length<=sizeLine)=True:=eq_true (Nat.le_trans (m:=20) (by show 1+_<=_;omega) (by decide));dsimp! [u72,u39,hw,Opd.d];intro p1 hp1;refine ⟨(y:Int),rfl,logI (by omega) (by omega),?_⟩;simp! [addS,nI,d,u07 (gne u01 hp1),u01];refine ⟨by decide,?_⟩;dsimp! [id];exact fin _ _ _ rfl (((Grow.refl.new hp).trans (Grow.refl.new hp1)).own hp) u01
  ·obtain ⟨hx,hi,hl,hc⟩:=id hr
   simp! [Row.d];refine ⟨(x:Int),rfl,logI (by omega) (by omega),?_⟩;refine ⟨by decide,fun p hp=>?_⟩;dsimp! [u72,u39,Bool.true_or,Bool.false_or,Bool.or_true,Bool.or_false,u01];refine ⟨(i:Int),rfl,logI (by omega) (by omega),?_⟩;simp! [u01];refine ⟨by decide,?_⟩;dsimp! [id];refine u66 (fun r σ G'=>∃ (l t:List (Nat × Nat)) (q:Addr) (v v3:Option D),l++t=cs /\ r=t.map cd /\ Grow G G' /\ G' q=some (.lst ((rwS (.turn x i l)).map .str)) /\ σ=[some (Row.turn x i cs).d,some (.ref q),v,v3]) ⟨[],cs,p,none,none,rfl,rfl,(Grow.refl.new hp).own hp,u01,rfl⟩ ?_ ?_
   ·rintro σ G2 ⟨l,t,q,v,v3,e,e2,g2,k2,rfl⟩
    have ht:t=[]:=by simpa using e2.symm
    subst ht;rw [List.append_nil] at e;subst e;refine ⟨trivial,?_⟩;dsimp! [id];exact fin _ _ _ rfl g2 k2
   ·rintro z r σ G2 ⟨l,t,q,v,v3,e,e2,g2,k2,rfl⟩ ih
    cases t with
    | nil=>cases e2
    | cons c t =>
     cases e2;refine ⟨trivial,?_⟩;have hc1:=hc c (by rw [<- e];simp);have hwl:=u93 hc1.1;have hlen:=congrArg List.length e;rw [List.length_append,List.length_cons] at hlen;have d:((Str.ofString "b").length+(numI (c.1:Int)).length<=sizeLine)=True:=eq_true (Nat.le_trans (m:=20) (by show 1+_<=_;omega) (by decide));simp! [cd];refine ⟨(c.1:Int),rfl,logI (by omega) (by omega),?_⟩;simp! [addS,nI,d];refine ⟨(c.2:Int),rfl,logI (by omega) (by omega),by decide,fun p3 hp3=>?_⟩;simp! [u39,nI,u07 (gne k2 hp3),u01,k2];refine ⟨?_,fun p4 hp4=>ih _ _ ⟨l++[c],t,p4,_,_,by rw [<- e];simp,rfl,g2.trans ((Grow.refl.new hp3).trans (Grow.refl.new hp4)),?_,rfl⟩⟩
     ·refine Nat.le_trans (m:=20) ?_ (by decide)
      rw [List.length_map,vb2];omega
     ·rw [u01,uy7,List.map_append];rfl
  ·have hk:x<=9999999999 /\ y<=9999999999:=hr
   simp! [Row.d];refine ⟨(x:Int),rfl,logI (by omega) (by omega),?_⟩;refine ⟨by decide,fun p hp=>?_⟩;dsimp! [u72,u39,Bool.true_or,Bool.false_or,Bool.or_true,Bool.or_false];refine core _ x [(y:Int)] (fun n hn=>?_) (by simp) rfl p _ (Grow.refl.new hp) u01;rw [List.mem_singleton.mp hn];omega
  ·have hk:x<=9999999999 /\ (0<=n /\ n < 4294967296) /\ k<=9999999999:=by rcases hrr with rfl | rfl <;> exact hr
   have e:rwS r=[w0,numI (x:Int),numI n,numI (k:Int)]:=by
    rcases hrr with rfl | rfl
    ·cases hd;rfl
    ·cases hd;rfl
   simp only [hd];simp! [id];refine ⟨(x:Int),rfl,logI (by omega) (by omega),?_⟩;refine ⟨by decide,fun p hp=>?_⟩;dsimp! [u72,u39,h1,h2];refine core _ x [n,(k:Int)] (fun m hm=>?_) (by simp) e p _ (Grow.refl.new hp) u01
   rcases List.mem_cons.mp hm with e | hm
   ·rw [e];omega
   ·rw [List.mem_singleton.mp hm];omega
theorem wb3 {n:Nat} (G_jap:Ok P w mg base n T.f_jap (w18 T)):Ok P w mg base (n+1) T.f_jaj (w20 T):=by
 refine u25 T.f_jaj vl1 (fun ds G R h=>?_) (fun cdv A outer s H E hr =>
   (u06 (u17 (u11 u23 (u32 (u00 (u11 u23 u08 (u14 u33 rfl T.b_str (by decide) (u00 (e_ix x_ix (ev 0) u04) u02))) u02)) (u84 (N':=["_law_row"]) (ix:=[none]) (blk (osc:=u05 vc4) (N:=["_law_code_here"]) rfl rfl (by decide)) (ue9 (e_ix x_ix (ev 0) u04)) (fun _ _ _ _=>(u27 0 (show (["_law_row"]:List Str).Nodup by decide))) (fun _ _ _ _=>u44) (fun _ _ _ _=>(ec T.f_jap T.g_law_row_text G_jap hr (u00 (ev 0) u02)))))))) (fun ds G R h=>?_)
 ·obtain ⟨ra,rs,sz,rfl,_⟩:=h;rfl
 ·obtain ⟨ra,rs,sz,rfl,ha,hr,hz,hl,post⟩:=h
  simp! [id];refine ⟨(sz:Int),rfl,logI (by omega) (by omega),?_⟩;have d:((Str.ofString "size ").length+(numI (sz:Int)).length<=sizeLine)=True:=eq_true (Nat.le_trans (m:=20) (by have:=u93 hz;show 5+_<=_;omega) (by decide));simp! [addS,nI,d,wi4];refine ⟨by decide,fun p hp=>?_⟩;obtain ⟨G1,hG1⟩:∃ G1,G1=gup G p (.lst [D.str (szS sz)]):=⟨_,rfl⟩;have g1:Grow G G1:=by rw [hG1];exact Grow.refl.new hp
  have k1:G1 p=some (.lst [D.str (szS sz)]):=by rw [hG1];exact u01
  rw [<- hG1];clear hG1;have ha1:=g1.kp _ _ ha;simp! [ha1];intro p3 hp3;refine u26 (fun r σ G'=>∃ (l t:List Row) (v:Option D),l++t=rs /\ r=t.map Row.d /\ Grow G1 G' /\ G' p3=some (.lst ((l.map lnS).map .str)) /\ σ=[v]) ⟨[],rs,none,rfl,rfl,Grow.refl.new hp3,u01,rfl⟩ ?_ ?_
  ·rintro σ G2 ⟨l,t,v,e,e2,g2,k2,rfl⟩
   have ht:t=[]:=by simpa using e2.symm
   subst ht;rw [List.append_nil] at e;subst e;refine ⟨by rw [g2.kp _ _ ha1];rfl,?_⟩;have k12:=g2.kp _ _ k1;simp! [u39,k12,k2];refine ⟨Nat.le_trans (m:=5000) (by rw [List.length_map,List.length_map];omega) (by decide),fun q hq=>?_⟩;exact post q _ (g1.none (g2.none hq)) u01 ((g1.trans g2).trans (Grow.refl.new hq))
  ·rintro z r σ G2 ⟨l,t,v,e,e2,g2,k2,rfl⟩ ih
   cases t with
   | nil=>cases e2
   | cons c t =>
    cases e2;refine ⟨by rw [g2.kp _ _ ha1];rfl,?_⟩;have hc:=hr c (by rw [<- e];simp);have hlen:=congrArg List.length e;rw [List.length_append,List.length_cons] at hlen;simp! [id];refine u18 (post:=fun d G'=>d=.str (lnS c) /\ Grow G2 G') (fun R h=>⟨c,rfl,hc,fun G' z3=>h _ _ ⟨rfl,z3⟩⟩) ?_;rintro d G3 ⟨rfl,g3⟩;have k3:=g3.kp _ _ k2;simp! [k3];refine ⟨Nat.lt_of_le_of_lt (m:=5000) (by rw [List.length_map,List.length_map];omega) (by decide),ih _ _ ⟨l++[c],t,_,by rw [<- e];simp,rfl,(g2.trans g3).own hp3,?_,rfl⟩⟩;rw [u01,List.map_append,List.map_append];rfl
theorem wb1 {n:Nat}:Ok P w mg base (n+1) T.f_jal (ux6 T):=by
 refine u25 T.f_jal vl0 (fun ds G R h=>?_) (fun cdv A outer s H E hr =>
   (u03 (s_if (t_w (w_or (un5 (vq2 (x_le) (x_le) u04 (u12 u42 rfl T.b_len (by decide) (u00 (ev 0) u02)) u04)) (ug9 (t_w (w_and (u13 (x_eq hr) (e_ix x_ix (ev 0) u04) u08 (nomark _)) (u90 (u13 (x_ne hr) (ev 0) u08 (nomark _)))))))) (u06 (u17 e_bl)) u21)
   (u06 (u17 (uf0 (u12 va5 rfl T.b_all (by decide) (u00 (u84 (N':=["_law_sign"]) (ix:=[none]) (blk (osc:=u05 vc3) (N:=["_law_word", "_law_end"]) rfl rfl (by decide)) (we4 (ev 0)) (fun _ _ _ _=>(u27 0 (show (["_law_sign"]:List Str).Nodup by decide))) (fun _ _ _ _=>u44) (fun _ _ _ _=>(vz4 (w28) (w28) u08 (ev 0) u08))) u02)) (ui4 (ud7 (x_lt) (u14 uq1 rfl T.b_int (by decide) (u00 (ev 0) u02)) (ev 1) (nomark _)))))))) (fun ds G R h=>?_)
 ·obtain ⟨w,m,rfl,_⟩:=h;rfl
 ·obtain ⟨w,m,rfl,hl,hm,good,bad⟩:=h
  have hz:w.length<=sizeLine:=Nat.le_trans hl (by decide);have hztT:(w.length<=sizeLine)=True:=eq_true hz;simp! [u98,lenS,hztT]
  by_cases l1:¬ 1<=w.length
  ·have d3:((1:Int)<=w.length)=False:=eq_false (by omega)
   simp! [u98,lenS,hztT,d3];exact bad (fun z=>by have:=ua5 z;omega) _ Grow.refl
  have l1:=Classical.not_not.mp l1;have d3:((1:Int)<=w.length)=True:=eq_true (by omega)
  by_cases l2:¬ w.length<=10
  ·have d4:((w.length:Int)<=10)=False:=eq_false (by omega)
   simp! [u98,lenS,hztT,d3,d4];exact bad (fun z=>by have:=v52 z;have:=u93 hm;omega) _ Grow.refl
  have l2:=Classical.not_not.mp l2;have d4:((w.length:Int)<=10)=True:=eq_true (by omega);obtain ⟨c,r,hc2⟩:∃ c r,w.cps.toList=c::r:=by
   cases ew:w.cps.toList with
   | nil=>rw [str_len,ew] at l1;exact absurd l1 (by decide)
   | cons c r=>exact ⟨c,r,rfl⟩
  have ha:atI w.cps.toList 0=some c:=by rw [hc2];exact at0
  simp! [u98,lenS,hztT,d3,d4,ixS,ha];generalize hN:Go (dRet _ _)=N;have r1:(w.length=1 \/ w.cps.toList.head? ≠ some 48)->N [some (.str w),some (.int ((m:Int)+1))] G:=by
   intro h4;rw [<- hN];dsimp! [wStr];refine ⟨w,rfl,fun p hp=>?_⟩;generalize hM:(fun x G1=>xAll [x] G1 _:D->Gp->Prop)=M;refine u26 (fun r σ G'=>∃ (l t:List Nat) (v:Option D),l++t=w.cps.toList /\ r=t.map (fun c=>D.str ⟨#[c]⟩) /\ G'=gup G p (.lst ((l.map fun c=>decide (48<=c /\ c<=57)).map .bl)) /\ σ=[v]) ⟨[],_,none,rfl,rfl,rfl,rfl⟩ ?_ ?_
   ·rintro σ G1 ⟨l,t,v,e,e2,rfl,rfl⟩
    refine ⟨trivial,?_⟩;rw [<- hM];have ht:t=[]:=by simpa using e2.symm
    subst ht;rw [List.append_nil] at e;simp! [u01,u48,u75];have ea:(l.map fun c=>decide (48<=c /\ c<=57)).all id=decide (∀ c ∈ w.cps.toList,48<=c /\ c<=57):=by
     rw [e,Bool.eq_iff_iff,List.all_eq_true,decide_eq_true_iff]
     constructor
     ·intro h c hc
      exact of_decide_eq_true (h _ (List.mem_map.mpr ⟨c,hc,rfl⟩))
     ·intro h b hb
      obtain ⟨c,hc,rfl⟩:=List.mem_map.mp hb;exact decide_eq_true (h c hc)
    rw [ea]
    by_cases hd:∀ c ∈ w.cps.toList,48<=c /\ c<=57
    ·rw [decide_eq_true hd,if_pos rfl]
     obtain ⟨k,ek⟩:∃ k:Nat,w=numI (k:Int):=⟨_,v76 l1 hd h4⟩;have hk:k<=9999999999:=vm0 (by rw [<- ek];omega);refine ⟨_,(k:Int),rfl,by rw [ek];exact ur8 hk,by omega,?_⟩;have g2:Grow G (gup G p (.lst ((l.map fun c=>decide (48<=c /\ c<=57)).map .bl))):=Grow.refl.new hp
     by_cases h5:k<=m
     ·have d5:((k:Int) < (m:Int)+1)=True:=eq_true (by omega)
      simp! [d5];exact good (by rw [ek];exact isK_iff.mpr h5) _ g2
     ·have d5:((k:Int) < (m:Int)+1)=False:=eq_false (by omega)
      simp! [d5];exact bad (fun z=>h5 (by rw [ek] at z;exact isK_iff.mp z)) _ g2
    ·rw [decide_eq_false hd,if_neg (by decide)]
     exact bad (fun z=>hd (ua5 z).2.1) _ (Grow.refl.new hp)
   ·rintro z r σ G1 ⟨l,t,v,e,e2,rfl,rfl⟩ ih
    cases t with
    | nil=>cases e2
    | cons c t =>
     cases e2;refine ⟨trivial,?_⟩;have hlen:=congrArg List.length e;rw [List.length_append,List.length_cons,<- str_len] at hlen;have fin:∀ b:Bool,b=decide (48<=c /\ c<=57)->match (gup G p (.lst ((l.map fun c=>decide (48<=c /\ c<=57)).map .bl))) p with
       | some (DO.lst ys)=>ys.length < sizeLine /\ ub6 (fun x=>True) (ub3 0) dYes (u98 xLeS xLeS (dC (D.str "0")) (dVar 0) (dC (D.str "9"))) p M (t.map (fun c=>D.str ⟨#[c]⟩)) [some (.str ⟨#[c]⟩)] (gup (gup G p (.lst ((l.map fun c=>decide (48<=c /\ c<=57)).map .bl))) p (.lst (ys++[.bl b])))
       | _=>False:=by
      intro b eb;simp! [u01];refine ⟨Nat.lt_of_le_of_lt (m:=1000) (by rw [List.length_map,List.length_map];omega) (by decide),ih _ _ ⟨l++[c],t,_,by rw [<- e,List.append_assoc];rfl,rfl,?_,rfl⟩⟩;rw [u65,List.map_append,List.map_append,eb];rfl
     simp! [u98];refine ⟨_,_,rfl,rfl,?_⟩;have es:=vq9 c;cases h1:(!decide ((⟨#[c]⟩:Str).cps.toList < ("0" : Str).cps.toList)) with
     | false =>
      rw [h1,Bool.false_and] at es
      show (if false=true then _ else _)
      rw [if_neg (by decide)];exact fin false es
     | true =>
      rw [h1,Bool.true_and] at es
      show (if true=true then _ else _)
      rw [if_pos rfl];refine ⟨_,_,rfl,rfl,?_⟩;exact fin _ es
  by_cases h0:c=48
  ·have d6:({ cps:=#[c] }:Str)=Str.ofString "0" := by rw [h0];exact zero_mk.symm
   rw [if_pos (decide_eq_true d6)]
   by_cases h5:w=Str.ofString "0"
   ·rw [decide_eq_true h5]
    exact r1 (.inl (by rw [h5];decide))
   ·rw [decide_eq_false h5]
    refine bad (fun h=>?_) _ Grow.refl
    rcases (ua5 h).2.2 with z | z
    ·apply h5
     apply u43;rw [str_len,hc2,List.length_cons] at z;have:r=[]:=List.length_eq_zero_iff.mp (by omega);rw [hc2,this,h0];rfl
    ·exact z (by rw [hc2,h0];rfl)
  ·have d6:¬ ({ cps:=#[c] }:Str)=Str.ofString "0" := fun e=>h0 (one_eq.mp (e.trans zero_mk))
   rw [if_neg (by rw [decide_eq_false d6];decide)];exact r1 (.inr (by rw [hc2];intro z;cases z;exact h0 rfl))
theorem wb8 {n:Nat} (G_jal:Ok P w mg base n T.f_jal (ux6 T)):Ok P w mg base (n+1) T.f_jad (vj4 T):=by
 refine u25 T.f_jad vl2 (fun ds G R h=>?_) (fun cdv A outer s H E hr =>
   (u06 (u17 (uf0 (ud7 (x_eq hr) (e_sl uu6 (ev 0) u41 (u35 u04)) u08 (nomark _)) (ui4 (ec T.f_jal T.g_law_number_word G_jal hr (u00 (e_sl uu6 (ev 0) (u35 u04) u41) (u00 (u11 ub1 u04 u04) u02)))))))) (fun ds G R h=>?_)
 ·obtain ⟨w,rfl,_⟩:=h;rfl
 ·obtain ⟨w,rfl,hl,good,bad⟩:=h
  have hz:w.length<=sizeLine:=Nat.le_trans hl (by decide);simp! [id];refine ⟨w,rfl,hz,?_⟩;rw [show Txt.slice w none (some 1)=hd1 w from rfl];have eh:=vy7 w;have mkb:("b" : Str)=⟨#[98]⟩:=by decide
  by_cases h0:∃ r,w.cps.toList=98::r
  ·obtain ⟨r,hw⟩:=h0
   have d1:(hd1 w=Str.ofString "b")=True:=eq_true (mkb ▸ u43 (by rw [eh,hw];rfl));simp! [d1];refine ⟨w,rfl,hz,⟨by decide,by decide⟩,?_⟩;rw [show (10:Int) ^ Int.toNat 10=((9999999999:Nat):Int)+1 from rfl,show Txt.slice w (some 1) none=tl w from rfl];have et2:tl w=⟨r.toArray⟩:=u43 (by rw [vk1,hw];rfl);refine u99 T (Nat.le_trans (w40 w) hl) (Nat.le_refl _) (fun G' hk g=>?_) fun G' hk g=>?_
   ·exact good (bw_iff.mpr ⟨r,hw,et2 ▸ hk⟩) _ g
   ·refine bad (fun z=>hk ?_) _ g
    obtain ⟨r',e2,h2⟩:=bw_iff.mp z;rw [hw] at e2;cases e2;rw [et2];exact h2
  ·have d1:(hd1 w=Str.ofString "b")=False:=eq_false fun z=>by
    have z:hd1 w=⟨#[98]⟩:=z.trans mkb;rw [z] at eh;cases hw:w.cps.toList with
    | nil=>rw [hw] at eh;cases eh
    | cons c r=>rw [hw] at eh;cases eh;exact h0 ⟨r,hw⟩
   simp! [d1];exact bad (fun z=>let ⟨r,e2,_⟩:=bw_iff.mp z;h0 ⟨r,e2⟩) _ Grow.refl
theorem wb5 {n:Nat} (G_jal:Ok P w mg base n T.f_jal (ux6 T)) (G_jad:Ok P w mg base n T.f_jad (vj4 T)):Ok P w mg base (n+1) T.f_jah (vj3 T):=by
 refine u25 T.f_jah sc_jah (fun ds G R h=>?_) (fun cdv A outer s H E hr =>
   (u03 (u15 1 sc_jah.nd (u67 (ev 0) (u00 u08 u02)))
   (u03 (u15 2 sc_jah.nd (e_ix x_ix (ev 1) u04))
   (u03 (s_if (t_w (w_or (u13 (uy0 hr) (ev 2) (u56 (u00 u08 (u00 u08 (u00 u08 (u00 u08 (u00 u08 (u00 u08 u02))))))) (by with_unfolding_all rfl)) (ug9 (u13 (x_lt) (u12 u42 rfl T.b_len (by decide) (u00 (ev 1) u02)) u04 (nomark _))))) (u06 (u17 e_bl)) u21)
   (u03 (s_if (un5 (un4 (ec T.f_jal T.g_law_number_word G_jal hr (u00 (e_ix x_ix (ev 1) u04) (u00 (u11 ub1 u04 u04) u02))))) (u06 (u17 e_bl)) u21)
   (u03 (s_if (u13 (x_in hr) (ev 2) (u56 (u00 u08 (u00 u08 u02))) (by with_unfolding_all rfl)) (u06 (u17 (uf0 (ud7 (x_eq hr) (u12 u42 rfl T.b_len (by decide) (u00 (ev 1) u02)) u04 (nomark _)) (ui4 (e_or (ec T.f_jad T.g_law_box_word G_jad hr (u00 (e_ix x_ix (ev 1) u04) u02)) (ui4 (ec T.f_jal T.g_law_number_word G_jal hr (u00 (e_ix x_ix (ev 1) u04) (u00 (u11 ub1 u04 u04) u02))))))))) u21)
   (u03 (s_if (u13 (x_eq hr) (ev 2) u08 (nomark _)) (u06 (u17 (uf0 (ud7 (x_eq hr) (u12 u42 rfl T.b_len (by decide) (u00 (ev 1) u02)) u04 (nomark _)) (ui4 (ec T.f_jal T.g_law_number_word G_jal hr (u00 (e_ix x_ix (ev 1) u04) (u00 (u11 ub1 u04 u04) u02))))))) u21)
   (u03 (s_if (u13 (x_ne hr) (ev 2) u08 (nomark _)) (u06 (u17 (uf0 (ud7 (x_eq hr) (u12 u42 rfl T.b_len (by decide) (u00 (ev 1) u02)) u04 (nomark _)) (uf0 (ec T.f_jal T.g_law_number_word G_jal hr (u00 (e_ix x_ix (ev 1) u04) (u00 (u11 ub1 u04 u04) u02))) (ui4 (ec T.f_jal T.g_law_number_word G_jal hr (u00 (e_ix x_ix (ev 1) u04) (u00 (u11 ub1 u04 u04) u02)))))))) u21)
   (u03 (s_if (t_w (w_or (u13 (x_gt) (u12 u42 rfl T.b_len (by decide) (u00 (ev 1) u02)) u04 (nomark _)) (w_or (u13 (x_eq hr) (u11 uj4 (u12 u42 rfl T.b_len (by decide) (u00 (ev 1) u02)) u04) u04 (nomark _)) (ug9 (un5 (un4 (ec T.f_jal T.g_law_number_word G_jal hr (u00 (e_ix x_ix (ev 1) u04) (u00 u04 u02))))))))) (u06 (u17 e_bl)) u21)
   (u06 (u17 (uf0 (u12 va5 rfl T.b_all (by decide) (u00 (u84 (N':=["_law_one"]) (ix:=[none]) (blk (osc:=u05 v00) (N:=["_law_line", "_law_words", "_law_word"]) rfl rfl (by decide)) (ue9 (vo0 (n:=3) (ev 1))) (fun _ _ _ _=>(u27 0 (show (["_law_one"]:List Str).Nodup by decide))) (fun _ _ _ _=>u44) (fun _ _ _ _=>(ec T.f_jad T.g_law_box_word G_jad hr (u00 (ev 0) u02)))) u02)) (ui4 (u12 va5 rfl T.b_all (by decide) (u00 (u84 (N':=["_law_one"]) (ix:=[none]) (blk (osc:=u05 v00) (N:=["_law_line", "_law_words", "_law_word"]) rfl rfl (by decide)) (ue9 (vo0 (n:=4) (ev 1))) (fun _ _ _ _=>(u27 0 (show (["_law_one"]:List Str).Nodup by decide))) (fun _ _ _ _=>u44) (fun _ _ _ _=>(ec T.f_jal T.g_law_number_word G_jal hr (u00 (ev 0) (u00 u04 u02))))) u02))))))))))))))) (fun ds G R h=>?_)
 ·obtain ⟨l,rfl,_⟩:=h;rfl
 ·obtain ⟨l,rfl,hl,good,bad⟩:=h
  simp! [id];have h1:=un7 ub2 l;have h2:∀ x ∈ Txt.split l " ",x.length<=100000:=fun x hx=>Nat.le_trans (uh0 ub2 hx) (by omega)
  refine ⟨l,_,rfl,rfl,by decide,Nat.le_trans hl (by decide),Nat.le_trans h1 (Nat.le_trans (m:=90001) (by omega) (by decide)),fun p hp=>?_⟩;rw [show Txt.split l (Str.ofString " ")=Txt.split l " " from rfl];have hne:=u77 l " ";generalize Txt.split l " " = ws at h1 h2 hne good bad ⊢;obtain ⟨w,us,rfl⟩:∃ w us,ws=w::us:=by
   cases ws with
   | nil=>exact absurd rfl hne
   | cons a b=>exact ⟨a,b,rfl⟩
  clear hne;rw [List.length_cons] at h1;have good:RW w us->∀ G',Grow G G'->R (.bl true) G':=fun h=>good (wh1 h)
  have bad:¬ RW w us->∀ G',Grow G G'->R (.bl false) G':=fun h=>bad fun z=>h (vn2 z)
  obtain ⟨G1,hG1⟩:∃ G1,G1=gup G p (.lst ((w::us).map D.str)):=⟨_,rfl⟩;have g1:Grow G G1:=by rw [hG1];exact Grow.refl.new hp
  have k1:G1 p=some (.lst (.str w::us.map D.str)):=by rw [hG1];exact u01
  rw [<- hG1];clear hG1;have z6:(6<=sizeLine)=True:=eq_true (by decide);have z2:(2<=sizeLine)=True:=eq_true (by decide);have l1:(us.length+1<=sizeLine)=True:=eq_true (Nat.le_trans (m:=100001) (by omega) (by decide));dsimp! [k1,at0];dsimp! [z6]
  by_cases hw:¬ w ∈ [Str.ofString "add",Str.ofString "take",Str.ofString "turn",Str.ofString "swap",Str.ofString "go",Str.ofString "come"]
  ·have d1:(w ∈ [Str.ofString "add",Str.ofString "take",Str.ofString "turn",Str.ofString "swap",Str.ofString "go",Str.ofString "come"])=False:=eq_false hw
   simp! [v25,d1];refine bad (fun z=>hw ?_) _ g1;cases z <;> simp
  have hw:=Classical.not_not.mp hw;have d1:(w ∈ [Str.ofString "add",Str.ofString "take",Str.ofString "turn",Str.ofString "swap",Str.ofString "go",Str.ofString "come"])=True:=eq_true hw
  by_cases hlt:us.length < 2
  ·have d2:(((us.length+1:Nat):Int) < 3)=True:=eq_true (by omega)
   simp! [v25,d1,k1,List.length_cons,List.length_map,l1,d2];refine bad (fun z=>?_) _ g1;cases z <;> simp at hlt
  have d2:(((us.length+1:Nat):Int) < 3)=False:=eq_false (by omega);simp! [v25,d1,k1,List.length_cons,List.length_map,l1,d2];obtain ⟨a,b,rest,rfl⟩:∃ a b rest,us=a::b::rest:=by
   match us,hlt with
   | a::b::rest,_=>exact ⟨a,b,rest,rfl⟩
   | [],h=>simp at h
   | [_],h=>simp at h
  have k1:G1 p=some (.lst (.str w::.str a::.str b::rest.map D.str)):=k1;have la:=h2 a (by simp);have lb:=h2 b (by simp);dsimp! [k1];refine ⟨⟨by decide,by decide,by decide⟩,?_⟩;have p10:(10:Int) ^ Int.toNat 10=((9999999999:Nat):Int)+1:=rfl;have p32:(2:Int) ^ Int.toNat 32=((4294967295:Nat):Int)+1:=rfl;rw [p10];refine u99 T la (Nat.le_refl _) (fun G2 ha g2=>?_) fun G2 ha g2=>by
   simp! [id];refine bad (fun z=>ha ?_) _ (g1.trans g2);cases z <;> assumption
  have k2:=g2.kp _ _ k1;have g12:=g1.trans g2;have hrl:(rest.length+1+1+1<=sizeLine)=True:=eq_true (Nat.le_trans (m:=100001) (by simp only [List.length_cons] at h1;omega) (by decide));simp! [id];dsimp! [z2]
  by_cases w1:w = "add" \/ w = "take"
  ·have d3:(w ∈ [Str.ofString "add",Str.ofString "take"])=True:=eq_true (by simpa using w1)
   by_cases hr:¬ rest=[]
   ·have d4:(((rest.length+1+1+1:Nat):Int)=3)=False:=eq_false (fun z=>hr (List.length_eq_zero_iff.mp (by omega)))
    (simp! [in2,d3,k2,List.length_cons,List.length_map,hrl,d4];repeat (simp only [Go];simp! [in2,d3,k2,List.length_cons,List.length_map,hrl,d4]))
    refine bad (fun z=>hr ?_) _ g12
    rcases w1 with rfl | rfl <;> cases z <;> rfl
   have hr:=Classical.not_not.mp hr;subst hr;have d4:(((0+1+1+1:Nat):Int)=3)=True:=eq_true rfl;have z3:(0+1+1+1<=sizeLine)=True:=eq_true (by decide)
   (simp! [in2,d3,k2,List.length_cons,List.length_map,List.length_nil,z3,d4];repeat (simp only [Go];simp! [in2,d3,k2,List.length_cons,List.length_map,List.length_nil,z3,d4]))
   refine vo6 T lb (fun G3 hb g3=>?_) fun G3 hb g3=>?_
   ·(simp! [id];repeat (simp only [Go];simp! [id]))
    refine good ?_ _ (g12.trans g3)
    rcases w1 with rfl | rfl
    ·exact .add ha (isO_iff.mpr (.inl hb))
    ·exact .take ha (isO_iff.mpr (.inl hb))
   ·have k3:=g3.kp _ _ k2
    (simp! [k3];repeat (simp only [Go];simp! [k3]))
    refine ⟨⟨by decide,by decide,by decide⟩,?_⟩;rw [p32];refine u99 T lb (by decide) (fun G4 hn g4=>?_) fun G4 hn g4=>?_
    ·refine good ?_ _ ((g12.trans g3).trans g4)
     rcases w1 with rfl | rfl
     ·exact .add ha (isO_iff.mpr (.inr hn))
     ·exact .take ha (isO_iff.mpr (.inr hn))
    ·refine bad (fun z=>?_) _ ((g12.trans g3).trans g4)
     have:isO b:=by rcases w1 with rfl | rfl <;> cases z <;> assumption
     exact (isO_iff.mp this).elim hb hn
  have d3:(w ∈ [Str.ofString "add",Str.ofString "take"])=False:=eq_false (by simpa using w1);simp! [in2,d3];dsimp! [id]
  by_cases w2:w = "swap"
  ·have d5:(w=Str.ofString "swap")=True:=eq_true w2
   subst w2
   by_cases hr:¬ rest=[]
   ·have d4:(((rest.length+1+1+1:Nat):Int)=3)=False:=eq_false (fun z=>hr (List.length_eq_zero_iff.mp (by omega)))
    (simp! [d5,k2,List.length_cons,List.length_map,hrl,d4];repeat (simp only [Go];simp! [d5,k2,List.length_cons,List.length_map,hrl,d4]))
    exact bad (fun z=>hr (by cases z;rfl)) _ g12
   have hr:=Classical.not_not.mp hr;subst hr;have d4:(((0+1+1+1:Nat):Int)=3)=True:=eq_true rfl;have z3:(0+1+1+1<=sizeLine)=True:=eq_true (by decide)
   (simp! [d5,k2,List.length_cons,List.length_map,List.length_nil,z3,d4];repeat (simp only [Go];simp! [d5,k2,List.length_cons,List.length_map,List.length_nil,z3,d4]))
   refine ⟨⟨by decide,by decide,by decide⟩,?_⟩;rw [p10];refine u99 T lb (Nat.le_refl _) (fun G4 hn g4=>?_) fun G4 hn g4=>?_
   ·exact good (.swap ha hn) _ (g12.trans g4)
   ·exact bad (fun z=>hn (by cases z;assumption)) _ (g12.trans g4)
  have d5:(w=Str.ofString "swap")=False:=eq_false w2;simp! [d5];dsimp! [id]
  by_cases w3:¬ w = "turn"
  ·have w4:w = "go" \/ w = "come" := by
    simp only [List.mem_cons,List.mem_nil_iff,or_false] at hw
    rcases hw with h | h | h | h | h | h
    ·exact absurd (.inl h) w1
    ·exact absurd (.inr h) w1
    ·exact absurd h w3
    ·exact absurd h w2
    ·exact .inl h
    ·exact .inr h
   have d6:(w=Str.ofString "turn")=False:=eq_false w3
   by_cases hr:¬ rest.length=1
   ·have d4:(((rest.length+1+1+1:Nat):Int)=4)=False:=eq_false (by omega)
    (simp! [d6,k2,List.length_cons,List.length_map,hrl,d4];repeat (simp only [Go];simp! [d6,k2,List.length_cons,List.length_map,hrl,d4]))
    refine bad (fun z=>hr ?_) _ g12
    rcases w4 with rfl | rfl <;> cases z <;> rfl
   have hr:=Classical.not_not.mp hr;obtain ⟨c,rfl⟩:=List.length_eq_one_iff.mp hr;have lc:=h2 c (by simp);have k2:G2 p=some (.lst [.str w,.str a,.str b,.str c]):=k2;have d4:(((4:Nat):Int)=4)=True:=eq_true rfl
   (simp! [d6,k2,List.length,d4];repeat (simp only [Go];simp! [d6,k2,List.length,d4]))
   refine ⟨⟨by decide,by decide,by decide⟩,?_⟩;rw [p32];refine u99 T lb (by decide) (fun G3 hn g3=>?_) fun G3 hn g3=>?_
   ·have k3:=g3.kp _ _ k2
    (simp! [k3];repeat (simp only [Go];simp! [k3]))
    refine ⟨⟨by decide,by decide,by decide⟩,?_⟩;rw [p10];refine u99 T lc (Nat.le_refl _) (fun G4 hc g4=>?_) fun G4 hc g4=>?_
    ·refine good ?_ _ ((g12.trans g3).trans g4)
     rcases w4 with rfl | rfl
     ·exact .go ha hn hc
     ·exact .come ha hn hc
    ·refine bad (fun z=>hc ?_) _ ((g12.trans g3).trans g4)
     rcases w4 with rfl | rfl <;> cases z <;> assumption
   ·(simp! [id];repeat (simp only [Go];simp! [id]))
    refine bad (fun z=>hn ?_) _ (g12.trans g3)
    rcases w4 with rfl | rfl <;> cases z <;> assumption
  have w3:=Classical.not_not.mp w3;subst w3;have d6:(Str.ofString "turn" = Str.ofString "turn")=True:=eq_true rfl;simp! [d6];dsimp! [k2,List.length_cons,List.length_map,hrl]
  by_cases h7:4 < rest.length
  ·rw [if_pos (decide_eq_true (by omega))]
   refine bad (fun z=>?_) _ g12;cases z <;> simp at h7
  rw [if_neg (by rw [decide_eq_false (by omega)];decide)];refine ⟨by decide,?_⟩
  by_cases h8:¬ rest.length % 2=0
  ·rw [if_pos (decide_eq_true (by omega))]
   refine bad (fun z=>h8 ?_) _ g12;cases z <;> simp
  have h8:=Classical.not_not.mp h8;rw [if_neg (by rw [decide_eq_false (by omega)];decide)];refine u99 T (m:=31) lb (by decide) (fun G3 hb g3=>?_) fun G3 hb g3=>by
   simp! [id];refine bad (fun z=>hb ?_) _ (g12.trans g3);cases z <;> assumption
  obtain ⟨zs,rfl,hzl⟩:=vv7 (by omega) h8;have k3:=g3.kp _ _ k2;have g13:=g12.trans g3;have lz:∀ z ∈ zs,z.1.length<=100000 /\ z.2.length<=100000:=fun z hz=>⟨h2 _ (by
   refine List.mem_cons_of_mem _ (List.mem_cons_of_mem _ (List.mem_cons_of_mem _ (List.mem_flatMap.mpr ⟨z,hz,by simp⟩)))),h2 _ (by
   refine List.mem_cons_of_mem _ (List.mem_cons_of_mem _ (List.mem_cons_of_mem _ (List.mem_flatMap.mpr ⟨z,hz,by simp⟩))))⟩
  simp! [id];dsimp! [vi0];refine ⟨p,_,rfl,by rw [k3];rfl,fun q hq=>?_⟩;have ev3:evn ((D.str "turn" :: D.str a::D.str b::(flt2 zs).map D.str).drop 3)=zs.map fun z=>D.str z.1:=v70 D.str zs
  have ev4:evn ((D.str "turn" :: D.str a::D.str b::(flt2 zs).map D.str).drop 4)=zs.map fun z=>D.str z.2:=us9 D.str zs
  rw [ev3];obtain ⟨G4,hG4⟩:∃ G4,G4=gup G3 q (.lst (zs.map fun z=>D.str z.1)):=⟨_,rfl⟩;have g4:Grow G3 G4:=by rw [hG4];exact Grow.refl.new hq
  have kq:G4 q=some (.lst (zs.map fun z=>D.str z.1)):=by rw [hG4];exact u01
  rw [<- hG4];clear hG4;have k4:=g4.kp _ _ k3;simp! [kq,u48];intro p5 hp5;refine u26 (fun r σ G'=>∃ (l t:List (Str × Str)) (bs:List Bool) (v:Option D),l++t=zs /\ r=t.map (fun z=>D.str z.1) /\ Grow G4 G' /\ G' p5=some (.lst (bs.map .bl)) /\ All2 (fun x b=>(b=true ↔ isB x.1)) l bs /\ σ=[v]) ⟨[],zs,[],none,rfl,rfl,Grow.refl.new hp5,u01,trivial,rfl⟩ ?_ ?_
  ·rintro σ G5 ⟨l,t,bs,v,e,e2,g5,k5,ha2,rfl⟩
   have ht:t=[]:=by simpa using e2.symm
   subst ht;rw [List.append_nil] at e;subst e;refine ⟨by rw [g5.kp _ _ kq];rfl,?_⟩;have eb:=uu5 ha2;simp! [k5,u48,u75]
   rcases eb with ⟨hB,eb⟩ | ⟨hB,eb⟩
   ·rw [eb]
    have k15:=g5.kp _ _ k4;simp! [vi0];refine ⟨p,_,rfl,by rw [k15];rfl,fun q6 hq6=>?_⟩;rw [ev4];obtain ⟨G6,hG6⟩:∃ G6,G6=gup G5 q6 (.lst (l.map fun z=>D.str z.2)):=⟨_,rfl⟩;have g6:Grow G5 G6:=by rw [hG6];exact Grow.refl.new hq6
    have kq6:G6 q6=some (.lst (l.map fun z=>D.str z.2)):=by rw [hG6];exact u01
    rw [<- hG6];clear hG6;simp! [kq6,u48];intro p7 hp7;refine u26 (fun r σ G'=>∃ (l' t:List (Str × Str)) (bs:List Bool) (v:Option D),l'++t=l /\ r=t.map (fun z=>D.str z.2) /\ Grow G6 G' /\ G' p7=some (.lst (bs.map .bl)) /\ All2 (fun x b=>(b=true ↔ isK 31 x.2)) l' bs /\ σ=[v]) ⟨[],l,[],none,rfl,rfl,Grow.refl.new hp7,u01,trivial,rfl⟩ ?_ ?_
    ·rintro σ G7 ⟨l',t,bs3,v,e,e2,g7,k7,ha3,rfl⟩
     have ht:t=[]:=by simpa using e2.symm
     subst ht;rw [List.append_nil] at e;subst e;refine ⟨by rw [g7.kp _ _ kq6];rfl,?_⟩;have eb3:=uu5 ha3;simp! [k7,u48,u75];have gg:=(((g13.trans g4).trans g5).trans g6).trans g7
     rcases eb3 with ⟨hK,eb3⟩ | ⟨hK,eb3⟩
     ·rw [eb3]
      exact good (vj7 hzl ha hb hB hK) _ gg
     ·rw [eb3]
      exact bad (fun z=>hK fun x hx=>((ue6 z).2.2 x hx).2) _ gg
    ·rintro z r σ G7 ⟨l',t,bs,v,e,e2,g7,k7,ha2,rfl⟩ ih
     cases t with
     | nil=>cases e2
     | cons c t =>
      cases e2;refine ⟨by rw [g7.kp _ _ kq6];rfl,?_⟩;have hlen:=congrArg List.length e;rw [List.length_append,List.length_cons] at hlen;have hol:=ha2.len;simp! [id];refine u99 T (m:=31) (lz c (by rw [<- e];simp)).2 (by decide) (fun G8 hc g8=>?_) fun G8 hc g8=>?_
      ·have k8:=g8.kp _ _ k7
       simp! [k8];refine ⟨Nat.lt_of_le_of_lt (m:=1000) (by rw [List.length_map];omega) (by decide),ih _ _ ⟨l'++[c],t,bs++[true],_,by rw [<- e];simp,rfl,(g7.trans g8).own hp7,?_,ha2.snoc ⟨fun _=>hc,fun _=>rfl⟩,rfl⟩⟩;rw [u01,List.map_append];rfl
      ·have k8:=g8.kp _ _ k7
       simp! [k8];refine ⟨Nat.lt_of_le_of_lt (m:=1000) (by rw [List.length_map];omega) (by decide),ih _ _ ⟨l'++[c],t,bs++[false],_,by rw [<- e];simp,rfl,(g7.trans g8).own hp7,?_,ha2.snoc ⟨(fun z=>by cases z),fun z=>(hc z).elim⟩,rfl⟩⟩;rw [u01,List.map_append];rfl
   ·rw [eb]
    simp! [id];exact bad (fun z=>hB fun x hx=>((ue6 z).2.2 x hx).1) _ ((g13.trans g4).trans g5)
  ·rintro z r σ G5 ⟨l,t,bs,v,e,e2,g5,k5,ha2,rfl⟩ ih
   cases t with
   | nil=>cases e2
   | cons c t =>
    cases e2;refine ⟨by rw [g5.kp _ _ kq];rfl,?_⟩;have hlen:=congrArg List.length e;rw [List.length_append,List.length_cons] at hlen;have hol:=ha2.len;simp! [id];refine vo6 T (lz c (by rw [<- e];simp)).1 (fun G8 hc g8=>?_) fun G8 hc g8=>?_
    ·have k8:=g8.kp _ _ k5
     simp! [k8];refine ⟨Nat.lt_of_le_of_lt (m:=1000) (by rw [List.length_map];omega) (by decide),ih _ _ ⟨l++[c],t,bs++[true],_,by rw [<- e];simp,rfl,(g5.trans g8).own hp5,?_,ha2.snoc ⟨fun _=>hc,fun _=>rfl⟩,rfl⟩⟩;rw [u01,List.map_append];rfl
    ·have k8:=g8.kp _ _ k5
     simp! [k8];refine ⟨Nat.lt_of_le_of_lt (m:=1000) (by rw [List.length_map];omega) (by decide),ih _ _ ⟨l++[c],t,bs++[false],_,by rw [<- e];simp,rfl,(g5.trans g8).own hp5,?_,ha2.snoc ⟨(fun z=>by cases z),fun z=>(hc z).elim⟩,rfl⟩⟩;rw [u01,List.map_append];rfl
theorem wc0 {n:Nat} (G_jal:Ok P w mg base n T.f_jal (ux6 T)) (G_jah:Ok P w mg base n T.f_jah (vj3 T)):Ok P w mg base (n+1) T.f_jab (w23 T):=by
 refine u25 T.f_jab sc_jab (fun ds G R h=>?_) (fun cdv A outer s H E hr =>
   (u03 (u15 1 sc_jab.nd (u67 (e_ix x_ix (ev 0) u04) (u00 u08 u02)))
   (u03 (s_if (t_w (w_or (u13 (x_ne hr) (u12 u42 rfl T.b_len (by decide) (u00 (ev 1) u02)) u04 (nomark _)) (w_or (u13 (x_ne hr) (e_ix x_ix (ev 1) u04) u08 (nomark _)) (ug9 (un5 (un4 (ec T.f_jal T.g_law_number_word G_jal hr (u00 (e_ix x_ix (ev 1) u04) (u00 (u11 ub1 u04 u04) u02))))))))) (u06 (u17 u04)) u21)
   (u03 (un8 (we6 rfl T.b_range (u00 u04 (u00 (u12 u42 rfl T.b_len (by decide) (u00 (ev 0) u02)) u02))) (u27 2 sc_jab.nd) (u06 (s_if (un5 (un4 (ec T.f_jah T.g_law_line_good G_jah hr (u00 (e_ix x_ix (ev 0) (ev 2)) u02)))) (u06 (u17 (ev 2))) u21)))
   (u06 (u17 (e_un uy1 u04))))))) (fun ds G R h=>?_)
 ·obtain ⟨la,l,ls,rfl,_⟩:=h;rfl
 ·obtain ⟨la,l,ls,rfl,k0,hl,hn,post⟩:=h
  have k0:G la=some (.lst (.str l::ls.map .str)):=k0;simp! [k0,at0];have hl0:=hl l List.mem_cons_self;have h1:=un7 ub2 l;have h2:∀ x ∈ Txt.split l " ",x.length<=100000:=fun x hx=>Nat.le_trans (uh0 ub2 hx) (by omega)
  refine ⟨l,_,rfl,rfl,by decide,Nat.le_trans hl0 (by decide),Nat.le_trans h1 (Nat.le_trans (m:=90001) (by omega) (by decide)),fun p hp=>?_⟩;rw [show Txt.split l (Str.ofString " ")=Txt.split l " " from rfl];have fy:=v67 (l:=l) (t:=ls);have fn:=vz0 (l:=l) (t:=ls);have hne:=u77 l " ";obtain ⟨ws,hws⟩:∃ ws,ws=Txt.split l " " := ⟨_,rfl⟩;rw [<- hws] at h1 h2 fy fn hne ⊢;clear hws;obtain ⟨w,us,rfl⟩:∃ w us,ws=w::us:=by
   cases ws with
   | nil=>exact absurd rfl hne
   | cons a b=>exact ⟨a,b,rfl⟩
  rw [List.length_cons] at h1;obtain ⟨G1,hG1⟩:∃ G1,G1=gup G p (.lst ((w::us).map D.str)):=⟨_,rfl⟩;have g1:Grow G G1:=by rw [hG1];exact Grow.refl.new hp
  have k1:G1 p=some (.lst (.str w::us.map D.str)):=by rw [hG1];exact u01
  rw [<- hG1];clear hG1;have l1:(us.length+1<=sizeLine)=True:=eq_true (Nat.le_trans (m:=100001) (by omega) (by decide));dsimp! [k1,List.length_cons,List.length_map,l1]
  by_cases hu:¬ us.length=1
  ·have d1:(((us.length+1:Nat):Int)=2)=False:=eq_false (by omega)
   simp! [d1];rw [fn fun ⟨sz,_,e⟩=>hu (by cases e;rfl)] at post;exact post _ g1
  have hu:=Classical.not_not.mp hu;obtain ⟨a,rfl⟩:=List.length_eq_one_iff.mp hu;have k1:G1 p=some (.lst [.str w,.str a]):=k1;have d1:(((1+1:Nat):Int)=2)=True:=eq_true rfl;simp! [d1,List.length_cons,List.length_nil]
  by_cases hw:¬ w=Str.ofString "size"
  ·rw [if_pos (by rw [decide_eq_false hw];rfl)]
   rw [fn fun ⟨sz,_,e⟩=>hw (by cases e;rfl)] at post;exact post _ g1
  have hw:=Classical.not_not.mp hw;rw [if_neg (by rw [decide_eq_true hw];decide)];refine ⟨⟨by decide,by decide,by decide⟩,?_⟩;rw [show (10:Int) ^ Int.toNat 10=((9999999999:Nat):Int)+1 from rfl];refine u99 T (h2 a (by simp)) (Nat.le_refl _) (fun G2 ha g2=>?_) fun G2 ha g2=>by
   simp! [id];rw [fn fun ⟨sz,hz,e⟩=>ha (by cases e;exact ⟨sz,hz,rfl⟩)] at post;exact post _ (g1.trans g2)
  have isz:isZ [w,a]:=by obtain ⟨sz,hz,e⟩:=ha;exact ⟨sz,hz,by rw [hw,e]⟩
  have fy:=fy isz;have g12:=g1.trans g2;have k2:=g12.kp _ _ k0;have l2:(ls.length+1<=sizeLine)=True:=eq_true (Nat.le_trans (m:=100001) (by omega) (by decide));simp! [id];dsimp! [k2,List.length_cons,List.length_map,l2];refine ⟨⟨by omega,by omega,by omega,by omega⟩,?_⟩;rw [show (((ls.length+1:Nat):Int) - 1).toNat=ls.length by omega];refine u66 (fun r σ G'=>∃ (pre t:List Str) (v2:Option D),pre++t=ls /\ r=rngD ((pre.length+1:Nat):Int) t.length /\ Grow G G' /\ fb (l::ls)=fbR (pre.length+1) t /\ σ=[some (.ref la),some (.ref p),v2]) ⟨[],ls,none,rfl,rfl,g12,fy,rfl⟩ ?_ ?_
  ·rintro σ G3 ⟨pre,t,v2,e,e2,g3,ef,rfl⟩
   have ht:t=[]:=by
    cases t with
    | nil=>rfl
    | cons x t=>rw [List.length_cons,u49] at e2;cases e2
   subst ht;refine ⟨trivial,?_⟩;dsimp! [id];rw [ef] at post;exact post _ g3
  ·rintro z r σ G3 ⟨pre,t,v2,e,e2,g3,ef,rfl⟩ ih
   cases t with
   | nil=>cases e2
   | cons c t =>
    rw [List.length_cons,u49] at e2;cases e2;refine ⟨trivial,?_⟩;have k3:=g3.kp _ _ k0;have hget:atI (D.str l::ls.map D.str) ((pre.length+1:Nat):Int)=some (.str c):=by
     refine u62 ?_;rw [List.getElem?_cons_succ,<- e,List.getElem?_map,List.getElem?_append_right (Nat.le_refl _),Nat.sub_self];rfl
    simp! [k3,hget];have hc:=hl c (List.mem_cons_of_mem _ (by rw [<- e];simp));have cg:∀ q:DK,(∀ G',isR (Txt.split c " ")->Grow G3 G'->q (.bl true) G')->(∀ G',¬ isR (Txt.split c " ")->Grow G3 G'->q (.bl false) G')->∃ R,vj3 T [.str c] G3 R /\ ∀ d G',R d G'->q d G':=fun q f g =>
     u18 (post:=fun d G'=>Grow G3 G' /\ (isR (Txt.split c " ") /\ d=.bl true \/ ¬ isR (Txt.split c " ") /\ d=.bl false)) (fun R h'=>⟨c,rfl,hc,(fun h1 G' z=>h' _ _ ⟨z,.inl ⟨h1,rfl⟩⟩),fun h1 G' z=>h' _ _ ⟨z,.inr ⟨h1,rfl⟩⟩⟩) fun d G' ⟨z,y⟩=>by
      rcases y with ⟨h1,rfl⟩ | ⟨h1,rfl⟩
      ·exact f G' h1 z
      ·exact g G' h1 z
    refine cg _ (fun G4 hr g4=>?_) fun G4 hr g4=>?_
    ·simp! [id]
     refine ih _ _ ⟨pre++[c],t,_,by rw [<- e];simp,?_,g3.trans g4,?_,rfl⟩
     ·rw [List.length_append,List.length_singleton]
      show rngD (((pre.length+1:Nat):Int)+1) t.length=rngD (((pre.length+1+1:Nat)):Int) t.length
      congr 1
     ·rw [ef,up0 hr,List.length_append,List.length_singleton]
    ·simp! [id]
     rw [ef,vn5 hr] at post;exact post _ (g3.trans g4)
theorem wa6 {n:Nat} (G_jag:Ok P w mg base n T.f_jag (ue5 T)):Ok P w mg base (n+1) T.f_jaq (w17 T):=by
 refine u25 T.f_jaq sc_jaq (fun ds G R h=>?_) (fun cdv A outer s H E hr =>
   (u03 (uq9 2 sc_jaq.nd (N':=["_law_sign", "_law_word"]) (ix:=[none,some 1]) (blk (osc:=u05 uz9) (N:=["_law_state", "_law_word", "_law_some", "_law_more"]) rfl rfl (by decide)) (ue9 (u32 (u00 u08 (u00 u08 (u00 u08 (u00 u08 (u00 u08 u02))))))) (fun _ _ _ _=>(u27 0 (show (["_law_sign", "_law_word"]:List Str).Nodup by decide))) (fun _ _ _ _=>u44) (fun _ _ _ _=>(u11 u23 (ev 1) (ev 0))))
   (u03 (u15 2 sc_jaq.nd (u11 u23 (ev 2) (u84 (N':=["_law_sign", "_law_word"]) (ix:=[none,some 1]) (blk (osc:=u05 uz9) (N:=["_law_state", "_law_word", "_law_some", "_law_more"]) rfl rfl (by decide)) (ue9 (u32 (u00 u08 (u00 u08 (u00 u08 (u00 u08 (u00 u08 (u00 u08 u02)))))))) (fun _ _ _ _=>(u27 0 (show (["_law_sign", "_law_word"]:List Str).Nodup by decide))) (fun _ _ _ _=>u44) (fun _ _ _ _=>(u11 u23 (ev 0) (ev 1))))))
   (u03 (u15 3 sc_jaq.nd u08)
   (u03 (u15 2 sc_jaq.nd (u11 u23 (u11 u23 (ev 2) (u32 (u00 u08 (u00 (u11 w27 u08 u04) (u00 (e_sl uu6 (ev 1) u41 (u35 (e_un uy1 u04))) (u00 (e_sl uu6 (ev 1) (u35 u04) u41) (u00 (e_sl uu6 (ev 1) u41 (u35 u04)) (u00 (vh6 (ev 1)) u02)))))))) (u67 (ev 3) (u00 u08 u02))))
   (u06 (u17 (e_ix x_ix (ev 2) (ec T.f_jag T.g_law_draw G_jag hr (u00 (ev 0) (u00 (u12 u42 rfl T.b_len (by decide) (u00 (ev 2) u02)) u02))))))))))) (fun ds G R h=>?_)
 ·obtain ⟨st,w,rfl,_⟩:=h;rfl
 ·obtain ⟨st,w,rfl,S,hl,hc,post⟩:=h
  have ow:okS 11 w:=⟨hl,fun z=>by have:=hc 10 z;omega⟩;have hz:w.length<=sizeLine:=Nat.le_trans (m:=20) (by omega) (by decide);have z20:(30:Nat)<=sizeLine:=by decide
  simp! [id];refine ⟨by decide,fun p hp p1 hp1=>?_⟩;obtain ⟨us,hus⟩:∃ us:List Str,us=([("a" : Str), "1", "_", "_0", "."]:List Str):=⟨_,rfl⟩;have eu:[D.str "a",D.str "1",D.str "_",D.str "_0",D.str "."]=us.map D.str:=by rw [hus];rfl
  rw [eu] at hp1 ⊢;have hul:us.length=5:=by rw [hus];rfl
  have hu5:∀ x ∈ us,okS 5 x:=by
   have:∀ x ∈ us,(decide (x.length<=5) && decide (10 ∉ x.cps.toList))=true:=by rw [hus];decide
   exact fun x hx=>u85 (this x hx)
  clear hus eu;have A2:=(Adv.refl S).new (o:=.lst (us.map D.str)) hp;have kq2:gup G p (.lst (us.map D.str)) p=some (.lst (us.map .str)):=u01;obtain ⟨G2,hG2⟩:∃ G2,G2=gup G p (.lst (us.map D.str)):=⟨_,rfl⟩;rw [<- hG2] at A2 kq2 hp1 ⊢;clear hG2;generalize hN:Go (dSeq _ _ _)=N;have c1:∀ (p:Addr) (ws:List Str) (G1:Gp),p ≠ st->(∀ x ∈ ws,okS 30 x)->ws.length=5->G1 p=some (.lst (ws.map .str))->Adv st G G1->N [some (.ref st),some (.str w),some (.ref p),none] G1:=by
   intro p ws G1 np hws hn k1 A1;rw [<- hN];clear hN;dsimp! [id];refine ⟨by decide,fun q hq=>?_⟩;obtain ⟨us,hus⟩:∃ us:List Str,us=([("0" : Str), "-", "+", "1_", "b", "bb"]:List Str):=⟨_,rfl⟩;rw [show [D.str "0",D.str "-",D.str "+",D.str "1_",D.str "b",D.str "bb"]=us.map D.str by rw [hus];rfl];have hul:us.length=6:=by rw [hus];rfl
   have hu5:∀ x ∈ us,okS 5 x:=by
    have:∀ x ∈ us,(decide (x.length<=5) && decide (10 ∉ x.cps.toList))=true:=by rw [hus];decide
    exact fun x hx=>u85 (this x hx)
   clear hus;have A2:=A1.new (o:=.lst (us.map D.str)) hq;have k2:gup G1 q (.lst (us.map D.str)) p=some (.lst (ws.map .str)):=by rw [u07 (gne k1 hq)];exact k1
   have kq2:gup G1 q (.lst (us.map D.str)) q=some (.lst (us.map .str)):=u01;obtain ⟨G2,hG2⟩:∃ G2,G2=gup G1 q (.lst (us.map D.str)):=⟨_,rfl⟩;rw [<- hG2] at A2 k2 kq2 ⊢;clear hG2;simp! [kq2,u48];intro p3 hp3;generalize hN2:Go (dSeq _ _ _)=N2;have c2:∀ (p:Addr) (ws:List Str) (G1:Gp),p ≠ st->(∀ x ∈ ws,okS 30 x)->ws.length=11->G1 p=some (.lst (ws.map .str))->Adv st G G1->N2 [some (.ref st),some (.str w),some (.ref p),none] G1:=by
    intro p ws G1 np hws hn k1 A1;rw [<- hN2];clear hN2;dsimp! [id];dsimp! [id];refine ⟨rfl,rfl,fun r1 hr1 hf1=>?_⟩;refine ⟨w,rfl,hz,?_⟩;refine ⟨w,rfl,hz,?_⟩;refine ⟨w,rfl,hz,?_⟩;refine ⟨w,rfl,rfl,Nat.le_trans hl (by decide),(fun c h=>(hc c h).2),fun r2 hr2 hf2=>?_⟩;refine ⟨by decide,fun p5 hp5=>?_⟩;obtain ⟨vs,hvs⟩:∃ vs:List Str,vs=[Str.ofString "",r1,Txt.slice w none (some (-1)),Txt.slice w (some 1) none,Txt.slice w none (some 1),r2]:=⟨_,rfl⟩;have ev:[D.str "",D.str r1,D.str (Txt.slice w none (some (-1))),D.str (Txt.slice w (some 1) none),D.str (Txt.slice w none (some 1)),D.str r2]=vs.map D.str:=by rw [hvs];rfl
    rw [ev];have hvl:vs.length=6:=by rw [hvs];rfl
    have hv30:∀ x ∈ vs,okS 30 x:=by
     rw [hvs];intro x hx;simp only [List.mem_cons,List.mem_nil_iff,or_false] at hx
     rcases hx with rfl | rfl | rfl | rfl | rfl | rfl
     ·exact u85 (by decide)
     ·exact ⟨by omega,hf1⟩
     ·exact u64 (ud0 ow) (by decide)
     ·exact u64 (ud0 ow) (by decide)
     ·exact u64 (ud0 ow) (by decide)
     ·exact ⟨by omega,fun z=>(hf2 10 z).2 ow.2 rfl⟩
    clear hvs ev;refine u40 (xs:=ws.map .str) (ys:=vs.map D.str) (by rw [u07 (gne k1 hp5)];exact k1) u01 (by rw [List.length_map,List.length_map];omega) fun p6 hp6=>?_
    refine ⟨_,_,rfl,rfl,by decide,by decide,by rw [vk4];decide,fun p7 hp7=>?_⟩;rw [vk4];refine u40 (xs:=ws.map .str++vs.map D.str) (by rw [u07 (gne u01 hp7)];exact u01) u01 (by rw [List.length_append,List.length_map,List.length_map,List.length_map];show _+_+11<=_;omega) fun p8 hp8=>?_
    obtain ⟨zs,hzs⟩:∃ zs:List Str,zs=ws++vs++[("32" : Str), "31", "4294967296", "4294967295", "9999999999", "b", "b0", "0", "B1", "size", "go"]:=⟨_,rfl⟩;have ez:ws.map D.str++vs.map D.str++List.map D.str [("32" : Str), "31", "4294967296", "4294967295", "9999999999", "b", "b0", "0", "B1", "size", "go"]=zs.map D.str:=by rw [hzs,List.map_append,List.map_append]
    have zl:∀ z ∈ zs,okS 30 z:=by
     rw [hzs];intro z hz
     rcases List.mem_append.mp hz with hz | hz
     ·rcases List.mem_append.mp hz with hz | hz
      ·exact hws z hz
      ·exact hv30 z hz
     ·have:∀ z ∈ [("32" : Str), "31", "4294967296", "4294967295", "9999999999", "b", "b0", "0", "B1", "size", "go"],(decide (z.length<=30) && decide (10 ∉ z.cps.toList))=true:=by decide
      exact u85 (this z hz)
    have zn:zs.length=28:=by rw [hzs,List.length_append,List.length_append,hn,hvl];rfl
    clear hzs;rw [ez];have n8:=(((A1.new hp5).new hp6).new hp7).at_.ne hp8
    have A8:=(((A1.new hp5).new hp6).new hp7).new (o:=.lst (zs.map D.str)) hp8;obtain ⟨G8,hG8⟩:∃ G8,G8=gup (gup (gup (gup G1 p5 (.lst (vs.map D.str))) p6 (.lst (ws.map .str++vs.map D.str))) p7 (.lst (List.map D.str [("32" : Str), "31", "4294967296", "4294967295", "9999999999", "b", "b0", "0", "B1", "size", "go"]))) p8 (.lst (zs.map D.str)):=⟨_,rfl⟩;have k8:G8 p8=some (.lst (zs.map D.str)):=by rw [hG8];exact u01
    rw [<- hG8] at A8 ⊢;clear hG8;dsimp! [k8,List.length_map,zn];refine u10 A8.at_ (by decide) (by decide) fun x G9 a9 b1 b2=>?_
    obtain ⟨y,hy,ey⟩:=at_getD (xs:=zs.map D.str) (v:=x) b1 (by rw [List.length_map,zn];exact b2);obtain ⟨z,hz,rfl⟩:=List.mem_map.mp hy;simp! [a9.kp _ _ n8 k8,ey];exact post z _ (A8.trans a9) (Nat.le_trans (zl z hz).1 (by decide)) (zl z hz).2
   have n3:=A2.at_.ne hp3
   refine u26 (fun r σ G'=>∃ (l t:List Str) (v:Option D),l++t=us /\ r=t.map .str /\ G'=gup G2 p3 (.lst ((l.map fun x=>x++w).map .str)) /\ σ=[v,some (.str w)]) ⟨[],us,none,rfl,rfl,rfl,rfl⟩ ?_ ?_
   ·rintro σ G3 ⟨l,t,v,e,e2,rfl,rfl⟩
    have ht:t=[]:=by simpa using e2.symm
    subst ht;rw [List.append_nil] at e;subst e;refine ⟨by rw [u07 (gne kq2 hp3),kq2];rfl,?_⟩;refine u40 (by rw [u07 (gne k2 hp3)];exact k2) u01 (by rw [List.length_map,List.length_map,List.length_map];omega) fun p4 hp4=>?_
    have A3:=A2.new (o:=.lst ((l.map fun x=>x++w).map .str)) hp3;refine c2 p4 (ws++l.map fun x=>x++w) _ (A3.at_.ne hp4) (fun x hx=>?_) (by rw [List.length_append,List.length_map];omega) (by rw [u01,List.map_append]) (A3.new hp4)
    rcases List.mem_append.mp hx with hx | hx
    ·exact hws x hx
    ·obtain ⟨u,hu,rfl⟩:=List.mem_map.mp hx
     exact u64 (uo2 (hu5 u hu) ow) (by decide)
   ·rintro z r σ G3 ⟨l,t,v,e,e2,rfl,rfl⟩ ih
    cases t with
    | nil=>cases e2
    | cons u t =>
     cases e2;refine ⟨by rw [u07 (gne kq2 hp3),kq2];rfl,?_⟩;have hlen:=congrArg List.length e;rw [List.length_append,List.length_cons] at hlen;have hu:=(hu5 u (by rw [<- e];simp)).1;simp! [id];refine ⟨by omega,?_⟩;simp! [u01];refine ⟨Nat.lt_of_le_of_lt (m:=1000) (by rw [List.length_map,List.length_map];omega) (by decide),ih _ _ ⟨l++[u],t,_,by rw [<- e,List.append_assoc];rfl,rfl,?_,rfl⟩⟩;rw [u65,List.map_append,List.map_append];rfl
  have n1:=A2.at_.ne hp1
  refine u26 (fun r σ G'=>∃ (l t:List Str) (v:Option D),l++t=us /\ r=t.map .str /\ G'=gup G2 p1 (.lst ((l.map fun x=>w++x).map .str)) /\ σ=[v,some (.str w)]) ⟨[],us,none,rfl,rfl,rfl,rfl⟩ ?_ ?_
  ·rintro σ G3 ⟨l,t,v,e,e2,rfl,rfl⟩
   have ht:t=[]:=by simpa using e2.symm
   subst ht;rw [List.append_nil] at e;subst e;refine ⟨by rw [u07 (gne kq2 hp1),kq2];rfl,?_⟩;refine c1 p1 (l.map fun x=>w++x) _ n1 (fun x hx=>?_) (by rw [List.length_map];omega) u01 (A2.new hp1);obtain ⟨u,hu,rfl⟩:=List.mem_map.mp hx;exact u64 (uo2 ow (hu5 u hu)) (by decide)
  ·rintro z r σ G3 ⟨l,t,v,e,e2,rfl,rfl⟩ ih
   cases t with
   | nil=>cases e2
   | cons u t =>
    cases e2;refine ⟨by rw [u07 (gne kq2 hp1),kq2];rfl,?_⟩;have hlen:=congrArg List.length e;rw [List.length_append,List.length_cons] at hlen;have hu:=(hu5 u (by rw [<- e];simp)).1;simp! [id];refine ⟨by omega,?_⟩;simp! [u01];refine ⟨Nat.lt_of_le_of_lt (m:=1000) (by rw [List.length_map,List.length_map];omega) (by decide),ih _ _ ⟨l++[u],t,_,by rw [<- e,List.append_assoc];rfl,rfl,?_,rfl⟩⟩;rw [u65,List.map_append,List.map_append];rfl
theorem wb4 {n:Nat} (G_jag:Ok P w mg base n T.f_jag (ue5 T)) (G_jaq:Ok P w mg base n T.f_jaq (w17 T)):Ok P w mg base (n+1) T.f_jai (w21 T):=by
 refine u25 T.f_jai sc_jai (fun ds G R h=>?_) (fun cdv A outer s H E hr =>
   (u03 (u15 2 sc_jai.nd (u67 (ev 1) (u00 u08 u02)))
   (u03 (u15 3 sc_jai.nd (ec T.f_jag T.g_law_draw G_jag hr (u00 (ev 0) (u00 (u12 u42 rfl T.b_len (by decide) (u00 (ev 2) u02)) u02))))
   (vb4 (w53 4 sc_jai.nd (wf8 (wg1 u23 (ev 1)) (uj1 (wk4 (u11 u23 (ev 1) u08)) (uj1 (vo1 (by decide) (ev 1)) (wg9 (u00 u08 (u00 (u11 u23 (ev 1) u08) (u00 (u11 u23 (ev 1) u08) (u00 (u11 u23 (ev 1) u08) u02)))))))))
   (uq7 (wi5 (u15 4 sc_jai.nd (u11 u23 (ev 4) (u32 (u00 (u96 u08 (u00 (e_sl x_sl (ev 2) u41 (u35 (e_un uy1 u04))) u02)) (u00 (u96 u08 (u00 (u11 u23 (e_sl x_sl (ev 2) u41 (u35 (ev 3))) (e_sl x_sl (ev 2) (u35 (u11 u23 (ev 3) u04)) u41)) u02)) u02))))))
   (uq7 (w52 4 sc_jai.nd (wg0 u23 (ev 4) (wf7 (uj1 (vo1 (by decide) (ev 1)) (uj1 (wf5 (by decide) (ev 1)) (wg9 u02))))))
   (w49 (u03 (u15 4 sc_jai.nd (u11 u23 (ev 4) (u84 (N':=["_law_turn", "_law_words", "_law_at", "_law_state"]) (ix:=[none,some 2,some 3,some 0]) (blk (osc:=u05 vc5) (N:=["_law_state", "_law_line", "_law_words", "_law_at", "_law_some"]) rfl rfl (by decide)) (ul4 rfl T.b_range (u00 u04 u02)) (fun _ _ _ _=>(u27 0 (show (["_law_turn", "_law_words", "_law_at", "_law_state"]:List Str).Nodup by decide))) (fun _ _ _ _=>u44) (fun _ _ _ _=>(u96 u08 (u00 (u11 u23 (u11 u23 (e_sl x_sl (ev 1) u41 (u35 (ev 2))) (u32 (u00 (ec T.f_jaq T.g_law_word_spoilt G_jaq hr (u00 (ev 3) (u00 (e_ix x_ix (ev 1) (ev 2)) u02))) u02))) (e_sl x_sl (ev 1) (u35 (u11 u23 (ev 2) u04)) u41)) u02))))))
   (u03 (u15 4 sc_jai.nd (u11 u23 (ev 4) (u32 (u00 u08 (u00 u08 (u00 u08 (u00 u08 (u00 u08 (u00 u08 (u00 u08 u02))))))))))
   (u06 (u17 (e_ix x_ix (ev 4) (ec T.f_jag T.g_law_draw G_jag hr (u00 (ev 0) (u00 (u12 u42 rfl T.b_len (by decide) (u00 (ev 4) u02)) u02))))))))))))))) (fun ds G R h=>?_)
 ·obtain ⟨st,ws,rfl,_⟩:=h;rfl
 ·obtain ⟨st,ws,rfl,S,hne,hl7,hw,post⟩:=h
  have hw11:∀ w ∈ ws,okS 11 w:=fun w h=>⟨(hw w h).1,fun z=>by have:=(hw w h).2 10 z;omega⟩
  have hw40:∀ w ∈ ws,okS 40 w:=fun w h=>u64 (hw11 w h) (by decide)
  have hsp:Txt.split (jn " " ws) " " = ws:=u92 ub2 hne fun w h z=>by have:=(hw w h).2 _ z;omega
  have hlen:(jn " " ws).length<=90:=by
   rw [u86 sp1];have:=ua1 (B:=11) fun w h=>(hw w h).1
   omega
  have hfine:=(ub8 hw40 (by omega)).1.2;obtain ⟨ln,hln⟩:∃ ln,ln=jn " " ws:=⟨_,rfl⟩;rw [<- hln] at hsp hlen hfine ⊢;have ol:okS 90 ln:=⟨hlen,hfine⟩;clear hln;have hz:ln.length<=sizeLine:=Nat.le_trans hlen (by decide);have z20:(700:Nat)<=sizeLine:=by decide
  simp! [id];refine ⟨ln,_,rfl,rfl,by decide,hz,by rw [show Txt.split ln (Str.ofString " ")=ws from hsp];exact Nat.le_trans hl7 (by decide),fun p hp=>?_⟩;rw [show Txt.split ln (Str.ofString " ")=ws from hsp];have A1:=(Adv.refl S).new (o:=.lst (ws.map D.str)) hp;have np:=S.ne hp;have k1:gup G p (.lst (ws.map D.str)) p=some (.lst (ws.map D.str)):=u01;obtain ⟨G1,hG1⟩:∃ G1,G1=gup G p (.lst (ws.map D.str)):=⟨_,rfl⟩;rw [<- hG1] at A1 k1 ⊢;clear hG1;have hpos:0 < ws.length:=List.length_pos_iff.mpr hne;dsimp! [k1,List.length_map];refine u10 A1.at_ (by omega) (by omega) fun at_ G2 a2 b1 b2=>?_
  obtain ⟨at_,rfl⟩:=uc6 b1;have A2:=A1.trans a2;have k2:=a2.kp _ _ np k1;simp! [id];dsimp! [id];have o1:(Str.ofString " ").length=1:=by decide
  have o2:(Str.ofString " 0").length=2:=by decide
  have o3:(Str.ofString " b0").length=3:=by decide
  have o4:(Str.ofString " b0 1").length=5:=by decide
  have o5:(Str.ofString "  ").length=2:=by decide
  have o6:(Str.ofString "_").length=1:=by decide
  have o7:(Str.ofString ",").length=1:=by decide
  have ap:∀ {n m:Nat} {a b:Str},okS n a->okS m b->n+m<=700->okS 700 (a++b):=fun h h' hm=>u64 (uo2 h h') hm
  have lit:∀ {a:Str},(decide (a.length<=100) && decide (10 ∉ a.cps.toList))=true->okS 100 a:=fun h=>u85 h
  have rp:∀ {r z:Str},(∀ c ∈ r.cps.toList,c ∈ ln.cps.toList \/ c ∈ z.cps.toList)->fine z->fine r:=fun h hz y=>(h 10 y).elim hfine hz
  generalize hN:Go (dSeq _ _ _)=N;have c1:∀ (q:Addr) (vs:List Str) (G3:Gp),q ≠ st->(∀ x ∈ vs,okS 700 x)->vs.length=7->G3 q=some (.lst (vs.map D.str))->G3 p=some (.lst (ws.map D.str))->Adv st G G3->N [some (.ref st),some (.str ln),some (.ref p),some (.int (at_:Int)),some (.ref q)] G3:=by
   intro q vs G3 nq hvs hvn kq kp A3;rw [<- hN];clear hN;dsimp! [kp];intro p4 hp4;rw [u68];have sub:∀ lo hi,(∀ x ∈ cutD ws lo hi,okS 40 x) /\ (cutD ws lo hi).length<=7:=fun lo hi=>⟨fun x hx=>hw40 x (uc1 hx),Nat.le_trans (uc2 ws lo hi) hl7⟩
   obtain ⟨j1,j2,j3⟩:=ub8 (sub none (some (-1))).1 (Nat.le_trans (sub _ _).2 (by decide));refine ⟨_,p4,cutD ws none (some (-1)),rfl,rfl,by rw [u01];rfl,j2,j3,?_⟩;have A4:=A3.new (o:=.lst ((cutD ws none (some (-1))).map D.str)) hp4;have kp4:gup G3 p4 (.lst ((cutD ws none (some (-1))).map D.str)) p=some (.lst (ws.map D.str)):=by rw [u07 (gne kp hp4)];exact kp
   have kq4:gup G3 p4 (.lst ((cutD ws none (some (-1))).map D.str)) q=some (.lst (vs.map D.str)):=by rw [u07 (gne kq hp4)];exact kq
   obtain ⟨G4,hG4⟩:∃ G4,G4=gup G3 p4 (.lst ((cutD ws none (some (-1))).map D.str)):=⟨_,rfl⟩;rw [<- hG4] at A4 kp4 kq4 ⊢;clear hG4;generalize jn (Str.ofString " ") (cutD ws none (some (-1)))=y1 at j1 ⊢;simp! [kp4];intro p5 hp5;have kp5:∀ {o:DO},gup G4 p5 o p=some (.lst (ws.map D.str)):=fun {o}=>by rw [u07 (gne kp4 hp5)];exact kp4
   have kq5:∀ {o:DO},gup G4 p5 o q=some (.lst (vs.map D.str)):=fun {o}=>by rw [u07 (gne kq4 hp5)];exact kq4
   simp! [kp5];intro p6 hp6;rw [u68,u68] at *;have s1:=sub none (some (at_:Int));have s2:=sub (some ((at_:Int)+1)) none;generalize cutD ws none (some (at_:Int))=xs1 at s1 hp6 ⊢;generalize cutD ws (some ((at_:Int)+1)) none=xs2 at s2 ⊢;refine u40 (xs:=xs1.map D.str) (ys:=xs2.map D.str) (by rw [u07 (gne u01 hp6)];exact u01) u01 (by rw [List.length_map,List.length_map];omega) fun p7 hp7=>?_
   obtain ⟨i1,i2,i3⟩:=ub8 (ws:=xs1++xs2) (fun x hx=>(List.mem_append.mp hx).elim (s1.1 x) (s2.1 x)) (by rw [List.length_append];omega);refine ⟨_,p7,xs1++xs2,rfl,rfl,by rw [u01,List.map_append];rfl,i2,i3,by decide,fun p8 hp8=>?_⟩;have A7:=((A4.new hp5).new hp6).new (o:=.lst (xs1.map D.str++xs2.map D.str)) hp7;have kp7:gup (gup (gup G4 p5 (.lst (xs1.map D.str))) p6 (.lst (xs2.map D.str))) p7 (.lst (xs1.map D.str++xs2.map D.str)) p=some (.lst (ws.map D.str)):=by
    have e6:gup (gup G4 p5 (.lst (xs1.map D.str))) p6 (.lst (xs2.map D.str)) p=some (.lst (ws.map D.str)):=by rw [u07 (gne kp5 hp6)];exact kp5
    rw [u07 (gne e6 hp7)];exact e6
   have kq7:gup (gup (gup G4 p5 (.lst (xs1.map D.str))) p6 (.lst (xs2.map D.str))) p7 (.lst (xs1.map D.str++xs2.map D.str)) q=some (.lst (vs.map D.str)):=by
    have e6:gup (gup G4 p5 (.lst (xs1.map D.str))) p6 (.lst (xs2.map D.str)) q=some (.lst (vs.map D.str)):=by rw [u07 (gne kq5 hp6)];exact kq5
    rw [u07 (gne e6 hp7)];exact e6
   obtain ⟨G7,hG7⟩:∃ G7,G7=gup (gup (gup G4 p5 (.lst (xs1.map D.str))) p6 (.lst (xs2.map D.str))) p7 (.lst (xs1.map D.str++xs2.map D.str)):=⟨_,rfl⟩;rw [<- hG7] at A7 kp7 kq7 hp8 ⊢;clear hG7 kp5 kq5 hp5 hp6 hp7;generalize jn (Str.ofString " ") (xs1++xs2)=y2 at i1 ⊢;refine u40 (xs:=vs.map D.str) (ys:=[D.str y1,D.str y2]) (by rw [u07 (gne kq7 hp8)];exact kq7) u01 (by rw [List.length_map];show _+2<=_;omega) fun p9 hp9=>?_
   have A9:=(A7.new (o:=.lst [D.str y1,D.str y2]) hp8).new (o:=.lst (vs.map D.str++[D.str y1,D.str y2])) hp9;have n9:=(A7.new (o:=.lst [D.str y1,D.str y2]) hp8).at_.ne hp9
   have kp9:gup (gup G7 p8 (.lst [D.str y1,D.str y2])) p9 (.lst (vs.map D.str++[D.str y1,D.str y2])) p=some (.lst (ws.map D.str)):=by
    have e8:gup G7 p8 (.lst [D.str y1,D.str y2]) p=some (.lst (ws.map D.str)):=by rw [u07 (gne kp7 hp8)];exact kp7
    rw [u07 (gne e8 hp9)];exact e8
   have kq9:gup (gup G7 p8 (.lst [D.str y1,D.str y2])) p9 (.lst (vs.map D.str++[D.str y1,D.str y2])) p9=some (.lst ((vs++[y1,y2]).map D.str)):=by rw [u01,List.map_append];rfl
   have hvs9:∀ x ∈ vs++[y1,y2],okS 700 x:=fun x hx=>by
    rcases List.mem_append.mp hx with h | h
    ·exact hvs x h
    ·simp only [List.mem_cons,List.mem_nil_iff,or_false] at h
     rcases h with rfl | rfl
     ·exact j1
     ·exact i1
   have hvn9:(vs++[y1,y2]).length=9:=by rw [List.length_append,hvn];rfl
   generalize vs++[y1,y2]=vs at hvs9 hvn9 kq9;generalize gup (gup G7 p8 (.lst [D.str y1,D.str y2])) p9 _=G9 at A9 kp9 kq9 ⊢;clear hvs hvn kq kp A3 sub j1 j2 j3 A4 kp4 kq4 A7 kp7 kq7 hp8 hp9 i1 i2 i3;dsimp! [v80];refine ⟨ln,rfl,by rw [o6];omega,fun r2 hr2 hc2=>⟨ln,rfl,by rw [o7];omega,fun r3 hr3 hc3=>⟨by decide,fun p10 hp10=>?_⟩⟩⟩;rw [o6] at hr2;rw [o7] at hr3;have f2:okS 700 r2:=⟨by omega,rp hc2 (by unfold fine;decide)⟩;have f3:okS 700 r3:=⟨by omega,rp hc3 (by unfold fine;decide)⟩;clear hr2 hc2 hr3 hc3;refine u40 (xs:=vs.map D.str) (ys:=[D.str r2,D.str r3]) (by rw [u07 (gne kq9 hp10)];exact kq9) u01 (by rw [List.length_map];show _+2<=_;omega) fun p11 hp11=>?_
   have A11:=(A9.new (o:=.lst [D.str r2,D.str r3]) hp10).new (o:=.lst (vs.map D.str++[D.str r2,D.str r3])) hp11;have n11:=(A9.new (o:=.lst [D.str r2,D.str r3]) hp10).at_.ne hp11
   have kp11:gup (gup G9 p10 (.lst [D.str r2,D.str r3])) p11 (.lst (vs.map D.str++[D.str r2,D.str r3])) p=some (.lst (ws.map D.str)):=by
    have e8:gup G9 p10 (.lst [D.str r2,D.str r3]) p=some (.lst (ws.map D.str)):=by rw [u07 (gne kp9 hp10)];exact kp9
    rw [u07 (gne e8 hp11)];exact e8
   have kq11:gup (gup G9 p10 (.lst [D.str r2,D.str r3])) p11 (.lst (vs.map D.str++[D.str r2,D.str r3])) p11=some (.lst ((vs++[r2,r3]).map D.str)):=by rw [u01,List.map_append];rfl
   have hvs11:∀ x ∈ vs++[r2,r3],okS 700 x:=fun x hx=>by
    rcases List.mem_append.mp hx with h | h
    ·exact hvs9 x h
    ·simp only [List.mem_cons,List.mem_nil_iff,or_false] at h
     rcases h with rfl | rfl
     ·exact f2
     ·exact f3
   have hvn11:(vs++[r2,r3]).length=11:=by rw [List.length_append,hvn9];rfl
   generalize vs++[r2,r3]=vs at hvs11 hvn11 kq11;generalize gup (gup G9 p10 (.lst [D.str r2,D.str r3])) p11 _=G11 at A11 kp11 kq11 ⊢;clear hvs9 hvn9 kq9 kp9 A9 hp10 hp11 f2 f3;dsimp! [id];refine ⟨⟨by decide,by decide⟩,fun p12 hp12=>?_⟩;have n12:=A11.at_.ne hp12
   have f12:=A11.none hp12 n12;have m1:p ≠ p12:=gne kp11 hp12;have m2:p11 ≠ p12:=gne kq11 hp12;generalize hN3:Go (dSeq _ _ _)=N3;have c3:∀ (q:Addr) (vs:List Str) (G3:Gp),q ≠ st->(∀ x ∈ vs,okS 700 x)->vs.length=19->G3 q=some (.lst (vs.map D.str))->Adv st G G3->N3 [some (.ref st),some (.str ln),some (.ref p),some (.int (at_:Int)),some (.ref q)] G3:=by
    intro q vs G3 nq hvs hvn kq A3;rw [<- hN3];clear hN3;dsimp! [id];refine ⟨by decide,fun p5 hp5=>?_⟩;obtain ⟨us,hus⟩:∃ us:List Str,us=[Str.ofString "size 3",Str.ofString "add 0 b1",Str.ofString "turn 1 3 b0 4 b2 5 b3 6",Str.ofString "come 0 1",Str.ofString "swap 1 b2",Str.ofString "turn 0",Str.ofString "take 0"]:=⟨_,rfl⟩;rw [show [D.str "size 3",D.str "add 0 b1",D.str "turn 1 3 b0 4 b2 5 b3 6",D.str "come 0 1",D.str "swap 1 b2",D.str "turn 0",D.str "take 0"]=us.map D.str by rw [hus];rfl];have hun:us.length=7:=by rw [hus];rfl
    have huo:∀ x ∈ us,okS 700 x:=ur7 (by rw [hus];decide);clear hus;refine u40 (xs:=vs.map D.str) (ys:=us.map D.str) (by rw [u07 (gne kq hp5)];exact kq) u01 (by rw [List.length_map,List.length_map];omega) fun p6 hp6=>?_
    have A6:=(A3.new (o:=.lst (us.map D.str)) hp5).new (o:=.lst (vs.map D.str++us.map D.str)) hp6;have n6:=(A3.new (o:=.lst (us.map D.str)) hp5).at_.ne hp6
    have k6:gup (gup G3 p5 (.lst (us.map D.str))) p6 (.lst (vs.map D.str++us.map D.str)) p6=some (.lst ((vs++us).map D.str)):=by rw [u01,List.map_append]
    have zn:(vs++us).length=26:=by rw [List.length_append,hvn,hun]
    have zl:∀ z ∈ vs++us,okS 700 z:=fun z hz=>(List.mem_append.mp hz).elim (hvs z) (huo z)
    generalize vs++us=zs at k6 zn zl;generalize gup (gup G3 p5 (.lst (us.map D.str))) p6 _=G6 at A6 k6 ⊢;dsimp! [k6,List.length_map,zn];refine u10 A6.at_ (by decide) (by decide) fun x G9 a9 b1 b2=>?_
    obtain ⟨y,hy,ey⟩:=at_getD (xs:=zs.map D.str) (v:=x) b1 (by rw [List.length_map,zn];exact b2);obtain ⟨z,hz,rfl⟩:=List.mem_map.mp hy;simp! [a9.kp _ _ n6 k6,ey];exact post z _ (A6.trans a9) (Nat.le_trans (zl z hz).1 (by decide)) (zl z hz).2
   have sub:∀ lo hi,(∀ x ∈ cutD ws lo hi,okS 40 x) /\ (cutD ws lo hi).length<=7:=fun lo hi=>⟨fun x hx=>hw40 x (uc1 hx),Nat.le_trans (uc2 ws lo hi) hl7⟩
   refine u26 (fun r σ G'=>∃ (i c:Nat) (us:List Str) (v:Option D),i+c=8 /\ r=rngD (i:Int) c /\ Adv st G G' /\ G' p12=some (.lst (us.map D.str)) /\ us.length=i /\ (∀ x ∈ us,okS 700 x) /\ G' p=some (.lst (ws.map D.str)) /\ G' p11=some (.lst (vs.map D.str)) /\ σ=[v,some (.ref p),some (.int (at_:Int)),some (.ref st)]) ⟨0,8,[],none,rfl,rfl,A11.new hp12,u01,rfl,by simp,by rw [u07 m1];exact kp11,by rw [u07 m2];exact kq11,rfl⟩ ?_ ?_
   ·rintro σ G13 ⟨i,c,us,v,e,e2,A13,k13,hun,huo,kp13,kq13,rfl⟩
    have hc:c=0:=by
     cases c with
     | zero=>rfl
     | succ c=>rw [u49] at e2;cases e2
    refine ⟨trivial,?_⟩;refine u40 kq13 k13 (by rw [List.length_map,List.length_map];omega) fun p14 hp14=>?_
    refine c3 p14 (vs++us) _ (A13.at_.ne hp14) (fun x hx=>(List.mem_append.mp hx).elim (hvs11 x) (huo x)) (by rw [List.length_append];omega) (by rw [u01,List.map_append]) (A13.new hp14)
   ·rintro z r σ G13 ⟨i,c,us,v,e,e2,A13,k13,hun,huo,kp13,kq13,rfl⟩ ih
    cases c with
    | zero=>cases e2
    | succ c =>
     rw [u49] at e2;cases e2;refine ⟨trivial,?_⟩;have ei:(i:Int)+1=((i+1:Nat):Int):=by omega
     rw [ei] at ih;simp! [kp13];intro p14 hp14;rw [u68];have s1:=sub none (some (at_:Int));generalize cutD ws none (some (at_:Int))=xs1 at s1 ⊢;have A14:=A13.new (o:=.lst (xs1.map D.str)) hp14;have n14:=A13.at_.ne hp14
     have kk:∀ {a:Addr} {o:DO},G13 a=some o->gup G13 p14 (.lst (xs1.map D.str)) a=some o:=fun {a o} h=>by rw [u07 (gne h hp14)];exact h
     have kx14:gup G13 p14 (.lst (xs1.map D.str)) p14=some (.lst (xs1.map D.str)):=u01;have kp14:=kk kp13;have kq14:=kk kq13;have k14:=kk k13;have m14:p12 ≠ p14:=gne k13 hp14;generalize gup G13 p14 (.lst (xs1.map D.str))=G14 at A14 kx14 kp14 kq14 k14 ⊢;obtain ⟨w0,hw0,ew⟩:=at_getD (xs:=ws.map D.str) (v:=(at_:Int)) (by omega) (by rw [List.length_map];exact b2);obtain ⟨w1,hw1,rfl⟩:=List.mem_map.mp hw0;simp! [kp14,ew];refine u18 (post:=fun d G'=>∃ x:Str,d=.str x /\ Adv st G14 G' /\ okS 40 x) (fun R h=>⟨st,w1,rfl,A14.at_,(hw w1 hw1).1,(hw w1 hw1).2,fun x G' y1 y2 y3=>h _ _ ⟨x,rfl,y1,y2,y3⟩⟩) ?_;rintro d G15 ⟨x,rfl,a15,hx⟩;have kx15:=a15.kp _ _ n14 kx14;have kp15:=a15.kp _ _ np kp14;have kq15:=a15.kp _ _ n11 kq14;have k15:=a15.kp _ _ n12 k14;have A15:=A14.trans a15;simp! [id];refine ⟨by decide,fun p16 hp16=>?_⟩;refine u40 (xs:=xs1.map D.str) (ys:=[D.str x]) (by rw [u07 (gne kx15 hp16)];exact kx15) u01 (by rw [List.length_map];show _+1<=_;omega) fun p17 hp17=>?_
     have A17:=(A15.new (o:=.lst [D.str x]) hp16).new (o:=.lst (xs1.map D.str++[D.str x])) hp17;have kk:∀ {a:Addr} {o:DO},G15 a=some o->gup (gup G15 p16 (.lst [D.str x])) p17 (.lst (xs1.map D.str++[D.str x])) a=some o:=fun {a o} h=>by
      have h6:gup G15 p16 (.lst [D.str x]) a=some o:=by rw [u07 (gne h hp16)];exact h
      rw [u07 (gne h6 hp17)];exact h6
     have kx17:gup (gup G15 p16 (.lst [D.str x])) p17 (.lst (xs1.map D.str++[D.str x])) p17=some (.lst ((xs1++[x]).map D.str)):=by rw [u01,List.map_append];rfl
     have kp17:=kk kp15;have kq17:=kk kq15;have k17:=kk k15;generalize gup (gup G15 p16 (.lst [D.str x])) p17 _=G17 at A17 kx17 kp17 kq17 k17 ⊢;clear kk;simp! [kp17];intro p18 hp18;rw [u68];have s2:=sub (some ((at_:Int)+1)) none;generalize cutD ws (some ((at_:Int)+1)) none=xs2 at s2 ⊢;refine u40 (xs:=(xs1++[x]).map D.str) (ys:=xs2.map D.str) (by rw [u07 (gne kx17 hp18)];exact kx17) u01 (by rw [List.length_map,List.length_map,List.length_append];show _+1+_<=_;omega) fun p19 hp19=>?_
     have A19:=(A17.new (o:=.lst (xs2.map D.str)) hp18).new (o:=.lst ((xs1++[x]).map D.str++xs2.map D.str)) hp19;have kk:∀ {a:Addr} {o:DO},G17 a=some o->gup (gup G17 p18 (.lst (xs2.map D.str))) p19 (.lst ((xs1++[x]).map D.str++xs2.map D.str)) a=some o:=fun {a o} h=>by
      have h6:gup G17 p18 (.lst (xs2.map D.str)) a=some o:=by rw [u07 (gne h hp18)];exact h
      rw [u07 (gne h6 hp19)];exact h6
     obtain ⟨i1,i2,i3⟩:=ub8 (ws:=(xs1++[x])++xs2) (fun y hy=>(List.mem_append.mp hy).elim (fun h=>(List.mem_append.mp h).elim (s1.1 y) fun z=>by rw [List.mem_singleton.mp z];exact hx) (s2.1 y)) (by rw [List.length_append,List.length_append];show _+1+_<=_;omega);refine ⟨_,p19,(xs1++[x])++xs2,rfl,rfl,by rw [u01,List.map_append (l₁:=xs1++[x])];rfl,i2,i3,?_⟩;have kp19:=kk kp17;have kq19:=kk kq17;have k19:=kk k17;generalize gup (gup G17 p18 (.lst (xs2.map D.str))) p19 _=G19 at A19 kp19 kq19 k19 ⊢;simp! [k19];refine ⟨Nat.lt_of_le_of_lt (m:=1000) (by rw [List.length_map];omega) (by decide),?_⟩;rw [ei];refine ih _ _ ⟨i+1,c,us++[jn " " ((xs1++[x])++xs2)],_,by omega,rfl,A19.own f12 k19 n12,by rw [u01,List.map_append];rfl,by rw [List.length_append,hun];rfl,fun y hy=>?_,by rw [u07 m1];exact kp19,by rw [u07 m2];exact kq19,rfl⟩
     rcases List.mem_append.mp hy with h | h
     ·exact huo y h
     ·rw [List.mem_singleton.mp h];exact i1
  refine ⟨by rw [o1];omega,by rw [o1];omega,?_⟩;simp! [v80];refine ⟨ln,rfl,by rw [o5];omega,fun r1 hr1 hc1=>?_⟩;rw [o5] at hr1;refine ⟨by rw [o2];omega,by rw [o3];omega,by rw [o4];omega,by decide,fun p3 hp3=>?_⟩;refine c1 p3 [Str.ofString " " ++ ln,ln++Str.ofString " ",r1,Str.ofString "",ln++Str.ofString " 0",ln++Str.ofString " b0",ln++Str.ofString " b0 1"] _ (A2.at_.ne hp3) ?_ rfl u01 (by rw [u07 (gne k2 hp3)];exact k2) (A2.new hp3);intro x hx;simp only [List.mem_cons,List.mem_nil_iff,or_false] at hx
  rcases hx with rfl | rfl | rfl | rfl | rfl | rfl | rfl
  ·exact ap (lit (by decide)) ol (by decide)
  ·exact ap ol (lit (by decide)) (by decide)
  ·exact ⟨by omega,rp hc1 (by unfold fine;decide)⟩
  ·exact u85 (by decide)
  ·exact ap ol (lit (by decide)) (by decide)
  ·exact ap ol (lit (by decide)) (by decide)
  ·exact ap ol (lit (by decide)) (by decide)
theorem wa8 {n:Nat} (G_jav:OkX P w mg base n T.f_jav (v95 T)):Ok P w mg base (n+1) T.f_jao (w19 T):=by
 refine u25 T.f_jao sc_jao (fun ds G R h=>?_) (fun cdv A outer s H E hr =>
   (u03 (u15 2 sc_jao.nd (e_un uy1 u04))
   (u03 (u15 3 sc_jao.nd (u32 u02))
   (u03 (w51 (v18 (ecT T.f_jav T.g_read_code G_jav hr (u00 (ev 0) u02))) (h_as (K:=K) T.e_LitterError.C 4 T.e_BadText.m T.e_BadText.xc (by simp [VM]) sc_jao.nd (fun _=>(u06 (u15 2 sc_jao.nd (wf4 (K:=K) T.e_LitterError.C (ev 4))))) wf0))
   (u03 (w51 (v18 (ecT T.f_jav T.g_read_code G_jav hr (u00 (ev 0) u02))) (h_as (K:=K) T.e_LitterError.C 4 T.e_LitterError.m T.e_LitterError.xc (by simp [VM]) sc_jao.nd (fun _=>(u03 (u15 3 sc_jao.nd (u32 (u00 (u12 (vp2 (K:=K) T.e_LitterError.C) rfl T.b_isinstance (by decide) (u00 (ev 4) (u00 (vn9 (T := "ValueError") T.b_ValueError (by decide)) u02))) (u00 (u12 (vp2 (K:=K) T.e_LitterError.C) rfl T.b_isinstance (by decide) (u00 (ev 4) (u00 (ul6 T.e_BadText.m) u02))) u02))))
   (u06 (uc9 (u97 (ev 3) (u00 (u12 (vp2 (K:=K) T.e_LitterError.C) rfl T.b_isinstance (by decide) (u00 (ev 4) (u00 (u56 (u00 (ul6 T.e_BadCode.m) (u00 (ul6 T.e_BadCuts.m) (u00 (ul6 T.e_BadPlan.m) (u00 (ul6 T.e_NoBox.m) (u00 (ul6 T.e_NoRow.m) (u00 (ul6 T.e_TooWide.m) (u00 (ul6 T.e_TwiceNamed.m) u02)))))))) u02))) u02)))))) wf0))
   (u06 (u17 (uf0 (ud7 (x_eq hr) (ev 2) (ev 1) (nomark _)) (uf0 (wk5 (u12 va2 rfl T.b_isinstance (by decide) (u00 (ev 2) (u00 (vn9 (T := "bool") T.b_bool (by decide)) u02)))) (ui4 (ud7 (x_eq hr) (ev 3) (u32 (u00 e_bl (u00 e_bl (u00 e_bl u02)))) (nomark _)))))))))))) (fun ds G R h=>?_)
 ·obtain ⟨t,i,rfl,_⟩:=h;rfl
 ·obtain ⟨t,i,rfl,hl,hls,hf,post⟩:=h
  have hg:∀ sz rs,¬ uj3 (Txt.split t "\n") sz rs:=fun sz rs h=>by have:=v62 h;omega
  have hu:∀ i':Nat, fb (Txt.split t "\n")=(i':Int)->i'=i:=fun i' h=>by omega
  simp! [id];dsimp! [id];refine ⟨by decide, fun p hp=>?_⟩;have g0:Grow G (gup G p (.lst [])):=Grow.refl.new hp;have kp0:gup G p (.lst []) p=some (.lst []):=u01;obtain ⟨G0, hG0⟩:∃ G0, G0=gup G p (.lst []):=⟨_, rfl⟩;rw [<- hG0] at g0 kp0 ⊢;clear hG0;dsimp! [id];refine ui9 (post:=fun _ _=>False) (fun R h=>⟨t, rfl, hl, hls, (fun sz rs hg'=>(hg sz rs hg').elim), fun i' hi' G1 g1=>?_⟩) fun d G' z=>z.elim
  rw [hu i' hi'];refine ⟨T.e_BadText.xc, ?_⟩;simp! [id];intro a2 h2;have kp1:=g1.kp _ _ kp0;have g12:Grow G (gup G1 a2 (DO.exc T.e_BadText.C [(Str.ofString "at", D.int (i:Int))])):=(g0.trans g1).new h2;simp! [u01, List.lookup_cons, beq_self_eq_true];have lx:xcIn K T.e_BadText.C (Value.ref T.e_LitterError.C::VM)=true:=T.e_BadText.xc;refine ⟨lx, T.xa_BadText, ?_⟩;obtain ⟨G2, hG2⟩:∃ G2, G2=gup G1 a2 (DO.exc T.e_BadText.C [(Str.ofString "at", D.int (i:Int))]):=⟨_, rfl⟩;have kp2:G2 p=some (.lst []):=by rw [hG2, u07 (gne kp1 h2)];exact kp1
  rw [<- hG2] at g12 ⊢;clear hG2;dsimp! [id];refine ui9 (post:=fun _ _=>False) (fun R h=>⟨t, rfl, hl, hls, (fun sz rs hg'=>(hg sz rs hg').elim), fun i' hi' G3 g3=>?_⟩) fun d G' z=>z.elim
  refine ⟨T.e_BadText.xc, ?_⟩;simp! [id];intro a4 h4;obtain ⟨G4, hG4⟩:∃ G4, G4=gup G3 a4 (DO.exc T.e_BadText.C [(Str.ofString "at", D.int (i':Int))]):=⟨_, rfl⟩;have g14:Grow G G4:=by rw [hG4];exact (g12.trans g3).new h4
  have k4:G4 a4=some (DO.exc T.e_BadText.C [(Str.ofString "at", D.int (i':Int))]):=by rw [hG4];exact u01
  rw [<- hG4];clear hG4;dsimp! [k4];refine ⟨lx, T.e_BadText.x, lx, T.e_BadText.x, ⟨_, lx⟩, by decide, fun p5 hp5=>⟨by decide, ?_⟩⟩;have k45:gup G4 p5 (.lst [D.bl true, D.bl true]) a4=some (DO.exc T.e_BadText.C [(Str.ofString "at", D.int (i':Int))]):=by rw [u07 (gne k4 hp5)];exact k4
  have g15:Grow G (gup G4 p5 (.lst [D.bl true, D.bl true])):=g14.new hp5;have fp5:=g14.none hp5;obtain ⟨G5, hG5⟩:∃ G5, G5=gup G4 p5 (.lst [D.bl true, D.bl true]):=⟨_, rfl⟩;rw [<- hG5] at k45 g15 ⊢;clear hG5;simp! [k45];refine ⟨lx, T.e_BadText.x, fun c hc=>?_, by decide, .inr (.inr (.inl trivial)), ?_⟩
  ·simp only [List.mem_cons, List.mem_nil_iff, or_false] at hc
   rcases hc with rfl | rfl | rfl | rfl | rfl | rfl | rfl
   ·exact ⟨_, T.e_BadCode.xc⟩
   ·exact ⟨_, T.e_BadCuts.xc⟩
   ·exact ⟨_, T.e_BadPlan.xc⟩
   ·exact ⟨_, T.e_NoBox.xc⟩
   ·exact ⟨_, T.e_NoRow.xc⟩
   ·exact ⟨_, T.e_TooWide.xc⟩
   ·exact ⟨_, T.e_TwiceNamed.xc⟩
  dsimp only;rw [if_pos (show (!subK "int" "bool")=true from rfl)];refine ⟨by decide,fun p6 hp6=>?_⟩;have eX:([T.e_BadCode.C,T.e_BadCuts.C,T.e_BadPlan.C,T.e_NoBox.C,T.e_NoRow.C,T.e_TooWide.C,T.e_TwiceNamed.C].any (isX T.e_BadText.C T.e_LitterError.C))=false:=by
   simp only [List.any_cons,List.any_nil,u87 T.ne_BadText_BadCode T.e_BadCode.ne,u87 T.ne_BadText_BadCuts T.e_BadCuts.ne,u87 T.ne_BadText_BadPlan T.e_BadPlan.ne,u87 T.ne_BadText_NoBox T.e_NoBox.ne,u87 T.ne_BadText_NoRow T.e_NoRow.ne,u87 T.ne_BadText_TooWide T.e_TooWide.ne,u87 T.ne_BadText_TwiceNamed T.e_TwiceNamed.ne];rfl
  rw [eX] at hp6 ⊢;refine w01 (by rw [u07 (gne u01 hp6),u01];rfl) (by rw [u01];rfl) ?_;exact post _ ((g15.own fp5).new hp6)
theorem w92 {n:Nat} (G_jbc:Ok P w mg base n T.f_jbc (w11 T)) (G_jav:OkX P w mg base n T.f_jav (v95 T)) (G_jag:Ok P w mg base n T.f_jag (ue5 T)) (G_jaf:Ok P w mg base n T.f_jaf (w22 T)) (G_jaj:Ok P w mg base n T.f_jaj (w20 T)) (G_jab:Ok P w mg base n T.f_jab (w23 T)) (G_jai:Ok P w mg base n T.f_jai (w21 T)) (G_jao:Ok P w mg base n T.f_jao (w19 T)):Ok P w mg base (n+1) T.f_law (w09 T):=by
 refine u25 T.f_law sc_law (fun ds G R h=>?_) (fun cdv A outer s H E hr =>
   (u03 (u15 1 sc_law.nd (u32 (u00 (ev 0) (u00 u04 (u00 u04 u02)))))
   (u03 (u15 2 sc_law.nd (u11 u23 u04 (ec T.f_jag T.g_law_draw G_jag hr (u00 (ev 1) (u00 u04 u02)))))
   (u03 (u15 3 sc_law.nd (ec T.f_jag T.g_law_draw G_jag hr (u00 (ev 1) (u00 u04 u02))))
   (u03 (u15 4 sc_law.nd (u11 u23 u04 (ec T.f_jag T.g_law_draw G_jag hr (u00 (ev 1) (u00 u04 u02)))))
   (u03 (u15 5 sc_law.nd (ec T.f_jaf T.g_law_code G_jaf hr (u00 (ev 1) (u00 (ev 4) (u00 (ec T.f_jag T.g_law_draw G_jag hr (u00 (ev 1) (u00 u04 u02))) (u00 (ec T.f_jag T.g_law_draw G_jag hr (u00 (ev 1) (u00 u04 u02))) u02))))))
   (u03 (u15 6 sc_law.nd (ec T.f_jaj T.g_law_lines G_jaj hr (u00 (ev 5) u02)))
   (u03 (u15 7 sc_law.nd (u14 va1 rfl T.b_list (by decide) (u00 (ev 6) u02)))
   (u03 (un8 (ul4 rfl T.b_range (u00 (ev 2) u02)) (u27 8 sc_law.nd) (u03 (u15 9 sc_law.nd (ec T.f_jag T.g_law_draw G_jag hr (u00 (ev 1) (u00 (u12 u42 rfl T.b_len (by decide) (u00 (ev 6) u02)) u02))))
   (u06 (un9 (ec T.f_jai T.g_law_line_spoilt G_jai hr (u00 (ev 1) (u00 (e_ix x_ix (ev 6) (ev 9)) u02))) (uw4 (ev 7) (ev 9) uu7)))))
   (u03 (s_if (u13 (x_lt) (ev 3) u04 (nomark _)) (u06 (u15 7 sc_law.nd (e_ix x_ix (u32 (u00 (u11 u23 (e_sl x_sl (ev 6) (u35 u04) u41) (u32 (u00 u08 u02))) (u00 (u11 u23 (u32 (u00 u08 u02)) (ev 6)) (u00 (u11 u23 (ev 6) (u32 (u00 u08 u02))) (u00 (u11 u23 (ev 6) (e_sl x_sl (ev 6) (u35 (e_un uy1 u04)) u41)) u02))))) (ev 3)))) u21)
   (u03 (u15 10 sc_law.nd (ec T.f_jab T.g_law_bad_line G_jab hr (u00 (ev 7) u02)))
   (u03 (u15 11 sc_law.nd (u96 u08 (u00 (ev 7) u02)))
   (u03 (s_if (t_w (w_and (u13 (x_ge) (ev 10) u04 (nomark _)) (u90 (un5 (un4 (ec T.f_jao T.g_law_refused G_jao hr (u00 (ev 11) (u00 (ev 10) u02)))))))) (u06 (u17 e_bl)) u21)
   (u03 (s_if (t_w (w_and (u13 (x_lt) (ev 10) u04 (nomark _)) (u90 (u13 (x_ne hr) (ec T.f_jbc T.g_show_code G_jbc hr (u00 (ecN T.f_jav T.g_read_code G_jav hr (u00 (ev 11) u02)) u02)) (ev 11) (nomark _))))) (u06 (u17 e_bl)) u21)
   (u06 (u17 (uf0 (ec T.f_jao T.g_law_refused G_jao hr (u00 u08 (u00 u04 u02))) (ui4 (ud7 (x_eq hr) (ecN T.f_jav T.g_read_code G_jav hr (u00 (u96 u08 (u00 (ev 6) u02)) u02)) (ev 5) (nomark _)))))))))))))))))))) (fun ds G R h=>?_)
 ·obtain ⟨a,ns,rfl,_⟩:=h;rfl
 ·obtain ⟨a,ns,rfl,ha,hns,post⟩:=h
  have okK:∀ {sz:Nat} {rs:List Row},sz<=8->Pairs rs->rs.length<=30->(∀ r ∈ rs,r.ok sz)->∀ r ∈ rs,rK r:=by
   intro sz rs hz hp hl hok r hr;have h:=hok r hr;have oo:∀ {x:Nat} {o:Opd},o.ok sz x->opK o:=fun {x o} h=>by
    cases o with
    | num n=>exact h
    | box y=>have h1:y < sz:=h.1;show y<=9999999999;omega
   obtain ⟨j,hj⟩:=List.getElem?_of_mem hr;have jlt:∀ {x n k},(r=.go x n k \/ r=.come x n k)->k < rs.length:=fun z=>ve4 hp hj _ _ _ z
   cases r with
   | add x o=>exact ⟨by have:=h.1;omega,oo h.2⟩
   | take x o=>exact ⟨by have:=h.1;omega,oo h.2⟩
   | turn x i cs=>exact ⟨by have:=h.1;omega,h.2.1,h.2.2.1,fun c hc=>⟨by have:=(h.2.2.2 c hc).1;omega,(h.2.2.2 c hc).2.2⟩⟩
   | swap x y=>exact ⟨by have:=h.1;omega,by have:=h.2.1;omega⟩
   | go x n k=>exact ⟨by have:=h.1;omega,h.2,by have:=jlt (.inl rfl);omega⟩
   | come x n k=>exact ⟨by have:=h.1;omega,h.2,by have:=jlt (.inr rfl);omega⟩
  simp! [id];refine ⟨by decide,fun st hst=>?_⟩;have hast:a ≠ st:=gne ha hst;have S0:StAt (gup G st (.lst [.ref a,.int 0,.int 0])) st:=⟨a,ns,0,0,u01,by rw [u07 hast];exact ha,by omega,by omega,hast,hns⟩;dsimp! [id];refine u10 S0 (by decide) (by decide) fun x1 G1 a1 b1 b2=>?_
  obtain ⟨x1,rfl⟩:=uc6 b1;simp! [id];dsimp! [id];refine u10 a1.at_ (by decide) (by decide) fun so G2 a2 c1 c2=>?_
  obtain ⟨so,rfl⟩:=uc6 c1;simp! [id];dsimp! [id];refine u10 a2.at_ (by decide) (by decide) fun x2 G2 a2 c1 c2=>?_
  obtain ⟨x2,rfl⟩:=uc6 c1;obtain ⟨sz,hsz,z1,z2⟩:∃ sz:Nat,1+(x2:Int)=(sz:Int) /\ 1<=sz /\ sz<=8:=⟨1+x2,by omega,by omega,by omega⟩;simp! [hsz];dsimp! [id];refine u10 a2.at_ (by decide) (by decide) fun x3 G3 a3 d1 d2=>?_
  obtain ⟨x3,rfl⟩:=uc6 d1;simp! [id];refine u10 a3.at_ (by decide) (by decide) fun x4 G4 a4 e1 e2=>?_
  simp! [id];refine u18 (post:=fun d G'=>∃ (ra:Addr) (rs:List Row),d=.tup [.int sz,.ref ra] /\ Adv st G4 G' /\ ra ≠ st /\ G' ra=some (.lst (rs.map Row.d)) /\ rs.length=x3 /\ (∀ r ∈ rs,r.ok sz) /\ Pairs rs) (fun R h=>⟨st,sz,x3,x4,rfl,a4.at_,z1,by omega,by omega,fun ra rs G' y1 y2 y3 y4 y5 y6=>h _ _ ⟨ra,rs,rfl,y1,a4.at_.ne y2,y3,y4,y5,y6⟩⟩) ?_;rintro d G5 ⟨ra,rs,rfl,a5,nra,k5,hl,hok,hp⟩;have hsm:∀ r ∈ rs,rK r:=okK z2 hp (by omega) hok;have hszB:sz<=9999999999:=by omega
  simp! [id];dsimp! [id];refine u18 (post:=fun d G'=>∃ q,d=.ref q /\ G5 q=none /\ G' q=some (.lst ((szS sz::rs.map lnS).map .str)) /\ Grow G5 G') (fun R h=>⟨ra,rs,sz,rfl,k5,hsm,hszB,by omega,fun q G' y1 y2 y3=>h _ _ ⟨q,rfl,y1,y2,y3⟩⟩) ?_;rintro d G6 ⟨q,rfl,fq,k6,g6⟩;have S6:=a5.at_.grow g6
  have nq:=a5.at_.ne fq
  have kra6:=g6.kp _ _ k5;have okw:=vp7 hszB hsm;have ewl:=uu8 sz rs;have hln:=ui7 hszB hsm;have hll:(szS sz::rs.map lnS).length=x3+1:=by rw [List.length_cons,List.length_map,hl]
  obtain ⟨ls,hls⟩:∃ ls,ls=szS sz::rs.map lnS:=⟨_,rfl⟩;rw [<- hls] at k6 hln hll ewl;have okl:∀ x ∈ ls,okS 1000 x:=fun x hx=>⟨Nat.le_trans (hln x hx).2 (by decide),(hln x hx).1⟩
  simp! [id];dsimp! [k6];intro p7 hp7;have n7:=S6.ne hp7;have S7:=S6.new (o:=.lst (ls.map .str)) hp7;have k7:gup G6 p7 (.lst (ls.map .str)) q=some (.lst (ls.map .str)):=by rw [u07 (gne k6 hp7)];exact k6
  have kp7:gup G6 p7 (.lst (ls.map .str)) p7=some (.lst (ls.map .str)):=u01;have kra7:gup G6 p7 (.lst (ls.map .str)) ra=some (.lst (rs.map Row.d)):=by rw [u07 (gne kra6 hp7)];exact kra6
  have n7q:q ≠ p7:=gne k6 hp7;have n7r:ra ≠ p7:=gne kra6 hp7;generalize gup G6 p7 (.lst (ls.map .str))=G7 at S7 k7 kp7 kra7 ⊢;dsimp! [id];refine ⟨⟨by omega,by omega⟩,?_⟩;refine u66 (fun r σ G'=>∃ (i c:Nat) (xs:List Str) (v8 v9:Option D),r=rngD (i:Int) c /\ StAt G' st /\ G' q=some (.lst (ls.map .str)) /\ G' ra=some (.lst (rs.map Row.d)) /\ G' p7=some (.lst (xs.map .str)) /\ xs.length=x3+1 /\ (∀ x ∈ xs,okS 1000 x) /\ σ=[some (.ref a),some (.ref st),some (.int (1+(x1:Int))),some (.int (so:Int)),some (.int (sz:Int)),some (.tup [.int (sz:Int),.ref ra]),some (.ref q),some (.ref p7),v8,v9,none,none]) ⟨0,_,ls,none,none,rfl,S7,k7,kra7,kp7,hll,okl,rfl⟩ ?_ ?_
  ·rintro σ G8 ⟨i,c,xs,v8,v9,_,S8,k8,kra8,kp8,hxl,okx,rfl⟩
   refine ⟨trivial,?_⟩;dsimp! [k8];generalize hN:Go (dSeq _ _ _)=N;have c1:∀ (p9:Addr) (xs:List Str) (G9:Gp),Grow G8 G9->G9 p9=some (.lst (xs.map .str))->xs ≠ []->xs.length<=40->(∀ x ∈ xs,okS 1000 x)->N [some (.ref a),some (.ref st),some (.int (1+(x1:Int))),some (.int (so:Int)),some (.int (sz:Int)),some (.tup [.int (sz:Int),.ref ra]),some (.ref q),some (.ref p9),v8,v9,none,none] G9:=by
    intro p9 xs G9 g9 k9 hne hxl okx;rw [<- hN];clear hN;have kra9:=g9.kp _ _ kra8;have kq9:=g9.kp _ _ k8;obtain ⟨y0,yt,rfl⟩:∃ y0 yt,xs=y0::yt:=by
     cases xs with
     | nil=>exact absurd rfl hne
     | cons b c=>exact ⟨b,c,rfl⟩
    dsimp! [id];refine u18 (post:=fun d G'=>d=.int (fb (y0::yt)) /\ Grow G9 G') (fun R h=>⟨p9,y0,yt,rfl,k9,(fun x hx=>Nat.le_trans (okx x hx).1 (by decide)),by rw [List.length_cons] at hxl;omega,fun G' z=>h _ _ ⟨rfl,z⟩⟩) ?_;rintro d G10 ⟨rfl,g10⟩;have k10:=g10.kp _ _ k9;simp! [id];dsimp! [id];obtain ⟨f1,f2⟩:=u81 nl1 (B:=1000) (N:=40) (fun w hw=>(okx w hw).1) hxl (by decide);refine ⟨_,p9,y0::yt,rfl,rfl,by rw [k10];rfl,f1,f2,?_⟩;have hsp:Txt.split (jn "\n" (y0 :: yt)) "\n"=y0::yt:=u92 vw2 hne fun w hw=>(okx w hw).2
    have htl:(jn "\n" (y0::yt)).length<=100000:=by
     rw [u86 nl1];have:=ua1 (B:=1000) fun w hw=>(okx w hw).1
     omega
    have hspl:(Txt.split (jn "\n" (y0 :: yt)) "\n").length<=100:=by rw [hsp];omega
    rw [show jn (Str.ofString "\n") (y0 :: yt) = jn "\n" (y0 :: yt) from rfl];obtain ⟨tx, htx⟩ : ∃ tx, tx = jn "\n" (y0::yt):=⟨_, rfl⟩;rw [<- htx] at hsp htl hspl ⊢;clear htx f1 f2;rw [<- hsp];have g810:=g9.trans g10;generalize hN2:Go (dSeq _ _ _)=N2
    show N2 _ _
    rw [<- hN2];clear hN2;dsimp! [id];generalize hN3:Go (dSeq _ _ _)=N3;have c2:∀ G11, Grow G8 G11->N3 [some (.ref a), some (.ref st), some (.int (1+(x1:Int))), some (.int (so:Int)), some (.int (sz:Int)), some (.tup [.int (sz:Int), .ref ra]), some (.ref q), some (.ref p9), v8, v9, some (.int (fb (Txt.split tx "\n"))), some (.str tx)] G11:=by
     intro G11 g11;rw [<- hN3];clear hN3;dsimp! [id];generalize hN4:Go (dRet _ _)=N4;have c3:∀ G12, Grow G8 G12->N4 [some (.ref a), some (.ref st), some (.int (1+(x1:Int))), some (.int (so:Int)), some (.int (sz:Int)), some (.tup [.int (sz:Int), .ref ra]), some (.ref q), some (.ref p9), v8, v9, some (.int (fb (Txt.split tx "\n"))),some (.str tx)] G12:=by
      intro G12 g12;rw [<- hN4];clear hN4;have kq12:=g12.kp _ _ k8;have kra12:=g12.kp _ _ kra8;dsimp! [id];refine u18 (post:=fun d G'=>d=.bl true /\ Grow G12 G') (fun R h=>⟨Str.ofString "",0,rfl,by decide,by decide,vh2,fun G' z=>h _ _ ⟨rfl,z⟩⟩) ?_;rintro d G13 ⟨rfl,g13⟩;have kq13:=g13.kp _ _ kq12;simp! [id];obtain ⟨f1,f2⟩:=v86 hszB hsm (by omega);refine ⟨_,q,ls,rfl,rfl,by rw [kq13];rfl,by rw [hls];exact f1,by rw [hls];exact f2,?_⟩;rw [show jn (Str.ofString "\n") ls=cdS sz rs by rw [hls];rfl];have gc:=v63 hszB hsm;have hcl:(cdS sz rs).length<=100000:=by
       show (jn "\n" (szS sz::rs.map lnS)).length<=_
       rw [<- hls, u86 nl1];have:=ua1 (B:=1000) fun w hw=>(okl w hw).1
       omega
      have hcs:(Txt.split (cdS sz rs) "\n").length<=100:=by rw [uu3 hszB hsm, <- hls, hll];omega
      refine v90 T hcl hcs (by rw [v62 gc];decide) fun sz' rs' q' G14 y0 y1 y2 y3=>?_
      obtain ⟨e1, e2⟩:=vg9 y0 gc;subst e1;subst e2;refine vz3 (by rw [y2];rfl) (by rw [(g13.trans y3).kp _ _ kra12];rfl) ?_;exact post _
     by_cases hf:fb (Txt.split tx "\n") < 0
     ·rw [if_pos (decide_eq_true hf)]
      refine v90 T htl hspl hf fun sz' rs' q' G12 y0 y1 y2 y3=>?_
      have hrl:rs'.length<=4000:=by
       have:=congrArg List.length y0.2.2;rw [List.length_map,List.length_cons,List.length_map] at this;omega
      refine u18 (post:=fun d G'=>d=.str (cdS sz' rs') /\ Grow G12 G') (fun R h=>⟨q',rs',sz',rfl,y2,y0.2.1,y0.1,hrl,fun G' z=>h _ _ ⟨rfl,z⟩⟩) ?_;rintro d G13 ⟨rfl,g13⟩;have d1:(cdS sz' rs'=tx)=True:=eq_true (v61 y0);simp! [d1];exact c3 G13 ((g11.trans y3).trans g13)
     ·rw [if_neg (by rw [decide_eq_false hf];decide)]
      exact c3 G11 g11
    by_cases hf:0<=fb (Txt.split tx "\n")
    ·obtain ⟨j, hj⟩:∃ j:Nat, fb (Txt.split tx "\n")=(j:Int):=⟨_,(Int.toNat_of_nonneg hf).symm⟩
     rw [if_pos (decide_eq_true hf)];refine u18 (post:=fun d G'=>d=.bl true /\ Grow G10 G') (fun R h=>⟨tx,j,by rw [show Txt.split tx (Str.ofString "\n") = Txt.split tx "\n" from rfl,hj],htl,hspl,hj,fun G' z=>h _ _ ⟨rfl,z⟩⟩) ?_;rintro d G11 ⟨rfl,g11⟩;simp! [id];exact c2 G11 (g810.trans g11)
    ·rw [if_neg (by rw [decide_eq_false hf];decide)]
     exact c2 G10 g810
   by_cases hso:so < 4
   ·rw [if_pos (decide_eq_true (by omega))]
    intro p1 hp1;refine ⟨by decide,fun p2 hp2=>?_⟩;rw [u68] at hp2 ⊢;have s1:(∀ x ∈ cutD ls (some 1) none,okS 1000 x) /\ (cutD ls (some 1) none).length<=18:=⟨fun x hx=>okl x (uc1 hx),Nat.le_trans (uc2 ls _ _) (by omega)⟩;have s2:(∀ x ∈ cutD ls (some (-1)) none,okS 1000 x) /\ (cutD ls (some (-1)) none).length<=18:=⟨fun x hx=>okl x (uc1 hx),Nat.le_trans (uc2 ls _ _) (by omega)⟩;generalize cutD ls (some 1) none=l1 at hp2 s1 ⊢;have oE:∀ x ∈ [Str.ofString ""],okS 1000 x:=ur7 (by decide);have oA:∀ {u v:List Str},(∀ x ∈ u,okS 1000 x)->(∀ x ∈ v,okS 1000 x)->∀ x ∈ u++v,okS 1000 x:=fun h1 h2 x hx=>(List.mem_append.mp hx).elim (h1 x) (h2 x)
    have lne:ls ≠ []:=fun z=>by rw [z] at hll;cases hll
    refine u40 (xs:=l1.map D.str) (ys:=[D.str ""]) (by rw [u07 (gne u01 hp2)];exact u01) u01 (by rw [List.length_map];show _+1<=_;omega) fun e1 he1=>?_
    have g9:Grow G8 (gup (gup (gup G8 p1 (.lst (l1.map D.str))) p2 (.lst [D.str ""])) e1 (.lst (l1.map D.str++[D.str ""]))):=((Grow.refl.new hp1).new hp2).new he1;have ke1:gup (gup (gup G8 p1 (.lst (l1.map D.str))) p2 (.lst [D.str ""])) e1 (.lst (l1.map D.str++[D.str ""])) e1=some (.lst ((l1++[Str.ofString ""]).map D.str)):=by rw [u01,List.map_append];rfl
    generalize gup (gup (gup G8 p1 (.lst (l1.map D.str))) p2 (.lst [D.str ""])) e1 _=G9 at g9 ke1 ⊢;refine ⟨by decide,fun p3 hp3=>?_⟩;have kq9:=g9.kp _ _ k8;refine u40 (xs:=[D.str ""]) (ys:=ls.map D.str) u01 (by rw [u07 (gne kq9 hp3)];exact kq9) (by rw [List.length_map];show 1+_<=_;omega) fun e2 he2=>?_
    have g10:Grow G9 (gup (gup G9 p3 (.lst [D.str ""])) e2 (.lst ([D.str ""]++ls.map D.str))):=(Grow.refl.new hp3).new he2;have ke2:gup (gup G9 p3 (.lst [D.str ""])) e2 (.lst ([D.str ""]++ls.map D.str)) e2=some (.lst (([Str.ofString ""]++ls).map D.str)):=by rw [u01,List.map_append];rfl
    generalize gup (gup G9 p3 (.lst [D.str ""])) e2 _=G10 at g10 ke2 ⊢;refine ⟨by decide,fun p4 hp4=>?_⟩;have kq10:=g10.kp _ _ kq9;refine u40 (xs:=ls.map D.str) (ys:=[D.str ""]) (by rw [u07 (gne kq10 hp4)];exact kq10) u01 (by rw [List.length_map];show _+1<=_;omega) fun e3 he3=>?_
    have g11:Grow G10 (gup (gup G10 p4 (.lst [D.str ""])) e3 (.lst (ls.map D.str++[D.str ""]))):=(Grow.refl.new hp4).new he3;have ke3:gup (gup G10 p4 (.lst [D.str ""])) e3 (.lst (ls.map D.str++[D.str ""])) e3=some (.lst ((ls++[Str.ofString ""]).map D.str)):=by rw [u01,List.map_append];rfl
    generalize gup (gup G10 p4 (.lst [D.str ""])) e3 _=G11 at g11 ke3 ⊢;have kq11:=g11.kp _ _ kq10;simp! [kq11];intro p5 hp5;rw [u68];generalize cutD ls (some (-1)) none=l2 at s2 ⊢;refine u40 (xs:=ls.map D.str) (ys:=l2.map D.str) (by rw [u07 (gne kq11 hp5)];exact kq11) u01 (by rw [List.length_map,List.length_map];omega) fun e4 he4=>?_
    have g12:Grow G11 (gup (gup G11 p5 (.lst (l2.map D.str))) e4 (.lst (ls.map D.str++l2.map D.str))):=(Grow.refl.new hp5).new he4;have ke4:gup (gup G11 p5 (.lst (l2.map D.str))) e4 (.lst (ls.map D.str++l2.map D.str)) e4=some (.lst ((ls++l2).map D.str)):=by rw [u01,List.map_append]
    generalize gup (gup G11 p5 (.lst (l2.map D.str))) e4 _=G12 at g12 ke4 ⊢;refine ⟨by decide,fun p6 hp6=>?_⟩;have g13:Grow G12 (gup G12 p6 (.lst [.ref e1,.ref e2,.ref e3,.ref e4])):=Grow.refl.new hp6;have gt9:=((g10.trans g11).trans g12).trans g13;have gt10:=(g11.trans g12).trans g13;have gt11:=g12.trans g13;have hcase:so=0 \/ so=1 \/ so=2 \/ so=3:=by omega
    rcases hcase with e | e | e | e <;> subst e
    ·exact c1 e1 (l1++[Str.ofString ""]) _ (g9.trans gt9) (gt9.kp _ _ ke1) (by simp) (by rw [List.length_append];show _+1<=_;omega) (oA s1.1 oE)
    ·exact c1 e2 ([Str.ofString ""]++ls) _ (g9.trans gt9) (gt10.kp _ _ ke2) (by simp) (by rw [List.length_append];show 1+_<=_;omega) (oA oE okl)
    ·exact c1 e3 (ls++[Str.ofString ""]) _ (g9.trans gt9) (gt11.kp _ _ ke3) (by simp) (by rw [List.length_append];show _+1<=_;omega) (oA okl oE)
    ·exact c1 e4 (ls++l2) _ (g9.trans gt9) (g13.kp _ _ ke4) (by simp [lne]) (by rw [List.length_append];omega) (oA okl s2.1)
   ·rw [if_neg (by rw [decide_eq_false (by omega)];decide)]
    exact c1 p7 xs G8 Grow.refl kp8 (fun z=>by rw [z] at hxl;cases hxl) (by omega) okx
  ·rintro z r σ G8 ⟨i,c,xs,v8,v9,e2,S8,k8,kra8,kp8,hxl,okx,rfl⟩ ih
   cases c with
   | zero=>cases e2
   | succ c =>
    rw [u49] at e2;cases e2;refine ⟨trivial,?_⟩;have ei:(i:Int)+1=((i+1:Nat):Int):=by omega
    rw [ei] at ih;simp! [k8,List.length_map,hll];refine u10 S8 (by omega) (by omega) fun x5 G9 a9 f1 f2=>?_
    obtain ⟨x5,rfl⟩:=uc6 f1;have k9:=a9.kp _ _ nq k8;have hx5:x5 < (wdsC sz rs).length:=by rw [<- ewl,List.length_map] at hll;omega
    have ey:atI (ls.map D.str) (x5:Int)=some (.str (jn " " (wdsC sz rs)[x5])):=by
     refine u62 ?_;rw [<- ewl,List.map_map,List.getElem?_map,List.getElem?_eq_getElem hx5];rfl
    have hk:=okw (wdsC sz rs)[x5] (List.getElem_mem _);simp! [id];dsimp! [k9,ey];refine u18 (post:=fun d G'=>∃ x:Str,d=.str x /\ Adv st G9 G' /\ okS 1000 x) (fun R h=>⟨st,(wdsC sz rs)[x5],rfl,a9.at_,hk.1,hk.2.1,hk.2.2,fun x G' y1 y2 y3=>h _ _ ⟨x,rfl,y1,y2,y3⟩⟩) ?_;rintro d G10 ⟨x,rfl,a10,hx⟩;have k10:=a10.kp _ _ n7 (a9.kp _ _ n7 kp8);have ix:ixN (xs.map D.str).length (x5:Int)=some x5:=us4 (by rw [List.length_map];omega);simp! [k10,ix];rw [ei];refine ih _ _ ⟨i+1,c,xs.set x5 x,_,_,rfl,a10.at_.set k10 n7,by rw [u07 n7q];exact a10.kp _ _ nq k9,by rw [u07 n7r];exact a10.kp _ _ nra (a9.kp _ _ nra kra8),by rw [u01,List.map_set],by rw [List.length_set];exact hxl,fun y hy=>?_,rfl⟩
    rcases List.mem_or_eq_of_mem_set hy with z | z
    ·exact okx y z
    ·rw [z];exact hx
end
end Law
namespace Law
open PySem PySem.Spec PyProof.Rows L2 L3
def noL:W.Frag->Bool
 | []=>true
 | p::r=>(match p.2.data with | .seq _ _=>(match p.2.cls with | .type s=>!(s == "list") | _=>true) | _=>true) && noL r
theorem vm2:∀ {K:W.Frag} {a:Addr} {o:Obj} {its:Array Value} {n:Nat},noL K=true->K.lookup a=some o->o.cls=.type "list" -> o.data=.seq its n->False
 | [],a,o,its,n,_,e,_,_=>by cases e
 | p::r,a,o,its,n,h,e,h1,h2=>by
  unfold noL at h;rw [Bool.and_eq_true] at h;rw [List.lookup_cons] at e;split at e
  ·cases e
   have q:=h.1;rw [h2] at q;simp only [h1] at q;exact absurd q (by decide)
  ·exact vm2 h.2 e h1 h2
theorem arZ {P:List Value->Prop} (h:P []):∀ us:List Value,us.length=0->P us:=fun us e=>by rw [List.eq_nil_of_length_eq_zero e];exact h
theorem arS {n:Nat} {P:List Value->Prop} (h:∀ (a:Value) (us:List Value),us.length=n->P (a::us)):∀ us:List Value,us.length=n+1->P us:=fun us e=>by
 cases us with
 | nil=>cases e
 | cons a us=>exact h a us (Nat.succ.inj e)
theorem ar1 {P:List Value->Prop} (h:∀ a0,P [a0]):∀ us:List Value,us.length=1->P us:=arS fun a0=>arZ (h a0)
theorem ar2 {P:List Value->Prop} (h:∀ a0 a1,P [a0,a1]):∀ us:List Value,us.length=2->P us:=arS fun a0=>arS fun a1=>arZ (h a0 a1)
theorem ar3 {P:List Value->Prop} (h:∀ a0 a1 a2,P [a0,a1,a2]):∀ us:List Value,us.length=3->P us:=arS fun a0=>arS fun a1=>arS fun a2=>arZ (h a0 a1 a2)
theorem ar4 {P:List Value->Prop} (h:∀ a0 a1 a2 a3,P [a0,a1,a2,a3]):∀ us:List Value,us.length=4->P us:=arS fun a0=>arS fun a1=>arS fun a2=>arS fun a3=>arZ (h a0 a1 a2 a3)
theorem ar5 {P:List Value->Prop} (h:∀ a0 a1 a2 a3 a4,P [a0,a1,a2,a3,a4]):∀ us:List Value,us.length=5->P us:=arS fun a0=>arS fun a1=>arS fun a2=>arS fun a3=>arS fun a4=>arZ (h a0 a1 a2 a3 a4)
def v65 {K:W.Frag} {x qual:Str} {st:Stmt} {ps:List Str} {f:Addr} {oc:Value} {od an:Option Addr} {osl:Array (Option Value)} {kV doc pm cdv ct:Value} (l:K.lookup f=some ⟨oc,od,.func (W.fnOf x qual (u36 st) (u31 st) (u05 st) .none kV doc pm an cdv ct),osl⟩)
  (c:W.codeIn K cdv qual=true) (k:W.keepIn K (.ref f)=true) (hb:∀ us:List Value,us.length=ps.length->bindArgs (W.fnOf x qual (u36 st) (u31 st) (u05 st) .none kV doc pm an cdv ct) ⟨us,[]⟩=pure (ps.zip us)):FnAt K x qual st ps :=
 ⟨f,_,⟨oc,od,.none,kV,doc,pm,an,cdv,ct,osl,rfl,l,c⟩,k,.all hb⟩
def DF (K:W.Frag) (x:Str) (st:Stmt):Prop:=∃ (p:Addr) (oc:Value) (od an:Option Addr) (sl:Array (Option Value)) (kV dc pm cd ct:Value),W.nsIn K mainGlobals x=some (some (.ref p)) /\ K.lookup p=some ⟨oc,od,.func (W.fnOf x x (u36 st) (u31 st) (u05 st) .none kV dc pm an cd ct),sl⟩ /\ W.codeIn K cd x=true /\ W.keepIn K (.ref p)=true
def DM (K:W.Frag) (C:Addr) (x q:Str) (st:Stmt):Prop:=∃ (p:Addr) (oc:Value) (od an:Option Addr) (sl:Array (Option Value)) (kV dc pm cd ct:Value),W.findIn K (.ref C) x=some (some (.ref p)) /\ W.isFn K (.ref p)=true /\ K.lookup p=some ⟨oc,od,.func (W.fnOf x q (u36 st) (u31 st) (u05 st) .none kV dc pm an cd ct),sl⟩ /\ W.codeIn K cd q=true /\ W.keepIn K (.ref p)=true
section
variable {K:W.Frag} {h:Heap} {mg:Str->Option Value} {C:Addr} {x q:Str} {st:Stmt} {ps:List Str}
theorem df_m {p:Addr} {oc:Value} {od an:Option Addr} {sl:Array (Option Value)} {kV dc pm cd ct:Value} (a:W.nsIn K mainGlobals x=some (some (.ref p))) (l:K.lookup p=some ⟨oc,od,.func (W.fnOf x x (u36 st) (u31 st) (u05 st) .none kV dc pm an cd ct),sl⟩) (c:W.codeIn K cd x=true) (k:W.keepIn K (.ref p)=true):DF K x st:=⟨p,oc,od,an,sl,kV,dc,pm,cd,ct,a,l,c,k⟩
theorem dm_m {p:Addr} {oc:Value} {od an:Option Addr} {sl:Array (Option Value)} {kV dc pm cd ct:Value} (a:W.findIn K (.ref C) x=some (some (.ref p))) (i:W.isFn K (.ref p)=true) (l:K.lookup p=some ⟨oc,od,.func (W.fnOf x q (u36 st) (u31 st) (u05 st) .none kV dc pm an cd ct),sl⟩) (c:W.codeIn K cd q=true) (k:W.keepIn K (.ref p)=true):DM K C x q st:=⟨p,oc,od,an,sl,kV,dc,pm,cd,ct,a,i,l,c,k⟩
theorem df_f {N:List Str} (_:FnScope N ps (u05 st)) (X:K.In h) (G:h.Ns mainGlobals mg) (hb:∀ kV dc pm an cd ct,∀ us:List Value,us.length=ps.length->bindArgs (W.fnOf x x (u36 st) (u31 st) (u05 st) .none kV dc pm an cd ct) ⟨us,[]⟩=pure (ps.zip us)) (d:DF K x st) :
  ∃ f:FnAt K x x st ps,mg x=some (.ref f.a) /\ ∀ (s:Shared) (us:List Value),us.length=ps.length->BindsTo s f.fd ⟨us,[]⟩ (ps.zip us):=by
 obtain ⟨p,oc,od,an,sl,kV,dc,pm,cd,ct,a,l,c,k⟩:=d;exact ⟨v65 l c k (hb kV dc pm an cd ct),W.mg_of X G a,fun s us e=>.of_eq (hb kV dc pm an cd ct us e)⟩
theorem dm_f {N:List Str} (_:FnScope N ps (u05 st)) (hb:∀ kV dc pm an cd ct,∀ us:List Value,us.length=ps.length->bindArgs (W.fnOf x q (u36 st) (u31 st) (u05 st) .none kV dc pm an cd ct) ⟨us,[]⟩=pure (ps.zip us)) (d:DM K C x q st) :
  ∃ f:FnAt K x q st ps,W.findIn K (.ref C) x=some (some (.ref f.a)) /\ W.isFn K (.ref f.a)=true:=by
 obtain ⟨p,oc,od,an,sl,kV,dc,pm,cd,ct,a,i,l,c,k⟩:=d;exact ⟨v65 l c k (hb kV dc pm an cd ct),a,i⟩
end
def vk3:Sp3:=fun ds G R=>∃ (a:Addr) (ns:List Int),ds=[.ref a] /\ G a=some (.fro (ns.map .int)) /\ ns.length<=63 /\ ∀ G',R (.bl true) G'
theorem ur2 {K:W.Frag} {H:Hp}:∀ ns:List Int,RelDs K H (ns.map D.int) (ns.map V.int)
 | []=>.nil
 | _::ns=>.cons RelD.intI (ur2 ns)
theorem wd1 {K:W.Frag} {H:Hp} {a:Addr} {ns:List Int} (hL:noL K=true) (hl:ns.length<=63) (hO:Only H) (hS:SqL K H a (ns.map V.int)):ue8 K vk3 [.ref a] H (fun v _=>v=.bl true) fun _ _ _=>False:=by
 have ha:∃ o,H a=some (.frz o (.lst (ns.map V.int))):=by
  rcases hS with (h | h) | ⟨o,its,n,h1,h2,_,h3,_⟩
  ·rcases hO a with z | ⟨o,xs,z⟩
   ·rw [h] at z;cases z
   ·rw [h] at z;cases z
  ·exact h
  ·exact (vm2 hL h1 h2 h3).elim
 obtain ⟨o,ha⟩:=ha;refine ⟨[.ref a],gup (fun _=>none) a (.fro (ns.map .int)),fun d _=>d=.bl true,.cons ?_ .nil,fun b u e=>?_,⟨a,ns,rfl,u01,hl,fun _=>rfl⟩,fun d G' v H' r _ _ e=>?_⟩
 ·rw [RelD]
 ·by_cases hb:b=a
  ·subst hb
   rw [u01] at e;cases e;exact ⟨o,_,ha,ur2 ns⟩
  ·rw [u07 hb] at e;cases e
 ·subst e
  rw [RelD] at r;exact r
end Law
namespace Law
open PySem PySem.Spec PyProof.Rows L2 L3 Rw
theorem txt_mk {K:W.Frag} {h:Heap} {mg:Str->Option Value} (X:K.In h) (G:h.Ns mainGlobals mg) {C_LitterError:Addr} {C_BadText:Addr} {C_TwiceNamed:Addr} {C_TooWide:Addr} {C_NoRow:Addr} {C_NoBox:Addr} {C_BadPlan:Addr} {C_BadCuts:Addr} {C_BadCode:Addr} 
  {t_NUMBERS:Tok}
  {t_BITS:Tok}
  {t_FIGURES:Tok}
  {t_GREATEST:Tok}
  (aC_LitterError:W.nsIn K mainGlobals "LitterError" = some (some (.ref C_LitterError)))
  (aC_BadText:W.nsIn K mainGlobals "BadText" = some (some (.ref C_BadText)))
  (aC_TwiceNamed:W.nsIn K mainGlobals "TwiceNamed" = some (some (.ref C_TwiceNamed)))
  (aC_TooWide:W.nsIn K mainGlobals "TooWide" = some (some (.ref C_TooWide)))
  (aC_NoRow:W.nsIn K mainGlobals "NoRow" = some (some (.ref C_NoRow)))
  (aC_NoBox:W.nsIn K mainGlobals "NoBox" = some (some (.ref C_NoBox)))
  (aC_BadPlan:W.nsIn K mainGlobals "BadPlan" = some (some (.ref C_BadPlan)))
  (aC_BadCuts:W.nsIn K mainGlobals "BadCuts" = some (some (.ref C_BadCuts)))
  (aC_BadCode:W.nsIn K mainGlobals "BadCode" = some (some (.ref C_BadCode)))
  (pm_0:DM K C_BadText "__init__" "BadText.__init__" u60)
  (pm_18:DF K "number_in" vc1)
  (pm_29:DF K "show_code" vb8)
  (pm_30:DF K "words_of" vb7)
  (pm_19:DF K "operand_word" vr8)
  (pm_1:DF K "box_word" vs8)
  (pm_22:DF K "read_code" vr5)
  (pm_27:DF K "read_size" vr1)
  (pm_26:DF K "read_row" vr2)
  (pm_24:DF K "read_numbers" vc0)
  (pm_21:DF K "read_change" vr6)
  (pm_25:DF K "read_operand" vr3)
  (pm_20:DF K "read_box" vr7)
  (pm_28:DF K "read_turn" vb9)
  (pm_23:DF K "read_cond" vr4)
  (pm_7:DF K "_law_draw" vs4)
  (pm_11:DF K "_law_number" vs3)
  (pm_13:DF K "_law_other" vs1)
  (pm_14:DF K "_law_plain_row" vs0)
  (pm_4:DF K "_law_bit" vs6)
  (pm_6:DF K "_law_code" vc6)
  (pm_16:DF K "_law_row_text" vc2)
  (pm_10:DF K "_law_lines" vc4)
  (pm_12:DF K "_law_number_word" vc3)
  (pm_5:DF K "_law_box_word" vs5)
  (pm_8:DF K "_law_line_good" v00)
  (pm_3:DF K "_law_bad_line" vs7)
  (pm_17:DF K "_law_word_spoilt" uz9)
  (pm_9:DF K "_law_line_spoilt" vc5)
  (pm_15:DF K "_law_refused" vr9)
  (pm_2:DF K "law" vr0)
  (xc_LitterError:xcIn K C_LitterError VM=true)
  (xs_LitterError:W.specialIn K (.ref C_LitterError) "__getattribute__" = some (some (.builtin "type.__getattribute__")))
  (xr_LitterError:W.readsIn K C_LitterError (.type "type")=true)
  (xf_LitterError:W.findCls K (.ref C_LitterError) (.type "type") "__init__" = some (.val (.builtin "ValueError.__init__")))
  (xc_BadText:xcIn K C_BadText (.ref C_LitterError::VM)=true)
  (xg_BadText:W.findIn K (.ref C_BadText) "__getattribute__" = some (some (.builtin "BaseException.__getattribute__")))
  (xt_BadText:W.findIn K (.ref C_BadText) "__getattr__" = some none)
  (xk_BadText:W.findIn K (.ref C_BadText) "__class__" = some (some (.builtin "object.__class__")))
  (zn_BadText:C_BadText ≠ C_LitterError)
  (xc_TwiceNamed:xcIn K C_TwiceNamed (.ref C_LitterError::VM)=true)
  (xg_TwiceNamed:W.findIn K (.ref C_TwiceNamed) "__getattribute__" = some (some (.builtin "BaseException.__getattribute__")))
  (xt_TwiceNamed:W.findIn K (.ref C_TwiceNamed) "__getattr__" = some none)
  (xk_TwiceNamed:W.findIn K (.ref C_TwiceNamed) "__class__" = some (some (.builtin "object.__class__")))
  (zn_TwiceNamed:C_TwiceNamed ≠ C_LitterError)
  (xc_TooWide:xcIn K C_TooWide (.ref C_LitterError::VM)=true)
  (xg_TooWide:W.findIn K (.ref C_TooWide) "__getattribute__" = some (some (.builtin "BaseException.__getattribute__")))
  (xt_TooWide:W.findIn K (.ref C_TooWide) "__getattr__" = some none)
  (xk_TooWide:W.findIn K (.ref C_TooWide) "__class__" = some (some (.builtin "object.__class__")))
  (zn_TooWide:C_TooWide ≠ C_LitterError)
  (xc_NoRow:xcIn K C_NoRow (.ref C_LitterError::VM)=true)
  (xg_NoRow:W.findIn K (.ref C_NoRow) "__getattribute__" = some (some (.builtin "BaseException.__getattribute__")))
  (xt_NoRow:W.findIn K (.ref C_NoRow) "__getattr__" = some none)
  (xk_NoRow:W.findIn K (.ref C_NoRow) "__class__" = some (some (.builtin "object.__class__")))
  (zn_NoRow:C_NoRow ≠ C_LitterError)
  (xc_NoBox:xcIn K C_NoBox (.ref C_LitterError::VM)=true)
  (xg_NoBox:W.findIn K (.ref C_NoBox) "__getattribute__" = some (some (.builtin "BaseException.__getattribute__")))
  (xt_NoBox:W.findIn K (.ref C_NoBox) "__getattr__" = some none)
  (xk_NoBox:W.findIn K (.ref C_NoBox) "__class__" = some (some (.builtin "object.__class__")))
  (zn_NoBox:C_NoBox ≠ C_LitterError)
  (xc_BadPlan:xcIn K C_BadPlan (.ref C_LitterError::VM)=true)
  (xg_BadPlan:W.findIn K (.ref C_BadPlan) "__getattribute__" = some (some (.builtin "BaseException.__getattribute__")))
  (xt_BadPlan:W.findIn K (.ref C_BadPlan) "__getattr__" = some none)
  (xk_BadPlan:W.findIn K (.ref C_BadPlan) "__class__" = some (some (.builtin "object.__class__")))
  (zn_BadPlan:C_BadPlan ≠ C_LitterError)
  (xc_BadCuts:xcIn K C_BadCuts (.ref C_LitterError::VM)=true)
  (xg_BadCuts:W.findIn K (.ref C_BadCuts) "__getattribute__" = some (some (.builtin "BaseException.__getattribute__")))
  (xt_BadCuts:W.findIn K (.ref C_BadCuts) "__getattr__" = some none)
  (xk_BadCuts:W.findIn K (.ref C_BadCuts) "__class__" = some (some (.builtin "object.__class__")))
  (zn_BadCuts:C_BadCuts ≠ C_LitterError)
  (xc_BadCode:xcIn K C_BadCode (.ref C_LitterError::VM)=true)
  (xg_BadCode:W.findIn K (.ref C_BadCode) "__getattribute__" = some (some (.builtin "BaseException.__getattribute__")))
  (xt_BadCode:W.findIn K (.ref C_BadCode) "__getattr__" = some none)
  (xk_BadCode:W.findIn K (.ref C_BadCode) "__class__" = some (some (.builtin "object.__class__")))
  (zn_BadCode:C_BadCode ≠ C_LitterError)
  (kc_BadText:W.keepIn K (.ref C_BadText)=true)
  (xa_BadText:W.findIn K (.ref C_BadText) "__setattr__" = some (some (.builtin "object.__setattr__")))
  (xn_BadText:W.findIn K (.ref C_BadText) "at" = some none)
  (zn_BadText_TwiceNamed:C_TwiceNamed ≠ C_BadText)
  (zn_BadText_TooWide:C_TooWide ≠ C_BadText)
  (zn_BadText_NoRow:C_NoRow ≠ C_BadText)
  (zn_BadText_NoBox:C_NoBox ≠ C_BadText)
  (zn_BadText_BadPlan:C_BadPlan ≠ C_BadText)
  (zn_BadText_BadCuts:C_BadCuts ≠ C_BadText)
  (zn_BadText_BadCode:C_BadCode ≠ C_BadText)
  (v_NUMBERS:W.nsIn K mainGlobals "NUMBERS" = some (some (.int 4294967296 t_NUMBERS)))
  (v_BITS:W.nsIn K mainGlobals "BITS" = some (some (.int 32 t_BITS)))
  (v_FIGURES:W.nsIn K mainGlobals "FIGURES" = some (some (.str "0123456789" t_FIGURES)))
  (v_GREATEST:W.nsIn K mainGlobals "GREATEST" = some (some (.int 9999999999 t_GREATEST)))
  (b_ValueError:W.nsIn K mainGlobals "ValueError" = some none)
  (b_abs:W.nsIn K mainGlobals "abs" = some none)
  (b_all:W.nsIn K mainGlobals "all" = some none)
  (b_bool:W.nsIn K mainGlobals "bool" = some none)
  (b_divmod:W.nsIn K mainGlobals "divmod" = some none)
  (b_enumerate:W.nsIn K mainGlobals "enumerate" = some none)
  (b_int:W.nsIn K mainGlobals "int" = some none)
  (b_isinstance:W.nsIn K mainGlobals "isinstance" = some none)
  (b_len:W.nsIn K mainGlobals "len" = some none)
  (b_list:W.nsIn K mainGlobals "list" = some none)
  (b_range:W.nsIn K mainGlobals "range" = some none)
  (b_str:W.nsIn K mainGlobals "str" = some none)
  (b_tuple:W.nsIn K mainGlobals "tuple" = some none)
  (b_zip:W.nsIn K mainGlobals "zip" = some none) :
  ∃ T:Txt K mg,∀ (s:Shared) (v:Value),BindsTo s T.f_law.fd ⟨[v],[]⟩ [("_law_script",v)]:=by
 obtain ⟨f_BadText_init,a_0,i_0⟩:=dm_f u73 (fun _ _ _ _ _ _=>ar2 fun _ _=>rfl) pm_0;obtain ⟨f_jar,g_number_in,_⟩:=df_f sc_jar X G (fun _ _ _ _ _ _=>ar2 fun _ _=>rfl) pm_18;obtain ⟨f_jbc,g_show_code,_⟩:=df_f sc_jbc X G (fun _ _ _ _ _ _=>ar1 fun _=>rfl) pm_29;obtain ⟨f_jbd,g_words_of,_⟩:=df_f sc_jbd X G (fun _ _ _ _ _ _=>ar1 fun _=>rfl) pm_30;obtain ⟨f_jas,g_operand_word,_⟩:=df_f vk9 X G (fun _ _ _ _ _ _=>ar1 fun _=>rfl) pm_19;obtain ⟨f_jaa,g_box_word,_⟩:=df_f vl4 X G (fun _ _ _ _ _ _=>ar1 fun _=>rfl) pm_1;obtain ⟨f_jav,g_read_code,_⟩:=df_f sc_jav X G (fun _ _ _ _ _ _=>ar1 fun _=>rfl) pm_22;obtain ⟨f_jba,g_read_size,_⟩:=df_f vk6 X G (fun _ _ _ _ _ _=>ar1 fun _=>rfl) pm_27;obtain ⟨f_jaz,g_read_row,_⟩:=df_f vk7 X G (fun _ _ _ _ _ _=>ar1 fun _=>rfl) pm_26;obtain ⟨f_jax,g_read_numbers,_⟩:=df_f sc_jax X G (fun _ _ _ _ _ _=>ar2 fun _ _=>rfl) pm_24;obtain ⟨f_jau,g_read_change,_⟩:=df_f sc_jau X G (fun _ _ _ _ _ _=>ar1 fun _=>rfl) pm_21;obtain ⟨f_jay,g_read_operand,_⟩:=df_f sc_jay X G (fun _ _ _ _ _ _=>ar1 fun _=>rfl) pm_25;obtain ⟨f_jat,g_read_box,_⟩:=df_f vk8 X G (fun _ _ _ _ _ _=>ar1 fun _=>rfl) pm_20;obtain ⟨f_jbb,g_read_turn,_⟩:=df_f sc_jbb X G (fun _ _ _ _ _ _=>ar1 fun _=>rfl) pm_28;obtain ⟨f_jaw,g_read_cond,_⟩:=df_f sc_jaw X G (fun _ _ _ _ _ _=>ar2 fun _ _=>rfl) pm_23;obtain ⟨f_jag,g_law_draw,_⟩:=df_f sc_jag X G (fun _ _ _ _ _ _=>ar2 fun _ _=>rfl) pm_7;obtain ⟨f_jak,g_law_number,_⟩:=df_f sc_jak X G (fun _ _ _ _ _ _=>ar1 fun _=>rfl) pm_11;obtain ⟨f_jam,g_law_other,_⟩:=df_f sc_jam X G (fun _ _ _ _ _ _=>ar3 fun _ _ _=>rfl) pm_13;obtain ⟨f_jan,g_law_plain_row,_⟩:=df_f sc_jan X G (fun _ _ _ _ _ _=>ar2 fun _ _=>rfl) pm_14;obtain ⟨f_jac,g_law_bit,_⟩:=df_f vl3 X G (fun _ _ _ _ _ _=>ar1 fun _=>rfl) pm_4;obtain ⟨f_jaf,g_law_code,_⟩:=df_f sc_jaf X G (fun _ _ _ _ _ _=>ar4 fun _ _ _ _=>rfl) pm_6;obtain ⟨f_jap,g_law_row_text,_⟩:=df_f sc_jap X G (fun _ _ _ _ _ _=>ar1 fun _=>rfl) pm_16;obtain ⟨f_jaj,g_law_lines,_⟩:=df_f vl1 X G (fun _ _ _ _ _ _=>ar1 fun _=>rfl) pm_10;obtain ⟨f_jal,g_law_number_word,_⟩:=df_f vl0 X G (fun _ _ _ _ _ _=>ar2 fun _ _=>rfl) pm_12;obtain ⟨f_jad,g_law_box_word,_⟩:=df_f vl2 X G (fun _ _ _ _ _ _=>ar1 fun _=>rfl) pm_5;obtain ⟨f_jah,g_law_line_good,_⟩:=df_f sc_jah X G (fun _ _ _ _ _ _=>ar1 fun _=>rfl) pm_8;obtain ⟨f_jab,g_law_bad_line,_⟩:=df_f sc_jab X G (fun _ _ _ _ _ _=>ar1 fun _=>rfl) pm_3;obtain ⟨f_jaq,g_law_word_spoilt,_⟩:=df_f sc_jaq X G (fun _ _ _ _ _ _=>ar2 fun _ _=>rfl) pm_17;obtain ⟨f_jai,g_law_line_spoilt,_⟩:=df_f sc_jai X G (fun _ _ _ _ _ _=>ar2 fun _ _=>rfl) pm_9;obtain ⟨f_jao,g_law_refused,_⟩:=df_f sc_jao X G (fun _ _ _ _ _ _=>ar2 fun _ _=>rfl) pm_15;obtain ⟨f_law,g_law,b_law⟩:=df_f sc_law X G (fun _ _ _ _ _ _=>ar1 fun _=>rfl) pm_2;exact ⟨⟨f_BadText_init,f_jar,g_number_in,f_jbc,g_show_code,f_jbd,g_words_of,f_jas,g_operand_word,f_jaa,g_box_word,f_jav,g_read_code,f_jba,g_read_size,f_jaz,g_read_row,f_jax,g_read_numbers,f_jau,g_read_change,f_jay,g_read_operand,f_jat,g_read_box,f_jbb,g_read_turn,f_jaw,g_read_cond,f_jag,g_law_draw,f_jak,g_law_number,f_jam,g_law_other,f_jan,g_law_plain_row,f_jac,g_law_bit,f_jaf,g_law_code,f_jap,g_law_row_text,f_jaj,g_law_lines,f_jal,g_law_number_word,f_jad,g_law_box_word,f_jah,g_law_line_good,f_jab,g_law_bad_line,f_jaq,g_law_word_spoilt,f_jai,g_law_line_spoilt,f_jao,g_law_refused,f_law,g_law,⟨C_LitterError,W.mg_of X G aC_LitterError,xc_LitterError,⟨xs_LitterError,xr_LitterError,xf_LitterError⟩⟩,⟨C_BadText,W.mg_of X G aC_BadText,xc_BadText,⟨xg_BadText,xt_BadText,xk_BadText⟩,zn_BadText⟩,⟨C_TwiceNamed,W.mg_of X G aC_TwiceNamed,xc_TwiceNamed,⟨xg_TwiceNamed,xt_TwiceNamed,xk_TwiceNamed⟩,zn_TwiceNamed⟩,⟨C_TooWide,W.mg_of X G aC_TooWide,xc_TooWide,⟨xg_TooWide,xt_TooWide,xk_TooWide⟩,zn_TooWide⟩,⟨C_NoRow,W.mg_of X G aC_NoRow,xc_NoRow,⟨xg_NoRow,xt_NoRow,xk_NoRow⟩,zn_NoRow⟩,⟨C_NoBox,W.mg_of X G aC_NoBox,xc_NoBox,⟨xg_NoBox,xt_NoBox,xk_NoBox⟩,zn_NoBox⟩,⟨C_BadPlan,W.mg_of X G aC_BadPlan,xc_BadPlan,⟨xg_BadPlan,xt_BadPlan,xk_BadPlan⟩,zn_BadPlan⟩,⟨C_BadCuts,W.mg_of X G aC_BadCuts,xc_BadCuts,⟨xg_BadCuts,xt_BadCuts,xk_BadCuts⟩,zn_BadCuts⟩,⟨C_BadCode,W.mg_of X G aC_BadCode,xc_BadCode,⟨xg_BadCode,xt_BadCode,xk_BadCode⟩,zn_BadCode⟩,⟨xc_BadText,a_0,i_0,kc_BadText⟩,⟨xa_BadText,xn_BadText,xg_BadText,xt_BadText⟩,zn_BadText_TwiceNamed,zn_BadText_TooWide,zn_BadText_NoRow,zn_BadText_NoBox,zn_BadText_BadPlan,zn_BadText_BadCuts,zn_BadText_BadCode,⟨t_NUMBERS,W.mg_of X G v_NUMBERS⟩,⟨t_BITS,W.mg_of X G v_BITS⟩,⟨t_FIGURES,W.mg_of X G v_FIGURES⟩,⟨t_GREATEST,W.mg_of X G v_GREATEST⟩,W.mg_none_of X G b_ValueError,W.mg_none_of X G b_abs,W.mg_none_of X G b_all,W.mg_none_of X G b_bool,W.mg_none_of X G b_divmod,W.mg_none_of X G b_enumerate,W.mg_none_of X G b_int,W.mg_none_of X G b_isinstance,W.mg_none_of X G b_len,W.mg_none_of X G b_list,W.mg_none_of X G b_range,W.mg_none_of X G b_str,W.mg_none_of X G b_tuple,W.mg_none_of X G b_zip⟩,fun s v=>b_law s [v] rfl⟩
theorem wh0 {P:Program} {w:World} {K:W.Frag} {mg:Str->Option Value} {base:Heap} (T:Txt K mg):Ok P w mg base 8 T.f_law (w09 T):=by
 have H_jaa:Ok P w mg base 1 T.f_jaa (vj6 T):=wc1 T (n:=0);have H_jas:Ok P w mg base 2 T.f_jas (w16 T):=wa4 T (n:=1) (FnOk.mono H_jaa (by decide));have H_jbd:Ok P w mg base 3 T.f_jbd (w10 T):=w93 T (n:=2) (FnOk.mono H_jas (by decide)) (FnOk.mono H_jaa (by decide));have H_jbc:Ok P w mg base 4 T.f_jbc (w11 T):=w94 T (n:=3) (FnOk.mono H_jbd (by decide));have H_jar:Ok P w mg base 1 T.f_jar (uj2 T):=wa5 T (n:=0);have H_jba:Ok P w mg base 2 T.f_jba (w13 T):=w96 T (n:=1) (FnOk.mono H_jar (by decide));have H_jax:Ok P w mg base 2 T.f_jax (v94 T):=w99 T (n:=1) (FnOk.mono H_jar (by decide));have H_jat:Ok P w mg base 2 T.f_jat (v96 T):=wa3 T (n:=1) (FnOk.mono H_jar (by decide));have H_jay:Ok P w mg base 3 T.f_jay (vj0 T):=w98 T (n:=2) (FnOk.mono H_jar (by decide)) (FnOk.mono H_jat (by decide));have H_jau:Ok P w mg base 4 T.f_jau (vj1 T):=wa2 T (n:=3) (FnOk.mono H_jar (by decide)) (FnOk.mono H_jay (by decide));have H_jaw:Ok P w mg base 3 T.f_jaw (w15 T):=wa0 T (n:=2) (FnOk.mono H_jar (by decide)) (FnOk.mono H_jat (by decide));have H_jbb:Ok P w mg base 4 T.f_jbb (w12 T):=w95 T (n:=3) (FnOk.mono H_jax (by decide)) (FnOk.mono H_jaw (by decide));have H_jaz:Ok P w mg base 5 T.f_jaz (w14 T):=w97 T (n:=4) (FnOk.mono H_jax (by decide)) (FnOk.mono H_jau (by decide)) (FnOk.mono H_jbb (by decide));have H_jav:OkX P w mg base 6 T.f_jav (v95 T):=wa1 T (n:=3) (FnOk.mono H_jba (by decide)) (FnOk.mono H_jaz (by decide));have H_jag:Ok P w mg base 1 T.f_jag (ue5 T):=wb6 T (n:=0);have H_jak:Ok P w mg base 2 T.f_jak (uq0 T):=wb2 T (n:=1) (FnOk.mono H_jag (by decide));have H_jam:Ok P w mg base 2 T.f_jam (vj2 T):=wb0 T (n:=1) (FnOk.mono H_jag (by decide));have H_jac:Ok P w mg base 2 T.f_jac (vj5 T):=wb9 T (n:=1) (FnOk.mono H_jag (by decide));have H_jan:Ok P w mg base 3 T.f_jan (v97 T):=wa9 T (n:=2) (FnOk.mono H_jag (by decide)) (FnOk.mono H_jak (by decide)) (FnOk.mono H_jam (by decide)) (FnOk.mono H_jac (by decide));have H_jaf:Ok P w mg base 4 T.f_jaf (w22 T):=wb7 T (n:=3) (FnOk.mono H_jag (by decide)) (FnOk.mono H_jak (by decide)) (FnOk.mono H_jan (by decide));have H_jap:Ok P w mg base 1 T.f_jap (w18 T):=wa7 T (n:=0);have H_jaj:Ok P w mg base 2 T.f_jaj (w20 T):=wb3 T (n:=1) (FnOk.mono H_jap (by decide));have H_jal:Ok P w mg base 1 T.f_jal (ux6 T):=wb1 T (n:=0);have H_jad:Ok P w mg base 2 T.f_jad (vj4 T):=wb8 T (n:=1) (FnOk.mono H_jal (by decide));have H_jah:Ok P w mg base 3 T.f_jah (vj3 T):=wb5 T (n:=2) (FnOk.mono H_jal (by decide)) (FnOk.mono H_jad (by decide));have H_jab:Ok P w mg base 4 T.f_jab (w23 T):=wc0 T (n:=3) (FnOk.mono H_jal (by decide)) (FnOk.mono H_jah (by decide));have H_jaq:Ok P w mg base 2 T.f_jaq (w17 T):=wa6 T (n:=1) (FnOk.mono H_jag (by decide));have H_jai:Ok P w mg base 3 T.f_jai (w21 T):=wb4 T (n:=2) (FnOk.mono H_jag (by decide)) (FnOk.mono H_jaq (by decide));have H_jao:Ok P w mg base 7 T.f_jao (w19 T):=wa8 T (n:=6) (FnOk.mono H_jav (by decide))
 have H_law:Ok P w mg base 8 T.f_law (w09 T):=w92 T (n:=7) (FnOk.mono H_jbc (by decide)) (FnOk.mono H_jav (by decide)) (FnOk.mono H_jag (by decide)) (FnOk.mono H_jaf (by decide)) (FnOk.mono H_jaj (by decide)) (FnOk.mono H_jab (by decide)) (FnOk.mono H_jai (by decide)) (FnOk.mono H_jao (by decide));exact H_law
theorem walk {l:W.OpenLaw} {q:Program} {loose:List Str} {XP:(Str->Option Value)->Heap->Prop} {YP:World->Heap->Prop} {d:DefRec} {K:Params->W.Frag} (hn:l.most=some 63) (hdf:d.params.defaults=[])
  (hY:∀ (w:World) (h:Heap),YP w h->(K w.params).In h) (hL:∀ w:World,noL (K w.params)=true)
  (F:∀ (w:World) (mg:Str->Option Value) (fa:Addr) (h:Heap),(K w.params).In h->h.Ns mainGlobals mg->mg d.name=some (.ref fa)->∃ T:Txt (K w.params) mg,∀ (s:Shared) (v:Value),BindsTo s T.f_law.fd ⟨[v],[]⟩ [("_law_script",v)]) (hdn:d.name = "law" := by rfl) :
  W.WalkO q loose XP YP l.row.toRowW d [] (fun f vs=>PySem.call f vs):=by
 refine L2.walk_of (n:=63) (k:=8) (x := "_law_script") (CX:=fun _=>CX0) (sp:=fun w=>ue8 (K w.params) vk3) hn (by decide) hdf ⟨rfl,by decide,by decide⟩ hY (fun w mg fa h hK hN hm=>?_) (fun w H a ns hl hO hS=>wd1 (hL w) hl hO hS) fun _ _ _ _ _ z=>z
 obtain ⟨T,hb⟩:=F w mg fa h hK hN hm;rw [hdn] at hm;have e:=hm.symm.trans T.g_law;cases e;exact ⟨T.f_law.fd,hb,fun base _ _=>wh0 T⟩
end Law
end
namespace PySem.W.Fast
def tw4902565415846686459:=0
def tw15107326224800491610:=0
def tw99559557398219281:=0
def tw1097485998264344713:=0
def tw14323176328999484606:=0
def tw4651865191363261603:=0
def tw2747578650169054532:=0
def tw1127540131131727135:=0
def tw11416579720072654987:=0
def tw16711837768750147928:=0
def tw17609033693787045838:=0
def tw14611799859352682653:=0
def tw13716890178771448046:=0
def tw13855172496761635025:=0
def tw15338021141501685025:=0
def tw11115671368439243482:=0
def tw8881719688956644101:=0
def tw6927944041083591721:=0
def tw23583904594256697:=0
def tw8795813959923798800:=0
def tw1461390657653079122:=0
def tw8597810518150800303:=0
def tw17034109776388553486:=0
def tw10776800553252656027:=0
def tw12998610245929197692:=0
def tw16106441719502283653:=0
def tw9615002736302757564:=0
def tw3147414672301088134:=0
def tw13221620771860896687:=0
def tw8791499660249711325:=0
def tw5050303755098171153:=0
def tw13564908094054478764:=0
def tw1587692726589063695:=0
def tw17238554960689131092:=0
def tw18027910898769397880:=0
def tw4562051168280983599:=0
def tw3002576275275104736:=0
def tw8458955002072913569:=0
def tw2334054653039383903:=0
def tw17979661434486950331:=0
def tw5853022351981442701:=0
def tw2612828166046746076:=0
def tw12493112913515535349:=0
def tw3726881015739308308:=0
def tw6656542146056014900:=0
def tw10908073769282583514:=0
def tw14284871856729769281:=0
def tw14204681122606409356:=0
def tw7433111318784703267:=0
def tw9086803547328203514:=0
def tw138556548313800799:=0
def tw12895575458843069931:=0
def tw14909844895185360636:=0
def tw1012226337035829094:=0
def tw7217112146544998001:=0
def tw5768955142762178287:=0
def tw420794872289947646:=0
def tw16201168151513101162:=0
def tw539681807982390480:=0
def tw7515993834029633679:=0
def tw3935370470951689479:=0
def tw12496642384976735566:=0
def tw13392517612746924502:=0
def tw11030489698017421550:=0
def tw9779616231884896215:=0
def tw5830200666137712480:=0
def tw10702205979946023822:=0
def tw14915029922471414595:=0
def tw13130415217405088349:=0
def tw9205855139914703639:=0
def tw10810075907304124547:=0
def tw11577361819942263406:=0
def tw1233982114241163954:=0
def tw14647532399721923855:=0
def tw12702000248706911912:=0
def tw11047170696150652311:=0
def tw2611933618675796558:=0
def tw4523005296809608452:=0
def tw5452870694402668727:=0
def tw5364863694868261450:=0
def tw17537594662631726254:=0
def tw608855137106929000:=0
def tw6423705106542825127:=0
def tw11063152248702653051:=0
def tw2113215758953768410:=0
def tw17128496844534853756:=0
end PySem.W.Fast
open PySem PySem.W PyProof.Rows
local macro_rules | `(tactic| ac_rfl) => `(tactic| (refine' Law.df_m ?a ?b ?c ?d; (case a => k_is); (case b => k_is); (case c => k_is); (case d => k_is)))
local macro_rules | `(tactic| bv_omega) => `(tactic| (refine' Law.dm_m ?a ?b ?c ?d ?e; (case a => k_is); (case b => k_is); (case c => k_is); (case d => k_is); (case e => k_is)))
set_option maxHeartbeats 0 in
theorem PySem.Challenge.cw_nolitter_k55_code_texts_refused_holds : PySem.Challenge.rw_nolitter_k55_code_texts_refused.Holds := by
 w_on; o_law; k_head; (case hw => w_witness2)
 k_fill
 refine Law.walk (l := PySem.Challenge.rw_nolitter_k55_code_texts_refused) rfl rfl (fun w h Y => PySem.W.kIn_of Y) ?L ?F
 case L => exact fun w => rfl
 case F =>
  intro w mg fa h KX G hmg
  refine' Law.txt_mk KX G ?aC_LitterError ?aC_BadText ?aC_TwiceNamed ?aC_TooWide ?aC_NoRow ?aC_NoBox ?aC_BadPlan ?aC_BadCuts ?aC_BadCode ?pm_0 ?pm_18 ?pm_29 ?pm_30 ?pm_19 ?pm_1 ?pm_22 ?pm_27 ?pm_26 ?pm_24 ?pm_21 ?pm_25 ?pm_20 ?pm_28 ?pm_23 ?pm_7 ?pm_11 ?pm_13 ?pm_14 ?pm_4 ?pm_6 ?pm_16 ?pm_10 ?pm_12 ?pm_5 ?pm_8 ?pm_3 ?pm_17 ?pm_9 ?pm_15 ?pm_2 ?xc_LitterError ?xs_LitterError ?xr_LitterError ?xf_LitterError ?xc_BadText ?xg_BadText ?xt_BadText ?xk_BadText ?zn_BadText ?xc_TwiceNamed ?xg_TwiceNamed ?xt_TwiceNamed ?xk_TwiceNamed ?zn_TwiceNamed ?xc_TooWide ?xg_TooWide ?xt_TooWide ?xk_TooWide ?zn_TooWide ?xc_NoRow ?xg_NoRow ?xt_NoRow ?xk_NoRow ?zn_NoRow ?xc_NoBox ?xg_NoBox ?xt_NoBox ?xk_NoBox ?zn_NoBox ?xc_BadPlan ?xg_BadPlan ?xt_BadPlan ?xk_BadPlan ?zn_BadPlan ?xc_BadCuts ?xg_BadCuts ?xt_BadCuts ?xk_BadCuts ?zn_BadCuts ?xc_BadCode ?xg_BadCode ?xt_BadCode ?xk_BadCode ?zn_BadCode ?kc_BadText ?xa_BadText ?xn_BadText ?zn_BadText_TwiceNamed ?zn_BadText_TooWide ?zn_BadText_NoRow ?zn_BadText_NoBox ?zn_BadText_BadPlan ?zn_BadText_BadCuts ?zn_BadText_BadCode ?v_NUMBERS ?v_BITS ?v_FIGURES ?v_GREATEST ?b_ValueError ?b_abs ?b_all ?b_bool ?b_divmod ?b_enumerate ?b_int ?b_isinstance ?b_len ?b_list ?b_range ?b_str ?b_tuple ?b_zip
  (case aC_LitterError => k_is)
  (case aC_BadText => k_is)
  (case aC_TwiceNamed => k_is)
  (case aC_TooWide => k_is)
  (case aC_NoRow => k_is)
  (case aC_NoBox => k_is)
  (case aC_BadPlan => k_is)
  (case aC_BadCuts => k_is)
  (case aC_BadCode => k_is)
  (case pm_0 => bv_omega)
  (case pm_18 => ac_rfl)
  (case pm_29 => ac_rfl)
  (case pm_30 => ac_rfl)
  (case pm_19 => ac_rfl)
  (case pm_1 => ac_rfl)
  (case pm_22 => ac_rfl)
  (case pm_27 => ac_rfl)
  (case pm_26 => ac_rfl)
  (case pm_24 => ac_rfl)
  (case pm_21 => ac_rfl)
  (case pm_25 => ac_rfl)
  (case pm_20 => ac_rfl)
  (case pm_28 => ac_rfl)
  (case pm_23 => ac_rfl)
  (case pm_7 => ac_rfl)
  (case pm_11 => ac_rfl)
  (case pm_13 => ac_rfl)
  (case pm_14 => ac_rfl)
  (case pm_4 => ac_rfl)
  (case pm_6 => ac_rfl)
  (case pm_16 => ac_rfl)
  (case pm_10 => ac_rfl)
  (case pm_12 => ac_rfl)
  (case pm_5 => ac_rfl)
  (case pm_8 => ac_rfl)
  (case pm_3 => ac_rfl)
  (case pm_17 => ac_rfl)
  (case pm_9 => ac_rfl)
  (case pm_15 => ac_rfl)
  (case pm_2 => ac_rfl)
  (case xc_LitterError => first | (decide) | kernel_rfl | rfl)
  (case xs_LitterError => k_is)
  (case xr_LitterError => k_is)
  (case xf_LitterError => k_is)
  (case xc_BadText => first | (decide) | kernel_rfl | rfl)
  (case xg_BadText => k_is)
  (case xt_BadText => k_is)
  (case xk_BadText => k_is)
  (case zn_BadText => decide)
  (case xc_TwiceNamed => first | (decide) | kernel_rfl | rfl)
  (case xg_TwiceNamed => k_is)
  (case xt_TwiceNamed => k_is)
  (case xk_TwiceNamed => k_is)
  (case zn_TwiceNamed => decide)
  (case xc_TooWide => first | (decide) | kernel_rfl | rfl)
  (case xg_TooWide => k_is)
  (case xt_TooWide => k_is)
  (case xk_TooWide => k_is)
  (case zn_TooWide => decide)
  (case xc_NoRow => first | (decide) | kernel_rfl | rfl)
  (case xg_NoRow => k_is)
  (case xt_NoRow => k_is)
  (case xk_NoRow => k_is)
  (case zn_NoRow => decide)
  (case xc_NoBox => first | (decide) | kernel_rfl | rfl)
  (case xg_NoBox => k_is)
  (case xt_NoBox => k_is)
  (case xk_NoBox => k_is)
  (case zn_NoBox => decide)
  (case xc_BadPlan => first | (decide) | kernel_rfl | rfl)
  (case xg_BadPlan => k_is)
  (case xt_BadPlan => k_is)
  (case xk_BadPlan => k_is)
  (case zn_BadPlan => decide)
  (case xc_BadCuts => first | (decide) | kernel_rfl | rfl)
  (case xg_BadCuts => k_is)
  (case xt_BadCuts => k_is)
  (case xk_BadCuts => k_is)
  (case zn_BadCuts => decide)
  (case xc_BadCode => first | (decide) | kernel_rfl | rfl)
  (case xg_BadCode => k_is)
  (case xt_BadCode => k_is)
  (case xk_BadCode => k_is)
  (case zn_BadCode => decide)
  (case kc_BadText => k_is)
  (case xa_BadText => k_is)
  (case xn_BadText => k_is)
  (case zn_BadText_TwiceNamed => decide)
  (case zn_BadText_TooWide => decide)
  (case zn_BadText_NoRow => decide)
  (case zn_BadText_NoBox => decide)
  (case zn_BadText_BadPlan => decide)
  (case zn_BadText_BadCuts => decide)
  (case zn_BadText_BadCode => decide)
  (case v_NUMBERS => k_is)
  (case v_BITS => k_is)
  (case v_FIGURES => k_is)
  (case v_GREATEST => k_is)
  (case b_ValueError => k_is)
  (case b_abs => k_is)
  (case b_all => k_is)
  (case b_bool => k_is)
  (case b_divmod => k_is)
  (case b_enumerate => k_is)
  (case b_int => k_is)
  (case b_isinstance => k_is)
  (case b_len => k_is)
  (case b_list => k_is)
  (case b_range => k_is)
  (case b_str => k_is)
  (case b_tuple => k_is)
  (case b_zip => k_is)
