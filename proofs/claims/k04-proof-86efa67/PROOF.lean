import PyProof.Rows.All
import Wide.All
import OpenK.AllK
import Wide.FinOn
import Lean
import PyProof.EqAt
import PyProof.EqKinds
import PyProof.TupleCall
import PyProof.NeKinds
import PyProof.Rows.SeqMore
import PyProof.FactsAll.tuple_2
import KE.KDictOf
import PyProof.ExcInit
import PyProof.ExcClass3
import PyProof.NsDelKeeps
import PyProof.RulesAs
import PyProof.Rows.CountFlat
import PyProof.AutoListH
import KE.KIntText
import PyProof.Rows.CatFin
import PyProof.Rows.Range3
import PyProof.Rows.CallKwBuiltin
import PyProof.NoPylong
import PyProof.EnumMake
import PyProof.Draws
import PyProof.DictWalks
import PyProof.DictUpdate
import PyProof.FactsAll.str_8
import PyProof.ToksMono
import PyProof.StrReplace2
import PyProof.FactsAll.str_6
import PySem.Challenge.RW_nolitter_k04_the_first_wrong_row
set_option Elab.async false
set_option linter.all false
set_option maxRecDepth 100000
set_option maxHeartbeats 4000000
local macro_rules | `(tactic| decide) => `(tactic| decide +kernel)
noncomputable section
namespace L2
open PySem PySem.Spec PyProof.Rows
abbrev Key:=Sum Int Str
def wk0:Key->Value->Bool
 | .inl k,v=>Value.isInt k v
 | .inr x,v=>Value.isStrOf x v
def keyH (w:World):Key->Int
 | .inl k=>hashInt k
 | .inr x=>hashStr w x
theorem u30:∀ {k:Key} {v:Value},wk0 k v=true->(∃ i t,k=Sum.inl i /\ v=Value.int i t) \/ (∃ x t,k=Sum.inr x /\ v=Value.str x t)
 | .inl i,v,h=>by
  obtain ⟨t,e⟩:=Value.isInt_shape (k:=i) (v:=v) h;exact .inl ⟨i,t,rfl,e⟩
 | .inr x,v,h=>by
  obtain ⟨t,e⟩:=Value.isStrOf_shape (x:=x) (v:=v) h;exact .inr ⟨x,t,rfl,e⟩
theorem wj9 (a b:Int):decide ((Sum.inl a:Key)=Sum.inl b)=(a == b):=by
 by_cases e:a=b
 ·subst e;simp
 ·have h:¬ (Sum.inl a:Key)=Sum.inl b:=fun q=>e (Sum.inl.inj q)
  rw [decide_eq_false h];exact (beq_eq_false_iff_ne.mpr e).symm
theorem wj6 (a b:Str):decide ((Sum.inr a:Key)=Sum.inr b)=decide (a=b):=by
 by_cases e:a=b
 ·subst e;simp
 ·have h:¬ (Sum.inr a:Key)=Sum.inr b:=fun q=>e (Sum.inr.inj q)
  rw [decide_eq_false h,decide_eq_false e]
theorem wj8 (a:Int) (b:Str):decide ((Sum.inl a:Key)=Sum.inr b)=false:=decide_eq_false (fun q=>nomatch q)
theorem wj7 (a:Str) (b:Int):decide ((Sum.inr a:Key)=Sum.inl b)=false:=decide_eq_false (fun q=>nomatch q)
def v62 (prog:Program) (w:World):PySem.KeyKind prog w Key where
 is:=wk0
 hash:=keyH w
 inj:=fun v a b ha hb=>by
  rcases u30 ha with ⟨i,t,rfl,rfl⟩ | ⟨x,t,rfl,rfl⟩
  ·rcases u30 hb with ⟨j,u,rfl,e⟩ | ⟨y,u,rfl,e⟩
   ·injection e with e1 _;rw [e1]
   ·exact nomatch e
  ·rcases u30 hb with ⟨j,u,rfl,e⟩ | ⟨y,u,rfl,e⟩
   ·exact nomatch e
   ·injection e with e1 _;rw [e1]
 byValue:=fun k v h=>by
  rcases u30 h with ⟨i,t,rfl,rfl⟩ | ⟨x,t,rfl,rfl⟩ <;> rfl
 pyHash:=fun hv h=>by
  rcases u30 hv with ⟨i,t,rfl,rfl⟩ | ⟨x,t,rfl,rfl⟩
  ·exact wpAny_pyHash_int h
  ·exact wpAny_pyHash_str h
 eqBool:=fun hu hv h=>by
  rcases u30 hu with ⟨i,t,rfl,rfl⟩ | ⟨x,t,rfl,rfl⟩
  ·rcases u30 hv with ⟨j,u,rfl,rfl⟩ | ⟨y,u,rfl,rfl⟩
   ·rw [wj9] at h;exact wpAny_eqBool_int h
   ·rw [wj8] at h;exact SeqAt.EqAt.int_str i t y u _ _ _ _ h
  ·rcases u30 hv with ⟨j,u,rfl,rfl⟩ | ⟨y,u,rfl,rfl⟩
   ·rw [wj7] at h;exact SeqAt.EqAt.str_int x t j u _ _ _ _ h
   ·rw [wj6] at h;exact wpAny_eqBool_str h
 «strs»:=fun k x t v h=>by
  rcases u30 h with ⟨i,u,rfl,e⟩ | ⟨y,u,rfl,e⟩
  ·exact nomatch e
  ·injection e with e1 _
   subst e1;cases v <;> rfl
inductive V where
 | non | bl (b:Bool) | int (i:Int) | str (x:Str) | byt (b:Array UInt8) | flt (b:UInt64) | ref (a:Addr) | ty (n:String)
 deriving DecidableEq
def RelV:V->Value->Prop
 | .non,u=>u=Value.none
 | .bl b,u=>u=Value.bool b
 | .int i,u=>∃ t,u=Value.int i t
 | .str x,u=>∃ t,u=Value.str x t
 | .byt b,u=>∃ t,u=Value.bytes b t
 | .flt b,u=>∃ t,u=Value.float b t
 | .ref a,u=>u=Value.ref a
 | .ty n,u=>u=Value.type n
abbrev Vals:List V->List Value->Prop:=Paired RelV
theorem Vals.length {xs:List V} {us:List Value} (r:Vals xs us):xs.length=us.length:=Paired.length r
theorem Vals.get:∀ {xs:List V} {us:List Value} {i:Nat} {x:V},Vals xs us->xs[i]?=some x->∃ u,us[i]?=some u /\ RelV x u
 | _,_,_,_,.nil,e=>by simp at e
 | _,_,0,_,.cons r _,e=>by simp at e;subst e;exact ⟨_,rfl,r⟩
 | _,_,i+1,x,.cons _ t,e=>by
  obtain ⟨u,h1,h2⟩:=Vals.get (i:=i) (x:=x) t (by simpa using e);exact ⟨u,by simpa using h1,h2⟩
theorem Vals.set {x:V} {u:Value} (r:RelV x u):∀ {xs:List V} {us:List Value} (i:Nat),Vals xs us->Vals (xs.set i x) (us.set i u)
 | _,_,_,.nil=>.nil
 | _,_,0,.cons _ t=>.cons r t
 | _,_,i+1,.cons q t=>.cons q (Vals.set r i t)
theorem Vals.append:∀ {xs ys:List V} {us ws:List Value},Vals xs us->Vals ys ws->Vals (xs++ys) (us++ws)
 | _,_,_,_,.nil,s=>s
 | _,_,_,_,.cons r t,s=>.cons r (Vals.append t s)
theorem Vals.take:∀ {xs:List V} {us:List Value} (n:Nat),Vals xs us->Vals (xs.take n) (us.take n)
 | _,_,0,_=>.nil
 | _,_,_+1,.nil=>.nil
 | _,_,n+1,.cons r t=>.cons r (Vals.take n t)
theorem Vals.drop:∀ {xs:List V} {us:List Value} (n:Nat),Vals xs us->Vals (xs.drop n) (us.drop n)
 | _,_,0,r=>r
 | _,_,_+1,.nil=>.nil
 | _,_,n+1,.cons _ t=>Vals.drop n t
theorem Vals.none_of:∀ {xs:List V} {us:List Value} {i:Nat},Vals xs us->xs[i]?=none->us[i]?=none:=fun {xs us i} r e=>by
 have h1:=r.length;have h2:xs.length<=i:=List.getElem?_eq_none_iff.mp e;exact List.getElem?_eq_none_iff.mpr (by omega)
def RelO:Option V->Option Value->Prop
 | some v,some u=>RelV v u
 | none,none=>True
 | _,_=>False
def KV {κ:Type}:List (κ × V)->List (κ × Value)->Prop:=Paired fun (p:κ × V) (q:κ × Value)=>p.1=q.1 /\ RelV p.2 q.2
def kV:Key->V
 | .inl i=>.int i
 | .inr x=>.str x
inductive HO where
 | lst (xs:List V)
 | tup (xs:List V)
 | dK (kvs:List (Key × V)) | dT (kvs:List (List Key × V))
 | set (S:Int->Bool) (n:Nat)
 | ins (C dx:Addr) (fs:List (Str × V))
 | own (x:Addr)
 | xd (fs:List (Str × V))
 | met (f x:Addr)
 | rng (lo hi:Int)
 | frz (o:Obj) (u:HO)
 | tbl (ps:Array Value)
 | ext (φ:Heap->Prop)
abbrev Hp:=Addr->Option HO
def upd (H:Hp) (a:Addr) (o:HO):Hp:=fun b=>if b=a then some o else H b
theorem u23 {H:Hp} {a:Addr} {o:HO}:upd H a o a=some o:=by unfold upd;rw [if_pos rfl]
theorem u16 {H:Hp} {a b:Addr} {o:HO} (h:b ≠ a):upd H a o b=H b:=by unfold upd;rw [if_neg h]
theorem vr6 {H:Hp} {a:Addr} {o u:HO}:upd (upd H a o) a u=upd H a u:=by
 funext b;unfold upd;split <;> rfl
theorem u39 {H:Hp} {a b:Addr} {o:HO} (h:H a=some o) (h':H b=none):a ≠ b:=by
 intro e;subst e;rw [h] at h';cases h'
section
variable (P:Program) (w:World)
def TupD (h:Heap) (a:Addr) (its:Array Value):Prop:=∃ o,h.get? a=some o /\ o.cls=.type "tuple" /\ (∃ n,o.data=.seq its n) /\ o.dict=none
theorem TupD.tup {h:Heap} {a:Addr} {its:Array Value} (x:TupD h a its):IsTup h a its:=let ⟨o,e,c,d,_⟩:=x;⟨o,e,c,d⟩
theorem TupD.new (h:Heap) (its:Array Value):TupD (h.push { cls:=.type "tuple",data:=.seq its }) h.objs.size its:=⟨_,Heap.get?_push_size _ rfl,rfl,⟨_,rfl⟩,rfl⟩
def ObjOk (H:Hp) (h:Heap) (a:Addr):HO->Prop
 | .lst xs=>xs.length<=sizeLine /\ ∃ (its:List Value) (n:Nat),Vals xs its /\ h.get? a=some { cls:=.type "list",data:=.seq its.toArray n }
 | .tup xs=>xs.length<=sizeLine /\ ∃ its:List Value,Vals xs its /\ TupD h a its.toArray
 | .dK kvs=>kvs.length<=sizeLine /\ (a == sysModules)=false /\ ∃ vs,KV kvs vs /\ h.DictOf (v62 P w) a vs
 | .dT kvs=>kvs.length<=sizeLine /\ (a == sysModules)=false /\ ∃ xs:List (List Key × Addr × Value),
   Paired (fun (p:List Key × V) (q:List Key × Addr × Value)=>p.1=q.1 /\ H q.2.1=some (.tup (p.1.map kV)) /\ RelV p.2 q.2.2) kvs xs /\
   ∃ o es ep,h.get? a=some o /\ o.ExactDict /\ o.data=.dict es ep /\ es.toList=xs.map (entryOfKey (tupleKind (v62 P w))) /\ (xs.map (·.1)).Nodup
 | .set S n=>h.SetOf (intKind P w) a S n
 | .ins C dx fs=>H dx=some (.own a) /\ fs.length<=1000 /\ dx ≠ a /\ h.get? a=some (W.instObj C dx) /\
   ∃ mA,h.Ns1 dx mA /\ (∀ f,RelO (fs.lookup f) (mA f)) /\ PySem.Within mA (fs.map (·.1))
 | .own _=>∃ o,h.get? a=some o
 | .xd fs=>∃ mA,h.Ns1 a mA /\ ∀ f,RelO (fs.lookup f) (mA f)
 | .rng lo hi=>∃ t u v,h.get? a=some { cls:=.type "range",data:=.fields #[.int lo t,.int hi u,.int 1 v] }
 | .frz o u=>h.get? a=some o /\ ObjOk H h a u
 | .tbl ps=>h.get? a=some { cls:=.none,data:=.fields ps }
 | .met f x=>h.get? a=some (W.methodObj (.ref f) (.ref x))
 | .ext φ=>φ h /\ (∃ o,h.get? a=some o) /\ ∀ h1 h2:Heap,φ h1->(∀ o,h1.get? a=some o->h2.get? a=some o)->φ h2
def HOk (H:Hp) (h:Heap):Prop:=∀ a o,H a=some o->ObjOk P w H h a o
end
section
variable {P:Program} {w:World} {H H':Hp} {h h':Heap} {a:Addr} {o:HO}
theorem ObjOk.lt (x:ObjOk P w H h a o):a < h.objs.size:=by
 cases o with
 | lst xs=>obtain ⟨_,_,_,_,e⟩:=x;exact Heap.lt_size e
 | tup xs=>obtain ⟨_,_,_,p⟩:=x;exact p.tup.lt
 | dK kvs=>obtain ⟨_,_,_,_,o,_,_,e,_⟩:=x;exact Heap.lt_size e
 | dT kvs=>obtain ⟨_,_,_,_,o,_,_,e,_⟩:=x;exact Heap.lt_size e
 | set S n=>obtain ⟨o,_,_,_,e,_⟩:=x;exact Heap.lt_size e
 | ins C dx fs=>obtain ⟨_,_,_,e,_⟩:=x;exact Heap.lt_size e
 | own y=>obtain ⟨_,e⟩:=x;exact Heap.lt_size e
 | xd fs=>obtain ⟨_,⟨_,_,_,e,_⟩,_⟩:=x;exact Heap.lt_size e
 | rng lo hi=>obtain ⟨_,_,_,e⟩:=x;exact Heap.lt_size e
 | frz ob u=>obtain ⟨e,_⟩:=x;exact Heap.lt_size e
 | tbl ps=>exact Heap.lt_size (show h.get? a=some _ from x)
 | met f y=>exact Heap.lt_size (show h.get? a=some _ from x)
 | ext φ=>obtain ⟨_,⟨_,e⟩,_⟩:=x;exact Heap.lt_size e
theorem Paired.mapP {α β:Type} {F G:α->β->Prop}:∀ {l₁:List α} {l₂:List β},Paired F l₁ l₂->(∀ a b,F a b->G a b)->Paired G l₁ l₂
 | _,_,.nil,_=>.nil
 | _,_,.cons r t,f=>.cons (f _ _ r) (Paired.mapP t f)
theorem ObjOk.stay (x:ObjOk P w H h a o) (k:∀ b u,(b=a \/ H b=some (.own a))->h.get? b=some u->h'.get? b=some u)
  (ho:∀ b,H b=some (.own a)->H' b=some (.own a)) (ht:∀ b xs,H b=some (.tup xs)->H' b=some (.tup xs)):ObjOk P w H' h' a o:=by
 induction o with
 | lst xs=>obtain ⟨z,its,n,r,e⟩:=x;exact ⟨z,its,n,r,k _ _ (.inl rfl) e⟩
 | tup xs=>obtain ⟨z,its,r,ob,e,c⟩:=x;exact ⟨z,its,r,ob,k _ _ (.inl rfl) e,c⟩
 | dK kvs=>obtain ⟨z,y,vs,r,ob,es,ep,e,c⟩:=x;exact ⟨z,y,vs,r,ob,es,ep,k _ _ (.inl rfl) e,c⟩
 | dT kvs =>
  obtain ⟨z,y,xs,r,ob,es,ep,e,c⟩:=x;exact ⟨z,y,xs,Paired.mapP r fun p q z=>⟨z.1,ht _ _ z.2.1,z.2.2⟩,ob,es,ep,k _ _ (.inl rfl) e,c⟩
 | set S n=>obtain ⟨ob,es,ep,t,e,c⟩:=x;exact ⟨ob,es,ep,t,k _ _ (.inl rfl) e,c⟩
 | ins C dx fs =>
  obtain ⟨d,z,ne,e,mA,⟨od,es,ep,e2,c⟩,r⟩:=x;exact ⟨ho _ d,z,ne,k _ _ (.inl rfl) e,mA,⟨od,es,ep,k _ _ (.inr d) e2,c⟩,r⟩
 | own y=>obtain ⟨ob,e⟩:=x;exact ⟨ob,k _ _ (.inl rfl) e⟩
 | xd fs=>obtain ⟨mA,⟨od,es,ep,e,c⟩,r⟩:=x;exact ⟨mA,⟨od,es,ep,k _ _ (.inl rfl) e,c⟩,r⟩
 | rng lo hi=>obtain ⟨t,u,v,e⟩:=x;exact ⟨t,u,v,k _ _ (.inl rfl) e⟩
 | frz ob u ih=>obtain ⟨e,q⟩:=x;exact ⟨k _ _ (.inl rfl) e,ih q⟩
 | tbl ps =>
  have e:h.get? a=some { cls:=.none,data:=.fields ps }:=x
  show h'.get? a=some { cls:=.none,data:=.fields ps }
  exact k a _ (.inl rfl) e
 | met f y =>
  have e:h.get? a=some (W.methodObj (.ref f) (.ref y)):=x
  show h'.get? a=some (W.methodObj (.ref f) (.ref y))
  exact k a _ (.inl rfl) e
 | ext φ=>obtain ⟨p,⟨o,e⟩,st⟩:=x;exact ⟨st _ _ p fun o q=>k _ _ (.inl rfl) q,⟨o,k _ _ (.inl rfl) e⟩,st⟩
theorem HOk.lt (x:HOk P w H h) (e:H a=some o):a < h.objs.size:=(x a o e).lt
theorem HOk.fresh (x:HOk P w H h) (e:h.objs.size<=a):H a=none:=by
 cases q:H a with
 | none=>rfl
 | some u=>exact absurd (Nat.lt_of_lt_of_le (x.lt q) e) (Nat.lt_irrefl _)
theorem HOk.kept (x:HOk P w H h) (k:∀ b u,h.get? b=some u->h'.get? b=some u):HOk P w H h':=fun a o e =>
 (x a o e).stay (fun b u _ q=>k b u q) (fun _ q=>q) fun _ _ q=>q
theorem HOk.laid (x:HOk P w H h) (k:∀ b u,h.get? b=some u->h'.get? b=some u) (hp:h.objs.size<=a) (new:ObjOk P w (upd H a o) h' a o):HOk P w (upd H a o) h':=fun b u e=>by
 have hn:=x.fresh hp
 by_cases hb:b=a
 ·subst hb;rw [u23] at e;cases e;exact new
 ·rw [u16 hb] at e
  exact (x b u e).stay (fun c v _ q=>k c v q) (fun c q=>by rw [u16 (u39 q hn)];exact q) fun c xs q=>by rw [u16 (u39 q hn)];exact q
end
def Rd (H:Hp) (a:Addr) (u:HO):Prop:=H a=some u \/ ∃ o,H a=some (.frz o u)
theorem Rd.of {H:Hp} {a:Addr} {u:HO} (h:H a=some u):Rd H a u:=.inl h
theorem Rd.ok {P:Program} {w:World} {H:Hp} {h:Heap} {a:Addr} {u:HO} (r:Rd H a u) (x:HOk P w H h):ObjOk P w H h a u:=by
 rcases r with r | ⟨o,r⟩
 ·exact x a u r
 ·obtain ⟨_,q⟩:=x a _ r
  exact q
def Mut:Option HO->Prop
 | some (.lst _)=>True
 | some (.dK _)=>True
 | some (.dT _)=>True
 | some (.set _ _)=>True
 | some (.ins _ _ _)=>True
 | some (.ext _)=>True
 | _=>False
section
variable {P:Program} {w:World} {H:Hp} {h h':Heap} {x e:Addr} {o':HO}
theorem HOk.write (ok:HOk P w H h) (mu:Mut (H x)) (he:e=x \/ H e=some (.own x)) (k:∀ b u,b ≠ e->h.get? b=some u->h'.get? b=some u) (heo:∃ u,h'.get? e=some u)
  (new:ObjOk P w (upd H x o') h' x o'):HOk P w (upd H x o') h':=fun b u q=>by
 have nown:∀ c y,H c=some (.own y)->c ≠ x:=fun c y r z=>by subst z;rw [r] at mu;exact mu
 have ntup:∀ c xs,H c=some (.tup xs)->c ≠ x:=fun c xs r z=>by subst z;rw [r] at mu;exact mu
 by_cases hb:b=x
 ·subst hb;rw [u23] at q;cases q;exact new
 ·rw [u16 hb] at q
  by_cases hbe:b=e
  ·have q':H b=some (.own x):=by
    rcases he with z | z
    ·exact absurd (hbe.trans z) hb
    ·rw [hbe];exact z
   rw [q] at q';cases q';obtain ⟨v,hv⟩:=heo;exact ⟨v,by rw [hbe];exact hv⟩
  ·refine (ok b u q).stay (fun c v hc r=>k c v ?_ r) (fun c r=>by rw [u16 (nown c b r)];exact r) fun c xs r=>by rw [u16 (ntup c xs r)];exact r
   rcases hc with rfl | hc
   ·exact hbe
   ·rintro rfl
    rcases he with z | z
    ·exact nown c b hc z
    ·rw [hc] at z;cases z;exact hb rfl
end
def NK:={ u:HO // ∀ ys,u ≠ .dK ys }
structure Un (fs ex:List Addr) (H H':Hp) (h h':Heap):Prop where
 keep:∀ b o,h.get? b=some o->H b=none->b ∉ fs->b ∉ ex->h'.get? b=some o
 slot:∀ b o,h.get? b=some o->H b=none->b ∈ fs->b ∉ ex->∃ sl,h'.get? b=some { o with slots:=sl }
 free:∀ b o,h.get? b=some o->H b=none->b ∉ ex->H' b=none
 there:∀ b o,h.get? b=some o->b ∉ ex->∃ o',h'.get? b=some o'
 tups:∀ b xs,H b=some (.tup xs)->H' b=some (.tup xs)
 frzs:∀ b o (u:NK),H b=some (.frz o u.1)->H' b=some (.frz o u.1)
 tbls:∀ b ps,H b=some (.tbl ps)->∃ more,H' b=some (.tbl (ps++more))
section
variable {fs fs' ex ex':List Addr} {H H1 H2:Hp} {h h1 h2 h':Heap} {a x e:Addr} {o:HO}
theorem Un.any (u:Un fs ex H H1 h h1) {b:Addr} {ob:Obj} (q:h.get? b=some ob) (n:H b=none) (hx:b ∉ ex):∃ sl,h1.get? b=some { ob with slots:=sl }:=by
 by_cases hb:b ∈ fs
 ·exact u.slot b ob q n hb hx
 ·exact ⟨ob.slots,u.keep b ob q n hb hx⟩
theorem Un.trans (a:Un fs ex H H1 h h1) (b:Un fs ex H1 H2 h1 h2):Un fs ex H H2 h h2 where
 keep:=fun c ob q n hc hx=>b.keep c ob (a.keep c ob q n hc hx) (a.free c ob q n hx) hc hx
 slot:=fun c ob q n hc hx=>by
  obtain ⟨sl,e1⟩:=a.slot c ob q n hc hx;obtain ⟨sl',e2⟩:=b.slot c _ e1 (a.free c ob q n hx) hc hx;exact ⟨sl',e2⟩
 free:=fun c ob q n hx=>by
  obtain ⟨o',e1⟩:=a.there c ob q hx;exact b.free c o' e1 (a.free c ob q n hx) hx
 there:=fun c ob q hx=>by
  obtain ⟨o',e1⟩:=a.there c ob q hx;exact b.there c o' e1 hx
 tups:=fun c xs q=>b.tups c xs (a.tups c xs q)
 frzs:=fun c ob xs q=>b.frzs c ob xs (a.frzs c ob xs q)
 tbls:=fun c ps q=>by
  obtain ⟨m1,e1⟩:=a.tbls c ps q;obtain ⟨m2,e2⟩:=b.tbls c _ e1;exact ⟨m1++m2,by rw [e2,Array.append_assoc]⟩
theorem Un.kept (k:∀ b u,h.get? b=some u->h'.get? b=some u):Un fs ex H H h h' :=
 ⟨fun b ob q _ _ _=>k b ob q,fun b ob q _ _ _=>⟨ob.slots,k b ob q⟩,fun _ _ _ n _=>n,fun b ob q _=>⟨ob,k b ob q⟩,fun _ _ q=>q,fun _ _ _ q=>q,fun _ ps q=>⟨#[],by rw [q];simp⟩⟩
theorem Un.refl:Un fs ex H H h h:=Un.kept fun _ _ q=>q
theorem Un.laid (k:∀ b u,h.get? b=some u->h'.get? b=some u) (hp:h.objs.size<=a) (hn:H a=none):Un fs ex H (upd H a o) h h' where
 keep:=fun b u q _ _ _=>k b u q
 slot:=fun b u q _ _ _=>⟨u.slots,k b u q⟩
 free:=fun b u q n _=>by rw [u16 (Nat.ne_of_lt (Nat.lt_of_lt_of_le (Heap.lt_size q) hp))];exact n
 there:=fun b u q _=>⟨u,k b u q⟩
 tups:=fun b xs q=>by rw [u16 (u39 q hn)];exact q
 frzs:=fun b u xs q=>by rw [u16 (u39 q hn)];exact q
 tbls:=fun b ps q=>⟨#[],by rw [u16 (u39 q hn),q];simp⟩
theorem Un.write (mu:Mut (H x)) (he:e=x \/ H e=some (.own x)) (k:∀ b u,b ≠ e->h.get? b=some u->h'.get? b=some u) (heo:∃ u,h'.get? e=some u):Un fs ex H (upd H x o) h h':=by
 have hx:∀ b,H b=none->b ≠ x:=fun b n z=>by subst z;rw [n] at mu;exact mu
 have hb:∀ b,H b=none->b ≠ e:=fun b n z=>by
  subst z
  rcases he with r | r
  ·exact hx b n r
  ·rw [n] at r;cases r
 have hm:∀ b u,H b=some u->¬ Mut (some u)->b ≠ x:=fun b u q nm z=>by subst z;rw [q] at mu;exact nm mu
 refine ⟨fun b u q n _ _=>k b u (hb b n) q,fun b u q n _ _=>⟨u.slots,k b u (hb b n) q⟩,fun b u q n _=>by rw [u16 (hx b n)];exact n,fun b u q _=>?_,
  fun b xs q=>by rw [u16 (hm b _ q fun z=>z)];exact q,fun b u xs q=>by rw [u16 (hm b _ q fun z=>z)];exact q,fun b ps q=>⟨#[],by rw [u16 (hm b _ q fun z=>z),q];simp⟩⟩
 by_cases hbe:b=e
 ·subst hbe;exact heo
 ·exact ⟨u,k b u hbe q⟩
theorem Un.mono (u:Un fs ex H H1 h h1) (hs:∀ b ∈ fs,b ∈ fs') (hx:∀ b ∈ ex,b ∈ ex'):Un fs' ex' H H1 h h1 :=
 ⟨fun b ob q n hb he=>u.keep b ob q n (fun z=>hb (hs b z)) fun z=>he (hx b z),fun _ _ q n _ he=>u.any q n fun z=>he (hx _ z),fun b ob q n he=>u.free b ob q n fun z=>he (hx b z),fun b ob q he=>u.there b ob q fun z=>he (hx b z),u.tups,u.frzs,u.tbls⟩
end
def trk (h:Heap) (H:Hp):List Addr:=(List.range h.objs.size).filter fun a=>(H a).isSome
def hidT (h:Heap) (H:Hp):Heap:=W.hideAll h (trk h H)
theorem v92 (h:Heap) (H:Hp):(hidT h H).objs.size=h.objs.size:=W.hideAll_size _ _
theorem vj7 {h:Heap} {H:Hp} {b:Addr} {o:Obj} (e:h.get? b=some o) (n:H b=none):(hidT h H).get? b=some o :=
 W.hideAll_get _ e fun hm=>by
  have q:(H b).isSome=true:=(List.mem_filter.mp hm).2;rw [n] at q;simp at q
theorem vz4 {h:Heap} {H:Hp} {b:Addr} {o:Obj} (e:(hidT h H).get? b=some o):h.get? b=some o /\ H b=none:=by
 have e':h.get? b=some o:=W.of_hideAll (trk h H) e;refine ⟨e',?_⟩;cases q:H b with
 | none=>rfl
 | some x =>
  have hm:b ∈ trk h H:=List.mem_filter.mpr ⟨List.mem_range.mpr (Heap.lt_size e'),by simp [q]⟩;have z:(hidT h H).get? b=none:=W.hideAll_none (trk h H) hm;rw [z] at e;cases e
def w52 (g h:Heap) (L:Addr):List (Addr × Obj):=(List.range h.objs.size).filterMap fun a=>if a=L \/ (g.get? a).isSome=true then none else (h.get? a).map fun o=>(a,o)
def rest (g h:Heap) (L d:Addr):List (Addr × Obj):=(w52 g h L).filter fun p=>decide (p.1 ≠ d)
structure Mod (K:W.Frag) (mg:Str->Option Value) (base:Heap):Prop where
 kin:K.In base
 glob:base.Ns mainGlobals mg
 blt:∃ mb,base.Ns builtinsNs mb /\ ∀ x:Str,x ≠ "__name__" -> mb x=bootBuiltins x
 nolimit:base.NoLimit
/-- the context: a def's body (or a comprehension's block) running. base: fixed through the whole law; s₀,H₀: the entry; outer: the frames whose slots others may change (a def's callers); stack: all frames that run;
   ex: iterators that were made ahead of the entry and are walked here (a comprehension's);fn: the names whose cells were made at the entry (a def: all;a comprehension's block: its own);calm: not within an except suite;pn: pins that every state bears;xe: what is wanted of an exception that leaves the code -/
structure Cx where
 prog:Program
 w:World
 K:W.Frag
 mg:Str->Option Value
 base:Heap
 A:Around
 N:List Str
 s₀:Shared
 H₀:Hp
 env:Env
 outer:List Env
 stack:List Env
 ex:List Addr
 fn:Str->Bool
 calm:Bool
 pn:List (Addr × Obj)
 xe:Value->Shared->Prop
def frs (l:List Env):List Addr:=l.filterMap (·.frame)
abbrev Cx.fs (X:Cx):List Addr:=frs X.outer
def Vis (sc:Scope) (x:Str):Prop:=sc.names.lookup x=some .local \/ sc.names.lookup x=some .cell \/ sc.names.lookup x=some .free
def Loc (sc:Scope) (x:Str):Prop:=sc.names.lookup x=some .local \/ sc.names.lookup x=some .cell
def Look (env:Env) (h:Heap) (m:Str->Option Value) (x:Str) (u:Value):Prop :=
 (env.kindOf x=some .local /\ m x=some u) \/ ((env.kindOf x=some .cell \/ env.kindOf x=some .free) /\ ∃ c,env.cells.lookup x=some c /\ h.IsCell c (some u))
structure Cx.Ok (X:Cx):Prop where
 mod:Mod X.K X.mg X.base
 kind:X.env.scope.kind=.function
 glob:X.env.globals=mainGlobals
 blt:X.env.builtins=builtinsNs
 above:X.s₀.heap.objs.size<=X.env.locals
 inj:∀ x y c,X.env.cells.lookup x=some c->X.env.cells.lookup y=some c->x=y
 has:∀ x,(X.env.kindOf x=some .cell \/ X.env.kindOf x=some .free)->∃ c,X.env.cells.lookup x=some c
 cab:∀ x c,X.fn x=true->X.env.cells.lookup x=some c->X.s₀.heap.objs.size<=c
 hd:X.calm=true->X.A.handled=none
 frames:X.A.frames=some X.stack
 stk:X.stack=X.outer \/ (X.stack=X.env::X.outer /\ X.env.frame=some X.env.locals)
 exf:∀ b ∈ X.ex,b ≠ X.env.locals /\ ∀ x c,X.env.cells.lookup x=some c->c ≠ b
 bs:∀ b o,X.base.get? b=some o->X.s₀.heap.get? b=some o /\ X.H₀ b=none
 bsz:X.base.objs.size<=X.s₀.heap.objs.size
 noex:∀ b o,X.base.get? b=some o->b ∉ X.ex
 exfs:∀ b ∈ X.ex,b ∉ X.fs
 funs:X.s₀.heap.FunFrames X.base X.outer
 frf:∀ b ∈ X.fs,X.H₀ b=none
structure Inv (X:Cx) (pins:List (Addr × Obj)) (σ:List (Option V)) (H:Hp) (s:Shared):Prop where
 ok:X.Ok
 os:s.os=X.s₀.os
 bare:AllBare s.gens
 base:Un X.fs X.ex X.H₀ H X.s₀.heap s.heap
 loc:∃ m,s.heap.Ns X.env.locals m /\ ∀ (i:Nat) (x:Str) (v:V),X.N[i]?=some x->σ[i]?=some (some v)->Vis X.env.scope x->∃ u,RelV v u /\ Look X.env s.heap m x u
 cell:∀ x c,X.env.cells.lookup x=some c->∃ v,s.heap.IsCell c v
 free:H X.env.locals=none
 freeC:∀ x c,X.env.cells.lookup x=some c->H c=none
 pin:∀ p ∈ X.pn++pins,s.heap.get? p.1=some p.2 /\ H p.1=none /\ p.1 ≠ X.env.locals /\ p.1 ∉ X.fs /\ ∀ v,p.2.data ≠ .cell v
 hok:HOk X.prog X.w H s.heap
 len:σ.length=X.N.length
section
variable {X:Cx} {pins:List (Addr × Obj)} {σ:List (Option V)} {H H':Hp} {s:Shared} {h':Heap}
theorem Cx.Ok.nofr (ok:X.Ok) {b:Addr} {o:Obj} (e:X.base.get? b=some o):b ∉ X.fs:=fun hb=>by
 have:=(ok.funs.mem hb).1;rw [e] at this;cases this
theorem Inv.bs (I:Inv X pins σ H s):∀ b o,X.base.get? b=some o->s.heap.get? b=some o /\ H b=none:=fun b o e =>
 ⟨I.base.keep b o (I.ok.bs b o e).1 (I.ok.bs b o e).2 (I.ok.nofr e) (I.ok.noex b o e),I.base.free b o (I.ok.bs b o e).1 (I.ok.bs b o e).2 (I.ok.noex b o e)⟩
theorem Inv.bk (I:Inv X pins σ H s):∀ b o,X.base.get? b=some o->s.heap.get? b=some o:=fun b o e=>(I.bs b o e).1
theorem Inv.mod (I:Inv X pins σ H s):Mod X.K X.mg X.base:=I.ok.mod
theorem Inv.kIn (I:Inv X pins σ H s):X.K.In s.heap:=I.ok.mod.kin.keeps I.bk
theorem Inv.nolimit (I:Inv X pins σ H s):s.heap.NoLimit:=I.ok.mod.nolimit.keeps I.bk
theorem Inv.fr (I:Inv X pins σ H s):∃ m,Fr X.base X.env.locals s.heap m :=
 let ⟨m,hn,_⟩:=I.loc
 ⟨m,hn,I.bk,Nat.le_trans I.ok.bsz I.ok.above⟩
theorem Inv.lt (I:Inv X pins σ H s):X.env.locals < s.heap.objs.size:=let ⟨_,hn,_⟩:=I.loc;hn.lt
theorem Inv.sz (I:Inv X pins σ H s):X.s₀.heap.objs.size<=s.heap.objs.size:=Nat.le_trans I.ok.above (Nat.le_of_lt I.lt)
theorem Inv.nofs (I:Inv X pins σ H s) {a:Addr} (h:s.heap.objs.size<=a):a ∉ X.fs:=fun hb=>by
 obtain ⟨_,o,ho,_⟩:=I.ok.funs.mem hb;exact absurd (Nat.lt_of_lt_of_le (Heap.lt_size ho) (Nat.le_trans I.sz h)) (Nat.lt_irrefl _)
theorem Inv.cne (I:Inv X pins σ H s):∀ x c,X.env.cells.lookup x=some c->c ≠ X.env.locals:=fun x c e z=>by
 obtain ⟨v,o,ho,hd⟩:=I.cell x c e;obtain ⟨m,⟨o',es,ep,ho',hd',_⟩,_⟩:=I.loc;rw [z,ho'] at ho;cases ho;rw [hd'] at hd;cases hd
theorem Inv.funs (I:Inv X pins σ H s):s.heap.FunFrames X.base X.outer:=by
 have all:∀ (l:List Env),(∀ b ∈ frs l,b ∈ X.fs)->X.s₀.heap.FunFrames X.base l->s.heap.FunFrames X.base l:=by
  intro l
  induction l with
  | nil=>intro _ _;trivial
  | cons env r ih =>
   intro hs hl;obtain ⟨hk,⟨L,o,hf,hn,ho,hd⟩,hr⟩:=hl;have hL:L ∈ X.fs:=hs L (by unfold frs;rw [List.filterMap_cons,hf];exact List.mem_cons_self);obtain ⟨sl,e⟩:=I.base.slot L o ho (I.ok.frf L hL) hL fun z=>I.ok.exfs L z hL
   exact ⟨hk,⟨L,_,hf,hn,e,hd⟩,ih (fun b hb=>hs b (by unfold frs;rw [List.filterMap_cons,hf];exact List.mem_cons_of_mem _ hb)) hr⟩
 exact all X.outer (fun _ hb=>hb) I.ok.funs
theorem Inv.stack (I:Inv X pins σ H s):s.heap.FunFrames X.base X.stack:=by
 rcases I.ok.stk with e | ⟨e,hf⟩
 ·rw [e];exact I.funs
 ·rw [e]
  obtain ⟨m,hn,_⟩:=I.loc;refine .cons (by rw [I.ok.kind];decide) hf hn ?_ I.funs;exact Heap.get?_none_of_le (Nat.le_trans I.ok.bsz I.ok.above)
theorem Inv.stkSub (I:Inv X pins σ H s):∀ b ∈ frs X.stack,b ∈ X.env.locals::X.fs:=fun b hb=>by
 rcases I.ok.stk with e | ⟨e,hf⟩
 ·rw [e] at hb;exact List.mem_cons_of_mem _ hb
 ·rw [e] at hb
  unfold frs at hb;rw [List.filterMap_cons,hf] at hb;exact hb
theorem Inv.stkFree (I:Inv X pins σ H s):∀ b ∈ frs X.stack,H b=none:=fun b hb=>by
 rcases List.mem_cons.mp (I.stkSub b hb) with e | hb
 ·rw [e];exact I.free
 ·obtain ⟨_,o,ho,_⟩:=I.ok.funs.mem hb
  exact I.base.free b o ho (I.ok.frf b hb) fun z=>I.ok.exfs b z hb
theorem Inv.step {g':Array GenState} {t':Nat} {d':Drawn} {ch:List Addr} (I:Inv X pins σ H s)
  (hch:∀ b ∈ ch,(b ∈ X.ex \/ X.s₀.heap.objs.size<=b) /\ b ≠ X.env.locals /\ (∀ x c,X.env.cells.lookup x=some c->c ≠ b) /\ ∀ p ∈ X.pn++pins,p.1 ≠ b)
  (keep:∀ b o,b ≠ X.env.locals->b ∉ X.fs->b ∉ ch->s.heap.get? b=some o->H b=none->h'.get? b=some o)
  (slot:∀ b o,b ≠ X.env.locals->b ∈ X.fs->b ∉ ch->s.heap.get? b=some o->H b=none->∃ sl,h'.get? b=some { o with slots:=sl }) (free:∀ b o,b ∉ ch->s.heap.get? b=some o->H b=none->H' b=none)
  (there:∀ b o,b ∉ ch->s.heap.get? b=some o->∃ o',h'.get? b=some o')
  (tups:∀ b xs,H b=some (.tup xs)->H' b=some (.tup xs)) (frzs:∀ b o (u:NK),H b=some (.frz o u.1)->H' b=some (.frz o u.1)) (tbls:∀ b ps,H b=some (.tbl ps)->∃ more,H' b=some (.tbl (ps++more)))
  (ns:∀ m,s.heap.Ns X.env.locals m->h'.Ns X.env.locals m) (hok:HOk X.prog X.w H' h') (hg:AllBare g') :
  Inv X pins σ H' { s with heap:=h',gens:=g',drawn:=d',toks:=t' }:=by
 have neL:∀ b o,X.s₀.heap.get? b=some o->b ≠ X.env.locals:=fun b o e=>Nat.ne_of_lt (Nat.lt_of_lt_of_le (Heap.lt_size e) I.ok.above)
 have neC:∀ b o,X.s₀.heap.get? b=some o->b ∉ X.ex->b ∉ ch:=fun b o e hx hb=>by
  rcases (hch b hb).1 with z | z
  ·exact hx z
  ·exact absurd (Nat.lt_of_lt_of_le (Heap.lt_size e) z) (Nat.lt_irrefl _)
 have cellK:∀ x c,X.env.cells.lookup x=some c->∀ v,s.heap.IsCell c v->h'.IsCell c v:=fun x c e v ⟨o,ho,hd⟩=>by
  have nch:c ∉ ch:=fun z=>(hch c z).2.2.1 x c e rfl
  by_cases hc:c ∈ X.fs
  ·obtain ⟨sl,q⟩:=slot c o (I.cne x c e) hc nch ho (I.freeC x c e)
   exact ⟨_,q,hd⟩
  ·exact ⟨o,keep c o (I.cne x c e) hc nch ho (I.freeC x c e),hd⟩
 refine ⟨I.ok,I.os,hg,⟨fun b o e n hb hx=>?_,fun b o e n hb hx=>?_,fun b o e n hx=>?_,fun b o e hx=>?_,fun b xs e=>tups b xs (I.base.tups b xs e),fun b o xs e=>frzs b o xs (I.base.frzs b o xs e),fun b ps e=>?_⟩,?_,fun x c e=>?_,?_,fun x c e=>?_,fun p hp=>?_,hok,I.len⟩
 ·exact keep b o (neL b o e) hb (neC b o e hx) (I.base.keep b o e n hb hx) (I.base.free b o e n hx)
 ·obtain ⟨sl,e1⟩:=I.base.slot b o e n hb hx
  obtain ⟨sl',e2⟩:=slot b _ (neL b o e) hb (neC b o e hx) e1 (I.base.free b o e n hx);exact ⟨sl',e2⟩
 ·obtain ⟨o',e1⟩:=I.base.there b o e hx
  exact free b o' (neC b o e hx) e1 (I.base.free b o e n hx)
 ·obtain ⟨o',e1⟩:=I.base.there b o e hx
  exact there b o' (neC b o e hx) e1
 ·obtain ⟨m1,e1⟩:=I.base.tbls b ps e
  obtain ⟨m2,e2⟩:=tbls b _ e1;exact ⟨m1++m2,by rw [e2,Array.append_assoc]⟩
 ·obtain ⟨m,hn,hl⟩:=I.loc
  refine ⟨m,ns m hn,fun i x v e1 e2 e3=>?_⟩;obtain ⟨u,r,l⟩:=hl i x v e1 e2 e3;refine ⟨u,r,?_⟩
  rcases l with l | ⟨k,c,e,z⟩
  ·exact .inl l
  ·exact .inr ⟨k,c,e,cellK x c e _ z⟩
 ·obtain ⟨v,z⟩:=I.cell x c e
  exact ⟨v,cellK x c e v z⟩
 ·obtain ⟨m,⟨o,_,_,ho,_⟩,_⟩:=I.loc
  exact free _ o (fun z=>(hch _ z).2.1 rfl) ho I.free
 ·obtain ⟨v,o,ho,hd⟩:=I.cell x c e
  exact free c o (fun z=>(hch c z).2.2.1 x c e rfl) ho (I.freeC x c e)
 ·obtain ⟨e,n,ne,nf,d⟩:=I.pin p hp
  have nch:p.1 ∉ ch:=fun z=>(hch p.1 z).2.2.2 p hp rfl
  exact ⟨keep p.1 p.2 ne nf nch e n,free p.1 p.2 nch e n,ne,nf,d⟩
theorem Inv.un {t':Nat} (I:Inv X pins σ H s) (u:Un X.fs [] H H' s.heap h') (hok:HOk X.prog X.w H' h'):Inv X pins σ H' { s with heap:=h',toks:=t' }:=by
 obtain ⟨m,⟨o,es,ep,ho,r⟩,_⟩:=id I.loc;obtain ⟨sl,hL⟩:=u.any ho I.free (by simp);exact I.step (g':=s.gens) (d':=s.drawn) (ch:=[]) (fun _ z=>nomatch z) (fun b o _ hb _ e n=>u.keep b o e n hb (by simp)) (fun b o _ hb _ e n=>u.slot b o e n hb (by simp)) (fun b o _ e n=>u.free b o e n (by simp)) (fun b o _ e=>u.there b o e (by simp)) u.tups u.frzs u.tbls (fun m' hm=>by
  obtain ⟨o',es',ep',ho',r'⟩:=hm;rw [ho] at ho';cases ho';exact ⟨_,es',ep',hL,r'⟩) hok I.bare
theorem Inv.call {g':Array GenState} {t':Nat} {d':Drawn} {ch:List Addr} (I:Inv X pins σ H s) (u:Un (frs X.stack) ch H H' s.heap h') (hok:HOk X.prog X.w H' h') (hg:AllBare g')
  (hch:∀ b ∈ ch,(b ∈ X.ex \/ X.s₀.heap.objs.size<=b) /\ b ≠ X.env.locals /\ (∀ x c,X.env.cells.lookup x=some c->c ≠ b) /\ ∀ p ∈ X.pn++pins,p.1 ≠ b) :
  Inv X pins σ H' { s with heap:=h',gens:=g',drawn:=d',toks:=t' }:=by
 obtain ⟨m,⟨o,es,ep,ho,r⟩,_⟩:=id I.loc;obtain ⟨sl,hL⟩:=u.any ho I.free fun z=>(hch _ z).2.1 rfl
 exact I.step (ch:=ch) hch (fun b o hL hb hc e n=>u.keep b o e n (fun z=>(List.mem_cons.mp (I.stkSub b z)).elim hL hb) hc) (fun b o _ _ hc e n=>u.any e n hc) (fun b o hc e n=>u.free b o e n hc) (fun b o hc e=>u.there b o e hc) u.tups u.frzs u.tbls (fun m' hm=>by
  obtain ⟨o',es',ep',ho',r'⟩:=hm;rw [ho] at ho';cases ho';exact ⟨_,es',ep',hL,r'⟩) hok hg
theorem Inv.turned {t':Nat} {it:Addr} (I:Inv X pins σ H s) (k:∀ b o,b ≠ it->s.heap.get? b=some o->h'.get? b=some o) (hn:H it=none) (hL:it ≠ X.env.locals)
  (h1:it ∈ X.ex \/ X.s₀.heap.objs.size<=it) (h2:∀ x c,X.env.cells.lookup x=some c->c ≠ it) (h3:∀ p ∈ X.pn++pins,p.1 ≠ it):Inv X pins σ H { s with heap:=h',toks:=t' }:=by
 have nit:∀ b u,H b=some u->b ≠ it:=fun b u e z=>by rw [z,hn] at e;cases e
 refine I.step (g':=s.gens) (d':=s.drawn) (ch:=[it]) (fun b hb=>?_) (fun b o _ _ hc e _=>k b o (fun z=>hc (by simp [z])) e) (fun b o _ _ hc e _=>⟨o.slots,k b o (fun z=>hc (by simp [z])) e⟩) (fun _ _ _ _ n=>n)
  (fun b o hc e=>⟨o,k b o (fun z=>hc (by simp [z])) e⟩) (fun _ _ e=>e) (fun _ _ _ e=>e) (fun b ps e=>⟨#[],by rw [e];simp⟩) (fun m hm=>?_) (fun b u e=>?_) I.bare
 ·have e:b=it:=by simpa using hb
  subst e;exact ⟨h1,hL,h2,h3⟩
 ·obtain ⟨o,es,ep,ho,r⟩:=hm
  exact ⟨o,es,ep,k _ o (Ne.symm hL) ho,r⟩
 ·refine (I.hok b u e).stay (fun c v hc q=>k c v ?_ q) (fun _ q=>q) fun _ _ q=>q
  rcases hc with z | z
  ·rw [z];exact nit b u e
  ·exact nit c _ z
theorem Inv.tok (I:Inv X pins σ H s) (t:Nat):Inv X pins σ H { s with toks:=t }:=I.un (h':=s.heap) (t':=t) Un.refl I.hok
theorem Inv.kept {t':Nat} (I:Inv X pins σ H s) (k:∀ b u,s.heap.get? b=some u->h'.get? b=some u):Inv X pins σ H { s with heap:=h',toks:=t' }:=I.un (Un.kept k) (I.hok.kept k)
theorem Inv.laid {a:Addr} {o:HO} {t':Nat} (I:Inv X pins σ H s) (k:∀ b u,s.heap.get? b=some u->h'.get? b=some u) (hp:s.heap.objs.size<=a) (new:ObjOk X.prog X.w (upd H a o) h' a o) :
  Inv X pins σ (upd H a o) { s with heap:=h',toks:=t' }:=I.un (Un.laid k hp (I.hok.fresh hp)) (I.hok.laid k hp new)
theorem Inv.write {x e:Addr} {o:HO} {t':Nat} (I:Inv X pins σ H s) (mu:Mut (H x)) (he:e=x \/ H e=some (.own x)) (k:∀ b u,b ≠ e->s.heap.get? b=some u->h'.get? b=some u) (heo:∃ u,h'.get? e=some u)
  (new:ObjOk X.prog X.w (upd H x o) h' x o):Inv X pins σ (upd H x o) { s with heap:=h',toks:=t' }:=I.un (Un.write mu he k heo) (I.hok.write mu he k heo new)
theorem Inv.pins_of {pins':List (Addr × Obj)} (I:Inv X pins σ H s) (h:∀ p ∈ pins',s.heap.get? p.1=some p.2 /\ H p.1=none /\ p.1 ≠ X.env.locals /\ p.1 ∉ X.fs /\ ∀ v,p.2.data ≠ .cell v):Inv X pins' σ H s :=
 ⟨I.ok,I.os,I.bare,I.base,I.loc,I.cell,I.free,I.freeC,fun p hp=>(List.mem_append.mp hp).elim (fun z=>I.pin p (List.mem_append_left _ z)) (h p),I.hok,I.len⟩
theorem ul8 {N:List Str} (hN:N.Nodup) {i j:Nat} {x:Str} (a:N[i]?=some x) (b:N[j]?=some x):i=j:=by
 obtain ⟨h1,e1⟩:=List.getElem?_eq_some_iff.mp a;obtain ⟨h2,e2⟩:=List.getElem?_eq_some_iff.mp b;exact (List.getElem_inj hN).mp (e1.trans e2.symm)
theorem un1 {M:Model} {A:Around} {E:Value->Shared->Prop} {i:Nat} {x:Str} {v:V} {u:Value} {Q:Unit->Shared->Prop} (I:Inv X pins σ H s) (hN:X.N.Nodup) (hi:X.N[i]?=some x) (hx:Loc X.env.scope x) (r:RelV v u)
  (h:∀ s',Inv X pins (σ.set i (some v)) H s'->(∃ a,Heap.SameBut a s.heap s'.heap /\ (a=X.env.locals \/ X.env.cells.lookup x=some a))->Q () s') (hf:X.fn x=true \/ X.env.scope.names.lookup x=some .local:=by first | exact .inl rfl | exact .inr rfl | assumption):wpAny M A (storeName X.env x u) Q E s:=by
 obtain ⟨m,hn,hl⟩:=id I.loc;have hcls:(X.env.scope.kind == .class || (X.env.scope.kind == .module && X.env.locals != X.env.globals))=false:=by rw [I.ok.kind];rfl
 have hiσ:i < σ.length:=by rw [I.len];exact (List.getElem?_eq_some_iff.mp hi).1
 have cne:=I.cne;have tracked:∀ {a:Addr} {h':Heap},(∃ o,s.heap.get? a=some o /\ H a=none)->Heap.SameBut a s.heap h'->HOk X.prog X.w H h':=fun {a h'} ha hs b ob e=>by
  obtain ⟨_,_,hfree⟩:=ha;refine (I.hok b ob e).stay (fun c w' hc q=>(hs.2 c ?_).trans q) (fun _ q=>q) fun _ _ q=>q
  rintro rfl
  rcases hc with rfl | hc
  ·rw [hfree] at e;cases e
  ·rw [hfree] at hc;cases hc
 rcases hx with hk | hk
 ·refine wpAny_storeName_local hk hn (fun h' hn' hs=>?_) hcls
  obtain ⟨oL,_,_,hoL,_⟩:=id hn;refine h _ ⟨I.ok,I.os,I.bare,⟨fun b o e n hb hx=>?_,fun b o e n hb hx=>?_,I.base.free,fun b o e hx=>?_,I.base.tups,I.base.frzs,I.base.tbls⟩,⟨_,hn',fun j y v' e1 e2 e3=>?_⟩,fun y c e=>?_,I.free,I.freeC,fun p hp=>?_,tracked ⟨oL,hoL,I.free⟩ hs,by simpa using I.len⟩ ⟨_,hs,.inl rfl⟩
  ·exact (hs.2 b (Nat.ne_of_lt (Nat.lt_of_lt_of_le (Heap.lt_size e) I.ok.above))).trans (I.base.keep b o e n hb hx)
  ·obtain ⟨sl,e1⟩:=I.base.slot b o e n hb hx
   exact ⟨sl,(hs.2 b (Nat.ne_of_lt (Nat.lt_of_lt_of_le (Heap.lt_size e) I.ok.above))).trans e1⟩
  ·obtain ⟨o',e1⟩:=I.base.there b o e hx
   exact ⟨o',(hs.2 b (Nat.ne_of_lt (Nat.lt_of_lt_of_le (Heap.lt_size e) I.ok.above))).trans e1⟩
  ·by_cases hj:j=i
   ·subst hj
    rw [hi] at e1;cases e1;rw [List.getElem?_set_self hiσ] at e2;cases e2;exact ⟨u,r,.inl ⟨hk,by simp⟩⟩
   ·rw [List.getElem?_set_ne (Ne.symm hj)] at e2
    obtain ⟨u',r',q⟩:=hl j y v' e1 e2 e3;refine ⟨u',r',?_⟩
    rcases q with ⟨k,e⟩ | ⟨k,c,e,z⟩
    ·refine .inl ⟨k,?_⟩
     have:y ≠ x:=fun e=>hj (ul8 hN e1 (e ▸ hi))
     simp [this,e]
    ·exact .inr ⟨k,c,e,z.sameBut hs (cne y c e)⟩
  ·obtain ⟨w',z⟩:=I.cell y c e
   exact ⟨w',z.sameBut hs (cne y c e)⟩
  ·obtain ⟨e,n,ne,nf,d⟩:=I.pin p hp
   exact ⟨(hs.2 p.1 ne).trans e,n,ne,nf,d⟩
 ·have hfn:X.fn x=true:=by
   rcases hf with z | z
   ·exact z
   ·rw [z] at hk;cases hk
  obtain ⟨c,hc⟩:=I.ok.has x (.inl hk);obtain ⟨w',z⟩:=I.cell x c hc;refine wpAny_storeName_cell I.ok.kind hk hc z (fun h' hc' hs=>?_);obtain ⟨oc,hoc,hocd⟩:=id z;refine h { s with heap:=h' } ⟨I.ok,I.os,I.bare,⟨fun b o e n hb hx=>?_,fun b o e n hb hx=>?_,I.base.free,fun b o e hx=>?_,I.base.tups,I.base.frzs,I.base.tbls⟩,⟨m,hn.sameBut hs (Ne.symm (cne x c hc)),fun j y v' e1 e2 e3=>?_⟩,fun y c' e=>?_,I.free,I.freeC,fun p hp=>?_,tracked ⟨oc,hoc,I.freeC x c hc⟩ hs,by simpa using I.len⟩ ⟨c,hs,.inr hc⟩
  ·exact (hs.2 b (Nat.ne_of_lt (Nat.lt_of_lt_of_le (Heap.lt_size e) (I.ok.cab x c hfn hc)))).trans (I.base.keep b o e n hb hx)
  ·obtain ⟨sl,e1⟩:=I.base.slot b o e n hb hx
   exact ⟨sl,(hs.2 b (Nat.ne_of_lt (Nat.lt_of_lt_of_le (Heap.lt_size e) (I.ok.cab x c hfn hc)))).trans e1⟩
  ·obtain ⟨o',e1⟩:=I.base.there b o e hx
   exact ⟨o',(hs.2 b (Nat.ne_of_lt (Nat.lt_of_lt_of_le (Heap.lt_size e) (I.ok.cab x c hfn hc)))).trans e1⟩
  ·by_cases hj:j=i
   ·subst hj
    rw [hi] at e1;cases e1;rw [List.getElem?_set_self hiσ] at e2;cases e2;exact ⟨u,r,.inr ⟨.inl hk,c,hc,hc'⟩⟩
   ·rw [List.getElem?_set_ne (Ne.symm hj)] at e2
    obtain ⟨u',r',q⟩:=hl j y v' e1 e2 e3;refine ⟨u',r',?_⟩
    rcases q with q | ⟨k,c',e,z'⟩
    ·exact .inl q
    ·refine .inr ⟨k,c',e,z'.sameBut hs ?_⟩
     rintro rfl;exact hj (ul8 hN e1 (I.ok.inj _ _ _ e hc ▸ hi))
  ·by_cases hcc:c'=c
   ·subst hcc;exact ⟨_,hc'⟩
   ·obtain ⟨w2,z2⟩:=I.cell y c' e
    exact ⟨w2,z2.sameBut hs hcc⟩
  ·obtain ⟨e,n,ne,nf,d⟩:=I.pin p hp
   refine ⟨(hs.2 p.1 ?_).trans e,n,ne,nf,d⟩;intro q;rw [q,hoc] at e;have q':oc=p.2:=Option.some.inj e;exact d w' (by rw [<- q'];exact hocd)
theorem ue1 {M:Model} {A:Around} {E:Value->Shared->Prop} {i:Nat} {x:Str} {v:V} {u:Value} {Q:Unit->Shared->Prop} (I:Inv X pins σ H s) (hN:X.N.Nodup) (hi:X.N[i]?=some x) (hx:Loc X.env.scope x) (r:RelV v u)
  (h:∀ s',Inv X pins (σ.set i (some v)) H s'->Q () s') (hf:X.fn x=true \/ X.env.scope.names.lookup x=some .local:=by first | exact .inl rfl | exact .inr rfl | assumption):wpAny M A (storeName X.env x u) Q E s :=
 un1 I hN hi hx r (fun s' I' _=>h s' I') hf
theorem Inv.call' {s':Shared} {ch:List Addr} (I:Inv X pins σ H s) (ho:s'.os=s.os) (u:Un (frs X.stack) ch H H' s.heap s'.heap) (hok:HOk X.prog X.w H' s'.heap) (hg:AllBare s'.gens)
  (hch:∀ b ∈ ch,(b ∈ X.ex \/ X.s₀.heap.objs.size<=b) /\ b ≠ X.env.locals /\ (∀ x c,X.env.cells.lookup x=some c->c ≠ b) /\ ∀ p ∈ X.pn++pins,p.1 ≠ b):Inv X pins σ H' s':=by
 obtain ⟨h',g',d',t',o'⟩:=s';have e:o'=s.os:=ho;subst e;exact I.call (g':=g') (t':=t') (d':=d') u hok hg hch
end
abbrev XK:=Value->Option Addr->Hp->Prop
abbrev St:=List (Option V)
abbrev VK:=V->Hp->Prop
abbrev TE:=St->Hp->VK->Prop
abbrev TT:=St->Hp->(Bool->Hp->Prop)->Prop
abbrev TA:=St->Hp->(List V->Hp->Prop)->Prop
structure Ends where
 nx:St->Hp->Prop
 rt:VK
 bk:St->Hp->Prop:=fun _ _=>False
 ct:St->Hp->Prop:=fun _ _=>False
abbrev TS:=Ends->St->Hp->Prop
def EP (X:Cx) (pins:List (Addr × Obj)) (σ:St) (Q:VK) (u:Value) (s':Shared):Prop:=∃ v H',Inv X pins σ H' s' /\ RelV v u /\ Q v H'
def TP (X:Cx) (pins:List (Addr × Obj)) (σ:St) (Q:Bool->Hp->Prop) (b:Bool) (s':Shared):Prop:=∃ H',Inv X pins σ H' s' /\ Q b H'
def AP (X:Cx) (pins:List (Addr × Obj)) (σ:St) (Q:List V->Hp->Prop) (us:List Value) (s':Shared):Prop:=∃ vs H',Inv X pins σ H' s' /\ Vals vs us /\ Q vs H'
def SP (X:Cx) (pins:List (Addr × Obj)) (D:Ends) (f:Flow) (s':Shared):Prop :=
 match f with
 | .next=>∃ σ' H',Inv X pins σ' H' s' /\ D.nx σ' H'
 | .brk=>∃ σ' H',Inv X pins σ' H' s' /\ D.bk σ' H'
 | .cont=>∃ σ' H',Inv X pins σ' H' s' /\ D.ct σ' H'
 | .ret u=>∃ v σ' H',Inv X pins σ' H' s' /\ RelV v u /\ D.rt v H'
def PE (X:Cx) (e:Expr) (t:TE):Prop :=
 ∀ (pins:List (Addr × Obj)) (s:Shared) (σ:St) (H:Hp) (Q:VK),Inv X pins σ H s->t σ H Q->wpAny (model X.prog X.w) X.A (eval e X.env) (EP X pins σ Q) X.xe s
def PT (X:Cx) (e:Expr) (t:TT):Prop :=
 ∀ (pins:List (Addr × Obj)) (s:Shared) (σ:St) (H:Hp) (Q:Bool->Hp->Prop),Inv X pins σ H s->t σ H Q->wpAny (model X.prog X.w) X.A (isTrue e X.env (eval e X.env)) (TP X pins σ Q) X.xe s
def PW (X:Cx) (e:Expr) (t:TT):Prop :=
 ∀ (whole:Sem Value) (pins:List (Addr × Obj)) (s:Shared) (σ:St) (H:Hp) (Q:Bool->Hp->Prop),Inv X pins σ H s->t σ H Q->wpAny (model X.prog X.w) X.A (isTrue e X.env whole) (TP X pins σ Q) X.xe s
theorem PW.pt {X:Cx} {e:Expr} {t:TT} (h:PW X e t):PT X e t:=h _
def PA (X:Cx) (es:List Expr) (t:TA):Prop :=
 ∀ (pos:Pos) (pins:List (Addr × Obj)) (s:Shared) (σ:St) (H:Hp) (Q:List V->Hp->Prop),Inv X pins σ H s->t σ H Q->wpAny (model X.prog X.w) X.A (spliced (backTo pos (starEach es X.env))) (AP X pins σ Q) X.xe s
def PS (X:Cx) (st:Stmt) (t:TS):Prop :=
 ∀ (pins:List (Addr × Obj)) (s:Shared) (σ:St) (H:Hp) (D:Ends),Inv X pins σ H s->t D σ H->wpAny (model X.prog X.w) X.A (exec st X.env) (SP X pins D) X.xe s
def PSs (X:Cx) (st:List Stmt) (t:TS):Prop :=
 ∀ (pins:List (Addr × Obj)) (s:Shared) (σ:St) (H:Hp) (D:Ends),Inv X pins σ H s->t D σ H->wpAny (model X.prog X.w) X.A (execs st X.env) (SP X pins D) X.xe s
theorem thn {α:Type} {t:Sem α} {Q Q':α->Shared->Prop} {M:Model} {A:Around} {E:Value->Shared->Prop} {s:Shared} (h:wpAny M A t Q E s) (hQ:∀ a s,Q a s->Q' a s):wpAny M A t Q' E s:=wpAny_mono h hQ fun _ _ x=>x
section
variable {X:Cx}
def tVar (i:Nat):TE:=fun σ H Q=>∃ v,σ[i]?=some (some v) /\ Q v H
def tC (v:V):TE:=fun _ H Q=>Q v H
theorem vo6 {i:Nat} {x:Str} {pos:Pos} (hN:X.N[i]?=some x) (hv:Vis X.env.scope x) (hd:(x == ("__debug__" : Str))=false:=by decide) (hcd:(x == ("__classdict__" : Str))=false:=by decide):PE X (.Name x pos) (tVar i):=by
 intro pins s σ H Q I h;obtain ⟨v,e,h⟩:=h;obtain ⟨m,hn,hl⟩:=I.loc;obtain ⟨u,r,l⟩:=hl i x v hN e hv;have fin:EP X pins σ Q u s:=⟨v,H,I,r,h⟩
 rcases l with ⟨hk,hm⟩ | ⟨hk,c,hc,hcell⟩
 ·exact wpAny_Name (wpAny_loadName_local I.ok.kind hk hn hm fin) hd
 ·rcases hk with hk | hk
  ·exact wpAny_Name (wpAny_loadName_cell I.ok.kind hk hc hcell fin) hd
  ·exact wpAny_Name (wpAny_loadName_free I.ok.kind hk hc hcell fin hcd) hd
theorem wc8 {i j pos}:PE X (.Constant (.int i) j pos) (tC (.int i)):=fun _ _ _ H _ I h=>wpAny_Constant_int ⟨.int i,H,I.tok _,⟨_,rfl⟩,h⟩
theorem wp6 {b j pos}:PE X (.Constant (.bool b) j pos) (tC (.bl b)):=fun _ _ _ H _ I h=>Constant_bool ⟨.bl b,H,I,rfl,h⟩
theorem wc6 {j pos}:PE X (.Constant .none j pos) (tC .non):=fun _ _ _ H _ I h=>Constant_none ⟨.non,H,I,rfl,h⟩
theorem wc3 {x j pos}:PE X (.Constant (.str x) j pos) (tC (.str x)):=fun _ _ _ H _ I h=>Calls.Constant_str ⟨.str x,H,I.tok _,⟨_,rfl⟩,h⟩
def Gl (X:Cx) (x:Str):Prop:=X.env.kindOf x=some .globalImplicit
theorem ua3 {E:Value->Shared->Prop} {pins:List (Addr × Obj)} {s:Shared} {σ:St} {H:Hp} {x:Str} {u:Value} {pos:Pos} {Q:Value->Shared->Prop} (I:Inv X pins σ H s) (hg:Gl X x) (hm:X.mg x=some u) (h:Q u s)
  (hd:(x == ("__debug__" : Str))=false:=by decide):wpAny (model X.prog X.w) X.A (eval (.Name x pos) X.env) Q E s :=
 Calls.Name_function_global I.ok.kind hg (Calls.loadGlobal_global (by rw [I.ok.glob];exact I.mod.glob.keeps I.bk) hm h) hd
theorem uo7 {E:Value->Shared->Prop} {pins:List (Addr × Obj)} {s:Shared} {σ:St} {H:Hp} {x:Str} {u:Value} {pos:Pos} {Q:Value->Shared->Prop} (I:Inv X pins σ H s) (hg:Gl X x) (hm:X.mg x=none) (hv:bootBuiltins x=some u) (h:Q u s)
  (hn:x ≠ "__name__" := by decide) (hd:(x == ("__debug__" : Str))=false:=by decide):wpAny (model X.prog X.w) X.A (eval (.Name x pos) X.env) Q E s:=by
 obtain ⟨mb,h1,h2⟩:=I.mod.blt;exact Calls.Name_function_global I.ok.kind hg (Calls.loadGlobal_builtin (by rw [I.ok.glob];exact I.mod.glob.keeps I.bk) hm (by rw [I.ok.blt];exact h1.keeps I.bk) ((h2 x hn).trans hv) h) hd
theorem vy7 {x:Str} {v:V} {u:Value} {pos:Pos} (hg:Gl X x) (hm:X.mg x=some u) (r:RelV v u) (hd:(x == ("__debug__" : Str))=false:=by decide):PE X (.Name x pos) (tC v) :=
 fun _ _ _ H _ I h=>ua3 I hg hm ⟨v,H,I,r,h⟩ hd
theorem vz0 {x:Str} {v:V} {u:Value} {pos:Pos} (hg:Gl X x) (hm:X.mg x=none) (hv:bootBuiltins x=some u) (r:RelV v u) (hn:x ≠ "__name__" := by decide) (hd:(x == ("__debug__" : Str))=false:=by decide):PE X (.Name x pos) (tC v) :=
 fun _ _ _ H _ I h=>uo7 I hg hm hv ⟨v,H,I,r,h⟩ hn hd
variable {a b:Expr} {ta tb:TE} {pos:Pos}
def tB (t:TE):TT:=fun σ H Q=>t σ H fun x H1=>∃ c,x=.bl c /\ Q c H1
theorem wb0 {e:Expr} {t:TE} (h:PE X e t) (he:∀ whole,isTrue e X.env whole=(do let v <- whole;standAt e.pos;holding [v] (truthy v)):=by intro _;rfl):PT X e (tB t):=by
 intro pins s σ H Q I hw
 (refine isTrue_plain (thn (h pins s σ H _ I hw) ?_) (he _);rintro v s1 ⟨x,H1,I1,r1,q1⟩)
 obtain ⟨d,rfl,q⟩:=q1;cases r1;exact wpAny_truthy_bool ⟨H1,I1,q⟩
variable {tA tB':TT} {rest:List Expr}
def tAnd (t u:TT):TT:=fun σ H Q=>t σ H fun c H1=>if c=true then u σ H1 Q else Q false H1
def tOr (t u:TT):TT:=fun σ H Q=>t σ H fun c H1=>if c=true then Q true H1 else u σ H1 Q
def tNot (t:TT):TT:=fun σ H Q=>t σ H fun c H1=>Q (!c) H1
theorem vx2 (ha:PT X a tA):PW X (.BoolOp .And [a] pos) tA:=by
 intro wh pins s σ H Q I h;refine isTrue_and (thn (ha pins s σ H Q I h) fun c s1 e=>?_);cases c with
 | true=>exact isTrue_and_nil e
 | false=>exact e
theorem wa8 (ha:PT X a tA):PW X (.BoolOp .Or [a] pos) tA:=by
 intro wh pins s σ H Q I h;refine isTrue_or (thn (ha pins s σ H Q I h) fun c s1 e=>?_);cases c with
 | false=>exact isTrue_or_nil e
 | true=>exact e
theorem wa9 (ha:PT X a tA) (hb:PW X (.BoolOp .And (b::rest) pos) tB'):PW X (.BoolOp .And (a::b::rest) pos) (tAnd tA tB'):=by
 intro wh pins s σ H Q I h
 (refine isTrue_and (thn (ha pins s σ H _ I h) ?_);rintro c s1 ⟨H1,I1,q1⟩)
 cases c with
 | true=>exact hb wh pins s1 σ H1 Q I1 q1
 | false=>exact ⟨H1,I1,q1⟩
theorem wo8 (ha:PT X a tA) (hb:PW X (.BoolOp .Or (b::rest) pos) tB'):PW X (.BoolOp .Or (a::b::rest) pos) (tOr tA tB'):=by
 intro wh pins s σ H Q I h
 (refine isTrue_or (thn (ha pins s σ H _ I h) ?_);rintro c s1 ⟨H1,I1,q1⟩)
 cases c with
 | true=>exact ⟨H1,I1,q1⟩
 | false=>exact hb wh pins s1 σ H1 Q I1 q1
theorem wb1 (ha:PT X a tA):PT X (.UnaryOp .Not a pos) (tNot tA):=by
 intro pins s σ H Q I h;exact isTrue_not (ha pins s σ H (fun c H1=>Q (!c) H1) I h)
def w98 (ta tb:TE):TE:=fun σ H Q=>ta σ H fun x H1=>∃ c,x=.bl c /\ if c=true then tb σ H1 Q else Q (.bl false) H1
def tOrV (ta tb:TE):TE:=fun σ H Q=>ta σ H fun x H1=>∃ c,x=.bl c /\ if c=true then Q (.bl true) H1 else tb σ H1 Q
def w94 (ta:TE):TE:=fun σ H Q=>ta σ H fun x H1=>∃ c,x=.bl c /\ Q (.bl (!c)) H1
theorem wc4 {op} {t:TE} (h:PE X a t):PE X (.BoolOp op [a] pos) t:=fun pins s σ H Q I hw=>BoolOp_one (h pins s σ H Q I hw)
theorem wd1 (ha:PE X a ta) (hb:PE X (.BoolOp .And (b::rest) pos) tb):PE X (.BoolOp .And (a::b::rest) pos) (w98 ta tb):=by
 intro pins s σ H Q I h
 (refine BoolOp_and (thn (ha pins s σ H _ I h) ?_);rintro v s1 ⟨x,H1,I1,r1,q1⟩)
 obtain ⟨c,rfl,q1⟩:=q1;cases r1;refine wpAny_truthy_bool ?_;cases c with
 | true=>exact hb pins s1 σ H1 Q I1 q1
 | false=>exact ⟨.bl false,H1,I1,rfl,q1⟩
theorem wp3 (ha:PE X a ta) (hb:PE X (.BoolOp .Or (b::rest) pos) tb):PE X (.BoolOp .Or (a::b::rest) pos) (tOrV ta tb):=by
 intro pins s σ H Q I h
 (refine BoolOp_or (thn (ha pins s σ H _ I h) ?_);rintro v s1 ⟨x,H1,I1,r1,q1⟩)
 obtain ⟨c,rfl,q1⟩:=q1;cases r1;refine wpAny_truthy_bool ?_;cases c with
 | false=>exact hb pins s1 σ H1 Q I1 q1
 | true=>exact ⟨.bl true,H1,I1,rfl,q1⟩
theorem wc5 (ha:PE X a ta):PE X (.UnaryOp .Not a pos) (w94 ta):=by
 intro pins s σ H Q I h
 (refine UnaryOp_ (thn (ha pins s σ H _ I h) ?_);rintro v s1 ⟨x,H1,I1,r1,q1⟩)
 obtain ⟨c,rfl,q1⟩:=q1;cases r1;exact not_of (wpAny_truthy_bool ⟨.bl (!c),H1,I1,rfl,q1⟩)
def tIf (t:TT) (ta tb:TE):TE:=fun σ H Q=>t σ H fun c H1=>if c=true then ta σ H1 Q else tb σ H1 Q
theorem vg6 {c:Expr} (hc:PT X c tA) (ha:PE X a ta) (hb:PE X b tb):PE X (.IfExp c a b pos) (tIf tA ta tb):=by
 intro pins s σ H Q I h
 (refine wpAny_IfExp (thn (hc pins s σ H _ I h) ?_);rintro d s1 ⟨H1,I1,q1⟩)
 cases d with
 | true=>exact ha pins s1 σ H1 Q I1 q1
 | false=>exact hb pins s1 σ H1 Q I1 q1
end
def SqL (K:W.Frag) (H:Hp) (a:Addr) (xs:List V):Prop :=
 Rd H a (.lst xs) \/
  ∃ (o:Obj) (its:Array Value) (n:Nat),K.lookup a=some o /\ o.cls=.type "list" /\ o.dict=none /\ o.data=.seq its n /\ its.size<=sizeLine /\ Vals xs its.toList
def SqT (K:W.Frag) (H:Hp) (a:Addr) (xs:List V):Prop :=
 Rd H a (.tup xs) \/
  ∃ (o:Obj) (its:Array Value) (n:Nat),K.lookup a=some o /\ o.cls=.type "tuple" /\ o.data=.seq its n /\ its.size<=sizeLine /\ Vals xs its.toList /\ o.dict=none
def absV:Value->Option V
 | .none=>some .non
 | .bool b=>some (.bl b)
 | .int i _=>some (.int i)
 | .str x _=>some (.str x)
 | .bytes b _=>some (.byt b)
 | .float b _=>some (.flt b)
 | .ref a=>some (.ref a)
 | .type n=>some (.ty n)
 | _=>none
theorem RelV.abs {x:V} {u:Value} (r:RelV x u):absV u=some x:=by
 cases x with
 | non=>cases r;rfl
 | bl _=>cases r;rfl
 | int _=>obtain ⟨t,rfl⟩:=r;rfl
 | str _=>obtain ⟨t,rfl⟩:=r;rfl
 | byt _=>obtain ⟨t,rfl⟩:=r;rfl
 | flt _=>obtain ⟨t,rfl⟩:=r;rfl
 | ref _=>cases r;rfl
 | ty _=>cases r;rfl
theorem RelV.inj {x y:V} {u:Value} (r:RelV x u) (q:RelV y u):x=y:=Option.some.inj (r.abs.symm.trans q.abs)
theorem Vals.inj:∀ {xs ys:List V} {us:List Value},Vals xs us->Vals ys us->xs=ys
 | _,_,_,.nil,.nil=>rfl
 | _,_,_,.cons r t,.cons r' t'=>by rw [r.inj r',Vals.inj t t']
section
variable {X:Cx} {pins:List (Addr × Obj)} {σ:St} {H:Hp} {s:Shared} {a:Addr} {xs ys:List V}
theorem SqL.of {K:W.Frag} (h:H a=some (.lst xs)):SqL K H a xs:=.inl (.inl h)
theorem SqT.of {K:W.Frag} (h:H a=some (.tup xs)):SqT K H a xs:=.inl (.inl h)
theorem Inv.list (I:Inv X pins σ H s) (h:SqL X.K H a xs):∃ its:List Value,Vals xs its /\ PlainL s.heap a its.toArray /\ xs.length<=sizeLine:=by
 rcases h with h | ⟨o,its,n,hk,hc,hd,hs,hz,r⟩
 ·obtain ⟨z,its,n,r,e⟩:=h.ok I.hok
  exact ⟨its,r,⟨_,n,e,rfl,rfl,rfl⟩,z⟩
 ·refine ⟨its.toList,r,⟨o,n,I.kIn a o hk,hc,hd,by simpa using hs⟩,?_⟩
  have e:=r.length;simp only [Array.length_toList] at e;omega
theorem Inv.tuple (I:Inv X pins σ H s) (h:SqT X.K H a xs):∃ its:List Value,Vals xs its /\ IsTup s.heap a its.toArray /\ xs.length<=sizeLine:=by
 rcases h with h | ⟨o,its,n,hk,hc,hs,hz,r,_⟩
 ·obtain ⟨z,its,r,p⟩:=h.ok I.hok
  exact ⟨its,r,p.tup,z⟩
 ·refine ⟨its.toList,r,⟨o,I.kIn a o hk,hc,n,by simpa using hs⟩,?_⟩
  have e:=r.length;simp only [Array.length_toList] at e;omega
theorem Inv.list_inj (I:Inv X pins σ H s) (h:SqL X.K H a xs) (h':SqL X.K H a ys):xs=ys:=by
 obtain ⟨its,r,⟨o,n,e,_,_,d⟩,_⟩:=I.list h;obtain ⟨its',r',⟨o',n',e',_,_,d'⟩,_⟩:=I.list h';rw [e] at e';cases e';rw [d] at d';injection d' with d1 _
 have:its=its':=by simpa using congrArg Array.toList d1
 subst this;exact r.inj r'
theorem Inv.tuple_inj (I:Inv X pins σ H s) (h:SqT X.K H a xs) (h':SqT X.K H a ys):xs=ys:=by
 obtain ⟨its,r,⟨o,e,_,n,d⟩,_⟩:=I.tuple h;obtain ⟨its',r',⟨o',e',_,n',d'⟩,_⟩:=I.tuple h';rw [e] at e';cases e';rw [d] at d';injection d' with d1 _
 have:its=its':=by simpa using congrArg Array.toList d1
 subst this;exact r.inj r'
end
abbrev Cx.wish (X:Cx) (E:Value->Shared->Prop):Cx:={ X with xe:=E }
abbrev Cx.nox (X:Cx):Cx:=X.wish fun _ _=>False
theorem Cx.Ok.wish {X:Cx} (ok:X.Ok) (E:Value->Shared->Prop):(X.wish E).Ok :=
 ⟨ok.mod,ok.kind,ok.glob,ok.blt,ok.above,ok.inj,ok.has,ok.cab,ok.hd,ok.frames,ok.stk,ok.exf,ok.bs,ok.bsz,ok.noex,ok.exfs,ok.funs,ok.frf⟩
theorem Cx.Ok.unwish {X:Cx} {E:Value->Shared->Prop} (ok:(X.wish E).Ok):X.Ok :=
 ⟨ok.mod,ok.kind,ok.glob,ok.blt,ok.above,ok.inj,ok.has,ok.cab,ok.hd,ok.frames,ok.stk,ok.exf,ok.bs,ok.bsz,ok.noex,ok.exfs,ok.funs,ok.frf⟩
section
variable {X:Cx} {pins:List (Addr × Obj)} {σ:St} {H:Hp} {s:Shared} {E:Value->Shared->Prop}
theorem Inv.wish (I:Inv X pins σ H s) (E:Value->Shared->Prop):Inv (X.wish E) pins σ H s:=⟨I.ok.wish E,I.os,I.bare,I.base,I.loc,I.cell,I.free,I.freeC,I.pin,I.hok,I.len⟩
theorem Inv.unwish (I:Inv (X.wish E) pins σ H s):Inv X pins σ H s:=⟨I.ok.unwish,I.os,I.bare,I.base,I.loc,I.cell,I.free,I.freeC,I.pin,I.hok,I.len⟩
theorem SP.unwish {D:Ends} {f:Flow} {s':Shared} (h:SP (X.wish E) pins D f s'):SP X pins D f s':=by
 cases f with
 | next=>obtain ⟨σ',H',I,q⟩:=h;exact ⟨σ',H',I.unwish,q⟩
 | brk=>obtain ⟨σ',H',I,q⟩:=h;exact ⟨σ',H',I.unwish,q⟩
 | cont=>obtain ⟨σ',H',I,q⟩:=h;exact ⟨σ',H',I.unwish,q⟩
 | ret u=>obtain ⟨v,σ',H',I,r,q⟩:=h;exact ⟨v,σ',H',I.unwish,r,q⟩
theorem PE.nox {e:Expr} {t:TE} (h:PE X.nox e t):PE X e t:=fun pins s σ H Q I hw =>
 wpAny_mono (h pins s σ H Q (I.wish _) hw) (fun _ _ ⟨v,H',I',r,q⟩=>⟨v,H',I'.unwish,r,q⟩) fun _ _ z=>False.elim z
theorem PT.nox {e:Expr} {t:TT} (h:PT X.nox e t):PT X e t:=fun pins s σ H Q I hw =>
 wpAny_mono (h pins s σ H Q (I.wish _) hw) (fun _ _ ⟨H',I',q⟩=>⟨H',I'.unwish,q⟩) fun _ _ z=>False.elim z
theorem PSs.nox {st:List Stmt} {t:TS} (h:PSs X.nox st t):PSs X st t:=fun pins s σ H D I hw =>
 wpAny_mono (h pins s σ H D (I.wish _) hw) (fun _ _ q=>q.unwish) fun _ _ z=>False.elim z
end
section
variable {X:Cx} {st:Stmt} {rest:List Stmt} {t u:TS} {e:Expr} {te:TE} {pos:Pos}
def w95:TS:=fun D σ H=>D.nx σ H
def tSeq (t u:TS):TS:=fun D σ H=>t { D with nx:=u D } σ H
theorem vx4:PSs X [] w95:=fun _ _ σ H _ I h=>wpAny_execs_nil ⟨σ,H,I,h⟩
theorem uu6 (h1:PS X st t) (h2:PSs X rest u):PSs X (st::rest) (tSeq t u):=by
 intro pins s σ H D I h;refine wpAny_execs_cons (thn (h1 pins s σ H { D with nx:=u D } I h) fun f s1 q=>?_);cases f with
 | next =>
  obtain ⟨σ',H',I',q⟩:=q;exact h2 pins s1 σ' H' D I' q
 | ret v=>exact q
 | brk=>exact q
 | cont=>exact q
theorem v44 (h1:PS X st t):PSs X [st] t:=by
 intro pins s σ H D I h;refine wpAny_execs_cons (thn (h1 pins s σ H D I h) fun f s1 q=>?_);cases f with
 | next=>exact wpAny_execs_nil q
 | ret v=>exact q
 | brk=>exact q
 | cont=>exact q
theorem Inv.quiet {pins:List (Addr × Obj)} {σ:St} {H:Hp} {s:Shared} (I:Inv X pins σ H s):interactive X.env=false:=by simp [interactive,I.ok.kind]
def vs0 (te:TE):TS:=fun D σ H=>te σ H fun _ H1=>D.nx σ H1
theorem v45 (he:PE X e te) (hs:swapsWith e none pos.line X.env=pure false:=by rfl):PS X (.Expr e pos) (vs0 te):=by
 intro pins s σ H D I h
 (refine wpAny_Expr_any (thn (he pins s σ H _ I h) ?_) I.quiet hs;rintro v s1 ⟨x,H1,I1,r1,q1⟩;exact ⟨σ,H1,I1,q1⟩)
def tRet (te:TE):TS:=fun D σ H=>te σ H D.rt
theorem wb3 (he:PE X e te):PS X (.Return (some e) pos) (tRet te):=by
 intro pins s σ H D I h
 (refine wpAny_Return_some (thn (he pins s σ H _ I h) ?_);rintro v s1 ⟨x,H1,I1,r1,q1⟩;exact ⟨x,σ,H1,I1,r1,q1⟩)
def tIfS (c:TT) (t u:TS):TS:=fun D σ H=>c σ H fun b H1=>if b=true then t D σ H1 else u D σ H1
theorem wo9 {c:Expr} {a b:List Stmt} {tc:TT} (hc:PT X c tc) (ha:PSs X a t) (hb:PSs X b u):PS X (.If c a b pos) (tIfS tc t u):=by
 intro pins s σ H D I h
 (refine wpAny_If (thn (hc pins s σ H _ I h) ?_);rintro d s1 ⟨H1,I1,q1⟩)
 cases d with
 | true=>exact ha pins s1 σ H1 D I1 q1
 | false=>exact hb pins s1 σ H1 D I1 q1
end
abbrev TG:=V->St->Hp->(St->Hp->Prop)->Prop
abbrev TGs:=List V->St->Hp->(St->Hp->Prop)->Prop
def PG (X:Cx) (target:Expr) (t:TG):Prop :=
 ∀ (pins:List (Addr × Obj)) (s:Shared) (σ:St) (H:Hp) (v:V) (u:Value) (Q:St->Hp->Prop),Inv X pins σ H s->RelV v u->t v σ H Q ->
  wpAny (model X.prog X.w) X.A (assign target X.env u) (fun _ s'=>∃ σ' H',Inv X pins σ' H' s' /\ Q σ' H') X.xe s
def PGs (X:Cx) (ts:List Expr) (t:TGs):Prop :=
 ∀ (pins:List (Addr × Obj)) (s:Shared) (σ:St) (H:Hp) (vs:List V) (us:List Value) (Q:St->Hp->Prop),Inv X pins σ H s->Vals vs us->t vs σ H Q ->
  wpAny (model X.prog X.w) X.A (assignInOrder ((assignEach ts X.env).map (·.2)) us) (fun _ s'=>∃ σ' H',Inv X pins σ' H' s' /\ Q σ' H') X.xe s
abbrev TSet:=V->V->V->Hp->(Hp->Prop)->Prop
def PSet (X:Cx) (t:TSet):Prop :=
 ∀ (pins:List (Addr × Obj)) (s:Shared) (σ:St) (H:Hp) (o i v:V) (ov iv u:Value) (Q:Hp->Prop),Inv X pins σ H s->RelV o ov->RelV i iv->RelV v u->t o i v H Q ->
  wpAny (model X.prog X.w) X.A (setItem ov iv u) (fun _ s'=>∃ H',Inv X pins σ H' s' /\ Q H') X.xe s
section
variable {X:Cx} {pos:Pos}
def w24 (i:Nat):TG:=fun v σ H Q=>Q (σ.set i (some v)) H
theorem vy3 {i:Nat} {x:Str} (hN:X.N.Nodup) (hi:X.N[i]?=some x) (hx:Loc X.env.scope x) (hf:X.fn x=true \/ X.env.scope.names.lookup x=some .local:=by first | exact .inl rfl | exact .inr rfl | assumption):PG X (.Name x pos) (w24 i):=by
 intro pins s σ H v u Q I r h;exact wpAny_assign_Name (ue1 I hN hi hx r (fun s' I'=>⟨_,H,I',h⟩) hf)
def gNil:TGs:=fun vs σ H Q=>vs=[] /\ Q σ H
def wl2 (t:TG) (u:TGs):TGs:=fun vs σ H Q=>∃ v r,vs=v::r /\ t v σ H fun σ' H'=>u r σ' H' Q
theorem vy2:PGs X [] gNil:=by
 intro pins s σ H vs us Q I r h;obtain ⟨e,h⟩:=h;subst e;cases r;exact assignInOrder_nil ⟨σ,H,I,h⟩
theorem vg2 {e:Expr} {es:List Expr} {t:TG} {u:TGs} (h1:PG X e t) (h2:PGs X es u)
  (hs:(assignEach (e::es) X.env).map (·.2)=assign e X.env::(assignEach es X.env).map (·.2):=by rfl):PGs X (e::es) (wl2 t u):=by
 intro pins s σ H vs us Q I r h;obtain ⟨v,vr,e1,h⟩:=h;subst e1;cases r with
 | cons r rr =>
  rw [hs]
  (refine assignInOrder_cons (thn (h1 pins s σ H _ _ _ I r h) ?_);rintro _ s1 ⟨σ1,H1,I1,q1⟩)
  exact h2 pins s1 σ1 H1 _ _ Q I1 rr q1
def gTup (K:W.Frag) (n:Nat) (t:TGs):TG:=fun v σ H Q=>∃ a xs,v=.ref a /\ SqT K H a xs /\ xs.length=n /\ t xs σ H Q
theorem wc0 {es:List Expr} {k:Nat} {t:TGs} {n:Nat} (hc:X.calm=true) (h:PGs X es t)
  (hn:(assignEach es X.env).length=n:=by rfl) (hst:(assignEach es X.env).findIdx? (·.1)=none:=by rfl):PG X (.Tuple es k pos) (gTup X.K n t):=by
 intro pins s σ H v u Q I r hw;obtain ⟨a,xs,e1,hq,hl,hw⟩:=hw;subst e1;cases r;obtain ⟨its,rv,ht,hz⟩:=I.tuple hq;refine assign_Tuple_tuple (I.ok.hd hc) ht (by simp [hn,<- hl,rv.length]) hst fun h' hx=>?_
 have I1:Inv X pins σ H { s with heap:=h' }:=I.kept (t':=s.toks) fun b o e=>hx b o (Nat.ne_of_lt (Heap.lt_size e)) e
 exact h pins _ σ H xs _ Q I1 (by simpa using rv) hw
def gSub (to ti:TE) (t:TSet):TG:=fun v σ H Q=>to σ H fun o H1=>ti σ H1 fun i H2=>t o i v H2 fun H3=>Q σ H3
theorem wc1 {o i:Expr} {to ti:TE} {t:TSet} (ho:PE X o to) (hi:PE X i ti) (hs:PSet X t)
  (ha:∀ v,assign (.Subscript o i pos) X.env v=(do
   let ov <- holding [v] (eval o X.env)
   let iv <- holding [v,ov] (eval i X.env)
   standAt pos
   holding [v,ov,iv] (setItem ov iv v)
   release [v,ov,iv] []):=by intro _;rfl):PG X (.Subscript o i pos) (gSub to ti t):=by
 intro pins s σ H v u Q I r h;rw [ha]
 (refine wpAny_bind (wpAny_holding (thn (ho pins s σ H _ I h) ?_));rintro ov s1 ⟨x,H1,I1,r1,q1⟩)
 (refine wpAny_bind (wpAny_holding (thn (hi pins s1 σ H1 _ I1 q1) ?_));rintro iv s2 ⟨y,H2,I2,r2,q2⟩)
 (refine wpAny_bind (wpAny_standAt (wpAny_bind (wpAny_holding (thn (hs pins s2 σ H2 x y v ov iv u _ I2 r1 r2 r q2) ?_))));rintro _ s3 ⟨H3,I3,q3⟩)
 exact wpAny_release ⟨σ,H3,I3,q3⟩
def tAsg (te:TE) (g:TG):TS:=fun D σ H=>te σ H fun x H1=>g x σ H1 D.nx
theorem wb6 {tg e:Expr} {te:TE} {g:TG} (he:PE X e te) (hg:PG X tg g) (hs:swapsWithSole [tg] e pos.line X.env=pure false:=by rfl) (hw:swappedStores [tg] e X.env=pure none:=by rfl)
  (h1:(assignEach [tg] X.env).map (·.2)=[assign tg X.env]:=by rfl):PS X (.Assign [tg] e pos) (tAsg te g):=by
 intro pins s σ H D I h
 (refine wpAny_Assign_stores (thn (he pins s σ H _ I h) ?_) hs hw;rintro v s1 ⟨x,H1,I1,r1,q1⟩)
 rw [h1];exact thn (hg pins s1 σ H1 x v _ I1 r1 q1) fun _ s2 q=>q
theorem wb2 {i:Nat} {x:Str} {e:Expr} {te:TE} {pos':Pos} (hN:X.N.Nodup) (hi:X.N[i]?=some x) (hx:Loc X.env.scope x) (he:PE X e te) (hs:swapsWith e (some (.Name x pos')) pos.line X.env=pure false:=by rfl) (hf:X.fn x=true \/ X.env.scope.names.lookup x=some .local:=by first | exact .inl rfl | exact .inr rfl | assumption) :
  PS X (.Assign [.Name x pos'] e pos) (tAsg te (w24 i)):=by
 intro pins s σ H D I h
 (refine wpAny_Assign_Name (thn (he pins s σ H _ I h) ?_) hs;rintro v s1 ⟨y,H1,I1,r1,q1⟩)
 exact ue1 I1 hN hi hx r1 (fun s2 I2=>⟨_,H1,I2,q1⟩) hf
end
section
variable {X:Cx} {pos:Pos}
def vm8 (c:TT) (tb:TS):TS:=fun D σ H=>∃ W:Nat->St->Hp->Prop,(∃ m,W m σ H) /\ ∀ m σ H,W m σ H ->
 c σ H fun b H1=>if b=true then ∃ N:St->Hp->Prop,(∀ σ' H',N σ' H'->∃ m',m' < m /\ W m' σ' H') /\ tb { D with nx:=N,ct:=N,bk:=D.nx } σ H1 else D.nx σ H1
theorem vf6 {c:Expr} {body:List Stmt} {tc:TT} {tb:TS} (hp:PassesOwn (model X.prog X.w) X.A X.env X.xe) (hc:PT X c tc) (hb:PSs X body tb):PS X (.While c body [] pos) (vm8 tc tb):=by
 intro pins s σ H D I h;obtain ⟨W,⟨m0,w0⟩,turn⟩:=h;refine wpAny_While (codeAny_whileLoop (fun n s'=>∃ σ' H',Inv X pins σ' H' s' /\ W n σ' H') ?_ m0 ⟨σ,H,I,w0⟩);rintro n s1 ⟨σ1,H1,I1,w1⟩
 (refine wpAny_passesOwn hp (thn (hc pins s1 σ1 H1 _ I1 (turn n σ1 H1 w1)) ?_);rintro b s2 ⟨H2,I2,q2⟩)
 cases b with
 | true =>
  obtain ⟨N,hN,q2⟩:=q2;rw [if_pos rfl];refine wpAny_passesOwn hp (thn (hb pins s2 σ1 H2 _ I2 q2) fun f s3 q3=>?_);cases f with
  | next =>
   obtain ⟨σ3,H3,I3,n3⟩:=q3;obtain ⟨m',hm,w3⟩:=hN σ3 H3 n3;exact ⟨m',hm,σ3,H3,I3,w3⟩
  | cont =>
   obtain ⟨σ3,H3,I3,n3⟩:=q3;obtain ⟨m',hm,w3⟩:=hN σ3 H3 n3;exact ⟨m',hm,σ3,H3,I3,w3⟩
  | brk=>exact q3
  | ret v=>exact q3
 | false =>
  rw [if_neg Bool.false_ne_true];exact wpAny_execs_nil ⟨σ1,H2,I2,q2⟩
end
structure It where
 go:Nat->Hp->Prop
 yld:Nat->Hp->V->Hp->Prop
 stop:Nat->Hp->Prop
def FpOk (X:Cx) (pins:List (Addr × Obj)) (H:Hp) (b:Addr):Prop :=
 H b=none /\ b ≠ X.env.locals /\ b ∉ X.fs /\ (b ∈ X.ex \/ X.s₀.heap.objs.size<=b) /\ (∀ x c,X.env.cells.lookup x=some c->c ≠ b) /\ ∀ p ∈ X.pn++pins,p.1 ≠ b
theorem Inv.fpOk {X:Cx} {pins:List (Addr × Obj)} {σ:St} {H H':Hp} {s:Shared} {b:Addr} (I:Inv X pins σ H s) (hb:s.heap.objs.size<=b) (hn:H' b=none):FpOk X pins H' b:=by
 refine ⟨hn,Nat.ne_of_gt (Nat.lt_of_lt_of_le I.lt hb),I.nofs hb,.inr (Nat.le_trans I.sz hb),fun x c e z=>?_,fun p hp z=>?_⟩
 ·obtain ⟨v,q⟩:=I.cell x c e
  exact absurd (Nat.lt_of_lt_of_le q.lt (by rw [z];exact hb)) (Nat.lt_irrefl _)
 ·exact absurd (Nat.lt_of_lt_of_le (Heap.lt_size (I.pin p hp).1) (by rw [z];exact hb)) (Nat.lt_irrefl _)
structure Turn (P:Program) (w:World) (K:W.Frag) (tg:Expr) (J:It) (fp:List Addr) (it:Addr) (tn:Nat->Heap->Prop):Prop where
 mem:it ∈ fp
 obj:∀ i h,tn i h->∀ b ∈ fp,∃ o,h.get? b=some o /\ ∀ v,o.data ≠ .cell v
 keep:∀ i h h',tn i h->(∀ b ∈ fp,∀ o,h.get? b=some o->h'.get? b=some o)->tn i h'
 item:∀ (X:Cx),X.prog=P->X.w=w->X.K=K->X.calm=true->∀ (i:Nat) (pins:List (Addr × Obj)) (s:Shared) (σ:St) (H:Hp) (E:Value->Shared->Prop),Inv X pins σ H s->(∀ b ∈ fp,FpOk X pins H b)->tn i s.heap->J.go i H ->
  wpAny (model P w) X.A (pyNext (.ref it)) (fun r s1=>∃ u,r=some u /\
   wpAny (model P w) X.A (letOwnedTupleGo tg (.ref it) u) (fun _ s2=>∃ x H',Inv X pins σ H' s2 /\ RelV x u /\ J.yld i H x H' /\ tn (i+1) s2.heap /\ ∀ b ∈ fp,H' b=none) E s1) E s
 done:∀ (X:Cx),X.prog=P->X.w=w->X.K=K->X.calm=true->∀ (i:Nat) (pins:List (Addr × Obj)) (s:Shared) (σ:St) (H:Hp) (E:Value->Shared->Prop),Inv X pins σ H s->(∀ b ∈ fp,FpOk X pins H b)->tn i s.heap->J.stop i H ->
  wpAny (model P w) X.A (pyNext (.ref it)) (fun r s1=>r=none /\ Inv X pins σ H s1) E s
 self:∀ (A:Around) (i:Nat) (s:Shared) (Q:Value->Shared->Prop) (E:Value->Shared->Prop),tn i s.heap->Q (.ref it) s->wpAny (model P w) A (pyIter (.ref it)) Q E s
abbrev TI:=St->Hp->(It->Hp->Prop)->Prop
def PIE (X:Cx) (pins:List (Addr × Obj)) (σ:St) (tg:Expr) (R:It->Hp->Prop) (itv:Value) (s2:Shared):Prop :=
 ∃ (it:Addr) (fp:List Addr) (tn:Nat->Heap->Prop) (J:It) (H':Hp),itv=.ref it /\ Inv X pins σ H' s2 /\ Turn X.prog X.w X.K tg J fp it tn /\ tn 0 s2.heap /\ (∀ b ∈ fp,FpOk X pins H' b) /\ R J H'
def PI (X:Cx) (tg iter:Expr) (wi:TI):Prop :=
 ∀ (pins:List (Addr × Obj)) (s:Shared) (σ:St) (H:Hp) (R:It->Hp->Prop),Inv X pins σ H s->wi σ H R ->
  wpAny (model X.prog X.w) X.A (eval iter X.env) (fun v s1=>wpAny (model X.prog X.w) X.A (pyIter v) (PIE X pins σ tg R) X.xe s1) X.xe s
theorem v94 {M : Model} {A : Around} {E : Value -> Shared -> Prop} {s : Shared} {tg : Expr} {it : Addr} {u : Value} {o : Obj} {n : String} {vs : Array Value} {Q : Unit -> Shared -> Prop} (ho : s.heap.get? it = some o) (hc : o.cls = .type n) (hd : o.data = .fields vs)
    (hn:["enumerate", "zip", "dict_itemiterator", "dict_reverseitemiterator", "odict_iterator", "itertools.zip_longest", "itertools.pairwise"].contains n=false) (hQ:Q () s):wpAny M A (letOwnedTupleGo tg (.ref it) u) Q E s:=by
  unfold letOwnedTupleGo;cases tg <;> first
    | exact wpAny_pure hQ
    | (cases u <;> first
        | exact wpAny_pure hQ
        | (refine wpAny_bind (wpAny_load ho ?_)
           rw [hc,hd]
           show wpAny M A (if (["enumerate", "zip", "dict_itemiterator", "dict_reverseitemiterator", "odict_iterator", "itertools.zip_longest", "itertools.pairwise"].contains n && vs[0]? == some (rawInt _))=true then _ else _) Q E s
           rw [if_neg (by intro h;rw [hn,Bool.false_and] at h;cases h)];exact wpAny_pure hQ))
def Itl (K:W.Frag) (a:Addr):It :=
 ⟨fun i H=>∃ xs x,SqL K H a xs /\ xs[i]?=some x,fun i H x H'=>H'=H /\ ∀ xs,SqL K H a xs->xs[i]?=some x,fun i H=>∃ xs,SqL K H a xs /\ xs.length<=i⟩
def Itt (K:W.Frag) (a:Addr):It :=
 ⟨fun i H=>∃ xs x,SqT K H a xs /\ xs[i]?=some x,fun i H x H'=>H'=H /\ ∀ xs,SqT K H a xs->xs[i]?=some x,fun i H=>∃ xs,SqT K H a xs /\ xs.length<=i⟩
def Itr (lo:Int) (n:Nat):It:=⟨fun i _=>i < n,fun i H x H'=>H'=H /\ x=.int (lo+i),fun i _=>n<=i⟩
theorem v17 {P:Program} {w:World} {K:W.Frag} {tg:Expr} (a it:Addr):Turn P w K tg (Itl K a) [it] it (fun i h=>h.IsListIter it a i) where
 mem:=by simp
 obj:=fun i h st b hb=>by
  have e:b=it:=by simpa using hb
  subst e;obtain ⟨o,e,c,d⟩:=st;exact ⟨o,e,fun v z=>by rw [d] at z;cases z⟩
 keep:=fun i h h' st k=>st.at fun o e=>k it (by simp) o e
 item:=by
  intro X hP hw hK hc i pins s σ H E I hf st hg;subst hP hw hK;obtain ⟨xs,x,hq,hx⟩:=hg;obtain ⟨its,rv,p,hz⟩:=I.list hq;obtain ⟨u,hu,ru⟩:=rv.get hx;obtain ⟨f0,f1,f2,f3,f4,f5⟩:=hf it (by simp);refine wpAny_pyNext_list_item st p.isList (x:=u) (by simpa using hu) fun h' st' sb=>?_
  have I1:Inv X pins σ H { s with heap:=h' }:=I.turned (t':=s.toks) (fun b o hb e=>(sb.2 b hb).trans e) f0 f1 f3 f4 f5
  obtain ⟨o,e,c,d⟩:=id st';exact ⟨u,rfl,v94 (s:={ s with heap:=h' }) e c d (by decide) ⟨x,H,I1,ru,⟨rfl,fun ys hy=>by rw [I.list_inj hy hq];exact hx⟩,st',fun b hb=>(hf b hb).1⟩⟩
 done:=by
  intro X hP hw hK hc i pins s σ H E I hf st hg;subst hP hw hK;obtain ⟨xs,hq,hx⟩:=hg;obtain ⟨its,rv,p,hz⟩:=I.list hq;obtain ⟨f0,f1,f2,f3,f4,f5⟩:=hf it (by simp);have hl:=rv.length;exact wpAny_pyNext_list_end (I.ok.hd hc) st p.isList (by simp;omega) fun h' eb=>⟨rfl,I.turned (t':=s.toks) (fun b o hb e=>eb b o hb e) f0 f1 f3 f4 f5⟩
 self:=fun _ _ _ _ _ st h=>wpAny_pyIter_listiter st h
theorem ux9 {P:Program} {w:World} {K:W.Frag} {tg:Expr} (a it:Addr):Turn P w K tg (Itt K a) [it] it (fun i h=>h.IsTupleIter it a i) where
 mem:=by simp
 obj:=fun i h st b hb=>by
  have e:b=it:=by simpa using hb
  subst e;obtain ⟨o,e,c,d⟩:=st;exact ⟨o,e,fun v z=>by rw [d] at z;cases z⟩
 keep:=fun i h h' st k=>st.at fun o e=>k it (by simp) o e
 item:=by
  intro X hP hw hK hc i pins s σ H E I hf st hg;subst hP hw hK;obtain ⟨xs,x,hq,hx⟩:=hg;obtain ⟨its,rv,p,hz⟩:=I.tuple hq;obtain ⟨u,hu,ru⟩:=rv.get hx;obtain ⟨f0,f1,f2,f3,f4,f5⟩:=hf it (by simp);refine wpAny_pyNext_tuple_item st (show s.heap.IsTuple a its.toArray from p) (x:=u) (by simpa using hu) fun h' st' sb=>?_
  have I1:Inv X pins σ H { s with heap:=h' }:=I.turned (t':=s.toks) (fun b o hb e=>(sb.2 b hb).trans e) f0 f1 f3 f4 f5
  obtain ⟨o,e,c,d⟩:=id st';exact ⟨u,rfl,v94 (s:={ s with heap:=h' }) e c d (by decide) ⟨x,H,I1,ru,⟨rfl,fun ys hy=>by rw [I.tuple_inj hy hq];exact hx⟩,st',fun b hb=>(hf b hb).1⟩⟩
 done:=by
  intro X hP hw hK hc i pins s σ H E I hf st hg;subst hP hw hK;obtain ⟨xs,hq,hx⟩:=hg;obtain ⟨its,rv,p,hz⟩:=I.tuple hq;obtain ⟨f0,f1,f2,f3,f4,f5⟩:=hf it (by simp);have hl:=rv.length;exact wpAny_pyNext_tuple_end (I.ok.hd hc) st (show s.heap.IsTuple a its.toArray from p) (by simp;omega) fun h' eb=>⟨rfl,I.turned (t':=s.toks) (fun b o hb e=>eb b o hb e) f0 f1 f3 f4 f5⟩
 self:=fun _ _ _ _ _ st h=>wpAny_pyIter_tupleiter st h
theorem uy0 {P:Program} {w:World} {K:PySem.W.Frag} {tg:Expr} (it:Addr) (lo:Int) (n:Nat):Turn P w K tg (Itr lo n) [it] it (fun i h=>IsRangeIter h it (lo+(i:Nat) * 1) ((n:Int) - (i:Nat)) 1) where
 mem:=by simp
 obj:=fun i h st b hb=>by
  have e:b=it:=by simpa using hb
  subst e;exact ⟨_,st,fun v z=>by
   have z':Data.fields _=Data.cell v:=z;cases z'⟩
 keep:=fun i h h' st k=>k it (by simp) _ st
 item:=by
  intro X hP hw hK hc i pins s σ H E I hf st hg;subst hP hw hK;obtain ⟨f0,f1,f2,f3,f4,f5⟩:=hf it (by simp);have W:=Walks.range (prog:=X.prog) (w:=X.w) (I.ok.hd hc) it lo 1 n;refine W.item i s _ _ hg st fun v h' tk hv st' kk=>?_
  obtain ⟨t,rfl⟩:=hv;have I1:Inv X pins σ H { s with heap:=h',toks:=tk }:=I.turned (fun b o hb e=>kk b o (by simpa using hb) e) f0 f1 f3 f4 f5
  refine ⟨_,rfl,v94 (s:={ s with heap:=h',toks:=tk }) (n := "range_iterator") st' rfl rfl (by decide) ⟨.int (lo+i),H,I1,⟨t,?_⟩,⟨rfl,rfl⟩,st',fun b hb=>(hf b hb).1⟩⟩;rw [Int.mul_one]
 done:=by
  intro X hP hw hK hc i pins s σ H E I hf st hg;subst hP hw hK;obtain ⟨f0,f1,f2,f3,f4,f5⟩:=hf it (by simp);exact wpAny_pyNext_range_end (I.ok.hd hc) st (by have:n<=i:=hg;omega) fun h' eb=>⟨rfl,I.turned (t':=s.toks) (fun b o hb e=>eb b o hb e) f0 f1 f3 f4 f5⟩
 self:=fun _ _ _ _ _ st h=>wpAny_pyIter_rangeiter st h
section
variable {X:Cx} {tg:Expr}
theorem vf2 {pins:List (Addr × Obj)} {σ:St} {H:Hp} {s:Shared} {R:It->Hp->Prop} {E:Value->Shared->Prop} {lo hi:Int} {t u v:Tok} {tk:Nat} (I:Inv X pins σ H s) (h1:-(2 ^ 62)<=lo) (h2:lo < 2 ^ 62) (h3:-(2 ^ 62)<=hi) (h4:hi < 2 ^ 62)
  (q:R (Itr lo (hi - lo).toNat) H):wpAny (model X.prog X.w) X.A (pyIter (.ref s.heap.objs.size)) (PIE X pins σ tg R) E { s with heap:=s.heap.push { cls:=.type "range",data:=.fields #[.int lo t,.int hi u,.int 1 v] },toks:=tk }:=by
 refine wpAny_pyIter_range (IsRange.new ..) (small_one h1 h2 h3 h4) ?_;have I1:Inv X pins σ H { s with heap:=s.heap.push { cls:=.type "range",data:=.fields #[.int lo t,.int hi u,.int 1 v] },toks:=tk }:=I.kept fun b o e=>Heap.get?_push_of_some _ e
 refine ⟨(s.heap.push { cls:=.type "range",data:=.fields #[.int lo t,.int hi u,.int 1 v] }).objs.size,[(s.heap.push { cls:=.type "range",data:=.fields #[.int lo t,.int hi u,.int 1 v] }).objs.size],_,_,H,rfl,
  I1.kept (t':=tk) fun b o e=>Heap.get?_push_of_some _ e,uy0 _ lo (hi - lo).toNat,?_,fun b hb=>?_,q⟩
 ·have e1:lo+((0:Nat):Int) * 1=lo:=by simp
  have e2:(((hi - lo).toNat:Nat):Int) - ((0:Nat):Int)=Builtin.Range.rangeSize lo hi 1:=by rw [rangeSize_one];split <;> omega
  show IsRangeIter _ _ (lo+((0:Nat):Int) * 1) ((((hi - lo).toNat:Nat):Int) - ((0:Nat):Int)) 1
  rw [e1,e2];exact Heap.get?_push_size _ rfl
 ·have e:b=(s.heap.push { cls:=.type "range",data:=.fields #[.int lo t,.int hi u,.int 1 v] }).objs.size:=by simpa using hb
  subst e;exact I1.fpOk (Nat.le_refl _) (I1.hok.fresh (Nat.le_refl _))
def wk9 (ta:TA):TI:=fun σ H R=>ta σ H fun vs H1=>∃ j:Int,vs=[.int j] /\ -(2 ^ 62)<=j /\ j < 2 ^ 62 /\ R (Itr 0 j.toNat) H1
theorem v47 {a:Expr} {ta:TA} {p pos:Pos} (hg:Gl X "range") (hm:X.mg "range" = none) (ha:PA X [a] ta) (hs:starEach [a] X.env=[(false,eval a X.env)]:=by rfl):PI X tg (.Call (.Name "range" p) [a] [] pos) (wk9 ta):=by
 intro pins s σ H R I h
 (refine Call_ (uo7 I hg hm boot_range (PyProof.Rows.callWith_type1 (thn (ha pos pins s σ H _ I h) ?_) hs rfl));rintro us s1 ⟨vs,H1,I1,r1,q1⟩)
 obtain ⟨j,e,q1,q2,q⟩:=q1;subst e;cases r1 with
 | cons r rr =>
  cases rr;obtain ⟨t,rfl⟩:=r;exact call_range_1 (vf2 I1 (by omega) (by omega) q1 q2 (by simpa using q))
def tFor (wi:TI) (g:TG) (tb:TS):TS:=fun D σ H=>wi σ H fun J H1=>∃ W:Nat->Nat->St->Hp->Prop,(∃ m,W 0 m σ H1) /\ ∀ i m σ H,W i m σ H ->
 (J.stop i H /\ D.nx σ H) \/ (J.go i H /\ ∃ N:St->Hp->Prop,(∀ σ' H',N σ' H'->∃ m',m' < m /\ W (i+1) m' σ' H') /\ ∀ x H',J.yld i H x H'->g x σ H' fun σ2 H2=>tb { D with nx:=N,ct:=N,bk:=D.nx } σ2 H2)
def uo0 (fp:List Addr) (h:Heap):List (Addr × Obj):=fp.filterMap fun b=>(h.get? b).map fun o=>(b,o)
theorem u89 {fp:List Addr} {h:Heap} {b:Addr} {o:Obj} (hb:b ∈ fp) (e:h.get? b=some o):(b,o) ∈ uo0 fp h:=List.mem_filterMap.mpr ⟨b,hb,by rw [e];rfl⟩
theorem v54 {fp:List Addr} {h:Heap} {p:Addr × Obj} (hp:p ∈ uo0 fp h):p.1 ∈ fp /\ h.get? p.1=some p.2:=by
 obtain ⟨b,hb,e⟩:=List.mem_filterMap.mp hp;cases q:h.get? b with
 | none=>rw [q] at e;cases e
 | some o =>
  rw [q] at e;have e':(b,o)=p:=Option.some.inj e;subst e';exact ⟨hb,q⟩
theorem Inv.pinned {pins:List (Addr × Obj)} {σ:St} {H:Hp} {s:Shared} {fp:List Addr} (I:Inv X pins σ H s) (hf:∀ b ∈ fp,FpOk X pins H b) (ho:∀ b ∈ fp,∃ o,s.heap.get? b=some o /\ ∀ v,o.data ≠ .cell v):Inv X (pins++uo0 fp s.heap) σ H s :=
 I.pins_of fun p hp=>(List.mem_append.mp hp).elim (fun z=>I.pin p (List.mem_append_right _ z)) fun z=>by
  obtain ⟨hb,e⟩:=v54 z;obtain ⟨f0,f1,f2,_⟩:=hf p.1 hb;obtain ⟨o,e',d⟩:=ho p.1 hb;rw [e] at e';cases e';exact ⟨e,f0,f1,f2,d⟩
theorem Inv.unpinned {pins pl:List (Addr × Obj)} {σ:St} {H:Hp} {s:Shared} (I:Inv X (pins++pl) σ H s):Inv X pins σ H s:=I.pins_of fun p hp=>I.pin p (List.mem_append_right _ (List.mem_append_left _ hp))
theorem wb4 {iter:Expr} {body:List Stmt} {wi:TI} {g:TG} {tb:TS} {pos:Pos} (hp:PassesOwn (model X.prog X.w) X.A X.env X.xe) (hc:X.calm=true) (hi:PI X tg iter wi) (hg:PG X tg g) (hb:PSs X body tb)
  (hs:∀ x,foldedSetIterable iter X.env x=pure x:=by intro _;rfl):PS X (.For tg iter body [] pos) (tFor wi g tb):=by
 intro pins s σ H D I h;refine wpAny_For (thn (hi pins s σ H _ I h) fun v s1 h1=>thn h1 fun itv s2 h2=>?_) hs;obtain ⟨it,fp,tn,J,H2,e,I2,T,st2,f2,W,⟨m0,w0⟩,turn⟩:=h2;subst e;have stat:∀ {H':Hp},(∀ b ∈ fp,H' b=none)->∀ b ∈ fp,FpOk X pins H' b:=fun hn b hb=>⟨hn b hb,(f2 b hb).2⟩
 refine codeAny_forLoop_any (fun n s'=>∃ i σ' H',Inv X pins σ' H' s' /\ tn i s'.heap /\ (∀ b ∈ fp,H' b=none) /\ W i n σ' H') ?_ m0 ⟨0,σ,H2,I2,st2,fun b hb=>(f2 b hb).1,w0⟩;rintro n s3 ⟨i,σ3,H3,I3,st3,fr3,w3⟩
 rcases turn i n σ3 H3 w3 with ⟨stop,qn⟩ | ⟨go,N,hN,step⟩
 ·(refine wpAny_passesOwn hp (thn (T.done X rfl rfl rfl hc i pins s3 σ3 H3 X.xe I3 (stat fr3) st3 stop) ?_);rintro r s4 ⟨hr,I4⟩)
  subst hr;exact wpAny_execs_nil ⟨σ3,H3,I4,qn⟩
 ·(refine wpAny_passesOwn hp (thn (T.item X rfl rfl rfl hc i pins s3 σ3 H3 X.xe I3 (stat fr3) st3 go) ?_);rintro r s4 ⟨u,hr,h4⟩)
  subst hr
  (refine wpAny_passesOwn hp (thn h4 ?_);rintro _ s5 ⟨x,H5,I5,r5,y5,st5,fr5⟩)
  have I5':=I5.pinned (stat fr5) (T.obj _ _ st5)
  (refine wpAny_passesOwn hp (thn (hg _ s5 σ3 H5 x u _ I5' r5 (step x H5 y5)) ?_);rintro _ s6 ⟨σ6,H6,I6,q6⟩)
  refine wpAny_passesOwn hp (thn (hb _ s6 σ6 H6 _ I6 q6) fun f s7 q7=>?_);have again:∀ {σ7:St} {H7:Hp},Inv X (pins++uo0 fp s5.heap) σ7 H7 s7->N σ7 H7->∃ m,m < n /\ ∃ i σ' H',Inv X pins σ' H' s7 /\ tn i s7.heap /\ (∀ b ∈ fp,H' b=none) /\ W i m σ' H':=fun {σ7 H7} I7 n7=>by
   obtain ⟨m',hm,w7⟩:=hN σ7 H7 n7;refine ⟨m',hm,i+1,σ7,H7,I7.unpinned,T.keep _ _ _ st5 fun b hb o e=>(I7.pin (b,o) (List.mem_append_right _ (List.mem_append_right _ (u89 hb e)))).1,fun b hb=>?_,w7⟩;obtain ⟨o,e,d⟩:=T.obj _ _ st5 b hb;exact (I7.pin (b,o) (List.mem_append_right _ (List.mem_append_right _ (u89 hb e)))).2.1
  cases f with
  | next=>obtain ⟨σ7,H7,I7,n7⟩:=q7;exact again I7 n7
  | cont=>obtain ⟨σ7,H7,I7,n7⟩:=q7;exact again I7 n7
  | brk=>obtain ⟨σ7,H7,I7,q7⟩:=q7;exact ⟨σ7,H7,I7.unpinned,q7⟩
  | ret v=>obtain ⟨x7,σ7,H7,I7,r7,q7⟩:=q7;exact ⟨x7,σ7,H7,I7.unpinned,r7,q7⟩
end
abbrev R2:=V->V->Hp->VK->Prop
def OpR (X:Cx) (f:Value->Value->Sem Value) (r:R2):Prop :=
 ∀ (pins:List (Addr × Obj)) (s:Shared) (σ:St) (H:Hp) (x y:V) (v u:Value) (Q:VK),Inv X pins σ H s->RelV x v->RelV y u->r x y H Q ->
  wpAny (model X.prog X.w) X.A (f v u) (EP X pins σ Q) X.xe s
def UnR (X:Cx) (f:Value->Sem Value) (r:V->Hp->VK->Prop):Prop :=
 ∀ (pins:List (Addr × Obj)) (s:Shared) (σ:St) (H:Hp) (x:V) (v:Value) (Q:VK),Inv X pins σ H s->RelV x v->r x H Q ->
  wpAny (model X.prog X.w) X.A (f v) (EP X pins σ Q) X.xe s
def CallR (X:Cx) (f:Value) (r:List V->Hp->VK->Prop):Prop :=
 ∀ (pins:List (Addr × Obj)) (s:Shared) (σ:St) (H:Hp) (xs:List V) (us:List Value) (Q:VK),Inv X pins σ H s->Vals xs us->r xs H Q ->
  wpAny (model X.prog X.w) X.A (call f us) (EP X pins σ Q) X.xe s
def tOp (r:R2) (ta tb:TE):TE:=fun σ H Q=>ta σ H fun x H1=>tb σ H1 fun y H2=>r x y H2 Q
def tUn (r:V->Hp->VK->Prop) (ta:TE):TE:=fun σ H Q=>ta σ H fun x H1=>r x H1 Q
def rI (C:Int->Int->Prop) (g:Int->Int->V):R2:=fun x y H Q=>∃ i j,x=.int i /\ y=.int j /\ C i j /\ Q (g i j) H
def rI0 (g:Int->Int->V):R2:=fun x y H Q=>∃ i j,x=.int i /\ y=.int j /\ Q (g i j) H
def rU (g:Int->V):V->Hp->VK->Prop:=fun x H Q=>∃ i,x=.int i /\ Q (g i) H
section
variable {X:Cx} {a b c:Expr} {ta tb tc:TE} {pos:Pos}
theorem binT (ha:PE X a ta) (hb:PE X b tb) {pins:List (Addr × Obj)} {s:Shared} {σ:St} {H:Hp} {R:V->V->Hp->Prop} (I:Inv X pins σ H s)
  (h:ta σ H fun x H1=>tb σ H1 fun y H2=>R x y H2) {Q:Value->Shared->Prop} {f:Value->Value->Sem Value}
  (hf:∀ v u s2 x y H2,Inv X pins σ H2 s2->RelV x v->RelV y u->R x y H2->wpAny (model X.prog X.w) X.A (f v u) Q X.xe s2) :
  wpAny (model X.prog X.w) X.A (eval a X.env) (fun v s₁=>wpAny (model X.prog X.w) X.A (eval b X.env) (fun u s₂=>wpAny (model X.prog X.w) X.A (f v u) Q X.xe s₂) X.xe s₁) X.xe s:=by
 (refine thn (ha pins s σ H _ I h) ?_;rintro v s1 ⟨x,H1,I1,r1,q1⟩)
 (refine thn (hb pins s1 σ H1 _ I1 q1) ?_;rintro u s2 ⟨y,H2,I2,r2,q2⟩)
 exact hf v u s2 x y H2 I2 r1 r2 q2
theorem wp4 {op:Operator} {r:R2} (ho:OpR X (binaryOp op) r) (ha:PE X a ta) (hb:PE X b tb):PE X (.BinOp a op b pos) (tOp r ta tb):=by
 intro pins s σ H Q I h;exact wpAny_BinOp (binT ha hb I h fun v u s2 x y H2 I2 rx ry q=>ho pins s2 σ H2 x y v u Q I2 rx ry q)
theorem wp2 {op:UnaryOp} {r:V->Hp->VK->Prop} (ho:UnR X (unaryOp op) r) (ha:PE X a ta):PE X (.UnaryOp op a pos) (tUn r ta):=by
 intro pins s σ H Q I h
 (refine UnaryOp_ (thn (ha pins s σ H _ I h) ?_);rintro v s1 ⟨x,H1,I1,r1,q1⟩;exact ho pins s1 σ H1 x v Q I1 r1 q1)
theorem opI {f:Value->Value->Sem Value} {C:Int->Int->Prop} {g:Int->Int->Int}
  (rule:∀ (i j:Int) (t u:Tok) (s:Shared) (Q:Value->Shared->Prop) (E:Value->Shared->Prop),C i j->Q (.int (g i j) s.toks) { s with toks:=s.toks+1 }->wpAny (model X.prog X.w) X.A (f (.int i t) (.int j u)) Q E s) :
  OpR X f (rI C fun i j=>.int (g i j)):=by
 intro pins s σ H x y v u Q I rx ry h;obtain ⟨i,j,rfl,rfl,hc,q⟩:=h;obtain ⟨t,rfl⟩:=rx;obtain ⟨t',rfl⟩:=ry;exact rule i j t t' s _ _ hc ⟨.int (g i j),H,I.tok _,⟨_,rfl⟩,q⟩
theorem opI0 {f:Value->Value->Sem Value} {g:Int->Int->Int}
  (rule:∀ (i j:Int) (t u:Tok) (s:Shared) (Q:Value->Shared->Prop) (E:Value->Shared->Prop),Q (.int (g i j) s.toks) { s with toks:=s.toks+1 }->wpAny (model X.prog X.w) X.A (f (.int i t) (.int j u)) Q E s) :
  OpR X f (rI0 fun i j=>.int (g i j)):=by
 intro pins s σ H x y v u Q I rx ry h;obtain ⟨i,j,rfl,rfl,q⟩:=h;obtain ⟨t,rfl⟩:=rx;obtain ⟨t',rfl⟩:=ry;exact rule i j t t' s _ _ ⟨.int (g i j),H,I.tok _,⟨_,rfl⟩,q⟩
theorem opB0 {f:Value->Value->Sem Value} {g:Int->Int->Bool}
  (rule:∀ (i j:Int) (t u:Tok) (s:Shared) (Q:Value->Shared->Prop) (E:Value->Shared->Prop),Q (.bool (g i j)) s->wpAny (model X.prog X.w) X.A (f (.int i t) (.int j u)) Q E s) :
  OpR X f (rI0 fun i j=>.bl (g i j)):=by
 intro pins s σ H x y v u Q I rx ry h;obtain ⟨i,j,rfl,rfl,q⟩:=h;obtain ⟨t,rfl⟩:=rx;obtain ⟨t',rfl⟩:=ry;exact rule i j t t' s _ _ ⟨.bl (g i j),H,I,rfl,q⟩
def CDiv (i j:Int):Prop:=0 < j /\ j < 1073741824
def CPow (i j:Int):Prop:=0<=j /\ j<=1000000 /\ i.natAbs < 2 ^ 64
def CMul (i j:Int):Prop:=(-(2 ^ 64) < i /\ i < 2 ^ 64) \/ (-(2 ^ 64) < j /\ j < 2 ^ 64)
theorem CMul.ok {i j:Int} (h:CMul i j):IntMulOk i j:=by
 rcases h with ⟨h1,h2⟩ | ⟨h1,h2⟩
 ·exact .of_left (intBits_le_64 h1 h2)
 ·exact .of_right (intBits_le_64 h1 h2)
theorem op_add:OpR X (binaryOp .Add) (rI0 fun i j=>.int (i+j)):=opI0 fun _ _ _ _ _ _ _ q=>add_int q
theorem wd2:OpR X (binaryOp .Sub) (rI0 fun i j=>.int (i - j)):=opI0 fun _ _ _ _ _ _ _ q=>sub_int q
theorem op_mul:OpR X (binaryOp .Mult) (rI CMul fun i j=>.int (i * j)):=opI fun _ _ _ _ _ _ _ hc q=>mul_int q hc.ok
theorem wd7:OpR X (binaryOp .Mod) (rI (fun _ j=>0 < j) fun i j=>.int (i % j)):=opI fun i j _ _ _ _ _ hc q=>by
 have h1:(0:Int) < j:=hc;exact mod_int' (by omega) (by rw [Int.fmod_eq_emod_of_nonneg i (by omega)];exact q)
theorem wd5:OpR X (binaryOp .Pow) (rI CPow fun i j=>.int (i ^ j.toNat)):=opI fun _ _ _ _ _ _ _ hc q=>pow_int_small hc.1 hc.2.1 hc.2.2 q
theorem wd3:OpR X (binaryOp .LShift) (rI CPow fun i j=>.int (i * 2 ^ j.toNat)):=opI fun _ _ _ _ _ _ _ hc q=>lshift_int_small hc.1 hc.2.1 hc.2.2 q
theorem unI {f:Value->Sem Value} {g:Int->Int}
  (rule:∀ (i:Int) (t:Tok) (s:Shared) (Q:Value->Shared->Prop) (E:Value->Shared->Prop),Q (.int (g i) s.toks) { s with toks:=s.toks+1 }->wpAny (model X.prog X.w) X.A (f (.int i t)) Q E s) :
  UnR X f (rU fun i=>.int (g i)):=by
 intro pins s σ H x v Q I rx h;obtain ⟨i,rfl,q⟩:=h;obtain ⟨t,rfl⟩:=rx;exact rule i t s _ _ ⟨.int (g i),H,I.tok _,⟨_,rfl⟩,q⟩
theorem w89:UnR X (unaryOp .USub) (rU fun i=>.int (-i)):=unI fun _ _ _ _ _ q=>neg_int q
end
def scal:V->V->Bool
 | .non,.non=>true | .non,.int _=>true | .int _,.non=>true | .non,.bl _=>true | .bl _,.non=>true | .non,.str _=>true | .str _,.non=>true
 | .int _,.int _=>true | .bl _,.bl _=>true | .str _,.str _=>true | .byt _,.byt _=>true
 | .int _,.str _=>true | .str _,.int _=>true | .bl _,.str _=>true | .str _,.bl _=>true
 | _,_=>false
def rEq:R2:=fun x y H Q=>scal x y=true /\ Q (.bl (decide (x=y))) H
def rNe:R2:=fun x y H Q=>scal x y=true /\ Q (.bl (!decide (x=y))) H
theorem va5 {i j:Int}:decide (V.int i=V.int j)=(i == j):=by
 rw [Bool.eq_iff_iff];simp
theorem vp9 {i j:Bool}:decide (V.bl i=V.bl j)=(i == j):=by
 rw [Bool.eq_iff_iff];simp
theorem va4 {i j:Str}:decide (V.str i=V.str j)=(i == j):=by
 rw [Bool.eq_iff_iff];simp
theorem va6 {i j:Array UInt8}:decide (V.byt i=V.byt j)=(i.toList == j.toList):=by
 rw [Bool.eq_iff_iff];cases i;cases j;simp
section
variable {X:Cx} {a b c:Expr} {ta tb tc:TE} {pos:Pos}
theorem u22 {pins:List (Addr × Obj)} {σ:St} {H:Hp} {s:Shared} {Q:VK} {k k':Bool} (I:Inv X pins σ H s) (q:Q (.bl k) H) (e:k=k'):EP X pins σ Q (.bool k') s:=by
 subst e;exact ⟨.bl k,H,I,rfl,q⟩
theorem op_eq:OpR X (compareOp .Eq) rEq:=by
 intro pins s σ H x y v u Q I rx ry h;obtain ⟨hs,q⟩:=h;cases x with
 | non =>
  cases rx;cases y with
  | non=>cases ry;exact PySem.EqNone.eq_none_none (u22 I q (by simp))
  | bl j=>cases ry;exact PySem.EqNone.eq_none_bool (u22 I q (by simp))
  | int j=>obtain ⟨t',rfl⟩:=ry;exact PySem.EqNone.eq_none_int (u22 I q (by simp))
  | str j=>obtain ⟨t',rfl⟩:=ry;exact PySem.EqNone.eq_none_str (u22 I q (by simp))
  | _=>exact absurd (show false=true from hs) Bool.false_ne_true
 | bl i =>
  cases rx;cases y with
  | non=>cases ry;exact PySem.EqNone.eq_bool_none (u22 I q (by simp))
  | bl j=>cases ry;exact eq_bool (u22 I q vp9)
  | str j=>obtain ⟨t',rfl⟩:=ry;exact PySem.EqMixed.eq_bool_str (u22 I q (by simp))
  | _=>exact absurd (show false=true from hs) Bool.false_ne_true
 | int i =>
  obtain ⟨t,rfl⟩:=rx;cases y with
  | non=>cases ry;exact PySem.EqNone.eq_int_none (u22 I q (by simp))
  | int j=>obtain ⟨t',rfl⟩:=ry;exact eq_int (u22 I q va5)
  | str j=>obtain ⟨t',rfl⟩:=ry;exact PySem.EqMixed.eq_int_str (u22 I q (by simp))
  | _=>exact absurd (show false=true from hs) Bool.false_ne_true
 | str i =>
  obtain ⟨t,rfl⟩:=rx;cases y with
  | non=>cases ry;exact PySem.EqNone.eq_str_none (u22 I q (by simp))
  | bl j=>cases ry;exact PySem.EqMixed.eq_str_bool (u22 I q (by simp))
  | int j=>obtain ⟨t',rfl⟩:=ry;exact PySem.EqMixed.eq_str_int (u22 I q (by simp))
  | str j=>obtain ⟨t',rfl⟩:=ry;exact eq_str (u22 I q va4)
  | _=>exact absurd (show false=true from hs) Bool.false_ne_true
 | byt i =>
  obtain ⟨t,rfl⟩:=rx;cases y with
  | byt j=>obtain ⟨t',rfl⟩:=ry;exact W.eq_bytes (u22 I q va6)
  | _=>exact absurd (show false=true from hs) Bool.false_ne_true
 | _=>cases y <;> exact absurd (show false=true from hs) Bool.false_ne_true
theorem op_ne:OpR X (compareOp .NotEq) rNe:=by
 intro pins s σ H x y v u Q I rx ry h;obtain ⟨hs,q⟩:=h;cases x with
 | non =>
  cases rx;cases y with
  | non=>cases ry;exact PySem.EqNone.ne_none_none (u22 I q (by simp))
  | bl j=>cases ry;exact PySem.EqNone.ne_none_bool (u22 I q (by simp))
  | int j=>obtain ⟨t',rfl⟩:=ry;exact PySem.EqNone.ne_none_int (u22 I q (by simp))
  | str j=>obtain ⟨t',rfl⟩:=ry;exact PySem.EqNone.ne_none_str (u22 I q (by simp))
  | _=>exact absurd (show false=true from hs) Bool.false_ne_true
 | bl i =>
  cases rx;cases y with
  | non=>cases ry;exact PySem.EqNone.ne_bool_none (u22 I q (by simp))
  | bl j=>cases ry;exact ne_bool (u22 I q (congrArg not vp9))
  | str j=>obtain ⟨t',rfl⟩:=ry;exact PySem.EqMixed.ne_bool_str (u22 I q (by simp))
  | _=>exact absurd (show false=true from hs) Bool.false_ne_true
 | int i =>
  obtain ⟨t,rfl⟩:=rx;cases y with
  | non=>cases ry;exact PySem.EqNone.ne_int_none (u22 I q (by simp))
  | int j=>obtain ⟨t',rfl⟩:=ry;exact ne_int (u22 I q (congrArg not va5))
  | str j=>obtain ⟨t',rfl⟩:=ry;exact PySem.EqMixed.ne_int_str (u22 I q (by simp))
  | _=>exact absurd (show false=true from hs) Bool.false_ne_true
 | str i =>
  obtain ⟨t,rfl⟩:=rx;cases y with
  | non=>cases ry;exact PySem.EqNone.ne_str_none (u22 I q (by simp))
  | bl j=>cases ry;exact PySem.EqMixed.ne_str_bool (u22 I q (by simp))
  | int j=>obtain ⟨t',rfl⟩:=ry;exact PySem.EqMixed.ne_str_int (u22 I q (by simp))
  | str j=>obtain ⟨t',rfl⟩:=ry;exact ne_str (u22 I q (congrArg not va4))
  | _=>exact absurd (show false=true from hs) Bool.false_ne_true
 | byt i =>
  obtain ⟨t,rfl⟩:=rx;cases y with
  | byt j=>obtain ⟨t',rfl⟩:=ry;exact W.ne_bytes (u22 I q (congrArg not va6))
  | _=>exact absurd (show false=true from hs) Bool.false_ne_true
 | _=>cases y <;> exact absurd (show false=true from hs) Bool.false_ne_true
theorem op_lt:OpR X (compareOp .Lt) (rI0 fun i j=>.bl (decide (i < j))):=opB0 fun _ _ _ _ _ _ _ q=>lt_int q
theorem wp7:OpR X (compareOp .LtE) (rI0 fun i j=>.bl (decide (i<=j))):=opB0 fun _ _ _ _ _ _ _ q=>le_int q
theorem wp8:OpR X (compareOp .Gt) (rI0 fun i j=>.bl (decide (j < i))):=opB0 fun _ _ _ _ _ _ _ q=>gt_int q
theorem wp9:OpR X (compareOp .GtE) (rI0 fun i j=>.bl (decide (j<=i))):=opB0 fun _ _ _ _ _ _ _ q=>ge_int q
theorem v49:OpR X (compareOp .Lt) (fun x y H Q=>∃ i j,x=.str i /\ y=.str j /\ Q (.bl (decide (i.cps.toList < j.cps.toList))) H):=by
 intro pins s σ H x y v u Q I rx ry h;obtain ⟨i,j,rfl,rfl,q⟩:=h;obtain ⟨t,rfl⟩:=rx;obtain ⟨t',rfl⟩:=ry;exact lt_str (u22 I q rfl)
theorem v51:OpR X (compareOp .In) (fun x y H Q=>∃ i j,x=.str i /\ y=.str j /\ Q (.bl (!(Builtin.Str.occurrences j i 0 j.length 1).isEmpty)) H):=by
 intro pins s σ H x y v u Q I rx ry h;obtain ⟨i,j,rfl,rfl,q⟩:=h;obtain ⟨t,rfl⟩:=rx;obtain ⟨t',rfl⟩:=ry;exact in_str (u22 I q rfl)
theorem op_isN:OpR X (compareOp .Is) (fun x y H Q=>y=.non /\ Q (.bl (decide (x=.non))) H):=by
 intro pins s σ H x y v u Q I rx ry h;obtain ⟨rfl,q⟩:=h;cases ry;refine is_none_gen (u22 I q ?_);cases x <;> first
  | (cases rx;rfl)
  | (obtain ⟨t,rfl⟩:=rx;rfl)
theorem OpR.or {f:Value->Value->Sem Value} {r r':R2} (h:OpR X f r) (h':OpR X f r'):OpR X f (fun x y H Q=>r x y H Q \/ r' x y H Q):=by
 intro pins s σ H x y v u Q I rx ry q
 rcases q with q | q
 ·exact h pins s σ H x y v u Q I rx ry q
 ·exact h' pins s σ H x y v u Q I rx ry q
theorem nomark (b:Expr) {op:CmpOp} (h:op ≠ .In:=by decide) (h2:op ≠ .NotIn:=by decide):behindInMarks op b=false:=by
 have e1:(op == CmpOp.In)=false:=by cases op <;> first | rfl | exact absurd rfl h
 have e2:(op == CmpOp.NotIn)=false:=by cases op <;> first | rfl | exact absurd rfl h2
 cases b <;> simp [behindInMarks,e1,e2]
theorem vy9 {op:CmpOp} {r:R2} (ho:OpR X (compareOp op) r) (ha:PE X a ta) (hb:PE X b tb) (hm:behindInMarks op b=false):PE X (.Compare a [op] [b] pos) (tOp r ta tb):=by
 intro pins s σ H Q I h;exact wpAny_Compare1 (binT ha hb I h fun v u s2 x y H2 I2 rx ry q=>ho pins s2 σ H2 x y v u Q I2 rx ry q) hm
def w92 (t:TE):TT:=fun σ H Q=>t σ H fun x H'=>∃ k,x=.bl k /\ Q k H'
theorem vx3 {op:CmpOp} {r:R2} (ho:OpR X (compareOp op) r) (ha:PE X a ta) (hb:PE X b tb) (hm:behindInMarks op b=false):PT X (.Compare a [op] [b] pos) (w92 (tOp r ta tb)):=by
 intro pins s σ H Q I h;refine wpAny_isTrue_Compare1 (thn (ha pins s σ H _ I h) fun v s1 ⟨x,H1,I1,r1,q1⟩=>thn (hb pins s1 σ H1 _ I1 q1) fun u s2 ⟨y,H2,I2,r2,q2⟩ =>
  thn (ho pins s2 σ H2 x y v u _ I2 r1 r2 q2) fun c s3 ⟨z,H3,I3,r3,k,e,q3⟩=>?_) hm
 subst e;cases r3;exact wpAny_truthy_bool ⟨H3,I3,q3⟩
def v23 (r r':R2) (ta tb tc:TE):TE:=fun σ H Q=>ta σ H fun x H1=>tb σ H1 fun y H2=>r x y H2 fun z H3=>∃ k,z=.bl k /\
 (if k=true then tc σ H3 fun w' H4=>r' y w' H4 Q else Q (.bl false) H3)
theorem vg7 {op op':CmpOp} {r r':R2} (ho:OpR X (compareOp op) r) (ho':OpR X (compareOp op') r') (ha:PE X a ta) (hb:PE X b tb) (hc:PE X c tc)
  (hm:lastMarks [op,op'] [b,c]=false:=by with_unfolding_all rfl):PE X (.Compare a [op,op'] [b,c] pos) (v23 r r' ta tb tc):=by
 intro pins s σ H Q I h;refine Compare_chain (thn (ha pins s σ H _ I h) fun v s1 ⟨x,H1,I1,r1,q1⟩=>chain_link (thn (hb pins s1 σ H1 _ I1 q1) fun u s2 ⟨y,H2,I2,r2,q2⟩ =>
  thn (ho pins s2 σ H2 x y v u _ I2 r1 r2 q2) fun d s3 ⟨z,H3,I3,r3,k,e,q3⟩=>?_)) hm
 subst e;cases r3;refine wpAny_truthy_bool ?_;cases k with
 | false=>exact ite_ff ⟨.bl false,H3,I3,rfl,q3⟩
 | true=>exact ite_tt (chain_last (thn (hc pins s3 σ H3 _ I3 q3) fun w' s4 ⟨z',H4,I4,r4,q4⟩=>ho' pins s4 σ H4 y z' u w' Q I4 r2 r4 q4))
theorem vf5 {op op':CmpOp} {r r':R2} (ho:OpR X (compareOp op) r) (ho':OpR X (compareOp op') r') (ha:PE X a ta) (hb:PE X b tb) (hc:PE X c tc)
  (hm:lastMarks [op,op'] [b,c]=false:=by with_unfolding_all rfl):PT X (.Compare a [op,op'] [b,c] pos) (w92 (v23 r r' ta tb tc)):=by
 intro pins s σ H Q I h;refine isTrue_chain (thn (ha pins s σ H _ I h) fun v s1 ⟨x,H1,I1,r1,q1⟩=>test_link (thn (hb pins s1 σ H1 _ I1 q1) fun u s2 ⟨y,H2,I2,r2,q2⟩ =>
  thn (ho pins s2 σ H2 x y v u _ I2 r1 r2 q2) fun d s3 ⟨z,H3,I3,r3,k,e,q3⟩=>?_)) hm
 subst e;cases r3;refine wpAny_truthy_bool ?_;cases k with
 | false =>
  obtain ⟨k',e',q'⟩:=q3;cases e';exact ite_ff ⟨H3,I3,q'⟩
 | true =>
  (refine ite_tt (test_last (thn (hc pins s3 σ H3 _ I3 q3) ?_));rintro w' s4 ⟨z',H4,I4,r4,q4⟩;refine thn (ho' pins s4 σ H4 y z' u w' _ I4 r2 r4 q4) ?_;rintro d' s5 ⟨z2,H5,I5,r5,k2,e2,q5⟩)
  subst e2;cases r5;exact wpAny_truthy_bool ⟨H5,I5,q5⟩
theorem line63:(sizeLine:Nat) < 2 ^ 63:=by rw [sizeLine_eq];decide
theorem op_add_str:OpR X (binaryOp .Add) (fun x y H Q=>∃ i j,x=.str i /\ y=.str j /\ i.length+j.length<=sizeLine /\ Q (.str (i++j)) H):=by
 intro pins s σ H x y v u Q I rx ry h;obtain ⟨i,j,rfl,rfl,hz,q⟩:=h;obtain ⟨t,rfl⟩:=rx;obtain ⟨t',rfl⟩:=ry;exact add_str (fun t' tk=>⟨.str (i++j),H,I.tok _,⟨_,rfl⟩,q⟩) hz
theorem vals1 {x:V} {us:List Value} (r:Vals [x] us):∃ u,us=[u] /\ RelV x u:=by
 cases r with
 | cons r1 r2=>cases r2;exact ⟨_,rfl,r1⟩
theorem vals2 {x y:V} {us:List Value} (r:Vals [x,y] us):∃ u w',us=[u,w'] /\ RelV x u /\ RelV y w':=by
 cases r with
 | cons r1 r2 =>
  cases r2 with
  | cons r3 r4=>cases r4;exact ⟨_,_,rfl,r1,r3⟩
theorem vk6:CallR X (.builtin "abs") (fun xs H Q=>∃ i,xs=[.int i] /\ Q (.int (if i < 0 then -i else i)) H):=by
 intro pins s σ H xs us Q I r h;obtain ⟨i,rfl,q⟩:=h;obtain ⟨u,rfl,t,rfl⟩:=vals1 r;exact call_abs_int fun u tk=>⟨.int (if i < 0 then -i else i),H,I.tok _,⟨_,rfl⟩,q⟩
theorem vb2 (hc:X.calm=true):CallR X (.builtin "max") (fun xs H Q=>∃ i j,xs=[.int i,.int j] /\ Q (.int (if j > i then j else i)) H):=by
 intro pins s σ H xs us Q I r h;obtain ⟨i,j,rfl,q⟩:=h;obtain ⟨u,w',rfl,⟨t,rfl⟩,⟨t',rfl⟩⟩:=vals2 r;refine max_two_ints (I.ok.hd hc) fun h' tk k=>⟨_,H,I.kept k,?_,q⟩
 by_cases hj:j > i
 ·rw [if_pos hj,if_pos hj];exact ⟨_,rfl⟩
 ·rw [if_neg hj,if_neg hj];exact ⟨_,rfl⟩
theorem vb1 (hc:X.calm=true):CallR X (.builtin "min") (fun xs H Q=>∃ i j,xs=[.int i,.int j] /\ Q (.int (if j < i then j else i)) H):=by
 intro pins s σ H xs us Q I r h;obtain ⟨i,j,rfl,q⟩:=h;obtain ⟨u,w',rfl,⟨t,rfl⟩,⟨t',rfl⟩⟩:=vals2 r;refine min_two_ints (I.ok.hd hc) fun h' tk k=>⟨_,H,I.kept k,?_,q⟩
 by_cases hj:j < i
 ·rw [if_pos hj,if_pos hj];exact ⟨_,rfl⟩
 ·rw [if_neg hj,if_neg hj];exact ⟨_,rfl⟩
theorem vb4:CallR X (.type "int") (fun xs H Q=>(∃ i,xs=[.int i] /\ Q (.int i) H) \/ ∃ k,xs=[.bl k] /\ Q (.int (if k then 1 else 0)) H):=by
 intro pins s σ H xs us Q I r h
 rcases h with ⟨i,rfl,q⟩ | ⟨k,rfl,q⟩
 ·obtain ⟨u,rfl,t,rfl⟩:=vals1 r
  exact call_int_int ⟨.int i,H,I,⟨_,rfl⟩,q⟩
 ·obtain ⟨u,rfl,r1⟩:=vals1 r
  cases r1;exact call_int_bool ⟨.int (if k then 1 else 0),H,I.tok _,⟨_,rfl⟩,q⟩
end
structure ObjM (h:Heap) (x dx C:Addr) (mA:Str->Option Value):Prop where
 obj:h.get? x=some (W.instObj C dx)
 ns:h.Ns1 dx mA
 ne:dx ≠ x
theorem v75 {h:Heap} {dx:Addr} {mA:Str->Option Value} (n:h.Ns1 dx mA):∃ od,h.get? dx=some od /\ ∀ name,W.lookIn name od=some (mA name):=by
 obtain ⟨o,es,ep,ho,hd,hk,_,hm⟩:=n;refine ⟨o,ho,fun name=>?_⟩;have e:=hm name;unfold nsFind findBy at e;rw [<- Array.find?_toList] at e;unfold W.lookIn;rw [hd];dsimp only;split
 ·rename_i y q
  rw [q] at e;exact congrArg some e
 ·rename_i q
  rw [q] at e;have a:es.toList.any (·.refKey)=false:=by
   rw [List.any_eq_false];intro y hy;obtain ⟨z,t,hkey⟩:=hk y (Array.mem_toList_iff.mp hy);simp [DictEntry.refKey,hkey]
  have a':¬ es.toList.any (·.refKey)=true:=by rw [a];exact Bool.false_ne_true
  rw [if_neg a'];exact congrArg some e
theorem ObjM.look {h:Heap} {x dx C:Addr} {mA:Str->Option Value} (I:ObjM h x dx C mA):∃ od,W.InstAt h x (W.instObj C dx) C (some od) /\ ∀ name,W.lookIn name od=some (mA name) :=
 let ⟨od,ho,hl⟩:=v75 I.ns
 ⟨od,⟨I.obj,rfl,rfl,ho⟩,hl⟩
section
variable {prog:Program} {w:World} {A:Around} {E:Value->Shared->Prop} {s:Shared} {K:W.Frag} {x dx C f:Addr} {mA:Str->Option Value} {name:Str} {v:Value}
theorem w23 {expr:Bool} {Q:Value->Shared->Prop} (X:K.In s.heap) (I:ObjM s.heap x dx C mA) (hg:W.plainGet K C name=true) (hh:W.hasDictIn K C=true)
  (ha:W.findIn K (.ref C) name=some none) (hv:mA name=some v) (hv':W.handedIn v=true) (h:Q v { s with toks:=s.toks+1 }) :
  wpAny (model prog w) A (getAttr (.ref x) name expr) Q E s:=by
 obtain ⟨od,J,hl⟩:=I.look;exact W.get_value X J (W.plainGet_of hg).1 (W.findObj_own hh ha rfl (by rw [hl,hv])) hv' h
theorem vj8 {pl:Sem Bool} {Q:Value × List Value->Shared->Prop} (X:K.In s.heap) (I:ObjM s.heap x dx C mA) (hg:W.plainGet K C name=true)
  (hf:W.findIn K (.ref C) name=some (some (.ref f))) (ht:W.isFn K (.ref f)=true) (hv:mA name=none) (h:Q (.ref f,[.ref x]) s) :
  wpAny (model prog w) A (getMethod (.ref x) name pl) Q E s:=by
 obtain ⟨od,J,hl⟩:=I.look;exact W.method_fn X J (W.plainGet_of hg).1 (W.plainGet_of hg).2 hf (beq_iff_eq.mp ht) (by show (W.lookIn name od).map (·.isSome)=some false;rw [hl,hv];rfl) h
theorem vt1 {ns:List Str} {Q:Unit->Shared->Prop} (X:K.In s.heap) (I:ObjM s.heap x dx C mA)
  (hs:W.findIn K (.ref C) "__setattr__" = some (some (.builtin "object.__setattr__"))) (hp:W.plainOver K C=true) (ht:W.takerIn K C name=some none) (hh:W.hasDictIn K C=true)
  (hw:PySem.Within mA ns) (hsz:ns.length<=sizeLine)
  (h:∀ h',ObjM h' x dx C (fun y=>if y=name then some v else mA y)->Heap.SameBut dx s.heap h'->Q () { s with heap:=h',toks:=s.toks+2 }) :
  wpAny (model prog w) A (setAttr (.ref x) name v) Q E s:=by
 obtain ⟨od,J,hl⟩:=I.look;refine W.set_plain X J hs (W.osa_open (s:={ s with toks:=s.toks+1 }) (r:=none) X J hp ht fun b=>?_);obtain ⟨cd,hc,hd'⟩:=W.any_some hh;have hx:s.heap.get? x=some ⟨.ref C,some dx,.plain,#[]⟩:=I.obj;refine wpAny_bind (wpAny_pure (wpAny_bind (wpAny_bind (wpAny_loadPart hx (wpAny_bind (W.Looks.here (s:={ s with toks:=s.toks+1 }) (W.looks_clsIn X hc) ?_))))));rw [hd'];refine wpAny_pure (a:=some dx) (wpAny_bind (wpAny_pure (wpAny_bind ?_)));refine wpAny_nsSet1 (s:={ s with toks:=s.toks+1 }) I.ns fun h' hn2 hs2=>?_
 obtain ⟨oD,esD,epD,hoD,hdD,hcD⟩:=hn2.count (PySem.Within.cons name v hw);refine wpAny_bind (wpAny_lookBehind hoD (by rw [hdD];exact pastItsLine_dict (Nat.le_trans hcD (by rw [List.length_cons];omega))) ?_);exact wpAny_pure (h _ ⟨(hs2.2 _ (Ne.symm I.ne)).trans I.obj,hn2,I.ne⟩ hs2)
theorem vh5 {R:Result->Shared->Prop} {vs:List Value} {kw:List (Str × Value)} (X:K.In s.heap) (hm:W.makesIn K C=true)
  (hi:W.findIn K (.ref C) "__init__" = some (some (.ref f))) (hf:W.typeIn K (.ref f)=some (.type "function"))
  (h:codeAny (model prog w) (A.under (.builtin "type.__call__" ⟨.ref C::vs,kw⟩)) (.call (.ref f) ⟨.ref (s.heap.objs.size+1)::vs,kw⟩) (W.InitBack (s.heap.objs.size+1) R)
   { s with heap:=(s.heap.push W.emptyDict).push (W.instObj C s.heap.objs.size) }) :
  codeAny (model prog w) A (.call (.ref C) ⟨vs,kw⟩) R s:=by
 obtain ⟨hh,g,d,t,os⟩:=s;exact W.make_core (W.makes_of X hm) (W.looks_findIn X hi) (fun self=>W.bind_fn X self hf) (.inl rfl) h
end
def putF (f:Str) (v:V):List (Str × V)->List (Str × V)
 | []=>[(f,v)]
 | (g,x)::r=>if g=f then (g,v)::r else (g,x)::putF f v r
theorem ug5 (f g:Str) (v:V):∀ fs:List (Str × V),(putF f v fs).lookup g=if g=f then some v else fs.lookup g
 | []=>by
  show List.lookup g [(f,v)]=_
  by_cases h:g=f
  ·have hb:(g == f)=true:=beq_iff_eq.mpr h
   simp only [List.lookup,hb,if_pos h]
  ·have hb:(g == f)=false:=beq_eq_false_iff_ne.mpr h
   simp only [List.lookup,hb,if_neg h]
 | (k,x)::r=>by
  have ih:=ug5 f g v r;rw [show putF f v ((k,x)::r)=(if k=f then (k,v)::r else (k,x)::putF f v r) from rfl]
  by_cases hk:k=f
  ·rw [if_pos hk]
   by_cases h:g=k
   ·have hb:(g == k)=true:=beq_iff_eq.mpr h
    simp only [List.lookup,hb,if_pos (h.trans hk)]
   ·have hb:(g == k)=false:=beq_eq_false_iff_ne.mpr h
    simp only [List.lookup,hb,if_neg (fun e:g=f=>h (e.trans hk.symm))]
  ·rw [if_neg hk]
   by_cases h:g=k
   ·have hb:(g == k)=true:=beq_iff_eq.mpr h
    simp only [List.lookup,hb,if_neg (fun e:g=f=>hk (h.symm.trans e))]
   ·have hb:(g == k)=false:=beq_eq_false_iff_ne.mpr h
    simp only [List.lookup,hb];exact ih
theorem ug7 (f:Str) (v:V):∀ fs:List (Str × V),f ∈ (putF f v fs).map (·.1) /\ ∀ g,g ∈ fs.map (·.1)->g ∈ (putF f v fs).map (·.1)
 | []=>⟨by simp [putF],fun g h=>by simp at h⟩
 | (k,x)::r=>by
  obtain ⟨i1,i2⟩:=ug7 f v r;rw [show putF f v ((k,x)::r)=(if k=f then (k,v)::r else (k,x)::putF f v r) from rfl]
  by_cases hk:k=f
  ·rw [if_pos hk]
   subst hk;exact ⟨by simp,fun g h=>by simpa using h⟩
  ·rw [if_neg hk]
   refine ⟨?_,fun g h=>?_⟩
   ·rw [List.map_cons]
    exact List.mem_cons_of_mem _ i1
   ·rw [List.map_cons] at h ⊢
    rcases List.mem_cons.mp h with e | e
    ·exact List.mem_cons.mpr (.inl e)
    ·exact List.mem_cons_of_mem _ (i2 g e)
theorem ug6 (f:Str) (v:V):∀ fs:List (Str × V),(putF f v fs).length<=fs.length+1
 | []=>by simp [putF]
 | (k,x)::r=>by
  have ih:=ug6 f v r;rw [show putF f v ((k,x)::r)=(if k=f then (k,v)::r else (k,x)::putF f v r) from rfl]
  by_cases hk:k=f
  ·rw [if_pos hk,List.length_cons,List.length_cons];omega
  ·rw [if_neg hk,List.length_cons,List.length_cons];omega
theorem RelO.some_of {v:V} {o:Option Value} (r:RelO (some v) o):∃ u,o=some u /\ RelV v u:=by
 cases o with
 | none=>exact (show False from r).elim
 | some u=>exact ⟨u,rfl,r⟩
theorem RelO.none_of {o:Option Value} (r:RelO none o):o=none:=by
 cases o with
 | none=>rfl
 | some u=>exact (show False from r).elim
theorem uo8 {v:V} {u:Value} (r:RelV v u):W.handedIn u=true:=by
 cases v with
 | non=>cases (show u=Value.none from r);rfl
 | bl b=>cases (show u=Value.bool b from r);rfl
 | int i=>obtain ⟨t,e⟩:=(show ∃ t,u=Value.int i t from r);cases e;rfl
 | str x=>obtain ⟨t,e⟩:=(show ∃ t,u=Value.str x t from r);cases e;rfl
 | byt b=>obtain ⟨t,e⟩:=(show ∃ t,u=Value.bytes b t from r);cases e;rfl
 | flt b=>obtain ⟨t,e⟩:=(show ∃ t,u=Value.float b t from r);cases e;rfl
 | ref a=>cases (show u=Value.ref a from r);rfl
 | ty n=>cases (show u=Value.type n from r);rfl
section
variable {P:Program} {w:World} {H H':Hp} {h h':Heap} {a C dx:Addr} {fs fs':List (Str × V)}
theorem um2 (hok:HOk P w H h) (e:H a=some (.ins C dx fs)):∃ mA,ObjM h a dx C mA /\ (∀ f,RelO (fs.lookup f) (mA f)) /\ PySem.Within mA (fs.map (·.1)) /\ fs.length<=1000 /\ H dx=some (.own a):=by
 obtain ⟨d,z,ne,ob,mA,n,r,q⟩:=(show ObjOk P w H h a (.ins C dx fs) from hok a _ e);exact ⟨mA,⟨ob,n,ne⟩,r,q,z,d⟩
end
structure Cls (K:W.Frag) (C:Addr):Prop where
 pg:W.plainGet K C Str.empty=true
 hd:W.hasDictIn K C=true
 po:W.plainOver K C=true
 sa:W.findIn K (.ref C) "__setattr__" = some (some (.builtin "object.__setattr__"))
theorem Cls.get {K:W.Frag} {C:Addr} (c:Cls K C) (f:Str):W.plainGet K C f=true:=c.pg
def NoAttr (K:W.Frag) (C:Addr) (f:Str):Prop:=W.findIn K (.ref C) f=some none
theorem NoAttr.taker {K:W.Frag} {C:Addr} {f:Str} (n:NoAttr K C f):W.takerIn K C f=some none:=by
 unfold W.takerIn;rw [show W.findIn K (.ref C) f=some none from n];rfl
structure Con (K:W.Frag) (C:Addr) (f:Str) (v:V) (u:Value):Prop where
 at_:W.findIn K (.ref C) f=some (some u)
 rel:RelV v u
 get:W.specialIn K u "__get__" = some none
 cp:W.copiedNames.contains f=false
structure Meth (K:W.Frag) (C:Addr) (m:Str) (f:Addr):Prop where
 at_:W.findIn K (.ref C) m=some (some (.ref f))
 fn:W.isFn K (.ref f)=true
 kp:W.keepIn K (.ref f)=true
section
variable {X:Cx} {pins:List (Addr × Obj)} {σ:St} {H:Hp} {s:Shared} {a C dx:Addr} {fs:List (Str × V)} {f:Str} {v:V} {A:Around} {E:Value->Shared->Prop}
theorem uz1 {b:Bool} {Q:Value->Shared->Prop} (I:Inv X pins σ H s) (e:H a=some (.ins C dx fs)) (c:Cls X.K C) (n:NoAttr X.K C f) (l:fs.lookup f=some v)
  (h:∀ u s',Inv X pins σ H s'->RelV v u->Q u s'):wpAny (model X.prog X.w) A (getAttr (.ref a) f b) Q E s:=by
 obtain ⟨mA,O,r,_,_,_⟩:=um2 I.hok e;obtain ⟨u,hu,ru⟩:=RelO.some_of (v:=v) (o:=mA f) (by rw [<- l];exact r f);exact w23 I.kIn O (c.get f) c.hd n hu (uo8 ru) (h u _ (I.tok _) ru)
theorem uc8 {m:Str} {g:Addr} {pl:Sem Bool} {Q:Value × List Value->Shared->Prop} (I:Inv X pins σ H s) (e:H a=some (.ins C dx fs)) (c:Cls X.K C) (k:Meth X.K C m g) (l:fs.lookup m=none)
  (h:Q (.ref g,[.ref a]) s):wpAny (model X.prog X.w) A (getMethod (.ref a) m pl) Q E s:=by
 obtain ⟨mA,O,r,_,_,_⟩:=um2 I.hok e;have hn:mA m=none:=RelO.none_of (by rw [<- l];exact r m);exact vj8 I.kIn O (c.get m) k.at_ k.fn hn h
theorem uy2 {y:V} {u:Value} {Q:Unit->Shared->Prop} (I:Inv X pins σ H s) (e:H a=some (.ins C dx fs)) (c:Cls X.K C) (n:NoAttr X.K C f) (hl:fs.length < 1000) (ry:RelV y u)
  (h:∀ s',Inv X pins σ (upd H a (.ins C dx (putF f y fs))) s'->Q () s'):wpAny (model X.prog X.w) A (setAttr (.ref a) f u) Q E s:=by
 obtain ⟨mA,O,r,wi,_,ho⟩:=um2 I.hok e;have hz:(fs.map (·.1)).length<=sizeLine:=by rw [List.length_map,sizeLine_eq];omega
 refine vt1 I.kIn O c.sa c.po n.taker c.hd wi hz fun h' O' sb=>h _ ?_
 have hd:∃ o,h'.get? dx=some o:=let ⟨o,_,_,e',_⟩:=O'.ns;⟨o,e'⟩;refine I.write (x:=a) (e:=dx) (by rw [e];exact True.intro) (.inr ho) (fun b q hb z=>(sb.2 b hb).trans z) hd ?_;refine ⟨by rw [u16 O.ne];exact ho,?_,O.ne,O'.obj,_,O'.ns,fun g=>?_,fun g hg=>?_⟩
 ·have:=ug6 f y fs;omega
 ·show RelO ((putF f y fs).lookup g) (if g=f then some u else mA g)
  rw [ug5]
  by_cases q:g=f
  ·rw [if_pos q,if_pos q];exact ry
  ·rw [if_neg q,if_neg q];exact r g
 ·by_cases q:g=f
  ·rw [q];exact (ug7 f y fs).1
  ·refine (ug7 f y fs).2 g (wi g fun z=>hg ?_)
   show (if g=f then some u else mA g)=none
   rw [if_neg q];exact z
theorem Inv.made (I:Inv X pins σ H s):Inv X pins σ (upd (upd H s.heap.objs.size (.own (s.heap.objs.size+1))) (s.heap.objs.size+1) (.ins C s.heap.objs.size []))
  { s with heap:=(s.heap.push W.emptyDict).push (W.instObj C s.heap.objs.size) }:=by
 have e1:(s.heap.push W.emptyDict).get? s.heap.objs.size=some W.emptyDict:=Heap.get?_push_size s.heap rfl;have e2:((s.heap.push W.emptyDict).push (W.instObj C s.heap.objs.size)).get? (s.heap.objs.size+1)=some (W.instObj C s.heap.objs.size):=by
  have:=Heap.get?_push_size (s.heap.push W.emptyDict) (o:=W.instObj C s.heap.objs.size) rfl
  rwa [Heap.size_push] at this
 have e3:(s.heap.push W.emptyDict).Ns s.heap.objs.size (fun _=>none):=⟨W.emptyDict,#[],_,e1,rfl,(fun e he=>absurd he (by simp)),fun _=>rfl⟩;have I1:=I.laid (a:=s.heap.objs.size) (o:=.own (s.heap.objs.size+1)) (h':=s.heap.push W.emptyDict) (t':=s.toks) (fun b u q=>Heap.get?_push_of_some _ q) (Nat.le_refl _) ⟨_,e1⟩;refine I1.laid (a:=s.heap.objs.size+1) (o:=.ins C s.heap.objs.size []) (t':=s.toks) (fun b u q=>Heap.get?_push_of_some _ q) (Nat.le_of_eq (Heap.size_push _ _)) ?_;have ne:s.heap.objs.size ≠ s.heap.objs.size+1:=Nat.ne_of_lt (Nat.lt_succ_self _);refine ⟨by rw [u16 ne,u23],Nat.zero_le _,ne,e2,fun _=>none,(Heap.Ns1.of_empty e3).at fun o q=>Heap.get?_push_of_some _ q,fun _=>True.intro,fun y hy=>absurd rfl hy⟩
theorem vc1 {prog:Program} {w:World} {env:Env} {e:Expr} {f:Str} {pos:Pos} {s:Shared} {Q:Value->Shared->Prop} (hb:attributeBase e f env (eval e env)=eval e env)
  (h:wpAny (model prog w) A (eval e env) (fun o s₁=>wpAny (model prog w) A (getAttr o f true) Q E s₁) E s):wpAny (model prog w) A (eval (.Attribute e f pos) env) Q E s :=
 Attribute_any_ h (by rw [arm_eval_Attribute,hb])
end
def tFld (K:W.Frag) (ta:TE) (f:Str):TE:=fun σ H Q=>ta σ H fun x H1=>∃ a C dx fs v,x=.ref a /\ H1 a=some (.ins C dx fs) /\ Cls K C /\ NoAttr K C f /\ fs.lookup f=some v /\ Q v H1
def sFld (K:W.Frag) (ta tv:TE) (f:Str):TS:=fun D σ H=>tv σ H fun y H1=>ta σ H1 fun x H2=>∃ a C dx fs,x=.ref a /\ H2 a=some (.ins C dx fs) /\ Cls K C /\ NoAttr K C f /\ fs.length < 1000 /\
 D.nx σ (upd H2 a (.ins C dx (putF f y fs)))
section
variable {X:Cx} {o e value:Expr} {f:Str} {pos pos' tpos:Pos} {ta tv:TE}
theorem wc9 (he:PE X e ta) (hb:attributeBase e f X.env (eval e X.env)=eval e X.env):PE X (.Attribute e f pos) (tFld X.K ta f):=by
 intro pins s σ H Q I h
 (refine vc1 hb (thn (he pins s σ H _ I h) ?_);rintro u s1 ⟨x,H1,I1,rx,a,C,dx,fs,v,ex,ea,c,n,l,q⟩)
 subst ex;obtain rfl:u=Value.ref a:=rx;exact uz1 I1 ea c n l fun u' s2 I2 ru=>⟨v,H1,I2,ru,q⟩
theorem wb5 (ha:PE X o ta) (hv:PE X value tv) (hs:swapsWith value (some (.Attribute o f pos')) pos.line X.env=pure false):PS X (.Assign [.Attribute o f pos'] value pos) (sFld X.K ta tv f):=by
 intro pins s σ H D I h
 (refine plainObj_wpAny_Assign_Attribute (thn (hv pins s σ H _ I h) ?_) hs;rintro u s1 ⟨y,H1,I1,ry,q⟩;refine thn (ha pins s1 σ H1 _ I1 q) ?_;rintro ov s2 ⟨x,H2,I2,rx,a,C,dx,fs,ex,ea,c,n,l,q2⟩)
 subst ex;obtain rfl:ov=Value.ref a:=rx;exact uy2 I2 ea c n l ry fun s3 I3=>⟨σ,_,I3,q2⟩
theorem vz8 {pl:Sem Bool} {m:Str} {apos:Pos} {args:List Expr} {pins:List (Addr × Obj)} {s:Shared} {σ:St} {H:Hp} {Q:Value->Shared->Prop} {te:TE} (he:PE X e te) (I:Inv X pins σ H s)
  (h:te σ H fun x H1=>∃ a C dx fs g,x=.ref a /\ H1 a=some (.ins C dx fs) /\ Cls X.K C /\ Meth X.K C m g /\ fs.lookup m=none /\
   ∀ s1,Inv X pins σ H1 s1->wpAny (model X.prog X.w) X.A (callWith pos (.ref g) [.ref a] (backTo pos (starEach args X.env)) (backToKw pos (keywordEach [] X.env))) Q X.xe s1)
  (ht:eval (.Call (.Attribute e m apos) args [] pos) X.env=(do
   let ov <- eval e X.env
   standAt apos.atName
   let (f,first) <- holding [ov] (getMethod ov m pl)
   callWith pos f first (backTo pos (starEach args X.env)) (backToKw pos (keywordEach [] X.env)))) :
  wpAny (model X.prog X.w) X.A (eval (.Call (.Attribute e m apos) args [] pos) X.env) Q X.xe s:=by
 (refine W.methodCall_KW (pl:=pl) (thn (he pins s σ H _ I h) ?_) ht;rintro u s1 ⟨x,H1,I1,rx,a,C,dx,fs,g,ex,ea,c,k,l,q⟩)
 subst ex;obtain rfl:u=Value.ref a:=rx;exact uc8 I1 ea c k l (q s1 I1)
end
section
variable {X:Cx} {pins:List (Addr × Obj)} {σ:St} {H:Hp} {s:Shared} {A:Around} {E:Value->Shared->Prop} {Q:Value->Shared->Prop} {c:Value} {b:Bool}
inductive TyOf (K:W.Frag) (H:Hp):V->Value->Prop where
 | non:TyOf K H .non (.type "NoneType")
 | bl (x:Bool):TyOf K H (.bl x) (.type "bool")
 | int (i:Int):TyOf K H (.int i) (.type "int")
 | str (x:Str):TyOf K H (.str x) (.type "str")
 | flt (x:UInt64):TyOf K H (.flt x) (.type "float")
 | lst {a:Addr} {xs:List V} (e:H a=some (.lst xs)):TyOf K H (.ref a) (.type "list")
 | frz {a:Addr} {o:Obj} {xs:List V} (e:H a=some (.frz o (.lst xs))):TyOf K H (.ref a) (.type "list")
 | tup {a:Addr} {xs:List V} (e:H a=some (.tup xs)):TyOf K H (.ref a) (.type "tuple")
 | dK {a:Addr} {kvs:List (Key × V)} (e:H a=some (.dK kvs)):TyOf K H (.ref a) (.type "dict")
 | dT {a:Addr} {kvs:List (List Key × V)} (e:H a=some (.dT kvs)):TyOf K H (.ref a) (.type "dict")
 | ins {a C dx:Addr} {fs:List (Str × V)} (e:H a=some (.ins C dx fs)) (cl:Cls K C) (ha:W.findIn K (.ref C) "__class__" = some (some (.builtin "object.__class__")))
   (hn:W.specialIn K (.builtin "object.__class__") "__get__" = some (some (.builtin "getset_descriptor.__get__"))) (htk:W.takesIn K (.builtin "object.__class__")=some true)
   (hm:W.mroIn K C (.type "object")=some true):TyOf K H (.ref a) (.ref C)
theorem u43 {x:V} {u t:Value} (I:Inv X pins σ H s) (rx:RelV x u) (ty:TyOf X.K H x t) (e:W.kitOne X.K t c=some b) (h:∀ tk,Q (.bool b) { s with toks:=tk }) :
  wpAny (model X.prog X.w) A (call (.builtin "isinstance") [u,c]) Q E s:=by
 cases ty with
 | non=>cases (show u=Value.none from rx);exact W.kia_one W.kitx_none I.kIn True.intro e (fun z=>nomatch z) h
 | bl y=>cases (show u=Value.bool y from rx);exact W.kia_one W.kitx_bool I.kIn True.intro e (fun z=>nomatch z) h
 | int i=>obtain ⟨t,q⟩:=(show ∃ t,u=Value.int i t from rx);cases q;exact W.kia_one W.kitx_int I.kIn True.intro e (fun z=>nomatch z) h
 | str y=>obtain ⟨t,q⟩:=(show ∃ t,u=Value.str y t from rx);cases q;exact W.kia_one W.kitx_str I.kIn True.intro e (fun z=>nomatch z) h
 | flt y=>obtain ⟨t,q⟩:=(show ∃ t,u=Value.float y t from rx);cases q;exact W.kia_one W.kitx_float I.kIn True.intro e (fun z=>nomatch z) h
 | @lst a xs ea =>
  cases (show u=Value.ref a from rx);obtain ⟨_,_,n,_,h1⟩:=(show ObjOk X.prog X.w H s.heap a (.lst xs) from I.hok a _ ea);exact W.kia_one W.kitx_list I.kIn ⟨_,h1,rfl⟩ e (fun z=>nomatch z) h
 | @frz a ob xs ea =>
  cases (show u=Value.ref a from rx);obtain ⟨_,_,_,n,_,h1⟩:=(show ObjOk X.prog X.w H s.heap a (.frz ob (.lst xs)) from I.hok a _ ea);exact W.kia_one W.kitx_list I.kIn ⟨_,h1,rfl⟩ e (fun z=>nomatch z) h
 | @tup a xs ea =>
  cases (show u=Value.ref a from rx);obtain ⟨_,_,_,p⟩:=(show ObjOk X.prog X.w H s.heap a (.tup xs) from I.hok a _ ea);obtain ⟨o,h1,h2,_⟩:=p;exact W.kia_one W.kitx_tuple I.kIn ⟨o,h1,h2⟩ e (fun z=>nomatch z) h
 | @dK a kvs ea =>
  cases (show u=Value.ref a from rx);obtain ⟨_,_,vs,_,p⟩:=(show ObjOk X.prog X.w H s.heap a (.dK kvs) from I.hok a _ ea);obtain ⟨o,es,ep,h1,h2,_⟩:=p;exact W.kia_one W.kitx_dict I.kIn ⟨o,h1,h2.1⟩ e (fun z=>nomatch z) h
 | @dT a kvs ea =>
  cases (show u=Value.ref a from rx);obtain ⟨_,_,xs,_,o,es,ep,h1,h2,_⟩:=(show ObjOk X.prog X.w H s.heap a (.dT kvs) from I.hok a _ ea);exact W.kia_one W.kitx_dict I.kIn ⟨o,h1,h2.1⟩ e (fun z=>nomatch z) h
 | @ins a C dx fs ea cl ha hn htk hm =>
  cases (show u=Value.ref a from rx);obtain ⟨mA,O,_⟩:=um2 I.hok ea;obtain ⟨od,J,_⟩:=O.look;exact W.kia_one (W.kitx_own (cl.get _) cl.hd ha hn htk hm) I.kIn J e (fun z=>nomatch z) h
end
structure Room (k:Nat) (A:Around):Prop where
 hd:A.handled=none
 dp:A.depth+3 * k+5 < recursionLimit
 un:A.units+16 * k+200 < cLine
theorem Room.mono {j k:Nat} {A:Around} (r:Room k A) (h:j<=k):Room j A:=⟨r.hd,by have:=r.dp;omega,by have:=r.un;omega⟩
theorem Room.deeper {k:Nat} {A:Around} (r:Room (k+1) A) (env:Env):Room k (A.deeper env) :=
 ⟨r.hd,by have:=r.dp;show A.depth+1+3 * k+5 < _;omega,by have:=r.un;show A.units+3+16 * k+200 < _;omega⟩
theorem Room.in1 {k:Nat} {A:Around} (r:Room (k+1) A):Room k A.in1 :=
 ⟨r.hd,by have:=r.dp;show A.depth+3 * k+5 < _;omega,by have:=r.un;show A.units+1+16 * k+200 < _;omega⟩
theorem uy6 {A:Around} {C:Addr} {us:List Value} {kw:List (Str × Value)}:(A.under (.builtin "type.__call__" ⟨.ref C::us,kw⟩)).depth=A.depth+1:=by
 first | rfl | simp [Around.under,Code.weight,Code.isCreation,Code.isGuard,Code.isCaller,Code.frames,Code.isFrame,guardIds]
theorem uy5 {A:Around} {C:Addr} {us:List Value} {kw:List (Str × Value)}:(A.under (.builtin "type.__call__" ⟨.ref C::us,kw⟩)).units=A.units+1:=by
 first | rfl | simp [Around.under,Code.cUnits,Code.frames,Code.isFrame]
theorem Room.make {k:Nat} {A:Around} (r:Room (k+1) A) (C:Addr) (us:List Value) (kw:List (Str × Value)):Room k (A.under (.builtin "type.__call__" ⟨.ref C::us,kw⟩)) :=
 ⟨r.hd,by have:=r.dp;rw [uy6];omega,by have:=r.un;rw [uy5];omega⟩
theorem Room.depth {k:Nat} {A:Around} (r:Room k A):A.depth < recursionLimit:=by have:=r.dp;omega
theorem Room.units {k:Nat} {A:Around} (r:Room k A):A.units+64 < cLine:=by have:=r.un;omega
def tNil:TA:=fun _ H Q=>Q [] H
def ve0 (ta:TE) (tr:TA):TA:=fun σ H Q=>ta σ H fun x H1=>tr σ H1 fun xs H2=>Q (x::xs) H2
section
variable {X:Cx} {e:Expr} {es:List Expr} {te:TE} {t:TA} {pos:Pos}
theorem vo7:PA X [] tNil:=fun _ _ _ _ H Q I h=>Calls.spliced_nil ⟨[],H,I,.nil,h⟩
theorem ur6 (ha:PE X e te) (hr:PA X es t) (hs:starEach (e::es) X.env=(false,eval e X.env)::starEach es X.env:=by rfl):PA X (e::es) (ve0 te t):=by
 intro pos pins s σ H Q I h;rw [hs]
 show wpAny _ _ (spliced ((false,eval e X.env)::backTo pos (starEach es X.env))) _ _ s
 (refine Calls.spliced_cons (thn (ha pins s σ H _ I h) ?_);rintro u s1 ⟨x,H1,I1,r1,q1⟩)
 (refine thn (hr pos pins s1 σ H1 _ I1 q1) ?_;rintro us s2 ⟨xs,H2,I2,r2,q2⟩;exact ⟨x::xs,H2,I2,.cons r1 r2,q2⟩)
def tTup (t:TA):TE:=fun σ H Q=>t σ H fun xs H1=>xs.length<=sizeLine /\ ∀ p,H1 p=none->Q (.ref p) (upd H1 p (.tup xs))
def tLst (t:TA):TE:=fun σ H Q=>t σ H fun xs H1=>xs.length<=sizeLine /\ ∀ p,H1 p=none->Q (.ref p) (upd H1 p (.lst xs))
theorem wc2 {x1} (h:PA X es t):PE X (.Tuple es x1 pos) (tTup t):=by
 intro pins s σ H Q I hq;refine wpAny_Tuple_spliced (thn (h pos pins s σ H _ I hq) fun us s1 ⟨xs,H1,I1,r,z,q⟩=>⟨by rw [<- r.length];exact z,?_⟩);have hf:H1 s1.heap.objs.size=none:=I1.hok.fresh (Nat.le_refl _);refine ⟨.ref s1.heap.objs.size,upd H1 s1.heap.objs.size (.tup xs),I1.laid (t':=s1.toks) (fun b u e=>Heap.get?_push_of_some _ e) (Nat.le_refl _) ?_,rfl,q _ hf⟩;exact ⟨z,us,r,⟨_,Heap.get?_push_size _ rfl,rfl,⟨_,rfl⟩,rfl⟩⟩
theorem wc7 (h:PA X es t):PE X (.List es pos) (tLst t):=by
 intro pins s σ H Q I hq;refine wpAny_List_spliced (thn (h pos pins s σ H _ I hq) fun us s1 ⟨xs,H1,I1,r,z,q⟩=>⟨by rw [<- r.length];exact z,?_⟩);have hf:H1 s1.heap.objs.size=none:=I1.hok.fresh (Nat.le_refl _);refine ⟨.ref s1.heap.objs.size,upd H1 s1.heap.objs.size (.lst xs),I1.laid (t':=s1.toks) (fun b u e=>Heap.get?_push_of_some _ e) (Nat.le_refl _) ?_,rfl,q _ hf⟩;exact ⟨z,us,0,r,Heap.get?_push_size _ rfl⟩
end
abbrev Sp:=List V->Hp->VK->XK->Prop
abbrev CXT:=List Env->Hp->Shared->XK->Value->Shared->Prop
structure Env0 (P:Program) (w:World) (K:W.Frag) (mg:Str->Option Value) (base:Heap) (A:Around) (outer:List Env) (s:Shared) (H:Hp):Prop where
 frames:A.frames=some outer
 mod:Mod K mg base
 bs:∀ b o,base.get? b=some o->s.heap.get? b=some o /\ H b=none
 bsz:base.objs.size<=s.heap.objs.size
 funs:s.heap.FunFrames base outer
 frf:∀ b ∈ frs outer,H b=none
 hok:HOk P w H s.heap
 bare:AllBare s.gens
def CE (outer:List Env) (P:Program) (w:World) (H:Hp) (s:Shared) (Q:VK) (u:Value) (s':Shared):Prop :=
 ∃ v H',s'.os=s.os /\ AllBare s'.gens /\ Un (frs outer) [] H H' s.heap s'.heap /\ HOk P w H' s'.heap /\ RelV v u /\ Q v H'
def CR (CX:CXT) (outer:List Env) (P:Program) (w:World) (H:Hp) (s:Shared) (Q:VK) (E:XK) (r:Result) (s':Shared):Prop :=
 match r with
 | .ok (.ret u)=>CE outer P w H s Q u s'
 | .ok _=>False
 | .error e=>CX outer H s E e s'
structure FnOk (P:Program) (w:World) (K:W.Frag) (mg:Str->Option Value) (base:Heap) (CX:CXT) (k:Nat) (f:Addr) (fd:FuncData) (ps:List Str) (sp:Sp):Prop where
 len:∀ vs H Q E,sp vs H Q E->vs.length=ps.length
 run:∀ (A:Around) (outer:List Env) (s:Shared) (H:Hp) (args:Args) (us:List Value) (vs:List V) (Q:VK) (E:XK),Room k A->Env0 P w K mg base A outer s H->BindsTo s fd args (ps.zip us)->Vals vs us->sp vs H Q E ->
  codeAny (model P w) A (.call (.ref f) args) (CR CX outer P w H s Q E) s
theorem FnOk.mono {P:Program} {w:World} {K:W.Frag} {mg:Str->Option Value} {base:Heap} {CX:CXT} {j k:Nat} {f:Addr} {fd:FuncData} {ps:List Str} {sp:Sp} (F:FnOk P w K mg base CX j f fd ps sp) (h:j<=k) :
  FnOk P w K mg base CX k f fd ps sp:=⟨F.len,fun A outer s H args us vs Q E hr=>F.run A outer s H args us vs Q E (hr.mono h)⟩
theorem FnOk.imp {P:Program} {w:World} {K:W.Frag} {mg:Str->Option Value} {base:Heap} {CX:CXT} {k:Nat} {f:Addr} {fd:FuncData} {ps:List Str} {sp sp':Sp} (F:FnOk P w K mg base CX k f fd ps sp)
  (h:∀ vs H Q E,sp' vs H Q E->sp vs H Q E):FnOk P w K mg base CX k f fd ps sp' :=
 ⟨fun vs H Q E q=>F.len vs H Q E (h _ _ _ _ q),fun A outer s H args us vs Q E hr he hb hv hs=>F.run A outer s H args us vs Q E hr he hb hv (h _ _ _ _ hs)⟩
theorem Env0.make {P:Program} {w:World} {K:W.Frag} {mg:Str->Option Value} {base:Heap} {A:Around} {outer:List Env} {s:Shared} {H:Hp} (e:Env0 P w K mg base A outer s H) (C:Addr) (us:List Value) (kw:List (Str × Value)) :
  Env0 P w K mg base (A.under (.builtin "type.__call__" ⟨.ref C::us,kw⟩)) outer s H:=⟨by first | exact e.frames | (simpa [Around.under,Code.envs,Code.isFrame,pushEnvs] using e.frames),e.mod,e.bs,e.bsz,e.funs,e.frf,e.hok,e.bare⟩
theorem Env0.in1 {P:Program} {w:World} {K:W.Frag} {mg:Str->Option Value} {base:Heap} {A:Around} {outer:List Env} {s:Shared} {H:Hp} (e:Env0 P w K mg base A outer s H) :
  Env0 P w K mg base A.in1 outer s H:=⟨e.frames,e.mod,e.bs,e.bsz,e.funs,e.frf,e.hok,e.bare⟩
section
variable {X:Cx} {pins:List (Addr × Obj)} {σ:St} {H:Hp} {s s':Shared}
theorem Inv.env0 (I:Inv X pins σ H s):Env0 X.prog X.w X.K X.mg X.base X.A X.stack s H :=
 ⟨I.ok.frames,I.ok.mod,I.bs,Nat.le_trans I.ok.bsz I.sz,I.stack,I.stkFree,I.hok,I.bare⟩
theorem Inv.after {Q:VK} {u:Value} (I:Inv X pins σ H s) (h:CE X.stack X.prog X.w H s Q u s'):EP X pins σ Q u s':=by
 obtain ⟨v,H',os,bare,un,hok,r,q⟩:=h;obtain ⟨hh,g,d,t,os'⟩:=s';obtain rfl:os'=s.os:=os;exact ⟨v,H',I.call (h':=hh) (g':=g) (d':=d) (t':=t) (ch:=[]) un hok bare (fun b z=>absurd z (by simp)),r,q⟩
end
def vs3 (sp:Sp) (dvs:List V) (E:XK) (t:TA):TE:=fun σ H Q=>t σ H fun vs H1=>sp (vs++dvs) H1 Q E
def vr9 (C:Addr) (m:Str) (sp:Sp) (dvs:List V) (E:XK) (ta:TE) (t:TA):TE:=fun σ H Q=>ta σ H fun x H1=>∃ a dx fs,x=.ref a /\ H1 a=some (.ins C dx fs) /\ fs.lookup m=none /\
 t σ H1 fun vs H2=>sp (x::(vs++dvs)) H2 Q E
def w96 (C:Addr) (sp:Sp) (dvs:List V) (E:XK) (t:TA):TE:=fun σ H Q=>t σ H fun vs H1=>∀ x dx,H1 x=none->H1 dx=none->dx ≠ x ->
 sp (.ref x::(vs++dvs)) (upd (upd H1 dx (.own x)) x (.ins C dx [])) (fun v H2=>v=.non /\ Q (.ref x) H2) E
def Binds (K:W.Frag) (fd:FuncData) (ps:List Str) (ds:List Value):Prop :=
 ∀ (s:Shared) (us:List Value),K.In s.heap->(us++ds).length=ps.length->BindsTo s fd ⟨us,[]⟩ (ps.zip (us++ds))
theorem Binds.all {K:W.Frag} {fd:FuncData} {ps:List Str} (h:∀ us:List Value,us.length=ps.length->bindArgs fd ⟨us,[]⟩=pure (ps.zip us)):Binds K fd ps []:=fun s us _ hl=>by
 rw [List.append_nil] at hl ⊢;exact .of_eq (h us hl)
def Passes (CX:CXT) (X:Cx) (E:XK):Prop:=∀ (pins:List (Addr × Obj)) (σ:St) (H:Hp) (s:Shared) (e:Value) (s':Shared),Inv X pins σ H s->CX X.stack H s E e s'->X.xe e s'
section
variable {X:Cx} {CX:CXT} {k:Nat} {f C:Addr} {fd:FuncData} {ps:List Str} {sp:Sp} {dvs:List V} {ds:List Value} {E:XK} {x m:Str} {p pos apos:Pos} {e o:Expr} {es:List Expr} {ta:TE} {t:TA}
theorem v40 {pins:List (Addr × Obj)} {σ:St} {H:Hp} {s:Shared} {Q:VK} {us:List Value} {vs:List V} (F:FnOk X.prog X.w X.K X.mg X.base CX k f fd ps sp) (hr:Room k X.A) (hb:Binds X.K fd ps ds) (hd:Vals dvs ds) (hx:Passes CX X E)
  (I:Inv X pins σ H s) (r:Vals vs us) (h:sp (vs++dvs) H Q E):wpAny (model X.prog X.w) X.A (call (.ref f) us) (EP X pins σ Q) X.xe s:=by
 have r2:Vals (vs++dvs) (us++ds):=r.append hd;have hl:(us++ds).length=ps.length:=by rw [<- r2.length];exact F.len _ _ _ _ h
 refine wpAny_call (codeAny_mono (F.run X.A X.stack s H ⟨us,[]⟩ (us++ds) (vs++dvs) Q E hr I.env0 (hb s us I.kIn hl) r2 h) fun r s' hq=>?_);cases r with
 | error e=>exact hx pins σ H s e s' I hq
 | ok fl =>
  cases fl with
  | ret u=>exact I.after hq
  | next=>exact False.elim hq
  | brk=>exact False.elim hq
  | cont=>exact False.elim hq
theorem ur4 (F:FnOk X.prog X.w X.K X.mg X.base CX k f fd ps sp) (hr:Room k X.A) (hg:Gl X x) (hm:X.mg x=some (.ref f)) (hk:W.keepIn X.K (.ref f)=true) (hb:Binds X.K fd ps ds) (hd:Vals dvs ds) (hx:Passes CX X E)
  (ha:PA X (e::es) t) (hdb:(x == ("__debug__" : Str))=false:=by decide) (he:starEach (e::es) X.env=(false,eval e X.env)::starEach es X.env:=by rfl) (hpl:(backTo pos (starEach es X.env)).any (·.1)=false:=by rfl) :
  PE X (.Call (.Name x p) (e::es) [] pos) (vs3 sp dvs E t):=by
 intro pins s σ H Q I h;refine wpAny_Call_Name_kw (ua3 I hg hm ?_ hdb)
 (refine W.callWith_K (h₀:=X.base) I.ok.mod.kin hk (thn (ha pos pins s σ H _ I h) ?_) he hpl;rintro us s1 ⟨vs,H1,I1,r,q⟩;refine ⟨I1.kIn,?_⟩)
 exact v40 F hr hb hd hx I1 r q
theorem vy5 {pl:Sem Bool} (he:PE X o ta) (c:Cls X.K C) (hm:Meth X.K C m f) (F:FnOk X.prog X.w X.K X.mg X.base CX k f fd ps sp) (hr:Room k X.A) (hb:Binds X.K fd ps ds) (hd:Vals dvs ds) (hx:Passes CX X E) (ha:PA X (e::es) t)
  (hst:starEach (e::es) X.env=(false,eval e X.env)::starEach es X.env:=by rfl) (hpl:(backTo pos (starEach es X.env)).any (·.1)=false:=by rfl)
  (ht:eval (.Call (.Attribute o m apos) (e::es) [] pos) X.env=(do
   let ov <- eval o X.env
   standAt apos.atName
   let (f,first) <- holding [ov] (getMethod ov m pl)
   callWith pos f first (backTo pos (starEach (e::es) X.env)) (backToKw pos (keywordEach [] X.env))):=by rfl) :
  PE X (.Call (.Attribute o m apos) (e::es) [] pos) (vr9 C m sp dvs E ta t):=by
 intro pins s σ H Q I h
 (refine W.methodCall_KW (pl:=pl) (thn (he pins s σ H _ I h) ?_) ht;rintro u s1 ⟨x,H1,I1,rx,a,dx,fs,ex,ea,l,q⟩)
 subst ex;obtain rfl:u=Value.ref a:=rx;refine uc8 I1 ea c hm l ?_
 (refine W.callWith_K (first:=[.ref a]) (h₀:=X.base) I.ok.mod.kin hm.kp (thn (ha pos pins s1 σ H1 _ I1 q) ?_) hst hpl;rintro us s2 ⟨vs,H2,I2,r,q2⟩;refine ⟨I2.kIn,?_⟩)
 exact v40 (us:=.ref a::us) (vs:=.ref a::vs) F hr hb hd hx I2 (.cons rfl r) q2
theorem vg5 {pl:Sem Bool} (he:PE X o ta) (c:Cls X.K C) (hm:Meth X.K C m f) (F:FnOk X.prog X.w X.K X.mg X.base CX k f fd ps sp) (hr:Room k X.A) (hb:Binds X.K fd ps ds) (hd:Vals dvs ds) (hx:Passes CX X E)
  (ht:eval (.Call (.Attribute o m apos) [] [] pos) X.env=(do
   let ov <- eval o X.env
   standAt apos.atName
   let (f,first) <- holding [ov] (getMethod ov m pl)
   callWith pos f first (backTo pos (starEach [] X.env)) (backToKw pos (keywordEach [] X.env))):=by rfl) :
  PE X (.Call (.Attribute o m apos) [] [] pos) (vr9 C m sp dvs E ta tNil):=by
 intro pins s σ H Q I h
 (refine W.methodCall_KW (pl:=pl) (thn (he pins s σ H _ I h) ?_) ht;rintro u s1 ⟨x,H1,I1,rx,a,dx,fs,ex,ea,l,q⟩)
 subst ex;obtain rfl:u=Value.ref a:=rx;refine uc8 I1 ea c hm l ?_;exact W.callWith_K0 (first:=[.ref a]) I1.kIn hm.kp (v40 (us:=[.ref a]) (vs:=[.ref a]) F hr hb hd hx I1 (.cons rfl .nil) q)
structure Mk (K:W.Frag) (C f:Addr):Prop where
 makes:W.makesIn K C=true
 init:W.findIn K (.ref C) "__init__" = some (some (.ref f))
 fn:W.isFn K (.ref f)=true
 kp:W.keepIn K (.ref C)=true
theorem vf1 {pins:List (Addr × Obj)} {σ:St} {H:Hp} {s:Shared} {Q:VK} {us:List Value} {vs:List V} (M:Mk X.K C f) (F:FnOk X.prog X.w X.K X.mg X.base CX k f fd ps sp) (hr:Room (k+1) X.A) (hb:Binds X.K fd ps ds) (hd:Vals dvs ds)
  (hx:Passes CX X E) (I:Inv X pins σ H s) (r:Vals vs us)
  (h:∀ x dx,H x=none->H dx=none->dx ≠ x->sp (.ref x::(vs++dvs)) (upd (upd H dx (.own x)) x (.ins C dx [])) (fun v H2=>v=.non /\ Q (.ref x) H2) E) :
  wpAny (model X.prog X.w) X.A (call (.ref C) us) (EP X pins σ Q) X.xe s:=by
 have hq:=h (s.heap.objs.size+1) s.heap.objs.size (I.hok.fresh (Nat.le_succ _)) (I.hok.fresh (Nat.le_refl _)) (Nat.ne_of_lt (Nat.lt_succ_self _));have I2:=Inv.made (C:=C) I;have r2:Vals (V.ref (s.heap.objs.size+1)::(vs++dvs)) (Value.ref (s.heap.objs.size+1)::(us++ds)):=.cons rfl (r.append hd);have hl:(Value.ref (s.heap.objs.size+1)::us++ds).length=ps.length:=by
  have e:=r2.length;rw [F.len _ _ _ _ hq] at e;exact e.symm
 refine wpAny_call (vh5 (f:=f) I.kIn M.makes M.init (beq_iff_eq.mp M.fn) (codeAny_mono (F.run _ X.stack _ _ ⟨Value.ref (s.heap.objs.size+1)::us,[]⟩ (Value.ref (s.heap.objs.size+1)::(us++ds)) _ _ E (hr.make C us [])
  (I2.env0.make C us []) (hb _ (Value.ref (s.heap.objs.size+1)::us) I2.kIn hl) r2 hq) fun r s' hq'=>?_))
 cases r with
 | error e=>exact hx pins σ _ _ e s' I2 hq'
 | ok fl =>
  cases fl with
  | ret u =>
   obtain ⟨v,H',I3,rv,ev,q3⟩:=I2.after hq';subst ev;exact ⟨rv,⟨V.ref (s.heap.objs.size+1),H',I3,rfl,q3⟩⟩
  | next=>exact False.elim hq'
  | brk=>exact False.elim hq'
  | cont=>exact False.elim hq'
theorem vy6 (M:Mk X.K C f) (F:FnOk X.prog X.w X.K X.mg X.base CX k f fd ps sp) (hr:Room (k+1) X.A) (hg:Gl X x) (hm:X.mg x=some (.ref C)) (hb:Binds X.K fd ps ds) (hd:Vals dvs ds) (hx:Passes CX X E)
  (ha:PA X (e::es) t) (hdb:(x == ("__debug__" : Str))=false:=by decide) (he:starEach (e::es) X.env=(false,eval e X.env)::starEach es X.env:=by rfl) (hpl:(backTo pos (starEach es X.env)).any (·.1)=false:=by rfl) :
  PE X (.Call (.Name x p) (e::es) [] pos) (w96 C sp dvs E t):=by
 intro pins s σ H Q I h;refine wpAny_Call_Name_kw (ua3 I hg hm ?_ hdb)
 (refine W.callWith_K (h₀:=X.base) I.ok.mod.kin M.kp (thn (ha pos pins s σ H _ I h) ?_) he hpl;rintro us s1 ⟨vs,H1,I1,r,q⟩;refine ⟨I1.kIn,?_⟩)
 exact vf1 M F hr hb hd hx I1 r q
end
structure FnScope (N P:List Str) (sc:Scope):Prop where
 kind:sc.kind=.function
 co:sc.isCoroutine=false
 gen:sc.isGenerator=false
 nd:N.Nodup
 pre:N.take P.length=P
 par:∀ x ∈ P,sc.names.lookup x=some .local \/ sc.names.lookup x=some .cell
 nofree:∀ y ∈ sc.names,y.2 ≠ .free
theorem up8 {kindOf:Str->Option NameKind} {x:Str}:∀ {binds:List (Str × Value)} {m:Str->Option Value},(∀ v,(x,v) ∉ binds)->bindL kindOf binds m x=m x
 | [],_,_=>rfl
 | (n,v)::r,m,h=>by
  unfold bindL;rw [up8 fun w hw=>h w (List.mem_cons_of_mem _ hw)];split
  ·have:x ≠ n:=by rintro rfl;exact h v List.mem_cons_self
   simp [this]
  ·rfl
theorem uq0 {kindOf:Str->Option NameKind} {x:Str}:∀ {binds:List (Str × Value)} {m:Str->Option Value},(∀ v,(x,v) ∉ binds)->bindC kindOf binds m x=m x
 | [],_,_=>rfl
 | (n,v)::r,m,h=>by
  unfold bindC;rw [uq0 fun w hw=>h w (List.mem_cons_of_mem _ hw)];split
  ·rfl
  ·have:x ≠ n:=by rintro rfl;exact h v List.mem_cons_self
   simp [this]
theorem up9 {kindOf:Str->Option NameKind} {x:Str} {v:Value}:∀ {P:List Str} {vs:List Value} {i:Nat} {m:Str->Option Value},P.Nodup->P[i]?=some x->vs[i]?=some v->kindOf x=some .local ->
  bindL kindOf (P.zip vs) m x=some v
 | [],_,_,_,_,h,_,_=>by simp at h
 | _::_,[],_,_,_,_,h,_=>by simp at h
 | p::P,w::vs,0,m,nd,h1,h2,hk=>by
  simp at h1 h2;subst h1;subst h2
  show bindL kindOf ((p,w)::P.zip vs) m p=_
  unfold bindL;rw [up8 fun v hv=>(List.nodup_cons.mp nd).1 (List.of_mem_zip hv).1,if_pos hk];simp
 | p::P,w::vs,i+1,m,nd,h1,h2,hk=>by
  show bindL kindOf ((p,w)::P.zip vs) m x=_
  unfold bindL;exact up9 (i:=i) (List.nodup_cons.mp nd).2 (by simpa using h1) (by simpa using h2) hk
theorem uq1 {kindOf:Str->Option NameKind} {x:Str} {v:Value}:∀ {P:List Str} {vs:List Value} {i:Nat} {m:Str->Option Value},P.Nodup->P[i]?=some x->vs[i]?=some v->kindOf x ≠ some .local ->
  bindC kindOf (P.zip vs) m x=some v
 | [],_,_,_,_,h,_,_=>by simp at h
 | _::_,[],_,_,_,_,h,_=>by simp at h
 | p::P,w::vs,0,m,nd,h1,h2,hk=>by
  simp at h1 h2;subst h1;subst h2
  show bindC kindOf ((p,w)::P.zip vs) m p=_
  unfold bindC;rw [uq0 fun v hv=>(List.nodup_cons.mp nd).1 (List.of_mem_zip hv).1,if_neg hk];simp
 | p::P,w::vs,i+1,m,nd,h1,h2,hk=>by
  show bindC kindOf ((p,w)::P.zip vs) m x=_
  unfold bindC;exact uq1 (i:=i) (List.nodup_cons.mp nd).2 (by simpa using h1) (by simpa using h2) hk
def start (N:List Str) (vs:List V):St:=vs.map some++List.replicate (N.length - vs.length) none
def cxOf (CX:CXT) (P:Program) (w:World) (K:W.Frag) (mg:Str->Option Value) (base:Heap) (N:List Str) (qual:Str) (scope:Scope) (f:Addr) (cd:Value) (A:Around) (outer:List Env) (s:Shared) (H:Hp) (E:XK):Cx where
 prog:=P
 w:=w
 K:=K
 mg:=mg
 base:=base
 A:=A.deeper (envOfC qual scope s.heap.objs.size f cd)
 N:=N
 s₀:=s
 H₀:=H
 env:=envOfC qual scope s.heap.objs.size f cd
 outer:=outer
 stack:=envOfC qual scope s.heap.objs.size f cd::outer
 ex:=[]
 calm:=true
 fn:=fun _=>true
 pn:=[]
 xe:=fun e s'=>wpAny (model P w) (A.deeper (envOfC qual scope s.heap.objs.size f cd)) (leaving (envOfC qual scope s.heap.objs.size f cd) e) (fun _ s''=>CX outer H s E e s'') (fun e' s''=>CX outer H s E e' s'') s'
theorem ux2 {sc:Scope} {n:Nat} {x:Str} (h:sc.names.lookup x=some .cell):∃ c,(cellsFrom n sc.names []).lookup x=some c:=by
 have q:=W.cellsFrom_some sc.names n [] (.inl h);exact Option.isSome_iff_exists.mp q
theorem v87 {CX:CXT} {P:Program} {w:World} {K:W.Frag} {mg:Str->Option Value} {base:Heap} {N ps:List Str} {qual:Str} {scope:Scope} {f:Addr} {cd:Value} {A:Around} {outer:List Env} {s s1:Shared} {H:Hp} {E:XK} {us:List Value} {vs:List V}
  (S:FnScope N ps scope) (hd:A.handled=none) (e0:Env0 P w K mg base A outer s H) (hl:vs.length=ps.length) (r:Vals vs us)
  (x:InCallC s s.heap.objs.size (bindL (envOfC qual scope s.heap.objs.size f cd).kindOf (ps.zip us) fun _=>none) (cellsFrom (s.heap.objs.size+1) scope.names []) (bindC (envOfC qual scope s.heap.objs.size f cd).kindOf (ps.zip us) fun _=>none) s1) :
  Inv (cxOf CX P w K mg base N qual scope f cd A outer s H E) [] (start N vs) H s1:=by
 have hpl:ps.length<=N.length:=by have:=congrArg List.length S.pre;rw [List.length_take] at this;omega
 obtain ⟨h1,tk,rfl,hk⟩:=x.done;have noA:∀ b:Addr,b ∉ (cxOf CX P w K mg base N qual scope f cd A outer s H E).ex:=fun b z=>absurd (show b ∈ ([]:List Addr) from z) (by simp)
 refine ⟨⟨e0.mod,S.kind,rfl,rfl,Nat.le_refl _,fun y z c h1 h2=>?_,fun y hy=>?_,fun y c _ h=>?_,fun _=>hd,Around.frames_deeper e0.frames,.inr ⟨rfl,rfl⟩,fun b z=>absurd z (noA b),e0.bs,e0.bsz,fun b _ _=>noA b,fun b z=>absurd z (noA b),e0.funs,e0.frf⟩,
  rfl,e0.bare,Un.kept hk,⟨_,x.toInCall.ns,fun i y v h1 h2 h3=>?_⟩,fun y c h=>⟨_,x.cell y c h⟩,e0.hok.fresh (Nat.le_refl _),fun y c h=>?_,fun p hp=>absurd (show p ∈ ([]:List (Addr × Obj)) from hp) (by simp),e0.hok.kept hk,?_⟩
 ·exact name_of_addr x.apart (PySem.mem_of_lookup h1) (PySem.mem_of_lookup h2)
 ·have hy:scope.names.lookup y=some .cell \/ scope.names.lookup y=some .free:=hy
  rcases hy with hy | hy
  ·exact ux2 hy
  ·exact absurd rfl (S.nofree _ (PySem.mem_of_lookup hy))
 ·exact Nat.le_of_lt (x.above y c (PySem.mem_of_lookup h))
 ·have hi:i < vs.length:=by
   unfold start at h2
   by_cases hi:i < vs.length
   ·exact hi
   ·rw [List.getElem?_append_right (by simpa using hi)] at h2
    rw [List.getElem?_replicate] at h2;split at h2 <;> cases h2
  have ha:vs[i]?=some v:=by
   unfold start at h2;rw [List.getElem?_append_left (by simpa using hi),List.getElem?_map] at h2;cases e:vs[i]? with
   | none=>rw [e] at h2;cases h2
   | some a=>rw [e] at h2;cases h2;rfl
  obtain ⟨u,hu,rv⟩:=r.get ha;have hp:ps[i]?=some y:=by
   rw [<- S.pre,List.getElem?_take_of_lt (by omega)];exact h1
  have ndP:ps.Nodup:=by rw [<- S.pre];exact S.nd.sublist (List.take_sublist _ _)
  refine ⟨u,rv,?_⟩
  rcases S.par y (List.mem_of_getElem? hp) with k | k
  ·exact .inl ⟨k,up9 ndP hp hu k⟩
  ·obtain ⟨c,e⟩:=ux2 (n:=s.heap.objs.size+1) k
   refine .inr ⟨.inl k,c,e,?_⟩;have q:=x.cell y c e;rw [uq1 ndP hp hu (by show scope.names.lookup y ≠ _;rw [k];decide)] at q;exact q
 ·exact e0.hok.fresh (Nat.le_of_lt (x.above y c (PySem.mem_of_lookup h)))
 ·unfold start
  show _=N.length
  rw [List.length_append,List.length_map,List.length_replicate];omega
theorem w25 {CX:CXT} {P:Program} {w:World} {K:W.Frag} {mg:Str->Option Value} {base:Heap} {k:Nat} {f:Addr} {name qual:Str} {params:Arguments} {body:List Stmt} {scope:Scope} {dV kV doc pm cdv ct oc:Value} {an od:Option Addr}
  {osl:Array (Option Value)} {N ps:List Str} {sp:Sp} (lk:K.lookup f=some ⟨oc,od,.func (W.fnOf name qual params body scope dV kV doc pm an cdv ct),osl⟩) (hcd:W.codeIn K cdv qual=true) (S:FnScope N ps scope)
  (len:∀ vs H Q E,sp vs H Q E->vs.length=ps.length)
  (hbody:∀ (A:Around) (outer:List Env) (s:Shared) (H:Hp) (vs:List V) (Q:VK) (E:XK),Room k (A.deeper (envOfC qual scope s.heap.objs.size f cdv))->sp vs H Q E ->
   ∃ t,PSs (cxOf CX P w K mg base N qual scope f cdv A outer s H E) body t /\ t { nx:=fun _ H'=>Q .non H',rt:=Q } (start N vs) H) :
  FnOk P w K mg base CX (k+1) f (W.fnOf name qual params body scope dV kV doc pm an cdv ct) ps sp:=by
 refine ⟨len,fun A outer s H args us vs Q E hr e0 hb r hsp=>?_⟩;have hl:=len _ _ _ _ hsp;have KX:K.In s.heap:=e0.mod.kin.keeps fun b o e=>(e0.bs b o e).1
 have lim:s.heap.NoLimit:=e0.mod.nolimit.keeps fun b o e=>(e0.bs b o e).1
 have hkind:∀ y ∈ ps.zip us,scope.names.lookup y.1=some .local \/ (scope.names.lookup y.1=some .cell /\ ((cellsFrom (s.heap.objs.size+1) scope.names []).lookup y.1).isSome=true):=fun ⟨n,v⟩ hy=>by
  rcases S.par n (List.of_mem_zip hy).1 with q | q
  ·exact .inl q
  ·exact .inr ⟨q,W.cellsFrom_some _ _ _ (.inl q)⟩
 refine codeAny_call_function hr.depth (KX _ _ lk) rfl S.co S.gen rfl (W.codeRec_of KX hcd) (hb _ _ _ _ ?_);refine wpAny_newFunctionEnv_cells S.kind hkind fun env he s1 x=>?_
 subst he;refine ⟨lim.keeps x.toInCall.keep,codeAny_func ?_⟩;obtain ⟨t,ht,hq⟩:=hbody A outer s H vs Q E (hr.deeper _) hsp;have I:Inv (cxOf CX P w K mg base N qual scope f cdv A outer s H E) [] (start N vs) H s1:=v87 S hr.hd e0 hl r x;refine wpAny_mono (ht [] s1 (start N vs) H _ I hq) (fun fl s' hs=>?_) fun e s' hs=>hs
 have fin:∀ {σ':St} {H':Hp} {v:V} {u:Value},Inv (cxOf CX P w K mg base N qual scope f cdv A outer s H E) [] σ' H' s'->RelV v u->Q v H'->CE outer P w H s Q u s' :=
  fun {σ' H' v u} J rv q=>⟨v,H',J.os,J.bare,J.base,J.hok,rv,q⟩
 cases fl with
 | ret u =>
  obtain ⟨v,σ',H',J,rv,q⟩:=hs;exact fin J rv q
 | next =>
  obtain ⟨σ',H',J,q⟩:=hs;exact fin (v:=V.non) (u:=Value.none) J rfl q
 | brk =>
  obtain ⟨_,_,_,q⟩:=hs;exact False.elim q
 | cont =>
  obtain ⟨_,_,_,q⟩:=hs;exact False.elim q
section
variable {X:Cx} {x:Str} {p pos:Pos} {e:Expr} {es:List Expr} {t:TA} {id T:String} {r:List V->Hp->VK->Prop}
def tCB (r:List V->Hp->VK->Prop) (t:TA):TE:=fun σ H Q=>t σ H fun vs H1=>r vs H1 Q
theorem vg8 (hc:CallR X (.builtin id) r) (hg:Gl X x) (hm:X.mg x=none) (hv:bootBuiltins x=some (.builtin id)) (ha:PA X (e::es) t) (hn:x ≠ "__name__" := by decide) (hdb:(x == ("__debug__" : Str))=false:=by decide)
  (he:starEach (e::es) X.env=(false,eval e X.env)::starEach es X.env:=by rfl) (hpl:(backTo pos (starEach es X.env)).any (·.1)=false:=by rfl):PE X (.Call (.Name x p) (e::es) [] pos) (tCB r t):=by
 intro pins s σ H Q I h;refine wpAny_Call_Name_kw (uo7 I hg hm hv ?_ hn hdb)
 (refine PyProof.Rows.callWith_builtin1 (thn (ha pos pins s σ H _ I h) ?_) he hpl;rintro us s1 ⟨vs,H1,I1,r1,q1⟩;exact hc pins s1 σ H1 vs us Q I1 r1 q1)
theorem v48 (hc:CallR X (.type T) r) (hg:Gl X x) (hm:X.mg x=none) (hv:bootBuiltins x=some (.type T)) (ha:PA X (e::es) t) (hn:x ≠ "__name__" := by decide) (hdb:(x == ("__debug__" : Str))=false:=by decide)
  (he:starEach (e::es) X.env=(false,eval e X.env)::starEach es X.env:=by rfl) (hpl:(backTo pos (starEach es X.env)).any (·.1)=false:=by rfl):PE X (.Call (.Name x p) (e::es) [] pos) (tCB r t):=by
 intro pins s σ H Q I h;refine wpAny_Call_Name_kw (uo7 I hg hm hv ?_ hn hdb)
 (refine PyProof.Rows.callWith_type1 (thn (ha pos pins s σ H _ I h) ?_) he hpl;rintro us s1 ⟨vs,H1,I1,r1,q1⟩;exact hc pins s1 σ H1 vs us Q I1 r1 q1)
end
section
variable {κ:Type} [DecidableEq κ]
def valV (kvs:List (κ × V)) (k:κ):Option V:=(kvs.find? fun kv=>decide (kv.1=k)).map (·.2)
def putK (kvs:List (κ × V)) (k:κ) (v:V):List (κ × V) :=
 if (kvs.any fun kv=>decide (kv.1=k))=true then kvs.map (fun kv=>if kv.1=k then (kv.1,v) else kv) else kvs++[(k,v)]
def wl7 (kvs:List (κ × V)) (k:κ):List (κ × V):=kvs.filter fun kv=>decide (kv.1 ≠ k)
theorem vd7 {p:κ × V} {r:List (κ × V)} {k:κ} (e:p.1=k):valV (p::r) k=some p.2:=by simp [valV,List.find?_cons,e]
theorem vd8 {p:κ × V} {r:List (κ × V)} {k:κ} (e:¬ p.1=k):valV (p::r) k=valV r k:=by simp [valV,List.find?_cons,e]
theorem RelO.getD {o:Option V} {u:Option Value} {d:V} {d':Value} (r:RelO o u) (rd:RelV d d'):RelV (o.getD d) (u.getD d'):=by
 cases o with
 | none=>cases u with
  | none=>exact rd
  | some _=>exact (show False from r).elim
 | some _=>cases u with
  | none=>exact (show False from r).elim
  | some _=>exact r
theorem KV.val {kvs:List (κ × V)} {vs:List (κ × Value)} (r:KV kvs vs) (k:κ):RelO (valV kvs k) (valueAt vs k):=by
 unfold KV at r
 induction r with
 | nil=>exact True.intro
 | @cons p q ps qs h t ih =>
  obtain ⟨h1,h2⟩:=h
  by_cases e:p.1=k
  ·have e':q.1=k:=h1.symm.trans e
   have b:valueAt (q::qs) k=some q.2:=by simp [valueAt,List.find?_cons,e']
   rw [vd7 e,b];exact h2
  ·have e':¬ q.1=k:=fun z=>e (h1.trans z)
   have b:valueAt (q::qs) k=valueAt qs k:=by simp [valueAt,List.find?_cons,e']
   rw [vd8 e,b];exact ih
theorem KV.any {kvs:List (κ × V)} {vs:List (κ × Value)} (r:KV kvs vs) (k:κ):(kvs.any fun kv=>decide (kv.1=k))=vs.any fun kv=>decide (kv.1=k):=by
 unfold KV at r
 induction r with
 | nil=>rfl
 | cons h t ih=>rw [List.any_cons,List.any_cons,ih,h.1]
theorem KV.repl {kvs:List (κ × V)} {vs:List (κ × Value)} (r:KV kvs vs) (k:κ) {y:V} {u:Value} (ry:RelV y u) :
  KV (kvs.map fun kv=>if kv.1=k then (kv.1,y) else kv) (vs.map fun kv=>if kv.1=k then (kv.1,u) else kv):=by
 unfold KV at r ⊢
 induction r with
 | nil=>exact .nil
 | @cons p q ps qs h t ih =>
  rw [List.map_cons,List.map_cons];refine .cons ?_ ih;obtain ⟨h1,h2⟩:=h
  by_cases e:p.1=k
  ·rw [if_pos e,if_pos (h1.symm.trans e)];exact ⟨h1,ry⟩
  ·rw [if_neg e,if_neg (fun z=>e (h1.trans z))];exact ⟨h1,h2⟩
theorem KV.put {kvs:List (κ × V)} {vs:List (κ × Value)} (r:KV kvs vs) (k:κ) {y:V} {u:Value} (ry:RelV y u):KV (putK kvs k y) (stored vs k u):=by
 unfold putK stored;rw [r.any k]
 by_cases e:(vs.any fun kv=>decide (kv.1=k))=true
 ·rw [if_pos e,if_pos e];exact r.repl k ry
 ·rw [if_neg e,if_neg e];exact Paired.snoc r ⟨rfl,ry⟩
theorem KV.drop {kvs:List (κ × V)} {vs:List (κ × Value)} (r:KV kvs vs) (k:κ):KV (wl7 kvs k) (without vs k):=by
 unfold KV at r ⊢;unfold wl7 without
 induction r with
 | nil=>exact .nil
 | @cons p q ps qs h t ih =>
  obtain ⟨h1,h2⟩:=h;rw [List.filter_cons,List.filter_cons]
  by_cases e:p.1=k
  ·have a:¬ decide (p.1 ≠ k)=true:=by simp [e]
   have b:¬ decide (q.1 ≠ k)=true:=by simp [h1.symm.trans e]
   rw [if_neg a,if_neg b];exact ih
  ·have e':¬ q.1=k:=fun z=>e (h1.trans z)
   have a:decide (p.1 ≠ k)=true:=by simp [e]
   have b:decide (q.1 ≠ k)=true:=by simp [e']
   rw [if_pos a,if_pos b];exact .cons ⟨h1,h2⟩ ih
theorem KV.length {kvs:List (κ × V)} {vs:List (κ × Value)} (r:KV kvs vs):kvs.length=vs.length:=Paired.length r
end
end L2
namespace HT
open PySem PyProof.Rows
section
open PySem.SeqAt
open PySem.AutoSeq1 (wpAny_loadPart')
open PySem.MeetsSeq PySem.MeetsSeq2 PySem.MeetsSeq3
end
section
variable {prog:Program} {w:World} {A:Around} {E:Value->Shared->Prop} {s:Shared}
theorem cat_tup {t b:Addr} {vs ws:List Value} {Q:Value->Shared->Prop} (ht:IsTup s.heap t vs.toArray) (hb:IsTup s.heap b ws.toArray) (hv:vs ≠ [])
  (h1:ws=[]->Q (.ref t) s) (h2:ws ≠ []->Q (.ref s.heap.objs.size) { s with heap:=s.heap.push { cls:=.type "tuple",data:=.seq (vs++ws).toArray } })
  (hsz:vs.length+ws.length<=sizeLine):wpAny (model prog w) A (binaryOp .Add (.ref t) (.ref b)) Q E s:=by
 obtain ⟨⟨cls,dd,data,sl⟩,ho,hc,n,hd⟩:=id ht;obtain ⟨⟨cls2,dd2,data2,sl2⟩,ho2,hc2,n2,hd2⟩:=id hb;simp only at hc hd hc2 hd2;subst hc hd hc2 hd2;have e:vs.toArray++ws.toArray=(vs++ws).toArray:=by simp
 by_cases hw:ws=[]
 ·exact concat_meets ⟨_,ho,rfl⟩ ⟨_,ho2,rfl⟩ noFill_tuple_add seq_tuple_add PySem.F.slot_tuple_add PySem.F.entry_tuple_add (PySem.F.args_tuple_add_2 _ _)
   (tuple_addW1 t b vs.toArray ws.toArray n n2 dd dd2 sl sl2 (by simpa using hv) (by simp [hw])) ⟨ho,ho2,h1 hw⟩
 ·refine concat_meets ⟨_,ho,rfl⟩ ⟨_,ho2,rfl⟩ noFill_tuple_add seq_tuple_add PySem.F.slot_tuple_add PySem.F.entry_tuple_add (PySem.F.args_tuple_add_2 _ _)
   (tuple_addW2 t b vs.toArray ws.toArray n n2 dd dd2 sl sl2 (by simpa using hv) (by simpa using hw) (by rw [List.size_toArray,List.size_toArray];exact hsz)) ⟨ho,ho2,?_⟩
  rw [e];exact h2 hw
def sIx (n d:Nat):Option Int->Nat
 | none=>d
 | some v=>if v < 0 then (v+(n:Int)).toNat else min v.toNat n
theorem sIx_none (n d:Nat):sIx n d none=d:=rfl
theorem sIx_nat (n d k:Nat):sIx n d (some (k:Int))=min k n:=by
 show (if (k:Int) < 0 then ((k:Int)+(n:Int)).toNat else min (k:Int).toNat n)=min k n
 rw [if_neg (by omega),Int.toNat_natCast]
theorem wa4 (n d:Nat) (hd:d<=n) (o:Option Int):sIx n d o<=n:=by
 cases o with
 | none=>exact hd
 | some v =>
  show (if v < 0 then (v+(n:Int)).toNat else min v.toNat n)<=n
  by_cases hv:v < 0
  ·rw [if_pos hv];omega
  ·rw [if_neg hv];exact Nat.min_le_right _ _
theorem va9 (v:Int) (n d:Nat):(if v < 0 then max (v+(n:Int)) 0 else min v (n:Int))=((sIx n d (some v):Nat):Int):=by
 show (if v < 0 then max (v+(n:Int)) 0 else min v (n:Int))=(((if v < 0 then (v+(n:Int)).toNat else min v.toNat n):Nat):Int)
 by_cases hv:v < 0
 ·simp only [if_pos hv];omega
 ·simp only [if_neg hv];omega
theorem uz7 (lo hi:Option Int) (n:Nat):Builtin.Slice.sliceAdjust lo hi 1 (n:Int)=(((sIx n 0 lo:Nat):Int),((sIx n n hi:Nat):Int)):=by
 have h1:¬ ((1:Int) < 0):=by omega
 unfold Builtin.Slice.sliceAdjust;simp only [h1,if_false];refine Prod.ext ?_ ?_
 ·cases lo with
  | none=>rfl
  | some v=>exact va9 v n 0
 ·cases hi with
  | none=>rfl
  | some v=>exact va9 v n n
theorem uy3 (i j:Nat):Builtin.Slice.slicePlaces (i:Int) (j:Int) 1=j - i:=by
 unfold Builtin.Slice.slicePlaces;have h1:(1:Int) > 0:=by omega
 simp only [h1,if_true,Int.ediv_one];split <;> omega
theorem uj6 {v:Value} {o:Option Int} {Q:Option Int->Shared->Prop} (p:IsPart v o) (h:Q o s):wpAny (model prog w) A (Builtin.Slice.slicePartIndex v) Q E s:=by
 cases p with
 | none=>exact slicePart_none h
 | int i t=>exact slicePart_int h
theorem ud7 {sl:Addr} {vl vu:Value} {lo hi:Option Int} {n:Nat} {Q:Int × Int × Nat->Shared->Prop} (hs:s.heap.IsSliceOf sl vl vu .none) (pl:IsPart vl lo) (pu:IsPart vu hi)
  (h:Q (((sIx n 0 lo:Nat):Int),1,sIx n n hi - sIx n 0 lo) s):wpAny (model prog w) A (Builtin.Slice.sliceApplied (.ref sl) (pure (n:Int))) Q E s:=by
 obtain ⟨os,hos,hcs,hds⟩:=id hs;unfold Builtin.Slice.sliceApplied Builtin.Slice.sliceFields;refine wpAny_bind (wpAny_bind (wpAny_field hos hds (x:=vl) rfl (wpAny_bind (wpAny_field hos hds (x:=vu) rfl (wpAny_bind (wpAny_field hos hds (x:=.none) rfl (wpAny_pure ?_)))))));refine wpAny_bind (slicePart_none ?_)
 show wpAny _ _ (if ((1:Int) == 0)=true then _ else _) _ _ s
 rw [if_neg (by decide)];refine wpAny_bind (uj6 pl (wpAny_bind (uj6 pu (wpAny_bind (wpAny_pure ?_)))))
 show wpAny _ _ (match Builtin.Slice.sliceAdjust lo hi 1 (n:Int) with | (lo,hi)=>pure (lo,(1:Int),Builtin.Slice.slicePlaces lo hi 1)) _ _ s
 rw [uz7 lo hi n]
 show wpAny _ _ (pure (((sIx n 0 lo:Nat):Int),(1:Int),Builtin.Slice.slicePlaces ((sIx n 0 lo:Nat):Int) ((sIx n n hi:Nat):Int) 1)) _ _ s
 rw [uy3];exact wpAny_pure h
theorem vg1 (xs:Array Value) (i k:Nat):((List.range k).filterMap fun (m:Nat)=>xs[((i:Int)+(m:Int) * 1).toNat]?).toArray=((xs.toList.drop i).take k).toArray:=by
 have e:(fun (m:Nat)=>xs[((i:Int)+(m:Int) * 1).toNat]?)=fun m=>xs[i+m]?:=by
  funext m
  have:((i:Int)+(m:Int) * 1).toNat=i+m:=by omega
  rw [this]
 rw [e];have:=pick_run xs i k;rw [List.filterMap_map] at this;have e2:((fun x=>xs[x]?) ∘ fun x=>i+x)=fun m=>xs[i+m]?:=rfl
 rw [e2] at this;rw [this]
theorem getItem_tuple_cut {t sl:Addr} {items:Array Value} {vl vu:Value} {lo hi:Option Int} {Q:Value->Shared->Prop} (ht:IsTup s.heap t items) (hs:s.heap.IsSliceOf sl vl vu .none) (pl:IsPart vl lo) (pu:IsPart vu hi)
  (hw:¬ (sIx items.size 0 lo=0 /\ sIx items.size items.size hi=items.size))
  (h:Q (.ref s.heap.objs.size) { s with heap:=s.heap.push { cls:=.type "tuple",data:=.seq ((items.toList.drop (sIx items.size 0 lo)).take (sIx items.size items.size hi - sIx items.size 0 lo)).toArray } })
  (hsz:items.size<=sizeLine):wpAny (model prog w) A (getItem (.ref t) (.ref sl)) Q E s:=by
 have htake:sizeOk (.seq ((items.toList.drop (sIx items.size 0 lo)).take (sIx items.size items.size hi - sIx items.size 0 lo)).toArray):=by
  show ((items.toList.drop (sIx items.size 0 lo)).take (sIx items.size items.size hi - sIx items.size 0 lo)).toArray.size<=sizeLine
  rw [List.size_toArray,List.length_take,List.length_drop,Array.length_toList];omega
 have hj:sIx items.size items.size hi<=items.size:=wa4 _ _ (Nat.le_refl _) hi;obtain ⟨os,hos,hcs,hds⟩:=id hs;have hTs:s.TypeIs (.ref sl) "slice" := ⟨os,hos,hcs⟩;unfold getItem
 try with_reducible refine wpAny_holding ?_
 first | refine wpAny_bind (wpAny_pure ?_) | skip
 refine wpAny_bind (wpAny_sequenceKey ht.typeIs (by decide) ?_);refine wpAny_bind (wpAny_callSpecial?_slot (name:=Str.ofString "__getitem__") ht.typeIs PyProof.Rows.slot_tuple_getitem
  (wpAny_call_entry PyProof.Rows.slot_tuple_getitem ht.typeIs entry_tuple_getitem ?_ (args_tuple_getitem _ _)))
 show wpAny _ _ (Builtin.Tuple.tupleItemsOf (.ref t) >>= _) _ _ s
 refine wpAny_bind (tupleItemsOf_ ht ?_);refine wpAny_bind (wpAny_typeOf hTs ?_);rw [if_pos (by decide)];refine wpAny_bind (ud7 hs pl pu ?_);have hno:¬ ((((sIx items.size 0 lo:Nat):Int) == 0 && (1:Int) == 1 && (sIx items.size items.size hi - sIx items.size 0 lo) == items.size)=true):=by
  intro q;rw [Bool.and_eq_true,Bool.and_eq_true] at q;have q1:((sIx items.size 0 lo:Nat):Int)=0:=eq_of_beq q.1.1;have q2:sIx items.size items.size hi - sIx items.size 0 lo=items.size:=eq_of_beq q.2;exact hw ⟨by omega,by omega⟩
 show wpAny _ _ (if (((sIx items.size 0 lo:Nat):Int) == 0 && (1:Int) == 1 && (sIx items.size items.size hi - sIx items.size 0 lo) == items.size)=true then _ else _) _ _ s
 rw [if_neg hno,vg1]
 first
  | exact wpAny_bind (m:=Builtin.Tuple.tupleExact _) (wpAny_newObj_type (wpAny_pure ⟨_,rfl,wpAny_pure h⟩) htake)
  | exact wpAny_bind (m:=Builtin.Tuple.tupleExact _) (wpAny_newObj_type (wpAny_bind (wpAny_pure (wpAny_pure ⟨_,rfl,wpAny_pure h⟩))) htake)
  | exact wpAny_bind (wpAny_bind (m:=Builtin.Tuple.tupleExact _) (wpAny_newObj_type (wpAny_pure (wpAny_pure ⟨_,rfl,wpAny_pure h⟩)) htake))
  | exact wpAny_bind (wpAny_bind (m:=Builtin.Tuple.tupleExact _) (wpAny_newObj_type (wpAny_pure ⟨_,rfl,wpAny_pure h⟩) htake))
end
end HT
namespace L2
open PySem PySem.Spec PyProof.Rows
abbrev TO:=St->Hp->(Option Int->Hp->Prop)->Prop
def PO (X:Cx) (e:Option Expr) (t:TO):Prop :=
 ∀ (pins:List (Addr × Obj)) (s:Shared) (σ:St) (H:Hp) (Q:Option Int->Hp->Prop),Inv X pins σ H s->t σ H Q ->
  wpAny (model X.prog X.w) X.A (evalPart e X.env) (fun u s'=>∃ o H',Inv X pins σ H' s' /\ IsPart u o /\ Q o H') X.xe s
def v20:TO:=fun _ H Q=>Q none H
def w93 (t:TE):TO:=fun σ H Q=>t σ H fun x H1=>∃ i,x=.int i /\ Q (some i) H1
theorem intsAre_of {ns:List Int}:∀ {us:List Value},Vals (ns.map V.int) us->IntsAre us ns:=by
 induction ns with
 | nil=>intro us r;rw [List.map_nil] at r;cases r;exact .nil
 | cons n ns ih =>
  intro us r;rw [List.map_cons] at r;cases r with
  | cons r1 r2 =>
   obtain ⟨t,e⟩:=r1;subst e;exact .cons n t (ih r2)
section
variable {X:Cx} {e:Expr} {te:TE} {lo hi:Option Expr} {tl th:TO} {pos p2:Pos}
theorem vy0:PO X none v20:=by
 intro pins s σ H Q I h;rw [evalPart_none];exact wpAny_pure ⟨none,H,I,.none,h⟩
theorem vx9 (h:PE X e te):PO X (some e) (w93 te):=by
 intro pins s σ H Q I hw;rw [evalPart_some]
 (refine thn (h pins s σ H _ I hw) ?_;rintro u s1 ⟨x,H1,I1,r1,q1⟩)
 obtain ⟨i,rfl,q⟩:=q1;obtain ⟨t,rfl⟩:=r1;exact ⟨some i,H1,I1,.int i t,q⟩
def SlR (X:Cx) (r:V->Option Int->Option Int->Hp->VK->Prop):Prop :=
 ∀ (pins:List (Addr × Obj)) (s:Shared) (σ:St) (H:Hp) (x:V) (v vl vu:Value) (lo hi:Option Int) (sl:Addr) (Q:VK),Inv X pins σ H s->RelV x v->s.heap.IsSliceOf sl vl vu .none->IsPart vl lo->IsPart vu hi->r x lo hi H Q ->
  ∃ T id,typeLookup (.type T) "__getitem__" = pure (some (.builtin id)) /\ s.TypeIs v T /\ wpAny (model X.prog X.w) X.A (getItem v (.ref sl)) (EP X pins σ Q) X.xe s
theorem SlR.or {r r':V->Option Int->Option Int->Hp->VK->Prop} (h:SlR X r) (h':SlR X r'):SlR X (fun x lo hi H Q=>r x lo hi H Q \/ r' x lo hi H Q):=by
 intro pins s σ H x v vl vu lo hi sl Q I rx hs pl pu q
 rcases q with q | q
 ·exact h pins s σ H x v vl vu lo hi sl Q I rx hs pl pu q
 ·exact h' pins s σ H x v vl vu lo hi sl Q I rx hs pl pu q
def tSl (r:V->Option Int->Option Int->Hp->VK->Prop) (te:TE) (tl th:TO):TE:=fun σ H Q=>te σ H fun x H1=>tl σ H1 fun l H2=>th σ H2 fun u H3=>r x l u H3 Q
theorem vg4 {r:V->Option Int->Option Int->Hp->VK->Prop} (hr:SlR X r) (he:PE X e te) (hl:PO X lo tl) (hu:PO X hi th):PE X (.Subscript e (.Slice lo hi none p2) pos) (tSl r te tl th):=by
 intro pins s σ H Q I h
 (refine Subscript_ (thn (he pins s σ H _ I h) ?_);rintro v s1 ⟨x,H1,I1,r1,q1⟩)
 (refine wpAny_Slice (thn (hl pins s1 σ H1 _ I1 q1) ?_);rintro vl s2 ⟨l,H2,I2,pl,q2⟩;refine thn (hu pins s2 σ H2 _ I2 q2) ?_;rintro vu s3 ⟨u,H3,I3,pu,q3⟩)
 rw [evalPart_none];refine wpAny_pure ?_;have I4:Inv X pins σ H3 { s3 with heap:=s3.heap.push { cls:=.type "slice",data:=.fields #[vl,vu,.none] } }:=I3.kept (t':=s3.toks) fun b ob q=>Heap.get?_push_of_some _ q
 obtain ⟨T,id,hT,ht,hg⟩:=hr pins { s3 with heap:=s3.heap.push { cls:=.type "slice",data:=.fields #[vl,vu,.none] } } σ H3 x v vl vu l u s3.heap.objs.size Q I4 r1 (Heap.IsSliceOf.new ..) pl pu q3
 show wpAny (model X.prog X.w) X.A (subscriptTail e (.Slice lo hi none p2) v (.ref s3.heap.objs.size)) (EP X pins σ Q) X.xe { s3 with heap:=s3.heap.push { cls:=.type "slice",data:=.fields #[vl,vu,.none] } }
 exact tail_any (ops:=[.ref s3.heap.objs.size,v]) ht hT hg (by with_unfolding_all rfl)
def cutV (xs:List V) (lo hi:Option Int):List V:=(xs.drop (HT.sIx xs.length 0 lo)).take (HT.sIx xs.length xs.length hi - HT.sIx xs.length 0 lo)
theorem ui4 (xs:List V) (lo hi:Option Int):(cutV xs lo hi).length<=xs.length:=by
 unfold cutV;rw [List.length_take,List.length_drop];omega
def rSlT (K:W.Frag):V->Option Int->Option Int->Hp->VK->Prop:=fun x lo hi H Q=>∃ a xs,x=.ref a /\ SqT K H a xs /\
 ¬ (HT.sIx xs.length 0 lo=0 /\ HT.sIx xs.length xs.length hi=xs.length) /\ ∀ p,H p=none->Q (.ref p) (upd H p (.tup (cutV xs lo hi)))
theorem wa1:SlR X (rSlT X.K):=by
 intro pins s σ H x v vl vu lo hi sl Q I rx hs pl pu h;obtain ⟨a,xs,rfl,hx,hw,q⟩:=h;cases rx;obtain ⟨its,r,ht,hz⟩:=I.tuple hx;have hlen:its.toArray.size=xs.length:=by rw [List.size_toArray];exact r.length.symm
 refine ⟨"tuple",_,PyProof.Rows.slot_tuple_getitem.lookup,ht.typeIs,?_⟩;refine HT.getItem_tuple_cut ht hs pl pu (by rw [hlen];exact hw) ?_ (by rw [hlen];exact hz);rw [hlen];refine ⟨.ref s.heap.objs.size,_,I.laid (t':=s.toks) (o:=.tup (cutV xs lo hi)) (fun b ob q=>Heap.get?_push_of_some _ q) (Nat.le_refl _) ?_,rfl,q _ (I.hok.fresh (Nat.le_refl _))⟩;exact ⟨Nat.le_trans (ui4 xs lo hi) hz,_,(r.drop (HT.sIx xs.length 0 lo)).take (HT.sIx xs.length xs.length hi - HT.sIx xs.length 0 lo),TupD.new _ _⟩
def wo7 (K:W.Frag):R2:=fun x y H Q=>∃ a b xs ys,x=.ref a /\ y=.ref b /\ SqT K H a xs /\ SqT K H b ys /\ xs ≠ [] /\ xs.length+ys.length<=sizeLine /\
 (ys=[]->Q (.ref a) H) /\ (ys ≠ []->∀ p,H p=none->Q (.ref p) (upd H p (.tup (xs++ys))))
theorem Vals.nil_iff {xs:List V} {us:List Value} (r:Vals xs us):us=[] ↔ xs=[]:=by
 cases r with
 | nil=>simp
 | cons _ _=>simp
theorem op_catT:OpR X (binaryOp .Add) (wo7 X.K):=by
 intro pins s σ H x y v u Q I rx ry h;obtain ⟨a,b,xs,ys,rfl,rfl,ha,hb,hx,hz,q1,q2⟩:=h;cases rx;cases ry;obtain ⟨its,r1,p1,_⟩:=I.tuple ha;obtain ⟨its2,r2,p2,_⟩:=I.tuple hb;refine HT.cat_tup p1 p2 (fun z=>hx (r1.nil_iff.mp z)) (fun z=>⟨.ref a,H,I,rfl,q1 (r2.nil_iff.mp z)⟩) (fun z=>?_) (by rw [<- r1.length,<- r2.length];exact hz);refine ⟨.ref s.heap.objs.size,_,I.laid (t':=s.toks) (o:=.tup (xs++ys)) (fun b ob q=>Heap.get?_push_of_some _ q) (Nat.le_refl _) ?_,rfl,q2 (fun w=>z (r2.nil_iff.mpr w)) _ (I.hok.fresh (Nat.le_refl _))⟩;exact ⟨by rw [List.length_append];exact hz,_,r1.append r2,TupD.new _ _⟩
end
def ixN (n:Nat) (i:Int):Option Nat:=if 0<=i then (if i < n then some i.toNat else none) else if -(n:Int)<=i then some (i+n).toNat else none
def atI {α:Type} (xs:List α) (i:Int):Option α:=(ixN xs.length i).bind fun j=>xs[j]?
theorem us3 {n:Nat} {i:Int} {j:Nat} (h:ixN n i=some j):seqIndex? i n=some j /\ j < n /\ -(n:Int)<=i /\ i < n:=by
 unfold ixN at h
 by_cases h0:0<=i
 ·rw [if_pos h0] at h
  by_cases h1:i < n
  ·rw [if_pos h1] at h
   have e:i.toNat=j:=Option.some.inj h;exact ⟨by rw [seqIndex_of h0 h1,e],by omega,by omega,h1⟩
  ·rw [if_neg h1] at h;cases h
 ·rw [if_neg h0] at h
  by_cases h1:-(n:Int)<=i
  ·rw [if_pos h1] at h
   have e:(i+n).toNat=j:=Option.some.inj h;exact ⟨by rw [seqIndex_neg (by omega) h1,e],by omega,h1,by omega⟩
  ·rw [if_neg h1] at h;cases h
theorem ut3 {α:Type} {xs:List α} {i:Int} {v:α} (h:atI xs i=some v):∃ j,seqIndex? i xs.length=some j /\ xs[j]?=some v /\ j < xs.length /\ -(xs.length:Int)<=i /\ i < xs.length:=by
 unfold atI at h;cases e:ixN xs.length i with
 | none=>rw [e] at h;cases h
 | some j =>
  rw [e] at h;obtain ⟨h1,h2,h3,h4⟩:=us3 e;exact ⟨j,h1,h,h2,h3,h4⟩
theorem u56 {α:Type} {xs:List α} {j:Nat} {v:α} (h:xs[j]?=some v):atI xs (j:Int)=some v:=by
 have hj:j < xs.length:=(List.getElem?_eq_some_iff.mp h).1;have e:ixN xs.length (j:Int)=some j:=by
  unfold ixN;rw [if_pos (by omega),if_pos (by omega)];simp
 unfold atI;rw [e];exact h
theorem atI_last {α:Type} (xs:List α) (v:α):atI (xs++[v]) (-1)=some v:=by
 have hl:(xs++[v]).length=xs.length+1:=by simp
 have e:ixN (xs++[v]).length (-1)=some xs.length:=by
  unfold ixN;rw [hl,if_neg (by decide),if_pos (by omega)]
  congr 1
  omega
 unfold atI;rw [e]
 show (xs++[v])[xs.length]?=some v
 simp
def vc7 (b:Expr):Prop:=∀ o i,subscripted b false o i=operate [o,i] (getItem o i)
def IxR (X:Cx) (r:R2):Prop :=
 ∀ (value slice:Expr) (pins:List (Addr × Obj)) (s:Shared) (σ:St) (H:Hp) (x y:V) (v u:Value) (Q:VK),Inv X pins σ H s->RelV x v->RelV y u->r x y H Q ->
  subscripted slice false v u=operate [v,u] (getItem v u)->wpAny (model X.prog X.w) X.A (subscriptTail value slice v u) (EP X pins σ Q) X.xe s
def MtR (X:Cx) (id:String) (r:V->List V->Hp->VK->Prop):Prop :=
 ∀ (pins:List (Addr × Obj)) (s:Shared) (σ:St) (H:Hp) (x:V) (xs:List V) (v:Value) (us:List Value) (Q:VK),Inv X pins σ H s->RelV x v->Vals xs us->r x xs H Q ->
  wpAny (model X.prog X.w) X.A (call (.builtin id) (v::us)) (EP X pins σ Q) X.xe s
section
variable {X:Cx} {a b:Expr} {ta tb:TE} {pos:Pos}
theorem IxR.or {r r':R2} (h:IxR X r) (h':IxR X r'):IxR X (fun x y H Q=>r x y H Q \/ r' x y H Q):=by
 intro value slice pins s σ H x y v u Q I rx ry q hs
 rcases q with q | q
 ·exact h value slice pins s σ H x y v u Q I rx ry q hs
 ·exact h' value slice pins s σ H x y v u Q I rx ry q hs
theorem MtR.or {id:String} {r r':V->List V->Hp->VK->Prop} (h:MtR X id r) (h':MtR X id r'):MtR X id (fun x xs H Q=>r x xs H Q \/ r' x xs H Q):=by
 intro pins s σ H x xs v us Q I rx rs q
 rcases q with q | q
 ·exact h pins s σ H x xs v us Q I rx rs q
 ·exact h' pins s σ H x xs v us Q I rx rs q
theorem wp5 {r:R2} (hr:IxR X r) (ha:PE X a ta) (hb:PE X b tb) (hs:vc7 b):PE X (.Subscript a b pos) (tOp r ta tb):=by
 intro pins s σ H Q I h;exact Subscript_ (binT ha hb I h fun v u s2 x y H2 I2 rx ry q=>hr a b pins s2 σ H2 x y v u Q I2 rx ry q (hs _ _))
def rIxL (K:W.Frag):R2:=fun x y H Q=>∃ p xs i v,x=.ref p /\ y=.int i /\ SqL K H p xs /\ atI xs i=some v /\ Q v H
def rIxT (K:W.Frag):R2:=fun x y H Q=>∃ p xs i v,x=.ref p /\ y=.int i /\ SqT K H p xs /\ atI xs i=some v /\ Q v H
def rIxS:R2:=fun x y H Q=>∃ z i c,x=.str z /\ y=.int i /\ z.length<=sizeLine /\ atI z.cps.toList i=some c /\ Q (.str ⟨#[c]⟩) H
theorem ix_list:IxR X (rIxL X.K):=by
 intro value slice pins s σ H x y v u Q I rx ry h hs;obtain ⟨p,xs,i,z,rfl,rfl,hq,he,q⟩:=h;cases rx;obtain ⟨t,rfl⟩:=ry;obtain ⟨its,r,pl,hz⟩:=I.list hq;obtain ⟨j,h1,h2,h3,h4,h5⟩:=ut3 he;obtain ⟨w,ew,rw'⟩:=r.get h2;have hl:=r.length;have hn:=line63;have fin:EP X pins σ Q w s:=⟨z,H,I,rw',q⟩
 by_cases h0:0<=i
 ·have hj:i.toNat=j:=by
   rw [seqIndex_of h0 h5] at h1;exact Option.some.inj h1
  exact item_listR pl.isList h0 (by omega) (by rw [hj];simpa using ew) fin hs
 ·have hj:(i+(its.toArray.size:Int)).toNat=j:=by
   rw [seqIndex_neg (by omega) h4] at h1;rw [List.size_toArray,<- hl];exact Option.some.inj h1
  exact subscriptTail_builtinR (x:=w) pl.isList.typeIs slot_list_getitem.lookup
   (wpAny_getItem_list_neg (Q:=fun r s'=>r=w /\ EP X pins σ Q r s') pl.isList (by omega) (by rw [List.size_toArray] <;> omega) (by omega) (by rw [hj];simpa using ew) ⟨rfl,fin⟩) hs
theorem ix_tup:IxR X (rIxT X.K):=by
 intro value slice pins s σ H x y v u Q I rx ry h hs;obtain ⟨p,xs,i,z,rfl,rfl,hq,he,q⟩:=h;cases rx;obtain ⟨t,rfl⟩:=ry;obtain ⟨its,r,pl,hz⟩:=I.tuple hq;obtain ⟨j,h1,h2,h3,h4,h5⟩:=ut3 he;obtain ⟨w,ew,rw'⟩:=r.get h2;have hl:=r.length;have hn:=line63;have fin:EP X pins σ Q w s:=⟨z,H,I,rw',q⟩;exact subscriptTail_builtinR (x:=w) pl.typeIs slot_tuple_getitem.lookup
  (getItem_tuple (j:=j) (Q:=fun r s'=>r=w /\ EP X pins σ Q r s') pl (by omega) (by omega) (by rw [List.size_toArray,<- hl];exact h1) (by simpa using ew) ⟨rfl,fin⟩) hs
theorem wk2:IxR X rIxS:=by
 intro value slice pins s σ H x y v u Q I rx ry h hs;obtain ⟨z,i,c,rfl,rfl,hz,he,q⟩:=h;obtain ⟨t,rfl⟩:=rx;obtain ⟨t',rfl⟩:=ry;obtain ⟨j,h1,h2,h3,h4,h5⟩:=ut3 he;have hl:z.cps.toList.length=z.length:=by simp [Str.length]
 rw [hl] at h1 h4 h5;have hn:=line63;exact tail_any (typeIs_str s z t) slot_str_getitem.lookup (getItem_str (c:=c) (by
  have e1:decide (i < -(2 ^ 63:Int))=false:=decide_eq_false (by omega);have e2:decide (i ≥ 2 ^ 63)=false:=decide_eq_false (by omega);rw [e1,e2,Bool.or_false]) (by rw [h1];simpa using h2) ⟨.str ⟨#[c]⟩,H,I.tok _,⟨_,rfl⟩,q⟩) hs
def rIx (K:W.Frag):R2:=fun x y H Q=>rIxL K x y H Q \/ rIxT K x y H Q \/ rIxS x y H Q
theorem wk3:IxR X (rIx X.K):=ix_list.or (ix_tup.or wk2)
theorem uy4 (its:List Value) (n j:Nat) (u:Value):Obj.mapSeq (·.setIfInBounds j u) { cls:=.type "list",data:=.seq its.toArray n }={ cls:=.type "list",data:=.seq (its.set j u).toArray n }:=by
 simp [Obj.mapSeq]
theorem Inv.lst {pins:List (Addr × Obj)} {σ:St} {H:Hp} {s:Shared} {p:Addr} {xs:List V} (I:Inv X pins σ H s) (h:H p=some (.lst xs)) :
  ∃ (its:List Value) (n:Nat),Vals xs its /\ s.heap.get? p=some { cls:=.type "list",data:=.seq its.toArray n } /\ xs.length<=sizeLine:=by
 obtain ⟨z,its,n,r,e⟩:=I.hok p _ h;exact ⟨its,n,r,e,z⟩
theorem Inv.lstUpd {pins:List (Addr × Obj)} {σ:St} {H:Hp} {s:Shared} {p:Addr} {xs ys:List V} {its its':List Value} {n n':Nat} {f:Obj->Obj} (I:Inv X pins σ H s) (h:H p=some (.lst xs))
  (ho:s.heap.get? p=some { cls:=.type "list",data:=.seq its.toArray n }) (hf:f { cls:=.type "list",data:=.seq its.toArray n }={ cls:=.type "list",data:=.seq its'.toArray n' }) (r:Vals ys its') (hz:ys.length<=sizeLine) (t:Nat) :
  Inv X pins σ (upd H p (.lst ys)) { s with heap:=s.heap.update p f,toks:=t }:=by
 have e:(s.heap.update p f).get? p=some { cls:=.type "list",data:=.seq its'.toArray n' }:=by
  rw [Heap.get?_update_self f ho (by rw [hf] <;> rfl),hf]
 refine I.write (x:=p) (e:=p) (by rw [h];trivial) (.inl rfl) (fun b u hb q=>(Heap.get?_update_other _ _ (Ne.symm hb)).trans q) ⟨_,e⟩ ?_;exact ⟨hz,its',n',r,e⟩
def wo6:V->V->V->Hp->(Hp->Prop)->Prop:=fun o i v H Q=>∃ p xs k j,o=.ref p /\ i=.int k /\ H p=some (.lst xs) /\ ixN xs.length k=some j /\ Q (upd H p (.lst (xs.set j v)))
theorem set_list:PSet X wo6:=by
 intro pins s σ H o i v ov iv u Q I ro ri rv h;obtain ⟨p,xs,k,j,rfl,rfl,hp,hj,q⟩:=h;cases ro;obtain ⟨t,rfl⟩:=ri;obtain ⟨its,n,r,ho,hz⟩:=I.lst hp;obtain ⟨h1,h2,h3,h4⟩:=us3 hj;have hl:=r.length;have hn:=line63;have I':Inv X pins σ (upd H p (.lst (xs.set j v))) { s with heap:=s.heap.update p (Obj.mapSeq (·.setIfInBounds j u)) } :=
  I.lstUpd hp ho (uy4 its n j u) (r.set rv j) (by rw [List.length_set];exact hz) s.toks
 by_cases h0:0<=k
 ·have hk:k.toNat=j:=by
   rw [seqIndex_of h0 h4] at h1;exact Option.some.inj h1
  exact W.ki_setAt ho h0 (by omega) (by rw [List.size_toArray,<- hl];exact h4) (by rw [hk];exact ⟨_,I',q⟩)
 ·have hk:(k+(its.toArray.size:Int)).toNat=j:=by
   rw [seqIndex_neg (by omega) h3] at h1;rw [List.size_toArray,<- hl];exact Option.some.inj h1
  exact W.ki_setBack ho (by omega) (by rw [List.size_toArray,<- hl];exact h3) (by omega) (by rw [hk];exact ⟨_,I',q⟩)
theorem un5 (lo hi:Option Int) (n:Nat):(sliceBounds lo hi none n).1=((HT.sIx n 0 lo:Nat):Int) /\ (sliceBounds lo hi none n).2.1=((HT.sIx n n hi:Nat):Int) /\ (sliceBounds lo hi none n).2.2=1:=by
 refine ⟨?_,?_,rfl⟩
 ·cases lo with
  | none=>simp [sliceBounds,HT.sIx]
  | some i =>
   simp only [sliceBounds,HT.sIx,Option.getD_none,show (1:Int) > 0 by decide,if_true]
   by_cases h:i < 0
   ·simp only [h,if_true] <;> omega
   ·simp only [h,if_false] <;> omega
 ·cases hi with
  | none=>simp [sliceBounds,HT.sIx]
  | some i =>
   simp only [sliceBounds,HT.sIx,Option.getD_none,show (1:Int) > 0 by decide,if_true]
   by_cases h:i < 0
   ·simp only [h,if_true] <;> omega
   ·simp only [h,if_false] <;> omega
theorem ul4 (its:List Value) (lo hi:Option Int):slicePick its.toArray lo hi none=((its.drop (HT.sIx its.length 0 lo)).take (HT.sIx its.length its.length hi - HT.sIx its.length 0 lo)).toArray:=by
 obtain ⟨h1,h2,h3⟩:=un5 lo hi its.toArray.size;unfold slicePick;rw [h1,h2,h3];simp only [sliceRange_one,pick_run,List.size_toArray] <;> rfl
def rSlL (K:W.Frag):V->Option Int->Option Int->Hp->VK->Prop:=fun x lo hi H Q=>∃ a xs,x=.ref a /\ SqL K H a xs /\ ∀ p,H p=none->Q (.ref p) (upd H p (.lst (cutV xs lo hi)))
theorem sl_list:SlR X (rSlL X.K):=by
 intro pins s σ H x v vl vu lo hi sl Q I rx hs pl pu h;obtain ⟨a,xs,rfl,hx,q⟩:=h;cases rx;obtain ⟨its,r,ht,hz⟩:=I.list hx;have hlen:=r.length;refine ⟨"list",_,slot_list_getitem.lookup,ht.isList.typeIs,?_⟩;refine wpAny_getItem_list_slice ht.isList hs pl pu .none (by simp) ?_ (by rw [List.size_toArray] <;> omega);rw [ul4,<- hlen];refine ⟨.ref s.heap.objs.size,_,I.laid (t':=s.toks) (o:=.lst (cutV xs lo hi)) (fun b ob q=>Heap.get?_push_of_some _ q) (Nat.le_refl _) ?_,rfl,q _ (I.hok.fresh (Nat.le_refl _))⟩;exact ⟨Nat.le_trans (ui4 xs lo hi) hz,_,0,(r.drop (HT.sIx xs.length 0 lo)).take (HT.sIx xs.length xs.length hi - HT.sIx xs.length 0 lo),Heap.get?_push_size _ rfl⟩
def uh8:V->Bool
 | .non=>true
 | .bl _=>true
 | .int _=>true
 | .str _=>true
 | _=>false
def eqV:V->V->Bool
 | .non,.non=>true
 | .bl a,.bl b=>a == b
 | .bl a,.int b=>(if a then 1 else 0) == b
 | .int a,.bl b=>a == (if b then 1 else 0)
 | .int a,.int b=>a == b
 | .str a,.str b=>a == b
 | _,_=>false
theorem vp7 {A:Around} {s:Shared} {y x:V} {u v:Value} (ry:RelV y u) (rx:RelV x v) (fy:uh8 y=true) (fx:uh8 x=true):SeqAt.EqAt A s u v (eqV y x):=by
 cases y with
 | non =>
  cases ry;cases x with
  | non=>cases rx;exact SeqAt.EqAt.same _
  | bl b=>cases rx;exact SeqAt.EqAt.none_bool b
  | int b=>obtain ⟨t,rfl⟩:=rx;exact SeqAt.EqAt.none_int b t
  | str b=>obtain ⟨t,rfl⟩:=rx;exact SeqAt.EqAt.none_str b t
  | _=>exact absurd (show false=true from fx) Bool.false_ne_true
 | bl a =>
  cases ry;cases x with
  | non=>cases rx;exact SeqAt.EqAt.bool_none a
  | bl b=>cases rx;exact SeqAt.EqAt.bool_bool a b
  | int b=>obtain ⟨t,rfl⟩:=rx;exact SeqAt.EqAt.bool_int a b t
  | str b=>obtain ⟨t,rfl⟩:=rx;exact SeqAt.EqAt.bool_str a b t
  | _=>exact absurd (show false=true from fx) Bool.false_ne_true
 | int a =>
  obtain ⟨t',rfl⟩:=ry;cases x with
  | non=>cases rx;exact SeqAt.EqAt.int_none a t'
  | bl b=>cases rx;exact SeqAt.EqAt.int_bool a t' b
  | int b=>obtain ⟨t,rfl⟩:=rx;exact SeqAt.EqAt.int_int a t' b t
  | str b=>obtain ⟨t,rfl⟩:=rx;exact SeqAt.EqAt.int_str a t' b t
  | _=>exact absurd (show false=true from fx) Bool.false_ne_true
 | str a =>
  obtain ⟨t',rfl⟩:=ry;cases x with
  | non=>cases rx;exact SeqAt.EqAt.str_none a t'
  | bl b=>cases rx;exact SeqAt.EqAt.str_bool a t' b
  | int b=>obtain ⟨t,rfl⟩:=rx;exact SeqAt.EqAt.str_int a t' b t
  | str b=>obtain ⟨t,rfl⟩:=rx;exact SeqAt.EqAt.str_str a t' b t
  | _=>exact absurd (show false=true from fx) Bool.false_ne_true
 | _=>exact absurd (show false=true from fy) Bool.false_ne_true
def eqU (x:V) (u:Value):Bool:=match u with
 | .none=>eqV .non x
 | .bool b=>eqV (.bl b) x
 | .int i _=>eqV (.int i) x
 | .str z _=>eqV (.str z) x
 | _=>false
theorem vp6 {x y:V} {u:Value} (r:RelV y u) (f:uh8 y=true):eqU x u=eqV y x:=by
 cases y with
 | non=>cases r;rfl
 | bl b=>cases r;rfl
 | int i=>obtain ⟨t,rfl⟩:=r;rfl
 | str z=>obtain ⟨t,rfl⟩:=r;rfl
 | _=>exact absurd (show false=true from f) Bool.false_ne_true
theorem ui7 {x:V}:∀ {xs:List V} {us:List Value},Vals xs us->xs.all uh8=true->us.any (eqU x)=xs.any fun y=>eqV y x
 | _,_,.nil,_=>rfl
 | y::xs,u::us,.cons r t,f=>by
  rw [List.all_cons,Bool.and_eq_true] at f;rw [List.any_cons,List.any_cons,vp6 r f.1,ui7 t f.2]
theorem ub3 {A:Around} {s:Shared} {x:V} {v:Value} (rx:RelV x v) (fx:uh8 x=true):∀ {xs:List V} {us:List Value},Vals xs us->xs.all uh8=true->∀ u ∈ us,SeqAt.EqAt A s u v (eqU x u)
 | _,_,.nil,_=>fun u hu=>by cases hu
 | y::xs,u::us,.cons r t,f=>fun u' hu=>by
  rw [List.all_cons,Bool.and_eq_true] at f
  rcases List.mem_cons.mp hu with rfl | hu
  ·rw [vp6 r f.1];exact vp7 r rx f.1 fx
  ·exact ub3 rx fx t f.2 u' hu
def inV (x:V) (xs:List V):Bool:=xs.any fun y=>eqV y x
def rIn (K:W.Frag) (neg:Bool):R2:=fun x y H Q=>∃ p xs,y=.ref p /\ (SqL K H p xs \/ SqT K H p xs) /\ uh8 x=true /\ xs.all uh8=true /\ Q (.bl (if neg then !inV x xs else inV x xs)) H
theorem v52:OpR X (compareOp .In) (rIn X.K false):=by
 intro pins s σ H x y v u Q I rx ry h;obtain ⟨p,xs,rfl,hq,fx,fs,q⟩:=h;cases ry
 rcases hq with hq | hq
 ·obtain ⟨its,r,pl,hz⟩:=I.list hq
  refine SeqAt.in_listAt (eqU x) pl.isList (fun w hw=>ub3 rx fx r fs w (by simpa using hw)) ⟨.bl _,H,I,rfl,?_⟩;rw [show its.toArray.any (eqU x)=its.any (eqU x) by simp,ui7 r fs];exact q
 ·obtain ⟨its,r,pl,hz⟩:=I.tuple hq
  refine SeqAt.in_tupleAt (eqU x) pl (fun w hw=>ub3 rx fx r fs w (by simpa using hw)) ⟨.bl _,H,I,rfl,?_⟩;rw [show its.toArray.any (eqU x)=its.any (eqU x) by simp,ui7 r fs];exact q
theorem uo1:OpR X (compareOp .NotIn) (rIn X.K true):=by
 intro pins s σ H x y v u Q I rx ry h;obtain ⟨p,xs,rfl,hq,fx,fs,q⟩:=h;cases ry
 rcases hq with hq | hq
 ·obtain ⟨its,r,pl,hz⟩:=I.list hq
  refine SeqAt.notIn_listAt (eqU x) pl.isList (fun w hw=>ub3 rx fx r fs w (by simpa using hw)) ⟨.bl _,H,I,rfl,?_⟩;rw [show its.toArray.any (eqU x)=its.any (eqU x) by simp,ui7 r fs];exact q
 ·obtain ⟨its,r,pl,hz⟩:=I.tuple hq
  refine SeqAt.notIn_tupleAt (eqU x) pl (fun w hw=>ub3 rx fx r fs w (by simpa using hw)) ⟨.bl _,H,I,rfl,?_⟩;rw [show its.toArray.any (eqU x)=its.any (eqU x) by simp,ui7 r fs];exact q
theorem call_len_seq:CallR X (.builtin "len") (fun xs H Q=>∃ p ys,xs=[.ref p] /\ (SqL X.K H p ys \/ SqT X.K H p ys) /\ Q (.int ys.length) H):=by
 intro pins s σ H xs us Q I r h;obtain ⟨p,ys,rfl,hq,q⟩:=h;obtain ⟨u,rfl,rx⟩:=vals1 r;cases rx;have hn:=line63
 rcases hq with hq | hq
 ·obtain ⟨its,r',pl,hz⟩:=I.list hq
  have hlen:=r'.length;exact Calls.call_len_list pl.isList (by simp only [List.size_toArray] <;> omega) ⟨.int ys.length,H,I.tok _,⟨s.toks+1,by rw [List.size_toArray,hlen]⟩,q⟩
 ·obtain ⟨its,r',pl,hz⟩:=I.tuple hq
  have hlen:=r'.length;exact len_tuple pl (by simp only [List.size_toArray] <;> omega) ⟨.int ys.length,H,I.tok _,⟨s.toks+1,by rw [List.size_toArray,hlen]⟩,q⟩
theorem up7:CallR X (.builtin "len") (fun xs H Q=>∃ z,xs=[.str z] /\ z.length<=sizeLine /\ Q (.int z.length) H):=by
 intro pins s σ H xs us Q I r h;obtain ⟨z,rfl,hz,q⟩:=h;obtain ⟨u,rfl,t,rfl⟩:=vals1 r;have hn:=line63;exact len_str (by omega) ⟨.int z.length,H,I.tok _,⟨_,rfl⟩,q⟩
theorem CallR.or {f:Value} {r r':List V->Hp->VK->Prop} (h:CallR X f r) (h':CallR X f r'):CallR X f (fun xs H Q=>r xs H Q \/ r' xs H Q):=by
 intro pins s σ H xs us Q I rs q
 rcases q with q | q
 ·exact h pins s σ H xs us Q I rs q
 ·exact h' pins s σ H xs us Q I rs q
theorem up6:CallR X (.type "list") (fun xs H Q=>∃ p ys,xs=[.ref p] /\ (SqL X.K H p ys \/ SqT X.K H p ys) /\ ∀ l,H l=none->Q (.ref l) (upd H l (.lst ys))):=by
 intro pins s σ H xs us Q I r h;obtain ⟨p,ys,rfl,hq,q⟩:=h;obtain ⟨u,rfl,rx⟩:=vals1 r;cases rx;have fin:∀ (its:List Value),Vals ys its->ys.length<=sizeLine->∀ (h':Heap) (c':Nat),(∀ b o',s.heap.get? b=some o'->h'.get? b=some o') ->
   h'.get? s.heap.objs.size=some { cls:=.type "list",dict:=none,data:=.seq its.toArray c',slots:=#[] }->EP X pins σ Q (.ref s.heap.objs.size) { s with heap:=h' }:=fun its r' hz h' c' kp e =>
  ⟨.ref s.heap.objs.size,_,I.laid (t':=s.toks) kp (Nat.le_refl _) (show ObjOk X.prog X.w _ h' _ (.lst ys) from ⟨hz,its,c',r',e⟩),rfl,q _ (I.hok.fresh (Nat.le_refl _))⟩
 rcases hq with hq | hq
 ·obtain ⟨its,r',pl,hz⟩:=I.list hq
  have hlen:=r'.length;obtain ⟨o,ho,hc,n,hd⟩:=pl.isList;exact call_list_seq p (.inl rfl) ho hc hd (fun h' c' kp e=>fin its r' hz h' c' kp e) (by simp only [List.size_toArray] <;> omega)
 ·obtain ⟨its,r',pl,hz⟩:=I.tuple hq
  have hlen:=r'.length;obtain ⟨o,ho,hc,n,hd⟩:=pl;exact call_list_seq p (.inr rfl) ho hc hd (fun h' c' kp e=>fin its r' hz h' c' kp e) (by simp only [List.size_toArray] <;> omega)
theorem um6:CallR X (.type "tuple") (fun xs H Q=>∃ p ys,xs=[.ref p] /\ ((SqL X.K H p ys /\ ∀ l,H l=none->Q (.ref l) (upd H l (.tup ys))) \/ (SqT X.K H p ys /\ Q (.ref p) H))):=by
 intro pins s σ H xs us Q I r h;obtain ⟨p,ys,rfl,h⟩:=h;obtain ⟨u,rfl,rx⟩:=vals1 r;cases rx
 rcases h with ⟨hq,q⟩ | ⟨hq,q⟩
 ·obtain ⟨its,r',pl,hz⟩:=I.list hq
  have hlen:=r'.length;refine call_tuple_list pl.isList (fun h' kp=>?_) (by simp only [List.size_toArray] <;> omega);have I1:Inv X pins σ H { s with heap:=h' }:=I.kept (t':=s.toks) kp
  have I2:Inv X pins σ (upd H h'.objs.size (.tup ys)) { s with heap:=h'.push { cls:=.type "tuple",data:=.seq its.toArray } } :=
   I1.laid (t':=s.toks) (fun b o e=>Heap.get?_push_of_some _ e) (Nat.le_refl _) (show ObjOk X.prog X.w _ _ _ (.tup ys) from ⟨hz,its,r',TupD.new _ _⟩)
  exact ⟨.ref h'.objs.size,_,I2,rfl,q _ (I1.hok.fresh (Nat.le_refl _))⟩
 ·obtain ⟨its,r',pl,hz⟩:=I.tuple hq
  exact call_tuple_same pl ⟨.ref p,H,I,rfl,q⟩
def tyV (K:W.Frag) (T:String) (x:V) (H:Hp):Prop:=match x with
 | .str _=>T = "str"
 | .int _=>T = "int"
 | .ref p=>(T = "list" /\ ∃ xs,SqL K H p xs) \/ (T = "tuple" /\ ∃ o,K.lookup p=some o /\ o.cls=.type "tuple" /\ o.dict=none) \/
   (T = "dict" /\ ((∃ kvs,H p=some (.dK kvs)) \/ ∃ kvs,H p=some (.dT kvs))) \/ (T = "set" /\ ∃ S n,H p=some (.set S n))
 | _=>False
theorem vm6 {pins:List (Addr × Obj)} {σ:St} {H:Hp} {s:Shared} {T:String} {x:V} {v:Value} (I:Inv X pins σ H s) (r:RelV x v) (ty:tyV X.K T x H) :
  s.TypeIs v T /\ ∀ a,v=.ref a->∃ ob,s.heap.get? a=some ob /\ ob.dict=none:=by
 cases x with
 | str z =>
  obtain ⟨t,rfl⟩:=r;cases (show T = "str" from ty);exact ⟨typeIs_str s z t,fun _ e=>nomatch e⟩
 | int i =>
  obtain ⟨t,rfl⟩:=r;cases (show T = "int" from ty);exact ⟨typeIs_int s i t,fun _ e=>nomatch e⟩
 | ref p =>
  cases r
  rcases ty with ⟨rfl,xs,hq⟩ | ⟨rfl,o,hk,hc,hd⟩ | ⟨rfl,hk⟩ | ⟨rfl,S,n,hk⟩
  ·obtain ⟨its,_,pl,_⟩:=I.list hq
   refine ⟨pl.isList.typeIs,fun a e=>?_⟩;cases e;obtain ⟨o,n,e,c,hd,_⟩:=pl;exact ⟨o,e,hd⟩
  ·refine ⟨⟨o,I.kIn p o hk,hc⟩,fun a e=>?_⟩
   cases e;exact ⟨o,I.kIn _ o hk,hd⟩
  ·have z:∃ o,s.heap.get? p=some o /\ o.ExactDict:=by
    rcases hk with ⟨kvs,hk⟩ | ⟨kvs,hk⟩
    ·obtain ⟨_,_,_,_,o,_,_,e,ex,_⟩:=I.hok p _ hk
     exact ⟨o,e,ex⟩
    ·obtain ⟨_,_,_,_,o,_,_,e,ex,_⟩:=I.hok p _ hk
     exact ⟨o,e,ex⟩
   obtain ⟨o,e,ex⟩:=z;refine ⟨⟨o,e,ex.1⟩,fun a e2=>?_⟩;cases e2;exact ⟨o,e,ex.2.1⟩
  ·obtain ⟨o,_,_,_,e,ex,_⟩:=I.hok p _ hk
   refine ⟨⟨o,e,ex.1⟩,fun a e2=>?_⟩;cases e2;exact ⟨o,e,ex.2.1⟩
 | _=>exact False.elim ty
def tBM0 (K:W.Frag) (T:String) (r:V->List V->Hp->VK->Prop) (to:TE):TE:=fun σ H Q=>to σ H fun x H1=>tyV K T x H1 /\ r x [] H1 Q
def tBM (K:W.Frag) (T:String) (r:V->List V->Hp->VK->Prop) (to:TE) (t:TA):TE:=fun σ H Q=>to σ H fun x H1=>tyV K T x H1 /\ t σ H1 fun xs H2=>r x xs H2 Q
variable {o e:Expr} {es:List Expr} {to:TE} {t:TA} {name:Str} {apos cpos:Pos} {T id:String} {r:V->List V->Hp->VK->Prop}
theorem wd0 (pa:PlainAttrs T) (slot:Slot T name id) (hty:typeOf (.builtin id)=pure (.type "method_descriptor")) (hm:MtR X id r) (ho:PE X o to)
  (hbase:attributeBase o name X.env (eval o X.env)=eval o X.env:=by rfl) (hline:(apos.endLine == cpos.line)=true:=by rfl):PE X (.Call (.Attribute o name apos) [] [] cpos) (tBM0 X.K T r to):=by
 intro pins s σ H Q I h
 (refine wpAny_Call_method0_late hbase hline (thn (ho pins s σ H _ I h) ?_);rintro v s1 ⟨x,H1,I1,r1,ty,q1⟩)
 obtain ⟨h1,h2⟩:=vm6 I1 r1 ty;exact ⟨T,id,pa,slot,hty,h1,h2,Calls.callWith_builtin rfl (PySem.evalArgs_none (hm pins s1 σ H1 x [] v [] Q I1 r1 .nil q1))⟩
theorem ur5 (pa:PlainAttrs T) (slot:Slot T name id) (hty:typeOf (.builtin id)=pure (.type "method_descriptor")) (hm:MtR X id r) (ho:PE X o to) (ha:PA X (e::es) t)
  (hbase:attributeBase o name X.env (eval o X.env)=eval o X.env:=by rfl)
  (hfew:((backTo cpos (starEach (e::es) X.env)).all (fun x=>!x.1) && (backToKw cpos (keywordEach [] X.env)).all (fun x=>x.1.isSome)
   && decide ((e::es).length+([]:List Keyword).length+(if ([]:List Keyword).isEmpty then 0 else 1) < 30))=true:=by rfl)
  (hline:(apos.endLine == cpos.line)=true:=by rfl) (hs:starEach (e::es) X.env=(false,eval e X.env)::starEach es X.env:=by rfl) (hplain:(backTo cpos (starEach es X.env)).any (·.1)=false:=by rfl) :
  PE X (.Call (.Attribute o name apos) (e::es) [] cpos) (tBM X.K T r to t):=by
 intro pins s σ H Q I h
 (refine wpAny_Call_method_late hbase hfew hline rfl (thn (ho pins s σ H _ I h) ?_);rintro v s1 ⟨x,H1,I1,r1,ty,q1⟩)
 obtain ⟨h1,h2⟩:=vm6 I1 r1 ty;refine ⟨T,id,pa,slot,hty,h1,h2,?_⟩;have hA:=ha cpos pins s1 σ H1 _ I1 q1;rw [hs] at hA ⊢;refine Calls.callWith_builtin (by show (false || (backTo cpos (starEach es X.env)).any (·.1))=false;rw [hplain] <;> rfl) (Calls.evalArgs_plain ?_)
 (refine thn hA ?_;rintro us s2 ⟨vs,H2,I2,r2,q2⟩;exact hm pins s2 σ H2 x vs v us Q I2 r1 r2 q2)
/- xs.append(e),list.index on a module's tuple .. are MtR facts of 06m -/
end
def MtM (X:Cx) (id:String) (r:V->List V->Hp->VK->Prop):Prop :=
 ∀ (pins:List (Addr × Obj)) (s:Shared) (σ:St) (H:Hp) (x:V) (xs:List V) (v:Value) (us:List Value) (Q:VK),Inv X pins σ H s->RelV x v->Vals xs us->r x xs H Q ->
  wpAny (model X.prog X.w) X.A (call (.builtin id) (v::us)) (EP X pins σ Q) X.xe s
theorem Vals.one:∀ {x:V} {us:List Value},Vals [x] us->∃ u,us=[u] /\ RelV x u
 | _,_,.cons r .nil=>⟨_,rfl,r⟩
theorem Vals.two:∀ {x y:V} {us:List Value},Vals [x,y] us->∃ u v,us=[u,v] /\ RelV x u /\ RelV y v
 | _,_,_,.cons r (.cons q .nil)=>⟨_,_,rfl,r,q⟩
theorem Vals.zero:∀ {us:List Value},Vals [] us->us=[]
 | _,.nil=>rfl
theorem Vals.dropLast {xs:List V} {us:List Value} (h:Vals xs us):Vals xs.dropLast us.dropLast:=by
 induction h with
 | nil=>exact .nil
 | cons r t ih =>
  cases t with
  | nil=>exact .nil
  | cons q t'=>exact .cons r ih
theorem Vals.eraseIdx:∀ {xs:List V} {us:List Value} (i:Nat),Vals xs us->Vals (xs.eraseIdx i) (us.eraseIdx i)
 | _,_,_,.nil=>.nil
 | _,_,0,.cons _ t=>t
 | _,_,i+1,.cons r t=>.cons r (Vals.eraseIdx i t)
theorem Vals.reverse {xs:List V} {us:List Value} (h:Vals xs us):Vals xs.reverse us.reverse:=by
 induction h with
 | nil=>exact .nil
 | cons r t ih=>rw [List.reverse_cons,List.reverse_cons];exact Vals.append ih (.cons r .nil)
theorem Vals.rep {xs:List V} {us:List Value} (h:Vals xs us):∀ k:Nat,Vals (List.replicate k xs).flatten (List.replicate k us).flatten
 | 0=>.nil
 | k+1=>by
  rw [List.replicate_succ,List.replicate_succ,List.flatten_cons,List.flatten_cons];exact Vals.append h (Vals.rep h k)
theorem uz2 {α:Type} (l:List α):l.eraseIdx (l.length - 1)=l.dropLast:=by
 induction l with
 | nil=>rfl
 | cons a r ih =>
  cases r with
  | nil=>rfl
  | cons b r =>
   have e:(a::b::r).length - 1=((b::r).length - 1)+1:=by
    have h1:(a::b::r).length=r.length+2:=rfl;have h2:(b::r).length=r.length+1:=rfl;omega
   rw [e,List.eraseIdx_cons_succ,ih]
   all_goals rfl
theorem uo6 {α:Type}:∀ (l:List α) (i:Nat),(l.eraseIdx i).length<=l.length
 | [],_=>Nat.le_refl _
 | _::_,0=>Nat.le_succ _
 | _::r,i+1=>Nat.succ_le_succ (uo6 r i)
theorem foldl_rep (its:List Value):∀ (k:Nat) (acc:List Value),
  List.foldl (fun x1 x2=>x1++x2) acc.toArray (List.replicate k its.toArray)=(acc++(List.replicate k its).flatten).toArray
 | 0,acc=>by simp
 | k+1,acc=>by
  have e:acc.toArray++its.toArray=(acc++its).toArray:=by simp
  have e2:(acc++its)++(List.replicate k its).flatten=acc++(List.replicate (k+1) its).flatten:=by
   rw [List.replicate_succ,List.flatten_cons,List.append_assoc]
  rw [<- e2,<- foldl_rep its k (acc++its),<- e,List.replicate_succ,List.foldl_cons]
section
variable {X:Cx} {pins:List (Addr × Obj)} {σ:St} {H:Hp} {s:Shared} {l b:Addr} {xs ys zs:List V}
theorem Inv.lset {its its':List Value} {n:Nat} {f:Array Value->Array Value} {t':Nat} (I:Inv X pins σ H s) (hH:H l=some (.lst xs))
  (e:s.heap.get? l=some { cls:=.type "list",data:=.seq its.toArray n }) (hf:f its.toArray=its'.toArray) (hv:Vals ys its') (hz:ys.length<=sizeLine) :
  Inv X pins σ (upd H l (.lst ys)) { s with heap:=s.heap.update l (Obj.mapSeq f),toks:=t' }:=by
 have q:=PySem.IsL.update e f;rw [hf] at q;refine I.write (x:=l) (e:=l) (by rw [hH];exact trivial) (.inl rfl) (fun b' u hb hu=>(Heap.get?_update_other s.heap (Obj.mapSeq f) (Ne.symm hb)).trans hu) ⟨_,q⟩ ?_;exact ⟨hz,its',_,hv,q⟩
theorem Inv.lnew {its:List Value} {t':Nat} (I:Inv X pins σ H s) (hv:Vals ys its) (hz:ys.length<=sizeLine) :
  Inv X pins σ (upd H s.heap.objs.size (.lst ys)) { s with heap:=s.heap.push { cls:=.type "list",data:=.seq its.toArray },toks:=t' } :=
 I.laid (fun _ _ q=>Heap.get?_push_of_some _ q) (Nat.le_refl _) ⟨hz,its,0,hv,Heap.get?_push_size _ rfl⟩
theorem Inv.fresh (I:Inv X pins σ H s):H s.heap.objs.size=none:=I.hok.fresh (Nat.le_refl _)
theorem Inv.lstM (I:Inv X pins σ H s) (hH:H l=some (.lst xs)):xs.length<=sizeLine /\ ∃ (its:List Value) (n:Nat),Vals xs its /\ xs.length=its.length /\ s.heap.get? l=some { cls:=.type "list",data:=.seq its.toArray n }:=by
 obtain ⟨z,its,n,r,e⟩:=I.hok l _ hH;exact ⟨z,its,n,r,r.length,e⟩
theorem uu8 {n:Nat} (h:n<=sizeLine):Builtin.List.listTooLong n=false:=by
 unfold Builtin.List.listTooLong;exact decide_eq_false (by omega)
end
section
variable {X:Cx}
def vx1:V->List V->Hp->VK->Prop:=fun x vs H Q=>∃ l xs y,x=.ref l /\ vs=[y] /\ H l=some (.lst xs) /\ xs.length < sizeLine /\ Q .non (upd H l (.lst (xs++[y])))
theorem uo2:MtM X "list.append" vx1:=by
 intro pins s σ H x vs v us Q I rx rv h;obtain ⟨l,xs,y,rfl,rfl,hH,hz,q⟩:=h;cases rx;obtain ⟨u,rfl,ru⟩:=rv.one;obtain ⟨z,its,n,r,hl,e⟩:=I.lstM hH;refine call_meets F.slot_list_append ⟨_,e,rfl⟩ F.entry_list_append (F.args_list_append_2 _ _) (PySem.list_append l its.toArray n u (by rw [List.size_toArray];omega)) ⟨e,?_⟩;refine ⟨.non,_,I.lset (its':=its++[u]) hH e (by simp) (r.append (.cons ru .nil)) ?_,rfl,q⟩;rw [List.length_append,List.length_singleton];omega
def vx0:V->List V->Hp->VK->Prop:=fun x vs H Q=>∃ l b xs zs,x=.ref l /\ vs=[.ref b] /\ H l=some (.lst xs) /\ H b=some (.lst zs) /\ xs.length+zs.length<=sizeLine /\ Q .non (upd H l (.lst (xs++zs)))
theorem v61:MtM X "list.extend" vx0:=by
 intro pins s σ H x vs v us Q I rx rv h;obtain ⟨l,b,xs,zs,rfl,rfl,hH,hB,hz,q⟩:=h;cases rx;obtain ⟨u,rfl,ru⟩:=rv.one;cases ru;obtain ⟨z,its,n,r,hl,e⟩:=I.lstM hH;obtain ⟨z2,its2,n2,r2,hl2,e2⟩:=I.lstM hB;have hsz:its.toArray.size+its2.toArray.size<=sizeLine:=by rw [List.size_toArray,List.size_toArray];omega
 have hlong:¬ (!its.toArray.isEmpty && Builtin.List.listTooLong (its.toArray.size+its2.toArray.size))=true:=by
  rw [uu8 hsz,Bool.and_false];exact Bool.false_ne_true
 refine call_meets F.slot_list_extend ⟨_,e,rfl⟩ F.entry_list_extend (F.args_list_extend_2 _ _)
  (AutoSeq1.list_extend_list_list_0 l its.toArray n b its2.toArray n2 hlong (by rw [List.size_toArray];omega) (by omega)) ⟨e,e2,?_⟩
 refine ⟨.non,_,I.lset (its':=its++its2) hH e (by simp) (r.append r2) ?_,rfl,q⟩;rw [List.length_append];omega
def rPop:V->List V->Hp->VK->Prop:=fun x vs H Q=>∃ l xs y,x=.ref l /\ vs=[] /\ H l=some (.lst xs) /\ xs[xs.length - 1]?=some y /\ Q y (upd H l (.lst xs.dropLast))
theorem wi8:MtM X "list.pop" rPop:=by
 intro pins s σ H x vs v us Q I rx rv h;obtain ⟨l,xs,y,rfl,rfl,hH,hy,q⟩:=h;cases rx;have hus:=rv.zero;subst hus;obtain ⟨z,its,n,r,hl,e⟩:=I.lstM hH;obtain ⟨u,hu,ru⟩:=r.get hy;have hy':its.toArray[its.toArray.size - 1]?=some u:=by
  show its.toArray[its.length - 1]?=some u
  rw [<- Array.getElem?_toList,<- hl];exact hu
 refine call_meets F.slot_list_pop ⟨_,e,rfl⟩ F.entry_list_pop (F.args_list_pop_1 _) (MeetsSeq.list_pop_last l its.toArray n u hy' (by rw [List.size_toArray];omega)) ⟨e,?_⟩;refine ⟨y,_,I.lset (its':=its.dropLast) hH e ?_ r.dropLast ?_,ru,q⟩
 ·show its.toArray.eraseIdxIfInBounds (its.toArray.size - 1)=its.dropLast.toArray
  rw [List.size_toArray,List.eraseIdxIfInBounds_toArray,uz2]
 ·rw [List.length_dropLast]
  omega
def wa6:V->List V->Hp->VK->Prop:=fun x vs H Q=>∃ l xs i k y,x=.ref l /\ vs=[.int i] /\ H l=some (.lst xs) /\ -(2 ^ 63)<=i /\ i < 2 ^ 63 /\ seqIndex? i xs.length=some k /\ xs[k]?=some y /\ Q y (upd H l (.lst (xs.eraseIdx k)))
theorem vh1:MtM X "list.pop" wa6:=by
 intro pins s σ H x vs v us Q I rx rv h;obtain ⟨l,xs,i,k,y,rfl,rfl,hH,h1,h2,hk,hy,q⟩:=h;cases rx;obtain ⟨u,rfl,ru⟩:=rv.one;obtain ⟨t,rfl⟩:=ru;obtain ⟨z,its,n,r,hl,e⟩:=I.lstM hH;obtain ⟨w,hw,rw'⟩:=r.get hy;refine call_meets F.slot_list_pop ⟨_,e,rfl⟩ F.entry_list_pop (F.args_list_pop_2 _ _)
  (MeetsSeq.list_pop_at l its.toArray n i t k w (fitsIndex_both h1 h2) (by rw [List.size_toArray,<- hl];exact hk) (by rw [<- Array.getElem?_toList];exact hw) (by rw [List.size_toArray];omega)) ⟨e,?_⟩
 refine ⟨y,_,I.lset (its':=its.eraseIdx k) hH e ?_ (r.eraseIdx k) ?_,rw',q⟩
 ·show its.toArray.eraseIdxIfInBounds k=(its.eraseIdx k).toArray
  rw [List.eraseIdxIfInBounds_toArray]
 ·have:=uo6 xs k
  omega
def rCat:R2:=fun x y H Q=>∃ l b xs zs,x=.ref l /\ y=.ref b /\ H l=some (.lst xs) /\ H b=some (.lst zs) /\ xs.length+zs.length<=sizeLine /\ ∀ p,H p=none->Q (.ref p) (upd H p (.lst (xs++zs)))
theorem we0:OpR X (binaryOp .Add) rCat:=by
 intro pins s σ H x y v u Q I rx ry h;obtain ⟨l,b,xs,zs,rfl,rfl,hH,hB,hz,q⟩:=h;cases rx;cases ry;obtain ⟨z,its,n,r,hl,e⟩:=I.lstM hH;obtain ⟨z2,its2,n2,r2,hl2,e2⟩:=I.lstM hB;refine PySem.P.add_list e e2 ?_ (by rw [List.size_toArray,List.size_toArray];omega);have ea:its.toArray++its2.toArray=(its++its2).toArray:=by simp
 rw [ea];exact ⟨.ref _,_,I.lnew (t':=s.toks) (r.append r2) (by rw [List.length_append];omega),rfl,q _ I.fresh⟩
def rRep:R2:=fun x y H Q=>∃ l k xs,x=.ref l /\ y=.int k /\ H l=some (.lst xs) /\ -(2 ^ 63)<=k /\ k < 2 ^ 63 /\ xs.length * k.toNat<=sizeLine /\
 ∀ p,H p=none->Q (.ref p) (upd H p (.lst (List.replicate k.toNat xs).flatten))
theorem len_rep {α:Type} (xs:List α) (k:Nat):(List.replicate k xs).flatten.length=k * xs.length:=by
 induction k with
 | zero=>simp
 | succ k ih=>rw [List.replicate_succ,List.flatten_cons,List.length_append,ih,Nat.succ_mul,Nat.add_comm]
theorem wd4:OpR X (binaryOp .Mult) rRep:=by
 intro pins s σ H x y v u Q I rx ry h;obtain ⟨l,k,xs,rfl,rfl,hH,h1,h2,hz,q⟩:=h;cases rx;obtain ⟨t,rfl⟩:=ry;obtain ⟨z,its,n,r,hl,e⟩:=I.lstM hH;have hlen:its.toArray.size * k.toNat<=sizeLine:=by rw [List.size_toArray,<- hl];exact hz
 have hcap:¬ its.toArray.size * k.toNat > (2 ^ 63 - 1) / 8:=by
  have:(sizeLine:Nat)<=(2 ^ 63 - 1) / 8:=by decide
  omega
 have hfit:¬ (!Builtin.List.listFitsIndex k)=true:=by
  rw [fitsIndex_both h1 h2];exact Bool.false_ne_true
 have hlong:¬ Builtin.List.listTooLong (its.toArray.size * k.toNat)=true:=by
  rw [uu8 hlen];exact Bool.false_ne_true
 have hnew:List.foldl (fun x1 x2=>x1++x2) #[] (List.replicate (if its.toArray.isEmpty=true then 0 else k.toNat) its.toArray)=(List.replicate k.toNat its).flatten.toArray:=by
  have f0:∀ m:Nat,List.foldl (fun x1 x2=>x1++x2) #[] (List.replicate m its.toArray)=(List.replicate m its).flatten.toArray:=fun m=>by
   have:=foldl_rep its m [];rw [List.nil_append] at this;exact this
  rw [f0];cases its with
  | nil=>simp
  | cons a r'=>rw [if_neg (by simp)]
 refine wpAny_binaryOp_repeat_ref (T := "list") (U := "int") (by decide) ⟨_,e,rfl⟩ (fun s'=>typeIs_int s' k t) noFill_list_mul F.fills_int_mul F.slot_int_rmul repeat_list F.slot_int_index.lookup
  (call_meets F.slot_int_rmul (typeIs_int s k t) F.entry_int_rmul (F.args_int_rmul_2 _ _) (int___rmul___int_list k t l its.toArray n)
   ⟨e,rfl,⟨_,e,rfl⟩,call_meets F.slot_list_mul ⟨_,e,rfl⟩ F.entry_list_mul (F.args_list_mul_2 _ _) (AutoListH.list___mul___list_int_3 l its.toArray n k t hfit hcap hlong) ⟨e,?_⟩⟩)
 rw [hnew];exact ⟨.ref _,_,I.lnew (t':=s.toks) (r.rep k.toNat) (by rw [len_rep,Nat.mul_comm];exact hz),rfl,q _ I.fresh⟩
end
end L2
namespace Att
open PySem PySem.W PySem.Calls PyProof.Rows
theorem uh2 {P:Params} {h:Heap}:∀ (ns:List Int) (vs:List Value),WellAll P h vs (ns.map WData.int)->IntsAre vs ns:=by
 intro ns
 induction ns with
 | nil =>
  intro vs w;rw [List.map_nil] at w;cases w;exact .nil
 | cons n ns ih =>
  intro vs w;rw [List.map_cons] at w;cases w with
  | cons a b =>
   cases a;exact .cons _ _ (ih _ b)
theorem v34 {l:OpenLaw} {n:Nat} (hn:l.most=some n) {P:Params} {h:Heap} {args:List WData} {vals:List Value}
  (hpre:l.row.toRowW.claim.pre args=true) (hwl:WellAll P h vals args) :
  ∃ a vs ns,vals=[Value.ref a] /\ args=[WData.list (ns.map WData.int)] /\ h.get? a=some { cls:=.type "list",data:=.seq vs.toArray } /\ IntsAre vs ns /\ ns.length<=n:=by
 have hsh:WShape.hasAll [] args [.list .int]=true:=(pre_splitW hpre).1;have hc:l.pre.holds [] { args:=args }=true:=(pre_splitW hpre).2;obtain ⟨d,r,rfl,h1,h2⟩:=hasAllW_cons hsh;obtain rfl:=hasAllW_nil h2;obtain ⟨xs,rfl,h3⟩:=hasW_list h1;obtain ⟨ns,rfl⟩:=items_int h3;have hlen:ns.length<=n:=by
  unfold OpenLaw.pre at hc;have h4:(WTm.not (.lt (.lit (.int (n:Int))) (.len (.arg 0)))).holds [] { args:=[.list (ns.map .int)] }=true:=by
   have h4:=(holds_andW hc).1;rw [hn] at h4;exact h4
  have h5:=condW_of h4 (w_not (w_lt w_lit (w_len_list (w_arg rfl))));rw [List.length_map] at h5;refine Nat.le_of_not_lt fun q=>?_
  have q':(n:Int) < ((ns.length:Nat):Int):=by omega
  first
   | (rw [decide_eq_true q'] at h5;exact absurd h5 (by decide))
   | (simp at h5;omega)
 cases hwl with
 | cons w1 w2 =>
  cases w2;cases w1 with
  | list ho hall=>exact ⟨_,_,ns,rfl,rfl,ho,uh2 ns _ hall,hlen⟩
theorem v46 (l:OpenLaw) (args:List WData):l.row.toRowW.claim.post args (.bool true) args=true :=
 postW_of (r:=l.row.toRowW) (X:=(true == true))
  (show WShape.has [] (.bool true) .bool=true by first | rfl | decide | simp [WShape.has,WShape.arms,WShape.armsAll])
  (show (WTm.eq .res (.lit (.bool true))).value [] { args:=args,res:=some (.bool true),after:=args }=some (.bool (true == true)) from w_eq_bool (w_res rfl) w_lit) rfl
theorem attach_call {l:OpenLaw} {n:Nat} {q:Program} {loose:List Str} {XP:(Str->Option Value)->Heap->Prop} {YP:World->Heap->Prop} {d:DefRec}
  (hn:l.most=some n) (hdf:d.params.defaults=[])
  (call:∀ (w:World) (s₀ s₁:Shared) (mg mb:Str->Option Value) (fa:Addr) (o:Obj) (pm cd doc:Value) (a:Addr) (vs:List Value) (ns:List Int),
   Ground q loose [] XP w s₀ mg mb s₁.heap->YP w s₁.heap ->
   s₁.heap.get? fa=some o->o.data=.func (docDef d.name d.params d.body d.scope pm cd doc)->s₁.heap.CodeRec cd d.name->mg d.name=some (.ref fa) ->
   s₁.heap.get? a=some { cls:=.type "list",data:=.seq vs.toArray }->IntsAre vs ns->ns.length<=n->s₁.gens=#[] ->
   codeAny (model l.prog w) callerA (.call (.ref fa) ⟨[.ref a],[]⟩) (fun r s'=>r=.ok (.ret (.bool true)) /\ OldK s₁.heap s'.heap /\ s'.os=s₁.os /\ AllBare s'.gens) s₁) :
  WalkO q loose XP YP l.row.toRowW d [] (fun f vs=>PySem.call f vs):=by
 intro w s₀ s₁ mg mb G Y fa o pm cd doc dV kV ho hd hcd hD hmg hg args vals as hpre hlay hrd hwl hlo;obtain rfl:dV=.none:=Dflts.none hD hdf;obtain rfl:kV=.none:=Dflts.noKw hD;obtain ⟨a,vs,ns,rfl,rfl,hobj,hints,hlen⟩:=v34 hn hpre hwl;refine enter_call (codeAny_mono (call w s₀ s₁ mg mb fa o pm cd doc a vs ns G Y ho (fd_plain hd) hcd hmg hobj hints hlen hg) fun r s' hq=>?_);obtain ⟨rfl,h2,h3,h4⟩:=hq;exact ⟨.inl ⟨.bool true,.bool true,[],rfl,fun _=>rfl,.bool true,v46 l _,fun _=>⟨List.Pairwise.nil,fun _ hm=>(nomatch hm)⟩⟩,h2,h3,h4⟩
end Att
namespace L2
open PySem PySem.Spec PyProof.Rows
theorem un0:∀ {vs:List Value} {ns:List Int},IntsAre vs ns->Vals (ns.map V.int) vs
 | _,_,.nil=>.nil
 | _,_,.cons n t h=>.cons ⟨t,rfl⟩ (un0 h)
def Only (H:Hp):Prop:=∀ b,H b=none \/ ∃ o xs,H b=some (.frz o (.lst xs))
theorem vj1 {P:Program} {w:World} {K:W.Frag} {mg mb:Str->Option Value} {CX:CXT} {k:Nat} {fa a:Addr} {fd:FuncData} {x:Str} {sp:Sp} {s₁:Shared} {vs:List Value} {ns:List Int}
  (KX:K.In s₁.heap) (hns:s₁.heap.Ns mainGlobals mg) (hb:s₁.heap.Ns builtinsNs mb) (hbb:∀ x:Str,x ≠ "__name__" -> mb x=bootBuiltins x) (hlim:s₁.heap.NoLimit) (hg:s₁.gens=#[])
  (ha:s₁.heap.get? a=some { cls:=.type "list",data:=.seq vs.toArray }) (hi:IntsAre vs ns) (hl:ns.length<=sizeLine) (hr:Room k callerA)
  (F:∀ base:Heap,K.In base->base.Ns mainGlobals mg->FnOk P w K mg base CX k fa fd [x] sp) (hbind:∀ (s:Shared) (u:Value),BindsTo s fd ⟨[u],[]⟩ [(x,u)])
  (hsp:∀ H:Hp,Only H->SqL K H a (ns.map V.int)->sp [.ref a] H (fun v _=>v=.bl true) fun _ _ _=>False)
  (hCX:∀ H e s',CX [] H s₁ (fun _ _ _=>False) e s'->False) :
  codeAny (model P w) callerA (.call (.ref fa) ⟨[.ref a],[]⟩) (fun r s'=>r=.ok (.ret (.bool true)) /\ OldK s₁.heap s'.heap /\ s'.os=s₁.os /\ AllBare s'.gens) s₁:=by
 have rv:=un0 hi;have lenV:=hi.length;have core:∀ H:Hp,Only H->SqL K H a (ns.map V.int)->HOk P w H s₁.heap->(∀ b,H b ≠ none->b=a)->(H a ≠ none->K.lookup a=none) ->
   codeAny (model P w) callerA (.call (.ref fa) ⟨[.ref a],[]⟩) (fun r s'=>r=.ok (.ret (.bool true)) /\ OldK s₁.heap s'.heap /\ s'.os=s₁.os /\ AllBare s'.gens) s₁:=by
  intro H hO hS hok hA hK;have base_of:∀ {b:Addr} {o:Obj},s₁.heap.get? b=some o->H b=none->(hidT s₁.heap H).get? b=some o:=fun e n=>vj7 e n
  have noA:∀ {b:Addr} {o:Obj} {es:Array DictEntry} {ep:Nat},s₁.heap.get? b=some o->o.data=.dict es ep->H b=none:=fun {b o es ep} e d=>by
   cases q:H b with
   | none=>rfl
   | some u =>
    have e':b=a:=hA b (by rw [q];simp);subst e';rw [ha] at e;cases e;have d':Data.seq vs.toArray _=Data.dict es ep:=d;cases d'
  have nsK:∀ {b:Addr} {m:Str->Option Value},s₁.heap.Ns b m->(hidT s₁.heap H).Ns b m:=fun {b m} ⟨o,es,ep,e,d,r⟩=>⟨o,es,ep,base_of e (noA e d),d,r⟩
  have hKb:K.In (hidT s₁.heap H):=fun b o e=>base_of (KX b o e) (by
   cases q:H b with
   | none=>rfl
   | some u =>
    have e':b=a:=hA b (by rw [q];simp);subst e';rw [hK (by rw [q];simp)] at e;cases e)
  have hM:Mod K mg (hidT s₁.heap H):=⟨hKb,nsK hns,⟨mb,nsK hb,hbb⟩,let ⟨mc,h1,h2⟩:=hlim;⟨mc,nsK h1,h2⟩⟩;have e0:Env0 P w K mg (hidT s₁.heap H) callerA [] s₁ H:=⟨rfl,hM,fun b o e=>vz4 e,Nat.le_of_eq (v92 _ _),trivial,fun b hb=>absurd (show b ∈ ([]:List Addr) from hb) (by simp),hok,.of_eq hg⟩;refine codeAny_mono ((F _ hKb (nsK hns)).run callerA [] s₁ H ⟨[.ref a],[]⟩ [.ref a] [.ref a] _ _ hr e0 (hbind s₁ (.ref a)) (.cons rfl .nil) (hsp H hO hS)) fun r s' h=>?_
  cases r with
  | error e=>exact (hCX H e s' h).elim
  | ok fl =>
   cases fl with
   | next=>exact False.elim h
   | brk=>exact False.elim h
   | cont=>exact False.elim h
   | ret u =>
    obtain ⟨v,H',os,bare,un,hok',r',q⟩:=h;have q':v=.bl true:=q;subst q';obtain rfl:u=Value.bool true:=r';refine ⟨rfl,OldK.of_keep fun b o e=>?_,os,bare⟩;cases q:H b with
    | none=>exact un.keep b o e q (by intro z;exact absurd (show b ∈ ([]:List Addr) from z) (by simp)) (by simp)
    | some u =>
     rcases hO b with z | ⟨ob,xs,z⟩
     ·rw [q] at z;cases z
     ·have z2:=un.frzs b ob ⟨_,by intro _ e;cases e⟩ z
      obtain ⟨e1,_⟩:=hok b _ z;obtain ⟨e2,_⟩:=hok' b _ z2;rw [e] at e1;cases e1;exact e2
 cases hk:K.lookup a with
 | some o =>
  have e:=KX a o hk;rw [ha] at e;cases e;refine core (fun _=>none) (fun _=>.inl rfl) (.inr ⟨_,vs.toArray,_,hk,rfl,rfl,rfl,by rw [List.size_toArray,lenV];exact hl,by simpa using rv⟩) (fun b u z=>by have z':(none:Option HO)=some u:=z;cases z') (fun b z=>absurd rfl z) fun z=>absurd rfl z
 | none =>
  refine core (fun b=>if b=a then some (.frz { cls:=.type "list",data:=.seq vs.toArray } (.lst (ns.map V.int))) else none) (fun b=>?_) (.inl (.inr ⟨{ cls:=.type "list",data:=.seq vs.toArray },if_pos rfl⟩)) (fun b u z=>?_) (fun b z=>?_) fun _=>hk
  ·by_cases hb:b=a
   ·exact .inr ⟨_,_,if_pos hb⟩
   ·exact .inl (if_neg hb)
  ·by_cases hb:b=a
   ·have z':=(if_pos hb).symm.trans z
    cases z';subst hb;exact ⟨ha,by rw [List.length_map];exact hl,vs,_,rv,ha⟩
   ·have z':=(if_neg hb).symm.trans z
    cases z'
  ·by_cases hb:b=a
   ·exact hb
   ·exact absurd (if_neg hb) z
abbrev KOf {K:W.Frag} {h:Heap} (_:K.In h):W.Frag:=K
theorem walk_of {l:W.OpenLaw} {n k:Nat} {q:Program} {loose:List Str} {XP:(Str->Option Value)->Heap->Prop} {YP:World->Heap->Prop} {d:DefRec} {K:Params->W.Frag} {CX:World->CXT} {sp:World->Sp} {x:Str}
  (hn:l.most=some n) (hn2:n<=sizeLine) (hdf:d.params.defaults=[]) (hr:Room k callerA)
  (hY:∀ (w:World) (h:Heap),YP w h->(K w.params).In h)
  (F:∀ (w:World) (mg:Str->Option Value) (fa:Addr) (h:Heap),(K w.params).In h->h.Ns mainGlobals mg->mg d.name=some (.ref fa) ->
   ∃ fd:FuncData,(∀ (s:Shared) (u:Value),BindsTo s fd ⟨[u],[]⟩ [(x,u)]) /\
    ∀ base:Heap,(K w.params).In base->base.Ns mainGlobals mg->FnOk l.prog w (K w.params) mg base (CX w) k fa fd [x] (sp w))
  (hsp:∀ (w:World) (H:Hp) (a:Addr) (ns:List Int),ns.length<=n->Only H->SqL (K w.params) H a (ns.map V.int)->sp w [.ref a] H (fun v _=>v=.bl true) fun _ _ _=>False)
  (hCX:∀ (w:World) (H:Hp) (s:Shared) (e:Value) (s':Shared),CX w [] H s (fun _ _ _=>False) e s'->False) :
  W.WalkO q loose XP YP l.row.toRowW d [] (fun f vs=>PySem.call f vs):=by
 refine Att.attach_call hn hdf fun w s₀ s₁ mg mb fa o pm cd doc a vs ns G Y ho hd hcd hmg hobj hints hlen hg=>?_
 have KX:=hY w _ Y;obtain ⟨fd,hb,hF⟩:=F w mg fa _ KX G.T.g hmg;exact vj1 KX G.T.g G.T.b G.T.builtins G.T.nolimit hg hobj hints (Nat.le_trans hlen hn2) hr hF hb (fun H hO hS=>hsp w H a ns hlen hO hS) fun H e s'=>hCX w H s₁ e s'
end L2
/- THE LAST THEOREM (shape; LID,My.* are yours):
   My.Adr: a structure of the addresses that your layer names (classes,functions);My.Txt K t: a structure (Prop) of the equations over K;
   My.txt_mk:{K} {implicit addresses ..} (e1:nsIn K mainGlobals "law" = some (some (.ref f))) (e2:K.lookup f=some ⟨oc,od,.func (fnOf "law" "law" params body scope dV kV doc pm an cdv ct),sl⟩) (e3:codeIn K cdv "law" = true) ..:∃ t,My.Txt K t
set_option maxHeartbeats 0 in
theorem PySem.Challenge.cw_LID_holds:PySem.Challenge.rw_LID.Holds:=by
 w_on;o_law;k_head;(case hw=>w_witness2)
 k_fill
 refine L2.walk_of (l:=PySem.Challenge.rw_LID) (n:=63) (k:=40) (x := "script") (CX:=fun w=>..) (sp:=fun _=>My.sp_law) rfl (by decide) rfl ⟨rfl,by decide,by decide⟩ (fun w h Y=>W.kIn_of Y) ?F ?S ?C
 case F =>
  intro w mg fa h KX G hmg;have T:∃ t,My.Txt (L2.KOf KX) t:=by
   dsimp only [L2.KOf]                          -- K must stand as «<heap const> w.params» for k_is;refine' My.txt_mk ?e1 ?e2 ?e3 ..
   (case e1=>W.k_is)                    -- in the order: a name->its address->its object->its parts
   (case e2=>W.k_is)
   ..
  obtain ⟨t,T⟩:=T;have e0:=hmg.symm.trans (W.mg_of KX G T.law);cases e0                                       -- fa is the law's own address;exact ⟨_,fun s u=>.of_eq rfl,fun base kb nb=>My.law_fn T kb nb⟩     -- if «.of_eq rfl» comes too early: refine' ⟨_,?b,fun base kb nb=>My.law_fn T kb nb⟩;exact fun s u=>.of_eq rfl
 case S=>exact fun w H a ns hl hO hS=>..
 case C=>exact ..
(the tactic k_is has no namespace: write k_is) -/
namespace L2
open PySem PySem.Spec PyProof.Rows
def inClass (s:Stmt) (j:Nat):Stmt:=match s with
 | .ClassDef _ _ _ body _ _ _ _ _ _ _=>body.getD j (.Pass ⟨0,0,0,0⟩)
 | _=>.Pass ⟨0,0,0,0⟩
def u38 (s:Stmt):Arguments:=match s with
 | .FunctionDef _ a _ _ _ _ _ _ _ _=>a
 | _=>{ posonlyargs:=[],args:=[],vararg:=none,kwonlyargs:=[],kw_defaults:=[],kwarg:=none,defaults:=[] }
def u33 (s:Stmt):List Stmt:=match s with
 | .FunctionDef _ _ b _ _ _ _ _ _ _=>b
 | _=>[]
def u05 (s:Stmt):Scope:=match s with
 | .FunctionDef _ _ _ _ _ _ sc _ _ _=>sc
 | _=>{ kind:=.function,names:=[],isGenerator:=false,isCoroutine:=false }
abbrev CX0:CXT:=fun _ _ _ _ _ _=>False
abbrev E0:XK:=fun _ _ _=>False
theorem pass0 {X:Cx}:Passes CX0 X E0:=fun _ _ _ _ _ _ _ h=>h.elim
section
variable {X:Cx}
theorem pv (i:Nat) {x:Str} {pos:Pos} (hN:X.N[i]?=some x:=by rfl) (hv:Vis X.env.scope x:=by first | exact Or.inl rfl | exact Or.inr (Or.inl rfl) | exact Or.inr (Or.inr rfl)) (hd:(x == ("__debug__" : Str))=false:=by decide)
  (hcd:(x == ("__classdict__" : Str))=false:=by decide):PE X (.Name x pos) (tVar i):=vo6 hN hv hd hcd
end
theorem w13 {prog:Program} {w:World} {A:Around} {R:Result->Shared->Prop} {s:Shared} {elt target iter:Expr} {ifs:List Expr} {scope:Scope} {pos:Pos} {it acc:Value} {env:Env} (I:Nat->Shared->Prop)
  (turn:∀ n s,I n s->wpAny (model prog w) A (pyNext it) (fun r s₁=>match r with
   | none=>R (.ok .next) s₁
   | some v=>wpAny (model prog w) A (letOwnedTupleGo target it v) (fun _ s₁=>wpAny (model prog w) A (assign target env v) (fun _ s₂ =>
     wpAny (model prog w) A (forIn ifs true fun c r=>if r=true then do let ok <- isTrue c env (eval c env);pure (ForInStep.yield ok) else pure (ForInStep.yield r)) (fun ok s₃ =>
      if ok=true then wpAny (model prog w) A (eval elt env) (fun x s₄ =>
       wpAny (model prog w) A (call (.builtin "list.append") [acc,x]) (fun _ s₅=>∃ m,m < n /\ I m s₅) (fun _ _=>False) s₄) (fun _ _=>False) s₃
      else ∃ m,m < n /\ I m s₃) (fun _ _=>False) s₂) (fun _ _=>False) s₁) (fun _ _=>False) s₁) (fun _ _=>False) s)
  (n:Nat) (h:I n s) :
  codeAny (model prog w) A (.compLoop (.ListComp elt [⟨target,iter,ifs,0⟩] scope pos) 0 it acc env) R s:=by
 refine codeAny_loop rfl I (fun n s hI=>?_) n h
 show wpAny _ A ((compTurn (.ListComp elt [⟨target,iter,ifs,0⟩] scope pos) 0 it acc env).onRaise (fun x=>do noteFrame x env;theTreesLotGoes x)) _ _ s
 refine wpAny_noted ?_;rw [compTurn_list];refine wpAny_bind (wpAny_standAt (wpAny_bind (wpAny_mono (turn n s hI) (fun r s₁ h₁=>?_) fun _ _ h'=>h'.elim)));cases r with
 | none=>exact wpAny_pure h₁
 | some v =>
  refine wpAny_bind (wpAny_mono h₁ (fun _ s₂ h₂=>?_) fun _ _ h'=>h'.elim);refine wpAny_bind (wpAny_mono h₂ (fun _ s₂ h₂=>wpAny_bind (wpAny_mono h₂ (fun ok s₃ h₃=>?_) fun _ _ h'=>h'.elim)) fun _ _ h'=>h'.elim);cases ok with
  | false=>exact wpAny_pure ⟨rfl,h₃⟩
  | true =>
   exact wpAny_bind (wpAny_bind (wpAny_mono h₃ (fun x s₄ h₄=>wpAny_bind (wpAny_mono h₄ (fun _ s₅ h₅=>wpAny_pure (wpAny_pure ⟨rfl,h₅⟩)) fun _ _ h'=>h'.elim)) fun _ _ h'=>h'.elim))
def clOf (env:Env):List (Str × NameKind)->List (Str × Addr)->List (Str × Addr)
 | [],cs=>cs
 | (x,k)::r,cs=>clOf env r (if (k == .free)=true then (x,(env.cells.lookup x).getD 0)::cs else cs)
theorem us9 {env:Env} {x:Str} {c:Addr} (h:env.cells.lookup x=some c):cellOf env x=pure c:=by
 unfold cellOf;rw [h]
theorem uk0 {scope:Scope} {env:Env} (h:∀ y ∈ scope.names,y.2=.free->∃ c,env.cells.lookup y.1=some c):closureFor scope env=pure (clOf env scope.names []):=by
 have key:∀ (l:List (Str × NameKind)) (cs:List (Str × Addr)),(∀ y ∈ l,y.2=.free->∃ c,env.cells.lookup y.1=some c) ->
   (forIn l cs fun (y:Str × NameKind) r=>if (y.2 == NameKind.free)=true then do let c <- cellOf env y.1;pure (ForInStep.yield ((y.1,c)::r)) else pure (ForInStep.yield r):Sem (List (Str × Addr)))=pure (clOf env l cs):=by
  intro l
  induction l with
  | nil=>intro cs _;rfl
  | cons y r ih =>
   intro cs hl;obtain ⟨x,k⟩:=y;rw [List.forIn_cons]
   by_cases hk:k=.free
   ·subst hk
    obtain ⟨c,hc⟩:=hl (x,.free) List.mem_cons_self rfl;have e:((NameKind.free == NameKind.free):Bool)=true:=rfl;simp only [e,if_true,us9 hc,pure_bind];rw [ih _ fun z hz=>hl z (List.mem_cons_of_mem _ hz)]
    show _=pure (clOf env r (if (NameKind.free == NameKind.free)=true then _ else _))
    rw [e,if_pos rfl,hc] <;> rfl
   ·have e:(k == NameKind.free)=false:=by simpa using hk
    simp only [e,Bool.false_eq_true,if_false,pure_bind];rw [ih _ fun z hz=>hl z (List.mem_cons_of_mem _ hz)]
    show _=pure (clOf env r (if (k == NameKind.free)=true then _ else _))
    rw [e,if_neg Bool.false_ne_true]
 have e:closureFor scope env=((forIn scope.names ([]:List (Str × Addr)) fun (y:Str × NameKind) r=>if (y.2 == NameKind.free)=true then do let c <- cellOf env y.1;pure (ForInStep.yield ((y.1,c)::r)) else pure (ForInStep.yield r):Sem (List (Str × Addr))) >>= fun cs=>pure cs):=rfl;rw [e,key scope.names [] h];rfl
theorem ui5 {env:Env} {x:Str} {c:Addr}:∀ {l:List (Str × NameKind)} {cs:List (Str × Addr)},(∀ y ∈ l,y.2=.free->∃ c,env.cells.lookup y.1=some c)->(∀ x c,cs.lookup x=some c->env.cells.lookup x=some c) ->
  (clOf env l cs).lookup x=some c->env.cells.lookup x=some c
 | [],_,_,h,e=>h x c e
 | (y,k)::r,cs,hl,h,e=>by
  refine ui5 (l:=r) (fun z hz=>hl z (List.mem_cons_of_mem _ hz)) (fun x c e=>?_) e
  by_cases hk:k=.free
  ·subst hk
   obtain ⟨d,hd⟩:=hl (y,.free) List.mem_cons_self rfl;rw [if_pos (show (NameKind.free == NameKind.free)=true from rfl),List.lookup_cons] at e;cases hx:x == y with
   | true=>rw [hx,hd] at e;cases e;rw [eq_of_beq hx];exact hd
   | false=>rw [hx] at e;exact h x c e
  ·rw [if_neg (by simpa using hk)] at e;exact h x c e
theorem um5 {env:Env} {x:Str}:∀ {l:List (Str × NameKind)} {cs:List (Str × Addr)},((∃ c,cs.lookup x=some c) \/ (x,NameKind.free) ∈ l)->∃ c,(clOf env l cs).lookup x=some c
 | [],_,h=>by
  rcases h with h | h
  ·exact h
  ·simp at h
 | (y,k)::r,cs,h=>by
  refine um5 (l:=r) ?_
  rcases h with ⟨c,h⟩ | h
  ·left
   by_cases hk:(k == NameKind.free)=true
   ·rw [if_pos hk,List.lookup_cons]
    cases hx:x == y with
    | true=>exact ⟨_,rfl⟩
    | false=>exact ⟨c,h⟩
   ·rw [if_neg hk];exact ⟨c,h⟩
  ·rcases List.mem_cons.mp h with e | h
   ·injection e with e1 e2
    subst e1;subst e2
    left
    rw [if_pos (show (NameKind.free == NameKind.free)=true from rfl),List.lookup_cons];simp
   ·exact .inr h
def u44 (X:Cx) (N':List Str) (scope:Scope) (C:Addr) (s:Shared) (H:Hp) (fp:List Addr):Cx :=
 { X with N:=N',s₀:=s,H₀:=H,env:=compEnvC scope (clOf X.env scope.names []) C X.env,outer:=X.stack,ex:=fp,fn:=fun _=>false,pn:=[],xe:=fun _ _=>False }
structure BlkOk (X:Cx) (N':List Str) (ix:List (Option Nat)) (scope:Scope):Prop where
 kind:scope.kind=.function
 nocell:∀ y ∈ scope.names,y.2 ≠ .cell
 names:∀ y ∈ scope.names,y.2=.local->scope.names.lookup y.1=some .local
 frees:∀ y ∈ scope.names,y.2=.free->X.env.kindOf y.1=some .cell \/ X.env.kindOf y.1=some .free
 len:ix.length=N'.length
 at_:∀ (i j:Nat) (x:Str),N'[i]?=some x->ix[i]?=some (some j)->X.N[j]?=some x /\ scope.names.lookup x=some .free
def inner (ix:List (Option Nat)) (σ:St):St:=ix.map fun o=>o.bind fun j=>(σ[j]?).bind id
def vs1 (ix:List (Option Nat)) (wi:TI) (g:TG) (tc:TT) (te:TE):TE:=fun σ H Q=>wi σ H fun J H1=>∀ D,H1 D=none->∃ W:Nat->Nat->St->Hp->Prop,(∃ m,W 0 m (inner ix σ) (upd H1 D (.lst []))) /\ ∀ i m σi H,W i m σi H ->
 (J.stop i H /\ Q (.ref D) H) \/ (J.go i H /\ ∃ N:St->Hp->Prop,(∀ σ' H',N σ' H'->∃ m',m' < m /\ W (i+1) m' σ' H') /\ ∀ x H',J.yld i H x H'->g x σi H' fun σ2 H2=>tc σ2 H2 fun b H3 =>
  if b=true then te σ2 H3 fun v H4=>∃ ys,H4 D=some (.lst ys) /\ ys.length < sizeLine /\ N σ2 (upd H4 D (.lst (ys++[v]))) else N σ2 H3)
theorem u52 {env:Env} {x:Str}:∀ {names:List (Str × NameKind)},names.lookup x=some .free->(env.kindOf x=some .cell \/ env.kindOf x=some .free) ->
  (names.map fun (n,k)=>if (k == NameKind.free && env.scope.kind == .function && env.kindOf n == some .cell) then (n,NameKind.cell) else (n,k)).lookup x=some .cell \/
  (names.map fun (n,k)=>if (k == NameKind.free && env.scope.kind == .function && env.kindOf n == some .cell) then (n,NameKind.cell) else (n,k)).lookup x=some .free
 | [],h,_=>by simp at h
 | (n,k)::r,h,ho=>by
  cases hx:x == n with
  | true =>
   simp only [List.lookup_cons,hx] at h;cases h
   by_cases hc:(NameKind.free == NameKind.free && env.scope.kind == .function && env.kindOf n == some .cell)=true
   ·left
    show List.lookup x ((if (NameKind.free == NameKind.free && env.scope.kind == .function && env.kindOf n == some .cell)=true then (n,NameKind.cell) else (n,.free))::_)=_
    rw [if_pos hc];simp only [List.lookup_cons,hx]
   ·right
    show List.lookup x ((if (NameKind.free == NameKind.free && env.scope.kind == .function && env.kindOf n == some .cell)=true then (n,NameKind.cell) else (n,.free))::_)=_
    rw [if_neg hc];simp only [List.lookup_cons,hx]
  | false =>
   simp only [List.lookup_cons,hx] at h;have ih:=u52 (env:=env) h ho
   show List.lookup x ((if (k == NameKind.free && env.scope.kind == .function && env.kindOf n == some .cell)=true then (n,NameKind.cell) else (n,k))::_)=_ \/
    List.lookup x ((if (k == NameKind.free && env.scope.kind == .function && env.kindOf n == some .cell)=true then (n,NameKind.cell) else (n,k))::_)=_
   by_cases hc:(k == NameKind.free && env.scope.kind == .function && env.kindOf n == some .cell)=true
   ·rw [if_pos hc];simp only [List.lookup_cons,hx];exact ih
   ·rw [if_neg hc];simp only [List.lookup_cons,hx];exact ih
theorem u53 {env:Env} {x:Str}:∀ {names:List (Str × NameKind)},(∀ y ∈ names,y.2 ≠ .cell) ->
  ((names.map fun (n,k)=>if (k == NameKind.free && env.scope.kind == .function && env.kindOf n == some .cell) then (n,NameKind.cell) else (n,k)).lookup x=some .cell \/
  (names.map fun (n,k)=>if (k == NameKind.free && env.scope.kind == .function && env.kindOf n == some .cell) then (n,NameKind.cell) else (n,k)).lookup x=some .free)->(x,NameKind.free) ∈ names
 | [],_,h=>by simp at h
 | (n,k)::r,hn,h=>by
  have h:List.lookup x ((if (k == NameKind.free && env.scope.kind == .function && env.kindOf n == some .cell)=true then (n,NameKind.cell) else (n,k))::(r.map fun (n,k)=>if (k == NameKind.free && env.scope.kind == .function && env.kindOf n == some .cell) then (n,NameKind.cell) else (n,k)))=some .cell \/
   List.lookup x ((if (k == NameKind.free && env.scope.kind == .function && env.kindOf n == some .cell)=true then (n,NameKind.cell) else (n,k))::(r.map fun (n,k)=>if (k == NameKind.free && env.scope.kind == .function && env.kindOf n == some .cell) then (n,NameKind.cell) else (n,k)))=some .free:=h
  cases hx:x == n with
  | true =>
   have e:x=n:=eq_of_beq hx;subst e
   by_cases hc:(k == NameKind.free && env.scope.kind == .function && env.kindOf x == some .cell)=true
   ·have hk:k=.free:=by
     simp only [Bool.and_eq_true,beq_iff_eq] at hc;exact hc.1.1
    subst hk;exact List.mem_cons_self
   ·rw [if_neg hc] at h
    simp only [List.lookup_cons,hx,Option.some.injEq] at h
    rcases h with h | h
    ·exact absurd h (hn (x,k) List.mem_cons_self)
    ·subst h;exact List.mem_cons_self
  | false =>
   refine List.mem_cons_of_mem _ (u53 (env:=env) (fun y hy=>hn y (List.mem_cons_of_mem _ hy)) ?_)
   by_cases hc:(k == NameKind.free && env.scope.kind == .function && env.kindOf n == some .cell)=true
   ·rw [if_pos hc] at h;simp only [List.lookup_cons,hx] at h;exact h
   ·rw [if_neg hc] at h;simp only [List.lookup_cons,hx] at h;exact h
def PIfs (X:Cx) (ifs:List Expr) (t:TT):Prop :=
 ∀ (pins:List (Addr × Obj)) (s:Shared) (σ:St) (H:Hp) (Q:Bool->Hp->Prop),Inv X pins σ H s->t σ H Q ->
  wpAny (model X.prog X.w) X.A (forIn ifs true fun c r=>if r=true then do let ok <- isTrue c X.env (eval c X.env);pure (ForInStep.yield ok) else pure (ForInStep.yield r)) (TP X pins σ Q) X.xe s
def tYes:TT:=fun _ H Q=>Q true H
section
variable {X:Cx} {pins:List (Addr × Obj)} {σ:St} {H:Hp} {s:Shared}
theorem vg0:PIfs X [] tYes:=fun _ _ _ H _ I h=>wpAny_tests_nil ⟨H,I,h⟩
theorem vf9 {c:Expr} {t:TT} (h:PT X c t):PIfs X [c] t:=fun pins s σ H Q I hw=>wpAny_tests_one (h pins s σ H Q I hw)
theorem Inv.blk {N':List Str} {ix:List (Option Nat)} {scope:Scope} {fp:List Addr} {h1:Heap} {tk:Nat} (I:Inv X pins σ H s) (B:BlkOk X N' ix scope) (f:∀ b ∈ fp,FpOk X pins H b) (hlt:∀ b ∈ fp,b < s.heap.objs.size)
  (ns:h1.Ns s.heap.objs.size (fun _=>none)) (old:∀ b o,s.heap.get? b=some o->h1.get? b=some o) :
  Inv (u44 X N' scope s.heap.objs.size s H fp) [] (inner ix σ) H { s with heap:=h1,toks:=tk }:=by
 have hfree:∀ y ∈ scope.names,y.2=.free->∃ c,X.env.cells.lookup y.1=some c:=fun y hy e=>I.ok.has y.1 (B.frees y hy e)
 have hc:∀ x c,(clOf X.env scope.names []).lookup x=some c->X.env.cells.lookup x=some c:=fun x c e=>ui5 hfree (fun _ _ z=>by cases z) e
 have stk:∀ b ∈ fp,b ∉ frs X.stack:=fun b hb z=>by
  rcases List.mem_cons.mp (I.stkSub b z) with e | e
  ·exact (f b hb).2.1 e
  ·exact (f b hb).2.2.1 e
 refine ⟨⟨I.ok.mod,B.kind,I.ok.glob,I.ok.blt,Nat.le_refl _,fun x y c h1 h2=>I.ok.inj x y c (hc x c h1) (hc y c h2),fun x hx=>?_,fun x c h=>(by cases h),I.ok.hd,I.ok.frames,.inl rfl,fun b hb=>⟨Nat.ne_of_lt (hlt b hb),fun x c e=>(f b hb).2.2.2.2.1 x c (hc x c e)⟩,
   I.bs,Nat.le_trans I.ok.bsz I.sz,fun b o e hb=>?_,stk,I.stack,I.stkFree⟩,rfl,I.bare,Un.kept old,⟨_,ns,fun i x v h1 h2 h3=>?_⟩,fun x c e=>?_,I.hok.fresh (Nat.le_refl _),fun x c e=>I.freeC x c (hc x c e),fun p hp=>absurd (show p ∈ ([]:List (Addr × Obj)) from hp) (by simp),I.hok.kept old,?_⟩
 ·exact um5 (.inr (u53 B.nocell hx))
 ·rcases (f b hb).2.2.2.1 with z | z
  ·exact I.ok.noex b o e z
  ·exact absurd (Nat.lt_of_lt_of_le (Heap.lt_size e) (Nat.le_trans I.ok.bsz z)) (Nat.lt_irrefl _)
 ·have h2:(ix.map fun o=>o.bind fun j=>(σ[j]?).bind id)[i]?=some (some v):=h2
  rw [List.getElem?_map] at h2;cases ho:ix[i]? with
  | none=>rw [ho] at h2;cases h2
  | some o =>
   rw [ho] at h2;cases o with
   | none=>cases h2
   | some j =>
    have h2:(σ[j]?).bind id=some v:=Option.some.inj h2;have h2:σ[j]?=some (some v):=by
     cases hs:σ[j]? with
     | none=>rw [hs] at h2;cases h2
     | some w=>rw [hs] at h2;cases h2;rfl
    obtain ⟨hN,hf⟩:=B.at_ i j x h1 ho
    have hk:=B.frees (x,.free) (PySem.mem_of_lookup hf) rfl;obtain ⟨m,hn,hl⟩:=I.loc;obtain ⟨u,r,lk⟩:=hl j x v hN h2 (hk.elim (fun z=>.inr (.inl z)) fun z=>.inr (.inr z));refine ⟨u,r,.inr ?_⟩
    rcases lk with ⟨z,_⟩ | ⟨_,c,e,z⟩
    ·rcases hk with hk | hk
     ·exact absurd (hk.symm.trans z) (by decide)
     ·exact absurd (hk.symm.trans z) (by decide)
    ·obtain ⟨c',e'⟩:=um5 (env:=X.env) (cs:=[]) (.inr (PySem.mem_of_lookup hf))
     have ec:c'=c:=Option.some.inj ((hc x c' e').symm.trans e);subst ec;refine ⟨u52 hf hk,c',e',?_⟩;obtain ⟨o,ho,hd⟩:=z;exact ⟨o,old _ _ ho,hd⟩
 ·obtain ⟨v,o,ho,hd⟩:=I.cell x c (hc x c e)
  exact ⟨v,o,old _ _ ho,hd⟩
 ·show (inner ix σ).length=N'.length
  unfold inner;rw [List.length_map];exact B.len
theorem vc0 {elt tg iter:Expr} {ifs:List Expr} {scope:Scope} {pos:Pos} {N':List Str} {ix:List (Option Nat)} {g:TG} {tc:TT} {te:TE} {J:It} {fp:List Addr} {it:Addr} {tn:Nat->Heap->Prop} (B:BlkOk X N' ix scope)
  (hg:∀ C s H fp,PG (u44 X N' scope C s H fp) tg g) (hi:∀ C s H fp,PIfs (u44 X N' scope C s H fp) ifs tc) (he:∀ C s H fp,PE (u44 X N' scope C s H fp) elt te) (hc:X.calm=true)
  (I:Inv X pins σ H s) (T:Turn X.prog X.w X.K tg J fp it tn) (st:tn 0 s.heap) (f:∀ b ∈ fp,FpOk X pins H b) {Q:VK} {E:Value->Shared->Prop}
  (w:∃ W:Nat->Nat->St->Hp->Prop,(∃ m,W 0 m (inner ix σ) (upd H s.heap.objs.size (.lst []))) /\ ∀ i m σi H,W i m σi H ->
   (J.stop i H /\ Q (.ref s.heap.objs.size) H) \/ (J.go i H /\ ∃ N:St->Hp->Prop,(∀ σ' H',N σ' H'->∃ m',m' < m /\ W (i+1) m' σ' H') /\ ∀ x H',J.yld i H x H'->g x σi H' fun σ2 H2=>tc σ2 H2 fun b H3 =>
    if b=true then te σ2 H3 fun v H4=>∃ ys,H4 s.heap.objs.size=some (.lst ys) /\ ys.length < sizeLine /\ N σ2 (upd H4 s.heap.objs.size (.lst (ys++[v]))) else N σ2 H3))
  {RR:Value->Addr->Result->Shared->Prop} (hRR:∀ C H' s' m,Inv X pins σ H' s'->FpOk X pins H' C->s'.heap.Ns C m->Q (.ref s.heap.objs.size) H'->RR (.ref s.heap.objs.size) C (.ok .next) s') :
  wpAny (model X.prog X.w) X.A (newList []) (fun acc s₃=>wpAny (model X.prog X.w) X.A (newFunctionEnv scope X.env.globals (clOf X.env scope.names []) [] X.env.qual none .none (some X.env)) (fun cenv s₄ =>
   codeAny (model X.prog X.w) X.A (.compStart (.ListComp elt [⟨tg,iter,ifs,0⟩] scope pos) 0 (.ref it) acc { cenv with scope:=relabel scope X.env }) (RR acc cenv.locals) s₄) E s₃) E s:=by
 obtain ⟨W,⟨m0,w0⟩,turn⟩:=w;have flt:∀ b ∈ fp,b < s.heap.objs.size:=fun b hb=>by
  obtain ⟨o,ho,_⟩:=T.obj 0 _ st b hb;exact Heap.lt_size ho
 have I3:Inv X pins σ (upd H s.heap.objs.size (.lst [])) { s with heap:=s.heap.push { cls:=.type "list",data:=.seq ([]:List Value).toArray },toks:=s.toks }:=I.lnew .nil (Nat.zero_le _)
 have hfr:∀ b ∈ fp,(upd H s.heap.objs.size (.lst [])) b=none:=fun b hb=>by rw [u16 (Nat.ne_of_lt (flt b hb))];exact (f b hb).1
 have f3:∀ b ∈ fp,FpOk X pins (upd H s.heap.objs.size (.lst [])) b:=fun b hb=>⟨hfr b hb,(f b hb).2⟩
 refine wpAny_newObj_type (wpAny_newFunctionEnv B.nocell (by intro y hy;simp at hy) (fun h₁ hns₁ hsb₁=>?_) B.kind);dsimp only at hns₁ hsb₁ ⊢;generalize hH3:s.heap.push { cls:=.type "list",data:=.seq ([]:List Value).toArray }=h3 at hns₁ hsb₁ I3 ⊢;obtain ⟨s3,e3⟩:∃ s3:Shared,s3={ s with heap:=h3 }:=⟨_,rfl⟩
 obtain rfl:h3=s3.heap:=by rw [e3]
 have I3:Inv X pins σ (upd H s.heap.objs.size (.lst [])) s3:=by
  have e:s3={ s with heap:=s3.heap,toks:=s.toks }:=e3
  rw [e];exact I3
 have eT:s3.toks=s.toks:=by rw [e3]
 have eS:({ s with heap:=h₁,toks:=s.toks+([]:List (Str × Value)).length }:Shared)={ s3 with heap:=h₁,toks:=s3.toks+([]:List (Str × Value)).length }:=by rw [e3]
 rw [eS];have hz3:s3.heap.objs.size=s.heap.objs.size+1:=by rw [<- hH3];exact Heap.size_push _ _
 have old:∀ b o,s3.heap.get? b=some o->h₁.get? b=some o:=fun b o e=>hsb₁.extBut b o (Nat.ne_of_lt (Heap.lt_size e)) (Heap.get?_push_of_some _ e)
 have st3:tn 0 s3.heap:=T.keep _ _ _ st fun b hb o e=>by rw [<- hH3];exact Heap.get?_push_of_some _ e
 have st4:tn 0 h₁:=T.keep _ _ _ st3 fun b _ o e=>old b o e
 have I4:=I3.blk (tk:=s3.toks+([]:List (Str × Value)).length) B f3 (fun b hb=>Nat.lt_of_lt_of_le (flt b hb) (by rw [hz3];exact Nat.le_succ _)) (show h₁.Ns s3.heap.objs.size (fun _=>none) from hns₁) old;generalize hX':u44 X N' scope s3.heap.objs.size s3 (upd H s.heap.objs.size (.lst [])) fp=X' at I4;have eX:X'.prog=X.prog /\ X'.w=X.w /\ X'.K=X.K /\ X'.A=X.A /\ X'.calm=X.calm /\ X'.env=compEnvC scope (clOf X.env scope.names []) s3.heap.objs.size X.env /\ X'.ex=fp /\ X'.outer=X.stack /\ X'.s₀=s3 /\ X'.H₀=upd H s.heap.objs.size (.lst []) /\ X'.pn=[] /\ X'.xe=(fun _ _=>False):=by
  rw [<- hX'];exact ⟨rfl,rfl,rfl,rfl,rfl,rfl,rfl,rfl,rfl,rfl,rfl,rfl⟩
 have hg':PG X' tg g:=hX' ▸ hg _ _ _ _;have hi':PIfs X' ifs tc:=hX' ▸ hi _ _ _ _;have he':PE X' elt te:=hX' ▸ he _ _ _ _;obtain ⟨e1,e2,e3,e4,e5,e6,e7,e8,e9,e10,e11,e12⟩:=eX;have stat:∀ {H':Hp},(∀ b ∈ fp,H' b=none)->∀ b ∈ fp,FpOk X' [] H' b:=fun {H'} hn b hb=>by
  have q:=I4.ok.exf b (by rw [e7];exact hb);refine ⟨hn b hb,q.1,?_,.inl (by rw [e7];exact hb),q.2,fun p hp=>?_⟩
  ·exact I4.ok.exfs b (by rw [e7];exact hb)
  ·rw [e11] at hp;simp at hp
 have loop:codeAny (model X.prog X.w) X.A (.compLoop (.ListComp elt [⟨tg,iter,ifs,0⟩] scope pos) 0 (.ref it) (.ref s.heap.objs.size) (compEnvC scope (clOf X.env scope.names []) s3.heap.objs.size X.env))
   (RR (.ref s.heap.objs.size) s3.heap.objs.size) { s3 with heap:=h₁,toks:=s3.toks+([]:List (Str × Value)).length }:=by
  refine w13 (fun n s'=>∃ i σi Hi,Inv X' [] σi Hi s' /\ tn i s'.heap /\ (∀ b ∈ fp,Hi b=none) /\ W i n σi Hi) ?_ m0 ⟨0,_,_,I4,st4,hfr,w0⟩;rintro n s5 ⟨i,σ5,H5,I5,st5,fr5,w5⟩
  rcases turn i n σ5 H5 w5 with ⟨stop,qn⟩ | ⟨go,N,hN,step⟩
  ·have d:=T.done X' e1 e2 e3 (by rw [e5];exact hc) i [] s5 σ5 H5 (fun _ _=>False) I5 (stat fr5) st5 stop
   rw [e4] at d
   (refine thn d ?_;rintro r s6 ⟨hr,I6⟩)
   subst hr;have u:=I6.base;rw [e7,e9,e10] at u;have u:Un (frs X'.outer) fp (upd H s.heap.objs.size (.lst [])) H5 s3.heap s6.heap:=u;rw [e8] at u;have ok6:=I6.hok;rw [e1,e2] at ok6;have I7:Inv X pins σ H5 s6:=I3.call' (ch:=fp) (by have:=I6.os;rw [e9] at this;exact this) u ok6 I6.bare fun b hb=>⟨(f b hb).2.2.2.1,(f b hb).2.1,(f b hb).2.2.2.2.1,(f b hb).2.2.2.2.2⟩
   have hfree:=I6.free;obtain ⟨m,hm,_⟩:=I6.loc;rw [e6] at hfree hm;exact hRR _ H5 s6 m I7 (I3.fpOk (Nat.le_refl _) hfree) hm qn
  ·have d:=T.item X' e1 e2 e3 (by rw [e5];exact hc) i [] s5 σ5 H5 (fun _ _=>False) I5 (stat fr5) st5 go
   rw [e4] at d
   (refine thn d ?_;rintro r s6 ⟨u,hr,h6⟩)
   subst hr
   (refine thn h6 ?_;rintro _ s7 ⟨x,H7,I7,r7,y7,st7,fr7⟩)
   have I7':=I7.pinned (stat fr7) (T.obj _ _ st7);have a:=hg' _ s7 σ5 H7 x u _ I7' r7 (step x H7 y7);rw [e1,e2,e4,e6,e12] at a
   (refine thn a ?_;rintro _ s8 ⟨σ8,H8,I8,q8⟩)
   have t:=hi' _ s8 σ8 H8 _ I8 q8;rw [e1,e2,e4,e6,e12] at t;have again:∀ {σ9:St} {H9:Hp} {s9:Shared},Inv X' ([]++uo0 fp s7.heap) σ9 H9 s9->N σ9 H9->∃ m,m < n /\ ∃ i σi Hi,Inv X' [] σi Hi s9 /\ tn i s9.heap /\ (∀ b ∈ fp,Hi b=none) /\ W i m σi Hi:=fun {σ9 H9 s9} I9 n9=>by
    obtain ⟨m',hm,w9⟩:=hN σ9 H9 n9;refine ⟨m',hm,i+1,σ9,H9,I9.unpinned,T.keep _ _ _ st7 fun b hb o e=>(I9.pin (b,o) (List.mem_append_right _ (List.mem_append_right _ (u89 hb e)))).1,fun b hb=>?_,w9⟩;obtain ⟨o,e,d⟩:=T.obj _ _ st7 b hb;exact (I9.pin (b,o) (List.mem_append_right _ (List.mem_append_right _ (u89 hb e)))).2.1
   (refine thn t ?_;rintro ok s9 ⟨H9,I9,q9⟩)
   cases ok with
   | false =>
    rw [if_neg Bool.false_ne_true] at q9 ⊢;exact again I9 q9
   | true =>
    rw [if_pos rfl] at q9 ⊢;have v:=he' _ s9 σ8 H9 _ I9 q9;rw [e1,e2,e4,e6,e12] at v
    (refine thn v ?_;rintro y s10 ⟨z,H10,I10,r10,ys,hD,hz,q10⟩)
    have ap:=uo2 _ s10 σ8 H10 (.ref s.heap.objs.size) [z] (.ref s.heap.objs.size) [y] (fun _ H'=>N σ8 H') I10 rfl (.cons r10 .nil) ⟨_,ys,z,rfl,rfl,hD,hz,q10⟩;rw [e1,e2,e4,e12] at ap
    (refine thn ap ?_;rintro _ s11 ⟨_,H11,I11,_,q11⟩;exact again I11 q11)
 exact codeAny_compStart_list loop (T.self _ _ _ _ _ st4 loop)
variable {elt tg iter:Expr} {ifs:List Expr} {scope:Scope} {pos:Pos} {N':List Str} {ix:List (Option Nat)} {wi:TI} {g:TG} {tc:TT} {te:TE}
theorem vy8 (B:BlkOk X N' ix scope) (hc:X.calm=true) (hw:PI X tg iter wi)
  (hg:∀ C s H fp,PG (u44 X N' scope C s H fp) tg g) (hi:∀ C s H fp,PIfs (u44 X N' scope C s H fp) ifs tc) (he:∀ C s H fp,PE (u44 X N' scope C s H fp) elt te)
  (hs:∀ x,foldedSetIterable iter X.env x=pure x:=by intro _;rfl) :
  PE X (.ListComp elt [⟨tg,iter,ifs,0⟩] scope pos) (vs1 ix wi g tc te):=by
 intro pins s σ H Q I h;rw [eval_ListComp];refine wpAny_comprehension_free (use:=none) rfl hs (uk0 fun y hy e=>I.ok.has y.1 (B.frees y hy e)) B.kind B.names ?_;refine thn (hw pins s σ H _ I h) fun v s1 h1=>thn h1 fun itv s2 h2=>?_
 obtain ⟨it,fp,tn,J,H2,e,I2,T,st2,f2,q2⟩:=h2;subst e;refine vc0 B hg hi he hc I2 T st2 f2 (Q:=Q) (q2 _ I2.fresh) fun C H' s' m I' fC hm q=>?_
 refine ⟨m,hm,fun h' sb=>⟨.ref s2.heap.objs.size,H',?_,rfl,q⟩⟩;exact I'.turned (t':=s'.toks) (it:=C) (fun b o hb e=>sb.extBut b o hb e) fC.1 fC.2.1 fC.2.2.2.1 fC.2.2.2.2.1 fC.2.2.2.2.2
def wo4 (i:Nat) (t:TE):TS:=fun D σ H=>t σ H fun x H1=>D.nx (σ.set i (some x)) H1
theorem vx6 {i:Nat} {y:Str} {py spos:Pos} (B:BlkOk X N' ix scope) (hc:X.calm=true) (hN:X.N.Nodup) (hy:X.N[i]?=some y) (hl:Loc X.env.scope y) (hw:PI X tg iter wi)
  (hg:∀ C s H fp,PG (u44 X N' scope C s H fp) tg g) (hi:∀ C s H fp,PIfs (u44 X N' scope C s H fp) ifs tc) (he:∀ C s H fp,PE (u44 X N' scope C s H fp) elt te)
  (hsw:swapsWith (.ListComp elt [⟨tg,iter,ifs,0⟩] scope pos) (some (.Name y py)) spos.line X.env=pure true:=by rfl)
  (hf:X.fn y=true \/ X.env.scope.names.lookup y=some .local:=by first | exact .inl rfl | exact .inr rfl | assumption)
  (hs:∀ x,foldedSetIterable iter X.env x=pure x:=by intro _;rfl) :
  PS X (.Assign [.Name y py] (.ListComp elt [⟨tg,iter,ifs,0⟩] scope pos) spos) (wo4 i (vs1 ix wi g tc te)):=by
 intro pins s σ H D I h;rw [exec_Assign_Name_used _ _ _ _ hsw];refine wpAny_bind (wpAny_standAt (wpAny_bind ?_))
 show wpAny _ X.A (do let _ <- comprehension (.ListComp elt [⟨tg,iter,ifs,0⟩] scope pos) scope X.env _ (newList []) false (eval iter X.env) (some (assign (.Name y py) X.env))) _ _ s
 refine wpAny_bind (wpAny_mono (wpAny_comprehension_free (use:=some (assign (.Name y py) X.env)) (Q:=fun _ s'=>SP X pins D .next s') rfl hs (uk0 fun y hy e=>I.ok.has y.1 (B.frees y hy e)) B.kind B.names
  (thn (hw pins s σ H _ I h) fun v s1 h1=>thn h1 fun itv s2 h2=>?_)) (fun _ s' hq=>wpAny_pure (wpAny_pure hq)) fun _ _ e=>e)
 obtain ⟨it,fp,tn,J,H2,e,I2,T,st2,f2,q2⟩:=h2;subst e;refine vc0 B hg hi he hc I2 T st2 f2 (Q:=fun x H1=>D.nx (σ.set i (some x)) H1) (q2 _ I2.fresh) fun C H' s' m I' fC hm q=>?_
 show wpAny _ _ (assign (.Name y py) X.env (.ref s2.heap.objs.size)) _ _ _
 (refine wpAny_assign_Name (un1 I' hN hy hl (v:=.ref s2.heap.objs.size) rfl (?_) hf);rintro s'' I'' ⟨a,hsame,ha⟩)
 have hCa:C ≠ a:=by
  rcases ha with z | z
  ·rw [z];exact fC.2.1
  ·intro e;exact fC.2.2.2.2.1 _ _ z e.symm
 refine ⟨m,hm.sameBut hsame hCa,fun h' sb=>⟨_,H',?_,q⟩⟩;exact I''.turned (t':=s''.toks) (it:=C) (fun b o hb e=>sb.extBut b o hb e) fC.1 fC.2.1 fC.2.2.2.1 fC.2.2.2.2.1 fC.2.2.2.2.2
end
section
variable {X:Cx} {pos:Pos}
def gLst (K:W.Frag) (n:Nat) (t:TGs):TG:=fun v σ H Q=>∃ a xs,v=.ref a /\ SqL K H a xs /\ xs.length=n /\ t xs σ H Q
theorem vy4 {es:List Expr} {k:Nat} {t:TGs} {n:Nat} (hc:X.calm=true) (h:PGs X es t)
  (hn:(assignEach es X.env).length=n:=by rfl) (hst:(assignEach es X.env).findIdx? (·.1)=none:=by rfl):PG X (.Tuple es k pos) (gLst X.K n t):=by
 intro pins s σ H v u Q I r hw;obtain ⟨a,xs,e1,hq,hl,hw⟩:=hw;subst e1;cases r;obtain ⟨its,rv,ht,hz⟩:=I.list hq;rw [PyProof.Rows.assign_Tuple];refine wpAny_bind (wpAny_standAt ?_);unfold unpack;have hsz:(assignEach es X.env).length=its.toArray.size:=by simp [hn,<- hl,rv.length]
 rw [hsz,hst];refine wpAny_bind (wpAny_holding (W.kun_itemsOf (I.ok.hd hc) ht.isList fun h' hx=>?_));have I1:Inv X pins σ H { s with heap:=h' }:=I.kept (t':=s.toks) fun b o e=>hx b o (Nat.ne_of_lt (Heap.lt_size e)) e
 exact h pins _ σ H xs _ Q I1 (by simpa using rv) hw
theorem wp1 {tg:Expr} {t t':TG} (h:PG X tg t) (h':PG X tg t'):PG X tg (fun v σ H Q=>t v σ H Q \/ t' v σ H Q):=by
 intro pins s σ H v u Q I r q
 rcases q with q | q
 ·exact h pins s σ H v u Q I r q
 ·exact h' pins s σ H v u Q I r q
def iSeq (K:W.Frag) (tl:TE):TI:=fun σ H R=>tl σ H fun x H1=>∃ a,x=.ref a /\ (((∃ xs,SqL K H1 a xs) /\ R (Itl K a) H1) \/ ((∃ xs,SqT K H1 a xs) /\ R (Itt K a) H1))
theorem wb9 {tg l:Expr} {tl:TE} (hl:PE X l tl):PI X tg l (iSeq X.K tl):=by
 intro pins s σ H R I h
 (refine thn (hl pins s σ H _ I h) ?_;rintro v s1 ⟨x,H1,I1,r1,q1⟩)
 obtain ⟨a,e,⟨⟨xs,hq⟩,q⟩ | ⟨⟨xs,hq⟩,q⟩⟩:=q1
 ·subst e
  cases r1;obtain ⟨its,rv,p,hz⟩:=I1.list hq;refine wpAny_pyIter_list p.isList ?_;refine ⟨s1.heap.objs.size,[s1.heap.objs.size],_,_,H1,rfl,I1.kept (t':=s1.toks) fun b o e=>Heap.get?_push_of_some _ e,v17 a _,⟨_,Heap.get?_push_size _ rfl,rfl,rfl⟩,fun b hb=>?_,q⟩;have e:b=s1.heap.objs.size:=by simpa using hb
  subst e;exact I1.fpOk (Nat.le_refl _) (I1.hok.fresh (Nat.le_refl _))
 ·subst e
  cases r1;obtain ⟨its,rv,p,hz⟩:=I1.tuple hq;refine wpAny_pyIter_tuple (show s1.heap.IsTuple a its.toArray from p) ?_;refine ⟨s1.heap.objs.size,[s1.heap.objs.size],_,_,H1,rfl,I1.kept (t':=s1.toks) fun b o e=>Heap.get?_push_of_some _ e,ux9 a _,⟨_,Heap.get?_push_size _ rfl,rfl,rfl⟩,fun b hb=>?_,q⟩;have e:b=s1.heap.objs.size:=by simpa using hb
  subst e;exact I1.fpOk (Nat.le_refl _) (I1.hok.fresh (Nat.le_refl _))
theorem wd8:OpR X (compareOp .Is) (fun x y H Q=>∃ b,y=.bl b /\ Q (.bl (decide (x=.bl b))) H):=by
 intro pins s σ H x y v u Q I rx ry h;obtain ⟨b,rfl,q⟩:=h;cases ry;refine wpAny_is_plain ?_ (u22 I q ?_)
 ·cases x <;> first
   | (cases rx;rfl)
   | (obtain ⟨t,rfl⟩:=rx;rfl)
 ·cases x <;> first
   | (obtain ⟨t,rfl⟩:=rx;rfl)
   | (cases rx;cases b <;> rfl)
   | (cases rx;rename_i c;cases b <;> cases c <;> rfl)
theorem uj1:∀ {bs:List Bool} {us:List Value},Vals (bs.map V.bl) us->us=bs.map Value.bool
 | [],_,.nil=>rfl
 | b::bs,_,.cons r t=>by cases r;rw [uj1 t];rfl
theorem vk5 (hc:X.calm=true):CallR X (.builtin "all") (fun xs H Q=>∃ (p:Addr) (bs:List Bool),xs=[.ref p] /\ SqL X.K H p (bs.map V.bl) /\ Q (.bl (bs.all id)) H):=by
 intro pins s σ H xs us Q I r h;obtain ⟨p,bs,rfl,hq,q⟩:=h;obtain ⟨u,rfl,rx⟩:=vals1 r;cases rx;obtain ⟨its,r',pl,hz⟩:=I.list hq;have e:=uj1 r';subst e;have hl:=pl.isList;have hlt:p < s.heap.objs.size:=by obtain ⟨_,e,_⟩:=hl;exact Heap.lt_size e
 refine call_all_walk (wpAny_pyIter_list hl ?_);refine ⟨s.heap.objs.size,[s.heap.objs.size,p],[s.heap.objs.size],(bs.map Value.bool).toArray.size,_,_,fun i=>(bs[i]?).getD true,rfl,Walks.list (A:=X.A.in1) (I.ok.hd hc) _ p (Nat.ne_of_lt hlt) (bs.map Value.bool).toArray,
  ⟨⟨_,Heap.get?_push_size _ rfl,rfl,rfl⟩,hl.push _⟩,fun i v s' Q' E' hP hQ=>?_,fun h' tk hk=>?_⟩
 ·have hP:(bs.map Value.bool)[i]?=some v:=by simpa using hP
  rw [List.getElem?_map] at hP;cases hb:bs[i]? with
  | none=>rw [hb] at hP;cases hP
  | some b =>
   rw [hb] at hP;cases hP;simp only [hb,Option.getD_some] at hQ;exact wpAny_truthy_bool hQ
 ·have e:((List.range (bs.map Value.bool).toArray.size).all fun i=>(bs[i]?).getD true)=bs.all id:=by
   rw [List.size_toArray,List.length_map,Bool.eq_iff_iff,List.all_eq_true,List.all_eq_true]
   constructor
   ·intro h b hb
    obtain ⟨i,hi,e⟩:=List.mem_iff_getElem.mp hb;have:=h i (List.mem_range.mpr hi);rw [List.getElem?_eq_getElem hi,e] at this;exact this
   ·intro h i hi
    have hi:=List.mem_range.mp hi;rw [List.getElem?_eq_getElem hi];exact h _ (List.getElem_mem hi)
  rw [e];refine ⟨.bl _,H,?_,rfl,q⟩;exact I.kept fun b x e=>hk b x (fun hm=>by rw [List.mem_singleton.mp hm] at e;exact Nat.lt_irrefl _ (Heap.lt_size e)) (Heap.get?_push_of_some _ e)
theorem vk4 (hc:X.calm=true):CallR X (.builtin "sum") (fun xs H Q=>∃ (p:Addr) (ns:List Int),xs=[.ref p] /\ SqL X.K H p (ns.map V.int) /\ Q (.int ns.sum) H):=by
 intro pins s σ H xs us Q I r h;obtain ⟨p,ns,rfl,hq,q⟩:=h;obtain ⟨u,rfl,rx⟩:=vals1 r;cases rx;obtain ⟨its,r',pl,hz⟩:=I.list hq;obtain ⟨m,F⟩:=I.fr;have hi:IntsAre its ns:=intsAre_of r';obtain ⟨ys,hx⟩:=hi.allInts.items;have hl':s.heap.IsList p (intItems ys):=hx ▸ pl.isList;refine sum_intListG (I.ok.hd hc) hl' fun h' tk t' hk=>?_
 have e1:ns=ys.toList.map (·.1):=by
  rw [<- nums_intItems,<- hx];exact (show numsOf its.toArray.toList=ns from hi.numsOf).symm
 have e2:preSum (numAt ys) ys.size=ns.sum:=by
  rw [preSum_eq,List.take_of_length_le (by simp),e1]
 rw [e2];exact ⟨.int ns.sum,H,I.kept hk,⟨_,rfl⟩,q⟩
def w17 (K:W.Frag) (H:Hp):V->String->Prop
 | .non,n=>n = "NoneType"
 | .bl _,n=>n = "bool"
 | .int _,n=>n = "int"
 | .str _,n=>n = "str"
 | .ref a,n=>(n = "list" /\ ((∃ xs,H a=some (.lst xs)) \/ ∃ o xs,H a=some (.frz o (.lst xs)))) \/ (n = "tuple" /\ ∃ xs,H a=some (.tup xs)) \/ (n = "dict" /\ ∃ xs,H a=some (.dK xs))
 | _,_=>False
def subK (n T:String):Bool:=n == T || (n == "bool" && T == "int")
theorem u82 {K:W.Frag} {n T:String} (hn:n = "NoneType" \/ n = "bool" \/ n = "int" \/ n = "str" \/ n = "list" \/ n = "tuple" \/ n = "dict") (hT:T = "int" \/ T = "str" \/ T = "bool" \/ T = "list" \/ T = "tuple" \/ T = "dict"):W.kitOne K (.type n) (.type T)=some (subK n T):=by
 rcases hn with rfl | rfl | rfl | rfl | rfl | rfl | rfl <;> rcases hT with rfl | rfl | rfl | rfl | rfl | rfl <;> rfl
theorem ut0:CallR X (.builtin "isinstance") (fun xs H Q=>∃ x n T,xs=[x,.ty T] /\ w17 X.K H x n /\ (T = "int" \/ T = "str" \/ T = "bool" \/ T = "list" \/ T = "tuple" \/ T = "dict") /\ Q (.bl (subK n T)) H):=by
 intro pins s σ H xs us Q I r h;obtain ⟨x,n,T,rfl,hk,hT,q⟩:=h;obtain ⟨u,w,rfl,rx,rt⟩:=vals2 r;cases rt;have fin:∀ tk,EP X pins σ Q (.bool (subK n T)) { s with toks:=tk }:=fun tk=>⟨.bl (subK n T),H,I.tok tk,rfl,q⟩
 cases x with
 | non=>cases (show n = "NoneType" from hk);exact u43 I rx .non (u82 (by simp) hT) fin
 | bl b=>cases (show n = "bool" from hk);exact u43 I rx (.bl b) (u82 (by simp) hT) fin
 | int i=>cases (show n = "int" from hk);exact u43 I rx (.int i) (u82 (by simp) hT) fin
 | str i=>cases (show n = "str" from hk);exact u43 I rx (.str i) (u82 (by simp) hT) fin
 | ref a =>
  rcases (show (n = "list" /\ ((∃ xs,H a=some (.lst xs)) \/ ∃ o xs,H a=some (.frz o (.lst xs)))) \/ (n = "tuple" /\ ∃ xs,H a=some (.tup xs)) \/ (n = "dict" /\ ∃ xs,H a=some (.dK xs)) from hk) with ⟨e,⟨xs,h1⟩ | ⟨o,xs,h1⟩⟩ | ⟨e,xs,h1⟩ | ⟨e,xs,h1⟩
  ·cases e;exact u43 I rx (.lst h1) (u82 (by simp) hT) fin
  ·cases e;exact u43 I rx (.frz h1) (u82 (by simp) hT) fin
  ·cases e;exact u43 I rx (.tup h1) (u82 (by simp) hT) fin
  ·cases e;exact u43 I rx (.dK h1) (u82 (by simp) hT) fin
 | _=>exact (show False from hk).elim
end
end L2
namespace L2
open PySem
def XH (a C:Addr) (dx:Option Addr) (h:Heap):Prop:=∃ o vs,h.get? a=some o /\ o.cls=.ref C /\ o.dict=dx /\ o.data=.fields vs
def XDict (H:Hp):Option Addr->List (Str × V)->Prop
 | none,ys=>ys=[]
 | some d,ys=>∃ o,H d=some (.frz o (.xd ys))
end L2
namespace L3
open PySem L2
inductive D where
 | non | bl (b:Bool) | int (i:Int) | str (x:Str) | tup (xs:List D) | ref (a:Addr) | ty (n:String)
inductive DO where
 | lst (xs:List D) | fro (xs:List D) | dic (kvs:List (Key × D)) | dit (kvs:List (List Key × D)) | ins (C:Addr) (fs:List (Str × D)) | exc (C:Addr) (fs:List (Str × D)) | frd (o:Obj) (kvs:List (Key × D)) | tb (qn:Str) (bm:Addr)
abbrev Gp:=Addr->Option DO
def gup (G:Gp) (a:Addr) (o:DO):Gp:=fun b=>if b=a then some o else G b
theorem u01 {G:Gp} {a:Addr} {o:DO}:gup G a o a=some o:=by unfold gup;rw [if_pos rfl]
theorem u07 {G:Gp} {a b:Addr} {o:DO} (h:b ≠ a):gup G a o b=G b:=by unfold gup;rw [if_neg h]
theorem u54 {G:Gp} {a:Addr} {o u:DO}:gup (gup G a o) a u=gup G a u:=by
 funext b;unfold gup;split <;> rfl
theorem gne {G:Gp} {a b:Addr} {o:DO} (h:G a=some o) (h':G b=none):a ≠ b:=by
 intro e;subst e;rw [h] at h';cases h'
theorem gne' {G:Gp} {a b:Addr} {o:DO} (h':G b=none) (h:G a=some o):b ≠ a:=Ne.symm (gne h h')
structure Le (H H':Hp):Prop where
 tups:∀ b xs,H b=some (.tup xs)->H' b=some (.tup xs)
 frzs:∀ b o (u:NK),H b=some (.frz o u.1)->H' b=some (.frz o u.1)
theorem Le.refl (H:Hp):Le H H:=⟨fun _ _ h=>h,fun _ _ _ h=>h⟩
theorem Le.trans {H H1 H2:Hp} (a:Le H H1) (b:Le H1 H2):Le H H2:=⟨fun c xs h=>b.tups c xs (a.tups c xs h),fun c o u h=>b.frzs c o u (a.frzs c o u h)⟩
theorem Le.sqT {K:W.Frag} {H H':Hp} (l:Le H H') {a:Addr} {xs:List V} (h:SqT K H a xs):SqT K H' a xs:=by
 rcases h with (h | ⟨o,h⟩) | h
 ·exact .inl (.inl (l.tups _ _ h))
 ·exact .inl (.inr ⟨o,l.frzs _ _ ⟨_,by intro _ e;cases e⟩ h⟩)
 ·exact .inr h
theorem Le.fresh {H:Hp} {p:Addr} {o:HO} (h:H p=none):Le H (upd H p o) :=
 ⟨fun b xs q=>by rw [u16 (u39 q h)];exact q,fun b o u q=>by rw [u16 (u39 q h)];exact q⟩
mutual
def RelD (K:W.Frag) (H:Hp):D->V->Prop
 | .non,v=>v=.non
 | .bl b,v=>v=.bl b
 | .int i,v=>v=.int i
 | .str x,v=>v=.str x
 | .ref a,v=>v=.ref a
 | .ty n,v=>v=.ty n
 | .tup ds,v=>∃ a xs,v=.ref a /\ SqT K H a xs /\ RelDs K H ds xs
def RelDs (K:W.Frag) (H:Hp):List D->List V->Prop
 | [],xs=>xs=[]
 | d::ds,xs=>∃ x r,xs=x::r /\ RelD K H d x /\ RelDs K H ds r
end
section
variable {K:W.Frag} {H H':Hp}
mutual
theorem RelD.le (l:Le H H'):∀ {d:D} {v:V},RelD K H d v->RelD K H' d v
 | .non,_,h=>by simpa [RelD] using h
 | .bl _,_,h=>by simpa [RelD] using h
 | .int _,_,h=>by simpa [RelD] using h
 | .str _,_,h=>by simpa [RelD] using h
 | .ref _,_,h=>by simpa [RelD] using h
 | .ty _,_,h=>by simpa [RelD] using h
 | .tup ds,_,h=>by
  rw [RelD] at h ⊢;obtain ⟨a,xs,e,s,r⟩:=h;exact ⟨a,xs,e,l.sqT s,RelDs.le l r⟩
theorem RelDs.le (l:Le H H'):∀ {ds:List D} {xs:List V},RelDs K H ds xs->RelDs K H' ds xs
 | [],_,h=>by simpa [RelDs] using h
 | d::ds,_,h=>by
  rw [RelDs] at h ⊢;obtain ⟨x,r,e,h1,h2⟩:=h;exact ⟨x,r,e,RelD.le l h1,RelDs.le l h2⟩
end
theorem RelDs.nil:RelDs K H [] []:=by rw [RelDs]
theorem RelDs.cons {d:D} {ds:List D} {x:V} {xs:List V} (h:RelD K H d x) (t:RelDs K H ds xs):RelDs K H (d::ds) (x::xs):=by
 rw [RelDs];exact ⟨x,xs,rfl,h,t⟩
theorem RelDs.inv_nil {xs:List V} (h:RelDs K H [] xs):xs=[]:=by rw [RelDs] at h;exact h
theorem RelDs.inv_cons {d:D} {ds:List D} {xs:List V} (h:RelDs K H (d::ds) xs):∃ x r,xs=x::r /\ RelD K H d x /\ RelDs K H ds r:=by rw [RelDs] at h;exact h
theorem RelDs.length:∀ {ds:List D} {xs:List V},RelDs K H ds xs->ds.length=xs.length
 | [],_,h=>by rw [h.inv_nil];rfl
 | _::_,_,h=>by obtain ⟨x,r,e,_,t⟩:=h.inv_cons;rw [e,List.length_cons,List.length_cons,t.length]
theorem RelDs.get:∀ {ds:List D} {xs:List V} {i:Nat} {d:D},RelDs K H ds xs->ds[i]?=some d->∃ x,xs[i]?=some x /\ RelD K H d x
 | [],_,_,_,_,e=>by simp at e
 | _::_,_,0,_,h,e=>by
  obtain ⟨x,r,rfl,h1,t⟩:=h.inv_cons;simp at e;subst e;exact ⟨x,rfl,h1⟩
 | _::_,_,i+1,d,h,e=>by
  obtain ⟨x,r,rfl,h1,t⟩:=h.inv_cons;obtain ⟨y,h2,h3⟩:=RelDs.get (i:=i) t (by simpa using e);exact ⟨y,by simpa using h2,h3⟩
theorem RelDs.of:∀ {ds:List D} {xs:List V},ds.length=xs.length->(∀ (i:Nat) d x,ds[i]?=some d->xs[i]?=some x->RelD K H d x)->RelDs K H ds xs
 | [],[],_,_=>.nil
 | [],_::_,h,_=>by simp at h
 | _::_,[],h,_=>by simp at h
 | d::ds,x::xs,h,f=>.cons (f 0 d x rfl rfl) (RelDs.of (by simpa using h) fun i d x a b=>f (i+1) d x (by simpa using a) (by simpa using b))
theorem RelDs.append:∀ {ds es:List D} {xs ys:List V},RelDs K H ds xs->RelDs K H es ys->RelDs K H (ds++es) (xs++ys)
 | [],_,_,_,h,t=>by rw [h.inv_nil];exact t
 | _::_,_,_,_,h,t=>by
  obtain ⟨x,r,rfl,h1,h2⟩:=h.inv_cons;exact .cons h1 (h2.append t)
theorem RelDs.set {d:D} {x:V} (q:RelD K H d x):∀ {ds:List D} {xs:List V} (i:Nat),RelDs K H ds xs->RelDs K H (ds.set i d) (xs.set i x)
 | [],_,_,h=>by rw [h.inv_nil];exact .nil
 | _::_,_,0,h=>by
  obtain ⟨x,r,rfl,h1,h2⟩:=h.inv_cons;exact .cons q h2
 | _::_,_,i+1,h=>by
  obtain ⟨x,r,rfl,h1,h2⟩:=h.inv_cons;exact .cons h1 (h2.set q i)
theorem RelDs.take:∀ {ds:List D} {xs:List V} (n:Nat),RelDs K H ds xs->RelDs K H (ds.take n) (xs.take n)
 | _,_,0,_=>by simpa using RelDs.nil
 | [],_,_+1,h=>by rw [h.inv_nil];exact .nil
 | _::_,_,n+1,h=>by
  obtain ⟨x,r,rfl,h1,h2⟩:=h.inv_cons;exact .cons h1 (h2.take n)
theorem RelDs.drop:∀ {ds:List D} {xs:List V} (n:Nat),RelDs K H ds xs->RelDs K H (ds.drop n) (xs.drop n)
 | _,_,0,h=>by simpa using h
 | [],_,_+1,h=>by rw [h.inv_nil];exact .nil
 | _::_,_,n+1,h=>by
  obtain ⟨x,r,rfl,h1,h2⟩:=h.inv_cons;exact h2.drop n
theorem RelDs.eraseIdx:∀ {ds:List D} {xs:List V} (n:Nat),RelDs K H ds xs->RelDs K H (ds.eraseIdx n) (xs.eraseIdx n)
 | [],_,_,h=>by rw [h.inv_nil];exact .nil
 | _::_,_,0,h=>by
  obtain ⟨x,r,rfl,h1,h2⟩:=h.inv_cons;exact h2
 | _::_,_,n+1,h=>by
  obtain ⟨x,r,rfl,h1,h2⟩:=h.inv_cons;exact .cons h1 (h2.eraseIdx n)
theorem RelDs.reverse:∀ {ds:List D} {xs:List V},RelDs K H ds xs->RelDs K H ds.reverse xs.reverse
 | [],_,h=>by rw [h.inv_nil];exact .nil
 | _::_,_,h=>by
  obtain ⟨x,r,rfl,h1,h2⟩:=h.inv_cons;rw [List.reverse_cons,List.reverse_cons];exact h2.reverse.append (.cons h1 .nil)
theorem RelDs.dropLast {ds:List D} {xs:List V} (h:RelDs K H ds xs):RelDs K H ds.dropLast xs.dropLast:=by
 rw [List.dropLast_eq_take,List.dropLast_eq_take,h.length];exact h.take _
theorem RelDs.rep {ds:List D} {xs:List V} (h:RelDs K H ds xs):∀ k:Nat,RelDs K H (List.replicate k ds).flatten (List.replicate k xs).flatten
 | 0=>.nil
 | k+1=>by rw [List.replicate_succ,List.replicate_succ,List.flatten_cons,List.flatten_cons];exact h.append (h.rep k)
def RelPs {κ:Type} (K:W.Frag) (H:Hp) (ps:List (κ × D)) (qs:List (κ × V)):Prop:=ps.map (·.1)=qs.map (·.1) /\ RelDs K H (ps.map (·.2)) (qs.map (·.2))
theorem RelPs.le {κ:Type} (l:Le H H') {ps:List (κ × D)} {qs:List (κ × V)} (h:RelPs K H ps qs):RelPs K H' ps qs:=⟨h.1,RelDs.le l h.2⟩
end
def TbOk (H:Hp) (qn:Str) (ps:Array Value):Prop:=TriplesOk ps.toList /\ ∀ pos cv,codeAmong pos ps.toList=some cv->∃ (c:Addr) (o:Obj) (vs:Array Value) (t:Tok),cv=.ref c /\ o.data=.fields vs /\ vs[1]?=some (.str qn t) /\ H c=some (.frz o (.ext fun h=>h.get? c=some o))
def BmOk (H:Hp) (bm:Addr):Prop:=∃ o:Obj,H bm=some (.frz o (.ext fun h=>h.get? bm=some o)) /\ o.cls=.type "module" /\ o.dict=some builtinsNs /\ o.data=.plain
def ObjD (K:W.Frag) (H:Hp) (a:Addr):DO->Prop
 | .lst ds=>∃ xs,H a=some (.lst xs) /\ RelDs K H ds xs
 | .fro ds=>∃ o xs,H a=some (.frz o (.lst xs)) /\ RelDs K H ds xs
 | .dic kvs=>∃ ys,H a=some (.dK ys) /\ RelPs K H kvs ys
 | .dit kvs=>∃ ys,H a=some (.dT ys) /\ RelPs K H kvs ys
 | .ins C fs=>∃ dx ys,H a=some (.ins C dx ys) /\ RelPs K H fs ys
 | .exc C fs=>∃ dx ys,H a=some (.ext (XH a C dx)) /\ XDict H dx ys /\ RelPs K H fs ys
 | .frd o kvs=>∃ ys,H a=some (.frz o (.dK ys)) /\ RelPs K H kvs ys
 | .tb qn bm=>∃ ps,H a=some (.tbl ps) /\ TbOk H qn ps /\ BmOk H bm
theorem _root_.L2.XDict.le {H H':Hp} (l:Le H H') {dx:Option Addr} {ys:List (Str × V)} (h:XDict H dx ys):XDict H' dx ys:=by
 cases dx with
 | none=>exact h
 | some d=>obtain ⟨o,e⟩:=h;exact ⟨o,l.frzs _ _ ⟨_,by intro _ e;cases e⟩ e⟩
def Con (K:W.Frag) (G:Gp) (H:Hp):Prop:=∀ a o,G a=some o->ObjD K H a o
section
variable {K:W.Frag} {G:Gp} {H H':Hp} {a p:Addr} {o:DO}
theorem ObjD.some (h:ObjD K H a o):∃ u,H a=some u:=by
 cases o with
 | lst ds=>obtain ⟨xs,e,_⟩:=h;exact ⟨_,e⟩
 | fro ds=>obtain ⟨_,xs,e,_⟩:=h;exact ⟨_,e⟩
 | dic ds=>obtain ⟨xs,e,_⟩:=h;exact ⟨_,e⟩
 | dit ds=>obtain ⟨xs,e,_⟩:=h;exact ⟨_,e⟩
 | ins C ds=>obtain ⟨_,xs,e,_⟩:=h;exact ⟨_,e⟩
 | exc C ds=>obtain ⟨_,xs,e,_⟩:=h;exact ⟨_,e⟩
 | frd o ds=>obtain ⟨xs,e,_⟩:=h;exact ⟨_,e⟩
 | tb qn bm=>obtain ⟨_,e,_⟩:=h;exact ⟨_,e⟩
theorem ObjD.stay (h:ObjD K H a o) (l:Le H H') (e:H' a=H a):ObjD K H' a o:=by
 cases o with
 | lst ds=>obtain ⟨xs,q,r⟩:=h;exact ⟨xs,e.trans q,RelDs.le l r⟩
 | fro ds=>obtain ⟨o,xs,q,r⟩:=h;exact ⟨o,xs,e.trans q,RelDs.le l r⟩
 | dic ds=>obtain ⟨xs,q,r⟩:=h;exact ⟨xs,e.trans q,r.le l⟩
 | dit ds=>obtain ⟨xs,q,r⟩:=h;exact ⟨xs,e.trans q,r.le l⟩
 | ins C ds=>obtain ⟨dx,xs,q,r⟩:=h;exact ⟨dx,xs,e.trans q,r.le l⟩
 | exc C ds=>obtain ⟨dx,xs,q,z,r⟩:=h;exact ⟨dx,xs,e.trans q,z.le l,r.le l⟩
 | frd o ds=>obtain ⟨xs,q,r⟩:=h;exact ⟨xs,e.trans q,r.le l⟩
 | tb qn bm=>obtain ⟨ps,q,⟨r1,r2⟩,o,b1,b2⟩:=h;exact ⟨ps,e.trans q,⟨r1,fun pos cv z=>let ⟨c,o,vs,t,z1,z2,z3,z4⟩:=r2 pos cv z;⟨c,o,vs,t,z1,z2,z3,l.frzs _ _ ⟨_,by intro _ e;cases e⟩ z4⟩⟩,o,l.frzs _ _ ⟨_,by intro _ e;cases e⟩ b1,b2⟩
theorem Con.fresh (c:Con K G H) (h:H p=none):G p=none:=by
 cases e:G p with
 | none=>rfl
 | some o=>obtain ⟨u,q⟩:=(c p o e).some;rw [h] at q;cases q
theorem Con.stay (c:Con K G H) (l:Le H H') (e:∀ a o,G a=some o->H' a=H a):Con K G H':=fun a o q=>(c a o q).stay l (e a o q)
theorem Con.side {u:HO} (c:Con K G H) (h:H p=none):Con K G (upd H p u):=c.stay (Le.fresh h) fun a o q=>by
 obtain ⟨u,e⟩:=(c a o q).some;exact u16 (u39 e h)
theorem Con.put {u:HO} (c:Con K G H) (l:Le H (upd H p u)) (n:ObjD K (upd H p u) p o):Con K (gup G p o) (upd H p u):=fun b q e=>by
 by_cases hb:b=p
 ·subst hb;rw [u01] at e;cases e;exact n
 ·rw [u07 hb] at e
  exact (c b q e).stay l (u16 hb)
theorem Le.lst {xs ys:List V} (h:H p=some (.lst xs)):Le H (upd H p (.lst ys)) :=
  ⟨fun b zs q => by by_cases e : b = p
                    · subst e;rw [h] at q;cases q
                    · rw [u16 e];exact q,
   fun b o u q => by by_cases e : b = p
                     · subst e;rw [h] at q;cases q
                     · rw [u16 e];exact q⟩
theorem Le.dK {xs ys:List (Key × V)} (h:H p=some (.dK xs)):Le H (upd H p (.dK ys)) :=
  ⟨fun b zs q => by by_cases e : b = p
                    · subst e;rw [h] at q;cases q
                    · rw [u16 e];exact q,
   fun b o u q => by by_cases e : b = p
                     · subst e;rw [h] at q;cases q
                     · rw [u16 e];exact q⟩
theorem Le.ins {C dx C' dx':Addr} {xs ys:List (Str × V)} (h:H p=some (.ins C dx xs)):Le H (upd H p (.ins C' dx' ys)) :=
  ⟨fun b zs q => by by_cases e : b = p
                    · subst e;rw [h] at q;cases q
                    · rw [u16 e];exact q,
   fun b o u q => by by_cases e : b = p
                     · subst e;rw [h] at q;cases q
                     · rw [u16 e];exact q⟩
theorem Con.lstNew {ds:List D} {xs:List V} (c:Con K G H) (h:H p=none) (r:RelDs K H ds xs):Con K (gup G p (.lst ds)) (upd H p (.lst xs)) :=
 c.put (Le.fresh h) ⟨xs,u23,RelDs.le (Le.fresh h) r⟩
theorem Con.lstSet {ds:List D} {xs ys:List V} (c:Con K G H) (h:H p=some (.lst ys)) (r:RelDs K H ds xs):Con K (gup G p (.lst ds)) (upd H p (.lst xs)) :=
 c.put (Le.lst h) ⟨xs,u23,RelDs.le (Le.lst h) r⟩
end
abbrev DSt:=List (Option D)
def RelSt (K:W.Frag) (H:Hp) (σd:DSt) (σ:St):Prop:=σd.length=σ.length /\ ∀ (i:Nat) d,σd[i]?=some (some d)->∃ v,σ[i]?=some (some v) /\ RelD K H d v
theorem RelSt.le {K:W.Frag} {H H':Hp} {σd:DSt} {σ:St} (h:RelSt K H σd σ) (l:Le H H'):RelSt K H' σd σ :=
 ⟨h.1,fun i d e=>let ⟨v,a,b⟩:=h.2 i d e;⟨v,a,RelD.le l b⟩⟩
theorem RelSt.set {K:W.Frag} {H:Hp} {σd:DSt} {σ:St} {d:D} {v:V} (h:RelSt K H σd σ) (i:Nat) (r:RelD K H d v):RelSt K H (σd.set i (some d)) (σ.set i (some v)):=by
 refine ⟨by rw [List.length_set,List.length_set];exact h.1,fun j e q=>?_⟩;rw [List.getElem?_set] at q;split at q
 ·rename_i hij;subst hij
  split at q
  ·rename_i hl;cases q
   exact ⟨v,by rw [List.getElem?_set_self (by rw [<- h.1];exact hl)],r⟩
  ·cases q
 ·rename_i hij
  obtain ⟨w,a,b⟩:=h.2 j e q;exact ⟨w,by rw [List.getElem?_set_ne hij];exact a,b⟩
abbrev DK:=D->Gp->Prop
abbrev TE3:=DSt->Gp->DK->Prop
abbrev TT3:=DSt->Gp->(Bool->Gp->Prop)->Prop
abbrev TA3:=DSt->Gp->(List D->Gp->Prop)->Prop
structure Ends3 where
 nx:DSt->Gp->Prop
 rt:DK
 bk:DSt->Gp->Prop:=fun _ _=>False
 ct:DSt->Gp->Prop:=fun _ _=>False
abbrev TS3:=Ends3->DSt->Gp->Prop
def FutE (K:W.Frag) (H:Hp) (q:DK) (Q:VK):Prop:=∀ d G' v H',RelD K H' d v->Con K G' H'->Le H H'->q d G'->Q v H'
def FutT (K:W.Frag) (H:Hp) (q:Bool->Gp->Prop) (Q:Bool->Hp->Prop):Prop:=∀ b G' H',Con K G' H'->Le H H'->q b G'->Q b H'
def FutA (K:W.Frag) (H:Hp) (q:List D->Gp->Prop) (Q:List V->Hp->Prop):Prop:=∀ ds G' vs H',RelDs K H' ds vs->Con K G' H'->Le H H'->q ds G'->Q vs H'
def FutS (K:W.Frag) (H:Hp) (q:DSt->Gp->Prop) (Q:St->Hp->Prop):Prop:=∀ σd G' σ H',RelSt K H' σd σ->Con K G' H'->Le H H'->q σd G'->Q σ H'
theorem FutE.le {K:W.Frag} {H H1:Hp} {q:DK} {Q:VK} (f:FutE K H q Q) (l:Le H H1):FutE K H1 q Q:=fun d G v H' r c l'=>f d G v H' r c (l.trans l')
theorem FutS.le {K:W.Frag} {H H1:Hp} {q:DSt->Gp->Prop} {Q:St->Hp->Prop} (f:FutS K H q Q) (l:Le H H1):FutS K H1 q Q:=fun d G v H' r c l'=>f d G v H' r c (l.trans l')
structure FutD (K:W.Frag) (H:Hp) (d:Ends3) (D:Ends):Prop where
 nx:FutS K H d.nx D.nx
 rt:FutE K H d.rt D.rt
 bk:FutS K H d.bk D.bk
 ct:FutS K H d.ct D.ct
theorem FutD.le {K:W.Frag} {H H1:Hp} {d:Ends3} {D:Ends} (f:FutD K H d D) (l:Le H H1):FutD K H1 d D:=⟨f.nx.le l,f.rt.le l,f.bk.le l,f.ct.le l⟩
def lowE (K:W.Frag) (t:TE3):TE:=fun σ H Q=>∃ σd G q,RelSt K H σd σ /\ Con K G H /\ t σd G q /\ FutE K H q Q
def lowT (K:W.Frag) (t:TT3):TT:=fun σ H Q=>∃ σd G q,RelSt K H σd σ /\ Con K G H /\ t σd G q /\ FutT K H q Q
def lowA (K:W.Frag) (t:TA3):TA:=fun σ H Q=>∃ σd G q,RelSt K H σd σ /\ Con K G H /\ t σd G q /\ FutA K H q Q
def lowS (K:W.Frag) (t:TS3):TS:=fun D σ H=>∃ σd G d,RelSt K H σd σ /\ Con K G H /\ t d σd G /\ FutD K H d D
abbrev R3:=D->D->Gp->DK->Prop
def lowR (K:W.Frag) (r:R3):R2:=fun x y H Q=>∃ d e G q,RelD K H d x /\ RelD K H e y /\ Con K G H /\ r d e G q /\ FutE K H q Q
abbrev U3:=D->Gp->DK->Prop
def lowU (K:W.Frag) (r:U3):V->Hp->VK->Prop:=fun x H Q=>∃ d G q,RelD K H d x /\ Con K G H /\ r d G q /\ FutE K H q Q
abbrev C3:=List D->Gp->DK->Prop
def lowC (K:W.Frag) (r:C3):List V->Hp->VK->Prop:=fun xs H Q=>∃ ds G q,RelDs K H ds xs /\ Con K G H /\ r ds G q /\ FutE K H q Q
def dVar (i:Nat):TE3:=fun σ G q=>match σ[i]? with | some (some d)=>q d G | _=>False
def dC (d:D):TE3:=fun _ G q=>q d G
def dOp (r:R3) (ta tb:TE3):TE3:=fun σ G q=>ta σ G fun x G1=>tb σ G1 fun y G2=>r x y G2 q
def dUn (r:U3) (ta:TE3):TE3:=fun σ G q=>ta σ G fun x G1=>r x G1 q
def dNil:TA3:=fun _ G q=>q [] G
def u83 (ta:TE3) (tr:TA3):TA3:=fun σ G q=>ta σ G fun x G1=>tr σ G1 fun xs G2=>q (x::xs) G2
def dTup (t:TA3):TE3:=fun σ G q=>t σ G fun xs G1=>xs.length<=sizeLine /\ q (.tup xs) G1
def dLst (t:TA3):TE3:=fun σ G q=>t σ G fun xs G1=>xs.length<=sizeLine /\ ∀ p,G1 p=none->q (.ref p) (gup G1 p (.lst xs))
def dB (t:TE3):TT3:=fun σ G q=>t σ G fun x G1=>match x with | .bl c=>q c G1 | _=>False
def dAnd (t u:TT3):TT3:=fun σ G q=>t σ G fun c G1=>if c=true then u σ G1 q else q false G1
def dOr (t u:TT3):TT3:=fun σ G q=>t σ G fun c G1=>if c=true then q true G1 else u σ G1 q
def dNot (t:TT3):TT3:=fun σ G q=>t σ G fun c G1=>q (!c) G1
def w40 (ta tb:TE3):TE3:=fun σ G q=>ta σ G fun x G1=>match x with | .bl c=>if c=true then tb σ G1 q else q (.bl false) G1 | _=>False
def dOrV (ta tb:TE3):TE3:=fun σ G q=>ta σ G fun x G1=>match x with | .bl c=>if c=true then q (.bl true) G1 else tb σ G1 q | _=>False
def w38 (ta:TE3):TE3:=fun σ G q=>ta σ G fun x G1=>match x with | .bl c=>q (.bl (!c)) G1 | _=>False
def dIf (t:TT3) (ta tb:TE3):TE3:=fun σ G q=>t σ G fun c G1=>if c=true then ta σ G1 q else tb σ G1 q
section
variable {K:W.Frag} {σ:St} {H:Hp} {Q:VK}
theorem w01 {i:Nat} (h:lowE K (dVar i) σ H Q):tVar i σ H Q:=by
 obtain ⟨σd,G,q,rs,c,t,f⟩:=h;unfold dVar at t;split at t
 ·rename_i d e
  obtain ⟨v,hv,r⟩:=rs.2 i d e;exact ⟨v,hv,f d G v H r c (Le.refl H) t⟩
 ·exact t.elim
theorem uy8 {d:D} {v:V} (r:∀ H,RelD K H d v) (h:lowE K (dC d) σ H Q):tC v σ H Q:=by
 obtain ⟨σd,G,q,rs,c,t,f⟩:=h;exact f d G v H (r H) c (Le.refl H) t
theorem uu9 {r:R3} {ta tb:TE3} (h:lowE K (dOp r ta tb) σ H Q):tOp (lowR K r) (lowE K ta) (lowE K tb) σ H Q:=by
 obtain ⟨σd,G,q,rs,c,t,f⟩:=h;exact ⟨σd,G,_,rs,c,t,fun d G1 v H1 r1 c1 l1 t1=>⟨σd,G1,_,rs.le l1,c1,t1,fun e G2 u H2 r2 c2 l2 t2=>⟨d,e,G2,q,RelD.le l2 r1,r2,c2,t2,f.le (l1.trans l2)⟩⟩⟩
theorem wj0 {r:U3} {ta:TE3} (h:lowE K (dUn r ta) σ H Q):tUn (lowU K r) (lowE K ta) σ H Q:=by
 obtain ⟨σd,G,q,rs,c,t,f⟩:=h;exact ⟨σd,G,_,rs,c,t,fun d G1 v H1 r1 c1 l1 t1=>⟨d,G1,q,r1,c1,t1,f.le l1⟩⟩
theorem v71 {Q:List V->Hp->Prop} (h:lowA K dNil σ H Q):tNil σ H Q:=by
 obtain ⟨σd,G,q,rs,c,t,f⟩:=h;exact f [] G [] H .nil c (Le.refl H) t
theorem vi4 {ta:TE3} {tr:TA3} {Q:List V->Hp->Prop} (h:lowA K (u83 ta tr) σ H Q):ve0 (lowE K ta) (lowA K tr) σ H Q:=by
 obtain ⟨σd,G,q,rs,c,t,f⟩:=h;exact ⟨σd,G,_,rs,c,t,fun d G1 v H1 r1 c1 l1 t1=>⟨σd,G1,_,rs.le l1,c1,t1,fun ds G2 vs H2 r2 c2 l2 t2=>f (d::ds) G2 (v::vs) H2 (.cons (RelD.le l2 r1) r2) c2 (l1.trans l2) t2⟩⟩
theorem w02 {ta:TA3} (h:lowE K (dTup ta) σ H Q):tTup (lowA K ta) σ H Q:=by
 obtain ⟨σd,G,q,rs,c,t,f⟩:=h;refine ⟨σd,G,_,rs,c,t,fun ds G1 vs H1 r1 c1 l1 t1=>⟨by rw [<- r1.length];exact t1.1,fun p hp=>?_⟩⟩;refine f (.tup ds) G1 (.ref p) _ ?_ (c1.side hp) (l1.trans (Le.fresh hp)) t1.2;rw [RelD];exact ⟨p,vs,rfl,SqT.of u23,RelDs.le (Le.fresh hp) r1⟩
theorem w07 {ta:TA3} (h:lowE K (dLst ta) σ H Q):tLst (lowA K ta) σ H Q:=by
 obtain ⟨σd,G,q,rs,c,t,f⟩:=h;refine ⟨σd,G,_,rs,c,t,fun ds G1 vs H1 r1 c1 l1 t1=>⟨by rw [<- r1.length];exact t1.1,fun p hp=>?_⟩⟩;exact f (.ref p) _ (.ref p) _ (by rw [RelD]) (c1.lstNew hp r1) (l1.trans (Le.fresh hp)) (t1.2 p (c1.fresh hp))
theorem RelD.bl_inv {c:Bool} {v:V} (h:RelD K H (.bl c) v):v=.bl c:=by rw [RelD] at h;exact h
theorem vi7 {t u:TT3} {Q:Bool->Hp->Prop} (h:lowT K (dAnd t u) σ H Q):tAnd (lowT K t) (lowT K u) σ H Q:=by
 obtain ⟨σd,G,q,rs,c,t,f⟩:=h;refine ⟨σd,G,_,rs,c,t,fun b G1 H1 c1 l1 t1=>?_⟩;cases b with
 | true=>rw [if_pos rfl] at t1 ⊢;exact ⟨σd,G1,q,rs.le l1,c1,t1,fun b G2 H2 c2 l2 t2=>f b G2 H2 c2 (l1.trans l2) t2⟩
 | false=>rw [if_neg Bool.false_ne_true] at t1 ⊢;exact f _ _ _ c1 l1 t1
theorem w06 {t u:TT3} {Q:Bool->Hp->Prop} (h:lowT K (dOr t u) σ H Q):tOr (lowT K t) (lowT K u) σ H Q:=by
 obtain ⟨σd,G,q,rs,c,t,f⟩:=h;refine ⟨σd,G,_,rs,c,t,fun b G1 H1 c1 l1 t1=>?_⟩;cases b with
 | false=>rw [if_neg Bool.false_ne_true] at t1 ⊢;exact ⟨σd,G1,q,rs.le l1,c1,t1,fun b G2 H2 c2 l2 t2=>f b G2 H2 c2 (l1.trans l2) t2⟩
 | true=>rw [if_pos rfl] at t1 ⊢;exact f _ _ _ c1 l1 t1
theorem vh9 {t:TT3} {Q:Bool->Hp->Prop} (h:lowT K (dNot t) σ H Q):tNot (lowT K t) σ H Q:=by
 obtain ⟨σd,G,q,rs,c,t,f⟩:=h;exact ⟨σd,G,_,rs,c,t,fun b G1 H1 c1 l1 t1=>f _ _ _ c1 l1 t1⟩
theorem wj2 {t:TT3} {ta tb:TE3} (h:lowE K (dIf t ta tb) σ H Q):tIf (lowT K t) (lowE K ta) (lowE K tb) σ H Q:=by
 obtain ⟨σd,G,q,rs,c,t,f⟩:=h;refine ⟨σd,G,_,rs,c,t,fun b G1 H1 c1 l1 t1=>?_⟩;cases b with
 | true=>rw [if_pos rfl] at t1 ⊢;exact ⟨σd,G1,q,rs.le l1,c1,t1,f.le l1⟩
 | false=>rw [if_neg Bool.false_ne_true] at t1 ⊢;exact ⟨σd,G1,q,rs.le l1,c1,t1,f.le l1⟩
end
def w39:TS3:=fun E σ G=>E.nx σ G
def Go (k:DSt->Gp->Prop) (σ:DSt) (G:Gp):Prop:=k σ G
def dSeq (t u:TS3):TS3:=fun E σ G=>t { E with nx:=Go (u E) } σ G
def uz5 (te:TE3):TS3:=fun E σ G=>te σ G fun _ G1=>E.nx σ G1
def dRet (te:TE3):TS3:=fun E σ G=>te σ G E.rt
def wq8:TS3:=fun E _ G=>E.rt .non G
def dIfS (c:TT3) (t u:TS3):TS3:=fun E σ G=>c σ G fun b G1=>if b=true then t E σ G1 else u E σ G1
abbrev TG3:=D->DSt->Gp->(DSt->Gp->Prop)->Prop
abbrev TGs3:=List D->DSt->Gp->(DSt->Gp->Prop)->Prop
def lowG (K:W.Frag) (t:TG3):TG:=fun v σ H Q=>∃ d σd G q,RelD K H d v /\ RelSt K H σd σ /\ Con K G H /\ t d σd G q /\ FutS K H q Q
def vi9 (K:W.Frag) (t:TGs3):TGs:=fun vs σ H Q=>∃ ds σd G q,RelDs K H ds vs /\ RelSt K H σd σ /\ Con K G H /\ t ds σd G q /\ FutS K H q Q
def us2 (i:Nat):TG3:=fun d σ G q=>q (σ.set i (some d)) G
def jNil:TGs3:=fun ds σ G q=>ds=[] /\ q σ G
def w20 (t:TG3) (u:TGs3):TGs3:=fun ds σ G q=>match ds with | d::r=>t d σ G fun σ' G'=>u r σ' G' q | []=>False
abbrev TSet3:=D->D->D->Gp->(Gp->Prop)->Prop
def v74 (K:W.Frag) (t:TSet3):TSet:=fun o i v H Q=>∃ d e x G q,RelD K H d o /\ RelD K H e i /\ RelD K H x v /\ Con K G H /\ t d e x G q /\ ∀ G' H',Con K G' H'->Le H H'->q G'->Q H'
def jSub (to ti:TE3) (t:TSet3):TG3:=fun d σ G q=>to σ G fun o G1=>ti σ G1 fun i G2=>t o i d G2 fun G3=>q σ G3
def dAsg (te:TE3) (g:TG3):TS3:=fun E σ G=>te σ G fun x G1=>g x σ G1 E.nx
section
variable {K:W.Frag} {σ:St} {H:Hp} {E:Ends}
theorem vi0 (h:lowS K w39 E σ H):w95 E σ H:=by
 obtain ⟨σd,G,d,rs,c,t,f⟩:=h;exact f.nx _ _ _ _ rs c (Le.refl H) t
theorem w03 {t u:TS3} (h:lowS K (dSeq t u) E σ H):tSeq (lowS K t) (lowS K u) E σ H:=by
 obtain ⟨σd,G,d,rs,c,t,f⟩:=h;exact ⟨σd,G,_,rs,c,t,fun σd' G' σ' H' rs' c' l' t'=>⟨σd',G',d,rs',c',t',f.le l'⟩,f.rt,f.bk,f.ct⟩
theorem uv1 {te:TE3} (h:lowS K (uz5 te) E σ H):vs0 (lowE K te) E σ H:=by
 obtain ⟨σd,G,d,rs,c,t,f⟩:=h;exact ⟨σd,G,_,rs,c,t,fun x G1 v H1 r1 c1 l1 t1=>f.nx _ _ _ _ (rs.le l1) c1 l1 t1⟩
theorem w04 {te:TE3} (h:lowS K (dRet te) E σ H):tRet (lowE K te) E σ H:=by
 obtain ⟨σd,G,d,rs,c,t,f⟩:=h;exact ⟨σd,G,_,rs,c,t,f.rt⟩
theorem w08 {tc:TT3} {t u:TS3} (h:lowS K (dIfS tc t u) E σ H):tIfS (lowT K tc) (lowS K t) (lowS K u) E σ H:=by
 obtain ⟨σd,G,d,rs,c,t,f⟩:=h;refine ⟨σd,G,_,rs,c,t,fun b G1 H1 c1 l1 t1=>?_⟩;cases b with
 | true=>rw [if_pos rfl] at t1 ⊢;exact ⟨σd,G1,d,rs.le l1,c1,t1,f.le l1⟩
 | false=>rw [if_neg Bool.false_ne_true] at t1 ⊢;exact ⟨σd,G1,d,rs.le l1,c1,t1,f.le l1⟩
theorem v72 {i:Nat} {v:V} {Q:St->Hp->Prop} (h:lowG K (us2 i) v σ H Q):w24 i v σ H Q:=by
 obtain ⟨d,σd,G,q,r,rs,c,t,f⟩:=h;exact f _ _ _ _ (rs.set i r) c (Le.refl H) t
theorem vi3 {vs:List V} {Q:St->Hp->Prop} (h:vi9 K jNil vs σ H Q):gNil vs σ H Q:=by
 obtain ⟨ds,σd,G,q,r,rs,c,⟨e,t⟩,f⟩:=h;subst e;exact ⟨r.inv_nil,f _ _ _ _ rs c (Le.refl H) t⟩
theorem v73 {t:TG3} {u:TGs3} {vs:List V} {Q:St->Hp->Prop} (h:vi9 K (w20 t u) vs σ H Q):wl2 (lowG K t) (vi9 K u) vs σ H Q:=by
 obtain ⟨ds,σd,G,q,r,rs,c,t,f⟩:=h;cases ds with
 | nil=>exact t.elim
 | cons d ds =>
  obtain ⟨x,xs,rfl,r1,r2⟩:=r.inv_cons;exact ⟨x,xs,rfl,d,σd,G,_,r1,rs,c,t,fun σd' G' σ' H' rs' c' l' t'=>⟨ds,σd',G',q,RelDs.le l' r2,rs',c',t',f.le l'⟩⟩
theorem vi2 {to ti:TE3} {t:TSet3} {v:V} {Q:St->Hp->Prop} (h:lowG K (jSub to ti t) v σ H Q):gSub (lowE K to) (lowE K ti) (v74 K t) v σ H Q:=by
 obtain ⟨d,σd,G,q,r,rs,c,t,f⟩:=h;exact ⟨σd,G,_,rs,c,t,fun o G1 vo H1 r1 c1 l1 t1=>⟨σd,G1,_,rs.le l1,c1,t1,fun i G2 vi H2 r2 c2 l2 t2=>⟨o,i,d,G2,_,RelD.le l2 r1,r2,RelD.le (l1.trans l2) r,c2,t2,fun G3 H3 c3 l3 t3 =>
  f _ _ _ _ (rs.le (l1.trans (l2.trans l3))) c3 (l1.trans (l2.trans l3)) t3⟩⟩⟩
theorem w12 {te:TE3} {g:TG3} (h:lowS K (dAsg te g) E σ H):tAsg (lowE K te) (lowG K g) E σ H:=by
 obtain ⟨σd,G,d,rs,c,t,f⟩:=h;exact ⟨σd,G,_,rs,c,t,fun x G1 v H1 r1 c1 l1 t1=>⟨x,σd,G1,_,r1,rs.le l1,c1,t1,f.nx.le l1⟩⟩
end
def whN (c:TT3) (tb:TS3) (E:Ends3):Nat->DSt->Gp->Prop
 | 0,_,_=>False
 | n+1,σ,G=>c σ G fun b G1=>if b=true then tb { E with nx:=whN c tb E n,ct:=whN c tb E n,bk:=E.nx } σ G1 else E.nx σ G1
def uw9 (c:TT3) (tb:TS3):TS3:=fun E σ G=>∃ n,whN c tb E n σ G
theorem v68 {K:W.Frag} {c:TT3} {tb:TS3} {σ:St} {H:Hp} {E:Ends} (h:lowS K (uw9 c tb) E σ H):vm8 (lowT K c) (lowS K tb) E σ H:=by
 obtain ⟨σd,G,d,rs,cc,⟨n,t⟩,f⟩:=h;refine ⟨fun m σ' H'=>∃ σd' G',Le H H' /\ RelSt K H' σd' σ' /\ Con K G' H' /\ whN c tb d m σd' G',⟨n,σd,G,Le.refl H,rs,cc,t⟩,?_⟩;rintro m σ1 H1 ⟨σd1,G1,l1,rs1,c1,t1⟩;cases m with
 | zero=>exact t1.elim
 | succ m =>
  refine ⟨σd1,G1,_,rs1,c1,t1,fun b G2 H2 c2 l2 t2=>?_⟩;cases b with
  | true =>
   rw [if_pos rfl] at t2 ⊢;refine ⟨fun σ' H'=>∃ σd' G',Le H H' /\ RelSt K H' σd' σ' /\ Con K G' H' /\ whN c tb d m σd' G',fun σ' H' w=>⟨m,Nat.lt_succ_self m,w⟩,σd1,G2,_,rs1.le l2,c2,t2,?_,?_,?_,?_⟩
   ·exact fun σd3 G3 σ3 H3 rs3 c3 l3 t3=>⟨σd3,G3,l1.trans (l2.trans l3),rs3,c3,t3⟩
   ·exact f.rt.le (l1.trans l2)
   ·exact f.nx.le (l1.trans l2)
   ·exact fun σd3 G3 σ3 H3 rs3 c3 l3 t3=>⟨σd3,G3,l1.trans (l2.trans l3),rs3,c3,t3⟩
  | false =>
   rw [if_neg Bool.false_ne_true] at t2 ⊢;exact f.nx _ _ _ _ (rs1.le l2) c2 (l1.trans l2) t2
structure IT where
 items:List D
 ok:Gp->Prop
structure ItRel (K:W.Frag) (H0:Hp) (it:IT) (J:It):Prop where
 go:∀ (i:Nat) G H,Le H0 H->Con K G H->it.ok G->i < it.items.length->J.go i H
 stop:∀ (i:Nat) G H,Le H0 H->Con K G H->it.ok G->it.items.length<=i->J.stop i H
 yld:∀ (i:Nat) G H x H',Le H0 H->Con K G H->it.ok G->i < it.items.length->J.yld i H x H'->Con K G H' /\ Le H H' /\ ∃ d,it.items[i]?=some d /\ RelD K H' d x
abbrev TI3:=DSt->Gp->(IT->Gp->Prop)->Prop
def lowI (K:W.Frag) (t:TI3):TI:=fun σ H R=>∃ σd G r,RelSt K H σd σ /\ Con K G H /\ t σd G r /\ ∀ it J G' H',ItRel K H' it J->Con K G' H'->Le H H'->r it G'->R J H'
def forL (ok:Gp->Prop) (g:TG3) (tb:TS3) (E:Ends3):List D->DSt->Gp->Prop
 | [],σ,G=>ok G /\ E.nx σ G
 | x::r,σ,G=>ok G /\ g x σ G fun σ1 G1=>tb { E with nx:=forL ok g tb E r,ct:=forL ok g tb E r,bk:=E.nx } σ1 G1
def dFor (wi:TI3) (g:TG3) (tb:TS3):TS3:=fun E σ G=>wi σ G fun it G1=>forL it.ok g tb E it.items σ G1
theorem w09 {K:W.Frag} {wi:TI3} {g:TG3} {tb:TS3} {σ:St} {H:Hp} {E:Ends} (h:lowS K (dFor wi g tb) E σ H):tFor (lowI K wi) (lowG K g) (lowS K tb) E σ H:=by
 obtain ⟨σd,G,d,rs,cc,t,f⟩:=h;refine ⟨σd,G,_,rs,cc,t,fun it J G1 H1 ir c1 l1 t1=>?_⟩;refine ⟨fun i m σ' H'=>∃ σd' G',Le H1 H' /\ RelSt K H' σd' σ' /\ Con K G' H' /\ i+m=it.items.length /\ forL it.ok g tb d (it.items.drop i) σd' G',⟨it.items.length,σd,G1,Le.refl _,rs.le l1,c1,by omega,by rw [List.drop_zero];exact t1⟩,?_⟩;rintro i m σ2 H2 ⟨σd2,G2,l2,rs2,c2,e2,t2⟩
 by_cases hi:i < it.items.length
 ·rw [List.drop_eq_getElem_cons hi] at t2
  obtain ⟨ok2,t2⟩:=t2;refine .inr ⟨ir.go i G2 H2 l2 c2 ok2 hi,fun σ' H'=>∃ σd' G',Le H1 H' /\ RelSt K H' σd' σ' /\ Con K G' H' /\ forL it.ok g tb d (it.items.drop (i+1)) σd' G',?_,?_⟩
  ·rintro σ' H' ⟨σd',G',a1,a2,a3,a4⟩
   exact ⟨m - 1,by omega,σd',G',a1,a2,a3,by omega,a4⟩
  ·intro x H3 y
   obtain ⟨c3,l3,e,he,r3⟩:=ir.yld i G2 H2 x H3 l2 c2 ok2 hi y;rw [List.getElem?_eq_getElem hi] at he;cases he;refine ⟨_,σd2,G2,_,r3,rs2.le l3,c3,t2,fun σd4 G4 σ4 H4 rs4 c4 l4 t4=>?_⟩;have l14:Le H1 H4:=l2.trans (l3.trans l4);have key:FutS K H4 (forL it.ok g tb d (it.items.drop (i+1))) (fun σ' H'=>∃ σd' G',Le H1 H' /\ RelSt K H' σd' σ' /\ Con K G' H' /\ forL it.ok g tb d (it.items.drop (i+1)) σd' G') :=
    fun σd5 G5 σ5 H5 rs5 c5 l5 t5=>⟨σd5,G5,l14.trans l5,rs5,c5,t5⟩
   exact ⟨σd4,G4,_,rs4,c4,t4,key,f.rt.le (l1.trans l14),f.nx.le (l1.trans l14),key⟩
 ·rw [List.drop_eq_nil_of_le (by omega)] at t2
  exact .inl ⟨ir.stop i G2 H2 l2 c2 t2.1 (by omega),f.nx _ _ _ _ rs2 c2 (l1.trans l2) t2.2⟩
theorem RelDs.at_ {K:W.Frag} {H:Hp} {ds:List D} {xs:List V} {i:Nat} {x:V} (h:RelDs K H ds xs) (e:xs[i]?=some x):∃ d,ds[i]?=some d /\ RelD K H d x:=by
 have hl:i < ds.length:=by rw [h.length];exact (List.getElem?_eq_some_iff.mp e).1
 obtain ⟨y,hy,r⟩:=h.get (List.getElem?_eq_getElem hl);rw [e] at hy;cases hy;exact ⟨_,List.getElem?_eq_getElem hl,r⟩
theorem v84 {K:W.Frag} {H0:Hp} {a:Addr} {ds:List D} {xs:List V} (s:SqT K H0 a xs) (r:RelDs K H0 ds xs):ItRel K H0 ⟨ds,fun _=>True⟩ (Itt K a) where
 go:=fun i G H l c _ hi=>⟨xs,xs[i]'(by rw [<- r.length];exact hi),l.sqT s,List.getElem?_eq_getElem _⟩
 stop:=fun i G H l c _ hi=>⟨xs,l.sqT s,by rw [<- r.length];exact hi⟩
 yld:=fun i G H x H' l c _ hi y=>by
  obtain ⟨e,y⟩:=y;subst e;have hx:=y xs (l.sqT s);obtain ⟨d,hd,rd⟩:=(RelDs.le l r).at_ hx
  exact ⟨c,Le.refl _,d,hd,rd⟩
def u08:Option DO->Option (List D)
 | some (.lst xs)=>some xs
 | some (.fro xs)=>some xs
 | _=>none
theorem u27 {K:W.Frag} {G:Gp} {H:Hp} {a:Addr} {ds:List D} (c:Con K G H) (h:u08 (G a)=some ds):∃ xs,SqL K H a xs /\ RelDs K H ds xs:=by
 cases e:G a with
 | none=>rw [e] at h;cases h
 | some o =>
  rw [e] at h;have q:=c a o e;cases o with
  | lst xs=>cases h;obtain ⟨ys,q,r⟩:=q;exact ⟨ys,.inl (.inl q),r⟩
  | fro xs=>cases h;obtain ⟨o,ys,q,r⟩:=q;exact ⟨ys,.inl (.inr ⟨o,q⟩),r⟩
  | dic _=>cases h
  | dit _=>cases h
  | ins _ _=>cases h
  | exc _ _=>cases h
  | frd _ _=>cases h
  | tb _ _=>cases h
theorem uy9 {K:W.Frag} {H0:Hp} {a:Addr} {ds:List D}:ItRel K H0 ⟨ds,fun G=>u08 (G a)=some ds⟩ (Itl K a) where
 go:=fun i G H l c ok hi=>by
  obtain ⟨xs,s,r⟩:=u27 c ok;exact ⟨xs,xs[i]'(by rw [<- r.length];exact hi),s,List.getElem?_eq_getElem _⟩
 stop:=fun i G H l c ok hi=>by
  obtain ⟨xs,s,r⟩:=u27 c ok;exact ⟨xs,s,by rw [<- r.length];exact hi⟩
 yld:=fun i G H x H' l c ok hi y=>by
  obtain ⟨e,y⟩:=y;subst e;obtain ⟨xs,s,r⟩:=u27 c ok;obtain ⟨d,hd,rd⟩:=r.at_ (y xs s)
  exact ⟨c,Le.refl _,d,hd,rd⟩
def rngD (lo:Int) (n:Nat):List D:=(List.range n).map fun (i:Nat)=>.int (lo+i)
theorem us4 {K:W.Frag} {H0:Hp} {lo:Int} {n:Nat}:ItRel K H0 ⟨rngD lo n,fun _=>True⟩ (Itr lo n) where
 go:=fun i G H l c _ hi=>by
  have:i < n:=by simpa [rngD] using hi
  exact this
 stop:=fun i G H l c _ hi=>by
  have:n<=i:=by simpa [rngD] using hi
  exact this
 yld:=fun i G H x H' l c _ hi y=>by
  obtain ⟨e,y⟩:=y;subst e;subst y;refine ⟨c,Le.refl _,.int (lo+i),?_,by rw [RelD]⟩;have:i < n:=by simpa [rngD] using hi
  simp [rngD,this]
abbrev Sp3:=List D->Gp->DK->Prop
def ua2 (K:W.Frag) (S:Sp3):Sp:=fun vs H Q _=>∃ ds G R,RelDs K H ds vs /\ Con K G H /\ S ds G R /\ FutE K H R Q
def dCall (S:Sp3) (dds:List D) (t:TA3):TE3:=fun σ G q=>t σ G fun ds G1=>∃ R,S (ds++dds) G1 R /\ ∀ d G',R d G'->q d G'
def uz4 (C:Addr) (m:Str) (S:Sp3) (dds:List D) (ta:TE3) (t:TA3):TE3:=fun σ G q=>ta σ G fun x G1=>match x with
 | .ref a=>(match G1 a with
  | some (.ins C' fs)=>C'=C /\ fs.lookup m=none /\ t σ G1 fun ds G2=>∃ R,S (.ref a::(ds++dds)) G2 R /\ ∀ d G',R d G'->q d G'
  | _=>False)
 | _=>False
def vk2 (C:Addr) (S:Sp3) (dds:List D) (t:TA3):TE3:=fun σ G q=>t σ G fun ds G1=>∀ x,G1 x=none ->
 ∃ R,S (.ref x::(ds++dds)) (gup G1 x (.ins C [])) R /\ ∀ d G',R d G'->d=.non /\ q (.ref x) G'
def putD (f:Str) (v:D):List (Str × D)->List (Str × D)
 | []=>[(f,v)]
 | (g,u)::r=>if g=f then (g,v)::r else (g,u)::putD f v r
def dFld (C:Addr) (ta:TE3) (f:Str):TE3:=fun σ G q=>ta σ G fun x G1=>match x with
 | .ref a=>(match G1 a with
  | some (.ins C' fs)=>C'=C /\ (match fs.lookup f with | some d=>q d G1 | none=>False)
  | _=>False)
 | _=>False
def w35 (C:Addr) (ta tv:TE3) (f:Str):TS3:=fun E σ G=>tv σ G fun y G1=>ta σ G1 fun x G2=>match x with
 | .ref a=>(match G2 a with
  | some (.ins C' fs)=>C'=C /\ fs.length < 1000 /\ E.nx σ (gup G2 a (.ins C (putD f y fs)))
  | _=>False)
 | _=>False
def wq9 (C:Addr) (ta tv:TE3) (r:R3) (f:Str):TS3:=fun E σ G=>ta σ G fun x G1=>match x with
 | .ref a=>(match G1 a with
  | some (.ins C' fs)=>C'=C /\ (match fs.lookup f with
   | some d=>tv σ G1 fun y G2=>r d y G2 fun z G3=>(match G3 a with
    | some (.ins C'' fs')=>C''=C /\ fs'.length < 1000 /\ E.nx σ (gup G3 a (.ins C (putD f z fs')))
    | _=>False)
   | none=>False)
  | _=>False)
 | _=>False
section
variable {K:W.Frag} {σ:St} {H:Hp} {Q:VK} {E:Ends}
theorem vi5 {S:Sp3} {dds:List D} {dvs:List V} {t:TA3} {XE:XK} (hd:∀ H,RelDs K H dds dvs) (h:lowE K (dCall S dds t) σ H Q):vs3 (ua2 K S) dvs XE (lowA K t) σ H Q:=by
 obtain ⟨σd,G,q,rs,c,t,f⟩:=h;exact ⟨σd,G,_,rs,c,t,fun ds G1 vs H1 r1 c1 l1 ⟨R,s1,t1⟩=>⟨_,G1,R,r1.append (hd H1),c1,s1,fun d G2 v H2 r2 c2 l2 t2=>f d G2 v H2 r2 c2 (l1.trans l2) (t1 d G2 t2)⟩⟩
theorem RelD.refI {a:Addr}:RelD K H (.ref a) (.ref a):=by rw [RelD]
theorem RelD.ref_inv {a:Addr} {v:V} (h:RelD K H (.ref a) v):v=.ref a:=by rw [RelD] at h;exact h
theorem RelPs.lookup_none {κ:Type} [BEq κ] {k:κ}:∀ {ps:List (κ × D)} {qs:List (κ × V)},RelPs K H ps qs->ps.lookup k=none->qs.lookup k=none
 | [],qs,h,_=>by
  cases qs with
  | nil=>rfl
  | cons _ _=>have:=h.1;simp at this
 | (g,d)::ps,qs,h,e=>by
  cases qs with
  | nil=>have:=h.1;simp at this
  | cons q qs =>
   obtain ⟨g',v⟩:=q;have h1:=h.1;simp only [List.map_cons,List.cons.injEq] at h1;obtain ⟨rfl,h1⟩:=h1;obtain ⟨x,r,e2,_,h2⟩:=(show RelDs K H (d::ps.map (·.2)) (v::qs.map (·.2)) from h.2).inv_cons;cases e2;rw [List.lookup_cons] at e ⊢;cases hk:k == g with
   | true=>rw [hk] at e;cases e
   | false=>rw [hk] at e;exact RelPs.lookup_none ⟨h1,h2⟩ e
theorem RelPs.lookup {κ:Type} [BEq κ] {k:κ} {d:D}:∀ {ps:List (κ × D)} {qs:List (κ × V)},RelPs K H ps qs->ps.lookup k=some d->∃ v,qs.lookup k=some v /\ RelD K H d v
 | [],qs,h,e=>by cases e
 | (g,d')::ps,qs,h,e=>by
  cases qs with
  | nil=>have:=h.1;simp at this
  | cons q qs =>
   obtain ⟨g',v⟩:=q;have h1:=h.1;simp only [List.map_cons,List.cons.injEq] at h1;obtain ⟨rfl,h1⟩:=h1;obtain ⟨x,r,e2,r1,h2⟩:=(show RelDs K H (d'::ps.map (·.2)) (v::qs.map (·.2)) from h.2).inv_cons;cases e2;rw [List.lookup_cons] at e ⊢;cases hk:k == g with
   | true=>rw [hk] at e;cases e;exact ⟨v,rfl,r1⟩
   | false=>rw [hk] at e;exact RelPs.lookup ⟨h1,h2⟩ e
theorem RelPs.nil {κ:Type}:RelPs (κ:=κ) K H [] []:=⟨rfl,.nil⟩
theorem RelPs.cons {κ:Type} {k:κ} {d:D} {v:V} {ps:List (κ × D)} {qs:List (κ × V)} (r:RelD K H d v) (h:RelPs K H ps qs):RelPs K H ((k,d)::ps) ((k,v)::qs) :=
 ⟨by simp [h.1],.cons r h.2⟩
theorem RelPs.inv_cons {κ:Type} {k:κ} {d:D} {ps:List (κ × D)} {qs:List (κ × V)} (h:RelPs K H ((k,d)::ps) qs):∃ v r,qs=(k,v)::r /\ RelD K H d v /\ RelPs K H ps r:=by
 cases qs with
 | nil=>have:=h.1;simp at this
 | cons q qs =>
  obtain ⟨g',v⟩:=q;have h1:=h.1;simp only [List.map_cons,List.cons.injEq] at h1;obtain ⟨rfl,h1⟩:=h1;obtain ⟨x,r,e2,r1,h2⟩:=(show RelDs K H (d::ps.map (·.2)) (v::qs.map (·.2)) from h.2).inv_cons;cases e2;exact ⟨v,qs,rfl,r1,h1,h2⟩
theorem RelPs.inv_nil {κ:Type} {qs:List (κ × V)} (h:RelPs K H [] qs):qs=[]:=by
 cases qs with
 | nil=>rfl
 | cons _ _=>have:=h.1;simp at this
theorem RelPs.putF {f:Str} {d:D} {v:V} (r:RelD K H d v):∀ {ps:List (Str × D)} {qs:List (Str × V)},RelPs K H ps qs->RelPs K H (putD f d ps) (L2.putF f v qs)
 | [],qs,h=>by rw [h.inv_nil];exact RelPs.cons r RelPs.nil
 | (g,d')::ps,qs,h=>by
  obtain ⟨u,qs',rfl,r1,h2⟩:=h.inv_cons
  show RelPs K H (if g=f then (g,d)::ps else (g,d')::putD f d ps) (if g=f then (g,v)::qs' else (g,u)::L2.putF f v qs')
  split
  ·exact RelPs.cons r h2
  ·exact RelPs.cons r1 (RelPs.putF r h2)
theorem RelPs.length {κ:Type} {ps:List (κ × D)} {qs:List (κ × V)} (h:RelPs K H ps qs):ps.length=qs.length:=by
 have:=h.2.length;simpa using this
theorem uv0 {C:Addr} {m:Str} {S:Sp3} {dds:List D} {dvs:List V} {ta:TE3} {t:TA3} {XE:XK} (hd:∀ H,RelDs K H dds dvs) (h:lowE K (uz4 C m S dds ta t) σ H Q):vr9 C m (ua2 K S) dvs XE (lowE K ta) (lowA K t) σ H Q:=by
 obtain ⟨σd,G,q,rs,c,t,f⟩:=h;refine ⟨σd,G,_,rs,c,t,fun x G1 v H1 r1 c1 l1 t1=>?_⟩;split at t1
 ·rename_i a
  split at t1
  ·rename_i C' fs e
   obtain ⟨rfl,n,t1⟩:=t1;obtain ⟨dx,ys,e2,rf⟩:=c1 _ _ e;refine ⟨a,dx,ys,r1.ref_inv,e2,rf.lookup_none n,σd,G1,_,rs.le l1,c1,t1,fun ds G2 vs H2 r2 c2 l2 ⟨R,s2,t2⟩=>?_⟩;exact ⟨_,G2,R,.cons (RelD.le l2 r1) (r2.append (hd H2)),c2,s2,fun d G3 v H3 r3 c3 l3 t3=>f d G3 v H3 r3 c3 (l1.trans (l2.trans l3)) (t2 d G3 t3)⟩
  ·exact t1.elim
 ·exact t1.elim
theorem Con.insNew {G:Gp} {x dx C:Addr} (c:Con K G H) (h:H x=none) (h':H dx=none) (ne:dx ≠ x):Con K (gup G x (.ins C [])) (upd (upd H dx (.own x)) x (.ins C dx [])) /\ Le H (upd (upd H dx (.own x)) x (.ins C dx [])):=by
 have c1:=c.side (u:=.own x) h';have hx:upd H dx (.own x) x=none:=by rw [u16 (Ne.symm ne)];exact h
 exact ⟨c1.put (Le.fresh hx) ⟨dx,[],u23,RelPs.nil⟩,(Le.fresh h').trans (Le.fresh hx)⟩
theorem vi1 {C:Addr} {S:Sp3} {dds:List D} {dvs:List V} {t:TA3} {XE:XK} (hd:∀ H,RelDs K H dds dvs) (h:lowE K (vk2 C S dds t) σ H Q):w96 C (ua2 K S) dvs XE (lowA K t) σ H Q:=by
 obtain ⟨σd,G,q,rs,c,t,f⟩:=h;refine ⟨σd,G,_,rs,c,t,fun ds G1 vs H1 r1 c1 l1 t1 x dx hx hdx ne=>?_⟩;obtain ⟨R,s1,t1⟩:=t1 x (c1.fresh hx);obtain ⟨c2,l2⟩:=c1.insNew (C:=C) hx hdx ne;refine ⟨_,_,R,.cons RelD.refI ((RelDs.le l2 r1).append (hd _)),c2,s1,fun d G3 v H3 r3 c3 l3 t3=>?_⟩;obtain ⟨rfl,t4⟩:=t1 d G3 t3;exact ⟨by rw [RelD] at r3;exact r3,f _ _ _ _ RelD.refI c3 (l1.trans (l2.trans l3)) t4⟩
theorem w10 {C:Addr} {ta:TE3} {f:Str} (cl:Cls K C) (na:NoAttr K C f) (h:lowE K (dFld C ta f) σ H Q):tFld K (lowE K ta) f σ H Q:=by
 obtain ⟨σd,G,q,rs,c,t,fu⟩:=h;refine ⟨σd,G,_,rs,c,t,fun x G1 v H1 r1 c1 l1 t1=>?_⟩;split at t1
 ·rename_i a
  split at t1
  ·rename_i C' fs e
   obtain ⟨rfl,t1⟩:=t1;obtain ⟨dx,ys,e2,rf⟩:=c1 _ _ e;split at t1
   ·rename_i d el
    obtain ⟨w,ew,rw'⟩:=rf.lookup el;exact ⟨a,_,dx,ys,w,r1.ref_inv,e2,cl,na,ew,fu d G1 w H1 rw' c1 l1 t1⟩
   ·exact t1.elim
  ·exact t1.elim
 ·exact t1.elim
theorem vh6 {C:Addr} {ta tv:TE3} {f:Str} (cl:Cls K C) (na:NoAttr K C f) (h:lowS K (w35 C ta tv f) E σ H):sFld K (lowE K ta) (lowE K tv) f E σ H:=by
 obtain ⟨σd,G,d,rs,c,t,fu⟩:=h;refine ⟨σd,G,_,rs,c,t,fun y G1 v H1 r1 c1 l1 t1=>⟨σd,G1,_,rs.le l1,c1,t1,fun x G2 w H2 r2 c2 l2 t2=>?_⟩⟩;split at t2
 ·rename_i a
  split at t2
  ·rename_i C' fs e
   obtain ⟨rfl,hl,t2⟩:=t2;obtain ⟨dx,ys,e2,rf⟩:=c2 _ _ e;refine ⟨a,_,dx,ys,r2.ref_inv,e2,cl,na,by rw [<- rf.length];exact hl,?_⟩;have l3:=Le.ins (C':=C') (dx':=dx) (ys:=L2.putF f v ys) e2;exact fu.nx _ _ _ _ (rs.le (l1.trans (l2.trans l3))) (c2.put (o:=.ins C' (putD f y fs)) l3 ⟨dx,_,u23,RelPs.le l3 (rf.putF (RelD.le l2 r1))⟩) (l1.trans (l2.trans l3)) t2
  ·exact t2.elim
 ·exact t2.elim
theorem wq4 {te:TE3} {Q:Bool->Hp->Prop} (h:lowT K (dB te) σ H Q):tB (lowE K te) σ H Q:=by
 obtain ⟨σd,G,q,rs,c,t,f⟩:=h;refine ⟨σd,G,_,rs,c,t,fun x G1 v H1 r1 c1 l1 t1=>?_⟩;split at t1
 ·rename_i k
  exact ⟨k,r1.bl_inv,f _ _ _ c1 l1 t1⟩
 ·exact t1.elim
theorem vi6 {ta tb:TE3} (h:lowE K (w40 ta tb) σ H Q):w98 (lowE K ta) (lowE K tb) σ H Q:=by
 obtain ⟨σd,G,q,rs,c,t,f⟩:=h;refine ⟨σd,G,_,rs,c,t,fun x G1 v H1 r1 c1 l1 t1=>?_⟩;split at t1
 ·rename_i k
  refine ⟨k,r1.bl_inv,?_⟩;cases k with
  | true=>rw [if_pos rfl] at t1 ⊢;exact ⟨σd,G1,q,rs.le l1,c1,t1,f.le l1⟩
  | false=>rw [if_neg Bool.false_ne_true] at t1 ⊢;exact f _ _ _ _ (by rw [RelD]) c1 l1 t1
 ·exact t1.elim
theorem w05 {ta tb:TE3} (h:lowE K (dOrV ta tb) σ H Q):tOrV (lowE K ta) (lowE K tb) σ H Q:=by
 obtain ⟨σd,G,q,rs,c,t,f⟩:=h;refine ⟨σd,G,_,rs,c,t,fun x G1 v H1 r1 c1 l1 t1=>?_⟩;split at t1
 ·rename_i k
  refine ⟨k,r1.bl_inv,?_⟩;cases k with
  | false=>rw [if_neg Bool.false_ne_true] at t1 ⊢;exact ⟨σd,G1,q,rs.le l1,c1,t1,f.le l1⟩
  | true=>rw [if_pos rfl] at t1 ⊢;exact f _ _ _ _ (by rw [RelD]) c1 l1 t1
 ·exact t1.elim
theorem vh8 {ta:TE3} (h:lowE K (w38 ta) σ H Q):w94 (lowE K ta) σ H Q:=by
 obtain ⟨σd,G,q,rs,c,t,f⟩:=h;refine ⟨σd,G,_,rs,c,t,fun x G1 v H1 r1 c1 l1 t1=>?_⟩;split at t1
 ·rename_i k
  exact ⟨k,r1.bl_inv,f _ _ _ _ (by rw [RelD]) c1 l1 t1⟩
 ·exact t1.elim
def dAug (i:Nat) (te:TE3) (r:R3):TS3:=fun E σ G=>match σ[i]? with
 | some (some x)=>te σ G fun y G1=>r x y G1 fun z G2=>E.nx (σ.set i (some z)) G2
 | _=>False
abbrev TO3:=DSt->Gp->(Option Int->Gp->Prop)->Prop
def lowO (K:W.Frag) (t:TO3):TO:=fun σ H Q=>∃ σd G q,RelSt K H σd σ /\ Con K G H /\ t σd G q /\ ∀ o G' H',Con K G' H'->Le H H'->q o G'->Q o H'
def us8:TO3:=fun _ G q=>q none G
def w37 (t:TE3):TO3:=fun σ G q=>t σ G fun x G1=>match x with | .int i=>q (some i) G1 | _=>False
theorem uy7 {Q:Option Int->Hp->Prop} (h:lowO K us8 σ H Q):v20 σ H Q:=by
 obtain ⟨σd,G,q,rs,c,t,f⟩:=h;exact f _ _ _ c (Le.refl H) t
theorem vh7 {t:TE3} {Q:Option Int->Hp->Prop} (h:lowO K (w37 t) σ H Q):w93 (lowE K t) σ H Q:=by
 obtain ⟨σd,G,q,rs,c,t,f⟩:=h;refine ⟨σd,G,_,rs,c,t,fun x G1 v H1 r1 c1 l1 t1=>?_⟩;split at t1
 ·rename_i k
  rw [RelD] at r1;exact ⟨k,r1,f _ _ _ c1 l1 t1⟩
 ·exact t1.elim
abbrev RS3:=D->Option Int->Option Int->Gp->DK->Prop
def vi8 (K:W.Frag) (r:RS3):V->Option Int->Option Int->Hp->VK->Prop:=fun x l u H Q=>∃ d G q,RelD K H d x /\ Con K G H /\ r d l u G q /\ FutE K H q Q
def dSl (r:RS3) (te:TE3) (tl th:TO3):TE3:=fun σ G q=>te σ G fun x G1=>tl σ G1 fun l G2=>th σ G2 fun u G3=>r x l u G3 q
theorem wj1 {r:RS3} {te:TE3} {tl th:TO3} (h:lowE K (dSl r te tl th) σ H Q):tSl (vi8 K r) (lowE K te) (lowO K tl) (lowO K th) σ H Q:=by
 obtain ⟨σd,G,q,rs,c,t,f⟩:=h;exact ⟨σd,G,_,rs,c,t,fun x G1 v H1 r1 c1 l1 t1=>⟨σd,G1,_,rs.le l1,c1,t1,fun o G2 H2 c2 l2 t2=>⟨σd,G2,_,rs.le (l1.trans l2),c2,t2,fun u G3 H3 c3 l3 t3 =>
  ⟨x,G3,q,RelD.le (l2.trans l3) r1,c3,t3,f.le (l1.trans (l2.trans l3))⟩⟩⟩⟩
def dCB (r:C3) (t:TA3):TE3:=fun σ G q=>t σ G fun ds G1=>r ds G1 q
theorem vp2 {r:C3} {t:TA3} (h:lowE K (dCB r t) σ H Q):tCB (lowC K r) (lowA K t) σ H Q:=by
 obtain ⟨σd,G,q,rs,c,t,f⟩:=h;exact ⟨σd,G,_,rs,c,t,fun ds G1 vs H1 r1 c1 l1 t1=>⟨ds,G1,q,r1,c1,t1,f.le l1⟩⟩
abbrev M3:=D->List D->Gp->DK->Prop
def lowM (K:W.Frag) (r:M3):V->List V->Hp->VK->Prop:=fun x xs H Q=>∃ d ds G q,RelD K H d x /\ RelDs K H ds xs /\ Con K G H /\ r d ds G q /\ FutE K H q Q
def tyD (G:Gp) (T:String):D->Prop
 | .str _=>T = "str"
 | .int _=>T = "int"
 | .ref a=>match G a with
  | some (.lst _)=>T = "list"
  | some (.fro _)=>T = "list"
  | some (.dic _)=>T = "dict"
  | _=>False
 | _=>False
def dBM (T:String) (r:M3) (to:TE3) (t:TA3):TE3:=fun σ G q=>to σ G fun x G1=>tyD G1 T x /\ t σ G1 fun ds G2=>r x ds G2 q
def dBM0 (T:String) (r:M3) (to:TE3):TE3:=fun σ G q=>to σ G fun x G1=>tyD G1 T x /\ r x [] G1 q
theorem ug3 {T:String} {r:M3} {to:TE3} {t:TA3} (ty:∀ G H x v,Con K G H->RelD K H x v->tyD G T x->tyV K T v H) (h:lowE K (dBM T r to t) σ H Q):tBM K T (lowM K r) (lowE K to) (lowA K t) σ H Q:=by
 obtain ⟨σd,G,q,rs,c,t,f⟩:=h;exact ⟨σd,G,_,rs,c,t,fun x G1 v H1 r1 c1 l1 ⟨y,t1⟩=>⟨ty G1 H1 x v c1 r1 y,σd,G1,_,rs.le l1,c1,t1,fun ds G2 vs H2 r2 c2 l2 t2=>⟨x,ds,G2,q,RelD.le l2 r1,r2,c2,t2,f.le (l1.trans l2)⟩⟩⟩
theorem w11 {T:String} {r:M3} {to:TE3} (ty:∀ G H x v,Con K G H->RelD K H x v->tyD G T x->tyV K T v H) (h:lowE K (dBM0 T r to) σ H Q):tBM0 K T (lowM K r) (lowE K to) σ H Q:=by
 obtain ⟨σd,G,q,rs,c,t,f⟩:=h;exact ⟨σd,G,_,rs,c,t,fun x G1 v H1 r1 c1 l1 ⟨y,t1⟩=>⟨ty G1 H1 x v c1 r1 y,x,[],G1,q,r1,.nil,c1,t1,f.le l1⟩⟩
end
end L3
namespace L3
open PySem PySem.Spec PyProof.Rows L2
section
variable {X:Cx}
theorem u32 {e:Expr} {t t':TE} (h:PE X e t) (w:∀ σ H Q,t' σ H Q->t σ H Q):PE X e t':=fun pins s σ H Q I q=>h pins s σ H Q I (w _ _ _ q)
theorem vd2 {e:Expr} {t t':TT} (h:PT X e t) (w:∀ σ H Q,t' σ H Q->t σ H Q):PT X e t':=fun pins s σ H Q I q=>h pins s σ H Q I (w _ _ _ q)
theorem w82 {e:Expr} {t t':TT} (h:PW X e t) (w:∀ σ H Q,t' σ H Q->t σ H Q):PW X e t':=fun wh pins s σ H Q I q=>h wh pins s σ H Q I (w _ _ _ q)
theorem w86 {e:List Expr} {t t':TA} (h:PA X e t) (w:∀ σ H Q,t' σ H Q->t σ H Q):PA X e t':=fun pos pins s σ H Q I q=>h pos pins s σ H Q I (w _ _ _ q)
theorem uj0 {e:Stmt} {t t':TS} (h:PS X e t) (w:∀ D σ H,t' D σ H->t D σ H):PS X e t':=fun pins s σ H D I q=>h pins s σ H D I (w _ _ _ q)
theorem vm3 {e:List Stmt} {t t':TS} (h:PSs X e t) (w:∀ D σ H,t' D σ H->t D σ H):PSs X e t':=fun pins s σ H D I q=>h pins s σ H D I (w _ _ _ q)
theorem vr4 {e:Expr} {t t':TG} (h:PG X e t) (w:∀ v σ H Q,t' v σ H Q->t v σ H Q):PG X e t':=fun pins s σ H v u Q I r q=>h pins s σ H v u Q I r (w _ _ _ _ q)
theorem vm5 {e:List Expr} {t t':TGs} (h:PGs X e t) (w:∀ v σ H Q,t' v σ H Q->t v σ H Q):PGs X e t':=fun pins s σ H v u Q I r q=>h pins s σ H v u Q I r (w _ _ _ _ q)
theorem vr2 {t t':TSet} (h:PSet X t) (w:∀ o i v H Q,t' o i v H Q->t o i v H Q):PSet X t':=fun pins s σ H o i v ov iv u Q I r1 r2 r3 q=>h pins s σ H o i v ov iv u Q I r1 r2 r3 (w _ _ _ _ _ q)
theorem vd3 {tg e:Expr} {t t':TI} (h:PI X tg e t) (w:∀ σ H R,t' σ H R->t σ H R):PI X tg e t':=fun pins s σ H R I q=>h pins s σ H R I (w _ _ _ q)
theorem u57 {f:Value->Value->Sem Value} {r r':R2} (h:OpR X f r) (w:∀ x y H Q,r' x y H Q->r x y H Q):OpR X f r':=fun pins s σ H x y v u Q I a b q=>h pins s σ H x y v u Q I a b (w _ _ _ _ q)
theorem w83 {f:Value->Sem Value} {r r':V->Hp->VK->Prop} (h:UnR X f r) (w:∀ x H Q,r' x H Q->r x H Q):UnR X f r':=fun pins s σ H x v Q I a q=>h pins s σ H x v Q I a (w _ _ _ q)
theorem u37 {f:Value} {r r':List V->Hp->VK->Prop} (h:CallR X f r) (w:∀ x H Q,r' x H Q->r x H Q):CallR X f r':=fun pins s σ H x v Q I a q=>h pins s σ H x v Q I a (w _ _ _ q)
theorem ud2 {id:String} {r r':V->List V->Hp->VK->Prop} (h:MtR X id r) (w:∀ x xs H Q,r' x xs H Q->r x xs H Q):MtR X id r':=fun pins s σ H x xs v us Q I a b q=>h pins s σ H x xs v us Q I a b (w _ _ _ _ q)
theorem w85 {r r':R2} (h:IxR X r) (w:∀ x y H Q,r' x y H Q->r x y H Q):IxR X r':=fun va sl pins s σ H x y v u Q I a b q=>h va sl pins s σ H x y v u Q I a b (w _ _ _ _ q)
theorem vm4 {r r':V->Option Int->Option Int->Hp->VK->Prop} (h:SlR X r) (w:∀ x l u H Q,r' x l u H Q->r x l u H Q):SlR X r':=by
 intro pins s σ H x lo hi
 intros
 apply h <;> first | assumption | (apply w;assumption)
theorem w84 {e:Option Expr} {t t':TO} (h:PO X e t) (w:∀ σ H Q,t' σ H Q->t σ H Q):PO X e t':=by
 intro pins s σ H Q I q;exact h pins s σ H Q I (w _ _ _ q)
theorem vr3 {e:List Expr} {t t':TT} (h:PIfs X e t) (w:∀ σ H Q,t' σ H Q->t σ H Q):PIfs X e t':=fun pins s σ H Q I q=>h pins s σ H Q I (w _ _ _ q)
end
def E3 (X:Cx) (e:Expr) (t:TE3):Prop:=PE X e (lowE X.K t)
def T3 (X:Cx) (e:Expr) (t:TT3):Prop:=PT X e (lowT X.K t)
def W3 (X:Cx) (e:Expr) (t:TT3):Prop:=PW X e (lowT X.K t)
def A3 (X:Cx) (es:List Expr) (t:TA3):Prop:=PA X es (lowA X.K t)
def S3 (X:Cx) (st:Stmt) (t:TS3):Prop:=PS X st (lowS X.K t)
def Ss3 (X:Cx) (sts:List Stmt) (t:TS3):Prop:=PSs X sts (lowS X.K t)
def J3 (X:Cx) (e:Expr) (t:TG3):Prop:=PG X e (lowG X.K t)
def Js3 (X:Cx) (es:List Expr) (t:TGs3):Prop:=PGs X es (vi9 X.K t)
def I3 (X:Cx) (tg e:Expr) (t:TI3):Prop:=PI X tg e (lowI X.K t)
def O3 (X:Cx) (e:Option Expr) (t:TO3):Prop:=PO X e (lowO X.K t)
def Ifs3 (X:Cx) (es:List Expr) (t:TT3):Prop:=PIfs X es (lowT X.K t)
abbrev Op3 (X:Cx) (f:Value->Value->Sem Value) (r:R3):Prop:=OpR X f (lowR X.K r)
abbrev Call3 (X:Cx) (f:Value) (r:C3):Prop:=CallR X f (lowC X.K r)
section
variable {X:Cx} {a b c e o:Expr} {es:List Expr} {pos apos cpos p p2:Pos} {ta tb tc te:TE3} {t u:TT3} {ts us:TA3}
theorem ev (i:Nat) {x:Str} {pos:Pos} (hN:X.N[i]?=some x:=by rfl) (hv:Vis X.env.scope x:=by first | exact Or.inl rfl | exact Or.inr (Or.inl rfl) | exact Or.inr (Or.inr rfl)) (hd:(x == ("__debug__" : Str))=false:=by decide)
  (hcd:(x == ("__classdict__" : Str))=false:=by decide):E3 X (.Name x pos) (dVar i):=u32 (vo6 hN hv hd hcd) fun _ _ _=>w01
theorem u04 {i j pos}:E3 X (.Constant (.int i) j pos) (dC (.int i)):=u32 wc8 fun _ _ _=>uy8 fun _=>by rw [RelD]
theorem e_bl {i j pos}:E3 X (.Constant (.bool i) j pos) (dC (.bl i)):=u32 wp6 fun _ _ _=>uy8 fun _=>by rw [RelD]
theorem u96 {j pos}:E3 X (.Constant .none j pos) (dC .non):=u32 wc6 fun _ _ _=>uy8 fun _=>by rw [RelD]
theorem u09 {x j pos}:E3 X (.Constant (.str x) j pos) (dC (.str x)):=u32 wc3 fun _ _ _=>uy8 fun _=>by rw [RelD]
theorem uw0 {x:Str} {d:D} {v:V} {w:Value} (hg:Gl X x) (hm:X.mg x=some w) (r:RelV v w) (rd:∀ H,RelD X.K H d v) (hd:(x == ("__debug__" : Str))=false:=by decide):E3 X (.Name x pos) (dC d) :=
 u32 (vy7 hg hm r hd) fun _ _ _=>uy8 rd
theorem u13 {op:Operator} {r:R3} (ho:Op3 X (binaryOp op) r) (ha:E3 X a ta) (hb:E3 X b tb):E3 X (.BinOp a op b pos) (dOp r ta tb):=u32 (wp4 ho ha hb) fun _ _ _=>uu9
theorem e_un {op:UnaryOp} {r:U3} (ho:UnR X (unaryOp op) (lowU X.K r)) (ha:E3 X a ta):E3 X (.UnaryOp op a pos) (dUn r ta):=u32 (wp2 ho ha) fun _ _ _=>wj0
theorem u55 {op:CmpOp} {r:R3} (ho:Op3 X (compareOp op) r) (ha:E3 X a ta) (hb:E3 X b tb) (hm:behindInMarks op b=false):E3 X (.Compare a [op] [b] pos) (dOp r ta tb):=u32 (vy9 ho ha hb hm) fun _ _ _=>uu9
theorem u11 {op:CmpOp} {r:R3} (ho:Op3 X (compareOp op) r) (ha:E3 X a ta) (hb:E3 X b tb) (hm:behindInMarks op b=false):T3 X (.Compare a [op] [b] pos) (dB (dOp r ta tb)) :=
 vd2 (vx3 ho ha hb hm) fun σ H Q h=>by
  obtain ⟨σd,G,q,rs,c,t,f⟩:=h;exact uu9 (K:=X.K) ⟨σd,G,_,rs,c,t,fun x G1 v H1 r1 c1 l1 t1=>by
   split at t1
   ·rename_i k
    exact ⟨k,r1.bl_inv,f _ _ _ c1 l1 t1⟩
   ·exact t1.elim⟩
theorem ua0 (h:E3 X e te) (he:∀ whole,isTrue e X.env whole=(do let v <- whole;standAt e.pos;holding [v] (truthy v)):=by intro _;rfl):T3 X e (dB te):=vd2 (wb0 h he) fun _ _ _=>wq4
theorem u50 (ha:T3 X a t):W3 X (.BoolOp .And [a] pos) t:=vx2 ha
theorem u94 (ha:T3 X a t):W3 X (.BoolOp .Or [a] pos) t:=wa8 ha
theorem w_and {rest:List Expr} (ha:T3 X a t) (hb:W3 X (.BoolOp .And (b::rest) pos) u):W3 X (.BoolOp .And (a::b::rest) pos) (dAnd t u):=w82 (wa9 ha hb) fun _ _ _=>vi7
theorem w_or {rest:List Expr} (ha:T3 X a t) (hb:W3 X (.BoolOp .Or (b::rest) pos) u):W3 X (.BoolOp .Or (a::b::rest) pos) (dOr t u):=w82 (wo8 ha hb) fun _ _ _=>w06
theorem t_w (h:W3 X e t):T3 X e t:=PW.pt h
theorem ua8 (ha:T3 X a t):T3 X (.UnaryOp .Not a pos) (dNot t):=vd2 (wb1 ha) fun _ _ _=>vh9
theorem ud8 {op} (h:E3 X a ta):E3 X (.BoolOp op [a] pos) ta:=wc4 h
theorem ud9 {rest:List Expr} (ha:E3 X a ta) (hb:E3 X (.BoolOp .And (b::rest) pos) tb):E3 X (.BoolOp .And (a::b::rest) pos) (w40 ta tb):=u32 (wd1 ha hb) fun _ _ _=>vi6
theorem e_or {rest:List Expr} (ha:E3 X a ta) (hb:E3 X (.BoolOp .Or (b::rest) pos) tb):E3 X (.BoolOp .Or (a::b::rest) pos) (dOrV ta tb):=u32 (wp3 ha hb) fun _ _ _=>w05
theorem wq7 (ha:E3 X a ta):E3 X (.UnaryOp .Not a pos) (w38 ta):=u32 (wc5 ha) fun _ _ _=>vh8
theorem e_if (hc:T3 X c t) (ha:E3 X a ta) (hb:E3 X b tb):E3 X (.IfExp c a b pos) (dIf t ta tb):=u32 (vg6 hc ha hb) fun _ _ _=>wj2
theorem u02:A3 X [] dNil:=w86 vo7 fun _ _ _=>v71
theorem u00 (ha:E3 X e te) (hr:A3 X es ts) (hs:starEach (e::es) X.env=(false,eval e X.env)::starEach es X.env:=by rfl):A3 X (e::es) (u83 te ts):=w86 (ur6 ha hr hs) fun _ _ _=>vi4
theorem u77 {x1} (h:A3 X es ts):E3 X (.Tuple es x1 pos) (dTup ts):=u32 (wc2 h) fun _ _ _=>w02
theorem u21 (h:A3 X es ts):E3 X (.List es pos) (dLst ts):=u32 (wc7 h) fun _ _ _=>w07
theorem e_ix {r:R3} (hr:IxR X (lowR X.K r)) (ha:E3 X a ta) (hb:E3 X b tb) (hs:vc7 b:=by exact fun _ _=>rfl):E3 X (.Subscript a b pos) (dOp r ta tb):=u32 (wp5 hr ha hb hs) fun _ _ _=>uu9
theorem u97:O3 X none us8:=w84 vy0 fun _ _ _=>uy7
theorem u60 (h:E3 X e te):O3 X (some e) (w37 te):=w84 (vx9 h) fun _ _ _=>vh7
theorem e_sl {r:RS3} {lo hi:Option Expr} {tl th:TO3} (hr:SlR X (vi8 X.K r)) (he:E3 X e te) (hl:O3 X lo tl) (hu:O3 X hi th):E3 X (.Subscript e (.Slice lo hi none p2) pos) (dSl r te tl th):=u32 (vg4 hr he hl hu) fun _ _ _=>wj1
end
section
variable {X:Cx} {a b c e o value:Expr} {es:List Expr} {st:Stmt} {sts sts2:List Stmt} {pos pos' spos tpos:Pos} {te ta tv:TE3} {t:TT3} {s1 s2:TS3} {g:TG3}
theorem u18:Ss3 X [] w39:=vm3 vx4 fun _ _ _=>vi0
theorem u03 (h1:S3 X st s1) (h2:Ss3 X sts s2):Ss3 X (st::sts) (dSeq s1 s2):=vm3 (uu6 h1 h2) fun _ _ _=>w03
theorem u06 (h1:S3 X st s1):Ss3 X [st] s1:=v44 h1
theorem u26 (he:E3 X e te) (hs:swapsWith e none pos.line X.env=pure false:=by rfl):S3 X (.Expr e pos) (uz5 te):=uj0 (v45 he hs) fun _ _ _=>uv1
theorem u17 (he:E3 X e te):S3 X (.Return (some e) pos) (dRet te):=uj0 (wb3 he) fun _ _ _=>w04
theorem s_if (hc:T3 X c t) (ha:Ss3 X sts s1) (hb:Ss3 X sts2 s2):S3 X (.If c sts sts2 pos) (dIfS t s1 s2):=uj0 (wo9 hc ha hb) fun _ _ _=>w08
theorem u35 (i:Nat) {x:Str} (hN:X.N.Nodup) (hi:X.N[i]?=some x:=by rfl) (hx:Loc X.env.scope x:=by first | exact Or.inl rfl | exact Or.inr rfl) (hf:X.fn x=true \/ X.env.scope.names.lookup x=some .local:=by first | exact .inl rfl | exact .inr rfl | assumption):J3 X (.Name x pos) (us2 i) :=
 vr4 (vy3 hN hi hx hf) fun _ _ _ _=>v72
theorem v79:Js3 X [] jNil:=vm5 vy2 fun _ _ _ _=>vi3
theorem ua4 {t:TG3} {u:TGs3} (h1:J3 X e t) (h2:Js3 X es u) (hs:(assignEach (e::es) X.env).map (·.2)=assign e X.env::(assignEach es X.env).map (·.2):=by rfl):Js3 X (e::es) (w20 t u):=vm5 (vg2 h1 h2 hs) fun _ _ _ _=>v73
theorem us1 {i:Expr} {to ti:TE3} {t:TSet3} (ho:E3 X o to) (hi:E3 X i ti) (hs:PSet X (v74 X.K t))
  (ha:∀ v,assign (.Subscript o i pos) X.env v=(do
   let ov <- holding [v] (eval o X.env)
   let iv <- holding [v,ov] (eval i X.env)
   standAt pos
   holding [v,ov,iv] (setItem ov iv v)
   release [v,ov,iv] []):=by intro _;rfl):J3 X (.Subscript o i pos) (jSub to ti t):=vr4 (wc1 ho hi hs ha) fun _ _ _ _=>vi2
theorem un8 {tg:Expr} (he:E3 X e te) (hg:J3 X tg g) (hs:swapsWithSole [tg] e pos.line X.env=pure false:=by rfl) (hw:swappedStores [tg] e X.env=pure none:=by rfl)
  (h1:(assignEach [tg] X.env).map (·.2)=[assign tg X.env]:=by rfl):S3 X (.Assign [tg] e pos) (dAsg te g):=uj0 (wb6 he hg hs hw h1) fun _ _ _=>w12
theorem u12 (i:Nat) {x:Str} (hN:X.N.Nodup) (he:E3 X e te) (hi:X.N[i]?=some x:=by rfl) (hx:Loc X.env.scope x:=by first | exact Or.inl rfl | exact Or.inr rfl) (hs:swapsWith e (some (.Name x pos')) pos.line X.env=pure false:=by rfl)
  (hf:X.fn x=true \/ X.env.scope.names.lookup x=some .local:=by first | exact .inl rfl | exact .inr rfl | assumption):S3 X (.Assign [.Name x pos'] e pos) (dAsg te (us2 i)) :=
 uj0 (wb2 hN hi hx he hs hf) fun D σ H h=>by
  obtain ⟨σd,G,q,rs,c,t,f⟩:=h;exact ⟨σd,G,_,rs,c,t,fun x G1 v H1 r1 c1 l1 t1=>f.nx _ _ _ _ ((rs.le l1).set i r1) c1 l1 t1⟩
theorem vt2 {body:List Stmt} (hc:T3 X c t) (hb:Ss3 X body s1) (hp:PassesOwn (model X.prog X.w) X.A X.env X.xe:=by exact PassesOwn.never):S3 X (.While c body [] pos) (uw9 t s1):=uj0 (vf6 hp hc hb) fun _ _ _=>v68
theorem un7 {tg iter:Expr} {body:List Stmt} {wi:TI3} (hi:I3 X tg iter wi) (hg:J3 X tg g) (hb:Ss3 X body s1) (hc:X.calm=true:=by rfl) (hp:PassesOwn (model X.prog X.w) X.A X.env X.xe:=by exact PassesOwn.never)
  (hs:∀ x,foldedSetIterable iter X.env x=pure x:=by intro _;rfl):S3 X (.For tg iter body [] pos) (dFor wi g s1):=uj0 (wb4 hp hc hi hg hb hs) fun _ _ _=>w09
theorem uz3 {C:Addr} {f:Str} (cl:Cls X.K C) (na:NoAttr X.K C f) (he:E3 X e te) (hb:attributeBase e f X.env (eval e X.env)=eval e X.env:=by rfl):E3 X (.Attribute e f pos) (dFld C te f):=u32 (wc9 he hb) fun _ _ _=>w10 cl na
theorem vw7 {C:Addr} {f:Str} (cl:Cls X.K C) (na:NoAttr X.K C f) (ha:E3 X o ta) (hv:E3 X value tv) (hs:swapsWith value (some (.Attribute o f pos')) pos.line X.env=pure false:=by rfl):S3 X (.Assign [.Attribute o f pos'] value pos) (w35 C ta tv f) :=
 uj0 (wb5 ha hv hs) fun _ _ _=>vh6 cl na
end
theorem v69 {K:W.Frag} {σ:L2.St} {H:Hp} {ta:TA3} {R:It->Hp->Prop} (h:lowI K (fun σ G r=>ta σ G fun ds G1=>match ds with | [.int j]=>(-(2 ^ 62)<=j /\ j < 2 ^ 62) /\ r ⟨rngD 0 j.toNat,fun _=>True⟩ G1 | _=>False) σ H R):wk9 (lowA K ta) σ H R:=by
 obtain ⟨σd,G,q,rs,c,t,f⟩:=h;refine ⟨σd,G,_,rs,c,t,fun ds G1 vs H1 r1 c1 l1 t1=>?_⟩;split at t1
 ·rename_i j
  obtain ⟨x,r,rfl,rx,rr⟩:=r1.inv_cons;rw [RelD] at rx;subst rx;rw [rr.inv_nil];exact ⟨j,rfl,t1.1.1,t1.1.2,f _ _ _ _ us4 c1 l1 t1.2⟩
 ·exact t1.elim
def w88 (ta:TA3):TI3:=fun σ G r=>ta σ G fun ds G1=>match ds with | [.int j]=>(-(2 ^ 62)<=j /\ j < 2 ^ 62) /\ r ⟨rngD 0 j.toNat,fun _=>True⟩ G1 | _=>False
def wo2 (ta:TA3):TI3:=fun σ G r=>ta σ G fun ds G1=>match ds with | [.int i,.int j]=>(-(2 ^ 62)<=i /\ i < 2 ^ 62 /\ -(2 ^ 62)<=j /\ j < 2 ^ 62) /\ r ⟨rngD i (j - i).toNat,fun _=>True⟩ G1 | _=>False
section
variable {X:Cx} {a b e o tg:Expr} {es:List Expr} {p pos apos cpos:Pos} {ta:TE3} {ts:TA3}
theorem uv7 (hg:Gl X "range") (hm:X.mg "range" = none) (ha:A3 X [a] ts) (hs:starEach [a] X.env=[(false,eval a X.env)]:=by rfl):I3 X tg (.Call (.Name "range" p) [a] [] pos) (w88 ts):=vd3 (v47 hg hm ha hs) fun _ _ _=>v69
variable {k:Nat} {f C:Addr} {fd:FuncData} {ps:List Str} {S:Sp3} {dds:List D} {dvs:List V} {ds:List Value} {x m:Str}
theorem wl6 (F:FnOk X.prog X.w X.K X.mg X.base CX0 k f fd ps (ua2 X.K S)) (hr:Room k X.A) (hg:Gl X x) (hm:X.mg x=some (.ref f)) (hk:W.keepIn X.K (.ref f)=true) (hb:Binds X.K fd ps ds) (hd:Vals dvs ds) (hdd:∀ H,RelDs X.K H dds dvs)
  (ha:A3 X (e::es) ts) (hdb:(x == ("__debug__" : Str))=false:=by decide) (he:starEach (e::es) X.env=(false,eval e X.env)::starEach es X.env:=by rfl) (hpl:(backTo pos (starEach es X.env)).any (·.1)=false:=by rfl) :
  E3 X (.Call (.Name x p) (e::es) [] pos) (dCall S dds ts):=u32 (ur4 F hr hg hm hk hb hd pass0 ha hdb he hpl) fun _ _ _=>vi5 hdd
theorem wl4 {pl:Sem Bool} (he:E3 X o ta) (c:Cls X.K C) (hm:Meth X.K C m f) (F:FnOk X.prog X.w X.K X.mg X.base CX0 k f fd ps (ua2 X.K S)) (hr:Room k X.A) (hb:Binds X.K fd ps ds) (hd:Vals dvs ds) (hdd:∀ H,RelDs X.K H dds dvs) (ha:A3 X (e::es) ts)
  (hse:starEach (e::es) X.env=(false,eval e X.env)::starEach es X.env:=by rfl) (hpl:(backTo pos (starEach es X.env)).any (·.1)=false:=by rfl)
  (ht:eval (.Call (.Attribute o m apos) (e::es) [] pos) X.env=(do
   let ov <- eval o X.env
   standAt apos.atName
   let (f,first) <- holding [ov] (getMethod ov m pl)
   callWith pos f first (backTo pos (starEach (e::es) X.env)) (backToKw pos (keywordEach [] X.env))):=by rfl):E3 X (.Call (.Attribute o m apos) (e::es) [] pos) (uz4 C m S dds ta ts) :=
 u32 (vy5 he c hm F hr hb hd pass0 ha hse hpl ht) fun _ _ _=>uv0 hdd
theorem w28 {pl:Sem Bool} (he:E3 X o ta) (c:Cls X.K C) (hm:Meth X.K C m f) (F:FnOk X.prog X.w X.K X.mg X.base CX0 k f fd ps (ua2 X.K S)) (hr:Room k X.A) (hb:Binds X.K fd ps ds) (hd:Vals dvs ds) (hdd:∀ H,RelDs X.K H dds dvs)
  (ht:eval (.Call (.Attribute o m apos) [] [] pos) X.env=(do
   let ov <- eval o X.env
   standAt apos.atName
   let (f,first) <- holding [ov] (getMethod ov m pl)
   callWith pos f first (backTo pos (starEach [] X.env)) (backToKw pos (keywordEach [] X.env))):=by rfl):E3 X (.Call (.Attribute o m apos) [] [] pos) (uz4 C m S dds ta dNil) :=
 u32 (vg5 he c hm F hr hb hd pass0 ht) fun σ H Q h=>by
  obtain ⟨σd,G,q,rs,cc,t,ff⟩:=uv0 (XE:=E0) hdd h;refine ⟨σd,G,q,rs,cc,t,fun d G1 v H1 r1 c1 l1 t1=>?_⟩;obtain ⟨a,dx,fs,e1,e2,e3,q3⟩:=ff d G1 v H1 r1 c1 l1 t1;exact ⟨a,dx,fs,e1,e2,e3,v71 q3⟩
theorem wl5 (M:Mk X.K C f) (F:FnOk X.prog X.w X.K X.mg X.base CX0 k f fd ps (ua2 X.K S)) (hr:Room (k+1) X.A) (hg:Gl X x) (hm:X.mg x=some (.ref C)) (hb:Binds X.K fd ps ds) (hd:Vals dvs ds) (hdd:∀ H,RelDs X.K H dds dvs)
  (ha:A3 X (e::es) ts) (hdb:(x == ("__debug__" : Str))=false:=by decide) (he:starEach (e::es) X.env=(false,eval e X.env)::starEach es X.env:=by rfl) (hpl:(backTo pos (starEach es X.env)).any (·.1)=false:=by rfl) :
  E3 X (.Call (.Name x p) (e::es) [] pos) (vk2 C S dds ts):=u32 (vy6 M F hr hg hm hb hd pass0 ha hdb he hpl) fun _ _ _=>vi1 hdd
variable {id T:String} {r:C3} {rm:M3} {name:Str}
theorem u10 (hc:Call3 X (.builtin id) r) (hg:Gl X x) (hm:X.mg x=none) (hv:bootBuiltins x=some (.builtin id)) (ha:A3 X (e::es) ts) (hn:x ≠ "__name__" := by decide) (hdb:(x == ("__debug__" : Str))=false:=by decide)
  (he:starEach (e::es) X.env=(false,eval e X.env)::starEach es X.env:=by rfl) (hpl:(backTo pos (starEach es X.env)).any (·.1)=false:=by rfl):E3 X (.Call (.Name x p) (e::es) [] pos) (dCB r ts) :=
 u32 (vg8 hc hg hm hv ha hn hdb he hpl) fun _ _ _=>vp2
theorem u14 (hc:Call3 X (.type T) r) (hg:Gl X x) (hm:X.mg x=none) (hv:bootBuiltins x=some (.type T)) (ha:A3 X (e::es) ts) (hn:x ≠ "__name__" := by decide) (hdb:(x == ("__debug__" : Str))=false:=by decide)
  (he:starEach (e::es) X.env=(false,eval e X.env)::starEach es X.env:=by rfl) (hpl:(backTo pos (starEach es X.env)).any (·.1)=false:=by rfl):E3 X (.Call (.Name x p) (e::es) [] pos) (dCB r ts) :=
 u32 (v48 hc hg hm hv ha hn hdb he hpl) fun _ _ _=>vp2
end
def uj8 (ix:List (Option Nat)) (σ:DSt):DSt:=ix.map fun o=>o.bind fun j=>(σ[j]?).bind id
def um4 (ok:Gp->Prop) (g:TG3) (tc:TT3) (te:TE3) (p:Addr) (q:DK):List D->DSt->Gp->Prop
 | [],_,G=>ok G /\ q (.ref p) G
 | x::r,σ,G=>ok G /\ g x σ G fun σ2 G2=>tc σ2 G2 fun b G3 =>
  if b=true then te σ2 G3 fun d G4=>(match G4 p with | some (.lst ys)=>ys.length < sizeLine /\ um4 ok g tc te p q r σ2 (gup G4 p (.lst (ys++[d]))) | _=>False)
  else um4 ok g tc te p q r σ2 G3
def vk3 (ix:List (Option Nat)) (wi:TI3) (g:TG3) (tc:TT3) (te:TE3):TE3:=fun σ G q=>wi σ G fun it G1=>∀ p,G1 p=none->um4 it.ok g tc te p q it.items (uj8 ix σ) (gup G1 p (.lst []))
theorem RelSt.inn {K:W.Frag} {H:Hp} {σd:DSt} {σ:L2.St} (h:RelSt K H σd σ) (ix:List (Option Nat)):RelSt K H (uj8 ix σd) (L2.inner ix σ):=by
 refine ⟨by unfold uj8 L2.inner;rw [List.length_map,List.length_map],fun i d e=>?_⟩;unfold uj8 at e;unfold L2.inner;rw [List.getElem?_map] at e ⊢;cases ho:ix[i]? with
 | none=>rw [ho] at e;cases e
 | some o =>
  rw [ho] at e;cases o with
  | none=>cases e
  | some j =>
   have e:(σd[j]?).bind id=some d:=Option.some.inj e;have e:σd[j]?=some (some d):=by
    cases hs:σd[j]? with
    | none=>rw [hs] at e;cases e
    | some w=>rw [hs] at e;cases e;rfl
   obtain ⟨v,hv,r⟩:=h.2 j d e;exact ⟨v,by show some ((σ[j]?).bind id)=_;rw [hv];rfl,r⟩
theorem uv2 {K:W.Frag} {ix:List (Option Nat)} {wi:TI3} {g:TG3} {tc:TT3} {te:TE3} {σ:L2.St} {H:Hp} {Q:VK} (h:lowE K (vk3 ix wi g tc te) σ H Q):vs1 ix (lowI K wi) (lowG K g) (lowT K tc) (lowE K te) σ H Q:=by
 obtain ⟨σd,G,q,rs,cc,t,f⟩:=h;refine ⟨σd,G,_,rs,cc,t,fun it J G1 H1 ir c1 l1 t1=>?_⟩;intro p hp;have t1:=t1 p (c1.fresh hp);have c2:Con K (gup G1 p (.lst [])) (upd H1 p (.lst [])):=c1.lstNew hp .nil;have l2:Le H1 (upd H1 p (.lst [])):=Le.fresh hp;refine ⟨fun i m σ' H'=>∃ σd' G',Le (upd H1 p (.lst [])) H' /\ RelSt K H' σd' σ' /\ Con K G' H' /\ i+m=it.items.length /\ um4 it.ok g tc te p q (it.items.drop i) σd' G',
  ⟨it.items.length,uj8 ix σd,_,Le.refl _,(rs.le (l1.trans l2)).inn ix,c2,by omega,by rw [List.drop_zero];exact t1⟩,?_⟩
 rintro i m σ2 H2 ⟨σd2,G2,l3,rs2,c2,e2,t2⟩;have l12:Le H1 H2:=l2.trans l3
 by_cases hi:i < it.items.length
 ·rw [List.drop_eq_getElem_cons hi] at t2
  obtain ⟨ok2,t2⟩:=t2;refine .inr ⟨ir.go i G2 H2 l12 c2 ok2 hi,fun σ' H'=>∃ σd' G',Le (upd H1 p (.lst [])) H' /\ RelSt K H' σd' σ' /\ Con K G' H' /\ um4 it.ok g tc te p q (it.items.drop (i+1)) σd' G',?_,?_⟩
  ·rintro σ' H' ⟨σd',G',a1,a2,a3,a4⟩
   exact ⟨m - 1,by omega,σd',G',a1,a2,a3,by omega,a4⟩
  ·intro x H3 y
   obtain ⟨c3,l4,e,he,r3⟩:=ir.yld i G2 H2 x H3 l12 c2 ok2 hi y;rw [List.getElem?_eq_getElem hi] at he;cases he;refine ⟨_,σd2,G2,_,r3,rs2.le l4,c3,t2,fun σd4 G4 σ4 H4 rs4 c4 l5 t4=>?_⟩;refine ⟨σd4,G4,_,rs4,c4,t4,fun b G5 H5 c5 l6 t5=>?_⟩;cases b with
   | false =>
    rw [if_neg Bool.false_ne_true] at t5 ⊢;exact ⟨σd4,G5,l3.trans (l4.trans (l5.trans l6)),rs4.le l6,c5,t5⟩
   | true =>
    rw [if_pos rfl] at t5 ⊢;refine ⟨σd4,G5,_,rs4.le l6,c5,t5,fun d G6 v H6 r6 c6 l7 t6=>?_⟩;split at t6
    ·rename_i ys eg
     obtain ⟨xs,ex,rx⟩:=c6 p _ eg;have l8:=Le.lst (ys:=xs++[v]) ex;exact ⟨xs,ex,by rw [<- rx.length];exact t6.1,σd4,_,l3.trans (l4.trans (l5.trans (l6.trans (l7.trans l8)))),rs4.le (l6.trans (l7.trans l8)),c6.lstSet ex (rx.append (.cons r6 .nil)),t6.2⟩
    ·exact t6.elim
 ·rw [List.drop_eq_nil_of_le (by omega)] at t2
  exact .inl ⟨ir.stop i G2 H2 l12 c2 t2.1 (by omega),f _ _ _ _ RelD.refI c2 (l1.trans l12) t2.2⟩
def dYes:TT3:=fun _ G q=>q true G
section
variable {X:Cx} {elt tg iter:Expr} {ifs:List Expr} {scope:Scope} {pos:Pos} {N':List Str} {ix:List (Option Nat)} {wi:TI3} {g:TG3} {tc:TT3} {te:TE3}
theorem uh4:Ifs3 X [] dYes:=vr3 vg0 fun σ H Q h=>by
 obtain ⟨σd,G,q,rs,c,t,f⟩:=h;exact f _ _ _ c (Le.refl H) t
theorem uh3 {c:Expr} (h:T3 X c tc):Ifs3 X [c] tc:=vf9 h
theorem ui0 (B:BlkOk X N' ix scope) (hw:I3 X tg iter wi) (hg:∀ C s H fp,J3 (u44 X N' scope C s H fp) tg g) (hi:∀ C s H fp,Ifs3 (u44 X N' scope C s H fp) ifs tc) (he:∀ C s H fp,E3 (u44 X N' scope C s H fp) elt te)
  (hc:X.calm=true:=by rfl) (hs:∀ x,foldedSetIterable iter X.env x=pure x:=by intro _;rfl):E3 X (.ListComp elt [⟨tg,iter,ifs,0⟩] scope pos) (vk3 ix wi g tc te) :=
 u32 (vy8 (g:=lowG X.K g) (tc:=lowT X.K tc) (te:=lowE X.K te) B hc hw hg hi he hs) fun _ _ _=>uv2
theorem v36 (i:Nat) {y:Str} {py spos:Pos} (hN:X.N.Nodup) (B:BlkOk X N' ix scope) (hw:I3 X tg iter wi) (hg:∀ C s H fp,J3 (u44 X N' scope C s H fp) tg g) (hi:∀ C s H fp,Ifs3 (u44 X N' scope C s H fp) ifs tc) (he:∀ C s H fp,E3 (u44 X N' scope C s H fp) elt te)
  (hy:X.N[i]?=some y:=by rfl) (hl:Loc X.env.scope y:=by first | exact Or.inl rfl | exact Or.inr rfl)
  (hc:X.calm=true:=by rfl) (hsw:swapsWith (.ListComp elt [⟨tg,iter,ifs,0⟩] scope pos) (some (.Name y py)) spos.line X.env=pure true:=by rfl)
  (hf:X.fn y=true \/ X.env.scope.names.lookup y=some .local:=by first | exact .inl rfl | exact .inr rfl | assumption)
  (hs:∀ x,foldedSetIterable iter X.env x=pure x:=by intro _;rfl):S3 X (.Assign [.Name y py] (.ListComp elt [⟨tg,iter,ifs,0⟩] scope pos) spos) (dAsg (vk3 ix wi g tc te) (us2 i)) :=
 uj0 (vx6 (g:=lowG X.K g) (tc:=lowT X.K tc) (te:=lowE X.K te) B hc hN hy hl hw hg hi he hsw hf hs) fun D σ H h=>by
  obtain ⟨σd,G,d,rs,c,t,f⟩:=h;exact uv2 (K:=X.K) ⟨σd,G,_,rs,c,t,fun x G1 v H1 r1 c1 l1 t1=>f.nx _ _ _ _ ((rs.le l1).set i r1) c1 l1 t1⟩
end
def xAdd:R3:=fun x y G q=>match x,y with
 | .int i,.int j=>q (.int (i+j)) G
 | .str a,.str b=>a.length+b.length<=sizeLine /\ q (.str (a++b)) G
 | .tup a,.tup b=>a ≠ [] /\ a.length+b.length<=sizeLine /\ q (.tup (a++b)) G
 | .ref a,.ref b=>(match G a,G b with
  | some (.lst xs),some (.lst ys)=>xs.length+ys.length<=sizeLine /\ ∀ p,G p=none->q (.ref p) (gup G p (.lst (xs++ys)))
  | _,_=>False)
 | _,_=>False
def xInt (f:Int->Int->Int):R3:=fun x y G q=>match x,y with | .int i,.int j=>q (.int (f i j)) G | _,_=>False
def ul1 (C:Int->Int->Prop) (f:Int->Int->Int):R3:=fun x y G q=>match x,y with | .int i,.int j=>C i j /\ q (.int (f i j)) G | _,_=>False
def xSub:R3:=xInt fun i j=>i - j
def xMul:R3:=fun x y G q=>match x,y with
 | .int i,.int j=>CMul i j /\ q (.int (i * j)) G
 | .ref a,.int k=>(match G a with
  | some (.lst xs)=>(-(2 ^ 63)<=k /\ k < 2 ^ 63 /\ xs.length * k.toNat<=sizeLine) /\ ∀ p,G p=none->q (.ref p) (gup G p (.lst (List.replicate k.toNat xs).flatten))
  | _=>False)
 | _,_=>False
def wn4 (_ j:Int):Prop:=0 < j /\ j < 18446744073709551616
def xDiv:R3:=ul1 wn4 fun i j=>i / j
def xMod:R3:=ul1 (fun _ j=>0 < j) fun i j=>i % j
def xPow:R3:=ul1 CPow fun i j=>i ^ j.toNat
def xShl:R3:=ul1 CPow fun i j=>i * 2 ^ j.toNat
def xShr:R3:=ul1 (fun _ j=>0<=j) fun i j=>i / 2 ^ j.toNat
def xAnd:R3:=xInt Builtin.bitAnd
def xOr:R3:=xInt Builtin.bitOr
def xXor:R3:=xInt Builtin.bitXor
def xLt:R3:=fun x y G q=>match x,y with | .int i,.int j=>q (.bl (decide (i < j))) G | .str a,.str b=>q (.bl (decide (a.cps.toList < b.cps.toList))) G | _,_=>False
def xLe:R3:=fun x y G q=>match x,y with | .int i,.int j=>q (.bl (decide (i<=j))) G | _,_=>False
def xGt:R3:=fun x y G q=>match x,y with | .int i,.int j=>q (.bl (decide (j < i))) G | _,_=>False
def xGe:R3:=fun x y G q=>match x,y with | .int i,.int j=>q (.bl (decide (j<=i))) G | _,_=>False
section
variable {X:Cx} {K:W.Frag} {H:Hp}
theorem RelD.int_inv {i:Int} {v:V} (h:RelD K H (.int i) v):v=.int i:=by rw [RelD] at h;exact h
theorem RelD.str_inv {i:Str} {v:V} (h:RelD K H (.str i) v):v=.str i:=by rw [RelD] at h;exact h
theorem RelD.non_inv {v:V} (h:RelD K H .non v):v=.non:=by rw [RelD] at h;exact h
theorem RelD.tup_inv {ds:List D} {v:V} (h:RelD K H (.tup ds) v):∃ a xs,v=.ref a /\ SqT K H a xs /\ RelDs K H ds xs:=by rw [RelD] at h;exact h
theorem RelD.intI {i:Int}:RelD K H (.int i) (.int i):=by rw [RelD]
theorem RelD.strI {i:Str}:RelD K H (.str i) (.str i):=by rw [RelD]
theorem RelD.blI {i:Bool}:RelD K H (.bl i) (.bl i):=by rw [RelD]
theorem RelD.nonI:RelD K H .non .non:=by rw [RelD]
theorem wo0 {f:Value->Value->Sem Value} {g:Int->Int->Int} (h:OpR X f (rI0 fun i j=>.int (g i j))):Op3 X f (xInt g):=u57 h fun x y H Q ⟨d,e,G,q,r1,r2,c,t,f⟩=>by
 unfold xInt at t;split at t
 ·exact ⟨_,_,r1.int_inv,r2.int_inv,f _ _ _ _ RelD.intI c (Le.refl H) t⟩
 ·exact t.elim
theorem ut8 {f:Value->Value->Sem Value} {C:Int->Int->Prop} {g:Int->Int->Int} (h:OpR X f (rI C fun i j=>.int (g i j))):Op3 X f (ul1 C g):=u57 h fun x y H Q ⟨d,e,G,q,r1,r2,c,t,f⟩=>by
 unfold ul1 at t;split at t
 ·exact ⟨_,_,r1.int_inv,r2.int_inv,t.1,f _ _ _ _ RelD.intI c (Le.refl H) t.2⟩
 ·exact t.elim
theorem ux6:Op3 X (binaryOp .Sub) xSub:=wo0 wd2
theorem vg9:OpR X (binaryOp .FloorDiv) (rI wn4 fun i j=>.int (i / j)):=opI fun i j _ _ _ _ _ hc q=>by
 have hl:j.natAbs.log2 < 9000:=by
  have h1:=hc.1;have h2:=hc.2;have hn:j.natAbs ≠ 0:=by omega
  have:j.natAbs.log2 < 64:=(Nat.log2_lt hn).mpr (by omega);omega
 refine floordiv_int (by have:=hc.1;omega) ?_ (.inl (PyProof.noPylong_of_log2 hl));rw [Int.fdiv_eq_ediv_of_nonneg i (by have:=hc.1;omega)];exact q
theorem w77:Op3 X (binaryOp .FloorDiv) xDiv:=ut8 vg9
theorem ue8:Op3 X (binaryOp .Mod) xMod:=ut8 wd7
theorem wn9:Op3 X (binaryOp .Pow) xPow:=ut8 wd5
theorem vq5:Op3 X (binaryOp .LShift) xShl:=ut8 wd3
theorem u24:Op3 X (binaryOp .Add) xAdd:=u57 (op_add.or (op_add_str.or (op_catT.or we0))) <| by
 rintro x y H Q ⟨d,e,G,q,r1,r2,c,t,f⟩;unfold xAdd at t;split at t
 ·exact .inl ⟨_,_,r1.int_inv,r2.int_inv,f _ _ _ _ RelD.intI c (Le.refl H) t⟩
 ·exact .inr (.inl ⟨_,_,r1.str_inv,r2.str_inv,t.1,f _ _ _ _ RelD.strI c (Le.refl H) t.2⟩)
 ·obtain ⟨a,xs,rfl,s1,q1⟩:=r1.tup_inv
  obtain ⟨b,ys,rfl,s2,q2⟩:=r2.tup_inv;refine .inr (.inr (.inl ⟨a,b,xs,ys,rfl,rfl,s1,s2,fun z=>t.1 ?_,by rw [<- q1.length,<- q2.length];exact t.2.1,fun z=>?_,fun _ p hp=>?_⟩))
  ·have:=q1.length;rw [z] at this;exact List.eq_nil_of_length_eq_zero this
  ·refine f (.tup _) G (.ref a) _ ?_ c (Le.refl _) t.2.2
   rw [RelD];subst z;have e:∀ {bs:List D},RelDs X.K H bs []->bs=[]:=fun h=>List.eq_nil_of_length_eq_zero h.length
   rw [e q2,List.append_nil];exact ⟨a,_,rfl,s1,q1⟩
  ·refine f (.tup _) G (.ref p) _ ?_ (c.side hp) (Le.fresh hp) t.2.2
   rw [RelD];exact ⟨p,_,rfl,SqT.of u23,RelDs.le (Le.fresh hp) (q1.append q2)⟩
 ·rename_i a b
  split at t
  ·rename_i xs ys e1 e2
   obtain ⟨vs,h1,q1⟩:=c _ _ e1;obtain ⟨ws,h2,q2⟩:=c _ _ e2;exact .inr (.inr (.inr ⟨a,b,vs,ws,r1.ref_inv,r2.ref_inv,h1,h2,by rw [<- q1.length,<- q2.length];exact t.1,fun p hp=>f _ _ _ _ RelD.refI (c.lstNew hp (q1.append q2)) (Le.fresh hp) (t.2 p (c.fresh hp))⟩))
  ·exact t.elim
 ·exact t.elim
theorem ud6:Op3 X (binaryOp .Mult) xMul:=u57 (op_mul.or wd4) <| by
 rintro x y H Q ⟨d,e,G,q,r1,r2,c,t,f⟩;unfold xMul at t;split at t
 ·exact .inl ⟨_,_,r1.int_inv,r2.int_inv,t.1,f _ _ _ _ RelD.intI c (Le.refl H) t.2⟩
 ·rename_i a k
  split at t
  ·rename_i xs e1
   obtain ⟨vs,h1,q1⟩:=c _ _ e1;refine .inr ⟨a,k,vs,r1.ref_inv,r2.int_inv,h1,t.1.1,t.1.2.1,by rw [<- q1.length];exact t.1.2.2,?_⟩;intro p hp;exact f _ _ _ _ RelD.refI (c.lstNew hp (q1.rep _)) (Le.fresh hp) (t.2 p (c.fresh hp))
  ·exact t.elim
 ·exact t.elim
theorem v08 {f:Value->Value->Sem Value} {g:Int->Int->Bool} (h:OpR X f (rI0 fun i j=>.bl (g i j))):Op3 X f (fun x y G q=>match x,y with | .int i,.int j=>q (.bl (g i j)) G | _,_=>False):=u57 h fun x y H Q ⟨d,e,G,q,r1,r2,c,t,f⟩=>by
 dsimp only at t;split at t
 ·exact ⟨_,_,r1.int_inv,r2.int_inv,f _ _ _ _ RelD.blI c (Le.refl H) t⟩
 ·exact t.elim
theorem x_le:Op3 X (compareOp .LtE) xLe:=v08 wp7
theorem x_gt:Op3 X (compareOp .Gt) xGt:=v08 wp8
theorem x_ge:Op3 X (compareOp .GtE) xGe:=v08 wp9
theorem x_lt:Op3 X (compareOp .Lt) xLt:=u57 (op_lt.or v49) <| by
 rintro x y H Q ⟨d,e,G,q,r1,r2,c,t,f⟩;unfold xLt at t;split at t
 ·exact .inl ⟨_,_,r1.int_inv,r2.int_inv,f _ _ _ _ RelD.blI c (Le.refl H) t⟩
 ·exact .inr ⟨_,_,r1.str_inv,r2.str_inv,f _ _ _ _ RelD.blI c (Le.refl H) t⟩
 ·exact t.elim
theorem RelD.not_non {d:D} {v:V} (h:RelD K H d v) (n:d ≠ .non):v ≠ .non:=by
 cases d with
 | non=>exact absurd rfl n
 | bl _=>rw [h.bl_inv];exact fun z=>nomatch z
 | int _=>rw [h.int_inv];exact fun z=>nomatch z
 | str _=>rw [h.str_inv];exact fun z=>nomatch z
 | ref _=>rw [h.ref_inv];exact fun z=>nomatch z
 | ty _=>rw [RelD] at h;rw [h];exact fun z=>nomatch z
 | tup _=>obtain ⟨a,xs,e,_⟩:=h.tup_inv;rw [e];exact fun z=>nomatch z
def xNeg:U3:=fun x G q=>match x with | .int i=>q (.int (-i)) G | _=>False
theorem ud5:UnR X (unaryOp .USub) (lowU X.K xNeg):=w83 w89 <| by
 rintro x H Q ⟨d,G,q,r1,c,t,f⟩;unfold xNeg at t;split at t
 ·exact ⟨_,r1.int_inv,f _ _ _ _ RelD.intI c (Le.refl H) t⟩
 ·exact t.elim
def xIx:R3:=fun x y G q=>match x,y with
 | .tup ds,.int i=>(match atI ds i with | some d=>q d G | none=>False)
 | .ref a,.int i=>(match u08 (G a) with | some ds=>(match atI ds i with | some d=>q d G | none=>False) | none=>False)
 | .str z,.int i=>z.length<=sizeLine /\ (match atI z.cps.toList i with | some c=>q (.str ⟨#[c]⟩) G | none=>False)
 | _,_=>False
theorem RelDs.atI {ds:List D} {xs:List V} {i:Int} {d:D} (h:RelDs K H ds xs) (e:L2.atI ds i=some d):∃ v,L2.atI xs i=some v /\ RelD K H d v:=by
 unfold L2.atI at e ⊢;rw [<- h.length];cases hj:ixN ds.length i with
 | none=>rw [hj] at e;cases e
 | some j =>
  rw [hj] at e;exact h.get e
theorem x_ix:IxR X (lowR X.K xIx):=w85 wk3 <| by
 rintro x y H Q ⟨d,e,G,q,r1,r2,c,t,f⟩;unfold xIx at t;split at t
 ·rename_i ds i
  obtain ⟨a,xs,rfl,s1,q1⟩:=r1.tup_inv;split at t
  ·rename_i w ew
   obtain ⟨v,hv,rv⟩:=q1.atI ew;exact .inr (.inl ⟨a,xs,i,v,rfl,r2.int_inv,s1,hv,f _ _ _ _ rv c (Le.refl H) t⟩)
  ·exact t.elim
 ·rename_i a i
  split at t
  ·rename_i ds es
   obtain ⟨xs,s1,q1⟩:=u27 c es;split at t
   ·rename_i w ew
    obtain ⟨v,hv,rv⟩:=q1.atI ew;exact .inl ⟨a,xs,i,v,r1.ref_inv,r2.int_inv,s1,hv,f _ _ _ _ rv c (Le.refl H) t⟩
   ·exact t.elim
  ·exact t.elim
 ·rename_i z i
  obtain ⟨hz,t⟩:=t;split at t
  ·rename_i w ew
   exact .inr (.inr ⟨z,i,w,r1.str_inv,r2.int_inv,hz,ew,f _ _ _ _ RelD.strI c (Le.refl H) t⟩)
  ·exact t.elim
 ·exact t.elim
def cutD {α:Type} (xs:List α) (lo hi:Option Int):List α:=(xs.drop (HT.sIx xs.length 0 lo)).take (HT.sIx xs.length xs.length hi - HT.sIx xs.length 0 lo)
theorem RelDs.cut {ds:List D} {xs:List V} (h:RelDs K H ds xs) (lo hi:Option Int):RelDs K H (cutD ds lo hi) (cutV xs lo hi):=by
 unfold cutD cutV;rw [h.length];exact (h.drop _).take _
def xSet:TSet3:=fun o i v G q=>match o,i with
 | .ref a,.int k=>(match G a with | some (.lst ds)=>(match ixN ds.length k with | some j=>q (gup G a (.lst (ds.set j v))) | none=>False) | _=>False)
 | _,_=>False
theorem uq4:PSet X (v74 X.K xSet):=vr2 set_list <| by
 rintro o i v H Q ⟨d,e,x,G,q,r1,r2,r3,c,t,f⟩;unfold xSet at t;split at t
 ·rename_i a k
  split at t
  ·rename_i ds e1
   obtain ⟨xs,h1,q1⟩:=c _ _ e1;split at t
   ·rename_i j ej
    exact ⟨a,xs,k,j,r1.ref_inv,r2.int_inv,h1,by rw [<- q1.length];exact ej,f _ _ (c.lstSet h1 (q1.set r3 j)) (Le.lst h1) t⟩
   ·exact t.elim
  ·exact t.elim
 ·exact t.elim
end
inductive Sn where
 | non | bl (b:Bool) | int (i:Int) | str (x:Str) | tup (xs:List Sn) | lst (xs:List Sn)
def snap (G:Gp):Nat->D->Option Sn
 | _,.non=>some .non
 | _,.bl b=>some (.bl b)
 | _,.int i=>some (.int i)
 | _,.str x=>some (.str x)
 | n+1,.tup ds=>(ds.mapM (snap G n)).map .tup
 | n+1,.ref a=>(u08 (G a)).bind fun ds=>(ds.mapM (snap G n)).map .lst
 | _,_=>none
def u45:Sn->Bool
 | .non=>true | .bl _=>true | .int _=>true | .str _=>true | _=>false
def eqF:Sn->Sn->Bool
 | .non,.non=>true
 | .bl a,.bl b=>a == b
 | .bl a,.int b=>(if a then 1 else 0) == b
 | .int a,.bl b=>a == (if b then 1 else 0)
 | .int a,.int b=>a == b
 | .str a,.str b=>a == b
 | _,_=>false
def eqN:Nat->Sn->Sn->Option Bool
 | n+1,.tup xs,.tup ys=>if xs.length=ys.length then ((xs.zip ys).mapM fun p=>eqN n p.1 p.2).map fun bs=>bs.all id else none
 | n+1,.lst xs,.lst ys=>if xs.length=ys.length then ((xs.zip ys).mapM fun p=>eqN n p.1 p.2).map fun bs=>bs.all id else some false
 | _,x,y=>if (u45 x && u45 y)=true then some (eqF x y) else none
theorem u29 {α β:Type} {f:α->Option β}:∀ {xs:List α} {ys:List β},xs.mapM f=some ys->xs.length=ys.length /\ ∀ (i:Nat) x,xs[i]?=some x->∃ y,ys[i]?=some y /\ f x=some y
 | [],ys,h=>by
  have:ys=[]:=by simpa using h.symm
  subst this;exact ⟨rfl,fun i x e=>by simp at e⟩
 | x::xs,ys,h=>by
  rw [List.mapM_cons] at h;cases hx:f x with
  | none=>rw [hx] at h;cases h
  | some y =>
   rw [hx] at h;cases hr:xs.mapM f with
   | none=>rw [hr] at h;cases h
   | some r =>
    rw [hr] at h;have e:y::r=ys:=Option.some.inj h;subst e;obtain ⟨h1,h2⟩:=u29 hr;refine ⟨by simp [h1],fun i z e=>?_⟩;cases i with
    | zero=>cases (show x=z from Option.some.inj e);exact ⟨y,rfl,hx⟩
    | succ i=>exact h2 i z e
theorem uk1 {bs:List Bool} {e:Nat->Bool} {n:Nat} (hl:bs.length=n) (h:∀ (i:Nat) b,bs[i]?=some b->e i=b):(List.range n).all e=bs.all id:=by
 rw [Bool.eq_iff_iff,List.all_eq_true,List.all_eq_true]
 constructor
 ·intro q b hb
  obtain ⟨i,hi,eb⟩:=List.mem_iff_getElem.mp hb;have:=q i (List.mem_range.mpr (by omega));rw [h i b (by rw [List.getElem?_eq_getElem hi,eb])] at this;exact this
 ·intro q i hi
  have hi:=List.mem_range.mp hi;rw [h i bs[i] (List.getElem?_eq_getElem (by omega))];exact q _ (List.getElem_mem _)
section
variable {X:Cx} {pins:List (Addr × Obj)} {σ:L2.St} {H:Hp} {s:Shared} {G:Gp}
theorem us6 {n:Nat} {d:D} {sd:Sn} {x:V} {u:Value} (h:snap G n d=some sd) (fl:u45 sd=true) (r:RelD X.K H d x):uh8 x=true /\ ∀ (e:D) (se:Sn) (y:V),snap G n e=some se->u45 se=true->RelD X.K H e y->eqV x y=eqF sd se:=by
  have key:∀ (d:D) (sd:Sn) (x:V),snap G n d=some sd->u45 sd=true->RelD X.K H d x->(sd=.non /\ x=.non) \/ (∃ b,sd=.bl b /\ x=.bl b) \/ (∃ i,sd=.int i /\ x=.int i) \/ (∃ z,sd=.str z /\ x=.str z):=by
    intro d sd x h fl r;cases d with
    | non => have e : Sn.non = sd := by cases n <;> exact Option.some.inj h
             subst e;exact .inl ⟨rfl,r.non_inv⟩
    | bl b => have e : Sn.bl b = sd := by cases n <;> exact Option.some.inj h
              subst e;exact .inr (.inl ⟨b,rfl,r.bl_inv⟩)
    | int b => have e : Sn.int b = sd := by cases n <;> exact Option.some.inj h
               subst e;exact .inr (.inr (.inl ⟨b,rfl,r.int_inv⟩))
    | str b => have e : Sn.str b = sd := by cases n <;> exact Option.some.inj h
               subst e;exact .inr (.inr (.inr ⟨b,rfl,r.str_inv⟩))
    | tup ds =>
      cases n with
      | zero=>cases h
      | succ n =>
        have h:(ds.mapM (snap G n)).map Sn.tup=some sd:=h;obtain ⟨a,_,rfl⟩:=Option.map_eq_some_iff.mp h;cases fl
    | ref a =>
      cases n with
      | zero=>cases h
      | succ n =>
        have h:((u08 (G a)).bind fun ds=>(ds.mapM (snap G n)).map Sn.lst)=some sd:=h;obtain ⟨ds,_,h⟩:=Option.bind_eq_some_iff.mp h;obtain ⟨a,_,rfl⟩:=Option.map_eq_some_iff.mp h;cases fl
    | ty t=>cases n <;> cases h
  rcases key d sd x h fl r with ⟨rfl,rfl⟩ | ⟨b,rfl,rfl⟩ | ⟨b,rfl,rfl⟩ | ⟨b,rfl,rfl⟩ <;> refine ⟨rfl,fun e se y h' fl' r'=>?_⟩ <;>
    rcases key e se y h' fl' r' with ⟨rfl,rfl⟩ | ⟨c,rfl,rfl⟩ | ⟨c,rfl,rfl⟩ | ⟨c,rfl,rfl⟩ <;> rfl
theorem snap_tup {n:Nat} {ds:List D} {sd:Sn} (h:snap G n (.tup ds)=some sd):∃ m ss,n=m+1 /\ sd=.tup ss /\ ds.mapM (snap G m)=some ss:=by
 cases n with
 | zero=>cases h
 | succ n =>
  obtain ⟨ss,h1,rfl⟩:=Option.map_eq_some_iff.mp (show (ds.mapM (snap G n)).map Sn.tup=some sd from h);exact ⟨n,ss,rfl,rfl,h1⟩
theorem snap_ref {n:Nat} {a:Addr} {sd:Sn} (h:snap G n (.ref a)=some sd):∃ m ds ss,n=m+1 /\ sd=.lst ss /\ u08 (G a)=some ds /\ ds.mapM (snap G m)=some ss:=by
 cases n with
 | zero=>cases h
 | succ n =>
  obtain ⟨ds,h0,h⟩:=Option.bind_eq_some_iff.mp (show ((u08 (G a)).bind fun ds=>(ds.mapM (snap G n)).map Sn.lst)=some sd from h);obtain ⟨ss,h1,rfl⟩:=Option.map_eq_some_iff.mp h;exact ⟨n,ds,ss,rfl,rfl,h0,h1⟩
theorem uv9 {n:Nat} {x y:Sn} (hx:u45 x=true):eqN n x y=if (u45 x && u45 y)=true then some (eqF x y) else none:=by
 cases x with
 | tup _=>cases hx
 | lst _=>cases hx
 | non=>cases n <;> rfl
 | bl _=>cases n <;> rfl
 | int _=>cases n <;> rfl
 | str _=>cases n <;> rfl
theorem u92 {n:Nat} {x y:Sn} {b:Bool} (h:eqN n x y=some b) (fl:¬ (u45 x && u45 y)=true):(∃ m xs ys,n=m+1 /\ x=.tup xs /\ y=.tup ys) \/ (∃ m xs ys,n=m+1 /\ x=.lst xs /\ y=.lst ys):=by
 unfold eqN at h;split at h
 ·exact .inl ⟨_,_,_,rfl,rfl,rfl⟩
 ·exact .inr ⟨_,_,_,rfl,rfl,rfl⟩
 ·rw [if_neg fl] at h;cases h
theorem u58 {n:Nat} {d:D} {ss:List Sn} (h:snap G n d=some (.tup ss)):∃ ds,d=.tup ds:=by
 cases d with
 | tup ds=>exact ⟨ds,rfl⟩
 | ref a=>obtain ⟨_,_,_,_,e',_⟩:=snap_ref h;cases e'
 | _=>cases n <;> cases h
theorem u59 {n:Nat} {d:D} {ss:List Sn} (h:snap G n d=some (.lst ss)):∃ a,d=.ref a:=by
 cases d with
 | ref a=>exact ⟨a,rfl⟩
 | tup ds=>obtain ⟨_,_,_,e',_⟩:=snap_tup h;cases e'
 | _=>cases n <;> cases h
theorem un6 {n:Nat} {d e:D} {x:V} {sd se:Sn} {b:Bool} (r1:RelD X.K H d x) (r2:RelD X.K H e x) (h1:snap G n d=some sd) (h2:snap G n e=some se) (hb:eqN n sd se=some b) (fl:(u45 sd && u45 se)=true):b=true:=by
 rw [Bool.and_eq_true] at fl;have z:=hb;rw [uv9 fl.1,if_pos (by rw [fl.1,fl.2];rfl)] at z;obtain ⟨fx,k⟩:=us6 (u:=Value.none) h1 fl.1 r1;rw [<- Option.some.inj z,<- k e se x h2 fl.2 r2];cases x with
 | non=>rfl
 | bl b=>exact beq_self_eq_true b
 | int i=>exact beq_self_eq_true i
 | str w=>exact beq_self_eq_true w
 | _=>cases fx
theorem v35 (I:Inv X pins σ H s) (c:Con X.K G H):∀ (n:Nat) (d e:D) (x:V) (sd se:Sn) (b:Bool),RelD X.K H d x->RelD X.K H e x->snap G n d=some sd->snap G n e=some se->eqN n sd se=some b->b=true:=by
 intro n
 induction n with
 | zero =>
  intro d e x sd se b r1 r2 h1 h2 hb
  by_cases fl:(u45 sd && u45 se)=true
  ·exact un6 r1 r2 h1 h2 hb fl
  ·rcases u92 hb fl with ⟨_,_,_,z,_⟩ | ⟨_,_,_,z,_⟩ <;> cases z
 | succ m ih =>
  intro d e x sd se b r1 r2 h1 h2 hb
  by_cases fl:(u45 sd && u45 se)=true
  ·exact un6 r1 r2 h1 h2 hb fl
  have items:∀ (ds es:List D) (xs:List V) (ss ts:List Sn) (bs:List Bool),RelDs X.K H ds xs->RelDs X.K H es xs->ds.mapM (snap G m)=some ss->es.mapM (snap G m)=some ts->((ss.zip ts).mapM fun p=>eqN m p.1 p.2)=some bs->bs.all id=true:=by
   intro ds es xs ss ts bs q1 q2 k1 k2 kb;rw [List.all_eq_true];intro b hb;obtain ⟨i,hi,eb⟩:=List.mem_iff_getElem.mp hb;obtain ⟨l1,f1⟩:=u29 k1;obtain ⟨l2,f2⟩:=u29 k2;obtain ⟨l3,f3⟩:=u29 kb;have hz:(ss.zip ts).length=min ss.length ts.length:=List.length_zip;have e1:=q1.length;have e2:=q2.length;have hds:i < ds.length:=by omega
   have hes:i < es.length:=by omega
   obtain ⟨y1,g1,s1⟩:=f1 i ds[i] (List.getElem?_eq_getElem hds);obtain ⟨y2,g2,s2⟩:=f2 i es[i] (List.getElem?_eq_getElem hes);have hzip:(ss.zip ts)[i]?=some (y1,y2):=by rw [List.getElem?_zip_eq_some];exact ⟨g1,g2⟩
   obtain ⟨b',g3,s3⟩:=f3 i _ hzip;rw [List.getElem?_eq_getElem hi,eb] at g3;cases g3;obtain ⟨z1,hz1,rz1⟩:=q1.get (List.getElem?_eq_getElem hds);obtain ⟨z2,hz2,rz2⟩:=q2.get (List.getElem?_eq_getElem hes);rw [hz1] at hz2;cases hz2;exact ih ds[i] es[i] z1 y1 y2 b rz1 rz2 s1 s2 s3
  rcases u92 hb fl with ⟨m',ss,ts,em,rfl,rfl⟩ | ⟨m',ss,ts,em,rfl,rfl⟩
  ·cases em
   obtain ⟨ds,rfl⟩:=u58 h1;obtain ⟨es,rfl⟩:=u58 h2;obtain ⟨_,_,em,ez,k1⟩:=snap_tup h1;cases em;cases ez;obtain ⟨_,_,em,ez,k2⟩:=snap_tup h2;cases em;cases ez;obtain ⟨a,xs,rfl,q1,rr1⟩:=r1.tup_inv;obtain ⟨a',ys,e',q2,rr2⟩:=r2.tup_inv;cases e';have:=I.tuple_inj q1 q2;subst this;unfold eqN at hb;split at hb
   ·obtain ⟨bs,kb,rfl⟩:=Option.map_eq_some_iff.mp hb
    exact items ds es xs ss ts bs rr1 rr2 k1 k2 kb
   ·cases hb
  ·cases em
   obtain ⟨a,rfl⟩:=u59 h1;obtain ⟨a',rfl⟩:=u59 h2;cases r1.ref_inv;have e':=r2.ref_inv;cases e';obtain ⟨_,ds,_,em,ez,hs1,k1⟩:=snap_ref h1;cases em;cases ez;obtain ⟨_,es,_,em,ez,hs2,k2⟩:=snap_ref h2;cases em;cases ez;rw [hs1] at hs2;cases hs2;rw [k1] at k2;cases k2;obtain ⟨xs,_,rr⟩:=u27 c hs1;unfold eqN at hb;split at hb
   ·obtain ⟨bs,kb,rfl⟩:=Option.map_eq_some_iff.mp hb
    exact items ds ds xs ss ss bs rr rr k1 k1 kb
   ·rename_i h;exact absurd rfl h
structure SeqPair (G:Gp) (K:W.Frag) (H:Hp) (m:Nat) (its its2:List Value) (bs:List Bool):Prop where
 len:its.length=its2.length
 bl:bs.length=its.length
 at_:∀ (j:Nat) (h1:j < its.length) (h2:j < its2.length) (h3:j < bs.length),∃ d e x y sd se,RelD K H d x /\ RelV x its[j] /\ RelD K H e y /\ RelV y its2[j] /\ snap G m d=some sd /\ snap G m e=some se /\ eqN m sd se=some bs[j]
theorem uc3 {m:Nat} {ds es:List D} {xs ys:List V} {its its2:List Value} {ss ts:List Sn} {bs:List Bool} (q1:RelDs X.K H ds xs) (v1:Vals xs its) (q2:RelDs X.K H es ys) (v2:Vals ys its2)
  (k1:ds.mapM (snap G m)=some ss) (k2:es.mapM (snap G m)=some ts) (hl:ss.length=ts.length) (kb:((ss.zip ts).mapM fun p=>eqN m p.1 p.2)=some bs):SeqPair G X.K H m its its2 bs:=by
 obtain ⟨l1,f1⟩:=u29 k1;obtain ⟨l2,f2⟩:=u29 k2;obtain ⟨l3,f3⟩:=u29 kb;have hz:(ss.zip ts).length=min ss.length ts.length:=List.length_zip;have e1:=q1.length;have e2:=q2.length;have e3:=v1.length;have e4:=v2.length;refine ⟨by omega,by omega,fun j h1 h2 h3=>?_⟩;have hds:j < ds.length:=by omega
 have hes:j < es.length:=by omega
 obtain ⟨y1,g1,s1⟩:=f1 j ds[j] (List.getElem?_eq_getElem hds);obtain ⟨y2,g2,s2⟩:=f2 j es[j] (List.getElem?_eq_getElem hes);have hzip:(ss.zip ts)[j]?=some (y1,y2):=by rw [List.getElem?_zip_eq_some];exact ⟨g1,g2⟩
 obtain ⟨b',g3,s3⟩:=f3 j _ hzip;rw [List.getElem?_eq_getElem h3] at g3;cases g3;obtain ⟨z1,hz1,rz1⟩:=q1.get (List.getElem?_eq_getElem hds);obtain ⟨z2,hz2,rz2⟩:=q2.get (List.getElem?_eq_getElem hes);obtain ⟨u1,hu1,ru1⟩:=v1.get hz1;obtain ⟨u2,hu2,ru2⟩:=v2.get hz2;rw [List.getElem?_eq_getElem h1] at hu1;rw [List.getElem?_eq_getElem h2] at hu2;cases hu1;cases hu2;exact ⟨ds[j],es[j],z1,z2,y1,y2,rz1,ru1,rz2,ru2,s1,s2,s3⟩
end
section
variable {X:Cx} {pins:List (Addr × Obj)} {σ:L2.St} {H:Hp} {s:Shared} {G:Gp}
theorem v98 (I:Inv X pins σ H s) {n:Nat} {A:Around} {d e:D} {x y:V} {u v:Value} {sd se:Sn} {b:Bool} (r1:RelD X.K H d x) (v1:RelV x u) (r2:RelD X.K H e y) (v2:RelV y v) (h1:snap G n d=some sd) (h2:snap G n e=some se) (hb:eqN n sd se=some b) (fl:(u45 sd && u45 se)=true):SeqAt.EqAt A s u v b:=by
 rw [Bool.and_eq_true] at fl;have hb':b=eqF sd se:=by
  have z:=hb;rw [uv9 fl.1,if_pos (by rw [fl.1,fl.2];rfl)] at z;exact (Option.some.inj z).symm
 obtain ⟨fx,k⟩:=us6 (u:=u) h1 fl.1 r1;obtain ⟨fy,_⟩:=us6 (u:=v) h2 fl.2 r2;rw [hb',<- k e se y h2 fl.2 r2];exact vp7 v1 v2 fx fy
theorem vj9 (I:Inv X pins σ H s) (c:Con X.K G H):∀ (n:Nat) (A:Around) (d e:D) (x y:V) (u v:Value) (sd se:Sn) (b:Bool),RelD X.K H d x->RelV x u->RelD X.K H e y->RelV y v->snap G n d=some sd->snap G n e=some se->eqN n sd se=some b->A.units+n < cLine->SeqAt.EqAt A s u v b:=by
 intro n
 induction n with
 | zero =>
  intro A d e x y u v sd se b r1 v1 r2 v2 h1 h2 hb hu
  by_cases fl:(u45 sd && u45 se)=true
  ·exact v98 I r1 v1 r2 v2 h1 h2 hb fl
  ·rcases u92 hb fl with ⟨_,_,_,z,_⟩ | ⟨_,_,_,z,_⟩ <;> cases z
 | succ m ih =>
  intro A d e x y u v sd se b r1 v1 r2 v2 h1 h2 hb hu
  by_cases fl:(u45 sd && u45 se)=true
  ·exact v98 I r1 v1 r2 v2 h1 h2 hb fl
  ·have inner:∀ (its its2:List Value) (bs:List Bool),SeqPair G X.K H m its its2 bs->∀ j (h1:j < its.toArray.size) (h2:j < its2.toArray.size),SeqAt.EqAt A.in1 s its.toArray[j] its2.toArray[j] ((bs[j]?).getD true):=by
    intro its its2 bs P j h1 h2;have h1':j < its.length:=by simpa using h1
    have h2':j < its2.length:=by simpa using h2
    have h3':j < bs.length:=by rw [P.bl];exact h1'
    obtain ⟨d',e',x',y',sd',se',a1,a2,a3,a4,a5,a6,a7⟩:=P.at_ j h1' h2' h3'
    rw [List.getElem?_eq_getElem h3'];have hu':A.in1.units+m < cLine:=by
     have:A.in1.units=A.units+1:=rfl;omega
    have:=ih A.in1 d' e' x' y' _ _ sd' se' _ a1 a2 a3 a4 a5 a6 a7 hu';simpa using this
   rcases u92 hb fl with ⟨m',ss,ts,em,rfl,rfl⟩ | ⟨m',ss,ts,em,rfl,rfl⟩
   ·cases em
    obtain ⟨ds,rfl⟩:=u58 h1;obtain ⟨es,rfl⟩:=u58 h2;obtain ⟨_,_,em,ez,k1⟩:=snap_tup h1;cases em;cases ez;obtain ⟨_,_,em,ez,k2⟩:=snap_tup h2;cases em;cases ez;obtain ⟨a,xs,rfl,q1,rr1⟩:=r1.tup_inv;obtain ⟨a',ys,rfl,q2,rr2⟩:=r2.tup_inv;cases v1;cases v2
    by_cases haa:a=a'
    ·subst haa
     rw [v35 I c (m+1) (.tup ds) (.tup es) (.ref a) _ _ b r1 r2 h1 h2 hb];exact SeqAt.EqAt.same _
    ·unfold eqN at hb
     split at hb
     ·rename_i hlen
      obtain ⟨bs,kb,rfl⟩:=Option.map_eq_some_iff.mp hb;obtain ⟨its,w1,t1,_⟩:=I.tuple q1;obtain ⟨its2,w2,t2,_⟩:=I.tuple q2;have P:=uc3 rr1 w1 rr2 w2 k1 k2 hlen kb;have R:=SeqAt.RcAt.tuples (A:=A) (s:=s) (e:=fun j=>(bs[j]?).getD true) (show s.heap.IsTuple a its.toArray from t1) (show s.heap.IsTuple a' its2.toArray from t2) (by omega) (inner its its2 bs P);have e1:((List.range (min its.toArray.size its2.toArray.size)).all (fun j=>(bs[j]?).getD true) && its.toArray.size == its2.toArray.size)=bs.all id:=by
       have el:its.toArray.size=its2.toArray.size:=by simpa using P.len
       rw [el,Nat.min_self,beq_self_eq_true,Bool.and_true];exact uk1 (by rw [<- el];simpa using P.bl) fun i b hb=>by rw [hb];rfl
      rw [e1] at R;exact SeqAt.EqAt.of_refs haa R
     ·cases hb
   ·cases em
    obtain ⟨a,rfl⟩:=u59 h1;obtain ⟨a',rfl⟩:=u59 h2;obtain ⟨_,ds,_,em,ez,hs1,k1⟩:=snap_ref h1;cases em;cases ez;obtain ⟨_,es,_,em,ez,hs2,k2⟩:=snap_ref h2;cases em;cases ez;cases r1.ref_inv;cases r2.ref_inv;cases v1;cases v2
    by_cases haa:a=a'
    ·subst haa
     rw [v35 I c (m+1) (.ref a) (.ref a) (.ref a) _ _ b r1 r2 h1 h2 hb];exact SeqAt.EqAt.same _
    ·obtain ⟨xs,q1,rr1⟩:=u27 c hs1
     obtain ⟨ys,q2,rr2⟩:=u27 c hs2;obtain ⟨its,w1,t1,_⟩:=I.list q1;obtain ⟨its2,w2,t2,_⟩:=I.list q2;unfold eqN at hb;split at hb
     ·rename_i hlen
      obtain ⟨bs,kb,rfl⟩:=Option.map_eq_some_iff.mp hb;have P:=uc3 rr1 w1 rr2 w2 k1 k2 hlen kb;have el:its.toArray.size=its2.toArray.size:=by simpa using P.len
      have R:=SeqAt.RcAt.lists (A:=A) (s:=s) (e:=fun j=>(bs[j]?).getD true) t1.isList t2.isList el (by omega) (inner its its2 bs P);have e1:((List.range its.toArray.size).all (fun j=>(bs[j]?).getD true))=bs.all id :=
       uk1 (by simpa using P.bl) fun i b hb=>by rw [hb];rfl
      rw [e1] at R;exact SeqAt.EqAt.of_refs haa R
     ·rename_i hlen
      cases hb;have n1:=(u29 k1).1;have n2:=(u29 k2).1;have m1:=rr1.length;have m2:=rr2.length;have m3:=w1.length;have m4:=w2.length;exact SeqAt.EqAt.of_refs haa (SeqAt.RcAt.lists_lengths t1.isList t2.isList (by simp;omega) (by omega))
end
def rEqD (K:W.Frag) (neg:Bool):R2:=fun x y H Q=>∃ (d e:D) (G:Gp) (n:Nat) (sd se:Sn) (b:Bool),RelD K H d x /\ RelD K H e y /\ Con K G H /\ n<=40 /\ snap G n d=some sd /\ snap G n e=some se /\ eqN n sd se=some b /\ u45 sd=false /\ Q (.bl (if neg then !b else b)) H
section
variable {X:Cx} {k:Nat}
theorem wd9 (hr:Room k X.A):OpR X (compareOp .Eq) (rEqD X.K false):=by
  intro pins s σ H x y v u Q I rx ry h;obtain ⟨d,e,G,n,sd,se,b,r1,r2,c,hn,h1,h2,hb,fl,q⟩:=h;have hu:=hr.units;have fin:EP X pins σ Q (.bool b) s:=⟨.bl b,H,I,rfl,q⟩
  rcases u92 hb (fun z=>by rw [fl] at z;cases z) with ⟨m,ss,ts,rfl,rfl,rfl⟩ | ⟨m,ss,ts,rfl,rfl,rfl⟩
  · obtain ⟨ds,rfl⟩:=u58 h1
    obtain ⟨es,rfl⟩:=u58 h2
    · · · obtain ⟨_,ss',em,ez,k1⟩ := snap_tup h1
          cases em;cases ez;obtain ⟨m',ts',em,es',k2⟩:=snap_tup h2;cases em;cases es';obtain ⟨a,xs,rfl,q1,rr1⟩:=r1.tup_inv;obtain ⟨a',ys,rfl,q2,rr2⟩:=r2.tup_inv;cases rx;cases ry;unfold eqN at hb;split at hb
          · rename_i hlen
            obtain ⟨bs,kb,rfl⟩:=Option.map_eq_some_iff.mp hb;obtain ⟨its,w1,t1,_⟩:=I.tuple q1;obtain ⟨its2,w2,t2,_⟩:=I.tuple q2;have P:=uc3 rr1 w1 rr2 w2 k1 k2 hlen kb;refine SeqAt.eq_tupleAt (e:=fun j=>(bs[j]?).getD true) (show s.heap.IsTuple a its.toArray from t1) (show s.heap.IsTuple a' its2.toArray from t2) (by omega) ?_ ?_
            · intro j h1 h2
              have h1':j < its.length:=by simpa using h1
              have h2':j < its2.length:=by simpa using h2
              have h3':j < bs.length:=by rw [P.bl];exact h1'
              obtain ⟨d',e',x',y',sd',se',a1,a2,a3,a4,a5,a6,a7⟩:=P.at_ j h1' h2' h3'
              rw [List.getElem?_eq_getElem h3'];have:=vj9 I c m X.A.in1 d' e' x' y' _ _ sd' se' _ a1 a2 a3 a4 a5 a6 a7 (by have:X.A.in1.units=X.A.units+1:=rfl;omega);simpa using this
            · have e1 : ((List.range (min its.toArray.size its2.toArray.size)).all (fun j => (bs[j]?).getD true) && its.toArray.size == its2.toArray.size) = bs.all id := by
                have el:its.toArray.size=its2.toArray.size:=by simpa using P.len
                rw [el,Nat.min_self,beq_self_eq_true,Bool.and_true];exact uk1 (by rw [<- el];simpa using P.bl) fun i b hb=>by rw [hb];rfl
              rw [e1];exact fin
          · cases hb
  · obtain ⟨a,rfl⟩:=u59 h1
    obtain ⟨a',rfl⟩:=u59 h2
    · · · obtain ⟨_,ds,ss',em,ez,hs1,k1⟩ := snap_ref h1
          cases em;cases ez;obtain ⟨m',es,ts',em,es',hs2,k2⟩:=snap_ref h2;cases em;cases es';cases r1.ref_inv;cases r2.ref_inv;cases rx;cases ry;obtain ⟨xs,q1,rr1⟩:=u27 c hs1;obtain ⟨ys,q2,rr2⟩:=u27 c hs2;obtain ⟨its,w1,t1,_⟩:=I.list q1;obtain ⟨its2,w2,t2,_⟩:=I.list q2;unfold eqN at hb;split at hb
          · rename_i hlen
            obtain ⟨bs,kb,rfl⟩:=Option.map_eq_some_iff.mp hb;have P:=uc3 rr1 w1 rr2 w2 k1 k2 hlen kb;have el:its.toArray.size=its2.toArray.size:=by simpa using P.len
            refine SeqAt.eq_listAt (e:=fun j=>(bs[j]?).getD true) t1.isList t2.isList el (by omega) ?_ ?_
            · intro j h1 h2
              have h1':j < its.length:=by simpa using h1
              have h2':j < its2.length:=by simpa using h2
              have h3':j < bs.length:=by rw [P.bl];exact h1'
              obtain ⟨d',e',x',y',sd',se',a1,a2,a3,a4,a5,a6,a7⟩:=P.at_ j h1' h2' h3'
              rw [List.getElem?_eq_getElem h3'];have:=vj9 I c m X.A.in1 d' e' x' y' _ _ sd' se' _ a1 a2 a3 a4 a5 a6 a7 (by have:X.A.in1.units=X.A.units+1:=rfl;omega);simpa using this
            · have e1 : ((List.range its.toArray.size).all (fun j => (bs[j]?).getD true)) = bs.all id :=
                uk1 (by simpa using P.bl) fun i b hb=>by rw [hb];rfl
              rw [e1];exact fin
          · rename_i hlen
            cases hb;have n1:=(u29 k1).1;have n2:=(u29 k2).1;have m1:=rr1.length;have m2:=rr2.length;have m3:=w1.length;have m4:=w2.length;exact SeqAt.eq_list_lengthsAt t1.isList t2.isList (by simp;omega) (by omega) fin
theorem wd6 (hr:Room k X.A):OpR X (compareOp .NotEq) (rEqD X.K true):=by
  intro pins s σ H x y v u Q I rx ry h;obtain ⟨d,e,G,n,sd,se,b,r1,r2,c,hn,h1,h2,hb,fl,q⟩:=h;have hu:=hr.units;have fin:EP X pins σ Q (.bool (!b)) s:=⟨.bl (!b),H,I,rfl,q⟩
  rcases u92 hb (fun z=>by rw [fl] at z;cases z) with ⟨m,ss,ts,rfl,rfl,rfl⟩ | ⟨m,ss,ts,rfl,rfl,rfl⟩
  · obtain ⟨ds,rfl⟩:=u58 h1
    obtain ⟨es,rfl⟩:=u58 h2
    · · · obtain ⟨_,ss',em,ez,k1⟩ := snap_tup h1
          cases em;cases ez;obtain ⟨m',ts',em,es',k2⟩:=snap_tup h2;cases em;cases es';obtain ⟨a,xs,rfl,q1,rr1⟩:=r1.tup_inv;obtain ⟨a',ys,rfl,q2,rr2⟩:=r2.tup_inv;cases rx;cases ry;unfold eqN at hb;split at hb
          · rename_i hlen
            obtain ⟨bs,kb,rfl⟩:=Option.map_eq_some_iff.mp hb;obtain ⟨its,w1,t1,_⟩:=I.tuple q1;obtain ⟨its2,w2,t2,_⟩:=I.tuple q2;have P:=uc3 rr1 w1 rr2 w2 k1 k2 hlen kb;refine SeqAt.RcNeAt.tuples (e:=fun j=>(bs[j]?).getD true) (show s.heap.IsTuple a its.toArray from t1) (show s.heap.IsTuple a' its2.toArray from t2) (by omega) ?_ X.prog X.w X.xe _ ?_
            · intro j h1 h2
              have h1':j < its.length:=by simpa using h1
              have h2':j < its2.length:=by simpa using h2
              have h3':j < bs.length:=by rw [P.bl];exact h1'
              obtain ⟨d',e',x',y',sd',se',a1,a2,a3,a4,a5,a6,a7⟩:=P.at_ j h1' h2' h3'
              rw [List.getElem?_eq_getElem h3'];have:=vj9 I c m X.A.in1 d' e' x' y' _ _ sd' se' _ a1 a2 a3 a4 a5 a6 a7 (by have:X.A.in1.units=X.A.units+1:=rfl;omega);simpa using this
            · have e1 : ((List.range (min its.toArray.size its2.toArray.size)).all (fun j => (bs[j]?).getD true) && its.toArray.size == its2.toArray.size) = bs.all id := by
                have el:its.toArray.size=its2.toArray.size:=by simpa using P.len
                rw [el,Nat.min_self,beq_self_eq_true,Bool.and_true];exact uk1 (by rw [<- el];simpa using P.bl) fun i b hb=>by rw [hb];rfl
              rw [e1];exact fin
          · cases hb
  · obtain ⟨a,rfl⟩:=u59 h1
    obtain ⟨a',rfl⟩:=u59 h2
    · · · obtain ⟨_,ds,ss',em,ez,hs1,k1⟩ := snap_ref h1
          cases em;cases ez;obtain ⟨m',es,ts',em,es',hs2,k2⟩:=snap_ref h2;cases em;cases es';cases r1.ref_inv;cases r2.ref_inv;cases rx;cases ry;obtain ⟨xs,q1,rr1⟩:=u27 c hs1;obtain ⟨ys,q2,rr2⟩:=u27 c hs2;obtain ⟨its,w1,t1,_⟩:=I.list q1;obtain ⟨its2,w2,t2,_⟩:=I.list q2;unfold eqN at hb;split at hb
          · rename_i hlen
            obtain ⟨bs,kb,rfl⟩:=Option.map_eq_some_iff.mp hb;have P:=uc3 rr1 w1 rr2 w2 k1 k2 hlen kb;have el:its.toArray.size=its2.toArray.size:=by simpa using P.len
            refine SeqAt.RcNeAt.lists (e:=fun j=>(bs[j]?).getD true) t1.isList t2.isList el (by omega) ?_ X.prog X.w X.xe _ ?_
            · intro j h1 h2
              have h1':j < its.length:=by simpa using h1
              have h2':j < its2.length:=by simpa using h2
              have h3':j < bs.length:=by rw [P.bl];exact h1'
              obtain ⟨d',e',x',y',sd',se',a1,a2,a3,a4,a5,a6,a7⟩:=P.at_ j h1' h2' h3'
              rw [List.getElem?_eq_getElem h3'];have:=vj9 I c m X.A.in1 d' e' x' y' _ _ sd' se' _ a1 a2 a3 a4 a5 a6 a7 (by have:X.A.in1.units=X.A.units+1:=rfl;omega);simpa using this
            · have e1 : ((List.range its.toArray.size).all (fun j => (bs[j]?).getD true)) = bs.all id :=
                uk1 (by simpa using P.bl) fun i b hb=>by rw [hb];rfl
              rw [e1];exact fin
          · rename_i hlen
            cases hb;have n1:=(u29 k1).1;have n2:=(u29 k2).1;have m1:=rr1.length;have m2:=rr2.length;have m3:=w1.length;have m4:=w2.length;exact SeqAt.RcNeAt.lists_lengths t1.isList t2.isList (by simp;omega) (by omega) X.prog X.w X.xe _ fin
end
structure FnAt (K:W.Frag) (x qual:Str) (st:Stmt) (ps:List Str) where
 a:Addr
 fd:FuncData
 ex:∃ (oc:Value) (od:Option Addr) (dV kV doc pm:Value) (an:Option Addr) (cdv ct:Value) (osl:Array (Option Value)),
  fd=W.fnOf x qual (u38 st) (u33 st) (u05 st) dV kV doc pm an cdv ct /\ K.lookup a=some ⟨oc,od,.func fd,osl⟩ /\ W.codeIn K cdv qual=true
 kp:W.keepIn K (.ref a)=true
 b:Binds K fd ps []
abbrev Ok (P:Program) (w:World) {K:W.Frag} (mg:Str->Option Value) (base:Heap) (n:Nat) {x qual:Str} {st:Stmt} {ps:List Str} (d:FnAt K x qual st ps) (S:Sp3):Prop:=FnOk P w K mg base CX0 n d.a d.fd ps (ua2 K S)
def uf4 (N:List Str) (ds:List D):DSt:=ds.map some++List.replicate (N.length - ds.length) none
theorem uj3 {K:W.Frag} {H:Hp} {N:List Str} {ds:List D} {vs:List V} (r:RelDs K H ds vs):RelSt K H (uf4 N ds) (L2.start N vs):=by
 unfold uf4 L2.start;refine ⟨by simp [r.length],fun i d e=>?_⟩
 by_cases hi:i < ds.length
 ·rw [List.getElem?_append_left (by simpa using hi),List.getElem?_map] at e
  rw [List.getElem?_append_left (by simpa [<- r.length] using hi),List.getElem?_map];cases h:ds[i]? with
  | none=>rw [h] at e;cases e
  | some d' =>
   rw [h] at e;cases e;obtain ⟨v,hv,rv⟩:=r.get h;exact ⟨v,by rw [hv];rfl,rv⟩
 ·rw [List.getElem?_append_right (by simpa using hi),List.getElem?_replicate] at e
  split at e <;> cases e
section
variable {P:Program} {w:World} {K:W.Frag} {mg:Str->Option Value} {base:Heap}
theorem u19 {x qual:Str} {st:Stmt} {ps N:List Str} {k:Nat} (d:FnAt K x qual st ps) {S:Sp3} (sc:FnScope N ps (u05 st)) (hl:∀ ds G R,S ds G R->ds.length=ps.length) {t:TS3}
  (ht:∀ (cdv:Value) (A:Around) (outer:List Env) (s:Shared) (H:Hp) (E:XK),Room k (A.deeper (envOfC qual (u05 st) s.heap.objs.size d.a cdv))->Ss3 (cxOf CX0 P w K mg base N qual (u05 st) d.a cdv A outer s H E).nox (u33 st) t)
  (hb:∀ ds G R,S ds G R->t { nx:=fun _ G'=>R .non G',rt:=R } (uf4 N ds) G):Ok P w mg base (k+1) d S:=by
 obtain ⟨oc,od,dV,kV,doc,pm,an,cdv,ct,osl,e,lk,hcd⟩:=d.ex;have lk':K.lookup d.a=some ⟨oc,od,.func (W.fnOf x qual (u38 st) (u33 st) (u05 st) dV kV doc pm an cdv ct),osl⟩:=e ▸ lk;have F:FnOk P w K mg base CX0 (k+1) d.a (W.fnOf x qual (u38 st) (u33 st) (u05 st) dV kV doc pm an cdv ct) ps (ua2 K S):=by
  refine w25 lk' hcd sc (fun vs H Q E h=>?_) fun A outer s H vs Q E hr h=>?_
  ·obtain ⟨ds,G,R,r,_,hS,_⟩:=h
   rw [<- r.length];exact hl ds G R hS
  ·obtain ⟨ds,G,R,r,c,hS,f⟩:=h
   refine ⟨_,(show PSs _ _ _ from ht cdv A outer s H E hr).nox,uf4 N ds,G,_,uj3 r,c,hb ds G R hS,fun σd' G' σ' H' _ c' l' q=>?_,f,fun _ _ _ _ _ _ _ q=>q.elim,fun _ _ _ _ _ _ _ q=>q.elim⟩;exact f .non G' .non H' RelD.nonI c' l' q
 have F2:=F;rw [<- e] at F2;exact F2
end
section
variable {X:Cx} {e o:Expr} {es:List Expr} {p pos apos:Pos} {ta:TE3} {ts:TA3} {k n:Nat} {S:Sp3} {x m qual:Str} {st:Stmt} {ps:List Str} {C:Addr}
theorem ec (d:FnAt X.K x qual st ps) (hm:X.mg x=some (.ref d.a)) (G:FnOk X.prog X.w X.K X.mg X.base CX0 k d.a d.fd ps (ua2 X.K S)) (hr:Room k X.A) (ha:A3 X (e::es) ts) (hg:Gl X x:=by rfl) (hdb:(x == ("__debug__" : Str))=false:=by decide)
  (he:starEach (e::es) X.env=(false,eval e X.env)::starEach es X.env:=by rfl) (hpl:(backTo pos (starEach es X.env)).any (·.1)=false:=by rfl):E3 X (.Call (.Name x p) (e::es) [] pos) (dCall S [] ts) :=
 wl6 G hr hg hm d.kp d.b .nil (fun _=>.nil) ha hdb he hpl
theorem em {pl:Sem Bool} (c:Cls X.K C) (d:FnAt X.K m qual st ps) (hm:Meth X.K C m d.a) (G:FnOk X.prog X.w X.K X.mg X.base CX0 k d.a d.fd ps (ua2 X.K S)) (hr:Room k X.A) (he:E3 X o ta) (ha:A3 X (e::es) ts)
  (hse:starEach (e::es) X.env=(false,eval e X.env)::starEach es X.env:=by rfl) (hpl:(backTo pos (starEach es X.env)).any (·.1)=false:=by rfl)
  (ht:eval (.Call (.Attribute o m apos) (e::es) [] pos) X.env=(do
   let ov <- eval o X.env
   standAt apos.atName
   let (f,first) <- holding [ov] (getMethod ov m pl)
   callWith pos f first (backTo pos (starEach (e::es) X.env)) (backToKw pos (keywordEach [] X.env))):=by rfl):E3 X (.Call (.Attribute o m apos) (e::es) [] pos) (uz4 C m S [] ta ts) :=
 wl4 he c hm G hr d.b .nil (fun _=>.nil) ha hse hpl ht
theorem em0 {pl:Sem Bool} (c:Cls X.K C) (d:FnAt X.K m qual st ps) (hm:Meth X.K C m d.a) (G:FnOk X.prog X.w X.K X.mg X.base CX0 k d.a d.fd ps (ua2 X.K S)) (hr:Room k X.A) (he:E3 X o ta)
  (ht:eval (.Call (.Attribute o m apos) [] [] pos) X.env=(do
   let ov <- eval o X.env
   standAt apos.atName
   let (f,first) <- holding [ov] (getMethod ov m pl)
   callWith pos f first (backTo pos (starEach [] X.env)) (backToKw pos (keywordEach [] X.env))):=by rfl):E3 X (.Call (.Attribute o m apos) [] [] pos) (uz4 C m S [] ta dNil) :=
 w28 he c hm G hr d.b .nil (fun _=>.nil) ht
end
def wm7 (osc:Scope) (N N':List Str) (ix:List (Option Nat)) (scope:Scope):Bool :=
 (scope.kind == .function) && scope.names.all (fun y=>y.2 != .cell) && scope.names.all (fun y=>y.2 != .local || scope.names.lookup y.1 == some .local) &&
 scope.names.all (fun y=>y.2 != .free || osc.names.lookup y.1 == some .cell || osc.names.lookup y.1 == some .free) && (ix.length == N'.length) &&
 (N'.zip ix).all (fun p=>match p.2 with | none=>true | some j=>N[j]? == some p.1 && scope.names.lookup p.1 == some .free)
theorem blk {X:Cx} {osc:Scope} {N N':List Str} {ix:List (Option Nat)} {scope:Scope} (h1:X.env.scope=osc) (h2:X.N=N) (h:wm7 osc N N' ix scope=true):BlkOk X N' ix scope:=by
 unfold wm7 at h;simp only [Bool.and_eq_true] at h;obtain ⟨⟨⟨⟨⟨a1,a2⟩,a3⟩,a4⟩,a5⟩,a6⟩:=h;rw [List.all_eq_true] at a2 a3 a4 a6;refine ⟨eq_of_beq a1,fun y hy=>by simpa using a2 y hy,fun y hy e=>?_,fun y hy e=>?_,eq_of_beq a5,fun i j x e1 e2=>?_⟩
 ·have:=a3 y hy
  simp only [e,bne_self_eq_false,Bool.false_or] at this;exact eq_of_beq this
 ·have:=a4 y hy
  simp only [e,bne_self_eq_false,Bool.false_or,Bool.or_eq_true,beq_iff_eq] at this;unfold Env.kindOf;rw [h1];exact this
 ·have hz:(N'.zip ix)[i]?=some (x,some j):=by rw [List.getElem?_zip_eq_some];exact ⟨e1,e2⟩
  have:=a6 _ (List.mem_of_getElem? hz);simp only [Bool.and_eq_true,beq_iff_eq] at this;rw [h2];exact this
section
variable {X:Cx} {K:W.Frag} {H:Hp}
def uu0:RS3:=fun x lo hi G q=>match x with
 | .ref a=>(match u08 (G a) with | some ds=>∀ p,G p=none->q (.ref p) (gup G p (.lst (cutD ds lo hi))) | none=>False)
 | .tup ds=>¬ (HT.sIx ds.length 0 lo=0 /\ HT.sIx ds.length ds.length hi=ds.length) /\ q (.tup (cutD ds lo hi)) G
 | _=>False
theorem x_sl:SlR X (vi8 X.K uu0):=vm4 (sl_list.or wa1) <| by
 rintro x lo hi H Q ⟨d,G,q,r1,c,t,f⟩;unfold uu0 at t;split at t
 ·rename_i a
  split at t
  ·rename_i ds e
   obtain ⟨xs,s1,q1⟩:=u27 c e;exact .inl ⟨a,xs,r1.ref_inv,s1,fun p hp=>f _ _ _ _ RelD.refI (c.lstNew hp (q1.cut lo hi)) (Le.fresh hp) (t p (c.fresh hp))⟩
  ·exact t.elim
 ·rename_i ds
  obtain ⟨a,xs,rfl,s1,q1⟩:=r1.tup_inv;refine .inr ⟨a,xs,rfl,s1,by rw [<- q1.length];exact t.1,fun p hp=>?_⟩;refine f (.tup _) G (.ref p) _ ?_ (c.side hp) (Le.fresh hp) t.2;rw [RelD];exact ⟨p,_,rfl,SqT.of u23,RelDs.le (Le.fresh hp) (q1.cut lo hi)⟩
 ·exact t.elim
def xLen:C3:=fun ds G q=>match ds with
 | [.str z]=>z.length<=sizeLine /\ q (.int z.length) G
 | [.tup xs]=>q (.int xs.length) G
 | [.ref a]=>(match u08 (G a) with | some xs=>q (.int xs.length) G | none=>False)
 | _=>False
theorem RelDs.one {d:D} {vs:List V} (h:RelDs K H [d] vs):∃ v,vs=[v] /\ RelD K H d v:=by
 obtain ⟨x,r,rfl,h1,h2⟩:=h.inv_cons;rw [h2.inv_nil];exact ⟨x,rfl,h1⟩
theorem RelDs.two {d e:D} {vs:List V} (h:RelDs K H [d,e] vs):∃ v u,vs=[v,u] /\ RelD K H d v /\ RelD K H e u:=by
 obtain ⟨x,r,rfl,h1,h2⟩:=h.inv_cons;obtain ⟨y,rfl,h3⟩:=h2.one;exact ⟨x,y,rfl,h1,h3⟩
theorem u28:Call3 X (.builtin "len") xLen:=u37 (call_len_seq.or up7) <| by
 rintro xs H Q ⟨ds,G,q,r,c,t,f⟩;unfold xLen at t;split at t
 ·obtain ⟨v,rfl,r1⟩:=r.one
  cases r1.str_inv;exact .inr ⟨_,rfl,t.1,f _ _ _ _ RelD.intI c (Le.refl H) t.2⟩
 ·obtain ⟨v,rfl,r1⟩:=r.one
  obtain ⟨a,ys,rfl,s1,q1⟩:=r1.tup_inv;refine .inl ⟨a,ys,rfl,.inr s1,?_⟩;rw [<- q1.length];exact f _ _ _ _ RelD.intI c (Le.refl H) t
 ·obtain ⟨v,rfl,r1⟩:=r.one
  cases r1.ref_inv;split at t
  ·rename_i ds e
   obtain ⟨ys,s1,q1⟩:=u27 c e;refine .inl ⟨_,ys,rfl,.inl s1,?_⟩;rw [<- q1.length];exact f _ _ _ _ RelD.intI c (Le.refl H) t
  ·exact t.elim
 ·exact t.elim
def xAbs:C3:=fun ds G q=>match ds with | [.int i]=>q (.int (if i < 0 then -i else i)) G | _=>False
theorem w78:Call3 X (.builtin "abs") xAbs:=u37 vk6 <| by
 rintro xs H Q ⟨ds,G,q,r,c,t,f⟩;unfold xAbs at t;split at t
 ·obtain ⟨v,rfl,r1⟩:=r.one
  cases r1.int_inv;exact ⟨_,rfl,f _ _ _ _ RelD.intI c (Le.refl H) t⟩
 ·exact t.elim
def vr1:C3:=fun ds G q=>match ds with | [.int i,.int j]=>CDiv i j /\ q (.tup [.int (i / j),.int (i % j)]) G | _=>False
def vr0:C3:=fun ds G q=>match ds with | [.int i,.int j]=>q (.int (if j > i then j else i)) G | _=>False
def vq9:C3:=fun ds G q=>match ds with | [.int i,.int j]=>q (.int (if j < i then j else i)) G | _=>False
theorem v07 (hc:X.calm=true:=by rfl):Call3 X (.builtin "max") vr0:=u37 (vb2 hc) <| by
 rintro xs H Q ⟨ds,G,q,r,c,t,f⟩;unfold vr0 at t;split at t
 ·obtain ⟨v,u,rfl,r1,r2⟩:=r.two
  cases r1.int_inv;cases r2.int_inv;exact ⟨_,_,rfl,f _ _ _ _ RelD.intI c (Le.refl H) t⟩
 ·exact t.elim
theorem w75 (hc:X.calm=true:=by rfl):Call3 X (.builtin "min") vq9:=u37 (vb1 hc) <| by
 rintro xs H Q ⟨ds,G,q,r,c,t,f⟩;unfold vq9 at t;split at t
 ·obtain ⟨v,u,rfl,r1,r2⟩:=r.two
  cases r1.int_inv;cases r2.int_inv;exact ⟨_,_,rfl,f _ _ _ _ RelD.intI c (Le.refl H) t⟩
 ·exact t.elim
def ut9:C3:=fun ds G q=>match ds with | [.int i]=>q (.int i) G | [.bl b]=>q (.int (if b then 1 else 0)) G | _=>False
theorem ub9:Call3 X (.type "int") ut9:=u37 vb4 <| by
 rintro xs H Q ⟨ds,G,q,r,c,t,f⟩;unfold ut9 at t;split at t
 ·obtain ⟨v,rfl,r1⟩:=r.one
  cases r1.int_inv;exact .inl ⟨_,rfl,f _ _ _ _ RelD.intI c (Le.refl H) t⟩
 ·obtain ⟨v,rfl,r1⟩:=r.one
  cases r1.bl_inv;exact .inr ⟨_,rfl,f _ _ _ _ RelD.intI c (Le.refl H) t⟩
 ·exact t.elim
def ul0:C3:=fun ds G q=>match ds with
 | [.tup xs]=>∀ p,G p=none->q (.ref p) (gup G p (.lst xs))
 | [.ref a]=>(match u08 (G a) with | some xs=>∀ p,G p=none->q (.ref p) (gup G p (.lst xs)) | none=>False)
 | _=>False
theorem ut7:Call3 X (.type "list") ul0:=u37 up6 <| by
 rintro xs H Q ⟨ds,G,q,r,c,t,f⟩;unfold ul0 at t;split at t
 ·obtain ⟨v,rfl,r1⟩:=r.one
  obtain ⟨a,ys,rfl,s1,q1⟩:=r1.tup_inv;exact ⟨a,ys,rfl,.inr s1,fun p hp=>f _ _ _ _ RelD.refI (c.lstNew hp q1) (Le.fresh hp) (t p (c.fresh hp))⟩
 ·obtain ⟨v,rfl,r1⟩:=r.one
  cases r1.ref_inv;split at t
  ·rename_i ds e
   obtain ⟨ys,s1,q1⟩:=u27 c e;exact ⟨_,ys,rfl,.inl s1,fun p hp=>f _ _ _ _ RelD.refI (c.lstNew hp q1) (Le.fresh hp) (t p (c.fresh hp))⟩
  ·exact t.elim
 ·exact t.elim
def ua7:C3:=fun ds G q=>match ds with
 | [.tup xs]=>q (.tup xs) G
 | [.ref a]=>(match u08 (G a) with | some xs=>q (.tup xs) G | none=>False)
 | _=>False
theorem u49:Call3 X (.type "tuple") ua7:=u37 um6 <| by
 rintro xs H Q ⟨ds,G,q,r,c,t,f⟩;unfold ua7 at t;split at t
 ·obtain ⟨v,rfl,r1⟩:=r.one
  obtain ⟨a,ys,rfl,s1,q1⟩:=r1.tup_inv;exact ⟨a,ys,rfl,.inr ⟨s1,f _ _ _ _ r1 c (Le.refl H) t⟩⟩
 ·obtain ⟨v,rfl,r1⟩:=r.one
  cases r1.ref_inv;split at t
  ·rename_i ds e
   obtain ⟨ys,s1,q1⟩:=u27 c e;refine ⟨_,ys,rfl,.inl ⟨s1,fun p hp=>f (.tup _) G (.ref p) _ ?_ (c.side hp) (Le.fresh hp) t⟩⟩;rw [RelD];exact ⟨p,_,rfl,SqT.of u23,RelDs.le (Le.fresh hp) q1⟩
  ·exact t.elim
 ·exact t.elim
def ut4:List D->Option (List Bool)
 | []=>some []
 | .bl b::r=>(ut4 r).map (b::·)
 | _=>none
theorem uq2:∀ {ds:List D} {bs:List Bool} {vs:List V},ut4 ds=some bs->RelDs K H ds vs->vs=bs.map V.bl
 | [],bs,vs,e,r=>by cases e;rw [r.inv_nil];rfl
 | .bl b::ds,bs,vs,e,r=>by
  obtain ⟨x,xs,rfl,h1,h2⟩:=r.inv_cons;obtain ⟨bs',e',rfl⟩:=Option.map_eq_some_iff.mp (show (ut4 ds).map (b::·)=some bs from e);rw [h1.bl_inv,uq2 e' h2];rfl
 | .non::_,_,_,e,_=>by cases e
 | .int _::_,_,_,e,_=>by cases e
 | .str _::_,_,_,e,_=>by cases e
 | .tup _::_,_,_,e,_=>by cases e
 | .ref _::_,_,_,e,_=>by cases e
 | .ty _::_,_,_,e,_=>by cases e
def xAll:C3:=fun ds G q=>match ds with
 | [.ref a]=>(match u08 (G a) with | some xs=>(match ut4 xs with | some bs=>q (.bl (bs.all id)) G | none=>False) | none=>False)
 | _=>False
theorem vq7 (hc:X.calm=true:=by rfl):Call3 X (.builtin "all") xAll:=u37 (vk5 hc) <| by
 rintro xs H Q ⟨ds,G,q,r,c,t,f⟩;unfold xAll at t;split at t
 ·obtain ⟨v,rfl,r1⟩:=r.one
  cases r1.ref_inv;split at t
  ·rename_i ds e
   obtain ⟨ys,s1,q1⟩:=u27 c e;split at t
   ·rename_i bs eb
    have:=uq2 eb q1;subst this;exact ⟨_,bs,rfl,s1,f _ _ _ _ RelD.blI c (Le.refl H) t⟩
   ·exact t.elim
  ·exact t.elim
 ·exact t.elim
def uk4:List D->Option (List Int)
 | []=>some []
 | .int b::r=>(uk4 r).map (b::·)
 | _=>none
theorem uk2:∀ {ds:List D} {bs:List Int} {vs:List V},uk4 ds=some bs->RelDs K H ds vs->vs=bs.map V.int
 | [],bs,vs,e,r=>by cases e;rw [r.inv_nil];rfl
 | .int b::ds,bs,vs,e,r=>by
  obtain ⟨x,xs,rfl,h1,h2⟩:=r.inv_cons;obtain ⟨bs',e',rfl⟩:=Option.map_eq_some_iff.mp (show (uk4 ds).map (b::·)=some bs from e);rw [h1.int_inv,uk2 e' h2];rfl
 | .non::_,_,_,e,_=>by cases e
 | .bl _::_,_,_,e,_=>by cases e
 | .str _::_,_,_,e,_=>by cases e
 | .tup _::_,_,_,e,_=>by cases e
 | .ref _::_,_,_,e,_=>by cases e
 | .ty _::_,_,_,e,_=>by cases e
def xSum:C3:=fun ds G q=>match ds with
 | [.ref a]=>(match u08 (G a) with | some xs=>(match uk4 xs with | some bs=>q (.int bs.sum) G | none=>False) | none=>False)
 | _=>False
theorem wn8 (hc:X.calm=true:=by rfl):Call3 X (.builtin "sum") xSum:=u37 (vk4 hc) <| by
 rintro xs H Q ⟨ds,G,q,r,c,t,f⟩;unfold xSum at t;split at t
 ·obtain ⟨v,rfl,r1⟩:=r.one
  cases r1.ref_inv;split at t
  ·rename_i ds e
   obtain ⟨ys,s1,q1⟩:=u27 c e;split at t
   ·rename_i bs eb
    have:=uk2 eb q1;subst this;exact ⟨_,bs,rfl,s1,f _ _ _ _ RelD.intI c (Le.refl H) t⟩
   ·exact t.elim
  ·exact t.elim
 ·exact t.elim
def vj4 (G:Gp):D->Option String
 | .non=>some "NoneType"
 | .bl _=>some "bool"
 | .int _=>some "int"
 | .str _=>some "str"
 | .ref a=>match G a with | some (.lst _)=>some "list" | some (.fro _)=>some "list" | some (.dic _)=>some "dict" | _=>none
 | _=>none
def uq6:C3:=fun ds G q=>match ds with
 | [x,.ty T]=>(T = "int" \/ T = "str" \/ T = "bool" \/ T = "list" \/ T = "tuple" \/ T = "dict") /\ (match vj4 G x with | some n=>q (.bl (subK n T)) G | none=>False)
 | _=>False
theorem vd1:Call3 X (.builtin "isinstance") uq6:=u37 ut0 <| by
 rintro xs H Q ⟨ds,G,q,r,c,t,f⟩;unfold uq6 at t;split at t
 ·rename_i d T
  obtain ⟨v,u,rfl,r1,r2⟩:=r.two;rw [RelD] at r2;subst r2;obtain ⟨hT,t⟩:=t;split at t
  ·rename_i n en
   refine ⟨v,n,T,rfl,?_,hT,f _ _ _ _ RelD.blI c (Le.refl H) t⟩;unfold vj4 at en;split at en
   ·cases r1.non_inv;cases en;rfl
   ·cases r1.bl_inv;cases en;rfl
   ·cases r1.int_inv;cases en;rfl
   ·cases r1.str_inv;cases en;rfl
   ·rename_i a
    cases r1.ref_inv;split at en
    ·rename_i xs ea;cases en;obtain ⟨ys,h1,_⟩:=c _ _ ea;exact .inl ⟨rfl,.inl ⟨ys,h1⟩⟩
    ·rename_i xs ea;cases en;obtain ⟨o,ys,h1,_⟩:=c _ _ ea;exact .inl ⟨rfl,.inr ⟨o,ys,h1⟩⟩
    ·rename_i xs ea;cases en;obtain ⟨ys,h1,_⟩:=c _ _ ea;exact .inr (.inr ⟨rfl,ys,h1⟩)
    ·cases en
   ·cases en
  ·exact t.elim
 ·exact t.elim
theorem vp8 {x:Str} {T:String} {pos:Pos} (hm:X.mg x=none) (hv:bootBuiltins x=some (.type T)) (hg:Gl X x:=by rfl) (hn:x ≠ "__name__" := by decide) (hd:(x == ("__debug__" : Str))=false:=by decide):E3 X (.Name x pos) (dC (.ty T)) :=
 u32 (vz0 (v:=.ty T) hg hm hv rfl hn hd) fun _ _ _=>uy8 fun _=>by rw [RelD]
def xIs2:R3:=fun x y G q=>match y with
 | .non=>(match x with | .non=>q (.bl true) G | _=>q (.bl false) G)
 | .bl b=>(match x with | .bl c=>q (.bl (decide (c=b))) G | _=>q (.bl false) G)
 | _=>False
def v09:R3:=fun x y G q=>match y with
 | .non=>(match x with | .non=>q (.bl false) G | _=>q (.bl true) G)
 | .bl b=>(match x with | .bl c=>q (.bl (!decide (c=b))) G | _=>q (.bl true) G)
 | _=>False
theorem RelD.not_bl {d:D} {v:V} (h:RelD K H d v) (b:Bool) (n:∀ c,d ≠ .bl c):v ≠ .bl b:=by
 cases d with
 | bl c=>exact absurd rfl (n c)
 | non=>rw [h.non_inv];exact fun z=>nomatch z
 | int _=>rw [h.int_inv];exact fun z=>nomatch z
 | str _=>rw [h.str_inv];exact fun z=>nomatch z
 | ref _=>rw [h.ref_inv];exact fun z=>nomatch z
 | ty _=>rw [RelD] at h;rw [h];exact fun z=>nomatch z
 | tup _=>obtain ⟨a,xs,e,_⟩:=h.tup_inv;rw [e];exact fun z=>nomatch z
theorem um3 {c b:Bool}:decide (V.bl c=V.bl b)=decide (c=b):=by cases c <;> cases b <;> rfl
theorem uq5:Op3 X (compareOp .Is) xIs2:=u57 (op_isN.or wd8) <| by
 rintro x y H Q ⟨d,e,G,q,r1,r2,c,t,f⟩;unfold xIs2 at t;split at t
 ·refine .inl ⟨r2.non_inv,?_⟩
  split at t
  ·rw [r1.non_inv]
   exact f _ _ _ _ RelD.blI c (Le.refl H) t
  ·rename_i hd
   rw [decide_eq_false (r1.not_non fun z=>hd z)];exact f _ _ _ _ RelD.blI c (Le.refl H) t
 ·rename_i b
  refine .inr ⟨b,r2.bl_inv,?_⟩;split at t
  ·rw [r1.bl_inv,um3]
   exact f _ _ _ _ RelD.blI c (Le.refl H) t
  ·rename_i hd
   rw [decide_eq_false (r1.not_bl b fun z hz=>hd z hz)];exact f _ _ _ _ RelD.blI c (Le.refl H) t
 ·exact t.elim
end
def jSeq (n:Nat) (t:TGs3):TG3:=fun d σ G q=>match d with
 | .tup ds=>ds.length=n /\ t ds σ G q
 | .ref a=>(match u08 (G a) with | some ds=>ds.length=n /\ t ds σ G q | none=>False)
 | _=>False
def wAny (te:TE3):TI3:=fun σ G r=>te σ G fun x G1=>match x with
 | .ref a=>(match u08 (G1 a) with | some ds=>r ⟨ds,fun G=>u08 (G a)=some ds⟩ G1 | none=>False)
 | .tup ds=>r ⟨ds,fun _=>True⟩ G1
 | _=>False
section
variable {X:Cx} {es:List Expr} {e tg:Expr} {te:TE3} {pos:Pos}
theorem w19 {k n:Nat} {t:TGs3} (hc:X.calm=true) (h:Js3 X es t) (hn:(assignEach es X.env).length=n:=by rfl) (hst:(assignEach es X.env).findIdx? (·.1)=none:=by rfl):J3 X (.Tuple es k pos) (jSeq n t) :=
 vr4 (wp1 (wc0 hc h hn hst) (vy4 hc h hn hst)) fun v σ H Q hh=>by
  obtain ⟨d,σd,G,q,r,rs,c,t,f⟩:=hh;unfold jSeq at t;split at t
  ·rename_i ds
   obtain ⟨a,xs,rfl,s,r2⟩:=r.tup_inv;exact .inl ⟨a,xs,rfl,s,by rw [<- r2.length];exact t.1,ds,σd,G,q,r2,rs,c,t.2,f⟩
  ·rename_i a
   split at t
   ·rename_i ds e
    obtain ⟨xs,s,r'⟩:=u27 c e;exact .inr ⟨a,xs,r.ref_inv,s,by rw [<- r'.length];exact t.1,ds,σd,G,q,r',rs,c,t.2,f⟩
   ·exact t.elim
  ·exact t.elim
theorem us5 (h:E3 X e te):I3 X tg e (wAny te):=vd3 (wb9 h) fun σ H R hh=>by
 obtain ⟨σd,G,q,rs,c,t,f⟩:=hh;refine ⟨σd,G,_,rs,c,t,fun x G1 v H1 r1 c1 l1 t1=>?_⟩;split at t1
 ·rename_i a
  split at t1
  ·rename_i ds e
   obtain ⟨xs,s,_⟩:=u27 c1 e;exact ⟨a,r1.ref_inv,.inl ⟨⟨xs,s⟩,f _ _ _ _ uy9 c1 l1 t1⟩⟩
  ·exact t1.elim
 ·rename_i ds
  obtain ⟨a,xs,rfl,s,r⟩:=r1.tup_inv;exact ⟨a,rfl,.inr ⟨⟨xs,s⟩,f _ _ _ _ (v84 s r) c1 l1 t1⟩⟩
 ·exact t1.elim
end
section
variable {X:Cx} {e o:Expr} {es:List Expr} {to:TE3} {ts:TA3} {apos cpos:Pos}
theorem ty_list (K:W.Frag):∀ G H x v,Con K G H->RelD K H x v->tyD G "list" x->tyV K "list" v H:=by
 intro G H x v c r t;cases x with
 | ref a =>
  cases r.ref_inv;cases e:G a with
  | none=>simp [tyD,e] at t
  | some o =>
   cases o with
   | lst ds=>obtain ⟨xs,s,_⟩:=u27 (ds:=ds) c (by rw [e];rfl);exact .inl ⟨rfl,xs,s⟩
   | fro ds=>obtain ⟨xs,s,_⟩:=u27 (ds:=ds) c (by rw [e];rfl);exact .inl ⟨rfl,xs,s⟩
   | dic _=>simp [tyD,e] at t
   | dit _=>simp [tyD,e] at t
   | ins _ _=>simp [tyD,e] at t
   | exc _ _=>simp [tyD,e] at t
   | frd _ _=>simp [tyD,e] at t
   | tb _ _=>simp [tyD,e] at t
 | str _=>simp [tyD] at t
 | int _=>simp [tyD] at t
 | _=>exact t.elim
def ug2:M3:=fun x ds G q=>match x,ds with
 | .ref a,[d]=>(match G a with | some (.lst xs)=>xs.length < sizeLine /\ q .non (gup G a (.lst (xs++[d]))) | _=>False)
 | _,_=>False
theorem u31 (ho:E3 X o to) (ha:A3 X (e::es) ts) (hbase:attributeBase o "append" X.env (eval o X.env)=eval o X.env:=by rfl)
  (hfew:((backTo cpos (starEach (e::es) X.env)).all (fun x=>!x.1) && (backToKw cpos (keywordEach [] X.env)).all (fun x=>x.1.isSome)
   && decide ((e::es).length+([]:List Keyword).length+(if ([]:List Keyword).isEmpty then 0 else 1) < 30))=true:=by rfl)
  (hline:(apos.endLine == cpos.line)=true:=by rfl) (hs:starEach (e::es) X.env=(false,eval e X.env)::starEach es X.env:=by rfl) (hplain:(backTo cpos (starEach es X.env)).any (·.1)=false:=by rfl) :
  E3 X (.Call (.Attribute o "append" apos) (e::es) [] cpos) (dBM "list" ug2 to ts) :=
 u32 (ur5 PySem.F.plainAttrs_list PySem.F.slot_list_append PySem.F.type_list_append (ud2 (r':=lowM X.K ug2) uo2 <| by
  rintro x xs H Q ⟨d,ds,G,q,r1,r2,c,t,f⟩;unfold ug2 at t;split at t
  ·rename_i a d'
   split at t
   ·rename_i ys ea
    cases r1.ref_inv;obtain ⟨v,rfl,rv⟩:=r2.one;obtain ⟨zs,h1,q1⟩:=c _ _ ea;exact ⟨a,zs,v,rfl,rfl,h1,by rw [<- q1.length];exact t.1,f _ _ _ _ RelD.nonI (c.lstSet h1 (q1.append (.cons rv .nil))) (Le.lst h1) t.2⟩
   ·exact t.elim
  ·exact t.elim) ho ha hbase hfew hline hs hplain) fun _ _ _=>ug3 (ty_list X.K)
def ug1:M3:=fun x ds G q=>match x,ds with
 | .ref a,[.ref b]=>(match G a,G b with | some (.lst xs),some (.lst ys)=>xs.length+ys.length<=sizeLine /\ q .non (gup G a (.lst (xs++ys))) | _,_=>False)
 | _,_=>False
theorem ub7 (ho:E3 X o to) (ha:A3 X (e::es) ts) (hbase:attributeBase o "extend" X.env (eval o X.env)=eval o X.env:=by rfl)
  (hfew:((backTo cpos (starEach (e::es) X.env)).all (fun x=>!x.1) && (backToKw cpos (keywordEach [] X.env)).all (fun x=>x.1.isSome)
   && decide ((e::es).length+([]:List Keyword).length+(if ([]:List Keyword).isEmpty then 0 else 1) < 30))=true:=by rfl)
  (hline:(apos.endLine == cpos.line)=true:=by rfl) (hs:starEach (e::es) X.env=(false,eval e X.env)::starEach es X.env:=by rfl) (hplain:(backTo cpos (starEach es X.env)).any (·.1)=false:=by rfl) :
  E3 X (.Call (.Attribute o "extend" apos) (e::es) [] cpos) (dBM "list" ug1 to ts) :=
 u32 (ur5 PySem.F.plainAttrs_list PySem.F.slot_list_extend PySem.F.type_list_extend (ud2 (r':=lowM X.K ug1) v61 <| by
  rintro x xs H Q ⟨d,ds,G,q,r1,r2,c,t,f⟩;unfold ug1 at t;split at t
  ·rename_i a b
   split at t
   ·rename_i ys zs ea eb
    cases r1.ref_inv;obtain ⟨v,rfl,rv⟩:=r2.one;cases rv.ref_inv;obtain ⟨us,h1,q1⟩:=c _ _ ea;obtain ⟨ws,h2,q2⟩:=c _ _ eb;exact ⟨a,b,us,ws,rfl,rfl,h1,h2,by rw [<- q1.length,<- q2.length];exact t.1,f _ _ _ _ RelD.nonI (c.lstSet h1 (q1.append q2)) (Le.lst h1) t.2⟩
   ·exact t.elim
  ·exact t.elim) ho ha hbase hfew hline hs hplain) fun _ _ _=>ug3 (ty_list X.K)
def v65:M3:=fun x ds G q=>match x,ds with
 | .ref a,[]=>(match G a with | some (.lst xs)=>(match xs[xs.length - 1]? with | some y=>q y (gup G a (.lst xs.dropLast)) | none=>False) | _=>False)
 | _,_=>False
theorem va1 (ho:E3 X o to) (hbase:attributeBase o "pop" X.env (eval o X.env)=eval o X.env:=by rfl) (hline:(apos.endLine == cpos.line)=true:=by rfl):E3 X (.Call (.Attribute o "pop" apos) [] [] cpos) (dBM0 "list" v65 to) :=
 u32 (wd0 PySem.F.plainAttrs_list PySem.F.slot_list_pop PySem.F.type_list_pop (ud2 (r':=lowM X.K v65) wi8 <| by
  rintro x xs H Q ⟨d,ds,G,q,r1,r2,c,t,f⟩;unfold v65 at t;split at t
  ·rename_i a
   split at t
   ·rename_i ys ea
    split at t
    ·rename_i y ey
     cases r1.ref_inv;cases r2.inv_nil;obtain ⟨zs,h1,q1⟩:=c _ _ ea;obtain ⟨v,hv,rv⟩:=q1.get ey;exact ⟨a,zs,v,rfl,rfl,h1,by rw [<- q1.length];exact hv,f _ _ _ _ (RelD.le (Le.lst h1) rv) (c.lstSet h1 q1.dropLast) (Le.lst h1) t⟩
    ·exact t.elim
   ·exact t.elim
  ·exact t.elim) ho hbase hline) fun _ _ _=>w11 (ty_list X.K)
def w00:M3:=fun x ds G q=>match x,ds with
 | .ref a,[]=>(match G a with | some (.lst _)=>q .non (gup G a (.lst [])) | _=>False)
 | _,_=>False
end
def xEqB (neg:Bool):R3:=fun x y G q=>match x,y with
 | .int i,.int j=>q (.bl (if neg then !decide (i=j) else decide (i=j))) G
 | .str i,.str j=>q (.bl (if neg then !decide (i=j) else decide (i=j))) G
 | .bl i,.bl j=>q (.bl (if neg then !decide (i=j) else decide (i=j))) G
 | .non,.non=>q (.bl (!neg)) G
 | .non,.int _=>q (.bl neg) G
 | .int _,.non=>q (.bl neg) G
 | .non,.bl _=>q (.bl neg) G
 | .bl _,.non=>q (.bl neg) G
 | .non,.str _=>q (.bl neg) G
 | .str _,.non=>q (.bl neg) G
 | .int _,.str _=>q (.bl neg) G
 | .str _,.int _=>q (.bl neg) G
 | .tup xs,.tup ys=>∃ n sd se b,n<=40 /\ snap G n (.tup xs)=some sd /\ snap G n (.tup ys)=some se /\ eqN n sd se=some b /\ q (.bl (if neg then !b else b)) G
 | .ref a,.ref c=>∃ n sd se b,n<=40 /\ snap G n (.ref a)=some sd /\ snap G n (.ref c)=some se /\ eqN n sd se=some b /\ q (.bl (if neg then !b else b)) G
 | _,_=>False
section
variable {X:Cx} {k:Nat}
theorem uw8 {i j:Int}:decide (V.int i=V.int j)=decide (i=j):=by
 by_cases h:i=j
 ·subst h;simp
 ·simp [h]
theorem uw7 {i j:Str}:decide (V.str i=V.str j)=decide (i=j):=by
 by_cases h:i=j
 ·subst h;simp
 ·simp [h]
theorem u75 {G:Gp} {n:Nat} {xs:List D} {sd:Sn} (h:snap G n (.tup xs)=some sd):u45 sd=false:=by
 obtain ⟨_,_,_,rfl,_⟩:=snap_tup h;rfl
theorem u76 {G:Gp} {n:Nat} {a:Addr} {sd:Sn} (h:snap G n (.ref a)=some sd):u45 sd=false:=by
 obtain ⟨_,_,_,_,rfl,_⟩:=snap_ref h;rfl
theorem x_eq (hr:Room k X.A):Op3 X (compareOp .Eq) (xEqB false):=u57 (op_eq.or (wd9 hr)) <| by
 rintro x y H Q ⟨d,e,G,q,r1,r2,c,t,f⟩;have fin:∀ b,q (.bl b) G->Q (.bl b) H:=fun b z=>f _ _ _ _ RelD.blI c (Le.refl H) z
 unfold xEqB at t;split at t
 ·cases r1.int_inv;cases r2.int_inv;exact .inl ⟨rfl,by rw [uw8];exact fin _ t⟩
 ·cases r1.str_inv;cases r2.str_inv;exact .inl ⟨rfl,by rw [uw7];exact fin _ t⟩
 ·cases r1.bl_inv;cases r2.bl_inv;exact .inl ⟨rfl,by rw [um3];exact fin _ t⟩
 ·cases r1.non_inv;cases r2.non_inv;exact .inl ⟨rfl,fin _ t⟩
 ·cases r1.non_inv;cases r2.int_inv;exact .inl ⟨rfl,fin _ t⟩
 ·cases r1.int_inv;cases r2.non_inv;exact .inl ⟨rfl,fin _ t⟩
 ·cases r1.non_inv;cases r2.bl_inv;exact .inl ⟨rfl,fin _ t⟩
 ·cases r1.bl_inv;cases r2.non_inv;exact .inl ⟨rfl,fin _ t⟩
 ·cases r1.non_inv;cases r2.str_inv;exact .inl ⟨rfl,fin _ t⟩
 ·cases r1.str_inv;cases r2.non_inv;exact .inl ⟨rfl,fin _ t⟩
 ·cases r1.int_inv;cases r2.str_inv;exact .inl ⟨rfl,fin _ t⟩
 ·cases r1.str_inv;cases r2.int_inv;exact .inl ⟨rfl,fin _ t⟩
 ·obtain ⟨n,sd,se,b,hn,h1,h2,hb,t⟩:=t
  exact .inr ⟨_,_,G,n,sd,se,b,r1,r2,c,hn,h1,h2,hb,u75 h1,fin _ t⟩
 ·obtain ⟨n,sd,se,b,hn,h1,h2,hb,t⟩:=t
  exact .inr ⟨_,_,G,n,sd,se,b,r1,r2,c,hn,h1,h2,hb,u76 h1,fin _ t⟩
 ·exact t.elim
theorem x_ne (hr:Room k X.A):Op3 X (compareOp .NotEq) (xEqB true):=u57 (op_ne.or (wd6 hr)) <| by
 rintro x y H Q ⟨d,e,G,q,r1,r2,c,t,f⟩;have fin:∀ b,q (.bl b) G->Q (.bl b) H:=fun b z=>f _ _ _ _ RelD.blI c (Le.refl H) z
 unfold xEqB at t;split at t
 ·cases r1.int_inv;cases r2.int_inv;exact .inl ⟨rfl,by rw [uw8];exact fin _ t⟩
 ·cases r1.str_inv;cases r2.str_inv;exact .inl ⟨rfl,by rw [uw7];exact fin _ t⟩
 ·cases r1.bl_inv;cases r2.bl_inv;exact .inl ⟨rfl,by rw [um3];exact fin _ t⟩
 ·cases r1.non_inv;cases r2.non_inv;exact .inl ⟨rfl,fin _ t⟩
 ·cases r1.non_inv;cases r2.int_inv;exact .inl ⟨rfl,fin _ t⟩
 ·cases r1.int_inv;cases r2.non_inv;exact .inl ⟨rfl,fin _ t⟩
 ·cases r1.non_inv;cases r2.bl_inv;exact .inl ⟨rfl,fin _ t⟩
 ·cases r1.bl_inv;cases r2.non_inv;exact .inl ⟨rfl,fin _ t⟩
 ·cases r1.non_inv;cases r2.str_inv;exact .inl ⟨rfl,fin _ t⟩
 ·cases r1.str_inv;cases r2.non_inv;exact .inl ⟨rfl,fin _ t⟩
 ·cases r1.int_inv;cases r2.str_inv;exact .inl ⟨rfl,fin _ t⟩
 ·cases r1.str_inv;cases r2.int_inv;exact .inl ⟨rfl,fin _ t⟩
 ·obtain ⟨n,sd,se,b,hn,h1,h2,hb,t⟩:=t
  exact .inr ⟨_,_,G,n,sd,se,b,r1,r2,c,hn,h1,h2,hb,u75 h1,fin _ t⟩
 ·obtain ⟨n,sd,se,b,hn,h1,h2,hb,t⟩:=t
  exact .inr ⟨_,_,G,n,sd,se,b,r1,r2,c,hn,h1,h2,hb,u76 h1,fin _ t⟩
 ·exact t.elim
end
section
variable {X:Cx} {e:Expr} {es:List Expr} {p pos:Pos} {ts:TA3} {k:Nat} {S:Sp3} {x m qual:Str} {st:Stmt} {ps:List Str} {C:Addr}
theorem emk {xi qi:Str} {d:FnAt X.K xi qi st ps} (M:Mk X.K C d.a) (hm:X.mg x=some (.ref C)) (G:FnOk X.prog X.w X.K X.mg X.base CX0 k d.a d.fd ps (ua2 X.K S)) (hr:Room (k+1) X.A) (ha:A3 X (e::es) ts) (hg:Gl X x:=by rfl) (hdb:(x == ("__debug__" : Str))=false:=by decide)
  (he:starEach (e::es) X.env=(false,eval e X.env)::starEach es X.env:=by rfl) (hpl:(backTo pos (starEach es X.env)).any (·.1)=false:=by rfl):E3 X (.Call (.Name x p) (e::es) [] pos) (vk2 C S [] ts) :=
 wl5 M G hr hg hm d.b .nil (fun _=>.nil) ha hdb he hpl
end
section
variable {X:Cx} {e:Expr} {es:List Expr} {p pos:Pos} {ts:TA3} {k:Nat} {S:Sp3} {x m qual:Str} {st:Stmt} {ps:List Str} {C f:Addr} {fd:FuncData}
theorem uh9 {i:Int} (h:∃ t,X.mg x=some (.int i t)) (hg:Gl X x:=by rfl) (hdb:(x == ("__debug__" : Str))=false:=by decide):E3 X (.Name x pos) (dC (.int i)):=by
 obtain ⟨t,h⟩:=h;exact uw0 hg h (v:=.int i) ⟨t,rfl⟩ (fun _=>RelD.intI) hdb
end
theorem uh0 {c A B:Prop} [Decidable c] (h1:c->A) (h2:¬ c->B):if decide c=true then A else B:=by
 by_cases h:c
 ·simpa [h] using h1 h
 ·simpa [h] using h2 h
theorem u78 {xs:List D}:u08 (some (.lst xs))=some xs:=rfl
theorem v33 {xs:List D}:u08 (some (.fro xs))=some xs:=rfl
theorem u67 {α:Type} {x:α} {xs:List α}:atI (x::xs) 0=some x:=u56 (j:=0) rfl
theorem ud0 {α:Type} {x y:α} {xs:List α}:atI (x::y::xs) 1=some y:=u56 (j:=1) rfl
theorem w50 {α:Type} {x y z:α} {xs:List α}:atI (x::y::z::xs) 2=some z:=u56 (j:=2) rfl
theorem w49 {α:Type} {x y z u:α} {xs:List α}:atI (x::y::z::u::xs) 3=some u:=u56 (j:=3) rfl
theorem w48 {α:Type} {x y z u v:α} {xs:List α}:atI (x::y::z::u::v::xs) 4=some v:=u56 (j:=4) rfl
theorem wk6:ixN 3 0=some 0:=rfl
theorem wk5:ixN 3 1=some 1:=rfl
theorem wk4:ixN 3 2=some 2:=rfl
theorem wk8:ixN 2 0=some 0:=rfl
theorem wk7:ixN 2 1=some 1:=rfl
theorem v82 {n j:Nat} (h:j < n):ixN n (j:Int)=some j:=by
 unfold ixN;rw [if_pos (by omega),if_pos (by omega)];simp
theorem v83 {n:Nat} {i:Int} (h0:0<=i) (h:i < n):ixN n i=some i.toNat:=by
 unfold ixN;rw [if_pos h0,if_pos h]
theorem ut2 {α:Type} {xs:List α} {i:Int} (h0:0<=i) (h:i < xs.length):atI xs i=some (xs[i.toNat]'(by omega)):=by
 unfold atI;rw [v83 h0 h];exact List.getElem?_eq_getElem _
theorem w47 {α β:Type} {f:α->β} {xs:List α} {i:Int} (h0:0<=i) (h:i < xs.length):atI (xs.map f) i=some (f (xs[i.toNat]'(by omega))):=by
 rw [ut2 h0 (by simpa using h)];simp
theorem up4 {i j:Int} (h0:0<=i) (h:i < 18446744073709551616):CMul i j:=.inl ⟨by omega,by omega⟩
theorem up3 {i j:Int} (h0:0<=j) (h:j < 18446744073709551616):CMul i j:=.inr ⟨by omega,by omega⟩
theorem wr4 {j:Int} (h0:0<=j) (h:j<=1000):CPow 2 j:=⟨h0,by omega,by decide⟩
theorem wm4 {j:Int} (h0:0<=j) (h:j<=1000):CPow 1 j:=⟨h0,by omega,by decide⟩
end L3
namespace L3
theorem u93 {S:Sp3} {ds:List D} {G G1:Gp} {v:D} {q:DK} (h:∀ R:DK,R v G1->S ds G R) (k:q v G1):∃ R,S ds G R /\ ∀ d G',R d G'->q d G' :=
 ⟨fun d G'=>d=v /\ G'=G1,h _ ⟨rfl,rfl⟩,fun _ _ ⟨e1,e2⟩=>by subst e1;subst e2;exact k⟩
theorem u15 {S:Sp3} {ds:List D} {G:Gp} {post:DK} {q:DK} (h:∀ R:DK,(∀ d G',post d G'->R d G')->S ds G R) (k:∀ d G',post d G'->q d G'):∃ R,S ds G R /\ ∀ d G',R d G'->q d G' :=
 ⟨post,h _ fun _ _ z=>z,k⟩
theorem u61 {ok:Gp->Prop} {g:TG3} {tb:TS3} {E:Ends3} (I:List D->DSt->Gp->Prop) {items:List D} {σ:DSt} {G:Gp} (h0:I items σ G) (nil:∀ σ G,I [] σ G->ok G /\ E.nx σ G)
  (cons:∀ x r σ G,I (x::r) σ G->(∀ σ' G',I r σ' G'->forL ok g tb E r σ' G')->ok G /\ g x σ G fun σ1 G1=>tb { E with nx:=forL ok g tb E r,ct:=forL ok g tb E r,bk:=E.nx } σ1 G1):forL ok g tb E items σ G:=by
 induction items generalizing σ G with
 | nil=>exact nil σ G h0
 | cons x r ih=>exact cons x r σ G h0 fun σ' G' h=>ih h
theorem u36 {ok:Gp->Prop} {g:TG3} {tc:TT3} {te:TE3} {p:PySem.Addr} {q:DK} (I:List D->DSt->Gp->Prop) {items:List D} {σ:DSt} {G:Gp} (h0:I items σ G) (nil:∀ σ G,I [] σ G->ok G /\ q (.ref p) G)
  (cons:∀ x r σ G,I (x::r) σ G->(∀ σ' G',I r σ' G'->um4 ok g tc te p q r σ' G')->ok G /\ g x σ G fun σ2 G2=>tc σ2 G2 fun b G3 =>
   if b=true then te σ2 G3 fun d G4=>(match G4 p with | some (.lst ys)=>ys.length < PySem.sizeLine /\ um4 ok g tc te p q r σ2 (gup G4 p (.lst (ys++[d]))) | _=>False)
   else um4 ok g tc te p q r σ2 G3):um4 ok g tc te p q items σ G:=by
 induction items generalizing σ G with
 | nil=>exact nil σ G h0
 | cons x r ih=>exact cons x r σ G h0 fun σ' G' h=>ih h
theorem v13 {c:TT3} {tb:TS3} {E:Ends3} (I:Nat->DSt->Gp->Prop) {m:Nat} {σ:DSt} {G:Gp} (h0:I m σ G)
  (step:∀ m σ G N,I m σ G->(∀ σ' G' m',m=m'+1->I m' σ' G'->N σ' G')->c σ G fun b G1=>if b=true then tb { E with nx:=N,ct:=N,bk:=E.nx } σ G1 else E.nx σ G1):uw9 c tb E σ G:=by
 refine ⟨m+1,?_⟩
 induction m generalizing σ G with
 | zero=>exact step 0 σ G (whN c tb E 0) h0 fun σ' G' m' e=>absurd e (by omega)
 | succ m ih=>exact step (m+1) σ G (whN c tb E (m+1)) h0 fun σ' G' m' e h=>ih (by cases e;exact h)
end L3
namespace Rw
open PySem L2 L3
theorem u51 (lo:Int) (n:Nat):rngD lo (n+1)=.int lo::rngD (lo+1) n:=by
 unfold rngD;rw [List.range_succ_eq_map,List.map_cons,List.map_map]
 congr 1
 ·simp
 ·apply List.map_congr_left
  intro i _
  show D.int _=D.int _
  congr 1
  simp;omega
structure Grow (G G':Gp):Prop where
 kp:∀ b o,G b=some o->G' b=some o
theorem Grow.refl {G:Gp}:Grow G G:=⟨fun _ _ h=>h⟩
theorem Grow.trans {G G1 G2:Gp} (a:Grow G G1) (b:Grow G1 G2):Grow G G2:=⟨fun c o h=>b.kp c o (a.kp c o h)⟩
theorem Grow.new {G G1:Gp} {p:Addr} {o:DO} (a:Grow G G1) (h:G1 p=none):Grow G (gup G1 p o):=⟨fun b u e=>by rw [u07 (gne (a.kp b u e) h)];exact a.kp b u e⟩
theorem Grow.own {G G1:Gp} {p:Addr} {o:DO} (a:Grow G G1) (h:G p=none):Grow G (gup G1 p o):=⟨fun b u e=>by rw [u07 (gne e h)];exact a.kp b u e⟩
theorem Grow.none {G G1:Gp} {p:Addr} (a:Grow G G1) (h:G1 p=none):G p=none:=by
 cases e:G p with
 | none=>rfl
 | some o=>rw [a.kp p o e] at h;cases h
end Rw
namespace L3
open PySem PySem.Spec PyProof.Rows L2
theorem w73:(∀ i j G q,xEqB false (.int i) (.int j) G q=q (.bl (decide (i=j))) G) /\ (∀ i j G q,xEqB true (.int i) (.int j) G q=q (.bl (!decide (i=j))) G) /\
  (∀ i j G q,xEqB false (.str i) (.str j) G q=q (.bl (decide (i=j))) G) /\ (∀ i j G q,xEqB true (.str i) (.str j) G q=q (.bl (!decide (i=j))) G) /\
  (∀ a c G q,xEqB false (.ref a) (.ref c) G q=∃ n sd se b,n<=40 /\ snap G n (.ref a)=some sd /\ snap G n (.ref c)=some se /\ eqN n sd se=some b /\ q (.bl b) G) /\
  (∀ a c G q,xEqB true (.ref a) (.ref c) G q=∃ n sd se b,n<=40 /\ snap G n (.ref a)=some sd /\ snap G n (.ref c)=some se /\ eqN n sd se=some b /\ q (.bl (!b)) G) /\
  (∀ a c G q,xEqB false (.tup a) (.tup c) G q=∃ n sd se b,n<=40 /\ snap G n (.tup a)=some sd /\ snap G n (.tup c)=some se /\ eqN n sd se=some b /\ q (.bl b) G) /\
  (∀ a c G q,xEqB true (.tup a) (.tup c) G q=∃ n sd se b,n<=40 /\ snap G n (.tup a)=some sd /\ snap G n (.tup c)=some se /\ eqN n sd se=some b /\ q (.bl (!b)) G) /\
  (∀ i j G q,xAdd (.int i) (.int j) G q=q (.int (i+j)) G) /\ (∀ i j G q,xMul (.int i) (.int j) G q=(CMul i j /\ q (.int (i * j)) G)) /\
  (∀ a k G q,xMul (.ref a) (.int k) G q=(match G a with | some (.lst xs)=>(-(2 ^ 63)<=k /\ k < 2 ^ 63 /\ xs.length * k.toNat<=sizeLine) /\ ∀ p,G p=none->q (.ref p) (gup G p (.lst (List.replicate k.toNat xs).flatten)) | _=>False)) /\
  (∀ i j G q,xLt (.int i) (.int j) G q=q (.bl (decide (i < j))) G) /\
  (∀ ds i G q,xIx (.tup ds) (.int i) G q=(match atI ds i with | some d=>q d G | none=>False)) /\
  (∀ a i G q,xIx (.ref a) (.int i) G q=(match u08 (G a) with | some ds=>(match atI ds i with | some d=>q d G | none=>False) | none=>False)) /\
  (∀ xs G q,xLen [.tup xs] G q=q (.int xs.length) G) /\ (∀ a G q,xLen [.ref a] G q=(match u08 (G a) with | some xs=>q (.int xs.length) G | none=>False)) :=
 ⟨fun _ _ _ _=>rfl,fun _ _ _ _=>rfl,fun _ _ _ _=>rfl,fun _ _ _ _=>rfl,fun _ _ _ _=>rfl,fun _ _ _ _=>rfl,fun _ _ _ _=>rfl,fun _ _ _ _=>rfl,fun _ _ _ _=>rfl,fun _ _ _ _=>rfl,fun _ _ _ _=>rfl,fun _ _ _ _=>rfl,fun _ _ _ _=>rfl,fun _ _ _ _=>rfl,fun _ _ _=>rfl,fun _ _ _=>rfl⟩
theorem w72:(∀ f i j G q,xInt f (.int i) (.int j) G q=q (.int (f i j)) G) /\ (∀ C f i j G q,ul1 C f (.int i) (.int j) G q=(C i j /\ q (.int (f i j)) G)) /\ (∀ i j G q,xLe (.int i) (.int j) G q=q (.bl (decide (i<=j))) G) /\
  (∀ i j G q,xGt (.int i) (.int j) G q=q (.bl (decide (j < i))) G) /\ (∀ i j G q,xGe (.int i) (.int j) G q=q (.bl (decide (j<=i))) G) /\ (∀ i G q,xNeg (.int i) G q=q (.int (-i)) G) /\
  (∀ a k v G q,xSet (.ref a) (.int k) v G q=(match G a with | some (.lst ds)=>(match ixN ds.length k with | some j=>q (gup G a (.lst (ds.set j v))) | none=>False) | _=>False)) /\
  (∀ a lo hi G q,uu0 (.ref a) lo hi G q=(match u08 (G a) with | some ds=>∀ p,G p=none->q (.ref p) (gup G p (.lst (cutD ds lo hi))) | none=>False)) /\
  (∀ ds lo hi G q,uu0 (.tup ds) lo hi G q=(¬ (HT.sIx ds.length 0 lo=0 /\ HT.sIx ds.length ds.length hi=ds.length) /\ q (.tup (cutD ds lo hi)) G)) /\
  (∀ x G q,xIs2 x .non G q=(match x with | .non=>q (.bl true) G | _=>q (.bl false) G)) /\ (∀ x b G q,xIs2 x (.bl b) G q=(match x with | .bl c=>q (.bl (decide (c=b))) G | _=>q (.bl false) G)) /\
  (∀ x G q,v09 x .non G q=(match x with | .non=>q (.bl false) G | _=>q (.bl true) G)) /\ (∀ x b G q,v09 x (.bl b) G q=(match x with | .bl c=>q (.bl (!decide (c=b))) G | _=>q (.bl true) G)) /\
  (∀ i G q,xAbs [.int i] G q=q (.int (if i < 0 then -i else i)) G) /\ (∀ i j G q,vr1 [.int i,.int j] G q=(CDiv i j /\ q (.tup [.int (i / j),.int (i % j)]) G)) /\
  (∀ i j G q,vr0 [.int i,.int j] G q=q (.int (if j > i then j else i)) G) /\ (∀ i j G q,vq9 [.int i,.int j] G q=q (.int (if j < i then j else i)) G) /\
  (∀ i G q,ut9 [.int i] G q=q (.int i) G) /\ (∀ b G q,ut9 [.bl b] G q=q (.int (if b then 1 else 0)) G) /\
  (∀ xs G q,ul0 [.tup xs] G q=∀ p,G p=none->q (.ref p) (gup G p (.lst xs))) /\ (∀ a G q,ul0 [.ref a] G q=(match u08 (G a) with | some xs=>∀ p,G p=none->q (.ref p) (gup G p (.lst xs)) | none=>False)) /\
  (∀ xs G q,ua7 [.tup xs] G q=q (.tup xs) G) /\ (∀ a G q,ua7 [.ref a] G q=(match u08 (G a) with | some xs=>q (.tup xs) G | none=>False)) /\
  (∀ a G q,xAll [.ref a] G q=(match u08 (G a) with | some xs=>(match ut4 xs with | some bs=>q (.bl (bs.all id)) G | none=>False) | none=>False)) /\
  (∀ x T G q,uq6 [x,.ty T] G q=((T = "int" \/ T = "str" \/ T = "bool" \/ T = "list" \/ T = "tuple" \/ T = "dict") /\ (match vj4 G x with | some n=>q (.bl (subK n T)) G | none=>False))) /\
  (∀ a d G q,ug2 (.ref a) [d] G q=(match G a with | some (.lst xs)=>xs.length < sizeLine /\ q .non (gup G a (.lst (xs++[d]))) | _=>False)) /\
  (∀ a b G q,ug1 (.ref a) [.ref b] G q=(match G a,G b with | some (.lst xs),some (.lst ys)=>xs.length+ys.length<=sizeLine /\ q .non (gup G a (.lst (xs++ys))) | _,_=>False)) /\
  (∀ a G q,w00 (.ref a) [] G q=(match G a with | some (.lst _)=>q .non (gup G a (.lst [])) | _=>False)):=by
 refine ⟨?_,?_,?_,?_,?_,?_,?_,?_,?_,?_,?_,?_,?_,?_,?_,?_,?_,?_,?_,?_,?_,?_,?_,?_,?_,?_,?_,?_⟩ <;> intros <;> rfl
def strsOf:List D->Option (List Str)
 | []=>some []
 | .str x::r=>(strsOf r).map (x::·)
 | _=>none
def intsOf:List D->Option (List Int)
 | []=>some []
 | .int x::r=>(intsOf r).map (x::·)
 | _=>none
section
variable {X:Cx} {K:W.Frag} {H:Hp}
theorem uc0:∀ {ds:List D} {ws:List Str} {vs:List V},strsOf ds=some ws->RelDs K H ds vs->vs=ws.map V.str
 | [],ws,vs,e,r=>by cases e;rw [r.inv_nil];rfl
 | .str b::ds,ws,vs,e,r=>by
  obtain ⟨x,xs,rfl,h1,h2⟩:=r.inv_cons;obtain ⟨ws',e',rfl⟩:=Option.map_eq_some_iff.mp (show (strsOf ds).map (b::·)=some ws from e);rw [h1.str_inv,uc0 e' h2];rfl
 | .non::_,_,_,e,_=>by cases e
 | .bl _::_,_,_,e,_=>by cases e
 | .int _::_,_,_,e,_=>by cases e
 | .tup _::_,_,_,e,_=>by cases e
 | .ref _::_,_,_,e,_=>by cases e
 | .ty _::_,_,_,e,_=>by cases e
theorem uc7:∀ {ds:List D} {ws:List Int} {vs:List V},intsOf ds=some ws->RelDs K H ds vs->vs=ws.map V.int
 | [],ws,vs,e,r=>by cases e;rw [r.inv_nil];rfl
 | .int b::ds,ws,vs,e,r=>by
  obtain ⟨x,xs,rfl,h1,h2⟩:=r.inv_cons;obtain ⟨ws',e',rfl⟩:=Option.map_eq_some_iff.mp (show (intsOf ds).map (b::·)=some ws from e);rw [h1.int_inv,uc7 e' h2];rfl
 | .non::_,_,_,e,_=>by cases e
 | .bl _::_,_,_,e,_=>by cases e
 | .str _::_,_,_,e,_=>by cases e
 | .tup _::_,_,_,e,_=>by cases e
 | .ref _::_,_,_,e,_=>by cases e
 | .ty _::_,_,_,e,_=>by cases e
theorem v89 {w:Str} {ws:List Str}:inV (V.str w) (ws.map V.str)=decide (w ∈ ws):=by
 unfold inV
 induction ws with
 | nil=>rfl
 | cons x xs ih =>
  rw [List.map_cons,List.any_cons,ih]
  show ((x == w) || decide (w ∈ xs))=_
  by_cases h:x=w
  ·subst h;simp
  ·have h':¬ w=x:=fun e=>h e.symm
   have:(x == w)=false:=by simpa using h
   rw [this];simp [h']
theorem v90 {w:Int} {ws:List Int}:inV (V.int w) (ws.map V.int)=decide (w ∈ ws):=by
 unfold inV
 induction ws with
 | nil=>rfl
 | cons x xs ih =>
  rw [List.map_cons,List.any_cons,ih]
  show ((x == w) || decide (w ∈ xs))=_
  by_cases h:x=w
  ·subst h;simp
  ·have h':¬ w=x:=fun e=>h e.symm
   have:(x == w)=false:=by simpa using h
   rw [this];simp [h']
theorem uh6:∀ ws:List Str,(ws.map V.str).all uh8=true
 | []=>rfl
 | _::ws=>by rw [List.map_cons,List.all_cons,uh6 ws];rfl
theorem uh7:∀ ws:List Int,(ws.map V.int).all uh8=true
 | []=>rfl
 | _::ws=>by rw [List.map_cons,List.all_cons,uh7 ws];rfl
def xInB (neg:Bool):R3:=fun x y G q=>match x,y with
 | .str w,.tup ds=>(match strsOf ds with | some ws=>q (.bl (if neg then !decide (w ∈ ws) else decide (w ∈ ws))) G | none=>False)
 | .str w,.ref a=>(match u08 (G a) with | some ds=>(match strsOf ds with | some ws=>q (.bl (if neg then !decide (w ∈ ws) else decide (w ∈ ws))) G | none=>False) | none=>False)
 | .int w,.tup ds=>(match intsOf ds with | some ws=>q (.bl (if neg then !decide (w ∈ ws) else decide (w ∈ ws))) G | none=>False)
 | .int w,.ref a=>(match u08 (G a) with | some ds=>(match intsOf ds with | some ws=>q (.bl (if neg then !decide (w ∈ ws) else decide (w ∈ ws))) G | none=>False) | none=>False)
 | _,_=>False
theorem vp1 {neg:Bool} {x y:V} {Q:VK} (h:lowR K (xInB neg) x y H Q):rIn K neg x y H Q:=by
 obtain ⟨d,e,G,q,r1,r2,c,t,f⟩:=h;unfold xInB at t;split at t
 ·rename_i w ds
  split at t
  ·rename_i ws es
   obtain ⟨a,xs,rfl,s1,q1⟩:=r2.tup_inv;cases r1.str_inv;obtain rfl:=uc0 es q1;exact ⟨a,_,rfl,.inr s1,rfl,uh6 ws,f _ _ _ _ (by rw [v89];exact RelD.blI) c (Le.refl H) t⟩
  ·exact t.elim
 ·rename_i w a
  split at t
  ·rename_i ds eq
   split at t
   ·rename_i ws es
    obtain ⟨xs,s1,q1⟩:=u27 c eq;cases r1.str_inv;obtain rfl:=uc0 es q1;exact ⟨a,_,r2.ref_inv,.inl s1,rfl,uh6 ws,f _ _ _ _ (by rw [v89];exact RelD.blI) c (Le.refl H) t⟩
   ·exact t.elim
  ·exact t.elim
 ·rename_i w ds
  split at t
  ·rename_i ws es
   obtain ⟨a,xs,rfl,s1,q1⟩:=r2.tup_inv;cases r1.int_inv;obtain rfl:=uc7 es q1;exact ⟨a,_,rfl,.inr s1,rfl,uh7 ws,f _ _ _ _ (by rw [v90];exact RelD.blI) c (Le.refl H) t⟩
  ·exact t.elim
 ·rename_i w a
  split at t
  ·rename_i ds eq
   split at t
   ·rename_i ws es
    obtain ⟨xs,s1,q1⟩:=u27 c eq;cases r1.int_inv;obtain rfl:=uc7 es q1;exact ⟨a,_,r2.ref_inv,.inl s1,rfl,uh7 ws,f _ _ _ _ (by rw [v90];exact RelD.blI) c (Le.refl H) t⟩
   ·exact t.elim
  ·exact t.elim
 ·exact t.elim
theorem x_in {k:Nat} {A:Around} (_:Room k A):Op3 X (compareOp .In) (xInB false):=u57 v52 fun _ _ _ _ h=>vp1 h
theorem uk8 {k:Nat} {A:Around} (_:Room k A):Op3 X (compareOp .NotIn) (xInB true):=u57 uo1 fun _ _ _ _ h=>vp1 h
end
end L3
namespace L2
open PySem PySem.Spec PyProof.Rows
def Ite (K:W.Frag) (a:Addr):It :=
 ⟨fun i H=>∃ xs x,SqL K H a xs /\ xs[i]?=some x,fun i H v H'=>∃ p x,v=.ref p /\ H p=none /\ H'=upd H p (.tup [.int (i:Int),x]) /\ ∀ xs,SqL K H a xs->xs[i]?=some x,fun i H=>∃ xs,SqL K H a xs /\ xs.length<=i⟩
theorem Inv.turnedT {X:Cx} {pins:List (Addr × Obj)} {σ:List (Option V)} {H:Hp} {s:Shared} {h':Heap} {t':Nat} {e it:Addr} {o:HO} (I:Inv X pins σ H s) (k:∀ b o,b ≠ e->b ≠ it->s.heap.get? b=some o->h'.get? b=some o)
  (f:∀ b ∈ [e,it],FpOk X pins H b) (new:ObjOk X.prog X.w (upd H s.heap.objs.size o) h' s.heap.objs.size o):Inv X pins σ (upd H s.heap.objs.size o) { s with heap:=h',toks:=t' }:=by
 have hn:H s.heap.objs.size=none:=I.hok.fresh (Nat.le_refl _);have f1:=f e (by simp);have f2:=f it (by simp);have old:∀ b u,H b=some u->b ≠ s.heap.objs.size:=fun b u q z=>by rw [z,hn] at q;cases q
 have nit:∀ b u,H b=some u->b ≠ e /\ b ≠ it:=fun b u q=>⟨fun z=>(by rw [z,f1.1] at q;cases q),fun z=>(by rw [z,f2.1] at q;cases q)⟩
 have nch:∀ {b:Addr},b ∉ [e,it]->b ≠ e /\ b ≠ it:=fun hc=>⟨fun z=>hc (by simp [z]),fun z=>hc (by simp [z])⟩
 refine I.step (g':=s.gens) (d':=s.drawn) (ch:=[e,it]) (fun b hb=>?_) (fun b o _ _ hc q _=>k b o (nch hc).1 (nch hc).2 q) (fun b o _ _ hc q _=>⟨o.slots,k b o (nch hc).1 (nch hc).2 q⟩) (fun b u _ q n=>?_)
  (fun b o hc q=>⟨o,k b o (nch hc).1 (nch hc).2 q⟩) (fun b xs q=>?_) (fun b o u q=>?_) (fun b ps q=>⟨#[],?_⟩) (fun m hm=>?_) (fun b u q=>?_) I.bare
 ·obtain ⟨g0,g1,g2,g3,g4,g5⟩:=f b hb
  exact ⟨g3,g1,g4,g5⟩
 ·rw [u16 (Nat.ne_of_lt (Heap.lt_size q))];exact n
 ·rw [u16 (old b _ q)];exact q
 ·rw [u16 (old b _ q)];exact q
 ·rw [u16 (old b _ q),q];simp
 ·obtain ⟨o,es,ep,ho,r⟩:=hm
  exact ⟨o,es,ep,k _ o (Ne.symm f1.2.1) (Ne.symm f2.2.1) ho,r⟩
 ·by_cases hb:b=s.heap.objs.size
  ·subst hb;rw [u23] at q;cases q;exact new
  ·rw [u16 hb] at q
   refine (I.hok b u q).stay (fun c v hc z=>?_) (fun c z=>by rw [u16 (old c _ z)];exact z) fun c xs z=>by rw [u16 (old c _ z)];exact z
   rcases hc with y | y
   ·subst y;exact k _ v (nit _ u q).1 (nit _ u q).2 z
   ·exact k c v (nit c _ y).1 (nit c _ y).2 z
theorem v18 {P:Program} {w:World} {K:W.Frag} {elts:List Expr} {x1} {pos:Pos} (a e it:Addr) (hne:e ≠ it):Turn P w K (.Tuple elts x1 pos) (Ite K a) [e,it] e (fun i h=>(∃ old,IsEnum h e it (i:Int) old) /\ h.IsListIter it a i) where
 mem:=by simp
 obj:=fun i h st b hb=>by
  obtain ⟨⟨old,st1⟩,st2⟩:=st
  rcases List.mem_cons.mp hb with q | q
  ·subst q
   exact ⟨_,st1,fun v z=>by
    have z':Data.fields _=Data.cell v:=z;cases z'⟩
  ·have q:b=it:=by simpa using q
   subst q;obtain ⟨o,e,c,d⟩:=st2;exact ⟨o,e,fun v z=>by rw [d] at z;cases z⟩
 keep:=fun i h h' st k=>⟨st.1.elim fun old q=>⟨old,k e (by simp) _ q⟩,st.2.at fun o q=>k it (by simp) o q⟩
 item:=by
  intro X hP hw hK hc i pins s σ H E I hf st hg;subst hP hw hK;obtain ⟨⟨old,st1⟩,st2⟩:=st;obtain ⟨xs,x,hq,hx⟩:=hg;obtain ⟨its,rv,p,hz⟩:=I.list hq;obtain ⟨u,hu,ru⟩:=rv.get hx;have hel:e < s.heap.objs.size:=Heap.lt_size st1;have hn:H s.heap.objs.size=none:=I.hok.fresh (Nat.le_refl _);refine wpAny_pyNext_enum_item st1 st2 p.isList (x:=u) (by simpa using hu) hne fun h1 ho hit1 ht1 hz1 hk1=>?_
  refine ⟨_,rfl,wpAny_letOwnedTupleGo_enum ho fun h2 he2 hs2=>?_⟩
  replace hs2:Heap.SameBut e h1 h2:=hs2
  have hk2:∀ b o,b ≠ e->b ≠ it->s.heap.get? b=some o->h2.get? b=some o:=fun b o h1' h2' q=>(hs2.2 b h1').trans (hk1 b o h1' h2' q)
  have ht2:=(hs2.2 s.heap.objs.size (Nat.ne_of_gt hel)).trans ht1;refine ⟨.ref s.heap.objs.size,upd H s.heap.objs.size (.tup [.int (i:Int),x]),I.turnedT (t':=s.toks+1) hk2 hf ?_,rfl,⟨_,x,rfl,hn,rfl,fun ys hy=>by rw [I.list_inj hy hq];exact hx⟩,⟨⟨u,by simpa using he2⟩,?_⟩,fun b hb=>?_⟩
  ·exact ⟨show 2<=sizeLine by decide,[.int i s.toks,u],.cons ⟨s.toks,rfl⟩ (.cons ru .nil),⟨_,ht2,rfl,⟨_,rfl⟩,rfl⟩⟩
  ·exact hit1.at fun o q=>(hs2.2 it (Ne.symm hne)).trans q
  ·rw [u16 ?_];exact (hf b hb).1
   intro z
   rcases List.mem_cons.mp hb with q | q
   ·exact Nat.ne_of_lt hel (q ▸ z)
   ·have q:b=it:=by simpa using q
    obtain ⟨o,y,_⟩:=st2;exact Nat.ne_of_lt (Heap.lt_size y) (q ▸ z)
 done:=by
  intro X hP hw hK hc i pins s σ H E I hf st hg;subst hP hw hK;obtain ⟨⟨old,st1⟩,st2⟩:=st;obtain ⟨xs,hq,hx⟩:=hg;obtain ⟨its,rv,p,hz⟩:=I.list hq;obtain ⟨f0,f1,f2,f3,f4,f5⟩:=hf it (by simp);have hl:=rv.length;exact wpAny_pyNext_enum_end (I.ok.hd hc) st1 st2 p.isList (by simp;omega) fun h' eb=>⟨rfl,I.turned (t':=s.toks) (fun b o hb q=>eb b o hb q) f0 f1 f3 f4 f5⟩
 self:=fun _ _ _ _ _ st h=>st.1.elim fun _ q=>wpAny_pyIter_enum q h
def wl0 (K:W.Frag) (ta:TA):TI:=fun σ H R=>ta σ H fun vs H1=>∃ a,vs=[.ref a] /\ (∃ xs,SqL K H1 a xs) /\ R (Ite K a) H1
theorem vb9:bootBuiltins "enumerate" = some (.type "enumerate"):=by decide
theorem vy1 {X:Cx} {elts:List Expr} {x1} {tpos:Pos} {a:Expr} {ta:TA} {p pos:Pos} (hg:Gl X "enumerate") (hm:X.mg "enumerate" = none) (ha:PA X [a] ta) (hs:starEach [a] X.env=[(false,eval a X.env)]:=by rfl) :
  PI X (.Tuple elts x1 tpos) (.Call (.Name "enumerate" p) [a] [] pos) (wl0 X.K ta):=by
 intro pins s σ H R I h;refine Call_ (uo7 I hg hm vb9 (PyProof.Rows.callWith_type1 (thn (ha pos pins s σ H _ I h) fun us s1 ⟨vs,H1,I1,r1,q1⟩=>?_) hs rfl));obtain ⟨l,e,⟨xs,hq⟩,q⟩:=q1;subst e;cases r1 with
 | cons r rr =>
  cases rr;cases r;obtain ⟨its,rv,pl,hz⟩:=I1.list hq;refine call_enumerate_list pl.isList fun h' he hit hsz hk=>?_
  refine wpAny_pyIter_enum he ?_;have I2:Inv X pins σ H1 { s1 with heap:=h' }:=I1.kept (t':=s1.toks) hk
  refine ⟨s1.heap.objs.size+1,[s1.heap.objs.size+1,s1.heap.objs.size],_,_,H1,rfl,I2,v18 l _ _ (Nat.succ_ne_self _),⟨⟨.none,he⟩,hit⟩,fun b hb=>?_,q⟩;have hb:s1.heap.objs.size<=b:=by
   rcases List.mem_cons.mp hb with z | z
   ·rw [z];exact Nat.le_succ _
   ·have e:b=s1.heap.objs.size:=by simpa using z
    rw [e];exact Nat.le_refl _
  exact I1.fpOk hb (I1.hok.fresh hb)
end L2
namespace L3
open PySem PySem.Spec PyProof.Rows L2
def enD:Nat->List D->List D
 | _,[]=>[]
 | i,d::r=>.tup [.int (i:Int),d]::enD (i+1) r
theorem uc9:∀ {i:Nat} {ds:List D},(enD i ds).length=ds.length
 | _,[]=>rfl
 | _,_::r=>by show (enD _ r).length+1=r.length+1;rw [uc9]
theorem v99:∀ {j i:Nat} {ds:List D} {d:D},ds[i]?=some d->(enD j ds)[i]?=some (.tup [.int ((j+i:Nat):Int),d])
 | j,0,d::r,_,h=>by cases h;rfl
 | j,i+1,d::r,e,h=>by
  have:=v99 (j:=j+1) (i:=i) (ds:=r) (d:=e) (by simpa using h)
  show (enD (j+1) r)[i]?=_
  rw [this,show j+1+i=j+(i+1) by omega]
 | _,_,[],_,h=>by simp at h
theorem uz0 {K:W.Frag} {H0:Hp} {a:Addr} {ds:List D}:ItRel K H0 ⟨enD 0 ds,fun G=>u08 (G a)=some ds⟩ (Ite K a) where
 go:=fun i G H l c ok hi=>by
  obtain ⟨xs,s,r⟩:=u27 c ok;rw [uc9] at hi;exact ⟨xs,xs[i]'(by rw [<- r.length];exact hi),s,List.getElem?_eq_getElem _⟩
 stop:=fun i G H l c ok hi=>by
  obtain ⟨xs,s,r⟩:=u27 c ok;rw [uc9] at hi;exact ⟨xs,s,by rw [<- r.length];exact hi⟩
 yld:=fun i G H x H' l c ok hi y=>by
  obtain ⟨p,v,rfl,hp,rfl,y⟩:=y;obtain ⟨xs,s,r⟩:=u27 c ok;obtain ⟨d,hd,rd⟩:=r.at_ (y xs s)
  refine ⟨c.side hp,Le.fresh hp,.tup [.int (i:Int),d],by rw [v99 hd,Nat.zero_add],?_⟩;rw [RelD];exact ⟨p,_,rfl,SqT.of u23,.cons RelD.intI (.cons (RelD.le (Le.fresh hp) rd) .nil)⟩
def vd6 (t:TA3):TI3:=fun σ G r=>t σ G fun ds G1=>match ds with
 | [.ref a]=>(match u08 (G1 a) with | some ds=>r ⟨enD 0 ds,fun G=>u08 (G a)=some ds⟩ G1 | none=>False)
 | _=>False
theorem v70 {K:W.Frag} {t:TA3} {σ:L2.St} {H:Hp} {R:It->Hp->Prop} (h:lowI K (vd6 t) σ H R):wl0 K (lowA K t) σ H R:=by
 obtain ⟨σd,G,q,rs,c,t,f⟩:=h;refine ⟨σd,G,_,rs,c,t,fun ds G1 vs H1 r1 c1 l1 t1=>?_⟩;split at t1
 ·rename_i a
  split at t1
  ·rename_i ds e
   obtain ⟨v,rfl,rv⟩:=r1.one;cases rv.ref_inv;obtain ⟨xs,s1,q1⟩:=u27 c1 e;exact ⟨a,rfl,⟨xs,s1⟩,f _ _ _ _ uz0 c1 l1 t1⟩
  ·exact t1.elim
 ·exact t1.elim
theorem uh5 {X:Cx} {elts:List Expr} {x1} {tpos:Pos} {a:Expr} {ts:TA3} {p pos:Pos} (hg:Gl X "enumerate") (hm:X.mg "enumerate" = none) (ha:A3 X [a] ts) (hs:starEach [a] X.env=[(false,eval a X.env)]:=by rfl) :
  I3 X (.Tuple elts x1 tpos) (.Call (.Name "enumerate" p) [a] [] pos) (vd6 ts):=vd3 (vy1 hg hm ha hs) fun _ _ _=>v70
end L3
namespace Rw
open PySem L2 L3
theorem ub4 {α β:Type} {f:α->Option β}:∀ {xs:List α},(∀ x ∈ xs,∃ y,f x=some y)->∃ ys,xs.mapM f=some ys
 | [],_=>⟨[],rfl⟩
 | x::xs,h=>by
  obtain ⟨y,hy⟩:=h x List.mem_cons_self;obtain ⟨ys,hys⟩:=ub4 (xs:=xs) fun z hz=>h z (List.mem_cons_of_mem _ hz)
  exact ⟨y::ys,by rw [List.mapM_cons,hy,hys];rfl⟩
theorem snap_tup {G:Gp} {n:Nat} {ds:List D} (h:∀ d ∈ ds,∃ s,snap G n d=some s):∃ s,snap G (n+1) (.tup ds)=some s:=by
 obtain ⟨ys,e⟩:=ub4 h;exact ⟨.tup ys,by show (ds.mapM (snap G n)).map Sn.tup=_;rw [e];rfl⟩
theorem snap_int {G:Gp} {n:Nat} {i:Int}:∃ s,snap G n (.int i)=some s:=by cases n <;> exact ⟨_,rfl⟩
theorem snap_str {G:Gp} {n:Nat} {i:Str}:∃ s,snap G n (.str i)=some s:=by cases n <;> exact ⟨_,rfl⟩
theorem snap_ref {G:Gp} {n:Nat} {a b:Addr} (h:u08 (G a)=u08 (G b)):snap G n (.ref a)=snap G n (.ref b):=by
 cases n with
 | zero=>rfl
 | succ n=>show ((u08 (G a)).bind _)=((u08 (G b)).bind _);rw [h]
end Rw
namespace Law
open PySem L2 L3 Rw
theorem atI_last {α:Type} {xs:List α} {x:α}:atI (xs++[x]) (-1)=some x:=by
 unfold atI ixN;rw [if_neg (by decide),List.length_append,List.length_singleton,if_pos (by omega),Option.bind_some];have:((-1:Int)+((xs.length+1:Nat):Int)).toNat=xs.length:=by omega
 rw [this,List.getElem?_append_right (Nat.le_refl _),Nat.sub_self];rfl
end Law
namespace L3
open PySem PySem.Spec PyProof.Rows L2
section
variable {X:Cx}
theorem uk3:∀ ks:List Int,uk4 (ks.map D.int)=some ks
 | []=>rfl
 | k::ks=>by show (uk4 (ks.map D.int)).map (k::·)=_;rw [uk3 ks];rfl
end
end L3
namespace L3
open PySem PySem.Spec PyProof.Rows L2 Rw
abbrev Mv:=Bool × Nat
def nD (x:Nat):D:=.int (x:Int)
def xr (m k:Nat):Nat:=m ^^^ 2 ^ (k - 1)
def hi (m:Nat):Nat:=if m=0 then 0 else m.log2+1
def fin:Nat->List Mv->Nat
 | m,[]=>m
 | m,p::r=>fin (xr m p.2) r
def low:Nat->List Mv->Nat
 | m,[]=>hi m
 | m,p::r=>min (low (xr m p.2) r) (hi m)
def thw:Nat->List Mv->List Mv
 | _,[]=>[]
 | m,p::r=>if p.2<=low (xr m p.2) r then p::thw (xr m p.2) r else thw (xr m p.2) r
def once (w:List Mv):List Mv:=thw 0 w
theorem vk9 {α:Type} (ns:List α) (c:α):atI (ns++[c]) (-1)=some c:=by
 unfold atI ixN;rw [if_neg (by decide),if_pos (by simp;omega)];have e:(-1+((ns++[c]).length:Int)).toNat=ns.length:=by simp;omega
 rw [Option.bind_some,e];simp
theorem at_getD {α:Type} {xs:List α} {v:Int} (h0:0<=v) (h1:v < (xs.length:Int)):∃ x,x ∈ xs /\ atI xs v=some x:=by
 have h2:v.toNat < xs.length:=by omega
 refine ⟨xs[v.toNat],List.getElem_mem _,?_⟩;unfold atI ixN;rw [if_pos h0,if_pos h1,Option.bind_some,List.getElem?_eq_getElem h2]
def hD (x:Nat):D:=nD (hi x)
theorem ub8:∀ bs:List Bool,ut4 (bs.map D.bl)=some bs
 | []=>rfl
 | b::bs=>by rw [List.map_cons,ut4,ub8 bs];rfl
theorem uk5 {G:Gp} {a b:Addr} {xs ys:List D} {q:DK} (ha:G a=some (.lst xs)) (hb:G b=some (.lst ys)) (hz:xs.length+ys.length<=sizeLine) (k:∀ p,G p=none->q (.ref p) (gup G p (.lst (xs++ys)))):xAdd (.ref a) (.ref b) G q:=by
 unfold xAdd;simp only [ha,hb];exact ⟨hz,k⟩
theorem v05 {G:Gp} {a:Addr} {ns:List Int} {q:DK} (h:u08 (G a)=some (ns.map .int)) (k:q (.int ns.sum) G):xSum [.ref a] G q:=by
 unfold xSum;simp only [h,uk3];exact k
theorem vo8 {P:Program} {w:World} {K:W.Frag} {mg:Str->Option Value} {base:Heap} {n:Nat} {x qual:Str} {st:Stmt} {ps:List Str} {d:FnAt K x qual st ps} {S:Sp3} (h:∀ ds G R,¬ S ds G R):Ok P w mg base n d S :=
 ⟨fun vs H Q E ⟨ds,G,R,_,_,s,_⟩=>absurd s (h ds G R),fun A outer s H args us vs Q E _ _ _ _ ⟨ds,G,R,_,_,s,_⟩=>absurd s (h ds G R)⟩
theorem ue7 {G:Gp} {a b:Addr} {xs ys:List D} {q:DK} (ha:G a=some (.lst xs)) (hb:G b=some (.lst ys)) (hz:xs.length+ys.length<=100000) (k:∀ p,G p=none->q (.ref p) (gup G p (.lst (xs++ys)))):xAdd (.ref a) (.ref b) G q :=
 uk5 ha hb (Nat.le_of_lt (Nat.lt_of_le_of_lt hz (by decide))) k
end L3
namespace L3
open PySem PySem.Spec PyProof.Rows L2
section
variable {X:Cx} {K:W.Frag} {H:Hp} {σ:L2.St} {a b c:Expr} {ta tb tc:TE3} {pos:Pos}
def ud4 (r r':R3) (ta tb tc:TE3):TE3:=fun σ G q=>ta σ G fun x G1=>tb σ G1 fun y G2=>r x y G2 fun z G3=>match z with
 | .bl k=>if k=true then tc σ G3 fun w G4=>r' y w G4 q else q (.bl false) G3
 | _=>False
theorem uo4 {r r':R3} {Q:VK} (h:lowE K (ud4 r r' ta tb tc) σ H Q):v23 (lowR K r) (lowR K r') (lowE K ta) (lowE K tb) (lowE K tc) σ H Q:=by
 obtain ⟨σd,G,q,rs,c,t,f⟩:=h;refine ⟨σd,G,_,rs,c,t,fun d G1 v H1 r1 c1 l1 t1=>⟨σd,G1,_,rs.le l1,c1,t1,fun e G2 u H2 r2 c2 l2 t2=>⟨d,e,G2,_,RelD.le l2 r1,r2,c2,t2,fun z G3 x H3 r3 c3 l3 t3=>?_⟩⟩⟩;have l13:=l1.trans (l2.trans l3);split at t3
 ·rename_i k
  refine ⟨k,r3.bl_inv,?_⟩;cases k with
  | true =>
   rw [if_pos rfl] at t3 ⊢;exact ⟨σd,G3,_,rs.le l13,c3,t3,fun z2 G4 x2 H4 r4 c4 l4 t4=>⟨e,z2,G4,q,RelD.le (l3.trans l4) r2,r4,c4,t4,f.le (l13.trans l4)⟩⟩
  | false =>
   rw [if_neg Bool.false_ne_true] at t3 ⊢;exact f _ _ _ _ RelD.blI c3 l13 t3
 ·exact t3.elim
theorem w30 {op op':CmpOp} {r r':R3} (ho:Op3 X (compareOp op) r) (ho':Op3 X (compareOp op') r') (ha:E3 X a ta) (hb:E3 X b tb) (hc:E3 X c tc) (hm:lastMarks [op,op'] [b,c]=false:=by with_unfolding_all rfl):E3 X (.Compare a [op,op'] [b,c] pos) (ud4 r r' ta tb tc) :=
 u32 (vg7 ho ho' ha hb hc hm) fun _ _ _=>uo4
theorem ul3 {op op':CmpOp} {r r':R3} (ho:Op3 X (compareOp op) r) (ho':Op3 X (compareOp op') r') (ha:E3 X a ta) (hb:E3 X b tb) (hc:E3 X c tc) (hm:lastMarks [op,op'] [b,c]=false:=by with_unfolding_all rfl):T3 X (.Compare a [op,op'] [b,c] pos) (dB (ud4 r r' ta tb tc)) :=
 vd2 (vf5 ho ho' ha hb hc hm) fun σ H Q h=>by
  obtain ⟨σd,G,q,rs,c,t,f⟩:=h;exact uo4 (K:=X.K) ⟨σd,G,_,rs,c,t,fun x G1 v H1 r1 c1 l1 t1=>by
   split at t1
   ·rename_i k
    exact ⟨k,r1.bl_inv,f _ _ _ c1 l1 t1⟩
   ·exact t1.elim⟩
end
end L3
namespace L2
open PySem PySem.Spec PyProof.Rows
def jn (sep:Str) (ws:List Str):Str:=Builtin.Str.glued sep ws
theorem v80 (sep w:Str):jn sep [w]=w:=rfl
section
variable {X:Cx}
theorem uf0:∀ {ws:List Str} {us:List Value},Vals (ws.map V.str) us->∃ l:List (Str × Tok),us=strValues l /\ l.map (·.1)=ws
 | [],_,.nil=>⟨[],rfl,rfl⟩
 | w::ws,_,.cons r t=>by
  obtain ⟨l,rfl,e⟩:=uf0 t;obtain ⟨k,rfl⟩:=r;exact ⟨(w,k)::l,rfl,by rw [List.map_cons,e]⟩
def rJoin (K:W.Frag):V->List V->Hp->VK->Prop:=fun x vs H Q=>∃ (sep:Str) (p:Addr) (ws:List Str),x=.str sep /\ vs=[.ref p] /\ SqL K H p (ws.map V.str) /\ Builtin.Str.tooLong ((ws.toArray).foldl (·+·.length+sep.length) 0)=false /\ (jn sep ws).length<=sizeLine /\ Q (.str (jn sep ws)) H
theorem vz7:MtR X "str.join" (rJoin X.K):=by
 intro pins s σ H x vs v us Q I rx rv h;obtain ⟨sep,p,ws,rfl,rfl,hq,hl,hz,q⟩:=h;obtain ⟨t,rfl⟩:=rx;obtain ⟨u,rfl,ru⟩:=rv.one;cases ru;obtain ⟨its,r',pl,_⟩:=I.list hq;obtain ⟨l,rfl,e⟩:=uf0 r';refine call_meets F.slot_str_join (typeIs_str _ _ _) F.entry_str_join (F.args_str_join_2 _ _) (meets_str_join_list sep t p l (by rw [e];exact hl)) ⟨pl.isList,?_⟩
 match l,e with
 | [],e =>
  subst e;exact ⟨hz,.str _,H,I.tok _,⟨_,rfl⟩,q⟩
 | [a],e =>
  subst e;exact ⟨.str _,H,I,⟨_,rfl⟩,q⟩
 | a::b::l,e =>
  subst e;exact ⟨hz,.str _,H,I.tok _,⟨_,rfl⟩,q⟩
end
end L2
namespace L3
open PySem PySem.Spec PyProof.Rows L2
section
variable {X:Cx} {K:W.Frag} {H:Hp} {o e:Expr} {es:List Expr} {to:TE3} {ts:TA3} {apos cpos:Pos}
@[reducible] def v66:M3:=fun x ds G q=>∃ (sep:Str) (a:Addr) (ws:List Str),x=.str sep /\ ds=[.ref a] /\ u08 (G a)=some (ws.map .str) /\ Builtin.Str.tooLong ((ws.toArray).foldl (·+·.length+sep.length) 0)=false /\ (jn sep ws).length<=sizeLine /\ q (.str (jn sep ws)) G
theorem ul5:∀ {ws:List Str} {vs:List V},RelDs K H (ws.map .str) vs->vs=ws.map V.str
 | [],vs,r=>r.inv_nil
 | w::ws,vs,r=>by
  obtain ⟨x,ys,rfl,h1,h2⟩:=r.inv_cons;rw [ul5 h2,h1.str_inv];rfl
theorem ty_str (K:W.Frag):∀ G H x v,Con K G H->RelD K H x v->tyD G "str" x->tyV K "str" v H:=by
 intro G H x v c r t;cases x with
 | str i=>cases r.str_inv;exact rfl
 | int _=>simp [tyD] at t
 | ref a=>cases e:G a with
  | none=>simp [tyD,e] at t
  | some o=>cases o <;> simp [tyD,e] at t
 | _=>exact t.elim
theorem u70 (ho:E3 X o to) (ha:A3 X (e::es) ts) (hbase:attributeBase o "join" X.env (eval o X.env)=eval o X.env:=by rfl)
  (hfew:((backTo cpos (starEach (e::es) X.env)).all (fun x=>!x.1) && (backToKw cpos (keywordEach [] X.env)).all (fun x=>x.1.isSome)
   && decide ((e::es).length+([]:List Keyword).length+(if ([]:List Keyword).isEmpty then 0 else 1) < 30))=true:=by rfl)
  (hline:(apos.endLine == cpos.line)=true:=by rfl) (hs:starEach (e::es) X.env=(false,eval e X.env)::starEach es X.env:=by rfl) (hplain:(backTo cpos (starEach es X.env)).any (·.1)=false:=by rfl) :
  E3 X (.Call (.Attribute o "join" apos) (e::es) [] cpos) (dBM "str" v66 to ts) :=
 u32 (ur5 PySem.F.plainAttrs_str PySem.F.slot_str_join PySem.F.type_str_join (ud2 (r':=lowM X.K v66) vz7 <| by
  rintro x xs H Q ⟨d,ds,G,q,r1,r2,c,⟨sep,a,ws,rfl,rfl,es,h1,h2,t⟩,f⟩;obtain ⟨v,rfl,r3⟩:=r2.one;cases r3.ref_inv;cases r1.str_inv;obtain ⟨ys,s1,q1⟩:=u27 c es;obtain rfl:=ul5 q1;exact ⟨sep,a,ws,rfl,rfl,s1,h1,h2,f _ _ _ _ RelD.strI c (Le.refl H) t⟩) ho ha hbase hfew hline hs hplain) fun _ _ _=>ug3 (ty_str X.K)
theorem wk1:∀ ws:List Str,(jn Str.empty ws).length=(ws.map Str.length).sum:=by
 have key:∀ (ws:List Str) (acc:Array Nat),(ws.foldl (fun acc p=>acc++Str.empty.cps++p.cps) acc).size=acc.size+(ws.map Str.length).sum:=by
  intro ws
  induction ws with
  | nil=>intro acc;simp
  | cons w ws ih =>
   intro acc;rw [List.foldl_cons,ih,Array.size_append,Array.size_append]
   show acc.size+0+w.cps.size+_=_
   rw [List.map_cons,List.sum_cons]
   show _=acc.size+(w.cps.size+_)
   omega
 intro ws;cases ws with
 | nil=>rfl
 | cons w ws =>
  show (ws.foldl (fun acc p=>acc++Str.empty.cps++p.cps) w.cps).size=_
  rw [key];rfl
end
end L3
namespace L2
open PySem PySem.Spec PyProof.Rows
section
variable {X:Cx}
theorem vz3:OpR X (binaryOp .Mult) (fun x y H Q=>∃ (z:Str) (n:Int),x=.str z /\ y=.int n /\ (n=0 \/ n=1) /\ Q (.str (if n=0 then Str.empty else z)) H):=by
 intro pins s σ H x y v u Q I rx ry h;obtain ⟨z,n,rfl,rfl,hn,q⟩:=h;obtain ⟨t,rfl⟩:=rx;obtain ⟨t2,rfl⟩:=ry
 rcases hn with rfl | rfl
 ·exact PySem.P.mul_str_none (by decide) (by decide) ⟨.str _,H,I.tok _,⟨_,rfl⟩,q⟩
 ·refine PySem.P.mul_str (by decide) (fun _ h2=>by simp at h2) (fun _ h2=>by simp at h2) ?_
  rw [if_neg (by decide),if_pos (by simp)];exact ⟨.str z,H,I,⟨_,rfl⟩,q⟩
end
end L2
namespace L3
open PySem PySem.Spec PyProof.Rows L2
section
variable {X:Cx}
@[reducible] def wo1:R3:=fun x y G q=>∃ (z:Str) (n:Int),x=.str z /\ y=.int n /\ (n=0 \/ n=1) /\ q (.str (if n=0 then Str.empty else z)) G
theorem w74:Op3 X (binaryOp .Mult) wo1:=u57 vz3 fun x y H Q ⟨d,e,G,q,r1,r2,c,t,f⟩=>by
 obtain ⟨z,n,rfl,rfl,hn,t⟩:=t;exact ⟨z,n,r1.str_inv,r2.int_inv,hn,f _ _ _ _ RelD.strI c (Le.refl H) t⟩
end
end L3
namespace L3
open PySem PySem.Spec PyProof.Rows L2 Rw
inductive Atm
 | num (i:Nat)
 | box (x:Str)
def aD:Atm->D
 | .num i=>.int (i:Int)
 | .box x=>.str x
inductive Rowp
 | is (x:Str) (a:Atm)
 | op (x o:Str) (a b:Atm)
 | cho (a:Atm) (ys ns:List Rowp)
 | tim (k:Nat) (ys:List Rowp)
mutual
def rowD:Rowp->D
 | .is x a=>.tup [.str "is",.str x,aD a]
 | .op x o a b=>.tup [.str "op",.str x,.str o,aD a,aD b]
 | .cho a ys ns=>.tup [.str "choose",aD a,.tup (u20 ys),.tup (u20 ns)]
 | .tim k ys=>.tup [.str "times",.int (k:Int),.tup (u20 ys)]
def u20:List Rowp->List D
 | []=>[]
 | r::rs=>rowD r::u20 rs
end
theorem u42:∀ rs:List Rowp,u20 rs=rs.map rowD
 | []=>rfl
 | r::rs=>by rw [u20,u42 rs];rfl
theorem u80 (rs:List Rowp):(u20 rs).length=rs.length:=by rw [u42,List.length_map]
theorem u81 (a b:List Rowp):u20 (a++b)=u20 a++u20 b:=by rw [u42,u42,u42,List.map_append]
def okA (W:Nat) (bs:List Str):Atm->Prop
 | .num i=>i < 2 ^ W
 | .box x=>x ∈ bs
def signs:List Str:=["+", "-", "&", "|", "^", "<", "="]
mutual
def okR (W:Nat) (bs:List Str):Rowp->Prop
 | .is x a=>x ∈ bs /\ okA W bs a
 | .op x o a b=>x ∈ bs /\ o ∈ signs /\ okA W bs a /\ okA W bs b
 | .cho a ys ns=>okA W bs a /\ okL W bs ys /\ okL W bs ns
 | .tim k ys=>k<=20 /\ okL W bs ys
def okL (W:Nat) (bs:List Str):List Rowp->Prop
 | []=>True
 | r::rs=>okR W bs r /\ okL W bs rs
end
theorem okL_app {W:Nat} {bs:List Str}:∀ {a b:List Rowp},okL W bs (a++b) ↔ okL W bs a /\ okL W bs b
 | [],b=>by simp [okL]
 | r::a,b=>by
  show okR W bs r /\ okL W bs (a++b) ↔ (okR W bs r /\ okL W bs a) /\ okL W bs b
  rw [okL_app,and_assoc]
mutual
def depR:Rowp->Nat
 | .is _ _=>0
 | .op _ _ _ _=>0
 | .cho _ ys ns=>1+max (depL ys) (depL ns)
 | .tim _ ys=>1+depL ys
def depL:List Rowp->Nat
 | []=>0
 | r::rs=>max (depR r) (depL rs)
end
theorem u73:∀ {a b:List Rowp},depL (a++b)=max (depL a) (depL b)
 | [],b=>by simp [depL]
 | r::a,b=>by
  show max (depR r) (depL (a++b))=max (max (depR r) (depL a)) (depL b)
  rw [u73];omega
mutual
def wtR:Rowp->Nat
 | .is _ _=>1
 | .op _ _ _ _=>1
 | .cho _ ys ns=>1+wtL ys+wtL ns
 | .tim k ys=>k * wtL ys
def wtL:List Rowp->Nat
 | []=>0
 | r::rs=>wtR r+wtL rs
end
theorem u98:∀ {a b:List Rowp},wtL (a++b)=wtL a+wtL b
 | [],b=>by simp [wtL]
 | r::a,b=>by
  show wtR r+wtL (a++b)=wtR r+wtL a+wtL b
  rw [u98];omega
mutual
def szR:Rowp->Nat
 | .is _ _=>1
 | .op _ _ _ _=>1
 | .cho _ ys ns=>1+szL ys+szL ns
 | .tim _ ys=>1+szL ys
def szL:List Rowp->Nat
 | []=>0
 | r::rs=>szR r+szL rs
end
theorem u71:∀ {a b:List Rowp},szL (a++b)=szL a+szL b
 | [],b=>by simp [szL]
 | r::a,b=>by
  show szR r+szL (a++b)=szR r+szL a+szL b
  rw [u71];omega
theorem vs4:∀ r:Rowp,1<=szR r
 | .is _ _=>Nat.le_refl _
 | .op _ _ _ _=>Nat.le_refl _
 | .cho _ ys ns=>by show 1<=1+szL ys+szL ns;omega
 | .tim _ ys=>by show 1<=1+szL ys;omega
theorem v77:∀ rs:List Rowp,rs.length<=szL rs
 | []=>Nat.le_refl _
 | r::rs=>by
  have:=vs4 r;have:=v77 rs
  show rs.length+1<=szR r+szL rs
  omega
inductive Hd
 | c1 (a:Atm)
 | c2 (a:Atm) (ys:List Rowp)
 | tm (k:Nat)
def hdD:Hd->D
 | .c1 a=>.tup [.str "choose",aD a]
 | .c2 a ys=>.tup [.str "choose",aD a,.tup (u20 ys)]
 | .tm k=>.tup [.str "times",.int (k:Int)]
structure Fr where
 p:Addr
 ahead:List Rowp
 hd:Hd
 o:Nat
def frD (f:Fr):D:=.tup [.ref f.p,hdD f.hd,.int (f.o:Int)]
def Hd.mul:Hd->Nat
 | .tm k=>k
 | _=>1
def Hd.wt:Hd->Nat
 | .c1 _=>1
 | .c2 _ ys=>1+wtL ys
 | .tm _=>0
def Hd.ys:Hd->List Rowp
 | .c2 _ ys=>ys
 | _=>[]
def Hd.ok (W:Nat) (bs:List Str):Hd->Prop
 | .c1 a=>okA W bs a
 | .c2 a ys=>okA W bs a /\ okL W bs ys
 | .tm k=>k<=20
def SK (W:Nat) (bs:List Str):List Fr->Nat->List Rowp->Nat->Nat->Prop
 | [],o,rows,w,z=>o=1 /\ wtL rows=w /\ szL rows=z /\ depL rows<=5 /\ okL W bs rows
 | f::fs,o,rows,w,z=>o=f.o * f.hd.mul /\ depL rows+(fs.length+1)<=5 /\ depL f.hd.ys+(fs.length+1)<=5 /\ okL W bs rows /\ f.hd.ok W bs /\
  ∃ w' z',w=w'+o * wtL rows+f.o * f.hd.wt /\ z=z'+szL rows+1+szL f.hd.ys /\ SK W bs fs f.o f.ahead w' z'
def PuAt (G:Gp) (pr:Addr):Prop:=∃ a b:Int,0<=a /\ 0<=b /\ b < 2147483648 /\ G pr=some (.lst [.int a,.int b])
structure PAdv (pr:Addr) (G G':Gp):Prop where
 at_:PuAt G' pr
 kp:∀ c o,c ≠ pr->G c=some o->G' c=some o
theorem PuAt.grow {G G':Gp} {pr:Addr} (h:PuAt G pr) (g:Grow G G'):PuAt G' pr:=by
 obtain ⟨a,b,h1,h2,h3,h4⟩:=h;exact ⟨a,b,h1,h2,h3,g.kp _ _ h4⟩
theorem PuAt.ne {G:Gp} {pr p:Addr} (h:PuAt G pr) (hp:G p=none):p ≠ pr:=by
 obtain ⟨a,b,_,_,_,h4⟩:=h;exact fun e=>by rw [e,h4] at hp;cases hp
theorem PAdv.refl {pr:Addr} {G:Gp} (h:PuAt G pr):PAdv pr G G:=⟨h,fun _ _ _ e=>e⟩
theorem PAdv.trans {pr:Addr} {G G1 G2:Gp} (a:PAdv pr G G1) (b:PAdv pr G1 G2):PAdv pr G G2:=⟨b.at_,fun c o h e=>b.kp c o h (a.kp c o h e)⟩
theorem PAdv.grow {pr:Addr} {G G1 G2:Gp} (a:PAdv pr G G1) (g:Grow G1 G2):PAdv pr G G2:=⟨a.at_.grow g,fun c o h e=>g.kp _ _ (a.kp c o h e)⟩
theorem PAdv.own {pr p:Addr} {G G1:Gp} {o:DO} (a:PAdv pr G G1) (hp:G p=none) (hne:p ≠ pr):PAdv pr G (gup G1 p o):=by
 refine ⟨?_,fun c u hc e=>by rw [u07 (gne e hp)];exact a.kp c u hc e⟩;obtain ⟨x,y,h1,h2,h3,h4⟩:=a.at_
 exact ⟨x,y,h1,h2,h3,by rw [u07 (Ne.symm hne)];exact h4⟩
theorem PAdv.fresh {pr p:Addr} {G G1:Gp} (a:PAdv pr G G1) (hp:G1 p=none) (hne:p ≠ pr):G p=none:=by
 cases e:G p with
 | none=>rfl
 | some o=>rw [a.kp p o hne e] at hp;cases hp
theorem PAdv.back {pr:Addr} {G G1 G2:Gp} (g:Grow G G1) (hp:G pr=none) (a:PAdv pr G1 G2):Grow G G2:=⟨fun c o e=>a.kp c o (gne e hp) (g.kp c o e)⟩
def Kp (p:Addr) (G G':Gp):Prop:=∀ c o,c ≠ p->G c=some o->G' c=some o
def shF (f:Fr) (fs:List Fr) (rows:List Rowp):List Fr × List Rowp:=match f.hd with
 | .c1 a=>({ f with hd:=.c2 a rows }::fs,[])
 | .c2 a ys=>(fs,f.ahead++[.cho a ys rows])
 | .tm k=>(fs,f.ahead++[.tim k rows])
theorem SK.shut {W:Nat} {bs:List Str} {f:Fr} {fs:List Fr} {o:Nat} {rows:List Rowp} {w z:Nat} (h:SK W bs (f::fs) o rows w z):SK W bs (shF f fs rows).1 f.o (shF f fs rows).2 w z:=by
 obtain ⟨p,ahead,hd,of⟩:=f;obtain ⟨h1,h2,h3,h4,h5,w',z',e1,e2,h6⟩:=h;cases hd with
 | c1 a =>
  simp only [Hd.mul,Nat.mul_one] at h1;subst h1
  show SK W bs (⟨p,ahead,.c2 a rows,o⟩::fs) o [] w z
  have e1:w=w'+o * wtL rows+o * 1:=e1;have e2:z=z'+szL rows+1+0:=e2;refine ⟨(Nat.mul_one o).symm,by simp only [depL];omega,h2,trivial,⟨h5,h4⟩,w',z',?_,?_,h6⟩
  ·show w=w'+o * wtL []+o * (1+wtL rows)
   simp only [wtL,Nat.mul_add,Nat.mul_one,Nat.mul_zero] at e1 ⊢;omega
  ·show z=z'+szL []+1+szL rows
   simp only [szL];omega
 | c2 a ys =>
  simp only [Hd.mul,Nat.mul_one] at h1;subst h1;simp only [Hd.wt,Hd.ys,Nat.mul_add,Nat.mul_one] at e1 e2 h3;obtain ⟨h5a,h5b⟩:=h5;cases fs with
  | nil =>
   obtain ⟨q1,q2,q3,q4,q5⟩:=h6;have q1:o=1:=q1;subst q1;refine ⟨rfl,?_,?_,?_,okL_app.mpr ⟨q5,⟨h5a,h5b,h4⟩,trivial⟩⟩
   ·show wtL (ahead++[.cho a ys rows])=w
    rw [u98];simp only [wtL,wtR];have:wtL ahead=w':=q2;omega
   ·show szL (ahead++[.cho a ys rows])=z
    rw [u71];simp only [szL,szR];have:szL ahead=z':=q3;omega
   ·show depL (ahead++[.cho a ys rows])<=5
    rw [u73];simp only [depL,depR];have:depL ahead<=5:=q4;simp at h2 h3;omega
  | cons g gs =>
   obtain ⟨q1,q2,q3,q4,q5,w2,z2,e3,e4,q6⟩:=h6;have q1:o=g.o * g.hd.mul:=q1;have q2:depL ahead+(gs.length+1)<=5:=q2;refine ⟨q1,?_,q3,okL_app.mpr ⟨q4,⟨h5a,h5b,h4⟩,trivial⟩,q5,w2,z2,?_,?_,q6⟩
   ·show depL (ahead++[.cho a ys rows])+(gs.length+1)<=5
    rw [u73];simp only [depL,depR];simp at h2 h3;omega
   ·show w=w2+o * wtL (ahead++[.cho a ys rows])+g.o * g.hd.wt
    have e3:w'=w2+o * wtL ahead+g.o * g.hd.wt:=e3;rw [u98];simp only [wtL,wtR,Nat.mul_add,Nat.mul_one,Nat.mul_zero];omega
   ·show z=z2+szL (ahead++[.cho a ys rows])+1+szL g.hd.ys
    have e4:z'=z2+szL ahead+1+szL g.hd.ys:=e4;rw [u71];simp only [szL,szR];omega
 | tm k =>
  simp only [Hd.mul] at h1;simp only [Hd.wt,Hd.ys,szL,Nat.mul_zero,Nat.add_zero] at e1 e2;have em:o * wtL rows=of * (k * wtL rows):=by rw [h1,Nat.mul_assoc]
  cases fs with
  | nil =>
   obtain ⟨q1,q2,q3,q4,q5⟩:=h6;have q1:of=1:=q1;subst q1;refine ⟨rfl,?_,?_,?_,okL_app.mpr ⟨q5,⟨h5,h4⟩,trivial⟩⟩
   ·show wtL (ahead++[.tim k rows])=w
    rw [u98];simp only [wtL,wtR];have:wtL ahead=w':=q2;omega
   ·show szL (ahead++[.tim k rows])=z
    rw [u71];simp only [szL,szR];have:szL ahead=z':=q3;omega
   ·show depL (ahead++[.tim k rows])<=5
    rw [u73];simp only [depL,depR];have:depL ahead<=5:=q4;simp at h2;omega
  | cons g gs =>
   obtain ⟨q1,q2,q3,q4,q5,w2,z2,e3,e4,q6⟩:=h6;have q1:of=g.o * g.hd.mul:=q1;have q2:depL ahead+(gs.length+1)<=5:=q2;refine ⟨q1,?_,q3,okL_app.mpr ⟨q4,⟨h5,h4⟩,trivial⟩,q5,w2,z2,?_,?_,q6⟩
   ·show depL (ahead++[.tim k rows])+(gs.length+1)<=5
    rw [u73];simp only [depL,depR];simp at h2;omega
   ·show w=w2+of * wtL (ahead++[.tim k rows])+g.o * g.hd.wt
    have e3:w'=w2+of * wtL ahead+g.o * g.hd.wt:=e3;rw [u98];simp only [wtL,wtR,Nat.mul_add,Nat.mul_zero];omega
   ·show z=z2+szL (ahead++[.tim k rows])+1+szL g.hd.ys
    have e4:z'=z2+szL ahead+1+szL g.hd.ys:=e4;rw [u71];simp only [szL,szR];omega
theorem SK.row {W:Nat} {bs:List Str} {fs:List Fr} {o:Nat} {rows:List Rowp} {w z:Nat} {r:Rowp} (h:SK W bs fs o rows w z) (hr:okR W bs r) (h1:wtR r=1) (h2:szR r=1) (h3:depR r=0):SK W bs fs o (rows++[r]) (w+o) (z+1):=by
 cases fs with
 | nil =>
  obtain ⟨q1,q2,q3,q4,q5⟩:=h;subst q1;refine ⟨rfl,?_,?_,?_,okL_app.mpr ⟨q5,hr,trivial⟩⟩
  ·rw [u98];simp only [wtL];omega
  ·rw [u71];simp only [szL];omega
  ·rw [u73];simp only [depL];omega
 | cons g gs =>
  obtain ⟨q1,q2,q3,q4,q5,w2,z2,e3,e4,q6⟩:=h;refine ⟨q1,?_,q3,okL_app.mpr ⟨q4,hr,trivial⟩,q5,w2,z2,?_,?_,q6⟩
  ·rw [u73];simp only [depL];omega
  ·rw [u98];simp only [wtL,Nat.mul_add,h1,Nat.mul_one,Nat.mul_zero];omega
  ·rw [u71];simp only [szL];omega
theorem SK.open_ {W:Nat} {bs:List Str} {fs:List Fr} {o:Nat} {rows:List Rowp} {w z:Nat} {p:Addr} {hd:Hd} (h:SK W bs fs o rows w z) (hl:fs.length < 5) (hh:hd.ok W bs) (hy:hd.ys=[]):SK W bs (⟨p,rows,hd,o⟩::fs) (o * hd.mul) [] (w+o * hd.wt) (z+1):=by
 refine ⟨rfl,by simp [depL];omega,by show depL hd.ys+_<=5;rw [hy];simp [depL];omega,trivial,hh,w,z,?_,?_,h⟩
 ·simp [wtL]
 ·show z+1=z+szL []+1+szL hd.ys
  rw [hy];simp [szL]
theorem v28 {G:Gp}:∀ (d k:Nat) (r:Rowp),depR r<=d->∃ s,snap G (k+2 * d+1) (rowD r)=some s:=by
 intro d k
 induction d with
 | zero =>
  intro r h;cases r with
  | is x a =>
   refine Rw.snap_tup (n:=k+2 * 0) fun e he=>?_
   simp only [List.mem_cons,List.not_mem_nil,or_false] at he
   rcases he with rfl | rfl | rfl
   ·exact Rw.snap_str
   ·exact Rw.snap_str
   ·cases a <;> first | exact Rw.snap_int | exact Rw.snap_str
  | op x o a b =>
   refine Rw.snap_tup (n:=k+2 * 0) fun e he=>?_
   simp only [List.mem_cons,List.not_mem_nil,or_false] at he
   rcases he with rfl | rfl | rfl | rfl | rfl
   ·exact Rw.snap_str
   ·exact Rw.snap_str
   ·exact Rw.snap_str
   ·cases a <;> first | exact Rw.snap_int | exact Rw.snap_str
   ·cases b <;> first | exact Rw.snap_int | exact Rw.snap_str
  | cho a ys ns=>simp only [depR] at h;omega
  | tim k2 ys=>simp only [depR] at h;omega
 | succ d ih =>
  intro r h;have hin:∀ ys:List Rowp,depL ys<=d->∃ s,snap G (k+2 * d+2) (.tup (u20 ys))=some s:=by
   intro ys hy;refine Rw.snap_tup (n:=k+2 * d+1) fun e he=>?_
   rw [u42] at he;obtain ⟨r',hr',rfl⟩:=List.mem_map.mp he;refine ih r' ?_;clear he
   induction ys with
   | nil=>cases hr'
   | cons y ys ih2 =>
    simp only [depL] at hy
    rcases List.mem_cons.mp hr' with e | e
    ·subst e;omega
    ·exact ih2 (by omega) e
  have at_:∀ a:Atm,∃ s,snap G (k+2 * d+2) (aD a)=some s:=fun a=>by
   cases a <;> first | exact Rw.snap_int | exact Rw.snap_str
  cases r with
  | is x a =>
   refine Rw.snap_tup (n:=k+2 * d+2) fun e he=>?_
   simp only [List.mem_cons,List.not_mem_nil,or_false] at he
   rcases he with rfl | rfl | rfl
   ·exact Rw.snap_str
   ·exact Rw.snap_str
   ·exact at_ a
  | op x o a b =>
   refine Rw.snap_tup (n:=k+2 * d+2) fun e he=>?_
   simp only [List.mem_cons,List.not_mem_nil,or_false] at he
   rcases he with rfl | rfl | rfl | rfl | rfl
   ·exact Rw.snap_str
   ·exact Rw.snap_str
   ·exact Rw.snap_str
   ·exact at_ a
   ·exact at_ b
  | cho a ys ns =>
   simp only [depR] at h;refine Rw.snap_tup (n:=k+2 * d+2) fun e he=>?_
   simp only [List.mem_cons,List.not_mem_nil,or_false] at he
   rcases he with rfl | rfl | rfl | rfl
   ·exact Rw.snap_str
   ·exact at_ a
   ·exact hin ys (by omega)
   ·exact hin ns (by omega)
  | tim k2 ys =>
   simp only [depR] at h;refine Rw.snap_tup (n:=k+2 * d+2) fun e he=>?_
   simp only [List.mem_cons,List.not_mem_nil,or_false] at he
   rcases he with rfl | rfl | rfl
   ·exact Rw.snap_str
   ·exact Rw.snap_int
   ·exact hin ys (by omega)
theorem ul9:∀ {ys:List Rowp} {d:Nat},depL ys<=d->∀ r ∈ ys,depR r<=d
 | [],_,_,r,h=>by cases h
 | y::ys,d,hd,r,h=>by
  simp only [depL] at hd
  rcases List.mem_cons.mp h with e | e
  ·subst e;omega
  ·exact ul9 (by omega) r e
theorem uj5 {G:Gp} {ys:List Rowp} {k:Nat} (h:depL ys<=5):∀ e ∈ u20 ys,∃ s,snap G (k+2 * 5+1) e=some s:=by
 intro e he;rw [u42] at he;obtain ⟨r,hr,rfl⟩:=List.mem_map.mp he;exact v28 5 k r (ul9 h r hr)
theorem um0 {α β:Type} {f:α->Option β}:∀ {xs:List α} {ys:List β},xs.mapM f=some ys->ys.length=xs.length
 | [],ys,h=>by cases h;rfl
 | x::xs,ys,h=>by
  rw [List.mapM_cons] at h;cases h1:f x with
  | none=>rw [h1] at h;cases h
  | some y =>
   rw [h1] at h;cases h2:xs.mapM f with
   | none=>rw [h2] at h;cases h
   | some zs=>rw [h2] at h;cases h;rw [List.length_cons,List.length_cons,um0 h2]
theorem uj9 {G:Gp} {op e:Addr} {fs:List Fr} {Q:Bool->Prop} (ko:G op=some (.lst ((fs.map frD).reverse))) (ke:G e=some (.lst [])) (hf:∀ f ∈ fs,G f.p=some (.lst (u20 f.ahead)) /\ depL f.ahead<=5 /\ depL f.hd.ys<=5) (h:Q (decide (fs.length=0))) :
  ∃ n sd se r,n<=40 /\ snap G n (.ref op)=some sd /\ snap G n (.ref e)=some se /\ eqN n sd se=some r /\ Q r:=by
 have at_:∀ (a:Atm) (k:Nat),∃ s,snap G k (aD a)=some s:=fun a k=>by
  cases a <;> first | exact Rw.snap_int | exact Rw.snap_str
 obtain ⟨ys,ey⟩:=ub4 (f:=snap G 15) (xs:=(fs.map frD).reverse) fun d hd=>by
  rw [List.mem_reverse] at hd;obtain ⟨f,hf',rfl⟩:=List.mem_map.mp hd;obtain ⟨k1,k2,k3⟩:=hf f hf';refine Rw.snap_tup (n:=14) fun e he=>?_
  simp only [List.mem_cons,List.not_mem_nil,or_false] at he
  rcases he with rfl | rfl | rfl
  ·obtain ⟨zs,ez⟩:=ub4 (f:=snap G 13) (xs:=u20 f.ahead) (uj5 (k:=2) k2)
   exact ⟨.lst zs,by show ((u08 (G f.p)).bind fun ds=>(ds.mapM (snap G 13)).map Sn.lst)=_;rw [k1];show ((u20 f.ahead).mapM (snap G 13)).map Sn.lst=_;rw [ez];rfl⟩
  ·cases hh:f.hd with
   | c1 a =>
    refine Rw.snap_tup (n:=13) fun e he=>?_
    simp only [List.mem_cons,List.not_mem_nil,or_false] at he
    rcases he with rfl | rfl
    ·exact Rw.snap_str
    ·exact at_ a _
   | c2 a ys =>
    rw [hh] at k3;refine Rw.snap_tup (n:=13) fun e he=>?_
    simp only [List.mem_cons,List.not_mem_nil,or_false] at he
    rcases he with rfl | rfl | rfl
    ·exact Rw.snap_str
    ·exact at_ a _
    ·exact Rw.snap_tup (n:=12) (uj5 (k:=1) k3)
   | tm k =>
    refine Rw.snap_tup (n:=13) fun e he=>?_
    simp only [List.mem_cons,List.not_mem_nil,or_false] at he
    rcases he with rfl | rfl
    ·exact Rw.snap_str
    ·exact Rw.snap_int
  ·exact Rw.snap_int
 have hl:=um0 ey;rw [List.length_reverse,List.length_map] at hl;refine ⟨16,.lst ys,.lst [],decide (fs.length=0),by decide,?_,?_,?_,h⟩
 ·show ((u08 (G op)).bind fun ds=>(ds.mapM (snap G 15)).map Sn.lst)=_
  rw [ko]
  show ((fs.map frD).reverse.mapM (snap G 15)).map Sn.lst=_
  rw [ey];rfl
 ·show ((u08 (G e)).bind fun ds=>(ds.mapM (snap G 15)).map Sn.lst)=_
  rw [ke];rfl
 ·show (if ys.length=([]:List Sn).length then ((ys.zip []).mapM fun p=>eqN 15 p.1 p.2).map fun bs=>bs.all id else some false)=_
  by_cases h0:fs.length=0
  ·have:ys=[]:=List.eq_nil_of_length_eq_zero (by omega)
   subst this;rw [decide_eq_true h0];rfl
  ·rw [if_neg (by show ¬ ys.length=0;omega),decide_eq_false h0]
theorem SK.dep {W:Nat} {bs:List Str}:∀ {fs:List Fr} {o:Nat} {rows:List Rowp} {w z:Nat},SK W bs fs o rows w z->depL rows<=5 /\ ∀ f ∈ fs,depL f.ahead<=5 /\ depL f.hd.ys<=5
 | [],_,_,_,_,⟨_,_,_,h,_⟩=>⟨h,fun f hf=>by cases hf⟩
 | f::fs,_,_,_,_,⟨_,h2,h3,_,_,w',z',_,_,h6⟩=>by
  have q:=SK.dep h6;refine ⟨by omega,fun g hg=>?_⟩
  rcases List.mem_cons.mp hg with e | e
  ·subst e;exact ⟨q.1,by omega⟩
  ·exact q.2 g e
theorem SK.len {W:Nat} {bs:List Str}:∀ {fs:List Fr} {o:Nat} {rows:List Rowp} {w z:Nat},SK W bs fs o rows w z->rows.length<=z /\ ∀ f ∈ fs,f.ahead.length<=z
 | [],_,rows,_,_,⟨_,_,h,_,_⟩=>⟨by have:=v77 rows;omega,fun f hf=>by cases hf⟩
 | f::fs,_,rows,_,_,⟨_,_,_,_,_,w',z',_,e2,h6⟩=>by
  have q:=SK.len h6;have:=v77 rows;refine ⟨by omega,fun g hg=>?_⟩
  rcases List.mem_cons.mp hg with e | e
  ·subst e;have:=q.1;omega
  ·have:=q.2 g e;omega
def msF:List Fr->Nat
 | []=>0
 | f::fs=>(match f.hd with | .c1 _=>2 | _=>1)+msF fs
theorem vh3 {f:Fr} {fs:List Fr} {rows:List Rowp}:msF (shF f fs rows).1+1=msF (f::fs):=by
 obtain ⟨p,ahead,hd,o⟩:=f;cases hd <;> simp only [msF,shF] <;> omega
theorem v32 {f:Fr} {fs:List Fr} {rows:List Rowp}:∀ g ∈ (shF f fs rows).1,(g.p=f.p /\ g.ahead=f.ahead) \/ g ∈ fs:=by
 obtain ⟨p,ahead,hd,o⟩:=f;cases hd with
 | c1 a =>
  intro g hg
  rcases List.mem_cons.mp hg with e | e
  ·subst e;exact .inl ⟨rfl,rfl⟩
  ·exact .inr e
 | c2 a ys=>exact fun g hg=>.inr hg
 | tm k=>exact fun g hg=>.inr hg
theorem SK.fl {W:Nat} {bs:List Str}:∀ {fs:List Fr} {o:Nat} {rows:List Rowp} {w z:Nat},SK W bs fs o rows w z->fs.length<=5
 | [],_,_,_,_,_=>by simp
 | f::fs,_,_,_,_,⟨_,h,_⟩=>by simp only [List.length_cons];omega
theorem comb {a b c:Prop} [Decidable a] [Decidable b] [Decidable c] {A B:Prop} (h1:a->b->c->A) (h2:¬ (a /\ b /\ c)->B):if decide a=true then (if decide b=true then (if decide c=true then A else B) else B) else B:=by
 by_cases ha:a
 ·by_cases hb:b
  ·by_cases hc:c
   ·simpa [ha,hb,hc] using h1 ha hb hc
   ·simpa [ha,hb,hc] using h2 fun h=>hc h.2.2
  ·simpa [ha,hb] using h2 fun h=>hb h.2.1
 ·simpa [ha] using h2 fun h=>ha h.1
theorem wi7 {G G6:Gp} {op q:Addr} (hop:G op=none) (k:∀ c o,G c=some o->c ≠ op->G6 c=some o) (nq:q ≠ op) (h:G6 q=none):G q=none:=by
 cases e:G q with
 | none=>rfl
 | some o=>rw [k q o e nq] at h;cases h
theorem w80:∀ {rs:List Rowp} {r:Rowp},r ∈ rs->wtR r<=wtL rs
 | s::rs,r,h=>by
  show wtR r<=wtR s+wtL rs
  rcases List.mem_cons.mp h with e | e
  ·subst e;omega
  ·have:=w80 e;omega
theorem v24:∀ {rs:List Rowp} {r:Rowp},r ∈ rs->szR r<=szL rs
 | s::rs,r,h=>by
  show szR r<=szR s+szL rs
  rcases List.mem_cons.mp h with e | e
  ·subst e;omega
  ·have:=v24 e;omega
theorem u68 {G G':Gp} {a:Addr} {ds:List D} (g:Grow G G') (h:u08 (G a)=some ds):u08 (G' a)=some ds:=by
 cases e:G a with
 | none=>rw [e] at h;cases h
 | some o=>rw [g.kp _ _ e,<- e];exact h
theorem pw (W:Nat):(1:Int) * 2 ^ W=((2 ^ W:Nat):Int):=by rw [Int.one_mul,Int.natCast_pow];rfl
theorem v96:∀ {ws:List Str} {k c:Nat},(∀ w ∈ ws,w.length=1)->ws[k]?=some ⟨#[c]⟩->((ws.map fun w=>w.cps.toList).flatten)[k]?=some c
 | [],k,c,_,h=>by simp at h
 | w::ws,0,c,_,h=>by
  have e:w=⟨#[c]⟩:=by simpa using h
  subst e;rfl
 | w::ws,k+1,c,hw,h=>by
  have h1:w.cps.toList.length=1:=by have:=hw w List.mem_cons_self;simpa [Str.length] using this
  rw [List.map_cons,List.flatten_cons,List.getElem?_append_right (by rw [h1];omega),h1];exact v96 (fun v hv=>hw v (List.mem_cons_of_mem _ hv)) (by simpa using h)
theorem w18:∀ ws:List Str,(jn Str.empty ws).cps.toList=(ws.map fun w=>w.cps.toList).flatten:=by
 have key:∀ (ws:List Str) (acc:Array Nat),(ws.foldl (fun acc p=>acc++Str.empty.cps++p.cps) acc).toList=acc.toList++(ws.map fun w=>w.cps.toList).flatten:=by
  intro ws
  induction ws with
  | nil=>intro acc;simp
  | cons w ws ih =>
   intro acc;rw [List.foldl_cons,ih,List.map_cons,List.flatten_cons];have:Str.empty.cps=#[]:=rfl;rw [this];simp
 intro ws;cases ws with
 | nil=>rfl
 | cons w ws=>exact key ws w.cps
theorem wq5 {ws:List Str} {k c:Nat} (hw:∀ w ∈ ws,w.length=1) (h:ws[k]?=some ⟨#[c]⟩):(jn Str.empty ws).cps[k]?=some c:=by
 rw [<- Array.getElem?_toList,w18];exact v96 hw h
theorem vc2 {a b:Str} {k c:Nat} (h:a.cps[k]?=some c):(a++b).cps[k]?=some c:=by
 show (a.cps++b.cps)[k]?=some c
 have hk:k < a.cps.size:=by
  rcases Nat.lt_or_ge k a.cps.size with z | z
  ·exact z
  ·rw [Array.getElem?_eq_none z] at h;cases h
 rw [Array.getElem?_append_left hk];exact h
theorem vq2 {x:Int} (h1:0<=x) (h2:x < 26):atI (Str.ofString "abcdefghijklmnopqrstuvwxyz").cps.toList x=some (97+x.toNat):=by
 obtain ⟨n,rfl⟩:=Int.eq_ofNat_of_zero_le h1;have hn:n < 26:=by omega
 have key:∀ n:Fin 26,(Str.ofString "abcdefghijklmnopqrstuvwxyz").cps.toList[n.val]?=some (97+n.val):=by decide
 have e:=ut2 (xs:=(Str.ofString "abcdefghijklmnopqrstuvwxyz").cps.toList) (i:=(n:Int)) h1 (by exact h2);rw [e,<- List.getElem?_eq_getElem];exact key ⟨n,hn⟩
theorem vh0 {bs:List Str} {sp:Nat} {fi:Int} (hl:bs.length<=6) (h:∀ (t:Nat) (b:Str),bs[t]?=some b->b.cps[sp]?=some (97+((fi+5 * (t:Int)) % 26).toNat)):bs.Nodup:=by
 rw [List.Nodup,List.pairwise_iff_getElem];intro i j hi hj hij e;have h1:=h i bs[i] (List.getElem?_eq_getElem hi);have h2:=h j bs[j] (List.getElem?_eq_getElem hj);rw [e,h2] at h1;have:=Option.some.inj h1;omega
theorem v57 {bs:List Str} {w:Str} (k:Nat) (h:bs.Nodup) (hw:w ∉ bs):(bs.set k w).Nodup:=by
 rw [List.Nodup,List.pairwise_iff_getElem] at h ⊢;intro i j hi hj hij e;rw [List.length_set] at hi hj;have hm:∀ {t:Nat} (ht:t < bs.length),bs[t] ≠ w:=fun {t} ht z=>hw (z ▸ List.getElem_mem ht)
 rw [List.getElem_set,List.getElem_set] at e;split at e
 ·split at e
  ·omega
  ·exact hm hj e.symm
 ·split at e
  ·exact hm hi e
  ·exact h i j hi hj hij e
end L3
namespace L2
open PySem PySem.Spec PyProof.Rows
abbrev VM:List Value:=[.type "ValueError",.type "Exception",.type "BaseException",.type "object"]
abbrev wn7 (nm q:Str) (C N:Addr) (bs bm:List Value) (sn:List Str) (sub:List Value) (ab:Bool) (col:Option Bool) (dd:Option Addr) (k0 k1 k2 k3 k5:Option Value):Obj:=excClassObj nm q C N bs bm true sn sub ab col dd k0 k1 k2 k3 k5 "ValueError.__new__"
def xcIn (K:W.Frag) (C:Addr) (bm:List Value):Bool :=
  match K.lookup C with
  | some ⟨.type "type",_,.cls cd,sl⟩ =>
    (match cd.mro,sl.toList with
     | .ref B::r,[_,_,_,_,some (.builtin i),_]=>B == C && r == bm && i == "ValueError.__new__" && cd.hasDict && !cd.hasDel && W.tailIn K VM bm
     | _,_=>false)
  | _=>false
def XcAt (C:Addr) (bm:List Value) (h:Heap):Prop:=∃ nm q N bs sn sub ab col dd k0 k1 k2 k3 k5,h.get? C=some (wn7 nm q C N bs bm sn sub ab col dd k0 k1 k2 k3 k5)
theorem uq3 {K:W.Frag} {C:Addr} {bm:List Value} {h:Heap} (X:K.In h) (e:xcIn K C bm=true):XcAt C bm h /\ OwnTail h VM bm:=by
 unfold xcIn at e;split at e
 ·rename_i dd cd sl ho
  split at e
  ·rename_i B r k0 k1 k2 k3 i k5 hm hs
   simp only [Bool.and_eq_true,beq_iff_eq,Bool.not_eq_true'] at e;obtain ⟨⟨⟨⟨⟨rfl,rfl⟩,rfl⟩,hd⟩,hl⟩,ht⟩:=e;obtain ⟨nm,bs,mro,ns,qn,hdd,sn,sub,ab,col,del⟩:=cd;dsimp only at hm hl hd;subst hm hl hd;have hsl:sl=#[k0,k1,k2,k3,some (.builtin "ValueError.__new__"),k5]:=by
    obtain ⟨l⟩:=sl;simp only at hs;rw [hs]
   subst hsl;exact ⟨⟨nm,qn,ns,bs,sn,sub,ab,col,dd,k0,k1,k2,k3,k5,X _ _ ho⟩,W.tail_of_in X ht⟩
  ·cases e
 ·cases e
section
variable {prog:Program} {w:World} {A:Around} {E:Value->Shared->Prop} {K:W.Frag} {C fI:Addr} {bm:List Value}
theorem vr7 {h:Heap} {g:Array GenState} {d:Drawn} {t:Nat} {os:OsState} {us:List Value} {Q:Fin->Shared->Prop} (X:K.In h) (hc:xcIn K C bm=true) (hi:W.findIn K (.ref C) "__init__" = some (some (.ref fI))) (hf:W.isFn K (.ref fI)=true) (hl:us.length<=sizeLine)
  (hq:∀ h' e,Heap.MadeExcOf h h' e (.ref C) us->h.objs.size<=e->wpAny (model prog w) A (call (.ref fI) (.ref e::us)) (fun r s'=>r=.none /\ Q (.done (.ret (.ref e))) s') E ⟨h',g,d,t,os⟩) :
  wpAny (model prog w) A (Builtin.«type.__call__» ⟨.ref C::us,[]⟩) Q E ⟨h,g,d,t,os⟩:=by
 obtain ⟨⟨nm,q,N,bs,sn,sub,ab,col,dd,k0,k1,k2,k3,k5,hC⟩,T⟩:=uq3 X hc;have VF:=PySem.F.excBase_ValueError;have hB:VM.contains (.type "ValueError")=true:=by decide
 repeat (first | with_reducible refine wpAny_madeBy_exc hC ?_ | with_reducible refine wpAny_loadPart_at hC ?_ | wp_step)
 refine codeAny_call_builtin_code (Code.quiet_builtin _ VF.quiet) (wpAny_check_new_subU VF hB T hC (codeAny_exc_new_subU VF hB VF T hC ?_ hl))
 show wpAny _ _ _ _ _ _
 have kk:∀ b o,h.get? b=some o->((h.push { cls:=.type "tuple",data:=.seq us.toArray }).push { cls:=.ref C,data:=.fields #[.ref h.objs.size,.none,.none,.none,.bool false,.none] }).get? b=some o:=fun b o e=>Heap.get?_push_of_some _ (Heap.get?_push_of_some _ e)
 have X1:=X.keeps kk;have hC1:=kk _ _ hC;have ge:((h.push { cls:=.type "tuple",data:=.seq us.toArray }).push { cls:=.ref C,data:=.fields #[.ref h.objs.size,.none,.none,.none,.bool false,.none] }).get? (h.objs.size+1)=some
   { cls:=.ref C,data:=.fields #[.ref h.objs.size,.none,.none,.none,.bool false,.none] }:=by heap_get
 have hcC:(Value.ref C::bm).contains (.ref C)=true:=by simp
 unfold isInstance
 repeat (first | with_reducible refine wpAny_loadPart_at ge ?_ | (with_reducible refine wpAny_isSubtype_exc hC1 ?_;rw [hcC]) | wp_step)
 show wpAny _ _ (typeLookup (.ref C) _) _ _ _
 refine (W.looks_findIn X1 hi).here (wpAny_holding (wpAny_bind ((W.bind_fn X1 _ (beq_iff_eq.mp hf)).here ?_)));refine wpAny_bind (wpAny_mono (hq _ (h.objs.size+1) ⟨kk,Heap.get?_none_of_le (Nat.le_succ _),h.objs.size,ge,Heap.get?_none_of_le (Nat.le_refl _),?_⟩ (Nat.le_succ _)) (fun r s' hr=>?_) fun _ _ x=>x)
 ·exact Heap.get?_push_of_some _ (Heap.get?_push_at rfl rfl)
 ·obtain ⟨rfl,hQ⟩:=hr
  wp_walk
  exact hQ
theorem w41 {s:Shared} {us:List Value} {Q:Value->Shared->Prop} (X:K.In s.heap) (hc:xcIn K C bm=true) (hi:W.findIn K (.ref C) "__init__" = some (some (.ref fI))) (hf:W.isFn K (.ref fI)=true) (hl:us.length<=sizeLine)
  (hq:∀ h' e,Heap.MadeExcOf s.heap h' e (.ref C) us->s.heap.objs.size<=e->wpAny (model prog w) (A.under (.builtin "type.__call__" ⟨.ref C::us,[]⟩)) (call (.ref fI) (.ref e::us)) (fun r s'=>r=.none /\ Q (.ref e) s') E { s with heap:=h' }) :
  wpAny (model prog w) A (call (.ref C) us) Q E s:=by
 obtain ⟨⟨nm,q,N,bs,sn,sub,ab,col,dd,k0,k1,k2,k3,k5,hC⟩,T⟩:=uq3 X hc;obtain ⟨h,g,d,t,os⟩:=s;have t1:=tc_lookup;have t2:=tc_bind (.ref C);have t3:(⟨h,g,d,t,os⟩:Shared).TypeIs (.ref C) "type" := ⟨_,hC,rfl⟩;refine wpAny_call (codeAny_of_tree ?_)
 show wpAny _ _ (callAny (.ref C) _) _ _ _
 repeat (any_goals (first | assumption | with_reducible refine wpAny_loadPart_at hC ?_ | wp_step))
 exact And.intro rfl (codeAny_call_builtin_at (Code.quiet_builtin _ (by decide)) entry_typeCall (wpAny_check_type_call_sub hC (vr7 X hc hi hf hl fun h' e hm le=>hq h' e hm le)))
end
structure FlyO (lim:Nat) (H:Hp) (a C:Addr) (dx:Option Addr) (h:Heap) (oe:Obj) (vs:Array Value):Prop where
 la:lim<=a
 ha:H a=none
 ge:h.get? a=some oe
 cl:oe.cls=.ref C
 di:oe.dict=dx
 da:oe.data=.fields vs
structure FlyT (lim:Nat) (H:Hp) (a T:Addr) (h:Heap) (v:Value) (oT:Obj) (ts:Array Value):Prop where
 lt:lim<=T
 ne:T ≠ a
 hT:H T=none
 gT:h.get? T=some oT
 dT:oT.data=.fields ts
 t3:ts[3]?=some v
def Fly (fl:Value->Prop) (lim:Nat) (H:Hp) (a C:Addr) (dx:Option Addr) (h:Heap):Prop :=
 ∃ oe vs T oT ts v,FlyO lim H a C dx h oe vs /\ vs[1]?=some (.ref T) /\ FlyT lim H a T h v oT ts /\ fl v
def FlyN (lim:Nat) (H:Hp) (a C:Addr) (dx:Option Addr) (h:Heap):Prop:=∃ oe vs,FlyO lim H a C dx h oe vs /\ vs[1]?=some .none
theorem Fly.imp {f g:Value->Prop} {lim:Nat} {H:Hp} {a C:Addr} {dx:Option Addr} {h:Heap} (x:Fly f lim H a C dx h) (k:∀ v,f v->g v):Fly g lim H a C dx h:=by
 obtain ⟨oe,vs,T,oT,ts,v,o,e,t,z⟩:=x;exact ⟨oe,vs,T,oT,ts,v,o,e,t,k v z⟩
theorem FlyO.low {lim lim':Nat} {H:Hp} {a C:Addr} {dx:Option Addr} {h:Heap} {oe:Obj} {vs:Array Value} (x:FlyO lim H a C dx h oe vs) (l:lim'<=lim):FlyO lim' H a C dx h oe vs:=⟨Nat.le_trans l x.la,x.ha,x.ge,x.cl,x.di,x.da⟩
theorem Fly.low {f:Value->Prop} {lim lim':Nat} {H:Hp} {a C:Addr} {dx:Option Addr} {h:Heap} (x:Fly f lim H a C dx h) (l:lim'<=lim):Fly f lim' H a C dx h:=by
 obtain ⟨oe,vs,T,oT,ts,v,o,e,t,z⟩:=x;exact ⟨oe,vs,T,oT,ts,v,o.low l,e,⟨Nat.le_trans l t.lt,t.ne,t.hT,t.gT,t.dT,t.t3⟩,z⟩
section
variable {M:Model} {A:Around} {E:Value->Shared->Prop} {s:Shared}
theorem uj7 {base:Heap} {env:Env} {outer:List Env} {L a:Addr} {oe:Obj} {vs:Array Value} {head:Value} {had:Bool} {Q:Unit->Shared->Prop}
  (hfr:A.frames=some (env::outer)) (hl:s.heap.FunFrames base (env::outer)) (hf:env.frame=some L) (ha:s.heap.get? a=some oe) (hd:oe.data=.fields vs) (hz:1 < vs.size)
  (k:∀ (h':Heap) (oT:Obj) (ts:Array Value),(∀ b o,b ≠ a->b ∉ frs (env::outer)->s.heap.get? b=some o->h'.get? b=some o)->(∀ b o,b ≠ a->s.heap.get? b=some o->∃ sl,h'.get? b=some { o with slots:=sl }) ->
   h'.get? a=some (oe.mapFields (·.setIfInBounds 1 (.ref s.heap.objs.size)))->h'.get? s.heap.objs.size=some oT->oT.data=.fields ts->ts[3]?=some (rawInt L)->Q () { s with heap:=h' }) :
  wpAny M A (do let x <- frameOf env;let pl <- entryPlaceOf L had;let b <- EntryCells.newEntry head x .none (rawInt L) .none pl;setField (.ref a) 1 b) Q E s:=by
 have na:a ∉ frs (env::outer):=fun hm=>by
  obtain ⟨_,o,ho,nf⟩:=hl.mem hm;rw [ha] at ho;cases ho;exact nf vs hd
 refine wpAny_bind (wpAny_frameOf_fun hfr hl hf fun h1 hs=>wpAny_bind (wpAny_entryPlaceOf fun pl hp=>?_));have ha1:h1.get? a=some oe:=by rw [hs.2.1 a na];exact ha
 have z1:h1.objs.size=s.heap.objs.size:=hs.1;unfold EntryCells.newEntry newFields;refine wpAny_bind (wpAny_newObj_type (wpAny_setField (Heap.get?_push_of_some _ ha1) hd hz ?_) (hp.sizeOk5 _ _ _ _ _));rw [<- z1] at k;have nT:h1.objs.size ≠ a:=Nat.ne_of_gt (Heap.lt_size ha1);have up:∀ b o,b ≠ a->h1.get? b=some o->((h1.push { cls:=.type "traceback",dict:=none,data:=.fields ([head,.ref L,.none,rawInt L,.none]++(if pl.isEmpty then List.replicate 6 Value.none else pl)).toArray }).update a (Obj.mapFields (·.setIfInBounds 1 (Value.ref h1.objs.size)))).get? b=some o :=
  fun b o n e=>(Heap.get?_update_other _ _ (Ne.symm n)).trans (Heap.get?_push_of_some _ e)
 refine k _ { cls:=.type "traceback",dict:=none,data:=.fields ([head,.ref L,.none,rawInt L,.none]++(if pl.isEmpty then List.replicate 6 Value.none else pl)).toArray } _ (fun b o n nb e=>up b o n ?_) (fun b o n e=>?_) ?_ ?_ rfl ?_
 ·rw [hs.2.1 b nb];exact e
 ·obtain ⟨sl,q⟩:=hs.2.2 b o e
  exact ⟨sl,up b _ n q⟩
 ·exact Heap.get?_update_self _ (Heap.get?_push_of_some _ ha1) (Obj.isFreed_of_fields (Obj.data_mapFields hd _))
 ·rw [Heap.get?_update_other _ _ (Ne.symm nT)]
  exact Heap.get?_push_size h1 rfl
 ·simp
end
section
variable {X:Cx} {pins:List (Addr × Obj)} {σ:St} {H:Hp} {s:Shared} {a C T:Addr} {dx:Option Addr} {lim:Nat}
theorem Inv.rec_ne (I:Inv X pins σ H s) {o:Obj} {vs:Array Value} (h:s.heap.get? a=some o) (hd:o.data=.fields vs):a ≠ X.env.locals /\ (∀ x c,X.env.cells.lookup x=some c->c ≠ a) /\ a ∉ X.fs:=by
 refine ⟨fun e=>?_,fun x c e z=>?_,fun hb=>?_⟩
 ·obtain ⟨m,⟨o',es,ep,ho,hd',_⟩,_⟩:=I.loc
  rw [<- e,h] at ho;cases ho;rw [hd] at hd';cases hd'
 ·obtain ⟨v,o',ho,hd'⟩:=I.cell x c e
  rw [z,h] at ho;cases ho;rw [hd] at hd';cases hd'
 ·obtain ⟨_,o',ho,hd'⟩:=I.funs.mem hb
  rw [h] at ho;cases ho;exact hd' vs hd
theorem Inv.noted {h':Heap} {ch:List Addr} (I:Inv X pins σ H s) (hs:X.stack=X.env::X.outer) (hf:X.env.frame=some X.env.locals) (hc:∀ b ∈ ch,X.s₀.heap.objs.size<=b /\ H b=none /\ (∀ p ∈ X.pn++pins,p.1 ≠ b) /\ (∀ o,s.heap.get? b=some o->∃ vs,o.data=.fields vs) /\ ∃ o,s.heap.get? b=some o)
  (k:∀ b o,b ∉ ch->b ∉ frs (X.env::X.outer)->s.heap.get? b=some o->h'.get? b=some o) (sl:∀ b o,b ∉ ch->s.heap.get? b=some o->∃ sl,h'.get? b=some { o with slots:=sl }):Inv X pins σ H { s with heap:=h' }:=by
 have fr:∀ b,b ∈ frs (X.env::X.outer) ↔ b=X.env.locals \/ b ∈ X.fs:=fun b=>by
  unfold Cx.fs frs;rw [List.filterMap_cons,hf];exact List.mem_cons
 have hcc:∀ b ∈ ch,b ≠ X.env.locals /\ (∀ x c,X.env.cells.lookup x=some c->c ≠ b) /\ b ∉ X.fs:=fun b hb=>by
  obtain ⟨_,_,_,f,o,e⟩:=hc b hb;obtain ⟨vs,d⟩:=f o e;exact I.rec_ne e d
 have lc:X.env.locals ∉ ch:=fun z=>(hcc _ z).1 rfl
 refine I.step (g':=s.gens) (t':=s.toks) (d':=s.drawn) (ch:=ch) (fun b hb=>⟨.inr (hc b hb).1,(hcc b hb).1,(hcc b hb).2.1,(hc b hb).2.2.1⟩) (fun b o n1 n2 n3 e n=>k b o n3 (fun z=>((fr b).mp z).elim n1 n2) e)
  (fun b o n1 n2 n3 e n=>sl b o n3 e) (fun _ _ _ _ n=>n) (fun b o n e=>let ⟨_,q⟩:=sl b o n e;⟨_,q⟩) (fun _ _ e=>e) (fun _ _ _ e=>e) (fun b ps e=>⟨#[],by rw [e];simp⟩) (fun m hm=>?_) (fun b u e=>?_) I.bare
 ·obtain ⟨o,es,ep,ho,r⟩:=hm
  obtain ⟨sl',q⟩:=sl _ o lc ho;exact ⟨_,es,ep,q,r⟩
 ·have nb:∀ c u,H c=some u->c ∉ ch /\ c ∉ frs (X.env::X.outer):=fun c u q=>by
   refine ⟨fun z=>?_,fun z=>?_⟩
   ·rw [(hc c z).2.1] at q;cases q
   ·rw [I.stkFree c (by rw [hs];exact z)] at q;cases q
  refine (I.hok b u e).stay (fun c v hc' q=>?_) (fun _ q=>q) fun _ _ q=>q
  rcases hc' with z | z
  ·subst z;exact k c v (nb c u e).1 (nb c u e).2 q
  ·exact k c v (nb c _ z).1 (nb c _ z).2 q
theorem FlyO.moved {oe oe':Obj} {vs vs':Array Value} {h h':Heap} (x:FlyO lim H a C dx h oe vs) (e:h'.get? a=some oe') (c:oe'.cls=oe.cls) (d:oe'.dict=oe.dict) (v:oe'.data=.fields vs'):FlyO lim H a C dx h' oe' vs' :=
 ⟨x.la,x.ha,e,c.trans x.cl,d.trans x.di,v⟩
theorem u65 (f:Array Value->Array Value) (o:Obj):(o.mapFields f).dict=o.dict:=by
 unfold Obj.mapFields;split <;> rfl
theorem ul7 {M:Model} {E:Value->Shared->Prop} {Q:Unit->Shared->Prop} (I:Inv X pins σ H s) (hs:X.stack=X.env::X.outer) (hf:X.env.frame=some X.env.locals) (hl:X.s₀.heap.objs.size<=lim) (hp:∀ p ∈ X.pn++pins,p.1 < lim)
  (F:FlyN lim H a C dx s.heap \/ Fly (fun v=>v=.none \/ v=rawInt X.env.locals) lim H a C dx s.heap)
  (k:∀ h',Inv X pins σ H { s with heap:=h' }->Fly (fun v=>v=rawInt X.env.locals) lim H a C dx h'->Q () { s with heap:=h' }):wpAny M X.A (noteFrame (.ref a) X.env) Q E s:=by
 have hfr:X.A.frames=some (X.env::X.outer):=by rw [<- hs];exact I.ok.frames
 have hFF:s.heap.FunFrames X.base (X.env::X.outer):=by rw [<- hs];exact I.stack
 have pn:∀ b,lim<=b->∀ p ∈ X.pn++pins,p.1 ≠ b:=fun b l p h e=>absurd (hp p h) (by rw [e];exact Nat.not_lt.mpr l)
 unfold noteFrame;simp only [hf]
 rcases F with ⟨oe,vs,o,v1⟩ | ⟨oe,vs,T,oT,ts,v,o,v1,t,fl⟩
 ·refine wpAny_bind (wpAny_field o.ge o.da v1 ?_)
  rw [if_neg (by decide)];refine uj7 hfr hFF hf o.ge o.da (Array.getElem?_eq_some_iff.mp v1).1 fun h' oT ts k1 k2 e1 e2 e3 e4=>k h' ?_ ?_
  ·refine I.noted hs hf (ch:=[a]) (fun b hb=>?_) (fun b o' n1 n2 e=>k1 b o' (by simpa using n1) n2 e) fun b o' n1 e=>k2 b o' (by simpa using n1) e
   have hb:b=a:=by simpa using hb
   subst hb;exact ⟨Nat.le_trans hl o.la,o.ha,pn b o.la,fun o' e=>by rw [o.ge] at e;cases e;exact ⟨_,o.da⟩,_,o.ge⟩
  ·refine ⟨_,_,s.heap.objs.size,oT,ts,_,o.moved e1 (Obj.cls_mapFields _ _) (u65 _ _) (Obj.data_mapFields o.da _),by simp [(Array.getElem?_eq_some_iff.mp v1).1],⟨Nat.le_trans o.la (Nat.le_of_lt (Heap.lt_size o.ge)),Nat.ne_of_gt (Heap.lt_size o.ge),I.hok.fresh (Nat.le_refl _),e2,e3,e4⟩,rfl⟩
 ·refine wpAny_bind (wpAny_field o.ge o.da v1 ?_)
  rw [if_pos (show (Value.ref T != Value.none)=true from by simp)];refine wpAny_bind (wpAny_field t.gT t.dT t.t3 ?_)
  rcases fl with rfl | rfl
  ·rw [if_neg (show ¬ ((Value.none == rawInt X.env.locals)=true) from by simp [rawInt])]
   refine wpAny_bind (wpAny_setField t.gT t.dT (Array.getElem?_eq_some_iff.mp t.t3).1 ?_);have oth:∀ b,b ≠ T->(s.heap.update T (Obj.mapFields (·.setIfInBounds 3 Value.none))).get? b=s.heap.get? b:=fun b hb=>Heap.get?_update_other _ _ (Ne.symm hb)
   have z:(s.heap.update T (Obj.mapFields (·.setIfInBounds 3 Value.none))).objs.size=s.heap.objs.size:=Heap.size_after_update ..;have nr:∀ b o',s.heap.get? b=some o'->(∀ vs,o'.data ≠ .fields vs)->b ≠ T:=fun b o' e nf q=>by rw [q,t.gT] at e;cases e;exact nf ts t.dT
   have hFF2:(s.heap.update T (Obj.mapFields (·.setIfInBounds 3 Value.none))).FunFrames X.base (X.env::X.outer):=hFF.of_keeps fun b o' e nf=>⟨o',(oth b (nr b o' e nf)).trans e,rfl⟩
   refine uj7 hfr hFF2 hf ((oth a (Ne.symm t.ne)).trans o.ge) o.da (Array.getElem?_eq_some_iff.mp v1).1 fun h' oT2 ts2 k1 k2 e1 e2 e3 e4=>k h' ?_ ?_
   ·refine I.noted hs hf (ch:=[a,T]) (fun b hb=>?_) (fun b o' n1 n2 e=>?_) fun b o' n1 e=>?_
    ·have hb:b=a \/ b=T:=by simpa using hb
     rcases hb with rfl | rfl
     ·exact ⟨Nat.le_trans hl o.la,o.ha,pn b o.la,fun o' e=>by rw [o.ge] at e;cases e;exact ⟨_,o.da⟩,_,o.ge⟩
     ·exact ⟨Nat.le_trans hl t.lt,t.hT,pn b t.lt,fun o' e=>by rw [t.gT] at e;cases e;exact ⟨_,t.dT⟩,_,t.gT⟩
    ·have n1:b ≠ a /\ b ≠ T:=by simpa using n1
     exact k1 b o' n1.1 n2 ((oth b n1.2).trans e)
    ·have n1:b ≠ a /\ b ≠ T:=by simpa using n1
     exact k2 b o' n1.1 ((oth b n1.2).trans e)
   ·have la:=Heap.lt_size o.ge
    rw [z] at e1 e2;exact ⟨_,_,s.heap.objs.size,oT2,ts2,_,o.moved e1 (Obj.cls_mapFields _ _) (u65 _ _) (Obj.data_mapFields o.da _),by simp [(Array.getElem?_eq_some_iff.mp v1).1],⟨Nat.le_trans o.la (Nat.le_of_lt la),Nat.ne_of_gt la,I.hok.fresh (Nat.le_refl _),e2,e3,e4⟩,rfl⟩
  ·rw [if_pos (show (rawInt X.env.locals == rawInt X.env.locals)=true from by simp)]
   exact wpAny_pure (k s.heap I ⟨oe,vs,T,oT,ts,_,o,v1,t,rfl⟩)
theorem u91 {M:Model} {A:Around} {E:Value->Shared->Prop} {Q:Unit->Shared->Prop} {fl:Value->Prop} {fr:Option Addr} (I:Inv X pins σ H s) (hs:X.stack=X.env::X.outer) (hf:X.env.frame=some X.env.locals) (hl:X.s₀.heap.objs.size<=lim) (hp:∀ p ∈ X.pn++pins,p.1 < lim)
  (F:Fly fl lim H a C dx s.heap) (k:∀ h',Inv X pins σ H { s with heap:=h' }->Fly (fun v=>v=fr.elim .none fun f=>rawInt f) lim H a C dx h'->Q () { s with heap:=h' }):wpAny M A (setFlight (.ref a) fr) Q E s:=by
 obtain ⟨oe,vs,T,oT,ts,v,o,v1,t,_⟩:=F;unfold setFlight;refine wpAny_bind (wpAny_field o.ge o.da v1 ?_);rw [if_pos (show (Value.ref T != Value.none)=true from by simp)];have l3:=(Array.getElem?_eq_some_iff.mp t.t3).1;refine wpAny_setField t.gT t.dT l3 (k _ ?_ ?_)
 ·refine I.noted hs hf (ch:=[T]) (fun b hb=>?_) (fun b o' n1 n2 e=>?_) fun b o' n1 e=>⟨o'.slots,?_⟩
  ·have hb:b=T:=by simpa using hb
   subst hb;exact ⟨Nat.le_trans hl t.lt,t.hT,fun p h e=>absurd (hp p h) (by rw [e];exact Nat.not_lt.mpr t.lt),fun o' e=>by rw [t.gT] at e;cases e;exact ⟨_,t.dT⟩,_,t.gT⟩
  ·exact (Heap.get?_update_other _ _ (Ne.symm (by simpa using n1))).trans e
  ·exact (Heap.get?_update_other _ _ (Ne.symm (by simpa using n1))).trans e
 ·exact ⟨oe,vs,T,_,_,_,o.moved ((Heap.get?_update_other _ _ t.ne).trans o.ge) rfl rfl o.da,v1,⟨t.lt,t.ne,t.hT,Heap.get?_update_self _ t.gT (Obj.isFreed_of_fields (Obj.data_mapFields t.dT _)),Obj.data_mapFields t.dT _,by simp [l3]⟩,rfl⟩
end
end L2
namespace L2
open PySem PySem.Spec PyProof.Rows PySem.W Builtin Builtin.ObjectAttr
theorem ud1 {K:Frag} {C:Addr} {bm:List Value} (e:xcIn K C bm=true):∃ cd,clsIn K C=some cd /\ cd.mro=.ref C::bm /\ cd.hasDict=true:=by
 unfold xcIn at e;unfold clsIn;split at e
 ·rename_i dd cd sl ho
  split at e
  ·rename_i B r k0 k1 k2 k3 i k5 hm hs
   simp only [Bool.and_eq_true,beq_iff_eq,Bool.not_eq_true'] at e;obtain ⟨⟨⟨⟨⟨rfl,rfl⟩,rfl⟩,hd⟩,hl⟩,ht⟩:=e;exact ⟨cd,by rw [ho],hm,hd⟩
  ·cases e
 ·cases e
section
variable {prog:Program} {w:World} {A:Around} {E:Value->Shared->Prop} {K:Frag} {C L x:Addr} {o:Obj} {vs:Array Value} {name:Str} {s:Shared}
theorem v42 (self:Value) (C L:Addr):refuseLoop self "__setattr__" (.ref C::.ref L::VM)=pure ():=by
 rw [refuseLoop_ref,refuseLoop_ref];exact PySem.F.store_ValueError.passes self
theorem v25 {M:Model} {h:Heap} (X:K.In h) (hc:xcIn K C (.ref L::VM)=true) (b:Value):Looks M h (isSubtype (.ref C) b) ((Value.ref C::.ref L::VM).contains b):=by
 obtain ⟨cd,c1,c2,c3⟩:=ud1 hc;exact looks_mroIn X (by unfold mroIn;rw [c1,Option.bind_some,c2];rfl)
theorem uf1 {M:Model} {h:Heap} (hx:h.get? x=some o) (hcl:o.cls=.ref C):Looks M h (typeOf (.ref x)) (.ref C):=hcl ▸ (Looks.ld hx).andThen .now
theorem wa2 {v:Value} {Q:Unit->Shared->Prop} (X:K.In s.heap) (hc:xcIn K C (.ref L::VM)=true) (hsa:findIn K (.ref C) "__setattr__" = some (some (.builtin "object.__setattr__"))) (hna:findIn K (.ref C) name=some none)
  (hx:s.heap.get? x=some o) (hcl:o.cls=.ref C) (hdi:o.dict=none) (hda:o.data=.fields vs)
  (k:∀ h' tk,(∀ b ob,b ≠ x->s.heap.get? b=some ob->h'.get? b=some ob)->h'.get? x=some { o with dict:=some s.heap.objs.size }->h'.Ns1 s.heap.objs.size (fun y=>if y=name then some v else none)->Q () { s with heap:=h',toks:=tk }) :
  wpAny (model prog w) A (setAttr (.ref x) name v) Q E s:=by
 have SF:=PySem.F.store_ValueError;obtain ⟨cd,c1,c2,c3⟩:=ud1 hc;obtain ⟨h,g,d,t,os⟩:=s;have T:=uf1 (M:=model prog w) hx hcl;have hT:Looks (model prog w) h (isInstance (.ref x) (.type "object")) true:=T.andThen (by
  have:=v25 (M:=model prog w) X hc (.type "object")
  rwa [show (Value.ref C::.ref L::VM).contains (.type "object")=true from by simp] at this)
 have hm:Looks (model prog w) h (mroOf (.ref C)) (.ref C::.ref L::VM):=c2 ▸ (looks_clsIn X c1).andThen .now;unfold setAttr callSpecial? specialOf;refine wpAny_bind (wpAny_mkText (wpAny_bind (wpAny_bind (wpAny_bind (T _ _ _ _ (fun _ _ e=>e) (looks_findIn X hsa _ _ _ _ (fun _ _ e=>e) ?_))))));refine wpAny_holding (wpAny_bind ?_);rw [SF.slot.bind];refine wpAny_pure (wpAny_bind (wpAny_call ?_));refine codeAny_call_builtin SF.slot.plain SF.entry ?_;refine @check_slot (model prog w) _ _ ⟨h,g,d,t+1,os⟩ "object.__setattr__" "object" "__setattr__" (.ref x) [.str name t,v] [] _ SF.kind SF.split hT (SF.args (.ref x) (.str name t) v) ?_
 show wpAny _ _ (Builtin.«object.__setattr__» ⟨[.ref x,.str name t,v],[]⟩) _ _ _
 rw [osa_eq,refuse_eq];refine wpAny_bind (wpAny_bind (T _ _ _ _ (fun _ _ e=>e) (wpAny_bind (hm _ _ _ _ (fun _ _ e=>e) ?_))));rw [v42];refine wpAny_pure (wpAny_bind (T _ _ _ _ (fun _ _ e=>e) (wpAny_bind (looks_findIn X hna _ _ _ _ (fun _ _ e=>e) (wpAny_bind (wpAny_pure ?_))))));refine wpAny_bind (wpAny_pure (wpAny_bind (wpAny_bind (wpAny_loadPart hx ?_))));rw [hcl];refine wpAny_bind (looks_clsIn X c1 _ _ _ _ (fun _ _ e=>e) ?_);rw [c3,if_neg (by decide)];have hx:h.get? x=some o:=hx;have nx:x ≠ h.objs.size:=Nat.ne_of_lt (Heap.lt_size hx);have hx1:(h.push { cls:=.type "dict",data:=.dict #[] }).get? x=some o:=Heap.get?_push_of_some _ hx;rw [hdi];dsimp only;rw [if_neg (by simp [typeHasDict])];rw [hda];refine wpAny_bind (wpAny_alloc' (wpAny_bind (wpAny_update' hx1 (wpAny_pure ?_))));have e0:((h.push { cls:=.type "dict",data:=.dict #[] }).update x fun o=>{ o with dict:=some h.objs.size }).get? h.objs.size=some { cls:=.type "dict",data:=.dict #[] }:=(Heap.get?_update_other _ _ nx).trans (Heap.get?_push_at rfl rfl);have n0:((h.push { cls:=.type "dict",data:=.dict #[] }).update x fun o=>{ o with dict:=some h.objs.size }).Ns h.objs.size (fun _=>none):=⟨_,#[],_,e0,rfl,fun e he=>absurd he (by simp),fun _=>rfl⟩
 show wpAny _ _ (storeInDict h.objs.size (.str name t) name v) _ _ _
 unfold storeInDict newKeyGuard;refine wpAny_bind (wpAny_pure (wpAny_bind (wpAny_nsSet1 (Heap.Ns1.of_empty n0) fun h' n1 sb=>?_)));obtain ⟨oD,esD,epD,g1,g2,g3⟩:=n1.count (Within.cons name v Within.nil);refine wpAny_bind (wpAny_lookBehind g1 (by rw [g2];exact pastItsLine_dict (Nat.le_trans g3 (by rw [List.length_cons,List.length_nil,sizeLine_eq];omega))) ?_)
 wp_walk
 refine k h' _ (fun b ob nb e=>?_) ?_ ?_
 ·exact (sb.2 b (Nat.ne_of_lt (Heap.lt_size e))).trans ((Heap.get?_update_other _ _ (Ne.symm nb)).trans (Heap.get?_push_of_some _ e))
 ·refine (sb.2 x nx).trans (Heap.get?_update_self _ hx1 ?_)
  exact Obj.isFreed_of_fields (vs:=vs) hda
 ·exact n1
end
section
variable {prog:Program} {w:World} {A:Around} {E:Value->Shared->Prop} {K:Frag} {C L x:Addr} {o:Obj} {vs:Array Value} {name:Str} {h:Heap} {g:Array GenState} {d:Drawn} {t:Nat} {os:OsState}
theorem ui6 {M:Model} {nv:Value} {Q:Unit->Shared->Prop} (X:K.In h) (hc:xcIn K C (.ref L::VM)=true) (hx:h.get? x=some o) (hcl:o.cls=.ref C) (hq:Q () ⟨h,g,d,t,os⟩) :
  wpAny M A (checkBuiltinCall "BaseException.__getattribute__" ⟨[.ref x,nv],[]⟩) Q E ⟨h,g,d,t,os⟩:=by
 have hT:Looks M h (isInstance (.ref x) (.type "BaseException")) true:=(uf1 hx hcl).andThen (by
  have:=v25 (M:=M) X hc (.type "BaseException")
  rwa [show (Value.ref C::.ref L::VM).contains (.type "BaseException")=true from by simp] at this)
 exact @check_slot M A E ⟨h,g,d,t,os⟩ "BaseException.__getattribute__" "BaseException" "__getattribute__" (.ref x) [nv] [] Q (by decide) (by decide) hT (PySem.F.args_bexc_ga (.ref x) nv) hq
theorem wl1 {v:Value} {od:Obj} {dx:Addr} {expr:Bool} {Q:Value->Shared->Prop} (X:K.In h) (hc:xcIn K C (.ref L::VM)=true) (hga:findIn K (.ref C) "__getattribute__" = some (some (.builtin "BaseException.__getattribute__"))) (hgt:findIn K (.ref C) "__getattr__" = some none)
  (hna:findIn K (.ref C) name=some none) (hx:h.get? x=some o) (hcl:o.cls=.ref C) (hda:o.data=.fields vs) (hdi:o.dict=some dx) (hd:h.get? dx=some od) (hl:lookIn name od=some (some v)) (hh:handedIn v=true) (hq:Q v ⟨h,g,d,t+1,os⟩) :
  wpAny (model prog w) A (getAttr (.ref x) name expr) Q E ⟨h,g,d,t,os⟩:=by
 have GA:=PySem.F.attr_ValueError.ga;obtain ⟨cd,c1,c2,c3⟩:=ud1 hc;have I:InstAt h x o C (some od):=⟨hx,hcl,by unfold notCls;rw [hda],by rw [hdi];exact hd⟩;have hf:findObj K C (some od) name=some (.value v):=by
  unfold findObj W.ownOf;rw [c1,Option.bind_some,hna,Option.bind_some];simp only [Option.bind_some,c3,if_true];rw [hl];rfl
 have T:=uf1 (M:=model prog w) hx hcl;have L1:=looks_findIn (M:=model prog w) X hga;have L2:=looks_findIn (M:=model prog w) X hgt;have L3:=looks_find (M:=model prog w) X I hf;have f3:=GA.bind (.ref x);have hx0:(expr && onTheHeap (Value.builtin "BaseException.__getattribute__"))=false:=by cases expr <;> rfl
 have hx2:(Value.builtin "BaseException.__getattribute__" == Value.builtin "object.__getattribute__")=false:=by decide
 have hx1:(onTheHeap (Value.ref C) && Value.builtin "BaseException.__getattribute__" == Value.builtin "object.__getattribute__")=false:=by rw [hx2];rfl
 unfold getAttr getAttrBy
 repeat (any_goals (first | assumption | with_reducible refine Looks.at (by assumption) ?_ | wp_step))
 refine codeAny_call_builtin GA.plain PySem.F.entry_bexc_ga (ui6 X hc hx hcl ?_)
 show wpAny _ _ (Builtin.«object.__getattribute__» ⟨[.ref x,.str name t],[]⟩) _ _ _
 unfold Builtin.«object.__getattribute__»
 repeat (any_goals (first | assumption | with_reducible refine Looks.at (by assumption) ?_ | wp_step))
 show wpAny _ _ (handedOut v) _ _ _
 rw [handedOut_of hh];exact wpAny_pure hq
theorem w22 {us:List Value} {Q:Value->Shared->Prop} (X:K.In h) (hc:xcIn K C (.ref L::VM)=true) (hx:h.get? x=some o) (hcl:o.cls=.ref C) (hda:o.data=.fields vs) {t0:Addr} (h0:vs[0]?=some (.ref t0)) (hl:us.length<=sizeLine)
  (k:∀ h',(∀ b ob,b ≠ x->h.get? b=some ob->h'.get? b=some ob)->h'.get? x=some (o.mapFields (·.setIfInBounds 0 (.ref h.objs.size)))->Q .none ⟨h',g,d,t,os⟩) :
  wpAny (model prog w) A (call (.builtin "ValueError.__init__") (.ref x::us)) Q E ⟨h,g,d,t,os⟩:=by
 have VF:=PySem.F.excBase_ValueError;obtain ⟨⟨nm,q,N,bs,sn,sub,ab,col,dd,k0,k1,k2,k3,k5,hC⟩,T⟩:=uq3 X hc;refine wpAny_call (codeAny_call_builtin VF.init.plain VF.initEntry (wpAny_check_init_subU VF T hC hx hcl ?_));unfold Builtin.«BaseException.__init__»
 repeat (any_goals (first | assumption | wp_step))
 rw [hda];refine wpAny_pure ?_;rw [h0];refine wpAny_pure (wpAny_bind (wpAny_setField (Heap.get?_push_of_some _ hx) hda (Array.getElem?_eq_some_iff.mp h0).1 ?_));dsimp only
 repeat (any_goals (first | assumption | wp_step))
 refine k _ (fun b ob nb e=>?_) ?_
 ·exact (Heap.get?_update_other _ _ (Ne.symm nb)).trans (Heap.get?_push_of_some _ e)
 ·exact Heap.get?_update_self _ (Heap.get?_push_of_some _ hx) (Obj.isFreed_of_fields (Obj.data_mapFields hda _))
end
end L2
namespace L2
open PySem PySem.Spec PyProof.Rows
def XN (a C:Addr) (dx:Option Addr) (h:Heap):Prop:=∃ o vs t0,h.get? a=some o /\ o.cls=.ref C /\ o.dict=dx /\ o.data=.fields vs /\ vs[0]?=some (.ref t0) /\ vs[1]?=some .none
theorem XN.stays {a C:Addr} {dx:Option Addr}:∀ h1 h2:Heap,XN a C dx h1->(∀ o,h1.get? a=some o->h2.get? a=some o)->XN a C dx h2:=fun _ _ ⟨o,vs,t0,e,r⟩ k=>⟨o,vs,t0,k _ e,r⟩
theorem XH.stays {a C:Addr} {dx:Option Addr}:∀ h1 h2:Heap,XH a C dx h1->(∀ o,h1.get? a=some o->h2.get? a=some o)->XH a C dx h2:=fun _ _ ⟨o,vs,e,r⟩ k=>⟨o,vs,k _ e,r⟩
def del (H:Hp) (a:Addr):Hp:=fun b=>if b=a then none else H b
theorem uw6 {H:Hp} {a:Addr}:del H a a=none:=by unfold del;rw [if_pos rfl]
theorem ui2 {H:Hp} {a b:Addr} (h:b ≠ a):del H a b=H b:=by unfold del;rw [if_neg h]
theorem vd9 {H:Hp} {a:Addr} {o:HO} (h:H a=some o):upd H a o=H:=by
 funext b;unfold upd;split
 ·rename_i e;rw [e,h]
 ·rfl
section
variable {X:Cx} {pins:List (Addr × Obj)} {σ:St} {H:Hp} {s:Shared}
theorem Inv.track {b:Addr} {o:HO} (I:Inv X pins σ H s) (hb:H b=none) (h1:X.s₀.heap.objs.size<=b) (hp:∀ p ∈ X.pn++pins,p.1 ≠ b) (hL:b ≠ X.env.locals) (hc:∀ x c,X.env.cells.lookup x=some c->c ≠ b)
  (ok:ObjOk X.prog X.w (upd H b o) s.heap b o):Inv X pins σ (upd H b o) s:=by
 have ne:∀ c u,H c=some u->c ≠ b:=fun c u e z=>by rw [z,hb] at e;cases e
 refine I.step (h':=s.heap) (g':=s.gens) (t':=s.toks) (d':=s.drawn) (ch:=[b]) (fun c hc'=>?_) (fun _ _ _ _ _ e _=>e) (fun _ o _ _ _ e _=>⟨o.slots,e⟩) (fun c o' n e z=>?_) (fun _ o' _ e=>⟨o',e⟩)
  (fun c xs e=>by rw [u16 (ne c _ e)];exact e) (fun c o' u e=>by rw [u16 (ne c _ e)];exact e) (fun c ps e=>⟨#[],by rw [u16 (ne c _ e),e];simp⟩) (fun _ m=>m) (fun c u e=>?_) I.bare
 ·have z:c=b:=by simpa using hc'
  subst z;exact ⟨.inr h1,hL,hc,hp⟩
 ·rw [u16 (by simpa using n)];exact z
 ·by_cases z:c=b
  ·subst z;rw [u23] at e;cases e;exact ok
  ·rw [u16 z] at e
   exact (I.hok c u e).stay (fun _ _ _ q=>q) (fun d q=>by rw [u16 (ne d _ q)];exact q) fun d xs q=>by rw [u16 (ne d _ q)];exact q
theorem Inv.untrack {b:Addr} {φ:Heap->Prop} (I:Inv X pins σ H s) (hb:H b=some (.ext φ)):Inv X pins σ (del H b) s:=by
 have ne:∀ c u,H c=some u->(∀ ψ,u ≠ .ext ψ)->c ≠ b:=fun c u e n z=>by rw [z,hb] at e;cases e;exact n _ rfl
 refine I.step (h':=s.heap) (g':=s.gens) (t':=s.toks) (d':=s.drawn) (ch:=[]) (fun c hc'=>nomatch hc') (fun _ _ _ _ _ e _=>e) (fun _ o _ _ _ e _=>⟨o.slots,e⟩) (fun c o' n e z=>?_) (fun _ o' _ e=>⟨o',e⟩)
  (fun c xs e=>by rw [ui2 (ne c _ e (by intro _ z;cases z))];exact e) (fun c o' u e=>by rw [ui2 (ne c _ e (by intro _ z;cases z))];exact e) (fun c ps e=>⟨#[],by rw [ui2 (ne c _ e (by intro _ z;cases z)),e];simp⟩) (fun _ m=>m) (fun c u e=>?_) I.bare
 ·unfold del;split
  ·rfl
  ·exact z
 ·have z:c ≠ b:=fun z=>by rw [z,uw6] at e;cases e
  rw [ui2 z] at e;exact (I.hok c u e).stay (fun _ _ _ q=>q) (fun d q=>by rw [ui2 (ne d _ q (by intro _ z;cases z))];exact q) fun d xs q=>by rw [ui2 (ne d _ q (by intro _ z;cases z))];exact q
end
def vm7 (K:W.Frag) (L:Addr) (t:TA):TE:=fun σ H Q=>t σ H fun vs H1=>∃ a C rest,vs=.ref a::rest /\ H1 a=some (.ext (XN a C none)) /\ xcIn K C (.ref L::VM)=true /\ rest.length<=1000 /\ Q .non H1
def wa3 (K:W.Frag) (L:Addr) (ta tv:TE) (f:Str):TS:=fun D σ H=>tv σ H fun y H1=>ta σ H1 fun x H2=>∃ a C,x=.ref a /\ H2 a=some (.ext (XN a C none)) /\ xcIn K C (.ref L::VM)=true /\
 W.findIn K (.ref C) "__setattr__" = some (some (.builtin "object.__setattr__")) /\ W.findIn K (.ref C) f=some none /\ ∀ dx o,H2 dx=none->dx ≠ a->D.nx σ (upd (upd H2 a (.ext (XN a C (some dx)))) dx (.frz o (.xd [(f,y)])))
section
variable {X:Cx} {L:Addr} {LN f:Str} {p apos pos pos':Pos} {e o value:Expr} {es:List Expr} {t:TA} {ta tv:TE}
theorem vg3 {pl:Sem Bool} (hg:Gl X LN) (hm:X.mg LN=some (.ref L)) (hsp:W.specialIn X.K (.ref L) "__getattribute__" = some (some (.builtin "type.__getattribute__"))) (hr:W.readsIn X.K L (.type "type")=true)
  (hfc:W.findCls X.K (.ref L) (.type "type") "__init__" = some (.val (.builtin "ValueError.__init__"))) (ha:PA X (e::es) t) (hdb:(LN == ("__debug__" : Str))=false:=by decide)
  (hst:starEach (e::es) X.env=(false,eval e X.env)::starEach es X.env:=by rfl) (hpl:(backTo pos (starEach es X.env)).any (·.1)=false:=by rfl)
  (ht:eval (.Call (.Attribute (.Name LN p) "__init__" apos) (e::es) [] pos) X.env=(do
   let ov <- eval (.Name LN p) X.env
   standAt apos.atName
   let (f,first) <- holding [ov] (getMethod ov "__init__" pl)
   callWith pos f first (backTo pos (starEach (e::es) X.env)) (backToKw pos (keywordEach [] X.env))):=by rfl) :
  PE X (.Call (.Attribute (.Name LN p) "__init__" apos) (e::es) [] pos) (vm7 X.K L t):=by
 intro pins s σ H Q I h;refine W.methodCall_KW (pl:=pl) (ua3 I hg hm (W.method_cls I.kIn hsp (W.cls_value I.kIn hr hfc rfl ?_)) hdb) ht;have hA:=ha pos pins { s with toks:=s.toks+1 } σ H _ (I.tok _) h
 rw [hst] at hA ⊢;refine Calls.callWith_builtin (by show (false || (backTo pos (starEach es X.env)).any (·.1))=false;rw [hpl] <;> rfl) (Calls.evalArgs_plain ?_);refine thn hA ?_;rintro us s2 ⟨vs,H2,I2,r2,a,C,rest,rfl,h2,hc,hl,q⟩;obtain ⟨o,ws,t0,g1,g2,g3,g4,g5,g6⟩:=(I2.hok a _ h2).1;cases r2 with
 | cons r r' =>
  cases r;obtain ⟨hh,gg,dd,tt,oo⟩:=s2;refine w22 I2.kIn hc g1 g2 g4 g5 (by rw [<- r'.length,sizeLine_eq];omega) fun h' k1 k2=>?_
  have d2:=Obj.data_mapFields g4 (·.setIfInBounds 0 (Value.ref hh.objs.size));have I3:=I2.write (x:=a) (e:=a) (o:=.ext (XN a C none)) (t':=tt) (by rw [h2];exact True.intro) (.inl rfl) (fun b u nb e=>k1 b u nb e) ⟨_,k2⟩
   ⟨⟨_,_,hh.objs.size,k2,(Obj.cls_mapFields _ _).trans g2,(u65 _ _).trans g3,d2,by simp [(Array.getElem?_eq_some_iff.mp g5).1],by rw [Array.getElem?_setIfInBounds_ne (by decide)];exact g6⟩,⟨_,k2⟩,XN.stays⟩
  rw [vd9 h2] at I3;exact ⟨.non,H2,I3,rfl,q⟩
theorem vx5 (ha:PE X o ta) (hv:PE X value tv) (hs:swapsWith value (some (.Attribute o f pos')) pos.line X.env=pure false:=by rfl):PS X (.Assign [.Attribute o f pos'] value pos) (wa3 X.K L ta tv f):=by
 intro pins s σ H D I h;refine plainObj_wpAny_Assign_Attribute (thn (hv pins s σ H _ I h) ?_) hs;rintro u s1 ⟨y,H1,I1,ry,q⟩;refine thn (ha pins s1 σ H1 _ I1 q) ?_;rintro ov s2 ⟨x,H2,I2,rx,a,C,rfl,h2,hc,hsa,hna,q2⟩;cases rx;obtain ⟨ob,ws,t0,g1,g2,g3,g4,g5,g6⟩:=(I2.hok a _ h2).1;refine wa2 I2.kIn hc hsa hna g1 g2 g3 g4 fun h' tk k1 k2 n1=>?_
 have la:=Heap.lt_size g1;have nd:s2.heap.objs.size ≠ a:=Nat.ne_of_gt la;have I3:=I2.write (x:=a) (e:=a) (o:=.ext (XN a C (some s2.heap.objs.size))) (t':=tk) (by rw [h2];exact True.intro) (.inl rfl) (fun b u' nb e=>k1 b u' nb e) ⟨_,k2⟩
  ⟨⟨_,_,t0,k2,g2,rfl,g4,g5,g6⟩,⟨_,k2⟩,XN.stays⟩
 have fr:H2 s2.heap.objs.size=none:=I2.hok.fresh (Nat.le_refl _);have lc:=I2.lt;obtain ⟨od,es',ep,m1,m2⟩:=id n1;have I4:=I3.track (b:=s2.heap.objs.size) (o:=.frz od (.xd [(f,y)])) (by rw [u16 nd];exact fr) I2.sz (fun p hp e=>?_) (Nat.ne_of_gt lc) (fun x c e z=>?_) ⟨m1,_,n1,fun g=>?_⟩
 ·exact ⟨σ,_,I4,q2 _ od fr nd⟩
 ·obtain ⟨e1,_⟩:=I2.pin p hp
  exact absurd (Heap.lt_size e1) (by rw [e];exact Nat.lt_irrefl _)
 ·obtain ⟨v,oc,e1,_⟩:=I2.cell x c e
  exact absurd (Heap.lt_size e1) (by rw [z];exact Nat.lt_irrefl _)
 ·show RelO (([(f,y)]:List (Str × V)).lookup g) (if g=f then some u else none)
  rw [List.lookup_cons]
  by_cases z:g=f
  ·subst z;rw [if_pos rfl,beq_self_eq_true];exact ry
  ·rw [if_neg z,beq_false_of_ne z];exact True.intro
end
section
variable {M:Model} {A:Around} {E:Value->Shared->Prop} {K:W.Frag} {L:Addr} {env:Env}
theorem vf3 {s:Shared} {x:Sem Value} {Q:Flow->Shared->Prop} (hh:A.handled=none) (h:wpAny M A x (fun v s1=>∃ a C o vs,v=.ref a /\ K.In s1.heap /\ xcIn K C (.ref L::VM)=true /\ s1.heap.get? a=some o /\ o.cls=.ref C /\ o.data=.fields vs /\ vs[1]?=some .none /\ E (.ref a) s1) E s) :
  wpAny M A (raiseStmt env (some x) none) Q E s:=by
 unfold raiseStmt;refine wpAny_bind (wpAny_mono h (fun v s1 h1=>?_) fun _ _ x=>x);obtain ⟨a,C,o,vs,rfl,X,hc,g1,g2,g3,g4,q⟩:=h1;obtain ⟨⟨nm,q',N,bs,sn,sub,ab,col,dd,k0,k1,k2,k3,k5,hC⟩,T⟩:=uq3 X hc;have hcB:(Value.ref C::.ref L::VM).contains (.type "BaseException")=true:=by simp
 obtain ⟨oc,od,oda,osl⟩:=o;dsimp only at g2 g3;subst g2 g3;obtain ⟨hp,g,d,tk,os⟩:=s1
 repeat (first | with_reducible refine wpAny_loadPart_at g1 ?_ | with_reducible refine wpAny_loadPart_at hC ?_ | (with_reducible refine wpAny_isSubtype_exc hC ?_;rw [hcB]) | (with_reducible refine wpAny_field g1 rfl g4 ?_) | wp_step)
 exact wpAny_raiseNew_none hh q
end
def CX1 (P:Program) (w:World):CXT:=fun outer H s E e s'=>∃ a C dx H',e=.ref a /\ s'.os=s.os /\ AllBare s'.gens /\ Un (frs outer) [] H H' s.heap s'.heap /\ HOk P w H' s'.heap /\ Fly (fun v=>v=.none) s.heap.objs.size H' a C dx s'.heap /\ E (.ref C) dx H'
def FlyIn (X:Cx) (E:XK) (e:Value) (s:Shared):Prop:=∃ σ H a C dx,e=.ref a /\ Inv X [] σ H s /\ (FlyN X.s₀.heap.objs.size H a C dx s.heap \/ Fly (fun v=>v=.none \/ v=rawInt X.env.locals) X.s₀.heap.objs.size H a C dx s.heap) /\ E (.ref C) dx H
structure Def (X:Cx):Prop where
 st:X.stack=X.env::X.outer
 fr:X.env.frame=some X.env.locals
 pn:X.pn=[]
 ex:X.ex=[]
section
variable {X:Cx} {E:XK}
theorem Def.low (D:Def X):∀ p ∈ X.pn++([]:List (Addr × Obj)),p.1 < X.s₀.heap.objs.size:=fun p h=>by rw [D.pn] at h;exact nomatch h
theorem FlyIn.own (D:Def X):PassesOwn (model X.prog X.w) X.A X.env (FlyIn X E):=by
 rintro e s ⟨σ,H,a,C,dx,rfl,I,F,q⟩;refine ul7 I D.st D.fr (Nat.le_refl _) D.low F fun h1 I1 F1=>?_
 obtain ⟨oe,vs,T,oT,ts,v,o,v1,t,fl⟩:=id F1;refine wpAny_bind (wpAny_field o.ge o.da v1 ?_);rw [if_neg (by simp)];refine u91 I1 D.st D.fr (Nat.le_refl _) D.low F1 fun h2 I2 F2=>?_
 exact ⟨σ,H,a,C,dx,rfl,I2,.inr (F2.imp fun v e=>.inr (by rw [e,D.fr];rfl)),q⟩
theorem FlyIn.leaves (D:Def X) {e:Value} {s:Shared} {E2:Value->Shared->Prop} (F:FlyIn X E e s):wpAny (model X.prog X.w) X.A (leaving X.env e) (fun _ s'=>CX1 X.prog X.w X.outer X.H₀ X.s₀ E e s') E2 s:=by
 obtain ⟨σ,H,a,C,dx,rfl,I,F,q⟩:=F;unfold leaving;refine wpAny_bind (ul7 I D.st D.fr (Nat.le_refl _) D.low F fun h1 I1 F1=>u91 I1 D.st D.fr (Nat.le_refl _) D.low F1 fun h2 I2 F2=>?_);refine ⟨a,C,dx,H,rfl,I2.os,I2.bare,?_,I2.hok,F2,q⟩;have:=I2.base;rw [D.ex] at this;exact this
theorem FlyIn.pass (D:Def X) {E3:Value->Shared->Prop} (k:∀ e s,FlyIn X E e s->E3 e s):Passes (CX1 X.prog X.w) (X.wish E3) E:=by
 rintro pins σ H s e s' I ⟨a,C,dx,H',rfl,os,ba,un,hok,F,q⟩;have I0:Inv X pins σ H s:=I.unwish;have I1:=I0.call' (ch:=[]) os un hok ba (fun b z=>nomatch z);have I2:Inv X [] σ H' s':=I1.pins_of fun p h=>absurd h (by simp)
 exact k _ _ ⟨σ,H',a,C,dx,rfl,I2,.inr ((F.low I0.sz).imp fun v e=>.inl e),q⟩
end
def uf7 (C:Addr) (f:Str):Sp:=fun vs H Q _=>∃ a v,vs=[.ref a,v] /\ H a=some (.ext (XN a C none)) /\ ∀ dx o,H dx=none->dx ≠ a->Q .non (upd (upd H a (.ext (XN a C (some dx)))) dx (.frz o (.xd [(f,v)])))
def vr8 (C:Addr) (f:Str) (E:XK) (t:TA):TS:=fun _ σ H=>t σ H fun vs H1=>∃ v,vs=[v] /\ ∀ dx o,H1 dx=none->E (.ref C) (some dx) (upd H1 dx (.frz o (.xd [(f,v)])))
structure XMk (K:W.Frag) (C L fI:Addr):Prop where
 xc:xcIn K C (.ref L::VM)=true
 init:W.findIn K (.ref C) "__init__" = some (some (.ref fI))
 fn:W.isFn K (.ref fI)=true
 kp:W.keepIn K (.ref C)=true
section
variable {X:Cx} {E:XK} {k:Nat} {C L fI:Addr} {fd:FuncData} {ps:List Str} {f x:Str} {p pos cpos:Pos} {e:Expr} {t:TA}
theorem w34 {H:Hp} {a b:Addr} {o o':HO} (hn:a ≠ b) (h:H a=none):del (upd (upd H a o) b o') a=upd H b o':=by
 funext c
 by_cases z:c=a
 ·subst z;rw [uw6,u16 hn,h]
 ·rw [ui2 z]
  by_cases y:c=b
  ·subst y;rw [u23,u23]
  ·rw [u16 y,u16 z,u16 y]
theorem v39 {pins:List (Addr × Obj)} {σ:St} {H:Hp} {s:Shared} {Q:Addr->Hp->Prop} {us:List Value} {vs:List V} {sp:Sp} (M:XMk X.K C L fI) (F:FnOk X.prog X.w X.K X.mg X.base CX0 k fI fd ps sp) (hr:Room (k+1) X.A) (hb:Binds X.K fd ps [])
  (I:Inv X pins σ H s) (r:Vals vs us) (hl:us.length<=sizeLine)
  (h:∀ a,H a=none->s.heap.objs.size<=a->sp (.ref a::vs) (upd H a (.ext (XN a C none))) (fun v H2=>v=.non /\ Q a H2) E0) :
  wpAny (model X.prog X.w) X.A (call (.ref C) us) (fun u s'=>∃ a H2,u=.ref a /\ s.heap.objs.size<=a /\ Inv X pins σ H2 s' /\ Q a H2) X.xe s:=by
 refine w41 I.kIn M.xc M.init M.fn hl fun h' a hm le=>?_
 obtain ⟨t,g1,_,g2⟩:=hm.there;have I1:Inv X pins σ H { s with heap:=h' }:=I.kept (t':=s.toks) hm.keeps
 have ha:H a=none:=I.hok.fresh le;have I2:Inv X pins σ (upd H a (.ext (XN a C none))) { s with heap:=h' }:=by
  refine I1.track ha (Nat.le_trans I.sz le) (fun p hp z=>?_) (Nat.ne_of_gt (Nat.lt_of_lt_of_le I.lt le)) (fun x c e z=>?_) ⟨⟨_,_,t,g1,rfl,rfl,rfl,rfl,rfl⟩,⟨_,g1⟩,XN.stays⟩
  ·obtain ⟨e1,_⟩:=I.pin p hp
   exact absurd (Nat.lt_of_lt_of_le (Heap.lt_size e1) le) (by rw [z];exact Nat.lt_irrefl _)
  ·obtain ⟨v,oc,e1,_⟩:=I.cell x c e
   exact absurd (Nat.lt_of_lt_of_le (Heap.lt_size e1) le) (by rw [z];exact Nat.lt_irrefl _)
 have hq:=h a ha le;have r2:Vals (V.ref a::vs) (Value.ref a::us):=.cons rfl r;have hln:(Value.ref a::us++[]).length=ps.length:=by
  have z:=r2.length;rw [F.len _ _ _ _ hq] at z;rw [List.append_nil];exact z.symm
 have hbb:=hb { s with heap:=h' } (Value.ref a::us) I2.kIn hln
 rw [List.append_nil] at hbb;refine wpAny_call (codeAny_mono (F.run _ X.stack _ _ ⟨Value.ref a::us,[]⟩ (Value.ref a::us) _ _ E0 (hr.make C us []) (I2.env0.make C us []) hbb r2 hq) fun r' s' hq'=>?_);cases r' with
 | error e=>exact False.elim hq'
 | ok fl =>
  cases fl with
  | ret u =>
   obtain ⟨v,H',I3,rv,ev,q3⟩:=I2.after hq';subst ev;exact ⟨rv,a,H',rfl,le,I3,q3⟩
  | next=>exact False.elim hq'
  | brk=>exact False.elim hq'
  | cont=>exact False.elim hq'
def Flies (X:Cx) (E:XK):Prop:=∀ (pins:List (Addr × Obj)) (σ:St) (H:Hp) (s:Shared) (a C:Addr) (dx:Option Addr),Inv X pins σ H s->FlyN X.s₀.heap.objs.size H a C dx s.heap->E (.ref C) dx H->X.xe (.ref a) s
theorem vf7 (M:XMk X.K C L fI) (F:FnOk X.prog X.w X.K X.mg X.base CX0 k fI fd ps (uf7 C f)) (hr:Room (k+1) X.A) (hb:Binds X.K fd ps []) (hg:Gl X x) (hm:X.mg x=some (.ref C)) (hc:X.calm=true) (hx:Flies X E) (ha:PA X [e] t)
  (hdb:(x == ("__debug__" : Str))=false:=by decide) (he:starEach [e] X.env=(false,eval e X.env)::starEach [] X.env:=by rfl) (hpl:(backTo cpos (starEach [] X.env)).any (·.1)=false:=by rfl) :
  PS X (.Raise (some (.Call (.Name x p) [e] [] cpos)) none pos) (vr8 C f E t):=by
 intro pins s σ H D I h;rw [arm_exec_Raise];refine wpAny_bind (wpAny_standAt (vf3 (K:=X.K) (L:=L) (I.ok.hd hc) (wpAny_bind ?_)));refine wpAny_Call_Name_kw (ua3 I hg hm ?_ hdb);refine W.callWith_K (h₀:=X.base) I.ok.mod.kin M.kp (thn (ha cpos pins s σ H _ I h) ?_) he hpl;rintro us s1 ⟨vs,H1,I1,r,v,rfl,q⟩;refine ⟨I1.kIn,?_⟩;have hl:us.length<=sizeLine:=by rw [<- r.length,sizeLine_eq];simp
 refine thn (v39 (Q:=fun a H2=>∃ dx o,H1 a=none /\ H1 dx=none /\ dx ≠ a /\ H2=upd (upd H1 a (.ext (XN a C (some dx)))) dx (.frz o (.xd [(f,v)]))) M F hr hb I1 r hl fun a h0 le=>?_) ?_
 ·refine ⟨a,v,rfl,u23,fun dx o h1 h2=>⟨rfl,dx,o,h0,?_,h2,?_⟩⟩
  ·rw [u16 h2] at h1;exact h1
  ·rw [vr6]
 ·rintro u s2 ⟨a,H2,rfl,le,I2,dx,o,z1,z2,z3,rfl⟩
  refine wpAny_bind (wpAny_standAt (wpAny_pure ?_));have ta:(upd (upd H1 a (.ext (XN a C (some dx)))) dx (.frz o (.xd [(f,v)]))) a=some (.ext (XN a C (some dx))):=by rw [u16 (Ne.symm z3),u23]
  obtain ⟨ob,ws,t0,g1,g2,g3,g4,g5,g6⟩:=(I2.hok a _ ta).1;refine ⟨a,C,ob,ws,rfl,I2.kIn,M.xc,g1,g2,g4,g6,?_⟩;have I3:=I2.untrack ta;rw [w34 (Ne.symm z3) z1] at I3;exact hx pins σ _ s2 a C (some dx) I3 ⟨ob,ws,⟨Nat.le_trans I1.sz le,by rw [u16 (Ne.symm z3)];exact z1,g1,g2,g3,g4⟩,g6⟩ (q dx o z2)
end
end L2
namespace L3
open PySem PySem.Spec PyProof.Rows L2
abbrev XD:=Addr->List (Str × D)->Gp->Prop
abbrev Spx3:=List D->Gp->DK->XD->Prop
def FutX (K:W.Frag) (H:Hp) (r:XD) (E:XK):Prop:=∀ C fs G' dx ys H',Con K G' H'->Le H H'->XDict H' dx ys->RelPs K H' fs ys->r C fs G'->E (.ref C) dx H'
def lowX (K:W.Frag) (r:XD):XK:=fun cls dx H=>∃ C fs ys G,cls=.ref C /\ Con K G H /\ XDict H dx ys /\ RelPs K H fs ys /\ r C fs G
def ug4 (K:W.Frag) (S:Spx3):Sp:=fun vs H Q E=>∃ ds G R r,RelDs K H ds vs /\ Con K G H /\ S ds G R r /\ FutE K H R Q /\ FutX K H r E
def up2 (S:Spx3) (r:XD) (t:TA3):TE3:=fun σ G q=>t σ G fun ds G1=>∃ R,S ds G1 R r /\ ∀ d G',R d G'->q d G'
def vq0 (C:Addr) (f:Str) (r:XD) (ta:TA3):TS3:=fun _ σ G=>ta σ G fun ds G1=>match ds with | [d]=>r C [(f,d)] G1 | _=>False
def w36 (C:Addr) (r:XD):TS3:=fun _ _ G=>r C [] G
theorem wj4 {fs ex:List Addr} {H H':Hp} {h h':Heap} (u:Un fs ex H H' h h'):Le H H':=⟨u.tups,u.frzs⟩
theorem uv8 {K:W.Frag} {H:Hp} {r:XD}:FutX K H r (lowX K r):=fun C fs G dx ys H' c l z p q=>⟨C,fs,ys,G,rfl,c,z,p,q⟩
abbrev xcx (X:Cx) (r:XD):Cx:=X.wish (FlyIn X (lowX X.K r))
theorem PSs.wish {X:Cx} {E:Value->Shared->Prop} {st:List Stmt} {t:TS} (h:PSs (X.wish E) st t) (k:∀ e s,E e s->X.xe e s):PSs X st t:=fun pins s σ H D I hw =>
 wpAny_mono (h pins s σ H D (I.wish _) hw) (fun _ _ q=>q.unwish) k
section
variable {X:Cx} {r:XD}
theorem vq3 (D:Def X):PassesOwn (model (xcx X r).prog (xcx X r).w) (xcx X r).A (xcx X r).env (xcx X r).xe:=FlyIn.own D
theorem v06:Flies (xcx X r) (lowX X.K r):=fun pins σ H s a C dx I F q=>⟨σ,H,a,C,dx,rfl,(I.unwish).pins_of (fun p h=>absurd h (by simp)),.inl F,q⟩
theorem vc9 (D:Def X):Passes (CX1 X.prog X.w) (xcx X r) (lowX X.K r):=FlyIn.pass D fun _ _ z=>z
end
abbrev OkX (P:Program) (w:World) {K:W.Frag} (mg:Str->Option Value) (base:Heap) (n:Nat) {x qual:Str} {st:Stmt} {ps:List Str} (d:FnAt K x qual st ps) (S:Spx3):Prop:=FnOk P w K mg base (CX1 P w) n d.a d.fd ps (ug4 K S)
section
variable {P:Program} {w:World} {K:W.Frag} {mg:Str->Option Value} {base:Heap}
theorem ue4 {CX:CXT} {N:List Str} {qual:Str} {sc:Scope} {f:Addr} {cd:Value} {A:Around} {outer:List Env} {s:Shared} {H:Hp} {E:XK}:Def (cxOf CX P w K mg base N qual sc f cd A outer s H E):=⟨rfl,rfl,rfl,rfl⟩
theorem us7 {x qual:Str} {st:Stmt} {ps N:List Str} {k:Nat} (d:FnAt K x qual st ps) {S:Spx3} (sc:FnScope N ps (u05 st)) (hl:∀ ds G R r,S ds G R r->ds.length=ps.length) {t:XD->TS3}
  (ht:∀ (cdv:Value) (A:Around) (outer:List Env) (s:Shared) (H:Hp) (E:XK) (r:XD),Room k (A.deeper (envOfC qual (u05 st) s.heap.objs.size d.a cdv))->Ss3 (xcx (cxOf (CX1 P w) P w K mg base N qual (u05 st) d.a cdv A outer s H E) r) (u33 st) (t r))
  (hb:∀ ds G R r,S ds G R r->t r { nx:=fun _ G'=>R .non G',rt:=R } (uf4 N ds) G):OkX P w mg base (k+1) d S:=by
 obtain ⟨oc,od,dV,kV,doc,pm,an,cdv,ct,osl,e,lk,hcd⟩:=d.ex;have lk':K.lookup d.a=some ⟨oc,od,.func (W.fnOf x qual (u38 st) (u33 st) (u05 st) dV kV doc pm an cdv ct),osl⟩:=e ▸ lk;have F:FnOk P w K mg base (CX1 P w) (k+1) d.a (W.fnOf x qual (u38 st) (u33 st) (u05 st) dV kV doc pm an cdv ct) ps (ug4 K S):=by
  refine w25 lk' hcd sc (fun vs H Q E h=>?_) fun A outer s H vs Q E hr h=>?_
  ·obtain ⟨ds,G,R,r,rr,_,hS,_⟩:=h
   rw [<- rr.length];exact hl ds G R r hS
  ·obtain ⟨ds,G,R,r,rr,c,hS,f,fx⟩:=h
   have fin:=PSs.wish (show PSs _ _ _ from ht cdv A outer s H E r hr) fun e s' hf=>by
    refine wpAny_mono (FlyIn.leaves ue4 hf) (fun _ s'' hq=>?_) fun _ _ z=>z
    obtain ⟨a,C,dx,H',e1,e2,e3,un,e4,e5,C',fs,ys,G',z1,z2,z3,z4,z5⟩:=hq;cases z1;exact ⟨a,_,dx,H',e1,e2,e3,un,e4,e5,fx _ fs G' dx ys H' z2 (wj4 un) z3 z4 z5⟩
   refine ⟨_,fin,uf4 N ds,G,_,uj3 rr,c,hb ds G R r hS,fun σd' G' σ' H' _ c' l' q=>?_,f,fun _ _ _ _ _ _ _ q=>q.elim,fun _ _ _ _ _ _ _ q=>q.elim⟩;exact f .non G' .non H' RelD.nonI c' l' q
 have F2:=F;rw [<- e] at F2;exact F2
end
section
variable {X:Cx} {r:XD} {e:Expr} {es:List Expr} {p pos cpos:Pos} {ta:TE3} {ts:TA3} {k:Nat} {S:Spx3} {x qual f:Str} {st:Stmt} {ps ps':List Str} {C L fI:Addr} {fd:FuncData}
theorem uo5 {K:W.Frag} {σ:L2.St} {H:Hp} {Q:VK} {t:TA3} (h:lowE K (up2 S r t) σ H Q):vs3 (ug4 K S) [] (lowX K r) (lowA K t) σ H Q:=by
 obtain ⟨σd,G,q,rs,c,t,f⟩:=h;refine ⟨σd,G,_,rs,c,t,fun ds G1 vs H1 r1 c1 l1 ⟨R,s1,t1⟩=>⟨ds,G1,R,r,?_,c1,s1,fun d G2 v H2 r2 c2 l2 t2=>f d G2 v H2 r2 c2 (l1.trans l2) (t1 d G2 t2),uv8⟩⟩;rw [List.append_nil];exact r1
theorem ecX (D:Def X) (d:FnAt X.K x qual st ps) (hm:X.mg x=some (.ref d.a)) (G:FnOk X.prog X.w X.K X.mg X.base (CX1 X.prog X.w) k d.a d.fd ps (ug4 X.K S)) (hr:Room k X.A) (ha:A3 (xcx X r) (e::es) ts) (hg:Gl X x:=by rfl) (hdb:(x == ("__debug__" : Str))=false:=by decide)
  (he:starEach (e::es) X.env=(false,eval e X.env)::starEach es X.env:=by rfl) (hpl:(backTo pos (starEach es X.env)).any (·.1)=false:=by rfl):E3 (xcx X r) (.Call (.Name x p) (e::es) [] pos) (up2 S r ts) :=
 u32 (ur4 (X:=xcx X r) G hr hg hm d.kp d.b .nil (vc9 D) ha hdb he hpl) fun _ _ _=>uo5
theorem uc4 (M:XMk X.K C L fI) (F:FnOk X.prog X.w X.K X.mg X.base CX0 k fI fd ps (uf7 C f)) (hr:Room (k+1) X.A) (hb:Binds X.K fd ps []) (hm:X.mg x=some (.ref C)) (ha:A3 (xcx X r) [e] ts) (hc:X.calm=true:=by rfl) (hg:Gl X x:=by rfl)
  (hdb:(x == ("__debug__" : Str))=false:=by decide) (he:starEach [e] X.env=(false,eval e X.env)::starEach [] X.env:=by rfl) (hpl:(backTo cpos (starEach [] X.env)).any (·.1)=false:=by rfl) :
  S3 (xcx X r) (.Raise (some (.Call (.Name x p) [e] [] cpos)) none pos) (vq0 C f r ts) :=
 uj0 (vf7 (X:=xcx X r) M F hr hb hg hm hc v06 ha hdb he hpl) fun D σ H h=>by
  obtain ⟨σd,G,d,rs,c,t,fd⟩:=h;refine ⟨σd,G,_,rs,c,t,fun ds G1 vs H1 r1 c1 l1 t1=>?_⟩;cases ds with
  | nil=>exact t1.elim
  | cons d rest =>
   cases rest with
   | cons _ _=>exact t1.elim
   | nil =>
    obtain ⟨v,r',rfl,rv,rn⟩:=r1.inv_cons;cases rn.inv_nil;exact ⟨v,rfl,fun dx o hn=>⟨C,[(f,d)],[(f,v)],G1,rfl,c1.side hn,⟨o,u23⟩,.cons (RelD.le (Le.fresh hn) rv) .nil,t1⟩⟩
end
structure XBase (K:W.Frag) (L:Addr):Prop where
 sp:W.specialIn K (.ref L) "__getattribute__" = some (some (.builtin "type.__getattribute__"))
 rd:W.readsIn K L (.type "type")=true
 fc:W.findCls K (.ref L) (.type "type") "__init__" = some (.val (.builtin "ValueError.__init__"))
structure XAttr (K:W.Frag) (C:Addr) (f:Str):Prop where
 sa:W.findIn K (.ref C) "__setattr__" = some (some (.builtin "object.__setattr__"))
 na:W.findIn K (.ref C) f=some none
 ga:W.findIn K (.ref C) "__getattribute__" = some (some (.builtin "BaseException.__getattribute__"))
 gt:W.findIn K (.ref C) "__getattr__" = some none
section
variable {P:Program} {w:World} {K:W.Frag} {mg:Str->Option Value} {base:Heap} {C L:Addr} {f v qual:Str} {st:Stmt} {k:Nat}
theorem vc8 (d:FnAt K "__init__" qual st ["self",v]) (sc:FnScope ["self",v] ["self",v] (u05 st)) (hc:xcIn K C (.ref L::VM)=true) (A:XAttr K C f)
  (ht:∀ (cdv:Value) (A:Around) (outer:List Env) (s:Shared) (H:Hp) (E:XK),PSs (cxOf CX0 P w K mg base ["self",v] qual (u05 st) d.a cdv A outer s H E).nox (u33 st) (tSeq (vs0 (vm7 K L (ve0 (tVar 0) (ve0 (tVar 1) tNil)))) (wa3 K L (tVar 0) (tVar 1) f))) :
  FnOk P w K mg base CX0 (k+1) d.a d.fd ["self",v] (uf7 C f):=by
 obtain ⟨oc,od,dV,kV,doc,pm,an,cdv,ct,osl,e,lk,hcd⟩:=d.ex;have lk':K.lookup d.a=some ⟨oc,od,.func (W.fnOf "__init__" qual (u38 st) (u33 st) (u05 st) dV kV doc pm an cdv ct),osl⟩:=e ▸ lk;have F:FnOk P w K mg base CX0 (k+1) d.a (W.fnOf "__init__" qual (u38 st) (u33 st) (u05 st) dV kV doc pm an cdv ct) ["self",v] (uf7 C f):=by
  refine w25 lk' hcd sc (fun vs H Q E h=>?_) fun A' outer s H vs Q E hr h=>⟨_,(ht cdv A' outer s H E).nox,?_⟩
  ·obtain ⟨a,x,rfl,_⟩:=h;rfl
  ·obtain ⟨a,x,rfl,ha,q⟩:=h
   refine ⟨.ref a,rfl,x,rfl,a,C,[x],rfl,ha,hc,by simp,x,rfl,.ref a,rfl,a,C,rfl,ha,hc,A.sa,A.na,fun dx o h1 h2=>q dx o h1 h2⟩
 have F2:=F;rw [<- e] at F2;exact F2
end
def wm0 (K:W.Frag) (L:Addr) (ta:TE3) (f:Str):TE3:=fun σ G q=>ta σ G fun x G1=>match x with
 | .ref a=>(match G1 a with
  | some (.exc C fs)=>xcIn K C (.ref L::VM)=true /\ XAttr K C f /\ (match fs.lookup f with | some d=>q d G1 | none=>False)
  | _=>False)
 | _=>False
section
variable {X:Cx} {e:Expr} {f:Str} {pos:Pos} {ta:TE3}
theorem vz6 {h:Heap} {dx:Addr} {o:Obj} {m:Str->Option Value} {f:Str} {u:Value} (n:h.Ns dx m) (e:h.get? dx=some o) (hm:m f=some u):W.lookIn f o=some (some u):=by
 obtain ⟨o',es,ep,e1,e2,e3,e4⟩:=n;rw [e] at e1;cases e1;unfold W.lookIn;rw [e2];have q:=e4 f;rw [hm] at q;unfold nsFind findBy at q;rw [<- Array.find?_toList] at q;cases z:es.toList.find? (fun x=>x.key.isStr f) with
 | none=>rw [z] at q;cases q
 | some en=>rw [z] at q;simp only [Option.map_some,Option.some.injEq] at q;rw [<- q];dsimp only;rw [z]
theorem wl3 {K:W.Frag} (L:Addr) (he:E3 X e ta) (hb:attributeBase e f X.env (eval e X.env)=eval e X.env:=by rfl) (hK:X.K=K:=by rfl):E3 X (.Attribute e f pos) (wm0 K L ta f):=by
 subst hK;intro pins s σ H Q I h;obtain ⟨σd,G,q,rs,c,t,fu⟩:=h;refine vc1 hb (thn (he pins s σ H (fun v H1=>∃ a C fs d G1,v=.ref a /\ Con X.K G1 H1 /\ Le H H1 /\ G1 a=some (.exc C fs) /\ xcIn X.K C (.ref L::VM)=true /\ XAttr X.K C f /\ fs.lookup f=some d /\ q d G1) I ⟨σd,G,_,rs,c,t,fun x G1 v H1 r1 c1 l1 t1=>?_⟩) ?_)
 ·cases x with
  | ref a =>
   cases r1.ref_inv;dsimp only at t1;cases z:G1 a with
   | none=>rw [z] at t1;exact t1.elim
   | some o =>
    rw [z] at t1;cases o with
    | exc C fs =>
     obtain ⟨t1,t2,t3⟩:=t1;cases y:fs.lookup f with
     | none=>rw [y] at t3;exact t3.elim
     | some d=>rw [y] at t3;exact ⟨a,C,fs,d,G1,rfl,c1,l1,z,t1,t2,y,t3⟩
    | _=>exact t1.elim
  | _=>exact t1.elim
 ·rintro u s1 ⟨v,H1,I1,rv,a,C,fs,d,G1,rfl,c1,l1,z,hc,A,y,qq⟩
  cases rv;obtain ⟨dx,ys,h1,h2,h3⟩:=c1 a _ z;obtain ⟨v,h4,h5⟩:=h3.lookup y;obtain ⟨⟨o,vs,g1,g2,g3,g4⟩,_⟩:=I1.hok a _ h1;cases dx with
  | none=>cases (show ys=[] from h2);cases h4
  | some dx =>
   obtain ⟨od,h2⟩:=h2;obtain ⟨k1,mA,k2,k3⟩:=I1.hok dx _ h2;have k4:=k3 f;rw [h4] at k4;obtain ⟨u,k5,k6⟩:=RelO.some_of k4;obtain ⟨hh,gg,dd,tt,oo⟩:=s1;exact wl1 I1.kIn hc A.ga A.gt A.na g1 g2 g4 g3 k1 (vz6 k2.ns k1 k5) (uo8 k6) ⟨v,H1,I1.tok _,k6,fu d G1 v H1 h5 c1 l1 qq⟩
end
def mkd (X:Cx) (a:Addr):Cx:={ X with A:=X.A.mark (some (.ref a)),calm:=false }
section
variable {X:Cx} {pins:List (Addr × Obj)} {σ:L2.St} {H:Hp} {s:Shared} {a:Addr}
theorem we1 (k:X.Ok):(mkd X a).Ok:=⟨k.mod,k.kind,k.glob,k.blt,k.above,k.inj,k.has,k.cab,(fun z=>nomatch z),k.frames,k.stk,k.exf,k.bs,k.bsz,k.noex,k.exfs,k.funs,k.frf⟩
theorem Inv.mkd (I:Inv X pins σ H s):Inv (mkd X a) pins σ H s:=⟨we1 I.ok,I.os,I.bare,I.base,I.loc,I.cell,I.free,I.freeC,I.pin,I.hok,I.len⟩
theorem Inv.unmkd (I:Inv (L3.mkd X a) pins σ H s) (k:X.Ok):Inv X pins σ H s:=⟨k,I.os,I.bare,I.base,I.loc,I.cell,I.free,I.freeC,I.pin,I.hok,I.len⟩
theorem SP.unmkd {D:Ends} {f:Flow} (h:SP (L3.mkd X a) pins D f s) (k:X.Ok):SP X pins D f s:=by
 cases f with
 | next=>obtain ⟨σ',H',I,q⟩:=h;exact ⟨σ',H',Inv.unmkd I k,q⟩
 | brk=>obtain ⟨σ',H',I,q⟩:=h;exact ⟨σ',H',Inv.unmkd I k,q⟩
 | cont=>obtain ⟨σ',H',I,q⟩:=h;exact ⟨σ',H',Inv.unmkd I k,q⟩
 | ret u=>obtain ⟨v,σ',H',I,r,q⟩:=h;exact ⟨v,σ',H',Inv.unmkd I k,r,q⟩
theorem Inv.names {h':Heap} {m':Str->Option Value} {σ':L2.St} {t':Nat} (I:Inv X pins σ H s) (hn:h'.Ns X.env.locals m') (sb:Heap.SameBut X.env.locals s.heap h') (hl:σ'.length=σ.length)
  (k:∀ m,s.heap.Ns X.env.locals m->(∀ (i:Nat) (x:Str) (v:V),X.N[i]?=some x->σ[i]?=some (some v)->Vis X.env.scope x->∃ u,RelV v u /\ Look X.env s.heap m x u) ->
   ∀ (i:Nat) (x:Str) (v:V),X.N[i]?=some x->σ'[i]?=some (some v)->Vis X.env.scope x->∃ u,RelV v u /\ Look X.env s.heap m' x u):Inv X pins σ' H { s with heap:=h',toks:=t' }:=by
 obtain ⟨m,hm,lk⟩:=id I.loc;obtain ⟨oL,_,_,hoL,_⟩:=id hm;have nb:∀ b o,X.s₀.heap.get? b=some o->b ≠ X.env.locals:=fun b o e=>Nat.ne_of_lt (Nat.lt_of_lt_of_le (Heap.lt_size e) I.ok.above)
 refine ⟨I.ok,I.os,I.bare,⟨fun b o e n hb hx=>?_,fun b o e n hb hx=>?_,I.base.free,fun b o e hx=>?_,I.base.tups,I.base.frzs,I.base.tbls⟩,⟨m',hn,fun j y v e1 e2 e3=>?_⟩,fun y c e=>?_,I.free,I.freeC,fun p hp=>?_,fun b ob e=>?_,hl.trans I.len⟩
 ·exact (sb.2 b (nb b o e)).trans (I.base.keep b o e n hb hx)
 ·obtain ⟨sl,e1⟩:=I.base.slot b o e n hb hx
  exact ⟨sl,(sb.2 b (nb b o e)).trans e1⟩
 ·obtain ⟨o',e1⟩:=I.base.there b o e hx
  exact ⟨o',(sb.2 b (nb b o e)).trans e1⟩
 ·obtain ⟨u,r,l⟩:=k m hm lk j y v e1 e2 e3
  refine ⟨u,r,?_⟩
  rcases l with l | ⟨z,c,e,q⟩
  ·exact .inl l
  ·exact .inr ⟨z,c,e,q.sameBut sb (I.cne y c e)⟩
 ·obtain ⟨v,q⟩:=I.cell y c e
  exact ⟨v,q.sameBut sb (I.cne y c e)⟩
 ·obtain ⟨e,n,ne,nf,d⟩:=I.pin p hp
  exact ⟨(sb.2 p.1 ne).trans e,n,ne,nf,d⟩
 ·refine (I.hok b ob e).stay (fun c w' hc q=>(sb.2 c ?_).trans q) (fun _ q=>q) fun _ _ q=>q
  rintro rfl
  rcases hc with rfl | hc
  ·rw [I.free] at e;cases e
  ·rw [I.free] at hc;cases hc
theorem ub2 {M:Model} {A:Around} {E:Value->Shared->Prop} {i:Nat} {n:Str} {pos:Pos} {Q:Unit->Shared->Prop} (I:Inv X pins σ H s) (hN:X.N.Nodup) (hi:X.N[i]?=some n) (hl:X.env.scope.names.lookup n=some .local)
  (k:∀ s',Inv X pins (σ.set i none) H s'->Q () s'):wpAny M A (do bindName X.env n .none;unbindBehindTheSuite X.env n pos) Q E s:=by
 have hp:(X.env.scope.kind == .class || (X.env.scope.kind == .module && X.env.locals != X.env.globals))=false:=by rw [I.ok.kind];rfl
 have hk:X.env.kindOf n=some .local:=hl;refine wpAny_bind (wpAny_bindName (ue1 (v:=.non) (u:=.none) I hN hi (.inl hl) rfl (fun s1 I1=>?_) (.inr hl)));have hiσ:i < σ.length:=by rw [I.len];exact (List.getElem?_eq_some_iff.mp hi).1
 obtain ⟨m,hm,lk⟩:=id I1.loc;unfold unbindBehindTheSuite;refine wpAny_onRaise ?_;unfold unbindName;refine wpAny_bind (wpAny_point (wpAny_bind ?_));unfold deleteName;simp only [hk,hp];rw [if_neg (by decide)];have there:(m n).isSome=true:=by
  obtain ⟨u,ru,l⟩:=lk i n .non hi (by rw [List.getElem?_set_self hiσ]) (.inl hl)
  rcases l with ⟨_,e⟩ | ⟨z,_⟩
  ·rw [e];rfl
  ·rw [hk] at z;rcases z with z | z <;> cases z
 refine wpAny_bind (wpAny_nsDel_keeps hm fun h2 v0 hn2 sb=>?_);rw [there];simp only [Bool.not_true,Bool.false_eq_true,if_false];refine wpAny_pure (wpAny_point (k { s1 with heap:=h2 } ?_));refine Inv.names (t':=s1.toks) I1 hn2 sb (by simp) fun m0 hm0 lk0 j y v e1 e2 e3=>?_
 by_cases hj:j=i
 ·subst hj
  rw [List.getElem?_set_self hiσ] at e2;cases e2
 ·rw [List.getElem?_set_ne (Ne.symm hj)] at e2
  obtain ⟨u,ru,l⟩:=lk j y v e1 (by rw [List.getElem?_set_ne (Ne.symm hj)];exact e2) e3;refine ⟨u,ru,?_⟩
  rcases l with ⟨z,e⟩ | l
  ·refine .inl ⟨z,?_⟩
   have ny:y ≠ n:=fun e=>hj (ul8 hN e1 (e ▸ hi))
   show (if y=n then v0 else m y)=some u
   rw [if_neg ny];exact e
  ·exact .inr l
end
def XP (X:Cx) (pins:List (Addr × Obj)) (σ:L2.St) (H:Hp) (r:XD) (e:Value) (s':Shared):Prop:=∃ H1 s1,Inv X pins σ H1 s1 /\ Le H H1 /\ CX1 X.prog X.w X.stack H1 s1 (lowX X.K r) e s'
def E3X (X:Cx) (e:Expr) (t:XD->TE3):Prop:=∀ (pins:List (Addr × Obj)) (s:Shared) (σ:L2.St) (H:Hp) (Q:VK) (r:XD),Inv X pins σ H s->lowE X.K (t r) σ H Q->wpAny (model X.prog X.w) X.A (eval e X.env) (EP X pins σ Q) (XP X pins σ H r) s
def PB (X:Cx) (st:List Stmt) (t:XD->TS3):Prop:=∀ (pins:List (Addr × Obj)) (s:Shared) (σ:L2.St) (H:Hp) (D:Ends) (r:XD),Inv X pins σ H s->lowS X.K (t r) D σ H->wpAny (model X.prog X.w) X.A (execs st X.env) (SP X pins D) (XP X pins σ H r) s
section
variable {X:Cx} {e c:Expr} {es:List Expr} {p pos:Pos} {ts:TA3} {k:Nat} {S:Spx3} {x qual:Str} {st:Stmt} {ps:List Str} {t:XD->TE3} {tc:TT3} {a b:List Stmt} {ta tb:XD->TS3}
theorem XP.le {pins:List (Addr × Obj)} {σ:L2.St} {H H1:Hp} {r:XD} {e:Value} {s':Shared} (h:XP X pins σ H1 r e s') (l:Le H H1):XP X pins σ H r e s':=by
 obtain ⟨H2,s1,I,l2,q⟩:=h;exact ⟨H2,s1,I,l.trans l2,q⟩
theorem ecT (d:FnAt X.K x qual st ps) (hm:X.mg x=some (.ref d.a)) (G:FnOk X.prog X.w X.K X.mg X.base (CX1 X.prog X.w) k d.a d.fd ps (ug4 X.K S)) (hr:Room k X.A) (ha:A3 X (e::es) ts) (hg:Gl X x:=by rfl) (hdb:(x == ("__debug__" : Str))=false:=by decide)
  (he:starEach (e::es) X.env=(false,eval e X.env)::starEach es X.env:=by rfl) (hpl:(backTo pos (starEach es X.env)).any (·.1)=false:=by rfl) (hn:∀ e s,¬ X.xe e s:=by exact fun _ _ z=>z):E3X X (.Call (.Name x p) (e::es) [] pos) (fun r=>up2 S r ts):=by
 intro pins s σ H Q r I h;obtain ⟨σd,G0,q,rs,c,t,f⟩:=h;refine wpAny_Call_Name_kw (ua3 I hg hm ?_ hdb);refine W.callWith_K (h₀:=X.base) I.ok.mod.kin d.kp (wpAny_mono (ha pos pins s σ H (fun vs H1=>Le H H1 /\ ∃ ds G1 R,RelDs X.K H1 ds vs /\ Con X.K G1 H1 /\ S ds G1 R r /\ FutE X.K H1 R Q) I ⟨σd,G0,_,rs,c,t,fun ds G1 vs H1 r1 c1 l1 ⟨R,s1,t1⟩=>⟨l1,ds,G1,R,r1,c1,s1,fun d G2 v H2 r2 c2 l2 t2=>f d G2 v H2 r2 c2 (l1.trans l2) (t1 d G2 t2)⟩⟩) ?_ fun e s' z=>(hn e s' z).elim) he hpl;rintro us s1 ⟨vs,H1,I1,rv,l1,ds,G1,R,r1,c1,hS,fu⟩;refine ⟨I1.kIn,?_⟩;have hsp:ug4 X.K S vs H1 Q (lowX X.K r):=⟨ds,G1,R,r,r1,c1,hS,fu,uv8⟩;have hln:(us++[]).length=ps.length:=by rw [List.append_nil,<- rv.length];exact G.len _ _ _ _ hsp
 have hb:=d.b s1 us I1.kIn hln;rw [List.append_nil] at hb;refine wpAny_call (codeAny_mono (G.run X.A X.stack s1 H1 ⟨us,[]⟩ us vs Q (lowX X.K r) hr I1.env0 hb rv hsp) fun r' s' hq=>?_);cases r' with
 | error e=>exact ⟨H1,s1,I1,l1,hq⟩
 | ok fl =>
  cases fl with
  | ret u=>exact I1.after hq
  | next=>exact False.elim hq
  | brk=>exact False.elim hq
  | cont=>exact False.elim hq
theorem vz1 (h:E3X X e t) (hs:swapsWith e none pos.line X.env=pure false:=by rfl):PB X [.Expr e pos] (fun r=>uz5 (t r)):=by
 intro pins s σ H D r I hw;refine wpAny_execs_cons (wpAny_Expr_any (thn (h pins s σ H (fun _ H1=>D.nx σ H1) r I (uv1 hw)) ?_) I.quiet hs);rintro v s1 ⟨y,H1,I1,r1,q1⟩;exact wpAny_execs_nil ⟨σ,H1,I1,q1⟩
end
def isX (C L C2:Addr):Bool:=decide (C2=C \/ C2=L)
def H3 (X:Cx) (hs:List ExceptHandler) (th:Addr->List (Str × D)->TS3):Prop :=
 ∀ (pins:List (Addr × Obj)) (s:Shared) (σ:L2.St) (H:Hp) (D:Ends) (a C:Addr) (dx:Option Addr) (ys:List (Str × V)) (fs:List (Str × L3.D)) (lim:Nat),Inv X pins σ H s->X.s₀.heap.objs.size<=lim->(∀ p ∈ X.pn++pins,p.1 < lim) ->
  Fly (fun v=>v=.none) lim H a C dx s.heap->XDict H dx ys->RelPs X.K H fs ys->lowS X.K (th C fs) D σ H->wpAny (model X.prog X.w) X.A (handleBy (.ref a) X.env hs) (SP X pins D) X.xe s
def wm2 (K:W.Frag) (L C2:Addr) (i:Nat) (ts:TS3) (th:Addr->List (Str × D)->TS3):Addr->List (Str × D)->TS3:=fun C fs E σ G=>xcIn K C (.ref L::VM)=true /\
 if isX C L C2=true then ∀ a,G a=none->ts { E with nx:=fun σ' G'=>E.nx (σ'.set i none) G',bk:=fun σ' G'=>E.bk (σ'.set i none) G',ct:=fun σ' G'=>E.ct (σ'.set i none) G' } (σ.set i (some (.ref a))) (gup G a (.exc C fs)) else th C fs E σ G
def wm1 (K:W.Frag) (L C2:Addr) (ts:TS3) (th:Addr->List (Str × D)->TS3):Addr->List (Str × D)->TS3:=fun C fs E σ G=>xcIn K C (.ref L::VM)=true /\
 if isX C L C2=true then ts E σ G else th C fs E σ G
def va7:Addr->List (Str × D)->TS3:=fun _ _ _ _ _=>False
def dTry (tb:XD->TS3) (th:Addr->List (Str × D)->TS3):TS3:=fun E σ G=>tb (fun C fs G'=>th C fs E σ G') E σ G
theorem wq6 {X:Cx}:H3 X [] va7:=fun _ _ _ _ _ _ _ _ _ _ _ _ _ _ _ _ _ h=>by
 obtain ⟨_,_,_,_,_,z,_⟩:=h;exact z.elim
section
variable {M:Model} {A:Around} {E:Value->Shared->Prop} {K:W.Frag} {C L C2 a:Addr} {bm:List Value} {o:Obj}
theorem vh4 {s:Shared} {Q:Bool->Shared->Prop} (X:K.In s.heap) (c2:xcIn K C2 bm=true) (hb:bm.contains (.type "BaseException")=true) (hc:xcIn K C (.ref L::VM)=true) (hx:s.heap.get? a=some o) (hcl:o.cls=.ref C) (q:Q (isX C L C2) s) :
  wpAny M A (excMatches (.ref a) (.ref C2)) Q E s:=by
 obtain ⟨⟨nm,q',N,bs,sn,sub,ab,col,dd,k0,k1,k2,k3,k5,hC2⟩,_⟩:=uq3 X c2;have hcB:(Value.ref C2::bm).contains (.type "BaseException")=true:=by rw [List.contains_cons,hb,Bool.or_true]
 have e1:(Value.ref C::.ref L::VM).contains (.ref C2)=isX C L C2:=by
  unfold isX VM;rw [Bool.eq_iff_iff,List.contains_iff_mem];simp
 obtain ⟨h,g,d,t,os⟩:=s;have T:=uf1 (M:=M) hx hcl;have S1:=v25 (M:=M) X hc (.ref C2);rw [e1] at S1;have S2:isSubtype (.type "type") (.type "tuple")=pure false:=PySem.F.notTuple_ValueError;unfold excMatches
 repeat (any_goals (first | assumption | with_reducible refine wpAny_loadPart_at hC2 ?_ | (with_reducible refine wpAny_isSubtype_exc hC2 ?_;rw [hcB]) | with_reducible refine W.Looks.at (by assumption) ?_ | wp_step))
 generalize isX C L C2=b at q ⊢;cases b <;> (wp_walk;exact q)
end
theorem RelSt.unset {K:W.Frag} {H:Hp} {σd:DSt} {σ:L2.St} (h:RelSt K H σd σ) (i:Nat):RelSt K H (σd.set i none) (σ.set i none):=by
 refine ⟨by rw [List.length_set,List.length_set];exact h.1,fun j d q=>?_⟩
 by_cases hj:i=j
 ·subst hj
  rw [List.getElem?_set] at q;simp at q
 ·rw [List.getElem?_set_ne hj] at q ⊢
  exact h.2 j d q
section
variable {X:Cx} {np pos:Pos} {c n:Str} {C2:Addr} {bm:List Value} {b₀:Stmt} {suite:List Stmt} {rest:List ExceptHandler} {ts:TS3} {th:Addr->List (Str × D)->TS3}
theorem vp5 {f:Value->Prop} {lim:Nat} {H:Hp} {a C:Addr} {dx:Option Addr} {h:Heap} (F:Fly f lim H a C dx h):∃ o vs,h.get? a=some o /\ o.cls=.ref C /\ o.dict=dx /\ o.data=.fields vs /\ lim<=a /\ H a=none:=by
 obtain ⟨oe,vs,T,oT,ts,v,o,_⟩:=F;exact ⟨oe,vs,o.ge,o.cl,o.di,o.da,o.la,o.ha⟩
theorem h_as {K:W.Frag} (L:Addr) (i:Nat) (hm:X.mg c=some (.ref C2)) (c2:xcIn K C2 bm=true) (hb:bm.contains (.type "BaseException")=true) (hN:X.N.Nodup) (hsu:∀ a,Ss3 (mkd X a) (b₀::suite) ts) (hr:H3 X rest th)
  (hi:X.N[i]?=some n:=by rfl) (hl:X.env.scope.names.lookup n=some .local:=by rfl) (hg:Gl X c:=by rfl) (hdb:(c == ("__debug__" : Str))=false:=by decide) (hn:∀ e s,¬ X.xe e s:=by exact fun _ _ z=>z) (Df:Def X:=by exact ⟨rfl,rfl,rfl,rfl⟩) (hK:X.K=K:=by rfl):H3 X (.ExceptHandler (some (.Name c np)) (some n) (b₀::suite) pos::rest) (wm2 K L C2 i ts th):=by
 subst hK;intro pins s σ H D a C dx ys fs lim I hlim hp F hx hf h;obtain ⟨σd,G,d,rs,cc,⟨hc,t⟩,f⟩:=h;obtain ⟨o,vs,g1,g2,g3,g4,la,ha⟩:=vp5 F;refine wpAny_handleBy_cons (codeAny_handlers_test ?_) (by intro q;cases q);refine wpAny_mono (ua3 (X:=mkd X a) (E:=fun _ _=>False) (Inv.mkd I) hg hm ?_ hdb) (fun _ _ z=>z) fun _ _ z=>z.elim
 refine wpAny_mono (vh4 (E:=fun _ _=>False) I.kIn c2 hb hc g1 g2 ?_) (fun _ _ z=>z) fun _ _ z=>z.elim
 by_cases hX:isX C L C2=true
 ·rw [if_pos hX] at t ⊢
  refine codeAny_handlers_suite_as ?_;refine u91 I Df.st Df.fr hlim hp F fun h2 I2 F2=>?_
  obtain ⟨o2,vs2,e1,e2,e3,e4,_,_⟩:=vp5 F2;obtain ⟨n1,n2,n3⟩:=I2.rec_ne e1 e4;have hpa:∀ p ∈ X.pn++pins,p.1 ≠ a:=fun p h e=>absurd (hp p h) (by rw [e];exact Nat.not_lt.mpr la)
  have I3:=I2.track (b:=a) (o:=.ext (XH a C dx)) ha (Nat.le_trans hlim la) hpa n1 n2 ⟨⟨o2,vs2,e1,e2,e3,e4⟩,⟨_,e1⟩,XH.stays⟩;have l3:Le H (upd H a (.ext (XH a C dx))):=Le.fresh ha;have c3:Con X.K (gup G a (.exc C fs)) (upd H a (.ext (XH a C dx))):=cc.put l3 ⟨dx,ys,u23,hx.le l3,hf.le l3⟩;refine wpAny_mono (ue1 (X:=mkd X a) (v:=.ref a) (E:=fun _ _=>False) (Inv.mkd (a:=a) I3) hN hi (.inl hl) rfl (fun s4 I4=>?_) (.inr hl)) (fun _ _ z=>z) fun _ _ z=>z.elim
  have low:lowS X.K ts { D with nx:=fun σ' H'=>D.nx (σ'.set i none) H',bk:=fun σ' H'=>D.bk (σ'.set i none) H',ct:=fun σ' H'=>D.ct (σ'.set i none) H' } (σ.set i (some (.ref a))) (upd H a (.ext (XH a C dx))) :=
   ⟨σd.set i (some (.ref a)),_,_,(rs.le l3).set i RelD.refI,c3,t a (cc.fresh ha),(fun x1 x2 x3 x4 r1 r2 r3 q=>f.nx _ _ _ _ (r1.unset i) r2 (l3.trans r3) q),f.rt.le l3,(fun x1 x2 x3 x4 r1 r2 r3 q=>f.bk _ _ _ _ (r1.unset i) r2 (l3.trans r3) q),fun x1 x2 x3 x4 r1 r2 r3 q=>f.ct _ _ _ _ (r1.unset i) r2 (l3.trans r3) q⟩
  refine wpAny_mono (hsu a pins s4 _ _ _ I4 low) (fun fl s5 q5=>?_) fun e s' z=>(hn e s' z).elim
  have q6:=SP.unmkd q5 I.ok;cases fl with
  | next=>obtain ⟨σ6,H6,I6,q6⟩:=q6;exact ub2 I6 hN hi hl fun s7 I7=>⟨_,H6,I7,q6⟩
  | brk=>obtain ⟨σ6,H6,I6,q6⟩:=q6;exact ub2 I6 hN hi hl fun s7 I7=>⟨_,H6,I7,q6⟩
  | cont=>obtain ⟨σ6,H6,I6,q6⟩:=q6;exact ub2 I6 hN hi hl fun s7 I7=>⟨_,H6,I7,q6⟩
  | ret u=>obtain ⟨v,σ6,H6,I6,r6,q6⟩:=q6;exact ub2 I6 hN hi hl fun s7 I7=>⟨v,_,H6,I7,r6,q6⟩
 ·rw [if_neg hX] at t
  rw [if_neg hX];exact hr pins s σ H D a C dx ys fs lim I hlim hp F hx hf ⟨σd,G,d,rs,cc,t,f⟩
theorem wo5 {h₀:ExceptHandler} {hs:List ExceptHandler} {body:List Stmt} {tb:XD->TS3} (pb:PB X body tb) (hh:H3 X (h₀::hs) th) (Df:Def X:=by exact ⟨rfl,rfl,rfl,rfl⟩):S3 X (.Try body (h₀::hs) [] [] pos) (dTry tb th):=by
 intro pins s σ H D I h;obtain ⟨σd,G,d,rs,cc,t,f⟩:=h;refine wpAny_Try_except (wpAny_mono (pb pins s σ H D (fun C fs G'=>th C fs d σd G') I ⟨σd,G,d,rs,cc,t,f⟩) (fun fl s1 q=>?_) fun e s1 hx=>?_)
 ·cases fl with
  | next=>exact wpAny_execs_nil q
  | ret v=>exact q
  | brk=>exact q
  | cont=>exact q
 ·obtain ⟨H1,s0,I1,l1,a,C,dx,H2,rfl,os,ba,un,hok,F,C',fs,ys,G2,z1,c2,x2,p2,q⟩:=hx
  cases z1;have I2:=I1.call' (ch:=[]) os un hok ba (fun b z=>nomatch z);have hp:∀ p ∈ X.pn++pins,p.1 < s0.heap.objs.size:=fun p h=>Heap.lt_size (I1.pin p h).1
  have l2:=l1.trans (wj4 un);refine ul7 I2 Df.st Df.fr I1.sz hp (.inr (F.imp fun v e=>.inl e)) fun h3 I3 F3=>u91 I3 Df.st Df.fr I1.sz hp F3 fun h4 I4 F4=>?_
  exact hh pins _ σ H2 D a _ dx ys fs _ I4 I1.sz hp F4 x2 p2 ⟨σd,G2,d,rs.le l2,c2,q,f.le l2⟩
end
end L3
namespace L2
open PySem PySem.Spec PyProof.Rows PySem.W
section
variable {prog:Program} {w:World} {A:Around} {E:Value->Shared->Prop} {K:Frag} {C C2 L x:Addr} {o:Obj} {vs:Array Value}
theorem uz6:specialIn K (.builtin "object.__class__") "__get__" = some (some (.builtin "getset_descriptor.__get__")):=by kernel_rfl
theorem va8:takesIn K (.builtin "object.__class__")=some true:=by kernel_rfl
theorem ux1 {od:Option Obj} {s:Shared} {Q:Option Value->Shared->Prop} (X:K.In s.heap) (hc:xcIn K C (.ref L::VM)=true) (hga:findIn K (.ref C) "__getattribute__" = some (some (.builtin "BaseException.__getattribute__"))) (hgt:findIn K (.ref C) "__getattr__" = some none)
  (hcc:findIn K (.ref C) "__class__" = some (some (.builtin "object.__class__"))) (I:InstAt s.heap x o C od) (hq:Q (some (.ref C)) { s with toks:=s.toks+1 }):wpAny (model prog w) A (getAttr? (.ref x) "__class__") Q E s:=by
 have GA:=PySem.F.attr_ValueError.ga;obtain ⟨cd,c1,c2,c3⟩:=ud1 hc;have hf:findObj K C od "__class__" = some (.bind (.builtin "getset_descriptor.__get__") (.builtin "object.__class__")):=by
  unfold findObj;rw [c1,Option.bind_some,hcc,Option.bind_some];dsimp only;rw [uz6,Option.bind_some];dsimp only;rw [va8,Option.bind_some]
 have hm:mroIn K C (.type "object")=some true:=by unfold mroIn;rw [c1,Option.bind_some,c2];rfl
 obtain ⟨h,g,d,t,os⟩:=s;have T:=I.type (M:=model prog w);have L1:=looks_findIn (M:=model prog w) X hga;have L2:=looks_findIn (M:=model prog w) X hgt;have L3:=looks_find (M:=model prog w) X I hf;have f3:=GA.bind (.ref x);have hx2:(Value.builtin "BaseException.__getattribute__" == Value.builtin "object.__getattribute__")=false:=by decide
 have hx1:(onTheHeap (Value.ref C) && Value.builtin "BaseException.__getattribute__" == Value.builtin "object.__getattribute__")=false:=by rw [hx2];rfl
 unfold getAttr? getAttrBy? getAttrBy
 repeat (any_goals (first | assumption | with_reducible refine Looks.at (by assumption) ?_ | wp_step))
 refine codeAny_call_builtin GA.plain PySem.F.entry_bexc_ga (ui6 X hc I.at_ I.cls ?_)
 show wpAny _ _ (Builtin.«object.__getattribute__» ⟨[.ref x,.str "__class__" t],[]⟩) _ _ _
 unfold Builtin.«object.__getattribute__»
 repeat (any_goals (first | assumption | with_reducible refine Looks.at (by assumption) ?_ | wp_step))
 refine class_get (s:=⟨h,g,d,t+1,os⟩) (ox:=o) (od:=od) X I hm ?_;refine wpAny_pure ?_;exact wpAny_pure (wpAny_pure hq)
def XcX (K:Frag) (C:Addr):Prop:=findIn K (.ref C) "__getattribute__" = some (some (.builtin "BaseException.__getattribute__")) /\ findIn K (.ref C) "__getattr__" = some none /\ findIn K (.ref C) "__class__" = some (some (.builtin "object.__class__"))
theorem ur9 {dx:Option Addr} (hc:xcIn K C (.ref L::VM)=true) (h2:XcX K C):KitX K (.ref x) (.ref C) (fun h=>XH x C dx h /\ ∀ d,dx=some d->∃ od,h.get? d=some od) where
 ty:=fun M h _ p=>by obtain ⟨⟨o,vs,e1,e2,_⟩,_⟩:=p;exact uf1 e1 e2
 it:=fun M h X _=>by
  obtain ⟨⟨nm,q',N,bs,sn,sub,ab,col,dd,k0,k1,k2,k3,k5,hC⟩,_⟩:=uq3 X hc;intro A' Q' E' s' k q;unfold isType loadHead;exact wpAny_bind (wpAny_loadPart (k _ _ hC) (wpAny_pure q))
 ne:=fun h tp dd its n sl X htp=>by
  obtain ⟨⟨nm,q',N,bs,sn,sub,ab,col,dd,k0,k1,k2,k3,k5,hC⟩,_⟩:=uq3 X hc;refine Bool.eq_false_iff.mpr fun q=>?_
  have e:C=tp:=Value.ref.inj (beq_iff_eq.mp q);subst e;have z:=congrArg (fun o:Option Obj=>o.map (·.cls)) (hC.symm.trans htp);exact absurd z (by simp)
 ca:=fun {_ _ _ _ _ s} X p k=>by
  obtain ⟨⟨o,vs,e1,e2,e3,e4⟩,p2⟩:=p;have nc:notCls o=true:=by unfold notCls;rw [e4]
  cases dx with
  | none=>exact ux1 (o:=o) (od:=none) X hc h2.1 h2.2.1 h2.2.2 ⟨e1,e2,nc,by rw [e3];trivial⟩ k
  | some d =>
   obtain ⟨od,p3⟩:=p2 d rfl;exact ux1 (o:=o) (od:=some od) X hc h2.1 h2.2.1 h2.2.2 ⟨e1,e2,nc,by rw [e3];exact p3⟩ k
theorem vp4 {bm:List Value} (hc:xcIn K C (.ref L::VM)=true) (c2:xcIn K C2 bm=true):kitOne K (.ref C) (.ref C2)=some (decide (C2=C \/ C2=L)):=by
 obtain ⟨cd,c1,c3,_⟩:=ud1 hc;obtain ⟨cd2,d1,d3,_⟩:=ud1 c2;have ty:typeIn K (.ref C2)=some (.type "type"):=by
  unfold xcIn at c2;split at c2
  ·rename_i dd cd' sl ho
   show (K.lookup C2).map (·.cls)=_
   rw [ho];rfl
  ·cases c2
 unfold kitOne
 by_cases e:C=C2
 ·subst e;rw [if_pos (by simp)];simp
 ·rw [if_neg (by simpa using e)]
  unfold kitCls;dsimp only;rw [d1,ty,if_pos (by rfl)]
  show mroIn K C (.ref C2)=_
  unfold mroIn;rw [c1,Option.bind_some,c3]
  show some ((Value.ref C::.ref L::VM).contains (.ref C2))=_
  congr 1
  rw [Bool.eq_iff_iff,List.contains_iff_mem];simp
theorem w16 (hc:xcIn K C (.ref L::VM)=true):kitOne K (.ref C) (.type "ValueError")=some true:=by
 obtain ⟨cd,c1,c3,_⟩:=ud1 hc;unfold kitOne;rw [if_neg (by simp)];unfold kitCls;dsimp only;rw [if_pos (show kitMeta "ValueError" = true by decide)]
 show mroIn K C (.type "ValueError")=_
 unfold mroIn;rw [c1,Option.bind_some,c3];rfl
theorem vj3:kitOne K (.type "NoneType") (.type "ValueError")=some false:=by kernel_rfl
theorem vj2 {bm:List Value} (c2:xcIn K C2 bm=true):kitOne K (.type "NoneType") (.ref C2)=some false:=by
 obtain ⟨cd2,d1,d3,_⟩:=ud1 c2;have ty:typeIn K (.ref C2)=some (.type "type"):=by
  unfold xcIn at c2;split at c2
  ·rename_i dd cd' sl ho
   show (K.lookup C2).map (·.cls)=_
   rw [ho];rfl
  ·cases c2
 unfold kitOne;rw [if_neg (by simp)];unfold kitCls;dsimp only;rw [d1,ty,if_pos (by rfl)];have m:fastBuiltinMro "NoneType" = some [.type "NoneType",.type "object"]:=by kernel_rfl
 show (fastBuiltinMro "NoneType").map (·.contains (.ref C2))=_
 rw [m];simp
theorem v78 (hc:xcIn K C (.ref L::VM)=true):∀ {cs:List Addr},(∀ c ∈ cs,∃ bm,xcIn K c bm=true)->kitAny K (.ref C) (cs.map Value.ref)=some (cs.any fun c=>decide (c=C \/ c=L))
 | [],_=>rfl
 | c::cs,h=>by
  obtain ⟨bm,e⟩:=h c List.mem_cons_self;rw [List.map_cons];unfold kitAny;rw [vp4 hc e,List.any_cons]
  by_cases z:c=C \/ c=L
  ·rw [decide_eq_true z];rfl
  ·rw [decide_eq_false z];exact v78 hc fun c' m=>h c' (List.mem_cons_of_mem _ m)
end
end L2
namespace L3
open PySem PySem.Spec PyProof.Rows L2
def ul6:List D->Option (List Addr)
 | []=>some []
 | .ref a::r=>(ul6 r).map (a::·)
 | _::_=>none
def xIsX (K:W.Frag) (L:Addr):C3:=fun ds G q=>match ds with
 | [.non,.ref C2]=>(∃ bm,xcIn K C2 bm=true) /\ q (.bl false) G
 | [.non,.ty "ValueError"]=>q (.bl false) G
 | [.ref a,.ref C2]=>(match G a with | some (.exc C _)=>xcIn K C (.ref L::VM)=true /\ XcX K C /\ (∃ bm,xcIn K C2 bm=true) /\ q (.bl (isX C L C2)) G | _=>False)
 | [.ref a,.ty "ValueError"]=>(match G a with | some (.exc C _)=>xcIn K C (.ref L::VM)=true /\ XcX K C /\ q (.bl true) G | _=>False)
 | [.ref a,.tup cs]=>(match G a,ul6 cs with | some (.exc C _),some l=>xcIn K C (.ref L::VM)=true /\ XcX K C /\ (∀ c ∈ l,∃ bm,xcIn K c bm=true) /\ q (.bl (l.any (isX C L))) G | _,_=>False)
 | _=>False
theorem uu5 {K:W.Frag} {H:Hp}:∀ {ds:List D} {xs:List V} {l:List Addr} {us:List Value},ul6 ds=some l->RelDs K H ds xs->Vals xs us->us=l.map Value.ref
 | [],xs,l,us,e,r,v=>by
  cases r.inv_nil;cases v;cases e;rfl
 | d::ds,xs,l,us,e,r,v=>by
  obtain ⟨x,t,rfl,r1,r2⟩:=r.inv_cons;cases v with
  | cons v1 v2 =>
   cases d with
   | ref a =>
    cases r1.ref_inv;cases v1;cases z:ul6 ds with
    | none=>simp [ul6,z] at e
    | some l' =>
     simp only [ul6,z,Option.map_some,Option.some.injEq] at e;subst e;rw [List.map_cons,uu5 z r2 v2]
   | _=>simp [ul6] at e
section
variable {X:Cx}
theorem vq6 {K:W.Frag} (L:Addr) (hK:X.K=K:=by rfl):Call3 X (.builtin "isinstance") (xIsX K L):=by
 subst hK;intro pins s σ H xs us Q I rv h;obtain ⟨ds,G,q,r,c,t,f⟩:=h;have fin:∀ b tk,q (.bl b) G->EP X pins σ Q (.bool b) { s with toks:=tk }:=fun b tk z=>⟨.bl b,H,I.tok tk,rfl,f (.bl b) G (.bl b) H (by rw [RelD]) c (Le.refl H) z⟩
 have exc:∀ {a C fs},G a=some (.exc C fs)->∃ dx,(XH a C dx s.heap /\ ∀ d,dx=some d->∃ od,s.heap.get? d=some od):=fun {a C fs} e=>by
  obtain ⟨dx,ys,h1,h2,_⟩:=c a _ e;refine ⟨dx,(I.hok a _ h1).1,fun d z=>?_⟩;subst z;obtain ⟨o,h2⟩:=h2;exact ⟨o,(I.hok d _ h2).1⟩
 unfold xIsX at t;split at t
 ·rename_i C2
  obtain ⟨⟨bm,e1⟩,t⟩:=t;obtain ⟨x1,r1,rfl,rx,r2⟩:=r.inv_cons;obtain ⟨x2,r3,rfl,ry,r4⟩:=r2.inv_cons;cases r4.inv_nil;rw [RelD] at rx;subst rx;cases ry.ref_inv;obtain ⟨u,v,rfl,ru,rw'⟩:=Vals.two rv;cases ru;cases rw';exact W.kia_one W.kitx_none I.kIn True.intro (vj2 e1) (fun z=>nomatch z) fun tk=>fin _ tk t
 ·obtain ⟨x1,r1,rfl,rx,r2⟩:=r.inv_cons
  obtain ⟨x2,r3,rfl,ry,r4⟩:=r2.inv_cons;cases r4.inv_nil;have rx:=(show x1=V.non by simpa only [RelD] using rx);have ry:=(show x2=V.ty "ValueError" by simpa only [RelD] using ry);subst rx;subst ry;obtain ⟨u,v,rfl,ru,rw'⟩:=Vals.two rv;cases ru;cases rw';exact W.kia_one W.kitx_none I.kIn True.intro vj3 (fun z=>nomatch z) fun tk=>fin _ tk t
 ·rename_i a C2
  obtain ⟨x1,r1,rfl,rx,r2⟩:=r.inv_cons;obtain ⟨x2,r3,rfl,ry,r4⟩:=r2.inv_cons;cases r4.inv_nil;cases rx.ref_inv;cases ry.ref_inv;obtain ⟨u,v,rfl,ru,rw'⟩:=Vals.two rv;cases ru;cases rw';split at t
  ·rename_i C fs e
   obtain ⟨t1,t2,⟨bm,e1⟩,t⟩:=t;obtain ⟨dx,p⟩:=exc e;exact W.kia_one (ur9 t1 t2) I.kIn p (vp4 t1 e1) (fun z=>nomatch z) fun tk=>fin _ tk t
  ·exact t.elim
 ·rename_i a
  obtain ⟨x1,r1,rfl,rx,r2⟩:=r.inv_cons;obtain ⟨x2,r3,rfl,ry,r4⟩:=r2.inv_cons;cases r4.inv_nil;cases rx.ref_inv;rw [RelD] at ry;subst ry;obtain ⟨u,v,rfl,ru,rw'⟩:=Vals.two rv;cases ru;cases rw';split at t
  ·rename_i C fs e
   obtain ⟨t1,t2,t⟩:=t;obtain ⟨dx,p⟩:=exc e;exact W.kia_one (ur9 t1 t2) I.kIn p (w16 t1) (fun z=>nomatch z) fun tk=>fin _ tk t
  ·exact t.elim
 ·rename_i a cs
  obtain ⟨x1,r1,rfl,rx,r2⟩:=r.inv_cons;obtain ⟨x2,r3,rfl,ry,r4⟩:=r2.inv_cons;cases r4.inv_nil;cases rx.ref_inv;obtain ⟨u,v,rfl,ru,rw'⟩:=Vals.two rv;cases ru;rw [RelD] at ry;obtain ⟨ta,ys,rfl,sq,ry⟩:=ry;cases rw';split at t
  ·rename_i C fs l e z
   obtain ⟨t1,t2,t3,t⟩:=t;obtain ⟨dx,p⟩:=exc e;obtain ⟨its,rvs,tp,_⟩:=I.tuple sq;obtain ⟨o,e1,e2,n,e3⟩:=tp;have ee:=uu5 z ry rvs;subst ee;obtain ⟨oc,od,oda,osl⟩:=o;dsimp only at e2 e3;subst e2;subst e3;exact W.kia_tup (ur9 t1 t2) I.kIn p e1 (v78 t1 t3) (fun z=>nomatch z) fun tk=>fin _ tk t
  ·exact t.elim
 ·exact t.elim
end
structure XL (K:W.Frag) (mg:Str->Option Value) (nm:Str) where
 C:Addr
 m:mg nm=some (.ref C)
 xc:xcIn K C VM=true
 b:XBase K C
structure XE (K:W.Frag) (mg:Str->Option Value) (L:Addr) (nm:Str) where
 C:Addr
 m:mg nm=some (.ref C)
 xc:xcIn K C (.ref L::VM)=true
 x:XcX K C
 ne:C ≠ L
def noX:XD:=fun _ _ _=>False
section
variable {X:Cx} {e:Expr} {es:List Expr} {p pos:Pos} {ts:TA3} {k:Nat} {S:Spx3} {x qual:Str} {st:Stmt} {ps:List Str} {C:Addr}
theorem up0 (hm:X.mg x=some (.ref C)) (hg:Gl X x:=by rfl) (hd:(x == ("__debug__" : Str))=false:=by decide):E3 X (.Name x pos) (dC (.ref C)):=uw0 hg hm (v:=.ref C) rfl (fun _=>RelD.refI) hd
theorem vz2:Passes (CX1 X.prog X.w) X (lowX X.K noX):=by
 rintro pins σ H s e s' I ⟨a,C,dx,H',_,_,_,_,_,_,C',fs,ys,G,_,_,_,_,z⟩;exact z.elim
theorem ecN (d:FnAt X.K x qual st ps) (hm:X.mg x=some (.ref d.a)) (G:FnOk X.prog X.w X.K X.mg X.base (CX1 X.prog X.w) k d.a d.fd ps (ug4 X.K S)) (hr:Room k X.A) (ha:A3 X (e::es) ts) (hg:Gl X x:=by rfl) (hdb:(x == ("__debug__" : Str))=false:=by decide)
  (he:starEach (e::es) X.env=(false,eval e X.env)::starEach es X.env:=by rfl) (hpl:(backTo pos (starEach es X.env)).any (·.1)=false:=by rfl):E3 X (.Call (.Name x p) (e::es) [] pos) (up2 S noX ts) :=
 u32 (ur4 G hr hg hm d.kp d.b .nil vz2 ha hdb he hpl) fun _ _ _=>uo5
end
theorem vj5 {C L:Addr}:isX C L C=true:=by unfold isX;simp
theorem vj6 {C L:Addr}:isX C L L=true:=by unfold isX;simp
theorem ua5 {C L C2:Addr} (h:C2 ≠ C) (h2:C2 ≠ L):isX C L C2=false:=by unfold isX;simp [h,h2]
theorem w21:(∀ K L C2 G q,xIsX K L [.non,.ref C2] G q=((∃ bm,xcIn K C2 bm=true) /\ q (.bl false) G)) /\ (∀ K L G q,xIsX K L [.non,.ty "ValueError"] G q=q (.bl false) G) /\
  (∀ K L a C2 G q,xIsX K L [.ref a,.ref C2] G q=(match G a with | some (.exc C _)=>xcIn K C (.ref L::VM)=true /\ XcX K C /\ (∃ bm,xcIn K C2 bm=true) /\ q (.bl (isX C L C2)) G | _=>False)) /\
  (∀ K L a G q,xIsX K L [.ref a,.ty "ValueError"] G q=(match G a with | some (.exc C _)=>xcIn K C (.ref L::VM)=true /\ XcX K C /\ q (.bl true) G | _=>False)) /\
  (∀ K L a cs G q,xIsX K L [.ref a,.tup cs] G q=(match G a,ul6 cs with | some (.exc C _),some l=>xcIn K C (.ref L::VM)=true /\ XcX K C /\ (∀ c ∈ l,∃ bm,xcIn K c bm=true) /\ q (.bl (l.any (isX C L))) G | _,_=>False)) :=
 ⟨fun _ _ _ _ _=>rfl,fun _ _ _ _=>rfl,fun _ _ _ _ _ _=>rfl,fun _ _ _ _ _=>rfl,fun _ _ _ _ _ _=>rfl⟩
theorem ue6 {S:Spx3} {ds:List D} {G:Gp} {r:XD} {q:DK} {post:D->Gp->Prop} (h:∀ R:DK,(∀ d G',post d G'->R d G')->S ds G R r) (k:∀ d G',post d G'->q d G'):∃ R,S ds G R r /\ ∀ d G',R d G'->q d G' :=
 ⟨post,h _ fun _ _ z=>z,k⟩
end L3
namespace L2
open PySem PySem.Spec PyProof.Rows
section
variable {X:Cx}
def vw9:V->List V->Hp->VK->Prop:=fun x vs H Q=>∃ (l:Addr) (xs:List V) (k:Nat) (y:V),x=.ref l /\ vs=[.int (k:Int),y] /\ H l=some (.lst xs) /\ k<=xs.length /\ xs.length < 1000000 /\ Q .non (upd H l (.lst (xs.take k++y::xs.drop k)))
theorem v60:MtM X "list.insert" vw9:=by
 intro pins s σ H x vs v us Q I rx rv h;obtain ⟨l,xs,k,y,rfl,rfl,hH,hk,hz,q⟩:=h;cases rx;obtain ⟨u,w,rfl,ru,rw'⟩:=rv.two;obtain ⟨t,rfl⟩:=ru;obtain ⟨z,its,n,r,hl,e⟩:=I.lstM hH;obtain ⟨ix,hix⟩:∃ ix:Int,ix=(k:Int):=⟨_,rfl⟩;rw [<- hix];have hf1:Builtin.List.listFitsIndex ix=true:=fitsIndex_both (by omega) (by omega);have hf:¬(!Builtin.List.listFitsIndex ix)=true:=by rw [hf1];decide
 have hz2:its.toArray.size<=sizeLine:=by rw [List.size_toArray,<- hl];exact z
 refine call_meets F.slot_list_insert ⟨_,e,rfl⟩ F.entry_list_insert (F.args_list_insert_3 (.ref l) (.int ix t) w) (AutoListH.list_insert_list_int_val_1 l its.toArray n ix t w hf hz2) ⟨e,?_⟩;refine ⟨.non,_,I.lset (its':=its.take k++w::its.drop k) hH e ?_ (Vals.append (r.take k) (.cons rw' (r.drop k))) ?_,rfl,q⟩
 ·have hlen:=r.length
  show ((its.toArray.extract 0 (if ix < 0 then _ else min ix.toNat its.toArray.size)).push w++its.toArray.extract (if ix < 0 then _ else min ix.toNat its.toArray.size))=_
  rw [if_neg (by omega),List.size_toArray,show min ix.toNat its.length=k by omega];apply Array.toList_inj.mp;simp;exact List.take_of_length_le (by rw [List.length_drop];exact Nat.le_refl _)
 ·rw [List.length_append,List.length_cons,List.length_take,List.length_drop,sizeLine_eq]
  omega
end
end L2
namespace L3
open PySem PySem.Spec PyProof.Rows L2
section
variable {X:Cx} {e o:Expr} {es:List Expr} {to:TE3} {ts:TA3} {apos cpos:Pos}
def ug0:M3:=fun x ds G q=>match x,ds with
 | .ref a,[.int k,d]=>(match G a with | some (.lst xs)=>0<=k /\ k<=(xs.length:Int) /\ xs.length < 1000000 /\ q .non (gup G a (.lst (xs.take k.toNat++d::xs.drop k.toNat))) | _=>False)
 | _,_=>False
theorem ub6 (ho:E3 X o to) (ha:A3 X (e::es) ts) (hbase:attributeBase o "insert" X.env (eval o X.env)=eval o X.env:=by rfl)
  (hfew:((backTo cpos (starEach (e::es) X.env)).all (fun x=>!x.1) && (backToKw cpos (keywordEach [] X.env)).all (fun x=>x.1.isSome)
   && decide ((e::es).length+([]:List Keyword).length+(if ([]:List Keyword).isEmpty then 0 else 1) < 30))=true:=by rfl)
  (hline:(apos.endLine == cpos.line)=true:=by rfl) (hs:starEach (e::es) X.env=(false,eval e X.env)::starEach es X.env:=by rfl) (hplain:(backTo cpos (starEach es X.env)).any (·.1)=false:=by rfl) :
  E3 X (.Call (.Attribute o "insert" apos) (e::es) [] cpos) (dBM "list" ug0 to ts) :=
 u32 (ur5 PySem.F.plainAttrs_list PySem.F.slot_list_insert PySem.F.type_list_insert (ud2 (r':=lowM X.K ug0) v60 <| by
  rintro x xs H Q ⟨d,ds,G,q,r1,r2,c,t,f⟩;unfold ug0 at t;split at t
  ·rename_i a k d'
   split at t
   ·rename_i ys ea
    cases r1.ref_inv;obtain ⟨v1,r3,rfl,rv1,r4⟩:=r2.inv_cons;obtain ⟨v,rfl,rv⟩:=r4.one;have e1:=rv1.int_inv;subst e1;obtain ⟨zs,h1,q1⟩:=c _ _ ea;obtain ⟨t1,t2,t3,t4⟩:=t;obtain ⟨kn,rfl⟩:∃ kn:Nat,k=(kn:Int):=⟨k.toNat,by omega⟩;rw [Int.toNat_natCast] at t4;have hln:=q1.length;exact ⟨a,zs,kn,v,rfl,rfl,h1,by omega,by omega,f _ _ _ _ RelD.nonI (c.lstSet h1 ((q1.take kn).append (.cons rv (q1.drop kn)))) (Le.lst h1) t4⟩
   ·exact t.elim
  ·exact t.elim) ho ha hbase hfew hline hs hplain) fun _ _ _=>ug3 (ty_list X.K)
end
section
variable {X:Cx} {e o:Expr} {es:List Expr} {to:TE3} {ts:TA3} {apos cpos:Pos}
@[reducible] def vz9:M3:=fun x ds G q=>∃ (a:Addr) (k:Nat) (xs:List D) (d:D),x=.ref a /\ ds=[.int (k:Int)] /\ G a=some (.lst xs) /\ xs[k]?=some d /\ xs.length<=100000 /\ q d (gup G a (.lst (xs.eraseIdx k)))
theorem un9 {K:W.Frag} {H:Hp}:∀ {ds:List D} {vs:List V} (k:Nat),RelDs K H ds vs->RelDs K H (ds.eraseIdx k) (vs.eraseIdx k)
 | [],vs,k,r=>by rw [r.inv_nil];exact .nil
 | d::ds,vs,k,r=>by
  obtain ⟨x,t,rfl,r1,r2⟩:=r.inv_cons;cases k with
  | zero=>exact r2
  | succ k=>exact .cons r1 (un9 k r2)
theorem va0 (ho:E3 X o to) (ha:A3 X (e::es) ts) (hbase:attributeBase o "pop" X.env (eval o X.env)=eval o X.env:=by rfl)
  (hfew:((backTo cpos (starEach (e::es) X.env)).all (fun x=>!x.1) && (backToKw cpos (keywordEach [] X.env)).all (fun x=>x.1.isSome)
   && decide ((e::es).length+([]:List Keyword).length+(if ([]:List Keyword).isEmpty then 0 else 1) < 30))=true:=by rfl)
  (hline:(apos.endLine == cpos.line)=true:=by rfl) (hs:starEach (e::es) X.env=(false,eval e X.env)::starEach es X.env:=by rfl) (hplain:(backTo cpos (starEach es X.env)).any (·.1)=false:=by rfl) :
  E3 X (.Call (.Attribute o "pop" apos) (e::es) [] cpos) (dBM "list" vz9 to ts) :=
 u32 (ur5 PySem.F.plainAttrs_list PySem.F.slot_list_pop PySem.F.type_list_pop (ud2 (r':=lowM X.K vz9) vh1 <| by
  rintro x xs H Q ⟨d,ds,G,q,r1,r2,c,⟨a,k,ys,d',rfl,rfl,ea,ek,hl,t⟩,f⟩;cases r1.ref_inv;obtain ⟨v,rfl,rv⟩:=r2.one;cases rv.int_inv;obtain ⟨zs,h1,q1⟩:=c _ _ ea;have hk:k < ys.length:=(List.getElem?_eq_some_iff.mp ek).1;have hln:=q1.length;have hz:zs[k]?=some zs[k]:=List.getElem?_eq_getElem (by omega);have hr:RelD X.K H d' zs[k]:=by
   obtain ⟨v,hv,rv⟩:=q1.get ek;rw [hz] at hv;cases hv;exact rv
  refine ⟨a,zs,(k:Int),k,zs[k],rfl,rfl,h1,by omega,by omega,?_,hz,f _ _ _ _ (RelD.le (Le.lst h1) hr) (c.lstSet h1 (un9 k q1)) (Le.lst h1) t⟩;exact (us3 (v82 (by omega))).1) ho ha hbase hfew hline hs hplain) fun _ _ _=>ug3 (ty_list X.K)
end
end L3
namespace Rw
open PySem PySem.Spec PyProof.Rows L2 L3
theorem ui3 {α:Type} {xs:List α} {n:Nat}:L3.cutD xs (some (n:Int)) none=xs.drop n:=by
 unfold L3.cutD;rw [HT.sIx_none,HT.sIx_nat]
 rcases Nat.le_total n xs.length with h | h
 ·rw [Nat.min_eq_left h]
  exact List.take_of_length_le (by rw [List.length_drop];exact Nat.le_refl _)
 ·rw [Nat.min_eq_right h,List.drop_eq_nil_of_le (Nat.le_refl _),List.drop_eq_nil_of_le h,List.take_nil]
end Rw
namespace Rw
theorem uo3 {α β:Type} (f:α->β):∀ (l:List α) (k:Nat),(l.map f).eraseIdx k=(l.eraseIdx k).map f
 | [],k=>by simp
 | x::l,0=>rfl
 | x::l,k+1=>by
  show f x::(l.map f).eraseIdx k=f x::(l.eraseIdx k).map f
  rw [uo3 f l k]
end Rw
namespace L2
open PySem PySem.Spec PyProof.Rows
def Its (x:Str):It:=⟨fun i _=>i < x.cps.size,fun i H v H'=>H'=H /\ ∃ c,x.cps[i]?=some c /\ v=.str ⟨#[c]⟩,fun i _=>x.cps.size<=i⟩
theorem v16 {P:Program} {w:World} {K:W.Frag} {tg:Expr} (it:Addr) (x:Str) (t:Tok):Turn P w K tg (Its x) [it] it (fun i h=>h.IsStrIter it "str_ascii_iterator" x t i) where
 mem:=by simp
 obj:=fun i h st b hb=>by
  have e:b=it:=by simpa using hb
  subst e;obtain ⟨o,e,c,d⟩:=st;exact ⟨o,e,fun v z=>by rw [d] at z;cases z⟩
 keep:=fun i h h' st k=>let ⟨o,e,r⟩:=st;⟨o,k it (by simp) o e,r⟩
 item:=by
  intro X hP hw hK hc i pins s σ H E I hf st hg;subst hP hw hK;obtain ⟨f0,f1,f2,f3,f4,f5⟩:=hf it (by simp);refine (Walks.strAscii (prog:=X.prog) (w:=X.w) (I.ok.hd hc) it x t).item i s _ _ hg st fun v h' tk hv st' kk=>?_
  obtain ⟨c,u,hc',rfl⟩:=hv;have I1:Inv X pins σ H { s with heap:=h',toks:=tk }:=I.turned (fun b o hb e=>kk b o (by simpa using hb) e) f0 f1 f3 f4 f5
  obtain ⟨o,e,cc,d⟩:=id st';exact ⟨_,rfl,v94 (s:={ s with heap:=h',toks:=tk }) e cc d (by decide) ⟨.str ⟨#[c]⟩,H,I1,⟨u,rfl⟩,⟨rfl,c,hc',rfl⟩,st',fun b hb=>(hf b hb).1⟩⟩
 done:=by
  intro X hP hw hK hc i pins s σ H E I hf st hg;subst hP hw hK;obtain ⟨f0,f1,f2,f3,f4,f5⟩:=hf it (by simp);have hg:x.cps.size<=i:=hg;exact wpAny_pyNext_ascii_end (I.ok.hd hc) st (by simpa using hg) fun h' eb=>⟨rfl,I.turned (t':=s.toks) (fun b o hb e=>eb b o hb e) f0 f1 f3 f4 f5⟩
 self:=fun _ _ _ _ _ st h=>wpAny_pyIter_striter_ascii st h
theorem v15 {P:Program} {w:World} {K:W.Frag} {tg:Expr} (it:Addr) (x:Str) (t:Tok):Turn P w K tg (Its x) [it] it (fun i h=>h.IsStrIter it "str_iterator" x t i) where
 mem:=by simp
 obj:=fun i h st b hb=>by
  have e:b=it:=by simpa using hb
  subst e;obtain ⟨o,e,c,d⟩:=st;exact ⟨o,e,fun v z=>by rw [d] at z;cases z⟩
 keep:=fun i h h' st k=>let ⟨o,e,r⟩:=st;⟨o,k it (by simp) o e,r⟩
 item:=by
  intro X hP hw hK hc i pins s σ H E I hf st hg;subst hP hw hK;obtain ⟨f0,f1,f2,f3,f4,f5⟩:=hf it (by simp);refine (Walks.strWide (prog:=X.prog) (w:=X.w) (I.ok.hd hc) it x t).item i s _ _ hg st fun v h' tk hv st' kk=>?_
  obtain ⟨c,u,hc',rfl⟩:=hv;have I1:Inv X pins σ H { s with heap:=h',toks:=tk }:=I.turned (fun b o hb e=>kk b o (by simpa using hb) e) f0 f1 f3 f4 f5
  obtain ⟨o,e,cc,d⟩:=id st';exact ⟨_,rfl,v94 (s:={ s with heap:=h',toks:=tk }) e cc d (by decide) ⟨.str ⟨#[c]⟩,H,I1,⟨u,rfl⟩,⟨rfl,c,hc',rfl⟩,st',fun b hb=>(hf b hb).1⟩⟩
 done:=by
  intro X hP hw hK hc i pins s σ H E I hf st hg;subst hP hw hK;obtain ⟨f0,f1,f2,f3,f4,f5⟩:=hf it (by simp);have hg:x.cps.size<=i:=hg;exact wpAny_pyNext_wide_end (I.ok.hd hc) st (by simpa using hg) fun h' eb=>⟨rfl,I.turned (t':=s.toks) (fun b o hb e=>eb b o hb e) f0 f1 f3 f4 f5⟩
 self:=fun _ _ _ _ _ st h=>wpAny_pyIter_striter_wide st h
section
variable {X:Cx} {tg:Expr}
def iStr (tl:TE):TI:=fun σ H R=>tl σ H fun v H1=>∃ x,v=.str x /\ R (Its x) H1
theorem wb8 {l:Expr} {tl:TE} (hl:PE X l tl):PI X tg l (iStr tl):=by
 intro pins s σ H R I h
 (refine thn (hl pins s σ H _ I h) ?_;rintro v s1 ⟨y,H1,I1,r1,q1⟩)
 obtain ⟨x,rfl,q⟩:=q1;obtain ⟨t,rfl⟩:=r1;have fp:∀ b ∈ [s1.heap.objs.size],FpOk X pins H1 b:=fun b hb=>by
  have e:b=s1.heap.objs.size:=by simpa using hb
  subst e;exact I1.fpOk (Nat.le_refl _) (I1.hok.fresh (Nat.le_refl _))
 cases ha:x.cps.all (· < 128)
 ·exact wpAny_pyIter_wide ha ⟨s1.heap.objs.size,[s1.heap.objs.size],_,_,H1,rfl,I1.kept (t':=s1.toks) fun b o e=>Heap.get?_push_of_some _ e,v15 _ x t,⟨_,Heap.get?_push_size _ rfl,rfl,rfl⟩,fp,q⟩
 ·exact wpAny_pyIter_ascii ha ⟨s1.heap.objs.size,[s1.heap.objs.size],_,_,H1,rfl,I1.kept (t':=s1.toks) fun b o e=>Heap.get?_push_of_some _ e,v16 _ x t,⟨_,Heap.get?_push_size _ rfl,rfl,rfl⟩,fp,q⟩
theorem v50:OpR X (compareOp .LtE) (fun x y H Q=>∃ i j,x=.str i /\ y=.str j /\ Q (.bl (!decide (j.cps.toList < i.cps.toList))) H):=by
 intro pins s σ H x y v u Q I rx ry h;obtain ⟨i,j,rfl,rfl,q⟩:=h;obtain ⟨t,rfl⟩:=rx;obtain ⟨t',rfl⟩:=ry;exact PySem.P.le_str (u22 I q rfl)
def partsOf (s t:Str):List Str:=Builtin.Str.partsBetween s (Builtin.Str.occurrences s t 0 s.length (s.length+1)) t.length
theorem ua9:∀ (ws:List Str) (n:Nat),Vals (ws.map V.str) (strsFrom n ws)
 | [],_=>.nil
 | w::ws,n=>.cons ⟨n,rfl⟩ (ua9 ws (n+1))
end
def ConT (K:W.Frag) (mg:Str->Option Value) (x:Str) (ws:List Str):Prop:=∃ (a:Addr) (o:Obj) (its:Array Value) (n:Nat),mg x=some (.ref a) /\ K.lookup a=some o /\ o.cls=.type "tuple" /\ o.data=.seq its n /\ its.size<=sizeLine /\ Vals (ws.map V.str) its.toList /\ o.dict=none
end L2
namespace L3
open PySem PySem.Spec PyProof.Rows L2
section
variable {X:Cx} {K:W.Frag} {H:Hp} {o e tg:Expr} {es:List Expr} {te to:TE3} {ts:TA3} {apos cpos pos:Pos} {x:Str}
@[reducible] def sgns (x:Str):List D:=x.cps.toList.map fun c=>.str ⟨#[c]⟩
theorem v85 {H0:Hp} {x:Str}:ItRel K H0 ⟨sgns x,fun _=>True⟩ (Its x) where
 go:=fun i G H l c _ hi=>by
  have hi:i < (sgns x).length:=hi
  show i < x.cps.size
  simpa [sgns] using hi
 stop:=fun i G H l c _ hi=>by
  have hi:(sgns x).length<=i:=hi
  show x.cps.size<=i
  simpa [sgns] using hi
 yld:=fun i G H v H' l c _ hi y=>by
  obtain ⟨rfl,n,hn,rfl⟩:=y;refine ⟨c,Le.refl _,.str ⟨#[n]⟩,?_,by rw [RelD]⟩
  show (sgns x)[i]?=_
  unfold sgns;rw [List.getElem?_map,Array.getElem?_toList,hn];rfl
def wStr (te:TE3):TI3:=fun σ G r=>te σ G fun d G1=>∃ x,d=.str x /\ r ⟨sgns x,fun _=>True⟩ G1
theorem v91 (h:E3 X e te):I3 X tg e (wStr te):=vd3 (wb8 h) fun σ H R hh=>by
 obtain ⟨σd,G,q,rs,c,t,f⟩:=hh;refine ⟨σd,G,_,rs,c,t,fun d G1 v H1 r1 c1 l1 t1=>?_⟩;obtain ⟨y,rfl,t2⟩:=t1;exact ⟨y,r1.str_inv,f _ _ _ _ v85 c1 l1 t2⟩
@[reducible] def xLeS:R3:=fun x y G q=>∃ i j:Str,x=.str i /\ y=.str j /\ q (.bl (!decide (j.cps.toList < i.cps.toList))) G
theorem vd0:Op3 X (compareOp .LtE) xLeS:=u57 v50 fun x y H Q ⟨d,e,G,q,r1,r2,c,⟨i,j,e1,e2,t⟩,f⟩=>by
 subst e1 e2;exact ⟨i,j,r1.str_inv,r2.str_inv,f _ _ _ _ RelD.blI c (Le.refl H) t⟩
@[reducible] def xInS:R3:=fun x y G q=>∃ (c:Nat) (j:Str),x=.str ⟨#[c]⟩ /\ y=.str j /\ q (.bl (decide (c ∈ j.cps.toList))) G
theorem w76:Op3 X (compareOp .In) xInS:=u57 v51 fun x y H Q ⟨d,e,G,q,r1,r2,c,⟨i,j,e1,e2,t⟩,f⟩=>by
 subst e1 e2;exact ⟨_,j,r1.str_inv,r2.str_inv,by rw [StrLaws.found_one];exact f _ _ _ _ RelD.blI c (Le.refl H) t⟩
theorem relS:∀ (ws:List Str),RelDs K H (ws.map .str) (ws.map V.str)
 | []=>.nil
 | w::ws=>.cons (by rw [RelD]) (relS ws)
theorem uw2 {s:Str} (h:∃ t,X.mg x=some (.str s t)) (hg:Gl X x:=by rfl) (hdb:(x == ("__debug__" : Str))=false:=by decide):E3 X (.Name x pos) (dC (.str s)):=by
 obtain ⟨t,h⟩:=h;exact uw0 hg h (v:=.str s) ⟨t,rfl⟩ (fun _=>by rw [RelD]) hdb
theorem uw1 {ws:List Str} (h:ConT X.K X.mg x ws) (hg:Gl X x:=by rfl) (hdb:(x == ("__debug__" : Str))=false:=by decide):E3 X (.Name x pos) (dC (.tup (ws.map .str))):=by
 obtain ⟨a,o,its,n,h1,h2,h3,h4,h5,h6,h7⟩:=h;exact uw0 hg h1 (v:=.ref a) rfl (fun H=>by rw [RelD];exact ⟨a,ws.map V.str,rfl,.inr ⟨o,its,n,h2,h3,h4,h5,h6,h7⟩,relS ws⟩) hdb
end
end L3
namespace L2
open PySem PySem.Spec PyProof.Rows
section
variable {X:Cx}
theorem vb3:CallR X (.type "int") (fun xs H Q=>∃ (x:Str) (n:Int),xs=[.str x] /\ intText? x=some n /\ x.length<=640 /\ Q (.int n) H):=by
 intro pins s σ H xs us Q I r h;obtain ⟨x,n,rfl,hn,hl,q⟩:=h;obtain ⟨u,rfl,rx⟩:=vals1 r;obtain ⟨t,rfl⟩:=rx;exact W.KIN.call_text hn hl ⟨.int n,H,I.tok _,⟨_,rfl⟩,q⟩
theorem up5:CallR X (.type "str") (fun xs H Q=>∃ i:Int,xs=[.int i] /\ i.natAbs.log2 < 1920 /\ Q (.str (Str.ofString (toString i))) H):=by
 intro pins s σ H xs us Q I r h;obtain ⟨i,rfl,hl,q⟩:=h;obtain ⟨u,rfl,rx⟩:=vals1 r;obtain ⟨t,rfl⟩:=rx;exact PySem.P.str_of_int hl ⟨.str _,H,I.tok _,⟨_,rfl⟩,q⟩
theorem vt0:SlR X (fun x lo hi H Q=>∃ y:Str,x=.str y /\ y.length<=sizeLine /\ Q (.str (Txt.slice y lo hi)) H):=by
 intro pins s σ H x v vl vu lo hi sl Q I rx hs pl pu h;obtain ⟨y,rfl,hy,q⟩:=h;obtain ⟨t,rfl⟩:=rx;refine ⟨"str",_,PySem.F.slot_str_getitem.lookup,typeIs_str _ _ _,?_⟩;obtain ⟨l,rfl,el⟩:∃ l:Option (Int × Tok),vl=partValue l /\ l.map (·.1)=lo:=by cases pl with
  | none=>exact ⟨none,rfl,rfl⟩
  | int i t=>exact ⟨some (i,t),rfl,rfl⟩
 obtain ⟨u,rfl,eu⟩:∃ l:Option (Int × Tok),vu=partValue l /\ l.map (·.1)=hi:=by cases pu with
  | none=>exact ⟨none,rfl,rfl⟩
  | int i t=>exact ⟨some (i,t),rfl,rfl⟩
 subst el;subst eu;refine wpAny_getItem_str_slice (l:=l) (u:=u) (st:=none) hs rfl ?_;refine post_val_or_str ⟨Nat.le_trans (Txt.slice_le y _ _) hy,fun t' k=>?_⟩;exact ⟨.str _,H,I.tok k,⟨t',rfl⟩,q⟩
theorem v59:MtR X "str.split" (fun x vs H Q=>∃ s t:Str,x=.str s /\ vs=[.str t] /\ (t.length == 0)=false /\ s.length<=sizeLine /\ (Txt.split s t).length<=sizeLine /\ ∀ p,H p=none->Q (.ref p) (upd H p (.lst ((Txt.split s t).map V.str)))):=by
 intro pins s σ H x vs v us Q I rx rv h;obtain ⟨y,z,rfl,rfl,h2,h4,h5,q⟩:=h;obtain ⟨t,rfl⟩:=rx;obtain ⟨u,rfl,ru⟩:=rv.one;obtain ⟨t',rfl⟩:=ru;have one:Txt.split y z=[y]->EP X pins σ Q (.ref s.heap.objs.size) { s with heap:=s.heap.push { cls:=.type "list",data:=.seq [Value.str y t].toArray } }:=fun e=>by
  rw [e] at q;refine ⟨.ref s.heap.objs.size,_,I.laid (a:=s.heap.objs.size) (o:=.lst [V.str y]) (t':=s.toks) (fun b ob q=>Heap.get?_push_of_some _ q) (Nat.le_refl _) ?_,rfl,q _ (I.hok.fresh (Nat.le_refl _))⟩;exact ⟨by show 1<=sizeLine;decide,_,0,.cons ⟨t,rfl⟩ .nil,Heap.get?_push_size _ rfl⟩
 cases h1:(decide (y.length < z.length) || decide (Builtin.Str.strKind y < Builtin.Str.strKind z)) with
 | true=>exact call_meets PySem.F.slot_str_split (typeIs_str _ _ _) PySem.F.entry_str_split (PySem.F.args_str_split_2 _ _) (meets_str_split_cannot_occur y z t t' h1) (one (if_pos h1))
 | false =>
  cases h3:(Builtin.Str.occurrences y z 0 y.length (y.length+1)).isEmpty with
  | true=>exact call_meets PySem.F.slot_str_split (typeIs_str _ _ _) PySem.F.entry_str_split (PySem.F.args_str_split_2 _ _) (meets_str_split_not_found y z t t' h1 h2 h3) (one ((if_neg (ne_true_of_eq_false h1)).trans (if_pos h3)))
  | false =>
   have e:Txt.split y z=partsOf y z:=(if_neg (ne_true_of_eq_false h1)).trans (if_neg (ne_true_of_eq_false h3));rw [e] at h5 q;refine call_meets PySem.F.slot_str_split (typeIs_str _ _ _) PySem.F.entry_str_split (PySem.F.args_str_split_2 _ _) (meets_str_split_sep y z t t' h1 h2 h3 h4 h5) ?_;refine ⟨.ref s.heap.objs.size,_,I.laid (a:=s.heap.objs.size) (o:=.lst ((partsOf y z).map V.str)) (fun b ob q=>Heap.get?_push_of_some _ q) (Nat.le_refl _) ?_,rfl,q _ (I.hok.fresh (Nat.le_refl _))⟩;exact ⟨by rw [List.length_map];exact h5,_,0,ua9 _ _,Heap.get?_push_size _ rfl⟩
end
end L2
namespace L3
open PySem PySem.Spec PyProof.Rows L2
section
variable {X:Cx} {K:W.Frag} {H:Hp} {o e tg:Expr} {es:List Expr} {te to:TE3} {ts:TA3} {apos cpos pos:Pos} {x:Str}
@[reducible] def vq8:C3:=fun ds G q=>∃ (x:Str) (n:Int),ds=[.str x] /\ intText? x=some n /\ x.length<=640 /\ q (.int n) G
theorem uk7:Call3 X (.type "int") vq8:=u37 vb3 <| by
 rintro xs H Q ⟨ds,G,q,r,c,⟨x,n,rfl,h1,h2,t⟩,f⟩;obtain ⟨v,rfl,r1⟩:=r.one;cases r1.str_inv;exact ⟨x,n,rfl,h1,h2,f _ _ _ _ RelD.intI c (Le.refl H) t⟩
@[reducible] def w79:C3:=fun ds G q=>∃ i:Int,ds=[.int i] /\ i.natAbs.log2 < 1920 /\ q (.str (Str.ofString (toString i))) G
theorem uk6:Call3 X (.type "str") w79:=u37 up5 <| by
 rintro xs H Q ⟨ds,G,q,r,c,⟨i,rfl,h1,t⟩,f⟩;obtain ⟨v,rfl,r1⟩:=r.one;cases r1.int_inv;exact ⟨i,rfl,h1,f _ _ _ _ (by rw [RelD]) c (Le.refl H) t⟩
@[reducible] def xSlX:RS3:=fun x lo hi G q=>∃ y:Str,x=.str y /\ y.length<=sizeLine /\ q (.str (Txt.slice y lo hi)) G
theorem vq4:SlR X (vi8 X.K xSlX):=vm4 vt0 <| by
 rintro x lo hi H Q ⟨d,G,q,r1,c,⟨y,rfl,hy,t⟩,f⟩;exact ⟨y,r1.str_inv,hy,f _ _ _ _ (by rw [RelD]) c (Le.refl H) t⟩
@[reducible] def um1:M3:=fun x ds G q=>∃ s t:Str,x=.str s /\ ds=[.str t] /\ (t.length == 0)=false /\ s.length<=sizeLine /\ (Txt.split s t).length<=sizeLine /\ ∀ p,G p=none->q (.ref p) (gup G p (.lst ((Txt.split s t).map .str)))
theorem u62 (ho:E3 X o to) (ha:A3 X (e::es) ts) (hbase:attributeBase o "split" X.env (eval o X.env)=eval o X.env:=by rfl)
  (hfew:((backTo cpos (starEach (e::es) X.env)).all (fun x=>!x.1) && (backToKw cpos (keywordEach [] X.env)).all (fun x=>x.1.isSome)
   && decide ((e::es).length+([]:List Keyword).length+(if ([]:List Keyword).isEmpty then 0 else 1) < 30))=true:=by rfl)
  (hline:(apos.endLine == cpos.line)=true:=by rfl) (hs:starEach (e::es) X.env=(false,eval e X.env)::starEach es X.env:=by rfl) (hplain:(backTo cpos (starEach es X.env)).any (·.1)=false:=by rfl) :
  E3 X (.Call (.Attribute o "split" apos) (e::es) [] cpos) (dBM "str" um1 to ts) :=
 u32 (ur5 PySem.F.plainAttrs_str PySem.F.slot_str_split PySem.F.type_str_split (ud2 (r':=lowM X.K um1) v59 <| by
  rintro x xs H Q ⟨d,ds,G,q,r1,r2,c,⟨s,t,rfl,rfl,h1,h2,h3,tt⟩,f⟩;obtain ⟨u,rfl,ru⟩:=r2.one;cases ru.str_inv;exact ⟨s,t,r1.str_inv,rfl,h1,h2,h3,fun p hp=>f _ _ _ _ RelD.refI (c.lstNew hp (relS _)) (Le.fresh hp) (tt p (c.fresh hp))⟩) ho ha hbase hfew hline hs hplain) fun _ _ _=>ug3 (ty_str _)
end
theorem str_len (x:Str):x.length=x.cps.toList.length:=by simp [Str.length]
theorem u66 (a b:Str):(a++b).cps.toList=a.cps.toList++b.cps.toList:=by
 show (a.cps++b.cps).toList=_
 rw [Array.toList_append]
theorem ua1 {a b:Str} (h:a.cps.toList=b.cps.toList):a=b:=Str.ext' (Array.toList_inj.mp h)
theorem u47 (c:Nat):∀ (w:Str) (v:Str) (r:List Str),(Str.join ⟨#[c]⟩ (w::v::r)).cps.toList=w.cps.toList++c::(Str.join ⟨#[c]⟩ (v::r)).cps.toList:=fun w v r=>by
 show ((w++(⟨#[c]⟩:Str))++Str.join ⟨#[c]⟩ (v::r)).cps.toList=_
 rw [u66,u66,List.append_assoc];rfl
theorem ux0 {c:Nat}:∀ {a a' r r':List Nat},c ∉ a->c ∉ a'->a++c::r=a'++c::r'->a=a' /\ r=r'
 | [],[],r,r',_,_,e=>by cases e;exact ⟨rfl,rfl⟩
 | [],x::a',r,r',_,h,e=>by
  have e:c::r=x::(a'++c::r'):=e;cases e;exact absurd List.mem_cons_self h
 | x::a,[],r,r',h,_,e=>by
  have e:x::(a++c::r)=c::r':=e;cases e;exact absurd List.mem_cons_self h
 | x::a,y::a',r,r',h,h',e=>by
  have e:x::(a++c::r)=y::(a'++c::r'):=e;injection e with e1 e2
  obtain ⟨z1,z2⟩:=ux0 (fun z=>h (List.mem_cons_of_mem _ z)) (fun z=>h' (List.mem_cons_of_mem _ z)) e2;exact ⟨by rw [e1,z1],z2⟩
theorem ug8 {c:Nat}:∀ {ws vs:List Str},ws ≠ []->vs ≠ []->(∀ w ∈ ws,c ∉ w.cps.toList)->(∀ w ∈ vs,c ∉ w.cps.toList)->Str.join ⟨#[c]⟩ ws=Str.join ⟨#[c]⟩ vs->ws=vs
 | [],_,h,_,_,_,_=>absurd rfl h
 | _,[],_,h,_,_,_=>absurd rfl h
 | [w],[v],_,_,_,_,e=>by
  have e:w=v:=e;rw [e]
 | [w],v::v'::r,_,_,h,_,e=>by
  have e1:=congrArg (fun x:Str=>x.cps.toList) e;rw [u47] at e1;have e1:w.cps.toList=v.cps.toList++c::(Str.join ⟨#[c]⟩ (v'::r)).cps.toList:=e1;exact absurd (by rw [e1];simp) (h w List.mem_cons_self)
 | w::w'::r,[v],_,_,_,h,e=>by
  have e1:=congrArg (fun x:Str=>x.cps.toList) e;rw [u47] at e1;have e1:w.cps.toList++c::(Str.join ⟨#[c]⟩ (w'::r)).cps.toList=v.cps.toList:=e1;exact absurd (by rw [<- e1];simp) (h v List.mem_cons_self)
 | w::w'::r,v::v'::r',_,_,h,h',e=>by
  have e1:=congrArg (fun x:Str=>x.cps.toList) e;rw [u47,u47] at e1;obtain ⟨z1,z2⟩:=ux0 (h w List.mem_cons_self) (h' v List.mem_cons_self) e1;rw [ua1 z1,ug8 (ws:=w'::r) (vs:=v'::r') (by simp) (by simp) (fun x hx=>h x (List.mem_cons_of_mem _ hx)) (fun x hx=>h' x (List.mem_cons_of_mem _ hx)) (ua1 z2)]
theorem ub0 (x y:Str):Txt.split x y ≠ []:=by
 unfold Txt.split;split
 ·simp
 ·split
  ·simp
  ·intro e
   have:=congrArg List.length e;rw [length_partsBetween] at this;simp at this
theorem blank:(" " : Str)=⟨#[32]⟩:=by decide
theorem ve2 {ws:List Str} (h0:ws ≠ []) (h:∀ w ∈ ws,32 ∉ w.cps.toList):Txt.split (jn " " ws) " " = ws:=by
 have e:jn " " ws=Str.join " " ws:=StrLaws.glued_eq_join _ _;refine ug8 (c:=32) (ub0 _ _) h0 ?_ h ?_
 ·rw [blank]
  exact StrLaws.split_free _ 32
 ·rw [<- blank,StrLaws.join_split,e]
end L3
namespace L3
open PySem PySem.Spec PyProof.Rows L2
theorem lenS {z:Str} {G:Gp} {q:DK}:xLen [.str z] G q=(z.length<=sizeLine /\ q (.int z.length) G):=rfl
theorem ixS {z:Str} {i:Int} {G:Gp} {q:DK}:xIx (.str z) (.int i) G q=(z.length<=sizeLine /\ (match atI z.cps.toList i with | some c=>q (.str ⟨#[c]⟩) G | none=>False)):=rfl
theorem addS {a b:Str} {G:Gp} {q:DK}:xAdd (.str a) (.str b) G q=(a.length+b.length<=sizeLine /\ q (.str (a++b)) G):=rfl
theorem at0 {α:Type} {c:α} {r:List α}:atI (c::r) 0=some c:=by
 unfold atI ixN;rw [if_pos (by decide),if_pos (by rw [List.length_cons];omega)];rfl
theorem one_eq {c d:Nat}:((⟨#[c]⟩:Str)=⟨#[d]⟩)=(c=d):=by
 apply propext
 constructor
 ·intro e
  have:=congrArg (fun x:Str=>x.cps.toList) e;simpa using this
 ·rintro rfl;rfl
theorem zero_mk:("0" : Str)=⟨#[48]⟩:=by decide
theorem figures {c:Nat} (h:48<=c /\ c<=57):decide (c ∈ ("0123456789" : Str).cps.toList)=true:=by
 have:c=48 \/ c=49 \/ c=50 \/ c=51 \/ c=52 \/ c=53 \/ c=54 \/ c=55 \/ c=56 \/ c=57:=by omega
 rcases this with e | e | e | e | e | e | e | e | e | e <;> subst e <;> decide
end L3
namespace L3
open PySem PySem.Spec PyProof.Rows L2 Rw
def WDS:List Str:=["wide", "boxes", "choose", "else", "end", "times"]
def ltr (x:Str):Bool:=x.cps.toList.all fun c=>decide (97<=c) && decide (c<=122)
def nmB (x:Str):Bool:=decide (1<=x.length) && decide (x.length<=8) && !decide (x ∈ WDS) && ltr x
theorem wq1 {x:Str} (h1:1<=x.length) (h2:x.length<=8) (h3:x ∉ WDS) (h4:ltr x=true):nmB x=true:=by
 unfold nmB;rw [decide_eq_true h1,decide_eq_true h2,decide_eq_false h3,h4];rfl
theorem nm_q {x:Str} (h:x ∈ WDS):nmB (x ++ "q")=true:=by
 have:∀ y ∈ WDS,nmB (y ++ "q")=true:=by decide
 exact this x h
theorem ur8 (a b:Str):ltr (a++b)=(ltr a && ltr b):=by
 unfold ltr;rw [u66,List.all_append]
theorem v67 {c:Nat} (h:97<=c /\ c<=122):ltr ⟨#[c]⟩=true:=by
 unfold ltr;simp [h.1,h.2]
theorem wi9:∀ ws:List Str,(∀ w ∈ ws,ltr w=true)->ltr (jn Str.empty ws)=true:=by
 intro ws h;have e:jn Str.empty ws=Str.join Str.empty ws:=StrLaws.glued_eq_join _ _;rw [e];clear e
 induction ws with
 | nil=>rfl
 | cons w ws ih =>
  cases ws with
  | nil=>exact h w List.mem_cons_self
  | cons v r =>
   show ltr (w++Str.empty++Str.join Str.empty (v::r))=true
   rw [ur8,ur8,h w List.mem_cons_self,ih fun x hx=>h x (List.mem_cons_of_mem _ hx)];rfl
theorem letters {c:Nat}:decide (c ∈ ("abcdefghijklmnopqrstuvwxyz" : Str).cps.toList)=(decide (97<=c) && decide (c<=122)):=by
 have e:("abcdefghijklmnopqrstuvwxyz" : Str).cps.toList=List.range' 97 26:=by decide
 rw [e,Bool.eq_iff_iff,Bool.and_eq_true,decide_eq_true_iff,decide_eq_true_iff,decide_eq_true_iff,List.mem_range'_1];omega
theorem uj2:∀ l:List Str,strsOf (l.map D.str)=some l
 | []=>rfl
 | w::l=>by show (strsOf (l.map D.str)).map (w::·)=_;rw [uj2 l];rfl
theorem ut6 {neg:Bool} {w:Str} {ws:List Str} {G:Gp} {q:DK} (k:q (.bl (if neg then !decide (w ∈ ws) else decide (w ∈ ws))) G):xInB neg (.str w) (.tup (ws.map .str)) G q:=by
 unfold xInB;simp only [uj2];exact k
theorem le_a {c:Nat}:(!decide (([c]:List Nat) < ("a" : Str).cps.toList))=decide (97<=c):=by
 rw [show ("a" : Str).cps.toList=[97] by decide,Bool.eq_iff_iff,Bool.not_eq_true',decide_eq_false_iff_not,decide_eq_true_iff];simp [List.cons_lt_cons_iff]
theorem le_z {c:Nat}:(!decide (("z" : Str).cps.toList < ([c]:List Nat)))=decide (c<=122):=by
 rw [show ("z" : Str).cps.toList=[122] by decide,Bool.eq_iff_iff,Bool.not_eq_true',decide_eq_false_iff_not,decide_eq_true_iff];simp [List.cons_lt_cons_iff]
theorem u74 {α:Type} {G:Gp} {p e:Addr} {xs:List α} {F:α->D} {Q:Bool->Prop} [DecidableEq α] (hF:∀ k,∃ s,snap G 3 (F k)=some s) (ko:u08 (G p)=some (xs.map F)) (ke:u08 (G e)=some []) (h:Q (decide (xs=[]))) :
  ∃ n sd se r,n<=40 /\ snap G n (.ref p)=some sd /\ snap G n (.ref e)=some se /\ eqN n sd se=some r /\ Q r:=by
 obtain ⟨ys,ey⟩:=ub4 (f:=snap G 3) (xs:=xs.map F) fun d hd=>by
  obtain ⟨k,_,rfl⟩:=List.mem_map.mp hd;exact hF k
 have hl:=um0 ey;rw [List.length_map] at hl;refine ⟨4,.lst ys,.lst [],decide (xs=[]),by decide,?_,?_,?_,h⟩
 ·show ((u08 (G p)).bind fun ds=>(ds.mapM (snap G 3)).map Sn.lst)=_
  rw [ko]
  show ((xs.map F).mapM (snap G 3)).map Sn.lst=_
  rw [ey];rfl
 ·show ((u08 (G e)).bind fun ds=>(ds.mapM (snap G 3)).map Sn.lst)=_
  rw [ke];rfl
 ·show (if ys.length=([]:List Sn).length then ((ys.zip []).mapM fun p=>eqN 3 p.1 p.2).map fun bs=>bs.all id else some false)=_
  cases xs with
  | nil =>
   have:ys=[]:=List.length_eq_zero_iff.mp (by rw [hl];rfl);subst this;rfl
  | cons x xs =>
   rw [if_neg (by rw [hl];simp)];rfl
end L3
namespace Rw
open PySem PySem.Spec PyProof.Rows L2 L3
def numI (k:Int):Str:=Str.ofString (toString k)
theorem u88 (k:Nat):(numI (k:Int)).cps.toList=(Nat.toDigits 10 k).map Char.toNat:=W.KIN.signs_num k
theorem uw3 {k c:Nat} (h:c ∈ (numI (k:Int)).cps.toList):48<=c /\ c<=57:=by
 rw [u88] at h;obtain ⟨d,hd,rfl⟩:=List.mem_map.mp h;have:=Nat.isDigit_of_mem_toDigits (by decide) (by decide) hd;unfold Char.isDigit at this;rw [Bool.and_eq_true,decide_eq_true_eq,decide_eq_true_eq,ge_iff_le,UInt32.le_iff_toNat_le,UInt32.le_iff_toNat_le] at this;exact this
theorem v93:∀ (n k:Nat),k<=n->1<=k->(Nat.toDigits 10 k).head? ≠ some '0'
 | 0,k,h,h1=>by omega
 | n+1,k,h,h1=>by
  by_cases hk:k < 10
  ·rw [Nat.toDigits_of_lt_base hk]
   have:∀ d:Nat,d < 10->1<=d->[Nat.digitChar d].head? ≠ some '0':=by decide
   exact this k hk h1
  ·rw [Nat.toDigits_of_base_le (by decide) (by omega),List.head?_append]
   have ih:=v93 n (k / 10) (by omega) (by omega);cases e:(Nat.toDigits 10 (k / 10)).head? with
   | none=>rw [List.head?_eq_none_iff] at e;exact absurd e Nat.toDigits_ne_nil
   | some c=>rw [e] at ih;exact ih
theorem ue2 (k:Nat):(numI (k:Int)).length=(Nat.toDigits 10 k).length:=by rw [str_len,u88,List.length_map]
theorem vz5 (k:Nat):1<=(numI (k:Int)).length:=by rw [ue2];exact Nat.length_toDigits_pos
theorem v55 {k m:Nat} (h:k<=m):(numI (k:Int)).length<=(numI (m:Int)).length:=by
 rw [ue2,ue2];rw [Nat.length_toDigits_le_iff (by decide) Nat.length_toDigits_pos];have:=(Nat.length_toDigits_le_iff (b:=10) (n:=m) (k:=(Nat.toDigits 10 m).length) (by decide) Nat.length_toDigits_pos).mp (Nat.le_refl _);omega
theorem w46:(numI 9999999999).length=10:=by decide
theorem v56 {k:Nat} (h:k<=9999999999):(numI (k:Int)).length<=10:=by
 have:=v55 h;rw [show ((9999999999:Nat):Int)=9999999999 from rfl,w46] at this;exact this
theorem uf9 (k:Nat):∃ c r,(numI (k:Int)).cps.toList=c::r /\ (c=48->(numI (k:Int)).length=1):=by
 by_cases h0:k=0
 ·subst h0
  exact ⟨48,[],by decide,fun _=>by decide⟩
 ·have h:=v93 k k (Nat.le_refl _) (by omega)
  rw [u88];cases e:Nat.toDigits 10 k with
  | nil=>exact absurd e Nat.toDigits_ne_nil
  | cons c r =>
   rw [e] at h;refine ⟨c.toNat,r.map Char.toNat,rfl,fun z=>absurd ?_ h⟩;have:c='0':=Char.ext (UInt32.toNat_inj.mp z);rw [this];rfl
theorem uu7 {k:Nat} (h:k<=9999999999):intText? (numI (k:Int))=some (k:Int):=by
 have e:(10:Int) ^ 10=10000000000:=by decide
 exact W.KIN.num_reads (by omega) (by rw [e];omega)
theorem logI {k:Int} (h0:0<=k) (h:k<=9999999999):k.natAbs.log2 < 1920:=by
 by_cases z:k.natAbs=0
 ·rw [z];decide
 ·exact Nat.lt_trans ((Nat.log2_lt z).mpr (show k.natAbs < 2 ^ 40 by omega)) (by decide)
def wd (x:Str):Prop:=x.length<=11 /\ ∀ c ∈ x.cps.toList,33<=c
theorem um9 {k:Nat} (h:k<=9999999999):wd (numI (k:Int)):=⟨by have:=v56 h;omega,fun c hc=>by have:=uw3 hc;omega⟩
theorem u95:(" " : Str)=⟨#[32]⟩:=by decide
theorem wq2:("\n":Str)=⟨#[10]⟩:=by decide
theorem uu2 {c:Nat} {sep:Str} (hs:sep=⟨#[c]⟩) {ws:List Str} (h0:ws ≠ []) (h:∀ w ∈ ws,c ∉ w.cps.toList):Txt.split (jn sep ws) sep=ws:=by
 have e:jn sep ws=Str.join sep ws:=StrLaws.glued_eq_join _ _;subst hs;refine ug8 (c:=c) (ub0 _ _) h0 (StrLaws.split_free _ c) h ?_;rw [StrLaws.join_split,e]
theorem v81 {c s:Nat}:∀ {ws:List Str},s ∈ (Str.join ⟨#[c]⟩ ws).cps.toList->s=c \/ ∃ w ∈ ws,s ∈ w.cps.toList
 | [],h=>by
  have:s ∈ ([]:List Nat):=h;cases this
 | [w],h=>.inr ⟨w,List.mem_singleton.mpr rfl,h⟩
 | w::v::r,h=>by
  rw [u47] at h
  rcases List.mem_append.mp h with h | h
  ·exact .inr ⟨w,List.mem_cons_self,h⟩
  rcases List.mem_cons.mp h with h | h
  ·exact .inl h
  rcases v81 (ws:=v::r) h with h | ⟨u,hu,h⟩
  ·exact .inl h
  ·exact .inr ⟨u,List.mem_cons_of_mem _ hu,h⟩
theorem ug9 {sep:Str} (hs:sep.length=1) (ws:List Str):(jn sep ws).length=(ws.map (·.length)).sum+(ws.length - 1):=by
 show (Builtin.Str.glued sep ws).length=_
 rw [size_glued sep ws,hs,Nat.mul_one]
theorem uq9 {B:Nat} {ws:List Str} (h:∀ w ∈ ws,w.length<=B):(ws.map (·.length)).sum<=B * ws.length:=by
 induction ws with
 | nil=>simp
 | cons w ws ih =>
  rw [List.map_cons,List.sum_cons,List.length_cons];have:=h w List.mem_cons_self;have:=ih fun x hx=>h x (List.mem_cons_of_mem _ hx)
  rw [Nat.mul_succ];omega
theorem uo9 {sep:Str} (hs:sep.length=1) (ws:List Str):∀ a:Nat,ws.foldl (·+·.length+sep.length) a=a+(ws.map (·.length)).sum+ws.length:=by
 induction ws with
 | nil=>intro a;simp
 | cons w ws ih =>
  intro a;rw [List.foldl_cons,ih,List.map_cons,List.sum_cons,List.length_cons,hs];omega
theorem ue3 {sep:Str} (hs:sep.length=1) {B N:Nat} {ws:List Str} (h:∀ w ∈ ws,w.length<=B) (hl:ws.length<=N) (hz:B * N+N<=4000000):Builtin.Str.tooLong ((ws.toArray).foldl (·+·.length+sep.length) 0)=false /\ (jn sep ws).length<=sizeLine:=by
 have s:=uq9 h;have z:(4000000:Nat)<=sizeLine:=by decide
 have m:B * ws.length<=B * N:=Nat.mul_le_mul_left _ hl;refine ⟨?_,?_⟩
 ·rw [List.foldl_toArray,uo9 hs]
  unfold Builtin.Str.tooLong;exact decide_eq_false (by omega)
 ·rw [ug9 hs];omega
theorem sp1:(" " : Str).length=1:=by decide
theorem nl1:("\n":Str).length=1:=by decide
theorem us0 {ws:List Str} (h:∀ x ∈ ws, wd x):10 ∉ (jn " " ws).cps.toList:=fun hh=>by
 have e:jn " " ws=Str.join " " ws:=StrLaws.glued_eq_join _ _;rw [e, u95] at hh
 rcases v81 hh with z | ⟨w, hw, z⟩
 ·omega
 ·have:=(h w hw).2 _ z;omega
theorem uv4 {ws:List Str} (h:∀ x ∈ ws, wd x) (hl:ws.length<=7):(jn " " ws).length<=90:=by
 rw [ug9 sp1];have:=uq9 (B:=11) fun w hw=>(h w hw).1
 omega
end Rw
namespace L3
open PySem PySem.Spec PyProof.Rows L2
section
variable {X:Cx}
theorem wn1 {w1 w2 w3 w4 w5 w6:Str} {k1 k2 k3 k4 k5 k6:Nat} {p1 p2 p3 p4 p5 p6:Pos} {es:List Expr} {ts:TA3} (hr:A3 X es ts) :
  A3 X (.Constant (.str w1) k1 p1::.Constant (.str w2) k2 p2::.Constant (.str w3) k3 p3::.Constant (.str w4) k4 p4::.Constant (.str w5) k5 p5::.Constant (.str w6) k6 p6::es) (u83 (dC (.str w1)) (u83 (dC (.str w2)) (u83 (dC (.str w3)) (u83 (dC (.str w4)) (u83 (dC (.str w5)) (u83 (dC (.str w6)) ts)))))) :=
 u00 u09 (u00 u09 (u00 u09 (u00 u09 (u00 u09 (u00 u09 hr rfl) rfl) rfl) rfl) rfl) rfl
@[irreducible] def A3' (X:Cx) (es:List Expr) (t:TA3):Prop:=A3 X es t
@[irreducible] def S3' (X:Cx) (st:Stmt) (t:TS3):Prop:=S3 X st t
@[irreducible] def Ss3' (X:Cx) (l:List Stmt) (t:TS3):Prop:=Ss3 X l t
theorem A3'.of {es:List Expr} {t:TA3} (h:A3 X es t):A3' X es t:=by unfold A3';exact h
theorem A3'.to {es:List Expr} {t:TA3} (h:A3' X es t):A3 X es t:=by unfold A3' at h;exact h
theorem S3'.of {st:Stmt} {t:TS3} (h:S3 X st t):S3' X st t:=by unfold S3';exact h
theorem S3'.to {st:Stmt} {t:TS3} (h:S3' X st t):S3 X st t:=by unfold S3' at h;exact h
theorem Ss3'.of {l:List Stmt} {t:TS3} (h:Ss3 X l t):Ss3' X l t:=by unfold Ss3';exact h
theorem Ss3'.to {l:List Stmt} {t:TS3} (h:Ss3' X l t):Ss3 X l t:=by unfold Ss3' at h;exact h
theorem u40 {st:Stmt} {sts:List Stmt} {s1 s2:TS3} (h1:S3' X st s1) (h2:Ss3' X sts s2):Ss3' X (st::sts) (dSeq s1 s2):=.of (u03 h1.to h2.to)
theorem ur0 {st:Stmt} {s1:TS3} (h:S3' X st s1):Ss3' X [st] s1:=.of (u06 h.to)
theorem ui8:A3' X [] dNil:=.of u02
theorem ua6 {w1 w2 w3 w4 w5 w6:Str} {k1 k2 k3 k4 k5 k6:Nat} {p1 p2 p3 p4 p5 p6:Pos} {es:List Expr} {ts:TA3} (hr:A3' X es ts) :
  A3' X (.Constant (.str w1) k1 p1::.Constant (.str w2) k2 p2::.Constant (.str w3) k3 p3::.Constant (.str w4) k4 p4::.Constant (.str w5) k5 p5::.Constant (.str w6) k6 p6::es) (u83 (dC (.str w1)) (u83 (dC (.str w2)) (u83 (dC (.str w3)) (u83 (dC (.str w4)) (u83 (dC (.str w5)) (u83 (dC (.str w6)) ts)))))):=.of (wn1 hr.to)
theorem uu3 (i:Nat) {x:Str} {es:List Expr} {ts:TA3} {pos pos' lpos:Pos} (hN:X.N.Nodup) (he:A3' X es ts) (hi:X.N[i]?=some x:=by rfl) (hx:Loc X.env.scope x:=by first | exact Or.inl rfl | exact Or.inr rfl) (hs:swapsWith (.List es lpos) (some (.Name x pos')) pos.line X.env=pure false:=by rfl)
  (hf:X.fn x=true \/ X.env.scope.names.lookup x=some .local:=by first | exact .inl rfl | exact .inr rfl | assumption):S3' X (.Assign [.Name x pos'] (.List es lpos) pos) (dAsg (dLst ts) (us2 i)):=.of (u12 i hN (u21 he.to) hi hx hs hf)
end
end L3
namespace L3
open PySem PySem.Spec PyProof.Rows L2
def tl (w:Str):Str:=Txt.slice w (some 1) none
theorem v63 {ws:List Str} {w:Str} (h:w ∈ ws):w.length<=(ws.map (·.length)).sum:=by
 induction ws with
 | nil=>cases h
 | cons v ws ih =>
  rw [List.map_cons,List.sum_cons]
  rcases List.mem_cons.mp h with e | h
  ·rw [e];omega
  ·have:=ih h;omega
theorem vk1 (c:Nat):decide (c ∈ ("0123456789" : Str).cps.toList)=decide (48<=c /\ c<=57):=by
 by_cases h:48<=c /\ c<=57
 ·rw [figures h,decide_eq_true h]
 ·rw [decide_eq_false h,decide_eq_false]
  intro m;have:(("0123456789" : Str).cps.toList.all fun c=>decide (48<=c /\ c<=57))=true:=by decide
  exact h (of_decide_eq_true (List.all_eq_true.mp this c m))
end L3
namespace Rw
open PySem PySem.Spec PyProof.Rows L2 L3
def dvl (cs:List Nat):Nat:=cs.foldl (fun v c=>10 * v+(c - 48)) 0
theorem vk0 (l:List Nat) (c:Nat):dvl (l++[c])=10 * dvl l+(c - 48):=by unfold dvl;rw [List.foldl_append];rfl
theorem va2:∀ (l:List Nat) (v:Nat),0 < v->0 < l.foldl (fun v c=>10 * v+(c - 48)) v
 | [],_,h=>h
 | c::l,v,h=>va2 l (10 * v+(c - 48)) (by omega)
theorem uw4:∀ d:Nat,d < 10->[Nat.digitChar d].map Char.toNat=[48+d]:=by decide
theorem uw5:∀ (n:Nat) (cs:List Nat),cs.length=n+1->(∀ c ∈ cs,48<=c /\ c<=57)->(cs.length=1 \/ cs.head? ≠ some 48)->(Nat.toDigits 10 (dvl cs)).map Char.toNat=cs
 | 0,cs,hn,hd,_=>by
  match cs,hn with
  | [c],_ =>
   have:=hd c List.mem_cons_self;have e:dvl [c]=c - 48:=by show 10 * 0+(c - 48)=_;omega
   rw [e,Nat.toDigits_of_lt_base (by omega),uw4 _ (by omega),show 48+(c - 48)=c by omega]
 | n+1,cs,hn,hd,h4=>by
  obtain ⟨l,c,rfl⟩:∃ l c,cs=l++[c]:=⟨cs.dropLast,cs.getLast (by intro z;rw [z] at hn;cases hn),(List.dropLast_concat_getLast _).symm⟩;rw [List.length_append,List.length_singleton] at hn;have hc:=hd c (by simp);have hl:l.length=n+1:=by omega
  have hh:l.head? ≠ some 48:=by
   rcases h4 with z | z
   ·rw [List.length_append,List.length_singleton] at z;omega
   ·cases l with
    | nil=>cases hl
    | cons a l=>exact z
  have ih:=uw5 n l hl (fun x hx=>hd x (List.mem_append_left _ hx)) (.inr hh);have hp:0 < dvl l:=by
   cases l with
   | nil=>cases hl
   | cons a l =>
    have ha:=hd a (by simp);refine va2 l (10 * 0+(a - 48)) ?_;have:a ≠ 48:=fun z=>hh (by rw [z];rfl)
    omega
  rw [vk0,<- Nat.toDigits_append_toDigits (by decide) hp (show c - 48 < 10 by omega),List.map_append,ih,Nat.toDigits_of_lt_base (by omega),uw4 _ (by omega),show 48+(c - 48)=c by omega]
def isK (m:Nat) (w:Str):Prop:=∃ k:Nat,k<=m /\ w=numI (k:Int)
theorem uh1 {m:Nat} {w:Str} (h:isK m w):1<=w.length /\ (∀ c ∈ w.cps.toList,48<=c /\ c<=57) /\ (w.length=1 \/ w.cps.toList.head? ≠ some 48):=by
 obtain ⟨k,_,rfl⟩:=h;obtain ⟨c,r,e,z⟩:=uf9 k;refine ⟨vz5 k,fun c hc=>uw3 hc,?_⟩
 by_cases h0:c=48
 ·exact .inl (z h0)
 ·exact .inr (by rw [e];intro y;cases y;exact h0 rfl)
theorem w33 {w:Str} (h1:1<=w.length) (h3:∀ c ∈ w.cps.toList,48<=c /\ c<=57) (h4:w.length=1 \/ w.cps.toList.head? ≠ some 48):w=numI ((dvl w.cps.toList:Nat):Int):=by
 rw [str_len] at h1 h4;apply ua1;rw [u88,uw5 (w.cps.toList.length - 1) _ (by omega) h3 h4]
theorem v86 {m:Nat} {w:Str} (h:isK m w):w.length<=(numI (m:Int)).length:=by
 obtain ⟨k,hk,rfl⟩:=h;exact v55 hk
theorem u87 {k j:Nat} (e:numI (k:Int)=numI (j:Int)):k=j:=by
 have h1:=u88 k;rw [e,u88 j] at h1;have h2:(Nat.toDigits 10 j)=(Nat.toDigits 10 k):=List.map_inj_right (fun a b z=>Char.ext (UInt32.toNat_inj.mp z)) |>.mp h1
 have:=congrArg (Nat.ofDigitChars 10 · 0) h2;simpa using this.symm
def isZ (ws:List Str):Prop:=∃ sz:Nat,sz<=9999999999 /\ ws=[("size" : Str),numI (sz:Int)]
open Classical in
open Classical in
theorem u69 {l:Str} {ws:List Str} (h:Txt.split l " " = ws):jn " " ws=l:=by
 rw [<- h,show jn " " (Txt.split l " ")=Str.join " " (Txt.split l " ") from StrLaws.glued_eq_join _ _,StrLaws.join_split]
theorem uc1 {c:Nat} {sep:Str} (hs:sep=⟨#[c]⟩) (t:Str):((Txt.split t sep).map (·.length)).sum+((Txt.split t sep).length - 1)=t.length:=by
 have h1:sep.length=1:=by rw [hs];rfl
 rw [<- ug9 h1,show jn sep (Txt.split t sep)=Str.join sep (Txt.split t sep) from StrLaws.glued_eq_join _ _,StrLaws.join_split]
theorem uf6 {c:Nat} {sep:Str} (hs:sep=⟨#[c]⟩) {t w:Str} (h:w ∈ Txt.split t sep):w.length<=t.length:=by have:=uc1 hs t;have:=v63 h;omega
theorem uc2 {c:Nat} {sep:Str} (hs:sep=⟨#[c]⟩) (t:Str):(Txt.split t sep).length<=t.length+1:=by have:=uc1 hs t;omega
end Rw
namespace Rw
open PySem PySem.Spec PyProof.Rows L2 L3
theorem wi6 {k:Nat} (h:(numI (k:Int)).length<=10):k<=9999999999:=by
 rw [ue2] at h;have:=(Nat.length_toDigits_le_iff (b:=10) (n:=k) (k:=10) (by decide) (by decide)).mp h;have e:(10:Nat) ^ 10=10000000000:=by decide
 omega
theorem isK_iff {m k:Nat}:isK m (numI (k:Int)) ↔ k<=m:=⟨fun ⟨j,hj,e⟩=>by rw [u87 e];exact hj,fun h=>⟨k,h,rfl⟩⟩
def NK (us:List Str) (ms ks:List Nat):Prop:=us=ks.map (fun k:Nat=>numI (k:Int)) /\ ks.length=ms.length /\ ∀ p ∈ ks.zip ms,p.1<=p.2
end Rw
namespace L2
open PySem PySem.Spec PyProof.Rows
open AutoSeq1 (wpAny_loadPart')
section
variable {X:Cx}
def wa7 (K:W.Frag):V->List V->Hp->VK->Prop:=fun x vs H Q=>∃ (sep:Str) (p:Addr) (ws:List Str),x=.str sep /\ vs=[.ref p] /\ SqT K H p (ws.map V.str) /\ Builtin.Str.tooLong ((ws.toArray).foldl (·+·.length+sep.length) 0)=false /\ (jn sep ws).length<=sizeLine /\ Q (.str (jn sep ws)) H
theorem vh2:MtR X "str.join" (wa7 X.K):=by
 intro pins s σ H x vs v us Q I rx rv h;obtain ⟨sep,p,ws,rfl,rfl,hq,hl,hz,q⟩:=h;obtain ⟨t,rfl⟩:=rx;obtain ⟨u,rfl,ru⟩:=rv.one;cases ru;obtain ⟨its,r',tp,_⟩:=I.tuple hq;obtain ⟨o,e1,e2,n,e3⟩:=tp;obtain ⟨l,rfl,e⟩:=uf0 r';refine call_meets F.slot_str_join (typeIs_str _ _ _) F.entry_str_join (F.args_str_join_2 _ _) (meets_str_join_tuple sep t p l (by rw [e];exact hl)) ⟨⟨o,n,e1,e2,e3⟩,?_⟩
 match l,e with
 | [],e =>
  subst e;exact ⟨hz,.str _,H,I.tok _,⟨_,rfl⟩,q⟩
 | [a],e =>
  subst e;exact ⟨.str _,H,I,⟨_,rfl⟩,q⟩
 | a::b::l,e =>
  subst e;exact ⟨hz,.str _,H,I.tok _,⟨_,rfl⟩,q⟩
theorem vb0:CallR X (.type "str") (fun xs H Q=>∃ x:Str,xs=[.str x] /\ Q (.str x) H):=by
 intro pins s σ H xs us Q I r h;obtain ⟨i,rfl,q⟩:=h;obtain ⟨u,rfl,rx⟩:=vals1 r;obtain ⟨t,rfl⟩:=rx;exact PySem.P.str_of_str ⟨.str _,H,I,⟨_,rfl⟩,q⟩
end
end L2
namespace L3
open PySem PySem.Spec PyProof.Rows L2
section
variable {X:Cx} {o e:Expr} {es:List Expr} {apos cpos:Pos} {to:TE3} {ts:TA3}
def wq3:M3:=fun x ds G q=>match x,ds with
 | .ref a,[.tup ys]=>(match G a with | some (.lst xs)=>xs.length+ys.length<=sizeLine /\ q .non (gup G a (.lst (xs++ys))) | _=>False)
 | _,_=>False
@[reducible] def vp0:M3:=fun x ds G q=>∃ (sep:Str) (ws:List Str),x=.str sep /\ ds=[.tup (ws.map .str)] /\ Builtin.Str.tooLong ((ws.toArray).foldl (·+·.length+sep.length) 0)=false /\ (jn sep ws).length<=sizeLine /\ q (.str (jn sep ws)) G
theorem w29 (ho:E3 X o to) (ha:A3 X (e::es) ts) (hbase:attributeBase o "join" X.env (eval o X.env)=eval o X.env:=by rfl)
  (hfew:((backTo cpos (starEach (e::es) X.env)).all (fun x=>!x.1) && (backToKw cpos (keywordEach [] X.env)).all (fun x=>x.1.isSome)
   && decide ((e::es).length+([]:List Keyword).length+(if ([]:List Keyword).isEmpty then 0 else 1) < 30))=true:=by rfl)
  (hline:(apos.endLine == cpos.line)=true:=by rfl) (hs:starEach (e::es) X.env=(false,eval e X.env)::starEach es X.env:=by rfl) (hplain:(backTo cpos (starEach es X.env)).any (·.1)=false:=by rfl) :
  E3 X (.Call (.Attribute o "join" apos) (e::es) [] cpos) (dBM "str" vp0 to ts) :=
 u32 (ur5 PySem.F.plainAttrs_str PySem.F.slot_str_join PySem.F.type_str_join (ud2 (r':=lowM X.K vp0) vh2 <| by
  rintro x xs H Q ⟨d,ds,G,q,r1,r2,c,⟨sep,ws,rfl,rfl,h1,h2,t⟩,f⟩;obtain ⟨v,rfl,r3⟩:=r2.one;rw [RelD] at r3;obtain ⟨a,ys,rfl,sq,q1⟩:=r3;cases r1.str_inv;obtain rfl:=ul5 q1;exact ⟨sep,a,ws,rfl,rfl,sq,h1,h2,f _ _ _ _ RelD.strI c (Le.refl H) t⟩) ho ha hbase hfew hline hs hplain) fun _ _ _=>ug3 (ty_str X.K)
def uk9:C3:=fun ds G q=>match ds with
 | [.str x]=>q (.str x) G
 | [.int i]=>i.natAbs.log2 < 1920 /\ q (.str (Str.ofString (toString i))) G
 | _=>False
theorem u46:Call3 X (.type "str") uk9:=by
 intro pins s σ H xs us Q I r h;obtain ⟨ds,G,q,rd,c,t,f⟩:=h;unfold uk9 at t;split at t
 ·obtain ⟨v,rfl,r1⟩:=rd.one
  rw [RelD] at r1;subst r1;exact vb0 pins s σ H _ us Q I r ⟨_,rfl,f _ _ _ _ (by rw [RelD]) c (Le.refl H) t⟩
 ·obtain ⟨v,rfl,r1⟩:=rd.one
  rw [RelD] at r1;subst r1;exact up5 pins s σ H _ us Q I r ⟨_,rfl,t.1,f _ _ _ _ (by rw [RelD]) c (Le.refl H) t.2⟩
 ·exact t.elim
end
end L3
namespace L3
open PySem PySem.Spec PyProof.Rows L2 Rw
def atS:Atm->Str
 | .num i=>numI (i:Int)
 | .box x=>x
def tA:Atm->Prop
 | .num i=>i<=65535
 | .box x=>nmB x=true
mutual
def tR:Rowp->Prop
 | .is x a=>nmB x=true /\ tA a
 | .op x o a b=>nmB x=true /\ o ∈ signs /\ tA a /\ tA b
 | .cho a ys ns=>tA a /\ tL ys /\ tL ns
 | .tim k ys=>k<=20 /\ tL ys
def tL:List Rowp->Prop
 | []=>True
 | r::rs=>tR r /\ tL rs
end
theorem w97:∀ {a b:List Rowp},tL (a++b) ↔ tL a /\ tL b
 | [],b=>by simp [tL]
 | r::a,b=>by
  show tR r /\ tL (a++b) ↔ (tR r /\ tL a) /\ tL b
  rw [w97,and_assoc]
theorem v22:∀ {rs:List Rowp} {r:Rowp},tL rs->r ∈ rs->tR r
 | s::rs,r,h,m=>by
  rcases List.mem_cons.mp m with e | e
  ·subst e;exact h.1
  ·exact v22 h.2 e
theorem ve1 {W:Nat} {bs:List Str} (hW:W<=16) (hb:∀ b ∈ bs,nmB b=true) {a:Atm} (h:okA W bs a):tA a:=by
 cases a with
 | num i =>
  have h:i < 2 ^ W:=h;have:=Nat.pow_le_pow_right (n:=2) (by decide) hW
  show i<=65535
  have h16:(2:Nat) ^ 16=65536:=by decide
  omega
 | box x=>exact hb x h
mutual
theorem wo3 {W:Nat} {bs:List Str} (hW:W<=16) (hb:∀ b ∈ bs,nmB b=true):∀ r:Rowp,okR W bs r->tR r
 | .is x a,h=>⟨hb x h.1,ve1 hW hb h.2⟩
 | .op x o a b,h=>⟨hb x h.1,h.2.1,ve1 hW hb h.2.2.1,ve1 hW hb h.2.2.2⟩
 | .cho a ys ns,h=>⟨ve1 hW hb h.1,v21 hW hb ys h.2.1,v21 hW hb ns h.2.2⟩
 | .tim k ys,h=>⟨h.1,v21 hW hb ys h.2⟩
theorem v21 {W:Nat} {bs:List Str} (hW:W<=16) (hb:∀ b ∈ bs,nmB b=true):∀ rs:List Rowp,okL W bs rs->tL rs
 | [],_=>trivial
 | r::rs,h=>⟨wo3 hW hb r h.1,v21 hW hb rs h.2⟩
end
inductive Ln
 | set (r:Rowp)
 | cho (a:Atm)
 | tim (k:Nat)
 | els
 | en
def wdL:Ln->List Str
 | .set (.is x a)=>[x, "=",atS a]
 | .set (.op x o a b)=>[x, "=",atS a,o,atS b]
 | .set _=>[]
 | .cho a=>["choose",atS a]
 | .tim k=>["times",numI (k:Int)]
 | .els=>["else"]
 | .en=>["end"]
def okLn:Ln->Prop
 | .set (.is x a)=>nmB x=true /\ tA a
 | .set (.op x o a b)=>nmB x=true /\ o ∈ signs /\ tA a /\ tA b
 | .set _=>False
 | .cho a=>tA a
 | .tim k=>k<=20
 | .els=>True
 | .en=>True
mutual
def tkR:Rowp->List Ln
 | .is x a=>[.set (.is x a)]
 | .op x o a b=>[.set (.op x o a b)]
 | .cho a ys ns=>.cho a::(tkL ys++(.els::(tkL ns++[.en])))
 | .tim k ys=>.tim k::(tkL ys++[.en])
def tkL:List Rowp->List Ln
 | []=>[]
 | r::rs=>tkR r++tkL rs
end
theorem ul2:∀ {a b:List Rowp},tkL (a++b)=tkL a++tkL b
 | [],b=>rfl
 | r::a,b=>by
  show tkR r++tkL (a++b)=(tkR r++tkL a)++tkL b
  rw [ul2,List.append_assoc]
mutual
theorem w91:∀ r:Rowp,tR r->∀ l ∈ tkR r,okLn l
 | .is x a,h,l,m=>by rw [List.mem_singleton.mp m];exact h
 | .op x o a b,h,l,m=>by rw [List.mem_singleton.mp m];exact h
 | .cho a ys ns,h,l,m=>by
  have m:l ∈ Ln.cho a::(tkL ys++(.els::(tkL ns++[.en]))):=m;simp only [List.mem_cons,List.mem_append,List.not_mem_nil,or_false] at m
  rcases m with e | m | e | m | e
  ·rw [e];exact h.1
  ·exact uf2 ys h.2.1 l m
  ·rw [e];trivial
  ·exact uf2 ns h.2.2 l m
  ·rw [e];trivial
 | .tim k ys,h,l,m=>by
  have m:l ∈ Ln.tim k::(tkL ys++[.en]):=m;simp only [List.mem_cons,List.mem_append,List.not_mem_nil,or_false] at m
  rcases m with e | m | e
  ·rw [e];exact h.1
  ·exact uf2 ys h.2 l m
  ·rw [e];trivial
theorem uf2:∀ rs:List Rowp,tL rs->∀ l ∈ tkL rs,okLn l
 | [],_,l,m=>nomatch m
 | r::rs,h,l,m=>by
  rcases List.mem_append.mp (show l ∈ tkR r++tkL rs from m) with m | m
  ·exact w91 r h.1 l m
  ·exact uf2 rs h.2 l m
end
mutual
theorem v19:∀ r:Rowp,(tkR r).length<=3 * szR r
 | .is _ _=>by show 1<=3 * 1;omega
 | .op _ _ _ _=>by show 1<=3 * 1;omega
 | .cho a ys ns=>by
  have h1:=u99 ys;have h2:=u99 ns
  show (Ln.cho a::(tkL ys++(.els::(tkL ns++[.en])))).length<=3 * (1+szL ys+szL ns)
  simp only [List.length_cons,List.length_append,List.length_nil];omega
 | .tim k ys=>by
  have h1:=u99 ys
  show (Ln.tim k::(tkL ys++[.en])).length<=3 * (1+szL ys)
  simp only [List.length_cons,List.length_append,List.length_nil];omega
theorem u99:∀ rs:List Rowp,(tkL rs).length<=3 * szL rs
 | []=>Nat.zero_le _
 | r::rs=>by
  have h1:=v19 r;have h2:=u99 rs
  show (tkR r++tkL rs).length<=3 * (szR r+szL rs)
  rw [List.length_append];omega
end
def lnT (l:Ln):Str:=jn " " (wdL l)
theorem ux7 {x:Str} (h:nmB x=true):wd x:=by
 unfold nmB at h;simp only [Bool.and_eq_true,decide_eq_true_eq] at h;refine ⟨by omega,fun c hc=>?_⟩;have:=List.all_eq_true.mp h.2 c hc;simp only [Bool.and_eq_true,decide_eq_true_eq] at this;omega
theorem ux8 {a:Atm} (h:tA a):wd (atS a):=by
 cases a with
 | num i=>exact um9 (Nat.le_trans (show i<=65535 from h) (by decide))
 | box x=>exact ux7 h
theorem vr5 {o:Str} (h:o ∈ signs):wd o:=by
 simp only [signs,List.mem_cons,List.not_mem_nil,or_false] at h
 rcases h with e | e | e | e | e | e | e <;> subst e <;> exact ⟨by decide,by decide⟩
theorem wd_lits:wd "choose" /\ wd "times" /\ wd "else" /\ wd "end" /\ wd "=" /\ wd "wide" /\ wd "boxes" := by
 refine ⟨⟨by decide,by decide⟩,⟨by decide,by decide⟩,⟨by decide,by decide⟩,⟨by decide,by decide⟩,⟨by decide,by decide⟩,⟨by decide,by decide⟩,⟨by decide,by decide⟩⟩
theorem ud3 {l:Ln} (h:okLn l):∀ x ∈ wdL l,wd x:=by
 obtain ⟨w1,w2,w3,w4,w5,_,_⟩:=wd_lits;intro x hx;cases l with
 | set r =>
  cases r with
  | is y a =>
   simp only [wdL,List.mem_cons,List.not_mem_nil,or_false] at hx
   rcases hx with e | e | e <;> subst e
   ·exact ux7 h.1
   ·exact w5
   ·exact ux8 h.2
  | op y o a b =>
   simp only [wdL,List.mem_cons,List.not_mem_nil,or_false] at hx
   rcases hx with e | e | e | e | e <;> subst e
   ·exact ux7 h.1
   ·exact w5
   ·exact ux8 h.2.2.1
   ·exact vr5 h.2.1
   ·exact ux8 h.2.2.2
  | cho a ys ns=>exact h.elim
  | tim k ys=>exact h.elim
 | cho a =>
  simp only [wdL,List.mem_cons,List.not_mem_nil,or_false] at hx
  rcases hx with e | e <;> subst e
  ·exact w1
  ·exact ux8 h
 | tim k =>
  simp only [wdL,List.mem_cons,List.not_mem_nil,or_false] at hx
  rcases hx with e | e <;> subst e
  ·exact w2
  ·exact um9 (Nat.le_trans (show k<=20 from h) (by decide))
 | els=>rw [List.mem_singleton.mp hx];exact w3
 | en=>rw [List.mem_singleton.mp hx];exact w4
theorem v14 {l:Ln} (h:okLn l):1<=(wdL l).length /\ (wdL l).length<=5:=by
 cases l with
 | set r =>
  cases r with
  | is y a=>exact ⟨by simp [wdL],by simp [wdL]⟩
  | op y o a b=>exact ⟨by simp [wdL],by simp [wdL]⟩
  | cho a ys ns=>exact h.elim
  | tim k ys=>exact h.elim
 | cho a=>exact ⟨by simp [wdL],by simp [wdL]⟩
 | tim k=>exact ⟨by simp [wdL],by simp [wdL]⟩
 | els=>exact ⟨by simp [wdL],by simp [wdL]⟩
 | en=>exact ⟨by simp [wdL],by simp [wdL]⟩
theorem w87 {l:Ln} (h:okLn l):wdL l ≠ []:=fun e=>by have:=(v14 h).1;rw [e] at this;exact absurd this (by decide)
theorem v27 {ws:List Str} (h0:ws ≠ []) (h:∀ x ∈ ws,wd x):Txt.split (jn " " ws) " " = ws:=uu2 u95 h0 fun w hw z=>by have:=(h w hw).2 _ z;omega
theorem ub5 {l:Ln} (h:okLn l):Txt.split (lnT l) " " = wdL l:=v27 (w87 h) (ud3 h)
theorem wj3 {l:Ln} (h:okLn l):10 ∉ (lnT l).cps.toList /\ (lnT l).length<=90:=⟨us0 (ud3 h),uv4 (ud3 h) (by have:=(v14 h).2;omega)⟩
inductive Fm
 | root (h:List D) (cu:List Rowp)
 | c1 (a:Atm) (cu:List Rowp)
 | c2 (a:Atm) (ys cu:List Rowp)
 | tm (k:Nat) (cu:List Rowp)
def Fm.puts:Fm->List Rowp->Fm
 | .root h c,r=>.root h (c++r)
 | .c1 a c,r=>.c1 a (c++r)
 | .c2 a y c,r=>.c2 a y (c++r)
 | .tm k c,r=>.tm k (c++r)
theorem v43 (f:Fm) (a b:List Rowp):(f.puts a).puts b=f.puts (a++b):=by cases f <;> simp [Fm.puts,List.append_assoc]
theorem vf4 (f:Fm):f.puts []=f:=by cases f <;> simp [Fm.puts]
def Fm.hd:Fm->List D
 | .root h _=>h
 | .c1 a _=>[.str "choose",aD a]
 | .c2 a _ _=>[.str "choose",aD a]
 | .tm k _=>[.str "times",.int (k:Int)]
def Fm.most:Fm->Nat
 | .root _ _=>1
 | .c1 _ _=>2
 | .c2 _ _ _=>2
 | .tm _ _=>1
def Fm.ol:Fm->List (List Rowp)
 | .c2 _ y _=>[y]
 | _=>[]
def Fm.cu:Fm->List Rowp
 | .root _ c=>c
 | .c1 _ c=>c
 | .c2 _ _ c=>c
 | .tm _ c=>c
def Fm.ws (f:Fm):List (List Rowp):=f.ol++[f.cu]
def stpL:Ln->List Fm->Option (List Fm)
 | .set r,f::S=>some (f.puts [r]::S)
 | .cho a,S=>some (.c1 a []::S)
 | .tim k,S=>some (.tm k []::S)
 | .els,.c1 a c::S=>some (.c2 a c []::S)
 | .en,.c2 a y c::f::S=>some (f.puts [.cho a y c]::S)
 | .en,.tm k c::f::S=>some (f.puts [.tim k c]::S)
 | _,_=>none
def rnL:List Ln->List Fm->Option (List Fm)
 | [],S=>some S
 | l::r,S=>(stpL l S).bind (rnL r)
mutual
theorem wa5:∀ (r:Rowp) (rest:List Ln) (f:Fm) (S:List Fm),rnL (tkR r++rest) (f::S)=rnL rest (f.puts [r]::S)
 | .is x a,rest,f,S=>rfl
 | .op x o a b,rest,f,S=>rfl
 | .cho a ys ns,rest,f,S=>by
  show rnL ((Ln.cho a::(tkL ys++(.els::(tkL ns++[.en]))))++rest) (f::S)=_
  rw [List.cons_append,List.append_assoc,List.cons_append,List.append_assoc]
  show rnL (tkL ys++(.els::(tkL ns++([.en]++rest)))) (.c1 a []::f::S)=_
  rw [uc5 ys]
  show rnL (tkL ns++([.en]++rest)) (.c2 a ([]++ys) []::f::S)=_
  rw [uc5 ns];rfl
 | .tim k ys,rest,f,S=>by
  show rnL ((Ln.tim k::(tkL ys++[.en]))++rest) (f::S)=_
  rw [List.cons_append,List.append_assoc]
  show rnL (tkL ys++([.en]++rest)) (.tm k []::f::S)=_
  rw [uc5 ys];rfl
theorem uc5:∀ (rs:List Rowp) (rest:List Ln) (f:Fm) (S:List Fm),rnL (tkL rs++rest) (f::S)=rnL rest (f.puts rs::S)
 | [],rest,f,S=>by rw [vf4];rfl
 | r::rs,rest,f,S=>by
  show rnL ((tkR r++tkL rs)++rest) (f::S)=_
  rw [List.append_assoc,wa5 r,uc5 rs,v43];rfl
end
def mF (f:Fm):Nat:=1+f.cu.length
def mS:List Fm->Nat
 | []=>0
 | f::S=>mF f+mS S
theorem ur7 (f:Fm) (r:Rowp):mF (f.puts [r])=mF f+1:=by cases f <;> simp [mF,Fm.puts,Fm.cu] <;> omega
theorem wa0 {l:Ln} {S S':List Fm} (h:stpL l S=some S'):mS S'<=mS S+1:=by
 unfold stpL at h;split at h
 ·cases h;simp only [mS,ur7];omega
 ·cases h;simp only [mS,mF,Fm.cu,List.length_nil];omega
 ·cases h;simp only [mS,mF,Fm.cu,List.length_nil];omega
 ·cases h;simp only [mS,mF,Fm.cu,List.length_nil];omega
 ·cases h;simp only [mS,ur7];omega
 ·cases h;simp only [mS,ur7];omega
 ·cases h
theorem v64:∀ S:List Fm,S.length<=mS S
 | []=>Nat.le_refl _
 | f::S=>by
  have:=v64 S
  show S.length+1<=(1+f.cu.length)+mS S
  omega
structure Fa where
 p:Addr
 wp:Addr
 os:List Addr
 w:Addr
def adr (a:Fa):List Addr:=a.p::a.wp::a.w::a.os
def WAt (G:Gp):List Addr->List (List Rowp)->Prop
 | [],ps=>ps=[]
 | a::as,ps=>∃ p t,ps=p::t /\ G a=some (.lst (u20 p)) /\ WAt G as t
theorem WAt.kp {G G':Gp}:∀ {as:List Addr} {ps:List (List Rowp)},(∀ a ∈ as,∀ o,G a=some o->G' a=some o)->WAt G as ps->WAt G' as ps
 | [],_,_,h=>h
 | a::_,_,g,⟨p,t,e,h,r⟩=>⟨p,t,e,g a List.mem_cons_self _ h,r.kp fun b hb=>g b (List.mem_cons_of_mem _ hb)⟩
theorem WAt.snoc {G:Gp} {a:Addr} {p:List Rowp} (h1:G a=some (.lst (u20 p))):∀ {as:List Addr} {ps:List (List Rowp)},WAt G as ps->WAt G (as++[a]) (ps++[p])
 | [],_,h=>by rw [show _=[] from h];exact ⟨p,[],rfl,h1,rfl⟩
 | _::_,_,⟨p',t,e,h,r⟩=>by rw [e];exact ⟨p',t++[p],rfl,h,r.snoc h1⟩
theorem WAt.len {G:Gp}:∀ {as:List Addr} {ps:List (List Rowp)},WAt G as ps->as.length=ps.length
 | [],_,h=>by rw [show _=[] from h];rfl
 | _::_,_,⟨p',t,e,h,r⟩=>by rw [e,List.length_cons,List.length_cons,r.len]
def bfl (h:List D) (m:Nat) (wp:Addr):List (Str × D):=[("head",.tup h),("most_ways",.int (m:Int)),("ways",.ref wp)]
def insD (C:Addr) (h:List D) (m:Nat) (wp:Addr):DO:=.ins C (bfl h m wp)
structure FAt (C:Addr) (G:Gp) (f:Fm) (a:Fa):Prop where
 i:G a.p=some (insD C f.hd f.most a.wp)
 wl:G a.wp=some (.lst ((a.os++[a.w]).map .ref))
 o:WAt G a.os f.ol
 c:G a.w=some (.lst (u20 f.cu))
theorem FAt.kp {C:Addr} {G G':Gp} {f:Fm} {a:Fa} (h:FAt C G f a) (k:∀ b ∈ adr a,∀ o,G b=some o->G' b=some o):FAt C G' f a :=
 ⟨k _ (by simp [adr]) _ h.i,k _ (by simp [adr]) _ h.wl,h.o.kp fun b hb=>k b (by simp [adr,hb]),k _ (by simp [adr]) _ h.c⟩
def SAt (C:Addr) (G:Gp):List Fm->List Fa->Prop
 | [],as=>as=[]
 | f::S,as=>∃ a t,as=a::t /\ FAt C G f a /\ SAt C G S t
theorem SAt.kp {C:Addr} {G G':Gp}:∀ {S:List Fm} {as:List Fa},SAt C G S as->(∀ b ∈ as.flatMap adr,∀ o,G b=some o->G' b=some o)->SAt C G' S as
 | [],_,h,_=>h
 | f::S,_,⟨a,t,e,h,r⟩,k=>by
  subst e;exact ⟨a,t,rfl,h.kp fun b hb=>k b (by simp [List.flatMap_cons,hb]),r.kp fun b hb=>k b (by rw [List.flatMap_cons];exact List.mem_append_right _ hb)⟩
theorem WAt.some {G:Gp}:∀ {as:List Addr} {ps:List (List Rowp)},WAt G as ps->∀ b ∈ as,∃ o,G b=some o
 | [],_,_,b,hb=>nomatch hb
 | a::as,_,⟨p,t,e,h,r⟩,b,hb=>by
  rcases List.mem_cons.mp hb with z | z
  ·rw [z];exact ⟨_,h⟩
  ·exact r.some b z
theorem SAt.some {C:Addr} {G:Gp}:∀ {S:List Fm} {as:List Fa},SAt C G S as->∀ b ∈ as.flatMap adr,∃ o,G b=some o
 | [],_,h,b,hb=>by rw [show _=[] from h] at hb;exact nomatch hb
 | f::S,_,⟨a,t,e,A,r⟩,b,hb=>by
  subst e;rw [List.flatMap_cons] at hb
  rcases List.mem_append.mp hb with z | z
  ·simp only [adr,List.mem_cons] at z
   rcases z with z | z | z | z
   ·rw [z];exact ⟨_,A.i⟩
   ·rw [z];exact ⟨_,A.wl⟩
   ·rw [z];exact ⟨_,A.c⟩
   ·exact A.o.some b z
  ·exact r.some b z
structure Stk (C:Addr) (G0 G:Gp) (bp:Addr) (S:List Fm) (as:List Fa):Prop where
 g:Grow G0 G
 b:G bp=some (.lst ((as.map fun a=>D.ref a.p).reverse))
 s:SAt C G S as
 nd:(bp::as.flatMap adr).Nodup
 fr:∀ b ∈ bp::as.flatMap adr,G0 b=none
theorem bsn:(("most_ways" : Str) == "head")=false /\ (("ways" : Str) == "head")=false /\ (("ways" : Str) == "most_ways")=false /\ (("is_full" : Str) == "head")=false /\ (("is_full" : Str) == "most_ways")=false /\ (("is_full" : Str) == "ways")=false /\
  (("take_in" : Str) == "head")=false /\ (("take_in" : Str) == "most_ways")=false /\ (("take_in" : Str) == "ways")=false /\ (("whole" : Str) == "head")=false /\ (("whole" : Str) == "most_ways")=false /\ (("whole" : Str) == "ways")=false:=by decide
theorem u84 {h:List D} {m:Nat} {wp:Addr}:List.lookup ("head" : Str) (bfl h m wp)=some (.tup h) /\ List.lookup ("most_ways" : Str) (bfl h m wp)=some (.int (m:Int)) /\ List.lookup ("ways" : Str) (bfl h m wp)=some (.ref wp) /\
  List.lookup ("is_full" : Str) (bfl h m wp)=none /\ List.lookup ("take_in" : Str) (bfl h m wp)=none /\ List.lookup ("whole" : Str) (bfl h m wp)=none:=by
 refine ⟨?_,?_,?_,?_,?_,?_⟩ <;> simp only [bfl,bsn,beq_self_eq_true,List.lookup_cons,List.lookup_nil]
theorem w99 {S S':List Fm} (h:stpL .en S=some S'):∃ f r f2 S2,S=f::f2::S2 /\ S'=f2.puts [r]::S2 /\ f.hd ≠ [] /\ f.hd.length<=5 /\ f.ws.length=f.most /\ D.tup (f.hd++f.ws.map fun w=>.tup (u20 w))=rowD r:=by
 cases S with
 | nil=>cases h
 | cons f S =>
  cases f with
  | c1 a c=>cases S <;> cases h
  | root a c=>cases S <;> cases h
  | c2 a y c =>
   cases S with
   | nil=>cases h
   | cons f2 S2=>cases h;exact ⟨_,.cho a y c,f2,S2,rfl,rfl,by simp [Fm.hd],by simp [Fm.hd],rfl,rfl⟩
  | tm k c =>
   cases S with
   | nil=>cases h
   | cons f2 S2=>cases h;exact ⟨_,.tim k c,f2,S2,rfl,rfl,by simp [Fm.hd],by simp [Fm.hd],rfl,rfl⟩
end L3
namespace Rw
open PySem L2 L3
theorem uj4 {G:Gp}:∀ ks:List Str,(ks.map D.str).mapM (snap G 0)=some (ks.map Sn.str)
 | []=>rfl
 | k::ks=>by
  rw [List.map_cons,List.mapM_cons,uj4 ks];rfl
theorem un3 {G:Gp} {a:Addr} {ks:List Str} (h:u08 (G a)=some (ks.map .str)):snap G 1 (.ref a)=some (.lst (ks.map .str)):=by
 show ((u08 (G a)).bind fun ds=>(ds.mapM (snap G 0)).map Sn.lst)=_
 rw [h,Option.bind_some,uj4];rfl
theorem v97:∀ ks ms:List Str,ks.length=ms.length->∃ bs,(((ks.map Sn.str).zip (ms.map Sn.str)).mapM fun p=>eqN 0 p.1 p.2)=some bs /\ bs.all id=decide (ks=ms)
 | [],[],_=>⟨[],rfl,rfl⟩
 | [],_::_,h=>by simp at h
 | _::_,[],h=>by simp at h
 | k::ks,m::ms,h=>by
  obtain ⟨bs,e,q⟩:=v97 ks ms (by simpa using h);refine ⟨(k == m)::bs,?_,?_⟩
  ·rw [List.map_cons,List.map_cons,List.zip_cons_cons,List.mapM_cons,e]
   rfl
  ·rw [List.all_cons,q]
   by_cases hk:k=m
   ·subst hk;simp
   ·simp [hk]
theorem w27 {ks ms:List Str}:eqN 1 (.lst (ks.map .str)) (.lst (ms.map .str))=some (decide (ks=ms)):=by
 show (if (ks.map Sn.str).length=(ms.map Sn.str).length then (((ks.map Sn.str).zip (ms.map Sn.str)).mapM fun p=>eqN 0 p.1 p.2).map (fun bs=>bs.all id) else some false)=_
 by_cases h:ks.length=ms.length
 ·rw [if_pos (by simpa using h)]
  obtain ⟨bs,e,q⟩:=v97 ks ms h;rw [e,Option.map_some,q]
 ·rw [if_neg (by simpa using h)]
  have:ks ≠ ms:=fun e=>h (by rw [e])
  simp [this]
theorem ue5 {G:Gp} {a b:Addr} {ks ms:List Str} {Q:Bool->Prop} (h1:u08 (G a)=some (ks.map .str)) (h2:u08 (G b)=some (ms.map .str)) (h:Q (decide (ks=ms))) :
  ∃ n sd se r,n<=40 /\ snap G n (.ref a)=some sd /\ snap G n (.ref b)=some se /\ eqN n sd se=some r /\ Q r :=
 ⟨1,_,_,_,by decide,un3 h1,un3 h2,w27,h⟩
end Rw
namespace L3
open PySem PySem.Spec PyProof.Rows L2 Rw
theorem w53 {a:Atm} {P Q:Prop} (h:Q):(match aD a with | .non=>P | _=>Q):=by cases a <;> exact h
theorem Stk.new {C:Addr} {G0 G:Gp} {bp p:Addr} {S:List Fm} {as:List Fa} {o:DO} (h:Stk C G0 G bp S as) (hp:G p=none):Stk C G0 (gup G p o) bp S as :=
 ⟨h.g.new hp,by rw [u07 (gne h.b hp)];exact h.b,h.s.kp fun b hb o' e=>by rw [u07 (gne e hp)];exact e,h.nd,h.fr⟩
theorem Stk.grow {C:Addr} {G0 G G':Gp} {bp:Addr} {S:List Fm} {as:List Fa} (h:Stk C G0 G bp S as) (g:Grow G G'):Stk C G0 G' bp S as :=
 ⟨h.g.trans g,g.kp _ _ h.b,h.s.kp fun b hb o' e=>g.kp _ _ e,h.nd,h.fr⟩
theorem Stk.len {C:Addr} {G:Gp}:∀ {S:List Fm} {as:List Fa},SAt C G S as->as.length=S.length
 | [],_,h=>by rw [show _=[] from h];rfl
 | _::_,_,⟨a,t,e,_,r⟩=>by rw [e,List.length_cons,List.length_cons,Stk.len r]
theorem Stk.put {C:Addr} {G0 G:Gp} {bp:Addr} {f:Fm} {S:List Fm} {a:Fa} {t:List Fa} {r:Rowp} (h:Stk C G0 G bp (f::S) (a::t)):Stk C G0 (gup G a.w (.lst (u20 (f.cu++[r])))) bp (f.puts [r]::S) (a::t):=by
 obtain ⟨a',t',e,A,rest⟩:=h.s;cases e;have nd:=h.nd;simp only [List.flatMap_cons,adr,List.cons_append,List.nodup_cons,List.mem_cons,List.mem_append,not_or] at nd;obtain ⟨⟨b1,b2,b3,b4,b5⟩,⟨p1,p2,p3,p4⟩,⟨q1,q2,q3⟩,⟨r1,r2⟩,_⟩:=nd;have fw:G0 a.w=none:=h.fr _ (by simp [List.flatMap_cons,adr]);have hcu:(f.puts [r]).cu=f.cu++[r] /\ (f.puts [r]).hd=f.hd /\ (f.puts [r]).most=f.most /\ (f.puts [r]).ol=f.ol:=by cases f <;> exact ⟨rfl,rfl,rfl,rfl⟩
 refine ⟨h.g.own fw,by rw [u07 (fun e=>b3 e)];exact h.b,⟨a,t,rfl,⟨?_,?_,?_,?_⟩,rest.kp fun b hb o e=>?_⟩,h.nd,h.fr⟩
 ·rw [u07 (fun e=>p2 e),hcu.2.1,hcu.2.2.1];exact A.i
 ·rw [u07 (fun e=>q1 e)];exact A.wl
 ·rw [hcu.2.2.2]
  exact A.o.kp fun b hb o e=>by rw [u07 (show b ≠ a.w from fun z=>r1 (by rw [<- z];exact hb))];exact e
 ·rw [u01,hcu.1]
 ·rw [u07 (show b ≠ a.w from fun z=>r2 (by rw [<- z];exact hb))];exact e
theorem Stk.pop {C:Addr} {G0 G:Gp} {bp:Addr} {f:Fm} {S:List Fm} {a:Fa} {t:List Fa} (h:Stk C G0 G bp (f::S) (a::t)):Stk C G0 (gup G bp (.lst ((t.map fun a=>D.ref a.p).reverse))) bp S t:=by
 obtain ⟨a',t',e,A,rest⟩:=h.s;cases e;have nd:=h.nd;rw [List.flatMap_cons,List.nodup_cons,List.nodup_append] at nd;have fb:G0 bp=none:=h.fr _ List.mem_cons_self;have nb:bp ∉ t.flatMap adr:=fun z=>nd.1 (List.mem_append_right _ z)
 refine ⟨h.g.own fb,u01,rest.kp fun b hb o e=>by rw [u07 (show b ≠ bp from fun z=>nb (by rw [<- z];exact hb))];exact e,List.nodup_cons.mpr ⟨nb,nd.2.2.1⟩,fun b hb=>h.fr b ?_⟩
 rcases List.mem_cons.mp hb with z | z
 ·rw [z];exact List.mem_cons_self
 ·exact List.mem_cons_of_mem _ (by rw [List.flatMap_cons];exact List.mem_append_right _ z)
theorem wb7 {G:Gp} {bp:Addr} {xs:List D} {x:D} {q:DK} (h:G bp=some (.lst (xs++[x]))) (k:q x (gup G bp (.lst xs))):v65 (.ref bp) [] G q:=by
 show (match G bp with | some (.lst xs)=>(match xs[xs.length - 1]? with | some y=>q y (gup G bp (.lst xs.dropLast)) | none=>False) | _=>False)
 rw [h];have e:(xs++[x])[(xs++[x]).length - 1]?=some x:=by simp
 dsimp only;rw [e];dsimp only;rw [List.dropLast_concat];exact k
theorem Stk.way {C:Addr} {G0 G:Gp} {bp p:Addr} {ac:Atm} {c:List Rowp} {S:List Fm} {a:Fa} {t:List Fa} (h:Stk C G0 G bp (.c1 ac c::S) (a::t)) (hp:G p=none) :
  Stk C G0 (gup (gup G p (.lst [])) a.wp (.lst ((a.os++[a.w]).map D.ref++[.ref p]))) bp (.c2 ac c []::S) (⟨a.p,a.wp,a.os++[a.w],p⟩::t):=by
 obtain ⟨a',t',e,A,rest⟩:=h.s;cases e;have nd:=h.nd;simp only [List.flatMap_cons,adr,List.cons_append,List.nodup_cons,List.mem_cons,List.mem_append,not_or] at nd;obtain ⟨⟨b1,b2,b3,b4,b5⟩,⟨p1,p2,p3,p4⟩,⟨q1,q2,q3⟩,⟨r1,r2⟩,nd5⟩:=nd;have old:∀ b o,G b=some o->b ≠ a.wp->gup (gup G p (.lst [])) a.wp (.lst ((a.os++[a.w]).map D.ref++[.ref p])) b=some o:=fun b o e n=>by rw [u07 n,u07 (gne e hp)];exact e
 have np:∀ b o,G b=some o->p ≠ b:=fun b o e=>gne' hp e
 have ho:a.os=[]:=by
  have z:=A.o;cases hh:a.os with
  | nil=>rfl
  | cons x y=>rw [hh] at z;obtain ⟨_,_,e,_⟩:=z;cases e
 have fr:∀ b ∈ bp::List.flatMap adr (⟨a.p,a.wp,a.os++[a.w],p⟩::t),G0 b=none:=fun b hb=>by
  simp only [List.flatMap_cons,adr,List.cons_append,List.mem_cons,List.mem_append,List.not_mem_nil,or_false] at hb
  rcases hb with z | z | z | z | (z | z) | z
  ·rw [z];exact h.fr _ List.mem_cons_self
  ·rw [z];exact h.fr _ (by simp [List.flatMap_cons,adr])
  ·rw [z];exact h.fr _ (by simp [List.flatMap_cons,adr])
  ·rw [z];exact h.g.none hp
  ·exact h.fr _ (by simp [List.flatMap_cons,adr,z])
  ·rw [z];exact h.fr _ (by simp [List.flatMap_cons,adr])
  ·exact h.fr _ (List.mem_cons_of_mem _ (by rw [List.flatMap_cons];exact List.mem_append_right _ z))
 have nrest:∀ b ∈ t.flatMap adr,p ≠ b:=fun b hb z=>by
  obtain ⟨o,e⟩:=SAt.some rest b hb;rw [z,e] at hp;cases hp
 refine ⟨(h.g.new hp).own (h.fr _ (by simp [List.flatMap_cons,adr])),old _ _ h.b (fun e=>b2 e),⟨_,t,rfl,⟨old _ _ A.i p1,?_,?_,?_⟩,rest.kp fun b hb o e=>old b o e (fun z=>q3 (by rw [<- z];exact hb))⟩,?_,fr⟩
 ·rw [u01];simp
 ·exact WAt.snoc (ps:=[]) (old _ _ A.c (fun e=>q1 e.symm)) (by rw [ho];rfl)
 ·rw [u07 (np _ _ A.wl),u01];rfl
 ·have nd6:=(List.nodup_append.mp nd5).2.1
  simp only [ho,List.flatMap_cons,adr,List.cons_append,List.nil_append,List.nodup_cons,List.mem_cons,not_or,List.not_mem_nil,not_false_eq_true];exact ⟨⟨b1,b2,Ne.symm (np _ _ h.b),b3,b5⟩,⟨p1,Ne.symm (np _ _ A.i),p2,p4⟩,⟨Ne.symm (np _ _ A.wl),q1,q3⟩,⟨np _ _ A.c,fun z=>nrest _ z rfl⟩,r2,nd6⟩
theorem Stk.opens {C:Addr} {G0 G G':Gp} {bp p w wp:Addr} {f:Fm} {S:List Fm} {as:List Fa} (h:Stk C G0 G bp S as) (hc:f.cu=[]) (hol:f.ol=[]) (hp:G p=none) (h1:gup G p (.ins C []) wp=none) (h2:gup G p (.ins C []) w=none) (n:wp ≠ w)
  (k1:G' p=some (insD C f.hd f.most wp)) (k2:G' wp=some (.lst [.ref w])) (k3:G' w=some (.lst [])) (kp:∀ b o,b ≠ p->gup G p (.ins C []) b=some o->G' b=some o) :
  Stk C G0 (gup G' bp (.lst ((as.map fun a=>D.ref a.p).reverse++[.ref p]))) bp (f::S) (⟨p,wp,[],w⟩::as):=by
 have np1:wp ≠ p:=fun e=>by rw [e,u01] at h1;cases h1
 have np2:w ≠ p:=fun e=>by rw [e,u01] at h2;cases h2
 rw [u07 np1] at h1;rw [u07 np2] at h2;have nb:∀ b o,G b=some o->b ≠ p /\ b ≠ wp /\ b ≠ w:=fun b o e=>⟨gne e hp,gne e h1,gne e h2⟩
 have ne:∀ b ∈ as.flatMap adr,b ≠ bp:=fun b hb z=>(List.nodup_cons.mp h.nd).1 (by rw [<- z];exact hb)
 have k:∀ b o,G b=some o->G' b=some o:=fun b o e=>kp b o (nb b o e).1 (by rw [u07 (nb b o e).1];exact e)
 have nbp:=nb _ _ h.b;have so:∀ b ∈ as.flatMap adr,p ≠ b /\ wp ≠ b /\ w ≠ b:=fun b hb=>by
  obtain ⟨o,e⟩:=SAt.some h.s b hb;exact ⟨Ne.symm (nb b o e).1,Ne.symm (nb b o e).2.1,Ne.symm (nb b o e).2.2⟩
 refine ⟨(⟨fun b o e=>k b o (h.g.kp _ _ e)⟩:Grow G0 G').own (h.fr _ List.mem_cons_self),by rw [u01];simp,⟨_,as,rfl,⟨by rw [u07 (Ne.symm nbp.1)];exact k1,by rw [u07 (Ne.symm nbp.2.1)];exact k2,by rw [hol];rfl,by rw [u07 (Ne.symm nbp.2.2),hc];exact k3⟩,h.s.kp fun b hb o e=>by rw [u07 (ne b hb)];exact k b o e⟩,?_,fun b hb=>?_⟩
 ·simp only [List.flatMap_cons,adr,List.cons_append,List.nil_append,List.nodup_cons,List.mem_cons,not_or]
  exact ⟨⟨nbp.1,nbp.2.1,nbp.2.2,(List.nodup_cons.mp h.nd).1⟩,⟨Ne.symm np1,Ne.symm np2,fun z=>(so _ z).1 rfl⟩,⟨n,fun z=>(so _ z).2.1 rfl⟩,fun z=>(so _ z).2.2 rfl,(List.nodup_cons.mp h.nd).2⟩
 ·simp only [List.flatMap_cons,adr,List.cons_append,List.nil_append,List.mem_cons] at hb
  rcases hb with z | z | z | z | z
  ·rw [z];exact h.fr _ List.mem_cons_self
  ·rw [z];exact h.g.none hp
  ·rw [z];exact h.g.none h1
  ·rw [z];exact h.g.none h2
  ·exact h.fr _ (List.mem_cons_of_mem _ z)
end L3
namespace L3
open PySem PySem.Spec PyProof.Rows L2
section
variable {X:Cx}
theorem u34 {w:Str} {k:Nat} {p:Pos} {es:List Expr} {ts:TA3} (hr:A3' X es ts):A3' X (.Constant (.str w) k p::es) (u83 (dC (.str w)) ts):=.of (u00 u09 hr.to rfl)
theorem ui9 {e:Expr} {te:TE3} {es:List Expr} {ts:TA3} (h:E3 X e te) (hr:A3' X es ts) (hs:starEach (e::es) X.env=(false,eval e X.env)::starEach es X.env:=by rfl):A3' X (e::es) (u83 te ts):=.of (u00 h hr.to hs)
theorem v37 (i:Nat) {x:Str} {e:Expr} {te:TE3} {es:List Expr} {ts:TA3} {pos pos' lpos bpos:Pos} (hN:X.N.Nodup) (h0:E3 X e te) (he:A3' X es ts) (hi:X.N[i]?=some x:=by rfl) (hx:Loc X.env.scope x:=by first | exact Or.inl rfl | exact Or.inr rfl) (hs:swapsWith (.BinOp e .Add (.List es lpos) bpos) (some (.Name x pos')) pos.line X.env=pure false:=by rfl)
  (hf:X.fn x=true \/ X.env.scope.names.lookup x=some .local:=by first | exact .inl rfl | exact .inr rfl | assumption):S3' X (.Assign [.Name x pos'] (.BinOp e .Add (.List es lpos) bpos) pos) (dAsg (dOp xAdd te (dLst ts)) (us2 i)):=.of (u12 i hN (u13 u24 h0 (u21 he.to)) hi hx hs hf)
end
end L3
namespace L3
open PySem PySem.Spec PyProof.Rows L2 Rw
def txF:Fm->List Ln
 | .root _ c=>tkL c
 | .c1 a c=>.cho a::tkL c
 | .c2 a y c=>.cho a::(tkL y++(.els::tkL c))
 | .tm k c=>.tim k::tkL c
def txS:List Fm->List Ln
 | []=>[]
 | f::S=>txS S++txF f
theorem ue0 (f:Fm) (r:Rowp):txF (f.puts [r])=txF f++tkR r:=by
 have e:∀ c,tkL (c++[r])=tkL c++tkR r:=fun c=>by rw [ul2];show _++(tkR r++[])=_;rw [List.append_nil]
 cases f <;> simp [txF,Fm.puts,e]
theorem vs6 {l:Ln} {S S':List Fm} (ho:okLn l) (h:stpL l S=some S'):txS S'=txS S++[l]:=by
 unfold stpL at h;split at h
 ·rename_i r f S
  cases h;cases r with
  | is x a=>simp only [txS,ue0,tkR,List.append_assoc]
  | op x o a b=>simp only [txS,ue0,tkR,List.append_assoc]
  | cho a ys ns=>exact ho.elim
  | tim k ys=>exact ho.elim
 ·cases h;rfl
 ·cases h;rfl
 ·cases h;simp [txS,txF,tkL]
 ·cases h;simp only [txS,ue0,tkR,List.append_assoc];simp [txF]
 ·cases h;simp only [txS,ue0,tkR,List.append_assoc];simp [txF]
 ·cases h
mutual
theorem wq0:∀ r:Rowp,(∀ l ∈ tkR r,okLn l)->tR r
 | .is x a,h=>h (.set (.is x a)) (by simp [tkR])
 | .op x o a b,h=>h (.set (.op x o a b)) (by simp [tkR])
 | .cho a ys ns,h=>⟨h (.cho a) (by simp [tkR]),v53 ys fun l m=>h l (by simp [tkR,m]),v53 ns fun l m=>h l (by simp [tkR,m])⟩
 | .tim k ys,h=>⟨h (.tim k) (by simp [tkR]),v53 ys fun l m=>h l (by simp [tkR,m])⟩
theorem v53:∀ rs:List Rowp,(∀ l ∈ tkL rs,okLn l)->tL rs
 | [],_=>trivial
 | r::rs,h=>⟨wq0 r fun l m=>h l (List.mem_append_left _ m),v53 rs fun l m=>h l (List.mem_append_right _ m)⟩
end
mutual
theorem vs5:∀ r:Rowp,szR r<=(tkR r).length
 | .is _ _=>Nat.le_refl _
 | .op _ _ _ _=>Nat.le_refl _
 | .cho a ys ns=>by
  have h1:=uf3 ys;have h2:=uf3 ns
  show 1+szL ys+szL ns<=(Ln.cho a::(tkL ys++(.els::(tkL ns++[.en])))).length
  simp only [List.length_cons,List.length_append,List.length_nil];omega
 | .tim k ys=>by
  have h1:=uf3 ys
  show 1+szL ys<=(Ln.tim k::(tkL ys++[.en])).length
  simp only [List.length_cons,List.length_append,List.length_nil];omega
theorem uf3:∀ rs:List Rowp,szL rs<=(tkL rs).length
 | []=>Nat.le_refl _
 | r::rs=>by
  have h1:=vs5 r;have h2:=uf3 rs
  show szR r+szL rs<=(tkR r++tkL rs).length
  rw [List.length_append];omega
end
theorem v58 {i:Nat}:nmB (numI (i:Int))=false:=by
 obtain ⟨c,r,hc,_⟩:=uf9 i;have h1:=uw3 (k:=i) (c:=c) (by rw [hc];simp);cases e:nmB (numI (i:Int)) with
 | false=>rfl
 | true =>
  unfold nmB at e;simp only [Bool.and_eq_true] at e;have:=List.all_eq_true.mp e.2 c (by rw [hc];simp);simp only [Bool.and_eq_true,decide_eq_true_eq] at this;omega
theorem ux5 {a b:Atm} (ha:tA a) (hb:tA b) (e:atS a=atS b):a=b:=by
 cases a with
 | num i =>
  cases b with
  | num j=>rw [u87 e]
  | box y =>
   exfalso
   have hb:nmB y=true:=hb;have e:numI (i:Int)=y:=e;rw [<- e,v58] at hb;cases hb
 | box x =>
  cases b with
  | num j =>
   exfalso
   have ha:nmB x=true:=ha;have e:x=numI (j:Int):=e;rw [e,v58] at ha;cases ha
  | box y=>rw [show x=y from e]
theorem ue9 {l m:Ln} (hl:okLn l) (hm:okLn m) (e:wdL l=wdL m):l=m:=by
 cases l with
 | set r =>
  cases r with
  | cho a ys ns=>exact hl.elim
  | tim k ys=>exact hl.elim
  | is x a =>
   cases m with
   | set s =>
    cases s with
    | cho a ys ns=>exact hm.elim
    | tim k ys=>exact hm.elim
    | is y b=>simp only [wdL,List.cons.injEq,and_true,true_and] at e;rw [e.1,ux5 hl.2 hm.2 e.2]
    | op y o b c=>simp [wdL] at e
   | cho a=>simp [wdL] at e
   | tim k=>simp [wdL] at e
   | els=>simp [wdL] at e
   | en=>simp [wdL] at e
  | op x o a b =>
   cases m with
   | set s =>
    cases s with
    | cho a ys ns=>exact hm.elim
    | tim k ys=>exact hm.elim
    | is y b=>simp [wdL] at e
    | op y p c d=>simp only [wdL,List.cons.injEq,and_true,true_and] at e;rw [e.1,e.2.2.1,ux5 hl.2.2.1 hm.2.2.1 e.2.1,ux5 hl.2.2.2 hm.2.2.2 e.2.2.2]
   | cho a=>simp [wdL] at e
   | tim k=>simp [wdL] at e
   | els=>simp [wdL] at e
   | en=>simp [wdL] at e
 | cho a =>
  cases m with
  | set s=>cases s <;> simp [wdL] at e
  | cho b=>simp only [wdL,List.cons.injEq,and_true,true_and] at e;rw [ux5 hl hm e]
  | tim k=>exact absurd (List.cons.inj e).1 (by decide)
  | els=>simp [wdL] at e
  | en=>simp [wdL] at e
 | tim k =>
  cases m with
  | set s=>cases s <;> simp [wdL] at e
  | cho b=>exact absurd (List.cons.inj e).1 (by decide)
  | tim j=>simp only [wdL,List.cons.injEq,and_true,true_and] at e;rw [u87 e]
  | els=>simp [wdL] at e
  | en=>simp [wdL] at e
 | els =>
  cases m with
  | set s=>cases s <;> simp [wdL] at e
  | cho b=>simp [wdL] at e
  | tim k=>simp [wdL] at e
  | els=>rfl
  | en=>exact absurd (List.cons.inj e).1 (by decide)
 | en =>
  cases m with
  | set s=>cases s <;> simp [wdL] at e
  | cho b=>simp [wdL] at e
  | tim k=>simp [wdL] at e
  | els=>exact absurd (List.cons.inj e).1 (by decide)
  | en=>rfl
open Classical in
def lnW (ws:List Str):Option Ln:=if h:∃ l,okLn l /\ ws=wdL l then some h.choose else none
theorem uv3 {l:Ln} {ws:List Str} (h:okLn l) (e:ws=wdL l):lnW ws=some l:=by
 have hh:∃ l,okLn l /\ ws=wdL l:=⟨l,h,e⟩;unfold lnW;rw [dif_pos hh];have:=hh.choose_spec;rw [ue9 this.1 h (this.2.symm.trans e)]
theorem u90 {l:Ln} {ws:List Str} (h:lnW ws=some l):okLn l /\ ws=wdL l:=by
 unfold lnW at h;split at h
 ·rename_i hh
  cases h;exact hh.choose_spec
 ·cases h
def tgS:List Fm->List Nat
 | []=>[]
 | .root _ _::S=>tgS S
 | .c1 _ _::S=>0::tgS S
 | .c2 _ _ _::S=>1::tgS S
 | .tm _ _::S=>2::tgS S
def wfS:List Fm->Prop
 | []=>False
 | .root _ _::S=>S=[]
 | _::S=>wfS S
def stT:Ln->List Nat->Option (List Nat)
 | .set _,t=>some t
 | .cho _,t=>some (0::t)
 | .tim _,t=>some (2::t)
 | .els,0::t=>some (1::t)
 | .en,(_+1)::t=>some t
 | _,_=>none
theorem uq8 (f:Fm) (r:List Rowp) (S:List Fm):tgS (f.puts r::S)=tgS (f::S):=by cases f <;> rfl
theorem uq7 (f:Fm) (r:List Rowp) (S:List Fm):wfS (f.puts r::S)=wfS (f::S):=by cases f <;> rfl
theorem v26 {l:Ln} {S:List Fm} (hw:wfS S):(∀ S',stpL l S=some S'->wfS S' /\ stT l (tgS S)=some (tgS S')) /\ (stpL l S=none->stT l (tgS S)=none):=by
 cases S with
 | nil=>exact hw.elim
 | cons f S =>
  cases l with
  | set r=>exact ⟨fun S' h=>by cases h;exact ⟨by rw [uq7];exact hw,by rw [uq8];rfl⟩,fun h=>by cases h⟩
  | cho a=>exact ⟨fun S' h=>by cases h;exact ⟨hw,rfl⟩,fun h=>by cases h⟩
  | tim k=>exact ⟨fun S' h=>by cases h;exact ⟨hw,rfl⟩,fun h=>by cases h⟩
  | els =>
   cases f with
   | root h c=>have hw:S=[]:=hw;subst hw;exact ⟨fun S' h=>(by cases h),fun _=>rfl⟩
   | c1 a c=>exact ⟨fun S' h=>by cases h;exact ⟨hw,rfl⟩,fun h=>by cases h⟩
   | c2 a y c=>exact ⟨fun S' h=>(by cases h),fun _=>rfl⟩
   | tm k c=>exact ⟨fun S' h=>(by cases h),fun _=>rfl⟩
  | en =>
   cases f with
   | root h c=>have hw:S=[]:=hw;subst hw;exact ⟨fun S' h=>(by cases h),fun _=>rfl⟩
   | c1 a c=>cases S <;> exact ⟨fun S' h=>(by cases h),fun _=>rfl⟩
   | c2 a y c =>
    cases S with
    | nil=>exact hw.elim
    | cons g S=>exact ⟨fun S' h=>by cases h;exact ⟨by rw [uq7];exact hw,by rw [uq8];rfl⟩,fun h=>by cases h⟩
   | tm k c =>
    cases S with
    | nil=>exact hw.elim
    | cons g S=>exact ⟨fun S' h=>by cases h;exact ⟨by rw [uq7];exact hw,by rw [uq8];rfl⟩,fun h=>by cases h⟩
theorem uu1:∀ {S:List Fm},wfS S->S.length=(tgS S).length+1
 | [],h=>h.elim
 | .root _ _::S,h=>by have h:S=[]:=h;subst h;rfl
 | .c1 _ _::S,h=>by show S.length+1=(tgS S).length+1+1;rw [uu1 (S:=S) h]
 | .c2 _ _ _::S,h=>by show S.length+1=(tgS S).length+1+1;rw [uu1 (S:=S) h]
 | .tm _ _::S,h=>by show S.length+1=(tgS S).length+1+1;rw [uu1 (S:=S) h]
theorem w81 {S:List Fm} (h:wfS S) (e:tgS S=[]):∃ d c,S=[.root d c]:=by
 cases S with
 | nil=>exact h.elim
 | cons f S =>
  cases f with
  | root d c=>have h:S=[]:=h;subst h;exact ⟨d,c,rfl⟩
  | c1=>cases e
  | c2=>cases e
  | tm=>cases e
def rtS:List Fm->List D
 | []=>[]
 | .root d _::_=>d
 | _::S=>rtS S
theorem ur2 (f:Fm) (r:List Rowp) (S:List Fm):rtS (f.puts r::S)=rtS (f::S):=by cases f <;> rfl
theorem vs7 {l:Ln} {S S':List Fm} (h:stpL l S=some S'):rtS S'=rtS S:=by
 unfold stpL at h;split at h
 ·cases h;rw [ur2]
 ·cases h;rfl
 ·cases h;rfl
 ·cases h;rfl
 ·cases h;rw [ur2];rfl
 ·cases h;rw [ur2];rfl
 ·cases h
def stW (x:Str) (t:List Nat):Option (List Nat):=(lnW (Txt.split x " ")).bind fun l=>stT l t
def rnT:Nat->List Str->List Nat->Option Nat
 | i,[],t=>if t=[] then none else some i
 | i,x::ls,t=>match stW x t with
  | none=>some i
  | some t'=>rnT (i+1) ls t'
def isH0 (x:Str):Prop:=∃ W:Nat,1<=W /\ W<=16 /\ Txt.split x " " = [("wide" : Str),numI (W:Int)]
def isH1 (x:Str):Prop:=∃ bs:List Str,1<=bs.length /\ bs.length<=6 /\ (∀ b ∈ bs,nmB b=true) /\ Txt.split x " " = ("boxes" : Str)::bs
open Classical in
def fwT:List Str->Option Nat
 | []=>some 0
 | x::ls=>if isH0 x then (match ls with
  | []=>some 1
  | y::ls=>if isH1 y then rnT 2 ls [] else some 1) else some 0
theorem fw_0 {x:Str} {ls:List Str} (h:¬ isH0 x):fwT (x::ls)=some 0:=if_neg h
theorem fw_l {x:Str} (h:isH0 x):fwT [x]=some 1:=if_pos h
theorem fw_1 {x y:Str} {ls:List Str} (h:isH0 x) (h2:¬ isH1 y):fwT (x::y::ls)=some 1:=(if_pos h).trans (if_neg h2)
theorem fw_2 {x y:Str} {ls:List Str} (h:isH0 x) (h2:isH1 y):fwT (x::y::ls)=rnT 2 ls []:=(if_pos h).trans (if_pos h2)
theorem vo4 {i:Nat} {x:Str} {ls:List Str} {t:List Nat} (h:stW x t=none):rnT i (x::ls) t=some i:=by
 show (match stW x t with | none=>some i | some t'=>rnT (i+1) ls t')=_
 rw [h]
theorem ur3 {i:Nat} {x:Str} {ls:List Str} {t t':List Nat} (h:stW x t=some t'):rnT i (x::ls) t=rnT (i+1) ls t':=by
 show (match stW x t with | none=>some i | some t'=>rnT (i+1) ls t')=_
 rw [h]
theorem un2 {x:Str} {l:Ln} {t:List Nat} (h:okLn l) (e:Txt.split x " " = wdL l):stW x t=stT l t:=by
 unfold stW;rw [uv3 h e];rfl
theorem w14 {x:Str} {l:Ln} (e:Txt.split x " " = wdL l):x=lnT l:=by
 unfold lnT;exact (u69 e).symm
def bgS (x:Str):Bool:=decide (Txt.slice x none (some 6) = "choose") || decide (Txt.slice x none (some 5) = "times")
def dpT:List Str->Nat->Nat->Nat
 | [],_,m=>m
 | x::ls,d,m=>dpT ls (d+(if bgS x then 1 else 0) - (if x = "end" then 1 else 0)) (max m (d+(if bgS x then 1 else 0) - (if x = "end" then 1 else 0)))
theorem vn0 {x y:Str} {k:Nat} {r:List Nat} (hx:x.cps.toList=y.cps.toList++r) (hk:y.length=k):Txt.slice x none (some (k:Int))=y:=by
 have hl:x.length=y.length+r.length:=by rw [str_len,hx,List.length_append,<- str_len]
 rw [beq_iff_eq.mp (slice_closes_toL (x:=x) (j:=(k:Int)) (by omega) (by omega))];apply ua1
 show List.take ((k:Int) - 0).toNat (List.drop (0:Int).toNat x.cps.toList)=_
 rw [show ((k:Int) - 0).toNat=y.cps.toList.length by rw [<- str_len];omega,hx];exact List.take_left
theorem wm9 (a:Atm):bgS (lnT (.cho a))=true:=by
 unfold bgS;rw [show Txt.slice (lnT (.cho a)) none (some 6) = "choose" from vn0 (y := "choose") (k:=6) (r:=32::(atS a).cps.toList) ?_ (by decide)]
 ·simp
 ·show (jn " " ["choose",atS a]).cps.toList=_
  rw [show jn " " ["choose",atS a]=Str.join " " ["choose",atS a] from StrLaws.glued_eq_join _ _,blank,u47];rfl
theorem wm8 (k:Nat):bgS (lnT (.tim k))=true:=by
 unfold bgS;rw [show Txt.slice (lnT (.tim k)) none (some 5) = "times" from vn0 (y := "times") (k:=5) (r:=32::(numI (k:Int)).cps.toList) ?_ (by decide)]
 ·simp
 ·show (jn " " ["times",numI (k:Int)]).cps.toList=_
  rw [show jn " " ["times",numI (k:Int)]=Str.join " " ["times",numI (k:Int)] from StrLaws.glued_eq_join _ _,blank,u47];rfl
theorem uf5 {x:Str} (h:32 ∉ x.cps.toList):Txt.split x " " = [x]:=by
 have:=ve2 (ws:=[x]) (by simp) (by simpa using h)
 rwa [v80] at this
theorem vp3 {l:Ln} (h:okLn l) (e:lnT l = "end"):l=.en:=by
 have h1:=ub5 h;rw [e,uf5 (by decide)] at h1;exact ue9 h trivial h1.symm
theorem w32 {l:Ln} (h:okLn l) (n:l ≠ .en) (rest:List Str) (d m:Nat):∃ d' m',d<=d' /\ m<=m' /\ d'<=m' /\ dpT (lnT l::rest) d m=dpT rest d' m':=by
 have e:lnT l ≠ "end" := fun z=>n (vp3 h z)
 refine ⟨_,_,?_,?_,?_,rfl⟩
 ·rw [if_neg e];omega
 ·exact Nat.le_max_left _ _
 ·exact Nat.le_max_right _ _
theorem va3 {l:Ln} (h:okLn l) (n:l ≠ .en) (hb:bgS (lnT l)=true) (rest:List Str) (d m:Nat):∃ d' m',d+1<=d' /\ m<=m' /\ d'<=m' /\ dpT (lnT l::rest) d m=dpT rest d' m':=by
 have e:lnT l ≠ "end" := fun z=>n (vp3 h z)
 refine ⟨_,_,?_,?_,?_,rfl⟩
 ·rw [if_neg e,hb,if_pos rfl];omega
 ·exact Nat.le_max_left _ _
 ·exact Nat.le_max_right _ _
theorem wl9 (rest:List Str) (d m:Nat):∃ d' m',d - 1<=d' /\ m<=m' /\ d'<=m' /\ dpT (lnT .en::rest) d m=dpT rest d' m':=by
 refine ⟨_,_,?_,?_,?_,rfl⟩
 ·split <;> split <;> omega
 ·exact Nat.le_max_left _ _
 ·exact Nat.le_max_right _ _
mutual
theorem wl8:∀ (r:Rowp) (rest:List Str) (d m:Nat),tR r->d<=m->∃ d' m',d<=d' /\ m<=m' /\ d'<=m' /\ d+depR r<=m' /\ dpT ((tkR r).map lnT++rest) d m=dpT rest d' m'
 | .is x a,rest,d,m,h,hm=>by
  obtain ⟨d',m',h1,h2,h3,e⟩:=w32 (l:=.set (.is x a)) h (by simp) rest d m;exact ⟨d',m',h1,h2,h3,by show d+0<=m';omega,e⟩
 | .op x o a b,rest,d,m,h,hm=>by
  obtain ⟨d',m',h1,h2,h3,e⟩:=w32 (l:=.set (.op x o a b)) h (by simp) rest d m;exact ⟨d',m',h1,h2,h3,by show d+0<=m';omega,e⟩
 | .cho a ys ns,rest,d,m,h,hm=>by
  have ht:(tkR (.cho a ys ns)).map lnT++rest=lnT (.cho a)::((tkL ys).map lnT++(lnT .els::((tkL ns).map lnT++(lnT .en::rest)))):=by
   show (Ln.cho a::(tkL ys++(.els::(tkL ns++[.en])))).map lnT++rest=_
   simp
  obtain ⟨d1,m1,a1,a2,a3,e1⟩:=va3 (l:=.cho a) h.1 (by simp) (wm9 a) ((tkL ys).map lnT++(lnT .els::((tkL ns).map lnT++(lnT .en::rest)))) d m;obtain ⟨d2,m2,b1,b2,b3,b4,e2⟩:=ui1 ys (lnT .els::((tkL ns).map lnT++(lnT .en::rest))) d1 m1 h.2.1 a3;obtain ⟨d3,m3,c1,c2,c3,e3⟩:=w32 (l:=.els) trivial (by simp) ((tkL ns).map lnT++(lnT .en::rest)) d2 m2;obtain ⟨d4,m4,f1,f2,f3,f4,e4⟩:=ui1 ns (lnT .en::rest) d3 m3 h.2.2 c3;obtain ⟨d5,m5,g1,g2,g3,e5⟩:=wl9 rest d4 m4;refine ⟨d5,m5,by omega,by omega,g3,?_,by rw [ht,e1,e2,e3,e4,e5]⟩
  show d+(1+max (depL ys) (depL ns))<=m5
  omega
 | .tim k ys,rest,d,m,h,hm=>by
  have ht:(tkR (.tim k ys)).map lnT++rest=lnT (.tim k)::((tkL ys).map lnT++(lnT .en::rest)):=by
   show (Ln.tim k::(tkL ys++[.en])).map lnT++rest=_
   simp
  obtain ⟨d1,m1,a1,a2,a3,e1⟩:=va3 (l:=.tim k) h.1 (by simp) (wm8 k) ((tkL ys).map lnT++(lnT .en::rest)) d m;obtain ⟨d2,m2,b1,b2,b3,b4,e2⟩:=ui1 ys (lnT .en::rest) d1 m1 h.2 a3;obtain ⟨d5,m5,g1,g2,g3,e5⟩:=wl9 rest d2 m2;refine ⟨d5,m5,by omega,by omega,g3,?_,by rw [ht,e1,e2,e5]⟩
  show d+(1+depL ys)<=m5
  omega
theorem ui1:∀ (rs:List Rowp) (rest:List Str) (d m:Nat),tL rs->d<=m->∃ d' m',d<=d' /\ m<=m' /\ d'<=m' /\ d+depL rs<=m' /\ dpT ((tkL rs).map lnT++rest) d m=dpT rest d' m'
 | [],rest,d,m,_,hm=>⟨d,m,Nat.le_refl _,Nat.le_refl _,hm,hm,rfl⟩
 | r::rs,rest,d,m,h,hm=>by
  have ht:(tkL (r::rs)).map lnT++rest=(tkR r).map lnT++((tkL rs).map lnT++rest):=by
   show (tkR r++tkL rs).map lnT++rest=_
   simp
  obtain ⟨d1,m1,a1,a2,a3,a4,e1⟩:=wl8 r ((tkL rs).map lnT++rest) d m h.1 hm;obtain ⟨d2,m2,b1,b2,b3,b4,e2⟩:=ui1 rs rest d1 m1 h.2 a3;refine ⟨d2,m2,by omega,by omega,b3,?_,by rw [ht,e1,e2]⟩
  show d+max (depR r) (depL rs)<=m2
  omega
end
theorem w31 {x y:Str} {rs:List Rowp} (h:tL rs):depL rs<=dpT (x::y::(tkL rs).map lnT) 0 0:=by
 have k:∀ d m,d<=m->depL rs<=dpT ((tkL rs).map lnT) d m:=fun d m hm=>by
  obtain ⟨d',m',_,_,_,h4,e⟩:=ui1 rs [] d m h hm;rw [List.append_nil] at e;rw [e]
  show depL rs<=m'
  omega
 exact k _ _ (Nat.le_max_right _ _)
end L3
namespace L3
open PySem
theorem uv5 {c s:Nat}:∀ {ws:List Str} {w:Str},w ∈ ws->s ∈ w.cps.toList->s ∈ (Str.join ⟨#[c]⟩ ws).cps.toList
 | [v],w,h,z=>by rw [List.mem_singleton.mp h] at z;exact z
 | v::u::r,w,h,z=>by
  rw [u47]
  rcases List.mem_cons.mp h with e | e
  ·rw [e] at z;exact List.mem_append_left _ z
  ·exact List.mem_append_right _ (List.mem_cons_of_mem _ (uv5 e z))
end L3
namespace L3
open PySem PySem.Spec PyProof.Rows L2 Rw
theorem uf8 {i:Nat} {l:Ln} {rest:List Str} {t t':List Nat} (h:okLn l) (e:stT l t=some t'):rnT i (lnT l::rest) t=rnT (i+1) rest t':=ur3 (by rw [un2 h (ub5 h)];exact e)
mutual
theorem vw8:∀ (r:Rowp) (rest:List Str) (i:Nat) (t:List Nat),tR r->∃ j,rnT i ((tkR r).map lnT++rest) t=rnT j rest t
 | .is x a,rest,i,t,h=>⟨_,uf8 (l:=.set (.is x a)) h rfl⟩
 | .op x o a b,rest,i,t,h=>⟨_,uf8 (l:=.set (.op x o a b)) h rfl⟩
 | .cho a ys ns,rest,i,t,h=>by
  have ht:(tkR (.cho a ys ns)).map lnT++rest=lnT (.cho a)::((tkL ys).map lnT++(lnT .els::((tkL ns).map lnT++(lnT .en::rest)))):=by
   show (Ln.cho a::(tkL ys++(.els::(tkL ns++[.en])))).map lnT++rest=_
   simp
  obtain ⟨j1,e1⟩:=ub1 ys (lnT .els::((tkL ns).map lnT++(lnT .en::rest))) (i+1) (0::t) h.2.1;obtain ⟨j2,e2⟩:=ub1 ns (lnT .en::rest) (j1+1) (1::t) h.2.2;exact ⟨_,by rw [ht,uf8 (l:=.cho a) h.1 rfl,e1,uf8 (l:=.els) trivial rfl,e2,uf8 (l:=.en) trivial rfl]⟩
 | .tim k ys,rest,i,t,h=>by
  have ht:(tkR (.tim k ys)).map lnT++rest=lnT (.tim k)::((tkL ys).map lnT++(lnT .en::rest)):=by
   show (Ln.tim k::(tkL ys++[.en])).map lnT++rest=_
   simp
  obtain ⟨j1,e1⟩:=ub1 ys (lnT .en::rest) (i+1) (2::t) h.2;exact ⟨_,by rw [ht,uf8 (l:=.tim k) h.1 rfl,e1,uf8 (l:=.en) trivial rfl]⟩
theorem ub1:∀ (rs:List Rowp) (rest:List Str) (i:Nat) (t:List Nat),tL rs->∃ j,rnT i ((tkL rs).map lnT++rest) t=rnT j rest t
 | [],rest,i,t,_=>⟨i,rfl⟩
 | r::rs,rest,i,t,h=>by
  have ht:(tkL (r::rs)).map lnT++rest=(tkR r).map lnT++((tkL rs).map lnT++rest):=by
   show (tkR r++tkL rs).map lnT++rest=_
   simp
  obtain ⟨j1,e1⟩:=vw8 r ((tkL rs).map lnT++rest) i t h.1;obtain ⟨j2,e2⟩:=ub1 rs rest j1 t h.2;exact ⟨j2,by rw [ht,e1,e2]⟩
end
theorem w15 {l m:Ln} (hl:okLn l) (hm:okLn m) (e:lnT l=lnT m):l=m:=by
 have h1:=ub5 hl;rw [e,ub5 hm] at h1;exact ue9 hl hm h1.symm
theorem v76:∀ {l m:List Ln},(∀ x ∈ l,okLn x)->(∀ x ∈ m,okLn x)->l.map lnT=m.map lnT->l=m
 | [],[],_,_,_=>rfl
 | [],_::_,_,_,e=>by cases e
 | _::_,[],_,_,e=>by cases e
 | a::l,b::m,hl,hm,e=>by
  have e:=List.cons.inj e;rw [w15 (hl a List.mem_cons_self) (hm b List.mem_cons_self) e.1,v76 (fun x hx=>hl x (List.mem_cons_of_mem _ hx)) (fun x hx=>hm x (List.mem_cons_of_mem _ hx)) e.2]
theorem v41 {rs rs':List Rowp} (h:tL rs) (h':tL rs') (e:(tkL rs).map lnT=(tkL rs').map lnT):rs'=rs:=by
 have e:=v76 (uf2 rs h) (uf2 rs' h') e;have a:=uc5 rs [] (.root [] []) [];have b:=uc5 rs' [] (.root [] []) [];rw [List.append_nil] at a b;rw [<- e,a] at b;have b:some [Fm.root [] ([]++rs)]=some [Fm.root [] ([]++rs')]:=b;simpa using b.symm
end L3
namespace Law
open PySem L2 L3
def top (i:Nat):Stmt:=PySem.Challenge.pw_nolitter_k04_the_first_wrong_row.main.body.getD i (.Pass ⟨0,0,0,0⟩)
abbrev u63:Stmt:=inClass (top 5) 0
abbrev ve4:Stmt:=top 12
abbrev ve9:Stmt:=top 17
abbrev vt5:Stmt:=top 24
abbrev vu2:Stmt:=top 25
abbrev vt6:Stmt:=top 26
abbrev vw6:Stmt:=inClass (top 27) 0
abbrev vw5:Stmt:=inClass (top 27) 1
abbrev vw4:Stmt:=inClass (top 27) 2
abbrev vf0:Stmt:=inClass (top 27) 3
abbrev vu0:Stmt:=top 28
abbrev vt7:Stmt:=top 29
abbrev ve3:Stmt:=top 30
abbrev vt4:Stmt:=top 31
abbrev vw3:Stmt:=top 32
abbrev vw2:Stmt:=top 33
abbrev vu1:Stmt:=top 34
abbrev vt8:Stmt:=top 35
abbrev vt9:Stmt:=top 36
abbrev vv2:Stmt:=top 38
abbrev vv5:Stmt:=top 39
abbrev ve5:Stmt:=top 40
abbrev vv4:Stmt:=top 41
abbrev vw1:Stmt:=top 42
abbrev vu9:Stmt:=top 43
abbrev vu8:Stmt:=top 44
abbrev vv0:Stmt:=top 45
abbrev vv3:Stmt:=top 46
abbrev vu4:Stmt:=top 47
abbrev vv6:Stmt:=top 48
abbrev ve7:Stmt:=top 49
abbrev v38:Stmt:=top 50
abbrev vv7:Stmt:=top 51
abbrev ve6:Stmt:=top 52
abbrev ve8:Stmt:=top 53
abbrev vu7:Stmt:=top 54
abbrev vu3:Stmt:=top 55
abbrev vv9:Stmt:=top 56
abbrev vu5:Stmt:=top 57
abbrev vv1:Stmt:=top 58
abbrev vv8:Stmt:=top 59
abbrev vw0:Stmt:=top 60
abbrev vu6:Stmt:=top 61
abbrev vt3:Stmt:=top 62
local macro_rules | `(tactic| ac_nf)=>`(tactic| exact ⟨rfl,rfl,rfl,by decide,rfl,by decide,by decide⟩)
theorem u79:FnScope ["self", "at"] ["self", "at"] (u05 u63):=by ac_nf
theorem sc_jbj:FnScope ["word", "most", "number"] ["word", "most"] (u05 ve4):=by ac_nf
theorem vn8:FnScope ["text"] ["text"] (u05 ve9):=by ac_nf
theorem sc_jbs:FnScope ["program", "lines"] ["program"] (u05 vt5):=by ac_nf
theorem sc_jbh:FnScope ["rows", "lines", "row"] ["rows"] (u05 vu2):=by ac_nf
theorem sc_jbq:FnScope ["row", "head"] ["row"] (u05 vt6):=by ac_nf
theorem vo3:FnScope ["self", "head", "most_ways"] ["self", "head", "most_ways"] (u05 vw6):=by ac_nf
theorem vo2:FnScope ["self"] ["self"] (u05 vw5):=by ac_nf
theorem vo1:FnScope ["self", "row"] ["self", "row"] (u05 vw4):=by ac_nf
theorem vo0:FnScope ["self"] ["self"] (u05 vf0):=by ac_nf
theorem sc_jbl:FnScope ["text", "lines", "head", "blocks", "at", "line"] ["text"] (u05 vu0):=by ac_nf
theorem sc_jbp:FnScope ["lines", "words", "wide"] ["lines"] (u05 vt7):=by ac_nf
theorem sc_jbn:FnScope ["lines", "words", "names"] ["lines"] (u05 ve3):=by ac_nf
theorem sc_jbt:FnScope ["words", "blocks", "row"] ["words", "blocks"] (u05 vt4):=by ac_nf
theorem vn9:FnScope ["blocks"] ["blocks"] (u05 vw3):=by ac_nf
theorem sc_jaf:FnScope ["blocks", "row"] ["blocks"] (u05 vw2):=by ac_nf
theorem sc_jbk:FnScope ["words", "blocks", "operand", "ways"] ["words", "blocks"] (u05 vu1):=by ac_nf
theorem sc_jbo:FnScope ["words", "first", "second"] ["words"] (u05 vt8):=by ac_nf
theorem vn1:FnScope ["word"] ["word"] (u05 vt9):=by ac_nf
theorem sc_jaw:FnScope ["_law_script", "_law_k", "_law_cell", "_law_seed"] ["_law_script", "_law_k"] (u05 vv2):=by ac_nf
theorem sc_jat:FnScope ["_law_purse_here", "_law_many", "_law_digit"] ["_law_purse_here", "_law_many"] (u05 vv5):=by ac_nf
theorem sc_jas:FnScope ["_law_purse_here", "_law_abc", "_law_longer", "_law_size", "_law_letters", "_law_spot", "_law_first", "_law_names_here", "_law_k", "_law_name", "_law_word_here"] ["_law_purse_here"] (u05 ve5):=by ac_nf
theorem vn2:FnScope ["_law_purse_here", "_law_wide"] ["_law_purse_here", "_law_wide"] (u05 vv4):=by ac_nf
theorem vn7:FnScope ["_law_purse_here", "_law_wide", "_law_boxes"] ["_law_purse_here", "_law_wide", "_law_boxes"] (u05 vw1):=by ac_nf
theorem sc_jaz:FnScope ["_law_purse_here", "_law_wide", "_law_boxes", "_law_x", "_law_one"] ["_law_purse_here", "_law_wide", "_law_boxes"] (u05 vu9):=by ac_nf
theorem sc_jba:FnScope ["_law_opened", "_law_rows_here", "_law_ahead", "_law_head", "_law_often"] ["_law_opened", "_law_rows_here"] (u05 vu8):=by ac_nf
theorem sc_jay:FnScope ["_law_script", "_law_wide", "_law_boxes", "_law_most", "_law_opened", "_law_rows_here", "_law_often", "_law_left", "_law_j", "_law_purse_here", "_law_way", "_law_head", "_law_k"] ["_law_script", "_law_wide", "_law_boxes", "_law_most"] (u05 vv0):=by ac_nf
theorem sc_jav:FnScope ["_law_script", "_law_purse_here", "_law_wide", "_law_boxes", "_law_many"] ["_law_script"] (u05 vv3):=by ac_nf
theorem sc_jbe:FnScope ["_law_rows_here", "_law_lines_here", "_law_row_here"] ["_law_rows_here"] (u05 vu4):=by ac_nf
theorem vn3:FnScope ["_law_program_here"] ["_law_program_here"] (u05 vv6):=by ac_nf
theorem vn4:FnScope ["_law_word_here", "_law_most"] ["_law_word_here", "_law_most"] (u05 ve7):=by ac_nf
theorem vn5:FnScope ["_law_word_here"] ["_law_word_here"] (u05 v38):=by ac_nf
theorem vn6:FnScope ["_law_word_here"] ["_law_word_here"] (u05 vv7):=by ac_nf
theorem sc_jaq:FnScope ["_law_words", "_law_signs"] ["_law_words"] (u05 ve6):=by ac_nf
theorem sc_jan:FnScope ["_law_line", "_law_k", "_law_words", "_law_good", "_law_bad"] ["_law_line", "_law_k"] (u05 ve8):=by ac_nf
theorem sc_jbb:FnScope ["_law_line", "_law_opened", "_law_words"] ["_law_line", "_law_opened"] (u05 vu7):=by ac_nf
theorem sc_jbg:FnScope ["_law_lines_here", "_law_opened", "_law_k", "_law_line"] ["_law_lines_here"] (u05 vu3):=by ac_nf
theorem sc_jak:FnScope ["_law_lines_here", "_law_deep_here", "_law_most", "_law_line"] ["_law_lines_here"] (u05 vv9):=by ac_nf
theorem sc_jbd:FnScope ["_law_purse_here", "_law_word_here", "_law_some"] ["_law_purse_here", "_law_word_here"] (u05 vu5):=by ac_nf
theorem sc_jax:FnScope ["_law_purse_here", "_law_some"] ["_law_purse_here"] (u05 vv1):=by ac_nf
theorem sc_jal:FnScope ["_law_lines_here", "_law_purse_here", "_law_some", "_law_names_here", "_law_row_here", "_law_at"] ["_law_lines_here", "_law_purse_here"] (u05 vv8):=by ac_nf
theorem sc_jaj:FnScope ["_law_lines_here", "_law_purse_here", "_law_at", "_law_words", "_law_spot", "_law_way"] ["_law_lines_here", "_law_purse_here"] (u05 vw0):=by ac_nf
theorem sc_jbc:FnScope ["_law_text", "_law_at", "e", "_law_good"] ["_law_text"] (u05 vu6):=by ac_nf
theorem sc_law:FnScope ["_law_script", "_law_lines_here", "_law_purse_here", "_law_spoilt", "_law_k", "_law_at", "_law_text", "_law_right"] ["_law_script"] (u05 vt3):=by ac_nf
set_option genInjectivity false in
set_option genSizeOf false in
structure C_Block (K:W.Frag) (mg:Str->Option Value) where
 C:Addr
 cl:Cls K C
 m:mg "Block" = some (.ref C)
 n_head:NoAttr K C "head"
 n_most_ways:NoAttr K C "most_ways"
 n_ways:NoAttr K C "ways"
set_option genInjectivity false in
set_option genSizeOf false in
structure Txt (K:W.Frag) (mg:Str->Option Value) where
 f_BadText_init:FnAt K "__init__" "BadText.__init__" u63 ["self", "at"]
 f_jbj:FnAt K "number_in" "number_in" ve4 ["word", "most"]
 g_number_in:mg "number_in" = some (.ref f_jbj.a)
 f_jah:FnAt K "is_name" "is_name" ve9 ["text"]
 g_is_name:mg "is_name" = some (.ref f_jah.a)
 f_jbs:FnAt K "show" "show" vt5 ["program"]
 g_show:mg "show" = some (.ref f_jbs.a)
 f_jbh:FnAt K "lines_of" "lines_of" vu2 ["rows"]
 g_lines_of:mg "lines_of" = some (.ref f_jbh.a)
 f_jbq:FnAt K "row_lines" "row_lines" vt6 ["row"]
 g_row_lines:mg "row_lines" = some (.ref f_jbq.a)
 f_jaa:FnAt K "__init__" "Block.__init__" vw6 ["self", "head", "most_ways"]
 f_jab:FnAt K "is_full" "Block.is_full" vw5 ["self"]
 f_jac:FnAt K "take_in" "Block.take_in" vw4 ["self", "row"]
 f_jad:FnAt K "whole" "Block.whole" vf0 ["self"]
 f_jbl:FnAt K "read" "read" vu0 ["text"]
 g_read:mg "read" = some (.ref f_jbl.a)
 f_jbp:FnAt K "read_wide" "read_wide" vt7 ["lines"]
 g_read_wide:mg "read_wide" = some (.ref f_jbp.a)
 f_jbn:FnAt K "read_boxes" "read_boxes" ve3 ["lines"]
 g_read_boxes:mg "read_boxes" = some (.ref f_jbn.a)
 f_jbt:FnAt K "take_line" "take_line" vt4 ["words", "blocks"]
 g_take_line:mg "take_line" = some (.ref f_jbt.a)
 f_jae:FnAt K "begin_other_way" "begin_other_way" vw3 ["blocks"]
 g_begin_other_way:mg "begin_other_way" = some (.ref f_jae.a)
 f_jaf:FnAt K "close_block" "close_block" vw2 ["blocks"]
 g_close_block:mg "close_block" = some (.ref f_jaf.a)
 f_jbk:FnAt K "open_block" "open_block" vu1 ["words", "blocks"]
 g_open_block:mg "open_block" = some (.ref f_jbk.a)
 f_jbo:FnAt K "read_setting" "read_setting" vt8 ["words"]
 g_read_setting:mg "read_setting" = some (.ref f_jbo.a)
 f_jbm:FnAt K "read_atom" "read_atom" vt9 ["word"]
 g_read_atom:mg "read_atom" = some (.ref f_jbm.a)
 f_jaw:FnAt K "_law_purse" "_law_purse" vv2 ["_law_script", "_law_k"]
 g_law_purse:mg "_law_purse" = some (.ref f_jaw.a)
 f_jat:FnAt K "_law_next" "_law_next" vv5 ["_law_purse_here", "_law_many"]
 g_law_next:mg "_law_next" = some (.ref f_jat.a)
 f_jas:FnAt K "_law_names" "_law_names" ve5 ["_law_purse_here"]
 g_law_names:mg "_law_names" = some (.ref f_jas.a)
 f_jau:FnAt K "_law_number" "_law_number" vv4 ["_law_purse_here", "_law_wide"]
 g_law_number:mg "_law_number" = some (.ref f_jau.a)
 f_jai:FnAt K "_law_atom" "_law_atom" vw1 ["_law_purse_here", "_law_wide", "_law_boxes"]
 g_law_atom:mg "_law_atom" = some (.ref f_jai.a)
 f_jaz:FnAt K "_law_set" "_law_set" vu9 ["_law_purse_here", "_law_wide", "_law_boxes"]
 g_law_set:mg "_law_set" = some (.ref f_jaz.a)
 f_jba:FnAt K "_law_shut" "_law_shut" vu8 ["_law_opened", "_law_rows_here"]
 g_law_shut:mg "_law_shut" = some (.ref f_jba.a)
 f_jay:FnAt K "_law_rows" "_law_rows" vv0 ["_law_script", "_law_wide", "_law_boxes", "_law_most"]
 g_law_rows:mg "_law_rows" = some (.ref f_jay.a)
 f_jav:FnAt K "_law_program" "_law_program" vv3 ["_law_script"]
 g_law_program:mg "_law_program" = some (.ref f_jav.a)
 f_jbe:FnAt K "_law_written" "_law_written" vu4 ["_law_rows_here"]
 g_law_written:mg "_law_written" = some (.ref f_jbe.a)
 f_jar:FnAt K "_law_lines" "_law_lines" vv6 ["_law_program_here"]
 g_law_lines:mg "_law_lines" = some (.ref f_jar.a)
 f_jap:FnAt K "_law_is_number" "_law_is_number" ve7 ["_law_word_here", "_law_most"]
 g_law_is_number:mg "_law_is_number" = some (.ref f_jap.a)
 f_jao:FnAt K "_law_is_name" "_law_is_name" v38 ["_law_word_here"]
 g_law_is_name:mg "_law_is_name" = some (.ref f_jao.a)
 f_jam:FnAt K "_law_is_atom" "_law_is_atom" vv7 ["_law_word_here"]
 g_law_is_atom:mg "_law_is_atom" = some (.ref f_jam.a)
 f_jaq:FnAt K "_law_is_set" "_law_is_set" ve6 ["_law_words"]
 g_law_is_set:mg "_law_is_set" = some (.ref f_jaq.a)
 f_jan:FnAt K "_law_is_head" "_law_is_head" ve8 ["_law_line", "_law_k"]
 g_law_is_head:mg "_law_is_head" = some (.ref f_jan.a)
 f_jbb:FnAt K "_law_stays" "_law_stays" vu7 ["_law_line", "_law_opened"]
 g_law_stays:mg "_law_stays" = some (.ref f_jbb.a)
 f_jbg:FnAt K "_law_wrong" "_law_wrong" vu3 ["_law_lines_here"]
 g_law_wrong:mg "_law_wrong" = some (.ref f_jbg.a)
 f_jak:FnAt K "_law_deep" "_law_deep" vv9 ["_law_lines_here"]
 g_law_deep:mg "_law_deep" = some (.ref f_jak.a)
 f_jbd:FnAt K "_law_word" "_law_word" vu5 ["_law_purse_here", "_law_word_here"]
 g_law_word:mg "_law_word" = some (.ref f_jbd.a)
 f_jax:FnAt K "_law_row" "_law_row" vv1 ["_law_purse_here"]
 g_law_row:mg "_law_row" = some (.ref f_jax.a)
 f_jal:FnAt K "_law_headed" "_law_headed" vv8 ["_law_lines_here", "_law_purse_here"]
 g_law_headed:mg "_law_headed" = some (.ref f_jal.a)
 f_jaj:FnAt K "_law_changed" "_law_changed" vw0 ["_law_lines_here", "_law_purse_here"]
 g_law_changed:mg "_law_changed" = some (.ref f_jaj.a)
 f_jbc:FnAt K "_law_told" "_law_told" vu6 ["_law_text"]
 g_law_told:mg "_law_told" = some (.ref f_jbc.a)
 f_law:FnAt K "law" "law" vt3 ["_law_script"]
 g_law:mg "law" = some (.ref f_law.a)
 c_Block:C_Block K mg
 e_LitterError:XL K mg "LitterError"
 e_BadText:XE K mg e_LitterError.C "BadText"
 e_TwiceNamed:XE K mg e_LitterError.C "TwiceNamed"
 e_TooWide:XE K mg e_LitterError.C "TooWide"
 e_NoRow:XE K mg e_LitterError.C "NoRow"
 e_NoBox:XE K mg e_LitterError.C "NoBox"
 e_BadPlan:XE K mg e_LitterError.C "BadPlan"
 e_BadCuts:XE K mg e_LitterError.C "BadCuts"
 e_BadCode:XE K mg e_LitterError.C "BadCode"
 xm_BadText:XMk K e_BadText.C e_LitterError.C f_BadText_init.a
 xa_BadText:XAttr K e_BadText.C "at"
 ne_BadText_TwiceNamed:e_TwiceNamed.C ≠ e_BadText.C
 ne_BadText_TooWide:e_TooWide.C ≠ e_BadText.C
 ne_BadText_NoRow:e_NoRow.C ≠ e_BadText.C
 ne_BadText_NoBox:e_NoBox.C ≠ e_BadText.C
 ne_BadText_BadPlan:e_BadPlan.C ≠ e_BadText.C
 ne_BadText_BadCuts:e_BadCuts.C ≠ e_BadText.C
 ne_BadText_BadCode:e_BadCode.C ≠ e_BadText.C
 mk_Block:Mk K c_Block.C f_jaa.a
 m_jab:Meth K c_Block.C "is_full" f_jab.a
 m_jac:Meth K c_Block.C "take_in" f_jac.a
 m_jad:Meth K c_Block.C "whole" f_jad.a
 k_FIGURES:∃ t,mg "FIGURES" = some (.str "0123456789" t)
 k_LETTERS:∃ t,mg "LETTERS" = some (.str "abcdefghijklmnopqrstuvwxyz" t)
 k_LONGEST_NAME:∃ t,mg "LONGEST_NAME" = some (.int 8 t)
 k_WORDS:ConT K mg "WORDS" ["wide", "boxes", "choose", "else", "end", "times"]
 k_WIDEST:∃ t,mg "WIDEST" = some (.int 16 t)
 k_MOST_BOXES:∃ t,mg "MOST_BOXES" = some (.int 6 t)
 k_MOST_TIMES:∃ t,mg "MOST_TIMES" = some (.int 20 t)
 k_GREATEST:∃ t,mg "GREATEST" = some (.int 65535 t)
 k_SIGNS:ConT K mg "SIGNS" ["+", "-", "&", "|", "^", "<", "="]
 b_ValueError:mg "ValueError" = none
 b_abs:mg "abs" = none
 b_all:mg "all" = none
 b_bool:mg "bool" = none
 b_enumerate:mg "enumerate" = none
 b_int:mg "int" = none
 b_isinstance:mg "isinstance" = none
 b_len:mg "len" = none
 b_list:mg "list" = none
 b_max:mg "max" = none
 b_min:mg "min" = none
 b_range:mg "range" = none
 b_str:mg "str" = none
 b_sum:mg "sum" = none
 b_tuple:mg "tuple" = none
end Law
namespace Law
open PySem L2 L3 Rw
section
variable {P:Program} {w:World} {K:W.Frag} {mg:Str->Option Value} {base:Heap} (T:Txt K mg)
def v01 (_:Txt K mg):Sp3:=fun ds G R=>∃ (a:Addr) (ns:List Int) (k:Nat),ds=[.ref a,.int (k:Int)] /\ u08 (G a)=some (ns.map .int) /\ ns.length<=63 /\ k<=1000 /\ ∀ (q:Addr) (G':Gp),G q=none->PuAt G' q->Grow G G'->R (.ref q) G'
def u85 (_:Txt K mg):Sp3:=fun ds G R=>∃ (pr:Addr) (m:Int),ds=[.ref pr,.int m] /\ PuAt G pr /\ 1<=m /\ m<=1000000 /\ ∀ (d:Int) (G':Gp),0<=d->d < m->PAdv pr G G'->R (.int d) G'
def w65 (_:Txt K mg):Sp3:=fun ds G R=>∃ (pr:Addr),ds=[.ref pr] /\ PuAt G pr /\ ∀ (bs:List Str) (G':Gp),1<=bs.length->bs.length<=6->(∀ b ∈ bs,nmB b=true)->bs.Nodup->PAdv pr G G'->R (.tup (bs.map .str)) G'
def vl6 (_:Txt K mg):Sp3:=fun ds G R=>∃ (pr:Addr) (W:Nat),ds=[.ref pr,.int (W:Int)] /\ PuAt G pr /\ W<=16 /\ ∀ (i:Nat) (G':Gp),i < 2 ^ W->PAdv pr G G'->R (.int (i:Int)) G'
def vc6 (_:Txt K mg):Sp3:=fun ds G R=>∃ (pr:Addr) (W:Nat) (bs:List Str),ds=[.ref pr,.int (W:Int),.tup (bs.map .str)] /\ PuAt G pr /\ W<=16 /\ 1<=bs.length /\ bs.length<=6 /\ ∀ (a:Atm) (G':Gp),okA W bs a->PAdv pr G G'->R (aD a) G'
def vl4 (_:Txt K mg):Sp3:=fun ds G R=>∃ (pr:Addr) (W:Nat) (bs:List Str),ds=[.ref pr,.int (W:Int),.tup (bs.map .str)] /\ PuAt G pr /\ W<=16 /\ 1<=bs.length /\ bs.length<=6 /\ ∀ (r:Rowp) (G':Gp),okR W bs r->wtR r=1->szR r=1->depR r=0->PAdv pr G G'->R (rowD r) G'
def vl3 (_:Txt K mg):Sp3:=fun ds G R=>∃ (op rh:Addr) (f:Fr) (fs:List Fr) (rows:List Rowp),ds=[.ref op,.ref rh] /\ G op=some (.lst ((fs.map frD).reverse++[frD f])) /\ G f.p=some (.lst (u20 f.ahead)) /\ G rh=some (.lst (u20 rows)) /\ fs.length<=100 /\ rows.length<=1000 /\ f.ahead.length<=1000 /\ ∀ (q:Addr) (G':Gp),G q=none->G' q=some (.lst (u20 (shF f fs rows).2))->G' op=some (.lst (((shF f fs rows).1.map frD).reverse))->Kp op G G'->R (.ref q) G'
def w63 (_:Txt K mg):Sp3:=fun ds G R=>∃ (a:Addr) (ns:List Int) (W:Nat) (bs:List Str) (most:Nat),ds=[.ref a,.int (W:Int),.tup (bs.map .str),.int (most:Int)] /\ u08 (G a)=some (ns.map .int) /\ ns.length<=63 /\ W<=16 /\ 1<=bs.length /\ bs.length<=6 /\ most<=60 /\ ∀ (rows:List Rowp) (G':Gp),okL W bs rows->depL rows<=5->wtL rows<=120->szL rows<=60->Grow G G'->R (.tup (u20 rows)) G'
def w64 (_:Txt K mg):Sp3:=fun ds G R=>∃ (a:Addr) (ns:List Int),ds=[.ref a] /\ u08 (G a)=some (ns.map .int) /\ ns.length<=63 /\ ∀ (W:Nat) (bs:List Str) (rows:List Rowp) (G':Gp),1<=W->W<=16->1<=bs.length->bs.length<=6->(∀ b ∈ bs,nmB b=true)->bs.Nodup->okL W bs rows->depL rows<=5->wtL rows<=120->szL rows<=60->Grow G G'->R (.tup [.int (W:Int),.tup (bs.map .str),.tup (u20 rows)]) G'
theorem um7 {G:Gp} {a:Addr} {ns:List Int} {k:Nat} {q:DK} (h:u08 (G a)=some (ns.map .int)) (hl:ns.length<=63) (hk:k<=1000) (c:∀ (q':Addr) (G':Gp),G q'=none->PuAt G' q'->Grow G G'->q (.ref q') G'):∃ R,v01 T [.ref a,.int (k:Int)] G R /\ ∀ d G',R d G'->q d G' :=
 u15 (post:=fun d G'=>∃ q',d=.ref q' /\ G q'=none /\ PuAt G' q' /\ Grow G G') (fun R h'=>⟨a,ns,k,rfl,h,hl,hk,fun q' G' x y z=>h' _ _ ⟨q',rfl,x,y,z⟩⟩) fun d G' ⟨q',e,x,y,z⟩=>by subst e;exact c q' G' x y z
theorem u25 {G:Gp} {pr:Addr} {m:Int} {q:DK} (h:PuAt G pr) (h1:1<=m) (h2:m<=1000000) (c:∀ (d:Int) (G':Gp),0<=d->d < m->PAdv pr G G'->q (.int d) G'):∃ R,u85 T [.ref pr,.int m] G R /\ ∀ d G',R d G'->q d G' :=
 u15 (post:=fun d G'=>∃ i,d=.int i /\ 0<=i /\ i < m /\ PAdv pr G G') (fun R h'=>⟨pr,m,rfl,h,h1,h2,fun i G' x y z=>h' _ _ ⟨i,rfl,x,y,z⟩⟩) fun d G' ⟨i,e,x,y,z⟩=>by subst e;exact c i G' x y z
theorem vk8 {G:Gp} {pr:Addr} {W:Nat} {q:DK} (h:PuAt G pr) (h1:W<=16) (c:∀ (i:Nat) (G':Gp),i < 2 ^ W->PAdv pr G G'->q (.int (i:Int)) G'):∃ R,vl6 T [.ref pr,.int (W:Int)] G R /\ ∀ d G',R d G'->q d G' :=
 u15 (post:=fun d G'=>∃ i:Nat,d=.int (i:Int) /\ i < 2 ^ W /\ PAdv pr G G') (fun R h'=>⟨pr,W,rfl,h,h1,fun i G' x y=>h' _ _ ⟨i,rfl,x,y⟩⟩) fun d G' ⟨i,e,x,y⟩=>by subst e;exact c i G' x y
theorem vb8 {G:Gp} {pr:Addr} {W:Nat} {bs:List Str} {q:DK} (h:PuAt G pr) (h1:W<=16) (h2:1<=bs.length) (h3:bs.length<=6) (c:∀ (a:Atm) (G':Gp),okA W bs a->PAdv pr G G'->q (aD a) G'):∃ R,vc6 T [.ref pr,.int (W:Int),.tup (bs.map .str)] G R /\ ∀ d G',R d G'->q d G' :=
 u15 (post:=fun d G'=>∃ a,d=aD a /\ okA W bs a /\ PAdv pr G G') (fun R h'=>⟨pr,W,bs,rfl,h,h1,h2,h3,fun a G' x y=>h' _ _ ⟨a,rfl,x,y⟩⟩) fun d G' ⟨a,e,x,y⟩=>by subst e;exact c a G' x y
theorem wm5 {G:Gp} {pr:Addr} {W:Nat} {bs:List Str} {q:DK} (h:PuAt G pr) (h1:W<=16) (h2:1<=bs.length) (h3:bs.length<=6) (c:∀ (r:Rowp) (G':Gp),okR W bs r->wtR r=1->szR r=1->depR r=0->PAdv pr G G'->q (rowD r) G'):∃ R,vl4 T [.ref pr,.int (W:Int),.tup (bs.map .str)] G R /\ ∀ d G',R d G'->q d G' :=
 u15 (post:=fun d G'=>∃ r,d=rowD r /\ okR W bs r /\ wtR r=1 /\ szR r=1 /\ depR r=0 /\ PAdv pr G G') (fun R h'=>⟨pr,W,bs,rfl,h,h1,h2,h3,fun r G' x y z u v=>h' _ _ ⟨r,rfl,x,y,z,u,v⟩⟩) fun d G' ⟨r,e,x,y,z,u,v⟩=>by subst e;exact c r G' x y z u v
theorem vq1 {G:Gp} {op rh:Addr} {f:Fr} {fs:List Fr} {rows:List Rowp} {q:DK} (h1:G op=some (.lst ((fs.map frD).reverse++[frD f]))) (h2:G f.p=some (.lst (u20 f.ahead))) (h3:G rh=some (.lst (u20 rows))) (h4:fs.length<=100) (h5:rows.length<=1000) (h6:f.ahead.length<=1000) (c:∀ (q':Addr) (G':Gp),G q'=none->G' q'=some (.lst (u20 (shF f fs rows).2))->G' op=some (.lst (((shF f fs rows).1.map frD).reverse))->Kp op G G'->q (.ref q') G'):∃ R,vl3 T [.ref op,.ref rh] G R /\ ∀ d G',R d G'->q d G' :=
 u15 (post:=fun d G'=>∃ q',d=.ref q' /\ G q'=none /\ G' q'=some (.lst (u20 (shF f fs rows).2)) /\ G' op=some (.lst (((shF f fs rows).1.map frD).reverse)) /\ Kp op G G') (fun R h'=>⟨op,rh,f,fs,rows,rfl,h1,h2,h3,h4,h5,h6,fun q' G' x y z u=>h' _ _ ⟨q',rfl,x,y,z,u⟩⟩) fun d G' ⟨q',e,x,y,z,u⟩=>by subst e;exact c q' G' x y z u
theorem nI (k:Int):Str.ofString (toString k)=numI k:=rfl
theorem wi5 {k:Nat} (h:k<=9999999999):((numI (k:Int)).length<=sizeLine)=True:=eq_true (Nat.le_trans (v56 h) (by decide))
def v04 (_:Txt K mg):Sp3:=fun ds G R=>∃ x:Str,ds=[.str x] /\ x.length<=10000 /\ ∀ G',Grow G G'->R (.bl (nmB x)) G'
theorem vb7 {G:Gp} {x:Str} {q:DK} (h:x.length<=10000) (c:∀ G':Gp,Grow G G'->q (.bl (nmB x)) G'):∃ R,v04 T [.str x] G R /\ ∀ d G',R d G'->q d G' :=
 u15 (post:=fun d G'=>d=.bl (nmB x) /\ Grow G G') (fun R h'=>⟨x,rfl,h,fun G' z=>h' _ _ ⟨rfl,z⟩⟩) fun d G' ⟨e,z⟩=>by subst e;exact c G' z
def lnsL (rs:List Rowp):List Str:=(tkL rs).map lnT
def lnsR (r:Rowp):List Str:=(tkR r).map lnT
def prL (W:Nat) (bs:List Str) (rs:List Rowp):List Str:=jn " " ["wide",numI (W:Int)]::jn " " ("boxes" :: bs)::lnsL rs
def prT (W:Nat) (bs:List Str) (rs:List Rowp):Str:=jn "\n" (prL W bs rs)
def prD (W:Nat) (bs:List Str) (rs:List Rowp):D:=.tup [.int (W:Int),.tup (bs.map .str),.tup (u20 rs)]
structure PrOk (W:Nat) (bs:List Str) (rs:List Rowp):Prop where
 w1:1<=W
 w2:W<=16
 b1:1<=bs.length
 b2:bs.length<=6
 bn:∀ b ∈ bs,nmB b=true
 t:tL rs
 d:depL rs<=5
 s:szL rs<=200
def w56 (_:Txt K mg) (dp:Nat):Sp3:=fun ds G R=>∃ r:Rowp,ds=[rowD r] /\ tR r /\ depR r<=dp /\ szR r<=200 /\ ∀ (q:Addr) (G':Gp),G q=none->G' q=some (.lst ((lnsR r).map .str))->Grow G G'->R (.ref q) G'
def uz9 (_:Txt K mg) (dp:Nat):Sp3:=fun ds G R=>∃ rs:List Rowp,ds=[.tup (u20 rs)] /\ tL rs /\ depL rs < dp /\ szL rs<=200 /\ ∀ (q:Addr) (G':Gp),G q=none->G' q=some (.lst ((lnsL rs).map .str))->Grow G G'->R (.ref q) G'
def wn2 (T:Txt K mg):Sp3:=uz9 T 8
theorem wn5 {n:Nat}:Ok P w mg base n T.f_jbh (uz9 T 0):=vo8 (by rintro ds G R ⟨_,_,_,h,_⟩;omega)
theorem um8 {dp:Nat} {G:Gp} {rs:List Rowp} {q:DK} (h1:tL rs) (h2:depL rs < dp) (h3:szL rs<=200) (c:∀ (q':Addr) (G':Gp),G q'=none->G' q'=some (.lst ((lnsL rs).map .str))->Grow G G'->q (.ref q') G'):∃ R,uz9 T dp [.tup (u20 rs)] G R /\ ∀ d G',R d G'->q d G' :=
 u15 (post:=fun d G'=>∃ q',d=.ref q' /\ G q'=none /\ G' q'=some (.lst ((lnsL rs).map .str)) /\ Grow G G') (fun R h=>⟨rs,rfl,h1,h2,h3,fun q' G' x y z=>h _ _ ⟨q',rfl,x,y,z⟩⟩) fun d G' ⟨q',e,x,y,z⟩=>by subst e;exact c q' G' x y z
theorem vk7 {dp:Nat} {G:Gp} {r:Rowp} {q:DK} (h1:tR r) (h2:depR r<=dp) (h3:szR r<=200) (c:∀ (q':Addr) (G':Gp),G q'=none->G' q'=some (.lst ((lnsR r).map .str))->Grow G G'->q (.ref q') G'):∃ R,w56 T dp [rowD r] G R /\ ∀ d G',R d G'->q d G' :=
 u15 (post:=fun d G'=>∃ q',d=.ref q' /\ G q'=none /\ G' q'=some (.lst ((lnsR r).map .str)) /\ Grow G G') (fun R h=>⟨r,rfl,h1,h2,h3,fun q' G' x y z=>h _ _ ⟨q',rfl,x,y,z⟩⟩) fun d G' ⟨q',e,x,y,z⟩=>by subst e;exact c q' G' x y z
def vl0 (_:Txt K mg):Sp3:=fun ds G R=>∃ (W:Nat) (bs:List Str) (rs:List Rowp),ds=[prD W bs rs] /\ PrOk W bs rs /\ ∀ G',Grow G G'->R (.str (prT W bs rs)) G'
def v00 (_:Txt K mg) (dp:Nat):Sp3:=fun ds G R=>∃ rs:List Rowp,ds=[.tup (u20 rs)] /\ tL rs /\ depL rs < dp /\ szL rs<=200 /\ ∀ (q:Addr) (G':Gp),G q=none->G' q=some (.lst ((lnsL rs).map .str))->Grow G G'->R (.ref q) G'
def wn3 (T:Txt K mg):Sp3:=v00 T 8
theorem wn6 {n:Nat}:Ok P w mg base n T.f_jbe (v00 T 0):=vo8 (by rintro ds G R ⟨_,_,_,h,_⟩;omega)
theorem ux3 {dp:Nat} {G:Gp} {rs:List Rowp} {q:DK} (h1:tL rs) (h2:depL rs < dp) (h3:szL rs<=200) (c:∀ (q':Addr) (G':Gp),G q'=none->G' q'=some (.lst ((lnsL rs).map .str))->Grow G G'->q (.ref q') G'):∃ R,v00 T dp [.tup (u20 rs)] G R /\ ∀ d G',R d G'->q d G' :=
 u15 (post:=fun d G'=>∃ q',d=.ref q' /\ G q'=none /\ G' q'=some (.lst ((lnsL rs).map .str)) /\ Grow G G') (fun R h=>⟨rs,rfl,h1,h2,h3,fun q' G' x y z=>h _ _ ⟨q',rfl,x,y,z⟩⟩) fun d G' ⟨q',e,x,y,z⟩=>by subst e;exact c q' G' x y z
def w66 (_:Txt K mg):Sp3:=fun ds G R=>∃ (W:Nat) (bs:List Str) (rs:List Rowp),ds=[prD W bs rs] /\ PrOk W bs rs /\ ∀ (q:Addr) (G':Gp),G q=none->G' q=some (.lst ((prL W bs rs).map .str))->Grow G G'->R (.ref q) G'
def vm2:Sp3:=fun ds G R=>∃ (p:Addr) (h:List D) (m:Nat),ds=[.ref p,.tup h,.int (m:Int)] /\ G p=some (.ins T.c_Block.C []) /\ ∀ (wp w:Addr) (G':Gp),G wp=none->G w=none->wp ≠ w->G' p=some (insD T.c_Block.C h m wp)->G' wp=some (.lst [.ref w])->G' w=some (.lst [])->(∀ b o,b ≠ p->G b=some o->G' b=some o)->R .non G'
def vm1:Sp3:=fun ds G R=>∃ (f:Fm) (a:Fa),ds=[.ref a.p] /\ FAt T.c_Block.C G f a /\ R (.bl (decide (f.ws.length=f.most))) G
def vm0:Sp3:=fun ds G R=>∃ (f:Fm) (a:Fa) (r:Rowp),ds=[.ref a.p,rowD r] /\ FAt T.c_Block.C G f a /\ f.cu.length<=1000 /\ R .non (gup G a.w (.lst (u20 (f.cu++[r]))))
def vl9:Sp3:=fun ds G R=>∃ (f:Fm) (a:Fa),ds=[.ref a.p] /\ FAt T.c_Block.C G f a /\ f.hd ≠ [] /\ f.hd.length<=5 /\ ∀ G',Grow G G'->R (.tup (f.hd++f.ws.map fun w=>.tup (u20 w))) G'
def K04:List Str->Prop:=fun ws=>(∀ x ∈ ws,x.length<=10000) /\ ws.length<=10000
def opn:Ln->Prop
 | .cho _=>True
 | .tim _=>True
 | _=>False
def w71:Sp3:=fun ds G R=>∃ (bp:Addr) (G0:Gp) (S:List Fm) (as:List Fa),ds=[.ref bp] /\ Stk T.c_Block.C G0 G bp S as /\ wfS S /\ mS S<=1000 /\ (∀ S',stpL .els S=some S'->∀ (as':List Fa) (G':Gp),Stk T.c_Block.C G0 G' bp S' as'->R (.bl true) G') /\ (stpL .els S=none->R (.bl false) G)
def w70:Sp3:=fun ds G R=>∃ (bp:Addr) (G0:Gp) (S:List Fm) (as:List Fa),ds=[.ref bp] /\ Stk T.c_Block.C G0 G bp S as /\ wfS S /\ mS S<=1000 /\ (∀ S',stpL .en S=some S'->∀ (as':List Fa) (G':Gp),Stk T.c_Block.C G0 G' bp S' as'->R (.bl true) G') /\ (stpL .en S=none->R (.bl false) G)
def w60:Sp3:=fun ds G R=>∃ (wa bp:Addr) (G0:Gp) (S:List Fm) (as:List Fa) (u v:Str),ds=[.ref wa,.ref bp] /\ G wa=some (.lst [.str u,.str v]) /\ v.length<=10000 /\ Stk T.c_Block.C G0 G bp S as /\ mS S<=1000 /\ (∀ l S',okLn l->[u,v]=wdL l->stpL l S=some S'->∀ (as':List Fa) (G':Gp),Stk T.c_Block.C G0 G' bp S' as'->R (.bl true) G') /\ ((∀ l,okLn l->[u,v] ≠ wdL l)->∀ G',Grow G G'->R (.bl false) G')
def w55:Sp3:=fun ds G R=>∃ (wa bp:Addr) (G0:Gp) (S:List Fm) (as:List Fa) (ws:List Str),ds=[.ref wa,.ref bp] /\ G wa=some (.lst (ws.map .str)) /\ K04 ws /\ Stk T.c_Block.C G0 G bp S as /\ wfS S /\ mS S<=1000 /\ (∀ l S',okLn l->ws=wdL l->stpL l S=some S'->∀ (as':List Fa) (G':Gp),Stk T.c_Block.C G0 G' bp S' as'->R (.bl true) G') /\ ((∀ l,okLn l->ws=wdL l->stpL l S=none)->∀ G',Grow G G'->R (.bl false) G')
def uz8 (_:Txt K mg):Sp3:=fun ds G R=>∃ (w:Str) (m:Nat),ds=[.str w,.int (m:Int)] /\ w.length<=100000 /\ m<=9999999999 /\ (∀ k:Nat,k<=m->w=numI (k:Int)->∀ G',Grow G G'->R (.int (k:Int)) G') /\ (¬ isK m w->∀ G',Grow G G'->R .non G')
theorem w43 {G:Gp} {w:Str} {m:Nat} {q:DK} (hw:w.length<=100000) (hm:m<=9999999999) (f:∀ (k:Nat) G',k<=m->w=numI (k:Int)->Grow G G'->q (.int (k:Int)) G') (b:∀ G',¬ isK m w->Grow G G'->q .non G'):∃ R,uz8 T [.str w,.int (m:Int)] G R /\ ∀ d G',R d G'->q d G' :=
 u15 (post:=fun d G'=>Grow G G' /\ ((∃ k:Nat,k<=m /\ w=numI (k:Int) /\ d=.int (k:Int)) \/ ¬ isK m w /\ d=.non)) (fun R h'=>⟨w,m,rfl,hw,hm,(fun k h1 h2 G' z=>h' _ _ ⟨z,.inl ⟨k,h1,h2,rfl⟩⟩),fun h1 G' z=>h' _ _ ⟨z,.inr ⟨h1,rfl⟩⟩⟩) fun d G' ⟨z,y⟩=>by
  rcases y with ⟨k,h1,h2,rfl⟩ | ⟨h1,rfl⟩
  ·exact f k G' h1 h2 z
  ·exact b G' h1 z
def isA (w:Str):Prop:=∃ a,tA a /\ w=atS a
def vc3 (_:Txt K mg):Sp3:=fun ds G R=>∃ w:Str,ds=[.str w] /\ w.length<=10000 /\ (∀ a,tA a->w=atS a->∀ G',Grow G G'->R (aD a) G') /\ (¬ isA w->∀ G',Grow G G'->R .non G')
theorem w42 {G:Gp} {w:Str} {q:DK} (hw:w.length<=10000) (f:∀ a G',tA a->w=atS a->Grow G G'->q (aD a) G') (b:∀ G',¬ isA w->Grow G G'->q .non G'):∃ R,vc3 T [.str w] G R /\ ∀ d G',R d G'->q d G' :=
 u15 (post:=fun d G'=>Grow G G' /\ ((∃ a,tA a /\ w=atS a /\ d=aD a) \/ ¬ isA w /\ d=.non)) (fun R h'=>⟨w,rfl,hw,(fun k h1 h2 G' z=>h' _ _ ⟨z,.inl ⟨k,h1,h2,rfl⟩⟩),fun h1 G' z=>h' _ _ ⟨z,.inr ⟨h1,rfl⟩⟩⟩) fun d G' ⟨z,y⟩=>by
  rcases y with ⟨k,h1,h2,rfl⟩ | ⟨h1,rfl⟩
  ·exact f k G' h1 h2 z
  ·exact b G' h1 z
def isS (ws:List Str):Prop:=∃ r,okLn (.set r) /\ ws=wdL (.set r)
def w58 (_:Txt K mg):Sp3:=fun ds G R=>∃ (wa:Addr) (ws:List Str),ds=[.ref wa] /\ G wa=some (.lst (ws.map .str)) /\ K04 ws /\ (∀ r,okLn (.set r)->ws=wdL (.set r)->∀ G',Grow G G'->R (rowD r) G') /\ (¬ isS ws->∀ G',Grow G G'->R .non G')
def w57 (T:Txt K mg):Spx3:=fun ds G R r=>∃ (la:Addr) (l0:Str) (ls:List Str),ds=[.ref la] /\ G la=some (.lst ((l0::ls).map .str)) /\ l0.length<=5000 /\ (∀ W:Nat,1<=W->W<=16->Txt.split l0 " " = [("wide" : Str),numI (W:Int)]->∀ G',Grow G G'->R (.int (W:Int)) G') /\ (¬ isH0 l0->∀ G',Grow G G'->r T.e_BadText.C [("at",.int 0)] G')
def w59 (T:Txt K mg):Spx3:=fun ds G R r=>∃ (la:Addr) (l0:Str) (ls:List Str),ds=[.ref la] /\ G la=some (.lst ((l0::ls).map .str)) /\ (∀ x ∈ ls,x.length<=5000) /\ ls.length<=1000 /\ (∀ (y:Str) (lt bs:List Str),ls=y::lt->1<=bs.length->bs.length<=6->(∀ b ∈ bs,nmB b=true)->Txt.split y " " = ("boxes" : Str)::bs->∀ G',Grow G G'->R (.tup (bs.map .str)) G') /\ ((∀ y lt,ls=y::lt->¬ isH1 y)->∀ G',Grow G G'->r T.e_BadText.C [("at",.int 1)] G')
def TxOk (t:Str):Prop:=t.length<=3000000 /\ (Txt.split t "\n").length<=900 /\ ∀ x ∈ Txt.split t "\n",x.length<=5000
def vc4 (T:Txt K mg):Spx3:=fun ds G R r=>∃ t:Str,ds=[.str t] /\ TxOk t /\ (fwT (Txt.split t "\n") = none -> ∀ (W : Nat) (bs : List Str) (rs : List Rowp), 1 <= W -> W <= 16 -> 1 <= bs.length -> bs.length <= 6 -> (∀ b ∈ bs, nmB b = true) -> tL rs -> Txt.split t "\n"=prL W bs rs->∀ G',Grow G G'->R (prD W bs rs) G') /\ (∀ i:Nat,fwT (Txt.split t "\n") = some i -> ∀ G', Grow G G' -> r T.e_BadText.C [("at",.int (i:Int))] G')
def fine (x:Str):Prop:=10 ∉ x.cps.toList
def v02 (_:Txt K mg):Sp3:=fun ds G R=>∃ (w:Str) (m:Nat),ds=[.str w,.int (m:Int)] /\ w.length<=10000 /\ m<=99999 /\ (isK m w->∀ G',Grow G G'->R (.bl true) G') /\ (¬ isK m w->∀ G',Grow G G'->R (.bl false) G')
theorem w44 {G:Gp} {w:Str} {m:Nat} {q:DK} (hw:w.length<=10000) (hm:m<=99999) (f:∀ G',isK m w->Grow G G'->q (.bl true) G') (b:∀ G',¬ isK m w->Grow G G'->q (.bl false) G'):∃ R,v02 T [.str w,.int (m:Int)] G R /\ ∀ d G',R d G'->q d G' :=
 u15 (post:=fun d G'=>Grow G G' /\ (isK m w /\ d=.bl true \/ ¬ isK m w /\ d=.bl false)) (fun R h'=>⟨w,m,rfl,hw,hm,(fun h1 G' z=>h' _ _ ⟨z,.inl ⟨h1,rfl⟩⟩),fun h1 G' z=>h' _ _ ⟨z,.inr ⟨h1,rfl⟩⟩⟩) fun d G' ⟨z,y⟩=>by
  rcases y with ⟨h1,rfl⟩ | ⟨h1,rfl⟩
  ·exact f G' h1 z
  ·exact b G' h1 z
def v03 (_:Txt K mg):Sp3:=fun ds G R=>∃ x:Str,ds=[.str x] /\ x.length<=10000 /\ ∀ G',Grow G G'->R (.bl (nmB x)) G'
theorem ut1 {G:Gp} {x:Str} {q:DK} (h:x.length<=10000) (c:∀ G':Gp,Grow G G'->q (.bl (nmB x)) G'):∃ R,v03 T [.str x] G R /\ ∀ d G',R d G'->q d G' :=
 u15 (post:=fun d G'=>d=.bl (nmB x) /\ Grow G G') (fun R h'=>⟨x,rfl,h,fun G' z=>h' _ _ ⟨rfl,z⟩⟩) fun d G' ⟨e,z⟩=>by subst e;exact c G' z
def vc5 (_:Txt K mg):Sp3:=fun ds G R=>∃ w:Str,ds=[.str w] /\ w.length<=10000 /\ (isA w->∀ G',Grow G G'->R (.bl true) G') /\ (¬ isA w->∀ G',Grow G G'->R (.bl false) G')
theorem w45 {G:Gp} {w:Str} {q:DK} (hw:w.length<=10000) (f:∀ G',isA w->Grow G G'->q (.bl true) G') (b:∀ G',¬ isA w->Grow G G'->q (.bl false) G'):∃ R,vc5 T [.str w] G R /\ ∀ d G',R d G'->q d G' :=
 u15 (post:=fun d G'=>Grow G G' /\ (isA w /\ d=.bl true \/ ¬ isA w /\ d=.bl false)) (fun R h'=>⟨w,rfl,hw,(fun h1 G' z=>h' _ _ ⟨z,.inl ⟨h1,rfl⟩⟩),fun h1 G' z=>h' _ _ ⟨z,.inr ⟨h1,rfl⟩⟩⟩) fun d G' ⟨z,y⟩=>by
  rcases y with ⟨h1,rfl⟩ | ⟨h1,rfl⟩
  ·exact f G' h1 z
  ·exact b G' h1 z
def vl7 (_:Txt K mg):Sp3:=fun ds G R=>∃ (wa:Addr) (ws:List Str),ds=[.ref wa] /\ G wa=some (.lst (ws.map .str)) /\ K04 ws /\ (isS ws->∀ G',Grow G G'->R (.bl true) G') /\ (¬ isS ws->∀ G',Grow G G'->R (.bl false) G')
def isH:Nat->Str->Prop
 | 0,x=>isH0 x
 | _,x=>isH1 x
def vl8 (_:Txt K mg):Sp3:=fun ds G R=>∃ (x:Str) (k:Nat),ds=[.str x,.int (k:Int)] /\ x.length<=5000 /\ k<=1 /\ (isH k x->∀ G',Grow G G'->R (.bl true) G') /\ (¬ isH k x->∀ G',Grow G G'->R (.bl false) G')
def tgT:Nat->Str
 | 0 => "choose"
 | 1 => "else"
 | _ => "times"
def opD (t:List Nat):List D:=(t.map fun k=>D.str (tgT k)).reverse
def w62 (_:Txt K mg):Sp3:=fun ds G R=>∃ (x:Str) (op:Addr) (t:List Nat),ds=[.str x,.ref op] /\ G op=some (.lst (opD t)) /\ x.length<=5000 /\ t.length<=1000 /\ (∀ k ∈ t,k < 3) /\ (∀ t',stW x t=some t'->∀ G',G' op=some (.lst (opD t'))->Kp op G G'->R (.bl true) G') /\ (stW x t=none->∀ G',Kp op G G'->R (.bl false) G')
def owD:Option Nat->D
 | none=>.non
 | some i=>.int (i:Int)
def w61 (_:Txt K mg):Sp3:=fun ds G R=>∃ (la:Addr) (ls:List Str),ds=[.ref la] /\ G la=some (.lst (ls.map .str)) /\ (∀ x ∈ ls,x.length<=5000) /\ ls.length<=900 /\ ls ≠ [] /\ ∀ G',Grow G G'->R (owD (fwT ls)) G'
def w68 (_:Txt K mg):Sp3:=fun ds G R=>∃ (la:Addr) (ls:List Str),ds=[.ref la] /\ G la=some (.lst (ls.map .str)) /\ (∀ x ∈ ls,x.length<=5000) /\ R (.int (dpT ls 0 0:Int)) G
def vl1 (_:Txt K mg):Sp3:=fun ds G R=>∃ (pr:Addr) (w:Str),ds=[.ref pr,.str w] /\ PuAt G pr /\ w.length<=5000 /\ fine w /\ ∀ (x:Str) (G':Gp),PAdv pr G G'->x.length<=2 * w.length+9->fine x->R (.str x) G'
def vl5 (_:Txt K mg):Sp3:=fun ds G R=>∃ (pr:Addr),ds=[.ref pr] /\ PuAt G pr /\ ∀ (x:Str) (G':Gp),PAdv pr G G'->x.length<=20->fine x->R (.str x) G'
structure LnsOk (n B:Nat) (ls:List Str):Prop where
 l:∀ x ∈ ls,fine x /\ x.length<=B
 a:1<=ls.length
 b:ls.length<=n
def w67 (_:Txt K mg):Sp3:=fun ds G R=>∃ (la pr:Addr) (n B:Nat) (ls:List Str),ds=[.ref la,.ref pr] /\ PuAt G pr /\ G la=some (.lst (ls.map .str)) /\ LnsOk n B ls /\ n<=800 /\ B<=2000 /\ la ≠ pr /\ ∀ (q:Addr) (ls':List Str) (G':Gp),PAdv pr G G'->LnsOk n (B+30) ls'->G' q=some (.lst (ls'.map .str))->q ≠ pr->R (.ref q) G'
def w69 (_:Txt K mg):Sp3:=fun ds G R=>∃ (la pr:Addr) (n B:Nat) (ls:List Str),ds=[.ref la,.ref pr] /\ PuAt G pr /\ G la=some (.lst (ls.map .str)) /\ LnsOk n B ls /\ n<=800 /\ B<=1000 /\ la ≠ pr /\ ∀ (q:Addr) (ls':List Str) (G':Gp),PAdv pr G G'->LnsOk (n+1) (3 * B+30) ls'->G' q=some (.lst (ls'.map .str))->q ≠ pr->R (.ref q) G'
def vl2 (_:Txt K mg):Sp3:=fun ds G R=>∃ t:Str,ds=[.str t] /\ TxOk t /\ ∀ G',Grow G G'->R (owD (fwT (Txt.split t "\n"))) G'
def w54 (_:Txt K mg):Sp3:=fun ds G R=>∃ (a:Addr) (ns:List Int),ds=[.ref a] /\ G a=some (.fro (ns.map .int)) /\ ns.length<=63 /\ ∀ G',R (.bl true) G'
theorem Kp.refl {p:Addr} {G:Gp}:Kp p G G:=fun _ _ _ e=>e
theorem Kp.grow {p:Addr} {G G1 G2:Gp} (k:Kp p G G1) (g:Grow G1 G2):Kp p G G2:=fun c o n e=>g.kp _ _ (k c o n e)
theorem mj {G:Gp} {p:Addr} {ws:List Str} {q:DK} (h:G p=some (.lst (ws.map .str))) (hw:∀ x ∈ ws,wd x) (hl:ws.length<=7) (k:q (.str (jn " " ws)) G):v66 (.str " ") [.ref p] G q:=by
 obtain ⟨f1,f2⟩:=ue3 sp1 (B:=11) (N:=7) (ws:=ws) (fun w m=>(hw w m).1) hl (by decide);exact ⟨_,p,ws,rfl,rfl,by rw [h];rfl,f1,f2,k⟩
theorem toS {G:Gp} {a:Atm} {q:DK} (h:tA a) (k:q (.str (atS a)) G):uk9 [aD a] G q:=by
 cases a with
 | num i=>exact ⟨logI (by omega) (by have:i<=65535:=h;omega),k⟩
 | box x=>exact k
theorem toI {G:Gp} {k:Nat} {q:DK} (h:k<=65535) (c:q (.str (numI (k:Int))) G):uk9 [.int (k:Int)] G q:=⟨logI (by omega) (by omega),c⟩
theorem u64 {rs:List Rowp} (h:szL rs<=200):((lnsL rs).map D.str).length<=600:=by
 unfold lnsL;rw [List.length_map,List.length_map];have:=u99 rs;omega
theorem vj0 {r:Rowp} (h:szR r<=200):((lnsR r).map D.str).length<=600:=by
 unfold lnsR;rw [List.length_map,List.length_map];have:=v19 r;omega
theorem add_l {G:Gp} {a b:Addr} {xs ys:List D} {q:DK} (h1:G a=some (.lst xs)) (h2:G b=some (.lst ys)) (hl:xs.length+ys.length<=10000) (k:∀ p,G p=none->q (.ref p) (gup G p (.lst (xs++ys)))):xAdd (.ref a) (.ref b) G q:=by
 show (match G a,G b with | some (.lst xs),some (.lst ys)=>xs.length+ys.length<=sizeLine /\ ∀ p,G p=none->q (.ref p) (gup G p (.lst (xs++ys))) | _,_=>False)
 rw [h1,h2];exact ⟨Nat.le_trans hl (by decide),k⟩
theorem bad3 {x y:Str} (h:x ≠ y):(x=y)=False:=eq_false h
theorem wr2 {i:Nat}:nmB (numI (i:Int))=false:=by
 obtain ⟨c,r,hc,_⟩:=uf9 i;have h1:=uw3 (k:=i) (c:=c) (by rw [hc];simp);cases e:nmB (numI (i:Int)) with
 | false=>rfl
 | true =>
  unfold nmB at e;simp only [Bool.and_eq_true] at e;have:=List.all_eq_true.mp e.2 c (by rw [hc];simp);simp only [Bool.and_eq_true,decide_eq_true_eq] at this;omega
theorem mjn {G:Gp} {p:Addr} {ws:List Str} {q:DK} (h:G p=some (.lst (ws.map .str))) (hw:∀ x ∈ ws,x.length<=90) (hl:ws.length<=700) (k:q (.str (jn "\n" ws)) G) : v66 (.str "\n") [.ref p] G q:=by
 obtain ⟨f1, f2⟩:=ue3 nl1 (B:=90) (N:=700) (ws:=ws) hw hl (by decide);exact ⟨_, p, ws, rfl, rfl, by rw [h];rfl, f1, f2, k⟩
theorem vd5 {bs:List Str} (h:∀ b ∈ bs, nmB b=true):∀ x ∈ (("boxes" : Str)::bs), wd x:=fun x hx=>by
 rcases List.mem_cons.mp hx with e | e
 ·rw [e];exact wd_lits.2.2.2.2.2.2
 ·exact ux7 (h x e)
theorem vd4 {W:Nat} (h:W<=16):∀ x ∈ ([("wide" : Str),numI (W:Int)]:List Str),wd x:=fun x hx=>by
 simp only [List.mem_cons,List.not_mem_nil,or_false] at hx
 rcases hx with e | e
 ·rw [e];exact wd_lits.2.2.2.2.2.1
 ·rw [e];exact um9 (by omega)
theorem vo5 {W:Nat} {bs:List Str} {rs:List Rowp} (O:PrOk W bs rs):∀ x ∈ prL W bs rs,10 ∉ x.cps.toList /\ x.length<=90:=fun x hx=>by
 unfold prL at hx
 rcases List.mem_cons.mp hx with e | hx
 ·rw [e];exact ⟨us0 (vd4 O.w2),uv4 (vd4 O.w2) (by simp)⟩
 rcases List.mem_cons.mp hx with e | hx
 ·rw [e];exact ⟨us0 (vd5 O.bn),uv4 (vd5 O.bn) (by have:=O.b2;simp;omega)⟩
 ·obtain ⟨l,hl,rfl⟩:=List.mem_map.mp hx
  exact wj3 (uf2 rs O.t l hl)
theorem vx7 {W:Nat} {bs:List Str} {rs:List Rowp} (O:PrOk W bs rs):(prL W bs rs).length<=602:=by
 have:=u99 rs;have:=O.s;unfold prL lnsL;rw [List.length_cons,List.length_cons,List.length_map];omega
theorem spA {s:Str} {ws:List Str} {G:Gp} {q:DK} (hs:s.length<=sizeLine) (e:Txt.split s " " = ws) (hl:ws.length<=10000) (k:∀ p,G p=none->q (.ref p) (gup G p (.lst (ws.map .str)))):um1 (.str s) [.str " "] G q :=
 ⟨s,_,rfl,rfl,by decide,hs,by rw [e];exact Nat.le_trans hl (by decide),fun p hp=>by rw [e];exact k p hp⟩
theorem spN {s:Str} {ws:List Str} {G:Gp} {q:DK} (hs:s.length<=sizeLine) (e:Txt.split s "\n" = ws) (hl : ws.length <= 10000) (k : ∀ p, G p = none -> q (.ref p) (gup G p (.lst (ws.map .str)))) : um1 (.str s) [.str "\n"] G q :=
 ⟨s, _, rfl, rfl, by decide, hs, by rw [e];exact Nat.le_trans hl (by decide), fun p hp=>by rw [e];exact k p hp⟩
theorem wr0 {l:Ln} (h:okLn l) (n:l ≠ .els):wdL l ≠ [("else" : Str)]:=by
 cases l with
 | set r=>cases r <;> first | exact h.elim | (intro e;cases e)
 | cho a=>intro e;cases e
 | tim k=>intro e;cases e
 | els=>exact absurd rfl n
 | en=>intro e;exact absurd (List.cons.inj e).1 (by decide)
theorem wr5 {l:Ln} (h:okLn l) (n:l ≠ .en):wdL l ≠ [("end" : Str)]:=by
 cases l with
 | set r=>cases r <;> first | exact h.elim | (intro e;cases e)
 | cho a=>intro e;cases e
 | tim k=>intro e;cases e
 | en=>exact absurd rfl n
 | els=>intro e;exact absurd (List.cons.inj e).1 (by decide)
theorem w26 {G:Gp} {a b:Addr} {xs ys:List D} {q:DK} (h1:G a=some (.lst xs)) (h2:G b=some (.lst ys)) (hl:xs.length+ys.length<=10000) (k:q .non (gup G a (.lst (xs++ys)))):ug1 (.ref a) [.ref b] G q:=by
 show (match G a,G b with | some (.lst xs),some (.lst ys)=>xs.length+ys.length<=sizeLine /\ q .non (gup G a (.lst (xs++ys))) | _,_=>False)
 rw [h1,h2];exact ⟨Nat.le_trans hl (by decide),k⟩
theorem wr3 {G:Gp} {a:Addr} {xs ys:List D} {q:DK} (h1:G a=some (.lst xs)) (hl:xs.length+ys.length<=10000) (k:q .non (gup G a (.lst (xs++ys)))):wq3 (.ref a) [.tup ys] G q:=by
 show (match G a with | some (.lst xs)=>xs.length+ys.length<=sizeLine /\ q .non (gup G a (.lst (xs++ys))) | _=>False)
 rw [h1];exact ⟨Nat.le_trans hl (by decide),k⟩
theorem jnc (a b:Str) (r:List Str):jn " " (a::b::r)=a ++ " " ++ jn " " (b::r):=by
 apply ua1;have e:∀ ws,jn " " ws=Str.join " " ws:=fun ws=>StrLaws.glued_eq_join _ _
 rw [u66,u66,e,e,blank,u47,List.append_assoc];rfl
theorem j3 (x s:Str):x ++ " = " ++ s=jn " " [x, "=",s]:=by
 rw [jnc,jnc,v80];apply ua1;simp only [u66,List.append_assoc];rw [show (" = " : Str).cps.toList=(" " : Str).cps.toList++(("=" : Str).cps.toList++(" " : Str).cps.toList) by decide];simp only [List.append_assoc]
theorem jw {a b:Str} (e:a.cps.toList=b.cps.toList++(" " : Str).cps.toList) (s:Str) (r:List Str):a++jn " " (s::r)=jn " " (b::s::r):=by
 rw [jnc];apply ua1;simp only [u66,List.append_assoc];rw [e];simp only [List.append_assoc]
theorem jw1 {a b:Str} (e:a.cps.toList=b.cps.toList++(" " : Str).cps.toList) (s:Str):a++s=jn " " [b,s]:=by
 have:=jw e s [];rw [v80] at this;exact this
theorem ut5 {a b:Str} {G:Gp} {q:DK} (h:a.length+b.length<=10000) (k:q (.str (a++b)) G):xAdd (.str a) (.str b) G q:=by
 rw [addS];exact ⟨Nat.le_trans h (by decide),k⟩
theorem w51 (a b:Str):(a++b).length=a.length+b.length:=by rw [str_len,u66,List.length_append,<- str_len,<- str_len]
theorem pwW (W:Nat):(1:Int) * 2 ^ ((W:Int)).toNat=((2 ^ W:Nat):Int):=by simp
theorem go_i {f:DSt->Gp->Prop} {s:DSt} {G:Gp} (h:f s G):Go f s G:=h
theorem le_0 {c:Nat}:(!decide (([c]:List Nat) < ("0" : Str).cps.toList))=decide (48<=c):=by
 rw [show ("0" : Str).cps.toList=[48] by decide,Bool.eq_iff_iff,Bool.not_eq_true',decide_eq_false_iff_not,decide_eq_true_iff];simp [List.cons_lt_cons_iff]
theorem le_9 {c:Nat}:(!decide (("9" : Str).cps.toList < ([c]:List Nat)))=decide (c<=57):=by
 rw [show ("9" : Str).cps.toList=[57] by decide,Bool.eq_iff_iff,Bool.not_eq_true',decide_eq_false_iff_not,decide_eq_true_iff];simp [List.cons_lt_cons_iff]
theorem dv5 {l:List Nat} (h:∀ c ∈ l,48<=c /\ c<=57) (hl:l.length<=5):NumText.digitsVal l<=99999:=by
 match l,h,hl with
 | [],_,_=>exact Nat.zero_le _
 | [a],h,_ =>
  have:=h a (by simp)
  show 0 * 10+(a - 48)<=_;omega
 | [a,b],h,_ =>
  have:=h a (by simp);have:=h b (by simp)
  show (0 * 10+(a - 48)) * 10+(b - 48)<=_;omega
 | [a,b,c],h,_ =>
  have:=h a (by simp);have:=h b (by simp);have:=h c (by simp)
  show ((0 * 10+(a - 48)) * 10+(b - 48)) * 10+(c - 48)<=_;omega
 | [a,b,c,d],h,_ =>
  have:=h a (by simp);have:=h b (by simp);have:=h c (by simp);have:=h d (by simp)
  show (((0 * 10+(a - 48)) * 10+(b - 48)) * 10+(c - 48)) * 10+(d - 48)<=_;omega
 | [a,b,c,d,e],h,_ =>
  have:=h a (by simp);have:=h b (by simp);have:=h c (by simp);have:=h d (by simp);have:=h e (by simp)
  show ((((0 * 10+(a - 48)) * 10+(b - 48)) * 10+(c - 48)) * 10+(d - 48)) * 10+(e - 48)<=_;omega
 | a::b::c::d::e::f::r,_,hl=>simp only [List.length_cons] at hl;omega
theorem vs8 {x:Str} {t t':List Nat} (h:stW x t=some t'):t'.length<=t.length+1 /\ ((∀ k ∈ t,k < 3)->∀ k ∈ t',k < 3):=by
 obtain ⟨l,_,h⟩:=Option.bind_eq_some_iff.mp (show (lnW (Txt.split x " ")).bind (fun l=>stT l t)=some t' from h);unfold stT at h;split at h
 ·cases h;exact ⟨by omega,fun z=>z⟩
 ·cases h;exact ⟨by simp,fun z k hk=>(List.mem_cons.mp hk).elim (fun e=>by omega) (z k)⟩
 ·cases h;exact ⟨by simp,fun z k hk=>(List.mem_cons.mp hk).elim (fun e=>by omega) (z k)⟩
 ·cases h;exact ⟨by simp,fun z k hk=>(List.mem_cons.mp hk).elim (fun e=>by omega) fun e=>z k (List.mem_cons_of_mem _ e)⟩
 ·cases h;exact ⟨by simp;omega,fun z k hk=>z k (List.mem_cons_of_mem _ hk)⟩
 ·cases h
theorem mx0 (d:Nat) (b c:Bool):(if ((d:Int)+(if b then 1 else 0) - if c then 1 else 0) > 0 then ((d:Int)+(if b then 1 else 0) - if c then 1 else 0) else 0)=((d+(if b then 1 else 0) - (if c then 1 else 0):Nat):Int):=by
 cases b <;> cases c <;> simp only [if_true,if_false,Bool.false_eq_true] <;> split <;> omega
theorem mxm (m v:Nat):(if (v:Int) > (m:Int) then (v:Int) else (m:Int))=((max m v:Nat):Int):=by split <;> omega
def okS (n:Nat) (x:Str):Prop:=x.length<=n /\ fine x
theorem uc6 {n m:Nat} {a b:Str} (h:okS n a) (h':okS m b):okS (n+m) (a++b):=by
 refine ⟨by rw [str_len,u66,List.length_append,<- str_len,<- str_len];exact Nat.add_le_add h.1 h'.1,fun z=>?_⟩;rw [u66] at z;exact (List.mem_append.mp z).elim h.2 h'.2
theorem u41 {n m:Nat} {a:Str} (h:okS n a) (hm:n<=m):okS m a:=⟨Nat.le_trans h.1 hm,h.2⟩
theorem u72 {n:Nat} {a:Str} (h:(decide (a.length<=n) && decide (10 ∉ a.cps.toList))=true):okS n a:=by
 rw [Bool.and_eq_true,decide_eq_true_eq,decide_eq_true_eq] at h;exact h
theorem u86 {n:Nat} {ws:List Str} (h:(ws.all fun z=>(decide (z.length<=n) && decide (10 ∉ z.cps.toList)))=true):∀ z ∈ ws,okS n z:=fun z hz=>u72 (List.all_eq_true.mp h z hz)
theorem ux4 {G:Gp} {pr p:Addr} {ws:List Str} {B:Nat} {q:DK} (hP:PuAt G pr) (np:p ≠ pr) (hp:G p=some (.lst (ws.map .str))) (h1:1<=ws.length) (h2:ws.length<=1000) (hB:∀ w ∈ ws,okS B w) (k:∀ (x:Str) (G':Gp),PAdv pr G G'->okS B x->q (.str x) G') :
  ∃ R,u85 T [.ref pr,.int (ws.length:Int)] G R /\ ∀ d G',R d G'->xIx (.ref p) d G' q :=
 u25 T (q:=fun d G'=>xIx (.ref p) d G' q) hP (by omega) (by omega) fun i G' a b A=>by
  obtain ⟨y,hy,ey⟩:=at_getD (xs:=ws.map D.str) (v:=i) a (by rw [List.length_map];exact b);obtain ⟨z,hz,rfl⟩:=List.mem_map.mp hy
  show (match u08 (G' p) with | some ds=>(match atI ds i with | some d=>q d G' | none=>False) | none=>False)
  rw [A.kp _ _ np hp]
  show (match atI (ws.map D.str) i with | some d=>q d G' | none=>False)
  rw [ey];exact k z G' A (hB z hz)
theorem wm3 {α:Type} {xs:List α} {n:Nat}:cutD xs none (some (n:Int))=xs.take n:=by
 unfold cutD;rw [HT.sIx_none,HT.sIx_nat,Nat.sub_zero,List.drop_zero]
 rcases Nat.le_total n xs.length with h | h
 ·rw [Nat.min_eq_left h]
 ·rw [Nat.min_eq_right h,List.take_of_length_le h,List.take_length]
def smW (ws:List Str):Nat:=(ws.map (·.length)).sum+ws.length
theorem uv6 {ws:List Str} (h:smW ws<=1000000) (hf:∀ w ∈ ws,fine w):Builtin.Str.tooLong ((ws.toArray).foldl (·+·.length+(" " : Str).length) 0)=false /\ (jn " " ws).length<=sizeLine /\ okS (smW ws) (jn " " ws):=by
 have z:(4000000:Nat)<=sizeLine:=by decide
 have e:=ug9 sp1 ws;unfold smW at *;refine ⟨?_,by omega,by omega,fun z=>?_⟩
 ·rw [List.foldl_toArray,uo9 sp1]
  unfold Builtin.Str.tooLong;exact decide_eq_false (by omega)
 ·rw [show jn " " ws=Str.join " " ws from StrLaws.glued_eq_join _ _,u95] at z
  rcases v81 z with e | ⟨w,hw,z⟩
  ·omega
  ·exact hf w hw z
theorem un4:∀ (ws:List Str) (k:Nat),smW (ws.eraseIdx k)<=smW ws
 | [],_=>Nat.le_refl _
 | w::ws,0=>by show smW ws<=_;unfold smW;simp only [List.map_cons,List.sum_cons,List.length_cons];omega
 | w::ws,k+1=>by
  have:=un4 ws k
  show smW (w::ws.eraseIdx k)<=_
  unfold smW at *;simp only [List.map_cons,List.sum_cons,List.length_cons];omega
theorem v30:∀ (ws:List Str) (k:Nat) (x:Str),smW (ws.set k x)<=smW ws+x.length
 | [],_,_=>Nat.le_add_right _ _
 | w::ws,0,x=>by show smW (x::ws)<=_;unfold smW;simp only [List.map_cons,List.sum_cons,List.length_cons];omega
 | w::ws,k+1,x=>by
  have:=v30 ws k x
  show smW (w::ws.set k x)<=_
  unfold smW at *;simp only [List.map_cons,List.sum_cons,List.length_cons];omega
theorem ur1 (a b:List Str):smW (a++b)=smW a+smW b:=by
 unfold smW;rw [List.map_append,List.sum_append,List.length_append];omega
theorem v31 (ws:List Str) (k:Nat) (x:Str):smW (ws.take k++x::ws.drop k)=smW ws+x.length+1:=by
 have e:=ur1 (ws.take k) (ws.drop k);rw [List.take_append_drop] at e;rw [ur1,e];unfold smW;simp only [List.map_cons,List.sum_cons,List.length_cons];omega
theorem v29 (x:Str):smW (Txt.split x " ")<=x.length+1:=by
 have:=uc1 u95 x;unfold smW;omega
theorem vs9 {ws:List Str} {w:Str} (h:w ∈ ws):w.length<=smW ws:=by have:=v63 h;unfold smW;omega
theorem uy1 {x w:Str} (h:fine x) (hw:w ∈ Txt.split x " "):fine w:=by
 intro z;apply h;have e:jn " " (Txt.split x " ")=x:=u69 rfl;rw [<- e,show jn " " (Txt.split x " ")=Str.join " " (Txt.split x " ") from StrLaws.glued_eq_join _ _,u95];exact uv5 hw z
theorem v88 {G:Gp} {a:Addr} {zs:List Str} {k:Nat} {v:Str} {q:DK} (h:G a=some (.lst (zs.map .str))) (hk:k<=zs.length) (hl:zs.length<=100000) (c:q .non (gup G a (.lst ((zs.take k++v::zs.drop k).map .str)))):ug0 (.ref a) [.int (k:Int),.str v] G q:=by
 show (match G a with | some (.lst xs)=>0<=(k:Int) /\ (k:Int)<=(xs.length:Int) /\ xs.length < 1000000 /\ q .non (gup G a (.lst (xs.take (k:Int).toNat++.str v::xs.drop (k:Int).toNat))) | _=>False)
 rw [h];refine ⟨by omega,by rw [List.length_map];omega,by rw [List.length_map];omega,?_⟩;rw [Int.toNat_natCast,<- List.map_take,<- List.map_drop];rw [List.map_append,List.map_cons] at c;exact c
theorem vx8 {G:Gp} {a:Addr} {zs:List Str} {k:Nat} {q:DK} (h:G a=some (.lst (zs.map .str))) (hk:k < zs.length) (hl:zs.length<=100000) (c:∀ z,zs[k]?=some z->q (.str z) (gup G a (.lst ((zs.eraseIdx k).map .str)))):vz9 (.ref a) [.int (k:Int)] G q:=by
 have e:zs[k]?=some zs[k]:=List.getElem?_eq_getElem hk;refine ⟨a,k,_,.str zs[k],rfl,rfl,h,by rw [List.getElem?_map,e];rfl,by rw [List.length_map];exact hl,?_⟩;rw [uo3];exact c _ e
theorem vf8 {W:Nat} {bs:List Str} {rs:List Rowp} (O:PrOk W bs rs):fwT (prL W bs rs)=none:=by
 obtain ⟨j,e⟩:=ub1 rs [] 2 [] O.t;rw [List.append_nil] at e;unfold prL;rw [fw_2 ⟨W,O.w1,O.w2,v27 (by simp) (vd4 O.w2)⟩ ⟨bs,O.b1,O.b2,O.bn,v27 (by simp) (vd5 O.bn)⟩];unfold lnsL;rw [e];rfl
theorem w90 {n B:Nat} {ls:List Str} (O:LnsOk n B ls) (hn:n<=190) (hB:B<=3000):TxOk (jn "\n" ls) /\ Txt.split (jn "\n" ls) "\n"=ls:=by
 have e:Txt.split (jn "\n" ls) "\n"=ls:=uu2 wq2 (fun z=>by have:=O.a;rw [z] at this;simp at this) fun w hw=>(O.l w hw).1
 refine ⟨⟨?_, by rw [e];have:=O.b;omega, by rw [e];exact fun x hx=>Nat.le_trans (O.l x hx).2 (by omega)⟩, e⟩;rw [ug9 nl1];have s:=uq9 (B:=3000) (ws:=ls) fun w hw=>Nat.le_trans (O.l w hw).2 hB
 have:=O.b;omega
theorem vb5 {G:Gp} {t:Str} {q:DK} (h:TxOk t) (k:∀ G', Grow G G'->q (owD (fwT (Txt.split t "\n"))) G'):∃ R,vl2 T [.str t] G R /\ ∀ d G',R d G'->q d G' :=
 u15 (post:=fun d G'=>d=owD (fwT (Txt.split t "\n")) /\ Grow G G') (fun R h'=>⟨t,rfl,h,fun G' z=>h' _ _ ⟨rfl,z⟩⟩) fun d G' ⟨e,z⟩=>by subst e;exact k G' z
theorem vb6 {G:Gp} {t:Str} {q:DK} (h:TxOk t) (e:fwT (Txt.split t "\n") = none) (k : ∀ (W : Nat) (bs : List Str) (rs : List Rowp) G', 1 <= W -> W <= 16 -> 1 <= bs.length -> bs.length <= 6 -> (∀ b ∈ bs, nmB b = true) -> tL rs -> Txt.split t "\n"=prL W bs rs->Grow G G'->q (prD W bs rs) G'):∃ R,vc4 T [.str t] G R noX /\ ∀ d G',R d G'->q d G' :=
 ue6 (post:=fun d G'=>∃ (W:Nat) (bs:List Str) (rs:List Rowp),1<=W /\ W<=16 /\ 1<=bs.length /\ bs.length<=6 /\ (∀ b ∈ bs,nmB b=true) /\ tL rs /\ Txt.split t "\n"=prL W bs rs /\ d=prD W bs rs /\ Grow G G') (fun R h'=>⟨t,rfl,h,(fun _ W bs rs y1 y2 y3 y4 y5 y6 y7 G' z=>h' _ _ ⟨W,bs,rs,y1,y2,y3,y4,y5,y6,y7,rfl,z⟩),fun i hi=>by rw [e] at hi;cases hi⟩) fun d G' ⟨W,bs,rs,y1,y2,y3,y4,y5,y6,y7,e,z⟩=>by subst e;exact k W bs rs G' y1 y2 y3 y4 y5 y6 y7 z
theorem wm6 {G:Gp} {W:Nat} {bs:List Str} {rs:List Rowp} {q:DK} (h:PrOk W bs rs) (k:∀ G',Grow G G'->q (.str (prT W bs rs)) G'):∃ R,vl0 T [prD W bs rs] G R /\ ∀ d G',R d G'->q d G' :=
 u15 (post:=fun d G'=>d=.str (prT W bs rs) /\ Grow G G') (fun R h'=>⟨W,bs,rs,rfl,h,fun G' z=>h' _ _ ⟨rfl,z⟩⟩) fun d G' ⟨e,z⟩=>by subst e;exact k G' z
theorem wp0 {ls:List Str} {W:Nat} {bs:List Str} {rs:List Rowp} (hl:ls.length<=190) (hd:dpT ls 0 0<=5) (y1:1<=W) (y2:W<=16) (y3:1<=bs.length) (y4:bs.length<=6) (y5:∀ b ∈ bs,nmB b=true) (y6:tL rs) (e:ls=prL W bs rs):PrOk W bs rs:=by
 refine ⟨y1,y2,y3,y4,y5,y6,?_,?_⟩
 ·have:=w31 (x:=jn " " ["wide",numI (W:Int)]) (y:=jn " " ("boxes" :: bs)) y6
  rw [e] at hd;exact Nat.le_trans this hd
 ·have:=uf3 rs
  rw [e] at hl;unfold prL lnsL at hl;rw [List.length_cons,List.length_cons,List.length_map] at hl;omega
theorem mjn2 {G:Gp} {p:Addr} {n B:Nat} {ws:List Str} {q:DK} (h:G p=some (.lst (ws.map .str))) (O:LnsOk n B ws) (hn:n<=190) (hB:B<=3000) (k:q (.str (jn "\n" ws)) G) : v66 (.str "\n") [.ref p] G q:=by
 obtain ⟨f1, f2⟩:=ue3 nl1 (B:=3000) (N:=190) (ws:=ws) (fun w hw=>Nat.le_trans (O.l w hw).2 hB) (Nat.le_trans O.b hn) (by decide);exact ⟨_, p, ws, rfl, rfl, by rw [h];rfl, f1, f2, k⟩
theorem u48 {k:Nat}:FnOk P w K mg base CX0 (k+1) T.f_BadText_init.a T.f_BadText_init.fd ["self", "at"] (uf7 T.e_BadText.C "at") :=
 vc8 (L:=T.e_LitterError.C) T.f_BadText_init u79 T.e_BadText.xc T.xa_BadText (fun cdv A outer s H E=>uu6 (v45 (vg3 rfl T.e_LitterError.m T.e_LitterError.b.sp T.e_LitterError.b.rd T.e_LitterError.b.fc (ur6 (pv 0) (ur6 (pv 1) vo7)))) (v44 (vx5 (pv 0) (pv 1))))
end
end Law
set_option compiler.extract_closed false
open PySem L2 L3 Rw in
set_option hygiene false in
local macro_rules | `(tactic| simp! [$xs,*])=>`(tactic| try simp only [dTry, wm2, wm1, va7, up2, vq0, w36, wm0, w21, vj5, vj6, ul6, vk3, Int.toNat_natCast, dCall, uz4, vk2, List.append_nil, dSeq, w39, dAsg, uz5, dRet, wq8, dIfS, dB, dAnd, dOr, dNot, w40, dOrV, w38, dIf, dVar, dC, dOp, dUn, dNil, u83, dTup, dLst, dCB, dSl, w37, us8, dBM, dBM0, dAug, dFld, w35, wq9, dYes, us2, jSub, jSeq, w20, jNil, w88, wo2, wAny, dFor, xSub, xDiv, xMod, xPow, xShl, xShr, xAnd, xOr, xXor, vj4, tyD, uf4, uj8, List.map_cons, List.map_nil, List.cons_append, List.nil_append, List.length_cons, List.length_nil, List.replicate, List.getElem?_cons_zero, List.getElem?_cons_succ, List.set_cons_zero, List.set_cons_succ, Nat.reduceAdd, Nat.reduceSub, Nat.sub_self, u78, v33, u01, Option.bind_some, Option.bind_none, id, Bool.false_eq_true, if_true, if_false, reduceIte, true_and, and_true, decide_true, decide_false, Bool.not_true, Bool.not_false, u67, ud0, w50, w49, w48, wk6, wk5, wk4, wk8, wk7, w73, w72, $xs,*])
open L3 in
set_option hygiene false in
local macro_rules | `(tactic| dsimp! [$xs,*])=>`(tactic| (simp only [Go];simp! [$xs,*]))
namespace Law
open PySem L2 L3 Rw
section
variable {P:Program} {w:World} {K:W.Frag} {mg:Str->Option Value} {base:Heap} (T:Txt K mg)
theorem wf2 {n:Nat}:Ok P w mg base (n+1) T.f_jbj (uz8 T):=by
 refine u19 T.f_jbj sc_jbj (fun ds G R h=>?_) (fun cdv A outer s H E hr =>
   (u03 (s_if (t_w (w_or (u11 (x_lt) (u10 u28 rfl T.b_len (by decide) (u00 (ev 0) u02)) u04 (nomark _)) (u94 (u11 (x_gt) (u10 u28 rfl T.b_len (by decide) (u00 (ev 0) u02)) (u10 u28 rfl T.b_len (by decide) (u00 (u14 uk6 rfl T.b_str (by decide) (u00 (ev 1) u02)) u02)) (nomark _))))) (u06 (u17 u96)) u18)
   (u03 (s_if (ua8 (ua0 (u10 vq7 rfl T.b_all (by decide) (u00 (ui0 (N':=["sign"]) (ix:=[none]) (blk (osc:=u05 ve4) (N:=["word", "most", "number"]) rfl rfl (by decide)) (v91 (ev 0)) (fun _ _ _ _=>(u35 0 (show (["sign"]:List Str).Nodup by decide))) (fun _ _ _ _=>uh4) (fun _ _ _ _=>(u55 (w76) (ev 0) (uw2 T.k_FIGURES) (by with_unfolding_all rfl)))) u02)))) (u06 (u17 u96)) u18)
   (u03 (s_if (t_w (w_and (u11 (x_eq hr) (e_ix x_ix (ev 0) u04) u09 (nomark _)) (u50 (u11 (x_gt) (u10 u28 rfl T.b_len (by decide) (u00 (ev 0) u02)) u04 (nomark _))))) (u06 (u17 u96)) u18)
   (u03 (u12 2 sc_jbj.nd (u14 uk7 rfl T.b_int (by decide) (u00 (ev 0) u02)))
   (u06 (u17 (e_if (u11 (x_le) (ev 2) (ev 1) (nomark _)) (ev 2) u96)))))))) (fun ds G R h=>?_)
 ·obtain ⟨w,m,rfl,_⟩:=h;rfl
 ·obtain ⟨w,m,rfl,hl,hm,good,bad⟩:=h
  have hz:w.length<=sizeLine:=Nat.le_trans hl (by decide);have hzT:(w.length<=sizeLine)=True:=eq_true hz
  by_cases l1:w.length < 1
  ·have d1:((w.length:Int) < 1)=True:=eq_true (by omega)
   (simp! [lenS,hzT,d1];repeat (simp only [Go];simp! [lenS,hzT,d1]))
   exact bad (fun h=>by have:=uh1 h;omega) _ Grow.refl
  have d1:((w.length:Int) < 1)=False:=eq_false (by omega);simp! [lenS,hzT,d1];refine ⟨(m:Int),rfl,logI (by omega) (by omega),?_⟩;have hmz:=wi5 hm;have h10:=v56 hm;have nI':Str.ofString (toString (m:Int))=numI (m:Int):=rfl;rw [nI']
  by_cases l2:w.length > (numI (m:Int)).length
  ·have d3:((w.length:Int) > ((numI (m:Int)).length:Int))=True:=eq_true (by omega)
   (simp! [lenS,hmz,d3];repeat (simp only [Go];simp! [lenS,hmz,d3]))
   exact bad (fun h=>by have:=v86 h;omega) _ Grow.refl
  have d3:((w.length:Int) > ((numI (m:Int)).length:Int))=False:=eq_false (by omega);simp! [lenS,hmz,d3];dsimp! [wStr];refine ⟨w,rfl,fun p hp=>?_⟩;refine u36 (fun r σ G'=>∃ (l t:List Nat) (v:Option D),l++t=w.cps.toList /\ r=t.map (fun c=>D.str ⟨#[c]⟩) /\ G'=gup G p (.lst ((l.map fun c=>decide (48<=c /\ c<=57)).map .bl)) /\ σ=[v]) ⟨[],_,none,rfl,rfl,rfl,rfl⟩ ?_ ?_
  ·rintro σ G1 ⟨l,t,v,e,e2,rfl,rfl⟩
   refine ⟨trivial,?_⟩;have ht:t=[]:=by simpa using e2.symm
   subst ht;rw [List.append_nil] at e;obtain ⟨G2,hG2⟩:∃ G2,G2=gup G p (.lst ((l.map fun c=>decide (48<=c /\ c<=57)).map .bl)):=⟨_,rfl⟩;have k2:G2 p=some (.lst ((l.map fun c=>decide (48<=c /\ c<=57)).map .bl)):=by rw [hG2];exact u01
   have g2:Grow G G2:=by rw [hG2];exact Grow.refl.new hp
   rw [<- hG2];clear hG2;simp! [k2,u78,ub8];have ea:(l.map fun c=>decide (48<=c /\ c<=57)).all id=decide (∀ c ∈ w.cps.toList,48<=c /\ c<=57):=by
    rw [e,Bool.eq_iff_iff,List.all_eq_true,decide_eq_true_iff]
    constructor
    ·intro h c hc
     exact of_decide_eq_true (h _ (List.mem_map.mpr ⟨c,hc,rfl⟩))
    ·intro h b hb
     obtain ⟨c,hc,rfl⟩:=List.mem_map.mp hb;exact decide_eq_true (h c hc)
   rw [ea]
   by_cases hd:¬ ∀ c ∈ w.cps.toList,48<=c /\ c<=57
   ·rw [decide_eq_false hd]
    simp! [id];exact bad (fun h=>hd (uh1 h).2.1) _ g2
   have hd:=Classical.not_not.mp hd;rw [decide_eq_true hd];simp! [id];obtain ⟨c,r,hc⟩:∃ c r,w.cps.toList=c::r:=by
    cases ew:w.cps.toList with
    | nil=>rw [str_len,ew] at l1;exact absurd (by decide) l1
    | cons c r=>exact ⟨c,r,rfl⟩
   dsimp! [ixS,hzT,hc,at0];generalize hN:Go (dSeq _ _ _)=N;have r1:(w.length=1 \/ w.cps.toList.head? ≠ some 48)->N [some (.str w),some (.int (m:Int)),none] G2:=by
    intro h4;obtain ⟨k,ek⟩:∃ k:Nat,w=numI (k:Int):=⟨_,w33 (by omega) hd h4⟩;have hk:k<=9999999999:=wi6 (by rw [<- ek];omega);rw [<- hN];dsimp! [id];refine ⟨_,(k:Int),rfl,by rw [ek];exact uu7 hk,by omega,?_⟩
    by_cases h5:k<=m
    ·have d5:((k:Int)<=(m:Int))=True:=eq_true (by omega)
     simp! [id];dsimp! [d5];exact good k h5 ek _ g2
    ·have d5:((k:Int)<=(m:Int))=False:=eq_false (by omega)
     simp! [id];dsimp! [d5];exact bad (fun z=>h5 (by rw [ek] at z;exact isK_iff.mp z)) _ g2
   by_cases h0:c=48
   ·have d6:({ cps:=#[c] }:Str)=Str.ofString "0" := by rw [h0];exact zero_mk.symm
    rw [if_pos (decide_eq_true d6)]
    by_cases h5:w.length > 1
    ·have d8:((w.length:Int) > 1)=True:=eq_true (by omega)
     simp! [lenS,hzT,d8];refine bad (fun h=>?_) _ g2
     rcases (uh1 h).2.2 with z | z
     ·omega
     ·exact z (by rw [hc,h0];rfl)
    ·have d8:((w.length:Int) > 1)=False:=eq_false (by omega)
     simp! [lenS,hzT,d8];exact r1 (.inl (by omega))
   ·have d6:¬ ({ cps:=#[c] }:Str)=Str.ofString "0" := fun e=>h0 (one_eq.mp (e.trans zero_mk))
    rw [if_neg (by rw [decide_eq_false d6];decide)];exact r1 (.inr (by rw [hc];intro z;cases z;exact h0 rfl))
  ·rintro z r σ G1 ⟨l,t,v,e,e2,rfl,rfl⟩ ih
   cases t with
   | nil=>cases e2
   | cons c t =>
    cases e2;refine ⟨trivial,?_⟩;have hlen:=congrArg List.length e;rw [List.length_append,List.length_cons,<- str_len] at hlen;simp! [id];refine ⟨c,_,rfl,rfl,?_⟩;rw [vk1];simp! [u01];refine ⟨Nat.lt_of_le_of_lt (m:=1000) (by rw [List.length_map,List.length_map];omega) (by decide),ih _ _ ⟨l++[c],t,_,by rw [<- e,List.append_assoc];rfl,rfl,?_,rfl⟩⟩;rw [u54,List.map_append,List.map_append];rfl
theorem wh8 {n:Nat}:Ok P w mg base (n+1) T.f_jah (v04 T):=by
 refine u19 T.f_jah vn8 (fun ds G R h=>?_) (fun cdv A outer s H E hr =>
   (u03 (s_if (t_w (w_or (u11 (x_lt) (u10 u28 rfl T.b_len (by decide) (u00 (ev 0) u02)) u04 (nomark _)) (w_or (u11 (x_gt) (u10 u28 rfl T.b_len (by decide) (u00 (ev 0) u02)) (uh9 T.k_LONGEST_NAME) (nomark _)) (u94 (u11 (x_in hr) (ev 0) (uw1 T.k_WORDS) (by with_unfolding_all rfl)))))) (u06 (u17 e_bl)) u18)
   (u06 (u17 (u10 vq7 rfl T.b_all (by decide) (u00 (ui0 (N':=["sign"]) (ix:=[none]) (blk (osc:=u05 ve9) (N:=["text"]) rfl rfl (by decide)) (v91 (ev 0)) (fun _ _ _ _=>(u35 0 (show (["sign"]:List Str).Nodup by decide))) (fun _ _ _ _=>uh4) (fun _ _ _ _=>(u55 (w76) (ev 0) (uw2 T.k_LETTERS) (by with_unfolding_all rfl)))) u02)))))) (fun ds G R h=>?_)
 ·obtain ⟨x,rfl,_⟩:=h;rfl
 ·obtain ⟨x,rfl,hx,post⟩:=h
  have hz:x.length<=sizeLine:=Nat.le_trans hx (by decide);have hzT:(x.length<=sizeLine)=True:=eq_true hz;have bad:(¬ 1<=x.length \/ ¬ x.length<=8 \/ x ∈ WDS)->nmB x=false:=fun z=>by
   cases e:nmB x with
   | false=>rfl
   | true =>
    unfold nmB at e;simp only [Bool.and_eq_true,decide_eq_true_eq,Bool.not_eq_true',decide_eq_false_iff_not] at e
    rcases z with z | z | z
    ·exact absurd e.1.1.1 z
    ·exact absurd e.1.1.2 z
    ·exact absurd z e.1.2
  simp! [lenS,hzT]
  by_cases h1:1<=x.length
  ·rw [if_neg (by rw [decide_eq_false (by omega)];decide)]
   by_cases h2:x.length<=8
   ·rw [if_neg (by rw [decide_eq_false (by omega)];decide)]
    refine ut6 (ws:=WDS) ?_;rw [if_neg Bool.false_ne_true]
    by_cases h3:x ∈ WDS
    ·rw [bad (.inr (.inr h3))] at post
     rw [decide_eq_true h3];exact post _ Grow.refl
    ·rw [decide_eq_false h3]
     simp! [id];dsimp! [wStr];refine ⟨x,rfl,fun p hp=>?_⟩;have enm:nmB x=ltr x:=by unfold nmB;rw [decide_eq_true h1,decide_eq_true h2,decide_eq_false h3];simp
     refine u36 (fun r σ G'=>∃ (l t:List Nat) (v:Option D),l++t=x.cps.toList /\ r=t.map (fun c=>D.str ⟨#[c]⟩) /\ G'=gup G p (.lst ((l.map fun c=>decide (97<=c) && decide (c<=122)).map D.bl)) /\ σ=[v]) ⟨[],_,none,rfl,rfl,rfl,rfl⟩ ?_ ?_
     ·rintro σ G1 ⟨l,t,v,e,e2,rfl,rfl⟩
      have ht:t=[]:=by simpa using e2.symm
      subst ht;rw [List.append_nil] at e;refine ⟨trivial,?_⟩;simp! [u01,u78,ub8];rw [enm] at post;have el:(l.map fun c=>decide (97<=c) && decide (c<=122)).all id=ltr x:=by
       unfold ltr;rw [<- e,List.all_map];rfl
      rw [el];exact post _ (Grow.refl.new hp)
     ·rintro z r σ G1 ⟨l,t,v,e,e2,rfl,rfl⟩ ih
      cases t with
      | nil=>cases e2
      | cons c t =>
       cases e2;refine ⟨trivial,?_⟩;have hlen:=congrArg List.length e;rw [List.length_append,List.length_cons,<- str_len] at hlen;simp! [id];refine ⟨c,_,rfl,rfl,?_⟩;rw [letters];simp! [u01];refine ⟨Nat.lt_of_le_of_lt (m:=1000) (by rw [List.length_map,List.length_map];omega) (by decide),ih _ _ ⟨l++[c],t,_,by rw [<- e,List.append_assoc];rfl,rfl,?_,rfl⟩⟩;rw [u54,List.map_append,List.map_append];rfl
   ·rw [if_pos (decide_eq_true (by omega))]
    rw [bad (.inr (.inl h2))] at post;exact post _ Grow.refl
  ·rw [if_pos (decide_eq_true (by omega))]
   rw [bad (.inl h1)] at post;exact post _ Grow.refl
theorem we4 {n:Nat} (G_jbh:Ok P w mg base n T.f_jbh (wn2 T)):Ok P w mg base (n+1) T.f_jbs (vl0 T):=by
 refine u19 T.f_jbs sc_jbs (fun ds G R h=>?_) (fun cdv A outer s H E hr =>
   (u03 (u12 1 sc_jbs.nd (u21 (u00 (u70 u09 (u00 (u21 (u00 u09 (u00 (u14 uk6 rfl T.b_str (by decide) (u00 (e_ix x_ix (ev 0) u04) u02)) u02))) u02)) u02)))
   (u03 (u26 (u31 (ev 1) (u00 (u70 u09 (u00 (u13 u24 (u21 (u00 u09 u02)) (u14 ut7 rfl T.b_list (by decide) (u00 (e_ix x_ix (ev 0) u04) u02))) u02)) u02)))
   (u03 (u26 (ub7 (ev 1) (u00 (ec T.f_jbh T.g_lines_of G_jbh hr (u00 (e_ix x_ix (ev 0) u04) u02)) u02)))
   (u06 (u17 (u70 u09 (u00 (ev 1) u02)))))))) (fun ds G R h=>?_)
 ·obtain ⟨W,bs,rs,rfl,_⟩:=h;rfl
 ·obtain ⟨W,bs,rs,rfl,O,post⟩:=h
  have hW:=O.w2;have hb2:=O.b2;have hsz:=O.s;unfold prD at *;simp! [id];refine ⟨(W:Int),rfl,logI (by omega) (by omega),by decide,fun p hp=>?_⟩;refine mj (ws:=["wide",numI (W:Int)]) u01 (vd4 O.w2) (by simp) ?_;have g1:=Grow.refl.new (o:=.lst [D.str "wide",D.str (Str.ofString (toString (W:Int)))]) hp;generalize gup G p _=G1 at *;refine ⟨by decide,fun p2 h2=>?_⟩;have f2:=g1.none h2;have g2:Grow G1 (gup G1 p2 (.lst [D.str (jn " " ["wide",numI (W:Int)])])):=Grow.refl.new h2;have k2:gup G1 p2 (.lst [D.str (jn " " ["wide",numI (W:Int)])]) p2=some (.lst [D.str (jn " " ["wide",numI (W:Int)])]):=u01;generalize gup G1 p2 (.lst [D.str (jn " " ["wide",numI (W:Int)])])=G2 at *;dsimp! [k2];refine ⟨by decide,fun p3 h3 p4 h4=>?_⟩;have g3:Grow G2 (gup G2 p3 (.lst [D.str "boxes"])):=Grow.refl.new h3;have k3:gup G2 p3 (.lst [D.str "boxes"]) p3=some (.lst [D.str "boxes"]):=u01;generalize gup G2 p3 (.lst [D.str "boxes"])=G3 at *;have g4:Grow G3 (gup G3 p4 (.lst (bs.map .str))):=Grow.refl.new h4;have k4:gup G3 p4 (.lst (bs.map .str)) p4=some (.lst (bs.map .str)):=u01;have k34:=g4.kp _ _ k3;generalize gup G3 p4 (.lst (bs.map .str))=G4 at *;refine add_l k34 k4 (by simp;omega) fun p5 h5=>?_
  refine mj (ws:=("boxes" : Str)::bs) u01 (vd5 O.bn) (by simp;omega) ?_;have g5:Grow G4 (gup G4 p5 (.lst ([D.str "boxes"]++bs.map .str))):=Grow.refl.new h5;generalize gup G4 p5 (.lst ([D.str "boxes"]++bs.map .str))=G5 at *;have k25:=((g3.trans g4).trans g5).kp _ _ k2;simp! [k25];refine ⟨by decide,?_⟩;have gg:Grow G (gup G5 p2 (.lst [D.str (jn " " ["wide",numI (W:Int)]),D.str (jn " " (("boxes" : Str)::bs))])):=((((g1.trans g2).trans g3).trans g4).trans g5).own f2;have k6:gup G5 p2 (.lst [D.str (jn " " ["wide",numI (W:Int)]),D.str (jn " " (("boxes" : Str)::bs))]) p2=some (.lst [D.str (jn " " ["wide",numI (W:Int)]),D.str (jn " " (("boxes" : Str)::bs))]):=u01;generalize gup G5 p2 (.lst [D.str (jn (Str.ofString " ") [Str.ofString "wide",numI (W:Int)]),D.str (jn (Str.ofString " ") (Str.ofString "boxes" :: bs))])=G6 at *;dsimp! [k6];refine um8 T (dp:=8) O.t (by have:=O.d;omega) O.s fun q7 G7 f7 k7 g7=>?_
  have k67:=g7.kp _ _ k6;have hll:=u64 (rs:=rs) O.s;simp! [k67,k7];refine ⟨Nat.le_trans (m:=2000) (by omega) (by decide),?_⟩;dsimp! [id];refine mjn (ws:=prL W bs rs) u01 (fun x hx=>(vo5 O x hx).2) (by have:=vx7 O;omega) ?_;exact post _ ((gg.trans g7).own f2)
theorem wf3 {n dp:Nat} (G_jbq:Ok P w mg base n T.f_jbq (w56 T dp)):Ok P w mg base (n+1) T.f_jbh (uz9 T (dp+1)):=by
 refine u19 T.f_jbh sc_jbh (fun ds G R h=>?_) (fun cdv A outer s H E hr =>
   (u03 (u12 1 sc_jbh.nd (u21 u02))
   (u03 (un7 (us5 (ev 0)) (u35 2 sc_jbh.nd) (u06 (u26 (ub7 (ev 1) (u00 (ec T.f_jbq T.g_row_lines G_jbq hr (u00 (ev 2) u02)) u02)))))
   (u06 (u17 (ev 1)))))) (fun ds G R h=>?_)
 ·obtain ⟨rs,rfl,_⟩:=h;rfl
 ·obtain ⟨rs,rfl,ht,hd,hs,post⟩:=h
  simp! [id];refine ⟨by decide,fun p hp=>?_⟩;dsimp! [id];refine u61 (fun r σ G'=>∃ (l t:List Rowp) (v2:Option D),l++t=rs /\ r=u20 t /\ Grow G G' /\ G' p=some (.lst ((lnsL l).map .str)) /\ σ=[some (.tup (u20 rs)),some (.ref p),v2]) ⟨[],rs,none,rfl,rfl,Grow.refl.new hp,u01,rfl⟩ ?_ ?_
  ·rintro σ G1 ⟨l,t,v2,e,e2,g,kp,rfl⟩
   have h0:t=[]:=by
    cases t with
    | nil=>rfl
    | cons x t=>cases e2
   subst h0;rw [List.append_nil] at e;subst e;refine ⟨trivial,?_⟩;dsimp! [id];exact post p G1 hp kp g
  ·rintro x r σ G1 ⟨l,t,v2,e,e2,g,kp,rfl⟩ ih
   cases t with
   | nil=>cases e2
   | cons r0 t =>
    cases e2;refine ⟨trivial,?_⟩;have hm:r0 ∈ rs:=by rw [<- e];simp
    have hdr:=ul9 (Nat.le_of_lt_succ hd) r0 hm;have hsr:=v24 hm;have hsl:szL l+(szR r0+szL t)=szL rs:=by rw [<- e,u71];rfl
    simp! [kp];refine vk7 T (v22 ht hm) hdr (by omega) fun q G2 f2 k2 g2=>?_
    have kp2:=g2.kp _ _ kp;simp! [kp2,k2];have l1:=u64 (rs:=l) (by omega);have l2:=vj0 (r:=r0) (by omega);refine ⟨Nat.le_trans (m:=2000) (by omega) (by decide),ih _ _ ⟨l++[r0],t,_,by rw [<- e];simp,rfl,⟨fun c o h=>?_⟩,?_,rfl⟩⟩
    ·rw [u07 (gne h hp)]
     exact g2.kp _ _ (g.kp _ _ h)
    ·rw [u01,<- List.map_append]
     unfold lnsL lnsR;rw [ul2,List.map_append];simp [tkL]
theorem we5 {n dp:Nat} (G_jbh:Ok P w mg base n T.f_jbh (uz9 T dp)):Ok P w mg base (n+1) T.f_jbq (w56 T dp):=by
 refine u19 T.f_jbq sc_jbq (fun ds G R h=>?_) (fun cdv A outer s H E hr =>
   (u03 (s_if (u11 (x_eq hr) (e_ix x_ix (ev 0) u04) u09 (nomark _)) (u06 (u17 (u21 (u00 (u70 u09 (u00 (u21 (u00 (e_ix x_ix (ev 0) u04) (u00 u09 (u00 (u14 u46 rfl T.b_str (by decide) (u00 (e_ix x_ix (ev 0) u04) u02)) u02)))) u02)) u02)))) u18)
   (u03 (s_if (u11 (x_eq hr) (e_ix x_ix (ev 0) u04) u09 (nomark _)) (u06 (u17 (u21 (u00 (u70 u09 (u00 (u21 (u00 (e_ix x_ix (ev 0) u04) (u00 u09 (u00 (u14 u46 rfl T.b_str (by decide) (u00 (e_ix x_ix (ev 0) u04) u02)) (u00 (e_ix x_ix (ev 0) u04) (u00 (u14 u46 rfl T.b_str (by decide) (u00 (e_ix x_ix (ev 0) u04) u02)) u02)))))) u02)) u02)))) u18)
   (u03 (u12 1 sc_jbq.nd (u70 u09 (u00 (u21 (u00 (e_ix x_ix (ev 0) u04) (u00 (u14 u46 rfl T.b_str (by decide) (u00 (e_ix x_ix (ev 0) u04) u02)) u02))) u02)))
   (u03 (s_if (u11 (x_eq hr) (e_ix x_ix (ev 0) u04) u09 (nomark _)) (u06 (u17 (u13 u24 (u13 u24 (u13 u24 (u13 u24 (u21 (u00 (ev 1) u02)) (ec T.f_jbh T.g_lines_of G_jbh hr (u00 (e_ix x_ix (ev 0) u04) u02))) (u21 (u00 u09 u02))) (ec T.f_jbh T.g_lines_of G_jbh hr (u00 (e_ix x_ix (ev 0) u04) u02))) (u21 (u00 u09 u02))))) u18)
   (u06 (u17 (u13 u24 (u13 u24 (u21 (u00 (ev 1) u02)) (ec T.f_jbh T.g_lines_of G_jbh hr (u00 (e_ix x_ix (ev 0) u04) u02))) (u21 (u00 u09 u02)))))))))) (fun ds G R h=>?_)
 ·obtain ⟨r,rfl,_⟩:=h;rfl
 ·obtain ⟨r,rfl,ht,hd,hs,post⟩:=h
  obtain ⟨w1,w2,w3,w4,w5,_,_⟩:=wd_lits;cases r with
  | is x a =>
   simp! [rowD];refine toS ht.2 ?_;refine ⟨by decide,fun p hp=>?_⟩;refine mj (ws:=[x, "=",atS a]) u01 (ud3 (l:=.set (.is x a)) ht) (by simp) ?_;refine ⟨by decide,fun p2 h2=>?_⟩;have g1:=Grow.refl.new (o:=.lst [D.str x,D.str "=",D.str (atS a)]) hp;exact post p2 _ (g1.none h2) u01 (g1.new h2)
  | op x o a b =>
   have d1:(Str.ofString "op" = Str.ofString "is")=False:=eq_false (by decide);simp! [rowD,d1];dsimp! [id];refine toS ht.2.2.1 (toS ht.2.2.2 ?_);refine ⟨by decide,fun p hp=>?_⟩;refine mj (ws:=[x, "=",atS a,o,atS b]) u01 (ud3 (l:=.set (.op x o a b)) ht) (by simp) ?_;refine ⟨by decide,fun p2 h2=>?_⟩;have g1:=Grow.refl.new (o:=.lst [D.str x,D.str "=",D.str (atS a),D.str o,D.str (atS b)]) hp;exact post p2 _ (g1.none h2) u01 (g1.new h2)
  | cho a ys ns =>
   have d1:(Str.ofString "choose" = Str.ofString "is")=False:=eq_false (by decide);have d2:(Str.ofString "choose" = Str.ofString "op")=False:=eq_false (by decide);have hd':1+max (depL ys) (depL ns)<=dp:=hd;have hs':1+szL ys+szL ns<=200:=hs;simp! [rowD,d1];dsimp! [d2];dsimp! [id];refine toS ht.1 ?_;refine ⟨by decide,fun p hp=>?_⟩;refine mj (ws:=["choose",atS a]) u01 (ud3 (l:=.cho a) ht.1) (by simp) ?_;have g1:=Grow.refl.new (o:=.lst [D.str "choose",D.str (atS a)]) hp;generalize gup G p (.lst [D.str "choose",D.str (atS a)])=G1 at *;dsimp! [id];refine ⟨by decide,fun p2 h2=>?_⟩;have g2:Grow G1 (gup G1 p2 (.lst [D.str (jn " " ["choose",atS a])])):=Grow.refl.new h2;have k2:gup G1 p2 (.lst [D.str (jn " " ["choose",atS a])]) p2=some (.lst [D.str (jn " " ["choose",atS a])]):=u01;generalize gup G1 p2 (.lst [D.str (jn " " ["choose",atS a])])=G2 at *;refine um8 T ht.2.1 (by omega) (by omega) fun q3 G3 f3 k3 g3=>?_
   have l3:=u64 (rs:=ys) (by omega);have l4:=u64 (rs:=ns) (by omega);have k23:=g3.kp _ _ k2;refine add_l k23 k3 (by simp only [List.length_cons,List.length_nil];omega) fun q4 h4=>?_
   have g4:Grow G3 (gup G3 q4 (.lst ([D.str (jn " " ["choose",atS a])]++(lnsL ys).map D.str))):=Grow.refl.new h4;have k4:gup G3 q4 (.lst ([D.str (jn " " ["choose",atS a])]++(lnsL ys).map D.str)) q4=some (.lst ([D.str (jn " " ["choose",atS a])]++(lnsL ys).map D.str)):=u01;generalize gup G3 q4 (.lst ([D.str (jn " " ["choose",atS a])]++(lnsL ys).map D.str))=G4 at *;refine ⟨by decide,fun p5 h5=>?_⟩;have g5:Grow G4 (gup G4 p5 (.lst [D.str "else"])):=Grow.refl.new h5;have k5:gup G4 p5 (.lst [D.str "else"]) p5=some (.lst [D.str "else"]):=u01;have k45:=g5.kp _ _ k4;generalize gup G4 p5 (.lst [D.str "else"])=G5 at *;refine add_l k45 k5 (by simp only [List.length_cons,List.length_nil,List.length_append];omega) fun q6 h6=>?_
   have g6:Grow G5 (gup G5 q6 (.lst (([D.str (jn " " ["choose",atS a])]++(lnsL ys).map D.str)++[D.str "else"]))):=Grow.refl.new h6;have k6:gup G5 q6 (.lst (([D.str (jn " " ["choose",atS a])]++(lnsL ys).map D.str)++[D.str "else"])) q6=some (.lst (([D.str (jn " " ["choose",atS a])]++(lnsL ys).map D.str)++[D.str "else"])):=u01;generalize gup G5 q6 (.lst (([D.str (jn " " ["choose",atS a])]++(lnsL ys).map D.str)++[D.str "else"]))=G6 at *;refine um8 T ht.2.2 (by omega) (by omega) fun q7 G7 f7 k7 g7=>?_
   have k67:=g7.kp _ _ k6;refine add_l k67 k7 (by simp only [List.length_cons,List.length_nil,List.length_append];omega) fun q8 h8=>?_
   have g8:Grow G7 (gup G7 q8 (.lst ((([D.str (jn " " ["choose",atS a])]++(lnsL ys).map D.str)++[D.str "else"])++(lnsL ns).map D.str))):=Grow.refl.new h8;have k8:gup G7 q8 (.lst ((([D.str (jn " " ["choose",atS a])]++(lnsL ys).map D.str)++[D.str "else"])++(lnsL ns).map D.str)) q8=some (.lst ((([D.str (jn " " ["choose",atS a])]++(lnsL ys).map D.str)++[D.str "else"])++(lnsL ns).map D.str)):=u01;generalize gup G7 q8 (.lst ((([D.str (jn " " ["choose",atS a])]++(lnsL ys).map D.str)++[D.str "else"])++(lnsL ns).map D.str))=G8 at *;refine ⟨by decide,fun p9 h9=>?_⟩;have g9:Grow G8 (gup G8 p9 (.lst [D.str "end"])):=Grow.refl.new h9;have k9:gup G8 p9 (.lst [D.str "end"]) p9=some (.lst [D.str "end"]):=u01;have k89:=g9.kp _ _ k8;generalize gup G8 p9 (.lst [D.str "end"])=G9 at *;have gg:=(((((((g1.trans g2).trans g3).trans g4).trans g5).trans g6).trans g7).trans g8).trans g9;refine add_l k89 k9 (by simp only [List.length_cons,List.length_nil,List.length_append];omega) fun q10 h10=>post q10 _ (gg.none h10) ?_ (gg.new h10)
   rw [u01];have et:lnsR (.cho a ys ns)=jn " " ["choose",atS a]::(lnsL ys++(("else" : Str)::(lnsL ns++[("end" : Str)]))):=by
    show (Ln.cho a::(tkL ys++(.els::(tkL ns++[.en])))).map lnT=_
    unfold lnsL;simp only [List.map_cons,List.map_append,List.map_nil];rfl
   rw [et];simp
  | tim k ys =>
   have d1:(Str.ofString "times" = Str.ofString "is")=False:=eq_false (by decide);have d2:(Str.ofString "times" = Str.ofString "op")=False:=eq_false (by decide);have d3:(Str.ofString "times" = Str.ofString "choose")=False:=eq_false (by decide);have hd':1+depL ys<=dp:=hd;have hs':1+szL ys<=200:=hs;have hk:k<=20:=ht.1;simp! [rowD,d1];dsimp! [d2];dsimp! [id];refine toI (by omega) ?_;refine ⟨by decide,fun p hp=>?_⟩;refine mj (ws:=["times",numI (k:Int)]) u01 (ud3 (l:=.tim k) ht.1) (by simp) ?_;have g1:=Grow.refl.new (o:=.lst [D.str "times",D.str (numI (k:Int))]) hp;generalize gup G p (.lst [D.str "times",D.str (numI (k:Int))])=G1 at *;dsimp! [d3];dsimp! [id];refine ⟨by decide,fun p2 h2=>?_⟩;have g2:Grow G1 (gup G1 p2 (.lst [D.str (jn " " ["times",numI (k:Int)])])):=Grow.refl.new h2;have k2:gup G1 p2 (.lst [D.str (jn " " ["times",numI (k:Int)])]) p2=some (.lst [D.str (jn " " ["times",numI (k:Int)])]):=u01;generalize gup G1 p2 (.lst [D.str (jn " " ["times",numI (k:Int)])])=G2 at *;refine um8 T ht.2 (by omega) (by omega) fun q3 G3 f3 k3 g3=>?_
   have l3:=u64 (rs:=ys) (by omega);have k23:=g3.kp _ _ k2;refine add_l k23 k3 (by simp only [List.length_cons,List.length_nil];omega) fun q4 h4=>?_
   have g4:Grow G3 (gup G3 q4 (.lst ([D.str (jn " " ["times",numI (k:Int)])]++(lnsL ys).map D.str))):=Grow.refl.new h4;have k4:gup G3 q4 (.lst ([D.str (jn " " ["times",numI (k:Int)])]++(lnsL ys).map D.str)) q4=some (.lst ([D.str (jn " " ["times",numI (k:Int)])]++(lnsL ys).map D.str)):=u01;generalize gup G3 q4 (.lst ([D.str (jn " " ["times",numI (k:Int)])]++(lnsL ys).map D.str))=G4 at *;refine ⟨by decide,fun p5 h5=>?_⟩;have g5:Grow G4 (gup G4 p5 (.lst [D.str "end"])):=Grow.refl.new h5;have k5:gup G4 p5 (.lst [D.str "end"]) p5=some (.lst [D.str "end"]):=u01;have k45:=g5.kp _ _ k4;generalize gup G4 p5 (.lst [D.str "end"])=G5 at *;have gg:=(((g1.trans g2).trans g3).trans g4).trans g5;refine add_l k45 k5 (by simp only [List.length_cons,List.length_nil,List.length_append];omega) fun q10 h10=>post q10 _ (gg.none h10) ?_ (gg.new h10)
   rw [u01];have et:lnsR (.tim k ys)=jn " " ["times",numI (k:Int)]::(lnsL ys++[("end" : Str)]):=by
    show (Ln.tim k::(tkL ys++[.en])).map lnT=_
    unfold lnsL;simp only [List.map_cons,List.map_append,List.map_nil];rfl
   rw [et];simp
theorem wi4 {n:Nat}:Ok P w mg base (n+1) T.f_jaa (vm2 T):=by
 refine u19 T.f_jaa vo3 (fun ds G R h=>?_) (fun cdv A outer s H E hr =>
   (u03 (vw7 T.c_Block.cl T.c_Block.n_head (ev 0) (ev 1))
   (u03 (vw7 T.c_Block.cl T.c_Block.n_most_ways (ev 0) (ev 2))
   (u06 (vw7 T.c_Block.cl T.c_Block.n_ways (ev 0) (u21 (u00 (u21 u02) u02))))))) (fun ds G R h=>?_)
 ·obtain ⟨p,h,m,rfl,_⟩:=h;rfl
 ·obtain ⟨p,hd,m,rfl,hp,post⟩:=h
  have z1:(Str.ofString "head" = Str.ofString "most_ways")=False:=eq_false (by decide);have z2:(Str.ofString "head" = Str.ofString "ways")=False:=eq_false (by decide);have z3:(Str.ofString "most_ways" = Str.ofString "ways")=False:=eq_false (by decide);simp! [hp,bsn,beq_self_eq_true,List.lookup_cons,List.lookup_nil,putD,z1,z2,z3];refine ⟨by decide,?_⟩;dsimp! [u01,bsn,beq_self_eq_true,List.lookup_cons,List.lookup_nil,putD,z1,z2,z3];refine ⟨by decide,?_⟩;dsimp! [u01,bsn,beq_self_eq_true,List.lookup_cons,List.lookup_nil,putD,z1,z2,z3,u54,if_false];refine ⟨by decide,fun w hw=>⟨by decide,fun wp hwp=>?_⟩⟩;have np:p ≠ w:=gne u01 hw;have n2:p ≠ wp:=gne (by rw [u07 np];exact u01) hwp;have n3:w ≠ wp:=gne u01 hwp;rw [u07 (Ne.symm np)] at hw;rw [u07 (Ne.symm n3),u07 (Ne.symm n2)] at hwp;simp! [u07 n2,u07 np,u01,bsn,beq_self_eq_true,List.lookup_cons,List.lookup_nil,putD,z1,z2,z3];refine ⟨by decide,post wp w _ hwp hw (Ne.symm n3) u01 (by rw [u07 (Ne.symm n2),u01]) (by rw [u07 (Ne.symm np),u07 n3,u01]) fun b o hb e=>?_⟩;rw [u07 hb,u07 (gne e hwp),u07 (gne e hw),u07 hb];exact e
theorem wi3 {n:Nat}:Ok P w mg base (n+1) T.f_jab (vm1 T):=by
 refine u19 T.f_jab vo2 (fun ds G R h=>?_) (fun cdv A outer s H E hr =>
   (u06 (u17 (u55 (x_eq hr) (u10 u28 rfl T.b_len (by decide) (u00 (uz3 T.c_Block.cl T.c_Block.n_ways (ev 0)) u02)) (uz3 T.c_Block.cl T.c_Block.n_most_ways (ev 0)) (nomark _))))) (fun ds G R h=>?_)
 ·obtain ⟨f,a,rfl,_⟩:=h;rfl
 ·obtain ⟨f,a,rfl,A,post⟩:=h
  have hi:=A.i;unfold insD at hi;have hl:=A.o.len;simp! [hi,u84,A.wl,u08];have e2:(((((a.os++[a.w]).map D.ref).length:Nat):Int)=(f.most:Int))=(f.ws.length=f.most):=by
   have:((a.os++[a.w]).map D.ref).length=f.ws.length:=by unfold Fm.ws;simp [hl]
   rw [this];exact propext ⟨fun z=>by omega,fun z=>by omega⟩
  simp only [e2];exact post
theorem wi2 {n:Nat}:Ok P w mg base (n+1) T.f_jac (vm0 T):=by
 refine u19 T.f_jac vo1 (fun ds G R h=>?_) (fun cdv A outer s H E hr =>
   (u06 (u26 (u31 (e_ix x_ix (uz3 T.c_Block.cl T.c_Block.n_ways (ev 0)) (e_un ud5 u04)) (u00 (ev 1) u02))))) (fun ds G R h=>?_)
 ·obtain ⟨f,a,r,rfl,_⟩:=h;rfl
 ·obtain ⟨f,a,r,rfl,A,hl,post⟩:=h
  have hi:=A.i;unfold insD at hi;have e1:atI ((a.os++[a.w]).map D.ref) (-1)=some (.ref a.w):=by rw [List.map_append];exact atI_last
  have hc:=A.c;simp! [hi,u84,A.wl,u08,e1,hc];have er:u20 f.cu++[rowD r]=u20 (f.cu++[r]):=by rw [u81];rfl
  rw [er];exact ⟨Nat.lt_of_le_of_lt (m:=1000) (by rw [u80];exact hl) (by decide),post⟩
theorem wi1 {n:Nat}:Ok P w mg base (n+1) T.f_jad (vl9 T):=by
 refine u19 T.f_jad vo0 (fun ds G R h=>?_) (fun cdv A outer s H E hr =>
   (u06 (u17 (u13 u24 (uz3 T.c_Block.cl T.c_Block.n_head (ev 0)) (u14 u49 rfl T.b_tuple (by decide) (u00 (ui0 (N':=["way"]) (ix:=[none]) (blk (osc:=u05 vf0) (N:=["self"]) rfl rfl (by decide)) (us5 (uz3 T.c_Block.cl T.c_Block.n_ways (ev 0))) (fun _ _ _ _=>(u35 0 (show (["way"]:List Str).Nodup by decide))) (fun _ _ _ _=>uh4) (fun _ _ _ _=>(u14 u49 rfl T.b_tuple (by decide) (u00 (ev 0) u02)))) u02)))))) (fun ds G R h=>?_)
 ·obtain ⟨f,a,rfl,_⟩:=h;rfl
 ·obtain ⟨f,a,rfl,A,h1,h2,post⟩:=h
  have hi:=A.i;unfold insD at hi;simp! [hi,u84,A.wl,u08];intro p hp;have np:a.wp ≠ p:=gne A.wl hp;have W1:WAt G (a.os++[a.w]) f.ws:=A.o.snoc A.c;have hlw:=W1.len;have hlo:f.ws.length<=2:=by cases f <;> simp [Fm.ws,Fm.ol]
  refine u36 (fun r σ G'=>∃ (t:List Addr) (ps qs:List (List Rowp)) (v0:Option D),r=t.map .ref /\ WAt G t qs /\ ps++qs=f.ws /\ G'=gup G p (.lst (ps.map fun w=>D.tup (u20 w))) /\ σ=[v0]) ⟨a.os++[a.w],[],f.ws,none,rfl,W1,rfl,rfl,rfl⟩ ?_ ?_
  ·rintro σ G2 ⟨t,ps,qs,v0,e1,e2,e3,rfl,rfl⟩
   cases t with
   | nil =>
    have e2:qs=[]:=e2;rw [e2,List.append_nil] at e3;subst e3;refine ⟨by rw [u07 np,A.wl],?_⟩;simp! [u01,u08];exact ⟨h1,Nat.le_trans (m:=100) (by rw [List.length_map];omega) (by decide),post _ (Grow.refl.new hp)⟩
   | cons x t=>cases e1
  ·rintro x r σ G2 ⟨t,ps,qs,v0,e1,e2,e3,rfl,rfl⟩ ih
   cases t with
   | nil=>cases e1
   | cons b t =>
    cases e1;obtain ⟨p1,qs,rfl,k1,e2⟩:=e2;refine ⟨by rw [u07 np,A.wl],?_⟩;have nb:b ≠ p:=gne k1 hp;simp! [u07 nb,k1,u08,u01];have hlp:ps.length<=2:=by
     have:=congrArg List.length e3;rw [List.length_append] at this;omega
    refine ⟨Nat.lt_of_le_of_lt (m:=100) (by rw [List.length_map];omega) (by decide),ih _ _ ⟨t,ps++[p1],qs,some (.ref b),rfl,e2,by rw [<- e3];simp,?_,rfl⟩⟩;rw [u54,List.map_append];rfl
theorem wf0 {n:Nat} (G_jaa:Ok P w mg base (n+1) T.f_jaa (vm2 T)) (G_jad:Ok P w mg base (n+2) T.f_jad (vl9 T)) (G_jbp:OkX P w mg base (n+2) T.f_jbp (w57 T)) (G_jbn:OkX P w mg base (n+2) T.f_jbn (w59 T)) (G_jbt:Ok P w mg base (n+2) T.f_jbt (w55 T)):OkX P w mg base (n+3) T.f_jbl (vc4 T):=by
 refine us7 T.f_jbl sc_jbl (fun ds G R r h=>?_) (fun cdv A outer s H E r hr =>
   (u03 (u12 1 sc_jbl.nd (u62 (ev 0) (u00 u09 u02)))
   (u03 (u12 2 sc_jbl.nd (u77 (u00 (ecX ue4 T.f_jbp T.g_read_wide G_jbp hr (u00 (ev 1) u02)) (u00 (ecX ue4 T.f_jbn T.g_read_boxes G_jbn hr (u00 (ev 1) u02)) u02))))
   (u03 (u12 3 sc_jbl.nd (u21 (u00 (emk T.mk_Block T.c_Block.m G_jaa hr (u00 (ev 2) (u00 u04 u02))) u02)))
   (u03 (un7 (uh5 rfl T.b_enumerate (u00 (ev 1) u02)) (w19 (n:=2) rfl (ua4 (u35 4 sc_jbl.nd) (ua4 (u35 5 sc_jbl.nd) v79))) (u06 (s_if (t_w (w_and (u11 (x_ge) (ev 4) u04 (nomark _)) (u50 (ua8 (ua0 (ec T.f_jbt T.g_take_line G_jbt hr (u00 (u62 (ev 5) (u00 u09 u02)) (u00 (ev 3) u02)))))))) (u06 (uc4 T.xm_BadText (u48 T) hr T.f_BadText_init.b T.e_BadText.m (u00 (ev 4) u02))) u18)) (hp:=vq3 ue4))
   (u03 (s_if (u11 (x_gt) (u10 u28 rfl T.b_len (by decide) (u00 (ev 3) u02)) u04 (nomark _)) (u06 (uc4 T.xm_BadText (u48 T) hr T.f_BadText_init.b T.e_BadText.m (u00 (u10 u28 rfl T.b_len (by decide) (u00 (ev 1) u02)) u02))) u18)
   (u06 (u17 (em0 T.c_Block.cl T.f_jad T.m_jad G_jad hr (e_ix x_ix (ev 3) u04)))))))))) (fun ds G R r h=>?_)
 ·obtain ⟨t,rfl,_⟩:=h;rfl
 ·obtain ⟨t,rfl,O,good,bad⟩:=h
  obtain ⟨O1,O2,O3⟩:=O;simp! [id];refine spN (Nat.le_trans O1 (by decide)) rfl (by omega) fun p hp=>?_
  have hne:=ub0 t "\n";generalize Txt.split t "\n"=ls at *;obtain ⟨l0,lt,rfl⟩:∃ l0 lt,ls=l0::lt:=by
   cases ls with
   | nil=>exact absurd rfl hne
   | cons a b=>exact ⟨a,b,rfl⟩
  have g1:Grow G (gup G p (.lst ((l0::lt).map .str))):=Grow.refl.new hp;have k1:gup G p (.lst ((l0::lt).map .str)) p=some (.lst ((l0::lt).map .str)):=u01;generalize gup G p (.lst ((l0::lt).map .str))=G1 at *;rw [List.length_cons] at O2;dsimp! [id];refine ue6 (post:=fun d G'=>∃ W:Nat,1<=W /\ W<=16 /\ Txt.split l0 " " = [("wide" : Str),numI (W:Int)] /\ d=.int (W:Int) /\ Grow G1 G') (fun R h=>⟨p,l0,lt,rfl,k1,O3 l0 (by simp),(fun W h1 h2 e G' z=>h _ _ ⟨W,h1,h2,e,rfl,z⟩),fun z G' g'=>bad 0 (fw_0 z) _ (g1.trans g')⟩) ?_;rintro d G2 ⟨W,hW1,hW2,eW,rfl,g2⟩;have H0:isH0 l0:=⟨W,hW1,hW2,eW⟩;have g12:=g1.trans g2;simp! [id];have k12:=g2.kp _ _ k1;refine ue6 (post:=fun d G'=>∃ (y:Str) (lt' bs:List Str),lt=y::lt' /\ 1<=bs.length /\ bs.length<=6 /\ (∀ b ∈ bs,nmB b=true) /\ Txt.split y " " = ("boxes" : Str)::bs /\ d=.tup (bs.map .str) /\ Grow G2 G') (fun R h=>⟨p,l0,lt,rfl,k12,(fun x hx=>O3 x (List.mem_cons_of_mem _ hx)),by omega,(fun y lt' bs e h1 h2 h3 e2 G' z=>h _ _ ⟨y,lt',bs,e,h1,h2,h3,e2,rfl,z⟩),fun z G' g'=>bad 1 (by
   cases lt with
   | nil=>exact fw_l H0
   | cons y lt=>exact fw_1 H0 (z y lt rfl)) _ (g12.trans g')⟩) ?_
  rintro d G3 ⟨y,lt',bs,rfl,hb1,hb2,hbn,eB,rfl,g3⟩;have H1:isH1 y:=⟨bs,hb1,hb2,hbn,eB⟩;have hfw:=fw_2 (ls:=lt') H0 H1;have k13:=g3.kp _ _ k12;have g13:=g12.trans g3;rw [List.length_cons] at O2;simp! [id];refine ⟨by decide,?_⟩;dsimp! [id];intro x hx;refine u15 (post:=fun d G'=>d=.non /\ ∃ wp w,gup G3 x (.ins T.c_Block.C []) wp=none /\ gup G3 x (.ins T.c_Block.C []) w=none /\ wp ≠ w /\ G' x=some (insD T.c_Block.C [.int (W:Int),.tup (bs.map .str)] 1 wp) /\ G' wp=some (.lst [.ref w]) /\ G' w=some (.lst []) /\ (∀ b o,b ≠ x->gup G3 x (.ins T.c_Block.C []) b=some o->G' b=some o)) (fun R h=>⟨x,_,1,rfl,u01,fun wp w G' x1 x2 x3 x4 x5 x6 x7=>h _ _ ⟨rfl,wp,w,x1,x2,x3,x4,x5,x6,x7⟩⟩) ?_;rintro d G4 ⟨rfl,wp,w,x1,x2,x3,x4,x5,x6,x7⟩;refine ⟨rfl,by decide,fun bp hbp=>?_⟩;have nx1:wp ≠ x:=fun e=>by rw [e,u01] at x1;cases x1
  have nx2:w ≠ x:=fun e=>by rw [e,u01] at x2;cases x2
  rw [u07 nx1] at x1;rw [u07 nx2] at x2;have g34:Grow G3 G4:=⟨fun b o e=>x7 b o (gne e hx) (by rw [u07 (gne e hx)];exact e)⟩;have b1:bp ≠ x:=gne' hbp x4;have b2:bp ≠ wp:=gne' hbp x5;have b3:bp ≠ w:=gne' hbp x6;have K0:Stk T.c_Block.C G3 (gup G4 bp (.lst [D.ref x])) bp [.root [.int (W:Int),.tup (bs.map .str)] []] [⟨x,wp,[],w⟩]:=by
   refine ⟨g34.new hbp,u01,⟨_,[],rfl,⟨by rw [u07 (Ne.symm b1)];exact x4,by rw [u07 (Ne.symm b2)];exact x5,rfl,by rw [u07 (Ne.symm b3)];exact x6⟩,rfl⟩,?_,fun b hb=>?_⟩
   ·simp [adr];exact ⟨⟨b1,b2,b3⟩,⟨Ne.symm nx1,Ne.symm nx2⟩,x3⟩
   ·simp [adr] at hb
    rcases hb with z | z | z | z
    ·rw [z];exact g34.none hbp
    ·rw [z];exact hx
    ·rw [z];exact x1
    ·rw [z];exact x2
  generalize gup G4 bp (.lst [D.ref x])=G5 at *;have k15:=K0.g.kp _ _ k13;dsimp! [vd6,k15,u08];generalize hN:Go (dSeq _ _ _)=N;refine u61 (fun r σ G'=>∃ (i:Nat) (ls:List Str) (v4 v5:Option D),r=enD i (ls.map .str) /\ Grow G3 G' /\ (i=0 /\ ls=l0::y::lt' /\ Stk T.c_Block.C G3 G' bp [.root [.int (W:Int),.tup (bs.map .str)] []] [⟨x,wp,[],w⟩] \/ i=1 /\ ls=y::lt' /\ Stk T.c_Block.C G3 G' bp [.root [.int (W:Int),.tup (bs.map .str)] []] [⟨x,wp,[],w⟩] \/ 2<=i /\ ∃ (l:List Str) (lk:List Ln) (S:List Fm) (as:List Fa),l++ls=lt' /\ l=lk.map lnT /\ (∀ z ∈ lk,okLn z) /\ i=l.length+2 /\ txS S=lk /\ wfS S /\ rtS S=[.int (W:Int),.tup (bs.map .str)] /\ fwT (l0::y::lt')=rnT i ls (tgS S) /\ mS S<=l.length+1 /\ Stk T.c_Block.C G3 G' bp S as) /\ σ=[some (D.str t),some (D.ref p),some (D.tup [D.int (W:Int),D.tup (List.map D.str bs)]),some (D.ref bp),v4,v5]) ⟨0,_,none,none,rfl,K0.g,.inl ⟨rfl,rfl,K0⟩,rfl⟩ ?_ ?_
  ·rintro σ G6 ⟨i,ls,v4,v5,e1,g6,hc,rfl⟩
   have hls:ls=[]:=by
    cases ls with
    | nil=>rfl
    | cons x y=>cases e1
   subst hls;have k16:=g6.kp _ _ k13;refine ⟨by rw [k16];rfl,?_⟩
   rcases hc with ⟨_,e,_⟩ | ⟨_,e,_⟩ | ⟨_,l,lk,S,as,e,e2,e2k,e3,etx,hwf,hrt,hfr,hm,K6⟩
   ·cases e
   ·cases e
   rw [List.append_nil] at e;subst e;have hb:=K6.b;have hlS:=Stk.len K6.s;have hlt:=uu1 hwf;rw [<- hN];clear hN;dsimp! [hb,u08,List.length_map,List.length_reverse];have hfr':fwT (l0::y::l)=if tgS S=[] then none else some i:=hfr
   by_cases ht:tgS S=[]
   ·rw [if_neg (by rw [decide_eq_false (by rw [ht] at hlt;simp at hlt;omega)];decide)]
    obtain ⟨dd,rs,rfl⟩:=w81 hwf ht;cases (show dd=[.int (W:Int),.tup (bs.map .str)] from hrt);obtain ⟨a,t',rfl,A,rest⟩:=id K6.s;have rest:t'=[]:=rest;subst rest;have hb:=K6.b;have hi:=A.i;unfold insD at hi;rw [if_pos ht] at hfr';have etx:tkL rs=lk:=by
     have:[]++tkL rs=lk:=etx;exact this
    have htL:tL rs:=v53 rs fun l' m=>e2k l' (by rw [<- etx];exact m)
    dsimp! [hb,u08,List.map_cons,List.map_nil,List.reverse_cons,List.reverse_nil,List.nil_append,u67,hi,u84];refine u15 (post:=fun d G'=>d=prD W bs rs /\ Grow G6 G') (fun R h=>⟨_,a,rfl,A,by simp [Fm.hd],by simp [Fm.hd],fun G' z=>h _ _ ⟨rfl,z⟩⟩) ?_;rintro d G7 ⟨rfl,g7⟩;refine good hfr' W bs rs hW1 hW2 hb1 hb2 hbn htL ?_ _ (g13.trans (K6.g.trans g7));unfold prL lnsL;rw [e2,<- etx,u69 eW,u69 eB]
   ·rw [if_pos (decide_eq_true (by
     have:0 < (tgS S).length:=List.length_pos_iff.mpr ht;omega))]
    rw [if_neg ht] at hfr';simp! [k16,u08,List.length_cons,List.length_map];rw [show ((l.length+1+1:Nat):Int)=(i:Int) by omega];exact bad i hfr' _ (g13.trans K6.g)
  ·rintro z r σ G6 ⟨i,ls,v4,v5,e1,g6,hc,rfl⟩ ih
   cases ls with
   | nil=>cases e1
   | cons s0 ls =>
    cases e1;refine ⟨by rw [g6.kp _ _ k13];rfl,?_⟩;generalize hFL:forL _ _ _ _ (enD (i+1) _)=FL at ih ⊢;simp! [id]
    rcases hc with ⟨e0,e,K6⟩ | ⟨e0,e,K6⟩ | ⟨hi2,l,lk,S,as,e,e2,e2k,e3,etx,hwf,hrt,hfr,hm,K6⟩
    ·subst e0
     rw [if_neg (by decide)];cases e;exact ih _ _ ⟨1,_,_,_,rfl,g6,.inr (.inl ⟨rfl,rfl,K6⟩),rfl⟩
    ·subst e0
     rw [if_neg (by decide)];cases e;exact ih _ _ ⟨2,_,_,_,rfl,g6,.inr (.inr ⟨Nat.le_refl _,[],[],[.root [.int (W:Int),.tup (bs.map .str)] []],_,rfl,rfl,by simp,rfl,rfl,rfl,rfl,hfw,Nat.le_refl _,K6⟩),rfl⟩
    ·rw [if_pos (decide_eq_true (by omega))]
     have hlen:=congrArg List.length e;rw [List.length_append,List.length_cons] at hlen;have hs0:=O3 s0 (List.mem_cons_of_mem _ (List.mem_cons_of_mem _ (by rw [<- e];simp)));have hsl:=uc2 u95 s0;simp! [id];refine spA (Nat.le_trans hs0 (by decide)) rfl (Nat.le_trans hsl (by omega)) fun p7 h7=>?_
     have K7:=K6.new (o:=.lst ((Txt.split s0 " ").map .str)) h7;have k7:gup G6 p7 (.lst ((Txt.split s0 " ").map .str)) p7=some (.lst ((Txt.split s0 " ").map .str)):=u01;have g67:Grow G6 (gup G6 p7 (.lst ((Txt.split s0 " ").map .str))):=Grow.refl.new h7;generalize gup G6 p7 (.lst ((Txt.split s0 " ").map .str))=G7 at *;refine u15 (post:=fun d G'=>(∃ l S',okLn l /\ Txt.split s0 " " = wdL l /\ stpL l S=some S' /\ d=.bl true /\ ∃ as',Stk T.c_Block.C G3 G' bp S' as') \/ (∀ l,okLn l->Txt.split s0 " " = wdL l->stpL l S=none) /\ d=.bl false /\ Grow G7 G') (fun R h=>⟨p7,bp,G3,S,as,Txt.split s0 " ",rfl,k7,⟨fun x hx=>Nat.le_trans (uf6 u95 hx) (by omega),by omega⟩,K7,hwf,by omega,(fun l S' ho e hs as' G' z=>h _ _ (.inl ⟨l,S',ho,e,hs,rfl,as',z⟩)),fun hs G' z=>h _ _ (.inr ⟨hs,rfl,z⟩)⟩) ?_;rintro d G8 (⟨tk,S',ho,ew,hs,rfl,as',K8⟩ | ⟨hs,rfl,g8⟩)
     ·simp! [id]
      have hm':=wa0 hs;have tg:=(v26 (l:=tk) hwf).1 S' hs;exact ih _ _ ⟨i+1,_,_,_,rfl,K8.g,.inr (.inr ⟨by omega,l++[s0],lk++[tk],S',as',by rw [<- e];simp,by rw [e2,List.map_append,w14 ew];rfl,(fun z hz=>by
       rcases List.mem_append.mp hz with hz | hz
       ·exact e2k z hz
       ·rw [List.mem_singleton.mp hz];exact ho),by rw [List.length_append];simp;omega,by rw [vs6 ho hs,etx],tg.1,(vs7 hs).trans hrt,by rw [hfr];exact ur3 (by rw [un2 ho ew];exact tg.2),by rw [List.length_append];simp;omega,K8⟩),rfl⟩
     ·simp! [id]
      refine bad i ?_ _ (g13.trans (K6.g.trans (g67.trans g8)));rw [hfr];refine vo4 ?_;cases el:lnW (Txt.split s0 " ") with
      | none=>unfold stW;rw [el];rfl
      | some tk =>
       obtain ⟨ho,ew⟩:=u90 el;rw [un2 ho ew];exact (v26 hwf).2 (hs tk ho ew)
theorem we6 {n:Nat} (G_jbj:Ok P w mg base (n+2) T.f_jbj (uz8 T)):OkX P w mg base (n+3) T.f_jbp (w57 T):=by
 refine us7 T.f_jbp sc_jbp (fun ds G R r h=>?_) (fun cdv A outer s H E r hr =>
   (u03 (u12 1 sc_jbp.nd (u62 (e_ix x_ix (ev 0) u04) (u00 u09 u02)))
   (u03 (s_if (t_w (w_or (u11 (x_ne hr) (u10 u28 rfl T.b_len (by decide) (u00 (ev 1) u02)) u04 (nomark _)) (u94 (u11 (x_ne hr) (e_ix x_ix (ev 1) u04) u09 (nomark _))))) (u06 (uc4 T.xm_BadText (u48 T) hr T.f_BadText_init.b T.e_BadText.m (u00 u04 u02))) u18)
   (u03 (u12 2 sc_jbp.nd (ec T.f_jbj T.g_number_in G_jbj hr (u00 (e_ix x_ix (ev 1) u04) (u00 (uh9 T.k_WIDEST) u02))))
   (u03 (s_if (t_w (w_or (u11 (uq5) (ev 2) u96 (nomark _)) (u94 (u11 (x_eq hr) (ev 2) u04 (nomark _))))) (u06 (uc4 T.xm_BadText (u48 T) hr T.f_BadText_init.b T.e_BadText.m (u00 u04 u02))) u18)
   (u06 (u17 (ev 2)))))))) (fun ds G R r h=>?_)
 ·obtain ⟨la,l0,ls,rfl,_⟩:=h;rfl
 ·obtain ⟨la,l0,ls,rfl,hla,hl,good,bad⟩:=h
  simp! [hla,u08,u67,List.map_cons];have hsl:=uc2 u95 l0;refine spA (Nat.le_trans hl (by decide)) rfl (Nat.le_trans hsl (by omega)) fun p hp=>?_
  have hml:∀ x ∈ Txt.split l0 " ",x.length<=5000:=fun x hx=>Nat.le_trans (uf6 u95 hx) hl
  have bad':(∀ W:Nat,1<=W->W<=16->Txt.split l0 " " ≠ [("wide" : Str),numI (W:Int)])->∀ G',Grow G G'->r T.e_BadText.C [("at",.int 0)] G':=fun z=>bad (by rintro ⟨W,h1,h2,e⟩;exact z W h1 h2 e)
  clear bad;generalize Txt.split l0 " " = ws at *;have g1:Grow G (gup G p (.lst (ws.map .str))):=Grow.refl.new hp;have k1:gup G p (.lst (ws.map .str)) p=some (.lst (ws.map .str)):=u01;generalize gup G p (.lst (ws.map .str))=G1 at *;dsimp! [k1,u08,List.length_map]
  by_cases h2:¬ ws.length=2
  ·rw [if_pos (by rw [decide_eq_false (by omega)];rfl)]
   simp! [id];exact bad' (fun W _ _ e=>h2 (by rw [e];rfl)) _ g1
  have h2:=Classical.not_not.mp h2;rw [if_neg (by rw [decide_eq_true (by omega)];decide)];obtain ⟨u,v,rfl⟩:∃ u v,ws=[u,v]:=by
   match ws,h2 with
   | [a,b],_=>exact ⟨a,b,rfl⟩
  simp! [k1,u08,u67,List.map_cons]
  by_cases hu:¬ u=Str.ofString "wide"
  ·rw [if_pos (by rw [decide_eq_false hu];rfl)]
   simp! [id];exact bad' (fun W _ _ e=>hu (by cases e;rfl)) _ g1
  have hu:=Classical.not_not.mp hu;rw [if_neg (by rw [decide_eq_true hu];decide)];dsimp! [k1,u08,ud0,List.map_cons];refine w43 T (Nat.le_trans (hml v (by simp)) (by decide)) (by decide) (fun W G2 hW e g2=>?_) fun G2 hn g2=>by
   simp! [id];dsimp! [id];exact bad' (fun W h1 h2 e=>hn ⟨W,h2,by cases e;rfl⟩) _ (g1.trans g2)
  simp! [id];dsimp! [id]
  by_cases h0:W=0
  ·rw [if_pos (decide_eq_true (by omega))]
   simp! [id];refine bad' (fun W' h1 h2 e'=>?_) _ (g1.trans g2);cases e';have:=u87 e;omega
  ·rw [if_neg (by rw [decide_eq_false (by omega)];decide)]
   dsimp! [id];exact good W (by omega) hW (by rw [hu,e]) _ (g1.trans g2)
theorem we8 {n:Nat} (G_jah:Ok P w mg base (n+2) T.f_jah (v04 T)):OkX P w mg base (n+3) T.f_jbn (w59 T):=by
 refine us7 T.f_jbn sc_jbn (fun ds G R r h=>?_) (fun cdv A outer s H E r hr =>
   (u03 (u12 1 sc_jbn.nd (e_if (u11 (x_gt) (u10 u28 rfl T.b_len (by decide) (u00 (ev 0) u02)) u04 (nomark _)) (u62 (e_ix x_ix (ev 0) u04) (u00 u09 u02)) (u21 u02)))
   (u03 (u12 2 sc_jbn.nd (e_sl x_sl (ev 1) (u60 u04) u97))
   (u03 (s_if (t_w (w_or (u11 (x_lt) (u10 u28 rfl T.b_len (by decide) (u00 (ev 2) u02)) u04 (nomark _)) (w_or (u11 (x_gt) (u10 u28 rfl T.b_len (by decide) (u00 (ev 2) u02)) (uh9 T.k_MOST_BOXES) (nomark _)) (u94 (u11 (x_ne hr) (e_ix x_ix (ev 1) u04) u09 (nomark _)))))) (u06 (uc4 T.xm_BadText (u48 T) hr T.f_BadText_init.b T.e_BadText.m (u00 u04 u02))) u18)
   (u03 (s_if (ua8 (ua0 (u10 vq7 rfl T.b_all (by decide) (u00 (ui0 (N':=["name"]) (ix:=[none]) (blk (osc:=u05 ve3) (N:=["lines", "words", "names"]) rfl rfl (by decide)) (us5 (ev 2)) (fun _ _ _ _=>(u35 0 (show (["name"]:List Str).Nodup by decide))) (fun _ _ _ _=>uh4) (fun _ _ _ _=>(ec T.f_jah T.g_is_name G_jah hr (u00 (ev 0) u02)))) u02)))) (u06 (uc4 T.xm_BadText (u48 T) hr T.f_BadText_init.b T.e_BadText.m (u00 u04 u02))) u18)
   (u06 (u17 (u14 u49 rfl T.b_tuple (by decide) (u00 (ev 2) u02))))))))) (fun ds G R r h=>?_)
 ·obtain ⟨la,l0,ls,rfl,_⟩:=h;rfl
 ·obtain ⟨la,l0,ls,rfl,hla,hl,hn,good,bad⟩:=h
  simp! [hla,u08,ud0,List.map_cons,List.length_cons,List.length_map];generalize hN:Go (dSeq _ _ _)=N;have rest:∀ (p:Addr) (ws:List Str) (G1:Gp),Grow G G1->G1 p=some (.lst (ws.map .str))->(∀ x ∈ ws,x.length<=5000)->ws.length<=9000->(∀ bs:List Str,1<=bs.length->bs.length<=6->(∀ b ∈ bs,nmB b=true)->ws=("boxes" : Str)::bs->∀ G',Grow G G'->R (.tup (bs.map .str)) G')->((∀ bs:List Str,1<=bs.length->bs.length<=6->(∀ b ∈ bs,nmB b=true)->ws ≠ ("boxes" : Str)::bs)->∀ G',Grow G G'->r T.e_BadText.C [("at",.int 1)] G')->N [some (.ref la),some (.ref p),none] G1:=by
   intro p ws G1 g1 k1 hx hwl good bad;rw [<- hN];clear hN;dsimp! [k1,u08];intro p2 h2';rw [show cutD (ws.map D.str) (some 1) none=(ws.drop 1).map D.str by rw [List.map_drop];exact ui3 (n:=1)];have g2:Grow G1 (gup G1 p2 (.lst ((ws.drop 1).map .str))):=Grow.refl.new h2';have k2:gup G1 p2 (.lst ((ws.drop 1).map .str)) p2=some (.lst ((ws.drop 1).map .str)):=u01;have k12:=g2.kp _ _ k1;generalize gup G1 p2 (.lst ((ws.drop 1).map .str))=G2 at *;have g12:=g1.trans g2;dsimp! [k2,u08,List.length_map]
   by_cases e1:(ws.drop 1).length < 1
   ·rw [if_pos (decide_eq_true (by omega))]
    simp! [id];exact bad (fun bs h1 _ _ e=>by rw [e] at e1;simp at e1;rw [e1] at h1;simp at h1) _ g12
   rw [if_neg (by rw [decide_eq_false (by omega)];decide)]
   by_cases e2:(ws.drop 1).length > 6
   ·rw [if_pos (decide_eq_true (by omega))]
    simp! [id];exact bad (fun bs _ h2 _ e=>by rw [e] at e2;simp at e2;omega) _ g12
   rw [if_neg (by rw [decide_eq_false (by omega)];decide)];obtain ⟨w,bs,rfl⟩:∃ w bs,ws=w::bs:=by
    cases ws with
    | nil=>simp at e1
    | cons a b=>exact ⟨a,b,rfl⟩
   rw [List.drop_succ_cons,List.drop_zero] at e1 e2 k2;simp! [k12,u08,List.map_cons,u67]
   by_cases hw:¬ w=Str.ofString "boxes"
   ·rw [if_pos (by rw [decide_eq_false hw];rfl)]
    simp! [id];exact bad (fun bs _ _ _ e=>hw (by cases e;rfl)) _ g12
   have hw:=Classical.not_not.mp hw;rw [if_neg (by rw [decide_eq_true hw];decide)];dsimp! [k2,u08];intro p3 h3;refine u36 (fun r σ G'=>∃ (l t:List Str) (v:Option D),l++t=bs /\ r=t.map D.str /\ Grow G2 G' /\ G' p3=some (.lst ((l.map nmB).map .bl)) /\ σ=[v]) ⟨[],bs,none,rfl,rfl,Grow.refl.new h3,u01,rfl⟩ ?_ ?_
   ·rintro σ G3 ⟨l,t,v,e,e2',g3,k3,rfl⟩
    have ht:t=[]:=by simpa using e2'.symm
    subst ht;rw [List.append_nil] at e;subst e;have k23:=g3.kp _ _ k2;refine ⟨by rw [k23],?_⟩;simp! [k3,u78,ub8]
    by_cases hall:(l.map nmB).all id=true
    ·rw [hall]
     simp! [id];dsimp! [k23,u08];exact good l (by omega) (by omega) (fun b hb=>List.all_eq_true.mp hall _ (List.mem_map.mpr ⟨b,hb,rfl⟩)) (by rw [hw]) _ (g12.trans g3)
    ·rw [Bool.not_eq_true _ |>.mp hall]
     simp! [id];refine bad (fun bs _ _ hb e=>hall ?_) _ (g12.trans g3);cases e;rw [List.all_eq_true];intro x hx;obtain ⟨b,hb',rfl⟩:=List.mem_map.mp hx;exact hb b hb'
   ·rintro z r σ G3 ⟨l,t,v,e,e2',g3,k3,rfl⟩ ih
    cases t with
    | nil=>cases e2'
    | cons c t =>
     cases e2';have k23:=g3.kp _ _ k2;refine ⟨by rw [k23],?_⟩;have hlen:=congrArg List.length e;rw [List.length_append,List.length_cons] at hlen;simp! [id];refine vb7 T (Nat.le_trans (hx c (List.mem_cons_of_mem _ (by rw [<- e];simp))) (by decide)) fun G4 g4=>?_
     have k34:=g4.kp _ _ k3;simp! [k34];refine ⟨Nat.lt_of_le_of_lt (m:=1000) (by rw [List.length_map,List.length_map];omega) (by decide),ih _ _ ⟨l++[c],t,_,by rw [<- e,List.append_assoc];rfl,rfl,(g3.trans g4).own h3,?_,rfl⟩⟩;rw [u01,List.map_append,List.map_append];rfl
  cases ls with
  | nil =>
   rw [if_neg (by decide)];simp! [id];refine ⟨by decide,fun p hp=>?_⟩;exact rest p [] _ (Grow.refl.new hp) u01 (by simp) (by simp) (fun bs _ _ _ e=>by cases e) fun _=>bad (fun y lt e=>by cases e)
  | cons y lt =>
   rw [if_pos (decide_eq_true (by rw [List.length_cons];omega))];simp! [hla,u08,ud0,List.map_cons];have ly:=hl y (by simp);have hsl:=uc2 u95 y;refine spA (Nat.le_trans ly (by decide)) rfl (Nat.le_trans hsl (by omega)) fun p hp=>?_
   exact rest p (Txt.split y " ") _ (Grow.refl.new hp) u01 (fun x hx=>Nat.le_trans (uf6 u95 hx) ly) (Nat.le_trans hsl (by omega)) (fun bs h1 h2 h3 e=>good y lt bs rfl h1 h2 h3 e) fun z=>bad (fun y' lt' e=>by
    cases e;rintro ⟨bs,h1,h2,h3,e⟩;exact z bs h1 h2 h3 e)
theorem we3 {n:Nat} (G_jac:Ok P w mg base n T.f_jac (vm0 T)) (G_jae:Ok P w mg base n T.f_jae (w71 T)) (G_jaf:Ok P w mg base n T.f_jaf (w70 T)) (G_jbk:Ok P w mg base n T.f_jbk (w60 T)) (G_jbo:Ok P w mg base n T.f_jbo (w58 T)):Ok P w mg base (n+1) T.f_jbt (w55 T):=by
 refine u19 T.f_jbt sc_jbt (fun ds G R h=>?_) (fun cdv A outer s H E hr =>
   (u03 (s_if (u11 (x_eq hr) (ev 0) (u21 (u00 u09 u02)) (nomark _)) (u06 (u17 (ec T.f_jae T.g_begin_other_way G_jae hr (u00 (ev 1) u02)))) u18)
   (u03 (s_if (u11 (x_eq hr) (ev 0) (u21 (u00 u09 u02)) (nomark _)) (u06 (u17 (ec T.f_jaf T.g_close_block G_jaf hr (u00 (ev 1) u02)))) u18)
   (u03 (s_if (u11 (x_eq hr) (u10 u28 rfl T.b_len (by decide) (u00 (ev 0) u02)) u04 (nomark _)) (u06 (u17 (ec T.f_jbk T.g_open_block G_jbk hr (u00 (ev 0) (u00 (ev 1) u02))))) u18)
   (u03 (u12 2 sc_jbt.nd (ec T.f_jbo T.g_read_setting G_jbo hr (u00 (ev 0) u02)))
   (u03 (s_if (u11 (uq5) (ev 2) u96 (nomark _)) (u06 (u17 e_bl)) u18)
   (u03 (u26 (em T.c_Block.cl T.f_jac T.m_jac G_jac hr (e_ix x_ix (ev 1) (e_un ud5 u04)) (u00 (ev 2) u02)))
   (u06 (u17 e_bl))))))))) (fun ds G R h=>?_)
 ·obtain ⟨wa,bp,G0,S,as,ws,rfl,_⟩:=h;rfl
 ·obtain ⟨wa,bp,G0,S,as,ws,rfl,hw,hk,K0,hwf,hm,good,bad⟩:=h
  simp! [id];refine ⟨by decide,fun p hp=>?_⟩;have K1:=K0.new (o:=.lst [D.str "else"]) hp;have g01:Grow G (gup G p (.lst [D.str "else"])):=Grow.refl.new hp;have nw:wa ≠ p:=gne hw hp;have hw1:gup G p (.lst [D.str "else"]) wa=some (.lst (ws.map .str)):=by rw [u07 nw];exact hw
  refine ue5 (ks:=ws) (ms:=["else"]) (by rw [hw1];rfl) (by rw [u01];rfl) ?_;generalize gup G p (.lst [D.str "else"])=G1 at *
  by_cases h1:ws=[Str.ofString "else"]
  ·rw [decide_eq_true h1]
   simp! [id];exact u15 (post:=fun d G'=>(∃ S',stpL .els S=some S' /\ d=.bl true /\ ∃ as',Stk T.c_Block.C G0 G' bp S' as') \/ stpL .els S=none /\ d=.bl false /\ G'=G1) (fun R h=>⟨bp,G0,S,as,rfl,K1,hwf,hm,(fun S' hs as' G' z=>h _ _ (.inl ⟨S',hs,rfl,as',z⟩)),fun hs=>h _ _ (.inr ⟨hs,rfl,rfl⟩)⟩) (by
    rintro d G' (⟨S',hs,rfl,as',z⟩ | ⟨hs,rfl,rfl⟩)
    ·exact good .els S' trivial h1 hs as' G' z
    ·exact bad (fun l hl e=>by rw [ue9 hl (m:=.els) trivial (e.symm.trans h1)];exact hs) _ g01)
  rw [decide_eq_false h1];simp! [id];dsimp! [id];refine ⟨by decide,fun p2 h2=>?_⟩;have K2:=K1.new (o:=.lst [D.str "end"]) h2;have g02:Grow G (gup G1 p2 (.lst [D.str "end"])):=g01.new h2;have nw2:wa ≠ p2:=gne hw1 h2;have hw2:gup G1 p2 (.lst [D.str "end"]) wa=some (.lst (ws.map .str)):=by rw [u07 nw2];exact hw1
  refine ue5 (ks:=ws) (ms:=["end"]) (by rw [hw2];rfl) (by rw [u01];rfl) ?_;generalize gup G1 p2 (.lst [D.str "end"])=G2 at *
  by_cases h3:ws=[Str.ofString "end"]
  ·rw [decide_eq_true h3]
   simp! [id];exact u15 (post:=fun d G'=>(∃ S',stpL .en S=some S' /\ d=.bl true /\ ∃ as',Stk T.c_Block.C G0 G' bp S' as') \/ stpL .en S=none /\ d=.bl false /\ G'=G2) (fun R h=>⟨bp,G0,S,as,rfl,K2,hwf,hm,(fun S' hs as' G' z=>h _ _ (.inl ⟨S',hs,rfl,as',z⟩)),fun hs=>h _ _ (.inr ⟨hs,rfl,rfl⟩)⟩) (by
    rintro d G' (⟨S',hs,rfl,as',z⟩ | ⟨hs,rfl,rfl⟩)
    ·exact good .en S' trivial h3 hs as' G' z
    ·exact bad (fun l hl e=>by rw [ue9 hl (m:=.en) trivial (e.symm.trans h3)];exact hs) _ g02)
  rw [decide_eq_false h3];simp! [id];dsimp! [hw2,u08,List.length_map]
  by_cases h4:ws.length=2
  ·rw [if_pos (decide_eq_true (by omega))]
   obtain ⟨u,v,rfl⟩:∃ u v,ws=[u,v]:=by
    match ws,h4 with
    | [a,b],_=>exact ⟨a,b,rfl⟩
   exact u15 (post:=fun d G'=>(∃ l S',okLn l /\ [u,v]=wdL l /\ stpL l S=some S' /\ d=.bl true /\ ∃ as',Stk T.c_Block.C G0 G' bp S' as') \/ (∀ l,okLn l->[u,v] ≠ wdL l) /\ d=.bl false /\ Grow G2 G') (fun R h=>⟨wa,bp,G0,S,as,u,v,rfl,hw2,hk.1 v (by simp),K2,hm,(fun l S' ho e hs as' G' z=>h _ _ (.inl ⟨l,S',ho,e,hs,rfl,as',z⟩)),fun hs G' z=>h _ _ (.inr ⟨hs,rfl,z⟩)⟩) (by
    rintro d G' (⟨l,S',ho,e,hs,rfl,as',z⟩ | ⟨hs,rfl,z⟩)
    ·exact good l S' ho e hs as' G' z
    ·exact bad (fun l hl e=>absurd e (hs l hl)) _ (g02.trans z))
  rw [if_neg (by rw [decide_eq_false (by omega)];decide)];dsimp! [id];refine u15 (post:=fun d G'=>Grow G2 G' /\ ((∃ r,okLn (.set r) /\ ws=wdL (.set r) /\ d=rowD r) \/ ¬ isS ws /\ d=.non)) (fun R h=>⟨wa,ws,rfl,hw2,hk,(fun r hr e G' z=>h _ _ ⟨z,.inl ⟨r,hr,e,rfl⟩⟩),fun hn G' z=>h _ _ ⟨z,.inr ⟨hn,rfl⟩⟩⟩) ?_;rintro d G3 ⟨g3,⟨r,hr,e,rfl⟩ | ⟨hn,rfl⟩⟩
  ·have K3:=K2.grow g3
   cases S with
   | nil=>exact hwf.elim
   | cons f S1 =>
    obtain ⟨a,t,rfl,A,rest⟩:=id K3.s;have hi:=A.i;unfold insD at hi;have hb:=K3.b;have e1:atI (D.ref a.p::List.map (fun a:Fa=>D.ref a.p) t).reverse (-1)=some (.ref a.p):=by rw [List.reverse_cons];exact atI_last
    have hrn:∀ P Q:Prop,Q->(match rowD r with | .non=>P | _=>Q):=fun P Q h=>by cases r <;> exact h
    have hml:f.cu.length<=1000:=by simp only [mS,mF] at hm;omega
    simp! [id];dsimp! [id];refine hrn _ _ ?_;dsimp! [hb,u08,e1,hi,u84];refine u93 (v:=.non) (G1:=gup G3 a.w (.lst (u20 (f.cu++[r])))) (fun R h=>⟨f,a,r,rfl,A,hml,h⟩) ?_;simp! [id];dsimp! [id];exact good (.set r) _ hr e rfl _ _ K3.put
  ·simp! [id]
   dsimp! [id];refine bad (fun l hl e=>?_) _ (g02.trans g3);cases l with
   | set r=>exact absurd ⟨r,hl,e⟩ hn
   | cho a=>exact absurd (by rw [e];rfl) h4
   | tim k=>exact absurd (by rw [e];rfl) h4
   | els=>exact absurd e h1
   | en=>exact absurd e h3
theorem wi0 {n:Nat} (G_jab:Ok P w mg base n T.f_jab (vm1 T)):Ok P w mg base (n+1) T.f_jae (w71 T):=by
 refine u19 T.f_jae vn9 (fun ds G R h=>?_) (fun cdv A outer s H E hr =>
   (u03 (s_if (ua0 (em0 T.c_Block.cl T.f_jab T.m_jab G_jab hr (e_ix x_ix (ev 0) (e_un ud5 u04)))) (u06 (u17 e_bl)) u18)
   (u03 (u26 (u31 (uz3 T.c_Block.cl T.c_Block.n_ways (e_ix x_ix (ev 0) (e_un ud5 u04))) (u00 (u21 u02) u02)))
   (u06 (u17 e_bl))))) (fun ds G R h=>?_)
 ·obtain ⟨bp,G0,S,as,rfl,_⟩:=h;rfl
 ·obtain ⟨bp,G0,S,as,rfl,K0,hw,hm,good,bad⟩:=h
  cases S with
  | nil=>exact hw.elim
  | cons f S =>
   obtain ⟨a,t,rfl,A,rest⟩:=K0.s;have hb:=K0.b;have hi:=A.i;unfold insD at hi;have e1:atI (D.ref a.p::List.map (fun a:Fa=>D.ref a.p) t).reverse (-1)=some (.ref a.p):=by rw [List.reverse_cons];exact atI_last
   simp! [hb,u08,e1,hi,u84];refine u93 (v:=.bl (decide (f.ws.length=f.most))) (G1:=G) (fun R h=>⟨f,a,rfl,A,h⟩) ?_;have full:f.ws.length=f.most->stpL .els (f::S)=none:=fun z=>by
    cases f with
    | c1 ac c=>exact absurd z (by simp [Fm.ws,Fm.ol,Fm.most])
    | root h c=>rfl
    | c2 ac y c=>rfl
    | tm k c=>rfl
   by_cases hf:f.ws.length=f.most
   ·rw [decide_eq_true hf]
    simp! [id];exact bad (full hf)
   rw [decide_eq_false hf];obtain ⟨ac,c,rfl⟩:∃ ac c,f=.c1 ac c:=by
    cases f with
    | c1 ac c=>exact ⟨ac,c,rfl⟩
    | root h c=>exact absurd rfl hf
    | c2 ac y c=>exact absurd rfl hf
    | tm k c=>exact absurd rfl hf
   simp! [id];dsimp! [hb,u08,e1,hi,u84,A.wl];refine ⟨by decide,fun p hp=>?_⟩;have nw:a.wp ≠ p:=gne A.wl hp;simp! [u07 nw,A.wl];have ho:a.os=[]:=by
    have z:=A.o;cases hh:a.os with
    | nil=>rfl
    | cons x y=>rw [hh] at z;obtain ⟨_,_,e,_⟩:=z;cases e
   refine ⟨by rw [ho];exact Nat.lt_of_le_of_lt (m:=1) (by simp) (by decide),?_⟩;dsimp! [id];exact good _ rfl _ _ (K0.way hp)
theorem wh9 {n:Nat} (G_jab:Ok P w mg base n T.f_jab (vm1 T)) (G_jac:Ok P w mg base n T.f_jac (vm0 T)) (G_jad:Ok P w mg base n T.f_jad (vl9 T)):Ok P w mg base (n+1) T.f_jaf (w70 T):=by
 refine u19 T.f_jaf sc_jaf (fun ds G R h=>?_) (fun cdv A outer s H E hr =>
   (u03 (s_if (t_w (w_or (u11 (x_eq hr) (u10 u28 rfl T.b_len (by decide) (u00 (ev 0) u02)) u04 (nomark _)) (u94 (ua8 (ua0 (em0 T.c_Block.cl T.f_jab T.m_jab G_jab hr (e_ix x_ix (ev 0) (e_un ud5 u04)))))))) (u06 (u17 e_bl)) u18)
   (u03 (u12 1 sc_jaf.nd (em0 T.c_Block.cl T.f_jad T.m_jad G_jad hr (va1 (ev 0))))
   (u03 (u26 (em T.c_Block.cl T.f_jac T.m_jac G_jac hr (e_ix x_ix (ev 0) (e_un ud5 u04)) (u00 (ev 1) u02)))
   (u06 (u17 e_bl)))))) (fun ds G R h=>?_)
 ·obtain ⟨bp,G0,S,as,rfl,_⟩:=h;rfl
 ·obtain ⟨bp,G0,S,as,rfl,K0,hw,hm,good,bad⟩:=h
  cases hst:stpL .en S with
  | none =>
   cases S with
   | nil=>exact hw.elim
   | cons f S =>
    obtain ⟨a,t,rfl,A,rest⟩:=K0.s;have hb:=K0.b;have hi:=A.i;unfold insD at hi;have e1:atI (D.ref a.p::List.map (fun a:Fa=>D.ref a.p) t).reverse (-1)=some (.ref a.p):=by rw [List.reverse_cons];exact atI_last
    have hlt:t.length=S.length:=Stk.len rest;simp! [hb,u08,List.length_map,List.length_reverse,List.length_cons,e1,hi,u84]
    by_cases h1:t.length=0
    ·rw [if_pos (decide_eq_true (by omega))]
     simp! [id];exact bad hst
    ·rw [if_neg (by rw [decide_eq_false (by omega)];decide)]
     refine u93 (v:=.bl false) (G1:=G) (fun R h=>⟨f,a,rfl,A,by
      have hf:f.ws.length ≠ f.most:=by
       cases f with
       | root h c=>have hw:S=[]:=hw;subst hw;exact absurd hlt h1
       | c1 ac c=>simp [Fm.ws,Fm.ol,Fm.most]
       | c2 ac y c =>
        cases S with
        | nil=>exact absurd hlt h1
        | cons g S=>cases hst
       | tm k c =>
        cases S with
        | nil=>exact absurd hlt h1
        | cons g S=>cases hst
      rw [decide_eq_false hf];exact h⟩) ?_
     simp! [id];exact bad hst
  | some S' =>
  have post:=good S' hst;obtain ⟨f,r,f2,S2,rfl,rfl,hf1,hf2,hf3,hf4⟩:=w99 hst;obtain ⟨a,t,rfl,A,a2,t2,rfl,A2,rest⟩:=K0.s;have hb:=K0.b;have hi:=A.i;unfold insD at hi;have e0:(((t2.length+1+1:Nat):Int)=1)=False:=eq_false (by omega);have e1:atI (D.ref a.p::D.ref a2.p::List.map (fun a:Fa=>D.ref a.p) t2).reverse (-1)=some (.ref a.p):=by rw [List.reverse_cons];exact atI_last
  simp! [hb,u08,List.length_map,List.length_reverse,List.length_cons,e0,e1,hi,u84];refine u93 (v:=.bl true) (G1:=G) (fun R h=>⟨f,a,rfl,A,by rw [decide_eq_true hf3];exact h⟩) ?_;simp! [id];dsimp! [hb];have hb':G bp=some (.lst ((((a2::t2).map fun a=>D.ref a.p).reverse)++[.ref a.p])):=by rw [hb];simp
  refine wb7 hb' ?_;have K1:=K0.pop;obtain ⟨a3,t3,e3,A3,_⟩:=K1.s;cases e3;have A':FAt T.c_Block.C (gup G bp (.lst (((a2::t2).map fun a=>D.ref a.p).reverse))) f a:=A.kp fun b hb2 o e=>by
   have nd:=K0.nd;rw [List.flatMap_cons] at nd;rw [u07 (show b ≠ bp from fun z=>(List.nodup_cons.mp nd).1 (by rw [<- z];exact List.mem_append_left _ hb2))];exact e
  generalize gup G bp (.lst (((a2::t2).map fun a=>D.ref a.p).reverse))=G1 at *;have hi':=A'.i;unfold insD at hi';simp! [hi',u84];refine u15 (post:=fun d G'=>d=rowD r /\ Grow G1 G') (fun R h=>⟨f,a,rfl,A',hf1,hf2,fun G' z=>h _ _ ⟨hf4,z⟩⟩) ?_;rintro d G2 ⟨rfl,g2⟩;have K2:=K1.grow g2;obtain ⟨a4,t4,e4,A4,_⟩:=K2.s;cases e4;have hi4:=A4.i;unfold insD at hi4;have hb4:=K2.b;have e5:atI (D.ref a2.p::List.map (fun a:Fa=>D.ref a.p) t2).reverse (-1)=some (.ref a2.p):=by rw [List.reverse_cons];exact atI_last
  have hml:f2.cu.length<=1000:=by
   simp only [mS,mF] at hm;omega
  simp! [id];dsimp! [hb4,u08,e5,hi4,u84];refine u93 (v:=.non) (G1:=gup G2 a2.w (.lst (u20 (f2.cu++[r])))) (fun R h=>⟨f2,a2,r,rfl,A4,hml,h⟩) ?_;simp! [id];dsimp! [id];exact post _ _ K2.put
theorem wf1 {n:Nat} (G_jbj:Ok P w mg base (n+1) T.f_jbj (uz8 T)) (G_jaa:Ok P w mg base n T.f_jaa (vm2 T)) (G_jbm:Ok P w mg base (n+1) T.f_jbm (vc3 T)):Ok P w mg base (n+1+1) T.f_jbk (w60 T):=by
 refine u19 T.f_jbk sc_jbk (fun ds G R h=>?_) (fun cdv A outer s H E hr =>
   (u03 (s_if (u11 (x_eq hr) (e_ix x_ix (ev 0) u04) u09 (nomark _)) (u03 (u12 2 sc_jbk.nd (ec T.f_jbm T.g_read_atom G_jbm hr (u00 (e_ix x_ix (ev 0) u04) u02)))
   (u06 (u12 3 sc_jbk.nd u04))) (u06 (s_if (u11 (x_eq hr) (e_ix x_ix (ev 0) u04) u09 (nomark _)) (u03 (u12 2 sc_jbk.nd (ec T.f_jbj T.g_number_in G_jbj hr (u00 (e_ix x_ix (ev 0) u04) (u00 (uh9 T.k_MOST_TIMES) u02))))
   (u06 (u12 3 sc_jbk.nd u04))) (u06 (u17 e_bl)))))
   (u03 (s_if (u11 (uq5) (ev 2) u96 (nomark _)) (u06 (u17 e_bl)) u18)
   (u03 (u26 (u31 (ev 1) (u00 (emk T.mk_Block T.c_Block.m G_jaa hr (u00 (u77 (u00 (e_ix x_ix (ev 0) u04) (u00 (ev 2) u02))) (u00 (ev 3) u02))) u02)))
   (u06 (u17 e_bl)))))) (fun ds G R h=>?_)
 ·obtain ⟨wa,bp,G0,S,as,u,v,rfl,_⟩:=h;rfl
 ·obtain ⟨wa,bp,G0,S,as,u,v,rfl,hw,hv,K0,hm,good,bad⟩:=h
  by_cases hu:u=Str.ofString "choose"
  ·have du:(u=Str.ofString "choose")=True:=eq_true hu
   simp! [hw,u08,u67,du];dsimp! [hw,u08,ud0];refine w42 T hv (fun a G1 ha e g1=>?_) fun G1 hn g1=>by
    simp! [id];dsimp! [id];refine bad (fun l hl z=>?_) _ g1;cases l with
    | cho a=>exact hn ⟨a,hl,by simp only [wdL,List.cons.injEq,and_true] at z;exact z.2⟩
    | tim k=>simp only [wdL,List.cons.injEq,and_true] at z;exact absurd (hu.symm.trans z.1) (by decide)
    | set r=>cases r <;> simp [wdL] at z
    | els=>simp [wdL] at z
    | en=>simp [wdL] at z
   rw [hu] at hw;have hw1:=g1.kp _ _ hw;have K1:=K0.grow g1;simp! [id];dsimp! [id];refine w53 ?_;dsimp! [hw1,u08,u67,List.map_cons,K1.b];refine ⟨by decide,fun p hp=>?_⟩;refine u15 (post:=fun d G'=>d=.non /\ ∃ wp w,gup G1 p (.ins T.c_Block.C []) wp=none /\ gup G1 p (.ins T.c_Block.C []) w=none /\ wp ≠ w /\ G' p=some (insD T.c_Block.C [.str "choose",aD a] 2 wp) /\ G' wp=some (.lst [.ref w]) /\ G' w=some (.lst []) /\ (∀ b o,b ≠ p->gup G1 p (.ins T.c_Block.C []) b=some o->G' b=some o)) (fun R h=>⟨p,_,2,rfl,u01,fun wp w G' x1 x2 x3 x4 x5 x6 x7=>h _ _ ⟨rfl,wp,w,x1,x2,x3,x4,x5,x6,x7⟩⟩) ?_;rintro d G2 ⟨rfl,wp,w,x1,x2,x3,x4,x5,x6,x7⟩;refine ⟨rfl,?_⟩;have kb:=x7 bp _ (gne K1.b hp) (by rw [u07 (gne K1.b hp)];exact K1.b);simp! [kb];have hlS:=Stk.len K0.s;have hmS:=v64 S;refine ⟨Nat.lt_of_le_of_lt (m:=1000) (by rw [List.length_reverse,List.length_map];omega) (by decide),?_⟩;dsimp! [id];exact good (.cho a) _ ha (by rw [hu,e];rfl) rfl _ _ (Stk.opens (f:=.c1 a []) K1 rfl rfl hp x1 x2 x3 x4 x5 x6 x7)
  by_cases hu2:u=Str.ofString "times"
  ·have du:(u=Str.ofString "choose")=False:=eq_false hu
   have du2:(u=Str.ofString "times")=True:=eq_true hu2;simp! [hw,u08,u67,du];dsimp! [hw,u08,u67,ud0,du2];dsimp! [hw,u08,u67,ud0];refine w43 T (Nat.le_trans hv (by decide)) (by decide) (fun k G1 hk e g1=>?_) fun G1 hn g1=>by
    simp! [id];refine bad (fun l hl z=>?_) _ g1;cases l with
    | tim k=>exact hn ⟨k,hl,by simp only [wdL,List.cons.injEq,and_true] at z;exact z.2⟩
    | cho a=>simp only [wdL,List.cons.injEq,and_true] at z;exact absurd (hu2.symm.trans z.1) (by decide)
    | set r=>cases r <;> simp [wdL] at z
    | els=>simp [wdL] at z
    | en=>simp [wdL] at z
   have hu:=hu2;rw [hu2] at hw;have hw1:=g1.kp _ _ hw;have K1:=K0.grow g1;simp! [id];dsimp! [id];dsimp! [hw1,u08,u67,List.map_cons,K1.b];refine ⟨by decide,fun p hp=>?_⟩;refine u15 (post:=fun d G'=>d=.non /\ ∃ wp w,gup G1 p (.ins T.c_Block.C []) wp=none /\ gup G1 p (.ins T.c_Block.C []) w=none /\ wp ≠ w /\ G' p=some (insD T.c_Block.C [.str "times",.int (k:Int)] 1 wp) /\ G' wp=some (.lst [.ref w]) /\ G' w=some (.lst []) /\ (∀ b o,b ≠ p->gup G1 p (.ins T.c_Block.C []) b=some o->G' b=some o)) (fun R h=>⟨p,_,1,rfl,u01,fun wp w G' x1 x2 x3 x4 x5 x6 x7=>h _ _ ⟨rfl,wp,w,x1,x2,x3,x4,x5,x6,x7⟩⟩) ?_;rintro d G2 ⟨rfl,wp,w,x1,x2,x3,x4,x5,x6,x7⟩;refine ⟨rfl,?_⟩;have kb:=x7 bp _ (gne K1.b hp) (by rw [u07 (gne K1.b hp)];exact K1.b);simp! [kb];have hlS:=Stk.len K0.s;have hmS:=v64 S;refine ⟨Nat.lt_of_le_of_lt (m:=1000) (by rw [List.length_reverse,List.length_map];omega) (by decide),?_⟩;exact good (.tim k) _ hk (by rw [hu,e];rfl) rfl _ _ (Stk.opens (f:=.tm k []) K1 rfl rfl hp x1 x2 x3 x4 x5 x6 x7)
  have du:(u=Str.ofString "choose")=False:=eq_false hu;have du2:(u=Str.ofString "times")=False:=eq_false hu2;simp! [hw,u08,u67,du];dsimp! [hw,u08,u67,du2];refine bad (fun l hl z=>?_) _ Grow.refl;cases l with
  | cho a=>simp only [wdL,List.cons.injEq,and_true] at z;exact hu z.1
  | tim k=>simp only [wdL,List.cons.injEq,and_true] at z;exact hu2 z.1
  | set r=>cases r <;> simp [wdL] at z
  | els=>simp [wdL] at z
  | en=>simp [wdL] at z
theorem we7 {n:Nat} (G_jah:Ok P w mg base n T.f_jah (v04 T)) (G_jbm:Ok P w mg base n T.f_jbm (vc3 T)):Ok P w mg base (n+1) T.f_jbo (w58 T):=by
 refine u19 T.f_jbo sc_jbo (fun ds G R h=>?_) (fun cdv A outer s H E hr =>
   (u03 (s_if (t_w (w_or (u11 (uk8 hr) (u10 u28 rfl T.b_len (by decide) (u00 (ev 0) u02)) (u77 (u00 u04 (u00 u04 u02))) (by with_unfolding_all rfl)) (w_or (ua8 (ua0 (ec T.f_jah T.g_is_name G_jah hr (u00 (e_ix x_ix (ev 0) u04) u02)))) (u94 (u11 (x_ne hr) (e_ix x_ix (ev 0) u04) u09 (nomark _)))))) (u06 (u17 u96)) u18)
   (u03 (u12 1 sc_jbo.nd (ec T.f_jbm T.g_read_atom G_jbm hr (u00 (e_ix x_ix (ev 0) u04) u02)))
   (u03 (s_if (u11 (uq5) (ev 1) u96 (nomark _)) (u06 (u17 u96)) u18)
   (u03 (s_if (u11 (x_eq hr) (u10 u28 rfl T.b_len (by decide) (u00 (ev 0) u02)) u04 (nomark _)) (u06 (u17 (u77 (u00 u09 (u00 (e_ix x_ix (ev 0) u04) (u00 (ev 1) u02)))))) u18)
   (u03 (u12 2 sc_jbo.nd (ec T.f_jbm T.g_read_atom G_jbm hr (u00 (e_ix x_ix (ev 0) u04) u02)))
   (u03 (s_if (t_w (w_or (u11 (uq5) (ev 2) u96 (nomark _)) (u94 (u11 (uk8 hr) (e_ix x_ix (ev 0) u04) (uw1 T.k_SIGNS) (by with_unfolding_all rfl))))) (u06 (u17 u96)) u18)
   (u06 (u17 (u77 (u00 u09 (u00 (e_ix x_ix (ev 0) u04) (u00 (e_ix x_ix (ev 0) u04) (u00 (ev 1) (u00 (ev 2) u02))))))))))))))) (fun ds G R h=>?_)
 ·obtain ⟨wa,ws,rfl,_⟩:=h;rfl
 ·obtain ⟨wa,ws,rfl,hw,hk,good,bad⟩:=h
  have hl:ws.length<=10000:=hk.2;have in35:∀ (n:Nat) (q:DK) (G:Gp),q (.bl (!decide (n=3 \/ n=5))) G->xInB true (.int (n:Int)) (.tup [.int 3,.int 5]) G q:=fun n q G h=>by
   show q (.bl (!decide ((n:Int) ∈ [(3:Int),5]))) G
   rw [show decide ((n:Int) ∈ [(3:Int),5])=decide (n=3 \/ n=5) from decide_eq_decide.mpr (by simp;omega)];exact h
  simp! [hw,u08,List.length_map];refine ⟨by decide,in35 _ _ _ ?_⟩
  by_cases h35:¬ (ws.length=3 \/ ws.length=5)
  ·rw [decide_eq_false h35]
   simp! [id];refine bad ?_ _ Grow.refl;rintro ⟨r,hr,e⟩;cases r with
   | is x a=>exact h35 (.inl (by rw [e];rfl))
   | op x o a b=>exact h35 (.inr (by rw [e];rfl))
   | cho a ys ns=>exact hr.elim
   | tim k ys=>exact hr.elim
  have h35:=Classical.not_not.mp h35;rw [decide_eq_true h35];obtain ⟨w0,w1,w2,us,rfl⟩:∃ w0 w1 w2 us,ws=w0::w1::w2::us:=by
   match ws,h35 with
   | a::b::c::r,_=>exact ⟨a,b,c,r,rfl⟩
   | [],h=>simp at h
   | [a],h=>simp at h
   | [a,b],h=>simp at h
  have hb:∀ x ∈ w0::w1::w2::us,x.length<=10000:=hk.1;have l0:=hb w0 (by simp);have l2:=hb w2 (by simp);simp! [hw,u08,u67,List.map_cons];refine vb7 T l0 fun G1 g1=>?_
  have hw1:=g1.kp _ _ hw
  by_cases hx:¬ nmB w0=true
  ·rw [Bool.not_eq_true _ |>.mp hx]
   simp! [id];refine bad ?_ _ g1;rintro ⟨r,hr,e⟩;cases r with
   | is x a=>cases e;exact hx hr.1
   | op x o a b=>cases e;exact hx hr.1
   | cho a ys ns=>exact hr.elim
   | tim k ys=>exact hr.elim
  have hx:=Classical.not_not.mp hx;rw [hx];simp! [hw1,u08,ud0,List.map_cons]
  by_cases h1:¬ w1=Str.ofString "="
  ·rw [if_pos (by rw [decide_eq_false h1];rfl)]
   simp! [id];refine bad ?_ _ g1;rintro ⟨r,hr,e⟩;cases r with
   | is x a=>cases e;exact h1 rfl
   | op x o a b=>cases e;exact h1 rfl
   | cho a ys ns=>exact hr.elim
   | tim k ys=>exact hr.elim
  have h1:=Classical.not_not.mp h1;rw [if_neg (by rw [decide_eq_true h1];decide)];dsimp! [hw1,u08,w50,List.map_cons];refine w42 T l2 (fun a G2 ha ea g2=>?_) fun G2 hn g2=>by
   simp! [id];dsimp! [id];refine bad ?_ _ (g1.trans g2);rintro ⟨r,hr,e⟩;cases r with
   | is x a=>cases e;exact hn ⟨a,hr.2,rfl⟩
   | op x o a b=>cases e;exact hn ⟨a,hr.2.2.1,rfl⟩
   | cho a ys ns=>exact hr.elim
   | tim k ys=>exact hr.elim
  have hw2:=g2.kp _ _ hw1;have g12:=g1.trans g2;simp! [id];dsimp! [id];refine w53 ?_;dsimp! [hw2,u08,List.map_cons,List.length_cons,List.length_map,u67]
  by_cases h3:us.length=0
  ·rw [if_pos (decide_eq_true (by omega))]
   have hu:=List.length_eq_zero_iff.mp h3;subst hu;exact ⟨by decide,good (.is w0 a) ⟨hx,ha⟩ (by rw [h1,ea];rfl) _ g12⟩
  rw [if_neg (by rw [decide_eq_false (by omega)];decide)];obtain ⟨w3,w4,rfl⟩:∃ w3 w4,us=[w3,w4]:=by
   match us,h35,h3 with
   | [a,b],_,_=>exact ⟨a,b,rfl⟩
   | [],_,h=>simp at h
   | [a],h,_=>simp at h
   | a::b::c::r,h,_=>simp at h
  have l4:=hb w4 (by simp);dsimp! [hw2,u08,w48,List.map_cons];refine w42 T l4 (fun b G3 hb3 eb g3=>?_) fun G3 hn g3=>by
   simp! [id];dsimp! [id];refine bad ?_ _ (g12.trans g3);rintro ⟨r,hr,e⟩;cases r with
   | is x a=>cases e
   | op x o a b=>cases e;exact hn ⟨b,hr.2.2.2,rfl⟩
   | cho a ys ns=>exact hr.elim
   | tim k ys=>exact hr.elim
  have hw3:=g3.kp _ _ hw2;simp! [id];dsimp! [hw3,u08,w49,List.map_cons];refine w53 ?_;refine ut6 (neg:=true) (ws:=L3.signs) ?_
  by_cases h4:w3 ∈ L3.signs
  ·rw [decide_eq_true h4]
   simp! [id];dsimp! [hw3,u08,u67,w49,List.map_cons];exact ⟨by decide,good (.op w0 w3 a b) ⟨hx,h4,ha,hb3⟩ (by rw [h1,ea,eb];rfl) _ (g12.trans g3)⟩
  ·rw [decide_eq_false h4]
   simp! [id];refine bad ?_ _ (g12.trans g3);rintro ⟨r,hr,e⟩;cases r with
   | is x a=>cases e
   | op x o a b=>cases e;exact h4 hr.2.1
   | cho a ys ns=>exact hr.elim
   | tim k ys=>exact hr.elim
theorem we9 {n:Nat} (G_jbj:Ok P w mg base n T.f_jbj (uz8 T)) (G_jah:Ok P w mg base n T.f_jah (v04 T)):Ok P w mg base (n+1) T.f_jbm (vc3 T):=by
 refine u19 T.f_jbm vn1 (fun ds G R h=>?_) (fun cdv A outer s H E hr =>
   (u06 (u17 (e_if (ua0 (ec T.f_jah T.g_is_name G_jah hr (u00 (ev 0) u02))) (ev 0) (ec T.f_jbj T.g_number_in G_jbj hr (u00 (ev 0) (u00 (uh9 T.k_GREATEST) u02))))))) (fun ds G R h=>?_)
 ·obtain ⟨w,rfl,_⟩:=h;rfl
 ·obtain ⟨w,rfl,hw,good,bad⟩:=h
  simp! [id];refine vb7 T hw fun G1 g1=>?_
  by_cases hx:nmB w=true
  ·rw [hx]
   simp! [id];exact good (.box w) hx rfl G1 g1
  ·rw [Bool.not_eq_true] at hx
   rw [hx];simp! [id];exact w43 T (Nat.le_trans hw (by decide)) (by decide) (fun k G2 hk e g2=>good (.num k) hk e G2 (g1.trans g2)) fun G2 hn g2=>bad (by
    rintro ⟨a,ha,e⟩;cases a with
    | num i=>exact hn ⟨i,ha,e⟩
    | box x=>exact absurd (show nmB w=true by rw [e];exact ha) (by rw [hx];decide)) G2 (g1.trans g2)
theorem wg3 {n:Nat}:Ok P w mg base (n+1) T.f_jaw (v01 T):=by
 refine u19 T.f_jaw sc_jaw (fun ds G R h=>?_) (fun cdv A outer s H E hr =>
   (u03 (u12 2 sc_jaw.nd (u13 u24 (u13 ud6 (u10 w78 rfl T.b_abs (by decide) (u00 (u10 wn8 rfl T.b_sum (by decide) (u00 (e_sl x_sl (ev 0) u97 (u60 u04)) u02)) u02)) u04) (u13 ud6 u04 (ev 1))))
   (u03 (s_if (u11 (x_lt) (ev 1) (u10 u28 rfl T.b_len (by decide) (u00 (ev 0) u02)) (nomark _)) (u06 (u12 2 sc_jaw.nd (u10 w78 rfl T.b_abs (by decide) (u00 (e_ix x_ix (ev 0) (ev 1)) u02)))) u18)
   (u03 (u12 3 sc_jaw.nd (u13 ue8 (u13 u24 (u13 u24 (u13 ud6 (u13 ue8 (ev 2) u04) u04) (u13 ud6 u04 (ev 1))) u04) u04))
   (u03 (u12 3 sc_jaw.nd (u13 ue8 (u13 ud6 (ev 3) (u13 u24 (u13 u24 (u13 w77 (ev 3) u04) (ev 1)) u04)) u04))
   (u06 (u17 (u21 (u00 (u13 ud6 (ev 2) (u14 ub9 rfl T.b_int (by decide) (u00 (u55 (x_ge) (ev 2) (u13 wn9 u04 u04) (nomark _)) u02))) (u00 (ev 3) u02)))))))))) (fun ds G R h=>?_)
 ·obtain ⟨a,ns,k,rfl,_⟩:=h;rfl
 ·obtain ⟨a,ns,k,rfl,ha,hl,hk,post⟩:=h
  simp! [ha];intro p hp;have hcut:cutD (ns.map D.int) none (some 63)=(ns.take 63).map .int:=by
   have e:cutD (ns.map D.int) none (some 63)=ns.map D.int:=by
    unfold cutD;have h1:HT.sIx (ns.map D.int).length 0 none=0:=rfl;have h2:HT.sIx (ns.map D.int).length (ns.map D.int).length (some 63)=(ns.map D.int).length:=by
     unfold HT.sIx;rw [List.length_map];simp only [];split <;> omega
    rw [h1,h2,Nat.sub_zero,List.drop_zero,List.take_length]
   rw [e,List.take_of_length_le (by omega)]
  rw [hcut];refine v05 (by rw [u01];rfl) ?_;have g1:Grow G (gup G p (.lst ((ns.take 63).map .int))):=Grow.refl.new hp;obtain ⟨G1,hG1⟩:∃ G1,G1=gup G p (.lst ((ns.take 63).map .int)):=⟨_,rfl⟩;rw [<- hG1] at g1 ⊢;have ha1:=u68 g1 ha;simp! [xAbs];refine ⟨up3 (by decide) (by decide),up4 (by decide) (by decide),?_⟩;dsimp! [ha1];generalize hN1:Go (dSeq (dAsg (dOp (ul1 _ _) (dOp xAdd _ _) _) _) _ _)=N1;have r1:∀ c:Int,0<=c->N1 [some (.ref a),some (.int (k:Int)),some (.int c),none] G1:=by
   intro c hc;rw [<- hN1];dsimp! [id];obtain ⟨e,he⟩:∃ e:Int,e=(c % 2147483629 * 48271+7919 * (k:Int)+13) % 2147483629:=⟨_,rfl⟩;have e1:0<=e:=by rw [he];exact Int.emod_nonneg _ (by decide)
   have e2:e < 2147483629:=by rw [he];exact Int.emod_lt_of_pos _ (by decide)
   refine ⟨by decide,up3 (by decide) (by decide),up4 (by decide) (by decide),by decide,?_⟩;rw [<- he];dsimp! [id];have b1:=Int.ediv_nonneg e1 (b:=7) (by decide);have b2:e / 7<=e:=Int.ediv_le_self _ e1;obtain ⟨e',he'⟩:∃ e':Int,e'=e * (e / 7+(k:Int)+1) % 2147483587:=⟨_,rfl⟩;have e3:0<=e':=by rw [he'];exact Int.emod_nonneg _ (by decide)
   have e4:e' < 2147483587:=by rw [he'];exact Int.emod_lt_of_pos _ (by decide)
   refine ⟨⟨by decide,by decide⟩,up4 e1 (by omega),by decide,?_⟩;rw [<- he'];have cp:CPow 10 18:=⟨by decide,by decide,by decide⟩;dsimp! [cp];refine ⟨?_,by decide,fun q hq=>post q _ (g1.none hq) ⟨_,e',?_,e3,by omega,u01⟩ (g1.new hq)⟩
   ·split <;> exact up3 (by decide) (by decide)
   ·split <;> omega
  refine uh0 (fun h0=>?_) (fun _=>r1 _ (by split <;> omega));rw [List.length_map] at h0;have hk2:k < ns.length:=by omega
  rw [show atI (ns.map D.int) (k:Int)=some (.int ns[k]) from u56 (by rw [List.getElem?_map,List.getElem?_eq_getElem hk2];rfl)];simp! [xAbs];exact r1 _ (by split <;> omega)
theorem wg6 {n:Nat}:Ok P w mg base (n+1) T.f_jat (u85 T):=by
 refine u19 T.f_jat sc_jat (fun ds G R h=>?_) (fun cdv A outer s H E hr =>
   (u03 (s_if (u11 (x_gt) (e_ix x_ix (ev 0) u04) u04 (nomark _)) (u03 (u12 2 sc_jat.nd (u13 ue8 (e_ix x_ix (ev 0) u04) (ev 1)))
   (u03 (un8 (u13 w77 (e_ix x_ix (ev 0) u04) (ev 1)) (us1 (ev 0) u04 uq4))
   (u06 (u17 (ev 2))))) u18)
   (u03 (un8 (u13 ue8 (u13 u24 (u13 ud6 (e_ix x_ix (ev 0) u04) u04) u04) u04) (us1 (ev 0) u04 uq4))
   (u06 (u17 (u13 ue8 (u13 ue8 (u13 ud6 (e_ix x_ix (ev 0) u04) (u13 u24 (u13 ue8 (e_ix x_ix (ev 0) u04) u04) u04)) u04) (ev 1))))))) (fun ds G R h=>?_)
 ·obtain ⟨pr,m,rfl,_⟩:=h;rfl
 ·obtain ⟨pr,m,rfl,⟨x,y,hx,hy,hy2,hp⟩,h1,h2,post⟩:=h
  simp! [hp];refine uh0 (fun h0=>?_) (fun h0=>?_)
  ·simp! [hp]
   refine ⟨by omega,?_⟩;dsimp! [hp];refine ⟨⟨by omega,by omega⟩,?_⟩;dsimp! [id];refine post (x % m) _ (Int.emod_nonneg _ (by omega)) (Int.emod_lt_of_pos _ (by omega)) ⟨⟨x / m,y,Int.ediv_nonneg hx (by omega),hy,hy2,u01⟩,fun c o hc e=>by rw [u07 hc];exact e⟩
  ·dsimp! [hp]
   refine ⟨up3 (by decide) (by decide),by decide,?_⟩;obtain ⟨y',hy'⟩:∃ y':Int,y'=(y * 69621+104729) % 2147483587:=⟨_,rfl⟩;have b1:0<=y':=by rw [hy'];exact Int.emod_nonneg _ (by decide)
   have b2:y' < 2147483587:=by rw [hy'];exact Int.emod_lt_of_pos _ (by decide)
   rw [<- hy'];dsimp! [u01];have b3:=Int.emod_nonneg y' (b:=16807) (by decide);have b4:=Int.emod_lt_of_pos y' (b:=16807) (by decide);refine ⟨by decide,up3 (by omega) (by omega),by decide,by omega,?_⟩;exact post _ _ (Int.emod_nonneg _ (by omega)) (Int.emod_lt_of_pos _ (by omega)) ⟨⟨x,y',hx,b1,by omega,u01⟩,fun c o hc e=>by rw [u07 hc];exact e⟩
theorem wg7 {n:Nat} (G_jat:Ok P w mg base n T.f_jat (u85 T)):Ok P w mg base (n+1) T.f_jas (w65 T):=by
 refine u19 T.f_jas sc_jas (fun ds G R h=>?_) (fun cdv A outer s H E hr =>
   (u03 (u12 1 sc_jas.nd u09)
   (u03 (u12 2 sc_jas.nd (ec T.f_jat T.g_law_next G_jat hr (u00 (ev 0) (u00 u04 u02))))
   (u03 (u12 3 sc_jas.nd (u13 u24 u04 (ec T.f_jat T.g_law_next G_jat hr (u00 (ev 0) (u00 (u13 ux6 u04 (ev 2)) u02)))))
   (u03 (v36 4 sc_jas.nd (N':=["_law_k", "_law_abc", "_law_purse_here"]) (ix:=[none,some 1,some 0]) (blk (osc:=u05 ve5) (N:=["_law_purse_here", "_law_abc", "_law_longer", "_law_size", "_law_letters", "_law_spot", "_law_first", "_law_names_here", "_law_k", "_law_name", "_law_word_here"]) rfl rfl (by decide)) (uv7 rfl T.b_range (u00 (ev 3) u02)) (fun _ _ _ _=>(u35 0 (show (["_law_k", "_law_abc", "_law_purse_here"]:List Str).Nodup by decide))) (fun _ _ _ _=>uh4) (fun _ _ _ _=>(e_ix x_ix (ev 1) (ec T.f_jat T.g_law_next G_jat hr (u00 (ev 2) (u00 u04 u02))))))
   (u03 (u12 5 sc_jas.nd (ec T.f_jat T.g_law_next G_jat hr (u00 (ev 0) (u00 (ev 3) u02))))
   (u03 (u12 6 sc_jas.nd (ec T.f_jat T.g_law_next G_jat hr (u00 (ev 0) (u00 u04 u02))))
   (u03 (u12 7 sc_jas.nd (u21 u02))
   (u03 (un7 (uv7 rfl T.b_range (u00 (u13 u24 u04 (ec T.f_jat T.g_law_next G_jat hr (u00 (ev 0) (u00 u04 u02)))) u02)) (u35 8 sc_jas.nd) (u03 (un8 (e_ix x_ix (ev 1) (u13 ue8 (u13 u24 (ev 6) (u13 ud6 u04 (ev 8))) u04)) (us1 (ev 4) (ev 5) uq4))
   (u03 (u12 9 sc_jas.nd (u13 u24 (u70 u09 (u00 (ev 4) u02)) (u13 w74 u09 (u13 ud6 (ev 2) (u13 ue8 (ev 8) u04)))))
   (u03 (s_if (u11 (x_in hr) (ev 9) (u77 (u00 u09 (u00 u09 (u00 u09 (u00 u09 (u00 u09 (u00 u09 u02))))))) (by with_unfolding_all rfl)) (u06 (u12 9 sc_jas.nd (u13 u24 (ev 9) u09))) u18)
   (u06 (u26 (u31 (ev 7) (u00 (ev 9) u02))))))))
   (u03 (u12 10 sc_jas.nd (e_ix x_ix (u21 (u00 u09 (u00 u09 (u00 u09 (u00 u09 (u00 u09 (u00 u09 (u00 u09 (u00 u09 (u00 u09 (u00 u09 u02))))))))))) (ec T.f_jat T.g_law_next G_jat hr (u00 (ev 0) (u00 u04 u02)))))
   (u03 (s_if (t_w (w_and (u11 (x_eq hr) (ec T.f_jat T.g_law_next G_jat hr (u00 (ev 0) (u00 u04 u02))) u04 (nomark _)) (u50 (u11 (uk8 hr) (ev 10) (ev 7) (by with_unfolding_all rfl))))) (u06 (un8 (ev 10) (us1 (ev 7) (e_un ud5 u04) uq4))) u18)
   (u06 (u17 (u14 u49 rfl T.b_tuple (by decide) (u00 (ev 7) u02))))))))))))))) (fun ds G R h=>?_)
 ·obtain ⟨pr,rfl,_⟩:=h;rfl
 ·obtain ⟨pr,rfl,P0,post⟩:=h
  simp! [id];dsimp! [id];refine u25 T P0 (by decide) (by decide) fun lo G1 l1 l2 a1=>?_
  simp! [id];dsimp! [id];refine u25 T a1.at_ (by omega) (by omega) fun x G2 x1 x2 a2=>?_
  obtain ⟨sz,hsz⟩:∃ sz:Nat,1+x=(sz:Int):=⟨(1+x).toNat,by omega⟩;have A2:=a1.trans a2;simp! [hsz];dsimp! [id];refine ⟨by omega,fun p hp=>?_⟩;have npr:=A2.at_.ne hp
  have fp:G p=none:=A2.fresh hp npr;have abc:∀ i:Int,0<=i->i < 26->∃ c,atI (Str.ofString "abcdefghijklmnopqrstuvwxyz").cps.toList i=some c:=fun i h1 h2=>⟨_,ut2 h1 (by exact h2)⟩
  have hab:(Str.ofString "abcdefghijklmnopqrstuvwxyz").length<=sizeLine:=by decide
  generalize hN1:Go (dSeq _ _ _)=N1;refine u36 (fun r σ G'=>∃ (j c:Nat) (ws:List Str) (v:Option D),j+c=sz /\ r=rngD (j:Int) c /\ PAdv pr G G' /\ G' p=some (.lst (ws.map .str)) /\ ws.length=j /\ (∀ w ∈ ws,w.length=1 /\ ltr w=true) /\ σ=[v,some (.str (Str.ofString "abcdefghijklmnopqrstuvwxyz")),some (.ref pr)]) ⟨0,sz,[],none,by omega,rfl,A2.grow (Grow.refl.new hp),u01,rfl,by simp,rfl⟩ ?_ ?_
  ·rintro σ G3 ⟨j,c,ws,v,e,e2,A3,k3,hl,hw,rfl⟩
   have hc0:c=0:=by
    cases c with
    | zero=>rfl
    | succ n=>rw [u51] at e2;cases e2
   refine ⟨trivial,?_⟩;rw [<- hN1];dsimp! [id];refine u25 T A3.at_ (by omega) (by omega) fun sp G4 s1 s2 a4=>?_
   have A4:=A3.trans a4;have k4:=a4.kp _ _ npr k3;simp! [id];dsimp! [id];refine u25 T A4.at_ (by decide) (by decide) fun fi G5 f1 f2 a5=>?_
   have A5:=A4.trans a5;have k5:=a5.kp _ _ npr k4;simp! [id];dsimp! [id];refine ⟨by decide,fun q hq=>?_⟩;have nq:=A5.at_.ne hq
   have fq:G q=none:=A5.fresh hq nq;have npq:p ≠ q:=gne k5 hq;have A6:=A5.grow (Grow.refl.new (o:=.lst []) hq);have k6:gup G5 q (.lst []) p=some (.lst (ws.map .str)):=by rw [u07 npq];exact k5
   dsimp! [id];refine u25 T A6.at_ (by decide) (by decide) fun m G7 m1 m2 a7=>?_
   have A7:=A6.trans a7;have k7:=a7.kp _ _ npr k6;have kq7:=a7.kp _ _ nq u01;obtain ⟨mm,hmm⟩:∃ mm:Nat,1+m=(mm:Int):=⟨(1+m).toNat,by omega⟩;simp! [hmm];refine ⟨by omega,?_⟩;generalize hN2:Go (dSeq _ _ _)=N2;refine u61 (fun r σ G'=>∃ (i c:Nat) (ws bs:List Str) (v8 v9:Option D),i+c=mm /\ r=rngD (i:Int) c /\ PAdv pr G G' /\ G' p=some (.lst (ws.map .str)) /\ G' q=some (.lst (bs.map .str)) /\ ws.length=sz /\ (∀ w ∈ ws,w.length=1 /\ ltr w=true) /\ bs.length=i /\ (∀ b ∈ bs,nmB b=true) /\ (∀ (t:Nat) (b:Str),bs[t]?=some b->b.cps[sp.toNat]?=some (97+((fi+5 * (t:Int)) % 26).toNat)) /\ σ=[some (.ref pr),some (.str (Str.ofString "abcdefghijklmnopqrstuvwxyz")),some (.int lo),some (.int (sz:Int)),some (.ref p),some (.int sp),some (.int fi),some (.ref q),v8,v9,none]) ⟨0,mm,ws,[],none,none,by omega,rfl,A7,k7,kq7,by omega,hw,rfl,by simp,by simp,rfl⟩ ?_ ?_
   ·rintro σ G8 ⟨i,c,ws,bs,v8,v9,e,e2,A8,k8,kq8,hl,hw,hbl,hb,hat,rfl⟩
    have hc0:c=0:=by
     cases c with
     | zero=>rfl
     | succ n=>rw [u51] at e2;cases e2
    refine ⟨trivial,?_⟩;rw [<- hN2];dsimp! [id];refine ⟨by decide,fun p3 hp3=>?_⟩;have n3:=A8.at_.ne hp3
    obtain ⟨wl,hwl⟩:∃ wl:List Str,wl=[Str.ofString "ends",Str.ofString "elseif",Str.ofString "wider",Str.ofString "boxesa",Str.ofString "timesx",Str.ofString "chooser",Str.ofString "is",Str.ofString "op",Str.ofString "en",Str.ofString "tim"]:=⟨_,rfl⟩;have hwb:∀ w ∈ wl,nmB w=true:=by rw [hwl];decide
    have hwn:wl.length=10:=by rw [hwl];rfl
    rw [show [D.str "ends",D.str "elseif",D.str "wider",D.str "boxesa",D.str "timesx",D.str "chooser",D.str "is",D.str "op",D.str "en",D.str "tim"]=wl.map D.str by rw [hwl];rfl];have A9:=A8.grow (Grow.refl.new (o:=.lst (wl.map .str)) hp3);refine u25 T A9.at_ (by decide) (by decide) fun t1 G10 u1 u2 a10=>?_
    have A10:=A9.trans a10;have k10:=a10.kp _ _ n3 u01;have kq10:=a10.kp _ _ nq (by rw [u07 (gne kq8 hp3)];exact kq8);obtain ⟨wd,hwd,hwm⟩:∃ wd,atI (wl.map D.str) t1=some (.str wd) /\ nmB wd=true:=by
     have hlt:t1.toNat < wl.length:=by omega
     refine ⟨wl[t1.toNat],?_,hwb _ (List.getElem_mem hlt)⟩;have:=w47 (f:=D.str) (xs:=wl) u1 (by omega);exact this
    simp! [k10,hwd];dsimp! [id];generalize hN3:Go (dRet (dCB ua7 _) _)=N3;have r3:∀ (bs:List Str) (G11:Gp),PAdv pr G G11->G11 q=some (.lst (bs.map .str))->1<=bs.length->bs.length<=6->(∀ b ∈ bs,nmB b=true)->bs.Nodup->N3 [some (.ref pr),some (.str (Str.ofString "abcdefghijklmnopqrstuvwxyz")),some (.int lo),some (.int (sz:Int)),some (.ref p),some (.int sp),some (.int fi),some (.ref q),v8,v9,some (.str wd)] G11:=by
     intro bs G11 A11 kq11 h1 h2 hb hnd;rw [<- hN3];dsimp! [kq11];exact post bs _ h1 h2 hb hnd A11
    have hnd:=vh0 (by omega) hat;refine u25 T A10.at_ (by decide) (by decide) fun t2 G12 w1 w2 a12=>?_
    have A12:=A10.trans a12;have kq12:=a12.kp _ _ nq kq10;have hso:∀ l:List Str,strsOf (l.map D.str)=some l:=by
     intro l
     induction l with
     | nil=>rfl
     | cons w l ih=>show (strsOf (l.map D.str)).map (w::·)=_;rw [ih];rfl
    simp! [id];refine uh0 (fun _=>?_) (fun _=>r3 bs G12 A12 kq12 (by omega) (by omega) hb hnd);unfold xInB;simp only [kq12,u08,hso];simp! [kq12]
    by_cases hwin:wd ∈ bs
    ·rw [if_neg (by simp [hwin])]
     exact r3 bs G12 A12 kq12 (by omega) (by omega) hb hnd
    rw [if_pos (by simp [hwin])];have hix:ixN (bs.map D.str).length (-1)=some (bs.length - 1):=by
     unfold ixN;rw [List.length_map,if_neg (by decide),if_pos (by omega)]
     congr 1
     omega
    rw [hix];refine r3 (bs.set (bs.length - 1) wd) _ (A12.own fq nq) (by rw [u01,List.map_set]) (by rw [List.length_set];omega) (by rw [List.length_set];omega) (fun b hb'=>?_) (v57 _ hnd hwin)
    rcases List.mem_or_eq_of_mem_set hb' with h | h
    ·exact hb b h
    ·rw [h];exact hwm
   ·rintro z r σ G8 ⟨i,c,ws,bs,v8,v9,e,e2,A8,k8,kq8,hl,hw,hbl,hb,hat,rfl⟩ ih
    cases c with
    | zero=>cases e2
    | succ c =>
     rw [u51] at e2;cases e2;refine ⟨trivial,?_⟩;simp! [id];have hch:=vq2 (x:=(fi+5 * (i:Int)) % 26) (Int.emod_nonneg _ (by decide)) (Int.emod_lt_of_pos _ (by decide));generalize hch2:97+((fi+5 * (i:Int)) % 26).toNat=ch at hch;refine ⟨up4 (by decide) (by decide),by decide,hab,?_⟩;rw [hch];have hix:ixN (ws.map D.str).length sp=some sp.toNat:=v83 s1 (by rw [List.length_map];omega);simp! [k8,hix];obtain ⟨ws2,hws2⟩:∃ ws2,ws2=ws.set sp.toNat ⟨#[ch]⟩:=⟨_,rfl⟩;have hset:(ws.map D.str).set sp.toNat (.str ⟨#[ch]⟩)=ws2.map .str:=by rw [hws2,List.map_set]
     have hl2:ws2.length=sz:=by rw [hws2,List.length_set];exact hl
     have hw3:∀ w ∈ ws2,w.length=1 /\ ltr w=true:=by
      intro w hw';rw [hws2] at hw'
      rcases List.mem_or_eq_of_mem_set hw' with h | h
      ·exact hw w h
      ·rw [h];exact ⟨rfl,v67 ⟨by omega,by omega⟩⟩
     have hw2:∀ w ∈ ws2,w.length=1:=fun w h=>(hw3 w h).1
     rw [hset];obtain ⟨G9,hG9⟩:∃ G9,G9=gup G8 p (.lst (ws2.map .str)):=⟨_,rfl⟩;have A9:PAdv pr G G9:=by rw [hG9];exact A8.own fp npr
     have k9:G9 p=some (.lst (ws2.map .str)):=by rw [hG9,u01]
     have kq9:G9 q=some (.lst (bs.map .str)):=by rw [hG9,u07 (Ne.symm npq)];exact kq8
     rw [<- hG9];have hsum:(ws2.map Str.length).sum=sz:=by
      have:∀ l:List Str,(∀ w ∈ l,w.length=1)->(l.map Str.length).sum=l.length:=by
       intro l
       induction l with
       | nil=>intro _;rfl
       | cons w l ih=>intro h;rw [List.map_cons,List.sum_cons,h w (List.mem_cons_self ..),ih fun v hv=>h v (List.mem_cons_of_mem _ hv),List.length_cons];omega
      rw [this ws2 hw2,hl2]
     have hjl:(jn Str.empty ws2).length=sz:=by rw [wk1,hsum]
     have hfold:Builtin.Str.tooLong ((ws2.toArray).foldl (·+·.length+Str.empty.length) 0)=false:=by
      have:∀ (l:List Str) (n:Nat),(∀ w ∈ l,w.length=1)->l.foldl (·+·.length+Str.empty.length) n=n+l.length:=by
       intro l
       induction l with
       | nil=>intro n _;rfl
       | cons w l ih=>intro n h;rw [List.foldl_cons,ih _ fun v hv=>h v (List.mem_cons_of_mem _ hv),h w (List.mem_cons_self ..),List.length_cons];show n+1+0+l.length=_;omega
      rw [List.foldl_toArray,this ws2 0 hw2,hl2];unfold Builtin.Str.tooLong;exact decide_eq_false (Nat.not_lt.mpr (Nat.le_of_lt (Nat.lt_of_le_of_lt (m:=1000) (by omega) (by decide))))
     dsimp! [id];refine ⟨Str.empty,p,ws2,rfl,rfl,by rw [k9];rfl,hfold,by rw [hjl];exact Nat.le_of_lt (Nat.lt_of_le_of_lt (m:=1000) (by omega) (by decide)),?_⟩;simp! [id];refine ⟨by decide,up4 l1 (by omega),Str.ofString "a",lo * ((i:Int) % 2),rfl,rfl,?_,?_⟩
     ·have h1:lo=0 \/ lo=1:=by omega
      have h2:(i:Int) % 2=0 \/ (i:Int) % 2=1:=by omega
      rcases h1 with h1 | h1 <;> rcases h2 with h2 | h2 <;> simp [h1,h2]
     obtain ⟨sa,hsa,hsal,hsl⟩:∃ sa:Str,(if lo * ((i:Int) % 2)=0 then Str.empty else Str.ofString "a")=sa /\ (sa.length:Int)<=lo /\ ltr sa=true:=by
      refine ⟨_,rfl,?_,?_⟩
      ·by_cases h1:lo=0
       ·rw [if_pos (by rw [h1,Int.zero_mul]),h1];decide
       ·have h2:lo=1:=by omega
        rw [h2];split <;> decide
      ·split <;> decide
     rw [hsa];have happ:∀ a b:Str,(a++b).length=a.length+b.length:=fun a b=>by
      show (a.cps++b.cps).size=_
      rw [Array.size_append];rfl
     simp! [id];refine ⟨Nat.le_of_lt (Nat.lt_of_le_of_lt (m:=1000) (by rw [hjl];omega) (by decide)),?_⟩;obtain ⟨nm,hnm⟩:∃ nm,nm=jn Str.empty ws2++sa:=⟨_,rfl⟩;have hnl:nm.length<=8:=by rw [hnm,happ,hjl];omega
     have hnl1:1<=nm.length:=by rw [hnm,happ,hjl];omega
     have hnlt:ltr nm=true:=by rw [hnm,ur8,wi9 ws2 fun w h=>(hw3 w h).2,hsl];rfl
     rw [<- hnm];dsimp! [id];generalize hN4:Go (uz5 (dBM "list" ug2 (dVar 7) _) _)=N4;have hj0:(jn Str.empty ws2).cps[sp.toNat]?=some ch:=wq5 hw2 (by rw [hws2,List.getElem?_set_self (by omega)]);have r4:∀ nm:Str,nmB nm=true->nm.cps[sp.toNat]?=some ch->N4 [some (.ref pr),some (.str (Str.ofString "abcdefghijklmnopqrstuvwxyz")),some (.int lo),some (.int (sz:Int)),some (.ref p),some (.int sp),some (.int fi),some (.ref q),some (.int (i:Int)),some (.str nm),none] G9:=by
      intro nm hnm hcp;rw [<- hN4];dsimp! [kq9];refine ⟨by rw [List.length_map];exact Nat.lt_of_le_of_lt (m:=4000) (by omega) (by decide),ih _ _ ⟨i+1,c,ws2,bs++[nm],_,_,by omega,by congr 1,A9.own fq nq,by rw [u07 npq];exact k9,by rw [u01,List.map_append];rfl,hl2,hw3,by simp [hbl],?_,?_,rfl⟩⟩
      rotate_left
      ·intro t b hb'
       rcases Nat.lt_or_ge t bs.length with z | z
       ·rw [List.getElem?_append_left z] at hb'
        exact hat t b hb'
       ·rw [List.getElem?_append_right z] at hb'
        have z2:t=bs.length:=by
         have:=(List.getElem?_eq_some_iff.mp hb').1;simp at this;omega
        subst z2;have e3:nm=b:=by simpa using hb'
        rw [<- e3,hcp,<- hch2,hbl]
      intro b hb'
      rcases List.mem_append.mp hb' with h | h
      ·exact hb b h
      ·rw [List.mem_singleton.mp h];exact hnm
     refine ⟨by decide,?_⟩;refine uh0 (fun hin=>?_) (fun hin=>r4 nm (wq1 hnl1 hnl hin hnlt) (by rw [hnm];exact vc2 hj0));refine ⟨Nat.le_of_lt (Nat.lt_of_le_of_lt (m:=1000) (by have:(Str.ofString "q").length=1:=rfl;omega) (by decide)),?_⟩;exact r4 _ (nm_q hin) (vc2 (by rw [hnm];exact vc2 hj0))
  ·rintro z r σ G3 ⟨j,c,ws,v,e,e2,A3,k3,hl,hw,rfl⟩ ih
   cases c with
   | zero=>cases e2
   | succ c =>
    rw [u51] at e2;cases e2;refine ⟨trivial,?_⟩;simp! [id];refine u25 T A3.at_ (by decide) (by decide) fun y G4 y1 y2 a4=>?_
    have hch:=vq2 y1 y2;generalize hch2:97+y.toNat=ch at hch;have k4:=a4.kp _ _ npr k3;simp! [id];refine ⟨hab,?_⟩;rw [hch];simp! [k4];refine ⟨by rw [List.length_map];exact Nat.lt_of_le_of_lt (m:=4000) (by omega) (by decide),ih _ _ ⟨j+1,c,ws++[⟨#[ch]⟩],_,by omega,by congr 1,(A3.trans a4).own fp npr,by rw [u01,List.map_append];rfl,by simp [hl],?_,rfl⟩⟩;intro w hw'
    rcases List.mem_append.mp hw' with h | h
    ·exact hw w h
    ·rw [List.mem_singleton.mp h];exact ⟨rfl,v67 ⟨by omega,by omega⟩⟩
theorem wg5 {n:Nat} (G_jat:Ok P w mg base n T.f_jat (u85 T)):Ok P w mg base (n+1) T.f_jau (vl6 T):=by
 refine u19 T.f_jau vn2 (fun ds G R h=>?_) (fun cdv A outer s H E hr =>
   (u06 (u17 (u13 ue8 (e_ix x_ix (u21 (u00 u04 (u00 u04 (u00 (u13 ux6 (u13 vq5 u04 (ev 1)) u04) (u00 (ec T.f_jat T.g_law_next G_jat hr (u00 (ev 0) (u00 (u13 vq5 u04 (ev 1)) u02))) u02))))) (ec T.f_jat T.g_law_next G_jat hr (u00 (ev 0) (u00 u04 u02)))) (u13 vq5 u04 (ev 1)))))) (fun ds G R h=>?_)
 ·obtain ⟨pr,W,rfl,_⟩:=h;rfl
 ·obtain ⟨pr,W,rfl,P0,hW,post⟩:=h
  have cw:CPow 1 (W:Int):=wm4 (by omega) (by omega);have hp1:(2:Nat) ^ W<=2 ^ 16:=Nat.pow_le_pow_right (by decide) hW;have hp0:1<=(2:Nat) ^ W:=Nat.one_le_two_pow;have ew:(1:Int) * 2 ^ W=((2 ^ W:Nat):Int):=by simp
  simp! [id];refine ⟨cw,cw,?_⟩;rw [ew];refine u25 T P0 (by omega) (by omega) fun x G1 x1 x2 a1=>?_
  simp! [id];refine ⟨by decide,fun p hp=>?_⟩;have n1:=a1.at_.ne hp
  have A2:=a1.grow (Grow.refl.new (o:=.lst [.int 0,.int 1,.int (((2 ^ W:Nat):Int) - 1),.int x]) hp);refine u25 T A2.at_ (by decide) (by decide) fun y G2 y1 y2 a2=>?_
  have k2:=a2.kp _ _ n1 u01;obtain ⟨v,hv⟩:∃ v:Int,atI [D.int 0,.int 1,.int (((2 ^ W:Nat):Int) - 1),.int x] y=some (.int v):=by
   have:y=0 \/ y=1 \/ y=2 \/ y=3:=by omega
   rcases this with e | e | e | e <;> subst e
   ·exact ⟨_,rfl⟩
   ·exact ⟨_,rfl⟩
   ·exact ⟨_,rfl⟩
   ·exact ⟨_,rfl⟩
  simp! [k2,hv];refine ⟨cw,?_⟩
  try rw [ew]
  have b1:=Int.emod_nonneg v (b:=((2 ^ W:Nat):Int)) (by omega);have b2:=Int.emod_lt_of_pos v (b:=((2 ^ W:Nat):Int)) (by omega);obtain ⟨i,hi⟩:=Int.eq_ofNat_of_zero_le b1;rw [hi] at b2 ⊢;exact ⟨by omega,post i _ (by omega) (A2.trans a2)⟩
theorem wh7 {n:Nat} (G_jat:Ok P w mg base n T.f_jat (u85 T)) (G_jau:Ok P w mg base n T.f_jau (vl6 T)):Ok P w mg base (n+1) T.f_jai (vc6 T):=by
 refine u19 T.f_jai vn7 (fun ds G R h=>?_) (fun cdv A outer s H E hr =>
   (u03 (s_if (u11 (x_eq hr) (ec T.f_jat T.g_law_next G_jat hr (u00 (ev 0) (u00 u04 u02))) u04 (nomark _)) (u06 (u17 (ec T.f_jau T.g_law_number G_jau hr (u00 (ev 0) (u00 (ev 1) u02))))) u18)
   (u06 (u17 (e_ix x_ix (ev 2) (ec T.f_jat T.g_law_next G_jat hr (u00 (ev 0) (u00 (u10 u28 rfl T.b_len (by decide) (u00 (ev 2) u02)) u02)))))))) (fun ds G R h=>?_)
 ·obtain ⟨pr,W,bs,rfl,_⟩:=h;rfl
 ·obtain ⟨pr,W,bs,rfl,P0,hW,hb1,hb2,post⟩:=h
  simp! [id];refine u25 T P0 (by decide) (by decide) fun x G1 _ _ a1=>?_
  simp! [id];refine uh0 (fun _=>?_) (fun _=>?_)
  ·refine vk8 T a1.at_ hW fun i G2 hi a2=>?_
   exact post (.num i) _ hi (a1.trans a2)
  ·dsimp! [List.length_map]
   refine u25 T a1.at_ (by omega) (by omega) fun y G2 y1 y2 a2=>?_
   obtain ⟨j,rfl⟩:=Int.eq_ofNat_of_zero_le y1;have hj:j < bs.length:=by omega
   have hat:atI (bs.map D.str) (j:Int)=some (.str bs[j]):=u56 (by rw [List.getElem?_map,List.getElem?_eq_getElem hj];rfl);simp! [hat];exact post (.box bs[j]) _ (List.getElem_mem hj) (a1.trans a2)
theorem wg0 {n:Nat} (G_jat:Ok P w mg base n T.f_jat (u85 T)) (G_jai:Ok P w mg base n T.f_jai (vc6 T)):Ok P w mg base (n+1) T.f_jaz (vl4 T):=by
 refine u19 T.f_jaz sc_jaz (fun ds G R h=>?_) (fun cdv A outer s H E hr =>
   (u03 (u12 3 sc_jaz.nd (e_ix x_ix (ev 2) (ec T.f_jat T.g_law_next G_jat hr (u00 (ev 0) (u00 (u10 u28 rfl T.b_len (by decide) (u00 (ev 2) u02)) u02)))))
   (u03 (u12 4 sc_jaz.nd (ec T.f_jai T.g_law_atom G_jai hr (u00 (ev 0) (u00 (ev 1) (u00 (ev 2) u02)))))
   (u03 (s_if (u11 (x_eq hr) (ec T.f_jat T.g_law_next G_jat hr (u00 (ev 0) (u00 u04 u02))) u04 (nomark _)) (u06 (u17 (u77 (u00 u09 (u00 (ev 3) (u00 (ev 4) u02)))))) u18)
   (u06 (u17 (u77 (u00 u09 (u00 (ev 3) (u00 (e_ix x_ix u09 (ec T.f_jat T.g_law_next G_jat hr (u00 (ev 0) (u00 u04 u02)))) (u00 (ev 4) (u00 (ec T.f_jai T.g_law_atom G_jai hr (u00 (ev 0) (u00 (ev 1) (u00 (ev 2) u02)))) u02)))))))))))) (fun ds G R h=>?_)
 ·obtain ⟨pr,W,bs,rfl,_⟩:=h;rfl
 ·obtain ⟨pr,W,bs,rfl,P0,hW,hb1,hb2,post⟩:=h
  simp! [List.length_map];refine u25 T P0 (by omega) (by omega) fun y G1 y1 y2 a1=>?_
  obtain ⟨j,rfl⟩:=Int.eq_ofNat_of_zero_le y1;have hj:j < bs.length:=by omega
  have hat:atI (bs.map D.str) (j:Int)=some (.str bs[j]):=u56 (by rw [List.getElem?_map,List.getElem?_eq_getElem hj];rfl);have hmem:=List.getElem_mem hj;simp! [hat];dsimp! [id];refine vb8 T a1.at_ hW hb1 hb2 fun a G2 ha a2=>?_
  have A2:=a1.trans a2;simp! [id];dsimp! [id];refine u25 T A2.at_ (by decide) (by decide) fun x G3 _ _ a3=>?_
  have A3:=A2.trans a3;simp! [id];refine uh0 (fun _=>?_) (fun _=>?_)
  ·simp! [id]
   exact ⟨by decide,post (.is bs[j] a) _ ⟨hmem,ha⟩ rfl rfl rfl A3⟩
  ·dsimp! [id]
   refine u25 T A3.at_ (by decide) (by decide) fun z G4 z1 z2 a4=>?_
   have A4:=A3.trans a4;obtain ⟨o,ho,hs⟩:∃ o:Nat,atI (Str.ofString "+-&|^<=").cps.toList z=some o /\ (⟨#[o]⟩:Str) ∈ signs:=by
    have:z=0 \/ z=1 \/ z=2 \/ z=3 \/ z=4 \/ z=5 \/ z=6:=by omega
    rcases this with e | e | e | e | e | e | e <;> subst e <;> exact ⟨_,rfl,by decide⟩
   simp! [id];refine ⟨by decide,?_⟩;rw [ho];simp! [id];refine vb8 T A4.at_ hW hb1 hb2 fun b G5 hb a5=>?_
   simp! [id];exact ⟨by decide,post (.op bs[j] ⟨#[o]⟩ a b) _ ⟨hmem,hs,ha,hb⟩ rfl rfl rfl (A4.trans a5)⟩
theorem wf9 {n:Nat}:Ok P w mg base (n+1) T.f_jba (vl3 T):=by
 refine u19 T.f_jba sc_jba (fun ds G R h=>?_) (fun cdv A outer s H E hr =>
   (u03 (un8 (va1 (ev 0)) (w19 (n:=3) rfl (ua4 (u35 2 sc_jba.nd) (ua4 (u35 3 sc_jba.nd) (ua4 (u35 4 sc_jba.nd) v79)))))
   (u03 (s_if (t_w (w_and (u11 (x_eq hr) (e_ix x_ix (ev 3) u04) u09 (nomark _)) (u50 (u11 (x_eq hr) (u10 u28 rfl T.b_len (by decide) (u00 (ev 3) u02)) u04 (nomark _))))) (u03 (u26 (u31 (ev 0) (u00 (u77 (u00 (ev 2) (u00 (u13 u24 (ev 3) (u77 (u00 (u14 u49 rfl T.b_tuple (by decide) (u00 (ev 1) u02)) u02))) (u00 (ev 4) u02)))) u02)))
   (u06 (u17 (u21 u02)))) u18)
   (u06 (u17 (u13 u24 (ev 2) (u21 (u00 (u13 u24 (ev 3) (u77 (u00 (u14 u49 rfl T.b_tuple (by decide) (u00 (ev 1) u02)) u02))) u02)))))))) (fun ds G R h=>?_)
 ·obtain ⟨op,rh,f,fs,rows,rfl,_⟩:=h;rfl
 ·obtain ⟨op,rh,f,fs,rows,rfl,h1,h2,h3,h4,h5,h6,post⟩:=h
  obtain ⟨p,ahead,hd,o⟩:=f;have nop:∀ {c:Addr} {xs:List Rowp},G c=some (.lst (u20 xs))->c ≠ op:=by
   intro c xs hc e;rw [e,h1] at hc;have hh:(fs.map frD).reverse++[frD ⟨p,ahead,hd,o⟩]=u20 xs:=by injection hc with hc;injection hc
   rw [u42] at hh;have hm:frD ⟨p,ahead,hd,o⟩ ∈ xs.map rowD:=by rw [<- hh];simp
   obtain ⟨r,_,hr⟩:=List.mem_map.mp hm;cases r <;> simp [rowD,frD] at hr
  have hl:∀ {A:List D} {x:D},(A++[x])[(A++[x]).length - 1]?=some x:=by
   intro A x;rw [List.length_append,List.length_singleton,Nat.add_sub_cancel,List.getElem?_append_right (Nat.le_refl _),Nat.sub_self];rfl
  have hdl:∀ {A:List D} {x:D},(A++[x]).dropLast=A:=fun {A x}=>by simp
  have nrh:=nop h3;have np:=nop h2;have k3:∀ {o:DO},gup G op o rh=some (.lst (u20 rows)):=fun {o}=>by rw [u07 nrh];exact h3
  have k2:∀ {o:DO},gup G op o p=some (.lst (u20 ahead)):=fun {o}=>by rw [u07 np];exact h2
  have hA:((fs.map frD).reverse).length<=100:=by rw [List.length_reverse,List.length_map];exact h4
  have h6':ahead.length<=1000:=h6;have hrl:=u80 rows;have hal:=u80 ahead;obtain ⟨A,eA⟩:∃ A,A=(fs.map frD).reverse:=⟨_,rfl⟩;rw [<- eA] at h1 hA;simp! [h1,v65];rw [hl,hdl];have hkp:∀ {q:Addr} {o1 o2:DO} {G1:Gp},gup G op o1 q=none->Kp op G G1->Kp op G (gup G1 q o2):=by
   intro q o1 o2 G1 hq hk c u hc e;have nq:c ≠ q:=fun h=>by rw [<- h,u07 hc,e] at hq;cases hq
   rw [u07 nq];exact hk c u hc e
  have hk0:∀ {o1:DO},Kp op G (gup G op o1):=fun {o1} c u hc e=>by rw [u07 hc];exact e
  have fr0:∀ {q:Addr} {o1:DO},gup G op o1 q=none->q ≠ op /\ G q=none:=by
   intro q o1 hq;have nq:q ≠ op:=fun h=>by rw [h,u01] at hq;cases hq
   exact ⟨nq,by rw [u07 nq] at hq;exact hq⟩
  cases hd with
  | c1 a =>
   simp! [frD,hdD,k3,u01];dsimp! [k3,u01];rw [if_pos (by decide)];refine ⟨by decide,by simp,(show 2+1<=sizeLine by decide),by decide,?_⟩;simp! [u01];refine ⟨Nat.lt_of_le_of_lt (m:=1000) (by omega) (by decide),?_⟩;rw [u54];dsimp! [id];refine ⟨by decide,fun q hq=>?_⟩;obtain ⟨nq,fq⟩:=fr0 hq;refine post q _ fq (by rw [u01];rfl) ?_ (hkp hq hk0);rw [u07 (Ne.symm nq),u01,eA];simp [shF,frD,hdD]
  | c2 a ys =>
   simp! [frD,hdD,k3,u01];dsimp! [k3,u01];rw [if_neg (by decide)];dsimp! [k3];refine ⟨by decide,by simp,(show 3+1<=sizeLine by decide),by decide,fun p1 hp1=>?_⟩;obtain ⟨n1,f1⟩:=fr0 hp1;refine uk5 (by rw [u07 (gne k2 hp1)];exact k2) u01 (by rw [hal];exact Nat.le_of_lt (Nat.lt_of_le_of_lt (m:=2000) (by show ahead.length+1<=2000;omega) (by decide))) fun q hq=>?_
   have nq1:q ≠ p1:=fun h=>by rw [h,u01] at hq;cases hq
   rw [u07 nq1] at hq;obtain ⟨nq,fq⟩:=fr0 hq;refine post q _ fq ?_ ?_ (hkp hq (hkp hp1 hk0))
   ·rw [u01]
    show _=some (DO.lst (u20 (ahead++[.cho a ys rows])))
    rw [u81];rfl
   ·rw [u07 (Ne.symm nq),u07 (Ne.symm n1),u01,eA]
    rfl
  | tm k =>
   simp! [frD,hdD,k3,u01];dsimp! [k3,u01];rw [if_neg (by decide)];dsimp! [k3];refine ⟨by decide,by simp,(show 2+1<=sizeLine by decide),by decide,fun p1 hp1=>?_⟩;obtain ⟨n1,f1⟩:=fr0 hp1;refine uk5 (by rw [u07 (gne k2 hp1)];exact k2) u01 (by rw [hal];exact Nat.le_of_lt (Nat.lt_of_le_of_lt (m:=2000) (by show ahead.length+1<=2000;omega) (by decide))) fun q hq=>?_
   have nq1:q ≠ p1:=fun h=>by rw [h,u01] at hq;cases hq
   rw [u07 nq1] at hq;obtain ⟨nq,fq⟩:=fr0 hq;refine post q _ fq ?_ ?_ (hkp hq (hkp hp1 hk0))
   ·rw [u01]
    show _=some (DO.lst (u20 (ahead++[.tim k rows])))
    rw [u81];rfl
   ·rw [u07 (Ne.symm nq),u07 (Ne.symm n1),u01,eA]
    rfl
theorem wg1 {n:Nat} (G_jaw:Ok P w mg base n T.f_jaw (v01 T)) (G_jat:Ok P w mg base n T.f_jat (u85 T)) (G_jai:Ok P w mg base n T.f_jai (vc6 T)) (G_jaz:Ok P w mg base n T.f_jaz (vl4 T)) (G_jba:Ok P w mg base n T.f_jba (vl3 T)):Ok P w mg base (n+1) T.f_jay (w63 T):=by
 refine u19 T.f_jay sc_jay (fun ds G R h=>?_) (fun cdv A outer s H E hr =>
   (u03 (u12 4 sc_jay.nd (u21 u02))
   (u03 (u12 5 sc_jay.nd (u21 u02))
   (u03 (u12 6 sc_jay.nd u04)
   (u03 (u12 7 sc_jay.nd u04)
   (u03 (un7 (uv7 rfl T.b_range (u00 (ev 3) u02)) (u35 8 sc_jay.nd) (u03 (u12 9 sc_jay.nd (ec T.f_jaw T.g_law_purse G_jaw hr (u00 (ev 0) (u00 (u13 u24 u04 (ev 8)) u02))))
   (u03 (u12 10 sc_jay.nd (ec T.f_jat T.g_law_next G_jat hr (u00 (ev 9) (u00 u04 u02))))
   (u06 (s_if (t_w (w_and (u11 (x_gt) (ev 10) u04 (nomark _)) (w_and (u11 (x_lt) (u10 u28 rfl T.b_len (by decide) (u00 (ev 4) u02)) u04 (nomark _)) (u50 (u11 (x_ge) (ev 7) (ev 6) (nomark _)))))) (u03 (u12 11 sc_jay.nd (u77 (u00 u09 (u00 (ec T.f_jai T.g_law_atom G_jai hr (u00 (ev 9) (u00 (ev 1) (u00 (ev 2) u02)))) u02))))
   (u03 (u12 7 sc_jay.nd (u13 ux6 (ev 7) (ev 6)))
   (u03 (s_if (u11 (x_eq hr) (ev 10) u04 (nomark _)) (u03 (u12 12 sc_jay.nd (e_ix x_ix (u21 (u00 u04 (u00 u04 (u00 u04 (u00 u04 (u00 u04 (u00 (ec T.f_jat T.g_law_next G_jat hr (u00 (ev 9) (u00 u04 u02))) u02))))))) (ec T.f_jat T.g_law_next G_jat hr (u00 (ev 9) (u00 u04 u02)))))
   (u06 (u12 11 sc_jay.nd (u77 (u00 u09 (u00 (e_ix x_ix (u21 (u00 u04 (u00 (ev 12) u02))) (u14 ub9 rfl T.b_int (by decide) (u00 (u55 (x_le) (u13 ud6 (ev 6) (ev 12)) (ev 7) (nomark _)) u02))) u02)))))) u18)
   (u03 (u26 (u31 (ev 4) (u00 (u77 (u00 (ev 5) (u00 (ev 11) (u00 (ev 6) u02)))) u02)))
   (u03 (u12 6 sc_jay.nd (u13 ud6 (ev 6) (e_ix x_ix (u21 (u00 u04 (u00 (e_ix x_ix (ev 11) u04) u02))) (u14 ub9 rfl T.b_int (by decide) (u00 (u55 (x_eq hr) (ev 10) u04 (nomark _)) u02)))))
   (u06 (u12 5 sc_jay.nd (u21 u02)))))))) (u06 (s_if (t_w (w_and (u11 (x_eq hr) (ev 10) u04 (nomark _)) (u50 (u11 (x_ne hr) (ev 4) (u21 u02) (nomark _))))) (u03 (u12 6 sc_jay.nd (e_ix x_ix (e_ix x_ix (ev 4) (e_un ud5 u04)) u04))
   (u06 (u12 5 sc_jay.nd (ec T.f_jba T.g_law_shut G_jba hr (u00 (ev 4) (u00 (ev 5) u02)))))) (u06 (s_if (u11 (x_ge) (ev 7) (ev 6) (nomark _)) (u03 (u26 (u31 (ev 5) (u00 (ec T.f_jaz T.g_law_set G_jaz hr (u00 (ev 9) (u00 (ev 1) (u00 (ev 2) u02)))) u02)))
   (u06 (u12 7 sc_jay.nd (u13 ux6 (ev 7) (ev 6))))) u18)))))))))
   (u03 (vt2 (u11 (x_ne hr) (ev 4) (u21 u02) (nomark _)) (u06 (u12 5 sc_jay.nd (ec T.f_jba T.g_law_shut G_jba hr (u00 (ev 4) (u00 (ev 5) u02))))))
   (u06 (u17 (u14 u49 rfl T.b_tuple (by decide) (u00 (ev 5) u02))))))))))) (fun ds G R h=>?_)
 ·obtain ⟨a,ns,W,bs,most,rfl,_⟩:=h;rfl
 ·obtain ⟨a,ns,W,bs,most,rfl,ha,hl,hW,hb1,hb2,hm,post⟩:=h
  simp! [id];refine ⟨by decide,fun op hop=>?_⟩;dsimp! [id];refine ⟨by decide,fun rh0 hrh0=>?_⟩;dsimp! [id];dsimp! [id];dsimp! [id];refine ⟨by omega,?_⟩;have n0:rh0 ≠ op:=fun e=>by rw [e,u01] at hrh0;cases hrh0
  have f0:G rh0=none:=by rw [u07 n0] at hrh0;exact hrh0
  generalize hN1:Go (dSeq (uw9 _ _) _ _)=N1;refine u61 (fun r σ G'=>∃ (j c:Nat) (fs:List Fr) (rows:List Rowp) (rh:Addr) (o lf w z:Nat) (v8 v9 v10 v11 v12:Option D),j+c=most /\ r=rngD (j:Int) c /\ Grow G G' /\ G' op=some (.lst ((fs.map frD).reverse)) /\ G' rh=some (.lst (u20 rows)) /\ G rh=none /\ rh ≠ op /\ (∀ f ∈ fs,G' f.p=some (.lst (u20 f.ahead)) /\ f.p ≠ rh /\ f.p ≠ op) /\ SK W bs fs o rows w z /\ w+lf<=120 /\ z<=j /\ σ=[some (.ref a),some (.int (W:Int)),some (.tup (bs.map .str)),some (.int (most:Int)),some (.ref op),some (.ref rh),some (.int (o:Int)),some (.int (lf:Int)),v8,v9,v10,v11,v12]) ⟨0,most,[],[],rh0,1,120,0,0,none,none,none,none,none,by omega,rfl,(Grow.refl.new hop).new hrh0,by rw [u07 (Ne.symm n0),u01];rfl,u01,f0,n0,fun f hf=>(by cases hf),⟨rfl,rfl,rfl,Nat.zero_le _,trivial⟩,by omega,by omega,rfl⟩ ?_ ?_
  ·rintro σ G1 ⟨j,c,fs,rows,rh,o,lf,w,z,v8,v9,v10,v11,v12,e,e2,g1,ko,kr,fr,nr,hf,hS,hw,hz,rfl⟩
   have hc0:c=0:=by
    cases c with
    | zero=>rfl
    | succ n=>rw [u51] at e2;cases e2
   refine ⟨trivial,?_⟩;rw [<- hN1];dsimp! [id];refine v13 (fun m σ G'=>∃ (fs:List Fr) (rows:List Rowp) (rh:Addr) (o':Nat),msF fs<=m /\ Grow G G' /\ G' op=some (.lst ((fs.map frD).reverse)) /\ G' rh=some (.lst (u20 rows)) /\ rh ≠ op /\ (∀ f ∈ fs,G' f.p=some (.lst (u20 f.ahead)) /\ f.p ≠ op) /\ SK W bs fs o' rows w z /\ σ=[some (.ref a),some (.int (W:Int)),some (.tup (bs.map .str)),some (.int (most:Int)),some (.ref op),some (.ref rh),some (.int (o:Int)),some (.int (lf:Int)),v8,v9,v10,v11,v12])
    (m:=msF fs) ⟨fs,rows,rh,o,Nat.le_refl _,g1,ko,kr,nr,fun f h=>⟨(hf f h).1,(hf f h).2.2⟩,hS,rfl⟩ ?_
   rintro m σ G2 N ⟨fs,rows,rh,o',hm2,g2,ko,kr,nr,hf,hS,rfl⟩ ih;simp! [id];refine ⟨by decide,fun e1 he1=>?_⟩;have gE:Grow G2 (gup G2 e1 (.lst [])):=Grow.refl.new he1;have hd:=hS.dep;have hln:=hS.len;have hfl:=hS.fl;refine uj9 (gE.kp _ _ ko) u01 (fun f h=>⟨gE.kp _ _ (hf f h).1,hd.2 f h⟩) ?_;simp! [id];cases fs with
   | nil =>
    simp! [id];have kr2:=gE.kp _ _ kr;dsimp! [kr2,u08];obtain ⟨_,s2,s3,s4,s5⟩:=hS;exact post rows _ s5 s4 (by omega) (by omega) (g2.trans gE)
   | cons f fs =>
    simp! [id];have hls:fs.length+1<=5:=hfl;refine vq1 T (f:=f) (fs:=fs) (rows:=rows) (by rw [gE.kp _ _ ko];simp) (gE.kp _ _ (hf f (List.mem_cons_self)).1) (gE.kp _ _ kr) (by omega) (by have:=hln.1;omega) (by have:=hln.2 f List.mem_cons_self;omega) fun q G3 f3 kq ko3 kp3=>?_
    simp! [id];have hms:=vh3 (f:=f) (fs:=fs) (rows:=rows);obtain ⟨m',rfl⟩:∃ m',m=m'+1:=⟨m - 1,by omega⟩;have nopG:∀ {c o},G c=some o->c ≠ op:=fun h e=>by rw [e,hop] at h;cases h
    have nq:q ≠ op:=fun e=>by rw [e,gE.kp _ _ ko] at f3;cases f3
    refine ih _ _ m' rfl ⟨(shF f fs rows).1,(shF f fs rows).2,q,f.o,by omega,⟨fun c o h=>kp3 c o (nopG h) (gE.kp _ _ (g2.kp _ _ h))⟩,ko3,kq,nq,fun g hg=>?_,hS.shut,rfl⟩
    rcases v32 g hg with ⟨e1,e2⟩ | h
    ·have:=hf f List.mem_cons_self
     rw [e1,e2];exact ⟨kp3 _ _ this.2 (gE.kp _ _ this.1),this.2⟩
    ·have:=hf g (List.mem_cons_of_mem _ h)
     exact ⟨kp3 _ _ this.2 (gE.kp _ _ this.1),this.2⟩
  ·rintro zz r σ G1 ⟨j,c,fs,rows,rh,o,lf,w,z,v8,v9,v10,v11,v12,e,e2,g1,ko,kr,fr,nr,hf,hS,hw,hz,rfl⟩ ih
   cases c with
   | zero=>cases e2
   | succ c =>
    rw [u51] at e2;cases e2;refine ⟨trivial,?_⟩;have ej:(6:Int)+(j:Int)=((6+j:Nat):Int):=by omega
    simp! [ej];refine um7 T (u68 g1 ha) hl (by omega) fun pr G2 f2 P2 g2=>?_
    simp! [id];dsimp! [id];refine u25 T P2 (by decide) (by decide) fun wy G3 y1 y2 a3=>?_
    have g3:=PAdv.back g2 f2 a3;simp! [id];have ko3:=g3.kp _ _ ko;have kr3:=g3.kp _ _ kr;have npr:∀ c o,G1 c=some o->c ≠ pr:=fun c o h e=>by rw [e,f2] at h;cases h
    dsimp! [ko3,u08];refine comb (fun h7 h5 hlo=>?_) (fun _=>?_)
    ·generalize hFL:forL _ _ _ _ (rngD ((j:Int)+1) c)=FL at ih ⊢
     refine vb8 T a3.at_ hW hb1 hb2 fun at_ G4 hat a4=>?_
     have g4:=PAdv.back g2 f2 (a3.trans a4);have elo:(lf:Int) - (o:Int)=((lf - o:Nat):Int):=by omega
     refine ⟨by decide,?_⟩;dsimp! [elo];dsimp! [id];generalize hNC:Go (dSeq (uz5 _) _ _)=NC;have h5':fs.length < 5:=by rw [List.length_reverse,List.length_map] at h5;omega
     have rC:∀ (hd:Hd) (G5:Gp) (v12:Option D) (hy:(wy=9 /\ ∃ k,hd=.tm k) \/ (¬ wy=9 /\ ∃ a,hd=.c1 a)),hd.ok W bs->hd.ys=[]->w+o * hd.wt+(lf - o)<=120->Grow G1 G5->NC [some (.ref a),some (.int (W:Int)),some (.tup (bs.map .str)),some (.int (most:Int)),some (.ref op),some (.ref rh),some (.int (o:Int)),some (.int ((lf - o:Nat):Int)),some (.int (j:Int)),some (.ref pr),some (.int wy),some (hdD hd),v12] G5:=by
      intro hd G5 v12 hy hok hys hwt g5;rw [<- hNC];have ko5:=g5.kp _ _ ko;have kr5:=g5.kp _ _ kr;dsimp! [ko5];refine ⟨by decide,Nat.lt_of_le_of_lt (m:=1000) (by rw [List.length_reverse,List.length_map];omega) (by decide),?_⟩;have fin_:∀ (G6:Gp) (q:Addr),Grow (gup G5 op (.lst ((fs.map frD).reverse++[frD ⟨rh,rows,hd,o⟩]))) G6->G6 q=none->FL [some (.ref a),some (.int (W:Int)),some (.tup (bs.map .str)),some (.int (most:Int)),some (.ref op),some (.ref q),some (.int ((o * hd.mul:Nat):Int)),some (.int ((lf - o:Nat):Int)),some (.int (j:Int)),some (.ref pr),some (.int wy),some (hdD hd),v12] (gup G6 q (.lst [])):=by
       intro G6 q g6 hq;have ko6:=g6.kp op _ u01;have nq:q ≠ op:=fun e=>by rw [e,ko6] at hq;cases hq
       have k6:∀ {c' o'},G5 c'=some o'->c' ≠ op->G6 c'=some o':=fun {c' o'} h1 h2=>g6.kp _ _ (by rw [u07 h2];exact h1)
       have kq:∀ {c' o'},G5 c'=some o'->c' ≠ op->gup G6 q (.lst []) c'=some o':=fun {c' o'} h1 h2=>by rw [u07 (gne (k6 h1 h2) hq)];exact k6 h1 h2
       refine ih _ _ ⟨j+1,c,⟨rh,rows,hd,o⟩::fs,[],q,o * hd.mul,lf - o,w+o * hd.wt,z+1,_,_,_,_,_,by omega,by rw [Int.natCast_add];rfl,⟨fun c' o' h=>kq (g5.kp _ _ (g1.kp _ _ h)) fun e=>by rw [e,hop] at h;cases h⟩,?_,u01,?_,nq,fun f hf'=>?_,hS.open_ h5' hok hys,by omega,by omega,rfl⟩
       ·rw [u07 (Ne.symm nq),ko6];simp
       ·exact wi7 hop (fun c' o' h n=>k6 (g5.kp _ _ (g1.kp _ _ h)) n) nq hq
       ·rcases List.mem_cons.mp hf' with e | e
        ·subst e;exact ⟨kq kr5 nr,gne (k6 kr5 nr) hq,nr⟩
        ·obtain ⟨q1,q2,q3⟩:=hf f e
         have q4:=g5.kp _ _ q1;exact ⟨kq q4 q3,gne (k6 q4 q3) hq,q3⟩
      rcases hy with ⟨hy,k,rfl⟩ | ⟨hy,at2,rfl⟩
      ·subst hy
       dsimp! [hdD,u01];refine ⟨by decide,fun p hp=>?_⟩;simp! [u01];refine ⟨.inl ⟨by omega,by omega⟩,?_⟩;dsimp! [id];refine ⟨by decide,fun q hq=>?_⟩;exact fin_ _ q (Grow.refl.new hp) hq
      ·have d9:=decide_eq_false hy
       dsimp! [hdD,d9,u01];refine ⟨by decide,fun p hp=>?_⟩;simp! [u01];refine ⟨.inl ⟨by omega,by omega⟩,?_⟩;dsimp! [id];refine ⟨by decide,fun q hq=>?_⟩;exact fin_ _ q (Grow.refl.new hp) hq
     refine uh0 (fun h9=>?_) (fun h9=>rC (.c1 at_) G4 v12 (.inr ⟨h9,at_,rfl⟩) hat rfl (by show w+o * 1+(lf - o)<=120;omega) g4);refine u25 T a4.at_ (by decide) (by decide) fun d1 G5 d11 d12 a5=>?_
     refine ⟨by decide,fun p hp=>?_⟩;have np:p ≠ pr:=a5.at_.ne hp
     have g5:Grow G5 (gup G5 p (.lst [.int 0,.int 1,.int 2,.int 3,.int 4,.int d1])):=Grow.refl.new hp;refine u25 T (a5.at_.grow g5) (by decide) (by decide) fun d2 G6 d21 d22 a6=>?_
     have kp6:=a6.kp p _ np u01;have g6:=PAdv.back g2 f2 (((a3.trans a4).trans a5).grow g5 |>.trans a6);obtain ⟨k,hk,hk2⟩:∃ k:Nat,atI [D.int 0,.int 1,.int 2,.int 3,.int 4,.int d1] d2=some (.int (k:Int)) /\ k<=20:=by
      obtain ⟨d1,rfl⟩:=Int.eq_ofNat_of_zero_le d11;have:d2=0 \/ d2=1 \/ d2=2 \/ d2=3 \/ d2=4 \/ d2=5:=by omega
      rcases this with rfl | rfl | rfl | rfl | rfl | rfl
      ·exact ⟨0,rfl,by omega⟩
      ·exact ⟨1,rfl,by omega⟩
      ·exact ⟨2,rfl,by omega⟩
      ·exact ⟨3,rfl,by omega⟩
      ·exact ⟨4,rfl,by omega⟩
      ·exact ⟨d1,rfl,by omega⟩
     simp! [kp6,hk];dsimp! [id];refine ⟨by decide,fun p' hp'=>⟨.inl ⟨by omega,by omega⟩,?_⟩⟩
     by_cases ho:(o:Int) * (k:Int)<=((lf - o:Nat):Int)
     ·rw [decide_eq_true ho]
      exact ⟨by decide,rC (.tm k) _ _ (.inl ⟨h9,k,rfl⟩) hk2 rfl (by show w+o * 0+(lf - o)<=120;omega) (g6.new hp')⟩
     ·rw [decide_eq_false ho]
      exact ⟨by decide,rC (.tm 1) _ _ (.inl ⟨h9,1,rfl⟩) (by show 1<=20;decide) rfl (by show w+o * 0+(lf - o)<=120;omega) (g6.new hp')⟩
    ·refine uh0 (fun h7=>?_) (fun _=>?_)
     ·refine ⟨by decide,fun e1 he1=>?_⟩
      have gE:Grow G3 (gup G3 e1 (.lst [])):=Grow.refl.new he1;have hdp:=hS.dep;refine uj9 (gE.kp _ _ ko3) u01 (fun f h=>⟨gE.kp _ _ (g3.kp _ _ (hf f h).1),hdp.2 f h⟩) ?_
      by_cases hfs:fs.length=0
      ·rw [decide_eq_true hfs]
       simp! [id];have aE:=a3.grow gE;refine uh0 (fun hlo=>?_) (fun hlo=>?_)
       ·have gX:=PAdv.back g2 f2 aE
        have krX:=gX.kp _ _ kr;refine ⟨by simp only [krX],?_⟩;refine wm5 T aE.at_ hW hb1 hb2 fun r G6 okr wr1 zr1 dr1 a6=>?_
        have g6:=PAdv.back g2 f2 (aE.trans a6);have kr6:=g6.kp _ _ kr;have hll:=hS.len;simp! [kr6];refine ⟨Nat.lt_of_le_of_lt (m:=1000) (by rw [u80];have:=hll.1;omega) (by decide),?_⟩;have elo:(lf:Int) - (o:Int)=((lf - o:Nat):Int):=by omega
        dsimp! [elo];refine ih _ _ ⟨j+1,c,fs,rows++[r],rh,o,lf - o,w+o,z+1,_,_,_,_,_,by omega,by rw [Int.natCast_add];rfl,⟨fun c' o' h=>?_⟩,?_,?_,fr,nr,fun f hf'=>?_,hS.row okr wr1 zr1 dr1,by omega,by omega,rfl⟩
        ·have:c' ≠ rh:=fun e=>by rw [e,fr] at h;cases h
         rw [u07 this];exact g6.kp _ _ (g1.kp _ _ h)
        ·rw [u07 (Ne.symm nr)]
         exact g6.kp _ _ ko
        ·rw [u01,u81];rfl
        ·obtain ⟨q1,q2,q3⟩:=hf f hf'
         rw [u07 q2];exact ⟨g6.kp _ _ q1,q2,q3⟩
       ·simp! [id]
        have g6:=PAdv.back g2 f2 aE;exact ih _ _ ⟨j+1,c,fs,rows,rh,o,lf,w,z,_,_,_,_,_,by omega,by rw [Int.natCast_add];rfl,g1.trans g6,g6.kp _ _ ko,g6.kp _ _ kr,fr,nr,fun f hf'=>⟨g6.kp _ _ (hf f hf').1,(hf f hf').2⟩,hS,by omega,by omega,rfl⟩
      ·rw [decide_eq_false hfs]
       obtain ⟨f,fs',rfl⟩:∃ f fs',fs=f::fs':=by
        cases fs with
        | nil=>exact absurd rfl hfs
        | cons f fs'=>exact ⟨f,fs',rfl⟩
       have hrev:((f::fs').map frD).reverse=(fs'.map frD).reverse++[frD f]:=by simp
       have ko4:=gE.kp _ _ ko3;rw [hrev] at ko4;have hat:atI ((fs'.map frD).reverse++[frD f]) (-1)=some (frD f):=vk9 _ _;have hln:=hS.len;have hfl:=hS.fl;have hls:fs'.length+1<=5:=hfl;simp! [ko4,hat];simp! [frD];dsimp! [id];refine vq1 T (f:=f) (fs:=fs') (rows:=rows) ko4 (gE.kp _ _ (g3.kp _ _ (hf f List.mem_cons_self).1)) (gE.kp _ _ kr3) (by omega) (by have:=hln.1;omega) (by have:=hln.2 f List.mem_cons_self;omega) fun q G4 f4 kq ko5 kp4=>?_
       simp! [id];have k4:∀ c o,G1 c=some o->c ≠ op->G4 c=some o:=fun c o h n=>kp4 c o n (gE.kp _ _ (g3.kp _ _ h))
       have nq:q ≠ op:=fun e=>by rw [e,ko4] at f4;cases f4
       refine ih _ _ ⟨j+1,c,(shF f fs' rows).1,(shF f fs' rows).2,q,f.o,lf,w,z,_,_,_,_,_,by omega,by rw [Int.natCast_add];rfl,⟨fun c o h=>k4 c o (g1.kp _ _ h) fun e=>by rw [e,hop] at h;cases h⟩,ko5,kq,?_,nq,fun g hg=>?_,hS.shut,by omega,by omega,rfl⟩
       ·exact (g1.trans (g3.trans gE)).none f4
       ·have kk:∀ g ∈ f::fs',G4 g.p=some (.lst (u20 g.ahead)) /\ g.p ≠ q /\ g.p ≠ op:=fun g hg=>by
         obtain ⟨q1,q2,q3⟩:=hf g hg;exact ⟨k4 _ _ q1 q3,gne (gE.kp _ _ (g3.kp _ _ q1)) f4,q3⟩
        rcases v32 g hg with ⟨e1,e2⟩ | h
        ·rw [e1,e2];exact kk f List.mem_cons_self
        ·exact kk g (List.mem_cons_of_mem _ h)
     ·skip
      refine uh0 (fun hlo=>?_) (fun hlo=>?_)
      ·have gX:=PAdv.back g2 f2 a3
       have krX:=gX.kp _ _ kr;refine ⟨by simp only [krX],?_⟩;refine wm5 T a3.at_ hW hb1 hb2 fun r G6 okr wr1 zr1 dr1 a6=>?_
       have g6:=PAdv.back g2 f2 (a3.trans a6);have kr6:=g6.kp _ _ kr;have hll:=hS.len;simp! [kr6];refine ⟨Nat.lt_of_le_of_lt (m:=1000) (by rw [u80];have:=hll.1;omega) (by decide),?_⟩;have elo:(lf:Int) - (o:Int)=((lf - o:Nat):Int):=by omega
       dsimp! [elo];refine ih _ _ ⟨j+1,c,fs,rows++[r],rh,o,lf - o,w+o,z+1,_,_,_,_,_,by omega,by rw [Int.natCast_add];rfl,⟨fun c' o' h=>?_⟩,?_,?_,fr,nr,fun f hf'=>?_,hS.row okr wr1 zr1 dr1,by omega,by omega,rfl⟩
       ·have:c' ≠ rh:=fun e=>by rw [e,fr] at h;cases h
        rw [u07 this];exact g6.kp _ _ (g1.kp _ _ h)
       ·rw [u07 (Ne.symm nr)]
        exact g6.kp _ _ ko
       ·rw [u01,u81];rfl
       ·obtain ⟨q1,q2,q3⟩:=hf f hf'
        rw [u07 q2];exact ⟨g6.kp _ _ q1,q2,q3⟩
      ·simp! [id]
       have g6:=PAdv.back g2 f2 a3;exact ih _ _ ⟨j+1,c,fs,rows,rh,o,lf,w,z,_,_,_,_,_,by omega,by rw [Int.natCast_add];rfl,g1.trans g6,g6.kp _ _ ko,g6.kp _ _ kr,fr,nr,fun f hf'=>⟨g6.kp _ _ (hf f hf').1,(hf f hf').2⟩,hS,by omega,by omega,rfl⟩
theorem wg4 {n:Nat} (G_jaw:Ok P w mg base n T.f_jaw (v01 T)) (G_jat:Ok P w mg base n T.f_jat (u85 T)) (G_jas:Ok P w mg base n T.f_jas (w65 T)) (G_jay:Ok P w mg base n T.f_jay (w63 T)):Ok P w mg base (n+1) T.f_jav (w64 T):=by
 refine u19 T.f_jav sc_jav (fun ds G R h=>?_) (fun cdv A outer s H E hr =>
   (u03 (u12 1 sc_jav.nd (ec T.f_jaw T.g_law_purse G_jaw hr (u00 (ev 0) (u00 u04 u02))))
   (u03 (u12 2 sc_jav.nd (u13 u24 u04 (ec T.f_jat T.g_law_next G_jat hr (u00 (ev 1) (u00 u04 u02)))))
   (u03 (u12 3 sc_jav.nd (ec T.f_jas T.g_law_names G_jas hr (u00 (ec T.f_jaw T.g_law_purse G_jaw hr (u00 (ev 0) (u00 u04 u02))) u02)))
   (u03 (u12 4 sc_jav.nd (u10 v07 rfl T.b_max (by decide) (u00 (u10 u28 rfl T.b_len (by decide) (u00 (e_sl x_sl (ev 0) (u60 u04) (u60 u04)) u02)) (u00 (u13 u24 u04 (ec T.f_jat T.g_law_next G_jat hr (u00 (ev 1) (u00 u04 u02)))) u02))))
   (u03 (s_if (u11 (x_eq hr) (ec T.f_jat T.g_law_next G_jat hr (u00 (ev 1) (u00 u04 u02))) u04 (nomark _)) (u06 (u12 4 sc_jav.nd (ec T.f_jat T.g_law_next G_jat hr (u00 (ev 1) (u00 u04 u02))))) u18)
   (u06 (u17 (u77 (u00 (ev 2) (u00 (ev 3) (u00 (ec T.f_jay T.g_law_rows G_jay hr (u00 (ev 0) (u00 (ev 2) (u00 (ev 3) (u00 (ev 4) u02))))) u02)))))))))))) (fun ds G R h=>?_)
 ·obtain ⟨a,ns,rfl,_⟩:=h;rfl
 ·obtain ⟨a,ns,rfl,ha,hl,post⟩:=h
  simp! [id];refine um7 T (k:=0) ha hl (by decide) fun p1 G1 f1 P1 g1=>?_
  simp! [id];dsimp! [id];refine u25 T P1 (by decide) (by decide) fun x G2 x1 x2 a2=>?_
  have g2:=PAdv.back g1 f1 a2;obtain ⟨W,hW⟩:∃ W:Nat,1+x=(W:Int):=⟨(1+x).toNat,by omega⟩;simp! [hW];dsimp! [id];refine um7 T (k:=1) (u68 g2 ha) hl (by decide) fun p2 G3 f3 P3 g3=>?_
  simp! [id];have np:p2 ≠ p1:=a2.at_.ne f3
  refine u15 (post:=fun d G'=>∃ bs:List Str,d=.tup (bs.map .str) /\ 1<=bs.length /\ bs.length<=6 /\ (∀ b ∈ bs,nmB b=true) /\ bs.Nodup /\ PAdv p2 G3 G') (fun R h=>⟨p2,rfl,P3,fun bs G' z1 z2 z3 z4 z5=>h _ _ ⟨bs,rfl,z1,z2,z3,z4,z5⟩⟩) ?_;rintro _ G4 ⟨bs,rfl,hb1,hb2,hb3,hnd,a4⟩;have g24:=PAdv.back g3 f3 a4;have P4:=a2.at_.grow g24
  have g4:=g2.trans g24;simp! [id];dsimp! [u68 g4 ha];have hcl:(cutD (ns.map D.int) (some 6) (some 57)).length<=57:=by
   unfold cutD;rw [List.length_take];refine Nat.le_trans (Nat.min_le_left _ _) (Nat.le_trans (Nat.sub_le _ _) ?_);unfold HT.sIx;simp only [];split <;> omega
  obtain ⟨L,hL⟩:∃ L,L=(cutD (ns.map D.int) (some 6) (some 57)).length:=⟨_,rfl⟩;rw [<- hL] at hcl ⊢;intro p hp;have g5:Grow G4 (gup G4 p (.lst (cutD (ns.map D.int) (some 6) (some 57)))):=Grow.refl.new hp;refine u25 T (P4.grow g5) (by decide) (by decide) fun y G6 y1 y2 a6=>?_
  have g6:=PAdv.back (g4.trans g5) f1 a6;simp! [id];obtain ⟨many,hmany,hm2⟩:∃ many:Nat,(if 3+y > (L:Int) then 3+y else (L:Int))=(many:Int) /\ many<=57:=by
   refine ⟨(max (3+y) (L:Int)).toNat,?_,by omega⟩;split <;> omega
  rw [hmany];dsimp! [id];generalize hN1:Go (dRet (dTup _) _)=N1;have r1:∀ (most:Nat) (G7:Gp),most<=60->Grow G G7->N1 [some (.ref a),some (.ref p1),some (.int (W:Int)),some (.tup (bs.map .str)),some (.int (most:Int))] G7:=by
   intro most G7 hmo g7;rw [<- hN1];dsimp! [id];refine u15 (post:=fun d G'=>∃ rows:List Rowp,d=.tup (u20 rows) /\ okL W bs rows /\ depL rows<=5 /\ wtL rows<=120 /\ szL rows<=60 /\ Grow G7 G') (fun R h=>⟨a,ns,W,bs,most,rfl,u68 g7 ha,hl,by omega,hb1,hb2,hmo,fun rows G' z1 z2 z3 z4 z5=>h _ _ ⟨rows,rfl,z1,z2,z3,z4,z5⟩⟩) ?_;rintro _ G8 ⟨rows,rfl,z1,z2,z3,z4,z5⟩;simp! [id];exact ⟨by decide,post W bs rows _ (by omega) (by omega) hb1 hb2 hb3 hnd z1 z2 z3 z4 (g7.trans z5)⟩
  refine u25 T a6.at_ (by decide) (by decide) fun t G9 t1 t2 a9=>?_
  have g9:=PAdv.back g6 f1 a9;simp! [id];refine uh0 (fun _=>?_) (fun _=>r1 many G9 (by omega) g9);refine u25 T a9.at_ (by decide) (by decide) fun u G10 u1 u2 a10=>?_
  obtain ⟨un,rfl⟩:=Int.eq_ofNat_of_zero_le u1;simp! [id];exact r1 un G10 (by omega) (PAdv.back g9 f1 a10)
theorem wf5 {n dp:Nat} (G_jbe:Ok P w mg base n T.f_jbe (v00 T dp)):Ok P w mg base (n+1) T.f_jbe (v00 T (dp+1)):=by
 refine u19 T.f_jbe sc_jbe (fun ds G R h=>?_) (fun cdv A outer s H E hr =>
   (u03 (u12 1 sc_jbe.nd (u21 u02))
   (u03 (un7 (us5 (ev 0)) (u35 2 sc_jbe.nd) (u06 (s_if (u11 (x_eq hr) (e_ix x_ix (ev 2) u04) u09 (nomark _)) (u06 (u26 (u31 (ev 1) (u00 (u13 u24 (u13 u24 (e_ix x_ix (ev 2) u04) u09) (u14 u46 rfl T.b_str (by decide) (u00 (e_ix x_ix (ev 2) u04) u02))) u02)))) (u06 (s_if (u11 (x_eq hr) (e_ix x_ix (ev 2) u04) u09 (nomark _)) (u06 (u26 (u31 (ev 1) (u00 (u70 u09 (u00 (u21 (u00 (e_ix x_ix (ev 2) u04) (u00 u09 (u00 (u14 u46 rfl T.b_str (by decide) (u00 (e_ix x_ix (ev 2) u04) u02)) (u00 (e_ix x_ix (ev 2) u04) (u00 (u14 u46 rfl T.b_str (by decide) (u00 (e_ix x_ix (ev 2) u04) u02)) u02)))))) u02)) u02)))) (u06 (s_if (u11 (x_eq hr) (e_ix x_ix (ev 2) u04) u09 (nomark _)) (u03 (u26 (u31 (ev 1) (u00 (u13 u24 u09 (u14 u46 rfl T.b_str (by decide) (u00 (e_ix x_ix (ev 2) u04) u02))) u02)))
   (u03 (u26 (ub7 (ev 1) (u00 (u13 u24 (ec T.f_jbe T.g_law_written G_jbe hr (u00 (e_ix x_ix (ev 2) u04) u02)) (u21 (u00 u09 u02))) u02)))
   (u06 (u26 (ub7 (ev 1) (u00 (u13 u24 (ec T.f_jbe T.g_law_written G_jbe hr (u00 (e_ix x_ix (ev 2) u04) u02)) (u21 (u00 u09 u02))) u02)))))) (u03 (u26 (u31 (ev 1) (u00 (u13 u24 u09 (u14 u46 rfl T.b_str (by decide) (u00 (e_ix x_ix (ev 2) u04) u02))) u02)))
   (u06 (u26 (ub7 (ev 1) (u00 (u13 u24 (ec T.f_jbe T.g_law_written G_jbe hr (u00 (e_ix x_ix (ev 2) u04) u02)) (u21 (u00 u09 u02))) u02))))))))))))
   (u06 (u17 (ev 1)))))) (fun ds G R h=>?_)
 ·obtain ⟨rs,rfl,_⟩:=h;rfl
 ·obtain ⟨rs,rfl,ht,hd,hs,post⟩:=h
  simp! [id];refine ⟨by decide,fun p hp=>?_⟩;dsimp! [id];refine u61 (fun r σ G'=>∃ (l t:List Rowp) (v2:Option D),l++t=rs /\ r=u20 t /\ Grow G G' /\ G' p=some (.lst ((lnsL l).map .str)) /\ σ=[some (.tup (u20 rs)),some (.ref p),v2]) ⟨[],rs,none,rfl,rfl,Grow.refl.new hp,u01,rfl⟩ ?_ ?_
  ·rintro σ G1 ⟨l,t,v2,e,e2,g,kp,rfl⟩
   have h0:t=[]:=by
    cases t with
    | nil=>rfl
    | cons x t=>cases e2
   subst h0;rw [List.append_nil] at e;subst e;refine ⟨trivial,?_⟩;dsimp! [id];exact post p G1 hp kp g
  ·rintro x r σ G1 ⟨l,t,v2,e,e2,g,kp,rfl⟩ ih
   cases t with
   | nil=>cases e2
   | cons r0 t =>
    cases e2;refine ⟨trivial,?_⟩;have hm:r0 ∈ rs:=by rw [<- e];simp
    have hdr:=ul9 (Nat.le_of_lt_succ hd) r0 hm;have hsr:=v24 hm;have hsl:szL l+(szR r0+szL t)=szL rs:=by rw [<- e,u71];rfl
    have l1:=u64 (rs:=l) (by omega);have hll:((lnsL l).map D.str).length<=600:=l1;generalize hFL:forL _ _ _ _ (u20 t)=FL at ih ⊢;have nxt:∀ (G2:Gp) (v2:Option D),Grow G G2->G2 p=some (.lst ((lnsL l).map .str++(lnsR r0).map .str))->FL [some (.tup (u20 rs)),some (.ref p),v2] G2:=fun G2 v2 g2 k2=>ih _ _ ⟨l++[r0],t,v2,by rw [<- e];simp,rfl,g2,by rw [k2,<- List.map_append];unfold lnsL lnsR;rw [ul2,List.map_append];simp [tkL],rfl⟩
    have htr:=v22 ht hm;cases r0 with
    | is x a =>
     simp! [rowD,kp];have wx:=(ux7 htr.1).1;have wa:=(ux8 htr.2).1;refine ut5 (by rw [show (Str.ofString " = ").length=3 by decide];omega) (toS htr.2 (ut5 (by rw [w51,show (Str.ofString " = ").length=3 by decide];omega) ?_));rw [kp];refine ⟨Nat.lt_of_le_of_lt (m:=1000) (by omega) (by decide),nxt _ _ (g.own hp) ?_⟩;rw [u01,j3];rfl
    | op x o a b =>
     have d1:(Str.ofString "op" = Str.ofString "is")=False:=eq_false (by decide);simp! [rowD,d1,kp];refine toS htr.2.2.1 (toS htr.2.2.2 ?_);refine ⟨by decide,fun p1 h1=>?_⟩;refine mj (ws:=[x, "=",atS a,o,atS b]) u01 (ud3 (l:=.set (.op x o a b)) htr) (by simp) ?_;rw [u07 (gne kp h1),kp];refine ⟨Nat.lt_of_le_of_lt (m:=1000) (by omega) (by decide),nxt _ _ ((g.new h1).own hp) ?_⟩;rw [u01];rfl
    | cho a ys ns =>
     have d1:(Str.ofString "choose" = Str.ofString "is")=False:=eq_false (by decide);have d2:(Str.ofString "choose" = Str.ofString "op")=False:=eq_false (by decide);simp! [rowD,d1,d2,kp];have wa:=(ux8 htr.1).1;have hd':1+max (depL ys) (depL ns)<=dp:=hdr;have hs':1+szL ys+szL ns<=szL rs:=hsr;have l3:=u64 (rs:=ys) (by omega);have l4:=u64 (rs:=ns) (by omega);refine toS htr.1 (ut5 (by rw [show (Str.ofString "choose ").length=7 by decide];omega) ?_);rw [kp];refine ⟨Nat.lt_of_le_of_lt (m:=1000) (by omega) (by decide),?_⟩;rw [show Str.ofString "choose " ++ atS a=jn " " [("choose" : Str),atS a] from jw1 (by decide) _];have g2:Grow G (gup G1 p (.lst ((lnsL l).map .str++[D.str (jn " " [("choose" : Str),atS a])]))):=g.own hp;have k2:gup G1 p (.lst ((lnsL l).map .str++[D.str (jn " " [("choose" : Str),atS a])])) p=some (.lst ((lnsL l).map .str++[D.str (jn " " [("choose" : Str),atS a])])):=u01;generalize gup G1 p (.lst ((lnsL l).map D.str++[D.str (jn (Str.ofString " ") [Str.ofString "choose",atS a])]))=G2 at *;dsimp! [k2];refine ux3 T htr.2.1 (by omega) (by omega) fun q3 G3 f3 k3 g3=>?_
     refine ⟨by decide,fun p4 h4=>?_⟩;refine add_l (by rw [u07 (gne k3 h4)];exact k3) u01 (by simp only [List.length_cons,List.length_nil];omega) fun q5 h5=>?_
     have g5:Grow G3 (gup (gup G3 p4 (.lst [D.str "else"])) q5 (.lst ((lnsL ys).map D.str++[D.str "else"]))):=(Grow.refl.new h4).new h5;have k5:gup (gup G3 p4 (.lst [D.str "else"])) q5 (.lst ((lnsL ys).map D.str++[D.str "else"])) q5=some (.lst ((lnsL ys).map D.str++[D.str "else"])):=u01;generalize gup (gup G3 p4 (.lst [D.str "else"])) q5 (.lst ((lnsL ys).map D.str++[D.str "else"]))=G5 at *;refine w26 ((g3.trans g5).kp _ _ k2) k5 (by simp only [List.length_cons,List.length_nil,List.length_append];omega) ?_;have g6:Grow G (gup G5 p (.lst (((lnsL l).map .str++[D.str (jn " " [("choose" : Str),atS a])])++((lnsL ys).map D.str++[D.str "else"])))):=((g2.trans g3).trans g5).own hp;have k6:gup G5 p (.lst (((lnsL l).map .str++[D.str (jn " " [("choose" : Str),atS a])])++((lnsL ys).map D.str++[D.str "else"]))) p=some (.lst (((lnsL l).map .str++[D.str (jn " " [("choose" : Str),atS a])])++((lnsL ys).map D.str++[D.str "else"]))):=u01;generalize gup G5 p (.lst (((lnsL l).map D.str++[D.str (jn (Str.ofString " ") [Str.ofString "choose",atS a])])++((lnsL ys).map D.str++[D.str "else"])))=G6 at *;dsimp! [k6];refine ux3 T htr.2.2 (by omega) (by omega) fun q7 G7 f7 k7 g7=>?_
     refine ⟨by decide,fun p8 h8=>?_⟩;refine add_l (by rw [u07 (gne k7 h8)];exact k7) u01 (by simp only [List.length_cons,List.length_nil];omega) fun q9 h9=>?_
     have g9:Grow G7 (gup (gup G7 p8 (.lst [D.str "end"])) q9 (.lst ((lnsL ns).map D.str++[D.str "end"]))):=(Grow.refl.new h8).new h9;have k9:gup (gup G7 p8 (.lst [D.str "end"])) q9 (.lst ((lnsL ns).map D.str++[D.str "end"])) q9=some (.lst ((lnsL ns).map D.str++[D.str "end"])):=u01;generalize gup (gup G7 p8 (.lst [D.str "end"])) q9 (.lst ((lnsL ns).map D.str++[D.str "end"]))=G9 at *;refine w26 ((g7.trans g9).kp _ _ k6) k9 (by simp only [List.length_cons,List.length_nil,List.length_append];omega) ?_;refine nxt _ _ (((g6.trans g7).trans g9).own hp) ?_;rw [u01];have et:lnsR (.cho a ys ns)=jn " " ["choose",atS a]::(lnsL ys++(("else" : Str)::(lnsL ns++[("end" : Str)]))):=by
      show (Ln.cho a::(tkL ys++(.els::(tkL ns++[.en])))).map lnT=_
      unfold lnsL;simp only [List.map_cons,List.map_append,List.map_nil];rfl
     rw [et];simp
    | tim k ys =>
     have d1:(Str.ofString "times" = Str.ofString "is")=False:=eq_false (by decide);have d2:(Str.ofString "times" = Str.ofString "op")=False:=eq_false (by decide);have d3:(Str.ofString "times" = Str.ofString "choose")=False:=eq_false (by decide);simp! [rowD,d1,d2,d3,kp];have hk:k<=20:=htr.1;have wa:=(um9 (k:=k) (by omega)).1;have hd':1+depL ys<=dp:=hdr;have hs':1+szL ys<=szL rs:=hsr;have l3:=u64 (rs:=ys) (by omega);refine toI (by omega) (ut5 (by rw [show (Str.ofString "times ").length=6 by decide];omega) ?_);rw [kp];refine ⟨Nat.lt_of_le_of_lt (m:=1000) (by omega) (by decide),?_⟩;rw [show Str.ofString "times " ++ numI (k:Int)=jn " " [("times" : Str),numI (k:Int)] from jw1 (by decide) _];have g2:Grow G (gup G1 p (.lst ((lnsL l).map .str++[D.str (jn " " [("times" : Str),numI (k:Int)])]))):=g.own hp;have k2:gup G1 p (.lst ((lnsL l).map .str++[D.str (jn " " [("times" : Str),numI (k:Int)])])) p=some (.lst ((lnsL l).map .str++[D.str (jn " " [("times" : Str),numI (k:Int)])])):=u01;generalize gup G1 p (.lst ((lnsL l).map D.str++[D.str (jn (Str.ofString " ") [Str.ofString "times",numI (k:Int)])]))=G2 at *;dsimp! [k2];refine ux3 T htr.2 (by omega) (by omega) fun q3 G3 f3 k3 g3=>?_
     refine ⟨by decide,fun p4 h4=>?_⟩;refine add_l (by rw [u07 (gne k3 h4)];exact k3) u01 (by simp only [List.length_cons,List.length_nil];omega) fun q5 h5=>?_
     have g5:Grow G3 (gup (gup G3 p4 (.lst [D.str "end"])) q5 (.lst ((lnsL ys).map D.str++[D.str "end"]))):=(Grow.refl.new h4).new h5;have k5:gup (gup G3 p4 (.lst [D.str "end"])) q5 (.lst ((lnsL ys).map D.str++[D.str "end"])) q5=some (.lst ((lnsL ys).map D.str++[D.str "end"])):=u01;generalize gup (gup G3 p4 (.lst [D.str "end"])) q5 (.lst ((lnsL ys).map D.str++[D.str "end"]))=G5 at *;refine w26 ((g3.trans g5).kp _ _ k2) k5 (by simp only [List.length_cons,List.length_nil,List.length_append];omega) ?_;refine nxt _ _ (((g2.trans g3).trans g5).own hp) ?_;rw [u01];have et:lnsR (.tim k ys)=jn " " ["times",numI (k:Int)]::(lnsL ys++[("end" : Str)]):=by
      show (Ln.tim k::(tkL ys++[.en])).map lnT=_
      unfold lnsL;simp only [List.map_cons,List.map_append,List.map_nil];rfl
     rw [et];simp
theorem wg8 {n:Nat} (G_jbe:Ok P w mg base n T.f_jbe (wn3 T)):Ok P w mg base (n+1) T.f_jar (w66 T):=by
 refine u19 T.f_jar vn3 (fun ds G R h=>?_) (fun cdv A outer s H E hr =>
   (u06 (u17 (u13 u24 (u21 (u00 (u13 u24 u09 (u14 uk6 rfl T.b_str (by decide) (u00 (e_ix x_ix (ev 0) u04) u02))) (u00 (u13 u24 u09 (w29 u09 (u00 (e_ix x_ix (ev 0) u04) u02))) u02))) (ec T.f_jbe T.g_law_written G_jbe hr (u00 (e_ix x_ix (ev 0) u04) u02)))))) (fun ds G R h=>?_)
 ·obtain ⟨W,bs,rs,rfl,_⟩:=h;rfl
 ·obtain ⟨W,bs,rs,rfl,O,post⟩:=h
  unfold prD at *;simp! [id];have hW:=O.w2;have wW:=(um9 (k:=W) (by omega)).1;obtain ⟨b0,br,rfl⟩:∃ b0 br,bs=b0::br:=by
   have:=O.b1;cases bs with
   | nil=>simp at this
   | cons a b=>exact ⟨a,b,rfl⟩
  have hb2:=O.b2;have wdb:∀ x ∈ b0::br,wd x:=fun x hx=>ux7 (O.bn x hx)
  have lj:=uv4 wdb (by omega);refine ⟨(W:Int),rfl,logI (by omega) (by omega),ut5 (by show (Str.ofString "wide ").length+(numI (W:Int)).length<=_;rw [show (Str.ofString "wide ").length=5 by decide];omega) ?_⟩;obtain ⟨f1,f2⟩:=ue3 sp1 (B:=11) (N:=7) (ws:=b0::br) (fun w m=>(wdb w m).1) (by omega) (by decide);refine ⟨_,b0::br,rfl,rfl,f1,f2,ut5 (by rw [show (Str.ofString "boxes ").length=6 by decide];omega) ?_⟩;refine ⟨by decide,fun p hp=>?_⟩;refine ux3 T (dp:=8) O.t (by have:=O.d;omega) O.s fun q3 G3 f3 k3 g3=>?_
  have k13:=g3.kp _ _ (u01 (G:=G) (a:=p) (o:=.lst [.str (Str.ofString "wide " ++ Str.ofString (toString (W:Int))),.str (Str.ofString "boxes " ++ jn (Str.ofString " ") (b0::br))]));have l3:=u64 (rs:=rs) O.s;have g1:=(Grow.refl (G:=G)).new (o:=.lst [.str (Str.ofString "wide " ++ Str.ofString (toString (W:Int))),.str (Str.ofString "boxes " ++ jn (Str.ofString " ") (b0::br))]) hp;refine add_l k13 k3 (by simp only [List.length_cons,List.length_nil];omega) fun q4 h4=>post q4 _ ((g1.trans g3).none h4) ?_ ((g1.trans g3).new h4)
  rw [u01,show Str.ofString "wide " ++ Str.ofString (toString (W:Int))=jn " " [("wide" : Str),numI (W:Int)] from jw1 (by decide) _,show Str.ofString "boxes " ++ jn (Str.ofString " ") (b0::br)=jn " " (("boxes" : Str)::b0::br) from jw (by decide) _ _];rfl
theorem wh0 {n:Nat}:Ok P w mg base (n+1) T.f_jap (v02 T):=by
 refine u19 T.f_jap vn4 (fun ds G R h=>?_) (fun cdv A outer s H E hr =>
   (u03 (s_if (t_w (w_or (ua8 (ul3 (x_lt) (x_lt) u04 (u10 u28 rfl T.b_len (by decide) (u00 (ev 0) u02)) u04)) (u94 (u11 (x_ne hr) (ui0 (N':=["_law_sign"]) (ix:=[none]) (blk (osc:=u05 ve7) (N:=["_law_word_here", "_law_most"]) rfl rfl (by decide)) (v91 (ev 0)) (fun _ _ _ _=>(u35 0 (show (["_law_sign"]:List Str).Nodup by decide))) (fun _ _ _ _=>(uh3 (ua8 (ul3 (vd0) (vd0) u09 (ev 0) u09)))) (fun _ _ _ _=>(ev 0))) (u21 u02) (nomark _))))) (u06 (u17 e_bl)) u18)
   (u06 (u17 (ud9 (u55 (x_eq hr) (u14 uk6 rfl T.b_str (by decide) (u00 (u14 uk7 rfl T.b_int (by decide) (u00 (ev 0) u02)) u02)) (ev 0) (nomark _)) (ud8 (u55 (x_le) (u14 uk7 rfl T.b_int (by decide) (u00 (ev 0) u02)) (ev 1) (nomark _)))))))) (fun ds G R h=>?_)
 ·obtain ⟨w,m,rfl,_⟩:=h;rfl
 ·obtain ⟨w,m,rfl,hl,hm,good,bad⟩:=h
  have hzT:(w.length<=sizeLine)=True:=eq_true (Nat.le_trans hl (by decide));have m5:(numI (m:Int)).length<=5:=Nat.le_trans (v55 hm) (by decide);simp! [ud4,lenS,hzT]
  by_cases l1:¬ 0 < w.length
  ·rw [if_neg (by rw [decide_eq_false (by omega)];decide)]
   simp! [id];exact bad (fun z=>by have:=uh1 z;omega) _ Grow.refl
  have l1:=Classical.not_not.mp l1;rw [if_pos (decide_eq_true (by omega))]
  by_cases l2:¬ w.length < 6
  ·rw [decide_eq_false (by omega)]
   simp! [id];exact bad (fun z=>by have:=v86 z;omega) _ Grow.refl
  have l2:=Classical.not_not.mp l2;rw [decide_eq_true (by omega)];simp! [wStr];refine ⟨w,rfl,fun p hp=>?_⟩;refine u36 (fun r σ G'=>∃ (l t:List Nat) (v:Option D),l++t=w.cps.toList /\ r=t.map (fun c=>D.str ⟨#[c]⟩) /\ G'=gup G p (.lst ((l.filter fun c=>!decide (48<=c /\ c<=57)).map fun c=>.str ⟨#[c]⟩)) /\ σ=[v]) ⟨[],_,none,rfl,rfl,rfl,rfl⟩ ?_ ?_
  ·rintro σ G1 ⟨l,t,v,e,e2,rfl,rfl⟩
   have ht:t=[]:=by simpa using e2.symm
   subst ht;rw [List.append_nil] at e;subst e;refine ⟨trivial,by decide,fun p4 hp4=>?_⟩;have g4:∀ o,Grow G (gup (gup G p (.lst ((w.cps.toList.filter fun c=>!decide (48<=c /\ c<=57)).map fun c=>.str ⟨#[c]⟩))) p4 o):=fun o=>(Grow.refl.new hp).new hp4
   refine u74 (F:=fun c:Nat=>D.str ⟨#[c]⟩) (xs:=w.cps.toList.filter fun c=>!decide (48<=c /\ c<=57)) (fun k=>⟨_,rfl⟩) (by rw [u07 (gne u01 hp4),u01];rfl) (by rw [u01];rfl) ?_
   by_cases hd:∀ c ∈ w.cps.toList,48<=c /\ c<=57
   ·rw [decide_eq_true (List.filter_eq_nil_iff.mpr fun c hc=>by rw [decide_eq_true (hd c hc)];decide)]
    obtain ⟨G5,hG5⟩:∃ G5,G5=gup (gup G p (.lst ((w.cps.toList.filter fun c=>!decide (48<=c /\ c<=57)).map fun c=>.str ⟨#[c]⟩))) p4 (.lst []):=⟨_,rfl⟩;have g5:Grow G G5:=by rw [hG5];exact g4 _
    rw [<- hG5];clear hG5 g4 hp4;simp! [id];dsimp! [id];have h1:w.cps.toList ≠ []:=fun z=>by rw [str_len,z] at l1;exact absurd l1 (by decide)
    have hi:=intText_digits hd h1 (by omega);obtain ⟨k,hk,hk5⟩:∃ k:Nat,intText? w=some (k:Int) /\ k<=99999:=⟨_,hi,dv5 hd (by rw [<- str_len];omega)⟩;refine ⟨w,(k:Int),rfl,hk,by omega,(k:Int),rfl,logI (by omega) (by omega),?_⟩;rw [nI]
    by_cases ek:numI (k:Int)=w
    ·have dk:(numI (k:Int)=w)=True:=eq_true ek
     simp! [dk];refine ⟨w,(k:Int),rfl,hk,by omega,?_⟩
     by_cases h5:k<=m
     ·have d5:((k:Int)<=(m:Int))=True:=eq_true (by omega)
      simp! [d5];exact good ⟨k,h5,ek.symm⟩ _ g5
     ·have d5:((k:Int)<=(m:Int))=False:=eq_false (by omega)
      simp! [d5];exact bad (by rintro ⟨j,hj,e⟩;have:=u87 (ek.trans e);omega) _ g5
    ·have dk:(numI (k:Int)=w)=False:=eq_false ek
     simp! [dk];refine bad ?_ _ g5;rintro ⟨j,hj,e⟩;have:=uu7 (k:=j) (by omega);rw [<- e,hk] at this;have:(k:Int)=j:=Option.some.inj this;exact ek (by rw [e,this])
   ·rw [decide_eq_false fun z=>hd fun c hc=>by
     have:=List.filter_eq_nil_iff.mp z c hc;simpa using this]
    simp! [id];exact bad (fun z=>hd (uh1 z).2.1) _ (g4 _)
  ·rintro z r σ G1 ⟨l,t,v,e,e2,rfl,rfl⟩ ih
   cases t with
   | nil=>cases e2
   | cons c t =>
    cases e2;refine ⟨trivial,?_⟩;have hlen:=congrArg List.length e;rw [List.length_append,List.length_cons,<- str_len] at hlen;simp! [ud4];refine ⟨_,_,rfl,rfl,?_⟩;rw [le_0];have keep:(48<=c /\ c<=57)->(l++[c]).filter (fun c=>!decide (48<=c /\ c<=57))=l.filter (fun c=>!decide (48<=c /\ c<=57)):=fun z=>by rw [List.filter_append];simp [z]
    have put:¬ (48<=c /\ c<=57)->(l++[c]).filter (fun c=>!decide (48<=c /\ c<=57))=l.filter (fun c=>!decide (48<=c /\ c<=57))++[c]:=fun z=>by
     rw [List.filter_append,List.filter_cons,if_pos (by rw [decide_eq_false z];rfl)];rfl
    have hfl:=List.length_filter_le (fun c=>!decide (48<=c /\ c<=57)) l
    by_cases h1:48<=c
    ·rw [decide_eq_true h1]
     simp! [id];refine ⟨_,_,rfl,rfl,?_⟩;rw [le_9]
     by_cases h2:c<=57
     ·rw [decide_eq_true h2]
      simp! [id];exact ih _ _ ⟨l++[c],t,_,by rw [<- e,List.append_assoc];rfl,rfl,by rw [keep ⟨h1,h2⟩],rfl⟩
     ·rw [decide_eq_false h2]
      simp! [u01];refine ⟨Nat.lt_of_le_of_lt (m:=1000) (by rw [List.length_map];omega) (by decide),ih _ _ ⟨l++[c],t,_,by rw [<- e,List.append_assoc];rfl,rfl,?_,rfl⟩⟩;rw [u54,put (fun z=>h2 z.2),List.map_append];rfl
    ·rw [decide_eq_false h1]
     simp! [u01];refine ⟨Nat.lt_of_le_of_lt (m:=1000) (by rw [List.length_map];omega) (by decide),ih _ _ ⟨l++[c],t,_,by rw [<- e,List.append_assoc];rfl,rfl,?_,rfl⟩⟩;rw [u54,put (fun z=>h1 z.1),List.map_append];rfl
theorem wh1 {n:Nat}:Ok P w mg base (n+1) T.f_jao (v03 T):=by
 refine u19 T.f_jao vn5 (fun ds G R h=>?_) (fun cdv A outer s H E hr =>
   (u03 (s_if (t_w (w_or (ua8 (ul3 (x_lt) (x_lt) u04 (u10 u28 rfl T.b_len (by decide) (u00 (ev 0) u02)) u04)) (u94 (u11 (x_ne hr) (ui0 (N':=["_law_sign"]) (ix:=[none]) (blk (osc:=u05 v38) (N:=["_law_word_here"]) rfl rfl (by decide)) (v91 (ev 0)) (fun _ _ _ _=>(u35 0 (show (["_law_sign"]:List Str).Nodup by decide))) (fun _ _ _ _=>(uh3 (ua8 (ul3 (vd0) (vd0) u09 (ev 0) u09)))) (fun _ _ _ _=>(ev 0))) (u21 u02) (nomark _))))) (u06 (u17 e_bl)) u18)
   (u06 (u17 (u55 (x_eq hr) (ui0 (N':=["_law_one", "_law_word_here"]) (ix:=[none,some 0]) (blk (osc:=u05 v38) (N:=["_law_word_here"]) rfl rfl (by decide)) (us5 (u77 (u00 u09 (u00 u09 (u00 u09 (u00 u09 (u00 u09 (u00 u09 u02)))))))) (fun _ _ _ _=>(u35 0 (show (["_law_one", "_law_word_here"]:List Str).Nodup by decide))) (fun _ _ _ _=>(uh3 (u11 (x_eq hr) (ev 0) (ev 1) (nomark _)))) (fun _ _ _ _=>(ev 0))) (u21 u02) (nomark _)))))) (fun ds G R h=>?_)
 ·obtain ⟨x,rfl,_⟩:=h;rfl
 ·obtain ⟨x,rfl,hx,post⟩:=h
  have hzT:(x.length<=sizeLine)=True:=eq_true (Nat.le_trans hx (by decide));simp! [ud4,lenS,hzT]
  by_cases l1:¬ 0 < x.length
  ·rw [if_neg (by rw [decide_eq_false (by omega)];decide)]
   have:nmB x=false:=by unfold nmB;rw [decide_eq_false (by omega:¬ 1<=x.length)];simp
   rw [this] at post;simp! [id];exact post _ Grow.refl
  have l1:=Classical.not_not.mp l1;rw [if_pos (decide_eq_true (by omega))]
  by_cases l2:¬ x.length < 9
  ·rw [decide_eq_false (by omega)]
   have:nmB x=false:=by unfold nmB;rw [decide_eq_false (by omega:¬ x.length<=8)];simp
   rw [this] at post;simp! [id];exact post _ Grow.refl
  have l2:=Classical.not_not.mp l2;rw [decide_eq_true (by omega)];simp! [wStr];refine ⟨x,rfl,fun p hp=>?_⟩;refine u36 (fun r σ G'=>∃ (l t:List Nat) (v:Option D),l++t=x.cps.toList /\ r=t.map (fun c=>D.str ⟨#[c]⟩) /\ G'=gup G p (.lst ((l.filter fun c=>!(decide (97<=c) && decide (c<=122))).map fun c=>.str ⟨#[c]⟩)) /\ σ=[v]) ⟨[],_,none,rfl,rfl,rfl,rfl⟩ ?_ ?_
  ·rintro σ G1 ⟨l,t,v,e,e2,rfl,rfl⟩
   have ht:t=[]:=by simpa using e2.symm
   subst ht;rw [List.append_nil] at e;subst e;refine ⟨trivial,by decide,fun p4 hp4=>?_⟩;have g4:∀ o,Grow G (gup (gup G p (.lst ((x.cps.toList.filter fun c=>!(decide (97<=c) && decide (c<=122))).map fun c=>.str ⟨#[c]⟩))) p4 o):=fun o=>(Grow.refl.new hp).new hp4
   refine u74 (F:=fun c:Nat=>D.str ⟨#[c]⟩) (xs:=x.cps.toList.filter fun c=>!(decide (97<=c) && decide (c<=122))) (fun k=>⟨_,rfl⟩) (by rw [u07 (gne u01 hp4),u01];rfl) (by rw [u01];rfl) ?_
   by_cases hd:ltr x=true
   ·rw [decide_eq_true (List.filter_eq_nil_iff.mpr fun c hc=>by rw [List.all_eq_true.mp hd c hc];decide)]
    obtain ⟨G5,hG5⟩:∃ G5,G5=gup (gup G p (.lst ((x.cps.toList.filter fun c=>!(decide (97<=c) && decide (c<=122))).map fun c=>.str ⟨#[c]⟩))) p4 (.lst []):=⟨_,rfl⟩;have g5:Grow G G5:=by rw [hG5];exact g4 _
    rw [<- hG5];clear hG5 g4 hp4;have enm:nmB x=!decide (x ∈ WDS):=by unfold nmB;rw [decide_eq_true (by omega:1<=x.length),decide_eq_true (by omega:x.length<=8),hd];simp
    simp! [id];dsimp! [id];refine ⟨by decide,fun p3 hp3=>?_⟩;refine u36 (fun r σ G'=>∃ (l t:List Str) (v:Option D),l++t=WDS /\ r=t.map .str /\ G'=gup G5 p3 (.lst ((l.filter fun w=>decide (w=x)).map .str)) /\ σ=[v,some (.str x)]) ⟨[],WDS,none,rfl,rfl,rfl,rfl⟩ ?_ ?_
    ·rintro σ G3 ⟨l',t,v,e,e2,rfl,rfl⟩
     have ht:t=[]:=by simpa using e2.symm
     subst ht;rw [List.append_nil] at e;subst e;refine ⟨trivial,by decide,fun p4 hp4=>?_⟩;refine u74 (F:=D.str) (xs:=WDS.filter fun w=>decide (w=x)) (fun k=>⟨_,rfl⟩) (by rw [u07 (gne u01 hp4),u01];rfl) (by rw [u01];rfl) ?_;have ef:decide ((WDS.filter fun w=>decide (w=x))=[])=nmB x:=by
      rw [enm,Bool.eq_iff_iff,decide_eq_true_iff,List.filter_eq_nil_iff,Bool.not_eq_true',decide_eq_false_iff_not]
      constructor
      ·intro h hx
       exact h x hx (decide_eq_true rfl)
      ·intro h y hy z
       exact h (by rw [<- of_decide_eq_true z];exact hy)
     rw [ef];exact post _ ((g5.trans (Grow.refl.new hp3)).new hp4)
    ·rintro z r σ G3 ⟨l',t,v,e,e2,rfl,rfl⟩ ih2
     cases t with
     | nil=>cases e2
     | cons b t =>
      cases e2;refine ⟨trivial,?_⟩;have hlen:=congrArg List.length e;rw [List.length_append,List.length_cons,show WDS.length=6 from rfl] at hlen;simp! [id]
      by_cases hb:b=x
      ·rw [if_pos (decide_eq_true hb)]
       simp! [u01];have hfl:=List.length_filter_le (fun w=>decide (w=x)) l';refine ⟨Nat.lt_of_le_of_lt (m:=1000) (by rw [List.length_map];omega) (by decide),ih2 _ _ ⟨l'++[b],t,_,by rw [<- e,List.append_assoc];rfl,rfl,?_,rfl⟩⟩;rw [u54,List.filter_append];simp [hb]
      ·rw [if_neg (by rw [decide_eq_false hb];decide)]
       refine ih2 _ _ ⟨l'++[b],t,_,by rw [<- e,List.append_assoc];rfl,rfl,?_,rfl⟩;rw [List.filter_append];simp [hb]
   ·rw [decide_eq_false fun z=>hd (List.all_eq_true.mpr fun c hc=>by
     have:=List.filter_eq_nil_iff.mp z c hc;simpa using this)]
    have:nmB x=false:=by unfold nmB;rw [Bool.not_eq_true _ |>.mp hd];simp
    rw [this] at post;simp! [id];exact post _ (g4 _)
  ·rintro z r σ G1 ⟨l,t,v,e,e2,rfl,rfl⟩ ih
   cases t with
   | nil=>cases e2
   | cons c t =>
    cases e2;refine ⟨trivial,?_⟩;have hlen:=congrArg List.length e;rw [List.length_append,List.length_cons,<- str_len] at hlen;simp! [ud4];refine ⟨_,_,rfl,rfl,?_⟩;rw [le_a];have put:(decide (97<=c) && decide (c<=122))=false->(l++[c]).filter (fun c=>!(decide (97<=c) && decide (c<=122)))=l.filter (fun c=>!(decide (97<=c) && decide (c<=122)))++[c]:=fun z=>by
     rw [List.filter_append,List.filter_cons,if_pos (by rw [z];rfl)];rfl
    have keep:(decide (97<=c) && decide (c<=122))=true->(l++[c]).filter (fun c=>!(decide (97<=c) && decide (c<=122)))=l.filter (fun c=>!(decide (97<=c) && decide (c<=122))):=fun z=>by
     rw [List.filter_append,List.filter_cons,if_neg (by rw [z];decide)];simp
    have hfl:=List.length_filter_le (fun c=>!(decide (97<=c) && decide (c<=122))) l
    by_cases h1:97<=c
    ·rw [decide_eq_true h1] at put keep ⊢
     simp! [id];refine ⟨_,_,rfl,rfl,?_⟩;rw [le_z]
     by_cases h2:c<=122
     ·rw [decide_eq_true h2] at put keep ⊢
      simp! [id];exact ih _ _ ⟨l++[c],t,_,by rw [<- e,List.append_assoc];rfl,rfl,by rw [keep rfl],rfl⟩
     ·rw [decide_eq_false h2] at put keep ⊢
      simp! [u01];refine ⟨Nat.lt_of_le_of_lt (m:=1000) (by rw [List.length_map];omega) (by decide),ih _ _ ⟨l++[c],t,_,by rw [<- e,List.append_assoc];rfl,rfl,?_,rfl⟩⟩;rw [u54,put rfl,List.map_append];rfl
    ·rw [decide_eq_false h1] at put keep ⊢
     simp! [u01];refine ⟨Nat.lt_of_le_of_lt (m:=1000) (by rw [List.length_map];omega) (by decide),ih _ _ ⟨l++[c],t,_,by rw [<- e,List.append_assoc];rfl,rfl,?_,rfl⟩⟩;rw [u54,put rfl,List.map_append];rfl
theorem wh3 {n:Nat} (G_jap:Ok P w mg base n T.f_jap (v02 T)) (G_jao:Ok P w mg base n T.f_jao (v03 T)):Ok P w mg base (n+1) T.f_jam (vc5 T):=by
 refine u19 T.f_jam vn6 (fun ds G R h=>?_) (fun cdv A outer s H E hr =>
   (u06 (u17 (e_or (ec T.f_jao T.g_law_is_name G_jao hr (u00 (ev 0) u02)) (ud8 (ec T.f_jap T.g_law_is_number G_jap hr (u00 (ev 0) (u00 u04 u02)))))))) (fun ds G R h=>?_)
 ·obtain ⟨w,rfl,_⟩:=h;rfl
 ·obtain ⟨w,rfl,hw,good,bad⟩:=h
  simp! [id];refine ut1 T hw fun G1 g1=>?_
  by_cases hx:nmB w=true
  ·rw [hx]
   simp! [id];exact good ⟨.box w,hx,rfl⟩ G1 g1
  ·rw [Bool.not_eq_true] at hx
   rw [hx];simp! [id];exact w44 T hw (by decide) (fun G2 hk g2=>good (by obtain ⟨k,h1,e⟩:=hk;exact ⟨.num k,h1,e⟩) G2 (g1.trans g2)) fun G2 hn g2=>bad (by
    rintro ⟨a,ha,e⟩;cases a with
    | num i=>exact hn ⟨i,ha,e⟩
    | box x=>exact absurd (show nmB w=true by rw [e];exact ha) (by rw [hx];decide)) G2 (g1.trans g2)
theorem wg9 {n:Nat} (G_jao:Ok P w mg base n T.f_jao (v03 T)) (G_jam:Ok P w mg base n T.f_jam (vc5 T)):Ok P w mg base (n+1) T.f_jaq (vl7 T):=by
 refine u19 T.f_jaq sc_jaq (fun ds G R h=>?_) (fun cdv A outer s H E hr =>
   (u03 (s_if (t_w (w_or (u11 (uk8 hr) (u10 u28 rfl T.b_len (by decide) (u00 (ev 0) u02)) (u77 (u00 u04 (u00 u04 u02))) (by with_unfolding_all rfl)) (w_or (ua8 (ua0 (ec T.f_jao T.g_law_is_name G_jao hr (u00 (e_ix x_ix (ev 0) u04) u02)))) (u94 (u11 (x_ne hr) (e_ix x_ix (ev 0) u04) u09 (nomark _)))))) (u06 (u17 e_bl)) u18)
   (u03 (v36 1 sc_jaq.nd (N':=["_law_sign", "_law_words"]) (ix:=[none,some 0]) (blk (osc:=u05 ve6) (N:=["_law_words", "_law_signs"]) rfl rfl (by decide)) (v91 u09) (fun _ _ _ _=>(u35 0 (show (["_law_sign", "_law_words"]:List Str).Nodup by decide))) (fun _ _ _ _=>(uh3 (u11 (x_eq hr) (e_sl x_sl (ev 1) (u60 u04) (u60 u04)) (u21 (u00 (ev 0) u02)) (nomark _)))) (fun _ _ _ _=>(ev 0)))
   (u06 (u17 (ud9 (ec T.f_jam T.g_law_is_atom G_jam hr (u00 (e_ix x_ix (ev 0) u04) u02)) (ud8 (e_or (u55 (x_eq hr) (u10 u28 rfl T.b_len (by decide) (u00 (ev 0) u02)) u04 (nomark _)) (ud8 (ud9 (u55 (x_ne hr) (ev 1) (u21 u02) (nomark _)) (ud8 (ec T.f_jam T.g_law_is_atom G_jam hr (u00 (e_ix x_ix (ev 0) u04) u02))))))))))))) (fun ds G R h=>?_)
 ·obtain ⟨wa,ws,rfl,_⟩:=h;rfl
 ·obtain ⟨wa,ws,rfl,hw,hk,good,bad⟩:=h
  have in35:∀ (n:Nat) (q:DK) (G:Gp),q (.bl (!decide (n=3 \/ n=5))) G->xInB true (.int (n:Int)) (.tup [.int 3,.int 5]) G q:=fun n q G h=>by
   show q (.bl (!decide ((n:Int) ∈ [(3:Int),5]))) G
   rw [show decide ((n:Int) ∈ [(3:Int),5])=decide (n=3 \/ n=5) from decide_eq_decide.mpr (by simp;omega)];exact h
  simp! [hw,u08,List.length_map];refine ⟨by decide,in35 _ _ _ ?_⟩
  by_cases h35:¬ (ws.length=3 \/ ws.length=5)
  ·rw [decide_eq_false h35]
   simp! [id];refine bad ?_ _ Grow.refl;rintro ⟨r,hr,e⟩;cases r with
   | is x a=>exact h35 (.inl (by rw [e];rfl))
   | op x o a b=>exact h35 (.inr (by rw [e];rfl))
   | cho a ys ns=>exact hr.elim
   | tim k ys=>exact hr.elim
  have h35:=Classical.not_not.mp h35;rw [decide_eq_true h35];obtain ⟨w0,w1,w2,us,rfl⟩:∃ w0 w1 w2 us,ws=w0::w1::w2::us:=by
   match ws,h35 with
   | a::b::c::r,_=>exact ⟨a,b,c,r,rfl⟩
   | [],h=>simp at h
   | [a],h=>simp at h
   | [a,b],h=>simp at h
  have hb:∀ x ∈ w0::w1::w2::us,x.length<=10000:=hk.1;have l0:=hb w0 (by simp);have l2:=hb w2 (by simp);simp! [hw,u08,u67,List.map_cons];refine ut1 T l0 fun G1 g1=>?_
  have hw1:=g1.kp _ _ hw
  by_cases hx:¬ nmB w0=true
  ·rw [Bool.not_eq_true _ |>.mp hx]
   simp! [id];refine bad ?_ _ g1;rintro ⟨r,hr,e⟩;cases r with
   | is x a=>cases e;exact hx hr.1
   | op x o a b=>cases e;exact hx hr.1
   | cho a ys ns=>exact hr.elim
   | tim k ys=>exact hr.elim
  have hx:=Classical.not_not.mp hx;rw [hx];simp! [hw1,u08,ud0,List.map_cons]
  by_cases h1:¬ w1=Str.ofString "="
  ·rw [if_pos (by rw [decide_eq_false h1];rfl)]
   simp! [id];refine bad ?_ _ g1;rintro ⟨r,hr,e⟩;cases r with
   | is x a=>cases e;exact h1 rfl
   | op x o a b=>cases e;exact h1 rfl
   | cho a ys ns=>exact hr.elim
   | tim k ys=>exact hr.elim
  have h1:=Classical.not_not.mp h1;rw [if_neg (by rw [decide_eq_true h1];decide)];dsimp! [wStr];refine ⟨_,rfl,fun p hp=>?_⟩;have hps:("+-&|^<=" : Str).cps.toList.map (fun c=>(⟨#[c]⟩:Str))=L3.signs:=by decide
  have hcut:cutD (D.str w0::D.str w1::D.str w2::us.map D.str) (some 3) (some 4)=(us.take 1).map D.str:=by
   unfold cutD;simp only [List.length_cons,List.length_map];rw [show HT.sIx (us.length+1+1+1) 0 (some 3)=3 from (HT.sIx_nat _ _ 3).trans (by omega),show HT.sIx (us.length+1+1+1) (us.length+1+1+1) (some 4)=min 4 (us.length+1+1+1) from HT.sIx_nat _ _ 4,List.map_take]
   show List.take (min 4 (us.length+1+1+1) - 3) (us.map D.str)=_
   cases us with
   | nil=>rfl
   | cons a r=>rw [List.length_cons,show min 4 (r.length+1+1+1+1) - 3=1 by omega]
  refine u36 (fun r σ G'=>∃ (l t:List Nat) (v:Option D),l++t=("+-&|^<=" : Str).cps.toList /\ r=t.map (fun c=>D.str ⟨#[c]⟩) /\ Grow G1 G' /\ G' p=some (.lst ((l.filter fun c=>decide (us.take 1=[(⟨#[c]⟩:Str)])).map fun c=>.str ⟨#[c]⟩)) /\ σ=[v,some (.ref wa)]) ⟨[],_,none,rfl,rfl,Grow.refl.new hp,u01,rfl⟩ ?_ ?_
  ·rintro σ G2 ⟨l,t,v,e,e2,g2,k2,rfl⟩
   have ht:t=[]:=by simpa using e2.symm
   subst ht;rw [List.append_nil] at e;subst e;refine ⟨trivial,?_⟩;have hw2:=g2.kp _ _ hw1;have g12:=g1.trans g2;have sg:(("+-&|^<=" : Str).cps.toList.filter fun c=>decide (us.take 1=[(⟨#[c]⟩:Str)]))=[] ↔ ¬ ∃ s ∈ L3.signs,us.take 1=[s]:=by
    rw [List.filter_eq_nil_iff,<- hps]
    constructor
    ·rintro z ⟨s,hs,e⟩
     obtain ⟨c,hc,rfl⟩:=List.mem_map.mp hs;exact z c hc (decide_eq_true e)
    ·intro z c hc e
     exact z ⟨_,List.mem_map.mpr ⟨c,hc,rfl⟩,of_decide_eq_true e⟩
   dsimp! [hw2,u08,w50,List.map_cons];refine w45 T l2 (fun G3 ha g3=>?_) fun G3 hn g3=>by
    simp! [id];refine bad ?_ _ (g12.trans g3);rintro ⟨r,hr,e⟩;cases r with
    | is x a=>cases e;exact hn ⟨a,hr.2,rfl⟩
    | op x o a b=>cases e;exact hn ⟨a,hr.2.2.1,rfl⟩
    | cho a ys ns=>exact hr.elim
    | tim k ys=>exact hr.elim
   have g13:=g12.trans g3;have hw3:=g3.kp _ _ hw2;have k3:=g3.kp _ _ k2;obtain ⟨a,ha,ea⟩:=ha;simp! [hw3,u08,List.map_cons,List.length_cons,List.length_map]
   by_cases h3:us.length=0
   ·rw [if_pos (decide_eq_true (by omega))]
    have hu:=List.length_eq_zero_iff.mp h3;subst hu;simp! [id];exact good ⟨.is w0 a,⟨hx,ha⟩,by rw [h1,ea];rfl⟩ _ g13
   rw [if_neg (by rw [decide_eq_false (by omega)];decide)];obtain ⟨w3,w4,rfl⟩:∃ w3 w4,us=[w3,w4]:=by
    match us,h35,h3 with
    | [a,b],_,_=>exact ⟨a,b,rfl⟩
    | [],_,h=>simp at h
    | [a],h,_=>simp at h
    | a::b::c::r,h,_=>simp at h
   have l4:=hb w4 (by simp);refine ⟨by decide,fun p4 hp4=>?_⟩;have g4:Grow G3 (gup G3 p4 (.lst [])):=Grow.refl.new hp4;refine u74 (F:=fun c:Nat=>D.str ⟨#[c]⟩) (xs:=("+-&|^<=" : Str).cps.toList.filter fun c=>decide ([w3,w4].take 1=[(⟨#[c]⟩:Str)])) (fun k=>⟨_,rfl⟩) (by rw [u07 (gne k3 hp4)];exact congrArg u08 k3) (by rw [u01];rfl) ?_;have hw4:=g4.kp _ _ hw3;generalize gup G3 p4 (.lst [])=G4 at *;have g14:=g13.trans g4
   by_cases h4:w3 ∈ L3.signs
   ·rw [decide_eq_false fun z=>sg.mp z ⟨w3,h4,rfl⟩]
    simp! [hw4,u08,w48,List.map_cons];refine w45 T l4 (fun G5 hb5 g5=>?_) fun G5 hn g5=>by
     refine bad ?_ _ (g14.trans g5);rintro ⟨r,hr,e⟩;cases r with
     | is x a=>cases e
     | op x o a b=>cases e;exact hn ⟨b,hr.2.2.2,rfl⟩
     | cho a ys ns=>exact hr.elim
     | tim k ys=>exact hr.elim
    obtain ⟨b,hb5,eb⟩:=hb5;exact good ⟨.op w0 w3 a b,⟨hx,h4,ha,hb5⟩,by rw [h1,ea,eb];rfl⟩ _ (g14.trans g5)
   ·rw [decide_eq_true (sg.mpr fun ⟨s,hs,e⟩=>h4 (by cases e;exact hs))]
    simp! [id];refine bad ?_ _ g14;rintro ⟨r,hr,e⟩;cases r with
    | is x a=>cases e
    | op x o a b=>cases e;exact h4 hr.2.1
    | cho a ys ns=>exact hr.elim
    | tim k ys=>exact hr.elim
  ·rintro z r σ G2 ⟨l,t,v,e,e2,g2,k2,rfl⟩ ih
   cases t with
   | nil=>cases e2
   | cons c t =>
    cases e2;refine ⟨trivial,?_⟩;have hw2:=g2.kp _ _ hw1;have hlen:=congrArg List.length e;rw [List.length_append,List.length_cons,show ("+-&|^<=" : Str).cps.toList.length=7 from rfl] at hlen;simp! [hw2,u08];intro p5 hp5;rw [hcut];refine ⟨by decide,fun p6 hp6=>?_⟩;refine ue5 (ks:=us.take 1) (ms:=[⟨#[c]⟩]) (by rw [u07 (gne u01 hp6),u01];rfl) (by rw [u01];rfl) ?_;have g6:Grow G2 (gup (gup G2 p5 (.lst ((us.take 1).map .str))) p6 (.lst [D.str ⟨#[c]⟩])):=(Grow.refl.new hp5).new hp6;have k6:=g6.kp _ _ k2;generalize gup (gup G2 p5 (.lst ((us.take 1).map .str))) p6 (.lst [D.str ⟨#[c]⟩])=G6 at *;have hfl:=List.length_filter_le (fun c=>decide (us.take 1=[(⟨#[c]⟩:Str)])) l
    by_cases hc:us.take 1=[(⟨#[c]⟩:Str)]
    ·rw [decide_eq_true hc]
     simp! [k6];refine ⟨Nat.lt_of_le_of_lt (m:=1000) (by rw [List.length_map];omega) (by decide),ih _ _ ⟨l++[c],t,_,by rw [<- e,List.append_assoc];rfl,rfl,(g2.trans g6).own hp,?_,rfl⟩⟩;rw [u01,List.filter_append,List.filter_cons,if_pos (decide_eq_true hc),List.map_append];rfl
    ·rw [decide_eq_false hc]
     simp! [id];refine ih _ _ ⟨l++[c],t,_,by rw [<- e,List.append_assoc];rfl,rfl,g2.trans g6,?_,rfl⟩;rw [List.filter_append,List.filter_cons,if_neg (by rw [decide_eq_false hc];decide),k6];simp
theorem wh2 {n:Nat} (G_jap:Ok P w mg base n T.f_jap (v02 T)) (G_jao:Ok P w mg base n T.f_jao (v03 T)):Ok P w mg base (n+1) T.f_jan (vl8 T):=by
 refine u19 T.f_jan sc_jan (fun ds G R h=>?_) (fun cdv A outer s H E hr =>
   (u03 (u12 2 sc_jan.nd (u62 (ev 0) (u00 u09 u02)))
   (u03 (s_if (u11 (x_eq hr) (ev 1) u04 (nomark _)) (u03 (u12 3 sc_jan.nd (ud9 (u55 (x_eq hr) (u10 u28 rfl T.b_len (by decide) (u00 (ev 2) u02)) u04 (nomark _)) (ud8 (u55 (x_eq hr) (e_ix x_ix (ev 2) u04) u09 (nomark _)))))
   (u06 (u17 (ud9 (ev 3) (ud9 (u55 (x_ne hr) (e_ix x_ix (ev 2) u04) u09 (nomark _)) (ud8 (ec T.f_jap T.g_law_is_number G_jap hr (u00 (e_ix x_ix (ev 2) u04) (u00 u04 u02))))))))) u18)
   (u03 (v36 4 sc_jan.nd (N':=["_law_word_here"]) (ix:=[none]) (blk (osc:=u05 ve8) (N:=["_law_line", "_law_k", "_law_words", "_law_good", "_law_bad"]) rfl rfl (by decide)) (us5 (e_sl x_sl (ev 2) (u60 u04) u97)) (fun _ _ _ _=>(u35 0 (show (["_law_word_here"]:List Str).Nodup by decide))) (fun _ _ _ _=>(uh3 (ua8 (ua0 (ec T.f_jao T.g_law_is_name G_jao hr (u00 (ev 0) u02)))))) (fun _ _ _ _=>(ev 0)))
   (u03 (u12 3 sc_jan.nd (ud9 (u55 (x_eq hr) (e_ix x_ix (ev 2) u04) u09 (nomark _)) (ud8 (w30 (x_lt) (x_lt) u04 (u10 u28 rfl T.b_len (by decide) (u00 (ev 2) u02)) u04))))
   (u06 (u17 (ud9 (ev 3) (ud8 (u55 (x_eq hr) (ev 4) (u21 u02) (nomark _))))))))))) (fun ds G R h=>?_)
 ·obtain ⟨x,k,rfl,_⟩:=h;rfl
 ·obtain ⟨x,k,rfl,hx,hk,good,bad⟩:=h
  have hsl:=uc2 u95 x;simp! [id];refine spA (Nat.le_trans hx (by decide)) rfl (Nat.le_trans hsl (by omega)) fun p hp=>?_
  have hml:∀ y ∈ Txt.split x " ",y.length<=5000:=fun y hy=>Nat.le_trans (uf6 u95 hy) hx
  have hne:=ub0 x " ";obtain ⟨ws,hws⟩:∃ ws,ws=Txt.split x " " := ⟨_,rfl⟩;rw [<- hws] at hml hne hsl ⊢;have g1:Grow G (gup G p (.lst (ws.map .str))):=Grow.refl.new hp;have k1:gup G p (.lst (ws.map .str)) p=some (.lst (ws.map .str)):=u01;generalize gup G p (.lst (ws.map .str))=G1 at *
  by_cases h0:k=0
  ·subst h0
   have bad':(∀ W:Nat,1<=W->W<=16->ws ≠ [("wide" : Str),numI (W:Int)])->∀ G',Grow G G'->R (.bl false) G':=fun z=>bad (by rintro ⟨W,h1,h2,e⟩;exact z W h1 h2 (by rw [hws];exact e))
   have e00:(((0:Nat):Int)=0)=True:=eq_true rfl;dsimp! [e00];dsimp! [k1,u08,List.length_map]
   by_cases h2:¬ ws.length=2
   ·rw [if_neg (by rw [decide_eq_false (by omega)];decide)]
    simp! [id];exact bad' (fun W _ _ e=>h2 (by rw [e];rfl)) _ g1
   have h2:=Classical.not_not.mp h2;rw [if_pos (decide_eq_true (by omega))];obtain ⟨u,v,rfl⟩:∃ u v,ws=[u,v]:=by
    match ws,h2 with
    | [a,b],_=>exact ⟨a,b,rfl⟩
   simp! [k1,u08,u67,List.map_cons]
   by_cases hu:¬ u=Str.ofString "wide"
   ·rw [decide_eq_false hu]
    dsimp! [id];exact bad' (fun W _ _ e=>hu (by cases e;rfl)) _ g1
   have hu:=Classical.not_not.mp hu;rw [decide_eq_true hu];dsimp! [k1,u08,ud0,List.map_cons]
   by_cases hv:v=Str.ofString "0"
   ·rw [decide_eq_true hv]
    simp! [id];refine bad' (fun W h1 _ e=>?_) _ g1;cases e;have:=u87 (k:=W) (j:=0) (by rw [hv];decide);omega
   rw [decide_eq_false hv];simp! [k1,u08,ud0,List.map_cons];refine w44 T (Nat.le_trans (hml v (by simp)) (by decide)) (by decide) (fun G2 hi g2=>?_) fun G2 hn g2=>bad' (fun W h1 h2 e=>hn ⟨W,h2,by cases e;rfl⟩) _ (g1.trans g2)
   obtain ⟨W,hW,e⟩:=hi;refine good ⟨W,?_,hW,by rw [<- hws,hu,e]⟩ _ (g1.trans g2);cases W with
   | zero=>exact absurd (e.trans (by decide)) hv
   | succ n=>omega
  ·have e1:k=1:=by omega
   subst e1;have bad':(∀ bs:List Str,1<=bs.length->bs.length<=6->(∀ b ∈ bs,nmB b=true)->ws ≠ ("boxes" : Str)::bs)->∀ G',Grow G G'->R (.bl false) G':=fun z=>bad (by rintro ⟨bs,h1,h2,h3,e⟩;exact z bs h1 h2 h3 (by rw [hws];exact e))
   obtain ⟨w,bs,rfl⟩:∃ w bs,ws=w::bs:=by
    cases ws with
    | nil=>exact absurd rfl hne
    | cons a b=>exact ⟨a,b,rfl⟩
   have e00:(((1:Nat):Int)=0)=False:=eq_false (by decide);dsimp! [e00];dsimp! [k1,u08,List.map_cons];intro p2 hp2;rw [show cutD (D.str w::bs.map D.str) (some 1) none=bs.map D.str from ui3 (n:=1)];have g2:Grow G1 (gup G1 p2 (.lst (bs.map .str))):=Grow.refl.new hp2;have k2:gup G1 p2 (.lst (bs.map .str)) p2=some (.lst (bs.map .str)):=u01;have k12:=g2.kp _ _ k1;generalize gup G1 p2 (.lst (bs.map .str))=G2 at *;have g12:=g1.trans g2;simp! [k2,u08];intro p3 hp3;refine u36 (fun r σ G'=>∃ (l t:List Str) (v:Option D),l++t=bs /\ r=t.map D.str /\ Grow G2 G' /\ G' p3=some (.lst ((l.filter fun b=>!nmB b).map .str)) /\ σ=[v]) ⟨[],bs,none,rfl,rfl,Grow.refl.new hp3,u01,rfl⟩ ?_ ?_
   ·rintro σ G3 ⟨l,t,v,e,e2,g3,k3,rfl⟩
    have ht:t=[]:=by simpa using e2.symm
    subst ht;rw [List.append_nil] at e;subst e;have k23:=g3.kp _ _ k2;have k13:=g3.kp _ _ k12;have g13:=g12.trans g3;refine ⟨by rw [k23],?_⟩;dsimp! [k13,u08,List.map_cons,u67]
    by_cases hw:¬ w=Str.ofString "boxes"
    ·rw [if_neg (by rw [decide_eq_false hw];decide)]
     simp! [id];dsimp! [id];exact bad' (fun bs _ _ _ e=>hw (by cases e;rfl)) _ g13
    have hw:=Classical.not_not.mp hw;rw [if_pos (decide_eq_true hw)];simp! [ud4,k13,u08,List.map_cons,List.length_cons,List.length_map]
    by_cases h1:¬ 1<=l.length
    ·rw [if_neg (by rw [decide_eq_false (by omega)];decide)]
     simp! [id];dsimp! [id];exact bad' (fun bs h _ _ e=>h1 (by cases e;exact h)) _ g13
    have h1:=Classical.not_not.mp h1;rw [if_pos (decide_eq_true (by omega))];simp! [id]
    by_cases h6:¬ l.length<=6
    ·rw [decide_eq_false (by omega)]
     dsimp! [id];exact bad' (fun bs _ h _ e=>h6 (by cases e;exact h)) _ g13
    have h6:=Classical.not_not.mp h6;rw [decide_eq_true (by omega)];dsimp! [id];refine ⟨by decide,fun p4 hp4=>?_⟩;refine u74 (F:=D.str) (xs:=l.filter fun b=>!nmB b) (fun k=>⟨_,rfl⟩) (by rw [u07 (gne k3 hp4)];exact congrArg u08 k3) (by rw [u01];rfl) ?_
    by_cases hall:∀ b ∈ l,nmB b=true
    ·rw [decide_eq_true (List.filter_eq_nil_iff.mpr fun b hb=>by rw [hall b hb];decide)]
     exact good ⟨l,h1,h6,hall,by rw [<- hws,hw]⟩ _ (g13.new hp4)
    ·rw [decide_eq_false fun z=>hall fun b hb=>by
      have:=List.filter_eq_nil_iff.mp z b hb;simpa using this]
     exact bad' (fun bs _ _ h e=>hall (by cases e;exact h)) _ (g13.new hp4)
   ·rintro z r σ G3 ⟨l,t,v,e,e2,g3,k3,rfl⟩ ih
    cases t with
    | nil=>cases e2
    | cons c t =>
     cases e2;have k23:=g3.kp _ _ k2;refine ⟨by rw [k23],?_⟩;have hlen:=congrArg List.length e;rw [List.length_append,List.length_cons] at hlen;rw [List.length_cons] at hsl;have hfl:=List.length_filter_le (fun b=>!nmB b) l;simp! [id];refine ut1 T (Nat.le_trans (hml c (List.mem_cons_of_mem _ (by rw [<- e];simp))) (by decide)) fun G4 g4=>?_
     have k34:=g4.kp _ _ k3
     by_cases hc:nmB c=true
     ·rw [hc]
      simp! [id];refine ih _ _ ⟨l++[c],t,_,by rw [<- e,List.append_assoc];rfl,rfl,g3.trans g4,?_,rfl⟩;rw [k34,List.filter_append,List.filter_cons,if_neg (by rw [hc];decide)];simp
     ·rw [Bool.not_eq_true _ |>.mp hc]
      simp! [k34];refine ⟨Nat.lt_of_le_of_lt (m:=10000) (by rw [List.length_map];omega) (by decide),ih _ _ ⟨l++[c],t,_,by rw [<- e,List.append_assoc];rfl,rfl,(g3.trans g4).own hp3,?_,rfl⟩⟩;rw [u01,List.filter_append,List.filter_cons,if_pos (by rw [Bool.not_eq_true _ |>.mp hc];rfl),List.map_append];rfl
theorem wf8 {n:Nat} (G_jap:Ok P w mg base n T.f_jap (v02 T)) (G_jam:Ok P w mg base n T.f_jam (vc5 T)) (G_jaq:Ok P w mg base n T.f_jaq (vl7 T)):Ok P w mg base (n+1) T.f_jbb (w62 T):=by
 refine u19 T.f_jbb sc_jbb (fun ds G R h=>?_) (fun cdv A outer s H E hr =>
   (u03 (u12 2 sc_jbb.nd (u62 (ev 0) (u00 u09 u02)))
   (u03 (s_if (t_w (w_and (u11 (x_eq hr) (ev 0) u09 (nomark _)) (u50 (u11 (x_eq hr) (e_sl x_sl (ev 1) (u60 (e_un ud5 u04)) u97) (u21 (u00 u09 u02)) (nomark _))))) (u03 (un8 u09 (us1 (ev 1) (e_un ud5 u04) uq4))
   (u06 (u17 e_bl))) u18)
   (u03 (s_if (t_w (w_and (u11 (x_eq hr) (ev 0) u09 (nomark _)) (w_and (u11 (x_ne hr) (ev 1) (u21 u02) (nomark _)) (u50 (u11 (x_ne hr) (e_ix x_ix (ev 1) (e_un ud5 u04)) u09 (nomark _)))))) (u03 (u26 (va1 (ev 1)))
   (u06 (u17 e_bl))) u18)
   (u03 (s_if (t_w (w_and (u11 (x_eq hr) (u10 u28 rfl T.b_len (by decide) (u00 (ev 2) u02)) u04 (nomark _)) (w_and (u11 (x_eq hr) (e_ix x_ix (ev 2) u04) u09 (nomark _)) (u50 (ua0 (ec T.f_jam T.g_law_is_atom G_jam hr (u00 (e_ix x_ix (ev 2) u04) u02))))))) (u03 (u26 (u31 (ev 1) (u00 u09 u02)))
   (u06 (u17 e_bl))) u18)
   (u03 (s_if (t_w (w_and (u11 (x_eq hr) (u10 u28 rfl T.b_len (by decide) (u00 (ev 2) u02)) u04 (nomark _)) (w_and (u11 (x_eq hr) (e_ix x_ix (ev 2) u04) u09 (nomark _)) (u50 (ua0 (ec T.f_jap T.g_law_is_number G_jap hr (u00 (e_ix x_ix (ev 2) u04) (u00 u04 u02)))))))) (u03 (u26 (u31 (ev 1) (u00 u09 u02)))
   (u06 (u17 e_bl))) u18)
   (u06 (u17 (ec T.f_jaq T.g_law_is_set G_jaq hr (u00 (ev 2) u02)))))))))) (fun ds G R h=>?_)
 ·obtain ⟨x,op,t,rfl,_⟩:=h;rfl
 ·obtain ⟨x,op,t,rfl,ko,hx,htl,ht3,good,bad⟩:=h
  have hsl:=uc2 u95 x;simp! [id];refine spA (Nat.le_trans hx (by decide)) rfl (Nat.le_trans hsl (by omega)) fun p hp=>?_
  have hml:∀ y ∈ Txt.split x " ",y.length<=5000:=fun y hy=>Nat.le_trans (uf6 u95 hy) hx
  have hels:x = "else" -> stW x t=stT .els t:=fun e=>un2 (l:=.els) trivial (by rw [e];exact uf5 (by decide))
  have hen:x = "end" -> stW x t=stT .en t:=fun e=>un2 (l:=.en) trivial (by rw [e];exact uf5 (by decide))
  have lels:lnW (Txt.split x " ")=some .els->x = "else" := fun z=>(u69 (u90 z).2).symm
  have len:lnW (Txt.split x " ")=some .en->x = "end" := fun z=>(u69 (u90 z).2).symm
  have hst:stW x t=(lnW (Txt.split x " ")).bind fun l=>stT l t:=rfl
  generalize Txt.split x " " = ws at *;have g1:Grow G (gup G p (.lst (ws.map .str))):=Grow.refl.new hp;have k1:gup G p (.lst (ws.map .str)) p=some (.lst (ws.map .str)):=u01;have ko1:=g1.kp _ _ ko;generalize gup G p (.lst (ws.map .str))=G1 at *;have hol:(opD t).length=t.length:=by unfold opD;rw [List.length_reverse,List.length_map]
  have kpo:∀ {G2:Gp} {o:DO},Grow G1 G2->Kp op G (gup G2 op o):=fun {G2 o} g c u n e=>by rw [u07 n];exact g.kp _ _ (g1.kp _ _ e)
  dsimp! [id];generalize hN:Go (dSeq _ _ _)=N;have rest:(stW x t=none \/ x ≠ "else")->∀ G2,Grow G1 G2->N [some (.str x),some (.ref op),some (.ref p)] G2:=by
   intro c1 G2 g2;have ko2:=g2.kp _ _ ko1;have k2:=g2.kp _ _ k1;rw [<- hN];clear hN;dsimp! [id];generalize hM:Go (dSeq _ _ _)=M;have rest2:(stW x t=none \/ x ≠ "end")->∀ G3,Grow G1 G3->M [some (.str x),some (.ref op),some (.ref p)] G3:=by
    intro c2 G3 g3;have ko3:=g3.kp _ _ ko1;have k3:=g3.kp _ _ k1;rw [<- hM];clear hM;dsimp! [k3,u08,List.length_map];generalize hL:Go (dSeq _ _ _)=L;have rest3:(∀ a,lnW ws ≠ some (.cho a))->∀ G4,Grow G1 G4->L [some (.str x),some (.ref op),some (.ref p)] G4:=by
     intro c3 G4 g4;have ko4:=g4.kp _ _ ko1;have k4:=g4.kp _ _ k1;rw [<- hL];clear hL;dsimp! [k4,u08,List.length_map];generalize hO:Go (dRet (dCall (vl7 T) _ _) _)=O;have rest4:(∀ k,lnW ws ≠ some (.tim k))->∀ G5,Grow G1 G5->O [some (.str x),some (.ref op),some (.ref p)] G5:=by
      intro c4 G5 g5;have ko5:=g5.kp _ _ ko1;have k5:=g5.kp _ _ k1;rw [<- hO];clear hO;dsimp! [id];refine u15 (post:=fun d G'=>Grow G5 G' /\ (isS ws /\ d=.bl true \/ ¬ isS ws /\ d=.bl false)) (fun R h=>⟨p,ws,rfl,k5,⟨fun y hy=>Nat.le_trans (hml y hy) (by decide),by omega⟩,(fun hs G' z=>h _ _ ⟨z,.inl ⟨hs,rfl⟩⟩),fun hs G' z=>h _ _ ⟨z,.inr ⟨hs,rfl⟩⟩⟩) ?_;rintro d G6 ⟨g6,⟨⟨r,hr,e⟩,rfl⟩ | ⟨hn,rfl⟩⟩
      ·exact good t (by rw [hst,uv3 hr e];rfl) _ (g6.kp _ _ ko5) fun c o _ e=>g6.kp _ _ (g5.kp _ _ (g1.kp _ _ e))
      ·refine bad ?_ _ fun c o _ e=>g6.kp _ _ (g5.kp _ _ (g1.kp _ _ e))
       cases el:lnW ws with
       | none=>rw [hst,el];rfl
       | some l =>
        cases l with
        | set r=>exact absurd ⟨r,u90 el⟩ hn
        | cho a=>exact absurd el (c3 a)
        | tim k=>exact absurd el (c4 k)
        | els=>exact c1.resolve_right fun n=>n (lels el)
        | en=>exact c2.resolve_right fun n=>n (len el)
     have q4:(∀ u v,ws=[u,v]->u=Str.ofString "times" -> ¬ isK 20 v)->∀ G5,Grow G1 G5->O [some (.str x),some (.ref op),some (.ref p)] G5:=fun z=>rest4 fun k el=>by
      obtain ⟨h1,e⟩:=u90 el;exact z _ _ e rfl ⟨k,h1,rfl⟩
     by_cases h2:ws.length=2
     ·obtain ⟨u,v,rfl⟩:∃ u v,ws=[u,v]:=by
       match ws,h2 with
       | [a,b],_=>exact ⟨a,b,rfl⟩
      rw [if_pos (decide_eq_true (by rfl))];simp! [k4,u08,u67,List.map_cons]
      by_cases hu:u=Str.ofString "times"
      ·rw [if_pos (decide_eq_true hu)]
       simp! [k4,u08,ud0,List.map_cons];refine w44 T (Nat.le_trans (hml v (by simp)) (by decide)) (by decide) (fun G5 hi g5=>?_) fun G5 hn g5=>by
        simp! [id];exact q4 (fun u' v' e _=>by cases e;exact hn) G5 (g4.trans g5)
       obtain ⟨k,hk,ek⟩:=hi;have ko5:=g5.kp _ _ ko4;simp! [ko5];refine ⟨Nat.lt_of_le_of_lt (m:=1000) (by omega) (by decide),?_⟩;dsimp! [id];refine good (2::t) (by rw [hst,uv3 (l:=.tim k) hk (by rw [hu,ek];rfl)];rfl) _ ?_ (kpo (g4.trans g5));rw [u01];unfold opD;rw [List.map_cons,List.reverse_cons];rfl
      ·rw [if_neg (by rw [decide_eq_false hu];decide)]
       exact q4 (fun u' v' e z=>by cases e;exact absurd z hu) G4 g4
     ·rw [if_neg (by rw [decide_eq_false (by omega)];decide)]
      exact q4 (fun u v e _=>absurd (by rw [e];rfl) h2) G4 g4
    have q3:(∀ u v,ws=[u,v]->u=Str.ofString "choose" -> ¬ isA v)->∀ G5,Grow G1 G5->L [some (.str x),some (.ref op),some (.ref p)] G5:=fun z=>rest3 fun a el=>by
     obtain ⟨h1,e⟩:=u90 el;exact z _ _ e rfl ⟨a,h1,rfl⟩
    by_cases h2:ws.length=2
    ·obtain ⟨u,v,rfl⟩:∃ u v,ws=[u,v]:=by
      match ws,h2 with
      | [a,b],_=>exact ⟨a,b,rfl⟩
     rw [if_pos (decide_eq_true (by rfl))];simp! [k3,u08,u67,List.map_cons]
     by_cases hu:u=Str.ofString "choose"
     ·rw [if_pos (decide_eq_true hu)]
      simp! [k3,u08,ud0,List.map_cons];refine w45 T (Nat.le_trans (hml v (by simp)) (by decide)) (fun G5 hi g5=>?_) fun G5 hn g5=>by
       simp! [id];exact q3 (fun u' v' e _=>by cases e;exact hn) G5 (g3.trans g5)
      obtain ⟨a,ha,ea⟩:=hi;have ko5:=g5.kp _ _ ko3;simp! [ko5];refine ⟨Nat.lt_of_le_of_lt (m:=1000) (by omega) (by decide),?_⟩;dsimp! [id];refine good (0::t) (by rw [hst,uv3 (l:=.cho a) ha (by rw [hu,ea];rfl)];rfl) _ ?_ (kpo (g3.trans g5));rw [u01];unfold opD;rw [List.map_cons,List.reverse_cons];rfl
     ·rw [if_neg (by rw [decide_eq_false hu];decide)]
      exact q3 (fun u' v' e z=>by cases e;exact absurd z hu) G3 g3
    ·rw [if_neg (by rw [decide_eq_false (by omega)];decide)]
     exact q3 (fun u v e _=>absurd (by rw [e];rfl) h2) G3 g3
   by_cases h1:x=Str.ofString "end"
   ·rw [if_pos (decide_eq_true h1)]
    refine ⟨by decide,fun p3 hp3=>?_⟩;have g3:Grow G1 (gup G2 p3 (.lst [])):=g2.new hp3;have ko3:=g3.kp _ _ ko1;refine u74 (F:=fun k=>D.str (tgT k)) (xs:=t.reverse) (fun k=>⟨_,rfl⟩) (by rw [ko3];unfold opD;rw [List.map_reverse];rfl) (by rw [u01];rfl) ?_;generalize gup G2 p3 (.lst [])=G3 at *;cases t with
    | nil =>
     rw [decide_eq_true (by rfl)];simp! [id];exact rest2 (.inl (hen h1)) G3 g3
    | cons k t =>
     rw [decide_eq_false (by simp)];have e1:atI (opD (k::t)) (-1)=some (.str (tgT k)):=by unfold opD;rw [List.map_cons,List.reverse_cons];exact atI_last
     simp! [ko3,u08,e1];cases k with
     | zero =>
      rw [if_neg (by decide)];exact rest2 (.inl (hen h1)) G3 g3
     | succ j =>
      have nk:tgT (j+1) ≠ Str.ofString "choose" := by
       cases j with
       | zero=>decide
       | succ i=>show Str.ofString "times" ≠ _;decide
      rw [if_pos (by rw [decide_eq_false nk];rfl)];simp! [ko3];refine wb7 (xs:=opD t) (x:=.str (tgT (j+1))) (by rw [ko3];unfold opD;rw [List.map_cons,List.reverse_cons]) ?_;dsimp! [id];exact good t (by rw [hen h1];rfl) _ u01 (kpo g3)
   ·rw [if_neg (by rw [decide_eq_false h1];decide)]
    exact rest2 (.inr h1) G2 g2
  by_cases h1:x=Str.ofString "else"
  ·rw [if_pos (decide_eq_true h1)]
   simp! [ko1,u08];intro p3 hp3;have ec:cutD (opD t) (some (-1)) none=((t.take 1).map fun k=>D.str (tgT k)):=by
    unfold cutD;rw [HT.sIx_none,hol];have e:HT.sIx t.length 0 (some (-1))=t.length - 1:=by
     show (if (-1:Int) < 0 then ((-1:Int)+(t.length:Int)).toNat else min (-1:Int).toNat t.length)=_
     rw [if_pos (by decide)];omega
    rw [e];cases t with
    | nil=>rfl
    | cons k t =>
     unfold opD;rw [List.map_cons,List.reverse_cons,List.length_cons,Nat.add_sub_cancel,List.drop_left' (by rw [List.length_reverse,List.length_map]),List.take_of_length_le (by simp)];rfl
   rw [ec];refine ⟨by decide,fun p4 hp4=>?_⟩;refine ue5 (ks:=(t.take 1).map tgT) (ms:=["choose"]) (by rw [u07 (gne u01 hp4),u01,List.map_map];rfl) (by rw [u01];rfl) ?_;have g4:Grow G1 (gup (gup G1 p3 (.lst ((t.take 1).map fun k=>D.str (tgT k)))) p4 (.lst [D.str "choose"])):=(Grow.refl.new hp3).new hp4;have ko4:=g4.kp _ _ ko1;generalize gup (gup G1 p3 (.lst ((t.take 1).map fun k=>D.str (tgT k)))) p4 (.lst [D.str "choose"])=G4 at *;cases t with
   | nil =>
    rw [decide_eq_false (by simp)];simp! [id];exact rest (.inl (hels h1)) G4 g4
   | cons k t =>
    cases k with
    | zero =>
     rw [decide_eq_true (by rfl)];have e1:ixN (opD (0::t)).length (-1)=some t.length:=by
      rw [hol,List.length_cons];unfold ixN;rw [if_neg (by decide),if_pos (by omega)];exact congrArg some (by omega)
     simp! [ko4,e1];dsimp! [id];refine good (1::t) (by rw [hels h1];rfl) _ ?_ (kpo g4);rw [u01];unfold opD;rw [List.map_cons,List.map_cons,List.reverse_cons,List.reverse_cons,List.set_append_right _ _ (by rw [List.length_reverse,List.length_map];omega),List.length_reverse,List.length_map,Nat.sub_self];rfl
    | succ j =>
     rw [decide_eq_false (by
      intro z;have z:tgT (j+1) = "choose" := (List.cons.inj z).1;cases j with
      | zero=>exact absurd z (by decide)
      | succ i=>exact absurd (show Str.ofString "times" = _ from z) (by decide))]
     simp! [id];exact rest (.inl (hels h1)) G4 g4
  ·rw [if_neg (by rw [decide_eq_false h1];decide)]
   exact rest (.inr h1) G1 Grow.refl
theorem wf4 {n:Nat} (G_jan:Ok P w mg base n T.f_jan (vl8 T)) (G_jbb:Ok P w mg base n T.f_jbb (w62 T)):Ok P w mg base (n+1) T.f_jbg (w61 T):=by
 refine u19 T.f_jbg sc_jbg (fun ds G R h=>?_) (fun cdv A outer s H E hr =>
   (u03 (u12 1 sc_jbg.nd (u21 u02))
   (u03 (un7 (uh5 rfl T.b_enumerate (u00 (ev 0) u02)) (w19 (n:=2) rfl (ua4 (u35 2 sc_jbg.nd) (ua4 (u35 3 sc_jbg.nd) v79))) (u06 (s_if (t_w (w_or (t_w (w_and (u11 (x_lt) (ev 2) u04 (nomark _)) (u50 (ua8 (ua0 (ec T.f_jan T.g_law_is_head G_jan hr (u00 (ev 3) (u00 (ev 2) u02)))))))) (u94 (t_w (w_and (u11 (x_gt) (ev 2) u04 (nomark _)) (u50 (ua8 (ua0 (ec T.f_jbb T.g_law_stays G_jbb hr (u00 (ev 3) (u00 (ev 1) u02))))))))))) (u06 (u17 (ev 2))) u18)))
   (u03 (s_if (t_w (w_or (u11 (x_lt) (u10 u28 rfl T.b_len (by decide) (u00 (ev 0) u02)) u04 (nomark _)) (u94 (u11 (x_ne hr) (ev 1) (u21 u02) (nomark _))))) (u06 (u17 (u10 u28 rfl T.b_len (by decide) (u00 (ev 0) u02)))) u18)
   (u06 (u17 u96)))))) (fun ds G R h=>?_)
 ·obtain ⟨la,ls,rfl,_⟩:=h;rfl
 ·obtain ⟨la,ls,rfl,kl,hx,hn,hne,post⟩:=h
  simp! [id];refine ⟨by decide,fun op hop=>?_⟩;have g1:Grow G (gup G op (.lst [])):=Grow.refl.new hop;have ko1:gup G op (.lst []) op=some (.lst []):=u01;have kl1:=g1.kp _ _ kl;have nl:la ≠ op:=gne kl hop;generalize gup G op (.lst [])=G1 at *;dsimp! [vd6,kl1,u08];generalize hN:Go (dSeq _ _ _)=N;refine u61 (fun r σ G'=>∃ (i:Nat) (l t:List Str) (tg:List Nat) (v2 v3:Option D),l++t=ls /\ i=l.length /\ r=enD i (t.map .str) /\ (∀ c o,c ≠ op->G c=some o->G' c=some o) /\ G' op=some (.lst (opD tg)) /\ tg.length<=i /\ (∀ k ∈ tg,k < 3) /\ (i=0 /\ tg=[] \/ i=1 /\ tg=[] /\ (∃ l0,l=[l0] /\ isH0 l0) \/ 2<=i /\ fwT ls=rnT i t tg) /\ σ=[some (.ref la),some (.ref op),v2,v3]) ⟨0,[],ls,[],none,none,rfl,rfl,rfl,(fun c o n e=>g1.kp _ _ e),ko1,Nat.le_refl _,by simp,.inl ⟨rfl,rfl⟩,rfl⟩ ?_ ?_
  ·rintro σ G6 ⟨i,l,t,tg,v2,v3,e,ei,e1,kp,ko,htl,ht3,hc,rfl⟩
   have ht:t=[]:=by
    cases t with
    | nil=>rfl
    | cons x y=>cases e1
   subst ht;rw [List.append_nil] at e;subst e;have kl6:=kp la _ nl kl;have g6:Grow G G6:=⟨fun c o e=>kp c o (gne e hop) e⟩;refine ⟨by rw [kl6],?_⟩;rw [<- hN];clear hN;dsimp! [kl6,u08,List.length_map]
   rcases hc with ⟨e0,rfl⟩ | ⟨e0,rfl,l0,rfl,h0⟩ | ⟨e2,ef⟩
   ·exact absurd (List.length_eq_zero_iff.mp (by omega)) hne
   ·rw [if_pos (by rfl)]
    simp! [kl6,u08,List.length_map];have:=post _ g6;rw [fw_l h0] at this;exact this
   ·rw [if_neg (by rw [decide_eq_false (by omega)];decide)]
    simp! [id];refine ⟨by decide,fun p3 hp3=>?_⟩;have g3:=g6.new (o:=.lst []) hp3;refine u74 (F:=fun k=>D.str (tgT k)) (xs:=tg.reverse) (fun k=>⟨_,rfl⟩) (by rw [u07 (gne ko hp3),ko];unfold opD;rw [List.map_reverse];rfl) (by rw [u01];rfl) ?_;have kl3:gup G6 p3 (.lst []) la=some (.lst (l.map .str)):=by rw [u07 (gne kl6 hp3)];exact kl6
    generalize gup G6 p3 (.lst [])=G3 at *;have ef:fwT l=if tg=[] then none else some i:=ef
    cases tg with
    | nil =>
     rw [decide_eq_true (by rfl)];simp! [id];dsimp! [id];have:=post _ g3;rw [ef] at this;exact this
    | cons k tg =>
     rw [decide_eq_false (by simp)];simp! [kl3,u08,List.length_map];have:=post _ g3;rw [ef,ei] at this;exact this
  ·rintro z r σ G6 ⟨i,l,t,tg,v2,v3,e,ei,e1,kp,ko,htl,ht3,hc,rfl⟩ ih
   cases t with
   | nil=>cases e1
   | cons s0 t =>
    cases e1;have kl6:=kp la _ nl kl;have g6:Grow G G6:=⟨fun c o e=>kp c o (gne e hop) e⟩;refine ⟨by rw [kl6],?_⟩;have hs0:=hx s0 (by rw [<- e];simp);have hlen:=congrArg List.length e;rw [List.length_append,List.length_cons] at hlen;generalize hFL:forL _ _ _ _ (enD (i+1) _)=FL at ih ⊢;simp! [id];have nx:∀ (tg':List Nat) (G':Gp),(∀ c o,c ≠ op->G6 c=some o->G' c=some o)->G' op=some (.lst (opD tg'))->tg'.length<=i+1->(∀ k ∈ tg',k < 3)->(i+1=1 /\ tg'=[] /\ (∃ l0,l++[s0]=[l0] /\ isH0 l0) \/ 2<=i+1 /\ fwT ls=rnT (i+1) t tg')->FL [some (.ref la),some (.ref op),some (.int (i:Int)),some (.str s0)] G':=fun tg' G' k1 k2 k3 k4 k5=>ih _ _ ⟨i+1,l++[s0],t,tg',_,_,by rw [<- e];simp,by rw [List.length_append,ei];rfl,rfl,(fun c o n e=>k1 c o n (kp c o n e)),k2,k3,k4,.inr k5,rfl⟩
    have head:∀ q:DK,i<=1->(∀ G',isH i s0->Grow G6 G'->q (.bl true) G')->(∀ G',¬ isH i s0->Grow G6 G'->q (.bl false) G')->∃ R,vl8 T [.str s0,.int (i:Int)] G6 R /\ ∀ d G',R d G'->q d G':=fun q hi f g =>
     u15 (post:=fun d G'=>Grow G6 G' /\ (isH i s0 /\ d=.bl true \/ ¬ isH i s0 /\ d=.bl false)) (fun R h'=>⟨s0,i,rfl,hs0,hi,(fun h1 G' z=>h' _ _ ⟨z,.inl ⟨h1,rfl⟩⟩),fun h1 G' z=>h' _ _ ⟨z,.inr ⟨h1,rfl⟩⟩⟩) fun d G' ⟨z,y⟩=>by
      rcases y with ⟨h1,rfl⟩ | ⟨h1,rfl⟩
      ·exact f G' h1 z
      ·exact g G' h1 z
    rcases hc with ⟨e0,rfl⟩ | ⟨e0,rfl,l0,rfl,h0⟩ | ⟨e2,ef⟩
    ·subst e0
     have hl0:=List.length_eq_zero_iff.mp ei.symm;subst hl0;rw [if_pos (by decide)];simp! [id];refine head _ (by decide) (fun G7 hh g7=>?_) fun G7 hh g7=>?_
     ·simp! [id]
      rw [if_neg (by decide)];exact nx [] G7 (fun c o _ e=>g7.kp _ _ e) (g7.kp _ _ ko) (by simp) (by simp) (.inl ⟨rfl,rfl,s0,rfl,hh⟩)
     ·simp! [id]
      have:=post _ (g6.trans g7);rw [<- e] at this;rw [show fwT ([]++s0::t)=some 0 from fw_0 hh] at this;exact this
    ·subst e0
     rw [if_pos (by decide)];simp! [id];refine head _ (by decide) (fun G7 hh g7=>?_) fun G7 hh g7=>?_
     ·simp! [id]
      rw [if_neg (by decide)];exact nx [] G7 (fun c o _ e=>g7.kp _ _ e) (g7.kp _ _ ko) (by simp) (by simp) (.inr ⟨by decide,by rw [<- e];exact fw_2 h0 hh⟩)
     ·simp! [id]
      have:=post _ (g6.trans g7);rw [<- e] at this;rw [show fwT ([l0]++s0::t)=some 1 from fw_1 h0 hh] at this;exact this
    ·rw [if_neg (by rw [decide_eq_false (by omega)];decide)]
     simp! [id];rw [if_pos (decide_eq_true (by omega))];simp! [id];refine u15 (post:=fun d G'=>(∃ t',stW s0 tg=some t' /\ d=.bl true /\ G' op=some (.lst (opD t')) /\ Kp op G6 G') \/ stW s0 tg=none /\ d=.bl false /\ Kp op G6 G') (fun R h=>⟨s0,op,tg,rfl,ko,hs0,by omega,ht3,(fun t' h1 G' h2 h3=>h _ _ (.inl ⟨t',h1,rfl,h2,h3⟩)),fun h1 G' h2=>h _ _ (.inr ⟨h1,rfl,h2⟩)⟩) ?_;rintro d G7 (⟨t',h1,rfl,k7,p7⟩ | ⟨h1,rfl,p7⟩)
     ·simp! [id]
      have hb:=vs8 h1;exact nx t' G7 (fun c o n e=>p7 c o n e) k7 (by omega) (fun k hk=>(hb.2 ht3) k hk) (.inr ⟨by omega,by rw [ef];exact ur3 h1⟩)
     ·simp! [id]
      have:=post G7 ⟨fun c o e=>p7 c o (gne e hop) (g6.kp _ _ e)⟩;rw [ef,vo4 h1] at this;exact this
theorem wh5 {n:Nat}:Ok P w mg base (n+1) T.f_jak (w68 T):=by
 refine u19 T.f_jak sc_jak (fun ds G R h=>?_) (fun cdv A outer s H E hr =>
   (u03 (u12 1 sc_jak.nd u04)
   (u03 (u12 2 sc_jak.nd u04)
   (u03 (un7 (us5 (ev 0)) (u35 3 sc_jak.nd) (u03 (u12 1 sc_jak.nd (u10 v07 rfl T.b_max (by decide) (u00 u04 (u00 (u13 ux6 (u13 u24 (ev 1) (u14 ub9 rfl T.b_int (by decide) (u00 (e_or (u55 (x_eq hr) (e_sl vq4 (ev 3) u97 (u60 u04)) u09 (nomark _)) (ud8 (u55 (x_eq hr) (e_sl vq4 (ev 3) u97 (u60 u04)) u09 (nomark _)))) u02))) (u14 ub9 rfl T.b_int (by decide) (u00 (u55 (x_eq hr) (ev 3) u09 (nomark _)) u02))) u02))))
   (u06 (u12 2 sc_jak.nd (u10 v07 rfl T.b_max (by decide) (u00 (ev 2) (u00 (ev 1) u02)))))))
   (u06 (u17 (ev 2))))))) (fun ds G R h=>?_)
 ·obtain ⟨la,ls,rfl,_⟩:=h;rfl
 ·obtain ⟨la,ls,rfl,kl,hx,post⟩:=h
  simp! [id];dsimp! [id];dsimp! [kl,u08];refine u61 (fun r σ G'=>∃ (l t:List Str) (d m:Nat) (v3:Option D),l++t=ls /\ r=t.map .str /\ G'=G /\ dpT ls 0 0=dpT t d m /\ σ=[some (.ref la),some (.int (d:Int)),some (.int (m:Int)),v3]) ⟨[],ls,0,0,none,rfl,rfl,rfl,rfl,rfl⟩ ?_ ?_
  ·rintro σ G1 ⟨l,t,d,m,v3,e,e1,rfl,ed,rfl⟩
   have ht:t=[]:=by simpa using e1.symm
   subst ht;refine ⟨by rw [kl],?_⟩;dsimp! [id];rw [ed] at post;exact post
  ·rintro z r σ G1 ⟨l,t,d,m,v3,e,e1,rfl,ed,rfl⟩ ih
   cases t with
   | nil=>cases e1
   | cons x t =>
    cases e1;refine ⟨by rw [kl],?_⟩;have hl:=hx x (by rw [<- e];simp);have hz:x.length<=sizeLine:=Nat.le_trans hl (by decide);generalize hFL:forL _ _ _ _ (List.map _ _)=FL at ih ⊢;simp! [id];have nx:∀ b c:Bool,b=bgS x->c=decide (x = "end")->FL [some (.ref la),some (.int ((d+(if b then 1 else 0) - (if c then 1 else 0):Nat):Int)),some (.int ((max m (d+(if b then 1 else 0) - (if c then 1 else 0)):Nat):Int)),some (.str x)] G1:=fun b c hb hc=>ih _ _ ⟨l++[x],t,_,_,_,by rw [<- e];simp,rfl,rfl,by
     rw [ed,hb,hc]
     show dpT t _ _=_
     simp only [decide_eq_true_eq],rfl⟩
    refine ⟨x,rfl,hz,?_⟩;have fin:∀ b:Bool,b=bgS x->FL [some (.ref la),some (.int (if ((d:Int)+(if b then 1 else 0) - if decide (x=Str.ofString "end")=true then 1 else 0) > 0 then ((d:Int)+(if b then 1 else 0) - if decide (x=Str.ofString "end")=true then 1 else 0) else 0)),some (.int (if (if ((d:Int)+(if b then 1 else 0) - if decide (x=Str.ofString "end")=true then 1 else 0) > 0 then ((d:Int)+(if b then 1 else 0) - if decide (x=Str.ofString "end")=true then 1 else 0) else 0) > (m:Int) then (if ((d:Int)+(if b then 1 else 0) - if decide (x=Str.ofString "end")=true then 1 else 0) > 0 then ((d:Int)+(if b then 1 else 0) - if decide (x=Str.ofString "end")=true then 1 else 0) else 0) else (m:Int))),some (.str x)] G1:=fun b hb=>by
     have:=nx b (decide (x=Str.ofString "end")) hb rfl;rw [<- mxm,<- mx0] at this;exact this
    clear nx;simp! [id]
    by_cases h6:Txt.slice x none (some 6)=Str.ofString "choose"
    ·rw [if_pos (decide_eq_true h6)]
     dsimp! [id];exact fin true (by unfold bgS;rw [decide_eq_true h6];rfl)
    ·rw [if_neg (by rw [decide_eq_false h6];decide)]
     refine ⟨x,rfl,hz,?_⟩;simp! [id];dsimp! [id];refine fin (decide (Txt.slice x none (some 5)=Str.ofString "times")) ?_;unfold bgS;rw [decide_eq_false h6];rfl
theorem wf6 {n:Nat} (G_jat:Ok P w mg base n T.f_jat (u85 T)):Ok P w mg base (n+1) T.f_jbd (vl1 T):=by
 refine u19 T.f_jbd sc_jbd (fun ds G R h=>?_) (fun cdv A outer s H E hr =>
   (by (with_unfolding_all change Ss3' _ _ _);exact (u40 (uu3 2 sc_jbd.nd (u34 (ua6 (ua6 ui8))))
   (u40 (v37 2 sc_jbd.nd (ev 2) (u34 (u34 (u34 (u34 (ua6 (ui9 (u13 u24 (ev 1) (ev 1)) ui8)))))))
   (u40 (v37 2 sc_jbd.nd (ev 2) (ui9 (u13 u24 (ev 1) u09) (ui9 (u13 u24 (ev 1) u09) (ui9 (u13 u24 u09 (ev 1)) (ui9 (u13 u24 (ev 1) u09) (u34 ui8))))))
   (ur0 (S3'.of (u17 (e_ix x_ix (ev 2) (ec T.f_jat T.g_law_next G_jat hr (u00 (ev 0) (u00 (u10 u28 rfl T.b_len (by decide) (u00 (ev 2) u02)) u02)))))))))))) (fun ds G R h=>?_)
 ·obtain ⟨pr,w,rfl,_⟩:=h;rfl
 ·obtain ⟨pr,w,rfl,hP,hw,fw,post⟩:=h
  have ow:okS w.length w:=⟨Nat.le_refl _,fw⟩;simp! [id];refine ⟨by decide,fun p hp=>?_⟩;obtain ⟨us,hus⟩:∃ us:List Str,us=(["+1", "1_0", "01", "-0", "00", "65536", "65535", "A", "a1", "x", "", "end", "times"]:List Str):=⟨_,rfl⟩;rw [show [D.str "+1",D.str "1_0",D.str "01",D.str "-0",D.str "00",D.str "65536",D.str "65535",D.str "A",D.str "a1",D.str "x",D.str "",D.str "end",D.str "times"]=us.map D.str by rw [hus];rfl];have hul:us.length=13:=by rw [hus];rfl
  have hu:∀ x ∈ us,okS 9 x:=by rw [hus];exact u86 (by decide)
  clear hus;have n1:=hP.ne hp;have A1:PAdv pr G (gup G p (.lst (us.map .str))):=(PAdv.refl hP).grow (Grow.refl.new hp);have k1:gup G p (.lst (us.map .str)) p=some (.lst (us.map .str)):=u01;generalize gup G p (.lst (us.map .str))=G1 at *;have lt:∀ n,n<=20->w.length+n<=sizeLine:=fun n h=>Nat.le_trans (m:=6000) (by omega) (by decide)
  dsimp! [addS];refine ⟨Nat.le_trans (m:=10000) (by omega) (by decide),by decide,fun p2 hp2=>?_⟩;obtain ⟨vs,hvs⟩:∃ vs:List Str,vs=(["abcdefghi", "==", "+-", "*", "&|", "0", "21", "20", "17", " "]:List Str):=⟨_,rfl⟩;rw [show [D.str "abcdefghi",D.str "==",D.str "+-",D.str "*",D.str "&|",D.str "0",D.str "21",D.str "20",D.str "17",D.str " ",D.str (w++w)]=(vs++[w++w]).map D.str by rw [hvs];rfl];have hvl:vs.length=10:=by rw [hvs];rfl
  have hv:∀ x ∈ vs,okS 9 x:=by rw [hvs];exact u86 (by decide)
  clear hvs;obtain ⟨vs2,hv2⟩:∃ vs2:List Str,vs2=vs++[w++w]:=⟨_,rfl⟩;rw [<- hv2];have hvl2:vs2.length=11:=by rw [hv2,List.length_append,hvl];rfl
  have hvo:∀ x ∈ vs2,okS (2 * w.length+9) x:=by
   rw [hv2];intro x hx
   rcases List.mem_append.mp hx with hx | hx
   ·exact u41 (hv x hx) (by omega)
   ·rw [List.mem_singleton.mp hx];exact u41 (uc6 ow ow) (by omega)
  clear hv2;have A2:PAdv pr G (gup G1 p2 (.lst (vs2.map .str))):=A1.grow (Grow.refl.new hp2);have k12:gup G1 p2 (.lst (vs2.map .str)) p=some (.lst (us.map .str)):=by rw [u07 (gne k1 hp2)];exact k1
  have k2:gup G1 p2 (.lst (vs2.map .str)) p2=some (.lst (vs2.map .str)):=u01;generalize gup G1 p2 (.lst (vs2.map .str))=G2 at *;refine ue7 k12 k2 (by rw [List.length_map,List.length_map];omega) fun p3 hp3=>?_
  rw [<- List.map_append];obtain ⟨zs,hzs⟩:∃ zs:List Str,zs=us++vs2:=⟨_,rfl⟩;rw [<- hzs];have hzl:zs.length=24:=by rw [hzs,List.length_append];omega
  have hz:∀ x ∈ zs,okS (2 * w.length+9) x:=by
   rw [hzs];exact fun x hx=>(List.mem_append.mp hx).elim (fun h=>u41 (hu x h) (by omega)) (hvo x)
  clear hzs;have A3:PAdv pr G (gup G2 p3 (.lst (zs.map .str))):=A2.grow (Grow.refl.new hp3);have k3:gup G2 p3 (.lst (zs.map .str)) p3=some (.lst (zs.map .str)):=u01;generalize gup G2 p3 (.lst (zs.map .str))=G3 at *;dsimp! [addS];refine ⟨lt _ (by decide),lt _ (by decide),by rw [Nat.add_comm];exact lt _ (by decide),lt _ (by decide),by decide,fun p4 hp4=>?_⟩;obtain ⟨ys,hys⟩:∃ ys:List Str,ys=[w ++ "a",w ++ ";", "1" ++ w,w ++ ",", "+"]:=⟨_,rfl⟩;rw [show [D.str (w++Str.ofString "a"),D.str (w++Str.ofString ";"),D.str (Str.ofString "1" ++ w),D.str (w++Str.ofString ","),D.str "+"]=ys.map D.str by rw [hys];rfl];have hyl:ys.length=5:=by rw [hys];rfl
  have hy:∀ x ∈ ys,okS (2 * w.length+9) x:=by
   rw [hys];intro x hx;simp only [List.mem_cons,List.mem_nil_iff,or_false] at hx
   rcases hx with rfl | rfl | rfl | rfl | rfl
   ·exact u41 (uc6 ow (u72 (n:=1) (by decide))) (by omega)
   ·exact u41 (uc6 ow (u72 (n:=1) (by decide))) (by omega)
   ·exact u41 (uc6 (u72 (n:=1) (by decide)) ow) (by omega)
   ·exact u41 (uc6 ow (u72 (n:=1) (by decide))) (by omega)
   ·exact u41 (u72 (n:=1) (by decide)) (by omega)
  clear hys;have A4:PAdv pr G (gup G3 p4 (.lst (ys.map .str))):=A3.grow (Grow.refl.new hp4);have k34:gup G3 p4 (.lst (ys.map .str)) p3=some (.lst (zs.map .str)):=by rw [u07 (gne k3 hp4)];exact k3
  have k4:gup G3 p4 (.lst (ys.map .str)) p4=some (.lst (ys.map .str)):=u01;generalize gup G3 p4 (.lst (ys.map .str))=G4 at *;refine ue7 k34 k4 (by rw [List.length_map,List.length_map];omega) fun p5 hp5=>?_
  rw [<- List.map_append];have n5:=A4.at_.ne hp5
  have A5:PAdv pr G (gup G4 p5 (.lst ((zs++ys).map .str))):=A4.grow (Grow.refl.new hp5);have k5:gup G4 p5 (.lst ((zs++ys).map .str)) p5=some (.lst ((zs++ys).map .str)):=u01;generalize gup G4 p5 (.lst ((zs++ys).map .str))=G5 at *;dsimp! [k5,u08,List.length_map];exact ux4 T A5.at_ n5 k5 (by rw [List.length_append];omega) (by rw [List.length_append];omega) (fun w hw=>(List.mem_append.mp hw).elim (hz w) (hy w)) fun x G' A ok=>post x G' (A5.trans A) ok.1 ok.2
theorem wg2 {n:Nat} (G_jat:Ok P w mg base n T.f_jat (u85 T)):Ok P w mg base (n+1) T.f_jax (vl5 T):=by
 refine u19 T.f_jax sc_jax (fun ds G R h=>?_) (fun cdv A outer s H E hr =>
   (by (with_unfolding_all change Ss3' _ _ _);exact (u40 (uu3 1 sc_jax.nd (u34 (u34 (u34 (u34 (u34 (ua6 ui8)))))))
   (u40 (v37 1 sc_jax.nd (ev 1) (u34 (u34 (u34 (u34 (ua6 ui8))))))
   (ur0 (S3'.of (u17 (e_ix x_ix (ev 1) (ec T.f_jat T.g_law_next G_jat hr (u00 (ev 0) (u00 (u10 u28 rfl T.b_len (by decide) (u00 (ev 1) u02)) u02))))))))))) (fun ds G R h=>?_)
 ·obtain ⟨pr,rfl,_⟩:=h;rfl
 ·obtain ⟨pr,rfl,hP,post⟩:=h
  simp! [id];refine ⟨by decide,fun p hp=>?_⟩;obtain ⟨us,hus⟩:∃ us:List Str,us=(["else", "end", "choose a", "choose 1", "times 2", "times 21", "times a", "wide 4", "boxes a", "", "choose"]:List Str):=⟨_,rfl⟩;rw [show [D.str "else",D.str "end",D.str "choose a",D.str "choose 1",D.str "times 2",D.str "times 21",D.str "times a",D.str "wide 4",D.str "boxes a",D.str "",D.str "choose"]=us.map D.str by rw [hus];rfl];have hul:us.length=11:=by rw [hus];rfl
  have hu:∀ x ∈ us,okS 20 x:=by rw [hus];exact u86 (by decide)
  clear hus;have n1:=hP.ne hp;have A1:PAdv pr G (gup G p (.lst (us.map .str))):=(PAdv.refl hP).grow (Grow.refl.new hp);have k1:gup G p (.lst (us.map .str)) p=some (.lst (us.map .str)):=u01;generalize gup G p (.lst (us.map .str))=G1 at *;dsimp! [id];refine ⟨by decide,fun p2 hp2=>?_⟩;obtain ⟨vs,hvs⟩:∃ vs:List Str,vs=(["a = a", "a = 1 + 2", "a", "a =", "a = 1 +", "= a", "else end", "end ", "1 = a", "a = a = a = a"]:List Str):=⟨_,rfl⟩;rw [show [D.str "a = a",D.str "a = 1 + 2",D.str "a",D.str "a =",D.str "a = 1 +",D.str "= a",D.str "else end",D.str "end ",D.str "1 = a",D.str "a = a = a = a"]=vs.map D.str by rw [hvs];rfl];have hvl:vs.length=10:=by rw [hvs];rfl
  have hv:∀ x ∈ vs,okS 20 x:=by rw [hvs];exact u86 (by decide)
  clear hvs;have A2:PAdv pr G (gup G1 p2 (.lst (vs.map .str))):=A1.grow (Grow.refl.new hp2);have k12:gup G1 p2 (.lst (vs.map .str)) p=some (.lst (us.map .str)):=by rw [u07 (gne k1 hp2)];exact k1
  have k2:gup G1 p2 (.lst (vs.map .str)) p2=some (.lst (vs.map .str)):=u01;generalize gup G1 p2 (.lst (vs.map .str))=G2 at *;refine ue7 k12 k2 (by rw [List.length_map,List.length_map];omega) fun p3 hp3=>?_
  have n3:=A2.at_.ne hp3
  have A3:PAdv pr G (gup G2 p3 (.lst ((us++vs).map .str))):=A2.grow (Grow.refl.new hp3);have k3:gup G2 p3 (.lst ((us++vs).map .str)) p3=some (.lst ((us++vs).map .str)):=u01;rw [<- List.map_append];generalize gup G2 p3 (.lst ((us++vs).map .str))=G3 at *;dsimp! [k3,u08,List.length_map];exact ux4 T A3.at_ n3 k3 (by rw [List.length_append];omega) (by rw [List.length_append];omega) (fun w hw=>(List.mem_append.mp hw).elim (hu w) (hv w)) fun x G' A ok=>post x G' (A3.trans A) ok.1 ok.2
theorem wh4 {n:Nat} (G_jat:Ok P w mg base n T.f_jat (u85 T)):Ok P w mg base (n+1) T.f_jal (w67 T):=by
 refine u19 T.f_jal sc_jal (fun ds G R h=>?_) (fun cdv A outer s H E hr =>
   (by (with_unfolding_all change Ss3' _ _ _);exact (u40 (S3'.of (s_if (u11 (x_lt) (u10 u28 rfl T.b_len (by decide) (u00 (ev 0) u02)) u04 (nomark _)) (u06 (u17 (ev 0))) u18))
   (u40 (uu3 2 sc_jal.nd (u34 (ua6 ui8)))
   (u40 (uu3 3 sc_jal.nd (u34 (u34 (ua6 ui8))))
   (u40 (S3'.of (u12 4 sc_jal.nd (e_ix x_ix (u21 (u00 (u13 u24 u09 (u70 u09 (u00 (e_sl x_sl (ev 3) u97 (u60 (u13 u24 u04 (ec T.f_jat T.g_law_next G_jat hr (u00 (ev 1) (u00 u04 u02)))))) u02))) (u00 (e_ix x_ix (ev 2) (ec T.f_jat T.g_law_next G_jat hr (u00 (ev 1) (u00 u04 u02)))) u02))) (ec T.f_jat T.g_law_next G_jat hr (u00 (ev 1) (u00 u04 u02))))))
   (u40 (S3'.of (u12 5 sc_jal.nd (u14 ub9 rfl T.b_int (by decide) (u00 (u55 (x_eq hr) (e_sl vq4 (ev 4) u97 (u60 u04)) u09 (nomark _)) u02))))
   (ur0 (S3'.of (u17 (u13 u24 (u13 u24 (e_sl x_sl (ev 0) u97 (u60 (ev 5))) (u21 (u00 (ev 4) u02))) (e_sl x_sl (ev 0) (u60 (u13 u24 (ev 5) u04)) u97)))))))))))) (fun ds G R h=>?_)
 ·obtain ⟨la,pr,n,B,ls,rfl,_⟩:=h;rfl
 ·obtain ⟨la,pr,n,B,ls,rfl,hP,kl,O,hn,hB,nl,post⟩:=h
  simp! [kl,u08,List.length_map]
  by_cases h2:ls.length < 2
  ·rw [if_pos (decide_eq_true (by omega))]
   exact post la ls G (PAdv.refl hP) ⟨fun x hx=>⟨(O.l x hx).1,by have:=(O.l x hx).2;omega⟩,O.a,O.b⟩ kl nl
  rw [if_neg (by rw [decide_eq_false (by omega)];decide)];dsimp! [id];refine ⟨by decide,fun p hp=>?_⟩;obtain ⟨us,hus⟩:∃ us:List Str,us=(["wide 0", "wide 16", "wide 017", "wide 17", "wide 1", "wide", "boxes"]:List Str):=⟨_,rfl⟩;rw [show [D.str "wide 0",D.str "wide 16",D.str "wide 017",D.str "wide 17",D.str "wide 1",D.str "wide",D.str "boxes"]=us.map D.str by rw [hus];rfl];have hul:us.length=7:=by rw [hus];rfl
  have hu:∀ x ∈ us,okS 30 x:=by rw [hus];exact u86 (by decide)
  clear hus;have n1:=hP.ne hp;have A1:PAdv pr G (gup G p (.lst (us.map .str))):=(PAdv.refl hP).grow (Grow.refl.new hp);have k1:gup G p (.lst (us.map .str)) p=some (.lst (us.map .str)):=u01;generalize gup G p (.lst (us.map .str))=G1 at *;dsimp! [id];refine ⟨by decide,fun p2 hp2=>?_⟩;obtain ⟨vs,hvs⟩:∃ vs:List Str,vs=(["a", "b", "c", "d", "e", "f", "g", "h"]:List Str):=⟨_,rfl⟩;rw [show [D.str "a",D.str "b",D.str "c",D.str "d",D.str "e",D.str "f",D.str "g",D.str "h"]=vs.map D.str by rw [hvs];rfl];have hvl:smW vs=16:=by rw [hvs];rfl
  have hv:∀ x ∈ vs,fine x:=by rw [hvs];exact fun x hx=>(u86 (n:=1) (by decide) x hx).2
  clear hvs;have n2:=A1.at_.ne hp2
  have A2:PAdv pr G (gup G1 p2 (.lst (vs.map .str))):=A1.grow (Grow.refl.new hp2);have k12:gup G1 p2 (.lst (vs.map .str)) p=some (.lst (us.map .str)):=by rw [u07 (gne k1 hp2)];exact k1
  have k2:gup G1 p2 (.lst (vs.map .str)) p2=some (.lst (vs.map .str)):=u01;generalize gup G1 p2 (.lst (vs.map .str))=G2 at *;dsimp! [id];refine u25 T A2.at_ (by decide) (by decide) fun d G3 d0 d8 A3=>?_
  have k13:=A3.kp _ _ n1 k12;have k23:=A3.kp _ _ n2 k2;have A03:=A2.trans A3;simp! [k23,u08];intro p4 hp4;obtain ⟨m,rfl⟩:∃ m:Nat,d=(m:Int):=⟨d.toNat,by omega⟩;rw [show (1:Int)+(m:Int)=((1+m:Nat):Int) by omega,wm3,<- List.map_take];have n4:=A3.at_.ne hp4
  have A4:PAdv pr G (gup G3 p4 (.lst ((vs.take (1+m)).map .str))):=A03.grow (Grow.refl.new hp4);have k14:gup G3 p4 (.lst ((vs.take (1+m)).map .str)) p=some (.lst (us.map .str)):=by rw [u07 (gne k13 hp4)];exact k13
  have k4:gup G3 p4 (.lst ((vs.take (1+m)).map .str)) p4=some (.lst ((vs.take (1+m)).map .str)):=u01;generalize gup G3 p4 (.lst ((vs.take (1+m)).map .str))=G4 at *;have hsm:smW (vs.take (1+m))<=16:=by
   have:=ur1 (vs.take (1+m)) (vs.drop (1+m));rw [List.take_append_drop] at this;omega
  obtain ⟨f1,f2,f3⟩:=uv6 (ws:=vs.take (1+m)) (by omega) fun w hw=>hv w (List.mem_of_mem_take hw)
  refine ⟨_,p4,vs.take (1+m),rfl,rfl,by rw [k4];rfl,f1,f2,?_⟩;have hj:okS 30 ("boxes " ++ jn " " (vs.take (1+m))):=u41 (uc6 (u72 (n:=6) (by decide)) f3) (by omega);refine ut5 (Nat.le_trans (m:=30) (by (have e6:(Str.ofString "boxes ").length=6:=(by decide));have:=f3.1;omega) (by decide)) ?_;generalize Str.ofString "boxes " ++ jn " " (vs.take (1+m))=bx at *;simp! [id];refine (show ∀ (q:DK),(∀ (x:Str) (G':Gp),PAdv pr G4 G'->okS 30 x->q (.str x) G')->∃ R,u85 T [.ref pr,.int 7] G4 R /\ ∀ d G',R d G'->xIx (.ref p) d G' q from fun q k=>by
   have:=ux4 T A4.at_ n1 k14 (B:=30) (by omega) (by omega) hu k
   rw [hul] at this;exact this) _ fun x G5 A5 ox=>?_
  have A05:=A4.trans A5;refine ⟨by decide,fun p6 hp6=>?_⟩;have n6:=A05.at_.ne hp6
  have A6:PAdv pr G (gup G5 p6 (.lst [.str bx,.str x])):=A05.grow (Grow.refl.new hp6);have k6:gup G5 p6 (.lst [.str bx,.str x]) p6=some (.lst ([bx,x].map .str)):=u01;generalize gup G5 p6 (.lst [.str bx,.str x])=G6 at *;refine ux4 T A6.at_ n6 k6 (B:=30) (by simp) (by simp) (fun w hw=>by
   simp only [List.mem_cons,List.mem_nil_iff,or_false] at hw
   rcases hw with rfl | rfl
   ·exact hj
   ·exact ox) fun y G7 A7 oy=>?_
  have A07:=A6.trans A7;have kl7:=A07.kp _ _ nl kl;have hz:y.length<=sizeLine:=Nat.le_trans oy.1 (by decide);simp! [id];dsimp! [id];refine ⟨y,rfl,hz,?_⟩;simp! [id];obtain ⟨a,ha,ea⟩:∃ a:Nat,a<=1 /\ (if decide (Txt.slice y none (some 5)=Str.ofString "boxes")=true then (1:Int) else 0)=(a:Int):=by
   split
   ·exact ⟨1,by decide,rfl⟩
   ·exact ⟨0,by decide,rfl⟩
  rw [ea];dsimp! [kl7,u08];intro q1 e1;rw [show cutD (ls.map D.str) none (some (a:Int))=(ls.take a).map D.str by rw [wm3,List.map_take]];have A8:PAdv pr G (gup G7 q1 (.lst ((ls.take a).map .str))):=A07.grow (Grow.refl.new e1);have k8:gup G7 q1 (.lst ((ls.take a).map .str)) q1=some (.lst ((ls.take a).map .str)):=u01;generalize gup G7 q1 (.lst ((ls.take a).map .str))=G8 at *;refine ⟨by decide,fun q2 e2=>?_⟩;have A9:PAdv pr G (gup G8 q2 (.lst [.str y])):=A8.grow (Grow.refl.new e2);have k9:gup G8 q2 (.lst [.str y]) q1=some (.lst ((ls.take a).map .str)):=by rw [u07 (gne k8 e2)];exact k8
  have k9':gup G8 q2 (.lst [.str y]) q2=some (.lst ([y].map .str)):=u01;generalize gup G8 q2 (.lst [.str y])=G9 at *;have hll:=O.b;refine ue7 k9 k9' (by rw [List.length_map,List.length_map,List.length_take,List.length_singleton];omega) fun q3 e3=>?_
  rw [<- List.map_append];have A10:PAdv pr G (gup G9 q3 (.lst ((ls.take a++[y]).map .str))):=A9.grow (Grow.refl.new e3);have k10:gup G9 q3 (.lst ((ls.take a++[y]).map .str)) q3=some (.lst ((ls.take a++[y]).map .str)):=u01;generalize gup G9 q3 (.lst ((ls.take a++[y]).map .str))=G10 at *;have kl10:=A10.kp _ _ nl kl;simp! [kl10,u08];intro q4 e4;rw [show cutD (ls.map D.str) (some ((a:Int)+1)) none=(ls.drop (a+1)).map D.str by rw [List.map_drop];exact ui3 (n:=a+1)];have A11:PAdv pr G (gup G10 q4 (.lst ((ls.drop (a+1)).map .str))):=A10.grow (Grow.refl.new e4);have k11:gup G10 q4 (.lst ((ls.drop (a+1)).map .str)) q3=some (.lst ((ls.take a++[y]).map .str)):=by rw [u07 (gne k10 e4)];exact k10
  have k11':gup G10 q4 (.lst ((ls.drop (a+1)).map .str)) q4=some (.lst ((ls.drop (a+1)).map .str)):=u01;generalize gup G10 q4 (.lst ((ls.drop (a+1)).map .str))=G11 at *;refine ue7 k11 k11' (by simp only [List.length_map,List.length_append,List.length_take,List.length_drop,List.length_singleton];omega) fun q5 e5=>?_
  rw [<- List.map_append];refine post q5 (ls.take a++[y]++ls.drop (a+1)) _ (A11.grow (Grow.refl.new e5)) ⟨fun z hz=>?_,?_,?_⟩ u01 (A11.at_.ne e5)
  ·rcases List.mem_append.mp hz with hz | hz
   ·rcases List.mem_append.mp hz with hz | hz
    ·exact ⟨(O.l z (List.mem_of_mem_take hz)).1,by have:=(O.l z (List.mem_of_mem_take hz)).2;omega⟩
    ·rw [List.mem_singleton.mp hz];exact ⟨oy.2,by have:=oy.1;omega⟩
   ·exact ⟨(O.l z (List.mem_of_mem_drop hz)).1,by have:=(O.l z (List.mem_of_mem_drop hz)).2;omega⟩
  ·simp only [List.length_append,List.length_take,List.length_drop,List.length_singleton];omega
  ·simp only [List.length_append,List.length_take,List.length_drop,List.length_singleton];omega
theorem wh6 {n:Nat} (G_jat:Ok P w mg base n T.f_jat (u85 T)) (G_jbd:Ok P w mg base n T.f_jbd (vl1 T)) (G_jax:Ok P w mg base n T.f_jax (vl5 T)) (G_jal:Ok P w mg base n T.f_jal (w67 T)):Ok P w mg base (n+1) T.f_jaj (w69 T):=by
 refine u19 T.f_jaj sc_jaj (fun ds G R h=>?_) (fun cdv A outer s H E hr =>
   (u03 (u12 0 sc_jaj.nd (u14 ut7 rfl T.b_list (by decide) (u00 (ev 0) u02)))
   (u03 (s_if (u11 (x_eq hr) (ec T.f_jat T.g_law_next G_jat hr (u00 (ev 1) (u00 u04 u02))) u04 (nomark _)) (u06 (u17 (ec T.f_jal T.g_law_headed G_jal hr (u00 (ev 0) (u00 (ev 1) u02))))) u18)
   (u03 (u12 2 sc_jaj.nd (ec T.f_jat T.g_law_next G_jat hr (u00 (ev 1) (u00 (u10 u28 rfl T.b_len (by decide) (u00 (ev 0) u02)) u02))))
   (u03 (u12 3 sc_jaj.nd (u62 (e_ix x_ix (ev 0) (ev 2)) (u00 u09 u02)))
   (u03 (u12 4 sc_jaj.nd (ec T.f_jat T.g_law_next G_jat hr (u00 (ev 1) (u00 (u10 u28 rfl T.b_len (by decide) (u00 (ev 3) u02)) u02))))
   (u03 (u12 5 sc_jaj.nd (ec T.f_jat T.g_law_next G_jat hr (u00 (ev 1) (u00 u04 u02))))
   (u03 (s_if (u11 (x_eq hr) (ev 5) u04 (nomark _)) (u06 (u26 (va0 (ev 3) (u00 (ev 4) u02)))) (u06 (s_if (u11 (x_eq hr) (ev 5) u04 (nomark _)) (u06 (u26 (ub6 (ev 3) (u00 (ev 4) (u00 (ec T.f_jbd T.g_law_word G_jbd hr (u00 (ev 1) (u00 (e_ix x_ix (ev 3) (ev 4)) u02))) u02))))) (u06 (s_if (u11 (x_lt) (ev 5) u04 (nomark _)) (u06 (un8 (ec T.f_jbd T.g_law_word G_jbd hr (u00 (ev 1) (u00 (e_ix x_ix (ev 3) (ev 4)) u02))) (us1 (ev 3) (ev 4) uq4))) (u06 (s_if (u11 (x_eq hr) (ev 5) u04 (nomark _)) (u06 (u26 (ub6 (ev 3) (u00 (e_ix x_ix (u21 (u00 (ev 4) (u00 u04 (u00 (u10 u28 rfl T.b_len (by decide) (u00 (ev 3) u02)) u02)))) (ec T.f_jat T.g_law_next G_jat hr (u00 (ev 1) (u00 u04 u02)))) (u00 u09 u02))))) u18)))))))
   (u03 (un8 (u70 u09 (u00 (ev 3) u02)) (us1 (ev 0) (ev 2) uq4))
   (u03 (s_if (t_w (w_and (u11 (x_eq hr) (ev 5) u04 (nomark _)) (u50 (u11 (x_gt) (u10 u28 rfl T.b_len (by decide) (u00 (ev 0) u02)) u04 (nomark _))))) (u06 (u26 (va0 (ev 0) (u00 (ev 2) u02)))) (u06 (s_if (u11 (x_eq hr) (ev 5) u04 (nomark _)) (u06 (u26 (ub6 (ev 0) (u00 (ev 2) (u00 (e_ix x_ix (ev 0) (ev 2)) u02))))) (u06 (s_if (u11 (x_eq hr) (ev 5) u04 (nomark _)) (u06 (u26 (ub6 (ev 0) (u00 (ev 2) (u00 (va0 (ev 0) (u00 (u10 w75 rfl T.b_min (by decide) (u00 (u13 u24 (ev 2) u04) (u00 (u13 ux6 (u10 u28 rfl T.b_len (by decide) (u00 (ev 0) u02)) u04) u02))) u02)) u02))))) (u06 (s_if (t_w (w_or (u11 (x_eq hr) (ev 5) u04 (nomark _)) (u94 (u11 (x_eq hr) (ev 5) u04 (nomark _))))) (u06 (u26 (ub6 (ev 0) (u00 (u13 u24 (ev 2) (ec T.f_jat T.g_law_next G_jat hr (u00 (ev 1) (u00 u04 u02)))) (u00 (ec T.f_jax T.g_law_row G_jax hr (u00 (ev 1) u02)) u02))))) (u06 (s_if (u11 (x_eq hr) (ev 5) u04 (nomark _)) (u06 (u26 (u31 (ev 0) (u00 u09 u02)))) u18)))))))))
   (u06 (u17 (ev 0))))))))))))) (fun ds G R h=>?_)
 ·obtain ⟨la,pr,n,B,ls,rfl,_⟩:=h;rfl
 ·obtain ⟨la,pr,n,B,ls,rfl,hP,kl,O,hn,hB,nl,post⟩:=h
  have hlb:=O.b;have hla:=O.a;simp! [kl,u08];intro p hp;have n1:=hP.ne hp;have A1:PAdv pr G (gup G p (.lst (ls.map .str))):=(PAdv.refl hP).grow (Grow.refl.new hp);have k1:gup G p (.lst (ls.map .str)) p=some (.lst (ls.map .str)):=u01;generalize gup G p (.lst (ls.map .str))=G1 at *;dsimp! [id];refine u25 T A1.at_ (by decide) (by decide) fun d G2 d0 d8 A2=>?_
  have k2:=A2.kp _ _ n1 k1;have A02:=A1.trans A2;simp! [id]
  by_cases h1:d=1
  ·rw [if_pos (decide_eq_true h1)]
   exact u15 (post:=fun d G'=>∃ q ls',d=.ref q /\ PAdv pr G2 G' /\ LnsOk n (B+30) ls' /\ G' q=some (.lst (ls'.map .str)) /\ q ≠ pr) (fun R h=>⟨p,pr,n,B,ls,rfl,A2.at_,k2,O,hn,by omega,n1,fun q ls' G' a b c e=>h _ _ ⟨q,ls',rfl,a,b,c,e⟩⟩) fun d G' ⟨q,ls',e,a,b,c,e2⟩=>by
    subst e;exact post q ls' G' (A02.trans a) ⟨fun x hx=>⟨(b.l x hx).1,by have:=(b.l x hx).2;omega⟩,b.a,by have:=b.b;omega⟩ c e2
  rw [if_neg (by rw [decide_eq_false h1];decide)];dsimp! [k2,u08,List.length_map];refine u25 T A2.at_ (by omega) (by omega) fun at0 G3 a0 a1 A3=>?_
  obtain ⟨a,rfl⟩:∃ a:Nat,at0=(a:Int):=⟨at0.toNat,by omega⟩;have ha:a < ls.length:=by omega
  have k3:=A3.kp _ _ n1 k2;have A03:=A02.trans A3;obtain ⟨x,ex⟩:∃ x,ls[a]?=some x:=⟨_,List.getElem?_eq_getElem ha⟩;have hx:=O.l x (List.mem_of_getElem? ex);have ei:atI (ls.map D.str) (a:Int)=some (.str x):=u56 (by rw [List.getElem?_map,ex];rfl);simp! [id];dsimp! [k3,u08,ei];have hsl:=uc2 u95 x;refine spA (Nat.le_trans hx.2 (Nat.le_trans hB (by decide))) rfl (by omega) fun pw hpw=>?_
  have nw:=A03.at_.ne hpw
  have fw:G pw=none:=A03.fresh hpw nw;have npw:p ≠ pw:=gne k3 hpw;have fp:G p=none:=hp;have A4:PAdv pr G (gup G3 pw (.lst ((Txt.split x " ").map .str))):=A03.grow (Grow.refl.new hpw);have k4:gup G3 pw (.lst ((Txt.split x " ").map .str)) p=some (.lst (ls.map .str)):=by rw [u07 npw];exact k3
  have w4:gup G3 pw (.lst ((Txt.split x " ").map .str)) pw=some (.lst ((Txt.split x " ").map .str)):=u01;generalize gup G3 pw (.lst ((Txt.split x " ").map .str))=G4 at *;have hwne:=ub0 x " ";have hsm:smW (Txt.split x " ")<=B+1:=Nat.le_trans (v29 x) (by omega);have hwf:∀ w ∈ Txt.split x " ",fine w:=fun w hw=>uy1 hx.1 hw
  have hwl:(Txt.split x " ").length<=B+1:=by omega
  generalize Txt.split x " " = ws at *;have hw1:1<=ws.length:=List.length_pos_iff.mpr hwne;dsimp! [w4,u08,List.length_map];refine u25 T A4.at_ (by omega) (by omega) fun s0 G5 s1 s2 A5=>?_
  obtain ⟨s,rfl⟩:∃ s:Nat,s0=(s:Int):=⟨s0.toNat,by omega⟩;have hs:s < ws.length:=by omega
  have A05:=A4.trans A5;have k5:=A5.kp _ _ n1 k4;have w5:=A5.kp _ _ nw w4;simp! [id];dsimp! [id];refine u25 T A05.at_ (by decide) (by decide) fun wy G6 y1 y2 A6=>?_
  have A06:=A05.trans A6;have k6:=A6.kp _ _ n1 k5;have w6:=A6.kp _ _ nw w5;obtain ⟨y,ey⟩:∃ y,ws[s]?=some y:=⟨_,List.getElem?_eq_getElem hs⟩;have hym:=List.mem_of_getElem? ey;have hyf:=hwf y hym;have hyl:y.length<=B+1:=Nat.le_trans (vs9 hym) hsm;have ej:atI (ws.map D.str) (s:Int)=some (.str y):=u56 (by rw [List.getElem?_map,ey];rfl);simp! [id];dsimp! [id];generalize hN:Go (dSeq _ _ _)=N;have rest:∀ (vs:List Str) (G7:Gp),smW vs<=3 * B+15->(∀ w ∈ vs,fine w)->PAdv pr G G7->G7 p=some (.lst (ls.map .str))->G7 pw=some (.lst (vs.map .str))->N [some (.ref p),some (.ref pr),some (.int (a:Int)),some (.ref pw),some (.int (s:Int)),some (.int wy)] G7:=by
   intro vs G7 hvs hvf A7 k7 w7;rw [<- hN];clear hN;dsimp! [id];obtain ⟨f1,f2,f3⟩:=uv6 (ws:=vs) (by omega) hvf;refine ⟨_,pw,vs,rfl,rfl,by rw [w7];rfl,f1,f2,?_⟩;have f4:okS (3 * B+30) (jn " " vs):=u41 f3 (by omega);generalize jn (Str.ofString " ") vs=x2 at *;have e7:ixN (ls.map D.str).length (a:Int)=some a:=v82 (by rw [List.length_map];exact ha);simp! [k7,e7];rw [<- List.map_set];have A8:PAdv pr G (gup G7 p (.lst ((ls.set a x2).map .str))):=A7.own fp n1;have k8:gup G7 p (.lst ((ls.set a x2).map .str)) p=some (.lst ((ls.set a x2).map .str)):=u01;generalize gup G7 p (.lst ((ls.set a x2).map .str))=G8 at *;have hl2:(ls.set a x2).length=ls.length:=List.length_set;have hall:∀ z ∈ ls.set a x2,fine z /\ z.length<=3 * B+30:=fun z hz=>by
    rcases List.mem_or_eq_of_mem_set hz with h | h
    ·exact ⟨(O.l z h).1,by have:=(O.l z h).2;omega⟩
    ·rw [h];exact ⟨f4.2,f4.1⟩
   generalize ls.set a x2=ms at *;have ha2:a < ms.length:=by omega
   dsimp! [id];generalize hM:Go (dRet _ _)=M;have fin:∀ (zs:List Str) (G9:Gp),(∀ z ∈ zs,fine z /\ z.length<=3 * B+30)->1<=zs.length->zs.length<=n+1->PAdv pr G G9->G9 p=some (.lst (zs.map .str))->M [some (.ref p),some (.ref pr),some (.int (a:Int)),some (.ref pw),some (.int (s:Int)),some (.int wy)] G9:=by
    intro zs G9 hz h1 h2 A9 k9;rw [<- hM];clear hM;dsimp! [id];exact post p zs G9 A9 ⟨hz,h1,h2⟩ k9 n1
   have ins:∀ (zs:List Str) (k:Nat) (v:Str),(∀ z ∈ zs,fine z /\ z.length<=3 * B+30)->fine v /\ v.length<=3 * B+30->∀ z ∈ zs.take k++v::zs.drop k,fine z /\ z.length<=3 * B+30:=fun zs k v hz hv z h=>by
    rcases List.mem_append.mp h with h | h
    ·exact hz z (List.mem_of_mem_take h)
    rcases List.mem_cons.mp h with h | h
    ·rw [h];exact hv
    ·exact hz z (List.mem_of_mem_drop h)
   have inl:∀ (zs:List Str) (k:Nat) (v:Str),(zs.take k++v::zs.drop k).length=zs.length+1:=fun zs k v=>by
    have:=congrArg List.length (List.take_append_drop k zs);rw [List.length_append] at this ⊢;rw [List.length_cons];omega
   obtain ⟨xa,exa⟩:∃ xa,ms[a]?=some xa:=⟨_,List.getElem?_eq_getElem ha2⟩;have hxa:=hall xa (List.mem_of_getElem? exa);have eia:atI (ms.map D.str) (a:Int)=some (.str xa):=u56 (by rw [List.getElem?_map,exa];rfl);have keep:M [some (.ref p),some (.ref pr),some (.int (a:Int)),some (.ref pw),some (.int (s:Int)),some (.int wy)] G8:=fin ms G8 hall (by omega) (by omega) A8 k8;have row:∃ R,u85 T [D.ref pr,D.int 2] G8 R /\ ∀ (d:D) (G':Gp),R d G'->xAdd (D.int (a:Int)) d G' fun x G1=>∃ R,vl5 T [D.ref pr] G1 R /\ ∀ (d:D) (G':Gp),R d G'->ug0 (D.ref p) [x,d] G' fun x G1=>M [some (.ref p),some (.ref pr),some (.int (a:Int)),some (.ref pw),some (.int (s:Int)),some (.int wy)] G1:=by
    refine u25 T A8.at_ (by decide) (by decide) fun d G9 d1 d2 A9=>?_
    have k9:=A9.kp _ _ n1 k8;obtain ⟨k,rfl⟩:∃ k:Nat,d=(k:Int):=⟨d.toNat,by omega⟩;simp! [id];rw [show (a:Int)+(k:Int)=((a+k:Nat):Int) by omega];refine u15 (post:=fun d G'=>∃ x:Str,d=.str x /\ PAdv pr G9 G' /\ x.length<=20 /\ fine x) (fun R h=>⟨pr,rfl,A9.at_,fun x G' a b c=>h _ _ ⟨x,rfl,a,b,c⟩⟩) ?_;rintro d G10 ⟨x3,rfl,A10,l3,f3'⟩;have k10:=A10.kp _ _ n1 k9;refine v88 k10 (by omega) (by omega) ?_;exact fin _ _ (ins _ _ _ hall ⟨f3',by omega⟩) (by rw [inl];omega) (by rw [inl];omega) (((A8.trans A9).trans A10).own fp n1) u01
   have hle:∀ k,k < ms.length->(ms.eraseIdx k).length=ms.length - 1:=fun k hk=>List.length_eraseIdx_of_lt hk
   simp! [k8,u08,List.length_map,eia];have nf:∀ {v c:Int},v ≠ c->¬ decide (v=c)=true:=fun h=>by rw [decide_eq_false h];decide
   by_cases h6:wy=6
   ·by_cases h1:1 < ms.length
    ·rw [if_pos (decide_eq_true h6),if_pos (decide_eq_true (by omega))]
     refine vx8 k8 ha2 (by omega) fun z hz=>?_
     have:=hle a ha2;exact fin _ _ (fun z hz=>hall z (List.mem_of_mem_eraseIdx hz)) (by omega) (by omega) (A8.own fp n1) u01
    ·rw [if_pos (decide_eq_true h6),if_neg (by rw [decide_eq_false (by omega)];decide),if_neg (nf (by omega)),if_neg (nf (by omega)),if_neg (nf (by omega)),if_neg (nf (by omega)),if_neg (nf (by omega))]
     exact keep
   rw [if_neg (nf h6)]
   by_cases h7:wy=7
   ·rw [if_pos (decide_eq_true h7)]
    refine v88 k8 (by omega) (by omega) ?_;exact fin _ _ (ins _ _ _ hall hxa) (by rw [inl];omega) (by rw [inl];omega) (A8.own fp n1) u01
   rw [if_neg (nf h7)]
   by_cases h8:wy=8
   ·rw [if_pos (decide_eq_true h8)]
    obtain ⟨k,hk,ek⟩:∃ k:Nat,k < ms.length /\ (if (ms.length:Int) - 1 < (a:Int)+1 then (ms.length:Int) - 1 else (a:Int)+1)=(k:Int):=by
     split
     ·exact ⟨ms.length - 1,by omega,by omega⟩
     ·exact ⟨a+1,by omega,by omega⟩
    rw [ek];have:=hle k hk;refine vx8 k8 hk (by omega) fun z hz=>?_
    refine v88 u01 (by omega) (by omega) ?_;rw [u54];exact fin _ _ (ins _ _ _ (fun z hz=>hall z (List.mem_of_mem_eraseIdx hz)) (hall z (List.mem_of_getElem? hz))) (by rw [inl];omega) (by rw [inl];omega) (A8.own fp n1) u01
   rw [if_neg (nf h8)]
   by_cases h9:wy=9
   ·rw [if_pos (decide_eq_true h9)]
    exact row
   rw [if_neg (nf h9)]
   by_cases h10:wy=10
   ·rw [if_pos (decide_eq_true h10)]
    exact row
   rw [if_neg (nf h10)]
   by_cases h11:wy=11
   ·rw [if_pos (decide_eq_true h11)]
    refine ⟨Nat.lt_of_le_of_lt (m:=1000) (by omega) (by decide),?_⟩;refine fin (ms++[Str.ofString ""]) _ (fun z hz=>?_) (by rw [List.length_append];omega) (by rw [List.length_append,List.length_singleton];omega) (A8.own fp n1) (by rw [u01,List.map_append];rfl)
    rcases List.mem_append.mp hz with h | h
    ·exact hall z h
    ·rw [List.mem_singleton.mp h];exact ⟨(u72 (n:=0) (by decide)).2,Nat.zero_le _⟩
   rw [if_neg (nf h11)];exact keep
  have nf:∀ {v c:Int},v ≠ c->¬ decide (v=c)=true:=fun h=>by rw [decide_eq_false h];decide
  have word:∀ q:DK,(∀ (x:Str) (G':Gp),PAdv pr G6 G'->x.length<=2 * B+11->fine x->q (.str x) G')->∃ R,vl1 T [.ref pr,.str y] G6 R /\ ∀ d G',R d G'->q d G':=fun q f =>
   u15 (post:=fun d G'=>∃ x:Str,d=.str x /\ PAdv pr G6 G' /\ x.length<=2 * y.length+9 /\ fine x) (fun R h=>⟨pr,y,rfl,A6.at_,by omega,hyf,fun x G' a b c=>h _ _ ⟨x,rfl,a,b,c⟩⟩) fun d G' ⟨x,e,a,b,c⟩=>by subst e;exact f x G' a (by omega) c
  have insf:∀ (k:Nat) (v:Str),fine v->∀ w ∈ ws.take k++v::ws.drop k,fine w:=fun k v hv w h=>by
   rcases List.mem_append.mp h with h | h
   ·exact hwf w (List.mem_of_mem_take h)
   rcases List.mem_cons.mp h with h | h
   ·rw [h];exact hv
   ·exact hwf w (List.mem_of_mem_drop h)
  simp! [w6,u08,List.length_map,ej]
  by_cases h0:wy=0
  ·rw [if_pos (decide_eq_true h0)]
   refine vx8 w6 hs (by omega) fun z hz=>?_
   exact rest _ _ (Nat.le_trans (un4 _ _) (by omega)) (fun w hw=>hwf w (List.mem_of_mem_eraseIdx hw)) (A06.own fw nw) (by rw [u07 npw];exact k6) u01
  rw [if_neg (nf h0)]
  by_cases h1':wy=1
  ·rw [if_pos (decide_eq_true h1')]
   refine word _ fun x3 G7 A7 l3 f3=>?_
   have k7:=A7.kp _ _ n1 k6;have w7:=A7.kp _ _ nw w6;refine v88 w7 (by omega) (by omega) ?_;exact rest _ _ (by rw [v31];omega) (insf _ _ f3) ((A06.trans A7).own fw nw) (by rw [u07 npw];exact k7) u01
  rw [if_neg (nf h1')]
  by_cases h5:wy < 5
  ·rw [if_pos (decide_eq_true h5)]
   refine word _ fun x3 G7 A7 l3 f3=>?_
   have k7:=A7.kp _ _ n1 k6;have w7:=A7.kp _ _ nw w6;have e7:ixN (ws.map D.str).length (s:Int)=some s:=v82 (by rw [List.length_map];exact hs);simp! [w7,e7];rw [<- List.map_set];refine rest _ _ (Nat.le_trans (v30 _ _ _) (by omega)) (fun w hw=>?_) ((A06.trans A7).own fw nw) (by rw [u07 npw];exact k7) u01
   rcases List.mem_or_eq_of_mem_set hw with h | h
   ·exact hwf w h
   ·rw [h];exact f3
  rw [if_neg (by rw [decide_eq_false h5];decide)]
  by_cases h5':wy=5
  ·rw [if_pos (decide_eq_true h5')]
   refine ⟨by decide,fun p7 hp7=>?_⟩;have n7:=A06.at_.ne hp7
   have A7:PAdv pr G (gup G6 p7 (.lst [D.int (s:Int),D.int 0,D.int (ws.length:Int)])):=A06.grow (Grow.refl.new hp7);have k7:gup G6 p7 (.lst [D.int (s:Int),D.int 0,D.int (ws.length:Int)]) p=some (.lst (ls.map .str)):=by rw [u07 (gne k6 hp7)];exact k6
   have w7:gup G6 p7 (.lst [D.int (s:Int),D.int 0,D.int (ws.length:Int)]) pw=some (.lst (ws.map .str)):=by rw [u07 (gne w6 hp7)];exact w6
   have z7:gup G6 p7 (.lst [D.int (s:Int),D.int 0,D.int (ws.length:Int)]) p7=some (.lst ([s,0,ws.length].map fun k:Nat=>D.int (k:Int))):=u01;generalize gup G6 p7 (.lst [D.int (s:Int),D.int 0,D.int (ws.length:Int)])=G7 at *;refine u25 T A7.at_ (by decide) (by decide) fun d G8 d1 d2 A8=>?_
   have k8:=A8.kp _ _ n1 k7;have w8:=A8.kp _ _ nw w7;have z8:=A8.kp _ _ n7 z7;obtain ⟨v,hv,ev⟩:=at_getD (xs:=[s,0,ws.length].map fun k:Nat=>D.int (k:Int)) (v:=d) d1 (by simp;omega);obtain ⟨k,hk,rfl⟩:=List.mem_map.mp hv;have hk2:k<=ws.length:=by
    simp only [List.mem_cons,List.mem_nil_iff,or_false] at hk;omega
   have ev':atI [D.int (s:Int),D.int ((0:Nat):Int),D.int (ws.length:Int)] d=some (.int (k:Int)):=ev;simp! [z8,u78,ev'];refine v88 w8 hk2 (by omega) ?_;exact rest _ _ (by rw [v31];show _+0+1<=_;omega) (insf _ _ (u72 (n:=0) (by decide)).2) ((A7.trans A8).own fw nw) (by rw [u07 npw];exact k8) u01
  rw [if_neg (nf h5')];exact rest ws G6 (by omega) hwf A06 k6 w6
theorem wf7 {n:Nat} (G_jbl:OkX P w mg base n T.f_jbl (vc4 T)):Ok P w mg base (n+1) T.f_jbc (vl2 T):=by
 refine u19 T.f_jbc sc_jbc (fun ds G R h=>?_) (fun cdv A outer s H E hr =>
   (u03 (u12 1 sc_jbc.nd u96)
   (u03 (wo5 (vz1 (ecT T.f_jbl T.g_read G_jbl hr (u00 (ev 0) u02))) (h_as (K:=K) T.e_LitterError.C 2 T.e_BadText.m T.e_BadText.xc (by simp [VM]) sc_jbc.nd (fun _=>(u03 (u12 1 sc_jbc.nd (wl3 (K:=K) T.e_LitterError.C (ev 2)))
   (u03 (u12 3 sc_jbc.nd (ud9 (u10 (vq6 (K:=K) T.e_LitterError.C) rfl T.b_isinstance (by decide) (u00 (ev 2) (u00 (up0 T.e_LitterError.m) u02))) (ud9 (u10 (vq6 (K:=K) T.e_LitterError.C) rfl T.b_isinstance (by decide) (u00 (ev 2) (u00 (vp8 (T := "ValueError") T.b_ValueError (by decide)) u02))) (ud8 (wq7 (u10 vd1 rfl T.b_isinstance (by decide) (u00 (ev 1) (u00 (vp8 (T := "bool") T.b_bool (by decide)) u02))))))))
   (u06 (s_if (t_w (w_or (ua8 (ua0 (ev 3))) (u94 (ua0 (u10 (vq6 (K:=K) T.e_LitterError.C) rfl T.b_isinstance (by decide) (u00 (ev 2) (u00 (u77 (u00 (up0 T.e_BadCode.m) (u00 (up0 T.e_BadCuts.m) (u00 (up0 T.e_BadPlan.m) (u00 (up0 T.e_NoBox.m) (u00 (up0 T.e_NoRow.m) (u00 (up0 T.e_TooWide.m) (u00 (up0 T.e_TwiceNamed.m) u02)))))))) u02))))))) (u06 (u12 1 sc_jbc.nd (e_un ud5 u04))) u18))))) wq6))
   (u06 (u17 (ev 1)))))) (fun ds G R h=>?_)
 ·obtain ⟨t,rfl,_⟩:=h;rfl
 ·obtain ⟨t,rfl,O,post⟩:=h
  simp! [id];dsimp! [id];refine ue6 (post:=fun d G'=>fwT (Txt.split t "\n")=none /\ Grow G G') (fun R h=>⟨t,rfl,O,(fun e W bs rs _ _ _ _ _ _ _ G' g=>h _ _ ⟨e,g⟩),fun i hi G1 g1=>?_⟩) ?_
  ·refine ⟨T.e_BadText.xc,?_⟩
   rw [hi] at post;simp! [id];intro a2 h2;have g12:Grow G (gup G1 a2 (DO.exc T.e_BadText.C [(Str.ofString "at",D.int (i:Int))])):=g1.new h2;have k2:gup G1 a2 (DO.exc T.e_BadText.C [(Str.ofString "at",D.int (i:Int))]) a2=some (DO.exc T.e_BadText.C [(Str.ofString "at",D.int (i:Int))]):=u01;generalize gup G1 a2 (DO.exc T.e_BadText.C [(Str.ofString "at",D.int (i:Int))])=G2 at *;simp! [k2,List.lookup_cons,beq_self_eq_true];have lx:xcIn K T.e_BadText.C (Value.ref T.e_LitterError.C::VM)=true:=T.e_BadText.xc;refine ⟨lx,T.xa_BadText,?_⟩;dsimp! [k2];refine ⟨lx,T.e_BadText.x,⟨_,T.e_LitterError.xc⟩,lx,T.e_BadText.x,.inr (.inr (.inl trivial)),?_⟩;rw [show (!subK "int" "bool")=true from rfl];dsimp! [k2];refine ⟨by decide,lx,T.e_BadText.x,fun c hc=>?_,?_⟩
   ·simp only [List.mem_cons,List.mem_nil_iff,or_false] at hc
    rcases hc with rfl | rfl | rfl | rfl | rfl | rfl | rfl
    ·exact ⟨_,T.e_BadCode.xc⟩
    ·exact ⟨_,T.e_BadCuts.xc⟩
    ·exact ⟨_,T.e_BadPlan.xc⟩
    ·exact ⟨_,T.e_NoBox.xc⟩
    ·exact ⟨_,T.e_NoRow.xc⟩
    ·exact ⟨_,T.e_TooWide.xc⟩
    ·exact ⟨_,T.e_TwiceNamed.xc⟩
   have eX:([T.e_BadCode.C,T.e_BadCuts.C,T.e_BadPlan.C,T.e_NoBox.C,T.e_NoRow.C,T.e_TooWide.C,T.e_TwiceNamed.C].any (isX T.e_BadText.C T.e_LitterError.C))=false:=by
    simp only [List.any_cons,List.any_nil,ua5 T.ne_BadText_BadCode T.e_BadCode.ne,ua5 T.ne_BadText_BadCuts T.e_BadCuts.ne,ua5 T.ne_BadText_BadPlan T.e_BadPlan.ne,ua5 T.ne_BadText_NoBox T.e_NoBox.ne,ua5 T.ne_BadText_NoRow T.e_NoRow.ne,ua5 T.ne_BadText_TooWide T.e_TooWide.ne,ua5 T.ne_BadText_TwiceNamed T.e_TwiceNamed.ne];rfl
   rw [eX];simp! [id];exact post _ g12
  ·rintro d G1 ⟨e,g1⟩
   rw [e] at post;simp! [id];dsimp! [id];exact post _ g1
theorem we2 {n:Nat} (G_jbs:Ok P w mg base n T.f_jbs (vl0 T)) (G_jbl:OkX P w mg base n T.f_jbl (vc4 T)) (G_jaw:Ok P w mg base n T.f_jaw (v01 T)) (G_jat:Ok P w mg base n T.f_jat (u85 T)) (G_jav:Ok P w mg base n T.f_jav (w64 T)) (G_jar:Ok P w mg base n T.f_jar (w66 T)) (G_jbg:Ok P w mg base n T.f_jbg (w61 T)) (G_jak:Ok P w mg base n T.f_jak (w68 T)) (G_jaj:Ok P w mg base n T.f_jaj (w69 T)) (G_jbc:Ok P w mg base n T.f_jbc (vl2 T)):Ok P w mg base (n+1) T.f_law (w54 T):=by
 refine u19 T.f_law sc_law (fun ds G R h=>?_) (fun cdv A outer s H E hr =>
   (u03 (u12 1 sc_law.nd (ec T.f_jar T.g_law_lines G_jar hr (u00 (ec T.f_jav T.g_law_program G_jav hr (u00 (ev 0) u02)) u02)))
   (u03 (u12 2 sc_law.nd (ec T.f_jaw T.g_law_purse G_jaw hr (u00 (ev 0) (u00 u04 u02))))
   (u03 (u12 3 sc_law.nd (ev 1))
   (u03 (un7 (uv7 rfl T.b_range (u00 (u13 u24 u04 (ec T.f_jat T.g_law_next G_jat hr (u00 (ev 2) (u00 u04 u02)))) u02)) (u35 4 sc_law.nd) (u06 (u12 3 sc_law.nd (ec T.f_jaj T.g_law_changed G_jaj hr (u00 (ev 3) (u00 (ev 2) u02))))))
   (u03 (u12 3 sc_law.nd (u62 (u70 u09 (u00 (ev 3) u02)) (u00 u09 u02)))
   (u03 (u12 5 sc_law.nd (ec T.f_jbg T.g_law_wrong G_jbg hr (u00 (ev 3) u02)))
   (u03 (u12 6 sc_law.nd (u70 u09 (u00 (ev 3) u02)))
   (u03 (s_if (t_w (w_and (u11 (x_lt) (ec T.f_jak T.g_law_deep G_jak hr (u00 (ev 3) u02)) u04 (nomark _)) (u50 (t_w (w_or (u11 (x_ne hr) (ec T.f_jbc T.g_law_told G_jbc hr (u00 (ev 6) u02)) (ev 5) (nomark _)) (u94 (t_w (w_and (u11 (uq5) (ev 5) u96 (nomark _)) (u50 (u11 (x_ne hr) (ec T.f_jbs T.g_show G_jbs hr (u00 (ecN T.f_jbl T.g_read G_jbl hr (u00 (ev 6) u02)) u02)) (ev 6) (nomark _))))))))))) (u06 (u17 e_bl)) u18)
   (u03 (u12 7 sc_law.nd (u70 u09 (u00 (ev 1) u02)))
   (u06 (u17 (ud9 (u55 (uq5) (ec T.f_jbc T.g_law_told G_jbc hr (u00 (ev 7) u02)) u96 (nomark _)) (ud9 (u55 (x_eq hr) (ec T.f_jbs T.g_show G_jbs hr (u00 (ecN T.f_jbl T.g_read G_jbl hr (u00 (ev 7) u02)) u02)) (ev 7) (nomark _)) (ud8 (u55 (x_eq hr) (ec T.f_jbc T.g_law_told G_jbc hr (u00 u09 u02)) u04 (nomark _))))))))))))))))) (fun ds G R h=>?_)
 ·obtain ⟨a,ns,rfl,_⟩:=h;rfl
 ·obtain ⟨a,ns,rfl,ha,hns,post⟩:=h
  simp! [id];refine u15 (post:=fun d G'=>∃ (W:Nat) (bs:List Str) (rs:List Rowp),d=prD W bs rs /\ PrOk W bs rs /\ szL rs<=60 /\ Grow G G') (fun R h=>⟨a,ns,rfl,by rw [ha];rfl,hns,fun W bs rows G' y1 y2 y3 y4 y5 y6 y7 y8 y9 y10 y11=>h _ _ ⟨W,bs,rows,rfl,⟨y1,y2,y3,y4,y5,v21 y2 y5 rows y7,y8,by omega⟩,y10,y11⟩⟩) ?_;rintro d G1 ⟨W,bs,rs,rfl,O,h60,g1⟩;have ha1:=g1.kp _ _ ha;simp! [id];refine u15 (post:=fun d G'=>∃ q,d=.ref q /\ G1 q=none /\ G' q=some (.lst ((prL W bs rs).map .str)) /\ Grow G1 G') (fun R h=>⟨W,bs,rs,rfl,O,fun q G' x y z=>h _ _ ⟨q,rfl,x,y,z⟩⟩) ?_;rintro d G2 ⟨la,rfl,fl,kl,g2⟩;have L0:LnsOk 182 90 (prL W bs rs):=⟨vo5 O,by simp [prL],by
   have:=u99 rs;unfold prL lnsL;rw [List.length_cons,List.length_cons,List.length_map];omega⟩
  have ha2:=g2.kp _ _ ha1;simp! [id];dsimp! [id];refine um7 T (by rw [ha2];rfl) hns (by decide) fun pr G3 f3 P3 g3=>?_
  have kl3:=g3.kp _ _ kl;have nl:la ≠ pr:=gne kl f3;simp! [id];dsimp! [id];dsimp! [id];refine u25 T P3 (by decide) (by decide) fun d G4 d1 d2 A4=>?_
  have kl4:=A4.kp _ _ nl kl3;simp! [id];generalize hN:Go (dSeq _ _ _)=N;refine ⟨⟨by omega,by omega⟩,?_⟩;have ga:∀ {G':Gp},PAdv pr G3 G'->PAdv pr G3 G':=fun h=>h
  refine u61 (fun r σ G'=>∃ (i c n B:Nat) (sp:Addr) (ls:List Str) (v4:Option D),i+c=(1+d).toNat /\ r=rngD (i:Int) c /\ PAdv pr G3 G' /\ G' sp=some (.lst (ls.map .str)) /\ sp ≠ pr /\ LnsOk n B ls /\ n<=182+i /\ (i=0->B<=90) /\ (i=1->B<=300) /\ (i=2->B<=930) /\ B<=2820 /\ σ=[some (D.ref a),some (D.ref la),some (D.ref pr),some (D.ref sp),v4,none,none,none]) ⟨0,_,182,90,la,_,none,by omega,rfl,A4,kl4,nl,L0,Nat.le_refl _,fun _=>Nat.le_refl _,(fun h=>by omega),(fun h=>by omega),by decide,rfl⟩ ?_ ?_
  ·rintro σ G5 ⟨i,c,n,B,sp,ls,v4,ei,e2,A5,k5,np,L5,hn,b0,b1,b2,b3,rfl⟩
   refine ⟨trivial,?_⟩;have kl5:=A5.kp _ _ nl kl3;obtain ⟨tx,es⟩:=w90 L5 (by omega) (by omega);have hlb:=L5.b;rw [<- hN];clear hN;dsimp! [id];refine mjn2 k5 L5 (by omega) (by omega) ?_;simp! [id];refine spN (Nat.le_trans tx.1 (by decide)) es (by omega) fun p6 hp6=>?_
   have k6:gup G5 p6 (.lst (ls.map .str)) p6=some (.lst (ls.map .str)):=u01;have kl6:gup G5 p6 (.lst (ls.map .str)) la=some (.lst ((prL W bs rs).map .str)):=by rw [u07 (gne kl5 hp6)];exact kl5
   generalize gup G5 p6 (.lst (ls.map .str))=G6 at *;have hlx:∀ x ∈ ls,x.length<=5000:=fun x hx=>Nat.le_trans (L5.l x hx).2 (by omega)
   dsimp! [id];refine u15 (post:=fun d G'=>d=owD (fwT ls) /\ Grow G6 G') (fun R h=>⟨p6,ls,rfl,k6,hlx,by omega,(fun z=>by have:=L5.a;rw [z] at this;simp at this),fun G' z=>h _ _ ⟨rfl,z⟩⟩) ?_;rintro d7 G7 ⟨rfl,g7⟩;have k7:=g7.kp _ _ k6;have kl7:=g7.kp _ _ kl6;simp! [id];dsimp! [id];refine mjn2 k7 L5 (by omega) (by omega) ?_;dsimp! [id];generalize hM:Go (dSeq _ _ _)=M;have rest:∀ G8,Grow G7 G8->M [some (D.ref a),some (D.ref la),some (D.ref pr),some (D.ref p6),v4,some (owD (fwT ls)),some (D.str (jn "\n" ls)), none] G8:=by
    intro G8 g8;have kl8:=g8.kp _ _ kl7;rw [<- hM];clear hM;dsimp! [id];obtain ⟨txR, esR⟩:=w90 L0 (by decide) (by decide);have fR:=vf8 O;refine mjn2 kl8 L0 (by decide) (by decide) ?_;dsimp! [id];refine vb5 T txR fun G9 g9=>?_
    rw [esR, fR];simp! [owD];refine vb6 T txR (by rw [esR];exact fR) fun W' bs' rs' G10 y1 y2 y3 y4 y5 y6 y7 g10=>?_
    rw [esR] at y7;have hsame:rs'=rs:=v41 O.t y6 (List.cons.inj (List.cons.inj y7).2).2;have O':PrOk W' bs' rs':=⟨y1, y2, y3, y4, y5, y6, by rw [hsame];exact O.d, by rw [hsame];exact O.s⟩
    ·refine wm6 T O' fun G11 g11=>?_
     have et:prT W' bs' rs'=jn "\n" (prL W bs rs):=by unfold prT;rw [<- y7]
     have et':(prT W' bs' rs'=jn (Str.ofString "\n") (prL W bs rs)) = True := eq_true et;simp! [et'];refine vb5 T (t := Str.ofString "") ⟨by decide, by decide, by decide⟩ fun G12 g12=>?_
     rw [show Txt.split (Str.ofString "") "\n" = [Str.ofString ""] by decide, fw_0 (by rintro ⟨W, _, _, e⟩; exact absurd e (by rw [show Txt.split (Str.ofString "") " " = [Str.ofString ""] by decide];simp))];simp! [owD];exact post _
   refine u93 (v:=.int (dpT ls 0 0:Int)) (G1:=G7) (fun R h=>⟨p6, ls, rfl, k7, hlx, h⟩) ?_;simp! [id]
   by_cases hd:dpT ls 0 0<=5
   ·rw [if_pos (decide_eq_true (by omega))]
    refine vb5 T tx fun G8 g8=>?_
    rw [es];cases ef:fwT ls with
    | some i =>
     rw [ef] at rest;simp! [owD];exact rest _ g8
    | none =>
     rw [ef] at rest;simp! [owD];refine vb6 T tx (by rw [es];exact ef) fun W' bs' rs' G10 y1 y2 y3 y4 y5 y6 y7 g10=>?_
     rw [es] at y7;refine wm6 T (wp0 (by omega) hd y1 y2 y3 y4 y5 y6 y7) fun G11 g11=>?_
     have et':(prT W' bs' rs'=jn (Str.ofString "\n") ls)=True:=eq_true (by unfold prT;rw [<- y7]);simp! [et'];exact rest _ (g8.trans (g10.trans g11))
   ·rw [if_neg (by rw [decide_eq_false (by omega)];decide)]
    exact rest _ Grow.refl
  ·rintro z r σ G5 ⟨i,c,n,B,sp,ls,v4,ei,e2,A5,k5,np,L5,hn,b0,b1,b2,b3,rfl⟩ ih
   cases c with
   | zero=>cases e2
   | succ c =>
    rw [u51] at e2;cases e2;refine ⟨trivial,?_⟩;simp! [id];refine u15 (post:=fun d G'=>∃ q ls',d=.ref q /\ PAdv pr G5 G' /\ LnsOk (n+1) (3 * B+30) ls' /\ G' q=some (.lst (ls'.map .str)) /\ q ≠ pr) (fun R h=>⟨sp,pr,n,B,ls,rfl,A5.at_,k5,L5,by omega,by omega,np,fun q ls' G' a b c e=>h _ _ ⟨q,ls',rfl,a,b,c,e⟩⟩) ?_;rintro d6 G6 ⟨q,ls',rfl,A6,L6,k6,nq⟩;simp! [id];exact ih _ _ ⟨i+1,c,n+1,3 * B+30,q,ls',_,by omega,rfl,A5.trans A6,k6,nq,L6,by omega,(fun h=>by omega),(fun h=>by omega),(fun h=>by omega),by omega,rfl⟩
end
end Law
namespace Law
open PySem PySem.Spec PyProof.Rows L2 L3
def noL:W.Frag->Bool
 | []=>true
 | p::r=>(match p.2.data with | .seq _ _=>(match p.2.cls with | .type s=>!(s == "list") | _=>true) | _=>true) && noL r
theorem vo9:∀ {K:W.Frag} {a:Addr} {o:Obj} {its:Array Value} {n:Nat},noL K=true->K.lookup a=some o->o.cls=.type "list" -> o.data=.seq its n->False
 | [],a,o,its,n,_,e,_,_=>by cases e
 | p::r,a,o,its,n,h,e,h1,h2=>by
  unfold noL at h;rw [Bool.and_eq_true] at h;rw [List.lookup_cons] at e;split at e
  ·cases e
   have q:=h.1;rw [h2] at q;simp only [h1] at q;exact absurd q (by decide)
  ·exact vo9 h.2 e h1 h2
theorem arZ {P:List Value->Prop} (h:P []):∀ us:List Value,us.length=0->P us:=fun us e=>by rw [List.eq_nil_of_length_eq_zero e];exact h
theorem arS {n:Nat} {P:List Value->Prop} (h:∀ (a:Value) (us:List Value),us.length=n->P (a::us)):∀ us:List Value,us.length=n+1->P us:=fun us e=>by
 cases us with
 | nil=>cases e
 | cons a us=>exact h a us (Nat.succ.inj e)
theorem ar1 {P:List Value->Prop} (h:∀ a0,P [a0]):∀ us:List Value,us.length=1->P us:=arS fun a0=>arZ (h a0)
theorem ar2 {P:List Value->Prop} (h:∀ a0 a1,P [a0,a1]):∀ us:List Value,us.length=2->P us:=arS fun a0=>arS fun a1=>arZ (h a0 a1)
theorem ar3 {P:List Value->Prop} (h:∀ a0 a1 a2,P [a0,a1,a2]):∀ us:List Value,us.length=3->P us:=arS fun a0=>arS fun a1=>arS fun a2=>arZ (h a0 a1 a2)
theorem ar4 {P:List Value->Prop} (h:∀ a0 a1 a2 a3,P [a0,a1,a2,a3]):∀ us:List Value,us.length=4->P us:=arS fun a0=>arS fun a1=>arS fun a2=>arS fun a3=>arZ (h a0 a1 a2 a3)
theorem ar5 {P:List Value->Prop} (h:∀ a0 a1 a2 a3 a4,P [a0,a1,a2,a3,a4]):∀ us:List Value,us.length=5->P us:=arS fun a0=>arS fun a1=>arS fun a2=>arS fun a3=>arS fun a4=>arZ (h a0 a1 a2 a3 a4)
theorem ar6 {P:List Value->Prop} (h:∀ a0 a1 a2 a3 a4 a5,P [a0,a1,a2,a3,a4,a5]):∀ us:List Value,us.length=6->P us:=arS fun a0=>arS fun a1=>arS fun a2=>arS fun a3=>arS fun a4=>arS fun a5=>arZ (h a0 a1 a2 a3 a4 a5)
def v95 {K:W.Frag} {x qual:Str} {st:Stmt} {ps:List Str} {f:Addr} {oc:Value} {od an:Option Addr} {osl:Array (Option Value)} {kV doc pm cdv ct:Value} (l:K.lookup f=some ⟨oc,od,.func (W.fnOf x qual (u38 st) (u33 st) (u05 st) .none kV doc pm an cdv ct),osl⟩)
  (c:W.codeIn K cdv qual=true) (k:W.keepIn K (.ref f)=true) (hb:∀ us:List Value,us.length=ps.length->bindArgs (W.fnOf x qual (u38 st) (u33 st) (u05 st) .none kV doc pm an cdv ct) ⟨us,[]⟩=pure (ps.zip us)):FnAt K x qual st ps :=
 ⟨f,_,⟨oc,od,.none,kV,doc,pm,an,cdv,ct,osl,rfl,l,c⟩,k,.all hb⟩
def DF (K:W.Frag) (x:Str) (st:Stmt):Prop:=∃ (p:Addr) (oc:Value) (od an:Option Addr) (sl:Array (Option Value)) (kV dc pm cd ct:Value),W.nsIn K mainGlobals x=some (some (.ref p)) /\ K.lookup p=some ⟨oc,od,.func (W.fnOf x x (u38 st) (u33 st) (u05 st) .none kV dc pm an cd ct),sl⟩ /\ W.codeIn K cd x=true /\ W.keepIn K (.ref p)=true
def DM (K:W.Frag) (C:Addr) (x q:Str) (st:Stmt):Prop:=∃ (p:Addr) (oc:Value) (od an:Option Addr) (sl:Array (Option Value)) (kV dc pm cd ct:Value),W.findIn K (.ref C) x=some (some (.ref p)) /\ W.isFn K (.ref p)=true /\ K.lookup p=some ⟨oc,od,.func (W.fnOf x q (u38 st) (u33 st) (u05 st) .none kV dc pm an cd ct),sl⟩ /\ W.codeIn K cd q=true /\ W.keepIn K (.ref p)=true
section
variable {K:W.Frag} {h:Heap} {mg:Str->Option Value} {C:Addr} {x q:Str} {st:Stmt} {ps:List Str}
theorem df_m {p:Addr} {oc:Value} {od an:Option Addr} {sl:Array (Option Value)} {kV dc pm cd ct:Value} (a:W.nsIn K mainGlobals x=some (some (.ref p))) (l:K.lookup p=some ⟨oc,od,.func (W.fnOf x x (u38 st) (u33 st) (u05 st) .none kV dc pm an cd ct),sl⟩) (c:W.codeIn K cd x=true) (k:W.keepIn K (.ref p)=true):DF K x st:=⟨p,oc,od,an,sl,kV,dc,pm,cd,ct,a,l,c,k⟩
theorem dm_m {p:Addr} {oc:Value} {od an:Option Addr} {sl:Array (Option Value)} {kV dc pm cd ct:Value} (a:W.findIn K (.ref C) x=some (some (.ref p))) (i:W.isFn K (.ref p)=true) (l:K.lookup p=some ⟨oc,od,.func (W.fnOf x q (u38 st) (u33 st) (u05 st) .none kV dc pm an cd ct),sl⟩) (c:W.codeIn K cd q=true) (k:W.keepIn K (.ref p)=true):DM K C x q st:=⟨p,oc,od,an,sl,kV,dc,pm,cd,ct,a,i,l,c,k⟩
theorem df_f {N:List Str} (_:FnScope N ps (u05 st)) (X:K.In h) (G:h.Ns mainGlobals mg) (hb:∀ kV dc pm an cd ct,∀ us:List Value,us.length=ps.length->bindArgs (W.fnOf x x (u38 st) (u33 st) (u05 st) .none kV dc pm an cd ct) ⟨us,[]⟩=pure (ps.zip us)) (d:DF K x st) :
  ∃ f:FnAt K x x st ps,mg x=some (.ref f.a) /\ ∀ (s:Shared) (us:List Value),us.length=ps.length->BindsTo s f.fd ⟨us,[]⟩ (ps.zip us):=by
 obtain ⟨p,oc,od,an,sl,kV,dc,pm,cd,ct,a,l,c,k⟩:=d;exact ⟨v95 l c k (hb kV dc pm an cd ct),W.mg_of X G a,fun s us e=>.of_eq (hb kV dc pm an cd ct us e)⟩
theorem dm_f {N:List Str} (_:FnScope N ps (u05 st)) (hb:∀ kV dc pm an cd ct,∀ us:List Value,us.length=ps.length->bindArgs (W.fnOf x q (u38 st) (u33 st) (u05 st) .none kV dc pm an cd ct) ⟨us,[]⟩=pure (ps.zip us)) (d:DM K C x q st) :
  ∃ f:FnAt K x q st ps,W.findIn K (.ref C) x=some (some (.ref f.a)) /\ W.isFn K (.ref f.a)=true:=by
 obtain ⟨p,oc,od,an,sl,kV,dc,pm,cd,ct,a,i,l,c,k⟩:=d;exact ⟨v95 l c k (hb kV dc pm an cd ct),a,i⟩
end
def vm9:Sp3:=fun ds G R=>∃ (a:Addr) (ns:List Int),ds=[.ref a] /\ G a=some (.fro (ns.map .int)) /\ ns.length<=63 /\ ∀ G',R (.bl true) G'
theorem uu4 {K:W.Frag} {H:Hp}:∀ ns:List Int,RelDs K H (ns.map D.int) (ns.map V.int)
 | []=>.nil
 | _::ns=>.cons RelD.intI (uu4 ns)
theorem wj5 {K:W.Frag} {H:Hp} {a:Addr} {ns:List Int} (hL:noL K=true) (hl:ns.length<=63) (hO:Only H) (hS:SqL K H a (ns.map V.int)):ua2 K vm9 [.ref a] H (fun v _=>v=.bl true) fun _ _ _=>False:=by
 have ha:∃ o,H a=some (.frz o (.lst (ns.map V.int))):=by
  rcases hS with (h | h) | ⟨o,its,n,h1,h2,_,h3,_⟩
  ·rcases hO a with z | ⟨o,xs,z⟩
   ·rw [h] at z;cases z
   ·rw [h] at z;cases z
  ·exact h
  ·exact (vo9 hL h1 h2 h3).elim
 obtain ⟨o,ha⟩:=ha;refine ⟨[.ref a],gup (fun _=>none) a (.fro (ns.map .int)),fun d _=>d=.bl true,.cons ?_ .nil,fun b u e=>?_,⟨a,ns,rfl,u01,hl,fun _=>rfl⟩,fun d G' v H' r _ _ e=>?_⟩
 ·rw [RelD]
 ·by_cases hb:b=a
  ·subst hb
   rw [u01] at e;cases e;exact ⟨o,_,ha,uu4 ns⟩
  ·rw [u07 hb] at e;cases e
 ·subst e
  rw [RelD] at r;exact r
end Law
namespace Law
open PySem PySem.Spec PyProof.Rows L2 L3 Rw
theorem txt_mk {K:W.Frag} {h:Heap} {mg:Str->Option Value} (X:K.In h) (G:h.Ns mainGlobals mg) {C_Block:Addr} {C_LitterError:Addr} {C_BadText:Addr} {C_TwiceNamed:Addr} {C_TooWide:Addr} {C_NoRow:Addr} {C_NoBox:Addr} {C_BadPlan:Addr} {C_BadCuts:Addr} {C_BadCode:Addr} 
  {t_FIGURES:Tok}
  {t_LETTERS:Tok}
  {t_LONGEST_NAME:Tok}
  {w_WORDS:Addr} {wo_WORDS:Obj} {wn_WORDS:Nat} {t0_WORDS t1_WORDS t2_WORDS t3_WORDS t4_WORDS t5_WORDS:Tok}
  {t_WIDEST:Tok}
  {t_MOST_BOXES:Tok}
  {t_MOST_TIMES:Tok}
  {t_GREATEST:Tok}
  {w_SIGNS:Addr} {wo_SIGNS:Obj} {wn_SIGNS:Nat} {t0_SIGNS t1_SIGNS t2_SIGNS t3_SIGNS t4_SIGNS t5_SIGNS t6_SIGNS:Tok}
  (aC_Block:W.nsIn K mainGlobals "Block" = some (some (.ref C_Block)))
  (aC_LitterError:W.nsIn K mainGlobals "LitterError" = some (some (.ref C_LitterError)))
  (aC_BadText:W.nsIn K mainGlobals "BadText" = some (some (.ref C_BadText)))
  (aC_TwiceNamed:W.nsIn K mainGlobals "TwiceNamed" = some (some (.ref C_TwiceNamed)))
  (aC_TooWide:W.nsIn K mainGlobals "TooWide" = some (some (.ref C_TooWide)))
  (aC_NoRow:W.nsIn K mainGlobals "NoRow" = some (some (.ref C_NoRow)))
  (aC_NoBox:W.nsIn K mainGlobals "NoBox" = some (some (.ref C_NoBox)))
  (aC_BadPlan:W.nsIn K mainGlobals "BadPlan" = some (some (.ref C_BadPlan)))
  (aC_BadCuts:W.nsIn K mainGlobals "BadCuts" = some (some (.ref C_BadCuts)))
  (aC_BadCode:W.nsIn K mainGlobals "BadCode" = some (some (.ref C_BadCode)))
  (pm_0:DM K C_BadText "__init__" "BadText.__init__" u63)
  (pm_34:DF K "number_in" ve4)
  (pm_7:DF K "is_name" ve9)
  (pm_42:DF K "show" vt5)
  (pm_33:DF K "lines_of" vu2)
  (pm_41:DF K "row_lines" vt6)
  (pm_1:DM K C_Block "__init__" "Block.__init__" vw6)
  (pm_2:DM K C_Block "is_full" "Block.is_full" vw5)
  (pm_3:DM K C_Block "take_in" "Block.take_in" vw4)
  (pm_4:DM K C_Block "whole" "Block.whole" vf0)
  (pm_36:DF K "read" vu0)
  (pm_40:DF K "read_wide" vt7)
  (pm_38:DF K "read_boxes" ve3)
  (pm_43:DF K "take_line" vt4)
  (pm_5:DF K "begin_other_way" vw3)
  (pm_6:DF K "close_block" vw2)
  (pm_35:DF K "open_block" vu1)
  (pm_39:DF K "read_setting" vt8)
  (pm_37:DF K "read_atom" vt9)
  (pm_23:DF K "_law_purse" vv2)
  (pm_20:DF K "_law_next" vv5)
  (pm_19:DF K "_law_names" ve5)
  (pm_21:DF K "_law_number" vv4)
  (pm_9:DF K "_law_atom" vw1)
  (pm_26:DF K "_law_set" vu9)
  (pm_27:DF K "_law_shut" vu8)
  (pm_25:DF K "_law_rows" vv0)
  (pm_22:DF K "_law_program" vv3)
  (pm_31:DF K "_law_written" vu4)
  (pm_18:DF K "_law_lines" vv6)
  (pm_16:DF K "_law_is_number" ve7)
  (pm_15:DF K "_law_is_name" v38)
  (pm_13:DF K "_law_is_atom" vv7)
  (pm_17:DF K "_law_is_set" ve6)
  (pm_14:DF K "_law_is_head" ve8)
  (pm_28:DF K "_law_stays" vu7)
  (pm_32:DF K "_law_wrong" vu3)
  (pm_11:DF K "_law_deep" vv9)
  (pm_30:DF K "_law_word" vu5)
  (pm_24:DF K "_law_row" vv1)
  (pm_12:DF K "_law_headed" vv8)
  (pm_10:DF K "_law_changed" vw0)
  (pm_29:DF K "_law_told" vu6)
  (pm_8:DF K "law" vt3)
  (pg_Block:W.plainGet K C_Block Str.empty=true)
  (hd_Block:W.hasDictIn K C_Block=true)
  (po_Block:W.plainOver K C_Block=true)
  (sa_Block:W.findIn K (.ref C_Block) "__setattr__" = some (some (.builtin "object.__setattr__")))
  (mk_Block:W.makesIn K C_Block=true)
  (kc_Block:W.keepIn K (.ref C_Block)=true)
  (n_Block_head:W.findIn K (.ref C_Block) "head" = some none)
  (n_Block_most_ways:W.findIn K (.ref C_Block) "most_ways" = some none)
  (n_Block_ways:W.findIn K (.ref C_Block) "ways" = some none)
  (xc_LitterError:xcIn K C_LitterError VM=true)
  (xs_LitterError:W.specialIn K (.ref C_LitterError) "__getattribute__" = some (some (.builtin "type.__getattribute__")))
  (xr_LitterError:W.readsIn K C_LitterError (.type "type")=true)
  (xf_LitterError:W.findCls K (.ref C_LitterError) (.type "type") "__init__" = some (.val (.builtin "ValueError.__init__")))
  (xc_BadText:xcIn K C_BadText (.ref C_LitterError::VM)=true)
  (xg_BadText:W.findIn K (.ref C_BadText) "__getattribute__" = some (some (.builtin "BaseException.__getattribute__")))
  (xt_BadText:W.findIn K (.ref C_BadText) "__getattr__" = some none)
  (xk_BadText:W.findIn K (.ref C_BadText) "__class__" = some (some (.builtin "object.__class__")))
  (zn_BadText:C_BadText ≠ C_LitterError)
  (xc_TwiceNamed:xcIn K C_TwiceNamed (.ref C_LitterError::VM)=true)
  (xg_TwiceNamed:W.findIn K (.ref C_TwiceNamed) "__getattribute__" = some (some (.builtin "BaseException.__getattribute__")))
  (xt_TwiceNamed:W.findIn K (.ref C_TwiceNamed) "__getattr__" = some none)
  (xk_TwiceNamed:W.findIn K (.ref C_TwiceNamed) "__class__" = some (some (.builtin "object.__class__")))
  (zn_TwiceNamed:C_TwiceNamed ≠ C_LitterError)
  (xc_TooWide:xcIn K C_TooWide (.ref C_LitterError::VM)=true)
  (xg_TooWide:W.findIn K (.ref C_TooWide) "__getattribute__" = some (some (.builtin "BaseException.__getattribute__")))
  (xt_TooWide:W.findIn K (.ref C_TooWide) "__getattr__" = some none)
  (xk_TooWide:W.findIn K (.ref C_TooWide) "__class__" = some (some (.builtin "object.__class__")))
  (zn_TooWide:C_TooWide ≠ C_LitterError)
  (xc_NoRow:xcIn K C_NoRow (.ref C_LitterError::VM)=true)
  (xg_NoRow:W.findIn K (.ref C_NoRow) "__getattribute__" = some (some (.builtin "BaseException.__getattribute__")))
  (xt_NoRow:W.findIn K (.ref C_NoRow) "__getattr__" = some none)
  (xk_NoRow:W.findIn K (.ref C_NoRow) "__class__" = some (some (.builtin "object.__class__")))
  (zn_NoRow:C_NoRow ≠ C_LitterError)
  (xc_NoBox:xcIn K C_NoBox (.ref C_LitterError::VM)=true)
  (xg_NoBox:W.findIn K (.ref C_NoBox) "__getattribute__" = some (some (.builtin "BaseException.__getattribute__")))
  (xt_NoBox:W.findIn K (.ref C_NoBox) "__getattr__" = some none)
  (xk_NoBox:W.findIn K (.ref C_NoBox) "__class__" = some (some (.builtin "object.__class__")))
  (zn_NoBox:C_NoBox ≠ C_LitterError)
  (xc_BadPlan:xcIn K C_BadPlan (.ref C_LitterError::VM)=true)
  (xg_BadPlan:W.findIn K (.ref C_BadPlan) "__getattribute__" = some (some (.builtin "BaseException.__getattribute__")))
  (xt_BadPlan:W.findIn K (.ref C_BadPlan) "__getattr__" = some none)
  (xk_BadPlan:W.findIn K (.ref C_BadPlan) "__class__" = some (some (.builtin "object.__class__")))
  (zn_BadPlan:C_BadPlan ≠ C_LitterError)
  (xc_BadCuts:xcIn K C_BadCuts (.ref C_LitterError::VM)=true)
  (xg_BadCuts:W.findIn K (.ref C_BadCuts) "__getattribute__" = some (some (.builtin "BaseException.__getattribute__")))
  (xt_BadCuts:W.findIn K (.ref C_BadCuts) "__getattr__" = some none)
  (xk_BadCuts:W.findIn K (.ref C_BadCuts) "__class__" = some (some (.builtin "object.__class__")))
  (zn_BadCuts:C_BadCuts ≠ C_LitterError)
  (xc_BadCode:xcIn K C_BadCode (.ref C_LitterError::VM)=true)
  (xg_BadCode:W.findIn K (.ref C_BadCode) "__getattribute__" = some (some (.builtin "BaseException.__getattribute__")))
  (xt_BadCode:W.findIn K (.ref C_BadCode) "__getattr__" = some none)
  (xk_BadCode:W.findIn K (.ref C_BadCode) "__class__" = some (some (.builtin "object.__class__")))
  (zn_BadCode:C_BadCode ≠ C_LitterError)
  (kc_BadText:W.keepIn K (.ref C_BadText)=true)
  (xa_BadText:W.findIn K (.ref C_BadText) "__setattr__" = some (some (.builtin "object.__setattr__")))
  (xn_BadText:W.findIn K (.ref C_BadText) "at" = some none)
  (zn_BadText_TwiceNamed:C_TwiceNamed ≠ C_BadText)
  (zn_BadText_TooWide:C_TooWide ≠ C_BadText)
  (zn_BadText_NoRow:C_NoRow ≠ C_BadText)
  (zn_BadText_NoBox:C_NoBox ≠ C_BadText)
  (zn_BadText_BadPlan:C_BadPlan ≠ C_BadText)
  (zn_BadText_BadCuts:C_BadCuts ≠ C_BadText)
  (zn_BadText_BadCode:C_BadCode ≠ C_BadText)
  (v_FIGURES:W.nsIn K mainGlobals "FIGURES" = some (some (.str "0123456789" t_FIGURES)))
  (v_LETTERS:W.nsIn K mainGlobals "LETTERS" = some (some (.str "abcdefghijklmnopqrstuvwxyz" t_LETTERS)))
  (v_LONGEST_NAME:W.nsIn K mainGlobals "LONGEST_NAME" = some (some (.int 8 t_LONGEST_NAME)))
  (v_WORDS:W.nsIn K mainGlobals "WORDS" = some (some (.ref w_WORDS)))
  (dl_WORDS:K.lookup w_WORDS=some wo_WORDS)
  (ds_WORDS:wo_WORDS.data=.seq #[.str "wide" t0_WORDS,.str "boxes" t1_WORDS,.str "choose" t2_WORDS,.str "else" t3_WORDS,.str "end" t4_WORDS,.str "times" t5_WORDS] wn_WORDS)
  (ds1_WORDS:wo_WORDS.cls=.type "tuple")
  (ds2_WORDS:wo_WORDS.dict=none)
  (v_WIDEST:W.nsIn K mainGlobals "WIDEST" = some (some (.int 16 t_WIDEST)))
  (v_MOST_BOXES:W.nsIn K mainGlobals "MOST_BOXES" = some (some (.int 6 t_MOST_BOXES)))
  (v_MOST_TIMES:W.nsIn K mainGlobals "MOST_TIMES" = some (some (.int 20 t_MOST_TIMES)))
  (v_GREATEST:W.nsIn K mainGlobals "GREATEST" = some (some (.int 65535 t_GREATEST)))
  (v_SIGNS:W.nsIn K mainGlobals "SIGNS" = some (some (.ref w_SIGNS)))
  (dl_SIGNS:K.lookup w_SIGNS=some wo_SIGNS)
  (ds_SIGNS:wo_SIGNS.data=.seq #[.str "+" t0_SIGNS,.str "-" t1_SIGNS,.str "&" t2_SIGNS,.str "|" t3_SIGNS,.str "^" t4_SIGNS,.str "<" t5_SIGNS,.str "=" t6_SIGNS] wn_SIGNS)
  (ds1_SIGNS:wo_SIGNS.cls=.type "tuple")
  (ds2_SIGNS:wo_SIGNS.dict=none)
  (b_ValueError:W.nsIn K mainGlobals "ValueError" = some none)
  (b_abs:W.nsIn K mainGlobals "abs" = some none)
  (b_all:W.nsIn K mainGlobals "all" = some none)
  (b_bool:W.nsIn K mainGlobals "bool" = some none)
  (b_enumerate:W.nsIn K mainGlobals "enumerate" = some none)
  (b_int:W.nsIn K mainGlobals "int" = some none)
  (b_isinstance:W.nsIn K mainGlobals "isinstance" = some none)
  (b_len:W.nsIn K mainGlobals "len" = some none)
  (b_list:W.nsIn K mainGlobals "list" = some none)
  (b_max:W.nsIn K mainGlobals "max" = some none)
  (b_min:W.nsIn K mainGlobals "min" = some none)
  (b_range:W.nsIn K mainGlobals "range" = some none)
  (b_str:W.nsIn K mainGlobals "str" = some none)
  (b_sum:W.nsIn K mainGlobals "sum" = some none)
  (b_tuple:W.nsIn K mainGlobals "tuple" = some none) :
  ∃ T:Txt K mg,∀ (s:Shared) (v:Value),BindsTo s T.f_law.fd ⟨[v],[]⟩ [("_law_script",v)]:=by
 obtain ⟨f_BadText_init,a_0,i_0⟩:=dm_f u79 (fun _ _ _ _ _ _=>ar2 fun _ _=>rfl) pm_0;obtain ⟨f_jbj,g_number_in,_⟩:=df_f sc_jbj X G (fun _ _ _ _ _ _=>ar2 fun _ _=>rfl) pm_34;obtain ⟨f_jah,g_is_name,_⟩:=df_f vn8 X G (fun _ _ _ _ _ _=>ar1 fun _=>rfl) pm_7;obtain ⟨f_jbs,g_show,_⟩:=df_f sc_jbs X G (fun _ _ _ _ _ _=>ar1 fun _=>rfl) pm_42;obtain ⟨f_jbh,g_lines_of,_⟩:=df_f sc_jbh X G (fun _ _ _ _ _ _=>ar1 fun _=>rfl) pm_33;obtain ⟨f_jbq,g_row_lines,_⟩:=df_f sc_jbq X G (fun _ _ _ _ _ _=>ar1 fun _=>rfl) pm_41;obtain ⟨f_jaa,a_1,i_1⟩:=dm_f vo3 (fun _ _ _ _ _ _=>ar3 fun _ _ _=>rfl) pm_1;obtain ⟨f_jab,a_2,i_2⟩:=dm_f vo2 (fun _ _ _ _ _ _=>ar1 fun _=>rfl) pm_2;obtain ⟨f_jac,a_3,i_3⟩:=dm_f vo1 (fun _ _ _ _ _ _=>ar2 fun _ _=>rfl) pm_3;obtain ⟨f_jad,a_4,i_4⟩:=dm_f vo0 (fun _ _ _ _ _ _=>ar1 fun _=>rfl) pm_4;obtain ⟨f_jbl,g_read,_⟩:=df_f sc_jbl X G (fun _ _ _ _ _ _=>ar1 fun _=>rfl) pm_36;obtain ⟨f_jbp,g_read_wide,_⟩:=df_f sc_jbp X G (fun _ _ _ _ _ _=>ar1 fun _=>rfl) pm_40;obtain ⟨f_jbn,g_read_boxes,_⟩:=df_f sc_jbn X G (fun _ _ _ _ _ _=>ar1 fun _=>rfl) pm_38;obtain ⟨f_jbt,g_take_line,_⟩:=df_f sc_jbt X G (fun _ _ _ _ _ _=>ar2 fun _ _=>rfl) pm_43;obtain ⟨f_jae,g_begin_other_way,_⟩:=df_f vn9 X G (fun _ _ _ _ _ _=>ar1 fun _=>rfl) pm_5;obtain ⟨f_jaf,g_close_block,_⟩:=df_f sc_jaf X G (fun _ _ _ _ _ _=>ar1 fun _=>rfl) pm_6;obtain ⟨f_jbk,g_open_block,_⟩:=df_f sc_jbk X G (fun _ _ _ _ _ _=>ar2 fun _ _=>rfl) pm_35;obtain ⟨f_jbo,g_read_setting,_⟩:=df_f sc_jbo X G (fun _ _ _ _ _ _=>ar1 fun _=>rfl) pm_39;obtain ⟨f_jbm,g_read_atom,_⟩:=df_f vn1 X G (fun _ _ _ _ _ _=>ar1 fun _=>rfl) pm_37;obtain ⟨f_jaw,g_law_purse,_⟩:=df_f sc_jaw X G (fun _ _ _ _ _ _=>ar2 fun _ _=>rfl) pm_23;obtain ⟨f_jat,g_law_next,_⟩:=df_f sc_jat X G (fun _ _ _ _ _ _=>ar2 fun _ _=>rfl) pm_20;obtain ⟨f_jas,g_law_names,_⟩:=df_f sc_jas X G (fun _ _ _ _ _ _=>ar1 fun _=>rfl) pm_19;obtain ⟨f_jau,g_law_number,_⟩:=df_f vn2 X G (fun _ _ _ _ _ _=>ar2 fun _ _=>rfl) pm_21;obtain ⟨f_jai,g_law_atom,_⟩:=df_f vn7 X G (fun _ _ _ _ _ _=>ar3 fun _ _ _=>rfl) pm_9;obtain ⟨f_jaz,g_law_set,_⟩:=df_f sc_jaz X G (fun _ _ _ _ _ _=>ar3 fun _ _ _=>rfl) pm_26;obtain ⟨f_jba,g_law_shut,_⟩:=df_f sc_jba X G (fun _ _ _ _ _ _=>ar2 fun _ _=>rfl) pm_27;obtain ⟨f_jay,g_law_rows,_⟩:=df_f sc_jay X G (fun _ _ _ _ _ _=>ar4 fun _ _ _ _=>rfl) pm_25;obtain ⟨f_jav,g_law_program,_⟩:=df_f sc_jav X G (fun _ _ _ _ _ _=>ar1 fun _=>rfl) pm_22;obtain ⟨f_jbe,g_law_written,_⟩:=df_f sc_jbe X G (fun _ _ _ _ _ _=>ar1 fun _=>rfl) pm_31;obtain ⟨f_jar,g_law_lines,_⟩:=df_f vn3 X G (fun _ _ _ _ _ _=>ar1 fun _=>rfl) pm_18;obtain ⟨f_jap,g_law_is_number,_⟩:=df_f vn4 X G (fun _ _ _ _ _ _=>ar2 fun _ _=>rfl) pm_16;obtain ⟨f_jao,g_law_is_name,_⟩:=df_f vn5 X G (fun _ _ _ _ _ _=>ar1 fun _=>rfl) pm_15;obtain ⟨f_jam,g_law_is_atom,_⟩:=df_f vn6 X G (fun _ _ _ _ _ _=>ar1 fun _=>rfl) pm_13
 obtain ⟨f_jaq,g_law_is_set,_⟩:=df_f sc_jaq X G (fun _ _ _ _ _ _=>ar1 fun _=>rfl) pm_17;obtain ⟨f_jan,g_law_is_head,_⟩:=df_f sc_jan X G (fun _ _ _ _ _ _=>ar2 fun _ _=>rfl) pm_14;obtain ⟨f_jbb,g_law_stays,_⟩:=df_f sc_jbb X G (fun _ _ _ _ _ _=>ar2 fun _ _=>rfl) pm_28;obtain ⟨f_jbg,g_law_wrong,_⟩:=df_f sc_jbg X G (fun _ _ _ _ _ _=>ar1 fun _=>rfl) pm_32;obtain ⟨f_jak,g_law_deep,_⟩:=df_f sc_jak X G (fun _ _ _ _ _ _=>ar1 fun _=>rfl) pm_11;obtain ⟨f_jbd,g_law_word,_⟩:=df_f sc_jbd X G (fun _ _ _ _ _ _=>ar2 fun _ _=>rfl) pm_30;obtain ⟨f_jax,g_law_row,_⟩:=df_f sc_jax X G (fun _ _ _ _ _ _=>ar1 fun _=>rfl) pm_24;obtain ⟨f_jal,g_law_headed,_⟩:=df_f sc_jal X G (fun _ _ _ _ _ _=>ar2 fun _ _=>rfl) pm_12;obtain ⟨f_jaj,g_law_changed,_⟩:=df_f sc_jaj X G (fun _ _ _ _ _ _=>ar2 fun _ _=>rfl) pm_10;obtain ⟨f_jbc,g_law_told,_⟩:=df_f sc_jbc X G (fun _ _ _ _ _ _=>ar1 fun _=>rfl) pm_29;obtain ⟨f_law,g_law,b_law⟩:=df_f sc_law X G (fun _ _ _ _ _ _=>ar1 fun _=>rfl) pm_8;exact ⟨⟨f_BadText_init,f_jbj,g_number_in,f_jah,g_is_name,f_jbs,g_show,f_jbh,g_lines_of,f_jbq,g_row_lines,f_jaa,f_jab,f_jac,f_jad,f_jbl,g_read,f_jbp,g_read_wide,f_jbn,g_read_boxes,f_jbt,g_take_line,f_jae,g_begin_other_way,f_jaf,g_close_block,f_jbk,g_open_block,f_jbo,g_read_setting,f_jbm,g_read_atom,f_jaw,g_law_purse,f_jat,g_law_next,f_jas,g_law_names,f_jau,g_law_number,f_jai,g_law_atom,f_jaz,g_law_set,f_jba,g_law_shut,f_jay,g_law_rows,f_jav,g_law_program,f_jbe,g_law_written,f_jar,g_law_lines,f_jap,g_law_is_number,f_jao,g_law_is_name,f_jam,g_law_is_atom,f_jaq,g_law_is_set,f_jan,g_law_is_head,f_jbb,g_law_stays,f_jbg,g_law_wrong,f_jak,g_law_deep,f_jbd,g_law_word,f_jax,g_law_row,f_jal,g_law_headed,f_jaj,g_law_changed,f_jbc,g_law_told,f_law,g_law,⟨C_Block,⟨pg_Block,hd_Block,po_Block,sa_Block⟩,W.mg_of X G aC_Block,n_Block_head,n_Block_most_ways,n_Block_ways⟩,⟨C_LitterError,W.mg_of X G aC_LitterError,xc_LitterError,⟨xs_LitterError,xr_LitterError,xf_LitterError⟩⟩,⟨C_BadText,W.mg_of X G aC_BadText,xc_BadText,⟨xg_BadText,xt_BadText,xk_BadText⟩,zn_BadText⟩,⟨C_TwiceNamed,W.mg_of X G aC_TwiceNamed,xc_TwiceNamed,⟨xg_TwiceNamed,xt_TwiceNamed,xk_TwiceNamed⟩,zn_TwiceNamed⟩,⟨C_TooWide,W.mg_of X G aC_TooWide,xc_TooWide,⟨xg_TooWide,xt_TooWide,xk_TooWide⟩,zn_TooWide⟩,⟨C_NoRow,W.mg_of X G aC_NoRow,xc_NoRow,⟨xg_NoRow,xt_NoRow,xk_NoRow⟩,zn_NoRow⟩,⟨C_NoBox,W.mg_of X G aC_NoBox,xc_NoBox,⟨xg_NoBox,xt_NoBox,xk_NoBox⟩,zn_NoBox⟩,⟨C_BadPlan,W.mg_of X G aC_BadPlan,xc_BadPlan,⟨xg_BadPlan,xt_BadPlan,xk_BadPlan⟩,zn_BadPlan⟩,⟨C_BadCuts,W.mg_of X G aC_BadCuts,xc_BadCuts,⟨xg_BadCuts,xt_BadCuts,xk_BadCuts⟩,zn_BadCuts⟩,⟨C_BadCode,W.mg_of X G aC_BadCode,xc_BadCode,⟨xg_BadCode,xt_BadCode,xk_BadCode⟩,zn_BadCode⟩,⟨xc_BadText,a_0,i_0,kc_BadText⟩,⟨xa_BadText,xn_BadText,xg_BadText,xt_BadText⟩,zn_BadText_TwiceNamed,zn_BadText_TooWide,zn_BadText_NoRow,zn_BadText_NoBox,zn_BadText_BadPlan,zn_BadText_BadCuts,zn_BadText_BadCode,⟨mk_Block,a_1,i_1,kc_Block⟩,⟨a_2,i_2,f_jab.kp⟩,⟨a_3,i_3,f_jac.kp⟩,⟨a_4,i_4,f_jad.kp⟩,⟨t_FIGURES,W.mg_of X G v_FIGURES⟩,⟨t_LETTERS,W.mg_of X G v_LETTERS⟩,⟨t_LONGEST_NAME,W.mg_of X G v_LONGEST_NAME⟩,⟨w_WORDS,wo_WORDS,_,wn_WORDS,W.mg_of X G v_WORDS,dl_WORDS,ds1_WORDS,ds_WORDS,by simp [sizeLine_eq],(.cons ⟨t0_WORDS,rfl⟩ (.cons ⟨t1_WORDS,rfl⟩ (.cons ⟨t2_WORDS,rfl⟩ (.cons ⟨t3_WORDS,rfl⟩ (.cons ⟨t4_WORDS,rfl⟩ (.cons ⟨t5_WORDS,rfl⟩ .nil)))))),ds2_WORDS⟩,⟨t_WIDEST,W.mg_of X G v_WIDEST⟩,⟨t_MOST_BOXES,W.mg_of X G v_MOST_BOXES⟩,⟨t_MOST_TIMES,W.mg_of X G v_MOST_TIMES⟩,⟨t_GREATEST,W.mg_of X G v_GREATEST⟩,⟨w_SIGNS,wo_SIGNS,_,wn_SIGNS,W.mg_of X G v_SIGNS,dl_SIGNS,ds1_SIGNS,ds_SIGNS,by simp [sizeLine_eq],(.cons ⟨t0_SIGNS,rfl⟩ (.cons ⟨t1_SIGNS,rfl⟩ (.cons ⟨t2_SIGNS,rfl⟩ (.cons ⟨t3_SIGNS,rfl⟩ (.cons ⟨t4_SIGNS,rfl⟩ (.cons ⟨t5_SIGNS,rfl⟩ (.cons ⟨t6_SIGNS,rfl⟩ .nil))))))),ds2_SIGNS⟩,W.mg_none_of X G b_ValueError,W.mg_none_of X G b_abs,W.mg_none_of X G b_all,W.mg_none_of X G b_bool,W.mg_none_of X G b_enumerate,W.mg_none_of X G b_int,W.mg_none_of X G b_isinstance,W.mg_none_of X G b_len,W.mg_none_of X G b_list,W.mg_none_of X G b_max,W.mg_none_of X G b_min,W.mg_none_of X G b_range,W.mg_none_of X G b_str,W.mg_none_of X G b_sum,W.mg_none_of X G b_tuple⟩,fun s v=>b_law s [v] rfl⟩
theorem wn0 {P:Program} {w:World} {K:W.Frag} {mg:Str->Option Value} {base:Heap} (T:Txt K mg):Ok P w mg base 18 T.f_law (w54 T):=by
 have R_jbh:∀ dp,Ok P w mg base (0+2 * dp) T.f_jbh (uz9 T dp):=by
  intro dp
  induction dp with
  | zero=>exact wn5 T
  | succ dp ih=>exact FnOk.mono (wf3 T (n:=0+2 * dp+1) (dp:=dp) (we5 T (n:=0+2 * dp) (dp:=dp) ih)) (by omega)
 have H_jbh:Ok P w mg base 16 T.f_jbh (wn2 T):=R_jbh 8;have H_jbs:Ok P w mg base 17 T.f_jbs (vl0 T):=we4 T (n:=16) (FnOk.mono H_jbh (by decide));have H_jaa:Ok P w mg base 1 T.f_jaa (vm2 T):=wi4 T (n:=0);have H_jad:Ok P w mg base 1 T.f_jad (vl9 T):=wi1 T (n:=0);have H_jbj:Ok P w mg base 1 T.f_jbj (uz8 T):=wf2 T (n:=0);have H_jbp:OkX P w mg base 3 T.f_jbp (w57 T):=we6 T (n:=0) (FnOk.mono H_jbj (by decide));have H_jah:Ok P w mg base 1 T.f_jah (v04 T):=wh8 T (n:=0);have H_jbn:OkX P w mg base 3 T.f_jbn (w59 T):=we8 T (n:=0) (FnOk.mono H_jah (by decide));have H_jac:Ok P w mg base 1 T.f_jac (vm0 T):=wi2 T (n:=0);have H_jab:Ok P w mg base 1 T.f_jab (vm1 T):=wi3 T (n:=0);have H_jae:Ok P w mg base 2 T.f_jae (w71 T):=wi0 T (n:=1) (FnOk.mono H_jab (by decide));have H_jaf:Ok P w mg base 2 T.f_jaf (w70 T):=wh9 T (n:=1) (FnOk.mono H_jab (by decide)) (FnOk.mono H_jac (by decide)) (FnOk.mono H_jad (by decide));have H_jbm:Ok P w mg base 2 T.f_jbm (vc3 T):=we9 T (n:=1) (FnOk.mono H_jbj (by decide)) (FnOk.mono H_jah (by decide));have H_jbk:Ok P w mg base 3 T.f_jbk (w60 T):=wf1 T (n:=1) (FnOk.mono H_jbj (by decide)) (FnOk.mono H_jaa (by decide)) (FnOk.mono H_jbm (by decide));have H_jbo:Ok P w mg base 3 T.f_jbo (w58 T):=we7 T (n:=2) (FnOk.mono H_jah (by decide)) (FnOk.mono H_jbm (by decide));have H_jbt:Ok P w mg base 4 T.f_jbt (w55 T):=we3 T (n:=3) (FnOk.mono H_jac (by decide)) (FnOk.mono H_jae (by decide)) (FnOk.mono H_jaf (by decide)) (FnOk.mono H_jbk (by decide)) (FnOk.mono H_jbo (by decide));have H_jbl:OkX P w mg base 5 T.f_jbl (vc4 T):=wf0 T (n:=2) (FnOk.mono H_jaa (by decide)) (FnOk.mono H_jad (by decide)) (FnOk.mono H_jbp (by decide)) (FnOk.mono H_jbn (by decide)) (FnOk.mono H_jbt (by decide));have H_jaw:Ok P w mg base 1 T.f_jaw (v01 T):=wg3 T (n:=0);have H_jat:Ok P w mg base 1 T.f_jat (u85 T):=wg6 T (n:=0);have H_jas:Ok P w mg base 2 T.f_jas (w65 T):=wg7 T (n:=1) (FnOk.mono H_jat (by decide));have H_jau:Ok P w mg base 2 T.f_jau (vl6 T):=wg5 T (n:=1) (FnOk.mono H_jat (by decide));have H_jai:Ok P w mg base 3 T.f_jai (vc6 T):=wh7 T (n:=2) (FnOk.mono H_jat (by decide)) (FnOk.mono H_jau (by decide));have H_jaz:Ok P w mg base 4 T.f_jaz (vl4 T):=wg0 T (n:=3) (FnOk.mono H_jat (by decide)) (FnOk.mono H_jai (by decide));have H_jba:Ok P w mg base 1 T.f_jba (vl3 T):=wf9 T (n:=0);have H_jay:Ok P w mg base 5 T.f_jay (w63 T):=wg1 T (n:=4) (FnOk.mono H_jaw (by decide)) (FnOk.mono H_jat (by decide)) (FnOk.mono H_jai (by decide)) (FnOk.mono H_jaz (by decide)) (FnOk.mono H_jba (by decide));have H_jav:Ok P w mg base 6 T.f_jav (w64 T):=wg4 T (n:=5) (FnOk.mono H_jaw (by decide)) (FnOk.mono H_jat (by decide)) (FnOk.mono H_jas (by decide)) (FnOk.mono H_jay (by decide));have R_jbe:∀ dp,Ok P w mg base (0+dp) T.f_jbe (v00 T dp):=by
  intro dp
  induction dp with
  | zero=>exact wn6 T
  | succ dp ih=>exact wf5 T (n:=0+dp) (dp:=dp) ih
 have H_jbe:Ok P w mg base 8 T.f_jbe (wn3 T):=R_jbe 8;have H_jar:Ok P w mg base 9 T.f_jar (w66 T):=wg8 T (n:=8) (FnOk.mono H_jbe (by decide));have H_jap:Ok P w mg base 1 T.f_jap (v02 T):=wh0 T (n:=0);have H_jao:Ok P w mg base 1 T.f_jao (v03 T):=wh1 T (n:=0);have H_jan:Ok P w mg base 2 T.f_jan (vl8 T):=wh2 T (n:=1) (FnOk.mono H_jap (by decide)) (FnOk.mono H_jao (by decide));have H_jam:Ok P w mg base 2 T.f_jam (vc5 T):=wh3 T (n:=1) (FnOk.mono H_jap (by decide)) (FnOk.mono H_jao (by decide));have H_jaq:Ok P w mg base 3 T.f_jaq (vl7 T):=wg9 T (n:=2) (FnOk.mono H_jao (by decide)) (FnOk.mono H_jam (by decide));have H_jbb:Ok P w mg base 4 T.f_jbb (w62 T):=wf8 T (n:=3) (FnOk.mono H_jap (by decide)) (FnOk.mono H_jam (by decide)) (FnOk.mono H_jaq (by decide));have H_jbg:Ok P w mg base 5 T.f_jbg (w61 T):=wf4 T (n:=4) (FnOk.mono H_jan (by decide)) (FnOk.mono H_jbb (by decide));have H_jak:Ok P w mg base 1 T.f_jak (w68 T):=wh5 T (n:=0);have H_jbd:Ok P w mg base 2 T.f_jbd (vl1 T):=wf6 T (n:=1) (FnOk.mono H_jat (by decide));have H_jax:Ok P w mg base 2 T.f_jax (vl5 T):=wg2 T (n:=1) (FnOk.mono H_jat (by decide));have H_jal:Ok P w mg base 2 T.f_jal (w67 T):=wh4 T (n:=1) (FnOk.mono H_jat (by decide));have H_jaj:Ok P w mg base 3 T.f_jaj (w69 T):=wh6 T (n:=2) (FnOk.mono H_jat (by decide)) (FnOk.mono H_jbd (by decide)) (FnOk.mono H_jax (by decide)) (FnOk.mono H_jal (by decide));have H_jbc:Ok P w mg base 6 T.f_jbc (vl2 T):=wf7 T (n:=5) (FnOk.mono H_jbl (by decide));have H_law:Ok P w mg base 18 T.f_law (w54 T):=we2 T (n:=17) (FnOk.mono H_jbs (by decide)) (FnOk.mono H_jbl (by decide)) (FnOk.mono H_jaw (by decide)) (FnOk.mono H_jat (by decide)) (FnOk.mono H_jav (by decide)) (FnOk.mono H_jar (by decide)) (FnOk.mono H_jbg (by decide)) (FnOk.mono H_jak (by decide)) (FnOk.mono H_jaj (by decide)) (FnOk.mono H_jbc (by decide));exact H_law
theorem walk {l:W.OpenLaw} {q:Program} {loose:List Str} {XP:(Str->Option Value)->Heap->Prop} {YP:World->Heap->Prop} {d:DefRec} {K:Params->W.Frag} (hn:l.most=some 63) (hdf:d.params.defaults=[])
  (hY:∀ (w:World) (h:Heap),YP w h->(K w.params).In h) (hL:∀ w:World,noL (K w.params)=true)
  (F:∀ (w:World) (mg:Str->Option Value) (fa:Addr) (h:Heap),(K w.params).In h->h.Ns mainGlobals mg->mg d.name=some (.ref fa)->∃ T:Txt (K w.params) mg,∀ (s:Shared) (v:Value),BindsTo s T.f_law.fd ⟨[v],[]⟩ [("_law_script",v)]) (hdn:d.name = "law" := by rfl) :
  W.WalkO q loose XP YP l.row.toRowW d [] (fun f vs=>PySem.call f vs):=by
 refine L2.walk_of (n:=63) (k:=18) (x := "_law_script") (CX:=fun _=>CX0) (sp:=fun w=>ua2 (K w.params) vm9) hn (by decide) hdf ⟨rfl,by decide,by decide⟩ hY (fun w mg fa h hK hN hm=>?_) (fun w H a ns hl hO hS=>wj5 (hL w) hl hO hS) fun _ _ _ _ _ z=>z
 obtain ⟨T,hb⟩:=F w mg fa h hK hN hm;rw [hdn] at hm;have e:=hm.symm.trans T.g_law;cases e;exact ⟨T.f_law.fd,hb,fun base _ _=>wn0 T⟩
end Law
end
namespace PySem.W.Fast
def tw15254348899590835279:=0
def tw1171572779172821915:=0
def tw9473069469995870335:=0
def tw16565929413334903040:=0
def tw6415550474328714142:=0
def tw14289302422180379115:=0
def tw6250662674445545922:=0
def tw14426008675015065760:=0
def tw5453960441309898279:=0
def tw3628060591172588188:=0
def tw8121239356178052934:=0
def tw10685082028081382300:=0
def tw9893597714743640899:=0
def tw17480872389131485480:=0
def tw10943711139889257523:=0
def tw8888754206452652022:=0
def tw8855289524933079521:=0
def tw5635057034642715561:=0
def tw7328315662806407430:=0
def tw10472614268302139722:=0
def tw11568515653205415632:=0
def tw14572481152206395876:=0
def tw13283189757454700156:=0
def tw6974538395822266326:=0
def tw1803268860529597597:=0
def tw4277119949288968826:=0
def tw11745965193994068489:=0
def tw3338548047930225727:=0
def tw12014364979185288985:=0
def tw2291833592017632048:=0
def tw4417855601617568807:=0
def tw12651179071465859697:=0
def tw6164023244662716821:=0
def tw719511778812812898:=0
def tw7612310191252044277:=0
def tw14919836749926337582:=0
def tw2418814799391934051:=0
def tw16295668101834892864:=0
def tw4764072921058654808:=0
def tw10306994722462157511:=0
def tw2186340742426639901:=0
def tw3677918899681664308:=0
def tw16497720034956681317:=0
def tw16582701834686526586:=0
def tw10044432554623789154:=0
def tw12416599224652770201:=0
def tw16960198758410270230:=0
def tw14119220930855123999:=0
def tw16274158833456893850:=0
def tw11707782722048514618:=0
def tw774790987156807602:=0
def tw15956653703158651958:=0
def tw5755631464411351217:=0
def tw12087282633313658980:=0
def tw70455992160946322:=0
def tw11118946411516071944:=0
def tw11139290477698612631:=0
def tw938533525645086564:=0
def tw14865654534600598364:=0
def tw16756358157921252672:=0
def tw61038556655823638:=0
def tw13282335695682634590:=0
def tw2437435452459337564:=0
def tw14851895032769853939:=0
def tw15701484093019926587:=0
def tw16850271047917259567:=0
def tw743801249911796768:=0
def tw9908594200337123813:=0
def tw3028605133622139243:=0
def tw15319792783129048945:=0
def tw12763393369493328407:=0
def tw9437121351279880430:=0
def tw15487491740826315231:=0
def tw11018588908128840314:=0
def tw18175026593840342366:=0
def tw1122325332977249955:=0
def tw5791644613833396038:=0
def tw5149662983496541232:=0
def tw16727837995869299261:=0
def tw10690816144063960028:=0
def tw6058027889187182216:=0
def tw4451953064878148224:=0
def tw2980063565349094823:=0
def tw1411411950425660111:=0
def tw10084645848707843854:=0
def tw14925327671829938254:=0
def tw10862291656287664218:=0
def tw2173794087477710889:=0
def tw931886878953016688:=0
def tw6756570012960416924:=0
def tw12869439754677032887:=0
def tw3143050779466214384:=0
def tw3747213790974018075:=0
def tw6621601708880187267:=0
def tw16894532908634733596:=0
def tw9928238043540538234:=0
def tw6207736519180135950:=0
def tw5034503483403577799:=0
def tw146617467006766903:=0
def tw8813437423180751923:=0
def tw932932878804984916:=0
def tw16206152730834855147:=0
def tw12962680940490905861:=0
def tw15205086438184113956:=0
def tw1828907483169898787:=0
def tw1596015374071972751:=0
def tw2033355420367809550:=0
def tw4490779267783380498:=0
def tw10070134870439218512:=0
def tw4995871724889972303:=0
def tw16986586044592198435:=0
def tw9556046936715615975:=0
def tw15569999526403284340:=0
def tw13661742581067962149:=0
def tw608353317503682873:=0
def tw17886693967847782901:=0
def tw11958111763338895621:=0
def tw16391843077264637982:=0
def tw3459077531242156553:=0
def tw7950343819645242093:=0
def tw9057923680347885656:=0
def tw3502962288481487398:=0
def tw2702467061940147399:=0
def tw5843377943193495910:=0
def tw16507629155247982320:=0
def tw821021279823757917:=0
def tw2289021410974249215:=0
def tw2500192469766481261:=0
def tw17087672820686132827:=0
def tw16364666699975663848:=0
def tw8244697201822566015:=0
def tw15086877094032655091:=0
def tw3530996905715250560:=0
def tw159233586070822390:=0
def tw16663552636137926684:=0
def tw17792847935825228055:=0
def tw12604495694256464140:=0
def tw6408271592936193391:=0
def tw3593204381645056651:=0
def tw14301206959586707502:=0
def tw13777306706839485108:=0
def tw11091187545103119731:=0
def tw6285963767004818078:=0
def tw13116057523264789307:=0
def tw15517086362333892466:=0
def tw3903158516199560404:=0
def tw9934061801870335974:=0
def tw7547872184972655379:=0
def tw1457989123723302957:=0
def tw8148252251139780375:=0
def tw14685394897660515430:=0
def tw5595172971279535089:=0
def tw5283972605872176183:=0
def tw4756966643942669375:=0
def tw4749877342268842959:=0
def tw2910199459374999895:=0
def tw7099404460114287023:=0
def tw5447097313964046222:=0
def tw1595608231844440923:=0
def tw2333007829696037392:=0
def tw14202172105147099499:=0
def tw568235801998541788:=0
def tw17512307664430573917:=0
def tw15796640576790882455:=0
def tw7361037828707698916:=0
def tw11250643212996683614:=0
def tw3930133820143836028:=0
def tw11416702869327071254:=0
def tw1609379075720925757:=0
end PySem.W.Fast
open PySem PySem.W PyProof.Rows
local macro_rules | `(tactic| ac_rfl) => `(tactic| (refine' Law.df_m ?a ?b ?c ?d; (case a => k_is); (case b => k_is); (case c => k_is); (case d => k_is)))
local macro_rules | `(tactic| bv_omega) => `(tactic| (refine' Law.dm_m ?a ?b ?c ?d ?e; (case a => k_is); (case b => k_is); (case c => k_is); (case d => k_is); (case e => k_is)))
set_option maxHeartbeats 0 in
theorem PySem.Challenge.cw_nolitter_k04_the_first_wrong_row_holds : PySem.Challenge.rw_nolitter_k04_the_first_wrong_row.Holds := by
 w_on; o_law; k_head; (case hw => w_witness2)
 k_fill
 refine Law.walk (l := PySem.Challenge.rw_nolitter_k04_the_first_wrong_row) rfl rfl (fun w h Y => PySem.W.kIn_of Y) ?L ?F
 case L => exact fun w => rfl
 case F =>
  intro w mg fa h KX G hmg
  refine' Law.txt_mk KX G ?aC_Block ?aC_LitterError ?aC_BadText ?aC_TwiceNamed ?aC_TooWide ?aC_NoRow ?aC_NoBox ?aC_BadPlan ?aC_BadCuts ?aC_BadCode ?pm_0 ?pm_34 ?pm_7 ?pm_42 ?pm_33 ?pm_41 ?pm_1 ?pm_2 ?pm_3 ?pm_4 ?pm_36 ?pm_40 ?pm_38 ?pm_43 ?pm_5 ?pm_6 ?pm_35 ?pm_39 ?pm_37 ?pm_23 ?pm_20 ?pm_19 ?pm_21 ?pm_9 ?pm_26 ?pm_27 ?pm_25 ?pm_22 ?pm_31 ?pm_18 ?pm_16 ?pm_15 ?pm_13 ?pm_17 ?pm_14 ?pm_28 ?pm_32 ?pm_11 ?pm_30 ?pm_24 ?pm_12 ?pm_10 ?pm_29 ?pm_8 ?pg_Block ?hd_Block ?po_Block ?sa_Block ?mk_Block ?kc_Block ?n_Block_head ?n_Block_most_ways ?n_Block_ways ?xc_LitterError ?xs_LitterError ?xr_LitterError ?xf_LitterError ?xc_BadText ?xg_BadText ?xt_BadText ?xk_BadText ?zn_BadText ?xc_TwiceNamed ?xg_TwiceNamed ?xt_TwiceNamed ?xk_TwiceNamed ?zn_TwiceNamed ?xc_TooWide ?xg_TooWide ?xt_TooWide ?xk_TooWide ?zn_TooWide ?xc_NoRow ?xg_NoRow ?xt_NoRow ?xk_NoRow ?zn_NoRow ?xc_NoBox ?xg_NoBox ?xt_NoBox ?xk_NoBox ?zn_NoBox ?xc_BadPlan ?xg_BadPlan ?xt_BadPlan ?xk_BadPlan ?zn_BadPlan ?xc_BadCuts ?xg_BadCuts ?xt_BadCuts ?xk_BadCuts ?zn_BadCuts ?xc_BadCode ?xg_BadCode ?xt_BadCode ?xk_BadCode ?zn_BadCode ?kc_BadText ?xa_BadText ?xn_BadText ?zn_BadText_TwiceNamed ?zn_BadText_TooWide ?zn_BadText_NoRow ?zn_BadText_NoBox ?zn_BadText_BadPlan ?zn_BadText_BadCuts ?zn_BadText_BadCode ?v_FIGURES ?v_LETTERS ?v_LONGEST_NAME ?v_WORDS ?dl_WORDS ?ds_WORDS ?ds1_WORDS ?ds2_WORDS ?v_WIDEST ?v_MOST_BOXES ?v_MOST_TIMES ?v_GREATEST ?v_SIGNS ?dl_SIGNS ?ds_SIGNS ?ds1_SIGNS ?ds2_SIGNS ?b_ValueError ?b_abs ?b_all ?b_bool ?b_enumerate ?b_int ?b_isinstance ?b_len ?b_list ?b_max ?b_min ?b_range ?b_str ?b_sum ?b_tuple
  (case aC_Block => k_is)
  (case aC_LitterError => k_is)
  (case aC_BadText => k_is)
  (case aC_TwiceNamed => k_is)
  (case aC_TooWide => k_is)
  (case aC_NoRow => k_is)
  (case aC_NoBox => k_is)
  (case aC_BadPlan => k_is)
  (case aC_BadCuts => k_is)
  (case aC_BadCode => k_is)
  (case pm_0 => bv_omega)
  (case pm_34 => ac_rfl)
  (case pm_7 => ac_rfl)
  (case pm_42 => ac_rfl)
  (case pm_33 => ac_rfl)
  (case pm_41 => ac_rfl)
  (case pm_1 => bv_omega)
  (case pm_2 => bv_omega)
  (case pm_3 => bv_omega)
  (case pm_4 => bv_omega)
  (case pm_36 => ac_rfl)
  (case pm_40 => ac_rfl)
  (case pm_38 => ac_rfl)
  (case pm_43 => ac_rfl)
  (case pm_5 => ac_rfl)
  (case pm_6 => ac_rfl)
  (case pm_35 => ac_rfl)
  (case pm_39 => ac_rfl)
  (case pm_37 => ac_rfl)
  (case pm_23 => ac_rfl)
  (case pm_20 => ac_rfl)
  (case pm_19 => ac_rfl)
  (case pm_21 => ac_rfl)
  (case pm_9 => ac_rfl)
  (case pm_26 => ac_rfl)
  (case pm_27 => ac_rfl)
  (case pm_25 => ac_rfl)
  (case pm_22 => ac_rfl)
  (case pm_31 => ac_rfl)
  (case pm_18 => ac_rfl)
  (case pm_16 => ac_rfl)
  (case pm_15 => ac_rfl)
  (case pm_13 => ac_rfl)
  (case pm_17 => ac_rfl)
  (case pm_14 => ac_rfl)
  (case pm_28 => ac_rfl)
  (case pm_32 => ac_rfl)
  (case pm_11 => ac_rfl)
  (case pm_30 => ac_rfl)
  (case pm_24 => ac_rfl)
  (case pm_12 => ac_rfl)
  (case pm_10 => ac_rfl)
  (case pm_29 => ac_rfl)
  (case pm_8 => ac_rfl)
  (case pg_Block => k_is)
  (case hd_Block => k_is)
  (case po_Block => k_is)
  (case sa_Block => k_is)
  (case mk_Block => k_is)
  (case kc_Block => k_is)
  (case n_Block_head => k_is)
  (case n_Block_most_ways => k_is)
  (case n_Block_ways => k_is)
  (case xc_LitterError => first | (decide) | kernel_rfl | rfl)
  (case xs_LitterError => k_is)
  (case xr_LitterError => k_is)
  (case xf_LitterError => k_is)
  (case xc_BadText => first | (decide) | kernel_rfl | rfl)
  (case xg_BadText => k_is)
  (case xt_BadText => k_is)
  (case xk_BadText => k_is)
  (case zn_BadText => decide)
  (case xc_TwiceNamed => first | (decide) | kernel_rfl | rfl)
  (case xg_TwiceNamed => k_is)
  (case xt_TwiceNamed => k_is)
  (case xk_TwiceNamed => k_is)
  (case zn_TwiceNamed => decide)
  (case xc_TooWide => first | (decide) | kernel_rfl | rfl)
  (case xg_TooWide => k_is)
  (case xt_TooWide => k_is)
  (case xk_TooWide => k_is)
  (case zn_TooWide => decide)
  (case xc_NoRow => first | (decide) | kernel_rfl | rfl)
  (case xg_NoRow => k_is)
  (case xt_NoRow => k_is)
  (case xk_NoRow => k_is)
  (case zn_NoRow => decide)
  (case xc_NoBox => first | (decide) | kernel_rfl | rfl)
  (case xg_NoBox => k_is)
  (case xt_NoBox => k_is)
  (case xk_NoBox => k_is)
  (case zn_NoBox => decide)
  (case xc_BadPlan => first | (decide) | kernel_rfl | rfl)
  (case xg_BadPlan => k_is)
  (case xt_BadPlan => k_is)
  (case xk_BadPlan => k_is)
  (case zn_BadPlan => decide)
  (case xc_BadCuts => first | (decide) | kernel_rfl | rfl)
  (case xg_BadCuts => k_is)
  (case xt_BadCuts => k_is)
  (case xk_BadCuts => k_is)
  (case zn_BadCuts => decide)
  (case xc_BadCode => first | (decide) | kernel_rfl | rfl)
  (case xg_BadCode => k_is)
  (case xt_BadCode => k_is)
  (case xk_BadCode => k_is)
  (case zn_BadCode => decide)
  (case kc_BadText => k_is)
  (case xa_BadText => k_is)
  (case xn_BadText => k_is)
  (case zn_BadText_TwiceNamed => decide)
  (case zn_BadText_TooWide => decide)
  (case zn_BadText_NoRow => decide)
  (case zn_BadText_NoBox => decide)
  (case zn_BadText_BadPlan => decide)
  (case zn_BadText_BadCuts => decide)
  (case zn_BadText_BadCode => decide)
  (case v_FIGURES => k_is)
  (case v_LETTERS => k_is)
  (case v_LONGEST_NAME => k_is)
  (case v_WORDS => k_is)
  (case dl_WORDS => k_is)
  (case ds_WORDS => exact rfl)
  (case ds1_WORDS => exact rfl)
  (case ds2_WORDS => exact rfl)
  (case v_WIDEST => k_is)
  (case v_MOST_BOXES => k_is)
  (case v_MOST_TIMES => k_is)
  (case v_GREATEST => k_is)
  (case v_SIGNS => k_is)
  (case dl_SIGNS => k_is)
  (case ds_SIGNS => exact rfl)
  (case ds1_SIGNS => exact rfl)
  (case ds2_SIGNS => exact rfl)
  (case b_ValueError => k_is)
  (case b_abs => k_is)
  (case b_all => k_is)
  (case b_bool => k_is)
  (case b_enumerate => k_is)
  (case b_int => k_is)
  (case b_isinstance => k_is)
  (case b_len => k_is)
  (case b_list => k_is)
  (case b_max => k_is)
  (case b_min => k_is)
  (case b_range => k_is)
  (case b_str => k_is)
  (case b_sum => k_is)
  (case b_tuple => k_is)
