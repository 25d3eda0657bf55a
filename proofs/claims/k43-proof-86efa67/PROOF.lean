import PyProof.Rows.All
import Wide.All
import OpenK.AllK
import Wide.FinOn
import Lean
import PyProof.EqAt
import PyProof.EqKinds
import PyProof.TupleCall
import PyProof.NeKinds
import PyProof.Rows.SeqMore
import PyProof.FactsAll.tuple_2
import KE.KDictOf
import PyProof.ExcInit
import PyProof.ExcClass3
import PyProof.NsDelKeeps
import PyProof.RulesAs
import PyProof.Rows.CountFlat
import PyProof.AutoListH
import KE.KIntText
import PyProof.Rows.CatFin
import PyProof.Rows.Range3
import PyProof.Rows.CallKwBuiltin
import PyProof.NoPylong
import PyProof.EnumMake
import PyProof.Draws
import PyProof.DictWalks
import PyProof.DictUpdate
import KE.KLam
import KE.KMinKey
import KE.KNestM
import KE.KDictSum
import PyProof.Rows.SortShell
import PyProof.SetKind
import PyProof.SetRoads
import PyProof.Rows.SetFrom
import PySem.Challenge.RW_nolitter_k43_whole_no_way_is_nearer
set_option Elab.async false
set_option linter.all false
set_option maxRecDepth 100000
set_option maxHeartbeats 4000000
local macro_rules | `(tactic| decide) => `(tactic| decide +kernel)
noncomputable section
namespace L2
open PySem PySem.Spec PyProof.Rows
abbrev Key:=Sum Int Str
def uv8:Key->Value->Bool
 | .inl k,v=>Value.isInt k v
 | .inr x,v=>Value.isStrOf x v
def keyH (w:World):Key->Int
 | .inl k=>hashInt k
 | .inr x=>hashStr w x
theorem u20:∀ {k:Key} {v:Value},uv8 k v=true->(∃ i t,k=Sum.inl i /\ v=Value.int i t) \/ (∃ x t,k=Sum.inr x /\ v=Value.str x t)
 | .inl i,v,h=>by
  obtain ⟨t,e⟩:=Value.isInt_shape (k:=i) (v:=v) h;exact .inl ⟨i,t,rfl,e⟩
 | .inr x,v,h=>by
  obtain ⟨t,e⟩:=Value.isStrOf_shape (x:=x) (v:=v) h;exact .inr ⟨x,t,rfl,e⟩
theorem v37 (i:Int) (t:Tok):uv8 (.inl i) (.int i t)=true:=by simp [uv8,Value.isInt]
theorem v36 (x:Str) (t:Tok):uv8 (.inr x) (.str x t)=true:=by simp [uv8,Value.isStrOf]
theorem wc8 (a b:Int):decide ((Sum.inl a:Key)=Sum.inl b)=(a == b):=by
 by_cases e:a=b
 ·subst e;simp
 ·have h:¬ (Sum.inl a:Key)=Sum.inl b:=fun q=>e (Sum.inl.inj q)
  rw [decide_eq_false h];exact (beq_eq_false_iff_ne.mpr e).symm
theorem wc5 (a b:Str):decide ((Sum.inr a:Key)=Sum.inr b)=decide (a=b):=by
 by_cases e:a=b
 ·subst e;simp
 ·have h:¬ (Sum.inr a:Key)=Sum.inr b:=fun q=>e (Sum.inr.inj q)
  rw [decide_eq_false h,decide_eq_false e]
theorem wc7 (a:Int) (b:Str):decide ((Sum.inl a:Key)=Sum.inr b)=false:=decide_eq_false (fun q=>nomatch q)
theorem wc6 (a:Str) (b:Int):decide ((Sum.inr a:Key)=Sum.inl b)=false:=decide_eq_false (fun q=>nomatch q)
def u14 (prog:Program) (w:World):PySem.KeyKind prog w Key where
 is:=uv8
 hash:=keyH w
 inj:=fun v a b ha hb=>by
  rcases u20 ha with ⟨i,t,rfl,rfl⟩ | ⟨x,t,rfl,rfl⟩
  ·rcases u20 hb with ⟨j,u,rfl,e⟩ | ⟨y,u,rfl,e⟩
   ·injection e with e1 _;rw [e1]
   ·exact nomatch e
  ·rcases u20 hb with ⟨j,u,rfl,e⟩ | ⟨y,u,rfl,e⟩
   ·exact nomatch e
   ·injection e with e1 _;rw [e1]
 byValue:=fun k v h=>by
  rcases u20 h with ⟨i,t,rfl,rfl⟩ | ⟨x,t,rfl,rfl⟩ <;> rfl
 pyHash:=fun hv h=>by
  rcases u20 hv with ⟨i,t,rfl,rfl⟩ | ⟨x,t,rfl,rfl⟩
  ·exact wpAny_pyHash_int h
  ·exact wpAny_pyHash_str h
 eqBool:=fun hu hv h=>by
  rcases u20 hu with ⟨i,t,rfl,rfl⟩ | ⟨x,t,rfl,rfl⟩
  ·rcases u20 hv with ⟨j,u,rfl,rfl⟩ | ⟨y,u,rfl,rfl⟩
   ·rw [wc8] at h;exact wpAny_eqBool_int h
   ·rw [wc7] at h;exact SeqAt.EqAt.int_str i t y u _ _ _ _ h
  ·rcases u20 hv with ⟨j,u,rfl,rfl⟩ | ⟨y,u,rfl,rfl⟩
   ·rw [wc6] at h;exact SeqAt.EqAt.str_int x t j u _ _ _ _ h
   ·rw [wc5] at h;exact wpAny_eqBool_str h
 «strs»:=fun k x t v h=>by
  rcases u20 h with ⟨i,u,rfl,e⟩ | ⟨y,u,rfl,e⟩
  ·exact nomatch e
  ·injection e with e1 _
   subst e1;cases v <;> rfl
theorem un6 (prog:Program) (w:World) (i:Int) (t:Tok):(u14 prog w).is (.inl i) (.int i t)=true:=v37 i t
theorem un5 (prog:Program) (w:World) (x:Str) (t:Tok):(u14 prog w).is (.inr x) (.str x t)=true:=v36 x t
inductive V where
 | non | bl (b:Bool) | int (i:Int) | str (x:Str) | byt (b:Array UInt8) | flt (b:UInt64) | ref (a:Addr) | ty (n:String)
 deriving DecidableEq
def RelV:V->Value->Prop
 | .non,u=>u=Value.none
 | .bl b,u=>u=Value.bool b
 | .int i,u=>∃ t,u=Value.int i t
 | .str x,u=>∃ t,u=Value.str x t
 | .byt b,u=>∃ t,u=Value.bytes b t
 | .flt b,u=>∃ t,u=Value.float b t
 | .ref a,u=>u=Value.ref a
 | .ty n,u=>u=Value.type n
abbrev Vals:List V->List Value->Prop:=Paired RelV
theorem Vals.length {xs:List V} {us:List Value} (r:Vals xs us):xs.length=us.length:=Paired.length r
theorem Vals.get:∀ {xs:List V} {us:List Value} {i:Nat} {x:V},Vals xs us->xs[i]?=some x->∃ u,us[i]?=some u /\ RelV x u
 | _,_,_,_,.nil,e=>by simp at e
 | _,_,0,_,.cons r _,e=>by simp at e;subst e;exact ⟨_,rfl,r⟩
 | _,_,i+1,x,.cons _ t,e=>by
  obtain ⟨u,h1,h2⟩:=Vals.get (i:=i) (x:=x) t (by simpa using e);exact ⟨u,by simpa using h1,h2⟩
theorem Vals.set {x:V} {u:Value} (r:RelV x u):∀ {xs:List V} {us:List Value} (i:Nat),Vals xs us->Vals (xs.set i x) (us.set i u)
 | _,_,_,.nil=>.nil
 | _,_,0,.cons _ t=>.cons r t
 | _,_,i+1,.cons q t=>.cons q (Vals.set r i t)
theorem Vals.append:∀ {xs ys:List V} {us ws:List Value},Vals xs us->Vals ys ws->Vals (xs++ys) (us++ws)
 | _,_,_,_,.nil,s=>s
 | _,_,_,_,.cons r t,s=>.cons r (Vals.append t s)
theorem Vals.take:∀ {xs:List V} {us:List Value} (n:Nat),Vals xs us->Vals (xs.take n) (us.take n)
 | _,_,0,_=>.nil
 | _,_,_+1,.nil=>.nil
 | _,_,n+1,.cons r t=>.cons r (Vals.take n t)
theorem Vals.drop:∀ {xs:List V} {us:List Value} (n:Nat),Vals xs us->Vals (xs.drop n) (us.drop n)
 | _,_,0,r=>r
 | _,_,_+1,.nil=>.nil
 | _,_,n+1,.cons _ t=>Vals.drop n t
theorem Vals.none_of:∀ {xs:List V} {us:List Value} {i:Nat},Vals xs us->xs[i]?=none->us[i]?=none:=fun {xs us i} r e=>by
 have h1:=r.length;have h2:xs.length<=i:=List.getElem?_eq_none_iff.mp e;exact List.getElem?_eq_none_iff.mpr (by omega)
def RelO:Option V->Option Value->Prop
 | some v,some u=>RelV v u
 | none,none=>True
 | _,_=>False
def KV {κ:Type}:List (κ × V)->List (κ × Value)->Prop:=Paired fun (p:κ × V) (q:κ × Value)=>p.1=q.1 /\ RelV p.2 q.2
def kV:Key->V
 | .inl i=>.int i
 | .inr x=>.str x
inductive HO where
 | lst (xs:List V)
 | tup (xs:List V)
 | dK (kvs:List (Key × V)) | dT (kvs:List (List Key × V))
 | set (S:Int->Bool) (n:Nat)
 | ins (C dx:Addr) (fs:List (Str × V))
 | own (x:Addr)
 | xd (fs:List (Str × V))
 | met (f x:Addr)
 | rng (lo hi:Int)
 | frz (o:Obj) (u:HO)
 | tbl (ps:Array Value)
 | ext (φ:Heap->Prop)
abbrev Hp:=Addr->Option HO
def upd (H:Hp) (a:Addr) (o:HO):Hp:=fun b=>if b=a then some o else H b
theorem u13 {H:Hp} {a:Addr} {o:HO}:upd H a o a=some o:=by unfold upd;rw [if_pos rfl]
theorem u10 {H:Hp} {a b:Addr} {o:HO} (h:b ≠ a):upd H a o b=H b:=by unfold upd;rw [if_neg h]
theorem wk6 {H:Hp} {a b:Addr} {o u:HO} (h:H a=some o) (h':H b=some u) (d:o ≠ u):a ≠ b:=by
 intro e;subst e;rw [h] at h';exact d (Option.some.inj h')
theorem u29 {H:Hp} {a b:Addr} {o:HO} (h:H a=some o) (h':H b=none):a ≠ b:=by
 intro e;subst e;rw [h] at h';cases h'
section
variable (P:Program) (w:World)
def TupD (h:Heap) (a:Addr) (its:Array Value):Prop:=∃ o,h.get? a=some o /\ o.cls=.type "tuple" /\ (∃ n,o.data=.seq its n) /\ o.dict=none
theorem TupD.tup {h:Heap} {a:Addr} {its:Array Value} (x:TupD h a its):IsTup h a its:=let ⟨o,e,c,d,_⟩:=x;⟨o,e,c,d⟩
theorem TupD.new (h:Heap) (its:Array Value):TupD (h.push { cls:=.type "tuple",data:=.seq its }) h.objs.size its:=⟨_,Heap.get?_push_size _ rfl,rfl,⟨_,rfl⟩,rfl⟩
def ObjOk (H:Hp) (h:Heap) (a:Addr):HO->Prop
 | .lst xs=>xs.length<=sizeLine /\ ∃ (its:List Value) (n:Nat),Vals xs its /\ h.get? a=some { cls:=.type "list",data:=.seq its.toArray n }
 | .tup xs=>xs.length<=sizeLine /\ ∃ its:List Value,Vals xs its /\ TupD h a its.toArray
 | .dK kvs=>kvs.length<=sizeLine /\ (a == sysModules)=false /\ ∃ vs,KV kvs vs /\ h.DictOf (u14 P w) a vs
 | .dT kvs=>kvs.length<=sizeLine /\ (a == sysModules)=false /\ ∃ xs:List (List Key × Addr × Value),
   Paired (fun (p:List Key × V) (q:List Key × Addr × Value)=>p.1=q.1 /\ H q.2.1=some (.tup (p.1.map kV)) /\ RelV p.2 q.2.2) kvs xs /\
   ∃ o es ep,h.get? a=some o /\ o.ExactDict /\ o.data=.dict es ep /\ es.toList=xs.map (entryOfKey (tupleKind (u14 P w))) /\ (xs.map (·.1)).Nodup
 | .set S n=>h.SetOf (intKind P w) a S n
 | .ins C dx fs=>H dx=some (.own a) /\ fs.length<=1000 /\ dx ≠ a /\ h.get? a=some (W.instObj C dx) /\
   ∃ mA,h.Ns1 dx mA /\ (∀ f,RelO (fs.lookup f) (mA f)) /\ PySem.Within mA (fs.map (·.1))
 | .own _=>∃ o,h.get? a=some o
 | .xd fs=>∃ mA,h.Ns1 a mA /\ ∀ f,RelO (fs.lookup f) (mA f)
 | .rng lo hi=>∃ t u v,h.get? a=some { cls:=.type "range",data:=.fields #[.int lo t,.int hi u,.int 1 v] }
 | .frz o u=>h.get? a=some o /\ ObjOk H h a u
 | .tbl ps=>h.get? a=some { cls:=.none,data:=.fields ps }
 | .met f x=>h.get? a=some (W.methodObj (.ref f) (.ref x))
 | .ext φ=>φ h /\ (∃ o,h.get? a=some o) /\ ∀ h1 h2:Heap,φ h1->(∀ o,h1.get? a=some o->h2.get? a=some o)->φ h2
def HOk (H:Hp) (h:Heap):Prop:=∀ a o,H a=some o->ObjOk P w H h a o
end
section
variable {P:Program} {w:World} {H H':Hp} {h h':Heap} {a:Addr} {o:HO}
theorem ObjOk.lt (x:ObjOk P w H h a o):a < h.objs.size:=by
 cases o with
 | lst xs=>obtain ⟨_,_,_,_,e⟩:=x;exact Heap.lt_size e
 | tup xs=>obtain ⟨_,_,_,p⟩:=x;exact p.tup.lt
 | dK kvs=>obtain ⟨_,_,_,_,o,_,_,e,_⟩:=x;exact Heap.lt_size e
 | dT kvs=>obtain ⟨_,_,_,_,o,_,_,e,_⟩:=x;exact Heap.lt_size e
 | set S n=>obtain ⟨o,_,_,_,e,_⟩:=x;exact Heap.lt_size e
 | ins C dx fs=>obtain ⟨_,_,_,e,_⟩:=x;exact Heap.lt_size e
 | own y=>obtain ⟨_,e⟩:=x;exact Heap.lt_size e
 | xd fs=>obtain ⟨_,⟨_,_,_,e,_⟩,_⟩:=x;exact Heap.lt_size e
 | rng lo hi=>obtain ⟨_,_,_,e⟩:=x;exact Heap.lt_size e
 | frz ob u=>obtain ⟨e,_⟩:=x;exact Heap.lt_size e
 | tbl ps=>exact Heap.lt_size (show h.get? a=some _ from x)
 | met f y=>exact Heap.lt_size (show h.get? a=some _ from x)
 | ext φ=>obtain ⟨_,⟨_,e⟩,_⟩:=x;exact Heap.lt_size e
theorem Paired.mapP {α β:Type} {F G:α->β->Prop}:∀ {l₁:List α} {l₂:List β},Paired F l₁ l₂->(∀ a b,F a b->G a b)->Paired G l₁ l₂
 | _,_,.nil,_=>.nil
 | _,_,.cons r t,f=>.cons (f _ _ r) (Paired.mapP t f)
theorem ObjOk.stay (x:ObjOk P w H h a o) (k:∀ b u,(b=a \/ H b=some (.own a))->h.get? b=some u->h'.get? b=some u)
  (ho:∀ b,H b=some (.own a)->H' b=some (.own a)) (ht:∀ b xs,H b=some (.tup xs)->H' b=some (.tup xs)):ObjOk P w H' h' a o:=by
 induction o with
 | lst xs=>obtain ⟨z,its,n,r,e⟩:=x;exact ⟨z,its,n,r,k _ _ (.inl rfl) e⟩
 | tup xs=>obtain ⟨z,its,r,ob,e,c⟩:=x;exact ⟨z,its,r,ob,k _ _ (.inl rfl) e,c⟩
 | dK kvs=>obtain ⟨z,y,vs,r,ob,es,ep,e,c⟩:=x;exact ⟨z,y,vs,r,ob,es,ep,k _ _ (.inl rfl) e,c⟩
 | dT kvs =>
  obtain ⟨z,y,xs,r,ob,es,ep,e,c⟩:=x;exact ⟨z,y,xs,Paired.mapP r fun p q z=>⟨z.1,ht _ _ z.2.1,z.2.2⟩,ob,es,ep,k _ _ (.inl rfl) e,c⟩
 | set S n=>obtain ⟨ob,es,ep,t,e,c⟩:=x;exact ⟨ob,es,ep,t,k _ _ (.inl rfl) e,c⟩
 | ins C dx fs =>
  obtain ⟨d,z,ne,e,mA,⟨od,es,ep,e2,c⟩,r⟩:=x;exact ⟨ho _ d,z,ne,k _ _ (.inl rfl) e,mA,⟨od,es,ep,k _ _ (.inr d) e2,c⟩,r⟩
 | own y=>obtain ⟨ob,e⟩:=x;exact ⟨ob,k _ _ (.inl rfl) e⟩
 | xd fs=>obtain ⟨mA,⟨od,es,ep,e,c⟩,r⟩:=x;exact ⟨mA,⟨od,es,ep,k _ _ (.inl rfl) e,c⟩,r⟩
 | rng lo hi=>obtain ⟨t,u,v,e⟩:=x;exact ⟨t,u,v,k _ _ (.inl rfl) e⟩
 | frz ob u ih=>obtain ⟨e,q⟩:=x;exact ⟨k _ _ (.inl rfl) e,ih q⟩
 | tbl ps =>
  have e:h.get? a=some { cls:=.none,data:=.fields ps }:=x
  show h'.get? a=some { cls:=.none,data:=.fields ps }
  exact k a _ (.inl rfl) e
 | met f y =>
  have e:h.get? a=some (W.methodObj (.ref f) (.ref y)):=x
  show h'.get? a=some (W.methodObj (.ref f) (.ref y))
  exact k a _ (.inl rfl) e
 | ext φ=>obtain ⟨p,⟨o,e⟩,st⟩:=x;exact ⟨st _ _ p fun o q=>k _ _ (.inl rfl) q,⟨o,k _ _ (.inl rfl) e⟩,st⟩
theorem HOk.lt (x:HOk P w H h) (e:H a=some o):a < h.objs.size:=(x a o e).lt
theorem HOk.fresh (x:HOk P w H h) (e:h.objs.size<=a):H a=none:=by
 cases q:H a with
 | none=>rfl
 | some u=>exact absurd (Nat.lt_of_lt_of_le (x.lt q) e) (Nat.lt_irrefl _)
theorem HOk.kept (x:HOk P w H h) (k:∀ b u,h.get? b=some u->h'.get? b=some u):HOk P w H h':=fun a o e =>
 (x a o e).stay (fun b u _ q=>k b u q) (fun _ q=>q) fun _ _ q=>q
theorem HOk.laid (x:HOk P w H h) (k:∀ b u,h.get? b=some u->h'.get? b=some u) (hp:h.objs.size<=a) (new:ObjOk P w (upd H a o) h' a o):HOk P w (upd H a o) h':=fun b u e=>by
 have hn:=x.fresh hp
 by_cases hb:b=a
 ·subst hb;rw [u13] at e;cases e;exact new
 ·rw [u10 hb] at e
  exact (x b u e).stay (fun c v _ q=>k c v q) (fun c q=>by rw [u10 (u29 q hn)];exact q) fun c xs q=>by rw [u10 (u29 q hn)];exact q
end
def Rd (H:Hp) (a:Addr) (u:HO):Prop:=H a=some u \/ ∃ o,H a=some (.frz o u)
theorem Rd.of {H:Hp} {a:Addr} {u:HO} (h:H a=some u):Rd H a u:=.inl h
theorem Rd.ok {P:Program} {w:World} {H:Hp} {h:Heap} {a:Addr} {u:HO} (r:Rd H a u) (x:HOk P w H h):ObjOk P w H h a u:=by
 rcases r with r | ⟨o,r⟩
 ·exact x a u r
 ·obtain ⟨_,q⟩:=x a _ r
  exact q
def Mut:Option HO->Prop
 | some (.lst _)=>True
 | some (.dK _)=>True
 | some (.dT _)=>True
 | some (.set _ _)=>True
 | some (.ins _ _ _)=>True
 | some (.ext _)=>True
 | _=>False
section
variable {P:Program} {w:World} {H:Hp} {h h':Heap} {x e:Addr} {o':HO}
theorem HOk.write (ok:HOk P w H h) (mu:Mut (H x)) (he:e=x \/ H e=some (.own x)) (k:∀ b u,b ≠ e->h.get? b=some u->h'.get? b=some u) (heo:∃ u,h'.get? e=some u)
  (new:ObjOk P w (upd H x o') h' x o'):HOk P w (upd H x o') h':=fun b u q=>by
 have nown:∀ c y,H c=some (.own y)->c ≠ x:=fun c y r z=>by subst z;rw [r] at mu;exact mu
 have ntup:∀ c xs,H c=some (.tup xs)->c ≠ x:=fun c xs r z=>by subst z;rw [r] at mu;exact mu
 by_cases hb:b=x
 ·subst hb;rw [u13] at q;cases q;exact new
 ·rw [u10 hb] at q
  by_cases hbe:b=e
  ·have q':H b=some (.own x):=by
    rcases he with z | z
    ·exact absurd (hbe.trans z) hb
    ·rw [hbe];exact z
   rw [q] at q';cases q';obtain ⟨v,hv⟩:=heo;exact ⟨v,by rw [hbe];exact hv⟩
  ·refine (ok b u q).stay (fun c v hc r=>k c v ?_ r) (fun c r=>by rw [u10 (nown c b r)];exact r) fun c xs r=>by rw [u10 (ntup c xs r)];exact r
   rcases hc with rfl | hc
   ·exact hbe
   ·rintro rfl
    rcases he with z | z
    ·exact nown c b hc z
    ·rw [hc] at z;cases z;exact hb rfl
end
def NK:={ u:HO // ∀ ys,u ≠ .dK ys }
structure Un (fs ex:List Addr) (H H':Hp) (h h':Heap):Prop where
 keep:∀ b o,h.get? b=some o->H b=none->b ∉ fs->b ∉ ex->h'.get? b=some o
 slot:∀ b o,h.get? b=some o->H b=none->b ∈ fs->b ∉ ex->∃ sl,h'.get? b=some { o with slots:=sl }
 free:∀ b o,h.get? b=some o->H b=none->b ∉ ex->H' b=none
 there:∀ b o,h.get? b=some o->b ∉ ex->∃ o',h'.get? b=some o'
 tups:∀ b xs,H b=some (.tup xs)->H' b=some (.tup xs)
 frzs:∀ b o (u:NK),H b=some (.frz o u.1)->H' b=some (.frz o u.1)
 tbls:∀ b ps,H b=some (.tbl ps)->∃ more,H' b=some (.tbl (ps++more))
section
variable {fs fs' ex ex':List Addr} {H H1 H2:Hp} {h h1 h2 h':Heap} {a x e:Addr} {o:HO}
theorem Un.any (u:Un fs ex H H1 h h1) {b:Addr} {ob:Obj} (q:h.get? b=some ob) (n:H b=none) (hx:b ∉ ex):∃ sl,h1.get? b=some { ob with slots:=sl }:=by
 by_cases hb:b ∈ fs
 ·exact u.slot b ob q n hb hx
 ·exact ⟨ob.slots,u.keep b ob q n hb hx⟩
theorem Un.trans (a:Un fs ex H H1 h h1) (b:Un fs ex H1 H2 h1 h2):Un fs ex H H2 h h2 where
 keep:=fun c ob q n hc hx=>b.keep c ob (a.keep c ob q n hc hx) (a.free c ob q n hx) hc hx
 slot:=fun c ob q n hc hx=>by
  obtain ⟨sl,e1⟩:=a.slot c ob q n hc hx;obtain ⟨sl',e2⟩:=b.slot c _ e1 (a.free c ob q n hx) hc hx;exact ⟨sl',e2⟩
 free:=fun c ob q n hx=>by
  obtain ⟨o',e1⟩:=a.there c ob q hx;exact b.free c o' e1 (a.free c ob q n hx) hx
 there:=fun c ob q hx=>by
  obtain ⟨o',e1⟩:=a.there c ob q hx;exact b.there c o' e1 hx
 tups:=fun c xs q=>b.tups c xs (a.tups c xs q)
 frzs:=fun c ob xs q=>b.frzs c ob xs (a.frzs c ob xs q)
 tbls:=fun c ps q=>by
  obtain ⟨m1,e1⟩:=a.tbls c ps q;obtain ⟨m2,e2⟩:=b.tbls c _ e1;exact ⟨m1++m2,by rw [e2,Array.append_assoc]⟩
theorem Un.kept (k:∀ b u,h.get? b=some u->h'.get? b=some u):Un fs ex H H h h' :=
 ⟨fun b ob q _ _ _=>k b ob q,fun b ob q _ _ _=>⟨ob.slots,k b ob q⟩,fun _ _ _ n _=>n,fun b ob q _=>⟨ob,k b ob q⟩,fun _ _ q=>q,fun _ _ _ q=>q,fun _ ps q=>⟨#[],by rw [q];simp⟩⟩
theorem Un.refl:Un fs ex H H h h:=Un.kept fun _ _ q=>q
theorem Un.laid (k:∀ b u,h.get? b=some u->h'.get? b=some u) (hp:h.objs.size<=a) (hn:H a=none):Un fs ex H (upd H a o) h h' where
 keep:=fun b u q _ _ _=>k b u q
 slot:=fun b u q _ _ _=>⟨u.slots,k b u q⟩
 free:=fun b u q n _=>by rw [u10 (Nat.ne_of_lt (Nat.lt_of_lt_of_le (Heap.lt_size q) hp))];exact n
 there:=fun b u q _=>⟨u,k b u q⟩
 tups:=fun b xs q=>by rw [u10 (u29 q hn)];exact q
 frzs:=fun b u xs q=>by rw [u10 (u29 q hn)];exact q
 tbls:=fun b ps q=>⟨#[],by rw [u10 (u29 q hn),q];simp⟩
theorem Un.write (mu:Mut (H x)) (he:e=x \/ H e=some (.own x)) (k:∀ b u,b ≠ e->h.get? b=some u->h'.get? b=some u) (heo:∃ u,h'.get? e=some u):Un fs ex H (upd H x o) h h':=by
 have hx:∀ b,H b=none->b ≠ x:=fun b n z=>by subst z;rw [n] at mu;exact mu
 have hb:∀ b,H b=none->b ≠ e:=fun b n z=>by
  subst z
  rcases he with r | r
  ·exact hx b n r
  ·rw [n] at r;cases r
 have hm:∀ b u,H b=some u->¬ Mut (some u)->b ≠ x:=fun b u q nm z=>by subst z;rw [q] at mu;exact nm mu
 refine ⟨fun b u q n _ _=>k b u (hb b n) q,fun b u q n _ _=>⟨u.slots,k b u (hb b n) q⟩,fun b u q n _=>by rw [u10 (hx b n)];exact n,fun b u q _=>?_,
  fun b xs q=>by rw [u10 (hm b _ q fun z=>z)];exact q,fun b u xs q=>by rw [u10 (hm b _ q fun z=>z)];exact q,fun b ps q=>⟨#[],by rw [u10 (hm b _ q fun z=>z),q];simp⟩⟩
 by_cases hbe:b=e
 ·subst hbe;exact heo
 ·exact ⟨u,k b u hbe q⟩
theorem Un.mono (u:Un fs ex H H1 h h1) (hs:∀ b ∈ fs,b ∈ fs') (hx:∀ b ∈ ex,b ∈ ex'):Un fs' ex' H H1 h h1 :=
 ⟨fun b ob q n hb he=>u.keep b ob q n (fun z=>hb (hs b z)) fun z=>he (hx b z),fun _ _ q n _ he=>u.any q n fun z=>he (hx _ z),fun b ob q n he=>u.free b ob q n fun z=>he (hx b z),fun b ob q he=>u.there b ob q fun z=>he (hx b z),u.tups,u.frzs,u.tbls⟩
end
def trk (h:Heap) (H:Hp):List Addr:=(List.range h.objs.size).filter fun a=>(H a).isSome
def hidT (h:Heap) (H:Hp):Heap:=W.hideAll h (trk h H)
theorem v44 (h:Heap) (H:Hp):(hidT h H).objs.size=h.objs.size:=W.hideAll_size _ _
theorem vd1 {h:Heap} {H:Hp} {b:Addr} {o:Obj} (e:h.get? b=some o) (n:H b=none):(hidT h H).get? b=some o :=
 W.hideAll_get _ e fun hm=>by
  have q:(H b).isSome=true:=(List.mem_filter.mp hm).2;rw [n] at q;simp at q
theorem vt1 {h:Heap} {H:Hp} {b:Addr} {o:Obj} (e:(hidT h H).get? b=some o):h.get? b=some o /\ H b=none:=by
 have e':h.get? b=some o:=W.of_hideAll (trk h H) e;refine ⟨e',?_⟩;cases q:H b with
 | none=>rfl
 | some x =>
  have hm:b ∈ trk h H:=List.mem_filter.mpr ⟨List.mem_range.mpr (Heap.lt_size e'),by simp [q]⟩;have z:(hidT h H).get? b=none:=W.hideAll_none (trk h H) hm;rw [z] at e;cases e
def vz2 (g h:Heap) (L:Addr):List (Addr × Obj):=(List.range h.objs.size).filterMap fun a=>if a=L \/ (g.get? a).isSome=true then none else (h.get? a).map fun o=>(a,o)
def rest (g h:Heap) (L d:Addr):List (Addr × Obj):=(vz2 g h L).filter fun p=>decide (p.1 ≠ d)
structure Mod (K:W.Frag) (mg:Str->Option Value) (base:Heap):Prop where
 kin:K.In base
 glob:base.Ns mainGlobals mg
 blt:∃ mb,base.Ns builtinsNs mb /\ ∀ x:Str,x ≠ "__name__" -> mb x=bootBuiltins x
 nolimit:base.NoLimit
/-- the context: a def's body (or a comprehension's block) running. base: fixed through the whole law; s₀,H₀: the entry; outer: the frames whose slots others may change (a def's callers); stack: all frames that run;
   ex: iterators that were made ahead of the entry and are walked here (a comprehension's);fn: the names whose cells were made at the entry (a def: all;a comprehension's block: its own);calm: not within an except suite;pn: pins that every state bears;xe: what is wanted of an exception that leaves the code -/
structure Cx where
 prog:Program
 w:World
 K:W.Frag
 mg:Str->Option Value
 base:Heap
 A:Around
 N:List Str
 s₀:Shared
 H₀:Hp
 env:Env
 outer:List Env
 stack:List Env
 ex:List Addr
 fn:Str->Bool
 calm:Bool
 pn:List (Addr × Obj)
 xe:Value->Shared->Prop
def frs (l:List Env):List Addr:=l.filterMap (·.frame)
abbrev Cx.fs (X:Cx):List Addr:=frs X.outer
def Vis (sc:Scope) (x:Str):Prop:=sc.names.lookup x=some .local \/ sc.names.lookup x=some .cell \/ sc.names.lookup x=some .free
def Loc (sc:Scope) (x:Str):Prop:=sc.names.lookup x=some .local \/ sc.names.lookup x=some .cell
def Look (env:Env) (h:Heap) (m:Str->Option Value) (x:Str) (u:Value):Prop :=
 (env.kindOf x=some .local /\ m x=some u) \/ ((env.kindOf x=some .cell \/ env.kindOf x=some .free) /\ ∃ c,env.cells.lookup x=some c /\ h.IsCell c (some u))
structure Cx.Ok (X:Cx):Prop where
 mod:Mod X.K X.mg X.base
 kind:X.env.scope.kind=.function
 glob:X.env.globals=mainGlobals
 blt:X.env.builtins=builtinsNs
 above:X.s₀.heap.objs.size<=X.env.locals
 inj:∀ x y c,X.env.cells.lookup x=some c->X.env.cells.lookup y=some c->x=y
 has:∀ x,(X.env.kindOf x=some .cell \/ X.env.kindOf x=some .free)->∃ c,X.env.cells.lookup x=some c
 cab:∀ x c,X.fn x=true->X.env.cells.lookup x=some c->X.s₀.heap.objs.size<=c
 hd:X.calm=true->X.A.handled=none
 frames:X.A.frames=some X.stack
 stk:X.stack=X.outer \/ (X.stack=X.env::X.outer /\ X.env.frame=some X.env.locals)
 exf:∀ b ∈ X.ex,b ≠ X.env.locals /\ ∀ x c,X.env.cells.lookup x=some c->c ≠ b
 bs:∀ b o,X.base.get? b=some o->X.s₀.heap.get? b=some o /\ X.H₀ b=none
 bsz:X.base.objs.size<=X.s₀.heap.objs.size
 noex:∀ b o,X.base.get? b=some o->b ∉ X.ex
 exfs:∀ b ∈ X.ex,b ∉ X.fs
 funs:X.s₀.heap.FunFrames X.base X.outer
 frf:∀ b ∈ X.fs,X.H₀ b=none
structure Inv (X:Cx) (pins:List (Addr × Obj)) (σ:List (Option V)) (H:Hp) (s:Shared):Prop where
 ok:X.Ok
 os:s.os=X.s₀.os
 bare:AllBare s.gens
 base:Un X.fs X.ex X.H₀ H X.s₀.heap s.heap
 loc:∃ m,s.heap.Ns X.env.locals m /\ ∀ (i:Nat) (x:Str) (v:V),X.N[i]?=some x->σ[i]?=some (some v)->Vis X.env.scope x->∃ u,RelV v u /\ Look X.env s.heap m x u
 cell:∀ x c,X.env.cells.lookup x=some c->∃ v,s.heap.IsCell c v
 free:H X.env.locals=none
 freeC:∀ x c,X.env.cells.lookup x=some c->H c=none
 pin:∀ p ∈ X.pn++pins,s.heap.get? p.1=some p.2 /\ H p.1=none /\ p.1 ≠ X.env.locals /\ p.1 ∉ X.fs /\ ∀ v,p.2.data ≠ .cell v
 hok:HOk X.prog X.w H s.heap
 len:σ.length=X.N.length
section
variable {X:Cx} {pins:List (Addr × Obj)} {σ:List (Option V)} {H H':Hp} {s:Shared} {h':Heap}
theorem Cx.Ok.nofr (ok:X.Ok) {b:Addr} {o:Obj} (e:X.base.get? b=some o):b ∉ X.fs:=fun hb=>by
 have:=(ok.funs.mem hb).1;rw [e] at this;cases this
theorem Inv.bs (I:Inv X pins σ H s):∀ b o,X.base.get? b=some o->s.heap.get? b=some o /\ H b=none:=fun b o e =>
 ⟨I.base.keep b o (I.ok.bs b o e).1 (I.ok.bs b o e).2 (I.ok.nofr e) (I.ok.noex b o e),I.base.free b o (I.ok.bs b o e).1 (I.ok.bs b o e).2 (I.ok.noex b o e)⟩
theorem Inv.bk (I:Inv X pins σ H s):∀ b o,X.base.get? b=some o->s.heap.get? b=some o:=fun b o e=>(I.bs b o e).1
theorem Inv.mod (I:Inv X pins σ H s):Mod X.K X.mg X.base:=I.ok.mod
theorem Inv.kIn (I:Inv X pins σ H s):X.K.In s.heap:=I.ok.mod.kin.keeps I.bk
theorem Inv.nolimit (I:Inv X pins σ H s):s.heap.NoLimit:=I.ok.mod.nolimit.keeps I.bk
theorem Inv.lt (I:Inv X pins σ H s):X.env.locals < s.heap.objs.size:=let ⟨_,hn,_⟩:=I.loc;hn.lt
theorem Inv.sz (I:Inv X pins σ H s):X.s₀.heap.objs.size<=s.heap.objs.size:=Nat.le_trans I.ok.above (Nat.le_of_lt I.lt)
theorem Inv.nofs (I:Inv X pins σ H s) {a:Addr} (h:s.heap.objs.size<=a):a ∉ X.fs:=fun hb=>by
 obtain ⟨_,o,ho,_⟩:=I.ok.funs.mem hb;exact absurd (Nat.lt_of_lt_of_le (Heap.lt_size ho) (Nat.le_trans I.sz h)) (Nat.lt_irrefl _)
theorem Inv.cne (I:Inv X pins σ H s):∀ x c,X.env.cells.lookup x=some c->c ≠ X.env.locals:=fun x c e z=>by
 obtain ⟨v,o,ho,hd⟩:=I.cell x c e;obtain ⟨m,⟨o',es,ep,ho',hd',_⟩,_⟩:=I.loc;rw [z,ho'] at ho;cases ho;rw [hd'] at hd;cases hd
theorem Inv.funs (I:Inv X pins σ H s):s.heap.FunFrames X.base X.outer:=by
 have all:∀ (l:List Env),(∀ b ∈ frs l,b ∈ X.fs)->X.s₀.heap.FunFrames X.base l->s.heap.FunFrames X.base l:=by
  intro l
  induction l with
  | nil=>intro _ _;trivial
  | cons env r ih =>
   intro hs hl;obtain ⟨hk,⟨L,o,hf,hn,ho,hd⟩,hr⟩:=hl;have hL:L ∈ X.fs:=hs L (by unfold frs;rw [List.filterMap_cons,hf];exact List.mem_cons_self);obtain ⟨sl,e⟩:=I.base.slot L o ho (I.ok.frf L hL) hL fun z=>I.ok.exfs L z hL
   exact ⟨hk,⟨L,_,hf,hn,e,hd⟩,ih (fun b hb=>hs b (by unfold frs;rw [List.filterMap_cons,hf];exact List.mem_cons_of_mem _ hb)) hr⟩
 exact all X.outer (fun _ hb=>hb) I.ok.funs
theorem Inv.stack (I:Inv X pins σ H s):s.heap.FunFrames X.base X.stack:=by
 rcases I.ok.stk with e | ⟨e,hf⟩
 ·rw [e];exact I.funs
 ·rw [e]
  obtain ⟨m,hn,_⟩:=I.loc;refine .cons (by rw [I.ok.kind];decide) hf hn ?_ I.funs;exact Heap.get?_none_of_le (Nat.le_trans I.ok.bsz I.ok.above)
theorem Inv.stkSub (I:Inv X pins σ H s):∀ b ∈ frs X.stack,b ∈ X.env.locals::X.fs:=fun b hb=>by
 rcases I.ok.stk with e | ⟨e,hf⟩
 ·rw [e] at hb;exact List.mem_cons_of_mem _ hb
 ·rw [e] at hb
  unfold frs at hb;rw [List.filterMap_cons,hf] at hb;exact hb
theorem Inv.stkFree (I:Inv X pins σ H s):∀ b ∈ frs X.stack,H b=none:=fun b hb=>by
 rcases List.mem_cons.mp (I.stkSub b hb) with e | hb
 ·rw [e];exact I.free
 ·obtain ⟨_,o,ho,_⟩:=I.ok.funs.mem hb
  exact I.base.free b o ho (I.ok.frf b hb) fun z=>I.ok.exfs b z hb
theorem Inv.step {g':Array GenState} {t':Nat} {d':Drawn} {ch:List Addr} (I:Inv X pins σ H s)
  (hch:∀ b ∈ ch,(b ∈ X.ex \/ X.s₀.heap.objs.size<=b) /\ b ≠ X.env.locals /\ (∀ x c,X.env.cells.lookup x=some c->c ≠ b) /\ ∀ p ∈ X.pn++pins,p.1 ≠ b)
  (keep:∀ b o,b ≠ X.env.locals->b ∉ X.fs->b ∉ ch->s.heap.get? b=some o->H b=none->h'.get? b=some o)
  (slot:∀ b o,b ≠ X.env.locals->b ∈ X.fs->b ∉ ch->s.heap.get? b=some o->H b=none->∃ sl,h'.get? b=some { o with slots:=sl }) (free:∀ b o,b ∉ ch->s.heap.get? b=some o->H b=none->H' b=none)
  (there:∀ b o,b ∉ ch->s.heap.get? b=some o->∃ o',h'.get? b=some o')
  (tups:∀ b xs,H b=some (.tup xs)->H' b=some (.tup xs)) (frzs:∀ b o (u:NK),H b=some (.frz o u.1)->H' b=some (.frz o u.1)) (tbls:∀ b ps,H b=some (.tbl ps)->∃ more,H' b=some (.tbl (ps++more)))
  (ns:∀ m,s.heap.Ns X.env.locals m->h'.Ns X.env.locals m) (hok:HOk X.prog X.w H' h') (hg:AllBare g') :
  Inv X pins σ H' { s with heap:=h',gens:=g',drawn:=d',toks:=t' }:=by
 have neL:∀ b o,X.s₀.heap.get? b=some o->b ≠ X.env.locals:=fun b o e=>Nat.ne_of_lt (Nat.lt_of_lt_of_le (Heap.lt_size e) I.ok.above)
 have neC:∀ b o,X.s₀.heap.get? b=some o->b ∉ X.ex->b ∉ ch:=fun b o e hx hb=>by
  rcases (hch b hb).1 with z | z
  ·exact hx z
  ·exact absurd (Nat.lt_of_lt_of_le (Heap.lt_size e) z) (Nat.lt_irrefl _)
 have cellK:∀ x c,X.env.cells.lookup x=some c->∀ v,s.heap.IsCell c v->h'.IsCell c v:=fun x c e v ⟨o,ho,hd⟩=>by
  have nch:c ∉ ch:=fun z=>(hch c z).2.2.1 x c e rfl
  by_cases hc:c ∈ X.fs
  ·obtain ⟨sl,q⟩:=slot c o (I.cne x c e) hc nch ho (I.freeC x c e)
   exact ⟨_,q,hd⟩
  ·exact ⟨o,keep c o (I.cne x c e) hc nch ho (I.freeC x c e),hd⟩
 refine ⟨I.ok,I.os,hg,⟨fun b o e n hb hx=>?_,fun b o e n hb hx=>?_,fun b o e n hx=>?_,fun b o e hx=>?_,fun b xs e=>tups b xs (I.base.tups b xs e),fun b o xs e=>frzs b o xs (I.base.frzs b o xs e),fun b ps e=>?_⟩,?_,fun x c e=>?_,?_,fun x c e=>?_,fun p hp=>?_,hok,I.len⟩
 ·exact keep b o (neL b o e) hb (neC b o e hx) (I.base.keep b o e n hb hx) (I.base.free b o e n hx)
 ·obtain ⟨sl,e1⟩:=I.base.slot b o e n hb hx
  obtain ⟨sl',e2⟩:=slot b _ (neL b o e) hb (neC b o e hx) e1 (I.base.free b o e n hx);exact ⟨sl',e2⟩
 ·obtain ⟨o',e1⟩:=I.base.there b o e hx
  exact free b o' (neC b o e hx) e1 (I.base.free b o e n hx)
 ·obtain ⟨o',e1⟩:=I.base.there b o e hx
  exact there b o' (neC b o e hx) e1
 ·obtain ⟨m1,e1⟩:=I.base.tbls b ps e
  obtain ⟨m2,e2⟩:=tbls b _ e1;exact ⟨m1++m2,by rw [e2,Array.append_assoc]⟩
 ·obtain ⟨m,hn,hl⟩:=I.loc
  refine ⟨m,ns m hn,fun i x v e1 e2 e3=>?_⟩;obtain ⟨u,r,l⟩:=hl i x v e1 e2 e3;refine ⟨u,r,?_⟩
  rcases l with l | ⟨k,c,e,z⟩
  ·exact .inl l
  ·exact .inr ⟨k,c,e,cellK x c e _ z⟩
 ·obtain ⟨v,z⟩:=I.cell x c e
  exact ⟨v,cellK x c e v z⟩
 ·obtain ⟨m,⟨o,_,_,ho,_⟩,_⟩:=I.loc
  exact free _ o (fun z=>(hch _ z).2.1 rfl) ho I.free
 ·obtain ⟨v,o,ho,hd⟩:=I.cell x c e
  exact free c o (fun z=>(hch c z).2.2.1 x c e rfl) ho (I.freeC x c e)
 ·obtain ⟨e,n,ne,nf,d⟩:=I.pin p hp
  have nch:p.1 ∉ ch:=fun z=>(hch p.1 z).2.2.2 p hp rfl
  exact ⟨keep p.1 p.2 ne nf nch e n,free p.1 p.2 nch e n,ne,nf,d⟩
theorem Inv.un {t':Nat} (I:Inv X pins σ H s) (u:Un X.fs [] H H' s.heap h') (hok:HOk X.prog X.w H' h'):Inv X pins σ H' { s with heap:=h',toks:=t' }:=by
 obtain ⟨m,⟨o,es,ep,ho,r⟩,_⟩:=id I.loc;obtain ⟨sl,hL⟩:=u.any ho I.free (by simp);exact I.step (g':=s.gens) (d':=s.drawn) (ch:=[]) (fun _ z=>nomatch z) (fun b o _ hb _ e n=>u.keep b o e n hb (by simp)) (fun b o _ hb _ e n=>u.slot b o e n hb (by simp)) (fun b o _ e n=>u.free b o e n (by simp)) (fun b o _ e=>u.there b o e (by simp)) u.tups u.frzs u.tbls (fun m' hm=>by
  obtain ⟨o',es',ep',ho',r'⟩:=hm;rw [ho] at ho';cases ho';exact ⟨_,es',ep',hL,r'⟩) hok I.bare
theorem Inv.call {g':Array GenState} {t':Nat} {d':Drawn} {ch:List Addr} (I:Inv X pins σ H s) (u:Un (frs X.stack) ch H H' s.heap h') (hok:HOk X.prog X.w H' h') (hg:AllBare g')
  (hch:∀ b ∈ ch,(b ∈ X.ex \/ X.s₀.heap.objs.size<=b) /\ b ≠ X.env.locals /\ (∀ x c,X.env.cells.lookup x=some c->c ≠ b) /\ ∀ p ∈ X.pn++pins,p.1 ≠ b) :
  Inv X pins σ H' { s with heap:=h',gens:=g',drawn:=d',toks:=t' }:=by
 obtain ⟨m,⟨o,es,ep,ho,r⟩,_⟩:=id I.loc;obtain ⟨sl,hL⟩:=u.any ho I.free fun z=>(hch _ z).2.1 rfl
 exact I.step (ch:=ch) hch (fun b o hL hb hc e n=>u.keep b o e n (fun z=>(List.mem_cons.mp (I.stkSub b z)).elim hL hb) hc) (fun b o _ _ hc e n=>u.any e n hc) (fun b o hc e n=>u.free b o e n hc) (fun b o hc e=>u.there b o e hc) u.tups u.frzs u.tbls (fun m' hm=>by
  obtain ⟨o',es',ep',ho',r'⟩:=hm;rw [ho] at ho';cases ho';exact ⟨_,es',ep',hL,r'⟩) hok hg
theorem Inv.turned {t':Nat} {it:Addr} (I:Inv X pins σ H s) (k:∀ b o,b ≠ it->s.heap.get? b=some o->h'.get? b=some o) (hn:H it=none) (hL:it ≠ X.env.locals)
  (h1:it ∈ X.ex \/ X.s₀.heap.objs.size<=it) (h2:∀ x c,X.env.cells.lookup x=some c->c ≠ it) (h3:∀ p ∈ X.pn++pins,p.1 ≠ it):Inv X pins σ H { s with heap:=h',toks:=t' }:=by
 have nit:∀ b u,H b=some u->b ≠ it:=fun b u e z=>by rw [z,hn] at e;cases e
 refine I.step (g':=s.gens) (d':=s.drawn) (ch:=[it]) (fun b hb=>?_) (fun b o _ _ hc e _=>k b o (fun z=>hc (by simp [z])) e) (fun b o _ _ hc e _=>⟨o.slots,k b o (fun z=>hc (by simp [z])) e⟩) (fun _ _ _ _ n=>n)
  (fun b o hc e=>⟨o,k b o (fun z=>hc (by simp [z])) e⟩) (fun _ _ e=>e) (fun _ _ _ e=>e) (fun b ps e=>⟨#[],by rw [e];simp⟩) (fun m hm=>?_) (fun b u e=>?_) I.bare
 ·have e:b=it:=by simpa using hb
  subst e;exact ⟨h1,hL,h2,h3⟩
 ·obtain ⟨o,es,ep,ho,r⟩:=hm
  exact ⟨o,es,ep,k _ o (Ne.symm hL) ho,r⟩
 ·refine (I.hok b u e).stay (fun c v hc q=>k c v ?_ q) (fun _ q=>q) fun _ _ q=>q
  rcases hc with z | z
  ·rw [z];exact nit b u e
  ·exact nit c _ z
theorem Inv.tok (I:Inv X pins σ H s) (t:Nat):Inv X pins σ H { s with toks:=t }:=I.un (h':=s.heap) (t':=t) Un.refl I.hok
theorem Inv.kept {t':Nat} (I:Inv X pins σ H s) (k:∀ b u,s.heap.get? b=some u->h'.get? b=some u):Inv X pins σ H { s with heap:=h',toks:=t' }:=I.un (Un.kept k) (I.hok.kept k)
theorem Inv.laid {a:Addr} {o:HO} {t':Nat} (I:Inv X pins σ H s) (k:∀ b u,s.heap.get? b=some u->h'.get? b=some u) (hp:s.heap.objs.size<=a) (new:ObjOk X.prog X.w (upd H a o) h' a o) :
  Inv X pins σ (upd H a o) { s with heap:=h',toks:=t' }:=I.un (Un.laid k hp (I.hok.fresh hp)) (I.hok.laid k hp new)
theorem Inv.write {x e:Addr} {o:HO} {t':Nat} (I:Inv X pins σ H s) (mu:Mut (H x)) (he:e=x \/ H e=some (.own x)) (k:∀ b u,b ≠ e->s.heap.get? b=some u->h'.get? b=some u) (heo:∃ u,h'.get? e=some u)
  (new:ObjOk X.prog X.w (upd H x o) h' x o):Inv X pins σ (upd H x o) { s with heap:=h',toks:=t' }:=I.un (Un.write mu he k heo) (I.hok.write mu he k heo new)
theorem Inv.weak {σ':List (Option V)} (I:Inv X pins σ H s) (hl:σ'.length=σ.length) (w:∀ (i:Nat) v,σ'[i]?=some (some v)->σ[i]?=some (some v)):Inv X pins σ' H s :=
 ⟨I.ok,I.os,I.bare,I.base,let ⟨m,hn,hl'⟩:=I.loc;⟨m,hn,fun i x v e1 e2 e3=>hl' i x v e1 (w i v e2) e3⟩,I.cell,I.free,I.freeC,I.pin,I.hok,hl.trans I.len⟩
theorem Inv.pins_of {pins':List (Addr × Obj)} (I:Inv X pins σ H s) (h:∀ p ∈ pins',s.heap.get? p.1=some p.2 /\ H p.1=none /\ p.1 ≠ X.env.locals /\ p.1 ∉ X.fs /\ ∀ v,p.2.data ≠ .cell v):Inv X pins' σ H s :=
 ⟨I.ok,I.os,I.bare,I.base,I.loc,I.cell,I.free,I.freeC,fun p hp=>(List.mem_append.mp hp).elim (fun z=>I.pin p (List.mem_append_left _ z)) (h p),I.hok,I.len⟩
theorem us1 {N:List Str} (hN:N.Nodup) {i j:Nat} {x:Str} (a:N[i]?=some x) (b:N[j]?=some x):i=j:=by
 obtain ⟨h1,e1⟩:=List.getElem?_eq_some_iff.mp a;obtain ⟨h2,e2⟩:=List.getElem?_eq_some_iff.mp b;exact (List.getElem_inj hN).mp (e1.trans e2.symm)
theorem ui8 {M:Model} {A:Around} {E:Value->Shared->Prop} {i:Nat} {x:Str} {v:V} {u:Value} {Q:Unit->Shared->Prop} (I:Inv X pins σ H s) (hN:X.N.Nodup) (hi:X.N[i]?=some x) (hx:Loc X.env.scope x) (r:RelV v u)
  (h:∀ s',Inv X pins (σ.set i (some v)) H s'->(∃ a,Heap.SameBut a s.heap s'.heap /\ (a=X.env.locals \/ X.env.cells.lookup x=some a))->Q () s') (hf:X.fn x=true \/ X.env.scope.names.lookup x=some .local:=by first | exact .inl rfl | exact .inr rfl | assumption):wpAny M A (storeName X.env x u) Q E s:=by
 obtain ⟨m,hn,hl⟩:=id I.loc;have hcls:(X.env.scope.kind == .class || (X.env.scope.kind == .module && X.env.locals != X.env.globals))=false:=by rw [I.ok.kind];rfl
 have hiσ:i < σ.length:=by rw [I.len];exact (List.getElem?_eq_some_iff.mp hi).1
 have cne:=I.cne;have tracked:∀ {a:Addr} {h':Heap},(∃ o,s.heap.get? a=some o /\ H a=none)->Heap.SameBut a s.heap h'->HOk X.prog X.w H h':=fun {a h'} ha hs b ob e=>by
  obtain ⟨_,_,hfree⟩:=ha;refine (I.hok b ob e).stay (fun c w' hc q=>(hs.2 c ?_).trans q) (fun _ q=>q) fun _ _ q=>q
  rintro rfl
  rcases hc with rfl | hc
  ·rw [hfree] at e;cases e
  ·rw [hfree] at hc;cases hc
 rcases hx with hk | hk
 ·refine wpAny_storeName_local hk hn (fun h' hn' hs=>?_) hcls
  obtain ⟨oL,_,_,hoL,_⟩:=id hn;refine h _ ⟨I.ok,I.os,I.bare,⟨fun b o e n hb hx=>?_,fun b o e n hb hx=>?_,I.base.free,fun b o e hx=>?_,I.base.tups,I.base.frzs,I.base.tbls⟩,⟨_,hn',fun j y v' e1 e2 e3=>?_⟩,fun y c e=>?_,I.free,I.freeC,fun p hp=>?_,tracked ⟨oL,hoL,I.free⟩ hs,by simpa using I.len⟩ ⟨_,hs,.inl rfl⟩
  ·exact (hs.2 b (Nat.ne_of_lt (Nat.lt_of_lt_of_le (Heap.lt_size e) I.ok.above))).trans (I.base.keep b o e n hb hx)
  ·obtain ⟨sl,e1⟩:=I.base.slot b o e n hb hx
   exact ⟨sl,(hs.2 b (Nat.ne_of_lt (Nat.lt_of_lt_of_le (Heap.lt_size e) I.ok.above))).trans e1⟩
  ·obtain ⟨o',e1⟩:=I.base.there b o e hx
   exact ⟨o',(hs.2 b (Nat.ne_of_lt (Nat.lt_of_lt_of_le (Heap.lt_size e) I.ok.above))).trans e1⟩
  ·by_cases hj:j=i
   ·subst hj
    rw [hi] at e1;cases e1;rw [List.getElem?_set_self hiσ] at e2;cases e2;exact ⟨u,r,.inl ⟨hk,by simp⟩⟩
   ·rw [List.getElem?_set_ne (Ne.symm hj)] at e2
    obtain ⟨u',r',q⟩:=hl j y v' e1 e2 e3;refine ⟨u',r',?_⟩
    rcases q with ⟨k,e⟩ | ⟨k,c,e,z⟩
    ·refine .inl ⟨k,?_⟩
     have:y ≠ x:=fun e=>hj (us1 hN e1 (e ▸ hi))
     simp [this,e]
    ·exact .inr ⟨k,c,e,z.sameBut hs (cne y c e)⟩
  ·obtain ⟨w',z⟩:=I.cell y c e
   exact ⟨w',z.sameBut hs (cne y c e)⟩
  ·obtain ⟨e,n,ne,nf,d⟩:=I.pin p hp
   exact ⟨(hs.2 p.1 ne).trans e,n,ne,nf,d⟩
 ·have hfn:X.fn x=true:=by
   rcases hf with z | z
   ·exact z
   ·rw [z] at hk;cases hk
  obtain ⟨c,hc⟩:=I.ok.has x (.inl hk);obtain ⟨w',z⟩:=I.cell x c hc;refine wpAny_storeName_cell I.ok.kind hk hc z (fun h' hc' hs=>?_);obtain ⟨oc,hoc,hocd⟩:=id z;refine h { s with heap:=h' } ⟨I.ok,I.os,I.bare,⟨fun b o e n hb hx=>?_,fun b o e n hb hx=>?_,I.base.free,fun b o e hx=>?_,I.base.tups,I.base.frzs,I.base.tbls⟩,⟨m,hn.sameBut hs (Ne.symm (cne x c hc)),fun j y v' e1 e2 e3=>?_⟩,fun y c' e=>?_,I.free,I.freeC,fun p hp=>?_,tracked ⟨oc,hoc,I.freeC x c hc⟩ hs,by simpa using I.len⟩ ⟨c,hs,.inr hc⟩
  ·exact (hs.2 b (Nat.ne_of_lt (Nat.lt_of_lt_of_le (Heap.lt_size e) (I.ok.cab x c hfn hc)))).trans (I.base.keep b o e n hb hx)
  ·obtain ⟨sl,e1⟩:=I.base.slot b o e n hb hx
   exact ⟨sl,(hs.2 b (Nat.ne_of_lt (Nat.lt_of_lt_of_le (Heap.lt_size e) (I.ok.cab x c hfn hc)))).trans e1⟩
  ·obtain ⟨o',e1⟩:=I.base.there b o e hx
   exact ⟨o',(hs.2 b (Nat.ne_of_lt (Nat.lt_of_lt_of_le (Heap.lt_size e) (I.ok.cab x c hfn hc)))).trans e1⟩
  ·by_cases hj:j=i
   ·subst hj
    rw [hi] at e1;cases e1;rw [List.getElem?_set_self hiσ] at e2;cases e2;exact ⟨u,r,.inr ⟨.inl hk,c,hc,hc'⟩⟩
   ·rw [List.getElem?_set_ne (Ne.symm hj)] at e2
    obtain ⟨u',r',q⟩:=hl j y v' e1 e2 e3;refine ⟨u',r',?_⟩
    rcases q with q | ⟨k,c',e,z'⟩
    ·exact .inl q
    ·refine .inr ⟨k,c',e,z'.sameBut hs ?_⟩
     rintro rfl;exact hj (us1 hN e1 (I.ok.inj _ _ _ e hc ▸ hi))
  ·by_cases hcc:c'=c
   ·subst hcc;exact ⟨_,hc'⟩
   ·obtain ⟨w2,z2⟩:=I.cell y c' e
    exact ⟨w2,z2.sameBut hs hcc⟩
  ·obtain ⟨e,n,ne,nf,d⟩:=I.pin p hp
   refine ⟨(hs.2 p.1 ?_).trans e,n,ne,nf,d⟩;intro q;rw [q,hoc] at e;have q':oc=p.2:=Option.some.inj e;exact d w' (by rw [<- q'];exact hocd)
theorem ue6 {M:Model} {A:Around} {E:Value->Shared->Prop} {i:Nat} {x:Str} {v:V} {u:Value} {Q:Unit->Shared->Prop} (I:Inv X pins σ H s) (hN:X.N.Nodup) (hi:X.N[i]?=some x) (hx:Loc X.env.scope x) (r:RelV v u)
  (h:∀ s',Inv X pins (σ.set i (some v)) H s'->Q () s') (hf:X.fn x=true \/ X.env.scope.names.lookup x=some .local:=by first | exact .inl rfl | exact .inr rfl | assumption):wpAny M A (storeName X.env x u) Q E s :=
 ui8 I hN hi hx r (fun s' I' _=>h s' I') hf
theorem Inv.call' {s':Shared} {ch:List Addr} (I:Inv X pins σ H s) (ho:s'.os=s.os) (u:Un (frs X.stack) ch H H' s.heap s'.heap) (hok:HOk X.prog X.w H' s'.heap) (hg:AllBare s'.gens)
  (hch:∀ b ∈ ch,(b ∈ X.ex \/ X.s₀.heap.objs.size<=b) /\ b ≠ X.env.locals /\ (∀ x c,X.env.cells.lookup x=some c->c ≠ b) /\ ∀ p ∈ X.pn++pins,p.1 ≠ b):Inv X pins σ H' s':=by
 obtain ⟨h',g',d',t',o'⟩:=s';have e:o'=s.os:=ho;subst e;exact I.call (g':=g') (t':=t') (d':=d') u hok hg hch
end
abbrev XK:=Value->Option Addr->Hp->Prop
abbrev St:=List (Option V)
abbrev VK:=V->Hp->Prop
abbrev TE:=St->Hp->VK->Prop
abbrev TT:=St->Hp->(Bool->Hp->Prop)->Prop
abbrev TA:=St->Hp->(List V->Hp->Prop)->Prop
structure Ends where
 nx:St->Hp->Prop
 rt:VK
 bk:St->Hp->Prop:=fun _ _=>False
 ct:St->Hp->Prop:=fun _ _=>False
abbrev TS:=Ends->St->Hp->Prop
def EP (X:Cx) (pins:List (Addr × Obj)) (σ:St) (Q:VK) (u:Value) (s':Shared):Prop:=∃ v H',Inv X pins σ H' s' /\ RelV v u /\ Q v H'
def TP (X:Cx) (pins:List (Addr × Obj)) (σ:St) (Q:Bool->Hp->Prop) (b:Bool) (s':Shared):Prop:=∃ H',Inv X pins σ H' s' /\ Q b H'
def AP (X:Cx) (pins:List (Addr × Obj)) (σ:St) (Q:List V->Hp->Prop) (us:List Value) (s':Shared):Prop:=∃ vs H',Inv X pins σ H' s' /\ Vals vs us /\ Q vs H'
def SP (X:Cx) (pins:List (Addr × Obj)) (D:Ends) (f:Flow) (s':Shared):Prop :=
 match f with
 | .next=>∃ σ' H',Inv X pins σ' H' s' /\ D.nx σ' H'
 | .brk=>∃ σ' H',Inv X pins σ' H' s' /\ D.bk σ' H'
 | .cont=>∃ σ' H',Inv X pins σ' H' s' /\ D.ct σ' H'
 | .ret u=>∃ v σ' H',Inv X pins σ' H' s' /\ RelV v u /\ D.rt v H'
def PE (X:Cx) (e:Expr) (t:TE):Prop :=
 ∀ (pins:List (Addr × Obj)) (s:Shared) (σ:St) (H:Hp) (Q:VK),Inv X pins σ H s->t σ H Q->wpAny (model X.prog X.w) X.A (eval e X.env) (EP X pins σ Q) X.xe s
def PT (X:Cx) (e:Expr) (t:TT):Prop :=
 ∀ (pins:List (Addr × Obj)) (s:Shared) (σ:St) (H:Hp) (Q:Bool->Hp->Prop),Inv X pins σ H s->t σ H Q->wpAny (model X.prog X.w) X.A (isTrue e X.env (eval e X.env)) (TP X pins σ Q) X.xe s
def PW (X:Cx) (e:Expr) (t:TT):Prop :=
 ∀ (whole:Sem Value) (pins:List (Addr × Obj)) (s:Shared) (σ:St) (H:Hp) (Q:Bool->Hp->Prop),Inv X pins σ H s->t σ H Q->wpAny (model X.prog X.w) X.A (isTrue e X.env whole) (TP X pins σ Q) X.xe s
theorem PW.pt {X:Cx} {e:Expr} {t:TT} (h:PW X e t):PT X e t:=h _
def PA (X:Cx) (es:List Expr) (t:TA):Prop :=
 ∀ (pos:Pos) (pins:List (Addr × Obj)) (s:Shared) (σ:St) (H:Hp) (Q:List V->Hp->Prop),Inv X pins σ H s->t σ H Q->wpAny (model X.prog X.w) X.A (spliced (backTo pos (starEach es X.env))) (AP X pins σ Q) X.xe s
def PS (X:Cx) (st:Stmt) (t:TS):Prop :=
 ∀ (pins:List (Addr × Obj)) (s:Shared) (σ:St) (H:Hp) (D:Ends),Inv X pins σ H s->t D σ H->wpAny (model X.prog X.w) X.A (exec st X.env) (SP X pins D) X.xe s
def PSs (X:Cx) (st:List Stmt) (t:TS):Prop :=
 ∀ (pins:List (Addr × Obj)) (s:Shared) (σ:St) (H:Hp) (D:Ends),Inv X pins σ H s->t D σ H->wpAny (model X.prog X.w) X.A (execs st X.env) (SP X pins D) X.xe s
theorem thn {α:Type} {t:Sem α} {Q Q':α->Shared->Prop} {M:Model} {A:Around} {E:Value->Shared->Prop} {s:Shared} (h:wpAny M A t Q E s) (hQ:∀ a s,Q a s->Q' a s):wpAny M A t Q' E s:=wpAny_mono h hQ fun _ _ x=>x
section
variable {X:Cx}
def tVar (i:Nat):TE:=fun σ H Q=>∃ v,σ[i]?=some (some v) /\ Q v H
def tC (v:V):TE:=fun _ H Q=>Q v H
theorem w55 {i:Nat} {x:Str} {pos:Pos} (hN:X.N[i]?=some x) (hv:Vis X.env.scope x) (hd:(x == ("__debug__" : Str))=false:=by decide) (hcd:(x == ("__classdict__" : Str))=false:=by decide):PE X (.Name x pos) (tVar i):=by
 intro pins s σ H Q I h;obtain ⟨v,e,h⟩:=h;obtain ⟨m,hn,hl⟩:=I.loc;obtain ⟨u,r,l⟩:=hl i x v hN e hv;have fin:EP X pins σ Q u s:=⟨v,H,I,r,h⟩
 rcases l with ⟨hk,hm⟩ | ⟨hk,c,hc,hcell⟩
 ·exact wpAny_Name (wpAny_loadName_local I.ok.kind hk hn hm fin) hd
 ·rcases hk with hk | hk
  ·exact wpAny_Name (wpAny_loadName_cell I.ok.kind hk hc hcell fin) hd
  ·exact wpAny_Name (wpAny_loadName_free I.ok.kind hk hc hcell fin hcd) hd
theorem w61 {i j pos}:PE X (.Constant (.int i) j pos) (tC (.int i)):=fun _ _ _ H _ I h=>wpAny_Constant_int ⟨.int i,H,I.tok _,⟨_,rfl⟩,h⟩
theorem wk2 {b j pos}:PE X (.Constant (.bool b) j pos) (tC (.bl b)):=fun _ _ _ H _ I h=>Constant_bool ⟨.bl b,H,I,rfl,h⟩
theorem w59 {j pos}:PE X (.Constant .none j pos) (tC .non):=fun _ _ _ H _ I h=>Constant_none ⟨.non,H,I,rfl,h⟩
theorem w56 {x j pos}:PE X (.Constant (.str x) j pos) (tC (.str x)):=fun _ _ _ H _ I h=>Calls.Constant_str ⟨.str x,H,I.tok _,⟨_,rfl⟩,h⟩
def Gl (X:Cx) (x:Str):Prop:=X.env.kindOf x=some .globalImplicit
theorem vv6 {E:Value->Shared->Prop} {pins:List (Addr × Obj)} {s:Shared} {σ:St} {H:Hp} {x:Str} {u:Value} {pos:Pos} {Q:Value->Shared->Prop} (I:Inv X pins σ H s) (hg:Gl X x) (hm:X.mg x=some u) (h:Q u s)
  (hd:(x == ("__debug__" : Str))=false:=by decide):wpAny (model X.prog X.w) X.A (eval (.Name x pos) X.env) Q E s :=
 Calls.Name_function_global I.ok.kind hg (Calls.loadGlobal_global (by rw [I.ok.glob];exact I.mod.glob.keeps I.bk) hm h) hd
theorem u70 {E:Value->Shared->Prop} {pins:List (Addr × Obj)} {s:Shared} {σ:St} {H:Hp} {x:Str} {u:Value} {pos:Pos} {Q:Value->Shared->Prop} (I:Inv X pins σ H s) (hg:Gl X x) (hm:X.mg x=none) (hv:bootBuiltins x=some u) (h:Q u s)
  (hn:x ≠ "__name__" := by decide) (hd:(x == ("__debug__" : Str))=false:=by decide):wpAny (model X.prog X.w) X.A (eval (.Name x pos) X.env) Q E s:=by
 obtain ⟨mb,h1,h2⟩:=I.mod.blt;exact Calls.Name_function_global I.ok.kind hg (Calls.loadGlobal_builtin (by rw [I.ok.glob];exact I.mod.glob.keeps I.bk) hm (by rw [I.ok.blt];exact h1.keeps I.bk) ((h2 x hn).trans hv) h) hd
theorem vs6 {x:Str} {v:V} {u:Value} {pos:Pos} (hg:Gl X x) (hm:X.mg x=none) (hv:bootBuiltins x=some u) (r:RelV v u) (hn:x ≠ "__name__" := by decide) (hd:(x == ("__debug__" : Str))=false:=by decide):PE X (.Name x pos) (tC v) :=
 fun _ _ _ H _ I h=>u70 I hg hm hv ⟨v,H,I,r,h⟩ hn hd
variable {a b:Expr} {ta tb:TE} {pos:Pos}
def tB (t:TE):TT:=fun σ H Q=>t σ H fun x H1=>∃ c,x=.bl c /\ Q c H1
theorem w45 {e:Expr} {t:TE} (h:PE X e t) (he:∀ whole,isTrue e X.env whole=(do let v <- whole;standAt e.pos;holding [v] (truthy v)):=by intro _;rfl):PT X e (tB t):=by
 intro pins s σ H Q I hw
 (refine isTrue_plain (thn (h pins s σ H _ I hw) ?_) (he _);rintro v s1 ⟨x,H1,I1,r1,q1⟩)
 obtain ⟨d,rfl,q⟩:=q1;cases r1;exact wpAny_truthy_bool ⟨H1,I1,q⟩
variable {tA tB':TT} {rest:List Expr}
def tAnd (t u:TT):TT:=fun σ H Q=>t σ H fun c H1=>if c=true then u σ H1 Q else Q false H1
def tOr (t u:TT):TT:=fun σ H Q=>t σ H fun c H1=>if c=true then Q true H1 else u σ H1 Q
def tNot (t:TT):TT:=fun σ H Q=>t σ H fun c H1=>Q (!c) H1
theorem vq7 (ha:PT X a tA):PW X (.BoolOp .And [a] pos) tA:=by
 intro wh pins s σ H Q I h;refine isTrue_and (thn (ha pins s σ H Q I h) fun c s1 e=>?_);cases c with
 | true=>exact isTrue_and_nil e
 | false=>exact e
theorem w43 (ha:PT X a tA):PW X (.BoolOp .Or [a] pos) tA:=by
 intro wh pins s σ H Q I h;refine isTrue_or (thn (ha pins s σ H Q I h) fun c s1 e=>?_);cases c with
 | false=>exact isTrue_or_nil e
 | true=>exact e
theorem w44 (ha:PT X a tA) (hb:PW X (.BoolOp .And (b::rest) pos) tB'):PW X (.BoolOp .And (a::b::rest) pos) (tAnd tA tB'):=by
 intro wh pins s σ H Q I h
 (refine isTrue_and (thn (ha pins s σ H _ I h) ?_);rintro c s1 ⟨H1,I1,q1⟩)
 cases c with
 | true=>exact hb wh pins s1 σ H1 Q I1 q1
 | false=>exact ⟨H1,I1,q1⟩
theorem wj4 (ha:PT X a tA) (hb:PW X (.BoolOp .Or (b::rest) pos) tB'):PW X (.BoolOp .Or (a::b::rest) pos) (tOr tA tB'):=by
 intro wh pins s σ H Q I h
 (refine isTrue_or (thn (ha pins s σ H _ I h) ?_);rintro c s1 ⟨H1,I1,q1⟩)
 cases c with
 | true=>exact ⟨H1,I1,q1⟩
 | false=>exact hb wh pins s1 σ H1 Q I1 q1
theorem w46 (ha:PT X a tA):PT X (.UnaryOp .Not a pos) (tNot tA):=by
 intro pins s σ H Q I h;exact isTrue_not (ha pins s σ H (fun c H1=>Q (!c) H1) I h)
def w40 (ta tb:TE):TE:=fun σ H Q=>ta σ H fun x H1=>∃ c,x=.bl c /\ if c=true then tb σ H1 Q else Q (.bl false) H1
def tOrV (ta tb:TE):TE:=fun σ H Q=>ta σ H fun x H1=>∃ c,x=.bl c /\ if c=true then Q (.bl true) H1 else tb σ H1 Q
def w33 (ta:TE):TE:=fun σ H Q=>ta σ H fun x H1=>∃ c,x=.bl c /\ Q (.bl (!c)) H1
theorem w57 {op} {t:TE} (h:PE X a t):PE X (.BoolOp op [a] pos) t:=fun pins s σ H Q I hw=>BoolOp_one (h pins s σ H Q I hw)
theorem w63 (ha:PE X a ta) (hb:PE X (.BoolOp .And (b::rest) pos) tb):PE X (.BoolOp .And (a::b::rest) pos) (w40 ta tb):=by
 intro pins s σ H Q I h
 (refine BoolOp_and (thn (ha pins s σ H _ I h) ?_);rintro v s1 ⟨x,H1,I1,r1,q1⟩)
 obtain ⟨c,rfl,q1⟩:=q1;cases r1;refine wpAny_truthy_bool ?_;cases c with
 | true=>exact hb pins s1 σ H1 Q I1 q1
 | false=>exact ⟨.bl false,H1,I1,rfl,q1⟩
theorem wj8 (ha:PE X a ta) (hb:PE X (.BoolOp .Or (b::rest) pos) tb):PE X (.BoolOp .Or (a::b::rest) pos) (tOrV ta tb):=by
 intro pins s σ H Q I h
 (refine BoolOp_or (thn (ha pins s σ H _ I h) ?_);rintro v s1 ⟨x,H1,I1,r1,q1⟩)
 obtain ⟨c,rfl,q1⟩:=q1;cases r1;refine wpAny_truthy_bool ?_;cases c with
 | false=>exact hb pins s1 σ H1 Q I1 q1
 | true=>exact ⟨.bl true,H1,I1,rfl,q1⟩
theorem w58 (ha:PE X a ta):PE X (.UnaryOp .Not a pos) (w33 ta):=by
 intro pins s σ H Q I h
 (refine UnaryOp_ (thn (ha pins s σ H _ I h) ?_);rintro v s1 ⟨x,H1,I1,r1,q1⟩)
 obtain ⟨c,rfl,q1⟩:=q1;cases r1;exact not_of (wpAny_truthy_bool ⟨.bl (!c),H1,I1,rfl,q1⟩)
def tIf (t:TT) (ta tb:TE):TE:=fun σ H Q=>t σ H fun c H1=>if c=true then ta σ H1 Q else tb σ H1 Q
theorem va0 {c:Expr} (hc:PT X c tA) (ha:PE X a ta) (hb:PE X b tb):PE X (.IfExp c a b pos) (tIf tA ta tb):=by
 intro pins s σ H Q I h
 (refine wpAny_IfExp (thn (hc pins s σ H _ I h) ?_);rintro d s1 ⟨H1,I1,q1⟩)
 cases d with
 | true=>exact ha pins s1 σ H1 Q I1 q1
 | false=>exact hb pins s1 σ H1 Q I1 q1
end
def SqL (K:W.Frag) (H:Hp) (a:Addr) (xs:List V):Prop :=
 Rd H a (.lst xs) \/
  ∃ (o:Obj) (its:Array Value) (n:Nat),K.lookup a=some o /\ o.cls=.type "list" /\ o.dict=none /\ o.data=.seq its n /\ its.size<=sizeLine /\ Vals xs its.toList
def SqT (K:W.Frag) (H:Hp) (a:Addr) (xs:List V):Prop :=
 Rd H a (.tup xs) \/
  ∃ (o:Obj) (its:Array Value) (n:Nat),K.lookup a=some o /\ o.cls=.type "tuple" /\ o.data=.seq its n /\ its.size<=sizeLine /\ Vals xs its.toList /\ o.dict=none
def absV:Value->Option V
 | .none=>some .non
 | .bool b=>some (.bl b)
 | .int i _=>some (.int i)
 | .str x _=>some (.str x)
 | .bytes b _=>some (.byt b)
 | .float b _=>some (.flt b)
 | .ref a=>some (.ref a)
 | .type n=>some (.ty n)
 | _=>none
theorem RelV.abs {x:V} {u:Value} (r:RelV x u):absV u=some x:=by
 cases x with
 | non=>cases r;rfl
 | bl _=>cases r;rfl
 | int _=>obtain ⟨t,rfl⟩:=r;rfl
 | str _=>obtain ⟨t,rfl⟩:=r;rfl
 | byt _=>obtain ⟨t,rfl⟩:=r;rfl
 | flt _=>obtain ⟨t,rfl⟩:=r;rfl
 | ref _=>cases r;rfl
 | ty _=>cases r;rfl
theorem RelV.inj {x y:V} {u:Value} (r:RelV x u) (q:RelV y u):x=y:=Option.some.inj (r.abs.symm.trans q.abs)
theorem Vals.inj:∀ {xs ys:List V} {us:List Value},Vals xs us->Vals ys us->xs=ys
 | _,_,_,.nil,.nil=>rfl
 | _,_,_,.cons r t,.cons r' t'=>by rw [r.inj r',Vals.inj t t']
section
variable {X:Cx} {pins:List (Addr × Obj)} {σ:St} {H:Hp} {s:Shared} {a:Addr} {xs ys:List V}
theorem SqL.of {K:W.Frag} (h:H a=some (.lst xs)):SqL K H a xs:=.inl (.inl h)
theorem SqT.of {K:W.Frag} (h:H a=some (.tup xs)):SqT K H a xs:=.inl (.inl h)
theorem Inv.list (I:Inv X pins σ H s) (h:SqL X.K H a xs):∃ its:List Value,Vals xs its /\ PlainL s.heap a its.toArray /\ xs.length<=sizeLine:=by
 rcases h with h | ⟨o,its,n,hk,hc,hd,hs,hz,r⟩
 ·obtain ⟨z,its,n,r,e⟩:=h.ok I.hok
  exact ⟨its,r,⟨_,n,e,rfl,rfl,rfl⟩,z⟩
 ·refine ⟨its.toList,r,⟨o,n,I.kIn a o hk,hc,hd,by simpa using hs⟩,?_⟩
  have e:=r.length;simp only [Array.length_toList] at e;omega
theorem Inv.tuple (I:Inv X pins σ H s) (h:SqT X.K H a xs):∃ its:List Value,Vals xs its /\ IsTup s.heap a its.toArray /\ xs.length<=sizeLine:=by
 rcases h with h | ⟨o,its,n,hk,hc,hs,hz,r,_⟩
 ·obtain ⟨z,its,r,p⟩:=h.ok I.hok
  exact ⟨its,r,p.tup,z⟩
 ·refine ⟨its.toList,r,⟨o,I.kIn a o hk,hc,n,by simpa using hs⟩,?_⟩
  have e:=r.length;simp only [Array.length_toList] at e;omega
theorem Inv.list_inj (I:Inv X pins σ H s) (h:SqL X.K H a xs) (h':SqL X.K H a ys):xs=ys:=by
 obtain ⟨its,r,⟨o,n,e,_,_,d⟩,_⟩:=I.list h;obtain ⟨its',r',⟨o',n',e',_,_,d'⟩,_⟩:=I.list h';rw [e] at e';cases e';rw [d] at d';injection d' with d1 _
 have:its=its':=by simpa using congrArg Array.toList d1
 subst this;exact r.inj r'
theorem Inv.tuple_inj (I:Inv X pins σ H s) (h:SqT X.K H a xs) (h':SqT X.K H a ys):xs=ys:=by
 obtain ⟨its,r,⟨o,e,_,n,d⟩,_⟩:=I.tuple h;obtain ⟨its',r',⟨o',e',_,n',d'⟩,_⟩:=I.tuple h';rw [e] at e';cases e';rw [d] at d';injection d' with d1 _
 have:its=its':=by simpa using congrArg Array.toList d1
 subst this;exact r.inj r'
end
abbrev Cx.wish (X:Cx) (E:Value->Shared->Prop):Cx:={ X with xe:=E }
abbrev Cx.nox (X:Cx):Cx:=X.wish fun _ _=>False
theorem Cx.Ok.wish {X:Cx} (ok:X.Ok) (E:Value->Shared->Prop):(X.wish E).Ok :=
 ⟨ok.mod,ok.kind,ok.glob,ok.blt,ok.above,ok.inj,ok.has,ok.cab,ok.hd,ok.frames,ok.stk,ok.exf,ok.bs,ok.bsz,ok.noex,ok.exfs,ok.funs,ok.frf⟩
theorem Cx.Ok.unwish {X:Cx} {E:Value->Shared->Prop} (ok:(X.wish E).Ok):X.Ok :=
 ⟨ok.mod,ok.kind,ok.glob,ok.blt,ok.above,ok.inj,ok.has,ok.cab,ok.hd,ok.frames,ok.stk,ok.exf,ok.bs,ok.bsz,ok.noex,ok.exfs,ok.funs,ok.frf⟩
section
variable {X:Cx} {pins:List (Addr × Obj)} {σ:St} {H:Hp} {s:Shared} {E:Value->Shared->Prop}
theorem Inv.wish (I:Inv X pins σ H s) (E:Value->Shared->Prop):Inv (X.wish E) pins σ H s:=⟨I.ok.wish E,I.os,I.bare,I.base,I.loc,I.cell,I.free,I.freeC,I.pin,I.hok,I.len⟩
theorem Inv.unwish (I:Inv (X.wish E) pins σ H s):Inv X pins σ H s:=⟨I.ok.unwish,I.os,I.bare,I.base,I.loc,I.cell,I.free,I.freeC,I.pin,I.hok,I.len⟩
theorem SP.unwish {D:Ends} {f:Flow} {s':Shared} (h:SP (X.wish E) pins D f s'):SP X pins D f s':=by
 cases f with
 | next=>obtain ⟨σ',H',I,q⟩:=h;exact ⟨σ',H',I.unwish,q⟩
 | brk=>obtain ⟨σ',H',I,q⟩:=h;exact ⟨σ',H',I.unwish,q⟩
 | cont=>obtain ⟨σ',H',I,q⟩:=h;exact ⟨σ',H',I.unwish,q⟩
 | ret u=>obtain ⟨v,σ',H',I,r,q⟩:=h;exact ⟨v,σ',H',I.unwish,r,q⟩
theorem PE.nox {e:Expr} {t:TE} (h:PE X.nox e t):PE X e t:=fun pins s σ H Q I hw =>
 wpAny_mono (h pins s σ H Q (I.wish _) hw) (fun _ _ ⟨v,H',I',r,q⟩=>⟨v,H',I'.unwish,r,q⟩) fun _ _ z=>False.elim z
theorem PT.nox {e:Expr} {t:TT} (h:PT X.nox e t):PT X e t:=fun pins s σ H Q I hw =>
 wpAny_mono (h pins s σ H Q (I.wish _) hw) (fun _ _ ⟨H',I',q⟩=>⟨H',I'.unwish,q⟩) fun _ _ z=>False.elim z
theorem PSs.nox {st:List Stmt} {t:TS} (h:PSs X.nox st t):PSs X st t:=fun pins s σ H D I hw =>
 wpAny_mono (h pins s σ H D (I.wish _) hw) (fun _ _ q=>q.unwish) fun _ _ z=>False.elim z
end
section
variable {X:Cx} {st:Stmt} {rest:List Stmt} {t u:TS} {e:Expr} {te:TE} {pos:Pos}
def w34:TS:=fun D σ H=>D.nx σ H
def tSeq (t u:TS):TS:=fun D σ H=>t { D with nx:=u D } σ H
theorem vr1:PSs X [] w34:=fun _ _ σ H _ I h=>wpAny_execs_nil ⟨σ,H,I,h⟩
theorem v93 (h1:PS X st t) (h2:PSs X rest u):PSs X (st::rest) (tSeq t u):=by
 intro pins s σ H D I h;refine wpAny_execs_cons (thn (h1 pins s σ H { D with nx:=u D } I h) fun f s1 q=>?_);cases f with
 | next =>
  obtain ⟨σ',H',I',q⟩:=q;exact h2 pins s1 σ' H' D I' q
 | ret v=>exact q
 | brk=>exact q
 | cont=>exact q
theorem vr0 (h1:PS X st t):PSs X [st] t:=by
 intro pins s σ H D I h;refine wpAny_execs_cons (thn (h1 pins s σ H D I h) fun f s1 q=>?_);cases f with
 | next=>exact wpAny_execs_nil q
 | ret v=>exact q
 | brk=>exact q
 | cont=>exact q
theorem Inv.quiet {pins:List (Addr × Obj)} {σ:St} {H:Hp} {s:Shared} (I:Inv X pins σ H s):interactive X.env=false:=by simp [interactive,I.ok.kind]
def w35 (te:TE):TS:=fun D σ H=>te σ H fun _ H1=>D.nx σ H1
theorem vr3 (he:PE X e te) (hs:swapsWith e none pos.line X.env=pure false:=by rfl):PS X (.Expr e pos) (w35 te):=by
 intro pins s σ H D I h
 (refine wpAny_Expr_any (thn (he pins s σ H _ I h) ?_) I.quiet hs;rintro v s1 ⟨x,H1,I1,r1,q1⟩;exact ⟨σ,H1,I1,q1⟩)
def tRet (te:TE):TS:=fun D σ H=>te σ H D.rt
theorem w48 (he:PE X e te):PS X (.Return (some e) pos) (tRet te):=by
 intro pins s σ H D I h
 (refine wpAny_Return_some (thn (he pins s σ H _ I h) ?_);rintro v s1 ⟨x,H1,I1,r1,q1⟩;exact ⟨x,σ,H1,I1,r1,q1⟩)
def tIfS (c:TT) (t u:TS):TS:=fun D σ H=>c σ H fun b H1=>if b=true then t D σ H1 else u D σ H1
theorem wj5 {c:Expr} {a b:List Stmt} {tc:TT} (hc:PT X c tc) (ha:PSs X a t) (hb:PSs X b u):PS X (.If c a b pos) (tIfS tc t u):=by
 intro pins s σ H D I h
 (refine wpAny_If (thn (hc pins s σ H _ I h) ?_);rintro d s1 ⟨H1,I1,q1⟩)
 cases d with
 | true=>exact ha pins s1 σ H1 D I1 q1
 | false=>exact hb pins s1 σ H1 D I1 q1
end
abbrev TG:=V->St->Hp->(St->Hp->Prop)->Prop
abbrev TGs:=List V->St->Hp->(St->Hp->Prop)->Prop
def PG (X:Cx) (target:Expr) (t:TG):Prop :=
 ∀ (pins:List (Addr × Obj)) (s:Shared) (σ:St) (H:Hp) (v:V) (u:Value) (Q:St->Hp->Prop),Inv X pins σ H s->RelV v u->t v σ H Q ->
  wpAny (model X.prog X.w) X.A (assign target X.env u) (fun _ s'=>∃ σ' H',Inv X pins σ' H' s' /\ Q σ' H') X.xe s
def PGs (X:Cx) (ts:List Expr) (t:TGs):Prop :=
 ∀ (pins:List (Addr × Obj)) (s:Shared) (σ:St) (H:Hp) (vs:List V) (us:List Value) (Q:St->Hp->Prop),Inv X pins σ H s->Vals vs us->t vs σ H Q ->
  wpAny (model X.prog X.w) X.A (assignInOrder ((assignEach ts X.env).map (·.2)) us) (fun _ s'=>∃ σ' H',Inv X pins σ' H' s' /\ Q σ' H') X.xe s
abbrev TSet:=V->V->V->Hp->(Hp->Prop)->Prop
def PSet (X:Cx) (t:TSet):Prop :=
 ∀ (pins:List (Addr × Obj)) (s:Shared) (σ:St) (H:Hp) (o i v:V) (ov iv u:Value) (Q:Hp->Prop),Inv X pins σ H s->RelV o ov->RelV i iv->RelV v u->t o i v H Q ->
  wpAny (model X.prog X.w) X.A (setItem ov iv u) (fun _ s'=>∃ H',Inv X pins σ H' s' /\ Q H') X.xe s
abbrev TIp:=V->V->Hp->VK->Prop
def PIp (X:Cx) (op:Operator) (t:TIp):Prop :=
 ∀ (pins:List (Addr × Obj)) (s:Shared) (σ:St) (H:Hp) (x y:V) (v u:Value) (Q:VK),Inv X pins σ H s->RelV x v->RelV y u->t x y H Q ->
  wpAny (model X.prog X.w) X.A (inplaceOp op v u) (EP X pins σ Q) X.xe s
section
variable {X:Cx} {pos:Pos}
def vw9 (i:Nat):TG:=fun v σ H Q=>Q (σ.set i (some v)) H
theorem vr6 {i:Nat} {x:Str} (hN:X.N.Nodup) (hi:X.N[i]?=some x) (hx:Loc X.env.scope x) (hf:X.fn x=true \/ X.env.scope.names.lookup x=some .local:=by first | exact .inl rfl | exact .inr rfl | assumption):PG X (.Name x pos) (vw9 i):=by
 intro pins s σ H v u Q I r h;exact wpAny_assign_Name (ue6 I hN hi hx r (fun s' I'=>⟨_,H,I',h⟩) hf)
def gNil:TGs:=fun vs σ H Q=>vs=[] /\ Q σ H
def we3 (t:TG) (u:TGs):TGs:=fun vs σ H Q=>∃ v r,vs=v::r /\ t v σ H fun σ' H'=>u r σ' H' Q
theorem vr5:PGs X [] gNil:=by
 intro pins s σ H vs us Q I r h;obtain ⟨e,h⟩:=h;subst e;cases r;exact assignInOrder_nil ⟨σ,H,I,h⟩
theorem v99 {e:Expr} {es:List Expr} {t:TG} {u:TGs} (h1:PG X e t) (h2:PGs X es u)
  (hs:(assignEach (e::es) X.env).map (·.2)=assign e X.env::(assignEach es X.env).map (·.2):=by rfl):PGs X (e::es) (we3 t u):=by
 intro pins s σ H vs us Q I r h;obtain ⟨v,vr,e1,h⟩:=h;subst e1;cases r with
 | cons r rr =>
  rw [hs]
  (refine assignInOrder_cons (thn (h1 pins s σ H _ _ _ I r h) ?_);rintro _ s1 ⟨σ1,H1,I1,q1⟩)
  exact h2 pins s1 σ1 H1 _ _ Q I1 rr q1
def gTup (K:W.Frag) (n:Nat) (t:TGs):TG:=fun v σ H Q=>∃ a xs,v=.ref a /\ SqT K H a xs /\ xs.length=n /\ t xs σ H Q
theorem w53 {es:List Expr} {k:Nat} {t:TGs} {n:Nat} (hc:X.calm=true) (h:PGs X es t)
  (hn:(assignEach es X.env).length=n:=by rfl) (hst:(assignEach es X.env).findIdx? (·.1)=none:=by rfl):PG X (.Tuple es k pos) (gTup X.K n t):=by
 intro pins s σ H v u Q I r hw;obtain ⟨a,xs,e1,hq,hl,hw⟩:=hw;subst e1;cases r;obtain ⟨its,rv,ht,hz⟩:=I.tuple hq;refine assign_Tuple_tuple (I.ok.hd hc) ht (by simp [hn,<- hl,rv.length]) hst fun h' hx=>?_
 have I1:Inv X pins σ H { s with heap:=h' }:=I.kept (t':=s.toks) fun b o e=>hx b o (Nat.ne_of_lt (Heap.lt_size e)) e
 exact h pins _ σ H xs _ Q I1 (by simpa using rv) hw
def gSub (to ti:TE) (t:TSet):TG:=fun v σ H Q=>to σ H fun o H1=>ti σ H1 fun i H2=>t o i v H2 fun H3=>Q σ H3
theorem w54 {o i:Expr} {to ti:TE} {t:TSet} (ho:PE X o to) (hi:PE X i ti) (hs:PSet X t)
  (ha:∀ v,assign (.Subscript o i pos) X.env v=(do
   let ov <- holding [v] (eval o X.env)
   let iv <- holding [v,ov] (eval i X.env)
   standAt pos
   holding [v,ov,iv] (setItem ov iv v)
   release [v,ov,iv] []):=by intro _;rfl):PG X (.Subscript o i pos) (gSub to ti t):=by
 intro pins s σ H v u Q I r h;rw [ha]
 (refine wpAny_bind (wpAny_holding (thn (ho pins s σ H _ I h) ?_));rintro ov s1 ⟨x,H1,I1,r1,q1⟩)
 (refine wpAny_bind (wpAny_holding (thn (hi pins s1 σ H1 _ I1 q1) ?_));rintro iv s2 ⟨y,H2,I2,r2,q2⟩)
 (refine wpAny_bind (wpAny_standAt (wpAny_bind (wpAny_holding (thn (hs pins s2 σ H2 x y v ov iv u _ I2 r1 r2 r q2) ?_))));rintro _ s3 ⟨H3,I3,q3⟩)
 exact wpAny_release ⟨σ,H3,I3,q3⟩
def tAsg (te:TE) (g:TG):TS:=fun D σ H=>te σ H fun x H1=>g x σ H1 D.nx
theorem w51 {tg e:Expr} {te:TE} {g:TG} (he:PE X e te) (hg:PG X tg g) (hs:swapsWithSole [tg] e pos.line X.env=pure false:=by rfl) (hw:swappedStores [tg] e X.env=pure none:=by rfl)
  (h1:(assignEach [tg] X.env).map (·.2)=[assign tg X.env]:=by rfl):PS X (.Assign [tg] e pos) (tAsg te g):=by
 intro pins s σ H D I h
 (refine wpAny_Assign_stores (thn (he pins s σ H _ I h) ?_) hs hw;rintro v s1 ⟨x,H1,I1,r1,q1⟩)
 rw [h1];exact thn (hg pins s1 σ H1 x v _ I1 r1 q1) fun _ s2 q=>q
theorem w47 {i:Nat} {x:Str} {e:Expr} {te:TE} {pos':Pos} (hN:X.N.Nodup) (hi:X.N[i]?=some x) (hx:Loc X.env.scope x) (he:PE X e te) (hs:swapsWith e (some (.Name x pos')) pos.line X.env=pure false:=by rfl) (hf:X.fn x=true \/ X.env.scope.names.lookup x=some .local:=by first | exact .inl rfl | exact .inr rfl | assumption) :
  PS X (.Assign [.Name x pos'] e pos) (tAsg te (vw9 i)):=by
 intro pins s σ H D I h
 (refine wpAny_Assign_Name (thn (he pins s σ H _ I h) ?_) hs;rintro v s1 ⟨y,H1,I1,r1,q1⟩)
 exact ue6 I1 hN hi hx r1 (fun s2 I2=>⟨_,H1,I2,q1⟩) hf
def tAug (i:Nat) (te:TE) (ti:TIp):TS:=fun D σ H=>∃ x,σ[i]?=some (some x) /\ te σ H fun y H1=>ti x y H1 fun z H2=>D.nx (σ.set i (some z)) H2
theorem w50 {i:Nat} {x:Str} {e:Expr} {te:TE} {op:Operator} {ti:TIp} {pos':Pos} (hN:X.N.Nodup) (hi:X.N[i]?=some x) (hx:Loc X.env.scope x) (he:PE X e te) (ho:PIp X op ti) (hf:X.fn x=true \/ X.env.scope.names.lookup x=some .local:=by first | exact .inl rfl | exact .inr rfl | assumption) :
  PS X (.AugAssign (.Name x pos') op e pos) (tAug i te ti):=by
 intro pins s σ H D I h;obtain ⟨v,e1,h⟩:=h;obtain ⟨m,hn,hl⟩:=I.loc;have vis:Vis X.env.scope x:=by rcases hx with k | k;exact .inl k;exact .inr (.inl k)
 obtain ⟨u,r,l⟩:=hl i x v hi e1 vis;refine wpAny_AugAssign_Name ?_;have go:wpAny (model X.prog X.w) X.A (eval e X.env) (fun w s₂=>wpAny (model X.prog X.w) X.A (inplaceOp op u w) (fun r s₃=>wpAny (model X.prog X.w) X.A (storeName X.env x r) (fun _=>SP X pins D .next) X.xe s₃) X.xe s₂) X.xe s:=by
  (refine thn (he pins s σ H _ I h) ?_;rintro w s1 ⟨y,H1,I1,r1,q1⟩)
  (refine thn (ho pins s1 σ H1 v y u w _ I1 r r1 q1) ?_;rintro z s2 ⟨zv,H2,I2,r2,q2⟩)
  exact ue6 I2 hN hi hx r2 (fun s3 I3=>⟨_,H2,I3,q2⟩) hf
 rcases l with ⟨hk,hm⟩ | ⟨hk,c,hc,hcell⟩
 ·exact wpAny_loadName_local I.ok.kind hk hn hm go
 ·rcases hk with hk | hk
  ·exact wpAny_loadName_cell I.ok.kind hk hc hcell go
  ·rcases hx with k | k
   ·have:X.env.scope.names.lookup x=some .free:=hk
    rw [k] at this;cases this
   ·have:X.env.scope.names.lookup x=some .free:=hk
    rw [k] at this;cases this
end
section
variable {X:Cx} {pos:Pos}
def vh6 (c:TT) (tb:TS):TS:=fun D σ H=>∃ W:Nat->St->Hp->Prop,(∃ m,W m σ H) /\ ∀ m σ H,W m σ H ->
 c σ H fun b H1=>if b=true then ∃ N:St->Hp->Prop,(∀ σ' H',N σ' H'->∃ m',m' < m /\ W m' σ' H') /\ tb { D with nx:=N,ct:=N,bk:=D.nx } σ H1 else D.nx σ H1
theorem v94 {c:Expr} {body:List Stmt} {tc:TT} {tb:TS} (hp:PassesOwn (model X.prog X.w) X.A X.env X.xe) (hc:PT X c tc) (hb:PSs X body tb):PS X (.While c body [] pos) (vh6 tc tb):=by
 intro pins s σ H D I h;obtain ⟨W,⟨m0,w0⟩,turn⟩:=h;refine wpAny_While (codeAny_whileLoop (fun n s'=>∃ σ' H',Inv X pins σ' H' s' /\ W n σ' H') ?_ m0 ⟨σ,H,I,w0⟩);rintro n s1 ⟨σ1,H1,I1,w1⟩
 (refine wpAny_passesOwn hp (thn (hc pins s1 σ1 H1 _ I1 (turn n σ1 H1 w1)) ?_);rintro b s2 ⟨H2,I2,q2⟩)
 cases b with
 | true =>
  obtain ⟨N,hN,q2⟩:=q2;rw [if_pos rfl];refine wpAny_passesOwn hp (thn (hb pins s2 σ1 H2 _ I2 q2) fun f s3 q3=>?_);cases f with
  | next =>
   obtain ⟨σ3,H3,I3,n3⟩:=q3;obtain ⟨m',hm,w3⟩:=hN σ3 H3 n3;exact ⟨m',hm,σ3,H3,I3,w3⟩
  | cont =>
   obtain ⟨σ3,H3,I3,n3⟩:=q3;obtain ⟨m',hm,w3⟩:=hN σ3 H3 n3;exact ⟨m',hm,σ3,H3,I3,w3⟩
  | brk=>exact q3
  | ret v=>exact q3
 | false =>
  rw [if_neg Bool.false_ne_true];exact wpAny_execs_nil ⟨σ1,H2,I2,q2⟩
end
structure It where
 go:Nat->Hp->Prop
 yld:Nat->Hp->V->Hp->Prop
 stop:Nat->Hp->Prop
def FpOk (X:Cx) (pins:List (Addr × Obj)) (H:Hp) (b:Addr):Prop :=
 H b=none /\ b ≠ X.env.locals /\ b ∉ X.fs /\ (b ∈ X.ex \/ X.s₀.heap.objs.size<=b) /\ (∀ x c,X.env.cells.lookup x=some c->c ≠ b) /\ ∀ p ∈ X.pn++pins,p.1 ≠ b
theorem Inv.fpOk {X:Cx} {pins:List (Addr × Obj)} {σ:St} {H H':Hp} {s:Shared} {b:Addr} (I:Inv X pins σ H s) (hb:s.heap.objs.size<=b) (hn:H' b=none):FpOk X pins H' b:=by
 refine ⟨hn,Nat.ne_of_gt (Nat.lt_of_lt_of_le I.lt hb),I.nofs hb,.inr (Nat.le_trans I.sz hb),fun x c e z=>?_,fun p hp z=>?_⟩
 ·obtain ⟨v,q⟩:=I.cell x c e
  exact absurd (Nat.lt_of_lt_of_le q.lt (by rw [z];exact hb)) (Nat.lt_irrefl _)
 ·exact absurd (Nat.lt_of_lt_of_le (Heap.lt_size (I.pin p hp).1) (by rw [z];exact hb)) (Nat.lt_irrefl _)
structure Turn (P:Program) (w:World) (K:W.Frag) (tg:Expr) (J:It) (fp:List Addr) (it:Addr) (tn:Nat->Heap->Prop):Prop where
 mem:it ∈ fp
 obj:∀ i h,tn i h->∀ b ∈ fp,∃ o,h.get? b=some o /\ ∀ v,o.data ≠ .cell v
 keep:∀ i h h',tn i h->(∀ b ∈ fp,∀ o,h.get? b=some o->h'.get? b=some o)->tn i h'
 item:∀ (X:Cx),X.prog=P->X.w=w->X.K=K->X.calm=true->∀ (i:Nat) (pins:List (Addr × Obj)) (s:Shared) (σ:St) (H:Hp) (E:Value->Shared->Prop),Inv X pins σ H s->(∀ b ∈ fp,FpOk X pins H b)->tn i s.heap->J.go i H ->
  wpAny (model P w) X.A (pyNext (.ref it)) (fun r s1=>∃ u,r=some u /\
   wpAny (model P w) X.A (letOwnedTupleGo tg (.ref it) u) (fun _ s2=>∃ x H',Inv X pins σ H' s2 /\ RelV x u /\ J.yld i H x H' /\ tn (i+1) s2.heap /\ ∀ b ∈ fp,H' b=none) E s1) E s
 done:∀ (X:Cx),X.prog=P->X.w=w->X.K=K->X.calm=true->∀ (i:Nat) (pins:List (Addr × Obj)) (s:Shared) (σ:St) (H:Hp) (E:Value->Shared->Prop),Inv X pins σ H s->(∀ b ∈ fp,FpOk X pins H b)->tn i s.heap->J.stop i H ->
  wpAny (model P w) X.A (pyNext (.ref it)) (fun r s1=>r=none /\ Inv X pins σ H s1) E s
 self:∀ (A:Around) (i:Nat) (s:Shared) (Q:Value->Shared->Prop) (E:Value->Shared->Prop),tn i s.heap->Q (.ref it) s->wpAny (model P w) A (pyIter (.ref it)) Q E s
abbrev TI:=St->Hp->(It->Hp->Prop)->Prop
def PIE (X:Cx) (pins:List (Addr × Obj)) (σ:St) (tg:Expr) (R:It->Hp->Prop) (itv:Value) (s2:Shared):Prop :=
 ∃ (it:Addr) (fp:List Addr) (tn:Nat->Heap->Prop) (J:It) (H':Hp),itv=.ref it /\ Inv X pins σ H' s2 /\ Turn X.prog X.w X.K tg J fp it tn /\ tn 0 s2.heap /\ (∀ b ∈ fp,FpOk X pins H' b) /\ R J H'
def PI (X:Cx) (tg iter:Expr) (wi:TI):Prop :=
 ∀ (pins:List (Addr × Obj)) (s:Shared) (σ:St) (H:Hp) (R:It->Hp->Prop),Inv X pins σ H s->wi σ H R ->
  wpAny (model X.prog X.w) X.A (eval iter X.env) (fun v s1=>wpAny (model X.prog X.w) X.A (pyIter v) (PIE X pins σ tg R) X.xe s1) X.xe s
theorem vd2 {M : Model} {A : Around} {E : Value -> Shared -> Prop} {s : Shared} {tg : Expr} {it : Addr} {u : Value} {o : Obj} {n : String} {vs : Array Value} {Q : Unit -> Shared -> Prop} (ho : s.heap.get? it = some o) (hc : o.cls = .type n) (hd : o.data = .fields vs)
    (hn:["enumerate", "zip", "dict_itemiterator", "dict_reverseitemiterator", "odict_iterator", "itertools.zip_longest", "itertools.pairwise"].contains n=false) (hQ:Q () s):wpAny M A (letOwnedTupleGo tg (.ref it) u) Q E s:=by
  unfold letOwnedTupleGo;cases tg <;> first
    | exact wpAny_pure hQ
    | (cases u <;> first
        | exact wpAny_pure hQ
        | (refine wpAny_bind (wpAny_load ho ?_)
           rw [hc,hd]
           show wpAny M A (if (["enumerate", "zip", "dict_itemiterator", "dict_reverseitemiterator", "odict_iterator", "itertools.zip_longest", "itertools.pairwise"].contains n && vs[0]? == some (rawInt _))=true then _ else _) Q E s
           rw [if_neg (by intro h;rw [hn,Bool.false_and] at h;cases h)];exact wpAny_pure hQ))
def Itl (K:W.Frag) (a:Addr):It :=
 ⟨fun i H=>∃ xs x,SqL K H a xs /\ xs[i]?=some x,fun i H x H'=>H'=H /\ ∀ xs,SqL K H a xs->xs[i]?=some x,fun i H=>∃ xs,SqL K H a xs /\ xs.length<=i⟩
def Itt (K:W.Frag) (a:Addr):It :=
 ⟨fun i H=>∃ xs x,SqT K H a xs /\ xs[i]?=some x,fun i H x H'=>H'=H /\ ∀ xs,SqT K H a xs->xs[i]?=some x,fun i H=>∃ xs,SqT K H a xs /\ xs.length<=i⟩
def Itr (lo:Int) (n:Nat):It:=⟨fun i _=>i < n,fun i H x H'=>H'=H /\ x=.int (lo+i),fun i _=>n<=i⟩
theorem uy0 {P:Program} {w:World} {K:W.Frag} {tg:Expr} (a it:Addr):Turn P w K tg (Itl K a) [it] it (fun i h=>h.IsListIter it a i) where
 mem:=by simp
 obj:=fun i h st b hb=>by
  have e:b=it:=by simpa using hb
  subst e;obtain ⟨o,e,c,d⟩:=st;exact ⟨o,e,fun v z=>by rw [d] at z;cases z⟩
 keep:=fun i h h' st k=>st.at fun o e=>k it (by simp) o e
 item:=by
  intro X hP hw hK hc i pins s σ H E I hf st hg;subst hP hw hK;obtain ⟨xs,x,hq,hx⟩:=hg;obtain ⟨its,rv,p,hz⟩:=I.list hq;obtain ⟨u,hu,ru⟩:=rv.get hx;obtain ⟨f0,f1,f2,f3,f4,f5⟩:=hf it (by simp);refine wpAny_pyNext_list_item st p.isList (x:=u) (by simpa using hu) fun h' st' sb=>?_
  have I1:Inv X pins σ H { s with heap:=h' }:=I.turned (t':=s.toks) (fun b o hb e=>(sb.2 b hb).trans e) f0 f1 f3 f4 f5
  obtain ⟨o,e,c,d⟩:=id st';exact ⟨u,rfl,vd2 (s:={ s with heap:=h' }) e c d (by decide) ⟨x,H,I1,ru,⟨rfl,fun ys hy=>by rw [I.list_inj hy hq];exact hx⟩,st',fun b hb=>(hf b hb).1⟩⟩
 done:=by
  intro X hP hw hK hc i pins s σ H E I hf st hg;subst hP hw hK;obtain ⟨xs,hq,hx⟩:=hg;obtain ⟨its,rv,p,hz⟩:=I.list hq;obtain ⟨f0,f1,f2,f3,f4,f5⟩:=hf it (by simp);have hl:=rv.length;exact wpAny_pyNext_list_end (I.ok.hd hc) st p.isList (by simp;omega) fun h' eb=>⟨rfl,I.turned (t':=s.toks) (fun b o hb e=>eb b o hb e) f0 f1 f3 f4 f5⟩
 self:=fun _ _ _ _ _ st h=>wpAny_pyIter_listiter st h
theorem uu7 {P:Program} {w:World} {K:W.Frag} {tg:Expr} (a it:Addr):Turn P w K tg (Itt K a) [it] it (fun i h=>h.IsTupleIter it a i) where
 mem:=by simp
 obj:=fun i h st b hb=>by
  have e:b=it:=by simpa using hb
  subst e;obtain ⟨o,e,c,d⟩:=st;exact ⟨o,e,fun v z=>by rw [d] at z;cases z⟩
 keep:=fun i h h' st k=>st.at fun o e=>k it (by simp) o e
 item:=by
  intro X hP hw hK hc i pins s σ H E I hf st hg;subst hP hw hK;obtain ⟨xs,x,hq,hx⟩:=hg;obtain ⟨its,rv,p,hz⟩:=I.tuple hq;obtain ⟨u,hu,ru⟩:=rv.get hx;obtain ⟨f0,f1,f2,f3,f4,f5⟩:=hf it (by simp);refine wpAny_pyNext_tuple_item st (show s.heap.IsTuple a its.toArray from p) (x:=u) (by simpa using hu) fun h' st' sb=>?_
  have I1:Inv X pins σ H { s with heap:=h' }:=I.turned (t':=s.toks) (fun b o hb e=>(sb.2 b hb).trans e) f0 f1 f3 f4 f5
  obtain ⟨o,e,c,d⟩:=id st';exact ⟨u,rfl,vd2 (s:={ s with heap:=h' }) e c d (by decide) ⟨x,H,I1,ru,⟨rfl,fun ys hy=>by rw [I.tuple_inj hy hq];exact hx⟩,st',fun b hb=>(hf b hb).1⟩⟩
 done:=by
  intro X hP hw hK hc i pins s σ H E I hf st hg;subst hP hw hK;obtain ⟨xs,hq,hx⟩:=hg;obtain ⟨its,rv,p,hz⟩:=I.tuple hq;obtain ⟨f0,f1,f2,f3,f4,f5⟩:=hf it (by simp);have hl:=rv.length;exact wpAny_pyNext_tuple_end (I.ok.hd hc) st (show s.heap.IsTuple a its.toArray from p) (by simp;omega) fun h' eb=>⟨rfl,I.turned (t':=s.toks) (fun b o hb e=>eb b o hb e) f0 f1 f3 f4 f5⟩
 self:=fun _ _ _ _ _ st h=>wpAny_pyIter_tupleiter st h
theorem uu8 {P:Program} {w:World} {K:PySem.W.Frag} {tg:Expr} (it:Addr) (lo:Int) (n:Nat):Turn P w K tg (Itr lo n) [it] it (fun i h=>IsRangeIter h it (lo+(i:Nat) * 1) ((n:Int) - (i:Nat)) 1) where
 mem:=by simp
 obj:=fun i h st b hb=>by
  have e:b=it:=by simpa using hb
  subst e;exact ⟨_,st,fun v z=>by
   have z':Data.fields _=Data.cell v:=z;cases z'⟩
 keep:=fun i h h' st k=>k it (by simp) _ st
 item:=by
  intro X hP hw hK hc i pins s σ H E I hf st hg;subst hP hw hK;obtain ⟨f0,f1,f2,f3,f4,f5⟩:=hf it (by simp);have W:=Walks.range (prog:=X.prog) (w:=X.w) (I.ok.hd hc) it lo 1 n;refine W.item i s _ _ hg st fun v h' tk hv st' kk=>?_
  obtain ⟨t,rfl⟩:=hv;have I1:Inv X pins σ H { s with heap:=h',toks:=tk }:=I.turned (fun b o hb e=>kk b o (by simpa using hb) e) f0 f1 f3 f4 f5
  refine ⟨_,rfl,vd2 (s:={ s with heap:=h',toks:=tk }) (n := "range_iterator") st' rfl rfl (by decide) ⟨.int (lo+i),H,I1,⟨t,?_⟩,⟨rfl,rfl⟩,st',fun b hb=>(hf b hb).1⟩⟩;rw [Int.mul_one]
 done:=by
  intro X hP hw hK hc i pins s σ H E I hf st hg;subst hP hw hK;obtain ⟨f0,f1,f2,f3,f4,f5⟩:=hf it (by simp);exact wpAny_pyNext_range_end (I.ok.hd hc) st (by have:n<=i:=hg;omega) fun h' eb=>⟨rfl,I.turned (t':=s.toks) (fun b o hb e=>eb b o hb e) f0 f1 f3 f4 f5⟩
 self:=fun _ _ _ _ _ st h=>wpAny_pyIter_rangeiter st h
section
variable {X:Cx} {tg:Expr}
theorem ur5 {pins:List (Addr × Obj)} {σ:St} {H:Hp} {s:Shared} {R:It->Hp->Prop} {E:Value->Shared->Prop} {lo hi:Int} {t u v:Tok} {tk:Nat} (I:Inv X pins σ H s) (h1:-(2 ^ 62)<=lo) (h2:lo < 2 ^ 62) (h3:-(2 ^ 62)<=hi) (h4:hi < 2 ^ 62)
  (q:R (Itr lo (hi - lo).toNat) H):wpAny (model X.prog X.w) X.A (pyIter (.ref s.heap.objs.size)) (PIE X pins σ tg R) E { s with heap:=s.heap.push { cls:=.type "range",data:=.fields #[.int lo t,.int hi u,.int 1 v] },toks:=tk }:=by
 refine wpAny_pyIter_range (IsRange.new ..) (small_one h1 h2 h3 h4) ?_;have I1:Inv X pins σ H { s with heap:=s.heap.push { cls:=.type "range",data:=.fields #[.int lo t,.int hi u,.int 1 v] },toks:=tk }:=I.kept fun b o e=>Heap.get?_push_of_some _ e
 refine ⟨(s.heap.push { cls:=.type "range",data:=.fields #[.int lo t,.int hi u,.int 1 v] }).objs.size,[(s.heap.push { cls:=.type "range",data:=.fields #[.int lo t,.int hi u,.int 1 v] }).objs.size],_,_,H,rfl,
  I1.kept (t':=tk) fun b o e=>Heap.get?_push_of_some _ e,uu8 _ lo (hi - lo).toNat,?_,fun b hb=>?_,q⟩
 ·have e1:lo+((0:Nat):Int) * 1=lo:=by simp
  have e2:(((hi - lo).toNat:Nat):Int) - ((0:Nat):Int)=Builtin.Range.rangeSize lo hi 1:=by rw [rangeSize_one];split <;> omega
  show IsRangeIter _ _ (lo+((0:Nat):Int) * 1) ((((hi - lo).toNat:Nat):Int) - ((0:Nat):Int)) 1
  rw [e1,e2];exact Heap.get?_push_size _ rfl
 ·have e:b=(s.heap.push { cls:=.type "range",data:=.fields #[.int lo t,.int hi u,.int 1 v] }).objs.size:=by simpa using hb
  subst e;exact I1.fpOk (Nat.le_refl _) (I1.hok.fresh (Nat.le_refl _))
def wd8 (ta:TA):TI:=fun σ H R=>ta σ H fun vs H1=>∃ j:Int,vs=[.int j] /\ -(2 ^ 62)<=j /\ j < 2 ^ 62 /\ R (Itr 0 j.toNat) H1
def wd7 (ta:TA):TI:=fun σ H R=>ta σ H fun vs H1=>∃ i j:Int,vs=[.int i,.int j] /\ (-(2 ^ 62)<=i /\ i < 2 ^ 62 /\ -(2 ^ 62)<=j /\ j < 2 ^ 62) /\ R (Itr i (j - i).toNat) H1
theorem v00 {a:Expr} {ta:TA} {p pos:Pos} (hg:Gl X "range") (hm:X.mg "range" = none) (ha:PA X [a] ta) (hs:starEach [a] X.env=[(false,eval a X.env)]:=by rfl):PI X tg (.Call (.Name "range" p) [a] [] pos) (wd8 ta):=by
 intro pins s σ H R I h
 (refine Call_ (u70 I hg hm boot_range (PyProof.Rows.callWith_type1 (thn (ha pos pins s σ H _ I h) ?_) hs rfl));rintro us s1 ⟨vs,H1,I1,r1,q1⟩)
 obtain ⟨j,e,q1,q2,q⟩:=q1;subst e;cases r1 with
 | cons r rr =>
  cases rr;obtain ⟨t,rfl⟩:=r;exact call_range_1 (ur5 I1 (by omega) (by omega) q1 q2 (by simpa using q))
theorem uz9 {a b:Expr} {ta:TA} {p pos:Pos} (hg:Gl X "range") (hm:X.mg "range" = none) (ha:PA X [a,b] ta) (hs:starEach [a,b] X.env=[(false,eval a X.env),(false,eval b X.env)]:=by rfl) (hs2:starEach [b] X.env=[(false,eval b X.env)]:=by rfl) :
  PI X tg (.Call (.Name "range" p) [a,b] [] pos) (wd7 ta):=by
 intro pins s σ H R I h;refine Call_ (u70 I hg hm boot_range (PyProof.Rows.callWith_type1 (thn (ha pos pins s σ H _ I h) fun us s1 ⟨vs,H1,I1,r1,q1⟩=>?_) (by rw [hs,hs2]) (by rw [hs2];rfl)));obtain ⟨i,j,e,⟨q1,q2,q3,q4⟩,q⟩:=q1;subst e;cases r1 with
 | cons r rr =>
  cases rr with
  | cons r' rr =>
   cases rr;obtain ⟨t,rfl⟩:=r;obtain ⟨t',rfl⟩:=r';exact call_range_2 (ur5 I1 q1 q2 q3 q4 q)
def tFor (wi:TI) (g:TG) (tb:TS):TS:=fun D σ H=>wi σ H fun J H1=>∃ W:Nat->Nat->St->Hp->Prop,(∃ m,W 0 m σ H1) /\ ∀ i m σ H,W i m σ H ->
 (J.stop i H /\ D.nx σ H) \/ (J.go i H /\ ∃ N:St->Hp->Prop,(∀ σ' H',N σ' H'->∃ m',m' < m /\ W (i+1) m' σ' H') /\ ∀ x H',J.yld i H x H'->g x σ H' fun σ2 H2=>tb { D with nx:=N,ct:=N,bk:=D.nx } σ2 H2)
def uj4 (fp:List Addr) (h:Heap):List (Addr × Obj):=fp.filterMap fun b=>(h.get? b).map fun o=>(b,o)
theorem u66 {fp:List Addr} {h:Heap} {b:Addr} {o:Obj} (hb:b ∈ fp) (e:h.get? b=some o):(b,o) ∈ uj4 fp h:=List.mem_filterMap.mpr ⟨b,hb,by rw [e];rfl⟩
theorem v05 {fp:List Addr} {h:Heap} {p:Addr × Obj} (hp:p ∈ uj4 fp h):p.1 ∈ fp /\ h.get? p.1=some p.2:=by
 obtain ⟨b,hb,e⟩:=List.mem_filterMap.mp hp;cases q:h.get? b with
 | none=>rw [q] at e;cases e
 | some o =>
  rw [q] at e;have e':(b,o)=p:=Option.some.inj e;subst e';exact ⟨hb,q⟩
theorem Inv.pinned {pins:List (Addr × Obj)} {σ:St} {H:Hp} {s:Shared} {fp:List Addr} (I:Inv X pins σ H s) (hf:∀ b ∈ fp,FpOk X pins H b) (ho:∀ b ∈ fp,∃ o,s.heap.get? b=some o /\ ∀ v,o.data ≠ .cell v):Inv X (pins++uj4 fp s.heap) σ H s :=
 I.pins_of fun p hp=>(List.mem_append.mp hp).elim (fun z=>I.pin p (List.mem_append_right _ z)) fun z=>by
  obtain ⟨hb,e⟩:=v05 z;obtain ⟨f0,f1,f2,_⟩:=hf p.1 hb;obtain ⟨o,e',d⟩:=ho p.1 hb;rw [e] at e';cases e';exact ⟨e,f0,f1,f2,d⟩
theorem Inv.unpinned {pins pl:List (Addr × Obj)} {σ:St} {H:Hp} {s:Shared} (I:Inv X (pins++pl) σ H s):Inv X pins σ H s:=I.pins_of fun p hp=>I.pin p (List.mem_append_right _ (List.mem_append_left _ hp))
theorem w49 {iter:Expr} {body:List Stmt} {wi:TI} {g:TG} {tb:TS} {pos:Pos} (hp:PassesOwn (model X.prog X.w) X.A X.env X.xe) (hc:X.calm=true) (hi:PI X tg iter wi) (hg:PG X tg g) (hb:PSs X body tb)
  (hs:∀ x,foldedSetIterable iter X.env x=pure x:=by intro _;rfl):PS X (.For tg iter body [] pos) (tFor wi g tb):=by
 intro pins s σ H D I h;refine wpAny_For (thn (hi pins s σ H _ I h) fun v s1 h1=>thn h1 fun itv s2 h2=>?_) hs;obtain ⟨it,fp,tn,J,H2,e,I2,T,st2,f2,W,⟨m0,w0⟩,turn⟩:=h2;subst e;have stat:∀ {H':Hp},(∀ b ∈ fp,H' b=none)->∀ b ∈ fp,FpOk X pins H' b:=fun hn b hb=>⟨hn b hb,(f2 b hb).2⟩
 refine codeAny_forLoop_any (fun n s'=>∃ i σ' H',Inv X pins σ' H' s' /\ tn i s'.heap /\ (∀ b ∈ fp,H' b=none) /\ W i n σ' H') ?_ m0 ⟨0,σ,H2,I2,st2,fun b hb=>(f2 b hb).1,w0⟩;rintro n s3 ⟨i,σ3,H3,I3,st3,fr3,w3⟩
 rcases turn i n σ3 H3 w3 with ⟨stop,qn⟩ | ⟨go,N,hN,step⟩
 ·(refine wpAny_passesOwn hp (thn (T.done X rfl rfl rfl hc i pins s3 σ3 H3 X.xe I3 (stat fr3) st3 stop) ?_);rintro r s4 ⟨hr,I4⟩)
  subst hr;exact wpAny_execs_nil ⟨σ3,H3,I4,qn⟩
 ·(refine wpAny_passesOwn hp (thn (T.item X rfl rfl rfl hc i pins s3 σ3 H3 X.xe I3 (stat fr3) st3 go) ?_);rintro r s4 ⟨u,hr,h4⟩)
  subst hr
  (refine wpAny_passesOwn hp (thn h4 ?_);rintro _ s5 ⟨x,H5,I5,r5,y5,st5,fr5⟩)
  have I5':=I5.pinned (stat fr5) (T.obj _ _ st5)
  (refine wpAny_passesOwn hp (thn (hg _ s5 σ3 H5 x u _ I5' r5 (step x H5 y5)) ?_);rintro _ s6 ⟨σ6,H6,I6,q6⟩)
  refine wpAny_passesOwn hp (thn (hb _ s6 σ6 H6 _ I6 q6) fun f s7 q7=>?_);have again:∀ {σ7:St} {H7:Hp},Inv X (pins++uj4 fp s5.heap) σ7 H7 s7->N σ7 H7->∃ m,m < n /\ ∃ i σ' H',Inv X pins σ' H' s7 /\ tn i s7.heap /\ (∀ b ∈ fp,H' b=none) /\ W i m σ' H':=fun {σ7 H7} I7 n7=>by
   obtain ⟨m',hm,w7⟩:=hN σ7 H7 n7;refine ⟨m',hm,i+1,σ7,H7,I7.unpinned,T.keep _ _ _ st5 fun b hb o e=>(I7.pin (b,o) (List.mem_append_right _ (List.mem_append_right _ (u66 hb e)))).1,fun b hb=>?_,w7⟩;obtain ⟨o,e,d⟩:=T.obj _ _ st5 b hb;exact (I7.pin (b,o) (List.mem_append_right _ (List.mem_append_right _ (u66 hb e)))).2.1
  cases f with
  | next=>obtain ⟨σ7,H7,I7,n7⟩:=q7;exact again I7 n7
  | cont=>obtain ⟨σ7,H7,I7,n7⟩:=q7;exact again I7 n7
  | brk=>obtain ⟨σ7,H7,I7,q7⟩:=q7;exact ⟨σ7,H7,I7.unpinned,q7⟩
  | ret v=>obtain ⟨x7,σ7,H7,I7,r7,q7⟩:=q7;exact ⟨x7,σ7,H7,I7.unpinned,r7,q7⟩
end
abbrev R2:=V->V->Hp->VK->Prop
def OpR (X:Cx) (f:Value->Value->Sem Value) (r:R2):Prop :=
 ∀ (pins:List (Addr × Obj)) (s:Shared) (σ:St) (H:Hp) (x y:V) (v u:Value) (Q:VK),Inv X pins σ H s->RelV x v->RelV y u->r x y H Q ->
  wpAny (model X.prog X.w) X.A (f v u) (EP X pins σ Q) X.xe s
def UnR (X:Cx) (f:Value->Sem Value) (r:V->Hp->VK->Prop):Prop :=
 ∀ (pins:List (Addr × Obj)) (s:Shared) (σ:St) (H:Hp) (x:V) (v:Value) (Q:VK),Inv X pins σ H s->RelV x v->r x H Q ->
  wpAny (model X.prog X.w) X.A (f v) (EP X pins σ Q) X.xe s
def CallR (X:Cx) (f:Value) (r:List V->Hp->VK->Prop):Prop :=
 ∀ (pins:List (Addr × Obj)) (s:Shared) (σ:St) (H:Hp) (xs:List V) (us:List Value) (Q:VK),Inv X pins σ H s->Vals xs us->r xs H Q ->
  wpAny (model X.prog X.w) X.A (call f us) (EP X pins σ Q) X.xe s
def tOp (r:R2) (ta tb:TE):TE:=fun σ H Q=>ta σ H fun x H1=>tb σ H1 fun y H2=>r x y H2 Q
def tUn (r:V->Hp->VK->Prop) (ta:TE):TE:=fun σ H Q=>ta σ H fun x H1=>r x H1 Q
def rI (C:Int->Int->Prop) (g:Int->Int->V):R2:=fun x y H Q=>∃ i j,x=.int i /\ y=.int j /\ C i j /\ Q (g i j) H
def rI0 (g:Int->Int->V):R2:=fun x y H Q=>∃ i j,x=.int i /\ y=.int j /\ Q (g i j) H
def rU (g:Int->V):V->Hp->VK->Prop:=fun x H Q=>∃ i,x=.int i /\ Q (g i) H
section
variable {X:Cx} {a b c:Expr} {ta tb tc:TE} {pos:Pos}
theorem binT (ha:PE X a ta) (hb:PE X b tb) {pins:List (Addr × Obj)} {s:Shared} {σ:St} {H:Hp} {R:V->V->Hp->Prop} (I:Inv X pins σ H s)
  (h:ta σ H fun x H1=>tb σ H1 fun y H2=>R x y H2) {Q:Value->Shared->Prop} {f:Value->Value->Sem Value}
  (hf:∀ v u s2 x y H2,Inv X pins σ H2 s2->RelV x v->RelV y u->R x y H2->wpAny (model X.prog X.w) X.A (f v u) Q X.xe s2) :
  wpAny (model X.prog X.w) X.A (eval a X.env) (fun v s₁=>wpAny (model X.prog X.w) X.A (eval b X.env) (fun u s₂=>wpAny (model X.prog X.w) X.A (f v u) Q X.xe s₂) X.xe s₁) X.xe s:=by
 (refine thn (ha pins s σ H _ I h) ?_;rintro v s1 ⟨x,H1,I1,r1,q1⟩)
 (refine thn (hb pins s1 σ H1 _ I1 q1) ?_;rintro u s2 ⟨y,H2,I2,r2,q2⟩)
 exact hf v u s2 x y H2 I2 r1 r2 q2
theorem wj9 {op:Operator} {r:R2} (ho:OpR X (binaryOp op) r) (ha:PE X a ta) (hb:PE X b tb):PE X (.BinOp a op b pos) (tOp r ta tb):=by
 intro pins s σ H Q I h;exact wpAny_BinOp (binT ha hb I h fun v u s2 x y H2 I2 rx ry q=>ho pins s2 σ H2 x y v u Q I2 rx ry q)
theorem wj7 {op:UnaryOp} {r:V->Hp->VK->Prop} (ho:UnR X (unaryOp op) r) (ha:PE X a ta):PE X (.UnaryOp op a pos) (tUn r ta):=by
 intro pins s σ H Q I h
 (refine UnaryOp_ (thn (ha pins s σ H _ I h) ?_);rintro v s1 ⟨x,H1,I1,r1,q1⟩;exact ho pins s1 σ H1 x v Q I1 r1 q1)
theorem opI {f:Value->Value->Sem Value} {C:Int->Int->Prop} {g:Int->Int->Int}
  (rule:∀ (i j:Int) (t u:Tok) (s:Shared) (Q:Value->Shared->Prop) (E:Value->Shared->Prop),C i j->Q (.int (g i j) s.toks) { s with toks:=s.toks+1 }->wpAny (model X.prog X.w) X.A (f (.int i t) (.int j u)) Q E s) :
  OpR X f (rI C fun i j=>.int (g i j)):=by
 intro pins s σ H x y v u Q I rx ry h;obtain ⟨i,j,rfl,rfl,hc,q⟩:=h;obtain ⟨t,rfl⟩:=rx;obtain ⟨t',rfl⟩:=ry;exact rule i j t t' s _ _ hc ⟨.int (g i j),H,I.tok _,⟨_,rfl⟩,q⟩
theorem opI0 {f:Value->Value->Sem Value} {g:Int->Int->Int}
  (rule:∀ (i j:Int) (t u:Tok) (s:Shared) (Q:Value->Shared->Prop) (E:Value->Shared->Prop),Q (.int (g i j) s.toks) { s with toks:=s.toks+1 }->wpAny (model X.prog X.w) X.A (f (.int i t) (.int j u)) Q E s) :
  OpR X f (rI0 fun i j=>.int (g i j)):=by
 intro pins s σ H x y v u Q I rx ry h;obtain ⟨i,j,rfl,rfl,q⟩:=h;obtain ⟨t,rfl⟩:=rx;obtain ⟨t',rfl⟩:=ry;exact rule i j t t' s _ _ ⟨.int (g i j),H,I.tok _,⟨_,rfl⟩,q⟩
theorem opB0 {f:Value->Value->Sem Value} {g:Int->Int->Bool}
  (rule:∀ (i j:Int) (t u:Tok) (s:Shared) (Q:Value->Shared->Prop) (E:Value->Shared->Prop),Q (.bool (g i j)) s->wpAny (model X.prog X.w) X.A (f (.int i t) (.int j u)) Q E s) :
  OpR X f (rI0 fun i j=>.bl (g i j)):=by
 intro pins s σ H x y v u Q I rx ry h;obtain ⟨i,j,rfl,rfl,q⟩:=h;obtain ⟨t,rfl⟩:=rx;obtain ⟨t',rfl⟩:=ry;exact rule i j t t' s _ _ ⟨.bl (g i j),H,I,rfl,q⟩
def CDiv (i j:Int):Prop:=0 < j /\ j < 1073741824
def CPow (i j:Int):Prop:=0<=j /\ j<=1000000 /\ i.natAbs < 2 ^ 64
def CMul (i j:Int):Prop:=(-(2 ^ 64) < i /\ i < 2 ^ 64) \/ (-(2 ^ 64) < j /\ j < 2 ^ 64)
theorem CMul.ok {i j:Int} (h:CMul i j):IntMulOk i j:=by
 rcases h with ⟨h1,h2⟩ | ⟨h1,h2⟩
 ·exact .of_left (intBits_le_64 h1 h2)
 ·exact .of_right (intBits_le_64 h1 h2)
theorem uu5 (k:Nat):(0:Int)<=2 ^ k:=by
 rw [two_pow_cast];exact Int.natCast_nonneg _
theorem op_add:OpR X (binaryOp .Add) (rI0 fun i j=>.int (i+j)):=opI0 fun _ _ _ _ _ _ _ q=>add_int q
theorem w69:OpR X (binaryOp .Sub) (rI0 fun i j=>.int (i - j)):=opI0 fun _ _ _ _ _ _ _ q=>sub_int q
theorem op_mul:OpR X (binaryOp .Mult) (rI CMul fun i j=>.int (i * j)):=opI fun _ _ _ _ _ _ _ hc q=>mul_int q hc.ok
theorem w75:OpR X (binaryOp .Mod) (rI (fun _ j=>0 < j) fun i j=>.int (i % j)):=opI fun i j _ _ _ _ _ hc q=>by
 have h1:(0:Int) < j:=hc;exact mod_int' (by omega) (by rw [Int.fmod_eq_emod_of_nonneg i (by omega)];exact q)
theorem w73:OpR X (binaryOp .Pow) (rI CPow fun i j=>.int (i ^ j.toNat)):=opI fun _ _ _ _ _ _ _ hc q=>pow_int_small hc.1 hc.2.1 hc.2.2 q
theorem w71:OpR X (binaryOp .LShift) (rI CPow fun i j=>.int (i * 2 ^ j.toNat)):=opI fun _ _ _ _ _ _ _ hc q=>lshift_int_small hc.1 hc.2.1 hc.2.2 q
theorem w70:OpR X (binaryOp .RShift) (rI (fun _ j=>0<=j) fun i j=>.int (i / 2 ^ j.toNat)):=opI fun i j _ _ _ _ _ hc q =>
 rshift_int hc (by rw [Int.fdiv_eq_ediv_of_nonneg i (uu5 _)];exact q)
theorem w80:OpR X (binaryOp .BitAnd) (rI0 fun i j=>.int (Builtin.bitAnd i j)):=opI0 fun _ _ _ _ _ _ _ q=>and_int q
theorem wk3:OpR X (binaryOp .BitOr) (rI0 fun i j=>.int (Builtin.bitOr i j)):=opI0 fun _ _ _ _ _ _ _ q=>or_int q
theorem w68:OpR X (binaryOp .BitXor) (rI0 fun i j=>.int (Builtin.bitXor i j)):=opI0 fun _ _ _ _ _ _ _ q=>xor_int q
theorem vw3:OpR X (inplaceOp .Add) (rI0 fun i j=>.int (i+j)):=opI0 fun _ _ _ _ _ _ _ q=>iadd_int q
theorem unI {f:Value->Sem Value} {g:Int->Int}
  (rule:∀ (i:Int) (t:Tok) (s:Shared) (Q:Value->Shared->Prop) (E:Value->Shared->Prop),Q (.int (g i) s.toks) { s with toks:=s.toks+1 }->wpAny (model X.prog X.w) X.A (f (.int i t)) Q E s) :
  UnR X f (rU fun i=>.int (g i)):=by
 intro pins s σ H x v Q I rx h;obtain ⟨i,rfl,q⟩:=h;obtain ⟨t,rfl⟩:=rx;exact rule i t s _ _ ⟨.int (g i),H,I.tok _,⟨_,rfl⟩,q⟩
theorem w30:UnR X (unaryOp .USub) (rU fun i=>.int (-i)):=unI fun _ _ _ _ _ q=>neg_int q
theorem w31:UnR X (unaryOp .Invert) (rU fun i=>.int (Builtin.bitNot i)):=unI fun _ _ _ _ _ q=>invert_int q
end
def scal:V->V->Bool
 | .non,.non=>true | .non,.int _=>true | .int _,.non=>true | .non,.bl _=>true | .bl _,.non=>true | .non,.str _=>true | .str _,.non=>true
 | .int _,.int _=>true | .bl _,.bl _=>true | .str _,.str _=>true | .byt _,.byt _=>true
 | .int _,.str _=>true | .str _,.int _=>true | .bl _,.str _=>true | .str _,.bl _=>true
 | _,_=>false
def rEq:R2:=fun x y H Q=>scal x y=true /\ Q (.bl (decide (x=y))) H
def rNe:R2:=fun x y H Q=>scal x y=true /\ Q (.bl (!decide (x=y))) H
theorem v57 {i j:Int}:decide (V.int i=V.int j)=(i == j):=by
 rw [Bool.eq_iff_iff];simp
theorem vl6 {i j:Bool}:decide (V.bl i=V.bl j)=(i == j):=by
 rw [Bool.eq_iff_iff];simp
theorem v56 {i j:Str}:decide (V.str i=V.str j)=(i == j):=by
 rw [Bool.eq_iff_iff];simp
theorem v58 {i j:Array UInt8}:decide (V.byt i=V.byt j)=(i.toList == j.toList):=by
 rw [Bool.eq_iff_iff];cases i;cases j;simp
section
variable {X:Cx} {a b c:Expr} {ta tb tc:TE} {pos:Pos}
theorem u15 {pins:List (Addr × Obj)} {σ:St} {H:Hp} {s:Shared} {Q:VK} {k k':Bool} (I:Inv X pins σ H s) (q:Q (.bl k) H) (e:k=k'):EP X pins σ Q (.bool k') s:=by
 subst e;exact ⟨.bl k,H,I,rfl,q⟩
theorem op_eq:OpR X (compareOp .Eq) rEq:=by
 intro pins s σ H x y v u Q I rx ry h;obtain ⟨hs,q⟩:=h;cases x with
 | non =>
  cases rx;cases y with
  | non=>cases ry;exact PySem.EqNone.eq_none_none (u15 I q (by simp))
  | bl j=>cases ry;exact PySem.EqNone.eq_none_bool (u15 I q (by simp))
  | int j=>obtain ⟨t',rfl⟩:=ry;exact PySem.EqNone.eq_none_int (u15 I q (by simp))
  | str j=>obtain ⟨t',rfl⟩:=ry;exact PySem.EqNone.eq_none_str (u15 I q (by simp))
  | _=>exact absurd (show false=true from hs) Bool.false_ne_true
 | bl i =>
  cases rx;cases y with
  | non=>cases ry;exact PySem.EqNone.eq_bool_none (u15 I q (by simp))
  | bl j=>cases ry;exact eq_bool (u15 I q vl6)
  | str j=>obtain ⟨t',rfl⟩:=ry;exact PySem.EqMixed.eq_bool_str (u15 I q (by simp))
  | _=>exact absurd (show false=true from hs) Bool.false_ne_true
 | int i =>
  obtain ⟨t,rfl⟩:=rx;cases y with
  | non=>cases ry;exact PySem.EqNone.eq_int_none (u15 I q (by simp))
  | int j=>obtain ⟨t',rfl⟩:=ry;exact eq_int (u15 I q v57)
  | str j=>obtain ⟨t',rfl⟩:=ry;exact PySem.EqMixed.eq_int_str (u15 I q (by simp))
  | _=>exact absurd (show false=true from hs) Bool.false_ne_true
 | str i =>
  obtain ⟨t,rfl⟩:=rx;cases y with
  | non=>cases ry;exact PySem.EqNone.eq_str_none (u15 I q (by simp))
  | bl j=>cases ry;exact PySem.EqMixed.eq_str_bool (u15 I q (by simp))
  | int j=>obtain ⟨t',rfl⟩:=ry;exact PySem.EqMixed.eq_str_int (u15 I q (by simp))
  | str j=>obtain ⟨t',rfl⟩:=ry;exact eq_str (u15 I q v56)
  | _=>exact absurd (show false=true from hs) Bool.false_ne_true
 | byt i =>
  obtain ⟨t,rfl⟩:=rx;cases y with
  | byt j=>obtain ⟨t',rfl⟩:=ry;exact W.eq_bytes (u15 I q v58)
  | _=>exact absurd (show false=true from hs) Bool.false_ne_true
 | _=>cases y <;> exact absurd (show false=true from hs) Bool.false_ne_true
theorem op_ne:OpR X (compareOp .NotEq) rNe:=by
 intro pins s σ H x y v u Q I rx ry h;obtain ⟨hs,q⟩:=h;cases x with
 | non =>
  cases rx;cases y with
  | non=>cases ry;exact PySem.EqNone.ne_none_none (u15 I q (by simp))
  | bl j=>cases ry;exact PySem.EqNone.ne_none_bool (u15 I q (by simp))
  | int j=>obtain ⟨t',rfl⟩:=ry;exact PySem.EqNone.ne_none_int (u15 I q (by simp))
  | str j=>obtain ⟨t',rfl⟩:=ry;exact PySem.EqNone.ne_none_str (u15 I q (by simp))
  | _=>exact absurd (show false=true from hs) Bool.false_ne_true
 | bl i =>
  cases rx;cases y with
  | non=>cases ry;exact PySem.EqNone.ne_bool_none (u15 I q (by simp))
  | bl j=>cases ry;exact ne_bool (u15 I q (congrArg not vl6))
  | str j=>obtain ⟨t',rfl⟩:=ry;exact PySem.EqMixed.ne_bool_str (u15 I q (by simp))
  | _=>exact absurd (show false=true from hs) Bool.false_ne_true
 | int i =>
  obtain ⟨t,rfl⟩:=rx;cases y with
  | non=>cases ry;exact PySem.EqNone.ne_int_none (u15 I q (by simp))
  | int j=>obtain ⟨t',rfl⟩:=ry;exact ne_int (u15 I q (congrArg not v57))
  | str j=>obtain ⟨t',rfl⟩:=ry;exact PySem.EqMixed.ne_int_str (u15 I q (by simp))
  | _=>exact absurd (show false=true from hs) Bool.false_ne_true
 | str i =>
  obtain ⟨t,rfl⟩:=rx;cases y with
  | non=>cases ry;exact PySem.EqNone.ne_str_none (u15 I q (by simp))
  | bl j=>cases ry;exact PySem.EqMixed.ne_str_bool (u15 I q (by simp))
  | int j=>obtain ⟨t',rfl⟩:=ry;exact PySem.EqMixed.ne_str_int (u15 I q (by simp))
  | str j=>obtain ⟨t',rfl⟩:=ry;exact ne_str (u15 I q (congrArg not v56))
  | _=>exact absurd (show false=true from hs) Bool.false_ne_true
 | byt i =>
  obtain ⟨t,rfl⟩:=rx;cases y with
  | byt j=>obtain ⟨t',rfl⟩:=ry;exact W.ne_bytes (u15 I q (congrArg not v58))
  | _=>exact absurd (show false=true from hs) Bool.false_ne_true
 | _=>cases y <;> exact absurd (show false=true from hs) Bool.false_ne_true
theorem op_lt:OpR X (compareOp .Lt) (rI0 fun i j=>.bl (decide (i < j))):=opB0 fun _ _ _ _ _ _ _ q=>lt_int q
theorem wk4:OpR X (compareOp .Gt) (rI0 fun i j=>.bl (decide (j < i))):=opB0 fun _ _ _ _ _ _ _ q=>gt_int q
theorem wk5:OpR X (compareOp .GtE) (rI0 fun i j=>.bl (decide (j<=i))):=opB0 fun _ _ _ _ _ _ _ q=>ge_int q
theorem v04:OpR X (compareOp .Lt) (fun x y H Q=>∃ i j,x=.str i /\ y=.str j /\ Q (.bl (decide (i.cps.toList < j.cps.toList))) H):=by
 intro pins s σ H x y v u Q I rx ry h;obtain ⟨i,j,rfl,rfl,q⟩:=h;obtain ⟨t,rfl⟩:=rx;obtain ⟨t',rfl⟩:=ry;exact lt_str (u15 I q rfl)
theorem op_isN:OpR X (compareOp .Is) (fun x y H Q=>y=.non /\ Q (.bl (decide (x=.non))) H):=by
 intro pins s σ H x y v u Q I rx ry h;obtain ⟨rfl,q⟩:=h;cases ry;refine is_none_gen (u15 I q ?_);cases x <;> first
  | (cases rx;rfl)
  | (obtain ⟨t,rfl⟩:=rx;rfl)
theorem OpR.or {f:Value->Value->Sem Value} {r r':R2} (h:OpR X f r) (h':OpR X f r'):OpR X f (fun x y H Q=>r x y H Q \/ r' x y H Q):=by
 intro pins s σ H x y v u Q I rx ry q
 rcases q with q | q
 ·exact h pins s σ H x y v u Q I rx ry q
 ·exact h' pins s σ H x y v u Q I rx ry q
theorem nomark (b:Expr) {op:CmpOp} (h:op ≠ .In:=by decide) (h2:op ≠ .NotIn:=by decide):behindInMarks op b=false:=by
 have e1:(op == CmpOp.In)=false:=by cases op <;> first | rfl | exact absurd rfl h
 have e2:(op == CmpOp.NotIn)=false:=by cases op <;> first | rfl | exact absurd rfl h2
 cases b <;> simp [behindInMarks,e1,e2]
theorem vs4 {op:CmpOp} {r:R2} (ho:OpR X (compareOp op) r) (ha:PE X a ta) (hb:PE X b tb) (hm:behindInMarks op b=false):PE X (.Compare a [op] [b] pos) (tOp r ta tb):=by
 intro pins s σ H Q I h;exact wpAny_Compare1 (binT ha hb I h fun v u s2 x y H2 I2 rx ry q=>ho pins s2 σ H2 x y v u Q I2 rx ry q) hm
def wi5 (t:TE):TT:=fun σ H Q=>t σ H fun x H'=>∃ k,x=.bl k /\ Q k H'
theorem vq9 {op:CmpOp} {r:R2} (ho:OpR X (compareOp op) r) (ha:PE X a ta) (hb:PE X b tb) (hm:behindInMarks op b=false):PT X (.Compare a [op] [b] pos) (wi5 (tOp r ta tb)):=by
 intro pins s σ H Q I h;refine wpAny_isTrue_Compare1 (thn (ha pins s σ H _ I h) fun v s1 ⟨x,H1,I1,r1,q1⟩=>thn (hb pins s1 σ H1 _ I1 q1) fun u s2 ⟨y,H2,I2,r2,q2⟩ =>
  thn (ho pins s2 σ H2 x y v u _ I2 r1 r2 q2) fun c s3 ⟨z,H3,I3,r3,k,e,q3⟩=>?_) hm
 subst e;cases r3;exact wpAny_truthy_bool ⟨H3,I3,q3⟩
theorem line63:(sizeLine:Nat) < 2 ^ 63:=by rw [sizeLine_eq];decide
theorem op_add_str:OpR X (binaryOp .Add) (fun x y H Q=>∃ i j,x=.str i /\ y=.str j /\ i.length+j.length<=sizeLine /\ Q (.str (i++j)) H):=by
 intro pins s σ H x y v u Q I rx ry h;obtain ⟨i,j,rfl,rfl,hz,q⟩:=h;obtain ⟨t,rfl⟩:=rx;obtain ⟨t',rfl⟩:=ry;exact add_str (fun t' tk=>⟨.str (i++j),H,I.tok _,⟨_,rfl⟩,q⟩) hz
theorem vals1 {x:V} {us:List Value} (r:Vals [x] us):∃ u,us=[u] /\ RelV x u:=by
 cases r with
 | cons r1 r2=>cases r2;exact ⟨_,rfl,r1⟩
theorem vals2 {x y:V} {us:List Value} (r:Vals [x,y] us):∃ u w',us=[u,w'] /\ RelV x u /\ RelV y w':=by
 cases r with
 | cons r1 r2 =>
  cases r2 with
  | cons r3 r4=>cases r4;exact ⟨_,_,rfl,r1,r3⟩
theorem ve6:CallR X (.builtin "abs") (fun xs H Q=>∃ i,xs=[.int i] /\ Q (.int (if i < 0 then -i else i)) H):=by
 intro pins s σ H xs us Q I r h;obtain ⟨i,rfl,q⟩:=h;obtain ⟨u,rfl,t,rfl⟩:=vals1 r;exact call_abs_int fun u tk=>⟨.int (if i < 0 then -i else i),H,I.tok _,⟨_,rfl⟩,q⟩
theorem v72 (hc:X.calm=true):CallR X (.builtin "max") (fun xs H Q=>∃ i j,xs=[.int i,.int j] /\ Q (.int (if j > i then j else i)) H):=by
 intro pins s σ H xs us Q I r h;obtain ⟨i,j,rfl,q⟩:=h;obtain ⟨u,w',rfl,⟨t,rfl⟩,⟨t',rfl⟩⟩:=vals2 r;refine max_two_ints (I.ok.hd hc) fun h' tk k=>⟨_,H,I.kept k,?_,q⟩
 by_cases hj:j > i
 ·rw [if_pos hj,if_pos hj];exact ⟨_,rfl⟩
 ·rw [if_neg hj,if_neg hj];exact ⟨_,rfl⟩
theorem v70 (hc:X.calm=true):CallR X (.builtin "min") (fun xs H Q=>∃ i j,xs=[.int i,.int j] /\ Q (.int (if j < i then j else i)) H):=by
 intro pins s σ H xs us Q I r h;obtain ⟨i,j,rfl,q⟩:=h;obtain ⟨u,w',rfl,⟨t,rfl⟩,⟨t',rfl⟩⟩:=vals2 r;refine min_two_ints (I.ok.hd hc) fun h' tk k=>⟨_,H,I.kept k,?_,q⟩
 by_cases hj:j < i
 ·rw [if_pos hj,if_pos hj];exact ⟨_,rfl⟩
 ·rw [if_neg hj,if_neg hj];exact ⟨_,rfl⟩
end
structure ObjM (h:Heap) (x dx C:Addr) (mA:Str->Option Value):Prop where
 obj:h.get? x=some (W.instObj C dx)
 ns:h.Ns1 dx mA
 ne:dx ≠ x
theorem v28 {h:Heap} {dx:Addr} {mA:Str->Option Value} (n:h.Ns1 dx mA):∃ od,h.get? dx=some od /\ ∀ name,W.lookIn name od=some (mA name):=by
 obtain ⟨o,es,ep,ho,hd,hk,_,hm⟩:=n;refine ⟨o,ho,fun name=>?_⟩;have e:=hm name;unfold nsFind findBy at e;rw [<- Array.find?_toList] at e;unfold W.lookIn;rw [hd];dsimp only;split
 ·rename_i y q
  rw [q] at e;exact congrArg some e
 ·rename_i q
  rw [q] at e;have a:es.toList.any (·.refKey)=false:=by
   rw [List.any_eq_false];intro y hy;obtain ⟨z,t,hkey⟩:=hk y (Array.mem_toList_iff.mp hy);simp [DictEntry.refKey,hkey]
  have a':¬ es.toList.any (·.refKey)=true:=by rw [a];exact Bool.false_ne_true
  rw [if_neg a'];exact congrArg some e
theorem ObjM.look {h:Heap} {x dx C:Addr} {mA:Str->Option Value} (I:ObjM h x dx C mA):∃ od,W.InstAt h x (W.instObj C dx) C (some od) /\ ∀ name,W.lookIn name od=some (mA name) :=
 let ⟨od,ho,hl⟩:=v28 I.ns
 ⟨od,⟨I.obj,rfl,rfl,ho⟩,hl⟩
theorem RelO.some_of {v:V} {o:Option Value} (r:RelO (some v) o):∃ u,o=some u /\ RelV v u:=by
 cases o with
 | none=>exact (show False from r).elim
 | some u=>exact ⟨u,rfl,r⟩
theorem RelO.none_of {o:Option Value} (r:RelO none o):o=none:=by
 cases o with
 | none=>rfl
 | some u=>exact (show False from r).elim
section
variable {P:Program} {w:World} {H H':Hp} {h h':Heap} {a C dx:Addr} {fs fs':List (Str × V)}
theorem vw4 (hok:HOk P w H h) (e:H a=some (.ins C dx fs)):∃ mA,ObjM h a dx C mA /\ (∀ f,RelO (fs.lookup f) (mA f)) /\ PySem.Within mA (fs.map (·.1)) /\ fs.length<=1000 /\ H dx=some (.own a):=by
 obtain ⟨d,z,ne,ob,mA,n,r,q⟩:=(show ObjOk P w H h a (.ins C dx fs) from hok a _ e);exact ⟨mA,⟨ob,n,ne⟩,r,q,z,d⟩
end
structure Cls (K:W.Frag) (C:Addr):Prop where
 pg:W.plainGet K C Str.empty=true
 hd:W.hasDictIn K C=true
 po:W.plainOver K C=true
 sa:W.findIn K (.ref C) "__setattr__" = some (some (.builtin "object.__setattr__"))
theorem Cls.get {K:W.Frag} {C:Addr} (c:Cls K C) (f:Str):W.plainGet K C f=true:=c.pg
structure Con (K:W.Frag) (C:Addr) (f:Str) (v:V) (u:Value):Prop where
 at_:W.findIn K (.ref C) f=some (some u)
 rel:RelV v u
 get:W.specialIn K u "__get__" = some none
 cp:W.copiedNames.contains f=false
structure Meth (K:W.Frag) (C:Addr) (m:Str) (f:Addr):Prop where
 at_:W.findIn K (.ref C) m=some (some (.ref f))
 fn:W.isFn K (.ref f)=true
 kp:W.keepIn K (.ref f)=true
section
variable {X:Cx} {pins:List (Addr × Obj)} {σ:St} {H:Hp} {s:Shared} {A:Around} {E:Value->Shared->Prop} {Q:Value->Shared->Prop} {c:Value} {b:Bool}
inductive TyOf (K:W.Frag) (H:Hp):V->Value->Prop where
 | non:TyOf K H .non (.type "NoneType")
 | bl (x:Bool):TyOf K H (.bl x) (.type "bool")
 | int (i:Int):TyOf K H (.int i) (.type "int")
 | str (x:Str):TyOf K H (.str x) (.type "str")
 | flt (x:UInt64):TyOf K H (.flt x) (.type "float")
 | lst {a:Addr} {xs:List V} (e:H a=some (.lst xs)):TyOf K H (.ref a) (.type "list")
 | frz {a:Addr} {o:Obj} {xs:List V} (e:H a=some (.frz o (.lst xs))):TyOf K H (.ref a) (.type "list")
 | tup {a:Addr} {xs:List V} (e:H a=some (.tup xs)):TyOf K H (.ref a) (.type "tuple")
 | dK {a:Addr} {kvs:List (Key × V)} (e:H a=some (.dK kvs)):TyOf K H (.ref a) (.type "dict")
 | dT {a:Addr} {kvs:List (List Key × V)} (e:H a=some (.dT kvs)):TyOf K H (.ref a) (.type "dict")
 | ins {a C dx:Addr} {fs:List (Str × V)} (e:H a=some (.ins C dx fs)) (cl:Cls K C) (ha:W.findIn K (.ref C) "__class__" = some (some (.builtin "object.__class__")))
   (hn:W.specialIn K (.builtin "object.__class__") "__get__" = some (some (.builtin "getset_descriptor.__get__"))) (htk:W.takesIn K (.builtin "object.__class__")=some true)
   (hm:W.mroIn K C (.type "object")=some true):TyOf K H (.ref a) (.ref C)
theorem u43 {x:V} {u t:Value} (I:Inv X pins σ H s) (rx:RelV x u) (ty:TyOf X.K H x t) (e:W.kitOne X.K t c=some b) (h:∀ tk,Q (.bool b) { s with toks:=tk }) :
  wpAny (model X.prog X.w) A (call (.builtin "isinstance") [u,c]) Q E s:=by
 cases ty with
 | non=>cases (show u=Value.none from rx);exact W.kia_one W.kitx_none I.kIn True.intro e (fun z=>nomatch z) h
 | bl y=>cases (show u=Value.bool y from rx);exact W.kia_one W.kitx_bool I.kIn True.intro e (fun z=>nomatch z) h
 | int i=>obtain ⟨t,q⟩:=(show ∃ t,u=Value.int i t from rx);cases q;exact W.kia_one W.kitx_int I.kIn True.intro e (fun z=>nomatch z) h
 | str y=>obtain ⟨t,q⟩:=(show ∃ t,u=Value.str y t from rx);cases q;exact W.kia_one W.kitx_str I.kIn True.intro e (fun z=>nomatch z) h
 | flt y=>obtain ⟨t,q⟩:=(show ∃ t,u=Value.float y t from rx);cases q;exact W.kia_one W.kitx_float I.kIn True.intro e (fun z=>nomatch z) h
 | @lst a xs ea =>
  cases (show u=Value.ref a from rx);obtain ⟨_,_,n,_,h1⟩:=(show ObjOk X.prog X.w H s.heap a (.lst xs) from I.hok a _ ea);exact W.kia_one W.kitx_list I.kIn ⟨_,h1,rfl⟩ e (fun z=>nomatch z) h
 | @frz a ob xs ea =>
  cases (show u=Value.ref a from rx);obtain ⟨_,_,_,n,_,h1⟩:=(show ObjOk X.prog X.w H s.heap a (.frz ob (.lst xs)) from I.hok a _ ea);exact W.kia_one W.kitx_list I.kIn ⟨_,h1,rfl⟩ e (fun z=>nomatch z) h
 | @tup a xs ea =>
  cases (show u=Value.ref a from rx);obtain ⟨_,_,_,p⟩:=(show ObjOk X.prog X.w H s.heap a (.tup xs) from I.hok a _ ea);obtain ⟨o,h1,h2,_⟩:=p;exact W.kia_one W.kitx_tuple I.kIn ⟨o,h1,h2⟩ e (fun z=>nomatch z) h
 | @dK a kvs ea =>
  cases (show u=Value.ref a from rx);obtain ⟨_,_,vs,_,p⟩:=(show ObjOk X.prog X.w H s.heap a (.dK kvs) from I.hok a _ ea);obtain ⟨o,es,ep,h1,h2,_⟩:=p;exact W.kia_one W.kitx_dict I.kIn ⟨o,h1,h2.1⟩ e (fun z=>nomatch z) h
 | @dT a kvs ea =>
  cases (show u=Value.ref a from rx);obtain ⟨_,_,xs,_,o,es,ep,h1,h2,_⟩:=(show ObjOk X.prog X.w H s.heap a (.dT kvs) from I.hok a _ ea);exact W.kia_one W.kitx_dict I.kIn ⟨o,h1,h2.1⟩ e (fun z=>nomatch z) h
 | @ins a C dx fs ea cl ha hn htk hm =>
  cases (show u=Value.ref a from rx);obtain ⟨mA,O,_⟩:=vw4 I.hok ea;obtain ⟨od,J,_⟩:=O.look;exact W.kia_one (W.kitx_own (cl.get _) cl.hd ha hn htk hm) I.kIn J e (fun z=>nomatch z) h
end
structure Room (k:Nat) (A:Around):Prop where
 hd:A.handled=none
 dp:A.depth+3 * k+5 < recursionLimit
 un:A.units+16 * k+200 < cLine
theorem Room.mono {j k:Nat} {A:Around} (r:Room k A) (h:j<=k):Room j A:=⟨r.hd,by have:=r.dp;omega,by have:=r.un;omega⟩
theorem Room.deeper {k:Nat} {A:Around} (r:Room (k+1) A) (env:Env):Room k (A.deeper env) :=
 ⟨r.hd,by have:=r.dp;show A.depth+1+3 * k+5 < _;omega,by have:=r.un;show A.units+3+16 * k+200 < _;omega⟩
theorem Room.in1 {k:Nat} {A:Around} (r:Room (k+1) A):Room k A.in1 :=
 ⟨r.hd,by have:=r.dp;show A.depth+3 * k+5 < _;omega,by have:=r.un;show A.units+1+16 * k+200 < _;omega⟩
theorem Room.depth {k:Nat} {A:Around} (r:Room k A):A.depth < recursionLimit:=by have:=r.dp;omega
theorem Room.units {k:Nat} {A:Around} (r:Room k A):A.units+64 < cLine:=by have:=r.un;omega
def tNil:TA:=fun _ H Q=>Q [] H
def w38 (ta:TE) (tr:TA):TA:=fun σ H Q=>ta σ H fun x H1=>tr σ H1 fun xs H2=>Q (x::xs) H2
section
variable {X:Cx} {e:Expr} {es:List Expr} {te:TE} {t:TA} {pos:Pos}
theorem w65:PA X [] tNil:=fun _ _ _ _ H Q I h=>Calls.spliced_nil ⟨[],H,I,.nil,h⟩
theorem vs9 (ha:PE X e te) (hr:PA X es t) (hs:starEach (e::es) X.env=(false,eval e X.env)::starEach es X.env:=by rfl):PA X (e::es) (w38 te t):=by
 intro pos pins s σ H Q I h;rw [hs]
 show wpAny _ _ (spliced ((false,eval e X.env)::backTo pos (starEach es X.env))) _ _ s
 (refine Calls.spliced_cons (thn (ha pins s σ H _ I h) ?_);rintro u s1 ⟨x,H1,I1,r1,q1⟩)
 (refine thn (hr pos pins s1 σ H1 _ I1 q1) ?_;rintro us s2 ⟨xs,H2,I2,r2,q2⟩;exact ⟨x::xs,H2,I2,.cons r1 r2,q2⟩)
def tTup (t:TA):TE:=fun σ H Q=>t σ H fun xs H1=>xs.length<=sizeLine /\ ∀ p,H1 p=none->Q (.ref p) (upd H1 p (.tup xs))
def tLst (t:TA):TE:=fun σ H Q=>t σ H fun xs H1=>xs.length<=sizeLine /\ ∀ p,H1 p=none->Q (.ref p) (upd H1 p (.lst xs))
theorem vj8 {x1} (h:PA X es t):PE X (.Tuple es x1 pos) (tTup t):=by
 intro pins s σ H Q I hq;refine wpAny_Tuple_spliced (thn (h pos pins s σ H _ I hq) fun us s1 ⟨xs,H1,I1,r,z,q⟩=>⟨by rw [<- r.length];exact z,?_⟩);have hf:H1 s1.heap.objs.size=none:=I1.hok.fresh (Nat.le_refl _);refine ⟨.ref s1.heap.objs.size,upd H1 s1.heap.objs.size (.tup xs),I1.laid (t':=s1.toks) (fun b u e=>Heap.get?_push_of_some _ e) (Nat.le_refl _) ?_,rfl,q _ hf⟩;exact ⟨z,us,r,⟨_,Heap.get?_push_size _ rfl,rfl,⟨_,rfl⟩,rfl⟩⟩
theorem w60 (h:PA X es t):PE X (.List es pos) (tLst t):=by
 intro pins s σ H Q I hq;refine wpAny_List_spliced (thn (h pos pins s σ H _ I hq) fun us s1 ⟨xs,H1,I1,r,z,q⟩=>⟨by rw [<- r.length];exact z,?_⟩);have hf:H1 s1.heap.objs.size=none:=I1.hok.fresh (Nat.le_refl _);refine ⟨.ref s1.heap.objs.size,upd H1 s1.heap.objs.size (.lst xs),I1.laid (t':=s1.toks) (fun b u e=>Heap.get?_push_of_some _ e) (Nat.le_refl _) ?_,rfl,q _ hf⟩;exact ⟨z,us,0,r,Heap.get?_push_size _ rfl⟩
end
abbrev Sp:=List V->Hp->VK->XK->Prop
abbrev CXT:=List Env->Hp->Shared->XK->Value->Shared->Prop
structure Env0 (P:Program) (w:World) (K:W.Frag) (mg:Str->Option Value) (base:Heap) (A:Around) (outer:List Env) (s:Shared) (H:Hp):Prop where
 frames:A.frames=some outer
 mod:Mod K mg base
 bs:∀ b o,base.get? b=some o->s.heap.get? b=some o /\ H b=none
 bsz:base.objs.size<=s.heap.objs.size
 funs:s.heap.FunFrames base outer
 frf:∀ b ∈ frs outer,H b=none
 hok:HOk P w H s.heap
 bare:AllBare s.gens
def CE (outer:List Env) (P:Program) (w:World) (H:Hp) (s:Shared) (Q:VK) (u:Value) (s':Shared):Prop :=
 ∃ v H',s'.os=s.os /\ AllBare s'.gens /\ Un (frs outer) [] H H' s.heap s'.heap /\ HOk P w H' s'.heap /\ RelV v u /\ Q v H'
def CR (CX:CXT) (outer:List Env) (P:Program) (w:World) (H:Hp) (s:Shared) (Q:VK) (E:XK) (r:Result) (s':Shared):Prop :=
 match r with
 | .ok (.ret u)=>CE outer P w H s Q u s'
 | .ok _=>False
 | .error e=>CX outer H s E e s'
structure FnOk (P:Program) (w:World) (K:W.Frag) (mg:Str->Option Value) (base:Heap) (CX:CXT) (k:Nat) (f:Addr) (fd:FuncData) (ps:List Str) (sp:Sp):Prop where
 len:∀ vs H Q E,sp vs H Q E->vs.length=ps.length
 run:∀ (A:Around) (outer:List Env) (s:Shared) (H:Hp) (args:Args) (us:List Value) (vs:List V) (Q:VK) (E:XK),Room k A->Env0 P w K mg base A outer s H->BindsTo s fd args (ps.zip us)->Vals vs us->sp vs H Q E ->
  codeAny (model P w) A (.call (.ref f) args) (CR CX outer P w H s Q E) s
theorem FnOk.mono {P:Program} {w:World} {K:W.Frag} {mg:Str->Option Value} {base:Heap} {CX:CXT} {j k:Nat} {f:Addr} {fd:FuncData} {ps:List Str} {sp:Sp} (F:FnOk P w K mg base CX j f fd ps sp) (h:j<=k) :
  FnOk P w K mg base CX k f fd ps sp:=⟨F.len,fun A outer s H args us vs Q E hr=>F.run A outer s H args us vs Q E (hr.mono h)⟩
theorem FnOk.imp {P:Program} {w:World} {K:W.Frag} {mg:Str->Option Value} {base:Heap} {CX:CXT} {k:Nat} {f:Addr} {fd:FuncData} {ps:List Str} {sp sp':Sp} (F:FnOk P w K mg base CX k f fd ps sp)
  (h:∀ vs H Q E,sp' vs H Q E->sp vs H Q E):FnOk P w K mg base CX k f fd ps sp' :=
 ⟨fun vs H Q E q=>F.len vs H Q E (h _ _ _ _ q),fun A outer s H args us vs Q E hr he hb hv hs=>F.run A outer s H args us vs Q E hr he hb hv (h _ _ _ _ hs)⟩
theorem Env0.in1 {P:Program} {w:World} {K:W.Frag} {mg:Str->Option Value} {base:Heap} {A:Around} {outer:List Env} {s:Shared} {H:Hp} (e:Env0 P w K mg base A outer s H) :
  Env0 P w K mg base A.in1 outer s H:=⟨e.frames,e.mod,e.bs,e.bsz,e.funs,e.frf,e.hok,e.bare⟩
section
variable {X:Cx} {pins:List (Addr × Obj)} {σ:St} {H:Hp} {s s':Shared}
theorem Inv.env0 (I:Inv X pins σ H s):Env0 X.prog X.w X.K X.mg X.base X.A X.stack s H :=
 ⟨I.ok.frames,I.ok.mod,I.bs,Nat.le_trans I.ok.bsz I.sz,I.stack,I.stkFree,I.hok,I.bare⟩
theorem Inv.after {Q:VK} {u:Value} (I:Inv X pins σ H s) (h:CE X.stack X.prog X.w H s Q u s'):EP X pins σ Q u s':=by
 obtain ⟨v,H',os,bare,un,hok,r,q⟩:=h;obtain ⟨hh,g,d,t,os'⟩:=s';obtain rfl:os'=s.os:=os;exact ⟨v,H',I.call (h':=hh) (g':=g) (d':=d) (t':=t) (ch:=[]) un hok bare (fun b z=>absurd z (by simp)),r,q⟩
end
def w39 (sp:Sp) (dvs:List V) (E:XK) (t:TA):TE:=fun σ H Q=>t σ H fun vs H1=>sp (vs++dvs) H1 Q E
def wn2 (C:Addr) (m:Str) (sp:Sp) (dvs:List V) (E:XK) (ta:TE) (t:TA):TE:=fun σ H Q=>ta σ H fun x H1=>∃ a dx fs,x=.ref a /\ H1 a=some (.ins C dx fs) /\ fs.lookup m=none /\
 t σ H1 fun vs H2=>sp (x::(vs++dvs)) H2 Q E
def Binds (K:W.Frag) (fd:FuncData) (ps:List Str) (ds:List Value):Prop :=
 ∀ (s:Shared) (us:List Value),K.In s.heap->(us++ds).length=ps.length->BindsTo s fd ⟨us,[]⟩ (ps.zip (us++ds))
theorem Binds.all {K:W.Frag} {fd:FuncData} {ps:List Str} (h:∀ us:List Value,us.length=ps.length->bindArgs fd ⟨us,[]⟩=pure (ps.zip us)):Binds K fd ps []:=fun s us _ hl=>by
 rw [List.append_nil] at hl ⊢;exact .of_eq (h us hl)
def Passes (CX:CXT) (X:Cx) (E:XK):Prop:=∀ (pins:List (Addr × Obj)) (σ:St) (H:Hp) (s:Shared) (e:Value) (s':Shared),Inv X pins σ H s->CX X.stack H s E e s'->X.xe e s'
section
variable {X:Cx} {CX:CXT} {k:Nat} {f C:Addr} {fd:FuncData} {ps:List Str} {sp:Sp} {dvs:List V} {ds:List Value} {E:XK} {x m:Str} {p pos apos:Pos} {e o:Expr} {es:List Expr} {ta:TE} {t:TA}
theorem w42 {pins:List (Addr × Obj)} {σ:St} {H:Hp} {s:Shared} {Q:VK} {us:List Value} {vs:List V} (F:FnOk X.prog X.w X.K X.mg X.base CX k f fd ps sp) (hr:Room k X.A) (hb:Binds X.K fd ps ds) (hd:Vals dvs ds) (hx:Passes CX X E)
  (I:Inv X pins σ H s) (r:Vals vs us) (h:sp (vs++dvs) H Q E):wpAny (model X.prog X.w) X.A (call (.ref f) us) (EP X pins σ Q) X.xe s:=by
 have r2:Vals (vs++dvs) (us++ds):=r.append hd;have hl:(us++ds).length=ps.length:=by rw [<- r2.length];exact F.len _ _ _ _ h
 refine wpAny_call (codeAny_mono (F.run X.A X.stack s H ⟨us,[]⟩ (us++ds) (vs++dvs) Q E hr I.env0 (hb s us I.kIn hl) r2 h) fun r s' hq=>?_);cases r with
 | error e=>exact hx pins σ H s e s' I hq
 | ok fl =>
  cases fl with
  | ret u=>exact I.after hq
  | next=>exact False.elim hq
  | brk=>exact False.elim hq
  | cont=>exact False.elim hq
theorem vs5 (F:FnOk X.prog X.w X.K X.mg X.base CX k f fd ps sp) (hr:Room k X.A) (hg:Gl X x) (hm:X.mg x=some (.ref f)) (hk:W.keepIn X.K (.ref f)=true) (hb:Binds X.K fd ps ds) (hd:Vals dvs ds) (hx:Passes CX X E)
  (ha:PA X (e::es) t) (hdb:(x == ("__debug__" : Str))=false:=by decide) (he:starEach (e::es) X.env=(false,eval e X.env)::starEach es X.env:=by rfl) (hpl:(backTo pos (starEach es X.env)).any (·.1)=false:=by rfl) :
  PE X (.Call (.Name x p) (e::es) [] pos) (w39 sp dvs E t):=by
 intro pins s σ H Q I h;refine wpAny_Call_Name_kw (vv6 I hg hm ?_ hdb)
 (refine W.callWith_K (h₀:=X.base) I.ok.mod.kin hk (thn (ha pos pins s σ H _ I h) ?_) he hpl;rintro us s1 ⟨vs,H1,I1,r,q⟩;refine ⟨I1.kIn,?_⟩)
 exact w42 F hr hb hd hx I1 r q
end
structure FnScope (N P:List Str) (sc:Scope):Prop where
 kind:sc.kind=.function
 co:sc.isCoroutine=false
 gen:sc.isGenerator=false
 nd:N.Nodup
 pre:N.take P.length=P
 par:∀ x ∈ P,sc.names.lookup x=some .local \/ sc.names.lookup x=some .cell
 nofree:∀ y ∈ sc.names,y.2 ≠ .free
theorem ul7 {kindOf:Str->Option NameKind} {x:Str}:∀ {binds:List (Str × Value)} {m:Str->Option Value},(∀ v,(x,v) ∉ binds)->bindL kindOf binds m x=m x
 | [],_,_=>rfl
 | (n,v)::r,m,h=>by
  unfold bindL;rw [ul7 fun w hw=>h w (List.mem_cons_of_mem _ hw)];split
  ·have:x ≠ n:=by rintro rfl;exact h v List.mem_cons_self
   simp [this]
  ·rfl
theorem ul9 {kindOf:Str->Option NameKind} {x:Str}:∀ {binds:List (Str × Value)} {m:Str->Option Value},(∀ v,(x,v) ∉ binds)->bindC kindOf binds m x=m x
 | [],_,_=>rfl
 | (n,v)::r,m,h=>by
  unfold bindC;rw [ul9 fun w hw=>h w (List.mem_cons_of_mem _ hw)];split
  ·rfl
  ·have:x ≠ n:=by rintro rfl;exact h v List.mem_cons_self
   simp [this]
theorem ul8 {kindOf:Str->Option NameKind} {x:Str} {v:Value}:∀ {P:List Str} {vs:List Value} {i:Nat} {m:Str->Option Value},P.Nodup->P[i]?=some x->vs[i]?=some v->kindOf x=some .local ->
  bindL kindOf (P.zip vs) m x=some v
 | [],_,_,_,_,h,_,_=>by simp at h
 | _::_,[],_,_,_,_,h,_=>by simp at h
 | p::P,w::vs,0,m,nd,h1,h2,hk=>by
  simp at h1 h2;subst h1;subst h2
  show bindL kindOf ((p,w)::P.zip vs) m p=_
  unfold bindL;rw [ul7 fun v hv=>(List.nodup_cons.mp nd).1 (List.of_mem_zip hv).1,if_pos hk];simp
 | p::P,w::vs,i+1,m,nd,h1,h2,hk=>by
  show bindL kindOf ((p,w)::P.zip vs) m x=_
  unfold bindL;exact ul8 (i:=i) (List.nodup_cons.mp nd).2 (by simpa using h1) (by simpa using h2) hk
theorem um0 {kindOf:Str->Option NameKind} {x:Str} {v:Value}:∀ {P:List Str} {vs:List Value} {i:Nat} {m:Str->Option Value},P.Nodup->P[i]?=some x->vs[i]?=some v->kindOf x ≠ some .local ->
  bindC kindOf (P.zip vs) m x=some v
 | [],_,_,_,_,h,_,_=>by simp at h
 | _::_,[],_,_,_,_,h,_=>by simp at h
 | p::P,w::vs,0,m,nd,h1,h2,hk=>by
  simp at h1 h2;subst h1;subst h2
  show bindC kindOf ((p,w)::P.zip vs) m p=_
  unfold bindC;rw [ul9 fun v hv=>(List.nodup_cons.mp nd).1 (List.of_mem_zip hv).1,if_neg hk];simp
 | p::P,w::vs,i+1,m,nd,h1,h2,hk=>by
  show bindC kindOf ((p,w)::P.zip vs) m x=_
  unfold bindC;exact um0 (i:=i) (List.nodup_cons.mp nd).2 (by simpa using h1) (by simpa using h2) hk
def start (N:List Str) (vs:List V):St:=vs.map some++List.replicate (N.length - vs.length) none
def cxOf (CX:CXT) (P:Program) (w:World) (K:W.Frag) (mg:Str->Option Value) (base:Heap) (N:List Str) (qual:Str) (scope:Scope) (f:Addr) (cd:Value) (A:Around) (outer:List Env) (s:Shared) (H:Hp) (E:XK):Cx where
 prog:=P
 w:=w
 K:=K
 mg:=mg
 base:=base
 A:=A.deeper (envOfC qual scope s.heap.objs.size f cd)
 N:=N
 s₀:=s
 H₀:=H
 env:=envOfC qual scope s.heap.objs.size f cd
 outer:=outer
 stack:=envOfC qual scope s.heap.objs.size f cd::outer
 ex:=[]
 calm:=true
 fn:=fun _=>true
 pn:=[]
 xe:=fun e s'=>wpAny (model P w) (A.deeper (envOfC qual scope s.heap.objs.size f cd)) (leaving (envOfC qual scope s.heap.objs.size f cd) e) (fun _ s''=>CX outer H s E e s'') (fun e' s''=>CX outer H s E e' s'') s'
theorem uu0 {sc:Scope} {n:Nat} {x:Str} (h:sc.names.lookup x=some .cell):∃ c,(cellsFrom n sc.names []).lookup x=some c:=by
 have q:=W.cellsFrom_some sc.names n [] (.inl h);exact Option.isSome_iff_exists.mp q
theorem v42 {CX:CXT} {P:Program} {w:World} {K:W.Frag} {mg:Str->Option Value} {base:Heap} {N ps:List Str} {qual:Str} {scope:Scope} {f:Addr} {cd:Value} {A:Around} {outer:List Env} {s s1:Shared} {H:Hp} {E:XK} {us:List Value} {vs:List V}
  (S:FnScope N ps scope) (hd:A.handled=none) (e0:Env0 P w K mg base A outer s H) (hl:vs.length=ps.length) (r:Vals vs us)
  (x:InCallC s s.heap.objs.size (bindL (envOfC qual scope s.heap.objs.size f cd).kindOf (ps.zip us) fun _=>none) (cellsFrom (s.heap.objs.size+1) scope.names []) (bindC (envOfC qual scope s.heap.objs.size f cd).kindOf (ps.zip us) fun _=>none) s1) :
  Inv (cxOf CX P w K mg base N qual scope f cd A outer s H E) [] (start N vs) H s1:=by
 have hpl:ps.length<=N.length:=by have:=congrArg List.length S.pre;rw [List.length_take] at this;omega
 obtain ⟨h1,tk,rfl,hk⟩:=x.done;have noA:∀ b:Addr,b ∉ (cxOf CX P w K mg base N qual scope f cd A outer s H E).ex:=fun b z=>absurd (show b ∈ ([]:List Addr) from z) (by simp)
 refine ⟨⟨e0.mod,S.kind,rfl,rfl,Nat.le_refl _,fun y z c h1 h2=>?_,fun y hy=>?_,fun y c _ h=>?_,fun _=>hd,Around.frames_deeper e0.frames,.inr ⟨rfl,rfl⟩,fun b z=>absurd z (noA b),e0.bs,e0.bsz,fun b _ _=>noA b,fun b z=>absurd z (noA b),e0.funs,e0.frf⟩,
  rfl,e0.bare,Un.kept hk,⟨_,x.toInCall.ns,fun i y v h1 h2 h3=>?_⟩,fun y c h=>⟨_,x.cell y c h⟩,e0.hok.fresh (Nat.le_refl _),fun y c h=>?_,fun p hp=>absurd (show p ∈ ([]:List (Addr × Obj)) from hp) (by simp),e0.hok.kept hk,?_⟩
 ·exact name_of_addr x.apart (PySem.mem_of_lookup h1) (PySem.mem_of_lookup h2)
 ·have hy:scope.names.lookup y=some .cell \/ scope.names.lookup y=some .free:=hy
  rcases hy with hy | hy
  ·exact uu0 hy
  ·exact absurd rfl (S.nofree _ (PySem.mem_of_lookup hy))
 ·exact Nat.le_of_lt (x.above y c (PySem.mem_of_lookup h))
 ·have hi:i < vs.length:=by
   unfold start at h2
   by_cases hi:i < vs.length
   ·exact hi
   ·rw [List.getElem?_append_right (by simpa using hi)] at h2
    rw [List.getElem?_replicate] at h2;split at h2 <;> cases h2
  have ha:vs[i]?=some v:=by
   unfold start at h2;rw [List.getElem?_append_left (by simpa using hi),List.getElem?_map] at h2;cases e:vs[i]? with
   | none=>rw [e] at h2;cases h2
   | some a=>rw [e] at h2;cases h2;rfl
  obtain ⟨u,hu,rv⟩:=r.get ha;have hp:ps[i]?=some y:=by
   rw [<- S.pre,List.getElem?_take_of_lt (by omega)];exact h1
  have ndP:ps.Nodup:=by rw [<- S.pre];exact S.nd.sublist (List.take_sublist _ _)
  refine ⟨u,rv,?_⟩
  rcases S.par y (List.mem_of_getElem? hp) with k | k
  ·exact .inl ⟨k,ul8 ndP hp hu k⟩
  ·obtain ⟨c,e⟩:=uu0 (n:=s.heap.objs.size+1) k
   refine .inr ⟨.inl k,c,e,?_⟩;have q:=x.cell y c e;rw [um0 ndP hp hu (by show scope.names.lookup y ≠ _;rw [k];decide)] at q;exact q
 ·exact e0.hok.fresh (Nat.le_of_lt (x.above y c (PySem.mem_of_lookup h)))
 ·unfold start
  show _=N.length
  rw [List.length_append,List.length_map,List.length_replicate];omega
theorem we4 {CX:CXT} {P:Program} {w:World} {K:W.Frag} {mg:Str->Option Value} {base:Heap} {k:Nat} {f:Addr} {name qual:Str} {params:Arguments} {body:List Stmt} {scope:Scope} {dV kV doc pm cdv ct oc:Value} {an od:Option Addr}
  {osl:Array (Option Value)} {N ps:List Str} {sp:Sp} (lk:K.lookup f=some ⟨oc,od,.func (W.fnOf name qual params body scope dV kV doc pm an cdv ct),osl⟩) (hcd:W.codeIn K cdv qual=true) (S:FnScope N ps scope)
  (len:∀ vs H Q E,sp vs H Q E->vs.length=ps.length)
  (hbody:∀ (A:Around) (outer:List Env) (s:Shared) (H:Hp) (vs:List V) (Q:VK) (E:XK),Room k (A.deeper (envOfC qual scope s.heap.objs.size f cdv))->sp vs H Q E ->
   ∃ t,PSs (cxOf CX P w K mg base N qual scope f cdv A outer s H E) body t /\ t { nx:=fun _ H'=>Q .non H',rt:=Q } (start N vs) H) :
  FnOk P w K mg base CX (k+1) f (W.fnOf name qual params body scope dV kV doc pm an cdv ct) ps sp:=by
 refine ⟨len,fun A outer s H args us vs Q E hr e0 hb r hsp=>?_⟩;have hl:=len _ _ _ _ hsp;have KX:K.In s.heap:=e0.mod.kin.keeps fun b o e=>(e0.bs b o e).1
 have lim:s.heap.NoLimit:=e0.mod.nolimit.keeps fun b o e=>(e0.bs b o e).1
 have hkind:∀ y ∈ ps.zip us,scope.names.lookup y.1=some .local \/ (scope.names.lookup y.1=some .cell /\ ((cellsFrom (s.heap.objs.size+1) scope.names []).lookup y.1).isSome=true):=fun ⟨n,v⟩ hy=>by
  rcases S.par n (List.of_mem_zip hy).1 with q | q
  ·exact .inl q
  ·exact .inr ⟨q,W.cellsFrom_some _ _ _ (.inl q)⟩
 refine codeAny_call_function hr.depth (KX _ _ lk) rfl S.co S.gen rfl (W.codeRec_of KX hcd) (hb _ _ _ _ ?_);refine wpAny_newFunctionEnv_cells S.kind hkind fun env he s1 x=>?_
 subst he;refine ⟨lim.keeps x.toInCall.keep,codeAny_func ?_⟩;obtain ⟨t,ht,hq⟩:=hbody A outer s H vs Q E (hr.deeper _) hsp;have I:Inv (cxOf CX P w K mg base N qual scope f cdv A outer s H E) [] (start N vs) H s1:=v42 S hr.hd e0 hl r x;refine wpAny_mono (ht [] s1 (start N vs) H _ I hq) (fun fl s' hs=>?_) fun e s' hs=>hs
 have fin:∀ {σ':St} {H':Hp} {v:V} {u:Value},Inv (cxOf CX P w K mg base N qual scope f cdv A outer s H E) [] σ' H' s'->RelV v u->Q v H'->CE outer P w H s Q u s' :=
  fun {σ' H' v u} J rv q=>⟨v,H',J.os,J.bare,J.base,J.hok,rv,q⟩
 cases fl with
 | ret u =>
  obtain ⟨v,σ',H',J,rv,q⟩:=hs;exact fin J rv q
 | next =>
  obtain ⟨σ',H',J,q⟩:=hs;exact fin (v:=V.non) (u:=Value.none) J rfl q
 | brk =>
  obtain ⟨_,_,_,q⟩:=hs;exact False.elim q
 | cont =>
  obtain ⟨_,_,_,q⟩:=hs;exact False.elim q
section
variable {X:Cx} {x:Str} {p pos:Pos} {e:Expr} {es:List Expr} {t:TA} {id T:String} {r:List V->Hp->VK->Prop}
def tCB (r:List V->Hp->VK->Prop) (t:TA):TE:=fun σ H Q=>t σ H fun vs H1=>r vs H1 Q
theorem va6 (hc:CallR X (.builtin id) r) (hg:Gl X x) (hm:X.mg x=none) (hv:bootBuiltins x=some (.builtin id)) (ha:PA X (e::es) t) (hn:x ≠ "__name__" := by decide) (hdb:(x == ("__debug__" : Str))=false:=by decide)
  (he:starEach (e::es) X.env=(false,eval e X.env)::starEach es X.env:=by rfl) (hpl:(backTo pos (starEach es X.env)).any (·.1)=false:=by rfl):PE X (.Call (.Name x p) (e::es) [] pos) (tCB r t):=by
 intro pins s σ H Q I h;refine wpAny_Call_Name_kw (u70 I hg hm hv ?_ hn hdb)
 (refine PyProof.Rows.callWith_builtin1 (thn (ha pos pins s σ H _ I h) ?_) he hpl;rintro us s1 ⟨vs,H1,I1,r1,q1⟩;exact hc pins s1 σ H1 vs us Q I1 r1 q1)
theorem v03 (hc:CallR X (.type T) r) (hg:Gl X x) (hm:X.mg x=none) (hv:bootBuiltins x=some (.type T)) (ha:PA X (e::es) t) (hn:x ≠ "__name__" := by decide) (hdb:(x == ("__debug__" : Str))=false:=by decide)
  (he:starEach (e::es) X.env=(false,eval e X.env)::starEach es X.env:=by rfl) (hpl:(backTo pos (starEach es X.env)).any (·.1)=false:=by rfl):PE X (.Call (.Name x p) (e::es) [] pos) (tCB r t):=by
 intro pins s σ H Q I h;refine wpAny_Call_Name_kw (u70 I hg hm hv ?_ hn hdb)
 (refine PyProof.Rows.callWith_type1 (thn (ha pos pins s σ H _ I h) ?_) he hpl;rintro us s1 ⟨vs,H1,I1,r1,q1⟩;exact hc pins s1 σ H1 vs us Q I1 r1 q1)
end
section
variable {κ:Type} [DecidableEq κ]
def valV (kvs:List (κ × V)) (k:κ):Option V:=(kvs.find? fun kv=>decide (kv.1=k)).map (·.2)
def putK (kvs:List (κ × V)) (k:κ) (v:V):List (κ × V) :=
 if (kvs.any fun kv=>decide (kv.1=k))=true then kvs.map (fun kv=>if kv.1=k then (kv.1,v) else kv) else kvs++[(k,v)]
def ug9 (kvs:List (κ × V)) (k:κ):List (κ × V):=kvs.filter fun kv=>decide (kv.1 ≠ k)
theorem u78 {p:κ × V} {r:List (κ × V)} {k:κ} (e:p.1=k):valV (p::r) k=some p.2:=by simp [valV,List.find?_cons,e]
theorem u79 {p:κ × V} {r:List (κ × V)} {k:κ} (e:¬ p.1=k):valV (p::r) k=valV r k:=by simp [valV,List.find?_cons,e]
theorem uq5 (k:κ):∀ kvs:List (κ × V),(kvs.any fun kv=>decide (kv.1=k))=(valV kvs k).isSome
 | []=>rfl
 | p::r=>by
  rw [List.any_cons]
  by_cases e:p.1=k
  ·simp only [u78 e,decide_eq_true e,Bool.true_or,Option.isSome_some]
  ·rw [u79 e,decide_eq_false e,Bool.false_or];exact uq5 k r
theorem u73 (kvs:List (κ × V)) (k:κ) (v:V):(putK kvs k v).length<=kvs.length+1:=by
 unfold putK;split
 ·rw [List.length_map];omega
 ·rw [List.length_append,List.length_cons,List.length_nil];omega
theorem RelO.isSome_eq {o:Option V} {u:Option Value} (r:RelO o u):o.isSome=u.isSome:=by
 cases o with
 | none=>cases u with
  | none=>rfl
  | some _=>exact (show False from r).elim
 | some _=>cases u with
  | none=>exact (show False from r).elim
  | some _=>rfl
theorem RelO.getD {o:Option V} {u:Option Value} {d:V} {d':Value} (r:RelO o u) (rd:RelV d d'):RelV (o.getD d) (u.getD d'):=by
 cases o with
 | none=>cases u with
  | none=>exact rd
  | some _=>exact (show False from r).elim
 | some _=>cases u with
  | none=>exact (show False from r).elim
  | some _=>exact r
theorem KV.val {kvs:List (κ × V)} {vs:List (κ × Value)} (r:KV kvs vs) (k:κ):RelO (valV kvs k) (valueAt vs k):=by
 unfold KV at r
 induction r with
 | nil=>exact True.intro
 | @cons p q ps qs h t ih =>
  obtain ⟨h1,h2⟩:=h
  by_cases e:p.1=k
  ·have e':q.1=k:=h1.symm.trans e
   have b:valueAt (q::qs) k=some q.2:=by simp [valueAt,List.find?_cons,e']
   rw [u78 e,b];exact h2
  ·have e':¬ q.1=k:=fun z=>e (h1.trans z)
   have b:valueAt (q::qs) k=valueAt qs k:=by simp [valueAt,List.find?_cons,e']
   rw [u79 e,b];exact ih
theorem KV.any {kvs:List (κ × V)} {vs:List (κ × Value)} (r:KV kvs vs) (k:κ):(kvs.any fun kv=>decide (kv.1=k))=vs.any fun kv=>decide (kv.1=k):=by
 unfold KV at r
 induction r with
 | nil=>rfl
 | cons h t ih=>rw [List.any_cons,List.any_cons,ih,h.1]
theorem KV.repl {kvs:List (κ × V)} {vs:List (κ × Value)} (r:KV kvs vs) (k:κ) {y:V} {u:Value} (ry:RelV y u) :
  KV (kvs.map fun kv=>if kv.1=k then (kv.1,y) else kv) (vs.map fun kv=>if kv.1=k then (kv.1,u) else kv):=by
 unfold KV at r ⊢
 induction r with
 | nil=>exact .nil
 | @cons p q ps qs h t ih =>
  rw [List.map_cons,List.map_cons];refine .cons ?_ ih;obtain ⟨h1,h2⟩:=h
  by_cases e:p.1=k
  ·rw [if_pos e,if_pos (h1.symm.trans e)];exact ⟨h1,ry⟩
  ·rw [if_neg e,if_neg (fun z=>e (h1.trans z))];exact ⟨h1,h2⟩
theorem KV.put {kvs:List (κ × V)} {vs:List (κ × Value)} (r:KV kvs vs) (k:κ) {y:V} {u:Value} (ry:RelV y u):KV (putK kvs k y) (stored vs k u):=by
 unfold putK stored;rw [r.any k]
 by_cases e:(vs.any fun kv=>decide (kv.1=k))=true
 ·rw [if_pos e,if_pos e];exact r.repl k ry
 ·rw [if_neg e,if_neg e];exact Paired.snoc r ⟨rfl,ry⟩
theorem KV.drop {kvs:List (κ × V)} {vs:List (κ × Value)} (r:KV kvs vs) (k:κ):KV (ug9 kvs k) (without vs k):=by
 unfold KV at r ⊢;unfold ug9 without
 induction r with
 | nil=>exact .nil
 | @cons p q ps qs h t ih =>
  obtain ⟨h1,h2⟩:=h;rw [List.filter_cons,List.filter_cons]
  by_cases e:p.1=k
  ·have a:¬ decide (p.1 ≠ k)=true:=by simp [e]
   have b:¬ decide (q.1 ≠ k)=true:=by simp [h1.symm.trans e]
   rw [if_neg a,if_neg b];exact ih
  ·have e':¬ q.1=k:=fun z=>e (h1.trans z)
   have a:decide (p.1 ≠ k)=true:=by simp [e]
   have b:decide (q.1 ≠ k)=true:=by simp [e']
   rw [if_pos a,if_pos b];exact .cons ⟨h1,h2⟩ ih
theorem KV.keys {kvs:List (κ × V)} {vs:List (κ × Value)} (r:KV kvs vs):kvs.map (·.1)=vs.map (·.1):=by
 unfold KV at r
 induction r with
 | nil=>rfl
 | cons h t ih=>rw [List.map_cons,List.map_cons,ih,h.1]
theorem KV.length {kvs:List (κ × V)} {vs:List (κ × Value)} (r:KV kvs vs):kvs.length=vs.length:=Paired.length r
theorem ut4 (kvs:List (κ × V)) (k:κ):(ug9 kvs k).length<=kvs.length:=List.length_filter_le _ _
end
theorem ug2 {P:Program} {w:World} {k:Key} {u:Value} (r:RelV (kV k) u):(u14 P w).is k u=true:=by
 cases k with
 | inl i=>obtain ⟨t,e⟩:=(show ∃ t,u=Value.int i t from r);subst e;exact un6 P w i t
 | inr x=>obtain ⟨t,e⟩:=(show ∃ t,u=Value.str x t from r);subst e;exact un5 P w x t
theorem ub5 {P:Program} {w:World}:∀ {ks:List Key} {us:List Value},Vals (ks.map kV) us->ItemsAre (u14 P w) ks us
 | [],_,r=>by rw [List.map_nil] at r;cases r;exact .nil
 | k::ks,_,r=>by
  rw [List.map_cons] at r;cases r with
  | cons h t=>exact .cons (ug2 h) (ub5 t)
abbrev KT (H:Hp):List (List Key × V)->List (List Key × Addr × Value)->Prop:=Paired fun p q=>p.1=q.1 /\ H q.2.1=some (.tup (p.1.map kV)) /\ RelV p.2 q.2.2
theorem KT.val {H:Hp} {kvs:List (List Key × V)} {xs:List (List Key × Addr × Value)} (r:KT H kvs xs) (k:List Key):RelO (valV kvs k) ((atKey xs k).map (·.2)):=by
 induction r with
 | nil=>exact True.intro
 | @cons p q ps qs h t ih =>
  obtain ⟨h1,_,h2⟩:=h
  by_cases e:p.1=k
  ·have e':q.1=k:=h1.symm.trans e
   have b:atKey (q::qs) k=some q.2:=by simp [atKey,List.find?_cons,e']
   rw [u78 e,b];exact h2
  ·have e':¬ q.1=k:=fun z=>e (h1.trans z)
   have b:atKey (q::qs) k=atKey qs k:=by simp [atKey,List.find?_cons,e']
   rw [u79 e,b];exact ih
theorem KT.repl {H:Hp} {kvs:List (List Key × V)} {xs:List (List Key × Addr × Value)} (r:KT H kvs xs) (k:List Key) {y:V} {u:Value} (ry:RelV y u) :
  KT H (kvs.map fun kv=>if kv.1=k then (kv.1,y) else kv) (xs.map (putAt k u)):=by
 induction r with
 | nil=>exact .nil
 | @cons p q ps qs h t ih =>
  rw [List.map_cons,List.map_cons];refine .cons ?_ ih;obtain ⟨h1,h2,h3⟩:=h;unfold putAt
  by_cases e:p.1=k
  ·rw [if_pos e,if_pos (h1.symm.trans e)];exact ⟨h1,h2,ry⟩
  ·rw [if_neg e,if_neg (fun z=>e (h1.trans z))];exact ⟨h1,h2,h3⟩
theorem KT.put {H:Hp} {kvs:List (List Key × V)} {xs:List (List Key × Addr × Value)} (r:KT H kvs xs) (k:List Key) {b:Addr} {y:V} {u:Value} (hb:H b=some (.tup (k.map kV))) (ry:RelV y u) :
  KT H (putK kvs k y) (storedH xs k b u):=by
 have e:(kvs.any fun kv=>decide (kv.1=k))=(atKey xs k).isSome:=by
  rw [uq5,(r.val k).isSome_eq,Option.isSome_map]
 unfold putK storedH;rw [e]
 by_cases q:(atKey xs k).isSome=true
 ·rw [if_pos q,if_pos q];exact r.repl k ry
 ·rw [if_neg q,if_neg q];exact Paired.snoc r ⟨rfl,hb,ry⟩
theorem KT.keeps {H H':Hp} {kvs:List (List Key × V)} {xs:List (List Key × Addr × Value)} (r:KT H kvs xs) (ht:∀ b ys,H b=some (.tup ys)->H' b=some (.tup ys)):KT H' kvs xs :=
 Paired.mapP r fun _ _ z=>⟨z.1,ht _ _ z.2.1,z.2.2⟩
section
variable {P:Program} {w:World} {H:Hp} {h:Heap} {a:Addr}
theorem rd_of {u:HO} (ok:HOk P w H h) (e:Rd H a u):ObjOk P w H h a u:=e.ok ok
theorem uh1 {kvs:List (Key × V)} (ok:HOk P w H h) (e:Rd H a (.dK kvs)):kvs.length<=sizeLine /\ (a == sysModules)=false /\ ∃ vs,KV kvs vs /\ h.DictOf (u14 P w) a vs :=
 show ObjOk P w H h a (.dK kvs) from rd_of ok e
theorem ul0 {kvs:List (Key × V)} (ok:HOk P w H h) (e:H a=some (.dK kvs)):kvs.length<=sizeLine /\ (a == sysModules)=false /\ ∃ vs,KV kvs vs /\ h.DictOf (u14 P w) a vs:=uh1 ok (.inl e)
theorem uk2 {ks:List Key} (ok:HOk P w H h) (e:H a=some (.tup (ks.map kV))):(tupleKind (u14 P w)).is h ks a:=by
 obtain ⟨_,its,r,o,h1,h2,⟨n,h3⟩,_⟩:=(show ObjOk P w H h a (.tup (ks.map kV)) from ok a _ e);exact ⟨o,its.toArray,n,h1,h2,h3,by simpa using ub5 r⟩
theorem uk9 {kvs:List (List Key × V)} (ok:HOk P w H h) (e:Rd H a (.dT kvs)):kvs.length<=sizeLine /\ (a == sysModules)=false /\
  ∃ xs,KT H kvs xs /\ h.DictOfH (tupleKind (u14 P w)) a xs:=by
 obtain ⟨z,y,xs,r,o,es,ep,h1,h2,h3,h4,h5⟩:=(show ObjOk P w H h a (.dT kvs) from rd_of ok e);refine ⟨z,y,xs,r,o,es,ep,h1,h2,h3,h4,fun x hx=>?_,h5⟩;have all:∀ {l:List (List Key × V)} {m:List (List Key × Addr × Value)},KT H l m->∀ x ∈ m,(tupleKind (u14 P w)).is h x.1 x.2.1:=by
  intro l m q
  induction q with
  | nil=>intro x hx;exact nomatch hx
  | @cons p q ps qs hq t ih =>
   intro x hx
   rcases List.mem_cons.mp hx with e | hx
   ·subst e
    exact uk2 ok (by rw [<- hq.1];exact hq.2.1)
   ·exact ih x hx
 exact all r x hx
theorem wk9 {kvs:List (List Key × V)} (ok:HOk P w H h) (e:H a=some (.dT kvs)):kvs.length<=sizeLine /\ (a == sysModules)=false /\
  ∃ xs,KT H kvs xs /\ h.DictOfH (tupleKind (u14 P w)) a xs:=uk9 ok (.inl e)
end
def DGet (H:Hp) (a:Addr) (y:V) (r:Option V):Prop :=
 (∃ kvs k,Rd H a (.dK kvs) /\ y=kV k /\ r=valV kvs k) \/ ∃ kvs k b,Rd H a (.dT kvs) /\ y=.ref b /\ H b=some (.tup (k.map kV)) /\ r=valV kvs k
def DPut (H:Hp) (a:Addr) (y v:V) (H':Hp):Prop :=
 (∃ kvs k,H a=some (.dK kvs) /\ y=kV k /\ kvs.length < sizeLine /\ H'=upd H a (.dK (putK kvs k v))) \/
 ∃ kvs k b,H a=some (.dT kvs) /\ y=.ref b /\ H b=some (.tup (k.map kV)) /\ kvs.length < sizeLine /\ H'=upd H a (.dT (putK kvs k v))
theorem DGet.k {H:Hp} {a:Addr} {kvs:List (Key × V)} {k:Key} (e:H a=some (.dK kvs)):DGet H a (kV k) (valV kvs k):=.inl ⟨kvs,k,.inl e,rfl,rfl⟩
theorem DGet.t {H:Hp} {a b:Addr} {kvs:List (List Key × V)} {k:List Key} (e:H a=some (.dT kvs)) (eb:H b=some (.tup (k.map kV))):DGet H a (.ref b) (valV kvs k):=.inr ⟨kvs,k,b,.inl e,rfl,eb,rfl⟩
theorem DPut.k {H:Hp} {a:Addr} {kvs:List (Key × V)} {k:Key} {v:V} (e:H a=some (.dK kvs)) (hl:kvs.length < sizeLine):DPut H a (kV k) v (upd H a (.dK (putK kvs k v))):=.inl ⟨kvs,k,e,rfl,hl,rfl⟩
theorem DPut.t {H:Hp} {a b:Addr} {kvs:List (List Key × V)} {k:List Key} {v:V} (e:H a=some (.dT kvs)) (eb:H b=some (.tup (k.map kV))) (hl:kvs.length < sizeLine) :
  DPut H a (.ref b) v (upd H a (.dT (putK kvs k v))):=.inr ⟨kvs,k,b,e,rfl,eb,hl,rfl⟩
section
variable {X:Cx} {pins:List (Addr × Obj)} {σ:St} {H:Hp} {s:Shared} {a:Addr} {y v:V} {u r:Value} {o:Option V} {A:Around} {E:Value->Shared->Prop}
theorem Inv.big (I:Inv X pins σ H s):sysModules < s.heap.objs.size:=by
 have h:mainGlobals < s.heap.objs.size:=(I.mod.glob.keeps I.bk).lt;exact Nat.lt_trans (by decide) h
theorem v60 {Q:Value->Shared->Prop} (hu:A.units+1 < cLine) (I:Inv X pins σ H s) (g:DGet H a y (some v)) (ry:RelV y u) (h:∀ w' s',Inv X pins σ H s'->RelV v w'->Q w' s') :
  wpAny (model X.prog X.w) A (getItem (.ref a) u) Q E s:=by
 rcases g with ⟨kvs,k,e,ey,l⟩ | ⟨kvs,k,b,e,ey,eb,l⟩
 ·subst ey
  obtain ⟨z,hd,vs,rel,dd⟩:=uh1 I.hok e;obtain ⟨w',hw,rw'⟩:=RelO.some_of (v:=v) (o:=valueAt vs k) (by rw [l];exact rel.val k);exact wpAny_getItem_of (ug2 ry) dd.mapOf hw (h w' _ (I.tok _) rw')
 ·subst ey
  cases (show u=Value.ref b from ry);obtain ⟨z,hd,xs,rel,dd⟩:=uk9 I.hok e;obtain ⟨w',hw,rw'⟩:=RelO.some_of (v:=v) (o:=(atKey xs k).map (·.2)) (by rw [l];exact rel.val k);obtain ⟨p,hp,hp2⟩:=Option.map_eq_some_iff.mp hw;refine wpAny_getItem_heap (tupleKind_room_in1 hu) (uk2 I.hok eb) dd hp ?_;rw [hp2];exact h w' _ (I.tok _) rw'
theorem vx4 {Q:Value->Shared->Prop} (hu:A.units+1 < cLine) (I:Inv X pins σ H s) (g:DGet H a y o) (ry:RelV y u) (h:∀ s',Inv X pins σ H s'->Q (.bool (!o.isSome)) s') :
  wpAny (model X.prog X.w) A (compareOp .NotIn u (.ref a)) Q E s:=by
 rcases g with ⟨kvs,k,e,ey,l⟩ | ⟨kvs,k,b,e,ey,eb,l⟩
 ·subst ey
  obtain ⟨z,hd,vs,rel,dd⟩:=uh1 I.hok e;refine wpAny_notIn_of (ug2 ry) hd dd.mapOf ?_;rw [<- (rel.val k).isSome_eq,<- l];exact h _ (I.tok _)
 ·subst ey
  cases (show u=Value.ref b from ry);obtain ⟨z,hd,xs,rel,dd⟩:=uk9 I.hok e;refine wpAny_notIn_heap (tupleKind_room_in1 hu) (uk2 I.hok eb) hd dd ?_;have q:=(rel.val k).isSome_eq;rw [Option.isSome_map] at q;rw [<- q,<- l];exact h _ (I.tok _)
theorem u74 {h':Heap} {t':Nat} {ob:HO} (I:Inv X pins σ H s) (mu:Mut (H a)) (hs:Heap.SameBut a s.heap h') (he:∃ q,h'.get? a=some q) (new:ObjOk X.prog X.w (upd H a ob) h' a ob) :
  Inv X pins σ (upd H a ob) { s with heap:=h',toks:=t' } :=
 I.write (x:=a) (e:=a) mu (.inl rfl) (fun b q hb z=>(hs.2 b hb).trans z) he new
theorem ul1 {P:Program} {w:World} {H':Hp} {h':Heap} {kvs:List (Key × V)} {vs:List (Key × Value)} (z:kvs.length<=sizeLine) (hd:(a == sysModules)=false) (rel:KV kvs vs) (dd:h'.DictOf (u14 P w) a vs) :
  ObjOk P w H' h' a (.dK kvs):=⟨z,hd,vs,rel,dd⟩
theorem v59 {H':Hp} {Q:Unit->Shared->Prop} (hu:A.units+1 < cLine) (I:Inv X pins σ H s) (g:DPut H a y v H') (ry:RelV y u) (rv:RelV v r) (h:∀ s',Inv X pins σ H' s'->Q () s') :
  wpAny (model X.prog X.w) A (setItem (.ref a) u r) Q E s:=by
 rcases g with ⟨kvs,k,e,ey,l,eH⟩ | ⟨kvs,k,b,e,ey,eb,l,eH⟩
 ·subst ey eH
  obtain ⟨z,hd,vs,rel,dd⟩:=ul0 I.hok e;have hz:vs.length<=sizeLine:=by rw [<- rel.length];exact z
  have hl:(putK kvs k v).length<=sizeLine:=by have:=u73 kvs k v;omega
  refine wpAny_setItem_pairs (hsz:=hz) (ug2 ry) dd fun h' dd' hs=>h _ ?_
  have he:∃ q,h'.get? a=some q:=let ⟨q,_,_,hq,_⟩:=dd';⟨q,hq⟩;exact u74 I (by rw [e];exact True.intro) hs he (ul1 hl hd (rel.put k rv) dd')
 ·subst ey eH
  cases (show u=Value.ref b from ry);obtain ⟨z,hd,xs,rel,dd⟩:=wk9 I.hok e;have hz:xs.length<=sizeLine:=by rw [<- Paired.length rel];exact z
  have hl:(putK kvs k v).length<=sizeLine:=by have:=u73 kvs k v;omega
  refine wpAny_setItem_heap (hsz:=hz) (tupleKind_room_in1 hu) (uk2 I.hok eb) dd fun h' dd' hs=>h _ ?_
  obtain ⟨q,es,ep,hq,h2,h3,h4,_,h5⟩:=dd';refine u74 I (by rw [e];exact True.intro) hs ⟨q,hq⟩ ⟨hl,hd,_,(rel.put k eb rv).keeps fun c ys ec=>?_,q,es,ep,hq,h2,h3,h4,h5⟩;rw [u10 (wk6 ec e (fun z=>nomatch z))];exact ec
end
section
variable {X:Cx} {pins:List (Addr × Obj)} {σ:St} {H:Hp} {s:Shared} {a:Addr} {kvs:List (Key × V)} {k:Key} {u:Value} {A:Around} {E:Value->Shared->Prop}
theorem wf3 {Q:Unit->Shared->Prop} (I:Inv X pins σ H s) (e:H a=some (.dK kvs)) (ry:RelV (kV k) u) (l:(valV kvs k).isSome=true) (h:∀ s',Inv X pins σ (upd H a (.dK (ug9 kvs k))) s'->Q () s') :
  wpAny (model X.prog X.w) A (delItem (.ref a) u) Q E s:=by
 obtain ⟨z,hd,vs,rel,dd⟩:=ul0 I.hok e;refine wpAny_delItem_slot dd.typeIs (by decide) PySem.F.slot_dict_delitem
  (call_meetsIn PySem.F.slot_dict_delitem dd.typeIs PySem.F.entry_dict_delitem (PySem.F.args_dict_delitem_2 _ _) (meets_dict_delitem_pairs (u14 X.prog X.w) a (ug2 ry)) ⟨vs,dd,by rw [<- rel.length];exact z,by rw [<- (rel.val k).isSome_eq];exact l,fun h' dd' hs=>h _ ?_⟩)
 have he:∃ q,h'.get? a=some q:=let ⟨q,_,_,hq,_⟩:=dd';⟨q,hq⟩;exact u74 I (by rw [e];exact True.intro) hs he (ul1 (Nat.le_trans (ut4 kvs k) z) hd (rel.drop k) dd')
theorem wl1 {v:V} {more:List Value} {Q:Value->Shared->Prop} (I:Inv X pins σ H s) (e:H a=some (.dK kvs)) (ry:RelV (kV k) u) (l:valV kvs k=some v) (hm:more=[] \/ ∃ x,more=[x])
  (h:∀ w' s',Inv X pins σ (upd H a (.dK (ug9 kvs k))) s'->RelV v w'->Q w' s'):wpAny (model X.prog X.w) A (call (.builtin "dict.pop") (.ref a::u::more)) Q E s:=by
 obtain ⟨z,hd,vs,rel,dd⟩:=ul0 I.hok e;obtain ⟨w',hw,rw'⟩:=RelO.some_of (v:=v) (o:=valueAt vs k) (by rw [<- l];exact rel.val k);have hp:(keyPart u).isSome=true:=by
  cases k with
  | inl i=>obtain ⟨t,q⟩:=(show ∃ t,u=Value.int i t from ry);subst q;rfl
  | inr x=>obtain ⟨t,q⟩:=(show ∃ t,u=Value.str x t from ry);subst q;rfl
 have ha:argsOk "dict.pop" ⟨.ref a::u::more,[]⟩:=by
  rcases hm with q | ⟨x,q⟩
  ·subst q;exact PySem.F.args_dict_pop_2 _ _
  ·subst q;exact PySem.F.args_dict_pop_3 _ _ _
 refine call_meetsIn PySem.F.slot_dict_pop dd.typeIs PySem.F.entry_dict_pop ha (meets_dict_pop_there (u14 X.prog X.w) a (ug2 ry) more hm hp)
  ⟨vs,w',dd,by rw [<- rel.length];exact z,hw,fun h' dd' hs=>h w' _ ?_ rw'⟩
 have he:∃ q,h'.get? a=some q:=let ⟨q,_,_,hq,_⟩:=dd';⟨q,hq⟩;exact u74 I (by rw [e];exact True.intro) hs he (ul1 (Nat.le_trans (ut4 kvs k) z) hd (rel.drop k) dd')
theorem wl2 {Q:Value->Shared->Prop} (I:Inv X pins σ H s) (e:Rd H a (.dK kvs)) (h:∀ t s',Inv X pins σ H s'->Q (.int kvs.length t) s'):wpAny (model X.prog X.w) A (call (.builtin "len") [.ref a]) Q E s:=by
 obtain ⟨z,hd,vs,rel,dd⟩:=uh1 I.hok e;refine call_len_dict hd dd (by rw [<- rel.length];rw [sizeLine_eq] at z;omega) ?_;rw [<- rel.length];exact h _ _ (I.tok _)
end
def NoSl (i:Expr):Prop:=∀ ov iv,subscripted i false ov iv=operate [ov,iv] (getItem ov iv)
theorem ue5 {prog:Program} {w:World} {A:Around} {E:Value->Shared->Prop} {s:Shared} {env:Env} {value slice:Expr} {pos:Pos} {T id:String} {Q:Value->Shared->Prop}
  (hl:typeLookup (.type T) "__getitem__" = pure (some (.builtin id))) (hs:NoSl slice)
  (h:wpAny (model prog w) A (eval value env) (fun o s₁=>wpAny (model prog w) A (eval slice env) (fun i s₂=>s₂.TypeIs o T /\ wpAny (model prog w) A (getItem o i) Q E s₂) E s₁) E s) :
  wpAny (model prog w) A (eval (.Subscript value slice pos) env) Q E s:=by
 refine Subscript_ (wpAny_mono h (fun o s₁ h₁=>wpAny_mono h₁ (fun i s₂ h₂=>?_) fun _ _ x=>x) fun _ _ x=>x);obtain ⟨hT,h₂⟩:=h₂;unfold subscriptTail;refine wpAny_bind ?_;rw [getitemInPython_of_ne hT.not_modules];refine wpAny_bind (wpAny_specialOf hT hl ?_);have fin:wpAny (model prog w) A (subscripted slice false o i) (fun r s₃=>wpAny (model prog w) A (letTemporaryGo value o r >>= fun _=>pure r) Q E s₃) E s₂:=by
  rw [hs o i];exact wpAny_operating (wpAny_mono h₂ (fun r s₃ h₃=>wpAny_bind (wpAny_letTemporaryGo (wpAny_pure h₃))) fun _ _ x=>x)
 first
  | exact wpAny_pure (wpAny_bind fin)
  | exact wpAny_bind (wpAny_pure (wpAny_bind fin))
  | exact wpAny_bind fin
theorem up2 {X:Cx} {pins:List (Addr × Obj)} {σ:St} {H:Hp} {s:Shared} {a:Addr} {y:V} {o:Option V} (I:Inv X pins σ H s) (g:DGet H a y o):s.TypeIs (.ref a) "dict" := by
 rcases g with ⟨kvs,k,e,_,_⟩ | ⟨kvs,k,b,e,_,_,_⟩
 ·obtain ⟨_,_,vs,_,dd⟩:=uh1 I.hok e
  exact dd.typeIs
 ·obtain ⟨_,_,xs,_,dd⟩:=uk9 I.hok e
  exact dd.typeIs
def vn7 (td ty:TE):TE:=fun σ H Q=>td σ H fun x H1=>ty σ H1 fun y H2=>∃ a v,x=.ref a /\ DGet H2 a y (some v) /\ Q v H2
def wj1 (td ty tv:TE):TS:=fun D σ H=>tv σ H fun v H1=>td σ H1 fun x H2=>ty σ H2 fun y H3=>∃ a H4,x=.ref a /\ DPut H3 a y v H4 /\ D.nx σ H4
section
variable {X:Cx} {o i e value:Expr} {pos pos' tpos:Pos} {td ty tv:TE}
theorem v01 (hu:X.A.units+1 < cLine) (ho:PE X o td) (hi:PE X i ty) (hs:NoSl i):PE X (.Subscript o i pos) (vn7 td ty):=by
 intro pins s σ H Q I h
 (refine ue5 PySem.F.slot_dict_getitem.lookup hs (thn (ho pins s σ H _ I h) ?_);rintro u s1 ⟨x,H1,I1,rx,q1⟩;refine thn (hi pins s1 σ H1 _ I1 q1) ?_;rintro iv s2 ⟨y,H2,I2,ry,a,v,ex,g,q2⟩)
 subst ex;obtain rfl:u=Value.ref a:=rx;exact ⟨up2 I2 g,v60 hu I2 g ry fun w' s3 I3 rw'=>⟨v,H2,I3,rw',q2⟩⟩
theorem uz7 (hu:X.A.units+1 < cLine) (ho:PE X o td) (hi:PE X i ty) (hv:PE X value tv) (hs:swapsWith value (some (.Subscript o i pos')) pos.line X.env=pure false) :
  PS X (.Assign [.Subscript o i pos'] value pos) (wj1 td ty tv):=by
 intro pins s σ H D I h
 (refine wpAny_Assign_Subscript (thn (hv pins s σ H _ I h) ?_) hs;rintro r s1 ⟨v,H1,I1,rv,q1⟩;refine thn (ho pins s1 σ H1 _ I1 q1) ?_;rintro u s2 ⟨x,H2,I2,rx,q2⟩;refine thn (hi pins s2 σ H2 _ I2 q2) ?_;rintro iv s3 ⟨y,H3,I3,ry,a,H4,ex,g,q3⟩)
 subst ex;obtain rfl:u=Value.ref a:=rx;exact v59 hu I3 g ry rv fun s4 I4=>⟨σ,H4,I4,q3⟩
end
theorem ut5 {P:Program} {w:World} {H:Hp} (h:Heap) (hb:sysModules < h.objs.size):ObjOk P w H (h.push { cls:=.type "dict",data:=.dict #[] }) h.objs.size (.dK []) :=
 ⟨Nat.zero_le _,beq_eq_false_iff_ne.mpr (Ne.symm (Nat.ne_of_lt hb)),[],.nil,Heap.DictOf.new h⟩
theorem vd9 {P:Program} {w:World} {H:Hp} (h:Heap) (hb:sysModules < h.objs.size):ObjOk P w H (h.push { cls:=.type "dict",data:=.dict #[] }) h.objs.size (.dT []) :=
 ⟨Nat.zero_le _,beq_eq_false_iff_ne.mpr (Ne.symm (Nat.ne_of_lt hb)),[],.nil,_,#[],0,Heap.get?_push_size _ rfl,⟨rfl,rfl,rfl⟩,rfl,rfl,List.nodup_nil⟩
def w37:TE:=fun _ H Q=>∀ p,H p=none->Q (.ref p) (upd H p (.dK []))
def w36:TE:=fun _ H Q=>∀ p,H p=none->Q (.ref p) (upd H p (.dT []))
section
variable {X:Cx} {pos:Pos}
theorem va3:PE X (.Dict [] [] pos) w37:=fun pins s σ H Q I h =>
 wpAny_Dict_empty ⟨.ref s.heap.objs.size,_,I.laid (a:=s.heap.objs.size) (o:=.dK []) (t':=s.toks) (fun _ _ q=>Heap.get?_push_of_some _ q) (Nat.le_refl _) (ut5 s.heap I.big),rfl,h _ (I.hok.fresh (Nat.le_refl _))⟩
theorem va2:PE X (.Dict [] [] pos) w36:=fun pins s σ H Q I h =>
 wpAny_Dict_empty ⟨.ref s.heap.objs.size,_,I.laid (a:=s.heap.objs.size) (o:=.dT []) (t':=s.toks) (fun _ _ q=>Heap.get?_push_of_some _ q) (Nat.le_refl _) (vd9 s.heap I.big),rfl,h _ (I.hok.fresh (Nat.le_refl _))⟩
end
def uy3:List (TE × TE)->St->Hp->(List (V × V)->Hp->Prop)->Prop
 | [],_,H,Q=>Q [] H
 | (tk,tv)::r,σ,H,Q=>tk σ H fun x H1=>tv σ H1 fun y H2=>uy3 r σ H2 fun ps H3=>Q ((x,y)::ps) H3
abbrev VV:List (V × V)->List (Value × Value)->Prop:=Paired fun p q=>RelV p.1 q.1 /\ RelV p.2 q.2
def PPs (X:Cx) (pos:Pos) (keys:List (Option Expr)) (values:List Expr) (trs:List (TE × TE)):Prop :=
 ∀ (pins:List (Addr × Obj)) (s:Shared) (σ:St) (H:Hp) (Q:List (V × V)->Hp->Prop),Inv X pins σ H s->uy3 trs σ H Q ->
  wpAny (model X.prog X.w) X.A (evalPairs (pairTrees keys values X.env pos)) (fun vs s'=>∃ ps H',Inv X pins σ H' s' /\ VV ps vs /\ Q ps H') X.xe s
theorem vr4 {X:Cx} {pos:Pos}:PPs X pos [] [] []:=fun pins s σ H Q I h=>pairTrees_nil_walk ⟨[],H,I,.nil,h⟩
theorem v95 {X:Cx} {pos:Pos} {k v:Expr} {ks:List (Option Expr)} {vs:List Expr} {tk tv:TE} {trs:List (TE × TE)} (hk:PE X k tk) (hv:PE X v tv) (hr:PPs X pos ks vs trs) :
  PPs X pos (some k::ks) (v::vs) ((tk,tv)::trs):=fun pins s σ H Q I h =>
 pairTrees_cons_walk (thn (hk pins s σ H _ I h) fun u s1 ⟨x,H1,I1,rx,q1⟩=>thn (hv pins s1 σ H1 _ I1 q1) fun w2 s2 ⟨y,H2,I2,ry,q2⟩ =>
  thn (hr pins s2 σ H2 _ I2 q2) fun ws s3 ⟨ps,H3,I3,rel,q3⟩=>⟨(x,y)::ps,H3,I3,.cons ⟨rx,ry⟩ rel,q3⟩)
def uj9 (kvs more:List (Key × V)):List (Key × V):=more.foldl (fun acc kv=>putK acc kv.1 kv.2) kvs
theorem KV.merge:∀ {more:List (Key × V)} {rs:List (Key × Value)} {kvs:List (Key × V)} {vs:List (Key × Value)},KV more rs->KV kvs vs->KV (uj9 kvs more) (merged vs rs):=by
 intro more rs kvs vs r;unfold KV at r
 induction r generalizing kvs vs with
 | nil=>intro q;exact q
 | @cons p q ps qs h t ih =>
  intro r0;have e:KV (putK kvs p.1 p.2) (stored vs q.1 q.2):=by
   have:=r0.put p.1 h.2;rw [<- h.1];exact this
  exact ih e
theorem u83:∀ (more kvs:List (Key × V)),(uj9 kvs more).length<=kvs.length+more.length
 | [],kvs=>by show kvs.length<=kvs.length+0;omega
 | p::r,kvs=>by
  have h1:=u83 r (putK kvs p.1 p.2);have h2:=u73 kvs p.1 p.2
  show (uj9 (putK kvs p.1 p.2) r).length<=_
  rw [List.length_cons];omega
theorem ud6 {P:Program} {w:World}:∀ {kvs:List (Key × V)} {ws:List (Value × Value)},VV (kvs.map fun kv=>(kV kv.1,kv.2)) ws->∃ rs,Carries (u14 P w) ws rs /\ KV kvs rs
 | [],_,r=>by rw [List.map_nil] at r;cases r;exact ⟨[],True.intro,.nil⟩
 | p::kvs,_,r=>by
  rw [List.map_cons] at r;cases r with
  | @cons a b as bs h t =>
   obtain ⟨rs,c,q⟩:=ud6 (P:=P) (w:=w) t;obtain ⟨b1,b2⟩:=b;exact ⟨(p.1,b2)::rs,⟨ug2 h.1,rfl,c⟩,.cons ⟨rfl,h.2⟩ q⟩
def wi6 (trs:List (TE × TE)):TE:=fun σ H Q=>∀ p,H p=none->uy3 trs σ (upd H p (.dK [])) fun ps H2=>H2 p=some (.dK []) /\ ∃ kvs:List (Key × V),ps=kvs.map (fun kv=>(kV kv.1,kv.2)) /\ kvs.length<=15 /\ Q (.ref p) (upd H2 p (.dK (uj9 [] kvs)))
theorem vr9 {X:Cx} {pos:Pos} {keys:List (Option Expr)} {values:List Expr} {trs:List (TE × TE)} (h:PPs X pos keys values trs) (hall:keys.all (·.isSome)=true) (hl:keys.length=values.length) (h0:keys ≠ [])
  (h15:keys.length<=15):PE X (.Dict keys values pos) (wi6 trs):=by
 intro pins s σ H Q I q;have hn:=I.hok.fresh (Nat.le_refl s.heap.objs.size);have I1:=I.laid (a:=s.heap.objs.size) (o:=.dK []) (h':=s.heap.push { cls:=.type "dict",data:=.dict #[] }) (t':=s.toks) (fun _ _ q=>Heap.get?_push_of_some _ q) (Nat.le_refl _) (ut5 s.heap I.big)
 (refine wpAny_Dict_walk (knd:=u14 X.prog X.w) hall hl h0 h15 (thn (h pins _ σ _ _ I1 (q _ hn)) ?_);rintro ws s2 ⟨ps,H2,I2,rel,e,kvs,ep,lk,q2⟩)
 subst ep;obtain ⟨rs,c,rk⟩:=ud6 (P:=X.prog) (w:=X.w) rel;obtain ⟨z,hd,vs0,r0,dd⟩:=ul0 I2.hok e;cases r0;refine ⟨rs,c,dd,fun h' dd' hs=>⟨.ref s.heap.objs.size,_,?_,rfl,q2⟩⟩;have hz:(uj9 [] kvs).length<=sizeLine:=by
  have h1:=u83 kvs [];rw [List.length_nil] at h1;rw [sizeLine_eq];omega
 have he:∃ q,h'.get? s.heap.objs.size=some q:=let ⟨q,_,_,hq,_⟩:=dd';⟨q,hq⟩;exact u74 I2 (by rw [e];exact True.intro) hs he (ul1 hz hd (rk.merge .nil) dd')
structure M1 (X:Cx) (o:Expr) (m:Str) (apos:Pos) (e:Expr) (cpos:Pos):Prop where
 base:attributeBase o m X.env (eval o X.env)=eval o X.env
 few:((backTo cpos (starEach [e] X.env)).all (fun x=>!x.1) && (backToKw cpos (keywordEach [] X.env)).all (fun x=>x.1.isSome)
  && decide (([e]:List Expr).length+([]:List Keyword).length+(if ([]:List Keyword).isEmpty then 0 else 1) < 30))=true
 line:(apos.endLine == cpos.line)=true
 trees:backTo cpos (starEach [e] X.env)=[(false,eval e X.env)]
structure M2 (X:Cx) (o:Expr) (m:Str) (apos:Pos) (e f:Expr) (cpos:Pos):Prop where
 base:attributeBase o m X.env (eval o X.env)=eval o X.env
 few:((backTo cpos (starEach [e,f] X.env)).all (fun x=>!x.1) && (backToKw cpos (keywordEach [] X.env)).all (fun x=>x.1.isSome)
  && decide (([e,f]:List Expr).length+([]:List Keyword).length+(if ([]:List Keyword).isEmpty then 0 else 1) < 30))=true
 line:(apos.endLine == cpos.line)=true
 trees:backTo cpos (starEach [e,f] X.env)=[(false,eval e X.env),(false,eval f X.env)]
def IsD (H:Hp) (a:Addr):Prop:=(∃ kvs,Rd H a (.dK kvs)) \/ ∃ kvs,Rd H a (.dT kvs)
theorem v41 {X:Cx} {pins:List (Addr × Obj)} {σ:St} {H:Hp} {s:Shared} {a:Addr} (I:Inv X pins σ H s) (d:IsD H a) :
  s.TypeIs (.ref a) "dict" /\ (∀ b,Value.ref a=.ref b->∃ ob,s.heap.get? b=some ob /\ ob.dict=none) /\ (a == sysModules)=false:=by
 rcases d with ⟨kvs,e⟩ | ⟨kvs,e⟩
 ·obtain ⟨_,hd,vs,_,dd⟩:=uh1 I.hok e
  refine ⟨dd.typeIs,fun b q=>?_,hd⟩;cases q;obtain ⟨ob,_,_,h1,h2,_⟩:=dd;exact ⟨ob,h1,h2.2.1⟩
 ·obtain ⟨_,hd,xs,_,dd⟩:=uk9 I.hok e
  refine ⟨dd.typeIs,fun b q=>?_,hd⟩;cases q;obtain ⟨ob,_,_,h1,h2,_⟩:=dd;exact ⟨ob,h1,h2.2.1⟩
section
variable {X:Cx} {pins:List (Addr × Obj)} {σ:St} {H:Hp} {s:Shared} {a:Addr} {y d:V} {u r:Value} {o:Option V} {A:Around} {E:Value->Shared->Prop}
theorem wf2 {Q:Value->Shared->Prop} (hu:A.units+1 < cLine) (I:Inv X pins σ H s) (g:DGet H a y o) (ry:RelV y u) (rd:RelV d r) (h:∀ w' s',Inv X pins σ H s'->RelV (o.getD d) w'->Q w' s') :
  wpAny (model X.prog X.w) A (call (.builtin "dict.get") [.ref a,u,r]) Q E s:=by
 rcases g with ⟨kvs,k,e,ey,l⟩ | ⟨kvs,k,b,e,ey,eb,l⟩
 ·subst ey
  obtain ⟨z,hd,vs,rel,dd⟩:=uh1 I.hok e;refine call_meetsIn PySem.F.slot_dict_get dd.typeIs PySem.F.entry_dict_get (PySem.F.args_dict_get_3 _ _ _) (meets_dict_get_default (u14 X.prog X.w) a (ug2 ry) hd r) ⟨_,dd.mapOf,h _ _ (I.tok _) ?_⟩;rw [l];exact (rel.val k).getD rd
 ·subst ey
  cases (show u=Value.ref b from ry);obtain ⟨z,hd,xs,rel,dd⟩:=uk9 I.hok e;refine call_meetsIn PySem.F.slot_dict_get dd.typeIs PySem.F.entry_dict_get (PySem.F.args_dict_get_3 _ _ _) (meetsH_dict_get_default (tupleKind (u14 X.prog X.w)) a b hd r) ⟨tupleKind_room_in1 hu,k,xs,uk2 I.hok eb,dd,h _ _ (I.tok _) ?_⟩;rw [l];exact (rel.val k).getD rd
end
def vh9 (td ty tx:TE):TE:=fun σ H Q=>td σ H fun x H1=>∃ a,x=.ref a /\ IsD H1 a /\ ty σ H1 fun y H2=>tx σ H2 fun z H3=>∃ o,DGet H3 a y o /\ Q (o.getD z) H3
def vh7 (td ty:TE):TE:=fun σ H Q=>td σ H fun x H1=>∃ a,x=.ref a /\ IsD H1 a /\ ty σ H1 fun y H2=>∃ kvs k v,H2 a=some (.dK kvs) /\ y=kV k /\ valV kvs k=some v /\ Q v (upd H2 a (.dK (ug9 kvs k)))
section
variable {X:Cx} {o e f:Expr} {apos cpos:Pos} {td ty tx:TE}
theorem va5 (hu:X.A.units+1 < cLine) (ho:PE X o td) (he:PE X e ty) (hf:PE X f tx) (m:M2 X o "get" apos e f cpos):PE X (.Call (.Attribute o "get" apos) [e,f] [] cpos) (vh9 td ty tx):=by
 intro pins s σ H Q I h
 (refine wpAny_Call_method m.base m.few m.line PySem.F.plainAttrs_dict PySem.F.slot_dict_get PySem.F.type_dict_get (thn (ho pins s σ H _ I h) ?_);rintro u s1 ⟨x,H1,I1,rx,a,ex,d,q1⟩)
 subst ex;obtain rfl:u=Value.ref a:=rx;obtain ⟨t1,t2,_⟩:=v41 I1 d;refine ⟨t1,t2,?_⟩;rw [m.trees];refine Calls.callWith_builtin rfl (Calls.evalArgs_plain (Calls.spliced_cons (thn (he pins s1 σ H1 _ I1 q1) fun iv s2 ⟨y,H2,I2,ry,q2⟩ =>
  Calls.spliced_cons (thn (hf pins s2 σ H2 _ I2 q2) fun fv s3 ⟨z,H3,I3,rz,ov,g,q3⟩=>Calls.spliced_nil ?_))))
 exact wf2 hu I3 g ry rz fun w' s4 I4 rw'=>⟨_,H3,I4,rw',q3⟩
theorem va1 (ho:PE X o td) (he:PE X e ty) (m:M1 X o "pop" apos e cpos):PE X (.Call (.Attribute o "pop" apos) [e] [] cpos) (vh7 td ty):=by
 intro pins s σ H Q I h
 (refine wpAny_Call_method m.base m.few m.line PySem.F.plainAttrs_dict PySem.F.slot_dict_pop PySem.F.type_dict_pop (thn (ho pins s σ H _ I h) ?_);rintro u s1 ⟨x,H1,I1,rx,a,ex,d,q1⟩)
 subst ex;obtain rfl:u=Value.ref a:=rx;obtain ⟨t1,t2,_⟩:=v41 I1 d;refine ⟨t1,t2,?_⟩;rw [m.trees]
 (refine Calls.callWith_builtin rfl (Calls.evalArgs_plain (Calls.spliced_cons (thn (he pins s1 σ H1 _ I1 q1) ?_)));rintro iv s2 ⟨y,H2,I2,ry,kvs,k,v,ea,ey,l,q2⟩;refine Calls.spliced_nil ?_)
 subst ey;exact wl1 I2 ea ry l (.inl rfl) fun w' s3 I3 rw'=>⟨v,_,I3,rw',q2⟩
end
end L2
namespace HT
open PySem PyProof.Rows
def lexLt:List Int->List Int->Bool
 | [],[]=>false
 | [],_::_=>true
 | _::_,[]=>false
 | x::xs,y::ys=>if x=y then lexLt xs ys else decide (x < y)
theorem lexLt_cons (x y:Int) (xs ys:List Int):lexLt (x::xs) (y::ys)=if x=y then lexLt xs ys else decide (x < y):=rfl
theorem lexLt_nil_nil:lexLt [] []=false:=rfl
theorem uc6 (y:Int) (ys:List Int):lexLt [] (y::ys)=true:=rfl
theorem lexLt_cons_nil (x:Int) (xs:List Int):lexLt (x::xs) []=false:=rfl
theorem vd6 (A:Around) (s:Shared) (a:Int) (t:Tok) (c:Int) (u:Tok):∃ e,SeqAt.EqAt A s (.int a t) (.int c u) e /\ (e=true ↔ a=c) :=
 ⟨(a == c),SeqAt.EqAt.int_int a t c u,by simp⟩
theorem v92 (A:Around) (s:Shared) (a:Int) (t:Tok) (c:Int) (u:Tok) (prog:Program) (w:World) (E:Value->Shared->Prop) (Q:Value->Shared->Prop) (h:Q (.bool (decide (a < c))) s) :
  wpAny (model prog w) A (richCompare .Lt (.int a t) (.int c u)) Q E s :=
 (PyProof.Rows.lt_int h:wpAny (model prog w) A (compareOp .Lt (.int a t) (.int c u)) Q E s)
section
open PySem.SeqAt
open PySem.AutoSeq1 (wpAny_loadPart')
open PySem.MeetsSeq PySem.MeetsSeq2 PySem.MeetsSeq3
theorem ue4 (l b:Addr) (items items2:Array Value) (n n2:Nat) (dd dd2:Option Addr) (sl sl2:Array (Option Value)) (ns ms:List Int) (hi:IntsAre items.toList ns) (hj:IntsAre items2.toList ms) :
  Meets (Builtin.«tuple.__lt__» ⟨[.ref l,.ref b],[]⟩)
   (fun _ R s=>s.heap.get? l=some { cls:=.type "tuple",dict:=dd,data:=.seq items n,slots:=sl } /\ s.heap.get? b=some { cls:=.type "tuple",dict:=dd2,data:=.seq items2 n2,slots:=sl2 } /\
    R (.ok (.ret (.bool (lexLt ns ms)))) s) :=
 .of_wp fun prog w A R s h=>by
  obtain ⟨hp,g,d,tk,os⟩:=s;obtain ⟨hl,hb,h⟩:=h;have f2:=AutoSeq1.sub_tuple_tuple;have z1:items.size=ns.length:=by rw [<- hi.length];simp
  have z2:items2.size=ms.length:=by rw [<- hj.length];simp
  wp_walk using wpAny_loadPart' hl,wpAny_loadPart' hb,wpAny_forIn_list _ (fun rest b s'=>b.1=none /\ s'=⟨hp,g,d,tk,os⟩ /\ ∃ (vs ws:List Value) (ns' ms':List Int),rest=vs.zip ws /\
   IntsAre vs ns' /\ IntsAre ws ms' /\ ns'.length+items2.size=ms'.length+items.size /\ R (.ok (.ret (.bool (lexLt ns' ms')))) ⟨hp,g,d,tk,os⟩) _
  case turn =>
   rintro ⟨y,x⟩ rest b s' ⟨hb',rfl,vs,ws,ns',ms',hz,hvi,hwi,hlen,hR⟩;cases hvi with
   | nil=>rw [List.zip_nil_left] at hz;cases hz
   | cons a t hvi' =>
    cases hwi with
    | nil=>rw [List.zip_nil_right] at hz;cases hz
    | cons c u hwi' =>
     rw [List.zip_cons_cons] at hz;injection hz with hyx hrest
     injection hyx with hy hx
     subst hy hx;rw [lexLt_cons] at hR;simp only [List.length_cons] at hlen;obtain ⟨e,he,hiff⟩:=vd6 A.in1 ⟨hp,g,d,tk,os⟩ a t c u;refine wpAny_bind (he prog w _ _ ?_);cases e with
     | true =>
      rw [if_pos (hiff.mp rfl)] at hR
      wp_walk
      exact ⟨rfl,rfl,_,_,_,_,hrest,hvi',hwi',by omega,hR⟩
     | false =>
      rw [if_neg (fun q=>absurd (hiff.mpr q) Bool.false_ne_true)] at hR;have hri:=v92 A.in1 ⟨hp,g,d,tk,os⟩ a t c u prog w
      wp_walk using hri
      exact ⟨_,rfl,by simpa using hR⟩
  case fin =>
   rintro ⟨b1,b2⟩ s' ⟨hb',rfl,vs,ws,ns',ms',hz,hvi,hwi,hlen,hR⟩;simp only at hb';subst hb';have hv:lexLt ns' ms'=decide (items.size < items2.size):=by
    cases hvi with
    | nil =>
     cases hwi with
     | nil =>
      simp only [List.length_nil] at hlen;rw [lexLt_nil_nil];exact (decide_eq_false (by omega)).symm
     | cons c u hw =>
      simp only [List.length_nil,List.length_cons] at hlen;rw [uc6];exact (decide_eq_true (by omega)).symm
    | cons a t hv =>
     cases hwi with
     | nil =>
      simp only [List.length_nil,List.length_cons] at hlen;rw [lexLt_cons_nil];exact (decide_eq_false (by omega)).symm
     | cons c u hw =>
      rw [List.zip_cons_cons] at hz;cases hz
   rw [hv] at hR
   wp_walk
   exact ⟨_,rfl,by simpa [Builtin.Tuple.tupleCompareSizes] using hR⟩
  case h =>
   exact ⟨rfl,rfl,items.toList,items2.toList,ns,ms,rfl,hi,hj,by omega,h⟩
end
section
variable {prog:Program} {w:World} {A:Around} {E:Value->Shared->Prop} {s:Shared}
theorem lt_tupInts {l b:Addr} {items items2:Array Value} {ns ms:List Int} {Q:Value->Shared->Prop} (hl:IsTup s.heap l items) (hb:IsTup s.heap b items2) (hi:IntsAre items.toList ns) (hj:IntsAre items2.toList ms)
  (hu:A.units < cLine) (h:Q (.bool (lexLt ns ms)) s):wpAny (model prog w) A (compareOp .Lt (.ref l) (.ref b)) Q E s:=by
 obtain ⟨⟨cls,dd,data,sl⟩,ho,hc,n,hd⟩:=id hl;obtain ⟨⟨cls2,dd2,data2,sl2⟩,ho2,hc2,n2,hd2⟩:=id hb;simp only at hc hd hc2 hd2;subst hc hd hc2 hd2;exact richCompare_meets_room (op:=.Lt) ⟨_,ho,rfl⟩ ⟨_,ho2,rfl⟩ PySem.F.slot_tuple_lt PySem.F.entry_tuple_lt (PySem.F.args_tuple_lt_2 _ _) (ue4 l b items items2 n n2 dd dd2 sl sl2 ns ms hi hj)
  ⟨ho,ho2,show Value.bool (lexLt ns ms) ≠ Value.notImplemented /\ Q (.bool (lexLt ns ms)) s from ⟨(fun x=>nomatch x),h⟩⟩ hu
theorem cat_tup {t b:Addr} {vs ws:List Value} {Q:Value->Shared->Prop} (ht:IsTup s.heap t vs.toArray) (hb:IsTup s.heap b ws.toArray) (hv:vs ≠ [])
  (h1:ws=[]->Q (.ref t) s) (h2:ws ≠ []->Q (.ref s.heap.objs.size) { s with heap:=s.heap.push { cls:=.type "tuple",data:=.seq (vs++ws).toArray } })
  (hsz:vs.length+ws.length<=sizeLine):wpAny (model prog w) A (binaryOp .Add (.ref t) (.ref b)) Q E s:=by
 obtain ⟨⟨cls,dd,data,sl⟩,ho,hc,n,hd⟩:=id ht;obtain ⟨⟨cls2,dd2,data2,sl2⟩,ho2,hc2,n2,hd2⟩:=id hb;simp only at hc hd hc2 hd2;subst hc hd hc2 hd2;have e:vs.toArray++ws.toArray=(vs++ws).toArray:=by simp
 by_cases hw:ws=[]
 ·exact concat_meets ⟨_,ho,rfl⟩ ⟨_,ho2,rfl⟩ noFill_tuple_add seq_tuple_add PySem.F.slot_tuple_add PySem.F.entry_tuple_add (PySem.F.args_tuple_add_2 _ _)
   (tuple_addW1 t b vs.toArray ws.toArray n n2 dd dd2 sl sl2 (by simpa using hv) (by simp [hw])) ⟨ho,ho2,h1 hw⟩
 ·refine concat_meets ⟨_,ho,rfl⟩ ⟨_,ho2,rfl⟩ noFill_tuple_add seq_tuple_add PySem.F.slot_tuple_add PySem.F.entry_tuple_add (PySem.F.args_tuple_add_2 _ _)
   (tuple_addW2 t b vs.toArray ws.toArray n n2 dd dd2 sl sl2 (by simpa using hv) (by simpa using hw) (by rw [List.size_toArray,List.size_toArray];exact hsz)) ⟨ho,ho2,?_⟩
  rw [e];exact h2 hw
def sIx (n d:Nat):Option Int->Nat
 | none=>d
 | some v=>if v < 0 then (v+(n:Int)).toNat else min v.toNat n
end
end HT
namespace L2
open PySem PySem.Spec PyProof.Rows
abbrev TO:=St->Hp->(Option Int->Hp->Prop)->Prop
theorem intsAre_of {ns:List Int}:∀ {us:List Value},Vals (ns.map V.int) us->IntsAre us ns:=by
 induction ns with
 | nil=>intro us r;rw [List.map_nil] at r;cases r;exact .nil
 | cons n ns ih =>
  intro us r;rw [List.map_cons] at r;cases r with
  | cons r1 r2 =>
   obtain ⟨t,e⟩:=r1;subst e;exact .cons n t (ih r2)
section
variable {X:Cx} {e:Expr} {te:TE} {lo hi:Option Expr} {tl th:TO} {pos p2:Pos}
def SlR (X:Cx) (r:V->Option Int->Option Int->Hp->VK->Prop):Prop :=
 ∀ (pins:List (Addr × Obj)) (s:Shared) (σ:St) (H:Hp) (x:V) (v vl vu:Value) (lo hi:Option Int) (sl:Addr) (Q:VK),Inv X pins σ H s->RelV x v->s.heap.IsSliceOf sl vl vu .none->IsPart vl lo->IsPart vu hi->r x lo hi H Q ->
  ∃ T id,typeLookup (.type T) "__getitem__" = pure (some (.builtin id)) /\ s.TypeIs v T /\ wpAny (model X.prog X.w) X.A (getItem v (.ref sl)) (EP X pins σ Q) X.xe s
theorem SlR.or {r r':V->Option Int->Option Int->Hp->VK->Prop} (h:SlR X r) (h':SlR X r'):SlR X (fun x lo hi H Q=>r x lo hi H Q \/ r' x lo hi H Q):=by
 intro pins s σ H x v vl vu lo hi sl Q I rx hs pl pu q
 rcases q with q | q
 ·exact h pins s σ H x v vl vu lo hi sl Q I rx hs pl pu q
 ·exact h' pins s σ H x v vl vu lo hi sl Q I rx hs pl pu q
def cutV (xs:List V) (lo hi:Option Int):List V:=(xs.drop (HT.sIx xs.length 0 lo)).take (HT.sIx xs.length xs.length hi - HT.sIx xs.length 0 lo)
theorem up4 (xs:List V) (lo hi:Option Int):(cutV xs lo hi).length<=xs.length:=by
 unfold cutV;rw [List.length_take,List.length_drop];omega
def wj3 (K:W.Frag):R2:=fun x y H Q=>∃ a b xs ys,x=.ref a /\ y=.ref b /\ SqT K H a xs /\ SqT K H b ys /\ xs ≠ [] /\ xs.length+ys.length<=sizeLine /\
 (ys=[]->Q (.ref a) H) /\ (ys ≠ []->∀ p,H p=none->Q (.ref p) (upd H p (.tup (xs++ys))))
theorem Vals.nil_iff {xs:List V} {us:List Value} (r:Vals xs us):us=[] ↔ xs=[]:=by
 cases r with
 | nil=>simp
 | cons _ _=>simp
theorem op_catT:OpR X (binaryOp .Add) (wj3 X.K):=by
 intro pins s σ H x y v u Q I rx ry h;obtain ⟨a,b,xs,ys,rfl,rfl,ha,hb,hx,hz,q1,q2⟩:=h;cases rx;cases ry;obtain ⟨its,r1,p1,_⟩:=I.tuple ha;obtain ⟨its2,r2,p2,_⟩:=I.tuple hb;refine HT.cat_tup p1 p2 (fun z=>hx (r1.nil_iff.mp z)) (fun z=>⟨.ref a,H,I,rfl,q1 (r2.nil_iff.mp z)⟩) (fun z=>?_) (by rw [<- r1.length,<- r2.length];exact hz);refine ⟨.ref s.heap.objs.size,_,I.laid (t':=s.toks) (o:=.tup (xs++ys)) (fun b ob q=>Heap.get?_push_of_some _ q) (Nat.le_refl _) ?_,rfl,q2 (fun w=>z (r2.nil_iff.mpr w)) _ (I.hok.fresh (Nat.le_refl _))⟩;exact ⟨by rw [List.length_append];exact hz,_,r1.append r2,TupD.new _ _⟩
end
def ixN (n:Nat) (i:Int):Option Nat:=if 0<=i then (if i < n then some i.toNat else none) else if -(n:Int)<=i then some (i+n).toNat else none
def atI {α:Type} (xs:List α) (i:Int):Option α:=(ixN xs.length i).bind fun j=>xs[j]?
theorem v39 {n:Nat} {i:Int} {j:Nat} (h:ixN n i=some j):seqIndex? i n=some j /\ j < n /\ -(n:Int)<=i /\ i < n:=by
 unfold ixN at h
 by_cases h0:0<=i
 ·rw [if_pos h0] at h
  by_cases h1:i < n
  ·rw [if_pos h1] at h
   have e:i.toNat=j:=Option.some.inj h;exact ⟨by rw [seqIndex_of h0 h1,e],by omega,by omega,h1⟩
  ·rw [if_neg h1] at h;cases h
 ·rw [if_neg h0] at h
  by_cases h1:-(n:Int)<=i
  ·rw [if_pos h1] at h
   have e:(i+n).toNat=j:=Option.some.inj h;exact ⟨by rw [seqIndex_neg (by omega) h1,e],by omega,h1,by omega⟩
  ·rw [if_neg h1] at h;cases h
theorem up9 {α:Type} {xs:List α} {i:Int} {v:α} (h:atI xs i=some v):∃ j,seqIndex? i xs.length=some j /\ xs[j]?=some v /\ j < xs.length /\ -(xs.length:Int)<=i /\ i < xs.length:=by
 unfold atI at h;cases e:ixN xs.length i with
 | none=>rw [e] at h;cases h
 | some j =>
  rw [e] at h;obtain ⟨h1,h2,h3,h4⟩:=v39 e;exact ⟨j,h1,h,h2,h3,h4⟩
theorem u53 {α:Type} {xs:List α} {j:Nat} {v:α} (h:xs[j]?=some v):atI xs (j:Int)=some v:=by
 have hj:j < xs.length:=(List.getElem?_eq_some_iff.mp h).1;have e:ixN xs.length (j:Int)=some j:=by
  unfold ixN;rw [if_pos (by omega),if_pos (by omega)];simp
 unfold atI;rw [e];exact h
def v81 (b:Expr):Prop:=∀ o i,subscripted b false o i=operate [o,i] (getItem o i)
def IxR (X:Cx) (r:R2):Prop :=
 ∀ (value slice:Expr) (pins:List (Addr × Obj)) (s:Shared) (σ:St) (H:Hp) (x y:V) (v u:Value) (Q:VK),Inv X pins σ H s->RelV x v->RelV y u->r x y H Q ->
  subscripted slice false v u=operate [v,u] (getItem v u)->wpAny (model X.prog X.w) X.A (subscriptTail value slice v u) (EP X pins σ Q) X.xe s
def MtR (X:Cx) (id:String) (r:V->List V->Hp->VK->Prop):Prop :=
 ∀ (pins:List (Addr × Obj)) (s:Shared) (σ:St) (H:Hp) (x:V) (xs:List V) (v:Value) (us:List Value) (Q:VK),Inv X pins σ H s->RelV x v->Vals xs us->r x xs H Q ->
  wpAny (model X.prog X.w) X.A (call (.builtin id) (v::us)) (EP X pins σ Q) X.xe s
section
variable {X:Cx} {a b:Expr} {ta tb:TE} {pos:Pos}
theorem IxR.or {r r':R2} (h:IxR X r) (h':IxR X r'):IxR X (fun x y H Q=>r x y H Q \/ r' x y H Q):=by
 intro value slice pins s σ H x y v u Q I rx ry q hs
 rcases q with q | q
 ·exact h value slice pins s σ H x y v u Q I rx ry q hs
 ·exact h' value slice pins s σ H x y v u Q I rx ry q hs
theorem MtR.or {id:String} {r r':V->List V->Hp->VK->Prop} (h:MtR X id r) (h':MtR X id r'):MtR X id (fun x xs H Q=>r x xs H Q \/ r' x xs H Q):=by
 intro pins s σ H x xs v us Q I rx rs q
 rcases q with q | q
 ·exact h pins s σ H x xs v us Q I rx rs q
 ·exact h' pins s σ H x xs v us Q I rx rs q
theorem wk0 {r:R2} (hr:IxR X r) (ha:PE X a ta) (hb:PE X b tb) (hs:v81 b):PE X (.Subscript a b pos) (tOp r ta tb):=by
 intro pins s σ H Q I h;exact Subscript_ (binT ha hb I h fun v u s2 x y H2 I2 rx ry q=>hr a b pins s2 σ H2 x y v u Q I2 rx ry q (hs _ _))
def rIxL (K:W.Frag):R2:=fun x y H Q=>∃ p xs i v,x=.ref p /\ y=.int i /\ SqL K H p xs /\ atI xs i=some v /\ Q v H
def rIxT (K:W.Frag):R2:=fun x y H Q=>∃ p xs i v,x=.ref p /\ y=.int i /\ SqT K H p xs /\ atI xs i=some v /\ Q v H
def rIxS:R2:=fun x y H Q=>∃ z i c,x=.str z /\ y=.int i /\ z.length<=sizeLine /\ atI z.cps.toList i=some c /\ Q (.str ⟨#[c]⟩) H
theorem ix_list:IxR X (rIxL X.K):=by
 intro value slice pins s σ H x y v u Q I rx ry h hs;obtain ⟨p,xs,i,z,rfl,rfl,hq,he,q⟩:=h;cases rx;obtain ⟨t,rfl⟩:=ry;obtain ⟨its,r,pl,hz⟩:=I.list hq;obtain ⟨j,h1,h2,h3,h4,h5⟩:=up9 he;obtain ⟨w,ew,rw'⟩:=r.get h2;have hl:=r.length;have hn:=line63;have fin:EP X pins σ Q w s:=⟨z,H,I,rw',q⟩
 by_cases h0:0<=i
 ·have hj:i.toNat=j:=by
   rw [seqIndex_of h0 h5] at h1;exact Option.some.inj h1
  exact item_listR pl.isList h0 (by omega) (by rw [hj];simpa using ew) fin hs
 ·have hj:(i+(its.toArray.size:Int)).toNat=j:=by
   rw [seqIndex_neg (by omega) h4] at h1;rw [List.size_toArray,<- hl];exact Option.some.inj h1
  exact subscriptTail_builtinR (x:=w) pl.isList.typeIs slot_list_getitem.lookup
   (wpAny_getItem_list_neg (Q:=fun r s'=>r=w /\ EP X pins σ Q r s') pl.isList (by omega) (by rw [List.size_toArray] <;> omega) (by omega) (by rw [hj];simpa using ew) ⟨rfl,fin⟩) hs
theorem ix_tup:IxR X (rIxT X.K):=by
 intro value slice pins s σ H x y v u Q I rx ry h hs;obtain ⟨p,xs,i,z,rfl,rfl,hq,he,q⟩:=h;cases rx;obtain ⟨t,rfl⟩:=ry;obtain ⟨its,r,pl,hz⟩:=I.tuple hq;obtain ⟨j,h1,h2,h3,h4,h5⟩:=up9 he;obtain ⟨w,ew,rw'⟩:=r.get h2;have hl:=r.length;have hn:=line63;have fin:EP X pins σ Q w s:=⟨z,H,I,rw',q⟩;exact subscriptTail_builtinR (x:=w) pl.typeIs slot_tuple_getitem.lookup
  (getItem_tuple (j:=j) (Q:=fun r s'=>r=w /\ EP X pins σ Q r s') pl (by omega) (by omega) (by rw [List.size_toArray,<- hl];exact h1) (by simpa using ew) ⟨rfl,fin⟩) hs
theorem wd0:IxR X rIxS:=by
 intro value slice pins s σ H x y v u Q I rx ry h hs;obtain ⟨z,i,c,rfl,rfl,hz,he,q⟩:=h;obtain ⟨t,rfl⟩:=rx;obtain ⟨t',rfl⟩:=ry;obtain ⟨j,h1,h2,h3,h4,h5⟩:=up9 he;have hl:z.cps.toList.length=z.length:=by simp [Str.length]
 rw [hl] at h1 h4 h5;have hn:=line63;exact tail_any (typeIs_str s z t) slot_str_getitem.lookup (getItem_str (c:=c) (by
  have e1:decide (i < -(2 ^ 63:Int))=false:=decide_eq_false (by omega);have e2:decide (i ≥ 2 ^ 63)=false:=decide_eq_false (by omega);rw [e1,e2,Bool.or_false]) (by rw [h1];simpa using h2) ⟨.str ⟨#[c]⟩,H,I.tok _,⟨_,rfl⟩,q⟩) hs
def rIx (K:W.Frag):R2:=fun x y H Q=>rIxL K x y H Q \/ rIxT K x y H Q \/ rIxS x y H Q
theorem wd1:IxR X (rIx X.K):=ix_list.or (ix_tup.or wd0)
theorem uv4 (its:List Value) (n j:Nat) (u:Value):Obj.mapSeq (·.setIfInBounds j u) { cls:=.type "list",data:=.seq its.toArray n }={ cls:=.type "list",data:=.seq (its.set j u).toArray n }:=by
 simp [Obj.mapSeq]
theorem Inv.lst {pins:List (Addr × Obj)} {σ:St} {H:Hp} {s:Shared} {p:Addr} {xs:List V} (I:Inv X pins σ H s) (h:H p=some (.lst xs)) :
  ∃ (its:List Value) (n:Nat),Vals xs its /\ s.heap.get? p=some { cls:=.type "list",data:=.seq its.toArray n } /\ xs.length<=sizeLine:=by
 obtain ⟨z,its,n,r,e⟩:=I.hok p _ h;exact ⟨its,n,r,e,z⟩
theorem Inv.lstUpd {pins:List (Addr × Obj)} {σ:St} {H:Hp} {s:Shared} {p:Addr} {xs ys:List V} {its its':List Value} {n n':Nat} {f:Obj->Obj} (I:Inv X pins σ H s) (h:H p=some (.lst xs))
  (ho:s.heap.get? p=some { cls:=.type "list",data:=.seq its.toArray n }) (hf:f { cls:=.type "list",data:=.seq its.toArray n }={ cls:=.type "list",data:=.seq its'.toArray n' }) (r:Vals ys its') (hz:ys.length<=sizeLine) (t:Nat) :
  Inv X pins σ (upd H p (.lst ys)) { s with heap:=s.heap.update p f,toks:=t }:=by
 have e:(s.heap.update p f).get? p=some { cls:=.type "list",data:=.seq its'.toArray n' }:=by
  rw [Heap.get?_update_self f ho (by rw [hf] <;> rfl),hf]
 refine I.write (x:=p) (e:=p) (by rw [h];trivial) (.inl rfl) (fun b u hb q=>(Heap.get?_update_other _ _ (Ne.symm hb)).trans q) ⟨_,e⟩ ?_;exact ⟨hz,its',n',r,e⟩
def wj2:V->V->V->Hp->(Hp->Prop)->Prop:=fun o i v H Q=>∃ p xs k j,o=.ref p /\ i=.int k /\ H p=some (.lst xs) /\ ixN xs.length k=some j /\ Q (upd H p (.lst (xs.set j v)))
theorem set_list:PSet X wj2:=by
 intro pins s σ H o i v ov iv u Q I ro ri rv h;obtain ⟨p,xs,k,j,rfl,rfl,hp,hj,q⟩:=h;cases ro;obtain ⟨t,rfl⟩:=ri;obtain ⟨its,n,r,ho,hz⟩:=I.lst hp;obtain ⟨h1,h2,h3,h4⟩:=v39 hj;have hl:=r.length;have hn:=line63;have I':Inv X pins σ (upd H p (.lst (xs.set j v))) { s with heap:=s.heap.update p (Obj.mapSeq (·.setIfInBounds j u)) } :=
  I.lstUpd hp ho (uv4 its n j u) (r.set rv j) (by rw [List.length_set];exact hz) s.toks
 by_cases h0:0<=k
 ·have hk:k.toNat=j:=by
   rw [seqIndex_of h0 h4] at h1;exact Option.some.inj h1
  exact W.ki_setAt ho h0 (by omega) (by rw [List.size_toArray,<- hl];exact h4) (by rw [hk];exact ⟨_,I',q⟩)
 ·have hk:(k+(its.toArray.size:Int)).toNat=j:=by
   rw [seqIndex_neg (by omega) h3] at h1;rw [List.size_toArray,<- hl];exact Option.some.inj h1
  exact W.ki_setBack ho (by omega) (by rw [List.size_toArray,<- hl];exact h3) (by omega) (by rw [hk];exact ⟨_,I',q⟩)
theorem uj0 (lo hi:Option Int) (n:Nat):(sliceBounds lo hi none n).1=((HT.sIx n 0 lo:Nat):Int) /\ (sliceBounds lo hi none n).2.1=((HT.sIx n n hi:Nat):Int) /\ (sliceBounds lo hi none n).2.2=1:=by
 refine ⟨?_,?_,rfl⟩
 ·cases lo with
  | none=>simp [sliceBounds,HT.sIx]
  | some i =>
   simp only [sliceBounds,HT.sIx,Option.getD_none,show (1:Int) > 0 by decide,if_true]
   by_cases h:i < 0
   ·simp only [h,if_true] <;> omega
   ·simp only [h,if_false] <;> omega
 ·cases hi with
  | none=>simp [sliceBounds,HT.sIx]
  | some i =>
   simp only [sliceBounds,HT.sIx,Option.getD_none,show (1:Int) > 0 by decide,if_true]
   by_cases h:i < 0
   ·simp only [h,if_true] <;> omega
   ·simp only [h,if_false] <;> omega
theorem ue7 (its:List Value) (lo hi:Option Int):slicePick its.toArray lo hi none=((its.drop (HT.sIx its.length 0 lo)).take (HT.sIx its.length its.length hi - HT.sIx its.length 0 lo)).toArray:=by
 obtain ⟨h1,h2,h3⟩:=uj0 lo hi its.toArray.size;unfold slicePick;rw [h1,h2,h3];simp only [sliceRange_one,pick_run,List.size_toArray] <;> rfl
def rSlL (K:W.Frag):V->Option Int->Option Int->Hp->VK->Prop:=fun x lo hi H Q=>∃ a xs,x=.ref a /\ SqL K H a xs /\ ∀ p,H p=none->Q (.ref p) (upd H p (.lst (cutV xs lo hi)))
theorem wi9:SlR X (rSlL X.K):=by
 intro pins s σ H x v vl vu lo hi sl Q I rx hs pl pu h;obtain ⟨a,xs,rfl,hx,q⟩:=h;cases rx;obtain ⟨its,r,ht,hz⟩:=I.list hx;have hlen:=r.length;refine ⟨"list",_,slot_list_getitem.lookup,ht.isList.typeIs,?_⟩;refine wpAny_getItem_list_slice ht.isList hs pl pu .none (by simp) ?_ (by rw [List.size_toArray] <;> omega);rw [ue7,<- hlen];refine ⟨.ref s.heap.objs.size,_,I.laid (t':=s.toks) (o:=.lst (cutV xs lo hi)) (fun b ob q=>Heap.get?_push_of_some _ q) (Nat.le_refl _) ?_,rfl,q _ (I.hok.fresh (Nat.le_refl _))⟩;exact ⟨Nat.le_trans (up4 xs lo hi) hz,_,0,(r.drop (HT.sIx xs.length 0 lo)).take (HT.sIx xs.length xs.length hi - HT.sIx xs.length 0 lo),Heap.get?_push_size _ rfl⟩
def vx0:V->Bool
 | .non=>true
 | .bl _=>true
 | .int _=>true
 | .str _=>true
 | _=>false
def eqV:V->V->Bool
 | .non,.non=>true
 | .bl a,.bl b=>a == b
 | .bl a,.int b=>(if a then 1 else 0) == b
 | .int a,.bl b=>a == (if b then 1 else 0)
 | .int a,.int b=>a == b
 | .str a,.str b=>a == b
 | _,_=>false
theorem we8 {A:Around} {s:Shared} {y x:V} {u v:Value} (ry:RelV y u) (rx:RelV x v) (fy:vx0 y=true) (fx:vx0 x=true):SeqAt.EqAt A s u v (eqV y x):=by
 cases y with
 | non =>
  cases ry;cases x with
  | non=>cases rx;exact SeqAt.EqAt.same _
  | bl b=>cases rx;exact SeqAt.EqAt.none_bool b
  | int b=>obtain ⟨t,rfl⟩:=rx;exact SeqAt.EqAt.none_int b t
  | str b=>obtain ⟨t,rfl⟩:=rx;exact SeqAt.EqAt.none_str b t
  | _=>exact absurd (show false=true from fx) Bool.false_ne_true
 | bl a =>
  cases ry;cases x with
  | non=>cases rx;exact SeqAt.EqAt.bool_none a
  | bl b=>cases rx;exact SeqAt.EqAt.bool_bool a b
  | int b=>obtain ⟨t,rfl⟩:=rx;exact SeqAt.EqAt.bool_int a b t
  | str b=>obtain ⟨t,rfl⟩:=rx;exact SeqAt.EqAt.bool_str a b t
  | _=>exact absurd (show false=true from fx) Bool.false_ne_true
 | int a =>
  obtain ⟨t',rfl⟩:=ry;cases x with
  | non=>cases rx;exact SeqAt.EqAt.int_none a t'
  | bl b=>cases rx;exact SeqAt.EqAt.int_bool a t' b
  | int b=>obtain ⟨t,rfl⟩:=rx;exact SeqAt.EqAt.int_int a t' b t
  | str b=>obtain ⟨t,rfl⟩:=rx;exact SeqAt.EqAt.int_str a t' b t
  | _=>exact absurd (show false=true from fx) Bool.false_ne_true
 | str a =>
  obtain ⟨t',rfl⟩:=ry;cases x with
  | non=>cases rx;exact SeqAt.EqAt.str_none a t'
  | bl b=>cases rx;exact SeqAt.EqAt.str_bool a t' b
  | int b=>obtain ⟨t,rfl⟩:=rx;exact SeqAt.EqAt.str_int a t' b t
  | str b=>obtain ⟨t,rfl⟩:=rx;exact SeqAt.EqAt.str_str a t' b t
  | _=>exact absurd (show false=true from fx) Bool.false_ne_true
 | _=>exact absurd (show false=true from fy) Bool.false_ne_true
theorem call_len_seq:CallR X (.builtin "len") (fun xs H Q=>∃ p ys,xs=[.ref p] /\ (SqL X.K H p ys \/ SqT X.K H p ys) /\ Q (.int ys.length) H):=by
 intro pins s σ H xs us Q I r h;obtain ⟨p,ys,rfl,hq,q⟩:=h;obtain ⟨u,rfl,rx⟩:=vals1 r;cases rx;have hn:=line63
 rcases hq with hq | hq
 ·obtain ⟨its,r',pl,hz⟩:=I.list hq
  have hlen:=r'.length;exact Calls.call_len_list pl.isList (by simp only [List.size_toArray] <;> omega) ⟨.int ys.length,H,I.tok _,⟨s.toks+1,by rw [List.size_toArray,hlen]⟩,q⟩
 ·obtain ⟨its,r',pl,hz⟩:=I.tuple hq
  have hlen:=r'.length;exact len_tuple pl (by simp only [List.size_toArray] <;> omega) ⟨.int ys.length,H,I.tok _,⟨s.toks+1,by rw [List.size_toArray,hlen]⟩,q⟩
theorem ul6:CallR X (.builtin "len") (fun xs H Q=>∃ z,xs=[.str z] /\ z.length<=sizeLine /\ Q (.int z.length) H):=by
 intro pins s σ H xs us Q I r h;obtain ⟨z,rfl,hz,q⟩:=h;obtain ⟨u,rfl,t,rfl⟩:=vals1 r;have hn:=line63;exact len_str (by omega) ⟨.int z.length,H,I.tok _,⟨_,rfl⟩,q⟩
theorem CallR.or {f:Value} {r r':List V->Hp->VK->Prop} (h:CallR X f r) (h':CallR X f r'):CallR X f (fun xs H Q=>r xs H Q \/ r' xs H Q):=by
 intro pins s σ H xs us Q I rs q
 rcases q with q | q
 ·exact h pins s σ H xs us Q I rs q
 ·exact h' pins s σ H xs us Q I rs q
theorem ul5:CallR X (.type "list") (fun xs H Q=>∃ p ys,xs=[.ref p] /\ (SqL X.K H p ys \/ SqT X.K H p ys) /\ ∀ l,H l=none->Q (.ref l) (upd H l (.lst ys))):=by
 intro pins s σ H xs us Q I r h;obtain ⟨p,ys,rfl,hq,q⟩:=h;obtain ⟨u,rfl,rx⟩:=vals1 r;cases rx;have fin:∀ (its:List Value),Vals ys its->ys.length<=sizeLine->∀ (h':Heap) (c':Nat),(∀ b o',s.heap.get? b=some o'->h'.get? b=some o') ->
   h'.get? s.heap.objs.size=some { cls:=.type "list",dict:=none,data:=.seq its.toArray c',slots:=#[] }->EP X pins σ Q (.ref s.heap.objs.size) { s with heap:=h' }:=fun its r' hz h' c' kp e =>
  ⟨.ref s.heap.objs.size,_,I.laid (t':=s.toks) kp (Nat.le_refl _) (show ObjOk X.prog X.w _ h' _ (.lst ys) from ⟨hz,its,c',r',e⟩),rfl,q _ (I.hok.fresh (Nat.le_refl _))⟩
 rcases hq with hq | hq
 ·obtain ⟨its,r',pl,hz⟩:=I.list hq
  have hlen:=r'.length;obtain ⟨o,ho,hc,n,hd⟩:=pl.isList;exact call_list_seq p (.inl rfl) ho hc hd (fun h' c' kp e=>fin its r' hz h' c' kp e) (by simp only [List.size_toArray] <;> omega)
 ·obtain ⟨its,r',pl,hz⟩:=I.tuple hq
  have hlen:=r'.length;obtain ⟨o,ho,hc,n,hd⟩:=pl;exact call_list_seq p (.inr rfl) ho hc hd (fun h' c' kp e=>fin its r' hz h' c' kp e) (by simp only [List.size_toArray] <;> omega)
def tyV (K:W.Frag) (T:String) (x:V) (H:Hp):Prop:=match x with
 | .str _=>T = "str"
 | .int _=>T = "int"
 | .ref p=>(T = "list" /\ ∃ xs,SqL K H p xs) \/ (T = "tuple" /\ ∃ o,K.lookup p=some o /\ o.cls=.type "tuple" /\ o.dict=none) \/
   (T = "dict" /\ ((∃ kvs,H p=some (.dK kvs)) \/ ∃ kvs,H p=some (.dT kvs))) \/ (T = "set" /\ ∃ S n,H p=some (.set S n))
 | _=>False
theorem vh4 {pins:List (Addr × Obj)} {σ:St} {H:Hp} {s:Shared} {T:String} {x:V} {v:Value} (I:Inv X pins σ H s) (r:RelV x v) (ty:tyV X.K T x H) :
  s.TypeIs v T /\ ∀ a,v=.ref a->∃ ob,s.heap.get? a=some ob /\ ob.dict=none:=by
 cases x with
 | str z =>
  obtain ⟨t,rfl⟩:=r;cases (show T = "str" from ty);exact ⟨typeIs_str s z t,fun _ e=>nomatch e⟩
 | int i =>
  obtain ⟨t,rfl⟩:=r;cases (show T = "int" from ty);exact ⟨typeIs_int s i t,fun _ e=>nomatch e⟩
 | ref p =>
  cases r
  rcases ty with ⟨rfl,xs,hq⟩ | ⟨rfl,o,hk,hc,hd⟩ | ⟨rfl,hk⟩ | ⟨rfl,S,n,hk⟩
  ·obtain ⟨its,_,pl,_⟩:=I.list hq
   refine ⟨pl.isList.typeIs,fun a e=>?_⟩;cases e;obtain ⟨o,n,e,c,hd,_⟩:=pl;exact ⟨o,e,hd⟩
  ·refine ⟨⟨o,I.kIn p o hk,hc⟩,fun a e=>?_⟩
   cases e;exact ⟨o,I.kIn _ o hk,hd⟩
  ·have z:∃ o,s.heap.get? p=some o /\ o.ExactDict:=by
    rcases hk with ⟨kvs,hk⟩ | ⟨kvs,hk⟩
    ·obtain ⟨_,_,_,_,o,_,_,e,ex,_⟩:=I.hok p _ hk
     exact ⟨o,e,ex⟩
    ·obtain ⟨_,_,_,_,o,_,_,e,ex,_⟩:=I.hok p _ hk
     exact ⟨o,e,ex⟩
   obtain ⟨o,e,ex⟩:=z;refine ⟨⟨o,e,ex.1⟩,fun a e2=>?_⟩;cases e2;exact ⟨o,e,ex.2.1⟩
  ·obtain ⟨o,_,_,_,e,ex,_⟩:=I.hok p _ hk
   refine ⟨⟨o,e,ex.1⟩,fun a e2=>?_⟩;cases e2;exact ⟨o,e,ex.2.1⟩
 | _=>exact False.elim ty
def tBM0 (K:W.Frag) (T:String) (r:V->List V->Hp->VK->Prop) (to:TE):TE:=fun σ H Q=>to σ H fun x H1=>tyV K T x H1 /\ r x [] H1 Q
def tBM (K:W.Frag) (T:String) (r:V->List V->Hp->VK->Prop) (to:TE) (t:TA):TE:=fun σ H Q=>to σ H fun x H1=>tyV K T x H1 /\ t σ H1 fun xs H2=>r x xs H2 Q
variable {o e:Expr} {es:List Expr} {to:TE} {t:TA} {name:Str} {apos cpos:Pos} {T id:String} {r:V->List V->Hp->VK->Prop}
theorem w62 (pa:PlainAttrs T) (slot:Slot T name id) (hty:typeOf (.builtin id)=pure (.type "method_descriptor")) (hm:MtR X id r) (ho:PE X o to)
  (hbase:attributeBase o name X.env (eval o X.env)=eval o X.env:=by rfl) (hline:(apos.endLine == cpos.line)=true:=by rfl):PE X (.Call (.Attribute o name apos) [] [] cpos) (tBM0 X.K T r to):=by
 intro pins s σ H Q I h
 (refine wpAny_Call_method0_late hbase hline (thn (ho pins s σ H _ I h) ?_);rintro v s1 ⟨x,H1,I1,r1,ty,q1⟩)
 obtain ⟨h1,h2⟩:=vh4 I1 r1 ty;exact ⟨T,id,pa,slot,hty,h1,h2,Calls.callWith_builtin rfl (PySem.evalArgs_none (hm pins s1 σ H1 x [] v [] Q I1 r1 .nil q1))⟩
theorem wk1 (pa:PlainAttrs T) (slot:Slot T name id) (hty:typeOf (.builtin id)=pure (.type "method_descriptor")) (hm:MtR X id r) (ho:PE X o to) (ha:PA X (e::es) t)
  (hbase:attributeBase o name X.env (eval o X.env)=eval o X.env:=by rfl)
  (hfew:((backTo cpos (starEach (e::es) X.env)).all (fun x=>!x.1) && (backToKw cpos (keywordEach [] X.env)).all (fun x=>x.1.isSome)
   && decide ((e::es).length+([]:List Keyword).length+(if ([]:List Keyword).isEmpty then 0 else 1) < 30))=true:=by rfl)
  (hline:(apos.endLine == cpos.line)=true:=by rfl) (hs:starEach (e::es) X.env=(false,eval e X.env)::starEach es X.env:=by rfl) (hplain:(backTo cpos (starEach es X.env)).any (·.1)=false:=by rfl) :
  PE X (.Call (.Attribute o name apos) (e::es) [] cpos) (tBM X.K T r to t):=by
 intro pins s σ H Q I h
 (refine wpAny_Call_method_late hbase hfew hline rfl (thn (ho pins s σ H _ I h) ?_);rintro v s1 ⟨x,H1,I1,r1,ty,q1⟩)
 obtain ⟨h1,h2⟩:=vh4 I1 r1 ty;refine ⟨T,id,pa,slot,hty,h1,h2,?_⟩;have hA:=ha cpos pins s1 σ H1 _ I1 q1;rw [hs] at hA ⊢;refine Calls.callWith_builtin (by show (false || (backTo cpos (starEach es X.env)).any (·.1))=false;rw [hplain] <;> rfl) (Calls.evalArgs_plain ?_)
 (refine thn hA ?_;rintro us s2 ⟨vs,H2,I2,r2,q2⟩;exact hm pins s2 σ H2 x vs v us Q I2 r1 r2 q2)
/- xs.append(e),list.index on a module's tuple .. are MtR facts of 06m -/
end
def MtM (X:Cx) (id:String) (r:V->List V->Hp->VK->Prop):Prop :=
 ∀ (pins:List (Addr × Obj)) (s:Shared) (σ:St) (H:Hp) (x:V) (xs:List V) (v:Value) (us:List Value) (Q:VK),Inv X pins σ H s->RelV x v->Vals xs us->r x xs H Q ->
  wpAny (model X.prog X.w) X.A (call (.builtin id) (v::us)) (EP X pins σ Q) X.xe s
theorem Vals.one:∀ {x:V} {us:List Value},Vals [x] us->∃ u,us=[u] /\ RelV x u
 | _,_,.cons r .nil=>⟨_,rfl,r⟩
theorem Vals.two:∀ {x y:V} {us:List Value},Vals [x,y] us->∃ u v,us=[u,v] /\ RelV x u /\ RelV y v
 | _,_,_,.cons r (.cons q .nil)=>⟨_,_,rfl,r,q⟩
theorem Vals.zero:∀ {us:List Value},Vals [] us->us=[]
 | _,.nil=>rfl
theorem Vals.dropLast {xs:List V} {us:List Value} (h:Vals xs us):Vals xs.dropLast us.dropLast:=by
 induction h with
 | nil=>exact .nil
 | cons r t ih =>
  cases t with
  | nil=>exact .nil
  | cons q t'=>exact .cons r ih
theorem Vals.eraseIdx:∀ {xs:List V} {us:List Value} (i:Nat),Vals xs us->Vals (xs.eraseIdx i) (us.eraseIdx i)
 | _,_,_,.nil=>.nil
 | _,_,0,.cons _ t=>t
 | _,_,i+1,.cons r t=>.cons r (Vals.eraseIdx i t)
theorem Vals.reverse {xs:List V} {us:List Value} (h:Vals xs us):Vals xs.reverse us.reverse:=by
 induction h with
 | nil=>exact .nil
 | cons r t ih=>rw [List.reverse_cons,List.reverse_cons];exact Vals.append ih (.cons r .nil)
theorem Vals.rep {xs:List V} {us:List Value} (h:Vals xs us):∀ k:Nat,Vals (List.replicate k xs).flatten (List.replicate k us).flatten
 | 0=>.nil
 | k+1=>by
  rw [List.replicate_succ,List.replicate_succ,List.flatten_cons,List.flatten_cons];exact Vals.append h (Vals.rep h k)
theorem uw1 {α:Type} (l:List α):l.eraseIdx (l.length - 1)=l.dropLast:=by
 induction l with
 | nil=>rfl
 | cons a r ih =>
  cases r with
  | nil=>rfl
  | cons b r =>
   have e:(a::b::r).length - 1=((b::r).length - 1)+1:=by
    have h1:(a::b::r).length=r.length+2:=rfl;have h2:(b::r).length=r.length+1:=rfl;omega
   rw [e,List.eraseIdx_cons_succ,ih]
   all_goals rfl
theorem foldl_rep (its:List Value):∀ (k:Nat) (acc:List Value),
  List.foldl (fun x1 x2=>x1++x2) acc.toArray (List.replicate k its.toArray)=(acc++(List.replicate k its).flatten).toArray
 | 0,acc=>by simp
 | k+1,acc=>by
  have e:acc.toArray++its.toArray=(acc++its).toArray:=by simp
  have e2:(acc++its)++(List.replicate k its).flatten=acc++(List.replicate (k+1) its).flatten:=by
   rw [List.replicate_succ,List.flatten_cons,List.append_assoc]
  rw [<- e2,<- foldl_rep its k (acc++its),<- e,List.replicate_succ,List.foldl_cons]
section
variable {X:Cx} {pins:List (Addr × Obj)} {σ:St} {H:Hp} {s:Shared} {l b:Addr} {xs ys zs:List V}
theorem Inv.lset {its its':List Value} {n:Nat} {f:Array Value->Array Value} {t':Nat} (I:Inv X pins σ H s) (hH:H l=some (.lst xs))
  (e:s.heap.get? l=some { cls:=.type "list",data:=.seq its.toArray n }) (hf:f its.toArray=its'.toArray) (hv:Vals ys its') (hz:ys.length<=sizeLine) :
  Inv X pins σ (upd H l (.lst ys)) { s with heap:=s.heap.update l (Obj.mapSeq f),toks:=t' }:=by
 have q:=PySem.IsL.update e f;rw [hf] at q;refine I.write (x:=l) (e:=l) (by rw [hH];exact trivial) (.inl rfl) (fun b' u hb hu=>(Heap.get?_update_other s.heap (Obj.mapSeq f) (Ne.symm hb)).trans hu) ⟨_,q⟩ ?_;exact ⟨hz,its',_,hv,q⟩
theorem Inv.lnew {its:List Value} {t':Nat} (I:Inv X pins σ H s) (hv:Vals ys its) (hz:ys.length<=sizeLine) :
  Inv X pins σ (upd H s.heap.objs.size (.lst ys)) { s with heap:=s.heap.push { cls:=.type "list",data:=.seq its.toArray },toks:=t' } :=
 I.laid (fun _ _ q=>Heap.get?_push_of_some _ q) (Nat.le_refl _) ⟨hz,its,0,hv,Heap.get?_push_size _ rfl⟩
theorem Inv.fresh (I:Inv X pins σ H s):H s.heap.objs.size=none:=I.hok.fresh (Nat.le_refl _)
theorem Inv.lstM (I:Inv X pins σ H s) (hH:H l=some (.lst xs)):xs.length<=sizeLine /\ ∃ (its:List Value) (n:Nat),Vals xs its /\ xs.length=its.length /\ s.heap.get? l=some { cls:=.type "list",data:=.seq its.toArray n }:=by
 obtain ⟨z,its,n,r,e⟩:=I.hok l _ hH;exact ⟨z,its,n,r,r.length,e⟩
theorem us0 {n:Nat} (h:n<=sizeLine):Builtin.List.listTooLong n=false:=by
 unfold Builtin.List.listTooLong;exact decide_eq_false (by omega)
end
section
variable {X:Cx}
def vq6:V->List V->Hp->VK->Prop:=fun x vs H Q=>∃ l xs y,x=.ref l /\ vs=[y] /\ H l=some (.lst xs) /\ xs.length < sizeLine /\ Q .non (upd H l (.lst (xs++[y])))
theorem uj7:MtM X "list.append" vq6:=by
 intro pins s σ H x vs v us Q I rx rv h;obtain ⟨l,xs,y,rfl,rfl,hH,hz,q⟩:=h;cases rx;obtain ⟨u,rfl,ru⟩:=rv.one;obtain ⟨z,its,n,r,hl,e⟩:=I.lstM hH;refine call_meets F.slot_list_append ⟨_,e,rfl⟩ F.entry_list_append (F.args_list_append_2 _ _) (PySem.list_append l its.toArray n u (by rw [List.size_toArray];omega)) ⟨e,?_⟩;refine ⟨.non,_,I.lset (its':=its++[u]) hH e (by simp) (r.append (.cons ru .nil)) ?_,rfl,q⟩;rw [List.length_append,List.length_singleton];omega
def vq5:V->List V->Hp->VK->Prop:=fun x vs H Q=>∃ l b xs zs,x=.ref l /\ vs=[.ref b] /\ H l=some (.lst xs) /\ H b=some (.lst zs) /\ xs.length+zs.length<=sizeLine /\ Q .non (upd H l (.lst (xs++zs)))
theorem wb3:MtM X "list.extend" vq5:=by
 intro pins s σ H x vs v us Q I rx rv h;obtain ⟨l,b,xs,zs,rfl,rfl,hH,hB,hz,q⟩:=h;cases rx;obtain ⟨u,rfl,ru⟩:=rv.one;cases ru;obtain ⟨z,its,n,r,hl,e⟩:=I.lstM hH;obtain ⟨z2,its2,n2,r2,hl2,e2⟩:=I.lstM hB;have hsz:its.toArray.size+its2.toArray.size<=sizeLine:=by rw [List.size_toArray,List.size_toArray];omega
 have hlong:¬ (!its.toArray.isEmpty && Builtin.List.listTooLong (its.toArray.size+its2.toArray.size))=true:=by
  rw [us0 hsz,Bool.and_false];exact Bool.false_ne_true
 refine call_meets F.slot_list_extend ⟨_,e,rfl⟩ F.entry_list_extend (F.args_list_extend_2 _ _)
  (AutoSeq1.list_extend_list_list_0 l its.toArray n b its2.toArray n2 hlong (by rw [List.size_toArray];omega) (by omega)) ⟨e,e2,?_⟩
 refine ⟨.non,_,I.lset (its':=its++its2) hH e (by simp) (r.append r2) ?_,rfl,q⟩;rw [List.length_append];omega
def rPop:V->List V->Hp->VK->Prop:=fun x vs H Q=>∃ l xs y,x=.ref l /\ vs=[] /\ H l=some (.lst xs) /\ xs[xs.length - 1]?=some y /\ Q y (upd H l (.lst xs.dropLast))
theorem wb2:MtM X "list.pop" rPop:=by
 intro pins s σ H x vs v us Q I rx rv h;obtain ⟨l,xs,y,rfl,rfl,hH,hy,q⟩:=h;cases rx;have hus:=rv.zero;subst hus;obtain ⟨z,its,n,r,hl,e⟩:=I.lstM hH;obtain ⟨u,hu,ru⟩:=r.get hy;have hy':its.toArray[its.toArray.size - 1]?=some u:=by
  show its.toArray[its.length - 1]?=some u
  rw [<- Array.getElem?_toList,<- hl];exact hu
 refine call_meets F.slot_list_pop ⟨_,e,rfl⟩ F.entry_list_pop (F.args_list_pop_1 _) (MeetsSeq.list_pop_last l its.toArray n u hy' (by rw [List.size_toArray];omega)) ⟨e,?_⟩;refine ⟨y,_,I.lset (its':=its.dropLast) hH e ?_ r.dropLast ?_,ru,q⟩
 ·show its.toArray.eraseIdxIfInBounds (its.toArray.size - 1)=its.dropLast.toArray
  rw [List.size_toArray,List.eraseIdxIfInBounds_toArray,uw1]
 ·rw [List.length_dropLast]
  omega
def rCat:R2:=fun x y H Q=>∃ l b xs zs,x=.ref l /\ y=.ref b /\ H l=some (.lst xs) /\ H b=some (.lst zs) /\ xs.length+zs.length<=sizeLine /\ ∀ p,H p=none->Q (.ref p) (upd H p (.lst (xs++zs)))
theorem w79:OpR X (binaryOp .Add) rCat:=by
 intro pins s σ H x y v u Q I rx ry h;obtain ⟨l,b,xs,zs,rfl,rfl,hH,hB,hz,q⟩:=h;cases rx;cases ry;obtain ⟨z,its,n,r,hl,e⟩:=I.lstM hH;obtain ⟨z2,its2,n2,r2,hl2,e2⟩:=I.lstM hB;refine PySem.P.add_list e e2 ?_ (by rw [List.size_toArray,List.size_toArray];omega);have ea:its.toArray++its2.toArray=(its++its2).toArray:=by simp
 rw [ea];exact ⟨.ref _,_,I.lnew (t':=s.toks) (r.append r2) (by rw [List.length_append];omega),rfl,q _ I.fresh⟩
def rRep:R2:=fun x y H Q=>∃ l k xs,x=.ref l /\ y=.int k /\ H l=some (.lst xs) /\ -(2 ^ 63)<=k /\ k < 2 ^ 63 /\ xs.length * k.toNat<=sizeLine /\
 ∀ p,H p=none->Q (.ref p) (upd H p (.lst (List.replicate k.toNat xs).flatten))
theorem len_rep {α:Type} (xs:List α) (k:Nat):(List.replicate k xs).flatten.length=k * xs.length:=by
 induction k with
 | zero=>simp
 | succ k ih=>rw [List.replicate_succ,List.flatten_cons,List.length_append,ih,Nat.succ_mul,Nat.add_comm]
theorem w72:OpR X (binaryOp .Mult) rRep:=by
 intro pins s σ H x y v u Q I rx ry h;obtain ⟨l,k,xs,rfl,rfl,hH,h1,h2,hz,q⟩:=h;cases rx;obtain ⟨t,rfl⟩:=ry;obtain ⟨z,its,n,r,hl,e⟩:=I.lstM hH;have hlen:its.toArray.size * k.toNat<=sizeLine:=by rw [List.size_toArray,<- hl];exact hz
 have hcap:¬ its.toArray.size * k.toNat > (2 ^ 63 - 1) / 8:=by
  have:(sizeLine:Nat)<=(2 ^ 63 - 1) / 8:=by decide
  omega
 have hfit:¬ (!Builtin.List.listFitsIndex k)=true:=by
  rw [fitsIndex_both h1 h2];exact Bool.false_ne_true
 have hlong:¬ Builtin.List.listTooLong (its.toArray.size * k.toNat)=true:=by
  rw [us0 hlen];exact Bool.false_ne_true
 have hnew:List.foldl (fun x1 x2=>x1++x2) #[] (List.replicate (if its.toArray.isEmpty=true then 0 else k.toNat) its.toArray)=(List.replicate k.toNat its).flatten.toArray:=by
  have f0:∀ m:Nat,List.foldl (fun x1 x2=>x1++x2) #[] (List.replicate m its.toArray)=(List.replicate m its).flatten.toArray:=fun m=>by
   have:=foldl_rep its m [];rw [List.nil_append] at this;exact this
  rw [f0];cases its with
  | nil=>simp
  | cons a r'=>rw [if_neg (by simp)]
 refine wpAny_binaryOp_repeat_ref (T := "list") (U := "int") (by decide) ⟨_,e,rfl⟩ (fun s'=>typeIs_int s' k t) noFill_list_mul F.fills_int_mul F.slot_int_rmul repeat_list F.slot_int_index.lookup
  (call_meets F.slot_int_rmul (typeIs_int s k t) F.entry_int_rmul (F.args_int_rmul_2 _ _) (int___rmul___int_list k t l its.toArray n)
   ⟨e,rfl,⟨_,e,rfl⟩,call_meets F.slot_list_mul ⟨_,e,rfl⟩ F.entry_list_mul (F.args_list_mul_2 _ _) (AutoListH.list___mul___list_int_3 l its.toArray n k t hfit hcap hlong) ⟨e,?_⟩⟩)
 rw [hnew];exact ⟨.ref _,_,I.lnew (t':=s.toks) (r.rep k.toNat) (by rw [len_rep,Nat.mul_comm];exact hz),rfl,q _ I.fresh⟩
end
end L2
namespace Att
open PySem PySem.W PySem.Calls PyProof.Rows
theorem ub6 {P:Params} {h:Heap}:∀ (ns:List Int) (vs:List Value),WellAll P h vs (ns.map WData.int)->IntsAre vs ns:=by
 intro ns
 induction ns with
 | nil =>
  intro vs w;rw [List.map_nil] at w;cases w;exact .nil
 | cons n ns ih =>
  intro vs w;rw [List.map_cons] at w;cases w with
  | cons a b =>
   cases a;exact .cons _ _ (ih _ b)
theorem uy7 {l:OpenLaw} {n:Nat} (hn:l.most=some n) {P:Params} {h:Heap} {args:List WData} {vals:List Value}
  (hpre:l.row.toRowW.claim.pre args=true) (hwl:WellAll P h vals args) :
  ∃ a vs ns,vals=[Value.ref a] /\ args=[WData.list (ns.map WData.int)] /\ h.get? a=some { cls:=.type "list",data:=.seq vs.toArray } /\ IntsAre vs ns /\ ns.length<=n:=by
 have hsh:WShape.hasAll [] args [.list .int]=true:=(pre_splitW hpre).1;have hc:l.pre.holds [] { args:=args }=true:=(pre_splitW hpre).2;obtain ⟨d,r,rfl,h1,h2⟩:=hasAllW_cons hsh;obtain rfl:=hasAllW_nil h2;obtain ⟨xs,rfl,h3⟩:=hasW_list h1;obtain ⟨ns,rfl⟩:=items_int h3;have hlen:ns.length<=n:=by
  unfold OpenLaw.pre at hc;have h4:(WTm.not (.lt (.lit (.int (n:Int))) (.len (.arg 0)))).holds [] { args:=[.list (ns.map .int)] }=true:=by
   have h4:=(holds_andW hc).1;rw [hn] at h4;exact h4
  have h5:=condW_of h4 (w_not (w_lt w_lit (w_len_list (w_arg rfl))));rw [List.length_map] at h5;refine Nat.le_of_not_lt fun q=>?_
  have q':(n:Int) < ((ns.length:Nat):Int):=by omega
  first
   | (rw [decide_eq_true q'] at h5;exact absurd h5 (by decide))
   | (simp at h5;omega)
 cases hwl with
 | cons w1 w2 =>
  cases w2;cases w1 with
  | list ho hall=>exact ⟨_,_,ns,rfl,rfl,ho,ub6 ns _ hall,hlen⟩
theorem uz8 (l:OpenLaw) (args:List WData):l.row.toRowW.claim.post args (.bool true) args=true :=
 postW_of (r:=l.row.toRowW) (X:=(true == true))
  (show WShape.has [] (.bool true) .bool=true by first | rfl | decide | simp [WShape.has,WShape.arms,WShape.armsAll])
  (show (WTm.eq .res (.lit (.bool true))).value [] { args:=args,res:=some (.bool true),after:=args }=some (.bool (true == true)) from w_eq_bool (w_res rfl) w_lit) rfl
theorem attach_call {l:OpenLaw} {n:Nat} {q:Program} {loose:List Str} {XP:(Str->Option Value)->Heap->Prop} {YP:World->Heap->Prop} {d:DefRec}
  (hn:l.most=some n) (hdf:d.params.defaults=[])
  (call:∀ (w:World) (s₀ s₁:Shared) (mg mb:Str->Option Value) (fa:Addr) (o:Obj) (pm cd doc:Value) (a:Addr) (vs:List Value) (ns:List Int),
   Ground q loose [] XP w s₀ mg mb s₁.heap->YP w s₁.heap ->
   s₁.heap.get? fa=some o->o.data=.func (docDef d.name d.params d.body d.scope pm cd doc)->s₁.heap.CodeRec cd d.name->mg d.name=some (.ref fa) ->
   s₁.heap.get? a=some { cls:=.type "list",data:=.seq vs.toArray }->IntsAre vs ns->ns.length<=n->s₁.gens=#[] ->
   codeAny (model l.prog w) callerA (.call (.ref fa) ⟨[.ref a],[]⟩) (fun r s'=>r=.ok (.ret (.bool true)) /\ OldK s₁.heap s'.heap /\ s'.os=s₁.os /\ AllBare s'.gens) s₁) :
  WalkO q loose XP YP l.row.toRowW d [] (fun f vs=>PySem.call f vs):=by
 intro w s₀ s₁ mg mb G Y fa o pm cd doc dV kV ho hd hcd hD hmg hg args vals as hpre hlay hrd hwl hlo;obtain rfl:dV=.none:=Dflts.none hD hdf;obtain rfl:kV=.none:=Dflts.noKw hD;obtain ⟨a,vs,ns,rfl,rfl,hobj,hints,hlen⟩:=uy7 hn hpre hwl;refine enter_call (codeAny_mono (call w s₀ s₁ mg mb fa o pm cd doc a vs ns G Y ho (fd_plain hd) hcd hmg hobj hints hlen hg) fun r s' hq=>?_);obtain ⟨rfl,h2,h3,h4⟩:=hq;exact ⟨.inl ⟨.bool true,.bool true,[],rfl,fun _=>rfl,.bool true,uz8 l _,fun _=>⟨List.Pairwise.nil,fun _ hm=>(nomatch hm)⟩⟩,h2,h3,h4⟩
section
variable {prog:Program} {w:World} {A:Around} {E:Value->Shared->Prop} {s:Shared} {K:Frag}
def noObjs (h:Heap):Heap:={ h with objs:=#[] }
theorem noObjs_get (h:Heap) (b:Addr):(noObjs h).get? b=none:=by
 cases e:(noObjs h).get? b with
 | none=>rfl
 | some o=>exact absurd (Heap.lt_size e) (Nat.not_lt_zero _)
def ledger (h:Heap) (L d:Addr):List (Addr × Obj):=(List.range h.objs.size).filterMap fun a=>if a=L \/ a=d then none else (h.get? a).map fun o=>(a,o)
theorem mem_ledger {h:Heap} {L d a:Addr} {o:Obj}:(a,o) ∈ ledger h L d ↔ a ≠ L /\ a ≠ d /\ h.get? a=some o:=by
 unfold ledger;rw [List.mem_filterMap]
 constructor
 ·rintro ⟨b,_,e⟩
  split at e
  ·cases e
  ·rename_i hb
   obtain ⟨o',ho,e'⟩:=Option.map_eq_some_iff.mp e;cases e';exact ⟨fun q=>hb (.inl q),fun q=>hb (.inr q),ho⟩
 ·rintro ⟨n1,n2,ho⟩
  refine ⟨a,List.mem_range.mpr (Heap.lt_size ho),?_⟩;rw [if_neg (show ¬ (a=L \/ a=d) from fun q=>q.elim n1 n2),ho] <;> rfl
theorem news_ledger {h:Heap} {L d:Addr} {od:Obj} (hne:d ≠ L) (ho:h.get? d=some od):News (noObjs h) L h ([]++(d,od)::ledger h L d):=by
 rintro ⟨a,o⟩ hp
 rcases List.mem_cons.mp hp with e | hp
 ·cases e
  exact ⟨ho,hne,noObjs_get _ _⟩
 ·obtain ⟨n1,n2,e⟩:=mem_ledger.mp hp
  exact ⟨e,n1,noObjs_get _ _⟩
theorem fr_all {h:Heap} {L:Addr} {m:Str->Option Value} (n:h.Ns L m):Fr (noObjs h) L h m :=
 ⟨n,fun b o e=>(by rw [noObjs_get] at e;cases e),Nat.zero_le _⟩
end
end Att
namespace L2
open PySem PySem.Spec PyProof.Rows
theorem u77:∀ {vs:List Value} {ns:List Int},IntsAre vs ns->Vals (ns.map V.int) vs
 | _,_,.nil=>.nil
 | _,_,.cons n t h=>.cons ⟨t,rfl⟩ (u77 h)
abbrev KOf {K:W.Frag} {h:Heap} (_:K.In h):W.Frag:=K
end L2
/- THE LAST THEOREM (shape; LID,My.* are yours):
   My.Adr: a structure of the addresses that your layer names (classes,functions);My.Txt K t: a structure (Prop) of the equations over K;
   My.txt_mk:{K} {implicit addresses ..} (e1:nsIn K mainGlobals "law" = some (some (.ref f))) (e2:K.lookup f=some ⟨oc,od,.func (fnOf "law" "law" params body scope dV kV doc pm an cdv ct),sl⟩) (e3:codeIn K cdv "law" = true) ..:∃ t,My.Txt K t
set_option maxHeartbeats 0 in
theorem PySem.Challenge.cw_LID_holds:PySem.Challenge.rw_LID.Holds:=by
 w_on;o_law;k_head;(case hw=>w_witness2)
 k_fill
 refine L2.walk_of (l:=PySem.Challenge.rw_LID) (n:=63) (k:=40) (x := "script") (CX:=fun w=>..) (sp:=fun _=>My.sp_law) rfl (by decide) rfl ⟨rfl,by decide,by decide⟩ (fun w h Y=>W.kIn_of Y) ?F ?S ?C
 case F =>
  intro w mg fa h KX G hmg;have T:∃ t,My.Txt (L2.KOf KX) t:=by
   dsimp only [L2.KOf]                          -- K must stand as «<heap const> w.params» for k_is;refine' My.txt_mk ?e1 ?e2 ?e3 ..
   (case e1=>W.k_is)                    -- in the order: a name->its address->its object->its parts
   (case e2=>W.k_is)
   ..
  obtain ⟨t,T⟩:=T;have e0:=hmg.symm.trans (W.mg_of KX G T.law);cases e0                                       -- fa is the law's own address;exact ⟨_,fun s u=>.of_eq rfl,fun base kb nb=>My.law_fn T kb nb⟩     -- if «.of_eq rfl» comes too early: refine' ⟨_,?b,fun base kb nb=>My.law_fn T kb nb⟩;exact fun s u=>.of_eq rfl
 case S=>exact fun w H a ns hl hO hS=>..
 case C=>exact ..
(the tactic k_is has no namespace: write k_is) -/
namespace L2
open PySem PySem.Spec PyProof.Rows
def u42 (s:Stmt):Arguments:=match s with
 | .FunctionDef _ a _ _ _ _ _ _ _ _=>a
 | _=>{ posonlyargs:=[],args:=[],vararg:=none,kwonlyargs:=[],kw_defaults:=[],kwarg:=none,defaults:=[] }
def u36 (s:Stmt):List Stmt:=match s with
 | .FunctionDef _ _ b _ _ _ _ _ _ _=>b
 | _=>[]
def u04 (s:Stmt):Scope:=match s with
 | .FunctionDef _ _ _ _ _ _ sc _ _ _=>sc
 | _=>{ kind:=.function,names:=[],isGenerator:=false,isCoroutine:=false }
abbrev CX0:CXT:=fun _ _ _ _ _ _=>False
abbrev E0:XK:=fun _ _ _=>False
theorem pass0 {X:Cx}:Passes CX0 X E0:=fun _ _ _ _ _ _ _ h=>h.elim
theorem ug4 {A:Around} {k:Nat} (hr:Room k A):A.units+1 < cLine:=Nat.lt_of_le_of_lt (Nat.add_le_add_left (by decide:1<=64) _) hr.units
def Same (H H':Hp):Prop:=∀ b o,H b=some o->H' b=some o
theorem Same.refl (H:Hp):Same H H:=fun _ _ h=>h
theorem Same.trans {H H1 H2:Hp} (a:Same H H1) (b:Same H1 H2):Same H H2:=fun c o h=>b c o (a c o h)
theorem Same.free {H H':Hp} (e:Same H H') {l:Addr} (h:H' l=Option.none):H l=Option.none:=by
 cases q:H l with
 | none=>rfl
 | some o =>
  rw [e l o q] at h;cases h
theorem Same.seq {K:W.Frag} {H H':Hp} {a:Addr} {xs:List V} (e:Same H H') (h:SqL K H a xs):SqL K H' a xs:=by
 rcases h with (h | ⟨o,h⟩) | h
 ·exact .inl (.inl (e _ _ h))
 ·exact .inl (.inr ⟨o,e _ _ h⟩)
 ·exact .inr h
section
variable {X:Cx}
theorem v73:CallR X (.builtin "len") (fun xs H Q=>∃ a kvs,xs=[V.ref a] /\ H a=some (.dK kvs) /\ Q (.int kvs.length) H):=by
 intro pins s σ H xs us Q I r h;obtain ⟨a,kvs,rfl,ha,q⟩:=h;obtain ⟨u,rfl,ru⟩:=vals1 r;cases ru;exact wl2 I (.inl ha) fun t s' I'=>⟨.int kvs.length,H,I',⟨t,rfl⟩,q⟩
end
theorem vv3 {prog:Program} {w:World} {A:Around} {R:Result->Shared->Prop} {s:Shared} {elt target iter:Expr} {ifs:List Expr} {scope:Scope} {pos:Pos} {it acc:Value} {env:Env} (I:Nat->Shared->Prop)
  (turn:∀ n s,I n s->wpAny (model prog w) A (pyNext it) (fun r s₁=>match r with
   | none=>R (.ok .next) s₁
   | some v=>wpAny (model prog w) A (letOwnedTupleGo target it v) (fun _ s₁=>wpAny (model prog w) A (assign target env v) (fun _ s₂ =>
     wpAny (model prog w) A (forIn ifs true fun c r=>if r=true then do let ok <- isTrue c env (eval c env);pure (ForInStep.yield ok) else pure (ForInStep.yield r)) (fun ok s₃ =>
      if ok=true then wpAny (model prog w) A (eval elt env) (fun x s₄ =>
       wpAny (model prog w) A (call (.builtin "list.append") [acc,x]) (fun _ s₅=>∃ m,m < n /\ I m s₅) (fun _ _=>False) s₄) (fun _ _=>False) s₃
      else ∃ m,m < n /\ I m s₃) (fun _ _=>False) s₂) (fun _ _=>False) s₁) (fun _ _=>False) s₁) (fun _ _=>False) s)
  (n:Nat) (h:I n s) :
  codeAny (model prog w) A (.compLoop (.ListComp elt [⟨target,iter,ifs,0⟩] scope pos) 0 it acc env) R s:=by
 refine codeAny_loop rfl I (fun n s hI=>?_) n h
 show wpAny _ A ((compTurn (.ListComp elt [⟨target,iter,ifs,0⟩] scope pos) 0 it acc env).onRaise (fun x=>do noteFrame x env;theTreesLotGoes x)) _ _ s
 refine wpAny_noted ?_;rw [compTurn_list];refine wpAny_bind (wpAny_standAt (wpAny_bind (wpAny_mono (turn n s hI) (fun r s₁ h₁=>?_) fun _ _ h'=>h'.elim)));cases r with
 | none=>exact wpAny_pure h₁
 | some v =>
  refine wpAny_bind (wpAny_mono h₁ (fun _ s₂ h₂=>?_) fun _ _ h'=>h'.elim);refine wpAny_bind (wpAny_mono h₂ (fun _ s₂ h₂=>wpAny_bind (wpAny_mono h₂ (fun ok s₃ h₃=>?_) fun _ _ h'=>h'.elim)) fun _ _ h'=>h'.elim);cases ok with
  | false=>exact wpAny_pure ⟨rfl,h₃⟩
  | true =>
   exact wpAny_bind (wpAny_bind (wpAny_mono h₃ (fun x s₄ h₄=>wpAny_bind (wpAny_mono h₄ (fun _ s₅ h₅=>wpAny_pure (wpAny_pure ⟨rfl,h₅⟩)) fun _ _ h'=>h'.elim)) fun _ _ h'=>h'.elim))
def clOf (env:Env):List (Str × NameKind)->List (Str × Addr)->List (Str × Addr)
 | [],cs=>cs
 | (x,k)::r,cs=>clOf env r (if (k == .free)=true then (x,(env.cells.lookup x).getD 0)::cs else cs)
theorem up6 {env:Env} {x:Str} {c:Addr} (h:env.cells.lookup x=some c):cellOf env x=pure c:=by
 unfold cellOf;rw [h]
theorem ud5 {scope:Scope} {env:Env} (h:∀ y ∈ scope.names,y.2=.free->∃ c,env.cells.lookup y.1=some c):closureFor scope env=pure (clOf env scope.names []):=by
 have key:∀ (l:List (Str × NameKind)) (cs:List (Str × Addr)),(∀ y ∈ l,y.2=.free->∃ c,env.cells.lookup y.1=some c) ->
   (forIn l cs fun (y:Str × NameKind) r=>if (y.2 == NameKind.free)=true then do let c <- cellOf env y.1;pure (ForInStep.yield ((y.1,c)::r)) else pure (ForInStep.yield r):Sem (List (Str × Addr)))=pure (clOf env l cs):=by
  intro l
  induction l with
  | nil=>intro cs _;rfl
  | cons y r ih =>
   intro cs hl;obtain ⟨x,k⟩:=y;rw [List.forIn_cons]
   by_cases hk:k=.free
   ·subst hk
    obtain ⟨c,hc⟩:=hl (x,.free) List.mem_cons_self rfl;have e:((NameKind.free == NameKind.free):Bool)=true:=rfl;simp only [e,if_true,up6 hc,pure_bind];rw [ih _ fun z hz=>hl z (List.mem_cons_of_mem _ hz)]
    show _=pure (clOf env r (if (NameKind.free == NameKind.free)=true then _ else _))
    rw [e,if_pos rfl,hc] <;> rfl
   ·have e:(k == NameKind.free)=false:=by simpa using hk
    simp only [e,Bool.false_eq_true,if_false,pure_bind];rw [ih _ fun z hz=>hl z (List.mem_cons_of_mem _ hz)]
    show _=pure (clOf env r (if (k == NameKind.free)=true then _ else _))
    rw [e,if_neg Bool.false_ne_true]
 have e:closureFor scope env=((forIn scope.names ([]:List (Str × Addr)) fun (y:Str × NameKind) r=>if (y.2 == NameKind.free)=true then do let c <- cellOf env y.1;pure (ForInStep.yield ((y.1,c)::r)) else pure (ForInStep.yield r):Sem (List (Str × Addr))) >>= fun cs=>pure cs):=rfl;rw [e,key scope.names [] h];rfl
theorem uc3 {env:Env} {x:Str} {c:Addr}:∀ {l:List (Str × NameKind)} {cs:List (Str × Addr)},(∀ y ∈ l,y.2=.free->∃ c,env.cells.lookup y.1=some c)->(∀ x c,cs.lookup x=some c->env.cells.lookup x=some c) ->
  (clOf env l cs).lookup x=some c->env.cells.lookup x=some c
 | [],_,_,h,e=>h x c e
 | (y,k)::r,cs,hl,h,e=>by
  refine uc3 (l:=r) (fun z hz=>hl z (List.mem_cons_of_mem _ hz)) (fun x c e=>?_) e
  by_cases hk:k=.free
  ·subst hk
   obtain ⟨d,hd⟩:=hl (y,.free) List.mem_cons_self rfl;rw [if_pos (show (NameKind.free == NameKind.free)=true from rfl),List.lookup_cons] at e;cases hx:x == y with
   | true=>rw [hx,hd] at e;cases e;rw [eq_of_beq hx];exact hd
   | false=>rw [hx] at e;exact h x c e
  ·rw [if_neg (by simpa using hk)] at e;exact h x c e
theorem uh7 {env:Env} {x:Str}:∀ {l:List (Str × NameKind)} {cs:List (Str × Addr)},((∃ c,cs.lookup x=some c) \/ (x,NameKind.free) ∈ l)->∃ c,(clOf env l cs).lookup x=some c
 | [],_,h=>by
  rcases h with h | h
  ·exact h
  ·simp at h
 | (y,k)::r,cs,h=>by
  refine uh7 (l:=r) ?_
  rcases h with ⟨c,h⟩ | h
  ·left
   by_cases hk:(k == NameKind.free)=true
   ·rw [if_pos hk,List.lookup_cons]
    cases hx:x == y with
    | true=>exact ⟨_,rfl⟩
    | false=>exact ⟨c,h⟩
   ·rw [if_neg hk];exact ⟨c,h⟩
  ·rcases List.mem_cons.mp h with e | h
   ·injection e with e1 e2
    subst e1;subst e2
    left
    rw [if_pos (show (NameKind.free == NameKind.free)=true from rfl),List.lookup_cons];simp
   ·exact .inr h
def u44 (X:Cx) (N':List Str) (scope:Scope) (C:Addr) (s:Shared) (H:Hp) (fp:List Addr):Cx :=
 { X with N:=N',s₀:=s,H₀:=H,env:=compEnvC scope (clOf X.env scope.names []) C X.env,outer:=X.stack,ex:=fp,fn:=fun _=>false,pn:=[],xe:=fun _ _=>False }
structure BlkOk (X:Cx) (N':List Str) (ix:List (Option Nat)) (scope:Scope):Prop where
 kind:scope.kind=.function
 nocell:∀ y ∈ scope.names,y.2 ≠ .cell
 names:∀ y ∈ scope.names,y.2=.local->scope.names.lookup y.1=some .local
 frees:∀ y ∈ scope.names,y.2=.free->X.env.kindOf y.1=some .cell \/ X.env.kindOf y.1=some .free
 len:ix.length=N'.length
 at_:∀ (i j:Nat) (x:Str),N'[i]?=some x->ix[i]?=some (some j)->X.N[j]?=some x /\ scope.names.lookup x=some .free
def inner (ix:List (Option Nat)) (σ:St):St:=ix.map fun o=>o.bind fun j=>(σ[j]?).bind id
def vn8 (ix:List (Option Nat)) (wi:TI) (g:TG) (tc:TT) (te:TE):TE:=fun σ H Q=>wi σ H fun J H1=>∀ D,H1 D=none->∃ W:Nat->Nat->St->Hp->Prop,(∃ m,W 0 m (inner ix σ) (upd H1 D (.lst []))) /\ ∀ i m σi H,W i m σi H ->
 (J.stop i H /\ Q (.ref D) H) \/ (J.go i H /\ ∃ N:St->Hp->Prop,(∀ σ' H',N σ' H'->∃ m',m' < m /\ W (i+1) m' σ' H') /\ ∀ x H',J.yld i H x H'->g x σi H' fun σ2 H2=>tc σ2 H2 fun b H3 =>
  if b=true then te σ2 H3 fun v H4=>∃ ys,H4 D=some (.lst ys) /\ ys.length < sizeLine /\ N σ2 (upd H4 D (.lst (ys++[v]))) else N σ2 H3)
theorem u49 {env:Env} {x:Str}:∀ {names:List (Str × NameKind)},names.lookup x=some .free->(env.kindOf x=some .cell \/ env.kindOf x=some .free) ->
  (names.map fun (n,k)=>if (k == NameKind.free && env.scope.kind == .function && env.kindOf n == some .cell) then (n,NameKind.cell) else (n,k)).lookup x=some .cell \/
  (names.map fun (n,k)=>if (k == NameKind.free && env.scope.kind == .function && env.kindOf n == some .cell) then (n,NameKind.cell) else (n,k)).lookup x=some .free
 | [],h,_=>by simp at h
 | (n,k)::r,h,ho=>by
  cases hx:x == n with
  | true =>
   simp only [List.lookup_cons,hx] at h;cases h
   by_cases hc:(NameKind.free == NameKind.free && env.scope.kind == .function && env.kindOf n == some .cell)=true
   ·left
    show List.lookup x ((if (NameKind.free == NameKind.free && env.scope.kind == .function && env.kindOf n == some .cell)=true then (n,NameKind.cell) else (n,.free))::_)=_
    rw [if_pos hc];simp only [List.lookup_cons,hx]
   ·right
    show List.lookup x ((if (NameKind.free == NameKind.free && env.scope.kind == .function && env.kindOf n == some .cell)=true then (n,NameKind.cell) else (n,.free))::_)=_
    rw [if_neg hc];simp only [List.lookup_cons,hx]
  | false =>
   simp only [List.lookup_cons,hx] at h;have ih:=u49 (env:=env) h ho
   show List.lookup x ((if (k == NameKind.free && env.scope.kind == .function && env.kindOf n == some .cell)=true then (n,NameKind.cell) else (n,k))::_)=_ \/
    List.lookup x ((if (k == NameKind.free && env.scope.kind == .function && env.kindOf n == some .cell)=true then (n,NameKind.cell) else (n,k))::_)=_
   by_cases hc:(k == NameKind.free && env.scope.kind == .function && env.kindOf n == some .cell)=true
   ·rw [if_pos hc];simp only [List.lookup_cons,hx];exact ih
   ·rw [if_neg hc];simp only [List.lookup_cons,hx];exact ih
theorem u50 {env:Env} {x:Str}:∀ {names:List (Str × NameKind)},(∀ y ∈ names,y.2 ≠ .cell) ->
  ((names.map fun (n,k)=>if (k == NameKind.free && env.scope.kind == .function && env.kindOf n == some .cell) then (n,NameKind.cell) else (n,k)).lookup x=some .cell \/
  (names.map fun (n,k)=>if (k == NameKind.free && env.scope.kind == .function && env.kindOf n == some .cell) then (n,NameKind.cell) else (n,k)).lookup x=some .free)->(x,NameKind.free) ∈ names
 | [],_,h=>by simp at h
 | (n,k)::r,hn,h=>by
  have h:List.lookup x ((if (k == NameKind.free && env.scope.kind == .function && env.kindOf n == some .cell)=true then (n,NameKind.cell) else (n,k))::(r.map fun (n,k)=>if (k == NameKind.free && env.scope.kind == .function && env.kindOf n == some .cell) then (n,NameKind.cell) else (n,k)))=some .cell \/
   List.lookup x ((if (k == NameKind.free && env.scope.kind == .function && env.kindOf n == some .cell)=true then (n,NameKind.cell) else (n,k))::(r.map fun (n,k)=>if (k == NameKind.free && env.scope.kind == .function && env.kindOf n == some .cell) then (n,NameKind.cell) else (n,k)))=some .free:=h
  cases hx:x == n with
  | true =>
   have e:x=n:=eq_of_beq hx;subst e
   by_cases hc:(k == NameKind.free && env.scope.kind == .function && env.kindOf x == some .cell)=true
   ·have hk:k=.free:=by
     simp only [Bool.and_eq_true,beq_iff_eq] at hc;exact hc.1.1
    subst hk;exact List.mem_cons_self
   ·rw [if_neg hc] at h
    simp only [List.lookup_cons,hx,Option.some.injEq] at h
    rcases h with h | h
    ·exact absurd h (hn (x,k) List.mem_cons_self)
    ·subst h;exact List.mem_cons_self
  | false =>
   refine List.mem_cons_of_mem _ (u50 (env:=env) (fun y hy=>hn y (List.mem_cons_of_mem _ hy)) ?_)
   by_cases hc:(k == NameKind.free && env.scope.kind == .function && env.kindOf n == some .cell)=true
   ·rw [if_pos hc] at h;simp only [List.lookup_cons,hx] at h;exact h
   ·rw [if_neg hc] at h;simp only [List.lookup_cons,hx] at h;exact h
def PIfs (X:Cx) (ifs:List Expr) (t:TT):Prop :=
 ∀ (pins:List (Addr × Obj)) (s:Shared) (σ:St) (H:Hp) (Q:Bool->Hp->Prop),Inv X pins σ H s->t σ H Q ->
  wpAny (model X.prog X.w) X.A (forIn ifs true fun c r=>if r=true then do let ok <- isTrue c X.env (eval c X.env);pure (ForInStep.yield ok) else pure (ForInStep.yield r)) (TP X pins σ Q) X.xe s
def tYes:TT:=fun _ H Q=>Q true H
section
variable {X:Cx} {pins:List (Addr × Obj)} {σ:St} {H:Hp} {s:Shared}
theorem v97:PIfs X [] tYes:=fun _ _ _ H _ I h=>wpAny_tests_nil ⟨H,I,h⟩
theorem v96 {c:Expr} {t:TT} (h:PT X c t):PIfs X [c] t:=fun pins s σ H Q I hw=>wpAny_tests_one (h pins s σ H Q I hw)
theorem Inv.blk {N':List Str} {ix:List (Option Nat)} {scope:Scope} {fp:List Addr} {h1:Heap} {tk:Nat} (I:Inv X pins σ H s) (B:BlkOk X N' ix scope) (f:∀ b ∈ fp,FpOk X pins H b) (hlt:∀ b ∈ fp,b < s.heap.objs.size)
  (ns:h1.Ns s.heap.objs.size (fun _=>none)) (old:∀ b o,s.heap.get? b=some o->h1.get? b=some o) :
  Inv (u44 X N' scope s.heap.objs.size s H fp) [] (inner ix σ) H { s with heap:=h1,toks:=tk }:=by
 have hfree:∀ y ∈ scope.names,y.2=.free->∃ c,X.env.cells.lookup y.1=some c:=fun y hy e=>I.ok.has y.1 (B.frees y hy e)
 have hc:∀ x c,(clOf X.env scope.names []).lookup x=some c->X.env.cells.lookup x=some c:=fun x c e=>uc3 hfree (fun _ _ z=>by cases z) e
 have stk:∀ b ∈ fp,b ∉ frs X.stack:=fun b hb z=>by
  rcases List.mem_cons.mp (I.stkSub b z) with e | e
  ·exact (f b hb).2.1 e
  ·exact (f b hb).2.2.1 e
 refine ⟨⟨I.ok.mod,B.kind,I.ok.glob,I.ok.blt,Nat.le_refl _,fun x y c h1 h2=>I.ok.inj x y c (hc x c h1) (hc y c h2),fun x hx=>?_,fun x c h=>(by cases h),I.ok.hd,I.ok.frames,.inl rfl,fun b hb=>⟨Nat.ne_of_lt (hlt b hb),fun x c e=>(f b hb).2.2.2.2.1 x c (hc x c e)⟩,
   I.bs,Nat.le_trans I.ok.bsz I.sz,fun b o e hb=>?_,stk,I.stack,I.stkFree⟩,rfl,I.bare,Un.kept old,⟨_,ns,fun i x v h1 h2 h3=>?_⟩,fun x c e=>?_,I.hok.fresh (Nat.le_refl _),fun x c e=>I.freeC x c (hc x c e),fun p hp=>absurd (show p ∈ ([]:List (Addr × Obj)) from hp) (by simp),I.hok.kept old,?_⟩
 ·exact uh7 (.inr (u50 B.nocell hx))
 ·rcases (f b hb).2.2.2.1 with z | z
  ·exact I.ok.noex b o e z
  ·exact absurd (Nat.lt_of_lt_of_le (Heap.lt_size e) (Nat.le_trans I.ok.bsz z)) (Nat.lt_irrefl _)
 ·have h2:(ix.map fun o=>o.bind fun j=>(σ[j]?).bind id)[i]?=some (some v):=h2
  rw [List.getElem?_map] at h2;cases ho:ix[i]? with
  | none=>rw [ho] at h2;cases h2
  | some o =>
   rw [ho] at h2;cases o with
   | none=>cases h2
   | some j =>
    have h2:(σ[j]?).bind id=some v:=Option.some.inj h2;have h2:σ[j]?=some (some v):=by
     cases hs:σ[j]? with
     | none=>rw [hs] at h2;cases h2
     | some w=>rw [hs] at h2;cases h2;rfl
    obtain ⟨hN,hf⟩:=B.at_ i j x h1 ho
    have hk:=B.frees (x,.free) (PySem.mem_of_lookup hf) rfl;obtain ⟨m,hn,hl⟩:=I.loc;obtain ⟨u,r,lk⟩:=hl j x v hN h2 (hk.elim (fun z=>.inr (.inl z)) fun z=>.inr (.inr z));refine ⟨u,r,.inr ?_⟩
    rcases lk with ⟨z,_⟩ | ⟨_,c,e,z⟩
    ·rcases hk with hk | hk
     ·exact absurd (hk.symm.trans z) (by decide)
     ·exact absurd (hk.symm.trans z) (by decide)
    ·obtain ⟨c',e'⟩:=uh7 (env:=X.env) (cs:=[]) (.inr (PySem.mem_of_lookup hf))
     have ec:c'=c:=Option.some.inj ((hc x c' e').symm.trans e);subst ec;refine ⟨u49 hf hk,c',e',?_⟩;obtain ⟨o,ho,hd⟩:=z;exact ⟨o,old _ _ ho,hd⟩
 ·obtain ⟨v,o,ho,hd⟩:=I.cell x c (hc x c e)
  exact ⟨v,o,old _ _ ho,hd⟩
 ·show (inner ix σ).length=N'.length
  unfold inner;rw [List.length_map];exact B.len
theorem v76 {elt tg iter:Expr} {ifs:List Expr} {scope:Scope} {pos:Pos} {N':List Str} {ix:List (Option Nat)} {g:TG} {tc:TT} {te:TE} {J:It} {fp:List Addr} {it:Addr} {tn:Nat->Heap->Prop} (B:BlkOk X N' ix scope)
  (hg:∀ C s H fp,PG (u44 X N' scope C s H fp) tg g) (hi:∀ C s H fp,PIfs (u44 X N' scope C s H fp) ifs tc) (he:∀ C s H fp,PE (u44 X N' scope C s H fp) elt te) (hc:X.calm=true)
  (I:Inv X pins σ H s) (T:Turn X.prog X.w X.K tg J fp it tn) (st:tn 0 s.heap) (f:∀ b ∈ fp,FpOk X pins H b) {Q:VK} {E:Value->Shared->Prop}
  (w:∃ W:Nat->Nat->St->Hp->Prop,(∃ m,W 0 m (inner ix σ) (upd H s.heap.objs.size (.lst []))) /\ ∀ i m σi H,W i m σi H ->
   (J.stop i H /\ Q (.ref s.heap.objs.size) H) \/ (J.go i H /\ ∃ N:St->Hp->Prop,(∀ σ' H',N σ' H'->∃ m',m' < m /\ W (i+1) m' σ' H') /\ ∀ x H',J.yld i H x H'->g x σi H' fun σ2 H2=>tc σ2 H2 fun b H3 =>
    if b=true then te σ2 H3 fun v H4=>∃ ys,H4 s.heap.objs.size=some (.lst ys) /\ ys.length < sizeLine /\ N σ2 (upd H4 s.heap.objs.size (.lst (ys++[v]))) else N σ2 H3))
  {RR:Value->Addr->Result->Shared->Prop} (hRR:∀ C H' s' m,Inv X pins σ H' s'->FpOk X pins H' C->s'.heap.Ns C m->Q (.ref s.heap.objs.size) H'->RR (.ref s.heap.objs.size) C (.ok .next) s') :
  wpAny (model X.prog X.w) X.A (newList []) (fun acc s₃=>wpAny (model X.prog X.w) X.A (newFunctionEnv scope X.env.globals (clOf X.env scope.names []) [] X.env.qual none .none (some X.env)) (fun cenv s₄ =>
   codeAny (model X.prog X.w) X.A (.compStart (.ListComp elt [⟨tg,iter,ifs,0⟩] scope pos) 0 (.ref it) acc { cenv with scope:=relabel scope X.env }) (RR acc cenv.locals) s₄) E s₃) E s:=by
 obtain ⟨W,⟨m0,w0⟩,turn⟩:=w;have flt:∀ b ∈ fp,b < s.heap.objs.size:=fun b hb=>by
  obtain ⟨o,ho,_⟩:=T.obj 0 _ st b hb;exact Heap.lt_size ho
 have I3:Inv X pins σ (upd H s.heap.objs.size (.lst [])) { s with heap:=s.heap.push { cls:=.type "list",data:=.seq ([]:List Value).toArray },toks:=s.toks }:=I.lnew .nil (Nat.zero_le _)
 have hfr:∀ b ∈ fp,(upd H s.heap.objs.size (.lst [])) b=none:=fun b hb=>by rw [u10 (Nat.ne_of_lt (flt b hb))];exact (f b hb).1
 have f3:∀ b ∈ fp,FpOk X pins (upd H s.heap.objs.size (.lst [])) b:=fun b hb=>⟨hfr b hb,(f b hb).2⟩
 refine wpAny_newObj_type (wpAny_newFunctionEnv B.nocell (by intro y hy;simp at hy) (fun h₁ hns₁ hsb₁=>?_) B.kind);dsimp only at hns₁ hsb₁ ⊢;generalize hH3:s.heap.push { cls:=.type "list",data:=.seq ([]:List Value).toArray }=h3 at hns₁ hsb₁ I3 ⊢;obtain ⟨s3,e3⟩:∃ s3:Shared,s3={ s with heap:=h3 }:=⟨_,rfl⟩
 obtain rfl:h3=s3.heap:=by rw [e3]
 have I3:Inv X pins σ (upd H s.heap.objs.size (.lst [])) s3:=by
  have e:s3={ s with heap:=s3.heap,toks:=s.toks }:=e3
  rw [e];exact I3
 have eT:s3.toks=s.toks:=by rw [e3]
 have eS:({ s with heap:=h₁,toks:=s.toks+([]:List (Str × Value)).length }:Shared)={ s3 with heap:=h₁,toks:=s3.toks+([]:List (Str × Value)).length }:=by rw [e3]
 rw [eS];have hz3:s3.heap.objs.size=s.heap.objs.size+1:=by rw [<- hH3];exact Heap.size_push _ _
 have old:∀ b o,s3.heap.get? b=some o->h₁.get? b=some o:=fun b o e=>hsb₁.extBut b o (Nat.ne_of_lt (Heap.lt_size e)) (Heap.get?_push_of_some _ e)
 have st3:tn 0 s3.heap:=T.keep _ _ _ st fun b hb o e=>by rw [<- hH3];exact Heap.get?_push_of_some _ e
 have st4:tn 0 h₁:=T.keep _ _ _ st3 fun b _ o e=>old b o e
 have I4:=I3.blk (tk:=s3.toks+([]:List (Str × Value)).length) B f3 (fun b hb=>Nat.lt_of_lt_of_le (flt b hb) (by rw [hz3];exact Nat.le_succ _)) (show h₁.Ns s3.heap.objs.size (fun _=>none) from hns₁) old;generalize hX':u44 X N' scope s3.heap.objs.size s3 (upd H s.heap.objs.size (.lst [])) fp=X' at I4;have eX:X'.prog=X.prog /\ X'.w=X.w /\ X'.K=X.K /\ X'.A=X.A /\ X'.calm=X.calm /\ X'.env=compEnvC scope (clOf X.env scope.names []) s3.heap.objs.size X.env /\ X'.ex=fp /\ X'.outer=X.stack /\ X'.s₀=s3 /\ X'.H₀=upd H s.heap.objs.size (.lst []) /\ X'.pn=[] /\ X'.xe=(fun _ _=>False):=by
  rw [<- hX'];exact ⟨rfl,rfl,rfl,rfl,rfl,rfl,rfl,rfl,rfl,rfl,rfl,rfl⟩
 have hg':PG X' tg g:=hX' ▸ hg _ _ _ _;have hi':PIfs X' ifs tc:=hX' ▸ hi _ _ _ _;have he':PE X' elt te:=hX' ▸ he _ _ _ _;obtain ⟨e1,e2,e3,e4,e5,e6,e7,e8,e9,e10,e11,e12⟩:=eX;have stat:∀ {H':Hp},(∀ b ∈ fp,H' b=none)->∀ b ∈ fp,FpOk X' [] H' b:=fun {H'} hn b hb=>by
  have q:=I4.ok.exf b (by rw [e7];exact hb);refine ⟨hn b hb,q.1,?_,.inl (by rw [e7];exact hb),q.2,fun p hp=>?_⟩
  ·exact I4.ok.exfs b (by rw [e7];exact hb)
  ·rw [e11] at hp;simp at hp
 have loop:codeAny (model X.prog X.w) X.A (.compLoop (.ListComp elt [⟨tg,iter,ifs,0⟩] scope pos) 0 (.ref it) (.ref s.heap.objs.size) (compEnvC scope (clOf X.env scope.names []) s3.heap.objs.size X.env))
   (RR (.ref s.heap.objs.size) s3.heap.objs.size) { s3 with heap:=h₁,toks:=s3.toks+([]:List (Str × Value)).length }:=by
  refine vv3 (fun n s'=>∃ i σi Hi,Inv X' [] σi Hi s' /\ tn i s'.heap /\ (∀ b ∈ fp,Hi b=none) /\ W i n σi Hi) ?_ m0 ⟨0,_,_,I4,st4,hfr,w0⟩;rintro n s5 ⟨i,σ5,H5,I5,st5,fr5,w5⟩
  rcases turn i n σ5 H5 w5 with ⟨stop,qn⟩ | ⟨go,N,hN,step⟩
  ·have d:=T.done X' e1 e2 e3 (by rw [e5];exact hc) i [] s5 σ5 H5 (fun _ _=>False) I5 (stat fr5) st5 stop
   rw [e4] at d
   (refine thn d ?_;rintro r s6 ⟨hr,I6⟩)
   subst hr;have u:=I6.base;rw [e7,e9,e10] at u;have u:Un (frs X'.outer) fp (upd H s.heap.objs.size (.lst [])) H5 s3.heap s6.heap:=u;rw [e8] at u;have ok6:=I6.hok;rw [e1,e2] at ok6;have I7:Inv X pins σ H5 s6:=I3.call' (ch:=fp) (by have:=I6.os;rw [e9] at this;exact this) u ok6 I6.bare fun b hb=>⟨(f b hb).2.2.2.1,(f b hb).2.1,(f b hb).2.2.2.2.1,(f b hb).2.2.2.2.2⟩
   have hfree:=I6.free;obtain ⟨m,hm,_⟩:=I6.loc;rw [e6] at hfree hm;exact hRR _ H5 s6 m I7 (I3.fpOk (Nat.le_refl _) hfree) hm qn
  ·have d:=T.item X' e1 e2 e3 (by rw [e5];exact hc) i [] s5 σ5 H5 (fun _ _=>False) I5 (stat fr5) st5 go
   rw [e4] at d
   (refine thn d ?_;rintro r s6 ⟨u,hr,h6⟩)
   subst hr
   (refine thn h6 ?_;rintro _ s7 ⟨x,H7,I7,r7,y7,st7,fr7⟩)
   have I7':=I7.pinned (stat fr7) (T.obj _ _ st7);have a:=hg' _ s7 σ5 H7 x u _ I7' r7 (step x H7 y7);rw [e1,e2,e4,e6,e12] at a
   (refine thn a ?_;rintro _ s8 ⟨σ8,H8,I8,q8⟩)
   have t:=hi' _ s8 σ8 H8 _ I8 q8;rw [e1,e2,e4,e6,e12] at t;have again:∀ {σ9:St} {H9:Hp} {s9:Shared},Inv X' ([]++uj4 fp s7.heap) σ9 H9 s9->N σ9 H9->∃ m,m < n /\ ∃ i σi Hi,Inv X' [] σi Hi s9 /\ tn i s9.heap /\ (∀ b ∈ fp,Hi b=none) /\ W i m σi Hi:=fun {σ9 H9 s9} I9 n9=>by
    obtain ⟨m',hm,w9⟩:=hN σ9 H9 n9;refine ⟨m',hm,i+1,σ9,H9,I9.unpinned,T.keep _ _ _ st7 fun b hb o e=>(I9.pin (b,o) (List.mem_append_right _ (List.mem_append_right _ (u66 hb e)))).1,fun b hb=>?_,w9⟩;obtain ⟨o,e,d⟩:=T.obj _ _ st7 b hb;exact (I9.pin (b,o) (List.mem_append_right _ (List.mem_append_right _ (u66 hb e)))).2.1
   (refine thn t ?_;rintro ok s9 ⟨H9,I9,q9⟩)
   cases ok with
   | false =>
    rw [if_neg Bool.false_ne_true] at q9 ⊢;exact again I9 q9
   | true =>
    rw [if_pos rfl] at q9 ⊢;have v:=he' _ s9 σ8 H9 _ I9 q9;rw [e1,e2,e4,e6,e12] at v
    (refine thn v ?_;rintro y s10 ⟨z,H10,I10,r10,ys,hD,hz,q10⟩)
    have ap:=uj7 _ s10 σ8 H10 (.ref s.heap.objs.size) [z] (.ref s.heap.objs.size) [y] (fun _ H'=>N σ8 H') I10 rfl (.cons r10 .nil) ⟨_,ys,z,rfl,rfl,hD,hz,q10⟩;rw [e1,e2,e4,e12] at ap
    (refine thn ap ?_;rintro _ s11 ⟨_,H11,I11,_,q11⟩;exact again I11 q11)
 exact codeAny_compStart_list loop (T.self _ _ _ _ _ st4 loop)
variable {elt tg iter:Expr} {ifs:List Expr} {scope:Scope} {pos:Pos} {N':List Str} {ix:List (Option Nat)} {wi:TI} {g:TG} {tc:TT} {te:TE}
theorem vs3 (B:BlkOk X N' ix scope) (hc:X.calm=true) (hw:PI X tg iter wi)
  (hg:∀ C s H fp,PG (u44 X N' scope C s H fp) tg g) (hi:∀ C s H fp,PIfs (u44 X N' scope C s H fp) ifs tc) (he:∀ C s H fp,PE (u44 X N' scope C s H fp) elt te)
  (hs:∀ x,foldedSetIterable iter X.env x=pure x:=by intro _;rfl) :
  PE X (.ListComp elt [⟨tg,iter,ifs,0⟩] scope pos) (vn8 ix wi g tc te):=by
 intro pins s σ H Q I h;rw [eval_ListComp];refine wpAny_comprehension_free (use:=none) rfl hs (ud5 fun y hy e=>I.ok.has y.1 (B.frees y hy e)) B.kind B.names ?_;refine thn (hw pins s σ H _ I h) fun v s1 h1=>thn h1 fun itv s2 h2=>?_
 obtain ⟨it,fp,tn,J,H2,e,I2,T,st2,f2,q2⟩:=h2;subst e;refine v76 B hg hi he hc I2 T st2 f2 (Q:=Q) (q2 _ I2.fresh) fun C H' s' m I' fC hm q=>?_
 refine ⟨m,hm,fun h' sb=>⟨.ref s2.heap.objs.size,H',?_,rfl,q⟩⟩;exact I'.turned (t':=s'.toks) (it:=C) (fun b o hb e=>sb.extBut b o hb e) fC.1 fC.2.1 fC.2.2.2.1 fC.2.2.2.2.1 fC.2.2.2.2.2
def wi7 (i:Nat) (t:TE):TS:=fun D σ H=>t σ H fun x H1=>D.nx (σ.set i (some x)) H1
theorem vr2 {i:Nat} {y:Str} {py spos:Pos} (B:BlkOk X N' ix scope) (hc:X.calm=true) (hN:X.N.Nodup) (hy:X.N[i]?=some y) (hl:Loc X.env.scope y) (hw:PI X tg iter wi)
  (hg:∀ C s H fp,PG (u44 X N' scope C s H fp) tg g) (hi:∀ C s H fp,PIfs (u44 X N' scope C s H fp) ifs tc) (he:∀ C s H fp,PE (u44 X N' scope C s H fp) elt te)
  (hsw:swapsWith (.ListComp elt [⟨tg,iter,ifs,0⟩] scope pos) (some (.Name y py)) spos.line X.env=pure true:=by rfl)
  (hf:X.fn y=true \/ X.env.scope.names.lookup y=some .local:=by first | exact .inl rfl | exact .inr rfl | assumption)
  (hs:∀ x,foldedSetIterable iter X.env x=pure x:=by intro _;rfl) :
  PS X (.Assign [.Name y py] (.ListComp elt [⟨tg,iter,ifs,0⟩] scope pos) spos) (wi7 i (vn8 ix wi g tc te)):=by
 intro pins s σ H D I h;rw [exec_Assign_Name_used _ _ _ _ hsw];refine wpAny_bind (wpAny_standAt (wpAny_bind ?_))
 show wpAny _ X.A (do let _ <- comprehension (.ListComp elt [⟨tg,iter,ifs,0⟩] scope pos) scope X.env _ (newList []) false (eval iter X.env) (some (assign (.Name y py) X.env))) _ _ s
 refine wpAny_bind (wpAny_mono (wpAny_comprehension_free (use:=some (assign (.Name y py) X.env)) (Q:=fun _ s'=>SP X pins D .next s') rfl hs (ud5 fun y hy e=>I.ok.has y.1 (B.frees y hy e)) B.kind B.names
  (thn (hw pins s σ H _ I h) fun v s1 h1=>thn h1 fun itv s2 h2=>?_)) (fun _ s' hq=>wpAny_pure (wpAny_pure hq)) fun _ _ e=>e)
 obtain ⟨it,fp,tn,J,H2,e,I2,T,st2,f2,q2⟩:=h2;subst e;refine v76 B hg hi he hc I2 T st2 f2 (Q:=fun x H1=>D.nx (σ.set i (some x)) H1) (q2 _ I2.fresh) fun C H' s' m I' fC hm q=>?_
 show wpAny _ _ (assign (.Name y py) X.env (.ref s2.heap.objs.size)) _ _ _
 (refine wpAny_assign_Name (ui8 I' hN hy hl (v:=.ref s2.heap.objs.size) rfl (?_) hf);rintro s'' I'' ⟨a,hsame,ha⟩)
 have hCa:C ≠ a:=by
  rcases ha with z | z
  ·rw [z];exact fC.2.1
  ·intro e;exact fC.2.2.2.2.1 _ _ z e.symm
 refine ⟨m,hm.sameBut hsame hCa,fun h' sb=>⟨_,H',?_,q⟩⟩;exact I''.turned (t':=s''.toks) (it:=C) (fun b o hb e=>sb.extBut b o hb e) fC.1 fC.2.1 fC.2.2.2.1 fC.2.2.2.2.1 fC.2.2.2.2.2
end
section
variable {X:Cx} {pos:Pos}
def gLst (K:W.Frag) (n:Nat) (t:TGs):TG:=fun v σ H Q=>∃ a xs,v=.ref a /\ SqL K H a xs /\ xs.length=n /\ t xs σ H Q
theorem vr7 {es:List Expr} {k:Nat} {t:TGs} {n:Nat} (hc:X.calm=true) (h:PGs X es t)
  (hn:(assignEach es X.env).length=n:=by rfl) (hst:(assignEach es X.env).findIdx? (·.1)=none:=by rfl):PG X (.Tuple es k pos) (gLst X.K n t):=by
 intro pins s σ H v u Q I r hw;obtain ⟨a,xs,e1,hq,hl,hw⟩:=hw;subst e1;cases r;obtain ⟨its,rv,ht,hz⟩:=I.list hq;rw [PyProof.Rows.assign_Tuple];refine wpAny_bind (wpAny_standAt ?_);unfold unpack;have hsz:(assignEach es X.env).length=its.toArray.size:=by simp [hn,<- hl,rv.length]
 rw [hsz,hst];refine wpAny_bind (wpAny_holding (W.kun_itemsOf (I.ok.hd hc) ht.isList fun h' hx=>?_));have I1:Inv X pins σ H { s with heap:=h' }:=I.kept (t':=s.toks) fun b o e=>hx b o (Nat.ne_of_lt (Heap.lt_size e)) e
 exact h pins _ σ H xs _ Q I1 (by simpa using rv) hw
theorem wj6 {tg:Expr} {t t':TG} (h:PG X tg t) (h':PG X tg t'):PG X tg (fun v σ H Q=>t v σ H Q \/ t' v σ H Q):=by
 intro pins s σ H v u Q I r q
 rcases q with q | q
 ·exact h pins s σ H v u Q I r q
 ·exact h' pins s σ H v u Q I r q
def iSeq (K:W.Frag) (tl:TE):TI:=fun σ H R=>tl σ H fun x H1=>∃ a,x=.ref a /\ (((∃ xs,SqL K H1 a xs) /\ R (Itl K a) H1) \/ ((∃ xs,SqT K H1 a xs) /\ R (Itt K a) H1))
theorem w52 {tg l:Expr} {tl:TE} (hl:PE X l tl):PI X tg l (iSeq X.K tl):=by
 intro pins s σ H R I h
 (refine thn (hl pins s σ H _ I h) ?_;rintro v s1 ⟨x,H1,I1,r1,q1⟩)
 obtain ⟨a,e,⟨⟨xs,hq⟩,q⟩ | ⟨⟨xs,hq⟩,q⟩⟩:=q1
 ·subst e
  cases r1;obtain ⟨its,rv,p,hz⟩:=I1.list hq;refine wpAny_pyIter_list p.isList ?_;refine ⟨s1.heap.objs.size,[s1.heap.objs.size],_,_,H1,rfl,I1.kept (t':=s1.toks) fun b o e=>Heap.get?_push_of_some _ e,uy0 a _,⟨_,Heap.get?_push_size _ rfl,rfl,rfl⟩,fun b hb=>?_,q⟩;have e:b=s1.heap.objs.size:=by simpa using hb
  subst e;exact I1.fpOk (Nat.le_refl _) (I1.hok.fresh (Nat.le_refl _))
 ·subst e
  cases r1;obtain ⟨its,rv,p,hz⟩:=I1.tuple hq;refine wpAny_pyIter_tuple (show s1.heap.IsTuple a its.toArray from p) ?_;refine ⟨s1.heap.objs.size,[s1.heap.objs.size],_,_,H1,rfl,I1.kept (t':=s1.toks) fun b o e=>Heap.get?_push_of_some _ e,uu7 a _,⟨_,Heap.get?_push_size _ rfl,rfl,rfl⟩,fun b hb=>?_,q⟩;have e:b=s1.heap.objs.size:=by simpa using hb
  subst e;exact I1.fpOk (Nat.le_refl _) (I1.hok.fresh (Nat.le_refl _))
theorem w76:OpR X (compareOp .Is) (fun x y H Q=>∃ b,y=.bl b /\ Q (.bl (decide (x=.bl b))) H):=by
 intro pins s σ H x y v u Q I rx ry h;obtain ⟨b,rfl,q⟩:=h;cases ry;refine wpAny_is_plain ?_ (u15 I q ?_)
 ·cases x <;> first
   | (cases rx;rfl)
   | (obtain ⟨t,rfl⟩:=rx;rfl)
 ·cases x <;> first
   | (obtain ⟨t,rfl⟩:=rx;rfl)
   | (cases rx;cases b <;> rfl)
   | (cases rx;rename_i c;cases b <;> cases c <;> rfl)
theorem uc9:∀ {bs:List Bool} {us:List Value},Vals (bs.map V.bl) us->us=bs.map Value.bool
 | [],_,.nil=>rfl
 | b::bs,_,.cons r t=>by cases r;rw [uc9 t];rfl
theorem ve5 (hc:X.calm=true):CallR X (.builtin "all") (fun xs H Q=>∃ (p:Addr) (bs:List Bool),xs=[.ref p] /\ SqL X.K H p (bs.map V.bl) /\ Q (.bl (bs.all id)) H):=by
 intro pins s σ H xs us Q I r h;obtain ⟨p,bs,rfl,hq,q⟩:=h;obtain ⟨u,rfl,rx⟩:=vals1 r;cases rx;obtain ⟨its,r',pl,hz⟩:=I.list hq;have e:=uc9 r';subst e;have hl:=pl.isList;have hlt:p < s.heap.objs.size:=by obtain ⟨_,e,_⟩:=hl;exact Heap.lt_size e
 refine call_all_walk (wpAny_pyIter_list hl ?_);refine ⟨s.heap.objs.size,[s.heap.objs.size,p],[s.heap.objs.size],(bs.map Value.bool).toArray.size,_,_,fun i=>(bs[i]?).getD true,rfl,Walks.list (A:=X.A.in1) (I.ok.hd hc) _ p (Nat.ne_of_lt hlt) (bs.map Value.bool).toArray,
  ⟨⟨_,Heap.get?_push_size _ rfl,rfl,rfl⟩,hl.push _⟩,fun i v s' Q' E' hP hQ=>?_,fun h' tk hk=>?_⟩
 ·have hP:(bs.map Value.bool)[i]?=some v:=by simpa using hP
  rw [List.getElem?_map] at hP;cases hb:bs[i]? with
  | none=>rw [hb] at hP;cases hP
  | some b =>
   rw [hb] at hP;cases hP;simp only [hb,Option.getD_some] at hQ;exact wpAny_truthy_bool hQ
 ·have e:((List.range (bs.map Value.bool).toArray.size).all fun i=>(bs[i]?).getD true)=bs.all id:=by
   rw [List.size_toArray,List.length_map,Bool.eq_iff_iff,List.all_eq_true,List.all_eq_true]
   constructor
   ·intro h b hb
    obtain ⟨i,hi,e⟩:=List.mem_iff_getElem.mp hb;have:=h i (List.mem_range.mpr hi);rw [List.getElem?_eq_getElem hi,e] at this;exact this
   ·intro h i hi
    have hi:=List.mem_range.mp hi;rw [List.getElem?_eq_getElem hi];exact h _ (List.getElem_mem hi)
  rw [e];refine ⟨.bl _,H,?_,rfl,q⟩;exact I.kept fun b x e=>hk b x (fun hm=>by rw [List.mem_singleton.mp hm] at e;exact Nat.lt_irrefl _ (Heap.lt_size e)) (Heap.get?_push_of_some _ e)
def vv8 (K:W.Frag) (H:Hp):V->String->Prop
 | .non,n=>n = "NoneType"
 | .bl _,n=>n = "bool"
 | .int _,n=>n = "int"
 | .str _,n=>n = "str"
 | .ref a,n=>(n = "list" /\ ((∃ xs,H a=some (.lst xs)) \/ ∃ o xs,H a=some (.frz o (.lst xs)))) \/ (n = "tuple" /\ ∃ xs,H a=some (.tup xs)) \/ (n = "dict" /\ ∃ xs,H a=some (.dK xs))
 | _,_=>False
def subK (n T:String):Bool:=n == T || (n == "bool" && T == "int")
theorem u63 {K:W.Frag} {n T:String} (hn:n = "NoneType" \/ n = "bool" \/ n = "int" \/ n = "str" \/ n = "list" \/ n = "tuple" \/ n = "dict") (hT:T = "int" \/ T = "str" \/ T = "bool" \/ T = "list" \/ T = "tuple" \/ T = "dict"):W.kitOne K (.type n) (.type T)=some (subK n T):=by
 rcases hn with rfl | rfl | rfl | rfl | rfl | rfl | rfl <;> rcases hT with rfl | rfl | rfl | rfl | rfl | rfl <;> rfl
theorem up7:CallR X (.builtin "isinstance") (fun xs H Q=>∃ x n T,xs=[x,.ty T] /\ vv8 X.K H x n /\ (T = "int" \/ T = "str" \/ T = "bool" \/ T = "list" \/ T = "tuple" \/ T = "dict") /\ Q (.bl (subK n T)) H):=by
 intro pins s σ H xs us Q I r h;obtain ⟨x,n,T,rfl,hk,hT,q⟩:=h;obtain ⟨u,w,rfl,rx,rt⟩:=vals2 r;cases rt;have fin:∀ tk,EP X pins σ Q (.bool (subK n T)) { s with toks:=tk }:=fun tk=>⟨.bl (subK n T),H,I.tok tk,rfl,q⟩
 cases x with
 | non=>cases (show n = "NoneType" from hk);exact u43 I rx .non (u63 (by simp) hT) fin
 | bl b=>cases (show n = "bool" from hk);exact u43 I rx (.bl b) (u63 (by simp) hT) fin
 | int i=>cases (show n = "int" from hk);exact u43 I rx (.int i) (u63 (by simp) hT) fin
 | str i=>cases (show n = "str" from hk);exact u43 I rx (.str i) (u63 (by simp) hT) fin
 | ref a =>
  rcases (show (n = "list" /\ ((∃ xs,H a=some (.lst xs)) \/ ∃ o xs,H a=some (.frz o (.lst xs)))) \/ (n = "tuple" /\ ∃ xs,H a=some (.tup xs)) \/ (n = "dict" /\ ∃ xs,H a=some (.dK xs)) from hk) with ⟨e,⟨xs,h1⟩ | ⟨o,xs,h1⟩⟩ | ⟨e,xs,h1⟩ | ⟨e,xs,h1⟩
  ·cases e;exact u43 I rx (.lst h1) (u63 (by simp) hT) fin
  ·cases e;exact u43 I rx (.frz h1) (u63 (by simp) hT) fin
  ·cases e;exact u43 I rx (.tup h1) (u63 (by simp) hT) fin
  ·cases e;exact u43 I rx (.dK h1) (u63 (by simp) hT) fin
 | _=>exact (show False from hk).elim
end
end L2
namespace L2
open PySem
def XH (a C:Addr) (dx:Option Addr) (h:Heap):Prop:=∃ o vs,h.get? a=some o /\ o.cls=.ref C /\ o.dict=dx /\ o.data=.fields vs
def XDict (H:Hp):Option Addr->List (Str × V)->Prop
 | none,ys=>ys=[]
 | some d,ys=>∃ o,H d=some (.frz o (.xd ys))
end L2
namespace L3
open PySem L2
inductive D where
 | non | bl (b:Bool) | int (i:Int) | str (x:Str) | tup (xs:List D) | ref (a:Addr) | ty (n:String)
inductive DO where
 | lst (xs:List D) | fro (xs:List D) | dic (kvs:List (Key × D)) | dit (kvs:List (List Key × D)) | ins (C:Addr) (fs:List (Str × D)) | exc (C:Addr) (fs:List (Str × D)) | frd (o:Obj) (kvs:List (Key × D)) | tb (qn:Str) (bm:Addr)
abbrev Gp:=Addr->Option DO
def gup (G:Gp) (a:Addr) (o:DO):Gp:=fun b=>if b=a then some o else G b
theorem u01 {G:Gp} {a:Addr} {o:DO}:gup G a o a=some o:=by unfold gup;rw [if_pos rfl]
theorem u06 {G:Gp} {a b:Addr} {o:DO} (h:b ≠ a):gup G a o b=G b:=by unfold gup;rw [if_neg h]
theorem u23 {G:Gp} {a:Addr} {o u:DO}:gup (gup G a o) a u=gup G a u:=by
 funext b;unfold gup;split <;> rfl
theorem gne {G:Gp} {a b:Addr} {o:DO} (h:G a=some o) (h':G b=none):a ≠ b:=by
 intro e;subst e;rw [h] at h';cases h'
structure Le (H H':Hp):Prop where
 tups:∀ b xs,H b=some (.tup xs)->H' b=some (.tup xs)
 frzs:∀ b o (u:NK),H b=some (.frz o u.1)->H' b=some (.frz o u.1)
theorem Le.refl (H:Hp):Le H H:=⟨fun _ _ h=>h,fun _ _ _ h=>h⟩
theorem Le.trans {H H1 H2:Hp} (a:Le H H1) (b:Le H1 H2):Le H H2:=⟨fun c xs h=>b.tups c xs (a.tups c xs h),fun c o u h=>b.frzs c o u (a.frzs c o u h)⟩
theorem Le.sqT {K:W.Frag} {H H':Hp} (l:Le H H') {a:Addr} {xs:List V} (h:SqT K H a xs):SqT K H' a xs:=by
 rcases h with (h | ⟨o,h⟩) | h
 ·exact .inl (.inl (l.tups _ _ h))
 ·exact .inl (.inr ⟨o,l.frzs _ _ ⟨_,by intro _ e;cases e⟩ h⟩)
 ·exact .inr h
theorem Le.fresh {H:Hp} {p:Addr} {o:HO} (h:H p=none):Le H (upd H p o) :=
 ⟨fun b xs q=>by rw [u10 (u29 q h)];exact q,fun b o u q=>by rw [u10 (u29 q h)];exact q⟩
mutual
def RelD (K:W.Frag) (H:Hp):D->V->Prop
 | .non,v=>v=.non
 | .bl b,v=>v=.bl b
 | .int i,v=>v=.int i
 | .str x,v=>v=.str x
 | .ref a,v=>v=.ref a
 | .ty n,v=>v=.ty n
 | .tup ds,v=>∃ a xs,v=.ref a /\ SqT K H a xs /\ RelDs K H ds xs
def RelDs (K:W.Frag) (H:Hp):List D->List V->Prop
 | [],xs=>xs=[]
 | d::ds,xs=>∃ x r,xs=x::r /\ RelD K H d x /\ RelDs K H ds r
end
section
variable {K:W.Frag} {H H':Hp}
mutual
theorem RelD.le (l:Le H H'):∀ {d:D} {v:V},RelD K H d v->RelD K H' d v
 | .non,_,h=>by simpa [RelD] using h
 | .bl _,_,h=>by simpa [RelD] using h
 | .int _,_,h=>by simpa [RelD] using h
 | .str _,_,h=>by simpa [RelD] using h
 | .ref _,_,h=>by simpa [RelD] using h
 | .ty _,_,h=>by simpa [RelD] using h
 | .tup ds,_,h=>by
  rw [RelD] at h ⊢;obtain ⟨a,xs,e,s,r⟩:=h;exact ⟨a,xs,e,l.sqT s,RelDs.le l r⟩
theorem RelDs.le (l:Le H H'):∀ {ds:List D} {xs:List V},RelDs K H ds xs->RelDs K H' ds xs
 | [],_,h=>by simpa [RelDs] using h
 | d::ds,_,h=>by
  rw [RelDs] at h ⊢;obtain ⟨x,r,e,h1,h2⟩:=h;exact ⟨x,r,e,RelD.le l h1,RelDs.le l h2⟩
end
theorem RelDs.nil:RelDs K H [] []:=by rw [RelDs]
theorem RelDs.cons {d:D} {ds:List D} {x:V} {xs:List V} (h:RelD K H d x) (t:RelDs K H ds xs):RelDs K H (d::ds) (x::xs):=by
 rw [RelDs];exact ⟨x,xs,rfl,h,t⟩
theorem RelDs.inv_nil {xs:List V} (h:RelDs K H [] xs):xs=[]:=by rw [RelDs] at h;exact h
theorem RelDs.inv_cons {d:D} {ds:List D} {xs:List V} (h:RelDs K H (d::ds) xs):∃ x r,xs=x::r /\ RelD K H d x /\ RelDs K H ds r:=by rw [RelDs] at h;exact h
theorem RelDs.length:∀ {ds:List D} {xs:List V},RelDs K H ds xs->ds.length=xs.length
 | [],_,h=>by rw [h.inv_nil];rfl
 | _::_,_,h=>by obtain ⟨x,r,e,_,t⟩:=h.inv_cons;rw [e,List.length_cons,List.length_cons,t.length]
theorem RelDs.get:∀ {ds:List D} {xs:List V} {i:Nat} {d:D},RelDs K H ds xs->ds[i]?=some d->∃ x,xs[i]?=some x /\ RelD K H d x
 | [],_,_,_,_,e=>by simp at e
 | _::_,_,0,_,h,e=>by
  obtain ⟨x,r,rfl,h1,t⟩:=h.inv_cons;simp at e;subst e;exact ⟨x,rfl,h1⟩
 | _::_,_,i+1,d,h,e=>by
  obtain ⟨x,r,rfl,h1,t⟩:=h.inv_cons;obtain ⟨y,h2,h3⟩:=RelDs.get (i:=i) t (by simpa using e);exact ⟨y,by simpa using h2,h3⟩
theorem RelDs.of:∀ {ds:List D} {xs:List V},ds.length=xs.length->(∀ (i:Nat) d x,ds[i]?=some d->xs[i]?=some x->RelD K H d x)->RelDs K H ds xs
 | [],[],_,_=>.nil
 | [],_::_,h,_=>by simp at h
 | _::_,[],h,_=>by simp at h
 | d::ds,x::xs,h,f=>.cons (f 0 d x rfl rfl) (RelDs.of (by simpa using h) fun i d x a b=>f (i+1) d x (by simpa using a) (by simpa using b))
theorem RelDs.append:∀ {ds es:List D} {xs ys:List V},RelDs K H ds xs->RelDs K H es ys->RelDs K H (ds++es) (xs++ys)
 | [],_,_,_,h,t=>by rw [h.inv_nil];exact t
 | _::_,_,_,_,h,t=>by
  obtain ⟨x,r,rfl,h1,h2⟩:=h.inv_cons;exact .cons h1 (h2.append t)
theorem RelDs.set {d:D} {x:V} (q:RelD K H d x):∀ {ds:List D} {xs:List V} (i:Nat),RelDs K H ds xs->RelDs K H (ds.set i d) (xs.set i x)
 | [],_,_,h=>by rw [h.inv_nil];exact .nil
 | _::_,_,0,h=>by
  obtain ⟨x,r,rfl,h1,h2⟩:=h.inv_cons;exact .cons q h2
 | _::_,_,i+1,h=>by
  obtain ⟨x,r,rfl,h1,h2⟩:=h.inv_cons;exact .cons h1 (h2.set q i)
theorem RelDs.take:∀ {ds:List D} {xs:List V} (n:Nat),RelDs K H ds xs->RelDs K H (ds.take n) (xs.take n)
 | _,_,0,_=>by simpa using RelDs.nil
 | [],_,_+1,h=>by rw [h.inv_nil];exact .nil
 | _::_,_,n+1,h=>by
  obtain ⟨x,r,rfl,h1,h2⟩:=h.inv_cons;exact .cons h1 (h2.take n)
theorem RelDs.drop:∀ {ds:List D} {xs:List V} (n:Nat),RelDs K H ds xs->RelDs K H (ds.drop n) (xs.drop n)
 | _,_,0,h=>by simpa using h
 | [],_,_+1,h=>by rw [h.inv_nil];exact .nil
 | _::_,_,n+1,h=>by
  obtain ⟨x,r,rfl,h1,h2⟩:=h.inv_cons;exact h2.drop n
theorem RelDs.eraseIdx:∀ {ds:List D} {xs:List V} (n:Nat),RelDs K H ds xs->RelDs K H (ds.eraseIdx n) (xs.eraseIdx n)
 | [],_,_,h=>by rw [h.inv_nil];exact .nil
 | _::_,_,0,h=>by
  obtain ⟨x,r,rfl,h1,h2⟩:=h.inv_cons;exact h2
 | _::_,_,n+1,h=>by
  obtain ⟨x,r,rfl,h1,h2⟩:=h.inv_cons;exact .cons h1 (h2.eraseIdx n)
theorem RelDs.reverse:∀ {ds:List D} {xs:List V},RelDs K H ds xs->RelDs K H ds.reverse xs.reverse
 | [],_,h=>by rw [h.inv_nil];exact .nil
 | _::_,_,h=>by
  obtain ⟨x,r,rfl,h1,h2⟩:=h.inv_cons;rw [List.reverse_cons,List.reverse_cons];exact h2.reverse.append (.cons h1 .nil)
theorem RelDs.dropLast {ds:List D} {xs:List V} (h:RelDs K H ds xs):RelDs K H ds.dropLast xs.dropLast:=by
 rw [List.dropLast_eq_take,List.dropLast_eq_take,h.length];exact h.take _
theorem RelDs.rep {ds:List D} {xs:List V} (h:RelDs K H ds xs):∀ k:Nat,RelDs K H (List.replicate k ds).flatten (List.replicate k xs).flatten
 | 0=>.nil
 | k+1=>by rw [List.replicate_succ,List.replicate_succ,List.flatten_cons,List.flatten_cons];exact h.append (h.rep k)
def RelPs {κ:Type} (K:W.Frag) (H:Hp) (ps:List (κ × D)) (qs:List (κ × V)):Prop:=ps.map (·.1)=qs.map (·.1) /\ RelDs K H (ps.map (·.2)) (qs.map (·.2))
theorem RelPs.le {κ:Type} (l:Le H H') {ps:List (κ × D)} {qs:List (κ × V)} (h:RelPs K H ps qs):RelPs K H' ps qs:=⟨h.1,RelDs.le l h.2⟩
end
def TbOk (H:Hp) (qn:Str) (ps:Array Value):Prop:=TriplesOk ps.toList /\ ∀ pos cv,codeAmong pos ps.toList=some cv->∃ (c:Addr) (o:Obj) (vs:Array Value) (t:Tok),cv=.ref c /\ o.data=.fields vs /\ vs[1]?=some (.str qn t) /\ H c=some (.frz o (.ext fun h=>h.get? c=some o))
def BmOk (H:Hp) (bm:Addr):Prop:=∃ o:Obj,H bm=some (.frz o (.ext fun h=>h.get? bm=some o)) /\ o.cls=.type "module" /\ o.dict=some builtinsNs /\ o.data=.plain
def ObjD (K:W.Frag) (H:Hp) (a:Addr):DO->Prop
 | .lst ds=>∃ xs,H a=some (.lst xs) /\ RelDs K H ds xs
 | .fro ds=>∃ o xs,H a=some (.frz o (.lst xs)) /\ RelDs K H ds xs
 | .dic kvs=>∃ ys,H a=some (.dK ys) /\ RelPs K H kvs ys
 | .dit kvs=>∃ ys,H a=some (.dT ys) /\ RelPs K H kvs ys
 | .ins C fs=>∃ dx ys,H a=some (.ins C dx ys) /\ RelPs K H fs ys
 | .exc C fs=>∃ dx ys,H a=some (.ext (XH a C dx)) /\ XDict H dx ys /\ RelPs K H fs ys
 | .frd o kvs=>∃ ys,H a=some (.frz o (.dK ys)) /\ RelPs K H kvs ys
 | .tb qn bm=>∃ ps,H a=some (.tbl ps) /\ TbOk H qn ps /\ BmOk H bm
theorem _root_.L2.XDict.le {H H':Hp} (l:Le H H') {dx:Option Addr} {ys:List (Str × V)} (h:XDict H dx ys):XDict H' dx ys:=by
 cases dx with
 | none=>exact h
 | some d=>obtain ⟨o,e⟩:=h;exact ⟨o,l.frzs _ _ ⟨_,by intro _ e;cases e⟩ e⟩
def Con (K:W.Frag) (G:Gp) (H:Hp):Prop:=∀ a o,G a=some o->ObjD K H a o
section
variable {K:W.Frag} {G:Gp} {H H':Hp} {a p:Addr} {o:DO}
theorem ObjD.some (h:ObjD K H a o):∃ u,H a=some u:=by
 cases o with
 | lst ds=>obtain ⟨xs,e,_⟩:=h;exact ⟨_,e⟩
 | fro ds=>obtain ⟨_,xs,e,_⟩:=h;exact ⟨_,e⟩
 | dic ds=>obtain ⟨xs,e,_⟩:=h;exact ⟨_,e⟩
 | dit ds=>obtain ⟨xs,e,_⟩:=h;exact ⟨_,e⟩
 | ins C ds=>obtain ⟨_,xs,e,_⟩:=h;exact ⟨_,e⟩
 | exc C ds=>obtain ⟨_,xs,e,_⟩:=h;exact ⟨_,e⟩
 | frd o ds=>obtain ⟨xs,e,_⟩:=h;exact ⟨_,e⟩
 | tb qn bm=>obtain ⟨_,e,_⟩:=h;exact ⟨_,e⟩
theorem ObjD.stay (h:ObjD K H a o) (l:Le H H') (e:H' a=H a):ObjD K H' a o:=by
 cases o with
 | lst ds=>obtain ⟨xs,q,r⟩:=h;exact ⟨xs,e.trans q,RelDs.le l r⟩
 | fro ds=>obtain ⟨o,xs,q,r⟩:=h;exact ⟨o,xs,e.trans q,RelDs.le l r⟩
 | dic ds=>obtain ⟨xs,q,r⟩:=h;exact ⟨xs,e.trans q,r.le l⟩
 | dit ds=>obtain ⟨xs,q,r⟩:=h;exact ⟨xs,e.trans q,r.le l⟩
 | ins C ds=>obtain ⟨dx,xs,q,r⟩:=h;exact ⟨dx,xs,e.trans q,r.le l⟩
 | exc C ds=>obtain ⟨dx,xs,q,z,r⟩:=h;exact ⟨dx,xs,e.trans q,z.le l,r.le l⟩
 | frd o ds=>obtain ⟨xs,q,r⟩:=h;exact ⟨xs,e.trans q,r.le l⟩
 | tb qn bm=>obtain ⟨ps,q,⟨r1,r2⟩,o,b1,b2⟩:=h;exact ⟨ps,e.trans q,⟨r1,fun pos cv z=>let ⟨c,o,vs,t,z1,z2,z3,z4⟩:=r2 pos cv z;⟨c,o,vs,t,z1,z2,z3,l.frzs _ _ ⟨_,by intro _ e;cases e⟩ z4⟩⟩,o,l.frzs _ _ ⟨_,by intro _ e;cases e⟩ b1,b2⟩
theorem Con.fresh (c:Con K G H) (h:H p=none):G p=none:=by
 cases e:G p with
 | none=>rfl
 | some o=>obtain ⟨u,q⟩:=(c p o e).some;rw [h] at q;cases q
theorem Con.stay (c:Con K G H) (l:Le H H') (e:∀ a o,G a=some o->H' a=H a):Con K G H':=fun a o q=>(c a o q).stay l (e a o q)
theorem Con.side {u:HO} (c:Con K G H) (h:H p=none):Con K G (upd H p u):=c.stay (Le.fresh h) fun a o q=>by
 obtain ⟨u,e⟩:=(c a o q).some;exact u10 (u29 e h)
theorem Con.put {u:HO} (c:Con K G H) (l:Le H (upd H p u)) (n:ObjD K (upd H p u) p o):Con K (gup G p o) (upd H p u):=fun b q e=>by
 by_cases hb:b=p
 ·subst hb;rw [u01] at e;cases e;exact n
 ·rw [u06 hb] at e
  exact (c b q e).stay l (u10 hb)
theorem Le.lst {xs ys:List V} (h:H p=some (.lst xs)):Le H (upd H p (.lst ys)) :=
  ⟨fun b zs q => by by_cases e : b = p
                    · subst e;rw [h] at q;cases q
                    · rw [u10 e];exact q,
   fun b o u q => by by_cases e : b = p
                     · subst e;rw [h] at q;cases q
                     · rw [u10 e];exact q⟩
theorem Le.dK {xs ys:List (Key × V)} (h:H p=some (.dK xs)):Le H (upd H p (.dK ys)) :=
  ⟨fun b zs q => by by_cases e : b = p
                    · subst e;rw [h] at q;cases q
                    · rw [u10 e];exact q,
   fun b o u q => by by_cases e : b = p
                     · subst e;rw [h] at q;cases q
                     · rw [u10 e];exact q⟩
theorem Le.ins {C dx C' dx':Addr} {xs ys:List (Str × V)} (h:H p=some (.ins C dx xs)):Le H (upd H p (.ins C' dx' ys)) :=
  ⟨fun b zs q => by by_cases e : b = p
                    · subst e;rw [h] at q;cases q
                    · rw [u10 e];exact q,
   fun b o u q => by by_cases e : b = p
                     · subst e;rw [h] at q;cases q
                     · rw [u10 e];exact q⟩
theorem Con.lstNew {ds:List D} {xs:List V} (c:Con K G H) (h:H p=none) (r:RelDs K H ds xs):Con K (gup G p (.lst ds)) (upd H p (.lst xs)) :=
 c.put (Le.fresh h) ⟨xs,u13,RelDs.le (Le.fresh h) r⟩
theorem Con.lstSet {ds:List D} {xs ys:List V} (c:Con K G H) (h:H p=some (.lst ys)) (r:RelDs K H ds xs):Con K (gup G p (.lst ds)) (upd H p (.lst xs)) :=
 c.put (Le.lst h) ⟨xs,u13,RelDs.le (Le.lst h) r⟩
end
abbrev DSt:=List (Option D)
def RelSt (K:W.Frag) (H:Hp) (σd:DSt) (σ:St):Prop:=σd.length=σ.length /\ ∀ (i:Nat) d,σd[i]?=some (some d)->∃ v,σ[i]?=some (some v) /\ RelD K H d v
theorem RelSt.le {K:W.Frag} {H H':Hp} {σd:DSt} {σ:St} (h:RelSt K H σd σ) (l:Le H H'):RelSt K H' σd σ :=
 ⟨h.1,fun i d e=>let ⟨v,a,b⟩:=h.2 i d e;⟨v,a,RelD.le l b⟩⟩
theorem RelSt.set {K:W.Frag} {H:Hp} {σd:DSt} {σ:St} {d:D} {v:V} (h:RelSt K H σd σ) (i:Nat) (r:RelD K H d v):RelSt K H (σd.set i (some d)) (σ.set i (some v)):=by
 refine ⟨by rw [List.length_set,List.length_set];exact h.1,fun j e q=>?_⟩;rw [List.getElem?_set] at q;split at q
 ·rename_i hij;subst hij
  split at q
  ·rename_i hl;cases q
   exact ⟨v,by rw [List.getElem?_set_self (by rw [<- h.1];exact hl)],r⟩
  ·cases q
 ·rename_i hij
  obtain ⟨w,a,b⟩:=h.2 j e q;exact ⟨w,by rw [List.getElem?_set_ne hij];exact a,b⟩
abbrev DK:=D->Gp->Prop
abbrev TE3:=DSt->Gp->DK->Prop
abbrev TT3:=DSt->Gp->(Bool->Gp->Prop)->Prop
abbrev TA3:=DSt->Gp->(List D->Gp->Prop)->Prop
structure Ends3 where
 nx:DSt->Gp->Prop
 rt:DK
 bk:DSt->Gp->Prop:=fun _ _=>False
 ct:DSt->Gp->Prop:=fun _ _=>False
abbrev TS3:=Ends3->DSt->Gp->Prop
def FutE (K:W.Frag) (H:Hp) (q:DK) (Q:VK):Prop:=∀ d G' v H',RelD K H' d v->Con K G' H'->Le H H'->q d G'->Q v H'
def FutT (K:W.Frag) (H:Hp) (q:Bool->Gp->Prop) (Q:Bool->Hp->Prop):Prop:=∀ b G' H',Con K G' H'->Le H H'->q b G'->Q b H'
def FutA (K:W.Frag) (H:Hp) (q:List D->Gp->Prop) (Q:List V->Hp->Prop):Prop:=∀ ds G' vs H',RelDs K H' ds vs->Con K G' H'->Le H H'->q ds G'->Q vs H'
def FutS (K:W.Frag) (H:Hp) (q:DSt->Gp->Prop) (Q:St->Hp->Prop):Prop:=∀ σd G' σ H',RelSt K H' σd σ->Con K G' H'->Le H H'->q σd G'->Q σ H'
theorem FutE.le {K:W.Frag} {H H1:Hp} {q:DK} {Q:VK} (f:FutE K H q Q) (l:Le H H1):FutE K H1 q Q:=fun d G v H' r c l'=>f d G v H' r c (l.trans l')
theorem FutS.le {K:W.Frag} {H H1:Hp} {q:DSt->Gp->Prop} {Q:St->Hp->Prop} (f:FutS K H q Q) (l:Le H H1):FutS K H1 q Q:=fun d G v H' r c l'=>f d G v H' r c (l.trans l')
structure FutD (K:W.Frag) (H:Hp) (d:Ends3) (D:Ends):Prop where
 nx:FutS K H d.nx D.nx
 rt:FutE K H d.rt D.rt
 bk:FutS K H d.bk D.bk
 ct:FutS K H d.ct D.ct
theorem FutD.le {K:W.Frag} {H H1:Hp} {d:Ends3} {D:Ends} (f:FutD K H d D) (l:Le H H1):FutD K H1 d D:=⟨f.nx.le l,f.rt.le l,f.bk.le l,f.ct.le l⟩
def lowE (K:W.Frag) (t:TE3):TE:=fun σ H Q=>∃ σd G q,RelSt K H σd σ /\ Con K G H /\ t σd G q /\ FutE K H q Q
def lowT (K:W.Frag) (t:TT3):TT:=fun σ H Q=>∃ σd G q,RelSt K H σd σ /\ Con K G H /\ t σd G q /\ FutT K H q Q
def lowA (K:W.Frag) (t:TA3):TA:=fun σ H Q=>∃ σd G q,RelSt K H σd σ /\ Con K G H /\ t σd G q /\ FutA K H q Q
def lowS (K:W.Frag) (t:TS3):TS:=fun D σ H=>∃ σd G d,RelSt K H σd σ /\ Con K G H /\ t d σd G /\ FutD K H d D
abbrev R3:=D->D->Gp->DK->Prop
def lowR (K:W.Frag) (r:R3):R2:=fun x y H Q=>∃ d e G q,RelD K H d x /\ RelD K H e y /\ Con K G H /\ r d e G q /\ FutE K H q Q
abbrev U3:=D->Gp->DK->Prop
def lowU (K:W.Frag) (r:U3):V->Hp->VK->Prop:=fun x H Q=>∃ d G q,RelD K H d x /\ Con K G H /\ r d G q /\ FutE K H q Q
abbrev C3:=List D->Gp->DK->Prop
def lowC (K:W.Frag) (r:C3):List V->Hp->VK->Prop:=fun xs H Q=>∃ ds G q,RelDs K H ds xs /\ Con K G H /\ r ds G q /\ FutE K H q Q
def dVar (i:Nat):TE3:=fun σ G q=>match σ[i]? with | some (some d)=>q d G | _=>False
def dC (d:D):TE3:=fun _ G q=>q d G
def dOp (r:R3) (ta tb:TE3):TE3:=fun σ G q=>ta σ G fun x G1=>tb σ G1 fun y G2=>r x y G2 q
def dUn (r:U3) (ta:TE3):TE3:=fun σ G q=>ta σ G fun x G1=>r x G1 q
def dNil:TA3:=fun _ G q=>q [] G
def ve0 (ta:TE3) (tr:TA3):TA3:=fun σ G q=>ta σ G fun x G1=>tr σ G1 fun xs G2=>q (x::xs) G2
def dTup (t:TA3):TE3:=fun σ G q=>t σ G fun xs G1=>xs.length<=sizeLine /\ q (.tup xs) G1
def dLst (t:TA3):TE3:=fun σ G q=>t σ G fun xs G1=>xs.length<=sizeLine /\ ∀ p,G1 p=none->q (.ref p) (gup G1 p (.lst xs))
def dB (t:TE3):TT3:=fun σ G q=>t σ G fun x G1=>match x with | .bl c=>q c G1 | _=>False
def dAnd (t u:TT3):TT3:=fun σ G q=>t σ G fun c G1=>if c=true then u σ G1 q else q false G1
def dOr (t u:TT3):TT3:=fun σ G q=>t σ G fun c G1=>if c=true then q true G1 else u σ G1 q
def dNot (t:TT3):TT3:=fun σ G q=>t σ G fun c G1=>q (!c) G1
def vy3 (ta tb:TE3):TE3:=fun σ G q=>ta σ G fun x G1=>match x with | .bl c=>if c=true then tb σ G1 q else q (.bl false) G1 | _=>False
def dOrV (ta tb:TE3):TE3:=fun σ G q=>ta σ G fun x G1=>match x with | .bl c=>if c=true then q (.bl true) G1 else tb σ G1 q | _=>False
def vx7 (ta:TE3):TE3:=fun σ G q=>ta σ G fun x G1=>match x with | .bl c=>q (.bl (!c)) G1 | _=>False
def dIf (t:TT3) (ta tb:TE3):TE3:=fun σ G q=>t σ G fun c G1=>if c=true then ta σ G1 q else tb σ G1 q
section
variable {K:W.Frag} {σ:St} {H:Hp} {Q:VK}
theorem vt9 {i:Nat} (h:lowE K (dVar i) σ H Q):tVar i σ H Q:=by
 obtain ⟨σd,G,q,rs,c,t,f⟩:=h;unfold dVar at t;split at t
 ·rename_i d e
  obtain ⟨v,hv,r⟩:=rs.2 i d e;exact ⟨v,hv,f d G v H r c (Le.refl H) t⟩
 ·exact t.elim
theorem v26 {d:D} {v:V} (r:∀ H,RelD K H d v) (h:lowE K (dC d) σ H Q):tC v σ H Q:=by
 obtain ⟨σd,G,q,rs,c,t,f⟩:=h;exact f d G v H (r H) c (Le.refl H) t
theorem us5 {r:R3} {ta tb:TE3} (h:lowE K (dOp r ta tb) σ H Q):tOp (lowR K r) (lowE K ta) (lowE K tb) σ H Q:=by
 obtain ⟨σd,G,q,rs,c,t,f⟩:=h;exact ⟨σd,G,_,rs,c,t,fun d G1 v H1 r1 c1 l1 t1=>⟨σd,G1,_,rs.le l1,c1,t1,fun e G2 u H2 r2 c2 l2 t2=>⟨d,e,G2,q,RelD.le l2 r1,r2,c2,t2,f.le (l1.trans l2)⟩⟩⟩
theorem wc1 {r:U3} {ta:TE3} (h:lowE K (dUn r ta) σ H Q):tUn (lowU K r) (lowE K ta) σ H Q:=by
 obtain ⟨σd,G,q,rs,c,t,f⟩:=h;exact ⟨σd,G,_,rs,c,t,fun d G1 v H1 r1 c1 l1 t1=>⟨d,G1,q,r1,c1,t1,f.le l1⟩⟩
theorem vu5 {Q:List V->Hp->Prop} (h:lowA K dNil σ H Q):tNil σ H Q:=by
 obtain ⟨σd,G,q,rs,c,t,f⟩:=h;exact f [] G [] H .nil c (Le.refl H) t
theorem vc5 {ta:TE3} {tr:TA3} {Q:List V->Hp->Prop} (h:lowA K (ve0 ta tr) σ H Q):w38 (lowE K ta) (lowA K tr) σ H Q:=by
 obtain ⟨σd,G,q,rs,c,t,f⟩:=h;exact ⟨σd,G,_,rs,c,t,fun d G1 v H1 r1 c1 l1 t1=>⟨σd,G1,_,rs.le l1,c1,t1,fun ds G2 vs H2 r2 c2 l2 t2=>f (d::ds) G2 (v::vs) H2 (.cons (RelD.le l2 r1) r2) c2 (l1.trans l2) t2⟩⟩
theorem vu0 {ta:TA3} (h:lowE K (dTup ta) σ H Q):tTup (lowA K ta) σ H Q:=by
 obtain ⟨σd,G,q,rs,c,t,f⟩:=h;refine ⟨σd,G,_,rs,c,t,fun ds G1 vs H1 r1 c1 l1 t1=>⟨by rw [<- r1.length];exact t1.1,fun p hp=>?_⟩⟩;refine f (.tup ds) G1 (.ref p) _ ?_ (c1.side hp) (l1.trans (Le.fresh hp)) t1.2;rw [RelD];exact ⟨p,vs,rfl,SqT.of u13,RelDs.le (Le.fresh hp) r1⟩
theorem vu6 {ta:TA3} (h:lowE K (dLst ta) σ H Q):tLst (lowA K ta) σ H Q:=by
 obtain ⟨σd,G,q,rs,c,t,f⟩:=h;refine ⟨σd,G,_,rs,c,t,fun ds G1 vs H1 r1 c1 l1 t1=>⟨by rw [<- r1.length];exact t1.1,fun p hp=>?_⟩⟩;exact f (.ref p) _ (.ref p) _ (by rw [RelD]) (c1.lstNew hp r1) (l1.trans (Le.fresh hp)) (t1.2 p (c1.fresh hp))
theorem RelD.bl_inv {c:Bool} {v:V} (h:RelD K H (.bl c) v):v=.bl c:=by rw [RelD] at h;exact h
theorem vc8 {t u:TT3} {Q:Bool->Hp->Prop} (h:lowT K (dAnd t u) σ H Q):tAnd (lowT K t) (lowT K u) σ H Q:=by
 obtain ⟨σd,G,q,rs,c,t,f⟩:=h;refine ⟨σd,G,_,rs,c,t,fun b G1 H1 c1 l1 t1=>?_⟩;cases b with
 | true=>rw [if_pos rfl] at t1 ⊢;exact ⟨σd,G1,q,rs.le l1,c1,t1,fun b G2 H2 c2 l2 t2=>f b G2 H2 c2 (l1.trans l2) t2⟩
 | false=>rw [if_neg Bool.false_ne_true] at t1 ⊢;exact f _ _ _ c1 l1 t1
theorem vu4 {t u:TT3} {Q:Bool->Hp->Prop} (h:lowT K (dOr t u) σ H Q):tOr (lowT K t) (lowT K u) σ H Q:=by
 obtain ⟨σd,G,q,rs,c,t,f⟩:=h;refine ⟨σd,G,_,rs,c,t,fun b G1 H1 c1 l1 t1=>?_⟩;cases b with
 | false=>rw [if_neg Bool.false_ne_true] at t1 ⊢;exact ⟨σd,G1,q,rs.le l1,c1,t1,fun b G2 H2 c2 l2 t2=>f b G2 H2 c2 (l1.trans l2) t2⟩
 | true=>rw [if_pos rfl] at t1 ⊢;exact f _ _ _ c1 l1 t1
theorem vb7 {t:TT3} {Q:Bool->Hp->Prop} (h:lowT K (dNot t) σ H Q):tNot (lowT K t) σ H Q:=by
 obtain ⟨σd,G,q,rs,c,t,f⟩:=h;exact ⟨σd,G,_,rs,c,t,fun b G1 H1 c1 l1 t1=>f _ _ _ c1 l1 t1⟩
theorem wc2 {t:TT3} {ta tb:TE3} (h:lowE K (dIf t ta tb) σ H Q):tIf (lowT K t) (lowE K ta) (lowE K tb) σ H Q:=by
 obtain ⟨σd,G,q,rs,c,t,f⟩:=h;refine ⟨σd,G,_,rs,c,t,fun b G1 H1 c1 l1 t1=>?_⟩;cases b with
 | true=>rw [if_pos rfl] at t1 ⊢;exact ⟨σd,G1,q,rs.le l1,c1,t1,f.le l1⟩
 | false=>rw [if_neg Bool.false_ne_true] at t1 ⊢;exact ⟨σd,G1,q,rs.le l1,c1,t1,f.le l1⟩
end
def vx9:TS3:=fun E σ G=>E.nx σ G
def Go (k:DSt->Gp->Prop) (σ:DSt) (G:Gp):Prop:=k σ G
def dSeq (t u:TS3):TS3:=fun E σ G=>t { E with nx:=Go (u E) } σ G
def vy2 (te:TE3):TS3:=fun E σ G=>te σ G fun _ G1=>E.nx σ G1
def dRet (te:TE3):TS3:=fun E σ G=>te σ G E.rt
def wl4:TS3:=fun E _ G=>E.rt .non G
def dIfS (c:TT3) (t u:TS3):TS3:=fun E σ G=>c σ G fun b G1=>if b=true then t E σ G1 else u E σ G1
abbrev TG3:=D->DSt->Gp->(DSt->Gp->Prop)->Prop
abbrev TGs3:=List D->DSt->Gp->(DSt->Gp->Prop)->Prop
def lowG (K:W.Frag) (t:TG3):TG:=fun v σ H Q=>∃ d σd G q,RelD K H d v /\ RelSt K H σd σ /\ Con K G H /\ t d σd G q /\ FutS K H q Q
def vc9 (K:W.Frag) (t:TGs3):TGs:=fun vs σ H Q=>∃ ds σd G q,RelDs K H ds vs /\ RelSt K H σd σ /\ Con K G H /\ t ds σd G q /\ FutS K H q Q
def uo4 (i:Nat):TG3:=fun d σ G q=>q (σ.set i (some d)) G
def jNil:TGs3:=fun ds σ G q=>ds=[] /\ q σ G
def vw2 (t:TG3) (u:TGs3):TGs3:=fun ds σ G q=>match ds with | d::r=>t d σ G fun σ' G'=>u r σ' G' q | []=>False
abbrev TSet3:=D->D->D->Gp->(Gp->Prop)->Prop
def v27 (K:W.Frag) (t:TSet3):TSet:=fun o i v H Q=>∃ d e x G q,RelD K H d o /\ RelD K H e i /\ RelD K H x v /\ Con K G H /\ t d e x G q /\ ∀ G' H',Con K G' H'->Le H H'->q G'->Q H'
def jSub (to ti:TE3) (t:TSet3):TG3:=fun d σ G q=>to σ G fun o G1=>ti σ G1 fun i G2=>t o i d G2 fun G3=>q σ G3
def dAsg (te:TE3) (g:TG3):TS3:=fun E σ G=>te σ G fun x G1=>g x σ G1 E.nx
section
variable {K:W.Frag} {σ:St} {H:Hp} {E:Ends}
theorem vb8 (h:lowS K vx9 E σ H):w34 E σ H:=by
 obtain ⟨σd,G,d,rs,c,t,f⟩:=h;exact f.nx _ _ _ _ rs c (Le.refl H) t
theorem vu1 {t u:TS3} (h:lowS K (dSeq t u) E σ H):tSeq (lowS K t) (lowS K u) E σ H:=by
 obtain ⟨σd,G,d,rs,c,t,f⟩:=h;exact ⟨σd,G,_,rs,c,t,fun σd' G' σ' H' rs' c' l' t'=>⟨σd',G',d,rs',c',t',f.le l'⟩,f.rt,f.bk,f.ct⟩
theorem vc4 {te:TE3} (h:lowS K (vy2 te) E σ H):w35 (lowE K te) E σ H:=by
 obtain ⟨σd,G,d,rs,c,t,f⟩:=h;exact ⟨σd,G,_,rs,c,t,fun x G1 v H1 r1 c1 l1 t1=>f.nx _ _ _ _ (rs.le l1) c1 l1 t1⟩
theorem vu2 {te:TE3} (h:lowS K (dRet te) E σ H):tRet (lowE K te) E σ H:=by
 obtain ⟨σd,G,d,rs,c,t,f⟩:=h;exact ⟨σd,G,_,rs,c,t,f.rt⟩
theorem vu8 {tc:TT3} {t u:TS3} (h:lowS K (dIfS tc t u) E σ H):tIfS (lowT K tc) (lowS K t) (lowS K u) E σ H:=by
 obtain ⟨σd,G,d,rs,c,t,f⟩:=h;refine ⟨σd,G,_,rs,c,t,fun b G1 H1 c1 l1 t1=>?_⟩;cases b with
 | true=>rw [if_pos rfl] at t1 ⊢;exact ⟨σd,G1,d,rs.le l1,c1,t1,f.le l1⟩
 | false=>rw [if_neg Bool.false_ne_true] at t1 ⊢;exact ⟨σd,G1,d,rs.le l1,c1,t1,f.le l1⟩
theorem v23 {i:Nat} {v:V} {Q:St->Hp->Prop} (h:lowG K (uo4 i) v σ H Q):vw9 i v σ H Q:=by
 obtain ⟨d,σd,G,q,r,rs,c,t,f⟩:=h;exact f _ _ _ _ (rs.set i r) c (Le.refl H) t
theorem vc0 {vs:List V} {Q:St->Hp->Prop} (h:vc9 K jNil vs σ H Q):gNil vs σ H Q:=by
 obtain ⟨ds,σd,G,q,r,rs,c,⟨e,t⟩,f⟩:=h;subst e;exact ⟨r.inv_nil,f _ _ _ _ rs c (Le.refl H) t⟩
theorem v24 {t:TG3} {u:TGs3} {vs:List V} {Q:St->Hp->Prop} (h:vc9 K (vw2 t u) vs σ H Q):we3 (lowG K t) (vc9 K u) vs σ H Q:=by
 obtain ⟨ds,σd,G,q,r,rs,c,t,f⟩:=h;cases ds with
 | nil=>exact t.elim
 | cons d ds =>
  obtain ⟨x,xs,rfl,r1,r2⟩:=r.inv_cons;exact ⟨x,xs,rfl,d,σd,G,_,r1,rs,c,t,fun σd' G' σ' H' rs' c' l' t'=>⟨ds,σd',G',q,RelDs.le l' r2,rs',c',t',f.le l'⟩⟩
theorem vb9 {to ti:TE3} {t:TSet3} {v:V} {Q:St->Hp->Prop} (h:lowG K (jSub to ti t) v σ H Q):gSub (lowE K to) (lowE K ti) (v27 K t) v σ H Q:=by
 obtain ⟨d,σd,G,q,r,rs,c,t,f⟩:=h;exact ⟨σd,G,_,rs,c,t,fun o G1 vo H1 r1 c1 l1 t1=>⟨σd,G1,_,rs.le l1,c1,t1,fun i G2 vi H2 r2 c2 l2 t2=>⟨o,i,d,G2,_,RelD.le l2 r1,r2,RelD.le (l1.trans l2) r,c2,t2,fun G3 H3 c3 l3 t3 =>
  f _ _ _ _ (rs.le (l1.trans (l2.trans l3))) c3 (l1.trans (l2.trans l3)) t3⟩⟩⟩
theorem vv2 {te:TE3} {g:TG3} (h:lowS K (dAsg te g) E σ H):tAsg (lowE K te) (lowG K g) E σ H:=by
 obtain ⟨σd,G,d,rs,c,t,f⟩:=h;exact ⟨σd,G,_,rs,c,t,fun x G1 v H1 r1 c1 l1 t1=>⟨x,σd,G1,_,r1,rs.le l1,c1,t1,f.nx.le l1⟩⟩
end
def whN (c:TT3) (tb:TS3) (E:Ends3):Nat->DSt->Gp->Prop
 | 0,_,_=>False
 | n+1,σ,G=>c σ G fun b G1=>if b=true then tb { E with nx:=whN c tb E n,ct:=whN c tb E n,bk:=E.nx } σ G1 else E.nx σ G1
def v61 (c:TT3) (tb:TS3):TS3:=fun E σ G=>∃ n,whN c tb E n σ G
theorem v20 {K:W.Frag} {c:TT3} {tb:TS3} {σ:St} {H:Hp} {E:Ends} (h:lowS K (v61 c tb) E σ H):vh6 (lowT K c) (lowS K tb) E σ H:=by
 obtain ⟨σd,G,d,rs,cc,⟨n,t⟩,f⟩:=h;refine ⟨fun m σ' H'=>∃ σd' G',Le H H' /\ RelSt K H' σd' σ' /\ Con K G' H' /\ whN c tb d m σd' G',⟨n,σd,G,Le.refl H,rs,cc,t⟩,?_⟩;rintro m σ1 H1 ⟨σd1,G1,l1,rs1,c1,t1⟩;cases m with
 | zero=>exact t1.elim
 | succ m =>
  refine ⟨σd1,G1,_,rs1,c1,t1,fun b G2 H2 c2 l2 t2=>?_⟩;cases b with
  | true =>
   rw [if_pos rfl] at t2 ⊢;refine ⟨fun σ' H'=>∃ σd' G',Le H H' /\ RelSt K H' σd' σ' /\ Con K G' H' /\ whN c tb d m σd' G',fun σ' H' w=>⟨m,Nat.lt_succ_self m,w⟩,σd1,G2,_,rs1.le l2,c2,t2,?_,?_,?_,?_⟩
   ·exact fun σd3 G3 σ3 H3 rs3 c3 l3 t3=>⟨σd3,G3,l1.trans (l2.trans l3),rs3,c3,t3⟩
   ·exact f.rt.le (l1.trans l2)
   ·exact f.nx.le (l1.trans l2)
   ·exact fun σd3 G3 σ3 H3 rs3 c3 l3 t3=>⟨σd3,G3,l1.trans (l2.trans l3),rs3,c3,t3⟩
  | false =>
   rw [if_neg Bool.false_ne_true] at t2 ⊢;exact f.nx _ _ _ _ (rs1.le l2) c2 (l1.trans l2) t2
structure IT where
 items:List D
 ok:Gp->Prop
structure ItRel (K:W.Frag) (H0:Hp) (it:IT) (J:It):Prop where
 go:∀ (i:Nat) G H,Le H0 H->Con K G H->it.ok G->i < it.items.length->J.go i H
 stop:∀ (i:Nat) G H,Le H0 H->Con K G H->it.ok G->it.items.length<=i->J.stop i H
 yld:∀ (i:Nat) G H x H',Le H0 H->Con K G H->it.ok G->i < it.items.length->J.yld i H x H'->Con K G H' /\ Le H H' /\ ∃ d,it.items[i]?=some d /\ RelD K H' d x
abbrev TI3:=DSt->Gp->(IT->Gp->Prop)->Prop
def lowI (K:W.Frag) (t:TI3):TI:=fun σ H R=>∃ σd G r,RelSt K H σd σ /\ Con K G H /\ t σd G r /\ ∀ it J G' H',ItRel K H' it J->Con K G' H'->Le H H'->r it G'->R J H'
def forL (ok:Gp->Prop) (g:TG3) (tb:TS3) (E:Ends3):List D->DSt->Gp->Prop
 | [],σ,G=>ok G /\ E.nx σ G
 | x::r,σ,G=>ok G /\ g x σ G fun σ1 G1=>tb { E with nx:=forL ok g tb E r,ct:=forL ok g tb E r,bk:=E.nx } σ1 G1
def dFor (wi:TI3) (g:TG3) (tb:TS3):TS3:=fun E σ G=>wi σ G fun it G1=>forL it.ok g tb E it.items σ G1
theorem vu9 {K:W.Frag} {wi:TI3} {g:TG3} {tb:TS3} {σ:St} {H:Hp} {E:Ends} (h:lowS K (dFor wi g tb) E σ H):tFor (lowI K wi) (lowG K g) (lowS K tb) E σ H:=by
 obtain ⟨σd,G,d,rs,cc,t,f⟩:=h;refine ⟨σd,G,_,rs,cc,t,fun it J G1 H1 ir c1 l1 t1=>?_⟩;refine ⟨fun i m σ' H'=>∃ σd' G',Le H1 H' /\ RelSt K H' σd' σ' /\ Con K G' H' /\ i+m=it.items.length /\ forL it.ok g tb d (it.items.drop i) σd' G',⟨it.items.length,σd,G1,Le.refl _,rs.le l1,c1,by omega,by rw [List.drop_zero];exact t1⟩,?_⟩;rintro i m σ2 H2 ⟨σd2,G2,l2,rs2,c2,e2,t2⟩
 by_cases hi:i < it.items.length
 ·rw [List.drop_eq_getElem_cons hi] at t2
  obtain ⟨ok2,t2⟩:=t2;refine .inr ⟨ir.go i G2 H2 l2 c2 ok2 hi,fun σ' H'=>∃ σd' G',Le H1 H' /\ RelSt K H' σd' σ' /\ Con K G' H' /\ forL it.ok g tb d (it.items.drop (i+1)) σd' G',?_,?_⟩
  ·rintro σ' H' ⟨σd',G',a1,a2,a3,a4⟩
   exact ⟨m - 1,by omega,σd',G',a1,a2,a3,by omega,a4⟩
  ·intro x H3 y
   obtain ⟨c3,l3,e,he,r3⟩:=ir.yld i G2 H2 x H3 l2 c2 ok2 hi y;rw [List.getElem?_eq_getElem hi] at he;cases he;refine ⟨_,σd2,G2,_,r3,rs2.le l3,c3,t2,fun σd4 G4 σ4 H4 rs4 c4 l4 t4=>?_⟩;have l14:Le H1 H4:=l2.trans (l3.trans l4);have key:FutS K H4 (forL it.ok g tb d (it.items.drop (i+1))) (fun σ' H'=>∃ σd' G',Le H1 H' /\ RelSt K H' σd' σ' /\ Con K G' H' /\ forL it.ok g tb d (it.items.drop (i+1)) σd' G') :=
    fun σd5 G5 σ5 H5 rs5 c5 l5 t5=>⟨σd5,G5,l14.trans l5,rs5,c5,t5⟩
   exact ⟨σd4,G4,_,rs4,c4,t4,key,f.rt.le (l1.trans l14),f.nx.le (l1.trans l14),key⟩
 ·rw [List.drop_eq_nil_of_le (by omega)] at t2
  exact .inl ⟨ir.stop i G2 H2 l2 c2 t2.1 (by omega),f.nx _ _ _ _ rs2 c2 (l1.trans l2) t2.2⟩
theorem RelDs.at_ {K:W.Frag} {H:Hp} {ds:List D} {xs:List V} {i:Nat} {x:V} (h:RelDs K H ds xs) (e:xs[i]?=some x):∃ d,ds[i]?=some d /\ RelD K H d x:=by
 have hl:i < ds.length:=by rw [h.length];exact (List.getElem?_eq_some_iff.mp e).1
 obtain ⟨y,hy,r⟩:=h.get (List.getElem?_eq_getElem hl);rw [e] at hy;cases hy;exact ⟨_,List.getElem?_eq_getElem hl,r⟩
theorem v40 {K:W.Frag} {H0:Hp} {a:Addr} {ds:List D} {xs:List V} (s:SqT K H0 a xs) (r:RelDs K H0 ds xs):ItRel K H0 ⟨ds,fun _=>True⟩ (Itt K a) where
 go:=fun i G H l c _ hi=>⟨xs,xs[i]'(by rw [<- r.length];exact hi),l.sqT s,List.getElem?_eq_getElem _⟩
 stop:=fun i G H l c _ hi=>⟨xs,l.sqT s,by rw [<- r.length];exact hi⟩
 yld:=fun i G H x H' l c _ hi y=>by
  obtain ⟨e,y⟩:=y;subst e;have hx:=y xs (l.sqT s);obtain ⟨d,hd,rd⟩:=(RelDs.le l r).at_ hx
  exact ⟨c,Le.refl _,d,hd,rd⟩
def u11:Option DO->Option (List D)
 | some (.lst xs)=>some xs
 | some (.fro xs)=>some xs
 | _=>none
theorem u31 {K:W.Frag} {G:Gp} {H:Hp} {a:Addr} {ds:List D} (c:Con K G H) (h:u11 (G a)=some ds):∃ xs,SqL K H a xs /\ RelDs K H ds xs:=by
 cases e:G a with
 | none=>rw [e] at h;cases h
 | some o =>
  rw [e] at h;have q:=c a o e;cases o with
  | lst xs=>cases h;obtain ⟨ys,q,r⟩:=q;exact ⟨ys,.inl (.inl q),r⟩
  | fro xs=>cases h;obtain ⟨o,ys,q,r⟩:=q;exact ⟨ys,.inl (.inr ⟨o,q⟩),r⟩
  | dic _=>cases h
  | dit _=>cases h
  | ins _ _=>cases h
  | exc _ _=>cases h
  | frd _ _=>cases h
  | tb _ _=>cases h
theorem uv9 {K:W.Frag} {H0:Hp} {a:Addr} {ds:List D}:ItRel K H0 ⟨ds,fun G=>u11 (G a)=some ds⟩ (Itl K a) where
 go:=fun i G H l c ok hi=>by
  obtain ⟨xs,s,r⟩:=u31 c ok;exact ⟨xs,xs[i]'(by rw [<- r.length];exact hi),s,List.getElem?_eq_getElem _⟩
 stop:=fun i G H l c ok hi=>by
  obtain ⟨xs,s,r⟩:=u31 c ok;exact ⟨xs,s,by rw [<- r.length];exact hi⟩
 yld:=fun i G H x H' l c ok hi y=>by
  obtain ⟨e,y⟩:=y;subst e;obtain ⟨xs,s,r⟩:=u31 c ok;obtain ⟨d,hd,rd⟩:=r.at_ (y xs s)
  exact ⟨c,Le.refl _,d,hd,rd⟩
def rngD (lo:Int) (n:Nat):List D:=(List.range n).map fun (i:Nat)=>.int (lo+i)
theorem ub4 {K:W.Frag} {H0:Hp} {lo:Int} {n:Nat}:ItRel K H0 ⟨rngD lo n,fun _=>True⟩ (Itr lo n) where
 go:=fun i G H l c _ hi=>by
  have:i < n:=by simpa [rngD] using hi
  exact this
 stop:=fun i G H l c _ hi=>by
  have:n<=i:=by simpa [rngD] using hi
  exact this
 yld:=fun i G H x H' l c _ hi y=>by
  obtain ⟨e,y⟩:=y;subst e;subst y;refine ⟨c,Le.refl _,.int (lo+i),?_,by rw [RelD]⟩;have:i < n:=by simpa [rngD] using hi
  simp [rngD,this]
abbrev Sp3:=List D->Gp->DK->Prop
def uk1 (K:W.Frag) (S:Sp3):Sp:=fun vs H Q _=>∃ ds G R,RelDs K H ds vs /\ Con K G H /\ S ds G R /\ FutE K H R Q
def dCall (S:Sp3) (dds:List D) (t:TA3):TE3:=fun σ G q=>t σ G fun ds G1=>∃ R,S (ds++dds) G1 R /\ ∀ d G',R d G'->q d G'
def wl6 (C:Addr) (m:Str) (S:Sp3) (dds:List D) (ta:TE3) (t:TA3):TE3:=fun σ G q=>ta σ G fun x G1=>match x with
 | .ref a=>(match G1 a with
  | some (.ins C' fs)=>C'=C /\ fs.lookup m=none /\ t σ G1 fun ds G2=>∃ R,S (.ref a::(ds++dds)) G2 R /\ ∀ d G',R d G'->q d G'
  | _=>False)
 | _=>False
def wl7 (C:Addr) (S:Sp3) (dds:List D) (t:TA3):TE3:=fun σ G q=>t σ G fun ds G1=>∀ x,G1 x=none ->
 ∃ R,S (.ref x::(ds++dds)) (gup G1 x (.ins C [])) R /\ ∀ d G',R d G'->d=.non /\ q (.ref x) G'
def putD (f:Str) (v:D):List (Str × D)->List (Str × D)
 | []=>[(f,v)]
 | (g,u)::r=>if g=f then (g,v)::r else (g,u)::putD f v r
def dFld (C:Addr) (ta:TE3) (f:Str):TE3:=fun σ G q=>ta σ G fun x G1=>match x with
 | .ref a=>(match G1 a with
  | some (.ins C' fs)=>C'=C /\ (match fs.lookup f with | some d=>q d G1 | none=>False)
  | _=>False)
 | _=>False
def wl3 (C:Addr) (ta tv:TE3) (f:Str):TS3:=fun E σ G=>tv σ G fun y G1=>ta σ G1 fun x G2=>match x with
 | .ref a=>(match G2 a with
  | some (.ins C' fs)=>C'=C /\ fs.length < 1000 /\ E.nx σ (gup G2 a (.ins C (putD f y fs)))
  | _=>False)
 | _=>False
def wl8 (C:Addr) (ta tv:TE3) (r:R3) (f:Str):TS3:=fun E σ G=>ta σ G fun x G1=>match x with
 | .ref a=>(match G1 a with
  | some (.ins C' fs)=>C'=C /\ (match fs.lookup f with
   | some d=>tv σ G1 fun y G2=>r d y G2 fun z G3=>(match G3 a with
    | some (.ins C'' fs')=>C''=C /\ fs'.length < 1000 /\ E.nx σ (gup G3 a (.ins C (putD f z fs')))
    | _=>False)
   | none=>False)
  | _=>False)
 | _=>False
section
variable {K:W.Frag} {σ:St} {H:Hp} {Q:VK} {E:Ends}
theorem vc6 {S:Sp3} {dds:List D} {dvs:List V} {t:TA3} {XE:XK} (hd:∀ H,RelDs K H dds dvs) (h:lowE K (dCall S dds t) σ H Q):w39 (uk1 K S) dvs XE (lowA K t) σ H Q:=by
 obtain ⟨σd,G,q,rs,c,t,f⟩:=h;exact ⟨σd,G,_,rs,c,t,fun ds G1 vs H1 r1 c1 l1 ⟨R,s1,t1⟩=>⟨_,G1,R,r1.append (hd H1),c1,s1,fun d G2 v H2 r2 c2 l2 t2=>f d G2 v H2 r2 c2 (l1.trans l2) (t1 d G2 t2)⟩⟩
theorem RelD.refI {a:Addr}:RelD K H (.ref a) (.ref a):=by rw [RelD]
theorem RelD.ref_inv {a:Addr} {v:V} (h:RelD K H (.ref a) v):v=.ref a:=by rw [RelD] at h;exact h
theorem RelPs.lookup {κ:Type} [BEq κ] {k:κ} {d:D}:∀ {ps:List (κ × D)} {qs:List (κ × V)},RelPs K H ps qs->ps.lookup k=some d->∃ v,qs.lookup k=some v /\ RelD K H d v
 | [],qs,h,e=>by cases e
 | (g,d')::ps,qs,h,e=>by
  cases qs with
  | nil=>have:=h.1;simp at this
  | cons q qs =>
   obtain ⟨g',v⟩:=q;have h1:=h.1;simp only [List.map_cons,List.cons.injEq] at h1;obtain ⟨rfl,h1⟩:=h1;obtain ⟨x,r,e2,r1,h2⟩:=(show RelDs K H (d'::ps.map (·.2)) (v::qs.map (·.2)) from h.2).inv_cons;cases e2;rw [List.lookup_cons] at e ⊢;cases hk:k == g with
   | true=>rw [hk] at e;cases e;exact ⟨v,rfl,r1⟩
   | false=>rw [hk] at e;exact RelPs.lookup ⟨h1,h2⟩ e
theorem RelPs.nil {κ:Type}:RelPs (κ:=κ) K H [] []:=⟨rfl,.nil⟩
theorem RelPs.cons {κ:Type} {k:κ} {d:D} {v:V} {ps:List (κ × D)} {qs:List (κ × V)} (r:RelD K H d v) (h:RelPs K H ps qs):RelPs K H ((k,d)::ps) ((k,v)::qs) :=
 ⟨by simp [h.1],.cons r h.2⟩
theorem RelPs.inv_cons {κ:Type} {k:κ} {d:D} {ps:List (κ × D)} {qs:List (κ × V)} (h:RelPs K H ((k,d)::ps) qs):∃ v r,qs=(k,v)::r /\ RelD K H d v /\ RelPs K H ps r:=by
 cases qs with
 | nil=>have:=h.1;simp at this
 | cons q qs =>
  obtain ⟨g',v⟩:=q;have h1:=h.1;simp only [List.map_cons,List.cons.injEq] at h1;obtain ⟨rfl,h1⟩:=h1;obtain ⟨x,r,e2,r1,h2⟩:=(show RelDs K H (d::ps.map (·.2)) (v::qs.map (·.2)) from h.2).inv_cons;cases e2;exact ⟨v,qs,rfl,r1,h1,h2⟩
theorem RelPs.inv_nil {κ:Type} {qs:List (κ × V)} (h:RelPs K H [] qs):qs=[]:=by
 cases qs with
 | nil=>rfl
 | cons _ _=>have:=h.1;simp at this
theorem RelPs.length {κ:Type} {ps:List (κ × D)} {qs:List (κ × V)} (h:RelPs K H ps qs):ps.length=qs.length:=by
 have:=h.2.length;simpa using this
theorem wk7 {te:TE3} {Q:Bool->Hp->Prop} (h:lowT K (dB te) σ H Q):tB (lowE K te) σ H Q:=by
 obtain ⟨σd,G,q,rs,c,t,f⟩:=h;refine ⟨σd,G,_,rs,c,t,fun x G1 v H1 r1 c1 l1 t1=>?_⟩;split at t1
 ·rename_i k
  exact ⟨k,r1.bl_inv,f _ _ _ c1 l1 t1⟩
 ·exact t1.elim
theorem vc7 {ta tb:TE3} (h:lowE K (vy3 ta tb) σ H Q):w40 (lowE K ta) (lowE K tb) σ H Q:=by
 obtain ⟨σd,G,q,rs,c,t,f⟩:=h;refine ⟨σd,G,_,rs,c,t,fun x G1 v H1 r1 c1 l1 t1=>?_⟩;split at t1
 ·rename_i k
  refine ⟨k,r1.bl_inv,?_⟩;cases k with
  | true=>rw [if_pos rfl] at t1 ⊢;exact ⟨σd,G1,q,rs.le l1,c1,t1,f.le l1⟩
  | false=>rw [if_neg Bool.false_ne_true] at t1 ⊢;exact f _ _ _ _ (by rw [RelD]) c1 l1 t1
 ·exact t1.elim
theorem vu3 {ta tb:TE3} (h:lowE K (dOrV ta tb) σ H Q):tOrV (lowE K ta) (lowE K tb) σ H Q:=by
 obtain ⟨σd,G,q,rs,c,t,f⟩:=h;refine ⟨σd,G,_,rs,c,t,fun x G1 v H1 r1 c1 l1 t1=>?_⟩;split at t1
 ·rename_i k
  refine ⟨k,r1.bl_inv,?_⟩;cases k with
  | false=>rw [if_neg Bool.false_ne_true] at t1 ⊢;exact ⟨σd,G1,q,rs.le l1,c1,t1,f.le l1⟩
  | true=>rw [if_pos rfl] at t1 ⊢;exact f _ _ _ _ (by rw [RelD]) c1 l1 t1
 ·exact t1.elim
theorem vb6 {ta:TE3} (h:lowE K (vx7 ta) σ H Q):w33 (lowE K ta) σ H Q:=by
 obtain ⟨σd,G,q,rs,c,t,f⟩:=h;refine ⟨σd,G,_,rs,c,t,fun x G1 v H1 r1 c1 l1 t1=>?_⟩;split at t1
 ·rename_i k
  exact ⟨k,r1.bl_inv,f _ _ _ _ (by rw [RelD]) c1 l1 t1⟩
 ·exact t1.elim
def dAug (i:Nat) (te:TE3) (r:R3):TS3:=fun E σ G=>match σ[i]? with
 | some (some x)=>te σ G fun y G1=>r x y G1 fun z G2=>E.nx (σ.set i (some z)) G2
 | _=>False
theorem vv1 {i:Nat} {te:TE3} {r:R3} (h:lowS K (dAug i te r) E σ H):tAug i (lowE K te) (lowR K r) E σ H:=by
 obtain ⟨σd,G,d,rs,c,t,fu⟩:=h;unfold dAug at t;split at t
 ·rename_i x e
  obtain ⟨v,hv,r1⟩:=rs.2 i x e;refine ⟨v,hv,σd,G,_,rs,c,t,fun y G1 u H1 r2 c1 l1 t1=>?_⟩;exact ⟨x,y,G1,_,RelD.le l1 r1,r2,c1,t1,fun z G2 vz H2 r3 c2 l2 t2=>fu.nx _ _ _ _ ((rs.le (l1.trans l2)).set i r3) c2 (l1.trans l2) t2⟩
 ·exact t.elim
abbrev TO3:=DSt->Gp->(Option Int->Gp->Prop)->Prop
def vx8:TO3:=fun _ G q=>q none G
def wl5 (t:TE3):TO3:=fun σ G q=>t σ G fun x G1=>match x with | .int i=>q (some i) G1 | _=>False
abbrev RS3:=D->Option Int->Option Int->Gp->DK->Prop
def dSl (r:RS3) (te:TE3) (tl th:TO3):TE3:=fun σ G q=>te σ G fun x G1=>tl σ G1 fun l G2=>th σ G2 fun u G3=>r x l u G3 q
def dCB (r:C3) (t:TA3):TE3:=fun σ G q=>t σ G fun ds G1=>r ds G1 q
theorem vk5 {r:C3} {t:TA3} (h:lowE K (dCB r t) σ H Q):tCB (lowC K r) (lowA K t) σ H Q:=by
 obtain ⟨σd,G,q,rs,c,t,f⟩:=h;exact ⟨σd,G,_,rs,c,t,fun ds G1 vs H1 r1 c1 l1 t1=>⟨ds,G1,q,r1,c1,t1,f.le l1⟩⟩
abbrev M3:=D->List D->Gp->DK->Prop
def lowM (K:W.Frag) (r:M3):V->List V->Hp->VK->Prop:=fun x xs H Q=>∃ d ds G q,RelD K H d x /\ RelDs K H ds xs /\ Con K G H /\ r d ds G q /\ FutE K H q Q
def tyD (G:Gp) (T:String):D->Prop
 | .str _=>T = "str"
 | .int _=>T = "int"
 | .ref a=>match G a with
  | some (.lst _)=>T = "list"
  | some (.fro _)=>T = "list"
  | some (.dic _)=>T = "dict"
  | _=>False
 | _=>False
def dBM (T:String) (r:M3) (to:TE3) (t:TA3):TE3:=fun σ G q=>to σ G fun x G1=>tyD G1 T x /\ t σ G1 fun ds G2=>r x ds G2 q
def dBM0 (T:String) (r:M3) (to:TE3):TE3:=fun σ G q=>to σ G fun x G1=>tyD G1 T x /\ r x [] G1 q
theorem wc3 {T:String} {r:M3} {to:TE3} {t:TA3} (ty:∀ G H x v,Con K G H->RelD K H x v->tyD G T x->tyV K T v H) (h:lowE K (dBM T r to t) σ H Q):tBM K T (lowM K r) (lowE K to) (lowA K t) σ H Q:=by
 obtain ⟨σd,G,q,rs,c,t,f⟩:=h;exact ⟨σd,G,_,rs,c,t,fun x G1 v H1 r1 c1 l1 ⟨y,t1⟩=>⟨ty G1 H1 x v c1 r1 y,σd,G1,_,rs.le l1,c1,t1,fun ds G2 vs H2 r2 c2 l2 t2=>⟨x,ds,G2,q,RelD.le l2 r1,r2,c2,t2,f.le (l1.trans l2)⟩⟩⟩
theorem vv0 {T:String} {r:M3} {to:TE3} (ty:∀ G H x v,Con K G H->RelD K H x v->tyD G T x->tyV K T v H) (h:lowE K (dBM0 T r to) σ H Q):tBM0 K T (lowM K r) (lowE K to) σ H Q:=by
 obtain ⟨σd,G,q,rs,c,t,f⟩:=h;exact ⟨σd,G,_,rs,c,t,fun x G1 v H1 r1 c1 l1 ⟨y,t1⟩=>⟨ty G1 H1 x v c1 r1 y,x,[],G1,q,r1,.nil,c1,t1,f.le l1⟩⟩
end
end L3
namespace L3
open PySem PySem.Spec PyProof.Rows L2
section
variable {X:Cx}
theorem u28 {e:Expr} {t t':TE} (h:PE X e t) (w:∀ σ H Q,t' σ H Q->t σ H Q):PE X e t':=fun pins s σ H Q I q=>h pins s σ H Q I (w _ _ _ q)
theorem vn1 {e:Expr} {t t':TT} (h:PT X e t) (w:∀ σ H Q,t' σ H Q->t σ H Q):PT X e t':=fun pins s σ H Q I q=>h pins s σ H Q I (w _ _ _ q)
theorem w16 {e:Expr} {t t':TT} (h:PW X e t) (w:∀ σ H Q,t' σ H Q->t σ H Q):PW X e t':=fun wh pins s σ H Q I q=>h wh pins s σ H Q I (w _ _ _ q)
theorem w18 {e:List Expr} {t t':TA} (h:PA X e t) (w:∀ σ H Q,t' σ H Q->t σ H Q):PA X e t':=fun pos pins s σ H Q I q=>h pos pins s σ H Q I (w _ _ _ q)
theorem ua5 {e:Stmt} {t t':TS} (h:PS X e t) (w:∀ D σ H,t' D σ H->t D σ H):PS X e t':=fun pins s σ H D I q=>h pins s σ H D I (w _ _ _ q)
theorem vg6 {e:List Stmt} {t t':TS} (h:PSs X e t) (w:∀ D σ H,t' D σ H->t D σ H):PSs X e t':=fun pins s σ H D I q=>h pins s σ H D I (w _ _ _ q)
theorem vn4 {e:Expr} {t t':TG} (h:PG X e t) (w:∀ v σ H Q,t' v σ H Q->t v σ H Q):PG X e t':=fun pins s σ H v u Q I r q=>h pins s σ H v u Q I r (w _ _ _ _ q)
theorem vg8 {e:List Expr} {t t':TGs} (h:PGs X e t) (w:∀ v σ H Q,t' v σ H Q->t v σ H Q):PGs X e t':=fun pins s σ H v u Q I r q=>h pins s σ H v u Q I r (w _ _ _ _ q)
theorem vn2 {t t':TSet} (h:PSet X t) (w:∀ o i v H Q,t' o i v H Q->t o i v H Q):PSet X t':=fun pins s σ H o i v ov iv u Q I r1 r2 r3 q=>h pins s σ H o i v ov iv u Q I r1 r2 r3 (w _ _ _ _ _ q)
theorem v85 {tg e:Expr} {t t':TI} (h:PI X tg e t) (w:∀ σ H R,t' σ H R->t σ H R):PI X tg e t':=fun pins s σ H R I q=>h pins s σ H R I (w _ _ _ q)
theorem u62 {f:Value->Value->Sem Value} {r r':R2} (h:OpR X f r) (w:∀ x y H Q,r' x y H Q->r x y H Q):OpR X f r':=fun pins s σ H x y v u Q I a b q=>h pins s σ H x y v u Q I a b (w _ _ _ _ q)
theorem vg5 {f:Value->Sem Value} {r r':V->Hp->VK->Prop} (h:UnR X f r) (w:∀ x H Q,r' x H Q->r x H Q):UnR X f r':=fun pins s σ H x v Q I a q=>h pins s σ H x v Q I a (w _ _ _ q)
theorem u33 {f:Value} {r r':List V->Hp->VK->Prop} (h:CallR X f r) (w:∀ x H Q,r' x H Q->r x H Q):CallR X f r':=fun pins s σ H x v Q I a q=>h pins s σ H x v Q I a (w _ _ _ q)
theorem vg7 {id:String} {r r':V->List V->Hp->VK->Prop} (h:MtR X id r) (w:∀ x xs H Q,r' x xs H Q->r x xs H Q):MtR X id r':=fun pins s σ H x xs v us Q I a b q=>h pins s σ H x xs v us Q I a b (w _ _ _ _ q)
theorem w17 {r r':R2} (h:IxR X r) (w:∀ x y H Q,r' x y H Q->r x y H Q):IxR X r':=fun va sl pins s σ H x y v u Q I a b q=>h va sl pins s σ H x y v u Q I a b (w _ _ _ _ q)
theorem vn3 {e:List Expr} {t t':TT} (h:PIfs X e t) (w:∀ σ H Q,t' σ H Q->t σ H Q):PIfs X e t':=fun pins s σ H Q I q=>h pins s σ H Q I (w _ _ _ q)
end
def E3 (X:Cx) (e:Expr) (t:TE3):Prop:=PE X e (lowE X.K t)
def T3 (X:Cx) (e:Expr) (t:TT3):Prop:=PT X e (lowT X.K t)
def W3 (X:Cx) (e:Expr) (t:TT3):Prop:=PW X e (lowT X.K t)
def A3 (X:Cx) (es:List Expr) (t:TA3):Prop:=PA X es (lowA X.K t)
def S3 (X:Cx) (st:Stmt) (t:TS3):Prop:=PS X st (lowS X.K t)
def Ss3 (X:Cx) (sts:List Stmt) (t:TS3):Prop:=PSs X sts (lowS X.K t)
def J3 (X:Cx) (e:Expr) (t:TG3):Prop:=PG X e (lowG X.K t)
def Js3 (X:Cx) (es:List Expr) (t:TGs3):Prop:=PGs X es (vc9 X.K t)
def I3 (X:Cx) (tg e:Expr) (t:TI3):Prop:=PI X tg e (lowI X.K t)
def Ifs3 (X:Cx) (es:List Expr) (t:TT3):Prop:=PIfs X es (lowT X.K t)
abbrev Op3 (X:Cx) (f:Value->Value->Sem Value) (r:R3):Prop:=OpR X f (lowR X.K r)
abbrev Call3 (X:Cx) (f:Value) (r:C3):Prop:=CallR X f (lowC X.K r)
section
variable {X:Cx} {a b c e o:Expr} {es:List Expr} {pos apos cpos p p2:Pos} {ta tb tc te:TE3} {t u:TT3} {ts us:TA3}
theorem ev (i:Nat) {x:Str} {pos:Pos} (hN:X.N[i]?=some x:=by rfl) (hv:Vis X.env.scope x:=by first | exact Or.inl rfl | exact Or.inr (Or.inl rfl) | exact Or.inr (Or.inr rfl)) (hd:(x == ("__debug__" : Str))=false:=by decide)
  (hcd:(x == ("__classdict__" : Str))=false:=by decide):E3 X (.Name x pos) (dVar i):=u28 (w55 hN hv hd hcd) fun _ _ _=>vt9
theorem u03 {i j pos}:E3 X (.Constant (.int i) j pos) (dC (.int i)):=u28 w61 fun _ _ _=>v26 fun _=>by rw [RelD]
theorem e_bl {i j pos}:E3 X (.Constant (.bool i) j pos) (dC (.bl i)):=u28 wk2 fun _ _ _=>v26 fun _=>by rw [RelD]
theorem vd7 {j pos}:E3 X (.Constant .none j pos) (dC .non):=u28 w59 fun _ _ _=>v26 fun _=>by rw [RelD]
theorem uo9 {x j pos}:E3 X (.Constant (.str x) j pos) (dC (.str x)):=u28 w56 fun _ _ _=>v26 fun _=>by rw [RelD]
theorem u08 {op:Operator} {r:R3} (ho:Op3 X (binaryOp op) r) (ha:E3 X a ta) (hb:E3 X b tb):E3 X (.BinOp a op b pos) (dOp r ta tb):=u28 (wj9 ho ha hb) fun _ _ _=>us5
theorem e_un {op:UnaryOp} {r:U3} (ho:UnR X (unaryOp op) (lowU X.K r)) (ha:E3 X a ta):E3 X (.UnaryOp op a pos) (dUn r ta):=u28 (wj7 ho ha) fun _ _ _=>wc1
theorem up0 {op:CmpOp} {r:R3} (ho:Op3 X (compareOp op) r) (ha:E3 X a ta) (hb:E3 X b tb) (hm:behindInMarks op b=false):E3 X (.Compare a [op] [b] pos) (dOp r ta tb):=u28 (vs4 ho ha hb hm) fun _ _ _=>us5
theorem u25 {op:CmpOp} {r:R3} (ho:Op3 X (compareOp op) r) (ha:E3 X a ta) (hb:E3 X b tb) (hm:behindInMarks op b=false):T3 X (.Compare a [op] [b] pos) (dB (dOp r ta tb)) :=
 vn1 (vq9 ho ha hb hm) fun σ H Q h=>by
  obtain ⟨σd,G,q,rs,c,t,f⟩:=h;exact us5 (K:=X.K) ⟨σd,G,_,rs,c,t,fun x G1 v H1 r1 c1 l1 t1=>by
   split at t1
   ·rename_i k
    exact ⟨k,r1.bl_inv,f _ _ _ c1 l1 t1⟩
   ·exact t1.elim⟩
theorem un0 (h:E3 X e te) (he:∀ whole,isTrue e X.env whole=(do let v <- whole;standAt e.pos;holding [v] (truthy v)):=by intro _;rfl):T3 X e (dB te):=vn1 (w45 h he) fun _ _ _=>wk7
theorem w25 (ha:T3 X a t):W3 X (.BoolOp .And [a] pos) t:=vq7 ha
theorem um7 (ha:T3 X a t):W3 X (.BoolOp .Or [a] pos) t:=w43 ha
theorem w_and {rest:List Expr} (ha:T3 X a t) (hb:W3 X (.BoolOp .And (b::rest) pos) u):W3 X (.BoolOp .And (a::b::rest) pos) (dAnd t u):=w16 (w44 ha hb) fun _ _ _=>vc8
theorem w_or {rest:List Expr} (ha:T3 X a t) (hb:W3 X (.BoolOp .Or (b::rest) pos) u):W3 X (.BoolOp .Or (a::b::rest) pos) (dOr t u):=w16 (wj4 ha hb) fun _ _ _=>vu4
theorem t_w (h:W3 X e t):T3 X e t:=PW.pt h
theorem uy2 (ha:T3 X a t):T3 X (.UnaryOp .Not a pos) (dNot t):=vn1 (w46 ha) fun _ _ _=>vb7
theorem v50 {op} (h:E3 X a ta):E3 X (.BoolOp op [a] pos) ta:=w57 h
theorem vx2 {rest:List Expr} (ha:E3 X a ta) (hb:E3 X (.BoolOp .And (b::rest) pos) tb):E3 X (.BoolOp .And (a::b::rest) pos) (vy3 ta tb):=u28 (w63 ha hb) fun _ _ _=>vc7
theorem e_or {rest:List Expr} (ha:E3 X a ta) (hb:E3 X (.BoolOp .Or (b::rest) pos) tb):E3 X (.BoolOp .Or (a::b::rest) pos) (dOrV ta tb):=u28 (wj8 ha hb) fun _ _ _=>vu3
theorem wf0 (ha:E3 X a ta):E3 X (.UnaryOp .Not a pos) (vx7 ta):=u28 (w58 ha) fun _ _ _=>vb6
theorem e_if (hc:T3 X c t) (ha:E3 X a ta) (hb:E3 X b tb):E3 X (.IfExp c a b pos) (dIf t ta tb):=u28 (va0 hc ha hb) fun _ _ _=>wc2
theorem u05:A3 X [] dNil:=w18 w65 fun _ _ _=>vu5
theorem u00 (ha:E3 X e te) (hr:A3 X es ts) (hs:starEach (e::es) X.env=(false,eval e X.env)::starEach es X.env:=by rfl):A3 X (e::es) (ve0 te ts):=w18 (vs9 ha hr hs) fun _ _ _=>vc5
theorem u60 {x1} (h:A3 X es ts):E3 X (.Tuple es x1 pos) (dTup ts):=u28 (vj8 h) fun _ _ _=>vu0
theorem u84 (h:A3 X es ts):E3 X (.List es pos) (dLst ts):=u28 (w60 h) fun _ _ _=>vu6
theorem e_ix {r:R3} (hr:IxR X (lowR X.K r)) (ha:E3 X a ta) (hb:E3 X b tb) (hs:v81 b:=by exact fun _ _=>rfl):E3 X (.Subscript a b pos) (dOp r ta tb):=u28 (wk0 hr ha hb hs) fun _ _ _=>us5
end
section
variable {X:Cx} {a b c e o value:Expr} {es:List Expr} {st:Stmt} {sts sts2:List Stmt} {pos pos' spos tpos:Pos} {te ta tv:TE3} {t:TT3} {s1 s2:TS3} {g:TG3}
theorem u30:Ss3 X [] vx9:=vg6 vr1 fun _ _ _=>vb8
theorem u02 (h1:S3 X st s1) (h2:Ss3 X sts s2):Ss3 X (st::sts) (dSeq s1 s2):=vg6 (v93 h1 h2) fun _ _ _=>vu1
theorem u07 (h1:S3 X st s1):Ss3 X [st] s1:=vr0 h1
theorem ua8 (he:E3 X e te) (hs:swapsWith e none pos.line X.env=pure false:=by rfl):S3 X (.Expr e pos) (vy2 te):=ua5 (vr3 he hs) fun _ _ _=>vc4
theorem u19 (he:E3 X e te):S3 X (.Return (some e) pos) (dRet te):=ua5 (w48 he) fun _ _ _=>vu2
theorem s_if (hc:T3 X c t) (ha:Ss3 X sts s1) (hb:Ss3 X sts2 s2):S3 X (.If c sts sts2 pos) (dIfS t s1 s2):=ua5 (wj5 hc ha hb) fun _ _ _=>vu8
theorem u22 (i:Nat) {x:Str} (hN:X.N.Nodup) (hi:X.N[i]?=some x:=by rfl) (hx:Loc X.env.scope x:=by first | exact Or.inl rfl | exact Or.inr rfl) (hf:X.fn x=true \/ X.env.scope.names.lookup x=some .local:=by first | exact .inl rfl | exact .inr rfl | assumption):J3 X (.Name x pos) (uo4 i) :=
 vn4 (vr6 hN hi hx hf) fun _ _ _ _=>v23
theorem v38:Js3 X [] jNil:=vg8 vr5 fun _ _ _ _=>vc0
theorem u89 {t:TG3} {u:TGs3} (h1:J3 X e t) (h2:Js3 X es u) (hs:(assignEach (e::es) X.env).map (·.2)=assign e X.env::(assignEach es X.env).map (·.2):=by rfl):Js3 X (e::es) (vw2 t u):=vg8 (v99 h1 h2 hs) fun _ _ _ _=>v24
theorem vw0 {i:Expr} {to ti:TE3} {t:TSet3} (ho:E3 X o to) (hi:E3 X i ti) (hs:PSet X (v27 X.K t))
  (ha:∀ v,assign (.Subscript o i pos) X.env v=(do
   let ov <- holding [v] (eval o X.env)
   let iv <- holding [v,ov] (eval i X.env)
   standAt pos
   holding [v,ov,iv] (setItem ov iv v)
   release [v,ov,iv] []):=by intro _;rfl):J3 X (.Subscript o i pos) (jSub to ti t):=vn4 (w54 ho hi hs ha) fun _ _ _ _=>vb9
theorem v91 {tg:Expr} (he:E3 X e te) (hg:J3 X tg g) (hs:swapsWithSole [tg] e pos.line X.env=pure false:=by rfl) (hw:swappedStores [tg] e X.env=pure none:=by rfl)
  (h1:(assignEach [tg] X.env).map (·.2)=[assign tg X.env]:=by rfl):S3 X (.Assign [tg] e pos) (dAsg te g):=ua5 (w51 he hg hs hw h1) fun _ _ _=>vv2
theorem u16 (i:Nat) {x:Str} (hN:X.N.Nodup) (he:E3 X e te) (hi:X.N[i]?=some x:=by rfl) (hx:Loc X.env.scope x:=by first | exact Or.inl rfl | exact Or.inr rfl) (hs:swapsWith e (some (.Name x pos')) pos.line X.env=pure false:=by rfl)
  (hf:X.fn x=true \/ X.env.scope.names.lookup x=some .local:=by first | exact .inl rfl | exact .inr rfl | assumption):S3 X (.Assign [.Name x pos'] e pos) (dAsg te (uo4 i)) :=
 ua5 (w47 hN hi hx he hs hf) fun D σ H h=>by
  obtain ⟨σd,G,q,rs,c,t,f⟩:=h;exact ⟨σd,G,_,rs,c,t,fun x G1 v H1 r1 c1 l1 t1=>f.nx _ _ _ _ ((rs.le l1).set i r1) c1 l1 t1⟩
theorem wj0 (i:Nat) {x:Str} {op:Operator} {r:R3} (hN:X.N.Nodup) (he:E3 X e te) (ho:Op3 X (inplaceOp op) r) (hi:X.N[i]?=some x:=by rfl) (hx:Loc X.env.scope x:=by first | exact Or.inl rfl | exact Or.inr rfl)
  (hf:X.fn x=true \/ X.env.scope.names.lookup x=some .local:=by first | exact .inl rfl | exact .inr rfl | assumption):S3 X (.AugAssign (.Name x pos') op e pos) (dAug i te r):=ua5 (w50 hN hi hx he ho hf) fun _ _ _=>vv1
theorem un2 {body:List Stmt} (hc:T3 X c t) (hb:Ss3 X body s1) (hp:PassesOwn (model X.prog X.w) X.A X.env X.xe:=by exact PassesOwn.never):S3 X (.While c body [] pos) (v61 t s1):=ua5 (v94 hp hc hb) fun _ _ _=>v20
theorem u80 {tg iter:Expr} {body:List Stmt} {wi:TI3} (hi:I3 X tg iter wi) (hg:J3 X tg g) (hb:Ss3 X body s1) (hc:X.calm=true:=by rfl) (hp:PassesOwn (model X.prog X.w) X.A X.env X.xe:=by exact PassesOwn.never)
  (hs:∀ x,foldedSetIterable iter X.env x=pure x:=by intro _;rfl):S3 X (.For tg iter body [] pos) (dFor wi g s1):=ua5 (w49 hp hc hi hg hb hs) fun _ _ _=>vu9
end
theorem v22 {K:W.Frag} {σ:L2.St} {H:Hp} {ta:TA3} {R:It->Hp->Prop} (h:lowI K (fun σ G r=>ta σ G fun ds G1=>match ds with | [.int j]=>(-(2 ^ 62)<=j /\ j < 2 ^ 62) /\ r ⟨rngD 0 j.toNat,fun _=>True⟩ G1 | _=>False) σ H R):wd8 (lowA K ta) σ H R:=by
 obtain ⟨σd,G,q,rs,c,t,f⟩:=h;refine ⟨σd,G,_,rs,c,t,fun ds G1 vs H1 r1 c1 l1 t1=>?_⟩;split at t1
 ·rename_i j
  obtain ⟨x,r,rfl,rx,rr⟩:=r1.inv_cons;rw [RelD] at rx;subst rx;rw [rr.inv_nil];exact ⟨j,rfl,t1.1.1,t1.1.2,f _ _ _ _ ub4 c1 l1 t1.2⟩
 ·exact t1.elim
theorem v21 {K:W.Frag} {σ:L2.St} {H:Hp} {ta:TA3} {R:It->Hp->Prop} (h:lowI K (fun σ G r=>ta σ G fun ds G1=>match ds with | [.int i,.int j]=>(-(2 ^ 62)<=i /\ i < 2 ^ 62 /\ -(2 ^ 62)<=j /\ j < 2 ^ 62) /\ r ⟨rngD i (j - i).toNat,fun _=>True⟩ G1 | _=>False) σ H R):wd7 (lowA K ta) σ H R:=by
 obtain ⟨σd,G,q,rs,c,t,f⟩:=h;refine ⟨σd,G,_,rs,c,t,fun ds G1 vs H1 r1 c1 l1 t1=>?_⟩;split at t1
 ·rename_i i j
  obtain ⟨x,r,rfl,rx,rr⟩:=r1.inv_cons;obtain ⟨y,r',rfl,ry,rr2⟩:=rr.inv_cons;rw [RelD] at rx ry;subst rx ry;rw [rr2.inv_nil];exact ⟨i,j,rfl,t1.1,f _ _ _ _ ub4 c1 l1 t1.2⟩
 ·exact t1.elim
def w27 (ta:TA3):TI3:=fun σ G r=>ta σ G fun ds G1=>match ds with | [.int j]=>(-(2 ^ 62)<=j /\ j < 2 ^ 62) /\ r ⟨rngD 0 j.toNat,fun _=>True⟩ G1 | _=>False
def w26 (ta:TA3):TI3:=fun σ G r=>ta σ G fun ds G1=>match ds with | [.int i,.int j]=>(-(2 ^ 62)<=i /\ i < 2 ^ 62 /\ -(2 ^ 62)<=j /\ j < 2 ^ 62) /\ r ⟨rngD i (j - i).toNat,fun _=>True⟩ G1 | _=>False
section
variable {X:Cx} {a b e o tg:Expr} {es:List Expr} {p pos apos cpos:Pos} {ta:TE3} {ts:TA3}
theorem ut0 (hg:Gl X "range") (hm:X.mg "range" = none) (ha:A3 X [a] ts) (hs:starEach [a] X.env=[(false,eval a X.env)]:=by rfl):I3 X tg (.Call (.Name "range" p) [a] [] pos) (w27 ts):=v85 (v00 hg hm ha hs) fun _ _ _=>v22
theorem ud3 (hg:Gl X "range") (hm:X.mg "range" = none) (ha:A3 X [a,b] ts) (hs:starEach [a,b] X.env=[(false,eval a X.env),(false,eval b X.env)]:=by rfl) (hs2:starEach [b] X.env=[(false,eval b X.env)]:=by rfl) :
  I3 X tg (.Call (.Name "range" p) [a,b] [] pos) (w26 ts):=v85 (uz9 hg hm ha hs hs2) fun _ _ _=>v21
variable {k:Nat} {f C:Addr} {fd:FuncData} {ps:List Str} {S:Sp3} {dds:List D} {dvs:List V} {ds:List Value} {x m:Str}
theorem wf1 (F:FnOk X.prog X.w X.K X.mg X.base CX0 k f fd ps (uk1 X.K S)) (hr:Room k X.A) (hg:Gl X x) (hm:X.mg x=some (.ref f)) (hk:W.keepIn X.K (.ref f)=true) (hb:Binds X.K fd ps ds) (hd:Vals dvs ds) (hdd:∀ H,RelDs X.K H dds dvs)
  (ha:A3 X (e::es) ts) (hdb:(x == ("__debug__" : Str))=false:=by decide) (he:starEach (e::es) X.env=(false,eval e X.env)::starEach es X.env:=by rfl) (hpl:(backTo pos (starEach es X.env)).any (·.1)=false:=by rfl) :
  E3 X (.Call (.Name x p) (e::es) [] pos) (dCall S dds ts):=u28 (vs5 F hr hg hm hk hb hd pass0 ha hdb he hpl) fun _ _ _=>vc6 hdd
variable {id T:String} {r:C3} {rm:M3} {name:Str}
theorem u12 (hc:Call3 X (.builtin id) r) (hg:Gl X x) (hm:X.mg x=none) (hv:bootBuiltins x=some (.builtin id)) (ha:A3 X (e::es) ts) (hn:x ≠ "__name__" := by decide) (hdb:(x == ("__debug__" : Str))=false:=by decide)
  (he:starEach (e::es) X.env=(false,eval e X.env)::starEach es X.env:=by rfl) (hpl:(backTo pos (starEach es X.env)).any (·.1)=false:=by rfl):E3 X (.Call (.Name x p) (e::es) [] pos) (dCB r ts) :=
 u28 (va6 hc hg hm hv ha hn hdb he hpl) fun _ _ _=>vk5
theorem ug8 (hc:Call3 X (.type T) r) (hg:Gl X x) (hm:X.mg x=none) (hv:bootBuiltins x=some (.type T)) (ha:A3 X (e::es) ts) (hn:x ≠ "__name__" := by decide) (hdb:(x == ("__debug__" : Str))=false:=by decide)
  (he:starEach (e::es) X.env=(false,eval e X.env)::starEach es X.env:=by rfl) (hpl:(backTo pos (starEach es X.env)).any (·.1)=false:=by rfl):E3 X (.Call (.Name x p) (e::es) [] pos) (dCB r ts) :=
 u28 (v03 hc hg hm hv ha hn hdb he hpl) fun _ _ _=>vk5
end
def ud2 (ix:List (Option Nat)) (σ:DSt):DSt:=ix.map fun o=>o.bind fun j=>(σ[j]?).bind id
def uc7 (ok:Gp->Prop) (g:TG3) (tc:TT3) (te:TE3) (p:Addr) (q:DK):List D->DSt->Gp->Prop
 | [],_,G=>ok G /\ q (.ref p) G
 | x::r,σ,G=>ok G /\ g x σ G fun σ2 G2=>tc σ2 G2 fun b G3 =>
  if b=true then te σ2 G3 fun d G4=>(match G4 p with | some (.lst ys)=>ys.length < sizeLine /\ uc7 ok g tc te p q r σ2 (gup G4 p (.lst (ys++[d]))) | _=>False)
  else uc7 ok g tc te p q r σ2 G3
def ve1 (ix:List (Option Nat)) (wi:TI3) (g:TG3) (tc:TT3) (te:TE3):TE3:=fun σ G q=>wi σ G fun it G1=>∀ p,G1 p=none->uc7 it.ok g tc te p q it.items (ud2 ix σ) (gup G1 p (.lst []))
theorem RelSt.inn {K:W.Frag} {H:Hp} {σd:DSt} {σ:L2.St} (h:RelSt K H σd σ) (ix:List (Option Nat)):RelSt K H (ud2 ix σd) (L2.inner ix σ):=by
 refine ⟨by unfold ud2 L2.inner;rw [List.length_map,List.length_map],fun i d e=>?_⟩;unfold ud2 at e;unfold L2.inner;rw [List.getElem?_map] at e ⊢;cases ho:ix[i]? with
 | none=>rw [ho] at e;cases e
 | some o =>
  rw [ho] at e;cases o with
  | none=>cases e
  | some j =>
   have e:(σd[j]?).bind id=some d:=Option.some.inj e;have e:σd[j]?=some (some d):=by
    cases hs:σd[j]? with
    | none=>rw [hs] at e;cases e
    | some w=>rw [hs] at e;cases e;rfl
   obtain ⟨v,hv,r⟩:=h.2 j d e;exact ⟨v,by show some ((σ[j]?).bind id)=_;rw [hv];rfl,r⟩
theorem us6 {K:W.Frag} {ix:List (Option Nat)} {wi:TI3} {g:TG3} {tc:TT3} {te:TE3} {σ:L2.St} {H:Hp} {Q:VK} (h:lowE K (ve1 ix wi g tc te) σ H Q):vn8 ix (lowI K wi) (lowG K g) (lowT K tc) (lowE K te) σ H Q:=by
 obtain ⟨σd,G,q,rs,cc,t,f⟩:=h;refine ⟨σd,G,_,rs,cc,t,fun it J G1 H1 ir c1 l1 t1=>?_⟩;intro p hp;have t1:=t1 p (c1.fresh hp);have c2:Con K (gup G1 p (.lst [])) (upd H1 p (.lst [])):=c1.lstNew hp .nil;have l2:Le H1 (upd H1 p (.lst [])):=Le.fresh hp;refine ⟨fun i m σ' H'=>∃ σd' G',Le (upd H1 p (.lst [])) H' /\ RelSt K H' σd' σ' /\ Con K G' H' /\ i+m=it.items.length /\ uc7 it.ok g tc te p q (it.items.drop i) σd' G',
  ⟨it.items.length,ud2 ix σd,_,Le.refl _,(rs.le (l1.trans l2)).inn ix,c2,by omega,by rw [List.drop_zero];exact t1⟩,?_⟩
 rintro i m σ2 H2 ⟨σd2,G2,l3,rs2,c2,e2,t2⟩;have l12:Le H1 H2:=l2.trans l3
 by_cases hi:i < it.items.length
 ·rw [List.drop_eq_getElem_cons hi] at t2
  obtain ⟨ok2,t2⟩:=t2;refine .inr ⟨ir.go i G2 H2 l12 c2 ok2 hi,fun σ' H'=>∃ σd' G',Le (upd H1 p (.lst [])) H' /\ RelSt K H' σd' σ' /\ Con K G' H' /\ uc7 it.ok g tc te p q (it.items.drop (i+1)) σd' G',?_,?_⟩
  ·rintro σ' H' ⟨σd',G',a1,a2,a3,a4⟩
   exact ⟨m - 1,by omega,σd',G',a1,a2,a3,by omega,a4⟩
  ·intro x H3 y
   obtain ⟨c3,l4,e,he,r3⟩:=ir.yld i G2 H2 x H3 l12 c2 ok2 hi y;rw [List.getElem?_eq_getElem hi] at he;cases he;refine ⟨_,σd2,G2,_,r3,rs2.le l4,c3,t2,fun σd4 G4 σ4 H4 rs4 c4 l5 t4=>?_⟩;refine ⟨σd4,G4,_,rs4,c4,t4,fun b G5 H5 c5 l6 t5=>?_⟩;cases b with
   | false =>
    rw [if_neg Bool.false_ne_true] at t5 ⊢;exact ⟨σd4,G5,l3.trans (l4.trans (l5.trans l6)),rs4.le l6,c5,t5⟩
   | true =>
    rw [if_pos rfl] at t5 ⊢;refine ⟨σd4,G5,_,rs4.le l6,c5,t5,fun d G6 v H6 r6 c6 l7 t6=>?_⟩;split at t6
    ·rename_i ys eg
     obtain ⟨xs,ex,rx⟩:=c6 p _ eg;have l8:=Le.lst (ys:=xs++[v]) ex;exact ⟨xs,ex,by rw [<- rx.length];exact t6.1,σd4,_,l3.trans (l4.trans (l5.trans (l6.trans (l7.trans l8)))),rs4.le (l6.trans (l7.trans l8)),c6.lstSet ex (rx.append (.cons r6 .nil)),t6.2⟩
    ·exact t6.elim
 ·rw [List.drop_eq_nil_of_le (by omega)] at t2
  exact .inl ⟨ir.stop i G2 H2 l12 c2 t2.1 (by omega),f _ _ _ _ RelD.refI c2 (l1.trans l12) t2.2⟩
def dYes:TT3:=fun _ G q=>q true G
section
variable {X:Cx} {elt tg iter:Expr} {ifs:List Expr} {scope:Scope} {pos:Pos} {N':List Str} {ix:List (Option Nat)} {wi:TI3} {g:TG3} {tc:TT3} {te:TE3}
theorem ub7:Ifs3 X [] dYes:=vn3 v97 fun σ H Q h=>by
 obtain ⟨σd,G,q,rs,c,t,f⟩:=h;exact f _ _ _ c (Le.refl H) t
theorem ug3 {c:Expr} (h:T3 X c tc):Ifs3 X [c] tc:=v96 h
theorem uc1 (B:BlkOk X N' ix scope) (hw:I3 X tg iter wi) (hg:∀ C s H fp,J3 (u44 X N' scope C s H fp) tg g) (hi:∀ C s H fp,Ifs3 (u44 X N' scope C s H fp) ifs tc) (he:∀ C s H fp,E3 (u44 X N' scope C s H fp) elt te)
  (hc:X.calm=true:=by rfl) (hs:∀ x,foldedSetIterable iter X.env x=pure x:=by intro _;rfl):E3 X (.ListComp elt [⟨tg,iter,ifs,0⟩] scope pos) (ve1 ix wi g tc te) :=
 u28 (vs3 (g:=lowG X.K g) (tc:=lowT X.K tc) (te:=lowE X.K te) B hc hw hg hi he hs) fun _ _ _=>us6
theorem vj6 (i:Nat) {y:Str} {py spos:Pos} (hN:X.N.Nodup) (B:BlkOk X N' ix scope) (hw:I3 X tg iter wi) (hg:∀ C s H fp,J3 (u44 X N' scope C s H fp) tg g) (hi:∀ C s H fp,Ifs3 (u44 X N' scope C s H fp) ifs tc) (he:∀ C s H fp,E3 (u44 X N' scope C s H fp) elt te)
  (hy:X.N[i]?=some y:=by rfl) (hl:Loc X.env.scope y:=by first | exact Or.inl rfl | exact Or.inr rfl)
  (hc:X.calm=true:=by rfl) (hsw:swapsWith (.ListComp elt [⟨tg,iter,ifs,0⟩] scope pos) (some (.Name y py)) spos.line X.env=pure true:=by rfl)
  (hf:X.fn y=true \/ X.env.scope.names.lookup y=some .local:=by first | exact .inl rfl | exact .inr rfl | assumption)
  (hs:∀ x,foldedSetIterable iter X.env x=pure x:=by intro _;rfl):S3 X (.Assign [.Name y py] (.ListComp elt [⟨tg,iter,ifs,0⟩] scope pos) spos) (dAsg (ve1 ix wi g tc te) (uo4 i)) :=
 ua5 (vr2 (g:=lowG X.K g) (tc:=lowT X.K tc) (te:=lowE X.K te) B hc hN hy hl hw hg hi he hsw hf hs) fun D σ H h=>by
  obtain ⟨σd,G,d,rs,c,t,f⟩:=h;exact us6 (K:=X.K) ⟨σd,G,_,rs,c,t,fun x G1 v H1 r1 c1 l1 t1=>f.nx _ _ _ _ ((rs.le l1).set i r1) c1 l1 t1⟩
end
def xAdd:R3:=fun x y G q=>match x,y with
 | .int i,.int j=>q (.int (i+j)) G
 | .str a,.str b=>a.length+b.length<=sizeLine /\ q (.str (a++b)) G
 | .tup a,.tup b=>a ≠ [] /\ a.length+b.length<=sizeLine /\ q (.tup (a++b)) G
 | .ref a,.ref b=>(match G a,G b with
  | some (.lst xs),some (.lst ys)=>xs.length+ys.length<=sizeLine /\ ∀ p,G p=none->q (.ref p) (gup G p (.lst (xs++ys)))
  | _,_=>False)
 | _,_=>False
def xInt (f:Int->Int->Int):R3:=fun x y G q=>match x,y with | .int i,.int j=>q (.int (f i j)) G | _,_=>False
def ui4 (C:Int->Int->Prop) (f:Int->Int->Int):R3:=fun x y G q=>match x,y with | .int i,.int j=>C i j /\ q (.int (f i j)) G | _,_=>False
def xSub:R3:=xInt fun i j=>i - j
def xMul:R3:=fun x y G q=>match x,y with
 | .int i,.int j=>CMul i j /\ q (.int (i * j)) G
 | .ref a,.int k=>(match G a with
  | some (.lst xs)=>(-(2 ^ 63)<=k /\ k < 2 ^ 63 /\ xs.length * k.toNat<=sizeLine) /\ ∀ p,G p=none->q (.ref p) (gup G p (.lst (List.replicate k.toNat xs).flatten))
  | _=>False)
 | _,_=>False
def vf9 (_ j:Int):Prop:=0 < j /\ j < 18446744073709551616
def xDiv:R3:=ui4 vf9 fun i j=>i / j
def xMod:R3:=ui4 (fun _ j=>0 < j) fun i j=>i % j
def xPow:R3:=ui4 CPow fun i j=>i ^ j.toNat
def xShl:R3:=ui4 CPow fun i j=>i * 2 ^ j.toNat
def xShr:R3:=ui4 (fun _ j=>0<=j) fun i j=>i / 2 ^ j.toNat
def xAnd:R3:=xInt Builtin.bitAnd
def xOr:R3:=xInt Builtin.bitOr
def xXor:R3:=xInt Builtin.bitXor
def xLt:R3:=fun x y G q=>match x,y with | .int i,.int j=>q (.bl (decide (i < j))) G | .str a,.str b=>q (.bl (decide (a.cps.toList < b.cps.toList))) G | _,_=>False
def xLe:R3:=fun x y G q=>match x,y with | .int i,.int j=>q (.bl (decide (i<=j))) G | _,_=>False
def xGt:R3:=fun x y G q=>match x,y with | .int i,.int j=>q (.bl (decide (j < i))) G | _,_=>False
def xGe:R3:=fun x y G q=>match x,y with | .int i,.int j=>q (.bl (decide (j<=i))) G | _,_=>False
section
variable {X:Cx} {K:W.Frag} {H:Hp}
theorem RelD.int_inv {i:Int} {v:V} (h:RelD K H (.int i) v):v=.int i:=by rw [RelD] at h;exact h
theorem RelD.str_inv {i:Str} {v:V} (h:RelD K H (.str i) v):v=.str i:=by rw [RelD] at h;exact h
theorem RelD.non_inv {v:V} (h:RelD K H .non v):v=.non:=by rw [RelD] at h;exact h
theorem RelD.tup_inv {ds:List D} {v:V} (h:RelD K H (.tup ds) v):∃ a xs,v=.ref a /\ SqT K H a xs /\ RelDs K H ds xs:=by rw [RelD] at h;exact h
theorem RelD.intI {i:Int}:RelD K H (.int i) (.int i):=by rw [RelD]
theorem RelD.strI {i:Str}:RelD K H (.str i) (.str i):=by rw [RelD]
theorem RelD.blI {i:Bool}:RelD K H (.bl i) (.bl i):=by rw [RelD]
theorem RelD.nonI:RelD K H .non .non:=by rw [RelD]
theorem ux5 {f:Value->Value->Sem Value} {g:Int->Int->Int} (h:OpR X f (rI0 fun i j=>.int (g i j))):Op3 X f (xInt g):=u62 h fun x y H Q ⟨d,e,G,q,r1,r2,c,t,f⟩=>by
 unfold xInt at t;split at t
 ·exact ⟨_,_,r1.int_inv,r2.int_inv,f _ _ _ _ RelD.intI c (Le.refl H) t⟩
 ·exact t.elim
theorem ui3 {f:Value->Value->Sem Value} {C:Int->Int->Prop} {g:Int->Int->Int} (h:OpR X f (rI C fun i j=>.int (g i j))):Op3 X f (ui4 C g):=u62 h fun x y H Q ⟨d,e,G,q,r1,r2,c,t,f⟩=>by
 unfold ui4 at t;split at t
 ·exact ⟨_,_,r1.int_inv,r2.int_inv,t.1,f _ _ _ _ RelD.intI c (Le.refl H) t.2⟩
 ·exact t.elim
theorem u38:Op3 X (binaryOp .Sub) xSub:=ux5 w69
theorem va7:OpR X (binaryOp .FloorDiv) (rI vf9 fun i j=>.int (i / j)):=opI fun i j _ _ _ _ _ hc q=>by
 have hl:j.natAbs.log2 < 9000:=by
  have h1:=hc.1;have h2:=hc.2;have hn:j.natAbs ≠ 0:=by omega
  have:j.natAbs.log2 < 64:=(Nat.log2_lt hn).mpr (by omega);omega
 refine floordiv_int (by have:=hc.1;omega) ?_ (.inl (PyProof.noPylong_of_log2 hl));rw [Int.fdiv_eq_ediv_of_nonneg i (by have:=hc.1;omega)];exact q
theorem w12:Op3 X (binaryOp .FloorDiv) xDiv:=ui3 va7
theorem ue0:Op3 X (binaryOp .Mod) xMod:=ui3 w75
theorem wh3:Op3 X (binaryOp .Pow) xPow:=ui3 w73
theorem um3:Op3 X (binaryOp .LShift) xShl:=ui3 w71
theorem ux2:Op3 X (binaryOp .RShift) xShr:=ui3 w70
theorem um4:Op3 X (binaryOp .BitAnd) xAnd:=ux5 w80
theorem x_or:Op3 X (binaryOp .BitOr) xOr:=ux5 wk3
theorem vm4:Op3 X (binaryOp .BitXor) xXor:=ux5 w68
theorem w11:Op3 X (inplaceOp .Add) (xInt fun i j=>i+j):=ux5 vw3
theorem u32:Op3 X (binaryOp .Add) xAdd:=u62 (op_add.or (op_add_str.or (op_catT.or w79))) <| by
 rintro x y H Q ⟨d,e,G,q,r1,r2,c,t,f⟩;unfold xAdd at t;split at t
 ·exact .inl ⟨_,_,r1.int_inv,r2.int_inv,f _ _ _ _ RelD.intI c (Le.refl H) t⟩
 ·exact .inr (.inl ⟨_,_,r1.str_inv,r2.str_inv,t.1,f _ _ _ _ RelD.strI c (Le.refl H) t.2⟩)
 ·obtain ⟨a,xs,rfl,s1,q1⟩:=r1.tup_inv
  obtain ⟨b,ys,rfl,s2,q2⟩:=r2.tup_inv;refine .inr (.inr (.inl ⟨a,b,xs,ys,rfl,rfl,s1,s2,fun z=>t.1 ?_,by rw [<- q1.length,<- q2.length];exact t.2.1,fun z=>?_,fun _ p hp=>?_⟩))
  ·have:=q1.length;rw [z] at this;exact List.eq_nil_of_length_eq_zero this
  ·refine f (.tup _) G (.ref a) _ ?_ c (Le.refl _) t.2.2
   rw [RelD];subst z;have e:∀ {bs:List D},RelDs X.K H bs []->bs=[]:=fun h=>List.eq_nil_of_length_eq_zero h.length
   rw [e q2,List.append_nil];exact ⟨a,_,rfl,s1,q1⟩
  ·refine f (.tup _) G (.ref p) _ ?_ (c.side hp) (Le.fresh hp) t.2.2
   rw [RelD];exact ⟨p,_,rfl,SqT.of u13,RelDs.le (Le.fresh hp) (q1.append q2)⟩
 ·rename_i a b
  split at t
  ·rename_i xs ys e1 e2
   obtain ⟨vs,h1,q1⟩:=c _ _ e1;obtain ⟨ws,h2,q2⟩:=c _ _ e2;exact .inr (.inr (.inr ⟨a,b,vs,ws,r1.ref_inv,r2.ref_inv,h1,h2,by rw [<- q1.length,<- q2.length];exact t.1,fun p hp=>f _ _ _ _ RelD.refI (c.lstNew hp (q1.append q2)) (Le.fresh hp) (t.2 p (c.fresh hp))⟩))
  ·exact t.elim
 ·exact t.elim
theorem ux3:Op3 X (binaryOp .Mult) xMul:=u62 (op_mul.or w72) <| by
 rintro x y H Q ⟨d,e,G,q,r1,r2,c,t,f⟩;unfold xMul at t;split at t
 ·exact .inl ⟨_,_,r1.int_inv,r2.int_inv,t.1,f _ _ _ _ RelD.intI c (Le.refl H) t.2⟩
 ·rename_i a k
  split at t
  ·rename_i xs e1
   obtain ⟨vs,h1,q1⟩:=c _ _ e1;refine .inr ⟨a,k,vs,r1.ref_inv,r2.int_inv,h1,t.1.1,t.1.2.1,by rw [<- q1.length];exact t.1.2.2,?_⟩;intro p hp;exact f _ _ _ _ RelD.refI (c.lstNew hp (q1.rep _)) (Le.fresh hp) (t.2 p (c.fresh hp))
  ·exact t.elim
 ·exact t.elim
theorem vg2 {f:Value->Value->Sem Value} {g:Int->Int->Bool} (h:OpR X f (rI0 fun i j=>.bl (g i j))):Op3 X f (fun x y G q=>match x,y with | .int i,.int j=>q (.bl (g i j)) G | _,_=>False):=u62 h fun x y H Q ⟨d,e,G,q,r1,r2,c,t,f⟩=>by
 dsimp only at t;split at t
 ·exact ⟨_,_,r1.int_inv,r2.int_inv,f _ _ _ _ RelD.blI c (Le.refl H) t⟩
 ·exact t.elim
theorem x_gt:Op3 X (compareOp .Gt) xGt:=vg2 wk4
theorem x_ge:Op3 X (compareOp .GtE) xGe:=vg2 wk5
theorem x_lt:Op3 X (compareOp .Lt) xLt:=u62 (op_lt.or v04) <| by
 rintro x y H Q ⟨d,e,G,q,r1,r2,c,t,f⟩;unfold xLt at t;split at t
 ·exact .inl ⟨_,_,r1.int_inv,r2.int_inv,f _ _ _ _ RelD.blI c (Le.refl H) t⟩
 ·exact .inr ⟨_,_,r1.str_inv,r2.str_inv,f _ _ _ _ RelD.blI c (Le.refl H) t⟩
 ·exact t.elim
theorem RelD.not_non {d:D} {v:V} (h:RelD K H d v) (n:d ≠ .non):v ≠ .non:=by
 cases d with
 | non=>exact absurd rfl n
 | bl _=>rw [h.bl_inv];exact fun z=>nomatch z
 | int _=>rw [h.int_inv];exact fun z=>nomatch z
 | str _=>rw [h.str_inv];exact fun z=>nomatch z
 | ref _=>rw [h.ref_inv];exact fun z=>nomatch z
 | ty _=>rw [RelD] at h;rw [h];exact fun z=>nomatch z
 | tup _=>obtain ⟨a,xs,e,_⟩:=h.tup_inv;rw [e];exact fun z=>nomatch z
def xNeg:U3:=fun x G q=>match x with | .int i=>q (.int (-i)) G | _=>False
theorem vm6:UnR X (unaryOp .USub) (lowU X.K xNeg):=vg5 w30 <| by
 rintro x H Q ⟨d,G,q,r1,c,t,f⟩;unfold xNeg at t;split at t
 ·exact ⟨_,r1.int_inv,f _ _ _ _ RelD.intI c (Le.refl H) t⟩
 ·exact t.elim
def xIx:R3:=fun x y G q=>match x,y with
 | .tup ds,.int i=>(match atI ds i with | some d=>q d G | none=>False)
 | .ref a,.int i=>(match u11 (G a) with | some ds=>(match atI ds i with | some d=>q d G | none=>False) | none=>False)
 | .str z,.int i=>z.length<=sizeLine /\ (match atI z.cps.toList i with | some c=>q (.str ⟨#[c]⟩) G | none=>False)
 | _,_=>False
theorem RelDs.atI {ds:List D} {xs:List V} {i:Int} {d:D} (h:RelDs K H ds xs) (e:L2.atI ds i=some d):∃ v,L2.atI xs i=some v /\ RelD K H d v:=by
 unfold L2.atI at e ⊢;rw [<- h.length];cases hj:ixN ds.length i with
 | none=>rw [hj] at e;cases e
 | some j =>
  rw [hj] at e;exact h.get e
theorem x_ix:IxR X (lowR X.K xIx):=w17 wd1 <| by
 rintro x y H Q ⟨d,e,G,q,r1,r2,c,t,f⟩;unfold xIx at t;split at t
 ·rename_i ds i
  obtain ⟨a,xs,rfl,s1,q1⟩:=r1.tup_inv;split at t
  ·rename_i w ew
   obtain ⟨v,hv,rv⟩:=q1.atI ew;exact .inr (.inl ⟨a,xs,i,v,rfl,r2.int_inv,s1,hv,f _ _ _ _ rv c (Le.refl H) t⟩)
  ·exact t.elim
 ·rename_i a i
  split at t
  ·rename_i ds es
   obtain ⟨xs,s1,q1⟩:=u31 c es;split at t
   ·rename_i w ew
    obtain ⟨v,hv,rv⟩:=q1.atI ew;exact .inl ⟨a,xs,i,v,r1.ref_inv,r2.int_inv,s1,hv,f _ _ _ _ rv c (Le.refl H) t⟩
   ·exact t.elim
  ·exact t.elim
 ·rename_i z i
  obtain ⟨hz,t⟩:=t;split at t
  ·rename_i w ew
   exact .inr (.inr ⟨z,i,w,r1.str_inv,r2.int_inv,hz,ew,f _ _ _ _ RelD.strI c (Le.refl H) t⟩)
  ·exact t.elim
 ·exact t.elim
def cutD {α:Type} (xs:List α) (lo hi:Option Int):List α:=(xs.drop (HT.sIx xs.length 0 lo)).take (HT.sIx xs.length xs.length hi - HT.sIx xs.length 0 lo)
def xSet:TSet3:=fun o i v G q=>match o,i with
 | .ref a,.int k=>(match G a with | some (.lst ds)=>(match ixN ds.length k with | some j=>q (gup G a (.lst (ds.set j v))) | none=>False) | _=>False)
 | _,_=>False
theorem vm5:PSet X (v27 X.K xSet):=vn2 set_list <| by
 rintro o i v H Q ⟨d,e,x,G,q,r1,r2,r3,c,t,f⟩;unfold xSet at t;split at t
 ·rename_i a k
  split at t
  ·rename_i ds e1
   obtain ⟨xs,h1,q1⟩:=c _ _ e1;split at t
   ·rename_i j ej
    exact ⟨a,xs,k,j,r1.ref_inv,r2.int_inv,h1,by rw [<- q1.length];exact ej,f _ _ (c.lstSet h1 (q1.set r3 j)) (Le.lst h1) t⟩
   ·exact t.elim
  ·exact t.elim
 ·exact t.elim
end
inductive Sn where
 | non | bl (b:Bool) | int (i:Int) | str (x:Str) | tup (xs:List Sn) | lst (xs:List Sn)
def snap (G:Gp):Nat->D->Option Sn
 | _,.non=>some .non
 | _,.bl b=>some (.bl b)
 | _,.int i=>some (.int i)
 | _,.str x=>some (.str x)
 | n+1,.tup ds=>(ds.mapM (snap G n)).map .tup
 | n+1,.ref a=>(u11 (G a)).bind fun ds=>(ds.mapM (snap G n)).map .lst
 | _,_=>none
def u41:Sn->Bool
 | .non=>true | .bl _=>true | .int _=>true | .str _=>true | _=>false
def eqF:Sn->Sn->Bool
 | .non,.non=>true
 | .bl a,.bl b=>a == b
 | .bl a,.int b=>(if a then 1 else 0) == b
 | .int a,.bl b=>a == (if b then 1 else 0)
 | .int a,.int b=>a == b
 | .str a,.str b=>a == b
 | _,_=>false
def eqN:Nat->Sn->Sn->Option Bool
 | n+1,.tup xs,.tup ys=>if xs.length=ys.length then ((xs.zip ys).mapM fun p=>eqN n p.1 p.2).map fun bs=>bs.all id else none
 | n+1,.lst xs,.lst ys=>if xs.length=ys.length then ((xs.zip ys).mapM fun p=>eqN n p.1 p.2).map fun bs=>bs.all id else some false
 | _,x,y=>if (u41 x && u41 y)=true then some (eqF x y) else none
theorem u18 {α β:Type} {f:α->Option β}:∀ {xs:List α} {ys:List β},xs.mapM f=some ys->xs.length=ys.length /\ ∀ (i:Nat) x,xs[i]?=some x->∃ y,ys[i]?=some y /\ f x=some y
 | [],ys,h=>by
  have:ys=[]:=by simpa using h.symm
  subst this;exact ⟨rfl,fun i x e=>by simp at e⟩
 | x::xs,ys,h=>by
  rw [List.mapM_cons] at h;cases hx:f x with
  | none=>rw [hx] at h;cases h
  | some y =>
   rw [hx] at h;cases hr:xs.mapM f with
   | none=>rw [hr] at h;cases h
   | some r =>
    rw [hr] at h;have e:y::r=ys:=Option.some.inj h;subst e;obtain ⟨h1,h2⟩:=u18 hr;refine ⟨by simp [h1],fun i z e=>?_⟩;cases i with
    | zero=>cases (show x=z from Option.some.inj e);exact ⟨y,rfl,hx⟩
    | succ i=>exact h2 i z e
theorem ud7 {bs:List Bool} {e:Nat->Bool} {n:Nat} (hl:bs.length=n) (h:∀ (i:Nat) b,bs[i]?=some b->e i=b):(List.range n).all e=bs.all id:=by
 rw [Bool.eq_iff_iff,List.all_eq_true,List.all_eq_true]
 constructor
 ·intro q b hb
  obtain ⟨i,hi,eb⟩:=List.mem_iff_getElem.mp hb;have:=q i (List.mem_range.mpr (by omega));rw [h i b (by rw [List.getElem?_eq_getElem hi,eb])] at this;exact this
 ·intro q i hi
  have hi:=List.mem_range.mp hi;rw [h i bs[i] (List.getElem?_eq_getElem (by omega))];exact q _ (List.getElem_mem _)
section
variable {X:Cx} {pins:List (Addr × Obj)} {σ:L2.St} {H:Hp} {s:Shared} {G:Gp}
theorem uo6 {n:Nat} {d:D} {sd:Sn} {x:V} {u:Value} (h:snap G n d=some sd) (fl:u41 sd=true) (r:RelD X.K H d x):vx0 x=true /\ ∀ (e:D) (se:Sn) (y:V),snap G n e=some se->u41 se=true->RelD X.K H e y->eqV x y=eqF sd se:=by
  have key:∀ (d:D) (sd:Sn) (x:V),snap G n d=some sd->u41 sd=true->RelD X.K H d x->(sd=.non /\ x=.non) \/ (∃ b,sd=.bl b /\ x=.bl b) \/ (∃ i,sd=.int i /\ x=.int i) \/ (∃ z,sd=.str z /\ x=.str z):=by
    intro d sd x h fl r;cases d with
    | non => have e : Sn.non = sd := by cases n <;> exact Option.some.inj h
             subst e;exact .inl ⟨rfl,r.non_inv⟩
    | bl b => have e : Sn.bl b = sd := by cases n <;> exact Option.some.inj h
              subst e;exact .inr (.inl ⟨b,rfl,r.bl_inv⟩)
    | int b => have e : Sn.int b = sd := by cases n <;> exact Option.some.inj h
               subst e;exact .inr (.inr (.inl ⟨b,rfl,r.int_inv⟩))
    | str b => have e : Sn.str b = sd := by cases n <;> exact Option.some.inj h
               subst e;exact .inr (.inr (.inr ⟨b,rfl,r.str_inv⟩))
    | tup ds =>
      cases n with
      | zero=>cases h
      | succ n =>
        have h:(ds.mapM (snap G n)).map Sn.tup=some sd:=h;obtain ⟨a,_,rfl⟩:=Option.map_eq_some_iff.mp h;cases fl
    | ref a =>
      cases n with
      | zero=>cases h
      | succ n =>
        have h:((u11 (G a)).bind fun ds=>(ds.mapM (snap G n)).map Sn.lst)=some sd:=h;obtain ⟨ds,_,h⟩:=Option.bind_eq_some_iff.mp h;obtain ⟨a,_,rfl⟩:=Option.map_eq_some_iff.mp h;cases fl
    | ty t=>cases n <;> cases h
  rcases key d sd x h fl r with ⟨rfl,rfl⟩ | ⟨b,rfl,rfl⟩ | ⟨b,rfl,rfl⟩ | ⟨b,rfl,rfl⟩ <;> refine ⟨rfl,fun e se y h' fl' r'=>?_⟩ <;>
    rcases key e se y h' fl' r' with ⟨rfl,rfl⟩ | ⟨c,rfl,rfl⟩ | ⟨c,rfl,rfl⟩ | ⟨c,rfl,rfl⟩ <;> rfl
theorem snap_tup {n:Nat} {ds:List D} {sd:Sn} (h:snap G n (.tup ds)=some sd):∃ m ss,n=m+1 /\ sd=.tup ss /\ ds.mapM (snap G m)=some ss:=by
 cases n with
 | zero=>cases h
 | succ n =>
  obtain ⟨ss,h1,rfl⟩:=Option.map_eq_some_iff.mp (show (ds.mapM (snap G n)).map Sn.tup=some sd from h);exact ⟨n,ss,rfl,rfl,h1⟩
theorem snap_ref {n:Nat} {a:Addr} {sd:Sn} (h:snap G n (.ref a)=some sd):∃ m ds ss,n=m+1 /\ sd=.lst ss /\ u11 (G a)=some ds /\ ds.mapM (snap G m)=some ss:=by
 cases n with
 | zero=>cases h
 | succ n =>
  obtain ⟨ds,h0,h⟩:=Option.bind_eq_some_iff.mp (show ((u11 (G a)).bind fun ds=>(ds.mapM (snap G n)).map Sn.lst)=some sd from h);obtain ⟨ss,h1,rfl⟩:=Option.map_eq_some_iff.mp h;exact ⟨n,ds,ss,rfl,rfl,h0,h1⟩
theorem ut2 {n:Nat} {x y:Sn} (hx:u41 x=true):eqN n x y=if (u41 x && u41 y)=true then some (eqF x y) else none:=by
 cases x with
 | tup _=>cases hx
 | lst _=>cases hx
 | non=>cases n <;> rfl
 | bl _=>cases n <;> rfl
 | int _=>cases n <;> rfl
 | str _=>cases n <;> rfl
theorem u68 {n:Nat} {x y:Sn} {b:Bool} (h:eqN n x y=some b) (fl:¬ (u41 x && u41 y)=true):(∃ m xs ys,n=m+1 /\ x=.tup xs /\ y=.tup ys) \/ (∃ m xs ys,n=m+1 /\ x=.lst xs /\ y=.lst ys):=by
 unfold eqN at h;split at h
 ·exact .inl ⟨_,_,_,rfl,rfl,rfl⟩
 ·exact .inr ⟨_,_,_,rfl,rfl,rfl⟩
 ·rw [if_neg fl] at h;cases h
theorem u51 {n:Nat} {d:D} {ss:List Sn} (h:snap G n d=some (.tup ss)):∃ ds,d=.tup ds:=by
 cases d with
 | tup ds=>exact ⟨ds,rfl⟩
 | ref a=>obtain ⟨_,_,_,_,e',_⟩:=snap_ref h;cases e'
 | _=>cases n <;> cases h
theorem u52 {n:Nat} {d:D} {ss:List Sn} (h:snap G n d=some (.lst ss)):∃ a,d=.ref a:=by
 cases d with
 | ref a=>exact ⟨a,rfl⟩
 | tup ds=>obtain ⟨_,_,_,e',_⟩:=snap_tup h;cases e'
 | _=>cases n <;> cases h
theorem uj2 {n:Nat} {d e:D} {x:V} {sd se:Sn} {b:Bool} (r1:RelD X.K H d x) (r2:RelD X.K H e x) (h1:snap G n d=some sd) (h2:snap G n e=some se) (hb:eqN n sd se=some b) (fl:(u41 sd && u41 se)=true):b=true:=by
 rw [Bool.and_eq_true] at fl;have z:=hb;rw [ut2 fl.1,if_pos (by rw [fl.1,fl.2];rfl)] at z;obtain ⟨fx,k⟩:=uo6 (u:=Value.none) h1 fl.1 r1;rw [<- Option.some.inj z,<- k e se x h2 fl.2 r2];cases x with
 | non=>rfl
 | bl b=>exact beq_self_eq_true b
 | int i=>exact beq_self_eq_true i
 | str w=>exact beq_self_eq_true w
 | _=>cases fx
theorem uy9 (I:Inv X pins σ H s) (c:Con X.K G H):∀ (n:Nat) (d e:D) (x:V) (sd se:Sn) (b:Bool),RelD X.K H d x->RelD X.K H e x->snap G n d=some sd->snap G n e=some se->eqN n sd se=some b->b=true:=by
 intro n
 induction n with
 | zero =>
  intro d e x sd se b r1 r2 h1 h2 hb
  by_cases fl:(u41 sd && u41 se)=true
  ·exact uj2 r1 r2 h1 h2 hb fl
  ·rcases u68 hb fl with ⟨_,_,_,z,_⟩ | ⟨_,_,_,z,_⟩ <;> cases z
 | succ m ih =>
  intro d e x sd se b r1 r2 h1 h2 hb
  by_cases fl:(u41 sd && u41 se)=true
  ·exact uj2 r1 r2 h1 h2 hb fl
  have items:∀ (ds es:List D) (xs:List V) (ss ts:List Sn) (bs:List Bool),RelDs X.K H ds xs->RelDs X.K H es xs->ds.mapM (snap G m)=some ss->es.mapM (snap G m)=some ts->((ss.zip ts).mapM fun p=>eqN m p.1 p.2)=some bs->bs.all id=true:=by
   intro ds es xs ss ts bs q1 q2 k1 k2 kb;rw [List.all_eq_true];intro b hb;obtain ⟨i,hi,eb⟩:=List.mem_iff_getElem.mp hb;obtain ⟨l1,f1⟩:=u18 k1;obtain ⟨l2,f2⟩:=u18 k2;obtain ⟨l3,f3⟩:=u18 kb;have hz:(ss.zip ts).length=min ss.length ts.length:=List.length_zip;have e1:=q1.length;have e2:=q2.length;have hds:i < ds.length:=by omega
   have hes:i < es.length:=by omega
   obtain ⟨y1,g1,s1⟩:=f1 i ds[i] (List.getElem?_eq_getElem hds);obtain ⟨y2,g2,s2⟩:=f2 i es[i] (List.getElem?_eq_getElem hes);have hzip:(ss.zip ts)[i]?=some (y1,y2):=by rw [List.getElem?_zip_eq_some];exact ⟨g1,g2⟩
   obtain ⟨b',g3,s3⟩:=f3 i _ hzip;rw [List.getElem?_eq_getElem hi,eb] at g3;cases g3;obtain ⟨z1,hz1,rz1⟩:=q1.get (List.getElem?_eq_getElem hds);obtain ⟨z2,hz2,rz2⟩:=q2.get (List.getElem?_eq_getElem hes);rw [hz1] at hz2;cases hz2;exact ih ds[i] es[i] z1 y1 y2 b rz1 rz2 s1 s2 s3
  rcases u68 hb fl with ⟨m',ss,ts,em,rfl,rfl⟩ | ⟨m',ss,ts,em,rfl,rfl⟩
  ·cases em
   obtain ⟨ds,rfl⟩:=u51 h1;obtain ⟨es,rfl⟩:=u51 h2;obtain ⟨_,_,em,ez,k1⟩:=snap_tup h1;cases em;cases ez;obtain ⟨_,_,em,ez,k2⟩:=snap_tup h2;cases em;cases ez;obtain ⟨a,xs,rfl,q1,rr1⟩:=r1.tup_inv;obtain ⟨a',ys,e',q2,rr2⟩:=r2.tup_inv;cases e';have:=I.tuple_inj q1 q2;subst this;unfold eqN at hb;split at hb
   ·obtain ⟨bs,kb,rfl⟩:=Option.map_eq_some_iff.mp hb
    exact items ds es xs ss ts bs rr1 rr2 k1 k2 kb
   ·cases hb
  ·cases em
   obtain ⟨a,rfl⟩:=u52 h1;obtain ⟨a',rfl⟩:=u52 h2;cases r1.ref_inv;have e':=r2.ref_inv;cases e';obtain ⟨_,ds,_,em,ez,hs1,k1⟩:=snap_ref h1;cases em;cases ez;obtain ⟨_,es,_,em,ez,hs2,k2⟩:=snap_ref h2;cases em;cases ez;rw [hs1] at hs2;cases hs2;rw [k1] at k2;cases k2;obtain ⟨xs,_,rr⟩:=u31 c hs1;unfold eqN at hb;split at hb
   ·obtain ⟨bs,kb,rfl⟩:=Option.map_eq_some_iff.mp hb
    exact items ds ds xs ss ss bs rr rr k1 k1 kb
   ·rename_i h;exact absurd rfl h
structure SeqPair (G:Gp) (K:W.Frag) (H:Hp) (m:Nat) (its its2:List Value) (bs:List Bool):Prop where
 len:its.length=its2.length
 bl:bs.length=its.length
 at_:∀ (j:Nat) (h1:j < its.length) (h2:j < its2.length) (h3:j < bs.length),∃ d e x y sd se,RelD K H d x /\ RelV x its[j] /\ RelD K H e y /\ RelV y its2[j] /\ snap G m d=some sd /\ snap G m e=some se /\ eqN m sd se=some bs[j]
theorem u88 {m:Nat} {ds es:List D} {xs ys:List V} {its its2:List Value} {ss ts:List Sn} {bs:List Bool} (q1:RelDs X.K H ds xs) (v1:Vals xs its) (q2:RelDs X.K H es ys) (v2:Vals ys its2)
  (k1:ds.mapM (snap G m)=some ss) (k2:es.mapM (snap G m)=some ts) (hl:ss.length=ts.length) (kb:((ss.zip ts).mapM fun p=>eqN m p.1 p.2)=some bs):SeqPair G X.K H m its its2 bs:=by
 obtain ⟨l1,f1⟩:=u18 k1;obtain ⟨l2,f2⟩:=u18 k2;obtain ⟨l3,f3⟩:=u18 kb;have hz:(ss.zip ts).length=min ss.length ts.length:=List.length_zip;have e1:=q1.length;have e2:=q2.length;have e3:=v1.length;have e4:=v2.length;refine ⟨by omega,by omega,fun j h1 h2 h3=>?_⟩;have hds:j < ds.length:=by omega
 have hes:j < es.length:=by omega
 obtain ⟨y1,g1,s1⟩:=f1 j ds[j] (List.getElem?_eq_getElem hds);obtain ⟨y2,g2,s2⟩:=f2 j es[j] (List.getElem?_eq_getElem hes);have hzip:(ss.zip ts)[j]?=some (y1,y2):=by rw [List.getElem?_zip_eq_some];exact ⟨g1,g2⟩
 obtain ⟨b',g3,s3⟩:=f3 j _ hzip;rw [List.getElem?_eq_getElem h3] at g3;cases g3;obtain ⟨z1,hz1,rz1⟩:=q1.get (List.getElem?_eq_getElem hds);obtain ⟨z2,hz2,rz2⟩:=q2.get (List.getElem?_eq_getElem hes);obtain ⟨u1,hu1,ru1⟩:=v1.get hz1;obtain ⟨u2,hu2,ru2⟩:=v2.get hz2;rw [List.getElem?_eq_getElem h1] at hu1;rw [List.getElem?_eq_getElem h2] at hu2;cases hu1;cases hu2;exact ⟨ds[j],es[j],z1,z2,y1,y2,rz1,ru1,rz2,ru2,s1,s2,s3⟩
end
section
variable {X:Cx} {pins:List (Addr × Obj)} {σ:L2.St} {H:Hp} {s:Shared} {G:Gp}
theorem v47 (I:Inv X pins σ H s) {n:Nat} {A:Around} {d e:D} {x y:V} {u v:Value} {sd se:Sn} {b:Bool} (r1:RelD X.K H d x) (v1:RelV x u) (r2:RelD X.K H e y) (v2:RelV y v) (h1:snap G n d=some sd) (h2:snap G n e=some se) (hb:eqN n sd se=some b) (fl:(u41 sd && u41 se)=true):SeqAt.EqAt A s u v b:=by
 rw [Bool.and_eq_true] at fl;have hb':b=eqF sd se:=by
  have z:=hb;rw [ut2 fl.1,if_pos (by rw [fl.1,fl.2];rfl)] at z;exact (Option.some.inj z).symm
 obtain ⟨fx,k⟩:=uo6 (u:=u) h1 fl.1 r1;obtain ⟨fy,_⟩:=uo6 (u:=v) h2 fl.2 r2;rw [hb',<- k e se y h2 fl.2 r2];exact we8 v1 v2 fx fy
theorem vd5 (I:Inv X pins σ H s) (c:Con X.K G H):∀ (n:Nat) (A:Around) (d e:D) (x y:V) (u v:Value) (sd se:Sn) (b:Bool),RelD X.K H d x->RelV x u->RelD X.K H e y->RelV y v->snap G n d=some sd->snap G n e=some se->eqN n sd se=some b->A.units+n < cLine->SeqAt.EqAt A s u v b:=by
 intro n
 induction n with
 | zero =>
  intro A d e x y u v sd se b r1 v1 r2 v2 h1 h2 hb hu
  by_cases fl:(u41 sd && u41 se)=true
  ·exact v47 I r1 v1 r2 v2 h1 h2 hb fl
  ·rcases u68 hb fl with ⟨_,_,_,z,_⟩ | ⟨_,_,_,z,_⟩ <;> cases z
 | succ m ih =>
  intro A d e x y u v sd se b r1 v1 r2 v2 h1 h2 hb hu
  by_cases fl:(u41 sd && u41 se)=true
  ·exact v47 I r1 v1 r2 v2 h1 h2 hb fl
  ·have inner:∀ (its its2:List Value) (bs:List Bool),SeqPair G X.K H m its its2 bs->∀ j (h1:j < its.toArray.size) (h2:j < its2.toArray.size),SeqAt.EqAt A.in1 s its.toArray[j] its2.toArray[j] ((bs[j]?).getD true):=by
    intro its its2 bs P j h1 h2;have h1':j < its.length:=by simpa using h1
    have h2':j < its2.length:=by simpa using h2
    have h3':j < bs.length:=by rw [P.bl];exact h1'
    obtain ⟨d',e',x',y',sd',se',a1,a2,a3,a4,a5,a6,a7⟩:=P.at_ j h1' h2' h3'
    rw [List.getElem?_eq_getElem h3'];have hu':A.in1.units+m < cLine:=by
     have:A.in1.units=A.units+1:=rfl;omega
    have:=ih A.in1 d' e' x' y' _ _ sd' se' _ a1 a2 a3 a4 a5 a6 a7 hu';simpa using this
   rcases u68 hb fl with ⟨m',ss,ts,em,rfl,rfl⟩ | ⟨m',ss,ts,em,rfl,rfl⟩
   ·cases em
    obtain ⟨ds,rfl⟩:=u51 h1;obtain ⟨es,rfl⟩:=u51 h2;obtain ⟨_,_,em,ez,k1⟩:=snap_tup h1;cases em;cases ez;obtain ⟨_,_,em,ez,k2⟩:=snap_tup h2;cases em;cases ez;obtain ⟨a,xs,rfl,q1,rr1⟩:=r1.tup_inv;obtain ⟨a',ys,rfl,q2,rr2⟩:=r2.tup_inv;cases v1;cases v2
    by_cases haa:a=a'
    ·subst haa
     rw [uy9 I c (m+1) (.tup ds) (.tup es) (.ref a) _ _ b r1 r2 h1 h2 hb];exact SeqAt.EqAt.same _
    ·unfold eqN at hb
     split at hb
     ·rename_i hlen
      obtain ⟨bs,kb,rfl⟩:=Option.map_eq_some_iff.mp hb;obtain ⟨its,w1,t1,_⟩:=I.tuple q1;obtain ⟨its2,w2,t2,_⟩:=I.tuple q2;have P:=u88 rr1 w1 rr2 w2 k1 k2 hlen kb;have R:=SeqAt.RcAt.tuples (A:=A) (s:=s) (e:=fun j=>(bs[j]?).getD true) (show s.heap.IsTuple a its.toArray from t1) (show s.heap.IsTuple a' its2.toArray from t2) (by omega) (inner its its2 bs P);have e1:((List.range (min its.toArray.size its2.toArray.size)).all (fun j=>(bs[j]?).getD true) && its.toArray.size == its2.toArray.size)=bs.all id:=by
       have el:its.toArray.size=its2.toArray.size:=by simpa using P.len
       rw [el,Nat.min_self,beq_self_eq_true,Bool.and_true];exact ud7 (by rw [<- el];simpa using P.bl) fun i b hb=>by rw [hb];rfl
      rw [e1] at R;exact SeqAt.EqAt.of_refs haa R
     ·cases hb
   ·cases em
    obtain ⟨a,rfl⟩:=u52 h1;obtain ⟨a',rfl⟩:=u52 h2;obtain ⟨_,ds,_,em,ez,hs1,k1⟩:=snap_ref h1;cases em;cases ez;obtain ⟨_,es,_,em,ez,hs2,k2⟩:=snap_ref h2;cases em;cases ez;cases r1.ref_inv;cases r2.ref_inv;cases v1;cases v2
    by_cases haa:a=a'
    ·subst haa
     rw [uy9 I c (m+1) (.ref a) (.ref a) (.ref a) _ _ b r1 r2 h1 h2 hb];exact SeqAt.EqAt.same _
    ·obtain ⟨xs,q1,rr1⟩:=u31 c hs1
     obtain ⟨ys,q2,rr2⟩:=u31 c hs2;obtain ⟨its,w1,t1,_⟩:=I.list q1;obtain ⟨its2,w2,t2,_⟩:=I.list q2;unfold eqN at hb;split at hb
     ·rename_i hlen
      obtain ⟨bs,kb,rfl⟩:=Option.map_eq_some_iff.mp hb;have P:=u88 rr1 w1 rr2 w2 k1 k2 hlen kb;have el:its.toArray.size=its2.toArray.size:=by simpa using P.len
      have R:=SeqAt.RcAt.lists (A:=A) (s:=s) (e:=fun j=>(bs[j]?).getD true) t1.isList t2.isList el (by omega) (inner its its2 bs P);have e1:((List.range its.toArray.size).all (fun j=>(bs[j]?).getD true))=bs.all id :=
       ud7 (by simpa using P.bl) fun i b hb=>by rw [hb];rfl
      rw [e1] at R;exact SeqAt.EqAt.of_refs haa R
     ·rename_i hlen
      cases hb;have n1:=(u18 k1).1;have n2:=(u18 k2).1;have m1:=rr1.length;have m2:=rr2.length;have m3:=w1.length;have m4:=w2.length;exact SeqAt.EqAt.of_refs haa (SeqAt.RcAt.lists_lengths t1.isList t2.isList (by simp;omega) (by omega))
end
def rEqD (K:W.Frag) (neg:Bool):R2:=fun x y H Q=>∃ (d e:D) (G:Gp) (n:Nat) (sd se:Sn) (b:Bool),RelD K H d x /\ RelD K H e y /\ Con K G H /\ n<=40 /\ snap G n d=some sd /\ snap G n e=some se /\ eqN n sd se=some b /\ u41 sd=false /\ Q (.bl (if neg then !b else b)) H
section
variable {X:Cx} {k:Nat}
theorem w78 (hr:Room k X.A):OpR X (compareOp .Eq) (rEqD X.K false):=by
  intro pins s σ H x y v u Q I rx ry h;obtain ⟨d,e,G,n,sd,se,b,r1,r2,c,hn,h1,h2,hb,fl,q⟩:=h;have hu:=hr.units;have fin:EP X pins σ Q (.bool b) s:=⟨.bl b,H,I,rfl,q⟩
  rcases u68 hb (fun z=>by rw [fl] at z;cases z) with ⟨m,ss,ts,rfl,rfl,rfl⟩ | ⟨m,ss,ts,rfl,rfl,rfl⟩
  · obtain ⟨ds,rfl⟩:=u51 h1
    obtain ⟨es,rfl⟩:=u51 h2
    · · · obtain ⟨_,ss',em,ez,k1⟩ := snap_tup h1
          cases em;cases ez;obtain ⟨m',ts',em,es',k2⟩:=snap_tup h2;cases em;cases es';obtain ⟨a,xs,rfl,q1,rr1⟩:=r1.tup_inv;obtain ⟨a',ys,rfl,q2,rr2⟩:=r2.tup_inv;cases rx;cases ry;unfold eqN at hb;split at hb
          · rename_i hlen
            obtain ⟨bs,kb,rfl⟩:=Option.map_eq_some_iff.mp hb;obtain ⟨its,w1,t1,_⟩:=I.tuple q1;obtain ⟨its2,w2,t2,_⟩:=I.tuple q2;have P:=u88 rr1 w1 rr2 w2 k1 k2 hlen kb;refine SeqAt.eq_tupleAt (e:=fun j=>(bs[j]?).getD true) (show s.heap.IsTuple a its.toArray from t1) (show s.heap.IsTuple a' its2.toArray from t2) (by omega) ?_ ?_
            · intro j h1 h2
              have h1':j < its.length:=by simpa using h1
              have h2':j < its2.length:=by simpa using h2
              have h3':j < bs.length:=by rw [P.bl];exact h1'
              obtain ⟨d',e',x',y',sd',se',a1,a2,a3,a4,a5,a6,a7⟩:=P.at_ j h1' h2' h3'
              rw [List.getElem?_eq_getElem h3'];have:=vd5 I c m X.A.in1 d' e' x' y' _ _ sd' se' _ a1 a2 a3 a4 a5 a6 a7 (by have:X.A.in1.units=X.A.units+1:=rfl;omega);simpa using this
            · have e1 : ((List.range (min its.toArray.size its2.toArray.size)).all (fun j => (bs[j]?).getD true) && its.toArray.size == its2.toArray.size) = bs.all id := by
                have el:its.toArray.size=its2.toArray.size:=by simpa using P.len
                rw [el,Nat.min_self,beq_self_eq_true,Bool.and_true];exact ud7 (by rw [<- el];simpa using P.bl) fun i b hb=>by rw [hb];rfl
              rw [e1];exact fin
          · cases hb
  · obtain ⟨a,rfl⟩:=u52 h1
    obtain ⟨a',rfl⟩:=u52 h2
    · · · obtain ⟨_,ds,ss',em,ez,hs1,k1⟩ := snap_ref h1
          cases em;cases ez;obtain ⟨m',es,ts',em,es',hs2,k2⟩:=snap_ref h2;cases em;cases es';cases r1.ref_inv;cases r2.ref_inv;cases rx;cases ry;obtain ⟨xs,q1,rr1⟩:=u31 c hs1;obtain ⟨ys,q2,rr2⟩:=u31 c hs2;obtain ⟨its,w1,t1,_⟩:=I.list q1;obtain ⟨its2,w2,t2,_⟩:=I.list q2;unfold eqN at hb;split at hb
          · rename_i hlen
            obtain ⟨bs,kb,rfl⟩:=Option.map_eq_some_iff.mp hb;have P:=u88 rr1 w1 rr2 w2 k1 k2 hlen kb;have el:its.toArray.size=its2.toArray.size:=by simpa using P.len
            refine SeqAt.eq_listAt (e:=fun j=>(bs[j]?).getD true) t1.isList t2.isList el (by omega) ?_ ?_
            · intro j h1 h2
              have h1':j < its.length:=by simpa using h1
              have h2':j < its2.length:=by simpa using h2
              have h3':j < bs.length:=by rw [P.bl];exact h1'
              obtain ⟨d',e',x',y',sd',se',a1,a2,a3,a4,a5,a6,a7⟩:=P.at_ j h1' h2' h3'
              rw [List.getElem?_eq_getElem h3'];have:=vd5 I c m X.A.in1 d' e' x' y' _ _ sd' se' _ a1 a2 a3 a4 a5 a6 a7 (by have:X.A.in1.units=X.A.units+1:=rfl;omega);simpa using this
            · have e1 : ((List.range its.toArray.size).all (fun j => (bs[j]?).getD true)) = bs.all id :=
                ud7 (by simpa using P.bl) fun i b hb=>by rw [hb];rfl
              rw [e1];exact fin
          · rename_i hlen
            cases hb;have n1:=(u18 k1).1;have n2:=(u18 k2).1;have m1:=rr1.length;have m2:=rr2.length;have m3:=w1.length;have m4:=w2.length;exact SeqAt.eq_list_lengthsAt t1.isList t2.isList (by simp;omega) (by omega) fin
theorem w74 (hr:Room k X.A):OpR X (compareOp .NotEq) (rEqD X.K true):=by
  intro pins s σ H x y v u Q I rx ry h;obtain ⟨d,e,G,n,sd,se,b,r1,r2,c,hn,h1,h2,hb,fl,q⟩:=h;have hu:=hr.units;have fin:EP X pins σ Q (.bool (!b)) s:=⟨.bl (!b),H,I,rfl,q⟩
  rcases u68 hb (fun z=>by rw [fl] at z;cases z) with ⟨m,ss,ts,rfl,rfl,rfl⟩ | ⟨m,ss,ts,rfl,rfl,rfl⟩
  · obtain ⟨ds,rfl⟩:=u51 h1
    obtain ⟨es,rfl⟩:=u51 h2
    · · · obtain ⟨_,ss',em,ez,k1⟩ := snap_tup h1
          cases em;cases ez;obtain ⟨m',ts',em,es',k2⟩:=snap_tup h2;cases em;cases es';obtain ⟨a,xs,rfl,q1,rr1⟩:=r1.tup_inv;obtain ⟨a',ys,rfl,q2,rr2⟩:=r2.tup_inv;cases rx;cases ry;unfold eqN at hb;split at hb
          · rename_i hlen
            obtain ⟨bs,kb,rfl⟩:=Option.map_eq_some_iff.mp hb;obtain ⟨its,w1,t1,_⟩:=I.tuple q1;obtain ⟨its2,w2,t2,_⟩:=I.tuple q2;have P:=u88 rr1 w1 rr2 w2 k1 k2 hlen kb;refine SeqAt.RcNeAt.tuples (e:=fun j=>(bs[j]?).getD true) (show s.heap.IsTuple a its.toArray from t1) (show s.heap.IsTuple a' its2.toArray from t2) (by omega) ?_ X.prog X.w X.xe _ ?_
            · intro j h1 h2
              have h1':j < its.length:=by simpa using h1
              have h2':j < its2.length:=by simpa using h2
              have h3':j < bs.length:=by rw [P.bl];exact h1'
              obtain ⟨d',e',x',y',sd',se',a1,a2,a3,a4,a5,a6,a7⟩:=P.at_ j h1' h2' h3'
              rw [List.getElem?_eq_getElem h3'];have:=vd5 I c m X.A.in1 d' e' x' y' _ _ sd' se' _ a1 a2 a3 a4 a5 a6 a7 (by have:X.A.in1.units=X.A.units+1:=rfl;omega);simpa using this
            · have e1 : ((List.range (min its.toArray.size its2.toArray.size)).all (fun j => (bs[j]?).getD true) && its.toArray.size == its2.toArray.size) = bs.all id := by
                have el:its.toArray.size=its2.toArray.size:=by simpa using P.len
                rw [el,Nat.min_self,beq_self_eq_true,Bool.and_true];exact ud7 (by rw [<- el];simpa using P.bl) fun i b hb=>by rw [hb];rfl
              rw [e1];exact fin
          · cases hb
  · obtain ⟨a,rfl⟩:=u52 h1
    obtain ⟨a',rfl⟩:=u52 h2
    · · · obtain ⟨_,ds,ss',em,ez,hs1,k1⟩ := snap_ref h1
          cases em;cases ez;obtain ⟨m',es,ts',em,es',hs2,k2⟩:=snap_ref h2;cases em;cases es';cases r1.ref_inv;cases r2.ref_inv;cases rx;cases ry;obtain ⟨xs,q1,rr1⟩:=u31 c hs1;obtain ⟨ys,q2,rr2⟩:=u31 c hs2;obtain ⟨its,w1,t1,_⟩:=I.list q1;obtain ⟨its2,w2,t2,_⟩:=I.list q2;unfold eqN at hb;split at hb
          · rename_i hlen
            obtain ⟨bs,kb,rfl⟩:=Option.map_eq_some_iff.mp hb;have P:=u88 rr1 w1 rr2 w2 k1 k2 hlen kb;have el:its.toArray.size=its2.toArray.size:=by simpa using P.len
            refine SeqAt.RcNeAt.lists (e:=fun j=>(bs[j]?).getD true) t1.isList t2.isList el (by omega) ?_ X.prog X.w X.xe _ ?_
            · intro j h1 h2
              have h1':j < its.length:=by simpa using h1
              have h2':j < its2.length:=by simpa using h2
              have h3':j < bs.length:=by rw [P.bl];exact h1'
              obtain ⟨d',e',x',y',sd',se',a1,a2,a3,a4,a5,a6,a7⟩:=P.at_ j h1' h2' h3'
              rw [List.getElem?_eq_getElem h3'];have:=vd5 I c m X.A.in1 d' e' x' y' _ _ sd' se' _ a1 a2 a3 a4 a5 a6 a7 (by have:X.A.in1.units=X.A.units+1:=rfl;omega);simpa using this
            · have e1 : ((List.range its.toArray.size).all (fun j => (bs[j]?).getD true)) = bs.all id :=
                ud7 (by simpa using P.bl) fun i b hb=>by rw [hb];rfl
              rw [e1];exact fin
          · rename_i hlen
            cases hb;have n1:=(u18 k1).1;have n2:=(u18 k2).1;have m1:=rr1.length;have m2:=rr2.length;have m3:=w1.length;have m4:=w2.length;exact SeqAt.RcNeAt.lists_lengths t1.isList t2.isList (by simp;omega) (by omega) X.prog X.w X.xe _ fin
end
structure FnAt (K:W.Frag) (x qual:Str) (st:Stmt) (ps:List Str) where
 a:Addr
 fd:FuncData
 ex:∃ (oc:Value) (od:Option Addr) (dV kV doc pm:Value) (an:Option Addr) (cdv ct:Value) (osl:Array (Option Value)),
  fd=W.fnOf x qual (u42 st) (u36 st) (u04 st) dV kV doc pm an cdv ct /\ K.lookup a=some ⟨oc,od,.func fd,osl⟩ /\ W.codeIn K cdv qual=true
 kp:W.keepIn K (.ref a)=true
 b:Binds K fd ps []
abbrev Ok (P:Program) (w:World) {K:W.Frag} (mg:Str->Option Value) (base:Heap) (n:Nat) {x qual:Str} {st:Stmt} {ps:List Str} (d:FnAt K x qual st ps) (S:Sp3):Prop:=FnOk P w K mg base CX0 n d.a d.fd ps (uk1 K S)
def ua6 (N:List Str) (ds:List D):DSt:=ds.map some++List.replicate (N.length - ds.length) none
theorem ud0 {K:W.Frag} {H:Hp} {N:List Str} {ds:List D} {vs:List V} (r:RelDs K H ds vs):RelSt K H (ua6 N ds) (L2.start N vs):=by
 unfold ua6 L2.start;refine ⟨by simp [r.length],fun i d e=>?_⟩
 by_cases hi:i < ds.length
 ·rw [List.getElem?_append_left (by simpa using hi),List.getElem?_map] at e
  rw [List.getElem?_append_left (by simpa [<- r.length] using hi),List.getElem?_map];cases h:ds[i]? with
  | none=>rw [h] at e;cases e
  | some d' =>
   rw [h] at e;cases e;obtain ⟨v,hv,rv⟩:=r.get h;exact ⟨v,by rw [hv];rfl,rv⟩
 ·rw [List.getElem?_append_right (by simpa using hi),List.getElem?_replicate] at e
  split at e <;> cases e
section
variable {P:Program} {w:World} {K:W.Frag} {mg:Str->Option Value} {base:Heap}
theorem u17 {x qual:Str} {st:Stmt} {ps N:List Str} {k:Nat} (d:FnAt K x qual st ps) {S:Sp3} (sc:FnScope N ps (u04 st)) (hl:∀ ds G R,S ds G R->ds.length=ps.length) {t:TS3}
  (ht:∀ (cdv:Value) (A:Around) (outer:List Env) (s:Shared) (H:Hp) (E:XK),Room k (A.deeper (envOfC qual (u04 st) s.heap.objs.size d.a cdv))->Ss3 (cxOf CX0 P w K mg base N qual (u04 st) d.a cdv A outer s H E).nox (u36 st) t)
  (hb:∀ ds G R,S ds G R->t { nx:=fun _ G'=>R .non G',rt:=R } (ua6 N ds) G):Ok P w mg base (k+1) d S:=by
 obtain ⟨oc,od,dV,kV,doc,pm,an,cdv,ct,osl,e,lk,hcd⟩:=d.ex;have lk':K.lookup d.a=some ⟨oc,od,.func (W.fnOf x qual (u42 st) (u36 st) (u04 st) dV kV doc pm an cdv ct),osl⟩:=e ▸ lk;have F:FnOk P w K mg base CX0 (k+1) d.a (W.fnOf x qual (u42 st) (u36 st) (u04 st) dV kV doc pm an cdv ct) ps (uk1 K S):=by
  refine we4 lk' hcd sc (fun vs H Q E h=>?_) fun A outer s H vs Q E hr h=>?_
  ·obtain ⟨ds,G,R,r,_,hS,_⟩:=h
   rw [<- r.length];exact hl ds G R hS
  ·obtain ⟨ds,G,R,r,c,hS,f⟩:=h
   refine ⟨_,(show PSs _ _ _ from ht cdv A outer s H E hr).nox,ua6 N ds,G,_,ud0 r,c,hb ds G R hS,fun σd' G' σ' H' _ c' l' q=>?_,f,fun _ _ _ _ _ _ _ q=>q.elim,fun _ _ _ _ _ _ _ q=>q.elim⟩;exact f .non G' .non H' RelD.nonI c' l' q
 have F2:=F;rw [<- e] at F2;exact F2
end
section
variable {X:Cx} {e o:Expr} {es:List Expr} {p pos apos:Pos} {ta:TE3} {ts:TA3} {k n:Nat} {S:Sp3} {x m qual:Str} {st:Stmt} {ps:List Str} {C:Addr}
theorem ec (d:FnAt X.K x qual st ps) (hm:X.mg x=some (.ref d.a)) (G:FnOk X.prog X.w X.K X.mg X.base CX0 k d.a d.fd ps (uk1 X.K S)) (hr:Room k X.A) (ha:A3 X (e::es) ts) (hg:Gl X x:=by rfl) (hdb:(x == ("__debug__" : Str))=false:=by decide)
  (he:starEach (e::es) X.env=(false,eval e X.env)::starEach es X.env:=by rfl) (hpl:(backTo pos (starEach es X.env)).any (·.1)=false:=by rfl):E3 X (.Call (.Name x p) (e::es) [] pos) (dCall S [] ts) :=
 wf1 G hr hg hm d.kp d.b .nil (fun _=>.nil) ha hdb he hpl
end
def wg0 (osc:Scope) (N N':List Str) (ix:List (Option Nat)) (scope:Scope):Bool :=
 (scope.kind == .function) && scope.names.all (fun y=>y.2 != .cell) && scope.names.all (fun y=>y.2 != .local || scope.names.lookup y.1 == some .local) &&
 scope.names.all (fun y=>y.2 != .free || osc.names.lookup y.1 == some .cell || osc.names.lookup y.1 == some .free) && (ix.length == N'.length) &&
 (N'.zip ix).all (fun p=>match p.2 with | none=>true | some j=>N[j]? == some p.1 && scope.names.lookup p.1 == some .free)
theorem blk {X:Cx} {osc:Scope} {N N':List Str} {ix:List (Option Nat)} {scope:Scope} (h1:X.env.scope=osc) (h2:X.N=N) (h:wg0 osc N N' ix scope=true):BlkOk X N' ix scope:=by
 unfold wg0 at h;simp only [Bool.and_eq_true] at h;obtain ⟨⟨⟨⟨⟨a1,a2⟩,a3⟩,a4⟩,a5⟩,a6⟩:=h;rw [List.all_eq_true] at a2 a3 a4 a6;refine ⟨eq_of_beq a1,fun y hy=>by simpa using a2 y hy,fun y hy e=>?_,fun y hy e=>?_,eq_of_beq a5,fun i j x e1 e2=>?_⟩
 ·have:=a3 y hy
  simp only [e,bne_self_eq_false,Bool.false_or] at this;exact eq_of_beq this
 ·have:=a4 y hy
  simp only [e,bne_self_eq_false,Bool.false_or,Bool.or_eq_true,beq_iff_eq] at this;unfold Env.kindOf;rw [h1];exact this
 ·have hz:(N'.zip ix)[i]?=some (x,some j):=by rw [List.getElem?_zip_eq_some];exact ⟨e1,e2⟩
  have:=a6 _ (List.mem_of_getElem? hz);simp only [Bool.and_eq_true,beq_iff_eq] at this;rw [h2];exact this
section
variable {X:Cx} {K:W.Frag} {H:Hp}
def vg4:RS3:=fun x lo hi G q=>match x with
 | .ref a=>(match u11 (G a) with | some ds=>∀ p,G p=none->q (.ref p) (gup G p (.lst (cutD ds lo hi))) | none=>False)
 | .tup ds=>¬ (HT.sIx ds.length 0 lo=0 /\ HT.sIx ds.length ds.length hi=ds.length) /\ q (.tup (cutD ds lo hi)) G
 | _=>False
def xLen:C3:=fun ds G q=>match ds with
 | [.str z]=>z.length<=sizeLine /\ q (.int z.length) G
 | [.tup xs]=>q (.int xs.length) G
 | [.ref a]=>(match u11 (G a) with | some xs=>q (.int xs.length) G | none=>False)
 | _=>False
theorem RelDs.one {d:D} {vs:List V} (h:RelDs K H [d] vs):∃ v,vs=[v] /\ RelD K H d v:=by
 obtain ⟨x,r,rfl,h1,h2⟩:=h.inv_cons;rw [h2.inv_nil];exact ⟨x,rfl,h1⟩
theorem RelDs.two {d e:D} {vs:List V} (h:RelDs K H [d,e] vs):∃ v u,vs=[v,u] /\ RelD K H d v /\ RelD K H e u:=by
 obtain ⟨x,r,rfl,h1,h2⟩:=h.inv_cons;obtain ⟨y,rfl,h3⟩:=h2.one;exact ⟨x,y,rfl,h1,h3⟩
theorem ua3:Call3 X (.builtin "len") xLen:=u33 (call_len_seq.or ul6) <| by
 rintro xs H Q ⟨ds,G,q,r,c,t,f⟩;unfold xLen at t;split at t
 ·obtain ⟨v,rfl,r1⟩:=r.one
  cases r1.str_inv;exact .inr ⟨_,rfl,t.1,f _ _ _ _ RelD.intI c (Le.refl H) t.2⟩
 ·obtain ⟨v,rfl,r1⟩:=r.one
  obtain ⟨a,ys,rfl,s1,q1⟩:=r1.tup_inv;refine .inl ⟨a,ys,rfl,.inr s1,?_⟩;rw [<- q1.length];exact f _ _ _ _ RelD.intI c (Le.refl H) t
 ·obtain ⟨v,rfl,r1⟩:=r.one
  cases r1.ref_inv;split at t
  ·rename_i ds e
   obtain ⟨ys,s1,q1⟩:=u31 c e;refine .inl ⟨_,ys,rfl,.inl s1,?_⟩;rw [<- q1.length];exact f _ _ _ _ RelD.intI c (Le.refl H) t
  ·exact t.elim
 ·exact t.elim
def xAbs:C3:=fun ds G q=>match ds with | [.int i]=>q (.int (if i < 0 then -i else i)) G | _=>False
theorem v83:Call3 X (.builtin "abs") xAbs:=u33 ve6 <| by
 rintro xs H Q ⟨ds,G,q,r,c,t,f⟩;unfold xAbs at t;split at t
 ·obtain ⟨v,rfl,r1⟩:=r.one
  cases r1.int_inv;exact ⟨_,rfl,f _ _ _ _ RelD.intI c (Le.refl H) t⟩
 ·exact t.elim
def vn0:C3:=fun ds G q=>match ds with | [.int i,.int j]=>CDiv i j /\ q (.tup [.int (i / j),.int (i % j)]) G | _=>False
def vm9:C3:=fun ds G q=>match ds with | [.int i,.int j]=>q (.int (if j > i then j else i)) G | _=>False
def vm7:C3:=fun ds G q=>match ds with | [.int i,.int j]=>q (.int (if j < i then j else i)) G | _=>False
theorem vg1 (hc:X.calm=true:=by rfl):Call3 X (.builtin "max") vm9:=u33 (v72 hc) <| by
 rintro xs H Q ⟨ds,G,q,r,c,t,f⟩;unfold vm9 at t;split at t
 ·obtain ⟨v,u,rfl,r1,r2⟩:=r.two
  cases r1.int_inv;cases r2.int_inv;exact ⟨_,_,rfl,f _ _ _ _ RelD.intI c (Le.refl H) t⟩
 ·exact t.elim
theorem uq0 (hc:X.calm=true:=by rfl):Call3 X (.builtin "min") vm7:=u33 (v70 hc) <| by
 rintro xs H Q ⟨ds,G,q,r,c,t,f⟩;unfold vm7 at t;split at t
 ·obtain ⟨v,u,rfl,r1,r2⟩:=r.two
  cases r1.int_inv;cases r2.int_inv;exact ⟨_,_,rfl,f _ _ _ _ RelD.intI c (Le.refl H) t⟩
 ·exact t.elim
def vg3:C3:=fun ds G q=>match ds with | [.int i]=>q (.int i) G | [.bl b]=>q (.int (if b then 1 else 0)) G | _=>False
def ue2:C3:=fun ds G q=>match ds with
 | [.tup xs]=>∀ p,G p=none->q (.ref p) (gup G p (.lst xs))
 | [.ref a]=>(match u11 (G a) with | some xs=>∀ p,G p=none->q (.ref p) (gup G p (.lst xs)) | none=>False)
 | _=>False
theorem v82:Call3 X (.type "list") ue2:=u33 ul5 <| by
 rintro xs H Q ⟨ds,G,q,r,c,t,f⟩;unfold ue2 at t;split at t
 ·obtain ⟨v,rfl,r1⟩:=r.one
  obtain ⟨a,ys,rfl,s1,q1⟩:=r1.tup_inv;exact ⟨a,ys,rfl,.inr s1,fun p hp=>f _ _ _ _ RelD.refI (c.lstNew hp q1) (Le.fresh hp) (t p (c.fresh hp))⟩
 ·obtain ⟨v,rfl,r1⟩:=r.one
  cases r1.ref_inv;split at t
  ·rename_i ds e
   obtain ⟨ys,s1,q1⟩:=u31 c e;exact ⟨_,ys,rfl,.inl s1,fun p hp=>f _ _ _ _ RelD.refI (c.lstNew hp q1) (Le.fresh hp) (t p (c.fresh hp))⟩
  ·exact t.elim
 ·exact t.elim
def uq1:C3:=fun ds G q=>match ds with
 | [.tup xs]=>q (.tup xs) G
 | [.ref a]=>(match u11 (G a) with | some xs=>q (.tup xs) G | none=>False)
 | _=>False
def v79:List D->Option (List Bool)
 | []=>some []
 | .bl b::r=>(v79 r).map (b::·)
 | _=>none
theorem um1:∀ {ds:List D} {bs:List Bool} {vs:List V},v79 ds=some bs->RelDs K H ds vs->vs=bs.map V.bl
 | [],bs,vs,e,r=>by cases e;rw [r.inv_nil];rfl
 | .bl b::ds,bs,vs,e,r=>by
  obtain ⟨x,xs,rfl,h1,h2⟩:=r.inv_cons;obtain ⟨bs',e',rfl⟩:=Option.map_eq_some_iff.mp (show (v79 ds).map (b::·)=some bs from e);rw [h1.bl_inv,um1 e' h2];rfl
 | .non::_,_,_,e,_=>by cases e
 | .int _::_,_,_,e,_=>by cases e
 | .str _::_,_,_,e,_=>by cases e
 | .tup _::_,_,_,e,_=>by cases e
 | .ref _::_,_,_,e,_=>by cases e
 | .ty _::_,_,_,e,_=>by cases e
def xAll:C3:=fun ds G q=>match ds with
 | [.ref a]=>(match u11 (G a) with | some xs=>(match v79 xs with | some bs=>q (.bl (bs.all id)) G | none=>False) | none=>False)
 | _=>False
theorem wh7 (hc:X.calm=true:=by rfl):Call3 X (.builtin "all") xAll:=u33 (ve5 hc) <| by
 rintro xs H Q ⟨ds,G,q,r,c,t,f⟩;unfold xAll at t;split at t
 ·obtain ⟨v,rfl,r1⟩:=r.one
  cases r1.ref_inv;split at t
  ·rename_i ds e
   obtain ⟨ys,s1,q1⟩:=u31 c e;split at t
   ·rename_i bs eb
    have:=um1 eb q1;subst this;exact ⟨_,bs,rfl,s1,f _ _ _ _ RelD.blI c (Le.refl H) t⟩
   ·exact t.elim
  ·exact t.elim
 ·exact t.elim
def uc5:List D->Option (List Int)
 | []=>some []
 | .int b::r=>(uc5 r).map (b::·)
 | _=>none
theorem ud8:∀ {ds:List D} {bs:List Int} {vs:List V},uc5 ds=some bs->RelDs K H ds vs->vs=bs.map V.int
 | [],bs,vs,e,r=>by cases e;rw [r.inv_nil];rfl
 | .int b::ds,bs,vs,e,r=>by
  obtain ⟨x,xs,rfl,h1,h2⟩:=r.inv_cons;obtain ⟨bs',e',rfl⟩:=Option.map_eq_some_iff.mp (show (uc5 ds).map (b::·)=some bs from e);rw [h1.int_inv,ud8 e' h2];rfl
 | .non::_,_,_,e,_=>by cases e
 | .bl _::_,_,_,e,_=>by cases e
 | .str _::_,_,_,e,_=>by cases e
 | .tup _::_,_,_,e,_=>by cases e
 | .ref _::_,_,_,e,_=>by cases e
 | .ty _::_,_,_,e,_=>by cases e
def uo3 (G:Gp):D->Option String
 | .non=>some "NoneType"
 | .bl _=>some "bool"
 | .int _=>some "int"
 | .str _=>some "str"
 | .ref a=>match G a with | some (.lst _)=>some "list" | some (.fro _)=>some "list" | some (.dic _)=>some "dict" | _=>none
 | _=>none
def um5:C3:=fun ds G q=>match ds with
 | [x,.ty T]=>(T = "int" \/ T = "str" \/ T = "bool" \/ T = "list" \/ T = "tuple" \/ T = "dict") /\ (match uo3 G x with | some n=>q (.bl (subK n T)) G | none=>False)
 | _=>False
theorem ue1:Call3 X (.builtin "isinstance") um5:=u33 up7 <| by
 rintro xs H Q ⟨ds,G,q,r,c,t,f⟩;unfold um5 at t;split at t
 ·rename_i d T
  obtain ⟨v,u,rfl,r1,r2⟩:=r.two;rw [RelD] at r2;subst r2;obtain ⟨hT,t⟩:=t;split at t
  ·rename_i n en
   refine ⟨v,n,T,rfl,?_,hT,f _ _ _ _ RelD.blI c (Le.refl H) t⟩;unfold uo3 at en;split at en
   ·cases r1.non_inv;cases en;rfl
   ·cases r1.bl_inv;cases en;rfl
   ·cases r1.int_inv;cases en;rfl
   ·cases r1.str_inv;cases en;rfl
   ·rename_i a
    cases r1.ref_inv;split at en
    ·rename_i xs ea;cases en;obtain ⟨ys,h1,_⟩:=c _ _ ea;exact .inl ⟨rfl,.inl ⟨ys,h1⟩⟩
    ·rename_i xs ea;cases en;obtain ⟨o,ys,h1,_⟩:=c _ _ ea;exact .inl ⟨rfl,.inr ⟨o,ys,h1⟩⟩
    ·rename_i xs ea;cases en;obtain ⟨ys,h1,_⟩:=c _ _ ea;exact .inr (.inr ⟨rfl,ys,h1⟩)
    ·cases en
   ·cases en
  ·exact t.elim
 ·exact t.elim
theorem v48 {x:Str} {T:String} {pos:Pos} (hm:X.mg x=none) (hv:bootBuiltins x=some (.type T)) (hg:Gl X x:=by rfl) (hn:x ≠ "__name__" := by decide) (hd:(x == ("__debug__" : Str))=false:=by decide):E3 X (.Name x pos) (dC (.ty T)) :=
 u28 (vs6 (v:=.ty T) hg hm hv rfl hn hd) fun _ _ _=>v26 fun _=>by rw [RelD]
def xIs2:R3:=fun x y G q=>match y with
 | .non=>(match x with | .non=>q (.bl true) G | _=>q (.bl false) G)
 | .bl b=>(match x with | .bl c=>q (.bl (decide (c=b))) G | _=>q (.bl false) G)
 | _=>False
def ux6:R3:=fun x y G q=>match y with
 | .non=>(match x with | .non=>q (.bl false) G | _=>q (.bl true) G)
 | .bl b=>(match x with | .bl c=>q (.bl (!decide (c=b))) G | _=>q (.bl true) G)
 | _=>False
theorem RelD.not_bl {d:D} {v:V} (h:RelD K H d v) (b:Bool) (n:∀ c,d ≠ .bl c):v ≠ .bl b:=by
 cases d with
 | bl c=>exact absurd rfl (n c)
 | non=>rw [h.non_inv];exact fun z=>nomatch z
 | int _=>rw [h.int_inv];exact fun z=>nomatch z
 | str _=>rw [h.str_inv];exact fun z=>nomatch z
 | ref _=>rw [h.ref_inv];exact fun z=>nomatch z
 | ty _=>rw [RelD] at h;rw [h];exact fun z=>nomatch z
 | tup _=>obtain ⟨a,xs,e,_⟩:=h.tup_inv;rw [e];exact fun z=>nomatch z
theorem uh2 {c b:Bool}:decide (V.bl c=V.bl b)=decide (c=b):=by cases c <;> cases b <;> rfl
theorem wh4:Op3 X (compareOp .Is) xIs2:=u62 (op_isN.or w76) <| by
 rintro x y H Q ⟨d,e,G,q,r1,r2,c,t,f⟩;unfold xIs2 at t;split at t
 ·refine .inl ⟨r2.non_inv,?_⟩
  split at t
  ·rw [r1.non_inv]
   exact f _ _ _ _ RelD.blI c (Le.refl H) t
  ·rename_i hd
   rw [decide_eq_false (r1.not_non fun z=>hd z)];exact f _ _ _ _ RelD.blI c (Le.refl H) t
 ·rename_i b
  refine .inr ⟨b,r2.bl_inv,?_⟩;split at t
  ·rw [r1.bl_inv,uh2]
   exact f _ _ _ _ RelD.blI c (Le.refl H) t
  ·rename_i hd
   rw [decide_eq_false (r1.not_bl b fun z hz=>hd z hz)];exact f _ _ _ _ RelD.blI c (Le.refl H) t
 ·exact t.elim
end
def jSeq (n:Nat) (t:TGs3):TG3:=fun d σ G q=>match d with
 | .tup ds=>ds.length=n /\ t ds σ G q
 | .ref a=>(match u11 (G a) with | some ds=>ds.length=n /\ t ds σ G q | none=>False)
 | _=>False
def wAny (te:TE3):TI3:=fun σ G r=>te σ G fun x G1=>match x with
 | .ref a=>(match u11 (G1 a) with | some ds=>r ⟨ds,fun G=>u11 (G a)=some ds⟩ G1 | none=>False)
 | .tup ds=>r ⟨ds,fun _=>True⟩ G1
 | _=>False
section
variable {X:Cx} {es:List Expr} {e tg:Expr} {te:TE3} {pos:Pos}
theorem vw1 {k n:Nat} {t:TGs3} (hc:X.calm=true) (h:Js3 X es t) (hn:(assignEach es X.env).length=n:=by rfl) (hst:(assignEach es X.env).findIdx? (·.1)=none:=by rfl):J3 X (.Tuple es k pos) (jSeq n t) :=
 vn4 (wj6 (w53 hc h hn hst) (vr7 hc h hn hst)) fun v σ H Q hh=>by
  obtain ⟨d,σd,G,q,r,rs,c,t,f⟩:=hh;unfold jSeq at t;split at t
  ·rename_i ds
   obtain ⟨a,xs,rfl,s,r2⟩:=r.tup_inv;exact .inl ⟨a,xs,rfl,s,by rw [<- r2.length];exact t.1,ds,σd,G,q,r2,rs,c,t.2,f⟩
  ·rename_i a
   split at t
   ·rename_i ds e
    obtain ⟨xs,s,r'⟩:=u31 c e;exact .inr ⟨a,xs,r.ref_inv,s,by rw [<- r'.length];exact t.1,ds,σd,G,q,r',rs,c,t.2,f⟩
   ·exact t.elim
  ·exact t.elim
theorem ub8 (h:E3 X e te):I3 X tg e (wAny te):=v85 (w52 h) fun σ H R hh=>by
 obtain ⟨σd,G,q,rs,c,t,f⟩:=hh;refine ⟨σd,G,_,rs,c,t,fun x G1 v H1 r1 c1 l1 t1=>?_⟩;split at t1
 ·rename_i a
  split at t1
  ·rename_i ds e
   obtain ⟨xs,s,_⟩:=u31 c1 e;exact ⟨a,r1.ref_inv,.inl ⟨⟨xs,s⟩,f _ _ _ _ uv9 c1 l1 t1⟩⟩
  ·exact t1.elim
 ·rename_i ds
  obtain ⟨a,xs,rfl,s,r⟩:=r1.tup_inv;exact ⟨a,rfl,.inr ⟨⟨xs,s⟩,f _ _ _ _ (v40 s r) c1 l1 t1⟩⟩
 ·exact t1.elim
end
section
variable {X:Cx} {e o:Expr} {es:List Expr} {to:TE3} {ts:TA3} {apos cpos:Pos}
theorem ty_list (K:W.Frag):∀ G H x v,Con K G H->RelD K H x v->tyD G "list" x->tyV K "list" v H:=by
 intro G H x v c r t;cases x with
 | ref a =>
  cases r.ref_inv;cases e:G a with
  | none=>simp [tyD,e] at t
  | some o =>
   cases o with
   | lst ds=>obtain ⟨xs,s,_⟩:=u31 (ds:=ds) c (by rw [e];rfl);exact .inl ⟨rfl,xs,s⟩
   | fro ds=>obtain ⟨xs,s,_⟩:=u31 (ds:=ds) c (by rw [e];rfl);exact .inl ⟨rfl,xs,s⟩
   | dic _=>simp [tyD,e] at t
   | dit _=>simp [tyD,e] at t
   | ins _ _=>simp [tyD,e] at t
   | exc _ _=>simp [tyD,e] at t
   | frd _ _=>simp [tyD,e] at t
   | tb _ _=>simp [tyD,e] at t
 | str _=>simp [tyD] at t
 | int _=>simp [tyD] at t
 | _=>exact t.elim
def uf6:M3:=fun x ds G q=>match x,ds with
 | .ref a,[d]=>(match G a with | some (.lst xs)=>xs.length < sizeLine /\ q .non (gup G a (.lst (xs++[d]))) | _=>False)
 | _,_=>False
theorem u85 (ho:E3 X o to) (ha:A3 X (e::es) ts) (hbase:attributeBase o "append" X.env (eval o X.env)=eval o X.env:=by rfl)
  (hfew:((backTo cpos (starEach (e::es) X.env)).all (fun x=>!x.1) && (backToKw cpos (keywordEach [] X.env)).all (fun x=>x.1.isSome)
   && decide ((e::es).length+([]:List Keyword).length+(if ([]:List Keyword).isEmpty then 0 else 1) < 30))=true:=by rfl)
  (hline:(apos.endLine == cpos.line)=true:=by rfl) (hs:starEach (e::es) X.env=(false,eval e X.env)::starEach es X.env:=by rfl) (hplain:(backTo cpos (starEach es X.env)).any (·.1)=false:=by rfl) :
  E3 X (.Call (.Attribute o "append" apos) (e::es) [] cpos) (dBM "list" uf6 to ts) :=
 u28 (wk1 PySem.F.plainAttrs_list PySem.F.slot_list_append PySem.F.type_list_append (vg7 (r':=lowM X.K uf6) uj7 <| by
  rintro x xs H Q ⟨d,ds,G,q,r1,r2,c,t,f⟩;unfold uf6 at t;split at t
  ·rename_i a d'
   split at t
   ·rename_i ys ea
    cases r1.ref_inv;obtain ⟨v,rfl,rv⟩:=r2.one;obtain ⟨zs,h1,q1⟩:=c _ _ ea;exact ⟨a,zs,v,rfl,rfl,h1,by rw [<- q1.length];exact t.1,f _ _ _ _ RelD.nonI (c.lstSet h1 (q1.append (.cons rv .nil))) (Le.lst h1) t.2⟩
   ·exact t.elim
  ·exact t.elim) ho ha hbase hfew hline hs hplain) fun _ _ _=>wc3 (ty_list X.K)
def vt6:M3:=fun x ds G q=>match x,ds with
 | .ref a,[.ref b]=>(match G a,G b with | some (.lst xs),some (.lst ys)=>xs.length+ys.length<=sizeLine /\ q .non (gup G a (.lst (xs++ys))) | _,_=>False)
 | _,_=>False
def v18:M3:=fun x ds G q=>match x,ds with
 | .ref a,[]=>(match G a with | some (.lst xs)=>(match xs[xs.length - 1]? with | some y=>q y (gup G a (.lst xs.dropLast)) | none=>False) | _=>False)
 | _,_=>False
theorem v49 (ho:E3 X o to) (hbase:attributeBase o "pop" X.env (eval o X.env)=eval o X.env:=by rfl) (hline:(apos.endLine == cpos.line)=true:=by rfl):E3 X (.Call (.Attribute o "pop" apos) [] [] cpos) (dBM0 "list" v18 to) :=
 u28 (w62 PySem.F.plainAttrs_list PySem.F.slot_list_pop PySem.F.type_list_pop (vg7 (r':=lowM X.K v18) wb2 <| by
  rintro x xs H Q ⟨d,ds,G,q,r1,r2,c,t,f⟩;unfold v18 at t;split at t
  ·rename_i a
   split at t
   ·rename_i ys ea
    split at t
    ·rename_i y ey
     cases r1.ref_inv;cases r2.inv_nil;obtain ⟨zs,h1,q1⟩:=c _ _ ea;obtain ⟨v,hv,rv⟩:=q1.get ey;exact ⟨a,zs,v,rfl,rfl,h1,by rw [<- q1.length];exact hv,f _ _ _ _ (RelD.le (Le.lst h1) rv) (c.lstSet h1 q1.dropLast) (Le.lst h1) t⟩
    ·exact t.elim
   ·exact t.elim
  ·exact t.elim) ho hbase hline) fun _ _ _=>vv0 (ty_list X.K)
def vt7:M3:=fun x ds G q=>match x,ds with
 | .ref a,[]=>(match G a with | some (.lst _)=>q .non (gup G a (.lst [])) | _=>False)
 | _,_=>False
end
def xEqB (neg:Bool):R3:=fun x y G q=>match x,y with
 | .int i,.int j=>q (.bl (if neg then !decide (i=j) else decide (i=j))) G
 | .str i,.str j=>q (.bl (if neg then !decide (i=j) else decide (i=j))) G
 | .bl i,.bl j=>q (.bl (if neg then !decide (i=j) else decide (i=j))) G
 | .non,.non=>q (.bl (!neg)) G
 | .non,.int _=>q (.bl neg) G
 | .int _,.non=>q (.bl neg) G
 | .non,.bl _=>q (.bl neg) G
 | .bl _,.non=>q (.bl neg) G
 | .non,.str _=>q (.bl neg) G
 | .str _,.non=>q (.bl neg) G
 | .int _,.str _=>q (.bl neg) G
 | .str _,.int _=>q (.bl neg) G
 | .tup xs,.tup ys=>∃ n sd se b,n<=40 /\ snap G n (.tup xs)=some sd /\ snap G n (.tup ys)=some se /\ eqN n sd se=some b /\ q (.bl (if neg then !b else b)) G
 | .ref a,.ref c=>∃ n sd se b,n<=40 /\ snap G n (.ref a)=some sd /\ snap G n (.ref c)=some se /\ eqN n sd se=some b /\ q (.bl (if neg then !b else b)) G
 | _,_=>False
section
variable {X:Cx} {k:Nat}
theorem ut7 {i j:Int}:decide (V.int i=V.int j)=decide (i=j):=by
 by_cases h:i=j
 ·subst h;simp
 ·simp [h]
theorem ut6 {i j:Str}:decide (V.str i=V.str j)=decide (i=j):=by
 by_cases h:i=j
 ·subst h;simp
 ·simp [h]
theorem u58 {G:Gp} {n:Nat} {xs:List D} {sd:Sn} (h:snap G n (.tup xs)=some sd):u41 sd=false:=by
 obtain ⟨_,_,_,rfl,_⟩:=snap_tup h;rfl
theorem u59 {G:Gp} {n:Nat} {a:Addr} {sd:Sn} (h:snap G n (.ref a)=some sd):u41 sd=false:=by
 obtain ⟨_,_,_,_,rfl,_⟩:=snap_ref h;rfl
theorem x_eq (hr:Room k X.A):Op3 X (compareOp .Eq) (xEqB false):=u62 (op_eq.or (w78 hr)) <| by
 rintro x y H Q ⟨d,e,G,q,r1,r2,c,t,f⟩;have fin:∀ b,q (.bl b) G->Q (.bl b) H:=fun b z=>f _ _ _ _ RelD.blI c (Le.refl H) z
 unfold xEqB at t;split at t
 ·cases r1.int_inv;cases r2.int_inv;exact .inl ⟨rfl,by rw [ut7];exact fin _ t⟩
 ·cases r1.str_inv;cases r2.str_inv;exact .inl ⟨rfl,by rw [ut6];exact fin _ t⟩
 ·cases r1.bl_inv;cases r2.bl_inv;exact .inl ⟨rfl,by rw [uh2];exact fin _ t⟩
 ·cases r1.non_inv;cases r2.non_inv;exact .inl ⟨rfl,fin _ t⟩
 ·cases r1.non_inv;cases r2.int_inv;exact .inl ⟨rfl,fin _ t⟩
 ·cases r1.int_inv;cases r2.non_inv;exact .inl ⟨rfl,fin _ t⟩
 ·cases r1.non_inv;cases r2.bl_inv;exact .inl ⟨rfl,fin _ t⟩
 ·cases r1.bl_inv;cases r2.non_inv;exact .inl ⟨rfl,fin _ t⟩
 ·cases r1.non_inv;cases r2.str_inv;exact .inl ⟨rfl,fin _ t⟩
 ·cases r1.str_inv;cases r2.non_inv;exact .inl ⟨rfl,fin _ t⟩
 ·cases r1.int_inv;cases r2.str_inv;exact .inl ⟨rfl,fin _ t⟩
 ·cases r1.str_inv;cases r2.int_inv;exact .inl ⟨rfl,fin _ t⟩
 ·obtain ⟨n,sd,se,b,hn,h1,h2,hb,t⟩:=t
  exact .inr ⟨_,_,G,n,sd,se,b,r1,r2,c,hn,h1,h2,hb,u58 h1,fin _ t⟩
 ·obtain ⟨n,sd,se,b,hn,h1,h2,hb,t⟩:=t
  exact .inr ⟨_,_,G,n,sd,se,b,r1,r2,c,hn,h1,h2,hb,u59 h1,fin _ t⟩
 ·exact t.elim
theorem x_ne (hr:Room k X.A):Op3 X (compareOp .NotEq) (xEqB true):=u62 (op_ne.or (w74 hr)) <| by
 rintro x y H Q ⟨d,e,G,q,r1,r2,c,t,f⟩;have fin:∀ b,q (.bl b) G->Q (.bl b) H:=fun b z=>f _ _ _ _ RelD.blI c (Le.refl H) z
 unfold xEqB at t;split at t
 ·cases r1.int_inv;cases r2.int_inv;exact .inl ⟨rfl,by rw [ut7];exact fin _ t⟩
 ·cases r1.str_inv;cases r2.str_inv;exact .inl ⟨rfl,by rw [ut6];exact fin _ t⟩
 ·cases r1.bl_inv;cases r2.bl_inv;exact .inl ⟨rfl,by rw [uh2];exact fin _ t⟩
 ·cases r1.non_inv;cases r2.non_inv;exact .inl ⟨rfl,fin _ t⟩
 ·cases r1.non_inv;cases r2.int_inv;exact .inl ⟨rfl,fin _ t⟩
 ·cases r1.int_inv;cases r2.non_inv;exact .inl ⟨rfl,fin _ t⟩
 ·cases r1.non_inv;cases r2.bl_inv;exact .inl ⟨rfl,fin _ t⟩
 ·cases r1.bl_inv;cases r2.non_inv;exact .inl ⟨rfl,fin _ t⟩
 ·cases r1.non_inv;cases r2.str_inv;exact .inl ⟨rfl,fin _ t⟩
 ·cases r1.str_inv;cases r2.non_inv;exact .inl ⟨rfl,fin _ t⟩
 ·cases r1.int_inv;cases r2.str_inv;exact .inl ⟨rfl,fin _ t⟩
 ·cases r1.str_inv;cases r2.int_inv;exact .inl ⟨rfl,fin _ t⟩
 ·obtain ⟨n,sd,se,b,hn,h1,h2,hb,t⟩:=t
  exact .inr ⟨_,_,G,n,sd,se,b,r1,r2,c,hn,h1,h2,hb,u58 h1,fin _ t⟩
 ·obtain ⟨n,sd,se,b,hn,h1,h2,hb,t⟩:=t
  exact .inr ⟨_,_,G,n,sd,se,b,r1,r2,c,hn,h1,h2,hb,u59 h1,fin _ t⟩
 ·exact t.elim
end
theorem uk4 {c A B:Prop} [Decidable c] (h1:c->A) (h2:¬ c->B):if decide c=true then A else B:=by
 by_cases h:c
 ·simpa [h] using h1 h
 ·simpa [h] using h2 h
theorem uj1 {xs:List D}:u11 (some (.lst xs))=some xs:=rfl
theorem uy6 {xs:List D}:u11 (some (.fro xs))=some xs:=rfl
theorem wm8 {α:Type} {x:α} {xs:List α}:atI (x::xs) 0=some x:=u53 (j:=0) rfl
theorem wm7 {α:Type} {x y:α} {xs:List α}:atI (x::y::xs) 1=some y:=u53 (j:=1) rfl
theorem wm6 {α:Type} {x y z:α} {xs:List α}:atI (x::y::z::xs) 2=some z:=u53 (j:=2) rfl
theorem wm5 {α:Type} {x y z u:α} {xs:List α}:atI (x::y::z::u::xs) 3=some u:=u53 (j:=3) rfl
theorem wm4 {α:Type} {x y z u v:α} {xs:List α}:atI (x::y::z::u::v::xs) 4=some v:=u53 (j:=4) rfl
theorem wd4:ixN 3 0=some 0:=rfl
theorem wd3:ixN 3 1=some 1:=rfl
theorem wd2:ixN 3 2=some 2:=rfl
theorem wd6:ixN 2 0=some 0:=rfl
theorem wd5:ixN 2 1=some 1:=rfl
theorem vl8 {i j:Int} (h0:0<=i) (h:i < 18446744073709551616):CMul i j:=.inl ⟨by omega,by omega⟩
theorem wf5 {i j:Int} (h0:0<=j) (h:j < 18446744073709551616):CMul i j:=.inr ⟨by omega,by omega⟩
theorem wn0 {j:Int} (h0:0<=j) (h:j<=1000):CPow 2 j:=⟨h0,by omega,by decide⟩
theorem uc2 {j:Int} (h0:0<=j) (h:j<=1000):CPow 1 j:=⟨h0,by omega,by decide⟩
end L3
namespace L3
theorem u35 {S:Sp3} {ds:List D} {G G1:Gp} {v:D} {q:DK} (h:∀ R:DK,R v G1->S ds G R) (k:q v G1):∃ R,S ds G R /\ ∀ d G',R d G'->q d G' :=
 ⟨fun d G'=>d=v /\ G'=G1,h _ ⟨rfl,rfl⟩,fun _ _ ⟨e1,e2⟩=>by subst e1;subst e2;exact k⟩
theorem u21 {S:Sp3} {ds:List D} {G:Gp} {post:DK} {q:DK} (h:∀ R:DK,(∀ d G',post d G'->R d G')->S ds G R) (k:∀ d G',post d G'->q d G'):∃ R,S ds G R /\ ∀ d G',R d G'->q d G' :=
 ⟨post,h _ fun _ _ z=>z,k⟩
theorem u27 {ok:Gp->Prop} {g:TG3} {tb:TS3} {E:Ends3} (I:List D->DSt->Gp->Prop) {items:List D} {σ:DSt} {G:Gp} (h0:I items σ G) (nil:∀ σ G,I [] σ G->ok G /\ E.nx σ G)
  (cons:∀ x r σ G,I (x::r) σ G->(∀ σ' G',I r σ' G'->forL ok g tb E r σ' G')->ok G /\ g x σ G fun σ1 G1=>tb { E with nx:=forL ok g tb E r,ct:=forL ok g tb E r,bk:=E.nx } σ1 G1):forL ok g tb E items σ G:=by
 induction items generalizing σ G with
 | nil=>exact nil σ G h0
 | cons x r ih=>exact cons x r σ G h0 fun σ' G' h=>ih h
theorem u39 {ok:Gp->Prop} {g:TG3} {tc:TT3} {te:TE3} {p:PySem.Addr} {q:DK} (I:List D->DSt->Gp->Prop) {items:List D} {σ:DSt} {G:Gp} (h0:I items σ G) (nil:∀ σ G,I [] σ G->ok G /\ q (.ref p) G)
  (cons:∀ x r σ G,I (x::r) σ G->(∀ σ' G',I r σ' G'->uc7 ok g tc te p q r σ' G')->ok G /\ g x σ G fun σ2 G2=>tc σ2 G2 fun b G3 =>
   if b=true then te σ2 G3 fun d G4=>(match G4 p with | some (.lst ys)=>ys.length < PySem.sizeLine /\ uc7 ok g tc te p q r σ2 (gup G4 p (.lst (ys++[d]))) | _=>False)
   else uc7 ok g tc te p q r σ2 G3):uc7 ok g tc te p q items σ G:=by
 induction items generalizing σ G with
 | nil=>exact nil σ G h0
 | cons x r ih=>exact cons x r σ G h0 fun σ' G' h=>ih h
theorem ua4 {c:TT3} {tb:TS3} {E:Ends3} (I:Nat->DSt->Gp->Prop) {m:Nat} {σ:DSt} {G:Gp} (h0:I m σ G)
  (step:∀ m σ G N,I m σ G->(∀ σ' G' m',m=m'+1->I m' σ' G'->N σ' G')->c σ G fun b G1=>if b=true then tb { E with nx:=N,ct:=N,bk:=E.nx } σ G1 else E.nx σ G1):v61 c tb E σ G:=by
 refine ⟨m+1,?_⟩
 induction m generalizing σ G with
 | zero=>exact step 0 σ G (whN c tb E 0) h0 fun σ' G' m' e=>absurd e (by omega)
 | succ m ih=>exact step (m+1) σ G (whN c tb E (m+1)) h0 fun σ' G' m' e h=>ih (by cases e;exact h)
end L3
namespace Rw
open PySem L2 L3
theorem ud1 {G:Gp}:∀ ks:List Int,(ks.map D.int).mapM (snap G 0)=some (ks.map Sn.int)
 | []=>rfl
 | k::ks=>by
  rw [List.map_cons,List.mapM_cons,ud1 ks];rfl
theorem ui9 {G:Gp} {a:Addr} {ks:List Int} (h:u11 (G a)=some (ks.map .int)):snap G 1 (.ref a)=some (.lst (ks.map .int)):=by
 show ((u11 (G a)).bind fun ds=>(ds.mapM (snap G 0)).map Sn.lst)=_
 rw [h,Option.bind_some,ud1];rfl
theorem vl4:∀ ks ms:List Int,ks.length=ms.length->∃ bs,(((ks.map Sn.int).zip (ms.map Sn.int)).mapM fun p=>eqN 0 p.1 p.2)=some bs /\ bs.all id=decide (ks=ms)
 | [],[],_=>⟨[],rfl,rfl⟩
 | [],_::_,h=>by simp at h
 | _::_,[],h=>by simp at h
 | k::ks,m::ms,h=>by
  obtain ⟨bs,e,q⟩:=vl4 ks ms (by simpa using h);refine ⟨(k == m)::bs,?_,?_⟩
  ·rw [List.map_cons,List.map_cons,List.zip_cons_cons,List.mapM_cons,e]
   rfl
  ·rw [List.all_cons,q]
   by_cases hk:k=m
   ·subst hk;simp
   ·simp [hk]
theorem vx1 {ks ms:List Int}:eqN 1 (.lst (ks.map .int)) (.lst (ms.map .int))=some (decide (ks=ms)):=by
 show (if (ks.map Sn.int).length=(ms.map Sn.int).length then (((ks.map Sn.int).zip (ms.map Sn.int)).mapM fun p=>eqN 0 p.1 p.2).map (fun bs=>bs.all id) else some false)=_
 by_cases h:ks.length=ms.length
 ·rw [if_pos (by simpa using h)]
  obtain ⟨bs,e,q⟩:=vl4 ks ms h;rw [e,Option.map_some,q]
 ·rw [if_neg (by simpa using h)]
  have:ks ≠ ms:=fun e=>h (by rw [e])
  simp [this]
theorem u46 {G:Gp} {a b:Addr} {ks ms:List Int} {Q:Bool->Prop} (h1:u11 (G a)=some (ks.map .int)) (h2:u11 (G b)=some (ms.map .int)) (h:Q (decide (ks=ms))) :
  ∃ n sd se r,n<=40 /\ snap G n (.ref a)=some sd /\ snap G n (.ref b)=some se /\ eqN n sd se=some r /\ Q r :=
 ⟨1,_,_,_,by decide,ui9 h1,ui9 h2,vx1,h⟩
theorem u09 (lo:Int) (n:Nat):rngD lo (n+1)=.int lo::rngD (lo+1) n:=by
 unfold rngD;rw [List.range_succ_eq_map,List.map_cons,List.map_map]
 congr 1
 ·simp
 ·apply List.map_congr_left
  intro i _
  show D.int _=D.int _
  congr 1
  simp;omega
structure Grow (G G':Gp):Prop where
 kp:∀ b o,G b=some o->G' b=some o
theorem Grow.refl {G:Gp}:Grow G G:=⟨fun _ _ h=>h⟩
theorem Grow.trans {G G1 G2:Gp} (a:Grow G G1) (b:Grow G1 G2):Grow G G2:=⟨fun c o h=>b.kp c o (a.kp c o h)⟩
theorem Grow.new {G G1:Gp} {p:Addr} {o:DO} (a:Grow G G1) (h:G1 p=none):Grow G (gup G1 p o):=⟨fun b u e=>by rw [u06 (gne (a.kp b u e) h)];exact a.kp b u e⟩
theorem Grow.own {G G1:Gp} {p:Addr} {o:DO} (a:Grow G G1) (h:G p=none):Grow G (gup G1 p o):=⟨fun b u e=>by rw [u06 (gne e h)];exact a.kp b u e⟩
theorem Grow.none {G G1:Gp} {p:Addr} (a:Grow G G1) (h:G1 p=none):G p=none:=by
 cases e:G p with
 | none=>rfl
 | some o=>rw [a.kp p o e] at h;cases h
end Rw
namespace L3
open PySem PySem.Spec PyProof.Rows L2
theorem w08:(∀ i j G q,xEqB false (.int i) (.int j) G q=q (.bl (decide (i=j))) G) /\ (∀ i j G q,xEqB true (.int i) (.int j) G q=q (.bl (!decide (i=j))) G) /\
  (∀ i j G q,xEqB false (.str i) (.str j) G q=q (.bl (decide (i=j))) G) /\ (∀ i j G q,xEqB true (.str i) (.str j) G q=q (.bl (!decide (i=j))) G) /\
  (∀ a c G q,xEqB false (.ref a) (.ref c) G q=∃ n sd se b,n<=40 /\ snap G n (.ref a)=some sd /\ snap G n (.ref c)=some se /\ eqN n sd se=some b /\ q (.bl b) G) /\
  (∀ a c G q,xEqB true (.ref a) (.ref c) G q=∃ n sd se b,n<=40 /\ snap G n (.ref a)=some sd /\ snap G n (.ref c)=some se /\ eqN n sd se=some b /\ q (.bl (!b)) G) /\
  (∀ a c G q,xEqB false (.tup a) (.tup c) G q=∃ n sd se b,n<=40 /\ snap G n (.tup a)=some sd /\ snap G n (.tup c)=some se /\ eqN n sd se=some b /\ q (.bl b) G) /\
  (∀ a c G q,xEqB true (.tup a) (.tup c) G q=∃ n sd se b,n<=40 /\ snap G n (.tup a)=some sd /\ snap G n (.tup c)=some se /\ eqN n sd se=some b /\ q (.bl (!b)) G) /\
  (∀ i j G q,xAdd (.int i) (.int j) G q=q (.int (i+j)) G) /\ (∀ i j G q,xMul (.int i) (.int j) G q=(CMul i j /\ q (.int (i * j)) G)) /\
  (∀ a k G q,xMul (.ref a) (.int k) G q=(match G a with | some (.lst xs)=>(-(2 ^ 63)<=k /\ k < 2 ^ 63 /\ xs.length * k.toNat<=sizeLine) /\ ∀ p,G p=none->q (.ref p) (gup G p (.lst (List.replicate k.toNat xs).flatten)) | _=>False)) /\
  (∀ i j G q,xLt (.int i) (.int j) G q=q (.bl (decide (i < j))) G) /\
  (∀ ds i G q,xIx (.tup ds) (.int i) G q=(match atI ds i with | some d=>q d G | none=>False)) /\
  (∀ a i G q,xIx (.ref a) (.int i) G q=(match u11 (G a) with | some ds=>(match atI ds i with | some d=>q d G | none=>False) | none=>False)) /\
  (∀ xs G q,xLen [.tup xs] G q=q (.int xs.length) G) /\ (∀ a G q,xLen [.ref a] G q=(match u11 (G a) with | some xs=>q (.int xs.length) G | none=>False)) :=
 ⟨fun _ _ _ _=>rfl,fun _ _ _ _=>rfl,fun _ _ _ _=>rfl,fun _ _ _ _=>rfl,fun _ _ _ _=>rfl,fun _ _ _ _=>rfl,fun _ _ _ _=>rfl,fun _ _ _ _=>rfl,fun _ _ _ _=>rfl,fun _ _ _ _=>rfl,fun _ _ _ _=>rfl,fun _ _ _ _=>rfl,fun _ _ _ _=>rfl,fun _ _ _ _=>rfl,fun _ _ _=>rfl,fun _ _ _=>rfl⟩
theorem w06:(∀ f i j G q,xInt f (.int i) (.int j) G q=q (.int (f i j)) G) /\ (∀ C f i j G q,ui4 C f (.int i) (.int j) G q=(C i j /\ q (.int (f i j)) G)) /\ (∀ i j G q,xLe (.int i) (.int j) G q=q (.bl (decide (i<=j))) G) /\
  (∀ i j G q,xGt (.int i) (.int j) G q=q (.bl (decide (j < i))) G) /\ (∀ i j G q,xGe (.int i) (.int j) G q=q (.bl (decide (j<=i))) G) /\ (∀ i G q,xNeg (.int i) G q=q (.int (-i)) G) /\
  (∀ a k v G q,xSet (.ref a) (.int k) v G q=(match G a with | some (.lst ds)=>(match ixN ds.length k with | some j=>q (gup G a (.lst (ds.set j v))) | none=>False) | _=>False)) /\
  (∀ a lo hi G q,vg4 (.ref a) lo hi G q=(match u11 (G a) with | some ds=>∀ p,G p=none->q (.ref p) (gup G p (.lst (cutD ds lo hi))) | none=>False)) /\
  (∀ ds lo hi G q,vg4 (.tup ds) lo hi G q=(¬ (HT.sIx ds.length 0 lo=0 /\ HT.sIx ds.length ds.length hi=ds.length) /\ q (.tup (cutD ds lo hi)) G)) /\
  (∀ x G q,xIs2 x .non G q=(match x with | .non=>q (.bl true) G | _=>q (.bl false) G)) /\ (∀ x b G q,xIs2 x (.bl b) G q=(match x with | .bl c=>q (.bl (decide (c=b))) G | _=>q (.bl false) G)) /\
  (∀ x G q,ux6 x .non G q=(match x with | .non=>q (.bl false) G | _=>q (.bl true) G)) /\ (∀ x b G q,ux6 x (.bl b) G q=(match x with | .bl c=>q (.bl (!decide (c=b))) G | _=>q (.bl true) G)) /\
  (∀ i G q,xAbs [.int i] G q=q (.int (if i < 0 then -i else i)) G) /\ (∀ i j G q,vn0 [.int i,.int j] G q=(CDiv i j /\ q (.tup [.int (i / j),.int (i % j)]) G)) /\
  (∀ i j G q,vm9 [.int i,.int j] G q=q (.int (if j > i then j else i)) G) /\ (∀ i j G q,vm7 [.int i,.int j] G q=q (.int (if j < i then j else i)) G) /\
  (∀ i G q,vg3 [.int i] G q=q (.int i) G) /\ (∀ b G q,vg3 [.bl b] G q=q (.int (if b then 1 else 0)) G) /\
  (∀ xs G q,ue2 [.tup xs] G q=∀ p,G p=none->q (.ref p) (gup G p (.lst xs))) /\ (∀ a G q,ue2 [.ref a] G q=(match u11 (G a) with | some xs=>∀ p,G p=none->q (.ref p) (gup G p (.lst xs)) | none=>False)) /\
  (∀ xs G q,uq1 [.tup xs] G q=q (.tup xs) G) /\ (∀ a G q,uq1 [.ref a] G q=(match u11 (G a) with | some xs=>q (.tup xs) G | none=>False)) /\
  (∀ a G q,xAll [.ref a] G q=(match u11 (G a) with | some xs=>(match v79 xs with | some bs=>q (.bl (bs.all id)) G | none=>False) | none=>False)) /\
  (∀ x T G q,um5 [x,.ty T] G q=((T = "int" \/ T = "str" \/ T = "bool" \/ T = "list" \/ T = "tuple" \/ T = "dict") /\ (match uo3 G x with | some n=>q (.bl (subK n T)) G | none=>False))) /\
  (∀ a d G q,uf6 (.ref a) [d] G q=(match G a with | some (.lst xs)=>xs.length < sizeLine /\ q .non (gup G a (.lst (xs++[d]))) | _=>False)) /\
  (∀ a b G q,vt6 (.ref a) [.ref b] G q=(match G a,G b with | some (.lst xs),some (.lst ys)=>xs.length+ys.length<=sizeLine /\ q .non (gup G a (.lst (xs++ys))) | _,_=>False)) /\
  (∀ a G q,vt7 (.ref a) [] G q=(match G a with | some (.lst _)=>q .non (gup G a (.lst [])) | _=>False)):=by
 refine ⟨?_,?_,?_,?_,?_,?_,?_,?_,?_,?_,?_,?_,?_,?_,?_,?_,?_,?_,?_,?_,?_,?_,?_,?_,?_,?_,?_,?_⟩ <;> intros <;> rfl
end L3
namespace Law
open PySem L2 L3 Rw
theorem vj7 {m:Nat} (h:m<=100000):-(2 ^ 62)<=(m:Int) /\ (m:Int) < 2 ^ 62:=⟨by omega,by omega⟩
end Law
namespace Rw
open PySem L2 L3
theorem uf5 {α β:Type} {f:α->Option β}:∀ {xs:List α},(∀ x ∈ xs,∃ y,f x=some y)->∃ ys,xs.mapM f=some ys
 | [],_=>⟨[],rfl⟩
 | x::xs,h=>by
  obtain ⟨y,hy⟩:=h x List.mem_cons_self;obtain ⟨ys,hys⟩:=uf5 (xs:=xs) fun z hz=>h z (List.mem_cons_of_mem _ hz)
  exact ⟨y::ys,by rw [List.mapM_cons,hy,hys];rfl⟩
theorem ug6 {n:Nat}:∀ {ys:List Sn},(∀ y ∈ ys,eqN n y y=some true)->∃ bs,((ys.zip ys).mapM fun p=>eqN n p.1 p.2)=some bs /\ bs.all id=true
 | [],_=>⟨[],rfl,rfl⟩
 | y::ys,h=>by
  obtain ⟨bs,e,q⟩:=ug6 (ys:=ys) fun z hz=>h z (List.mem_cons_of_mem _ hz)
  refine ⟨true::bs,?_,by rw [List.all_cons,q];rfl⟩;rw [List.zip_cons_cons,List.mapM_cons,e,h y List.mem_cons_self];rfl
theorem uf4 {α β:Type} {f:α->Option β}:∀ {xs:List α} {ys:List β},xs.mapM f=some ys->∀ y ∈ ys,∃ x,f x=some y
 | [],ys,h,y,hy=>by
  have:ys=[]:=by simpa using h.symm
  subst this;cases hy
 | x::xs,ys,h,y,hy=>by
  rw [List.mapM_cons] at h;cases hx:f x with
  | none=>rw [hx] at h;cases h
  | some z =>
   rw [hx] at h;cases hr:xs.mapM f with
   | none=>rw [hr] at h;cases h
   | some r =>
    rw [hr] at h;have e:z::r=ys:=Option.some.inj h;subst e
    rcases List.mem_cons.mp hy with rfl | q
    ·exact ⟨x,hx⟩
    ·exact uf4 hr y q
theorem uo8 {G:Gp}:∀ (n:Nat) {d:D} {s:Sn},snap G n d=some s->eqN n s s=some true
 | n,.non,s,h=>by cases n <;> (cases h;rfl)
 | n,.bl b,s,h=>by cases n <;> (cases h;cases b <;> rfl)
 | n,.int i,s,h=>by cases n <;> (cases h;simp [eqN,u41,eqF])
 | n,.str i,s,h=>by cases n <;> (cases h;simp [eqN,u41,eqF])
 | n,.ty _,s,h=>by cases n <;> cases h
 | 0,.tup _,s,h=>by cases h
 | 0,.ref _,s,h=>by cases h
 | n+1,.tup ds,s,h=>by
  obtain ⟨ys,e,rfl⟩:=Option.map_eq_some_iff.mp (show (ds.mapM (snap G n)).map Sn.tup=some s from h);obtain ⟨bs,e2,q⟩:=ug6 (n:=n) (ys:=ys) fun y hy=>by obtain ⟨x,hx⟩:=uf4 e y hy;exact uo8 n hx
  show (if ys.length=ys.length then ((ys.zip ys).mapM fun p=>eqN n p.1 p.2).map (fun bs=>bs.all id) else none)=_
  rw [if_pos rfl,e2,Option.map_some,q]
 | n+1,.ref a,s,h=>by
  obtain ⟨ds,e0,h⟩:=Option.bind_eq_some_iff.mp (show ((u11 (G a)).bind fun ds=>(ds.mapM (snap G n)).map Sn.lst)=some s from h);obtain ⟨ys,e,rfl⟩:=Option.map_eq_some_iff.mp h;obtain ⟨bs,e2,q⟩:=ug6 (n:=n) (ys:=ys) fun y hy=>by obtain ⟨x,hx⟩:=uf4 e y hy;exact uo8 n hx
  show (if ys.length=ys.length then ((ys.zip ys).mapM fun p=>eqN n p.1 p.2).map (fun bs=>bs.all id) else some false)=_
  rw [if_pos rfl,e2,Option.map_some,q]
theorem snap_tup {G:Gp} {n:Nat} {ds:List D} (h:∀ d ∈ ds,∃ s,snap G n d=some s):∃ s,snap G (n+1) (.tup ds)=some s:=by
 obtain ⟨ys,e⟩:=uf5 h;exact ⟨.tup ys,by show (ds.mapM (snap G n)).map Sn.tup=_;rw [e];rfl⟩
theorem snap_int {G:Gp} {n:Nat} {i:Int}:∃ s,snap G n (.int i)=some s:=by cases n <;> exact ⟨_,rfl⟩
theorem snap_str {G:Gp} {n:Nat} {i:Str}:∃ s,snap G n (.str i)=some s:=by cases n <;> exact ⟨_,rfl⟩
theorem all1 {p:D->Prop} {a:D} (h:p a):∀ d ∈ [a],p d:=fun d hd=>by cases List.mem_singleton.mp hd;exact h
theorem all2 {p:D->Prop} {a:D} {r:List D} (h:p a) (hr:∀ d ∈ r,p d):∀ d ∈ a::r,p d:=fun d hd=>by
 rcases List.mem_cons.mp hd with rfl | q
 ·exact h
 ·exact hr d q
theorem snap_ref {G:Gp} {n:Nat} {a b:Addr} (h:u11 (G a)=u11 (G b)):snap G n (.ref a)=snap G n (.ref b):=by
 cases n with
 | zero=>rfl
 | succ n=>show ((u11 (G a)).bind _)=((u11 (G b)).bind _);rw [h]
end Rw
namespace L2
open PySem PySem.Spec PyProof.Rows
section
variable {X:Cx}
theorem wf7 (hc:X.calm=true):CallR X (.builtin "max") (fun xs H Q=>∃ (p:Addr) (ns:List Int),xs=[.ref p] /\ SqL X.K H p (ns.map V.int) /\ 0 < ns.length /\ ∀ M:Int,M ∈ ns->(∀ a ∈ ns,a<=M)->Q (.int M) H):=by
 intro pins s σ H xs us Q I r h;obtain ⟨p,ns,rfl,hq,hne,q⟩:=h;obtain ⟨u,rfl,rx⟩:=vals1 r;cases rx;obtain ⟨its,r',pl,hz⟩:=I.list hq;have hi:IntsAre its ns:=intsAre_of r';obtain ⟨ys,hx⟩:=hi.allInts.items;have hl':s.heap.IsList p (intItems ys):=hx ▸ pl.isList;have e1:ns=ys.toList.map (·.1):=by
  rw [<- nums_intItems,<- hx];exact (show numsOf its.toArray.toList=ns from hi.numsOf).symm
 have hsz:0 < ys.size:=by
  have h3:=hne;rw [e1,List.length_map,Array.length_toList] at h3;exact h3
 refine max_intList (I.ok.hd hc) hl' hsz fun v h' tk hv hk=>?_
 obtain ⟨t,rfl⟩:=intItems_at hv;obtain ⟨h1,h2⟩:=argBest_gt (numAt ys) (ys.size - 1);refine ⟨.int _,H,I.kept hk,⟨_,rfl⟩,q _ ?_ fun a ha=>?_⟩
 ·rw [e1,numAt_eq];exact getD_mem (by rw [List.length_map,Array.length_toList];omega)
 ·rw [e1] at ha
  obtain ⟨j,hj,rfl⟩:=mem_getD ha;rw [List.length_map,Array.length_toList] at hj;rw [<- numAt_eq];exact h2 j (by omega)
theorem v71 (hc:X.calm=true):CallR X (.builtin "min") (fun xs H Q=>∃ (p:Addr) (ns:List Int),xs=[.ref p] /\ SqL X.K H p (ns.map V.int) /\ 0 < ns.length /\ ∀ M:Int,M ∈ ns->(∀ a ∈ ns,M<=a)->Q (.int M) H):=by
 intro pins s σ H xs us Q I r h;obtain ⟨p,ns,rfl,hq,hne,q⟩:=h;obtain ⟨u,rfl,rx⟩:=vals1 r;cases rx;obtain ⟨its,r',pl,hz⟩:=I.list hq;have hi:IntsAre its ns:=intsAre_of r';obtain ⟨ys,hx⟩:=hi.allInts.items;have hl':s.heap.IsList p (intItems ys):=hx ▸ pl.isList;have e1:ns=ys.toList.map (·.1):=by
  rw [<- nums_intItems,<- hx];exact (show numsOf its.toArray.toList=ns from hi.numsOf).symm
 have hsz:0 < ys.size:=by
  have h3:=hne;rw [e1,List.length_map,Array.length_toList] at h3;exact h3
 refine min_intList (I.ok.hd hc) hl' hsz fun v h' tk hv hk=>?_
 obtain ⟨t,rfl⟩:=intItems_at hv;obtain ⟨h1,h2⟩:=argBest_lt (numAt ys) (ys.size - 1);refine ⟨.int _,H,I.kept hk,⟨_,rfl⟩,q _ ?_ fun a ha=>?_⟩
 ·rw [e1,numAt_eq];exact getD_mem (by rw [List.length_map,Array.length_toList];omega)
 ·rw [e1] at ha
  obtain ⟨j,hj,rfl⟩:=mem_getD ha;rw [List.length_map,Array.length_toList] at hj;rw [<- numAt_eq];exact h2 j (by omega)
end
end L2
namespace L3
open PySem PySem.Spec PyProof.Rows L2
section
variable {X:Cx}
def wn1:C3:=fun ds G q=>match ds with
 | [.ref a]=>(match u11 (G a) with | some xs=>(match uc5 xs with | some bs=>0 < bs.length /\ ∀ M:Int,M ∈ bs->(∀ z ∈ bs,z<=M)->q (.int M) G | none=>False) | none=>False)
 | _=>False
def vm8:C3:=fun ds G q=>match ds with
 | [.ref a]=>(match u11 (G a) with | some xs=>(match uc5 xs with | some bs=>0 < bs.length /\ ∀ M:Int,M ∈ bs->(∀ z ∈ bs,M<=z)->q (.int M) G | none=>False) | none=>False)
 | _=>False
theorem w09 (hc:X.calm=true:=by rfl):Call3 X (.builtin "min") vm8:=u33 (v71 hc) fun xs H Q ⟨ds,G,q,r,c,t,f⟩=>by
 unfold vm8 at t;split at t
 ·obtain ⟨v,rfl,r1⟩:=r.one
  cases r1.ref_inv;split at t
  ·rename_i ds e
   obtain ⟨ys,s1,q1⟩:=u31 c e;split at t
   ·rename_i bs eb
    have:=ud8 eb q1;subst this;exact ⟨_,bs,rfl,s1,t.1,fun M h1 h2=>f _ _ _ _ RelD.intI c (Le.refl H) (t.2 M h1 h2)⟩
   ·exact t.elim
  ·exact t.elim
 ·exact t.elim
theorem ud9:∀ ks:List Int,uc5 (ks.map D.int)=some ks
 | []=>rfl
 | k::ks=>by show (uc5 (ks.map D.int)).map (k::·)=_;rw [ud9 ks];rfl
end
end L3
namespace L2
open PySem PySem.Spec PyProof.Rows
theorem v19:typeLookup (.type "list_reverseiterator") (Str.ofString "__len__")=pure none:=by
 rw [typeLookup_type,builtinLookup_eq_fast];rfl
theorem vb3:typeLookup (.type "list_reverseiterator") (Str.ofString "__length_hint__")=pure (some (.builtin "list_reverseiterator.__length_hint__")):=by
 rw [typeLookup_type,builtinLookup_eq_fast];rfl
theorem vt8:isSubtype (.type "list_reverseiterator") (.type "list_reverseiterator")=pure true:=by rfl
theorem uv5 {prog:Program} {w:World} {A:Around} {E:Value->Shared->Prop} {s:Shared} {r:Addr} {Q:Bool->Shared->Prop} (ht:s.TypeIs (.ref r) "list_reverseiterator") (q:Q false s):wpAny (model prog w) A (Builtin.List.listLengthHint (.ref r)) Q E s:=by
 refine wpAny_bind (wpAny_specialOf ht v19 ?_);refine wpAny_bind (wpAny_specialOf ht vb3 ?_);refine wpAny_bind (wpAny_isInstance ht vt8 ?_);exact wpAny_pure q
def ux0 (it l:Addr) (its:Array Value) (i:Nat) (s:Shared):Prop:=i<=its.size /\ s.heap.IsRevIter it l ((its.size:Int) - 1 - (i:Nat)) /\ s.heap.IsList l its
theorem vk4 {it l:Addr} {its:Array Value} {i:Nat} {s:Shared} (h:ux0 it l its i s):s.TypeIs (.ref it) "list_reverseiterator" := by
 obtain ⟨_,⟨o,e,c,d⟩,_⟩:=h;exact ⟨o,e,c⟩
theorem uf7 {prog:Program} {w:World} {A:Around} {it l:Addr} {its:Array Value} (hh:A.handled=none) (hne:l ≠ it):WalksS prog w A it [it,l] [it] (fun a b=>a=b) its.size (fun i v=>its[its.size - 1 - i]?=some v) (ux0 it l its) where
 sub:=fun b hb=>by simp at hb;subst hb;simp
 grefl:=fun _=>rfl
 gtrans:=fun _ _ _ a b=>a.trans b
 frame:=fun i s h' tk st _ kp=>by
  obtain ⟨hi,st1,st2⟩:=st;exact ⟨hi,st1.at fun o e=>kp it (by simp) o e,st2.at fun o e=>kp l (by simp) o e⟩
 item:=fun i s Q E hi st q=>by
  obtain ⟨_,st1,st2⟩:=st;have e1:(its.size:Int) - 1 - (i:Nat)=((its.size - 1 - i:Nat):Int):=by omega
  rw [e1] at st1;have hx:its[its.size - 1 - i]?=some (its[its.size - 1 - i]'(by omega)):=Array.getElem?_eq_getElem _;refine wpAny_pyNext_rev_item st1 st2 hx fun h' st' sb=>?_
  refine q _ _ hx ⟨by omega,?_,st2.at fun o e=>(sb.2 l hne).trans e⟩ ⟨fun b o hb e=>(sb.2 b (by simpa using hb)).trans e,rfl,rfl,rfl,Nat.le_refl _⟩;have e2:(its.size:Int) - 1 - ((i+1:Nat):Int)=((its.size - 1 - i:Nat):Int) - 1:=by omega
  rw [e2];exact st'
 done:=fun s Q E st q=>by
  obtain ⟨_,st1,st2⟩:=st;have e1:(its.size:Int) - 1 - (its.size:Nat)=-1:=by omega
  rw [e1] at st1;exact wpAny_pyNext_rev_end hh st1 fun h' eb=>q _ ⟨fun b o hb e=>eb b o (by simpa using hb) e,rfl,rfl,rfl,Nat.le_refl _⟩
 self:=fun i s Q E st q=>wpAny_pyIter_revIter st.2.1 q
theorem uv6 {prog:Program} {w:World} {A:Around} {s:Shared} {R:Result->Shared->Prop} {it l S:Addr} {its:Array Value} {c0:Nat} (hh:A.in1.handled=none) (hne:l ≠ it) (hSi:S ≠ it) (hSl:S ≠ l) (hst:ux0 it l its 0 s) (hS:s.heap.get? S=some { cls:=.type "list",data:=.seq #[] c0 })
  (hn:its.size<=sizeLine) (hR:∀ (s':Shared) (acc:Array Value) (c:Nat),Moved [S,it] (fun a b=>a=b) s s'->s'.heap.get? S=some { cls:=.type "list",data:=.seq acc c }->ItemsOf (fun i v=>its[its.size - 1 - i]?=some v) acc its.size->R (.ok (.ret .none)) s') :
  wpAny (model prog w) A.in1 (Builtin.List.listExtendWith (.ref S) (.ref it) .none)
   (fun fin s'=>match fin with | .done f=>R (.ok f) s' | .again c'=>c'.quiet=true /\ codeAny (model prog w) A c' R s') (fun e s'=>R (.error e) s') s:=by
 have h1:Builtin.List.listSameRef (.ref S) (.ref it)=false:=by
  show (S == it)=false
  exact beq_eq_false_iff_ne.mpr hSi
 have h2:((Value.type "list_reverseiterator") == (Value.type "list"))=false:=by decide
 have h3:((Value.type "list_reverseiterator") == (Value.type "tuple"))=false:=by decide
 refine wpAny_bind (wpAny_typeOf (vk4 hst) ?_);simp only [h1,h2,h3,Bool.or_false,Bool.false_eq_true,if_false];refine wpAny_bind (wpAny_pyIter_revIter hst.2.1 ?_);refine wpAny_bind (wpAny_holding (uv5 (vk4 hst) ?_));exact wpAny_pure ⟨plainId_quiet F.plain_extend_loop _,codeAny_extend_loopS (uf7 hh hne) hn S (by simp [hSi,hSl]) .none its.size 0 s #[] c0 (by omega) (by omega) hst hS ⟨rfl,fun j v e=>by simp at e⟩ hR⟩
theorem vb2 {prog:Program} {w:World} {A:Around} {s:Shared} {R:Result->Shared->Prop} {it l S:Addr} {its:Array Value} (hh:A.in1.handled=none) (hne:l ≠ it) (hSi:S ≠ it) (hSl:S ≠ l) (hst:ux0 it l its 0 s) (hS:s.heap.get? S=some { cls:=.type "list",data:=.seq #[] })
  (hn:its.size<=sizeLine) (hR:∀ (s':Shared) (acc:Array Value) (c:Nat),Moved [S,it] (fun a b=>a=b) s s'->s'.heap.get? S=some { cls:=.type "list",data:=.seq acc c }->ItemsOf (fun i v=>its[its.size - 1 - i]?=some v) acc its.size->R (.ok (.ret .none)) s') :
  wpAny (model prog w) A.in1 (Builtin.«list.__init__» { pos:=[.ref S,.ref it] })
   (fun fin s'=>match fin with | .done f=>R (.ok f) s' | .again c'=>c'.quiet=true /\ codeAny (model prog w) A c' R s') (fun e s'=>R (.error e) s') s:=by
 refine wpAny_bind (wpAny_bind (wpAny_seqItems hS rfl (wpAny_pure (wpAny_bind (wpAny_updateSeq hS rfl ?_ (by decide) (by decide))))));have hS2:=Heap.get?_update_self (Obj.mapSeq fun _=>#[]) hS rfl;have oth:∀ b o,b ≠ S->s.heap.get? b=some o->(s.heap.update S (Obj.mapSeq fun _=>#[])).get? b=some o:=fun b o hb e=>(Heap.get?_update_other s.heap (Obj.mapSeq fun _=>#[]) (Ne.symm hb)).trans e
 refine wpAny_bind (wpAny_letGo ?_);refine uv6 hh hne hSi hSl ?_ hS2 hn fun s' acc c m hs ha=>hR s' acc c ?_ hs ha
 ·exact (uf7 (prog:=prog) (w:=w) hh hne).frame 0 s _ s.toks hst (Nat.le_refl _) fun b hb o e=>oth b o (fun z=>by subst z;simp at hb;rcases hb with z | z;exact hSi z;exact hSl z) e
 ·exact ⟨fun b o hb e=>m.heap b o hb (oth b o (fun z=>hb (by simp [z])) e),m.gens,m.drawn,m.os,m.toks⟩
theorem uh9 {prog:Program} {w:World} {A:Around} {E:Value->Shared->Prop} {s:Shared} {it l:Addr} {its:Array Value} {Q:Value->Shared->Prop} (hh:A.in1.in1.handled=none) (hne:l ≠ it) (hst:ux0 it l its 0 s) (hn:its.size<=sizeLine)
  (q:∀ (s':Shared) (acc:Array Value) (c:Nat),(∀ b o,b ≠ it->s.heap.get? b=some o->s'.heap.get? b=some o)->s'.gens=s.gens->s'.drawn=s.drawn->s'.os=s.os->s'.heap.get? s.heap.objs.size=some { cls:=.type "list",data:=.seq acc c } ->
   ItemsOf (fun i v=>its[its.size - 1 - i]?=some v) acc its.size->Q (.ref s.heap.objs.size) s'):wpAny (model prog w) A (call (.type "list") [.ref it]) Q E s:=by
 have hl:l < s.heap.objs.size:=by obtain ⟨o,e,_⟩:=hst.2.2;exact Heap.lt_size e
 have hi:it < s.heap.objs.size:=by obtain ⟨o,e,_⟩:=hst.2.1;exact Heap.lt_size e
 refine callType_codes (Q₁:=fun obj s1=>obj=.ref s.heap.objs.size /\ s1={ s with heap:=s.heap.push { cls:=.type "list",data:=.seq #[] } }) F.called_list (F.typeCall_list_1 (.ref it)) F.entry_list_init (code_list_new (.ref it) ⟨rfl,rfl⟩) fun obj s1 h1=>?_
 obtain ⟨e1,e2⟩:=h1;subst e1;subst e2;have hS:=Heap.get?_push_size (o:={ cls:=.type "list",data:=.seq #[] }) s.heap rfl;refine ⟨⟨_,hS,rfl⟩,F.args_list_init_2 _ _,?_⟩;refine vb2 hh hne (Nat.ne_of_gt hi) (Nat.ne_of_gt hl) ?_ hS hn fun s' acc c m hs ha=>⟨rfl,q s' acc c (fun b o hb e=>?_) m.gens.symm m.drawn m.os hs ha⟩
 ·exact (uf7 (prog:=prog) (w:=w) hh hne).frame 0 s _ s.toks hst (Nat.le_refl _) fun b hb o e=>Heap.get?_push_of_some _ e
 ·exact m.heap b o (by simp [hb];exact Nat.ne_of_lt (Heap.lt_size e)) (Heap.get?_push_of_some _ e)
def uq9 (K:W.Frag) (ta:TA):TE:=fun σ H Q=>ta σ H fun vs H1=>∃ a xs,vs=[.ref a] /\ SqL K H1 a xs /\ ∀ l,H1 l=none->Q (.ref l) (upd H1 l (.lst xs.reverse))
theorem uw7:bootBuiltins "list" = some (.type "list"):=by decide
theorem uv2 {X:Cx} {a:Expr} {ta:TA} {p p2 pos pos2:Pos} {k:Nat} (hr:Room k X.A) (hg:Gl X "reversed") (hm:X.mg "reversed" = none) (hg2:Gl X "list") (hm2:X.mg "list" = none) (ha:PA X [a] ta) (hs:starEach [a] X.env=[(false,eval a X.env)]:=by rfl)
  (hs2:starEach [.Call (.Name "reversed" p) [a] [] pos] X.env=[(false,eval (.Call (.Name "reversed" p) [a] [] pos) X.env)]:=by rfl) :
  PE X (.Call (.Name "list" p2) [.Call (.Name "reversed" p) [a] [] pos] [] pos2) (uq9 X.K ta):=by
 intro pins s σ H Q I h;refine wpAny_Call_Name_kw (u70 I hg2 hm2 uw7 ?_);refine PyProof.Rows.callWith_type1 ?_ hs2 rfl;rw [hs2]
 show wpAny _ _ (spliced ((false,eval (.Call (.Name "reversed" p) [a] [] pos) X.env)::backTo pos2 [])) _ _ s
 refine Calls.spliced_cons ?_;refine wpAny_Call_Name_kw (u70 I hg hm boot_reversed (PyProof.Rows.callWith_type1 (thn (ha pos pins s σ H _ I h) fun us s1 ⟨vs,H1,I1,r1,q1⟩=>?_) hs rfl));obtain ⟨l,xs,e,hq,q⟩:=q1;subst e;cases r1 with
 | cons r rr =>
  cases rr;cases r;obtain ⟨its,rv,pl,hz⟩:=I1.list hq;have hl:=rv.length;have hll:l < s1.heap.objs.size:=by obtain ⟨o,e,_⟩:=pl.isList;exact Heap.lt_size e
  refine call_reversed_list pl.isList ?_;refine Calls.spliced_nil ?_;have st:ux0 s1.heap.objs.size l its.toArray 0 { s1 with heap:=s1.heap.push (revObj l ((its.toArray.size:Int) - 1)) } :=
   ⟨Nat.zero_le _,⟨_,Heap.get?_push_size _ rfl,rfl,by simp [revObj]⟩,pl.isList.at fun o e=>Heap.get?_push_of_some _ e⟩
  refine uh9 hr.hd (Nat.ne_of_lt hll) st (by simp;omega) fun s' acc c kp hg hd ho hnew hit=>?_
  have kp':∀ b o,s1.heap.get? b=some o->s'.heap.get? b=some o:=fun b o e=>kp b o (Nat.ne_of_lt (Heap.lt_size e)) (Heap.get?_push_of_some _ e)
  have ha:Vals xs.reverse acc.toList:=by
   have e:acc.toList=its.reverse:=by
    have hz1:acc.size=its.length:=by simpa using hit.1
    refine List.ext_getElem (by simp [hz1]) fun j h1 h2=>?_
    have hj:j < acc.size:=by simpa using h1
    have:=hit.2 j acc[j] (Array.getElem?_eq_getElem hj);have e2:its[its.length - 1 - j]?=some acc[j]:=by simpa using this
    rw [List.getElem_reverse,Array.getElem_toList];exact (Option.some.inj ((List.getElem?_eq_getElem (by omega)).symm.trans e2)).symm
   rw [e];exact rv.reverse
  have I2:=I1.laid (h':=s'.heap) (a:=s1.heap.objs.size+1) (o:=.lst xs.reverse) (t':=s'.toks) kp' (Nat.le_succ _) ⟨by simp;omega,acc.toList,c,ha,by simpa using hnew⟩;have es:s'={ s1 with heap:=s'.heap,toks:=s'.toks }:=by cases s';cases hg;cases hd;cases ho;rfl
  rw [es];exact ⟨_,_,I2,by simp;rfl,q _ (I1.hok.fresh (Nat.le_succ _))⟩
end L2
namespace L3
open PySem PySem.Spec PyProof.Rows L2
def uh4 (t:TA3):TE3:=fun σ G q=>t σ G fun ds G1=>match ds with
 | [.ref a]=>(match u11 (G1 a) with | some ds=>∀ p,G1 p=none->q (.ref p) (gup G1 p (.lst ds.reverse)) | none=>False)
 | _=>False
theorem uo0 {K:W.Frag} {t:TA3} {σ:L2.St} {H:Hp} {Q:VK} (h:lowE K (uh4 t) σ H Q):uq9 K (lowA K t) σ H Q:=by
 obtain ⟨σd,G,q,rs,c,t,f⟩:=h;refine ⟨σd,G,_,rs,c,t,fun ds G1 vs H1 r1 c1 l1 t1=>?_⟩;split at t1
 ·rename_i a
  split at t1
  ·rename_i ds e
   obtain ⟨v,rfl,rv⟩:=r1.one;cases rv.ref_inv;obtain ⟨xs,s1,q1⟩:=u31 c1 e;exact ⟨a,xs,rfl,s1,fun p hp=>f _ _ _ _ RelD.refI (c1.lstNew hp q1.reverse) (l1.trans (Le.fresh hp)) (t1 p (c1.fresh hp))⟩
  ·exact t1.elim
 ·exact t1.elim
theorem v52 {X:Cx} {a:Expr} {ts:TA3} {p p2 pos pos2:Pos} {k:Nat} (hr:Room k X.A) (hg:Gl X "reversed") (hm:X.mg "reversed" = none) (hg2:Gl X "list") (hm2:X.mg "list" = none) (ha:A3 X [a] ts) (hs:starEach [a] X.env=[(false,eval a X.env)]:=by rfl)
  (hs2:starEach [.Call (.Name "reversed" p) [a] [] pos] X.env=[(false,eval (.Call (.Name "reversed" p) [a] [] pos) X.env)]:=by rfl) :
  E3 X (.Call (.Name "list" p2) [.Call (.Name "reversed" p) [a] [] pos] [] pos2) (uh4 ts):=u28 (uv2 hr hg hm hg2 hm2 ha hs hs2) fun _ _ _=>uo0
end L3
namespace L3
open PySem PySem.Spec PyProof.Rows L2 Rw
def stn (k m:Nat):Bool:=k == 0 || m.testBit (k - 1)
def pc (b m:Nat):Nat:=(List.range b).countP fun i=>m.testBit i
theorem vs8 (b m:Nat):pc (b+1) m=m % 2+pc b (m / 2):=by
 unfold pc;rw [List.range_succ_eq_map,List.countP_cons,List.countP_map];have e:((fun i=>m.testBit i) ∘ Nat.succ)=fun i=>(m / 2).testBit i:=by
  funext i
  show m.testBit (i+1)=_
  rw [Nat.testBit_succ]
 rw [e,Nat.testBit_zero]
 rcases Nat.mod_two_eq_zero_or_one m with h | h <;> simp [h] <;> omega
theorem vs7 (b:Nat):pc b 0=0:=by simp [pc]
theorem uc4 (a b:Nat):Builtin.bitAnd (a:Int) (b:Int)=((a &&& b:Nat):Int):=by
 unfold Builtin.bitAnd;simp
theorem vj9 (a b:Nat):Builtin.bitOr (a:Int) (b:Int)=((a ||| b:Nat):Int):=by
 have h1:∀ x:Nat,¬ (0<=Builtin.bitNot (x:Int)):=fun x=>by unfold Builtin.bitNot;omega
 have h2:∀ x:Int,Builtin.bitNot (Builtin.bitNot x)=x:=fun x=>by unfold Builtin.bitNot;omega
 unfold Builtin.bitOr Builtin.bitAnd;simp only [h1,decide_false,h2,Int.toNat_natCast]
theorem vz1 (m i:Nat):(Builtin.bitAnd (m:Int) (1 * 2 ^ i)=0) ↔ m.testBit i=false:=by
 have e:(1 * 2 ^ i:Int)=((2 ^ i:Nat):Int):=by simp
 rw [e,uc4];have q:(m &&& 2 ^ i=0) ↔ m.testBit i=false:=by
  constructor
  ·intro h
   have:=congrArg (fun x=>Nat.testBit x i) h;simpa [Nat.testBit_and,Nat.testBit_two_pow_self] using this
  ·intro h
   refine Nat.eq_of_testBit_eq fun j=>?_
   rw [Nat.testBit_and,Nat.zero_testBit,Nat.testBit_two_pow]
   by_cases hj:i=j
   ·subst hj;rw [h];rfl
   ·simp [hj]
 rw [<- q];omega
theorem u71 (m i:Nat):(Builtin.bitAnd ((m:Int) / 2 ^ i) 1=1) ↔ m.testBit i=true:=by
 have e:((m:Int) / 2 ^ i)=((m / 2 ^ i:Nat):Int):=by simp
 have e1:(1:Int)=((1:Nat):Int):=rfl;rw [e,e1,uc4,Nat.and_one_is_mod,Nat.testBit_eq_decide_div_mod_eq];simp;omega
def pD (p:Str × Int):D:=.tup [.str p.1,.int p.2]
def mvP (m k:Nat):Str × Int:=(if stn k m then "clear" else "lay",(k:Int))
def mvB (m c s k:Nat):Bool:=stn (k - 1) m && (stn k m || decide (c < s))
def mvs (m c s:Nat):Nat->List (Str × Int)
 | 0=>[]
 | n+1=>mvs m c s n++(if mvB m c s (n+1) then [mvP m (n+1)] else [])
theorem v09 (m c s:Nat):∀ n,(mvs m c s n).length<=n
 | 0=>Nat.le_refl 0
 | n+1=>by
  rw [mvs,List.length_append];have:=v09 m c s n;split <;> simp <;> omega
def Src (G:Gp) (s a:Addr):Prop:=∃ (ns:List Int) (x y:Int),G s=some (.lst [.ref a,.int x,.int y]) /\ G a=some (.lst (ns.map .int)) /\ 0<=x /\ s ≠ a
structure Ady (s a:Addr) (G G':Gp):Prop where
 at_:Src G' s a
 kp:∀ c o,c ≠ s->c ≠ a->G c=some o->G' c=some o
theorem Src.ne {G:Gp} {s a p:Addr} (h:Src G s a) (hp:G p=none):p ≠ s /\ p ≠ a:=by
 obtain ⟨ns,x,y,h1,h2,_⟩:=h;exact ⟨fun e=>(by rw [e,h1] at hp;cases hp),fun e=>(by rw [e,h2] at hp;cases hp)⟩
theorem Src.put {G:Gp} {s a p:Addr} {o:DO} (h:Src G s a) (hs:p ≠ s) (ha:p ≠ a):Src (gup G p o) s a:=by
 obtain ⟨ns,x,y,h1,h2,h3,h4⟩:=h;exact ⟨ns,x,y,by rw [u06 (Ne.symm hs)];exact h1,by rw [u06 (Ne.symm ha)];exact h2,h3,h4⟩
theorem Src.grow {G G':Gp} {s a:Addr} (h:Src G s a) (g:Grow G G'):Src G' s a:=by
 obtain ⟨ns,x,y,h1,h2,h3⟩:=h;exact ⟨ns,x,y,g.kp _ _ h1,g.kp _ _ h2,h3⟩
theorem Ady.trans {s a:Addr} {G G1 G2:Gp} (h:Ady s a G G1) (k:Ady s a G1 G2):Ady s a G G2:=⟨k.at_,fun c o h1 h2 e=>k.kp c o h1 h2 (h.kp c o h1 h2 e)⟩
theorem Ady.refl {s a:Addr} {G:Gp} (h:Src G s a):Ady s a G G:=⟨h,fun _ _ _ _ e=>e⟩
theorem Ady.new {s a p:Addr} {G G1:Gp} {o:DO} (h:Ady s a G G1) (hp:G1 p=none):Ady s a G (gup G1 p o) :=
 ⟨h.at_.put (h.at_.ne hp).1 (h.at_.ne hp).2,fun c u h1 h2 e=>by rw [u06 (gne (h.kp c u h1 h2 e) hp)];exact h.kp c u h1 h2 e⟩
theorem vz0 (ns:List Int) (c:Int):atI ((ns++[c]).map D.int) (-1)=some (.int c):=by
 unfold atI ixN;rw [if_neg (by decide),if_pos (by simp;omega)];have e:(-1+(((ns++[c]).map D.int).length:Int)).toNat=ns.length:=by simp;omega
 rw [Option.bind_some,e];simp
theorem uf0 {G:Gp} {a:Addr} {ns:List Int} {c:Int} {q:DK} (h:G a=some (.lst ((ns++[c]).map .int))):v18 (.ref a) [] G q=q (.int c) (gup G a (.lst (ns.map .int))):=by
 unfold v18;simp only [h];simp
end L3
namespace L3
open PySem PySem.Spec PyProof.Rows L2
section
variable {X:Cx} {o:Expr} {to:TE3} {apos cpos:Pos}
def xInv:U3:=fun x G q=>match x with | .int i=>q (.int (Builtin.bitNot i)) G | _=>False
theorem wh5:UnR X (unaryOp .Invert) (lowU X.K xInv):=vg5 w31 <| by
 rintro x H Q ⟨d,G,q,r1,c,t,f⟩;unfold xInv at t;split at t
 ·exact ⟨_,r1.int_inv,f _ _ _ _ RelD.intI c (Le.refl H) t⟩
 ·exact t.elim
end
end L3
namespace L3
open PySem PySem.Spec PyProof.Rows L2 Rw
abbrev Mv:=Bool × Nat
def mP (p:Mv):Str × Int:=(if p.1 then "lay" else "clear",(p.2:Int))
def mD (p:Mv):D:=pD (mP p)
def nD (x:Nat):D:=.int (x:Int)
def stb (k m:Nat):Bool:=m.testBit (k - 1)
def xr (m k:Nat):Nat:=m ^^^ 2 ^ (k - 1)
def hi (m:Nat):Nat:=if m=0 then 0 else m.log2+1
theorem w66 {m i:Nat} (h:m.testBit i=false):m ||| 2 ^ i=m ^^^ 2 ^ i:=Nat.eq_of_testBit_eq fun j=>by
 rw [Nat.testBit_or,Nat.testBit_xor,Nat.testBit_two_pow]
 by_cases e:i=j
 ·subst e;rw [h];simp
 ·simp [e]
theorem w67 {m i:Nat} (h:m.testBit i=true):m ||| 2 ^ i=m:=Nat.eq_of_testBit_eq fun j=>by
 rw [Nat.testBit_or,Nat.testBit_two_pow]
 by_cases e:i=j
 ·subst e;rw [h];rfl
 ·simp [e]
theorem v77 {m i:Nat} (h:m.testBit i=true):m &&& 2 ^ i=2 ^ i:=Nat.eq_of_testBit_eq fun j=>by
 rw [Nat.testBit_and,Nat.testBit_two_pow]
 by_cases e:i=j
 ·subst e;rw [h];rfl
 ·simp [e]
theorem wg1 {m i:Nat} (h:m.testBit i=false):m &&& 2 ^ i=0:=Nat.eq_of_testBit_eq fun j=>by
 rw [Nat.testBit_and,Nat.testBit_two_pow,Nat.zero_testBit]
 by_cases e:i=j
 ·subst e;rw [h];rfl
 ·simp [e]
theorem ux1:∀ {i m:Nat},m.testBit i=true->(m ^^^ 2 ^ i)+2 ^ i=m
 | 0,m,h=>by
  have h1:m % 2=1:=by rw [Nat.testBit_zero] at h;simpa using h
  have h2:(m ^^^ 1) / 2=m / 2:=by rw [Nat.xor_div_two];simp
  have h3:(m ^^^ 1) % 2=0:=by
   have:(m ^^^ 1).testBit 0=false:=by rw [Nat.testBit_xor,h];rfl
   rw [Nat.testBit_zero] at this;have:=of_decide_eq_false this;omega
  show (m ^^^ 1)+1=m
  omega
 | i+1,m,h=>by
  have h0:(m / 2).testBit i=true:=by rw [<- Nat.testBit_succ];exact h
  have ih:=ux1 h0;have e1:2 ^ (i+1) / 2=2 ^ i:=by rw [Nat.pow_succ];omega
  have h2:(m ^^^ 2 ^ (i+1)) / 2=m / 2 ^^^ 2 ^ i:=by rw [Nat.xor_div_two,e1]
  have h3:(m ^^^ 2 ^ (i+1)) % 2=m % 2:=by
   have a:(m ^^^ 2 ^ (i+1)).testBit 0=m.testBit 0:=by
    rw [Nat.testBit_xor,Nat.testBit_two_pow];simp
   rw [Nat.testBit_zero,Nat.testBit_zero] at a;have b:=decide_eq_decide.mp a;omega
  rw [Nat.pow_succ] at h2 h3 ⊢;omega
theorem xor_int (m i:Nat):Builtin.bitXor (m:Int) (1 * 2 ^ i)=((m ^^^ 2 ^ i:Nat):Int):=by
 have e:(1 * 2 ^ i:Int)=((2 ^ i:Nat):Int):=by simp
 unfold Builtin.bitXor;rw [e,vj9,uc4];cases h:m.testBit i with
 | true =>
  rw [w67 h,v77 h];have:=ux1 h;omega
 | false =>
  rw [w66 h,wg1 h];simp
theorem vy6 {m i:Nat} (h:m.testBit i=true):Builtin.bitAnd (m:Int) (Builtin.bitNot (1 * 2 ^ i))=((m ^^^ 2 ^ i:Nat):Int):=by
 have e:(1 * 2 ^ i:Int)=((2 ^ i:Nat):Int):=by simp
 have h0:(0:Int)<=((2 ^ i:Nat):Int):=Int.natCast_nonneg _;have h1:¬ (0<=Builtin.bitNot ((2 ^ i:Nat):Int)):=by unfold Builtin.bitNot;omega
 have h2:Builtin.bitNot (Builtin.bitNot ((2 ^ i:Nat):Int))=((2 ^ i:Nat):Int):=by unfold Builtin.bitNot;omega
 rw [e];unfold Builtin.bitAnd;simp only [h1,decide_false,h2,Int.natCast_nonneg,decide_true,Int.toNat_natCast];rw [v77 h];have:=ux1 h
 (clear h1 h0 e h;omega)
theorem vv7 {m i:Nat} (h:m.testBit i=false):Builtin.bitOr (m:Int) (1 * 2 ^ i)=((m ^^^ 2 ^ i:Nat):Int):=by
 have e:(1 * 2 ^ i:Int)=((2 ^ i:Nat):Int):=by simp
 rw [e,vj9,w66 h]
theorem vb1 (m:Nat):m < 2 ^ hi m:=by
 unfold hi
 by_cases h:m=0
 ·subst h;simp
 ·rw [if_neg h];exact Nat.lt_log2_self
def okw:Nat->List Mv->Prop
 | _,[]=>True
 | m,p::r=>(1<=p.2 /\ p.2<=900) /\ p.1=!stb p.2 m /\ okw (xr m p.2) r
def fin:Nat->List Mv->Nat
 | m,[]=>m
 | m,p::r=>fin (xr m p.2) r
def low:Nat->List Mv->Nat
 | m,[]=>hi m
 | m,p::r=>min (low (xr m p.2) r) (hi m)
def thw:Nat->List Mv->List Mv
 | _,[]=>[]
 | m,p::r=>if p.2<=low (xr m p.2) r then p::thw (xr m p.2) r else thw (xr m p.2) r
def once (w:List Mv):List Mv:=thw 0 w
def sbh:Nat->List Mv->List Nat
 | _,[]=>[]
 | m,p::r=>xr m p.2::sbh (xr m p.2) r
theorem u24:∀ {l r:List Mv} {m:Nat},fin m (l++r)=fin (fin m l) r
 | [],_,_=>rfl
 | p::l,r,m=>by show fin (xr m p.2) (l++r)=_;rw [u24];rfl
theorem vn9:∀ {w:List Mv} {m:Nat},(sbh m w).length=w.length
 | [],_=>rfl
 | p::r,m=>by show (sbh _ r).length+1=r.length+1;rw [vn9]
theorem uy8:∀ {l r:List Mv} {m:Nat},sbh m (l++r)=sbh m l++sbh (fin m l) r
 | [],_,_=>rfl
 | p::l,r,m=>by show _::sbh (xr m p.2) (l++r)=_;rw [uy8];rfl
theorem low_le:∀ {w:List Mv} {m k:Nat},k<=low m w ↔ ∀ x ∈ m::sbh m w,k<=hi x
 | [],m,k=>by simp [low,sbh]
 | p::r,m,k=>by
  have ih:=low_le (w:=r) (m:=xr m p.2) (k:=k)
  show k<=min (low (xr m p.2) r) (hi m) ↔ ∀ x ∈ m::xr m p.2::sbh (xr m p.2) r,k<=hi x
  rw [Nat.le_min,ih]
  constructor
  ·rintro ⟨h1,h2⟩ x hx
   rcases List.mem_cons.mp hx with e | e
   ·subst e;exact h2
   ·exact h1 x e
  ·intro h
   exact ⟨fun x hx=>h x (List.mem_cons_of_mem _ hx),h m (by simp)⟩
theorem thw_sub:∀ {w:List Mv} {m:Nat},(thw m w).Sublist w
 | [],_=>.slnil
 | p::r,m=>by
  rw [thw];split
  ·exact thw_sub.cons₂ _
  ·exact thw_sub.cons _
theorem un4 {m l:Nat}:m % 2 ^ (min l (hi m))=m % 2 ^ l:=by
 rcases Nat.le_total l (hi m) with h | h
 ·rw [Nat.min_eq_left h]
 ·rw [Nat.min_eq_right h,Nat.mod_eq_of_lt (vb1 m),Nat.mod_eq_of_lt (Nat.lt_of_lt_of_le (vb1 m) (Nat.pow_le_pow_right (by decide) h))]
theorem ui1 {m k l:Nat} (h1:1<=k) (h:k<=l):xr (m % 2 ^ l) k=xr m k % 2 ^ l:=Nat.eq_of_testBit_eq fun j=>by
 unfold xr;rw [Nat.testBit_xor,Nat.testBit_mod_two_pow,Nat.testBit_mod_two_pow,Nat.testBit_xor,Nat.testBit_two_pow]
 by_cases e:k - 1=j
 ·have:j < l:=by omega
  simp [e,this]
 ·simp [e]
theorem ua2 {m k l:Nat} (h:l < k):m % 2 ^ l=xr m k % 2 ^ l:=Nat.eq_of_testBit_eq fun j=>by
 unfold xr;rw [Nat.testBit_mod_two_pow,Nat.testBit_mod_two_pow,Nat.testBit_xor,Nat.testBit_two_pow]
 by_cases e:k - 1=j
 ·have:¬ j < l:=by omega
  simp [this]
 ·simp [e]
theorem uy5 {m k l:Nat} (h1:1<=k) (h:k<=l):stb k (m % 2 ^ l)=stb k m:=by
 unfold stb;rw [Nat.testBit_mod_two_pow];have:k - 1 < l:=by omega
 simp [this]
theorem va8 (w:List Mv):(once w).length<=w.length:=thw_sub.length_le
theorem va9 {w:List Mv} (h:(once w).length=w.length):once w=w:=thw_sub.eq_of_length h
def itn:Nat->List Mv->List Mv
 | 0,w=>w
 | n+1,w=>once (itn n w)
theorem vf1 {α:Type} (ns:List α) (c:α):atI (ns++[c]) (-1)=some c:=by
 unfold atI ixN;rw [if_neg (by decide),if_pos (by simp;omega)];have e:(-1+((ns++[c]).length:Int)).toNat=ns.length:=by simp;omega
 rw [Option.bind_some,e];simp
theorem at_getD {α:Type} {xs:List α} {v:Int} (h0:0<=v) (h1:v < (xs.length:Int)):∃ x,x ∈ xs /\ atI xs v=some x:=by
 have h2:v.toNat < xs.length:=by omega
 refine ⟨xs[v.toNat],List.getElem_mem _,?_⟩;unfold atI ixN;rw [if_pos h0,if_pos h1,Option.bind_some,List.getElem?_eq_getElem h2]
theorem vy5 {G:Gp} {a b:Addr} {w:List Mv} {Q:Bool->Prop} (h1:u11 (G a)=some (w.map mD)) (h2:u11 (G b)=some []) (h:Q (decide (w=[]))) :
  ∃ n sd se r,n<=40 /\ snap G n (.ref a)=some sd /\ snap G n (.ref b)=some se /\ eqN n sd se=some r /\ Q r:=by
 cases w with
 | nil=>exact u46 (ks:=[]) (ms:=[]) h1 h2 h
 | cons p w =>
  obtain ⟨ys,e⟩:=uf5 (f:=snap G 1) (xs:=(p::w).map mD) fun d hd=>by
   obtain ⟨r,_,rfl⟩:=List.mem_map.mp hd;exact Rw.snap_tup (Rw.all2 Rw.snap_str (Rw.all1 Rw.snap_int))
  have hy:ys.length=(p::w).length:=by
   have:=(u18 e).1;rw [<- this,List.length_map]
  refine ⟨2,.lst ys,.lst [],false,by decide,?_,?_,?_,?_⟩
  ·show ((u11 (G a)).bind fun ds=>(ds.mapM (snap G 1)).map Sn.lst)=_
   rw [h1,Option.bind_some,e];rfl
  ·show ((u11 (G b)).bind fun ds=>(ds.mapM (snap G 1)).map Sn.lst)=_
   rw [h2];rfl
  ·cases ys with
   | nil=>simp at hy
   | cons y ys=>rfl
  ·have:decide (p::w=[])=false:=by simp
   rw [this] at h;exact h
def hD (x:Nat):D:=nD (hi x)
theorem vn6 {w:List Mv} {m:Nat}:(thw m w).length<=w.length:=thw_sub.length_le
end L3
namespace L3
open PySem PySem.Spec PyProof.Rows L2
section
variable {X:Cx} {K:W.Frag} {H:Hp}
theorem ue9 {H:Hp}:∀ ns:List Int,RelDs K H (ns.map D.int) (ns.map V.int)
 | []=>.nil
 | _::ns=>.cons RelD.intI (ue9 ns)
theorem u93 {H:Hp}:∀ {ns:List Int} {xs:List V},RelDs K H (ns.map D.int) xs->xs=ns.map V.int
 | [],xs,r=>r.inv_nil
 | n::ns,xs,r=>by
  obtain ⟨x,xs',rfl,h1,h2⟩:=r.inv_cons;rw [h1.int_inv,u93 h2];rfl
end
end L3
namespace L3
open PySem PySem.Spec PyProof.Rows L2 Rw
def cnt:Nat->Nat->Nat
 | 0,_=>0
 | n+1,m=>cnt n m+(if m.testBit n then 1 else 0)
theorem vl7:∀ {n m:Nat},cnt n m<=n
 | 0,_=>Nat.le_refl _
 | n+1,m=>by
  have:=@vl7 n m;rw [cnt];split <;> omega
theorem ut8:∀ {n m m':Nat},(∀ i,m.testBit i=true->m'.testBit i=true)->cnt n m<=cnt n m'
 | 0,_,_,_=>Nat.le_refl _
 | n+1,m,m',h=>by
  have ih:=ut8 (n:=n) h;rw [cnt,cnt];cases e:m.testBit n with
  | true=>rw [h n e];simp;omega
  | false=>simp;omega
theorem v65 {n m l:Nat}:cnt n (m % 2 ^ l)<=cnt n m:=ut8 fun i h=>by
 rw [Nat.testBit_mod_two_pow] at h;simp at h;exact h.2
theorem ua1:∀ {n m m':Nat},(∀ i,i < n->m.testBit i=m'.testBit i)->cnt n m=cnt n m'
 | 0,_,_,_=>rfl
 | n+1,m,m',h=>by
  rw [cnt,cnt,ua1 (n:=n) fun i hi=>h i (by omega),h n (by omega)]
theorem u26 {m k j:Nat}:(xr m k).testBit j=(m.testBit j ^^ decide (k - 1=j)):=by
 unfold xr;rw [Nat.testBit_xor,Nat.testBit_two_pow]
theorem u94:∀ {n m k:Nat},1<=k->k<=n->stb k m=false->cnt n (xr m k)=cnt n m+1
 | 0,_,_,h1,h2,_=>by omega
 | n+1,m,k,h1,h2,h=>by
  unfold stb at h
  by_cases e:k - 1=n
  ·subst e
   have e1:cnt (k - 1) (xr m k)=cnt (k - 1) m:=ua1 fun i hi=>by
    have:¬ (k - 1=i):=by omega
    rw [u26];simp [this]
   rw [cnt,cnt,e1,u26,h];simp
  ·have ih:=u94 (n:=n) (m:=m) h1 (by omega) h
   rw [cnt,cnt,ih,u26];simp [e];omega
theorem u87:∀ {n m k:Nat},1<=k->k<=n->stb k m=true->cnt n (xr m k)+1=cnt n m
 | 0,_,_,h1,h2,_=>by omega
 | n+1,m,k,h1,h2,h=>by
  unfold stb at h
  by_cases e:k - 1=n
  ·subst e
   have e1:cnt (k - 1) (xr m k)=cnt (k - 1) m:=ua1 fun i hi=>by
    have:¬ (k - 1=i):=by omega
    rw [u26];simp [this]
   rw [cnt,cnt,e1,u26,h];simp
  ·have ih:=u87 (n:=n) (m:=m) h1 (by omega) h
   rw [cnt,cnt,u26];simp [e];omega
def lgl (n s m:Nat) (p:Mv):Prop:=(1<=p.2 /\ p.2<=n) /\ (p.2=1 \/ m.testBit (p.2 - 2)=true) /\ p.1=(!stb p.2 m) /\ (p.1=true->cnt n m < s)
def lgw (n s:Nat):Nat->List Mv->Prop
 | _,[]=>True
 | m,p::r=>lgl n s m p /\ lgw n s (xr m p.2) r
theorem lgw_app {n s:Nat}:∀ {l r:List Mv} {m:Nat},lgw n s m (l++r) ↔ lgw n s m l /\ lgw n s (fin m l) r
 | [],r,m=>by show lgw n s m r ↔ True /\ lgw n s m r;simp
 | p::l,r,m=>by
  show lgl n s m p /\ lgw n s (xr m p.2) (l++r) ↔ (lgl n s m p /\ lgw n s (xr m p.2) l) /\ lgw n s (fin (xr m p.2) l) r
  rw [lgw_app,and_assoc]
theorem v30 {n s:Nat} (hn:n<=900):∀ {w:List Mv} {m:Nat},lgw n s m w->okw m w
 | [],_,_=>trivial
 | p::r,m,⟨⟨h1,h2,h3,h4⟩,h5⟩=>⟨⟨h1.1,by omega⟩,h3,v30 hn h5⟩
theorem uo1 {n s:Nat}:∀ {w:List Mv} {m:Nat},lgw n s m w->lgw n s (m % 2 ^ low m w) (thw m w)
 | [],_,_=>trivial
 | p::r,m,⟨⟨h1,h2,h3,h4⟩,h5⟩=>by
  have ih:=uo1 h5
  show lgw n s (m % 2 ^ min (low (xr m p.2) r) (hi m)) (if p.2<=low (xr m p.2) r then p::thw (xr m p.2) r else thw (xr m p.2) r)
  rw [un4];split
  ·rename_i hk
   refine ⟨⟨h1,?_,by rw [uy5 h1.1 hk];exact h3,fun e=>Nat.lt_of_le_of_lt v65 (h4 e)⟩,?_⟩
   ·rcases h2 with h2 | h2
    ·exact .inl h2
    ·right
     rw [Nat.testBit_mod_two_pow,h2];simp;omega
   ·rw [ui1 h1.1 hk]
    exact ih
  ·rename_i hk
   rw [ua2 (by omega:low (xr m p.2) r < p.2)];exact ih
theorem uo7:∀ {w:List Mv} {m:Nat},okw m w->fin (m % 2 ^ low m w) (thw m w)=fin m w
 | [],m,_=>by
  show m % 2 ^ hi m=m
  exact Nat.mod_eq_of_lt (vb1 m)
 | p::r,m,⟨h1,_,h5⟩=>by
  have ih:=uo7 h5
  show fin (m % 2 ^ min (low (xr m p.2) r) (hi m)) (if p.2<=low (xr m p.2) r then p::thw (xr m p.2) r else thw (xr m p.2) r)=fin (xr m p.2) r
  rw [un4];split
  ·rename_i hk
   show fin (xr (m % 2 ^ low (xr m p.2) r) p.2) (thw (xr m p.2) r)=_
   rw [ui1 h1.1 hk];exact ih
  ·rename_i hk
   rw [ua2 (by omega:low (xr m p.2) r < p.2)];exact ih
theorem ur1:∀ {w:List Mv} {m:Nat},okw m w->∀ x,x ∈ (m % 2 ^ low m w)::sbh (m % 2 ^ low m w) (thw m w)->∃ y l,y ∈ m::sbh m w /\ x=y % 2 ^ l
 | [],m,_,x,hx=>by
  have:x=m % 2 ^ low m []:=by simpa [thw,sbh] using hx
  exact ⟨m,_,by simp,this⟩
 | p::r,m,⟨h1,_,h5⟩,x,hx=>by
  have ih:=ur1 h5;have e:low m (p::r)=min (low (xr m p.2) r) (hi m):=rfl;rw [e,un4] at hx;rw [thw] at hx;split at hx
  ·rename_i hk
   rcases List.mem_cons.mp hx with hx | hx
   ·exact ⟨m,_,by simp,hx⟩
   ·have hx:x ∈ xr (m % 2 ^ low (xr m p.2) r) p.2::sbh (xr (m % 2 ^ low (xr m p.2) r) p.2) (thw (xr m p.2) r):=hx
    rw [ui1 h1.1 hk] at hx;obtain ⟨y,l,hy,e⟩:=ih x hx;exact ⟨y,l,List.mem_cons_of_mem _ hy,e⟩
  ·rename_i hk
   rw [ua2 (by omega:low (xr m p.2) r < p.2)] at hx;obtain ⟨y,l,hy,e⟩:=ih x hx;exact ⟨y,l,List.mem_cons_of_mem _ hy,e⟩
structure Thn (n s:Nat) (w x:List Mv):Prop where
 leg:lgw n s 0 x
 fin:fin 0 x=fin 0 w
 sub:x.Sublist w
 cnt:∀ a ∈ 0::sbh 0 x,∃ b ∈ 0::sbh 0 w,cnt 24 a<=cnt 24 b
theorem Thn.once {n s:Nat} {w x:List Mv} (hn:n<=900) (h:Thn n s w x):Thn n s w (once x):=by
 have ok:=v30 hn h.leg;have z:0 % 2 ^ low 0 x=0:=Nat.zero_mod _;refine ⟨?_,?_,thw_sub.trans h.sub,fun a ha=>?_⟩
 ·have:=uo1 h.leg
  rw [z] at this;exact this
 ·have:=uo7 ok
  rw [z] at this;exact this.trans h.fin
 ·have:=ur1 ok a
  rw [z] at this;obtain ⟨y,l,hy,rfl⟩:=this ha;obtain ⟨b,hb,e⟩:=h.cnt y hy;exact ⟨b,hb,Nat.le_trans v65 e⟩
theorem Thn.itn {n s:Nat} {w:List Mv} (hn:n<=900) (h:lgw n s 0 w):∀ k,Thn n s w (itn k w)
 | 0=>⟨h,rfl,List.Sublist.refl _,fun a ha=>⟨a,ha,Nat.le_refl _⟩⟩
 | k+1=>(Thn.itn hn h k).once hn
def nrm:Nat->List Mv->Prop
 | _,[]=>True
 | m,p::r=>p.2<=low (xr m p.2) r /\ nrm (xr m p.2) r
theorem vk0:∀ {w:List Mv} {m:Nat},thw m w=w->nrm m w
 | [],_,_=>trivial
 | p::r,m,h=>by
  rw [thw] at h;split at h
  ·rename_i hk
   exact ⟨hk,vk0 (List.cons.inj h).2⟩
  ·have:=vn6 (w:=r) (m:=xr m p.2)
   rw [h,List.length_cons] at this;omega
theorem vl2 {m:Nat} (h:0 < hi m):m.testBit (hi m - 1)=true:=by
 have h0:m ≠ 0:=fun e=>by subst e;simp [hi] at h
 unfold hi;rw [if_neg h0]
 show m.testBit m.log2=true
 exact Nat.testBit_log2 h0
theorem u90:∀ {w:List Mv} {m:Nat},fin m w ∈ m::sbh m w
 | [],m=>by simp [fin]
 | p::r,m=>List.mem_cons_of_mem _ (u90 (w:=r) (m:=xr m p.2))
theorem ua7 {n:Nat}:∀ {w:List Mv} {m:Nat},m < 2 ^ n->(∀ p ∈ w,1<=p.2 /\ p.2<=n)->∀ x ∈ m::sbh m w,x < 2 ^ n
 | [],m,h,_,x,hx=>by
  have:x=m:=by simpa [sbh] using hx
  subst this;exact h
 | p::r,m,h,hw,x,hx=>by
  rcases List.mem_cons.mp hx with e | hx
  ·subst e;exact h
  ·refine ua7 (m:=xr m p.2) ?_ (fun q hq=>hw q (List.mem_cons_of_mem _ hq)) x hx
   have:=hw p (by simp);exact Nat.xor_lt_two_pow h (Nat.pow_lt_pow_right (by decide) (by omega))
theorem u72 {n s:Nat}:∀ {w:List Mv} {m:Nat},lgw n s m w->∀ p ∈ w,1<=p.2 /\ p.2<=n
 | [],_,_,p,hp=>by simp at hp
 | q::r,m,⟨h1,h2⟩,p,hp=>by
  rcases List.mem_cons.mp hp with e | hp
  ·subst e;exact h1.1
  ·exact u72 h2 p hp
def bkw (w:List Mv):List Mv:=(w.map fun p=>(!p.1,p.2)).reverse
theorem w41 {m k:Nat}:stb k (xr m k)=!stb k m:=by
 unfold stb;rw [u26];simp
theorem vm2 {m k:Nat}:xr (xr m k) k=m:=Nat.eq_of_testBit_eq fun j=>by
 rw [u26,u26];cases m.testBit j <;> cases decide (k - 1=j) <;> rfl
theorem uf9 {n s:Nat}:∀ {w:List Mv} {m:Nat},cnt n m<=s->lgw n s m w->cnt n (fin m w)<=s
 | [],_,h,_=>h
 | p::r,m,h,⟨⟨h1,_,h3,h4⟩,h5⟩=>by
  refine uf9 (m:=xr m p.2) ?_ h5;cases e:stb p.2 m with
  | true=>have:=u87 h1.1 h1.2 e;omega
  | false =>
   rw [e] at h3;rw [u94 h1.1 h1.2 e];exact h4 h3
theorem ug0 {n s:Nat}:∀ {w:List Mv} {m:Nat},cnt n m<=s->lgw n s m w->lgw n s (fin m w) (bkw w) /\ fin (fin m w) (bkw w)=m
 | [],_,_,_=>⟨trivial,rfl⟩
 | p::r,m,h,⟨⟨h1,h2,h3,h4⟩,h5⟩=>by
  have hc:cnt n (xr m p.2)<=s:=by
   cases e:stb p.2 m with
   | true=>have:=u87 h1.1 h1.2 e;omega
   | false =>
    rw [e] at h3;rw [u94 h1.1 h1.2 e];exact h4 h3
  obtain ⟨i1,i2⟩:=ug0 hc h5;have e:bkw (p::r)=bkw r++[(!p.1,p.2)]:=by unfold bkw;rw [List.map_cons,List.reverse_cons]
  have ef:fin m (p::r)=fin (xr m p.2) r:=rfl;rw [e,ef,lgw_app,u24,i2];refine ⟨⟨i1,⟨h1,?_,?_,fun hb=>?_⟩,trivial⟩,vm2⟩
  ·rcases h2 with h2 | h2
   ·exact .inl h2
   ·by_cases hk:p.2=1
    ·exact .inl hk
    ·right
     show (xr m p.2).testBit (p.2 - 2)=true
     rw [u26,h2];have:¬ (p.2 - 1=p.2 - 2):=by (clear h2 ef e i2 hc h4 h3 h;omega)
     simp [this]
  ·show (!p.1)=!stb p.2 (xr m p.2)
   rw [w41,h3]
  ·have hp:p.1=false:=by simpa using hb
   rw [hp] at h3;have hs:stb p.2 m=true:=by simpa using h3.symm
   have:=u87 h1.1 h1.2 hs;omega
theorem uf3 {n s m i:Nat} {b:Bool} {ps:List Mv} (h:∀ p,p ∈ ps ↔ lgl n s m p /\ p.2<=i) (hb:lgl n s m (b,i+1)):∀ p,p ∈ ps++[(b,i+1)] ↔ lgl n s m p /\ p.2<=i+1:=by
 intro p;rw [List.mem_append,h p,List.mem_singleton]
 constructor
 ·rintro (⟨a,c⟩ | rfl)
  ·exact ⟨a,by omega⟩
  ·exact ⟨hb,Nat.le_refl _⟩
 ·rintro ⟨a,c⟩
  by_cases e:p.2<=i
  ·exact .inl ⟨a,e⟩
  ·right
   obtain ⟨b',k⟩:=p;have e2:k=i+1:=by have:k<=i+1:=c;have:¬ k<=i:=e;omega
   subst e2;have h1:b'=!stb (i+1) m:=a.2.2.1;have h2:b=!stb (i+1) m:=hb.2.2.1;rw [h1,h2]
theorem v15 {n s m i:Nat} {ps:List Mv} (h:∀ p,p ∈ ps ↔ lgl n s m p /\ p.2<=i) (hb:∀ b,¬ lgl n s m (b,i+1)):∀ p,p ∈ ps ↔ lgl n s m p /\ p.2<=i+1:=by
 intro p;rw [h p]
 constructor
 ·rintro ⟨a,c⟩
  exact ⟨a,by omega⟩
 ·rintro ⟨a,c⟩
  refine ⟨a,?_⟩
  by_cases e:p.2<=i
  ·exact e
  ·obtain ⟨b',k⟩:=p
   have e2:k=i+1:=by have:k<=i+1:=c;have:¬ k<=i:=e;omega
   subst e2;exact absurd a (hb b')
theorem u34:∀ {n:Nat},cnt n 0=0
 | 0=>rfl
 | n+1=>by rw [cnt,u34,Nat.zero_testBit];rfl
def cap:Nat->Bool->Nat
 | 0,_=>0
 | s+1,true=>2 ^ s
 | s+1,false=>2 ^ (s+1) - 1
def WOK (f l s:Nat) (b:Bool) (w:List Mv):Prop:=∀ n S m,l<=n->(f=0 \/ m.testBit (f - 1)=true)->(∀ i,f<=i->i < l->m.testBit i=false)->cnt n m+s<=S ->
 lgw n S m w /\ (∀ i,(i < f \/ l<=i)->(fin m w).testBit i=m.testBit i) /\ (fin m w).testBit (l - 1)=true /\ (b=true->∀ i,f<=i->i+1 < l->(fin m w).testBit i=false)
theorem um6 {f s:Nat} {b:Bool} (hs:1<=s):WOK f (f+1) s b [(true,f+1)]:=by
 intro n S m hn hf hz hc;have hb:=hz f (Nat.le_refl _) (Nat.lt_succ_self _);refine ⟨⟨⟨⟨by show 1<=f+1;omega,hn⟩,?_,?_,fun _=>by omega⟩,trivial⟩,fun i hi=>?_,?_,fun _ i h1 h2=>by omega⟩
 ·rcases hf with h | h
  ·left;show f+1=1;omega
  ·by_cases h0:f=0
   ·left;show f+1=1;omega
   ·right
    show m.testBit (f+1 - 2)=true
    have:f+1 - 2=f - 1:=by (clear h0 h hb hc hz hn hs;omega)
    rw [this];exact h
 ·show true=!m.testBit f
  rw [hb];rfl
 ·show (xr m (f+1)).testBit i=_
  have:¬ (f+1 - 1=i):=by omega
  rw [u26,decide_eq_false this,Bool.xor_false]
 ·show (xr m (f+1)).testBit (f+1 - 1)=true
  rw [u26]
  show (m.testBit f ^^ decide (f=f))=true
  rw [hb];simp
theorem WOK.fin_xr {f l s:Nat} {w:List Mv} (hl:f < l) (h:WOK f l s true w) {n S m:Nat} (hn:l<=n) (hf:f=0 \/ m.testBit (f - 1)=true) (hz:∀ i,f<=i->i < l->m.testBit i=false) (hc:cnt n m+s<=S):fin m w=xr m l:=by
 obtain ⟨_,h2,h3,h4⟩:=h n S m hn hf hz hc;refine Nat.eq_of_testBit_eq fun i=>?_
 rw [u26]
 by_cases e:l - 1=i
 ·subst e
  rw [h3,hz _ (by omega) (by omega)];simp
 ·have:decide (l - 1=i)=false:=decide_eq_false e
  rw [this,Bool.xor_false]
  by_cases h5:i < f \/ l<=i
  ·exact h2 i h5
  ·rw [h4 rfl i (by omega) (by omega),hz i (by omega) (by omega)]
theorem vm3 {m k l:Nat}:xr (xr m k) l=xr (xr m l) k:=Nat.eq_of_testBit_eq fun j=>by
 rw [u26,u26,u26,u26];cases m.testBit j <;> cases decide (k - 1=j) <;> cases decide (l - 1=j) <;> rfl
theorem u55 {m k i:Nat} (h:¬ k - 1=i):(xr m k).testBit i=m.testBit i:=by
 rw [u26,decide_eq_false h,Bool.xor_false]
theorem um2 {m k:Nat} (h:m.testBit (k - 1)=false):(xr m k).testBit (k - 1)=true:=by
 rw [u26,h];simp
theorem ui5 {f c l s:Nat} {w1 w2 w3:List Mv} (h1:f < c) (h2:c < l) (W1:WOK f c (s+1) true w1) (W2:WOK c l s true w2) (W3:WOK f c s true w3):WOK f l (s+1) true (w1++w2++bkw w3):=by
 intro n S m hn hf hz hc;have z1:∀ i,f<=i->i < c->m.testBit i=false:=fun i a b=>hz i a (by omega)
 have e1:=W1.fin_xr h1 (n:=n) (S:=S) (by omega) hf z1 hc;obtain ⟨L1,_⟩:=W1 n S m (by omega) hf z1 hc;have hb1:stb c m=false:=hz (c - 1) (by omega) (by omega);have c1:cnt n (xr m c)=cnt n m+1:=u94 (by omega) (by omega) hb1;have f2:c=0 \/ (xr m c).testBit (c - 1)=true:=.inr (um2 hb1);have z2:∀ i,c<=i->i < l->(xr m c).testBit i=false:=fun i a b=>by rw [u55 (by omega)];exact hz i (by omega) b
 have e2:=W2.fin_xr h2 (n:=n) (S:=S) hn f2 z2 (by omega);obtain ⟨L2,_⟩:=W2 n S (xr m c) hn f2 z2 (by omega);have hbl:stb l m=false:=hz (l - 1) (by omega) (by omega);have c3:cnt n (xr m l)=cnt n m+1:=u94 (by omega) hn hbl;have f3:f=0 \/ (xr m l).testBit (f - 1)=true:=by
  rcases hf with h | h
  ·exact .inl h
  ·by_cases h0:f=0
   ·exact .inl h0
   ·exact .inr (by rw [u55 (by (clear h0 h c3 hbl e2 z2 f2 c1 hb1 e1 z1 hc hz hn;omega))];exact h)
 have z3:∀ i,f<=i->i < c->(xr m l).testBit i=false:=fun i a b=>by rw [u55 (by (clear a f3 c3 hbl e2 z2 f2 c1 hb1 e1 z1 hc hz hf hn;omega))];exact hz i a (by omega)
 have e3:=W3.fin_xr h1 (n:=n) (S:=S) (by omega) f3 z3 (by (clear z3 f3 hbl e2 z2 f2 hb1 e1 z1 hz hf hn h2 h1;omega));obtain ⟨L3,_⟩:=W3 n S (xr m l) (by omega) f3 z3 (by (clear e3 z3 f3 hbl e2 z2 f2 hb1 e1 z1 hz hf hn h2 h1;omega));obtain ⟨B1,B2⟩:=ug0 (by (clear e3 z3 f3 hbl e2 z2 f2 hb1 e1 z1 hz hf hn h2 h1;omega):cnt n (xr m l)<=S) L3;rw [e3,vm3] at B1 B2;have et:fin m (w1++w2++bkw w3)=xr m l:=by rw [u24,u24,e1,e2,B2]
 refine ⟨?_,?_⟩
 ·rw [lgw_app,lgw_app,u24,e1,e2]
  exact ⟨⟨L1,L2⟩,B1⟩
 ·rw [et]
  refine ⟨fun i hi=>u55 (by (clear et B2 e3 z3 f3 c3 hbl e2 z2 f2 c1 hb1 e1 z1 hc hz hf hn;omega)),um2 hbl,fun _ i a b=>by rw [u55 (by (clear a et B2 e3 z3 f3 c3 hbl e2 z2 f2 c1 hb1 e1 z1 hc hz hf hn h2 h1;omega))];exact hz i a (by (clear a et B2 e3 z3 f3 c3 hbl e2 z2 f2 c1 hb1 e1 z1 hc hz hf hn h2 h1;omega))⟩
theorem uq2 {f c l s:Nat} {w1 w2:List Mv} (h1:f < c) (h2:c < l) (W1:WOK f c (s+1) true w1) (W2:WOK c l s false w2):WOK f l (s+1) false (w1++w2):=by
 intro n S m hn hf hz hc;have z1:∀ i,f<=i->i < c->m.testBit i=false:=fun i a b=>hz i a (by omega)
 have e1:=W1.fin_xr h1 (n:=n) (S:=S) (by omega) hf z1 hc;obtain ⟨L1,_⟩:=W1 n S m (by omega) hf z1 hc;have hb1:stb c m=false:=hz (c - 1) (by omega) (by omega);have c1:cnt n (xr m c)=cnt n m+1:=u94 (by omega) (by omega) hb1;have f2:c=0 \/ (xr m c).testBit (c - 1)=true:=.inr (um2 hb1);have z2:∀ i,c<=i->i < l->(xr m c).testBit i=false:=fun i a b=>by rw [u55 (by omega)];exact hz i (by omega) b
 obtain ⟨L2,q1,q2,_⟩:=W2 n S (xr m c) hn f2 z2 (by omega);refine ⟨by rw [lgw_app,e1];exact ⟨L1,L2⟩,fun i hi=>?_,by rw [u24,e1];exact q2,fun h=>by cases h⟩;rw [u24,e1,q1 i (by omega),u55 (by (clear q2 q1 z2 f2 c1 hb1 e1 z1 hc hz hf hn;omega))]
theorem WOK.start {l s n S:Nat} {b:Bool} {w:List Mv} (h:WOK 0 l s b w) (hn:l<=n) (hs:s<=S):lgw n S 0 w /\ (fin 0 w).testBit (l - 1)=true:=by
 obtain ⟨a,_,c,_⟩:=h n S 0 hn (.inl rfl) (fun i _ _=>Nat.zero_testBit i) (by rw [u34];omega);exact ⟨a,c⟩
theorem WOK.left {l s n S:Nat} {w:List Mv} (h0:0 < l) (h:WOK 0 l s true w) (hn:l<=n) (hs:s<=S):fin 0 w=2 ^ (l - 1):=by
 have e:=h.fin_xr h0 (n:=n) (S:=S) hn (.inl rfl) (fun i _ _=>Nat.zero_testBit i) (by rw [u34];omega);rw [e];unfold xr;exact Nat.zero_xor _
theorem v46 {f l s:Nat} {b:Bool} (h:2<=l - f) (hc:l - f<=cap s b):∃ s',s=s'+1 /\ f+(l - f+1) / 2 - f<=cap (if b then s' else s) true /\ l - (f+(l - f+1) / 2)<=cap s' b:=by
 cases s with
 | zero=>simp [cap] at hc;omega
 | succ s =>
  refine ⟨s,rfl,?_⟩;cases s with
  | zero=>cases b <;> simp [cap] at hc <;> omega
  | succ s =>
   cases b
   ·simp only [cap] at hc ⊢
    rw [Nat.pow_succ] at hc;rw [Nat.pow_succ];simp;rw [Nat.pow_succ];omega
   ·simp only [cap] at hc ⊢
    rw [Nat.pow_succ] at hc;simp [cap];omega
theorem ve4 {s:Nat}:cap s true<=cap (s+1) true:=by
 cases s with
 | zero=>simp [cap]
 | succ s=>simp only [cap];rw [Nat.pow_succ];omega
theorem u92 {s:Nat} {b:Bool} (h:1<=s):1<=cap s b:=by
 cases s with
 | zero=>omega
 | succ s =>
  have:=Nat.two_pow_pos s;cases b
  ·simp only [cap];rw [Nat.pow_succ];omega
  ·simp only [cap];omega
theorem uz2 {m:Nat}:∀ n,((List.range n).filter fun i=>m.testBit i).length=cnt n m
 | 0=>rfl
 | n+1=>by
  rw [List.range_succ,List.filter_append,List.length_append,uz2 n,cnt];cases h:m.testBit n <;> simp [h]
theorem v66 {n m:Nat} (h:m < 2 ^ n):∀ k,cnt (n+k) m=cnt n m
 | 0=>rfl
 | k+1=>by
  rw [<- Nat.add_assoc,cnt,v66 h k,Nat.testBit_lt_two_pow (Nat.lt_of_lt_of_le h (Nat.pow_le_pow_right (by decide) (by omega)))];rfl
theorem v31 {n s:Nat} {w:List Mv} (h:lgw n s 0 w):fin 0 w < 2 ^ n:=ua7 (Nat.two_pow_pos _) (u72 h) _ u90
abbrev Pm:=Option Mv
def pmD:Pm->D
 | none=>.tup [.str "show"]
 | some p=>mD p
def nxp (m:Nat):Pm->Nat
 | none=>m
 | some p=>xr m p.2
def okm (m:Nat):Pm->Prop
 | none=>True
 | some p=>(1<=p.2 /\ p.2<=24) /\ p.1=!stb p.2 m
theorem uj6 {xs:List Nat}:xs.map nD=(xs.map fun x:Nat=>(x:Int)).map .int:=by rw [List.map_map];rfl
theorem w64 {b m:Nat}:pc b m=cnt b m:=by
 unfold pc;rw [List.countP_eq_length_filter,uz2]
end L3
namespace L2
open PySem PySem.Spec PyProof.Rows
section
variable {X:Cx} {pins:List (Addr × Obj)} {σ:L2.St} {H:Hp} {s:Shared} {a b:Addr} {A:Around} {E:Value->Shared->Prop}
theorem vl0 {ks:List Key} (I:Inv X pins σ H s) (h:SqT X.K H b (ks.map kV)):(tupleKind (u14 X.prog X.w)).is s.heap ks b:=by
 obtain ⟨its,r,⟨o,e,c,n,d⟩,_⟩:=I.tuple h;exact ⟨o,its.toArray,n,e,c,d,by simpa using ub5 r⟩
def vh8 (K:W.Frag) (td ty:TE):TE:=fun σ H Q=>td σ H fun x H1=>ty σ H1 fun y H2=>∃ a b kvs k v,x=.ref a /\ y=.ref b /\ H2 a=some (.dT kvs) /\ SqT K H2 b (k.map kV) /\ valV kvs k=some v /\ Q v H2
theorem va4 {o i:Expr} {pos:Pos} {td ty:TE} (hu:X.A.units+1 < cLine) (ho:PE X o td) (hi:PE X i ty) (hs:NoSl i):PE X (.Subscript o i pos) (vh8 X.K td ty):=by
 intro pins s σ H Q I h
 (refine ue5 PySem.F.slot_dict_getitem.lookup hs (thn (ho pins s σ H _ I h) ?_);rintro u s1 ⟨x,H1,I1,rx,q1⟩;refine thn (hi pins s1 σ H1 _ I1 q1) ?_;rintro iv s2 ⟨y,H2,I2,ry,a,b,kvs,k,v,ex,ey,ha,hb,l,q2⟩)
 subst ex;subst ey;obtain rfl:u=Value.ref a:=rx;obtain rfl:iv=Value.ref b:=ry;obtain ⟨z,hd,xs,rel,dd⟩:=uk9 I2.hok (.inl ha);refine ⟨dd.typeIs,?_⟩;obtain ⟨w',hw,rw'⟩:=RelO.some_of (v:=v) (o:=(atKey xs k).map (·.2)) (by rw [<- l];exact rel.val k);obtain ⟨p,hp,hp2⟩:=Option.map_eq_some_iff.mp hw;refine wpAny_getItem_heap (tupleKind_room_in1 hu) (vl0 I2 hb) dd hp ?_;rw [hp2];exact ⟨v,H2,I2.tok _,rw',q2⟩
def rInD (K:W.Frag) (neg:Bool):R2:=fun x y H Q=>∃ a b kvs k,x=.ref b /\ y=.ref a /\ H a=some (.dT kvs) /\ SqT K H b (k.map kV) /\ Q (.bl (if neg then !(valV kvs k).isSome else (valV kvs k).isSome)) H
theorem w77 (hu:X.A.units+1 < cLine):OpR X (compareOp .In) (rInD X.K false):=by
 intro pins s σ H x y v u Q I rx ry h;obtain ⟨a,b,kvs,k,rfl,rfl,ha,hb,q⟩:=h;obtain rfl:v=Value.ref b:=rx;obtain rfl:u=Value.ref a:=ry;obtain ⟨z,hd,xs,rel,dd⟩:=uk9 I.hok (.inl ha);refine wpAny_in_heap (tupleKind_room_in1 hu) (vl0 I hb) hd dd ?_;have e:=(rel.val k).isSome_eq;rw [Option.isSome_map] at e;rw [<- e];exact ⟨.bl (valV kvs k).isSome,H,I.tok _,rfl,q⟩
end
end L2
namespace L3
open PySem PySem.Spec PyProof.Rows L2
def kD:Key->D
 | .inl i=>.int i
 | .inr x=>.str x
def valD (kvs:List (List Key × D)) (k:List Key):Option D:=(kvs.find? fun kv=>decide (kv.1=k)).map (·.2)
def putT (kvs:List (List Key × D)) (k:List Key) (v:D):List (List Key × D) :=
 if (kvs.any fun kv=>decide (kv.1=k))=true then kvs.map (fun kv=>if kv.1=k then (kv.1,v) else kv) else kvs++[(k,v)]
section
variable {X:Cx} {K:W.Frag} {G:Gp} {H:Hp} {p:Addr}
theorem u81:∀ {ks:List Key} {xs:List V},RelDs K H (ks.map kD) xs->xs=ks.map kV
 | [],xs,r=>r.inv_nil
 | .inl i::ks,xs,r=>by
  obtain ⟨x,xs',rfl,h1,h2⟩:=r.inv_cons;rw [(show RelD K H (.int i) x from h1).int_inv,u81 h2];rfl
 | .inr z::ks,xs,r=>by
  obtain ⟨x,xs',rfl,h1,h2⟩:=r.inv_cons;rw [(show RelD K H (.str z) x from h1).str_inv,u81 h2];rfl
theorem um8 {k:List Key}:∀ {kvs:List (List Key × D)} {ys:List (List Key × V)},RelPs K H kvs ys->(valD kvs k=none /\ valV ys k=none) \/ ∃ d v,valD kvs k=some d /\ valV ys k=some v /\ RelD K H d v
 | [],ys,⟨h1,h2⟩=>by
  have:ys=[]:=by cases ys with | nil=>rfl | cons y ys=>simp at h1
  subst this;exact .inl ⟨rfl,rfl⟩
 | (k',d)::kvs,[],⟨h1,h2⟩=>by simp at h1
 | (k',d)::kvs,(k2,v)::ys,⟨h1,h2⟩=>by
  rw [List.map_cons,List.map_cons] at h1;obtain ⟨e1,e2⟩:=List.cons.inj h1;have e1:k'=k2:=e1;subst e1;obtain ⟨x,xs',e3,q1,q2⟩:=h2.inv_cons;rw [List.map_cons] at e3;obtain ⟨e4,e5⟩:=List.cons.inj e3;have e4:v=x:=e4;subst e4
  by_cases hk:k'=k
  ·right
   exact ⟨d,v,by simp [valD,List.find?_cons,hk],u78 hk,q1⟩
  ·have ih:=um8 (k:=k) (kvs:=kvs) (ys:=ys) ⟨e2,by rw [e5];exact q2⟩
   have a1:valD ((k',d)::kvs) k=valD kvs k:=by simp [valD,List.find?_cons,hk]
   rw [a1,u79 hk];exact ih
theorem v17 {k:List Key} {d:D} {v:V} (q:RelD K H d v):∀ {kvs:List (List Key × D)} {ys:List (List Key × V)},RelPs K H kvs ys->RelPs K H (kvs.map (fun kv=>if kv.1=k then (kv.1,d) else kv)) (ys.map (fun kv=>if kv.1=k then (kv.1,v) else kv)) /\ (kvs.any fun kv=>decide (kv.1=k))=(ys.any fun kv=>decide (kv.1=k))
 | [],ys,⟨h1,h2⟩=>by
  have:ys=[]:=by cases ys with | nil=>rfl | cons y ys=>simp at h1
  subst this;exact ⟨⟨rfl,.nil⟩,rfl⟩
 | (k',d')::kvs,[],⟨h1,h2⟩=>by simp at h1
 | (k',d')::kvs,(k2,v')::ys,⟨h1,h2⟩=>by
  rw [List.map_cons,List.map_cons] at h1;obtain ⟨e1,e2⟩:=List.cons.inj h1;have e1:k'=k2:=e1;subst e1;obtain ⟨x,xs',e3,q1,q2⟩:=h2.inv_cons;rw [List.map_cons] at e3;obtain ⟨e4,e5⟩:=List.cons.inj e3;have e4:v'=x:=e4;subst e4;obtain ⟨⟨i1,i2⟩,i3⟩:=v17 (k:=k) q (kvs:=kvs) (ys:=ys) ⟨e2,by rw [e5];exact q2⟩;refine ⟨⟨?_,?_⟩,by rw [List.any_cons,List.any_cons,i3]⟩
  ·rw [List.map_cons,List.map_cons,List.map_cons,List.map_cons,i1]
   by_cases hk:k'=k <;> simp [hk]
  ·rw [List.map_cons,List.map_cons,List.map_cons,List.map_cons]
   by_cases hk:k'=k
   ·simp only [hk,if_true];exact .cons q i2
   ·simp only [hk,if_false];exact .cons q1 i2
theorem vq8 {k:List Key} {d:D} {v:V} (q:RelD K H d v) {kvs:List (List Key × D)} {ys:List (List Key × V)} (h:RelPs K H kvs ys):RelPs K H (putT kvs k d) (putK ys k v):=by
 obtain ⟨i1,i3⟩:=v17 (k:=k) q h;unfold putT putK;rw [i3];split
 ·exact i1
 ·exact ⟨by rw [List.map_append,List.map_append,h.1];rfl,by rw [List.map_append,List.map_append];exact h.2.append (.cons q .nil)⟩
theorem Le.dT {xs ys:List (List Key × V)} (h:H p=some (.dT xs)):Le H (upd H p (.dT ys)) :=
  ⟨fun b zs q => by by_cases e : b = p
                    · subst e;rw [h] at q;cases q
                    · rw [u10 e];exact q,
   fun b o u q => by by_cases e : b = p
                     · subst e;rw [h] at q;cases q
                     · rw [u10 e];exact q⟩
def uh5 (td ti:TE3):TE3:=fun σ G q=>td σ G fun x G1=>ti σ G1 fun y G2=>∃ a kvs ks d,x=.ref a /\ y=.tup (ks.map kD) /\ G2 a=some (.dit kvs) /\ valD kvs ks=some d /\ q d G2
theorem vc3 {td ti:TE3} {σ:L2.St} {Q:VK} (h:lowE K (uh5 td ti) σ H Q):vh8 K (lowE K td) (lowE K ti) σ H Q:=by
 obtain ⟨σd,G,q,rs,c,t,f⟩:=h;refine ⟨σd,G,_,rs,c,t,fun x G1 v H1 r1 c1 l1 t1=>⟨σd,G1,_,rs.le l1,c1,t1,fun y G2 u H2 r2 c2 l2 t2=>?_⟩⟩;obtain ⟨a,kvs,ks,d,rfl,rfl,hg,hv,t3⟩:=t2;have r1':=RelD.le l2 r1;cases r1'.ref_inv;obtain ⟨b,xs,rfl,s1,q1⟩:=r2.tup_inv;obtain rfl:=u81 q1;obtain ⟨ys,e,rp⟩:=c2 a _ hg
 rcases um8 (k:=ks) rp with ⟨z,_⟩ | ⟨d',w,z1,z2,z3⟩
 ·rw [hv] at z;cases z
 ·rw [hv] at z1;cases z1
  exact ⟨a,b,ys,ks,w,rfl,rfl,e,s1,z2,f _ _ _ _ z3 c2 (l1.trans l2) t3⟩
theorem u91 {k:Nat} {o i:Expr} {pos:Pos} {to ti:TE3} (hr:Room k X.A) (ho:E3 X o to) (hi:E3 X i ti) (hs:NoSl i:=by exact fun _ _=>rfl):E3 X (.Subscript o i pos) (uh5 to ti) :=
 u28 (va4 (ug4 hr) ho hi hs) fun _ _ _=>vc3
@[reducible] def xInD (neg:Bool):R3:=fun x y G q=>∃ (ks:List Key) (kvs:List (List Key × D)) (a:Addr),x=.tup (ks.map kD) /\ y=.ref a /\ G a=some (.dit kvs) /\ q (.bl (if neg then !(valD kvs ks).isSome else (valD kvs ks).isSome)) G
theorem vu7 {neg:Bool} {x y:V} {Q:VK} (h:lowR K (xInD neg) x y H Q):rInD K neg x y H Q:=by
 obtain ⟨d,e,G,q,r1,r2,c,⟨ks,kvs,a,rfl,rfl,hg,t⟩,f⟩:=h;cases r2.ref_inv;obtain ⟨b,xs,rfl,s1,q1⟩:=r1.tup_inv;obtain rfl:=u81 q1;obtain ⟨ys,e,rp⟩:=c a _ hg;refine ⟨a,b,ys,ks,rfl,rfl,e,s1,?_⟩;have es:(valD kvs ks).isSome=(valV ys ks).isSome:=by
  rcases um8 (k:=ks) rp with ⟨z1,z2⟩ | ⟨d',w,z1,z2,_⟩ <;> rw [z1,z2] <;> rfl
 rw [es] at t;exact f _ _ _ _ RelD.blI c (Le.refl H) t
theorem wh6 {k:Nat} (hr:Room k X.A):Op3 X (compareOp .In) (xInD false):=u62 (w77 (ug4 hr)) fun _ _ _ _ h=>vu7 h
def vy1:TE3:=fun _ G q=>∀ p,G p=none->q (.ref p) (gup G p (.dit []))
theorem v53 {pos:Pos}:E3 X (.Dict [] [] pos) vy1:=u28 va2 fun σ H Q h=>by
 obtain ⟨σd,G,q,rs,c,t,f⟩:=h;exact fun p hp=>f (.ref p) _ (.ref p) _ (by rw [RelD]) (c.put (o:=.dit []) (Le.fresh hp) ⟨[],u13,rfl,.nil⟩) (Le.fresh hp) (t p (c.fresh hp))
def vx5 (td:TE3) (ta:TA3) (tv:TE3):TS3:=fun Dn σ G=>tv σ G fun v G1=>td σ G1 fun x G2=>ta σ G2 fun ds G3=>∃ (a:Addr) (kvs:List (List Key × D)) (ks:List Key),x=.ref a /\ ds=ks.map kD /\ ds.length<=sizeLine /\ G3 a=some (.dit kvs) /\ kvs.length < sizeLine /\ Dn.nx σ (gup G3 a (.dit (putT kvs ks v)))
theorem uz1 {k:Nat} {o value:Expr} {es:List Expr} {x1:Nat} {pos pos' pt:Pos} {to tv:TE3} {ta:TA3} (hr:Room k X.A) (ho:E3 X o to) (ha:A3 X es ta) (hv:E3 X value tv)
  (hs:swapsWith value (some (.Subscript o (.Tuple es x1 pt) pos')) pos.line X.env=pure false:=by rfl):S3 X (.Assign [.Subscript o (.Tuple es x1 pt) pos'] value pos) (vx5 to ta tv) :=
 ua5 (uz7 (ug4 hr) ho (vj8 ha) hv hs) fun D σ H h=>by
  obtain ⟨σd,G,d,rs,c,t,f⟩:=h;refine ⟨σd,G,_,rs,c,t,fun v G1 w H1 r1 c1 l1 t1=>⟨σd,G1,_,rs.le l1,c1,t1,fun x G2 u H2 r2 c2 l2 t2=>⟨σd,G2,_,rs.le (l1.trans l2),c2,t2,fun ds G3 vs H3 r3 c3 l3 t3=>?_⟩⟩⟩;obtain ⟨a,kvs,ks,rfl,rfl,hz,hg,hl,t4⟩:=t3;have r2':=RelD.le l3 r2;cases r2'.ref_inv;obtain rfl:=u81 r3;refine ⟨by rw [<- r3.length];exact hz,fun b hb=>?_⟩;obtain ⟨ys,e,rp⟩:=c3 a _ hg;have hab:a ≠ b:=u29 e hb;have e':upd H3 b (.tup (ks.map kV)) a=some (.dT ys):=by rw [u10 hab];exact e
  have l4:Le H3 (upd H3 b (.tup (ks.map kV))):=Le.fresh hb;have l5:Le (upd H3 b (.tup (ks.map kV))) (upd (upd H3 b (.tup (ks.map kV))) a (.dT (putK ys ks w))):=Le.dT e';have c4:Con X.K G3 (upd H3 b (.tup (ks.map kV))):=c3.side hb;have lys:ys.length=kvs.length:=by
   have:=congrArg List.length rp.1;rw [List.length_map,List.length_map] at this;exact this.symm
  refine ⟨a,_,rfl,DPut.t e' u13 (by rw [lys];exact hl),?_⟩;refine f.nx _ _ _ _ ((((rs.le l1).le l2).le l3).le (l4.trans l5)) ?_ (l1.trans (l2.trans (l3.trans (l4.trans l5)))) t4;exact c4.put l5 ⟨_,u13,(vq8 (RelD.le (l2.trans (l3.trans l4)) r1) (rp.le l4)).le l5⟩
end
end L3
namespace L2
open PySem PySem.Spec PyProof.Rows
structure CmpIn (prog:Program) (w:World) (A:Around) (P:Nat->Value->Prop) (bt:Nat->Nat->Bool) (no:List Addr) (T:Heap->Prop):Prop where
 keep:∀ h h',T h->(∀ b o,b ∉ no->h.get? b=some o->h'.get? b=some o)->T h'
 cmp:∀ i j x y (s:Shared) (Q:Value->Shared->Prop) (E:Value->Shared->Prop),T s.heap->P i x->P j y->Q (.bool (bt i j)) s->wpAny (model prog w) A (richCompare .Lt x y) Q E s
section
variable {prog:Program} {w:World} {A:Around} {R:Result->Shared->Prop} {it:Addr} {fp wr:List Addr} {n:Nat} {P:Nat->Value->Prop} {St:Nat->Heap->Prop} {T:Heap->Prop} {bt:Nat->Nat->Bool} {S:Addr}
theorem u96:(toString "min" ++ toString ".loop" : String) = "min.loop" := by decide
theorem vb0 (W:Walks prog w A.in1 it fp wr n P St) (C:CmpIn prog w A.in1 P bt (S::wr) T) (hS:S ∉ fp):∀ (m j:Nat) (s:Shared) (x:Value) (c:Nat),m+(j+1)=n->St (j+1) s.heap->T s.heap->P (argBest bt j) x ->
  s.heap.get? S=some { cls:=.type "list",dict:=none,data:=.seq #[x,x] c,slots:=#[] } ->
  (∀ y h' tk,P (argBest bt (n - 1)) y->(∀ b o,b ∉ S::wr->s.heap.get? b=some o->h'.get? b=some o)->R (.ok (.ret y)) { s with heap:=h',toks:=tk })->codeAny (model prog w) A (.builtin "min.loop" ⟨[.ref it,.none,.ref S],[]⟩) R s:=by
 have nw:S ∉ wr:=fun z=>hS (W.sub _ z)
 intro m
 induction m with
 | zero =>
  rintro j s x c hj st tt px hs hR;have ej:j+1=n:=by omega
  (refine codeAny_builtin F.entry_min_loop ?_;rw [Around.under_plainId F.plain_min_loop _])
  (show wpAny _ A.in1 (seqItems? (.ref S) >>= _) _ _ s;refine wpAny_bind (wpAny_seqItems hs rfl ?_))
  show wpAny _ A.in1 (tryCatch (pyNext (.ref it)) _ >>= _) _ _ s
  refine wpAny_bind (wpAny_tryCatch (W.done s _ _ (ej ▸ st) ?_));intro h' tk kp;have hs2:=kp S _ nw hs
  (show wpAny _ A.in1 (updateSeq S (fun _=>#[]) >>= _) _ _ _;refine wpAny_bind ?_)
  refine wpAny_updateSeq hs2 rfl ?_;refine wpAny_bind (wpAny_letGo (wpAny_pure ?_));refine hR x _ tk (by rw [<- ej];exact px) ?_;intro b o hb e;have hb1:b ≠ S:=fun z=>hb (by simp [z])
  exact (Heap.get?_update_other _ _ (Ne.symm hb1)).trans (kp b o (fun z=>hb (List.mem_cons_of_mem _ z)) e)
 | succ m ih =>
  rintro j s x c hj st tt px hs hR
  (refine codeAny_builtin F.entry_min_loop ?_;rw [Around.under_plainId F.plain_min_loop _])
  (show wpAny _ A.in1 (seqItems? (.ref S) >>= _) _ _ s;refine wpAny_bind (wpAny_seqItems hs rfl ?_))
  show wpAny _ A.in1 (tryCatch (pyNext (.ref it)) _ >>= _) _ _ s
  refine wpAny_bind (wpAny_tryCatch (W.item (j+1) s _ _ (by omega) st ?_));intro y h' tk py st' kp;have hs2:=kp S _ nw hs;have tt':T h':=C.keep _ _ tt fun b o hb e=>kp b o (fun z=>hb (List.mem_cons_of_mem _ z)) e
  show wpAny _ A.in1 (tryCatch (holding [y,y] (richCompare .Lt y x >>= _)) _ >>= _) _ _ _
  refine wpAny_bind (wpAny_tryCatch (wpAny_holding (wpAny_bind ?_)));refine C.cmp (j+1) (argBest bt j) y x _ _ _ tt' py px ?_
  (refine wpAny_bind (wpAny_holding (wpAny_truthy_bool ?_));refine wpAny_bind (wpAny_letGo (wpAny_pure ?_)))
  cases hb:bt (j+1) (argBest bt j) with
  | false =>
   (simp only [Bool.false_eq_true,if_false];refine wpAny_bind (wpAny_letGo ?_))
   rw [u96];refine wpAny_pure ⟨plainId_quiet F.plain_min_loop _,?_⟩;refine ih (j+1) _ x c (by omega) st' tt' (by simp only [argBest,hb,Bool.false_eq_true,if_false];exact px) hs2 ?_;intro z h2 tk2 pz kp2;exact hR z h2 tk2 pz fun b o hb e=>kp2 b o hb (kp b o (fun q=>hb (List.mem_cons_of_mem _ q)) e)
  | true =>
   simp only [if_true];refine wpAny_bind ?_;refine wpAny_updateSeq hs2 rfl ?_;refine wpAny_bind (wpAny_letGo ?_);rw [u96];have oth:∀ (f:Obj->Obj) b o,b ≠ S->h'.get? b=some o->(h'.update S f).get? b=some o:=fun f b o hb e=>(Heap.get?_update_other _ _ (Ne.symm hb)).trans e
   refine wpAny_pure ⟨plainId_quiet F.plain_min_loop _,?_⟩;refine ih (j+1) _ y _ (by omega) (W.frame _ _ _ st' fun b hbf o e=>oth _ b o (fun z=>hS (z ▸ hbf)) e) (C.keep _ _ tt' fun b o hb e=>oth _ b o (fun z=>hb (by simp [z])) e) (by simp only [argBest,hb,if_true];exact py) (Heap.get?_update_self _ hs2 rfl) ?_;intro z h2 tk2 pz kp2;exact hR z h2 tk2 pz fun b o hb e=>kp2 b o hb (oth _ b o (fun q=>hb (by simp [q])) (kp b o (fun q=>hb (List.mem_cons_of_mem _ q)) e))
theorem v13 (W:Walks prog w A.in1 it fp wr n P St) (C:CmpIn prog w A.in1 P bt (S::wr) T) (hS:S ∉ fp) (hn:0 < n) {s:Shared} {c:Nat} (st:St 0 s.heap) (tt:T s.heap) (hs:s.heap.get? S=some { cls:=.type "list",dict:=none,data:=.seq #[] c,slots:=#[] })
  (hR:∀ y h' tk,P (argBest bt (n - 1)) y->(∀ b o,b ∉ S::wr->s.heap.get? b=some o->h'.get? b=some o)->R (.ok (.ret y)) { s with heap:=h',toks:=tk }):codeAny (model prog w) A (.builtin "min.loop" ⟨[.ref it,.none,.ref S],[]⟩) R s:=by
 have nw:S ∉ wr:=fun z=>hS (W.sub _ z)
 (refine codeAny_builtin F.entry_min_loop ?_;rw [Around.under_plainId F.plain_min_loop _])
 (show wpAny _ A.in1 (seqItems? (.ref S) >>= _) _ _ s;refine wpAny_bind (wpAny_seqItems hs rfl ?_))
 show wpAny _ A.in1 (tryCatch (pyNext (.ref it)) _ >>= _) _ _ s
 refine wpAny_bind (wpAny_tryCatch (W.item 0 s _ _ hn st ?_));intro y h' tk py st' kp;have hs2:=kp S _ nw hs;have tt':T h':=C.keep _ _ tt fun b o hb e=>kp b o (fun z=>hb (List.mem_cons_of_mem _ z)) e
 have oth:∀ (f:Obj->Obj) b o,b ≠ S->h'.get? b=some o->(h'.update S f).get? b=some o:=fun f b o hb e=>(Heap.get?_update_other _ _ (Ne.symm hb)).trans e
 show wpAny _ A.in1 (updateSeq S (fun _=>#[y,y]) >>= _) _ _ _
 refine wpAny_bind ?_;refine wpAny_updateSeq hs2 rfl ?_;rw [u96];refine wpAny_pure ⟨plainId_quiet F.plain_min_loop _,?_⟩;refine vb0 W C hS (n - 1) 0 _ y _ (by omega) (W.frame _ _ _ st' fun b hbf o e=>oth _ b o (fun z=>hS (z ▸ hbf)) e) (C.keep _ _ tt' fun b o hb e=>oth _ b o (fun z=>hb (by simp [z])) e) py (Heap.get?_update_self _ hs2 rfl) ?_;intro z h2 tk2 pz kp2;exact hR z h2 tk2 pz fun b o hb e=>kp2 b o hb (oth _ b o (fun q=>hb (by simp [q])) (kp b o (fun q=>hb (List.mem_cons_of_mem _ q)) e))
end
theorem uo2:∀ a:List Int,HT.lexLt a a=false
 | []=>rfl
 | x::a=>by rw [HT.lexLt_cons,if_pos rfl];exact uo2 a
theorem vk8:∀ {a b c:List Int},HT.lexLt a b=true->HT.lexLt b c=true->HT.lexLt a c=true
 | [],[],_,h,_=>by rw [HT.lexLt_nil_nil] at h;cases h
 | [],y::b,[],_,h=>by rw [HT.lexLt_cons_nil] at h;cases h
 | [],y::b,z::c,_,_=>rfl
 | x::a,[],_,h,_=>by rw [HT.lexLt_cons_nil] at h;cases h
 | x::a,y::b,[],_,h=>by rw [HT.lexLt_cons_nil] at h;cases h
 | x::a,y::b,z::c,h1,h2=>by
  rw [HT.lexLt_cons] at h1 h2 ⊢;split at h1
  ·rename_i e
   subst e;split at h2
   ·rename_i e
    subst e;rw [if_pos rfl];exact vk8 h1 h2
   ·rename_i e
    rw [if_neg e];exact h2
  ·rename_i e
   split at h2
   ·rename_i e2
    subst e2;rw [if_neg e];exact h1
   ·have a1:=of_decide_eq_true h1
    have a2:=of_decide_eq_true h2;rw [if_neg (by omega)];exact decide_eq_true (by omega)
theorem uu3 (f:Nat->List Int):∀ k,argBest (fun i j=>HT.lexLt (f i) (f j)) k<=k /\ ∀ j,j<=k->HT.lexLt (f j) (f (argBest (fun i j=>HT.lexLt (f i) (f j)) k))=false
 | 0=>⟨Nat.le_refl _,fun j hj=>by (have:j=0:=by omega);subst this;exact uo2 _⟩
 | k+1=>by
  obtain ⟨i1,i2⟩:=uu3 f k;rw [argBest];split
  ·rename_i h
   refine ⟨Nat.le_refl _,fun j hj=>?_⟩
   by_cases e:j=k+1
   ·subst e;exact uo2 _
   ·cases q:HT.lexLt (f j) (f (k+1)) with
    | false=>rfl
    | true =>
     have:=vk8 q h;rw [i2 j (by omega)] at this;cases this
  ·rename_i h
   refine ⟨by omega,fun j hj=>?_⟩
   by_cases e:j=k+1
   ·subst e;simpa using h
   ·exact i2 j (by omega)
section
variable {X:Cx}
theorem v69 (hc:X.calm=true) (hu:X.A.units+1 < cLine):CallR X (.builtin "min") (fun xs H Q=>∃ (p:Addr) (tp:List (Addr × List Int)),xs=[.ref p] /\ SqL X.K H p (tp.map fun t=>V.ref t.1) /\ (∀ t ∈ tp,SqT X.K H t.1 (t.2.map V.int)) /\ 0 < tp.length /\
  ∀ t ∈ tp,(∀ u ∈ tp,HT.lexLt u.2 t.2=false)->Q (.ref t.1) H):=by
 intro pins s σ H xs us Q I r h;obtain ⟨p,tp,rfl,hq,ht,hne,q⟩:=h;obtain ⟨u,rfl,rx⟩:=vals1 r;cases rx;obtain ⟨its,r',pl,hz⟩:=I.list hq;have hlen:=r'.length;rw [List.length_map] at hlen;have hit:∀ i x,its[i]?=some x->∃ t ∈ tp,tp[i]?=some t /\ x=Value.ref t.1:=fun i x e=>by
  have hi:i < its.length:=(List.getElem?_eq_some_iff.mp e).1;have e1:(tp.map fun t=>V.ref t.1)[i]?=some (V.ref (tp[i]'(by omega)).1):=by rw [List.getElem?_map,List.getElem?_eq_getElem (by omega)];rfl
  obtain ⟨y,ey,ry⟩:=r'.get e1;rw [e] at ey;cases ey;exact ⟨tp[i]'(by omega),List.getElem_mem _,List.getElem?_eq_getElem _,ry⟩
 have hlp:p < s.heap.objs.size:=by obtain ⟨o,e,_⟩:=pl.isList;exact Heap.lt_size e
 (refine call_function_tree F.kind_min F.plain_min F.entry_min (F.args_min1 _) ?_;show wpAny _ X.A.in1 (Builtin.Builtins.bindParams "min" ["key", "default"] 0 ⟨[],[]⟩ >>= _) _ _ s)
 (refine wpAny_bind (wpAny_of_eq (show Builtin.Builtins.bindParams "min" ["key", "default"] 0 ⟨[],[]⟩=pure [none,none] from rfl) ?_);refine wpAny_bind (wpAny_pure ?_))
 refine wpAny_bind (wpAny_pyIter_list pl.isList ?_)
 (refine wpAny_bind (wpAny_newObj_type ?_);rw [u96])
 obtain ⟨f,hf⟩:∃ f:Nat->List Int,f=fun i=>((tp[i]?).map (·.2)).getD []:=⟨_,rfl⟩
 have tkeep:∀ {h':Heap},(∀ b o,s.heap.get? b=some o->h'.get? b=some o)->∀ t ∈ tp,∃ vs:List Value,IsTup h' t.1 vs.toArray /\ IntsAre vs t.2:=fun {h'} kp t htm=>by
  obtain ⟨vs,rv,⟨o,e,c,n,d⟩,_⟩:=I.tuple (ht t htm);exact ⟨vs,⟨o,kp _ _ e,c,n,d⟩,intsAre_of rv⟩
 have tlt:∀ t ∈ tp,t.1 < s.heap.objs.size:=fun t htm=>by
  obtain ⟨vs,rv,⟨o,e,c,n,d⟩,_⟩:=I.tuple (ht t htm);exact Heap.lt_size e
 have hh:X.A.handled=none:=I.ok.hd hc;have W:=Walks.list (prog:=X.prog) (w:=X.w) (A:=X.A.in1) hh s.heap.objs.size p (Nat.ne_of_lt hlp) its.toArray;have s1:(s.heap.push { cls:=Value.type "list_iterator",data:=Data.fields #[Value.ref p,Value.int 0 0] }).objs.size=s.heap.objs.size+1:=Heap.size_push _ _;have pat:∀ i x,its.toArray[i]?=some x->∃ t ∈ tp,x=Value.ref t.1 /\ f i=t.2:=fun i x e=>by
  rw [List.getElem?_toArray] at e;obtain ⟨t,htm,e1,e2⟩:=hit i x e;exact ⟨t,htm,e2,by rw [hf];show ((tp[i]?).map (·.2)).getD []=_;rw [e1];rfl⟩
 have C:CmpIn X.prog X.w X.A.in1 (fun i v=>its.toArray[i]?=some v) (fun i j=>HT.lexLt (f i) (f j)) [s.heap.objs.size+1,s.heap.objs.size] (fun h'=>∀ t ∈ tp,∃ vs:List Value,IsTup h' t.1 vs.toArray /\ IntsAre vs t.2):=by
  refine ⟨fun h1 h2 tt kp t htm=>?_,fun i j x y s' Q' E' tt px py q'=>?_⟩
  ·obtain ⟨vs,⟨o,e,c,n,d⟩,iv⟩:=tt t htm
   have:=tlt t htm;exact ⟨vs,⟨o,kp _ _ (fun z=>by
    rcases List.mem_cons.mp z with z | z
    ·exact Nat.ne_of_lt (Nat.lt_succ_of_lt this) z
    ·exact Nat.ne_of_lt this (by simpa using z)) e,c,n,d⟩,iv⟩
  ·obtain ⟨t1,m1,rfl,f1⟩:=pat i x px
   obtain ⟨t2,m2,rfl,f2⟩:=pat j y py;obtain ⟨vs1,p1,i1⟩:=tt t1 m1;obtain ⟨vs2,p2,i2⟩:=tt t2 m2
   show wpAny _ X.A.in1 (compareOp .Lt (.ref t1.1) (.ref t2.1)) Q' E' s'
   refine HT.lt_tupInts p1 p2 (by simpa using i1) (by simpa using i2) (show X.A.units+1 < cLine from hu) ?_;have q':Q' (.bool (HT.lexLt (f i) (f j))) s':=q';rw [f1,f2] at q';exact q'
 refine wpAny_pure ⟨plainId_quiet F.plain_min_loop _,?_⟩;have nS:(s.heap.push { cls:=Value.type "list_iterator",data:=Data.fields #[Value.ref p,Value.int 0 0] }).objs.size ∉ [s.heap.objs.size,p]:=fun z=>by
  rw [s1] at z
  rcases List.mem_cons.mp z with z | z
  ·exact Nat.succ_ne_self _ z
  ·have z:s.heap.objs.size+1=p:=by simpa using z
   exact Nat.ne_of_lt (Nat.lt_succ_of_lt hlp) z.symm
 have kp0:∀ b o,s.heap.get? b=some o->((s.heap.push { cls:=Value.type "list_iterator",data:=Data.fields #[Value.ref p,Value.int 0 0] }).push { cls:=Value.type "list",data:=Data.seq #[] }).get? b=some o:=fun b o e=>Heap.get?_push_of_some _ (Heap.get?_push_of_some _ e)
 refine v13 (n:=its.toArray.size) W (by rw [s1];exact C) nS (by simp;omega) ?_ (tkeep kp0) (Heap.get?_push_size _ rfl) ?_
 ·exact W.frame 0 _ _ ⟨⟨_,Heap.get?_push_size _ rfl,rfl,rfl⟩,pl.isList.push _⟩ fun b _ o e=>Heap.get?_push_of_some _ e
 ·intro y h' tk py kp
  obtain ⟨t,htm,rfl,ft⟩:=pat _ y py;have kp1:∀ b o,s.heap.get? b=some o->h'.get? b=some o:=fun b o e=>kp b o (fun z=>by
   rw [s1] at z;have:=Heap.lt_size e
   rcases List.mem_cons.mp z with z | z
   ·exact Nat.ne_of_lt (Nat.lt_succ_of_lt this) z
   ·exact Nat.ne_of_lt this (by simpa using z)) (kp0 b o e)
  refine ⟨.ref t.1,H,I.kept kp1,rfl,q t htm fun u hum=>?_⟩;obtain ⟨j,hj,ej⟩:=List.mem_iff_getElem.mp hum;have fj:f j=u.2:=by rw [hf];show ((tp[j]?).map (·.2)).getD []=_;rw [List.getElem?_eq_getElem hj,ej];rfl
  have:=(uu3 f (its.toArray.size - 1)).2 j (by simp;omega);rw [ft,fj] at this;exact this
end
end L2
namespace L3
open PySem PySem.Spec PyProof.Rows L2
section
variable {X:Cx} {K:W.Frag}
@[reducible] def wh8:C3:=fun ds G q=>∃ (a:Addr) (ts:List (List Int)),ds=[.ref a] /\ u11 (G a)=some (ts.map fun t=>.tup (t.map .int)) /\ 0 < ts.length /\ ∀ t ∈ ts,(∀ u ∈ ts,HT.lexLt u t=false)->q (.tup (t.map .int)) G
theorem us9 {H:Hp}:∀ {ns:List Int} {xs:List V},RelDs K H (ns.map D.int) xs->xs=ns.map V.int
 | [],xs,r=>r.inv_nil
 | n::ns,xs,r=>by
  obtain ⟨x,xs',rfl,h1,h2⟩:=r.inv_cons;rw [h1.int_inv,us9 h2];rfl
theorem ur4 {H:Hp}:∀ ns:List Int,RelDs K H (ns.map D.int) (ns.map V.int)
 | []=>.nil
 | _::ns=>.cons RelD.intI (ur4 ns)
theorem uq6 {H:Hp}:∀ {ts:List (List Int)} {xs:List V},RelDs K H (ts.map fun t=>D.tup (t.map .int)) xs->∃ tp:List (Addr × List Int),tp.map (·.2)=ts /\ xs=tp.map (fun t=>V.ref t.1) /\ ∀ t ∈ tp,SqT K H t.1 (t.2.map V.int)
 | [],xs,r=>⟨[],rfl,r.inv_nil,fun t h=>by simp at h⟩
 | t::ts,xs,r=>by
  obtain ⟨x,xs',rfl,h1,h2⟩:=r.inv_cons;obtain ⟨a,ys,rfl,s1,q1⟩:=h1.tup_inv;obtain rfl:=us9 q1;obtain ⟨tp,e1,rfl,e3⟩:=uq6 h2;refine ⟨(a,t)::tp,by rw [List.map_cons,e1],rfl,fun u hu=>?_⟩
  rcases List.mem_cons.mp hu with e | hu
  ·subst e;exact s1
  ·exact e3 u hu
theorem vg0 {k:Nat} (hr:Room k X.A) (hc:X.calm=true:=by rfl):Call3 X (.builtin "min") wh8:=u33 (v69 hc (ug4 hr)) <| by
 rintro xs H Q ⟨ds,G,q,r,c,t,f⟩;obtain ⟨a,ts,rfl,hs,hl,t⟩:=t;obtain ⟨v,rfl,r1⟩:=r.one;cases r1.ref_inv;obtain ⟨ys,s1,q1⟩:=u31 c hs;obtain ⟨tp,e1,rfl,e3⟩:=uq6 q1;refine ⟨a,tp,rfl,s1,e3,by rw [<- e1,List.length_map] at hl;exact hl,fun u hu hm=>?_⟩;have hu':u.2 ∈ ts:=by rw [<- e1];exact List.mem_map.mpr ⟨u,hu,rfl⟩
 refine f (.tup (u.2.map .int)) G (.ref u.1) H ?_ c (Le.refl H) (t u.2 hu' fun w hw=>?_)
 ·rw [RelD]
  exact ⟨u.1,_,rfl,e3 u hu,ur4 u.2⟩
 ·rw [<- e1] at hw
  obtain ⟨z,hz,rfl⟩:=List.mem_map.mp hw;exact hm z hz
end
end L3
namespace L2
open PySem PySem.Spec PyProof.Rows
def uq8 (ta:TA):TE:=fun σ H Q=>ta σ H fun vs H1=>∃ i j:Int,vs=[.int i,.int j] /\ (-1000000<=i /\ i<=1000000 /\ -1000000<=j /\ j<=1000000) /\ ∀ l,H1 l=none->Q (.ref l) (upd H1 l (.lst ((List.range (j - i).toNat).map fun k:Nat=>V.int (i+k))))
theorem ve9:bootBuiltins "list" = some (.type "list"):=by decide
theorem uv1 {X:Cx} {a b:Expr} {ta:TA} {p p2 pos pos2:Pos} {k:Nat} (hr:Room k X.A) (hg:Gl X "range") (hm:X.mg "range" = none) (hg2:Gl X "list") (hm2:X.mg "list" = none) (ha:PA X [a,b] ta)
  (hs:starEach [a,b] X.env=[(false,eval a X.env),(false,eval b X.env)]:=by rfl) (hs1:starEach [b] X.env=[(false,eval b X.env)]:=by rfl)
  (hs2:starEach [.Call (.Name "range" p) [a,b] [] pos] X.env=[(false,eval (.Call (.Name "range" p) [a,b] [] pos) X.env)]:=by rfl) :
  PE X (.Call (.Name "list" p2) [.Call (.Name "range" p) [a,b] [] pos] [] pos2) (uq8 ta):=by
 intro pins s σ H Q I h;refine wpAny_Call_Name_kw (u70 I hg2 hm2 ve9 ?_);refine PyProof.Rows.callWith_type1 ?_ hs2 rfl;rw [hs2]
 show wpAny _ _ (spliced ((false,eval (.Call (.Name "range" p) [a,b] [] pos) X.env)::backTo pos2 [])) _ _ s
 refine Calls.spliced_cons ?_;refine wpAny_Call_Name_kw (u70 I hg hm boot_range (PyProof.Rows.callWith_type1 (thn (ha pos pins s σ H _ I h) fun us s1 ⟨vs,H1,I1,r1,q1⟩=>?_) (by rw [hs,hs1]) (by rw [hs1];rfl)));obtain ⟨i,j,e,⟨b1,b2,b3,b4⟩,q⟩:=q1;subst e;cases r1 with
 | cons r rr =>
  cases rr with
  | cons r2 rr =>
   cases rr;obtain ⟨t,rfl⟩:=r;obtain ⟨t2,rfl⟩:=r2;refine call_range_2 ?_;refine Calls.spliced_nil ?_;have hn:Builtin.Range.rangeSize i j 1=(((j - i).toNat:Nat):Int):=by rw [rangeSize_one];split <;> omega
   refine call_list_range (hh:=hr.hd) (IsRange.new ..) (small_one (by omega) (by omega) (by omega) (by omega)) hn (by omega) fun h' tk acc c kp hnew hit=>?_
   have kp':∀ b o,s1.heap.get? b=some o->h'.get? b=some o:=fun b o e=>kp b o (Heap.get?_push_of_some _ e)
   have hv:Vals ((List.range (j - i).toNat).map fun k:Nat=>V.int (i+k)) acc.toList:=by
    have hz:acc.size=(j - i).toNat:=hit.1;have key:∀ (m:Nat) (l:List Value),(∀ (y:Nat) v,l[y]?=some v->∃ t,v=.int (i+(y:Int)) t)->l.length=m->Vals ((List.range m).map fun k:Nat=>V.int (i+k)) l:=by
     intro m
     induction m with
     | zero=>intro l _ hl;have:l=[]:=List.eq_nil_of_length_eq_zero hl;subst this;exact .nil
     | succ m ih =>
      intro l hl hz
      rcases List.eq_nil_or_concat l with e | ⟨l',v,e⟩
      ·subst e;simp at hz
      ·rw [List.concat_eq_append] at e
       subst e;have hz':l'.length=m:=by simpa using hz
       rw [List.range_succ,List.map_append];refine (ih l' (fun y v e=>hl y v ?_) hz').append (.cons ?_ .nil)
       ·rw [List.getElem?_append_left (List.getElem?_eq_some_iff.mp e).1];exact e
       ·obtain ⟨t,e⟩:=hl m v (by rw [<- hz'];simp)
        exact ⟨t,e⟩
    refine key _ acc.toList (fun y v e=>?_) (by simpa using hz);obtain ⟨t,e⟩:=hit.2 y v (by simpa using e);exact ⟨t,by rw [e,Int.mul_one]⟩
   have hll:((List.range (j - i).toNat).map fun k:Nat=>V.int (i+k)).length<=sizeLine:=by
    rw [List.length_map,List.length_range];exact Nat.le_of_lt (Nat.lt_of_le_of_lt (m:=3000000) (by omega) (by decide))
   have I2:=I1.laid (h':=h') (a:=s1.heap.objs.size+1) (o:=.lst ((List.range (j - i).toNat).map fun k:Nat=>V.int (i+k))) (t':=tk) kp' (Nat.le_succ _) ⟨hll,acc.toList,c,hv,by simpa using hnew⟩;exact ⟨_,_,I2,by simp;rfl,q _ (I1.hok.fresh (Nat.le_succ _))⟩
end L2
namespace L3
open PySem PySem.Spec PyProof.Rows L2
def ua0 (t:TA3):TE3:=fun σ G q=>t σ G fun ds G1=>match ds with
 | [.int i,.int j]=>(-1000000<=i /\ i<=1000000 /\ -1000000<=j /\ j<=1000000) /\ ∀ p,G1 p=none->q (.ref p) (gup G1 p (.lst (rngD i (j - i).toNat)))
 | _=>False
theorem uz4 {K:W.Frag} {H:Hp} {i:Int}:∀ l:List Nat,RelDs K H (l.map fun k:Nat=>D.int (i+k)) (l.map fun k:Nat=>V.int (i+k))
 | []=>.nil
 | _::l=>.cons RelD.intI (uz4 l)
theorem un9 {K:W.Frag} {t:TA3} {σ:L2.St} {H:Hp} {Q:VK} (h:lowE K (ua0 t) σ H Q):uq8 (lowA K t) σ H Q:=by
 obtain ⟨σd,G,q,rs,c,t,f⟩:=h;refine ⟨σd,G,_,rs,c,t,fun ds G1 vs H1 r1 c1 l1 t1=>?_⟩;split at t1
 ·rename_i i j
  obtain ⟨x,y,rfl,x1,x2⟩:=r1.two;cases x1.int_inv;cases x2.int_inv;exact ⟨i,j,rfl,t1.1,fun p hp=>f _ _ _ _ RelD.refI (c1.lstNew hp (uz4 _)) (l1.trans (Le.fresh hp)) (t1.2 p (c1.fresh hp))⟩
 ·exact t1.elim
theorem uk8 {X:Cx} {a b:Expr} {ts:TA3} {p p2 pos pos2:Pos} {k:Nat} (hr:Room k X.A) (hg:Gl X "range") (hm:X.mg "range" = none) (hg2:Gl X "list") (hm2:X.mg "list" = none) (ha:A3 X [a,b] ts)
  (hs:starEach [a,b] X.env=[(false,eval a X.env),(false,eval b X.env)]:=by rfl) (hs1:starEach [b] X.env=[(false,eval b X.env)]:=by rfl)
  (hs2:starEach [.Call (.Name "range" p) [a,b] [] pos] X.env=[(false,eval (.Call (.Name "range" p) [a,b] [] pos) X.env)]:=by rfl) :
  E3 X (.Call (.Name "list" p2) [.Call (.Name "range" p) [a,b] [] pos] [] pos2) (ua0 ts):=u28 (uv1 hr hg hm hg2 hm2 ha hs hs1 hs2) fun _ _ _=>un9
end L3
namespace L3
open PySem PySem.Spec PyProof.Rows L2 Rw
def k3 (p b e:Nat):List Key:=[.inl (p:Int),.inl (b:Int),.inl (e:Int)]
def k2 (p b:Nat):List Key:=[.inl (p:Int),.inl (b:Int)]
theorem vl1 {p b e p' b' e':Nat} (h:k3 p b e=k3 p' b' e'):p=p' /\ b=b' /\ e=e':=by
 unfold k3 at h;simp at h;omega
theorem wc9 {p b p' b':Nat} (h:k2 p b=k2 p' b'):p=p' /\ b=b':=by
 unfold k2 at h;simp at h;omega
theorem vd3 {kvs:List (List Key × D)} {k k':List Key} {v:D} (hn:(kvs.any fun kv=>decide (kv.1=k))=false):valD (kvs++[(k,v)]) k'=if k'=k then some v else valD kvs k':=by
 induction kvs with
 | nil =>
  by_cases h:k'=k
  ·subst h;simp [valD]
  ·rw [if_neg h]
   have:¬ k=k':=fun z=>h z.symm
   simp [valD,this]
 | cons q r ih =>
  rw [List.any_cons,Bool.or_eq_false_iff] at hn;have hq:¬ q.1=k:=of_decide_eq_false hn.1;have ih:=ih hn.2
  by_cases h1:q.1=k'
  ·have h2:¬ k'=k:=fun z=>hq (h1.trans z)
   rw [if_neg h2];simp [valD,List.find?_cons,h1]
  ·have e1:valD (q::r++[(k,v)]) k'=valD (r++[(k,v)]) k':=by simp [valD,List.find?_cons,h1]
   have e2:valD (q::r) k'=valD r k':=by simp [valD,List.find?_cons,h1]
   rw [e1,e2,ih]
theorem ui7 {kvs:List (List Key × D)} {k:List Key} (h:valD kvs k=none):(kvs.any fun kv=>decide (kv.1=k))=false:=by
 unfold valD at h;rw [Option.map_eq_none_iff] at h;rw [List.any_eq_false];intro x hx;have:=List.find?_eq_none.mp h x hx;simpa using this
theorem um9 {kvs:List (List Key × D)} {k k':List Key} {v:D} (h:valD kvs k=none):valD (putT kvs k v) k'=if k'=k then some v else valD kvs k':=by
 have hn:=ui7 h;unfold putT;rw [if_neg (by rw [hn];decide)];exact vd3 hn
theorem v33 {kvs:List (List Key × D)} {k:List Key} {v:D} (h:valD kvs k=none):(putT kvs k v).length=kvs.length+1:=by
 have hn:=ui7 h;unfold putT;rw [if_neg (by rw [hn];decide)];simp
def mA (p b e m:Nat):Prop:=if e - b=1 then m=e else 2<=p /\ b < m /\ m < e /\ m - b<=cap (p - 1) true /\ e - m<=cap (p - 1) true
def mR (n p b m:Nat):Prop:=if n - b=1 then m=n else 2<=p /\ b < m /\ m < n /\ m - b<=cap p true /\ n - m<=cap (p - 1) false
def vD (w:Int) (m:Nat):D:=.tup [.int w,.int (m:Int)]
def TA (Dm:Nat->Nat->Nat->Prop) (kvs:List (List Key × D)):Prop:=∀ p b e,(Dm p b e->∃ w m,valD kvs (k3 p b e)=some (vD w m) /\ mA p b e m) /\ (¬ Dm p b e->valD kvs (k3 p b e)=none)
def inA (n s p b e:Nat):Prop:=1<=p /\ p<=s /\ b < e /\ e<=n /\ e - b<=cap p true
def inR (n s p b:Nat):Prop:=1<=p /\ p<=s /\ b < n /\ n - b<=cap p false
def upA (n P M B p b e:Nat):Prop:=inA n P p b e /\ (p < P \/ e - b < M \/ (e - b=M /\ b < B))
def upR (n P M p b:Nat):Prop:=inR n P p b /\ (p < P \/ n - b < M)
theorem TA.congr {D1 D2:Nat->Nat->Nat->Prop} {kvs:List (List Key × D)} (h:TA D1 kvs) (e:∀ p b e,D1 p b e ↔ D2 p b e):TA D2 kvs:=fun p b e'=>⟨fun z=>(h p b e').1 ((e p b e').mpr z),fun z=>(h p b e').2 fun q=>z ((e p b e').mp q)⟩
theorem TA.put {Dm:Nat->Nat->Nat->Prop} {kvs:List (List Key × D)} {p b e m:Nat} {w:Int} (h:TA Dm kvs) (hn:¬ Dm p b e) (hm:mA p b e m):TA (fun p' b' e'=>Dm p' b' e' \/ (p'=p /\ b'=b /\ e'=e)) (putT kvs (k3 p b e) (vD w m)):=by
 intro p' b' e';rw [um9 ((h p b e).2 hn)]
 by_cases hk:k3 p' b' e'=k3 p b e
 ·obtain ⟨rfl,rfl,rfl⟩:=vl1 hk
  rw [if_pos rfl];exact ⟨fun _=>⟨w,m,rfl,hm⟩,fun z=>absurd (.inr ⟨rfl,rfl,rfl⟩) z⟩
 ·rw [if_neg hk]
  refine ⟨fun z=>(h p' b' e').1 (z.resolve_right fun q=>hk ?_),fun z=>(h p' b' e').2 fun q=>z (.inl q)⟩;obtain ⟨rfl,rfl,rfl⟩:=q;rfl
theorem uh8 {p:Nat} (h:2<=p):cap p true=2 * cap (p - 1) true /\ cap p false=cap p true+cap (p - 1) false:=by
 obtain ⟨q,rfl⟩:∃ q,p=q+2:=⟨p - 2,by omega⟩;have:=Nat.two_pow_pos q
 show 2 ^ (q+1)=2 * 2 ^ q /\ 2 ^ (q+2) - 1=2 ^ (q+1)+(2 ^ (q+1) - 1)
 rw [Nat.pow_succ,Nat.pow_succ,Nat.pow_succ];omega
theorem v68 {b:Bool}:cap 1 b=1:=by cases b <;> rfl
theorem v86 {n P M B p b e:Nat}:upA n P M (B+1) p b e ↔ upA n P M B p b e \/ (p=P /\ b=B /\ e=B+M /\ inA n P P B (B+M)):=by
 unfold upA inA
 constructor
 ·rintro ⟨h1,h2⟩
  by_cases h:p < P \/ e - b < M \/ (e - b=M /\ b < B)
  ·exact .inl ⟨h1,h⟩
  ·right
   have e1:p=P:=by omega
   have e2:b=B:=by omega
   have e3:e=B+M:=by omega
   subst e1;subst e2;subst e3;exact ⟨rfl,rfl,rfl,h1⟩
 ·rintro (⟨h1,h2⟩ | ⟨rfl,rfl,rfl,h⟩)
  ·exact ⟨h1,by omega⟩
  ·refine ⟨h,?_⟩
   have:b+M - b=M:=by omega
   omega
theorem v14 {b e x y:Nat} (h1:b+2<=e) (h2:e<=b+(x+y)) (hx:1<=x) (hy:1<=y):∃ L C:Nat,(if (e:Int) - (y:Int) > (b:Int)+1 then (e:Int) - (y:Int) else (b:Int)+1)=(L:Int) /\ ((if (b:Int)+(x:Int) < (e:Int) - 1 then (b:Int)+(x:Int) else (e:Int) - 1)+1 - (L:Int)).toNat=C+1 /\
  (∀ m,L<=m->m < L+(C+1)->b < m /\ m < e /\ m - b<=x /\ e - m<=y) /\ L<=e /\ (if (b:Int)+(x:Int) < (e:Int) - 1 then (b:Int)+(x:Int) else (e:Int) - 1)<=(e:Int) /\ 0<=(if (b:Int)+(x:Int) < (e:Int) - 1 then (b:Int)+(x:Int) else (e:Int) - 1):=by
 obtain ⟨L,l1,l2,l3⟩:∃ L:Nat,b+1<=L /\ e<=L+y /\ (L=b+1 \/ L+y=e):=if c:b+1+y<=e then ⟨e - y,by omega,by omega,.inr (by omega)⟩ else ⟨b+1,Nat.le_refl _,by omega,.inl rfl⟩
 obtain ⟨U,u1,u2,u3⟩:∃ U:Nat,U+1<=e /\ U<=b+x /\ (U=b+x \/ U+1=e):=if c:b+x+1<=e then ⟨b+x,c,Nat.le_refl _,.inl rfl⟩ else ⟨e - 1,by omega,by omega,.inr (by omega)⟩
 have e1:(if (e:Int) - (y:Int) > (b:Int)+1 then (e:Int) - (y:Int) else (b:Int)+1)=(L:Int):=by (clear u1 u2 u3 h2;split <;> omega)
 have e2:(if (b:Int)+(x:Int) < (e:Int) - 1 then (b:Int)+(x:Int) else (e:Int) - 1)=(U:Int):=by (clear l1 l2 l3 h2 e1;split <;> omega)
 have lu:L<=U:=by (clear e1 e2;omega)
 rw [e1,e2];exact ⟨L,U - L,rfl,by (clear e1 e2 l3 u3 h2 l1 l2 u1 u2;omega),fun m h3 h4=>⟨by omega,by omega,by omega,by omega⟩,by omega,by omega,by omega⟩
inductive Pa (c:Nat->Int):Nat->Nat->Nat->Int->Prop
 | one {p b:Nat}:Pa c (p+1) b (b+1) (c b)
 | two {p b m e:Nat} {w1 w2 w3:Int}:Pa c (p+1) b m w1->Pa c p m e w2->Pa c p b m w3->Pa c (p+1) b e (w1+w2+w3)
inductive Pr (c:Nat->Int) (n:Nat):Nat->Nat->Int->Prop
 | one {p b:Nat}:b+1=n->Pr c n (p+1) b (c b)
 | two {p b m:Nat} {w1 w2:Int}:Pa c (p+1) b m w1->Pr c n p m w2->Pr c n (p+1) b (w1+w2)
variable {c c':Nat->Int} {n p b e:Nat} {w:Int}
theorem Pa.lt (h:Pa c p b e w):b < e /\ 1<=p:=by
 induction h with
 | one=>omega
 | two _ _ _ i1 i2 i3=>omega
theorem Pr.lt (h:Pr c n p b w):b < n /\ 1<=p:=by
 induction h with
 | one=>omega
 | two h1 _ i=>have:=h1.lt;omega
theorem Pa.cap (h:Pa c p b e w):e - b<=L3.cap p true:=by
 induction h with
 | @one p b=>have:=u92 (s:=p+1) (b:=true) (by omega);omega
 | @two p b m e w1 w2 w3 h1 h2 h3 i1 i2 i3 =>
  have q:=(uh8 (p:=p+1) (by have:=h2.lt;omega)).1;rw [show p+1 - 1=p by omega] at q;omega
theorem Pr.cap (h:Pr c n p b w):n - b<=L3.cap p false:=by
 induction h with
 | @one p b h=>have:=u92 (s:=p+1) (b:=false) (by omega);omega
 | @two p b m w1 w2 h1 h2 i2 =>
  have q:=(uh8 (p:=p+1) (by have:=h2.lt;omega)).2;rw [show p+1 - 1=p by omega] at q;have:=h1.cap;omega
theorem Pa.more (h:Pa c p b e w):Pa c (p+1) b e w:=by
 induction h with
 | one=>exact .one
 | two _ _ _ i1 i2 i3=>exact .two i1 i2 i3
theorem Pr.more (h:Pr c n p b w):Pr c n (p+1) b w:=by
 induction h with
 | one h=>exact .one h
 | two h1 _ i2=>exact .two h1.more i2
theorem Pa.pos (hc:∀ i,0<=c i) (h:Pa c p b e w):0<=w:=by
 induction h with
 | one=>exact hc _
 | two _ _ _ i1 i2 i3=>omega
theorem Pa.pr (hc:∀ i,0<=c i) (h:Pa c p b e w):∃ v,Pr c e p b v /\ v<=w:=by
 induction h with
 | one=>exact ⟨_,.one rfl,Int.le_refl _⟩
 | two h1 _ h3 i1 i2 i3 =>
  obtain ⟨v2,q2,r2⟩:=i2;have:=h3.pos hc;exact ⟨_,.two h1 q2,by omega⟩
theorem Pr.last (hc:∀ i,0<=c i) {N:Nat} (h:Pr c N p b w):∀ n,N=n+1->b < n->∃ v,Pr c n p b v /\ v+c n<=w:=by
 induction h with
 | one h=>intro n e hb;omega
 | @two p b m w1 w2 h1 h2 i2 =>
  intro n e hb;subst e
  rcases Nat.lt_or_ge m n with z | z
  ·obtain ⟨v,q,r⟩:=i2 n rfl z
   exact ⟨w1+v,.two h1 q,by omega⟩
  ·have hm:m=n:=by have:=h2.lt;omega
   subst hm;obtain ⟨v,q,r⟩:=h1.pr hc;refine ⟨v,q,?_⟩;have hw:w2=c m:=by
    cases h2 with
    | one _=>rfl
    | two h3 h4=>have:=h3.lt;have:=h4.lt;omega
   omega
def LeastA (c:Nat->Int) (p b e:Nat) (w:Int):Prop:=Pa c p b e w /\ ∀ v,Pa c p b e v->w<=v
def LeastR (c:Nat->Int) (n p b:Nat) (w:Int):Prop:=Pr c n p b w /\ ∀ v,Pr c n p b v->w<=v
theorem LeastA.one {p b:Nat}:LeastA c (p+1) b (b+1) (c b):=by
 refine ⟨.one,fun v h=>?_⟩;generalize he:b+1=e at h;cases h with
 | one=>exact Int.le_refl _
 | two h1 h2 _=>have:=h1.lt;have:=h2.lt;omega
theorem LeastR.one {p b:Nat}:LeastR c (b+1) (p+1) b (c b):=by
 refine ⟨.one rfl,fun v h=>?_⟩;cases h with
 | one _=>exact Int.le_refl _
 | two h1 h2=>have:=h1.lt;have:=h2.lt;omega
theorem LeastA.two {p b e:Nat} {w:Int} (hb:b+1 < e) (hw:∃ m w1 w2 w3,LeastA c (p+1) b m w1 /\ LeastA c p m e w2 /\ LeastA c p b m w3 /\ w=w1+w2+w3)
  (hl:∀ m,b < m->m < e->m - b<=L3.cap p true->e - m<=L3.cap p true->∃ w1 w2 w3,LeastA c (p+1) b m w1 /\ LeastA c p m e w2 /\ LeastA c p b m w3 /\ w<=w1+w2+w3):LeastA c (p+1) b e w:=by
 obtain ⟨m,w1,w2,w3,h1,h2,h3,rfl⟩:=hw;refine ⟨.two h1.1 h2.1 h3.1,fun v h=>?_⟩;cases h with
 | one=>omega
 | @two _ _ m' _ u1 u2 u3 q1 q2 q3 =>
  obtain ⟨x1,x2,x3,y1,y2,y3,y⟩:=hl m' q1.lt.1 q2.lt.1 q3.cap q2.cap;have:=y1.2 _ q1;have:=y2.2 _ q2;have:=y3.2 _ q3;omega
theorem LeastR.two {n p b:Nat} {w:Int} (hb:b+1 < n) (hw:∃ m w1 w2,LeastA c (p+1) b m w1 /\ LeastR c n p m w2 /\ w=w1+w2)
  (hl:∀ m,b < m->m < n->m - b<=L3.cap (p+1) true->n - m<=L3.cap p false->∃ w1 w2,LeastA c (p+1) b m w1 /\ LeastR c n p m w2 /\ w<=w1+w2):LeastR c n (p+1) b w:=by
 obtain ⟨m,w1,w2,h1,h2,rfl⟩:=hw;refine ⟨.two h1.1 h2.1,fun v h=>?_⟩;cases h with
 | one h=>omega
 | @two _ _ m' u1 u2 q1 q2 =>
  obtain ⟨x1,x2,y1,y2,y⟩:=hl m' q1.lt.1 q2.lt.1 q1.cap q2.cap;have:=y1.2 _ q1;have:=y2.2 _ q2;omega
theorem Pa.congr (h:Pa c p b e w):(∀ i,i < e->c i=c' i)->Pa c' p b e w:=by
 induction h with
 | @one p b=>intro hc;rw [hc b (by omega)];exact .one
 | two h1 h2 h3 i1 i2 i3 =>
  intro hc;have:=h2.lt;exact .two (i1 fun i hi=>hc i (by omega)) (i2 hc) (i3 fun i hi=>hc i (by omega))
theorem Pr.congr (h:Pr c n p b w):(∀ i,i < n->c i=c' i)->Pr c' n p b w:=by
 induction h with
 | @one p b hb=>intro hc;rw [hc b (by omega)];exact .one hb
 | two h1 h2 i2 =>
  intro hc;have:=h2.lt;exact .two (h1.congr fun i hi=>hc i (by omega)) (i2 hc)
theorem LeastA.congr (h:LeastA c p b e w) (hc:∀ i,i < e->c i=c' i):LeastA c' p b e w :=
 ⟨h.1.congr hc,fun v hv=>h.2 v (hv.congr fun i hi=>(hc i hi).symm)⟩
theorem LeastR.congr (h:LeastR c n p b w) (hc:∀ i,i < n->c i=c' i):LeastR c' n p b w :=
 ⟨h.1.congr hc,fun v hv=>h.2 v (hv.congr fun i hi=>(hc i hi).symm)⟩
def cf (pl:List Int) (i:Nat):Int:=pl.getD i 0
theorem uw5 {pl:List Int} {i:Nat} (h:i < pl.length):cf pl i=pl[i]:=by simp [cf,h]
theorem vk9 {a b x y:Int} (h:HT.lexLt [a,x] [b,y]=false):b<=a:=by
 rcases Int.lt_or_le a b with z | z
 ·simp [HT.lexLt,z] at h
  omega
 ·exact z
def oD:Option Int->D
 | none=>.non
 | some w=>.int w
def AnsA (pl:List Int) (s:Nat) (x:Option Int):Prop:=(∃ W,x=some W /\ LeastA (cf pl) s 0 pl.length W) \/ (¬ pl.length<=cap s true /\ x=none)
def AnsR (pl:List Int) (s:Nat) (x:Option Int):Prop:=(∃ W,x=some W /\ LeastR (cf pl) pl.length s 0 W) \/ (¬ pl.length<=cap s false /\ x=none)
variable {pl pl':List Int} {s:Nat} {x y:Option Int}
theorem AnsA.get (h:AnsA pl s x) {W:Int} (e:x=some W):LeastA (cf pl) s 0 pl.length W:=by
 rcases h with ⟨V,rfl,hV⟩ | ⟨_,rfl⟩
 ·cases e;exact hV
 ·cases e
theorem AnsR.get (h:AnsR pl s x) {W:Int} (e:x=some W):LeastR (cf pl) pl.length s 0 W:=by
 rcases h with ⟨V,rfl,hV⟩ | ⟨_,rfl⟩
 ·cases e;exact hV
 ·cases e
theorem v67 (h:∀ x ∈ pl,1<=x) (i:Nat):0<=cf pl i:=by
 by_cases hi:i < pl.length
 ·rw [uw5 hi];have:=h _ (List.getElem_mem hi);omega
 ·simp [cf,List.getElem?_eq_none (Nat.le_of_not_lt hi)]
def wk (c:Nat->Int):List Mv->Int
 | []=>0
 | p::r=>c (p.2 - 1)+wk c r
variable {c:Nat->Int} {n p b e:Nat} {w v:Int}
theorem u45:∀ {l r:List Mv},wk c (l++r)=wk c l+wk c r
 | [],r=>by show wk c r=0+wk c r;omega
 | x::l,r=>by show c (x.2 - 1)+wk c (l++r)=c (x.2 - 1)+wk c l+wk c r;rw [u45];omega
theorem ux8:∀ {l:List Mv},wk c (bkw l)=wk c l
 | []=>rfl
 | x::l=>by
  have:bkw (x::l)=bkw l++[(!x.1,x.2)]:=by simp [bkw]
  rw [this,u45,ux8]
  show wk c l+(c (x.2 - 1)+0)=c (x.2 - 1)+wk c l
  omega
theorem LeastA.eq (h:LeastA c p b e w) (h':LeastA c p b e v):w=v:=by
 have:=h.2 _ h'.1;have:=h'.2 _ h.1;omega
theorem LeastR.eq (h:LeastR c n p b w) (h':LeastR c n p b v):w=v:=by
 have:=h.2 _ h'.1;have:=h'.2 _ h.1;omega
def VA (c:Nat->Int) (p b e:Nat) (w:Int) (m:Nat):Prop:=LeastA c p b e w /\ mA p b e m /\ (e - b ≠ 1->∃ w1 w2 w3,LeastA c p b m w1 /\ LeastA c (p - 1) m e w2 /\ LeastA c (p - 1) b m w3 /\ w=w1+w2+w3)
def VR (c:Nat->Int) (n p b:Nat) (w:Int) (m:Nat):Prop:=LeastR c n p b w /\ mR n p b m /\ (n - b ≠ 1->∃ w1 w2,LeastA c p b m w1 /\ LeastR c n (p - 1) m w2 /\ w=w1+w2)
def TAw (c:Nat->Int) (Dm:Nat->Nat->Nat->Prop) (kvs:List (List Key × D)):Prop:=∀ p b e,(Dm p b e->∃ w m,valD kvs (k3 p b e)=some (vD w m) /\ VA c p b e w m) /\ (¬ Dm p b e->valD kvs (k3 p b e)=none)
def TRw (c:Nat->Int) (n:Nat) (Dm:Nat->Nat->Prop) (kvs:List (List Key × D)):Prop:=∀ p b,(Dm p b->∃ w m,valD kvs (k2 p b)=some (vD w m) /\ VR c n p b w m) /\ (¬ Dm p b->valD kvs (k2 p b)=none)
theorem TAw.congr {D1 D2:Nat->Nat->Nat->Prop} {kvs:List (List Key × D)} (h:TAw c D1 kvs) (e:∀ p b e,D1 p b e ↔ D2 p b e):TAw c D2 kvs:=fun p b e'=>⟨fun z=>(h p b e').1 ((e p b e').mpr z),fun z=>(h p b e').2 fun q=>z ((e p b e').mp q)⟩
theorem TRw.congr {D1 D2:Nat->Nat->Prop} {kvs:List (List Key × D)} (h:TRw c n D1 kvs) (e:∀ p b,D1 p b ↔ D2 p b):TRw c n D2 kvs:=fun p b=>⟨fun z=>(h p b).1 ((e p b).mpr z),fun z=>(h p b).2 fun q=>z ((e p b).mp q)⟩
theorem TAw.put {Dm:Nat->Nat->Nat->Prop} {kvs:List (List Key × D)} {m:Nat} (h:TAw c Dm kvs) (hn:¬ Dm p b e) (hm:VA c p b e w m):TAw c (fun p' b' e'=>Dm p' b' e' \/ (p'=p /\ b'=b /\ e'=e)) (putT kvs (k3 p b e) (vD w m)):=by
 intro p' b' e';rw [um9 ((h p b e).2 hn)]
 by_cases hk:k3 p' b' e'=k3 p b e
 ·obtain ⟨rfl,rfl,rfl⟩:=vl1 hk
  rw [if_pos rfl];exact ⟨fun _=>⟨w,m,rfl,hm⟩,fun z=>absurd (.inr ⟨rfl,rfl,rfl⟩) z⟩
 ·rw [if_neg hk]
  refine ⟨fun z=>(h p' b' e').1 (z.resolve_right fun q=>hk ?_),fun z=>(h p' b' e').2 fun q=>z (.inl q)⟩;obtain ⟨rfl,rfl,rfl⟩:=q;rfl
theorem TRw.put {Dm:Nat->Nat->Prop} {kvs:List (List Key × D)} {m:Nat} (h:TRw c n Dm kvs) (hn:¬ Dm p b) (hm:VR c n p b w m):TRw c n (fun p' b'=>Dm p' b' \/ (p'=p /\ b'=b)) (putT kvs (k2 p b) (vD w m)):=by
 intro p' b';rw [um9 ((h p b).2 hn)]
 by_cases hk:k2 p' b'=k2 p b
 ·obtain ⟨rfl,rfl⟩:=wc9 hk
  rw [if_pos rfl];exact ⟨fun _=>⟨w,m,rfl,hm⟩,fun z=>absurd (.inr ⟨rfl,rfl⟩) z⟩
 ·rw [if_neg hk]
  refine ⟨fun z=>(h p' b').1 (z.resolve_right fun q=>hk ?_),fun z=>(h p' b').2 fun q=>z (.inl q)⟩;obtain ⟨rfl,rfl⟩:=q;rfl
end L3
namespace L3
open PySem PySem.Spec PyProof.Rows L2
def valK (kvs:List (Key × D)) (k:Key):Option D:=(kvs.find? fun kv=>decide (kv.1=k)).map (·.2)
def uj3 (kvs:List (Key × D)) (k:Key) (v:D):List (Key × D) :=
 if (kvs.any fun kv=>decide (kv.1=k))=true then kvs.map (fun kv=>if kv.1=k then (kv.1,v) else kv) else kvs++[(k,v)]
section
variable {X:Cx} {K:W.Frag} {G:Gp} {H:Hp} {p:Addr}
theorem u56 {k:Key}:∀ {kvs:List (Key × D)} {ys:List (Key × V)},RelPs K H kvs ys->(valK kvs k=none /\ valV ys k=none) \/ ∃ d v,valK kvs k=some d /\ valV ys k=some v /\ RelD K H d v
 | [],ys,⟨h1,h2⟩=>by
  have:ys=[]:=by cases ys with | nil=>rfl | cons y ys=>simp at h1
  subst this;exact .inl ⟨rfl,rfl⟩
 | (k',d)::kvs,[],⟨h1,h2⟩=>by simp at h1
 | (k',d)::kvs,(k2,v)::ys,⟨h1,h2⟩=>by
  rw [List.map_cons,List.map_cons] at h1;obtain ⟨e1,e2⟩:=List.cons.inj h1;have e1:k'=k2:=e1;subst e1;obtain ⟨x,xs',e3,q1,q2⟩:=h2.inv_cons;rw [List.map_cons] at e3;obtain ⟨e4,e5⟩:=List.cons.inj e3;have e4:v=x:=e4;subst e4
  by_cases hk:k'=k
  ·right
   exact ⟨d,v,by simp [valK,List.find?_cons,hk],u78 hk,q1⟩
  ·have ih:=u56 (k:=k) (kvs:=kvs) (ys:=ys) ⟨e2,by rw [e5];exact q2⟩
   have a1:valK ((k',d)::kvs) k=valK kvs k:=by simp [valK,List.find?_cons,hk]
   rw [a1,u79 hk];exact ih
theorem us4 {k:Key} {d:D} {v:V} (q:RelD K H d v):∀ {kvs:List (Key × D)} {ys:List (Key × V)},RelPs K H kvs ys->RelPs K H (kvs.map (fun kv=>if kv.1=k then (kv.1,d) else kv)) (ys.map (fun kv=>if kv.1=k then (kv.1,v) else kv)) /\ (kvs.any fun kv=>decide (kv.1=k))=(ys.any fun kv=>decide (kv.1=k))
 | [],ys,⟨h1,h2⟩=>by
  have:ys=[]:=by cases ys with | nil=>rfl | cons y ys=>simp at h1
  subst this;exact ⟨⟨rfl,.nil⟩,rfl⟩
 | (k',d')::kvs,[],⟨h1,h2⟩=>by simp at h1
 | (k',d')::kvs,(k2,v')::ys,⟨h1,h2⟩=>by
  rw [List.map_cons,List.map_cons] at h1;obtain ⟨e1,e2⟩:=List.cons.inj h1;have e1:k'=k2:=e1;subst e1;obtain ⟨x,xs',e3,q1,q2⟩:=h2.inv_cons;rw [List.map_cons] at e3;obtain ⟨e4,e5⟩:=List.cons.inj e3;have e4:v'=x:=e4;subst e4;obtain ⟨⟨i1,i2⟩,i3⟩:=us4 (k:=k) q (kvs:=kvs) (ys:=ys) ⟨e2,by rw [e5];exact q2⟩;refine ⟨⟨?_,?_⟩,by rw [List.any_cons,List.any_cons,i3]⟩
  ·rw [List.map_cons,List.map_cons,List.map_cons,List.map_cons,i1]
   by_cases hk:k'=k <;> simp [hk]
  ·rw [List.map_cons,List.map_cons,List.map_cons,List.map_cons]
   by_cases hk:k'=k
   ·simp only [hk,if_true];exact .cons q i2
   ·simp only [hk,if_false];exact .cons q1 i2
theorem ur6 {k:Key} {d:D} {v:V} (q:RelD K H d v) {kvs:List (Key × D)} {ys:List (Key × V)} (h:RelPs K H kvs ys):RelPs K H (uj3 kvs k d) (putK ys k v):=by
 obtain ⟨i1,i3⟩:=us4 (k:=k) q h;unfold uj3 putK;rw [i3];split
 ·exact i1
 ·exact ⟨by rw [List.map_append,List.map_append,h.1];rfl,by rw [List.map_append,List.map_append];exact h.2.append (.cons q .nil)⟩
theorem ub3 {k:Key} {v:V} (r:RelD K H (kD k) v):v=kV k:=by
 cases k with
 | inl i=>exact (show RelD K H (.int i) v from r).int_inv
 | inr x=>exact (show RelD K H (.str x) v from r).str_inv
def uw4 (td ti:TE3):TE3:=fun σ G q=>td σ G fun x G1=>ti σ G1 fun y G2=>∃ a kvs k d,x=.ref a /\ y=kD k /\ G2 a=some (.dic kvs) /\ valK kvs k=some d /\ q d G2
theorem vc1 {td ti:TE3} {σ:L2.St} {Q:VK} (h:lowE K (uw4 td ti) σ H Q):vn7 (lowE K td) (lowE K ti) σ H Q:=by
 obtain ⟨σd,G,q,rs,c,t,f⟩:=h;refine ⟨σd,G,_,rs,c,t,fun x G1 v H1 r1 c1 l1 t1=>⟨σd,G1,_,rs.le l1,c1,t1,fun y G2 u H2 r2 c2 l2 t2=>?_⟩⟩;obtain ⟨a,kvs,k,d,rfl,rfl,hg,hv,t3⟩:=t2;have r1':=RelD.le l2 r1;cases r1'.ref_inv;obtain rfl:=ub3 r2;obtain ⟨ys,e,rp⟩:=c2 a _ hg
 rcases u56 (k:=k) rp with ⟨z,_⟩ | ⟨d',w,z1,z2,z3⟩
 ·rw [hv] at z;cases z
 ·rw [hv] at z1;cases z1
  exact ⟨a,w,rfl,by rw [<- z2];exact DGet.k e,f _ _ _ _ z3 c2 (l1.trans l2) t3⟩
theorem ug7 {k:Nat} {o i:Expr} {pos:Pos} {to ti:TE3} (hr:Room k X.A) (ho:E3 X o to) (hi:E3 X i ti) (hs:NoSl i:=by exact fun _ _=>rfl):E3 X (.Subscript o i pos) (uw4 to ti) :=
 u28 (v01 (ug4 hr) ho hi hs) fun _ _ _=>vc1
def uw3 (td ti tv:TE3):TS3:=fun Dn σ G=>tv σ G fun v G1=>td σ G1 fun x G2=>ti σ G2 fun y G3=>∃ (a:Addr) (kvs:List (Key × D)) (k:Key),x=.ref a /\ y=kD k /\ G3 a=some (.dic kvs) /\ kvs.length < sizeLine /\ Dn.nx σ (gup G3 a (.dic (uj3 kvs k v)))
theorem ue8 {k:Nat} {o i value:Expr} {pos pos':Pos} {to ti tv:TE3} (hr:Room k X.A) (ho:E3 X o to) (hi:E3 X i ti) (hv:E3 X value tv)
  (hs:swapsWith value (some (.Subscript o i pos')) pos.line X.env=pure false:=by rfl):S3 X (.Assign [.Subscript o i pos'] value pos) (uw3 to ti tv) :=
 ua5 (uz7 (ug4 hr) ho hi hv hs) fun D σ H h=>by
  obtain ⟨σd,G,d,rs,c,t,f⟩:=h;refine ⟨σd,G,_,rs,c,t,fun v G1 w H1 r1 c1 l1 t1=>⟨σd,G1,_,rs.le l1,c1,t1,fun x G2 u H2 r2 c2 l2 t2=>⟨σd,G2,_,rs.le (l1.trans l2),c2,t2,fun y G3 z H3 r3 c3 l3 t3=>?_⟩⟩⟩;obtain ⟨a,kvs,k,rfl,rfl,hg,hl,t4⟩:=t3;have r2':=RelD.le l3 r2;cases r2'.ref_inv;obtain rfl:=ub3 r3;obtain ⟨ys,e,rp⟩:=c3 a _ hg;have l5:Le H3 (upd H3 a (.dK (putK ys k w))):=Le.dK e;have lys:ys.length=kvs.length:=by
   have:=congrArg List.length rp.1;rw [List.length_map,List.length_map] at this;exact this.symm
  refine ⟨a,_,rfl,DPut.k e (by rw [lys];exact hl),?_⟩;refine f.nx _ _ _ _ (((rs.le l1).le l2).le (l3.trans l5)) ?_ (l1.trans (l2.trans (l3.trans l5))) t4;exact c3.put l5 ⟨_,u13,(ur6 (RelD.le (l2.trans l3) r1) rp).le l5⟩
end
section
variable {X:Cx} {K:W.Frag} {H:Hp} {o e tg:Expr} {es:List Expr} {te to:TE3} {ts:TA3} {apos cpos pos:Pos} {x:Str}
def vy0:TE3:=fun _ G q=>∀ p,G p=none->q (.ref p) (gup G p (.dic []))
theorem v54 {pos:Pos}:E3 X (.Dict [] [] pos) vy0:=u28 va3 fun σ H Q h=>by
 obtain ⟨σd,G,q,rs,c,t,f⟩:=h;exact fun p hp=>f (.ref p) _ (.ref p) _ (by rw [RelD]) (c.put (o:=.dic []) (Le.fresh hp) ⟨[],u13,rfl,.nil⟩) (Le.fresh hp) (t p (c.fresh hp))
end
end L3
namespace L3
open PySem PySem.Spec PyProof.Rows L2
def v62 (td ti tf:TE3):TE3:=fun σ G q=>td σ G fun x G1=>(∃ a kvs,x=.ref a /\ G1 a=some (.dic kvs)) /\ ti σ G1 fun y G2=>tf σ G2 fun z G3=>∃ a kvs k,x=.ref a /\ y=kD k /\ G3 a=some (.dic kvs) /\ q ((valK kvs k).getD z) G3
theorem v25 {K:W.Frag} {H:Hp} {td ti tf:TE3} {σ:L2.St} {Q:VK} (h:lowE K (v62 td ti tf) σ H Q):vh9 (lowE K td) (lowE K ti) (lowE K tf) σ H Q:=by
 obtain ⟨σd,G,q,rs,c,t,f⟩:=h;refine ⟨σd,G,_,rs,c,t,fun x G1 v H1 r1 c1 l1 t1=>?_⟩;obtain ⟨⟨a,kvs,rfl,ha⟩,t1⟩:=t1;obtain ⟨ys,e,rp⟩:=c1 a _ ha;refine ⟨a,r1.ref_inv,.inl ⟨ys,.of e⟩,σd,G1,_,rs.le l1,c1,t1,fun y G2 u H2 r2 c2 l2 t2=>⟨σd,G2,_,rs.le (l1.trans l2),c2,t2,fun z G3 w H3 r3 c3 l3 t3=>?_⟩⟩;obtain ⟨a',kvs3,k,e1,rfl,hg,t4⟩:=t3;cases e1;obtain rfl:=ub3 r2;obtain ⟨ys3,e3,rp3⟩:=c3 a _ hg;refine ⟨valV ys3 k,DGet.k e3,?_⟩
 rcases u56 (k:=k) rp3 with ⟨z1,z2⟩ | ⟨d',w',z1,z2,z3⟩
 ·rw [z1] at t4
  rw [z2];exact f _ _ _ _ r3 c3 (l1.trans (l2.trans l3)) t4
 ·rw [z1] at t4
  rw [z2];exact f _ _ _ _ z3 c3 (l1.trans (l2.trans l3)) t4
theorem vl5 {X:Cx} {k:Nat} {o e f:Expr} {apos cpos:Pos} {to te tf:TE3} (hr:Room k X.A) (ho:E3 X o to) (he:E3 X e te) (hf:E3 X f tf) (hbase:attributeBase o "get" X.env (eval o X.env)=eval o X.env:=by rfl)
  (hfew:((backTo cpos (starEach [e,f] X.env)).all (fun x=>!x.1) && (backToKw cpos (keywordEach [] X.env)).all (fun x=>x.1.isSome)
   && decide (([e,f]:List Expr).length+([]:List Keyword).length+(if ([]:List Keyword).isEmpty then 0 else 1) < 30))=true:=by rfl)
  (hline:(apos.endLine == cpos.line)=true:=by rfl) (htr:starEach [e,f] X.env=[(false,eval e X.env),(false,eval f X.env)]:=by rfl):E3 X (.Call (.Attribute o "get" apos) [e,f] [] cpos) (v62 to te tf) :=
 u28 (va5 (ug4 hr) ho he hf ⟨hbase,hfew,hline,by rw [htr];rfl⟩) fun _ _ _=>v25
end L3
namespace L2
open PySem PySem.Spec PyProof.Rows
section
variable {X:Cx} {tg:Expr}
def Itd (a:Addr) (o:Obj) (kvs:List (Key × V)):It:=⟨fun i H=>(∃ ys,H a=some (.frz o (.dK ys)) /\ ys.map (·.1)=kvs.map (·.1)) /\ i < kvs.length,fun i H v H'=>H'=H /\ ∃ p,kvs[i]?=some p /\ v=kV p.1,fun i H=>(∃ ys,H a=some (.frz o (.dK ys)) /\ ys.map (·.1)=kvs.map (·.1)) /\ kvs.length<=i⟩
theorem vv9 {P:Program} {w:World} {k:Key} {u:Value} (h:(u14 P w).is k u=true):RelV (kV k) u:=by
 rcases u20 h with ⟨i,t,rfl,rfl⟩ | ⟨x,t,rfl,rfl⟩
 ·exact ⟨t,rfl⟩
 ·exact ⟨t,rfl⟩
theorem vl3 {P:Program} {w:World} {H:Hp} {h:Heap} {a:Addr} {o:Obj} {kvs:List (Key × V)} {es:Array DictEntry} {ep:Nat} (ok:HOk P w H h) (e:H a=some (.frz o (.dK kvs))) (hd:o.data=.dict es ep):(a == sysModules)=false /\ ∃ vs,KV kvs vs /\ h.DictAt (u14 P w) a vs ep:=by
 obtain ⟨ho,z,hs,vs,rel,o',es',ep',ho',hc,hd',hk,hp,hn⟩:=(show ObjOk P w H h a (.frz o (.dK kvs)) from ok a _ e);rw [ho] at ho';cases ho';rw [hd] at hd';cases hd';exact ⟨hs,vs,rel,o,es,ho,hc,hd,hk,hp,hn⟩
theorem uy1 {P:Program} {w:World} {K:W.Frag} (it a:Addr) (o:Obj) (kvs:List (Key × V)) {es:Array DictEntry} {ep:Nat} (hd:o.data=.dict es ep):Turn P w K tg (Itd a o kvs) [it] it (fun i h=>h.IsKeyIter it a i kvs.length ep) where
 mem:=by simp
 obj:=fun i h st b hb=>by
  have e:b=it:=by simpa using hb
  subst e;obtain ⟨o,e,c,d⟩:=st;exact ⟨o,e,fun v z=>by rw [d] at z;cases z⟩
 keep:=fun i h h' st k=>let ⟨o,e,r⟩:=st;⟨o,k it (by simp) o e,r⟩
 item:=by
  intro X hP hw hK hc i pins s σ H E I hf st hg;subst hP hw hK;obtain ⟨f0,f1,f2,f3,f4,f5⟩:=hf it (by simp);obtain ⟨⟨ys,hg1,hgk⟩,hg2⟩:(∃ ys,H a=some (.frz o (.dK ys)) /\ ys.map (·.1)=kvs.map (·.1)) /\ i < kvs.length:=hg;obtain ⟨_,vs,rel,at_⟩:=vl3 I.hok hg1 hd;have hlv:kvs.length=vs.length:=by
   have:=congrArg List.length hgk;rw [List.length_map,List.length_map] at this;rw [<- rel.length,this]
  have hk:=hgk.symm.trans rel.keys;obtain ⟨p,hp⟩:∃ p,vs[i]?=some p:=⟨_,List.getElem?_eq_getElem (by omega)⟩;have hkey:kvs[i]?.map (·.1)=some p.1:=by rw [<- List.getElem?_map,hk,List.getElem?_map,hp];rfl
  obtain ⟨q,hq,hq2⟩:=Option.map_eq_some_iff.mp hkey;rw [hlv] at st;refine wpAny_pyNext_dict_item (k:=p.1) (v:=p.2) st at_ hp fun key h' hkk st' sb=>?_
  have I1:Inv X pins σ H { s with heap:=h' }:=I.turned (t':=s.toks) (fun b o hb e=>(sb.2 b hb).trans e) f0 f1 f3 f4 f5
  obtain ⟨o2,e,cc,d⟩:=id st';exact ⟨_,rfl,vd2 (s:={ s with heap:=h' }) e cc d (by decide) ⟨kV p.1,H,I1,vv9 hkk,⟨rfl,q,hq,by rw [hq2]⟩,by rw [hlv];exact st',fun b hb=>(hf b hb).1⟩⟩
 done:=by
  intro X hP hw hK hc i pins s σ H E I hf st hg;subst hP hw hK;obtain ⟨f0,f1,f2,f3,f4,f5⟩:=hf it (by simp);obtain ⟨⟨ys,hg1,hgk⟩,hg2⟩:(∃ ys,H a=some (.frz o (.dK ys)) /\ ys.map (·.1)=kvs.map (·.1)) /\ kvs.length<=i:=hg;obtain ⟨_,vs,rel,at_⟩:=vl3 I.hok hg1 hd;have hlv:kvs.length=vs.length:=by
   have:=congrArg List.length hgk;rw [List.length_map,List.length_map] at this;rw [<- rel.length,this]
  rw [hlv] at st;exact wpAny_pyNext_dict_end (I.ok.hd hc) st at_ (List.getElem?_eq_none (by omega)) fun h' eb=>⟨rfl,I.turned (t':=s.toks) (fun b o hb e=>eb b o hb e) f0 f1 f3 f4 f5⟩
 self:=fun _ _ _ _ _ st h=>wpAny_pyIter_keyiter st h
def wd9 (tl:TE):TI:=fun σ H R=>tl σ H fun v H1=>∃ a kvs,v=.ref a /\ H1 a=some (.dK kvs) /\ ∀ o,R (Itd a o kvs) (upd H1 a (.frz o (.dK kvs)))
theorem v98 {l:Expr} {tl:TE} (hl:PE X l tl):PI X tg l (wd9 tl):=by
 intro pins s σ H R I h
 (refine thn (hl pins s σ H _ I h) ?_;rintro v s1 ⟨y,H1,I1,r1,q1⟩)
 obtain ⟨a,kvs,rfl,ha,q⟩:=q1;obtain rfl:v=Value.ref a:=r1;obtain ⟨z,hd,vs,rel,dd⟩:=ul0 I1.hok ha;obtain ⟨o,es,ep,ho,hc,hdat,hk,hp,hn⟩:=id dd;have I2:Inv X pins σ (upd H1 a (.frz o (.dK kvs))) { s1 with heap:=s1.heap,toks:=s1.toks }:=u74 I1 (by rw [ha];exact True.intro) (Heap.SameBut.refl _ _) ⟨o,ho⟩ ⟨ho,z,hd,vs,rel,dd⟩
 have fp:∀ b ∈ [s1.heap.objs.size],FpOk X pins (upd H1 a (.frz o (.dK kvs))) b:=fun b hb=>by
  have e:b=s1.heap.objs.size:=by simpa using hb
  subst e;exact I2.fpOk (Nat.le_refl _) (I2.hok.fresh (Nat.le_refl _))
 refine wpAny_pyIter_dict hd (kvs:=vs) (ep:=ep) ⟨o,es,ho,hc,hdat,hk,hp,hn⟩ ?_;refine ⟨s1.heap.objs.size,[s1.heap.objs.size],_,_,_,rfl,I2.kept (t':=s1.toks) fun b o e=>Heap.get?_push_of_some _ e,uy1 (s1.heap.objs.size) a o kvs hdat,?_,fp,q o⟩;rw [rel.length];exact ⟨_,Heap.get?_push_size _ rfl,rfl,rfl⟩
end
end L2
namespace L3
open PySem PySem.Spec PyProof.Rows L2
section
variable {X:Cx} {K:W.Frag} {G:Gp} {H:Hp} {tg e:Expr} {te:TE3}
theorem Le.frz {a:Addr} {o:Obj} {ys:List (Key × V)} (h:H a=some (.dK ys)):Le H (upd H a (.frz o (.dK ys))) :=
 ⟨fun b zs q=>by
  by_cases e:b=a
  ·subst e;rw [h] at q;cases q
  ·rw [u10 e];exact q,fun b o u q=>by
  by_cases e:b=a
  ·subst e;rw [h] at q;cases q
  ·rw [u10 e];exact q⟩
theorem uw0 {H0:Hp} {a:Addr} {o:Obj} {kvs:List (Key × D)} {ys:List (Key × V)} (hk:kvs.map (·.1)=ys.map (·.1)):ItRel K H0 ⟨kvs.map fun kv=>kD kv.1,fun G=>G a=some (.frd o kvs)⟩ (Itd a o ys) where
 go:=fun i G H l c hG hi=>by
  obtain ⟨zs,z1,z2⟩:=c a _ hG;have hi:i < (kvs.map fun kv=>kD kv.1).length:=hi;have hl:=congrArg List.length hk;rw [List.length_map,List.length_map] at hl;rw [List.length_map] at hi;exact ⟨⟨zs,z1,z2.1.symm.trans hk⟩,by omega⟩
 stop:=fun i G H l c hG hi=>by
  obtain ⟨zs,z1,z2⟩:=c a _ hG;have hi:(kvs.map fun kv=>kD kv.1).length<=i:=hi;have hl:=congrArg List.length hk;rw [List.length_map,List.length_map] at hl;rw [List.length_map] at hi;exact ⟨⟨zs,z1,z2.1.symm.trans hk⟩,by omega⟩
 yld:=fun i G H v H' l c _ hi y=>by
  obtain ⟨rfl,p,hp,rfl⟩:=y;refine ⟨c,Le.refl _,kD p.1,?_,?_⟩
  ·show (kvs.map fun kv=>kD kv.1)[i]?=_
   have e:(kvs.map (·.1))[i]?=some p.1:=by rw [hk,List.getElem?_map,hp];rfl
   rw [List.getElem?_map] at e ⊢;obtain ⟨w,hw,hw2⟩:=Option.map_eq_some_iff.mp e;rw [hw];show some (kD w.1)=_;rw [hw2]
  ·cases p.1 with
   | inl i=>show RelD K _ (.int i) (.int i);rw [RelD]
   | inr x=>show RelD K _ (.str x) (.str x);rw [RelD]
def ux9 (te:TE3):TI3:=fun σ G r=>te σ G fun d G1=>∃ a kvs,d=.ref a /\ G1 a=some (.dic kvs) /\ ∀ o,r ⟨kvs.map fun kv=>kD kv.1,fun G=>G a=some (.frd o kvs)⟩ (gup G1 a (.frd o kvs))
theorem v43 (h:E3 X e te):I3 X tg e (ux9 te):=v85 (v98 h) fun σ H R hh=>by
 obtain ⟨σd,G,q,rs,c,t,f⟩:=hh;refine ⟨σd,G,_,rs,c,t,fun d G1 v H1 r1 c1 l1 t1=>?_⟩;obtain ⟨a,kvs,rfl,ha,t2⟩:=t1;obtain ⟨ys,e,rp⟩:=c1 a _ ha;refine ⟨a,ys,r1.ref_inv,e,fun o=>f _ _ _ _ (uw0 rp.1) (c1.put (o:=.frd o kvs) (Le.frz e) ⟨ys,u13,rp.le (Le.frz e)⟩) (l1.trans (Le.frz e)) (t2 o)⟩
def v63 (td ti:TE3):TE3:=fun σ G q=>td σ G fun x G1=>ti σ G1 fun y G2=>∃ a o kvs k d,x=.ref a /\ y=kD k /\ G2 a=some (.frd o kvs) /\ valK kvs k=some d /\ q d G2
theorem vc2 {td ti:TE3} {σ:L2.St} {Q:VK} (h:lowE K (v63 td ti) σ H Q):vn7 (lowE K td) (lowE K ti) σ H Q:=by
 obtain ⟨σd,G,q,rs,c,t,f⟩:=h;refine ⟨σd,G,_,rs,c,t,fun x G1 v H1 r1 c1 l1 t1=>⟨σd,G1,_,rs.le l1,c1,t1,fun y G2 u H2 r2 c2 l2 t2=>?_⟩⟩;obtain ⟨a,o,kvs,k,d,rfl,rfl,hg,hv,t3⟩:=t2;have r1':=RelD.le l2 r1;cases r1'.ref_inv;obtain rfl:=ub3 r2;obtain ⟨ys,e,rp⟩:=c2 a _ hg
 rcases u56 (k:=k) rp with ⟨z,_⟩ | ⟨d',w,z1,z2,z3⟩
 ·rw [hv] at z;cases z
 ·rw [hv] at z1;cases z1
  exact ⟨a,w,rfl,.inl ⟨ys,k,.inr ⟨o,e⟩,rfl,z2.symm⟩,f _ _ _ _ z3 c2 (l1.trans l2) t3⟩
theorem uc0 {k:Nat} {o i:Expr} {pos:Pos} {to ti:TE3} (hr:Room k X.A) (ho:E3 X o to) (hi:E3 X i ti) (hs:NoSl i:=by exact fun _ _=>rfl):E3 X (.Subscript o i pos) (v63 to ti) :=
 u28 (v01 (ug4 hr) ho hi hs) fun _ _ _=>vc2
end
end L3
namespace L3
open PySem PySem.Spec PyProof.Rows L2 Rw
def lo (m:Nat) (w:List Mv):List Mv:=w.filter fun p=>decide (p.2<=m)
def up (m:Nat) (w:List Mv):List Mv:=(w.filter fun p=>decide (m < p.2)).map fun p=>(p.1,p.2 - m)
section
variable {m:Nat} {p:Mv} {w u v:List Mv} {c:Nat->Int}
theorem vv4 (h:p.2<=m):lo m (p::w)=p::lo m w:=by simp [lo,h]
theorem vk6 (h:m < p.2):lo m (p::w)=lo m w:=by simp [lo,Nat.not_le.mpr h]
theorem w29 (h:m < p.2):up m (p::w)=(p.1,p.2 - m)::up m w:=by simp [up,h]
theorem vh3 (h:p.2<=m):up m (p::w)=up m w:=by simp [up,Nat.not_lt.mpr h]
theorem v29:lo m (u++v)=lo m u++lo m v:=by simp [lo]
theorem u76:∀ {w:List Mv},wk c w=wk c (lo m w)+wk (fun i=>c (i+m)) (up m w)
 | []=>rfl
 | p::w=>by
  have ih:=u76 (w:=w)
  rcases Nat.lt_or_ge m p.2 with h | h
  ·rw [vk6 h,w29 h]
   show c (p.2 - 1)+wk c w=wk c (lo m w)+(c (p.2 - m - 1+m)+wk (fun i=>c (i+m)) (up m w))
   rw [show p.2 - m - 1+m=p.2 - 1 by (clear ih;omega)];omega
  ·rw [vv4 h,vh3 h]
   show c (p.2 - 1)+wk c w=c (p.2 - 1)+wk c (lo m w)+wk (fun i=>c (i+m)) (up m w)
   omega
theorem ui6 (hc:∀ i,0<=c i):∀ {w:List Mv},0<=wk c w
 | []=>Int.le_refl _
 | p::w=>by have:=hc (p.2 - 1);have:=ui6 hc (w:=w);show 0<=c (p.2 - 1)+wk c w;omega
theorem w15 (hc:∀ i,0<=c i) (h:u.Sublist w):wk c u<=wk c w:=by
 induction h with
 | slnil=>exact Int.le_refl _
 | cons a _ ih=>have:=hc (a.2 - 1);show _<=c (a.2 - 1)+wk c _;omega
 | cons_cons a _ ih=>show c (a.2 - 1)+wk c _<=c (a.2 - 1)+wk c _;omega
end
theorem u64 {x m i:Nat}:(x / 2 ^ m).testBit i=x.testBit (i+m):=by
 rw [Nat.testBit_div_two_pow]
theorem w07 {x m k:Nat} (h:m < k):xr x k / 2 ^ m=xr (x / 2 ^ m) (k - m):=Nat.eq_of_testBit_eq fun j=>by
 rw [u64,u26,u26,u64]
 congr 1
 exact decide_eq_decide.mpr (by omega)
theorem wh2 {x m k:Nat} (h1:1<=k) (h:k<=m):xr x k / 2 ^ m=x / 2 ^ m:=Nat.eq_of_testBit_eq fun j=>by
 rw [u64,u26,u64,decide_eq_false (by omega:¬ k - 1=j+m),Bool.xor_false]
def lgr (n:Nat):Nat->List Mv->Prop
 | _,[]=>True
 | x,p::r=>((1<=p.2 /\ p.2<=n) /\ (p.2=1 \/ x.testBit (p.2 - 2)=true) /\ p.1=!stb p.2 x) /\ lgr n (xr x p.2) r
section
variable {n s m:Nat}
theorem uf8:∀ {w:List Mv} {x:Nat},lgw n s x w->lgr n x w
 | [],_,_=>trivial
 | p::r,x,⟨⟨h1,h2,h3,_⟩,h5⟩=>⟨⟨h1,h2,h3⟩,uf8 h5⟩
theorem ug1:∀ {w:List Mv} {x:Nat},cnt n x<=s->lgw n s x w->∀ y ∈ x::sbh x w,cnt n y<=s
 | [],x,h,_,y,hy=>by (have:y=x:=by simpa [sbh] using hy);subst this;exact h
 | p::r,x,h,h',y,hy=>by
  rcases List.mem_cons.mp hy with e | hy
  ·subst e;exact h
  ·exact ug1 (x:=xr x p.2) (uf9 (w:=[p]) h ⟨h'.1,trivial⟩) h'.2 y hy
theorem ub1:∀ {w:List Mv} {x:Nat},lgr n x w->(∀ y ∈ sbh x w,cnt n y<=s)->lgw n s x w
 | [],_,_,_=>trivial
 | p::r,x,⟨⟨h1,h2,h3⟩,h5⟩,h=>by
  refine ⟨⟨h1,h2,h3,fun hp=>?_⟩,ub1 h5 fun y hy=>h y (List.mem_cons_of_mem _ hy)⟩;have hf:stb p.2 x=false:=by rw [hp] at h3;simpa using h3.symm
  have:=h (xr x p.2) (List.mem_cons_self ..);rw [u94 h1.1 h1.2 hf] at this;omega
theorem v32:∀ {w:List Mv} {x:Nat},lgr n x w->lgr m (x % 2 ^ m) (lo m w) /\ fin (x % 2 ^ m) (lo m w)=fin x w % 2 ^ m /\ ∀ y ∈ sbh (x % 2 ^ m) (lo m w),∃ z ∈ sbh x w,y=z % 2 ^ m
 | [],_,_=>⟨trivial,rfl,fun y hy=>by simp [lo,sbh] at hy⟩
 | p::r,x,⟨⟨h1,h2,h3⟩,h5⟩=>by
  obtain ⟨i1,i2,i3⟩:=v32 (w:=r) h5
  rcases Nat.lt_or_ge m p.2 with h | h
  ·rw [vk6 h]
   rw [<- ua2 h] at i1 i2 i3;exact ⟨i1,i2,fun y hy=>by obtain ⟨z,hz,e⟩:=i3 y hy;exact ⟨z,List.mem_cons_of_mem _ hz,e⟩⟩
  ·rw [vv4 h]
   rw [<- ui1 h1.1 h] at i1 i2 i3;refine ⟨⟨⟨⟨h1.1,h⟩,?_,by rw [uy5 h1.1 h];exact h3⟩,i1⟩,i2,fun y hy=>?_⟩
   ·rcases h2 with h2 | h2
    ·exact .inl h2
    ·right
     rw [Nat.testBit_mod_two_pow,h2];simp;omega
   ·rcases List.mem_cons.mp hy with e | hy
    ·exact ⟨xr x p.2,List.mem_cons_self ..,by rw [e,ui1 h1.1 h]⟩
    ·obtain ⟨z,hz,e⟩:=i3 y hy
     exact ⟨z,List.mem_cons_of_mem _ hz,e⟩
theorem us7:∀ {w:List Mv} {x:Nat},lgr n x w->lgr (n - m) (x / 2 ^ m) (up m w) /\ fin (x / 2 ^ m) (up m w)=fin x w / 2 ^ m /\ ∀ y ∈ sbh (x / 2 ^ m) (up m w),∃ z ∈ sbh x w,y=z / 2 ^ m
 | [],_,_=>⟨trivial,rfl,fun y hy=>by simp [up,sbh] at hy⟩
 | p::r,x,⟨⟨h1,h2,h3⟩,h5⟩=>by
  obtain ⟨i1,i2,i3⟩:=us7 (w:=r) h5
  rcases Nat.lt_or_ge m p.2 with h | h
  ·rw [w29 h]
   rw [w07 h] at i1 i2 i3;refine ⟨⟨⟨⟨by show 1<=p.2 - m;omega,by show p.2 - m<=n - m;omega⟩,?_,?_⟩,i1⟩,i2,fun y hy=>?_⟩
   ·rcases h2 with h2 | h2
    ·left;show p.2 - m=1;omega
    ·by_cases e:p.2 - m=1
     ·exact .inl e
     ·right
      show (x / 2 ^ m).testBit (p.2 - m - 2)=true
      rw [u64,show p.2 - m - 2+m=p.2 - 2 by (clear h2 i3 i2 h3;omega)];exact h2
   ·show p.1=!(x / 2 ^ m).testBit (p.2 - m - 1)
    rw [u64,show p.2 - m - 1+m=p.2 - 1 by omega];exact h3
   ·rcases List.mem_cons.mp hy with e | hy
    ·exact ⟨xr x p.2,List.mem_cons_self ..,by rw [e,w07 h]⟩
    ·obtain ⟨z,hz,e⟩:=i3 y hy
     exact ⟨z,List.mem_cons_of_mem _ hz,e⟩
  ·rw [vh3 h]
   rw [wh2 h1.1 h] at i1 i2 i3;exact ⟨i1,i2,fun y hy=>by obtain ⟨z,hz,e⟩:=i3 y hy;exact ⟨z,List.mem_cons_of_mem _ hz,e⟩⟩
theorem ul2 {x:Nat}:∀ d,cnt (m+d) x=cnt m x+cnt d (x / 2 ^ m)
 | 0=>rfl
 | d+1=>by
  rw [<- Nat.add_assoc,cnt,cnt,ul2 d,u64,Nat.add_comm d m];omega
theorem ul3 {x:Nat} (h:m<=n):cnt n x=cnt m x+cnt (n - m) (x / 2 ^ m):=by
 have:=ul2 (m:=m) (x:=x) (n - m)
 rwa [show m+(n - m)=n by omega] at this
theorem ut9 {x:Nat}:cnt m (x % 2 ^ m)=cnt m x:=ua1 fun i hi=>by
 rw [Nat.testBit_mod_two_pow];simp [hi]
theorem up5:∀ {m x i:Nat},i < m->x.testBit i=true->1<=cnt m x
 | 0,_,_,h,_=>by omega
 | m+1,x,i,h,hb=>by
  rw [cnt]
  by_cases e:i=m
  ·subst e;rw [hb];simp
  ·have:=up5 (m:=m) (i:=i) (by omega) hb;omega
theorem uh6 {x:Nat} (h:x % 2 ^ m ≠ 0):1<=cnt m x:=by
 have h0:0 < hi (x % 2 ^ m):=by
  rcases Nat.eq_zero_or_pos (hi (x % 2 ^ m)) with e | e
  ·have:=vb1 (x % 2 ^ m)
   rw [e] at this;omega
  ·exact e
 have hb:=vl2 h0;rw [Nat.testBit_mod_two_pow] at hb;simp at hb;exact up5 hb.1 hb.2
theorem u67 {x:Nat}:∀ {N:Nat},x % 2 ^ N ≠ 0->∃ j,1<=j /\ j<=N /\ x % 2 ^ j=2 ^ (j - 1)
 | 0,h=>by simp [Nat.mod_one] at h
 | N+1,h=>by
  by_cases e:x % 2 ^ N=0
  ·refine ⟨N+1,by omega,Nat.le_refl _,?_⟩
   rw [Nat.mod_pow_succ,e] at h ⊢;have:=Nat.mod_lt (x / 2 ^ N) (by decide:0 < 2);have h2:x / 2 ^ N % 2=1:=by
    rcases Nat.eq_zero_or_pos (x / 2 ^ N % 2) with z | z
    ·rw [z] at h;simp at h
    ·omega
   rw [h2];simp
  ·obtain ⟨j,h1,h2,h3⟩:=u67 e
   exact ⟨j,h1,by omega,h3⟩
theorem greatest {P:Nat->Prop}:∀ {N:Nat},(∃ j,j<=N /\ P j)->∃ m,m<=N /\ P m /\ ∀ j,j<=N->P j->j<=m
 | 0,⟨j,h1,h2⟩=>⟨0,Nat.le_refl _,by rwa [show j=0 by omega] at h2,fun j h _=>h⟩
 | N+1,h=>by
  by_cases e:P (N+1)
  ·exact ⟨N+1,Nat.le_refl _,e,fun j h _=>h⟩
  ·obtain ⟨j,h1,h2⟩:=h
   have hj:j<=N:=by
    rcases Nat.lt_or_ge N j with z | z
    ·exact absurd (by rwa [show j=N+1 by omega] at h2) e
    ·exact z
   obtain ⟨m,q1,q2,q3⟩:=greatest ⟨j,hj,h2⟩;refine ⟨m,by omega,q2,fun i hi hp=>?_⟩
   rcases Nat.lt_or_ge N i with z | z
   ·exact absurd (by rwa [show i=N+1 by omega] at hp) e
   ·exact q3 i z hp
theorem ub2 {P:Nat->Prop}:∀ {w:List Mv} {x:Nat},(∃ y ∈ x::sbh x w,P y)->∃ u v,w=u++v /\ P (fin x u) /\ ∀ y ∈ sbh (fin x u) v,¬ P y
 | [],x,⟨y,hy,h⟩=>by
  have e:y=x:=by simpa [sbh] using hy
  subst e;exact ⟨[],[],rfl,h,fun z hz=>by simp [sbh] at hz⟩
 | p::r,x,h=>by
  by_cases e:∃ y ∈ xr x p.2::sbh (xr x p.2) r,P y
  ·obtain ⟨u,v,h1,h2,h3⟩:=ub2 e
   exact ⟨p::u,v,by rw [h1];rfl,h2,h3⟩
  ·obtain ⟨y,hy,hP⟩:=h
   have hx:y=x:=by
    rcases List.mem_cons.mp hy with z | z
    ·exact z
    ·exact absurd ⟨y,z,hP⟩ e
   subst hx;exact ⟨[],p::r,rfl,hP,fun z hz hp=>e ⟨z,hz,hp⟩⟩
theorem ur2:∀ {u v:List Mv} {x y:Nat},y ∈ fin x u::sbh (fin x u) v->y ∈ x::sbh x (u++v)
 | [],_,_,_,h=>h
 | p::u,v,x,y,h=>List.mem_cons_of_mem _ (ur2 (u:=u) h)
theorem un1 {u v:List Mv} {x y:Nat} (h:y ∈ x::sbh x u):y ∈ x::sbh x (u++v):=by
 rw [uy8]
 rcases List.mem_cons.mp h with e | e
 ·subst e;exact List.mem_cons_self ..
 ·exact List.mem_cons_of_mem _ (List.mem_append_left _ e)
end
section
variable {c:Nat->Int} {s a b e n:Nat} {x:Int}
theorem Pa.upw (h:Pa (fun i=>c (i+a)) s b e x):Pa c s (b+a) (e+a) x:=by
 generalize hc':(fun i=>c (i+a))=c' at h
 induction h with
 | @one p b =>
  subst hc'
  show Pa c (p+1) (b+a) (b+1+a) (c (b+a))
  rw [show b+1+a=b+a+1 by omega];exact .one
 | two _ _ _ i1 i2 i3=>exact .two i1 i2 i3
theorem Pr.upw (h:Pr (fun i=>c (i+a)) n s b x):Pr c (n+a) s (b+a) x:=by
 generalize hc':(fun i=>c (i+a))=c' at h
 induction h with
 | @one p b he =>
  subst hc';exact .one (by omega)
 | two h1 _ i2=>subst hc';exact .two h1.upw i2
theorem Pa.dnw (h:Pa c s b e x):a<=b->Pa (fun i=>c (i+a)) s (b - a) (e - a) x:=by
 induction h with
 | @one p b =>
  intro ha;have:Pa (fun i=>c (i+a)) (p+1) (b - a) (b - a+1) ((fun i=>c (i+a)) (b - a)):=.one;rw [show b+1 - a=b - a+1 by omega];simpa only [show b - a+a=b by omega] using this
 | two h1 _ _ i1 i2 i3=>intro ha;have:=h1.lt;exact .two (i1 ha) (i2 (by omega)) (i3 ha)
theorem Pa.wok (h:Pa c s b e x):∃ g,WOK b e s true g /\ wk c g=x:=by
 induction h with
 | @one p b=>exact ⟨_,um6 (by omega),by show c (b+1 - 1)+0=c b;rw [Nat.add_sub_cancel];omega⟩
 | two h1 h2 h3 i1 i2 i3 =>
  obtain ⟨g1,a1,e1⟩:=i1;obtain ⟨g2,a2,e2⟩:=i2;obtain ⟨g3,a3,e3⟩:=i3;exact ⟨_,ui5 h1.lt.1 h2.lt.1 a1 a2 a3,by rw [u45,u45,ux8,e1,e2,e3]⟩
theorem Pa.way (h:Pa c s b e x):∃ g,lgw (e - b) s 0 g /\ fin 0 g=2 ^ (e - b - 1) /\ wk (fun i=>c (i+b)) g=x:=by
 have h':=h.dnw (Nat.le_refl b);rw [Nat.sub_self] at h';obtain ⟨g,h1,h2⟩:=h'.wok;exact ⟨g,(h1.start (Nat.le_refl _) (Nat.le_refl _)).1,h1.left (by have:=h.lt;omega) (Nat.le_refl _) (Nat.le_refl _),h2⟩
theorem Pa.less (hc:∀ i,0<=c i) (h:Pa c s b e x):∀ q,b<=q->q < e->∃ y,Pa c s q e y /\ y<=x:=by
  induction h with
  | @one p b => intro q h1 h2; have : q = b := by omega
                subst this;exact ⟨_,.one,Int.le_refl _⟩
  | @two p b m e w1 w2 w3 h1 h2 h3 i1 i2 i3 =>
    intro q q1 q2;have p1:=h1.pos hc;have p2:=h2.pos hc;have p3:=h3.pos hc
    rcases Nat.lt_or_ge q m with z | z
    · obtain ⟨y1,r1,s1⟩:=i1 q q1 z
      obtain ⟨y3,r3,s3⟩:=i3 q q1 z;exact ⟨_,.two r1 h2 r3,by omega⟩
    · obtain ⟨y2,r2,s2⟩:=i2 q z q2
      exact ⟨y2,r2.more,by omega⟩
theorem vd0 {w:List Mv} {N:Nat} (hN:n<=N) (h:lgw n s 0 w):lgw N s 0 w:=by
 have hall:=ug1 (by rw [u34];omega) h;have hlt:=ua7 (Nat.two_pow_pos n) (u72 h);refine ub1 ?_ fun y hy=>?_
 ·have:∀ {w:List Mv} {x:Nat},lgr n x w->lgr N x w:=by
   intro w
   induction w with
   | nil=>intro _ _;trivial
   | cons p r ih=>intro x hx;exact ⟨⟨⟨hx.1.1.1,by have:=hx.1.1.2;omega⟩,hx.1.2⟩,ih hx.2⟩
  exact this (uf8 h)
 ·obtain ⟨k,rfl⟩:∃ k,N=n+k:=⟨N - n,by omega⟩
  rw [v66 (hlt y (List.mem_cons_of_mem _ hy))];exact hall y (List.mem_cons_of_mem _ hy)
end
theorem pow_lo {n m:Nat} (h:m < n):2 ^ (n - 1) % 2 ^ m=0:=by
 rw [show n - 1=(n - 1 - m)+m by omega,Nat.pow_add];exact Nat.mul_mod_left _ _
theorem ur8 {n m:Nat} (h:m < n):2 ^ (n - 1) / 2 ^ m=2 ^ (n - m - 1):=by
 rw [show n - 1=(n - m - 1)+m by omega,Nat.pow_add,Nat.mul_div_cancel _ (Nat.two_pow_pos m)]
theorem vy4 {n x:Nat} (h:x % 2 ^ n=0):cnt (n+1) x<=1:=by
 have:cnt n x=0:=by
  rw [<- ut9,h,u34]
 rw [cnt,this];split <;> omega
theorem uu6 {n s:Nat} {w:List Mv} (hn:2<=n) (h:lgw n s 0 w) (hb:(fin 0 w).testBit (n - 1)=true):2<=s:=by
 obtain ⟨u,v,rfl,h1,h2⟩:=ub2 (w:=w) (P:=fun y=>y.testBit (n - 1)=false) ⟨0,List.mem_cons_self ..,Nat.zero_testBit _⟩;cases v with
 | nil=>rw [List.append_nil,h1] at hb;cases hb
 | cons p r =>
  obtain ⟨⟨q1,q2,q3,q4⟩,_⟩:=(lgw_app.mp h).2;have hx:=h2 (xr (fin 0 u) p.2) (List.mem_cons_self ..);have hp:p.2 - 1=n - 1:=by
   by_cases e:p.2 - 1=n - 1
   ·exact e
   ·rw [u26,decide_eq_false e,Bool.xor_false] at hx
    exact absurd h1 hx
  have hs:stb p.2 (fin 0 u)=false:=by unfold stb;rw [hp];exact h1
  rw [hs] at q3;have:=q4 q3
  rcases q2 with z | z
  ·omega
  ·have:=up5 (m:=n) (by omega) z
   omega
theorem up8 {n m:Nat}:(2 ^ n).testBit m=decide (n=m):=Nat.testBit_two_pow
theorem wc0 {x m:Nat} (h:x / 2 ^ m=0):x < 2 ^ m:=by
 rcases (Nat.div_eq_zero_iff).mp h with z | z
 ·have:=Nat.two_pow_pos m;omega
 ·exact z
theorem un3:∀ {u v:List Mv} {x:Nat},nrm x (u++v)->∀ p ∈ u,∀ y ∈ fin x u::sbh (fin x u) v,p.2<=hi y
 | [],_,_,_,p,hp=>by simp at hp
 | q::u,v,x,⟨h1,h2⟩,p,hp=>by
  intro y hy
  rcases List.mem_cons.mp hp with e | hp
  ·subst e
   exact low_le.mp h1 y (ur2 (u:=u) hy)
  ·exact un3 (u:=u) h2 p hp y hy
theorem vk7 {m:Nat}:∀ {w:List Mv},(∀ p ∈ w,p.2<=m)->lo m w=w
 | [],_=>rfl
 | p::w,h=>by rw [vv4 (h p (List.mem_cons_self ..)),vk7 fun q hq=>h q (List.mem_cons_of_mem _ hq)]
theorem ut1 {x m:Nat} (h:x < 2 ^ m):hi x<=m:=by
 rcases Nat.lt_or_ge m (hi x) with z | z
 ·have hb:=vl2 (m:=x) (by omega)
  have:=Nat.ge_two_pow_of_testBit hb;have:=Nat.pow_le_pow_right (n:=2) (by decide) (by omega:m<=hi x - 1);omega
 ·exact z
theorem we0 {x m:Nat} (h:m+1<=hi x):x / 2 ^ m ≠ 0:=fun e=>by
 have:=ut1 (wc0 e);omega
theorem ur9 {x n:Nat} (hx:x < 2 ^ n) (hn:1<=n) (h:x % 2 ^ (n - 1)=0) (h0:x ≠ 0):x=2 ^ (n - 1):=by
 have e:=Nat.div_add_mod x (2 ^ (n - 1));have e2:2 ^ n=2 ^ (n - 1) * 2:=by rw [<- Nat.pow_succ];congr 1;omega
 rw [h] at e;have:x / 2 ^ (n - 1) < 2:=by rw [Nat.div_lt_iff_lt_mul (Nat.two_pow_pos _),Nat.mul_comm,<- e2];exact hx
 have:x / 2 ^ (n - 1)=1:=by
  rcases Nat.eq_zero_or_pos (x / 2 ^ (n - 1)) with z | z
  ·rw [z] at e;omega
  ·omega
 rw [this] at e;omega
theorem uj8 {x q p:Nat} (h:q<=p) (hx:x % 2 ^ q ≠ 0):x % 2 ^ p ≠ 0:=fun e=>hx (by
 rw [<- Nat.mod_mod_of_dvd x (Nat.pow_dvd_pow 2 h),e,Nat.zero_mod])
section
variable {c:Nat->Int} {n s:Nat}
theorem uk3 {m p:Nat} {v:List Mv} {y:Int} (hs:1<=s) (hpm:p < m) (hmn:m < n) (hv:lgr n (2 ^ (m - 1)) v) (hf:fin (2 ^ (m - 1)) v=2 ^ (n - 1))
  (hcn:∀ x ∈ sbh (2 ^ (m - 1)) v,cnt (n - p) (x / 2 ^ p)<=s) (hy:Pa c s p m y)
  (IH:∀ (c:Nat->Int) (w:List Mv),(∀ i,0<=c i)->lgw (n - p) s 0 w->fin 0 w=2 ^ (n - p - 1)->∃ x,Pa c s 0 (n - p) x /\ x<=wk c w) (hc:∀ i,0<=c i) :
  ∃ z,Pa c s p n z /\ z<=y+wk (fun i=>c (i+p)) (up p v):=by
 obtain ⟨g,g1,g2,g3⟩:=hy.way;obtain ⟨u1,u2,u3⟩:=us7 (m:=p) hv;rw [ur8 hpm] at u1 u2 u3;rw [hf,ur8 (by omega)] at u2;have hw:lgw (n - p) s 0 (g++up p v):=by
  rw [lgw_app,g2];refine ⟨vd0 (by (clear u3 u2 g3 g2 hc IH hcn hf hs;omega)) g1,ub1 u1 fun x hx=>?_⟩;obtain ⟨z,hz,rfl⟩:=u3 x hx;exact hcn z hz
 obtain ⟨z,z1,z2⟩:=IH (fun i=>c (i+p)) _ (fun i=>hc _) hw (by rw [u24,g2,u2]);have z3:=z1.upw;rw [Nat.zero_add,show n - p+p=n by (clear z2 u3 u2 g3 g2 hc IH hcn hf hs;omega)] at z3;exact ⟨z,z3,by rw [u45,g3] at z2;exact z2⟩
theorem uf1 {m:Nat} {u:List Mv} {y:Nat} (hu:lgr n y u) (hy:y % 2 ^ m=0) (hf:fin y u % 2 ^ m=2 ^ (m - 1)) (hcn:∀ x ∈ sbh y u,cnt m x<=s)
  (IH:∀ (c:Nat->Int) (w:List Mv),(∀ i,0<=c i)->lgw m s 0 w->fin 0 w=2 ^ (m - 1)->∃ x,Pa c s 0 m x /\ x<=wk c w) (hc:∀ i,0<=c i) :
  ∃ x,Pa c s 0 m x /\ x<=wk c (lo m u):=by
 obtain ⟨u1,u2,u3⟩:=v32 (m:=m) hu;rw [hy] at u1 u2 u3;refine IH c _ hc (ub1 u1 fun x hx=>?_) (u2.trans hf);obtain ⟨z,hz,rfl⟩:=u3 x hx;rw [ut9];exact hcn z hz
theorem uj5 {m:Nat} {u:List Mv} {y:Nat} (hu:lgr n y u) (hy:y % 2 ^ m=2 ^ (m - 1)) (hf:fin y u % 2 ^ m=0) (hcn:∀ x ∈ y::sbh y u,cnt m x<=s)
  (IH:∀ (c:Nat->Int) (w:List Mv),(∀ i,0<=c i)->lgw m s 0 w->fin 0 w=2 ^ (m - 1)->∃ x,Pa c s 0 m x /\ x<=wk c w) (hc:∀ i,0<=c i) :
  ∃ x,Pa c s 0 m x /\ x<=wk c (lo m u):=by
 obtain ⟨u1,u2,u3⟩:=v32 (m:=m) hu;have h0:=hcn y (List.mem_cons_self ..);rw [<- ut9] at h0;have hw:lgw m s (y % 2 ^ m) (lo m u):=ub1 u1 fun x hx=>by
  obtain ⟨z,hz,rfl⟩:=u3 x hx;rw [ut9];exact hcn z (List.mem_cons_of_mem _ hz)
 obtain ⟨b1,b2⟩:=ug0 h0 hw;rw [u2,hf] at b1 b2;obtain ⟨x,x1,x2⟩:=IH c _ hc b1 (b2.trans hy);exact ⟨x,x1,by rwa [ux8] at x2⟩
end
theorem u48:∀ (n:Nat) (c:Nat->Int) (s:Nat) (w:List Mv),n<=900->1<=n->(∀ i,0<=c i)->lgw n s 0 w->fin 0 w=2 ^ (n - 1)->∃ x,Pa c s 0 n x /\ x<=wk c w:=by
  intro n
  induction n using Nat.strongRecOn with
  | _ n ihn =>
  intro c s w h900 hn hc hw hf;have IH:∀ (m s:Nat),1<=m->m < n->∀ (c:Nat->Int) (w:List Mv),(∀ i,0<=c i)->lgw m s 0 w->fin 0 w=2 ^ (m - 1)->∃ x,Pa c s 0 m x /\ x<=wk c w:=fun m s h1 h2 c w=>ihn m h2 c s w (by omega) h1
  clear ihn;generalize hlen:w.length=len
  induction len using Nat.strongRecOn generalizing w with
  | _ len ihl =>
  by_cases hth:once w=w
  case neg =>
    have hlt:(once w).length < w.length:=by
      rcases Nat.lt_or_ge (once w).length w.length with z | z
      · exact z
      · exact absurd (va9 (by have:=va8 w;omega)) hth
    have z0:0 % 2 ^ low 0 w=0:=Nat.zero_mod _;have l1:=uo1 hw;rw [z0] at l1;have l2:=uo7 (v30 h900 hw);rw [z0] at l2;obtain ⟨x,x1,x2⟩:=ihl _ (by rw [<- hlen];exact hlt) (once w) l1 (l2.trans hf) rfl;exact ⟨x,x1,Int.le_trans x2 (w15 hc thw_sub)⟩
  case pos =>
  clear ihl hlen;have thin:=vk0 hth;have hall:=ug1 (by rw [u34];omega) hw;have hlt:=ua7 (Nat.two_pow_pos n) (u72 hw);have hne:∃ r,w=(true,1)::r:=by
    cases w with
    | nil => have h0 : 0 = 2 ^ (n - 1) := hf
             have:=Nat.two_pow_pos (n - 1);omega
    | cons p r =>
      obtain ⟨⟨q1,q2,q3,q4⟩,_⟩:=hw;have e2:p.2=1:=q2.resolve_right (by rw [Nat.zero_testBit];exact Bool.false_ne_true);have e1:p.1=true:=by rw [q3];unfold stb;rw [Nat.zero_testBit];rfl
      exact ⟨r,by rw [<- e1,<- e2]⟩
  obtain ⟨r,hr⟩:=hne;have hs1:1<=s:=by
    rw [hr] at hw;have:=hw.1.2.2.2 rfl;rw [u34] at this;omega
  by_cases hn1:n=1
  · subst hn1
    obtain ⟨s,rfl⟩:∃ k,s=k+1:=⟨s - 1,by omega⟩;refine ⟨c 0,.one,?_⟩;rw [hr];have:=ui6 hc (w:=r)
    show c 0<=c 0+wk c r
    omega
  have hs2:2<=s:=uu6 (by omega) hw (by rw [hf,up8,decide_eq_true rfl]);obtain ⟨s,rfl⟩:∃ k,s=k+1:=⟨s - 1,by omega⟩;have hs:1<=s:=by omega
  obtain ⟨m,hm1,⟨hm0,hmx⟩,hmax⟩:=greatest (N:=n - 1) (P:=fun m=>1<=m /\ ∃ x ∈ 0::sbh 0 w,x % 2 ^ m=2 ^ (m - 1)) ⟨1,by omega,Nat.le_refl _,xr 0 1,by rw [hr];simp [sbh],by unfold xr;simp⟩;have H:∀ x ∈ 0::sbh 0 w,x % 2 ^ (n - 1) ≠ 0->x % 2 ^ m ≠ 0:=by
    intro x hx h;obtain ⟨j,j1,j2,j3⟩:=u67 h;have:=hmax j j2 ⟨j1,x,hx,j3⟩;exact uj8 this (by rw [j3];exact Nat.ne_of_gt (Nat.two_pow_pos _))
  have H0:∀ q x,x ∈ 0::sbh 0 w->q < n->(x % 2 ^ q ≠ 0 \/ x=0 \/ x=2 ^ (n - 1))->cnt (n - q) (x / 2 ^ q)<=s:=by
    intro q x hx hq h
    rcases h with h | h | h
    · have h1:=uh6 h
      have h2:=hall x hx;rw [ul3 (by omega:q<=n)] at h2;omega
    · rw [h,Nat.zero_div,u34];omega
    · rw [h,ur8 hq]
      have:=vy4 (n:=n - q - 1) (x:=2 ^ (n - q - 1)) (Nat.mod_self _);rw [show n - q - 1+1=n - q by (clear this h H hm0 hmax hm1 hs hs2 hs1 hall hn1 hr hlt hth hf IH hc hn h900;omega)] at this;omega
  have H1:∀ q x,x ∈ 0::sbh 0 w->q<=n->x / 2 ^ q ≠ 0->cnt q x<=s:=by
    intro q x hx hq h;have h2:=hall x hx;rw [ul3 hq] at h2;have h3:x / 2 ^ q < 2 ^ (n - q):=by
      rw [Nat.div_lt_iff_lt_mul (Nat.two_pow_pos _),<- Nat.pow_add,show n - q+q=n by omega];exact hlt x hx
    have:=uh6 (m:=n - q) (x:=x / 2 ^ q) (by rw [Nat.mod_eq_of_lt h3];exact h);omega
  obtain ⟨u,v,rfl,hu,hv⟩:=ub2 hmx;have lr:=uf8 hw;obtain ⟨lu,lv⟩:=lgw_app.mp hw;have ru:=uf8 lu;have rv:=uf8 lv;rw [u24] at hf;have inu:∀ x ∈ sbh 0 u,x ∈ 0::sbh 0 (u++v):=fun x hx=>un1 (List.mem_cons_of_mem _ hx)
  have inv:∀ x ∈ fin 0 u::sbh (fin 0 u) v,x ∈ 0::sbh 0 (u++v):=fun x hx=>ur2 hx
  have hcm:∀ x ∈ sbh 0 u,cnt m x<=s+1:=fun x hx=>by
    have:=hall x (inu x hx);rw [ul3 (by omega:m<=n)] at this;omega
  by_cases hcase:∀ x ∈ fin 0 u::sbh (fin 0 u) v,x / 2 ^ m ≠ 0
  · obtain ⟨x1,a1,b1⟩:=uf1 ru (Nat.zero_mod _) hu hcm (IH m (s+1) hm0 (by omega)) hc
    obtain ⟨x3,a3,b3⟩:=uj5 (s:=s) rv hu (by rw [hf];exact pow_lo (by omega)) (fun x hx=>H1 m x (inv x hx) (by omega) (hcase x hx)) (IH m s hm0 (by omega)) hc;obtain ⟨u1,u2,u3⟩:=us7 (m:=m) lr;rw [Nat.zero_div] at u1 u2 u3;have hup:lgw (n - m) s 0 (up m (u++v)):=ub1 u1 fun y hy=>by
      obtain ⟨z,hz,rfl⟩:=u3 y hy;have hz:=List.mem_cons_of_mem 0 hz;refine H0 m z hz (by omega) ?_
      by_cases e:z % 2 ^ (n - 1)=0
      · by_cases e0:z=0
        · exact .inr (.inl e0)
        · exact .inr (.inr (ur9 (hlt z hz) hn e e0))
      · exact .inl (H z hz e)
    obtain ⟨x2,a2,b2⟩:=IH (n - m) s (by (clear u3 u2 b3 b1 hcase hcm inv inu hv hu H1 H0 H hmax hall hr hlt hth hf hm0 hs hs2 hs1 hn1 IH hc;omega)) (by omega) (fun i=>c (i+m)) _ (fun i=>hc _) hup (by rw [u2,u24,hf,ur8 (by omega)]);have a2:=a2.upw;rw [Nat.zero_add,show n - m+m=n by (clear b2 u3 u2 b3 b1 hcase hcm inv inu hv hu H1 H0 H hmax hall hr hlt hth hf hm0 hs hs2 hs1 hn1 IH hc;omega)] at a2;refine ⟨_,.two a1 a2 a3,?_⟩;rw [u76 (m:=m),v29,u45]
    (clear u3 u2 hcase hcm inv inu hv hu H1 H0 H hmax hall hr hlt hth hf hm0 hm1 hs hs2 hs1 hn1 IH hc hn h900;omega)
  · -- it goes back to no mark above m
    have hcase:∃ x,x ∈ fin 0 u::sbh (fin 0 u) v /\ x / 2 ^ m=0:=by
      by_cases e:∃ x,x ∈ fin 0 u::sbh (fin 0 u) v /\ x / 2 ^ m=0
      · exact e
      · exact absurd (fun x hx h=>e ⟨x,hx,h⟩) hcase
    obtain ⟨t,ht,ht0⟩:=hcase;have ule:∀ p ∈ u,p.2<=m:=fun p hp=>Nat.le_trans (un3 thin p hp t ht) (ut1 (wc0 ht0))
    have eu:fin 0 u=2 ^ (m - 1):=by
      have h1:fin 0 u < 2 ^ m:=ua7 (Nat.two_pow_pos m) (fun p hp=>⟨(u72 lu p hp).1,ule p hp⟩) _ u90;rw [Nat.mod_eq_of_lt h1] at hu;exact hu
    obtain ⟨x1,a1,b1⟩:=uf1 ru (Nat.zero_mod _) hu hcm (IH m (s+1) hm0 (by omega)) hc;rw [vk7 ule] at b1;rw [eu] at hf hv rv lv inv;have hlay:∃ p ∈ u,p.2=m:=by
      by_cases e:∃ p ∈ u,p.2=m
      · exact e
      · have h1 : fin 0 u < 2 ^ (m - 1) := ua7 (Nat.two_pow_pos _) (fun p hp => ⟨(u72 lu p hp).1,by
          have:=ule p hp
          rcases Nat.lt_or_ge p.2 m with z | z
          · omega
          · exact absurd ⟨p,hp,by omega⟩ e⟩) _ u90
        rw [eu] at h1;exact absurd h1 (Nat.lt_irrefl _)
    obtain ⟨pm,hpm,epm⟩:=hlay;have hhi:∀ x ∈ 2 ^ (m - 1)::sbh (2 ^ (m - 1)) v,m<=hi x:=fun x hx=>by
      have:=un3 thin pm hpm x (by rw [eu];exact hx);omega
    have hvne:v ≠ []:=fun e=>by
      subst e;have hf:2 ^ (m - 1)=2 ^ (n - 1):=hf;have:=Nat.pow_lt_pow_right (a:=2) (by decide) (by omega:m - 1 < n - 1)
      (clear hhi hcase inv inu hv H1 H0 H hmax hall hr hlt hth epm b1 ule ht0 hcm hu hm0 hm1 hs hs2 hs1 hn1 IH hc hn h900;omega)
    have hfirst:1 < m /\ xr (2 ^ (m - 1)) 1 ∈ sbh (2 ^ (m - 1)) v:=by
      cases v with
      | nil=>exact absurd rfl hvne
      | cons p v' =>
        obtain ⟨q1,q2,q3⟩:=rv.1;have hx:xr (2 ^ (m - 1)) p.2 ∈ sbh (2 ^ (m - 1)) (p::v'):=List.mem_cons_self ..;have k1:p.2=1:=by
          rcases q2 with z | z
          · exact z
          · rw [up8] at z
            have z:m - 1=p.2 - 2:=of_decide_eq_true z
            by_cases z1:p.2=1
            · exact z1
            · have hk:m < p.2:=by (clear q3 hvne hhi hcase inv inu hv H1 H0 H hmax hall hr hlt hth hf b1 eu ule ht0 hcm hu hm1 hs hs2 hs1 hn1 IH hc hn h900;omega)
              refine absurd ?_ (hv _ hx);rw [<- ua2 hk];exact Nat.mod_eq_of_lt (Nat.pow_lt_pow_right (by decide) (by (clear hk q3 hvne hhi hcase inv inu hv H1 H0 H hmax hall hr hlt hth hf b1 eu ule ht0 hcm hu hm1 hs hs2 hs1 hn1 IH hc hn h900;omega)))
        rw [k1] at hx;have hm2:1 < m:=by
          rcases Nat.lt_or_ge 1 m with z | z
          · exact z
          · have e:m=1:=by omega
            subst e;have:=hhi _ (List.mem_cons_of_mem _ hx);unfold xr at this;simp [hi] at this
        exact ⟨hm2,hx⟩
    obtain ⟨hm2,hone⟩:=hfirst;obtain ⟨q,hq1,⟨hq0,hqx⟩,hqmax⟩:=greatest (N:=m - 1) (P:=fun q=>1<=q /\ ∃ x ∈ 2 ^ (m - 1)::sbh (2 ^ (m - 1)) v,x % 2 ^ q=2 ^ (q - 1)) ⟨1,by (clear hvne hhi b1 eu ule ht0 hcase hcm inv inu hv hu H1 H0 H hmax hall hr hlt hth hf hm0 hm1 hs hs2 hs1 hn1 IH hc hn h900;omega),Nat.le_refl _,_,List.mem_cons_of_mem _ hone,by
      have hb:(xr (2 ^ (m - 1)) 1).testBit 0=true:=by rw [u26,up8,decide_eq_false (by (clear hvne hhi b1 eu ule ht0 hcase hcm inv inu hv hu H1 H0 H hmax hall hr hlt hth hf hm0 hm1 hs hs2 hs1 hn1 IH hc hn h900;omega):¬ m - 1=0)];rfl
      rw [Nat.testBit_zero] at hb;exact of_decide_eq_true hb⟩
    have H2:∀ x ∈ sbh (2 ^ (m - 1)) v,x % 2 ^ q ≠ 0 \/ x=0 \/ x=2 ^ (n - 1):=by
      intro x hx;have hxw:=inv x (List.mem_cons_of_mem _ hx)
      by_cases e:x % 2 ^ (m - 1)=0
      · by_cases e1:x % 2 ^ (n - 1)=0
        · by_cases e0:x=0
          · exact .inr (.inl e0)
          · exact .inr (.inr (ur9 (hlt x hxw) hn e1 e0))
        · have e2:=H x hxw e1
          obtain ⟨j,j1,j2,j3⟩:=u67 e2
          rcases Nat.lt_or_ge j m with z | z
          · have:=uj8 (x:=x) (q:=j) (p:=m - 1) (by (clear j3 j2 j1 e hq0 hqmax hq1 hvne hhi b1 eu ule ht0 hcase hcm inv inu hv hu H1 H0 H hmax hall hr hlt hth hf hm0 hm1 hs hs2 hs1 hn1 IH hc hn h900;omega)) (by rw [j3];exact Nat.ne_of_gt (Nat.two_pow_pos _))
            exact absurd e this
          · have:j=m:=by (clear j3 j1 e2 e1 e hq0 hqmax hq1 hm2 hvne hhi b1 eu ule ht0 hcase hcm inv inu hv hu H1 H0 H hmax hall hr hlt hth hf hm0 hm1 hs hs2 hs1 hn1 IH hc hn h900;omega)
            subst this;exact absurd j3 (hv x hx)
      · obtain ⟨j,j1,j2,j3⟩:=u67 e
        have:=hqmax j j2 ⟨j1,x,List.mem_cons_of_mem _ hx,j3⟩;exact .inl (uj8 this (by rw [j3];exact Nat.ne_of_gt (Nat.two_pow_pos _)))
    rw [u45];generalize hgM:m=M at a1;cases a1 with
    | one=>omega
    | @two _ _ p _ y1 y2 y3 d1 d2 d3 =>
    subst hgM;have hp1:=d1.lt;have hp2:=d2.lt
    rcases Nat.lt_or_ge p q with hpq | hpq
    · obtain ⟨y2',d2',l2'⟩:=d2.less hc q (by omega) (by (clear hpq hp2 hp1 b1 H2 hq0 hqmax hvne hhi eu ule ht0 hcase hcm inv inu hv hu H1 H0 H hmax hall hr hlt hth hf hm0 hm1 hs hs2 hs1 hn1 IH hc hn h900;omega))
      obtain ⟨z2,e2,f2⟩:=uk3 hs (by (clear l2' hpq hp2 hp1 b1 H2 hq0 hqmax hvne hhi eu ule ht0 hcase hcm inv inu hv hu H1 H0 H hmax hall hr hlt hth hf hm0 hm1 hs hs2 hs1 hn1 IH hc hn h900;omega)) (by (clear l2' hpq hp2 hp1 b1 H2 hq0 hqmax hq1 hvne hhi eu ule ht0 hcase hcm inv inu hv hu H1 H0 H hmax hall hr hlt hth hf hm0 hs hs2 hs1 hn1 IH hc;omega)) rv hf (fun x hx=>H0 q x (inv x (List.mem_cons_of_mem _ hx)) (by omega) (H2 x hx)) d2' (IH (n - q) s (by (clear l2' hpq hp2 hp1 b1 H2 hq0 hqmax hvne hhi eu ule ht0 hcase hcm inv inu hv hu H1 H0 H hmax hall hr hlt hth hf hm0 hs hs2 hs1 hn1 IH hc;omega)) (by (clear l2' hp2 b1 H2 hq0 hqmax hq1 hm2 hvne hhi epm eu ule ht0 hcase hcm inv inu hv hu H1 H0 H hmax hall hr hlt hth hf hm0 hm1 hs hs2 hs1 hn1 IH hc;omega))) hc;obtain ⟨v1,v2,rfl,hv1,_⟩:=ub2 hqx;obtain ⟨lv1,lv2⟩:=lgw_app.mp lv;rw [u24] at hf;have hq':∀ x ∈ 2 ^ (m - 1)::sbh (2 ^ (m - 1)) (v1++v2),cnt q x<=s:=fun x hx=>H1 q x (inv x hx) (by omega) (we0 (by have:=hhi x hx;(clear hv1 f2 H2 hqmax hvne hhi hcase inv inu hv H1 H0 H hmax hall hr hlt hth hf l2' hpq hp2 hp1 b1 hq0 eu ule ht0 hcm hu hm0 hm1 hs hs2 hs1 hn1 IH hc hn h900;omega)))
      obtain ⟨z1,e1,f1⟩:=uf1 (s:=s) (uf8 lv1) (pow_lo (by omega)) hv1 (fun x hx=>hq' x (un1 (List.mem_cons_of_mem _ hx))) (IH q s hq0 (by omega)) hc;obtain ⟨z3,e3,f3⟩:=uj5 (s:=s) (uf8 lv2) hv1 (by rw [hf];exact pow_lo (by omega)) (fun x hx=>hq' x (ur2 hx)) (IH q s hq0 (by omega)) hc;refine ⟨_,.two e1.more e2 e3,?_⟩;have:=d1.pos hc;have:=d3.pos hc;rw [u76 (m:=q) (w:=v1++v2),v29,u45]
      (clear hq' hv1 H2 hqmax hvne hhi hcase inv inu hv H1 H0 H hmax hall hr hlt hth hf hpq hp2 hp1 hq0 hq1 hm2 epm eu ule ht0 hcm hu hm0 hm1 hs hs2 hs1 hn1 IH hc hn h900;omega)
    · obtain ⟨z2,e2,f2⟩:=uk3 hs (by omega) (by (clear hpq hp2 hp1 b1 H2 hq0 hqmax hq1 hvne hhi eu ule ht0 hcase hcm inv inu hv hu H1 H0 H hmax hall hr hlt hth hf hm0 hs hs2 hs1 hn1 IH hc;omega)) rv hf (fun x hx=>H0 p x (inv x (List.mem_cons_of_mem _ hx)) (by (clear hpq hp1 b1 H2 hq0 hqmax hq1 hvne hhi eu ule ht0 hcase hcm inv inu hv hu H1 H0 H hmax hall hr hlt hth hf hm0 hs hs2 hs1 hn1 IH hc;omega)) ((H2 x hx).imp_left (uj8 hpq))) d2 (IH (n - p) s (by (clear hpq hp1 b1 H2 hq0 hqmax hq1 hvne hhi eu ule ht0 hcase hcm inv inu hv hu H1 H0 H hmax hall hr hlt hth hf hm0 hs hs2 hs1 hn1 IH hc;omega)) (by (clear hpq hp2 b1 H2 hq0 hqmax hq1 hm2 hvne hhi epm eu ule ht0 hcase hcm inv inu hv hu H1 H0 H hmax hall hr hlt hth hf hm0 hm1 hs hs2 hs1 hn1 IH hc;omega))) hc
      refine ⟨_,.two d1 e2 d3,?_⟩;have:=ui6 hc (w:=lo p v);rw [u76 (m:=p) (w:=v)]
      (clear hpq hp2 hp1 H2 hq0 hqmax hq1 hm2 hvne hhi epm eu ule ht0 hcase hcm inv inu hv hu H1 H0 H hmax hall hr hlt hth hf hm0 hm1 hs hs2 hs1 hn1 IH hc hn h900;omega)
theorem u69:∀ (n:Nat) (c:Nat->Int) (s:Nat) (w:List Mv),n<=900->1<=n->(∀ i,0<=c i)->lgw n s 0 w->(fin 0 w).testBit (n - 1)=true->∃ x,Pr c n s 0 x /\ x<=wk c w:=by
 intro n
 induction n using Nat.strongRecOn with
 | _ n ih =>
 intro c s w h900 hn hc hw hf;have hall:=ug1 (by rw [u34];omega) hw;have hlt:=ua7 (Nat.two_pow_pos n) (u72 hw);have hend:(fin 0 w) % 2 ^ n ≠ 0:=fun e=>by
  have h1:=hlt _ u90;rw [Nat.mod_eq_of_lt h1] at e;rw [e,Nat.zero_testBit] at hf;cases hf
 obtain ⟨j,j1,j2,j3⟩:=u67 hend;obtain ⟨m,hm1,⟨hm0,hmx⟩,hmax⟩:=greatest (N:=n) (P:=fun m=>1<=m /\ ∃ x ∈ 0::sbh 0 w,x % 2 ^ m=2 ^ (m - 1)) ⟨j,j2,j1,_,u90,j3⟩;obtain ⟨u,v,rfl,hu,_⟩:=ub2 hmx;have lr:=uf8 hw;obtain ⟨lu,lv⟩:=lgw_app.mp hw;obtain ⟨x1,a1,b1⟩:=uf1 (s:=s) (uf8 lu) (Nat.zero_mod _) hu (fun x hx=>by
  have:=hall x (un1 (List.mem_cons_of_mem _ hx));rw [ul3 hm1] at this;omega) (fun c w h1 h2 h3=>u48 m c s w (by omega) hm0 h1 h2 h3) hc
 have hwk:wk c (u++v)=wk c (lo m u)+wk c (lo m v)+wk (fun i=>c (i+m)) (up m (u++v)):=by
  rw [u76 (m:=m),v29,u45]
 have n1:=ui6 hc (w:=lo m v);have n2:=ui6 (c:=fun i=>c (i+m)) (fun i=>hc _) (w:=up m (u++v));rw [hwk]
 by_cases e:m=n
 ·subst e
  obtain ⟨y,y1,y2⟩:=a1.pr hc;exact ⟨y,y1,by (clear hmax hend hlt hall hf hm1 j2 hn h900 ih hu j3 hm0 j1 hc;omega)⟩
 ·obtain ⟨s,rfl⟩:∃ k,s=k+1:=⟨s - 1,by have:=a1.lt;(clear e n2 n1 hwk b1 hu hmax j3 hend hlt hall hf hm0 hm1 j2 j1 hc hn h900 ih;omega)⟩
  obtain ⟨u1,u2,u3⟩:=us7 (m:=m) lr;rw [Nat.zero_div] at u1 u2 u3;have hup:lgw (n - m) s 0 (up m (u++v)):=ub1 u1 fun y hy=>by
   obtain ⟨z,hz,rfl⟩:=u3 y hy;have hz:=List.mem_cons_of_mem 0 hz
   by_cases e0:z=0
   ·rw [e0,Nat.zero_div,u34];omega
   ·obtain ⟨i,i1,i2,i3⟩:=u67 (x:=z) (N:=n) (by rw [Nat.mod_eq_of_lt (hlt z hz)];exact e0)
    have hz2:=uj8 (hmax i i2 ⟨i1,z,hz,i3⟩) (by rw [i3];exact Nat.ne_of_gt (Nat.two_pow_pos _));have h1:=uh6 hz2;have h2:=hall z hz;rw [ul3 hm1] at h2
    (clear hz2 i3 i2 i1 e0 u3 u2 hall e n2 n1 hwk b1 hu hmax j3 hend hlt hf hm0 hm1 j2 j1 hc hn h900 ih;omega)
  obtain ⟨x2,a2,b2⟩:=ih (n - m) (by (clear u3 u2 hall e n2 n1 hwk b1 hu hmax j3 hend hlt hf j2 j1 hc hn h900 ih;omega)) (fun i=>c (i+m)) s _ (by (clear u3 u2 hall e n2 n1 hwk b1 hu hmax j3 hend hlt hf j2 j1 hc ih;omega)) (by (clear u3 u2 hall n2 n1 hwk b1 hu hmax j3 hend hlt hf hm0 j2 j1 hc hn h900 ih;omega)) (fun i=>hc _) hup (by
   rw [u2,u64,show n - m - 1+m=n - 1 by (clear u3 u2 hall n2 n1 hwk b1 hu hmax j3 hend hlt hf hm0 j2 j1 hc ih;omega)];exact hf)
  have a2:=a2.upw;rw [Nat.zero_add,show n - m+m=n by (clear b2 u3 u2 hall e n2 n1 hwk b1 hu hmax j3 hend hlt hf hm0 j2 j1 hc hn h900 ih;omega)] at a2;exact ⟨_,.two a1 a2,by (clear u3 u2 hall e n2 hu hmax j3 hend hlt hf hm0 hm1 j2 j1 hc hn h900 ih;omega)⟩
theorem we7 {c:Nat->Int} {n s:Nat} {far:Int} {w:List Mv} (hc:∀ i,0<=c i) (hn:1<=n) (h9:n<=900) (hf:LeastR c n s 0 far) (hw:lgw n s 0 w) (hb:(fin 0 w).testBit (n - 1)=true):far<=wk c w:=by
 obtain ⟨x,h1,h2⟩:=u69 n c s w h9 hn hc hw hb;exact Int.le_trans (hf.2 x h1) h2
theorem vv5 {c:Nat->Int} {n s:Nat} {far:Int} {w:List Mv} (hc:∀ i,0<=c i) (hn:1<=n) (h9:n<=900) (hf:LeastA c s 0 n far) (hw:lgw n s 0 w) (hb:fin 0 w=2 ^ (n - 1)):far<=wk c w:=by
 obtain ⟨x,h1,h2⟩:=u48 n c s w h9 hn hc hw hb;exact Int.le_trans (hf.2 x h1) h2
end L3
namespace L2
open PySem PySem.Spec PyProof.Rows
section
variable {X:Cx}
theorem uv3 (hu:X.A.units+1 < cLine):OpR X (compareOp .NotIn) (fun x y H Q=>∃ a kvs k,x=kV k /\ y=.ref a /\ (H a=some (.dK kvs) \/ ∃ o,H a=some (.frz o (.dK kvs))) /\ Q (.bl (!(valV kvs k).isSome)) H):=by
 intro pins s σ H x y v u Q I rx ry h;obtain ⟨a,kvs,k,rfl,rfl,ha,q⟩:=h;obtain rfl:u=Value.ref a:=ry;exact vx4 hu I (.inl ⟨kvs,k,ha,rfl,rfl⟩) rx fun s' I'=>⟨.bl _,H,I',rfl,q⟩
end
end L2
namespace L3
open PySem PySem.Spec PyProof.Rows L2
section
variable {X:Cx} {K:W.Frag} {H:Hp}
@[reducible] def w14 (neg:Bool):R3:=fun x y G q=>∃ (k:Key) (kvs:List (Key × D)) (a:Addr),x=kD k /\ y=.ref a /\ (G a=some (.dic kvs) \/ ∃ o,G a=some (.frd o kvs)) /\ q (.bl (if neg then !(valK kvs k).isSome else (valK kvs k).isSome)) G
theorem ur0 {kvs:List (Key × D)} {ys:List (Key × V)} {k:Key} (rp:RelPs K H kvs ys):(valK kvs k).isSome=(valV ys k).isSome:=by
 rcases u56 (k:=k) rp with ⟨z1,z2⟩ | ⟨d',w,z1,z2,z3⟩
 ·rw [z1,z2];rfl
 ·rw [z1,z2];rfl
theorem u75 {k:Nat} (hr:Room k X.A):Op3 X (compareOp .NotIn) (w14 true):=u62 (uv3 (ug4 hr)) <| by
 rintro x y H Q ⟨d,e,G,q,r1,r2,c,⟨k,kvs,a,rfl,rfl,hg,t⟩,f⟩;cases r2.ref_inv;obtain rfl:=ub3 r1
 rcases hg with hg | hg
 ·obtain ⟨ys,e,rp⟩:=c a _ hg
  exact ⟨a,ys,k,rfl,rfl,.inl e,by rw [<- ur0 rp];exact f _ _ _ _ RelD.blI c (Le.refl H) t⟩
 ·obtain ⟨o,hg⟩:=hg
  obtain ⟨ys,e,rp⟩:=c a _ hg;exact ⟨a,ys,k,rfl,rfl,.inr ⟨o,e⟩,by rw [<- ur0 rp];exact f _ _ _ _ RelD.blI c (Le.refl H) t⟩
def v64 (tk tv:TE3):TE3:=fun σ G q=>∀ p,G p=none->tk σ (gup G p (.dic [])) fun x G1=>tv σ G1 fun y G2=>G2 p=some (.dic []) /\ ∃ k:Key,x=kD k /\ q (.ref p) (gup G2 p (.dic [(k,y)]))
theorem v55 {ek ev:Expr} {tk tv:TE3} {pos:Pos} (hk:E3 X ek tk) (hv:E3 X ev tv):E3 X (.Dict [some ek] [ev] pos) (v64 tk tv) :=
 u28 (vr9 (v95 hk hv vr4) rfl rfl (by simp) (by show 1<=15;decide)) fun σ H Q h=>by
  obtain ⟨σd,G,q,rs,c,t,f⟩:=h;intro p hp;have l0:Le H (upd H p (.dK [])):=Le.fresh hp;have c0:Con X.K (gup G p (.dic [])) (upd H p (.dK [])):=c.put (o:=.dic []) l0 ⟨[],u13,rfl,.nil⟩;refine ⟨σd,_,_,rs.le l0,c0,t p (c.fresh hp),fun x G1 v H1 r1 c1 l1 t1=>⟨σd,G1,_,rs.le (l0.trans l1),c1,t1,fun y G2 u H2 r2 c2 l2 t2=>?_⟩⟩;obtain ⟨hg,k,rfl,t3⟩:=t2;obtain rfl:=ub3 r1;obtain ⟨ys,e,rp⟩:=c2 p _ hg;have hy:ys=[]:=by have:=congrArg List.length rp.1;simpa using this.symm
  subst hy;have l5:Le H2 (upd H2 p (.dK (putK [] k u))):=Le.dK e;refine ⟨e,[(k,u)],rfl,by show 1<=15;decide,?_⟩;exact f _ _ _ _ RelD.refI (c2.put (o:=.dic [(k,y)]) l5 ⟨_,u13,(ur6 (k:=k) r2 (K:=X.K) (H:=H2) (kvs:=[]) (ys:=[]) ⟨rfl,.nil⟩).le l5⟩) (l0.trans (l1.trans (l2.trans l5))) t3
end
end L3
namespace L3
open PySem PySem.Spec PyProof.Rows L2 Rw
def RS (n s m:Nat):Prop:=∃ w,lgw n s 0 w /\ fin 0 w=m
section
variable {n s m:Nat}
theorem RS.zero:RS n s 0:=⟨[],trivial,rfl⟩
theorem RS.step {p:Mv} (h:RS n s m) (hp:lgl n s m p):RS n s (xr m p.2):=by
 obtain ⟨w,h1,h2⟩:=h;refine ⟨w++[p],lgw_app.mpr ⟨h1,?_,trivial⟩,?_⟩
 ·rw [h2];exact hp
 ·rw [u24,h2];rfl
theorem RS.lt (h:RS n s m):m < 2 ^ n:=by
 obtain ⟨w,h1,h2⟩:=h;rw [<- h2];exact v31 h1
theorem RS.all {F:List Nat} (h0:0 ∈ F) (hc:∀ x ∈ F,∀ p,lgl n s x p->xr x p.2 ∈ F) (h:RS n s m):m ∈ F:=by
 obtain ⟨w,h1,rfl⟩:=h;have:∀ (w:List Mv) (x:Nat),x ∈ F->lgw n s x w->fin x w ∈ F:=by
  intro w
  induction w with
  | nil=>intro x hx _;exact hx
  | cons p r ih=>intro x hx hw;exact ih _ (hc x hx p hw.1) hw.2
 exact this w 0 h0 h1
theorem ub0:∀ {l:List Nat} {N:Nat},l.Nodup->(∀ x ∈ l,x < N)->l.length<=N
 | l,0,_,h=>by
  cases l with
  | nil=>exact Nat.le_refl _
  | cons x l=>have:=h x List.mem_cons_self;omega
 | l,N+1,hn,h=>by
  have h1:=ub0 (l:=l.erase N) (N:=N) (hn.erase N) fun x hx=>by
   have:=h x (List.mem_of_mem_erase hx);have hne:x ≠ N:=fun e=>by rw [e] at hx;exact (List.Nodup.not_mem_erase hn) hx
   omega
  by_cases hm:N ∈ l
  ·rw [List.length_erase_of_mem hm] at h1;omega
  ·rw [List.erase_of_not_mem hm] at h1;omega
def fdD (F:List Nat):List (Key × D):=F.map fun (x:Nat)=>(Sum.inl (x:Int),D.bl true)
theorem wk8 {F:List Nat} {x:Nat}:(valK (fdD F) (.inl (x:Int))).isSome=decide (x ∈ F):=by
 induction F with
 | nil=>rfl
 | cons y F ih =>
  unfold valK fdD at ih ⊢;rw [List.map_cons,List.find?_cons]
  by_cases e:y=x
  ·subst e;simp
  ·have e2:¬ (y:Int)=(x:Int):=fun z=>e (by omega)
   have e3:¬ x=y:=fun z=>e z.symm
   simp only [Sum.inl.injEq,e2,decide_false,List.mem_cons,e3,false_or];exact ih
theorem we5 {F:List Nat} {x:Nat} (h:¬ x ∈ F):uj3 (fdD F) (.inl (x:Int)) (.bl true)=fdD (F++[x]):=by
 have ha:((fdD F).any fun kv=>decide (kv.1=Sum.inl (x:Int)))=false:=by
  rw [List.any_eq_false];intro kv hk hd;obtain ⟨y,hy,rfl⟩:=List.mem_map.mp hk;have e:(Sum.inl (y:Int):Key)=Sum.inl (x:Int):=of_decide_eq_true hd;injection e with e
  have:y=x:=by omega
  exact h (by rw [<- this];exact hy)
 unfold uj3;rw [if_neg (by rw [ha];exact Bool.false_ne_true)];unfold fdD;rw [List.map_append];rfl
end
theorem uc8:∀ (d f l s:Nat) (b:Bool),l - f<=d->f < l->l - f<=cap s b->∃ w,WOK f l s b w
  | 0,f,l,s,b,h,h1,_=>by omega
  | d+1,f,l,s,b,h,h1,h2=>by
    by_cases e:l - f=1
    · have hl:l=f+1:=by omega
      subst hl;have hs:1<=s:=by
        cases s with
        | zero => have : cap 0 b = 0 := by cases b <;> rfl
                  omega
        | succ s=>omega
      exact ⟨_,um6 hs⟩
    · obtain ⟨s',rfl,c1,c2⟩:=v46 (by omega) h2
      obtain ⟨w2,W2⟩:=uc8 d (f+(l - f+1) / 2) l s' b (by (clear c2 c1 h2;omega)) (by (clear c2 c1 h2 h;omega)) c2;cases b with
      | true =>
        have c1:f+(l - f+1) / 2 - f<=cap s' true:=c1;obtain ⟨w1,W1⟩:=uc8 d f (f+(l - f+1) / 2) (s'+1) true (by (clear c1 c2 h2;omega)) (by (clear c1 c2 h2 h;omega)) (Nat.le_trans c1 ve4);obtain ⟨w3,W3⟩:=uc8 d f (f+(l - f+1) / 2) s' true (by (clear c1 c2 h2;omega)) (by (clear c1 c2 h2 h;omega)) c1;exact ⟨_,ui5 (by (clear c1 c2 h2 h;omega)) (by (clear c1 c2 h2 h;omega)) W1 W2 W3⟩
      | false =>
        have c1:f+(l - f+1) / 2 - f<=cap (s'+1) true:=c1;obtain ⟨w1,W1⟩:=uc8 d f (f+(l - f+1) / 2) (s'+1) true (by (clear c1 c2 h2;omega)) (by (clear c1 c2 h2 h;omega)) c1;exact ⟨_,uq2 (by (clear c1 c2 h2 h;omega)) (by (clear c1 c2 h2 h;omega)) W1 W2⟩
theorem uz5 {n s:Nat} (hn:1<=n) (h9:n<=900):(∃ m,RS n s m /\ m.testBit (n - 1)=true) ↔ n<=cap s false:=by
 constructor
 ·rintro ⟨m,⟨w,h1,h2⟩,hb⟩
  obtain ⟨x,hx,_⟩:=u69 n (fun _=>0) s w h9 hn (fun _=>Int.le_refl _) h1 (by rw [h2];exact hb);have:=hx.cap;omega
 ·intro h
  obtain ⟨w,hw⟩:=uc8 n 0 n s false (by omega) (by omega) (by omega);obtain ⟨h1,h2⟩:=hw.start (n:=n) (S:=s) (Nat.le_refl _) (Nat.le_refl _);exact ⟨_,⟨w,h1,rfl⟩,h2⟩
theorem v78 {n s:Nat} (hn:1<=n) (h9:n<=900):RS n s (2 ^ (n - 1)) ↔ n<=cap s true:=by
 constructor
 ·rintro ⟨w,h1,h2⟩
  obtain ⟨x,hx,_⟩:=u48 n (fun _=>0) s w h9 hn (fun _=>Int.le_refl _) h1 h2;have:=hx.cap;omega
 ·intro h
  obtain ⟨w,hw⟩:=uc8 n 0 n s true (by omega) (by omega) (by omega);obtain ⟨h1,h2⟩:=hw.start (n:=n) (S:=s) (Nat.le_refl _) (Nat.le_refl _);exact ⟨w,h1,hw.left (by omega) (Nat.le_refl _) (Nat.le_refl _)⟩
end L3
namespace L2
open PySem PySem.Spec PyProof.Rows
section
variable {X:Cx} {pins:List (Addr × Obj)} {σ:St} {H:Hp} {s:Shared}
theorem Inv.ledger {h':Heap} {m:Str->Option Value} {tk:Nat} (I:Inv X pins σ H s) (hm:s.heap.Ns X.env.locals m) (hm':h'.Ns X.env.locals m) (k:∀ b o,b ≠ X.env.locals->s.heap.get? b=some o->h'.get? b=some o):Inv X pins σ H { s with heap:=h',toks:=tk }:=by
 have nL:∀ b u,H b=some u->b ≠ X.env.locals:=fun b u e z=>by rw [z,I.free] at e;cases e
 refine I.step (g':=s.gens) (d':=s.drawn) (ch:=[]) (fun _ z=>nomatch z) (fun b o hL _ _ e _=>k b o hL e) (fun b o hL _ _ e _=>⟨o.slots,k b o hL e⟩) (fun _ _ _ _ n=>n) (fun b o _ e=>?_) (fun _ _ e=>e) (fun _ _ _ e=>e) (fun b ps e=>⟨#[],by rw [e];simp⟩) (fun m' h2=>?_) (fun b u e=>?_) I.bare
 ·by_cases hb:b=X.env.locals
  ·obtain ⟨o',_,_,e',_⟩:=hm'
   exact ⟨o',by rw [hb];exact e'⟩
  ·exact ⟨o,k b o hb e⟩
 ·rw [h2.eq_nsMap,<- hm.eq_nsMap];exact hm'
 ·refine (I.hok b u e).stay (fun c v hc q=>k c v ?_ q) (fun _ q=>q) fun _ _ q=>q
  rcases hc with z | z
  ·rw [z];exact nL b u e
  ·exact nL c _ z
end
theorem v34 {P:Program} {w:World} {K:W.Frag} {mg mb:Str->Option Value} {CX:CXT} {k:Nat} {fa a tb bm cc:Addr} {ob:Obj} {fd:FuncData} {x:Str} {sp:Sp} {s₁:Shared} {vs:List Value} {ns:List Int}
  (KX:K.In s₁.heap) (hns:s₁.heap.Ns mainGlobals mg) (hb:s₁.heap.Ns builtinsNs mb) (hbb:∀ x:Str,x ≠ "__name__" -> mb x=bootBuiltins x) (hlim:s₁.heap.NoLimit) (hg:s₁.gens=#[])
  (ha:s₁.heap.get? a=some { cls:=.type "list",data:=.seq vs.toArray }) (hi:IntsAre vs ns) (hl:ns.length<=sizeLine) (hr:Room k callerA)
  (hak:K.lookup a=none) (htb:s₁.heap.get? tb=some (W.tabObj #[])) (htk:K.lookup tb=none) (hbm:s₁.heap.get? bm=some ob) (hbk:K.lookup bm=none) (hb1:ob.cls=.type "module") (hb2:ob.dict=some builtinsNs) (hb3:ob.data=.plain) (hhd:W.codeHdIn K cc tb=true)
  (F:∀ base:Heap,K.In base->base.Ns mainGlobals mg->FnOk P w K mg base CX k fa fd [x] sp) (hbind:∀ (s:Shared) (u:Value),BindsTo s fd ⟨[u],[]⟩ [(x,u)])
  (hsp:∀ H:Hp,H tb=some (.tbl #[])->L3.BmOk H bm->(∃ o,H a=some (.frz o (.lst (ns.map V.int))))->sp [.ref a] H (fun v _=>v=.bl true) fun _ _ _=>False)
  (hCX:∀ H e s',CX [] H s₁ (fun _ _ _=>False) e s'->False) :
  codeAny (model P w) callerA (.call (.ref fa) ⟨[.ref a],[]⟩) (fun r s'=>r=.ok (.ret (.bool true)) /\ OldK s₁.heap s'.heap /\ s'.os=s₁.os /\ AllBare s'.gens) s₁:=by
 have rv:=u77 hi;have nat:a ≠ tb:=fun z=>by rw [z,htb] at ha;cases ha
 have nab:a ≠ bm:=fun z=>by
  rw [z,hbm] at ha;cases ha;injection hb1 with hb1;exact absurd hb1 (by decide)
 have nbt:bm ≠ tb:=fun z=>by rw [z,htb] at hbm;cases hbm;cases hb1
 obtain ⟨H,hH⟩:∃ H:Hp,H=fun b=>if b=a then some (.frz { cls:=.type "list",data:=.seq vs.toArray } (.lst (ns.map V.int))) else if b=tb then some (.tbl #[]) else if b=bm then some (.frz ob (.ext fun h=>h.get? bm=some ob)) else none:=⟨_,rfl⟩
 have Ha:H a=some (.frz { cls:=.type "list",data:=.seq vs.toArray } (.lst (ns.map V.int))):=by rw [hH];exact if_pos rfl
 have Ht:H tb=some (.tbl #[]):=by rw [hH];simp [Ne.symm nat]
 have Hb:H bm=some (.frz ob (.ext fun h=>h.get? bm=some ob)):=by rw [hH];simp [Ne.symm nab,nbt]
 have Ho:∀ b u,H b=some u->b=a \/ b=tb \/ b=bm:=fun b u e=>by
  rw [hH] at e
  by_cases z1:b=a
  ·exact .inl z1
  ·by_cases z2:b=tb
   ·exact .inr (.inl z2)
   ·by_cases z3:b=bm
    ·exact .inr (.inr z3)
    ·simp [z1,z2,z3] at e
 have hok:HOk P w H s₁.heap:=fun b u e=>by
  rcases Ho b u e with rfl | rfl | rfl
  ·rw [Ha] at e;cases e
   exact ⟨ha,by rw [List.length_map];exact hl,vs,_,rv,ha⟩
  ·rw [Ht] at e;cases e;exact htb
  ·rw [Hb] at e;cases e
   exact ⟨hbm,hbm,⟨_,hbm⟩,fun h1 h2 z w=>w _ z⟩
 have base_of:∀ {b:Addr} {o:Obj},s₁.heap.get? b=some o->H b=none->(hidT s₁.heap H).get? b=some o:=fun e n=>vd1 e n
 have noA:∀ {b:Addr} {o:Obj} {es:Array DictEntry} {ep:Nat},s₁.heap.get? b=some o->o.data=.dict es ep->H b=none:=fun {b o es ep} e d=>by
  cases q:H b with
  | none=>rfl
  | some u =>
   rcases Ho b u q with rfl | rfl | rfl
   ·rw [ha] at e;cases e;cases d
   ·rw [htb] at e;cases e;cases d
   ·rw [hbm] at e;cases e;rw [hb3] at d;cases d
 have nsK:∀ {b:Addr} {m:Str->Option Value},s₁.heap.Ns b m->(hidT s₁.heap H).Ns b m:=fun {b m} ⟨o,es,ep,e,d,r⟩=>⟨o,es,ep,base_of e (noA e d),d,r⟩
 have hKb:K.In (hidT s₁.heap H):=fun b o e=>base_of (KX b o e) (by
  cases q:H b with
  | none=>rfl
  | some u =>
   rcases Ho b u q with rfl | rfl | rfl
   ·rw [hak] at e;cases e
   ·rw [htk] at e;cases e
   ·rw [hbk] at e;cases e)
 have hM:Mod K mg (hidT s₁.heap H):=⟨hKb,nsK hns,⟨mb,nsK hb,hbb⟩,let ⟨mc,h1,h2⟩:=hlim;⟨mc,nsK h1,h2⟩⟩;have e0:Env0 P w K mg (hidT s₁.heap H) callerA [] s₁ H:=⟨rfl,hM,fun b o e=>vt1 e,Nat.le_of_eq (v44 _ _),trivial,fun b hb=>absurd (show b ∈ ([]:List Addr) from hb) (by simp),hok,.of_eq hg⟩;refine codeAny_mono ((F _ hKb (nsK hns)).run callerA [] s₁ H ⟨[.ref a],[]⟩ [.ref a] [.ref a] _ _ hr e0 (hbind s₁ (.ref a)) (.cons rfl .nil) (hsp H Ht ⟨ob,Hb,hb1,hb2,hb3⟩ ⟨_,Ha⟩)) fun r s' h=>?_
 cases r with
 | error e=>exact (hCX H e s' h).elim
 | ok fl =>
  cases fl with
  | next=>exact False.elim h
  | brk=>exact False.elim h
  | cont=>exact False.elim h
  | ret u =>
   obtain ⟨v,H',os,bare,un,hok',r',q⟩:=h;have q':v=.bl true:=q;subst q';obtain rfl:u=Value.bool true:=r';have frz:∀ b o (u:NK),H b=some (.frz o u.1)->s'.heap.get? b=some o:=fun b o u z=>(hok' b _ (un.frzs b o u z)).1
   refine ⟨rfl,⟨fun b o e=>?_,fun b o e=>un.there b o e (by simp)⟩,os,bare⟩;cases q:H b with
   | none=>exact .inl (un.keep b o e q (by intro z;exact absurd (show b ∈ ([]:List Addr) from z) (by simp)) (by simp))
   | some u =>
    rcases Ho b u q with rfl | rfl | rfl
    ·rw [ha] at e;cases e;exact .inl (frz _ _ ⟨_,by intro _ e;cases e⟩ Ha)
    ·rw [htb] at e;cases e
     obtain ⟨more,eMr⟩:=un.tbls b _ Ht;have hm:=hok' b _ eMr;refine .inr (.inl ⟨?_,rfl,#[],more,rfl,hm⟩);obtain ⟨oc,vs,_,_,_,_,_,_,_,c1,c2,c3,c4,_⟩:=W.codeHd_of_K KX hhd;exact ⟨cc,oc,vs,c1,c2,c3,c4⟩
    ·rw [hbm] at e;cases e;exact .inl (frz _ _ ⟨_,by intro _ e;cases e⟩ Hb)
theorem uw8 {pos:Pos} {a b:Int} {c cv:Value} (l:List Value) (ht:TriplesOk l) (h:codeAmong pos (l++[rawInt a,rawInt b,c])=some cv):codeAmong pos l=some cv \/ cv=c:=by
 fun_induction TriplesOk l with
 | case1 =>
  simp only [List.nil_append,rawInt,codeAmong] at h;split at h
  ·injection h with h;exact .inr h.symm
  ·cases h
 | case2 a' t b' u x rest ih =>
  simp only [List.cons_append,codeAmong] at h ⊢;split at h
  ·rename_i hc;rw [if_pos hc];exact .inl h
  ·rename_i hc;rw [if_neg hc];exact ih ht h
 | case3 l h1 h2=>exact ht.elim
end L2
namespace L3
open PySem PySem.Spec PyProof.Rows L2
theorem ve3 {scope:Scope} {env:Env} {d y:Str} {cell:Addr} (hsc:scope.names=[(y,.local),(d,.free)]) (h:env.cells.lookup d=some cell):closureFor scope env=pure [(d,cell)]:=by
 have hc:cellOf env d=pure cell:=by unfold cellOf;rw [h]
 unfold closureFor;rw [hsc];simp [hc]
def u57 (K:W.Frag) (a:Addr):Option Value:=match K.lookup a with
 | some ⟨_,_,.func fd,_⟩=>some fd.code
 | _=>none
section
variable {P:Program} {w:World} {K:W.Frag} {mg:Str->Option Value} {base:Heap}
theorem vx3 {x qual:Str} {st:Stmt} {ps N:List Str} {k:Nat} (d:FnAt K x qual st ps) {S:Sp3} (sc:FnScope N ps (u04 st)) (hl:∀ ds G R,S ds G R->ds.length=ps.length) {t:TS3}
  (ht:∀ (cdv:Value) (A:Around) (outer:List Env) (s:Shared) (H:Hp) (E:XK),u57 K d.a=some cdv->Room k (A.deeper (envOfC qual (u04 st) s.heap.objs.size d.a cdv))->Ss3 (cxOf CX0 P w K mg base N qual (u04 st) d.a cdv A outer s H E).nox (u36 st) t)
  (hb:∀ ds G R,S ds G R->t { nx:=fun _ G'=>R .non G',rt:=R } (ua6 N ds) G):Ok P w mg base (k+1) d S:=by
 obtain ⟨oc,od,dV,kV,doc,pm,an,cdv,ct,osl,e,lk,hcd⟩:=d.ex;have lk':K.lookup d.a=some ⟨oc,od,.func (W.fnOf x qual (u42 st) (u36 st) (u04 st) dV kV doc pm an cdv ct),osl⟩:=e ▸ lk;have hcc:u57 K d.a=some cdv:=by unfold u57;rw [lk']
 have F:FnOk P w K mg base CX0 (k+1) d.a (W.fnOf x qual (u42 st) (u36 st) (u04 st) dV kV doc pm an cdv ct) ps (uk1 K S):=by
  refine we4 lk' hcd sc (fun vs H Q E h=>?_) fun A outer s H vs Q E hr h=>?_
  ·obtain ⟨ds,G,R,r,_,hS,_⟩:=h
   rw [<- r.length];exact hl ds G R hS
  ·obtain ⟨ds,G,R,r,c,hS,f⟩:=h
   refine ⟨_,(show PSs _ _ _ from ht cdv A outer s H E hcc hr).nox,ua6 N ds,G,_,ud0 r,c,hb ds G R hS,fun σd' G' σ' H' _ c' l' q=>?_,f,fun _ _ _ _ _ _ _ q=>q.elim,fun _ _ _ _ _ _ _ q=>q.elim⟩;exact f .non G' .non H' RelD.nonI c' l' q
 have F2:=F;rw [<- e] at F2;exact F2
end
end L3
namespace L3
open PySem PySem.Spec PyProof.Rows L2 Rw
def gtF:List (Nat × Int)->Nat->Option Int
 | [],_=>none
 | p::F,x=>if p.1=x then some p.2 else gtF F x
def ptF:List (Nat × Int)->Nat->Int->List (Nat × Int)
 | [],x,v=>[(x,v)]
 | p::F,x,v=>if p.1=x then (x,v)::F else p::ptF F x v
section
variable {F:List (Nat × Int)} {x y:Nat} {v:Int}
theorem ub9:∀ {F:List (Nat × Int)},gtF (ptF F x v) y=if x=y then some v else gtF F y
 | []=>rfl
 | p::F=>by
  unfold ptF
  by_cases h:p.1=x
  ·rw [if_pos h]
   show (if x=y then some v else gtF F y)=_
   by_cases e:x=y
   ·rw [if_pos e,if_pos e]
   ·rw [if_neg e,if_neg e];show _=(if p.1=y then _ else _);rw [if_neg (by rw [h];exact e)]
  ·rw [if_neg h]
   show (if p.1=y then some p.2 else gtF (ptF F x v) y)=if x=y then some v else if p.1=y then some p.2 else gtF F y
   rw [ub9]
   by_cases e:x=y
   ·rw [if_pos e,if_pos e,if_neg (by rw [<- e];exact h)]
   ·rw [if_neg e,if_neg e]
theorem gt_mem:∀ {F:List (Nat × Int)},x ∈ F.map Prod.fst ↔ ∃ v,gtF F x=some v
 | []=>by simp [gtF]
 | p::F=>by
  unfold gtF;rw [List.map_cons,List.mem_cons,gt_mem]
  by_cases h:p.1=x
  ·simp [h]
  ·have:¬ x=p.1:=fun e=>h e.symm
   simp [h,this]
theorem uz6:∀ {F:List (Nat × Int)},(ptF F x v).map Prod.fst=if x ∈ F.map Prod.fst then F.map Prod.fst else F.map Prod.fst++[x]
 | []=>rfl
 | p::F=>by
  unfold ptF
  by_cases h:p.1=x
  ·rw [if_pos h];simp [h]
  ·have:¬ x=p.1:=fun e=>h e.symm
   rw [if_neg h,List.map_cons,uz6,List.map_cons]
   by_cases e:x ∈ F.map Prod.fst
   ·rw [if_pos e,if_pos (List.mem_cons_of_mem _ e)]
   ·rw [if_neg e,if_neg (by rw [List.mem_cons];rintro (z | z);exact this z;exact e z)];rfl
theorem ur7 (h:(F.map Prod.fst).Nodup):((ptF F x v).map Prod.fst).Nodup:=by
 rw [uz6]
 by_cases e:x ∈ F.map Prod.fst
 ·rw [if_pos e];exact h
 ·rw [if_neg e]
  rw [List.nodup_append];exact ⟨h,List.nodup_cons.mpr ⟨List.not_mem_nil,List.nodup_nil⟩,fun a ha b hb z=>e (by rw [<- List.mem_singleton.mp hb,<- z];exact ha)⟩
end
structure Dj (n s:Nat) (c:Nat->Int) (F:List (Nat × Int)) (L:List Nat) (t:Int) (U:Nat->Nat->Prop):Prop where
 z:∃ v,gtF F 0=some v /\ v<=0
 nd:(F.map Prod.fst).Nodup
 way:∀ {m v},gtF F m=some v->∃ w,lgw n s 0 w /\ fin 0 w=m /\ wk c w=v
 lk:∀ {x},x ∈ L->∃ v,gtF F x=some v
 ln:L.Nodup
 cl:∀ {y u} {p:Mv},gtF F y=some u->¬ y ∈ L->lgl n s y p->¬ U y p.2->∃ u',gtF F (xr y p.2)=some u' /\ u'<=u+c (p.2 - 1)
 lo:∀ {y u},gtF F y=some u->¬ y ∈ L->u<=t
 hi:∀ {y u},gtF F y=some u->y ∈ L->t<=u
section
variable {n s:Nat} {c:Nat->Int} {F:List (Nat × Int)} {L:List Nat} {t:Int} {U:Nat->Nat->Prop} {x:Nat} {v:Int}
theorem Dj.start:Dj n s c [(0,0)] [0] 0 (fun _ _=>False) where
 z:=⟨0,rfl,Int.le_refl _⟩
 nd:=by simp
 way:=fun {m v} h=>by
  unfold gtF at h
  by_cases e:(0,(0:Int)).1=m
  ·rw [if_pos e] at h;injection h with h;exact ⟨[],trivial,e,h⟩
  ·rw [if_neg e] at h;cases h
 lk:=fun h=>by rw [List.mem_singleton.mp h];exact ⟨0,rfl⟩
 ln:=by simp
 cl:=fun {y u p} h hy=>by
  unfold gtF at h
  by_cases e:(0,(0:Int)).1=y
  ·exact absurd (by rw [<- e];exact List.mem_singleton.mpr rfl) hy
  ·rw [if_neg e] at h;cases h
 lo:=fun {y u} h hy=>by
  unfold gtF at h
  by_cases e:(0,(0:Int)).1=y
  ·exact absurd (by rw [<- e];exact List.mem_singleton.mpr rfl) hy
  ·rw [if_neg e] at h;cases h
 hi:=fun {y u} h hy=>by
  rw [List.mem_singleton.mp hy] at h;injection h with h;rw [<- h];exact Int.le_refl _
theorem Dj.pop (h:Dj n s c F L t fun _ _=>False) (hx:x ∈ L) (hv:gtF F x=some v) (hm:∀ y ∈ L,∀ u,gtF F y=some u->v<=u):Dj n s c F (L.erase x) v (fun y _=>y=x) where
 z:=h.z
 nd:=h.nd
 way:=h.way
 lk:=fun hy=>h.lk (List.mem_of_mem_erase hy)
 ln:=h.ln.erase x
 cl:=fun {y u p} hy hn hp hU=>h.cl hy (fun z=>hn ((List.mem_erase_of_ne hU).mpr z)) hp fun z=>z
 lo:=fun {y u} hy hn=>by
  by_cases e:y=x
  ·rw [e,hv] at hy;injection hy with hy;rw [hy];exact Int.le_refl _
  ·exact Int.le_trans (h.lo hy fun z=>hn ((List.mem_erase_of_ne e).mpr z)) (h.hi hv hx)
 hi:=fun hy hn=>hm _ (List.mem_of_mem_erase hn) _ hy
theorem Dj.weak {U':Nat->Nat->Prop} (h:Dj n s c F L t U) (hU:∀ y k,U y k->U' y k):Dj n s c F L t U':={ h with cl:=fun a b d e=>h.cl a b d fun z=>e (hU _ _ z) }
theorem Dj.new {p:Mv} (h:Dj n s c F L v U) (hx:gtF F x=some v) (hn:¬ x ∈ L) (hp:lgl n s x p) (hc:0<=c (p.2 - 1)) (ho:gtF F (xr x p.2)=none):Dj n s c (ptF F (xr x p.2) (v+c (p.2 - 1))) (L++[xr x p.2]) v (fun y k=>U y k /\ ¬ (y=x /\ k=p.2)):=by
 have hne:∀ {y u},gtF F y=some u->¬ xr x p.2=y:=fun hy e=>by rw [<- e,ho] at hy;cases hy
 have hg:∀ {y u},gtF (ptF F (xr x p.2) (v+c (p.2 - 1))) y=some u->(y=xr x p.2 /\ u=v+c (p.2 - 1)) \/ (¬ xr x p.2=y /\ gtF F y=some u):=fun {y u} hy=>by
  rw [ub9] at hy
  by_cases e:xr x p.2=y
  ·rw [if_pos e] at hy;injection hy with hy;exact .inl ⟨e.symm,hy.symm⟩
  ·rw [if_neg e] at hy;exact .inr ⟨e,hy⟩
 have hk:∀ {y u},gtF F y=some u->gtF (ptF F (xr x p.2) (v+c (p.2 - 1))) y=some u:=fun hy=>by rw [ub9,if_neg (hne hy)];exact hy
 refine ⟨?_,ur7 h.nd,?_,?_,?_,?_,?_,?_⟩
 ·obtain ⟨u,h1,h2⟩:=h.z;exact ⟨u,hk h1,h2⟩
 ·intro m u hy
  rcases hg hy with ⟨rfl,rfl⟩ | ⟨_,hy⟩
  ·obtain ⟨w,h1,h2,h3⟩:=h.way hx
   refine ⟨w++[p],lgw_app.mpr ⟨h1,by rw [h2];exact hp,trivial⟩,by rw [u24,h2];rfl,by rw [u45,h3];show v+(c (p.2 - 1)+0)=_;omega⟩
  ·exact h.way hy
 ·intro y hy
  rcases List.mem_append.mp hy with hy | hy
  ·obtain ⟨u,h1⟩:=h.lk hy;exact ⟨u,hk h1⟩
  ·rw [List.mem_singleton.mp hy];exact ⟨_,by rw [ub9,if_pos rfl]⟩
 ·rw [List.nodup_append]
  exact ⟨h.ln,List.nodup_cons.mpr ⟨List.not_mem_nil,List.nodup_nil⟩,fun a ha b hb z=>by
   obtain ⟨u,h1⟩:=h.lk ha;exact hne h1 (by rw [z,List.mem_singleton.mp hb])⟩
 ·intro y u q hy hn' hq hU
  rcases hg hy with ⟨rfl,_⟩ | ⟨_,hy2⟩
  ·exact absurd (List.mem_append_right _ (List.mem_singleton.mpr rfl)) hn'
  ·by_cases e:y=x /\ q.2=p.2
   ·obtain ⟨e1,e2⟩:=e
    rw [e1,hx] at hy2;injection hy2 with hy2
    exact ⟨_,by rw [e1,e2,ub9,if_pos rfl],by rw [hy2,e2];exact Int.le_refl _⟩
   ·obtain ⟨u',h1,h2⟩:=h.cl hy2 (fun z=>hn' (List.mem_append_left _ z)) hq fun z=>hU ⟨z,e⟩
    exact ⟨u',hk h1,h2⟩
 ·intro y u hy hn'
  rcases hg hy with ⟨rfl,_⟩ | ⟨_,hy⟩
  ·exact absurd (List.mem_append_right _ (List.mem_singleton.mpr rfl)) hn'
  ·exact h.lo hy fun z=>hn' (List.mem_append_left _ z)
 ·intro y u hy hn'
  rcases hg hy with ⟨rfl,rfl⟩ | ⟨e,hy⟩
  ·omega
  ·rcases List.mem_append.mp hn' with z | z
   ·exact h.hi hy z
   ·exact absurd (List.mem_singleton.mp z).symm e
theorem Dj.old {p:Mv} {o:Int} (h:Dj n s c F L v U) (hx:gtF F x=some v) (hn:¬ x ∈ L) (hp:lgl n s x p) (hc:0<=c (p.2 - 1)) (ho:gtF F (xr x p.2)=some o):Dj n s c (ptF F (xr x p.2) (min o (v+c (p.2 - 1)))) L v (fun y k=>U y k /\ ¬ (y=x /\ k=p.2)):=by
 have hg:∀ {y u},gtF (ptF F (xr x p.2) (min o (v+c (p.2 - 1)))) y=some u->(y=xr x p.2 /\ u=min o (v+c (p.2 - 1))) \/ (¬ xr x p.2=y /\ gtF F y=some u):=fun {y u} hy=>by
  rw [ub9] at hy
  by_cases e:xr x p.2=y
  ·rw [if_pos e] at hy;injection hy with hy;exact .inl ⟨e.symm,hy.symm⟩
  ·rw [if_neg e] at hy;exact .inr ⟨e,hy⟩
 have hk:∀ {y u},gtF F y=some u->∃ u',gtF (ptF F (xr x p.2) (min o (v+c (p.2 - 1)))) y=some u' /\ u'<=u:=fun {y u} hy=>by
  rw [ub9]
  by_cases e:xr x p.2=y
  ·rw [if_pos e];rw [<- e,ho] at hy;injection hy with hy
   exact ⟨_,rfl,by rw [<- hy];exact Int.min_le_left ..⟩
  ·rw [if_neg e];exact ⟨_,hy,Int.le_refl _⟩
 have hs:∀ {y u},¬ y ∈ L->gtF (ptF F (xr x p.2) (min o (v+c (p.2 - 1)))) y=some u->gtF F y=some u:=fun {y u} hl hy=>by
  rcases hg hy with ⟨rfl,rfl⟩ | ⟨_,hy⟩
  ·have:=h.lo ho hl
   rw [ho];congr 1;omega
  ·exact hy
 refine ⟨?_,ur7 h.nd,?_,?_,h.ln,?_,?_,?_⟩
 ·obtain ⟨u,h1,h2⟩:=h.z
  obtain ⟨u',h3,h4⟩:=hk h1;exact ⟨u',h3,by omega⟩
 ·intro m u hy
  rcases hg hy with ⟨rfl,e⟩ | ⟨_,hy⟩
  ·by_cases hle:o<=v+c (p.2 - 1)
   ·rw [show u=o by omega];exact h.way ho
   ·rw [show u=v+c (p.2 - 1) by omega]
    obtain ⟨w,h1,h2,h3⟩:=h.way hx;refine ⟨w++[p],lgw_app.mpr ⟨h1,by rw [h2];exact hp,trivial⟩,by rw [u24,h2];rfl,by rw [u45,h3];show v+(c (p.2 - 1)+0)=_;omega⟩
  ·exact h.way hy
 ·intro y hy
  obtain ⟨u,h1⟩:=h.lk hy;obtain ⟨u',h2,_⟩:=hk h1;exact ⟨u',h2⟩
 ·intro y u q hy hn' hq hU
  have hy2:=hs hn' hy
  by_cases e:y=x /\ q.2=p.2
  ·obtain ⟨e1,e2⟩:=e
   rw [e1,hx] at hy2;injection hy2 with hy2
   exact ⟨_,by rw [e1,e2,ub9,if_pos rfl],by rw [e2];omega⟩
  ·obtain ⟨u',h1,h2⟩:=h.cl hy2 hn' hq fun z=>hU ⟨z,e⟩
   obtain ⟨u2,h3,h4⟩:=hk h1;exact ⟨u2,h3,by omega⟩
 ·intro y u hy hn';exact h.lo (hs hn' hy) hn'
 ·intro y u hy hl
  rcases hg hy with ⟨rfl,e⟩ | ⟨_,hy⟩
  ·have:=h.hi ho hl;omega
  ·exact h.hi hy hl
theorem Dj.done {U:Nat->Nat->Prop} (h:Dj n s c F [] t U) (hU:∀ y k,¬ U y k) {w:List Mv} (hw:lgw n s 0 w):∃ u,gtF F (fin 0 w)=some u /\ u<=wk c w:=by
 have:∀ (w:List Mv) (x:Nat) (u:Int),gtF F x=some u->lgw n s x w->∃ u',gtF F (fin x w)=some u' /\ u'<=u+wk c w:=by
  intro w
  induction w with
  | nil=>intro x u hx _;exact ⟨u,hx,by show u<=u+0;omega⟩
  | cons p r ih =>
   intro x u hx hw;obtain ⟨u1,h1,h2⟩:=h.cl hx List.not_mem_nil hw.1 (hU _ _);obtain ⟨u2,h3,h4⟩:=ih _ _ h1 hw.2;exact ⟨u2,h3,by show u2<=u+(c (p.2 - 1)+wk c r);omega⟩
 obtain ⟨v,h1,h2⟩:=h.z;obtain ⟨u,h3,h4⟩:=this w 0 v h1 hw;exact ⟨u,h3,by omega⟩
theorem sub_len:∀ {L K:List Nat},L.Nodup->(∀ x ∈ L,x ∈ K)->L.length<=K.length
 | [],_,_,_=>Nat.zero_le _
 | x::L,K,hn,h=>by
  have hx:=h x List.mem_cons_self;have:=sub_len (L:=L) (K:=K.erase x) (List.nodup_cons.mp hn).2 fun y hy=>(List.mem_erase_of_ne fun e=>(List.nodup_cons.mp hn).1 (by rw [<- e];exact hy)).mpr (h y (List.mem_cons_of_mem _ hy))
  have h2:=List.length_pos_of_mem hx;rw [List.length_erase_of_mem hx] at this;rw [List.length_cons];omega
theorem Dj.few (h:Dj n s c F L t U):F.length<=2 ^ n /\ L.length<=F.length:=by
 constructor
 ·rw [<- List.length_map (f:=Prod.fst)]
  refine ub0 h.nd fun x hx=>?_
  obtain ⟨v,hv⟩:=gt_mem.mp hx;obtain ⟨w,h1,h2,_⟩:=h.way hv;rw [<- h2];exact v31 h1
 ·rw [<- List.length_map (f:=Prod.fst) (as:=F)]
  exact sub_len h.ln fun x hx=>gt_mem.mpr (h.lk hx)
theorem Dj.alone {W:Int} (h:Dj n s c F [] t U) (hU:∀ y k,¬ U y k) (hc:∀ i,0<=c i) (hn:1<=n) (h9:n<=900):(LeastA c s 0 n W->gtF F (2 ^ (n - 1))=some W) /\ (¬ n<=cap s true->gtF F (2 ^ (n - 1))=none):=by
 constructor
 ·intro hl
  obtain ⟨g,h1,h2⟩:=hl.1.wok;obtain ⟨h3,_⟩:=h1.start (n:=n) (S:=s) (Nat.le_refl _) (Nat.le_refl _);have h4:=h1.left (by omega) (Nat.le_refl n) (Nat.le_refl s);obtain ⟨u,h5,h6⟩:=h.done hU h3;rw [h4] at h5;obtain ⟨w,w1,w2,w3⟩:=h.way h5;have:=vv5 hc hn h9 hl w1 w2;rw [h5,show u=W by omega]
 ·intro hn'
  cases e:gtF F (2 ^ (n - 1)) with
  | none=>rfl
  | some u =>
   obtain ⟨w,w1,w2,_⟩:=h.way e;exact absurd ((v78 hn h9).mp ⟨w,w1,w2⟩) hn'
theorem Pr.wok {x:Int} {b:Nat} (h:Pr c n s b x):∃ g,WOK b n s false g /\ wk c g=x:=by
 induction h with
 | one e=>subst e;exact ⟨_,um6 (by omega),by show c _+0=_;rw [Int.add_zero];rfl⟩
 | two h1 h2 ih =>
  obtain ⟨g1,a1,a2⟩:=h1.wok;obtain ⟨g2,b1,b2⟩:=ih;exact ⟨_,uq2 h1.lt.1 h2.lt.1 a1 b1,by rw [u45,a2,b2]⟩
theorem uk6:∀ {F:List (Nat × Int)},(F.map Prod.fst).Nodup->∀ p ∈ F,gtF F p.1=some p.2
 | q::F,hn,p,hp=>by
  rw [List.map_cons,List.nodup_cons] at hn;unfold gtF
  rcases List.mem_cons.mp hp with rfl | hp
  ·rw [if_pos rfl]
  ·rw [if_neg fun e=>hn.1 (by rw [e];exact List.mem_map_of_mem hp)]
   exact uk6 hn.2 p hp
theorem uk0:∀ {F:List (Nat × Int)} {x:Nat} {v:Int},gtF F x=some v->(x,v) ∈ F
 | q::F,x,v,h=>by
  unfold gtF at h
  by_cases e:q.1=x
  ·rw [if_pos e] at h;injection h with h;rw [<- e,<- h];exact List.mem_cons_self
  ·rw [if_neg e] at h;exact List.mem_cons_of_mem _ (uk0 h)
def metF (n:Nat) (F:List (Nat × Int)):List Int:=(F.filter fun p=>p.1.testBit (n - 1)).map Prod.snd
theorem Dj.met {W:Int} (h:Dj n s c F [] t U) (hU:∀ y k,¬ U y k) (hc:∀ i,0<=c i) (hn:1<=n) (h9:n<=900):(LeastR c n s 0 W->W ∈ metF n F /\ ∀ x ∈ metF n F,W<=x) /\ (¬ n<=cap s false->metF n F=[]):=by
 have hm:∀ x ∈ metF n F,∃ w,lgw n s 0 w /\ (fin 0 w).testBit (n - 1)=true /\ wk c w=x:=by
  intro x hx;obtain ⟨p,hp,rfl⟩:=List.mem_map.mp hx;obtain ⟨hp1,hp2⟩:=List.mem_filter.mp hp;obtain ⟨w,w1,w2,w3⟩:=h.way (uk6 h.nd p hp1);exact ⟨w,w1,by rw [w2];exact hp2,w3⟩
 constructor
 ·intro hl
  have hle:∀ x ∈ metF n F,W<=x:=fun x hx=>by
   obtain ⟨w,w1,w2,w3⟩:=hm x hx;rw [<- w3];exact we7 hc hn h9 hl w1 w2
  refine ⟨?_,hle⟩;obtain ⟨g,h1,h2⟩:=Pr.wok hl.1;obtain ⟨h3,h4⟩:=h1.start (n:=n) (S:=s) (Nat.le_refl _) (Nat.le_refl _);obtain ⟨u,h5,h6⟩:=h.done hU h3;have hu:u ∈ metF n F:=List.mem_map.mpr ⟨_,List.mem_filter.mpr ⟨uk0 h5,h4⟩,rfl⟩;have:=hle u hu;rw [show W=u by omega];exact hu
 ·intro hn'
  cases e:metF n F with
  | nil=>rfl
  | cons x M =>
   obtain ⟨w,w1,w2,_⟩:=hm x (by rw [e];exact List.mem_cons_self);exact absurd ((uz5 hn h9).mp ⟨_,⟨w,w1,rfl⟩,w2⟩) hn'
def nxt (n s m:Nat):List Nat:=(List.range n).filter fun k=>(decide (k=0) || m.testBit (k - 1)) && decide (cnt n (xr m (k+1))<=s)
theorem vt2 {m k:Nat} (hm:cnt n m<=s):k ∈ nxt n s m ↔ lgl n s m (!stb (k+1) m,k+1):=by
 unfold nxt lgl;rw [List.mem_filter,List.mem_range]
 show k < n /\ _=true ↔ (1<=k+1 /\ k+1<=n) /\ (k+1=1 \/ m.testBit (k+1 - 2)=true) /\ (!stb (k+1) m)=(!stb (k+1) m) /\ ((!stb (k+1) m)=true->cnt n m < s)
 have e:k+1 - 2=k - 1:=by (clear hm;omega)
 rw [e]
 by_cases hk:k < n
 ·have hc:cnt n (xr m (k+1))<=s ↔ ((!stb (k+1) m)=true->cnt n m < s):=by
   cases hs:stb (k+1) m with
   | true =>
    have:=u87 (n:=n) (m:=m) (k:=k+1) (by omega) (by omega) hs
    constructor
    ·intro _ z;cases z
    ·intro _;omega
   | false =>
    have:=u94 (n:=n) (m:=m) (k:=k+1) (by omega) (by omega) hs
    constructor
    ·intro _ _;omega
    ·intro z;have:=z rfl;omega
  rw [<- hc];simp [hk];intro _ _;omega
 ·constructor
  ·rintro ⟨z,_⟩;exact absurd z hk
  ·rintro ⟨⟨_,z⟩,_⟩;omega
theorem Dj.cnt {m:Nat} (h:Dj n s c F L t U) (hm:gtF F m=some v):L3.cnt n m<=s:=by
 obtain ⟨w,h1,h2,_⟩:=h.way hm;rw [<- h2];exact uf9 (by rw [u34];exact Nat.zero_le _) h1
theorem Dj.all (h:Dj n s c F L t (fun y k=>y=x /\ ¬ ∃ k0,k0 ∈ nxt n s x /\ k=k0+1)) (hm:L3.cnt n x<=s):Dj n s c F L t (fun _ _=>False) :=
 { h with cl:=fun {y u p} a b d _=>h.cl a b d fun ⟨e1,e2⟩=>e2 ⟨p.2 - 1,(vt2 hm).mpr (by
   subst e1;have h1:=d.1.1;have e:p.2 - 1+1=p.2:=by omega
   rw [e];have:(!stb p.2 y,p.2)=p:=by rw [<- d.2.2.1]
   rw [this];exact d),by have:=d.1.1;omega⟩ }
end
end L3
namespace TS
open PySem PyProof.Rows
abbrev S:=StateT SortSt Sem
def gal:Bool->Keyed->Array Keyed->Nat->Nat->Nat->S (Option Nat):=sortPriv% PySem.Builtin.gallop
def ask (l:Bool) (q:Keyed) (xs:Array Keyed) (b i:Nat):S (Option Bool):=do
 let x <- elem' xs (b+i)
 if l then lt' x q else return (<- lt' q x).map (!·)
def galB (B:Nat->S (Option Bool)) (n h:Nat):S (Option Nat):=do
 let mut o':=0
 let mut o:=1
 let mut u:=0
 let mut v:=0
 let some w <- B h | return none
 if w then
  let z:=n - h
  for _ in [0:n] do
   if o ≥ z then break
   let some e <- B (h+o) | return none
   if !e then break
   o':=o
   o:=2 * o+1
  u:=h+o'+1
  v:=h+min o z
 else
  let z:=h+1
  for _ in [0:n] do
   if o ≥ z then break
   let some e <- B (h - o) | return none
   if e then break
   o':=o
   o:=2 * o+1
  u:=h+1 - min o z
  v:=h - o'
 for _ in [0:n] do
  if u ≥ v then break
  let m:=u+(v - u) / 2
  let some e <- B m | return none
  if e then u:=m+1 else v:=m
 return some v
theorem we1 (l:Bool) (q:Keyed) (xs:Array Keyed) (b n h:Nat):gal l q xs b n h=galB (ask l q xs b) n h:=rfl
def key (x:Keyed):Int:=numOf x.1
def IsI (x:Keyed):Prop:=∃ n t,x.1=.int n t
section
variable {prog:Program} {w:World} {A:Around} {E:Value->Shared->Prop} {s:Shared}
theorem w_lt {st:SortSt} {x y:Keyed} {Q:Option Bool->SortSt->Prop} (hk:kindOf st=oneType') (hx:IsI x) (hy:IsI y) (h:Q (some (decide (key x < key y))) st):wpS (model prog w) A E s (lt' x y) Q st:=by
 obtain ⟨⟨_,p⟩,n,t,rfl⟩:=x,hx;obtain ⟨⟨_,q⟩,m,u,rfl⟩:=y,hy;rw [lt'_eq];refine wpS_bind (wpS_get ?_);rw [hk,keyLt'_oneType];exact wpS_bind (wpS_lift (wpAny_attempt (oneLt_int ⟨rfl,wpS_pure h⟩)))
theorem w_el {st:SortSt} {xs:Array Keyed} {i:Nat} {Q:Keyed->SortSt->Prop} (hi:i < xs.size) (h:Q xs[i] st):wpS (model prog w) A E s (elem' xs i) Q st:=by
 rw [elem'_eq,getElem?_pos xs i hi];exact wpS_pure h
open Classical in
theorem w22 {st:SortSt} {B:Nat->S (Option Bool)} {P:Nat->Prop} {n h:Nat} {Q:Option Nat->SortSt->Prop} (hh:h < n)
  (hb:∀ (i:Nat) (R:Option Bool->SortSt->Prop),i < n->R (some (decide (P i))) st->wpS (model prog w) A E s (B i) R st)
  (hm:∀ i j,i<=j->j < n->P j->P i)
  (ht:∀ k,k<=n->(∀ i,i < k->P i)->(∀ i,k<=i->i < n->¬ P i)->Q (some k) st):wpS (model prog w) A E s (galB B n h) Q st:=by
 have fin:∀ (u v:Nat),u<=v->v<=n->(∀ i,i < u->P i)->(∀ i,v<=i->i < n->¬ P i)->wpS (model prog w) A E s (do
   let mut u:=u
   let mut v:=v
   for _ in [0:n] do
    if u ≥ v then break
    let m:=u+(v - u) / 2
    let some e <- B m | return none
    if e then u:=m+1 else v:=m
   return some v) Q st:=by
  intro u v h1 h2 h3 h4;refine wpS_bind (wpS_mono (wpS_forRange (I:=fun x c st'=>st'=st /\ ∃ u v,c=(none,u,v) /\ u<=v /\ v<=n /\ v - u+x<=n /\ (∀ i,i < u->P i) /\ ∀ i,v<=i->i < n->¬ P i)
   (Q:=fun c st'=>st'=st /\ ∃ v,c=(none,v,v) /\ v<=n /\ (∀ i,i < v->P i) /\ ∀ i,v<=i->i < n->¬ P i) ?_ ?_ ⟨rfl,u,v,rfl,h1,h2,by omega,h3,h4⟩) ?_)
  ·rintro x _ _ - hx ⟨rfl,u,v,rfl,a1,a2,a3,a4,a5⟩
   dsimp only
   by_cases hg:u ≥ v
   ·rw [if_pos hg]
    obtain rfl:u=v:=by omega
    exact wpS_pure ⟨rfl,u,rfl,a2,a4,a5⟩
   ·rw [if_neg hg]
    refine wpS_bind (hb _ _ (by (clear a5 a4 a3 a1 ht hb hx h4 h3 h2 h1 hm hh;omega)) ?_)
    by_cases hp:P (u+(v - u) / 2)
    ·simp only [hp,decide_true,if_true]
     exact wpS_pure ⟨rfl,_,_,rfl,by (clear a5 a4 a3 a2 a1 ht hb hx h4 h3 h2 h1 hm hh;omega),a2,by (clear a5 a4 a2 a1 ht hb h4 h3 h2 h1 hm hh;omega),fun i hi=>hm _ _ (by omega) (by (clear hi a5 a4 a3 a1 ht hb hx h4 h3 h2 h1 hm hh;omega)) hp,a5⟩
    ·simp only [hp,decide_false,Bool.false_eq_true,if_false]
     exact wpS_pure ⟨rfl,_,_,rfl,by (clear hp hg a5 a4 a3 a2 a1 ht hb hx h4 h3 h2 h1 hm hh;omega),by (clear hp a5 a4 a3 a1 ht hb hx h4 h3 h2 h1 hm hh;omega),by (clear hp hg a5 a4 a2 a1 ht hb h4 h3 h2 h1 hm hh;omega),a4,fun i hi hi' q=>hp (hm _ _ hi hi' q)⟩
  ·rintro _ _ ⟨rfl,u,v,rfl,a1,a2,a3,a4,a5⟩
   obtain rfl:u=v:=by omega
   exact ⟨rfl,u,rfl,a2,a4,a5⟩
  ·rintro _ _ ⟨rfl,v,rfl,a2,a4,a5⟩
   exact wpS_pure (ht _ a2 a4 a5)
 unfold galB;refine wpS_bind (hb h _ hh ?_);dsimp only
 by_cases hw:P h
 ·simp only [hw,decide_true,if_true]
  refine wpS_bind (wpS_mono (wpS_forRange (I:=fun x c st'=>st'=st /\ ∃ o' o,c=(none,o',o) /\ o' < o /\ x+1<=o /\ h+o' < n /\ P (h+o'))
   (Q:=fun c st'=>st'=st /\ ∃ o' o,c=(none,o',o) /\ o' < o /\ h+o' < n /\ P (h+o') /\ (h+o < n->¬ P (h+o))) ?_ ?_ ⟨rfl,0,1,rfl,by omega,by omega,by omega,hw⟩) ?_)
  ·rintro x _ _ - hx ⟨rfl,o',o,rfl,a1,a2,a3,a4⟩
   dsimp only
   by_cases hg:o ≥ n - h
   ·rw [if_pos hg]
    exact wpS_pure ⟨rfl,_,_,rfl,a1,a3,a4,fun _=>by omega⟩
   ·rw [if_neg hg]
    refine wpS_bind (hb _ _ (by omega) ?_)
    by_cases hp:P (h+o)
    ·simp only [hp,decide_true,Bool.not_true,Bool.false_eq_true,if_false]
     exact wpS_pure ⟨rfl,_,_,rfl,by omega,by omega,by omega,hp⟩
    ·simp only [hp,decide_false,Bool.not_false,if_true]
     exact wpS_pure ⟨rfl,_,_,rfl,a1,a3,a4,fun _=>hp⟩
  ·rintro _ _ ⟨rfl,o',o,rfl,a1,a2,a3,a4⟩
   exact ⟨rfl,_,_,rfl,a1,a3,a4,fun _=>by omega⟩
  ·rintro _ _ ⟨rfl,o',o,rfl,a1,a3,a4,a5⟩
   refine fin (h+o'+1) (h+min o (n - h)) (by omega) (by omega) (fun i hi=>hm _ _ (by omega) a3 a4) fun i hi hi' q=>?_
   exact a5 (by omega) (hm _ _ (by omega) hi' q)
 ·simp only [hw,decide_false,Bool.false_eq_true,if_false]
  refine wpS_bind (wpS_mono (wpS_forRange (I:=fun x c st'=>st'=st /\ ∃ o' o,c=(none,o',o) /\ o' < o /\ x+1<=o /\ o'<=h /\ ¬ P (h - o'))
   (Q:=fun c st'=>st'=st /\ ∃ o' o,c=(none,o',o) /\ o' < o /\ o'<=h /\ ¬ P (h - o') /\ (o<=h->P (h - o))) ?_ ?_ ⟨rfl,0,1,rfl,by omega,by omega,by omega,hw⟩) ?_)
  ·rintro x _ _ - hx ⟨rfl,o',o,rfl,a1,a2,a3,a4⟩
   dsimp only
   by_cases hg:o ≥ h+1
   ·rw [if_pos hg]
    exact wpS_pure ⟨rfl,_,_,rfl,a1,a3,a4,fun _=>by omega⟩
   ·rw [if_neg hg]
    refine wpS_bind (hb _ _ (by omega) ?_)
    by_cases hp:P (h - o)
    ·simp only [hp,decide_true,if_true]
     exact wpS_pure ⟨rfl,_,_,rfl,a1,a3,a4,fun _=>hp⟩
    ·simp only [hp,decide_false,Bool.false_eq_true,if_false]
     exact wpS_pure ⟨rfl,_,_,rfl,by omega,by omega,by omega,hp⟩
  ·rintro _ _ ⟨rfl,o',o,rfl,a1,a2,a3,a4⟩
   exact ⟨rfl,_,_,rfl,a1,a3,a4,fun _=>by omega⟩
  ·rintro _ _ ⟨rfl,o',o,rfl,a1,a3,a4,a5⟩
   refine fin (h+1 - min o (h+1)) (h - o') (by omega) (by omega) (fun i hi=>?_) fun i hi hi' q=>a4 (hm _ _ hi hi' q)
   exact hm i (h - o) (by omega) (by omega) (a5 (by (clear a5 a4 a3 a1 fin ht hb hw hm hh;omega)))
def bey (l:Bool) (q x:Keyed):Prop:=if l then key x < key q else key x<=key q
theorem uu4 {st:SortSt} {l:Bool} {q:Keyed} {xs:Array Keyed} {b n h:Nat} {Q:Option Nat->SortSt->Prop} (hk:kindOf st=oneType') (hq:IsI q) (hx:∀ x ∈ xs.toList,IsI x) (hn:b+n<=xs.size) (hh:h < n)
  (hs:∀ i j (hj:j < xs.size),b<=i->(hij:i<=j)->j < b+n->key xs[i]<=key xs[j])
  (ht:∀ k,k<=n->(∀ i (hi:i < xs.size),b<=i->i < b+k->bey l q xs[i])->(∀ i (hi:i < xs.size),b+k<=i->i < b+n->¬ bey l q xs[i])->Q (some k) st):wpS (model prog w) A E s (gal l q xs b n h) Q st:=by
 classical
 rw [we1];refine w22 (P:=fun i=>∃ h:b+i < xs.size,bey l q xs[b+i]) hh ?_ ?_ ?_
 ·intro i R hi hr
  have hlt:b+i < xs.size:=by omega
  have hI:IsI xs[b+i]:=hx _ (by simp);refine wpS_bind (w_el hlt ?_);have he:(∃ h:b+i < xs.size,bey l q xs[b+i]) ↔ if l then key xs[b+i] < key q else key xs[b+i]<=key q:=⟨fun ⟨_,h⟩=>h,fun h=>⟨hlt,h⟩⟩
  cases l with
  | true =>
   refine w_lt hk hI hq ?_;simpa only [he,if_true] using hr
  | false =>
   refine wpS_bind (w_lt hk hq hI (wpS_pure ?_));have e:∀ d:Decidable (∃ h:b+i < xs.size,bey false q xs[b+i]),@decide _ d=!decide (key q < key xs[b+i]):=fun d=>by
    rw [Bool.eq_iff_iff];simp [he]
   rw [e] at hr;exact hr
 ·rintro i j hij hj ⟨h1,h2⟩
  have:=hs (b+i) (b+j) h1 (by omega) (by omega) (by omega);refine ⟨by omega,?_⟩;unfold bey at h2 ⊢;cases l with
  | true=>exact Int.lt_of_le_of_lt this h2
  | false=>exact Int.le_trans this h2
 ·intro k h1 h2 h3
  refine ht k h1 (fun i hi a1 a2=>?_) (fun i hi a1 a2 q=>?_)
  ·obtain ⟨_,z⟩:=h2 (i - b) (by omega)
   have e:b+(i - b)=i:=by omega
   simp only [e] at z;exact z
  ·refine h3 (i - b) (by omega) (by omega) ⟨by omega,?_⟩
   have e:b+(i - b)=i:=by omega
   simp only [e];exact q
end
def sGal (g:Nat):S Unit:=modify fun s=>SortSt.mk' (kindOf s) (arrOf s) (pendingOf s) g (failedOf s)
def mLo:Array Keyed->Array Keyed->S (Array Keyed):=sortPriv% PySem.Builtin.mergeLo
def mHi:Array Keyed->Array Keyed->S (Array Keyed):=sortPriv% PySem.Builtin.mergeHi
def loD (a b o:Array Keyed) (i j:Nat):=o++a.extract i a.size++b.extract j b.size
def loA (a b o:Array Keyed) (i j:Nat):=o++b.extract j b.size++a.extract i a.size
abbrev Sg:=Option (Array Keyed) × Array Keyed × Nat × Nat × Nat × Nat × Nat
abbrev Si:=Option (Array Keyed) × Array Keyed × Nat × Nat × Nat × Nat
abbrev So:=Option (Array Keyed) × Array Keyed × Nat × Nat × Nat
def loG3 (a b o:Array Keyed) (i j g ca cb:Nat):S (ForInStep Sg):=do
 let z <- elem' a i
 if i+1+1 == a.size then pure (.done (some (loA a b (o.push z) (i+1) j),o.push z,i+1,j,g,ca,cb)) else
 if ca < 7 && cb < 7 then pure (.done (none,o.push z,i+1,j,g,ca,cb)) else pure (.yield (none,o.push z,i+1,j,g,ca,cb))
def loG2 (a b o:Array Keyed) (i j g ca cb:Nat):S (ForInStep Sg):=do
 let y <- elem' b j
 if j+1 == b.size then pure (.done (some (loD a b (o.push y) i (j+1)),o.push y,i,j+1,g,ca,cb)) else do
 let z <- elem' a i
 match <- gal true z b (j+1) (b.size - (j+1)) 0 with
 | some k =>
  if k > 0 then
   if j+1+k == b.size then pure (.done (some (loD a b (o.push y++b.extract (j+1) (j+1+k)) i (j+1+k)),o.push y++b.extract (j+1) (j+1+k),i,j+1+k,g,ca,k)) else
   loG3 a b (o.push y++b.extract (j+1) (j+1+k)) i (j+1+k) g ca k
  else loG3 a b (o.push y) i (j+1) g ca k
 | _=>pure (.done (some (loD a b (o.push y) i (j+1)),o.push y,i,j+1,g,ca,cb))
def loG1 (a b o:Array Keyed) (i j g ca cb:Nat):S (ForInStep Sg):=do
 sGal g
 let y <- elem' b j
 match <- gal false y a i (a.size - i) 0 with
 | some k =>
  if k > 0 then
   if i+k+1 == a.size then pure (.done (some (loA a b (o++a.extract i (i+k)) (i+k) j),o++a.extract i (i+k),i+k,j,g,k,cb)) else
   if i+k == a.size then pure (.done (some (loD a b (o++a.extract i (i+k)) (i+k) j),o++a.extract i (i+k),i+k,j,g,k,cb)) else
   loG2 a b (o++a.extract i (i+k)) (i+k) j g k cb
  else loG2 a b o i j g k cb
 | _=>pure (.done (some (loD a b o i j),o,i,j,g,ca,cb))
def loI (a b o:Array Keyed) (i j ca cb g:Nat):S (ForInStep Si):=do
 let y <- elem' b j
 let z <- elem' a i
 match <- lt' y z with
 | some c =>
  if c then do
   let y <- elem' b j
   if j+1 == b.size then pure (.done (some (loD a b (o.push y) i (j+1)),o.push y,i,j+1,0,cb+1)) else
   if cb+1 ≥ g then pure (.done (none,o.push y,i,j+1,0,cb+1)) else pure (.yield (none,o.push y,i,j+1,0,cb+1))
  else do
   let z <- elem' a i
   if i+1+1 == a.size then pure (.done (some (loA a b (o.push z) (i+1) j),o.push z,i+1,j,ca+1,0)) else
   if ca+1 ≥ g then pure (.done (none,o.push z,i+1,j,ca+1,0)) else pure (.yield (none,o.push z,i+1,j,ca+1,0))
 | _=>pure (.done (some (loD a b o i j),o,i,j,ca,cb))
theorem wb7 (a b:Array Keyed):mLo a b=(do
 rule "list.sort.merge-lo"
 let y <- elem' b 0
 if 1 == b.size then pure (loD a b #[y] 0 1) else
 if 0+1 == a.size then pure (loA a b #[y] 0 1) else do
 let g:=gallopOf (<- get)
 let c:So <- forIn [0:a.size+b.size] ((none,#[y],0,1,g):So) fun _ (c:So)=>do
  let d:Si <- forIn [0:a.size+b.size] ((none,c.2.1,c.2.2.1,c.2.2.2.1,0,0):Si) fun _ (d:Si)=>loI a b d.2.1 d.2.2.1 d.2.2.2.1 d.2.2.2.2.1 d.2.2.2.2.2 c.2.2.2.2
  match d.1 with
  | some r=>pure (.done ((some r,d.2.1,d.2.2.1,d.2.2.2.1,c.2.2.2.2):So))
  | none=>do
   rule "list.sort.gallop"
   let e:Sg <- forIn [0:a.size+b.size] ((none,d.2.1,d.2.2.1,d.2.2.2.1,c.2.2.2.2+1,d.2.2.2.2.1,d.2.2.2.2.2):Sg) fun _ (e:Sg) =>
    if e.2.2.2.2.1 > 1 then loG1 a b e.2.1 e.2.2.1 e.2.2.2.1 (e.2.2.2.2.1 - 1) e.2.2.2.2.2.1 e.2.2.2.2.2.2 else loG1 a b e.2.1 e.2.2.1 e.2.2.2.1 e.2.2.2.2.1 e.2.2.2.2.2.1 e.2.2.2.2.2.2
   match e.1 with
   | some r=>pure (.done ((some r,e.2.1,e.2.2.1,e.2.2.2.1,e.2.2.2.2.1):So))
   | none=>do
    sGal (e.2.2.2.2.1+1)
    pure (.yield ((none,e.2.1,e.2.2.1,e.2.2.2.1,e.2.2.2.2.1+1):So))
 match c.1 with
 | some r=>pure r
 | none=>unsupported "internal:list.sort.merge-bound"):=by kernel_rfl
def Mg (r:Keyed->Keyed->Prop) (T o p q:List Keyed):Prop:=(o++(p++q)).Perm T /\ o.Pairwise r /\ ∀ x ∈ o,∀ y ∈ p++q,r x y
theorem Mg.left {r:Keyed->Keyed->Prop} {T o l p q:List Keyed} (m:Mg r T o (l++p) q) (h:(l++p).Pairwise r) (h':∀ x ∈ l,∀ y ∈ q,r x y):Mg r T (o++l) p q:=by
 obtain ⟨m1,m2,m3⟩:=m;obtain ⟨p1,p2,p3⟩:=List.pairwise_append.mp h;refine ⟨by simpa [List.append_assoc] using m1,List.pairwise_append.mpr ⟨m2,p1,fun x hx y hy=>m3 x hx y (by simp [hy])⟩,fun x hx y hy=>?_⟩
 rcases List.mem_append.mp hx with hx | hx
 ·exact m3 x hx y (by rcases List.mem_append.mp hy with hy | hy <;> simp [hy])
 ·rcases List.mem_append.mp hy with hy | hy
  ·exact p3 x hx y hy
  ·exact h' x hx y hy
theorem Mg.symm {r:Keyed->Keyed->Prop} {T o p q:List Keyed} (m:Mg r T o p q):Mg r T o q p:=by
 obtain ⟨m1,m2,m3⟩:=m;exact ⟨(List.perm_append_comm.append_left o).trans m1,m2,fun x hx y hy=>m3 x hx y (List.mem_append.mpr (List.mem_append.mp hy).symm)⟩
theorem Mg.right {r:Keyed->Keyed->Prop} {T o l p q:List Keyed} (m:Mg r T o p (l++q)) (h:(l++q).Pairwise r) (h':∀ x ∈ l,∀ y ∈ p,r x y):Mg r T (o++l) p q:=(m.symm.left h h').symm
def le (x y:Keyed):Prop:=key x<=key y
def Rise (a:Array Keyed):Prop:=∀ i j (hj:j < a.size),(hij:i<=j)->key a[i]<=key a[j]
theorem Rise.pw {a:Array Keyed} (h:Rise a) (i:Nat):(a.toList.drop i).Pairwise le:=by
 refine List.Pairwise.sublist (List.drop_sublist _ _) ?_;rw [List.pairwise_iff_getElem];intro x y hx hy hxy;exact h x y (by simpa using hy) (by omega)
theorem u98 {a:Array Keyed} {i:Nat} {x:Keyed} (h:x ∈ a.toList.drop i):∃ j,∃ (hj:j < a.size),i<=j /\ a[j]=x:=by
 obtain ⟨k,hk,e⟩:=List.mem_iff_getElem.mp h;rw [List.getElem_drop] at e;simp only [List.length_drop,Array.length_toList] at hk;exact ⟨i+k,by omega,by omega,by simpa using e⟩
theorem u99 {a:Array Keyed} {i k:Nat}:a.toList.drop i=(a.extract i (i+k)).toList++a.toList.drop (i+k):=by
 rw [Array.toList_extract,List.extract_eq_take_drop,show i+k - i=k by omega,<- List.drop_drop,List.take_append_drop]
theorem un7 {a:Array Keyed} {i k:Nat} {x:Keyed} (h:x ∈ (a.extract i (i+k)).toList):∃ j,∃ (hj:j < a.size),i<=j /\ j < i+k /\ a[j]=x:=by
 rw [Array.toList_extract,List.extract_eq_take_drop] at h;obtain ⟨j,hj,e⟩:=List.mem_iff_getElem.mp h;simp only [List.length_take,List.length_drop,Array.length_toList] at hj;rw [List.getElem_take,List.getElem_drop] at e;exact ⟨i+j,by omega,by omega,by omega,by simpa using e⟩
theorem ug5 {a:Array Keyed} {i:Nat}:(a.extract i a.size).toList=a.toList.drop i:=by
 rw [Array.toList_extract,List.extract_eq_take_drop,<- Array.length_toList,List.take_of_length_le (by simp)]
def Same (st st':SortSt):Prop:=kindOf st'=kindOf st /\ arrOf st'=arrOf st /\ pendingOf st'=pendingOf st /\ failedOf st'=failedOf st
structure Lo (a b o:Array Keyed) (i j:Nat):Prop where
 m:Mg le (a.toList++b.toList) o.toList (a.toList.drop i) (b.toList.drop j)
 i:i+1 < a.size
 j:j < b.size
structure LoP (a b:Array Keyed):Prop where
 ra:Rise a
 rb:Rise b
 ia:∀ x ∈ a.toList,IsI x
 ib:∀ x ∈ b.toList,IsI x
 na:0 < a.size
 nb:0 < b.size
 lt:∀ (x:Nat) (hx:x < b.size),key b[x]<=key a[a.size - 1]
 ft:∀ (x:Nat) (hx:x < a.size),key b[0]<=key a[x]
def MgD (a b o:Array Keyed):Prop:=o.toList.Perm (a.toList++b.toList) /\ o.toList.Pairwise le
theorem Mg.done {a b o:Array Keyed} {i j:Nat} (P:LoP a b) (m:Mg le (a.toList++b.toList) o.toList (a.toList.drop i) (b.toList.drop j)) (h:j=b.size \/ i=a.size):MgD a b (loD a b o i j):=by
 unfold loD MgD;rw [Array.toList_append,Array.toList_append,ug5,ug5]
 rcases h with rfl | rfl
 ·rw [List.drop_of_length_le (l:=b.toList) (by simp)] at m ⊢
  have:=Mg.left (p:=[]) (by simpa using m) (by simpa using P.ra.pw i) (by simp);exact ⟨by simpa using this.1,by simpa using this.2.1⟩
 ·rw [List.drop_of_length_le (l:=a.toList) (by simp)] at m ⊢
  have:=Mg.right (q:=[]) (by simpa using m) (by simpa using P.rb.pw j) (by simp);exact ⟨by simpa using this.1,by simpa using this.2.1⟩
theorem Mg.last {a b o:Array Keyed} {i j:Nat} (P:LoP a b) (m:Mg le (a.toList++b.toList) o.toList (a.toList.drop i) (b.toList.drop j)) (h:i+1=a.size):MgD a b (loA a b o i j):=by
 unfold loA MgD;rw [Array.toList_append,Array.toList_append,ug5,ug5];have m1:=Mg.right (l:=b.toList.drop j) (q:=[]) (by simpa using m) (by simpa using P.rb.pw j) (by
  intro x hx y hy;obtain ⟨j1,hj,_,rfl⟩:=u98 hx;obtain ⟨i1,hi,hle,rfl⟩:=u98 hy;obtain rfl:i1=a.size - 1:=by omega
  exact P.lt _ _)
 have m2:=Mg.left (p:=[]) (by simpa using m1) (by simpa using P.ra.pw i) (by simp);exact ⟨by simpa using m2.1,by simpa using m2.2.1⟩
theorem Mg.pa {a b o:Array Keyed} {i j k:Nat} (P:LoP a b) (m:Mg le (a.toList++b.toList) o.toList (a.toList.drop i) (b.toList.drop j)) (hj:j < b.size) (h:∀ x (hx:x < a.size),i<=x->x < i+k->key a[x]<=key b[j]) :
  Mg le (a.toList++b.toList) (o++a.extract i (i+k)).toList (a.toList.drop (i+k)) (b.toList.drop j):=by
 rw [Array.toList_append];rw [u99 (k:=k)] at m;refine m.left (by rw [<- u99];exact P.ra.pw i) fun x hx y hy=>?_
 obtain ⟨x',h1,h2,h3,rfl⟩:=un7 hx;obtain ⟨y',g1,g2,rfl⟩:=u98 hy;exact Int.le_trans (h _ h1 h2 h3) (P.rb _ _ g1 g2)
theorem Mg.pb {a b o:Array Keyed} {i j k:Nat} (P:LoP a b) (m:Mg le (a.toList++b.toList) o.toList (a.toList.drop i) (b.toList.drop j)) (h:∀ x (hx:x < b.size) (hi:i < a.size),j<=x->x < j+k->key b[x]<=key a[i]) :
  Mg le (a.toList++b.toList) (o++b.extract j (j+k)).toList (a.toList.drop i) (b.toList.drop (j+k)):=by
 rw [Array.toList_append];rw [u99 (a:=b) (k:=k)] at m;refine m.right (by rw [<- u99];exact P.rb.pw j) fun x hx y hy=>?_
 obtain ⟨x',h1,h2,h3,rfl⟩:=un7 hx;obtain ⟨y',g1,g2,rfl⟩:=u98 hy;exact Int.le_trans (h _ h1 (by omega) h2 h3) (P.ra _ _ g1 g2)
theorem u65 {a o:Array Keyed} {i:Nat} (h:i < a.size):o.push a[i]=o++a.extract i (i+1):=by
 apply Array.ext';rw [Array.toList_push,Array.toList_append,Array.toList_extract,List.extract_eq_take_drop,List.drop_eq_getElem_cons (by simpa using h),show i+1 - i=1 by omega];simp
section
variable {prog:Program} {w:World} {A:Around} {E:Value->Shared->Prop} {s:Shared}
theorem w_sg {st:SortSt} {g:Nat} {Q:Unit->SortSt->Prop} (h:∀ st',Same st st'->Q () st'):wpS (model prog w) A E s (sGal g) Q st:=wpS_modify (h _ ⟨rfl,rfl,rfl,rfl⟩)
theorem Same.trans {a b c:SortSt} (h:Same a b) (h':Same b c):Same a c:=⟨h'.1.trans h.1,h'.2.1.trans h.2.1,h'.2.2.1.trans h.2.2.1,h'.2.2.2.trans h.2.2.2⟩
theorem vg9 {st0 st:SortSt} {a b o:Array Keyed} {i j n g ca cb:Nat} {Q:ForInStep Sg->SortSt->Prop} (P:LoP a b) (e:Same st0 st) (L:Lo a b o i j) (hn:n < i+j+1) (hlt:∀ x (hx:x < b.size) (hi:i < a.size),j<=x->key a[i]<=key b[x])
  (hd:∀ o' r st',MgD a b o'->Same st0 st'->Q (.done (some o',r)) st') (hy:∀ o i j g ca cb st',Lo a b o i j->n < i+j->Same st0 st'->Q (.yield (none,o,i,j,g,ca,cb)) st' /\ Q (.done (none,o,i,j,g,ca,cb)) st'):wpS (model prog w) A E s (loG3 a b o i j g ca cb) Q st:=by
 have hi:=L.i;unfold loG3;refine wpS_bind (w_el (by omega) ?_);have m:=Mg.pa (k:=1) P L.m L.j (fun x hx h1 h2=>by obtain rfl:x=i:=(by omega);exact hlt _ L.j (by omega) (Nat.le_refl _));rw [u65 (by omega)]
 by_cases h1:i+1+1=a.size
 ·rw [if_pos (by simpa using h1)]
  exact wpS_pure (hd _ _ _ (m.last P h1) e)
 rw [if_neg (by simpa using h1)];have:=hy _ (i+1) j g ca cb st ⟨m,by omega,L.j⟩ (by omega) e;split
 ·exact wpS_pure this.2
 ·exact wpS_pure this.1
theorem vh0 {st0 st:SortSt} {a b o:Array Keyed} {i j n g ca cb:Nat} {Q:ForInStep Sg->SortSt->Prop} (P:LoP a b) (hk:kindOf st0=oneType') (e:Same st0 st) (L:Lo a b o i j) (hn:n < i+j+1) (hlt:∀ x (hx:x < a.size) (hj:j < b.size),i<=x->key b[j]<=key a[x])
  (hd:∀ o' r st',MgD a b o'->Same st0 st'->Q (.done (some o',r)) st') (hy:∀ o i j g ca cb st',Lo a b o i j->n < i+j->Same st0 st'->Q (.yield (none,o,i,j,g,ca,cb)) st' /\ Q (.done (none,o,i,j,g,ca,cb)) st'):wpS (model prog w) A E s (loG2 a b o i j g ca cb) Q st:=by
 have hi:=L.i;have hj:=L.j;unfold loG2;refine wpS_bind (w_el hj ?_);have m:=Mg.pb (k:=1) P L.m (fun x hx hi h1 h2=>by obtain rfl:x=j:=(by omega);exact hlt _ hi hx (Nat.le_refl _));rw [u65 hj]
 by_cases h1:j+1=b.size
 ·rw [if_pos (by simpa using h1)]
  exact wpS_pure (hd _ _ _ (m.done P (.inl h1)) e)
 rw [if_neg (by simpa using h1)];refine wpS_bind (w_el (by omega) (wpS_bind (uu4 (e.1.trans hk) (P.ia _ (by simp)) P.ib (by omega) (by omega) (fun x y hy _ hxy _=>P.rb x y hy hxy) fun k k1 k2 k3=>?_)));dsimp only;have m2:=Mg.pb (k:=k) P m (fun x hx hi h1 h2=>Int.le_of_lt (k2 x hx h1 h2));have rest:∀ x (hx:x < b.size) (hi:i < a.size),j+1+k<=x->key a[i]<=key b[x]:=fun x hx hi h1=>Int.not_lt.mp (k3 x hx h1 (by omega))
 by_cases hk0:k > 0
 ·rw [if_pos hk0]
  by_cases h2:j+1+k=b.size
  ·rw [if_pos (by simpa using h2)]
   exact wpS_pure (hd _ _ _ (m2.done P (.inl h2)) e)
  rw [if_neg (by simpa using h2)];exact vg9 P e ⟨m2,hi,by omega⟩ (by omega) rest hd hy
 ·rw [if_neg hk0]
  obtain rfl:k=0:=by omega
  exact vg9 P e ⟨m,hi,by omega⟩ (by omega) rest hd hy
theorem w20 {st0 st:SortSt} {a b o:Array Keyed} {i j n g ca cb:Nat} {Q:ForInStep Sg->SortSt->Prop} (P:LoP a b) (hk:kindOf st0=oneType') (e:Same st0 st) (L:Lo a b o i j) (hn:n < i+j+1)
  (hd:∀ o' r st',MgD a b o'->Same st0 st'->Q (.done (some o',r)) st') (hy:∀ o i j g ca cb st',Lo a b o i j->n < i+j->Same st0 st'->Q (.yield (none,o,i,j,g,ca,cb)) st' /\ Q (.done (none,o,i,j,g,ca,cb)) st'):wpS (model prog w) A E s (loG1 a b o i j g ca cb) Q st:=by
 have hi:=L.i;have hj:=L.j;unfold loG1;refine wpS_bind (w_sg fun st' e'=>wpS_bind (w_el hj (wpS_bind (uu4 ((e.trans e').1.trans hk) (P.ib _ (by simp)) P.ia (by omega) (by omega) (fun x y hy _ hxy _=>P.ra x y hy hxy) fun k k1 k2 k3=>?_))));have e:=e.trans e';dsimp only;have m2:=Mg.pa (k:=k) P L.m hj (fun x hx h1 h2=>k2 x hx h1 h2);have rest:∀ x (hx:x < a.size) (hj:j < b.size),i+k<=x->key b[j]<=key a[x]:=fun x hx hi h1=>Int.le_of_lt (Int.not_le.mp (k3 x hx h1 (by omega)))
 by_cases hk0:k > 0
 ·rw [if_pos hk0]
  by_cases h2:i+k+1=a.size
  ·rw [if_pos (by simpa using h2)]
   exact wpS_pure (hd _ _ _ (m2.last P h2) e)
  rw [if_neg (by simpa using h2)]
  by_cases h3:i+k=a.size
  ·rw [if_pos (by simpa using h3)]
   exact wpS_pure (hd _ _ _ (m2.done P (.inr h3)) e)
  rw [if_neg (by simpa using h3)];exact vh0 P hk e ⟨m2,by omega,hj⟩ (by omega) rest hd hy
 ·rw [if_neg hk0]
  obtain rfl:k=0:=by omega
  exact vh0 P hk e L hn rest hd hy
theorem wi3 {st0 st:SortSt} {a b o:Array Keyed} {i j n g ca cb:Nat} {Q:ForInStep Si->SortSt->Prop} (P:LoP a b) (hk:kindOf st0=oneType') (e:Same st0 st) (L:Lo a b o i j) (hn:n < i+j+1)
  (hd:∀ o' r,MgD a b o'->Q (.done (some o',r)) st) (hy:∀ o i j ca cb,Lo a b o i j->n < i+j->Q (.yield (none,o,i,j,ca,cb)) st /\ Q (.done (none,o,i,j,ca,cb)) st):wpS (model prog w) A E s (loI a b o i j ca cb g) Q st:=by
 have hi:=L.i;have hj:=L.j;unfold loI;refine wpS_bind (w_el hj (wpS_bind (w_el (by omega) (wpS_bind (w_lt (e.1.trans hk) (P.ib _ (by simp)) (P.ia _ (by simp)) ?_)))));dsimp only
 by_cases hw:key b[j] < key a[i]
 ·simp only [hw,decide_true,if_true]
  refine wpS_bind (w_el hj ?_);have m:=Mg.pb (k:=1) P L.m (fun x hx hi h1 h2=>by obtain rfl:x=j:=(by omega);exact Int.le_of_lt hw);rw [u65 hj]
  by_cases h1:j+1=b.size
  ·rw [if_pos (by simpa using h1)]
   exact wpS_pure (hd _ _ (m.done P (.inl h1)))
  rw [if_neg (by simpa using h1)];have:=fun cb=>hy _ i (j+1) 0 cb ⟨m,hi,by omega⟩ (by omega)
  split
  ·exact wpS_pure (this _).2
  ·exact wpS_pure (this _).1
 ·simp only [hw,decide_false,Bool.false_eq_true,if_false]
  refine wpS_bind (w_el (by omega) ?_);have m:=Mg.pa (k:=1) P L.m L.j (fun x hx h1 h2=>by obtain rfl:x=i:=(by omega);exact Int.not_lt.mp hw);rw [u65 (by omega)]
  by_cases h1:i+1+1=a.size
  ·rw [if_pos (by simpa using h1)]
   exact wpS_pure (hd _ _ (m.last P h1))
  rw [if_neg (by simpa using h1)];have:=fun ca=>hy _ (i+1) j ca 0 ⟨m,by omega,L.j⟩ (by omega)
  split
  ·exact wpS_pure (this _).2
  ·exact wpS_pure (this _).1
theorem w_lo {st:SortSt} {a b:Array Keyed} {Q:Array Keyed->SortSt->Prop} (hk:kindOf st=oneType') (P:LoP a b)
  (h:∀ o st',MgD a b o->Same st st'->Q o st'):wpS (model prog w) A E s (mLo a b) Q st:=by
 rw [wb7];refine wpS_bind (wpS_lift (wpAny_rule ⟨rfl,?_⟩));refine wpS_bind (w_el P.nb ?_);have m0:Mg le (a.toList++b.toList) #[b[0]'P.nb].toList (a.toList.drop 0) (b.toList.drop 1):=by
  have:Mg le (a.toList++b.toList) (#[]:Array Keyed).toList (a.toList.drop 0) (b.toList.drop 0):=⟨by simp,by simp,by simp⟩;have:=Mg.pb (k:=1) P this (fun x hx hi h1 h2=>by obtain rfl:x=0:=(by omega);exact P.ft 0 hi);rw [<- u65 P.nb] at this;exact this
 have rf:Same st st:=⟨rfl,rfl,rfl,rfl⟩
 by_cases h1:1=b.size
 ·rw [if_pos (by simpa using h1)]
  exact wpS_pure (h _ _ (Mg.done P m0 (.inl h1)) rf)
 rw [if_neg (by simpa using h1)]
 by_cases h2:0+1=a.size
 ·rw [if_pos (by simpa using h2)]
  exact wpS_pure (h _ _ (Mg.last P m0 h2) rf)
 rw [if_neg (by simpa using h2)];refine wpS_bind (wpS_get ?_);have hna:=P.na;have hnb:=P.nb;refine wpS_bind (wpS_mono (wpS_forRange (I:=fun x c st'=>Same st st' /\ ∃ o i j g,c=(none,o,i,j,g) /\ Lo a b o i j /\ x < i+j)
  (Q:=fun c st'=>Same st st' /\ ∃ o r,c=(some o,r) /\ MgD a b o) ?_ ?_ ⟨rf,_,_,_,_,rfl,⟨m0,by omega,by omega⟩,by omega⟩) ?_)
 ·rintro x _ st1 - hx ⟨e1,o,i,j,g,rfl,L,hl⟩
  refine wpS_bind (wpS_mono (wpS_forRange (I:=fun y c st'=>st'=st1 /\ ∃ o i j ca cb,c=(none,o,i,j,ca,cb) /\ Lo a b o i j /\ x+y < i+j)
   (Q:=fun c st'=>st'=st1 /\ ((∃ o r,c=(some o,r) /\ MgD a b o) \/ ∃ o i j ca cb,c=(none,o,i,j,ca,cb) /\ Lo a b o i j /\ x+1 < i+j)) ?_ ?_ ⟨rfl,_,_,_,_,_,rfl,L,by omega⟩) ?_)
  ·rintro y _ _ - hy ⟨rfl,o,i,j,ca,cb,rfl,L,hl⟩
   dsimp only;refine wi3 (n:=x+y+1) P hk e1 L (by omega) (fun o' r m=>⟨rfl,.inl ⟨_,_,rfl,m⟩⟩) fun o i j ca cb L h=>⟨⟨rfl,_,_,_,_,_,rfl,L,by omega⟩,rfl,.inr ⟨_,_,_,_,_,rfl,L,by omega⟩⟩
  ·rintro _ _ ⟨rfl,o,i,j,ca,cb,rfl,L,hl⟩
   exact ⟨rfl,.inr ⟨_,_,_,_,_,rfl,L,by omega⟩⟩
  ·rintro _ _ ⟨rfl,⟨o,r,rfl,m⟩ | ⟨o,i,j,ca,cb,rfl,L,hl⟩⟩
   ·exact wpS_pure ⟨e1,_,_,rfl,m⟩
   refine wpS_bind (wpS_lift (wpAny_rule ⟨rfl,?_⟩));refine wpS_bind (wpS_mono (wpS_forRange (I:=fun y c st'=>Same st st' /\ ∃ o i j g ca cb,c=(none,o,i,j,g,ca,cb) /\ Lo a b o i j /\ x+1 < i+j)
    (Q:=fun c st'=>Same st st' /\ ((∃ o r,c=(some o,r) /\ MgD a b o) \/ ∃ o i j g ca cb,c=(none,o,i,j,g,ca,cb) /\ Lo a b o i j /\ x+1 < i+j)) ?_ ?_ ⟨e1,_,_,_,_,_,_,rfl,L,hl⟩) ?_)
   ·rintro y _ st2 - hy ⟨e2,o,i,j,g,ca,cb,rfl,L,hl⟩
    dsimp only;split <;> exact w20 (n:=x+1) P hk e2 L (by omega) (fun o' r st' m e=>⟨e,.inl ⟨_,_,rfl,m⟩⟩) fun o i j g ca cb st' L h e=>⟨⟨e,_,_,_,_,_,_,rfl,L,h⟩,e,.inr ⟨_,_,_,_,_,_,rfl,L,h⟩⟩
   ·rintro _ _ ⟨e2,o,i,j,g,ca,cb,rfl,L,hl⟩
    exact ⟨e2,.inr ⟨_,_,_,_,_,_,rfl,L,hl⟩⟩
   ·rintro _ _ ⟨e2,⟨o,r,rfl,m⟩ | ⟨o,i,j,g,ca,cb,rfl,L,hl⟩⟩
    ·exact wpS_pure ⟨e2,_,_,rfl,m⟩
    exact wpS_bind (w_sg fun st' e'=>wpS_pure ⟨e2.trans e',_,_,_,_,rfl,L,hl⟩)
 ·rintro _ _ ⟨e1,o,i,j,g,rfl,L,hl⟩
  have h3:=L.i;have h4:=L.j;omega
 ·rintro _ _ ⟨e1,o,r,rfl,m⟩
  exact wpS_pure (h _ _ m e1)
end
def hiD (a b o:Array Keyed) (i j:Nat):=a.extract 0 i++b.extract 0 j++o.reverse
def hiB (a b o:Array Keyed) (i j:Nat):=b.extract 0 j++a.extract 0 i++o.reverse
abbrev Sj:=Option (Array Keyed) × Nat × Nat × Array Keyed × Nat
abbrev Sk:=Option (Array Keyed) × Nat × Nat × Array Keyed × Nat × Nat
abbrev Sl:=Option (Array Keyed) × Nat × Nat × Array Keyed × Nat × Nat × Nat
def hiG3 (a b o:Array Keyed) (i j g ca cb:Nat):S (ForInStep Sl):=do
 let z <- elem' a (i - 1)
 if i - 1 == 0 then pure (.done (some (hiD a b (o.push z) (i - 1) j),i - 1,j,o.push z,g,ca,cb)) else
 if ca < 7 && cb < 7 then pure (.done (none,i - 1,j,o.push z,g,ca,cb)) else pure (.yield (none,i - 1,j,o.push z,g,ca,cb))
def hiG2 (a b o:Array Keyed) (i j g ca cb:Nat):S (ForInStep Sl):=do
 let y <- elem' b (j - 1)
 if j - 1 == 1 then pure (.done (some (hiB a b (o.push y) i (j - 1)),i,j - 1,o.push y,g,ca,cb)) else do
 let z <- elem' a (i - 1)
 match <- gal true z b 0 (j - 1) (j - 1 - 1) with
 | some k =>
  if j - 1 - k > 0 then
   if k == 1 then pure (.done (some (hiB a b (o.push y++(b.extract k (j - 1)).reverse) i k),i,k,o.push y++(b.extract k (j - 1)).reverse,g,ca,j - 1 - k)) else
   if k == 0 then pure (.done (some (hiD a b (o.push y++(b.extract k (j - 1)).reverse) i k),i,k,o.push y++(b.extract k (j - 1)).reverse,g,ca,j - 1 - k)) else
   hiG3 a b (o.push y++(b.extract k (j - 1)).reverse) i k g ca (j - 1 - k)
  else hiG3 a b (o.push y) i (j - 1) g ca (j - 1 - k)
 | _=>pure (.done (some (hiD a b (o.push y) i (j - 1)),i,j - 1,o.push y,g,ca,cb))
def hiG1 (a b o:Array Keyed) (i j g ca cb:Nat):S (ForInStep Sl):=do
 sGal g
 let y <- elem' b (j - 1)
 match <- gal false y a 0 i (i - 1) with
 | some k =>
  if i - k > 0 then
   if k == 0 then pure (.done (some (hiD a b (o++(a.extract k i).reverse) k j),k,j,o++(a.extract k i).reverse,g,i - k,cb)) else
   hiG2 a b (o++(a.extract k i).reverse) k j g (i - k) cb
  else hiG2 a b o i j g (i - k) cb
 | _=>pure (.done (some (hiD a b o i j),i,j,o,g,ca,cb))
def hiI (a b o:Array Keyed) (i j ca cb g:Nat):S (ForInStep Sk):=do
 let y <- elem' b (j - 1)
 let z <- elem' a (i - 1)
 match <- lt' y z with
 | some c =>
  if c then do
   let z <- elem' a (i - 1)
   if i - 1 == 0 then pure (.done (some (hiD a b (o.push z) (i - 1) j),i - 1,j,o.push z,ca+1,0)) else
   if ca+1 ≥ g then pure (.done (none,i - 1,j,o.push z,ca+1,0)) else pure (.yield (none,i - 1,j,o.push z,ca+1,0))
  else do
   let y <- elem' b (j - 1)
   if j - 1 == 1 then pure (.done (some (hiB a b (o.push y) i (j - 1)),i,j - 1,o.push y,0,cb+1)) else
   if cb+1 ≥ g then pure (.done (none,i,j - 1,o.push y,0,cb+1)) else pure (.yield (none,i,j - 1,o.push y,0,cb+1))
 | _=>pure (.done (some (hiD a b o i j),i,j,o,ca,cb))
theorem wb8 (a b:Array Keyed):mHi a b=(do
 rule "list.sort.merge-hi"
 let y <- elem' a (a.size - 1)
 if a.size - 1 == 0 then pure (hiD a b #[y] (a.size - 1) b.size) else
 if b.size == 1 then pure (hiB a b #[y] (a.size - 1) b.size) else do
 let g:=gallopOf (<- get)
 let c:Sj <- forIn [0:a.size+b.size] ((none,a.size - 1,b.size,#[y],g):Sj) fun _ (c:Sj)=>do
  let d:Sk <- forIn [0:a.size+b.size] ((none,c.2.1,c.2.2.1,c.2.2.2.1,0,0):Sk) fun _ (d:Sk)=>hiI a b d.2.2.2.1 d.2.1 d.2.2.1 d.2.2.2.2.1 d.2.2.2.2.2 c.2.2.2.2
  match d.1 with
  | some r=>pure (.done ((some r,d.2.1,d.2.2.1,d.2.2.2.1,c.2.2.2.2):Sj))
  | none=>do
   rule "list.sort.gallop"
   let e:Sl <- forIn [0:a.size+b.size] ((none,d.2.1,d.2.2.1,d.2.2.2.1,c.2.2.2.2+1,d.2.2.2.2.1,d.2.2.2.2.2):Sl) fun _ (e:Sl) =>
    if e.2.2.2.2.1 > 1 then hiG1 a b e.2.2.2.1 e.2.1 e.2.2.1 (e.2.2.2.2.1 - 1) e.2.2.2.2.2.1 e.2.2.2.2.2.2 else hiG1 a b e.2.2.2.1 e.2.1 e.2.2.1 e.2.2.2.2.1 e.2.2.2.2.2.1 e.2.2.2.2.2.2
   match e.1 with
   | some r=>pure (.done ((some r,e.2.1,e.2.2.1,e.2.2.2.1,e.2.2.2.2.1):Sj))
   | none=>do
    sGal (e.2.2.2.2.1+1)
    pure (.yield ((none,e.2.1,e.2.2.1,e.2.2.2.1,e.2.2.2.2.1+1):Sj))
 match c.1 with
 | some r=>pure r
 | none=>unsupported "internal:list.sort.merge-bound"):=by kernel_rfl
def ge (x y:Keyed):Prop:=key y<=key x
theorem Rise.wp {a:Array Keyed} (h:Rise a) (i:Nat):(a.toList.take i).reverse.Pairwise ge:=by
 rw [List.pairwise_reverse];refine List.Pairwise.sublist (List.take_sublist _ _) ?_;have:=h.pw 0
 rwa [List.drop_zero] at this
theorem u97 {a:Array Keyed} {i:Nat} {x:Keyed} (h:x ∈ (a.toList.take i).reverse):∃ j,∃ (hj:j < a.size),j < i /\ a[j]=x:=by
 obtain ⟨k,hk,e⟩:=List.mem_iff_getElem.mp (List.mem_reverse.mp h);rw [List.getElem_take] at e;simp only [List.length_take,Array.length_toList] at hk;exact ⟨k,by omega,by omega,by simpa using e⟩
theorem u95 {a:Array Keyed} {k i:Nat} (h:k<=i):(a.toList.take i).reverse=(a.extract k i).reverse.toList++(a.toList.take k).reverse:=by
 rw [Array.toList_reverse,<- List.reverse_append,Array.toList_extract,List.extract_eq_take_drop]
 congr 1
 conv=>lhs;rw [show i=k+(i - k) by omega,List.take_add]
theorem v16 {a:Array Keyed} {k i:Nat} {x:Keyed} (hk:k<=i) (h:x ∈ (a.extract k i).reverse.toList):∃ j,∃ (hj:j < a.size),k<=j /\ j < i /\ a[j]=x:=by
 have h:x ∈ (a.extract k (k+(i - k))).toList:=by simpa [show k+(i - k)=i by omega] using h
 obtain ⟨j,h1,h2,h3,h4⟩:=un7 h;exact ⟨j,h1,h2,by omega,h4⟩
theorem vd4 {a:Array Keyed} {i:Nat}:(a.extract 0 i).toList=a.toList.take i:=by
 rw [Array.toList_extract,List.extract_eq_take_drop,List.drop_zero,Nat.sub_zero]
abbrev MH (a b o:Array Keyed) (i j:Nat):Prop:=Mg ge (a.toList++b.toList) o.toList (a.toList.take i).reverse (b.toList.take j).reverse
structure Hi (a b o:Array Keyed) (i j:Nat):Prop where
 m:MH a b o i j
 p1:1<=i
 p2:i<=a.size
 p3:2<=j
 p4:j<=b.size
theorem uz3 {l:List Keyed} (h:l.Pairwise ge):l.reverse.Pairwise le:=List.pairwise_reverse.mpr h
theorem Mg.dn {a b o:Array Keyed} {i j:Nat} (P:LoP a b) (m:MH a b o i j) (h:i=0 \/ j=0):MgD a b (hiD a b o i j):=by
 unfold hiD MgD;rw [Array.toList_append,Array.toList_append,vd4,vd4,Array.toList_reverse]
 rcases h with rfl | rfl
 ·have:=Mg.right (l:=(b.toList.take j).reverse) (q:=[]) (by simpa using m) (by simpa using P.rb.wp j) (by simp)
  have h2:=uz3 this.2.1;have h1:=(List.reverse_perm _).trans this.1;simp at h1 h2;exact ⟨by simpa using h1,by simpa using h2⟩
 ·have:=Mg.left (l:=(a.toList.take i).reverse) (p:=[]) (by simpa using m) (by simpa using P.ra.wp i) (by simp)
  have h2:=uz3 this.2.1;have h1:=(List.reverse_perm _).trans this.1;simp at h1 h2;exact ⟨by simpa using h1,by simpa using h2⟩
theorem Mg.fst {a b o:Array Keyed} {i j:Nat} (P:LoP a b) (m:MH a b o i j) (h:j=1):MgD a b (hiB a b o i j):=by
 unfold hiB MgD;rw [Array.toList_append,Array.toList_append,vd4,vd4,Array.toList_reverse];have m1:=Mg.left (l:=(a.toList.take i).reverse) (p:=[]) (by simpa using m) (by simpa using P.ra.wp i) (by
  intro x hx y hy;obtain ⟨i1,hi,_,rfl⟩:=u97 hx;obtain ⟨j1,hj,hle,rfl⟩:=u97 hy;obtain rfl:j1=0:=by omega
  exact P.ft _ _)
 have:=Mg.right (l:=(b.toList.take j).reverse) (q:=[]) (by simpa using m1) (by simpa using P.rb.wp j) (by simp);have h2:=uz3 this.2.1;have h1:=(List.reverse_perm _).trans this.1;simp at h1 h2;exact ⟨by simpa using h1,by simpa using h2⟩
theorem Mg.ha {a b o:Array Keyed} {k i j:Nat} (P:LoP a b) (m:MH a b o i j) (hj:1<=j) (hj':j<=b.size) (hk:k<=i) (h:∀ x (hx:x < a.size),k<=x->x < i->key b[j - 1]<=key a[x]):MH a b (o++(a.extract k i).reverse) k j:=by
 show Mg _ _ (o++_).toList _ _
 rw [Array.toList_append];rw [MH,u95 hk] at m;refine m.left (by rw [<- u95 hk];exact P.ra.wp i) fun x hx y hy=>?_
 obtain ⟨x',h1,h2,h3,rfl⟩:=v16 hk hx;obtain ⟨y',g1,g2,rfl⟩:=u97 hy;exact Int.le_trans (P.rb y' (j - 1) (by omega) (by omega)) (h _ h1 h2 h3)
theorem Mg.hb {a b o:Array Keyed} {k i j:Nat} (P:LoP a b) (m:MH a b o i j) (hi:1<=i) (hi':i<=a.size) (hk:k<=j) (h:∀ x (hx:x < b.size),k<=x->x < j->key a[i - 1]<=key b[x]):MH a b (o++(b.extract k j).reverse) i k:=by
 show Mg _ _ (o++_).toList _ _
 rw [Array.toList_append];rw [MH,u95 (a:=b) hk] at m;refine m.right (by rw [<- u95 hk];exact P.rb.wp j) fun x hx y hy=>?_
 obtain ⟨x',h1,h2,h3,rfl⟩:=v16 hk hx;obtain ⟨y',g1,g2,rfl⟩:=u97 hy;exact Int.le_trans (P.ra y' (i - 1) (by omega) (by omega)) (h _ h1 h2 h3)
theorem u82 {a o:Array Keyed} {i:Nat} (h:i - 1 < a.size) (h1:1<=i):o.push a[i - 1]=o++(a.extract (i - 1) i).reverse:=by
 have:=u65 (o:=o) h;rw [show i - 1+1=i by omega] at this;rw [this];apply Array.ext';have e:(a.extract (i - 1) i).toList=[a[i - 1]]:=by
  rw [Array.toList_extract,List.extract_eq_take_drop,List.drop_eq_getElem_cons (by simpa using h),show i - (i - 1)=1 by omega];simp
 rw [Array.toList_append,Array.toList_append,Array.toList_reverse,e];rfl
section
variable {prog:Program} {w:World} {A:Around} {E:Value->Shared->Prop} {s:Shared}
theorem vh1 {st0 st:SortSt} {a b o:Array Keyed} {i j n g ca cb:Nat} {Q:ForInStep Sl->SortSt->Prop} (P:LoP a b) (e:Same st0 st) (L:Hi a b o i j) (hn:i+j<=n+1) (hlt:∀ x (hx:x < b.size) (hi:i - 1 < a.size),x < j->key b[x]<=key a[i - 1])
  (hd:∀ o' r st',MgD a b o'->Same st0 st'->Q (.done (some o',r)) st') (hy:∀ o i j g ca cb st',Hi a b o i j->i+j<=n->Same st0 st'->Q (.yield (none,i,j,o,g,ca,cb)) st' /\ Q (.done (none,i,j,o,g,ca,cb)) st'):wpS (model prog w) A E s (hiG3 a b o i j g ca cb) Q st:=by
 obtain ⟨m,hi,hi',hj,hj'⟩:=L;unfold hiG3;refine wpS_bind (w_el (by omega) ?_);have m:=Mg.ha (k:=i - 1) P m (by omega) hj' (by omega) (fun x hx h1 h2=>by obtain rfl:x=i - 1:=(by omega);exact hlt _ (by omega) (by omega) (by omega));rw [u82 (by omega) hi]
 by_cases h1:i - 1=0
 ·rw [if_pos (by simpa using h1)]
  exact wpS_pure (hd _ _ _ (m.dn P (.inl h1)) e)
 rw [if_neg (by simpa using h1)];have:=hy _ (i - 1) j g ca cb st ⟨m,by omega,by omega,hj,hj'⟩ (by omega) e;split
 ·exact wpS_pure this.2
 ·exact wpS_pure this.1
theorem vh2 {st0 st:SortSt} {a b o:Array Keyed} {i j n g ca cb:Nat} {Q:ForInStep Sl->SortSt->Prop} (P:LoP a b) (hk:kindOf st0=oneType') (e:Same st0 st) (L:Hi a b o i j) (hn:i+j<=n+1) (hlt:∀ x (hx:x < a.size) (hj:j - 1 < b.size),x < i->key a[x]<=key b[j - 1])
  (hd:∀ o' r st',MgD a b o'->Same st0 st'->Q (.done (some o',r)) st') (hy:∀ o i j g ca cb st',Hi a b o i j->i+j<=n->Same st0 st'->Q (.yield (none,i,j,o,g,ca,cb)) st' /\ Q (.done (none,i,j,o,g,ca,cb)) st'):wpS (model prog w) A E s (hiG2 a b o i j g ca cb) Q st:=by
 obtain ⟨m,hi,hi',hj,hj'⟩:=L;unfold hiG2;refine wpS_bind (w_el (by omega) ?_);have m:=Mg.hb (k:=j - 1) P m hi hi' (by omega) (fun x hx h1 h2=>by obtain rfl:x=j - 1:=(by omega);exact hlt _ (by omega) (by omega) (by omega));rw [u82 (by omega) (by omega)]
 by_cases h1:j - 1=1
 ·rw [if_pos (by simpa using h1)]
  exact wpS_pure (hd _ _ _ (m.fst P h1) e)
 rw [if_neg (by simpa using h1)];refine wpS_bind (w_el (by omega) (wpS_bind (uu4 (e.1.trans hk) (P.ia _ (by simp)) P.ib (by omega) (by omega) (fun x y hy _ hxy _=>P.rb x y hy hxy) fun k k1 k2 k3=>?_)));dsimp only;have m2:=Mg.hb (k:=k) P m hi hi' k1 (fun x hx h1 h2=>Int.not_lt.mp (k3 x hx (by omega) (by omega)));have rest:∀ x (hx:x < b.size) (hi:i - 1 < a.size),x < k->key b[x]<=key a[i - 1]:=fun x hx hi h1=>Int.le_of_lt (k2 x hx (by omega) (by omega))
 by_cases hk0:j - 1 - k > 0
 ·rw [if_pos hk0]
  by_cases h2:k=1
  ·rw [if_pos (by simpa using h2)]
   exact wpS_pure (hd _ _ _ (m2.fst P h2) e)
  rw [if_neg (by simpa using h2)]
  by_cases h3:k=0
  ·rw [if_pos (by simpa using h3)]
   exact wpS_pure (hd _ _ _ (m2.dn P (.inr h3)) e)
  rw [if_neg (by simpa using h3)];exact vh1 P e ⟨m2,hi,hi',by (clear hk0 rest k3 k2 k1 h1 hj' hj hi' hi hy hd hlt hn hk;omega),by (clear rest k3 k2 k1 h1 hj hi' hi hy hd hlt hn hk;omega)⟩ (by omega) rest hd hy
 ·rw [if_neg hk0]
  obtain rfl:k=j - 1:=by (clear rest k3 k2 h1 hj' hi' hi hy hd hlt hn hk;omega)
  exact vh1 P e ⟨m,hi,hi',by (clear rest k3 k2 k1 hj' hi' hi hy hd hlt hn hk;omega),by (clear rest k3 k2 k1 h1 hi' hi hy hd hlt hn hk;omega)⟩ (by (clear rest k3 k2 k1 h1 hj' hi' hi hy hd hlt hk;omega)) rest hd hy
theorem w21 {st0 st:SortSt} {a b o:Array Keyed} {i j n g ca cb:Nat} {Q:ForInStep Sl->SortSt->Prop} (P:LoP a b) (hk:kindOf st0=oneType') (e:Same st0 st) (L:Hi a b o i j) (hn:i+j<=n+1)
  (hd:∀ o' r st',MgD a b o'->Same st0 st'->Q (.done (some o',r)) st') (hy:∀ o i j g ca cb st',Hi a b o i j->i+j<=n->Same st0 st'->Q (.yield (none,i,j,o,g,ca,cb)) st' /\ Q (.done (none,i,j,o,g,ca,cb)) st'):wpS (model prog w) A E s (hiG1 a b o i j g ca cb) Q st:=by
 obtain ⟨m,hi,hi',hj,hj'⟩:=L;unfold hiG1;refine wpS_bind (w_sg fun st' e'=>wpS_bind (w_el (by omega) (wpS_bind (uu4 ((e.trans e').1.trans hk) (P.ib _ (by simp)) P.ia (by omega) (by omega) (fun x y hy _ hxy _=>P.ra x y hy hxy) fun k k1 k2 k3=>?_))));have e:=e.trans e';dsimp only;have m2:=Mg.ha (k:=k) P m (by omega) hj' k1 (fun x hx h1 h2=>Int.le_of_lt (Int.not_le.mp (k3 x hx (by omega) (by omega))));have rest:∀ x (hx:x < a.size) (hj:j - 1 < b.size),x < k->key a[x]<=key b[j - 1]:=fun x hx hi h1=>k2 x hx (by omega) (by omega)
 by_cases hk0:i - k > 0
 ·rw [if_pos hk0]
  by_cases h3:k=0
  ·rw [if_pos (by simpa using h3)]
   exact wpS_pure (hd _ _ _ (m2.dn P (.inl h3)) e)
  rw [if_neg (by simpa using h3)];exact vh2 P hk e ⟨m2,by omega,by omega,hj,hj'⟩ (by omega) rest hd hy
 ·rw [if_neg hk0]
  obtain rfl:k=i:=by omega
  exact vh2 P hk e ⟨m,hi,hi',hj,hj'⟩ hn rest hd hy
theorem wi4 {st0 st:SortSt} {a b o:Array Keyed} {i j n g ca cb:Nat} {Q:ForInStep Sk->SortSt->Prop} (P:LoP a b) (hk:kindOf st0=oneType') (e:Same st0 st) (L:Hi a b o i j) (hn:i+j<=n+1)
  (hd:∀ o' r,MgD a b o'->Q (.done (some o',r)) st) (hy:∀ o i j ca cb,Hi a b o i j->i+j<=n->Q (.yield (none,i,j,o,ca,cb)) st /\ Q (.done (none,i,j,o,ca,cb)) st):wpS (model prog w) A E s (hiI a b o i j ca cb g) Q st:=by
 obtain ⟨m,hi,hi',hj,hj'⟩:=L;unfold hiI;refine wpS_bind (w_el (by omega) (wpS_bind (w_el (by omega) (wpS_bind (w_lt (e.1.trans hk) (P.ib _ (by simp)) (P.ia _ (by simp)) ?_)))));dsimp only
 by_cases hw:key b[j - 1] < key a[i - 1]
 ·simp only [hw,decide_true,if_true]
  refine wpS_bind (w_el (by omega) ?_);have m:=Mg.ha (k:=i - 1) P m (by omega) hj' (by omega) (fun x hx h1 h2=>by obtain rfl:x=i - 1:=(by omega);exact Int.le_of_lt hw);rw [u82 (by omega) hi]
  by_cases h1:i - 1=0
  ·rw [if_pos (by simpa using h1)]
   exact wpS_pure (hd _ _ (m.dn P (.inl h1)))
  rw [if_neg (by simpa using h1)];have:=fun ca=>hy _ (i - 1) j ca 0 ⟨m,by omega,by omega,hj,hj'⟩ (by omega)
  split
  ·exact wpS_pure (this _).2
  ·exact wpS_pure (this _).1
 ·simp only [hw,decide_false,Bool.false_eq_true,if_false]
  refine wpS_bind (w_el (by omega) ?_);have m:=Mg.hb (k:=j - 1) P m hi hi' (by omega) (fun x hx h1 h2=>by obtain rfl:x=j - 1:=(by omega);exact Int.not_lt.mp hw);rw [u82 (by omega) (by omega)]
  by_cases h1:j - 1=1
  ·rw [if_pos (by simpa using h1)]
   exact wpS_pure (hd _ _ (m.fst P h1))
  rw [if_neg (by simpa using h1)];have:=fun cb=>hy _ i (j - 1) 0 cb ⟨m,hi,hi',by omega,by omega⟩ (by omega)
  split
  ·exact wpS_pure (this _).2
  ·exact wpS_pure (this _).1
theorem w_hi {st:SortSt} {a b:Array Keyed} {Q:Array Keyed->SortSt->Prop} (hk:kindOf st=oneType') (P:LoP a b)
  (h:∀ o st',MgD a b o->Same st st'->Q o st'):wpS (model prog w) A E s (mHi a b) Q st:=by
 rw [wb8];refine wpS_bind (wpS_lift (wpAny_rule ⟨rfl,?_⟩));have hna:=P.na;have hnb:=P.nb;refine wpS_bind (w_el (by omega) ?_);have m0:MH a b #[a[a.size - 1]] (a.size - 1) b.size:=by
  have m:MH a b #[] a.size b.size:=⟨by rw [List.take_of_length_le (by simp),List.take_of_length_le (by simp)];exact (List.reverse_perm _).append (List.reverse_perm _),by simp,by simp⟩;have:=Mg.ha (k:=a.size - 1) P m hnb (Nat.le_refl _) (by omega) (fun x hx h1 h2=>by obtain rfl:x=a.size - 1:=(by omega);exact P.lt _ _);rw [<- u82 (by omega) hna] at this;exact this
 have rf:Same st st:=⟨rfl,rfl,rfl,rfl⟩
 by_cases h1:a.size - 1=0
 ·rw [if_pos (by simpa using h1)]
  exact wpS_pure (h _ _ (Mg.dn P m0 (.inl h1)) rf)
 rw [if_neg (by simpa using h1)]
 by_cases h2:b.size=1
 ·rw [if_pos (by simpa using h2)]
  exact wpS_pure (h _ _ (Mg.fst P m0 h2) rf)
 rw [if_neg (by simpa using h2)];refine wpS_bind (wpS_get ?_);refine wpS_bind (wpS_mono (wpS_forRange (I:=fun x c st'=>Same st st' /\ ∃ o i j g,c=(none,i,j,o,g) /\ Hi a b o i j /\ i+j+x+1<=a.size+b.size)
  (Q:=fun c st'=>Same st st' /\ ∃ o r,c=(some o,r) /\ MgD a b o) ?_ ?_ ⟨rf,_,_,_,_,rfl,⟨m0,by omega,by omega,by omega,Nat.le_refl _⟩,by omega⟩) ?_)
 ·rintro x _ st1 - hx ⟨e1,o,i,j,g,rfl,L,hl⟩
  refine wpS_bind (wpS_mono (wpS_forRange (I:=fun y c st'=>st'=st1 /\ ∃ o i j ca cb,c=(none,i,j,o,ca,cb) /\ Hi a b o i j /\ i+j+x+y+1<=a.size+b.size)
   (Q:=fun c st'=>st'=st1 /\ ((∃ o r,c=(some o,r) /\ MgD a b o) \/ ∃ o i j ca cb,c=(none,i,j,o,ca,cb) /\ Hi a b o i j /\ i+j+x+2<=a.size+b.size)) ?_ ?_ ⟨rfl,_,_,_,_,_,rfl,L,by omega⟩) ?_)
  ·rintro y _ _ - hy ⟨rfl,o,i,j,ca,cb,rfl,L,hl⟩
   dsimp only;have h5:=L.p1;refine wi4 (n:=i+j - 1) P hk e1 L (by omega) (fun o' r m=>⟨rfl,.inl ⟨_,_,rfl,m⟩⟩) fun o i j ca cb L h=>⟨⟨rfl,_,_,_,_,_,rfl,L,by omega⟩,rfl,.inr ⟨_,_,_,_,_,rfl,L,by omega⟩⟩
  ·rintro _ _ ⟨rfl,o,i,j,ca,cb,rfl,L,hl⟩
   exact ⟨rfl,.inr ⟨_,_,_,_,_,rfl,L,by omega⟩⟩
  ·rintro _ _ ⟨rfl,⟨o,r,rfl,m⟩ | ⟨o,i,j,ca,cb,rfl,L,hl⟩⟩
   ·exact wpS_pure ⟨e1,_,_,rfl,m⟩
   refine wpS_bind (wpS_lift (wpAny_rule ⟨rfl,?_⟩));refine wpS_bind (wpS_mono (wpS_forRange (I:=fun y c st'=>Same st st' /\ ∃ o i j g ca cb,c=(none,i,j,o,g,ca,cb) /\ Hi a b o i j /\ i+j+x+2<=a.size+b.size)
    (Q:=fun c st'=>Same st st' /\ ((∃ o r,c=(some o,r) /\ MgD a b o) \/ ∃ o i j g ca cb,c=(none,i,j,o,g,ca,cb) /\ Hi a b o i j /\ i+j+x+2<=a.size+b.size)) ?_ ?_ ⟨e1,_,_,_,_,_,_,rfl,L,hl⟩) ?_)
   ·rintro y _ st2 - hy ⟨e2,o,i,j,g,ca,cb,rfl,L,hl⟩
    dsimp only;split <;> exact w21 (n:=i+j) P hk e2 L (by omega) (fun o' r st' m e=>⟨e,.inl ⟨_,_,rfl,m⟩⟩) fun o i j g ca cb st' L h e=>⟨⟨e,_,_,_,_,_,_,rfl,L,by omega⟩,e,.inr ⟨_,_,_,_,_,_,rfl,L,by omega⟩⟩
   ·rintro _ _ ⟨e2,o,i,j,g,ca,cb,rfl,L,hl⟩
    exact ⟨e2,.inr ⟨_,_,_,_,_,_,rfl,L,hl⟩⟩
   ·rintro _ _ ⟨e2,⟨o,r,rfl,m⟩ | ⟨o,i,j,g,ca,cb,rfl,L,hl⟩⟩
    ·exact wpS_pure ⟨e2,_,_,rfl,m⟩
    exact wpS_bind (w_sg fun st' e'=>wpS_pure ⟨e2.trans e',_,_,_,_,rfl,L,by omega⟩)
 ·rintro _ _ ⟨e1,o,i,j,g,rfl,L,hl⟩
  have h3:=L.p1;have h4:=L.p3;omega
 ·rintro _ _ ⟨e1,o,r,rfl,m⟩
  exact wpS_pure (h _ _ m e1)
end
def tl (lo n m:Nat):S (Option Nat):=do
 reverseSlice' lo (lo+n)
 let c:Option (Option Nat) × Nat <- forIn [n:m] ((none,n):Option (Option Nat) × Nat) fun _ (c:Option (Option Nat) × Nat)=>do
  match <- ltAt' (lo+c.2) (lo+c.2 - 1) with
  | some e=>if e then pure (.done (none,c.2)) else pure (.yield (none,c.2+1))
  | _=>pure (.done (some none,c.2))
 match c.1 with
 | some r=>pure r
 | none=>pure (some c.2)
def ds (lo n m:Nat):S (Option Nat):=do
 rule "list.sort.descending-run"
 let c:Option (Option Nat) × Nat × Nat <- forIn [n+1:m] ((none,n+1,0):Option (Option Nat) × Nat × Nat) fun _ (c:Option (Option Nat) × Nat × Nat)=>do
  match <- ltAt' (lo+c.2.1) (lo+c.2.1 - 1) with
  | some e=>if e then (if c.2.2 > 0 then (do reverseSlice' (lo+c.2.1 - (c.2.2+1)) (lo+c.2.1);pure (.yield (none,c.2.1+1,0))) else pure (.yield (none,c.2.1+1,0))) else do
   match <- ltAt' (lo+c.2.1 - 1) (lo+c.2.1) with
   | some e=>if e then pure (.done (none,c.2.1,c.2.2)) else pure (.yield (none,c.2.1+1,c.2.2+1))
   | _=>pure (.done (some none,c.2.1,c.2.2))
  | _=>pure (.done (some none,c.2.1,c.2.2))
 match c.1 with
 | some r=>pure r
 | none=>if c.2.2 > 0 then (do reverseSlice' (lo+c.2.1 - (c.2.2+1)) (lo+c.2.1);tl lo c.2.1 m) else tl lo c.2.1 m
theorem wl9 (lo m:Nat):countRun' lo m=(do
 let c:Option (Option Nat) × Nat <- forIn [1:m] ((none,1):Option (Option Nat) × Nat) fun _ (c:Option (Option Nat) × Nat)=>do
  match <- ltAt' (lo+c.2) (lo+c.2 - 1) with
  | some e=>if e then pure (.done (none,c.2)) else pure (.yield (none,c.2+1))
  | _=>pure (.done (some none,c.2))
 match c.1 with
 | some r=>pure r
 | none=>if c.2 == m then pure (some c.2) else if c.2 > 1 then (do
   match <- ltAt' lo (lo+c.2 - 1) with
   | some e=>if e then pure (some c.2) else (do reverseSlice' lo (lo+c.2);ds lo c.2 m)
   | _=>pure none) else ds lo c.2 m):=by kernel_rfl
def Sk' (xs:Array Keyed) (lo hi:Nat):Prop:=∀ i j,lo<=i->i<=j->j < hi->K xs i<=K xs j
def Fk (xs:Array Keyed) (lo hi:Nat):Prop:=∀ i j,lo<=i->i<=j->j < hi->K xs j<=K xs i
abbrev Pd:=Array (Nat × Nat × Nat)
structure Ok (lo:Nat) (a:Array Keyed) (pd:Pd) (st:SortSt):Prop where
 kind:kindOf st=oneType'
 fl:failedOf st=none
 pd:pendingOf st=pd
 pm:(arrOf st).Perm a
 lo:∀ x,x < lo->(arrOf st)[x]?=a[x]?
theorem Ok.size {lo:Nat} {a:Array Keyed} {pd:Pd} {st:SortSt} (h:Ok lo a pd st):(arrOf st).size=a.size:=h.pm.size_eq
theorem Ok.set {lo:Nat} {a:Array Keyed} {pd:Pd} {st:SortSt} (h:Ok lo a pd st) {xs:Array Keyed} (hp:xs.Perm (arrOf st)) (hx:∀ x,x < lo->xs[x]?=(arrOf st)[x]?):Ok lo a pd (setArr st xs):=⟨h.kind,h.fl,h.pd,hp.trans h.pm,fun x hx'=>(hx x hx').trans (h.lo x hx')⟩
def AI (a:Array Keyed):Prop:=∀ x ∈ a.toList,IsI x
theorem AI.perm {a b:Array Keyed} (h:AI a) (p:b.Perm a):AI b:=fun x hx=>h x ((Array.perm_iff_toList_perm.mp p).mem_iff.mp hx)
theorem u61 {a:Array Keyed} {i:Nat} (h:i < a.size):K a i=key a[i]:=by unfold K;rw [getElem?_pos a i h];rfl
theorem Sk'.one {xs:Array Keyed} {lo:Nat}:Sk' xs lo (lo+1):=fun i j _ _ _=>by
 obtain rfl:i=j:=by omega
 exact Int.le_refl _
theorem Sk'.snoc {xs:Array Keyed} {lo x:Nat} (h:Sk' xs lo x) (hx:lo < x) (h':¬ K xs x < K xs (x - 1)):Sk' xs lo (x+1):=fun i j h1 h2 h3=>by
 by_cases hj:j=x
 ·subst hj
  by_cases hi:i=j
  ·subst hi;exact Int.le_refl _
  ·exact Int.le_trans (h i (j - 1) h1 (by omega) (by omega)) (Int.not_lt.mp h')
 ·exact h i j h1 h2 (by omega)
theorem Fk.snoc {xs:Array Keyed} {lo x:Nat} (h:Fk xs lo x) (hx:lo < x) (h':K xs x<=K xs (x - 1)):Fk xs lo (x+1):=fun i j h1 h2 h3=>by
 by_cases hj:j=x
 ·subst hj
  by_cases hi:i=j
  ·subst hi;exact Int.le_refl _
  ·exact Int.le_trans h' (h i (j - 1) h1 (by omega) (by omega))
 ·exact h i j h1 h2 (by omega)
theorem us2 {xs:Array Keyed} {i j lo:Nat} (hj:j<=xs.size) (h:lo<=i) (x:Nat) (hx:x < lo):(mirror xs i j ((j - i) / 2))[x]?=xs[x]?:=by
 rw [getElem?_mirror_all hj,if_neg (by omega)]
section
variable {prog:Program} {w:World} {A:Around} {E:Value->Shared->Prop} {s:Shared} {a:Array Keyed} {pd:Pd}
theorem w_at {lo:Nat} {st:SortSt} {i j:Nat} {Q:Option Bool->SortSt->Prop} (hB:Ok lo a pd st) (h0:AI a) (hi:i < a.size) (hj:j < a.size)
  (h:Q (some (decide (K (arrOf st) i < K (arrOf st) j))) st):wpS (model prog w) A E s (ltAt' i j) Q st:=by
 have hs:=hB.size;have h1:=h0.perm hB.pm;rw [ltAt'_eq];refine wpS_bind (wpS_get (wpS_bind (w_el (by omega) (wpS_bind (w_el (by omega) (w_lt hB.kind (h1 _ (by simp)) (h1 _ (by simp)) ?_))))))
 rwa [u61 (by omega),u61 (by omega)] at h
theorem w_rv {st:SortSt} {i j:Nat} {Q:Unit->SortSt->Prop} (h:Q () (setArr st (mirror (arrOf st) i j ((j - i) / 2)))):wpS (model prog w) A E s (reverseSlice' i j) Q st:=by
 rw [reverseSlice'_eq];exact wpS_modify h
theorem w24 {lo:Nat} {st:SortSt} {n m:Nat} {Q:Option (Option Nat) × Nat->SortSt->Prop} (h0:AI a) (hm:lo+m<=a.size) (h1:1<=n) (hnm:n<=m) (hB:Ok lo a pd st) (hs:Sk' (arrOf st) lo (lo+n))
  (h:∀ k,n<=k->k<=m->Sk' (arrOf st) lo (lo+k)->(k=m \/ K (arrOf st) (lo+k) < K (arrOf st) (lo+k - 1))->Q (none,k) st):wpS (model prog w) A E s (forIn [n:m] ((none,n):Option (Option Nat) × Nat) fun _ (c:Option (Option Nat) × Nat)=>do
  match <- ltAt' (lo+c.2) (lo+c.2 - 1) with
  | some e=>if e then pure (.done (none,c.2)) else pure (.yield (none,c.2+1))
  | _=>pure (.done (some none,c.2))) Q st:=by
 refine wpS_forRange (I:=fun x c st'=>st'=st /\ c=(none,x) /\ Sk' (arrOf st) lo (lo+x)) ?_ ?_ ⟨rfl,rfl,hs⟩
 ·rintro x _ _ hx1 hx ⟨rfl,rfl,g⟩
  refine wpS_bind (w_at hB h0 (by dsimp only;omega) (by dsimp only;omega) ?_);dsimp only
  by_cases hl:K (arrOf ‹SortSt›) (lo+x) < K (arrOf ‹SortSt›) (lo+x - 1)
  ·simp only [hl,decide_true,if_true]
   exact wpS_pure (h x hx1 (by omega) g (.inr hl))
  ·simp only [hl,decide_false,Bool.false_eq_true,if_false]
   exact wpS_pure ⟨rfl,rfl,g.snoc (by omega) hl⟩
 ·rintro _ _ ⟨rfl,rfl,g⟩
  rw [show max n m=m by omega] at g ⊢;exact h m hnm (Nat.le_refl _) g (.inl rfl)
theorem w_tl {lo:Nat} {st:SortSt} {n m:Nat} {Q:Option Nat->SortSt->Prop} (h0:AI a) (hm:lo+m<=a.size) (h1:1<=n) (hnm:n<=m) (hB:Ok lo a pd st) (hs:Fk (arrOf st) lo (lo+n))
  (h:∀ k st',Ok lo a pd st'->1<=k->k<=m->Sk' (arrOf st') lo (lo+k)->Q (some k) st'):wpS (model prog w) A E s (tl lo n m) Q st:=by
 unfold tl;have hz:=hB.size;have hsz:lo+n<=(arrOf st).size:=by omega
 have hB':Ok lo a pd (setArr st (mirror (arrOf st) lo (lo+n) ((lo+n - lo) / 2))):=hB.set (mirror_perm _ _ _ _) (us2 hsz (Nat.le_refl _));refine wpS_bind (w_rv (wpS_bind (w24 h0 hm h1 hnm hB' ?_ fun k k1 k2 k3 _=>wpS_pure (h k _ hB' (by omega) k2 k3))));intro i j a1 a2 a3
 show K (mirror _ _ _ _) i<=K (mirror _ _ _ _) j
 rw [K_mirror hsz,K_mirror hsz,if_pos (by omega),if_pos (by omega)];exact hs _ _ (by omega) (by (clear a1 hsz hz h hnm h1 hm;omega)) (by omega)
theorem w_ds {lo:Nat} {st:SortSt} {n m:Nat} {Q:Option Nat->SortSt->Prop} (h0:AI a) (hm:lo+m<=a.size) (hnm:n+1<=m) (hB:Ok lo a pd st) (hs:Fk (arrOf st) lo (lo+n+1))
  (h:∀ k st',Ok lo a pd st'->1<=k->k<=m->Sk' (arrOf st') lo (lo+k)->Q (some k) st'):wpS (model prog w) A E s (ds lo n m) Q st:=by
 unfold ds;refine wpS_bind (wpS_lift (wpAny_rule ⟨rfl,?_⟩));refine wpS_bind (wpS_mono (wpS_forRange (I:=fun x c st'=>∃ e,c=(none,x,e) /\ Ok lo a pd st' /\ Fk (arrOf st') lo (lo+x) /\ e+1<=x /\ ∀ i,lo+x - (e+1)<=i->i < lo+x->K (arrOf st') i=K (arrOf st') (lo+x - 1))
  (Q:=fun c st'=>∃ x e,c=(none,x,e) /\ n+1<=x /\ x<=m /\ Ok lo a pd st' /\ Fk (arrOf st') lo (lo+x) /\ e+1<=x /\ ∀ i,lo+x - (e+1)<=i->i < lo+x->K (arrOf st') i=K (arrOf st') (lo+x - 1))
  ?_ ?_ ⟨0,rfl,hB,hs,by omega,fun i h1 h2=>by congr 1;omega⟩) ?_)
 ·rintro x _ st1 hx1 hx ⟨e,rfl,B,F,e1,e2⟩
  have hz:=B.size;refine wpS_bind (w_at B h0 (by dsimp only;omega) (by dsimp only;omega) ?_);dsimp only
  by_cases hl:K (arrOf st1) (lo+x) < K (arrOf st1) (lo+x - 1)
  ·simp only [hl,decide_true,if_true]
   have hsz:lo+x<=(arrOf st1).size:=by omega
   by_cases he:e > 0
   ·rw [if_pos he]
    refine wpS_bind (w_rv (wpS_pure ⟨0,rfl,B.set (mirror_perm _ _ _ _) (us2 hsz (by (clear he hsz hl hz e2 hx hx1 h hnm hm;omega))),fun i j a1 a2 a3=>?_,by omega,fun i a1 a2=>by congr 1;(clear he hsz hl hz e2 e1 hx h hnm hm;omega)⟩))
    show K (mirror _ _ _ _) j<=K (mirror _ _ _ _) i
    rw [K_mirror_equal hsz e2,K_mirror_equal hsz e2];exact F.snoc (by omega) (Int.le_of_lt hl) i j a1 a2 a3
   ·rw [if_neg he]
    exact wpS_pure ⟨0,rfl,B,F.snoc (by omega) (Int.le_of_lt hl),by omega,fun i a1 a2=>by congr 1;(clear he hsz hl hz e2 e1 hx h hnm hm;omega)⟩
  ·simp only [hl,decide_false,Bool.false_eq_true,if_false]
   refine wpS_bind (w_at B h0 (by omega) (by omega) ?_);dsimp only
   by_cases hg:K (arrOf st1) (lo+x - 1) < K (arrOf st1) (lo+x)
   ·simp only [hg,decide_true,if_true]
    exact wpS_pure ⟨x,e,rfl,hx1,by omega,B,F,e1,e2⟩
   ·simp only [hg,decide_false,Bool.false_eq_true,if_false]
    refine wpS_pure ⟨e+1,rfl,B,F.snoc (by omega) (by omega),by omega,fun i a1 a2=>?_⟩;rw [show lo+(x+1) - 1=lo+x by omega]
    by_cases hi:i=lo+x
    ·rw [hi]
    ·rw [e2 i (by (clear hg hl hz e2 hx hx1 h hnm hm;omega)) (by (clear a1 hg hl hz e2 e1 hx hx1 h hnm hm;omega))];(clear hi a2 a1 hz e2 e1 hx hx1 h hnm hm;omega)
 ·rintro _ _ ⟨e,rfl,B,F,e1,e2⟩
  rw [show max (n+1) m=m by omega] at *;exact ⟨m,e,rfl,hnm,Nat.le_refl _,B,F,e1,e2⟩
 ·rintro _ st1 ⟨x,e,rfl,x1,x2,B,F,e1,e2⟩
  have hz:=B.size;have hsz:lo+x<=(arrOf st1).size:=by omega
  dsimp only
  by_cases he:e > 0
  ·rw [if_pos he]
   refine wpS_bind (w_rv (w_tl h0 hm (by omega) x2 (B.set (mirror_perm _ _ _ _) (us2 hsz (by omega))) (fun i j a1 a2 a3=>?_) h))
   show K (mirror _ _ _ _) j<=K (mirror _ _ _ _) i
   rw [K_mirror_equal hsz e2,K_mirror_equal hsz e2];exact F i j a1 a2 a3
  ·rw [if_neg he]
   exact w_tl h0 hm (by omega) x2 B F h
theorem w_cr {lo:Nat} {st:SortSt} {m:Nat} {Q:Option Nat->SortSt->Prop} (h0:AI a) (hm:lo+m<=a.size) (h1:1<=m) (hB:Ok lo a pd st)
  (h:∀ k st',Ok lo a pd st'->1<=k->k<=m->Sk' (arrOf st') lo (lo+k)->Q (some k) st'):wpS (model prog w) A E s (countRun' lo m) Q st:=by
 rw [wl9];have hz:=hB.size;refine wpS_bind (w24 h0 hm (Nat.le_refl _) h1 hB Sk'.one fun n n1 n2 n3 n4=>?_);dsimp only
 by_cases hn:n=m
 ·rw [if_pos (by simpa using hn)]
  exact wpS_pure (h n st hB n1 n2 n3)
 rw [if_neg (by simpa using hn)];have hlt:=n4.resolve_left hn
 by_cases hg:n > 1
 ·rw [if_pos hg]
  refine wpS_bind (w_at hB h0 (by omega) (by omega) ?_);dsimp only
  by_cases hr:K (arrOf st) lo < K (arrOf st) (lo+n - 1)
  ·simp only [hr,decide_true,if_true]
   exact wpS_pure (h n st hB n1 n2 n3)
  ·simp only [hr,decide_false,Bool.false_eq_true,if_false]
   have hsz:lo+n<=(arrOf st).size:=by omega
   have al:∀ k,lo<=k->k < lo+n->K (arrOf st) k=K (arrOf st) (lo+n - 1):=fun k k1 k2=>by
    have a1:=n3 lo k (by omega) (by omega) k2;have a2:=n3 k (lo+n - 1) (by omega) (by (clear a1 k1 hsz hr hg hlt hn n4 n2 n1 hz h h1 hm;omega)) (by omega)
    (clear k2 k1 hsz hg hlt hn n4 n2 n1 hz h h1 hm;omega)
   refine wpS_bind (w_rv (w_ds h0 hm (by omega) (hB.set (mirror_perm _ _ _ _) (us2 hsz (Nat.le_refl _))) (fun i j a1 a2 a3=>?_) h))
   show K (mirror _ _ _ _) j<=K (mirror _ _ _ _) i
   rw [K_mirror_equal hsz al,K_mirror_equal hsz al];refine Fk.snoc (fun i j b1 b2 b3=>?_) (by omega) (Int.le_of_lt hlt) i j a1 a2 a3;rw [al i b1 (by (clear b1 a3 a2 a1 al hsz hr hg hlt hn n4 n2 n1 hz h h1 hm;omega)),al j (by (clear b3 a3 a2 a1 al hsz hr hg hlt hn n4 n2 n1 hz h h1 hm;omega)) b3];exact Int.le_refl _
 ·rw [if_neg hg]
  obtain rfl:n=1:=by omega
  refine w_ds h0 hm (by omega) hB (Fk.snoc (fun i j b1 b2 b3=>?_) (by omega) (Int.le_of_lt hlt)) h;obtain rfl:i=j:=by omega
  exact Int.le_refl _
theorem w_bs {lo:Nat} {st:SortSt} {n k:Nat} {Q:Bool->SortSt->Prop} (h0:AI a) (hn:lo+n<=a.size) (hk:k<=n) (hk1:1<=k) (hB:Ok lo a pd st) (hs:Sk' (arrOf st) lo (lo+k))
  (h:∀ st',Ok lo a pd st'->Sk' (arrOf st') lo (lo+n)->Q true st'):wpS (model prog w) A E s (binarySort' lo n k) Q st:=by
 rw [binarySort'_eq,show max k 1=k by omega];refine wpS_bind (wpS_mono (wpS_forRange (I:=fun x c st'=>c=(none,()) /\ Ok lo a pd st' /\ Sk' (arrOf st') lo (lo+x))
  (Q:=fun c st'=>c=(none,()) /\ Ok lo a pd st' /\ Sk' (arrOf st') lo (lo+n)) ?_ ?_ ⟨rfl,hB,hs⟩) ?_)
 ·rintro x _ st1 hx1 hx ⟨rfl,B,g⟩
  have hz:=B.size;refine wpS_bind (wpS_mono (wpS_forRange (I:=fun y c st'=>st'=st1 /\ ∃ l r,c=(none,l,r) /\ l<=r /\ r<=x /\ r - l+y<=x /\ (∀ i,i < l->K (arrOf st1) (lo+i)<=K (arrOf st1) (lo+x)) /\ ∀ i,r<=i->i < x->K (arrOf st1) (lo+x) < K (arrOf st1) (lo+i))
   (Q:=fun c st'=>st'=st1 /\ ∃ l,c=(none,l,l) /\ l<=x /\ (∀ i,i < l->K (arrOf st1) (lo+i)<=K (arrOf st1) (lo+x)) /\ ∀ i,l<=i->i < x->K (arrOf st1) (lo+x) < K (arrOf st1) (lo+i))
   ?_ ?_ ⟨rfl,0,x,rfl,by omega,by omega,by omega,fun i hi=>by omega,fun i a1 a2=>by omega⟩) ?_)
  ·rintro y _ _ - hy ⟨rfl,l,r,rfl,b1,b2,b3,b4,b5⟩
   dsimp only
   by_cases hl:l ≥ r
   ·rw [if_pos hl]
    obtain rfl:l=r:=by (clear b5 b4 b3 b2 hz hy hx hx1 h hk1 hk hn;omega)
    exact wpS_pure ⟨rfl,l,rfl,b2,b4,b5⟩
   ·rw [if_neg hl]
    refine wpS_bind (w_at B h0 (by omega) (by omega) ?_)
    by_cases hq:K (arrOf ‹SortSt›) (lo+x) < K (arrOf ‹SortSt›) (lo+(l+r) / 2)
    ·simp only [hq,decide_true,if_true]
     exact wpS_pure ⟨rfl,_,_,rfl,by (clear hq b5 b4 b3 b2 b1 hz hy hx hx1 h hk1 hk hn;omega),by (clear hq b5 b4 b3 b1 hz hy hx hx1 h hk1 hk hn;omega),by (clear hq b5 b4 b2 b1 hz hx hx1 h hk1 hk hn;omega),b4,fun i c1 c2=>Int.lt_of_lt_of_le hq (g _ _ (by (clear c2 c1 hq b5 b4 b3 b2 b1 hz hy hx hx1 h hk1 hk hn;omega)) (by omega) (by omega))⟩
    ·simp only [hq,decide_false,Bool.false_eq_true,if_false]
     exact wpS_pure ⟨rfl,_,_,rfl,by (clear hq b5 b4 b3 b2 b1 hz hy hx hx1 h hk1 hk hn;omega),by omega,by (clear hq b5 b4 b2 b1 hz hx hx1 h hk1 hk hn;omega),fun i c1=>Int.le_trans (g (lo+i) (lo+(l+r) / 2) (by omega) (by (clear hq hl b5 b4 b3 b2 b1 hz hy hx hx1 h hk1 hk hn;omega)) (by (clear c1 hq b5 b4 b3 b1 hz hy hx hx1 h hk1 hk hn;omega))) (Int.not_lt.mp hq),b5⟩
  ·rintro _ _ ⟨rfl,l,r,rfl,b1,b2,b3,b4,b5⟩
   obtain rfl:l=r:=by (clear b5 b4 b2 hz hx hx1 h hk1 hk hn;omega)
   exact ⟨rfl,l,rfl,b2,b4,b5⟩
  ·rintro _ _ ⟨rfl,l,rfl,b2,b4,b5⟩
   show wpS _ _ _ _ (do moveDown' (lo+x) (lo+l);pure (ForInStep.yield (none,()))) _ _
   rw [moveDown'_eq];have hks:lo+x < (arrOf ‹SortSt›).size:=by omega
   refine wpS_bind (wpS_modify (wpS_pure ⟨rfl,B.set (bubble_perm _ _ _) (fun y hy=>?_),fun i j c1 c2 c3=>?_⟩))
   ·rw [getElem?_bubble hks _ (by omega),if_neg (by omega),if_neg (by (clear hks b5 b4 hz hx hx1 h hk1 hk hn;omega))]
   show K (bubble _ _ _) i<=K (bubble _ _ _) j
   rw [K_bubble hks (by omega),K_bubble hks (by omega),show lo+x - (lo+x - (lo+l))=lo+l by omega];have b4':∀ i,lo<=i->i < lo+l->K (arrOf ‹SortSt›) i<=K (arrOf ‹SortSt›) (lo+x):=fun i d1 d2=>by have:=b4 (i - lo) (by (clear c3 c2 c1 hks b5 b4 b2 hz hx hx1 h hk1 hk hn;omega));rwa [show lo+(i - lo)=i by (clear this d2 c3 c2 c1 hks b5 b4 b2 hz hx hx1 h hk1 hk hn;omega)] at this
   have b5':∀ i,lo+l<=i->i < lo+x->K (arrOf ‹SortSt›) (lo+x) < K (arrOf ‹SortSt›) i:=fun i d1 d2=>by have:=b5 (i - lo) (by (clear d2 b4' c3 c2 c1 hks b5 b4 b2 hz hx hx1 h hk1 hk hn;omega)) (by omega);rwa [show lo+(i - lo)=i by (clear this d2 b4' c3 c2 c1 hks b5 b4 b2 hz hx hx1 h hk1 hk hn;omega)] at this
   repeat' split
   all_goals first
    | (exfalso;omega)
    | exact Int.le_refl _
    | exact b4' _ (by omega) (by (clear b5' b4' c1 hks b5 b4 b2 hz hx hx1 h hk1 hk hn;omega))
    | exact Int.le_of_lt (b5' _ (by (clear b5' b4' c3 c2 c1 hks b5 b4 b2 hz hx hx1 h hk1 hk hn;omega)) (by (clear b5' b4' c2 c1 hks b5 b4 b2 hz hx h hk hn;omega)))
    | exact g _ _ (by omega) (by omega) (by omega)
 ·rintro _ _ ⟨rfl,B,g⟩
  rw [show max k n=n by omega] at g;exact ⟨rfl,B,g⟩
 ·rintro _ _ ⟨rfl,B,g⟩
  exact wpS_pure (h _ B g)
end
theorem ux7 (c:Nat):∀ (m:List Keyed) (n:Nat) (a:Array Keyed),c+n+m.length<=a.size->((m.zipIdx n).foldl (fun a (x:Keyed × Nat)=>a.setIfInBounds (c+x.2) x.1) a).toList=a.toList.take (c+n)++m++a.toList.drop (c+n+m.length)
 | [],n,a,h=>by simp
 | p::m,n,a,h=>by
  rw [List.zipIdx_cons,List.foldl_cons,ux7 c m (n+1) _ (by simp at h ⊢;omega)];have hl:c+n < a.toList.length:=by simp at h ⊢;omega
  rw [Array.toList_setIfInBounds,List.set_eq_take_append_cons_drop,if_pos hl,show c+(n+1)=c+n+1 by omega];have h1:(a.toList.take (c+n)++[p]).length=c+n+1:=by simp at hl ⊢;omega
  have e:a.toList.take (c+n)++p::a.toList.drop (c+n+1)=(a.toList.take (c+n)++[p])++a.toList.drop (c+n+1):=by simp
  show List.take (c+n+1) (a.toList.take (c+n)++p::a.toList.drop (c+n+1))++m++List.drop (c+n+1+m.length) (a.toList.take (c+n)++p::a.toList.drop (c+n+1))=_
  rw [e,List.take_left' h1,<- List.drop_drop,List.drop_left' h1,List.drop_drop,List.length_cons,show c+n+(m.length+1)=c+n+1+m.length by omega];simp
theorem wb9 (i:Nat):mergeAt' i=(do
 let st <- get
 match (pendingOf st)[i]?,(pendingOf st)[i+1]? with
 | some (sa,na,p),some (sb,nb,_)=>do
  set (setPending st (((pendingOf st).setIfInBounds i (sa,na+nb,p)).eraseIdxIfInBounds (i+1)))
  let y <- elem' (arrOf st) sb
  match <- gal false y (arrOf st) sa na 0 with
  | some k=>if na - k == 0 then pure true else (do
    let z <- elem' (arrOf st) (sa+k+(na - k) - 1)
    match <- gal true z (arrOf st) sb nb (nb - 1) with
    | some l=>if l == 0 then pure true else (do
      let o <- if na - k<=l then mLo ((arrOf st).extract (sa+k) sb) ((arrOf st).extract sb (sb+l)) else mHi ((arrOf st).extract (sa+k) sb) ((arrOf st).extract sb (sb+l))
      modify fun t=>setArr t (o.toList.zipIdx.foldl (fun a (x:Keyed × Nat)=>a.setIfInBounds (sa+k+x.2) x.1) (arrOf t))
      return (failedOf (<- get)).isNone)
    | _=>pure false)
  | _=>pure false
 | _,_=>unsupported "internal:list.sort.pending"):=by kernel_rfl
theorem Sk'.key {a:Array Keyed} {lo hi:Nat} (h:Sk' a lo hi) (i j:Nat) (hj:j < a.size) (h1:lo<=i) (hij:i<=j) (h2:j < hi):key a[i]<=key a[j]:=by
 have:=h i j h1 hij h2
 rwa [u61 (by omega),u61 hj] at this
def Mrg (a a':Array Keyed) (lo hi:Nat):Prop:=a'.Perm a /\ (∀ x,x < lo \/ hi<=x->a'[x]?=a[x]?) /\ Sk' a' lo hi
theorem wm9 {l:List Keyed} {a:Array Keyed} {i:Nat} (h:a.toList=l) (hi:i < l.length):K a i=TS.key l[i]:=by
 subst h;rw [u61 (by simpa using hi)];simp
theorem wb6 {a:Array Keyed} {u v:Nat} (hv:v<=a.size) {x:Keyed} (h:x ∈ (a.extract u v).toList):∃ j,u<=j /\ j < v /\ TS.key x=K a j:=by
 rw [Array.toList_extract,List.extract_eq_take_drop] at h;obtain ⟨j,hj,e⟩:=List.mem_iff_getElem.mp h;simp only [List.length_take,List.length_drop,Array.length_toList] at hj;rw [List.getElem_take,List.getElem_drop] at e;refine ⟨u+j,by omega,by omega,?_⟩;rw [<- e,u61 (by omega)];simp
theorem wb4 {a a' o:Array Keyed} {sa sb k l nb:Nat} (h1:sa+k < sb) (hl:0 < l) (hln:l<=nb) (hz:sb+nb<=a.size) (s1:Sk' a sa sb) (s2:Sk' a sb (sb+nb))
  (g1:∀ x,sa<=x->x < sa+k->K a x<=K a sb) (g2:∀ x,sa+k<=x->x < sb->K a sb<=K a x) (g3:∀ x,sb<=x->x < sb+l->K a x<=K a (sb - 1)) (g4:∀ x,sb+l<=x->x < sb+nb->K a (sb - 1)<=K a x)
  (hm:MgD (a.extract (sa+k) sb) (a.extract sb (sb+l)) o) (he:a'.toList=a.toList.take (sa+k)++o.toList++a.toList.drop (sa+k+o.toList.length)):Mrg a a' sa (sb+nb):=by
 obtain ⟨m1,m2⟩:=hm;have ln:o.toList.length=sb+l - (sa+k):=by
  rw [m1.length_eq,List.length_append,Array.length_toList,Array.length_toList,Array.size_extract,Array.size_extract];omega
 have e2:sa+k+o.toList.length=sb+l:=by omega
 rw [e2] at he;have hu:(a.extract (sa+k) sb).toList++(a.extract sb (sb+l)).toList=(a.toList.drop (sa+k)).take (sb+l - (sa+k)):=by
  rw [Array.toList_extract,Array.toList_extract,List.extract_eq_take_drop,List.extract_eq_take_drop,show sb+l - (sa+k)=(sb - (sa+k))+l by omega,List.take_add,List.drop_drop,show sa+k+(sb - (sa+k))=sb by omega,show sb+l - sb=l by omega]
 have hp:a'.Perm a:=by
  rw [Array.perm_iff_toList_perm,he];have:a.toList=a.toList.take (sa+k)++(a.toList.drop (sa+k)).take (sb+l - (sa+k))++a.toList.drop (sb+l):=by
   rw [List.append_assoc]
   conv=>lhs;rw [<- List.take_append_drop (sa+k) a.toList,<- List.take_append_drop (sb+l - (sa+k)) (a.toList.drop (sa+k)),List.drop_drop,show sa+k+(sb+l - (sa+k))=sb+l by omega]
  conv=>rhs;rw [this]
  rw [<- hu];exact (m1.append_left _).append_right _
 have t1:(a.toList.take (sa+k)).length=sa+k:=by rw [List.length_take,Array.length_toList];omega
 have out:∀ x,x < sa+k \/ sb+l<=x->a'[x]?=a[x]?:=by
  intro x hx;rw [<- Array.getElem?_toList,<- Array.getElem?_toList,he]
  rcases hx with hx | hx
  ·rw [List.append_assoc,List.getElem?_append_left (by (clear hu e2 ln he g4 g3 g2 g1 hz hln hl h1;omega)),List.getElem?_take_of_lt hx]
  ·rw [List.getElem?_append_right (by rw [List.length_append];omega),List.getElem?_drop,List.length_append,t1,ln]
   congr 1;(clear hu he g4 g3 g2 g1 hz hln hl h1;omega)
 have inn:∀ x,sa+k<=x->x < sb+l->∃ hx:x - (sa+k) < o.toList.length,K a' x=TS.key o.toList[x - (sa+k)]:=by
  intro x h1 h2;have hlen:x < (a.toList.take (sa+k)++o.toList++a.toList.drop (sb+l)).length:=by rw [List.length_append,List.length_append];omega
  refine ⟨by (clear hlen out hu he g4 g3 g2 g1 hz hln hl;omega),?_⟩;rw [wm9 he hlen]
  congr 1
  rw [List.getElem_append_left (by rw [List.length_append];omega),List.getElem_append_right (by omega)]
  congr 1
  (clear hlen h2 out hu e2 ln he g4 g3 g2 g1 hz hln hl;omega)
 have bd:∀ x,sa+k<=x->x < sb+l->K a sb<=K a' x /\ K a' x<=K a (sb - 1):=by
  intro x h1 h2;obtain ⟨hx,e⟩:=inn x h1 h2;rw [e];have:=m1.mem_iff.mp (List.getElem_mem hx)
  rcases List.mem_append.mp this with q | q
  ·obtain ⟨j,j1,j2,e⟩:=wb6 (by omega) q
   rw [e];exact ⟨g2 j j1 j2,s1 j (sb - 1) (by omega) (by (clear e j1 h2 h1 inn out hu he g4 g3 g2 g1 hz hln hl;omega)) (by omega)⟩
  ·obtain ⟨j,j1,j2,e⟩:=wb6 (by omega) q
   rw [e];exact ⟨s2 sb j (by omega) j1 (by omega),g3 j j1 j2⟩
 refine ⟨hp,fun x hx=>out x (by omega),fun i j i1 ij j1=>?_⟩;have ko:∀ x,x < sa+k \/ sb+l<=x->K a' x=K a x:=fun x hx=>K_congr (out x hx)
 by_cases c1:j < sa+k
 ·rw [ko i (.inl (by (clear ko j1 i1 bd inn out hu e2 ln he g4 g3 g2 g1 hz hln hl h1;omega))),ko j (.inl c1)]
  exact s1 i j i1 ij (by omega)
 by_cases c2:i < sa+k
 ·rw [ko i (.inl c2)]
  refine Int.le_trans (g1 i i1 c2) ?_
  by_cases c3:j < sb+l
  ·exact (bd j (by (clear c3 c2 ko j1 ij i1 bd inn out hu e2 ln he g4 g3 g2 g1 hz hln hl h1;omega)) c3).1
  ·rw [ko j (.inr (by (clear c2 c1 ko j1 ij i1 bd inn out hu he g4 g3 g2 g1 hz hln hl h1;omega)))]
   exact s2 sb j (by omega) (by omega) j1
 by_cases c3:j < sb+l
 ·obtain ⟨hx,ex⟩:=inn i (by (clear c3 c1 ko j1 ij i1 bd inn out hu e2 ln he g4 g3 g2 g1 hz hln hl h1;omega)) (by (clear c2 c1 ko j1 i1 bd inn out hu he g4 g3 g2 g1 hz hln hl h1;omega))
  obtain ⟨hy,ey⟩:=inn j (by (clear ex c3 c2 ko j1 ij i1 bd inn out hu e2 ln he g4 g3 g2 g1 hz hln hl h1;omega)) c3;rw [ex,ey]
  by_cases c:i=j
  ·subst c;exact Int.le_refl _
  ·exact (List.pairwise_iff_getElem.mp m2) _ _ hx hy (by (clear ey ex c3 ko j1 i1 bd inn out hu e2 ln he g4 g3 g2 g1 hz hln hl h1;omega))
 by_cases c4:i < sb+l
 ·rw [ko j (.inr (by (clear c4 c2 c1 ko j1 ij i1 bd inn out hu he g4 g3 g2 g1 hz hln hl h1;omega)))]
  exact Int.le_trans (bd i (by (clear c4 c3 c1 ko j1 ij i1 bd inn out hu e2 ln he g4 g3 g2 g1 hz hln hl h1;omega)) c4).2 (g4 j (by (clear c4 c2 c1 ko j1 ij i1 bd inn out hu he g4 g3 g2 g1 hz hln hl h1;omega)) j1)
 ·rw [ko j (.inr (by (clear c4 c2 c1 ko j1 ij i1 bd inn out hu he g4 g3 g2 g1 hz hln hl h1;omega))),ko i (.inr (by (clear c3 c2 c1 ko j1 ij i1 bd inn out hu he g4 g3 g2 g1 hz hln hl h1;omega)))]
  exact s2 i j (by omega) ij j1
theorem Mrg.idle {a:Array Keyed} {sa sb nb:Nat} (s1:Sk' a sa sb) (s2:Sk' a sb (sb+nb)) (hs:sa < sb) (hn:0 < nb) (h:K a (sb - 1)<=K a sb):Mrg a a sa (sb+nb):=by
 refine ⟨Array.Perm.refl _,fun _ _=>rfl,fun i j i1 ij j1=>?_⟩
 by_cases c1:j < sb
 ·exact s1 i j i1 ij c1
 by_cases c2:i < sb
 ·exact Int.le_trans (s1 i (sb - 1) i1 (by omega) (by omega)) (Int.le_trans h (s2 sb j (by omega) (by omega) j1))
 ·exact s2 i j (by omega) ij j1
section
variable {prog:Program} {w:World} {A:Around} {E:Value->Shared->Prop} {s:Shared} {a:Array Keyed}
theorem wi0 {σ:Type} {st x:σ} {M:Model} {Q:PUnit->σ->Prop} (h:Q ⟨⟩ x):wpS M A E s (set x:StateT σ Sem PUnit) Q st:=by
 unfold wpS;rw [StateT.run_set];exact wpAny_pure ⟨rfl,h⟩
theorem wi2 {st:SortSt} {i sa na p nb q:Nat} {l1 l2:List (Nat × Nat × Nat)} {Q:Bool->SortSt->Prop} (hk:kindOf st=oneType') (hf:failedOf st=none) (h0:AI (arrOf st))
  (hp:pendingOf st=(l1++(sa,na,p)::(sa+na,nb,q)::l2).toArray) (hi:l1.length=i) (n1:1<=na) (n2:1<=nb) (hz:sa+na+nb<=(arrOf st).size) (s1:Sk' (arrOf st) sa (sa+na)) (s2:Sk' (arrOf st) (sa+na) (sa+na+nb))
  (h:∀ st',kindOf st'=oneType'->failedOf st'=none->pendingOf st'=(l1++(sa,na+nb,p)::l2).toArray->Mrg (arrOf st) (arrOf st') sa (sa+na+nb)->Q true st'):wpS (model prog w) A E s (mergeAt' i) Q st:=by
 rw [wb9];refine wpS_bind (wpS_get ?_);have e1:(pendingOf st)[i]?=some (sa,na,p):=by rw [hp,<- hi];simp
 have e2:(pendingOf st)[i+1]?=some (sa+na,nb,q):=by rw [hp,<- hi];simp
 have e3:((pendingOf st).setIfInBounds i (sa,na+nb,p)).eraseIdxIfInBounds (i+1)=(l1++(sa,na+nb,p)::l2).toArray:=by
  rw [hp,<- hi];apply Array.ext';simp [Array.eraseIdxIfInBounds,List.eraseIdx_append_of_length_le]
 rw [e1,e2];dsimp only;rw [e3];refine wpS_bind (wi0 ?_);generalize hs1:setPending st (l1++(sa,na+nb,p)::l2).toArray=st1;have k1:kindOf st1=oneType':=by rw [<- hs1];exact hk
 have f1:failedOf st1=none:=by rw [<- hs1];exact hf
 have p1:pendingOf st1=(l1++(sa,na+nb,p)::l2).toArray:=by rw [<- hs1]
 have a1:arrOf st1=arrOf st:=by rw [<- hs1]
 generalize arrOf st=a at *;refine wpS_bind (w_el (by omega) (wpS_bind (uu4 k1 (h0 _ (by simp)) h0 (by omega) (by omega) s1.key fun k k2 k3 k4=>?_)));dsimp only;have g1:∀ x,sa<=x->x < sa+k->K a x<=K a (sa+na):=fun x x1 x2=>by rw [u61 (by omega),u61 (by omega)];exact k3 x (by omega) x1 x2
 have g2:∀ x,sa+k<=x->x < sa+na->K a (sa+na)<=K a x:=fun x x1 x2=>by rw [u61 (by omega),u61 (by omega)];exact Int.le_of_lt (Int.not_le.mp (k4 x (by omega) x1 x2))
 by_cases c1:na - k=0
 ·rw [if_pos (by simpa using c1)]
  refine wpS_pure (h _ k1 f1 p1 ?_);rw [a1];exact Mrg.idle s1 s2 (by omega) (by omega) (g1 _ (by (clear c1 g2 g1 k4 k3 k2 a1 h hz p1 f1 k1 hs1 e3 e2 e1 n2 hi hp hf hk;omega)) (by (clear g2 g1 k4 k3 k2 a1 h hz p1 f1 k1 hs1 e3 e2 e1 n2 hi hp hf hk;omega)))
 rw [if_neg (by simpa using c1)];have e4:sa+k+(na - k) - 1=sa+na - 1:=by (clear c1 g2 g1 k4 k3 a1 h hz p1 f1 k1 hs1 e3 e2 e1 n2 hi hp hf hk;omega)
 rw [e4];refine wpS_bind (w_el (by omega) (wpS_bind (uu4 k1 (h0 _ (by simp)) h0 (by omega) (by omega) s2.key fun l l2 l3 l4=>?_)));dsimp only;have g3:∀ x,sa+na<=x->x < sa+na+l->K a x<=K a (sa+na - 1):=fun x x1 x2=>by rw [u61 (by omega),u61 (by (clear x1 l4 l3 e4 c1 g2 g1 k4 k3 k2 a1 h p1 f1 k1 hs1 e3 e2 e1 n1 hi hp hf hk;omega))];exact Int.le_of_lt (l3 x (by omega) x1 x2)
 have g4:∀ x,sa+na+l<=x->x < sa+na+nb->K a (sa+na - 1)<=K a x:=fun x x1 x2=>by rw [u61 (by omega),u61 (by omega)];exact Int.not_lt.mp (l4 x (by omega) x1 x2)
 by_cases c2:l=0
 ·rw [if_pos (by simpa using c2)]
  refine wpS_pure (h _ k1 f1 p1 ?_);rw [a1];exact Mrg.idle s1 s2 (by omega) (by omega) (g4 _ (by omega) (by omega))
 rw [if_neg (by simpa using c2)];have z1:(a.extract (sa+k) (sa+na)).size=na - k:=by rw [Array.size_extract];(clear c2 g4 g3 l4 l3 l2 e4 c1 g2 g1 k4 k3 a1 h p1 f1 k1 hs1 e3 e2 e1 n1 hi hp hf hk;omega)
 have z2:(a.extract (sa+na) (sa+na+l)).size=l:=by rw [Array.size_extract];(clear z1 c2 g4 g3 l4 l3 e4 c1 g2 g1 k4 k3 k2 a1 h p1 f1 k1 hs1 e3 e2 e1 n2 n1 hi hp hf hk;omega)
 have P:LoP (a.extract (sa+k) (sa+na)) (a.extract (sa+na) (sa+na+l)):=by
  refine ⟨fun x y hy hxy=>?_,fun x y hy hxy=>?_,fun x hx=>?_,fun x hx=>?_,by (clear g4 g3 l4 l3 l2 e4 g2 g1 k4 k3 a1 h hz p1 f1 k1 hs1 e3 e2 e1 n2 hi hp hf hk;omega),by (clear z1 g4 g3 l4 l3 l2 e4 c1 g2 g1 k4 k3 a1 h hz p1 f1 k1 hs1 e3 e2 e1 n2 n1 hi hp hf hk;omega),fun x hx=>?_,fun x hx=>?_⟩
  ·rw [Array.getElem_extract,Array.getElem_extract]
   exact s1.key _ _ _ (by omega) (by omega) (by (clear hxy z2 c2 g4 g3 l4 l3 l2 e4 c1 g2 g1 k4 k3 a1 h hz p1 f1 k1 hs1 e3 e2 e1 n2 n1 hi hp hf hk;omega))
  ·rw [Array.getElem_extract,Array.getElem_extract]
   exact s2.key _ _ _ (by omega) (by omega) (by (clear hxy z1 c2 g4 g3 l4 l3 e4 c1 g2 g1 k4 k3 k2 a1 h hz p1 f1 k1 hs1 e3 e2 e1 n2 n1 hi hp hf hk;omega))
  ·obtain ⟨j,j1,rfl⟩:=Array.mem_extract_iff_getElem.mp (Array.mem_toList_iff.mp hx)
   exact h0 _ (by simp)
  ·obtain ⟨j,j1,rfl⟩:=Array.mem_extract_iff_getElem.mp (Array.mem_toList_iff.mp hx)
   exact h0 _ (by simp)
  ·rw [Array.getElem_extract,Array.getElem_extract]
   have:=g3 (sa+na+x) (by omega) (by (clear z1 c2 g4 g3 l4 l3 l2 e4 c1 g2 g1 k4 k3 k2 a1 h hz p1 f1 k1 hs1 e3 e2 e1 n2 n1 hi hp hf hk;omega));rw [u61 (by omega),u61 (by (clear this z1 g4 g3 l4 l3 e4 c1 g2 g1 k4 k3 a1 h p1 f1 k1 hs1 e3 e2 e1 hi hp hf hk;omega))] at this;simpa only [z1,show sa+k+(na - k - 1)=sa+na - 1 by (clear this z1 g4 g3 l4 l3 g2 g1 k4 k3 a1 h p1 f1 k1 hs1 e3 e2 e1 hi hp hf hk;omega)] using this
  ·rw [Array.getElem_extract,Array.getElem_extract]
   have:=g2 (sa+k+x) (by omega) (by (clear z2 c2 g4 g3 l4 l3 l2 e4 c1 g2 g1 k4 k3 a1 h hz p1 f1 k1 hs1 e3 e2 e1 n2 n1 hi hp hf hk;omega));rw [u61 (by omega),u61 (by (clear this c2 g4 g3 l4 l3 e4 c1 g2 g1 k4 k3 a1 h p1 f1 k1 hs1 e3 e2 e1 n1 hi hp hf hk;omega))] at this;simpa only [Nat.add_zero] using this
 have fin:∀ (o:Array Keyed) (st2:SortSt),MgD (a.extract (sa+k) (sa+na)) (a.extract (sa+na) (sa+na+l)) o->Same st1 st2->wpS (model prog w) A E s (do
   modify fun t=>setArr t (o.toList.zipIdx.foldl (fun a (x:Keyed × Nat)=>a.setIfInBounds (sa+k+x.2) x.1) (arrOf t))
   return (failedOf (<- get)).isNone:S Bool) Q st2:=by
  intro o st2 m e;refine wpS_bind (wpS_modify (wpS_bind (wpS_get (wpS_pure ?_))));have lo:o.toList.length=na - k+l:=by rw [m.1.length_eq,List.length_append,Array.length_toList,Array.length_toList,z1,z2]
  show Q (failedOf st2).isNone _
  rw [e.2.2.2.trans f1];refine h _ (e.1.trans k1) (e.2.2.2.trans f1) (e.2.2.1.trans p1) ?_
  show Mrg a (o.toList.zipIdx.foldl _ (arrOf st2)) _ _
  rw [e.2.1.trans a1];refine wb4 (k:=k) (l:=l) (by (clear z1 g4 g3 l4 l3 l2 g2 g1 k4 k3 a1 h hz p1 f1 k1 hs1 e3 e2 e1 n2 hi hp hf hk;omega)) (by (clear lo z1 g4 g3 l4 l3 l2 e4 c1 g2 g1 k4 k3 a1 h hz p1 f1 k1 hs1 e3 e2 e1 n2 n1 hi hp hf hk;omega)) l2 (by omega) s1 s2 g1 g2 g3 g4 m ?_;have:=ux7 (sa+k) o.toList 0 a (by (clear z1 c2 g4 g3 l4 l3 e4 c1 g2 g1 k4 k3 a1 h p1 f1 k1 hs1 e3 e2 e1 n2 n1 hi hp hf hk;omega))
  rwa [Nat.add_zero] at this
 split
 ·exact wpS_bind (w_lo k1 P fin)
 ·exact wpS_bind (w_hi k1 P fin)
end
abbrev So2:=Option Unit × Nat
abbrev Su:=Option Unit × Unit
def psh (lo n:Nat):S (ForInStep So2):=do
 modify fun s=>setPending s ((pendingOf s).push (lo,n,0))
 pure (.yield (none,lo+n))
def clI (pw:Nat):S (ForInStep Su):=do
 let p:=pendingOf (<- get)
 match if p.size > 1 then p[p.size - 2]? else none with
 | some (_,_,ol)=>if ol<=pw then pure (.done (none,())) else (do
   let b <- mergeAt' (p.size - 2)
   if !b then pure (.done (some (),())) else pure (.yield (none,())))
 | _=>pure (.done (none,()))
def cll (z lo n:Nat):S (ForInStep So2):=do
 match (pendingOf (<- get)).back? with
 | some (s1,n1,_)=>do
  let c:Su <- forIn [0:z] ((none,()):Su) fun _ (_:Su)=>clI (power' z (2 * s1+n1) (2 * s1+n1+n1+n) z)
  match c.1 with
  | some r=>pure (.done (some r,lo))
  | none=>do
   modify fun s=>setPending s ((pendingOf s).modify ((pendingOf s).size - 1) fun (st,len,_)=>(st,len,power' z (2 * s1+n1) (2 * s1+n1+n1+n) z))
   psh lo n
 | _=>psh lo n
def rnI (z mr lo:Nat):S (ForInStep So2) :=
 if lo ≥ z then pure (.done (none,lo)) else do
 match <- countRun' lo (z - lo) with
 | some n=>if n < mr then (do
   rule "list.sort.binary-insertion"
   let b <- binarySort' lo (min (z - lo) mr) n
   if !b then pure (.done (some (),lo)) else cll z lo (min (z - lo) mr)) else cll z lo n
 | _=>pure (.done (some (),lo))
def fcI:S (ForInStep Su):=do
 let p:=pendingOf (<- get)
 if p.size<=1 then pure (.done (none,())) else do
 let b <- mergeAt' (if (if p.size - 2 > 0 then p[p.size - 2 - 1]?.map (·.2.1) else none).any (· < (p[p.size - 2+1]?.elim 0 (·.2.1))) then p.size - 2 - 1 else p.size - 2)
 if !b then pure (.done (some (),())) else pure (.yield (none,()))
theorem wi8:sortRuns'=(do
 let z:=(arrOf (<- get)).size
 let c:So2 <- forIn [0:z] ((none,0):So2) fun _ (c:So2)=>rnI z (minRun' z z 0) c.2
 match c.1 with
 | some r=>pure r
 | none=>do
  let c:Su <- forIn [0:z] ((none,()):Su) fun _ (_:Su)=>fcI
  match c.1 with
  | some r=>pure r
  | none=>pure ()):=by kernel_rfl
def fst2 (r:Nat × Nat × Nat):Nat × Nat:=(r.1,r.2.1)
def Rs:List (Nat × Nat)->Nat->Nat->Prop
 | [],u,v=>u=v
 | r::l,u,v=>r.1=u /\ 1<=r.2 /\ Rs l (u+r.2) v
theorem Rs.app {m:List (Nat × Nat)}:∀ {l:List (Nat × Nat)} {u v:Nat},Rs (l++m) u v ↔ ∃ w,Rs l u w /\ Rs m w v
 | [],u,v=>by simp [Rs]
 | r::l,u,v=>by
  simp only [List.cons_append,Rs,Rs.app (l:=l)];exact ⟨fun ⟨h1,h2,w,h3,h4⟩=>⟨w,⟨h1,h2,h3⟩,h4⟩,fun ⟨w,⟨h1,h2,h3⟩,h4⟩=>⟨h1,h2,w,h3,h4⟩⟩
theorem Rs.len:∀ {l:List (Nat × Nat)} {u v:Nat},Rs l u v->u+l.length<=v
 | [],u,v,h=>by have h:u=v:=h;simp [h]
 | r::l,u,v,h=>by have:=Rs.len h.2.2;have:=h.2.1;simp;omega
theorem Rs.mem:∀ {l:List (Nat × Nat)} {u v:Nat},Rs l u v->∀ r ∈ l,u<=r.1 /\ r.1+r.2<=v
 | r::l,u,v,h,x,hx=>by
  have:=Rs.len h.2.2
  rcases List.mem_cons.mp hx with rfl | hx
  ·have:=h.1;omega
  ·have:=Rs.mem h.2.2 x hx;omega
structure RI (a:Array Keyed) (lo:Nat) (st:SortSt):Prop where
 kind:kindOf st=oneType'
 fl:failedOf st=none
 pm:(arrOf st).Perm a
 rs:Rs ((pendingOf st).toList.map fst2) 0 lo
 so:∀ r ∈ (pendingOf st).toList.map fst2,Sk' (arrOf st) r.1 (r.1+r.2)
 le:lo<=a.size
theorem Sk'.cg {a b:Array Keyed} {u v:Nat} (h:Sk' a u v) (e:∀ x,u<=x->x < v->b[x]?=a[x]?):Sk' b u v:=fun i j h1 h2 h3=>by
 rw [K_congr (e i h1 (by omega)),K_congr (e j (by omega) h3)];exact h i j h1 h2 h3
theorem RI.psz {a:Array Keyed} {lo:Nat} {st:SortSt} (h:RI a lo st):(pendingOf st).size<=lo:=by
 have:=h.rs.len;simpa using this
section
variable {prog:Program} {w:World} {A:Around} {E:Value->Shared->Prop} {s:Shared} {a:Array Keyed}
theorem w_mI {lo i:Nat} {st:SortSt} {Q:Bool->SortSt->Prop} (h0:AI a) (R:RI a lo st) (hi:i+1 < (pendingOf st).size) (h:∀ st',RI a lo st'->(pendingOf st').size+1=(pendingOf st).size->(∀ x,lo<=x->(arrOf st')[x]?=(arrOf st)[x]?)->Q true st'):wpS (model prog w) A E s (mergeAt' i) Q st:=by
 obtain ⟨l1,x,y,l2,e,hl⟩:∃ l1 x y l2,(pendingOf st).toList=l1++x::y::l2 /\ l1.length=i:=by
  have hi':i+1 < (pendingOf st).toList.length:=by simpa using hi
  refine ⟨(pendingOf st).toList.take i,(pendingOf st).toList[i],(pendingOf st).toList[i+1],(pendingOf st).toList.drop (i+1+1),?_,by rw [List.length_take];omega⟩;rw [<- List.drop_eq_getElem_cons hi',<- List.drop_eq_getElem_cons (by omega),List.take_append_drop]
 obtain ⟨x1,x2,x3⟩:=x;obtain ⟨y1,y2,y3⟩:=y;have rs:=R.rs;have so:=R.so;rw [e] at rs so;simp only [List.map_append,List.map_cons,fst2] at rs so;obtain ⟨u,r1,rfl,r2,hy,r3,r4⟩:=Rs.app.mp rs;simp only at hy r2 r3 r4 so;subst hy;have hle:=r4.len;have hz:=R.pm.size_eq;have hlo:=R.le;refine wi2 (l1:=l1) (l2:=l2) (nb:=y2) R.kind R.fl (h0.perm R.pm) (by rw [<- e]) hl r2 r3 (by omega) (so (x1,x2) (by simp)) (so (x1+x2,y2) (by simp)) fun st' k f p m=>?_
 have e':(pendingOf st').toList.map fst2=l1.map fst2++(x1,x2+y2)::l2.map fst2:=by rw [p];simp [fst2]
 have l1':=fun r hr=>r1.mem r hr
 have l2':=fun r hr=>r4.mem r hr
 refine h st' ⟨k,f,m.1.trans R.pm,?_,?_,hlo⟩ ?_ fun x hx=>m.2.1 x (.inr (by omega))
 ·rw [e']
  exact Rs.app.mpr ⟨_,r1,rfl,by simp only;omega,by simpa only [Nat.add_assoc] using r4⟩
 ·rw [e']
  intro r hr
  rcases List.mem_append.mp hr with hr | hr
  ·exact (so r (by simp only [List.mem_append];exact .inl hr)).cg fun x h1 h2=>m.2.1 x (.inl (by have:=l1' r hr;(clear h1 l2' l1' e' p f k hlo hz hle so e r3 r2 hl h hi;omega)))
  ·rcases List.mem_cons.mp hr with rfl | hr
   ·simpa only [Nat.add_assoc] using m.2.2
   ·exact (so r (by simp only [List.mem_append,List.mem_cons];exact .inr (.inr (.inr hr)))).cg fun x h1 h2=>m.2.1 x (.inr (by have:=l2' r hr;omega))
 ·have z1:(pendingOf st').size=(l1++(x1,x2+y2,x3)::l2).length:=by rw [p];simp
  have z2:(pendingOf st).size=(l1++(x1,x2,x3)::(x1+x2,y2,y3)::l2).length:=by rw [<- Array.length_toList,e]
  rw [z1,z2];simp;(clear z2 z1 l2' l1' e' p f k hlo hz hle so e r3 r2 hl h hi;omega)
theorem w19 {lo n:Nat} {st:SortSt} {Q:ForInStep So2->SortSt->Prop} (R:RI a lo st) (hn:1<=n) (hz:lo+n<=a.size) (hs:Sk' (arrOf st) lo (lo+n)) (h:∀ st',RI a (lo+n) st'->Q (.yield (none,lo+n)) st'):wpS (model prog w) A E s (psh lo n) Q st:=by
 unfold psh;have e:(((pendingOf st).push (lo,n,0)).toList.map fst2)=(pendingOf st).toList.map fst2++[(lo,n)]:=by simp [fst2]
 refine wpS_bind (wpS_modify (wpS_pure (h _ ⟨R.kind,R.fl,R.pm,?_,?_,hz⟩)))
 ·show Rs (((pendingOf st).push (lo,n,0)).toList.map fst2) _ _
  rw [e];exact Rs.app.mpr ⟨_,R.rs,rfl,hn,rfl⟩
 ·show ∀ r ∈ ((pendingOf st).push (lo,n,0)).toList.map fst2,Sk' (arrOf st) _ _
  rw [e];intro r hr
  rcases List.mem_append.mp hr with hr | hr
  ·exact R.so r hr
  ·rw [List.mem_singleton.mp hr]
   exact hs
theorem vk3 (g:Nat × Nat × Nat->Nat × Nat × Nat) (hg:∀ x,fst2 (g x)=fst2 x):∀ (l:List (Nat × Nat × Nat)) (i:Nat),(l.modify i g).map fst2=l.map fst2
 | [],i=>by simp
 | x::l,0=>by simp [hg]
 | x::l,i+1=>by simp [vk3 g hg l i]
theorem w23 {z lo n:Nat} {st:SortSt} {Q:ForInStep So2->SortSt->Prop} (h0:AI a) (R:RI a lo st) (hn:1<=n) (hz:lo+n<=a.size) (hs:Sk' (arrOf st) lo (lo+n)) (h:∀ st',RI a (lo+n) st'->Q (.yield (none,lo+n)) st'):wpS (model prog w) A E s (cll z lo n) Q st:=by
 unfold cll;refine wpS_bind (wpS_get ?_);split
 ·rename_i s1 n1 _ _
  refine wpS_bind (wpS_mono (wpS_forRange (I:=fun _ c st'=>c=(none,()) /\ RI a lo st' /\ Sk' (arrOf st') lo (lo+n)) (Q:=fun c st'=>c=(none,()) /\ RI a lo st' /\ Sk' (arrOf st') lo (lo+n)) ?_ (fun _ _ h=>h) ⟨rfl,R,hs⟩) ?_)
  ·rintro x _ st1 - hx ⟨rfl,R,hs⟩
   unfold clI;refine wpS_bind (wpS_get ?_);dsimp only;split
   ·rename_i ol heq
    split
    ·exact wpS_pure ⟨rfl,R,hs⟩
    ·have hsz:(pendingOf st1).size > 1:=by
      by_cases hc:(pendingOf st1).size > 1
      ·exact hc
      ·rw [if_neg hc] at heq;cases heq
     refine wpS_bind (w_mI h0 R (by omega) fun st' R' _ hx'=>?_);exact wpS_pure ⟨rfl,R',hs.cg fun x h1 _=>hx' x h1⟩
   ·exact wpS_pure ⟨rfl,R,hs⟩
  ·rintro _ st1 ⟨rfl,R,hs⟩
   refine wpS_bind (wpS_modify ?_);have e:=vk3 (fun (x:Nat × Nat × Nat)=>(x.1,x.2.1,power' z (2 * s1+n1) (2 * s1+n1+n1+n) z)) (fun _=>rfl) (pendingOf st1).toList ((pendingOf st1).size - 1);refine w19 ⟨R.kind,R.fl,R.pm,?_,?_,R.le⟩ hn hz hs h
   ·show Rs (((pendingOf st1).modify _ _).toList.map fst2) _ _
    rw [Array.toList_modify];exact e ▸ R.rs
   ·show ∀ r ∈ ((pendingOf st1).modify _ _).toList.map fst2,Sk' (arrOf st1) _ _
    rw [Array.toList_modify];exact e ▸ R.so
 ·exact w19 R hn hz hs h
theorem wi1 {mr lo:Nat} {st:SortSt} {Q:ForInStep So2->SortSt->Prop} (h0:AI a) (hm:1<=mr) (R:RI a lo st) (hd:a.size<=lo->Q (.done (none,lo)) st) (hy:∀ lo' st',RI a lo' st'->lo < lo'->Q (.yield (none,lo')) st'):wpS (model prog w) A E s (rnI a.size mr lo) Q st:=by
 unfold rnI;have hlo:=R.le
 by_cases hg:lo ≥ a.size
 ·rw [if_pos hg]
  exact wpS_pure (hd hg)
 rw [if_neg hg];have hz:=R.pm.size_eq;refine wpS_bind (w_cr (a:=arrOf st) (pd:=pendingOf st) (h0.perm R.pm) (by omega) (by omega) ⟨R.kind,R.fl,rfl,Array.Perm.refl _,fun _ _=>rfl⟩ fun n st' B n1 n2 n3=>?_);have kp:∀ st',Ok lo (arrOf st) (pendingOf st) st'->RI a lo st':=fun st' B=>by
  refine ⟨B.kind,B.fl,B.pm.trans R.pm,by rw [B.pd];exact R.rs,?_,hlo⟩;rw [B.pd];intro r hr;have:=R.rs.mem r hr;exact (R.so r hr).cg fun x _ h2=>B.lo x (by omega)
 dsimp only
 by_cases hc:n < mr
 ·rw [if_pos hc]
  refine wpS_bind (wpS_lift (wpAny_rule ⟨rfl,?_⟩));refine wpS_bind (w_bs (a:=arrOf st) (pd:=pendingOf st) (h0.perm R.pm) (by omega) (by omega) n1 B n3 fun st2 B2 g=>?_);exact w23 h0 (kp _ B2) (by omega) (by omega) g fun st3 R3=>hy _ _ R3 (by omega)
 ·rw [if_neg hc]
  exact w23 h0 (kp _ B) n1 (by omega) n3 fun st3 R3=>hy _ _ R3 (by omega)
theorem vk2:∀ (f n r:Nat),1<=n->1<=minRun' f n r
 | 0,n,r,h=>by show 1<=n+r;omega
 | f+1,n,r,h=>by
  rw [minRun'_succ];split
  ·omega
  ·exact vk2 f _ _ (by omega)
theorem w_sr {st:SortSt} {Q:Unit->SortSt->Prop} (h0:AI a) (h2:2<=a.size) (hk:kindOf st=oneType') (hf:failedOf st=none) (hp:pendingOf st=#[]) (ha:arrOf st=a)
  (h:∀ st',(arrOf st').Perm a->failedOf st'=none->SortedTo (arrOf st') a.size->Q () st'):wpS (model prog w) A E s sortRuns' Q st:=by
 rw [wi8];refine wpS_bind (wpS_get ?_);rw [ha];refine wpS_bind (wpS_mono (wpS_forRange (I:=fun x c st'=>∃ lo,c=(none,lo) /\ RI a lo st' /\ x<=lo) (Q:=fun c st'=>∃ lo,c=(none,lo) /\ RI a lo st' /\ a.size<=lo) ?_ ?_ ⟨0,rfl,⟨hk,hf,by rw [ha],by rw [hp];rfl,by rw [hp];simp,by omega⟩,Nat.le_refl _⟩) ?_)
 ·rintro x _ st1 - hx ⟨lo,rfl,R,hl⟩
  exact wi1 h0 (vk2 _ _ _ (by omega)) R (fun h=>⟨_,rfl,R,h⟩) fun lo' st' R' h=>⟨_,rfl,R',by omega⟩
 ·rintro _ _ ⟨lo,rfl,R,hl⟩
  exact ⟨_,rfl,R,by omega⟩
 ·rintro _ st1 ⟨lo,rfl,R,hl⟩
  have hlo:=R.le;obtain rfl:lo=a.size:=by omega
  refine wpS_bind (wpS_mono (wpS_forRange (I:=fun x c st'=>c=(none,()) /\ RI a a.size st' /\ ((pendingOf st').size+x<=a.size)) (Q:=fun c st'=>c=(none,()) /\ RI a a.size st' /\ (pendingOf st').size<=1) ?_ ?_ ⟨rfl,R,R.psz⟩) ?_)
  ·rintro x _ st2 - hx ⟨rfl,R,hl⟩
   unfold fcI;refine wpS_bind (wpS_get ?_);dsimp only
   by_cases hc:(pendingOf st2).size<=1
   ·rw [if_pos hc]
    exact wpS_pure ⟨rfl,R,hc⟩
   rw [if_neg hc];refine wpS_bind (w_mI h0 R (by split <;> split <;> omega) fun st' R' z _=>?_);exact wpS_pure ⟨rfl,R',by omega⟩
  ·rintro _ _ ⟨rfl,R,hl⟩
   exact ⟨rfl,R,by omega⟩
  ·rintro _ st2 ⟨rfl,R,hl⟩
   refine wpS_pure (h _ R.pm R.fl ?_);have rs:=R.rs;have so:=R.so;have hl':((pendingOf st2).toList.map fst2).length<=1:=by simpa using hl
   generalize (pendingOf st2).toList.map fst2=l at *
   match l,rs,so,hl' with
   | [],rs,_,_=>have rs:0=a.size:=rs;omega
   | [r],rs,so,_ =>
    obtain ⟨r1,_,r2⟩:=rs;have r2:0+r.2=a.size:=r2;have:=so r (by simp);rw [r1,r2] at this;exact fun i j hij hj=>this i j (by omega) hij hj
   | _::_::_,_,_,h=>simp at h
end
end TS
namespace L2
open PySem PySem.Spec PyProof.Rows
section
variable {prog:Program} {w:World} {A:Around} {E:Value->Shared->Prop} {s:Shared}
theorem vf0 {a:Addr} {vs:List Value} {ns:List Int} {n:Nat} {P:Fin->Shared->Prop} (ho:s.heap.get? a=some (seqObj "list" vs.toArray n)) (hI:IntsAre vs ns) (hz:vs.length<=sizeLine)
  (h:∀ (out:Array Value) (ns':List Int),IntsAre out.toList ns'->ns'.Perm ns->ns'.Pairwise (·<=·)->P (.done (.ret .none)) { s with heap:=sortedHeap s.heap a vs out }) :
  wpAny (model prog w) A (Builtin.«list.sort» ⟨[.ref a],[]⟩) P E s:=by
 rw [list_sort_plain];have ha:a < s.heap.objs.size:=Heap.lt_size ho;have hzs:vs.toArray.size<=sizeLine:=by simpa using hz
 refine wpAny_bind (listItems_at ho rfl (wpAny_bind (listUpdate_at ho rfl ?_ hzs)));obtain ⟨e1,ho1⟩:∃ e1,(s.heap.update a (Obj.mapSeq fun _=>#[])).get? a=some (seqObj "list" #[] e1):=⟨_,get?_update_seq ho (fun _=>#[])⟩;refine wpAny_bind (seqEpoch_at ho1 rfl (wpAny_bind (wpAny_newTuple ?_ (by simpa using hz))));refine wpAny_bind (wpAny_newList (wpAny_holding ?_));have ho6:(((s.heap.update a (Obj.mapSeq fun _=>#[])).push (seqObj "tuple" vs.toArray 0)).push (seqObj "list" #[] 0)).get? a=some (seqObj "list" #[] e1):=by
  rw [Heap.get?_push_ne,Heap.get?_push_ne]
  ·exact ho1
  ·rw [Heap.size_update];exact Nat.ne_of_lt ha
  ·rw [size_push',Heap.size_update];exact Nat.ne_of_lt (Nat.lt_succ_of_lt ha)
 show wpAny _ A _ P E { s with heap:=((s.heap.update a (Obj.mapSeq fun _=>#[])).push (seqObj "tuple" vs.toArray 0)).push (seqObj "list" #[] 0) }
 dsimp only;have rest:∀ st':SortSt,(arrOf st').Perm (pairsOf vs)->failedOf st'=none->SortedTo (arrOf st') (pairsOf vs).size->wpAny (model prog w) A (do
   let t:=(<- seqEpoch a) != e1
   Builtin.List.listUpdate (.ref a) fun _=>(arrOf st').map (·.2)
   if let some e:=failedOf st' then rule "list.sort.comparison-raised";throw e
   if t then rule "list.sort.modified";raiseError "ValueError" "list modified during sort"
   ret .none) P E { s with heap:=((s.heap.update a (Obj.mapSeq fun _=>#[])).push (seqObj "tuple" vs.toArray 0)).push (seqObj "list" #[] 0) }:=by
  intro st' hp hf hs;have hz2:((arrOf st').map (·.2)).size<=sizeLine+1:=by rw [Array.size_map,hp.size_eq,pairsOf_size];omega
  refine wpAny_bind (seqEpoch_at ho6 rfl (wpAny_bind (listUpdate_at ho6 rfl ?_ (by simp) hz2)));rw [hf];simp only [bne_self_eq_false,Bool.false_eq_true,if_false];obtain ⟨ns',h1,h2,h3⟩:=sorted_out hI hp hs;exact wpAny_pure (h _ ns' h1 h2 h3)
 by_cases h2:vs.toArray.size < 2
 ·rw [if_pos h2,if_pos h2]
  refine wpAny_bind (wpAny_pure ?_);rw [StateT.run_pure];refine wpAny_bind (wpAny_pure (rest (SortSt.mk' general' (vs.toArray.zip vs.toArray) #[] 7 none) (Array.Perm.refl _) rfl fun i j hij hj=>?_));rw [pairsOf_size] at hj;rw [List.size_toArray] at h2;obtain rfl:i=j:=by omega
  exact Int.le_refl _
 ·rw [if_neg h2,if_neg h2]
  obtain ⟨v1,v2,r,rfl⟩:∃ v1 v2 r,vs=v1::v2::r:=by
   match vs,h2 with
   | [],h2=>simp at h2
   | [_],h2=>simp at h2
   | v1::v2::r,_=>exact ⟨v1,v2,r,rfl⟩
  rw [keyKind_ints hI];refine wpAny_bind (wpAny_pure (wpAny_bind (wpAny_mono (TS.w_sr (a:=pairsOf (v1::v2::r)) (st:=SortSt.mk' oneType' (pairsOf (v1::v2::r)) #[] 7 none)
   (Q:=fun _ st'=>(arrOf st').Perm (pairsOf (v1::v2::r)) /\ failedOf st'=none /\ SortedTo (arrOf st') (pairsOf (v1::v2::r)).size) (fun x hx=>hI.intKeys x hx) (by rw [pairsOf_size];simp) rfl rfl rfl rfl fun st' a1 a2 a3=>⟨a1,a2,a3⟩) ?_ fun _ _ e=>e)))
  rintro ⟨⟨⟩,st'⟩ s' ⟨rfl,hp,hf,hs⟩;exact rest st' hp hf hs
end
section
variable {X:Cx}
theorem uk5 {P:Program} {w:World} {ns:List Int} {vs:List (Key × Value)} (hk:vs.map (·.1)=ns.map Sum.inl) {us:List Value} (hl:us.length=vs.length) (hu:∀ (j:Nat) (v:Value),us[j]?=some v->∃ k x,vs[j]?=some (k,x) /\ (u14 P w).is k v=true):IntsAre us ns:=by
 induction ns generalizing vs us with
 | nil =>
  have:vs=[]:=by simpa using hk
  subst this;have:us=[]:=by simpa using hl
  subst this;exact .nil
 | cons n ns ih =>
  match vs,hk,us,hl with
  | (k,x)::vs,hk,u::us,hl =>
   rw [List.map_cons,List.map_cons,List.cons.injEq] at hk;obtain ⟨k',x',e,hi⟩:=hu 0 u rfl;cases e;obtain rfl:k=.inl n:=hk.1;obtain ⟨t,rfl⟩:=(show ∃ t,u=.int n t from vv9 hi);exact .cons n t (ih hk.2 (by simpa using hl) fun j v hv=>hu (j+1) v (by simpa using hv))
def SrcI (H:Hp) (K:W.Frag) (p:Addr) (ns:List Int):Prop:=SqL K H p (ns.map V.int) \/ ∃ kvs:List (Key × V),kvs.map (·.1)=ns.map Sum.inl /\ Rd H p (.dK kvs)
theorem ve2 {pins:List (Addr × Obj)} {s:Shared} {σ:St} {H:Hp} {A:Around} {p:Addr} {ns:List Int} {E:Value->Shared->Prop} {R:List Value->Shared->Prop} (hh:A.handled=none) (I:Inv X pins σ H s) (hs:SrcI H X.K p ns)
  (h:∀ (h':Heap) (tk:Nat) (us:List Value),(∀ b o,s.heap.get? b=some o->h'.get? b=some o)->IntsAre us ns->us.length<=sizeLine->R us { s with heap:=h',toks:=tk }) :
  wpAny (model X.prog X.w) A (collect (.ref p)) R E s:=by
 rcases hs with hq | ⟨kvs,hk,hd⟩
 ·obtain ⟨its,r',pl,hz⟩:=I.list hq
  have hz2:its.length<=sizeLine:=by rw [<- r'.length];exact hz
  refine collect_list pl.isList (h _ s.toks its (fun b o e=>?_) (intsAre_of r') hz2) hz2;rw [Heap.get?_update_ne _ _ _ _ (Nat.ne_of_lt (Heap.lt_size e))];exact Heap.get?_push_of_some _ e
 ·obtain ⟨z,hd2,vs,rel,dd⟩:=uh1 I.hok hd
  obtain ⟨o,es,ep,ho,hc,hdat,hk2,hp,hn⟩:=id dd;have hkv:=rel.keys;have hlv:=rel.length;refine W.kdu_collect (W.kdl_dict (kvs:=vs) (ep:=ep) hd2) hh ⟨o,es,ho,hc,hdat,hk2,hp,hn⟩ (by omega) fun h' tk acc hk' hacc=>?_
  have hal:acc.toList.length=vs.length:=by rw [Array.length_toList];exact hacc.1
  exact h h' tk acc.toList hk' (uk5 (P:=X.prog) (w:=X.w) (by rw [<- hkv];exact hk) hal fun j v e=>hacc.2 j v (by rw [<- Array.getElem?_toList];exact e)) (by omega)
theorem ul4 (hh:X.A.handled=none):CallR X (.builtin "sorted") (fun xs H Q=>∃ (p:Addr) (ns:List Int),xs=[.ref p] /\ SrcI H X.K p ns /\ ∀ (l:Addr) (ns':List Int),H l=none->ns'.Perm ns->ns'.Pairwise (·<=·)->Q (.ref l) (upd H l (.lst (ns'.map V.int)))):=by
 intro pins s σ H xs us Q I r h;obtain ⟨p,ns,rfl,hq,q⟩:=h;obtain ⟨u,rfl,rx⟩:=vals1 r;cases rx;refine Calls.call_function_entry kind_sorted plain_sorted entry_sorted (args_sorted1 _) ?_;unfold Builtin.«sorted»;refine wpAny_bind (m:=checkCount "sorted" 1 1 _) (wpAny_pure (wpAny_bind (ve2 (A:=X.A.in1) hh I hq fun h' tk us hk hi hz=>?_)));have I1:Inv X pins σ H { s with heap:=h',toks:=tk }:=I.kept hk
 refine wpAny_bind (wpAny_newList ?_ hz);have hoL:(h'.push (seqObj "list" us.toArray 0)).get? h'.objs.size=some (seqObj "list" us.toArray 0):=Heap.get?_push_size _ rfl
 show wpAny _ _ _ _ _ { s with heap:=h'.push (seqObj "list" us.toArray 0),toks:=tk }
 refine wpAny_bind (wpAny_holding (wpAny_call_entry slot_list_sort ⟨_,hoL,rfl⟩ entry_list_sort (vf0 hoL hi hz fun out ns' a1 a2 a3=>⟨_,rfl,?_⟩) (args_list_sort _)));obtain ⟨c,e⟩:=sortedHeap_at (out:=out) hoL;refine wpAny_pure ⟨_,rfl,.ref h'.objs.size,_,I1.laid (t':=tk) (fun b u hb=>?_) (Nat.le_refl _) (show ObjOk X.prog X.w _ _ _ (.lst (ns'.map V.int)) from ⟨by rw [List.length_map,a2.length_eq,<- hi.length];exact hz,out.toList,c,u77 a1,e⟩),rfl,q _ _ (I1.hok.fresh (Nat.le_refl _)) a2 a3⟩;have hb':=Heap.lt_size hb;rw [sortedHeap_old (Nat.ne_of_lt hb') (by rw [size_push'];exact Nat.lt_succ_of_lt hb')];exact Heap.get?_push_of_some _ hb
theorem uw6 (hh:X.A.handled=none):CallR X (.type "list") (fun xs H Q=>∃ (p:Addr) (ns:List Int) (kvs:List (Key × V)),xs=[.ref p] /\ kvs.map (·.1)=ns.map Sum.inl /\ Rd H p (.dK kvs) /\ ∀ (l:Addr),H l=none->Q (.ref l) (upd H l (.lst (ns.map V.int)))):=by
 intro pins s σ H xs us Q I r h;obtain ⟨p,ns,kvs,rfl,hk,hd,q⟩:=h;obtain ⟨u,rfl,rx⟩:=vals1 r;cases rx;obtain ⟨z,hd2,vs,rel,dd⟩:=uh1 I.hok hd;obtain ⟨o,es,ep,ho,hc,hdat,hk2,hp,hn⟩:=id dd;have hkv:=rel.keys;have hlv:=rel.length;refine W.kdl_call (W.kdl_dict (kvs:=vs) (ep:=ep) hd2) hh ⟨o,es,ho,hc,hdat,hk2,hp,hn⟩ (by omega) fun h' tk acc c' hk' hg hacc=>?_
 have hal:acc.toList.length=vs.length:=by rw [Array.length_toList];exact hacc.1
 have hi:=uk5 (P:=X.prog) (w:=X.w) (ns:=ns) (by rw [<- hkv];exact hk) hal fun j v e=>hacc.2 j v (by rw [<- Array.getElem?_toList];exact e)
 refine ⟨.ref s.heap.objs.size,_,I.laid (t':=tk) (fun b u hb=>hk' b u hb) (Nat.le_refl _) (show ObjOk X.prog X.w _ _ _ (.lst (ns.map V.int)) from ⟨by rw [List.length_map,<- hi.length];omega,acc.toList,c',u77 hi,hg⟩),rfl,q _ (I.hok.fresh (Nat.le_refl _))⟩
end
end L2
namespace L3
open PySem PySem.Spec PyProof.Rows L2
section
variable {X:Cx} {K:W.Frag} {H:Hp}
def srcI (G:Gp) (a:Addr) (ns:List Int):Prop:=u11 (G a)=some (ns.map .int) \/ ∃ kvs,kvs.map (·.1)=ns.map Sum.inl /\ (G a=some (.dic kvs) \/ ∃ o,G a=some (.frd o kvs))
theorem rd_of {G:Gp} {a:Addr} {kvs:List (Key × D)} (c:Con K G H) (h:G a=some (.dic kvs) \/ ∃ o,G a=some (.frd o kvs)):∃ ys,Rd H a (.dK ys) /\ RelPs K H kvs ys:=by
 rcases h with h | h
 ·obtain ⟨ys,e,rp⟩:=c a _ h
  exact ⟨ys,.inl e,rp⟩
 ·obtain ⟨o,h⟩:=h
  obtain ⟨ys,e,rp⟩:=c a _ h;exact ⟨ys,.inr ⟨o,e⟩,rp⟩
theorem srcI.low {G:Gp} {a:Addr} {ns:List Int} (c:Con K G H) (h:srcI G a ns):SrcI H K a ns:=by
 rcases h with h | ⟨kvs,hk,h⟩
 ·obtain ⟨ys,s1,q1⟩:=u31 c h
  obtain rfl:=u93 q1;exact .inl s1
 ·obtain ⟨ys,e,rp⟩:=rd_of c h
  exact .inr ⟨ys,by rw [<- hk];exact rp.1.symm,e⟩
@[reducible] def v84:C3:=fun ds G q=>∃ (a:Addr) (ns:List Int),ds=[.ref a] /\ srcI G a ns /\ ∀ (p:Addr) (ns':List Int),G p=none->ns'.Perm ns->ns'.Pairwise (·<=·)->q (.ref p) (gup G p (.lst (ns'.map .int)))
theorem ui2 {k:Nat} (hr:Room k X.A):Call3 X (.builtin "sorted") v84:=u33 (ul4 hr.hd) <| by
 rintro xs H Q ⟨ds,G,q,r,c,t,f⟩;obtain ⟨a,ns,rfl,hs,t⟩:=t;obtain ⟨v,rfl,r1⟩:=r.one;cases r1.ref_inv;exact ⟨_,ns,rfl,hs.low c,fun p ns' hp h1 h2=>f _ _ _ _ RelD.refI (c.lstNew hp (ue9 ns')) (Le.fresh hp) (t p ns' (c.fresh hp) h1 h2)⟩
@[reducible] def w13:C3:=fun ds G q=>∃ (a:Addr) (ns:List Int) (kvs:List (Key × D)),ds=[.ref a] /\ kvs.map (·.1)=ns.map Sum.inl /\ (G a=some (.dic kvs) \/ ∃ o,G a=some (.frd o kvs)) /\ ∀ (p:Addr),G p=none->q (.ref p) (gup G p (.lst (ns.map .int)))
theorem ux4 {k:Nat} (hr:Room k X.A):Call3 X (.type "list") w13:=u33 (uw6 hr.hd) <| by
 rintro xs H Q ⟨ds,G,q,r,c,t,f⟩;obtain ⟨a,ns,kvs,rfl,hk,hs,t⟩:=t;obtain ⟨v,rfl,r1⟩:=r.one;cases r1.ref_inv;obtain ⟨ys,e,rp⟩:=rd_of c hs;exact ⟨_,ns,ys,rfl,by rw [<- hk];exact rp.1.symm,e,fun p hp=>f _ _ _ _ RelD.refI (c.lstNew hp (ue9 ns)) (Le.fresh hp) (t p (c.fresh hp))⟩
end
end L3
namespace L2
open PySem PySem.Spec PyProof.Rows
section
variable {prog:Program} {w:World} {A:Around} {E:Value->Shared->Prop} {s:Shared} {h₀:Heap} {L q I S d:Addr} {m:Str->Option Value} {news:List (Addr × Obj)} {n:Nat} {P:Nat->Value->Prop} {St:Nat->Heap->Prop} {R:Result->Shared->Prop} {Q:Value->Shared->Prop}
theorem vt5 (kf:Nat->Int) (W:Walks prog w A.in1 I [I,d] [I] n P St) (hob:∀ i h,St i h->∃ o,h.get? I=some o) (hd:∃ od,(d,od) ∈ news) (hSI:S ≠ I) (hSd:S ≠ d) (hnS:∀ p ∈ news,p.1 ≠ S) (hnI:∀ p ∈ news,p.1 ≠ I)
  (turn:∀ (i:Nat) (v:Value),P i v->i < n->∀ (h:Heap) (tk:Nat) (own:List (Addr × Obj)),Fr h₀ L h m->News h₀ L h (news++own) ->
   wpAny (model prog w) A.in1 (call (.ref q) [v]) (KskEnd h₀ L m (news++own) (kf i) { s with heap:=h,toks:=tk }) (fun _ _=>False) { s with heap:=h,toks:=tk })
  (hR:∀ i v h' tk',P i v->i < n->(∀ j,j < n->kf i<=kf j)->Fr h₀ L h' m->News h₀ L h' news->R (.ok (.ret v)) { s with heap:=h',toks:=tk' }) :
  ∀ (r j i:Nat) (h:Heap) (tk:Nat) (vb:Value) (tb:Tok) (c:Nat) (oI:Obj),n - (j+1)=r->j+1<=n->Fr h₀ L h m ->
   News h₀ L h (news++[(S,seqObj "list" #[vb,.int (kf i) tb] c),(I,oI)])->St (j+1) h->P i vb->i<=j->(∀ j',j'<=j->kf i<=kf j') ->
   codeAny (model prog w) A (.builtin "min.loop" ⟨[.ref I,.ref q,.ref S],[]⟩) R { s with heap:=h,toks:=tk }:=by
 have hname:(toString "min" ++ toString ".loop" : String) = "min.loop" := by decide
 obtain ⟨od,hod⟩:=hd;intro r
 induction r with
 | zero =>
  intro j i h tk vb tb c oI hr hj F N hst hvb hij hbest;obtain rfl:n=j+1:=by omega
  have nS:=N (S,_) (List.mem_append_right _ (.head _));have nI:=N (I,oI) (List.mem_append_right _ (.tail _ (.head _)));have Nn:News h₀ L h news:=fun p hp=>N p (List.mem_append_left _ hp)
  refine codeAny_builtin PySem.F.entry_min_loop ?_;rw [Around.under_plainId PySem.F.plain_min_loop _]
  show wpAny _ A.in1 (seqItems? (.ref S) >>= _) _ _ _
  refine wpAny_bind (wpAny_seqItems nS.1 rfl ?_)
  show wpAny _ A.in1 (tryCatch (pyNext (.ref I)) _ >>= _) _ _ _
  refine wpAny_bind (wpAny_tryCatch (W.done _ _ _ hst fun h' tk' hk'=>?_));have F1:=kmk_fr F hk' nI.2.1 nI.2.2;have N1:=kmk_news Nn hk' hnI;have hS':=hk' S _ (by simpa using hSI) nS.1;have s1:=Heap.SameBut.update h' S (Obj.mapSeq fun _=>(#[]:Array Value))
  show wpAny _ A.in1 (updateSeq S (fun _=>#[]) >>= _) _ _ _
  refine wpAny_bind (wpAny_updateSeq hS' rfl (wpAny_bind (wpAny_letGo (wpAny_pure ?_))));exact hR i vb _ _ hvb (by omega) (fun j' hj'=>hbest j' (by omega)) (ksk_fr F1 s1 nS.2.1 nS.2.2) (ksk_news N1 s1 hnS)
 | succ r ih =>
  intro j i h tk vb tb c oI hr hj F N hst hvb hij hbest;have hlt:j+1 < n:=by omega
  have nS:=N (S,_) (List.mem_append_right _ (.head _));have nI:=N (I,oI) (List.mem_append_right _ (.tail _ (.head _)));have Nn:News h₀ L h news:=fun p hp=>N p (List.mem_append_left _ hp)
  refine codeAny_builtin PySem.F.entry_min_loop ?_;rw [Around.under_plainId PySem.F.plain_min_loop _]
  show wpAny _ A.in1 (seqItems? (.ref S) >>= _) _ _ _
  refine wpAny_bind (wpAny_seqItems nS.1 rfl ?_)
  show wpAny _ A.in1 (tryCatch (pyNext (.ref I)) _ >>= _) _ _ _
  refine wpAny_bind (wpAny_tryCatch (W.item (j+1) _ _ _ hlt hst fun v h' tk' hv hst' hk'=>?_));have F1:=kmk_fr F hk' nI.2.1 nI.2.2;obtain ⟨oI',hoI'⟩:∃ o,h'.get? I=some o:=hob _ _ hst';have N1:News h₀ L h' (news++[(S,seqObj "list" #[vb,.int (kf i) tb] c),(I,oI')]):=fun p hp=>by
   rcases List.mem_append.mp hp with hp | hp
   ·exact kmk_news Nn hk' hnI p hp
   ·rcases List.mem_cons.mp hp with rfl | hp
    ·exact ⟨hk' S _ (by simpa using hSI) nS.1,nS.2⟩
    ·rw [List.mem_singleton.mp hp]
     exact ⟨hoI',nI.2⟩
  show wpAny _ A.in1 (tryCatch (holding [v] (call (.ref q) [v])) _ >>= _) _ _ _
  refine wpAny_bind (wpAny_tryCatch (wpAny_holding (wpAny_mono (turn (j+1) v hv hlt h' tk' _ F1 N1) (fun x s'' he=>?_) fun _ _ hF=>hF.elim)));obtain ⟨h2,tk2,t2,rfl,rfl,F2,N2⟩:=he;have nS2:=N2 (S,_) (List.mem_append_right _ (.head _));have nI2:=N2 (I,oI') (List.mem_append_right _ (.tail _ (.head _)));have nd2:=N2 (d,od) (List.mem_append_left _ hod);have nd1:=N1 (d,od) (List.mem_append_left _ hod);have hst2:St (j+1+1) h2:=W.frame _ _ _ hst' fun b hb o e=>by
   rcases List.mem_cons.mp hb with rfl | hb
   ·rw [hoI'] at e;cases e;exact nI2.1
   ·rw [List.mem_singleton.mp hb,nd1.1] at e;cases e
    rw [List.mem_singleton.mp hb];exact nd2.1
  show wpAny _ A.in1 (tryCatch (holding [v,.int (kf (j+1)) t2] (richCompare .Lt (.int (kf (j+1)) t2) (.int (kf i) tb) >>= _)) _ >>= _) _ _ _
  refine wpAny_bind (wpAny_tryCatch (wpAny_holding (wpAny_bind (CmpOf.ints_lt (prog:=prog) (w:=w) (A:=A.in1) (P:=fun i v=>∃ t,v=.int (kf i) t) kf (fun i v h=>h) (j+1) i _ _ _ _ _ ⟨t2,rfl⟩ ⟨tb,rfl⟩ ?_))));refine wpAny_bind (wpAny_holding (wpAny_truthy_bool (wpAny_bind (wpAny_letGo (wpAny_pure ?_)))))
  by_cases hb':kf (j+1) < kf i
  ·have s1:=Heap.SameBut.update h2 S (Obj.mapSeq fun _=>#[v,.int (kf (j+1)) t2])
   obtain ⟨c2,hc2⟩:∃ c2,(h2.update S (Obj.mapSeq fun _=>#[v,.int (kf (j+1)) t2])).get? S=some (seqObj "list" #[v,.int (kf (j+1)) t2] c2):=⟨_,get?_update_seq nS2.1 fun _=>#[v,.int (kf (j+1)) t2]⟩;simp only [hb',decide_true,if_true];refine wpAny_bind (wpAny_updateSeq nS2.1 rfl (wpAny_bind (wpAny_letGo ?_)));rw [hname];refine wpAny_pure ⟨plainId_quiet PySem.F.plain_min_loop _,ih (j+1) (j+1) _ _ v t2 c2 oI' (by omega) hlt (ksk_fr F2 s1 nS2.2.1 nS2.2.2) (fun p hp=>?_) (W.frame _ _ _ hst2 fun b hb o e=>?_) hv (Nat.le_refl _) fun j' hj'=>?_⟩
   ·rcases List.mem_append.mp hp with hp | hp
    ·exact ksk_news (fun p hp=>N2 p (List.mem_append_left _ hp)) s1 hnS p hp
    ·rcases List.mem_cons.mp hp with rfl | hp
     ·exact ⟨hc2,nS2.2⟩
     ·rw [List.mem_singleton.mp hp]
      exact ⟨(s1.2 I hSI.symm).trans nI2.1,nI2.2⟩
   ·refine (s1.2 b ?_).trans e
    rcases List.mem_cons.mp hb with rfl | hb
    ·exact hSI.symm
    ·rw [List.mem_singleton.mp hb];exact hSd.symm
   ·by_cases e:j'=j+1
    ·subst e;exact Int.le_refl _
    ·have:=hbest j' (by omega);omega
  ·simp only [hb',decide_false,Bool.false_eq_true,if_false]
   refine wpAny_bind (wpAny_letGo ?_);rw [hname];refine wpAny_pure ⟨plainId_quiet PySem.F.plain_min_loop _,ih (j+1) i _ _ vb tb c oI' (by omega) hlt F2 N2 hst2 hvb (by omega) fun j' hj'=>?_⟩
   by_cases e:j'=j+1
   ·subst e;omega
   ·exact hbest j' (by omega)
theorem wb5 {kt:Type} [DecidableEq kt] {knd:KeyKind prog w kt} {kvs:List (kt × Value)} {ep:Nat} (kf:Nat->Int) (hh:A.handled=none) (F:Fr h₀ L s.heap m) (N:News h₀ L s.heap news) (lo:(d == sysModules)=false) (hm:s.heap.DictAt knd d kvs ep) (hd:∃ od,(d,od) ∈ news) (hne:0 < kvs.length)
  (turn:∀ (i:Nat) (v:Value),(∃ k x,kvs[i]?=some (k,x) /\ knd.is k v=true)->i < kvs.length->∀ (h:Heap) (tk:Nat) (own:List (Addr × Obj)),Fr h₀ L h m->News h₀ L h (news++own) ->
   wpAny (model prog w) A.in1 (call (.ref q) [v]) (KskEnd h₀ L m (news++own) (kf i) { s with heap:=h,toks:=tk }) (fun _ _=>False) { s with heap:=h,toks:=tk })
  (hQ:∀ i v h' tk',(∃ k x,kvs[i]?=some (k,x) /\ knd.is k v=true)->i < kvs.length->(∀ j,j < kvs.length->kf i<=kf j)->Fr h₀ L h' m->News h₀ L h' news->Q v { s with heap:=h',toks:=tk' }) :
  wpAny (model prog w) A (call (.builtin "min") [.ref d] [(Str.ofString "key",.ref q)]) Q E s:=by
 have hname:(toString "min" ++ toString ".loop" : String) = "min.loop" := by decide
 have hL:L < s.heap.objs.size:=F.ns.lt;have hlt:d < s.heap.objs.size:=hm.lt_size;refine kmk_tree PySem.F.kind_min PySem.F.plain_min PySem.F.entry_min (kmk_min_key _ _) ?_
 show wpAny _ A.in1 (Builtin.Builtins.bindParams "min" ["key", "default"] 0 ⟨[],[(Str.ofString "key",.ref q)]⟩ >>= _) _ _ s
 refine wpAny_bind (wpAny_of_eq (show Builtin.Builtins.bindParams "min" ["key", "default"] 0 ⟨[],[(Str.ofString "key",.ref q)]⟩=pure [some (.ref q),none] from rfl) ?_);refine wpAny_bind (wpAny_pure ?_);have W:=Walks.dictKeys (prog:=prog) (w:=w) (A:=A.in1) (knd:=knd) hh s.heap.objs.size d (Nat.ne_of_lt hlt) kvs ep;obtain ⟨oI,hoI⟩:∃ oI:Obj,oI={ cls:=.type "dict_keyiterator",data:=.fields #[.ref d,.int 0 0,.int kvs.length 0,.int ep 0] }:=⟨_,rfl⟩;have gI0:(s.heap.push oI).get? s.heap.objs.size=some oI:=Heap.get?_push_size _ (by rw [hoI];rfl);have st:(s.heap.push oI).IsKeyIter s.heap.objs.size d 0 kvs.length ep /\ (s.heap.push oI).DictAt knd d kvs ep:=⟨⟨_,gI0,by rw [hoI],by rw [hoI];rfl⟩,hm.push _⟩;refine wpAny_bind (wpAny_pyIter_dict lo hm ?_);rw [<- hoI];refine wpAny_bind (wpAny_newList ?_ (Nat.zero_le _));rw [hname];have hS:(s.heap.push oI).objs.size=s.heap.objs.size+1:=size_push' ..;have hSI:(s.heap.push oI).objs.size ≠ s.heap.objs.size:=by rw [hS];exact Nat.ne_of_gt (Nat.lt_succ_self _)
 have hSd:(s.heap.push oI).objs.size ≠ d:=by rw [hS];exact Nat.ne_of_gt (Nat.lt_succ_of_lt hlt)
 have hnI:∀ p ∈ news,p.1 ≠ s.heap.objs.size:=fun p hp=>Nat.ne_of_lt (Heap.lt_size (N p hp).1)
 have hnS:∀ p ∈ news,p.1 ≠ (s.heap.push oI).objs.size:=fun p hp=>by rw [hS];exact Nat.ne_of_lt (Nat.lt_succ_of_lt (Heap.lt_size (N p hp).1))
 refine wpAny_pure ⟨plainId_quiet PySem.F.plain_min_loop _,?_⟩;have fresh:∀ b,L < b->h₀.get? b=none:=fun b hb=>Heap.get?_none_of_le (Nat.le_trans F.above (Nat.le_of_lt hb))
 have FH:Fr h₀ L ((s.heap.push oI).push (seqObj "list" #[] 0)) m:=(F.push _).push _;have NH:News h₀ L ((s.heap.push oI).push (seqObj "list" #[] 0)) news:=N.grown fun b x e=>Heap.get?_push_of_some _ (Heap.get?_push_of_some _ e)
 have gS:((s.heap.push oI).push (seqObj "list" #[] 0)).get? (s.heap.push oI).objs.size=some (seqObj "list" #[] 0):=Heap.get?_push_size _ rfl;have aI:s.heap.objs.size ≠ L:=Nat.ne_of_gt hL;have aS:(s.heap.push oI).objs.size ≠ L:=by rw [hS];exact Nat.ne_of_gt (Nat.lt_succ_of_lt hL)
 have zS:h₀.get? (s.heap.push oI).objs.size=none:=fresh _ (by rw [hS];exact Nat.lt_succ_of_lt hL);refine codeAny_builtin PySem.F.entry_min_loop ?_;rw [Around.under_plainId PySem.F.plain_min_loop _]
 show wpAny _ A.in1 (seqItems? (.ref _) >>= _) _ _ _
 refine wpAny_bind (wpAny_seqItems gS rfl ?_)
 show wpAny _ A.in1 (tryCatch (pyNext (.ref s.heap.objs.size)) _ >>= _) _ _ _
 have st0:=W.frame _ _ ((s.heap.push oI).push (seqObj "list" #[] 0)) st fun b _ o e=>Heap.get?_push_of_some _ e
 refine wpAny_bind (wpAny_tryCatch (W.item 0 _ _ _ hne st0 fun v h' tk' hv hst' hk'=>?_));obtain ⟨oI',hoI',_⟩:=id hst'.1;obtain ⟨od,hod⟩:=hd;have F1:=kmk_fr FH hk' aI (fresh _ hL);have N1:News h₀ L h' (news++[((s.heap.push oI).objs.size,seqObj "list" #[] 0),(s.heap.objs.size,oI')]):=fun p hp=>by
  rcases List.mem_append.mp hp with hp | hp
  ·exact kmk_news NH hk' hnI p hp
  ·rcases List.mem_cons.mp hp with rfl | hp
   ·exact ⟨hk' _ _ (by simpa using hSI) gS,aS,zS⟩
   ·rw [List.mem_singleton.mp hp]
    exact ⟨hoI',aI,fresh _ hL⟩
 show wpAny _ A.in1 (tryCatch (holding [v] (call (.ref q) [v])) _ >>= _) _ _ _
 refine wpAny_bind (wpAny_tryCatch (wpAny_holding (wpAny_mono (turn 0 v hv hne h' tk' _ F1 N1) (fun x s'' he=>?_) fun _ _ hF=>hF.elim)));obtain ⟨h2,tk2,t2,rfl,rfl,F2,N2⟩:=he;have nS2:=N2 ((s.heap.push oI).objs.size,seqObj "list" #[] 0) (List.mem_append_right _ (.head _));have nI2:=N2 (s.heap.objs.size,oI') (List.mem_append_right _ (.tail _ (.head _)));have nd2:=N2 (d,od) (List.mem_append_left _ hod);have nd1:=N1 (d,od) (List.mem_append_left _ hod);have s1:=Heap.SameBut.update h2 (s.heap.push oI).objs.size (Obj.mapSeq fun _=>#[v,.int (kf 0) t2]);obtain ⟨c2,hc2⟩:∃ c2,(h2.update (s.heap.push oI).objs.size (Obj.mapSeq fun _=>#[v,.int (kf 0) t2])).get? (s.heap.push oI).objs.size=some (seqObj "list" #[v,.int (kf 0) t2] c2):=⟨_,get?_update_seq nS2.1 fun _=>#[v,.int (kf 0) t2]⟩
 show wpAny _ A.in1 (updateSeq (s.heap.push oI).objs.size (fun _=>#[v,.int (kf 0) t2]) >>= _) _ _ _
 refine wpAny_bind (wpAny_updateSeq nS2.1 rfl ?_);rw [hname];refine wpAny_pure ⟨plainId_quiet PySem.F.plain_min_loop _,vt5 kf W (fun i h st=>let ⟨o,e,_⟩:=st.1;⟨o,e⟩) ⟨od,hod⟩ hSI hSd hnS hnI turn hQ _ 0 0 _ _ v t2 c2 oI' rfl hne (ksk_fr F2 s1 nS2.2.1 nS2.2.2) (fun p hp=>?_) (W.frame _ _ _ hst' fun b hb o e=>?_) hv (Nat.le_refl _) fun j' hj'=>?_⟩
 ·rcases List.mem_append.mp hp with hp | hp
  ·exact ksk_news (fun p hp=>N2 p (List.mem_append_left _ hp)) s1 hnS p hp
  ·rcases List.mem_cons.mp hp with rfl | hp
   ·exact ⟨hc2,nS2.2⟩
   ·rw [List.mem_singleton.mp hp]
    exact ⟨(s1.2 _ hSI.symm).trans nI2.1,nI2.2⟩
 ·rcases List.mem_cons.mp hb with rfl | hb
  ·rw [hoI'] at e;cases e
   exact (s1.2 _ hSI.symm).trans nI2.1
  ·rw [List.mem_singleton.mp hb,nd1.1] at e;cases e
   rw [List.mem_singleton.mp hb];exact (s1.2 _ hSd.symm).trans nd2.1
 ·obtain rfl:j'=0:=by omega
  exact Int.le_refl _
end
section
variable {X:Cx} {pins:List (Addr × Obj)} {σ:St} {H:Hp} {s:Shared}
abbrev lamB (d:Str) (dp:Pos) (y:Str) (yp sp:Pos) (kq:Nat) (cp sq:Pos):Expr:=.Subscript (.Subscript (.Name d dp) (.Name y yp) sp) (.Constant (.int 0) kq cp) sq
theorem v35 {A:Around} {f b cell r:Addr} {name d y qual:Str} {params:Arguments} {scope:Scope} {dp yp sp cp sq:Pos} {kq:Nat} {pm cdv ctv:Value} {kvs:List (Key × V)} {xs:List V} {k v:Int} {t:Tok} {R:Value->Shared->Prop}
  (hr:A.depth < recursionLimit) (I:Inv X pins σ H s)
  (hf:s.heap.get? f=some { cls:=.type "function",data:=.func (W.kla_fn name qual params (lamB d dp y yp sp kq cp sq) scope [(d,cell)] pm cdv ctv) })
  (hcd:s.heap.CodeRec cdv qual) (hb:bindArgs (W.kla_fn name qual params (lamB d dp y yp sp kq cp sq) scope [(d,cell)] pm cdv ctv) ⟨[.int k t],[]⟩=pure [(y,.int k t)])
  (hsc:scope.names=[(y,.local),(d,.free)]) (hyd:¬ y=d) (hk:scope.kind=.function) (hco:scope.isCoroutine=false) (hgen:scope.isGenerator=false)
  (hyn:(y == ("__debug__" : Str))=false) (hdn:(d == ("__debug__" : Str))=false) (hdc:(d == ("__classdict__" : Str))=false)
  (hcell:s.heap.IsCell cell (some (.ref b))) (hd:H b=some (.dK kvs)) (hv:valV kvs (.inl k)=some (.ref r)) (hq:SqT X.K H r (.int v::xs))
  (h:∀ h' tk t',(∀ a o,s.heap.get? a=some o->h'.get? a=some o)->R (.int v t') { s with heap:=h',toks:=tk }) :
  wpAny (model X.prog X.w) A (call (.ref f) [.int k t]) R (fun _ _=>False) s:=by
 have hly:scope.names.lookup y=some .local:=by rw [hsc];simp
 have hld:scope.names.lookup d=some .free:=by rw [hsc];simp [List.lookup,show (d == y)=false from by simpa using fun e:d=y=>hyd e.symm]
 refine wpAny_call (W.kla_callFunE hr hf rfl hco hgen rfl hcd ?_);rw [hb];refine wpAny_pure (wpAny_newFunctionEnv (fun z hz=>?_) (fun z hz=>?_) (fun h₁ hns hsb=>⟨I.nolimit.fresh _ hsb,?_⟩) hk)
 ·rw [hsc] at hz
  rcases List.mem_cons.mp hz with e | hz
  ·rw [e];simp
  ·rw [List.mem_singleton.mp hz];simp
 ·rw [List.mem_singleton.mp hz];exact hly
 have hk₁:∀ a o,s.heap.get? a=some o->h₁.get? a=some o:=fun a o e=>hsb.extBut a o (Nat.ne_of_lt (Heap.lt_size e)) (Heap.get?_push_of_some _ e)
 have I1:Inv X pins σ H { s with heap:=h₁,toks:=s.toks+1 }:=I.kept hk₁
 obtain ⟨z,hd2,vs,rel,dd⟩:=ul0 I1.hok hd;obtain ⟨w',hw,rw'⟩:=RelO.some_of (v:=V.ref r) (o:=valueAt vs (.inl k)) (by rw [<- hv];exact rel.val (.inl k));obtain rfl:w'=Value.ref r:=rw';obtain ⟨its,rr,pl,hz⟩:=I1.tuple hq;refine W.kla_codeExpr ?_;refine ue5 PySem.F.slot_tuple_getitem.lookup (fun _ _=>rfl) ?_;refine ue5 PySem.F.slot_dict_getitem.lookup (fun _ _=>rfl) ?_;refine wpAny_Name (wpAny_loadName_free (by exact hk) (by exact hld) (c:=cell) (by simp [newEnv]) (v:=.ref b) ?_ ?_ hdc) hdn
 ·exact hcell.keeps hk₁
 refine wpAny_Name (wpAny_loadName_local (by exact hk) (by exact hly) (m:=_) hns (v:=.int k t) (by simp) ?_) hyn;refine ⟨dd.typeIs,?_⟩;refine wpAny_getItem_of (ug2 (P:=X.prog) (w:=X.w) (k:=.inl k) ⟨t,rfl⟩) dd.mapOf hw ?_;refine wpAny_Constant_int ⟨pl.typeIs,?_⟩;cases rr with
 | cons r1 r2 =>
  obtain ⟨t',rfl⟩:=(show ∃ t,_=Value.int v t from r1);refine getItem_tuple (j:=0) pl (by decide) (by decide) ?_ rfl (h _ _ _ hk₁);rw [List.size_toArray,List.length_cons];unfold seqIndex?;simp
end
section
variable {X:Cx} {pins:List (Addr × Obj)} {σ:St} {H:Hp} {s:Shared}
theorem us3 {f b cell:Addr} {name d y qual:Str} {params:Arguments} {scope:Scope} {dp yp sp cp sq:Pos} {kq:Nat} {pm cdv ctv:Value} {kvs:List (Key × V)} {ns:List Int} {g:Int->Int} {Q:Value->Shared->Prop} {E:Value->Shared->Prop} {n:Nat}
  (hr:Room n X.A) (I:Inv X pins σ H s)
  (hf:s.heap.get? f=some { cls:=.type "function",data:=.func (W.kla_fn name qual params (lamB d dp y yp sp kq cp sq) scope [(d,cell)] pm cdv ctv) }) (hfL:f ≠ X.env.locals)
  (hcd:s.heap.CodeRec cdv qual) (hcdL:∀ c,cdv=.ref c->c ≠ X.env.locals) (hb:∀ v:Value,bindArgs (W.kla_fn name qual params (lamB d dp y yp sp kq cp sq) scope [(d,cell)] pm cdv ctv) ⟨[v],[]⟩=pure [(y,v)])
  (hsc:scope.names=[(y,.local),(d,.free)]) (hyd:¬ y=d) (hk:scope.kind=.function) (hco:scope.isCoroutine=false) (hgen:scope.isGenerator=false)
  (hyn:(y == ("__debug__" : Str))=false) (hdn:(d == ("__debug__" : Str))=false) (hdc:(d == ("__classdict__" : Str))=false)
  (hcell:s.heap.IsCell cell (some (.ref b))) (hcl:cell ≠ X.env.locals) (hd:H b=some (.dK kvs)) (hks:kvs.map (·.1)=ns.map Sum.inl) (h0:0 < ns.length) (hv:∀ k ∈ ns,∃ r xs,valV kvs (.inl k)=some (.ref r) /\ SqT X.K H r (.int (g k)::xs))
  (h:∀ k t s',k ∈ ns->(∀ k' ∈ ns,g k<=g k')->Inv X pins σ H s'->Q (.int k t) s') :
  wpAny (model X.prog X.w) X.A (call (.builtin "min") [.ref b] [(Str.ofString "key",.ref f)]) Q E s:=by
 obtain ⟨m,hm,_⟩:=id I.loc;obtain ⟨z,hd2,vs,rel,dd⟩:=ul0 I.hok hd;obtain ⟨o,es,ep,ho,hc,hdat,hk2,hp,hn⟩:=id dd;have bL:b ≠ X.env.locals:=fun q=>by rw [q,I.free] at hd;cases hd
 have bf:b ≠ f:=fun q=>by rw [q,hf] at ho;cases ho;cases hdat
 have lf:∀ {h:Heap},News (Att.noObjs s.heap) X.env.locals h ([]++(f,_)::Att.ledger s.heap X.env.locals f)->∀ b o,b ≠ X.env.locals->s.heap.get? b=some o->h.get? b=some o:=fun {h} N b o hb e=>by
  by_cases hbf:b=f
  ·subst hbf
   rw [hf] at e;cases e;exact (N _ (List.Mem.head _)).1
  ·exact (N (b,o) (List.Mem.tail _ (Att.mem_ledger.mpr ⟨hb,hbf,e⟩))).1
 have hkv:=rel.keys;have hlv:=rel.length;have hlen:vs.length=ns.length:=by rw [<- hlv,<- List.length_map (f:=fun x:Key × V=>x.1),hks,List.length_map]
 have at_:∀ (i:Nat) (v:Value),(∃ k x,vs[i]?=some (k,x) /\ (u14 X.prog X.w).is k v=true)->∃ (k:Int) (t:Tok),k ∈ ns /\ ns.getD i 0=k /\ v=.int k t:=fun i v ⟨k,x,e,hi⟩=>by
  have e1:(vs.map (·.1))[i]?=some k:=by rw [List.getElem?_map,e];rfl
  rw [<- hkv,hks,List.getElem?_map] at e1;obtain ⟨j,hj,rfl⟩:=Option.map_eq_some_iff.mp e1;obtain ⟨t,rfl⟩:=(show ∃ t,v=.int j t from vv9 hi);exact ⟨j,t,List.mem_of_getElem? hj,by simp [hj],rfl⟩
 refine wb5 (h₀:=Att.noObjs s.heap) (L:=X.env.locals) (m:=m) (news:=[]++(f,_)::Att.ledger s.heap X.env.locals f) (kvs:=vs) (ep:=ep) (fun i=>g (ns.getD i 0)) hr.hd (Att.fr_all hm) (Att.news_ledger hfL hf) hd2 ⟨o,es,ho,hc,hdat,hk2,hp,hn⟩ ⟨o,List.Mem.tail _ (Att.mem_ledger.mpr ⟨bL,bf,ho⟩)⟩ (by omega) (fun i v hi _ h tk own F N=>?_) fun i v h' tk' hi _ hmin F N=>?_
 ·obtain ⟨k,t,hk1,hk2,rfl⟩:=at_ i v hi
  have kp:=lf (fun p hp=>N p (List.mem_append_left _ hp));have I1:Inv X pins σ H { s with heap:=h,toks:=tk }:=I.ledger hm F.ns kp
  obtain ⟨c,o,vs,tq,q1,q2,q3⟩:=hcd;obtain ⟨r,xs,v1,v2⟩:=hv k hk1;refine v35 (A:=X.A.in1) hr.depth I1 (kp _ _ hfL hf) ⟨c,o,vs,tq,q1,kp _ _ (hcdL c q1) q2,q3⟩ (hb _) hsc hyd hk hco hgen hyn hdn hdc ?_ hd v1 v2 fun h2 tk2 t2 kp2=>?_
  ·obtain ⟨o,e1,e2⟩:=hcell
   exact ⟨o,kp _ _ hcl e1,e2⟩
  ·rw [hk2]
   exact ⟨h2,tk2,t2,rfl,rfl,⟨F.ns.keeps kp2,(fun b o e=>by rw [Att.noObjs_get] at e;cases e),F.above⟩,fun p hp=>⟨kp2 _ _ (N p hp).1,(N p hp).2⟩⟩
 ·obtain ⟨k,t,hk1,hk2,rfl⟩:=at_ i v hi
  refine h k t _ hk1 (fun k' hk'=>?_) (I.ledger hm F.ns (lf N));obtain ⟨j,hj,e⟩:=List.getElem_of_mem hk';have:=hmin j (by omega);rw [<- hk2];have e2:ns.getD j 0=k':=by rw [List.getD_eq_getElem?_getD,List.getElem?_eq_getElem hj,e];rfl
  rw [e2] at this;exact this
end
section
variable {X:Cx}
def uq7 (K:W.Frag) (P:Addr) (qn:Str) (bm:Addr) (ta:TA) (i:Nat):TE:=fun σ H Q=>ta σ H fun vs H1=>∃ (b:Addr) (ns:List Int) (kvs:List (Key × V)) (g:Int->Int) (ps:Array Value),vs=[.ref b] /\ σ[i]?=some (some (.ref b)) /\ kvs.map (·.1)=ns.map Sum.inl /\ H1 b=some (.dK kvs) /\ 0 < ns.length /\ (∀ k ∈ ns,∃ r xs,valV kvs (.inl k)=some (.ref r) /\ SqT K H1 r (.int (g k)::xs)) /\ H1 P=some (.tbl ps) /\ L3.TbOk H1 qn ps /\ L3.BmOk H1 bm /\
 ∀ k ∈ ns,(∀ k' ∈ ns,g k<=g k')->∀ H2 ps',H2 P=some (.tbl ps')->L3.TbOk H2 qn ps'->(∀ b',b' ≠ P->H1 b' ≠ none->H2 b'=H1 b')->Q (.int k) H2
theorem uv0 {n i:Nat} {e:Expr} {ta:TA} {c P bm:Addr} {d y:Str} {params:Arguments} {scope:Scope} {dp yp sp lp kp p pos cp sq:Pos} {kq:Nat}
  (hr:Room n X.A) (hg:Gl X "min") (hm:X.mg "min" = none) (hbt:bootBuiltins "min" = some (.builtin "min")) (ha:PA X [e] ta) (hs:starEach [e] X.env=[(false,eval e X.env)])
  (hcode:X.env.code=.ref c) (hC:∀ h:Heap,X.K.In h->W.CodeHd h c P) (hbm:X.mg "__builtins__" = some (.ref bm)) (hbn:bm ≠ builtinsNs) (hbg:bm ≠ mainGlobals) (hN:X.N[i]?=some d) (hdv:X.env.scope.names.lookup d=some .cell)
  (hclos:∀ cell,X.env.cells.lookup d=some cell->closureFor scope X.env=pure [(d,cell)]) (hdef:defaultsOf params X.env=([],[]))
  (hb:∀ (name qual:Str) (cl:List (Str × Addr)) (pm cdv ctv v:Value),bindArgs (W.kla_fn name qual params (lamB d dp y yp sp kq cp sq) scope cl pm cdv ctv) ⟨[v],[]⟩=pure [(y,v)])
  (hsc:scope.names=[(y,.local),(d,.free)]) (hyd:¬ y=d) (hk:scope.kind=.function) (hco:scope.isCoroutine=false) (hgen:scope.isGenerator=false)
  (hyn:(y == ("__debug__" : Str))=false) (hdn:(d == ("__debug__" : Str))=false) (hdc:(d == ("__classdict__" : Str))=false) :
  PE X (.Call (.Name "min" p) [e] [⟨some "key",.Lambda params (lamB d dp y yp sp kq cp sq) scope lp,kp⟩] pos) (uq7 X.K P (X.env.qual ++ "<lambda>") bm ta i):=by
 intro pins s σ H Q I h;refine wpAny_Call_Name_kw (u70 I hg hm hbt ?_);refine callWith_kw (thn (ha pos pins s σ H _ I h) ?_) (by rw [hs];rfl) (by rw [hs];rfl) rfl rfl;rintro us s1 ⟨vs,H1,I1,r1,b,ns,kvs,g,ps,e1,hσ,hl,hd,h0,hv,hP,hT,⟨ob,hbo,hb1,hb2,hb3⟩,q⟩;subst e1;obtain ⟨u0,rfl,ru0⟩:=r1.one;cases ru0;refine kws_cons ?_;obtain ⟨m,hmN,hlook⟩:=id I1.loc;obtain ⟨u,ru,lk⟩:=hlook i d (.ref b) hN hσ (.inr (.inl hdv));obtain rfl:u=.ref b:=ru;obtain ⟨cell,hcl,hcell⟩:∃ cell,X.env.cells.lookup d=some cell /\ s1.heap.IsCell cell (some (.ref b)):=by
  rcases lk with ⟨z,_⟩ | ⟨_,z⟩
  ·have z:X.env.scope.names.lookup d=some .local:=z
   rw [hdv] at z;cases z
  ·exact z
 have cellL:cell ≠ X.env.locals:=fun z=>by
  obtain ⟨o,es,ep,e1,e2,_⟩:=hmN;obtain ⟨o2,e3,e4⟩:=hcell;rw [z,e1] at e3;cases e3;rw [e2] at e4;cases e4
 have PL:P ≠ X.env.locals:=fun z=>by rw [z,I1.free] at hP;cases hP
 have hPo:s1.heap.get? P=some (W.tabObj ps):=I1.hok P _ hP;have hgl:=I1.mod.glob.keeps I1.bk;have hgP:mainGlobals ≠ P:=fun z=>by
  obtain ⟨o,es,ep,e1,_⟩:=I1.mod.glob;have:=(I1.bs _ _ e1).2;rw [z,hP] at this;cases this
 have hB1:s1.heap.BuiltinsAt X.mg P:=⟨bm,ob,hbm,hbn,hbg,fun z=>(by rw [z,hP] at hbo;cases hbo),(I1.hok bm _ hbo).1,hb1,hb2,hb3⟩;have hLs:=I1.lt;refine W.kla_eval hdef ?_;cases hca:codeAmong lp ps.toList with
 | none =>
  refine W.kla_makeFunction (hclos cell hcl) I1.ok.glob hgl hcode (hC _ I1.kIn) hPo hT.1 hca hgP hB1 fun c' ctv h' tk hx hge hlt hrec hPt=>kws_nil ?_
  obtain ⟨c0,oc,vs,tq,ec,hoc,hdt,hq⟩:=hrec;cases ec;have hf0:H1 c'=none:=I1.hok.fresh hge;have ncP:c' ≠ P:=fun z=>by rw [z,hP] at hf0;cases hf0
  have hsz:s1.heap.objs.size<=h'.objs.size:=Nat.le_trans hge (Nat.le_of_lt hlt);obtain ⟨fo,hfo⟩:∃ fo,fo=W.kla_obj "<lambda>" (X.env.qual ++ "<lambda>") params (lamB d dp y yp sp kq cp sq) scope [(d,cell)] ((X.mg "__name__").getD .none) c' ctv:=⟨_,rfl⟩;rw [<- hfo];have kp:∀ b' o,b' ≠ P->s1.heap.get? b'=some o->(h'.push fo).get? b'=some o:=fun b' o hb' e=>Heap.get?_push_of_some _ (hx b' o hb' e)
  obtain ⟨ps',hps'⟩:∃ ps',ps'=ps++#[rawInt lp.line,rawInt lp.col,.ref c']:=⟨_,rfl⟩;rw [<- hps'] at hPt;obtain ⟨H2,hH2⟩:∃ H2,H2=upd (upd H1 c' (.frz oc (.ext fun h=>h.get? c'=some oc))) P (.tbl ps'):=⟨_,rfl⟩;have eP:H2 P=some (.tbl ps'):=by rw [hH2];exact u13
  have ec:H2 c'=some (.frz oc (.ext fun h=>h.get? c'=some oc)):=by rw [hH2,u10 ncP];exact u13
  have eo:∀ b',b' ≠ P->b' ≠ c'->H2 b'=H1 b':=fun b' n1 n2=>by rw [hH2,u10 n1,u10 n2]
  have ne2:∀ b',H1 b' ≠ none->b' ≠ c':=fun b' z w=>z (by rw [w];exact hf0)
  have hT2:L3.TbOk H2 (X.env.qual ++ "<lambda>") ps':=by
   refine ⟨by rw [hps'];simpa using TriplesOk_snoc lp.line lp.col (.ref c') _ hT.1,fun pos cv z=>?_⟩;rw [hps'] at z
   rcases uw8 (pos:=pos) (a:=lp.line) (b:=lp.col) (c:=.ref c') (cv:=cv) _ hT.1 (by simpa using z) with z | z
   ·obtain ⟨c1,o1,vs1,t1,y1,y2,y3,y4⟩:=hT.2 pos cv z
    refine ⟨c1,o1,vs1,t1,y1,y2,y3,?_⟩;rw [eo c1 (fun w=>by rw [w,hP] at y4;cases y4) (ne2 c1 (by rw [y4];simp))];exact y4
   ·exact ⟨c',oc,vs,tq,z,hdt,hq,ec⟩
  have I2:Inv X pins σ H2 { s1 with heap:=h'.push fo,toks:=tk }:=by
   refine I1.un ⟨fun b' o e n _ _=>kp b' o (fun z=>by rw [z,hP] at n;cases n) e,fun b' o e n _ _=>⟨o.slots,kp b' o (fun z=>by rw [z,hP] at n;cases n) e⟩,fun b' o e n _=>?_,fun b' o e _=>?_,fun b' xs e=>?_,fun b' o u e=>?_,fun b' ps0 e=>?_⟩ fun b' u e=>?_
   ·rw [eo b' (fun z=>by rw [z,hP] at n;cases n) (fun z=>by rw [z] at e;exact absurd (Heap.lt_size e) (Nat.not_lt.mpr hge))];exact n
   ·by_cases hb':b'=P
    ·exact ⟨_,by rw [hb'];exact Heap.get?_push_of_some _ hPt⟩
    ·exact ⟨o,kp b' o hb' e⟩
   ·rw [eo b' (fun z=>by rw [z,hP] at e;cases e) (ne2 b' (by rw [e];simp))];exact e
   ·rw [eo b' (fun z=>by rw [z,hP] at e;cases e) (ne2 b' (by rw [e];simp))];exact e
   ·by_cases hb':b'=P
    ·subst hb'
     rw [hP] at e;cases e;exact ⟨_,by rw [eP,hps']⟩
    ·exact ⟨#[],by rw [eo b' hb' (ne2 b' (by rw [e];simp)),e];simp⟩
   ·by_cases hb':b'=P
    ·subst hb'
     rw [eP] at e;cases e;exact Heap.get?_push_of_some _ hPt
    ·by_cases hc':b'=c'
     ·subst hc'
      rw [ec] at e;cases e;have hoc2:=Heap.get?_push_of_some fo hoc;exact ⟨hoc2,hoc2,⟨_,hoc2⟩,fun h1 h2 z w=>w _ z⟩
     ·rw [eo b' hb' hc'] at e
      refine (I1.hok b' u e).stay (fun c1 v hc q1=>kp c1 v ?_ q1) (fun b1 z=>?_) fun b1 xs z=>?_
      ·rcases hc with z | z
       ·rw [z];exact hb'
       ·exact fun w=>by rw [w,hP] at z;cases z
      ·rw [eo b1 (fun w=>by rw [w,hP] at z;cases z) (ne2 b1 (by rw [z];simp))];exact z
      ·rw [eo b1 (fun w=>by rw [w,hP] at z;cases z) (ne2 b1 (by rw [z];simp))];exact z
  have keepH:∀ b',b' ≠ P->H1 b' ≠ none->H2 b'=H1 b':=fun b' n1 n2=>eo b' n1 (ne2 b' n2)
  refine us3 (n:=n) (f:=h'.objs.size) (g:=g) (ns:=ns) (cell:=cell) (b:=b) (kvs:=kvs) hr I2 (by rw [hfo];exact Heap.get?_push_size _ rfl) (Nat.ne_of_gt (Nat.lt_of_lt_of_le hLs hsz)) ⟨c',oc,vs,tq,rfl,Heap.get?_push_of_some _ hoc,hdt,hq⟩ (fun c1 z=>by cases z;exact Nat.ne_of_gt (Nat.lt_of_lt_of_le hLs hge)) (fun v=>hb _ _ _ _ _ _ v) hsc hyd hk hco hgen hyn hdn hdc ?_ cellL ?_ hl h0 ?_ fun k t s' k1 k2 I3=>⟨.int k,H2,I3,⟨t,rfl⟩,q k k1 k2 H2 ps' eP hT2 keepH⟩
  ·obtain ⟨o,e1,e2⟩:=hcell
   refine ⟨o,kp _ _ (fun z=>?_) e1,e2⟩;rw [z,hPo] at e1;cases e1;cases e2
  ·rw [keepH b (fun z=>by rw [z,hP] at hd;cases hd) (by rw [hd];simp)];exact hd
  ·intro k hk
   obtain ⟨r,xs,v1,v2⟩:=hv k hk;exact ⟨r,xs,v1,L3.Le.sqT ⟨fun b' xs e=>by rw [keepH b' (fun z=>by rw [z,hP] at e;cases e) (by rw [e];simp)];exact e,fun b' o u e=>by rw [keepH b' (fun z=>by rw [z,hP] at e;cases e) (by rw [e];simp)];exact e⟩ v2⟩
 | some cv =>
  obtain ⟨c',oc,vs,tq,ec,hdt,hq,hcH⟩:=hT.2 lp cv hca;subst ec;have hoc:s1.heap.get? c'=some oc:=(I1.hok c' _ hcH).1;refine W.kla_makeFunctionHit (hclos cell hcl) I1.ok.glob hgl hcode (hC _ I1.kIn) hPo hT.1 hca hB1 fun ctv h' tk hkp hsz=>kws_nil ?_
  obtain ⟨fo,hfo⟩:∃ fo:Obj,fo={ cls:=.type "function",data:=.func (W.kla_fn "<lambda>" (X.env.qual ++ "<lambda>") params (lamB d dp y yp sp kq cp sq) scope [(d,cell)] ((X.mg "__name__").getD .none) (.ref c') ctv) }:=⟨_,rfl⟩;rw [<- hfo];have kp:∀ b' o,s1.heap.get? b'=some o->(h'.push fo).get? b'=some o:=fun b' o e=>Heap.get?_push_of_some _ (hkp b' o e)
  have I2:Inv X pins σ H1 { s1 with heap:=h'.push fo,toks:=tk }:=I1.kept kp
  refine us3 (n:=n) (f:=h'.objs.size) (g:=g) (ns:=ns) (cell:=cell) (b:=b) (kvs:=kvs) hr I2 (by rw [hfo];exact Heap.get?_push_size _ rfl) (Nat.ne_of_gt (Nat.lt_of_lt_of_le hLs hsz)) ⟨c',oc,vs,tq,rfl,kp _ _ hoc,hdt,hq⟩ (fun c1 z=>by cases z;exact fun w=>by rw [w,I1.free] at hcH;cases hcH) (fun v=>hb _ _ _ _ _ _ v) hsc hyd hk hco hgen hyn hdn hdc (hcell.keeps kp) cellL hd hl h0 hv fun k t s' k1 k2 I3=>⟨.int k,H1,I3,⟨t,rfl⟩,q k k1 k2 H1 ps hP hT fun _ _ _=>rfl⟩
end
end L2
namespace L3
open PySem PySem.Spec PyProof.Rows L2
def uh3 (P:Addr) (qn:Str) (bm:Addr) (ts:TA3) (i:Nat):TE3:=fun σ G q=>ts σ G fun ds G1=>∃ (b:Addr) (ns:List Int) (kvs:List (Key × D)) (g:Int->Int),ds=[.ref b] /\ σ[i]?=some (some (.ref b)) /\ kvs.map (·.1)=ns.map Sum.inl /\ G1 b=some (.dic kvs) /\ 0 < ns.length /\ (∀ k ∈ ns,∃ r,valK kvs (.inl k)=some (.tup (.int (g k)::r))) /\ G1 P=some (.tb qn bm) /\
 ∀ k ∈ ns,(∀ k' ∈ ns,g k<=g k')->q (.int k) G1
theorem un8 {K:W.Frag} {P bm:Addr} {qn:Str} {ts:TA3} {i:Nat} {σ:L2.St} {H:Hp} {Q:VK} (h:lowE K (uh3 P qn bm ts i) σ H Q):uq7 K P qn bm (lowA K ts) i σ H Q:=by
 obtain ⟨σd,G,q,rs,c,t,f⟩:=h;refine ⟨σd,G,_,rs,c,t,fun ds G1 vs H1 r1 c1 l1 t1=>?_⟩;obtain ⟨b,ns,kvs,g,rfl,hσ,ka,kb,h0,hv,kP,hq⟩:=t1;obtain ⟨v0,rfl,rv0⟩:=r1.one;cases rv0.ref_inv;obtain ⟨ys,e2,rp⟩:=c1 b _ kb;obtain ⟨ps,e3,hT,hBm⟩:=c1 P _ kP;have hval:∀ k ∈ ns,∃ r xs,valV ys (.inl k)=some (.ref r) /\ SqT K H1 r (.int (g k)::xs):=fun k hk=>by
  obtain ⟨r,e⟩:=hv k hk
  rcases u56 (k:=.inl k) rp with ⟨z1,z2⟩ | ⟨d',w',z1,z2,z3⟩
  ·rw [z1] at e;cases e
  ·rw [z1] at e;cases e
   obtain ⟨a,xs,rfl,s1,s2⟩:=z3;obtain ⟨x,xs',rfl,h1,h2⟩:=s2.inv_cons;rw [h1.int_inv] at s1;exact ⟨a,xs',z2,s1⟩
 obtain ⟨u1,hσ2,ru1⟩:=rs.2 i _ hσ;cases ru1.ref_inv;refine ⟨b,ns,ys,g,ps,rfl,hσ2,by rw [<- ka];exact rp.1.symm,e2,h0,hval,e3,hT,hBm,fun k hk hm H2 ps' eP hT2 kp=>?_⟩;have le2:Le H1 H2:=⟨fun b' xs e=>by rw [kp b' (fun z=>by rw [z,e3] at e;cases e) (by rw [e];simp)];exact e,fun b' o u e=>by rw [kp b' (fun z=>by rw [z,e3] at e;cases e) (by rw [e];simp)];exact e⟩;have c2:Con K G1 H2:=fun a' o' e'=>by
  by_cases hz:a'=P
  ·subst hz
   rw [kP] at e';cases e';obtain ⟨ob,b1,b2⟩:=hBm;exact ⟨ps',eP,hT2,ob,by rw [kp bm (fun z=>by rw [z,e3] at b1;cases b1) (by rw [b1];simp)];exact b1,b2⟩
  ·obtain ⟨u,eu⟩:=(c1 a' o' e').some
   exact (c1 a' o' e').stay le2 (kp a' hz (by rw [eu];simp))
 exact f _ _ _ _ RelD.intI c2 (l1.trans le2) (hq k hk hm)
theorem v51 {X:Cx} {n i:Nat} {e:Expr} {ts:TA3} {c P bm:Addr} {d y qn:Str} {params:Arguments} {scope:Scope} {dp yp sp lp kp p pos cp sq:Pos} {kq:Nat}
  (hr:Room n X.A) (hg:Gl X "min") (hm:X.mg "min" = none) (hbt:bootBuiltins "min" = some (.builtin "min")) (ha:A3 X [e] ts)
  (hcode:X.env.code=.ref c) (hC:∀ h:Heap,X.K.In h->W.CodeHd h c P) (hbm:X.mg "__builtins__" = some (.ref bm)) (hbn:bm ≠ builtinsNs) (hbg:bm ≠ mainGlobals)
  (hN:X.N[i]?=some d) (hdv:X.env.scope.names.lookup d=some .cell) (hq:X.env.qual ++ "<lambda>" = qn)
  (hclos:∀ cell,X.env.cells.lookup d=some cell->closureFor scope X.env=pure [(d,cell)]) (hdef:defaultsOf params X.env=([],[]))
  (hb:∀ (name qual:Str) (cl:List (Str × Addr)) (pm cdv ctv v:Value),bindArgs (W.kla_fn name qual params (lamB d dp y yp sp kq cp sq) scope cl pm cdv ctv) ⟨[v],[]⟩=pure [(y,v)])
  (hsc:scope.names=[(y,.local),(d,.free)]) (hyd:¬ y=d) (hk:scope.kind=.function) (hco:scope.isCoroutine=false) (hgen:scope.isGenerator=false)
  (hyn:(y == ("__debug__" : Str))=false) (hdn:(d == ("__debug__" : Str))=false) (hdc:(d == ("__classdict__" : Str))=false) (hs:starEach [e] X.env=[(false,eval e X.env)]:=by rfl) :
  E3 X (.Call (.Name "min" p) [e] [⟨some "key",.Lambda params (lamB d dp y yp sp kq cp sq) scope lp,kp⟩] pos) (uh3 P qn bm ts i):=by
 subst hq;exact u28 (uv0 hr hg hm hbt ha hs hcode hC hbm hbn hbg hN hdv hclos hdef hb hsc hyd hk hco hgen hyn hdn hdc) fun _ _ _=>un8
def ud4 (kvs:List (Key × D)) (k:Key):List (Key × D):=kvs.filter fun p=>!decide (p.1=k)
def vx6 (td ti:TE3):TE3:=fun σ G q=>td σ G fun x G1=>(∃ a kvs,x=.ref a /\ G1 a=some (.dic kvs)) /\ ti σ G1 fun y G2=>∃ a kvs k v,x=.ref a /\ y=kD k /\ G2 a=some (.dic kvs) /\ valK kvs k=some v /\ q v (gup G2 a (.dic (ud4 kvs k)))
theorem ut3 {K:W.Frag} {H:Hp} {k:Key}:∀ {kvs:List (Key × D)} {ys:List (Key × V)},RelPs K H kvs ys->RelPs K H (ud4 kvs k) (ug9 ys k)
 | [],[],rp=>rp
 | [],_::_,rp=>by cases rp.1
 | _::_,[],rp=>by cases rp.1
 | p::kvs,y::ys,⟨h1,h2⟩=>by
  rw [List.map_cons,List.map_cons,List.cons.injEq] at h1;obtain ⟨z,zs,e,r1,r2⟩:=(show RelDs K H (p.2::kvs.map (·.2)) (y.2::ys.map (·.2)) from h2).inv_cons;cases e;obtain ⟨i1,i2⟩:=ut3 (k:=k) (kvs:=kvs) (ys:=ys) ⟨h1.2,r2⟩;unfold ud4 ug9 at i1 i2 ⊢;rw [List.filter_cons,List.filter_cons,<- h1.1]
  by_cases e:p.1=k
  ·rw [if_neg (by simp [e]),if_neg (by simp [e])]
   exact ⟨i1,i2⟩
  ·simp only [e,decide_false,Bool.not_false,if_true,ne_eq,not_false_eq_true,decide_true]
   exact ⟨by rw [List.map_cons,List.map_cons,h1.1,i1],.cons r1 i2⟩
theorem vb5 {K:W.Frag} {H:Hp} {td ti:TE3} {σ:L2.St} {Q:VK} (h:lowE K (vx6 td ti) σ H Q):vh7 (lowE K td) (lowE K ti) σ H Q:=by
 obtain ⟨σd,G,q,rs,c,t,f⟩:=h;refine ⟨σd,G,_,rs,c,t,fun x G1 v H1 r1 c1 l1 t1=>?_⟩;obtain ⟨⟨a,kvs,rfl,ha⟩,t1⟩:=t1;obtain ⟨ys,e,rp⟩:=c1 a _ ha;refine ⟨a,r1.ref_inv,.inl ⟨ys,.of e⟩,σd,G1,_,rs.le l1,c1,t1,fun y G2 u H2 r2 c2 l2 t2=>?_⟩;obtain ⟨a',kvs3,k,v3,e1,rfl,hg,hv,t4⟩:=t2;cases e1;obtain rfl:=ub3 r2;obtain ⟨ys3,e3,rp3⟩:=c2 a _ hg
 rcases u56 (k:=k) rp3 with ⟨z1,z2⟩ | ⟨d',w',z1,z2,z3⟩
 ·rw [hv] at z1;cases z1
 ·rw [hv] at z1;cases z1
  have l5:Le H2 (upd H2 a (.dK (ug9 ys3 k))):=Le.dK e3;exact ⟨ys3,k,w',e3,rfl,z2,f _ _ _ _ (z3.le l5) (c2.put (o:=.dic (ud4 kvs3 k)) l5 ⟨_,u13,(ut3 rp3).le l5⟩) (l1.trans (l2.trans l5)) t4⟩
theorem we9 {X:Cx} {o e:Expr} {apos cpos:Pos} {to te:TE3} (ho:E3 X o to) (he:E3 X e te) (hbase:attributeBase o "pop" X.env (eval o X.env)=eval o X.env:=by rfl)
  (hfew:((backTo cpos (starEach [e] X.env)).all (fun x=>!x.1) && (backToKw cpos (keywordEach [] X.env)).all (fun x=>x.1.isSome)
   && decide (([e]:List Expr).length+([]:List Keyword).length+(if ([]:List Keyword).isEmpty then 0 else 1) < 30))=true:=by rfl)
  (hline:(apos.endLine == cpos.line)=true:=by rfl) (htr:starEach [e] X.env=[(false,eval e X.env)]:=by rfl):E3 X (.Call (.Attribute o "pop" apos) [e] [] cpos) (vx6 to te) :=
 u28 (va1 ho he ⟨hbase,hfew,hline,by rw [htr];rfl⟩) fun _ _ _=>vb5
@[reducible] def wh9:C3:=fun ds G q=>∃ a kvs,ds=[.ref a] /\ G a=some (.dic kvs) /\ q (.int kvs.length) G
theorem w10 {X:Cx}:Call3 X (.builtin "len") wh9:=u33 v73 <| by
 rintro xs H Q ⟨ds,G,q,r,c,t,f⟩;obtain ⟨a,kvs,rfl,hs,t⟩:=t;obtain ⟨v,rfl,r1⟩:=r.one;cases r1.ref_inv;obtain ⟨ys,e,rp⟩:=c a _ hs;have hl:ys.length=kvs.length:=by have:=congrArg List.length rp.1;simpa using this.symm
 exact ⟨a,ys,rfl,e,by rw [hl];exact f _ _ _ _ RelD.intI c (Le.refl H) t⟩
end L3
namespace L2
open PySem PySem.Spec PyProof.Rows
section
variable {X:Cx} {P:Program} {w:World} {fs ex:List Addr} {H:Hp} {h:Heap} {a:Addr} {ob:Obj} {kvs:List (Key × V)}
theorem Un.thaw (e:H a=some (.frz ob (.dK kvs))):Un fs ex H (upd H a (.dK kvs)) h h where
 keep:=fun b u q _ _ _=>q
 slot:=fun b u q _ _ _=>⟨u.slots,q⟩
 free:=fun b u q n _=>by rw [u10 (fun z=>by rw [z,e] at n;cases n)];exact n
 there:=fun b u q _=>⟨u,q⟩
 tups:=fun b xs q=>by rw [u10 (fun z=>by rw [z,e] at q;cases q)];exact q
 frzs:=fun b o u q=>by
  by_cases z:b=a
  ·rw [z,e] at q
   obtain ⟨u,hu⟩:=u;cases q;exact absurd rfl (hu kvs)
  ·rw [u10 z];exact q
 tbls:=fun b ps q=>⟨#[],by rw [u10 (fun z=>by rw [z,e] at q;cases q),q];simp⟩
theorem HOk.thaw (ok:HOk P w H h) (e:H a=some (.frz ob (.dK kvs))):HOk P w (upd H a (.dK kvs)) h:=fun b u q=>by
 by_cases hb:b=a
 ·subst hb
  rw [u13] at q;cases q;exact (show ObjOk P w H h b (.frz ob (.dK kvs)) from ok b _ e).2
 ·rw [u10 hb] at q
  exact (ok b u q).stay (fun _ _ _ r=>r) (fun c r=>by rw [u10 (fun z=>by rw [z,e] at r;cases r)];exact r) fun c xs r=>by rw [u10 (fun z=>by rw [z,e] at r;cases r)];exact r
theorem Inv.thaw {pins:List (Addr × Obj)} {σ:List (Option V)} {s:Shared} (I:Inv X pins σ H s) (e:H a=some (.frz ob (.dK kvs))):Inv X pins σ (upd H a (.dK kvs)) s :=
 I.un (h':=s.heap) (t':=s.toks) (Un.thaw e) (HOk.thaw I.hok e)
def w32 (te:TE):TE:=fun σ H Q=>te σ H fun x H1=>∃ (a:Addr) (kvs:List (Key × V)),x=.ref a /\ Rd H1 a (.dK kvs) /\ Q x (upd H1 a (.dK kvs))
theorem w28 {u:HO} (e:H a=some u):upd H a u=H:=funext fun b=>by
 by_cases z:b=a
 ·subst z;rw [u13,e]
 ·rw [u10 z]
theorem vr8 {e:Expr} {te:TE} (he:PE X e te):PE X e (w32 te):=by
 intro pins s σ H Q I h;refine thn (he pins s σ H _ I h) ?_;rintro v s1 ⟨x,H1,I1,r1,a,kvs,rfl,hd | ⟨o,hd⟩,q⟩
 ·rw [w28 hd] at q
  exact ⟨_,H1,I1,r1,q⟩
 ·exact ⟨_,_,I1.thaw hd,r1,q⟩
def uy4 (td:TE):TE:=fun σ H Q=>td σ H fun x H1=>∃ (a:Addr) (kvs:List (Key × V)),x=.ref a /\ H1 a=some (.dK kvs) /\ Q .non (upd H1 a (.dK []))
theorem v02 {o:Expr} {td:TE} {apos cpos:Pos} (ho:PE X o td) (hbase:attributeBase o "clear" X.env (eval o X.env)=eval o X.env:=by rfl) (hline:(apos.endLine == cpos.line)=true:=by rfl) :
  PE X (.Call (.Attribute o "clear" apos) [] [] cpos) (uy4 td):=by
 intro pins s σ H Q I h
 (refine wpAny_Call_method0_late hbase hline (thn (ho pins s σ H _ I h) ?_);rintro v s1 ⟨x,H1,I1,r1,a,kvs,rfl,ha,q⟩)
 obtain rfl:v=Value.ref a:=r1;obtain ⟨t1,t2,_⟩:=v41 I1 (.inl ⟨kvs,.of ha⟩);obtain ⟨z1,hd1,vs1,rel1,dd1⟩:=ul0 I1.hok ha;refine ⟨"dict", "dict.clear",PySem.F.plainAttrs_dict,PySem.F.slot_dict_clear,PySem.F.type_dict_clear,t1,t2,Calls.callWith_builtin rfl (PySem.evalArgs_none ?_)⟩;refine call_meetsIn PySem.F.slot_dict_clear dd1.typeIs PySem.F.entry_dict_clear (PySem.F.args_dict_clear_1 _) (meets_dict_clear (u14 X.prog X.w) a) ⟨vs1,dd1,by rw [<- rel1.length];exact z1,fun h' d1 sb=>?_⟩;have he:∃ q,h'.get? a=some q:=let ⟨q,_,_,hq,_⟩:=d1;⟨q,hq⟩;exact ⟨.non,_,u74 (t':=s1.toks) I1 (by rw [ha];exact True.intro) sb he (ul1 (Nat.zero_le _) hd1 .nil d1),rfl,q⟩
end
end L2
namespace L3
open PySem PySem.Spec PyProof.Rows L2
section
variable {X:Cx} {K:W.Frag} {H:Hp}
theorem Le.thaw {a:Addr} {o:Obj} {ys:List (Key × V)} (h:H a=some (.frz o (.dK ys))):Le H (upd H a (.dK ys)) :=
 ⟨fun b zs q=>by
  by_cases e:b=a
  ·subst e;rw [h] at q;cases q
  ·rw [u10 e];exact q,fun b o u q=>by
  by_cases e:b=a
  ·rw [e,h] at q
   obtain ⟨u,hu⟩:=u;cases q;exact absurd rfl (hu ys)
  ·rw [u10 e];exact q⟩
def uw2 (te:TE3):TE3:=fun σ G q=>te σ G fun d G1=>∃ (a:Addr) (kvs:List (Key × D)),d=.ref a /\ (G1 a=some (.dic kvs) \/ ∃ o,G1 a=some (.frd o kvs)) /\ q d (gup G1 a (.dic kvs))
theorem vb4 {te:TE3} {σ:L2.St} {Q:VK} (h:lowE K (uw2 te) σ H Q):w32 (lowE K te) σ H Q:=by
 obtain ⟨σd,G,q,rs,c,t,f⟩:=h;refine ⟨σd,G,_,rs,c,t,fun d G1 v H1 r1 c1 l1 t1=>?_⟩;obtain ⟨a,kvs,rfl,hg,t2⟩:=t1;cases r1.ref_inv
 rcases hg with hg | ⟨o,hg⟩
 ·obtain ⟨ys,e,rp⟩:=c1 a _ hg
  exact ⟨a,ys,rfl,.inl e,f _ _ _ _ RelD.refI (c1.put (o:=.dic kvs) (Le.dK e) ⟨_,u13,rp.le (Le.dK e)⟩) (l1.trans (Le.dK e)) t2⟩
 ·obtain ⟨ys,e,rp⟩:=c1 a _ hg
  exact ⟨a,ys,rfl,.inr ⟨o,e⟩,f _ _ _ _ RelD.refI (c1.put (o:=.dic kvs) (Le.thaw e) ⟨_,u13,rp.le (Le.thaw e)⟩) (l1.trans (Le.thaw e)) t2⟩
theorem uk7 {e:Expr} {te:TE3} (he:E3 X e te):E3 X e (uw2 te):=u28 (vr8 he) fun _ _ _=>vb4
def up3 (td:TE3):TE3:=fun σ G q=>td σ G fun x G1=>∃ (a:Addr) (kvs:List (Key × D)),x=.ref a /\ G1 a=some (.dic kvs) /\ q .non (gup G1 a (.dic []))
theorem uv7 {td:TE3} {σ:L2.St} {Q:VK} (h:lowE K (up3 td) σ H Q):uy4 (lowE K td) σ H Q:=by
 obtain ⟨σd,G,q,rs,c,t,f⟩:=h;refine ⟨σd,G,_,rs,c,t,fun d G1 v H1 r1 c1 l1 t1=>?_⟩;obtain ⟨a,kvs,rfl,hg,t2⟩:=t1;cases r1.ref_inv;obtain ⟨ys,e,rp⟩:=c1 a _ hg;exact ⟨a,ys,rfl,e,f _ _ _ _ RelD.nonI (c1.put (o:=.dic []) (Le.dK e) ⟨_,u13,⟨rfl,.nil⟩⟩) (l1.trans (Le.dK e)) t2⟩
theorem vd8 {o:Expr} {apos cpos:Pos} {to:TE3} (ho:E3 X o to) (hbase:attributeBase o "clear" X.env (eval o X.env)=eval o X.env:=by rfl) (hline:(apos.endLine == cpos.line)=true:=by rfl) :
  E3 X (.Call (.Attribute o "clear" apos) [] [] cpos) (up3 to):=u28 (v02 ho hbase hline) fun _ _ _=>uv7
end
end L3
namespace L3
open PySem PySem.Spec PyProof.Rows L2 Rw
section
variable {α:Type}
def gtA:List (Nat × α)->Nat->Option α
 | [],_=>none
 | p::F,x=>if p.1=x then some p.2 else gtA F x
def ptA:List (Nat × α)->Nat->α->List (Nat × α)
 | [],x,v=>[(x,v)]
 | p::F,x,v=>if p.1=x then (x,v)::F else p::ptA F x v
def drA (F:List (Nat × α)) (x:Nat):List (Nat × α):=F.filter fun p=>!decide (p.1=x)
variable {F A B:List (Nat × α)} {x y:Nat} {v:α}
theorem u40:∀ {A:List (Nat × α)},gtA (A++B) x=(gtA A x).or (gtA B x)
 | []=>rfl
 | p::A=>by
  show (if p.1=x then some p.2 else gtA (A++B) x)=(if p.1=x then some p.2 else gtA A x).or _
  by_cases h:p.1=x
  ·rw [if_pos h,if_pos h];rfl
  ·rw [if_neg h,if_neg h,u40]
theorem vw6:∀ {F:List (Nat × α)},gtA (ptA F x v) y=if x=y then some v else gtA F y
 | []=>rfl
 | p::F=>by
  unfold ptA
  by_cases h:p.1=x
  ·rw [if_pos h]
   show (if x=y then some v else gtA F y)=if x=y then some v else if p.1=y then some p.2 else gtA F y
   by_cases e:x=y
   ·rw [if_pos e,if_pos e]
   ·rw [if_neg e,if_neg e,if_neg (by rw [h];exact e)]
  ·rw [if_neg h]
   show (if p.1=y then some p.2 else gtA (ptA F x v) y)=if x=y then some v else if p.1=y then some p.2 else gtA F y
   rw [vw6]
   by_cases e:x=y
   ·rw [if_pos e,if_pos e,if_neg (by rw [<- e];exact h)]
   ·rw [if_neg e,if_neg e]
theorem we2:∀ {F:List (Nat × α)},gtA (drA F x) y=if x=y then none else gtA F y
 | []=>by simp [drA,gtA]
 | p::F=>by
  have ih:=we2 (F:=F);unfold drA at ih ⊢;rw [List.filter_cons]
  by_cases h:p.1=x
  ·rw [if_neg (by simp [h]),ih]
   show _=if x=y then none else if p.1=y then some p.2 else gtA F y
   by_cases e:x=y
   ·rw [if_pos e,if_pos e]
   ·rw [if_neg e,if_neg e,if_neg (by rw [h];exact e)]
  ·rw [if_pos (by simp [h])]
   show (if p.1=y then some p.2 else gtA _ y)=if x=y then none else if p.1=y then some p.2 else gtA F y
   rw [ih]
   by_cases e:x=y
   ·rw [if_pos e,if_pos e,if_neg (by rw [<- e];exact h)]
   ·rw [if_neg e,if_neg e]
theorem ga_mem:∀ {F:List (Nat × α)},x ∈ F.map Prod.fst ↔ ∃ v,gtA F x=some v
 | []=>by simp [gtA]
 | p::F=>by
  unfold gtA;rw [List.map_cons,List.mem_cons,ga_mem]
  by_cases h:p.1=x
  ·simp [h]
  ·have:¬ x=p.1:=fun e=>h e.symm
   simp [h,this]
theorem ga_no:gtA F x=none ↔ ¬ x ∈ F.map Prod.fst:=by
 rw [ga_mem];cases gtA F x <;> simp
theorem ua9:∀ {F:List (Nat × α)},(ptA F x v).map Prod.fst=if x ∈ F.map Prod.fst then F.map Prod.fst else F.map Prod.fst++[x]
 | []=>rfl
 | p::F=>by
  unfold ptA
  by_cases h:p.1=x
  ·rw [if_pos h];simp [h]
  ·have:¬ x=p.1:=fun e=>h e.symm
   rw [if_neg h,List.map_cons,ua9,List.map_cons]
   by_cases e:x ∈ F.map Prod.fst
   ·rw [if_pos e,if_pos (List.mem_cons_of_mem _ e)]
   ·rw [if_neg e,if_neg (by rw [List.mem_cons];rintro (z | z);exact this z;exact e z)];rfl
theorem uh0:∀ {F:List (Nat × α)},(F.map Prod.fst).Nodup->(drA F x).map Prod.fst=(F.map Prod.fst).erase x
 | [],_=>rfl
 | p::F,hn=>by
  rw [List.map_cons,List.nodup_cons] at hn;have ih:=uh0 hn.2;unfold drA at ih ⊢;rw [List.filter_cons,List.map_cons]
  by_cases h:p.1=x
  ·rw [if_neg (by simp [h]),ih,h,List.erase_cons_head,List.erase_of_not_mem (by rw [<- h];exact hn.1)]
  ·rw [if_pos (by simp [h]),List.map_cons,ih,List.erase_cons_tail (by simpa using h)]
def vlD (f:α->D) (F:List (Nat × α)):List (Key × D):=F.map fun p=>(Sum.inl (p.1:Int),f p.2)
theorem u47 (f:α->D):∀ {F:List (Nat × α)},valK (vlD f F) (.inl (x:Int))=(gtA F x).map f
 | []=>rfl
 | p::F=>by
  have ih:=u47 f (F:=F);unfold valK vlD at ih ⊢;rw [List.map_cons,List.find?_cons];unfold gtA
  by_cases e:p.1=x
  ·rw [if_pos e,e];simp
  ·have e2:¬ (p.1:Int)=(x:Int):=fun z=>e (by omega)
   rw [if_neg e];simp only [Sum.inl.injEq,e2,decide_false];exact ih
theorem uq4 (f:α->D) (hn:(F.map Prod.fst).Nodup):uj3 (vlD f F) (.inl (x:Int)) (f v)=vlD f (ptA F x v):=by
 unfold uj3
 by_cases h:x ∈ F.map Prod.fst
 ·rw [if_pos]
  ·induction F with
   | nil=>cases h
   | cons p F ih =>
    unfold vlD ptA;rw [List.map_cons,List.map_cons] at *;rw [List.nodup_cons] at hn
    by_cases e:p.1=x
    ·rw [if_pos e,List.map_cons,e]
     simp only [decide_true,if_true]
     congr 1
     rw [List.map_map];refine List.map_congr_left fun q hq=>?_
     have:¬ (q.1:Int)=(x:Int):=fun z=>hn.1 (by
      rw [e,<- show q.1=x by omega];exact List.mem_map_of_mem hq)
     simp [this]
    ·rw [if_neg e,List.map_cons]
     have e2:¬ (p.1:Int)=(x:Int):=fun z=>e (by omega)
     have:=ih hn.2 (by rcases List.mem_cons.mp h with z | z;exact absurd z.symm e;exact z);unfold vlD at this;rw [this];simp [e2]
  ·obtain ⟨q,hq,e⟩:=List.mem_map.mp h
   rw [List.any_eq_true];exact ⟨_,List.mem_map_of_mem (f:=fun p:Nat × α=>((Sum.inl (p.1:Int),f p.2):Key × D)) hq,by simp [e]⟩
 ·have ha:((vlD f F).any fun kv=>decide (kv.1=Sum.inl (x:Int)))=false:=by
   rw [List.any_eq_false];intro kv hk hd;obtain ⟨q,hq,rfl⟩:=List.mem_map.mp hk;have e:(Sum.inl (q.1:Int):Key)=Sum.inl (x:Int):=of_decide_eq_true hd;injection e with e
   exact h (by rw [<- show q.1=x by omega];exact List.mem_map_of_mem hq)
  rw [if_neg (by rw [ha];exact Bool.false_ne_true)];have:ptA F x v=F++[(x,v)]:=by
   clear ha hn
   induction F with
   | nil=>rfl
   | cons p F ih =>
    unfold ptA;rw [if_neg (fun e=>h (by rw [List.map_cons,e];exact List.mem_cons_self)),ih (fun e=>h (by rw [List.map_cons];exact List.mem_cons_of_mem _ e))];rfl
  rw [this];unfold vlD;rw [List.map_append];rfl
theorem vn5 (f:α->D):ud4 (vlD f F) (.inl (x:Int))=vlD f (drA F x):=by
 unfold ud4 vlD drA;rw [List.filter_map]
 congr 1
 refine List.filter_congr fun p _=>?_
 show (!decide (Sum.inl (p.1:Int)=Sum.inl (x:Int)))=_
 by_cases e:p.1=x
 ·simp [e]
 ·have:¬ (p.1:Int)=(x:Int):=by omega
  simp [e,this]
theorem ue3 (f:α->D):(vlD f F).map (·.1)=(F.map fun p=>(p.1:Int)).map Sum.inl:=by
 unfold vlD;rw [List.map_map,List.map_map];rfl
end
abbrev Etr:=Int × Option Mv
def oM:Option Mv->D
 | none=>.non
 | some p=>mD p
def enF (e:Etr):D:=.tup [.int e.1,oM e.2]
def cst (A:List (Nat × Etr)):List (Nat × Int):=A.map fun p=>(p.1,p.2.1)
theorem u86 {A:List (Nat × Etr)}:(cst A).map Prod.fst=A.map Prod.fst:=by unfold cst;rw [List.map_map];rfl
theorem u37 {x:Nat}:∀ {A:List (Nat × Etr)},gtF (cst A) x=(gtA A x).map Prod.fst
 | []=>rfl
 | p::A=>by
  show (if p.1=x then some p.2.1 else gtF (cst A) x)=(if p.1=x then some p.2 else gtA A x).map _
  by_cases h:p.1=x
  ·rw [if_pos h,if_pos h];rfl
  ·rw [if_neg h,if_neg h,u37]
section
variable {n s:Nat} {c:Nat->Int} {t:Int} {U:Nat->Nat->Prop}
theorem Dj.congr {F F':List (Nat × Int)} {L L':List Nat} (h:Dj n s c F L t U) (hg:∀ x,gtF F' x=gtF F x) (hn:(F'.map Prod.fst).Nodup) (hl:∀ x,x ∈ L' ↔ x ∈ L) (hln:L'.Nodup):Dj n s c F' L' t U where
 z:=by rw [hg];exact h.z
 nd:=hn
 way:=fun e=>h.way (by rw [<- hg];exact e)
 lk:=fun hx=>by rw [hg];exact h.lk ((hl _).mp hx)
 ln:=hln
 cl:=fun a b d e=>by rw [hg];exact h.cl (by rw [<- hg];exact a) (fun z=>b ((hl _).mpr z)) d e
 lo:=fun a b=>h.lo (by rw [<- hg];exact a) fun z=>b ((hl _).mpr z)
 hi:=fun a b=>h.hi (by rw [<- hg];exact a) ((hl _).mp b)
structure Dq (n s:Nat) (c:Nat->Int) (A B:List (Nat × Etr)) (t:Int) (U:Nat->Nat->Prop):Prop where
 d:Dj n s c (cst (A++B)) (B.map Prod.fst) t U
 pm:∀ x e,gtA (A++B) x=some e->(x=0 /\ e=(0,none)) \/ ∃ p y u,e.2=some p /\ x=xr y p.2 /\ lgl n s y p /\ gtA A y=some u /\ e.1=u.1+c (p.2 - 1)
variable {A B:List (Nat × Etr)} {x:Nat} {e:Etr}
theorem Dq.start:Dq n s c [] [(0,(0,none))] 0 (fun _ _=>False) where
 d:=Dj.start
 pm:=fun x e h=>by
  by_cases z:(0:Nat)=x
  ·subst z
   have h:some ((0:Int),(none:Option Mv))=some e:=h;cases h;exact .inl ⟨rfl,rfl⟩
  ·have h:(if (0:Nat)=x then some ((0:Int),(none:Option Mv)) else none)=some e:=h
   rw [if_neg z] at h;cases h
theorem Dq.nd (h:Dq n s c A B t U):(A.map Prod.fst).Nodup /\ (B.map Prod.fst).Nodup /\ ∀ x,gtA A x ≠ none->gtA B x=none:=by
 have h1:=h.d.nd;rw [u86,List.map_append,List.nodup_append] at h1;refine ⟨h1.1,h1.2.1,fun x hx=>ga_no.mpr fun z=>?_⟩;cases e:gtA A x with
 | none=>exact hx e
 | some v=>exact h1.2.2 x (ga_mem.mpr ⟨v,e⟩) x z rfl
theorem Dq.few (h:Dq n s c A B t U):A.length+B.length<=2 ^ n:=by
 have:=h.d.few.1;unfold cst at this
 rwa [List.length_map,List.length_append] at this
theorem Dq.lt (h:Dq n s c A B t U) (hx:gtA (A++B) x=some e):x < 2 ^ n:=by
 obtain ⟨w,w1,w2,_⟩:=h.d.way (m:=x) (v:=e.1) (by rw [u37,hx];rfl);rw [<- w2];exact v31 w1
theorem Dq.cnt (h:Dq n s c A B t U) (hx:gtA (A++B) x=some e):L3.cnt n x<=s:=h.d.cnt (v:=e.1) (by rw [u37,hx];rfl)
theorem Dq.weak {U':Nat->Nat->Prop} (h:Dq n s c A B t U) (hU:∀ y k,U y k->U' y k):Dq n s c A B t U':=⟨h.d.weak hU,h.pm⟩
theorem vt0 {o:Option Etr} (h:gtA A x=some e):(gtA A x).or o=some e:=by rw [h];rfl
theorem Dq.pop (h:Dq n s c A B t fun _ _=>False) (hx:gtA B x=some e) (hm:∀ y u,gtA B y=some u->e.1<=u.1):Dq n s c (A++[(x,e)]) (drA B x) e.1 (fun y _=>y=x):=by
 obtain ⟨n1,n2,n3⟩:=h.nd;have hA:gtA A x=none:=by
  cases z:gtA A x with
  | none=>rfl
  | some v=>rw [n3 x (by rw [z];simp)] at hx;cases hx
 have hg:∀ y,gtA (A++[(x,e)]++drA B x) y=gtA (A++B) y:=fun y=>by
  rw [u40,u40,u40,we2]
  show ((gtA A y).or (if x=y then some e else none)).or _=_
  by_cases z:x=y
  ·subst z
   rw [hA,if_pos rfl,hx];rfl
  ·rw [if_neg z,if_neg z];simp
 have hd:=h.d.pop (x:=x) (v:=e.1) (ga_mem.mpr ⟨e,hx⟩) (by rw [u37,u40,hA,hx];rfl) fun y hy u hu=>by
  obtain ⟨v,hv⟩:=ga_mem.mp hy;have:gtA A y=none:=by
   cases z:gtA A y with
   | none=>rfl
   | some w=>rw [n3 y (by rw [z];simp)] at hv;cases hv
  rw [u37,u40,this,hv] at hu;injection hu with hu
  rw [<- hu];exact hm y v hv
 refine ⟨hd.congr (fun y=>by rw [u37,u37,hg]) ?_ (fun y=>by rw [uh0 n2]) (by rw [uh0 n2];exact n2.erase x),fun y u hy=>?_⟩
 ·rw [u86,List.map_append,List.map_append,uh0 n2]
  have h1:=h.d.nd;rw [u86,List.map_append] at h1;have hp:(A.map Prod.fst++[x]++(B.map Prod.fst).erase x).Perm (A.map Prod.fst++B.map Prod.fst):=by
   rw [List.append_assoc];exact (List.perm_cons_erase (ga_mem.mpr ⟨e,hx⟩)).symm.append_left _
  exact hp.nodup_iff.mpr h1
 ·rw [hg] at hy
  rcases h.pm y u hy with z | ⟨p,y',u',h1,h2,h3,h4,h5⟩
  ·exact .inl z
  ·exact .inr ⟨p,y',u',h1,h2,h3,by rw [u40];exact vt0 h4,h5⟩
theorem Dq.old {p:Mv} {o:Etr} (h:Dq n s c A B e.1 U) (hx:gtA A x=some e) (hp:lgl n s x p) (hc:0<=c (p.2 - 1)) (ho:gtA (A++B) (xr x p.2)=some o) (hle:o.1<=e.1+c (p.2 - 1)):Dq n s c A B e.1 (fun y k=>U y k /\ ¬ (y=x /\ k=p.2)):=by
 obtain ⟨n1,n2,n3⟩:=h.nd;have hb:=n3 x (by rw [hx];simp);have hd:=h.d.old (x:=x) (p:=p) (o:=o.1) (by rw [u37,u40,hx];rfl) (ga_no.mp hb) hp hc (by rw [u37,ho];rfl);refine ⟨hd.congr (fun y=>?_) h.d.nd (fun _=>Iff.rfl) h.d.ln,h.pm⟩;rw [ub9]
 by_cases z:xr x p.2=y
 ·rw [if_pos z,<- z,u37,ho,show min o.1 (e.1+c (p.2 - 1))=o.1 by omega];rfl
 ·rw [if_neg z]
theorem Dq.put {p:Mv} (h:Dq n s c A B e.1 U) (hx:gtA A x=some e) (hp:lgl n s x p) (hc:0<=c (p.2 - 1)) (hA:gtA A (xr x p.2)=none) (hlt:∀ o,gtA B (xr x p.2)=some o->e.1+c (p.2 - 1) < o.1):Dq n s c A (ptA B (xr x p.2) (e.1+c (p.2 - 1),some p)) e.1 (fun y k=>U y k /\ ¬ (y=x /\ k=p.2)):=by
 obtain ⟨n1,n2,n3⟩:=h.nd;have hb:=n3 x (by rw [hx];simp);have h1:gtF (cst (A++B)) x=some e.1:=by rw [u37,u40,hx];rfl
 have hg:∀ y,gtA (A++ptA B (xr x p.2) (e.1+c (p.2 - 1),some p)) y=if xr x p.2=y then some (e.1+c (p.2 - 1),some p) else gtA (A++B) y:=fun y=>by
  rw [u40,u40,vw6]
  by_cases z:xr x p.2=y
  ·rw [if_pos z,if_pos z,<- z,hA];rfl
  ·rw [if_neg z,if_neg z]
 have nd':((cst (A++ptA B (xr x p.2) (e.1+c (p.2 - 1),some p))).map Prod.fst).Nodup:=by
  rw [u86,List.map_append,ua9];have q:=h.d.nd;rw [u86,List.map_append] at q
  by_cases z:xr x p.2 ∈ B.map Prod.fst
  ·rw [if_pos z];exact q
  ·rw [if_neg z,<- List.append_assoc,List.nodup_append]
   refine ⟨q,by simp,fun a ha b hb' e'=>?_⟩;rw [List.mem_singleton.mp hb'] at e';rw [e'] at ha
   rcases List.mem_append.mp ha with w | w
   ·exact ga_no.mp hA w
   ·exact z w
 have hpm:∀ y u,gtA (A++ptA B (xr x p.2) (e.1+c (p.2 - 1),some p)) y=some u->(y=0 /\ u=(0,none)) \/ ∃ p y' u',u.2=some p /\ y=xr y' p.2 /\ lgl n s y' p /\ gtA A y'=some u' /\ u.1=u'.1+c (p.2 - 1):=fun y u hy=>by
  rw [hg] at hy
  by_cases z:xr x p.2=y
  ·rw [if_pos z] at hy;cases hy
   exact .inr ⟨p,x,e,rfl,z.symm,hp,hx,rfl⟩
  ·rw [if_neg z] at hy
   exact h.pm y u hy
 cases hB:gtA B (xr x p.2) with
 | none =>
  have ho:gtF (cst (A++B)) (xr x p.2)=none:=by rw [u37,u40,hA,hB];rfl
  have hd:=h.d.new (x:=x) (p:=p) h1 (ga_no.mp hb) hp hc ho;have hk:(ptA B (xr x p.2) (e.1+c (p.2 - 1),some p)).map Prod.fst=B.map Prod.fst++[xr x p.2]:=by rw [ua9,if_neg (ga_no.mp hB)]
  refine ⟨hd.congr (fun y=>?_) nd' (fun y=>by rw [hk]) (by rw [hk];exact hd.ln),hpm⟩;rw [ub9,u37,hg,u37]
  by_cases z:xr x p.2=y
  ·rw [if_pos z,if_pos z];rfl
  ·rw [if_neg z,if_neg z]
 | some o =>
  have ho:gtF (cst (A++B)) (xr x p.2)=some o.1:=by rw [u37,u40,hA,hB];rfl
  have hd:=h.d.old (x:=x) (p:=p) h1 (ga_no.mp hb) hp hc ho;have hk:(ptA B (xr x p.2) (e.1+c (p.2 - 1),some p)).map Prod.fst=B.map Prod.fst:=by rw [ua9,if_pos (ga_mem.mpr ⟨o,hB⟩)]
  have:=hlt o hB;refine ⟨hd.congr (fun y=>?_) nd' (fun y=>by rw [hk]) (by rw [hk];exact hd.ln),hpm⟩;rw [ub9,u37,hg,u37,show min o.1 (e.1+c (p.2 - 1))=e.1+c (p.2 - 1) by omega]
  by_cases z:xr x p.2=y
  ·rw [if_pos z,if_pos z];rfl
  ·rw [if_neg z,if_neg z]
theorem Dq.all {ps:List Mv} (h:Dq n s c A B t (fun y k=>y=x /\ ¬ ∃ p,p ∈ ps /\ k=p.2)) (hp:∀ p,lgl n s x p->p ∈ ps):Dq n s c A B t (fun _ _=>False) :=
 ⟨{ h.d with cl:=fun {y u p} a b d _=>h.d.cl a b d fun ⟨e1,e2⟩=>e2 ⟨p,hp p (by rw [<- e1];exact d),rfl⟩ },h.pm⟩
theorem Dq.least (h:Dq n s c A [] t (fun _ _=>False)) {w:List Mv} (hw:lgw n s 0 w):∃ e,gtA A (fin 0 w)=some e /\ e.1<=wk c w:=by
 obtain ⟨u,h1,h2⟩:=h.d.done (fun _ _ z=>z) hw;rw [u37,List.append_nil] at h1;obtain ⟨e,h3,h4⟩:=Option.map_eq_some_iff.mp h1;exact ⟨e,h3,by rw [h4];exact h2⟩
theorem Dq.way (h:Dq n s c A [] t U) (hx:gtA A x=some e):∃ w,lgw n s 0 w /\ fin 0 w=x /\ wk c w=e.1:=h.d.way (by rw [u37,List.append_nil,hx];rfl)
end
def Nrst (n s:Nat) (c:Nat->Int) (x:Nat) (v:Int):Prop:=(∃ w,lgw n s 0 w /\ fin 0 w=x /\ wk c w=v) /\ ∀ w,lgw n s 0 w->fin 0 w=x->v<=wk c w
theorem Nrst.one {n s x:Nat} {c:Nat->Int} {u v:Int} (h:Nrst n s c x u) (h':Nrst n s c x v):u=v:=by
 obtain ⟨⟨w,w1,w2,w3⟩,h2⟩:=h;obtain ⟨⟨z,z1,z2,z3⟩,h4⟩:=h';have a:=h2 z z1 z2;have b:=h4 w w1 w2;omega
theorem Nrst.rs {n s x:Nat} {c:Nat->Int} {u:Int} (h:Nrst n s c x u):RS n s x:=let ⟨w,w1,w2,_⟩:=h.1;⟨w,w1,w2⟩
section
variable {n s x:Nat} {c:Nat->Int} {t:Int} {A:List (Nat × Etr)} {e:Etr}
theorem Dq.lst (h:Dq n s c A [] t (fun _ _=>False)) (hx:gtA A x=some e):Nrst n s c x e.1:=⟨h.way hx,fun w w1 w2=>by
 obtain ⟨e',h1,h2⟩:=h.least w1;rw [w2,hx] at h1;cases h1;exact h2⟩
theorem Dq.has (h:Dq n s c A [] t (fun _ _=>False)) (hx:RS n s x):∃ e,gtA A x=some e:=by
 obtain ⟨w,w1,rfl⟩:=hx;obtain ⟨e,h1,_⟩:=h.least w1;exact ⟨e,h1⟩
theorem Dq.iff (h:Dq n s c A [] t (fun _ _=>False)) {v:Int}:(gtA A x).map Prod.fst=some v ↔ Nrst n s c x v:=by
 constructor
 ·intro z
  obtain ⟨e,h1,rfl⟩:=Option.map_eq_some_iff.mp z;exact h.lst h1
 ·intro z
  obtain ⟨e,h1⟩:=h.has z.rs;rw [h1,Option.map_some,(h.lst h1).one z]
end
theorem uf2 {n s x:Nat} {c:Nat->Int} (hc:∀ i,0<=c i) (h:RS n s x):∃ v,Nrst n s c x v:=by
 classical
 have key:∀ k:Nat,(∃ w,lgw n s 0 w /\ fin 0 w=x /\ wk c w=(k:Int))->∃ v,Nrst n s c x v:=by
  intro k
  induction k using Nat.strongRecOn with
  | ind k ih =>
   intro hk
   by_cases e:∃ w,lgw n s 0 w /\ fin 0 w=x /\ wk c w < (k:Int)
   ·obtain ⟨w,w1,w2,w3⟩:=e
    have h0:0<=wk c w:=ui6 hc;exact ih (wk c w).toNat (by omega) ⟨w,w1,w2,by omega⟩
   ·refine ⟨k,hk,fun w w1 w2=>?_⟩
    have:¬ wk c w < (k:Int):=fun z=>e ⟨w,w1,w2,z⟩
    omega
 obtain ⟨w,w1,w2⟩:=h;have h0:0<=wk c w:=ui6 hc;exact key (wk c w).toNat ⟨w,w1,w2,by omega⟩
theorem vw5 {f:DSt->Gp->Prop} {σ:DSt} {G:Gp} (h:f σ G):Go f σ G:=h
theorem vw8 {α:Type} {x:Nat} {e:α}:∀ {A:List (Nat × α)},gtA A x=some e->(x,e) ∈ A
 | p::A,h=>by
  unfold gtA at h
  by_cases z:p.1=x
  ·rw [if_pos z] at h;cases h
   rw [<- z];exact List.mem_cons_self
  ·rw [if_neg z] at h
   exact List.mem_cons_of_mem _ (vw8 h)
def mvl (m c s:Nat):Nat->List Mv
 | 0=>[]
 | n+1=>mvl m c s n++(if mvB m c s (n+1) then [(!stn (n+1) m,n+1)] else [])
theorem v08 {m c s:Nat}:∀ n,(mvs m c s n).map pD=(mvl m c s n).map mD
 | 0=>rfl
 | n+1=>by
  rw [mvs,mvl,List.map_append,List.map_append,v08 n]
  congr 1
  split
  ·show [pD (mvP m (n+1))]=[pD _]
   unfold mvP mP;cases stn (n+1) m <;> rfl
  ·rfl
theorem v12 {m c s:Nat} {p:Mv}:∀ n,p ∈ mvl m c s n ↔ (1<=p.2 /\ p.2<=n) /\ mvB m c s p.2=true /\ p.1=!stn p.2 m
 | 0=>by
  constructor
  ·intro h;cases h
  ·rintro ⟨⟨h1,h2⟩,_⟩;omega
 | n+1=>by
  rw [mvl,List.mem_append,v12 n]
  constructor
  ·rintro (⟨⟨h1,h2⟩,h3⟩ | h)
   ·exact ⟨⟨h1,by omega⟩,h3⟩
   ·split at h
    ·rename_i hb
     rw [List.mem_singleton.mp h];exact ⟨⟨by simp,Nat.le_refl _⟩,hb,rfl⟩
    ·cases h
  ·rintro ⟨⟨h1,h2⟩,h3,h4⟩
   by_cases e:p.2=n+1
   ·right
    rw [<- e,if_pos h3,List.mem_singleton];exact Prod.ext h4 rfl
   ·exact .inl ⟨⟨h1,by omega⟩,h3,h4⟩
theorem vt4 {m s n:Nat} {p:Mv}:p ∈ mvl m (pc n m) s n ↔ lgl n s m p:=by
 rw [v12];unfold lgl mvB
 by_cases h:1<=p.2 /\ p.2<=n
 ·have e1:stn (p.2 - 1) m=true ↔ (p.2=1 \/ m.testBit (p.2 - 2)=true):=by
   unfold stn;rw [show p.2 - 1 - 1=p.2 - 2 by omega];have:p.2 - 1=0 ↔ p.2=1:=by omega
   simp [this]
  have e2:stn p.2 m=stb p.2 m:=by
   unfold stn stb;have:(p.2 == 0)=false:=by rw [beq_eq_false_iff_ne];omega
   rw [this];simp
  rw [Bool.and_eq_true,e1,e2,w64];cases hs:stb p.2 m <;> simp [h]
  ·constructor
   ·rintro ⟨⟨a,b⟩,d⟩;exact ⟨a,d,fun _=>b⟩
   ·rintro ⟨a,d,b⟩;exact ⟨⟨a,b d⟩,d⟩
  ·intro a d z;rw [d] at z;cases z
 ·simp [h]
end L3
namespace L3
open PySem PySem.Spec PyProof.Rows L2
section
variable {n s x:Nat} {c:Nat->Int} {v:Int} {W:List (Nat × Int)}
theorem wf4 (h:RS n s x):cnt n x<=s:=by
 obtain ⟨w,w1,rfl⟩:=h;exact uf9 (m:=0) (by rw [u34];exact Nat.zero_le _) w1
theorem us8 {p:Mv} (hx:RS n s x) (h:lgl n s x p):lgl n s (xr x p.2) (!p.1,p.2):=(ug0 (w:=[p]) (wf4 hx) ⟨h,trivial⟩).1.1
theorem uq3 {p:Mv}:wk c [p]=c (p.2 - 1):=by simp [wk]
theorem v07 {p:Mv} (hc:∀ i,0<=c i) (h:Nrst n s c x v) (hp:lgl n s x p):∃ u,Nrst n s c (xr x p.2) u /\ u<=v+c (p.2 - 1) /\ v<=u+c (p.2 - 1):=by
 obtain ⟨⟨w,w1,w2,w3⟩,hm⟩:=h;have r2:lgw n s 0 (w++[p]):=lgw_app.mpr ⟨w1,by rw [w2];exact ⟨hp,trivial⟩⟩;have f2:fin 0 (w++[p])=xr x p.2:=by rw [u24,w2];rfl
 obtain ⟨u,hu⟩:=uf2 hc ⟨_,r2,f2⟩;refine ⟨u,hu,?_,?_⟩
 ·have:=hu.2 _ r2 f2
  rw [u45,w3,uq3] at this;exact this
 ·obtain ⟨⟨z,z1,z2,z3⟩,_⟩:=hu
  have b:=us8 ⟨w,w1,w2⟩ hp;have:=hm (z++[(!p.1,p.2)]) (lgw_app.mpr ⟨z1,by rw [z2];exact ⟨b,trivial⟩⟩) (by rw [u24,z2];exact vm2);rw [u45,z3,uq3] at this;exact this
theorem vt3 (hc:∀ i,0<=c i) (h:Nrst n s c x v) (hx:x ≠ 0):∃ (p:Mv) (u:Int),lgl n s x p /\ Nrst n s c (xr x p.2) u /\ u+c (p.2 - 1)=v:=by
 obtain ⟨⟨w,w1,w2,w3⟩,hm⟩:=h
 rcases List.eq_nil_or_concat w with rfl | ⟨l,p,rfl⟩
 ·exact absurd w2.symm hx
 ·rw [List.concat_eq_append] at w1 w2 w3
  obtain ⟨l1,l2,_⟩:=lgw_app.mp w1;have ex:xr (fin 0 l) p.2=x:=by rw [<- w2,u24];rfl
  have hb:=us8 ⟨l,l1,rfl⟩ l2;rw [ex] at hb;have ey:xr x p.2=fin 0 l:=by rw [<- ex];exact vm2
  obtain ⟨u,hu⟩:=uf2 hc (show RS n s (fin 0 l) from ⟨l,l1,rfl⟩);refine ⟨_,u,hb,by show Nrst n s c (xr x p.2) u;rw [ey];exact hu,?_⟩;have a1:=hu.2 l l1 rfl;obtain ⟨⟨z,z1,z2,z3⟩,_⟩:=hu;have a2:=hm (z++[p]) (lgw_app.mpr ⟨z1,by rw [z2];exact ⟨l2,trivial⟩⟩) (by rw [u24,z2];exact ex);rw [u45,uq3] at a2 w3
  show u+c (p.2 - 1)=v
  omega
theorem v06 (hc:∀ i,0<=c i):Nrst n s c 0 0:=⟨⟨[],trivial,rfl,rfl⟩,fun w _ _=>ui6 hc⟩
theorem uo5:∀ {W:List (Nat × Int)},gtF W x=gtA W x
 | []=>rfl
 | p::W=>by
  show (if p.1=x then some p.2 else gtF W x)=if p.1=x then some p.2 else gtA W x
  rw [uo5 (W:=W)]
theorem vh5:∀ (W:List (Nat × Int)),∃ t:Int,∀ p ∈ W,p.2<=t
 | []=>⟨0,fun p hp=>by cases hp⟩
 | q::W=>by
  obtain ⟨t,ht⟩:=vh5 W;refine ⟨max q.2 t,fun p hp=>?_⟩
  rcases List.mem_cons.mp hp with rfl | hp
  ·omega
  ·have:=ht p hp;omega
theorem wl0 (hc:∀ i,0<=c i) (hn:(W.map Prod.fst).Nodup) (hW:∀ x v,gtA W x=some v ↔ Nrst n s c x v):∃ t,Dj n s c W [] t (fun _ _=>False):=by
 obtain ⟨t,ht⟩:=vh5 W;refine ⟨t,⟨0,by rw [uo5];exact (hW 0 0).mpr (v06 hc),Int.le_refl _⟩,hn,fun h=>?_,fun h=>by (cases h),.nil,fun h _ hp _=>?_,fun h _=>?_,fun _ h=>by (cases h)⟩
 ·rw [uo5] at h
  exact ((hW _ _).mp h).1
 ·rw [uo5] at h
  obtain ⟨u,h1,h2,_⟩:=v07 hc ((hW _ _).mp h) hp;exact ⟨u,by rw [uo5];exact (hW _ _).mpr h1,h2⟩
 ·rw [uo5] at h
  exact ht _ (vw8 h)
end
end L3
namespace Law
open PySem L2 L3
def top (i:Nat):Stmt:=PySem.Challenge.pw_nolitter_k43_whole_no_way_is_nearer.main.body.getD i (.Pass ⟨0,0,0,0⟩)
abbrev vo8:Stmt:=top 1
abbrev vo3:Stmt:=top 2
abbrev vo2:Stmt:=top 3
abbrev vo9:Stmt:=top 4
abbrev vq0:Stmt:=top 5
abbrev uz0:Stmt:=top 7
abbrev vo7:Stmt:=top 8
abbrev vp8:Stmt:=top 9
abbrev vp7:Stmt:=top 11
abbrev vp9:Stmt:=top 12
abbrev vo0:Stmt:=top 13
abbrev vq4:Stmt:=top 15
abbrev vo5:Stmt:=top 16
abbrev vo6:Stmt:=top 17
abbrev vq2:Stmt:=top 18
abbrev vo1:Stmt:=top 19
abbrev vq1:Stmt:=top 20
abbrev v88:Stmt:=top 21
abbrev vq3:Stmt:=top 22
abbrev vo4:Stmt:=top 23
abbrev v87:Stmt:=top 24
abbrev vp2:Stmt:=top 26
abbrev vp4:Stmt:=top 27
abbrev v89:Stmt:=top 28
abbrev vp1:Stmt:=top 29
abbrev vp5:Stmt:=top 30
abbrev vp3:Stmt:=top 31
abbrev vp6:Stmt:=top 32
abbrev vp0:Stmt:=top 33
abbrev v90:Stmt:=top 34
abbrev uu9:Stmt:=top 35
local macro_rules | `(tactic| ac_nf)=>`(tactic| exact ⟨rfl,rfl,rfl,by decide,rfl,by decide,by decide⟩)
theorem sc_jau:FnScope ["move", "marks", "n", "s", "k"] ["move", "marks", "n", "s"] (u04 vo8):=by ac_nf
theorem vi5:FnScope ["k"] ["k"] (u04 vo3):=by ac_nf
theorem vi4:FnScope ["k", "marks"] ["k", "marks"] (u04 vo2):=by ac_nf
theorem sc_jat:FnScope ["marks", "many"] ["marks"] (u04 vo9):=by ac_nf
theorem vj2:FnScope ["move", "marks"] ["move", "marks"] (u04 vq0):=by ac_nf
theorem sc_jaw:FnScope ["marks", "n", "s", "moves"] ["marks", "n", "s"] (u04 uz0):=by ac_nf
theorem vi8:FnScope ["k", "marks"] ["k", "marks"] (u04 vo7):=by ac_nf
theorem sc_jag:FnScope ["n", "s", "found", "ahead", "marks", "move", "other"] ["n", "s"] (u04 vp8):=by ac_nf
theorem sc_jah:FnScope ["costs", "s", "found", "told", "marks"] ["costs", "s"] (u04 vp7):=by ac_nf
theorem sc_jaf:FnScope ["costs", "s", "found", "seen", "marks", "move", "other"] ["costs", "s"] (u04 vp9):=by ac_nf
theorem vi2:FnScope ["marks", "offer", "seen"] ["marks", "offer", "seen"] (u04 vo0):=by ac_nf
theorem vj5:FnScope ["costs", "s"] ["costs", "s"] (u04 vq4):=by ac_nf
theorem vi6:FnScope ["costs", "s"] ["costs", "s"] (u04 vo5):=by ac_nf
theorem vi7:FnScope ["s"] ["s"] (u04 vo6):=by ac_nf
theorem vj3:FnScope ["s"] ["s"] (u04 vq2):=by ac_nf
theorem vi3:FnScope ["table", "key"] ["table", "key"] (u04 vo1):=by ac_nf
theorem sc_jad:FnScope ["costs", "s", "table", "places", "many", "begin"] ["costs", "s"] (u04 vq1):=by ac_nf
theorem sc_jar:FnScope ["costs", "places", "begin", "end", "table", "most", "middles"] ["costs", "places", "begin", "end", "table"] (u04 v88):=by ac_nf
theorem vj4:FnScope ["places", "begin", "middle", "end", "table"] ["places", "begin", "middle", "end", "table"] (u04 vq3):=by ac_nf
theorem sc_jaz:FnScope ["costs", "s", "alones", "table", "places", "many", "begin"] ["costs", "s", "alones"] (u04 vo4):=by ac_nf
theorem sc_jas:FnScope ["costs", "places", "begin", "alones", "table", "end", "middles"] ["costs", "places", "begin", "alones", "table"] (u04 v87):=by ac_nf
theorem vj0:FnScope ["_law_script"] ["_law_script"] (u04 vp2):=by ac_nf
theorem sc_jak:FnScope ["_law_source_here", "_law_many", "_law_digit", "_law_cell", "_law_one", "_law_other"] ["_law_source_here", "_law_many"] (u04 vp4):=by ac_nf
theorem sc_jam:FnScope ["_law_marks", "_law_n", "_law_s", "_law_many", "_law_found", "_law_k"] ["_law_marks", "_law_n", "_law_s"] (u04 v89):=by ac_nf
theorem sc_jap:FnScope ["_law_source_here", "_law_n", "_law_s", "_law_most", "_law_marks", "_law_way_here", "_law_k", "_law_some"] ["_law_source_here", "_law_n", "_law_s", "_law_most"] (u04 vp1):=by ac_nf
theorem sc_jaj:FnScope ["_law_source_here", "_law_n", "_law_found", "_law_k", "_law_cost"] ["_law_source_here", "_law_n"] (u04 vp5):=by ac_nf
theorem sc_jan:FnScope ["_law_source_here", "_law_n"] ["_law_source_here"] (u04 vp3):=by ac_nf
theorem sc_jai:FnScope ["_law_works", "_law_prices", "_law_s", "_law_marks", "_law_near", "_law_word", "_law_k", "_law_other"] ["_law_works", "_law_prices", "_law_s", "_law_marks"] (u04 vp6):=by ac_nf
theorem vi9:FnScope ["_law_thing"] ["_law_thing"] (u04 vp0):=by ac_nf
theorem vj1:FnScope ["_law_works", "_law_some"] ["_law_works", "_law_some"] (u04 v90):=by ac_nf
theorem sc_law:FnScope ["_law_script", "_law_source_here", "_law_n", "_law_s", "_law_prices", "_law_way_here", "_law_handed", "_law_works", "_law_marks", "_law_spent", "_law_word", "_law_k", "_law_have", "_law_due", "_law_told"] ["_law_script"] (u04 uu9):=by ac_nf
set_option genInjectivity false in
set_option genSizeOf false in
structure Txt (K:W.Frag) (mg:Str->Option Value) where
 f_jau:FnAt K "may_do" "may_do" vo8 ["move", "marks", "n", "s"]
 g_may_do:mg "may_do" = some (.ref f_jau.a)
 f_jba:FnAt K "set_of" "set_of" vo3 ["k"]
 g_set_of:mg "set_of" = some (.ref f_jba.a)
 f_jbb:FnAt K "stands" "stands" vo2 ["k", "marks"]
 g_stands:mg "stands" = some (.ref f_jbb.a)
 f_jat:FnAt K "many_in" "many_in" vo9 ["marks"]
 g_many_in:mg "many_in" = some (.ref f_jat.a)
 f_jae:FnAt K "behind" "behind" vq0 ["move", "marks"]
 g_behind:mg "behind" = some (.ref f_jae.a)
 f_jaw:FnAt K "moves_from" "moves_from" uz0 ["marks", "n", "s"]
 g_moves_from:mg "moves_from" = some (.ref f_jaw.a)
 f_jav:FnAt K "move_on" "move_on" vo7 ["k", "marks"]
 g_move_on:mg "move_on" = some (.ref f_jav.a)
 f_jag:FnAt K "come_to" "come_to" vp8 ["n", "s"]
 g_come_to:mg "come_to" = some (.ref f_jag.a)
 f_jah:FnAt K "distances" "distances" vp7 ["costs", "s"]
 g_distances:mg "distances" = some (.ref f_jah.a)
 f_jaf:FnAt K "cheapest" "cheapest" vp9 ["costs", "s"]
 g_cheapest:mg "cheapest" = some (.ref f_jaf.a)
 f_see:FnAt K "see" "see" vo0 ["marks", "offer", "seen"]
 g_see:mg "see" = some (.ref f_see.a)
 f_jaa:FnAt K "alone" "alone" vq4 ["costs", "s"]
 g_alone:mg "alone" = some (.ref f_jaa.a)
 f_jay:FnAt K "reached" "reached" vo5 ["costs", "s"]
 g_reached:mg "reached" = some (.ref f_jay.a)
 f_jax:FnAt K "reach" "reach" vo6 ["s"]
 g_reach:mg "reach" = some (.ref f_jax.a)
 f_jac:FnAt K "alone_reach" "alone_reach" vq2 ["s"]
 g_alone_reach:mg "alone_reach" = some (.ref f_jac.a)
 f_jbc:FnAt K "work_at" "work_at" vo1 ["table", "key"]
 g_work_at:mg "work_at" = some (.ref f_jbc.a)
 f_jad:FnAt K "alone_table" "alone_table" vq1 ["costs", "s"]
 g_alone_table:mg "alone_table" = some (.ref f_jad.a)
 f_jar:FnAt K "least_alone" "least_alone" v88 ["costs", "places", "begin", "end", "table"]
 g_least_alone:mg "least_alone" = some (.ref f_jar.a)
 f_jab:FnAt K "alone_by" "alone_by" vq3 ["places", "begin", "middle", "end", "table"]
 g_alone_by:mg "alone_by" = some (.ref f_jab.a)
 f_jaz:FnAt K "reached_table" "reached_table" vo4 ["costs", "s", "alones"]
 g_reached_table:mg "reached_table" = some (.ref f_jaz.a)
 f_jas:FnAt K "least_reached" "least_reached" v87 ["costs", "places", "begin", "alones", "table"]
 g_least_reached:mg "least_reached" = some (.ref f_jas.a)
 f_jao:FnAt K "_law_source" "_law_source" vp2 ["_law_script"]
 g_law_source:mg "_law_source" = some (.ref f_jao.a)
 f_jak:FnAt K "_law_draw" "_law_draw" vp4 ["_law_source_here", "_law_many"]
 g_law_draw:mg "_law_draw" = some (.ref f_jak.a)
 f_jam:FnAt K "_law_moves" "_law_moves" v89 ["_law_marks", "_law_n", "_law_s"]
 g_law_moves:mg "_law_moves" = some (.ref f_jam.a)
 f_jap:FnAt K "_law_way" "_law_way" vp1 ["_law_source_here", "_law_n", "_law_s", "_law_most"]
 g_law_way:mg "_law_way" = some (.ref f_jap.a)
 f_jaj:FnAt K "_law_costs" "_law_costs" vp5 ["_law_source_here", "_law_n"]
 g_law_costs:mg "_law_costs" = some (.ref f_jaj.a)
 f_jan:FnAt K "_law_sizes" "_law_sizes" vp3 ["_law_source_here"]
 g_law_sizes:mg "_law_sizes" = some (.ref f_jan.a)
 f_jai:FnAt K "_law_apart" "_law_apart" vp6 ["_law_works", "_law_prices", "_law_s", "_law_marks"]
 g_law_apart:mg "_law_apart" = some (.ref f_jai.a)
 f_jaq:FnAt K "_law_whole" "_law_whole" vp0 ["_law_thing"]
 g_law_whole:mg "_law_whole" = some (.ref f_jaq.a)
 f_jal:FnAt K "_law_least" "_law_least" v90 ["_law_works", "_law_some"]
 g_law_least:mg "_law_least" = some (.ref f_jal.a)
 f_law:FnAt K "law" "law" uu9 ["_law_script"]
 g_law:mg "law" = some (.ref f_law.a)
 b_abs:mg "abs" = none
 b_all:mg "all" = none
 b_bool:mg "bool" = none
 b_dict:mg "dict" = none
 b_int:mg "int" = none
 b_isinstance:mg "isinstance" = none
 b_len:mg "len" = none
 b_list:mg "list" = none
 b_max:mg "max" = none
 b_min:mg "min" = none
 b_range:mg "range" = none
 b_reversed:mg "reversed" = none
 b_sorted:mg "sorted" = none
 far_bm:mg "__builtins__" = some (.ref 4)
 far_cc:∃ c,W.codeHdIn K c 77=true /\ ∀ f,mg "cheapest" = some (.ref f)->u57 K f=some (.ref c)
end Law
namespace Law
open PySem L2 L3 Rw
section
variable {P:Program} {w:World} {K:W.Frag} {mg:Str->Option Value} {base:Heap} (T:Txt K mg)
def vz4 (_:Txt K mg):Sp3:=fun ds G R=>∃ (k:Nat),ds=[.int (k:Int)] /\ k<=1000 /\ (k=0->R (.int 0) G) /\ (∀ i,k=i+1->R (.int (1 * 2 ^ i)) G)
def vf2 (_:Txt K mg):Sp3:=fun ds G R=>∃ (k m:Nat),ds=[.int (k:Int),.int (m:Int)] /\ k<=1000 /\ R (.bl (stn k m)) G
def wg7 (_:Txt K mg):Sp3:=fun ds G R=>∃ (b m:Nat),ds=[.int (m:Int)] /\ m < 2 ^ b /\ R (.int (pc b m:Int)) G
def wg6 (_:Txt K mg):Sp3:=fun ds G R=>∃ (k m n s:Nat),ds=[pD (mvP m k),.int (m:Int),.int (n:Int),.int (s:Int)] /\ 1<=k /\ k<=n /\ n<=1000 /\ m < 2 ^ n /\ R (.bl (mvB m (pc n m) s k)) G
def wg5 (_:Txt K mg):Sp3:=fun ds G R=>∃ (k m:Nat),ds=[.int (k:Int),.int (m:Int)] /\ k<=1000 /\ R (pD (mvP m k)) G
def vf4 (_:Txt K mg):Sp3:=fun ds G R=>∃ (m n s:Nat),ds=[.int (m:Int),.int (n:Int),.int (s:Int)] /\ m < 2 ^ n /\ n<=1000 /\ ∀ q G',G q=none->G' q=some (.lst ((mvs m (pc n m) s n).map pD))->Grow G G'->R (.ref q) G'
def wh0 (_:Txt K mg):Sp3:=fun ds G R=>∃ (a:Addr) (ns:List Int),ds=[.ref a] /\ G a=some (.fro (ns.map .int)) /\ ∀ q l G',Src G' q l->Grow G G'->R (.ref q) G'
def uw9 (_:Txt K mg):Sp3:=fun ds G R=>∃ (s a:Addr) (m:Int),ds=[.ref s,.int m] /\ Src G s a /\ 0 < m /\ m < 1073741824 /\ ∀ (v:Int) G',Ady s a G G'->0<=v->v < m->R (.int v) G'
def vf6 (_:Txt K mg):Sp3:=fun ds G R=>∃ (m n s:Nat),ds=[.int (m:Int),.int (n:Int),.int (s:Int)] /\ n<=900 /\ ∀ (q:Addr) (ps:List Mv) (G':Gp),G q=none->G' q=some (.lst (ps.map mD))->(∀ p,p ∈ ps ↔ lgl n s m p)->ps.length<=1000->Grow G G'->R (.ref q) G'
theorem u54 {G:Gp} {s a:Addr} {m:Int} {q:DK} (h:Src G s a) (h0:0 < m) (h1:m < 1073741824) (k:∀ (v:Int) (G':Gp),Ady s a G G'->0<=v->v < m->q (.int v) G'):∃ R,uw9 T [.ref s,.int m] G R /\ ∀ d G',R d G'->q d G' :=
 u21 (post:=fun d G'=>∃ v:Int,d=.int v /\ Ady s a G G' /\ 0<=v /\ v < m) (fun R h'=>⟨s,a,m,rfl,h,h0,h1,fun v G' x y z=>h' _ _ ⟨v,rfl,x,y,z⟩⟩) fun d G' ⟨v,e,x,y,z⟩=>by subst e;exact k v G' x y z
theorem v75 {G:Gp} {m n s:Nat} {q:DK} (hn:n<=900) (k:∀ (q':Addr) (ps:List Mv) (G':Gp),G q'=none->G' q'=some (.lst (ps.map mD))->(∀ p,p ∈ ps ↔ lgl n s m p)->ps.length<=1000->Grow G G'->q (.ref q') G'):∃ R,vf6 T [.int (m:Int),.int (n:Int),.int (s:Int)] G R /\ ∀ d G',R d G'->q d G' :=
 u21 (post:=fun d G'=>∃ (q':Addr) (ps:List Mv),d=.ref q' /\ G q'=none /\ G' q'=some (.lst (ps.map mD)) /\ (∀ p,p ∈ ps ↔ lgl n s m p) /\ ps.length<=1000 /\ Grow G G') (fun R h'=>⟨m,n,s,rfl,hn,fun q' ps G' y1 y2 y3 y4 y5=>h' _ _ ⟨q',ps,rfl,y1,y2,y3,y4,y5⟩⟩) fun d G' ⟨q',ps,e,y1,y2,y3,y4,y5⟩=>by subst e;exact k q' ps G' y1 y2 y3 y4 y5
def vf7 (_:Txt K mg):Sp3:=fun ds G R=>∃ (p:Pm) (m:Nat),ds=[pmD p,.int (m:Int)] /\ okm m p /\ R (.int (nxp m p:Int)) G
theorem ve8 {G:Gp} {k m:Nat} {q:DK} (h:k<=1000) (hq:q (.bl (stn k m)) G):∃ R,vf2 T [.int (k:Int),.int (m:Int)] G R /\ ∀ d G',R d G'->q d G':=u35 (v:=.bl (stn k m)) (G1:=G) (fun R h'=>⟨k,m,rfl,h,h'⟩) hq
def w00 (_:Txt K mg):Sp3:=fun ds G R=>∃ (s a:Addr) (n:Nat),ds=[.ref s,.int (n:Int)] /\ Src G s a /\ n<=8 /\ ∀ (q:Addr) (pl:List Int) (G':Gp),Ady s a G G'->q ≠ s->q ≠ a->G' q=some (.lst (pl.map .int))->pl.length=n->(∀ x ∈ pl,1<=x /\ x<=1000000000)->R (.ref q) G'
def vz7 (_:Txt K mg):Sp3:=fun ds G R=>∃ (s a:Addr) (n sp most:Nat),ds=[.ref s,.int (n:Int),.int (sp:Int),.int (most:Int)] /\ Src G s a /\ n<=900 /\ most<=1000 /\ ∀ (q:Addr) (w:List Mv) (G':Gp),Ady s a G G'->G' q=some (.lst (w.map mD))->q ≠ s->q ≠ a->lgw n sp 0 w->w.length<=most->R (.ref q) G'
theorem vl9 {G:Gp} {m n s:Nat} {q:DK} (h:m < 2 ^ n) (hn:n<=1000) (k:∀ (q':Addr) (ps:List Mv) (G':Gp),G q'=none->G' q'=some (.lst (ps.map mD))->(∀ p,p ∈ ps ↔ lgl n s m p)->Grow G G'->q (.ref q') G'):∃ R,vf4 T [.int (m:Int),.int (n:Int),.int (s:Int)] G R /\ ∀ d G',R d G'->q d G' :=
 u21 (post:=fun d G'=>∃ q',d=.ref q' /\ G q'=none /\ G' q'=some (.lst ((mvs m (pc n m) s n).map pD)) /\ Grow G G') (fun R h'=>⟨m,n,s,rfl,h,hn,fun q' G' x y z=>h' _ _ ⟨q',rfl,x,y,z⟩⟩) fun d G' ⟨q',e,x,y,z⟩=>by subst e;exact k q' (mvl m (pc n m) s n) G' x (by rw [y,v08]) (fun _=>vt4) z
theorem wm0 {G:Gp} {s a:Addr} {n sp most:Nat} {q:DK} (h:Src G s a) (hn:n<=900) (hm:most<=1000) (k:∀ (q':Addr) (w:List Mv) (G':Gp),Ady s a G G'->G' q'=some (.lst (w.map mD))->q' ≠ s->q' ≠ a->lgw n sp 0 w->w.length<=most->q (.ref q') G'):∃ R,vz7 T [.ref s,.int (n:Int),.int (sp:Int),.int (most:Int)] G R /\ ∀ d G',R d G'->q d G' :=
 u21 (post:=fun d G'=>∃ (q':Addr) (w:List Mv),d=.ref q' /\ Ady s a G G' /\ G' q'=some (.lst (w.map mD)) /\ q' ≠ s /\ q' ≠ a /\ lgw n sp 0 w /\ w.length<=most) (fun R h'=>⟨s,a,n,sp,most,rfl,h,hn,hm,fun q' w G' x1 x2 x3 x4 x5 x6=>h' _ _ ⟨q',w,rfl,x1,x2,x3,x4,x5,x6⟩⟩) fun d G' ⟨q',w,e,x1,x2,x3,x4,x5,x6⟩=>by subst e;exact k q' w G' x1 x2 x3 x4 x5 x6
theorem wf9 {G:Gp} {p:Mv} {m:Nat} {q:DK} (h:okm m (some p)) (k:q (.int (xr m p.2:Int)) G):∃ R,vf7 T [mD p,.int (m:Int)] G R /\ ∀ d G',R d G'->q d G' :=
 u35 (v:=.int (xr m p.2:Int)) (G1:=G) (fun R h'=>⟨some p,m,rfl,h,h'⟩) k
def qnF:Str:=("cheapest" ++ ".<locals>.") ++ "<lambda>"
def wg3 (_:Txt K mg):Sp3:=fun ds G R=>∃ (b:Addr) (o:Nat) (e:Etr) (B:List (Nat × Etr)),ds=[.int (o:Int),enF e,.ref b] /\ G b=some (.dic (vlD enF B)) /\ (B.map Prod.fst).Nodup /\ B.length<=1000 /\ ((∀ e',gtA B o=some e'->e.1 < e'.1)->R .non (gup G b (.dic (vlD enF (ptA B o e))))) /\ ∀ e',gtA B o=some e'->¬ e.1 < e'.1->R .non G
def w04 (_:Txt K mg):Sp3:=fun ds G R=>∃ (b:Addr) (pl:List Int) (s:Nat),ds=[.ref b,.int (s:Int)] /\ G 77=some (.tb qnF 4) /\ G b=some (.lst (pl.map .int)) /\ pl.length<=8 /\ (∀ x ∈ pl,1<=x /\ x<=1000000000) /\ ∀ (q:Addr) (A:List (Nat × Etr)) (t:Int) (G':Gp),G q=none->G' q=some (.dic (vlD enF A))->Dq pl.length s (cf pl) A [] t (fun _ _=>False)->Grow G G'->R (.ref q) G'
theorem wm2 {G:Gp} {b:Addr} {pl:List Int} {s:Nat} {q:DK} (ht:G 77=some (.tb qnF 4)) (h:G b=some (.lst (pl.map .int))) (h8:pl.length<=8) (hp:∀ x ∈ pl,1<=x /\ x<=1000000000) (k:∀ (q':Addr) (A:List (Nat × Etr)) (t:Int) (G':Gp),G q'=none->G' q'=some (.dic (vlD enF A))->Dq pl.length s (cf pl) A [] t (fun _ _=>False)->Grow G G'->q (.ref q') G'):∃ R,w04 T [.ref b,.int (s:Int)] G R /\ ∀ d G',R d G'->q d G' :=
 u21 (post:=fun d G'=>∃ (q':Addr) (A:List (Nat × Etr)) (t:Int),d=.ref q' /\ G q'=none /\ G' q'=some (.dic (vlD enF A)) /\ Dq pl.length s (cf pl) A [] t (fun _ _=>False) /\ Grow G G') (fun R h'=>⟨b,pl,s,rfl,ht,h,h8,hp,fun q' A t G' x1 x2 x3 x4=>h' _ _ ⟨q',A,t,rfl,x1,x2,x3,x4⟩⟩) fun d G' ⟨q',A,t,e,x1,x2,x3,x4⟩=>by subst e;exact k q' A t G' x1 x2 x3 x4
def w02 (_:Txt K mg):Sp3:=fun ds G R=>∃ (b:Addr) (pl:List Int) (s:Nat),ds=[.ref b,.int (s:Int)] /\ G 77=some (.tb qnF 4) /\ G b=some (.lst (pl.map .int)) /\ pl.length<=8 /\ (∀ x ∈ pl,1<=x /\ x<=1000000000) /\ ∀ (q:Addr) (W:List (Nat × Int)) (G':Gp),G q=none->G' q=some (.dic (vlD D.int W))->(W.map Prod.fst).Pairwise (· < ·)->(∀ x v,gtA W x=some v ↔ Nrst pl.length s (cf pl) x v)->W.length<=256->Grow G G'->R (.ref q) G'
theorem vm0 {G:Gp} {b:Addr} {pl:List Int} {s:Nat} {q:DK} (ht:G 77=some (.tb qnF 4)) (h:G b=some (.lst (pl.map .int))) (h8:pl.length<=8) (hp:∀ x ∈ pl,1<=x /\ x<=1000000000) (k:∀ (q':Addr) (W:List (Nat × Int)) (G':Gp),G q'=none->G' q'=some (.dic (vlD D.int W))->(W.map Prod.fst).Pairwise (· < ·)->(∀ x v,gtA W x=some v ↔ Nrst pl.length s (cf pl) x v)->W.length<=256->Grow G G'->q (.ref q') G'):∃ R,w02 T [.ref b,.int (s:Int)] G R /\ ∀ d G',R d G'->q d G' :=
 u21 (post:=fun d G'=>∃ (q':Addr) (W:List (Nat × Int)),d=.ref q' /\ G q'=none /\ G' q'=some (.dic (vlD D.int W)) /\ (W.map Prod.fst).Pairwise (· < ·) /\ (∀ x v,gtA W x=some v ↔ Nrst pl.length s (cf pl) x v) /\ W.length<=256 /\ Grow G G') (fun R h'=>⟨b,pl,s,rfl,ht,h,h8,hp,fun q' W G' x1 x2 x3 x4 x5 x6=>h' _ _ ⟨q',W,rfl,x1,x2,x3,x4,x5,x6⟩⟩) fun d G' ⟨q',W,e,x1,x2,x3,x4,x5,x6⟩=>by subst e;exact k q' W G' x1 x2 x3 x4 x5 x6
def vz8 (_:Txt K mg):Sp3:=fun ds G R=>∃ (s a:Addr),ds=[.ref s] /\ Src G s a /\ ∀ (n sp:Nat) (G':Gp),Ady s a G G'->1<=n->n<=8->sp<=8->R (.tup [.int (n:Int),.int (sp:Int)]) G'
theorem vy7 {G:Gp} {s a:Addr} {q:DK} (h:Src G s a) (k:∀ (n sp:Nat) (G':Gp),Ady s a G G'->1<=n->n<=8->sp<=8->q (.tup [.int (n:Int),.int (sp:Int)]) G'):∃ R,vz8 T [.ref s] G R /\ ∀ d G',R d G'->q d G' :=
 u21 (post:=fun d G'=>∃ n sp:Nat,d=.tup [.int (n:Int),.int (sp:Int)] /\ Ady s a G G' /\ 1<=n /\ n<=8 /\ sp<=8) (fun R h'=>⟨s,a,rfl,h,fun n sp G' x1 x2 x3 x4=>h' _ _ ⟨n,sp,rfl,x1,x2,x3,x4⟩⟩) fun d G' ⟨n,sp,e,x1,x2,x3,x4⟩=>by subst e;exact k n sp G' x1 x2 x3 x4
theorem vy8 {G:Gp} {s a:Addr} {n:Nat} {q:DK} (h:Src G s a) (hn:n<=8) (k:∀ (q':Addr) (pl:List Int) (G':Gp),Ady s a G G'->q' ≠ s->q' ≠ a->G' q'=some (.lst (pl.map .int))->pl.length=n->(∀ x ∈ pl,1<=x /\ x<=1000000000)->q (.ref q') G'):∃ R,w00 T [.ref s,.int (n:Int)] G R /\ ∀ d G',R d G'->q d G' :=
 u21 (post:=fun d G'=>∃ (q':Addr) (pl:List Int),d=.ref q' /\ Ady s a G G' /\ q' ≠ s /\ q' ≠ a /\ G' q'=some (.lst (pl.map .int)) /\ pl.length=n /\ ∀ x ∈ pl,1<=x /\ x<=1000000000) (fun R h'=>⟨s,a,n,rfl,h,hn,fun q' pl G' x1 x2 x3 x4 x5 x6=>h' _ _ ⟨q',pl,rfl,x1,x2,x3,x4,x5,x6⟩⟩) fun d G' ⟨q',pl,e,x1,x2,x3,x4,x5,x6⟩=>by subst e;exact k q' pl G' x1 x2 x3 x4 x5 x6
def w03 (_:Txt K mg):Sp3:=fun ds G R=>∃ (n s:Nat),ds=[.int (n:Int),.int (s:Int)] /\ 1<=n /\ n<=8 /\ ∀ (q:Addr) (xs:List Nat) (G':Gp),G q=none->G' q=some (.lst (xs.map nD))->xs.Pairwise (· < ·)->(∀ x,x ∈ xs ↔ RS n s x)->xs.length<=256->Grow G G'->R (.ref q) G'
theorem vm1 {G:Gp} {n s:Nat} {q:DK} (h1:1<=n) (h8:n<=8) (k:∀ (q':Addr) (xs:List Nat) (G':Gp),G q'=none->G' q'=some (.lst (xs.map nD))->xs.Pairwise (· < ·)->(∀ x,x ∈ xs ↔ RS n s x)->xs.length<=256->Grow G G'->q (.ref q') G'):∃ R,w03 T [.int (n:Int),.int (s:Int)] G R /\ ∀ d G',R d G'->q d G' :=
 u21 (post:=fun d G'=>∃ (q':Addr) (xs:List Nat),d=.ref q' /\ G q'=none /\ G' q'=some (.lst (xs.map nD)) /\ xs.Pairwise (· < ·) /\ (∀ x,x ∈ xs ↔ RS n s x) /\ xs.length<=256 /\ Grow G G') (fun R h'=>⟨n,s,rfl,h1,h8,fun q' xs G' x1 x2 x3 x4 x5 x6=>h' _ _ ⟨q',xs,rfl,x1,x2,x3,x4,x5,x6⟩⟩) fun d G' ⟨q',xs,e,x1,x2,x3,x4,x5,x6⟩=>by subst e;exact k q' xs G' x1 x2 x3 x4 x5 x6
def vf3 (_:Txt K mg):Sp3:=fun ds G R=>∃ (s:Nat),ds=[.int (s:Int)] /\ s<=100 /\ R (.int (cap s false:Int)) G
def v80 (_:Txt K mg):Sp3:=fun ds G R=>∃ (s:Nat),ds=[.int (s:Int)] /\ s<=100 /\ R (.int (cap s true:Int)) G
def wh1 (_:Txt K mg):Sp3:=fun ds G R=>∃ (a:Addr) (p b m e:Nat) (kvs:List (List Key × D)) (w1 w2 w3:Int) (m1 m2 m3:Nat),ds=[.int (p:Int),.int (b:Int),.int (m:Int),.int (e:Int),.ref a] /\ G a=some (.dit kvs) /\ 1<=p /\ valD kvs (k3 p b m)=some (vD w1 m1) /\ valD kvs (k3 (p - 1) m e)=some (vD w2 m2) /\ valD kvs (k3 (p - 1) b m)=some (vD w3 m3) /\ R (.int (w1+w2+w3)) G
def wg9 (_:Txt K mg):Sp3:=fun ds G R=>∃ (c a:Addr) (p b e:Nat) (pl:List Int) (kvs:List (List Key × D)) (Dm:Nat->Nat->Nat->Prop),ds=[.ref c,.int (p:Int),.int (b:Int),.int (e:Int),.ref a] /\ G c=some (.lst (pl.map .int)) /\ G a=some (.dit kvs) /\ TAw (cf pl) Dm kvs /\ 1<=p /\ p<=100 /\ b < e /\ e<=pl.length /\ pl.length<=24 /\ e - b<=cap p true /\
 (∀ b' e',2<=p->b' < e'->e'<=pl.length->e' - b'<=cap (p - 1) true->Dm (p - 1) b' e') /\ (∀ b' e',b' < e'->e'<=pl.length->e' - b' < e - b->e' - b'<=cap p true->Dm p b' e') /\ ∀ (W:Int) (m:Nat) (G':Gp),Grow G G'->VA (cf pl) p b e W m->R (vD W m) G'
def vf8 (_:Txt K mg):Sp3:=fun ds G R=>∃ (c:Addr) (s:Nat) (pl:List Int),ds=[.ref c,.int (s:Int)] /\ G c=some (.lst (pl.map .int)) /\ 1<=pl.length /\ pl.length<=24 /\ s<=8 /\ ∀ (q:Addr) (kvs:List (List Key × D)) (G':Gp),G q=none->G' q=some (.dit kvs)->TAw (cf pl) (inA pl.length s) kvs->Grow G G'->R (.ref q) G'
def wg8 (_:Txt K mg):Sp3:=fun ds G R=>∃ (c a t:Addr) (p b s:Nat) (pl:List Int) (ka kt:List (List Key × D)) (Dm:Nat->Nat->Prop),ds=[.ref c,.int (p:Int),.int (b:Int),.ref a,.ref t] /\ G c=some (.lst (pl.map .int)) /\ G a=some (.dit ka) /\ G t=some (.dit kt) /\ TAw (cf pl) (inA pl.length s) ka /\ TRw (cf pl) pl.length Dm kt /\ 1<=p /\ p<=s /\ s<=8 /\ b < pl.length /\ pl.length<=24 /\ pl.length - b<=cap p false /\
 (∀ m,2<=p->m < pl.length->pl.length - m<=cap (p - 1) false->Dm (p - 1) m) /\ ∀ (W:Int) (m:Nat) (G':Gp),Grow G G'->VR (cf pl) pl.length p b W m->R (vD W m) G'
def vz5 (_:Txt K mg):Sp3:=fun ds G R=>∃ (c a:Addr) (s:Nat) (pl:List Int) (ka:List (List Key × D)),ds=[.ref c,.int (s:Int),.ref a] /\ G c=some (.lst (pl.map .int)) /\ G a=some (.dit ka) /\ TAw (cf pl) (inA pl.length s) ka /\ 1<=pl.length /\ pl.length<=24 /\ s<=8 /\ ∀ (q:Addr) (kvs:List (List Key × D)) (G':Gp),G q=none->G' q=some (.dit kvs)->TRw (cf pl) pl.length (inR pl.length s) kvs->Grow G G'->R (.ref q) G'
theorem wf8 {G:Gp} {s:Nat} {q:DK} (hs:s<=100) (k:q (.int (cap s false:Int)) G):∃ R,vf3 T [.int (s:Int)] G R /\ ∀ d G',R d G'->q d G' :=
 u35 (v:=.int (cap s false:Int)) (G1:=G) (fun R h=>⟨s,rfl,hs,h⟩) k
theorem ui0 {G:Gp} {s:Nat} {q:DK} (hs:s<=100) (k:q (.int (cap s true:Int)) G):∃ R,v80 T [.int (s:Int)] G R /\ ∀ d G',R d G'->q d G' :=
 u35 (v:=.int (cap s true:Int)) (G1:=G) (fun R h=>⟨s,rfl,hs,h⟩) k
theorem uu2 {G:Gp} {c:Addr} {s:Nat} {pl:List Int} {q:DK} (h:G c=some (.lst (pl.map .int))) (h1:1<=pl.length) (h2:pl.length<=24) (h3:s<=8) (k:∀ (q':Addr) (kvs:List (List Key × D)) (G':Gp),G q'=none->G' q'=some (.dit kvs)->TAw (cf pl) (inA pl.length s) kvs->Grow G G'->q (.ref q') G'):∃ R,vf8 T [.ref c,.int (s:Int)] G R /\ ∀ d G',R d G'->q d G' :=
 u21 (post:=fun d G'=>∃ (q':Addr) (kvs:List (List Key × D)),d=.ref q' /\ G q'=none /\ G' q'=some (.dit kvs) /\ TAw (cf pl) (inA pl.length s) kvs /\ Grow G G') (fun R h'=>⟨c,s,pl,rfl,h,h1,h2,h3,fun q' kvs G' x y z w=>h' _ _ ⟨q',kvs,rfl,x,y,z,w⟩⟩) fun d G' ⟨q',kvs,e,x,y,z,w⟩=>by subst e;exact k q' kvs G' x y z w
theorem ve7 {G:Gp} {c a:Addr} {s:Nat} {pl:List Int} {ka:List (List Key × D)} {q:DK} (h:G c=some (.lst (pl.map .int))) (ha:G a=some (.dit ka)) (hT:TAw (cf pl) (inA pl.length s) ka) (h1:1<=pl.length) (h2:pl.length<=24) (h3:s<=8) (k:∀ (q':Addr) (kvs:List (List Key × D)) (G':Gp),G q'=none->G' q'=some (.dit kvs)->TRw (cf pl) pl.length (inR pl.length s) kvs->Grow G G'->q (.ref q') G'):∃ R,vz5 T [.ref c,.int (s:Int),.ref a] G R /\ ∀ d G',R d G'->q d G' :=
 u21 (post:=fun d G'=>∃ (q':Addr) (kvs:List (List Key × D)),d=.ref q' /\ G q'=none /\ G' q'=some (.dit kvs) /\ TRw (cf pl) pl.length (inR pl.length s) kvs /\ Grow G G') (fun R h'=>⟨c,a,s,pl,ka,rfl,h,ha,hT,h1,h2,h3,fun q' kvs G' x y z w=>h' _ _ ⟨q',kvs,rfl,x,y,z,w⟩⟩) fun d G' ⟨q',kvs,e,x,y,z,w⟩=>by subst e;exact k q' kvs G' x y z w
def vz3 (_:Txt K mg):Sp3:=fun ds G R=>∃ (a:Addr) (ks:List Key) (kvs:List (List Key × D)),ds=[.ref a,.tup (ks.map kD)] /\ G a=some (.dit kvs) /\ (∀ d,valD kvs ks=some d->∃ w m,d=vD w m /\ R (.int w) G) /\ (valD kvs ks=none->R .non G)
def w05 (_:Txt K mg):Sp3:=fun ds G R=>∃ (c:Addr) (s:Nat) (pl:List Int),ds=[.ref c,.int (s:Int)] /\ G c=some (.lst (pl.map .int)) /\ 1<=pl.length /\ pl.length<=24 /\ s<=8 /\ ∀ G',Grow G G'->(pl.length<=cap s true->∀ W,LeastA (cf pl) s 0 pl.length W->R (.int W) G') /\ (¬ pl.length<=cap s true->R .non G')
def vz6 (_:Txt K mg):Sp3:=fun ds G R=>∃ (c:Addr) (s:Nat) (pl:List Int),ds=[.ref c,.int (s:Int)] /\ G c=some (.lst (pl.map .int)) /\ 1<=pl.length /\ pl.length<=24 /\ s<=8 /\ ∀ G',Grow G G'->(pl.length<=cap s false->∀ W,LeastR (cf pl) pl.length s 0 W->R (.int W) G') /\ (¬ pl.length<=cap s false->R .non G')
theorem wm3 {G:Gp} {c:Addr} {s:Nat} {pl:List Int} {q:DK} (h:G c=some (.lst (pl.map .int))) (h1:1<=pl.length) (h2:pl.length<=24) (h3:s<=8) (k:∀ (x:Option Int) (G':Gp),AnsA pl s x->Grow G G'->q (oD x) G'):∃ R,w05 T [.ref c,.int (s:Int)] G R /\ ∀ d G',R d G'->q d G' :=
 u21 (post:=fun d G'=>∃ x,d=oD x /\ AnsA pl s x /\ Grow G G') (fun R h'=>⟨c,s,pl,rfl,h,h1,h2,h3,fun G' g=>⟨fun _ W hW=>h' _ _ ⟨some W,rfl,.inl ⟨W,rfl,hW⟩,g⟩,fun hn=>h' _ _ ⟨none,rfl,.inr ⟨hn,rfl⟩,g⟩⟩⟩) fun d G' ⟨x,e,y,z⟩=>by subst e;exact k x G' y z
theorem wm1 {G:Gp} {c:Addr} {s:Nat} {pl:List Int} {q:DK} (h:G c=some (.lst (pl.map .int))) (h1:1<=pl.length) (h2:pl.length<=24) (h3:s<=8) (k:∀ (x:Option Int) (G':Gp),AnsR pl s x->Grow G G'->q (oD x) G'):∃ R,vz6 T [.ref c,.int (s:Int)] G R /\ ∀ d G',R d G'->q d G' :=
 u21 (post:=fun d G'=>∃ x,d=oD x /\ AnsR pl s x /\ Grow G G') (fun R h'=>⟨c,s,pl,rfl,h,h1,h2,h3,fun G' g=>⟨fun _ W hW=>h' _ _ ⟨some W,rfl,.inl ⟨W,rfl,hW⟩,g⟩,fun hn=>h' _ _ ⟨none,rfl,.inr ⟨hn,rfl⟩,g⟩⟩⟩) fun d G' ⟨x,e,y,z⟩=>by subst e;exact k x G' y z
def vf5 (_:Txt K mg):Sp3:=fun ds G R=>∃ (v:Int),ds=[.int v] /\ R (.bl true) G
theorem v74 {G:Gp} {v:Int} {q:DK} (k:q (.bl true) G):∃ R,vf5 T [.int v] G R /\ ∀ d G',R d G'->q d G':=u35 (v:=.bl true) (G1:=G) (fun R h'=>⟨v,rfl,h'⟩) k
def w01 (_:Txt K mg):Sp3:=fun ds G R=>∃ (wq c:Addr) (o:Obj) (W:List (Nat × Int)) (pl:List Int) (s x:Nat) (v:Int),ds=[.ref wq,.ref c,.int (s:Int),.int (x:Int)] /\ G wq=some (.frd o (vlD D.int W)) /\ G c=some (.lst (pl.map .int)) /\ pl.length<=8 /\ (∀ x ∈ pl,1<=x /\ x<=1000000000) /\ (∀ x v,gtA W x=some v ↔ Nrst pl.length s (cf pl) x v) /\ gtA W x=some v /\ ∀ G',Grow G G'->R (.bl true) G'
theorem vy9 {G:Gp} {wq c:Addr} {o:Obj} {W:List (Nat × Int)} {pl:List Int} {s x:Nat} {v:Int} {q:DK} (h1:G wq=some (.frd o (vlD D.int W))) (h2:G c=some (.lst (pl.map .int))) (h3:pl.length<=8) (h4:∀ x ∈ pl,1<=x /\ x<=1000000000) (h5:∀ x v,gtA W x=some v ↔ Nrst pl.length s (cf pl) x v) (h6:gtA W x=some v) (k:∀ G',Grow G G'->q (.bl true) G'):∃ R,w01 T [.ref wq,.ref c,.int (s:Int),.int (x:Int)] G R /\ ∀ d G',R d G'->q d G' :=
 u21 (post:=fun d G'=>d=.bl true /\ Grow G G') (fun R h'=>⟨wq,c,o,W,pl,s,x,v,rfl,h1,h2,h3,h4,h5,h6,fun G' g=>h' _ _ ⟨rfl,g⟩⟩) fun d G' ⟨e,g⟩=>by subst e;exact k G' g
def vz9 (_:Txt K mg):Sp3:=fun ds G R=>∃ (wq a:Addr) (W:List (Nat × Int)) (ps:List (Nat × Int)),ds=[.ref wq,.ref a] /\ G wq=some (.dic (vlD D.int W)) /\ G a=some (.lst (ps.map fun p=>nD p.1)) /\ ps.length<=1000 /\ (∀ p ∈ ps,gtA W p.1=some p.2) /\ ∀ (x:Option Int) (G':Gp),Grow G G'->((ps=[] /\ x=none) \/ ∃ m,x=some m /\ m ∈ ps.map Prod.snd /\ ∀ y ∈ ps.map Prod.snd,m<=y)->R (oD x) G'
theorem uu1 {G:Gp} {wq a:Addr} {W ps:List (Nat × Int)} {q:DK} (h1:G wq=some (.dic (vlD D.int W))) (h2:G a=some (.lst (ps.map fun p=>nD p.1))) (h3:ps.length<=1000) (h4:∀ p ∈ ps,gtA W p.1=some p.2) (k:∀ (x:Option Int) (G':Gp),Grow G G'->((ps=[] /\ x=none) \/ ∃ m,x=some m /\ m ∈ ps.map Prod.snd /\ ∀ y ∈ ps.map Prod.snd,m<=y)->q (oD x) G'):∃ R,vz9 T [.ref wq,.ref a] G R /\ ∀ d G',R d G'->q d G' :=
 u21 (post:=fun d G'=>∃ x,d=oD x /\ Grow G G' /\ ((ps=[] /\ x=none) \/ ∃ m,x=some m /\ m ∈ ps.map Prod.snd /\ ∀ y ∈ ps.map Prod.snd,m<=y)) (fun R h'=>⟨wq,a,W,ps,rfl,h1,h2,h3,h4,fun x G' g z=>h' _ _ ⟨x,rfl,g,z⟩⟩) fun d G' ⟨x,e,g,z⟩=>by subst e;exact k x G' g z
def wg4 (_:Txt K mg):Sp3:=fun ds G R=>∃ (a:Addr) (ns:List Int),ds=[.ref a] /\ G 77=some (.tb qnF 4) /\ G a=some (.fro (ns.map .int)) /\ ns.length<=63 /\ ∀ G',R (.bl true) G'
theorem vi0:∀ {xs ys:List Nat},xs.Pairwise (· < ·)->ys.Pairwise (· < ·)->(∀ x,x ∈ xs ↔ x ∈ ys)->xs=ys
 | [],[],_,_,_=>rfl
 | [],y::ys,_,_,h=>by have:=(h y).mpr (by simp);cases this
 | x::xs,[],_,_,h=>by have:=(h x).mp (by simp);cases this
 | x::xs,y::ys,h1,h2,h=>by
  rw [List.pairwise_cons] at h1 h2;have e:x=y:=by
   have a:=(h x).mp (by simp);have b:=(h y).mpr (by simp)
   rcases List.mem_cons.mp a with z | z
   ·exact z
   ·rcases List.mem_cons.mp b with z2 | z2
    ·exact z2.symm
    ·have:=h1.1 y z2;have:=h2.1 x z;omega
  subst e;rw [vi0 h1.2 h2.2 fun z=>⟨fun hz=>?_,fun hz=>?_⟩]
  ·have a:=(h z).mp (List.mem_cons_of_mem _ hz)
   rcases List.mem_cons.mp a with w | w
   ·have:=h1.1 z hz;omega
   ·exact w
  ·have a:=(h z).mpr (List.mem_cons_of_mem _ hz)
   rcases List.mem_cons.mp a with w | w
   ·have:=h2.1 z hz;omega
   ·exact w
theorem wf6 {G:Gp} {a b:Addr} {x y:Option Int} {Q:Bool->Prop} (h1:u11 (G a)=some [oD x,oD y]) (h2:u11 (G b)=some [oD x,oD y]) (h:Q true):∃ n sd se r,n<=40 /\ snap G n (.ref a)=some sd /\ snap G n (.ref b)=some se /\ eqN n sd se=some r /\ Q r:=by
 obtain ⟨s,e⟩:∃ s,snap G 1 (.ref a)=some s:=by
  show ∃ s,(u11 (G a)).bind (fun ds=>(ds.mapM (snap G 0)).map Sn.lst)=some s
  rw [h1];cases x <;> cases y <;> exact ⟨_,rfl⟩
 have e2:snap G 1 (.ref b)=some s:=by
  rw [<- e]
  show (u11 (G b)).bind (fun ds=>(ds.mapM (snap G 0)).map Sn.lst)=(u11 (G a)).bind (fun ds=>(ds.mapM (snap G 0)).map Sn.lst)
  rw [h1,h2]
 exact ⟨1,s,s,true,by decide,e,e2,uo8 1 e,h⟩
theorem vw7 {α:Type}:∀ {A:List (Nat × α)} {p:Nat × α},(A.map Prod.fst).Nodup->p ∈ A->gtA A p.1=some p.2
 | q::A,p,h,hp=>by
  rw [List.map_cons,List.nodup_cons] at h
  show (if q.1=p.1 then some q.2 else gtA A p.1)=some p.2
  rcases List.mem_cons.mp hp with rfl | hp
  ·rw [if_pos rfl]
  ·rw [if_neg (fun e=>h.1 (by rw [e];exact List.mem_map_of_mem hp))]
   exact vw7 h.2 hp
end
end Law
set_option compiler.extract_closed false
open PySem L2 L3 Rw in
set_option hygiene false in
local macro_rules | `(tactic| simp! [$xs,*])=>`(tactic| try simp only [ve1,Int.toNat_natCast,dCall,wl6,wl7,List.append_nil,dSeq,vx9,dAsg,vy2,dRet,wl4,dIfS,dB,dAnd,dOr,dNot,vy3,dOrV,vx7,dIf,dVar,dC,dOp,dUn,dNil,ve0,dTup,dLst,dCB,dSl,wl5,vx8,dBM,dBM0,dAug,dFld,wl3,wl8,dYes,uo4,jSub,jSeq,vw2,jNil,w27,w26,wAny,dFor,xSub,xDiv,xMod,xPow,xShl,xShr,xAnd,xOr,xXor,uo3,tyD,ua6,ud2,List.map_cons,List.map_nil,List.cons_append,List.nil_append,List.length_cons,List.length_nil,List.replicate,List.getElem?_cons_zero,List.getElem?_cons_succ,List.set_cons_zero,List.set_cons_succ,Nat.reduceAdd,Nat.reduceSub,Nat.sub_self,uj1,uy6,u01,Option.bind_some,Option.bind_none,id,Bool.false_eq_true,if_true,if_false,reduceIte,true_and,and_true,decide_true,decide_false,Bool.not_true,Bool.not_false,wm8,wm7,wm6,wm5,wm4,wd4,wd3,wd2,wd6,wd5,w08,w06,$xs,*])
open L3 in
set_option hygiene false in
local macro_rules | `(tactic| dsimp! [$xs,*])=>`(tactic| (simp only [Go];simp! [$xs,*]))
namespace Law
open PySem L2 L3 Rw
section
variable {P:Program} {w:World} {K:W.Frag} {mg:Str->Option Value} {base:Heap} (T:Txt K mg)
theorem w85 {n:Nat}:Ok P w mg base (n+1) T.f_jba (vz4 T):=by
 refine u17 T.f_jba vi5 (fun ds G R h=>?_) (fun cdv A outer s H E hr =>
   (u07 (u19 (e_if (u25 (x_gt) (ev 0) u03 (nomark _)) (u08 um3 u03 (u08 u38 (ev 0) u03)) u03)))) (fun ds G R h=>?_)
 ·obtain ⟨k,rfl,_⟩:=h;rfl
 ·obtain ⟨k,rfl,hk,h0,h1⟩:=h
  cases k with
  | zero =>
   simp! [id];exact h0 rfl
  | succ i =>
   have e1:(((i+1:Nat):Int) - 1)=(i:Int):=by omega
   have c:CPow 1 (i:Int):=uc2 (by omega) (by omega);have p:((0:Int) < ((i+1:Nat):Int))=True:=eq_true (by omega);simp! [e1,c,p];exact h1 i rfl
theorem w84 {n:Nat} (G_jba:Ok P w mg base n T.f_jba (vz4 T)):Ok P w mg base (n+1) T.f_jbb (vf2 T):=by
 refine u17 T.f_jbb vi4 (fun ds G R h=>?_) (fun cdv A outer s H E hr =>
   (u07 (u19 (e_or (up0 (x_eq hr) (ev 0) u03 (nomark _)) (v50 (up0 (x_ne hr) (u08 um4 (ev 1) (ec T.f_jba T.g_set_of G_jba hr (u00 (ev 0) u05))) u03 (nomark _))))))) (fun ds G R h=>?_)
 ·obtain ⟨k,m,rfl,_⟩:=h;rfl
 ·obtain ⟨k,m,rfl,hk,post⟩:=h
  cases k with
  | zero =>
   simp! [id];exact post
  | succ i =>
   have p:(((i+1:Nat):Int)=0)=False:=eq_false (by omega);simp! [p];refine u35 (v:=.int (1 * 2 ^ i)) (G1:=G) (fun R h=>⟨i+1,rfl,hk,(fun e=>by cases e),fun j e=>by cases e;exact h⟩) ?_;simp! [id];have e:(!decide (Builtin.bitAnd (m:Int) (1 * 2 ^ i)=0))=stn (i+1) m:=by
    unfold stn;rw [Bool.eq_iff_iff];simp only [vz1,Bool.not_eq_true',decide_eq_false_iff_not,Nat.add_sub_cancel,Bool.or_eq_true,beq_iff_eq,Nat.add_one_ne_zero,false_or,Bool.not_eq_false]
   rw [e];exact post
theorem w92 {n:Nat}:Ok P w mg base (n+1) T.f_jat (wg7 T):=by
 refine u17 T.f_jat sc_jat (fun ds G R h=>?_) (fun cdv A outer s H E hr =>
   (u02 (u16 1 sc_jat.nd u03)
   (u02 (un2 (u25 (x_gt) (ev 0) u03 (nomark _)) (u02 (wj0 1 sc_jat.nd (u08 um4 (ev 0) u03) w11)
   (u07 (u16 0 sc_jat.nd (u08 ux2 (ev 0) u03)))))
   (u07 (u19 (ev 1)))))) (fun ds G R h=>?_)
 ·obtain ⟨b,m,rfl,_⟩:=h;rfl
 ·obtain ⟨b,m,rfl,hb,post⟩:=h
  simp! [id];dsimp! [id];refine ua4 (fun c σ G'=>∃ (x y:Nat),G'=G /\ σ=[some (.int (x:Int)),some (.int (y:Int))] /\ x < 2 ^ c /\ y+pc c x=pc b m) ⟨m,0,rfl,rfl,hb,by omega⟩ ?_;rintro c σ G' N ⟨x,y,rfl,rfl,hx,hy⟩ ih
  by_cases h0:x=0
  ·subst h0
   simp! [id];rw [vs7] at hy;have:y=pc b m:=by omega
   subst this
   (simp! [id];repeat (simp only [Go];simp! [id]))
   exact post
  ·have p:((0:Int) < (x:Int))=True:=eq_true (by omega)
   simp! [p];cases c with
   | zero=>exact absurd hx (by omega)
   | succ c =>
    have e:Builtin.bitAnd (x:Int) 1=((x % 2:Nat):Int):=by
     rw [show (1:Int)=((1:Nat):Int) from rfl,uc4,Nat.and_one_is_mod]
    have e2:(x:Int) / 2 ^ (Int.toNat 1)=((x / 2:Nat):Int):=by simp
    have e3:(y:Int)+((x % 2:Nat):Int)=((y+x % 2:Nat):Int):=by omega
    (simp! [e,e2,e3];repeat (simp only [Go];simp! [e,e2,e3]))
    refine ⟨by decide,?_⟩;refine ih _ _ c rfl ⟨x / 2,y+x % 2,rfl,rfl,?_,?_⟩
    ·rw [Nat.pow_succ] at hx;omega
    ·rw [vs8] at hy;omega
theorem w91 {n:Nat} (G_jbb:Ok P w mg base n T.f_jbb (vf2 T)) (G_jat:Ok P w mg base n T.f_jat (wg7 T)):Ok P w mg base (n+1) T.f_jau (wg6 T):=by
 refine u17 T.f_jau sc_jau (fun ds G R h=>?_) (fun cdv A outer s H E hr =>
   (u02 (u16 4 sc_jau.nd (e_ix x_ix (ev 0) u03))
   (u02 (s_if (t_w (w_or (u25 (x_lt) (ev 4) u03 (nomark _)) (w_or (u25 (x_gt) (ev 4) (ev 2) (nomark _)) (um7 (uy2 (un0 (ec T.f_jbb T.g_stands G_jbb hr (u00 (u08 u38 (ev 4) u03) (u00 (ev 1) u05))))))))) (u07 (u19 e_bl)) u30)
   (u02 (s_if (u25 (x_eq hr) (e_ix x_ix (ev 0) u03) uo9 (nomark _)) (u07 (u19 (vx2 (wf0 (ec T.f_jbb T.g_stands G_jbb hr (u00 (ev 4) (u00 (ev 1) u05)))) (v50 (up0 (x_lt) (ec T.f_jat T.g_many_in G_jat hr (u00 (ev 1) u05)) (ev 3) (nomark _)))))) u30)
   (u07 (u19 (ec T.f_jbb T.g_stands G_jbb hr (u00 (ev 4) (u00 (ev 1) u05))))))))) (fun ds G R h=>?_)
 ·obtain ⟨k,m,n,s,rfl,_⟩:=h;rfl
 ·obtain ⟨k,m,n',s,rfl,h1,h2,h3,hm,post⟩:=h
  have p1:((k:Int) < 1)=False:=eq_false (by omega);have p2:((n':Int) < (k:Int))=False:=eq_false (by omega);have e1:(k:Int) - 1=((k - 1:Nat):Int):=by omega
  simp! [pD,mvP];dsimp! [p1,p2,e1];refine ve8 T (by omega) ?_;cases hs:stn (k - 1) m with
  | false =>
   (simp! [id];repeat (simp only [Go];simp! [id]))
   rw [show mvB m (pc n' m) s k=false by unfold mvB;rw [hs];rfl] at post;exact post
  | true =>
   cases hk:stn k m with
   | true =>
    have l1:(("clear" : Str) = "lay")=False:=eq_false (by decide)
    (simp! [l1];repeat (simp only [Go];simp! [l1]))
    refine ve8 T (by omega) ?_;rw [show mvB m (pc n' m) s k=true by unfold mvB;rw [hs,hk];rfl] at post;simp! [hk];exact post
   | false =>
    (simp! [id];repeat (simp only [Go];simp! [id]))
    refine ve8 T (by omega) ?_;simp! [hk];refine u35 (v:=.int (pc n' m:Int)) (G1:=G) (fun R h=>⟨n',m,rfl,hm,h⟩) ?_;simp! [id];rw [show mvB m (pc n' m) s k=decide ((pc n' m:Int) < (s:Int)) by unfold mvB;rw [hs,hk];simp] at post;exact post
theorem wa7 {n:Nat} (G_jba:Ok P w mg base n T.f_jba (vz4 T)):Ok P w mg base (n+1) T.f_jae (vf7 T):=by
 refine u17 T.f_jae vj2 (fun ds G R h=>?_) (fun cdv A outer s H E hr =>
   (u02 (s_if (u25 (x_eq hr) (e_ix x_ix (ev 0) u03) uo9 (nomark _)) (u07 (u19 (u08 x_or (ev 1) (ec T.f_jba T.g_set_of G_jba hr (u00 (e_ix x_ix (ev 0) u03) u05))))) u30)
   (u02 (s_if (u25 (x_eq hr) (e_ix x_ix (ev 0) u03) uo9 (nomark _)) (u07 (u19 (u08 um4 (ev 1) (e_un wh5 (ec T.f_jba T.g_set_of G_jba hr (u00 (e_ix x_ix (ev 0) u03) u05)))))) u30)
   (u07 (u19 (ev 1)))))) (fun ds G R h=>?_)
 ·obtain ⟨p,m,rfl,_⟩:=h;rfl
 ·obtain ⟨p,m,rfl,hok,post⟩:=h
  cases p with
  | none =>
   have l1:(("show" : Str) = "lay")=False:=eq_false (by decide);have l2:(("show" : Str) = "clear")=False:=eq_false (by decide)
   (simp! [pmD,l1,l2];repeat (simp only [Go];simp! [pmD,l1,l2]))
   exact post
  | some p =>
   obtain ⟨w0,k⟩:=p;obtain ⟨⟨h1,h2⟩,hv⟩:=hok;obtain ⟨i,rfl⟩:∃ i,k=i+1:=⟨k - 1,by have:1<=k:=h1;omega⟩;have h2:i+1<=24:=h2;have hb:(!m.testBit i)=w0:=hv.symm;have post:R (.int ((m ^^^ 2 ^ i:Nat):Int)) G:=post;have l1:(("clear" : Str) = "lay")=False:=eq_false (by decide);cases w0 with
   | true =>
    have hb':m.testBit i=false:=by simpa using hb
    simp! [pmD,mD,pD,mP];refine u35 (v:=.int (1 * 2 ^ i)) (G1:=G) (fun R h=>⟨i+1,rfl,by omega,(fun e=>by cases e),fun j e=>by cases e;exact h⟩) ?_;simp! [vv7 hb'];exact post
   | false =>
    have hb':m.testBit i=true:=by simpa using hb
    simp! [pmD,mD,pD,mP,l1];dsimp! [id];refine u35 (v:=.int (1 * 2 ^ i)) (G1:=G) (fun R h=>⟨i+1,rfl,by omega,(fun e=>by cases e),fun j e=>by cases e;exact h⟩) ?_;simp! [xInv,vy6 hb'];exact post
theorem w90 {n:Nat} (G_jbb:Ok P w mg base n T.f_jbb (vf2 T)):Ok P w mg base (n+1) T.f_jav (wg5 T):=by
 refine u17 T.f_jav vi8 (fun ds G R h=>?_) (fun cdv A outer s H E hr =>
   (u07 (u19 (e_if (un0 (ec T.f_jbb T.g_stands G_jbb hr (u00 (ev 0) (u00 (ev 1) u05)))) (u60 (u00 uo9 (u00 (ev 0) u05))) (u60 (u00 uo9 (u00 (ev 0) u05))))))) (fun ds G R h=>?_)
 ·obtain ⟨k,m,rfl,_⟩:=h;rfl
 ·obtain ⟨k,m,rfl,h1,post⟩:=h
  have s2:(2<=sizeLine)=True:=eq_true (by decide);simp! [id];refine ve8 T h1 ?_;unfold pD mvP at post;cases hk:stn k m with
  | true =>
   rw [hk] at post;simp! [s2];exact post
  | false =>
   rw [hk] at post;simp! [s2];exact post
theorem w89 {n:Nat} (G_jau:Ok P w mg base n T.f_jau (wg6 T)) (G_jav:Ok P w mg base n T.f_jav (wg5 T)):Ok P w mg base (n+1) T.f_jaw (vf4 T):=by
 refine u17 T.f_jaw sc_jaw (fun ds G R h=>?_) (fun cdv A outer s H E hr =>
   (u02 (vj6 3 sc_jaw.nd (N':=["k", "marks"]) (ix:=[none,some 0]) (blk (osc:=u04 uz0) (N:=["marks", "n", "s", "moves"]) rfl rfl (by decide)) (ud3 rfl T.b_range (u00 u03 (u00 (u08 u32 (ev 1) u03) u05))) (fun _ _ _ _=>(u22 0 (show (["k", "marks"]:List Str).Nodup by decide))) (fun _ _ _ _=>ub7) (fun _ _ _ _=>(ec T.f_jav T.g_move_on G_jav hr (u00 (ev 0) (u00 (ev 1) u05)))))
   (u07 (u19 (uc1 (N':=["move", "marks", "n", "s"]) (ix:=[none,some 0,some 1,some 2]) (blk (osc:=u04 uz0) (N:=["marks", "n", "s", "moves"]) rfl rfl (by decide)) (ub8 (ev 3)) (fun _ _ _ _=>(u22 0 (show (["move", "marks", "n", "s"]:List Str).Nodup by decide))) (fun _ _ _ _=>(ug3 (un0 (ec T.f_jau T.g_may_do G_jau hr (u00 (ev 0) (u00 (ev 1) (u00 (ev 2) (u00 (ev 3) u05)))))))) (fun _ _ _ _=>(ev 0))))))) (fun ds G R h=>?_)
 ·obtain ⟨m,n,s,rfl,_⟩:=h;rfl
 ·obtain ⟨m,n',s,rfl,hm,hn,post⟩:=h
  have en:((n':Int)+1 - 1).toNat=n':=by omega
  simp! [en];refine ⟨⟨by decide,by decide,by omega,by omega⟩,fun p hp=>?_⟩;refine u39 (fun r σ G'=>∃ (j c:Nat) (v:Option D),j+c=n' /\ r=rngD ((j:Int)+1) c /\ G'=gup G p (.lst (((List.range' 1 j).map (mvP m)).map pD)) /\ σ=[v,some (.int (m:Int))]) ⟨0,n',none,by omega,rfl,rfl,rfl⟩ ?_ ?_
  ·rintro σ G' ⟨j,c,v,e,e2,rfl,rfl⟩
   have hc:c=0:=by
    cases c with
    | zero=>rfl
    | succ c=>rw [u09] at e2;cases e2
   subst hc;have hj:j=n':=by (clear e2 hp post hn hm;omega)
   subst hj;refine ⟨trivial,?_⟩;dsimp! [id];intro p2 hp2;have n12:p ≠ p2:=fun z=>by rw [<- z,u01] at hp2;cases hp2
   have g2:Grow G (gup G p (.lst (((List.range' 1 j).map (mvP m)).map pD))):=Grow.refl.new hp;refine u39 (fun r σ G'=>∃ (i c:Nat) (v:Option D),i+c=j /\ r=((List.range' (i+1) c).map (mvP m)).map pD /\ G'=gup (gup G p (.lst (((List.range' 1 j).map (mvP m)).map pD))) p2 (.lst ((mvs m (pc j m) s i).map pD)) /\ σ=[v,some (.int (m:Int)),some (.int (j:Int)),some (.int (s:Int))]) ⟨0,j,none,by omega,rfl,rfl,rfl⟩ ?_ ?_
   ·rintro σ G' ⟨i,c,v,e,e2,rfl,rfl⟩
    have hc:c=0:=by
     cases c with
     | zero=>rfl
     | succ c=>rw [List.range'_succ] at e2;cases e2
    subst hc;have hi:i=j:=by (clear e2 n12 hp2 post hn hm hp;omega)
    subst hi;refine ⟨by rw [u06 n12,u01];rfl,?_⟩;exact post _ _ (g2.none hp2) u01 (g2.new hp2)
   ·rintro z r σ G' ⟨i,c,v,e,e2,rfl,rfl⟩ ih
    cases c with
    | zero=>cases e2
    | succ c =>
     rw [List.range'_succ] at e2;cases e2;refine ⟨by rw [u06 n12,u01];rfl,?_⟩;simp! [id];refine u35 (v:=.bl (mvB m (pc j m) s (i+1))) (G1:=gup (gup G p (.lst (((List.range' 1 j).map (mvP m)).map pD))) p2 (.lst ((mvs m (pc j m) s i).map pD))) (fun R h=>⟨i+1,m,j,s,rfl,by omega,by omega,hn,hm,h⟩) ?_;have hl:=v09 m (pc j m) s i;cases hb:mvB m (pc j m) s (i+1) with
     | false =>
      simp! [id];refine ih _ _ ⟨i+1,c,_,by (clear hb hl ih n12 hp2 post hn hm e2 hp;omega),rfl,?_,rfl⟩;rw [mvs,hb];simp
     | true =>
      simp! [id];refine ⟨by rw [List.length_map];exact Nat.lt_of_le_of_lt (m:=1000) (by omega) (by decide),ih _ _ ⟨i+1,c,_,by (clear hb hl ih n12 hp2 post hn hm e2 hp;omega),rfl,?_,rfl⟩⟩;rw [mvs,hb,u23];simp
  ·rintro z r σ G' ⟨j,c,v,e,e2,rfl,rfl⟩ ih
   cases c with
   | zero=>cases e2
   | succ c =>
    rw [u09] at e2;cases e2;refine ⟨trivial,?_⟩;have ej:(j:Int)+1=((j+1:Nat):Int):=by omega
    simp! [ej];refine u35 (v:=pD (mvP m (j+1))) (G1:=gup G p (.lst (((List.range' 1 j).map (mvP m)).map pD))) (fun R h=>⟨j+1,m,rfl,by omega,h⟩) ?_;simp! [id];refine ⟨by rw [List.length_map,List.length_map,List.length_range'];exact Nat.lt_of_le_of_lt (m:=1000) (by omega) (by decide),ih _ _ ⟨j+1,c,_,by (clear ej ih hp post hn hm;omega),rfl,?_,rfl⟩⟩;rw [u23,List.range'_concat];simp [Nat.add_comm]
theorem wa5 {n:Nat} (G_jae:Ok P w mg base n T.f_jae (vf7 T)) (G_jaw:Ok P w mg base n T.f_jaw (vf4 T)):Ok P w mg base (n+1) T.f_jag (w03 T):=by
 refine u17 T.f_jag sc_jag (fun ds G R h=>?_) (fun cdv A outer s H E hr =>
   (u02 (u16 2 sc_jag.nd (v55 u03 e_bl))
   (u02 (u16 3 sc_jag.nd (u84 (u00 u03 u05)))
   (u02 (un2 (u25 (x_gt) (u12 ua3 rfl T.b_len (by decide) (u00 (ev 3) u05)) u03 (nomark _)) (u02 (u16 4 sc_jag.nd (v49 (ev 3)))
   (u07 (u80 (ub8 (ec T.f_jaw T.g_moves_from G_jaw hr (u00 (ev 4) (u00 (ev 0) (u00 (ev 1) u05))))) (u22 5 sc_jag.nd) (u02 (u16 6 sc_jag.nd (ec T.f_jae T.g_behind G_jae hr (u00 (ev 5) (u00 (ev 4) u05))))
   (u07 (s_if (u25 (u75 hr) (ev 6) (ev 2) (by with_unfolding_all rfl)) (u02 (ue8 hr (ev 2) (ev 6) e_bl)
   (u07 (ua8 (u85 (ev 3) (u00 (ev 6) u05))))) u30)))))))
   (u07 (u19 (u12 (ui2 hr) rfl T.b_sorted (by decide) (u00 (ev 2) u05)))))))) (fun ds G R h=>?_)
 ·obtain ⟨n,s,rfl,_⟩:=h;rfl
 ·obtain ⟨n',s',rfl,h1,h8,post⟩:=h
  simp! [v64];intro q hq;refine ⟨.inl 0,rfl,?_⟩;rw [u23];dsimp! [id];refine ⟨by decide,fun d hd=>?_⟩;have nqd:q ≠ d:=gne u01 hd;have g1:Grow G (gup (gup G q (.dic [(.inl 0,.bl true)])) d (.lst [.int 0])):=(Grow.refl.new hq).new hd;have fd:G d=none:=(Grow.refl.new (o:=.dic [(.inl 0,.bl true)]) hq).none hd;have h256:2 ^ n'<=256:=Nat.pow_le_pow_right (n:=2) (by decide) h8;dsimp! [id];refine ua4 (fun m σ G'=>∃ (F D':List Nat) (v4 v5 v6:Option D),(2 * (2 ^ n' - F.length)+D'.length<=m /\ D'.length<=F.length) /\ Grow G G' /\ G' q=some (.dic (fdD F)) /\ G' d=some (.lst (D'.map nD)) /\ F.Nodup /\ 0 ∈ F /\ (∀ x ∈ F,RS n' s' x) /\ (∀ x ∈ D',x ∈ F) /\ (∀ x ∈ F,x ∈ D' \/ ∀ p,lgl n' s' x p->xr x p.2 ∈ F) /\ σ=[some (.int (n':Int)),some (.int (s':Int)),some (.ref q),some (.ref d),v4,v5,v6])
   (m:=1000) ⟨[0],[0],none,none,none,⟨by show 2 * (2 ^ n' - 1)+1<=1000;omega,Nat.le_refl _⟩,g1,by rw [u06 nqd];exact u01,u01,by simp,by simp,fun x hx=>by rw [List.mem_singleton.mp hx];exact RS.zero,fun x hx=>hx,fun x hx=>.inl hx,rfl⟩ ?_
  rintro m σ G2 N ⟨F,D',v4,v5,v6,⟨hm,hdf⟩,g2,kq,kd,hnd,h0,hrs,hsub,hcl,rfl⟩ ih;have hfl:F.length<=2 ^ n':=ub0 hnd fun x hx=>(hrs x hx).lt
  simp! [kd,u11]
  rcases List.eq_nil_or_concat D' with e | ⟨D0,x,e⟩
  ·subst e
   have e0:(((([]:List Nat).map nD).length:Int) > 0)=False:=eq_false (by simp);simp! [e0];dsimp! [id];refine ⟨q,F.map (fun x:Nat=>(x:Int)),rfl,.inr ⟨fdD F,by unfold fdD;rw [List.map_map,List.map_map];rfl,.inl kq⟩,fun ql ns' hl hpm hpw=>?_⟩;obtain ⟨xs,hxs⟩:∃ xs:List Nat,ns'=xs.map (fun x:Nat=>(x:Int)):=by
    refine ⟨ns'.map Int.toNat,?_⟩;rw [List.map_map]
    conv=>lhs;rw [<- List.map_id ns']
    refine List.map_congr_left fun z hz=>?_
    obtain ⟨p,_,rfl⟩:=List.mem_map.mp (hpm.mem_iff.mp hz);simp
   subst hxs;have hxp:xs.Perm F:=by
    have:=hpm.map Int.toNat;simpa [List.map_map,Function.comp_def] using this
   have hxw:xs.Pairwise (· < ·):=by
    have h1:xs.Pairwise (·<=·):=by
     rw [List.pairwise_map] at hpw;exact hpw.imp fun h=>by omega
    exact (h1.and (hxp.nodup_iff.mpr hnd)).imp fun ⟨a,b⟩=>by omega
   refine post ql xs _ (g2.none hl) (by rw [u01,uj6]) hxw (fun y=>⟨fun hy=>hrs y (hxp.mem_iff.mp hy),fun hy=>hxp.mem_iff.mpr (hy.all h0 fun z hz=>?_)⟩) (by rw [hxp.length_eq];omega) (g2.new hl)
   rcases hcl z hz with w | w
   ·cases w
   ·exact w
  ·rw [List.concat_eq_append] at e
   subst e;have e0:((((D0++[x]).map nD).length:Int) > 0)=True:=eq_true (by simp);have hx:x ∈ F:=hsub x (by simp);simp! [e0];have ekd:((D0++[x]).map nD)=((D0.map (fun x:Nat=>(x:Int)))++[(x:Int)]).map D.int:=by rw [uj6,List.map_append];rfl
   rw [uf0 (ns:=D0.map (fun x:Nat=>(x:Int))) (c:=(x:Int)) (by rw [kd,ekd])];rw [<- uj6];obtain ⟨G4,hG4⟩:∃ G4,G4=gup G2 d (.lst (D0.map nD)):=⟨_,rfl⟩;have g4:Grow G G4:=by rw [hG4];exact g2.own fd
   have kq4:G4 q=some (.dic (fdD F)):=by rw [hG4,u06 nqd];exact kq
   have kd4:G4 d=some (.lst (D0.map nD)):=by rw [hG4];exact u01
   rw [<- hG4];clear hG4;dsimp! [id];refine vl9 T (m:=x) (s:=s') (hrs x hx).lt (by omega) fun qm ps G5 f5 k5 hps g5=>?_
   simp! [k5];have nqm:q ≠ qm:=gne kq4 f5;have ndm:d ≠ qm:=gne kd4 f5;refine u27 (fun r σ G'=>∃ (l t:List Mv) (F1 D1:List Nat) (v5 v6:Option D),l++t=ps /\ r=t.map mD /\ Grow G G' /\ G' qm=some (.lst (ps.map mD)) /\ G' q=some (.dic (fdD F1)) /\ G' d=some (.lst (D1.map nD)) /\ F1.Nodup /\ 0 ∈ F1 /\ x ∈ F1 /\ (∀ y ∈ F1,RS n' s' y) /\ (∀ y ∈ D1,y ∈ F1) /\ (∀ y ∈ F1,y ∈ D1 \/ y=x \/ ∀ p,lgl n' s' y p->xr y p.2 ∈ F1) /\ (∀ p ∈ l,xr x p.2 ∈ F1) /\ (2 * (2 ^ n' - F1.length)+D1.length+1<=m /\ D1.length<=F1.length) /\ σ=[some (.int (n':Int)),some (.int (s':Int)),some (.ref q),some (.ref d),some (.int (x:Int)),v5,v6])
    ⟨[],ps,F,D0,v5,v6,rfl,rfl,g4.trans g5,k5,g5.kp _ _ kq4,g5.kp _ _ kd4,hnd,h0,hx,hrs,fun y hy=>hsub y (by simp [hy]),fun y hy=>?_,(fun p hp=>by cases hp),by rw [List.length_append,List.length_singleton] at hm hdf;omega,rfl⟩ ?_ ?_
   ·rcases hcl y hy with w | w
    ·rcases List.mem_append.mp w with w | w
     ·exact .inl w
     ·exact .inr (.inl (List.mem_singleton.mp w))
    ·exact .inr (.inr w)
   ·rintro σ G6 ⟨l,t,F1,D1,v5,v6,e,e2,g6,k6,kq6,kd6,n1,z1,x1,r1,s1,c1,m1,⟨mm,mdf⟩,rfl⟩
    have ht:t=[]:=by simpa using e2.symm
    subst ht;rw [List.append_nil] at e;subst e;refine ⟨by rw [k6];rfl,?_⟩;obtain ⟨m',rfl⟩:∃ m',m=m'+1:=⟨m - 1,by omega⟩;refine ih _ _ m' rfl ⟨F1,D1,_,_,_,⟨by omega,mdf⟩,g6,kq6,kd6,n1,z1,r1,s1,fun y hy=>?_,rfl⟩
    rcases c1 y hy with w | w | w
    ·exact .inl w
    ·subst w;exact .inr fun p hp=>m1 p ((hps p).mpr hp)
    ·exact .inr w
   ·rintro z r σ G6 ⟨l,t,F1,D1,v5,v6,e,e2,g6,k6,kq6,kd6,n1,z1,x1,r1,s1,c1,m1,⟨mm,mdf⟩,rfl⟩ ih2
    cases t with
    | nil=>cases e2
    | cons p t =>
     cases e2;refine ⟨by rw [k6];rfl,?_⟩;have hp:p ∈ ps:=by rw [<- e];simp
     have lp:=(hps p).mp hp;have hokm:okm x (some p):=⟨⟨lp.1.1,by have:=lp.1.2;omega⟩,lp.2.2.1⟩;have hfl1:F1.length<=2 ^ n':=ub0 n1 fun y hy=>(r1 y hy).lt
     have hrx:RS n' s' (xr x p.2):=(r1 x x1).step lp;simp! [id];refine wf9 T hokm ?_;simp! [id];refine ⟨.inl ((xr x p.2:Nat):Int),fdD F1,q,rfl,rfl,.inl kq6,?_⟩;rw [wk8]
     by_cases hin:xr x p.2 ∈ F1
     ·rw [decide_eq_true hin]
      refine ih2 _ _ ⟨l++[p],t,F1,D1,_,_,by rw [<- e,List.append_assoc];rfl,rfl,g6,k6,kq6,kd6,n1,z1,x1,r1,s1,c1,fun p' hp'=>?_,⟨mm,mdf⟩,rfl⟩
      rcases List.mem_append.mp hp' with w | w
      ·exact m1 p' w
      ·rw [List.mem_singleton.mp w];exact hin
     ·rw [decide_eq_false hin]
      simp! [uw3];have hfle:(fdD F1).length=F1.length:=by unfold fdD;rw [List.length_map]
      refine ⟨q,fdD F1,.inl ((xr x p.2:Nat):Int),rfl,rfl,kq6,Nat.lt_of_le_of_lt (m:=1000) (by omega) (by decide),?_⟩;rw [we5 hin];have kd7:∀ {o:DO},gup G6 q o d=some (.lst (D1.map nD)):=fun {o}=>by rw [u06 (Ne.symm nqd)];exact kd6
      have g7:Grow G (gup G6 q (.dic (fdD (F1++[xr x p.2])))):=g6.own hq;have n2:(F1++[xr x p.2]).Nodup:=List.nodup_append.mpr ⟨n1,by simp,fun a ha b hb=>by rw [List.mem_singleton.mp hb];exact fun z=>hin (by rw [<- z];exact ha)⟩;have hl2:(F1++[xr x p.2]).length<=2 ^ n':=ub0 n2 fun y hy=>by
       rcases List.mem_append.mp hy with w | w
       ·exact (r1 y w).lt
       ·rw [List.mem_singleton.mp w];exact hrx.lt
      rw [List.length_append,List.length_singleton] at hl2;dsimp! [kd7];refine ⟨Nat.lt_of_le_of_lt (m:=2000) (by rw [List.length_map];omega) (by decide),?_⟩;refine ih2 _ _ ⟨l++[p],t,F1++[xr x p.2],D1++[xr x p.2],_,_,by rw [<- e,List.append_assoc];rfl,rfl,g7.own fd,?_,?_,?_,n2,List.mem_append_left _ z1,List.mem_append_left _ x1,fun y hy=>?_,fun y hy=>?_,fun y hy=>?_,fun p' hp'=>?_,?_,rfl⟩
      ·rw [u06 (Ne.symm ndm),u06 (Ne.symm nqm)];exact k6
      ·rw [u06 nqd];exact u01
      ·rw [u01,List.map_append];rfl
      ·rcases List.mem_append.mp hy with w | w
       ·exact r1 y w
       ·rw [List.mem_singleton.mp w];exact hrx
      ·rcases List.mem_append.mp hy with w | w
       ·exact List.mem_append_left _ (s1 y w)
       ·exact List.mem_append_right _ w
      ·rcases List.mem_append.mp hy with w | w
       ·rcases c1 y w with v | v | v
        ·exact .inl (List.mem_append_left _ v)
        ·exact .inr (.inl v)
        ·exact .inr (.inr fun p' hp'=>List.mem_append_left _ (v p' hp'))
       ·exact .inl (List.mem_append_right _ w)
      ·rcases List.mem_append.mp hp' with w | w
       ·exact List.mem_append_left _ (m1 p' w)
       ·rw [List.mem_singleton.mp w];exact List.mem_append_right _ (by simp)
      ·rw [List.length_append,List.length_append,List.length_singleton];(clear kd7 hin hfl1 ih2 e m1 c1 s1 r1 kd6 kq6 k6 ndm nqm hps k5 f5 kd4 kq4 ekd e0 hcl hsub kd hdf hm hfl ih hrs kq h256 fd nqd hd hq post h8 h1;omega)
theorem w81 {n:Nat}:Ok P w mg base (n+1) T.f_see (wg3 T):=by
 refine u17 T.f_see vi2 (fun ds G R h=>?_) (fun cdv A outer s H E hr =>
   (u07 (s_if (t_w (w_or (u25 (u75 hr) (ev 0) (ev 2) (by with_unfolding_all rfl)) (um7 (u25 (x_lt) (e_ix x_ix (ev 1) u03) (e_ix x_ix (ug7 hr (ev 2) (ev 0)) u03) (nomark _))))) (u07 (ue8 hr (ev 2) (ev 0) (ev 1))) u30))) (fun ds G R h=>?_)
 ·obtain ⟨b,o,e,B,rfl,_⟩:=h;rfl
 ·obtain ⟨b,o,e,B,rfl,hb,hn,hl,p1,p2⟩:=h
  have hlv:(vlD enF B).length < sizeLine:=Nat.lt_of_le_of_lt (m:=1000) (by unfold vlD;rw [List.length_map];exact hl) (by decide);simp! [id];refine ⟨.inl (o:Int),vlD enF B,b,rfl,rfl,.inl hb,?_⟩;rw [u47];cases hg:gtA B o with
  | none =>
   simp! [uw3];refine (if_pos rfl).mpr ⟨b,vlD enF B,.inl (o:Int),rfl,rfl,hb,hlv,?_⟩;rw [uq4 enF hn];exact p1 fun e' z=>by rw [hg] at z;cases z
  | some e' =>
   simp! [uw3,uw4];refine (if_neg (by simp)).mpr ?_
   show ∃ a kvs k d,_
   refine ⟨b,vlD enF B,.inl (o:Int),enF e',rfl,rfl,hb,by rw [u47,hg];rfl,?_⟩;unfold enF;simp! [id]
   by_cases hc:e.1 < e'.1
   ·simp! [hc]
    refine ⟨b,vlD enF B,.inl (o:Int),rfl,rfl,hb,hlv,?_⟩
    show R D.non (gup G b (DO.dic (uj3 (vlD enF B) (.inl (o:Int)) (enF e))))
    rw [uq4 enF hn];exact p1 fun e2 z=>by rw [hg] at z;cases z;exact hc
   ·simp! [hc]
    exact p2 e' hg hc
theorem wa6 {n:Nat} (G_jae:Ok P w mg base n T.f_jae (vf7 T)) (G_jaw:Ok P w mg base n T.f_jaw (vf4 T)) (G_see:Ok P w mg base n T.f_see (wg3 T)):Ok P w mg base (n+1) T.f_jaf (w04 T):=by
 obtain ⟨fcc,fhd,fco⟩:=T.far_cc;have fco:=fco _ T.g_cheapest;refine vx3 T.f_jaf sc_jaf (fun ds G R h=>?_) (fun cdv A outer s H E hcc hr =>
   (u02 (u16 2 sc_jaf.nd v54)
   (u02 (u16 3 sc_jaf.nd (v55 u03 (u60 (u00 u03 (u00 vd7 u05)))))
   (u02 (un2 (u25 (x_gt) (u12 w10 rfl T.b_len (by decide) (u00 (ev 3) u05)) u03 (nomark _)) (u02 (u16 4 sc_jaf.nd (v51 (i:=3) (c:=fcc) (P:=77) (bm:=4) (qn:=qnF) hr rfl T.b_min (by decide) (u00 (ev 3) u05) (Option.some.inj (hcc.symm.trans fco)) (fun h hK=>W.codeHd_of_K hK fhd) T.far_bm (by decide) (by decide) rfl rfl rfl (fun cell h=>ve3 rfl h) rfl (fun _ _ _ _ _ _ _=>rfl) rfl (by decide) rfl rfl rfl (by decide) (by decide) (by decide)))
   (u02 (ue8 hr (ev 2) (ev 4) (we9 (ev 3) (ev 4)))
   (u07 (u80 (ub8 (ec T.f_jaw T.g_moves_from G_jaw hr (u00 (ev 4) (u00 (u12 ua3 rfl T.b_len (by decide) (u00 (ev 0) u05)) (u00 (ev 1) u05))))) (u22 5 sc_jaf.nd) (u02 (u16 6 sc_jaf.nd (ec T.f_jae T.g_behind G_jae hr (u00 (ev 5) (u00 (ev 4) u05))))
   (u07 (s_if (u25 (u75 hr) (ev 6) (ev 2) (by with_unfolding_all rfl)) (u07 (ua8 (ec T.f_see T.g_see G_see hr (u00 (ev 6) (u00 (u60 (u00 (u08 u32 (e_ix x_ix (ug7 hr (ev 2) (ev 4)) u03) (e_ix x_ix (ev 0) (u08 u38 (e_ix x_ix (ev 5) u03) u03))) (u00 (ev 5) u05))) (u00 (ev 3) u05)))))) u30))))))))
   (u07 (u19 (ev 2))))))) (fun ds G R h=>?_)
 ·obtain ⟨b,pl,s,rfl,_⟩:=h;rfl
 ·obtain ⟨b,pl,s',rfl,htb,hb,h8,hpos,post⟩:=h
  simp! [v64,vy0];intro q hq;dsimp! [id];intro d hd;have nqd:q ≠ d:=gne u01 hd;refine ⟨by decide,u01,.inl 0,rfl,?_⟩;rw [u23];have g1:Grow G (gup (gup G q (.dic [])) d (.dic (vlD enF [(0,(0,none))]))):=(Grow.refl.new hq).new hd;have fd:G d=none:=(Grow.refl.new (o:=.dic []) hq).none hd;have nbq:b ≠ q:=gne hb hq;have nbd:b ≠ d:=gne hb fd;have h256:2 ^ pl.length<=256:=Nat.pow_le_pow_right (n:=2) (by decide) h8;have hc0:∀ i,0<=cf pl i:=v67 fun x hx=>(hpos x hx).1
  dsimp! [id];refine ua4 (fun m σ G'=>∃ (A B:List (Nat × Etr)) (t:Int) (v4 v5 v6:Option D),2 ^ pl.length<=m+A.length /\ Grow G G' /\ G' q=some (.dic (vlD enF A)) /\ G' d=some (.dic (vlD enF B)) /\ Dq pl.length s' (cf pl) A B t (fun _ _=>False) /\ σ=[some (.ref b),some (.int (s':Int)),some (.ref q),some (.ref d),v4,v5,v6])
   (m:=1000) ⟨[],[(0,(0,none))],0,none,none,none,by show 2 ^ pl.length<=1000+0;omega,g1,by rw [u06 nqd];exact u01,u01,Dq.start,rfl⟩ ?_
  rintro m σ G2 N ⟨A,B,t,v4,v5,v6,hm,g2,kq,kd,hD,rfl⟩ ih;obtain ⟨nA,nB,nAB⟩:=hD.nd;have few:=hD.few;have hlB:(vlD enF B).length=B.length:=by unfold vlD;rw [List.length_map]
  have hlA:(vlD enF A).length=A.length:=by unfold vlD;rw [List.length_map]
  simp! [id];refine ⟨d,vlD enF B,rfl,kd,?_⟩
  by_cases hL:B=[]
  ·subst hL
   have e0:(((vlD enF ([]:List (Nat × Etr))).length:Int) > 0)=False:=eq_false (by rw [hlB];simp);simp! [e0];dsimp! [id];exact post q A t _ hq kq hD g2
  have hlp:0 < B.length:=List.length_pos_iff.mpr hL;have e0:(((vlD enF B).length:Int) > 0)=True:=eq_true (by rw [hlB];omega);simp! [e0,uh3];obtain ⟨gf,gk⟩:∃ gf:Int->Int,∀ (x:Nat) (e:Etr),gtA B x=some e->gf (x:Int)=e.1:=⟨fun k=>((gtA B k.toNat).map Prod.fst).getD 0,fun x e z=>by show ((gtA B ((x:Int).toNat)).map Prod.fst).getD 0=_;rw [Int.toNat_natCast,z];rfl⟩;have kin:∀ k ∈ B.map (fun p=>(p.1:Int)),∃ (x:Nat) (e:Etr),k=(x:Int) /\ gtA B x=some e:=fun k hk=>by
   obtain ⟨p,hp,rfl⟩:=List.mem_map.mp hk;obtain ⟨e,he⟩:=ga_mem.mp (List.mem_map_of_mem (f:=Prod.fst) hp);exact ⟨p.1,e,rfl,he⟩
  refine ⟨d,B.map (fun p=>(p.1:Int)),vlD enF B,gf,rfl,rfl,ue3 enF,kd,by rw [List.length_map];exact hlp,fun k hk=>?_,g2.kp _ _ htb,fun k hk hmin=>?_⟩
  ·obtain ⟨x,e,rfl,he⟩:=kin k hk
   exact ⟨[oM e.2],by rw [u47,he,gk x e he];rfl⟩
  obtain ⟨x,e,rfl,he⟩:=kin k hk;have hmn:∀ y u,gtA B y=some u->e.1<=u.1:=fun y u hu=>by
   have:=hmin (y:Int) (by
    obtain ⟨p,hp,ep⟩:=List.mem_map.mp (ga_mem.mpr ⟨u,hu⟩);exact List.mem_map.mpr ⟨p,hp,by rw [ep]⟩)
   rwa [gk x e he,gk y u hu] at this
  have D1:=hD.pop he hmn;have hxA:gtA (A++[(x,e)]) x=some e:=by
   have z:gtA A x=none:=by
    cases z:gtA A x with
    | none=>rfl
    | some v=>rw [nAB x (by rw [z];simp)] at he;cases he
   rw [u40,z]
   show (if x=x then some e else none)=some e
   rw [if_pos rfl]
  have hxlt:x < 2 ^ pl.length:=D1.lt (x:=x) (e:=e) (by rw [u40,hxA];rfl);have putA:ptA A x e=A++[(x,e)]:=by
   have z:gtA A x=none:=by
    cases z:gtA A x with
    | none=>rfl
    | some v=>rw [nAB x (by rw [z];simp)] at he;cases he
   clear hxA D1 hlA few hm hD kq nA nAB ih
   induction A with
   | nil=>rfl
   | cons p A ih2 =>
    unfold gtA at z
    by_cases w:p.1=x
    ·rw [if_pos w] at z;cases z
    ·rw [if_neg w] at z
     unfold ptA;rw [if_neg w,ih2 z];rfl
  simp! [uw3,vx6];refine ⟨⟨d,_,rfl,kd⟩,d,vlD enF B,.inl (x:Int),enF e,rfl,rfl,kd,by rw [u47,he];rfl,?_⟩;rw [vn5];refine ⟨q,vlD enF A,.inl (x:Int),rfl,rfl,by rw [u06 nqd];exact kq,Nat.lt_of_le_of_lt (m:=1000) (by omega) (by decide),?_⟩;rw [uq4 enF nA,putA];obtain ⟨G4,hG4⟩:∃ G4,G4=gup (gup G2 d (.dic (vlD enF (drA B x)))) q (.dic (vlD enF (A++[(x,e)]))):=⟨_,rfl⟩;have kq5:G4 q=some (.dic (vlD enF (A++[(x,e)]))):=by rw [hG4];exact u01
  have kd5:G4 d=some (.dic (vlD enF (drA B x))):=by rw [hG4,u06 (Ne.symm nqd)];exact u01
  have g5:Grow G G4:=by rw [hG4];exact (g2.own fd).own hq
  have kb5:G4 b=some (.lst (pl.map .int)):=g5.kp _ _ hb;rw [<- hG4];clear hG4 kd kq;dsimp! [kb5,List.length_map];refine vl9 T (m:=x) (s:=s') hxlt (by omega) fun qm ps G5 f5 k6 hps g6=>?_
  simp! [k6];have nqm:q ≠ qm:=gne kq5 f5;have ndm:d ≠ qm:=gne kd5 f5;refine u27 (fun r σ G'=>∃ (l r':List Mv) (B1:List (Nat × Etr)) (v5 v6:Option D),l++r'=ps /\ r=r'.map mD /\ Grow G G' /\ G' qm=some (.lst (ps.map mD)) /\ G' q=some (.dic (vlD enF (A++[(x,e)]))) /\ G' d=some (.dic (vlD enF B1)) /\ Dq pl.length s' (cf pl) (A++[(x,e)]) B1 e.1 (fun y k=>y=x /\ ¬ ∃ p,p ∈ l /\ k=p.2) /\ σ=[some (.ref b),some (.int (s':Int)),some (.ref q),some (.ref d),some (.int (x:Int)),v5,v6])
   ⟨[],ps,drA B x,v5,v6,rfl,rfl,g5.trans g6,k6,g6.kp _ _ kq5,g6.kp _ _ kd5,D1.weak fun y k z=>⟨z,fun ⟨_,w,_⟩=>by cases w⟩,rfl⟩ ?_ ?_
  ·rintro σ G6 ⟨l,r',B1,v5,v6,e1,e2,g7,k7,kq7,kd7,D2,rfl⟩
   have ht:r'=[]:=by simpa using e2.symm
   subst ht;rw [List.append_nil] at e1;subst e1;refine ⟨by rw [k7];rfl,?_⟩;obtain ⟨m',rfl⟩:∃ m',m=m'+1:=⟨m - 1,by omega⟩;exact ih _ _ m' rfl ⟨_,B1,e.1,_,_,_,by rw [List.length_append,List.length_singleton];omega,g7,kq7,kd7,D2.all fun p hp=>(hps p).mpr hp,rfl⟩
  ·rintro z r σ G6 ⟨l,r',B1,v5,v6,e1,e2,g7,k7,kq7,kd7,D2,rfl⟩ ih2
   cases r' with
   | nil=>cases e2
   | cons p r' =>
    cases e2;refine ⟨by rw [k7];rfl,?_⟩;have hp:p ∈ ps:=by rw [<- e1];simp
    have lp:=(hps p).mp hp;have hkn:p.2 - 1 < pl.length:=by have:=lp.1;omega
    have hk1:1<=p.2:=lp.1.1;have kb7:G6 b=some (.lst (pl.map .int)):=g7.kp _ _ hb;have hat:atI (pl.map D.int) ((p.2:Int) - 1)=some (.int (cf pl (p.2 - 1))):=by
     rw [show (p.2:Int) - 1=((p.2 - 1:Nat):Int) by omega];refine u53 ?_;rw [List.getElem?_map,List.getElem?_eq_getElem hkn,uw5 hkn];rfl
    have hokm:okm x (some p):=⟨⟨hk1,by have:=lp.1.2;omega⟩,lp.2.2.1⟩;have hc1:=hc0 (p.2 - 1);have wk_:∀ y k',((y=x /\ ¬ ∃ p0,p0 ∈ l /\ k'=p0.2) /\ ¬ (y=x /\ k'=p.2))->y=x /\ ¬ ∃ p0,p0 ∈ l++[p] /\ k'=p0.2:=fun y k' ⟨⟨h1,h2⟩,h3⟩=>⟨h1,fun ⟨k0,z1,z2⟩=>by
     rcases List.mem_append.mp z1 with z | z
     ·exact h2 ⟨k0,z,z2⟩
     ·rw [List.mem_singleton.mp z] at z2;exact h3 ⟨h1,z2⟩⟩
    simp! [id];refine wf9 T hokm ?_;simp! [id];refine ⟨.inl ((xr x p.2:Nat):Int),vlD enF (A++[(x,e)]),q,rfl,rfl,.inl kq7,?_⟩;rw [u47];have next:∀ B2 G7,Grow G G7->G7 qm=some (.lst (ps.map mD))->G7 q=some (.dic (vlD enF (A++[(x,e)])))->G7 d=some (.dic (vlD enF B2))->Dq pl.length s' (cf pl) (A++[(x,e)]) B2 e.1 (fun y k=>(y=x /\ ¬ ∃ p,p ∈ l /\ k=p.2) /\ ¬ (y=x /\ k=p.2))->∃ (l r2:List Mv) (B1:List (Nat × Etr)) (v5 v6:Option D),l++r2=ps /\ r'.map mD=r2.map mD /\ Grow G G7 /\ G7 qm=some (.lst (ps.map mD)) /\ G7 q=some (.dic (vlD enF (A++[(x,e)]))) /\ G7 d=some (.dic (vlD enF B1)) /\ Dq pl.length s' (cf pl) (A++[(x,e)]) B1 e.1 (fun y k=>y=x /\ ¬ ∃ p,p ∈ l /\ k=p.2) /\ [some (.ref b),some (.int (s':Int)),some (.ref q),some (.ref d),some (.int (x:Int)),some (mD p),some (.int ((xr x p.2:Nat):Int))]=[some (.ref b),some (.int (s':Int)),some (.ref q),some (.ref d),some (.int (x:Int)),v5,v6] :=
     fun B2 G7 h1 h2 h3 h4 h5=>⟨l++[p],r',B2,_,_,by rw [<- e1,List.append_assoc];rfl,rfl,h1,h2,h3,h4,h5.weak wk_,rfl⟩
    cases hg:gtA (A++[(x,e)]) (xr x p.2) with
    | some o =>
     refine (if_neg (by simp)).mpr ?_;have hle:o.1<=e.1:=D2.d.lo (y:=xr x p.2) (by rw [u37,u40,hg];rfl) (ga_no.mp (D2.nd.2.2 _ (by rw [hg];simp)));exact ih2 _ _ (next B1 G6 g7 k7 kq7 kd7 (D2.old hxA lp hc1 (by rw [u40,hg];rfl) (by omega)))
    | none =>
     refine (if_pos rfl).mpr ?_;simp! [uw4];refine ⟨q,_,.inl (x:Int),enF e,rfl,rfl,kq7,by rw [u47,hxA];rfl,?_⟩;unfold enF mD pD mP;have s2:(2<=sizeLine)=True:=eq_true (by decide);simp! [kb7,u11,hat,s2];refine u21 (post:=fun d2 G7=>(G7=gup G6 d (.dic (vlD enF (ptA B1 (xr x p.2) (e.1+cf pl (p.2 - 1),some p)))) /\ ∀ e',gtA B1 (xr x p.2)=some e'->e.1+cf pl (p.2 - 1) < e'.1) \/ (G7=G6 /\ ∃ e',gtA B1 (xr x p.2)=some e' /\ ¬ e.1+cf pl (p.2 - 1) < e'.1)) (fun R h'=>⟨d,xr x p.2,(e.1+cf pl (p.2 - 1),some p),B1,rfl,kd7,D2.nd.2.1,by have:=D2.few;omega,fun z=>h' _ _ (.inl ⟨rfl,z⟩),fun e' z1 z2=>h' _ _ (.inr ⟨rfl,e',z1,z2⟩)⟩) fun d2 G7 hz=>?_
     rcases hz with ⟨rfl,hz⟩ | ⟨rfl,e',z1,z2⟩
     ·refine ih2 _ _ (next _ _ (g7.own fd) ?_ ?_ u01 (D2.put hxA lp hc1 hg hz))
      ·rw [u06 (Ne.symm ndm)];exact k7
      ·rw [u06 nqd];exact kq7
     ·exact ih2 _ _ (next B1 _ g7 k7 kq7 kd7 (D2.old hxA lp hc1 (by rw [u40,hg,z1];rfl) (by omega)))
theorem wa4 {n:Nat} (G_jaf:Ok P w mg base n T.f_jaf (w04 T)):Ok P w mg base (n+1) T.f_jah (w02 T):=by
 refine u17 T.f_jah sc_jah (fun ds G R h=>?_) (fun cdv A outer s H E hr =>
   (u02 (u16 2 sc_jah.nd (ec T.f_jaf T.g_cheapest G_jaf hr (u00 (ev 0) (u00 (ev 1) u05))))
   (u02 (u16 3 sc_jah.nd v54)
   (u02 (u80 (ub8 (u12 (ui2 hr) rfl T.b_sorted (by decide) (u00 (ev 2) u05))) (u22 4 sc_jah.nd) (u07 (ue8 hr (ev 3) (ev 4) (e_ix x_ix (ug7 hr (ev 2) (ev 4)) u03))))
   (u07 (u19 (ev 3))))))) (fun ds G R h=>?_)
 ·obtain ⟨b,pl,s,rfl,_⟩:=h;rfl
 ·obtain ⟨b,pl,s',rfl,htb,hb,h8,hpos,post⟩:=h
  simp! [id];refine wm2 T htb hb h8 hpos fun qf A t G1 f1 k1 hD g1=>?_
  have h256:2 ^ pl.length<=256:=Nat.pow_le_pow_right (n:=2) (by decide) h8;obtain ⟨nA,_,_⟩:=hD.nd;have few:=hD.few;simp! [vy0];intro qt ht;have nft:qf ≠ qt:=gne k1 ht;have ft:G qt=none:=g1.none ht;dsimp! [id];refine ⟨qf,A.map (fun p=>(p.1:Int)),rfl,.inr ⟨vlD enF A,ue3 enF,.inl (by rw [u06 nft];exact k1)⟩,fun ql ns' hl hpm hpw=>?_⟩;have ntl:qt ≠ ql:=gne u01 hl;have nfl:qf ≠ ql:=gne (by rw [u06 nft];exact k1) hl;obtain ⟨xs,hxs⟩:∃ xs:List Nat,ns'=xs.map (fun x:Nat=>(x:Int)):=by
   refine ⟨ns'.map Int.toNat,?_⟩;rw [List.map_map]
   conv=>lhs;rw [<- List.map_id ns']
   refine List.map_congr_left fun z hz=>?_
   obtain ⟨p,_,rfl⟩:=List.mem_map.mp (hpm.mem_iff.mp hz);simp
  subst hxs;have hxp:xs.Perm (A.map Prod.fst):=by
   have:=hpm.map Int.toNat;simpa [List.map_map,Function.comp_def] using this
  have hxn:xs.Nodup:=hxp.nodup_iff.mpr nA;have hxw:xs.Pairwise (· < ·):=by
   have h1:xs.Pairwise (·<=·):=by
    rw [List.pairwise_map] at hpw;exact hpw.imp fun h=>by omega
   exact (h1.and hxn).imp fun ⟨a,b⟩=>by omega
  simp! [id];refine u27 (fun r σ G'=>∃ (l r':List Nat) (W:List (Nat × Int)) (v4:Option D),l++r'=xs /\ r=r'.map nD /\ Grow G G' /\ G' ql=some (.lst (xs.map nD)) /\ G' qf=some (.dic (vlD enF A)) /\ G' qt=some (.dic (vlD D.int W)) /\ W.map Prod.fst=l /\ (∀ x ∈ l,gtA W x=(gtA A x).map Prod.fst) /\ σ=[some (.ref b),some (.int (s':Int)),some (.ref qf),some (.ref qt),v4])
   ⟨[],xs,[],none,rfl,by simp [nD,List.map_map],(g1.new ht).new hl,by rw [u01];simp [nD,List.map_map],by rw [u06 nfl,u06 nft];exact k1,by rw [u06 ntl];exact u01,rfl,(fun x hx=>by cases hx),rfl⟩ ?_ ?_
  ·rintro σ G' ⟨l,r',W,v4,e1,e2,g2,kl,kf,kt,hW,hg,rfl⟩
   have hz:r'=[]:=by simpa using e2.symm
   subst hz;rw [List.append_nil] at e1;subst e1;refine ⟨by rw [kl];show some _=_;rw [uj6],?_⟩;dsimp! [id];refine post qt W G' ft kt (by rw [hW];exact hxw) (fun x v=>?_) ?_ g2
   ·rw [<- hD.iff]
    by_cases hx:x ∈ l
    ·rw [hg x hx]
    ·have h1:gtA W x=none:=ga_no.mpr (by rw [hW];exact hx)
     have h2:gtA A x=none:=ga_no.mpr fun z=>hx (hxp.mem_iff.mpr z)
     rw [h1,h2];simp
   ·have:=hxp.length_eq
    rw [<- hW,List.length_map,List.length_map] at this;simp at few;omega
  ·rintro z r σ G' ⟨l,r',W,v4,e1,e2,g2,kl,kf,kt,hW,hg,rfl⟩ ih
   cases r' with
   | nil=>cases e2
   | cons x r' =>
    cases e2;refine ⟨by rw [kl];show some _=_;rw [uj6],?_⟩;have hx:x ∈ A.map Prod.fst:=hxp.mem_iff.mp (by rw [<- e1];simp);obtain ⟨e,he⟩:=ga_mem.mp hx;have hxl:¬ x ∈ l:=fun w=>by
     rw [<- e1,List.nodup_append] at hxn;exact hxn.2.2 x w x (by simp) rfl
    have hWn:gtA W x=none:=ga_no.mpr (by rw [hW];exact hxl);have nW:(W.map Prod.fst).Nodup:=by rw [hW];rw [<- e1,List.nodup_append] at hxn;exact hxn.1
    have hlW:W.length<=1000:=by
     have h1:=congrArg List.length hW;have h2:=congrArg List.length e1;have h3:=hxp.length_eq;simp at h1 h2 h3 few;omega
    simp! [uw4,uw3,nD];refine ⟨qf,_,.inl (x:Int),enF e,rfl,rfl,kf,by rw [u47,he];rfl,?_⟩;unfold enF;simp! [id];refine ⟨qt,_,.inl (x:Int),rfl,rfl,kt,Nat.lt_of_le_of_lt (m:=1000) (by unfold vlD;rw [List.length_map];exact hlW) (by decide),?_⟩;rw [uq4 D.int nW];refine ih _ _ ⟨l++[x],r',ptA W x e.1,_,by rw [<- e1,List.append_assoc];rfl,rfl,g2.own ft,?_,?_,u01,?_,fun y hy=>?_,rfl⟩
    ·rw [u06 (Ne.symm ntl)];exact kl
    ·rw [u06 nft];exact kf
    ·rw [ua9,if_neg (ga_no.mp hWn),hW]
    ·rw [vw6]
     by_cases w:x=y
     ·rw [if_pos w,<- w,he];rfl
     ·rw [if_neg w]
      rcases List.mem_append.mp hy with hy | hy
      ·exact hg y hy
      ·exact absurd (List.mem_singleton.mp hy).symm w
theorem w88 {n:Nat}:Ok P w mg base (n+1) T.f_jax (vf3 T):=by
 refine u17 T.f_jax vi7 (fun ds G R h=>?_) (fun cdv A outer s H E hr =>
   (u07 (u19 (u08 u38 (u08 um3 u03 (ev 0)) u03)))) (fun ds G R h=>?_)
 ·obtain ⟨s,rfl,_⟩:=h;rfl
 ·obtain ⟨s,rfl,hs,post⟩:=h
  have cp:CPow 1 (s:Int):=uc2 (by omega) (by omega);have e2:(1 * 2 ^ s - 1:Int)=(cap s false:Int):=by
   cases s with
   | zero=>rfl
   | succ s =>
    have:=Nat.two_pow_pos (s+1)
    show _=((2 ^ (s+1) - 1:Nat):Int)
    rw [Int.natCast_sub (by omega)];simp
  simp! [cp,e2];exact post
theorem wa9 {n:Nat}:Ok P w mg base (n+1) T.f_jac (v80 T):=by
 refine u17 T.f_jac vj3 (fun ds G R h=>?_) (fun cdv A outer s H E hr =>
   (u07 (u19 (e_if (u25 (x_gt) (ev 0) u03 (nomark _)) (u08 um3 u03 (u08 u38 (ev 0) u03)) u03)))) (fun ds G R h=>?_)
 ·obtain ⟨s,rfl,_⟩:=h;rfl
 ·obtain ⟨s,rfl,hs,post⟩:=h
  cases s with
  | zero =>
   simp! [id];exact post
  | succ s =>
   have e1:((s+1:Nat):Int) - 1=(s:Int):=by omega
   have cp:CPow 1 (s:Int):=uc2 (by omega) (by omega);have p0:((0:Int) < ((s+1:Nat):Int))=True:=eq_true (by omega);have e2:(1 * 2 ^ s:Int)=(cap (s+1) true:Int):=by show _=((2 ^ s:Nat):Int);simp
   simp! [p0,e1,cp,e2];exact post
theorem w83 {n:Nat}:Ok P w mg base (n+1) T.f_jbc (vz3 T):=by
 refine u17 T.f_jbc vi3 (fun ds G R h=>?_) (fun cdv A outer s H E hr =>
   (u07 (u19 (e_if (u25 (wh6 hr) (ev 1) (ev 0) (by with_unfolding_all rfl)) (e_ix x_ix (u91 hr (ev 0) (ev 1)) u03) vd7)))) (fun ds G R h=>?_)
 ·obtain ⟨a,ks,kvs,rfl,_⟩:=h;rfl
 ·obtain ⟨a,ks,kvs,rfl,ha,h1,h2⟩:=h
  simp! [id];refine ⟨ks,kvs,a,rfl,rfl,ha,?_⟩;cases e:valD kvs ks with
  | none =>
   simp! [id];exact h2 e
  | some d =>
   obtain ⟨w,m,rfl,hr⟩:=h1 d e;simp! [uh5];refine ⟨a,kvs,ks,_,rfl,rfl,ha,e,?_⟩;simp! [vD];exact hr
theorem wb0 {n:Nat}:Ok P w mg base (n+1) T.f_jab (wh1 T):=by
 refine u17 T.f_jab vj4 (fun ds G R h=>?_) (fun cdv A outer s H E hr =>
   (u07 (u19 (u08 u32 (u08 u32 (e_ix x_ix (u91 hr (ev 4) (u60 (u00 (ev 0) (u00 (ev 1) (u00 (ev 2) u05))))) u03) (e_ix x_ix (u91 hr (ev 4) (u60 (u00 (u08 u38 (ev 0) u03) (u00 (ev 2) (u00 (ev 3) u05))))) u03)) (e_ix x_ix (u91 hr (ev 4) (u60 (u00 (u08 u38 (ev 0) u03) (u00 (ev 1) (u00 (ev 2) u05))))) u03))))) (fun ds G R h=>?_)
 ·obtain ⟨a,p,b,m,e,kvs,w1,w2,w3,m1,m2,m3,rfl,_⟩:=h;rfl
 ·obtain ⟨a,p,b,m,e,kvs,w1,w2,w3,m1,m2,m3,rfl,ha,hp,e1,e2,e3,post⟩:=h
  have ep:(p:Int) - 1=((p - 1:Nat):Int):=by omega
  simp! [uh5,ep];refine ⟨by decide,a,kvs,k3 p b m,_,rfl,rfl,ha,e1,?_⟩;simp! [uh5,vD,ep];refine ⟨by decide,a,kvs,k3 (p - 1) m e,_,rfl,rfl,ha,e2,?_⟩;simp! [uh5,vD,ep];refine ⟨by decide,a,kvs,k3 (p - 1) b m,_,rfl,rfl,ha,e3,?_⟩;simp! [uh5,vD,ep];exact post
theorem w94 {n:Nat} (G_jac:Ok P w mg base n T.f_jac (v80 T)) (G_jab:Ok P w mg base n T.f_jab (wh1 T)):Ok P w mg base (n+1) T.f_jar (wg9 T):=by
 refine u17 T.f_jar sc_jar (fun ds G R h=>?_) (fun cdv A outer s H E hr =>
   (u02 (s_if (u25 (x_eq hr) (u08 u38 (ev 3) (ev 2)) u03 (nomark _)) (u07 (u19 (u60 (u00 (e_ix x_ix (ev 0) (ev 2)) (u00 (ev 3) u05))))) u30)
   (u02 (u16 5 sc_jar.nd (ec T.f_jac T.g_alone_reach G_jac hr (u00 (u08 u38 (ev 1) u03) u05)))
   (u02 (u16 6 sc_jar.nd (uk8 hr rfl T.b_range rfl T.b_list (u00 (u12 vg1 rfl T.b_max (by decide) (u00 (u08 u32 (ev 2) u03) (u00 (u08 u38 (ev 3) (ev 5)) u05))) (u00 (u08 u32 (u12 uq0 rfl T.b_min (by decide) (u00 (u08 u38 (ev 3) u03) (u00 (u08 u32 (ev 2) (ev 5)) u05))) u03) u05))))
   (u07 (u19 (u12 (vg0 hr) rfl T.b_min (by decide) (u00 (uc1 (N':=["middle", "places", "begin", "end", "table"]) (ix:=[none,some 1,some 2,some 3,some 4]) (blk (osc:=u04 v88) (N:=["costs", "places", "begin", "end", "table", "most", "middles"]) rfl rfl (by decide)) (ub8 (ev 6)) (fun _ _ _ _=>(u22 0 (show (["middle", "places", "begin", "end", "table"]:List Str).Nodup by decide))) (fun _ _ _ _=>ub7) (fun _ _ _ _=>(u60 (u00 (ec T.f_jab T.g_alone_by G_jab hr (u00 (ev 1) (u00 (ev 2) (u00 (ev 0) (u00 (ev 3) (u00 (ev 4) u05)))))) (u00 (ev 0) u05))))) u05)))))))) (fun ds G R h=>?_)
 ·obtain ⟨c,a,p,b,e,pl,kvs,Dm,rfl,_⟩:=h;rfl
 ·obtain ⟨c,a,p,b,e,pl,kvs,Dm,rfl,hc,ha,hT,hp,hp2,hb,he,hl,hcap,dl,dh,post⟩:=h
  by_cases h1:e - b=1
  ·have e1:(e:Int) - (b:Int)=1:=by omega
   simp! [e1,hc,u11];have hbl:b < pl.length:=by omega
   rw [show atI (pl.map D.int) (b:Int)=some (.int pl[b]) from u53 (by simp [hbl])];refine ⟨by decide,post _ e G .refl ?_⟩;have e3:e=b+1:=by omega
   subst e3;obtain ⟨r,rfl⟩:∃ r,p=r+1:=⟨p - 1,by omega⟩;rw [<- uw5 hbl];exact ⟨LeastA.one,by unfold mA;rw [if_pos (by omega)],fun h=>absurd (by omega) h⟩
  ·have e1:¬ ((e:Int) - (b:Int)=1):=by omega
   have hp1:2<=p:=by
    rcases Nat.lt_or_ge p 2 with h | h
    ·have:p=1:=by omega
     subst this;rw [v68] at hcap;omega
    ·exact h
   have ep:(p:Int) - 1=((p - 1:Nat):Int):=by omega
   simp! [ep];rw [if_neg (by simpa using e1)];dsimp! [ep];refine ui0 T (by omega) ?_;dsimp! [ua0];have hc2:=(uh8 hp1).1;obtain ⟨L,C,eL,eC,hm,hL1,hh1,hh2⟩:=v14 (b:=b) (e:=e) (x:=cap (p - 1) true) (y:=cap (p - 1) true) (by omega) (by omega) (u92 (by omega)) (u92 (by omega));rw [eL,eC];refine ⟨⟨by omega,by omega,by omega,by omega⟩,fun l hll=>?_⟩;obtain ⟨G1,hG1⟩:∃ G1,G1=gup G l (.lst (rngD (L:Int) (C+1))):=⟨_,rfl⟩;have g1:Grow G G1:=by rw [hG1];exact Grow.refl.new hll
   have kl:G1 l=some (.lst (rngD (L:Int) (C+1))):=by rw [hG1];exact u01
   rw [<- hG1];dsimp! [kl,u11];intro q hq;have kl2:∀ {o:DO},gup G1 q o l=some (.lst (rngD (L:Int) (C+1))):=fun {o}=>by rw [u06 (gne kl hq)];exact kl
   have ka2:∀ {o:DO},gup G1 q o a=some (.dit kvs):=fun {o}=>by rw [u06 (gne (g1.kp _ _ ha) hq)];exact g1.kp _ _ ha
   refine u39 (fun r σ G'=>∃ (i n:Nat) (ts:List (List Int)) (v:Option D),i+n=C+1 /\ r=rngD ((L+i:Nat):Int) n /\ G'=gup G1 q (.lst (ts.map fun t=>.tup (t.map .int))) /\ ts.length=i /\ (∀ t ∈ ts,∃ (W:Int) (m:Nat),t=[W,(m:Int)] /\ ∃ w1 w2 w3,LeastA (cf pl) p b m w1 /\ LeastA (cf pl) (p - 1) m e w2 /\ LeastA (cf pl) (p - 1) b m w3 /\ W=w1+w2+w3) /\ (∀ j,L<=j->j < L+i->∃ W:Int,[W,(j:Int)] ∈ ts) /\ σ=[v,some (.int (p:Int)),some (.int (b:Int)),some (.int (e:Int)),some (.ref a)]) ⟨0,C+1,[],none,by omega,rfl,rfl,rfl,by simp,fun j x y=>by omega,rfl⟩ ?_ ?_
   ·rintro σ G' ⟨i,n,ts,v,e1,e2,rfl,hl2,hts,hall,rfl⟩
    have hn0:n=0:=by
     cases n with
     | zero=>rfl
     | succ n=>rw [u09] at e2;cases e2
    refine ⟨by rw [kl2],q,ts,rfl,by rw [u01];rfl,by (clear hall hts e2 ka2 kl2 hq kl hG1 hll hh2 hh1 hL1 hm eC eL hc2 ep hp1 h1 post dh dl hcap hl he hb hp2 hp ha hc;omega),fun t ht hmin=>?_⟩;obtain ⟨W,m,rfl,w1,w2,w3,q1,q2,q3,rfl⟩:=hts t ht;refine post _ m _ (g1.new hq) ?_;have hless:∀ (m':Nat),b < m'->m' < e->m' - b<=cap (p - 1) true->e - m'<=cap (p - 1) true->∃ u1 u2 u3,LeastA (cf pl) p b m' u1 /\ LeastA (cf pl) (p - 1) m' e u2 /\ LeastA (cf pl) (p - 1) b m' u3 /\ w1+w2+w3<=u1+u2+u3:=by
     intro m' y1 y2 y3 y4;have z:L<=m' /\ m' < L+(C+1):=by
      split at eL <;> split at eC <;> omega
     obtain ⟨W',hW'⟩:=hall m' z.1 (by (clear y4 y3 y2 y1 hmin hall hts e2 ka2 kl2 hq kl hG1 hll hh2 hh1 hL1 hm eC eL hc2 ep hp1 h1 post dh dl hcap hl he hb hp2 hp ha hc;omega));obtain ⟨W2,m2,e4,u1,u2,u3,r1,r2,r3,rfl⟩:=hts _ hW';have e5:W'=u1+u2+u3 /\ m'=m2:=by simp at e4;(clear z y4 y3 y2 y1 hmin hn0 hall hts hl2 e2 e1 ka2 kl2 hq kl hG1 hll hh2 hh1 hL1 hm eC eL hc2 ep hp1 h1 post dh dl hcap hl he hb hp2 hp ha hc;omega)
     obtain ⟨e6,e7⟩:=e5;subst e6;subst e7;refine ⟨u1,u2,u3,r1,r2,r3,vk9 (hmin _ hW')⟩
    have fin:∀ r,p=r+1->LeastA (cf pl) p b e (w1+w2+w3):=by
     intro r hr;subst hr;exact LeastA.two (by (clear hless hts hh2 hh1 hm ep hp1 post dh dl hcap hp2 hp hmin hall e2 ka2 kl2 hq kl hG1 hll hL1 h1 hl he ha hc;omega)) ⟨m,w1,w2,w3,q1,q2,q3,rfl⟩ hless
    refine ⟨fin (p - 1) (by omega),?_,fun _=>⟨w1,w2,w3,q1,q2,q3,rfl⟩⟩;unfold mA;rw [if_neg h1];exact ⟨hp1,q1.1.lt.1,q2.1.lt.1,q3.1.cap,q2.1.cap⟩
   ·rintro z r σ G' ⟨i,n,ts,v,e1,e2,rfl,hl2,hts,hall,rfl⟩ ih
    cases n with
    | zero=>cases e2
    | succ n =>
     rw [u09] at e2;cases e2;have hmi:=hm (L+i) (by omega) (by (clear ih hall hts hl2 ka2 kl2 hq kl hG1 hll hh2 hh1 hL1 hm eC eL hc2 ep hp1 h1 post dh dl hcap hl he hb hp2 hp ha hc;omega));refine ⟨by rw [kl2],?_⟩;simp! [id];obtain ⟨w1,m1,v1,q1,_⟩:=(hT p b (L+i)).1 (dh _ _ hmi.1 (by omega) (by (clear ih hall hts ka2 kl2 hq kl hG1 hll hh2 hh1 hm hc2 post dh dl hcap hl he ha hc;omega)) (by omega));obtain ⟨w2,m2,v2,q2,_⟩:=(hT (p - 1) (L+i) e).1 (dl _ _ hp1 hmi.2.1 (by omega) hmi.2.2.2);obtain ⟨w3,m3,v3,q3,_⟩:=(hT (p - 1) b (L+i)).1 (dl _ _ hp1 hmi.1 (by omega) hmi.2.2.1);refine u35 (v:=.int (w1+w2+w3)) (G1:=gup G1 q (.lst (ts.map fun t=>.tup (t.map .int)))) (fun R h=>⟨a,p,b,L+i,e,kvs,w1,w2,w3,m1,m2,m3,rfl,ka2,hp,v1,v2,v3,h⟩) ?_;simp! [u01,u23];refine ⟨by decide,by rw [List.length_map];exact Nat.lt_of_le_of_lt (m:=1000000) (by (clear v3 v2 v1 ih e1 hall hts ka2 kl2 hq kl hG1 hll hh2 hh1 hL1 hm eC eL hc2 ep hp1 h1 post dh dl hcap hb hp2 hp ha hc;omega)) (by decide),ih _ _ ⟨i+1,n,ts++[[w1+w2+w3,((L+i:Nat):Int)]],_,by (clear v3 v2 v1 hmi ih hall hts hl2 ka2 kl2 hq kl hG1 hll hh2 hh1 hL1 hm eC eL hc2 ep hp1 h1 post dh dl hcap hl he hb hp2 hp ha hc;omega),?_,?_,by simp [hl2],?_,?_,rfl⟩⟩
     ·congr 1
     ·rw [List.map_append];rfl
     ·intro t ht
      rcases List.mem_append.mp ht with h | h
      ·exact hts t h
      ·cases List.mem_singleton.mp h
       exact ⟨_,L+i,rfl,w1,w2,w3,q1,q2,q3,rfl⟩
     ·intro j x y
      rcases Nat.lt_or_ge j (L+i) with h | h
      ·obtain ⟨W,hW⟩:=hall j x h
       exact ⟨W,List.mem_append_left _ hW⟩
      ·have:j=L+i:=by (clear x v3 v2 v1 hmi ih e1 hall hts hl2 ka2 kl2 hq kl hG1 hll hh2 hh1 hL1 hm eC eL hc2 ep hp1 h1 post dh dl hcap hl he hb hp2 hp ha hc;omega)
       subst this;exact ⟨_,List.mem_append_right _ (List.mem_singleton.mpr rfl)⟩
theorem wa8 {n:Nat} (G_jac:Ok P w mg base n T.f_jac (v80 T)) (G_jar:Ok P w mg base n T.f_jar (wg9 T)):Ok P w mg base (n+1) T.f_jad (vf8 T):=by
 refine u17 T.f_jad sc_jad (fun ds G R h=>?_) (fun cdv A outer s H E hr =>
   (u02 (u16 2 sc_jad.nd v53)
   (u02 (u80 (ud3 rfl T.b_range (u00 u03 (u00 (u08 u32 (ev 1) u03) u05))) (u22 3 sc_jad.nd) (u07 (u80 (ud3 rfl T.b_range (u00 u03 (u00 (u08 u32 (u12 uq0 rfl T.b_min (by decide) (u00 (u12 ua3 rfl T.b_len (by decide) (u00 (ev 0) u05)) (u00 (ec T.f_jac T.g_alone_reach G_jac hr (u00 (ev 3) u05)) u05))) u03) u05))) (u22 4 sc_jad.nd) (u07 (u80 (ut0 rfl T.b_range (u00 (u08 u32 (u08 u38 (u12 ua3 rfl T.b_len (by decide) (u00 (ev 0) u05)) (ev 4)) u03) u05)) (u22 5 sc_jad.nd) (u07 (uz1 hr (ev 2) (u00 (ev 3) (u00 (ev 5) (u00 (u08 u32 (ev 5) (ev 4)) u05))) (ec T.f_jar T.g_least_alone G_jar hr (u00 (ev 0) (u00 (ev 3) (u00 (ev 5) (u00 (u08 u32 (ev 5) (ev 4)) (u00 (ev 2) u05)))))))))))))
   (u07 (u19 (ev 2)))))) (fun ds G R h=>?_)
 ·obtain ⟨c,s,pl,rfl,_⟩:=h;rfl
 ·obtain ⟨c,s,pl,rfl,hc,hl1,hl,hs,post⟩:=h
  simp! [vy1];intro q hq;have hcq:c ≠ q:=gne hc hq;dsimp! [id];rw [show ((s:Int)+1 - 1).toNat=s by omega];refine ⟨⟨by decide,by decide,by omega,by omega⟩,?_⟩;refine u27 (fun r σ G'=>∃ (P k:Nat) (kvs:List (List Key × D)) (v3 v4 v5:Option D),1<=P /\ P+k=s+1 /\ r=rngD (P:Int) k /\ Grow G G' /\ G' q=some (.dit kvs) /\ TAw (cf pl) (upA pl.length P 1 0) kvs /\ kvs.length<=(P * 32+1) * 32 /\ σ=[some (.ref c),some (.int (s:Int)),some (.ref q),v3,v4,v5]) ⟨1,s,[],none,none,none,by omega,by omega,rfl,Grow.refl.new hq,u01,?_,by simp,rfl⟩ ?_ ?_
  ·intro p b e
   refine ⟨fun h=>?_,fun _=>rfl⟩;obtain ⟨⟨x1,x2,x3,_⟩,x4⟩:=h;omega
  ·rintro σ G1 ⟨P,k,kvs,v3,v4,v5,hP,hk,e2,g1,k1,hT,hlen,rfl⟩
   have hk0:k=0:=by
    cases k with
    | zero=>rfl
    | succ n=>rw [u09] at e2;cases e2
   refine ⟨trivial,?_⟩;dsimp! [id];refine post q kvs G1 hq k1 (hT.congr fun p b e=>?_) g1;have:P=s+1:=by omega
   subst this;unfold upA inA
   constructor
   ·rintro ⟨⟨x1,x2,x3,x4,x5⟩,x6⟩
    exact ⟨x1,by omega,x3,x4,x5⟩
   ·rintro ⟨x1,x2,x3,x4,x5⟩
    exact ⟨⟨x1,by omega,x3,x4,x5⟩,by omega⟩
  ·rintro z r σ G1 ⟨P,k,kvs,v3,v4,v5,hP,hk,e2,g1,k1,hT,hlen,rfl⟩ ih
   cases k with
   | zero=>cases e2
   | succ k =>
    rw [u09] at e2;cases e2;refine ⟨trivial,?_⟩;simp! [g1.kp _ _ hc,u11,List.length_map];refine ui0 T (by omega) ?_;simp! [id];obtain ⟨K,hK,hK1,hK2,hK3⟩:∃ K:Nat,(if ((cap P true:Nat):Int) < (pl.length:Int) then ((cap P true:Nat):Int) else (pl.length:Int))=(K:Int) /\ K<=pl.length /\ K<=cap P true /\ ∀ x,x<=pl.length->x<=cap P true->x<=K:=by
     refine ⟨min (cap P true) pl.length,?_,by omega,by omega,by omega⟩;split <;> omega
    rw [hK,show ((K:Int)+1 - 1).toNat=K by (clear hK3 hK2 hK1 hK ih hk hlen k1 hP hcq hq post hs hl hl1 hc;omega)];refine ⟨⟨by decide,by decide,by omega,by omega⟩,?_⟩;refine u27 (fun r σ G'=>∃ (M k:Nat) (kvs:List (List Key × D)) (v4 v5:Option D),1<=M /\ M+k=K+1 /\ r=rngD (M:Int) k /\ Grow G G' /\ G' q=some (.dit kvs) /\ TAw (cf pl) (upA pl.length P M 0) kvs /\ kvs.length<=(P * 32+M) * 32 /\ σ=[some (.ref c),some (.int (s:Int)),some (.ref q),some (.int (P:Int)),v4,v5]) ⟨1,K,kvs,v4,v5,by omega,by omega,rfl,g1,k1,hT,by omega,rfl⟩ ?_ ?_
    ·rintro σ G2 ⟨M,k2,kv2,v4,v5,hM,hk2,e2,g2,k2',hT2,hlen2,rfl⟩
     have hk0:k2=0:=by
      cases k2 with
      | zero=>rfl
      | succ n=>rw [u09] at e2;cases e2
     refine ⟨trivial,ih _ _ ⟨P+1,k,kv2,_,_,_,by omega,by omega,by congr 1,g2,k2',hT2.congr fun p b e=>?_,by (clear k2' e2 hM hK3 hK2 hK ih hk hlen k1 hP hcq hq post hs hc;omega),rfl⟩⟩;unfold upA inA
     constructor
     ·rintro ⟨⟨x1,x2,x3,x4,x5⟩,x6⟩
      exact ⟨⟨x1,by omega,x3,x4,x5⟩,by omega⟩
     ·rintro ⟨⟨x1,x2,x3,x4,x5⟩,x6⟩
      have hp:p<=P:=by (clear x5 x4 x1 hk0 hlen2 k2' e2 hk2 hM hK3 hK2 hK1 hK ih hk hlen k1 hP hcq hq post hs hl hl1 hc;omega)
      refine ⟨⟨x1,hp,x3,x4,x5⟩,?_⟩
      rcases Nat.lt_or_ge p P with h | h
      ·exact .inl h
      ·have:p=P:=by omega
       subst this;have:=hK3 (e - b) (by (clear h hp x2 hlen2 hK3 hK2 ih hk hlen hP x1 k2' e2 k1 hcq hq post hs hl hl1 hc;omega)) x5;exact .inr (.inl (by (clear h hp x2 x6 hlen2 hK3 hK2 ih hk hlen hP x5 x4 x3 x1 k2' e2 hM hK1 k1 hcq hq post hs hl hl1 hc;omega)))
    ·rintro z r σ G2 ⟨M,k2,kv2,v4,v5,hM,hk2,e2,g2,k2',hT2,hlen2,rfl⟩ ih2
     cases k2 with
     | zero=>cases e2
     | succ k2 =>
      rw [u09] at e2;cases e2;refine ⟨trivial,?_⟩;simp! [g2.kp _ _ hc,u11,List.length_map];obtain ⟨Q,hQ⟩:∃ Q:Nat,pl.length=M+Q:=⟨pl.length - M,by (clear ih2 hlen2 k2' hM hK3 hK2 hK ih hk hlen k1 hP hcq hq post hs hl hl1 hc;omega)⟩;rw [show ((pl.length:Int) - (M:Int)+1).toNat=Q+1 by (clear ih2 hk2 hlen2 k2' hM hK3 hK2 hK1 hK ih hk hlen k1 hP hcq hq post hs hl hl1 hc;omega)];refine ⟨by (clear ih2 hk2 hlen2 k2' hK3 hK2 hK1 hK ih hk hlen k1 hP hcq hq post hs hc;omega),?_⟩;refine u27 (fun r σ G'=>∃ (B k:Nat) (kvs:List (List Key × D)) (v5:Option D),B+k=Q+1 /\ r=rngD (B:Int) k /\ Grow G G' /\ G' q=some (.dit kvs) /\ TAw (cf pl) (upA pl.length P M B) kvs /\ kvs.length<=(P * 32+M) * 32+B /\ σ=[some (.ref c),some (.int (s:Int)),some (.ref q),some (.int (P:Int)),some (.int (M:Int)),v5]) ⟨0,Q+1,kv2,v5,by omega,rfl,g2,k2',hT2,by omega,rfl⟩ ?_ ?_
      ·rintro σ G3 ⟨B,k3',kv3,v5,hk3,e2,g3,k3'',hT3,hlen3,rfl⟩
       have hk0:k3'=0:=by
        cases k3' with
        | zero=>rfl
        | succ n=>rw [u09] at e2;cases e2
       refine ⟨trivial,ih2 _ _ ⟨M+1,k2,kv3,_,_,by omega,by (clear hk0 hlen3 k3'' e2 hk3 hQ ih2 hlen2 k2' hM hK3 hK2 hK1 hK ih hk hlen k1 hP hcq hq post hs hl hl1 hc;omega),by congr 1,g3,k3'',hT3.congr fun p b e=>?_,by (clear k3'' e2 ih2 hk2 hlen2 k2' hK3 hK2 hK1 hK ih hlen k1 hP hcq hq post hc;omega),rfl⟩⟩;unfold upA inA
       constructor
       ·rintro ⟨⟨x1,x2,x3,x4,x5⟩,x6⟩
        exact ⟨⟨x1,x2,x3,x4,x5⟩,by (clear x5 x4 x1 hk0 hlen3 k3'' e2 hk3 hQ ih2 hk2 hlen2 k2' hM hK3 hK2 hK1 hK ih hk hlen k1 hP hcq hq post hs hl hl1 hc;omega)⟩
       ·rintro ⟨⟨x1,x2,x3,x4,x5⟩,x6⟩
        exact ⟨⟨x1,x2,x3,x4,x5⟩,by (clear x5 x1 hlen3 k3'' e2 ih2 hk2 hlen2 k2' hM hK3 hK2 hK1 hK ih hk hlen k1 hP hcq hq post hs hl hl1 hc;omega)⟩
      ·rintro z r σ G3 ⟨B,k3',kv3,v5,hk3,e2,g3,k3'',hT3,hlen3,rfl⟩ ih3
       cases k3' with
       | zero=>cases e2
       | succ k3' =>
        rw [u09] at e2;cases e2;refine ⟨trivial,?_⟩;have eBM:(B:Int)+(M:Int)=((B+M:Nat):Int):=by omega
        simp! [vx5,eBM];refine u21 (post:=fun d G'=>∃ (W:Int) (m:Nat),d=vD W m /\ Grow G3 G' /\ VA (cf pl) P B (B+M) W m) (fun R h=>⟨c,q,P,B,B+M,pl,kv3,_,rfl,g3.kp _ _ hc,k3'',hT3,hP,by omega,by omega,by (clear h eBM ih3 hlen3 k3'' ih2 hk2 hlen2 k2' hM hK3 hK2 hK1 hK ih hk hlen k1 hP hcq hq post hs hl hl1 hc;omega),hl,by (clear h eBM ih3 hk3 hlen3 k3'' hQ ih2 hlen2 k2' hM hK3 hK1 hK ih hk hlen k1 hP hcq hq post hs hl hl1 hc;omega),?_,?_,fun W m G' x1 x2=>h _ _ ⟨W,m,rfl,x1,x2⟩⟩) ?_
        ·intro b' e' x1 x2 x3 x4
         exact ⟨⟨by (clear x4 x3 x2 h eBM ih3 hk3 hlen3 k3'' hQ ih2 hk2 hlen2 k2' hM hK3 hK2 hK1 hK ih hk hlen k1 hP hcq hq post hs hl hl1 hc;omega),by omega,x2,x3,x4⟩,.inl (by omega)⟩
        ·intro b' e' x2 x3 x4 x5
         exact ⟨⟨by omega,by omega,x2,x3,x5⟩,.inr (.inl (by (clear x5 x3 h eBM ih3 hk3 hlen3 k3'' hQ ih2 hk2 hlen2 k2' hM hK3 hK2 hK1 hK ih hk hlen k1 hP hcq hq post hs hl hl1 hc;omega)))⟩
        rintro d G4 ⟨W,m,rfl,g4,hm⟩;simp! [eBM];have hnot:¬ upA pl.length P M B P B (B+M):=by
         rintro ⟨_,x⟩
         (clear eBM ih3 hk3 hlen3 k3'' hQ ih2 hk2 hlen2 k2' hK3 hK2 hK1 hK ih hk hlen k1 hP hcq hq post hs hl hl1 hc;omega)
        refine ⟨q,kv3,k3 P B (B+M),rfl,rfl,by decide,g4.kp _ _ k3'',Nat.lt_of_le_of_lt (m:=1000000) (by (clear hnot eBM ih3 k3'' ih2 hk2 hlen2 k2' hM hK3 hK2 hK1 hK ih hlen k1 hP hcq hq post hc;omega)) (by decide),ih3 _ _ ⟨B+1,k3',_,_,by (clear hnot eBM ih3 hlen3 k3'' hQ ih2 hk2 hlen2 k2' hM hK3 hK2 hK1 hK ih hk hlen k1 hP hcq hq post hs hl hl1 hc;omega),by congr 1,(g3.trans g4).own hq,u01,(hT3.put hnot hm).congr fun p b e=>?_,?_,rfl⟩⟩
        ·rw [v86]
         constructor
         ·rintro (x | ⟨rfl,rfl,rfl⟩)
          ·exact .inl x
          ·exact .inr ⟨rfl,rfl,rfl,by omega,by omega,by omega,by omega,by (clear hnot ih3 hlen3 eBM hk3 ih2 hlen2 hK3 ih hk hlen hP k3'' hQ k2' hM hK1 k1 hcq hq post hs hl hl1 hc;omega)⟩
         ·rintro (x | ⟨x1,x2,x3,_⟩)
          ·exact .inl x
          ·exact .inr ⟨x1,x2,x3⟩
        ·rw [v33 ((hT3 P B (B+M)).2 hnot)]
         omega
theorem wb1 {n:Nat} (G_jbc:Ok P w mg base n T.f_jbc (vz3 T)) (G_jad:Ok P w mg base n T.f_jad (vf8 T)):Ok P w mg base (n+1) T.f_jaa (w05 T):=by
 refine u17 T.f_jaa vj5 (fun ds G R h=>?_) (fun cdv A outer s H E hr =>
   (u07 (u19 (ec T.f_jbc T.g_work_at G_jbc hr (u00 (ec T.f_jad T.g_alone_table G_jad hr (u00 (ev 0) (u00 (ev 1) u05))) (u00 (u60 (u00 (ev 1) (u00 u03 (u00 (u12 ua3 rfl T.b_len (by decide) (u00 (ev 0) u05)) u05)))) u05)))))) (fun ds G R h=>?_)
 ·obtain ⟨c,s,pl,rfl,_⟩:=h;rfl
 ·obtain ⟨c,s,pl,rfl,hc,h1,h2,h3,post⟩:=h
  simp! [id];refine uu2 T hc h1 h2 h3 fun q kvs G1 f1 k1 hT g1=>?_
  simp! [g1.kp _ _ hc,u11,List.length_map];refine ⟨by decide,?_⟩;have hk:=hT s 0 pl.length;refine u21 (post:=fun d G'=>G'=G1 /\ ((pl.length<=cap s true /\ ∃ W,LeastA (cf pl) s 0 pl.length W /\ d=.int W) \/ (¬ pl.length<=cap s true /\ d=.non))) (fun R h=>⟨q,k3 s 0 pl.length,kvs,rfl,k1,?_,fun hv=>h _ _ ⟨rfl,.inr ⟨?_,rfl⟩⟩⟩) ?_
  ·intro d hd
   by_cases hi:inA pl.length s s 0 pl.length
   ·obtain ⟨w,m,e,hw,_⟩:=hk.1 hi
    rw [e] at hd;cases hd;exact ⟨w,m,rfl,h _ _ ⟨rfl,.inl ⟨hi.2.2.2.2,w,hw,rfl⟩⟩⟩
   ·rw [hk.2 hi] at hd;cases hd
  ·intro hle
   have hs:1<=s:=by
    rcases Nat.eq_zero_or_pos s with e | e
    ·subst e
     have:cap 0 true=0:=rfl;omega
    ·exact e
   obtain ⟨w,m,e,_,_⟩:=hk.1 ⟨hs,Nat.le_refl _,h1,Nat.le_refl _,hle⟩;rw [e] at hv;cases hv
  ·rintro d G' ⟨rfl,⟨x,W,hW,rfl⟩ | ⟨x,rfl⟩⟩
   ·exact (post _ g1).1 x W hW
   ·exact (post _ g1).2 x
theorem w93 {n:Nat} (G_jax:Ok P w mg base n T.f_jax (vf3 T)) (G_jac:Ok P w mg base n T.f_jac (v80 T)):Ok P w mg base (n+1) T.f_jas (wg8 T):=by
 refine u17 T.f_jas sc_jas (fun ds G R h=>?_) (fun cdv A outer s H E hr =>
   (u02 (u16 5 sc_jas.nd (u12 ua3 rfl T.b_len (by decide) (u00 (ev 0) u05)))
   (u02 (s_if (u25 (x_eq hr) (u08 u38 (ev 5) (ev 2)) u03 (nomark _)) (u07 (u19 (u60 (u00 (e_ix x_ix (ev 0) (ev 2)) (u00 (ev 5) u05))))) u30)
   (u02 (u16 6 sc_jas.nd (uk8 hr rfl T.b_range rfl T.b_list (u00 (u12 vg1 rfl T.b_max (by decide) (u00 (u08 u32 (ev 2) u03) (u00 (u08 u38 (ev 5) (ec T.f_jax T.g_reach G_jax hr (u00 (u08 u38 (ev 1) u03) u05))) u05))) (u00 (u08 u32 (u12 uq0 rfl T.b_min (by decide) (u00 (u08 u38 (ev 5) u03) (u00 (u08 u32 (ev 2) (ec T.f_jac T.g_alone_reach G_jac hr (u00 (ev 1) u05))) u05))) u03) u05))))
   (u07 (u19 (u12 (vg0 hr) rfl T.b_min (by decide) (u00 (uc1 (N':=["middle", "alones", "places", "begin", "table"]) (ix:=[none,some 3,some 1,some 2,some 4]) (blk (osc:=u04 v87) (N:=["costs", "places", "begin", "alones", "table", "end", "middles"]) rfl rfl (by decide)) (ub8 (ev 6)) (fun _ _ _ _=>(u22 0 (show (["middle", "alones", "places", "begin", "table"]:List Str).Nodup by decide))) (fun _ _ _ _=>ub7) (fun _ _ _ _=>(u60 (u00 (u08 u32 (e_ix x_ix (u91 hr (ev 1) (u60 (u00 (ev 2) (u00 (ev 3) (u00 (ev 0) u05))))) u03) (e_ix x_ix (u91 hr (ev 4) (u60 (u00 (u08 u38 (ev 2) u03) (u00 (ev 0) u05)))) u03)) (u00 (ev 0) u05))))) u05)))))))) (fun ds G R h=>?_)
 ·obtain ⟨c,a,t,p,b,s,pl,ka,kt,Dm,rfl,_⟩:=h;rfl
 ·obtain ⟨c,a,t,p,b,s,pl,ka,kt,Dm,rfl,hc,ha,ht,hA,hT,hp,hps,hs,hb,hl,hcap,dl,post⟩:=h
  by_cases h1:pl.length - b=1
  ·have e1:(pl.length:Int) - (b:Int)=1:=by omega
   simp! [hc,u11,List.length_map];dsimp! [e1,hc,u11];rw [show atI (pl.map D.int) (b:Int)=some (.int pl[b]) from u53 (by simp [hb])];refine ⟨by decide,post _ pl.length G .refl ?_⟩;have e3:pl.length=b+1:=by omega
   obtain ⟨r,rfl⟩:∃ r,p=r+1:=⟨p - 1,by omega⟩;rw [<- uw5 hb,e3];exact ⟨LeastR.one,by unfold mR;rw [if_pos (by omega)],fun h=>absurd (by omega) h⟩
  ·have e1:¬ ((pl.length:Int) - (b:Int)=1):=by omega
   have hp1:2<=p:=by
    rcases Nat.lt_or_ge p 2 with h | h
    ·have:p=1:=by omega
     subst this;rw [v68] at hcap;omega
    ·exact h
   have ep:(p:Int) - 1=((p - 1:Nat):Int):=by omega
   simp! [hc,u11,List.length_map];dsimp! [id];rw [if_neg (by simpa using e1)];dsimp! [ua0,ep];refine wf8 T (by omega) ?_;simp! [id];refine ui0 T (by omega) ?_;simp! [id];have hc2:=(uh8 hp1).2;obtain ⟨L,C,eL,eC,hm,hL1,hh1,hh2⟩:=v14 (b:=b) (e:=pl.length) (x:=cap p true) (y:=cap (p - 1) false) (by omega) (by omega) (u92 (by omega)) (u92 (by omega));rw [eL,eC];refine ⟨⟨by omega,by omega,by omega,by (clear hh2 hL1 hm eC eL hc2 ep hp1 e1 h1 post dl hcap hb hs hps hp ht ha hc;omega)⟩,fun l hll=>?_⟩;obtain ⟨G1,hG1⟩:∃ G1,G1=gup G l (.lst (rngD (L:Int) (C+1))):=⟨_,rfl⟩;have g1:Grow G G1:=by rw [hG1];exact Grow.refl.new hll
   have kl:G1 l=some (.lst (rngD (L:Int) (C+1))):=by rw [hG1];exact u01
   rw [<- hG1];dsimp! [kl,u11];intro q hq;have kl2:∀ {o:DO},gup G1 q o l=some (.lst (rngD (L:Int) (C+1))):=fun {o}=>by rw [u06 (gne kl hq)];exact kl
   have ka2:∀ {o:DO},gup G1 q o a=some (.dit ka):=fun {o}=>by rw [u06 (gne (g1.kp _ _ ha) hq)];exact g1.kp _ _ ha
   have kt2:∀ {o:DO},gup G1 q o t=some (.dit kt):=fun {o}=>by rw [u06 (gne (g1.kp _ _ ht) hq)];exact g1.kp _ _ ht
   refine u39 (fun r σ G'=>∃ (i n:Nat) (ts:List (List Int)) (v:Option D),i+n=C+1 /\ r=rngD ((L+i:Nat):Int) n /\ G'=gup G1 q (.lst (ts.map fun t=>.tup (t.map .int))) /\ ts.length=i /\ (∀ t ∈ ts,∃ (W:Int) (m:Nat),t=[W,(m:Int)] /\ ∃ w1 w2,LeastA (cf pl) p b m w1 /\ LeastR (cf pl) pl.length (p - 1) m w2 /\ W=w1+w2) /\ (∀ j,L<=j->j < L+i->∃ W:Int,[W,(j:Int)] ∈ ts) /\ σ=[v,some (.ref a),some (.int (p:Int)),some (.int (b:Int)),some (.ref t)]) ⟨0,C+1,[],none,by omega,rfl,rfl,rfl,by simp,fun j x y=>by omega,rfl⟩ ?_ ?_
   ·rintro σ G' ⟨i,n,ts,v,e1,e2,rfl,hl2,hts,hall,rfl⟩
    have hn0:n=0:=by
     cases n with
     | zero=>rfl
     | succ n=>rw [u09] at e2;cases e2
    refine ⟨by rw [kl2],q,ts,rfl,by rw [u01];rfl,by (clear hall hts e2 kt2 ka2 kl2 hq kl hG1 hll hh2 hh1 hL1 hm eC eL hc2 ep hp1 h1 post dl hcap hl hb hs hps hp ht ha hc;omega),fun t ht hmin=>?_⟩;obtain ⟨W,m,rfl,w1,w2,q1,q2,rfl⟩:=hts t ht;refine post _ m _ (g1.new hq) ?_;have hless:∀ (m':Nat),b < m'->m' < pl.length->m' - b<=cap p true->pl.length - m'<=cap (p - 1) false->∃ u1 u2,LeastA (cf pl) p b m' u1 /\ LeastR (cf pl) pl.length (p - 1) m' u2 /\ w1+w2<=u1+u2:=by
     intro m' y1 y2 y3 y4;have z:L<=m' /\ m' < L+(C+1):=by
      split at eL <;> split at eC <;> omega
     obtain ⟨W',hW'⟩:=hall m' z.1 (by (clear y4 y3 y2 y1 hmin hall hts e2 kt2 ka2 kl2 hq kl hG1 hll hh2 hh1 hL1 hm eC eL hc2 ep hp1 h1 post dl hcap hl hb hs hps hp ha hc;omega));obtain ⟨W2,m2,e4,u1,u2,r1,r2,rfl⟩:=hts _ hW';have e5:W'=u1+u2 /\ m'=m2:=by simp at e4;(clear z y4 y3 y2 y1 hmin hn0 hall hts hl2 e2 e1 kt2 ka2 kl2 hq kl hG1 hll hh2 hh1 hL1 hm eC eL hc2 ep hp1 h1 post dl hcap hl hb hs hps hp ha hc;omega)
     obtain ⟨e6,e7⟩:=e5;subst e6;subst e7;refine ⟨u1,u2,r1,r2,vk9 (hmin _ hW')⟩
    have fin:∀ r,p=r+1->LeastR (cf pl) pl.length p b (w1+w2):=by
     intro r hr;subst hr;exact LeastR.two (by omega) ⟨m,w1,w2,q1,q2,rfl⟩ hless
    refine ⟨fin (p - 1) (by omega),?_,fun _=>⟨w1,w2,q1,q2,rfl⟩⟩;unfold mR;rw [if_neg h1];exact ⟨hp1,q1.1.lt.1,q2.1.lt.1,q1.1.cap,q2.1.cap⟩
   ·rintro z r σ G' ⟨i,n,ts,v,e1,e2,rfl,hl2,hts,hall,rfl⟩ ih
    cases n with
    | zero=>cases e2
    | succ n =>
     rw [u09] at e2;cases e2;have hmi:=hm (L+i) (by omega) (by (clear ih hall hts hl2 kt2 ka2 kl2 hq kl hG1 hll hh2 hh1 hL1 hm eC eL hc2 ep hp1 h1 post dl hcap hl hb hs hps hp ht ha hc;omega));refine ⟨by rw [kl2],?_⟩;obtain ⟨w1,m1,v1,q1,_⟩:=(hA p b (L+i)).1 ⟨hp,hps,hmi.1,by omega,hmi.2.2.1⟩;obtain ⟨w2,m2,v2,q2,_⟩:=(hT (p - 1) (L+i)).1 (dl _ hp1 hmi.2.1 hmi.2.2.2);simp! [uh5,ep];refine ⟨by decide,a,ka,k3 p b (L+i),_,rfl,rfl,ka2,v1,?_⟩;simp! [uh5,vD,ep];refine ⟨by decide,t,kt,L3.k2 (p - 1) (L+i),_,rfl,rfl,kt2,v2,?_⟩;simp! [vD,u01,u23];refine ⟨by decide,by rw [List.length_map];exact Nat.lt_of_le_of_lt (m:=1000000) (by (clear v2 v1 ih e1 hall hts kt2 ka2 kl2 hq kl hG1 hll hh2 hh1 hL1 hm eC eL hc2 ep hp1 h1 post dl hcap hb hs hps hp ht ha hc;omega)) (by decide),ih _ _ ⟨i+1,n,ts++[[w1+w2,((L+i:Nat):Int)]],_,by (clear v2 v1 hmi ih hall hts hl2 kt2 ka2 kl2 hq kl hG1 hll hh2 hh1 hL1 hm eC eL hc2 ep hp1 h1 post dl hcap hl hb hs hps hp ht ha hc;omega),?_,?_,by simp [hl2],?_,?_,rfl⟩⟩
     ·congr 1
     ·rw [List.map_append];rfl
     ·intro t ht
      rcases List.mem_append.mp ht with h | h
      ·exact hts t h
      ·cases List.mem_singleton.mp h
       exact ⟨_,L+i,rfl,w1,w2,q1,q2,rfl⟩
     ·intro j x y
      rcases Nat.lt_or_ge j (L+i) with h | h
      ·obtain ⟨W,hW⟩:=hall j x h
       exact ⟨W,List.mem_append_left _ hW⟩
      ·have:j=L+i:=by (clear x v2 v1 hmi ih e1 hall hts hl2 kt2 ka2 kl2 hq kl hG1 hll hh2 hh1 hL1 hm eC eL hc2 ep hp1 h1 post dl hcap hl hb hs hps hp ht ha hc;omega)
       subst this;exact ⟨_,List.mem_append_right _ (List.mem_singleton.mpr rfl)⟩
theorem w86 {n:Nat} (G_jax:Ok P w mg base n T.f_jax (vf3 T)) (G_jas:Ok P w mg base n T.f_jas (wg8 T)):Ok P w mg base (n+1) T.f_jaz (vz5 T):=by
 refine u17 T.f_jaz sc_jaz (fun ds G R h=>?_) (fun cdv A outer s H E hr =>
   (u02 (u16 3 sc_jaz.nd v53)
   (u02 (u80 (ud3 rfl T.b_range (u00 u03 (u00 (u08 u32 (ev 1) u03) u05))) (u22 4 sc_jaz.nd) (u07 (u80 (ud3 rfl T.b_range (u00 u03 (u00 (u08 u32 (u12 uq0 rfl T.b_min (by decide) (u00 (u12 ua3 rfl T.b_len (by decide) (u00 (ev 0) u05)) (u00 (ec T.f_jax T.g_reach G_jax hr (u00 (ev 4) u05)) u05))) u03) u05))) (u22 5 sc_jaz.nd) (u02 (u16 6 sc_jaz.nd (u08 u38 (u12 ua3 rfl T.b_len (by decide) (u00 (ev 0) u05)) (ev 5)))
   (u07 (uz1 hr (ev 3) (u00 (ev 4) (u00 (ev 6) u05)) (ec T.f_jas T.g_least_reached G_jas hr (u00 (ev 0) (u00 (ev 4) (u00 (ev 6) (u00 (ev 2) (u00 (ev 3) u05))))))))))))
   (u07 (u19 (ev 3)))))) (fun ds G R h=>?_)
 ·obtain ⟨c,a,s,pl,ka,rfl,_⟩:=h;rfl
 ·obtain ⟨c,a,s,pl,ka,rfl,hc,ha,hA,hl1,hl,hs,post⟩:=h
  simp! [vy1];intro q hq;dsimp! [id];rw [show ((s:Int)+1 - 1).toNat=s by omega];refine ⟨⟨by decide,by decide,by omega,by omega⟩,?_⟩;refine u27 (fun r σ G'=>∃ (P k:Nat) (kvs:List (List Key × D)) (v3 v4 v5:Option D),1<=P /\ P+k=s+1 /\ r=rngD (P:Int) k /\ Grow G G' /\ G' q=some (.dit kvs) /\ TRw (cf pl) pl.length (upR pl.length P 1) kvs /\ kvs.length<=P * 32+1 /\ σ=[some (.ref c),some (.int (s:Int)),some (.ref a),some (.ref q),v3,v4,v5]) ⟨1,s,[],none,none,none,by omega,by omega,rfl,Grow.refl.new hq,u01,?_,by simp,rfl⟩ ?_ ?_
  ·intro p b
   refine ⟨fun h=>?_,fun _=>rfl⟩;obtain ⟨⟨x1,x2,x3,_⟩,x4⟩:=h;omega
  ·rintro σ G1 ⟨P,k,kvs,v3,v4,v5,hP,hk,e2,g1,k1,hT,hlen,rfl⟩
   have hk0:k=0:=by
    cases k with
    | zero=>rfl
    | succ n=>rw [u09] at e2;cases e2
   refine ⟨trivial,?_⟩;dsimp! [id];refine post q kvs G1 hq k1 (hT.congr fun p b=>?_) g1;have:P=s+1:=by omega
   subst this;unfold upR inR
   constructor
   ·rintro ⟨⟨x1,x2,x3,x4⟩,x6⟩
    exact ⟨x1,by omega,x3,x4⟩
   ·rintro ⟨x1,x2,x3,x4⟩
    exact ⟨⟨x1,by omega,x3,x4⟩,by omega⟩
  ·rintro z r σ G1 ⟨P,k,kvs,v3,v4,v5,hP,hk,e2,g1,k1,hT,hlen,rfl⟩ ih
   cases k with
   | zero=>cases e2
   | succ k =>
    rw [u09] at e2;cases e2;refine ⟨trivial,?_⟩;simp! [g1.kp _ _ hc,u11,List.length_map];refine wf8 T (by omega) ?_;simp! [id];obtain ⟨K,hK,hK1,hK2,hK3⟩:∃ K:Nat,(if ((cap P false:Nat):Int) < (pl.length:Int) then ((cap P false:Nat):Int) else (pl.length:Int))=(K:Int) /\ K<=pl.length /\ K<=cap P false /\ ∀ x,x<=pl.length->x<=cap P false->x<=K:=by
     refine ⟨min (cap P false) pl.length,?_,by omega,by omega,by omega⟩;split <;> omega
    rw [hK,show ((K:Int)+1 - 1).toNat=K by (clear hK3 hK2 hK1 hK ih hk hlen k1 hP hq post hs hl hl1 ha hc;omega)];refine ⟨⟨by decide,by decide,by omega,by omega⟩,?_⟩;refine u27 (fun r σ G'=>∃ (M k:Nat) (kvs:List (List Key × D)) (v4 v5:Option D),1<=M /\ M+k=K+1 /\ r=rngD (M:Int) k /\ Grow G G' /\ G' q=some (.dit kvs) /\ TRw (cf pl) pl.length (upR pl.length P M) kvs /\ kvs.length<=P * 32+M /\ σ=[some (.ref c),some (.int (s:Int)),some (.ref a),some (.ref q),some (.int (P:Int)),v4,v5]) ⟨1,K,kvs,v4,v5,by omega,by omega,rfl,g1,k1,hT,by omega,rfl⟩ ?_ ?_
    ·rintro σ G2 ⟨M,k2,kv2,v4,v5,hM,hk2,e2,g2,k2',hT2,hlen2,rfl⟩
     have hk0:k2=0:=by
      cases k2 with
      | zero=>rfl
      | succ n=>rw [u09] at e2;cases e2
     refine ⟨trivial,ih _ _ ⟨P+1,k,kv2,_,_,_,by omega,by omega,by congr 1,g2,k2',hT2.congr fun p b=>?_,by (clear k2' e2 hM hK3 hK2 hK ih hk hlen k1 hP hq post hs ha hc;omega),rfl⟩⟩;unfold upR inR
     constructor
     ·rintro ⟨⟨x1,x2,x3,x4⟩,x6⟩
      exact ⟨⟨x1,by omega,x3,x4⟩,by omega⟩
     ·rintro ⟨⟨x1,x2,x3,x4⟩,x6⟩
      have hp:p<=P:=by (clear x4 x1 hk0 hlen2 k2' e2 hk2 hM hK3 hK2 hK1 hK ih hk hlen k1 hP hq post hs hl hl1 ha hc;omega)
      refine ⟨⟨x1,hp,x3,x4⟩,?_⟩
      rcases Nat.lt_or_ge p P with h | h
      ·exact .inl h
      ·have:p=P:=by (clear x4 x3 x2 x1 x6 hk0 hlen2 k2' e2 hk2 hM hK3 hK2 hK1 hK ih hk hlen k1 hP hq post hs hl hl1 ha hc;omega)
       subst this;have:=hK3 (pl.length - b) (by (clear h hp x2 hlen2 hK3 hK2 hK ih hk hlen hP x1 hk0 k2' e2 hk2 hM hK1 k1 hq post hs hl hl1 ha hc;omega)) x4;exact .inr (by (clear h hp x2 x6 hlen2 hK3 hK2 ih hk hlen hP x4 x3 x1 k2' e2 hM hK1 k1 hq post hs hl hl1 ha hc;omega))
    ·rintro z r σ G2 ⟨M,k2,kv2,v4,v5,hM,hk2,e2,g2,k2',hT2,hlen2,rfl⟩ ih2
     cases k2 with
     | zero=>cases e2
     | succ k2 =>
      rw [u09] at e2;cases e2;refine ⟨trivial,?_⟩;obtain ⟨B,hB⟩:∃ B:Nat,pl.length=M+B:=⟨pl.length - M,by (clear ih2 hlen2 k2' hM hK3 hK2 hK ih hk hlen k1 hP hq post hs hl hl1 ha hc;omega)⟩;have eB:(pl.length:Int) - (M:Int)=(B:Int):=by (clear ih2 hk2 hlen2 k2' hM hK3 hK2 hK1 hK ih hk hlen k1 hP hq post hs hl hl1 ha hc;omega)
      simp! [g2.kp _ _ hc,u11,List.length_map,eB];dsimp! [vx5];refine u21 (post:=fun d G'=>∃ (W:Int) (m:Nat),d=vD W m /\ Grow G2 G' /\ VR (cf pl) pl.length P B W m) (fun R h=>⟨c,a,q,P,B,s,pl,ka,kv2,_,rfl,g2.kp _ _ hc,g2.kp _ _ ha,k2',hA,hT2,hP,by omega,hs,by omega,hl,by (clear h eB ih2 hlen2 k2' hM hK3 hK1 hK ih hk hlen k1 hP hq post hs hl hl1 ha hc;omega),?_,fun W m G' x1 x2=>h _ _ ⟨W,m,rfl,x1,x2⟩⟩) ?_
      ·intro m x1 x2 x3
       exact ⟨⟨by (clear x3 x2 h eB hB ih2 hk2 hlen2 k2' hM hK3 hK2 hK1 hK ih hk hlen k1 hP hq post hs hl hl1 ha hc;omega),by omega,x2,x3⟩,.inl (by omega)⟩
      rintro d G4 ⟨W,m,rfl,g4,hm⟩;simp! [id];have hnot:¬ upR pl.length P M P B:=by
       rintro ⟨_,x⟩
       (clear eB ih2 hk2 hlen2 k2' hK3 hK2 hK1 hK ih hk hlen k1 hP hq post hs hl hl1 ha hc;omega)
      refine ⟨q,kv2,L3.k2 P B,rfl,rfl,by decide,g4.kp _ _ k2',Nat.lt_of_le_of_lt (m:=1000000) (by omega) (by decide),ih2 _ _ ⟨M+1,k2,_,_,_,by omega,by (clear hnot eB hB ih2 hlen2 k2' hM hK3 hK2 hK1 hK ih hk hlen k1 hP hq post hs hl hl1 ha hc;omega),by congr 1,(g2.trans g4).own hq,u01,(hT2.put hnot hm).congr fun p b=>?_,?_,rfl⟩⟩
      ·unfold upR inR
       constructor
       ·rintro (⟨⟨x1,x2,x3,x4⟩,x6⟩ | ⟨rfl,rfl⟩)
        ·exact ⟨⟨x1,x2,x3,x4⟩,by (clear x4 x1 hnot eB ih2 hk2 hlen2 k2' hM hK3 hK2 hK1 hK ih hk hlen k1 hP hq post hs hl hl1 ha hc;omega)⟩
        ·exact ⟨⟨by omega,by omega,by omega,by (clear hnot eB ih2 hlen2 hK3 ih hk hlen hP k2' hM hK1 k1 hq post hs hl hl1 ha hc;omega)⟩,by omega⟩
       ·rintro ⟨⟨x1,x2,x3,x4⟩,x6⟩
        by_cases hh:p < P \/ pl.length - b < M
        ·exact .inl ⟨⟨x1,x2,x3,x4⟩,hh⟩
        ·exact .inr ⟨by (clear x4 x3 x1 x6 hnot eB hB ih2 hk2 hlen2 k2' hM hK3 hK2 hK1 hK ih hk hlen k1 hP hq post hs hl hl1 ha hc;omega),by (clear x4 x1 hnot eB ih2 hk2 hlen2 k2' hM hK3 hK2 hK1 hK ih hk hlen k1 hP hq post hs hl hl1 ha hc;omega)⟩
      ·rw [v33 ((hT2 P B).2 hnot)]
       omega
theorem w87 {n:Nat} (G_jbc:Ok P w mg base n T.f_jbc (vz3 T)) (G_jad:Ok P w mg base n T.f_jad (vf8 T)) (G_jaz:Ok P w mg base n T.f_jaz (vz5 T)):Ok P w mg base (n+1) T.f_jay (vz6 T):=by
 refine u17 T.f_jay vi6 (fun ds G R h=>?_) (fun cdv A outer s H E hr =>
   (u07 (u19 (ec T.f_jbc T.g_work_at G_jbc hr (u00 (ec T.f_jaz T.g_reached_table G_jaz hr (u00 (ev 0) (u00 (ev 1) (u00 (ec T.f_jad T.g_alone_table G_jad hr (u00 (ev 0) (u00 (ev 1) u05))) u05)))) (u00 (u60 (u00 (ev 1) (u00 u03 u05))) u05)))))) (fun ds G R h=>?_)
 ·obtain ⟨c,s,pl,rfl,_⟩:=h;rfl
 ·obtain ⟨c,s,pl,rfl,hc,h1,h2,h3,post⟩:=h
  simp! [id];refine uu2 T hc h1 h2 h3 fun q0 kv0 G0 f0 k0 hT0 g0=>?_
  simp! [id];refine ve7 T (g0.kp _ _ hc) k0 hT0 h1 h2 h3 fun q kvs G1 f1 k1 hT g1=>?_
  simp! [id];refine ⟨by decide,?_⟩;have hk:=hT s 0;refine u21 (post:=fun d G'=>G'=G1 /\ ((pl.length<=cap s false /\ ∃ W,LeastR (cf pl) pl.length s 0 W /\ d=.int W) \/ (¬ pl.length<=cap s false /\ d=.non))) (fun R h=>⟨q,L3.k2 s 0,kvs,rfl,k1,?_,fun hv=>h _ _ ⟨rfl,.inr ⟨?_,rfl⟩⟩⟩) ?_
  ·intro d hd
   by_cases hi:inR pl.length s s 0
   ·obtain ⟨w,m,e,hw,_⟩:=hk.1 hi
    rw [e] at hd;cases hd;exact ⟨w,m,rfl,h _ _ ⟨rfl,.inl ⟨hi.2.2.2,w,hw,rfl⟩⟩⟩
   ·rw [hk.2 hi] at hd;cases hd
  ·intro hle
   have hs:1<=s:=by
    rcases Nat.eq_zero_or_pos s with e | e
    ·subst e
     have:cap 0 false=0:=rfl;omega
    ·exact e
   obtain ⟨w,m,e,_,_⟩:=hk.1 ⟨hs,Nat.le_refl _,h1,hle⟩;rw [e] at hv;cases hv
  ·rintro d G' ⟨rfl,⟨x,W,hW,rfl⟩ | ⟨x,rfl⟩⟩
   ·exact (post _ (g0.trans g1)).1 x W hW
   ·exact (post _ (g0.trans g1)).2 x
theorem w97 {n:Nat}:Ok P w mg base (n+1) T.f_jao (wh0 T):=by
 refine u17 T.f_jao vj0 (fun ds G R h=>?_) (fun cdv A outer s H E hr =>
   (u07 (u19 (u84 (u00 (v52 hr rfl T.b_reversed rfl T.b_list (u00 (ev 0) u05)) (u00 u03 (u00 u03 u05))))))) (fun ds G R h=>?_)
 ·obtain ⟨a,ns,rfl,_⟩:=h;rfl
 ·obtain ⟨a,ns,rfl,ha,post⟩:=h
  simp! [uh4,ha];intro p hp;refine ⟨by decide,fun q hq=>post q p _ ⟨ns.reverse,0,40503,u01,?_,by decide,?_⟩ ((Grow.refl.new hp).new hq)⟩
  ·rw [u06 (fun z=>by rw [z,<- z,u01] at hq;cases hq),u01,List.map_reverse]
  ·exact fun z=>by rw [z,u01] at hq;cases hq
theorem wa1 {n:Nat}:Ok P w mg base (n+1) T.f_jak (uw9 T):=by
 refine u17 T.f_jak sc_jak (fun ds G R h=>?_) (fun cdv A outer s H E hr =>
   (u02 (s_if (t_w (w_and (u25 (x_eq hr) (e_ix x_ix (ev 0) u03) u03 (nomark _)) (w_and (u25 (x_ne hr) (e_ix x_ix (ev 0) u03) (u84 u05) (nomark _)) (w25 (u25 (x_ge) (u12 v83 rfl T.b_abs (by decide) (u00 (e_ix x_ix (e_ix x_ix (ev 0) u03) (e_un vm6 u03)) u05)) (u08 wh3 u03 u03) (nomark _)))))) (u07 (v91 (u12 v83 rfl T.b_abs (by decide) (u00 (v49 (e_ix x_ix (ev 0) u03)) u05)) (vw0 (ev 0) u03 vm5))) u30)
   (u02 (s_if (u25 (x_gt) (e_ix x_ix (ev 0) u03) u03 (nomark _)) (u02 (u16 2 sc_jak.nd (u08 ue0 (e_ix x_ix (ev 0) u03) (ev 1)))
   (u02 (v91 (u08 w12 (e_ix x_ix (ev 0) u03) (ev 1)) (vw0 (ev 0) u03 vm5))
   (u07 (u19 (ev 2))))) u30)
   (u02 (u16 3 sc_jak.nd u03)
   (u02 (s_if (u25 (x_ne hr) (e_ix x_ix (ev 0) u03) (u84 u05) (nomark _)) (u07 (u16 3 sc_jak.nd (u12 v83 rfl T.b_abs (by decide) (u00 (v49 (e_ix x_ix (ev 0) u03)) u05)))) u30)
   (u02 (v91 (u08 ue0 (u08 u32 (u08 u32 (u08 ux3 (e_ix x_ix (ev 0) u03) u03) (u08 ue0 (ev 3) u03)) u03) u03) (vw0 (ev 0) u03 vm5))
   (u02 (u16 4 sc_jak.nd (u08 ue0 (u08 u32 (u08 ux3 (e_ix x_ix (ev 0) u03) u03) u03) u03))
   (u02 (u16 5 sc_jak.nd (u08 ue0 (u08 u32 (u08 ux3 (ev 4) (ev 4)) (e_ix x_ix (ev 0) u03)) u03))
   (u07 (u19 (u08 ue0 (u08 w12 (u08 ue0 (u08 ux3 (ev 5) (u08 u32 (u08 ue0 (ev 5) u03) u03)) u03) u03) (ev 1)))))))))))) (fun ds G R h=>?_)
 ·obtain ⟨s,a,m,rfl,_⟩:=h;rfl
 ·obtain ⟨s,a,m,rfl,⟨ns,x,y,hs,ha,hx,hne⟩,hm0,hm1,post⟩:=h
  have p4:((0:Int) < m)=True:=eq_true hm0;have cp:CPow 10 18:=⟨by decide,by decide,by decide⟩;have cd:∀ c:Int,vf9 c m:=fun c=>⟨hm0,by omega⟩
  have c1:∀ c:Int,CMul c 16807:=fun c=>Or.inr ⟨by decide,by decide⟩
  have c2:∀ c:Int,CMul c 48271:=fun c=>Or.inr ⟨by decide,by decide⟩
  have c3:∀ c y:Int,CMul (c % 2147483629) y:=fun c y=>vl8 (by omega) (by omega)
  have c4:∀ c y:Int,CMul (c % 2147483587) y:=fun c y=>vl8 (by omega) (by omega)
  have c5:∀ c:Int,vf9 c 3:=fun c=>⟨by decide,by decide⟩
  have p1:((0:Int) < 2147483629)=True:=by decide
  have p2:((0:Int) < 2147483587)=True:=by decide
  have p3:((0:Int) < 2147483647)=True:=by decide
  have p5:((0:Int) < 65537)=True:=by decide
  have p6:((0:Int) < 2147483579)=True:=by decide
  have s0:(0<=sizeLine)=True:=eq_true (Nat.zero_le _);have fin:∀ (G1:Gp) (v:Int) (ns':List Int) (x' y':Int),(∀ c o,c ≠ s->c ≠ a->G c=some o->G1 c=some o)->G1 s=some (.lst [.ref a,.int x',.int y'])->G1 a=some (.lst (ns'.map .int))->0<=x'->0<=v->v < m->R (.int v) G1 :=
   fun G1 v ns' x' y' kp h1 h2 h3 h4 h5=>post v G1 ⟨⟨ns',x',y',h1,h2,h3,hne⟩,kp⟩ h4 h5
  by_cases hx0:x=0
  ·subst hx0
   simp! [hs,ha];refine ⟨by decide,fun p hp=>?_⟩;have nps:s ≠ p:=gne hs hp;have npa:a ≠ p:=gne ha hp;have hs1:gup G p (.lst []) s=some (.lst [.ref a,.int 0,.int y]):=by rw [u06 nps];exact hs
   have ha1:gup G p (.lst []) a=some (.lst (ns.map .int)):=by rw [u06 npa];exact ha
   have kp1:∀ c o,G c=some o->gup G p (.lst []) c=some o:=fun c o e=>by rw [u06 (gne e hp)];exact e
   refine u46 (ks:=ns) (ms:=[]) (by rw [ha1];rfl) (by rw [u01];rfl) ?_
   rcases List.eq_nil_or_concat ns with e | ⟨ns',c,e⟩
   ·subst e
    simp! [id];dsimp! [hs1,Int.lt_irrefl];dsimp! [id];dsimp! [hs1];refine ⟨Nat.zero_le _,fun pp hpp=>?_⟩;have nps2:s ≠ pp:=gne hs1 hpp;have npa2:a ≠ pp:=gne ha1 hpp;have hs2:gup (gup G p (.lst [])) pp (.lst []) s=some (.lst [.ref a,.int 0,.int y]):=by rw [u06 nps2];exact hs1
    have ha2:gup (gup G p (.lst [])) pp (.lst []) a=some (.lst []):=by rw [u06 npa2];exact ha1
    have kp2:∀ c o,G c=some o->gup (gup G p (.lst [])) pp (.lst []) c=some o:=fun c o e=>by rw [u06 (gne (kp1 c o e) hpp)];exact kp1 c o e
    refine u46 (ks:=[]) (ms:=[]) (by rw [ha2];rfl) (by rw [u01];rfl) ?_;simp! [id]
    (simp! [hs2,c1,c2,c3,c4,c5,p1,p2,p3,p4,p5,p6];repeat (simp only [Go];simp! [hs2,c1,c2,c3,c4,c5,p1,p2,p3,p4,p5,p6]))
    exact fin _ _ [] 0 _ (fun c o h1 h2 e=>by rw [u06 h1];exact kp2 c o e) u01 (by rw [u06 (Ne.symm hne)];exact ha2) (by decide) (Int.emod_nonneg _ (by omega)) (Int.emod_lt_of_pos _ hm0)
   ·rw [List.concat_eq_append] at e
    subst e;have hnn:((ns'++[c])=[])=False:=eq_false (by simp);simp! [hnn,hs1,ha1,vz0,cp];refine uk4 (fun hb=>?_) (fun hb=>?_)
    ·rw [uf0 ha1]
     have q0:(0:Int) < (if c < 0 then -c else c):=Int.lt_of_lt_of_le (by decide) hb;have q2:((0:Int) < (if c < 0 then -c else c))=True:=eq_true q0;have hs3:gup (gup G p (.lst [])) a (.lst (ns'.map .int)) s=some (.lst [.ref a,.int 0,.int y]):=by rw [u06 hne];exact hs1
     simp! [hs3]
     (simp! [q2,p4,cd,u23];repeat (simp only [Go];simp! [q2,p4,cd,u23]))
     exact fin _ _ ns' _ y (fun d o h1 h2 e=>by rw [u06 h1,u06 h2];exact kp1 d o e) u01 (by rw [u06 (Ne.symm hne),u01]) (Int.ediv_nonneg (Int.le_of_lt q0) (by omega)) (Int.emod_nonneg _ (by omega)) (Int.emod_lt_of_pos _ hm0)
    ·dsimp! [hs1,Int.lt_irrefl]
     dsimp! [id];dsimp! [hs1];refine ⟨Nat.zero_le _,fun pp hpp=>?_⟩;have nps2:s ≠ pp:=gne hs1 hpp;have npa2:a ≠ pp:=gne ha1 hpp;have hs2:gup (gup G p (.lst [])) pp (.lst []) s=some (.lst [.ref a,.int 0,.int y]):=by rw [u06 nps2];exact hs1
     have ha2:gup (gup G p (.lst [])) pp (.lst []) a=some (.lst ((ns'++[c]).map .int)):=by rw [u06 npa2];exact ha1
     have kp2:∀ d o,G d=some o->gup (gup G p (.lst [])) pp (.lst []) d=some o:=fun d o e=>by rw [u06 (gne (kp1 d o e) hpp)];exact kp1 d o e
     refine u46 (ks:=ns'++[c]) (ms:=[]) (by rw [ha2];rfl) (by rw [u01];rfl) ?_;simp! [hnn,hs2,ha2];rw [uf0 ha2];have hs3:gup (gup (gup G p (.lst [])) pp (.lst [])) a (.lst (ns'.map .int)) s=some (.lst [.ref a,.int 0,.int y]):=by rw [u06 hne];exact hs2
     simp! [id]
     (simp! [hs3,c1,c2,c3,c4,c5,p1,p2,p3,p4,p5,p6,u23];repeat (simp only [Go];simp! [hs3,c1,c2,c3,c4,c5,p1,p2,p3,p4,p5,p6,u23]))
     exact fin _ _ ns' 0 _ (fun d o h1 h2 e=>by rw [u06 h1,u06 h2];exact kp2 d o e) u01 (by rw [u06 (Ne.symm hne),u01]) (by decide) (Int.emod_nonneg _ (by omega)) (Int.emod_lt_of_pos _ hm0)
  ·have q1:(x=0)=False:=eq_false hx0
   have q2:((0:Int) < x)=True:=eq_true (by omega);simp! [hs,ha,q1]
   (simp! [hs,q2,p4,cd];repeat (simp only [Go];simp! [hs,q2,p4,cd]))
   exact fin _ _ ns _ y (fun c o h1 h2 e=>by rw [u06 h1];exact e) u01 (by rw [u06 (Ne.symm hne)];exact ha) (Int.ediv_nonneg hx (by omega)) (Int.emod_nonneg _ (by omega)) (Int.emod_lt_of_pos _ hm0)
theorem w99 {n:Nat}:Ok P w mg base (n+1) T.f_jam (vf6 T):=by
 refine u17 T.f_jam sc_jam (fun ds G R h=>?_) (fun cdv A outer s H E hr =>
   (u02 (u16 3 sc_jam.nd (u12 ua3 rfl T.b_len (by decide) (u00 (uc1 (N':=["_law_k", "_law_marks"]) (ix:=[none,some 0]) (blk (osc:=u04 v89) (N:=["_law_marks", "_law_n", "_law_s", "_law_many", "_law_found", "_law_k"]) rfl rfl (by decide)) (ut0 rfl T.b_range (u00 (ev 1) u05)) (fun _ _ _ _=>(u22 0 (show (["_law_k", "_law_marks"]:List Str).Nodup by decide))) (fun _ _ _ _=>(ug3 (u25 (x_eq hr) (u08 um4 (u08 ux2 (ev 1) (ev 0)) u03) u03 (nomark _)))) (fun _ _ _ _=>(ev 0))) u05)))
   (u02 (u16 4 sc_jam.nd (u84 u05))
   (u02 (u80 (ud3 rfl T.b_range (u00 u03 (u00 (u08 u32 (ev 1) u03) u05))) (u22 5 sc_jam.nd) (u07 (s_if (t_w (w_or (u25 (x_eq hr) (ev 5) u03 (nomark _)) (um7 (u25 (x_eq hr) (u08 um4 (u08 ux2 (ev 0) (u08 u38 (ev 5) u03)) u03) u03 (nomark _))))) (u07 (s_if (u25 (x_eq hr) (u08 um4 (u08 ux2 (ev 0) (u08 u38 (ev 5) u03)) u03) u03 (nomark _)) (u07 (ua8 (u85 (ev 4) (u00 (u60 (u00 uo9 (u00 (ev 5) u05))) u05)))) (u07 (s_if (u25 (x_lt) (ev 3) (ev 2) (nomark _)) (u07 (ua8 (u85 (ev 4) (u00 (u60 (u00 uo9 (u00 (ev 5) u05))) u05)))) u30)))) u30)))
   (u07 (u19 (ev 4))))))) (fun ds G R h=>?_)
 ·obtain ⟨m,n,s,rfl,_⟩:=h;rfl
 ·obtain ⟨m,n',s,rfl,hn,post⟩:=h
  have en:((n':Int)+1 - 1).toNat=n':=by omega
  have rok:(-2 ^ 62<=(1:Int) /\ (1:Int) < 2 ^ 62 /\ -2 ^ 62<=(n':Int)+1 /\ (n':Int)+1 < 2 ^ 62):=⟨by decide,by decide,by omega,by omega⟩;simp! [id];refine ⟨vj7 (by omega),fun p hp=>?_⟩;refine u39 (fun r σ G'=>∃ (j c:Nat) (xs:List D) (v:Option D),j+c=n' /\ r=rngD (j:Int) c /\ G'=gup G p (.lst xs) /\ xs.length=cnt j m /\ σ=[v,some (.int (m:Int))]) ⟨0,n',[],none,by omega,rfl,rfl,rfl,rfl⟩ ?_ ?_
  ·rintro σ G' ⟨j,c,xs,v,e,e2,rfl,hx,rfl⟩
   refine ⟨trivial,?_⟩;have g1:Grow G (gup G p (.lst xs)):=Grow.refl.new hp;have ec:c=0:=by
    cases c with
    | zero=>rfl
    | succ c=>rw [u09] at e2;cases e2
   subst ec;have ej:j=n':=by omega
   subst ej;simp! [id];dsimp! [id];refine ⟨by decide,fun pf hpf=>?_⟩;dsimp! [en];refine ⟨rok,?_⟩;refine u27 (fun r σ G'=>∃ (i c:Nat) (ps:List Mv) (v:Option D),i+c=j /\ r=rngD ((i:Int)+1) c /\ G'=gup (gup G p (.lst xs)) pf (.lst (ps.map mD)) /\ ps.length<=i /\ (∀ p,p ∈ ps ↔ lgl j s m p /\ p.2<=i) /\ σ=[some (.int (m:Int)),some (.int (j:Int)),some (.int (s:Int)),some (.int (xs.length:Int)),some (.ref pf),v]) ⟨0,j,[],none,by omega,rfl,rfl,by simp,(fun p=>⟨fun z=>by simp at z,fun z=>by have:=z.1.1.1;omega⟩),rfl⟩ ?_ ?_
   ·rintro σ G' ⟨i,c,ps,v,e,e2,rfl,hp1,hp2,rfl⟩
    refine ⟨trivial,?_⟩;dsimp! [id];have ec:c=0:=by
     cases c with
     | zero=>rfl
     | succ c=>rw [u09] at e2;cases e2
    subst ec;exact post pf ps _ (g1.none hpf) u01 (fun p=>(hp2 p).trans ⟨fun z=>z.1,fun z=>⟨z,by have:=z.1.2;omega⟩⟩) (by omega) (g1.new hpf)
   ·rintro z r σ G' ⟨i,c,ps,v,e,e2,rfl,hp1,hp2,rfl⟩ ih
    cases c with
    | zero=>cases e2
    | succ c =>
     rw [u09] at e2;cases e2;refine ⟨trivial,?_⟩;have ei:(i:Int)+1=((i+1:Nat):Int):=by omega
     have ei2:((i+1:Nat):Int) - 1=(i:Int):=by omega
     have pi:(0<=(i:Int))=True:=eq_true (by omega);have sz:(ps.map mD).length < sizeLine:=by rw [List.length_map];exact Nat.lt_of_le_of_lt (m:=1000) (by omega) (by decide)
     have s2:(2<=sizeLine)=True:=eq_true (by decide);have mk:∀ (N:DSt->Gp->Prop),True:=fun _=>trivial
     have tail:(i=0 \/ m.testBit (i - 1)=true)->(m.testBit i=true->lgl j s m (false,i+1)) /\ (m.testBit i=false->cnt j m < s->lgl j s m (true,i+1)) /\ (m.testBit i=false->¬ cnt j m < s->∀ b,¬ lgl j s m (b,i+1)):=fun h=>by
      have a1:(i+1=1 \/ m.testBit (i+1 - 2)=true):=by
       rcases h with h | h
       ·left;omega
       ·by_cases h0:i=0
        ·left;omega
        ·right
         have:i+1 - 2=i - 1:=by (clear h0 h mk s2 sz pi ei2 ei ih e hp2 hp1 hpf rok en post hn e2 hx hp;omega)
         rw [this];exact h
      refine ⟨fun hb=>⟨⟨by omega,by show i+1<=j;omega⟩,a1,?_,fun z=>by cases z⟩,fun hb hc=>⟨⟨by omega,by show i+1<=j;omega⟩,a1,?_,fun _=>hc⟩,fun hb hc b hl=>?_⟩
      ·show false=!m.testBit i;rw [hb];rfl
      ·show true=!m.testBit i;rw [hb];rfl
      ·have h1:b=!m.testBit i:=hl.2.2.1
       rw [hb] at h1;exact hc (hl.2.2.2 h1)
     have none_:¬ i=0->¬ m.testBit (i - 1)=true->∀ b,¬ lgl j s m (b,i+1):=fun h0 h1 b hl=>by
      rcases hl.2.1 with z | z
      ·have z:i+1=1:=z
       omega
      ·have z:m.testBit (i+1 - 2)=true:=z
       have:i+1 - 2=i - 1:=by (clear z h1 h0 tail mk s2 sz pi ei2 ei ih e hp2 hp1 hpf rok en post hn e2 hx hp;omega)
       rw [this] at z;exact h1 z
     have nb:¬ (Builtin.bitAnd ((m:Int) / 2 ^ i) 1=1)->m.testBit i=false:=fun hb=>by
      cases hc:m.testBit i with
      | false=>rfl
      | true=>exact absurd ((u71 m i).mpr hc) hb
     have xl:(xs.length:Int)=(cnt j m:Int):=by rw [hx]
     simp! [ei,ei2,pi];refine uk4 (fun h0=>?_) (fun h0=>?_)
     ·have h0':i=0:=by omega
      refine uk4 (fun hb=>?_) (fun hb=>?_)
      ·rw [u71] at hb
       refine ⟨by decide,sz,ih _ _ ⟨i+1,c,ps++[(false,i+1)],_,by omega,rfl,?_,by simp;omega,uf3 hp2 ((tail (.inl h0')).1 hb),rfl⟩⟩;rw [u23,List.map_append];rfl
      ·have hb':=nb hb
       refine uk4 (fun hc=>?_) (fun hc=>?_)
       ·refine ⟨by decide,sz,ih _ _ ⟨i+1,c,ps++[(true,i+1)],_,by omega,rfl,?_,by simp;omega,uf3 hp2 ((tail (.inl h0')).2.1 hb' (by omega)),rfl⟩⟩
        rw [u23,List.map_append];rfl
       ·exact ih _ _ ⟨i+1,c,ps,_,by omega,rfl,rfl,by omega,v15 hp2 ((tail (.inl h0')).2.2 hb' (by omega)),rfl⟩
     ·have h0':¬ i=0:=by omega
      obtain ⟨i',rfl⟩:∃ i',i=i'+1:=⟨i - 1,by omega⟩;refine ⟨by omega,?_⟩;have e2':(((i'+1+1:Nat):Int) - 2).toNat=i':=by omega
      rw [e2'];refine uk4 (fun h1=>?_) (fun h1=>?_)
      ·rw [u71] at h1
       refine uk4 (fun hb=>?_) (fun hb=>?_)
       ·rw [u71] at hb
        refine ⟨by decide,sz,ih _ _ ⟨i'+1+1,c,ps++[(false,i'+1+1)],_,by (clear hb h1 e2' h0' h0 nb none_ tail pi ei2 ei ih hp2 hp1 xl mk s2 sz hpf rok post hn e2 hx hp;omega),rfl,?_,by simp;omega,uf3 hp2 ((tail (.inr h1)).1 hb),rfl⟩⟩;rw [u23,List.map_append];rfl
       ·have hb':=nb hb
        refine uk4 (fun hc=>?_) (fun hc=>?_)
        ·refine ⟨by decide,sz,ih _ _ ⟨i'+1+1,c,ps++[(true,i'+1+1)],_,by (clear hc hb' hb h1 e2' h0' h0 nb none_ tail pi ei2 ei ih hp2 hp1 xl mk s2 sz hpf rok post hn e2 hx hp;omega),rfl,?_,by simp;omega,uf3 hp2 ((tail (.inr h1)).2.1 hb' (by omega)),rfl⟩⟩
         rw [u23,List.map_append];rfl
        ·exact ih _ _ ⟨i'+1+1,c,ps,_,by (clear hc hb' hb h1 e2' h0' h0 nb none_ tail pi ei2 ei ih hp2 hp1 xl mk s2 sz hpf rok post hn e2 hx hp;omega),rfl,rfl,by omega,v15 hp2 ((tail (.inr h1)).2.2 hb' (by omega)),rfl⟩
      ·rw [u71] at h1
       exact ih _ _ ⟨i'+1+1,c,ps,_,by (clear h1 e2' h0' h0 nb none_ tail pi ei2 ei ih hp2 hp1 xl mk s2 sz hpf rok post hn e2 hx hp;omega),rfl,rfl,by omega,v15 hp2 (none_ h0' h1),rfl⟩
  ·rintro z r σ G' ⟨j,c,xs,v,e,e2,rfl,hx,rfl⟩ ih
   cases c with
   | zero=>cases e2
   | succ c =>
    rw [u09] at e2;cases e2;refine ⟨trivial,?_⟩;have ej:(j:Int)+1=((j+1:Nat):Int):=by omega
    have pj:(0<=(j:Int))=True:=eq_true (by omega);simp! [ej,pj];refine uk4 (fun hb=>?_) (fun hb=>?_)
    ·simp! [id]
     refine ⟨Nat.lt_of_le_of_lt (m:=1000) (by have:=@vl7 j m;omega) (by decide),ih _ _ ⟨j+1,c,xs++[.int (j:Int)],_,by omega,by rw [ej],by rw [u23],by rw [List.length_append,hx,cnt,(u71 m j).mp hb];rfl,rfl⟩⟩
    ·exact ih _ _ ⟨j+1,c,xs,_,by omega,by rw [ej],rfl,by rw [cnt,hx];cases hc:m.testBit j with | false=>rfl | true=>exact absurd ((u71 m j).mpr hc) hb,rfl⟩
theorem w96 {n:Nat} (G_jak:Ok P w mg base n T.f_jak (uw9 T)) (G_jam:Ok P w mg base n T.f_jam (vf6 T)):Ok P w mg base (n+1) T.f_jap (vz7 T):=by
 refine u17 T.f_jap sc_jap (fun ds G R h=>?_) (fun cdv A outer s H E hr =>
   (u02 (u16 4 sc_jap.nd u03)
   (u02 (u16 5 sc_jap.nd (u84 u05))
   (u02 (u80 (ut0 rfl T.b_range (u00 (ev 3) u05)) (u22 6 sc_jap.nd) (u02 (u16 7 sc_jap.nd (ec T.f_jam T.g_law_moves G_jam hr (u00 (ev 4) (u00 (ev 1) (u00 (ev 2) u05)))))
   (u07 (s_if (u25 (x_ne hr) (ev 7) (u84 u05) (nomark _)) (u02 (ua8 (u85 (ev 5) (u00 (e_ix x_ix (ev 7) (ec T.f_jak T.g_law_draw G_jak hr (u00 (ev 0) (u00 (u12 ua3 rfl T.b_len (by decide) (u00 (ev 7) u05)) u05)))) u05)))
   (u07 (u16 4 sc_jap.nd (u08 vm4 (ev 4) (u08 um3 u03 (u08 u38 (e_ix x_ix (e_ix x_ix (ev 5) (e_un vm6 u03)) u03) u03)))))) u30))))
   (u07 (u19 (ev 5))))))) (fun ds G R h=>?_)
 ·obtain ⟨s,a,n,sp,most,rfl,_⟩:=h;rfl
 ·obtain ⟨s,a,n',sp,most,rfl,hS,hn,hmo,post⟩:=h
  simp! [id];dsimp! [id];refine ⟨by decide,fun p hp=>?_⟩;dsimp! [id];refine ⟨vj7 (by omega),?_⟩;have pn:=hS.ne hp;refine u27 (fun r σ G'=>∃ (i c:Nat) (w:List Mv) (v6 v7:Option D),i+c=most /\ r=rngD (i:Int) c /\ Ady s a G G' /\ G' p=some (.lst (w.map mD)) /\ lgw n' sp 0 w /\ w.length<=i /\ σ=[some (.ref s),some (.int (n':Int)),some (.int (sp:Int)),some (.int (most:Int)),some (.int (fin 0 w:Int)),some (.ref p),v6,v7])
   ⟨0,most,[],none,none,by omega,rfl,(Ady.refl hS).new hp,u01,trivial,by simp,rfl⟩ ?_ ?_
  ·rintro σ G' ⟨i,c,w,v6,v7,e,e2,A,hw,ho,hl,rfl⟩
   refine ⟨trivial,?_⟩;dsimp! [id];exact post p w G' A hw pn.1 pn.2 ho (by omega)
  ·rintro z r σ G' ⟨i,c,w,v6,v7,e,e2,A,hw,ho,hl,rfl⟩ ih
   cases c with
   | zero=>cases e2
   | succ c =>
    rw [u09] at e2;cases e2;refine ⟨trivial,?_⟩;have e3:(i:Int)+1=((i+1:Nat):Int):=by omega
    simp! [id];refine v75 T hn fun q ps G1 f1 h1 hps hpl g1=>?_
    simp! [id];dsimp! [id];refine ⟨by decide,fun p2 hp2=>?_⟩;have hq1:gup G1 p2 (.lst []) q=some (.lst (ps.map mD)):=by rw [u06 (gne h1 hp2)];exact h1
    have hw0:=g1.kp _ _ hw;have hw1:gup G1 p2 (.lst []) p=some (.lst (w.map mD)):=by rw [u06 (gne hw0 hp2)];exact hw0
    have B:Ady s a G (gup G1 p2 (.lst [])):=Ady.new ⟨A.at_.grow g1,fun c u c1 c2 e=>g1.kp _ _ (A.kp c u c1 c2 e)⟩ hp2;refine vy5 (w:=ps) (by rw [hq1];rfl) (by rw [u01];rfl) ?_;cases ps with
    | nil =>
     simp! [id];exact ih _ _ ⟨i+1,c,w,_,_,by omega,by rw [e3],B,hw1,ho,by omega,rfl⟩
    | cons p0 ps =>
     have hnn:((p0::ps)=[])=False:=eq_false (by simp);have hll:(((p0::ps).map mD).length:Int)=((ps.length+1:Nat):Int):=by simp
     have qn:q ≠ s /\ q ≠ a:=A.at_.ne f1
     simp only [hnn,decide_false,Bool.not_false,if_true];rw [hw1,hq1];refine ⟨trivial,?_⟩;simp only [uj1,hll];refine u54 T B.at_ (by omega) (by rw [List.length_cons] at hpl;omega) fun v G2 A2 v0 v1=>?_
     have hq2:G2 q=some (.lst ((p0::ps).map mD)):=A2.kp _ _ qn.1 qn.2 hq1;have hw2:G2 p=some (.lst (w.map mD)):=A2.kp _ _ pn.1 pn.2 hw1;obtain ⟨d,hd,hat⟩:=at_getD (xs:=(p0::ps).map mD) v0 (by rw [hll];exact v1);obtain ⟨pm,hpm,rfl⟩:=List.mem_map.mp hd;have ol:=(hps pm).mp hpm;have o1:=ol.1;have hat':atI (mD p0::ps.map mD) v=some (mD pm):=hat;simp! [hq2,hat',hw2];refine ⟨by rw [List.length_map];exact Nat.lt_of_le_of_lt (m:=1000) (by omega) (by decide),?_⟩;obtain ⟨j,hj⟩:∃ j,pm.2=j+1:=⟨pm.2 - 1,by (clear hat' hat hw2 hq2 v1 v0 qn hll hnn hq1 hpl hps h1 hw1 hw0 hp2 f1 e3 ih e hl hw pn hp post hmo hn;omega)⟩;have ej:((pm.2:Nat):Int) - 1=(j:Int):=by omega
     have cp:CPow 1 (j:Int):=uc2 (by omega) (by omega);have hA:Ady s a G (gup G2 p (.lst (w.map mD++[mD pm]))):=by
      have C:=B.trans A2;exact ⟨C.at_.put pn.1 pn.2,fun c u c1 c2 e=>by rw [u06 (gne e hp)];exact C.kp c u c1 c2 e⟩
     dsimp! [vf1,mD,pD,mP,ej,cp,xor_int];refine ih _ _ ⟨i+1,c,w++[pm],some (.int (i:Int)),some (.ref q),by omega,by rw [e3],hA,by rw [u01,List.map_append];rfl,lgw_app.mpr ⟨ho,ol,trivial⟩,by simp;omega,?_⟩;rw [u24]
     show _=[some (D.ref s),_,_,_,some (D.int (fin 0 w ^^^ 2 ^ (pm.2 - 1):Nat)),_,_,_]
     rw [hj];rfl
theorem wa2 {n:Nat} (G_jak:Ok P w mg base n T.f_jak (uw9 T)):Ok P w mg base (n+1) T.f_jaj (w00 T):=by
 refine u17 T.f_jaj sc_jaj (fun ds G R h=>?_) (fun cdv A outer s H E hr =>
   (u02 (u16 2 sc_jaj.nd (u84 u05))
   (u02 (u80 (ut0 rfl T.b_range (u00 (ev 1) u05)) (u22 3 sc_jaj.nd) (u02 (u16 4 sc_jaj.nd (u08 u32 (u08 u32 u03 (u08 ux3 (ec T.f_jak T.g_law_draw G_jak hr (u00 (ev 0) (u00 u03 u05))) u03)) (ec T.f_jak T.g_law_draw G_jak hr (u00 (ev 0) (u00 u03 u05)))))
   (u07 (ua8 (u85 (ev 2) (u00 (e_ix x_ix (u84 (u00 u03 (u00 (u08 u32 u03 (u08 ue0 (ev 4) u03)) (u00 (ev 4) (u00 (ev 4) u05))))) (ec T.f_jak T.g_law_draw G_jak hr (u00 (ev 0) (u00 u03 u05)))) u05))))))
   (u07 (u19 (ev 2)))))) (fun ds G R h=>?_)
 ·obtain ⟨s,a,n,rfl,_⟩:=h;rfl
 ·obtain ⟨s',a,n',rfl,S,hn,post⟩:=h
  simp! [id];refine ⟨by decide,fun p hp=>?_⟩;have n0:=S.ne hp;dsimp! [id];refine ⟨by omega,?_⟩;refine u27 (fun r σ G'=>∃ (i c:Nat) (pl:List Int) (v3 v4:Option D),i+c=n' /\ r=rngD (i:Int) c /\ Ady s' a G G' /\ G' p=some (.lst (pl.map .int)) /\ pl.length=i /\ (∀ x ∈ pl,1<=x /\ x<=1000000000) /\ σ=[some (.ref s'),some (.int (n':Int)),some (.ref p),v3,v4]) ⟨0,n',[],none,none,by omega,rfl,(Ady.refl S).new hp,u01,rfl,(fun x hx=>by cases hx),rfl⟩ ?_ ?_
  ·rintro σ G1 ⟨i,c,pl,v3,v4,e,e2,A1,k1,hl,hb,rfl⟩
   refine ⟨trivial,?_⟩;have hc:c=0:=by
    cases c with
    | zero=>rfl
    | succ c=>rw [u09] at e2;cases e2
   subst hc;dsimp! [id];exact post p pl G1 A1 n0.1 n0.2 k1 (by omega) hb
  ·rintro z r σ G1 ⟨i,c,pl,v3,v4,e,e2,A1,k1,hl,hb,rfl⟩ ih
   cases c with
   | zero=>cases e2
   | succ c =>
    rw [u09] at e2;cases e2;refine ⟨trivial,?_⟩;have ei:(i:Int)+1=((i+1:Nat):Int):=by omega
    simp! [id];refine u54 T A1.at_ (by decide) (by decide) fun x1 G2 a2 b1 b2=>?_
    have cm:CMul x1 32000:=wf5 (by decide) (by decide);simp! [cm];refine u54 T a2.at_ (by decide) (by decide) fun x2 G3 a3 b3 b4=>?_
    obtain ⟨C,hC,C1,C2⟩:∃ C:Int,1+x1 * 32000+x2=C /\ 1<=C /\ C<=1000000000:=⟨_,rfl,by omega,by omega⟩;have k3:=a3.kp _ _ n0.1 n0.2 (a2.kp _ _ n0.1 n0.2 k1);simp! [hC];dsimp! [k3];refine ⟨by decide,by decide,fun p4 hp4=>?_⟩;have n4:=a3.at_.ne hp4
    have A4:=((A1.trans a2).trans a3).new (o:=.lst [.int 1,.int (1+C % 9),.int C,.int C]) hp4;refine u54 T A4.at_ (by decide) (by decide) fun x5 G5 a5 d1 d2=>?_
    have k45:=a5.kp _ _ n4.1 n4.2 u01;have k5:G5 p=some (.lst (pl.map .int)):=a5.kp _ _ n0.1 n0.2 (by rw [u06 (gne k3 hp4)];exact k3);obtain ⟨u,hu,u1,u2⟩:∃ u:Int,atI [D.int 1,.int (1+C % 9),.int C,.int C] x5=some (.int u) /\ 1<=u /\ u<=1000000000:=by
     have:x5=0 \/ x5=1 \/ x5=2 \/ x5=3:=by (clear k5 k45 n4 hp4 k3 C2 C1 hC b4 b3 b2 b1 ei ih e hb hl k1 n0 hp post hn;omega)
     rcases this with e | e | e | e <;> subst e
     ·exact ⟨1,rfl,by decide,by decide⟩
     ·exact ⟨1+C % 9,rfl,by omega,by omega⟩
     ·exact ⟨C,rfl,C1,C2⟩
     ·exact ⟨C,rfl,C1,C2⟩
    simp! [k45,hu,k5];have A5:=A4.trans a5;refine ⟨Nat.lt_of_le_of_lt (m:=1000) (by rw [List.length_map];omega) (by decide),ih _ _ ⟨i+1,c,pl++[u],_,_,by omega,by rw [ei],⟨A5.at_.put n0.1 n0.2,fun b o h1 h2 hb=>?_⟩,by rw [u01,List.map_append];rfl,by rw [List.length_append,hl];rfl,fun x hx=>?_,rfl⟩⟩
    ·by_cases hbp:b=p
     ·subst hbp;rw [hp] at hb;cases hb
     ·rw [u06 hbp];exact A5.kp b o h1 h2 hb
    ·rcases List.mem_append.mp hx with w | w
     ·exact hb x w
     ·rw [List.mem_singleton.mp w];exact ⟨u1,u2⟩
theorem w98 {n:Nat} (G_jak:Ok P w mg base n T.f_jak (uw9 T)):Ok P w mg base (n+1) T.f_jan (vz8 T):=by
 refine u17 T.f_jan sc_jan (fun ds G R h=>?_) (fun cdv A outer s H E hr =>
   (u02 (u16 1 sc_jan.nd (u08 u32 u03 (e_ix x_ix (u84 (u00 (ec T.f_jak T.g_law_draw G_jak hr (u00 (ev 0) (u00 u03 u05))) (u00 (ec T.f_jak T.g_law_draw G_jak hr (u00 (ev 0) (u00 u03 u05))) (u00 (ec T.f_jak T.g_law_draw G_jak hr (u00 (ev 0) (u00 u03 u05))) u05)))) (ec T.f_jak T.g_law_draw G_jak hr (u00 (ev 0) (u00 u03 u05))))))
   (u07 (u19 (u60 (u00 (ev 1) (u00 (e_ix x_ix (u84 (u00 (ec T.f_jak T.g_law_draw G_jak hr (u00 (ev 0) (u00 u03 u05))) (u00 (u08 u32 u03 (ec T.f_jak T.g_law_draw G_jak hr (u00 (ev 0) (u00 u03 u05)))) (u00 (ec T.f_jak T.g_law_draw G_jak hr (u00 (ev 0) (u00 u03 u05))) u05)))) (ec T.f_jak T.g_law_draw G_jak hr (u00 (ev 0) (u00 u03 u05)))) u05))))))) (fun ds G R h=>?_)
 ·obtain ⟨s,a,rfl,_⟩:=h;rfl
 ·obtain ⟨st,a,rfl,hS,post⟩:=h
  simp! [id];refine u54 T hS (by decide) (by decide) fun x G1 A1 x0 x1=>?_
  simp! [id];refine u54 T A1.at_ (by decide) (by decide) fun y G2 A2 y0 y1=>?_
  simp! [id];refine u54 T A2.at_ (by decide) (by decide) fun z G3 A3 z0 z1=>?_
  simp! [id];refine ⟨by decide,fun p hp=>?_⟩;have B3:=((A1.trans A2).trans A3).new (o:=.lst [.int x,.int y,.int z]) hp;refine u54 T B3.at_ (by decide) (by decide) fun t G4 A4 t0 t1=>?_
  have hp4:G4 p=some (.lst [.int x,.int y,.int z]):=A4.kp _ _ (A3.at_.ne hp).1 (A3.at_.ne hp).2 u01;obtain ⟨n1,hn1,hn2,hat⟩:∃ n1:Nat,n1<=7 /\ 0<=n1 /\ atI [D.int x,D.int y,D.int z] t=some (.int (n1:Int)):=by
   have:t=0 \/ t=1 \/ t=2:=by omega
   rcases this with e | e | e
   ·subst e;exact ⟨x.toNat,by omega,by omega,by show some (D.int x)=_;rw [show ((x.toNat:Nat):Int)=x by omega]⟩
   ·subst e;exact ⟨y.toNat,by omega,by omega,by show some (D.int y)=_;rw [show ((y.toNat:Nat):Int)=y by omega]⟩
   ·subst e;exact ⟨z.toNat,by omega,by omega,by show some (D.int z)=_;rw [show ((z.toNat:Nat):Int)=z by omega]⟩
  simp! [hp4,hat];dsimp! [id];refine u54 T A4.at_ (by decide) (by decide) fun x2 G5 A5 x20 x21=>?_
  simp! [id];refine u54 T A5.at_ (by decide) (by decide) fun y2 G6 A6 y20 y21=>?_
  simp! [id];refine u54 T A6.at_ (by decide) (by decide) fun z2 G7 A7 z20 z21=>?_
  simp! [id];refine ⟨by decide,fun p2 hp2=>?_⟩;have B7:=((((B3.trans A4).trans A5).trans A6).trans A7).new (o:=.lst [.int x2,.int (1+y2),.int z2]) hp2;refine u54 T B7.at_ (by decide) (by decide) fun t2 G8 A8 t20 t21=>?_
  have hp8:G8 p2=some (.lst [.int x2,.int (1+y2),.int z2]):=A8.kp _ _ (A7.at_.ne hp2).1 (A7.at_.ne hp2).2 u01;obtain ⟨n2,hn3,hat2⟩:∃ n2:Nat,n2<=8 /\ atI [D.int x2,D.int (1+y2),D.int z2] t2=some (.int (n2:Int)):=by
   have:t2=0 \/ t2=1 \/ t2=2:=by (clear hp8 hp2 z21 z20 y21 y20 x21 x20 hat hn2 hn1 hp4 t1 t0 hp z1 z0 y1 y0 x1 x0 post;omega)
   rcases this with e | e | e
   ·subst e;exact ⟨x2.toNat,by omega,by show some (D.int x2)=_;rw [show ((x2.toNat:Nat):Int)=x2 by (clear t21 t20 hp8 hp2 z21 z20 y21 y20 hat hn2 hn1 hp4 t1 t0 hp z1 z0 y1 y0 x1 x0 post;omega)]⟩
   ·subst e;exact ⟨(1+y2).toNat,by omega,by show some (D.int (1+y2))=_;rw [show (((1+y2).toNat:Nat):Int)=1+y2 by (clear t21 t20 hp8 hp2 z21 z20 x21 x20 hat hn2 hn1 hp4 t1 t0 hp z1 z0 y1 y0 x1 x0 post;omega)]⟩
   ·subst e;exact ⟨z2.toNat,by omega,by show some (D.int z2)=_;rw [show ((z2.toNat:Nat):Int)=z2 by (clear t21 t20 hp8 hp2 y21 y20 x21 x20 hat hn2 hn1 hp4 t1 t0 hp z1 z0 y1 y0 x1 x0 post;omega)]⟩
  simp! [hp8,hat2];refine ⟨by decide,?_⟩;have:=post (1+n1) n2 G8 (B7.trans A8) (by omega) (by omega) hn3
  rwa [show (((1+n1:Nat)):Int)=1+(n1:Int) by omega] at this
theorem wa3 {n:Nat} (G_jam:Ok P w mg base n T.f_jam (vf6 T)):Ok P w mg base (n+1) T.f_jai (w01 T):=by
 refine u17 T.f_jai sc_jai (fun ds G R h=>?_) (fun cdv A outer s H E hr =>
   (u02 (u16 4 sc_jai.nd (up0 (x_eq hr) (ev 3) u03 (nomark _)))
   (u02 (u80 (ub8 (ec T.f_jam T.g_law_moves G_jam hr (u00 (ev 3) (u00 (u12 ua3 rfl T.b_len (by decide) (u00 (ev 1) u05)) (u00 (ev 2) u05))))) (vw1 (n:=2) rfl (u89 (u22 5 sc_jai.nd) (u89 (u22 6 sc_jai.nd) v38))) (u02 (u16 7 sc_jai.nd (u08 vm4 (ev 3) (u08 um3 u03 (u08 u38 (ev 6) u03))))
   (u02 (s_if (t_w (w_or (u25 (u75 hr) (ev 7) (ev 0) (by with_unfolding_all rfl)) (um7 (u25 (x_gt) (u12 v83 rfl T.b_abs (by decide) (u00 (u08 u38 (uc0 hr (ev 0) (ev 7)) (uc0 hr (ev 0) (ev 3))) u05)) (e_ix x_ix (ev 1) (u08 u38 (ev 6) u03)) (nomark _))))) (u07 (u19 e_bl)) u30)
   (u07 (s_if (u25 (x_eq hr) (u08 u32 (uc0 hr (ev 0) (ev 7)) (e_ix x_ix (ev 1) (u08 u38 (ev 6) u03))) (uc0 hr (ev 0) (ev 3)) (nomark _)) (u07 (u16 4 sc_jai.nd e_bl)) u30)))))
   (u07 (u19 (ev 4)))))) (fun ds G R h=>?_)
 ·obtain ⟨wq,c,o,W,pl,s,x,v,rfl,_⟩:=h;rfl
 ·obtain ⟨wq,c,o,W,pl,s',x,v,rfl,hw,hc,h8,hpos,hW,hx,post⟩:=h
  have hc0:∀ i,0<=cf pl i:=v67 fun x hx=>(hpos x hx).1
  have hN:=(hW _ _).mp hx;simp! [id];dsimp! [hc,u11];rw [List.length_map];refine v75 T (m:=x) (n:=pl.length) (s:=s') (by omega) fun qm ps G2 f2 k2 hps hpl g2=>?_
  have hw2:=g2.kp _ _ hw;have hc2:=g2.kp _ _ hc;simp! [k2];refine u27 (fun r σ G'=>∃ (l r':List Mv) (v5 v6 v7:Option D) (b:Bool),l++r'=ps /\ r=r'.map mD /\ G'=G2 /\ (b=true ↔ (x=0 \/ ∃ p ∈ l,∃ u,gtA W (xr x p.2)=some u /\ u+cf pl (p.2 - 1)=v)) /\ σ=[some (.ref wq),some (.ref c),some (.int (s':Int)),some (.int (x:Int)),some (.bl b),v5,v6,v7])
   ⟨[],ps,none,none,none,decide ((x:Int)=0),rfl,rfl,rfl,by simp,rfl⟩ ?_ ?_
  ·rintro σ G' ⟨l,r',v5,v6,v7,b,e1,e2,rfl,hb,rfl⟩
   have hz:r'=[]:=by simpa using e2.symm
   subst hz;rw [List.append_nil] at e1;subst e1;refine ⟨by rw [k2],?_⟩;have hbt:b=true:=hb.mpr (by
    by_cases h0:x=0
    ·exact .inl h0
    ·obtain ⟨p,u,p1,p2,p3⟩:=vt3 hc0 hN h0
     exact .inr ⟨p,(hps p).mpr p1,u,(hW _ _).mpr p2,p3⟩)
   subst hbt;dsimp! [id];exact post _ g2
  ·rintro z r σ G' ⟨l,r',v5,v6,v7,b,e1,e2,rfl,hb,rfl⟩ ih
   cases r' with
   | nil=>cases e2
   | cons p r' =>
    cases e2;refine ⟨by rw [k2],?_⟩;have lp:lgl pl.length s' x p:=(hps p).mp (by rw [<- e1];simp);obtain ⟨u,hu,hu1,hu2⟩:=v07 hc0 hN lp;have hux:=(hW _ _).mpr hu;obtain ⟨j,hj⟩:∃ j,p.2=j+1:=⟨p.2 - 1,by have:=lp.1.1;omega⟩;have hjl:j < pl.length:=by have:=lp.1.2;omega
    have ej:((p.2:Nat):Int) - 1=(j:Int):=by omega
    have cp:CPow 1 (j:Int):=uc2 (by omega) (by omega);have hat:atI (pl.map D.int) (j:Int)=some (.int (cf pl j)):=by
     refine u53 ?_;rw [List.getElem?_map,List.getElem?_eq_getElem hjl,uw5 hjl];rfl
    have ejj:p.2 - 1=j:=by omega
    rw [ejj] at hu1 hu2;generalize hN2:forL _ _ _ _ _=N at ih ⊢;clear hN2;have exr:x ^^^ 2 ^ j=xr x p.2:=by unfold xr;rw [ejj]
    simp! [mD,pD,mP,ej,cp,xor_int,exr];simp! [w14];refine ⟨.inl ((xr x p.2:Nat):Int),vlD D.int W,wq,rfl,rfl,.inr ⟨o,hw2⟩,?_⟩;rw [u47,hux];simp! [v63];refine (if_neg (by simp)).mpr ?_;have ex1:valK (vlD D.int W) (.inl ((xr x p.2:Nat):Int))=some (.int u):=by rw [u47,hux];rfl
    have ex2:valK (vlD D.int W) (.inl (x:Int))=some (.int v):=by rw [u47,hx];rfl
    refine ⟨wq,o,_,.inl ((xr x p.2:Nat):Int),.int u,rfl,rfl,hw2,ex1,wq,o,_,.inl (x:Int),.int v,rfl,rfl,hw2,ex2,?_⟩;have hab:¬ (if u - v < 0 then -(u - v) else u - v) > cf pl j:=by split <;> omega
    simp! [xAbs,hc2,u11,ej,hat,hab];dsimp! [v63];refine ⟨wq,o,_,.inl ((xr x p.2:Nat):Int),.int u,rfl,rfl,hw2,ex1,?_⟩;simp! [hc2,u11,ej,hat];refine ⟨wq,o,_,.inl (x:Int),.int v,rfl,rfl,hw2,ex2,?_⟩
    by_cases he:u+cf pl j=v
    ·simp! [he]
     refine ih _ _ ⟨l++[p],r',_,_,_,true,by rw [<- e1,List.append_assoc];rfl,rfl,rfl,⟨fun _=>.inr ⟨p,by simp,u,hux,by rw [ejj];exact he⟩,fun _=>rfl⟩,rfl⟩
    ·simp! [he]
     refine ih _ _ ⟨l++[p],r',_,_,_,b,by rw [<- e1,List.append_assoc];rfl,rfl,rfl,⟨fun hb1=>?_,fun hb1=>?_⟩,rfl⟩
     ·rcases hb.mp hb1 with h0 | ⟨q,q1,q2⟩
      ·exact .inl h0
      ·exact .inr ⟨q,List.mem_append_left _ q1,q2⟩
     ·rcases hb1 with h0 | ⟨q,q1,u',q2,q3⟩
      ·exact hb.mpr (.inl h0)
      ·rcases List.mem_append.mp q1 with q1 | q1
       ·exact hb.mpr (.inr ⟨q,q1,u',q2,q3⟩)
       ·obtain rfl:q=p:=by simpa using q1
        rw [hux] at q2;cases q2;rw [ejj] at q3;exact absurd q3 he
theorem w95 {n:Nat}:Ok P w mg base (n+1) T.f_jaq (vf5 T):=by
 refine u17 T.f_jaq vi9 (fun ds G R h=>?_) (fun cdv A outer s H E hr =>
   (u07 (u19 (vx2 (u12 ue1 rfl T.b_isinstance (by decide) (u00 (ev 0) (u00 (v48 (T := "int") T.b_int (by decide)) u05))) (v50 (wf0 (u12 ue1 rfl T.b_isinstance (by decide) (u00 (ev 0) (u00 (v48 (T := "bool") T.b_bool (by decide)) u05))))))))) (fun ds G R h=>?_)
 ·obtain ⟨v,rfl,_⟩:=h;rfl
 ·obtain ⟨v,rfl,post⟩:=h
  have k1:subK "int" "int" = true:=by decide
  have k2:subK "int" "bool" = false:=by decide
  simp! [uo3,k1];exact ⟨.inl trivial,.inr (.inr (.inl trivial)),by rw [k2];exact post⟩
theorem wa0 {n:Nat}:Ok P w mg base (n+1) T.f_jal (vz9 T):=by
 refine u17 T.f_jal vj1 (fun ds G R h=>?_) (fun cdv A outer s H E hr =>
   (u02 (s_if (u25 (x_eq hr) (ev 1) (u84 u05) (nomark _)) (u07 (u19 vd7)) u30)
   (u07 (u19 (u12 w09 rfl T.b_min (by decide) (u00 (uc1 (N':=["_law_marks", "_law_works"]) (ix:=[none,some 0]) (blk (osc:=u04 v90) (N:=["_law_works", "_law_some"]) rfl rfl (by decide)) (ub8 (ev 1)) (fun _ _ _ _=>(u22 0 (show (["_law_marks", "_law_works"]:List Str).Nodup by decide))) (fun _ _ _ _=>ub7) (fun _ _ _ _=>(ug7 hr (ev 1) (ev 0)))) u05)))))) (fun ds G R h=>?_)
 ·obtain ⟨wq,a,W,ps,rfl,_⟩:=h;rfl
 ·obtain ⟨wq,a,W,ps,rfl,hw,ha,hl,hv,post⟩:=h
  have ha2:G a=some (.lst ((ps.map fun p=>(p.1:Int)).map .int)):=by rw [ha,List.map_map];rfl
  simp! [id];refine ⟨by decide,fun q hq=>?_⟩;refine u46 (ks:=ps.map fun p=>(p.1:Int)) (ms:=[]) (by rw [u06 (gne ha hq),ha2];rfl) (by rw [u01];rfl) ?_;have kw:gup G q (.lst []) wq=some (.dic (vlD D.int W)):=by rw [u06 (gne hw hq)];exact hw
  have ka:gup G q (.lst []) a=some (.lst (ps.map fun p=>nD p.1)):=by rw [u06 (gne ha hq)];exact ha
  have g1:Grow G (gup G q (.lst [])):=Grow.refl.new hq;generalize gup G q (.lst [])=G1 at kw ka g1 ⊢;cases ps with
  | nil =>
   simp! [id];exact post none _ g1 (.inl ⟨rfl,rfl⟩)
  | cons p0 ps0 =>
   obtain ⟨ps,hps⟩:∃ ps,ps=p0::ps0:=⟨_,rfl⟩;simp! [id];rw [<- hps] at ka hl hv post;dsimp! [ka];intro p hp;have kw2:∀ {o:DO},gup G1 p o wq=some (.dic (vlD D.int W)):=fun {o}=>by rw [u06 (gne kw hp)];exact kw
   have ka2:∀ {o:DO},gup G1 p o a=some (.lst (ps.map fun p=>nD p.1)):=fun {o}=>by rw [u06 (gne ka hp)];exact ka
   refine u39 (fun r σ G'=>∃ (z1 z2:List (Nat × Int)) (v:Option D),z1++z2=ps /\ r=z2.map (fun p=>nD p.1) /\ G'=gup G1 p (.lst ((z1.map Prod.snd).map .int)) /\ σ=[v,some (.ref wq)]) ⟨[],ps,none,rfl,rfl,rfl,rfl⟩ ?_ ?_
   ·rintro σ G' ⟨z1,z2,v,e,e2,rfl,rfl⟩
    have ht:z2=[]:=by simpa using e2.symm
    subst ht;rw [List.append_nil] at e;subst e;refine ⟨by rw [ka2];rfl,?_⟩;dsimp! [vm8];rw [u01];simp only [u11,ud9];refine ⟨by rw [hps];simp,fun M hM hm=>post (some M) _ (g1.new hp) (.inr ⟨M,rfl,hM,hm⟩)⟩
   ·rintro d r σ G' ⟨z1,z2,v,e,e2,rfl,rfl⟩ ih
    cases z2 with
    | nil=>cases e2
    | cons y z2 =>
     cases e2;refine ⟨by rw [ka2];rfl,?_⟩;have hlen:=congrArg List.length e;rw [List.length_append,List.length_cons] at hlen;have hy:gtA W y.1=some y.2:=hv y (by rw [<- e];simp);simp! [uw4];refine ⟨wq,vlD D.int W,.inl (y.1:Int),.int y.2,rfl,rfl,kw2,by rw [u47,hy];rfl,?_⟩;simp! [id];refine ⟨by rw [List.length_map,List.length_map];exact Nat.lt_of_le_of_lt (m:=4000) (by omega) (by decide),?_⟩;refine ih _ _ ⟨z1++[y],z2,_,by rw [<- e,List.append_assoc];rfl,rfl,?_,rfl⟩;rw [u23,List.map_append,List.map_append];rfl
theorem w82 {n:Nat} (G_jag:Ok P w mg base n T.f_jag (w03 T)) (G_jah:Ok P w mg base n T.f_jah (w02 T)) (G_jaa:Ok P w mg base n T.f_jaa (w05 T)) (G_jay:Ok P w mg base n T.f_jay (vz6 T)) (G_jao:Ok P w mg base n T.f_jao (wh0 T)) (G_jak:Ok P w mg base n T.f_jak (uw9 T)) (G_jap:Ok P w mg base n T.f_jap (vz7 T)) (G_jaj:Ok P w mg base n T.f_jaj (w00 T)) (G_jan:Ok P w mg base n T.f_jan (vz8 T)) (G_jai:Ok P w mg base n T.f_jai (w01 T)) (G_jaq:Ok P w mg base n T.f_jaq (vf5 T)) (G_jal:Ok P w mg base n T.f_jal (vz9 T)):Ok P w mg base (n+1) T.f_law (wg4 T):=by
 refine u17 T.f_law sc_law (fun ds G R h=>?_) (fun cdv A outer s H E hr =>
   (u02 (u16 1 sc_law.nd (ec T.f_jao T.g_law_source G_jao hr (u00 (ev 0) u05)))
   (u02 (v91 (ec T.f_jan T.g_law_sizes G_jan hr (u00 (ev 1) u05)) (vw1 (n:=2) rfl (u89 (u22 2 sc_law.nd) (u89 (u22 3 sc_law.nd) v38))))
   (u02 (u16 4 sc_law.nd (ec T.f_jaj T.g_law_costs G_jaj hr (u00 (ev 1) (u00 (ev 2) u05))))
   (u02 (u16 5 sc_law.nd (ec T.f_jap T.g_law_way G_jap hr (u00 (ev 1) (u00 (ev 2) (u00 (ev 3) (u00 (ec T.f_jak T.g_law_draw G_jak hr (u00 (ev 1) (u00 u03 u05))) u05))))))
   (u02 (u16 6 sc_law.nd (ug8 v82 rfl T.b_list (by decide) (u00 (ev 4) u05)))
   (u02 (u16 7 sc_law.nd (ec T.f_jah T.g_distances G_jah hr (u00 (ev 6) (u00 (ev 3) u05))))
   (u02 (s_if (t_w (w_or (uy2 (un0 (u12 ue1 rfl T.b_isinstance (by decide) (u00 (ev 7) (u00 (v48 (T := "dict") T.b_dict (by decide)) u05))))) (w_or (u25 (x_ne hr) (ev 6) (ev 4) (nomark _)) (w_or (u25 (x_ne hr) (ug8 (ux4 hr) rfl T.b_list (by decide) (u00 (ev 7) u05)) (ec T.f_jag T.g_come_to G_jag hr (u00 (ev 2) (u00 (ev 3) u05))) (nomark _)) (um7 (u25 (x_ne hr) (vl5 hr (ev 7) u03 (e_un vm6 u03)) u03 (nomark _))))))) (u07 (u19 e_bl)) u30)
   (u02 (u80 (v43 (uk7 (ev 7))) (u22 8 sc_law.nd) (u07 (s_if (t_w (w_or (uy2 (un0 (ec T.f_jaq T.g_law_whole G_jaq hr (u00 (uc0 hr (ev 7) (ev 8)) u05)))) (um7 (uy2 (un0 (ec T.f_jai T.g_law_apart G_jai hr (u00 (ev 7) (u00 (ev 4) (u00 (ev 3) (u00 (ev 8) u05)))))))))) (u07 (u19 e_bl)) u30)))
   (u02 (u16 8 sc_law.nd u03)
   (u02 (u16 9 sc_law.nd u03)
   (u02 (u80 (ub8 (ev 5)) (vw1 (n:=2) rfl (u89 (u22 10 sc_law.nd) (u89 (u22 11 sc_law.nd) v38))) (u02 (u16 8 sc_law.nd (u08 vm4 (ev 8) (u08 um3 u03 (u08 u38 (ev 11) u03))))
   (u02 (u16 9 sc_law.nd (u08 u32 (ev 9) (e_ix x_ix (ev 4) (u08 u38 (ev 11) u03))))
   (u07 (s_if (u25 (x_gt) (vl5 hr (uk7 (ev 7)) (ev 8) (u08 u32 (ev 9) u03)) (ev 9) (nomark _)) (u07 (u19 e_bl)) u30)))))
   (u02 (vj6 12 sc_law.nd (N':=["_law_marks", "_law_n"]) (ix:=[none,some 2]) (blk (osc:=u04 uu9) (N:=["_law_script", "_law_source_here", "_law_n", "_law_s", "_law_prices", "_law_way_here", "_law_handed", "_law_works", "_law_marks", "_law_spent", "_law_word", "_law_k", "_law_have", "_law_due", "_law_told"]) rfl rfl (by decide)) (v43 (uk7 (ev 7))) (fun _ _ _ _=>(u22 0 (show (["_law_marks", "_law_n"]:List Str).Nodup by decide))) (fun _ _ _ _=>(ug3 (u25 (x_eq hr) (u08 um4 (u08 ux2 (ev 0) (u08 u38 (ev 1) u03)) u03) u03 (nomark _)))) (fun _ _ _ _=>(ev 0)))
   (u02 (u16 13 sc_law.nd (u84 (u00 (ec T.f_jal T.g_law_least G_jal hr (u00 (uk7 (ev 7)) (u00 (uc1 (N':=["_law_marks", "_law_n"]) (ix:=[none,some 2]) (blk (osc:=u04 uu9) (N:=["_law_script", "_law_source_here", "_law_n", "_law_s", "_law_prices", "_law_way_here", "_law_handed", "_law_works", "_law_marks", "_law_spent", "_law_word", "_law_k", "_law_have", "_law_due", "_law_told"]) rfl rfl (by decide)) (ub8 (ev 12)) (fun _ _ _ _=>(u22 0 (show (["_law_marks", "_law_n"]:List Str).Nodup by decide))) (fun _ _ _ _=>(ug3 (u25 (x_eq hr) (ev 0) (u08 um3 u03 (u08 u38 (ev 1) u03)) (nomark _)))) (fun _ _ _ _=>(ev 0))) u05))) (u00 (ec T.f_jal T.g_law_least G_jal hr (u00 (uk7 (ev 7)) (u00 (ev 12) u05))) u05))))
   (u02 (u16 14 sc_law.nd (u84 (u00 (ec T.f_jaa T.g_alone G_jaa hr (u00 (ev 6) (u00 (ev 3) u05))) (u00 (ec T.f_jay T.g_reached G_jay hr (u00 (ev 6) (u00 (ev 3) u05))) u05))))
   (u02 (s_if (t_w (w_or (u25 (x_ne hr) (ev 14) (ev 13) (nomark _)) (um7 (uy2 (un0 (u12 wh7 rfl T.b_all (by decide) (u00 (uc1 (N':=["_law_one"]) (ix:=[none]) (blk (osc:=u04 uu9) (N:=["_law_script", "_law_source_here", "_law_n", "_law_s", "_law_prices", "_law_way_here", "_law_handed", "_law_works", "_law_marks", "_law_spent", "_law_word", "_law_k", "_law_have", "_law_due", "_law_told"]) rfl rfl (by decide)) (ub8 (ev 14)) (fun _ _ _ _=>(u22 0 (show (["_law_one"]:List Str).Nodup by decide))) (fun _ _ _ _=>ub7) (fun _ _ _ _=>(e_or (up0 (wh4) (ev 0) vd7 (nomark _)) (v50 (ec T.f_jaq T.g_law_whole G_jaq hr (u00 (ev 0) u05)))))) u05))))))) (u07 (u19 e_bl)) u30)
   (u02 (ua8 (vd8 (ev 7)))
   (u07 (u19 (vx2 (up0 (x_eq hr) (ug8 (ux4 hr) rfl T.b_list (by decide) (u00 (ec T.f_jah T.g_distances G_jah hr (u00 (ev 6) (u00 (ev 3) u05))) u05)) (ec T.f_jag T.g_come_to G_jag hr (u00 (ev 2) (u00 (ev 3) u05))) (nomark _)) (v50 (up0 (x_eq hr) (ev 6) (ev 4) (nomark _))))))))))))))))))))))) (fun ds G R h=>?_)
 ·obtain ⟨a,ns,rfl,_⟩:=h;rfl
 ·obtain ⟨a,ns,rfl,htb,ha,hns,post⟩:=h
  simp! [id];refine u21 (post:=fun d G'=>∃ q l,d=.ref q /\ Src G' q l /\ Grow G G') (fun R h=>⟨a,ns,rfl,ha,fun q l G' x y=>h _ _ ⟨q,l,rfl,x,y⟩⟩) ?_;rintro d G1 ⟨st,ad,rfl,S1,g1⟩;have tb1:=g1.kp _ _ htb;have n1s:(77:Addr) ≠ st:=fun z=>by obtain ⟨_,_,_,h1,_⟩:=S1;rw [<- z,tb1] at h1;cases h1
  have n1a:(77:Addr) ≠ ad:=fun z=>by obtain ⟨_,_,_,_,h1,_⟩:=S1;rw [<- z,tb1] at h1;cases h1
  simp! [id];dsimp! [id];refine vy7 T S1 fun n' s' G2 a2 n1 n8 s8=>?_
  simp! [id];dsimp! [id];refine vy8 T a2.at_ n8 fun c pl G3 a3 cs ca kc hpl hpos=>?_
  subst hpl;have tb3:G3 77=some (.tb qnF 4):=(a2.trans a3).kp _ _ n1s n1a tb1;simp! [id];dsimp! [id];refine u54 T a3.at_ (by decide) (by decide) fun mo G4 a4 mo0 mo1=>?_
  obtain ⟨mn,rfl⟩:∃ mn:Nat,mo=(mn:Int):=⟨mo.toNat,by (clear tb3 n8 n1 hpos kc ca cs s8 n1a n1s tb1 post hns ha htb;omega)⟩;simp! [id];refine wm0 T a4.at_ (n:=pl.length) (sp:=s') (by omega) (by omega) fun qw w G5 a5 kw5 qs qa hw hwl=>?_
  have A35:=a4.trans a5;have kc5:G5 c=some (.lst (pl.map .int)):=A35.kp _ _ cs ca kc;have tb5:G5 77=some (.tb qnF 4):=A35.kp _ _ n1s n1a tb3;simp! [id];dsimp! [kc5,u11];intro c2 hc2;have g6:Grow G5 (gup G5 c2 (.lst (pl.map .int))):=Grow.refl.new hc2;simp! [id];refine vm0 T (g6.kp _ _ tb5) u01 n8 hpos fun wq W G7 f7 k7 hWs hW hWl g7=>?_
  have kc7:=g7.kp _ _ (g6.kp _ _ kc5);have kh7:G7 c2=some (.lst (pl.map .int)):=g7.kp _ _ u01;have kw7:=g7.kp _ _ (g6.kp _ _ kw5);have tb7:=g7.kp _ _ (g6.kp _ _ tb5);have nwc:c ≠ wq:=gne (g6.kp _ _ kc5) f7;have nwh:c2 ≠ wq:=gne u01 f7;have nww:qw ≠ wq:=gne (g6.kp _ _ kw5) f7;have nwt:(77:Addr) ≠ wq:=gne (g6.kp _ _ tb5) f7;obtain ⟨Z,hZ⟩:∃ Z:Gp->Prop,∀ G',Z G' ↔ (G' 77=some (.tb qnF 4) /\ G' c=some (.lst (pl.map .int)) /\ G' c2=some (.lst (pl.map .int)) /\ G' qw=some (.lst (w.map mD))):=⟨_,fun _=>Iff.rfl⟩;have z7:Z G7:=(hZ _).mpr ⟨tb7,kc7,kh7,kw7⟩;have zG:∀ {G' G'':Gp},Z G'->Grow G' G''->Z G'':=fun z g=>by
   obtain ⟨h1,h2,h3,h4⟩:=(hZ _).mp z;exact (hZ _).mpr ⟨g.kp _ _ h1,g.kp _ _ h2,g.kp _ _ h3,g.kp _ _ h4⟩
  have zW:∀ {G':Gp} (o:DO),Z G'->Z (gup G' wq o):=fun o z=>by
   obtain ⟨h1,h2,h3,h4⟩:=(hZ _).mp z;exact (hZ _).mpr ⟨by rw [u06 nwt];exact h1,by rw [u06 nwc];exact h2,by rw [u06 nwh];exact h3,by rw [u06 nww];exact h4⟩
  clear tb7 kw7 g7 f7 g6 tb5 kc5 A35 kw5 a5 a4 tb3 kc a3 a2 S1 g1 tb1;have hc0:∀ i,0<=cf pl i:=v67 fun x hx=>(hpos x hx).1
  have hnd:(W.map Prod.fst).Nodup:=hWs.imp (fun h=>Nat.ne_of_lt h);obtain ⟨t,hD⟩:=wl0 hc0 hnd hW;have h0:gtA W 0=some 0:=(hW 0 0).mpr (v06 hc0);have hkeys:∀ (W:List (Nat × Int)) (xs:List Nat),(W.map Prod.fst).Pairwise (· < ·)->(∀ x v,gtA W x=some v ↔ Nrst pl.length s' (cf pl) x v)->xs.Pairwise (· < ·)->(∀ x,x ∈ xs ↔ RS pl.length s' x)->W.map Prod.fst=xs:=fun W xs hWs hW h1 h2=>vi0 hWs h1 fun x=>by
   rw [h2,ga_mem];exact ⟨fun ⟨v,hv⟩=>((hW _ _).mp hv).rs,fun h=>let ⟨v,hv⟩:=uf2 hc0 h;⟨v,(hW _ _).mpr hv⟩⟩
  have kd:uo3 G7 (.ref wq)=some "dict" := by unfold uo3;simp only [k7]
  have kdd:subK "dict" "dict" = true:=by decide
  simp! [id];dsimp! [id];refine ⟨.inr (.inr (.inr (.inr (.inr trivial)))),?_⟩;rw [k7];simp only [kdd,Bool.not_true,Bool.false_eq_true,if_false];refine u46 (ks:=pl) (ms:=pl) (by rw [kh7];rfl) (by rw [kc7];rfl) ?_;rw [decide_eq_true rfl];simp only [Bool.not_true,Bool.false_eq_true,if_false];refine ⟨wq,W.map fun p=>(p.1:Int),vlD D.int W,rfl,ue3 D.int,.inl k7,fun p8 hp8=>?_⟩;have z8:=zG z7 (Grow.refl.new (o:=.lst ((W.map fun p=>(p.1:Int)).map .int)) hp8);have k8:gup G7 p8 (.lst ((W.map fun p=>(p.1:Int)).map .int)) wq=some (.dic (vlD D.int W)):=by rw [u06 (gne k7 hp8)];exact k7
  have kl8:gup G7 p8 (.lst ((W.map fun p=>(p.1:Int)).map .int)) p8=some (.lst ((W.map fun p=>(p.1:Int)).map .int)):=u01;generalize gup G7 p8 (.lst ((W.map fun p=>(p.1:Int)).map .int))=G8 at z8 k8 kl8 ⊢;clear k7 kc7 kh7 z7 kd;refine vm1 T n1 n8 fun q9 xs G9 f9 kx9 hx1 hx2 hx3 g9=>?_
  have z9:=zG z8 g9;have k9:=g9.kp _ _ k8;have kl9:=g9.kp _ _ kl8;have exs:=hkeys W xs hWs hW hx1 hx2;refine u46 (ks:=W.map fun p=>(p.1:Int)) (ms:=W.map fun p=>(p.1:Int)) (by rw [kl9];rfl) (by rw [kx9,<- exs,List.map_map,List.map_map];rfl) ?_;rw [decide_eq_true rfl];simp only [Bool.not_true,Bool.false_eq_true,if_false];refine ⟨⟨wq,_,rfl,k9⟩,wq,_,.inl ((0:Nat):Int),rfl,rfl,k9,?_⟩;rw [u47,h0];dsimp! [id];dsimp! [id];simp! [ux9,uw2];refine ⟨wq,vlD D.int W,rfl,.inl k9,wq,vlD D.int W,rfl,u01,fun o=>?_⟩;have z10:=zW (.frd o (vlD D.int W)) (zW (.dic (vlD D.int W)) z9);have k10:gup (gup G9 wq (.dic (vlD D.int W))) wq (.frd o (vlD D.int W)) wq=some (.frd o (vlD D.int W)):=u01;generalize gup (gup G9 wq (.dic (vlD D.int W))) wq (.frd o (vlD D.int W))=G10 at z10 k10 ⊢;have eks:(vlD D.int W).map (fun kv=>kD kv.1)=W.map fun p=>nD p.1:=by unfold vlD;rw [List.map_map];rfl
  rw [eks];clear k9 k8 kl8 kl9 kx9 z8 z9 f9 g9 hp8;refine u27 (fun r σ G'=>∃ (x1 x2:List (Nat × Int)) (v8:Option D),x1++x2=W /\ r=x2.map (fun p=>nD p.1) /\ Z G' /\ G' wq=some (.frd o (vlD D.int W)) /\ σ=[some (.ref a),some (.ref st),some (.int (pl.length:Int)),some (.int (s':Int)),some (.ref c),some (.ref qw),some (.ref c2),some (.ref wq),v8,none,none,none,none,none,none])
   ⟨[],W,none,rfl,rfl,z10,k10,rfl⟩ ?_ ?_
  rotate_left
  ·rintro d r σ G' ⟨x1,x2,v8,e1,e2,z11,k11,rfl⟩ ih
   cases x2 with
   | nil=>cases e2
   | cons p x2 =>
    cases e2;refine ⟨k11,?_⟩;have hp:gtA W p.1=some p.2:=vw7 hnd (by rw [<- e1];simp);generalize hN:forL _ (uo4 8) _ _ _=N at ih ⊢;clear hN;simp! [v63];refine ⟨wq,o,_,.inl (p.1:Int),.int p.2,rfl,rfl,k11,by rw [u47,hp];rfl,?_⟩;refine v74 T ?_;simp! [id];refine vy9 T (x:=p.1) k11 ((hZ _).mp z11).2.1 n8 hpos hW hp fun G12 g12=>?_
    simp! [id];exact ih _ _ ⟨x1++[p],x2,_,by rw [<- e1,List.append_assoc];rfl,rfl,zG z11 g12,g12.kp _ _ k11,rfl⟩
  ·rintro σ G' ⟨x1,x2,v8,e1,e2,z11,k11,rfl⟩
   have hz:x2=[]:=by simpa using e2.symm
   subst hz;refine ⟨k11,?_⟩;clear e1 e2 k10 z10;dsimp! [id];dsimp! [id];dsimp! [((hZ _).mp z11).2.2.2];refine u27 (fun r σ G'=>∃ (l r':List Mv) (v10 v11:Option D),l++r'=w /\ r=r'.map mD /\ Z G' /\ (G' wq=some (.dic (vlD D.int W)) \/ ∃ o,G' wq=some (.frd o (vlD D.int W))) /\ σ=[some (.ref a),some (.ref st),some (.int (pl.length:Int)),some (.int (s':Int)),some (.ref c),some (.ref qw),some (.ref c2),some (.ref wq),some (.int (fin 0 l:Int)),some (.int (wk (cf pl) l)),v10,v11,none,none,none])
    ⟨[],w,none,none,rfl,rfl,z11,.inr ⟨o,k11⟩,rfl⟩ ?_ ?_
   rotate_left
   ·rintro d r σ G' ⟨l,r',v10,v11,e1,e2,z12,k12,rfl⟩ ih
    cases r' with
    | nil=>cases e2
    | cons p r' =>
     cases e2;obtain ⟨_,kc12,_,kw12⟩:=(hZ _).mp z12;refine ⟨by rw [kw12];rfl,?_⟩;obtain ⟨hl1,lp,hl2⟩:lgw pl.length s' 0 l /\ lgl pl.length s' (fin 0 l) p /\ lgw pl.length s' (xr (fin 0 l) p.2) r':=by
      have hlg:=hw;rw [<- e1] at hlg;obtain ⟨h1,h2,h3⟩:=lgw_app.mp hlg;exact ⟨h1,h2,h3⟩
     obtain ⟨j,hj⟩:∃ j,p.2=j+1:=⟨p.2 - 1,by have:=lp.1.1;omega⟩;have hjl:j < pl.length:=by have:=lp.1.2;omega
     have ej:((p.2:Nat):Int) - 1=(j:Int):=by omega
     have cp:CPow 1 (j:Int):=uc2 (by omega) (by omega);have hat:atI (pl.map D.int) (j:Int)=some (.int (cf pl j)):=by
      refine u53 ?_;rw [List.getElem?_map,List.getElem?_eq_getElem hjl,uw5 hjl];rfl
     have ejj:p.2 - 1=j:=by omega
     have exr:fin 0 l ^^^ 2 ^ j=fin 0 (l++[p]):=by rw [u24];show _=fin 0 l ^^^ 2 ^ (p.2 - 1);rw [ejj]
     have ewk:wk (cf pl) l+cf pl j=wk (cf pl) (l++[p]):=by rw [u45,uq3,ejj]
     have hlg2:lgw pl.length s' 0 (l++[p]):=lgw_app.mpr ⟨hl1,lp,trivial⟩;obtain ⟨u,hu⟩:=uf2 hc0 (show RS pl.length s' (fin 0 (l++[p])) from ⟨_,hlg2,rfl⟩);have hux:=(hW _ _).mpr hu;have hule:=hu.2 _ hlg2 rfl;generalize hN:forL _ _ _ _ _=N at ih ⊢;clear hN;simp! [mD,pD,mP,ej,cp,xor_int,exr];dsimp! [kc12,u11,ej,hat,ewk];refine vw5 ?_;simp! [v62,uw2];refine ⟨wq,vlD D.int W,rfl,k12,⟨wq,vlD D.int W,rfl,u01⟩,wq,vlD D.int W,.inl ((fin 0 (l++[p]):Nat):Int),rfl,rfl,u01,?_⟩;rw [u47,hux,show ((Option.map D.int (some u)).getD (D.int (wk (cf pl) (l++[p])+1)))=D.int u from rfl];have hgt:¬ u > wk (cf pl) (l++[p]):=by omega
     simp! [hgt];exact ih _ _ ⟨l++[p],r',_,_,by rw [<- e1,List.append_assoc];rfl,rfl,zW _ z12,.inl u01,rfl⟩
   ·rintro σ G' ⟨l,r',v10,v11,e1,e2,z12,k12,rfl⟩
    have hz:r'=[]:=by simpa using e2.symm
    subst hz;refine ⟨by rw [((hZ _).mp z12).2.2.2];rfl,?_⟩;clear e1 e2 k11 z11;dsimp! [id];simp! [ux9,uw2];refine ⟨wq,vlD D.int W,rfl,k12,wq,vlD D.int W,rfl,u01,fun o2 hv hhv=>?_⟩;have z13:=zW (.frd o2 (vlD D.int W)) (zW (.dic (vlD D.int W)) z12);have k13:gup (gup G' wq (.dic (vlD D.int W))) wq (.frd o2 (vlD D.int W)) wq=some (.frd o2 (vlD D.int W)):=u01;generalize gup (gup G' wq (.dic (vlD D.int W))) wq (.frd o2 (vlD D.int W))=G13 at z13 k13 hhv ⊢;rw [eks];have eN:((pl.length:Nat):Int) - 1=((pl.length - 1:Nat):Int):=by omega
    have cp:CPow 1 ((pl.length - 1:Nat):Int):=uc2 (by omega) (by omega);have eL:(1 * 2 ^ (pl.length - 1):Int)=((2 ^ (pl.length - 1):Nat):Int):=by simp
    have nwv:wq ≠ hv:=gne k13 hhv;have hgt:∀ x:Nat,(Builtin.bitAnd ((x:Int) / 2 ^ (pl.length - 1)) 1=1)=(x.testBit (pl.length - 1)=true):=fun x=>by
     have e1:(x:Int) / 2 ^ (pl.length - 1)=((x / 2 ^ (pl.length - 1):Nat):Int):=by simp
     rw [e1,show (1:Int)=((1:Nat):Int) from rfl,uc4,Nat.and_one_is_mod,Nat.testBit_eq_decide_div_mod_eq];apply propext;rw [decide_eq_true_iff];omega
    have zv:∀ {G':Gp} (o:DO),Z G13->Z (gup G13 hv o):=fun o z=>zG z (Grow.refl.new hhv)
    refine u39 (fun r σ G'=>∃ (x1 x2:List (Nat × Int)) (v:Option D),x1++x2=W /\ r=x2.map (fun p=>nD p.1) /\ G'=gup G13 hv (.lst ((x1.filter fun p=>p.1.testBit (pl.length - 1)).map fun p=>nD p.1)) /\ σ=[v,some (.int (pl.length:Int))]) ⟨[],W,none,rfl,rfl,rfl,rfl⟩ ?_ ?_
    rotate_left
    ·rintro d r σ G'' ⟨x1,x2,v,e1,e2,rfl,rfl⟩ ih
     cases x2 with
     | nil=>cases e2
     | cons p x2 =>
      cases e2;refine ⟨by rw [u06 nwv];exact k13,?_⟩;have hlen:=congrArg List.length e1;rw [List.length_append,List.length_cons] at hlen;have hfl:=List.length_filter_le (fun p:Nat × Int=>p.1.testBit (pl.length - 1)) x1;cases hb:p.1.testBit (pl.length - 1) with
      | true =>
       simp! [nD,eN,hgt,hb];refine ⟨by omega,by rw [List.length_map];exact Nat.lt_of_le_of_lt (m:=4000) (by omega) (by decide),ih _ _ ⟨x1++[p],x2,_,by rw [<- e1,List.append_assoc];rfl,rfl,?_,rfl⟩⟩;rw [u23,List.filter_append,List.map_append];simp [hb,nD]
      | false =>
       simp! [nD,eN,hgt,hb];refine ⟨by omega,ih _ _ ⟨x1++[p],x2,_,by rw [<- e1,List.append_assoc];rfl,rfl,?_,rfl⟩⟩;rw [List.filter_append];simp [hb,nD]
    ·rintro σ G'' ⟨x1,x2,v,e1,e2,rfl,rfl⟩
     have hz:x2=[]:=by simpa using e2.symm
     subst hz;rw [List.append_nil] at e1;rw [e1];refine ⟨by rw [u06 nwv];exact k13,?_⟩;obtain ⟨HV,hHV⟩:∃ HV,HV=W.filter fun p=>p.1.testBit (pl.length - 1):=⟨_,rfl⟩
     have hHl:HV.length<=256:=by rw [hHV];exact Nat.le_trans (List.length_filter_le _ _) hWl
     have hHm:∀ p ∈ HV,gtA W p.1=some p.2:=fun p hp=>vw7 hnd ((List.mem_filter.mp (by rw [hHV] at hp;exact hp)).1)
     rw [<- hHV];have z14:=zG z13 (Grow.refl.new (o:=.lst (HV.map fun p=>nD p.1)) hhv);have k14:gup G13 hv (.lst (HV.map fun p=>nD p.1)) wq=some (.frd o2 (vlD D.int W)):=by rw [u06 nwv];exact k13
     have kv14:gup G13 hv (.lst (HV.map fun p=>nD p.1)) hv=some (.lst (HV.map fun p=>nD p.1)):=u01;generalize gup G13 hv (.lst (HV.map fun p=>nD p.1))=G14 at z14 k14 kv14 ⊢;clear k13 z13 hhv k12 z12 e1 e2 hgt;dsimp! [uw2];refine ⟨wq,vlD D.int W,rfl,.inr ⟨o2,k14⟩,?_⟩;have z15:=zW (.dic (vlD D.int W)) z14;have k15:gup G14 wq (.dic (vlD D.int W)) wq=some (.dic (vlD D.int W)):=u01;have kv15:gup G14 wq (.dic (vlD D.int W)) hv=some (.lst (HV.map fun p=>nD p.1)):=by rw [u06 (Ne.symm nwv)];exact kv14
     generalize gup G14 wq (.dic (vlD D.int W))=G15 at z15 k15 kv15 ⊢;clear k14 z14 kv14;simp! [kv15];intro h1 hh1;have nvh:hv ≠ h1:=gne kv15 hh1;refine u39 (fun r σ G'=>∃ (x1 x2:List (Nat × Int)) (v:Option D),x1++x2=HV /\ r=x2.map (fun p=>nD p.1) /\ G'=gup G15 h1 (.lst ((x1.filter fun p=>decide (p.1=2 ^ (pl.length - 1))).map fun p=>nD p.1)) /\ σ=[v,some (.int (pl.length:Int))]) ⟨[],HV,none,rfl,rfl,rfl,rfl⟩ ?_ ?_
     rotate_left
     ·rintro d r σ G'' ⟨x1,x2,v,e1,e2,rfl,rfl⟩ ih
      cases x2 with
      | nil=>cases e2
      | cons p x2 =>
       cases e2;refine ⟨by rw [u06 nvh,kv15];rfl,?_⟩;have hlen:=congrArg List.length e1;rw [List.length_append,List.length_cons] at hlen;have hfl:=List.length_filter_le (fun p:Nat × Int=>decide (p.1=2 ^ (pl.length - 1))) x1
       by_cases hb:p.1=2 ^ (pl.length - 1)
       ·have hb2:((p.1:Nat):Int)=((2 ^ (pl.length - 1):Nat):Int):=by rw [hb]
        simp! [nD,eN,cp,eL,hb2];refine ⟨by rw [List.length_map];exact Nat.lt_of_le_of_lt (m:=4000) (by omega) (by decide),ih _ _ ⟨x1++[p],x2,_,by rw [<- e1,List.append_assoc];rfl,rfl,?_,rfl⟩⟩;rw [u23,List.filter_append,List.map_append];simp [hb,nD]
       ·have hb2:¬ ((p.1:Nat):Int)=((2 ^ (pl.length - 1):Nat):Int):=fun z=>hb (by omega)
        simp! [nD,eN,cp,eL,hb2];refine ih _ _ ⟨x1++[p],x2,_,by rw [<- e1,List.append_assoc];rfl,rfl,?_,rfl⟩;rw [List.filter_append];simp [hb,nD]
     ·rintro σ G'' ⟨x1,x2,v,e1,e2,rfl,rfl⟩
      have hz:x2=[]:=by simpa using e2.symm
      subst hz;rw [List.append_nil] at e1;rw [e1];refine ⟨by rw [u06 nvh,kv15];rfl,?_⟩;obtain ⟨PS,hPS⟩:∃ PS,PS=HV.filter fun p=>decide (p.1=2 ^ (pl.length - 1)):=⟨_,rfl⟩
      rw [<- hPS];have g16:=Grow.refl.new (o:=.lst (PS.map fun p=>nD p.1)) hh1;have z16:=zG z15 g16;have k16:=g16.kp _ _ k15;have kv16:=g16.kp _ _ kv15;have kp16:gup G15 h1 (.lst (PS.map fun p=>nD p.1)) h1=some (.lst (PS.map fun p=>nD p.1)):=u01;generalize gup G15 h1 (.lst (PS.map fun p=>nD p.1))=G16 at z16 k16 kv16 kp16 ⊢;refine uu1 T k16 kp16 (by rw [hPS];exact Nat.le_trans (List.length_filter_le _ _) (by omega)) (fun p hp=>hHm p (List.mem_filter.mp (by rw [hPS] at hp;exact hp)).1) fun xa1 G17 g17 hxa1=>?_
      refine ⟨wq,vlD D.int W,rfl,.inl (g17.kp _ _ k16),?_⟩;have z18:=zW (.dic (vlD D.int W)) (zG z16 g17);have k18:gup G17 wq (.dic (vlD D.int W)) wq=some (.dic (vlD D.int W)):=u01;have kv18:gup G17 wq (.dic (vlD D.int W)) hv=some (.lst (HV.map fun p=>nD p.1)):=by rw [u06 (Ne.symm nwv)];exact g17.kp _ _ kv16
      generalize gup G17 wq (.dic (vlD D.int W))=G18 at z18 k18 kv18 ⊢;refine uu1 T k18 kv18 (by omega) hHm fun xr1 G19 g19 hxr1=>?_
      have z19:=zG z18 g19;have k19:=g19.kp _ _ k18;refine ⟨by decide,fun d13 hd13=>?_⟩;have g20:=Grow.refl.new (o:=.lst [oD xa1,oD xr1]) hd13;have z20:=zG z19 g20;have k20:=g20.kp _ _ k19;have kd20:gup G19 d13 (.lst [oD xa1,oD xr1]) d13=some (.lst [oD xa1,oD xr1]):=u01;generalize gup G19 d13 (.lst [oD xa1,oD xr1])=G20 at z20 k20 kd20 ⊢;clear k16 kv16 kp16 k18 kv18 z18 z19 k19 g20 g19 g17 z16 g16 hd13;have hA:=fun V=>hD.alone (W:=V) (fun _ _ z=>z) hc0 n1 (by omega)
      have hM:=fun V=>hD.met (W:=V) (fun _ _ z=>z) hc0 n1 (by omega)
      have hmet:metF pl.length W=HV.map Prod.snd:=by rw [hHV];rfl
      have exa:xa1=gtA W (2 ^ (pl.length - 1)):=by
       have hin:∀ v,gtA W (2 ^ (pl.length - 1))=some v->(2 ^ (pl.length - 1),v) ∈ PS:=fun v hv=>by
        rw [hPS,List.mem_filter,hHV,List.mem_filter];exact ⟨⟨vw8 hv,by simp⟩,by simp⟩
       rcases hxa1 with ⟨h1,rfl⟩ | ⟨m,rfl,h1,_⟩
       ·cases hg:gtA W (2 ^ (pl.length - 1)) with
        | none=>rfl
        | some v=>have:=hin v hg;rw [h1] at this;cases this
       ·obtain ⟨p,hp,rfl⟩:=List.mem_map.mp h1
        rw [hPS,List.mem_filter] at hp;have h2:p.1=2 ^ (pl.length - 1):=by simpa using hp.2
        rw [<- h2];exact (hHm p hp.1).symm
      dsimp! [id];refine wm3 T ((hZ _).mp z20).2.2.1 n1 (by omega) (by omega) fun xa G21 an g21=>?_
      have z21:=zG z20 g21;simp! [id];refine wm1 T ((hZ _).mp z21).2.2.1 n1 (by omega) (by omega) fun xr G22 ar g22=>?_
      have z22:=zG z21 g22;have k22:=g22.kp _ _ (g21.kp _ _ k20);have kd22:=g22.kp _ _ (g21.kp _ _ kd20);have e1a:xa=xa1:=by
       rw [exa,<- uo5]
       rcases an with ⟨V,rfl,hV⟩ | ⟨hn,rfl⟩
       ·rw [(hA V).1 hV]
       ·rw [(hA 0).2 hn]
      have e1r:xr=xr1:=by
       rcases ar with ⟨V,rfl,hV⟩ | ⟨hn,rfl⟩
       ·obtain ⟨m1,m2⟩:=(hM V).1 hV
        rw [hmet] at m1 m2
        rcases hxr1 with ⟨h1,_⟩ | ⟨m,rfl,h1,h2⟩
        ·rw [h1] at m1;cases m1
        ·have:=m2 m h1
         have:=h2 V m1;rw [show V=m by omega]
       ·have h3:=(hM 0).2 hn
        rw [hmet] at h3
        rcases hxr1 with ⟨_,rfl⟩ | ⟨m,rfl,h1,h2⟩
        ·rfl
        ·rw [h3] at h1;cases h1
      subst e1a;subst e1r;simp! [id];refine ⟨by decide,fun d14 hd14=>?_⟩;have g23:=Grow.refl.new (o:=.lst [oD xa,oD xr]) hd14;have z23:=zG z22 g23;have k23:=g23.kp _ _ k22;have kd23:=g23.kp _ _ kd22;have kt23:gup G22 d14 (.lst [oD xa,oD xr]) d14=some (.lst [oD xa,oD xr]):=u01;generalize gup G22 d14 (.lst [oD xa,oD xr])=G23 at z23 k23 kd23 kt23 ⊢;dsimp! [id];refine wf6 (x:=xa) (y:=xr) (by rw [kt23];rfl) (by rw [kd23];rfl) ?_;simp! [kt23];intro p24 hp24;have ntp:d14 ≠ p24:=gne kt23 hp24;refine u39 (fun r σ G'=>∃ (y1 y2:List (Option Int)) (v:Option D),y1++y2=[xa,xr] /\ r=y2.map oD /\ G'=gup G23 p24 (.lst (y1.map fun _=>.bl true)) /\ σ=[v]) ⟨[],[xa,xr],none,rfl,rfl,rfl,rfl⟩ ?_ ?_
      rotate_left
      ·rintro d r σ G' ⟨y1,y2,v,e1,e2,rfl,rfl⟩ ih
       cases y2 with
       | nil=>cases e2
       | cons y y2 =>
        cases e2;have hlen:=congrArg List.length e1;simp at hlen;have hsz:(y1.map fun _=>D.bl true).length < sizeLine:=by rw [List.length_map];exact Nat.lt_of_le_of_lt (m:=4000) (by omega) (by decide)
        refine ⟨by rw [u06 ntp,kt23];rfl,?_⟩;have nx:∀ v',uc7 (fun G=>u11 (G d14)=some [oD xa,oD xr]) (uo4 0) dYes (dOrV (dOp xIs2 (dVar 0) (dC D.non)) (dCall (vf5 T) [] (ve0 (dVar 0) dNil))) p24 _ (y2.map oD) [v'] (gup G23 p24 (.lst ((y1++[y]).map fun _=>.bl true))):=fun v'=>ih _ _ ⟨y1++[y],y2,v',by rw [<- e1,List.append_assoc];rfl,rfl,rfl,rfl⟩
        rw [List.map_append] at nx;cases y with
        | none =>
         simp! [oD];refine ⟨hsz,?_⟩;rw [u23];exact nx _
        | some i =>
         simp! [oD];refine v74 T ?_;rw [u01]
         show _ /\ _
         refine ⟨hsz,?_⟩;rw [u23];exact nx _
      ·rintro σ G' ⟨y1,y2,v,e1,e2,rfl,rfl⟩
       have hz:y2=[]:=by simpa using e2.symm
       subst hz;rw [List.append_nil] at e1;rw [e1];refine ⟨by rw [u06 ntp,kt23];rfl,?_⟩;have g25:=Grow.refl.new (o:=.lst ([xa,xr].map fun _=>.bl true)) hp24;have z25:=zG z23 g25;have k25:=g25.kp _ _ k23;have kb25:gup G23 p24 (.lst ([xa,xr].map fun _=>.bl true)) p24=some (.lst [.bl true,.bl true]):=u01;generalize gup G23 p24 (.lst ([xa,xr].map fun _=>.bl true))=G25 at z25 k25 kb25 ⊢;have hal:∀ q:DK,q (.bl true) G25->xAll [.ref p24] G25 q:=fun q h=>by unfold xAll;simp only [kb25];exact h
       refine hal _ ?_;simp! [id];refine vw5 ?_;simp! [up3];refine ⟨wq,_,rfl,k25,?_⟩;have z26:=zW (.dic []) z25;generalize gup G25 wq (.dic [])=G26 at z26 ⊢;obtain ⟨tb26,kc26,kh26,_⟩:=(hZ _).mp z26;simp! [id];refine vw5 ?_;simp! [id];refine vm0 T tb26 kh26 n8 hpos fun wq2 W2 G27 f27 k27 hWs2 hW2 hWl2 g27=>?_
       refine ⟨wq2,W2.map fun p=>(p.1:Int),vlD D.int W2,rfl,ue3 D.int,.inl k27,fun p28 hp28=>?_⟩;have g28:=Grow.refl.new (o:=.lst ((W2.map fun p=>(p.1:Int)).map .int)) hp28;have kl28:gup G27 p28 (.lst ((W2.map fun p=>(p.1:Int)).map .int)) p28=some (.lst ((W2.map fun p=>(p.1:Int)).map .int)):=u01;have kc28:=g28.kp _ _ (g27.kp _ _ kc26);have kh28:=g28.kp _ _ (g27.kp _ _ kh26);generalize gup G27 p28 (.lst ((W2.map fun p=>(p.1:Int)).map .int))=G28 at kl28 kc28 kh28 ⊢;refine vm1 T n1 n8 fun q29 xs2 G29 f29 kx29 hx12 hx22 hx32 g29=>?_
       have exs2:=hkeys W2 xs2 hWs2 hW2 hx12 hx22;refine u46 (ks:=W2.map fun p=>(p.1:Int)) (ms:=W2.map fun p=>(p.1:Int)) (by rw [g29.kp _ _ kl28];rfl) (by rw [kx29,<- exs2,List.map_map,List.map_map];rfl) ?_;rw [decide_eq_true rfl];simp! [id];refine u46 (ks:=pl) (ms:=pl) (by rw [g29.kp _ _ kh28];rfl) (by rw [g29.kp _ _ kc28];rfl) ?_;rw [decide_eq_true rfl];exact post _
end
end Law
namespace Law
open PySem PySem.Spec PyProof.Rows L2 L3
def noL:W.Frag->Bool
 | []=>true
 | p::r=>(match p.2.data with | .seq _ _=>(match p.2.cls with | .type s=>!(s == "list") | _=>true) | _=>true) && noL r
theorem vk1:∀ {K:W.Frag} {a:Addr} {o:Obj} {its:Array Value} {n:Nat},noL K=true->K.lookup a=some o->o.cls=.type "list" -> o.data=.seq its n->False
 | [],a,o,its,n,_,e,_,_=>by cases e
 | p::r,a,o,its,n,h,e,h1,h2=>by
  unfold noL at h;rw [Bool.and_eq_true] at h;rw [List.lookup_cons] at e;split at e
  ·cases e
   have q:=h.1;rw [h2] at q;simp only [h1] at q;exact absurd q (by decide)
  ·exact vk1 h.2 e h1 h2
theorem arZ {P:List Value->Prop} (h:P []):∀ us:List Value,us.length=0->P us:=fun us e=>by rw [List.eq_nil_of_length_eq_zero e];exact h
theorem arS {n:Nat} {P:List Value->Prop} (h:∀ (a:Value) (us:List Value),us.length=n->P (a::us)):∀ us:List Value,us.length=n+1->P us:=fun us e=>by
 cases us with
 | nil=>cases e
 | cons a us=>exact h a us (Nat.succ.inj e)
theorem ar1 {P:List Value->Prop} (h:∀ a0,P [a0]):∀ us:List Value,us.length=1->P us:=arS fun a0=>arZ (h a0)
theorem ar2 {P:List Value->Prop} (h:∀ a0 a1,P [a0,a1]):∀ us:List Value,us.length=2->P us:=arS fun a0=>arS fun a1=>arZ (h a0 a1)
theorem ar3 {P:List Value->Prop} (h:∀ a0 a1 a2,P [a0,a1,a2]):∀ us:List Value,us.length=3->P us:=arS fun a0=>arS fun a1=>arS fun a2=>arZ (h a0 a1 a2)
theorem ar4 {P:List Value->Prop} (h:∀ a0 a1 a2 a3,P [a0,a1,a2,a3]):∀ us:List Value,us.length=4->P us:=arS fun a0=>arS fun a1=>arS fun a2=>arS fun a3=>arZ (h a0 a1 a2 a3)
theorem ar5 {P:List Value->Prop} (h:∀ a0 a1 a2 a3 a4,P [a0,a1,a2,a3,a4]):∀ us:List Value,us.length=5->P us:=arS fun a0=>arS fun a1=>arS fun a2=>arS fun a3=>arS fun a4=>arZ (h a0 a1 a2 a3 a4)
def v45 {K:W.Frag} {x qual:Str} {st:Stmt} {ps:List Str} {f:Addr} {oc:Value} {od an:Option Addr} {osl:Array (Option Value)} {kV doc pm cdv ct:Value} (l:K.lookup f=some ⟨oc,od,.func (W.fnOf x qual (u42 st) (u36 st) (u04 st) .none kV doc pm an cdv ct),osl⟩)
  (c:W.codeIn K cdv qual=true) (k:W.keepIn K (.ref f)=true) (hb:∀ us:List Value,us.length=ps.length->bindArgs (W.fnOf x qual (u42 st) (u36 st) (u04 st) .none kV doc pm an cdv ct) ⟨us,[]⟩=pure (ps.zip us)):FnAt K x qual st ps :=
 ⟨f,_,⟨oc,od,.none,kV,doc,pm,an,cdv,ct,osl,rfl,l,c⟩,k,.all hb⟩
def DF (K:W.Frag) (x:Str) (st:Stmt):Prop:=∃ (p:Addr) (oc:Value) (od an:Option Addr) (sl:Array (Option Value)) (kV dc pm cd ct:Value),W.nsIn K mainGlobals x=some (some (.ref p)) /\ K.lookup p=some ⟨oc,od,.func (W.fnOf x x (u42 st) (u36 st) (u04 st) .none kV dc pm an cd ct),sl⟩ /\ W.codeIn K cd x=true /\ W.keepIn K (.ref p)=true
def DM (K:W.Frag) (C:Addr) (x q:Str) (st:Stmt):Prop:=∃ (p:Addr) (oc:Value) (od an:Option Addr) (sl:Array (Option Value)) (kV dc pm cd ct:Value),W.findIn K (.ref C) x=some (some (.ref p)) /\ W.isFn K (.ref p)=true /\ K.lookup p=some ⟨oc,od,.func (W.fnOf x q (u42 st) (u36 st) (u04 st) .none kV dc pm an cd ct),sl⟩ /\ W.codeIn K cd q=true /\ W.keepIn K (.ref p)=true
section
variable {K:W.Frag} {h:Heap} {mg:Str->Option Value} {C:Addr} {x q:Str} {st:Stmt} {ps:List Str}
theorem df_m {p:Addr} {oc:Value} {od an:Option Addr} {sl:Array (Option Value)} {kV dc pm cd ct:Value} (a:W.nsIn K mainGlobals x=some (some (.ref p))) (l:K.lookup p=some ⟨oc,od,.func (W.fnOf x x (u42 st) (u36 st) (u04 st) .none kV dc pm an cd ct),sl⟩) (c:W.codeIn K cd x=true) (k:W.keepIn K (.ref p)=true):DF K x st:=⟨p,oc,od,an,sl,kV,dc,pm,cd,ct,a,l,c,k⟩
theorem dm_m {p:Addr} {oc:Value} {od an:Option Addr} {sl:Array (Option Value)} {kV dc pm cd ct:Value} (a:W.findIn K (.ref C) x=some (some (.ref p))) (i:W.isFn K (.ref p)=true) (l:K.lookup p=some ⟨oc,od,.func (W.fnOf x q (u42 st) (u36 st) (u04 st) .none kV dc pm an cd ct),sl⟩) (c:W.codeIn K cd q=true) (k:W.keepIn K (.ref p)=true):DM K C x q st:=⟨p,oc,od,an,sl,kV,dc,pm,cd,ct,a,i,l,c,k⟩
theorem df_f {N:List Str} (_:FnScope N ps (u04 st)) (X:K.In h) (G:h.Ns mainGlobals mg) (hb:∀ kV dc pm an cd ct,∀ us:List Value,us.length=ps.length->bindArgs (W.fnOf x x (u42 st) (u36 st) (u04 st) .none kV dc pm an cd ct) ⟨us,[]⟩=pure (ps.zip us)) (d:DF K x st) :
  ∃ f:FnAt K x x st ps,mg x=some (.ref f.a) /\ ∀ (s:Shared) (us:List Value),us.length=ps.length->BindsTo s f.fd ⟨us,[]⟩ (ps.zip us):=by
 obtain ⟨p,oc,od,an,sl,kV,dc,pm,cd,ct,a,l,c,k⟩:=d;exact ⟨v45 l c k (hb kV dc pm an cd ct),W.mg_of X G a,fun s us e=>.of_eq (hb kV dc pm an cd ct us e)⟩
theorem dm_f {N:List Str} (_:FnScope N ps (u04 st)) (hb:∀ kV dc pm an cd ct,∀ us:List Value,us.length=ps.length->bindArgs (W.fnOf x q (u42 st) (u36 st) (u04 st) .none kV dc pm an cd ct) ⟨us,[]⟩=pure (ps.zip us)) (d:DM K C x q st) :
  ∃ f:FnAt K x q st ps,W.findIn K (.ref C) x=some (some (.ref f.a)) /\ W.isFn K (.ref f.a)=true:=by
 obtain ⟨p,oc,od,an,sl,kV,dc,pm,cd,ct,a,i,l,c,k⟩:=d;exact ⟨v45 l c k (hb kV dc pm an cd ct),a,i⟩
end
def vi1:Sp3:=fun ds G R=>∃ (a:Addr) (ns:List Int),ds=[.ref a] /\ G 77=some (.tb qnF 4) /\ G a=some (.fro (ns.map .int)) /\ ns.length<=63 /\ ∀ G',R (.bl true) G'
theorem ur3 {K:W.Frag} {H:Hp}:∀ ns:List Int,RelDs K H (ns.map D.int) (ns.map V.int)
 | []=>.nil
 | _::ns=>.cons RelD.intI (ur3 ns)
theorem wc4 {K:W.Frag} {H:Hp} {a:Addr} {ns:List Int} (hl:ns.length<=63) (ht:H 77=some (.tbl #[])) (hb:BmOk H 4) (ha:∃ o,H a=some (.frz o (.lst (ns.map V.int)))):uk1 K vi1 [.ref a] H (fun v _=>v=.bl true) fun _ _ _=>False:=by
 obtain ⟨o,ha⟩:=ha;have na:(77:Addr) ≠ a:=fun z=>by rw [<- z,ht] at ha;cases ha
 refine ⟨[.ref a],gup (gup (fun _=>none) a (.fro (ns.map .int))) 77 (.tb qnF 4),fun d _=>d=.bl true,.cons ?_ .nil,fun b u e=>?_,⟨a,ns,rfl,u01,by rw [u06 (Ne.symm na)];exact u01,hl,fun _=>rfl⟩,fun d G' v H' r _ _ e=>?_⟩
 ·rw [RelD]
 ·by_cases h1:b=77
  ·subst h1
   rw [u01] at e;cases e;exact ⟨#[],ht,⟨trivial,fun pos cv z=>by cases z⟩,hb⟩
  ·rw [u06 h1] at e
   by_cases hb:b=a
   ·subst hb
    rw [u01] at e;cases e;exact ⟨o,_,ha,ur3 ns⟩
   ·rw [u06 hb] at e;cases e
 ·subst e
  rw [RelD] at r;exact r
def FarK (K:W.Frag):Prop:=∃ c f,W.codeHdIn K c 77=true /\ W.nsIn K mainGlobals "cheapest" = some (some (.ref f)) /\ u57 K f=some (.ref c)
theorem far_m {K:W.Frag} {c f:Addr} (a:W.nsIn K mainGlobals "cheapest" = some (some (.ref f))) (b:u57 K f=some (.ref c)) (h:W.codeHdIn K c 77=true):FarK K:=⟨c,f,h,a,b⟩
theorem we6 {K:W.Frag} {h:Heap} {mg:Str->Option Value} (X:K.In h) (G:h.Ns mainGlobals mg) (k:FarK K):∃ c,W.codeHdIn K c 77=true /\ ∀ f,mg "cheapest" = some (.ref f)->u57 K f=some (.ref c):=by
 obtain ⟨c,f,h1,h2,h3⟩:=k;refine ⟨c,h1,fun f' e=>?_⟩;have:=W.mg_of X G h2;rw [this] at e;cases e;exact h3
end Law
namespace Law
open PySem PySem.Spec PyProof.Rows L2 L3 Rw
theorem txt_mk {K:W.Frag} {h:Heap} {mg:Str->Option Value} (X:K.In h) (G:h.Ns mainGlobals mg) 
  (pm_21:DF K "may_do" vo8)
  (pm_28:DF K "set_of" vo3)
  (pm_29:DF K "stands" vo2)
  (pm_20:DF K "many_in" vo9)
  (pm_4:DF K "behind" vq0)
  (pm_23:DF K "moves_from" uz0)
  (pm_22:DF K "move_on" vo7)
  (pm_6:DF K "come_to" vp8)
  (pm_7:DF K "distances" vp7)
  (pm_5:DF K "cheapest" vp9)
  (pm_27:DF K "see" vo0)
  (pm_0:DF K "alone" vq4)
  (pm_25:DF K "reached" vo5)
  (pm_24:DF K "reach" vo6)
  (pm_2:DF K "alone_reach" vq2)
  (pm_30:DF K "work_at" vo1)
  (pm_3:DF K "alone_table" vq1)
  (pm_18:DF K "least_alone" v88)
  (pm_1:DF K "alone_by" vq3)
  (pm_26:DF K "reached_table" vo4)
  (pm_19:DF K "least_reached" v87)
  (pm_15:DF K "_law_source" vp2)
  (pm_11:DF K "_law_draw" vp4)
  (pm_13:DF K "_law_moves" v89)
  (pm_16:DF K "_law_way" vp1)
  (pm_10:DF K "_law_costs" vp5)
  (pm_14:DF K "_law_sizes" vp3)
  (pm_9:DF K "_law_apart" vp6)
  (pm_17:DF K "_law_whole" vp0)
  (pm_12:DF K "_law_least" v90)
  (pm_8:DF K "law" uu9)
  (b_abs:W.nsIn K mainGlobals "abs" = some none)
  (b_all:W.nsIn K mainGlobals "all" = some none)
  (b_bool:W.nsIn K mainGlobals "bool" = some none)
  (b_dict:W.nsIn K mainGlobals "dict" = some none)
  (b_int:W.nsIn K mainGlobals "int" = some none)
  (b_isinstance:W.nsIn K mainGlobals "isinstance" = some none)
  (b_len:W.nsIn K mainGlobals "len" = some none)
  (b_list:W.nsIn K mainGlobals "list" = some none)
  (b_max:W.nsIn K mainGlobals "max" = some none)
  (b_min:W.nsIn K mainGlobals "min" = some none)
  (b_range:W.nsIn K mainGlobals "range" = some none)
  (b_reversed:W.nsIn K mainGlobals "reversed" = some none)
  (b_sorted:W.nsIn K mainGlobals "sorted" = some none)
  (far_bmK:W.nsIn K mainGlobals "__builtins__" = some (some (.ref 4)))
  (far_ccK:FarK K) :
  ∃ T:Txt K mg,∀ (s:Shared) (v:Value),BindsTo s T.f_law.fd ⟨[v],[]⟩ [("_law_script",v)]:=by
 obtain ⟨f_jau,g_may_do,_⟩:=df_f sc_jau X G (fun _ _ _ _ _ _=>ar4 fun _ _ _ _=>rfl) pm_21;obtain ⟨f_jba,g_set_of,_⟩:=df_f vi5 X G (fun _ _ _ _ _ _=>ar1 fun _=>rfl) pm_28;obtain ⟨f_jbb,g_stands,_⟩:=df_f vi4 X G (fun _ _ _ _ _ _=>ar2 fun _ _=>rfl) pm_29;obtain ⟨f_jat,g_many_in,_⟩:=df_f sc_jat X G (fun _ _ _ _ _ _=>ar1 fun _=>rfl) pm_20;obtain ⟨f_jae,g_behind,_⟩:=df_f vj2 X G (fun _ _ _ _ _ _=>ar2 fun _ _=>rfl) pm_4;obtain ⟨f_jaw,g_moves_from,_⟩:=df_f sc_jaw X G (fun _ _ _ _ _ _=>ar3 fun _ _ _=>rfl) pm_23;obtain ⟨f_jav,g_move_on,_⟩:=df_f vi8 X G (fun _ _ _ _ _ _=>ar2 fun _ _=>rfl) pm_22;obtain ⟨f_jag,g_come_to,_⟩:=df_f sc_jag X G (fun _ _ _ _ _ _=>ar2 fun _ _=>rfl) pm_6;obtain ⟨f_jah,g_distances,_⟩:=df_f sc_jah X G (fun _ _ _ _ _ _=>ar2 fun _ _=>rfl) pm_7;obtain ⟨f_jaf,g_cheapest,_⟩:=df_f sc_jaf X G (fun _ _ _ _ _ _=>ar2 fun _ _=>rfl) pm_5;obtain ⟨f_see,g_see,_⟩:=df_f vi2 X G (fun _ _ _ _ _ _=>ar3 fun _ _ _=>rfl) pm_27;obtain ⟨f_jaa,g_alone,_⟩:=df_f vj5 X G (fun _ _ _ _ _ _=>ar2 fun _ _=>rfl) pm_0;obtain ⟨f_jay,g_reached,_⟩:=df_f vi6 X G (fun _ _ _ _ _ _=>ar2 fun _ _=>rfl) pm_25;obtain ⟨f_jax,g_reach,_⟩:=df_f vi7 X G (fun _ _ _ _ _ _=>ar1 fun _=>rfl) pm_24;obtain ⟨f_jac,g_alone_reach,_⟩:=df_f vj3 X G (fun _ _ _ _ _ _=>ar1 fun _=>rfl) pm_2;obtain ⟨f_jbc,g_work_at,_⟩:=df_f vi3 X G (fun _ _ _ _ _ _=>ar2 fun _ _=>rfl) pm_30;obtain ⟨f_jad,g_alone_table,_⟩:=df_f sc_jad X G (fun _ _ _ _ _ _=>ar2 fun _ _=>rfl) pm_3;obtain ⟨f_jar,g_least_alone,_⟩:=df_f sc_jar X G (fun _ _ _ _ _ _=>ar5 fun _ _ _ _ _=>rfl) pm_18;obtain ⟨f_jab,g_alone_by,_⟩:=df_f vj4 X G (fun _ _ _ _ _ _=>ar5 fun _ _ _ _ _=>rfl) pm_1;obtain ⟨f_jaz,g_reached_table,_⟩:=df_f sc_jaz X G (fun _ _ _ _ _ _=>ar3 fun _ _ _=>rfl) pm_26;obtain ⟨f_jas,g_least_reached,_⟩:=df_f sc_jas X G (fun _ _ _ _ _ _=>ar5 fun _ _ _ _ _=>rfl) pm_19;obtain ⟨f_jao,g_law_source,_⟩:=df_f vj0 X G (fun _ _ _ _ _ _=>ar1 fun _=>rfl) pm_15;obtain ⟨f_jak,g_law_draw,_⟩:=df_f sc_jak X G (fun _ _ _ _ _ _=>ar2 fun _ _=>rfl) pm_11;obtain ⟨f_jam,g_law_moves,_⟩:=df_f sc_jam X G (fun _ _ _ _ _ _=>ar3 fun _ _ _=>rfl) pm_13;obtain ⟨f_jap,g_law_way,_⟩:=df_f sc_jap X G (fun _ _ _ _ _ _=>ar4 fun _ _ _ _=>rfl) pm_16;obtain ⟨f_jaj,g_law_costs,_⟩:=df_f sc_jaj X G (fun _ _ _ _ _ _=>ar2 fun _ _=>rfl) pm_10;obtain ⟨f_jan,g_law_sizes,_⟩:=df_f sc_jan X G (fun _ _ _ _ _ _=>ar1 fun _=>rfl) pm_14;obtain ⟨f_jai,g_law_apart,_⟩:=df_f sc_jai X G (fun _ _ _ _ _ _=>ar4 fun _ _ _ _=>rfl) pm_9;obtain ⟨f_jaq,g_law_whole,_⟩:=df_f vi9 X G (fun _ _ _ _ _ _=>ar1 fun _=>rfl) pm_17;obtain ⟨f_jal,g_law_least,_⟩:=df_f vj1 X G (fun _ _ _ _ _ _=>ar2 fun _ _=>rfl) pm_12;obtain ⟨f_law,g_law,b_law⟩:=df_f sc_law X G (fun _ _ _ _ _ _=>ar1 fun _=>rfl) pm_8;exact ⟨⟨f_jau,g_may_do,f_jba,g_set_of,f_jbb,g_stands,f_jat,g_many_in,f_jae,g_behind,f_jaw,g_moves_from,f_jav,g_move_on,f_jag,g_come_to,f_jah,g_distances,f_jaf,g_cheapest,f_see,g_see,f_jaa,g_alone,f_jay,g_reached,f_jax,g_reach,f_jac,g_alone_reach,f_jbc,g_work_at,f_jad,g_alone_table,f_jar,g_least_alone,f_jab,g_alone_by,f_jaz,g_reached_table,f_jas,g_least_reached,f_jao,g_law_source,f_jak,g_law_draw,f_jam,g_law_moves,f_jap,g_law_way,f_jaj,g_law_costs,f_jan,g_law_sizes,f_jai,g_law_apart,f_jaq,g_law_whole,f_jal,g_law_least,f_law,g_law,W.mg_none_of X G b_abs,W.mg_none_of X G b_all,W.mg_none_of X G b_bool,W.mg_none_of X G b_dict,W.mg_none_of X G b_int,W.mg_none_of X G b_isinstance,W.mg_none_of X G b_len,W.mg_none_of X G b_list,W.mg_none_of X G b_max,W.mg_none_of X G b_min,W.mg_none_of X G b_range,W.mg_none_of X G b_reversed,W.mg_none_of X G b_sorted,W.mg_of X G far_bmK,we6 X G far_ccK⟩,fun s v=>b_law s [v] rfl⟩
theorem wg2 {P:Program} {w:World} {K:W.Frag} {mg:Str->Option Value} {base:Heap} (T:Txt K mg):Ok P w mg base 7 T.f_law (wg4 T):=by
 have H_jba:=@w85 P w K mg base T 0;have H_jae:=@wa7 P w K mg base T 1 (FnOk.mono H_jba (by decide));have H_jbb:=@w84 P w K mg base T 1 (FnOk.mono H_jba (by decide));have H_jat:=@w92 P w K mg base T 0;have H_jau:=@w91 P w K mg base T 2 (FnOk.mono H_jbb (by decide)) (FnOk.mono H_jat (by decide));have H_jav:=@w90 P w K mg base T 2 (FnOk.mono H_jbb (by decide));have H_jaw:=@w89 P w K mg base T 3 (FnOk.mono H_jau (by decide)) (FnOk.mono H_jav (by decide));have H_jag:=@wa5 P w K mg base T 4 (FnOk.mono H_jae (by decide)) (FnOk.mono H_jaw (by decide));have H_see:=@w81 P w K mg base T 0;have H_jaf:=@wa6 P w K mg base T 4 (FnOk.mono H_jae (by decide)) (FnOk.mono H_jaw (by decide)) (FnOk.mono H_see (by decide));have H_jah:=@wa4 P w K mg base T 5 (FnOk.mono H_jaf (by decide));have H_jbc:=@w83 P w K mg base T 0;have H_jac:=@wa9 P w K mg base T 0;have H_jab:=@wb0 P w K mg base T 0;have H_jar:=@w94 P w K mg base T 1 (FnOk.mono H_jac (by decide)) (FnOk.mono H_jab (by decide));have H_jad:=@wa8 P w K mg base T 2 (FnOk.mono H_jac (by decide)) (FnOk.mono H_jar (by decide));have H_jaa:=@wb1 P w K mg base T 3 (FnOk.mono H_jbc (by decide)) (FnOk.mono H_jad (by decide));have H_jax:=@w88 P w K mg base T 0;have H_jas:=@w93 P w K mg base T 1 (FnOk.mono H_jax (by decide)) (FnOk.mono H_jac (by decide));have H_jaz:=@w86 P w K mg base T 2 (FnOk.mono H_jax (by decide)) (FnOk.mono H_jas (by decide));have H_jay:=@w87 P w K mg base T 3 (FnOk.mono H_jbc (by decide)) (FnOk.mono H_jad (by decide)) (FnOk.mono H_jaz (by decide));have H_jao:=@w97 P w K mg base T 0;have H_jak:=@wa1 P w K mg base T 0;have H_jam:=@w99 P w K mg base T 0;have H_jap:=@w96 P w K mg base T 1 (FnOk.mono H_jak (by decide)) (FnOk.mono H_jam (by decide));have H_jaj:=@wa2 P w K mg base T 1 (FnOk.mono H_jak (by decide));have H_jan:=@w98 P w K mg base T 1 (FnOk.mono H_jak (by decide));have H_jai:=@wa3 P w K mg base T 1 (FnOk.mono H_jam (by decide));have H_jaq:=@w95 P w K mg base T 0;have H_jal:=@wa0 P w K mg base T 0;have H_law:=@w82 P w K mg base T 6 (FnOk.mono H_jag (by decide)) (FnOk.mono H_jah (by decide)) (FnOk.mono H_jaa (by decide)) (FnOk.mono H_jay (by decide)) (FnOk.mono H_jao (by decide)) (FnOk.mono H_jak (by decide)) (FnOk.mono H_jap (by decide)) (FnOk.mono H_jaj (by decide)) (FnOk.mono H_jan (by decide)) (FnOk.mono H_jai (by decide)) (FnOk.mono H_jaq (by decide)) (FnOk.mono H_jal (by decide));exact H_law
theorem walk {l:W.OpenLaw} {q:Program} {loose:List Str} {XP:(Str->Option Value)->Heap->Prop} {YP:World->Heap->Prop} {d:DefRec} {K:Params->W.Frag} (hn:l.most=some 63) (hdf:d.params.defaults=[])
  (hY:∀ (w:World) (h:Heap),YP w h->(K w.params).In h) (hYt:∀ (w:World) (h:Heap),YP w h->h.get? 77=some (W.tabObj #[])) (hk1:∀ w:World,(K w.params).lookup 77=none) (hk2:∀ w:World,(K w.params).lookup 4=none) (hL:∀ w:World,noL (K w.params)=true)
  (F:∀ (w:World) (mg:Str->Option Value) (fa:Addr) (h:Heap),(K w.params).In h->h.Ns mainGlobals mg->mg d.name=some (.ref fa)->∃ T:Txt (K w.params) mg,∀ (s:Shared) (v:Value),BindsTo s T.f_law.fd ⟨[v],[]⟩ [("_law_script",v)]) (hdn:d.name = "law" := by rfl) :
  W.WalkO q loose XP YP l.row.toRowW d [] (fun f vs=>PySem.call f vs):=by
 refine Att.attach_call hn hdf fun w s₀ s₁ mg mb fa o pm cd doc a vs ns G Y ho hd hcd hm hobj hints hlen hg=>?_
 have KX:=hY w _ Y;obtain ⟨T,hb⟩:=F w mg fa _ KX G.T.g hm;rw [hdn] at hm;have e:=hm.symm.trans T.g_law;cases e;obtain ⟨bm,ob,b1,b2,b3,b4,b5,b6⟩:=G.T.bmain;have e4:=b1.symm.trans T.far_bm;cases e4;obtain ⟨cc,hhd,_⟩:=T.far_cc;have hak:(K w.params).lookup a=none:=by
  cases q:(K w.params).lookup a with
  | none=>rfl
  | some o =>
   have e:=KX a o q;rw [hobj] at e;cases e;exact (vk1 (hL w) q rfl rfl).elim
 exact v34 (k:=7) (sp:=uk1 (K w.params) vi1) (CX:=CX0) KX G.T.g G.T.b G.T.builtins G.T.nolimit hg hobj hints (Nat.le_trans hlen (by decide)) ⟨rfl,by decide,by decide⟩ hak (hYt w _ Y) (hk1 w) b3 (hk2 w) b4 b5 b6 hhd (fun base _ _=>wg2 T) hb (fun H h1 h2 h3=>wc4 hlen h1 h2 h3) fun _ _ _ z=>z
end Law
end
namespace PySem.W.Fast
def tw11593126947330454703:=0
def tw1908762136081572990:=0
def tw16500812297693937138:=0
def tw18236240980012185000:=0
def tw4329713569229738877:=0
def tw9170644820694874389:=0
def tw5104040667284467303:=0
def tw785244899726274176:=0
def tw5679005389003663781:=0
def tw5590611952425289336:=0
def tw6314235337888097693:=0
def tw8783026664938714463:=0
def tw6842445148225621968:=0
def tw12600067131194161220:=0
def tw2560499954601008271:=0
def tw12285266398442778393:=0
def tw6879163548741395783:=0
def tw6412230832059376818:=0
def tw12066394014828607967:=0
def tw10759395182773853029:=0
def tw7137999850668987245:=0
def tw7341103984712492178:=0
def tw13816020475477099353:=0
def tw10224132583322576888:=0
def tw11729815213701124258:=0
def tw3500091015474496897:=0
def tw13007535951586954894:=0
def tw17363651464934796420:=0
def tw12222262484994827201:=0
def tw9208315869989381860:=0
def tw9006923487990834643:=0
def tw7563042056305745360:=0
def tw704479851431741955:=0
def tw15829550995484494805:=0
def tw14205644987376821154:=0
def tw7737070641335525631:=0
def tw11848879512735060108:=0
def tw6326082311839135020:=0
def tw9595611418711975844:=0
def tw10937065019975535485:=0
def tw8578010541251257278:=0
def tw15372813585687935747:=0
def tw15183499953628673032:=0
def tw13202076696118742051:=0
def tw17382252425949595311:=0
def tw13264451742260653503:=0
def tw17403655416877763805:=0
def tw2305538066232429737:=0
def tw11348326749930103374:=0
def tw9971289428828513025:=0
def tw5951899721523321941:=0
def tw8531022885511736371:=0
def tw12783811046405609382:=0
def tw9973734693295842161:=0
def tw7150088822613649053:=0
def tw7735676187353362682:=0
def tw17861295864183940622:=0
def tw15267126258631917256:=0
def tw18119911959147261867:=0
def tw5877927872848714355:=0
def tw14990151395241362380:=0
def tw17846618261385165892:=0
def tw4990041026112874612:=0
def tw9106126810570731801:=0
def tw13347659705715593487:=0
def tw14728555391101696073:=0
def tw3308316712586160780:=0
def tw7348554785573531355:=0
def tw8598919883352201906:=0
def tw1771157379396268821:=0
def tw16617687833980640969:=0
def tw797165658674649494:=0
def tw10028674168935453597:=0
def tw4918905571161238992:=0
def tw3190518116823522235:=0
def tw17232446091567508619:=0
def tw11967276077514391590:=0
def tw14829233777570994493:=0
def tw7819300981232589651:=0
def tw17005414872593522502:=0
def tw16162837978694586327:=0
def tw12862993878581305254:=0
def tw13934876992590595037:=0
def tw15378810301213041618:=0
def tw115014305384445045:=0
def tw9077573421408077150:=0
def tw1161032523308546121:=0
def tw5000875882683162816:=0
def tw3347384520280507558:=0
def tw7893480101404907456:=0
def tw11935347448164586191:=0
def tw16324189045406004966:=0
def tw2874079492977748077:=0
def tw6243356199161689341:=0
def tw15801126149306203345:=0
def tw1891095475729356946:=0
def tw4539210625757805866:=0
def tw11874785059184454642:=0
def tw16607596756209937843:=0
def tw7056381033768356580:=0
def tw8096306614787997755:=0
def tw14383154944392004700:=0
def tw18425198191900140735:=0
def tw1948893609097414901:=0
def tw16313613315312871012:=0
def tw15087496176249236166:=0
def tw17674413929832085943:=0
def tw5708879797959640868:=0
def tw12388258751801717537:=0
def tw6287784521565104473:=0
def tw16315104728868648570:=0
def tw11321952597807776389:=0
def tw11235920062641694086:=0
def tw4981857688389006291:=0
def tw6479939460352133458:=0
def tw12096903990033107507:=0
def tw6763757460673136094:=0
def tw15277129777453944376:=0
def tw9065449385397794404:=0
def tw4786834919076208780:=0
def tw17676590288710709176:=0
end PySem.W.Fast
open PySem PySem.W PyProof.Rows
local macro_rules | `(tactic| ac_rfl) => `(tactic| (refine' Law.df_m ?a ?b ?c ?d; (case a => k_is); (case b => k_is); (case c => k_is); (case d => k_is)))
local macro_rules | `(tactic| bv_omega) => `(tactic| (refine' Law.dm_m ?a ?b ?c ?d ?e; (case a => k_is); (case b => k_is); (case c => k_is); (case d => k_is); (case e => k_is)))
set_option maxHeartbeats 0 in
theorem PySem.Challenge.cw_nolitter_k43_whole_no_way_is_nearer_holds : PySem.Challenge.rw_nolitter_k43_whole_no_way_is_nearer.Holds := by
 w_on; o_law; k_head; (case hw => w_witness2)
 k_fill
 refine Law.walk (l := PySem.Challenge.rw_nolitter_k43_whole_no_way_is_nearer) rfl rfl (fun w h Y => PySem.W.km_in_of Y) (fun w h Y => PySem.W.km_tabs_of Y 77 (List.mem_singleton.mpr rfl)) (fun w => rfl) (fun w => rfl) ?L ?F
 case L => exact fun w => rfl
 case F =>
  intro w mg fa h KX G hmg
  refine' Law.txt_mk KX G ?pm_21 ?pm_28 ?pm_29 ?pm_20 ?pm_4 ?pm_23 ?pm_22 ?pm_6 ?pm_7 ?pm_5 ?pm_27 ?pm_0 ?pm_25 ?pm_24 ?pm_2 ?pm_30 ?pm_3 ?pm_18 ?pm_1 ?pm_26 ?pm_19 ?pm_15 ?pm_11 ?pm_13 ?pm_16 ?pm_10 ?pm_14 ?pm_9 ?pm_17 ?pm_12 ?pm_8 ?b_abs ?b_all ?b_bool ?b_dict ?b_int ?b_isinstance ?b_len ?b_list ?b_max ?b_min ?b_range ?b_reversed ?b_sorted ?far_bmK ?far_ccK
  (case pm_21 => ac_rfl)
  (case pm_28 => ac_rfl)
  (case pm_29 => ac_rfl)
  (case pm_20 => ac_rfl)
  (case pm_4 => ac_rfl)
  (case pm_23 => ac_rfl)
  (case pm_22 => ac_rfl)
  (case pm_6 => ac_rfl)
  (case pm_7 => ac_rfl)
  (case pm_5 => ac_rfl)
  (case pm_27 => ac_rfl)
  (case pm_0 => ac_rfl)
  (case pm_25 => ac_rfl)
  (case pm_24 => ac_rfl)
  (case pm_2 => ac_rfl)
  (case pm_30 => ac_rfl)
  (case pm_3 => ac_rfl)
  (case pm_18 => ac_rfl)
  (case pm_1 => ac_rfl)
  (case pm_26 => ac_rfl)
  (case pm_19 => ac_rfl)
  (case pm_15 => ac_rfl)
  (case pm_11 => ac_rfl)
  (case pm_13 => ac_rfl)
  (case pm_16 => ac_rfl)
  (case pm_10 => ac_rfl)
  (case pm_14 => ac_rfl)
  (case pm_9 => ac_rfl)
  (case pm_17 => ac_rfl)
  (case pm_12 => ac_rfl)
  (case pm_8 => ac_rfl)
  (case b_abs => k_is)
  (case b_all => k_is)
  (case b_bool => k_is)
  (case b_dict => k_is)
  (case b_int => k_is)
  (case b_isinstance => k_is)
  (case b_len => k_is)
  (case b_list => k_is)
  (case b_max => k_is)
  (case b_min => k_is)
  (case b_range => k_is)
  (case b_reversed => k_is)
  (case b_sorted => k_is)
  (case far_bmK => k_is)
  (case far_ccK => (refine' Law.far_m ?a ?b ?c; (case a => k_is); (case b => exact rfl); (case c => first | kernel_rfl | exact rfl)))
