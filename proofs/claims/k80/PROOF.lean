import PyProof.Rows.All
import Wide.All
import OpenK.AllK
import Wide.FinOn
import Lean
import PyProof.EqAt
import PyProof.EqKinds
import PyProof.TupleCall
import KE.KIsNot
import PyProof.ExcArgs
import OpenK.KOwn
import KE.LcSums
import PyProof.EnumMake
import PyProof.Draws
import PyProof.Rows.EnumRows
import PyProof.ExcBaseAll.ValueError
import PyProof.NsDelKeeps
import PyProof.Rows.SetFrom
import PyProof.WalksMore
import KE.KDictSum
import PySem.Challenge.RW_ladderhall_k80_programs
set_option Elab.async false
set_option linter.all false
set_option maxRecDepth 100000
set_option maxHeartbeats 0
namespace L2
open PySem PySem.Spec PyProof.Rows
noncomputable abbrev Key:=Sum Int Str
noncomputable def j36:Key->Value->Bool
 | .inl k,v=>Value.isInt k v
 | .inr x,v=>Value.isStrOf x v
noncomputable def j6v (w:World):Key->Int
 | .inl k=>hashInt k
 | .inr x=>hashStr w x
theorem x2e:∀ {k:Key} {v:Value},j36 k v=true->(∃ i t,k=Sum.inl i/\v=Value.int i t)\/(∃ x t,k=Sum.inr x/\v=Value.str x t)
 | .inl i,v,h=>by
  obtain⟨t,e⟩:=Value.isInt_shape (k:=i) (v:=v) h
  exact .inl ⟨i,t,rfl,e⟩
 | .inr x,v,h=>by
  obtain⟨t,e⟩:=Value.isStrOf_shape (x:=x) (v:=v) h
  exact .inr ⟨x,t,rfl,e⟩
theorem j2m (a b:Int):decide ((Sum.inl a:Key)=Sum.inl b)=(a == b):=by
 by_cases e:a=b
 ·subst e; simp
 ·have h:¬ (Sum.inl a:Key)=Sum.inl b:=fun q=>e (Sum.inl.inj q)
  rw[decide_eq_false h]
  exact(beq_eq_false_iff_ne.mpr e).symm
theorem j1c (a b:Str):decide ((Sum.inr a:Key)=Sum.inr b)=decide (a=b):=by
 by_cases e:a=b
 ·subst e; simp
 ·have h:¬ (Sum.inr a:Key)=Sum.inr b:=fun q=>e (Sum.inr.inj q)
  rw[decide_eq_false h,decide_eq_false e]
theorem j3g (a:Int) (b:Str):decide ((Sum.inl a:Key)=Sum.inr b)=false:=decide_eq_false (fun q=>nomatch q)
theorem j32 (a:Str) (b:Int):decide ((Sum.inr a:Key)=Sum.inl b)=false:=decide_eq_false (fun q=>nomatch q)
noncomputable def y67 (prog:Program) (w:World):PySem.KeyKind prog w Key where
 is:=j36
 hash:=j6v w
 inj:=fun v a b ha hb=>by
  rcases x2e ha with⟨i,t,rfl,rfl⟩ | ⟨x,t,rfl,rfl⟩
  ·rcases x2e hb with⟨j,u,rfl,e⟩ | ⟨y,u,rfl,e⟩
   ·injection e with e1 _; rw[e1]
   ·exact nomatch e
  ·rcases x2e hb with⟨j,u,rfl,e⟩ | ⟨y,u,rfl,e⟩
   ·exact nomatch e
   ·injection e with e1 _; rw[e1]
 byValue:=fun k v h=>by
  rcases x2e h with⟨i,t,rfl,rfl⟩ | ⟨x,t,rfl,rfl⟩ <;> rfl
 pyHash:=fun hv h=>by
  rcases x2e hv with⟨i,t,rfl,rfl⟩ | ⟨x,t,rfl,rfl⟩
  ·exact wpAny_pyHash_int h
  ·exact wpAny_pyHash_str h
 eqBool:=fun hu hv h=>by
  rcases x2e hu with⟨i,t,rfl,rfl⟩ | ⟨x,t,rfl,rfl⟩
  ·rcases x2e hv with⟨j,u,rfl,rfl⟩ | ⟨y,u,rfl,rfl⟩
   ·rw[j2m]at h; exact wpAny_eqBool_int h
   ·rw[j3g]at h; exact SeqAt.EqAt.int_str i t y u _ _ _ _ h
  ·rcases x2e hv with⟨j,u,rfl,rfl⟩ | ⟨y,u,rfl,rfl⟩
   ·rw[j32]at h; exact SeqAt.EqAt.str_int x t j u _ _ _ _ h
   ·rw[j1c]at h; exact wpAny_eqBool_str h
 «strs»:=fun k x t v h=>by
  rcases x2e h with⟨i,u,rfl,e⟩ | ⟨y,u,rfl,e⟩
  ·exact nomatch e
  ·injection e with e1 _
   subst e1
   cases v <;> rfl
inductive V where
 | non | bl (b:Bool) | int (i:Int) | str (x:Str) | byt (b:Array UInt8) | flt (b:UInt64) | ref (a:Addr) | ty (n:String)
 deriving DecidableEq
noncomputable def x4k:V->Value->Prop
 | .non,u=>u=Value.none
 | .bl b,u=>u=Value.bool b
 | .int i,u=>∃ t,u=Value.int i t
 | .str x,u=>∃ t,u=Value.str x t
 | .byt b,u=>∃ t,u=Value.bytes b t
 | .flt b,u=>∃ t,u=Value.float b t
 | .ref a,u=>u=Value.ref a
 | .ty n,u=>u=Value.type n
noncomputable abbrev x2h:List V->List Value->Prop:=Paired x4k
theorem x2h.length {xs:List V} {us:List Value} (r:x2h xs us):xs.length=us.length:=Paired.length r
theorem x2h.get:∀ {xs:List V} {us:List Value} {i:Nat} {x:V},x2h xs us->xs[i]? = some x->∃ u,us[i]? = some u/\x4k x u
 | _,_,_,_,.nil,e=>by simp at e
 | _,_,0,_,.cons r _,e=>by simp at e; subst e; exact⟨_,rfl,r⟩
 | _,_,i+1,x,.cons _ t,e=>by
  obtain⟨u,h1,h2⟩:=x2h.get (i:=i) (x:=x) t (by simpa using e)
  exact⟨u,by simpa using h1,h2⟩
theorem x2h.set {x:V} {u:Value} (r:x4k x u):∀ {xs:List V} {us:List Value} (i:Nat),x2h xs us->x2h (xs.set i x) (us.set i u)
 | _,_,_,.nil=>.nil
 | _,_,0,.cons _ t=>.cons r t
 | _,_,i+1,.cons q t=>.cons q (x2h.set r i t)
theorem x2h.append:∀ {xs ys:List V} {us ws:List Value},x2h xs us->x2h ys ws->x2h (xs++ys) (us++ws)
 | _,_,_,_,.nil,s=>s
 | _,_,_,_,.cons r t,s=>.cons r (x2h.append t s)
theorem x2h.take:∀ {xs:List V} {us:List Value} (n:Nat),x2h xs us->x2h (xs.take n) (us.take n)
 | _,_,0,_=>.nil
 | _,_,_+1,.nil=>.nil
 | _,_,n+1,.cons r t=>.cons r (x2h.take n t)
theorem x2h.drop:∀ {xs:List V} {us:List Value} (n:Nat),x2h xs us->x2h (xs.drop n) (us.drop n)
 | _,_,0,r=>r
 | _,_,_+1,.nil=>.nil
 | _,_,n+1,.cons _ t=>x2h.drop n t
noncomputable def j52:Option V->Option Value->Prop
 | some v,some u=>x4k v u
 | none,none=>True
 | _,_=>False
noncomputable def KV {κ:Type}:List (κ × V)->List (κ × Value)->Prop:=Paired fun(p:κ × V) (q:κ × Value)=>p.1=q.1/\x4k p.2 q.2
noncomputable def kV:Key->V
 | .inl i=>.int i
 | .inr x=>.str x
inductive HO where
 /-- a list -/
 | lst (xs:List V)
 /-- a tuple (never changes) -/
 | tup (xs:List V)
 /-- a dict whose keys are ints and texts; one whose keys are tuples of ints and texts (the empty one is both) -/
 | dK (kvs:List (Key × V)) | dT (kvs:List (List Key × V))
 /-- a set of ints: its members,its size -/
 | set (S:Int->Bool) (n:Nat)
 /-- an instance of the class at C,its dict at dx,its attributes -/
 | ins (C dx:Addr) (fs:List (Str × V))
 /-- the dict of the instance at x -/
 | own (x:Addr)
 /-- the dict of an exception -/
 | xd (fs:List (Str × V))
 /-- a bound method,f of x -/
 | met (f x:Addr)
 /-- a range object lo,lo+1,.. below hi -/
 | rng (lo hi:Int)
 /-- a thing that is known to the object (the script; a dict while a loop walks it): read,never written while it is so -/
 | frz (o:Obj) (u:HO)
 /-- a code object's table -/
 | tbl (ps:Array Value)
 /-- any other thing,by what is true of its one object (a def of one's own: SetO a S n:=HO.ext fun h=>..) -/
 | ext (φ:Heap->Prop)
noncomputable abbrev Hp:=Addr->Option HO
noncomputable def upd (H:Hp) (a:Addr) (o:HO):Hp:=fun b=>if b=a then some o else H b
theorem x21 {H:Hp} {a:Addr} {o:HO}:upd H a o a=some o:=by unfold upd; rw[if_pos rfl]
theorem x0p {H:Hp} {a b:Addr} {o:HO} (h:b≠a):upd H a o b=H b:=by unfold upd; rw[if_neg h]
theorem x1c {H:Hp} {a b:Addr} {o:HO} (h:H a=some o) (h':H b=none):a≠b:=by
 intro e; subst e; rw[h]at h'; cases h'
noncomputable def x5t (h:Heap) (a:Addr) (items:Array Value):Prop:=∃ o,h.get? a=some o/\o.cls=.type "tuple" /\ (∃ n,o.data=.seq items n)/\o.dict=none
theorem x5t.tup {h:Heap} {a:Addr} {items:Array Value} (x:x5t h a items):IsTup h a items:=let ⟨o,e,c,n,_⟩:=x; ⟨o,e,c,n⟩
theorem x5t.new (h:Heap) (items:Array Value):x5t (h.push { cls:=.type "tuple",data:=.seq items }) h.objs.size items:=⟨_,Heap.get?_push_size _ rfl,rfl,⟨_,rfl⟩,rfl⟩
theorem x5t.lt {h:Heap} {a:Addr} {items:Array Value} (x:x5t h a items):a<h.objs.size:=let ⟨_,e,_⟩:=x; Heap.lt_size e
section
variable (P:Program) (w:World)
noncomputable def x3n (H:Hp) (h:Heap) (a:Addr):HO->Prop
 | .lst xs=>xs.length<=sizeLine/\∃ (its:List Value) (n:Nat),x2h xs its/\h.get? a=some { cls:=.type "list",data:=.seq its.toArray n }
 | .tup xs=>xs.length<=sizeLine/\∃ its:List Value,x2h xs its/\x5t h a its.toArray
 | .dK kvs=>kvs.length<=sizeLine/\(a == sysModules)=false/\∃ vs,KV kvs vs/\h.DictOf (y67 P w) a vs
 | .dT kvs=>kvs.length<=sizeLine/\(a == sysModules)=false/\∃ xs:List (List Key × Addr × Value),
   Paired (fun(p:List Key × V) (q:List Key × Addr × Value)=>p.1=q.1/\H q.2.1=some (.tup (p.1.map kV))/\x4k p.2 q.2.2) kvs xs /\
   ∃ o es ep,h.get? a=some o/\o.ExactDict/\o.data=.dict es ep/\es.toList=xs.map (entryOfKey (tupleKind (y67 P w)))/\(xs.map (·.1)).Nodup
 | .set S n=>h.SetOf (intKind P w) a S n
 | .ins C dx fs=>H dx=some (.own a)/\fs.length<=1000/\dx≠a/\h.get? a=some (PySem.W.instObj C dx) /\
   ∃ mA,h.Ns1 dx mA/\(∀ f,j52 (fs.lookup f) (mA f))/\PySem.Within mA (fs.map (·.1))
 | .own _=>∃ o,h.get? a=some o
 | .xd fs=>∃ mA,h.Ns1 a mA/\∀ f,j52 (fs.lookup f) (mA f)
 | .rng lo hi=>∃ t u v,h.get? a=some { cls:=.type "range",data:=.fields #[.int lo t,.int hi u,.int 1 v] }
 | .frz o u=>h.get? a=some o/\x3n H h a u
 | .tbl ps=>h.get? a=some { cls:=.none,data:=.fields ps }
 | .met f x=>h.get? a=some (PySem.W.methodObj (.ref f) (.ref x))
 | .ext φ=>φ h/\(∃ o,h.get? a=some o)/\∀ h1 h2:Heap,φ h1->(∀ o,h1.get? a=some o->h2.get? a=some o)->φ h2
noncomputable def HOk (H:Hp) (h:Heap):Prop:=∀ a o,H a=some o->x3n P w H h a o
end
section
variable {P:Program} {w:World} {H H':Hp} {h h':Heap} {a:Addr} {o:HO}
theorem x3n.lt (x:x3n P w H h a o):a<h.objs.size:=by
 cases o with
 | lst xs=>obtain⟨_,_,_,_,e⟩:=x; exact Heap.lt_size e
 | tup xs=>obtain⟨_,_,_,p⟩:=x; exact p.lt
 | dK kvs=>obtain⟨_,_,_,_,o,_,_,e,_⟩:=x; exact Heap.lt_size e
 | dT kvs=>obtain⟨_,_,_,_,o,_,_,e,_⟩:=x; exact Heap.lt_size e
 | set S n=>obtain⟨o,_,_,_,e,_⟩:=x; exact Heap.lt_size e
 | ins C dx fs=>obtain⟨_,_,_,e,_⟩:=x; exact Heap.lt_size e
 | own y=>obtain⟨_,e⟩:=x; exact Heap.lt_size e
 | xd fs=>obtain⟨_,⟨_,_,_,e,_⟩,_⟩:=x; exact Heap.lt_size e
 | rng lo hi=>obtain⟨_,_,_,e⟩:=x; exact Heap.lt_size e
 | frz ob u=>obtain⟨e,_⟩:=x; exact Heap.lt_size e
 | tbl ps=>exact Heap.lt_size (show h.get? a=some _ from x)
 | met f y=>exact Heap.lt_size (show h.get? a=some _ from x)
 | ext φ=>obtain⟨_,⟨_,e⟩,_⟩:=x; exact Heap.lt_size e
theorem Paired.mapP {α β:Type} {F G:α->β->Prop}:∀ {l₁:List α} {l₂:List β},Paired F l₁ l₂->(∀ a b,F a b->G a b)->Paired G l₁ l₂
 | _,_,.nil,_=>.nil
 | _,_,.cons r t,f=>.cons (f _ _ r) (Paired.mapP t f)
theorem x3n.stay (x:x3n P w H h a o) (k:∀ b u,(b=a\/H b=some (.own a))->h.get? b=some u->h'.get? b=some u)
  (ho:∀ b,H b=some (.own a)->H' b=some (.own a)) (ht:∀ b xs,H b=some (.tup xs)->H' b=some (.tup xs)):x3n P w H' h' a o:=by
 induction o with
 | lst xs=>obtain⟨z,its,n,r,e⟩:=x; exact⟨z,its,n,r,k _ _ (.inl rfl) e⟩
 | tup xs=>obtain⟨z,its,r,ob,e,c⟩:=x; exact⟨z,its,r,ob,k _ _ (.inl rfl) e,c⟩
 | dK kvs=>obtain⟨z,y,vs,r,ob,es,ep,e,c⟩:=x; exact⟨z,y,vs,r,ob,es,ep,k _ _ (.inl rfl) e,c⟩
 | dT kvs=>
  obtain⟨z,y,xs,r,ob,es,ep,e,c⟩:=x
  exact⟨z,y,xs,Paired.mapP r fun p q z=>⟨z.1,ht _ _ z.2.1,z.2.2⟩,ob,es,ep,k _ _ (.inl rfl) e,c⟩
 | set S n=>obtain⟨ob,es,ep,t,e,c⟩:=x; exact⟨ob,es,ep,t,k _ _ (.inl rfl) e,c⟩
 | ins C dx fs=>
  obtain⟨d,z,ne,e,mA,⟨od,es,ep,e2,c⟩,r⟩:=x
  exact⟨ho _ d,z,ne,k _ _ (.inl rfl) e,mA,⟨od,es,ep,k _ _ (.inr d) e2,c⟩,r⟩
 | own y=>obtain⟨ob,e⟩:=x; exact⟨ob,k _ _ (.inl rfl) e⟩
 | xd fs=>obtain⟨mA,⟨od,es,ep,e,c⟩,r⟩:=x; exact⟨mA,⟨od,es,ep,k _ _ (.inl rfl) e,c⟩,r⟩
 | rng lo hi=>obtain⟨t,u,v,e⟩:=x; exact⟨t,u,v,k _ _ (.inl rfl) e⟩
 | frz ob u ih=>obtain⟨e,q⟩:=x; exact⟨k _ _ (.inl rfl) e,ih q⟩
 | tbl ps=>
  have e:h.get? a=some { cls:=.none,data:=.fields ps }:=x
  show h'.get? a=some { cls:=.none,data:=.fields ps }
  exact k a _ (.inl rfl) e
 | met f y=>
  have e:h.get? a=some (PySem.W.methodObj (.ref f) (.ref y)):=x
  show h'.get? a=some (PySem.W.methodObj (.ref f) (.ref y))
  exact k a _ (.inl rfl) e
 | ext φ=>obtain⟨p,⟨o,e⟩,st⟩:=x; exact⟨st _ _ p fun o q=>k _ _ (.inl rfl) q,⟨o,k _ _ (.inl rfl) e⟩,st⟩
theorem HOk.lt (x:HOk P w H h) (e:H a=some o):a<h.objs.size:=(x a o e).lt
theorem HOk.fresh (x:HOk P w H h) (e:h.objs.size<=a):H a=none:=by
 cases q:H a with
 | none=>rfl
 | some u=>exact absurd (Nat.lt_of_lt_of_le (x.lt q) e) (Nat.lt_irrefl _)
theorem HOk.kept (x:HOk P w H h) (k:∀ b u,h.get? b=some u->h'.get? b=some u):HOk P w H h':=fun a o e=>
 (x a o e).stay (fun b u _ q=>k b u q) (fun _ q=>q) fun _ _ q=>q
theorem HOk.laid (x:HOk P w H h) (k:∀ b u,h.get? b=some u->h'.get? b=some u) (hp:h.objs.size<=a) (new:x3n P w (upd H a o) h' a o):HOk P w (upd H a o) h':=fun b u e=>by
 have hn:=x.fresh hp
 by_cases hb:b=a
 ·subst hb; rw[x21]at e; cases e; exact new
 ·rw[x0p hb]at e
  exact(x b u e).stay (fun c v _ q=>k c v q) (fun c q=>by rw[x0p (x1c q hn)]; exact q) fun c xs q=>by rw[x0p (x1c q hn)]; exact q
end
noncomputable def Rd (H:Hp) (a:Addr) (u:HO):Prop:=H a=some u\/∃ o,H a=some (.frz o u)
theorem Rd.of {H:Hp} {a:Addr} {u:HO} (h:H a=some u):Rd H a u:=.inl h
theorem Rd.ok {P:Program} {w:World} {H:Hp} {h:Heap} {a:Addr} {u:HO} (r:Rd H a u) (x:HOk P w H h):x3n P w H h a u:=by
 rcases r with r | ⟨o,r⟩
 ·exact x a u r
 ·obtain⟨_,q⟩:=x a _ r
  exact q
noncomputable def Mut:Option HO->Prop
 | some (.lst _)=>True
 | some (.dK _)=>True
 | some (.dT _)=>True
 | some (.set _ _)=>True
 | some (.ins _ _ _)=>True
 | some (.ext _)=>True
 | _=>False
section
variable {P:Program} {w:World} {H:Hp} {h h':Heap} {x e:Addr} {o':HO}
theorem HOk.write (ok:HOk P w H h) (mu:Mut (H x)) (he:e=x\/H e=some (.own x)) (k:∀ b u,b≠e->h.get? b=some u->h'.get? b=some u) (heo:∃ u,h'.get? e=some u)
  (new:x3n P w (upd H x o') h' x o'):HOk P w (upd H x o') h':=fun b u q=>by
 have nown:∀ c y,H c=some (.own y)->c≠x:=fun c y r z=>by subst z; rw[r]at mu; exact mu
 have ntup:∀ c xs,H c=some (.tup xs)->c≠x:=fun c xs r z=>by subst z; rw[r]at mu; exact mu
 by_cases hb:b=x
 ·subst hb; rw[x21]at q; cases q; exact new
 ·rw[x0p hb]at q
  by_cases hbe:b=e
  ·have q':H b=some (.own x):=by
    rcases he with z | z
    ·exact absurd (hbe.trans z) hb
    ·rw[hbe]; exact z
   rw[q]at q'; cases q'
   obtain⟨v,hv⟩:=heo
   exact⟨v,by rw[hbe]; exact hv⟩
  ·refine(ok b u q).stay (fun c v hc r=>k c v ?_ r) (fun c r=>by rw[x0p (nown c b r)]; exact r) fun c xs r=>by rw[x0p (ntup c xs r)]; exact r
   rcases hc with rfl | hc
   ·exact hbe
   ·rintro rfl
    rcases he with z | z
    ·exact nown c b hc z
    ·rw[hc]at z; cases z; exact hb rfl
end
structure Un (fs ex:List Addr) (H H':Hp) (h h':Heap):Prop where
 keep:∀ b o,h.get? b=some o->H b=none->b ∉ fs->b ∉ ex->h'.get? b=some o
 slot:∀ b o,h.get? b=some o->H b=none->b∈fs->b ∉ ex->∃ sl,h'.get? b=some { o with slots:=sl }
 free:∀ b o,h.get? b=some o->H b=none->b ∉ ex->H' b=none
 there:∀ b o,h.get? b=some o->b ∉ ex->∃ o',h'.get? b=some o'
 tups:∀ b xs,H b=some (.tup xs)->H' b=some (.tup xs)
 frzs:∀ b o u,H b=some (.frz o u)->H' b=some (.frz o u)
 tbls:∀ b ps,H b=some (.tbl ps)->∃ more,H' b=some (.tbl (ps++more))
section
variable {fs fs' ex ex':List Addr} {H H1 H2:Hp} {h h1 h2 h':Heap} {a x e:Addr} {o:HO}
theorem Un.any (u:Un fs ex H H1 h h1) {b:Addr} {ob:Obj} (q:h.get? b=some ob) (n:H b=none) (hx:b ∉ ex):∃ sl,h1.get? b=some { ob with slots:=sl }:=by
 by_cases hb:b∈fs
 ·exact u.slot b ob q n hb hx
 ·exact⟨ob.slots,u.keep b ob q n hb hx⟩
theorem Un.kept (k:∀ b u,h.get? b=some u->h'.get? b=some u):Un fs ex H H h h':=
 ⟨fun b ob q _ _ _=>k b ob q,fun b ob q _ _ _=>⟨ob.slots,k b ob q⟩,fun _ _ _ n _=>n,fun b ob q _=>⟨ob,k b ob q⟩,fun _ _ q=>q,fun _ _ _ q=>q,fun _ ps q=>⟨#[],by rw[q]; simp⟩⟩
theorem Un.refl:Un fs ex H H h h:=Un.kept fun _ _ q=>q
theorem Un.laid (k:∀ b u,h.get? b=some u->h'.get? b=some u) (hp:h.objs.size<=a) (hn:H a=none):Un fs ex H (upd H a o) h h' where
 keep:=fun b u q _ _ _=>k b u q
 slot:=fun b u q _ _ _=>⟨u.slots,k b u q⟩
 free:=fun b u q n _=>by rw[x0p (Nat.ne_of_lt (Nat.lt_of_lt_of_le (Heap.lt_size q) hp))]; exact n
 there:=fun b u q _=>⟨u,k b u q⟩
 tups:=fun b xs q=>by rw[x0p (x1c q hn)]; exact q
 frzs:=fun b u xs q=>by rw[x0p (x1c q hn)]; exact q
 tbls:=fun b ps q=>⟨#[],by rw[x0p (x1c q hn),q]; simp⟩
theorem Un.write (mu:Mut (H x)) (he:e=x\/H e=some (.own x)) (k:∀ b u,b≠e->h.get? b=some u->h'.get? b=some u) (heo:∃ u,h'.get? e=some u):Un fs ex H (upd H x o) h h':=by
 have hx:∀ b,H b=none->b≠x:=fun b n z=>by subst z; rw[n]at mu; exact mu
 have hb:∀ b,H b=none->b≠e:=fun b n z=>by
  subst z
  rcases he with r | r
  ·exact hx b n r
  ·rw[n]at r; cases r
 have hm:∀ b u,H b=some u->¬ Mut (some u)->b≠x:=fun b u q nm z=>by subst z; rw[q]at mu; exact nm mu
 refine⟨fun b u q n _ _=>k b u (hb b n) q,fun b u q n _ _=>⟨u.slots,k b u (hb b n) q⟩,fun b u q n _=>by rw[x0p (hx b n)]; exact n,fun b u q _=>?_,
  fun b xs q=>by rw[x0p (hm b _ q fun z=>z)]; exact q,fun b u xs q=>by rw[x0p (hm b _ q fun z=>z)]; exact q,fun b ps q=>⟨#[],by rw[x0p (hm b _ q fun z=>z),q]; simp⟩⟩
 by_cases hbe:b=e
 ·subst hbe; exact heo
 ·exact⟨u,k b u hbe q⟩
end
noncomputable def trk (h:Heap) (H:Hp):List Addr:=(List.range h.objs.size).filter fun a=>(H a).isSome
noncomputable def z20 (h:Heap) (H:Hp):Heap:=PySem.W.hideAll h (trk h H)
theorem y9o (h:Heap) (H:Hp):(z20 h H).objs.size=h.objs.size:=PySem.W.hideAll_size _ _
theorem z4m {h:Heap} {H:Hp} {b:Addr} {o:Obj} (e:h.get? b=some o) (n:H b=none):(z20 h H).get? b=some o:=
 PySem.W.hideAll_get _ e fun hm=>by
  have q:(H b).isSome=true:=(List.mem_filter.mp hm).2
  rw[n]at q; simp at q
theorem z94 {h:Heap} {H:Hp} {b:Addr} {o:Obj} (e:(z20 h H).get? b=some o):h.get? b=some o/\H b=none:=by
 have e':h.get? b=some o:=PySem.W.of_hideAll (trk h H) e
 refine⟨e',?_⟩
 cases q:H b with
 | none=>rfl
 | some x=>
  have hm:b∈trk h H:=List.mem_filter.mpr ⟨List.mem_range.mpr (Heap.lt_size e'),by simp[q]⟩
  have z:(z20 h H).get? b=none:=PySem.W.hideAll_none (trk h H) hm
  rw[z]at e; cases e
noncomputable def z9e (g h:Heap) (L:Addr):List (Addr × Obj):=(List.range h.objs.size).filterMap fun a=>if a=L\/(g.get? a).isSome=true then none else(h.get? a).map fun o=>(a,o)
noncomputable def rest (g h:Heap) (L d:Addr):List (Addr × Obj):=(z9e g h L).filter fun p=>decide (p.1≠d)
structure Mod (K:PySem.W.Frag) (mg:Str->Option Value) (base:Heap):Prop where
 kin:K.In base
 glob:base.Ns mainGlobals mg
 blt:∃ mb,base.Ns builtinsNs mb/\∀ x:Str,x ≠ "__name__"->mb x=bootBuiltins x
 nolimit:base.NoLimit
structure Cx where
 prog:Program
 w:World
 K:PySem.W.Frag
 mg:Str->Option Value
 base:Heap
 A:Around
 N:List Str
 s₀:Shared
 H₀:Hp
 env:Env
 outer:List Env
 stack:List Env
 ex:List Addr
 fn:Str->Bool
 calm:Bool
 pn:List (Addr × Obj)
 xe:Value->Shared->Prop
noncomputable def frs (l:List Env):List Addr:=l.filterMap (·.frame)
noncomputable abbrev Cx.fs (X:Cx):List Addr:=frs X.outer
noncomputable def Vis (sc:Scope) (x:Str):Prop:=sc.names.lookup x=some .local\/sc.names.lookup x=some .cell\/sc.names.lookup x=some .free
noncomputable def Loc (sc:Scope) (x:Str):Prop:=sc.names.lookup x=some .local\/sc.names.lookup x=some .cell
noncomputable def j7s (env:Env) (h:Heap) (m:Str->Option Value) (x:Str) (u:Value):Prop:=
 (env.kindOf x=some .local/\m x=some u)\/((env.kindOf x=some .cell\/env.kindOf x=some .free)/\∃ c,env.cells.lookup x=some c/\h.IsCell c (some u))
structure Cx.Ok (X:Cx):Prop where
 mod:Mod X.K X.mg X.base
 kind:X.env.scope.kind=.function
 glob:X.env.globals=mainGlobals
 blt:X.env.builtins=builtinsNs
 above:X.s₀.heap.objs.size<=X.env.locals
 inj:∀ x y c,X.env.cells.lookup x=some c->X.env.cells.lookup y=some c->x=y
 has:∀ x,(X.env.kindOf x=some .cell\/X.env.kindOf x=some .free)->∃ c,X.env.cells.lookup x=some c
 cab:∀ x c,X.fn x=true->X.env.cells.lookup x=some c->X.s₀.heap.objs.size<=c
 hd:X.calm=true->X.A.handled=none
 frames:X.A.frames=some X.stack
 stk:X.stack=X.outer\/(X.stack=X.env::X.outer/\X.env.frame=some X.env.locals)
 exf:∀ b∈X.ex,b≠X.env.locals/\∀ x c,X.env.cells.lookup x=some c->c≠b
 bs:∀ b o,X.base.get? b=some o->X.s₀.heap.get? b=some o/\X.H₀ b=none
 bsz:X.base.objs.size<=X.s₀.heap.objs.size
 noex:∀ b o,X.base.get? b=some o->b ∉ X.ex
 exfs:∀ b∈X.ex,b ∉ X.fs
 funs:X.s₀.heap.FunFrames X.base X.outer
 frf:∀ b∈X.fs,X.H₀ b=none
structure Inv (X:Cx) (pins:List (Addr × Obj)) (σ:List (Option V)) (H:Hp) (s:Shared):Prop where
 ok:X.Ok
 os:s.os=X.s₀.os
 bare:AllBare s.gens
 base:Un X.fs X.ex X.H₀ H X.s₀.heap s.heap
 loc:∃ m,s.heap.Ns X.env.locals m/\∀ (i:Nat) (x:Str) (v:V),X.N[i]? = some x->σ[i]? = some (some v)->Vis X.env.scope x->∃ u,x4k v u/\j7s X.env s.heap m x u
 cell:∀ x c,X.env.cells.lookup x=some c->∃ v,s.heap.IsCell c v
 free:H X.env.locals=none
 freeC:∀ x c,X.env.cells.lookup x=some c->H c=none
 pin:∀ p∈X.pn++pins,s.heap.get? p.1=some p.2/\H p.1=none/\p.1≠X.env.locals/\p.1 ∉ X.fs/\∀ v,p.2.data ≠ .cell v
 hok:HOk X.prog X.w H s.heap
 len:σ.length=X.N.length
section
variable {X:Cx} {pins:List (Addr × Obj)} {σ:List (Option V)} {H H':Hp} {s:Shared} {h':Heap}
theorem Cx.Ok.nofr (ok:X.Ok) {b:Addr} {o:Obj} (e:X.base.get? b=some o):b ∉ X.fs:=fun hb=>by
 have:=(ok.funs.mem hb).1
 rw[e]at this; cases this
theorem Inv.bs (I:Inv X pins σ H s):∀ b o,X.base.get? b=some o->s.heap.get? b=some o/\H b=none:=fun b o e=>
 ⟨I.base.keep b o (I.ok.bs b o e).1 (I.ok.bs b o e).2 (I.ok.nofr e) (I.ok.noex b o e),I.base.free b o (I.ok.bs b o e).1 (I.ok.bs b o e).2 (I.ok.noex b o e)⟩
theorem Inv.bk (I:Inv X pins σ H s):∀ b o,X.base.get? b=some o->s.heap.get? b=some o:=fun b o e=>(I.bs b o e).1
theorem Inv.mod (I:Inv X pins σ H s):Mod X.K X.mg X.base:=I.ok.mod
theorem Inv.kIn (I:Inv X pins σ H s):X.K.In s.heap:=I.ok.mod.kin.keeps I.bk
theorem Inv.fr (I:Inv X pins σ H s):∃ m,Fr X.base X.env.locals s.heap m:=
 let ⟨m,hn,_⟩:=I.loc
 ⟨m,hn,I.bk,Nat.le_trans I.ok.bsz I.ok.above⟩
theorem Inv.lt (I:Inv X pins σ H s):X.env.locals<s.heap.objs.size:=let ⟨_,hn,_⟩:=I.loc; hn.lt
theorem Inv.sz (I:Inv X pins σ H s):X.s₀.heap.objs.size<=s.heap.objs.size:=Nat.le_trans I.ok.above (Nat.le_of_lt I.lt)
theorem Inv.nofs (I:Inv X pins σ H s) {a:Addr} (h:s.heap.objs.size<=a):a ∉ X.fs:=fun hb=>by
 obtain⟨_,o,ho,_⟩:=I.ok.funs.mem hb
 exact absurd (Nat.lt_of_lt_of_le (Heap.lt_size ho) (Nat.le_trans I.sz h)) (Nat.lt_irrefl _)
theorem Inv.cne (I:Inv X pins σ H s):∀ x c,X.env.cells.lookup x=some c->c≠X.env.locals:=fun x c e z=>by
 obtain⟨v,o,ho,hd⟩:=I.cell x c e
 obtain⟨m,⟨o',es,ep,ho',hd',_⟩,_⟩:=I.loc
 rw[z,ho']at ho; cases ho; rw[hd']at hd; cases hd
theorem Inv.funs (I:Inv X pins σ H s):s.heap.FunFrames X.base X.outer:=by
 have all:∀ (l:List Env),(∀ b∈frs l,b∈X.fs)->X.s₀.heap.FunFrames X.base l->s.heap.FunFrames X.base l:=by
  intro l
  induction l with
  | nil=>intro _ _; trivial
  | cons env r ih=>
   intro hs hl
   obtain⟨hk,⟨L,o,hf,hn,ho,hd⟩,hr⟩:=hl
   have hL:L∈X.fs:=hs L (by unfold frs; rw[List.filterMap_cons,hf]; exact List.mem_cons_self)
   obtain⟨sl,e⟩:=I.base.slot L o ho (I.ok.frf L hL) hL fun z=>I.ok.exfs L z hL
   exact⟨hk,⟨L,_,hf,hn,e,hd⟩,ih (fun b hb=>hs b (by unfold frs; rw[List.filterMap_cons,hf]; exact List.mem_cons_of_mem _ hb)) hr⟩
 exact all X.outer (fun _ hb=>hb) I.ok.funs
theorem Inv.stack (I:Inv X pins σ H s):s.heap.FunFrames X.base X.stack:=by
 rcases I.ok.stk with e | ⟨e,hf⟩
 ·rw[e]; exact I.funs
 ·rw[e]
  obtain⟨m,hn,_⟩:=I.loc
  refine .cons (by rw[I.ok.kind]; decide) hf hn ?_ I.funs
  exact Heap.get?_none_of_le (Nat.le_trans I.ok.bsz I.ok.above)
theorem Inv.stkSub (I:Inv X pins σ H s):∀ b∈frs X.stack,b∈X.env.locals::X.fs:=fun b hb=>by
 rcases I.ok.stk with e | ⟨e,hf⟩
 ·rw[e]at hb; exact List.mem_cons_of_mem _ hb
 ·rw[e]at hb
  unfold frs at hb
  rw[List.filterMap_cons,hf]at hb
  exact hb
theorem Inv.stkFree (I:Inv X pins σ H s):∀ b∈frs X.stack,H b=none:=fun b hb=>by
 rcases List.mem_cons.mp (I.stkSub b hb)with e | hb
 ·rw[e]; exact I.free
 ·obtain⟨_,o,ho,_⟩:=I.ok.funs.mem hb
  exact I.base.free b o ho (I.ok.frf b hb) fun z=>I.ok.exfs b z hb
theorem Inv.step {g':Array GenState} {t':Nat} {d':Drawn} {ch:List Addr} (I:Inv X pins σ H s)
  (hch:∀ b∈ch,(b∈X.ex\/X.s₀.heap.objs.size<=b)/\b≠X.env.locals/\(∀ x c,X.env.cells.lookup x=some c->c≠b)/\∀ p∈X.pn++pins,p.1≠b)
  (keep:∀ b o,b≠X.env.locals->b ∉ X.fs->b ∉ ch->s.heap.get? b=some o->H b=none->h'.get? b=some o)
  (slot:∀ b o,b≠X.env.locals->b∈X.fs->b ∉ ch->s.heap.get? b=some o->H b=none->∃ sl,h'.get? b=some { o with slots:=sl }) (free:∀ b o,b ∉ ch->s.heap.get? b=some o->H b=none->H' b=none)
  (there:∀ b o,b ∉ ch->s.heap.get? b=some o->∃ o',h'.get? b=some o')
  (tups:∀ b xs,H b=some (.tup xs)->H' b=some (.tup xs)) (frzs:∀ b o u,H b=some (.frz o u)->H' b=some (.frz o u)) (tbls:∀ b ps,H b=some (.tbl ps)->∃ more,H' b=some (.tbl (ps++more)))
  (ns:∀ m,s.heap.Ns X.env.locals m->h'.Ns X.env.locals m) (hok:HOk X.prog X.w H' h') (hg:AllBare g') :
  Inv X pins σ H' { s with heap:=h',gens:=g',drawn:=d',toks:=t' }:=by
 have neL:∀ b o,X.s₀.heap.get? b=some o->b≠X.env.locals:=fun b o e=>Nat.ne_of_lt (Nat.lt_of_lt_of_le (Heap.lt_size e) I.ok.above)
 have neC:∀ b o,X.s₀.heap.get? b=some o->b ∉ X.ex->b ∉ ch:=fun b o e hx hb=>by
  rcases(hch b hb).1 with z | z
  ·exact hx z
  ·exact absurd (Nat.lt_of_lt_of_le (Heap.lt_size e) z) (Nat.lt_irrefl _)
 have cellK:∀ x c,X.env.cells.lookup x=some c->∀ v,s.heap.IsCell c v->h'.IsCell c v:=fun x c e v hh0=>by
  obtain⟨o,ho,hd⟩:=hh0
  have nch:c ∉ ch:=fun z=>(hch c z).2.2.1 x c e rfl
  by_cases hc:c∈X.fs
  ·obtain⟨sl,q⟩:=slot c o (I.cne x c e) hc nch ho (I.freeC x c e)
   exact⟨_,q,hd⟩
  ·exact⟨o,keep c o (I.cne x c e) hc nch ho (I.freeC x c e),hd⟩
 refine⟨I.ok,I.os,hg,⟨fun b o e n hb hx=>?_,fun b o e n hb hx=>?_,fun b o e n hx=>?_,fun b o e hx=>?_,fun b xs e=>tups b xs (I.base.tups b xs e),fun b o xs e=>frzs b o xs (I.base.frzs b o xs e),fun b ps e=>?_⟩,?_,fun x c e=>?_,?_,fun x c e=>?_,fun p hp=>?_,hok,I.len⟩
 ·exact keep b o (neL b o e) hb (neC b o e hx) (I.base.keep b o e n hb hx) (I.base.free b o e n hx)
 ·obtain⟨sl,e1⟩:=I.base.slot b o e n hb hx
  obtain⟨sl',e2⟩:=slot b _ (neL b o e) hb (neC b o e hx) e1 (I.base.free b o e n hx)
  exact⟨sl',e2⟩
 ·obtain⟨o',e1⟩:=I.base.there b o e hx
  exact free b o' (neC b o e hx) e1 (I.base.free b o e n hx)
 ·obtain⟨o',e1⟩:=I.base.there b o e hx
  exact there b o' (neC b o e hx) e1
 ·obtain⟨m1,e1⟩:=I.base.tbls b ps e
  obtain⟨m2,e2⟩:=tbls b _ e1
  exact⟨m1++m2,by rw[e2,Array.append_assoc]⟩
 ·obtain⟨m,hn,hl⟩:=I.loc
  refine⟨m,ns m hn,fun i x v e1 e2 e3=>?_⟩
  obtain⟨u,r,l⟩:=hl i x v e1 e2 e3
  refine⟨u,r,?_⟩
  rcases l with l | ⟨k,c,e,z⟩
  ·exact .inl l
  ·exact .inr ⟨k,c,e,cellK x c e _ z⟩
 ·obtain⟨v,z⟩:=I.cell x c e
  exact⟨v,cellK x c e v z⟩
 ·obtain⟨m,⟨o,_,_,ho,_⟩,_⟩:=I.loc
  exact free _ o (fun z=>(hch _ z).2.1 rfl) ho I.free
 ·obtain⟨v,o,ho,hd⟩:=I.cell x c e
  exact free c o (fun z=>(hch c z).2.2.1 x c e rfl) ho (I.freeC x c e)
 ·obtain⟨e,n,ne,nf,d⟩:=I.pin p hp
  have nch:p.1 ∉ ch:=fun z=>(hch p.1 z).2.2.2 p hp rfl
  exact⟨keep p.1 p.2 ne nf nch e n,free p.1 p.2 nch e n,ne,nf,d⟩
theorem Inv.un {t':Nat} (I:Inv X pins σ H s) (u:Un X.fs [] H H' s.heap h') (hok:HOk X.prog X.w H' h'):Inv X pins σ H' { s with heap:=h',toks:=t' }:=by
 obtain⟨m,⟨o,es,ep,ho,r⟩,_⟩:=id I.loc
 obtain⟨sl,hL⟩:=u.any ho I.free (by simp)
 exact I.step (g':=s.gens) (d':=s.drawn) (ch:=[]) (fun _ z=>nomatch z) (fun b o _ hb _ e n=>u.keep b o e n hb (by simp)) (fun b o _ hb _ e n=>u.slot b o e n hb (by simp)) (fun b o _ e n=>u.free b o e n (by simp)) (fun b o _ e=>u.there b o e (by simp)) u.tups u.frzs u.tbls (fun m' hm=>by
  obtain⟨o',es',ep',ho',r'⟩:=hm
  rw[ho]at ho'; cases ho'
  exact⟨_,es',ep',hL,r'⟩) hok I.bare
theorem Inv.call {g':Array GenState} {t':Nat} {d':Drawn} {ch:List Addr} (I:Inv X pins σ H s) (u:Un (frs X.stack) ch H H' s.heap h') (hok:HOk X.prog X.w H' h') (hg:AllBare g')
  (hch:∀ b∈ch,(b∈X.ex\/X.s₀.heap.objs.size<=b)/\b≠X.env.locals/\(∀ x c,X.env.cells.lookup x=some c->c≠b)/\∀ p∈X.pn++pins,p.1≠b) :
  Inv X pins σ H' { s with heap:=h',gens:=g',drawn:=d',toks:=t' }:=by
 obtain⟨m,⟨o,es,ep,ho,r⟩,_⟩:=id I.loc
 obtain⟨sl,hL⟩:=u.any ho I.free fun z=>(hch _ z).2.1 rfl
 exact I.step (ch:=ch) hch (fun b o hL hb hc e n=>u.keep b o e n (fun z=>(List.mem_cons.mp (I.stkSub b z)).elim hL hb) hc) (fun b o _ _ hc e n=>u.any e n hc) (fun b o hc e n=>u.free b o e n hc) (fun b o hc e=>u.there b o e hc) u.tups u.frzs u.tbls (fun m' hm=>by
  obtain⟨o',es',ep',ho',r'⟩:=hm
  rw[ho]at ho'; cases ho'
  exact⟨_,es',ep',hL,r'⟩) hok hg
theorem Inv.turned {t':Nat} {it:Addr} (I:Inv X pins σ H s) (k:∀ b o,b≠it->s.heap.get? b=some o->h'.get? b=some o) (hn:H it=none) (hL:it≠X.env.locals)
  (h1:it∈X.ex\/X.s₀.heap.objs.size<=it) (h2:∀ x c,X.env.cells.lookup x=some c->c≠it) (h3:∀ p∈X.pn++pins,p.1≠it):Inv X pins σ H { s with heap:=h',toks:=t' }:=by
 have nit:∀ b u,H b=some u->b≠it:=fun b u e z=>by rw[z,hn]at e; cases e
 refine I.step (g':=s.gens) (d':=s.drawn) (ch:=[it]) (fun b hb=>?_) (fun b o _ _ hc e _=>k b o (fun z=>hc (by simp[z])) e) (fun b o _ _ hc e _=>⟨o.slots,k b o (fun z=>hc (by simp[z])) e⟩) (fun _ _ _ _ n=>n)
  (fun b o hc e=>⟨o,k b o (fun z=>hc (by simp[z])) e⟩) (fun _ _ e=>e) (fun _ _ _ e=>e) (fun b ps e=>⟨#[],by rw[e]; simp⟩) (fun m hm=>?_) (fun b u e=>?_) I.bare
 ·have e:b=it:=by simpa using hb
  subst e
  exact⟨h1,hL,h2,h3⟩
 ·obtain⟨o,es,ep,ho,r⟩:=hm
  exact⟨o,es,ep,k _ o (Ne.symm hL) ho,r⟩
 ·refine(I.hok b u e).stay (fun c v hc q=>k c v ?_ q) (fun _ q=>q) fun _ _ q=>q
  rcases hc with z | z
  ·rw[z]; exact nit b u e
  ·exact nit c _ z
theorem Inv.tok (I:Inv X pins σ H s) (t:Nat):Inv X pins σ H { s with toks:=t }:=I.un (h':=s.heap) (t':=t) Un.refl I.hok
theorem Inv.kept {t':Nat} (I:Inv X pins σ H s) (k:∀ b u,s.heap.get? b=some u->h'.get? b=some u):Inv X pins σ H { s with heap:=h',toks:=t' }:=I.un (Un.kept k) (I.hok.kept k)
theorem Inv.laid {a:Addr} {o:HO} {t':Nat} (I:Inv X pins σ H s) (k:∀ b u,s.heap.get? b=some u->h'.get? b=some u) (hp:s.heap.objs.size<=a) (new:x3n X.prog X.w (upd H a o) h' a o) :
  Inv X pins σ (upd H a o) { s with heap:=h',toks:=t' }:=I.un (Un.laid k hp (I.hok.fresh hp)) (I.hok.laid k hp new)
theorem Inv.write {x e:Addr} {o:HO} {t':Nat} (I:Inv X pins σ H s) (mu:Mut (H x)) (he:e=x\/H e=some (.own x)) (k:∀ b u,b≠e->s.heap.get? b=some u->h'.get? b=some u) (heo:∃ u,h'.get? e=some u)
  (new:x3n X.prog X.w (upd H x o) h' x o):Inv X pins σ (upd H x o) { s with heap:=h',toks:=t' }:=I.un (Un.write mu he k heo) (I.hok.write mu he k heo new)
theorem Inv.weak {σ':List (Option V)} (I:Inv X pins σ H s) (hl:σ'.length=σ.length) (w:∀ (i:Nat) v,σ'[i]? = some (some v)->σ[i]? = some (some v)):Inv X pins σ' H s:=
 ⟨I.ok,I.os,I.bare,I.base,let ⟨m,hn,hl'⟩:=I.loc; ⟨m,hn,fun i x v e1 e2 e3=>hl' i x v e1 (w i v e2) e3⟩,I.cell,I.free,I.freeC,I.pin,I.hok,hl.trans I.len⟩
theorem Inv.pins_of {pins':List (Addr × Obj)} (I:Inv X pins σ H s) (h:∀ p∈pins',s.heap.get? p.1=some p.2/\H p.1=none/\p.1≠X.env.locals/\p.1 ∉ X.fs/\∀ v,p.2.data ≠ .cell v):Inv X pins' σ H s:=
 ⟨I.ok,I.os,I.bare,I.base,I.loc,I.cell,I.free,I.freeC,fun p hp=>(List.mem_append.mp hp).elim (fun z=>I.pin p (List.mem_append_left _ z)) (h p),I.hok,I.len⟩
theorem y3n {N:List Str} (hN:N.Nodup) {i j:Nat} {x:Str} (a:N[i]? = some x) (b:N[j]? = some x):i=j:=by
 obtain⟨h1,e1⟩:=List.getElem?_eq_some_iff.mp a
 obtain⟨h2,e2⟩:=List.getElem?_eq_some_iff.mp b
 exact(List.getElem_inj hN).mp (e1.trans e2.symm)
theorem y4a {M:Model} {A:Around} {E:Value->Shared->Prop} {i:Nat} {x:Str} {v:V} {u:Value} {Q:Unit->Shared->Prop} (I:Inv X pins σ H s) (hN:X.N.Nodup) (hi:X.N[i]? = some x) (hx:Loc X.env.scope x) (r:x4k v u)
  (h:∀ s',Inv X pins (σ.set i (some v)) H s'->(∃ a,Heap.SameBut a s.heap s'.heap/\(a=X.env.locals\/X.env.cells.lookup x=some a))->Q () s') (hf:X.fn x=true\/X.env.scope.names.lookup x=some .local:=by first | exact .inl rfl | exact .inr rfl | assumption):wpAny M A (storeName X.env x u) Q E s:=by
 obtain⟨m,hn,hl⟩:=id I.loc
 have hcls:(X.env.scope.kind == .class || (X.env.scope.kind == .module && X.env.locals != X.env.globals))=false:=by rw[I.ok.kind]; rfl
 have hiσ:i<σ.length:=by rw[I.len]; exact(List.getElem?_eq_some_iff.mp hi).1
 have cne:=I.cne
 have tracked:∀ {a:Addr} {h':Heap},(∃ o,s.heap.get? a=some o/\H a=none)->Heap.SameBut a s.heap h'->HOk X.prog X.w H h':=fun {a h'} ha hs b ob e=>by
  obtain⟨_,_,hfree⟩:=ha
  refine(I.hok b ob e).stay (fun c w' hc q=>(hs.2 c ?_).trans q) (fun _ q=>q) fun _ _ q=>q
  rintro rfl
  rcases hc with rfl | hc
  ·rw[hfree]at e; cases e
  ·rw[hfree]at hc; cases hc
 rcases hx with hk | hk
 ·refine wpAny_storeName_local hk hn (fun h' hn' hs=>?_) hcls
  obtain⟨oL,_,_,hoL,_⟩:=id hn
  refine h _ ⟨I.ok,I.os,I.bare,⟨fun b o e n hb hx=>?_,fun b o e n hb hx=>?_,I.base.free,fun b o e hx=>?_,I.base.tups,I.base.frzs,I.base.tbls⟩,⟨_,hn',fun j y v' e1 e2 e3=>?_⟩,fun y c e=>?_,I.free,I.freeC,fun p hp=>?_,tracked ⟨oL,hoL,I.free⟩ hs,by simpa using I.len⟩ ⟨_,hs,.inl rfl⟩
  ·exact(hs.2 b (Nat.ne_of_lt (Nat.lt_of_lt_of_le (Heap.lt_size e) I.ok.above))).trans (I.base.keep b o e n hb hx)
  ·obtain⟨sl,e1⟩:=I.base.slot b o e n hb hx
   exact⟨sl,(hs.2 b (Nat.ne_of_lt (Nat.lt_of_lt_of_le (Heap.lt_size e) I.ok.above))).trans e1⟩
  ·obtain⟨o',e1⟩:=I.base.there b o e hx
   exact⟨o',(hs.2 b (Nat.ne_of_lt (Nat.lt_of_lt_of_le (Heap.lt_size e) I.ok.above))).trans e1⟩
  ·by_cases hj:j=i
   ·subst hj
    rw[hi]at e1; cases e1
    rw[List.getElem?_set_self hiσ]at e2
    cases e2
    exact⟨u,r,.inl ⟨hk,by simp⟩⟩
   ·rw[List.getElem?_set_ne (Ne.symm hj)]at e2
    obtain⟨u',r',q⟩:=hl j y v' e1 e2 e3
    refine⟨u',r',?_⟩
    rcases q with⟨k,e⟩ | ⟨k,c,e,z⟩
    ·refine .inl ⟨k,?_⟩
     have:y≠x:=fun e=>hj (y3n hN e1 (e ▸ hi))
     simp[this,e]
    ·exact .inr ⟨k,c,e,z.sameBut hs (cne y c e)⟩
  ·obtain⟨w',z⟩:=I.cell y c e
   exact⟨w',z.sameBut hs (cne y c e)⟩
  ·obtain⟨e,n,ne,nf,d⟩:=I.pin p hp
   exact⟨(hs.2 p.1 ne).trans e,n,ne,nf,d⟩
 ·have hfn:X.fn x=true:=by
   rcases hf with z | z
   ·exact z
   ·rw[z]at hk; cases hk
  obtain⟨c,hc⟩:=I.ok.has x (.inl hk)
  obtain⟨w',z⟩:=I.cell x c hc
  refine wpAny_storeName_cell I.ok.kind hk hc z (fun h' hc' hs=>?_)
  obtain⟨oc,hoc,hocd⟩:=id z
  refine h { s with heap:=h' } ⟨I.ok,I.os,I.bare,⟨fun b o e n hb hx=>?_,fun b o e n hb hx=>?_,I.base.free,fun b o e hx=>?_,I.base.tups,I.base.frzs,I.base.tbls⟩,⟨m,hn.sameBut hs (Ne.symm (cne x c hc)),fun j y v' e1 e2 e3=>?_⟩,fun y c' e=>?_,I.free,I.freeC,fun p hp=>?_,tracked ⟨oc,hoc,I.freeC x c hc⟩ hs,by simpa using I.len⟩ ⟨c,hs,.inr hc⟩
  ·exact(hs.2 b (Nat.ne_of_lt (Nat.lt_of_lt_of_le (Heap.lt_size e) (I.ok.cab x c hfn hc)))).trans (I.base.keep b o e n hb hx)
  ·obtain⟨sl,e1⟩:=I.base.slot b o e n hb hx
   exact⟨sl,(hs.2 b (Nat.ne_of_lt (Nat.lt_of_lt_of_le (Heap.lt_size e) (I.ok.cab x c hfn hc)))).trans e1⟩
  ·obtain⟨o',e1⟩:=I.base.there b o e hx
   exact⟨o',(hs.2 b (Nat.ne_of_lt (Nat.lt_of_lt_of_le (Heap.lt_size e) (I.ok.cab x c hfn hc)))).trans e1⟩
  ·by_cases hj:j=i
   ·subst hj
    rw[hi]at e1; cases e1
    rw[List.getElem?_set_self hiσ]at e2
    cases e2
    exact⟨u,r,.inr ⟨.inl hk,c,hc,hc'⟩⟩
   ·rw[List.getElem?_set_ne (Ne.symm hj)]at e2
    obtain⟨u',r',q⟩:=hl j y v' e1 e2 e3
    refine⟨u',r',?_⟩
    rcases q with q | ⟨k,c',e,z'⟩
    ·exact .inl q
    ·refine .inr ⟨k,c',e,z'.sameBut hs ?_⟩
     rintro rfl
     exact hj (y3n hN e1 (I.ok.inj _ _ _ e hc ▸ hi))
  ·by_cases hcc:c'=c
   ·subst hcc; exact⟨_,hc'⟩
   ·obtain⟨w2,z2⟩:=I.cell y c' e
    exact⟨w2,z2.sameBut hs hcc⟩
  ·obtain⟨e,n,ne,nf,d⟩:=I.pin p hp
   refine⟨(hs.2 p.1 ?_).trans e,n,ne,nf,d⟩
   intro q
   rw[q,hoc]at e
   have q':oc=p.2:=Option.some.inj e
   exact d w' (by rw[<- q']; exact hocd)
theorem y32 {M:Model} {A:Around} {E:Value->Shared->Prop} {i:Nat} {x:Str} {v:V} {u:Value} {Q:Unit->Shared->Prop} (I:Inv X pins σ H s) (hN:X.N.Nodup) (hi:X.N[i]? = some x) (hx:Loc X.env.scope x) (r:x4k v u)
  (h:∀ s',Inv X pins (σ.set i (some v)) H s'->Q () s') (hf:X.fn x=true\/X.env.scope.names.lookup x=some .local:=by first | exact .inl rfl | exact .inr rfl | assumption):wpAny M A (storeName X.env x u) Q E s:=
 y4a I hN hi hx r (fun s' I' _=>h s' I') hf
theorem Inv.call' {s':Shared} {ch:List Addr} (I:Inv X pins σ H s) (ho:s'.os=s.os) (u:Un (frs X.stack) ch H H' s.heap s'.heap) (hok:HOk X.prog X.w H' s'.heap) (hg:AllBare s'.gens)
  (hch:∀ b∈ch,(b∈X.ex\/X.s₀.heap.objs.size<=b)/\b≠X.env.locals/\(∀ x c,X.env.cells.lookup x=some c->c≠b)/\∀ p∈X.pn++pins,p.1≠b):Inv X pins σ H' s':=by
 obtain⟨h',g',d',t',o'⟩:=s'
 have e:o'=s.os:=ho
 subst e
 exact I.call (g':=g') (t':=t') (d':=d') u hok hg hch
end
noncomputable abbrev XK:=Value->Option Addr->Hp->Prop
noncomputable abbrev St:=List (Option V)
noncomputable abbrev VK:=V->Hp->Prop
noncomputable abbrev TE:=St->Hp->VK->Prop
noncomputable abbrev TT:=St->Hp->(Bool->Hp->Prop)->Prop
noncomputable abbrev TA:=St->Hp->(List V->Hp->Prop)->Prop
structure Ends where
 nx:St->Hp->Prop
 rt:VK
 bk:St->Hp->Prop:=fun _ _=>False
 ct:St->Hp->Prop:=fun _ _=>False
noncomputable abbrev TS:=Ends->St->Hp->Prop
noncomputable def EP (X:Cx) (pins:List (Addr × Obj)) (σ:St) (Q:VK) (u:Value) (s':Shared):Prop:=∃ v H',Inv X pins σ H' s'/\x4k v u/\Q v H'
noncomputable def TP (X:Cx) (pins:List (Addr × Obj)) (σ:St) (Q:Bool->Hp->Prop) (b:Bool) (s':Shared):Prop:=∃ H',Inv X pins σ H' s'/\Q b H'
noncomputable def AP (X:Cx) (pins:List (Addr × Obj)) (σ:St) (Q:List V->Hp->Prop) (us:List Value) (s':Shared):Prop:=∃ vs H',Inv X pins σ H' s'/\x2h vs us/\Q vs H'
noncomputable def SP (X:Cx) (pins:List (Addr × Obj)) (D:Ends) (f:Flow) (s':Shared):Prop:=
 match f with
 | .next=>∃ σ' H',Inv X pins σ' H' s'/\D.nx σ' H'
 | .brk=>∃ σ' H',Inv X pins σ' H' s'/\D.bk σ' H'
 | .cont=>∃ σ' H',Inv X pins σ' H' s'/\D.ct σ' H'
 | .ret u=>∃ v σ' H',Inv X pins σ' H' s'/\x4k v u/\D.rt v H'
noncomputable def PE (X:Cx) (e:Expr) (t:TE):Prop:=
 ∀ (pins:List (Addr × Obj)) (s:Shared) (σ:St) (H:Hp) (Q:VK),Inv X pins σ H s->t σ H Q->wpAny (model X.prog X.w) X.A (eval e X.env) (EP X pins σ Q) X.xe s
noncomputable def PT (X:Cx) (e:Expr) (t:TT):Prop:=
 ∀ (pins:List (Addr × Obj)) (s:Shared) (σ:St) (H:Hp) (Q:Bool->Hp->Prop),Inv X pins σ H s->t σ H Q->wpAny (model X.prog X.w) X.A (isTrue e X.env (eval e X.env)) (TP X pins σ Q) X.xe s
noncomputable def PW (X:Cx) (e:Expr) (t:TT):Prop:=
 ∀ (whole:Sem Value) (pins:List (Addr × Obj)) (s:Shared) (σ:St) (H:Hp) (Q:Bool->Hp->Prop),Inv X pins σ H s->t σ H Q->wpAny (model X.prog X.w) X.A (isTrue e X.env whole) (TP X pins σ Q) X.xe s
theorem PW.pt {X:Cx} {e:Expr} {t:TT} (h:PW X e t):PT X e t:=h _
noncomputable def PA (X:Cx) (es:List Expr) (t:TA):Prop:=
 ∀ (pos:Pos) (pins:List (Addr × Obj)) (s:Shared) (σ:St) (H:Hp) (Q:List V->Hp->Prop),Inv X pins σ H s->t σ H Q->wpAny (model X.prog X.w) X.A (spliced (backTo pos (starEach es X.env))) (AP X pins σ Q) X.xe s
noncomputable def PS (X:Cx) (st:Stmt) (t:TS):Prop:=
 ∀ (pins:List (Addr × Obj)) (s:Shared) (σ:St) (H:Hp) (D:Ends),Inv X pins σ H s->t D σ H->wpAny (model X.prog X.w) X.A (exec st X.env) (SP X pins D) X.xe s
noncomputable def PSs (X:Cx) (st:List Stmt) (t:TS):Prop:=
 ∀ (pins:List (Addr × Obj)) (s:Shared) (σ:St) (H:Hp) (D:Ends),Inv X pins σ H s->t D σ H->wpAny (model X.prog X.w) X.A (execs st X.env) (SP X pins D) X.xe s
theorem thn {α:Type} {t:Sem α} {Q Q':α->Shared->Prop} {M:Model} {A:Around} {E:Value->Shared->Prop} {s:Shared} (h:wpAny M A t Q E s) (hQ:∀ a s,Q a s->Q' a s):wpAny M A t Q' E s:=wpAny_mono h hQ fun _ _ x=>x
section
variable {X:Cx}
noncomputable def x9n (i:Nat):TE:=fun σ H Q=>∃ v,σ[i]? = some (some v)/\Q v H
noncomputable def tC (v:V):TE:=fun _ H Q=>Q v H
theorem j08 {i:Nat} {x:Str} {pos:Pos} (hN:X.N[i]? = some x) (hv:Vis X.env.scope x) (hd:(x == ("__debug__":Str))=false:=by decide) (hcd:(x == ("__classdict__":Str))=false:=by decide):PE X (.Name x pos) (x9n i):=by
 intro pins s σ H Q I h
 obtain⟨v,e,h⟩:=h
 obtain⟨m,hn,hl⟩:=I.loc
 obtain⟨u,r,l⟩:=hl i x v hN e hv
 have fin:EP X pins σ Q u s:=⟨v,H,I,r,h⟩
 rcases l with⟨hk,hm⟩ | ⟨hk,c,hc,hcell⟩
 ·exact wpAny_Name (wpAny_loadName_local I.ok.kind hk hn hm fin) hd
 ·rcases hk with hk | hk
  ·exact wpAny_Name (wpAny_loadName_cell I.ok.kind hk hc hcell fin) hd
  ·exact wpAny_Name (wpAny_loadName_free I.ok.kind hk hc hcell fin hcd) hd
theorem j1u {i j pos}:PE X (.Constant (.int i) j pos) (tC (.int i)):=fun _ _ _ H _ I h=>wpAny_Constant_int ⟨.int i,H,I.tok _,⟨_,rfl⟩,h⟩
theorem j58 {b j pos}:PE X (.Constant (.bool b) j pos) (tC (.bl b)):=fun _ _ _ H _ I h=>Constant_bool ⟨.bl b,H,I,rfl,h⟩
theorem j3h {j pos}:PE X (.Constant .none j pos) (tC .non):=fun _ _ _ H _ I h=>Constant_none ⟨.non,H,I,rfl,h⟩
theorem z5x {x j pos}:PE X (.Constant (.str x) j pos) (tC (.str x)):=fun _ _ _ H _ I h=>Calls.Constant_str ⟨.str x,H,I.tok _,⟨_,rfl⟩,h⟩
noncomputable def Gl (X:Cx) (x:Str):Prop:=X.env.kindOf x=some .globalImplicit
theorem y12 {E:Value->Shared->Prop} {pins:List (Addr × Obj)} {s:Shared} {σ:St} {H:Hp} {x:Str} {u:Value} {pos:Pos} {Q:Value->Shared->Prop} (I:Inv X pins σ H s) (hg:Gl X x) (hm:X.mg x=some u) (h:Q u s)
  (hd:(x == ("__debug__":Str))=false:=by decide):wpAny (model X.prog X.w) X.A (eval (.Name x pos) X.env) Q E s:=
 Calls.Name_function_global I.ok.kind hg (Calls.loadGlobal_global (by rw[I.ok.glob]; exact I.mod.glob.keeps I.bk) hm h) hd
theorem y0m {E:Value->Shared->Prop} {pins:List (Addr × Obj)} {s:Shared} {σ:St} {H:Hp} {x:Str} {u:Value} {pos:Pos} {Q:Value->Shared->Prop} (I:Inv X pins σ H s) (hg:Gl X x) (hm:X.mg x=none) (hv:bootBuiltins x=some u) (h:Q u s)
  (hn:x ≠ "__name__":=by decide) (hd:(x == ("__debug__":Str))=false:=by decide):wpAny (model X.prog X.w) X.A (eval (.Name x pos) X.env) Q E s:=by
 obtain⟨mb,h1,h2⟩:=I.mod.blt
 exact Calls.Name_function_global I.ok.kind hg (Calls.loadGlobal_builtin (by rw[I.ok.glob]; exact I.mod.glob.keeps I.bk) hm (by rw[I.ok.blt]; exact h1.keeps I.bk) ((h2 x hn).trans hv) h) hd
theorem y9c {x:Str} {v:V} {u:Value} {pos:Pos} (hg:Gl X x) (hm:X.mg x=some u) (r:x4k v u) (hd:(x == ("__debug__":Str))=false:=by decide):PE X (.Name x pos) (tC v):=
 fun _ _ _ H _ I h=>y12 I hg hm ⟨v,H,I,r,h⟩ hd
theorem z0z {x:Str} {v:V} {u:Value} {pos:Pos} (hg:Gl X x) (hm:X.mg x=none) (hv:bootBuiltins x=some u) (r:x4k v u) (hn:x ≠ "__name__":=by decide) (hd:(x == ("__debug__":Str))=false:=by decide):PE X (.Name x pos) (tC v):=
 fun _ _ _ H _ I h=>y0m I hg hm hv ⟨v,H,I,r,h⟩ hn hd
variable {a b:Expr} {ta tb:TE} {pos:Pos}
variable {tA tB':TT} {rest:List Expr}
noncomputable def j7r (t u:TT):TT:=fun σ H Q=>t σ H fun c H1=>if c=true then u σ H1 Q else Q false H1
noncomputable def tOr (t u:TT):TT:=fun σ H Q=>t σ H fun c H1=>if c=true then Q true H1 else u σ H1 Q
noncomputable def j7v (t:TT):TT:=fun σ H Q=>t σ H fun c H1=>Q (!c) H1
theorem z7a (ha:PT X a tA):PW X (.BoolOp .And [a] pos) tA:=by
 intro wh pins s σ H Q I h
 refine isTrue_and (thn (ha pins s σ H Q I h) fun c s1 e=>?_)
 cases c with
 | true=>exact isTrue_and_nil e
 | false=>exact e
theorem j2h (ha:PT X a tA):PW X (.BoolOp .Or [a] pos) tA:=by
 intro wh pins s σ H Q I h
 refine isTrue_or (thn (ha pins s σ H Q I h) fun c s1 e=>?_)
 cases c with
 | false=>exact isTrue_or_nil e
 | true=>exact e
theorem j3y (ha:PT X a tA) (hb:PW X (.BoolOp .And (b::rest) pos) tB'):PW X (.BoolOp .And (a::b::rest) pos) (j7r tA tB'):=by
 intro wh pins s σ H Q I h
 refine isTrue_and (thn (ha pins s σ H _ I h) fun c s1 hh0=>?_)
 obtain⟨H1,I1,q1⟩:=hh0
 cases c with
 | true=>exact hb wh pins s1 σ H1 Q I1 q1
 | false=>exact⟨H1,I1,q1⟩
theorem j57 (ha:PT X a tA) (hb:PW X (.BoolOp .Or (b::rest) pos) tB'):PW X (.BoolOp .Or (a::b::rest) pos) (tOr tA tB'):=by
 intro wh pins s σ H Q I h
 refine isTrue_or (thn (ha pins s σ H _ I h) fun c s1 hh0=>?_)
 obtain⟨H1,I1,q1⟩:=hh0
 cases c with
 | true=>exact⟨H1,I1,q1⟩
 | false=>exact hb wh pins s1 σ H1 Q I1 q1
theorem j3b (ha:PT X a tA):PT X (.UnaryOp .Not a pos) (j7v tA):=by
 intro pins s σ H Q I h
 exact isTrue_not (ha pins s σ H (fun c H1=>Q (!c) H1) I h)
noncomputable def j5b (ta tb:TE):TE:=fun σ H Q=>ta σ H fun x H1=>∃ c,x=.bl c/\if c=true then tb σ H1 Q else Q (.bl false) H1
noncomputable def j7i (ta tb:TE):TE:=fun σ H Q=>ta σ H fun x H1=>∃ c,x=.bl c/\if c=true then Q (.bl true) H1 else tb σ H1 Q
noncomputable def j61 (ta:TE):TE:=fun σ H Q=>ta σ H fun x H1=>∃ c,x=.bl c/\Q (.bl (!c)) H1
theorem j1f {op} {t:TE} (h:PE X a t):PE X (.BoolOp op [a] pos) t:=fun pins s σ H Q I hw=>BoolOp_one (h pins s σ H Q I hw)
theorem j2b (ha:PE X a ta) (hb:PE X (.BoolOp .And (b::rest) pos) tb):PE X (.BoolOp .And (a::b::rest) pos) (j5b ta tb):=by
 intro pins s σ H Q I h
 refine BoolOp_and (thn (ha pins s σ H _ I h) fun v s1 hh0=>?_)
 obtain⟨x,H1,I1,r1,q1⟩:=hh0
 obtain⟨c,rfl,q1⟩:=q1
 cases r1
 refine wpAny_truthy_bool ?_
 cases c with
 | true=>exact hb pins s1 σ H1 Q I1 q1
 | false=>exact⟨.bl false,H1,I1,rfl,q1⟩
theorem j50 (ha:PE X a ta) (hb:PE X (.BoolOp .Or (b::rest) pos) tb):PE X (.BoolOp .Or (a::b::rest) pos) (j7i ta tb):=by
 intro pins s σ H Q I h
 refine BoolOp_or (thn (ha pins s σ H _ I h) fun v s1 hh0=>?_)
 obtain⟨x,H1,I1,r1,q1⟩:=hh0
 obtain⟨c,rfl,q1⟩:=q1
 cases r1
 refine wpAny_truthy_bool ?_
 cases c with
 | false=>exact hb pins s1 σ H1 Q I1 q1
 | true=>exact⟨.bl true,H1,I1,rfl,q1⟩
theorem j30 (ha:PE X a ta):PE X (.UnaryOp .Not a pos) (j61 ta):=by
 intro pins s σ H Q I h
 refine UnaryOp_ (thn (ha pins s σ H _ I h) fun v s1 hh0=>?_)
 obtain⟨x,H1,I1,r1,q1⟩:=hh0
 obtain⟨c,rfl,q1⟩:=q1
 cases r1
 exact not_of (wpAny_truthy_bool ⟨.bl (!c),H1,I1,rfl,q1⟩)
noncomputable def tIf (t:TT) (ta tb:TE):TE:=fun σ H Q=>t σ H fun c H1=>if c=true then ta σ H1 Q else tb σ H1 Q
theorem z52 {c:Expr} (hc:PT X c tA) (ha:PE X a ta) (hb:PE X b tb):PE X (.IfExp c a b pos) (tIf tA ta tb):=by
 intro pins s σ H Q I h
 refine wpAny_IfExp (thn (hc pins s σ H _ I h) fun d s1 hh0=>?_)
 obtain⟨H1,I1,q1⟩:=hh0
 cases d with
 | true=>exact ha pins s1 σ H1 Q I1 q1
 | false=>exact hb pins s1 σ H1 Q I1 q1
end
noncomputable def SqL (K:PySem.W.Frag) (H:Hp) (a:Addr) (xs:List V):Prop:=
 Rd H a (.lst xs) \/
  ∃ (o:Obj) (its:Array Value) (n:Nat),K.lookup a=some o/\o.cls=.type "list" /\ o.dict=none/\o.data=.seq its n/\its.size<=sizeLine/\x2h xs its.toList
noncomputable def SqT (K:PySem.W.Frag) (H:Hp) (a:Addr) (xs:List V):Prop:=
 Rd H a (.tup xs) \/
  ∃ (o:Obj) (its:Array Value) (n:Nat),K.lookup a=some o/\o.cls=.type "tuple" /\ o.data=.seq its n/\its.size<=sizeLine/\x2h xs its.toList
noncomputable def j7u:Value->Option V
 | .none=>some .non
 | .bool b=>some (.bl b)
 | .int i _=>some (.int i)
 | .str x _=>some (.str x)
 | .bytes b _=>some (.byt b)
 | .float b _=>some (.flt b)
 | .ref a=>some (.ref a)
 | .type n=>some (.ty n)
 | _=>none
theorem x4k.abs {x:V} {u:Value} (r:x4k x u):j7u u=some x:=by
 cases x with
 | non=>cases r; rfl
 | bl _=>cases r; rfl
 | int _=>obtain⟨t,rfl⟩:=r; rfl
 | str _=>obtain⟨t,rfl⟩:=r; rfl
 | byt _=>obtain⟨t,rfl⟩:=r; rfl
 | flt _=>obtain⟨t,rfl⟩:=r; rfl
 | ref _=>cases r; rfl
 | ty _=>cases r; rfl
theorem x4k.inj {x y:V} {u:Value} (r:x4k x u) (q:x4k y u):x=y:=Option.some.inj (r.abs.symm.trans q.abs)
theorem x2h.inj:∀ {xs ys:List V} {us:List Value},x2h xs us->x2h ys us->xs=ys
 | _,_,_,.nil,.nil=>rfl
 | _,_,_,.cons r t,.cons r' t'=>by rw[r.inj r',x2h.inj t t']
section
variable {X:Cx} {pins:List (Addr × Obj)} {σ:St} {H:Hp} {s:Shared} {a:Addr} {xs ys:List V}
theorem SqL.of {K:PySem.W.Frag} (h:H a=some (.lst xs)):SqL K H a xs:=.inl (.inl h)
theorem SqT.of {K:PySem.W.Frag} (h:H a=some (.tup xs)):SqT K H a xs:=.inl (.inl h)
theorem Inv.list (I:Inv X pins σ H s) (h:SqL X.K H a xs):∃ its:List Value,x2h xs its/\PlainL s.heap a its.toArray/\xs.length<=sizeLine:=by
 rcases h with h | ⟨o,its,n,hk,hc,hd,hs,hz,r⟩
 ·obtain⟨z,its,n,r,e⟩:=h.ok I.hok
  exact⟨its,r,⟨_,n,e,rfl,rfl,rfl⟩,z⟩
 ·refine⟨its.toList,r,⟨o,n,I.kIn a o hk,hc,hd,by simpa using hs⟩,?_⟩
  have e:=r.length
  simp only[Array.length_toList]at e
  omega
theorem Inv.tuple (I:Inv X pins σ H s) (h:SqT X.K H a xs):∃ its:List Value,x2h xs its/\IsTup s.heap a its.toArray/\xs.length<=sizeLine:=by
 rcases h with h | ⟨o,its,n,hk,hc,hs,hz,r⟩
 ·obtain⟨z,its,r,p⟩:=h.ok I.hok
  exact⟨its,r,p.tup,z⟩
 ·refine⟨its.toList,r,⟨o,I.kIn a o hk,hc,n,by simpa using hs⟩,?_⟩
  have e:=r.length
  simp only[Array.length_toList]at e
  omega
theorem Inv.list_inj (I:Inv X pins σ H s) (h:SqL X.K H a xs) (h':SqL X.K H a ys):xs=ys:=by
 obtain⟨its,r,⟨o,n,e,_,_,d⟩,_⟩:=I.list h
 obtain⟨its',r',⟨o',n',e',_,_,d'⟩,_⟩:=I.list h'
 rw[e]at e'; cases e'
 rw[d]at d'
 injection d' with d1 _
 have:its=its':=by simpa using congrArg Array.toList d1
 subst this
 exact r.inj r'
theorem Inv.tuple_inj (I:Inv X pins σ H s) (h:SqT X.K H a xs) (h':SqT X.K H a ys):xs=ys:=by
 obtain⟨its,r,⟨o,e,_,n,d⟩,_⟩:=I.tuple h
 obtain⟨its',r',⟨o',e',_,n',d'⟩,_⟩:=I.tuple h'
 rw[e]at e'; cases e'
 rw[d]at d'
 injection d' with d1 _
 have:its=its':=by simpa using congrArg Array.toList d1
 subst this
 exact r.inj r'
end
noncomputable abbrev Cx.wish (X:Cx) (E:Value->Shared->Prop):Cx:={ X with xe:=E }
noncomputable abbrev Cx.nox (X:Cx):Cx:=X.wish fun _ _=>False
theorem Cx.Ok.wish {X:Cx} (ok:X.Ok) (E:Value->Shared->Prop):(X.wish E).Ok:=
 ⟨ok.mod,ok.kind,ok.glob,ok.blt,ok.above,ok.inj,ok.has,ok.cab,ok.hd,ok.frames,ok.stk,ok.exf,ok.bs,ok.bsz,ok.noex,ok.exfs,ok.funs,ok.frf⟩
theorem Cx.Ok.unwish {X:Cx} {E:Value->Shared->Prop} (ok:(X.wish E).Ok):X.Ok:=
 ⟨ok.mod,ok.kind,ok.glob,ok.blt,ok.above,ok.inj,ok.has,ok.cab,ok.hd,ok.frames,ok.stk,ok.exf,ok.bs,ok.bsz,ok.noex,ok.exfs,ok.funs,ok.frf⟩
section
variable {X:Cx} {pins:List (Addr × Obj)} {σ:St} {H:Hp} {s:Shared} {E:Value->Shared->Prop}
theorem Inv.wish (I:Inv X pins σ H s) (E:Value->Shared->Prop):Inv (X.wish E) pins σ H s:=⟨I.ok.wish E,I.os,I.bare,I.base,I.loc,I.cell,I.free,I.freeC,I.pin,I.hok,I.len⟩
theorem Inv.unwish (I:Inv (X.wish E) pins σ H s):Inv X pins σ H s:=⟨I.ok.unwish,I.os,I.bare,I.base,I.loc,I.cell,I.free,I.freeC,I.pin,I.hok,I.len⟩
theorem SP.unwish {D:Ends} {f:Flow} {s':Shared} (h:SP (X.wish E) pins D f s'):SP X pins D f s':=by
 cases f with
 | next=>obtain⟨σ',H',I,q⟩:=h; exact⟨σ',H',I.unwish,q⟩
 | brk=>obtain⟨σ',H',I,q⟩:=h; exact⟨σ',H',I.unwish,q⟩
 | cont=>obtain⟨σ',H',I,q⟩:=h; exact⟨σ',H',I.unwish,q⟩
 | ret u=>obtain⟨v,σ',H',I,r,q⟩:=h; exact⟨v,σ',H',I.unwish,r,q⟩
theorem PSs.nox {st:List Stmt} {t:TS} (h:PSs X.nox st t):PSs X st t:=fun pins s σ H D I hw=>
 wpAny_mono (h pins s σ H D (I.wish _) hw) (fun _ _ q=>q.unwish) fun _ _ z=>False.elim z
end
section
variable {X:Cx} {st:Stmt} {rest:List Stmt} {t u:TS} {e:Expr} {te:TE} {pos:Pos}
noncomputable def j4x:TS:=fun D σ H=>D.nx σ H
noncomputable def j72 (t u:TS):TS:=fun D σ H=>t { D with nx:=u D } σ H
theorem z6s:PSs X [] j4x:=fun _ _ σ H _ I h=>wpAny_execs_nil ⟨σ,H,I,h⟩
theorem y7i (h1:PS X st t) (h2:PSs X rest u):PSs X (st::rest) (j72 t u):=by
 intro pins s σ H D I h
 refine wpAny_execs_cons (thn (h1 pins s σ H { D with nx:=u D } I h) fun f s1 q=>?_)
 cases f with
 | next=>
  obtain⟨σ',H',I',q⟩:=q
  exact h2 pins s1 σ' H' D I' q
 | ret v=>exact q
 | brk=>exact q
 | cont=>exact q
theorem z1s (h1:PS X st t):PSs X [st] t:=by
 intro pins s σ H D I h
 refine wpAny_execs_cons (thn (h1 pins s σ H D I h) fun f s1 q=>?_)
 cases f with
 | next=>exact wpAny_execs_nil q
 | ret v=>exact q
 | brk=>exact q
 | cont=>exact q
noncomputable def j3r:TS:=fun D σ H=>D.bk σ H
theorem z4g:PS X (.Break pos) j3r:=fun _ _ σ H _ I h=>wpAny_Break ⟨σ,H,I,h⟩
theorem Inv.quiet {pins:List (Addr × Obj)} {σ:St} {H:Hp} {s:Shared} (I:Inv X pins σ H s):interactive X.env=false:=by simp[interactive,I.ok.kind]
noncomputable def j5u (te:TE):TS:=fun D σ H=>te σ H fun _ H1=>D.nx σ H1
theorem y9w (he:PE X e te) (hs:swapsWith e none pos.line X.env=pure false:=by rfl):PS X (.Expr e pos) (j5u te):=by
 intro pins s σ H D I h
 exact wpAny_Expr_any (thn (he pins s σ H _ I h) fun v s1 ⟨x,H1,I1,r1,q1⟩=>⟨σ,H1,I1,q1⟩) I.quiet hs
noncomputable def j7d (te:TE):TS:=fun D σ H=>te σ H D.rt
theorem j0u (he:PE X e te):PS X (.Return (some e) pos) (j7d te):=by
 intro pins s σ H D I h
 exact wpAny_Return_some (thn (he pins s σ H _ I h) fun v s1 ⟨x,H1,I1,r1,q1⟩=>⟨x,σ,H1,I1,r1,q1⟩)
noncomputable def j81 (c:TT) (t u:TS):TS:=fun D σ H=>c σ H fun b H1=>if b=true then t D σ H1 else u D σ H1
theorem j1l {c:Expr} {a b:List Stmt} {tc:TT} (hc:PT X c tc) (ha:PSs X a t) (hb:PSs X b u):PS X (.If c a b pos) (j81 tc t u):=by
 intro pins s σ H D I h
 refine wpAny_If (thn (hc pins s σ H _ I h) fun d s1 hh0=>?_)
 obtain⟨H1,I1,q1⟩:=hh0
 cases d with
 | true=>exact ha pins s1 σ H1 D I1 q1
 | false=>exact hb pins s1 σ H1 D I1 q1
noncomputable def j3m:TS:=fun _ _ _=>False
theorem z4t:PS X st j3m:=fun _ _ _ _ _ _ h=>h.elim
end
noncomputable abbrev TG:=V->St->Hp->(St->Hp->Prop)->Prop
noncomputable abbrev TGs:=List V->St->Hp->(St->Hp->Prop)->Prop
noncomputable def PG (X:Cx) (target:Expr) (t:TG):Prop:=
 ∀ (pins:List (Addr × Obj)) (s:Shared) (σ:St) (H:Hp) (v:V) (u:Value) (Q:St->Hp->Prop),Inv X pins σ H s->x4k v u->t v σ H Q->
  wpAny (model X.prog X.w) X.A (assign target X.env u) (fun _ s'=>∃ σ' H',Inv X pins σ' H' s'/\Q σ' H') X.xe s
noncomputable def PGs (X:Cx) (ts:List Expr) (t:TGs):Prop:=
 ∀ (pins:List (Addr × Obj)) (s:Shared) (σ:St) (H:Hp) (vs:List V) (us:List Value) (Q:St->Hp->Prop),Inv X pins σ H s->x2h vs us->t vs σ H Q->
  wpAny (model X.prog X.w) X.A (assignInOrder ((assignEach ts X.env).map (·.2)) us) (fun _ s'=>∃ σ' H',Inv X pins σ' H' s'/\Q σ' H') X.xe s
noncomputable abbrev j5w:=V->V->V->Hp->(Hp->Prop)->Prop
noncomputable def j6u (X:Cx) (t:j5w):Prop:=
 ∀ (pins:List (Addr × Obj)) (s:Shared) (σ:St) (H:Hp) (o i v:V) (ov iv u:Value) (Q:Hp->Prop),Inv X pins σ H s->x4k o ov->x4k i iv->x4k v u->t o i v H Q->
  wpAny (model X.prog X.w) X.A (setItem ov iv u) (fun _ s'=>∃ H',Inv X pins σ H' s'/\Q H') X.xe s
section
variable {X:Cx} {pos:Pos}
noncomputable def z7i (i:Nat):TG:=fun v σ H Q=>Q (σ.set i (some v)) H
theorem z98 {i:Nat} {x:Str} (hN:X.N.Nodup) (hi:X.N[i]? = some x) (hx:Loc X.env.scope x) (hf:X.fn x=true\/X.env.scope.names.lookup x=some .local:=by first | exact .inl rfl | exact .inr rfl | assumption):PG X (.Name x pos) (z7i i):=by
 intro pins s σ H v u Q I r h
 exact wpAny_assign_Name (y32 I hN hi hx r (fun s' I'=>⟨_,H,I',h⟩) hf)
noncomputable def j7m:TGs:=fun vs σ H Q=>vs=[]/\Q σ H
noncomputable def j4s (t:TG) (u:TGs):TGs:=fun vs σ H Q=>∃ v r,vs=v::r/\t v σ H fun σ' H'=>u r σ' H' Q
theorem z87:PGs X [] j7m:=by
 intro pins s σ H vs us Q I r h
 obtain⟨e,h⟩:=h
 subst e
 cases r
 exact assignInOrder_nil ⟨σ,H,I,h⟩
theorem z2e {e:Expr} {es:List Expr} {t:TG} {u:TGs} (h1:PG X e t) (h2:PGs X es u)
  (hs:(assignEach (e::es) X.env).map (·.2)=assign e X.env::(assignEach es X.env).map (·.2):=by rfl):PGs X (e::es) (j4s t u):=by
 intro pins s σ H vs us Q I r h
 obtain⟨v,vr,e1,h⟩:=h
 subst e1
 cases r with
 | cons r rr=>
  rw[hs]
  refine assignInOrder_cons (thn (h1 pins s σ H _ _ _ I r h) fun _ s1 hh0=>?_)
  obtain⟨σ1,H1,I1,q1⟩:=hh0
  exact h2 pins s1 σ1 H1 _ _ Q I1 rr q1
noncomputable def j7z (K:PySem.W.Frag) (n:Nat) (t:TGs):TG:=fun v σ H Q=>∃ a xs,v=.ref a/\SqT K H a xs/\xs.length=n/\t xs σ H Q
theorem j1p {es:List Expr} {k:Nat} {t:TGs} {n:Nat} (hc:X.calm=true) (h:PGs X es t)
  (hn:(assignEach es X.env).length=n:=by rfl) (hst:(assignEach es X.env).findIdx? (·.1)=none:=by rfl):PG X (.Tuple es k pos) (j7z X.K n t):=by
 intro pins s σ H v u Q I r hw
 obtain⟨a,xs,e1,hq,hl,hw⟩:=hw
 subst e1
 cases r
 obtain⟨its,rv,ht,hz⟩:=I.tuple hq
 refine assign_Tuple_tuple (I.ok.hd hc) ht (by simp[hn,<- hl,rv.length]) hst fun h' hx=>?_
 have I1:Inv X pins σ H { s with heap:=h' }:=I.kept (t':=s.toks) fun b o e=>hx b o (Nat.ne_of_lt (Heap.lt_size e)) e
 exact h pins _ σ H xs _ Q I1 (by simpa using rv) hw
noncomputable def j7g (to ti:TE) (t:j5w):TG:=fun v σ H Q=>to σ H fun o H1=>ti σ H1 fun i H2=>t o i v H2 fun H3=>Q σ H3
theorem j29 {o i:Expr} {to ti:TE} {t:j5w} (ho:PE X o to) (hi:PE X i ti) (hs:j6u X t)
  (ha:∀ v,assign (.Subscript o i pos) X.env v=(do
    let ov <- holding [v] (eval o X.env)
    let iv <- holding [v,ov] (eval i X.env)
    standAt pos
    holding [v,ov,iv] (setItem ov iv v)
    release [v,ov,iv] []):=by intro _; rfl):PG X (.Subscript o i pos) (j7g to ti t):=by
 intro pins s σ H v u Q I r h
 rw[ha]
 refine wpAny_bind (wpAny_holding (thn (ho pins s σ H _ I h) fun ov s1 hh0=>?_))
 obtain⟨x,H1,I1,r1,q1⟩:=hh0
 refine wpAny_bind (wpAny_holding (thn (hi pins s1 σ H1 _ I1 q1) fun iv s2 hh0=>?_))
 obtain⟨y,H2,I2,r2,q2⟩:=hh0
 refine wpAny_bind (wpAny_standAt (wpAny_bind (wpAny_holding (thn (hs pins s2 σ H2 x y v ov iv u _ I2 r1 r2 r q2) fun _ s3 hh0=>?_))))
 obtain⟨H3,I3,q3⟩:=hh0
 exact wpAny_release ⟨σ,H3,I3,q3⟩
noncomputable def j5d (te:TE) (g:TG):TS:=fun D σ H=>te σ H fun x H1=>g x σ H1 D.nx
theorem z5s {tg e:Expr} {te:TE} {g:TG} (he:PE X e te) (hg:PG X tg g) (hs:swapsWithSole [tg] e pos.line X.env=pure false:=by rfl) (hw:swappedStores [tg] e X.env=pure none:=by rfl)
  (h1:(assignEach [tg] X.env).map (·.2)=[assign tg X.env]:=by rfl):PS X (.Assign [tg] e pos) (j5d te g):=by
 intro pins s σ H D I h
 refine wpAny_Assign_stores (thn (he pins s σ H _ I h) fun v s1 ⟨x,H1,I1,r1,q1⟩=>?_) hs hw
 rw[h1]
 exact thn (hg pins s1 σ H1 x v _ I1 r1 q1) fun _ s2 q=>q
theorem z68 {i:Nat} {x:Str} {e:Expr} {te:TE} {pos':Pos} (hN:X.N.Nodup) (hi:X.N[i]? = some x) (hx:Loc X.env.scope x) (he:PE X e te) (hs:swapsWith e (some (.Name x pos')) pos.line X.env=pure false:=by rfl) (hf:X.fn x=true\/X.env.scope.names.lookup x=some .local:=by first | exact .inl rfl | exact .inr rfl | assumption) :
  PS X (.Assign [.Name x pos'] e pos) (j5d te (z7i i)):=by
 intro pins s σ H D I h
 refine wpAny_Assign_Name (thn (he pins s σ H _ I h) fun v s1 ⟨y,H1,I1,r1,q1⟩=>?_) hs
 exact y32 I1 hN hi hx r1 (fun s2 I2=>⟨_,H1,I2,q1⟩) hf
end
section
variable {X:Cx} {pos:Pos}
noncomputable def j2y (c:TT) (tb:TS):TS:=fun D σ H=>∃ W:Nat->St->Hp->Prop,(∃ m,W m σ H)/\∀ m σ H,W m σ H->
 c σ H fun b H1=>if b=true then ∃ N:St->Hp->Prop,(∀ σ' H',N σ' H'->∃ m',m'<m/\W m' σ' H')/\tb { D with nx:=N,ct:=N,bk:=D.nx } σ H1 else D.nx σ H1
theorem z39 {c:Expr} {body:List Stmt} {tc:TT} {tb:TS} (hp:PassesOwn (model X.prog X.w) X.A X.env X.xe) (hc:PT X c tc) (hb:PSs X body tb):PS X (.While c body [] pos) (j2y tc tb):=by
 intro pins s σ H D I h
 obtain⟨W,⟨m0,w0⟩,turn⟩:=h
 refine wpAny_While (codeAny_whileLoop (fun n s'=>∃ σ' H',Inv X pins σ' H' s'/\W n σ' H') ?_ m0 ⟨σ,H,I,w0⟩)
 rintro n s1 ⟨σ1,H1,I1,w1⟩
 refine wpAny_passesOwn hp (thn (hc pins s1 σ1 H1 _ I1 (turn n σ1 H1 w1)) fun b s2 hh0=>?_)
 obtain⟨H2,I2,q2⟩:=hh0
 cases b with
 | true=>
  obtain⟨N,hN,q2⟩:=q2
  rw[if_pos rfl]
  refine wpAny_passesOwn hp (thn (hb pins s2 σ1 H2 _ I2 q2) fun f s3 q3=>?_)
  cases f with
  | next=>
   obtain⟨σ3,H3,I3,n3⟩:=q3
   obtain⟨m',hm,w3⟩:=hN σ3 H3 n3
   exact⟨m',hm,σ3,H3,I3,w3⟩
  | cont=>
   obtain⟨σ3,H3,I3,n3⟩:=q3
   obtain⟨m',hm,w3⟩:=hN σ3 H3 n3
   exact⟨m',hm,σ3,H3,I3,w3⟩
  | brk=>exact q3
  | ret v=>exact q3
 | false=>
  rw[if_neg Bool.false_ne_true]
  exact wpAny_execs_nil ⟨σ1,H2,I2,q2⟩
end
structure It where
 go:Nat->Hp->Prop
 yld:Nat->Hp->V->Hp->Prop
 stop:Nat->Hp->Prop
noncomputable def y9a (X:Cx) (pins:List (Addr × Obj)) (H:Hp) (b:Addr):Prop:=
 H b=none/\b≠X.env.locals/\b ∉ X.fs/\(b∈X.ex\/X.s₀.heap.objs.size<=b)/\(∀ x c,X.env.cells.lookup x=some c->c≠b)/\∀ p∈X.pn++pins,p.1≠b
theorem Inv.fpOk {X:Cx} {pins:List (Addr × Obj)} {σ:St} {H H':Hp} {s:Shared} {b:Addr} (I:Inv X pins σ H s) (hb:s.heap.objs.size<=b) (hn:H' b=none):y9a X pins H' b:=by
 refine⟨hn,Nat.ne_of_gt (Nat.lt_of_lt_of_le I.lt hb),I.nofs hb,.inr (Nat.le_trans I.sz hb),fun x c e z=>?_,fun p hp z=>?_⟩
 ·obtain⟨v,q⟩:=I.cell x c e
  exact absurd (Nat.lt_of_lt_of_le q.lt (by rw[z]; exact hb)) (Nat.lt_irrefl _)
 ·exact absurd (Nat.lt_of_lt_of_le (Heap.lt_size (I.pin p hp).1) (by rw[z]; exact hb)) (Nat.lt_irrefl _)
structure Turn (P:Program) (w:World) (K:PySem.W.Frag) (tg:Expr) (J:It) (fp:List Addr) (it:Addr) (tn:Nat->Heap->Prop):Prop where
 mem:it∈fp
 obj:∀ i h,tn i h->∀ b∈fp,∃ o,h.get? b=some o/\∀ v,o.data ≠ .cell v
 keep:∀ i h h',tn i h->(∀ b∈fp,∀ o,h.get? b=some o->h'.get? b=some o)->tn i h'
 item:∀ (X:Cx),X.prog=P->X.w=w->X.K=K->X.calm=true->∀ (i:Nat) (pins:List (Addr × Obj)) (s:Shared) (σ:St) (H:Hp) (E:Value->Shared->Prop),Inv X pins σ H s->(∀ b∈fp,y9a X pins H b)->tn i s.heap->J.go i H->
  wpAny (model P w) X.A (pyNext (.ref it)) (fun r s1=>∃ u,r=some u /\
   wpAny (model P w) X.A (letOwnedTupleGo tg (.ref it) u) (fun _ s2=>∃ x H',Inv X pins σ H' s2/\x4k x u/\J.yld i H x H'/\tn (i+1) s2.heap/\∀ b∈fp,H' b=none) E s1) E s
 done:∀ (X:Cx),X.prog=P->X.w=w->X.K=K->X.calm=true->∀ (i:Nat) (pins:List (Addr × Obj)) (s:Shared) (σ:St) (H:Hp) (E:Value->Shared->Prop),Inv X pins σ H s->(∀ b∈fp,y9a X pins H b)->tn i s.heap->J.stop i H->
  wpAny (model P w) X.A (pyNext (.ref it)) (fun r s1=>r=none/\Inv X pins σ H s1) E s
 self:∀ (A:Around) (i:Nat) (s:Shared) (Q:Value->Shared->Prop) (E:Value->Shared->Prop),tn i s.heap->Q (.ref it) s->wpAny (model P w) A (pyIter (.ref it)) Q E s
noncomputable abbrev TI:=St->Hp->(It->Hp->Prop)->Prop
noncomputable def PIE (X:Cx) (pins:List (Addr × Obj)) (σ:St) (tg:Expr) (R:It->Hp->Prop) (itv:Value) (s2:Shared):Prop:=
 ∃ (it:Addr) (fp:List Addr) (tn:Nat->Heap->Prop) (J:It) (H':Hp),itv=.ref it/\Inv X pins σ H' s2/\Turn X.prog X.w X.K tg J fp it tn/\tn 0 s2.heap/\(∀ b∈fp,y9a X pins H' b)/\R J H'
noncomputable def PI (X:Cx) (tg iter:Expr) (wi:TI):Prop:=
 ∀ (pins:List (Addr × Obj)) (s:Shared) (σ:St) (H:Hp) (R:It->Hp->Prop),Inv X pins σ H s->wi σ H R->
  wpAny (model X.prog X.w) X.A (eval iter X.env) (fun v s1=>wpAny (model X.prog X.w) X.A (pyIter v) (PIE X pins σ tg R) X.xe s1) X.xe s
theorem z9m {M:Model} {A:Around} {E:Value->Shared->Prop} {s:Shared} {tg:Expr} {it:Addr} {u:Value} {o:Obj} {n:String} {vs:Array Value} {Q:Unit->Shared->Prop} (ho:s.heap.get? it=some o) (hc:o.cls=.type n) (hd:o.data=.fields vs)
  (hn:["enumerate","zip","dict_itemiterator","dict_reverseitemiterator","odict_iterator","itertools.zip_longest","itertools.pairwise"].contains n=false) (hQ:Q () s):wpAny M A (letOwnedTupleGo tg (.ref it) u) Q E s:=by
 unfold letOwnedTupleGo
 cases tg <;> first
  | exact wpAny_pure hQ
  | (cases u <;> first
      | exact wpAny_pure hQ
      | (refine wpAny_bind (wpAny_load ho ?_)
         rw[hc,hd]
         show wpAny M A (if(["enumerate","zip","dict_itemiterator","dict_reverseitemiterator","odict_iterator","itertools.zip_longest","itertools.pairwise"].contains n && vs[0]? == some (rawInt _))=true then _ else _) Q E s
         rw[if_neg (by intro h; rw[hn,Bool.false_and]at h; cases h)]
         exact wpAny_pure hQ))
noncomputable def Itl (K:PySem.W.Frag) (a:Addr):It:=
 ⟨fun i H=>∃ xs x,SqL K H a xs/\xs[i]? = some x,fun i H x H'=>H'=H/\∀ xs,SqL K H a xs->xs[i]? = some x,fun i H=>∃ xs,SqL K H a xs/\xs.length<=i⟩
noncomputable def Itt (K:PySem.W.Frag) (a:Addr):It:=
 ⟨fun i H=>∃ xs x,SqT K H a xs/\xs[i]? = some x,fun i H x H'=>H'=H/\∀ xs,SqT K H a xs->xs[i]? = some x,fun i H=>∃ xs,SqT K H a xs/\xs.length<=i⟩
noncomputable def Itr (lo:Int) (n:Nat):It:=⟨fun i _=>i<n,fun i H x H'=>H'=H/\x=.int (lo+i),fun i _=>n<=i⟩
theorem z00 {P:Program} {w:World} {K:PySem.W.Frag} {tg:Expr} (a it:Addr):Turn P w K tg (Itl K a) [it] it (fun i h=>h.IsListIter it a i) where
 mem:=by simp
 obj:=fun i h st b hb=>by
  have e:b=it:=by simpa using hb
  subst e
  obtain⟨o,e,c,d⟩:=st
  exact⟨o,e,fun v z=>by rw[d]at z; cases z⟩
 keep:=fun i h h' st k=>st.at fun o e=>k it (by simp) o e
 item:=by
  intro X hP hw hK hc i pins s σ H E I hf st hg
  subst hP hw hK
  obtain⟨xs,x,hq,hx⟩:=hg
  obtain⟨its,rv,p,hz⟩:=I.list hq
  obtain⟨u,hu,ru⟩:=rv.get hx
  obtain⟨f0,f1,f2,f3,f4,f5⟩:=hf it (by simp)
  refine wpAny_pyNext_list_item st p.isList (x:=u) (by simpa using hu) fun h' st' sb=>?_
  have I1:Inv X pins σ H { s with heap:=h' }:=I.turned (t':=s.toks) (fun b o hb e=>(sb.2 b hb).trans e) f0 f1 f3 f4 f5
  obtain⟨o,e,c,d⟩:=id st'
  exact⟨u,rfl,z9m (s:={ s with heap:=h' }) e c d (by decide) ⟨x,H,I1,ru,⟨rfl,fun ys hy=>by rw[I.list_inj hy hq]; exact hx⟩,st',fun b hb=>(hf b hb).1⟩⟩
 done:=by
  intro X hP hw hK hc i pins s σ H E I hf st hg
  subst hP hw hK
  obtain⟨xs,hq,hx⟩:=hg
  obtain⟨its,rv,p,hz⟩:=I.list hq
  obtain⟨f0,f1,f2,f3,f4,f5⟩:=hf it (by simp)
  have hl:=rv.length
  exact wpAny_pyNext_list_end (I.ok.hd hc) st p.isList (by simp; omega) fun h' eb=>⟨rfl,I.turned (t':=s.toks) (fun b o hb e=>eb b o hb e) f0 f1 f3 f4 f5⟩
 self:=fun _ _ _ _ _ st h=>wpAny_pyIter_listiter st h
theorem y7p {P:Program} {w:World} {K:PySem.W.Frag} {tg:Expr} (a it:Addr):Turn P w K tg (Itt K a) [it] it (fun i h=>h.IsTupleIter it a i) where
 mem:=by simp
 obj:=fun i h st b hb=>by
  have e:b=it:=by simpa using hb
  subst e
  obtain⟨o,e,c,d⟩:=st
  exact⟨o,e,fun v z=>by rw[d]at z; cases z⟩
 keep:=fun i h h' st k=>st.at fun o e=>k it (by simp) o e
 item:=by
  intro X hP hw hK hc i pins s σ H E I hf st hg
  subst hP hw hK
  obtain⟨xs,x,hq,hx⟩:=hg
  obtain⟨its,rv,p,hz⟩:=I.tuple hq
  obtain⟨u,hu,ru⟩:=rv.get hx
  obtain⟨f0,f1,f2,f3,f4,f5⟩:=hf it (by simp)
  refine wpAny_pyNext_tuple_item st (show s.heap.IsTuple a its.toArray from p) (x:=u) (by simpa using hu) fun h' st' sb=>?_
  have I1:Inv X pins σ H { s with heap:=h' }:=I.turned (t':=s.toks) (fun b o hb e=>(sb.2 b hb).trans e) f0 f1 f3 f4 f5
  obtain⟨o,e,c,d⟩:=id st'
  exact⟨u,rfl,z9m (s:={ s with heap:=h' }) e c d (by decide) ⟨x,H,I1,ru,⟨rfl,fun ys hy=>by rw[I.tuple_inj hy hq]; exact hx⟩,st',fun b hb=>(hf b hb).1⟩⟩
 done:=by
  intro X hP hw hK hc i pins s σ H E I hf st hg
  subst hP hw hK
  obtain⟨xs,hq,hx⟩:=hg
  obtain⟨its,rv,p,hz⟩:=I.tuple hq
  obtain⟨f0,f1,f2,f3,f4,f5⟩:=hf it (by simp)
  have hl:=rv.length
  exact wpAny_pyNext_tuple_end (I.ok.hd hc) st (show s.heap.IsTuple a its.toArray from p) (by simp; omega) fun h' eb=>⟨rfl,I.turned (t':=s.toks) (fun b o hb e=>eb b o hb e) f0 f1 f3 f4 f5⟩
 self:=fun _ _ _ _ _ st h=>wpAny_pyIter_tupleiter st h
theorem y7t {P:Program} {w:World} {K:PySem.W.Frag} {tg:Expr} (it:Addr) (lo:Int) (n:Nat):Turn P w K tg (Itr lo n) [it] it (fun i h=>IsRangeIter h it (lo+(i:Nat)*1) ((n:Int)-(i:Nat)) 1) where
 mem:=by simp
 obj:=fun i h st b hb=>by
  have e:b=it:=by simpa using hb
  subst e
  exact⟨_,st,fun v z=>by
   have z':Data.fields _=Data.cell v:=z
   cases z'⟩
 keep:=fun i h h' st k=>k it (by simp) _ st
 item:=by
  intro X hP hw hK hc i pins s σ H E I hf st hg
  subst hP hw hK
  obtain⟨f0,f1,f2,f3,f4,f5⟩:=hf it (by simp)
  have W:=Walks.range (prog:=X.prog) (w:=X.w) (I.ok.hd hc) it lo 1 n
  refine W.item i s _ _ hg st fun v h' tk hv st' kk=>?_
  obtain⟨t,rfl⟩:=hv
  have I1:Inv X pins σ H { s with heap:=h',toks:=tk }:=I.turned (fun b o hb e=>kk b o (by simpa using hb) e) f0 f1 f3 f4 f5
  refine⟨_,rfl,z9m (s:={ s with heap:=h',toks:=tk }) (n:="range_iterator") st' rfl rfl (by decide) ⟨.int (lo+i),H,I1,⟨t,?_⟩,⟨rfl,rfl⟩,st',fun b hb=>(hf b hb).1⟩⟩
  rw[Int.mul_one]
 done:=by
  intro X hP hw hK hc i pins s σ H E I hf st hg
  subst hP hw hK
  obtain⟨f0,f1,f2,f3,f4,f5⟩:=hf it (by simp)
  exact wpAny_pyNext_range_end (I.ok.hd hc) st (by have:n<=i:=hg; omega) fun h' eb=>⟨rfl,I.turned (t':=s.toks) (fun b o hb e=>eb b o hb e) f0 f1 f3 f4 f5⟩
 self:=fun _ _ _ _ _ st h=>wpAny_pyIter_rangeiter st h
section
variable {X:Cx} {tg:Expr}
theorem y6o {pins:List (Addr × Obj)} {σ:St} {H:Hp} {s:Shared} {R:It->Hp->Prop} {E:Value->Shared->Prop} {lo hi:Int} {t u v:Tok} {tk:Nat} (I:Inv X pins σ H s) (h1:-(2 ^ 62)<=lo) (h2:lo<2 ^ 62) (h3:-(2 ^ 62)<=hi) (h4:hi<2 ^ 62)
  (q:R (Itr lo (hi-lo).toNat) H):wpAny (model X.prog X.w) X.A (pyIter (.ref s.heap.objs.size)) (PIE X pins σ tg R) E { s with heap:=s.heap.push { cls:=.type "range",data:=.fields #[.int lo t,.int hi u,.int 1 v] },toks:=tk }:=by
 refine wpAny_pyIter_range (IsRange.new ..) (small_one h1 h2 h3 h4) ?_
 have I1:Inv X pins σ H { s with heap:=s.heap.push { cls:=.type "range",data:=.fields #[.int lo t,.int hi u,.int 1 v] },toks:=tk }:=I.kept fun b o e=>Heap.get?_push_of_some _ e
 refine⟨(s.heap.push { cls:=.type "range",data:=.fields #[.int lo t,.int hi u,.int 1 v] }).objs.size,[(s.heap.push { cls:=.type "range",data:=.fields #[.int lo t,.int hi u,.int 1 v] }).objs.size],_,_,H,rfl,
  I1.kept (t':=tk) fun b o e=>Heap.get?_push_of_some _ e,y7t _ lo (hi-lo).toNat,?_,fun b hb=>?_,q⟩
 ·have e1:lo+((0:Nat):Int)*1=lo:=by simp
  have e2:(((hi-lo).toNat:Nat):Int)-((0:Nat):Int)=Builtin.Range.rangeSize lo hi 1:=by rw[rangeSize_one]; split <;> omega
  show IsRangeIter _ _ (lo+((0:Nat):Int)*1) ((((hi-lo).toNat:Nat):Int)-((0:Nat):Int)) 1
  rw[e1,e2]
  exact Heap.get?_push_size _ rfl
 ·have e:b=(s.heap.push { cls:=.type "range",data:=.fields #[.int lo t,.int hi u,.int 1 v] }).objs.size:=by simpa using hb
  subst e
  exact I1.fpOk (Nat.le_refl _) (I1.hok.fresh (Nat.le_refl _))
noncomputable def j5n (ta:TA):TI:=fun σ H R=>ta σ H fun vs H1=>∃ j:Int,vs=[.int j] /\ -(2 ^ 62)<=j/\j<2 ^ 62/\R (Itr 0 j.toNat) H1
noncomputable def j5x (ta:TA):TI:=fun σ H R=>ta σ H fun vs H1=>∃ i j:Int,vs=[.int i,.int j]/\(-(2 ^ 62)<=i/\i<2 ^ 62 /\ -(2 ^ 62)<=j/\j<2 ^ 62)/\R (Itr i (j-i).toNat) H1
theorem z1z {a:Expr} {ta:TA} {p pos:Pos} (hg:Gl X "range") (hm:X.mg "range" = none) (ha:PA X [a] ta) (hs:starEach [a] X.env=[(false,eval a X.env)]:=by rfl):PI X tg (.Call (.Name "range" p) [a] [] pos) (j5n ta):=by
 intro pins s σ H R I h
 refine Call_ (y0m I hg hm boot_range (PyProof.Rows.callWith_type1 (thn (ha pos pins s σ H _ I h) fun us s1 ⟨vs,H1,I1,r1,q1⟩=>?_) hs rfl))
 obtain⟨j,e,q1,q2,q⟩:=q1
 subst e
 cases r1 with
 | cons r rr=>
  cases rr
  obtain⟨t,rfl⟩:=r
  exact call_range_1 (y6o I1 (by omega) (by omega) q1 q2 (by simpa using q))
theorem y9g {a b:Expr} {ta:TA} {p pos:Pos} (hg:Gl X "range") (hm:X.mg "range" = none) (ha:PA X [a,b] ta) (hs:starEach [a,b] X.env=[(false,eval a X.env),(false,eval b X.env)]:=by rfl) (hs2:starEach [b] X.env=[(false,eval b X.env)]:=by rfl) :
  PI X tg (.Call (.Name "range" p) [a,b] [] pos) (j5x ta):=by
 intro pins s σ H R I h
 refine Call_ (y0m I hg hm boot_range (PyProof.Rows.callWith_type1 (thn (ha pos pins s σ H _ I h) fun us s1 ⟨vs,H1,I1,r1,q1⟩=>?_) (by rw[hs,hs2]) (by rw[hs2]; rfl)))
 obtain⟨i,j,e,⟨q1,q2,q3,q4⟩,q⟩:=q1
 subst e
 cases r1 with
 | cons r rr=>
  cases rr with
  | cons r' rr=>
   cases rr
   obtain⟨t,rfl⟩:=r
   obtain⟨t',rfl⟩:=r'
   exact call_range_2 (y6o I1 q1 q2 q3 q4 q)
noncomputable def j7e (wi:TI) (g:TG) (tb:TS):TS:=fun D σ H=>wi σ H fun J H1=>∃ W:Nat->Nat->St->Hp->Prop,(∃ m,W 0 m σ H1)/\∀ i m σ H,W i m σ H->
 (J.stop i H/\D.nx σ H)\/(J.go i H/\∃ N:St->Hp->Prop,(∀ σ' H',N σ' H'->∃ m',m'<m/\W (i+1) m' σ' H')/\∀ x H',J.yld i H x H'->g x σ H' fun σ2 H2=>tb { D with nx:=N,ct:=N,bk:=D.nx } σ2 H2)
noncomputable def x9d (fp:List Addr) (h:Heap):List (Addr × Obj):=fp.filterMap fun b=>(h.get? b).map fun o=>(b,o)
theorem x6r {fp:List Addr} {h:Heap} {b:Addr} {o:Obj} (hb:b∈fp) (e:h.get? b=some o):(b,o)∈x9d fp h:=List.mem_filterMap.mpr ⟨b,hb,by rw[e]; rfl⟩
theorem y46 {fp:List Addr} {h:Heap} {p:Addr × Obj} (hp:p∈x9d fp h):p.1∈fp/\h.get? p.1=some p.2:=by
 obtain⟨b,hb,e⟩:=List.mem_filterMap.mp hp
 cases q:h.get? b with
 | none=>rw[q]at e; cases e
 | some o=>
  rw[q]at e
  have e':(b,o)=p:=Option.some.inj e
  subst e'
  exact⟨hb,q⟩
theorem Inv.pinned {pins:List (Addr × Obj)} {σ:St} {H:Hp} {s:Shared} {fp:List Addr} (I:Inv X pins σ H s) (hf:∀ b∈fp,y9a X pins H b) (ho:∀ b∈fp,∃ o,s.heap.get? b=some o/\∀ v,o.data ≠ .cell v):Inv X (pins++x9d fp s.heap) σ H s:=
 I.pins_of fun p hp=>(List.mem_append.mp hp).elim (fun z=>I.pin p (List.mem_append_right _ z)) fun z=>by
  obtain⟨hb,e⟩:=y46 z
  obtain⟨f0,f1,f2,_⟩:=hf p.1 hb
  obtain⟨o,e',d⟩:=ho p.1 hb
  rw[e]at e'; cases e'
  exact⟨e,f0,f1,f2,d⟩
theorem Inv.unpinned {pins pl:List (Addr × Obj)} {σ:St} {H:Hp} {s:Shared} (I:Inv X (pins++pl) σ H s):Inv X pins σ H s:=I.pins_of fun p hp=>I.pin p (List.mem_append_right _ (List.mem_append_left _ hp))
theorem j46 {iter:Expr} {body:List Stmt} {wi:TI} {g:TG} {tb:TS} {pos:Pos} (hp:PassesOwn (model X.prog X.w) X.A X.env X.xe) (hc:X.calm=true) (hi:PI X tg iter wi) (hg:PG X tg g) (hb:PSs X body tb)
  (hs:∀ x,foldedSetIterable iter X.env x=pure x:=by intro _; rfl):PS X (.For tg iter body [] pos) (j7e wi g tb):=by
 intro pins s σ H D I h
 refine wpAny_For (thn (hi pins s σ H _ I h) fun v s1 h1=>thn h1 fun itv s2 h2=>?_) hs
 obtain⟨it,fp,tn,J,H2,e,I2,T,st2,f2,W,⟨m0,w0⟩,turn⟩:=h2
 subst e
 -- what stays true of the iterator's objects through the loop
 have stat:∀ {H':Hp},(∀ b∈fp,H' b=none)->∀ b∈fp,y9a X pins H' b:=fun hn b hb=>⟨hn b hb,(f2 b hb).2⟩
 refine codeAny_forLoop_any (fun n s'=>∃ i σ' H',Inv X pins σ' H' s'/\tn i s'.heap/\(∀ b∈fp,H' b=none)/\W i n σ' H') ?_ m0 ⟨0,σ,H2,I2,st2,fun b hb=>(f2 b hb).1,w0⟩
 rintro n s3 ⟨i,σ3,H3,I3,st3,fr3,w3⟩
 rcases turn i n σ3 H3 w3 with⟨stop,qn⟩ | ⟨go,N,hN,step⟩
 ·refine wpAny_passesOwn hp (thn (T.done X rfl rfl rfl hc i pins s3 σ3 H3 X.xe I3 (stat fr3) st3 stop) fun r s4 ⟨hr,I4⟩=>?_)
  subst hr
  exact wpAny_execs_nil ⟨σ3,H3,I4,qn⟩
 ·refine wpAny_passesOwn hp (thn (T.item X rfl rfl rfl hc i pins s3 σ3 H3 X.xe I3 (stat fr3) st3 go) fun r s4 ⟨u,hr,h4⟩=>?_)
  subst hr
  refine wpAny_passesOwn hp (thn h4 fun _ s5 hh0=>?_)
  obtain⟨x,H5,I5,r5,y5,st5,fr5⟩:=hh0
  have I5':=I5.pinned (stat fr5) (T.obj _ _ st5)
  refine wpAny_passesOwn hp (thn (hg _ s5 σ3 H5 x u _ I5' r5 (step x H5 y5)) fun _ s6 hh0=>?_)
  obtain⟨σ6,H6,I6,q6⟩:=hh0
  refine wpAny_passesOwn hp (thn (hb _ s6 σ6 H6 _ I6 q6) fun f s7 q7=>?_)
  have again:∀ {σ7:St} {H7:Hp},Inv X (pins++x9d fp s5.heap) σ7 H7 s7->N σ7 H7->∃ m,m<n/\∃ i σ' H',Inv X pins σ' H' s7/\tn i s7.heap/\(∀ b∈fp,H' b=none)/\W i m σ' H':=fun {σ7 H7} I7 n7=>by
   obtain⟨m',hm,w7⟩:=hN σ7 H7 n7
   refine⟨m',hm,i+1,σ7,H7,I7.unpinned,T.keep _ _ _ st5 fun b hb o e=>(I7.pin (b,o) (List.mem_append_right _ (List.mem_append_right _ (x6r hb e)))).1,fun b hb=>?_,w7⟩
   obtain⟨o,e,d⟩:=T.obj _ _ st5 b hb
   exact(I7.pin (b,o) (List.mem_append_right _ (List.mem_append_right _ (x6r hb e)))).2.1
  cases f with
  | next=>obtain⟨σ7,H7,I7,n7⟩:=q7; exact again I7 n7
  | cont=>obtain⟨σ7,H7,I7,n7⟩:=q7; exact again I7 n7
  | brk=>obtain⟨σ7,H7,I7,q7⟩:=q7; exact⟨σ7,H7,I7.unpinned,q7⟩
  | ret v=>obtain⟨x7,σ7,H7,I7,r7,q7⟩:=q7; exact⟨x7,σ7,H7,I7.unpinned,r7,q7⟩
end
noncomputable abbrev R2:=V->V->Hp->VK->Prop
noncomputable def OpR (X:Cx) (f:Value->Value->Sem Value) (r:R2):Prop:=
 ∀ (pins:List (Addr × Obj)) (s:Shared) (σ:St) (H:Hp) (x y:V) (v u:Value) (Q:VK),Inv X pins σ H s->x4k x v->x4k y u->r x y H Q->
  wpAny (model X.prog X.w) X.A (f v u) (EP X pins σ Q) X.xe s
noncomputable def UnR (X:Cx) (f:Value->Sem Value) (r:V->Hp->VK->Prop):Prop:=
 ∀ (pins:List (Addr × Obj)) (s:Shared) (σ:St) (H:Hp) (x:V) (v:Value) (Q:VK),Inv X pins σ H s->x4k x v->r x H Q->
  wpAny (model X.prog X.w) X.A (f v) (EP X pins σ Q) X.xe s
noncomputable def x94 (X:Cx) (f:Value) (r:List V->Hp->VK->Prop):Prop:=
 ∀ (pins:List (Addr × Obj)) (s:Shared) (σ:St) (H:Hp) (xs:List V) (us:List Value) (Q:VK),Inv X pins σ H s->x2h xs us->r xs H Q->
  wpAny (model X.prog X.w) X.A (call f us) (EP X pins σ Q) X.xe s
noncomputable def j7a (X:Cx) (r:V->Hp->(Bool->Hp->Prop)->Prop):Prop:=
 ∀ (pins:List (Addr × Obj)) (s:Shared) (σ:St) (H:Hp) (x:V) (v:Value) (Q:Bool->Hp->Prop),Inv X pins σ H s->x4k x v->r x H Q->
  wpAny (model X.prog X.w) X.A (truthy v) (TP X pins σ Q) X.xe s
noncomputable def tOp (r:R2) (ta tb:TE):TE:=fun σ H Q=>ta σ H fun x H1=>tb σ H1 fun y H2=>r x y H2 Q
noncomputable def tUn (r:V->Hp->VK->Prop) (ta:TE):TE:=fun σ H Q=>ta σ H fun x H1=>r x H1 Q
noncomputable def rI (C:Int->Int->Prop) (g:Int->Int->V):R2:=fun x y H Q=>∃ i j,x=.int i/\y=.int j/\C i j/\Q (g i j) H
noncomputable def rI0 (g:Int->Int->V):R2:=fun x y H Q=>∃ i j,x=.int i/\y=.int j/\Q (g i j) H
noncomputable def rU (g:Int->V):V->Hp->VK->Prop:=fun x H Q=>∃ i,x=.int i/\Q (g i) H
section
variable {X:Cx} {a b c:Expr} {ta tb tc:TE} {pos:Pos}
theorem j64 (ha:PE X a ta) (hb:PE X b tb) {pins:List (Addr × Obj)} {s:Shared} {σ:St} {H:Hp} {R:V->V->Hp->Prop} (I:Inv X pins σ H s)
  (h:ta σ H fun x H1=>tb σ H1 fun y H2=>R x y H2) {Q:Value->Shared->Prop} {f:Value->Value->Sem Value}
  (hf:∀ v u s2 x y H2,Inv X pins σ H2 s2->x4k x v->x4k y u->R x y H2->wpAny (model X.prog X.w) X.A (f v u) Q X.xe s2) :
  wpAny (model X.prog X.w) X.A (eval a X.env) (fun v s₁=>wpAny (model X.prog X.w) X.A (eval b X.env) (fun u s₂=>wpAny (model X.prog X.w) X.A (f v u) Q X.xe s₂) X.xe s₁) X.xe s:=by
 refine thn (ha pins s σ H _ I h) fun v s1 hh0=>?_
 obtain⟨x,H1,I1,r1,q1⟩:=hh0
 refine thn (hb pins s1 σ H1 _ I1 q1) fun u s2 hh0=>?_
 obtain⟨y,H2,I2,r2,q2⟩:=hh0
 exact hf v u s2 x y H2 I2 r1 r2 q2
theorem y3f {op:Operator} {r:R2} (ho:OpR X (binaryOp op) r) (ha:PE X a ta) (hb:PE X b tb):PE X (.BinOp a op b pos) (tOp r ta tb):=by
 intro pins s σ H Q I h
 exact wpAny_BinOp (j64 ha hb I h fun v u s2 x y H2 I2 rx ry q=>ho pins s2 σ H2 x y v u Q I2 rx ry q)
theorem j5f {op:UnaryOp} {r:V->Hp->VK->Prop} (ho:UnR X (unaryOp op) r) (ha:PE X a ta):PE X (.UnaryOp op a pos) (tUn r ta):=by
 intro pins s σ H Q I h
 exact UnaryOp_ (thn (ha pins s σ H _ I h) fun v s1 ⟨x,H1,I1,r1,q1⟩=>ho pins s1 σ H1 x v Q I1 r1 q1)
theorem opI {f:Value->Value->Sem Value} {C:Int->Int->Prop} {g:Int->Int->Int}
  (rule:∀ (i j:Int) (t u:Tok) (s:Shared) (Q:Value->Shared->Prop) (E:Value->Shared->Prop),C i j->Q (.int (g i j) s.toks) { s with toks:=s.toks+1 }->wpAny (model X.prog X.w) X.A (f (.int i t) (.int j u)) Q E s) :
  OpR X f (rI C fun i j=>.int (g i j)):=by
 intro pins s σ H x y v u Q I rx ry h
 obtain⟨i,j,rfl,rfl,hc,q⟩:=h
 obtain⟨t,rfl⟩:=rx
 obtain⟨t',rfl⟩:=ry
 exact rule i j t t' s _ _ hc ⟨.int (g i j),H,I.tok _,⟨_,rfl⟩,q⟩
theorem j7n {f:Value->Value->Sem Value} {g:Int->Int->Int}
  (rule:∀ (i j:Int) (t u:Tok) (s:Shared) (Q:Value->Shared->Prop) (E:Value->Shared->Prop),Q (.int (g i j) s.toks) { s with toks:=s.toks+1 }->wpAny (model X.prog X.w) X.A (f (.int i t) (.int j u)) Q E s) :
  OpR X f (rI0 fun i j=>.int (g i j)):=by
 intro pins s σ H x y v u Q I rx ry h
 obtain⟨i,j,rfl,rfl,q⟩:=h
 obtain⟨t,rfl⟩:=rx
 obtain⟨t',rfl⟩:=ry
 exact rule i j t t' s _ _ ⟨.int (g i j),H,I.tok _,⟨_,rfl⟩,q⟩
theorem j6e {f:Value->Value->Sem Value} {g:Int->Int->Bool}
  (rule:∀ (i j:Int) (t u:Tok) (s:Shared) (Q:Value->Shared->Prop) (E:Value->Shared->Prop),Q (.bool (g i j)) s->wpAny (model X.prog X.w) X.A (f (.int i t) (.int j u)) Q E s) :
  OpR X f (rI0 fun i j=>.bl (g i j)):=by
 intro pins s σ H x y v u Q I rx ry h
 obtain⟨i,j,rfl,rfl,q⟩:=h
 obtain⟨t,rfl⟩:=rx
 obtain⟨t',rfl⟩:=ry
 exact rule i j t t' s _ _ ⟨.bl (g i j),H,I,rfl,q⟩
noncomputable def j7c (i j:Int):Prop:=0<j/\j<1073741824
noncomputable def j80 (i j:Int):Prop:=0<=j/\j<=1000000/\i.natAbs<2 ^ 64
noncomputable def j4w (i j:Int):Prop:=(-(2 ^ 64)<i/\i<2 ^ 64)\/(-(2 ^ 64)<j/\j<2 ^ 64)
theorem j4w.ok {i j:Int} (h:j4w i j):IntMulOk i j:=by
 rcases h with⟨h1,h2⟩ | ⟨h1,h2⟩
 ·exact .of_left (intBits_le_64 h1 h2)
 ·exact .of_right (intBits_le_64 h1 h2)
theorem j42:OpR X (binaryOp .Add) (rI0 fun i j=>.int (i+j)):=j7n fun _ _ _ _ _ _ _ q=>add_int q
theorem j2c:OpR X (binaryOp .Mult) (rI j4w fun i j=>.int (i*j)):=opI fun _ _ _ _ _ _ _ hc q=>mul_int q hc.ok
theorem z7e:OpR X (binaryOp .FloorDiv) (rI j7c fun i j=>.int (i / j)):=opI fun i j _ _ _ _ _ hc q=>by
 have h1:(0:Int)<j:=hc.1
 have h2:j<1073741824:=hc.2
 exact floordiv_int (by omega) (by rw[Int.fdiv_eq_ediv_of_nonneg i (by omega)]; exact q) (.inl (PyProof.noPylong_small (by omega)))
theorem j0q:OpR X (binaryOp .Mod) (rI (fun _ j=>0<j) fun i j=>.int (i % j)):=opI fun i j _ _ _ _ _ hc q=>by
 have h1:(0:Int)<j:=hc
 exact mod_int' (by omega) (by rw[Int.fmod_eq_emod_of_nonneg i (by omega)]; exact q)
theorem j0k:OpR X (binaryOp .Pow) (rI j80 fun i j=>.int (i ^ j.toNat)):=opI fun _ _ _ _ _ _ _ hc q=>pow_int_small hc.1 hc.2.1 hc.2.2 q
theorem unI {f:Value->Sem Value} {g:Int->Int}
  (rule:∀ (i:Int) (t:Tok) (s:Shared) (Q:Value->Shared->Prop) (E:Value->Shared->Prop),Q (.int (g i) s.toks) { s with toks:=s.toks+1 }->wpAny (model X.prog X.w) X.A (f (.int i t)) Q E s) :
  UnR X f (rU fun i=>.int (g i)):=by
 intro pins s σ H x v Q I rx h
 obtain⟨i,rfl,q⟩:=h
 obtain⟨t,rfl⟩:=rx
 exact rule i t s _ _ ⟨.int (g i),H,I.tok _,⟨_,rfl⟩,q⟩
theorem j2k:UnR X (unaryOp .USub) (rU fun i=>.int (-i)):=unI fun _ _ _ _ _ q=>neg_int q
end
section
variable {X:Cx} {a b c:Expr} {ta tb tc:TE} {pos:Pos}
theorem j1b {pins:List (Addr × Obj)} {σ:St} {H:Hp} {s:Shared} {Q:VK} {k k':Bool} (I:Inv X pins σ H s) (q:Q (.bl k) H) (e:k=k'):EP X pins σ Q (.bool k') s:=by
 subst e
 exact⟨.bl k,H,I,rfl,q⟩
theorem z3o:OpR X (compareOp .Lt) (rI0 fun i j=>.bl (decide (i<j))):=j6e fun _ _ _ _ _ _ _ q=>lt_int q
theorem y90:OpR X (compareOp .LtE) (rI0 fun i j=>.bl (decide (i<=j))):=j6e fun _ _ _ _ _ _ _ q=>le_int q
theorem j4t:OpR X (compareOp .Gt) (rI0 fun i j=>.bl (decide (j<i))):=j6e fun _ _ _ _ _ _ _ q=>gt_int q
theorem z5g:OpR X (compareOp .Is) (fun x y H Q=>y=.non/\Q (.bl (decide (x=.non))) H):=by
 intro pins s σ H x y v u Q I rx ry h
 obtain⟨rfl,q⟩:=h
 cases ry
 refine is_none_gen (j1b I q ?_)
 cases x <;> first
  | (cases rx; rfl)
  | (obtain⟨t,rfl⟩:=rx; rfl)
theorem OpR.or {f:Value->Value->Sem Value} {r r':R2} (h:OpR X f r) (h':OpR X f r'):OpR X f (fun x y H Q=>r x y H Q\/r' x y H Q):=by
 intro pins s σ H x y v u Q I rx ry q
 rcases q with q | q
 ·exact h pins s σ H x y v u Q I rx ry q
 ·exact h' pins s σ H x y v u Q I rx ry q
theorem x9l (b:Expr) {op:CmpOp} (h:op ≠ .In:=by decide) (h2:op ≠ .NotIn:=by decide):behindInMarks op b=false:=by
 have e1:(op == CmpOp.In)=false:=by cases op <;> first | rfl | exact absurd rfl h
 have e2:(op == CmpOp.NotIn)=false:=by cases op <;> first | rfl | exact absurd rfl h2
 cases b <;> simp[behindInMarks,e1,e2]
theorem z1g {op:CmpOp} {r:R2} (ho:OpR X (compareOp op) r) (ha:PE X a ta) (hb:PE X b tb) (hm:behindInMarks op b=false):PE X (.Compare a [op] [b] pos) (tOp r ta tb):=by
 intro pins s σ H Q I h
 exact wpAny_Compare1 (j64 ha hb I h fun v u s2 x y H2 I2 rx ry q=>ho pins s2 σ H2 x y v u Q I2 rx ry q) hm
noncomputable def z7m (t:TE):TT:=fun σ H Q=>t σ H fun x H'=>∃ k,x=.bl k/\Q k H'
theorem z18 {op:CmpOp} {r:R2} (ho:OpR X (compareOp op) r) (ha:PE X a ta) (hb:PE X b tb) (hm:behindInMarks op b=false):PT X (.Compare a [op] [b] pos) (z7m (tOp r ta tb)):=by
 intro pins s σ H Q I h
 refine wpAny_isTrue_Compare1 (thn (ha pins s σ H _ I h) fun v s1 ⟨x,H1,I1,r1,q1⟩=>thn (hb pins s1 σ H1 _ I1 q1) fun u s2 ⟨y,H2,I2,r2,q2⟩=>
  thn (ho pins s2 σ H2 x y v u _ I2 r1 r2 q2) fun c s3 ⟨z,H3,I3,r3,k,e,q3⟩=>?_) hm
 subst e
 cases r3
 exact wpAny_truthy_bool ⟨H3,I3,q3⟩
noncomputable def z63 (r r':R2) (ta tb tc:TE):TE:=fun σ H Q=>ta σ H fun x H1=>tb σ H1 fun y H2=>r x y H2 fun z H3=>∃ k,z=.bl k /\
 (if k=true then tc σ H3 fun w' H4=>r' y w' H4 Q else Q (.bl false) H3)
theorem z3w {op op':CmpOp} {r r':R2} (ho:OpR X (compareOp op) r) (ho':OpR X (compareOp op') r') (ha:PE X a ta) (hb:PE X b tb) (hc:PE X c tc)
  (hm:lastMarks [op,op'] [b,c]=false:=by with_unfolding_all rfl):PE X (.Compare a [op,op'] [b,c] pos) (z63 r r' ta tb tc):=by
 intro pins s σ H Q I h
 refine Compare_chain (thn (ha pins s σ H _ I h) fun v s1 ⟨x,H1,I1,r1,q1⟩=>chain_link (thn (hb pins s1 σ H1 _ I1 q1) fun u s2 ⟨y,H2,I2,r2,q2⟩=>
  thn (ho pins s2 σ H2 x y v u _ I2 r1 r2 q2) fun d s3 ⟨z,H3,I3,r3,k,e,q3⟩=>?_)) hm
 subst e
 cases r3
 refine wpAny_truthy_bool ?_
 cases k with
 | false=>exact ite_ff ⟨.bl false,H3,I3,rfl,q3⟩
 | true=>exact ite_tt (chain_last (thn (hc pins s3 σ H3 _ I3 q3) fun w' s4 ⟨z',H4,I4,r4,q4⟩=>ho' pins s4 σ H4 y z' u w' Q I4 r2 r4 q4))
theorem z34 {op op':CmpOp} {r r':R2} (ho:OpR X (compareOp op) r) (ho':OpR X (compareOp op') r') (ha:PE X a ta) (hb:PE X b tb) (hc:PE X c tc)
  (hm:lastMarks [op,op'] [b,c]=false:=by with_unfolding_all rfl):PT X (.Compare a [op,op'] [b,c] pos) (z7m (z63 r r' ta tb tc)):=by
 intro pins s σ H Q I h
 refine isTrue_chain (thn (ha pins s σ H _ I h) fun v s1 ⟨x,H1,I1,r1,q1⟩=>test_link (thn (hb pins s1 σ H1 _ I1 q1) fun u s2 ⟨y,H2,I2,r2,q2⟩=>
  thn (ho pins s2 σ H2 x y v u _ I2 r1 r2 q2) fun d s3 ⟨z,H3,I3,r3,k,e,q3⟩=>?_)) hm
 subst e
 cases r3
 refine wpAny_truthy_bool ?_
 cases k with
 | false=>
  obtain⟨k',e',q'⟩:=q3
  cases e'
  exact ite_ff ⟨H3,I3,q'⟩
 | true=>
  refine ite_tt (test_last (thn (hc pins s3 σ H3 _ I3 q3) fun w' s4 ⟨z',H4,I4,r4,q4⟩=>thn (ho' pins s4 σ H4 y z' u w' _ I4 r2 r4 q4) fun d' s5 hh0=>?_))
  obtain⟨z2,H5,I5,r5,k2,e2,q5⟩:=hh0
  subst e2
  cases r5
  exact wpAny_truthy_bool ⟨H5,I5,q5⟩
noncomputable def j6t (K:PySem.W.Frag) (x:V) (H:Hp) (k:Bool):Prop:=
 match x with
 | .non=>k=false
 | .bl b=>k=b
 | .int i=>k=(i != 0)
 | .str y=>y.length<=sizeLine/\k=((y.length:Int) != 0)
 | .byt y=>y.size<=sizeLine/\k=((y.size:Int) != 0)
 | .ref p=>(∃ xs,SqL K H p xs/\k = !xs.isEmpty)\/(∃ xs,SqT K H p xs/\k = !xs.isEmpty)\/∃ kvs,H p=some (.dK kvs)/\k = !kvs.isEmpty
 | _=>False
theorem y91 {κ:Type} {kvs:List (κ × V)} {vs:List (κ × Value)} (r:KV kvs vs):(!vs.isEmpty) = !kvs.isEmpty:=by
 cases r <;> rfl
theorem y2b {xs:List V} {its:List Value} (r:x2h xs its):(!its.toArray.isEmpty) = !xs.isEmpty:=by
 cases r <;> simp
theorem y2f:(sizeLine:Nat)<2 ^ 63:=by rw[sizeLine_eq]; decide
theorem j07:j7a X (fun x H Q=>∃ k,j6t X.K x H k/\Q k H):=by
 intro pins s σ H x v Q I rx h
 obtain⟨k,e,q⟩:=h
 have hl:=y2f
 have hs:sizeLine=16777216:=sizeLine_eq
 cases x with
 | non=>
  cases rx
  have e':k=false:=e
  subst e'
  exact truthy_none ⟨H,I,q⟩
 | bl b=>
  cases rx
  have e':k=b:=e
  subst e'
  exact wpAny_truthy_bool ⟨H,I,q⟩
 | int i=>
  obtain⟨t,rfl⟩:=rx
  have e':k=(i != 0):=e
  subst e'
  exact PySem.P.truthy_int ⟨H,I,q⟩
 | str y=>
  obtain⟨t,rfl⟩:=rx
  obtain⟨hy,e'⟩:y.length<=sizeLine/\k=((y.length:Int) != 0):=e
  subst e'
  exact PySem.P.truthy_str (by omega) ⟨H,I.tok _,q⟩
 | byt y=>
  obtain⟨t,rfl⟩:=rx
  obtain⟨hy,e'⟩:y.size<=sizeLine/\k=((y.size:Int) != 0):=e
  subst e'
  exact PySem.W.truthy_bytes (by omega) ⟨H,I.tok _,q⟩
 | ref p=>
  cases rx
  have e':(∃ xs,SqL X.K H p xs/\k = !xs.isEmpty)\/(∃ xs,SqT X.K H p xs/\k = !xs.isEmpty)\/∃ kvs,H p=some (.dK kvs)/\k = !kvs.isEmpty:=e
  rcases e' with⟨xs,hx,e'⟩ | ⟨xs,hx,e'⟩ | ⟨kvs,hx,e'⟩
  ·subst e'
   obtain⟨its,r,pl,hz⟩:=I.list hx
   have hlen:=r.length
   exact wpAny_truthy_list pl.isList (by simp only[List.size_toArray]; omega) ⟨H,I.tok _,by rw[y2b r]; exact q⟩
  ·subst e'
   obtain⟨its,r,pl,hz⟩:=I.tuple hx
   have hlen:=r.length
   exact truthy_tuple pl (by simp only[List.size_toArray]; omega) ⟨H,I.tok _,by rw[y2b r]; exact q⟩
  ·subst e'
   obtain⟨hz,hS,vs,r,m⟩:kvs.length<=sizeLine/\(p == sysModules)=false/\∃ vs,KV kvs vs/\s.heap.DictOf (y67 X.prog X.w) p vs:=I.hok p _ hx
   have hlen:kvs.length=vs.length:=Paired.length r
   exact wpAny_truthy_dict hS m (by omega) ⟨H,I.tok _,by rw[y91 r]; exact q⟩
 | _=>exact(show False from e).elim
theorem z56 (ha:PE X a ta) (he:∀ whole,isTrue a X.env whole=(do let v <- whole; standAt a.pos; holding [v] (truthy v))) :
  PT X a (fun σ H Q=>ta σ H fun x H'=>∃ k,j6t X.K x H' k/\Q k H'):=by
 intro pins s σ H Q I h
 exact isTrue_plain (thn (ha pins s σ H _ I h) fun v s1 ⟨x,H1,I1,r1,q1⟩=>j07 pins s1 σ H1 x v Q I1 r1 q1) (he _)
theorem y3h {x:V} {us:List Value} (r:x2h [x] us):∃ u,us=[u]/\x4k x u:=by
 cases r with
 | cons r1 r2=>cases r2; exact⟨_,rfl,r1⟩
theorem z2c {x y:V} {us:List Value} (r:x2h [x,y] us):∃ u w',us=[u,w']/\x4k x u/\x4k y w':=by
 cases r with
 | cons r1 r2=>
  cases r2 with
  | cons r3 r4=>cases r4; exact⟨_,_,rfl,r1,r3⟩
theorem y9k (hc:X.calm=true):x94 X (.builtin "max") (fun xs H Q=>∃ i j,xs=[.int i,.int j]/\Q (.int (if j > i then j else i)) H):=by
 intro pins s σ H xs us Q I r h
 obtain⟨i,j,rfl,q⟩:=h
 obtain⟨u,w',rfl,⟨t,rfl⟩,⟨t',rfl⟩⟩:=z2c r
 refine max_two_ints (I.ok.hd hc) fun h' tk k=>⟨_,H,I.kept k,?_,q⟩
 by_cases hj:j > i
 ·rw[if_pos hj,if_pos hj]; exact⟨_,rfl⟩
 ·rw[if_neg hj,if_neg hj]; exact⟨_,rfl⟩
end
structure ObjM (h:Heap) (x dx C:Addr) (mA:Str->Option Value):Prop where
 obj:h.get? x=some (PySem.W.instObj C dx)
 ns:h.Ns1 dx mA
 ne:dx≠x
theorem z1a {h:Heap} {dx:Addr} {mA:Str->Option Value} (n:h.Ns1 dx mA):∃ od,h.get? dx=some od/\∀ name,PySem.W.lookIn name od=some (mA name):=by
 obtain⟨o,es,ep,ho,hd,hk,_,hm⟩:=n
 refine⟨o,ho,fun name=>?_⟩
 have e:=hm name
 unfold nsFind findBy at e
 rw[<- Array.find?_toList]at e
 unfold PySem.W.lookIn
 rw[hd]
 dsimp only
 split
 ·rename_i y q
  rw[q]at e
  exact congrArg some e
 ·rename_i q
  rw[q]at e
  have a:es.toList.any (·.refKey)=false:=by
   rw[List.any_eq_false]
   intro y hy
   obtain⟨z,t,hkey⟩:=hk y (Array.mem_toList_iff.mp hy)
   simp[DictEntry.refKey,hkey]
  have a':¬ es.toList.any (·.refKey)=true:=by rw[a]; exact Bool.false_ne_true
  rw[if_neg a']
  exact congrArg some e
theorem ObjM.look {h:Heap} {x dx C:Addr} {mA:Str->Option Value} (I:ObjM h x dx C mA):∃ od,PySem.W.InstAt h x (PySem.W.instObj C dx) C (some od)/\∀ name,PySem.W.lookIn name od=some (mA name):=
 let ⟨od,ho,hl⟩:=z1a I.ns
 ⟨od,⟨I.obj,rfl,rfl,ho⟩,hl⟩
section
variable {prog:Program} {w:World} {A:Around} {E:Value->Shared->Prop} {s:Shared} {K:PySem.W.Frag} {x dx C f:Addr} {mA:Str->Option Value} {name:Str} {v:Value}
end
section
variable {P:Program} {w:World} {H H':Hp} {h h':Heap} {a C dx:Addr} {fs fs':List (Str × V)}
theorem z9k (hok:HOk P w H h) (e:H a=some (.ins C dx fs)):∃ mA,ObjM h a dx C mA/\(∀ f,j52 (fs.lookup f) (mA f))/\PySem.Within mA (fs.map (·.1))/\fs.length<=1000/\H dx=some (.own a):=by
 obtain⟨d,z,ne,ob,mA,n,r,q⟩:=(show x3n P w H h a (.ins C dx fs)from hok a _ e)
 exact⟨mA,⟨ob,n,ne⟩,r,q,z,d⟩
end
structure Cls (K:PySem.W.Frag) (C:Addr):Prop where
 pg:PySem.W.plainGet K C Str.empty=true
 hd:PySem.W.hasDictIn K C=true
 po:PySem.W.plainOver K C=true
 sa:PySem.W.findIn K (.ref C) "__setattr__" = some (some (.builtin "object.__setattr__"))
theorem Cls.get {K:PySem.W.Frag} {C:Addr} (c:Cls K C) (f:Str):PySem.W.plainGet K C f=true:=c.pg
section
variable {X:Cx} {pins:List (Addr × Obj)} {σ:St} {H:Hp} {s:Shared} {a C dx:Addr} {fs:List (Str × V)} {f:Str} {v:V} {A:Around} {E:Value->Shared->Prop}
end
section
variable {X:Cx} {pins:List (Addr × Obj)} {σ:St} {H:Hp} {s:Shared} {A:Around} {E:Value->Shared->Prop} {Q:Value->Shared->Prop} {c:Value} {b:Bool}
inductive TyOf (K:PySem.W.Frag) (H:Hp):V->Value->Prop where
 | non:TyOf K H .non (.type "NoneType")
 | bl (x:Bool):TyOf K H (.bl x) (.type "bool")
 | int (i:Int):TyOf K H (.int i) (.type "int")
 | str (x:Str):TyOf K H (.str x) (.type "str")
 | flt (x:UInt64):TyOf K H (.flt x) (.type "float")
 | lst {a:Addr} {xs:List V} (e:H a=some (.lst xs)):TyOf K H (.ref a) (.type "list")
 | frz {a:Addr} {o:Obj} {xs:List V} (e:H a=some (.frz o (.lst xs))):TyOf K H (.ref a) (.type "list")
 | tup {a:Addr} {xs:List V} (e:H a=some (.tup xs)):TyOf K H (.ref a) (.type "tuple")
 | dK {a:Addr} {kvs:List (Key × V)} (e:H a=some (.dK kvs)):TyOf K H (.ref a) (.type "dict")
 | dT {a:Addr} {kvs:List (List Key × V)} (e:H a=some (.dT kvs)):TyOf K H (.ref a) (.type "dict")
 | ins {a C dx:Addr} {fs:List (Str × V)} (e:H a=some (.ins C dx fs)) (cl:Cls K C) (ha:PySem.W.findIn K (.ref C) "__class__" = some (some (.builtin "object.__class__")))
   (hn:PySem.W.specialIn K (.builtin "object.__class__") "__get__" = some (some (.builtin "getset_descriptor.__get__"))) (htk:PySem.W.takesIn K (.builtin "object.__class__")=some true)
   (hm:PySem.W.mroIn K C (.type "object")=some true):TyOf K H (.ref a) (.ref C)
theorem x3r {x:V} {u t:Value} (I:Inv X pins σ H s) (rx:x4k x u) (ty:TyOf X.K H x t) (e:PySem.W.kitOne X.K t c=some b) (h:∀ tk,Q (.bool b) { s with toks:=tk }) :
  wpAny (model X.prog X.w) A (call (.builtin "isinstance") [u,c]) Q E s:=by
 cases ty with
 | non=>cases (show u=Value.none from rx); exact PySem.W.kia_one PySem.W.kitx_none I.kIn True.intro e (fun z=>nomatch z) h
 | bl y=>cases (show u=Value.bool y from rx); exact PySem.W.kia_one PySem.W.kitx_bool I.kIn True.intro e (fun z=>nomatch z) h
 | int i=>obtain⟨t,q⟩:=(show ∃ t,u=Value.int i t from rx); cases q; exact PySem.W.kia_one PySem.W.kitx_int I.kIn True.intro e (fun z=>nomatch z) h
 | str y=>obtain⟨t,q⟩:=(show ∃ t,u=Value.str y t from rx); cases q; exact PySem.W.kia_one PySem.W.kitx_str I.kIn True.intro e (fun z=>nomatch z) h
 | flt y=>obtain⟨t,q⟩:=(show ∃ t,u=Value.float y t from rx); cases q; exact PySem.W.kia_one PySem.W.kitx_float I.kIn True.intro e (fun z=>nomatch z) h
 | @lst a xs ea=>
  cases (show u=Value.ref a from rx)
  obtain⟨_,_,n,_,h1⟩:=(show x3n X.prog X.w H s.heap a (.lst xs)from I.hok a _ ea)
  exact PySem.W.kia_one PySem.W.kitx_list I.kIn ⟨_,h1,rfl⟩ e (fun z=>nomatch z) h
 | @frz a ob xs ea=>
  cases (show u=Value.ref a from rx)
  obtain⟨_,_,_,n,_,h1⟩:=(show x3n X.prog X.w H s.heap a (.frz ob (.lst xs))from I.hok a _ ea)
  exact PySem.W.kia_one PySem.W.kitx_list I.kIn ⟨_,h1,rfl⟩ e (fun z=>nomatch z) h
 | @tup a xs ea=>
  cases (show u=Value.ref a from rx)
  obtain⟨_,_,_,p⟩:=(show x3n X.prog X.w H s.heap a (.tup xs)from I.hok a _ ea)
  obtain⟨o,h1,h2,_⟩:=p
  exact PySem.W.kia_one PySem.W.kitx_tuple I.kIn ⟨o,h1,h2⟩ e (fun z=>nomatch z) h
 | @dK a kvs ea=>
  cases (show u=Value.ref a from rx)
  obtain⟨_,_,vs,_,p⟩:=(show x3n X.prog X.w H s.heap a (.dK kvs)from I.hok a _ ea)
  obtain⟨o,es,ep,h1,h2,_⟩:=p
  exact PySem.W.kia_one PySem.W.kitx_dict I.kIn ⟨o,h1,h2.1⟩ e (fun z=>nomatch z) h
 | @dT a kvs ea=>
  cases (show u=Value.ref a from rx)
  obtain⟨_,_,xs,_,o,es,ep,h1,h2,_⟩:=(show x3n X.prog X.w H s.heap a (.dT kvs)from I.hok a _ ea)
  exact PySem.W.kia_one PySem.W.kitx_dict I.kIn ⟨o,h1,h2.1⟩ e (fun z=>nomatch z) h
 | @ins a C dx fs ea cl ha hn htk hm=>
  cases (show u=Value.ref a from rx)
  obtain⟨mA,O,_⟩:=z9k I.hok ea
  obtain⟨od,J,_⟩:=O.look
  exact PySem.W.kia_one (PySem.W.kitx_own (cl.get _) cl.hd ha hn htk hm) I.kIn J e (fun z=>nomatch z) h
end
structure Room (k:Nat) (A:Around):Prop where
 hd:A.handled=none
 dp:A.depth+3*k+5<recursionLimit
 un:A.units+16*k+200<cLine
theorem Room.mono {j k:Nat} {A:Around} (r:Room k A) (h:j<=k):Room j A:=⟨r.hd,by have:=r.dp; omega,by have:=r.un; omega⟩
theorem Room.deeper {k:Nat} {A:Around} (r:Room (k+1) A) (env:Env):Room k (A.deeper env):=
 ⟨r.hd,by have:=r.dp; show A.depth+1+3*k+5<_; omega,by have:=r.un; show A.units+3+16*k+200<_; omega⟩
theorem Room.depth {k:Nat} {A:Around} (r:Room k A):A.depth<recursionLimit:=by have:=r.dp; omega
theorem Room.units {k:Nat} {A:Around} (r:Room k A):A.units+64<cLine:=by have:=r.un; omega
noncomputable def j6m:TA:=fun _ H Q=>Q [] H
noncomputable def j2l (ta:TE) (tr:TA):TA:=fun σ H Q=>ta σ H fun x H1=>tr σ H1 fun xs H2=>Q (x::xs) H2
section
variable {X:Cx} {e:Expr} {es:List Expr} {te:TE} {t:TA} {pos:Pos}
theorem x78:PA X [] j6m:=fun _ _ _ _ H Q I h=>Calls.spliced_nil ⟨[],H,I,.nil,h⟩
theorem x3e (ha:PE X e te) (hr:PA X es t) (hs:starEach (e::es) X.env=(false,eval e X.env)::starEach es X.env:=by rfl):PA X (e::es) (j2l te t):=by
 intro pos pins s σ H Q I h
 rw[hs]
 show wpAny _ _ (spliced ((false,eval e X.env)::backTo pos (starEach es X.env))) _ _ s
 refine Calls.spliced_cons (thn (ha pins s σ H _ I h) fun u s1 hh0=>?_)
 obtain⟨x,H1,I1,r1,q1⟩:=hh0
 exact thn (hr pos pins s1 σ H1 _ I1 q1) fun us s2 ⟨xs,H2,I2,r2,q2⟩=>⟨x::xs,H2,I2,.cons r1 r2,q2⟩
noncomputable def j6z (t:TA):TE:=fun σ H Q=>t σ H fun xs H1=>xs.length<=sizeLine/\∀ p,H1 p=none->Q (.ref p) (upd H1 p (.tup xs))
noncomputable def j6w (t:TA):TE:=fun σ H Q=>t σ H fun xs H1=>xs.length<=sizeLine/\∀ p,H1 p=none->Q (.ref p) (upd H1 p (.lst xs))
theorem j0c {x1} (h:PA X es t):PE X (.Tuple es x1 pos) (j6z t):=by
 intro pins s σ H Q I hq
 refine wpAny_Tuple_spliced (thn (h pos pins s σ H _ I hq) fun us s1 ⟨xs,H1,I1,r,z,q⟩=>⟨by rw[<- r.length]; exact z,?_⟩)
 have hf:H1 s1.heap.objs.size=none:=I1.hok.fresh (Nat.le_refl _)
 refine⟨.ref s1.heap.objs.size,upd H1 s1.heap.objs.size (.tup xs),I1.laid (t':=s1.toks) (fun b u e=>Heap.get?_push_of_some _ e) (Nat.le_refl _) ?_,rfl,q _ hf⟩
 exact⟨z,us,r,⟨_,Heap.get?_push_size _ rfl,rfl,⟨_,rfl⟩,rfl⟩⟩
theorem j0b (h:PA X es t):PE X (.List es pos) (j6w t):=by
 intro pins s σ H Q I hq
 refine wpAny_List_spliced (thn (h pos pins s σ H _ I hq) fun us s1 ⟨xs,H1,I1,r,z,q⟩=>⟨by rw[<- r.length]; exact z,?_⟩)
 have hf:H1 s1.heap.objs.size=none:=I1.hok.fresh (Nat.le_refl _)
 refine⟨.ref s1.heap.objs.size,upd H1 s1.heap.objs.size (.lst xs),I1.laid (t':=s1.toks) (fun b u e=>Heap.get?_push_of_some _ e) (Nat.le_refl _) ?_,rfl,q _ hf⟩
 exact⟨z,us,0,r,Heap.get?_push_size _ rfl⟩
end
noncomputable abbrev Sp:=List V->Hp->VK->XK->Prop
noncomputable abbrev CXT:=List Env->Hp->Shared->XK->Value->Shared->Prop
structure Env0 (P:Program) (w:World) (K:PySem.W.Frag) (mg:Str->Option Value) (base:Heap) (A:Around) (outer:List Env) (s:Shared) (H:Hp):Prop where
 frames:A.frames=some outer
 mod:Mod K mg base
 bs:∀ b o,base.get? b=some o->s.heap.get? b=some o/\H b=none
 bsz:base.objs.size<=s.heap.objs.size
 funs:s.heap.FunFrames base outer
 frf:∀ b∈frs outer,H b=none
 hok:HOk P w H s.heap
 bare:AllBare s.gens
noncomputable def CE (outer:List Env) (P:Program) (w:World) (H:Hp) (s:Shared) (Q:VK) (u:Value) (s':Shared):Prop:=
 ∃ v H',s'.os=s.os/\AllBare s'.gens/\Un (frs outer) [] H H' s.heap s'.heap/\HOk P w H' s'.heap/\x4k v u/\Q v H'
noncomputable def CR (CX:CXT) (outer:List Env) (P:Program) (w:World) (H:Hp) (s:Shared) (Q:VK) (E:XK) (r:Result) (s':Shared):Prop:=
 match r with
 | .ok (.ret u)=>CE outer P w H s Q u s'
 | .ok _=>False
 | .error e=>CX outer H s E e s'
structure FnOk (P:Program) (w:World) (K:PySem.W.Frag) (mg:Str->Option Value) (base:Heap) (CX:CXT) (k:Nat) (f:Addr) (fd:FuncData) (ps:List Str) (sp:Sp):Prop where
 len:∀ vs H Q E,sp vs H Q E->vs.length=ps.length
 run:∀ (A:Around) (outer:List Env) (s:Shared) (H:Hp) (args:Args) (us:List Value) (vs:List V) (Q:VK) (E:XK),Room k A->Env0 P w K mg base A outer s H->BindsTo s fd args (ps.zip us)->x2h vs us->sp vs H Q E->
  codeAny (model P w) A (.call (.ref f) args) (CR CX outer P w H s Q E) s
section
variable {X:Cx} {pins:List (Addr × Obj)} {σ:St} {H:Hp} {s s':Shared}
theorem Inv.env0 (I:Inv X pins σ H s):Env0 X.prog X.w X.K X.mg X.base X.A X.stack s H:=
 ⟨I.ok.frames,I.ok.mod,I.bs,Nat.le_trans I.ok.bsz I.sz,I.stack,I.stkFree,I.hok,I.bare⟩
theorem Inv.after {Q:VK} {u:Value} (I:Inv X pins σ H s) (h:CE X.stack X.prog X.w H s Q u s'):EP X pins σ Q u s':=by
 obtain⟨v,H',os,bare,un,hok,r,q⟩:=h
 obtain⟨hh,g,d,t,os'⟩:=s'
 obtain rfl:os'=s.os:=os
 exact⟨v,H',I.call (h':=hh) (g':=g) (d':=d) (t':=t) (ch:=[]) un hok bare (fun b z=>absurd z (by simp)),r,q⟩
end
noncomputable def j5m (sp:Sp) (dvs:List V) (E:XK) (t:TA):TE:=fun σ H Q=>t σ H fun vs H1=>sp (vs++dvs) H1 Q E
noncomputable def y37 (K:PySem.W.Frag) (fd:FuncData) (ps:List Str) (ds:List Value):Prop:=
 ∀ (s:Shared) (us:List Value),K.In s.heap->(us++ds).length=ps.length->BindsTo s fd ⟨us,[]⟩ (ps.zip (us++ds))
theorem y37.all {K:PySem.W.Frag} {fd:FuncData} {ps:List Str} (h:∀ us:List Value,us.length=ps.length->bindArgs fd ⟨us,[]⟩=pure (ps.zip us)):y37 K fd ps []:=fun s us _ hl=>by
 rw[List.append_nil]at hl ⊢
 exact .of_eq (h us hl)
noncomputable def y73 (CX:CXT) (X:Cx) (E:XK):Prop:=∀ (pins:List (Addr × Obj)) (σ:St) (H:Hp) (s:Shared) (e:Value) (s':Shared),Inv X pins σ H s->CX X.stack H s E e s'->X.xe e s'
section
variable {X:Cx} {CX:CXT} {k:Nat} {f C:Addr} {fd:FuncData} {ps:List Str} {sp:Sp} {dvs:List V} {ds:List Value} {E:XK} {x m:Str} {p pos apos:Pos} {e o:Expr} {es:List Expr} {ta:TE} {t:TA}
theorem j3w {pins:List (Addr × Obj)} {σ:St} {H:Hp} {s:Shared} {Q:VK} {us:List Value} {vs:List V} (F:FnOk X.prog X.w X.K X.mg X.base CX k f fd ps sp) (hr:Room k X.A) (hb:y37 X.K fd ps ds) (hd:x2h dvs ds) (hx:y73 CX X E)
  (I:Inv X pins σ H s) (r:x2h vs us) (h:sp (vs++dvs) H Q E):wpAny (model X.prog X.w) X.A (call (.ref f) us) (EP X pins σ Q) X.xe s:=by
 have r2:x2h (vs++dvs) (us++ds):=r.append hd
 have hl:(us++ds).length=ps.length:=by rw[<- r2.length]; exact F.len _ _ _ _ h
 refine wpAny_call (codeAny_mono (F.run X.A X.stack s H ⟨us,[]⟩ (us++ds) (vs++dvs) Q E hr I.env0 (hb s us I.kIn hl) r2 h) fun r s' hq=>?_)
 cases r with
 | error e=>exact hx pins σ H s e s' I hq
 | ok fl=>
  cases fl with
  | ret u=>exact I.after hq
  | next=>exact False.elim hq
  | brk=>exact False.elim hq
  | cont=>exact False.elim hq
theorem y5z (F:FnOk X.prog X.w X.K X.mg X.base CX k f fd ps sp) (hr:Room k X.A) (hg:Gl X x) (hm:X.mg x=some (.ref f)) (hk:PySem.W.keepIn X.K (.ref f)=true) (hb:y37 X.K fd ps ds) (hd:x2h dvs ds) (hx:y73 CX X E)
  (ha:PA X (e::es) t) (hdb:(x == ("__debug__":Str))=false:=by decide) (he:starEach (e::es) X.env=(false,eval e X.env)::starEach es X.env:=by rfl) (hpl:(backTo pos (starEach es X.env)).any (·.1)=false:=by rfl) :
  PE X (.Call (.Name x p) (e::es) [] pos) (j5m sp dvs E t):=by
 intro pins s σ H Q I h
 refine wpAny_Call_Name_kw (y12 I hg hm ?_ hdb)
 refine PySem.W.callWith_K (h₀:=X.base) I.ok.mod.kin hk (thn (ha pos pins s σ H _ I h) fun us s1 ⟨vs,H1,I1,r,q⟩=>⟨I1.kIn,?_⟩) he hpl
 exact j3w F hr hb hd hx I1 r q
end
structure FnScope (N P:List Str) (sc:Scope):Prop where
 kind:sc.kind=.function
 co:sc.isCoroutine=false
 gen:sc.isGenerator=false
 nd:N.Nodup
 pre:N.take P.length=P
 par:∀ x∈P,sc.names.lookup x=some .local\/sc.names.lookup x=some .cell
 nofree:∀ y∈sc.names,y.2 ≠ .free
theorem y4p {kindOf:Str->Option NameKind} {x:Str}:∀ {binds:List (Str × Value)} {m:Str->Option Value},(∀ v,(x,v) ∉ binds)->bindL kindOf binds m x=m x
 | [],_,_=>rfl
 | (n,v)::r,m,h=>by
  unfold bindL
  rw[y4p fun w hw=>h w (List.mem_cons_of_mem _ hw)]
  split
  ·have:x≠n:=by rintro rfl; exact h v List.mem_cons_self
   simp[this]
  ·rfl
theorem y4o {kindOf:Str->Option NameKind} {x:Str}:∀ {binds:List (Str × Value)} {m:Str->Option Value},(∀ v,(x,v) ∉ binds)->bindC kindOf binds m x=m x
 | [],_,_=>rfl
 | (n,v)::r,m,h=>by
  unfold bindC
  rw[y4o fun w hw=>h w (List.mem_cons_of_mem _ hw)]
  split
  ·rfl
  ·have:x≠n:=by rintro rfl; exact h v List.mem_cons_self
   simp[this]
theorem y4k {kindOf:Str->Option NameKind} {x:Str} {v:Value}:∀ {P:List Str} {vs:List Value} {i:Nat} {m:Str->Option Value},P.Nodup->P[i]? = some x->vs[i]? = some v->kindOf x=some .local->
  bindL kindOf (P.zip vs) m x=some v
 | [],_,_,_,_,h,_,_=>by simp at h
 | _::_,[],_,_,_,_,h,_=>by simp at h
 | p::P,w::vs,0,m,nd,h1,h2,hk=>by
  simp at h1 h2; subst h1; subst h2
  show bindL kindOf ((p,w)::P.zip vs) m p=_
  unfold bindL
  rw[y4p fun v hv=>(List.nodup_cons.mp nd).1 (List.of_mem_zip hv).1,if_pos hk]
  simp
 | p::P,w::vs,i+1,m,nd,h1,h2,hk=>by
  show bindL kindOf ((p,w)::P.zip vs) m x=_
  unfold bindL
  exact y4k (i:=i) (List.nodup_cons.mp nd).2 (by simpa using h1) (by simpa using h2) hk
theorem y4e {kindOf:Str->Option NameKind} {x:Str} {v:Value}:∀ {P:List Str} {vs:List Value} {i:Nat} {m:Str->Option Value},P.Nodup->P[i]? = some x->vs[i]? = some v->kindOf x≠some .local->
  bindC kindOf (P.zip vs) m x=some v
 | [],_,_,_,_,h,_,_=>by simp at h
 | _::_,[],_,_,_,_,h,_=>by simp at h
 | p::P,w::vs,0,m,nd,h1,h2,hk=>by
  simp at h1 h2; subst h1; subst h2
  show bindC kindOf ((p,w)::P.zip vs) m p=_
  unfold bindC
  rw[y4o fun v hv=>(List.nodup_cons.mp nd).1 (List.of_mem_zip hv).1,if_neg hk]
  simp
 | p::P,w::vs,i+1,m,nd,h1,h2,hk=>by
  show bindC kindOf ((p,w)::P.zip vs) m x=_
  unfold bindC
  exact y4e (i:=i) (List.nodup_cons.mp nd).2 (by simpa using h1) (by simpa using h2) hk
noncomputable def y1o (N:List Str) (vs:List V):St:=vs.map some++List.replicate (N.length-vs.length) none
noncomputable def y94 (CX:CXT) (P:Program) (w:World) (K:PySem.W.Frag) (mg:Str->Option Value) (base:Heap) (N:List Str) (qual:Str) (scope:Scope) (f:Addr) (cd:Value) (A:Around) (outer:List Env) (s:Shared) (H:Hp) (E:XK):Cx where
 prog:=P
 w:=w
 K:=K
 mg:=mg
 base:=base
 A:=A.deeper (envOfC qual scope s.heap.objs.size f cd)
 N:=N
 s₀:=s
 H₀:=H
 env:=envOfC qual scope s.heap.objs.size f cd
 outer:=outer
 stack:=envOfC qual scope s.heap.objs.size f cd::outer
 ex:=[]
 calm:=true
 fn:=fun _=>true
 pn:=[]
 xe:=fun e s'=>wpAny (model P w) (A.deeper (envOfC qual scope s.heap.objs.size f cd)) (leaving (envOfC qual scope s.heap.objs.size f cd) e) (fun _ s''=>CX outer H s E e s'') (fun e' s''=>CX outer H s E e' s'') s'
theorem y7j {sc:Scope} {n:Nat} {x:Str} (h:sc.names.lookup x=some .cell):∃ c,(cellsFrom n sc.names []).lookup x=some c:=by
 have q:=PySem.W.cellsFrom_some sc.names n [] (.inl h)
 exact Option.isSome_iff_exists.mp q
theorem y9i {CX:CXT} {P:Program} {w:World} {K:PySem.W.Frag} {mg:Str->Option Value} {base:Heap} {N ps:List Str} {qual:Str} {scope:Scope} {f:Addr} {cd:Value} {A:Around} {outer:List Env} {s s1:Shared} {H:Hp} {E:XK} {us:List Value} {vs:List V}
  (S:FnScope N ps scope) (hd:A.handled=none) (e0:Env0 P w K mg base A outer s H) (hl:vs.length=ps.length) (r:x2h vs us)
  (x:InCallC s s.heap.objs.size (bindL (envOfC qual scope s.heap.objs.size f cd).kindOf (ps.zip us) fun _=>none) (cellsFrom (s.heap.objs.size+1) scope.names []) (bindC (envOfC qual scope s.heap.objs.size f cd).kindOf (ps.zip us) fun _=>none) s1) :
  Inv (y94 CX P w K mg base N qual scope f cd A outer s H E) [] (y1o N vs) H s1:=by
 have hpl:ps.length<=N.length:=by have:=congrArg List.length S.pre; rw[List.length_take]at this; omega
 obtain⟨h1,tk,rfl,hk⟩:=x.done
 have noA:∀ b:Addr,b ∉ (y94 CX P w K mg base N qual scope f cd A outer s H E).ex:=fun b z=>absurd (show b∈([]:List Addr)from z) (by simp)
 refine⟨⟨e0.mod,S.kind,rfl,rfl,Nat.le_refl _,fun y z c h1 h2=>?_,fun y hy=>?_,fun y c _ h=>?_,fun _=>hd,Around.frames_deeper e0.frames,.inr ⟨rfl,rfl⟩,fun b z=>absurd z (noA b),e0.bs,e0.bsz,fun b _ _=>noA b,fun b z=>absurd z (noA b),e0.funs,e0.frf⟩,
  rfl,e0.bare,Un.kept hk,⟨_,x.toInCall.ns,fun i y v h1 h2 h3=>?_⟩,fun y c h=>⟨_,x.cell y c h⟩,e0.hok.fresh (Nat.le_refl _),fun y c h=>?_,fun p hp=>absurd (show p∈([]:List (Addr × Obj))from hp) (by simp),e0.hok.kept hk,?_⟩
 ·exact name_of_addr x.apart (PySem.mem_of_lookup h1) (PySem.mem_of_lookup h2)
 ·have hy:scope.names.lookup y=some .cell\/scope.names.lookup y=some .free:=hy
  rcases hy with hy | hy
  ·exact y7j hy
  ·exact absurd rfl (S.nofree _ (PySem.mem_of_lookup hy))
 ·exact Nat.le_of_lt (x.above y c (PySem.mem_of_lookup h))
 ·have hi:i<vs.length:=by
   unfold y1o at h2
   by_cases hi:i<vs.length
   ·exact hi
   ·rw[List.getElem?_append_right (by simpa using hi)]at h2
    rw[List.getElem?_replicate]at h2
    split at h2 <;> cases h2
  have ha:vs[i]? = some v:=by
   unfold y1o at h2
   rw[List.getElem?_append_left (by simpa using hi),List.getElem?_map]at h2
   cases e:vs[i]? with
   | none=>rw[e]at h2; cases h2
   | some a=>rw[e]at h2; cases h2; rfl
  obtain⟨u,hu,rv⟩:=r.get ha
  have hp:ps[i]? = some y:=by
   rw[<- S.pre,List.getElem?_take_of_lt (by omega)]; exact h1
  have ndP:ps.Nodup:=by rw[<- S.pre]; exact S.nd.sublist (List.take_sublist _ _)
  refine⟨u,rv,?_⟩
  rcases S.par y (List.mem_of_getElem? hp)with k | k
  ·exact .inl ⟨k,y4k ndP hp hu k⟩
  ·obtain⟨c,e⟩:=y7j (n:=s.heap.objs.size+1) k
   refine .inr ⟨.inl k,c,e,?_⟩
   have q:=x.cell y c e
   rw[y4e ndP hp hu (by show scope.names.lookup y≠_; rw[k]; decide)]at q
   exact q
 ·exact e0.hok.fresh (Nat.le_of_lt (x.above y c (PySem.mem_of_lookup h)))
 ·unfold y1o
  show _=N.length
  rw[List.length_append,List.length_map,List.length_replicate]
  omega
theorem j3c {CX:CXT} {P:Program} {w:World} {K:PySem.W.Frag} {mg:Str->Option Value} {base:Heap} {k:Nat} {f:Addr} {name qual:Str} {params:Arguments} {body:List Stmt} {scope:Scope} {dV kV doc pm cdv ct oc:Value} {an od:Option Addr}
  {osl:Array (Option Value)} {N ps:List Str} {sp:Sp} (lk:K.lookup f=some ⟨oc,od,.func (PySem.W.fnOf name qual params body scope dV kV doc pm an cdv ct),osl⟩) (hcd:PySem.W.codeIn K cdv qual=true) (S:FnScope N ps scope)
  (len:∀ vs H Q E,sp vs H Q E->vs.length=ps.length)
  (hbody:∀ (A:Around) (outer:List Env) (s:Shared) (H:Hp) (vs:List V) (Q:VK) (E:XK),Room k (A.deeper (envOfC qual scope s.heap.objs.size f cdv))->sp vs H Q E->
    ∃ t,PSs (y94 CX P w K mg base N qual scope f cdv A outer s H E) body t/\t { nx:=fun _ H'=>Q .non H',rt:=Q } (y1o N vs) H) :
  FnOk P w K mg base CX (k+1) f (PySem.W.fnOf name qual params body scope dV kV doc pm an cdv ct) ps sp:=by
 refine⟨len,fun A outer s H args us vs Q E hr e0 hb r hsp=>?_⟩
 have hl:=len _ _ _ _ hsp
 have KX:K.In s.heap:=e0.mod.kin.keeps fun b o e=>(e0.bs b o e).1
 have lim:s.heap.NoLimit:=e0.mod.nolimit.keeps fun b o e=>(e0.bs b o e).1
 have hkind:∀ y∈ps.zip us,scope.names.lookup y.1=some .local\/(scope.names.lookup y.1=some .cell/\((cellsFrom (s.heap.objs.size+1) scope.names []).lookup y.1).isSome=true):=fun⟨n,v⟩ hy=>by
  rcases S.par n (List.of_mem_zip hy).1 with q | q
  ·exact .inl q
  ·exact .inr ⟨q,PySem.W.cellsFrom_some _ _ _ (.inl q)⟩
 refine codeAny_call_function hr.depth (KX _ _ lk) rfl S.co S.gen rfl (PySem.W.codeRec_of KX hcd) (hb _ _ _ _ ?_)
 refine wpAny_newFunctionEnv_cells S.kind hkind fun env he s1 x=>?_
 subst he
 refine⟨lim.keeps x.toInCall.keep,codeAny_func ?_⟩
 obtain⟨t,ht,hq⟩:=hbody A outer s H vs Q E (hr.deeper _) hsp
 have I:Inv (y94 CX P w K mg base N qual scope f cdv A outer s H E) [] (y1o N vs) H s1:=y9i S hr.hd e0 hl r x
 refine wpAny_mono (ht [] s1 (y1o N vs) H _ I hq) (fun fl s' hs=>?_) fun e s' hs=>hs
 have fin:∀ {σ':St} {H':Hp} {v:V} {u:Value},Inv (y94 CX P w K mg base N qual scope f cdv A outer s H E) [] σ' H' s'->x4k v u->Q v H'->CE outer P w H s Q u s':=
  fun {σ' H' v u} J rv q=>⟨v,H',J.os,J.bare,J.base,J.hok,rv,q⟩
 cases fl with
 | ret u=>
  obtain⟨v,σ',H',J,rv,q⟩:=hs
  exact fin J rv q
 | next=>
  obtain⟨σ',H',J,q⟩:=hs
  exact fin (v:=V.non) (u:=Value.none) J rfl q
 | brk=>
  obtain⟨_,_,_,q⟩:=hs
  exact False.elim q
 | cont=>
  obtain⟨_,_,_,q⟩:=hs
  exact False.elim q
section
variable {X:Cx} {x:Str} {p pos:Pos} {e:Expr} {es:List Expr} {t:TA} {id T:String} {r:List V->Hp->VK->Prop}
noncomputable def tCB (r:List V->Hp->VK->Prop) (t:TA):TE:=fun σ H Q=>t σ H fun vs H1=>r vs H1 Q
theorem x4u (hc:x94 X (.builtin id) r) (hg:Gl X x) (hm:X.mg x=none) (hv:bootBuiltins x=some (.builtin id)) (ha:PA X (e::es) t) (hn:x ≠ "__name__":=by decide) (hdb:(x == ("__debug__":Str))=false:=by decide)
  (he:starEach (e::es) X.env=(false,eval e X.env)::starEach es X.env:=by rfl) (hpl:(backTo pos (starEach es X.env)).any (·.1)=false:=by rfl):PE X (.Call (.Name x p) (e::es) [] pos) (tCB r t):=by
 intro pins s σ H Q I h
 refine wpAny_Call_Name_kw (y0m I hg hm hv ?_ hn hdb)
 exact PyProof.Rows.callWith_builtin1 (thn (ha pos pins s σ H _ I h) fun us s1 ⟨vs,H1,I1,r1,q1⟩=>hc pins s1 σ H1 vs us Q I1 r1 q1) he hpl
theorem x6a (hc:x94 X (.type T) r) (hg:Gl X x) (hm:X.mg x=none) (hv:bootBuiltins x=some (.type T)) (ha:PA X (e::es) t) (hn:x ≠ "__name__":=by decide) (hdb:(x == ("__debug__":Str))=false:=by decide)
  (he:starEach (e::es) X.env=(false,eval e X.env)::starEach es X.env:=by rfl) (hpl:(backTo pos (starEach es X.env)).any (·.1)=false:=by rfl):PE X (.Call (.Name x p) (e::es) [] pos) (tCB r t):=by
 intro pins s σ H Q I h
 refine wpAny_Call_Name_kw (y0m I hg hm hv ?_ hn hdb)
 exact PyProof.Rows.callWith_type1 (thn (ha pos pins s σ H _ I h) fun us s1 ⟨vs,H1,I1,r1,q1⟩=>hc pins s1 σ H1 vs us Q I1 r1 q1) he hpl
end
end L2
namespace HT
open PySem PyProof.Rows
section
open PySem.SeqAt
open PySem.AutoSeq1 (wpAny_loadPart')
open PySem.MeetsSeq PySem.MeetsSeq2 PySem.MeetsSeq3
end
section
variable {prog:Program} {w:World} {A:Around} {E:Value->Shared->Prop} {s:Shared}
theorem j5y {t b:Addr} {vs ws:List Value} {Q:Value->Shared->Prop} (ht:IsTup s.heap t vs.toArray) (hb:IsTup s.heap b ws.toArray) (hv:vs ≠ [])
  (h1:ws=[]->Q (.ref t) s) (h2:ws ≠ []->Q (.ref s.heap.objs.size) { s with heap:=s.heap.push { cls:=.type "tuple",data:=.seq (vs++ws).toArray } })
  (hsz:vs.length+ws.length<=sizeLine):wpAny (model prog w) A (binaryOp .Add (.ref t) (.ref b)) Q E s:=by
 obtain⟨⟨cls,dd,data,sl⟩,ho,hc,n,hd⟩:=id ht
 obtain⟨⟨cls2,dd2,data2,sl2⟩,ho2,hc2,n2,hd2⟩:=id hb
 simp only at hc hd hc2 hd2
 subst hc hd hc2 hd2
 have e:vs.toArray++ws.toArray=(vs++ws).toArray:=by simp
 by_cases hw:ws=[]
 ·exact concat_meets ⟨_,ho,rfl⟩ ⟨_,ho2,rfl⟩ noFill_tuple_add seq_tuple_add PySem.F.slot_tuple_add PySem.F.entry_tuple_add (PySem.F.args_tuple_add_2 _ _)
   (tuple_addW1 t b vs.toArray ws.toArray n n2 dd dd2 sl sl2 (by simpa using hv) (by simp[hw])) ⟨ho,ho2,h1 hw⟩
 ·refine concat_meets ⟨_,ho,rfl⟩ ⟨_,ho2,rfl⟩ noFill_tuple_add seq_tuple_add PySem.F.slot_tuple_add PySem.F.entry_tuple_add (PySem.F.args_tuple_add_2 _ _)
   (tuple_addW2 t b vs.toArray ws.toArray n n2 dd dd2 sl sl2 (by simpa using hv) (by simpa using hw) (by rw[List.size_toArray,List.size_toArray]; exact hsz)) ⟨ho,ho2,?_⟩
  rw[e]
  exact h2 hw
noncomputable def sIx (n d:Nat):Option Int->Nat
 | none=>d
 | some v=>if v<0 then(v+(n:Int)).toNat else min v.toNat n
theorem j0d (n d:Nat) (hd:d<=n) (o:Option Int):sIx n d o<=n:=by
 cases o with
 | none=>exact hd
 | some v=>
  show(if v<0 then(v+(n:Int)).toNat else min v.toNat n)<=n
  by_cases hv:v<0
  ·rw[if_pos hv]; omega
  ·rw[if_neg hv]; exact Nat.min_le_right _ _
theorem y9q (v:Int) (n d:Nat):(if v<0 then max (v+(n:Int)) 0 else min v (n:Int))=((sIx n d (some v):Nat):Int):=by
 show(if v<0 then max (v+(n:Int)) 0 else min v (n:Int))=(((if v<0 then(v+(n:Int)).toNat else min v.toNat n):Nat):Int)
 by_cases hv:v<0
 ·simp only[if_pos hv]; omega
 ·simp only[if_neg hv]; omega
theorem y8n (lo hi:Option Int) (n:Nat):Builtin.Slice.sliceAdjust lo hi 1 (n:Int)=(((sIx n 0 lo:Nat):Int),((sIx n n hi:Nat):Int)):=by
 have h1:¬ ((1:Int)<0):=by omega
 unfold Builtin.Slice.sliceAdjust
 simp only[h1,if_false]
 refine Prod.ext ?_ ?_
 ·cases lo with
  | none=>rfl
  | some v=>exact y9q v n 0
 ·cases hi with
  | none=>rfl
  | some v=>exact y9q v n n
theorem y8k (i j:Nat):Builtin.Slice.slicePlaces (i:Int) (j:Int) 1=j-i:=by
 unfold Builtin.Slice.slicePlaces
 have h1:(1:Int) > 0:=by omega
 simp only[h1,if_true,Int.ediv_one]
 split <;> omega
theorem y2i {v:Value} {o:Option Int} {Q:Option Int->Shared->Prop} (p:IsPart v o) (h:Q o s):wpAny (model prog w) A (Builtin.Slice.slicePartIndex v) Q E s:=by
 cases p with
 | none=>exact slicePart_none h
 | int i t=>exact slicePart_int h
theorem x9u {sl:Addr} {vl vu:Value} {lo hi:Option Int} {n:Nat} {Q:Int × Int × Nat->Shared->Prop} (hs:s.heap.IsSliceOf sl vl vu .none) (pl:IsPart vl lo) (pu:IsPart vu hi)
  (h:Q (((sIx n 0 lo:Nat):Int),1,sIx n n hi-sIx n 0 lo) s):wpAny (model prog w) A (Builtin.Slice.sliceApplied (.ref sl) (pure (n:Int))) Q E s:=by
 obtain⟨os,hos,hcs,hds⟩:=id hs
 unfold Builtin.Slice.sliceApplied Builtin.Slice.sliceFields
 refine wpAny_bind (wpAny_bind (wpAny_field hos hds (x:=vl) rfl (wpAny_bind (wpAny_field hos hds (x:=vu) rfl (wpAny_bind (wpAny_field hos hds (x:=.none) rfl (wpAny_pure ?_)))))))
 refine wpAny_bind (slicePart_none ?_)
 show wpAny _ _ (if((1:Int) == 0)=true then _ else _) _ _ s
 rw[if_neg (by decide)]
 refine wpAny_bind (y2i pl (wpAny_bind (y2i pu (wpAny_bind (wpAny_pure ?_)))))
 show wpAny _ _ (match Builtin.Slice.sliceAdjust lo hi 1 (n:Int)with | (lo,hi)=>pure (lo,(1:Int),Builtin.Slice.slicePlaces lo hi 1)) _ _ s
 rw[y8n lo hi n]
 show wpAny _ _ (pure (((sIx n 0 lo:Nat):Int),(1:Int),Builtin.Slice.slicePlaces ((sIx n 0 lo:Nat):Int) ((sIx n n hi:Nat):Int) 1)) _ _ s
 rw[y8k]
 exact wpAny_pure h
theorem z2q (xs:Array Value) (i k:Nat):((List.range k).filterMap fun(m:Nat)=>xs[((i:Int)+(m:Int)*1).toNat]?).toArray=((xs.toList.drop i).take k).toArray:=by
 have e:(fun(m:Nat)=>xs[((i:Int)+(m:Int)*1).toNat]?)=fun m=>xs[i+m]?:=by
  funext m
  have:((i:Int)+(m:Int)*1).toNat=i+m:=by omega
  rw[this]
 rw[e]
 have:=pick_run xs i k
 rw[List.filterMap_map]at this
 have e2:((fun x=>xs[x]?) ∘ fun x=>i+x)=fun m=>xs[i+m]?:=rfl
 rw[e2]at this
 rw[this]
theorem y80 {t sl:Addr} {items:Array Value} {vl vu:Value} {lo hi:Option Int} {Q:Value->Shared->Prop} (ht:IsTup s.heap t items) (hs:s.heap.IsSliceOf sl vl vu .none) (pl:IsPart vl lo) (pu:IsPart vu hi)
  (hw:¬ (sIx items.size 0 lo=0/\sIx items.size items.size hi=items.size))
  (h:Q (.ref s.heap.objs.size) { s with heap:=s.heap.push { cls:=.type "tuple",data:=.seq ((items.toList.drop (sIx items.size 0 lo)).take (sIx items.size items.size hi-sIx items.size 0 lo)).toArray } })
  (hsz:items.size<=sizeLine):wpAny (model prog w) A (getItem (.ref t) (.ref sl)) Q E s:=by
 have htake:sizeOk (.seq ((items.toList.drop (sIx items.size 0 lo)).take (sIx items.size items.size hi-sIx items.size 0 lo)).toArray):=by
  show((items.toList.drop (sIx items.size 0 lo)).take (sIx items.size items.size hi-sIx items.size 0 lo)).toArray.size<=sizeLine
  rw[List.size_toArray,List.length_take,List.length_drop,Array.length_toList]
  omega
 have hj:sIx items.size items.size hi<=items.size:=j0d _ _ (Nat.le_refl _) hi
 obtain⟨os,hos,hcs,hds⟩:=id hs
 have hTs:s.TypeIs (.ref sl) "slice":=⟨os,hos,hcs⟩
 unfold getItem
 try with_reducible refine wpAny_holding ?_
 first | refine wpAny_bind (wpAny_pure ?_) | skip
 refine wpAny_bind (wpAny_sequenceKey ht.typeIs (by decide) ?_)
 refine wpAny_bind (wpAny_callSpecial?_slot (name:=Str.ofString "__getitem__") ht.typeIs PyProof.Rows.slot_tuple_getitem
  (wpAny_call_entry PyProof.Rows.slot_tuple_getitem ht.typeIs entry_tuple_getitem ?_ (args_tuple_getitem _ _)))
 show wpAny _ _ (Builtin.Tuple.tupleItemsOf (.ref t) >>= _) _ _ s
 refine wpAny_bind (tupleItemsOf_ ht ?_)
 refine wpAny_bind (wpAny_typeOf hTs ?_)
 rw[if_pos (by decide)]
 refine wpAny_bind (x9u hs pl pu ?_)
 have hno:¬ ((((sIx items.size 0 lo:Nat):Int) == 0 && (1:Int) == 1 && (sIx items.size items.size hi-sIx items.size 0 lo) == items.size)=true):=by
  intro q
  rw[Bool.and_eq_true,Bool.and_eq_true]at q
  have q1:((sIx items.size 0 lo:Nat):Int)=0:=eq_of_beq q.1.1
  have q2:sIx items.size items.size hi-sIx items.size 0 lo=items.size:=eq_of_beq q.2
  exact hw ⟨by omega,by omega⟩
 show wpAny _ _ (if(((sIx items.size 0 lo:Nat):Int) == 0 && (1:Int) == 1 && (sIx items.size items.size hi-sIx items.size 0 lo) == items.size)=true then _ else _) _ _ s
 rw[if_neg hno,z2q]
 first
  | exact wpAny_bind (m:=Builtin.Tuple.tupleExact _) (wpAny_newObj_type (wpAny_pure ⟨_,rfl,wpAny_pure h⟩) htake)
  | exact wpAny_bind (m:=Builtin.Tuple.tupleExact _) (wpAny_newObj_type (wpAny_bind (wpAny_pure (wpAny_pure ⟨_,rfl,wpAny_pure h⟩))) htake)
  | exact wpAny_bind (wpAny_bind (m:=Builtin.Tuple.tupleExact _) (wpAny_newObj_type (wpAny_pure (wpAny_pure ⟨_,rfl,wpAny_pure h⟩)) htake))
  | exact wpAny_bind (wpAny_bind (m:=Builtin.Tuple.tupleExact _) (wpAny_newObj_type (wpAny_pure ⟨_,rfl,wpAny_pure h⟩) htake))
end
end HT
namespace L2
open PySem PySem.Spec PyProof.Rows
noncomputable abbrev TO:=St->Hp->(Option Int->Hp->Prop)->Prop
noncomputable def PO (X:Cx) (e:Option Expr) (t:TO):Prop:=
 ∀ (pins:List (Addr × Obj)) (s:Shared) (σ:St) (H:Hp) (Q:Option Int->Hp->Prop),Inv X pins σ H s->t σ H Q->
  wpAny (model X.prog X.w) X.A (evalPart e X.env) (fun u s'=>∃ o H',Inv X pins σ H' s'/\IsPart u o/\Q o H') X.xe s
noncomputable def z8e:TO:=fun _ H Q=>Q none H
noncomputable def j5j (t:TE):TO:=fun σ H Q=>t σ H fun x H1=>∃ i,x=.int i/\Q (some i) H1
section
variable {X:Cx} {e:Expr} {te:TE} {lo hi:Option Expr} {tl th:TO} {pos p2:Pos}
theorem z8d:PO X none z8e:=by
 intro pins s σ H Q I h
 rw[evalPart_none]
 exact wpAny_pure ⟨none,H,I,.none,h⟩
theorem z8a (h:PE X e te):PO X (some e) (j5j te):=by
 intro pins s σ H Q I hw
 rw[evalPart_some]
 refine thn (h pins s σ H _ I hw) fun u s1 hh0=>?_
 obtain⟨x,H1,I1,r1,q1⟩:=hh0
 obtain⟨i,rfl,q⟩:=q1
 obtain⟨t,rfl⟩:=r1
 exact⟨some i,H1,I1,.int i t,q⟩
noncomputable def SlR (X:Cx) (r:V->Option Int->Option Int->Hp->VK->Prop):Prop:=
 ∀ (pins:List (Addr × Obj)) (s:Shared) (σ:St) (H:Hp) (x:V) (v vl vu:Value) (lo hi:Option Int) (sl:Addr) (Q:VK),Inv X pins σ H s->x4k x v->s.heap.IsSliceOf sl vl vu .none->IsPart vl lo->IsPart vu hi->r x lo hi H Q->
  ∃ T id,typeLookup (.type T) "__getitem__" = pure (some (.builtin id))/\s.TypeIs v T/\wpAny (model X.prog X.w) X.A (getItem v (.ref sl)) (EP X pins σ Q) X.xe s
theorem SlR.or {r r':V->Option Int->Option Int->Hp->VK->Prop} (h:SlR X r) (h':SlR X r'):SlR X (fun x lo hi H Q=>r x lo hi H Q\/r' x lo hi H Q):=by
 intro pins s σ H x v vl vu lo hi sl Q I rx hs pl pu q
 rcases q with q | q
 ·exact h pins s σ H x v vl vu lo hi sl Q I rx hs pl pu q
 ·exact h' pins s σ H x v vl vu lo hi sl Q I rx hs pl pu q
noncomputable def tSl (r:V->Option Int->Option Int->Hp->VK->Prop) (te:TE) (tl th:TO):TE:=fun σ H Q=>te σ H fun x H1=>tl σ H1 fun l H2=>th σ H2 fun u H3=>r x l u H3 Q
theorem z53 {r:V->Option Int->Option Int->Hp->VK->Prop} (hr:SlR X r) (he:PE X e te) (hl:PO X lo tl) (hu:PO X hi th):PE X (.Subscript e (.Slice lo hi none p2) pos) (tSl r te tl th):=by
 intro pins s σ H Q I h
 refine Subscript_ (thn (he pins s σ H _ I h) fun v s1 hh0=>?_)
 obtain⟨x,H1,I1,r1,q1⟩:=hh0
 refine wpAny_Slice (thn (hl pins s1 σ H1 _ I1 q1) fun vl s2 ⟨l,H2,I2,pl,q2⟩=>thn (hu pins s2 σ H2 _ I2 q2) fun vu s3 hh0=>?_)
 obtain⟨u,H3,I3,pu,q3⟩:=hh0
 rw[evalPart_none]
 refine wpAny_pure ?_
 have I4:Inv X pins σ H3 { s3 with heap:=s3.heap.push { cls:=.type "slice",data:=.fields #[vl,vu,.none] } }:=I3.kept (t':=s3.toks) fun b ob q=>Heap.get?_push_of_some _ q
 obtain⟨T,id,hT,ht,hg⟩:=hr pins { s3 with heap:=s3.heap.push { cls:=.type "slice",data:=.fields #[vl,vu,.none] } } σ H3 x v vl vu l u s3.heap.objs.size Q I4 r1 (Heap.IsSliceOf.new ..) pl pu q3
 show wpAny (model X.prog X.w) X.A (subscriptTail e (.Slice lo hi none p2) v (.ref s3.heap.objs.size)) (EP X pins σ Q) X.xe { s3 with heap:=s3.heap.push { cls:=.type "slice",data:=.fields #[vl,vu,.none] } }
 exact tail_any (ops:=[.ref s3.heap.objs.size,v]) ht hT hg (by with_unfolding_all rfl)
noncomputable def z6g (xs:List V) (lo hi:Option Int):List V:=(xs.drop (HT.sIx xs.length 0 lo)).take (HT.sIx xs.length xs.length hi-HT.sIx xs.length 0 lo)
theorem y0u (xs:List V) (lo hi:Option Int):(z6g xs lo hi).length<=xs.length:=by
 unfold z6g
 rw[List.length_take,List.length_drop]
 omega
noncomputable def j75 (K:PySem.W.Frag):V->Option Int->Option Int->Hp->VK->Prop:=fun x lo hi H Q=>∃ a xs,x=.ref a/\SqT K H a xs /\
 ¬ (HT.sIx xs.length 0 lo=0/\HT.sIx xs.length xs.length hi=xs.length)/\∀ p,H p=none->Q (.ref p) (upd H p (.tup (z6g xs lo hi)))
theorem j2z:SlR X (j75 X.K):=by
 intro pins s σ H x v vl vu lo hi sl Q I rx hs pl pu h
 obtain⟨a,xs,rfl,hx,hw,q⟩:=h
 cases rx
 obtain⟨its,r,ht,hz⟩:=I.tuple hx
 have hlen:its.toArray.size=xs.length:=by rw[List.size_toArray]; exact r.length.symm
 refine⟨"tuple",_,PyProof.Rows.slot_tuple_getitem.lookup,ht.typeIs,?_⟩
 refine HT.y80 ht hs pl pu (by rw[hlen]; exact hw) ?_ (by rw[hlen]; exact hz)
 rw[hlen]
 refine⟨.ref s.heap.objs.size,_,I.laid (t':=s.toks) (o:=.tup (z6g xs lo hi)) (fun b ob q=>Heap.get?_push_of_some _ q) (Nat.le_refl _) ?_,rfl,q _ (I.hok.fresh (Nat.le_refl _))⟩
 exact⟨Nat.le_trans (y0u xs lo hi) hz,_,(r.drop (HT.sIx xs.length 0 lo)).take (HT.sIx xs.length xs.length hi-HT.sIx xs.length 0 lo),x5t.new _ _⟩
noncomputable def j63 (K:PySem.W.Frag):R2:=fun x y H Q=>∃ a b xs ys,x=.ref a/\y=.ref b/\SqT K H a xs/\SqT K H b ys/\xs ≠ []/\xs.length+ys.length<=sizeLine /\
 (ys=[]->Q (.ref a) H)/\(ys ≠ []->∀ p,H p=none->Q (.ref p) (upd H p (.tup (xs++ys))))
theorem x2h.nil_iff {xs:List V} {us:List Value} (r:x2h xs us):us=[] ↔ xs=[]:=by
 cases r with
 | nil=>simp
 | cons _ _=>simp
theorem z6j:OpR X (binaryOp .Add) (j63 X.K):=by
 intro pins s σ H x y v u Q I rx ry h
 obtain⟨a,b,xs,ys,rfl,rfl,ha,hb,hx,hz,q1,q2⟩:=h
 cases rx
 cases ry
 obtain⟨its,r1,p1,_⟩:=I.tuple ha
 obtain⟨its2,r2,p2,_⟩:=I.tuple hb
 refine HT.j5y p1 p2 (fun z=>hx (r1.nil_iff.mp z)) (fun z=>⟨.ref a,H,I,rfl,q1 (r2.nil_iff.mp z)⟩) (fun z=>?_) (by rw[<- r1.length,<- r2.length]; exact hz)
 refine⟨.ref s.heap.objs.size,_,I.laid (t':=s.toks) (o:=.tup (xs++ys)) (fun b ob q=>Heap.get?_push_of_some _ q) (Nat.le_refl _) ?_,rfl,q2 (fun w=>z (r2.nil_iff.mpr w)) _ (I.hok.fresh (Nat.le_refl _))⟩
 exact⟨by rw[List.length_append]; exact hz,_,r1.append r2,x5t.new _ _⟩
end
noncomputable def ixN (n:Nat) (i:Int):Option Nat:=if 0<=i then(if i<n then some i.toNat else none)else if -(n:Int)<=i then some (i+n).toNat else none
noncomputable def atI {α:Type} (xs:List α) (i:Int):Option α:=(ixN xs.length i).bind fun j=>xs[j]?
theorem y5b {n:Nat} {i:Int} {j:Nat} (h:ixN n i=some j):seqIndex? i n=some j/\j<n /\ -(n:Int)<=i/\i<n:=by
 unfold ixN at h
 by_cases h0:0<=i
 ·rw[if_pos h0]at h
  by_cases h1:i<n
  ·rw[if_pos h1]at h
   have e:i.toNat=j:=Option.some.inj h
   exact⟨by rw[seqIndex_of h0 h1,e],by omega,by omega,h1⟩
  ·rw[if_neg h1]at h; cases h
 ·rw[if_neg h0]at h
  by_cases h1:-(n:Int)<=i
  ·rw[if_pos h1]at h
   have e:(i+n).toNat=j:=Option.some.inj h
   exact⟨by rw[seqIndex_neg (by omega) h1,e],by omega,h1,by omega⟩
  ·rw[if_neg h1]at h; cases h
theorem y5a {α:Type} {xs:List α} {i:Int} {v:α} (h:atI xs i=some v):∃ j,seqIndex? i xs.length=some j/\xs[j]? = some v/\j<xs.length /\ -(xs.length:Int)<=i/\i<xs.length:=by
 unfold atI at h
 cases e:ixN xs.length i with
 | none=>rw[e]at h; cases h
 | some j=>
  rw[e]at h
  obtain⟨h1,h2,h3,h4⟩:=y5b e
  exact⟨j,h1,h,h2,h3,h4⟩
noncomputable def x5m (b:Expr):Prop:=∀ o i,subscripted b false o i=operate [o,i] (getItem o i)
noncomputable def IxR (X:Cx) (r:R2):Prop:=
 ∀ (value slice:Expr) (pins:List (Addr × Obj)) (s:Shared) (σ:St) (H:Hp) (x y:V) (v u:Value) (Q:VK),Inv X pins σ H s->x4k x v->x4k y u->r x y H Q->
  subscripted slice false v u=operate [v,u] (getItem v u)->wpAny (model X.prog X.w) X.A (subscriptTail value slice v u) (EP X pins σ Q) X.xe s
noncomputable def MtR (X:Cx) (id:String) (r:V->List V->Hp->VK->Prop):Prop:=
 ∀ (pins:List (Addr × Obj)) (s:Shared) (σ:St) (H:Hp) (x:V) (xs:List V) (v:Value) (us:List Value) (Q:VK),Inv X pins σ H s->x4k x v->x2h xs us->r x xs H Q->
  wpAny (model X.prog X.w) X.A (call (.builtin id) (v::us)) (EP X pins σ Q) X.xe s
section
variable {X:Cx} {a b:Expr} {ta tb:TE} {pos:Pos}
theorem IxR.or {r r':R2} (h:IxR X r) (h':IxR X r'):IxR X (fun x y H Q=>r x y H Q\/r' x y H Q):=by
 intro value slice pins s σ H x y v u Q I rx ry q hs
 rcases q with q | q
 ·exact h value slice pins s σ H x y v u Q I rx ry q hs
 ·exact h' value slice pins s σ H x y v u Q I rx ry q hs
theorem z29 {r:R2} (hr:IxR X r) (ha:PE X a ta) (hb:PE X b tb) (hs:x5m b):PE X (.Subscript a b pos) (tOp r ta tb):=by
 intro pins s σ H Q I h
 exact Subscript_ (j64 ha hb I h fun v u s2 x y H2 I2 rx ry q=>hr a b pins s2 σ H2 x y v u Q I2 rx ry q (hs _ _))
noncomputable def j6k (K:PySem.W.Frag):R2:=fun x y H Q=>∃ p xs i v,x=.ref p/\y=.int i/\SqL K H p xs/\atI xs i=some v/\Q v H
noncomputable def j6r (K:PySem.W.Frag):R2:=fun x y H Q=>∃ p xs i v,x=.ref p/\y=.int i/\SqT K H p xs/\atI xs i=some v/\Q v H
noncomputable def j6o:R2:=fun x y H Q=>∃ z i c,x=.str z/\y=.int i/\z.length<=sizeLine/\atI z.cps.toList i=some c/\Q (.str ⟨#[c]⟩) H
theorem z7x:IxR X (j6k X.K):=by
 intro value slice pins s σ H x y v u Q I rx ry h hs
 obtain⟨p,xs,i,z,rfl,rfl,hq,he,q⟩:=h
 cases rx
 obtain⟨t,rfl⟩:=ry
 obtain⟨its,r,pl,hz⟩:=I.list hq
 obtain⟨j,h1,h2,h3,h4,h5⟩:=y5a he
 obtain⟨w,ew,rw'⟩:=r.get h2
 have hl:=r.length
 have hn:=y2f
 have fin:EP X pins σ Q w s:=⟨z,H,I,rw',q⟩
 by_cases h0:0<=i
 ·have hj:i.toNat=j:=by
   rw[seqIndex_of h0 h5]at h1
   exact Option.some.inj h1
  exact item_listR pl.isList h0 (by omega) (by rw[hj]; simpa using ew) fin hs
 ·have hj:(i+(its.toArray.size:Int)).toNat=j:=by
   rw[seqIndex_neg (by omega) h4]at h1
   rw[List.size_toArray,<- hl]
   exact Option.some.inj h1
  exact subscriptTail_builtinR (x:=w) pl.isList.typeIs slot_list_getitem.lookup
   (wpAny_getItem_list_neg (Q:=fun r s'=>r=w/\EP X pins σ Q r s') pl.isList (by omega) (by rw[List.size_toArray] <;> omega) (by omega) (by rw[hj]; simpa using ew) ⟨rfl,fin⟩) hs
theorem j0w:IxR X (j6r X.K):=by
 intro value slice pins s σ H x y v u Q I rx ry h hs
 obtain⟨p,xs,i,z,rfl,rfl,hq,he,q⟩:=h
 cases rx
 obtain⟨t,rfl⟩:=ry
 obtain⟨its,r,pl,hz⟩:=I.tuple hq
 obtain⟨j,h1,h2,h3,h4,h5⟩:=y5a he
 obtain⟨w,ew,rw'⟩:=r.get h2
 have hl:=r.length
 have hn:=y2f
 have fin:EP X pins σ Q w s:=⟨z,H,I,rw',q⟩
 exact subscriptTail_builtinR (x:=w) pl.typeIs slot_tuple_getitem.lookup
  (getItem_tuple (j:=j) (Q:=fun r s'=>r=w/\EP X pins σ Q r s') pl (by omega) (by omega) (by rw[List.size_toArray,<- hl]; exact h1) (by simpa using ew) ⟨rfl,fin⟩) hs
theorem j0a:IxR X j6o:=by
 intro value slice pins s σ H x y v u Q I rx ry h hs
 obtain⟨z,i,c,rfl,rfl,hz,he,q⟩:=h
 obtain⟨t,rfl⟩:=rx
 obtain⟨t',rfl⟩:=ry
 obtain⟨j,h1,h2,h3,h4,h5⟩:=y5a he
 have hl:z.cps.toList.length=z.length:=by simp[Str.length]
 rw[hl]at h1 h4 h5
 have hn:=y2f
 exact tail_any (typeIs_str s z t) slot_str_getitem.lookup (getItem_str (c:=c) (by
  have e1:decide (i < -(2 ^ 63:Int))=false:=decide_eq_false (by omega)
  have e2:decide (i ≥ 2 ^ 63)=false:=decide_eq_false (by omega)
  rw[e1,e2,Bool.or_false]) (by rw[h1]; simpa using h2) ⟨.str ⟨#[c]⟩,H,I.tok _,⟨_,rfl⟩,q⟩) hs
noncomputable def rIx (K:PySem.W.Frag):R2:=fun x y H Q=>j6k K x y H Q\/j6r K x y H Q\/j6o x y H Q
theorem y7l:IxR X (rIx X.K):=z7x.or (j0w.or j0a)
theorem y8v (its:List Value) (n j:Nat) (u:Value):Obj.mapSeq (·.setIfInBounds j u) { cls:=.type "list",data:=.seq its.toArray n }={ cls:=.type "list",data:=.seq (its.set j u).toArray n }:=by
 simp[Obj.mapSeq]
theorem Inv.lst {pins:List (Addr × Obj)} {σ:St} {H:Hp} {s:Shared} {p:Addr} {xs:List V} (I:Inv X pins σ H s) (h:H p=some (.lst xs)) :
  ∃ (its:List Value) (n:Nat),x2h xs its/\s.heap.get? p=some { cls:=.type "list",data:=.seq its.toArray n }/\xs.length<=sizeLine:=by
 obtain⟨z,its,n,r,e⟩:=I.hok p _ h
 exact⟨its,n,r,e,z⟩
theorem Inv.lstUpd {pins:List (Addr × Obj)} {σ:St} {H:Hp} {s:Shared} {p:Addr} {xs ys:List V} {its its':List Value} {n n':Nat} {f:Obj->Obj} (I:Inv X pins σ H s) (h:H p=some (.lst xs))
  (ho:s.heap.get? p=some { cls:=.type "list",data:=.seq its.toArray n }) (hf:f { cls:=.type "list",data:=.seq its.toArray n }={ cls:=.type "list",data:=.seq its'.toArray n' }) (r:x2h ys its') (hz:ys.length<=sizeLine) (t:Nat) :
  Inv X pins σ (upd H p (.lst ys)) { s with heap:=s.heap.update p f,toks:=t }:=by
 have e:(s.heap.update p f).get? p=some { cls:=.type "list",data:=.seq its'.toArray n' }:=by
  rw[Heap.get?_update_self f ho (by rw[hf] <;> rfl),hf]
 refine I.write (x:=p) (e:=p) (by rw[h]; trivial) (.inl rfl) (fun b u hb q=>(Heap.get?_update_other _ _ (Ne.symm hb)).trans q) ⟨_,e⟩ ?_
 exact⟨hz,its',n',r,e⟩
noncomputable def j5q:V->V->V->Hp->(Hp->Prop)->Prop:=fun o i v H Q=>∃ p xs k j,o=.ref p/\i=.int k/\H p=some (.lst xs)/\ixN xs.length k=some j/\Q (upd H p (.lst (xs.set j v)))
theorem z3z:j6u X j5q:=by
 intro pins s σ H o i v ov iv u Q I ro ri rv h
 obtain⟨p,xs,k,j,rfl,rfl,hp,hj,q⟩:=h
 cases ro
 obtain⟨t,rfl⟩:=ri
 obtain⟨its,n,r,ho,hz⟩:=I.lst hp
 obtain⟨h1,h2,h3,h4⟩:=y5b hj
 have hl:=r.length
 have hn:=y2f
 have I':Inv X pins σ (upd H p (.lst (xs.set j v))) { s with heap:=s.heap.update p (Obj.mapSeq (·.setIfInBounds j u)) }:=
  I.lstUpd hp ho (y8v its n j u) (r.set rv j) (by rw[List.length_set]; exact hz) s.toks
 by_cases h0:0<=k
 ·have hk:k.toNat=j:=by
   rw[seqIndex_of h0 h4]at h1
   exact Option.some.inj h1
  exact PySem.W.ki_setAt ho h0 (by omega) (by rw[List.size_toArray,<- hl]; exact h4) (by rw[hk]; exact⟨_,I',q⟩)
 ·have hk:(k+(its.toArray.size:Int)).toNat=j:=by
   rw[seqIndex_neg (by omega) h3]at h1
   rw[List.size_toArray,<- hl]
   exact Option.some.inj h1
  exact PySem.W.ki_setBack ho (by omega) (by rw[List.size_toArray,<- hl]; exact h3) (by omega) (by rw[hk]; exact⟨_,I',q⟩)
theorem y52 (lo hi:Option Int) (n:Nat):(sliceBounds lo hi none n).1=((HT.sIx n 0 lo:Nat):Int)/\(sliceBounds lo hi none n).2.1=((HT.sIx n n hi:Nat):Int)/\(sliceBounds lo hi none n).2.2=1:=by
 refine⟨?_,?_,rfl⟩
 ·cases lo with
  | none=>simp[sliceBounds,HT.sIx]
  | some i=>
   simp only[sliceBounds,HT.sIx,Option.getD_none,show(1:Int) > 0 by decide,if_true]
   by_cases h:i<0
   ·simp only[h,if_true] <;> omega
   ·simp only[h,if_false] <;> omega
 ·cases hi with
  | none=>simp[sliceBounds,HT.sIx]
  | some i=>
   simp only[sliceBounds,HT.sIx,Option.getD_none,show(1:Int) > 0 by decide,if_true]
   by_cases h:i<0
   ·simp only[h,if_true] <;> omega
   ·simp only[h,if_false] <;> omega
theorem y2y (its:List Value) (lo hi:Option Int):slicePick its.toArray lo hi none=((its.drop (HT.sIx its.length 0 lo)).take (HT.sIx its.length its.length hi-HT.sIx its.length 0 lo)).toArray:=by
 obtain⟨h1,h2,h3⟩:=y52 lo hi its.toArray.size
 unfold slicePick
 rw[h1,h2,h3]
 simp only[sliceRange_one,pick_run,List.size_toArray] <;> rfl
noncomputable def j76 (K:PySem.W.Frag):V->Option Int->Option Int->Hp->VK->Prop:=fun x lo hi H Q=>∃ a xs,x=.ref a/\SqL K H a xs/\∀ p,H p=none->Q (.ref p) (upd H p (.lst (z6g xs lo hi)))
theorem j4n:SlR X (j76 X.K):=by
 intro pins s σ H x v vl vu lo hi sl Q I rx hs pl pu h
 obtain⟨a,xs,rfl,hx,q⟩:=h
 cases rx
 obtain⟨its,r,ht,hz⟩:=I.list hx
 have hlen:=r.length
 refine⟨"list",_,slot_list_getitem.lookup,ht.isList.typeIs,?_⟩
 refine wpAny_getItem_list_slice ht.isList hs pl pu .none (by simp) ?_ (by rw[List.size_toArray] <;> omega)
 rw[y2y,<- hlen]
 refine⟨.ref s.heap.objs.size,_,I.laid (t':=s.toks) (o:=.lst (z6g xs lo hi)) (fun b ob q=>Heap.get?_push_of_some _ q) (Nat.le_refl _) ?_,rfl,q _ (I.hok.fresh (Nat.le_refl _))⟩
 exact⟨Nat.le_trans (y0u xs lo hi) hz,_,0,(r.drop (HT.sIx xs.length 0 lo)).take (HT.sIx xs.length xs.length hi-HT.sIx xs.length 0 lo),Heap.get?_push_size _ rfl⟩
theorem x9k:x94 X (.builtin "len") (fun xs H Q=>∃ p ys,xs=[.ref p]/\(SqL X.K H p ys\/SqT X.K H p ys)/\Q (.int ys.length) H):=by
 intro pins s σ H xs us Q I r h
 obtain⟨p,ys,rfl,hq,q⟩:=h
 obtain⟨u,rfl,rx⟩:=y3h r
 cases rx
 have hn:=y2f
 rcases hq with hq | hq
 ·obtain⟨its,r',pl,hz⟩:=I.list hq
  have hlen:=r'.length
  exact Calls.call_len_list pl.isList (by simp only[List.size_toArray] <;> omega) ⟨.int ys.length,H,I.tok _,⟨s.toks+1,by rw[List.size_toArray,hlen]⟩,q⟩
 ·obtain⟨its,r',pl,hz⟩:=I.tuple hq
  have hlen:=r'.length
  exact len_tuple pl (by simp only[List.size_toArray] <;> omega) ⟨.int ys.length,H,I.tok _,⟨s.toks+1,by rw[List.size_toArray,hlen]⟩,q⟩
theorem x9p:x94 X (.type "list") (fun xs H Q=>∃ p ys,xs=[.ref p]/\(SqL X.K H p ys\/SqT X.K H p ys)/\∀ l,H l=none->Q (.ref l) (upd H l (.lst ys))):=by
 intro pins s σ H xs us Q I r h
 obtain⟨p,ys,rfl,hq,q⟩:=h
 obtain⟨u,rfl,rx⟩:=y3h r
 cases rx
 have fin:∀ (its:List Value),x2h ys its->ys.length<=sizeLine->∀ (h':Heap) (c':Nat),(∀ b o',s.heap.get? b=some o'->h'.get? b=some o')->
   h'.get? s.heap.objs.size=some { cls:=.type "list",dict:=none,data:=.seq its.toArray c',slots:=#[] }->EP X pins σ Q (.ref s.heap.objs.size) { s with heap:=h' }:=fun its r' hz h' c' kp e=>
  ⟨.ref s.heap.objs.size,_,I.laid (t':=s.toks) kp (Nat.le_refl _) (show x3n X.prog X.w _ h' _ (.lst ys)from⟨hz,its,c',r',e⟩),rfl,q _ (I.hok.fresh (Nat.le_refl _))⟩
 rcases hq with hq | hq
 ·obtain⟨its,r',pl,hz⟩:=I.list hq
  have hlen:=r'.length
  obtain⟨o,ho,hc,n,hd⟩:=pl.isList
  exact call_list_seq p (.inl rfl) ho hc hd (fun h' c' kp e=>fin its r' hz h' c' kp e) (by simp only[List.size_toArray] <;> omega)
 ·obtain⟨its,r',pl,hz⟩:=I.tuple hq
  have hlen:=r'.length
  obtain⟨o,ho,hc,n,hd⟩:=pl
  exact call_list_seq p (.inr rfl) ho hc hd (fun h' c' kp e=>fin its r' hz h' c' kp e) (by simp only[List.size_toArray] <;> omega)
theorem y2x:x94 X (.type "tuple") (fun xs H Q=>∃ p ys,xs=[.ref p]/\((SqL X.K H p ys/\∀ l,H l=none->Q (.ref l) (upd H l (.tup ys)))\/(SqT X.K H p ys/\Q (.ref p) H))):=by
 intro pins s σ H xs us Q I r h
 obtain⟨p,ys,rfl,h⟩:=h
 obtain⟨u,rfl,rx⟩:=y3h r
 cases rx
 rcases h with⟨hq,q⟩ | ⟨hq,q⟩
 ·obtain⟨its,r',pl,hz⟩:=I.list hq
  have hlen:=r'.length
  refine call_tuple_list pl.isList (fun h' kp=>?_) (by simp only[List.size_toArray] <;> omega)
  have I1:Inv X pins σ H { s with heap:=h' }:=I.kept (t':=s.toks) kp
  have I2:Inv X pins σ (upd H h'.objs.size (.tup ys)) { s with heap:=h'.push { cls:=.type "tuple",data:=.seq its.toArray } }:=
   I1.laid (t':=s.toks) (fun b o e=>Heap.get?_push_of_some _ e) (Nat.le_refl _) (show x3n X.prog X.w _ _ _ (.tup ys)from⟨hz,its,r',x5t.new _ _⟩)
  exact⟨.ref h'.objs.size,_,I2,rfl,q _ (I1.hok.fresh (Nat.le_refl _))⟩
 ·obtain⟨its,r',pl,hz⟩:=I.tuple hq
  exact call_tuple_same pl ⟨.ref p,H,I,rfl,q⟩
noncomputable def tyV (K:PySem.W.Frag) (T:String) (x:V) (H:Hp):Prop:=match x with
 | .str _=>T = "str"
 | .int _=>T = "int"
 | .ref p=>(T = "list" /\ ∃ xs,SqL K H p xs)\/(T = "tuple" /\ ((∃ o,K.lookup p=some o/\o.cls=.type "tuple" /\ o.dict=none)\/∃ xs,H p=some (.tup xs))) \/
   (T = "dict" /\ ((∃ kvs,H p=some (.dK kvs))\/∃ kvs,H p=some (.dT kvs)))\/(T = "set" /\ ∃ S n,H p=some (.set S n))
 | _=>False
theorem j05 {pins:List (Addr × Obj)} {σ:St} {H:Hp} {s:Shared} {T:String} {x:V} {v:Value} (I:Inv X pins σ H s) (r:x4k x v) (ty:tyV X.K T x H) :
  s.TypeIs v T/\∀ a,v=.ref a->∃ ob,s.heap.get? a=some ob/\ob.dict=none:=by
 cases x with
 | str z=>
  obtain⟨t,rfl⟩:=r
  cases (show T = "str" from ty)
  exact⟨typeIs_str s z t,fun _ e=>nomatch e⟩
 | int i=>
  obtain⟨t,rfl⟩:=r
  cases (show T = "int" from ty)
  exact⟨typeIs_int s i t,fun _ e=>nomatch e⟩
 | ref p=>
  cases r
  rcases ty with⟨rfl,xs,hq⟩ | ⟨rfl,⟨o,hk,hc,hd⟩ | ⟨xs,hk⟩⟩ | ⟨rfl,hk⟩ | ⟨rfl,S,n,hk⟩
  ·obtain⟨its,_,pl,_⟩:=I.list hq
   refine⟨pl.isList.typeIs,fun a e=>?_⟩
   cases e
   obtain⟨o,n,e,c,hd,_⟩:=pl
   exact⟨o,e,hd⟩
  ·refine⟨⟨o,I.kIn p o hk,hc⟩,fun a e=>?_⟩
   cases e
   exact⟨o,I.kIn _ o hk,hd⟩
  ·obtain⟨_,its,_,o,e,c,_,hd⟩:=(show x3n X.prog X.w H s.heap p (.tup xs)from I.hok p _ hk)
   refine⟨⟨o,e,c⟩,fun a e2=>?_⟩
   cases e2
   exact⟨o,e,hd⟩
  ·have z:∃ o,s.heap.get? p=some o/\o.ExactDict:=by
    rcases hk with⟨kvs,hk⟩ | ⟨kvs,hk⟩
    ·obtain⟨_,_,_,_,o,_,_,e,ex,_⟩:=I.hok p _ hk
     exact⟨o,e,ex⟩
    ·obtain⟨_,_,_,_,o,_,_,e,ex,_⟩:=I.hok p _ hk
     exact⟨o,e,ex⟩
   obtain⟨o,e,ex⟩:=z
   refine⟨⟨o,e,ex.1⟩,fun a e2=>?_⟩
   cases e2
   exact⟨o,e,ex.2.1⟩
  ·obtain⟨o,_,_,_,e,ex,_⟩:=I.hok p _ hk
   refine⟨⟨o,e,ex.1⟩,fun a e2=>?_⟩
   cases e2
   exact⟨o,e,ex.2.1⟩
 | _=>exact False.elim ty
noncomputable def tBM (K:PySem.W.Frag) (T:String) (r:V->List V->Hp->VK->Prop) (to:TE) (t:TA):TE:=fun σ H Q=>to σ H fun x H1=>tyV K T x H1/\t σ H1 fun xs H2=>r x xs H2 Q
variable {o e:Expr} {es:List Expr} {to:TE} {t:TA} {name:Str} {apos cpos:Pos} {T id:String} {r:V->List V->Hp->VK->Prop}
theorem z01 (pa:PlainAttrs T) (slot:Slot T name id) (hty:typeOf (.builtin id)=pure (.type "method_descriptor")) (hm:MtR X id r) (ho:PE X o to) (ha:PA X (e::es) t)
  (hbase:attributeBase o name X.env (eval o X.env)=eval o X.env:=by rfl)
  (hfew:((backTo cpos (starEach (e::es) X.env)).all (fun x=>!x.1) && (backToKw cpos (keywordEach [] X.env)).all (fun x=>x.1.isSome)
    && decide ((e::es).length+([]:List Keyword).length+(if([]:List Keyword).isEmpty then 0 else 1)<30))=true:=by rfl)
  (hline:(apos.endLine == cpos.line)=true:=by rfl) (hs:starEach (e::es) X.env=(false,eval e X.env)::starEach es X.env:=by rfl) (hplain:(backTo cpos (starEach es X.env)).any (·.1)=false:=by rfl) :
  PE X (.Call (.Attribute o name apos) (e::es) [] cpos) (tBM X.K T r to t):=by
 intro pins s σ H Q I h
 refine wpAny_Call_method_late hbase hfew hline rfl (thn (ho pins s σ H _ I h) fun v s1 hh0=>?_)
 obtain⟨x,H1,I1,r1,ty,q1⟩:=hh0
 obtain⟨h1,h2⟩:=j05 I1 r1 ty
 refine⟨T,id,pa,slot,hty,h1,h2,?_⟩
 have hA:=ha cpos pins s1 σ H1 _ I1 q1
 rw[hs]at hA ⊢
 refine Calls.callWith_builtin (by show(false || (backTo cpos (starEach es X.env)).any (·.1))=false; rw[hplain] <;> rfl) (Calls.evalArgs_plain ?_)
 exact thn hA fun us s2 ⟨vs,H2,I2,r2,q2⟩=>hm pins s2 σ H2 x vs v us Q I2 r1 r2 q2
end
noncomputable def MtM (X:Cx) (id:String) (r:V->List V->Hp->VK->Prop):Prop:=
 ∀ (pins:List (Addr × Obj)) (s:Shared) (σ:St) (H:Hp) (x:V) (xs:List V) (v:Value) (us:List Value) (Q:VK),Inv X pins σ H s->x4k x v->x2h xs us->r x xs H Q->
  wpAny (model X.prog X.w) X.A (call (.builtin id) (v::us)) (EP X pins σ Q) X.xe s
theorem x2h.one:∀ {x:V} {us:List Value},x2h [x] us->∃ u,us=[u]/\x4k x u
 | _,_,.cons r .nil=>⟨_,rfl,r⟩
theorem x2h.eraseIdx:∀ {xs:List V} {us:List Value} (i:Nat),x2h xs us->x2h (xs.eraseIdx i) (us.eraseIdx i)
 | _,_,_,.nil=>.nil
 | _,_,0,.cons _ t=>t
 | _,_,i+1,.cons r t=>.cons r (x2h.eraseIdx i t)
theorem x2h.rep {xs:List V} {us:List Value} (h:x2h xs us):∀ k:Nat,x2h (List.replicate k xs).flatten (List.replicate k us).flatten
 | 0=>.nil
 | k+1=>by
  rw[List.replicate_succ,List.replicate_succ,List.flatten_cons,List.flatten_cons]
  exact x2h.append h (x2h.rep h k)
theorem y3x {α:Type}:∀ (l:List α) (i:Nat),(l.eraseIdx i).length<=l.length
 | [],_=>Nat.le_refl _
 | _::_,0=>Nat.le_succ _
 | _::r,i+1=>Nat.succ_le_succ (y3x r i)
theorem y0j (its:List Value):∀ (k:Nat) (acc:List Value),
  List.foldl (fun x1 x2=>x1++x2) acc.toArray (List.replicate k its.toArray)=(acc++(List.replicate k its).flatten).toArray
 | 0,acc=>by simp
 | k+1,acc=>by
  have e:acc.toArray++its.toArray=(acc++its).toArray:=by simp
  have e2:(acc++its)++(List.replicate k its).flatten=acc++(List.replicate (k+1) its).flatten:=by
   rw[List.replicate_succ,List.flatten_cons,List.append_assoc]
  rw[<- e2,<- y0j its k (acc++its),<- e,List.replicate_succ,List.foldl_cons]
section
variable {X:Cx} {pins:List (Addr × Obj)} {σ:St} {H:Hp} {s:Shared} {l b:Addr} {xs ys zs:List V}
theorem Inv.lset {its its':List Value} {n:Nat} {f:Array Value->Array Value} {t':Nat} (I:Inv X pins σ H s) (hH:H l=some (.lst xs))
  (e:s.heap.get? l=some { cls:=.type "list",data:=.seq its.toArray n }) (hf:f its.toArray=its'.toArray) (hv:x2h ys its') (hz:ys.length<=sizeLine) :
  Inv X pins σ (upd H l (.lst ys)) { s with heap:=s.heap.update l (Obj.mapSeq f),toks:=t' }:=by
 have q:=PySem.IsL.update e f
 rw[hf]at q
 refine I.write (x:=l) (e:=l) (by rw[hH]; exact trivial) (.inl rfl) (fun b' u hb hu=>(Heap.get?_update_other s.heap (Obj.mapSeq f) (Ne.symm hb)).trans hu) ⟨_,q⟩ ?_
 exact⟨hz,its',_,hv,q⟩
theorem Inv.lnew {its:List Value} {t':Nat} (I:Inv X pins σ H s) (hv:x2h ys its) (hz:ys.length<=sizeLine) :
  Inv X pins σ (upd H s.heap.objs.size (.lst ys)) { s with heap:=s.heap.push { cls:=.type "list",data:=.seq its.toArray },toks:=t' }:=
 I.laid (fun _ _ q=>Heap.get?_push_of_some _ q) (Nat.le_refl _) ⟨hz,its,0,hv,Heap.get?_push_size _ rfl⟩
theorem Inv.fresh (I:Inv X pins σ H s):H s.heap.objs.size=none:=I.hok.fresh (Nat.le_refl _)
theorem Inv.lstM (I:Inv X pins σ H s) (hH:H l=some (.lst xs)):xs.length<=sizeLine/\∃ (its:List Value) (n:Nat),x2h xs its/\xs.length=its.length/\s.heap.get? l=some { cls:=.type "list",data:=.seq its.toArray n }:=by
 obtain⟨z,its,n,r,e⟩:=I.hok l _ hH
 exact⟨z,its,n,r,r.length,e⟩
theorem y74 {n:Nat} (h:n<=sizeLine):Builtin.List.listTooLong n=false:=by
 unfold Builtin.List.listTooLong
 exact decide_eq_false (by omega)
end
section
variable {X:Cx}
noncomputable def z6t:V->List V->Hp->VK->Prop:=fun x vs H Q=>∃ l xs y,x=.ref l/\vs=[y]/\H l=some (.lst xs)/\xs.length<sizeLine/\Q .non (upd H l (.lst (xs++[y])))
theorem y9l:MtM X "list.append" z6t:=by
 intro pins s σ H x vs v us Q I rx rv h
 obtain⟨l,xs,y,rfl,rfl,hH,hz,q⟩:=h
 cases rx
 obtain⟨u,rfl,ru⟩:=rv.one
 obtain⟨z,its,n,r,hl,e⟩:=I.lstM hH
 refine call_meets F.slot_list_append ⟨_,e,rfl⟩ F.entry_list_append (F.args_list_append_2 _ _) (PySem.list_append l its.toArray n u (by rw[List.size_toArray]; omega)) ⟨e,?_⟩
 refine⟨.non,_,I.lset (its':=its++[u]) hH e (by simp) (r.append (.cons ru .nil)) ?_,rfl,q⟩
 rw[List.length_append,List.length_singleton]
 omega
noncomputable def z7j:V->List V->Hp->VK->Prop:=fun x vs H Q=>∃ l b xs zs,x=.ref l/\vs=[.ref b]/\H l=some (.lst xs)/\H b=some (.lst zs)/\xs.length+zs.length<=sizeLine/\Q .non (upd H l (.lst (xs++zs)))
theorem z1p:MtM X "list.extend" z7j:=by
 intro pins s σ H x vs v us Q I rx rv h
 obtain⟨l,b,xs,zs,rfl,rfl,hH,hB,hz,q⟩:=h
 cases rx
 obtain⟨u,rfl,ru⟩:=rv.one
 cases ru
 obtain⟨z,its,n,r,hl,e⟩:=I.lstM hH
 obtain⟨z2,its2,n2,r2,hl2,e2⟩:=I.lstM hB
 have hsz:its.toArray.size+its2.toArray.size<=sizeLine:=by rw[List.size_toArray,List.size_toArray]; omega
 have hlong:¬ (!its.toArray.isEmpty && Builtin.List.listTooLong (its.toArray.size+its2.toArray.size))=true:=by
  rw[y74 hsz,Bool.and_false]
  exact Bool.false_ne_true
 refine call_meets F.slot_list_extend ⟨_,e,rfl⟩ F.entry_list_extend (F.args_list_extend_2 _ _)
  (AutoSeq1.list_extend_list_list_0 l its.toArray n b its2.toArray n2 hlong (by rw[List.size_toArray]; omega) (by omega)) ⟨e,e2,?_⟩
 refine⟨.non,_,I.lset (its':=its++its2) hH e (by simp) (r.append r2) ?_,rfl,q⟩
 rw[List.length_append]
 omega
noncomputable def j1n:V->List V->Hp->VK->Prop:=fun x vs H Q=>∃ l xs i k y,x=.ref l/\vs=[.int i]/\H l=some (.lst xs) /\ -(2 ^ 63)<=i/\i<2 ^ 63/\seqIndex? i xs.length=some k/\xs[k]? = some y/\Q y (upd H l (.lst (xs.eraseIdx k)))
theorem z4z:MtM X "list.pop" j1n:=by
 intro pins s σ H x vs v us Q I rx rv h
 obtain⟨l,xs,i,k,y,rfl,rfl,hH,h1,h2,hk,hy,q⟩:=h
 cases rx
 obtain⟨u,rfl,ru⟩:=rv.one
 obtain⟨t,rfl⟩:=ru
 obtain⟨z,its,n,r,hl,e⟩:=I.lstM hH
 obtain⟨w,hw,rw'⟩:=r.get hy
 refine call_meets F.slot_list_pop ⟨_,e,rfl⟩ F.entry_list_pop (F.args_list_pop_2 _ _)
  (MeetsSeq.list_pop_at l its.toArray n i t k w (fitsIndex_both h1 h2) (by rw[List.size_toArray,<- hl]; exact hk) (by rw[<- Array.getElem?_toList]; exact hw) (by rw[List.size_toArray]; omega)) ⟨e,?_⟩
 refine⟨y,_,I.lset (its':=its.eraseIdx k) hH e ?_ (r.eraseIdx k) ?_,rw',q⟩
 ·show its.toArray.eraseIdxIfInBounds k=(its.eraseIdx k).toArray
  rw[List.eraseIdxIfInBounds_toArray]
 ·have:=y3x xs k
  omega
noncomputable def j7h:R2:=fun x y H Q=>∃ l k xs,x=.ref l/\y=.int k/\H l=some (.lst xs) /\ -(2 ^ 63)<=k/\k<2 ^ 63/\xs.length*k.toNat<=sizeLine /\
 ∀ p,H p=none->Q (.ref p) (upd H p (.lst (List.replicate k.toNat xs).flatten))
theorem y5j {α:Type} (xs:List α) (k:Nat):(List.replicate k xs).flatten.length=k*xs.length:=by
 induction k with
 | zero=>simp
 | succ k ih=>rw[List.replicate_succ,List.flatten_cons,List.length_append,ih,Nat.succ_mul,Nat.add_comm]
theorem j17:OpR X (binaryOp .Mult) j7h:=by
 intro pins s σ H x y v u Q I rx ry h
 obtain⟨l,k,xs,rfl,rfl,hH,h1,h2,hz,q⟩:=h
 cases rx
 obtain⟨t,rfl⟩:=ry
 obtain⟨z,its,n,r,hl,e⟩:=I.lstM hH
 have hlen:its.toArray.size*k.toNat<=sizeLine:=by rw[List.size_toArray,<- hl]; exact hz
 have hcap:¬ its.toArray.size*k.toNat > (2 ^ 63-1) / 8:=by
  have:(sizeLine:Nat)<=(2 ^ 63-1) / 8:=by decide
  omega
 have hfit:¬ (!Builtin.List.listFitsIndex k)=true:=by
  rw[fitsIndex_both h1 h2]
  exact Bool.false_ne_true
 have hlong:¬ Builtin.List.listTooLong (its.toArray.size*k.toNat)=true:=by
  rw[y74 hlen]
  exact Bool.false_ne_true
 have hnew:List.foldl (fun x1 x2=>x1++x2) #[] (List.replicate (if its.toArray.isEmpty=true then 0 else k.toNat) its.toArray)=(List.replicate k.toNat its).flatten.toArray:=by
  have f0:∀ m:Nat,List.foldl (fun x1 x2=>x1++x2) #[] (List.replicate m its.toArray)=(List.replicate m its).flatten.toArray:=fun m=>by
   have:=y0j its m []
   rw[List.nil_append]at this
   exact this
  rw[f0]
  cases its with
  | nil=>simp
  | cons a r'=>rw[if_neg (by simp)]
 refine wpAny_binaryOp_repeat_ref (T:="list") (U:="int") (by decide) ⟨_,e,rfl⟩ (fun s'=>typeIs_int s' k t) noFill_list_mul F.fills_int_mul F.slot_int_rmul repeat_list F.slot_int_index.lookup
  (call_meets F.slot_int_rmul (typeIs_int s k t) F.entry_int_rmul (F.args_int_rmul_2 _ _) (int___rmul___int_list k t l its.toArray n)
    ⟨e,rfl,⟨_,e,rfl⟩,call_meets F.slot_list_mul ⟨_,e,rfl⟩ F.entry_list_mul (F.args_list_mul_2 _ _) (AutoListH.list___mul___list_int_3 l its.toArray n k t hfit hcap hlong) ⟨e,?_⟩⟩)
 rw[hnew]
 exact⟨.ref _,_,I.lnew (t':=s.toks) (r.rep k.toNat) (by rw[y5j,Nat.mul_comm]; exact hz),rfl,q _ I.fresh⟩
end
end L2
namespace Att
open PySem PySem.W PySem.Calls PyProof.Rows
theorem y0k {P:Params} {h:Heap}:∀ (ns:List Int) (vs:List Value),WellAll P h vs (ns.map WData.int)->IntsAre vs ns:=by
 intro ns
 induction ns with
 | nil=>
  intro vs w
  rw[List.map_nil]at w
  cases w
  exact .nil
 | cons n ns ih=>
  intro vs w
  rw[List.map_cons]at w
  cases w with
  | cons a b=>
   cases a
   exact .cons _ _ (ih _ b)
theorem z08 {l:OpenLaw} {n:Nat} (hn:l.most=some n) {P:Params} {h:Heap} {args:List WData} {vals:List Value}
  (hpre:l.row.toRowW.claim.pre args=true) (hwl:WellAll P h vals args) :
  ∃ a vs ns,vals=[Value.ref a]/\args=[WData.list (ns.map WData.int)]/\h.get? a=some { cls:=.type "list",data:=.seq vs.toArray }/\IntsAre vs ns/\ns.length<=n:=by
 have hsh:WShape.hasAll [] args [.list .int]=true:=(pre_splitW hpre).1
 have hc:l.pre.holds [] { args:=args }=true:=(pre_splitW hpre).2
 obtain⟨d,r,rfl,h1,h2⟩:=hasAllW_cons hsh
 obtain rfl:=hasAllW_nil h2
 obtain⟨xs,rfl,h3⟩:=hasW_list h1
 obtain⟨ns,rfl⟩:=items_int h3
 have hlen:ns.length<=n:=by
  unfold OpenLaw.pre at hc
  have h4:(WTm.not (.lt (.lit (.int (n:Int))) (.len (.arg 0)))).holds [] { args:=[.list (ns.map .int)] }=true:=by
   have h4:=(holds_andW hc).1
   rw[hn]at h4
   exact h4
  have h5:=condW_of h4 (w_not (w_lt w_lit (w_len_list (w_arg rfl))))
  rw[List.length_map]at h5
  refine Nat.le_of_not_lt fun q=>?_
  have q':(n:Int)<((ns.length:Nat):Int):=by omega
  first
   | (rw[decide_eq_true q']at h5; exact absurd h5 (by decide))
   | (simp at h5; omega)
 cases hwl with
 | cons w1 w2=>
  cases w2
  cases w1 with
  | list ho hall=>exact⟨_,_,ns,rfl,rfl,ho,y0k ns _ hall,hlen⟩
theorem z06 (l:OpenLaw) (args:List WData):l.row.toRowW.claim.post args (.bool true) args=true:=
 postW_of (r:=l.row.toRowW) (X:=(true == true))
  (show WShape.has [] (.bool true) .bool=true by first | rfl | decide | simp[WShape.has,WShape.arms,WShape.armsAll])
  (show(WTm.eq .res (.lit (.bool true))).value [] { args:=args,res:=some (.bool true),after:=args }=some (.bool (true == true))from w_eq_bool (w_res rfl) w_lit) rfl
theorem z72 {l:OpenLaw} {n:Nat} {q:Program} {loose:List Str} {XP:(Str->Option Value)->Heap->Prop} {YP:World->Heap->Prop} {d:DefRec}
  (hn:l.most=some n) (hdf:d.params.defaults=[])
  (call:∀ (w:World) (s₀ s₁:Shared) (mg mb:Str->Option Value) (fa:Addr) (o:Obj) (pm cd doc:Value) (a:Addr) (vs:List Value) (ns:List Int),
    Ground q loose [] XP w s₀ mg mb s₁.heap->YP w s₁.heap->
    s₁.heap.get? fa=some o->o.data=.func (docDef d.name d.params d.body d.scope pm cd doc)->s₁.heap.CodeRec cd d.name->mg d.name=some (.ref fa)->
    s₁.heap.get? a=some { cls:=.type "list",data:=.seq vs.toArray }->IntsAre vs ns->ns.length<=n->s₁.gens = #[]->
    codeAny (model l.prog w) callerA (.call (.ref fa) ⟨[.ref a],[]⟩) (fun r s'=>r=.ok (.ret (.bool true))/\OldK s₁.heap s'.heap/\s'.os=s₁.os/\AllBare s'.gens) s₁) :
  WalkO q loose XP YP l.row.toRowW d [] (fun f vs=>PySem.call f vs):=by
 intro w s₀ s₁ mg mb G Y fa o pm cd doc dV kV ho hd hcd hD hmg hg args vals as hpre hlay hrd hwl hlo
 obtain rfl:dV=.none:=Dflts.none hD hdf
 obtain rfl:kV=.none:=Dflts.noKw hD
 obtain⟨a,vs,ns,rfl,rfl,hobj,hints,hlen⟩:=z08 hn hpre hwl
 refine enter_call (codeAny_mono (call w s₀ s₁ mg mb fa o pm cd doc a vs ns G Y ho (fd_plain hd) hcd hmg hobj hints hlen hg) fun r s' hq=>?_)
 obtain⟨rfl,h2,h3,h4⟩:=hq
 exact⟨.inl ⟨.bool true,.bool true,[],rfl,fun _=>rfl,.bool true,z06 l _,fun _=>⟨List.Pairwise.nil,fun _ hm=>(nomatch hm)⟩⟩,h2,h3,h4⟩
section
variable {prog:Program} {w:World} {A:Around} {E:Value->Shared->Prop} {s:Shared} {K:Frag}
end
end Att
namespace L2
open PySem PySem.Spec PyProof.Rows
theorem x67:∀ {vs:List Value} {ns:List Int},IntsAre vs ns->x2h (ns.map V.int) vs
 | _,_,.nil=>.nil
 | _,_,.cons n t h=>.cons ⟨t,rfl⟩ (x67 h)
end L2
namespace L2
open PySem PySem.Spec PyProof.Rows
end L2
namespace L2
open PySem PySem.Spec PyProof.Rows
noncomputable def x69 (s:Stmt):Arguments:=match s with
 | .FunctionDef _ a _ _ _ _ _ _ _ _=>a
 | _=>{ posonlyargs:=[],args:=[],vararg:=none,kwonlyargs:=[],kw_defaults:=[],kwarg:=none,defaults:=[] }
noncomputable def x36 (s:Stmt):List Stmt:=match s with
 | .FunctionDef _ _ b _ _ _ _ _ _ _=>b
 | _=>[]
noncomputable def x0b (s:Stmt):Scope:=match s with
 | .FunctionDef _ _ _ _ _ _ sc _ _ _=>sc
 | _=>{ kind:=.function,names:=[],isGenerator:=false,isCoroutine:=false }
noncomputable abbrev CX0:CXT:=fun _ _ _ _ _ _=>False
noncomputable abbrev E0:XK:=fun _ _ _=>False
theorem j1v {X:Cx}:y73 CX0 X E0:=fun _ _ _ _ _ _ _ h=>h.elim
structure Fun (K:PySem.W.Frag) (x qual:Str) (st:Stmt) (f:Addr) (fd:FuncData):Prop where
 ex:∃ (oc:Value) (od:Option Addr) (kV doc pm:Value) (an:Option Addr) (cdv ct:Value) (osl:Array (Option Value)),
  fd=PySem.W.fnOf x qual (x69 st) (x36 st) (x0b st) .none kV doc pm an cdv ct/\K.lookup f=some ⟨oc,od,.func fd,osl⟩/\PySem.W.codeIn K cdv qual=true
 kp:PySem.W.keepIn K (.ref f)=true
section
variable {P:Program} {w:World} {K:PySem.W.Frag} {mg:Str->Option Value} {base:Heap}
theorem Fun.ok {x qual:Str} {st:Stmt} {f:Addr} {fd:FuncData} {N ps:List Str} {k:Nat} {sp:Sp} (F:Fun K x qual st f fd) (S:FnScope N ps (x0b st)) (len:∀ vs H Q E,sp vs H Q E->vs.length=ps.length)
  (hbody:∀ (cdv:Value) (A:Around) (outer:List Env) (s:Shared) (H:Hp) (vs:List V) (Q:VK) (E:XK),Room k (A.deeper (envOfC qual (x0b st) s.heap.objs.size f cdv))->sp vs H Q E->
    ∃ t,PSs (y94 CX0 P w K mg base N qual (x0b st) f cdv A outer s H E).nox (x36 st) t/\t { nx:=fun _ H'=>Q .non H',rt:=Q } (y1o N vs) H):FnOk P w K mg base CX0 (k+1) f fd ps sp:=by
 obtain⟨oc,od,kV,doc,pm,an,cdv,ct,osl,rfl,lk,hcd⟩:=F.ex
 refine j3c lk hcd S len fun A outer s H vs Q E hr hsp=>?_
 obtain⟨t,h,q⟩:=hbody cdv A outer s H vs Q E hr hsp
 exact⟨t,h.nox,q⟩
theorem Fun.binds {x qual:Str} {st:Stmt} {f:Addr} {fd:FuncData} {ps:List Str} (F:Fun K x qual st f fd)
  (h:∀ (kV doc pm:Value) (an:Option Addr) (cdv ct:Value) (us:List Value),us.length=ps.length->bindArgs (PySem.W.fnOf x qual (x69 st) (x36 st) (x0b st) .none kV doc pm an cdv ct) ⟨us,[]⟩=pure (ps.zip us)):y37 K fd ps []:=by
 obtain⟨oc,od,kV,doc,pm,an,cdv,ct,osl,rfl,lk,hcd⟩:=F.ex
 exact .all (h kV doc pm an cdv ct)
theorem z5o {x qual:Str} {st:Stmt} {f:Addr} {oc:Value} {od an:Option Addr} {osl:Array (Option Value)} {kV doc pm cdv ct:Value} (l:K.lookup f=some ⟨oc,od,.func (PySem.W.fnOf x qual (x69 st) (x36 st) (x0b st) .none kV doc pm an cdv ct),osl⟩)
  (c:PySem.W.codeIn K cdv qual=true) (k:PySem.W.keepIn K (.ref f)=true):Fun K x qual st f (PySem.W.fnOf x qual (x69 st) (x36 st) (x0b st) .none kV doc pm an cdv ct):=⟨⟨oc,od,kV,doc,pm,an,cdv,ct,osl,rfl,l,c⟩,k⟩
end
theorem x3q {n:Nat} (h:n<=1000):n<sizeLine:=Nat.lt_of_le_of_lt h (by decide)
section
variable {X:Cx}
theorem pv (i:Nat) {x:Str} {pos:Pos} (hN:X.N[i]? = some x:=by rfl) (hv:Vis X.env.scope x:=by first | exact Or.inl rfl | exact Or.inr (Or.inl rfl) | exact Or.inr (Or.inr rfl)) (hd:(x == ("__debug__":Str))=false:=by decide)
  (hcd:(x == ("__classdict__":Str))=false:=by decide):PE X (.Name x pos) (x9n i):=j08 hN hv hd hcd
end
section
variable {X:Cx} {pins:List (Addr × Obj)} {σ:St} {H:Hp} {s:Shared} {a:Addr} {y v:V} {u r:Value} {o:Option V} {A:Around} {E:Value->Shared->Prop}
end
theorem y44 {prog:Program} {w:World} {A:Around} {R:Result->Shared->Prop} {s:Shared} {elt target iter:Expr} {ifs:List Expr} {scope:Scope} {pos:Pos} {it acc:Value} {env:Env} (I:Nat->Shared->Prop)
  (turn:∀ n s,I n s->wpAny (model prog w) A (pyNext it) (fun r s₁=>match r with
    | none=>R (.ok .next) s₁
    | some v=>wpAny (model prog w) A (letOwnedTupleGo target it v) (fun _ s₁'=>wpAny (model prog w) A (assign target env v) (fun _ s₂=>
      wpAny (model prog w) A (forIn ifs true fun c r=>if r=true then do let ok <- isTrue c env (eval c env); pure (ForInStep.yield ok)else pure (ForInStep.yield r)) (fun ok s₃=>
       if ok=true then wpAny (model prog w) A (eval elt env) (fun x s₄=>
        wpAny (model prog w) A (call (.builtin "list.append") [acc,x]) (fun _ s₅=>∃ m,m<n/\I m s₅) (fun _ _=>False) s₄) (fun _ _=>False) s₃
       else ∃ m,m<n/\I m s₃) (fun _ _=>False) s₂) (fun _ _=>False) s₁') (fun _ _=>False) s₁) (fun _ _=>False) s)
  (n:Nat) (h:I n s):codeAny (model prog w) A (.compLoop (.ListComp elt [⟨target,iter,ifs,0⟩] scope pos) 0 it acc env) R s:=by
 refine codeAny_loop rfl I (fun n s hI=>?_) n h
 show wpAny _ A ((compTurn (.ListComp elt [⟨target,iter,ifs,0⟩] scope pos) 0 it acc env).onRaise (fun x=>do noteFrame x env; theTreesLotGoes x)) _ _ s
 refine wpAny_noted ?_
 rw[compTurn_list]
 refine wpAny_bind (wpAny_standAt (wpAny_bind (wpAny_mono (turn n s hI) (fun r s₁ h₁=>?_) fun _ _ h'=>h'.elim)))
 cases r with
 | none=>exact wpAny_pure h₁
 | some v=>
  refine wpAny_bind (wpAny_mono h₁ (fun _ s₁' h₁'=>?_) fun _ _ h'=>h'.elim)
  refine wpAny_bind (wpAny_mono h₁' (fun _ s₂ h₂=>wpAny_bind (wpAny_mono h₂ (fun ok s₃ h₃=>?_) fun _ _ h'=>h'.elim)) fun _ _ h'=>h'.elim)
  cases ok with
  | false=>exact wpAny_pure ⟨rfl,h₃⟩
  | true=>
   exact wpAny_bind (wpAny_bind (wpAny_mono h₃ (fun x s₄ h₄=>wpAny_bind (wpAny_mono h₄ (fun _ s₅ h₅=>wpAny_pure (wpAny_pure ⟨rfl,h₅⟩)) fun _ _ h'=>h'.elim)) fun _ _ h'=>h'.elim))
theorem y5p {M:Model} {A:Around} {E:Value->Shared->Prop} {s:Shared} {scope:Scope} {globals:Addr} {cl:List (Str × Addr)} {qual:Str} {outer:Env} {Q:Env->Shared->Prop}
  (hQ:Q (newEnv scope s.heap.objs.size globals (cellsFrom (s.heap.objs.size+1) scope.names cl) qual none .none (some outer) builtinsNs)
    { s with heap:=pushCells (s.heap.push { cls:=.type "dict",data:=.dict #[] }) scope.names }) :
  wpAny M A (newFunctionEnv scope globals cl [] qual none .none (some outer)) Q E s:=by
 simp only[newFunctionEnv,Option.isSome_some,if_true]
 refine wpAny_bind (wpAny_alloc ?_)
 refine wpAny_bind (wpAny_layCells _ (fun name kind cells=>by cases hkc:kind == NameKind.cell <;> simp[hkc]) _ _ _ _ ?_)
 rw[show({ s with heap:=s.heap.push { cls:=.type "dict",data:=.dict #[] } }:Shared).heap.objs.size=s.heap.objs.size+1 from Heap.size_push ..]
 refine wpAny_bind ?_
 rw[List.forIn_nil]
 exact wpAny_pure (wpAny_pure hQ)
noncomputable def x2a (cells:List (Str × Addr)):List (Str × NameKind)->List (Str × Addr)->List (Str × Addr)
 | [],acc=>acc
 | (n,k)::r,acc=>if k == .free then(match cells.lookup n with
   | some c=>x2a cells r ((n,c)::acc)
   | none=>x2a cells r acc)else x2a cells r acc
theorem x80 {scope:Scope} {env:Env} (h:∀ y∈scope.names,y.2=.free->∃ c,env.cells.lookup y.1=some c):closureFor scope env=pure (x2a env.cells scope.names []):=by
 unfold closureFor
 have key:∀ (names:List (Str × NameKind)) (acc:List (Str × Addr)),(∀ y∈names,y.2=.free->∃ c,env.cells.lookup y.1=some c)->
   (forIn names acc (fun(x:Str × NameKind) (r:List (Str × Addr))=>(match x with
     | (name,kind)=>if(kind == NameKind.free)=true then do
       let c <- cellOf env name
       pure (ForInStep.yield ((name,c)::r))
      else pure (ForInStep.yield r):Sem (ForInStep (List (Str × Addr))))))=(pure (x2a env.cells names acc):Sem (List (Str × Addr))):=by
  intro names
  induction names with
  | nil=>intro acc _; rfl
  | cons y r ih=>
   intro acc hh
   obtain⟨n,kd⟩:=y
   rw[List.forIn_cons]
   unfold x2a
   by_cases hk:(kd == NameKind.free)=true
   ·obtain⟨c,hc⟩:=hh (n,kd) List.mem_cons_self (by simpa using hk)
    have hc':env.cells.lookup n=some c:=hc
    simp only[hk,if_true,hc']
    have e:cellOf env n=pure c:=by unfold cellOf; rw[hc']
    rw[e]
    exact ih ((n,c)::acc) fun z hz=>hh z (List.mem_cons_of_mem _ hz)
   ·simp only[hk]
    exact ih acc fun z hz=>hh z (List.mem_cons_of_mem _ hz)
 exact(congrArg (fun m=>m >>= fun cs=>(pure cs:Sem (List (Str × Addr)))) (key scope.names [] h)).trans rfl
theorem x5h {cells:List (Str × Addr)}:∀ {names:List (Str × NameKind)} {acc:List (Str × Addr)},(∀ y c,(y,c)∈acc->cells.lookup y=some c)->∀ y c,(y,c)∈x2a cells names acc->cells.lookup y=some c
 | [],_,h,y,c,m=>h y c m
 | (n,k)::r,acc,h,y,c,m=>by
  unfold x2a at m
  split at m
  ·split at m
   ·rename_i c' e
    refine x5h (acc:=(n,c')::acc) (fun z d hz=>?_) y c m
    rcases List.mem_cons.mp hz with q | q
    ·cases q; exact e
    ·exact h z d q
   ·exact x5h h y c m
  ·exact x5h h y c m
theorem x5l {cells:List (Str × Addr)}:∀ {names:List (Str × NameKind)} {acc:List (Str × Addr)} {y:Str},(acc.lookup y).isSome=true->((x2a cells names acc).lookup y).isSome=true
 | [],_,_,h=>h
 | (n,k)::r,acc,y,h=>by
  unfold x2a
  split
  ·split
   ·refine x5l ?_
    rw[List.lookup_cons]
    split
    ·rfl
    ·exact h
   ·exact x5l h
  ·exact x5l h
theorem x4m {cells:List (Str × Addr)} {y:Str} {c:Addr} (hc:cells.lookup y=some c):∀ {names:List (Str × NameKind)} {acc:List (Str × Addr)},(y,NameKind.free)∈names->((x2a cells names acc).lookup y).isSome=true
 | (n,k)::r,acc,h=>by
  unfold x2a
  rcases List.mem_cons.mp h with q | q
  ·cases q
   simp only[hc]
   rw[if_pos (by rfl)]
   refine x5l ?_
   rw[List.lookup_cons,beq_self_eq_true]
   rfl
  ·split
   ·split
    ·exact x4m hc q
    ·exact x4m hc q
   ·exact x4m hc q
theorem x5q:∀ {names:List (Str × NameKind)} {h:Heap} {acc:List (Str × Addr)} {y:Str} {c:Addr},(y,c)∈cellsFrom h.objs.size names acc->(y,c)∈acc\/(h.objs.size<=c/\(pushCells h names).IsCell c none)
 | [],_,_,_,_,m=>.inl m
 | (n,k)::r,h,acc,y,c,m=>by
  unfold cellsFrom at m
  unfold pushCells
  split at m
  ·rename_i hk
   rw[if_pos hk]
   have m':(y,c)∈cellsFrom (h.push { cls:=.type "cell",data:=.cell none }).objs.size r ((n,h.objs.size)::acc):=by rw[Heap.size_push]; exact m
   rcases x5q m' with q | ⟨q1,q2⟩
   ·rcases List.mem_cons.mp q with e | q
    ·cases e
     refine .inr ⟨Nat.le_refl _,_,pushCells_keeps _ _ _ _ (Heap.get?_push_size _ rfl),rfl⟩
    ·exact .inl q
   ·rw[Heap.size_push]at q1
    exact .inr ⟨by omega,q2⟩
  ·rename_i hk
   rw[if_neg hk]
   exact x5q m
theorem x5e:∀ {names:List (Str × NameKind)} {n:Nat} {acc:List (Str × Addr)},(∀ y c,(y,c)∈acc->c<n)->(∀ x y c,(x,c)∈acc->(y,c)∈acc->x=y)->∀ x y c,(x,c)∈cellsFrom n names acc->(y,c)∈cellsFrom n names acc->x=y
 | [],_,_,_,h=>h
 | (nm,k)::r,n,acc,hlt,h=>by
  unfold cellsFrom
  split
  ·refine x5e (n:=n+1) (acc:=(nm,n)::acc) (fun y c m=>?_) (fun x y c m1 m2=>?_)
   ·rcases List.mem_cons.mp m with e | m
    ·cases e; exact Nat.lt_succ_self _
    ·exact Nat.lt_succ_of_lt (hlt y c m)
   ·rcases List.mem_cons.mp m1 with e1 | m1 <;> rcases List.mem_cons.mp m2 with e2 | m2
    ·cases e1; cases e2; rfl
    ·cases e1; exact absurd (hlt y _ m2) (Nat.lt_irrefl _)
    ·cases e2; exact absurd (hlt x _ m1) (Nat.lt_irrefl _)
    ·exact h x y c m1 m2
  ·exact x5e hlt h
theorem x5p {lo:Nat} {y:Str}:∀ {names:List (Str × NameKind)} {n:Nat} {acc:List (Str × Addr)},lo<=n->(∀ c,acc.lookup y=some c->lo<=c)->∀ c,(cellsFrom n names acc).lookup y=some c->lo<=c
 | [],_,_,_,h=>h
 | (nm,k)::r,n,acc,hn,h=>by
  unfold cellsFrom
  split
  ·refine x5p (n:=n+1) (by omega) fun c e=>?_
   rw[List.lookup_cons]at e
   split at e
   ·cases e; exact hn
   ·exact h c e
  ·exact x5p hn h
theorem x6b {lo:Nat} {y:Str}:∀ {names:List (Str × NameKind)} {n:Nat} {acc:List (Str × Addr)},lo<=n->(y,NameKind.cell)∈names->∀ c,(cellsFrom n names acc).lookup y=some c->lo<=c
 | (nm,k)::r,n,acc,hn,h=>by
  unfold cellsFrom
  rcases List.mem_cons.mp h with q | q
  ·cases q
   rw[if_pos (by rfl)]
   refine x5p (n:=n+1) (by omega) fun c e=>?_
   rw[List.lookup_cons,beq_self_eq_true]at e
   cases e; exact hn
  ·split
   ·exact x6b (n:=n+1) (by omega) q
   ·exact x6b hn q
theorem x4i {y:Str}:∀ {names:List (Str × NameKind)} {n:Nat} {acc:List (Str × Addr)},(y,NameKind.cell) ∉ names->(cellsFrom n names acc).lookup y=acc.lookup y
 | [],_,_,_=>rfl
 | (nm,k)::r,n,acc,h=>by
  unfold cellsFrom
  split
  ·rename_i hk
   rw[x4i (fun z=>h (List.mem_cons_of_mem _ z)),List.lookup_cons]
   have hne:(y == nm)=false:=by
    cases e:y == nm with
    | false=>rfl
    | true=>
     have e1:y=nm:=beq_iff_eq.mp e
     have e2:k=NameKind.cell:=by simpa using hk
     exact absurd (by rw[e1,<- e2]; exact List.mem_cons_self) h
   rw[hne]
  ·exact x4i fun z=>h (List.mem_cons_of_mem _ z)
noncomputable def y45 (env:Env) (y:Str) (k:NameKind):NameKind:=if(k == NameKind.free && env.scope.kind == .function && env.kindOf y == some .cell)then .cell else k
theorem x4y {env:Env} {y:Str}:∀ (names:List (Str × NameKind)),(names.map fun(n,k)=>if(k == NameKind.free && env.scope.kind == .function && env.kindOf n == some .cell)then(n,NameKind.cell)else(n,k)).lookup y=(names.lookup y).map (y45 env y)
 | []=>rfl
 | (n,k)::r=>by
  have ih:=x4y (env:=env) (y:=y) r
  show List.lookup y ((if(k == NameKind.free && env.scope.kind == .function && env.kindOf n == some .cell)=true then(n,NameKind.cell)else(n,k))::_)=_
  cases hx:y == n with
  | true=>
   have e:=beq_iff_eq.mp hx
   subst e
   rw[List.lookup_cons,List.lookup_cons]
   by_cases hc:(k == NameKind.free && env.scope.kind == .function && env.kindOf y == some .cell)=true
   ·simp only[y45,hc,if_true,beq_self_eq_true,Option.map_some]
   ·simp only[y45,hc,beq_self_eq_true,Option.map_some]
    simp
  | false=>
   by_cases hc:(k == NameKind.free && env.scope.kind == .function && env.kindOf n == some .cell)=true
   ·rw[if_pos hc,List.lookup_cons,List.lookup_cons]; simp only[hx]; exact ih
   ·rw[if_neg hc,List.lookup_cons,List.lookup_cons]; simp only[hx]; exact ih
theorem y4s {l:List (Str × NameKind)} (hn:(l.map (·.1)).Nodup) {y:Str} {k:NameKind} (h:(y,k)∈l):l.lookup y=some k:=by
 induction l with
 | nil=>cases h
 | cons p r ih=>
  rw[List.lookup_cons]
  rcases List.mem_cons.mp h with e | h
  ·rw[<- e,beq_self_eq_true]
  ·have hne:y≠p.1:=fun e=>by
    have:=(List.nodup_cons.mp hn).1
    exact this (by show p.1∈_; rw[<- e]; exact List.mem_map.mpr ⟨(y,k),h,rfl⟩)
   have:(y == p.1)=false:=by simpa using hne
   rw[this]
   exact ih (List.nodup_cons.mp hn).2 h
noncomputable def y9p (scope:Scope) (env:Env) (C:Addr):Env:=
 { newEnv scope C env.globals (cellsFrom (C+1) scope.names (x2a env.cells scope.names [])) env.qual none .none (some env) builtinsNs with scope:=relabel scope env }
noncomputable def x25 (X:Cx) (N':List Str) (scope:Scope) (C:Addr) (s:Shared) (H:Hp) (fp:List Addr):Cx where
 prog:=X.prog
 w:=X.w
 K:=X.K
 mg:=X.mg
 base:=X.base
 A:=X.A
 N:=N'
 s₀:=s
 H₀:=H
 env:=y9p scope X.env C
 outer:=X.stack
 stack:=X.stack
 ex:=fp
 fn:=fun y=>scope.names.lookup y == some .cell
 calm:=X.calm
 pn:=[]
 xe:=fun _ _=>False
structure CompOk (X:Cx) (k:Nat) (N':List Str) (scope:Scope):Prop where
 kind:scope.kind=.function
 names:(scope.names.map (·.1)).Nodup
 len:N'.length=X.N.length+k
 frees:(scope.names.all fun y=>y.2 != .free || X.env.kindOf y.1 == some .cell || X.env.kindOf y.1 == some .free)=true
 outs:((N'.zip X.N).all fun p=>(p.1 == p.2 && scope.names.lookup p.1 == some .free) || scope.names.lookup p.1 == none || scope.names.lookup p.1 == some .globalImplicit)=true
theorem CompOk.free {X:Cx} {k:Nat} {N':List Str} {scope:Scope} (S:CompOk X k N' scope) {y:Str} (h:(y,NameKind.free)∈scope.names):X.env.kindOf y=some .cell\/X.env.kindOf y=some .free:=by
 have:=List.all_eq_true.mp S.frees (y,NameKind.free) h
 simp only[Bool.or_eq_true,bne_iff_ne,ne_eq,beq_iff_eq]at this
 rcases this with(h1 | h1) | h1
 ·exact absurd trivial h1
 ·exact .inl h1
 ·exact .inr h1
theorem CompOk.out {X:Cx} {k:Nat} {N':List Str} {scope:Scope} (S:CompOk X k N' scope) {i:Nat} {y:Str} (hi':i<X.N.length) (h:N'[i]? = some y) (hv:Vis (relabel scope X.env) y):X.N[i]? = some y/\scope.names.lookup y=some .free:=by
 have e2:X.N[i]? = some X.N[i]:=by simp[hi']
 have m:(y,X.N[i])∈N'.zip X.N:=List.mem_of_getElem? (i:=i) (by rw[List.getElem?_zip_eq_some]; exact⟨h,e2⟩)
 have:=List.all_eq_true.mp S.outs _ m
 simp only[Bool.or_eq_true,Bool.and_eq_true,beq_iff_eq]at this
 have hl:(relabel scope X.env).names.lookup y=(scope.names.lookup y).map (y45 X.env y):=x4y _
 rcases this with(⟨h1,h2⟩ | h1) | h1
 ·exact⟨by rw[e2,<- h1],h2⟩
 ·rw[h1]at hl
  rcases hv with z | z | z <;> (rw[hl]at z; cases z)
 ·rw[h1]at hl
  have hr:y45 X.env y .globalImplicit=.globalImplicit:=rfl
  rw[Option.map_some,hr]at hl
  rcases hv with z | z | z <;> (rw[hl]at z; cases z)
theorem Un.updNew {fs ex:List Addr} {P:Program} {w:World} {H H':Hp} {h h':Heap} {D:Addr} {o:HO} (u:Un fs ex H H' h h') (hok:HOk P w H h) (hD:h.objs.size<=D):Un fs ex H (upd H' D o) h h':=by
 have ne:∀ b ob,h.get? b=some ob->b≠D:=fun b ob e z=>absurd (Nat.lt_of_lt_of_le (Heap.lt_size e) hD) (by rw[z]; exact Nat.lt_irrefl _)
 have ne':∀ b x,H b=some x->b≠D:=fun b x e z=>absurd (Nat.lt_of_lt_of_le (hok.lt e) hD) (by rw[z]; exact Nat.lt_irrefl _)
 refine⟨u.keep,u.slot,fun b ob e n hx=>?_,u.there,fun b xs e=>?_,fun b ob x e=>?_,fun b ps e=>?_⟩
 ·rw[x0p (ne b ob e)]; exact u.free b ob e n hx
 ·rw[x0p (ne' b _ e)]; exact u.tups b xs e
 ·rw[x0p (ne' b _ e)]; exact u.frzs b ob x e
 ·rw[x0p (ne' b _ e)]; exact u.tbls b ps e
theorem HOk.add {P:Program} {w:World} {H:Hp} {h:Heap} {D:Addr} {o:HO} (x:HOk P w H h) (hn:H D=none) (new:x3n P w (upd H D o) h D o):HOk P w (upd H D o) h:=fun b u e=>by
 by_cases hb:b=D
 ·subst hb; rw[x21]at e; cases e; exact new
 ·rw[x0p hb]at e
  exact(x b u e).stay (fun c v _ q=>q) (fun c q=>by rw[x0p (x1c q hn)]; exact q) fun c xs q=>by rw[x0p (x1c q hn)]; exact q
noncomputable def PTs (X:Cx) (ifs:List Expr) (t:TT):Prop:=
 ∀ (pins:List (Addr × Obj)) (s:Shared) (σ:St) (H:Hp) (Q:Bool->Hp->Prop),Inv X pins σ H s->t σ H Q->
  wpAny (model X.prog X.w) X.A (forIn ifs true fun c r=>if r=true then do let ok <- isTrue c X.env (eval c X.env); pure (ForInStep.yield ok)else pure (ForInStep.yield r)) (TP X pins σ Q) X.xe s
noncomputable def j77:TT:=fun _ H Q=>Q true H
theorem z6o {X:Cx}:PTs X [] j77:=fun pins s σ H Q I h=>wpAny_tests_nil ⟨H,I,h⟩
theorem z9h {X:Cx} {c:Expr} {t:TT} (h:PT X c t):PTs X [c] t:=fun pins s σ H Q I q=>wpAny_tests_one (h pins s σ H Q I q)
noncomputable def j0y (k:Nat) (g:TG) (tt:TT) (te:TE) (σ:St) (J:It) (H:Hp) (Fin:List V->Hp->Prop):Prop:=
 ∃ W:Nat->Nat->List V->Hp->Prop,(∃ m,W 0 m [] H)/\∀ i m ys H2,W i m ys H2->ys.length<=sizeLine /\
  ((J.stop i H2/\Fin ys H2)\/(J.go i H2/\ys.length<sizeLine/\∀ x H3,J.yld i H2 x H3->g x (σ++List.replicate k none) H3 fun σ4 H4=>(∃ τ,σ4=σ++τ/\τ.length=k) /\
    tt σ4 H4 fun b H5=>if b=true then te σ4 H5 fun v H6=>∃ m',m'<m/\W (i+1) m' (ys++[v]) H6 else ∃ m',m'<m/\W (i+1) m' ys H5))
noncomputable def z59 (k:Nat) (wi:TI) (g:TG) (tt:TT) (te:TE):TE:=fun σ H Q=>wi σ H fun J H1=>j0y k g tt te σ J H1 fun ys H2=>∀ p,H2 p=none->Q (.ref p) (upd H2 p (.lst ys))
noncomputable def lsO (us:List Value) (n:Nat):Obj:={ cls:=.type "list",data:=.seq us.toArray n }
theorem j3l {X:Cx} {pins:List (Addr × Obj)} {τ σ:St} {H:Hp} {s:Shared} (I:Inv X pins (σ++τ) H s):Inv X pins (σ++List.replicate τ.length none) H s:=
 I.weak (by simp) fun i v e=>by
  by_cases hi:i<σ.length
  ·rw[List.getElem?_append_left hi]at e ⊢
   exact e
  ·rw[List.getElem?_append_right (by omega),List.getElem?_replicate]at e
   split at e <;> cases e
section
variable {X:Cx} {k:Nat} {N':List Str} {scope:Scope} {pins:List (Addr × Obj)} {σ:St} {H2:Hp} {s2:Shared} {fp:List Addr}
noncomputable abbrev x8a (scope:Scope) (s2:Shared):Heap:=pushCells ((s2.heap.push (lsO [] 0)).push { cls:=.type "dict",data:=.dict #[] }) scope.names
theorem z3i (S:CompOk X k N' scope) (I2:Inv X pins σ H2 s2) (f2:∀ b∈fp,y9a X pins H2 b) (hfp:∀ b∈fp,b<s2.heap.objs.size) :
  Inv (x25 X N' scope (s2.heap.objs.size+1) s2 H2 fp) [(s2.heap.objs.size,lsO [] 0)] (σ++List.replicate k none) H2 { s2 with heap:=x8a scope s2 }:=by
 have e1:(s2.heap.push (lsO [] 0)).objs.size=s2.heap.objs.size+1:=Heap.size_push ..
 have e2:((s2.heap.push (lsO [] 0)).push { cls:=.type "dict",data:=.dict #[] }).objs.size=s2.heap.objs.size+1+1:=by rw[Heap.size_push,e1]
 have keep:∀ b o,s2.heap.get? b=some o->(x8a scope s2).get? b=some o:=fun b o e=>pushCells_keeps _ _ b o (Heap.get?_push_of_some _ (Heap.get?_push_of_some _ e))
 have hsub:∀ y c,(y,c)∈x2a X.env.cells scope.names []->X.env.cells.lookup y=some c:=x5h (fun _ _ m=>nomatch m)
 have cmem:∀ y c,(y,c)∈cellsFrom (s2.heap.objs.size+1+1) scope.names (x2a X.env.cells scope.names [])->X.env.cells.lookup y=some c\/(s2.heap.objs.size+1+1<=c/\(x8a scope s2).IsCell c none):=fun y c m=>by
  have m':(y,c)∈cellsFrom ((s2.heap.push (lsO [] 0)).push { cls:=.type "dict",data:=.dict #[] }).objs.size scope.names (x2a X.env.cells scope.names []):=by rw[e2]; exact m
  rcases x5q m' with q | ⟨q1,q2⟩
  ·exact .inl (hsub y c q)
  ·rw[e2]at q1; exact .inr ⟨q1,q2⟩
 have clt:∀ y c,X.env.cells.lookup y=some c->c<s2.heap.objs.size:=fun y c e=>by obtain⟨v,z⟩:=I2.cell y c e; exact z.lt
 have hl:∀ y,(relabel scope X.env).names.lookup y=(scope.names.lookup y).map (y45 X.env y):=fun y=>x4y _
 have ok:(x25 X N' scope (s2.heap.objs.size+1) s2 H2 fp).Ok:=by
  refine⟨I2.ok.mod,S.kind,I2.ok.glob,I2.ok.blt,Nat.le_succ _,fun x y c h1 h2=>?_,fun x hx=>?_,fun x c hf h=>?_,I2.ok.hd,I2.ok.frames,.inl rfl,fun b hb=>⟨?_,fun x c h z=>?_⟩,I2.bs,Nat.le_trans I2.ok.bsz I2.sz,fun b o e hb=>?_,fun b hb z=>?_,I2.stack,I2.stkFree⟩
  ·refine x5e (n:=s2.heap.objs.size+1+1) (names:=scope.names) (acc:=x2a X.env.cells scope.names []) (fun y c m=>?_) (fun x y c m1 m2=>?_) x y c (PySem.mem_of_lookup h1) (PySem.mem_of_lookup h2)
   ·exact Nat.lt_of_lt_of_le (clt y c (hsub y c m)) (by omega)
   ·exact I2.ok.inj x y c (hsub x c m1) (hsub y c m2)
  ·have hx':(relabel scope X.env).names.lookup x=some .cell\/(relabel scope X.env).names.lookup x=some .free:=hx
   rw[hl x]at hx'
   have:scope.names.lookup x=some .cell\/scope.names.lookup x=some .free:=by
    cases e:scope.names.lookup x with
    | none=>rw[e]at hx'; rcases hx' with z | z <;> cases z
    | some kd=>
     rw[e,Option.map_some]at hx'
     cases kd <;> first
      | exact .inl rfl
      | exact .inr rfl
      | (rcases hx' with z | z <;> (have z':=Option.some.inj z; unfold y45 at z'; simp at z'))
   rcases this with q | q
   ·exact Option.isSome_iff_exists.mp (PySem.W.cellsFrom_some scope.names (s2.heap.objs.size+1+1) _ (.inl q))
   ·have qm:=PySem.mem_of_lookup q
    have hk:=S.free qm
    obtain⟨c,hc⟩:=I2.ok.has x hk
    exact Option.isSome_iff_exists.mp (PySem.W.cellsFrom_some scope.names (s2.heap.objs.size+1+1) _ (.inr (x4m hc qm)))
  ·have hf':(scope.names.lookup x == some .cell)=true:=hf
   have:=x6b (lo:=s2.heap.objs.size) (n:=s2.heap.objs.size+1+1) (acc:=x2a X.env.cells scope.names []) (by omega) (PySem.mem_of_lookup (beq_iff_eq.mp hf')) c h
   exact this
  ·have:=hfp b hb
   show b≠s2.heap.objs.size+1
   exact Nat.ne_of_lt (Nat.lt_of_lt_of_le this (Nat.le_succ _))
  ·have q:=hfp b hb
   rcases cmem x c (PySem.mem_of_lookup h)with w | ⟨w,_⟩
   ·exact(f2 b hb).2.2.2.2.1 x c w z
   ·subst z; exact absurd (Nat.lt_of_lt_of_le q (Nat.le_trans (by omega) w)) (Nat.lt_irrefl _)
  ·rcases(f2 b hb).2.2.2.1 with z | z
   ·exact I2.ok.noex b o e z
   ·have:=Heap.lt_size e
    have:=I2.ok.bsz
    exact absurd (Nat.lt_of_lt_of_le (Heap.lt_size e) (Nat.le_trans I2.ok.bsz z)) (Nat.lt_irrefl _)
  ·rcases List.mem_cons.mp (I2.stkSub b z)with q | q
   ·exact(f2 b hb).2.1 q
   ·exact(f2 b hb).2.2.1 q
 obtain⟨m,hn,hloc⟩:=id I2.loc
 refine⟨ok,rfl,I2.bare,Un.kept keep,⟨fun _=>none,?_,fun i y v h1 h2 h3=>?_⟩,fun y c h=>?_,I2.hok.fresh (Nat.le_succ _),fun y c h=>?_,fun p hp=>?_,I2.hok.kept keep,?_⟩
 ·have:=(Heap.Ns.new (s2.heap.push (lsO [] 0)) (.type "dict")).keeps (pushCells_keeps scope.names _)
  rw[e1]at this
  exact this
 ·by_cases hi:i<σ.length
  ·have h3':Vis (relabel scope X.env) y:=h3
   obtain⟨o1,o2⟩:=S.out (by rw[<- I2.len]; exact hi) h1 h3'
   have hk:=S.free (PySem.mem_of_lookup o2)
   have hs:σ[i]? = some (some v):=by
    rw[List.getElem?_append_left hi]at h2
    exact h2
   obtain⟨u,r,l⟩:=hloc i y v o1 hs (.inr hk)
   refine⟨u,r,?_⟩
   rcases l with⟨l,_⟩ | ⟨_,c,hc,hcell⟩
   ·rcases hk with z | z <;> (rw[l]at z; cases z)
   ·refine .inr ⟨?_,c,?_,hcell.keeps keep⟩
    ·show(relabel scope X.env).names.lookup y=some .cell\/(relabel scope X.env).names.lookup y=some .free
     rw[hl y,o2,Option.map_some]
     unfold y45
     split
     ·exact .inl rfl
     ·exact .inr rfl
    ·show(cellsFrom (s2.heap.objs.size+1+1) scope.names (x2a X.env.cells scope.names [])).lookup y=some c
     rw[x4i (fun z=>by have:=y4s S.names z; rw[o2]at this; cases this)]
     obtain⟨c',hc'⟩:=Option.isSome_iff_exists.mp (x4m (acc:=[]) hc (PySem.mem_of_lookup o2))
     have:=hsub y c' (PySem.mem_of_lookup hc')
     rw[hc]at this; cases this
     exact hc'
  ·rw[List.getElem?_append_right (by omega),List.getElem?_replicate]at h2
   split at h2 <;> cases h2
 ·rcases cmem y c (PySem.mem_of_lookup h)with w | ⟨_,w⟩
  ·obtain⟨v,z⟩:=I2.cell y c w
   exact⟨v,z.keeps keep⟩
  ·exact⟨_,w⟩
 ·rcases cmem y c (PySem.mem_of_lookup h)with w | ⟨w,_⟩
  ·exact I2.freeC y c w
  ·exact I2.hok.fresh (by omega)
 ·have e:p=(s2.heap.objs.size,lsO [] 0):=by
   have:p ∈ [(s2.heap.objs.size,lsO [] 0)]:=hp
   simpa using this
  subst e
  refine⟨pushCells_keeps _ _ _ _ (Heap.get?_push_of_some _ (Heap.get?_push_size _ rfl)),I2.hok.fresh (Nat.le_refl _),?_,fun z=>?_,fun v z=>nomatch z⟩
  ·show s2.heap.objs.size≠s2.heap.objs.size+1
   omega
  ·have z':s2.heap.objs.size∈frs X.stack:=z
   rcases List.mem_cons.mp (I2.stkSub _ z')with q | q
   ·exact absurd I2.lt (by rw[<- q]; exact Nat.lt_irrefl _)
   ·exact I2.nofs (Nat.le_refl _) q
 ·rw[List.length_append,List.length_replicate,I2.len]
  exact S.len.symm
theorem z2j {us:List Value} {n:Nat} {ys:List V} {H':Hp} {s':Shared} {σ':St} {C:Addr} (I2:Inv X pins σ H2 s2) (f2:∀ b∈fp,y9a X pins H2 b)
  (I3:Inv (x25 X N' scope C s2 H2 fp) [(s2.heap.objs.size,lsO us n)] σ' H' s') (r:x2h ys us) (hz:ys.length<=sizeLine):Inv X pins σ (upd H' s2.heap.objs.size (.lst ys)) s':=by
 obtain⟨e,hn,_⟩:=I3.pin (s2.heap.objs.size,lsO us n) (List.mem_append_right _ (List.mem_singleton.mpr rfl))
 have u:Un (frs X.stack) fp H2 H' s2.heap s'.heap:=I3.base
 exact I2.call' (ch:=fp) I3.os (u.updNew I2.hok (Nat.le_refl _)) (I3.hok.add hn ⟨hz,us,n,r,e⟩) I3.bare fun b hb=>⟨(f2 b hb).2.2.2.1,(f2 b hb).2.1,(f2 b hb).2.2.2.2⟩
end
theorem y6n {X:Cx} {k:Nat} {N':List Str} {scope:Scope} {pins:List (Addr × Obj)} {σ:St} {H2:Hp} {s2:Shared} {fp:List Addr} {elt tg iter:Expr} {ifs:List Expr} {pos:Pos} {it:Addr} {tn:Nat->Heap->Prop} {J:It} {g:TG} {tt:TT} {te:TE} {Fin:List V->Hp->Prop} {E:Value->Shared->Prop} {RR:Value->Addr->Result->Shared->Prop}
  (hc:X.calm=true) (S:CompOk X k N' scope) (hg:∀ C s H fp,PG (x25 X N' scope C s H fp) tg g) (ht:∀ C s H fp,PTs (x25 X N' scope C s H fp) ifs tt) (he:∀ C s H fp,PE (x25 X N' scope C s H fp) elt te)
  (I2:Inv X pins σ H2 s2) (T:Turn X.prog X.w X.K tg J fp it tn) (st2:tn 0 s2.heap) (f2:∀ b∈fp,y9a X pins H2 b) (R:j0y k g tt te σ J H2 Fin)
  (hRR:∀ C ys H' s' m',Inv X pins σ (upd H' s2.heap.objs.size (.lst ys)) s'->s'.heap.Ns C m'->H' s2.heap.objs.size=none->upd H' s2.heap.objs.size (.lst ys) C=none->C≠X.env.locals->X.s₀.heap.objs.size<=C->s2.heap.objs.size<C->
    Fin ys H'->RR (.ref s2.heap.objs.size) C (.ok .next) s') :
  wpAny (model X.prog X.w) X.A (newList []) (fun acc s₃=>wpAny (model X.prog X.w) X.A (newFunctionEnv scope X.env.globals (x2a X.env.cells scope.names []) [] X.env.qual none .none (some X.env)) (fun cenv s₄=>
   codeAny (model X.prog X.w) X.A (.compStart (.ListComp elt [⟨tg,iter,ifs,0⟩] scope pos) 0 (.ref it) acc { cenv with scope:=relabel scope X.env }) (RR acc cenv.locals) s₄) E s₃) E s2:=by
 refine wpAny_newObj_type (y5p ?_)
 have e1:(s2.heap.push (lsO [] 0)).objs.size=s2.heap.objs.size+1:=Heap.size_push ..
 have hfp:∀ b∈fp,b<s2.heap.objs.size:=fun b hb=>by obtain⟨o,e,_⟩:=T.obj _ _ st2 b hb; exact Heap.lt_size e
 obtain⟨W,⟨m0,w0⟩,turn⟩:=R
 have I3:=z3i S I2 f2 hfp
 have st3:tn 0 (x8a scope s2):=T.keep _ _ _ st2 fun b hb o e=>pushCells_keeps _ _ b o (Heap.get?_push_of_some _ (Heap.get?_push_of_some _ e))
 have hDC:s2.heap.objs.size≠s2.heap.objs.size+1:=by omega
 -- what stays true of the iterator's objects
 have stat:∀ {H':Hp} {us:List Value} {n:Nat},(∀ b∈fp,H' b=none)->∀ b∈fp,y9a (x25 X N' scope (s2.heap.objs.size+1) s2 H2 fp) [(s2.heap.objs.size,lsO us n)] H' b:=fun {H' us n} hn b hb=>by
  have q:=I3.ok.exf b hb
  refine⟨hn b hb,q.1,I3.ok.exfs b hb,.inl hb,q.2,fun p hp z=>?_⟩
  have hp':p ∈ [(s2.heap.objs.size,lsO us n)]:=hp
  have e:p=(s2.heap.objs.size,lsO us n):=by simpa using hp'
  subst e
  have:=hfp b hb
  have z':s2.heap.objs.size=b:=z
  exact absurd this (by rw[z']; exact Nat.lt_irrefl _)
 have loop:∀ it',it'=Value.ref it->codeAny (model X.prog X.w) X.A (.compLoop (.ListComp elt [⟨tg,iter,ifs,0⟩] scope pos) 0 it' (.ref s2.heap.objs.size) (y9p scope X.env (s2.heap.objs.size+1))) (RR (.ref s2.heap.objs.size) (s2.heap.objs.size+1)) { s2 with heap:=x8a scope s2 }:=by
  rintro _ rfl
  refine y44 (fun n s'=>∃ i ys us cnt H',Inv (x25 X N' scope (s2.heap.objs.size+1) s2 H2 fp) [(s2.heap.objs.size,lsO us cnt)] (σ++List.replicate k none) H' s'/\tn i s'.heap/\(∀ b∈fp,H' b=none)/\x2h ys us/\W i n ys H') ?_ m0
   ⟨0,[],[],0,H2,I3,st3,fun b hb=>(f2 b hb).1,.nil,w0⟩
  rintro n s3 ⟨i,ys,us,cnt,H3,J3,st,fr,r3,w3⟩
  obtain⟨hz,hw⟩:=turn i n ys H3 w3
  rcases hw with⟨stop,fin⟩ | ⟨go,hlt,step⟩
  ·refine thn (T.done (x25 X N' scope (s2.heap.objs.size+1) s2 H2 fp) rfl rfl rfl hc i _ s3 _ H3 _ J3 (stat fr) st stop) fun rr s4 ⟨hr,I4⟩=>?_
   subst hr
   obtain⟨m',hn',_⟩:=id I4.loc
   obtain⟨eD,nD,_⟩:=I4.pin (s2.heap.objs.size,lsO us cnt) (List.mem_append_right _ (List.mem_singleton.mpr rfl))
   refine hRR (s2.heap.objs.size+1) ys H3 s4 m' (z2j I2 f2 I4 r3 hz) hn' nD ?_ ?_ ?_ (Nat.lt_succ_self _) fin
   ·rw[x0p (Ne.symm hDC)]; exact I4.free
   ·exact Ne.symm (Nat.ne_of_lt (Nat.lt_of_lt_of_le I2.lt (Nat.le_succ _)))
   ·have:=I2.sz; omega
  ·refine thn (T.item (x25 X N' scope (s2.heap.objs.size+1) s2 H2 fp) rfl rfl rfl hc i _ s3 _ H3 _ J3 (stat fr) st go) fun rr s4 ⟨u,hr,h4⟩=>?_
   subst hr
   refine thn h4 fun _ s5 hh0=>?_
   obtain⟨x,H5,I5,r5,y5,st5,fr5⟩:=hh0
   have I5':=I5.pinned (stat fr5) (T.obj _ _ st5)
   refine thn (hg _ _ _ _ _ s5 _ H5 x u _ I5' r5 (step x H5 y5)) fun _ s6 ⟨σ6,H6,I6,⟨τ,e6,l6⟩,q6⟩=>?_
   subst e6
   refine thn (ht _ _ _ _ _ s6 _ H6 _ I6 q6) fun ok s7 hh0=>?_
   obtain⟨H7,I7,q7⟩:=hh0
   have kept:∀ {s':Shared} {H':Hp} {σ':St},Inv (x25 X N' scope (s2.heap.objs.size+1) s2 H2 fp) ([(s2.heap.objs.size,lsO us cnt)]++x9d fp s5.heap) σ' H' s'->tn (i+1) s'.heap/\∀ b∈fp,H' b=none:=fun {s' H' σ'} I'=>by
    refine⟨T.keep _ _ _ st5 fun b hb o e=>(I'.pin (b,o) (List.mem_append_right _ (List.mem_append_right _ (x6r hb e)))).1,fun b hb=>?_⟩
    obtain⟨o,e,d⟩:=T.obj _ _ st5 b hb
    exact(I'.pin (b,o) (List.mem_append_right _ (List.mem_append_right _ (x6r hb e)))).2.1
   cases ok with
   | false=>
    rw[if_neg (by decide)]at q7 ⊢
    obtain⟨m',hm,w7⟩:=q7
    have:=j3l I7.unpinned
    rw[l6]at this
    exact⟨m',hm,i+1,ys,us,cnt,H7,this,(kept I7).1,(kept I7).2,r3,w7⟩
   | true=>
    rw[if_pos rfl]at q7 ⊢
    refine thn (he _ _ _ _ _ s7 _ H7 _ I7 q7) fun u8 s8 hh0=>?_
    obtain⟨v,H8,I8,r8,m',hm,w8⟩:=hh0
    obtain⟨eD,nD,neD,nfD,dD⟩:=I8.pin (s2.heap.objs.size,lsO us cnt) (List.mem_append_right _ (List.mem_append_left _ (List.mem_singleton.mpr rfl)))
    refine append_at eD (fun h9 hs9 hD9=>?_) (hsz:=by rw[List.size_toArray,<- r3.length]; exact Nat.le_of_lt hlt)
    have Ia:=I8.pins_of (pins':=x9d fp s5.heap) fun p hp=>I8.pin p (List.mem_append_right _ (List.mem_append_right _ hp))
    have nfp:∀ p∈x9d fp s5.heap,p.1≠s2.heap.objs.size:=fun p hp z=>by
     have:=hfp p.1 (y46 hp).1
     exact absurd this (by rw[z]; exact Nat.lt_irrefl _)
    have Ib:=Ia.turned (h':=h9) (t':=s8.toks) (it:=s2.heap.objs.size) (fun b o hb e=>hs9.extBut b o hb e) nD neD (.inr (Nat.le_refl _)) (fun y c h z=>by
      obtain⟨vv,o,ho,hd⟩:=I8.cell y c h
      rw[z,eD]at ho
      cases ho
      cases hd) (fun p hp=>nfp p (by
      have hp':p ∈ []++x9d fp s5.heap:=hp
      simpa using hp'))
    have Ic:=Ib.pins_of (pins':=[(s2.heap.objs.size,lsO (us++[u8]) (cnt+1))]) fun p hp=>by
     have e:p=(s2.heap.objs.size,lsO (us++[u8]) (cnt+1)):=by simpa using hp
     subst e
     refine⟨?_,nD,neD,nfD,fun v z=>nomatch z⟩
     show h9.get? s2.heap.objs.size=_
     rw[hD9]
     unfold lsO
     simp
    have Id:=j3l Ic
    rw[l6]at Id
    have kp:=kept I8
    refine⟨m',hm,i+1,ys++[v],us++[u8],cnt+1,H8,Id,T.keep _ _ _ kp.1 fun b hb o e=>hs9.extBut b o (fun z=>by
     have:=hfp b hb
     have z':b=s2.heap.objs.size:=z
     exact absurd this (by rw[z']; exact Nat.lt_irrefl _)) e,kp.2,x2h.append r3 (.cons r8 .nil),w8⟩
 have hC:(s2.heap.push { cls:=.type "list",dict:=none,data:=.seq ([]:List Value).toArray }).objs.size=s2.heap.objs.size+1:=Heap.size_push ..
 have fin:=codeAny_compStart_list (loop _ rfl) (T.self X.A 0 _ _ _ st3 (loop _ rfl))
 dsimp only at fin ⊢
 rw[hC]
 exact fin
theorem CompOk.locs {X:Cx} {k:Nat} {N':List Str} {scope:Scope} (S:CompOk X k N' scope):∀ y∈scope.names,y.2=.local->scope.names.lookup y.1=some .local:=fun y hy e=>by
 obtain⟨n,kd⟩:=y
 have e':kd=.local:=e
 subst e'
 exact y4s S.names hy
theorem x93 {h:Heap} {C c:Addr} {m:Str->Option Value} {v:Option Value} (hn:h.Ns C m) (hc:h.IsCell c v):c≠C:=fun z=>by
 obtain⟨o,es,ep,ho,hd,_⟩:=hn
 obtain⟨o',ho',hd'⟩:=hc
 rw[z,ho]at ho'
 cases ho'
 rw[hd]at hd'
 cases hd'
section
variable {X:Cx} {k:Nat} {N':List Str} {scope:Scope} {elt tg iter:Expr} {ifs:List Expr} {pos:Pos} {wi:TI} {g:TG} {tt:TT} {te:TE}
theorem z7o (hc:X.calm=true) (S:CompOk X k N' scope) (hi:PI X tg iter wi) (hg:∀ C s H fp,PG (x25 X N' scope C s H fp) tg g) (ht:∀ C s H fp,PTs (x25 X N' scope C s H fp) ifs tt) (he:∀ C s H fp,PE (x25 X N' scope C s H fp) elt te)
  (hs:∀ x,foldedSetIterable iter X.env x=pure x:=by intro _; rfl):PE X (.ListComp elt [⟨tg,iter,ifs,0⟩] scope pos) (z59 k wi g tt te):=by
 intro pins s σ H Q I h
 rw[eval_ListComp]
 refine wpAny_comprehension_free (use:=none) rfl hs (x80 fun y hy e=>?_) S.kind S.locs (thn (hi pins s σ H _ I h) fun v s1 h1=>thn h1 fun itv s2 h2=>?_)
 ·obtain⟨n,kd⟩:=y
  have e':kd=.free:=e
  subst e'
  exact I.ok.has n (S.free hy)
 ·obtain⟨it,fp,tn,J,H2,e,I2,T,st2,f2,R⟩:=h2
  subst e
  refine y6n hc S hg ht he I2 T st2 f2 R ?_
  intro C ys H' s' m' I' hn hD hCn hCL hCs hCD fin
  refine⟨m',hn,fun h' hs'=>⟨.ref s2.heap.objs.size,_,I'.turned (h':=h') (t':=s'.toks) (it:=C) (fun b o hb e=>hs'.extBut b o hb e) hCn hCL (.inr hCs) (fun x c h=>?_) (fun p hp z=>?_),rfl,fin _ hD⟩⟩
  ·obtain⟨v,q⟩:=I'.cell x c h
   exact x93 hn q
  ·have:=Heap.lt_size (I2.pin p hp).1
   exact absurd (Nat.lt_trans this hCD) (by rw[z]; exact Nat.lt_irrefl _)
theorem z9j {i:Nat} {y:Str} {py spos:Pos} (hN:X.N.Nodup) (hy:X.N[i]? = some y) (hx:Loc X.env.scope y) (hsw:swapsWith (.ListComp elt [⟨tg,iter,ifs,0⟩] scope pos) (some (.Name y py)) spos.line X.env=pure true)
  (hc:X.calm=true) (S:CompOk X k N' scope) (hi:PI X tg iter wi) (hg:∀ C s H fp,PG (x25 X N' scope C s H fp) tg g) (ht:∀ C s H fp,PTs (x25 X N' scope C s H fp) ifs tt) (he:∀ C s H fp,PE (x25 X N' scope C s H fp) elt te)
  (hs:∀ x,foldedSetIterable iter X.env x=pure x:=by intro _; rfl) (hf:X.fn y=true\/X.env.scope.names.lookup y=some .local:=by first | exact .inl rfl | exact .inr rfl | assumption) :
  PS X (.Assign [.Name y py] (.ListComp elt [⟨tg,iter,ifs,0⟩] scope pos) spos) (j5d (z59 k wi g tt te) (z7i i)):=by
 intro pins s σ H D I h
 rw[exec_Assign_Name_used _ _ _ _ hsw]
 refine wpAny_bind (wpAny_standAt (wpAny_bind ?_))
 show wpAny _ X.A (do let _ <- comprehension (.ListComp elt [⟨tg,iter,ifs,0⟩] scope pos) scope X.env _ (newList []) false (eval iter X.env) (some (assign (.Name y py) X.env))) _ _ s
 refine wpAny_bind (wpAny_mono (wpAny_comprehension_free (use:=some (assign (.Name y py) X.env)) (Q:=fun _ s'=>SP X pins D .next s') rfl hs (x80 fun z hz e=>?_) S.kind S.locs
  (thn (hi pins s σ H _ I h) fun v s1 h1=>thn h1 fun itv s2 h2=>?_)) (fun _ s' hq=>wpAny_pure (wpAny_pure hq)) fun _ _ e=>e)
 ·obtain⟨n,kd⟩:=z
  have e':kd=.free:=e
  subst e'
  exact I.ok.has n (S.free hz)
 ·obtain⟨it,fp,tn,J,H2,e,I2,T,st2,f2,R⟩:=h2
  subst e
  refine y6n hc S hg ht he I2 T st2 f2 R ?_
  intro C ys H' s' m' I' hn hD hCn hCL hCs hCD fin
  show wpAny _ X.A (assign (.Name y py) X.env (.ref s2.heap.objs.size)) _ _ _
  refine wpAny_assign_Name (y4a I' hN hy hx (v:=.ref s2.heap.objs.size) rfl (fun s'' I'' ⟨a,sb,ha⟩=>?_) hf)
  have hCa:C≠a:=fun z=>by
   rcases ha with q | q
   ·exact hCL (z.trans q)
   ·obtain⟨v,w⟩:=I'.cell y a q
    exact x93 hn w z.symm
  have hn2:=hn.sameBut sb hCa
  refine⟨m',hn2,fun h' hs'=>⟨_,_,I''.turned (h':=h') (t':=s''.toks) (it:=C) (fun b o hb e=>hs'.extBut b o hb e) hCn hCL (.inr hCs) (fun x c h=>?_) (fun p hp z=>?_),fin _ hD⟩⟩
  ·obtain⟨v,q⟩:=I''.cell x c h
   exact x93 hn2 q
  ·have:=Heap.lt_size (I2.pin p hp).1
   exact absurd (Nat.lt_trans this hCD) (by rw[z]; exact Nat.lt_irrefl _)
end
end L2
namespace L3
open PySem PySem.Spec PyProof.Rows PySem.W L2
section
variable {prog:Program} {w:World} {A:Around} {E:Value->Shared->Prop} {s:Shared} {K:Frag} {x C:Addr} {ox:Obj}
structure XAt (h:Heap) (x:Addr) (ox:Obj) (C:Addr):Prop where
 at_:h.get? x=some ox
 cls:ox.cls=.ref C
theorem XAt.type {M:Model} {h:Heap} (I:XAt h x ox C):Looks M h (typeOf (.ref x)) (.ref C):=I.cls ▸ (Looks.ld I.at_).andThen .now
structure XCls (K:Frag) (C:Addr):Prop where
 ci:(clsIn K C).isSome=true
 ga:findIn K (.ref C) "__getattribute__" = some (some (.builtin "BaseException.__getattribute__"))
 gt:findIn K (.ref C) "__getattr__" = some none
 cl:findIn K (.ref C) "__class__" = some (some (.builtin "object.__class__"))
 cg:specialIn K (.builtin "object.__class__") "__get__" = some (some (.builtin "getset_descriptor.__get__"))
 ct:takesIn K (.builtin "object.__class__")=some true
 mo:mroIn K C (.type "object")=some true
 mb:mroIn K C (.type "BaseException")=some true
theorem z8f {M:Model} {h:Heap} (X:K.In h) (I:XAt h x ox C) (XC:XCls K C):Looks M h (Builtin.ObjectAttr.find (.ref x) (.ref C) "__class__") (.bind (.builtin "getset_descriptor.__get__") (.builtin "object.__class__")):=by
 have L1:=looks_findIn (M:=M) X XC.cl
 have L2:Looks M h (Builtin.ObjectAttr.getOf (some (.builtin "object.__class__"))) _:=looks_specialIn (M:=M) X XC.cg
 have L3:=looks_takesIn (M:=M) X XC.ct
 exact L1.andThen (L2.andThen ((show Looks M h (Builtin.ObjectAttr.dataDescriptor? (some (.builtin "object.__class__")) (some (.builtin "getset_descriptor.__get__"))) (some ((.builtin "getset_descriptor.__get__"),(.builtin "object.__class__")))from L3.andThen .now).andThen (Looks.tag .now)))
theorem y5x {tp:Value} {R:Result->Shared->Prop} (X:K.In s.heap) (I:XAt s.heap x ox C) (hm:mroIn K C (.type "object")=some true)
  (h:R (.ok (.ret (.ref C))) s):codeAny (model prog w) A (.call (.builtin "getset_descriptor.__get__") ⟨[.builtin "object.__class__",.ref x,tp],[]⟩) R s:=by
 obtain⟨hh,g,dr,t,os⟩:=s
 have L0:=I.type (M:=model prog w)
 have L1:=looks_mroIn (M:=model prog w) X hm
 refine codeAny_call_builtin KF.slot_gs.plain KF.entry_gs (KF.slot_gs.check _ _ _ _ _ _ _ _ KF.type_class (KF.args_gs _ _ _) ?_)
 unfold Builtin.«getset_descriptor.__get__» Builtin.Getset_descriptor.descrGet
 rw[dga_obj]
 refine wpAny_bind (wpAny_pure ?_)
 unfold Builtin.Getset_descriptor.descrGetter Builtin.Getset_descriptor.descrCheckInstance Builtin.Getset_descriptor.descrNameAndClass isInstance
 simp only[KF.owner_class]
 repeat lk
 refine⟨Code.quiet_builtin _ (by decide +kernel),codeAny_builtin KF.entry_class ?_⟩
 unfold Builtin.«object.__class__» shownTypeOf
 repeat lk
 exact h
theorem z47 {M:Model} {nameV:Value} {Q:Unit->Shared->Prop} (X:K.In s.heap) (I:XAt s.heap x ox C) (XC:XCls K C) (hq:Q () s):wpAny M A (checkBuiltinCall "BaseException.__getattribute__" ⟨[.ref x,nameV],[]⟩) Q E s:=by
 obtain⟨hh,g,d,t,os⟩:=s
 have L0:=I.type (M:=M)
 have L1:=looks_mroIn (M:=M) X XC.mb
 have hk:builtinKind "BaseException.__getattribute__" = some .slot:=by decide +kernel
 have hsplit:splitId "BaseException.__getattribute__" = some ("BaseException","__getattribute__"):=by decide +kernel
 have ha:=PySem.F.args_bexc_ga (.ref x) nameV
 simp only[checkBuiltinCall,hk,hsplit]
 unfold isInstance
 repeat lk
 exact hq
theorem j5k {tk:Tok} {R:Result->Shared->Prop} (X:K.In s.heap) (I:XAt s.heap x ox C) (XC:XCls K C) (h:R (.ok (.ret (.ref C))) s) :
  codeAny (model prog w) A (.call (.builtin "BaseException.__getattribute__") ⟨[.ref x,.str "__class__" tk],[]⟩) R s:=by
 refine codeAny_call_builtin PySem.F.excAttr_ValueError.ga.plain PySem.F.entry_bexc_ga (z47 X I XC ?_)
 obtain⟨hh,g,d,t,os⟩:=s
 have L0:=I.type (M:=model prog w)
 have L1:=z8f (M:=model prog w) X I XC
 show wpAny _ _ (Builtin.«object.__getattribute__» ⟨[.ref x,.str "__class__" tk],[]⟩) _ _ _
 refine wpAny_bind (wpAny_pure ?_)
 refine wpAny_bind (wpAny_pure ?_)
 refine wpAny_bind (L0.at (wpAny_bind (L1.at ?_)))
 show wpAny _ _ (holding [.builtin "object.__class__"] (call (.builtin "getset_descriptor.__get__") [.builtin "object.__class__",.ref x,.ref C]) >>= ret) _ _ _
 exact wpAny_bind (wpAny_holding (wpAny_call (y5x X I XC.mo (wpAny_pure h))))
theorem z50 {Q:Option Value->Shared->Prop} (X:K.In s.heap) (I:XAt s.heap x ox C) (XC:XCls K C) (h:Q (some (.ref C)) { s with toks:=s.toks+1 }):wpAny (model prog w) A (getAttr? (.ref x) "__class__") Q E s:=by
 obtain⟨hh,g,d,t,os⟩:=s
 have L0:=I.type (M:=model prog w)
 have L1:=looks_findIn (M:=model prog w) X XC.ga
 have L2:=looks_findIn (M:=model prog w) X XC.gt
 have f3:=PySem.F.excAttr_ValueError.ga.bind (.ref x)
 unfold getAttr? getAttrBy? getAttrBy
 refine wpAny_bind (wpAny_mkText (wpAny_bind (wpAny_attempt (wpAny_holding (wpAny_bind (L0.at (wpAny_bind (L1.at ?_))))))))
 show wpAny _ _ (getAttrByItsOwn _ _ _ _ _ _) _ _ _
 unfold getAttrByItsOwn
 refine wpAny_bind (L2.at ?_)
 refine wpAny_bind (wpAny_attempt (wpAny_holding ?_))
 show wpAny _ _ (boundAndCalled _ _ _) _ _ _
 unfold boundAndCalled
 rw[f3]
 refine wpAny_bind (wpAny_pure ?_)
 show wpAny _ _ (call (.builtin "BaseException.__getattribute__") [.ref x,.str "__class__" t]) _ _ _
 refine wpAny_call (j5k (s:=⟨hh,g,d,t+1,os⟩) X I XC ?_)
 exact handed_on rfl (wpAny_pure h)
theorem x63 {M:Model} {h:Heap} {D:Addr} (X:K.In h) (e:(clsIn K D).isSome=true):Looks M h (isType (.ref D)) true:=by
 unfold clsIn at e
 split at e
 ·rename_i c' d' cd' sl' ho
  intro A' Q' E' s' k q
  unfold isType loadHead
  exact wpAny_bind (wpAny_loadPart (k _ _ (X _ _ ho)) (wpAny_pure q))
 ·cases e
theorem y43 {c:Value} {dep:Int} {tk:Tok} {Q:Fin->Shared->Prop} (X:K.In s.heap) (I:XAt s.heap x ox C) (XC:XCls K C) (hty:Looks (model prog w) s.heap (typeOf c) (.type "type")) (his:Looks (model prog w) s.heap (isType c) true)
  (hne:(Value.ref C == c)=false) (hsub:Looks (model prog w) s.heap (isSubtype (.ref C) c) false) (h:Q (.done (.ret (.bool false))) { s with toks:=s.toks+1 }) :
  wpAny (model prog w) A (Builtin.«isinstance.nested» ⟨[.ref x,c,.int dep tk],[]⟩) Q E s:=by
 have hisD:=x63 (M:=model prog w) X XC.ci
 obtain⟨h0,g,d,tt,os⟩:=s
 have L0:=I.type (M:=model prog w)
 have LI:Looks (model prog w) h0 (isInstance (.ref x) c) false:=L0.andThen hsub
 unfold Builtin.«isinstance.nested»
 refine wpAny_bind (L0.at ?_)
 rw[if_neg (fun q=>by rw[hne]at q; exact Bool.noConfusion q)]
 refine wpAny_bind (hty.at ?_)
 rw[if_pos (by decide)]
 k_delta "plainIsInstance"
 refine wpAny_bind (wpAny_bind (his.at ?_))
 simp only[Bool.not_true,Bool.false_eq_true,if_false]
 refine wpAny_bind (LI.at ?_)
 simp only[Bool.false_eq_true,if_false]
 refine wpAny_bind (z50 X I XC ?_)
 refine wpAny_bind (hisD.at ?_)
 simp only[Bool.not_true,Bool.false_eq_true,if_false]
 refine wpAny_bind (wpAny_rule ?_)
 refine hsub.at ?_
 first
  | exact wpAny_pure h
  | exact wpAny_pure (wpAny_pure h)
  | exact wpAny_bind (wpAny_pure (wpAny_pure h))
theorem j5r {D:Addr} {Q:Value->Shared->Prop} (X:K.In s.heap) (I:XAt s.heap x ox C) (XC:XCls K C) (e:kin_not K C D=true) (h:Q (.bool false) { s with toks:=s.toks+1 }):wpAny (model prog w) A (call (.builtin "isinstance") [.ref x,.ref D]) Q E s:=by
 unfold kin_not at e
 rw[Bool.and_eq_true,Bool.and_eq_true,Bool.and_eq_true]at e
 obtain⟨⟨⟨e0,e1⟩,e2⟩,e3⟩:=e
 have hne:(Value.ref C == Value.ref D)=false:=Bool.eq_false_iff.mpr fun q=>of_decide_eq_true e0 (Value.ref.inj (beq_iff_eq.mp q))
 exact call_isinstance (S:=fun _ R s=>(K.In s.heap/\XAt s.heap x ox C)/\R (.ok (.ret (.bool false))) { s with toks:=s.toks+1 })
  (fun _ _ _ _ _ hs=>isinstance_outer (y43 hs.1.1 hs.1.2 XC (looks_typeIn hs.1.1 (beq_iff_eq.mp e2)) (x63 hs.1.1 e1) hne (looks_subIn hs.1.1 (beq_iff_eq.mp e3)) hs.2) (by intro q; cases q)) ⟨⟨X,I⟩,h⟩
theorem j2o {D:Addr} {Q:Value->Shared->Prop} (X:K.In s.heap) (I:XAt s.heap x ox C) (e:isIn K (.ref C) D=true) (h:Q (.bool true) s):wpAny (model prog w) A (call (.builtin "isinstance") [.ref x,.ref D]) Q E s:=
 isi_call X (fun M=>I.type) e (by intro q; cases q) h
theorem z8w {T:String} {Q:Value->Shared->Prop} (X:K.In s.heap) (I:XAt s.heap x ox C) (hty:typeOf (.type T)=pure (.type "type")) (e:subIn K (.ref C) (.type T)=some true) (h:Q (.bool true) s):wpAny (model prog w) A (call (.builtin "isinstance") [.ref x,.type T]) Q E s:=
 call_isinstance (S:=fun _ R s=>(K.In s.heap/\XAt s.heap x ox C)/\R (.ok (.ret (.bool true))) s) (fun prog w A R s hs=>isinstance_outer (by
  obtain⟨⟨X,I⟩,h⟩:=hs
  obtain⟨h0,g,d,tt,os⟩:=s
  have L0:=I.type (M:=model prog w)
  have LI:Looks (model prog w) h0 (isInstance (.ref x) (.type T)) true:=L0.andThen (looks_subIn X e)
  have hT:Looks (model prog w) h0 (typeOf (.type T)) (.type "type"):=Looks.of_pure hty
  have hI:Looks (model prog w) h0 (isType (.type T)) true:=Looks.of_pure rfl
  unfold Builtin.«isinstance.nested»
  refine wpAny_bind (L0.at ?_)
  rw[if_neg (fun q=>by cases beq_iff_eq.mp q)]
  refine wpAny_bind (hT.at ?_)
  rw[if_pos (by decide)]
  k_delta "plainIsInstance"
  refine wpAny_bind (wpAny_bind (hI.at ?_))
  simp only[Bool.not_true,Bool.false_eq_true,if_false]
  refine wpAny_bind (LI.at ?_)
  simp only[if_true]
  exact wpAny_pure (wpAny_pure h)) (by intro q; cases q)) ⟨⟨X,I⟩,h⟩
theorem j2t {T:String} {Q:Value->Shared->Prop} (X:K.In s.heap) (I:XAt s.heap x ox C) (XC:XCls K C) (hty:typeOf (.type T)=pure (.type "type")) (e:subIn K (.ref C) (.type T)=some false) (h:Q (.bool false) { s with toks:=s.toks+1 }):wpAny (model prog w) A (call (.builtin "isinstance") [.ref x,.type T]) Q E s:=
 call_isinstance (S:=fun _ R s=>(K.In s.heap/\XAt s.heap x ox C)/\R (.ok (.ret (.bool false))) { s with toks:=s.toks+1 })
  (fun _ _ _ _ _ hs=>isinstance_outer (y43 hs.1.1 hs.1.2 XC (Looks.of_pure hty) (Looks.of_pure rfl) (Bool.eq_false_iff.mpr fun q=>by cases beq_iff_eq.mp q) (looks_subIn hs.1.1 e) hs.2) (by intro q; cases q)) ⟨⟨X,I⟩,h⟩
end
def bmV:List Value:=[.type "ValueError",.type "Exception",.type "BaseException",.type "object"]
structure XKls (K:Frag) (nm:Str) (C:Addr):Prop where
 ns:nsIn K mainGlobals nm=some (some (.ref C))
 xc:XCls K C
 ex:excIn K C bmV "ValueError.__new__" = true
 ve:subIn K (.ref C) (.type "ValueError")=some true
 no:∀ T ∈ ["int","bool","tuple","list","str"],subIn K (.ref C) (.type T)=some false
noncomputable def XO (K:Frag) (nm:Str) (ob:Obj):Prop:=∃ C,ob.cls=.ref C/\XKls K nm C
end L3
namespace L3
open PySem PySem.Spec PyProof.Rows L2
theorem y3d:Slot "function" "__getattribute__" "object.__getattribute__" :=
 .of (owner:="object") (n:="__getattribute__") (by rw[typeLookup_type,builtinLookup_eq_fast]; kernel_rfl) (by decide +kernel) (by decide +kernel) (by decide +kernel)
  (by first | exact .inl (by decide +kernel) | exact .inr (by decide +kernel)) (by rw[isSubtype_type]; kernel_rfl)
theorem z9x:typeLookup (.type "function") "__class__" = pure (some (.builtin "object.__class__")):=by rw[typeLookup_type,builtinLookup_eq_fast]; kernel_rfl
theorem j3a:isSubtype (.type "function") (.type (".".intercalate ("object.__class__".cutAt '.').dropLast))=pure true:=by
 rw[PySem.F.owner_object_class,isSubtype_type]; kernel_rfl
theorem z2n:entryFor table "object.__getattribute__" = some Builtin.«object.__getattribute__»:=entryFor_of_tree (by kernel_rfl)
theorem z8t (a b:Value):argsOk "object.__getattribute__" ⟨[a,b],[]⟩:=by unfold argsOk; kernel_rfl
section
variable {prog:Program} {w:World} {A:Around} {E:Value->Shared->Prop} {s:Shared} {a:Addr}
theorem j2w {R:Result->Shared->Prop} (hT:s.TypeIs (.ref a) "function") (hq:R (.ok (.ret (.type "function"))) s) :
  codeAny (model prog w) A (.call (.builtin "getset_descriptor.__get__") ⟨[.builtin "object.__class__",.ref a,.type "function"],[]⟩) R s:=by
 obtain⟨h,g,d,t,os⟩:=s
 have h5:(⟨h,g,d,t,os⟩:Shared).TypeIs (.builtin "object.__class__") "getset_descriptor":=PySem.F.typeOf_object_class
 have f8:=j3a
 refine codeAny_call_builtin PySem.F.slot_gs_get.plain PySem.F.entry_gs_get (PySem.F.slot_gs_get.check _ _ _ _ _ _ _ _ h5 (PySem.F.args_gs_get _ _ _) ?_)
 repeat (any_goals (first | assumption | wp_step))
 refine⟨Code.quiet_builtin _ (by decide +kernel),codeAny_builtin PySem.F.entry_object_class ?_⟩
 repeat (any_goals (first | assumption | wp_step))
theorem z30 {Q:Option Value->Shared->Prop} (hT:s.TypeIs (.ref a) "function") (hq:Q (some (.type "function")) { s with toks:=s.toks+1 }):wpAny (model prog w) A (getAttr? (.ref a) "__class__") Q E s:=by
 obtain⟨h,g,d,t,os⟩:=s
 have hT1:∀ t',(⟨h,g,d,t',os⟩:Shared).TypeIs (.ref a) "function":=fun _=>hT
 have en:∀ {tk:Tok} {t':Nat} {Q:Fin->Shared->Prop} {E:Value->Shared->Prop} {A:Around},Q (.done (.ret (.type "function"))) ⟨h,g,d,t',os⟩->
   wpAny (model prog w) A (Builtin.«object.__getattribute__» ⟨[.ref a,.str "__class__" tk],[]⟩) Q E ⟨h,g,d,t',os⟩:=by
  intro tk t' Q E A hq
  have hT:=hT1 t'
  have h5:(⟨h,g,d,t',os⟩:Shared).TypeIs (.builtin "object.__class__") "getset_descriptor":=PySem.F.typeOf_object_class
  have f4:=z9x
  have f5:=PySem.F.typeOf_object_class
  have f6:=PySem.F.slot_gs_get.lookup
  have f7:=PySem.F.slot_gs_set.lookup
  repeat (any_goals (first | assumption | wp_step))
  refine j2w hT ?_
  repeat (any_goals (first | assumption | wp_step))
 have by':∀ {tk:Tok} {t':Nat} {Q:Value->Shared->Prop} {E:Value->Shared->Prop} {A:Around},Q (.type "function") ⟨h,g,d,t',os⟩->wpAny (model prog w) A (getAttrBy (.ref a) (.str "__class__" tk) false) Q E ⟨h,g,d,t',os⟩:=by
  intro tk t' Q E A hq
  have hT:=hT1 t'
  have f2:=y3d.lookup
  have f3:=y3d.bind (.ref a)
  repeat (any_goals (first | assumption | wp_step))
  refine codeAny_call_builtin y3d.plain z2n (y3d.check _ _ _ _ _ _ _ _ hT (z8t _ _) (en ?_))
  repeat (any_goals (first | assumption | wp_step))
 unfold getAttr? getAttrBy?
 repeat (any_goals (first | assumption | with_reducible apply by' | wp_step))
theorem z4u {K:PySem.W.Frag}:PySem.W.KitX K (.ref a) (.type "function") (PySem.W.KitAt a "function"):=PySem.W.kitx_of PySem.W.kitAt_ty (fun {_ _ _ _ _ s} p k=>z30 (by obtain⟨o,h1,h2⟩:=p; exact⟨o,h1,h2⟩) k)
end
inductive D where
 | non | bl (b:Bool) | int (i:Int) | str (x:Str) | tup (ds:List D) | lst (ds:List D)
 /-- a dict that is not changed,its keys texts -/
 | dic (ks:List Str) (ds:List D)
 /-- an exception,by its class's name -/
 | exc (nm:Str)
 /-- a function made here: its place,its object,what it keeps of the names around it -/
 | ob (f:Addr) (fo:Obj) (vs:List V) (ds:List D)
noncomputable abbrev St:=L2.St
inductive Ow where
 | s (i:Nat) | t (i:Nat) | f
 deriving DecidableEq
noncomputable abbrev Wn:=Addr->Option Ow
noncomputable def KL (K:PySem.W.Frag) (a:Addr) (xs:List V):Prop:=
 ∃ (o:Obj) (its:Array Value) (n:Nat),K.lookup a=some o/\o.cls=.type "list" /\ o.dict=none/\o.data=.seq its n/\its.size<=sizeLine/\x2h xs its.toList
theorem SqL.cases {K:PySem.W.Frag} {H:Hp} {a:Addr} {xs:List V} (h:SqL K H a xs):Rd H a (.lst xs)\/KL K a xs:=h
theorem KL.sq {K:PySem.W.Frag} {H:Hp} {a:Addr} {xs:List V} (h:KL K a xs):SqL K H a xs:=.inr h
noncomputable def kvL (ks:List Str) (vs:List V):List (Key × V):=(ks.map fun x=>(Sum.inr x:Key)).zip vs
noncomputable def Clo (fo:Obj) (c:Addr) (oc:Obj):Prop:=fo.cls=.type "function" /\ (∃ fd,fo.data=.func fd/\fd.code=.ref c)/\∃ fs q t,oc.data=.fields fs/\fs[1]? = some (.str q t)
mutual
/-- q: how deep the lists are owned -/
inductive Rep (K:PySem.W.Frag) (H:Hp) (w:Wn) (o:Ow):Nat->D->V->List Addr->Prop
 | non {q}:Rep K H w o q .non .non []
 | bl {q} (b:Bool):Rep K H w o q (.bl b) (.bl b) []
 | int {q} (i:Int):Rep K H w o q (.int i) (.int i) []
 | str {q} (x:Str):Rep K H w o q (.str x) (.str x) []
 | tup {q} {a:Addr} {vs:List V} {ds:List D}:H a=some (.tup vs)->Reps K H w o 0 ds vs []->Rep K H w o q (.tup ds) (.ref a) []
 | dic {q} {a:Addr} {ks:List Str} {vs:List V} {ds:List D}:H a=some (.dK (kvL ks vs))->Reps K H w o 0 ds vs []->Rep K H w o q (.dic ks ds) (.ref a) []
 | exc {q} {a:Addr} {nm:Str} {ob:Obj} {u:HO}:H a=some (.frz ob u)->XO K nm ob->(∀ xs,u ≠ .lst xs)->Rep K H w o q (.exc nm) (.ref a) []
 | ob {q} {f c:Addr} {fo oc:Obj} {u u':HO} {vs:List V} {ds:List D}:H f=some (.frz fo u)->H c=some (.frz oc u')->Clo fo c oc->Reps K H w o 0 ds vs []->Rep K H w o q (.ob f fo vs ds) (.ref f) []
 | kl {a:Addr} {vs:List V} {ds:List D}:KL K a vs->Reps K H w o 0 ds vs []->Rep K H w o 0 (.lst ds) (.ref a) []
 | shr {a:Addr} {vs:List V} {ds:List D}:Rd H a (.lst vs)->w a=none->Reps K H w o 0 ds vs []->Rep K H w o 0 (.lst ds) (.ref a) []
 | own {q} {a:Addr} {vs:List V} {ds:List D} {F:List Addr}:H a=some (.lst vs)->w a=some o->Reps K H w o q ds vs F->a ∉ F->Rep K H w o (q+1) (.lst ds) (.ref a) (a::F)
inductive Reps (K:PySem.W.Frag) (H:Hp) (w:Wn) (o:Ow):Nat->List D->List V->List Addr->Prop
 | nil {q}:Reps K H w o q [] [] []
 | cons {q} {d:D} {v:V} {ds:List D} {vs:List V} {F G:List Addr}:Rep K H w o q d v F->Reps K H w o q ds vs G->(∀ a∈F,a ∉ G)->Reps K H w o q (d::ds) (v::vs) (F++G)
end
noncomputable def j2s:HO->Bool
 | .tbl _=>true
 | _=>false
noncomputable def Sm (x:HO) (y:Option HO):Prop:=match x with
 | .tbl _=>∃ ps,y=some (.tbl ps)
 | x=>y=some x
theorem sm {x:HO} {y:Option HO} (h:y=some x):Sm x y:=by cases x <;> first | exact h | exact⟨_,h⟩
theorem Sm.is {x:HO} {y:Option HO} (h:Sm x y):∃ z,y=some z/\j2s z=j2s x:=by
 cases x <;> first | exact⟨_,h,rfl⟩ | (obtain⟨ps,e⟩:=h; exact⟨_,e,rfl⟩)
theorem Sm.eq {x:HO} {y:Option HO} (h:Sm x y) (n:j2s x=false):y=some x:=by cases x <;> first | exact h | cases n
noncomputable def y0y:List Str:=["turned","chain_ladder","flat_ladder","paired"]
structure TB (K:PySem.W.Frag) (H:Hp):Prop where
 tr:∀ P ps,H P=some (.tbl ps)->PySem.TriplesOk ps.toList
 cd:∀ P ps,H P=some (.tbl ps)->∀ pos cv,PySem.codeAmong pos ps.toList=some cv->∃ c oc u vs q t,cv=.ref c/\H c=some (.frz oc u)/\oc.data=.fields vs/\vs[1]? = some (.str q t)/\∀ xs,u ≠ .lst xs
 is:∀ x∈y0y,∀ c P,PySem.W.tabIn K x=some (c,P)->∃ ps,H P=some (.tbl ps)
structure WL (K:PySem.W.Frag) (w:Wn) (H:Hp):Prop where
 own:∀ a o,w a=some o->∃ vs,H a=some (.lst vs)
 tb:TB K H
instance {K:PySem.W.Frag} {w:Wn} {H:Hp}:CoeFun (WL K w H) (fun _=>∀ a o,w a=some o->∃ vs,H a=some (.lst vs)):=⟨WL.own⟩
theorem TB.upd {K:PySem.W.Frag} {H:Hp} (t:TB K H) {p:Addr} {x:HO} (hx:j2s x=false) (hp:H p=none\/∃ vs,H p=some (.lst vs)):TB K (L2.upd H p x):=by
 have ne:∀ a y,H a=some y->(∀ vs,y ≠ .lst vs)->a≠p:=fun a y e h z=>by
  subst z
  rcases hp with q | ⟨vs,q⟩
  ·rw[e]at q; cases q
  ·rw[e]at q; cases q; exact h _ rfl
 refine⟨fun P ps e=>?_,fun P ps e pos cv hc=>?_,fun x hx c P hP=>by
  obtain⟨ps,e⟩:=t.is x hx c P hP
  exact⟨ps,by rw[x0p (ne P _ e fun _ z=>nomatch z)]; exact e⟩⟩
 ·by_cases hP:P=p
  ·subst hP; rw[x21]at e; cases e; cases hx
  ·rw[x0p hP]at e; exact t.tr P ps e
 ·by_cases hP:P=p
  ·subst hP; rw[x21]at e; cases e; cases hx
  ·rw[x0p hP]at e
   obtain⟨c,oc,u,vs,q,tt,h1,h2,h3,h4,h5⟩:=t.cd P ps e pos cv hc
   exact⟨c,oc,u,vs,q,tt,h1,by rw[x0p (ne c _ h2 fun _ z=>nomatch z)]; exact h2,h3,h4,h5⟩
noncomputable def x79 (H:Hp) (w:Wn) (H':Hp) (w':Wn):Prop:=∀ a x,H a=some x->w a=none->Sm x (H' a)/\w' a=none
theorem x79.trans {H H1 H2:Hp} {w w1 w2:Wn} (a:x79 H w H1 w1) (b:x79 H1 w1 H2 w2):x79 H w H2 w2:=fun c x h n=>by
 obtain⟨s1,n1⟩:=a c x h n
 cases ht:j2s x with
 | false=>exact b c x (s1.eq ht) n1
 | true=>
  obtain⟨y,e,hy⟩:=s1.is
  obtain⟨s2,n2⟩:=b c y e n1
  refine⟨?_,n2⟩
  rw[ht]at hy
  cases x with
  | tbl ps=>
   cases y with
   | tbl ps'=>exact s2
   | _=>cases hy
  | _=>cases ht
theorem WL.rdT {K:PySem.W.Frag} {w:Wn} {H:Hp} (wl:WL K w H) {a:Addr} {x:HO} (e:H a=some x) (h:∀ vs,x ≠ .lst vs):w a=none:=by
 cases q:w a with
 | none=>rfl
 | some o=>
  obtain⟨vs,e'⟩:=wl a o q
  rw[e]at e'
  exact absurd (Option.some.inj e') (h vs)
theorem SqT.go {K:PySem.W.Frag} {H H':Hp} {w w':Wn} (wl:WL K w H) (st:x79 H w H' w') {a:Addr} {vs:List V} (h:SqT K H a vs):SqT K H' a vs:=by
 rcases h with(h | ⟨o,h⟩) | h
 ·exact .inl (.inl (st a _ h (wl.rdT h (fun _ z=>nomatch z))).1)
 ·exact .inl (.inr ⟨o,(st a _ h (wl.rdT h (fun _ z=>nomatch z))).1⟩)
 ·exact .inr h
theorem RdL.go {H H':Hp} {w w':Wn} (st:x79 H w H' w') {a:Addr} {vs:List V} (n:w a=none) (h:Rd H a (.lst vs)):Rd H' a (.lst vs)/\w' a=none:=by
 rcases h with h | ⟨o,h⟩
 ·exact⟨.inl (st a _ h n).1,(st a _ h n).2⟩
 ·exact⟨.inr ⟨o,(st a _ h n).1⟩,(st a _ h n).2⟩
theorem Rep.go {K:PySem.W.Frag} {H H':Hp} {w w':Wn} {o o':Ow} (wl:WL K w H) (st:x79 H w H' w'):∀ {q:Nat} {d:D} {v:V} {F:List Addr},Rep K H w o q d v F->(∀ a∈F,H' a=H a/\w' a=some o')->Rep K H' w' o' q d v F:=by
 intro q d v F r
 refine Rep.rec (motive_1:=fun q d v F _=>(∀ a∈F,H' a=H a/\w' a=some o')->Rep K H' w' o' q d v F) (motive_2:=fun q ds vs F _=>(∀ a∈F,H' a=H a/\w' a=some o')->Reps K H' w' o' q ds vs F) ?_ ?_ ?_ ?_ ?_ ?_ ?_ ?_ ?_ ?_ ?_ ?_ ?_ r
 ·intro q _; exact .non
 ·intro q b _; exact .bl b
 ·intro q i _; exact .int i
 ·intro q x _; exact .str x
 ·intro q a vs ds h r ih _; exact .tup (st _ _ h (wl.rdT h (fun _ z=>by cases z))).1 (ih (fun _ z=>(List.not_mem_nil z).elim))
 ·intro q a ks vs ds h r ih _; exact .dic (st _ _ h (wl.rdT h (fun _ z=>by cases z))).1 (ih (fun _ z=>(List.not_mem_nil z).elim))
 ·intro q a nm ob u h x n _; exact .exc (st _ _ h (wl.rdT h (fun _ z=>by cases z))).1 x n
 ·intro q f c fo oc u u' vs ds h1 h2 x r ih _; exact .ob (st _ _ h1 (wl.rdT h1 (fun _ z=>by cases z))).1 (st _ _ h2 (wl.rdT h2 (fun _ z=>by cases z))).1 x (ih (fun _ z=>(List.not_mem_nil z).elim))
 ·intro a vs ds h r ih _; exact .kl h (ih (fun _ z=>(List.not_mem_nil z).elim))
 ·intro a vs ds h n r ih _; exact .shr (RdL.go st n h).1 (RdL.go st n h).2 (ih (fun _ z=>(List.not_mem_nil z).elim))
 ·intro q a vs ds F h e r ne ih k; exact .own ((k _ List.mem_cons_self).1.trans h) (k _ List.mem_cons_self).2 (ih fun a m=>k a (List.mem_cons_of_mem _ m)) ne
 ·intro q _; exact .nil
 ·intro q d v ds vs F G r s ne ih1 ih2 k; exact .cons (ih1 fun a m=>k a (List.mem_append_left _ m)) (ih2 fun a m=>k a (List.mem_append_right _ m)) ne
theorem Reps.go {K:PySem.W.Frag} {H H':Hp} {w w':Wn} {o o':Ow} (wl:WL K w H) (st:x79 H w H' w'):∀ {q:Nat} {ds:List D} {vs:List V} {F:List Addr},Reps K H w o q ds vs F->(∀ a∈F,H' a=H a/\w' a=some o')->Reps K H' w' o' q ds vs F:=by
 intro q ds vs F r
 refine Reps.rec (motive_1:=fun q d v F _=>(∀ a∈F,H' a=H a/\w' a=some o')->Rep K H' w' o' q d v F) (motive_2:=fun q ds vs F _=>(∀ a∈F,H' a=H a/\w' a=some o')->Reps K H' w' o' q ds vs F) ?_ ?_ ?_ ?_ ?_ ?_ ?_ ?_ ?_ ?_ ?_ ?_ ?_ r
 ·intro q _; exact .non
 ·intro q b _; exact .bl b
 ·intro q i _; exact .int i
 ·intro q x _; exact .str x
 ·intro q a vs ds h r ih _; exact .tup (st _ _ h (wl.rdT h (fun _ z=>by cases z))).1 (ih (fun _ z=>(List.not_mem_nil z).elim))
 ·intro q a ks vs ds h r ih _; exact .dic (st _ _ h (wl.rdT h (fun _ z=>by cases z))).1 (ih (fun _ z=>(List.not_mem_nil z).elim))
 ·intro q a nm ob u h x n _; exact .exc (st _ _ h (wl.rdT h (fun _ z=>by cases z))).1 x n
 ·intro q f c fo oc u u' vs ds h1 h2 x r ih _; exact .ob (st _ _ h1 (wl.rdT h1 (fun _ z=>by cases z))).1 (st _ _ h2 (wl.rdT h2 (fun _ z=>by cases z))).1 x (ih (fun _ z=>(List.not_mem_nil z).elim))
 ·intro a vs ds h r ih _; exact .kl h (ih (fun _ z=>(List.not_mem_nil z).elim))
 ·intro a vs ds h n r ih _; exact .shr (RdL.go st n h).1 (RdL.go st n h).2 (ih (fun _ z=>(List.not_mem_nil z).elim))
 ·intro q a vs ds F h e r ne ih k; exact .own ((k _ List.mem_cons_self).1.trans h) (k _ List.mem_cons_self).2 (ih fun a m=>k a (List.mem_cons_of_mem _ m)) ne
 ·intro q _; exact .nil
 ·intro q d v ds vs F G r s ne ih1 ih2 k; exact .cons (ih1 fun a m=>k a (List.mem_append_left _ m)) (ih2 fun a m=>k a (List.mem_append_right _ m)) ne
theorem Rep.freeze {K:PySem.W.Frag} {H:Hp} {w w':Wn} {o o':Ow} (n:∀ a,w a=none->w' a=none):∀ {q:Nat} {d:D} {v:V} {F:List Addr},Rep K H w o q d v F->(∀ a∈F,w' a=none)->Rep K H w' o' 0 d v []:=by
 intro q d v F r
 refine Rep.rec (motive_1:=fun q d v F _=>(∀ a∈F,w' a=none)->Rep K H w' o' 0 d v []) (motive_2:=fun q ds vs F _=>(∀ a∈F,w' a=none)->Reps K H w' o' 0 ds vs []) ?_ ?_ ?_ ?_ ?_ ?_ ?_ ?_ ?_ ?_ ?_ ?_ ?_ r
 ·intro q _; exact .non
 ·intro q b _; exact .bl b
 ·intro q i _; exact .int i
 ·intro q x _; exact .str x
 ·intro q a vs ds h r ih _; exact .tup h (ih (fun _ z=>(List.not_mem_nil z).elim))
 ·intro q a ks vs ds h r ih _; exact .dic h (ih (fun _ z=>(List.not_mem_nil z).elim))
 ·intro q a nm ob u h x n _; exact .exc h x n
 ·intro q f c fo oc u u' vs ds h1 h2 x r ih _; exact .ob h1 h2 x (ih (fun _ z=>(List.not_mem_nil z).elim))
 ·intro a vs ds h r ih _; exact .kl h (ih (fun _ z=>(List.not_mem_nil z).elim))
 ·intro a vs ds h e r ih _; exact .shr h (n _ e) (ih (fun _ z=>(List.not_mem_nil z).elim))
 ·intro q a vs ds F h e r ne ih k; exact .shr (Rd.of h) (k _ List.mem_cons_self) (ih fun a m=>k a (List.mem_cons_of_mem _ m))
 ·intro q _; exact .nil
 ·intro q d v ds vs F G r s ne ih1 ih2 k; exact .cons (F:=[]) (G:=[]) (ih1 fun a m=>k a (List.mem_append_left _ m)) (ih2 fun a m=>k a (List.mem_append_right _ m)) (fun _ z=>(List.not_mem_nil z).elim)
theorem Reps.freeze {K:PySem.W.Frag} {H:Hp} {w w':Wn} {o o':Ow} (n:∀ a,w a=none->w' a=none):∀ {q:Nat} {ds:List D} {vs:List V} {F:List Addr},Reps K H w o q ds vs F->(∀ a∈F,w' a=none)->Reps K H w' o' 0 ds vs []:=by
 intro q ds vs F r
 refine Reps.rec (motive_1:=fun q d v F _=>(∀ a∈F,w' a=none)->Rep K H w' o' 0 d v []) (motive_2:=fun q ds vs F _=>(∀ a∈F,w' a=none)->Reps K H w' o' 0 ds vs []) ?_ ?_ ?_ ?_ ?_ ?_ ?_ ?_ ?_ ?_ ?_ ?_ ?_ r
 ·intro q _; exact .non
 ·intro q b _; exact .bl b
 ·intro q i _; exact .int i
 ·intro q x _; exact .str x
 ·intro q a vs ds h r ih _; exact .tup h (ih (fun _ z=>(List.not_mem_nil z).elim))
 ·intro q a ks vs ds h r ih _; exact .dic h (ih (fun _ z=>(List.not_mem_nil z).elim))
 ·intro q a nm ob u h x n _; exact .exc h x n
 ·intro q f c fo oc u u' vs ds h1 h2 x r ih _; exact .ob h1 h2 x (ih (fun _ z=>(List.not_mem_nil z).elim))
 ·intro a vs ds h r ih _; exact .kl h (ih (fun _ z=>(List.not_mem_nil z).elim))
 ·intro a vs ds h e r ih _; exact .shr h (n _ e) (ih (fun _ z=>(List.not_mem_nil z).elim))
 ·intro q a vs ds F h e r ne ih k; exact .shr (Rd.of h) (k _ List.mem_cons_self) (ih fun a m=>k a (List.mem_cons_of_mem _ m))
 ·intro q _; exact .nil
 ·intro q d v ds vs F G r s ne ih1 ih2 k; exact .cons (F:=[]) (G:=[]) (ih1 fun a m=>k a (List.mem_append_left _ m)) (ih2 fun a m=>k a (List.mem_append_right _ m)) (fun _ z=>(List.not_mem_nil z).elim)
theorem Rep.owns {K:PySem.W.Frag} {H:Hp} {w:Wn} {o:Ow}:∀ {q:Nat} {d:D} {v:V} {F:List Addr},Rep K H w o q d v F->∀ a∈F,w a=some o:=by
 intro q d v F r
 refine Rep.rec (motive_1:=fun q d v F _=>∀ a∈F,w a=some o) (motive_2:=fun q ds vs F _=>∀ a∈F,w a=some o) ?_ ?_ ?_ ?_ ?_ ?_ ?_ ?_ ?_ ?_ ?_ ?_ ?_ r
 ·intro q a m; exact(List.not_mem_nil m).elim
 ·intro q b a m; exact(List.not_mem_nil m).elim
 ·intro q i a m; exact(List.not_mem_nil m).elim
 ·intro q x a m; exact(List.not_mem_nil m).elim
 ·intro q a vs ds h r ih b m; exact(List.not_mem_nil m).elim
 ·intro q a ks vs ds h r ih b m; exact(List.not_mem_nil m).elim
 ·intro q a nm ob u h x n b m; exact(List.not_mem_nil m).elim
 ·intro q f c fo oc u u' vs ds h1 h2 x r ih b m; exact(List.not_mem_nil m).elim
 ·intro a vs ds h r ih b m; exact(List.not_mem_nil m).elim
 ·intro a vs ds h e r ih b m; exact(List.not_mem_nil m).elim
 ·intro q a vs ds F h e r ne ih b m
  rcases List.mem_cons.mp m with z | z
  ·rw[z]; exact e
  ·exact ih b z
 ·intro q a m; exact(List.not_mem_nil m).elim
 ·intro q d v ds vs F G r s ne ih1 ih2 a m
  rcases List.mem_append.mp m with z | z
  ·exact ih1 a z
  ·exact ih2 a z
theorem Reps.owns {K:PySem.W.Frag} {H:Hp} {w:Wn} {o:Ow}:∀ {q:Nat} {ds:List D} {vs:List V} {F:List Addr},Reps K H w o q ds vs F->∀ a∈F,w a=some o:=by
 intro q ds vs F r
 refine Reps.rec (motive_1:=fun q d v F _=>∀ a∈F,w a=some o) (motive_2:=fun q ds vs F _=>∀ a∈F,w a=some o) ?_ ?_ ?_ ?_ ?_ ?_ ?_ ?_ ?_ ?_ ?_ ?_ ?_ r
 ·intro q a m; exact(List.not_mem_nil m).elim
 ·intro q b a m; exact(List.not_mem_nil m).elim
 ·intro q i a m; exact(List.not_mem_nil m).elim
 ·intro q x a m; exact(List.not_mem_nil m).elim
 ·intro q a vs ds h r ih b m; exact(List.not_mem_nil m).elim
 ·intro q a ks vs ds h r ih b m; exact(List.not_mem_nil m).elim
 ·intro q a nm ob u h x n b m; exact(List.not_mem_nil m).elim
 ·intro q f c fo oc u u' vs ds h1 h2 x r ih b m; exact(List.not_mem_nil m).elim
 ·intro a vs ds h r ih b m; exact(List.not_mem_nil m).elim
 ·intro a vs ds h e r ih b m; exact(List.not_mem_nil m).elim
 ·intro q a vs ds F h e r ne ih b m
  rcases List.mem_cons.mp m with z | z
  ·rw[z]; exact e
  ·exact ih b z
 ·intro q a m; exact(List.not_mem_nil m).elim
 ·intro q d v ds vs F G r s ne ih1 ih2 a m
  rcases List.mem_append.mp m with z | z
  ·exact ih1 a z
  ·exact ih2 a z
noncomputable def D.isL:D->Bool
 | .lst _=>true
 | _=>false
@[simp] theorem D.isL_non:D.isL .non=false:=rfl
@[simp] theorem D.isL_bl (b:Bool):D.isL (.bl b)=false:=rfl
@[simp] theorem D.isL_int (i:Int):D.isL (.int i)=false:=rfl
@[simp] theorem D.isL_str (x:Str):D.isL (.str x)=false:=rfl
@[simp] theorem D.isL_tup (ds:List D):D.isL (.tup ds)=false:=rfl
@[simp] theorem D.isL_dic (ks:List Str) (ds:List D):D.isL (.dic ks ds)=false:=rfl
@[simp] theorem D.isL_exc (nm:Str):D.isL (.exc nm)=false:=rfl
@[simp] theorem D.isL_ob (f:Addr) (fo:Obj) (vs:List V) (ds:List D):D.isL (.ob f fo vs ds)=false:=rfl
@[simp] theorem D.isL_lst (ds:List D):D.isL (.lst ds)=true:=rfl
theorem Rep.nolist {K:PySem.W.Frag} {H:Hp} {w:Wn} {o:Ow} {q:Nat} {d:D} {v:V} {F:List Addr} (r:Rep K H w o q d v F) (h:d.isL=false):F=[]/\∀ q',Rep K H w o q' d v []:=by
 cases r with
 | non=>exact⟨rfl,fun _=>.non⟩
 | bl b=>exact⟨rfl,fun _=>.bl b⟩
 | int i=>exact⟨rfl,fun _=>.int i⟩
 | str x=>exact⟨rfl,fun _=>.str x⟩
 | tup h' r'=>exact⟨rfl,fun _=>.tup h' r'⟩
 | dic h' r'=>exact⟨rfl,fun _=>.dic h' r'⟩
 | exc h' x n=>exact⟨rfl,fun _=>.exc h' x n⟩
 | ob h1 h2 x r=>exact⟨rfl,fun _=>.ob h1 h2 x r⟩
 | kl=>cases h
 | shr=>cases h
 | own=>cases h
theorem Rep.zero {K:PySem.W.Frag} {H:Hp} {w:Wn} {o:Ow} {d:D} {v:V} {F:List Addr} (r:Rep K H w o 0 d v F):F=[]:=by
 cases r <;> rfl
theorem Reps.zero {K:PySem.W.Frag} {H:Hp} {w:Wn} {o:Ow}:∀ {ds:List D} {vs:List V} {F:List Addr},Reps K H w o 0 ds vs F->F=[]
 | _,_,_,.nil=>rfl
 | _,_,_,.cons r s _=>by rw[r.zero,s.zero]; rfl
theorem Reps.length {K:PySem.W.Frag} {H:Hp} {w:Wn} {o:Ow} {q:Nat}:∀ {ds:List D} {vs:List V} {F:List Addr},Reps K H w o q ds vs F->ds.length=vs.length
 | _,_,_,.nil=>rfl
 | _,_,_,.cons _ s _=>by simp[s.length]
theorem Rep.any {K:PySem.W.Frag} {H:Hp} {w:Wn} {o o':Ow} {q:Nat} {d:D} {v:V} (r:Rep K H w o q d v []) (wl:WL K w H):Rep K H w o' q d v []:=
 Rep.go wl (fun a x h n=>⟨sm h,n⟩) r (fun _ z=>nomatch z)
theorem Reps.any {K:PySem.W.Frag} {H:Hp} {w:Wn} {o o':Ow} {q:Nat} {d:List D} {v:List V} (r:Reps K H w o q d v []) (wl:WL K w H):Reps K H w o' q d v []:=
 Reps.go wl (fun a x h n=>⟨sm h,n⟩) r (fun _ z=>nomatch z)
theorem Reps.get {K:PySem.W.Frag} {H:Hp} {w:Wn} {o:Ow}:∀ {ds:List D} {vs:List V} {i:Nat} {d:D},Reps K H w o 0 ds vs []->ds[i]? = some d->∃ v,vs[i]? = some v/\Rep K H w o 0 d v []
 | ds,vs,i,d,r,e=>by
  generalize hF:([]:List Addr)=F at r
  cases r with
  | nil=>simp at e
  | @cons _ d' v' ds' vs' F' G' r s _=>
   have h1:F'=[]:=r.zero
   have h2:G'=[]:=s.zero
   subst h1 h2
   cases i with
   | zero=>simp at e; subst e; exact⟨v',rfl,r⟩
   | succ j=>
    obtain⟨v,h1,h2⟩:=Reps.get (i:=j) (d:=d) s (by simpa using e)
    exact⟨v,by simpa using h1,h2⟩
theorem Reps.snoc {K:PySem.W.Frag} {H:Hp} {w:Wn} {o:Ow} {q:Nat} {d:D} {v:V} {G:List Addr} (r':Rep K H w o q d v G):∀ {ds:List D} {vs:List V} {F:List Addr},Reps K H w o q ds vs F->(∀ a∈F,a ∉ G)->Reps K H w o q (ds++[d]) (vs++[v]) (F++G)
 | _,_,_,.nil,_=>by
  have:Reps K H w o q [d] [v] (G++[]):=.cons r' .nil (fun a _ z=>nomatch z)
  simpa using this
 | _,_,_,.cons (F:=F) (G:=F') r s ne,k=>by
  rw[List.append_assoc]
  refine .cons r (Reps.snoc r' s fun a m=>k a (List.mem_append_right _ m)) fun a m z=>?_
  rcases List.mem_append.mp z with z | z
  ·exact ne a m z
  ·exact k a (List.mem_append_left _ m) z
noncomputable abbrev Rho:=List (Option (D × Nat))
structure Good (K:PySem.W.Frag) (ρ:Rho) (σ:St) (H:Hp) (w:Wn) (t:Nat):Prop where
 wl:WL K w H
 ws:∀ a i,w a=some (.s i)->i<σ.length
 wt:∀ a i,w a=some (.t i)->i<t
 len:ρ.length=σ.length
 slot:∀ (i:Nat) d q,ρ[i]? = some (some (d,q))->∃ v F,σ[i]? = some (some v)/\Rep K H w (.s i) q d v F
structure Go (H:Hp) (w:Wn) (H':Hp) (w':Wn):Prop where
 stab:x79 H w H' w'
 keep:∀ a o,w a=some o->(∀ i,o ≠ .s i)->H' a=H a/\w' a=some o
theorem Go.refl {H:Hp} {w:Wn}:Go H w H w:=⟨fun a x h n=>⟨sm h,n⟩,fun a o e _=>⟨rfl,e⟩⟩
theorem Go.trans {H H1 H2:Hp} {w w1 w2:Wn} (a:Go H w H1 w1) (b:Go H1 w1 H2 w2):Go H w H2 w2:=
 ⟨a.stab.trans b.stab,fun c o e h=>by
   obtain⟨h1,w1⟩:=a.keep c o e h
   obtain⟨h2,w2⟩:=b.keep c o w1 h
   exact⟨h2.trans h1,w2⟩⟩
theorem Rep.gone {K:PySem.W.Frag} {H H':Hp} {w w':Wn} {q:Nat} {d:D} {v:V} {F:List Addr} {i:Nat} (r:Rep K H w (.t i) q d v F) (wl:WL K w H) (g:Go H w H' w'):Rep K H' w' (.t i) q d v F:=
 Rep.go wl g.stab r fun a m=>g.keep a _ (r.owns a m) (fun _ z=>nomatch z)
theorem Reps.gone {K:PySem.W.Frag} {H H':Hp} {w w':Wn} {q:Nat} {d:List D} {v:List V} {F:List Addr} {i:Nat} (r:Reps K H w (.t i) q d v F) (wl:WL K w H) (g:Go H w H' w'):Reps K H' w' (.t i) q d v F:=
 Reps.go wl g.stab r fun a m=>g.keep a _ (r.owns a m) (fun _ z=>nomatch z)
noncomputable def x1x (t:Nat) (w:Wn):Wn:=fun a=>match w a with
 | some (.t i)=>if t<=i then none else some (.t i)
 | x=>x
theorem x6n {t:Nat} {w:Wn} {a:Addr} (h:w a=none):x1x t w a=none:=by unfold x1x; rw[h]
theorem z7y {t:Nat} {w:Wn} {a:Addr} {i:Nat} (h:w a=some (.s i)):x1x t w a=some (.s i):=by unfold x1x; rw[h]
theorem z9y {t:Nat} {w:Wn} {a:Addr} (h:w a=some .f):x1x t w a=some .f:=by unfold x1x; rw[h]
theorem z3u {t:Nat} {w:Wn} {a:Addr} {i:Nat} (h:w a=some (.t i)) (hi:i<t):x1x t w a=some (.t i):=by unfold x1x; rw[h]; exact if_neg (by omega)
theorem z4n {t:Nat} {w:Wn} {a:Addr} {i:Nat} (h:w a=some (.t i)) (hi:t<=i):x1x t w a=none:=by unfold x1x; rw[h]; exact if_pos hi
theorem x8q {t:Nat} {w:Wn} {a:Addr} {o:Ow} (h:x1x t w a=some o):w a=some o/\∀ i,o=.t i->i<t:=by
 unfold x1x at h
 cases e:w a with
 | none=>rw[e]at h; cases h
 | some o'=>
  rw[e]at h
  cases o' with
  | s i=>cases h; exact⟨rfl,fun i z=>nomatch z⟩
  | f=>cases h; exact⟨rfl,fun i z=>nomatch z⟩
  | t i=>
   dsimp only at h
   split at h
   ·cases h
   ·cases h; exact⟨rfl,fun j z=>by cases z; omega⟩
theorem Good.drop {K:PySem.W.Frag} {ρ:Rho} {σ:St} {H:Hp} {w:Wn} {t t':Nat} (g:Good K ρ σ H w t):Good K ρ σ H (x1x t' w) t':=by
 refine⟨⟨fun a o e=>g.wl a o (x8q e).1,g.wl.tb⟩,fun a i e=>g.ws a i (x8q e).1,fun a i e=>(x8q e).2 i rfl,g.len,fun i d q e=>?_⟩
 obtain⟨v,F,h1,h2⟩:=g.slot i d q e
 exact⟨v,F,h1,Rep.go g.wl (fun a x h n=>⟨sm h,x6n n⟩) h2 fun a m=>⟨rfl,z7y (h2.owns a m)⟩⟩
theorem Go.drop {H H':Hp} {w w':Wn} {t:Nat} (g:Go H w H' w') (wt:∀ a i,w a=some (.t i)->i<t):Go H w H' (x1x t w'):=
 ⟨fun a x h n=>⟨(g.stab a x h n).1,x6n (g.stab a x h n).2⟩,fun a o e h=>by
   obtain⟨h1,h2⟩:=g.keep a o e h
   refine⟨h1,?_⟩
   cases o with
   | s i=>exact absurd rfl (h i)
   | f=>exact z9y h2
   | t i=>exact z3u h2 (wt a i e)⟩
theorem Rep.drop {K:PySem.W.Frag} {H:Hp} {w:Wn} {q:Nat} {d:D} {v:V} {F:List Addr} {t:Nat} {o:Ow} (r:Rep K H w (.t t) q d v F) {t':Nat} (h:t'<=t):Rep K H (x1x t' w) o 0 d v []:=
 Rep.freeze (fun a n=>x6n n) r fun a m=>z4n (r.owns a m) h
noncomputable abbrev Den:=Rho->Option (D × Nat × Rho)
noncomputable def tD (K:PySem.W.Frag) (f:Den):TE:=fun σ H Q=>∃ ρ w t r q ρ',Good K ρ σ H w t/\f ρ=some (r,q,ρ')/\∀ v H' w' F,Good K ρ' σ H' w' (t+1)->Go H w H' w'->Rep K H' w' (.t t) q r v F->Q v H'
theorem PE.imp {X:Cx} {e:Expr} {t t':TE} (h:PE X e t) (i:∀ σ H Q,t' σ H Q->t σ H Q):PE X e t':=fun pins s σ H Q I q=>h pins s σ H Q I (i σ H Q q)
noncomputable abbrev PD (X:Cx) (e:Expr) (f:Den):Prop:=PE X e (tD X.K f)
theorem Good.up {K:PySem.W.Frag} {ρ:Rho} {σ:St} {H:Hp} {w:Wn} {t:Nat} (g:Good K ρ σ H w t):Good K ρ σ H w (t+1):=⟨g.wl,g.ws,fun a i e=>Nat.lt_succ_of_lt (g.wt a i e),g.len,g.slot⟩
@[simp] noncomputable def x41 (d:D):Nat:=if d.isL then 0 else 9
theorem Rep.dep {K:PySem.W.Frag} {H:Hp} {w:Wn} {o:Ow} {d:D} {v:V} (r:Rep K H w o 0 d v []):Rep K H w o (x41 d) d v []:=by
 unfold x41
 cases e:d.isL with
 | true=>exact r
 | false=>exact(r.nolist e).2 9
section
variable {K:PySem.W.Frag} {σ:St} {H:Hp} {ρ ρ' ρ1 ρ2:Rho} {w:Wn} {t:Nat} {Q:VK}
theorem z5y {fa fb:Den} {R:V->V->Hp->Prop} (g:Good K ρ σ H w t) {d1 d2:D} {q1 q2:Nat} (e1:fa ρ=some (d1,q1,ρ1)) (e2:fb ρ1=some (d2,q2,ρ2))
  (k:∀ x y H2 w2 F1 F2,Good K ρ2 σ H2 w2 (t+2)->Go H w H2 w2->Rep K H2 w2 (.t t) q1 d1 x F1->Rep K H2 w2 (.t (t+1)) q2 d2 y F2->R x y H2) :
  tD K fa σ H fun x H1=>tD K fb σ H1 fun y H2=>R x y H2:=
 ⟨ρ,w,t,d1,q1,ρ1,g,e1,fun x H1 w1 F1 g1 go1 r1=>⟨ρ1,w1,t+1,d2,q2,ρ2,g1,e2,fun y H2 w2 F2 g2 go2 r2=>k x y H2 w2 F1 F2 g2 (go1.trans go2) (r1.gone g1.wl go2) r2⟩⟩
theorem z86 {r:D} {q:Nat} {v:V} {H2:Hp} {w2:Wn} {t2:Nat} (k:∀ v H' w' F,Good K ρ' σ H' w' (t+1)->Go H w H' w'->Rep K H' w' (.t t) q r v F->Q v H') (g:Good K ρ σ H w t) (g2:Good K ρ' σ H2 w2 t2) (go:Go H w H2 w2)
  (rr:Rep K H2 (x1x t w2) (.t t) q r v []):Q v H2:=k v H2 (x1x t w2) [] g2.drop.up (go.drop g.wt) rr
noncomputable def z21 (p:Addr) (o:Ow) (w:Wn):Wn:=fun a=>if a=p then some o else w a
theorem x5d {p:Addr} {o:Ow} {w:Wn}:z21 p o w p=some o:=if_pos rfl
theorem x43 {p a:Addr} {o:Ow} {w:Wn} (h:a≠p):z21 p o w a=w a:=if_neg h
theorem y2k {H1:Hp} {p:Addr} {vs:List V} {ds:List D} {w1:Wn} (g:Good K ρ σ H1 w1 t) (hp:H1 p=none) (r:Reps K H1 w1 .f 0 ds vs []) :
  Good K ρ σ (upd H1 p (.lst vs)) (z21 p (.t t) w1) (t+1)/\Go H1 w1 (upd H1 p (.lst vs)) (z21 p (.t t) w1)/\Rep K (upd H1 p (.lst vs)) (z21 p (.t t) w1) (.t t) 1 (.lst ds) (.ref p) [p]:=by
 have ne:∀ a x,H1 a=some x->a≠p:=fun a x e=>x1c e hp
 have nw:∀ a o,w1 a=some o->a≠p:=fun a o e=>by obtain⟨vs,q⟩:=g.wl a o e; exact ne a _ q
 have st:x79 H1 w1 (upd H1 p (.lst vs)) (z21 p (.t t) w1):=fun a x e n=>⟨sm (by rw[x0p (ne a x e)]; exact e),by rw[x43 (ne a x e)]; exact n⟩
 refine⟨⟨⟨fun a o e=>?_,g.wl.tb.upd rfl (.inl hp)⟩,fun a i e=>?_,fun a i e=>?_,g.len,fun i d q e=>?_⟩,⟨st,fun a o e _=>⟨x0p (nw a o e),(x43 (nw a o e)).trans e⟩⟩,?_⟩
 ·by_cases h:a=p
  ·subst h; exact⟨vs,x21⟩
  ·rw[x43 h]at e
   obtain⟨us,q⟩:=g.wl a o e
   exact⟨us,by rw[x0p h]; exact q⟩
 ·by_cases h:a=p
  ·subst h; rw[x5d]at e; cases e
  ·rw[x43 h]at e; exact g.ws a i e
 ·by_cases h:a=p
  ·subst h; rw[x5d]at e; cases e; exact Nat.lt_succ_self _
  ·rw[x43 h]at e; exact Nat.lt_succ_of_lt (g.wt a i e)
 ·obtain⟨v,F,h1,h2⟩:=g.slot i d q e
  exact⟨v,F,h1,Rep.go g.wl st h2 fun a m=>⟨x0p (nw a _ (h2.owns a m)),(x43 (nw a _ (h2.owns a m))).trans (h2.owns a m)⟩⟩
 ·exact .own x21 x5d (Reps.go g.wl st r (fun _ z=>nomatch z)) (fun z=>nomatch z)
theorem y3v {H1:Hp} {p:Addr} {vs:List V} {ds:List D} {w1:Wn} (g:Good K ρ σ H1 w1 t) (hp:H1 p=none) (r:Reps K H1 w1 .f 0 ds vs []) :
  Good K ρ σ (upd H1 p (.tup vs)) w1 (t+1)/\Go H1 w1 (upd H1 p (.tup vs)) w1/\Rep K (upd H1 p (.tup vs)) w1 (.t t) 9 (.tup ds) (.ref p) []:=by
 have ne:∀ a x,H1 a=some x->a≠p:=fun a x e=>x1c e hp
 have nw:∀ a o,w1 a=some o->a≠p:=fun a o e=>by obtain⟨vs,q⟩:=g.wl a o e; exact ne a _ q
 have st:x79 H1 w1 (upd H1 p (.tup vs)) w1:=fun a x e n=>⟨sm (by rw[x0p (ne a x e)]; exact e),n⟩
 refine⟨⟨⟨fun a o e=>?_,g.wl.tb.upd rfl (.inl hp)⟩,g.ws,fun a i e=>Nat.lt_succ_of_lt (g.wt a i e),g.len,fun i d q e=>?_⟩,⟨st,fun a o e _=>⟨x0p (nw a o e),e⟩⟩,?_⟩
 ·obtain⟨us,q⟩:=g.wl a o e
  exact⟨us,by rw[x0p (nw a o e)]; exact q⟩
 ·obtain⟨v,F,h1,h2⟩:=g.slot i d q e
  exact⟨v,F,h1,Rep.go g.wl st h2 fun a m=>⟨x0p (nw a _ (h2.owns a m)),h2.owns a m⟩⟩
 ·exact .tup x21 (Reps.go g.wl st r (fun _ z=>nomatch z))
end
@[simp] noncomputable def eC (d:D):Den:=fun ρ=>some (d,9,ρ)
@[simp] noncomputable def x06 (i:Nat):Den:=fun ρ=>match ρ[i]? with
 | some (some (d,q))=>if d.isL=false then some (d,9,ρ)else if q=0 then some (d,0,ρ)else some (d,0,ρ.set i (some (d,0)))
 | _=>none
section
variable {X:Cx} {a b c e:Expr} {fa fb fc f:Den} {pos:Pos}
theorem x81 {v:V} {d:D} (h:PE X e (tC v)) (r:∀ K H w o q,Rep K H w o q d v []):PD X e (eC d):=PE.imp h fun σ H Q hh0=>by
 obtain⟨ρ,w,t,r',q,ρ',g,ee,k⟩:=hh0
 cases ee
 exact k v H w [] g.up Go.refl (r _ _ _ _ _)
theorem j35 {i j}:PD X (.Constant (.int i) j pos) (eC (.int i)):=x81 j1u fun _ _ _ _ _=>.int i
theorem j4q {i j}:PD X (.Constant (.bool i) j pos) (eC (.bl i)):=x81 j58 fun _ _ _ _ _=>.bl i
theorem j18 {j}:PD X (.Constant .none j pos) (eC .non):=x81 j3h fun _ _ _ _ _=>.non
theorem j1o {x j}:PD X (.Constant (.str x) j pos) (eC (.str x)):=x81 z5x fun _ _ _ _ _=>.str x
noncomputable def x5g (i:Nat) (w:Wn):Wn:=fun a=>if w a=some (.s i)then none else w a
theorem x54 {i:Nat} {w:Wn} {a:Addr} (h:w a=none):x5g i w a=none:=by unfold x5g; rw[h]; rfl
theorem y29 {i:Nat} {w:Wn} {a:Addr} (h:w a=some (.s i)):x5g i w a=none:=by unfold x5g; rw[if_pos h]
theorem x6s {i:Nat} {w:Wn} {a:Addr} {o:Ow} (h:w a=some o) (n:o ≠ .s i):x5g i w a=some o:=by unfold x5g; rw[if_neg (by rw[h]; exact fun z=>n (Option.some.inj z))]; exact h
theorem x2y {i:Nat} {w:Wn} {a:Addr} {o:Ow} (h:x5g i w a=some o):w a=some o/\o ≠ .s i:=by
 unfold x5g at h
 split at h
 ·cases h
 ·rename_i n; exact⟨h,fun z=>n (by rw[h,z])⟩
theorem Good.give {K:PySem.W.Frag} {ρ:Rho} {σ:St} {H:Hp} {w:Wn} {t i:Nat} {d:D} {q:Nat} (g:Good K ρ σ H w t) (e:ρ[i]? = some (some (d,q))):Good K (ρ.set i (some (d,0))) σ H (x5g i w) t/\Go H w H (x5g i w):=by
 have st:x79 H w H (x5g i w):=fun a x h n=>⟨sm h,x54 n⟩
 refine⟨⟨⟨fun a o h=>g.wl a o (x2y h).1,g.wl.tb⟩,fun a j h=>g.ws a j (x2y h).1,fun a j h=>g.wt a j (x2y h).1,by rw[List.length_set]; exact g.len,fun j d' q' e'=>?_⟩,⟨st,fun a o h n=>⟨rfl,x6s h (n i)⟩⟩⟩
 by_cases hj:i=j
 ·subst hj
  rw[List.getElem?_set_self (List.getElem?_eq_some_iff.mp e).1]at e'
  cases e'
  obtain⟨v,F,h1,h2⟩:=g.slot i d q e
  exact⟨v,[],h1,Rep.freeze (fun a n=>x54 n) h2 fun a m=>y29 (h2.owns a m)⟩
 ·rw[List.getElem?_set_ne hj]at e'
  obtain⟨v,F,h1,h2⟩:=g.slot j d' q' e'
  exact⟨v,F,h1,Rep.go g.wl st h2 fun a m=>⟨rfl,x6s (h2.owns a m) (fun z=>hj (by cases z; rfl))⟩⟩
theorem j0i {i:Nat} {x:Str} (h:PE X (.Name x pos) (x9n i)):PD X (.Name x pos) (x06 i):=PE.imp h fun σ H Q hh0=>by
 obtain⟨ρ,w,t,r',q,ρ',g,ee,k⟩:=hh0
 unfold x06 at ee
 split at ee
 ·rename_i d q0 e0
  obtain⟨v,F,h1,h2⟩:=g.slot i d q0 e0
  refine⟨v,h1,?_⟩
  split at ee
  ·rename_i hl
   cases ee
   obtain⟨hF,hr⟩:=h2.nolist hl
   exact k v H w [] g.up Go.refl ((hr 9).any g.wl)
  ·split at ee
   ·rename_i hq
    subst hq
    cases ee
    have:=h2.zero
    subst this
    exact k v H w [] g.up Go.refl (h2.any g.wl)
   ·cases ee
    obtain⟨g',go'⟩:=g.give e0
    refine k v H (x5g i w) [] g'.up go' ?_
    exact Rep.freeze (fun a n=>x54 n) h2 fun a m=>y29 (h2.owns a m)
 ·cases ee
noncomputable def x92:D->Option V
 | .non=>some .non
 | .bl b=>some (.bl b)
 | .int i=>some (.int i)
 | .str x=>some (.str x)
 | _=>none
theorem y02 {K:PySem.W.Frag} {H:Hp} {w:Wn} {o:Ow} {q:Nat} {d:D} {v:V} (h:x92 d=some v):Rep K H w o q d v []:=by
 cases d <;> cases h
 ·exact .non
 ·exact .bl _
 ·exact .int _
 ·exact .str _
@[simp] noncomputable def e2 (g:D->D->Option D) (fa fb:Den):Den:=fun ρ=>match fa ρ with
 | some (x,_,ρ1)=>match fb ρ1 with
  | some (y,_,ρ2)=>match g x y with
   | some d=>some (d,9,ρ2)
   | none=>none
  | none=>none
 | none=>none
theorem z7b {g:D->D->Option D} {ρ ρ':Rho} {r:D} {q:Nat} (h:e2 g fa fb ρ=some (r,q,ρ')):∃ x q1 ρ1 y q2,fa ρ=some (x,q1,ρ1)/\fb ρ1=some (y,q2,ρ')/\g x y=some r/\q=9:=by
 unfold e2 at h
 split at h
 ·rename_i x q1 ρ1 h1
  split at h
  ·rename_i y q2 ρ2 h2
   split at h
   ·rename_i d hd
    cases h
    exact⟨x,q1,ρ1,y,q2,h1,h2,hd,rfl⟩
   ·cases h
  ·cases h
 ·cases h
theorem y15 {K:PySem.W.Frag} {g:D->D->Option D} {r:R2} (hg:∀ x y d,g x y=some d->∃ v,x92 d=some v/\∀ H w o o' q q' u u' F F',Rep K H w o q x u F->Rep K H w o' q' y u' F'->WL K w H->∀ Q:VK,Q v H->r u u' H Q) :
  ∀ σ H Q,tD K (e2 g fa fb) σ H Q->tOp r (tD K fa) (tD K fb) σ H Q:=fun σ H Q hh0=>by
 obtain⟨ρ,w,t,r',q,ρ',gd,ee,k⟩:=hh0
 obtain⟨x,q1,ρ1,y,q2,h1,h2,h3,rfl⟩:=z7b ee
 obtain⟨v,hv,hr⟩:=hg x y r' h3
 exact z5y gd h1 h2 fun u u' H2 w2 F1 F2 g2 go r1 r2=>hr H2 w2 _ _ _ _ u u' F1 F2 r1 r2 g2.wl Q (z86 k gd g2 go (y02 hv))
@[simp] noncomputable def gI (f:Int->Int->Option D):D->D->Option D
 | .int i,.int j=>f i j
 | _,_=>none
theorem x61 {f:Int->Int->Option D} {x y d:D} (h:gI f x y=some d):∃ i j,x=.int i/\y=.int j/\f i j=some d:=by
 unfold gI at h
 split at h
 ·exact⟨_,_,rfl,rfl,h⟩
 ·cases h
theorem x39 {K:PySem.W.Frag} {H:Hp} {w:Wn} {o:Ow} {q:Nat} {i:Int} {v:V} {F:List Addr} (r:Rep K H w o q (.int i) v F):v=.int i:=by cases r; rfl
theorem y2s {K:PySem.W.Frag} {f:Int->Int->Option D} {C:Int->Int->Prop} {h:Int->Int->V} (hf:∀ i j d,f i j=some d->C i j/\x92 d=some (h i j)) :
  ∀ σ H Q,tD K (e2 (gI f) fa fb) σ H Q->tOp (rI C h) (tD K fa) (tD K fb) σ H Q:=
 y15 fun x y d e=>by
  obtain⟨i,j,rfl,rfl,e⟩:=x61 e
  obtain⟨c,s⟩:=hf i j d e
  exact⟨_,s,fun H w o o' q q' u u' F F' r1 r2 _ Q hq=>⟨i,j,x39 r1,x39 r2,c,hq⟩⟩
theorem y2p {K:PySem.W.Frag} {f:Int->Int->Option D} {h:Int->Int->V} (hf:∀ i j d,f i j=some d->x92 d=some (h i j)) :
  ∀ σ H Q,tD K (e2 (gI f) fa fb) σ H Q->tOp (rI0 h) (tD K fa) (tD K fb) σ H Q:=
 y15 fun x y d e=>by
  obtain⟨i,j,rfl,rfl,e⟩:=x61 e
  exact⟨_,hf i j d e,fun H w o o' q q' u u' F F' r1 r2 _ Q hq=>⟨i,j,x39 r1,x39 r2,hq⟩⟩
end
section
variable {X:Cx} {a b c e:Expr} {fa fb fc f:Den} {pos:Pos}
@[simp] noncomputable def x2g:D->D->Option D:=gI fun i j=>some (.int (i+j))
@[simp] noncomputable def y00:D->D->Option D:=gI fun i j=>if(-(2 ^ 64)<i/\i<2 ^ 64)\/(-(2 ^ 64)<j/\j<2 ^ 64)then some (.int (i*j))else none
@[simp] noncomputable def z64:D->D->Option D:=gI fun i j=>if 0<j/\j<1073741824 then some (.int (i / j))else none
@[simp] noncomputable def y7r:D->D->Option D:=gI fun i j=>if 0<j then some (.int (i % j))else none
theorem j40 (ha:PD X a fa) (hb:PD X b fb):PD X (.BinOp a .Add b pos) (e2 x2g fa fb):=PE.imp (y3f j42 ha hb) (y2p fun i j d h=>by cases h; rfl)
theorem j1z (ha:PD X a fa) (hb:PD X b fb):PD X (.BinOp a .Mult b pos) (e2 y00 fa fb):=PE.imp (y3f j2c ha hb) (y2s fun i j d h=>by
 split at h
 ·cases h; exact⟨by assumption,rfl⟩
 ·cases h)
theorem j1k (ha:PD X a fa) (hb:PD X b fb):PD X (.BinOp a .FloorDiv b pos) (e2 z64 fa fb):=PE.imp (y3f z7e ha hb) (y2s fun i j d h=>by
 split at h
 ·cases h; exact⟨by assumption,rfl⟩
 ·cases h)
theorem j0g (ha:PD X a fa) (hb:PD X b fb):PD X (.BinOp a .Mod b pos) (e2 y7r fa fb):=PE.imp (y3f j0q ha hb) (y2s fun i j d h=>by
 split at h
 ·cases h; exact⟨by assumption,rfl⟩
 ·cases h)
noncomputable def atD:D->Int->Option D
 | .lst ds,i=>atI ds i
 | .tup ds,i=>atI ds i
 | _,_=>none
@[simp] noncomputable def eIx (fa fb:Den):Den:=fun ρ=>match fa ρ with
 | some (x,_,ρ1)=>match fb ρ1 with
  | some (.int i,_,ρ2)=>match atD x i with
   | some d=>some (d,x41 d,ρ2)
   | none=>none
  | _=>none
 | none=>none
theorem Rep.seqL {K:PySem.W.Frag} {H:Hp} {w:Wn} {o:Ow} {q:Nat} {ds:List D} {v:V} {F:List Addr} (r:Rep K H w o q (.lst ds) v F):∃ a vs q' G,v=.ref a/\SqL K H a vs/\Reps K H w o q' ds vs G:=by
 cases r with
 | kl h r=>exact⟨_,_,_,_,rfl,h.sq,r⟩
 | shr h n r=>exact⟨_,_,_,_,rfl,.inl h,r⟩
 | own h n r _=>exact⟨_,_,_,_,rfl,SqL.of h,r⟩
theorem Rep.seqL0 {K:PySem.W.Frag} {H:Hp} {w:Wn} {o:Ow} {ds:List D} {v:V} {F:List Addr} (r:Rep K H w o 0 (.lst ds) v F):∃ a vs,v=.ref a/\SqL K H a vs/\Reps K H w o 0 ds vs []:=by
 cases r with
 | kl h r=>exact⟨_,_,rfl,h.sq,r⟩
 | shr h n r=>exact⟨_,_,rfl,.inl h,r⟩
theorem Rep.seqT {K:PySem.W.Frag} {H:Hp} {w:Wn} {o:Ow} {q:Nat} {ds:List D} {v:V} {F:List Addr} (r:Rep K H w o q (.tup ds) v F):∃ a vs,v=.ref a/\SqT K H a vs/\Reps K H w o 0 ds vs []:=by
 cases r with
 | tup h r=>exact⟨_,_,rfl,SqT.of h,r⟩
theorem Reps.atI {K:PySem.W.Frag} {H:Hp} {w:Wn} {o:Ow} {ds:List D} {vs:List V} {i:Int} {d:D} (r:Reps K H w o 0 ds vs []) (h:L2.atI ds i=some d):∃ v,L2.atI vs i=some v/\Rep K H w o 0 d v []:=by
 unfold L2.atI at h ⊢
 rw[<- r.length]
 cases e:ixN ds.length i with
 | none=>rw[e]at h; cases h
 | some j=>
  rw[e]at h
  exact r.get h
theorem j4r (ha:PD X a fa) (hb:PD X b fb) (hs:x5m b:=by exact fun _ _=>rfl):PD X (.Subscript a b pos) (eIx fa fb):=PE.imp (z29 y7l ha hb hs) fun σ H Q hh0=>by
 obtain⟨ρ,w,t,r',q,ρ',gd,ee,k⟩:=hh0
 unfold eIx at ee
 split at ee
 ·rename_i x q1 ρ1 h1
  split at ee
  ·rename_i i q2 ρ2 h2
   split at ee
   ·rename_i d hd
    cases ee
    refine z5y gd h1 h2 fun u u' H2 w2 F1 F2 g2 go r1 r2=>?_
    have hu':=x39 r2
    subst hu'
    have r0:=r1.drop (o:=.t t) (Nat.le_refl t)
    cases x with
    | lst ds=>
     obtain⟨p,vs,rfl,hq,rs⟩:=r0.seqL0
     obtain⟨v,hv,rv⟩:=rs.atI hd
     exact .inl ⟨p,vs,i,v,rfl,rfl,hq,hv,z86 k gd g2 go rv.dep⟩
    | tup ds=>
     obtain⟨p,vs,rfl,hq,rs⟩:=r0.seqT
     obtain⟨v,hv,rv⟩:=rs.atI hd
     exact .inr (.inl ⟨p,vs,i,v,rfl,rfl,hq,hv,z86 k gd g2 go rv.dep⟩)
    | _=>cases hd
   ·cases ee
  ·cases ee
 ·cases ee
noncomputable abbrev x1o:=Rho->Option (List D × Rho)
noncomputable def tDA (K:PySem.W.Frag) (f:x1o):TA:=fun σ H Q=>∃ ρ w t ds ρ',Good K ρ σ H w t/\f ρ=some (ds,ρ')/\∀ vs H' w',Good K ρ' σ H' w' t->Go H w H' w'->Reps K H' w' .f 0 ds vs []->Q vs H'
noncomputable abbrev PDA (X:Cx) (es:List Expr) (f:x1o):Prop:=PA X es (tDA X.K f)
theorem PA.imp {X:Cx} {e:List Expr} {t t':TA} (h:PA X e t) (i:∀ σ H Q,t' σ H Q->t σ H Q):PA X e t':=fun pos pins s σ H Q I q=>h pos pins s σ H Q I (i σ H Q q)
@[simp] noncomputable def x0d:x1o:=fun ρ=>some ([],ρ)
@[simp] noncomputable def x01 (f:Den) (g:x1o):x1o:=fun ρ=>match f ρ with
 | some (d,_,ρ1)=>match g ρ1 with
  | some (ds,ρ2)=>some (d::ds,ρ2)
  | none=>none
 | none=>none
theorem z85:PDA X [] x0d:=PA.imp x78 fun σ H Q hh0=>by
 obtain⟨ρ,w,t,ds,ρ',gd,ee,k⟩:=hh0
 cases ee
 exact k [] H w gd Go.refl .nil
theorem z49 {es:List Expr} {g:x1o} (ha:PD X e f) (hr:PDA X es g) (hs:starEach (e::es) X.env=(false,eval e X.env)::starEach es X.env:=by rfl):PDA X (e::es) (x01 f g):=PA.imp (x3e ha hr hs) fun σ H Q hh0=>by
 obtain⟨ρ,w,t,ds,ρ',gd,ee,k⟩:=hh0
 unfold x01 at ee
 split at ee
 ·rename_i d q ρ1 h1
  split at ee
  ·rename_i ds' ρ2 h2
   cases ee
   refine⟨ρ,w,t,d,q,ρ1,gd,h1,fun x H1 w1 F1 g1 go1 r1=>⟨ρ1,x1x t w1,t,ds',_,g1.drop,h2,fun vs H2 w2 g2 go2 r2=>?_⟩⟩
   have gl:=(g1.drop (t':=t)).wl
   have r0:Rep X.K H2 w2 .f 0 d x []:=Rep.go gl go2.stab (r1.drop (o:=.f) (Nat.le_refl t)) (fun _ z=>nomatch z)
   exact k (x::vs) H2 w2 g2 ((go1.drop gd.wt).trans go2) (.cons (F:=[]) (G:=[]) r0 r2 (fun _ z=>nomatch z))
  ·cases ee
 ·cases ee
@[simp] noncomputable def x4n (g:x1o):Den:=fun ρ=>match g ρ with
 | some (ds,ρ1)=>if ds.length<=1000 then some (.lst ds,1,ρ1)else none
 | none=>none
@[simp] noncomputable def x34 (g:x1o):Den:=fun ρ=>match g ρ with
 | some (ds,ρ1)=>if ds.length<=1000 then some (.tup ds,9,ρ1)else none
 | none=>none
theorem x9q {n:Nat} (h:n<=1000):n<=sizeLine:=Nat.le_of_lt (x3q h)
theorem j04 {es:List Expr} {g:x1o} (h:PDA X es g):PD X (.List es pos) (x4n g):=PE.imp (j0b h) fun σ H Q hh0=>by
 obtain⟨ρ,w,t,r',q,ρ',gd,ee,k⟩:=hh0
 unfold x4n at ee
 split at ee
 ·rename_i ds ρ1 h1
  split at ee
  ·rename_i hl
   cases ee
   refine⟨ρ,w,t,ds,_,gd,h1,fun vs H1 w1 g1 go1 r1=>⟨by rw[<- r1.length]; exact x9q hl,fun p hp=>?_⟩⟩
   obtain⟨a1,a2,a3⟩:=y2k g1 hp r1
   exact k _ _ _ _ a1 (go1.trans a2) a3
  ·cases ee
 ·cases ee
theorem j0v {es:List Expr} {g:x1o} {x1} (h:PDA X es g):PD X (.Tuple es x1 pos) (x34 g):=PE.imp (j0c h) fun σ H Q hh0=>by
 obtain⟨ρ,w,t,r',q,ρ',gd,ee,k⟩:=hh0
 unfold x34 at ee
 split at ee
 ·rename_i ds ρ1 h1
  split at ee
  ·rename_i hl
   cases ee
   refine⟨ρ,w,t,ds,_,gd,h1,fun vs H1 w1 g1 go1 r1=>⟨by rw[<- r1.length]; exact x9q hl,fun p hp=>?_⟩⟩
   obtain⟨a1,a2,a3⟩:=y3v g1 hp r1
   exact k _ _ _ _ a1 (go1.trans a2) a3
  ·cases ee
 ·cases ee
noncomputable def spD (K:PySem.W.Frag) (n:Nat) (F:List D->Option (D × Nat)):Sp:=fun vs H Q _=>vs.length=n/\∃ ds w r q,(∀ a o,w a=some o->o=.f)/\WL K w H/\Reps K H w .f 0 ds vs []/\F ds=some (r,q) /\
 ∀ v H' w' Fo,Go H w H' w'->WL K w' H'->Rep K H' w' (.t 0) q r v Fo->Q v H'
@[simp] noncomputable def x0f (F:List D->Option (D × Nat)) (n:Nat) (g:x1o):Den:=fun ρ=>match g ρ with
 | some (ds,ρ1)=>if ds.length=n then match F ds with
  | some (r,q)=>some (r,q,ρ1)
  | none=>none
  else none
 | none=>none
theorem j7q {K:PySem.W.Frag} {ρ:Rho} {σ:St} {H H':Hp} {w w':Wn} {t q:Nat} {d:D} {v:V} {Fo:List Addr} (g:Good K ρ σ H w t)
  (go:Go H (fun a=>(w a).map fun _=>Ow.f) H' w') (wl':WL K w' H') (r:Rep K H' w' (.t 0) q d v Fo) :
  Good K ρ σ H' (fun a=>if a∈Fo then some (.t t)else w a) (t+1)/\Go H w H' (fun a=>if a∈Fo then some (.t t)else w a)/\Rep K H' (fun a=>if a∈Fo then some (.t t)else w a) (.t t) q d v Fo:=by
 have kf:∀ a o,w a=some o->H' a=H a/\w' a=some .f:=fun a o e=>go.keep a .f (by show(w a).map _=_; rw[e]; rfl) (fun _ z=>nomatch z)
 have nf:∀ a x,H a=some x->a ∉ Fo:=fun a x e m=>by
  have h1:=r.owns a m
  cases ew:w a with
  | none=>
   have:=(go.stab a x e (by show(w a).map _=_; rw[ew]; rfl)).2
   rw[h1]at this; cases this
  | some o=>rw[(kf a o ew).2]at h1; cases h1
 have nw:∀ a o,w a=some o->a ∉ Fo:=fun a o e=>by obtain⟨vs,q⟩:=g.wl a o e; exact nf a _ q
 have st:x79 H w H' (fun a=>if a∈Fo then some (.t t)else w a):=fun a x e n=>⟨(go.stab a x e (by show(w a).map _=_; rw[n]; rfl)).1,by show(if a∈Fo then _ else _)=_; rw[if_neg (nf a x e)]; exact n⟩
 have wv:∀ a o,(if a∈Fo then some (Ow.t t)else w a)=some o->(a∈Fo/\o=.t t)\/w a=some o:=fun a o e=>by
  split at e
  ·cases e; exact .inl ⟨by assumption,rfl⟩
  ·exact .inr e
 refine⟨⟨⟨fun a o e=>?_,wl'.tb⟩,fun a i e=>?_,fun a i e=>?_,g.len,fun i d q e=>?_⟩,⟨st,fun a o e _=>⟨(kf a o e).1,by show(if a∈Fo then _ else _)=_; rw[if_neg (nw a o e)]; exact e⟩⟩,?_⟩
 ·rcases wv a o e with⟨m,_⟩ | z
  ·exact wl' a _ (r.owns a m)
  ·obtain⟨vs,h⟩:=g.wl a o z
   exact⟨vs,(kf a o z).1.trans h⟩
 ·rcases wv a _ e with⟨_,z⟩ | z
  ·cases z
  ·exact g.ws a i z
 ·rcases wv a _ e with⟨_,z⟩ | z
  ·cases z; exact Nat.lt_succ_self _
  ·exact Nat.lt_succ_of_lt (g.wt a i z)
 ·obtain⟨v,F,h1,h2⟩:=g.slot i d q e
  refine⟨v,F,h1,Rep.go g.wl st h2 fun a m=>⟨(kf a _ (h2.owns a m)).1,?_⟩⟩
  show(if a∈Fo then _ else _)=_
  rw[if_neg (nw a _ (h2.owns a m))]
  exact h2.owns a m
 ·refine Rep.go wl' (fun a x e n=>⟨sm e,?_⟩) r fun a m=>⟨rfl,if_pos m⟩
  show(if a∈Fo then _ else _)=_
  rw[if_neg (fun m=>by have:=r.owns a m; rw[n]at this; cases this)]
  cases ew:w a with
  | none=>rfl
  | some o=>have:=(kf a o ew).2; rw[n]at this; cases this
theorem z2s {CX:CXT} {k n:Nat} {fn:Addr} {fd:FuncData} {ps:List Str} {x:Str} {p:Pos} {es:List Expr} {F:List D->Option (D × Nat)} {g:x1o} {E:XK} (Fk:FnOk X.prog X.w X.K X.mg X.base CX k fn fd ps (spD X.K n F)) (hr:Room k X.A) (hm:X.mg x=some (.ref fn)) (hk:PySem.W.keepIn X.K (.ref fn)=true) (hb:y37 X.K fd ps [])
  (hx:y73 CX X E) (ha:PDA X (e::es) g) (hg:Gl X x:=by rfl) (hdb:(x == ("__debug__":Str))=false:=by decide) (he:starEach (e::es) X.env=(false,eval e X.env)::starEach es X.env:=by rfl) (hpl:(backTo pos (starEach es X.env)).any (·.1)=false:=by rfl) :
  PD X (.Call (.Name x p) (e::es) [] pos) (x0f F n g):=PE.imp (y5z Fk hr hg hm hk hb .nil hx ha hdb he hpl) fun σ H Q hh0=>by
 obtain⟨ρ,w,t,r',q,ρ',gd,ee,k⟩:=hh0
 unfold x0f at ee
 split at ee
 ·rename_i ds ρ1 h1
  split at ee
  ·rename_i hn
   split at ee
   ·rename_i r0 q0 h2
    cases ee
    refine⟨ρ,w,t,ds,_,gd,h1,fun vs H1 w1 g1 go1 r1=>?_⟩
    show spD X.K n F (vs++[]) H1 Q E
    rw[List.append_nil]
    refine⟨by rw[<- r1.length]; exact hn,ds,fun a=>(w1 a).map fun _=>Ow.f,r',q,fun a o e=>?_,⟨fun a o e=>?_,g1.wl.tb⟩,?_,h2,fun v H2 w2 Fo go2 wl2 rr=>?_⟩
    ·dsimp only at e
     cases ew:w1 a with
     | none=>rw[ew]at e; cases e
     | some o'=>rw[ew]at e; cases e; rfl
    ·try dsimp only at e
     cases ew:w1 a with
     | none=>rw[ew]at e; cases e
     | some o'=>exact g1.wl a o' ew
    ·exact Reps.freeze (fun a n=>by show(w1 a).map _=_; rw[n]; rfl) r1 (fun _ z=>nomatch z)
    ·obtain⟨b1,b2,b3⟩:=j7q g1 go2 wl2 rr
     exact k _ _ _ _ b1 (go1.trans b2) b3
   ·cases ee
  ·cases ee
 ·cases ee
end
noncomputable abbrev x1l:=Rho->Option (Bool × Rho)
noncomputable def tDT (K:PySem.W.Frag) (f:x1l):TT:=fun σ H Q=>∃ ρ w t b ρ',Good K ρ σ H w t/\f ρ=some (b,ρ')/\∀ H' w',Good K ρ' σ H' w' t->Go H w H' w'->Q b H'
theorem PT.imp {X:Cx} {e:Expr} {t t':TT} (h:PT X e t) (i:∀ σ H Q,t' σ H Q->t σ H Q):PT X e t':=fun pins s σ H Q I q=>h pins s σ H Q I (i σ H Q q)
theorem PW.imp {X:Cx} {e:Expr} {t t':TT} (h:PW X e t) (i:∀ σ H Q,t' σ H Q->t σ H Q):PW X e t':=fun whole pins s σ H Q I q=>h whole pins s σ H Q I (i σ H Q q)
noncomputable abbrev PDT (X:Cx) (e:Expr) (f:x1l):Prop:=PT X e (tDT X.K f)
noncomputable abbrev PDW (X:Cx) (e:Expr) (f:x1l):Prop:=PW X e (tDT X.K f)
@[simp] noncomputable def j7l:D->Option Bool
 | .non=>some false
 | .bl b=>some b
 | .int i=>some (i != 0)
 | .tup ds=>some (!ds.isEmpty)
 | .lst ds=>some (!ds.isEmpty)
 | .str _=>none
 | .dic _ _=>none
 | .exc _=>none
 | .ob _ _ _ _=>none
@[simp] noncomputable def x6t (f:Den):x1l:=fun ρ=>match f ρ with
 | some (d,_,ρ1)=>match j7l d with
  | some b=>some (b,ρ1)
  | none=>none
 | none=>none
section
variable {X:Cx} {a b c e:Expr} {fa fb fc f:Den} {ga gb gc:x1l} {pos:Pos}
theorem y06 {α β:Type} {l:List α} {l':List β} (h:l.length=l'.length):(!l.isEmpty) = !l'.isEmpty:=by
 cases l <;> cases l' <;> first | rfl | cases h
theorem z7h (ha:PD X a fa) (he:∀ whole,isTrue a X.env whole=(do let v <- whole; standAt a.pos; holding [v] (truthy v)):=by exact fun _=>rfl):PDT X a (x6t fa):=PT.imp (z56 ha he) fun σ H Q hh0=>by
 obtain⟨ρ,w,t,b,ρ',gd,ee,k⟩:=hh0
 unfold x6t at ee
 split at ee
 ·rename_i d q ρ1 h1
  split at ee
  ·rename_i b' hb
   cases ee
   refine⟨ρ,w,t,d,q,_,gd,h1,fun v H1 w1 F g1 go1 r1=>⟨b,?_,k H1 (x1x t w1) g1.drop (go1.drop gd.wt)⟩⟩
   cases r1 with
   | non=>cases hb; rfl
   | bl x=>cases hb; rfl
   | int i=>cases hb; rfl
   | str x=>cases hb
   | tup h r=>cases hb; exact .inr (.inl ⟨_,SqT.of h,y06 r.length⟩)
   | dic h r=>cases hb
   | exc h x n=>cases hb
   | ob h1 h2 x r=>cases hb
   | kl h r=>cases hb; exact .inl ⟨_,h.sq,y06 r.length⟩
   | shr h _ r=>cases hb; exact .inl ⟨_,.inl h,y06 r.length⟩
   | own h _ r _=>cases hb; exact .inl ⟨_,SqL.of h,y06 r.length⟩
  ·cases ee
 ·cases ee
@[simp] noncomputable def x2n (f:Den):x1l:=fun ρ=>match f ρ with
 | some (.bl b,_,ρ1)=>some (b,ρ1)
 | _=>none
theorem y30 {K:PySem.W.Frag} {te:TE} (h:∀ σ H Q,tD K f σ H Q->te σ H Q):∀ σ H Q,tDT K (x2n f) σ H Q->z7m te σ H Q:=fun σ H Q hh0=>by
 obtain⟨ρ,w,t,b,ρ',gd,ee,k⟩:=hh0
 unfold x2n at ee
 split at ee
 ·rename_i b' q ρ1 h1
  cases ee
  refine h σ H _ ⟨ρ,w,t,.bl b,q,_,gd,h1,fun v H1 w1 F g1 go1 r1=>?_⟩
  cases r1
  exact⟨b,rfl,k H1 (x1x t w1) g1.drop (go1.drop gd.wt)⟩
 ·cases ee
theorem x7h {op:CmpOp} {g:D->D->Option D} {r:R2} (ho:OpR X (compareOp op) r) (hr:∀ σ H Q,tD X.K (e2 g fa fb) σ H Q->tOp r (tD X.K fa) (tD X.K fb) σ H Q) (ha:PD X a fa) (hb:PD X b fb) (hm:behindInMarks op b=false) :
  PDT X (.Compare a [op] [b] pos) (x2n (e2 g fa fb)):=PT.imp (z18 ho ha hb hm) (y30 hr)
theorem z0m {op:CmpOp} {g:D->D->Option D} {r:R2} (ho:OpR X (compareOp op) r) (hr:∀ σ H Q,tD X.K (e2 g fa fb) σ H Q->tOp r (tD X.K fa) (tD X.K fb) σ H Q) (ha:PD X a fa) (hb:PD X b fb) (hm:behindInMarks op b=false) :
  PD X (.Compare a [op] [b] pos) (e2 g fa fb):=PE.imp (z1g ho ha hb hm) hr
@[simp] noncomputable def dLt:D->D->Option D:=gI fun i j=>some (.bl (decide (i<j)))
@[simp] noncomputable def dLe:D->D->Option D:=gI fun i j=>some (.bl (decide (i<=j)))
@[simp] noncomputable def dGt:D->D->Option D:=gI fun i j=>some (.bl (decide (j<i)))
theorem hLt {K:PySem.W.Frag}:∀ σ H Q,tD K (e2 dLt fa fb) σ H Q->tOp (rI0 fun i j=>.bl (decide (i<j))) (tD K fa) (tD K fb) σ H Q:=y2p fun i j d h=>by cases h; rfl
theorem hGt {K:PySem.W.Frag}:∀ σ H Q,tD K (e2 dGt fa fb) σ H Q->tOp (rI0 fun i j=>.bl (decide (j<i))) (tD K fa) (tD K fb) σ H Q:=y2p fun i j d h=>by cases h; rfl
theorem j3t (ha:PD X a fa) (hb:PD X b fb):PDT X (.Compare a [.Lt] [b] pos) (x2n (e2 dLt fa fb)):=x7h z3o hLt ha hb (x9l _)
theorem j1s (ha:PD X a fa) (hb:PD X b fb):PDT X (.Compare a [.Gt] [b] pos) (x2n (e2 dGt fa fb)):=x7h j4t hGt ha hb (x9l _)
@[simp] noncomputable def x4h (g:x1l):x1l:=fun ρ=>match g ρ with
 | some (b,ρ1)=>some (!b,ρ1)
 | none=>none
theorem z78 (ha:PDT X a ga):PDT X (.UnaryOp .Not a pos) (x4h ga):=PT.imp (j3b ha) fun σ H Q hh0=>by
 obtain⟨ρ,w,t,b,ρ',gd,ee,k⟩:=hh0
 unfold x4h at ee
 split at ee
 ·rename_i b' ρ1 h1
  cases ee
  exact⟨ρ,w,t,b',_,gd,h1,fun H1 w1 g1 go1=>k H1 w1 g1 go1⟩
 ·cases ee
@[simp] noncomputable def y0b (g h:x1l):x1l:=fun ρ=>match g ρ with
 | some (b,ρ1)=>if b=true then h ρ1 else some (false,ρ1)
 | none=>none
@[simp] noncomputable def z0t (g h:x1l):x1l:=fun ρ=>match g ρ with
 | some (b,ρ1)=>if b=true then some (true,ρ1)else h ρ1
 | none=>none
variable {rest:List Expr}
theorem z46 (ha:PDT X a ga):PDW X (.BoolOp .And [a] pos) ga:=z7a ha
theorem z81 (ha:PDT X a ga):PDW X (.BoolOp .Or [a] pos) ga:=j2h ha
theorem z8h (ha:PDT X a ga) (hb:PDW X (.BoolOp .And (b::rest) pos) gb):PDW X (.BoolOp .And (a::b::rest) pos) (y0b ga gb):=PW.imp (j3y ha hb) fun σ H Q hh0=>by
 obtain⟨ρ,w,t,b,ρ',gd,ee,k⟩:=hh0
 unfold y0b at ee
 split at ee
 ·rename_i b' ρ1 h1
  refine⟨ρ,w,t,b',ρ1,gd,h1,fun H1 w1 g1 go1=>?_⟩
  split at ee
  ·rename_i hb; rw[if_pos hb]
   exact⟨ρ1,w1,t,b,ρ',g1,ee,fun H2 w2 g2 go2=>k H2 w2 g2 (go1.trans go2)⟩
  ·rename_i hb; rw[if_neg hb]
   cases ee
   exact k H1 w1 g1 go1
 ·cases ee
theorem j1d (ha:PDT X a ga) (hb:PDW X (.BoolOp .Or (b::rest) pos) gb):PDW X (.BoolOp .Or (a::b::rest) pos) (z0t ga gb):=PW.imp (j57 ha hb) fun σ H Q hh0=>by
 obtain⟨ρ,w,t,b,ρ',gd,ee,k⟩:=hh0
 unfold z0t at ee
 split at ee
 ·rename_i b' ρ1 h1
  refine⟨ρ,w,t,b',ρ1,gd,h1,fun H1 w1 g1 go1=>?_⟩
  split at ee
  ·rename_i hb; rw[if_pos hb]
   cases ee
   exact k H1 w1 g1 go1
  ·rename_i hb; rw[if_neg hb]
   exact⟨ρ1,w1,t,b,ρ',g1,ee,fun H2 w2 g2 go2=>k H2 w2 g2 (go1.trans go2)⟩
 ·cases ee
@[simp] noncomputable def eIf (g:x1l) (fa fb:Den):Den:=fun ρ=>match g ρ with
 | some (b,ρ1)=>if b=true then fa ρ1 else fb ρ1
 | none=>none
theorem z2l (hc:PDT X c gc) (ha:PD X a fa) (hb:PD X b fb):PD X (.IfExp c a b pos) (eIf gc fa fb):=PE.imp (z52 hc ha hb) fun σ H Q hh0=>by
 obtain⟨ρ,w,t,r',q,ρ',gd,ee,k⟩:=hh0
 unfold eIf at ee
 split at ee
 ·rename_i b' ρ1 h1
  refine⟨ρ,w,t,b',ρ1,gd,h1,fun H1 w1 g1 go1=>?_⟩
  split at ee
  ·rename_i hb; rw[if_pos hb]
   exact⟨ρ1,w1,t,r',q,ρ',g1,ee,fun v H2 w2 F g2 go2=>k v H2 w2 F g2 (go1.trans go2)⟩
  ·rename_i hb; rw[if_neg hb]
   exact⟨ρ1,w1,t,r',q,ρ',g1,ee,fun v H2 w2 F g2 go2=>k v H2 w2 F g2 (go1.trans go2)⟩
 ·cases ee
end
inductive Out where
 | nx (ρ:Rho) | rt (d:D) (q:Nat) | bk (ρ:Rho) | ct (ρ:Rho)
noncomputable abbrev x1d:=Rho->Option Out
noncomputable def y1d (K:PySem.W.Frag) (Dn:Ends) (n:Nat) (H:Hp) (w:Wn):Out->Prop
 | .nx ρ'=>∀ σ' H' w',σ'.length=n->Good K ρ' σ' H' w' 0->Go H w H' w'->Dn.nx σ' H'
 | .bk ρ'=>∀ σ' H' w',σ'.length=n->Good K ρ' σ' H' w' 0->Go H w H' w'->Dn.bk σ' H'
 | .ct ρ'=>∀ σ' H' w',σ'.length=n->Good K ρ' σ' H' w' 0->Go H w H' w'->Dn.ct σ' H'
 | .rt d q=>∀ v H' w' F,WL K w' H'->Go H w H' w'->Rep K H' w' (.t 0) q d v F->Dn.rt v H'
noncomputable def tDS (K:PySem.W.Frag) (f:x1d):TS:=fun Dn σ H=>∃ ρ w o,Good K ρ σ H w 0/\f ρ=some o/\y1d K Dn σ.length H w o
theorem PS.imp {X:Cx} {e:Stmt} {t t':TS} (h:PS X e t) (i:∀ D σ H,t' D σ H->t D σ H):PS X e t':=fun pins s σ H D I q=>h pins s σ H D I (i D σ H q)
theorem PSs.imp {X:Cx} {e:List Stmt} {t t':TS} (h:PSs X e t) (i:∀ D σ H,t' D σ H->t D σ H):PSs X e t':=fun pins s σ H D I q=>h pins s σ H D I (i D σ H q)
noncomputable abbrev PDS (X:Cx) (st:Stmt) (f:x1d):Prop:=PS X st (tDS X.K f)
noncomputable abbrev y8p (X:Cx) (st:List Stmt) (f:x1d):Prop:=PSs X st (tDS X.K f)
@[simp] noncomputable def x6h:x1d:=fun ρ=>some (.nx ρ)
@[simp] noncomputable def x1i (f g:x1d):x1d:=fun ρ=>match f ρ with
 | some (.nx ρ1)=>g ρ1
 | o=>o
theorem y1d.trans {K:PySem.W.Frag} {Dn:Ends} {n:Nat} {H H1:Hp} {w w1:Wn} (go:Go H w H1 w1):∀ {o:Out},y1d K Dn n H w o->y1d K Dn n H1 w1 o
 | .nx _,h=>fun σ' H' w' e g go'=>h σ' H' w' e g (go.trans go')
 | .bk _,h=>fun σ' H' w' e g go'=>h σ' H' w' e g (go.trans go')
 | .ct _,h=>fun σ' H' w' e g go'=>h σ' H' w' e g (go.trans go')
 | .rt _ _,h=>fun v H' w' F wl go'=>h v H' w' F wl (go.trans go')
section
variable {X:Cx} {a b c e:Expr} {fa fb fc f:Den} {ga gb gc:x1l} {pos:Pos} {st:Stmt} {rest sa sb:List Stmt} {s s':x1d}
theorem z8j:y8p X [] x6h:=PSs.imp z6s fun D σ H hh0=>by
 obtain⟨ρ,w,o,g,ee,k⟩:=hh0
 cases ee
 exact k σ H w rfl g Go.refl
theorem z4v (h1:PDS X st s) (h2:y8p X rest s'):y8p X (st::rest) (x1i s s'):=PSs.imp (y7i h1 h2) fun D σ H hh0=>by
 obtain⟨ρ,w,o,g,ee,k⟩:=hh0
 unfold x1i at ee
 split at ee
 ·rename_i ρ1 h1
  exact⟨ρ,w,.nx ρ1,g,h1,fun σ' H' w' e g' go'=>⟨ρ1,w',o,g',ee,by rw[e]; exact k.trans go'⟩⟩
 ·rename_i hne
  refine⟨ρ,w,o,g,ee,?_⟩
  cases o with
  | nx ρ1=>exact absurd ee (hne ρ1)
  | bk ρ1=>exact k
  | ct ρ1=>exact k
  | rt d q=>exact k
theorem z9o (h1:PDS X st s):y8p X [st] s:=z1s h1
@[simp] noncomputable def x35 (f:Den):x1d:=fun ρ=>match f ρ with
 | some (d,q,_)=>some (.rt d q)
 | none=>none
theorem z7w (h:PD X e f):PDS X (.Return (some e) pos) (x35 f):=PS.imp (j0u h) fun D σ H hh0=>by
 obtain⟨ρ,w,o,g,ee,k⟩:=hh0
 unfold x35 at ee
 split at ee
 ·rename_i d q ρ1 h1
  cases ee
  exact⟨ρ,w,0,d,q,ρ1,g,h1,fun v H' w' F g' go' r=>k v H' w' F g'.wl go' r⟩
 ·cases ee
@[simp] noncomputable def sIf (g:x1l) (s s':x1d):x1d:=fun ρ=>match g ρ with
 | some (b,ρ1)=>if b=true then s ρ1 else s' ρ1
 | none=>none
theorem j3o (hc:PDT X c gc) (ha:y8p X sa s) (hb:y8p X sb s'):PDS X (.If c sa sb pos) (sIf gc s s'):=PS.imp (j1l hc ha hb) fun D σ H hh0=>by
 obtain⟨ρ,w,o,g,ee,k⟩:=hh0
 unfold sIf at ee
 split at ee
 ·rename_i b' ρ1 h1
  refine⟨ρ,w,0,b',ρ1,g,h1,fun H1 w1 g1 go1=>?_⟩
  split at ee
  ·rename_i hb; rw[if_pos hb]
   exact⟨ρ1,w1,o,g1,ee,k.trans go1⟩
  ·rename_i hb; rw[if_neg hb]
   exact⟨ρ1,w1,o,g1,ee,k.trans go1⟩
 ·cases ee
@[simp] noncomputable def y77:x1d:=fun ρ=>some (.bk ρ)
theorem z0b:PDS X (.Break pos) y77:=PS.imp z4g fun D σ H hh0=>by
 obtain⟨ρ,w,o,g,ee,k⟩:=hh0
 cases ee
 exact k σ H w rfl g Go.refl
noncomputable def x8z (t i:Nat) (w:Wn):Wn:=fun a=>if w a=some (.t t)then some (.s i)else if w a=some (.s i)then none else w a
theorem Good.set {K:PySem.W.Frag} {ρ:Rho} {σ:St} {H:Hp} {w:Wn} {i q:Nat} {d:D} {v:V} {F:List Addr} (g:Good K ρ σ H w 1) (hi:i<σ.length) (r:Rep K H w (.t 0) q d v F) :
  Good K (ρ.set i (some (d,q))) (σ.set i (some v)) H (x8z 0 i w) 0/\∀ H₀ w₀,Go H₀ w₀ H w->(∀ a j,w₀ a=some (.t j)->j<0)->Go H₀ w₀ H (x8z 0 i w):=by
 have mN:∀ a,w a=none->x8z 0 i w a=none:=fun a e=>by unfold x8z; rw[e]; rfl
 have mT:∀ a,w a=some (.t 0)->x8z 0 i w a=some (.s i):=fun a e=>by unfold x8z; rw[if_pos e]
 have mS:∀ a j,w a=some (.s j)->j≠i->x8z 0 i w a=some (.s j):=fun a j e n=>by
  unfold x8z
  rw[if_neg (by rw[e]; exact fun z=>nomatch z),if_neg (by rw[e]; intro z; cases z; exact n rfl)]
  exact e
 have mF:∀ a,w a=some .f->x8z 0 i w a=some .f:=fun a e=>by
  unfold x8z
  rw[if_neg (by rw[e]; exact fun z=>nomatch z),if_neg (by rw[e]; exact fun z=>nomatch z)]
  exact e
 have mI:∀ a o,x8z 0 i w a=some o->(w a=some (.t 0)/\o=.s i)\/(w a=some o/\o ≠ .s i/\o ≠ .t 0):=fun a o e=>by
  unfold x8z at e
  split at e
  ·cases e; exact .inl ⟨by assumption,rfl⟩
  ·rename_i n1
   split at e
   ·cases e
   ·rename_i n2; exact .inr ⟨e,fun z=>n2 (by rw[e,z]),fun z=>n1 (by rw[e,z])⟩
 have st:x79 H w H (x8z 0 i w):=fun a x h n=>⟨sm h,mN a n⟩
 refine⟨⟨⟨fun a o e=>?_,g.wl.tb⟩,fun a j e=>?_,fun a j e=>?_,by rw[List.length_set,List.length_set]; exact g.len,fun j d' q' e'=>?_⟩,fun H₀ w₀ go hw=>⟨fun a x h n=>⟨(go.stab a x h n).1,mN a (go.stab a x h n).2⟩,fun a o e n=>?_⟩⟩
 ·rcases mI a o e with⟨z,_⟩ | ⟨z,_⟩
  ·exact g.wl a _ z
  ·exact g.wl a _ z
 ·rw[List.length_set]
  rcases mI a _ e with⟨_,z⟩ | ⟨z,_⟩
  ·cases z; exact hi
  ·exact g.ws a j z
 ·rcases mI a _ e with⟨_,z⟩ | ⟨z,_,n⟩
  ·cases z
  ·have:=g.wt a j z
   have:j=0:=by omega
   subst this
   exact absurd rfl n
 ·by_cases hj:i=j
  ·subst hj
   rw[List.getElem?_set_self (by rw[g.len]; exact hi)]at e'
   cases e'
   exact⟨v,F,List.getElem?_set_self hi,Rep.go g.wl st r fun a m=>⟨rfl,mT a (r.owns a m)⟩⟩
  ·rw[List.getElem?_set_ne hj]at e'
   obtain⟨v',F',h1,h2⟩:=g.slot j d' q' e'
   exact⟨v',F',by rw[List.getElem?_set_ne hj]; exact h1,Rep.go g.wl st h2 fun a m=>⟨rfl,mS a j (h2.owns a m) (fun z=>hj z.symm)⟩⟩
 ·obtain⟨h1,h2⟩:=go.keep a o e n
  refine⟨h1,?_⟩
  cases o with
  | s j=>exact absurd rfl (n j)
  | f=>exact mF a h2
  | t j=>exact absurd (hw a j e) (Nat.not_lt_zero _)
@[simp] noncomputable def x2r (i:Nat) (f:Den):x1d:=fun ρ=>match f ρ with
 | some (d,q,ρ1)=>some (.nx (ρ1.set i (some (d,q))))
 | none=>none
theorem y9d {K:PySem.W.Frag} {i:Nat} {D:Ends} {σ:St} {H:Hp} {te:TE} (hi:i<σ.length) (he:∀ Q,tD K f σ H Q->te σ H Q) (h:tDS K (x2r i f) D σ H):te σ H fun x H1=>D.nx (σ.set i (some x)) H1:=by
 obtain⟨ρ,w,o,g,ee,k⟩:=h
 unfold x2r at ee
 split at ee
 ·rename_i d q ρ1 h1
  cases ee
  refine he _ ⟨ρ,w,0,d,q,ρ1,g,h1,fun v H' w' F g' go' r=>?_⟩
  obtain⟨a1,a2⟩:=g'.set hi r
  exact k _ _ _ (by rw[List.length_set]) a1 (a2 _ _ go' g.wt)
 ·cases ee
theorem z96 {i:Nat} {x:Str} {pos':Pos} (hN:X.N.Nodup) (hi:X.N[i]? = some x) (hx:Loc X.env.scope x) (he:PD X e f) (hs:swapsWith e (some (.Name x pos')) pos.line X.env=pure false:=by rfl) (hf:X.fn x=true\/X.env.scope.names.lookup x=some .local:=by first | exact .inl rfl | exact .inr rfl) :
  PDS X (.Assign [.Name x pos'] e pos) (x2r i f):=by
 intro pins s σ H D I h
 have hl:i<σ.length:=by rw[I.len]; exact(List.getElem?_eq_some_iff.mp hi).1
 exact z68 (te:=tD X.K f) hN hi hx he hs hf pins s σ H D I (y9d hl (fun _ z=>z) h)
@[simp] noncomputable def x2b (f:Den):x1d:=fun ρ=>match f ρ with
 | some (_,_,ρ1)=>some (.nx ρ1)
 | none=>none
theorem z27 (he:PD X e f) (hs:swapsWith e none pos.line X.env=pure false:=by rfl):PDS X (.Expr e pos) (x2b f):=PS.imp (y9w he hs) fun D σ H hh0=>by
 obtain⟨ρ,w,o,g,ee,k⟩:=hh0
 unfold x2b at ee
 split at ee
 ·rename_i d q ρ1 h1
  cases ee
  exact⟨ρ,w,0,d,q,ρ1,g,h1,fun v H' w' F g' go' r=>k σ H' (x1x 0 w') rfl g'.drop (go'.drop g.wt)⟩
 ·cases ee
end
structure Mo (K:PySem.W.Frag) (H H':Hp):Prop where
 mo:∀ a o,H a=some o->H' a=some o
 tb:TB K H->TB K H'
theorem Mo.rfl' {K:PySem.W.Frag} {H:Hp}:Mo K H H:=⟨fun _ _ e=>e,fun t=>t⟩
structure ItOk (K:PySem.W.Frag) (J:It) (ds:List D) (P:Hp->Wn->Prop):Prop where
 go:∀ i H w,P H w->i<ds.length->J.go i H
 yld:∀ i H w x H' d,P H w->WL K w H->ds[i]? = some d->J.yld i H x H'->Mo K H H'/\Rep K H' w .f 0 d x []/\P H' w
 stop:∀ H w,P H w->J.stop ds.length H
 st:∀ H w H' w',P H w->WL K w H->x79 H w H' w'->P H' w'
noncomputable abbrev y1v:=Rho->Option (List D × Rho)
noncomputable def tDI (K:PySem.W.Frag) (f:y1v):TI:=fun σ H R=>∃ ρ w t ds ρ',Good K ρ σ H w t/\f ρ=some (ds,ρ') /\
 ∀ J P H' w',Good K ρ' σ H' w' t->Go H w H' w'->ItOk K J ds P->P H' w'->ds.length<sizeLine->R J H'
theorem PI.imp {X:Cx} {tg e:Expr} {t t':TI} (h:PI X tg e t) (i:∀ σ H R,t' σ H R->t σ H R):PI X tg e t':=fun pins s σ H R I q=>h pins s σ H R I (i σ H R q)
noncomputable abbrev PDI (X:Cx) (tg e:Expr) (f:y1v):Prop:=PI X tg e (tDI X.K f)
theorem It.list {K:PySem.W.Frag} {a:Addr} {vs:List V} {ds:List D} (hl:ds.length=vs.length):ItOk K (Itl K a) ds fun H w=>(KL K a vs\/(Rd H a (.lst vs)/\w a=none))/\Reps K H w .f 0 ds vs []:=by
 have sq:∀ {H:Hp} {w:Wn},KL K a vs\/(Rd H a (.lst vs)/\w a=none)->SqL K H a vs:=fun h=>h.elim (fun z=>z.sq) fun z=>.inl z.1
 refine⟨fun i H w p hi=>⟨vs,vs[i],sq p.1,by simp[hl ▸ hi]⟩,fun i H w x H' d p wl hd y=>?_,fun H w p=>⟨vs,sq p.1,by omega⟩,fun H w H' w' p wl st=>?_⟩
 ·obtain⟨rfl,hx⟩:=y
  obtain⟨v,hv,rv⟩:=p.2.get hd
  have:=hx vs (sq p.1)
  rw[hv]at this
  cases this
  exact⟨Mo.rfl',rv,p⟩
 ·refine⟨?_,Reps.go wl st p.2 (fun _ z=>nomatch z)⟩
  rcases p.1 with p | ⟨p,n⟩
  ·exact .inl p
  ·exact .inr (RdL.go st n p)
theorem It.tup {K:PySem.W.Frag} {a:Addr} {vs:List V} {ds:List D} (hl:ds.length=vs.length):ItOk K (Itt K a) ds fun H w=>SqT K H a vs/\Reps K H w .f 0 ds vs []:=
 ⟨fun i H w p hi=>⟨vs,vs[i],p.1,by simp[hl ▸ hi]⟩,fun i H w x H' d p wl hd y=>by
   obtain⟨rfl,hx⟩:=y
   obtain⟨v,hv,rv⟩:=p.2.get hd
   have:=hx vs p.1
   rw[hv]at this
   cases this
   exact⟨Mo.rfl',rv,p⟩,fun H w p=>⟨vs,p.1,by omega⟩,fun H w H' w' p wl st=>⟨SqT.go wl st p.1,Reps.go wl st p.2 (fun _ z=>nomatch z)⟩⟩
noncomputable def y0w (n:Nat):List V:=(List.range n).map fun i=>.int (Int.ofNat i)
noncomputable def x1a (n:Nat):List D:=(List.range n).map fun i=>.int (Int.ofNat i)
theorem x14 (n:Nat):(x1a n).length=n:=by simp[x1a]
theorem y7y (n:Nat):(y0w n).length=n:=by simp[y0w]
theorem It.range {K:PySem.W.Frag} {n:Nat}:ItOk K (Itr 0 n) (x1a n) fun _ _=>True:=by
 refine⟨fun i H w _ hi=>by rw[x14]at hi; exact hi,fun i H w x H' d _ _ hd y=>?_,fun H w _=>by rw[x14]; exact Nat.le_refl _,fun _ _ _ _ _ _ _=>trivial⟩
 have hi:i<n:=by have:=(List.getElem?_eq_some_iff.mp hd).1; rw[x14]at this; exact this
 have e:x=.int (0+(i:Int)):=y.2
 have ed:d=.int (Int.ofNat i):=by
  have:(x1a n)[i]? = some (.int (Int.ofNat i)):=by simp[x1a,hi]
  rw[hd]at this
  exact Option.some.inj this
 obtain⟨rfl,_⟩:=y
 subst ed
 rw[e,Int.zero_add]
 exact⟨Mo.rfl',.int _,trivial⟩
theorem x87 {K:PySem.W.Frag} {H:Hp} {w:Wn} {o:Ow}:∀ (ns:List Int),Reps K H w o 0 (ns.map D.int) (ns.map V.int) []
 | []=>.nil
 | n::r=>.cons (F:=[]) (G:=[]) (.int n) (x87 r) (fun _ z=>nomatch z)
theorem y7v {K:PySem.W.Frag} {H:Hp} {w:Wn} {o:Ow} (n:Nat):Reps K H w o 0 (x1a n) (y0w n) []:=by
 have:=x87 (K:=K) (H:=H) (w:=w) (o:=o) ((List.range n).map Int.ofNat)
 rw[List.map_map,List.map_map]at this
 exact this
section
variable {X:Cx} {tg a b c e:Expr} {fa fb fc f:Den} {ga gb gc:x1l} {pos p:Pos}
@[simp] noncomputable def x1f (g:x1o):y1v:=fun ρ=>match g ρ with
 | some ([.int n],ρ1)=>if -1000<=n/\n<=1000 then some (x1a n.toNat,ρ1)else none
 | _=>none
theorem y7z {g:x1o} (hm:X.mg "range" = none) (ha:PDA X [a] g) (hg:Gl X "range":=by rfl) (hs:starEach [a] X.env=[(false,eval a X.env)]:=by rfl):PDI X tg (.Call (.Name "range" p) [a] [] pos) (x1f g):=PI.imp (z1z hg hm ha hs) fun σ H R hh0=>by
 obtain⟨ρ,w,t,ds,ρ',gd,ee,k⟩:=hh0
 unfold x1f at ee
 split at ee
 ·rename_i n ρ1 h1
  split at ee
  ·rename_i hn
   cases ee
   refine⟨ρ,w,t,[.int n],_,gd,h1,fun vs H1 w1 g1 go1 r1=>?_⟩
   have hv:vs=[.int n]:=by
    have l:=r1.length
    match vs,l with
    | [v],_=>
     obtain⟨v',h1,h2⟩:=r1.get (i:=0) rfl
     cases h1
     rw[x39 h2]
   subst hv
   refine⟨n,rfl,by omega,by omega,k _ _ H1 w1 g1 go1 It.range trivial ?_⟩
   rw[x14]
   exact x3q (by omega)
  ·cases ee
 ·cases ee
noncomputable def j7p (K:PySem.W.Frag) (tl:TE):TI:=fun σ H R=>tl σ H fun x H1=>∃ a,x=.ref a/\(((∃ xs,SqL K H1 a xs)/\R (Itl K a) H1)\/((∃ xs,SqT K H1 a xs)/\R (Itt K a) H1))
theorem j01 {l:Expr} {tl:TE} (hl:PE X l tl):PI X tg l (j7p X.K tl):=by
 intro pins s σ H R I h
 refine thn (hl pins s σ H _ I h) fun v s1 ⟨x,H1,I1,r1,q1⟩=>?_
 obtain⟨a,e,q⟩:=q1
 subst e
 cases r1
 rcases q with⟨⟨xs,hq⟩,q⟩ | ⟨⟨xs,hq⟩,q⟩
 ·obtain⟨its,rv,p,hz⟩:=I1.list hq
  refine wpAny_pyIter_list p.isList ?_
  refine⟨s1.heap.objs.size,[s1.heap.objs.size],_,_,H1,rfl,I1.kept (t':=s1.toks) fun b o e=>Heap.get?_push_of_some _ e,z00 a _,⟨_,Heap.get?_push_size _ rfl,rfl,rfl⟩,fun b hb=>?_,q⟩
  have e:b=s1.heap.objs.size:=by simpa using hb
  subst e
  exact I1.fpOk (Nat.le_refl _) (I1.hok.fresh (Nat.le_refl _))
 ·obtain⟨its,rv,p,hz⟩:=I1.tuple hq
  refine wpAny_pyIter_tuple (show s1.heap.IsTuple a its.toArray from p) ?_
  refine⟨s1.heap.objs.size,[s1.heap.objs.size],_,_,H1,rfl,I1.kept (t':=s1.toks) fun b o e=>Heap.get?_push_of_some _ e,y7p a _,⟨_,Heap.get?_push_size _ rfl,rfl,rfl⟩,fun b hb=>?_,q⟩
  have e:b=s1.heap.objs.size:=by simpa using hb
  subst e
  exact I1.fpOk (Nat.le_refl _) (I1.hok.fresh (Nat.le_refl _))
@[simp] noncomputable def x4v (f:Den):y1v:=fun ρ=>match f ρ with
 | some (.lst ds,_,ρ1)=>if ds.length<=1000 then some (ds,ρ1)else none
 | some (.tup ds,_,ρ1)=>if ds.length<=1000 then some (ds,ρ1)else none
 | _=>none
theorem z6y (ha:PD X a fa):PDI X tg a (x4v fa):=PI.imp (j01 ha) fun σ H R hh0=>by
 obtain⟨ρ,w,t,ds,ρ',gd,ee,k⟩:=hh0
 unfold x4v at ee
 split at ee
 ·rename_i ds' q ρ1 h1
  split at ee
  ·rename_i hl
   cases ee
   refine⟨ρ,w,t,.lst ds,q,ρ',gd,h1,fun v H1 w1 F g1 go1 r1=>?_⟩
   have r0:=r1.drop (o:=.f) (Nat.le_refl t)
   cases r0 with
   | kl h r=>exact⟨_,rfl,.inl ⟨⟨_,h.sq⟩,k _ _ H1 (x1x t w1) g1.drop (go1.drop gd.wt) (It.list r.length) ⟨.inl h,r⟩ (x3q hl)⟩⟩
   | shr h n r=>exact⟨_,rfl,.inl ⟨⟨_,.inl h⟩,k _ _ H1 (x1x t w1) g1.drop (go1.drop gd.wt) (It.list r.length) ⟨.inr ⟨h,n⟩,r⟩ (x3q hl)⟩⟩
  ·cases ee
 ·rename_i ds' q ρ1 h1
  split at ee
  ·rename_i hl
   cases ee
   refine⟨ρ,w,t,.tup ds,q,ρ',gd,h1,fun v H1 w1 F g1 go1 r1=>?_⟩
   have r0:=r1.drop (o:=.f) (Nat.le_refl t)
   cases r0 with
   | tup h r=>exact⟨_,rfl,.inr ⟨⟨_,SqT.of h⟩,k _ _ H1 (x1x t w1) g1.drop (go1.drop gd.wt) (It.tup r.length) ⟨SqT.of h,r⟩ (x3q hl)⟩⟩
  ·cases ee
 ·cases ee
end
noncomputable abbrev x5s:=D->Rho->Option Rho
noncomputable def tDG (K:PySem.W.Frag) (b:Nat) (pt:x5s):TG:=fun v σ H Q=>∃ d ρ w t ρ',Good K ρ σ H w t/\Rep K H w .f 0 d v []/\pt d ρ=some ρ'/\∀ σ' H' w',σ'.length=σ.length->(∀ i,i<b->σ'[i]? = σ[i]?)->Good K ρ' σ' H' w' t->Go H w H' w'->Q σ' H'
theorem PG.imp {X:Cx} {tg:Expr} {t t':TG} (h:PG X tg t) (i:∀ v σ H Q,t' v σ H Q->t v σ H Q):PG X tg t':=fun pins s σ H v u Q I r q=>h pins s σ H v u Q I r (i v σ H Q q)
noncomputable abbrev PDG (X:Cx) (b:Nat) (tg:Expr) (pt:x5s):Prop:=PG X tg (tDG X.K b pt)
@[simp] noncomputable def x0m (i:Nat):x5s:=fun d ρ=>if i<ρ.length then some (ρ.set i (some (d,x41 d)))else none
theorem Good.setV {K:PySem.W.Frag} {ρ:Rho} {σ:St} {H:Hp} {w:Wn} {t i:Nat} {d:D} {v:V} (g:Good K ρ σ H w t) (hi:i<σ.length) (r:Rep K H w .f 0 d v []) :
  Good K (ρ.set i (some (d,x41 d))) (σ.set i (some v)) H (x5g i w) t/\Go H w H (x5g i w):=by
 have st:x79 H w H (x5g i w):=fun a x h n=>⟨sm h,x54 n⟩
 refine⟨⟨⟨fun a o h=>g.wl a o (x2y h).1,g.wl.tb⟩,fun a j h=>by rw[List.length_set]; exact g.ws a j (x2y h).1,fun a j h=>g.wt a j (x2y h).1,by rw[List.length_set,List.length_set]; exact g.len,fun j d' q' e'=>?_⟩,⟨st,fun a o h n=>⟨rfl,x6s h (n i)⟩⟩⟩
 by_cases hj:i=j
 ·subst hj
  rw[List.getElem?_set_self (by rw[g.len]; exact hi)]at e'
  cases e'
  exact⟨v,[],List.getElem?_set_self hi,(Rep.go g.wl st r (fun _ z=>nomatch z):Rep K H (x5g i w) (.s i) 0 d v []).dep⟩
 ·rw[List.getElem?_set_ne hj]at e'
  obtain⟨v',F,h1,h2⟩:=g.slot j d' q' e'
  exact⟨v',F,by rw[List.getElem?_set_ne hj]; exact h1,Rep.go g.wl st h2 fun a m=>⟨rfl,x6s (h2.owns a m) (fun z=>hj (by cases z; rfl))⟩⟩
theorem z3x {X:Cx} {b i:Nat} {x:Str} {pos:Pos} (hb:b<=i) (hN:X.N.Nodup) (hi:X.N[i]? = some x) (hx:Loc X.env.scope x) (hf:X.fn x=true\/X.env.scope.names.lookup x=some .local:=by first | exact .inl rfl | exact .inr rfl):PDG X b (.Name x pos) (x0m i):=PG.imp (z98 hN hi hx hf) fun v σ H Q hh0=>by
 obtain⟨d,ρ,w,t,ρ',g,r,e,k⟩:=hh0
 unfold x0m at e
 split at e
 ·rename_i hl
  cases e
  obtain⟨a1,a2⟩:=g.setV (by rw[<- g.len]; exact hl) r
  exact k _ _ _ (by rw[List.length_set]) (fun j hj=>List.getElem?_set_ne (by omega)) a1 a2
 ·cases e
noncomputable def x8o (pt:x5s) (body:x1d):List D->Rho->Option Out
 | [],ρ=>some (.nx ρ)
 | d::ds,ρ=>match pt d ρ with
  | none=>none
  | some ρ1=>match body ρ1 with
   | some (.nx ρ2)=>x8o pt body ds ρ2
   | some (.ct ρ2)=>x8o pt body ds ρ2
   | some (.bk ρ2)=>some (.nx ρ2)
   | o=>o
@[simp] noncomputable def x7m (it:y1v) (pt:x5s) (body:x1d):x1d:=fun ρ=>match it ρ with
 | some (ds,ρ1)=>x8o pt body ds ρ1
 | none=>none
theorem Reps.go0 {K:PySem.W.Frag} {H H':Hp} {w w':Wn} {ds:List D} {vs:List V} (r:Reps K H w .f 0 ds vs []) (wl:WL K w H) (st:x79 H w H' w'):Reps K H' w' .f 0 ds vs []:=Reps.go wl st r (fun _ z=>nomatch z)
theorem Rep.go0 {K:PySem.W.Frag} {H H':Hp} {w w':Wn} {ds:D} {vs:V} (r:Rep K H w .f 0 ds vs []) (wl:WL K w H) (st:x79 H w H' w'):Rep K H' w' .f 0 ds vs []:=Rep.go wl st r (fun _ z=>nomatch z)
theorem Reps.drop0 {K:PySem.W.Frag} {H:Hp} {w:Wn}:∀ {ds:List D} {vs:List V} (i:Nat),Reps K H w .f 0 ds vs []->Reps K H w .f 0 (ds.drop i) (vs.drop i) []
 | _,_,0,r=>r
 | ds,vs,i+1,r=>by
  generalize hF:([]:List Addr)=F at r
  cases r with
  | nil=>exact .nil
  | cons r s _=>
   have h2:=s.zero
   have h1:=r.zero
   subst h2
   subst h1
   exact Reps.drop0 i s
theorem Good.more {K:PySem.W.Frag} {ρ:Rho} {σ:St} {H H':Hp} {w:Wn} {t:Nat} (g:Good K ρ σ H w t) (hm:Mo K H H'):Good K ρ σ H' w t/\Go H w H' w:=by
 have h:=hm.mo
 have st:x79 H w H' w:=fun a x e n=>⟨sm (h a x e),n⟩
 have kp:∀ a o,w a=some o->H' a=H a:=fun a o e=>by
  obtain⟨vs,q⟩:=g.wl a o e
  rw[q,h a _ q]
 refine⟨⟨⟨fun a o e=>?_,hm.tb g.wl.tb⟩,g.ws,g.wt,g.len,fun i d q e=>?_⟩,st,fun a o e _=>⟨kp a o e,e⟩⟩
 ·obtain⟨vs,q⟩:=g.wl a o e
  exact⟨vs,h a _ q⟩
 ·obtain⟨v,F,h1,h2⟩:=g.slot i d q e
  exact⟨v,F,h1,Rep.go g.wl st h2 fun a m=>⟨kp a _ (h2.owns a m),h2.owns a m⟩⟩
theorem z92 {X:Cx} {tg iter:Expr} {body:List Stmt} {it:y1v} {pt:x5s} {s:x1d} {pos:Pos} (hp:PassesOwn (model X.prog X.w) X.A X.env X.xe) (hc:X.calm=true) (hi:PDI X tg iter it) (hg:PDG X 0 tg pt) (hb:y8p X body s)
  (hs:∀ x,foldedSetIterable iter X.env x=pure x:=by intro _; rfl):PDS X (.For tg iter body [] pos) (x7m it pt s):=PS.imp (j46 hp hc hi hg hb hs) fun D σ H hh0=>by
 obtain⟨ρ,w,o,g,ee,k⟩:=hh0
 unfold x7m at ee
 split at ee
 ·rename_i ds ρ1 h1
  refine⟨ρ,w,0,ds,ρ1,g,h1,fun J P H1 w1 g1 go1 ok p1 hl=>?_⟩
  refine⟨fun i m σ' H'=>m=ds.length-i/\i<=ds.length/\σ'.length=σ.length/\∃ ρ' w',Good X.K ρ' σ' H' w' 0/\P H' w'/\x8o pt s (ds.drop i) ρ'=some o/\y1d X.K D σ.length H' w' o,
   ⟨ds.length,by simp,Nat.zero_le _,rfl,ρ1,w1,g1,p1,ee,k.trans go1⟩,?_⟩
  rintro i m σ' H' ⟨rfl,hile,hσ,ρ',w',g',p',e',k'⟩
  by_cases hlt:i<ds.length
  ·refine .inr ⟨ok.go i H' w' p' hlt,fun σ2 H2=>ds.length-(i+1)=ds.length-(i+1)/\i+1<=ds.length/\σ2.length=σ.length/\∃ ρ2 w2,Good X.K ρ2 σ2 H2 w2 0/\P H2 w2/\x8o pt s (ds.drop (i+1)) ρ2=some o/\y1d X.K D σ.length H2 w2 o,
    fun σ2 H2 n2=>⟨ds.length-(i+1),by omega,n2⟩,fun x H2 hy=>?_⟩
   obtain⟨mo,rx,p2⟩:=ok.yld i H' w' x H2 ds[i] p' g'.wl (List.getElem?_eq_getElem hlt) hy
   obtain⟨g2,go2⟩:=g'.more mo
   have ed:ds.drop i=ds[i]::ds.drop (i+1):=List.drop_eq_getElem_cons hlt
   rw[ed]at e'
   unfold x8o at e'
   split at e'
   ·cases e'
   ·rename_i ρ3 h3
    refine⟨ds[i],ρ',w',0,ρ3,g2,rx,h3,fun σ4 H4 w4 l4 _ g4 go4=>?_⟩
    have p4:=ok.st _ _ _ _ p2 g2.wl go4.stab
    have nx:∀ {ρ5:Rho},x8o pt s (ds.drop (i+1)) ρ5=some o->∀ σ5 H5 w5,σ5.length=σ4.length->Good X.K ρ5 σ5 H5 w5 0->Go H4 w4 H5 w5->ds.length-(i+1)=ds.length-(i+1)/\i+1<=ds.length/\σ5.length=σ.length/\∃ ρ2 w2,Good X.K ρ2 σ5 H5 w2 0/\P H5 w2/\x8o pt s (ds.drop (i+1)) ρ2=some o/\y1d X.K D σ.length H5 w2 o:=fun {ρ5} e5 σ5 H5 w5 l5 g5 go5=>
     ⟨rfl,hlt,by rw[l5,l4,hσ],ρ5,w5,g5,ok.st _ _ _ _ p4 g4.wl go5.stab,e5,k'.trans ((go2.trans go4).trans go5)⟩
    cases h6:s ρ3 with
    | none=>rw[h6]at e'; cases e'
    | some o6=>
     rw[h6]at e'
     refine⟨ρ3,w4,o6,g4,h6,?_⟩
     cases o6 with
     | nx ρ5=>exact nx e'
     | ct ρ5=>exact nx e'
     | bk ρ5=>
      cases e'
      exact fun σ5 H5 w5 l5 g5 go5=>k' σ5 H5 w5 (by rw[l5,l4,hσ]) g5 ((go2.trans go4).trans go5)
     | rt d q=>
      cases e'
      exact fun v H5 w5 F wl5 go5 r5=>k' v H5 w5 F wl5 ((go2.trans go4).trans go5) r5
  ·have hi':i=ds.length:=Nat.le_antisymm hile (Nat.not_lt.mp hlt)
   subst hi'
   refine .inl ⟨ok.stop H' w' p',?_⟩
   have ed:ds.drop ds.length=[]:=by simp
   rw[ed]at e'
   cases e'
   exact k' σ' H' w' hσ g' Go.refl
 ·cases ee
@[simp] noncomputable def x3z (n:Nat) (ds:List D):Rho:=ds.map (fun d=>some (d,x41 d))++List.replicate (n-ds.length) none
@[simp] noncomputable def fnD (n:Nat) (body:x1d):List D->Option (D × Nat):=fun ds=>match body (x3z n ds)with
 | some (.rt d q)=>some (d,q)
 | some (.nx _)=>some (.non,9)
 | _=>none
theorem x8x {K:PySem.W.Frag} {H:Hp} {w:Wn} {N:List Str} {ds:List D} {vs:List V} (hw:∀ a o,w a=some o->o=.f) (wl:WL K w H) (r:Reps K H w .f 0 ds vs []):Good K (x3z N.length ds) (y1o N vs) H w 0:=by
 refine⟨wl,(fun a i e=>by cases (hw a _ e)),(fun a i e=>by cases (hw a _ e)),?_,fun i d q e=>?_⟩
 ·unfold x3z L2.y1o
  rw[List.length_append,List.length_append,List.length_map,List.length_map,List.length_replicate,List.length_replicate,r.length]
 ·unfold x3z at e
  by_cases hi:i<ds.length
  ·rw[List.getElem?_append_left (by simpa using hi),List.getElem?_map]at e
   cases h:ds[i]? with
   | none=>rw[h]at e; cases e
   | some d'=>
    rw[h]at e
    cases e
    obtain⟨v,hv,rv⟩:=r.get h
    refine⟨v,[],?_,(rv.any wl:Rep K H w (.s i) 0 d v []).dep⟩
    unfold L2.y1o
    rw[List.getElem?_append_left (by rw[List.length_map,<- r.length]; exact hi),List.getElem?_map,hv]
    rfl
  ·rw[List.getElem?_append_right (by simpa using hi),List.getElem?_replicate]at e
   split at e <;> cases e
theorem z4q {K:PySem.W.Frag} {N:List Str} {n:Nat} {body:x1d} {vs:List V} {H:Hp} {Q:VK} {E:XK} (h:spD K n (fnD N.length body) vs H Q E):tDS K body { nx:=fun _ H'=>Q .non H',rt:=Q } (y1o N vs) H:=by
 obtain⟨hn,ds,w,r,q,hw,wl,rs,e,k⟩:=h
 unfold fnD at e
 split at e
 ·rename_i d q' h1
  cases e
  exact⟨_,w,_,x8x hw wl rs,h1,fun v H' w' F wl' go' r'=>k v H' w' F go' wl' r'⟩
 ·rename_i ρ' h1
  cases e
  exact⟨_,w,_,x8x hw wl rs,h1,fun σ' H' w' _ g' go'=>k .non H' w' [] go' g'.wl .non⟩
 ·cases e
theorem j27 {P:Program} {wd:World} {K:PySem.W.Frag} {mg:Str->Option Value} {base:Heap} {x qual:Str} {st:Stmt} {f:Addr} {fd:FuncData} {N ps:List Str} {k:Nat} {body:x1d} (F:Fun K x qual st f fd) (S:FnScope N ps (x0b st))
  (h:∀ (cdv:Value) (A:Around) (outer:List Env) (s:Shared) (H:Hp) (E:XK),Room k (A.deeper (envOfC qual (x0b st) s.heap.objs.size f cdv))->y8p (y94 CX0 P wd K mg base N qual (x0b st) f cdv A outer s H E).nox (x36 st) body) :
  FnOk P wd K mg base CX0 (k+1) f fd ps (spD K ps.length (fnD N.length body)):=
 F.ok S (fun vs H Q E h=>h.1) fun cdv A outer s H vs Q E hr hsp=>⟨_,h cdv A outer s H E hr,z4q hsp⟩
noncomputable def x6g (k:Nat) (pt:x5s) (tt:x1l) (te:Den) (deep:Bool):List D->Rho->Option (List D × Rho)
 | [],ρ=>some ([],ρ)
 | d::ds,ρ=>match pt d (ρ++List.replicate k none)with
  | none=>none
  | some ρ1=>match tt ρ1 with
   | none=>none
   | some (b,ρ2)=>if b=true then(match te ρ2 with
     | none=>none
     | some (v,q,ρ3)=>if deep=true/\v.isL=true/\q≠1 then none else match x6g k pt tt te deep ds (ρ3.take ρ.length)with
      | none=>none
      | some (vs,ρ4)=>some (v::vs,ρ4))
    else x6g k pt tt te deep ds (ρ2.take ρ.length)
@[simp] noncomputable def x2l (k:Nat) (it:y1v) (pt:x5s) (tt:x1l) (te:Den) (deep:Bool):Den:=fun ρ=>match it ρ with
 | some (ds,ρ1)=>match x6g k pt tt te deep ds ρ1 with
  | some (vs,ρ2)=>some (.lst vs,if deep=true then 2 else 1,ρ2)
  | none=>none
 | none=>none
@[simp] noncomputable def x38:x1l:=fun ρ=>some (true,ρ)
theorem Good.ext {K:PySem.W.Frag} {ρ:Rho} {σ:St} {H:Hp} {w:Wn} {t:Nat} (g:Good K ρ σ H w t) (k:Nat):Good K (ρ++List.replicate k none) (σ++List.replicate k none) H w t:=by
 refine⟨g.wl,fun a i e=>by rw[List.length_append]; exact Nat.lt_of_lt_of_le (g.ws a i e) (Nat.le_add_right _ _),g.wt,by rw[List.length_append,List.length_append,List.length_replicate,List.length_replicate,g.len],fun i d q e=>?_⟩
 by_cases hi:i<ρ.length
 ·rw[List.getElem?_append_left hi]at e
  obtain⟨v,F,h1,h2⟩:=g.slot i d q e
  exact⟨v,F,by rw[List.getElem?_append_left (by rw[<- g.len]; exact hi)]; exact h1,h2⟩
 ·rw[List.getElem?_append_right (by omega),List.getElem?_replicate]at e
  split at e <;> cases e
noncomputable def x3s (n:Nat) (w:Wn):Wn:=fun a=>match w a with
 | some (.s i)=>if n<=i then none else some (.s i)
 | x=>x
theorem y33 {n:Nat} {w:Wn} {a:Addr} (h:w a=none):x3s n w a=none:=by unfold x3s; rw[h]
theorem y66 {n:Nat} {w:Wn} {a:Addr} {i:Nat} (h:w a=some (.s i)) (hi:i<n):x3s n w a=some (.s i):=by unfold x3s; rw[h]; exact if_neg (by omega)
theorem y5w {n:Nat} {w:Wn} {a:Addr} {o:Ow} (h:w a=some o) (hn:∀ i,o ≠ .s i):x3s n w a=some o:=by
 unfold x3s; rw[h]
 cases o with
 | s i=>exact absurd rfl (hn i)
 | t i=>rfl
 | f=>rfl
theorem x5k {n:Nat} {w:Wn} {a:Addr} {o:Ow} (h:x3s n w a=some o):w a=some o/\∀ i,o=.s i->i<n:=by
 unfold x3s at h
 cases e:w a with
 | none=>rw[e]at h; cases h
 | some o'=>
  rw[e]at h
  cases o' with
  | t i=>cases h; exact⟨rfl,fun i z=>nomatch z⟩
  | f=>cases h; exact⟨rfl,fun i z=>nomatch z⟩
  | s i=>
   dsimp only at h
   split at h
   ·cases h
   ·cases h; exact⟨rfl,fun j z=>by cases z; omega⟩
theorem Good.cut {K:PySem.W.Frag} {ρ:Rho} {σ τ:St} {H:Hp} {w:Wn} {t:Nat} (g:Good K ρ (σ++τ) H w t):Good K (ρ.take σ.length) σ H (x3s σ.length w) t/\Go H w H (x3s σ.length w):=by
 have st:x79 H w H (x3s σ.length w):=fun a x h n=>⟨sm h,y33 n⟩
 refine⟨⟨⟨fun a o e=>g.wl a o (x5k e).1,g.wl.tb⟩,fun a i e=>(x5k e).2 i rfl,fun a i e=>g.wt a i (x5k e).1,?_,fun i d q e=>?_⟩,⟨st,fun a o e n=>⟨rfl,y5w e n⟩⟩⟩
 ·rw[List.length_take,g.len,List.length_append]
  omega
 ·by_cases hi:i<σ.length
  ·rw[List.getElem?_take_of_lt hi]at e
   obtain⟨v,F,h1,h2⟩:=g.slot i d q e
   rw[List.getElem?_append_left hi]at h1
   exact⟨v,F,h1,Rep.go g.wl st h2 fun a m=>⟨rfl,y66 (h2.owns a m) hi⟩⟩
  ·rw[List.getElem?_take_eq_none (by omega)]at e
   cases e
theorem j6d {σ σ' τ:St} (l:σ'.length=(σ++τ).length) (h:∀ i,i<σ.length->σ'[i]? = (σ++τ)[i]?):∃ τ',σ'=σ++τ'/\τ'.length=τ.length:=by
 refine⟨σ'.drop σ.length,?_,by rw[List.length_drop,l,List.length_append]; omega⟩
 have e:σ'.take σ.length=σ:=by
  apply List.ext_getElem?
  intro i
  by_cases hi:i<σ.length
  ·rw[List.getElem?_take_of_lt hi,h i hi,List.getElem?_append_left hi]
  ·rw[List.getElem?_take_eq_none (by omega),List.getElem?_eq_none (by omega)]
 conv=>lhs; rw[<- List.take_append_drop σ.length σ',e]
noncomputable def dq (deep:Bool):Nat:=if deep=true then 1 else 0
noncomputable def x6w (deep:Bool) (t:Nat) (w:Wn):Wn:=fun a=>if w a=some (.t (t+1))then(if deep=true then some (.t t)else none)else w a
theorem j6y {K:PySem.W.Frag} {ρ:Rho} {σ:St} {H:Hp} {w:Wn} {t q:Nat} {d:D} {v:V} {F:List Addr} {deep:Bool} (g:Good K ρ σ H w (t+2)) (r:Rep K H w (.t (t+1)) q d v F) (hq:¬ (deep=true/\d.isL=true/\q≠1)) :
  Good K ρ σ H (x6w deep t w) (t+1)/\(∃ F',Rep K H (x6w deep t w) (.t t) (dq deep) d v F'/\∀ a∈F',w a=some (.t (t+1)))/\x79 H w H (x6w deep t w)/\(∀ a o,w a=some o->o ≠ .t (t+1)->x6w deep t w a=some o):=by
 have hN:∀ a,w a=none->x6w deep t w a=none:=fun a e=>by unfold x6w; rw[e]; rfl
 have hO:∀ a o,w a=some o->o ≠ .t (t+1)->x6w deep t w a=some o:=fun a o e n=>by
  unfold x6w
  rw[if_neg (by rw[e]; exact fun z=>n (Option.some.inj z))]
  exact e
 have hI:∀ a o,x6w deep t w a=some o->(w a=some (.t (t+1))/\o=.t t)\/(w a=some o/\o ≠ .t (t+1)):=fun a o e=>by
  unfold x6w at e
  split at e
  ·split at e
   ·cases e; exact .inl ⟨by assumption,rfl⟩
   ·cases e
  ·rename_i n; exact .inr ⟨e,fun z=>n (by rw[e,z])⟩
 have st:x79 H w H (x6w deep t w):=fun a x h n=>⟨sm h,hN a n⟩
 refine⟨⟨⟨fun a o e=>?_,g.wl.tb⟩,fun a i e=>?_,fun a i e=>?_,g.len,fun i d' q' e'=>?_⟩,?_,st,hO⟩
 ·rcases hI a o e with⟨z,_⟩ | ⟨z,_⟩ <;> exact g.wl a _ z
 ·rcases hI a _ e with⟨_,z⟩ | ⟨z,_⟩
  ·cases z
  ·exact g.ws a i z
 ·rcases hI a _ e with⟨_,z⟩ | ⟨z,n⟩
  ·cases z; exact Nat.lt_succ_self _
  ·have:=g.wt a i z
   have:i≠t+1:=fun z=>n (by rw[z])
   omega
 ·obtain⟨v',F',h1,h2⟩:=g.slot i d' q' e'
  exact⟨v',F',h1,Rep.go g.wl st h2 fun a m=>⟨rfl,hO a _ (h2.owns a m) (fun z=>nomatch z)⟩⟩
 ·cases deep with
  | false=>
   refine⟨[],Rep.freeze hN r fun a m=>?_,fun _ z=>nomatch z⟩
   unfold x6w
   rw[if_pos (r.owns a m)]
   rfl
  | true=>
   have hT:∀ a,w a=some (.t (t+1))->x6w true t w a=some (.t t):=fun a e=>by unfold x6w; rw[if_pos e]; rfl
   cases hl:d.isL with
   | false=>
    obtain⟨_,hr⟩:=r.nolist hl
    exact⟨[],Rep.go g.wl st (hr 1) (fun _ z=>nomatch z),fun _ z=>nomatch z⟩
   | true=>
    have:q=1:=by
     by_cases h:q=1
     ·exact h
     ·exact absurd ⟨rfl,hl,h⟩ hq
    subst this
    exact⟨F,Rep.go g.wl st r fun a m=>⟨rfl,hT a (r.owns a m)⟩,r.owns⟩
theorem j43 {K:PySem.W.Frag} {ρ:Rho} {σ:St} {H1:Hp} {w1:Wn} {t q:Nat} {p:Addr} {vs:List V} {ds:List D} {F:List Addr} (g:Good K ρ σ H1 w1 (t+1)) (hp:H1 p=none) (r:Reps K H1 w1 (.t t) q ds vs F) :
  Good K ρ σ (upd H1 p (.lst vs)) (z21 p (.t t) w1) (t+1)/\Go H1 w1 (upd H1 p (.lst vs)) (z21 p (.t t) w1)/\Rep K (upd H1 p (.lst vs)) (z21 p (.t t) w1) (.t t) (q+1) (.lst ds) (.ref p) (p::F):=by
 have ne:∀ a x,H1 a=some x->a≠p:=fun a x e=>x1c e hp
 have nw:∀ a o,w1 a=some o->a≠p:=fun a o e=>by obtain⟨vs,q⟩:=g.wl a o e; exact ne a _ q
 have st:x79 H1 w1 (upd H1 p (.lst vs)) (z21 p (.t t) w1):=fun a x e n=>⟨sm (by rw[x0p (ne a x e)]; exact e),by rw[x43 (ne a x e)]; exact n⟩
 refine⟨⟨⟨fun a o e=>?_,g.wl.tb.upd rfl (.inl hp)⟩,fun a i e=>?_,fun a i e=>?_,g.len,fun i d q e=>?_⟩,⟨st,fun a o e _=>⟨x0p (nw a o e),(x43 (nw a o e)).trans e⟩⟩,?_⟩
 ·by_cases h:a=p
  ·subst h; exact⟨vs,x21⟩
  ·rw[x43 h]at e
   obtain⟨us,q⟩:=g.wl a o e
   exact⟨us,by rw[x0p h]; exact q⟩
 ·by_cases h:a=p
  ·subst h; rw[x5d]at e; cases e
  ·rw[x43 h]at e; exact g.ws a i e
 ·by_cases h:a=p
  ·subst h; rw[x5d]at e; cases e; exact Nat.lt_succ_self _
  ·rw[x43 h]at e; exact g.wt a i e
 ·obtain⟨v,F,h1,h2⟩:=g.slot i d q e
  exact⟨v,F,h1,Rep.go g.wl st h2 fun a m=>⟨x0p (nw a _ (h2.owns a m)),(x43 (nw a _ (h2.owns a m))).trans (h2.owns a m)⟩⟩
 ·exact .own x21 x5d (Reps.go g.wl st r fun a m=>⟨x0p (nw a _ (r.owns a m)),(x43 (nw a _ (r.owns a m))).trans (r.owns a m)⟩) fun m=>absurd rfl (nw p _ (r.owns p m))
theorem y1z {K:PySem.W.Frag} {k:Nat} {it:y1v} {pt:x5s} {tt:x1l} {te:Den} {deep:Bool}:∀ σ H Q,tD K (x2l k it pt tt te deep) σ H Q->z59 k (tDI K it) (tDG K σ.length pt) (tDT K tt) (tD K te) σ H Q:=fun σ H Q hh0=>by
 obtain⟨ρ,w,t,r',q,ρ',g,ee,kk⟩:=hh0
 unfold x2l at ee
 split at ee
 ·rename_i ds ρ1 h1
  split at ee
  ·rename_i all ρ2 h2
   cases ee
   refine⟨ρ,w,t,ds,ρ1,g,h1,fun J P H1 w1 g1 go1 ok p1 hl=>?_⟩
   refine⟨fun i m ys H'=>m=ds.length-i/\i<=ds.length/\ys.length<=i/\∃ ρ3 w3 zs F rest,Good K ρ3 σ H' w3 (t+1)/\Go H w H' w3/\P H' w3/\Reps K H' w3 (.t t) (dq deep) zs ys F /\
     x6g k pt tt te deep (ds.drop i) ρ3=some (rest,ρ')/\zs++rest=all,
    ⟨ds.length,by simp,Nat.zero_le _,Nat.le_refl _,ρ1,w1,[],[],all,g1.up,go1,p1,.nil,h2,rfl⟩,?_⟩
   rintro i m ys H' ⟨rfl,hile,hys,ρ3,w3,zs,F,rest,g0,go0,p0,rz0,e3,ez⟩
   have hsz:ys.length<sizeLine:=by omega
   refine⟨Nat.le_of_lt hsz,?_⟩
   by_cases hlt:i<ds.length
   ·refine .inr ⟨ok.go i H' w3 p0 hlt,hsz,fun x H2 hy=>?_⟩
    obtain⟨mo,rx,p3⟩:=ok.yld i H' w3 x H2 ds[i] p0 g0.wl (List.getElem?_eq_getElem hlt) hy
    obtain⟨g3,go2⟩:=g0.more mo
    have go3:=go0.trans go2
    have rz:=rz0.gone g0.wl go2
    have ed:ds.drop i=ds[i]::ds.drop (i+1):=List.drop_eq_getElem_cons hlt
    rw[ed]at e3
    unfold x6g at e3
    split at e3
    ·cases e3
    ·rename_i ρ4 h4
     split at e3
     ·cases e3
     ·rename_i b ρ5 h5
      have gx:=g3.ext k
      have lρ:ρ3.length=σ.length:=g3.len
      refine⟨ds[i],_,w3,t+1,ρ4,gx,rx,h4,fun σ4 H4 w4 l4 s4 g4 go4=>?_⟩
      obtain⟨τ,rfl,lτ⟩:=j6d l4 s4
      refine⟨⟨τ,rfl,by rw[lτ,List.length_replicate]⟩,ρ4,w4,t+1,b,ρ5,g4,h5,fun H5 w5 g5 go5=>?_⟩
      have p5:=ok.st _ _ _ _ (ok.st _ _ _ _ p3 g3.wl go4.stab) g4.wl go5.stab
      have z5:Reps K H5 w5 (.t t) (dq deep) zs ys F:=(rz.gone g3.wl go4).gone g4.wl go5
      cases b with
      | false=>
       rw[if_neg (by decide)]at e3
       dsimp only
       rw[if_neg (by decide)]
       obtain⟨gc,goc⟩:=g5.cut
       rw[lρ]at e3
       refine⟨ds.length-(i+1),by omega,rfl,hlt,by omega,_,_,zs,F,rest,gc,(go3.trans go4).trans (go5.trans goc),ok.st _ _ _ _ p5 g5.wl goc.stab,z5.gone g5.wl goc,e3,ez⟩
      | true=>
       rw[if_pos rfl]at e3
       dsimp only
       rw[if_pos rfl]
       split at e3
       ·cases e3
       ·rename_i d6 q6 ρ6 h6
        split at e3
        ·cases e3
        ·rename_i hq6
         split at e3
         ·cases e3
         ·rename_i vs7 ρ7 h7
          cases e3
          refine⟨ρ5,w5,t+1,d6,q6,ρ6,g5,h6,fun v H6 w6 F6 g6 go6 r6=>?_⟩
          obtain⟨gs,⟨F',rs,hF'⟩,sts,hOs⟩:=j6y g6 r6 hq6
          obtain⟨gc,goc⟩:=gs.cut
          rw[lρ]at h7
          have zs6:=z5.gone g5.wl go6
          have zF:∀ a∈F,w6 a=some (.t t):=zs6.owns
          have zs7:Reps K H6 (x6w deep t w6) (.t t) (dq deep) zs ys F:=Reps.go g6.wl sts zs6 fun a m=>⟨rfl,hOs a _ (zF a m) (by intro z; cases z)⟩
          have gos:Go H w H6 (x6w deep t w6):=by
           have go:Go H w H6 w6:=(go3.trans go4).trans (go5.trans go6)
           refine⟨go.stab.trans sts,fun a o h n=>⟨(go.keep a o h n).1,hOs a o (go.keep a o h n).2 fun z=>?_⟩⟩
           subst z
           have:=g.wt a _ h
           omega
          refine⟨ds.length-(i+1),by omega,rfl,hlt,by rw[List.length_append]; simp; omega,_,_,zs++[d6],F++F',vs7,gc,gos.trans goc,ok.st _ _ _ _ (ok.st _ _ _ _ p5 g5.wl go6.stab |> fun q=>ok.st _ _ _ _ q g6.wl sts) gs.wl goc.stab,
           ?_,h7,by rw[List.append_assoc]; exact ez⟩
          refine(Reps.snoc rs zs7 fun a m m'=>?_).gone gs.wl goc
          have h1:=zF a m
          rw[hF' a m']at h1
          cases h1
   ·have hi':i=ds.length:=Nat.le_antisymm hile (Nat.not_lt.mp hlt)
    subst hi'
    refine .inl ⟨ok.stop H' w3 p0,fun p hp=>?_⟩
    have ed:ds.drop ds.length=[]:=by simp
    rw[ed]at e3
    cases e3
    rw[List.append_nil]at ez
    subst ez
    obtain⟨a1,a2,a3⟩:=j43 g0 hp rz0
    refine kk _ _ _ (p::F) a1 (go0.trans a2) ?_
    cases deep <;> exact a3
  ·cases ee
 ·cases ee
section
variable {X:Cx} {k:Nat} {N':List Str} {scope:Scope} {elt tg iter:Expr} {ifs:List Expr} {pos:Pos} {it:y1v} {pt:x5s} {tt:x1l} {te:Den}
noncomputable abbrev j0j (X:Cx) (ifs:List Expr) (f:x1l):Prop:=PTs X ifs (tDT X.K f)
theorem z4h:j0j X [] x38:=fun pins s σ H Q I hh0=>by
 obtain⟨ρ,w,t,b,ρ',gd,ee,k⟩:=hh0
 cases ee
 exact z6o pins s σ H Q I (k H w gd Go.refl)
theorem z2m {c:Expr} {g:x1l} (h:PDT X c g):j0j X [c] g:=z9h h
theorem z83 (deep:Bool) (hc:X.calm=true) (S:CompOk X k N' scope) (hi:PDI X tg iter it) (hg:∀ C s H fp,PDG (x25 X N' scope C s H fp) X.N.length tg pt) (ht:∀ C s H fp,j0j (x25 X N' scope C s H fp) ifs tt) (he:∀ C s H fp,PD (x25 X N' scope C s H fp) elt te)
  (hs:∀ x,foldedSetIterable iter X.env x=pure x:=by intro _; rfl):PD X (.ListComp elt [⟨tg,iter,ifs,0⟩] scope pos) (x2l k it pt tt te deep):=by
 intro pins s σ H Q I h
 have:=y1z σ H Q h
 rw[I.len]at this
 exact z7o (N':=N') hc S hi hg ht he hs pins s σ H Q I this
theorem z4w {i:Nat} {y:Str} {py spos:Pos} (deep:Bool) (hN:X.N.Nodup) (hy:X.N[i]? = some y) (hx:Loc X.env.scope y) (hsw:swapsWith (.ListComp elt [⟨tg,iter,ifs,0⟩] scope pos) (some (.Name y py)) spos.line X.env=pure true)
  (hc:X.calm=true) (S:CompOk X k N' scope) (hi:PDI X tg iter it) (hg:∀ C s H fp,PDG (x25 X N' scope C s H fp) X.N.length tg pt) (ht:∀ C s H fp,j0j (x25 X N' scope C s H fp) ifs tt) (he:∀ C s H fp,PD (x25 X N' scope C s H fp) elt te)
  (hs:∀ x,foldedSetIterable iter X.env x=pure x:=by intro _; rfl) (hf:X.fn y=true\/X.env.scope.names.lookup y=some .local:=by first | exact .inl rfl | exact .inr rfl | assumption) :
  PDS X (.Assign [.Name y py] (.ListComp elt [⟨tg,iter,ifs,0⟩] scope pos) spos) (x2r i (x2l k it pt tt te deep)):=by
 intro pins s σ H D I h
 have hl:i<σ.length:=by rw[I.len]; exact(List.getElem?_eq_some_iff.mp hy).1
 refine z9j (N':=N') (te:=tD X.K te) (tt:=tDT X.K tt) (g:=tDG X.K X.N.length pt) (wi:=tDI X.K it) hN hy hx hsw hc S hi hg ht he hs hf pins s σ H D I ?_
 have z:=y9d (te:=z59 k (tDI X.K it) (tDG X.K σ.length pt) (tDT X.K tt) (tD X.K te)) hl (fun Q q=>y1z σ H Q q) h
 rw[I.len]at z
 exact z
end
mutual
noncomputable def toP:D->PyData
 | .non=>.none
 | .bl b=>.bool b
 | .int i=>.int i
 | .str x=>.str x
 | .tup ds=>.tuple (x8l ds)
 | .lst ds=>.list (x8l ds)
 | .dic _ _=>.none
 | .exc _=>.none
 | .ob _ _ _ _=>.none
noncomputable def x8l:List D->List PyData
 | []=>[]
 | d::ds=>toP d::x8l ds
end
mutual
noncomputable def x7w:D->Bool
 | .dic _ _=>false
 | .exc _=>false
 | .ob _ _ _ _=>false
 | .tup ds=>y0a ds
 | .lst ds=>y0a ds
 | _=>true
noncomputable def y0a:List D->Bool
 | []=>true
 | d::ds=>x7w d && y0a ds
end
noncomputable def okD (d:D):Bool:=x7w d && SeqAt.shaped (toP d)
theorem x9z {d:D} (h:okD d=true):x7w d=true:=(Bool.and_eq_true_iff.mp h).1
theorem x9x {d:D} (h:okD d=true):SeqAt.shaped (toP d)=true:=(Bool.and_eq_true_iff.mp h).2
noncomputable def eqD (d e:D):Bool:=PyData.eqv (toP d) (toP e)
section
variable {X:Cx} {pins:List (Addr × Obj)} {σ:St} {H:Hp} {s:Shared}
theorem Rep.reads (I:Inv X pins σ H s) {w:Wn} {o:Ow}:∀ {q:Nat} {d:D} {v:V} {F:List Addr} {u:Value},Rep X.K H w o q d v F->x4k v u->x7w d=true->∃ as,Reads s.heap u (toP d) as:=by
 intro q d v F u r
 refine(Rep.rec (motive_1:=fun q d v F _=>∀ u,x4k v u->x7w d=true->∃ as,Reads s.heap u (toP d) as) (motive_2:=fun q ds vs F _=>∀ us,x2h vs us->y0a ds=true->∃ as,ReadsAll s.heap us (x8l ds) as) ?_ ?_ ?_ ?_ ?_ ?_ ?_ ?_ ?_ ?_ ?_ ?_ ?_ r:∀ u,x4k v u->x7w d=true->∃ as,Reads s.heap u (toP d) as) u
 ·intro q u ru hn; cases ru; exact⟨_,by unfold toP; exact .none⟩
 ·intro q b u ru hn; cases ru; exact⟨_,by unfold toP; exact .bool b⟩
 ·intro q i u ru hn; obtain⟨t,rfl⟩:=ru; exact⟨_,by unfold toP; exact .int i t⟩
 ·intro q x u ru hn; obtain⟨t,rfl⟩:=ru; exact⟨_,by unfold toP; exact .str x t⟩
 ·intro q a vs ds h r ih u ru hn
  cases ru
  obtain⟨its,rv,p,hz⟩:=I.tuple (SqT.of h)
  obtain⟨as,ra⟩:=ih its rv (by unfold x7w at hn; exact hn)
  obtain⟨ob,ho,hc,n,hd⟩:=p
  exact⟨_,by unfold toP; exact .tuple ho hc hd ra⟩
 ·intro q a ks vs ds h r ih u ru hn; cases hn
 ·intro q a nm ob v h x n u ru hn; cases hn
 ·intro q f c fo oc u1 u2 vs ds h1 h2 x r ih u ru hn; cases hn
 ·intro a vs ds h r ih u ru hn
  cases ru
  obtain⟨its,rv,p,hz⟩:=I.list h.sq
  obtain⟨as,ra⟩:=ih its rv (by unfold x7w at hn; exact hn)
  obtain⟨ob,ho,hc,n,hd⟩:=p.isList
  exact⟨_,by unfold toP; exact .list ho hc hd ra⟩
 ·intro a vs ds h n0 r ih u ru hn
  cases ru
  obtain⟨its,rv,p,hz⟩:=I.list (.inl h)
  obtain⟨as,ra⟩:=ih its rv (by unfold x7w at hn; exact hn)
  obtain⟨ob,ho,hc,n,hd⟩:=p.isList
  exact⟨_,by unfold toP; exact .list ho hc hd ra⟩
 ·intro q a vs ds F h e r ne ih u ru hn
  cases ru
  obtain⟨its,rv,p,hz⟩:=I.list (SqL.of h)
  obtain⟨as,ra⟩:=ih its rv (by unfold x7w at hn; exact hn)
  obtain⟨ob,ho,hc,n,hd⟩:=p.isList
  exact⟨_,by unfold toP; exact .list ho hc hd ra⟩
 ·intro q us ru hn; cases ru; exact⟨_,by unfold x8l; exact .nil⟩
 ·intro q d v ds vs F G r s' ne ih1 ih2 us ru hn
  cases ru with
  | cons rv rvs=>
   unfold y0a at hn
   obtain⟨as,ra⟩:=ih1 _ rv (Bool.and_eq_true_iff.mp hn).1
   obtain⟨bs,rb⟩:=ih2 _ rvs (Bool.and_eq_true_iff.mp hn).2
   exact⟨_,by unfold x8l; exact .cons ra rb⟩
end
noncomputable def Is (K:PySem.W.Frag) (H:Hp) (d:D) (v:V):Prop:=∃ w o q F,Rep K H w o q d v F
noncomputable def j6n (K:PySem.W.Frag):R2:=fun x y H Q=>∃ d e,Is K H d x/\Is K H e y/\okD d=true/\okD e=true/\Q (.bl (eqD d e)) H
noncomputable def j6j (K:PySem.W.Frag):R2:=fun x y H Q=>∃ d e,Is K H d x/\Is K H e y/\okD d=true/\okD e=true/\Q (.bl (!eqD d e)) H
noncomputable def inD (d:D):D->Option Bool
 | .lst ds=>some ((x8l ds).any fun y=>PyData.eqv y (toP d))
 | .tup ds=>some ((x8l ds).any fun y=>PyData.eqv y (toP d))
 | _=>none
noncomputable def j4a (K:PySem.W.Frag) (neg:Bool):R2:=fun x y H Q=>∃ d e b,Is K H d x/\Is K H e y/\okD d=true/\okD e=true/\inD d e=some b/\Q (.bl (if neg then !b else b)) H
section
variable {X:Cx} {a b c e:Expr} {fa fb fc f:Den} {pos:Pos}
theorem z6h (hu:X.A.units+64<cLine):OpR X (compareOp .Eq) (j6n X.K):=by
 intro pins s σ H x y v u Q I rx ry ⟨d,e,⟨w,o,q,F,h1⟩,⟨w',o',q',F',h2⟩,k1,k2,hq⟩
 obtain⟨as,ra⟩:=h1.reads I rx (x9z k1)
 obtain⟨bs,rb⟩:=h2.reads I ry (x9z k2)
 exact eq_dataH ra rb (x9x k1) (x9x k2) hu ⟨.bl _,H,I,rfl,hq⟩
theorem j34 (hu:X.A.units+64<cLine):OpR X (compareOp .NotEq) (j6j X.K):=by
 intro pins s σ H x y v u Q I rx ry ⟨d,e,⟨w,o,q,F,h1⟩,⟨w',o',q',F',h2⟩,k1,k2,hq⟩
 obtain⟨as,ra⟩:=h1.reads I rx (x9z k1)
 obtain⟨bs,rb⟩:=h2.reads I ry (x9z k2)
 exact ne_dataH ra rb (x9x k1) (x9x k2) hu ⟨.bl _,H,I,rfl,hq⟩
theorem y9j (hu:X.A.units+65<cLine):OpR X (compareOp .In) (j4a X.K false):=by
 intro pins s σ H x y v u Q I rx ry ⟨d,e,b,⟨w,o,q,F,h1⟩,⟨w',o',q',F',h2⟩,k1,k2,hb,hq⟩
 obtain⟨as,ra⟩:=h1.reads I rx (x9z k1)
 obtain⟨bs,rb⟩:=h2.reads I ry (x9z k2)
 replace k1:=x9x k1
 replace k2:=x9x k2
 cases e with
 | lst ds=>
  cases hb
  unfold toP at rb k2
  exact SeqAt.in_list_reads rb ra (SeqAt.canLay_of_shaped k2) (SeqAt.canLay_of_shaped k1) (room_in_shaped k1 hu) ⟨.bl _,H,I,rfl,hq⟩
 | tup ds=>
  cases hb
  unfold toP at rb k2
  exact SeqAt.in_tuple_reads rb ra (SeqAt.canLay_of_shaped k2) (SeqAt.canLay_of_shaped k1) (room_in_shaped k1 hu) ⟨.bl _,H,I,rfl,hq⟩
 | _=>cases hb
theorem z0l (hu:X.A.units+65<cLine):OpR X (compareOp .NotIn) (j4a X.K true):=by
 intro pins s σ H x y v u Q I rx ry ⟨d,e,b,⟨w,o,q,F,h1⟩,⟨w',o',q',F',h2⟩,k1,k2,hb,hq⟩
 obtain⟨as,ra⟩:=h1.reads I rx (x9z k1)
 obtain⟨bs,rb⟩:=h2.reads I ry (x9z k2)
 replace k1:=x9x k1
 replace k2:=x9x k2
 cases e with
 | lst ds=>
  cases hb
  unfold toP at rb k2
  exact SeqAt.notIn_list_reads rb ra (SeqAt.canLay_of_shaped k2) (SeqAt.canLay_of_shaped k1) (room_in_shaped k1 hu) ⟨.bl _,H,I,rfl,hq⟩
 | tup ds=>
  cases hb
  unfold toP at rb k2
  exact SeqAt.notIn_tuple_reads rb ra (SeqAt.canLay_of_shaped k2) (SeqAt.canLay_of_shaped k1) (room_in_shaped k1 hu) ⟨.bl _,H,I,rfl,hq⟩
 | _=>cases hb
noncomputable def dEq (x y:D):Option D:=if okD x=true/\okD y=true then some (.bl (eqD x y))else none
noncomputable def dNe (x y:D):Option D:=if okD x=true/\okD y=true then some (.bl (!eqD x y))else none
noncomputable def dIn (x y:D):Option D:=if okD x=true/\okD y=true then(inD x y).map fun b=>.bl b else none
noncomputable def y72 (x y:D):Option D:=if okD x=true/\okD y=true then(inD x y).map fun b=>.bl (!b)else none
theorem hEq {K:PySem.W.Frag}:∀ σ H Q,tD K (e2 dEq fa fb) σ H Q->tOp (j6n K) (tD K fa) (tD K fb) σ H Q:=y15 fun x y d h=>by
 unfold dEq at h
 split at h
 ·rename_i hk
  cases h
  exact⟨_,rfl,fun H w o o' q q' u u' F F' r1 r2 _ Q hq=>⟨x,y,⟨_,_,_,_,r1⟩,⟨_,_,_,_,r2⟩,hk.1,hk.2,hq⟩⟩
 ·cases h
theorem hNe {K:PySem.W.Frag}:∀ σ H Q,tD K (e2 dNe fa fb) σ H Q->tOp (j6j K) (tD K fa) (tD K fb) σ H Q:=y15 fun x y d h=>by
 unfold dNe at h
 split at h
 ·rename_i hk
  cases h
  exact⟨_,rfl,fun H w o o' q q' u u' F F' r1 r2 _ Q hq=>⟨x,y,⟨_,_,_,_,r1⟩,⟨_,_,_,_,r2⟩,hk.1,hk.2,hq⟩⟩
 ·cases h
theorem hIn {K:PySem.W.Frag}:∀ σ H Q,tD K (e2 dIn fa fb) σ H Q->tOp (j4a K false) (tD K fa) (tD K fb) σ H Q:=y15 fun x y d h=>by
 unfold dIn at h
 split at h
 ·rename_i hk
  cases hi:inD x y with
  | none=>rw[hi]at h; cases h
  | some b=>
   rw[hi]at h
   cases h
   exact⟨_,rfl,fun H w o o' q q' u u' F F' r1 r2 _ Q hq=>⟨x,y,b,⟨_,_,_,_,r1⟩,⟨_,_,_,_,r2⟩,hk.1,hk.2,hi,hq⟩⟩
 ·cases h
theorem j6a {k:Nat} (hr:Room k X.A) (ha:PD X a fa) (hb:PD X b fb):PD X (.Compare a [.Eq] [b] pos) (e2 dEq fa fb):=z0m (z6h hr.units) hEq ha hb (x9l _)
theorem j2i {k:Nat} (hr:Room k X.A) (ha:PD X a fa) (hb:PD X b fb):PDT X (.Compare a [.Eq] [b] pos) (x2n (e2 dEq fa fb)):=x7h (z6h hr.units) hEq ha hb (x9l _)
theorem j2u {k:Nat} (hr:Room k X.A) (ha:PD X a fa) (hb:PD X b fb):PDT X (.Compare a [.NotEq] [b] pos) (x2n (e2 dNe fa fb)):=x7h (j34 hr.units) hNe ha hb (x9l _)
theorem u65 {k:Nat} {A:Around} (r:Room k A):A.units+65<cLine:=by have:=r.un; omega
theorem j0t {k:Nat} (hr:Room k X.A) (ha:PD X a fa) (hb:PD X b fb) (hm:behindInMarks .In b=false:=by with_unfolding_all rfl):PDT X (.Compare a [.In] [b] pos) (x2n (e2 dIn fa fb)):=x7h (y9j (u65 hr)) hIn ha hb hm
theorem j4z {k:Nat} (hr:Room k X.A) (ha:PD X a fa) (hb:PD X b fb) (hm:behindInMarks .In b=false:=by with_unfolding_all rfl):PD X (.Compare a [.In] [b] pos) (e2 dIn fa fb):=z0m (y9j (u65 hr)) hIn ha hb hm
end
@[simp] noncomputable def eB (h:List D->Option D) (g:x1o):Den:=fun ρ=>match g ρ with
 | some (ds,ρ1)=>match h ds with
  | some d=>some (d,9,ρ1)
  | none=>none
 | none=>none
section
variable {X:Cx} {a b c e:Expr} {es:List Expr} {fa fb fc f:Den} {g:x1o} {pos p p1 p2:Pos}
theorem z1b {K:PySem.W.Frag} {h:List D->Option D} {r:List V->Hp->VK->Prop} (hh:∀ ds d,h ds=some d->∃ v,x92 d=some v/\∀ H w vs,WL K w H->Reps K H w .f 0 ds vs []->∀ Q:VK,Q v H->r vs H Q) :
  ∀ σ H Q,tD K (eB h g) σ H Q->tCB r (tDA K g) σ H Q:=fun σ H Q hh0=>by
 obtain⟨ρ,w,t,r',q,ρ',gd,ee,k⟩:=hh0
 unfold eB at ee
 split at ee
 ·rename_i ds ρ1 h1
  split at ee
  ·rename_i d hd
   cases ee
   obtain⟨v,hv,hr⟩:=hh ds _ hd
   exact⟨ρ,w,t,ds,_,gd,h1,fun vs H1 w1 g1 go1 r1=>hr H1 w1 vs g1.wl r1 Q (k v H1 w1 [] g1.up go1 (y02 hv))⟩
  ·cases ee
 ·cases ee
theorem one {K:PySem.W.Frag} {H:Hp} {w:Wn} {o:Ow} {d:D} {vs:List V} (r:Reps K H w o 0 [d] vs []):∃ v,vs=[v]/\Rep K H w o 0 d v []:=by
 have l:=r.length
 match vs,l with
 | [v],_=>
  obtain⟨v',h1,h2⟩:=r.get (i:=0) rfl
  cases h1
  exact⟨v,rfl,h2⟩
theorem two {K:PySem.W.Frag} {H:Hp} {w:Wn} {o:Ow} {d d':D} {vs:List V} (r:Reps K H w o 0 [d,d'] vs []):∃ v v',vs=[v,v']/\Rep K H w o 0 d v []/\Rep K H w o 0 d' v' []:=by
 have l:=r.length
 match vs,l with
 | [v,v'],_=>
  obtain⟨u,h1,h2⟩:=r.get (i:=0) rfl
  obtain⟨u',h3,h4⟩:=r.get (i:=1) rfl
  cases h1
  cases h3
  exact⟨v,v',rfl,h2,h4⟩
noncomputable def x9r:D->Option Nat
 | .lst ds=>some ds.length
 | .tup ds=>some ds.length
 | _=>none
@[simp] noncomputable def j2q:List D->Option D
 | [d]=>(x9r d).map fun n=>.int (Int.ofNat n)
 | _=>none
theorem Rep.len {K:PySem.W.Frag} {H:Hp} {w:Wn} {o:Ow} {q:Nat} {d:D} {v:V} {F:List Addr} {n:Nat} (r:Rep K H w o q d v F) (h:x9r d=some n):∃ p ys,v=.ref p/\(SqL K H p ys\/SqT K H p ys)/\ys.length=n:=by
 cases d with
 | lst ds=>
  cases h
  obtain⟨p,vs,q',G,rfl,hq,rs⟩:=r.seqL
  exact⟨p,vs,rfl,.inl hq,rs.length.symm⟩
 | tup ds=>
  cases h
  obtain⟨p,vs,rfl,hq,rs⟩:=r.seqT
  exact⟨p,vs,rfl,.inr hq,rs.length.symm⟩
 | _=>cases h
theorem j22 (hm:X.mg "len" = none) (ha:PDA X [a] g) (hg:Gl X "len":=by rfl) (he:starEach [a] X.env=(false,eval a X.env)::starEach [] X.env:=by rfl) (hpl:(backTo pos (starEach [] X.env)).any (·.1)=false:=by rfl):PD X (.Call (.Name "len" p) [a] [] pos) (eB j2q g):=
 PE.imp (x4u x9k hg hm PySem.boot_len ha (by decide) (by decide) he hpl) (z1b fun ds d h=>by
  match ds,h with
  | [d0],h=>
   cases hl:x9r d0 with
   | none=>simp only[j2q,hl,Option.map_none]at h; cases h
   | some n=>
    simp only[j2q,hl,Option.map_some,Option.some.injEq]at h
    subst h
    refine⟨_,rfl,fun H w vs wl r Q hq=>?_⟩
    obtain⟨v,rfl,rv⟩:=one r
    obtain⟨p,ys,rfl,hs,hn⟩:=rv.len hl
    exact⟨p,ys,rfl,hs,by rw[hn]; exact hq⟩)
@[simp] noncomputable def x15 (i:Nat):Den:=fun ρ=>match ρ[i]? with
 | some (some (d,_))=>match x9r d with
  | some n=>some (.int (Int.ofNat n),9,ρ)
  | none=>none
 | _=>none
theorem z8o {i:Nat} {x:Str} (hm:X.mg "len" = none) (h:PE X (.Name x p1) (x9n i)) (hg:Gl X "len":=by rfl) (he:starEach [.Name x p1] X.env=(false,eval (.Name x p1) X.env)::starEach [] X.env:=by rfl) (hpl:(backTo pos (starEach [] X.env)).any (·.1)=false:=by rfl):PD X (.Call (.Name "len" p) [.Name x p1] [] pos) (x15 i):=
 PE.imp (x4u x9k hg hm PySem.boot_len (x3e h x78 he) (by decide) (by decide) he hpl) fun σ H Q hh0=>by
 obtain⟨ρ,w,t,r',q,ρ',gd,ee,k⟩:=hh0
 unfold x15 at ee
 split at ee
 ·rename_i d q0 e0
  split at ee
  ·rename_i n hn
   cases ee
   obtain⟨v,F,h1,h2⟩:=gd.slot i d q0 e0
   obtain⟨p,ys,rfl,hs,hl⟩:=h2.len hn
   exact⟨_,h1,p,ys,rfl,hs,by rw[hl]; exact k _ H w [] gd.up Go.refl (.int _)⟩
  ·cases ee
 ·cases ee
@[simp] noncomputable def j0n:List D->Option D
 | [.int i,.int j]=>some (.int (if j > i then j else i))
 | _=>none
theorem z8n (hc:X.calm=true) (hm:X.mg "max" = none) (hb:bootBuiltins "max" = some (.builtin "max")) (ha:PDA X (a::es) g) (hg:Gl X "max":=by rfl) (he:starEach (a::es) X.env=(false,eval a X.env)::starEach es X.env:=by rfl) (hpl:(backTo pos (starEach es X.env)).any (·.1)=false:=by rfl):PD X (.Call (.Name "max" p) (a::es) [] pos) (eB j0n g):=
 PE.imp (x4u (y9k hc) hg hm hb ha (by decide) (by decide) he hpl) (z1b fun ds d h=>by
  unfold j0n at h
  split at h
  ·rename_i i j
   cases h
   refine⟨_,rfl,fun H w vs wl r Q hq=>?_⟩
   obtain⟨v,v',rfl,r1,r2⟩:=two r
   exact⟨i,j,by rw[x39 r1,x39 r2],hq⟩
  ·cases h)
@[simp] noncomputable def x4b (g:x1o):Den:=fun ρ=>match g ρ with
 | some ([.lst ds],ρ1)=>some (.lst ds,1,ρ1)
 | some ([.tup ds],ρ1)=>some (.lst ds,1,ρ1)
 | _=>none
theorem y9x (hm:X.mg "list" = none) (hb:bootBuiltins "list" = some (.type "list")) (ha:PDA X [a] g) (hg:Gl X "list":=by rfl) (he:starEach [a] X.env=(false,eval a X.env)::starEach [] X.env:=by rfl) (hpl:(backTo pos (starEach [] X.env)).any (·.1)=false:=by rfl):PD X (.Call (.Name "list" p) [a] [] pos) (x4b g):=
 PE.imp (x6a x9p hg hm hb ha (by decide) (by decide) he hpl) fun σ H Q hh0=>by
 obtain⟨ρ,w,t,r',q,ρ',gd,ee,k⟩:=hh0
 unfold x4b at ee
 split at ee
 ·rename_i ds ρ1 h1
  cases ee
  refine⟨ρ,w,t,_,_,gd,h1,fun vs H1 w1 g1 go1 r1=>?_⟩
  obtain⟨v,rfl,rv⟩:=one r1
  obtain⟨p,ys,rfl,hs,rs⟩:=rv.seqL0
  refine⟨p,ys,rfl,.inl hs,fun l hl=>?_⟩
  obtain⟨a1,a2,a3⟩:=y2k g1 hl rs
  exact k _ _ _ _ a1 (go1.trans a2) a3
 ·rename_i ds ρ1 h1
  cases ee
  refine⟨ρ,w,t,_,_,gd,h1,fun vs H1 w1 g1 go1 r1=>?_⟩
  obtain⟨v,rfl,rv⟩:=one r1
  obtain⟨p,ys,rfl,hs,rs⟩:=rv.seqT
  refine⟨p,ys,rfl,.inr hs,fun l hl=>?_⟩
  obtain⟨a1,a2,a3⟩:=y2k g1 hl rs
  exact k _ _ _ _ a1 (go1.trans a2) a3
 ·cases ee
@[simp] noncomputable def x4c (g:x1o):Den:=fun ρ=>match g ρ with
 | some ([.lst ds],ρ1)=>some (.tup ds,9,ρ1)
 | some ([.tup ds],ρ1)=>some (.tup ds,9,ρ1)
 | _=>none
theorem z2p (hm:X.mg "tuple" = none) (hb:bootBuiltins "tuple" = some (.type "tuple")) (ha:PDA X [a] g) (hg:Gl X "tuple":=by rfl) (he:starEach [a] X.env=(false,eval a X.env)::starEach [] X.env:=by rfl) (hpl:(backTo pos (starEach [] X.env)).any (·.1)=false:=by rfl):PD X (.Call (.Name "tuple" p) [a] [] pos) (x4c g):=
 PE.imp (x6a y2x hg hm hb ha (by decide) (by decide) he hpl) fun σ H Q hh0=>by
 obtain⟨ρ,w,t,r',q,ρ',gd,ee,k⟩:=hh0
 unfold x4c at ee
 split at ee
 ·rename_i ds ρ1 h1
  cases ee
  refine⟨ρ,w,t,_,_,gd,h1,fun vs H1 w1 g1 go1 r1=>?_⟩
  obtain⟨v,rfl,rv⟩:=one r1
  obtain⟨p,ys,rfl,hs,rs⟩:=rv.seqL0
  refine⟨p,ys,rfl,.inl ⟨hs,fun l hl=>?_⟩⟩
  obtain⟨a1,a2,a3⟩:=y3v g1 hl rs
  exact k _ _ _ _ a1 (go1.trans a2) a3
 ·rename_i ds ρ1 h1
  cases ee
  refine⟨ρ,w,t,_,_,gd,h1,fun vs H1 w1 g1 go1 r1=>?_⟩
  obtain⟨v,rfl,rv⟩:=one r1
  have rr:=rv
  obtain⟨p,ys,rfl,hs,rs⟩:=rv.seqT
  refine⟨p,ys,rfl,.inr ⟨hs,?_⟩⟩
  exact k _ H1 w1 [] g1.up go1 (((rr.nolist rfl).2 9).any g1.wl)
 ·cases ee
noncomputable def z6b (ta:TA):TE:=fun σ H Q=>ta σ H fun vs H1=>∃ j:Int,vs=[.int j] /\ -(2 ^ 62)<=j/\j<2 ^ 62/\∀ p,H1 p=none->Q (.ref p) (upd H1 p (.rng 0 j))
theorem z45 {ta:TA} (hg:Gl X "range") (hm:X.mg "range" = none) (ha:PA X [a] ta) (hs:starEach [a] X.env=[(false,eval a X.env)]:=by rfl):PE X (.Call (.Name "range" p) [a] [] pos) (z6b ta):=by
 intro pins s σ H Q I h
 refine Call_ (y0m I hg hm boot_range (PyProof.Rows.callWith_type1 (thn (ha pos pins s σ H _ I h) fun us s1 ⟨vs,H1,I1,r1,q1⟩=>?_) hs rfl))
 obtain⟨j,e,q1,q2,q⟩:=q1
 subst e
 cases r1 with
 | cons r rr=>
  cases rr
  obtain⟨t,rfl⟩:=r
  refine call_range_1 ?_
  exact⟨.ref s1.heap.objs.size,upd H1 s1.heap.objs.size (.rng 0 j),I1.laid (fun b u e=>Heap.get?_push_of_some _ e) (Nat.le_refl _) ⟨_,_,_,Heap.get?_push_size _ rfl⟩,rfl,q _ (I1.hok.fresh (Nat.le_refl _))⟩
end
theorem y5c {j:Int} (h1:-(2 ^ 62)<=j) (h2:j<2 ^ 62):Builtin.Range.small 0 j 1=true:=by
 have hs:Builtin.Range.rangeSize 0 j 1=((j.toNat:Nat):Int):=by
  simp[Builtin.Range.rangeSize] <;> split <;> omega
 simp only[Builtin.Range.small,hs,Builtin.Range.rangeFitsLong]
 simp
 omega
theorem y8g (j:Int):Builtin.Range.rangeSize 0 j 1=((j.toNat:Nat):Int):=by
 simp[Builtin.Range.rangeSize] <;> split <;> omega
theorem y8c {n:Nat} {acc:Array Value} (h:ItemsOf (fun i v=>∃ t,v=Value.int (0+(i:Nat)*1) t) acc n):x2h (y0w n) acc.toList:=by
 have key:∀ (us:List Value) (k:Nat),(∀ j v,us[j]? = some v->∃ t,v=Value.int (((k+j:Nat)):Int) t)->x2h ((List.range' k us.length).map fun i=>V.int (Int.ofNat i)) us:=by
  intro us
  induction us with
  | nil=>intro k _; exact .nil
  | cons u r ih=>
   intro k hk
   obtain⟨t,e⟩:=hk 0 u rfl
   refine .cons ⟨t,by rw[e]; rfl⟩ (ih (k+1) fun j v hv=>?_)
   obtain⟨t',e'⟩:=hk (j+1) v (by simpa using hv)
   exact⟨t',by rw[e']; congr 2; omega⟩
 have:=key acc.toList 0 fun j v hv=>by
  obtain⟨t,e⟩:=h.2 j v (by simpa using hv)
  exact⟨t,by rw[e]; congr 1; omega⟩
 have hl:acc.toList.length=n:=by simpa using h.1
 rw[hl]at this
 unfold y0w
 rw[List.range_eq_range']
 exact this
section
variable {X:Cx}
noncomputable def j6l (mk:List V->HO):List V->Hp->VK->Prop:=fun xs H Q=>∃ a j,xs=[.ref a]/\H a=some (.rng 0 j) /\ -1000<=j/\j<=1000/\∀ p,H p=none->Q (.ref p) (upd H p (mk (y0w j.toNat)))
theorem y2j (hc:X.calm=true):x94 X (.type "list") (j6l .lst):=by
 intro pins s σ H xs us Q I r h
 obtain⟨a,j,rfl,hr,j1,j2,q⟩:=h
 obtain⟨u,rfl,rx⟩:=y3h r
 cases rx
 obtain⟨t,u,v,ho⟩:=(show x3n X.prog X.w H s.heap a (.rng 0 j)from I.hok a _ hr)
 refine call_list_range (I.ok.hd hc) ho (y5c (by omega) (by omega)) (y8g j) (by omega) fun h' tk acc' c' hk hS' hacc=>?_
 refine⟨.ref s.heap.objs.size,_,I.laid (t':=tk) (o:=.lst (y0w j.toNat)) hk (Nat.le_refl _) ⟨by rw[y7y]; exact Nat.le_trans (by omega:j.toNat<=1000) (by decide),acc'.toList,c',y8c hacc,by simpa using hS'⟩,rfl,q _ (I.hok.fresh (Nat.le_refl _))⟩
variable {a:Expr} {g:x1o} {pos p p1 pos1:Pos}
@[simp] noncomputable def x8c (g:x1o):Den:=fun ρ=>match x1f g ρ with
 | some (ds,ρ1)=>some (.lst ds,1,ρ1)
 | none=>none
theorem z0f {K:PySem.W.Frag} {mk:List V->HO} {q0:Nat} {md:List D->D} (al:∀ {ρ:Rho} {σ:St} {H1:Hp} {w1:Wn} {t:Nat} {p:Addr} {vs:List V} {ds:List D},Good K ρ σ H1 w1 t->H1 p=none->Reps K H1 w1 .f 0 ds vs []->∃ w' F,Good K ρ σ (upd H1 p (mk vs)) w' (t+1)/\Go H1 w1 (upd H1 p (mk vs)) w'/\Rep K (upd H1 p (mk vs)) w' (.t t) q0 (md ds) (.ref p) F) :
  ∀ σ H Q,tD K (fun ρ=>match x1f g ρ with
   | some (ds,ρ1)=>some (md ds,q0,ρ1)
   | none=>none) σ H Q->tCB (j6l mk) (j2l (z6b (tDA K g)) j6m) σ H Q:=fun σ H Q hh0=>by
 obtain⟨ρ,w,t,r',q,ρ',gd,ee,k⟩:=hh0
 dsimp only at ee
 split at ee
 ·rename_i ds ρ1 h1
  cases ee
  unfold x1f at h1
  split at h1
  ·rename_i n ρ2 h2
   split at h1
   ·rename_i hn
    cases h1
    refine⟨ρ,w,t,_,_,gd,h2,fun vs H1 w1 g1 go1 r1=>?_⟩
    obtain⟨v,rfl,rv⟩:=one r1
    have hv:=x39 rv
    subst hv
    refine⟨n,rfl,by omega,by omega,fun p hp=>⟨p,n,rfl,x21,hn.1,hn.2,fun l hl=>?_⟩⟩
    have ne:∀ a x,H1 a=some x->a≠p:=fun a x e=>x1c e hp
    have st:x79 H1 w1 (upd H1 p (.rng 0 n)) w1:=fun a x e nn=>⟨sm (by rw[x0p (ne a x e)]; exact e),nn⟩
    have nw:∀ a o,w1 a=some o->a≠p:=fun a o e=>by obtain⟨vs,q⟩:=g1.wl a o e; exact ne a _ q
    have g2:Good K ρ' σ (upd H1 p (.rng 0 n)) w1 t:=⟨⟨fun a o e=>by
     obtain⟨us,q⟩:=g1.wl a o e
     exact⟨us,by rw[x0p (nw a o e)]; exact q⟩,g1.wl.tb.upd rfl (.inl hp)⟩,g1.ws,g1.wt,g1.len,fun i d q e=>by
     obtain⟨v,F,h1,h2⟩:=g1.slot i d q e
     exact⟨v,F,h1,Rep.go g1.wl st h2 fun a m=>⟨x0p (nw a _ (h2.owns a m)),h2.owns a m⟩⟩⟩
    have go2:Go H1 w1 (upd H1 p (.rng 0 n)) w1:=⟨st,fun a o e _=>⟨x0p (nw a o e),e⟩⟩
    obtain⟨w',F,a1,a2,a3⟩:=al g2 hl (y7v n.toNat)
    exact k _ _ _ _ a1 ((go1.trans go2).trans a2) a3
   ·cases h1
  ·cases h1
 ·cases ee
theorem z33 (hc:X.calm=true) (hm:X.mg "list" = none) (hb:bootBuiltins "list" = some (.type "list")) (hmr:X.mg "range" = none) (ha:PDA X [a] g) (hg:Gl X "list":=by rfl) (hgr:Gl X "range":=by rfl) (hs:starEach [a] X.env=[(false,eval a X.env)]:=by rfl)
  (he:starEach [.Call (.Name "range" p1) [a] [] pos1] X.env=(false,eval (.Call (.Name "range" p1) [a] [] pos1) X.env)::starEach [] X.env:=by rfl) (hpl:(backTo pos (starEach [] X.env)).any (·.1)=false:=by rfl):PD X (.Call (.Name "list" p) [.Call (.Name "range" p1) [a] [] pos1] [] pos) (x8c g):=
 PE.imp (x6a (y2j hc) hg hm hb (x3e (z45 hgr hmr ha hs) x78 he) (by decide) (by decide) he hpl) (z0f fun g hp r=>by
  obtain⟨a1,a2,a3⟩:=y2k g hp r
  exact⟨_,_,a1,a2,a3⟩)
end
end L3
namespace L3
open PySem PySem.Spec PyProof.Rows L2
end L3
namespace L3
open PySem PySem.Spec PyProof.Rows L2
noncomputable def j5g (d:D) (ds:List D):Option Nat:=(x8l ds).findIdx? fun y=>PyData.eqv y (toP d)
section
variable {X:Cx} {a b c e:Expr} {es:List Expr} {fa fb fc f:Den} {g:x1o} {pos p p1 p2 cpos apos:Pos}
@[simp] noncomputable def j6h (fo:Den) (g:x1o):Den:=fun ρ=>match fo ρ with
 | some (.tup ds,_,ρ1)=>match g ρ1 with
  | some ([d],ρ2)=>if okD (.tup ds)=true/\okD d=true then match j5g d ds with
   | some j=>some (.int (Int.ofNat j),9,ρ2)
   | none=>none
   else none
  | _=>none
 | _=>none
theorem Good.mut {K:PySem.W.Frag} {ρ:Rho} {σ:St} {H:Hp} {w:Wn} {t i:Nat} {ds:List D} (g:Good K ρ σ H w t) (e:ρ[i]? = some (some (.lst ds,1))) :
  ∃ l vs,σ[i]? = some (some (.ref l))/\H l=some (.lst vs)/\Reps K H w .f 0 ds vs []/\∀ ds' vs',Reps K H w .f 0 ds' vs' []->
   Good K (ρ.set i (some (.lst ds',1))) σ (upd H l (.lst vs')) w t/\Go H w (upd H l (.lst vs')) w:=by
 obtain⟨v,F,h1,h2⟩:=g.slot i _ _ e
 cases h2 with
 | @own _ l vs _ F' hl hw rs ne=>
  have hF:=rs.zero
  subst hF
  refine⟨l,vs,h1,hl,rs.any g.wl,fun ds' vs' r'=>?_⟩
  have nl:∀ a o,w a=some o->o ≠ .s i->a≠l:=fun a o e n z=>by subst z; rw[hw]at e; exact n (Option.some.inj e).symm
  have nn:∀ a,w a=none->a≠l:=fun a e z=>by subst z; rw[hw]at e; cases e
  have st:x79 H w (upd H l (.lst vs')) w:=fun a x h n=>⟨sm (by rw[x0p (nn a n)]; exact h),n⟩
  refine⟨⟨⟨fun a o h=>?_,g.wl.tb.upd rfl (.inr (g.wl l _ hw))⟩,g.ws,g.wt,by rw[List.length_set]; exact g.len,fun j d' q' e'=>?_⟩,⟨st,fun a o h n=>⟨x0p (nl a o h (n i)),h⟩⟩⟩
  ·by_cases z:a=l
   ·subst z; exact⟨_,x21⟩
   ·obtain⟨us,q⟩:=g.wl a o h
    exact⟨us,by rw[x0p z]; exact q⟩
  ·by_cases hj:i=j
   ·subst hj
    rw[List.getElem?_set_self (List.getElem?_eq_some_iff.mp e).1]at e'
    cases e'
    exact⟨_,_,h1,.own x21 hw (Reps.go g.wl st r' (fun _ z=>nomatch z)) (fun z=>nomatch z)⟩
   ·rw[List.getElem?_set_ne hj]at e'
    obtain⟨v',F',h1',h2'⟩:=g.slot j d' q' e'
    exact⟨v',F',h1',Rep.go g.wl st h2' fun a m=>⟨x0p (nl a _ (h2'.owns a m) (fun z=>hj (by cases z; rfl))),h2'.owns a m⟩⟩
@[simp] noncomputable def y49:Option (Option (D × Nat))->Bool
 | some (some (.lst _,_))=>true
 | _=>false
theorem Good.isL {K:PySem.W.Frag} {ρ:Rho} {σ:St} {H:Hp} {w:Wn} {t i:Nat} (g:Good K ρ σ H w t) (h:y49 ρ[i]? = true):∃ l,σ[i]? = some (some (.ref l))/\∃ vs,SqL K H l vs:=by
 unfold y49 at h
 split at h
 ·rename_i ds q e
  obtain⟨v,F,h1,h2⟩:=g.slot i _ _ e
  obtain⟨p,vs,_,_,rfl,hq,_⟩:=h2.seqL
  exact⟨p,h1,vs,hq⟩
 ·cases h
@[simp] noncomputable def y27 (i:Nat) (g:x1o):Den:=fun ρ=>if y49 ρ[i]? = true then match g ρ with
 | some ([d],ρ1)=>match ρ1[i]? with
  | some (some (.lst ds,1))=>if ds.length<=1000 then some (.non,9,ρ1.set i (some (.lst (ds++[d]),1)))else none
  | _=>none
 | _=>none
 else none
theorem z1v {i:Nat} {x:Str} (h:PE X (.Name x p1) (x9n i)) (ha:PDA X [e] g)
  (hbase:attributeBase (.Name x p1) "append" X.env (eval (.Name x p1) X.env)=eval (.Name x p1) X.env:=by rfl)
  (hfew:((backTo cpos (starEach [e] X.env)).all (fun x=>!x.1) && (backToKw cpos (keywordEach [] X.env)).all (fun x=>x.1.isSome)
    && decide ([e].length+([]:List Keyword).length+(if([]:List Keyword).isEmpty then 0 else 1)<30))=true:=by rfl)
  (hline:(apos.endLine == cpos.line)=true:=by rfl) (hs:starEach [e] X.env=(false,eval e X.env)::starEach [] X.env:=by rfl) (hplain:(backTo cpos (starEach [] X.env)).any (·.1)=false:=by rfl) :
  PD X (.Call (.Attribute (.Name x p1) "append" apos) [e] [] cpos) (y27 i g):=
 PE.imp (z01 PySem.F.plainAttrs_list PySem.F.slot_list_append PySem.F.type_list_append y9l h ha hbase hfew hline hs hplain) fun σ H Q hh0=>by
 obtain⟨ρ,w,t,r',q,ρ',gd,ee,k⟩:=hh0
 unfold y27 at ee
 split at ee
 ·rename_i hl
  obtain⟨l,hσ,us,hq⟩:=gd.isL hl
  split at ee
  ·rename_i d ρ1 h1
   split at ee
   ·rename_i ds e1
    split at ee
    ·rename_i hlen
     cases ee
     refine⟨_,hσ,.inl ⟨rfl,us,hq⟩,ρ,w,t,_,_,gd,h1,fun vs H1 w1 g1 go1 r1=>?_⟩
     obtain⟨v,rfl,rv⟩:=one r1
     obtain⟨l',ws,hσ',hH,rs,mk⟩:=g1.mut e1
     rw[hσ]at hσ'
     cases hσ'
     have r2:Reps X.K H1 w1 .f 0 (ds++[d]) (ws++[v]) []:=Reps.snoc (F:=[]) (G:=[]) rv rs (fun _ z=>nomatch z)
     obtain⟨m1,m2⟩:=mk _ _ r2
     refine⟨l,ws,v,rfl,rfl,hH,by rw[<- rs.length]; exact x3q hlen,?_⟩
     exact k .non _ w1 [] m1.up (go1.trans m2) .non
    ·cases ee
   ·cases ee
  ·cases ee
 ·cases ee
theorem Reps.eraseIdx {K:PySem.W.Frag} {H:Hp} {w:Wn}:∀ {ds:List D} {vs:List V} (i:Nat),Reps K H w .f 0 ds vs []->Reps K H w .f 0 (ds.eraseIdx i) (vs.eraseIdx i) []
 | ds,vs,i,r=>by
  generalize hF:([]:List Addr)=F at r
  cases r with
  | nil=>exact .nil
  | @cons _ d v ds vs F G r s _=>
   have h1:F=[]:=r.zero
   have h2:G=[]:=s.zero
   subst h1 h2
   cases i with
   | zero=>exact s
   | succ j=>exact .cons (F:=[]) (G:=[]) r (Reps.eraseIdx j s) (fun _ z=>nomatch z)
@[simp] noncomputable def z9z (i:Nat) (g:x1o):Den:=fun ρ=>if y49 ρ[i]? = true then match g ρ with
 | some ([.int n],ρ1)=>match ρ1[i]? with
  | some (some (.lst ds,1))=>if -1000<=n/\n<=1000 then match seqIndex? n ds.length with
   | some j=>match ds[j]? with
    | some d=>some (d,x41 d,ρ1.set i (some (.lst (ds.eraseIdx j),1)))
    | none=>none
   | none=>none
   else none
  | _=>none
 | _=>none
 else none
theorem j02 {i:Nat} {x:Str} (h:PE X (.Name x p1) (x9n i)) (ha:PDA X [e] g)
  (hbase:attributeBase (.Name x p1) "pop" X.env (eval (.Name x p1) X.env)=eval (.Name x p1) X.env:=by rfl)
  (hfew:((backTo cpos (starEach [e] X.env)).all (fun x=>!x.1) && (backToKw cpos (keywordEach [] X.env)).all (fun x=>x.1.isSome)
    && decide ([e].length+([]:List Keyword).length+(if([]:List Keyword).isEmpty then 0 else 1)<30))=true:=by rfl)
  (hline:(apos.endLine == cpos.line)=true:=by rfl) (hs:starEach [e] X.env=(false,eval e X.env)::starEach [] X.env:=by rfl) (hplain:(backTo cpos (starEach [] X.env)).any (·.1)=false:=by rfl) :
  PD X (.Call (.Attribute (.Name x p1) "pop" apos) [e] [] cpos) (z9z i g):=
 PE.imp (z01 PySem.F.plainAttrs_list PySem.F.slot_list_pop PySem.F.type_list_pop z4z h ha hbase hfew hline hs hplain) fun σ H Q hh0=>by
 obtain⟨ρ,w,t,r',q,ρ',gd,ee,k⟩:=hh0
 unfold z9z at ee
 split at ee
 ·rename_i hl
  obtain⟨l,hσ,us,hq⟩:=gd.isL hl
  split at ee
  ·rename_i n ρ1 h1
   split at ee
   ·rename_i ds e1
    split at ee
    ·rename_i hn
     split at ee
     ·rename_i j hj
      split at ee
      ·rename_i d hd
       cases ee
       refine⟨_,hσ,.inl ⟨rfl,us,hq⟩,ρ,w,t,_,_,gd,h1,fun vs H1 w1 g1 go1 r1=>?_⟩
       obtain⟨v,rfl,rv⟩:=one r1
       have hv:=x39 rv
       subst hv
       obtain⟨l',ws,hσ',hH,rs,mk⟩:=g1.mut e1
       rw[hσ]at hσ'
       cases hσ'
       obtain⟨y,hy,ry⟩:=rs.get hd
       obtain⟨m1,m2⟩:=mk _ _ (rs.eraseIdx j)
       refine⟨l,ws,n,j,y,rfl,rfl,hH,by omega,by omega,by rw[<- rs.length]; exact hj,hy,?_⟩
       have ry':Rep X.K _ w1 (.t t) 0 r' y []:=Rep.go g1.wl m2.stab ry (fun _ z=>nomatch z)
       exact k y _ w1 [] m1.up (go1.trans m2) ry'.dep
      ·cases ee
     ·cases ee
    ·cases ee
   ·cases ee
  ·cases ee
 ·cases ee
end
theorem Reps.getQ {K:PySem.W.Frag} {H:Hp} {w:Wn} {o:Ow} {q:Nat}:∀ {ds:List D} {vs:List V} {F:List Addr} {i:Nat} {d:D},Reps K H w o q ds vs F->ds[i]? = some d->∃ v G,vs[i]? = some v/\Rep K H w o q d v G/\∀ a∈G,a∈F
 | _,_,_,_,_,.nil,e=>by simp at e
 | _,_,_,0,_,.cons r _ _,e=>by
  simp at e; subst e; exact⟨_,_,rfl,r,fun a m=>List.mem_append_left _ m⟩
 | _,_,_,i+1,d,.cons _ s _,e=>by
  obtain⟨v,G,h1,h2,h3⟩:=Reps.getQ (i:=i) (d:=d) s (by simpa using e)
  exact⟨v,G,by simpa using h1,h2,fun a m=>List.mem_append_right _ (h3 a m)⟩
theorem Reps.atQ {K:PySem.W.Frag} {H:Hp} {w:Wn} {o:Ow} {q:Nat} {ds:List D} {vs:List V} {F:List Addr} {i:Int} {d:D} (r:Reps K H w o q ds vs F) (h:L2.atI ds i=some d):∃ v G,L2.atI vs i=some v/\Rep K H w o q d v G/\∀ a∈G,a∈F:=by
 unfold L2.atI at h ⊢
 rw[<- r.length]
 cases e:ixN ds.length i with
 | none=>rw[e]at h; cases h
 | some j=>
  rw[e]at h
  exact r.getQ h
@[simp] noncomputable def x1z (n:Nat) (fb:Den):Den:=fun ρ=>match ρ[n]? with
 | some (some _)=>match fb ρ with
  | some (.int i,_,ρ2)=>match ρ2[n]? with
   | some (some (x,q))=>match atD x i with
    | some d=>if d.isL=true/\1<q/\x.isL=true then none else some (d,x41 d,ρ2)
    | none=>none
   | _=>none
  | _=>none
 | _=>none
section
variable {X:Cx} {a b c e:Expr} {es:List Expr} {fa fb fc f:Den} {g:x1o} {pos p p1 p2 cpos apos:Pos}
theorem j2e {n:Nat} {x:Str} (h:PE X (.Name x p1) (x9n n)) (hb:PD X b fb) (hs:x5m b:=by exact fun _ _=>rfl):PD X (.Subscript (.Name x p1) b pos) (x1z n fb):=PE.imp (z29 y7l h hb hs) fun σ H Q hh0=>by
 obtain⟨ρ,w,t,r',q,ρ',gd,ee,k⟩:=hh0
 unfold x1z at ee
 split at ee
 ·rename_i z0 e0
  obtain⟨d0,q0⟩:=z0
  obtain⟨v,F,hσ,_⟩:=gd.slot n d0 q0 e0
  split at ee
  ·rename_i i q2 ρ2 h2
   split at ee
   ·rename_i x q e2
    split at ee
    ·rename_i d hd
     split at ee
     ·cases ee
     ·rename_i hn
      cases ee
      refine⟨v,hσ,ρ,w,t,_,_,_,gd,h2,fun y H2 w2 F2 g2 go r2=>?_⟩
      have hy:=x39 r2
      subst hy
      have gg:=g2.drop (t':=t)
      obtain⟨v',F',hσ',rr⟩:=gg.slot n x q e2
      rw[hσ]at hσ'
      cases hσ'
      have fin:∀ u,Rep X.K H2 (x1x t w2) (.t t) 0 r' u []->Q u H2:=fun u ru=>k u H2 (x1x t w2) [] gg.up (go.drop gd.wt) ru.dep
      cases x with
      | lst ds=>
       by_cases hq0:q=0
       ·subst hq0
        obtain⟨p0,vs,rfl,hq,rs⟩:=rr.seqL0
        obtain⟨u,hu,ru⟩:=rs.atI hd
        exact .inl ⟨p0,vs,i,u,rfl,rfl,hq,hu,fin u (ru.any gg.wl)⟩
       ·by_cases hq1:q=1
        ·subst hq1
         cases rr with
         | own h0 _ rs _=>
          have z0:=rs.zero
          subst z0
          obtain⟨u,hu,ru⟩:=rs.atI hd
          exact .inl ⟨_,_,i,u,rfl,rfl,SqL.of h0,hu,fin u (ru.any gg.wl)⟩
        ·obtain⟨p0,vs,q',G,rfl,hq,rs⟩:=rr.seqL
         obtain⟨u,G',hu,ru,_⟩:=rs.atQ hd
         refine .inl ⟨p0,vs,i,u,rfl,rfl,hq,hu,fin u ?_⟩
         cases hL:r'.isL with
         | false=>exact((ru.nolist hL).2 0).any gg.wl
         | true=>exact absurd ⟨hL,by omega,rfl⟩ hn
      | tup ds=>
       obtain⟨p0,vs,rfl,hq,rs⟩:=rr.seqT
       obtain⟨u,hu,ru⟩:=rs.atI hd
       exact .inr (.inl ⟨p0,vs,i,u,rfl,rfl,hq,hu,fin u (ru.any gg.wl)⟩)
      | _=>cases hd
    ·cases ee
   ·cases ee
  ·cases ee
 ·cases ee
@[simp] noncomputable def y8y (fa fb:Den):Den:=fun ρ=>match fa ρ with
 | some (.lst ds,1,ρ1)=>match fb ρ1 with
  | some (.int n,_,ρ2)=>if -1000<=n/\n<=1000/\ds.length*n.toNat<=1000 then some (.lst (List.replicate n.toNat ds).flatten,1,ρ2)else none
  | _=>none
 | _=>none
theorem Reps.app {K:PySem.W.Frag} {H:Hp} {w:Wn} {es:List D} {us:List V} (s:Reps K H w .f 0 es us []):∀ {ds:List D} {vs:List V},Reps K H w .f 0 ds vs []->Reps K H w .f 0 (ds++es) (vs++us) []
 | ds,vs,r=>by
  generalize hF:([]:List Addr)=F at r
  cases r with
  | nil=>rw[<- hF]; exact s
  | @cons _ d v ds vs F G r t _=>
   have h1:F=[]:=r.zero
   have h2:G=[]:=t.zero
   subst h1 h2
   exact .cons (F:=[]) (G:=[]) r (Reps.app s t) (fun _ z=>nomatch z)
theorem Reps.times {K:PySem.W.Frag} {H:Hp} {w:Wn} {ds:List D} {vs:List V} (r:Reps K H w .f 0 ds vs []):∀ n:Nat,Reps K H w .f 0 (List.replicate n ds).flatten (List.replicate n vs).flatten []
 | 0=>.nil
 | n+1=>by
  rw[List.replicate_succ,List.replicate_succ,List.flatten_cons,List.flatten_cons]
  exact Reps.app (Reps.times r n) r
theorem z6r (ha:PD X a fa) (hb:PD X b fb):PD X (.BinOp a .Mult b pos) (y8y fa fb):=PE.imp (y3f j17 ha hb) fun σ H Q hh0=>by
 obtain⟨ρ,w,t,r',q,ρ',gd,ee,k⟩:=hh0
 unfold y8y at ee
 split at ee
 ·rename_i ds ρ1 h1
  split at ee
  ·rename_i n q2 ρ2 h2
   split at ee
   ·rename_i hn
    cases ee
    refine z5y gd h1 h2 fun u u' H2 w2 F1 F2 g2 go r1 r2=>?_
    have hu':=x39 r2
    subst hu'
    cases r1 with
    | @own _ l vs _ F hl hw rs ne=>
     have hF:=rs.zero
     subst hF
     have gg:=g2.drop (t':=t)
     have rs':Reps X.K H2 (x1x t w2) .f 0 ds vs []:=Reps.go g2.wl (fun a x h n=>⟨sm h,x6n n⟩) rs (fun _ z=>nomatch z)
     refine⟨l,n,vs,rfl,rfl,hl,by omega,by omega,?_,fun p hp=>?_⟩
     ·rw[<- rs.length]; exact x9q hn.2.2
     ·obtain⟨a1,a2,a3⟩:=y2k gg hp (rs'.times n.toNat)
      exact k _ _ _ _ a1 ((go.drop gd.wt).trans a2) a3
   ·cases ee
  ·cases ee
 ·cases ee
end
theorem Reps.row {K:PySem.W.Frag} {H:Hp} {w:Wn} {o:Ow} (wl:WL K w H):∀ {rows:List D} {vs:List V} {F:List Addr} {i:Nat} {row:List D},Reps K H w o 1 rows vs F->rows[i]? = some (.lst row)->
  ∃ b ws,vs[i]? = some (.ref b)/\H b=some (.lst ws)/\w b=some o/\b∈F/\Reps K H w .f 0 row ws [] /\
   ∀ row' ws',Reps K H w .f 0 row' ws' []->Reps K (upd H b (.lst ws')) w o 1 (rows.set i (.lst row')) vs F
 | _,_,_,_,_,.nil,e=>by simp at e
 | _,_,_,0,row,.cons r s ne,e=>by
  simp at e
  subst e
  cases r with
  | @own _ b ws _ F' hb hw rs nb=>
   have hF:=rs.zero
   subst hF
   refine⟨b,ws,rfl,hb,hw,by simp,rs.any wl,fun row' ws' r'=>?_⟩
   have nn:∀ a,w a=none->a≠b:=fun a e z=>by subst z; rw[hw]at e; cases e
   have st:x79 H w (upd H b (.lst ws')) w:=fun a x h n=>⟨sm (by rw[x0p (nn a n)]; exact h),n⟩
   refine .cons (.own x21 hw (Reps.go wl st r' (fun _ z=>nomatch z)) (fun z=>nomatch z)) (Reps.go wl st s fun a m=>⟨x0p fun z=>?_,s.owns a m⟩) ne
   subst z
   exact ne a (by simp) m
 | _,_,_,i+1,row,.cons (d:=d) (v:=v) (F:=F) (G:=G) r s ne,e=>by
  obtain⟨b,ws,h1,h2,h3,h4,h5,mk⟩:=Reps.row wl (i:=i) (row:=row) s (by simpa using e)
  refine⟨b,ws,by simpa using h1,h2,h3,List.mem_append_right _ h4,h5,fun row' ws' r'=>?_⟩
  have nn:∀ a,w a=none->a≠b:=fun a e z=>by subst z; rw[h3]at e; cases e
  have st:x79 H w (upd H b (.lst ws')) w:=fun a x h n=>⟨sm (by rw[x0p (nn a n)]; exact h),n⟩
  refine .cons (Rep.go wl st r fun a m=>⟨x0p fun z=>?_,r.owns a m⟩) (mk row' ws' r') ne
  subst z
  exact ne a m h4
theorem Good.mut2 {K:PySem.W.Frag} {ρ:Rho} {σ:St} {H:Hp} {w:Wn} {t i m:Nat} {rows row:List D} (g:Good K ρ σ H w t) (e:ρ[i]? = some (some (.lst rows,2))) (em:rows[m]? = some (.lst row)) :
  ∃ l vs b ws,σ[i]? = some (some (.ref l))/\SqL K H l vs/\vs.length=rows.length/\vs[m]? = some (.ref b)/\H b=some (.lst ws)/\Reps K H w .f 0 row ws []/\∀ row' ws',Reps K H w .f 0 row' ws' []->
   Good K (ρ.set i (some (.lst (rows.set m (.lst row')),2))) σ (upd H b (.lst ws')) w t/\Go H w (upd H b (.lst ws')) w:=by
 obtain⟨v,F,h1,h2⟩:=g.slot i _ _ e
 cases h2 with
 | @own _ l vs _ F' hl hw rs nl=>
  obtain⟨b,ws,b1,b2,b3,b4,b5,mk⟩:=Reps.row g.wl rs em
  have hbl:l≠b:=fun z=>by subst z; exact nl b4
  refine⟨l,vs,b,ws,h1,SqL.of hl,rs.length.symm,b1,b2,b5,fun row' ws' r'=>?_⟩
  have nl':∀ a o,w a=some o->o ≠ .s i->a≠b:=fun a o e n z=>by subst z; rw[b3]at e; exact n (Option.some.inj e).symm
  have nn:∀ a,w a=none->a≠b:=fun a e z=>by subst z; rw[b3]at e; cases e
  have st:x79 H w (upd H b (.lst ws')) w:=fun a x h n=>⟨sm (by rw[x0p (nn a n)]; exact h),n⟩
  refine⟨⟨⟨fun a o h=>?_,g.wl.tb.upd rfl (.inr (g.wl b _ b3))⟩,g.ws,g.wt,by rw[List.length_set]; exact g.len,fun j d' q' e'=>?_⟩,⟨st,fun a o h n=>⟨x0p (nl' a o h (n i)),h⟩⟩⟩
  ·by_cases z:a=b
   ·subst z; exact⟨_,x21⟩
   ·obtain⟨us,q⟩:=g.wl a o h
    exact⟨us,by rw[x0p z]; exact q⟩
  ·by_cases hj:i=j
   ·subst hj
    rw[List.getElem?_set_self (List.getElem?_eq_some_iff.mp e).1]at e'
    cases e'
    exact⟨_,_,h1,.own (by rw[x0p hbl]; exact hl) hw (mk row' ws' r') nl⟩
   ·rw[List.getElem?_set_ne hj]at e'
    obtain⟨v',F',h1',h2'⟩:=g.slot j d' q' e'
    exact⟨v',F',h1',Rep.go g.wl st h2' fun a m=>⟨x0p (nl' a _ (h2'.owns a m) (fun z=>hj (by cases z; rfl))),h2'.owns a m⟩⟩
theorem Reps.set0 {K:PySem.W.Frag} {H:Hp} {w:Wn} {d:D} {v:V} (rv:Rep K H w .f 0 d v []):∀ {ds:List D} {vs:List V} (i:Nat),Reps K H w .f 0 ds vs []->Reps K H w .f 0 (ds.set i d) (vs.set i v) []
 | ds,vs,i,r=>by
  generalize hF:([]:List Addr)=F at r
  cases r with
  | nil=>rw[<- hF]; exact .nil
  | @cons _ d' v' ds vs F G r s _=>
   have h1:F=[]:=r.zero
   have h2:G=[]:=s.zero
   subst h1 h2
   cases i with
   | zero=>exact .cons (F:=[]) (G:=[]) rv s (fun _ z=>nomatch z)
   | succ j=>exact .cons (F:=[]) (G:=[]) r (Reps.set0 rv j s) (fun _ z=>nomatch z)
noncomputable abbrev y56:=Rho->Option Int
noncomputable def tQ (K:PySem.W.Frag) (f:y56):TE:=fun σ H Q=>∃ ρ w t i,Good K ρ σ H w t/\f ρ=some i/\Q (.int i) H
noncomputable abbrev PQ (X:Cx) (e:Expr) (f:y56):Prop:=PE X e (tQ X.K f)
@[simp] noncomputable def z66 (n:Nat):y56:=fun ρ=>match ρ[n]? with
 | some (some (.int i,_))=>some i
 | _=>none
@[simp] noncomputable def qIx (n:Nat) (f:y56):y56:=fun ρ=>match f ρ with
 | some i=>match ρ[n]? with
  | some (some (x,_))=>match atD x i with
   | some (.int j)=>some j
   | _=>none
  | _=>none
 | none=>none
section
variable {X:Cx} {a b c e:Expr} {es:List Expr} {fa fb fc f:Den} {qa qb:y56} {g:x1o} {pos p p1 p2 cpos apos:Pos}
theorem j45 {n:Nat} {x:Str} (h:PE X (.Name x p1) (x9n n)):PQ X (.Name x p1) (z66 n):=PE.imp h fun σ H Q hh0=>by
 obtain⟨ρ,w,t,i,gd,ee,k⟩:=hh0
 unfold z66 at ee
 split at ee
 ·rename_i j q e0
  cases ee
  obtain⟨v,F,h1,h2⟩:=gd.slot n _ _ e0
  rw[x39 h2]at h1
  exact⟨_,h1,k⟩
 ·cases ee
theorem j5z {n:Nat} {x:Str} (h:PE X (.Name x p1) (x9n n)) (hb:PQ X b qb) (hs:x5m b:=by exact fun _ _=>rfl):PQ X (.Subscript (.Name x p1) b pos) (qIx n qb):=PE.imp (z29 y7l h hb hs) fun σ H Q hh0=>by
 obtain⟨ρ,w,t,i,gd,ee,k⟩:=hh0
 unfold qIx at ee
 split at ee
 ·rename_i i0 h0
  split at ee
  ·rename_i x q e0
   split at ee
   ·rename_i j hj
    cases ee
    obtain⟨v,F,h1,h2⟩:=gd.slot n _ _ e0
    refine⟨v,h1,ρ,w,t,i0,gd,h0,?_⟩
    cases x with
    | lst ds=>
     obtain⟨p0,vs,q',G,rfl,hq,rs⟩:=h2.seqL
     obtain⟨u,G',hu,ru,_⟩:=rs.atQ hj
     rw[x39 ru]at hu
     exact .inl ⟨p0,vs,i0,_,rfl,rfl,hq,hu,k⟩
    | tup ds=>
     obtain⟨p0,vs,rfl,hq,rs⟩:=h2.seqT
     obtain⟨u,hu,ru⟩:=rs.atI hj
     rw[x39 ru]at hu
     exact .inr (.inl ⟨p0,vs,i0,_,rfl,rfl,hq,hu,k⟩)
    | _=>cases hj
   ·cases ee
  ·cases ee
 ·cases ee
@[simp] noncomputable def y8r (n:Nat) (qi qj:y56) (fe:Den):x1d:=fun ρ=>match fe ρ with
 | some (d,_,ρ1)=>match qi ρ1,qj ρ1,ρ1[n]? with
  | some i,some j,some (some (.lst rows,2))=>match ixN rows.length i with
   | some m=>match rows[m]? with
    | some (.lst row)=>match ixN row.length j with
     | some k=>some (.nx (ρ1.set n (some (.lst (rows.set m (.lst (row.set k d))),2))))
     | none=>none
    | _=>none
   | none=>none
  | _,_,_=>none
 | none=>none
theorem z38 {n:Nat} {x:Str} (h:PE X (.Name x p1) (x9n n)) (ha:PQ X a qa) (hb:PQ X b qb) (he:PD X e f) (hi:x5m a:=by exact fun _ _=>rfl)
  (hasg:∀ v,assign (.Subscript (.Subscript (.Name x p1) a p2) b p) X.env v=(do
    let ov <- holding [v] (eval (.Subscript (.Name x p1) a p2) X.env)
    let iv <- holding [v,ov] (eval b X.env)
    standAt p
    holding [v,ov,iv] (setItem ov iv v)
    release [v,ov,iv] []):=by exact fun _=>rfl)
  (hs:swapsWithSole [.Subscript (.Subscript (.Name x p1) a p2) b p] e pos.line X.env=pure false:=by rfl) :
  PDS X (.Assign [.Subscript (.Subscript (.Name x p1) a p2) b p] e pos) (y8r n qa qb f):=by
 refine PS.imp (z5s he (j29 (z29 y7l h ha hi) hb z3z hasg) hs) fun D σ H ⟨ρ,w,o,gd,ee,k⟩=>?_
 unfold y8r at ee
 split at ee
 ·rename_i d q0 ρ1 h1
  split at ee
  ·rename_i i j rows hi hj er
   split at ee
   ·rename_i m hm
    split at ee
    ·rename_i row erow
     split at ee
     ·rename_i kk hk
      cases ee
      refine⟨ρ,w,0,d,q0,ρ1,gd,h1,fun v H1 w1 F1 g1 go1 r1=>?_⟩
      have rv:=r1.drop (o:=.f) (Nat.le_refl 0)
      have gg:=g1.drop (t':=0)
      obtain⟨l,vs,b0,ws,m1,m2,m3,m4,m5,m6,mk⟩:=gg.mut2 er erow
      refine⟨_,m1,ρ1,x1x 0 w1,0,i,gg,hi,.inl ⟨l,vs,i,.ref b0,rfl,rfl,m2,?_,ρ1,x1x 0 w1,0,j,gg,hj,b0,ws,j,kk,rfl,rfl,m5,?_,?_⟩⟩
      ·unfold atI; rw[m3,hm]; exact m4
      ·rw[<- m6.length]; exact hk
      ·obtain⟨n1,n2⟩:=mk _ _ (m6.set0 rv kk)
       exact k _ _ _ rfl n1 ((go1.drop gd.wt).trans n2)
     ·cases ee
    ·cases ee
   ·cases ee
  ·cases ee
 ·cases ee
end
@[simp] noncomputable def y7k (fa fb:Den):Den:=fun ρ=>match fa ρ with
 | some (.bl b,_,ρ1)=>if b=true then fb ρ1 else some (.bl false,9,ρ1)
 | _=>none
@[simp] noncomputable def eOr (fa fb:Den):Den:=fun ρ=>match fa ρ with
 | some (.bl b,_,ρ1)=>if b=true then some (.bl true,9,ρ1)else fb ρ1
 | _=>none
@[simp] noncomputable def j47 (fa:Den):Den:=fun ρ=>match fa ρ with
 | some (.bl b,_,ρ1)=>some (.bl (!b),9,ρ1)
 | _=>none
section
variable {X:Cx} {a b c e:Expr} {es rest:List Expr} {fa fb fc f:Den} {g:x1o} {pos p p1 p2 cpos apos:Pos}
theorem j20 {op} (h:PD X a fa):PD X (.BoolOp op [a] pos) fa:=j1f h
theorem j03 (ha:PD X a fa) (hb:PD X (.BoolOp .And (b::rest) pos) fb):PD X (.BoolOp .And (a::b::rest) pos) (y7k fa fb):=PE.imp (j2b ha hb) fun σ H Q hh0=>by
 obtain⟨ρ,w,t,r',q,ρ',gd,ee,k⟩:=hh0
 unfold y7k at ee
 split at ee
 ·rename_i b' q1 ρ1 h1
  refine⟨ρ,w,t,_,_,_,gd,h1,fun v H1 w1 F1 g1 go1 r1=>?_⟩
  cases r1
  refine⟨b',rfl,?_⟩
  split at ee
  ·rename_i hb; rw[if_pos hb]
   exact⟨ρ1,x1x t w1,t,r',q,ρ',g1.drop,ee,fun v H2 w2 F g2 go2=>k v H2 w2 F g2 ((go1.drop gd.wt).trans go2)⟩
  ·rename_i hb; rw[if_neg hb]
   cases ee
   exact k _ H1 w1 [] g1 go1 (.bl false)
 ·cases ee
theorem j4i (ha:PD X a fa) (hb:PD X (.BoolOp .Or (b::rest) pos) fb):PD X (.BoolOp .Or (a::b::rest) pos) (eOr fa fb):=PE.imp (j50 ha hb) fun σ H Q hh0=>by
 obtain⟨ρ,w,t,r',q,ρ',gd,ee,k⟩:=hh0
 unfold eOr at ee
 split at ee
 ·rename_i b' q1 ρ1 h1
  refine⟨ρ,w,t,_,_,_,gd,h1,fun v H1 w1 F1 g1 go1 r1=>?_⟩
  cases r1
  refine⟨b',rfl,?_⟩
  split at ee
  ·rename_i hb; rw[if_pos hb]
   cases ee
   exact k _ H1 w1 [] g1 go1 (.bl true)
  ·rename_i hb; rw[if_neg hb]
   exact⟨ρ1,x1x t w1,t,r',q,ρ',g1.drop,ee,fun v H2 w2 F g2 go2=>k v H2 w2 F g2 ((go1.drop gd.wt).trans go2)⟩
 ·cases ee
theorem j13 (ha:PD X a fa):PD X (.UnaryOp .Not a pos) (j47 fa):=PE.imp (j30 ha) fun σ H Q hh0=>by
 obtain⟨ρ,w,t,r',q,ρ',gd,ee,k⟩:=hh0
 unfold j47 at ee
 split at ee
 ·rename_i b' q1 ρ1 h1
  cases ee
  refine⟨ρ,w,t,_,_,_,gd,h1,fun v H1 w1 F1 g1 go1 r1=>?_⟩
  cases r1
  exact⟨b',rfl,k _ H1 w1 [] g1 go1 (.bl _)⟩
 ·cases ee
end
section
variable {es rest:List Expr} {a b c e:Expr} {pos:Pos} {env:Env}
theorem x0w {op}:starEach (.BinOp a op b pos::rest) env=(false,eval (.BinOp a op b pos) env)::starEach rest env:=by simp only[starEach]
theorem x8w {op}:starEach (.UnaryOp op a pos::rest) env=(false,eval (.UnaryOp op a pos) env)::starEach rest env:=by simp only[starEach]
theorem z2g:starEach (.IfExp a b c pos::rest) env=(false,eval (.IfExp a b c pos) env)::starEach rest env:=by simp only[starEach]
theorem x40 {g sc}:starEach (.ListComp a g sc pos::rest) env=(false,eval (.ListComp a g sc pos) env)::starEach rest env:=by simp only[starEach]
theorem y8u {o}:starEach (.Compare a o es pos::rest) env=(false,eval (.Compare a o es pos) env)::starEach rest env:=by simp only[starEach]
theorem x0n {k}:starEach (.Call a es k pos::rest) env=(false,eval (.Call a es k pos) env)::starEach rest env:=by simp only[starEach]
theorem x04 {v k}:starEach (.Constant v k pos::rest) env=(false,eval (.Constant v k pos) env)::starEach rest env:=by simp only[starEach]
theorem x0r:starEach (.Subscript a b pos::rest) env=(false,eval (.Subscript a b pos) env)::starEach rest env:=by simp only[starEach]
theorem x05 {x}:starEach (.Name x pos::rest) env=(false,eval (.Name x pos) env)::starEach rest env:=by simp only[starEach]
theorem x7b:starEach (.List es pos::rest) env=(false,eval (.List es pos) env)::starEach rest env:=by simp only[starEach]
theorem x0v {k}:starEach (.Tuple es k pos::rest) env=(false,eval (.Tuple es k pos) env)::starEach rest env:=by simp only[starEach]
end
noncomputable def At (K:PySem.W.Frag) (mg:Str->Option Value) (x:Str) (st:Stmt) (ps:List Str):Prop:=
 ∃ f fd,Fun K x x st f fd/\mg x=some (.ref f)/\y37 K fd ps []
noncomputable def Cal (P:Program) (w:World) (K:PySem.W.Frag) (mg:Str->Option Value) (base:Heap) (k:Nat) (x:Str) (n:Nat) (F:List D->Option (D × Nat)):Prop:=
 ∃ f fd ps,FnOk P w K mg base CX0 k f fd ps (spD K n F)/\mg x=some (.ref f)/\PySem.W.keepIn K (.ref f)=true/\y37 K fd ps []
theorem Cal.mk {P:Program} {w:World} {K:PySem.W.Frag} {mg:Str->Option Value} {base:Heap} {k:Nat} {x:Str} {st:Stmt} {N ps:List Str} {body:x1d} (a:At K mg x st ps) (S:FnScope N ps (x0b st))
  (h:∀ (f:Addr) (cdv:Value) (A:Around) (outer:List Env) (s:Shared) (H:Hp) (E:XK),Room k (A.deeper (envOfC x (x0b st) s.heap.objs.size f cdv))->y8p (y94 CX0 P w K mg base N x (x0b st) f cdv A outer s H E).nox (x36 st) body) :
  Cal P w K mg base (k+1) x ps.length (fnD N.length body):=by
 obtain⟨f,fd,F,m,b⟩:=a
 exact⟨f,fd,ps,j27 F S (h f),m,F.kp,b⟩
section
variable {X:Cx} {a b c e:Expr} {es rest:List Expr} {fa fb fc f:Den} {g:x1o} {pos p p1 p2 cpos apos:Pos}
theorem z2y {j k n:Nat} {x:Str} {F:List D->Option (D × Nat)} (C:Cal X.prog X.w X.K X.mg X.base k x n F) (hr:Room j X.A) (hk:k<=j) (ha:PDA X (e::es) g)
  (hg:Gl X x:=by rfl) (hdb:(x == ("__debug__":Str))=false:=by decide) (he:starEach (e::es) X.env=(false,eval e X.env)::starEach es X.env:=by rfl) (hpl:(backTo pos (starEach es X.env)).any (·.1)=false:=by rfl) :
  PD X (.Call (.Name x p) (e::es) [] pos) (x0f F n g):=by
 obtain⟨f,fd,ps,G,hm,hkp,hb⟩:=C
 exact z2s G (hr.mono hk) hm hkp hb j1v ha hg hdb he hpl
end
theorem j0m {K:PySem.W.Frag} {F:List D->Option (D × Nat)} (h:∀ ns:List Int,ns.length<=63->∃ q,F [.lst (ns.map D.int)]=some (.bl true,q)) {H:Hp} {a:Addr} {ns:List Int} (hl:ns.length<=63) (hS:SqL K H a (ns.map V.int)) (tb:TB K H) {E:XK} :
  spD K 1 F [.ref a] H (fun v _=>v=.bl true) E:=by
 obtain⟨q,e⟩:=h ns hl
 have r:Rep K H (fun _=>none) .f 0 (.lst (ns.map D.int)) (.ref a) []:=by
  rcases SqL.cases hS with z | z
  ·exact .shr z rfl (x87 ns)
  ·exact .kl z (x87 ns)
 exact⟨rfl,[.lst (ns.map D.int)],fun _=>none,.bl true,q,(fun a o z=>nomatch z),⟨(fun a o z=>nomatch z),tb⟩,.cons (F:=[]) (G:=[]) r .nil (fun _ z=>nomatch z),e,fun v H' w' Fo _ _ rr=>by cases rr; rfl⟩
theorem j12 {P:Program} {w:World} {K:PySem.W.Frag} {mg:Str->Option Value} {base:Heap} {k:Nat} {x:Str} {st:Stmt} {N ps:List Str} {body:x1d} {f:Addr} {fd:FuncData} (F:Fun K x x st f fd) (S:FnScope N ps (x0b st))
  (h:∀ (f:Addr) (cdv:Value) (A:Around) (outer:List Env) (s:Shared) (H:Hp) (E:XK),Room k (A.deeper (envOfC x (x0b st) s.heap.objs.size f cdv))->y8p (y94 CX0 P w K mg base N x (x0b st) f cdv A outer s H E).nox (x36 st) body) :
  FnOk P w K mg base CX0 (k+1) f fd ps (spD K ps.length (fnD N.length body)):=j27 F S (h f)
section
variable {prog:Program} {w:World} {A:Around} {E:Value->Shared->Prop} {s:Shared}
theorem y8m {j p:Addr} {n:Nat} {vs:Array Value} {v:Value} {Q:Value->Shared->Prop} (a:s.heap.IsTupleIter j p n) (b:s.heap.IsTuple p vs) (c:vs[n]? = some v)
  (k:∀ g:Heap,g.IsTupleIter j p (n+1)->Heap.SameBut j s.heap g->Q v { s with heap:=g }):wpAny (model prog w) A (Builtin.SmallTypes.nextOf (.ref j)) Q E s:=by
 obtain⟨oj,ej,kj,dj⟩:=id a
 obtain⟨op,ep,_,mp,dp⟩:=b
 unfold Builtin.SmallTypes.nextOf
 refine wpAny_bind (wpAny_callSpecial?_slot (name:=Str.ofString "__next__") a.typeIs F.slot_tuple_iterator_next (wpAny_call_entry F.slot_tuple_iterator_next a.typeIs F.entry_tuple_iterator_next ?_ (F.args_tuple_iterator_next_1 _)))
 show wpAny _ _ (field (.ref j) 0 >>= _) _ _ s
 refine wpAny_bind (wpAny_field ej dj (x:=.ref p) rfl ?_)
 show wpAny _ _ (if(Value.ref p == Value.none)=true then _ else _) _ _ s
 rw[if_neg (show ¬ ((Value.ref p == Value.none)=true)from Bool.false_ne_true)]
 show wpAny _ _ (field (.ref j) 1 >>= _) _ _ s
 refine wpAny_bind (wpAny_field ej dj (x:=.int n 0) rfl ?_)
 show wpAny _ _ (seqItems? (.ref p) >>= _) _ _ s
 refine wpAny_bind (wpAny_seqItems ep dp ?_)
 simp only[Int.toNat_natCast,c]
 refine wpAny_bind (wpAny_setField ej dj (by simp) (wpAny_pure ⟨v,rfl,wpAny_pure (k _ ⟨_,Heap.get?_update_self _ ej (Obj.isFreed_of_fields (Obj.data_mapFields dj _)),(Obj.cls_mapFields ..).trans kj,?_⟩ (Heap.SameBut.update ..))⟩))
 rw[Obj.data_mapFields dj]
 simp[rawInt]
theorem z04 {j p:Addr} {n:Nat} {vs:Array Value} {Q:Value->Shared->Prop} (hh:A.handled=none) (a:s.heap.IsTupleIter j p n) (b:s.heap.IsTuple p vs) (c:vs[n]? = none)
  (k:∀ (g:Heap) x,Heap.ExtBut j s.heap g->(∃ o,g.get? x=some o/\o.cls=.type "StopIteration")->E (.ref x) { s with heap:=g }):wpAny (model prog w) A (Builtin.SmallTypes.nextOf (.ref j)) Q E s:=by
 obtain⟨oj,ej,kj,dj⟩:=id a
 obtain⟨op,ep,_,mp,dp⟩:=b
 unfold Builtin.SmallTypes.nextOf
 refine wpAny_bind (wpAny_callSpecial?_slot (name:=Str.ofString "__next__") a.typeIs F.slot_tuple_iterator_next (wpAny_call_entry F.slot_tuple_iterator_next a.typeIs F.entry_tuple_iterator_next ?_ (F.args_tuple_iterator_next_1 _)))
 show wpAny _ _ (field (.ref j) 0 >>= _) _ _ s
 refine wpAny_bind (wpAny_field ej dj (x:=.ref p) rfl ?_)
 show wpAny _ _ (if(Value.ref p == Value.none)=true then _ else _) _ _ s
 rw[if_neg (show ¬ ((Value.ref p == Value.none)=true)from Bool.false_ne_true)]
 show wpAny _ _ (field (.ref j) 1 >>= _) _ _ s
 refine wpAny_bind (wpAny_field ej dj (x:=.int n 0) rfl ?_)
 show wpAny _ _ (seqItems? (.ref p) >>= _) _ _ s
 refine wpAny_bind (wpAny_seqItems ep dp ?_)
 simp only[Int.toNat_natCast,c]
 refine wpAny_bind (wpAny_rule (wpAny_bind (wpAny_setField ej dj (by simp) ?_)))
 show wpAny _ _ (newExc (.type "StopIteration") [] >>= _) _ _ _; refine wpAny_bind ?_; simp only[newExc,newTuple]
 refine wpAny_bind (wpAny_newObj_type ?_ (by size_fits)); refine wpAny_bind (m:=firstArgMember _ _) (wpAny_of_eq (a:=Value.none) (by first | rfl | (simp only[firstArgMember]; rfl)) (wpAny_newObj_type ?_ (by size_fits)))
 simp only[raiseNew]
 refine wpAny_bind (wpAny_handled ?_); first | rw[show A.in1.handled=none from hh] | rw[hh]
 exact wpAny_bind (wpAny_pure (wpAny_throw (k _ _ (((Heap.SameBut.update ..).extBut.push _).push _) ⟨_,Heap.get?_push_size _ rfl,rfl⟩)))
end
theorem z7g {X:Cx} {pins:List (Addr × Obj)} {σ:St} {H:Hp} {s:Shared} {h':Heap} {t':Nat} {ch:List Addr} (I:Inv X pins σ H s) (k:∀ b o,b ∉ ch->s.heap.get? b=some o->h'.get? b=some o) (hf:∀ b∈ch,y9a X pins H b) :
  Inv X pins σ H { s with heap:=h',toks:=t' }:=by
 have nit:∀ b u,H b=some u->b ∉ ch:=fun b u e z=>by rw[(hf b z).1]at e; cases e
 refine I.step (g':=s.gens) (d':=s.drawn) (ch:=ch) (fun b hb=>?_) (fun b o _ _ hc e _=>k b o hc e) (fun b o _ _ hc e _=>⟨o.slots,k b o hc e⟩) (fun _ _ _ _ n=>n)
  (fun b o hc e=>⟨o,k b o hc e⟩) (fun _ _ e=>e) (fun _ _ _ e=>e) (fun b ps e=>⟨#[],by rw[e]; simp⟩) (fun m hm=>?_) (fun b u e=>?_) I.bare
 ·obtain⟨f0,f1,f2,f3,f4,f5⟩:=hf b hb
  exact⟨f3,f1,f4,f5⟩
 ·obtain⟨o,es,ep,ho,r⟩:=hm
  exact⟨o,es,ep,k _ o (fun z=>(hf _ z).2.1 rfl) ho,r⟩
 ·refine(I.hok b u e).stay (fun c v hc q=>k c v ?_ q) (fun _ q=>q) fun _ _ q=>q
  rcases hc with z | z
  ·rw[z]; exact nit b u e
  ·exact nit c _ z
section
variable {X:Cx} {a b c e:Expr} {es elts:List Expr} {fa fb fc f:Den} {g:x1o} {pos p p1 p2 tp:Pos} {kt:Nat}
@[simp] noncomputable def j7t (g:x1o):y1v:=fun ρ=>match g ρ with
 | some ([.tup ds,.tup es],ρ1)=>if ds.length<=1000 then some ((ds.zip es).map fun x=>.tup [x.1,x.2],ρ1)else none
 | _=>none
end
noncomputable abbrev x8m:=List D->Rho->Option Rho
noncomputable def j7o (K:PySem.W.Frag) (b:Nat) (pt:x8m):TGs:=fun vs σ H Q=>∃ ds ρ w t ρ',Good K ρ σ H w t/\Reps K H w .f 0 ds vs []/\pt ds ρ=some ρ'/\∀ σ' H' w',σ'.length=σ.length->(∀ i,i<b->σ'[i]? = σ[i]?)->Good K ρ' σ' H' w' t->Go H w H' w'->Q σ' H'
theorem PGs.imp {X:Cx} {tg:List Expr} {t t':TGs} (h:PGs X tg t) (i:∀ v σ H Q,t' v σ H Q->t v σ H Q):PGs X tg t':=fun pins s σ H v u Q I r q=>h pins s σ H v u Q I r (i v σ H Q q)
noncomputable abbrev j3v (X:Cx) (b:Nat) (tg:List Expr) (pt:x8m):Prop:=PGs X tg (j7o X.K b pt)
@[simp] noncomputable def y1t:x8m:=fun ds ρ=>match ds with
 | []=>some ρ
 | _=>none
@[simp] noncomputable def x2j (pt:x5s) (ps:x8m):x8m:=fun ds ρ=>match ds with
 | []=>none
 | d::r=>match pt d ρ with
  | some ρ1=>ps r ρ1
  | none=>none
@[simp] noncomputable def z5l (ps:x8m):x5s:=fun d ρ=>match d with
 | .tup ds=>ps ds ρ
 | _=>none
section
variable {X:Cx} {k b:Nat} {e:Expr} {es:List Expr} {pt:x5s} {ps:x8m} {pos:Pos}
theorem z2a:j3v X b [] y1t:=PGs.imp z87 fun v σ H Q hh0=>by
 obtain⟨ds,ρ,w,t,ρ',g,r,e,k⟩:=hh0
 unfold y1t at e
 split at e
 ·cases e
  generalize hF:([]:List Addr)=F at r
  cases r
  exact⟨rfl,k σ H w rfl (fun _ _=>rfl) g Go.refl⟩
 ·cases e
theorem z0q (h1:PDG X b e pt) (h2:j3v X b es ps) (hs:(assignEach (e::es) X.env).map (·.2)=assign e X.env::(assignEach es X.env).map (·.2):=by rfl):j3v X b (e::es) (x2j pt ps):=PGs.imp (z2e h1 h2 hs) fun v σ H Q hh0=>by
 obtain⟨ds,ρ,w,t,ρ',g,r,e,k⟩:=hh0
 unfold x2j at e
 split at e
 ·cases e
 ·rename_i d rest
  split at e
  ·rename_i ρ1 h1
   generalize hF:([]:List Addr)=F at r
   cases r with
   | cons ra rb _=>
    have z1:=ra.zero
    have z2:=rb.zero
    subst z1 z2
    refine⟨_,_,rfl,d,ρ,w,t,ρ1,g,ra,h1,fun σ1 H1 w1 l1 s1 g1 go1=>⟨rest,ρ1,w1,t,ρ',g1,rb.go0 g.wl go1.stab,e,fun σ2 H2 w2 l2 s2 g2 go2=>k σ2 H2 w2 (l2.trans l1) (fun i hi=>(s2 i hi).trans (s1 i hi)) g2 (go1.trans go2)⟩⟩
  ·cases e
theorem z89 {n:Nat} (hc:X.calm=true) (h:j3v X b es ps) (hl:∀ ds ρ ρ',ps ds ρ=some ρ'->ds.length=n) (hn:(assignEach es X.env).length=n:=by rfl) (hst:(assignEach es X.env).findIdx? (·.1)=none:=by rfl):PDG X b (.Tuple es k pos) (z5l ps):=PG.imp (j1p hc h hn hst) fun v σ H Q hh0=>by
 obtain⟨d,ρ,w,t,ρ',g,r,e,k⟩:=hh0
 unfold z5l at e
 split at e
 ·rename_i ds
  obtain⟨a,vs,rfl,hq,rs⟩:=r.seqT
  exact⟨a,vs,rfl,hq,by rw[<- rs.length]; exact hl _ _ _ e,ds,ρ,w,t,ρ',g,rs,e,k⟩
 ·cases e
theorem z1c {p q:x5s}:∀ ds ρ ρ',x2j p (x2j q y1t) ds ρ=some ρ'->ds.length=2:=fun ds ρ ρ' h=>by
 match ds with
 | []=>cases h
 | [_]=>unfold x2j at h; simp at h; split at h <;> cases h
 | [_,_]=>rfl
 | _::_::_::_=>
  exfalso
  unfold x2j at h
  simp at h
  split at h
  ·split at h <;> cases h
  ·cases h
end
theorem y42:∀ {bs:List Bool} {us:List Value},x2h (bs.map V.bl) us->LSm.BoolsAre us bs
 | [],_,h=>by cases h; exact .nil
 | b::bs,_,h=>by
  cases h with
  | cons r rr=>
   cases r
   exact .cons b (y42 rr)
section
variable {X:Cx} {a b c e:Expr} {es:List Expr} {fa fb fc f:Den} {g:x1o} {pos p p1 p2:Pos}
theorem z4x (hc:X.calm=true):x94 X (.builtin "all") (fun xs H Q=>∃ (a:Addr) (bs:List Bool),xs=[.ref a]/\SqL X.K H a (bs.map V.bl)/\Q (.bl (bs.all id)) H):=by
 intro pins s σ H xs us Q I r h
 obtain⟨l,bs,rfl,hq,q⟩:=h
 obtain⟨u,rfl,ru⟩:=y3h r
 cases ru
 obtain⟨its,rv,pl,hz⟩:=I.list hq
 have hb:=y42 rv
 have hl:s.heap.IsList l its.toArray:=pl.isList
 have lt:l<s.heap.objs.size:=by obtain⟨_,e,_⟩:=hl; exact Heap.lt_size e
 refine call_all_walk (wpAny_pyIter_list hl ⟨s.heap.objs.size,[s.heap.objs.size,l],[s.heap.objs.size],its.toArray.size,_,_,fun i=>(bs[i]?).getD true,rfl,Walks.list (A:=X.A.in1) (I.ok.hd hc) _ l (Nat.ne_of_lt lt) its.toArray,
  ⟨⟨_,Heap.get?_push_size _ rfl,rfl,rfl⟩,hl.push _⟩,fun i v s' Q' E' hP hQ=>?_,fun h' tk hk=>?_⟩)
 ·obtain⟨b,e,rfl⟩:=hb.get i v (by simpa using hP)
  simp only[e,Option.getD_some]at hQ
  exact wpAny_truthy_bool hQ
 ·have e:((List.range its.toArray.size).all fun i=>(bs[i]?).getD true)=bs.all id:=by
   rw[List.size_toArray,hb.length]; exact LSm.range_all bs
  rw[e]
  exact⟨.bl (bs.all id),H,I.kept fun b o z=>hk b o (fun m=>by rw[List.mem_singleton.mp m]at z; exact Nat.lt_irrefl _ (Heap.lt_size z)) (Heap.get?_push_of_some _ z),rfl,q⟩
noncomputable def z6a:List D->Option (List Bool)
 | []=>some []
 | .bl b::r=>(z6a r).map (b :: ·)
 | _=>none
noncomputable def z3v:List D->Option D
 | [.lst ds]=>(z6a ds).map fun bs=>.bl (bs.all id)
 | _=>none
theorem y4j {K:PySem.W.Frag} {H:Hp} {w:Wn} {o:Ow}:∀ {ds:List D} {vs:List V} {bs:List Bool},Reps K H w o 0 ds vs []->z6a ds=some bs->vs=bs.map V.bl
 | ds,vs,bs,r,e=>by
  generalize hF:([]:List Addr)=F at r
  cases r with
  | nil=>cases e; rfl
  | @cons _ d v ds' vs' F' G' r1 r2 _=>
   have h2:G'=[]:=r2.zero
   subst h2
   cases r1 with
   | bl b=>
    unfold z6a at e
    cases e':z6a ds' with
    | none=>rw[e']at e; cases e
    | some bs'=>
     rw[e']at e
     cases e
     rw[y4j r2 e']
     rfl
   | _=>cases e
theorem j3s (hc:X.calm=true) (hm:X.mg "all" = none) (ha:PDA X [a] g) (hg:Gl X "all":=by rfl) (he:starEach [a] X.env=(false,eval a X.env)::starEach [] X.env:=by rfl) (hpl:(backTo pos (starEach [] X.env)).any (·.1)=false:=by rfl):PD X (.Call (.Name "all" p) [a] [] pos) (eB z3v g):=
 PE.imp (x4u (z4x hc) hg hm PyProof.Rows.boot_all ha (by decide) (by decide) he hpl) (z1b fun ds d h=>by
  unfold z3v at h
  split at h
  ·rename_i ds0
   cases e:z6a ds0 with
   | none=>rw[e]at h; cases h
   | some bs=>
    rw[e]at h
    cases h
    refine⟨_,rfl,fun H w vs wl r Q hq=>?_⟩
    obtain⟨v,rfl,rv⟩:=one r
    obtain⟨p,ys,rfl,hs,rs⟩:=rv.seqL0
    rw[y4j rs e]at hs
    exact⟨p,bs,rfl,hs,hq⟩
  ·cases h)
theorem y7a {α:Type} (l:List α) (f:α->Bool):z6a (l.map fun i=>.bl (f i))=some (l.map f):=by
 induction l with
 | nil=>rfl
 | cons a l ih=>rw[List.map_cons,z6a,ih]; rfl
end
inductive IT where
 | int | bool | tuple | list | str
noncomputable def IT.nm:IT->String
 | .int=>"int"
 | .bool=>"bool"
 | .tuple=>"tuple"
 | .list=>"list"
 | .str=>"str"
noncomputable def isD:IT->D->Bool
 | .int,.int _=>true
 | .int,.bl _=>true
 | .bool,.bl _=>true
 | .tuple,.tup _=>true
 | .list,.lst _=>true
 | .str,.str _=>true
 | _,_=>false
noncomputable def tyD:D->String
 | .non=>"NoneType"
 | .bl _=>"bool"
 | .int _=>"int"
 | .str _=>"str"
 | .tup _=>"tuple"
 | .dic _ _=>"dict"
 | .exc _=>"object"
 | .ob _ _ _ _=>"function"
 | .lst _=>"list"
section
variable {X:Cx} {pins:List (Addr × Obj)} {σ:St} {H:Hp} {s:Shared}
theorem j1m {w:Wn} {o:Ow} {q:Nat} {F:List Addr} {d:D} {x:V} {u c:Value} {b:Bool} {A:Around} {E:Value->Shared->Prop} {Q:Value->Shared->Prop} (I:Inv X pins σ H s) (rx:x4k x u) (r:Rep X.K H w o q d x F)
  (e:PySem.W.kitOne X.K (.type (tyD d)) c=some b) (hx:∀ nm,d ≠ .exc nm) (h:∀ tk,Q (.bool b) { s with toks:=tk }):wpAny (model X.prog X.w) A (call (.builtin "isinstance") [u,c]) Q E s:=by
 cases r with
 | exc _ _ _=>exact absurd rfl (hx _)
 | ob h1 h2 x r=>
  cases rx
  obtain⟨e1,_⟩:=(show x3n X.prog X.w H s.heap _ (.frz _ _)from I.hok _ _ h1)
  exact PySem.W.kia_one z4u I.kIn ⟨_,e1,x.1⟩ e (fun z=>nomatch z) h
 | non=>exact x3r I rx .non e h
 | bl y=>exact x3r I rx (.bl y) e h
 | int i=>exact x3r I rx (.int i) e h
 | str y=>exact x3r I rx (.str y) e h
 | tup ha _=>exact x3r I rx (.tup ha) e h
 | dic ha _=>exact x3r I rx (.dK ha) e h
 | kl ha _=>
  obtain⟨ob,its,n,hk,hc,hd,_⟩:=ha
  cases rx
  exact PySem.W.kia_one PySem.W.kitx_list I.kIn ⟨ob,I.kIn _ _ hk,hc⟩ e (fun z=>nomatch z) h
 | shr ha _ _=>
  rcases ha with ha | ⟨ob,ha⟩
  ·exact x3r I rx (.lst ha) e h
  ·exact x3r I rx (.frz ha) e h
 | own ha _ _ _=>exact x3r I rx (.lst ha) e h
theorem z91 {K:PySem.W.Frag} (T:IT) (d:D) (hx:∀ nm,d ≠ .exc nm):PySem.W.kitOne K (.type (tyD d)) (.type T.nm)=some (isD T d):=by
 cases T <;> cases d <;> first | rfl | exact absurd rfl (hx _)
end
section
variable {X:Cx} {a b c e:Expr} {es:List Expr} {fa fb fc f:Den} {ga gb:x1l} {g:x1o} {pos p p1 p2 pT:Pos}
theorem z4b (T:IT):x94 X (.builtin "isinstance") (fun xs H Q=>∃ x w o q F d,xs=[x,.ty T.nm]/\Rep X.K H w o q d x F/\Q (.bl (isD T d)) H):=by
 intro pins s σ H xs us Q I r h
 obtain⟨x,w,o,q,F,d,rfl,rd,hq⟩:=h
 obtain⟨u,v,rfl,ru,rv⟩:=z2c r
 cases rv
 by_cases hx:∃ nm,d=.exc nm
 ·obtain⟨nm,rfl⟩:=hx
  cases rd with
  | exc ha xo _=>
   obtain⟨C,hc,k⟩:=xo
   cases ru
   obtain⟨e1,_⟩:=(show x3n X.prog X.w H s.heap _ (.frz _ _)from I.hok _ _ ha)
   have hT:isD T (.exc nm)=false:=by cases T <;> rfl
   rw[hT]at hq
   refine j2t (x:=_) I.kIn ⟨e1,hc⟩ k.xc (by cases T <;> kernel_rfl) (k.no _ (by cases T <;> simp[IT.nm])) ⟨.bl false,H,I.tok _,rfl,hq⟩
 ·exact j1m I ru rd (z91 T d fun nm z=>hx ⟨nm,z⟩) (fun nm z=>hx ⟨nm,z⟩) fun tk=>⟨.bl (isD T d),H,I.tok _,rfl,hq⟩
@[simp] noncomputable def y3p (T:IT) (fa:Den):Den:=fun ρ=>match fa ρ with
 | some (d,_,ρ1)=>some (.bl (isD T d),9,ρ1)
 | none=>none
theorem j0p (T:IT) {t:Str} (hm:X.mg "isinstance" = none) (hmT:X.mg t=none) (hbT:bootBuiltins t=some (.type T.nm)) (ha:PD X a fa) (hg:Gl X "isinstance":=by rfl) (hgT:Gl X t:=by rfl) (hnT:t ≠ "__name__":=by decide) (hdT:(t == ("__debug__":Str))=false:=by decide)
  (hs:starEach [a,.Name t pT] X.env=(false,eval a X.env)::starEach [.Name t pT] X.env:=by rfl) (hpl:(backTo pos (starEach [.Name t pT] X.env)).any (·.1)=false:=by rfl):PD X (.Call (.Name "isinstance" p) [a,.Name t pT] [] pos) (y3p T fa):=
 PE.imp (x4u (z4b T) hg hm PyProof.Rows.boot_isinstance (x3e ha (x3e (z0z (v:=.ty T.nm) hgT hmT hbT rfl hnT hdT) x78 x05) hs) (by decide) (by decide) hs hpl) fun σ H Q hh0=>by
 obtain⟨ρ,w,t,r',q,ρ',gd,ee,k⟩:=hh0
 unfold y3p at ee
 split at ee
 ·rename_i d q1 ρ1 h1
  cases ee
  refine⟨ρ,w,t,_,_,_,gd,h1,fun v H1 w1 F1 g1 go1 r1=>?_⟩
  exact⟨v,w1,_,_,F1,d,rfl,r1,k _ H1 (x1x t w1) [] g1.drop.up (go1.drop gd.wt) (.bl _)⟩
 ·cases ee
@[simp] noncomputable def eCh (g1 g2:D->D->Option D) (fa fb fc:Den):Den:=fun ρ=>match fa ρ with
 | some (x,_,ρ1)=>match fb ρ1 with
  | some (y,_,ρ2)=>match g1 x y with
   | some (.bl true)=>match fc ρ2 with
    | some (z,_,ρ3)=>match g2 y z with
     | some d=>some (d,9,ρ3)
     | none=>none
    | none=>none
   | some (.bl false)=>some (.bl false,9,ρ2)
   | _=>none
  | none=>none
 | none=>none
theorem z5f {op op':CmpOp} {g1 g2:Int->Int->Option D} {h1 h2:Int->Int->V} (ho:OpR X (compareOp op) (rI0 h1)) (ho':OpR X (compareOp op') (rI0 h2)) (e1:∀ i j d,g1 i j=some d->x92 d=some (h1 i j)) (e2':∀ i j d,g2 i j=some d->x92 d=some (h2 i j))
  (ha:PD X a fa) (hb:PD X b fb) (hc:PD X c fc) (hm:lastMarks [op,op'] [b,c]=false:=by with_unfolding_all rfl):PD X (.Compare a [op,op'] [b,c] pos) (eCh (gI g1) (gI g2) fa fb fc):=PE.imp (z3w ho ho' ha hb hc hm) fun σ H Q hh0=>by
 obtain⟨ρ,w,t,r',q,ρ',gd,ee,k⟩:=hh0
 unfold eCh at ee
 split at ee
 ·rename_i x q1 ρ1 a1
  split at ee
  ·rename_i y q2 ρ2 a2
   refine z5y gd a1 a2 fun u v H2 w2 F1 F2 g2' go2 r1 r2=>?_
   have gg:=g2'.drop (t':=t)
   split at ee
   ·rename_i hg
    obtain⟨i,j,rfl,rfl,hg'⟩:=x61 hg
    refine⟨i,j,x39 r1,x39 r2,true,by have:=e1 i j _ hg'; simpa [x92]using this.symm,?_⟩
    rw[if_pos rfl]
    split at ee
    ·rename_i z q3 ρ3 a3
     refine⟨ρ2,x1x t w2,t,z,q3,ρ3,gg,a3,fun v3 H3 w3 F3 g3 go3 r3=>?_⟩
     split at ee
     ·rename_i d hd
      cases ee
      obtain⟨j',l,ej,rfl,hd'⟩:=x61 hd
      cases ej
      exact⟨j,l,x39 r2,x39 r3,z86 k gd g3 ((go2.drop gd.wt).trans go3) (y02 (e2' j l _ hd'))⟩
     ·cases ee
    ·cases ee
   ·rename_i hg
    obtain⟨i,j,rfl,rfl,hg'⟩:=x61 hg
    cases ee
    refine⟨i,j,x39 r1,x39 r2,false,by have:=e1 i j _ hg'; simpa [x92]using this.symm,?_⟩
    rw[if_neg (by decide)]
    exact z86 k gd g2' go2 (.bl false)
   ·cases ee
  ·cases ee
 ·cases ee
theorem y6e (ha:PD X a fa) (hb:PD X b fb) (hc:PD X c fc) (hm:lastMarks [.LtE,.Lt] [b,c]=false:=by with_unfolding_all rfl):PD X (.Compare a [.LtE,.Lt] [b,c] pos) (eCh dLe dLt fa fb fc):=
 z5f y90 z3o (fun i j d h=>by cases h; rfl) (fun i j d h=>by cases h; rfl) ha hb hc hm
theorem y5y (ha:PD X a fa) (hb:PD X b fb) (hc:PD X c fc) (hm:lastMarks [.LtE,.LtE] [b,c]=false:=by with_unfolding_all rfl):PD X (.Compare a [.LtE,.LtE] [b,c] pos) (eCh dLe dLe fa fb fc):=
 z5f y90 y90 (fun i j d h=>by cases h; rfl) (fun i j d h=>by cases h; rfl) ha hb hc hm
noncomputable def dIs:D->D->Option D
 | .bl x,.bl y=>some (.bl (x == y))
 | _,_=>none
noncomputable def y26:D->D->Option D
 | .bl x,.bl y=>some (.bl (!(x == y)))
 | _,_=>none
theorem z0k:OpR X (compareOp .IsNot) (fun x y H Q=>∃ i j,x=.bl i/\y=.bl j/\Q (.bl (!(i == j))) H):=by
 intro pins s σ H x y v u Q I rx ry h
 obtain⟨i,j,rfl,rfl,q⟩:=h
 cases rx
 cases ry
 cases i <;> cases j
 ·exact wpAny_pure ⟨.bl false,H,I,rfl,q⟩
 ·exact wpAny_pure ⟨.bl true,H,I,rfl,q⟩
 ·exact wpAny_pure ⟨.bl true,H,I,rfl,q⟩
 ·exact wpAny_pure ⟨.bl false,H,I,rfl,q⟩
theorem j1y {K:PySem.W.Frag}:∀ σ H Q,tD K (e2 y26 fa fb) σ H Q->tOp (fun x y H Q=>∃ i j,x=.bl i/\y=.bl j/\Q (.bl (!(i == j))) H) (tD K fa) (tD K fb) σ H Q:=y15 fun x y d h=>by
 unfold y26 at h
 split at h
 ·cases h
  exact⟨_,rfl,fun H w o o' q q' u u' F F' r1 r2 _ Q hq=>by cases r1; cases r2; exact⟨_,_,rfl,rfl,hq⟩⟩
 ·cases h
theorem z1l (ha:PD X a fa) (hb:PD X b fb):PDT X (.Compare a [.IsNot] [b] pos) (x2n (e2 y26 fa fb)):=x7h z0k j1y ha hb (x9l _)
@[simp] noncomputable def z5v (fa:Den):Den:=fun ρ=>match fa ρ with
 | some (.int i,_,ρ1)=>some (.int (-i),9,ρ1)
 | _=>none
theorem j41 (ha:PD X a fa):PD X (.UnaryOp .USub a pos) (z5v fa):=PE.imp (j5f j2k ha) fun σ H Q hh0=>by
 obtain⟨ρ,w,t,r',q,ρ',gd,ee,k⟩:=hh0
 unfold z5v at ee
 split at ee
 ·rename_i i q1 ρ1 h1
  cases ee
  refine⟨ρ,w,t,_,_,_,gd,h1,fun v H1 w1 F1 g1 go1 r1=>?_⟩
  exact⟨i,x39 r1,k _ H1 (x1x t w1) [] g1.drop.up (go1.drop gd.wt) (.int _)⟩
 ·cases ee
section
variable {prog:Program} {w:World} {A:Around} {E:Value->Shared->Prop} {s:Shared}
theorem z2k (l b:Addr) (us vs:Array Value) (n m:Nat) (d1 d2:Option Addr) (s1 s2:Array (Option Value)) (h0:us.isEmpty=true) :
  Meets (Builtin.«tuple.__add__» ⟨[.ref l,.ref b],[]⟩) (fun _ R s=>s.heap.get? l=some { cls:=.type "tuple",dict:=d1,data:=.seq us n,slots:=s1 }/\s.heap.get? b=some { cls:=.type "tuple",dict:=d2,data:=.seq vs m,slots:=s2 }/\R (.ok (.ret (.ref b))) s):=
 .of_wp fun prog w A R s h=>by
  obtain⟨hp,g,d,tk,os⟩:=s
  obtain⟨hl,hb,h⟩:=h
  have f2:=AutoSeq1.sub_tuple_tuple
  wp_walk using wpAny_loadPart' hl,wpAny_loadPart' hb
  exact⟨_,rfl,h⟩
theorem z1y {t b:Addr} {ws:List Value} {Q:Value->Shared->Prop} (ht:IsTup s.heap t #[]) (hb:IsTup s.heap b ws.toArray) (h:Q (.ref b) s):wpAny (model prog w) A (binaryOp .Add (.ref t) (.ref b)) Q E s:=by
 obtain⟨⟨c1,d1,a1,s1⟩,e1,hc1,n1,ha1⟩:=id ht
 obtain⟨⟨c2,d2,a2,s2⟩,e2,hc2,n2,ha2⟩:=id hb
 simp only at hc1 ha1 hc2 ha2
 subst hc1 ha1 hc2 ha2
 exact concat_meets ⟨_,e1,rfl⟩ ⟨_,e2,rfl⟩ noFill_tuple_add seq_tuple_add PySem.F.slot_tuple_add PySem.F.entry_tuple_add (PySem.F.args_tuple_add_2 _ _) (z2k t b #[] ws.toArray n1 n2 d1 d2 s1 s2 rfl) ⟨e1,e2,h⟩
end
theorem z9i:OpR X (binaryOp .Add) (fun x y H Q=>∃ a b ys,x=.ref a/\y=.ref b/\SqT X.K H a []/\SqT X.K H b ys/\Q (.ref b) H):=by
 intro pins s σ H x y v u Q I rx ry h
 obtain⟨a,b,ys,rfl,rfl,ha,hb,q⟩:=h
 cases rx
 cases ry
 obtain⟨its,r1,p1,_⟩:=I.tuple ha
 obtain⟨its2,r2,p2,_⟩:=I.tuple hb
 cases r1
 exact z1y p1 p2 ⟨.ref b,H,I,rfl,q⟩
theorem OpR.or {f:Value->Value->Sem Value} {r r':R2} (h:OpR X f r) (h':OpR X f r'):OpR X f (fun x y H Q=>r x y H Q\/r' x y H Q):=fun pins s σ H x y v u Q I rx ry q=>q.elim (fun z=>h pins s σ H x y v u Q I rx ry z) fun z=>h' pins s σ H x y v u Q I rx ry z
@[simp] noncomputable def y55 (fa fb:Den):Den:=fun ρ=>match fa ρ with
 | some (.tup ds,_,ρ1)=>match fb ρ1 with
  | some (.tup es,_,ρ2)=>if ds.length+es.length<=1000 then some (.tup (ds++es),9,ρ2)else none
  | _=>none
 | _=>none
theorem j3u (ha:PD X a fa) (hb:PD X b fb):PD X (.BinOp a .Add b pos) (y55 fa fb):=PE.imp (y3f (OpR.or z9i z6j) ha hb) fun σ H Q hh0=>by
 obtain⟨ρ,w,t,r',q,ρ',gd,ee,k⟩:=hh0
 unfold y55 at ee
 split at ee
 ·rename_i ds q1 ρ1 h1
  split at ee
  ·rename_i es q2 ρ2 h2
   split at ee
   ·rename_i hl
    cases ee
    refine z5y gd h1 h2 fun u u' H2 w2 F1 F2 g2 go r1 r2=>?_
    have r10:=r1.drop (o:=.f) (Nat.le_refl t)
    have r20:=r2.drop (o:=.f) (Nat.le_succ t)
    have gg:=g2.drop (t':=t)
    have gog:=go.drop gd.wt
    obtain⟨p1,vs,rfl,q1',s1⟩:=r10.seqT
    obtain⟨p2,us,rfl,q2',s2⟩:=r20.seqT
    have l1:=s1.length
    have l2:=s2.length
    cases ds with
    | nil=>
     have:vs=[]:=List.length_eq_zero_iff.mp (by rw[<- l1]; rfl)
     subst this
     refine .inl ⟨p1,p2,us,rfl,rfl,q1',q2',k _ H2 (x1x t w2) [] gg.up gog ?_⟩
     exact(Rep.go gg.wl (fun a x e n=>⟨sm e,n⟩) r20 (fun _ z=>nomatch z):Rep X.K H2 (x1x t w2) (.t t) 0 _ _ []).nolist rfl |>.2 9
    | cons d ds=>
     refine .inr ⟨p1,p2,vs,us,rfl,rfl,q1',q2',(fun z=>by rw[z]at l1; cases l1),x9q (by rw[<- l1,<- l2]; exact hl),fun z=>?_,fun _ p hp=>?_⟩
     ·have:es=[]:=List.length_eq_zero_iff.mp (by rw[l2,z]; rfl)
      subst this
      rw[List.append_nil]at k
      exact k _ H2 (x1x t w2) [] gg.up gog ((Rep.go gg.wl (fun a x e n=>⟨sm e,n⟩) r10 (fun _ z=>nomatch z):Rep X.K H2 (x1x t w2) (.t t) 0 _ _ []).nolist rfl |>.2 9)
     ·obtain⟨a1,a2,a3⟩:=y3v gg hp (s2.app s1)
      exact k _ _ _ _ a1 (gog.trans a2) a3
   ·cases ee
  ·cases ee
 ·cases ee
noncomputable abbrev z5k:=Rho->Option (Option Int × Rho)
noncomputable def tDO (K:PySem.W.Frag) (f:z5k):TO:=fun σ H Q=>∃ ρ w t o ρ',Good K ρ σ H w t/\f ρ=some (o,ρ')/\∀ H' w',Good K ρ' σ H' w' t->Go H w H' w'->Q o H'
noncomputable abbrev PDO (X:Cx) (e:Option Expr) (f:z5k):Prop:=PO X e (tDO X.K f)
@[simp] noncomputable def z2w:z5k:=fun ρ=>some (none,ρ)
@[simp] noncomputable def z0w (f:Den):z5k:=fun ρ=>match f ρ with
 | some (.int i,_,ρ1)=>some (some i,ρ1)
 | _=>none
theorem PO.imp {e:Option Expr} {t t':TO} (h:PO X e t) (i:∀ σ H Q,t' σ H Q->t σ H Q):PO X e t':=fun pins s σ H Q I q=>h pins s σ H Q I (i σ H Q q)
theorem z26:PDO X none z2w:=PO.imp z8d fun σ H Q hh0=>by
 obtain⟨ρ,w,t,o,ρ',gd,ee,k⟩:=hh0
 cases ee
 exact k H w gd Go.refl
theorem z4r (h:PD X e f):PDO X (some e) (z0w f):=PO.imp (z8a h) fun σ H Q hh0=>by
 obtain⟨ρ,w,t,o,ρ',gd,ee,k⟩:=hh0
 unfold z0w at ee
 split at ee
 ·rename_i i q1 ρ1 h1
  cases ee
  exact⟨ρ,w,t,_,_,_,gd,h1,fun v H1 w1 F1 g1 go1 r1=>⟨i,x39 r1,k H1 (x1x t w1) g1.drop (go1.drop gd.wt)⟩⟩
 ·cases ee
section
variable {prog:Program} {w:World} {A:Around} {E:Value->Shared->Prop} {s:Shared}
theorem y81 {t sl:Addr} {us:Array Value} {vl vu:Value} {lo hi:Option Int} {Q:Value->Shared->Prop} (ht:IsTup s.heap t us) (hs:s.heap.IsSliceOf sl vl vu .none) (pl:IsPart vl lo) (pu:IsPart vu hi)
  (hw:HT.sIx us.size 0 lo=0/\HT.sIx us.size us.size hi=us.size) (h:Q (.ref t) s):wpAny (model prog w) A (getItem (.ref t) (.ref sl)) Q E s:=by
 obtain⟨os,hos,hcs,hds⟩:=id hs
 have ts:s.TypeIs (.ref sl) "slice":=⟨os,hos,hcs⟩
 unfold getItem
 try with_reducible refine wpAny_holding ?_
 first | refine wpAny_bind (wpAny_pure ?_) | skip
 refine wpAny_bind (wpAny_sequenceKey ht.typeIs (by decide) (wpAny_bind (wpAny_callSpecial?_slot (name:=Str.ofString "__getitem__") ht.typeIs PyProof.Rows.slot_tuple_getitem (wpAny_call_entry PyProof.Rows.slot_tuple_getitem ht.typeIs entry_tuple_getitem ?_ (args_tuple_getitem _ _)))))
 show wpAny _ _ (Builtin.Tuple.tupleItemsOf (.ref t) >>= _) _ _ s
 refine wpAny_bind (tupleItemsOf_ ht (wpAny_bind (wpAny_typeOf ts ?_)))
 rw[if_pos (by decide)]
 refine wpAny_bind (HT.x9u hs pl pu ?_)
 have yes:(((HT.sIx us.size 0 lo:Nat):Int) == 0 && (1:Int) == 1 && (HT.sIx us.size us.size hi-HT.sIx us.size 0 lo) == us.size)=true:=by rw[hw.1,hw.2]; simp
 show wpAny _ _ (if(((HT.sIx us.size 0 lo:Nat):Int) == 0 && (1:Int) == 1 && (HT.sIx us.size us.size hi-HT.sIx us.size 0 lo) == us.size)=true then _ else _) _ _ s
 rw[if_pos yes]
 refine wpAny_bind (m:=Builtin.Tuple.tupleIsExact _) ?_
 unfold Builtin.Tuple.tupleIsExact
 refine wpAny_bind (wpAny_typeOf ht.typeIs (wpAny_pure ?_))
 rw[if_pos (by decide)]
 exact wpAny_bind (wpAny_rule (wpAny_pure ⟨_,rfl,wpAny_pure h⟩))
end
noncomputable def j3d (xs:List D) (lo hi:Option Int):List D:=(xs.drop (HT.sIx xs.length 0 lo)).take (HT.sIx xs.length xs.length hi-HT.sIx xs.length 0 lo)
@[simp] noncomputable def eSl (fa:Den) (fl fh:z5k):Den:=fun ρ=>match fa ρ with
 | some (.tup ds,_,ρ1)=>match fl ρ1 with
  | some (lo,ρ2)=>match fh ρ2 with
   | some (hi,ρ3)=>some (.tup (j3d ds lo hi),9,ρ3)
   | none=>none
  | none=>none
 | _=>none
theorem Reps.take0 {K:PySem.W.Frag} {H:Hp} {w:Wn}:∀ {ds:List D} {vs:List V} (i:Nat),Reps K H w .f 0 ds vs []->Reps K H w .f 0 (ds.take i) (vs.take i) []
 | _,_,0,_=>by rw[List.take_zero,List.take_zero]; exact .nil
 | ds,vs,i+1,r=>by
  generalize hF:([]:List Addr)=F at r
  cases r with
  | nil=>exact .nil
  | cons r s _=>
   have h2:=s.zero
   have h1:=r.zero
   subst h2
   subst h1
   exact .cons (F:=[]) (G:=[]) r (Reps.take0 i s) (fun _ z=>nomatch z)
theorem z24:SlR X (fun x lo hi H Q=>∃ a xs,x=.ref a/\SqT X.K H a xs/\(HT.sIx xs.length 0 lo=0/\HT.sIx xs.length xs.length hi=xs.length)/\Q (.ref a) H):=by
 intro pins s σ H x v vl vu lo hi sl Q I rx hs pl pu h
 obtain⟨a,xs,rfl,hx,hw,q⟩:=h
 cases rx
 obtain⟨its,r,ht,hz⟩:=I.tuple hx
 have hlen:its.toArray.size=xs.length:=by rw[List.size_toArray]; exact r.length.symm
 exact⟨"tuple",_,PyProof.Rows.slot_tuple_getitem.lookup,ht.typeIs,y81 ht hs pl pu (by rw[hlen]; exact hw) ⟨.ref a,H,I,rfl,q⟩⟩
theorem j69 {lo hi:Option Expr} {fl fh:z5k} (ha:PD X a fa) (hl:PDO X lo fl) (hh:PDO X hi fh):PD X (.Subscript a (.Slice lo hi none p2) pos) (eSl fa fl fh):=PE.imp (z53 (z24.or j2z) ha hl hh) fun σ H Q hh0=>by
 obtain⟨ρ,w,t,r',q,ρ',gd,ee,k⟩:=hh0
 unfold eSl at ee
 split at ee
 ·rename_i ds q1 ρ1 h1
  split at ee
  ·rename_i lo ρ2 h2
   split at ee
   ·rename_i hi ρ3 h3
    cases ee
    refine⟨ρ,w,t,_,_,_,gd,h1,fun v H1 w1 F1 g1 go1 r1=>?_⟩
    have gg1:=g1.drop (t':=t)
    have r0:=r1.drop (o:=.f) (Nat.le_refl t)
    refine⟨ρ1,x1x t w1,t,_,_,gg1,h2,fun H2 w2 g2 go2=>⟨ρ2,w2,t,_,_,g2,h3,fun H3 w3 g3 go3=>?_⟩⟩
    have r3:=(r0.go0 gg1.wl go2.stab).go0 g2.wl go3.stab
    obtain⟨p1,vs,rfl,q1',s1⟩:=r3.seqT
    have l1:=s1.length
    by_cases hw:HT.sIx ds.length 0 lo=0/\HT.sIx ds.length ds.length hi=ds.length
    ·have ec:j3d ds lo hi=ds:=by unfold j3d; rw[hw.1,hw.2,List.drop_zero,Nat.sub_zero,List.take_length]
     rw[ec]at k
     refine .inl ⟨p1,vs,rfl,q1',by rw[<- l1]; exact hw,?_⟩
     exact k _ H3 w3 [] g3.up (((go1.drop gd.wt).trans go2).trans go3) ((Rep.go g3.wl (fun a x e n=>⟨sm e,n⟩) r3 (fun _ z=>nomatch z):Rep X.K H3 w3 (.t t) 0 _ _ []).nolist rfl |>.2 9)
    ·refine .inr ⟨p1,vs,rfl,q1',by rw[<- l1]; exact hw,fun p hp=>?_⟩
     have s4:Reps X.K H3 w3 .f 0 (j3d ds lo hi) (z6g vs lo hi) []:=by
      unfold j3d z6g
      rw[<- l1]
      exact(s1.drop0 _).take0 _
     obtain⟨a1,a2,a3⟩:=y3v g3 hp s4
     exact k _ _ _ _ a1 ((((go1.drop gd.wt).trans go2).trans go3).trans a2) a3
   ·cases ee
  ·cases ee
 ·cases ee
end
section
variable {X:Cx} {k b n:Nat} {a c e tg:Expr} {es:List Expr} {pt:x5s} {ps:x8m} {pos:Pos} {fa fb f:Den}
theorem z6n {p q r:x5s}:∀ ds ρ ρ',x2j p (x2j q (x2j r y1t)) ds ρ=some ρ'->ds.length=3:=fun ds ρ ρ' h=>by
 match ds with
 | []=>cases h
 | [_]=>unfold x2j at h; simp at h; split at h <;> cases h
 | [_,_]=>unfold x2j at h; simp at h; split at h; (split at h <;> cases h); cases h
 | [_,_,_]=>rfl
 | _::_::_::_::_=>
  exfalso
  unfold x2j at h
  simp at h
  split at h
  ·split at h
   ·split at h <;> cases h
   ·cases h
  ·cases h
@[simp] noncomputable def j23 (f:Den) (pt:x5s):x1d:=fun ρ=>match f ρ with
 | some (d,_,ρ1)=>match pt d ρ1 with
  | some ρ2=>some (.nx ρ2)
  | none=>none
 | none=>none
theorem z6v (he:PD X e f) (hg:PDG X 0 tg pt) (hs:swapsWithSole [tg] e pos.line X.env=pure false:=by rfl) (hw:swappedStores [tg] e X.env=pure none:=by rfl) (h1:(assignEach [tg] X.env).map (·.2)=[assign tg X.env]:=by rfl):PDS X (.Assign [tg] e pos) (j23 f pt):=PS.imp (z5s he hg hs hw h1) fun D σ H hh0=>by
 obtain⟨ρ,w,o,g,ee,k⟩:=hh0
 unfold j23 at ee
 split at ee
 ·rename_i d q ρ1 h1
  split at ee
  ·rename_i ρ2 h2
   cases ee
   refine⟨ρ,w,0,d,q,ρ1,g,h1,fun v H1 w1 F1 g1 go1 r1=>?_⟩
   exact⟨d,ρ1,x1x 0 w1,0,ρ2,g1.drop,r1.drop (Nat.le_refl 0),h2,fun σ' H' w' hl _ g' go'=>k σ' H' w' hl g' ((go1.drop g.wt).trans go')⟩
  ·cases ee
 ·cases ee
end
theorem y8o:fillsNumberSlot (.type "tuple") "mul" = pure false:=PySem.fillsNumberSlot_seq (id:="tuple.__mul__") (r:=some (.builtin "tuple.__rmul__")) F.slot_tuple_mul.lookup (by decide +kernel) F.slot_tuple_rmul.lookup (by decide +kernel)
theorem y8e:seqRepeat? (.type "tuple")=pure (some (.builtin "tuple.__mul__")):=by
 unfold seqRepeat?
 rw[PySem.seqSlot_of (T:="tuple") (name:="__mul__") (id:="tuple.__mul__") F.slot_tuple_mul.lookup (by decide +kernel),PySem.seqSlot_of (T:="tuple") (name:="__rmul__") (id:="tuple.__rmul__") F.slot_tuple_rmul.lookup (by decide +kernel)]; rfl
theorem y4c (a:Int) (t:Tok) (l:Addr) (us:Array Value) (n:Nat) (dd:Option Addr) (sl:Array (Option Value)) :
  Meets (Builtin.«int.__rmul__» ⟨[.int a t,.ref l],[]⟩) (fun _ R s=>s.heap.get? l=some { cls:=.type "tuple",dict:=dd,data:=.seq us n,slots:=sl }/\R (.ok (.ret Value.notImplemented)) s):=.of_wp fun prog w A R s h=>by
 obtain⟨hp,g,d,tk,os⟩:=s
 obtain⟨hl,h⟩:=h
 wp_walk
 exact⟨_,rfl,h⟩
theorem z44 (t:Tok) (l:Addr) (us:Array Value) (n:Nat) (dd:Option Addr) (sl:Array (Option Value)) :
  Meets (Builtin.«tuple.__mul__» ⟨[.ref l,.int 1 t],[]⟩) (fun _ R s=>s.heap.get? l=some { cls:=.type "tuple",dict:=dd,data:=.seq us n,slots:=sl }/\R (.ok (.ret (.ref l))) s):=.of_wp fun prog w A R s h=>by
 obtain⟨hp,g,d,tk,os⟩:=s
 obtain⟨hl,h⟩:=h
 have f1:=AutoSeq1.idx_int
 wp_walk using wpAny_loadPart' hl
 exact⟨_,rfl,h⟩
theorem z28 (k:Int) (t:Tok) (l:Addr) (us:Array Value) (n:Nat) (dd:Option Addr) (sl:Array (Option Value)) (h2:¬ (decide (k < -(2 ^ 63)) || decide (k ≥ 2 ^ 63))=true) (h3:¬ (us.isEmpty || k == 1)=true) (h4:¬ (decide (k<=0) || us.isEmpty)=true) (h5:¬ (us.size:Int)*k > (2 ^ 63-1) / 8) (h6:¬ Builtin.Tuple.tupleTooMany ((us.size:Int)*k)=true) (hsz:(List.foldl (· ++ ·) #[] (List.replicate k.toNat us)).size<=sizeLine) :
  Meets (Builtin.«tuple.__mul__» ⟨[.ref l,.int k t],[]⟩) (fun _ R s=>s.heap.get? l=some { cls:=.type "tuple",dict:=dd,data:=.seq us n,slots:=sl }/\R (.ok (.ret (.ref s.heap.objs.size))) { s with heap:=s.heap.push { cls:=.type "tuple",data:=.seq (List.foldl (· ++ ·) #[] (List.replicate k.toNat us)) } }):=.of_wp fun prog w A R s h=>by
 obtain⟨hp,g,d,tk,os⟩:=s
 obtain⟨hl,h⟩:=h
 have f1:=AutoSeq1.idx_int
 wp_walk using wpAny_loadPart' hl
 rw[if_neg h2]
 wp_walk using wpAny_loadPart' hl
 rw[if_neg h5]
 wp_walk using wpAny_loadPart' hl
 exact⟨_,rfl,h⟩
section
variable {X:Cx} {a b c e:Expr} {fa fb fc f:Den} {pos:Pos}
theorem z71:OpR X (binaryOp .Mult) (fun x y H Q=>∃ a k xs,x=.ref a/\y=.int k/\SqT X.K H a xs/\xs ≠ []/\1<=k/\xs.length*k.toNat<=1000/\(k=1->Q (.ref a) H)/\(k≠1->∀ p,H p=none->Q (.ref p) (upd H p (.tup (List.replicate k.toNat xs).flatten)))):=by
 intro pins s σ H x y v u Q I rx ry h
 obtain⟨l,k,xs,rfl,rfl,hq,hne,h1,hz,q1,q2⟩:=h
 cases rx
 obtain⟨t,rfl⟩:=ry
 obtain⟨its,r,pt,_⟩:=I.tuple hq
 obtain⟨⟨c1,d1,a1,s1⟩,e,hc1,n1,ha1⟩:=id pt
 simp only at hc1 ha1
 subst hc1 ha1
 have hl:=r.length
 have hpos:0<its.length:=by rw[<- hl]; exact List.length_pos_iff.mpr hne
 refine wpAny_binaryOp_repeat_ref (T:="tuple") (U:="int") (by decide) ⟨_,e,rfl⟩ (fun s'=>typeIs_int s' k t) y8o F.fills_int_mul F.slot_int_rmul y8e F.slot_int_index.lookup
  (call_meets F.slot_int_rmul (typeIs_int s k t) F.entry_int_rmul (F.args_int_rmul_2 _ _) (y4c k t l its.toArray n1 d1 s1) ⟨e,rfl,⟨_,e,rfl⟩,?_⟩)
 by_cases hk:k=1
 ·subst hk
  exact call_meets F.slot_tuple_mul ⟨_,e,rfl⟩ F.entry_tuple_mul (F.args_tuple_mul_2 _ _) (z44 t l its.toArray n1 d1 s1) ⟨e,⟨.ref l,H,I,rfl,q1 rfl⟩⟩
 ·have hm:its.length*k.toNat<=1000:=by rw[<- hl]; exact hz
  have hk':k.toNat<=1000:=by
   have:=Nat.le_mul_of_pos_left k.toNat hpos
   omega
  have f0:List.foldl (fun x1 x2=>x1++x2) #[] (List.replicate k.toNat its.toArray)=(List.replicate k.toNat its).flatten.toArray:=by
   have:=y0j its k.toNat []
   rw[List.nil_append]at this
   exact this
  have lf:(List.replicate k.toNat its).flatten.length<=1000:=by rw[y5j,Nat.mul_comm]; exact hm
  have em:((its.toArray.size:Nat):Int)*k=((its.length*k.toNat:Nat):Int):=by
   rw[List.size_toArray,Int.natCast_mul,Int.toNat_of_nonneg (by omega)]
  refine call_meets F.slot_tuple_mul ⟨_,e,rfl⟩ F.entry_tuple_mul (F.args_tuple_mul_2 _ _) (z28 k t l its.toArray n1 d1 s1 (by simp; omega) (by simp[hk]; exact List.ne_nil_of_length_pos hpos) (by simp; exact⟨by omega,List.ne_nil_of_length_pos hpos⟩) (by rw[em]; omega) (by
   unfold Builtin.Tuple.tupleTooMany
   rw[em]
   simp only[gt_iff_lt,decide_eq_true_eq,Int.not_lt]
   have:(1000:Nat)<=sizeLine:=by decide
   omega) (by rw[f0,List.size_toArray]; exact x9q lf)) ⟨e,?_⟩
  rw[f0]
  refine⟨.ref s.heap.objs.size,_,I.laid (t':=s.toks) (o:=.tup (List.replicate k.toNat xs).flatten) (fun b ob q=>Heap.get?_push_of_some _ q) (Nat.le_refl _) ?_,rfl,q2 hk _ (I.hok.fresh (Nat.le_refl _))⟩
  exact⟨x9q (by rw[y5j,Nat.mul_comm]; exact hz),_,r.rep k.toNat,x5t.new _ _⟩
@[simp] noncomputable def y88 (fa fb:Den):Den:=fun ρ=>match fa ρ with
 | some (.tup ds,_,ρ1)=>match fb ρ1 with
  | some (.int n,_,ρ2)=>if ds.isEmpty=false/\1<=n/\ds.length*n.toNat<=1000 then some (.tup (List.replicate n.toNat ds).flatten,9,ρ2)else none
  | _=>none
 | _=>none
theorem z90 (ha:PD X a fa) (hb:PD X b fb):PD X (.BinOp a .Mult b pos) (y88 fa fb):=PE.imp (y3f z71 ha hb) fun σ H Q hh0=>by
 obtain⟨ρ,w,t,r',q,ρ',gd,ee,k⟩:=hh0
 unfold y88 at ee
 split at ee
 ·rename_i ds q1 ρ1 h1
  split at ee
  ·rename_i n q2 ρ2 h2
   split at ee
   ·rename_i hl
    cases ee
    obtain⟨hd,hn,hz⟩:=hl
    refine z5y gd h1 h2 fun u u' H2 w2 F1 F2 g2 go r1 r2=>?_
    have r10:=r1.drop (o:=.f) (Nat.le_refl t)
    have gg:=g2.drop (t':=t)
    have gog:=go.drop gd.wt
    obtain⟨p1,vs,rfl,q1',s1⟩:=r10.seqT
    have l1:=s1.length
    refine⟨p1,n,vs,rfl,x39 r2,q1',fun z=>?_,hn,by rw[<- l1]; exact hz,fun z=>?_,fun _ p hp=>?_⟩
    ·subst z
     have:ds=[]:=List.length_eq_zero_iff.mp l1
     subst this
     cases hd
    ·subst z
     have e:(List.replicate (Int.toNat 1) ds).flatten=ds:=by show(List.replicate 1 ds).flatten=ds; simp
     rw[e]at k
     exact k _ H2 (x1x t w2) [] gg.up gog ((Rep.go gg.wl (fun a x e n=>⟨sm e,n⟩) r10 (fun _ z=>nomatch z):Rep X.K H2 (x1x t w2) (.t t) 0 _ _ []).nolist rfl |>.2 9)
    ·obtain⟨a1,a2,a3⟩:=y3v gg hp (s1.times n.toNat)
     exact k _ _ _ _ a1 (gog.trans a2) a3
   ·cases ee
  ·cases ee
 ·cases ee
end
section
variable {X:Cx} {a b c e:Expr} {es:List Expr} {fa fb fc f:Den} {ga gb:x1l} {g:x1o} {pos p p1 p2 cpos apos:Pos}
theorem z76 {x:Str} {i:Int} (h:∃ t,X.mg x=some (.int i t)) (hg:Gl X x:=by rfl) (hd:(x == ("__debug__":Str))=false:=by decide):PD X (.Name x pos) (eC (.int i)):=by
 obtain⟨t,h⟩:=h
 exact x81 (y9c (v:=.int i) hg h ⟨t,rfl⟩ hd) fun _ _ _ _ _=>.int i
theorem z1x {op op':CmpOp} {g1 g2:Int->Int->Option D} {h1 h2:Int->Int->V} (ho:OpR X (compareOp op) (rI0 h1)) (ho':OpR X (compareOp op') (rI0 h2)) (e1:∀ i j d,g1 i j=some d->x92 d=some (h1 i j)) (e2':∀ i j d,g2 i j=some d->x92 d=some (h2 i j))
  (ha:PD X a fa) (hb:PD X b fb) (hc:PD X c fc) (hm:lastMarks [op,op'] [b,c]=false:=by with_unfolding_all rfl):PDT X (.Compare a [op,op'] [b,c] pos) (x2n (eCh (gI g1) (gI g2) fa fb fc)):=PT.imp (z34 ho ho' ha hb hc hm) (y30 fun σ H Q hh0=>by
 obtain⟨ρ,w,t,r',q,ρ',gd,ee,k⟩:=hh0
 unfold eCh at ee
 split at ee
 ·rename_i x q1 ρ1 a1
  split at ee
  ·rename_i y q2 ρ2 a2
   refine z5y gd a1 a2 fun u v H2 w2 F1 F2 g2' go2 r1 r2=>?_
   have gg:=g2'.drop (t':=t)
   split at ee
   ·rename_i hg
    obtain⟨i,j,rfl,rfl,hg'⟩:=x61 hg
    refine⟨i,j,x39 r1,x39 r2,true,by have:=e1 i j _ hg'; simpa [x92]using this.symm,?_⟩
    rw[if_pos rfl]
    split at ee
    ·rename_i z q3 ρ3 a3
     refine⟨ρ2,x1x t w2,t,z,q3,ρ3,gg,a3,fun v3 H3 w3 F3 g3 go3 r3=>?_⟩
     split at ee
     ·rename_i d hd
      cases ee
      obtain⟨j',l,ej,rfl,hd'⟩:=x61 hd
      cases ej
      exact⟨j,l,x39 r2,x39 r3,z86 k gd g3 ((go2.drop gd.wt).trans go3) (y02 (e2' j l _ hd'))⟩
     ·cases ee
    ·cases ee
   ·rename_i hg
    obtain⟨i,j,rfl,rfl,hg'⟩:=x61 hg
    cases ee
    refine⟨i,j,x39 r1,x39 r2,false,by have:=e1 i j _ hg'; simpa [x92]using this.symm,?_⟩
    rw[if_neg (by decide)]
    exact z86 k gd g2' go2 (.bl false)
   ·cases ee
  ·cases ee
 ·cases ee)
theorem y51 (ha:PD X a fa) (hb:PD X b fb) (hc:PD X c fc) (hm:lastMarks [.LtE,.Lt] [b,c]=false:=by with_unfolding_all rfl):PDT X (.Compare a [.LtE,.Lt] [b,c] pos) (x2n (eCh dLe dLt fa fb fc)):=
 z1x y90 z3o (fun i j d h=>by cases h; rfl) (fun i j d h=>by cases h; rfl) ha hb hc hm
theorem y4l (ha:PD X a fa) (hb:PD X b fb) (hc:PD X c fc) (hm:lastMarks [.LtE,.LtE] [b,c]=false:=by with_unfolding_all rfl):PDT X (.Compare a [.LtE,.LtE] [b,c] pos) (x2n (eCh dLe dLe fa fb fc)):=
 z1x y90 y90 (fun i j d h=>by cases h; rfl) (fun i j d h=>by cases h; rfl) ha hb hc hm
noncomputable def j49:D->D->Option D:=gI fun i j=>if 0<=j/\j<=1000/\i.natAbs<1000000 then some (.int (i ^ j.toNat))else none
theorem j11 (ha:PD X a fa) (hb:PD X b fb):PD X (.BinOp a .Pow b pos) (e2 j49 fa fb):=PE.imp (y3f j0k ha hb) (y2s fun i j d h=>by
 split at h
 ·rename_i hc
  cases h
  exact⟨⟨hc.1,by omega,Nat.lt_trans hc.2.2 (by decide)⟩,rfl⟩
 ·cases h)
@[simp] noncomputable def y3o (i:Nat) (f:Den):Den:=fun ρ=>if y49 ρ[i]? = true then match f ρ with
 | some (.lst es,1,ρ1)=>match ρ1[i]? with
  | some (some (.lst ds,1))=>if ds.length+es.length<=1000 then some (.non,9,ρ1.set i (some (.lst (ds++es),1)))else none
  | _=>none
 | _=>none
 else none
theorem z0c {i:Nat} {x:Str} (h:PE X (.Name x p1) (x9n i)) (ha:PD X e f)
  (hbase:attributeBase (.Name x p1) "extend" X.env (eval (.Name x p1) X.env)=eval (.Name x p1) X.env:=by rfl)
  (hfew:((backTo cpos (starEach [e] X.env)).all (fun x=>!x.1) && (backToKw cpos (keywordEach [] X.env)).all (fun x=>x.1.isSome)
    && decide ([e].length+([]:List Keyword).length+(if([]:List Keyword).isEmpty then 0 else 1)<30))=true:=by rfl)
  (hline:(apos.endLine == cpos.line)=true:=by rfl) (hs:starEach [e] X.env=(false,eval e X.env)::starEach [] X.env:=by rfl) (hplain:(backTo cpos (starEach [] X.env)).any (·.1)=false:=by rfl) :
  PD X (.Call (.Attribute (.Name x p1) "extend" apos) [e] [] cpos) (y3o i f):=
 PE.imp (z01 PySem.F.plainAttrs_list PySem.F.slot_list_extend PySem.F.type_list_extend z1p h (x3e ha x78 hs) hbase hfew hline hs hplain) fun σ H Q hh0=>by
 obtain⟨ρ,w,t,r',q,ρ',gd,ee,k⟩:=hh0
 unfold y3o at ee
 split at ee
 ·rename_i hl
  obtain⟨l,hσ,us,hq⟩:=gd.isL hl
  split at ee
  ·rename_i es' ρ1 h1
   split at ee
   ·rename_i ds e1
    split at ee
    ·rename_i hlen
     cases ee
     refine⟨_,hσ,.inl ⟨rfl,us,hq⟩,ρ,w,t,_,_,_,gd,h1,fun v H1 w1 F1 g1 go1 r1=>?_⟩
     obtain⟨l',ws,hσ',hH,rs,mk⟩:=g1.mut e1
     rw[hσ]at hσ'
     cases hσ'
     cases r1 with
     | own hb _ rz _=>
      have z0:=rz.zero
      subst z0
      have rz':Reps X.K H1 w1 .f 0 es' _ []:=rz.any g1.wl
      obtain⟨m1,m2⟩:=mk _ _ (rz'.app rs)
      refine⟨l,_,ws,_,rfl,rfl,hH,hb,x9q (by rw[<- rs.length,<- rz'.length]; exact hlen),?_⟩
      exact k .non _ w1 [] m1 (go1.trans m2) .non
    ·cases ee
   ·cases ee
  ·cases ee
 ·cases ee
end
section
variable {X:Cx} {a b c e:Expr} {es:List Expr} {fa fb fc f:Den} {ga gb gc:x1l} {g:x1o} {qa qb:y56} {s:x1d} {pos p p1 p2 cpos apos:Pos}
@[simp] noncomputable def y6m:x1d:=fun _=>none
theorem y9n {st:Stmt}:PDS X st y6m:=PS.imp z4t fun D σ H hh0=>by obtain⟨ρ,w,o,g,ee,k⟩:=hh0; cases ee
noncomputable def x6c (c:x1l) (b:x1d):Nat->Rho->Option Out
 | 0,_=>none
 | m+1,ρ=>match c ρ with
  | none=>none
  | some (t,ρ1)=>if t=true then match b ρ1 with
    | none=>none
    | some (.nx ρ2)=>x6c c b m ρ2
    | some (.ct ρ2)=>x6c c b m ρ2
    | some (.bk ρ2)=>some (.nx ρ2)
    | some (.rt d q)=>some (.rt d q)
   else some (.nx ρ1)
noncomputable def y70 (c:x1l) (b:x1d):x1d:=x6c c b 1000
theorem z1e {body:List Stmt} (hp:PassesOwn (model X.prog X.w) X.A X.env X.xe) (hc:PDT X c gc) (hb:y8p X body s):PDS X (.While c body [] pos) (y70 gc s):=
 PS.imp (z39 hp hc hb) fun D σ H hh0=>by
 obtain⟨ρ,w,o,g,ee,k⟩:=hh0
 refine⟨fun m σ' H'=>σ'.length=σ.length/\∃ ρ' w',Good X.K ρ' σ' H' w' 0/\x6c gc s m ρ'=some o/\y1d X.K D σ.length H' w' o,⟨1000,rfl,ρ,w,g,ee,k⟩,?_⟩
 rintro m σ' H' ⟨hσ,ρ',w',g',e',k'⟩
 cases m with
 | zero=>cases e'
 | succ m=>
  unfold x6c at e'
  split at e'
  ·cases e'
  ·rename_i t ρ1 h1
   refine⟨ρ',w',0,t,ρ1,g',h1,fun H1 w1 g1 go1=>?_⟩
   cases t with
   | true=>
    rw[if_pos rfl]at e' ⊢
    refine⟨fun σ2 H2=>σ2.length=σ.length/\∃ ρ2 w2,Good X.K ρ2 σ2 H2 w2 0/\x6c gc s m ρ2=some o/\y1d X.K D σ.length H2 w2 o,fun σ2 H2 n2=>⟨m,Nat.lt_succ_self m,n2⟩,?_⟩
    have nx:∀ {ρ5:Rho},x6c gc s m ρ5=some o->∀ σ5 H5 w5,σ5.length=σ'.length->Good X.K ρ5 σ5 H5 w5 0->Go H1 w1 H5 w5->σ5.length=σ.length/\∃ ρ2 w2,Good X.K ρ2 σ5 H5 w2 0/\x6c gc s m ρ2=some o/\y1d X.K D σ.length H5 w2 o:=fun {ρ5} e5 σ5 H5 w5 l5 g5 go5=>⟨by rw[l5,hσ],ρ5,w5,g5,e5,k'.trans (go1.trans go5)⟩
    cases h6:s ρ1 with
    | none=>rw[h6]at e'; cases e'
    | some o6=>
     rw[h6]at e'
     refine⟨ρ1,w1,o6,g1,h6,?_⟩
     cases o6 with
     | nx ρ5=>exact nx e'
     | ct ρ5=>exact nx e'
     | bk ρ5=>
      cases e'
      exact fun σ5 H5 w5 l5 g5 go5=>k' σ5 H5 w5 (by rw[l5,hσ]) g5 (go1.trans go5)
     | rt d q=>
      cases e'
      exact fun v H5 w5 F wl5 go5 r5=>k' v H5 w5 F wl5 (go1.trans go5) r5
   | false=>
    rw[if_neg (by decide)]at e' ⊢
    cases e'
    exact k' σ' H1 w1 hσ g1 go1
@[simp] noncomputable def j7w (n:Nat) (qi:y56) (fe:Den):x1d:=fun ρ=>match fe ρ with
 | some (d,_,ρ1)=>match qi ρ1,ρ1[n]? with
  | some i,some (some (.lst ds,1))=>match ixN ds.length i with
   | some m=>some (.nx (ρ1.set n (some (.lst (ds.set m d),1))))
   | none=>none
  | _,_=>none
 | none=>none
noncomputable def j67 (K:PySem.W.Frag):R2:=fun x y H Q=>∃ l b xs zs,x=.ref l/\y=.ref b/\SqL K H l xs/\SqL K H b zs/\xs.length+zs.length<=sizeLine/\∀ p,H p=none->Q (.ref p) (upd H p (.lst (xs++zs)))
theorem z88:OpR X (binaryOp .Add) (j67 X.K):=by
 intro pins s σ H x y v u Q I rx ry h
 obtain⟨l,b,xs,zs,rfl,rfl,hH,hB,hz,q⟩:=h
 cases rx
 cases ry
 obtain⟨its,r,pl,z⟩:=I.list hH
 obtain⟨its2,r2,pl2,z2⟩:=I.list hB
 obtain⟨⟨cls,dd,data,sl⟩,n,ho,hc,_,hd⟩:=pl
 obtain⟨⟨cls2,dd2,data2,sl2⟩,n2,ho2,hc2,_,hd2⟩:=pl2
 simp only at hc hd hc2 hd2
 subst hc hd hc2 hd2
 have l1:=r.length
 have l2:=r2.length
 refine concat_meets ⟨_,ho,rfl⟩ ⟨_,ho2,rfl⟩ noFill_list_add seq_list_add PySem.F.slot_list_add PySem.F.entry_list_add (PySem.F.args_list_add_2 _ _) (list_addW l b its.toArray its2.toArray n n2 dd dd2 sl sl2 (by rw[List.size_toArray,List.size_toArray,<- l1,<- l2]; exact hz)) ⟨ho,ho2,?_⟩
 have e:its.toArray++its2.toArray=(its++its2).toArray:=by simp
 rw[e]
 exact⟨.ref _,_,I.lnew (t':=s.toks) (r.append r2) (by rw[List.length_append]; omega),rfl,q _ I.fresh⟩
@[simp] noncomputable def y4d (fa fb:Den):Den:=fun ρ=>match fa ρ with
 | some (.lst ds,_,ρ1)=>match fb ρ1 with
  | some (.lst es,_,ρ2)=>if ds.length+es.length<=1000 then some (.lst (ds++es),1,ρ2)else none
  | _=>none
 | _=>none
theorem z9r (ha:PD X a fa) (hb:PD X b fb):PD X (.BinOp a .Add b pos) (y4d fa fb):=PE.imp (y3f z88 ha hb) fun σ H Q hh0=>by
 obtain⟨ρ,w,t,r',q,ρ',gd,ee,k⟩:=hh0
 unfold y4d at ee
 split at ee
 ·rename_i ds q1 ρ1 h1
  split at ee
  ·rename_i es q2 ρ2 h2
   split at ee
   ·rename_i hl
    cases ee
    refine z5y gd h1 h2 fun u u' H2 w2 F1 F2 g2 go r1 r2=>?_
    have r10:=r1.drop (o:=.f) (Nat.le_refl t)
    have r20:=r2.drop (o:=.f) (Nat.le_succ t)
    have gg:=g2.drop (t':=t)
    have gog:=go.drop gd.wt
    obtain⟨p1,vs,rfl,q1',s1⟩:=r10.seqL0
    obtain⟨p2,us,rfl,q2',s2⟩:=r20.seqL0
    refine⟨p1,p2,vs,us,rfl,rfl,q1',q2',x9q (by rw[<- s1.length,<- s2.length]; exact hl),fun p hp=>?_⟩
    obtain⟨a1,a2,a3⟩:=y2k gg hp (s2.app s1)
    exact k _ _ _ _ a1 (gog.trans a2) a3
   ·cases ee
  ·cases ee
 ·cases ee
end
end L3
namespace L3
open PySem PySem.Spec PyProof.Rows L2
end L3
namespace L3
open PySem PySem.Spec PyProof.Rows L2
theorem j3f {prog:Program} {w:World} {A:Around} (hh:A.handled=none) (it p:Addr) (hne:p≠it) (items:Array Value) :
  Draws prog w A it [it,p] items.size (fun i v=>items[i]? = some v) (fun i h=>h.IsTupleIter it p i/\h.IsTuple p items) where
 live:=fun _ _ st=>by obtain⟨⟨o,ho,_⟩,_⟩:=st; exact⟨o,ho⟩
 frame:=fun _ _ _ st hk=>by
  obtain⟨a,⟨o,e,r⟩⟩:=st
  exact⟨a.at fun o e=>hk it (by simp) o e,⟨o,hk p (by simp) o e,r⟩⟩
 item:=fun i s Q E hi st hQ=>by
  refine y8m st.1 st.2 (v:=items[i]) (by simp[hi]) fun h' hit' hs'=>?_
  exact hQ _ h' s.toks (by simp[hi]) ⟨hit',st.2.extBut hs'.extBut hne⟩ hs'
 done:=fun s Q E st hE=>z04 hh st.1 st.2 (by simp) hE
section
variable {prog:Program} {w:World} {A:Around} {E:Value->Shared->Prop} {s:Shared}
theorem z0s {p:Addr} {xs:Array Value} {Q:Value->Shared->Prop} (t1:s.heap.IsTuple p xs)
  (k:∀ h',IsEnum h' (s.heap.objs.size+1) s.heap.objs.size 0 .none->h'.IsTupleIter s.heap.objs.size p 0->h'.objs.size=s.heap.objs.size+2->
    (∀ b o,s.heap.get? b=some o->h'.get? b=some o)->Q (.ref (s.heap.objs.size+1)) { s with heap:=h' }) :
  wpAny (model prog w) A (call (.type "enumerate") [.ref p]) Q E s:=by
 have mt:Meets (Builtin.«enumerate.__new__» ⟨[.type "enumerate",.ref p],[]⟩) (fun _ R s'=>s'=s /\
   R (.ok (.ret (.ref (s.heap.push { cls:=.type "tuple_iterator",data:=.fields #[.ref p,.int 0 0] }).objs.size)))
    { s with heap:=(s.heap.push { cls:=.type "tuple_iterator",data:=.fields #[.ref p,.int 0 0] }).push { cls:=.type "enumerate",data:=.fields #[.none,.bool false,.ref s.heap.objs.size,rawInt 0,.none,.none] } }):=.of_wp fun prog w A R s' h=>by
  obtain⟨rfl,h⟩:=h
  have hsub:=sub_enumerate
  obtain⟨hp,gn,dr,tk,os⟩:=s'
  have q1:Heap.IsTuple (Shared.heap ⟨hp,gn,dr,tk,os⟩) p xs:=t1
  wp_walk using wpAny_pyIter_tuple q1
  refine wpAny_stack_any fun st=>wpAny_pure ?_
  split
  ·rename_i c _ _ _ _ _
   cases (c == Value.type "enumerate")
   ·wp_walk using wpAny_pyIter_tuple q1
    exact⟨_,rfl,h⟩
   ·wp_walk using wpAny_pyIter_tuple q1
    exact⟨_,rfl,h⟩
  ·wp_walk using wpAny_pyIter_tuple q1
   exact⟨_,rfl,h⟩
 refine callType_new F.called_enumerate (by decide) (F.typeCall_enumerate_1 _) (F.newCall_enumerate_1 _) (fun obj=>F.args_object_init_2 obj _) F.entry_enumerate_new mt ⟨rfl,?_⟩
 have hz:(s.heap.push { cls:=.type "tuple_iterator",data:=.fields #[.ref p,.int 0 0] }).objs.size=s.heap.objs.size+1:=Heap.size_push ..
 show _/\_
 rw[hz]
 have he:IsEnum ((s.heap.push { cls:=.type "tuple_iterator",data:=.fields #[.ref p,.int 0 0] }).push
   { cls:=.type "enumerate",data:=.fields #[.none,.bool false,.ref s.heap.objs.size,rawInt 0,.none,.none] }) (s.heap.objs.size+1) s.heap.objs.size 0 .none:=by
  have:=Heap.get?_push_size (s.heap.push { cls:=.type "tuple_iterator",data:=.fields #[.ref p,.int 0 0] })
   (o:={ cls:=.type "enumerate",data:=.fields #[.none,.bool false,.ref s.heap.objs.size,rawInt 0,.none,.none] }) rfl
  rw[hz]at this; exact this
 exact⟨⟨_,he,rfl⟩,k _ he ⟨_,Heap.get?_push_of_some _ (Heap.get?_push_size _ rfl),rfl,rfl⟩ (by rw[Heap.size_push,hz]) fun b o x=>Heap.get?_push_of_some _ (Heap.get?_push_of_some _ x)⟩
end
structure Src (P:Program) (w:World) (K:PySem.W.Frag) (it p:Addr) (Sq:Hp->List V->Prop) (tn:Nat->Heap->Prop):Prop where
 keep:∀ i h h',tn i h->(∀ o,h.get? it=some o->h'.get? it=some o)->tn i h'
 obj:∀ i h,tn i h->∃ o vs,h.get? it=some o/\o.data=.fields vs
 draw:∀ (X:Cx),X.prog=P->X.w=w->X.K=K->X.calm=true->∀ (pins:List (Addr × Obj)) (s:Shared) (σ:St) (H:Hp) (xs:List V),Inv X pins σ H s->Sq H xs->∃ (us:List Value) (St:Nat->Heap->Prop),x2h xs us /\
  Draws P w X.A.in1 it [it,p] us.length (fun i v=>us[i]? = some v) St/\(∀ i,tn i s.heap->St i s.heap)/\(∀ i h,St i h->tn i h)/\∀ ys,Sq H ys->ys=xs
theorem z2b {P:Program} {w:World} {K:PySem.W.Frag} {it p:Addr} (hne:p≠it):Src P w K it p (fun H xs=>SqL K H p xs) (fun i h=>h.IsListIter it p i) where
 keep:=fun i h h' st k=>st.at k
 obj:=fun i h st=>by obtain⟨o,e,c,d⟩:=st; exact⟨o,_,e,d⟩
 draw:=fun X hP hw hK hc pins s σ H xs I hq=>by
  subst hP hw hK
  obtain⟨its,rv,pl,_⟩:=I.list hq
  have D:=Draws.list (prog:=X.prog) (w:=X.w) (A:=X.A.in1) (I.ok.hd hc) it p hne its.toArray
  rw[List.size_toArray]at D
  exact⟨its,(fun i h=>h.IsListIter it p i/\h.IsList p its.toArray),rv,(by simpa using D),fun i st=>⟨st,pl.isList⟩,fun i h st=>st.1,fun ys hy=>I.list_inj hy hq⟩
theorem z9g {P:Program} {w:World} {K:PySem.W.Frag} {it p:Addr} (hne:p≠it):Src P w K it p (fun H xs=>SqT K H p xs) (fun i h=>h.IsTupleIter it p i) where
 keep:=fun i h h' st k=>st.at k
 obj:=fun i h st=>by obtain⟨o,e,c,d⟩:=st; exact⟨o,_,e,d⟩
 draw:=fun X hP hw hK hc pins s σ H xs I hq=>by
  subst hP hw hK
  obtain⟨its,rv,pl,_⟩:=I.tuple hq
  have D:=j3f (prog:=X.prog) (w:=X.w) (A:=X.A.in1) (I.ok.hd hc) it p hne its.toArray
  rw[List.size_toArray]at D
  exact⟨its,(fun i h=>h.IsTupleIter it p i/\h.IsTuple p its.toArray),rv,(by simpa using D),fun i st=>⟨st,pl⟩,fun i h st=>st.1,fun ys hy=>I.tuple_inj hy hq⟩
noncomputable def Ite (Sq:Hp->List V->Prop):It:=
 ⟨fun i H=>∃ xs x,Sq H xs/\xs[i]? = some x,
  fun i H v H'=>∃ T x,v=.ref T/\H T=none/\(∀ xs,Sq H xs->xs[i]? = some x)/\H'=upd H T (.tup [.int (Int.ofNat i),x]),
  fun i H=>∃ xs,Sq H xs/\xs.length=i⟩
theorem z1h {P:Program} {w:World} {K:PySem.W.Frag} {elts:List Expr} {kt:Nat} {tp:Pos} {e it p:Addr} {Sq:Hp->List V->Prop} {tn:Nat->Heap->Prop} (S:Src P w K it p Sq tn) (hne:e≠it) (hp:e≠p) :
  Turn P w K (.Tuple elts kt tp) (Ite Sq) [e,it] e (fun i h=>(∃ old,IsEnum h e it i old)/\tn i h) where
 mem:=by simp
 obj:=fun i h st b hb=>by
  obtain⟨⟨old,he⟩,st⟩:=st
  simp only[List.mem_cons,List.not_mem_nil,or_false]at hb
  rcases hb with rfl | rfl
  ·exact⟨_,he,fun v e=>nomatch e⟩
  ·obtain⟨o,vs,e,d⟩:=S.obj i h st
   exact⟨o,e,fun v z=>by rw[d]at z; cases z⟩
 keep:=fun i h h' st k=>by
  obtain⟨⟨old,he⟩,st⟩:=st
  exact⟨⟨old,k e (by simp) _ he⟩,S.keep i h h' st fun o z=>k it (by simp) o z⟩
 item:=by
  intro X hP hw hK hc i pins s σ H E I hf st hg
  obtain⟨⟨old,he⟩,st⟩:=st
  obtain⟨xs,x,hq,hx⟩:=hg
  obtain⟨us,St,rv,D,s1,s2,inj⟩:=S.draw X hP hw hK hc pins s σ H xs I hq
  obtain⟨u,hu,ru⟩:=rv.get hx
  have hlt:i<us.length:=(List.getElem?_eq_some_iff.mp hu).1
  refine wpAny_pyNext_enum_itemD D he (s1 i st) hlt hne (by simp[hne,hp]) fun u' g tk hP' ho hs' hT hsz hk=>?_
  have eu:u'=u:=by rw[hu]at hP'; exact(Option.some.inj hP').symm
  subst eu
  refine⟨_,rfl,wpAny_letOwnedTupleGo_enum (s:={ s with heap:=g,toks:=tk+1 }) ho fun g' he' sb=>?_⟩
  have sb':Heap.SameBut e g g':=sb
  have fr:H s.heap.objs.size=none:=I.hok.fresh (Nat.le_refl _)
  have ri:x4k (.int (Int.ofNat i)) (.int i tk):=⟨tk,rfl⟩
  have I1:Inv X pins σ (upd H s.heap.objs.size (.tup [.int (Int.ofNat i),x])) { s with heap:=s.heap.push { cls:=.type "tuple",data:=.seq #[.int i tk,u'] } }:=
   I.laid (t':=s.toks) (fun b q e=>Heap.get?_push_of_some _ e) (Nat.le_refl _) (show x3n X.prog X.w _ _ _ (.tup _)from⟨(by show 2<=sizeLine; decide),[.int i tk,u'],.cons ri (.cons ru .nil),x5t.new _ _⟩)
  have lt:∀ b ∈ [e,it],b<s.heap.objs.size:=fun b hb=>by
   simp only[List.mem_cons,List.not_mem_nil,or_false]at hb
   rcases hb with rfl | rfl
   ·exact Heap.lt_size he
   ·obtain⟨o,_,e,_⟩:=S.obj i _ st; exact Heap.lt_size e
  have hn:∀ b ∈ [e,it],upd H s.heap.objs.size (.tup [.int (Int.ofNat i),x]) b=none:=fun b hb=>by rw[x0p (Nat.ne_of_lt (lt b hb))]; exact(hf b hb).1
  have I2:Inv X pins σ (upd H s.heap.objs.size (.tup [.int (Int.ofNat i),x])) { s with heap:=g',toks:=tk+1 }:=z7g (s:={ s with heap:=s.heap.push { cls:=.type "tuple",data:=.seq #[.int i tk,u'] } }) (t':=tk+1) (ch:=[e,it]) I1 (fun b q nb z=>by
   have b1:b≠e:=fun h=>nb (by simp[h])
   have b2:b≠it:=fun h=>nb (by simp[h])
   rcases Heap.get?_push_cases z with⟨rfl,rfl⟩ | z'
   ·exact sb'.extBut _ _ b1 hT
   ·exact sb'.extBut _ _ b1 (hk b q b1 b2 z')) fun b hb=>by
     obtain⟨f0,f1,f2,f3,f4,f5⟩:=hf b hb
     exact⟨hn b hb,f1,f2,f3,f4,f5⟩
  refine⟨.ref s.heap.objs.size,_,I2,rfl,⟨s.heap.objs.size,x,rfl,fr,fun zs hz=>?_,rfl⟩,⟨⟨_,he'⟩,?_⟩,hn⟩
  ·rw[inj zs hz]; exact hx
  ·exact S.keep _ _ _ (s2 _ _ hs') fun o z=>sb'.extBut _ _ (Ne.symm hne) z
 done:=by
  intro X hP hw hK hc i pins s σ H E I hf st hg
  obtain⟨⟨old,he⟩,st⟩:=st
  obtain⟨xs,hq,hx⟩:=hg
  obtain⟨us,St,rv,D,s1,s2,inj⟩:=S.draw X hP hw hK hc pins s σ H xs I hq
  have hl:us.length=i:=by rw[<- rv.length]; exact hx
  subst hl
  refine wpAny_pyNext_enum_endD D he (s1 _ st) fun g kp=>⟨rfl,?_⟩
  obtain⟨f0,f1,f2,f3,f4,f5⟩:=hf it (by simp)
  exact I.turned (t':=s.toks) (fun b o hb z=>kp b o hb z) f0 f1 f3 f4 f5
 self:=fun _ _ _ _ _ st h=>by
  obtain⟨⟨old,he⟩,_⟩:=st
  exact wpAny_pyIter_enum he h
section
variable {X:Cx} {a b c e:Expr} {es elts:List Expr} {fa fb fc f:Den} {g:x1o} {pos p p1 p2 tp:Pos} {kt:Nat}
noncomputable def j7j (K:PySem.W.Frag) (ta:TA):TI:=fun σ H R=>ta σ H fun vs H1=>∃ p,vs=[.ref p]/\(((∃ xs,SqL K H1 p xs)/\R (Ite fun H xs=>SqL K H p xs) H1)\/((∃ xs,SqT K H1 p xs)/\R (Ite fun H xs=>SqT K H p xs) H1))
theorem z9s {ta:TA} (hg:Gl X "enumerate") (hm:X.mg "enumerate" = none) (ha:PA X [a] ta) (hs:starEach [a] X.env=[(false,eval a X.env)]:=by rfl) :
  PI X (.Tuple elts kt tp) (.Call (.Name "enumerate" p) [a] [] pos) (j7j X.K ta):=by
 intro pins s σ H R I h
 refine Call_ (y0m I hg hm boot_enumerate (PyProof.Rows.callWith_type1 (thn (ha pos pins s σ H _ I h) fun us s1 ⟨vs,H1,I1,r1,q1⟩=>?_) hs rfl))
 obtain⟨q,ee,hq⟩:=q1
 subst ee
 cases r1 with
 | cons r rr=>
  cases rr
  cases r
  have ne1:s1.heap.objs.size+1≠s1.heap.objs.size:=Nat.succ_ne_self _
  have fin:∀ {g:Heap} {Sq:Hp->List V->Prop} {tn:Nat->Heap->Prop},q<s1.heap.objs.size->Src X.prog X.w X.K s1.heap.objs.size q Sq tn->IsEnum g (s1.heap.objs.size+1) s1.heap.objs.size 0 .none->tn 0 g->(∀ b o,s1.heap.get? b=some o->g.get? b=some o)->R (Ite Sq) H1->
    wpAny (model X.prog X.w) X.A (pyIter (.ref (s1.heap.objs.size+1))) (PIE X pins σ (.Tuple elts kt tp) R) X.xe { s1 with heap:=g }:=fun {g Sq tn} lq S he ht kp hR=>by
   have ne2:s1.heap.objs.size+1≠q:=Nat.ne_of_gt (Nat.lt_succ_of_lt lq)
   refine wpAny_pyIter_enum he ⟨s1.heap.objs.size+1,[s1.heap.objs.size+1,s1.heap.objs.size],_,_,H1,rfl,I1.kept (t':=s1.toks) kp,z1h S ne1 ne2,⟨⟨_,he⟩,ht⟩,fun b hb=>?_,hR⟩
   have far:s1.heap.objs.size<=b:=by
    simp only[List.mem_cons,List.not_mem_nil,or_false]at hb
    rcases hb with rfl | rfl
    ·exact Nat.le_add_right _ _
    ·exact Nat.le_refl _
   exact I1.fpOk far (I1.hok.fresh far)
  rcases hq with⟨⟨xs,hx⟩,hR⟩ | ⟨⟨xs,hx⟩,hR⟩
  ·obtain⟨its,rv,pl,_⟩:=I1.list hx
   have lq:q<s1.heap.objs.size:=by obtain⟨_,e,_⟩:=pl.isList; exact Heap.lt_size e
   exact call_enumerate_list pl.isList fun g he hi _ kp=>fin lq (z2b (Nat.ne_of_lt lq)) he hi kp hR
  ·obtain⟨its,rv,pl,_⟩:=I1.tuple hx
   have lq:q<s1.heap.objs.size:=by obtain⟨_,e,_⟩:=pl; exact Heap.lt_size e
   exact z0s (show s1.heap.IsTuple q its.toArray from pl) fun g he hi _ kp=>fin lq (z9g (Nat.ne_of_lt lq)) he hi kp hR
noncomputable def y1j (ds:List D):List D:=ds.zipIdx.map fun x=>.tup [.int (Int.ofNat x.2),x.1]
theorem x89 (ds:List D):(y1j ds).length=ds.length:=by simp[y1j]
theorem y4z (ds:List D) (i:Nat):(y1j ds)[i]? = (ds[i]?).map fun d=>.tup [.int (Int.ofNat i),d]:=by
 simp only[y1j,List.getElem?_map,List.getElem?_zipIdx,Option.map_map]
 cases ds[i]? with
 | none=>rfl
 | some d=>simp
@[simp] noncomputable def y84 (g:x1o):y1v:=fun ρ=>match g ρ with
 | some ([.lst ds],ρ1)=>if ds.length<=1000 then some (y1j ds,ρ1)else none
 | some ([.tup ds],ρ1)=>if ds.length<=1000 then some (y1j ds,ρ1)else none
 | _=>none
theorem It.enum {K:PySem.W.Frag} {Sq:Hp->List V->Prop} {vs:List V} {ds:List D} {P:Hp->Wn->Prop} (hl:ds.length=vs.length) (sq:∀ H w,P H w->Sq H vs/\Reps K H w .f 0 ds vs []) (ps:∀ H w H' w',P H w->WL K w H->x79 H w H' w'->P H' w'):ItOk K (Ite Sq) (y1j ds) P:=by
 refine⟨fun i H w p hi=>⟨vs,vs[i]'(by rw[x89]at hi; omega),(sq H w p).1,by simp⟩,fun i H w x H' d p wl hd y=>?_,fun H w p=>⟨vs,(sq H w p).1,by rw[x89]; exact hl.symm⟩,ps⟩
 obtain⟨T,v,rfl,hT,hv,rfl⟩:=y
 obtain⟨q1,r1⟩:=sq H w p
 rw[y4z]at hd
 cases hz:ds[i]? with
 | none=>rw[hz]at hd; cases hd
 | some d0=>
  rw[hz]at hd
  cases hd
  obtain⟨v',hv',rv⟩:=r1.get hz
  have ev:v'=v:=by have:=hv vs q1; rw[hv']at this; exact Option.some.inj this
  subst ev
  have mo:∀ a o,H a=some o->upd H T (.tup [.int (Int.ofNat i),v']) a=some o:=fun a o e=>by rw[x0p (x1c e hT)]; exact e
  have st:x79 H w (upd H T (.tup [.int (Int.ofNat i),v'])) w:=fun a x e n=>⟨sm (mo a x e),n⟩
  exact⟨⟨mo,fun t=>t.upd rfl (.inl hT)⟩,.tup x21 (.cons (F:=[]) (G:=[]) (.int _) (.cons (F:=[]) (G:=[]) (Rep.go0 rv wl st) .nil (fun _ z=>nomatch z)) (fun _ z=>nomatch z)),ps _ _ _ _ p wl st⟩
theorem z51 (hm:X.mg "enumerate" = none) (ha:PDA X [a] g) (hg:Gl X "enumerate":=by rfl) (hs:starEach [a] X.env=[(false,eval a X.env)]:=by rfl) :
  PDI X (.Tuple elts kt tp) (.Call (.Name "enumerate" p) [a] [] pos) (y84 g):=PI.imp (z9s hg hm ha hs) fun σ H R hh0=>by
 obtain⟨ρ,w,t,ds,ρ',gd,ee,k⟩:=hh0
 unfold y84 at ee
 split at ee
 ·rename_i d1 ρ1 h1
  split at ee
  ·rename_i hl
   cases ee
   refine⟨ρ,w,t,_,_,gd,h1,fun vs H1 w1 g1 go1 r1=>?_⟩
   obtain⟨v,rfl,rv⟩:=one r1
   have hz:(y1j d1).length<sizeLine:=by rw[x89]; exact x3q hl
   cases rv with
   | kl h r=>exact⟨_,rfl,.inl ⟨⟨_,h.sq⟩,k _ _ H1 w1 g1 go1 (It.enum (P:=fun H w=>(KL X.K _ _\/False)/\Reps X.K H w .f 0 d1 _ []) r.length (fun H w p=>⟨p.1.elim (fun z=>z.sq) fun z=>z.elim,p.2⟩) fun H w H' w' p wl st=>⟨p.1,Reps.go wl st p.2 (fun _ z=>nomatch z)⟩) ⟨.inl h,r⟩ hz⟩⟩
   | shr h n r=>exact⟨_,rfl,.inl ⟨⟨_,.inl h⟩,k _ _ H1 w1 g1 go1 (It.enum (P:=fun H w=>(Rd H _ (.lst _)/\w _=none)/\Reps X.K H w .f 0 d1 _ []) r.length (fun H w p=>⟨.inl p.1.1,p.2⟩) fun H w H' w' p wl st=>⟨RdL.go st p.1.2 p.1.1,Reps.go wl st p.2 (fun _ z=>nomatch z)⟩) ⟨⟨h,n⟩,r⟩ hz⟩⟩
  ·cases ee
 ·rename_i d1 ρ1 h1
  split at ee
  ·rename_i hl
   cases ee
   refine⟨ρ,w,t,_,_,gd,h1,fun vs H1 w1 g1 go1 r1=>?_⟩
   obtain⟨v,rfl,rv⟩:=one r1
   have hz:(y1j d1).length<sizeLine:=by rw[x89]; exact x3q hl
   obtain⟨p1,as,rfl,q1,s1⟩:=rv.seqT
   exact⟨p1,rfl,.inr ⟨⟨_,q1⟩,k _ _ H1 w1 g1 go1 (It.enum (P:=fun H w=>SqT X.K H p1 as/\Reps X.K H w .f 0 d1 as []) s1.length (fun H w p=>p) fun H w H' w' p wl st=>⟨SqT.go wl st p.1,Reps.go wl st p.2 (fun _ z=>nomatch z)⟩) ⟨q1,s1⟩ hz⟩⟩
  ·cases ee
 ·cases ee
end
end L3
namespace L3
open PySem PySem.Spec PyProof.Rows PySem.W L2
theorem z9n {P:Program} {w:World} {H:Hp} {h:Heap} {a:Addr} {o:HO} (x:x3n P w H h a o):∃ ob,h.get? a=some ob:=by
 cases o with
 | lst xs=>obtain⟨_,_,_,_,e⟩:=x; exact⟨_,e⟩
 | tup xs=>obtain⟨_,_,_,o,e,_⟩:=x; exact⟨_,e⟩
 | dK kvs=>obtain⟨_,_,_,_,o,_,_,e,_⟩:=x; exact⟨_,e⟩
 | dT kvs=>obtain⟨_,_,_,_,o,_,_,e,_⟩:=x; exact⟨_,e⟩
 | set S n=>obtain⟨o,_,_,_,e,_⟩:=x; exact⟨_,e⟩
 | ins C dx fs=>obtain⟨_,_,_,e,_⟩:=x; exact⟨_,e⟩
 | own y=>obtain⟨_,e⟩:=x; exact⟨_,e⟩
 | xd fs=>obtain⟨_,⟨_,_,_,e,_⟩,_⟩:=x; exact⟨_,e⟩
 | rng lo hi=>obtain⟨_,_,_,e⟩:=x; exact⟨_,e⟩
 | frz ob u=>obtain⟨e,_⟩:=x; exact⟨_,e⟩
 | tbl ps=>exact⟨_,(show h.get? a=some _ from x)⟩
 | met f y=>exact⟨_,(show h.get? a=some _ from x)⟩
 | ext φ=>obtain⟨_,⟨_,e⟩,_⟩:=x; exact⟨_,e⟩
theorem y60 {P:Program} {w:World} {H:Hp} {h h':Heap} (x:HOk P w H h) (k:∀ b u o,H b=some u->h.get? b=some o->h'.get? b=some o):HOk P w H h':=fun b u e=>
 (x b u e).stay (fun c o hc q=>by
  rcases hc with z | z
  ·rw[z]at q ⊢; exact k b u o e q
  ·exact k c _ o z q) (fun _ q=>q) fun _ _ q=>q
structure Fly (P:Program) (w:World) (outer:List Env) (H:Hp) (s:Shared) (a C t:Addr) (B:Heap) (H':Hp) (s':Shared):Prop where
 os:s'.os=s.os
 bare:AllBare s'.gens
 un:Un (frs outer) [] H H' s.heap s'.heap
 hok:HOk P w H' s'.heap
 fl:Heap.FlyingW B outer a (.ref C) (.ref t) s'.heap
 old:∀ b o,s.heap.get? b=some o->H b=none->b ∉ frs outer->B.get? b=some o
 oldT:∀ b o,s.heap.get? b=some o->b ∉ frs outer->∃ o',B.get? b=some o'
 trk:∀ b u o,H' b=some u->s'.heap.get? b=some o->B.get? b=some o
 free:H' a=none
noncomputable def CXF (P:Program) (w:World):CXT:=fun outer H s E e s'=>∃ (a C t:Addr) (B:Heap) (H':Hp),e=.ref a/\Fly P w outer H s a C t B H' s'/\E (.ref C) none H'
section
variable {P:Program} {w:World} {K:PySem.W.Frag} {mg:Str->Option Value} {base:Heap} {N:List Str} {qual:Str} {scope:Scope} {f:Addr} {cd:Value} {A:Around} {outer:List Env} {s₀:Shared} {H₀:Hp} {E:XK} {pins:List (Addr × Obj)} {σ:St} {H:Hp} {s:Shared}
noncomputable abbrev cxF (P:Program) (w:World) (K:PySem.W.Frag) (mg:Str->Option Value) (base:Heap) (N:List Str) (qual:Str) (scope:Scope) (f:Addr) (cd:Value) (A:Around) (outer:List Env) (s₀:Shared) (H₀:Hp) (E:XK):Cx:=y94 (CXF P w) P w K mg base N qual scope f cd A outer s₀ H₀ E
theorem y4x (I:Inv (cxF P w K mg base N qual scope f cd A outer s₀ H₀ E) pins σ H s) {b:Addr} (hb:b∈frs outer) {o:Obj} (e:s.heap.get? b=some o):∀ vs,o.data ≠ .fields vs:=by
 obtain⟨_,o',ho,hd⟩:=I.funs.mem hb
 rw[e]at ho; cases ho
 exact hd
theorem y5f {h':Heap} {e C:Addr} {vs:List Value} (I:Inv (cxF P w K mg base N qual scope f cd A outer s₀ H₀ E) pins σ H s) (hm:Heap.MadeExcOf s.heap h' e (.ref C) vs) (hE:E (.ref C) none H) :
  (cxF P w K mg base N qual scope f cd A outer s₀ H₀ E).xe (.ref e) { s with heap:=h' }:=by
 have nL:∀ b o,s₀.heap.get? b=some o->b≠s₀.heap.objs.size:=fun b o q=>Nat.ne_of_lt (Heap.lt_size q)
 have hid:∀ b o,s.heap.get? b=some o->b≠s₀.heap.objs.size->b ∉ frs outer->(hideAll s.heap (frs (envOfC qual scope s₀.heap.objs.size f cd::outer))).get? b=some o:=fun b o q n1 n2=>hideAll_get _ q fun hm=>by
  rcases List.mem_cons.mp (show b∈s₀.heap.objs.size::frs outer from hm)with z | z
  ·exact n1 z
  ·exact n2 z
 have hin:∀ env∈(envOfC qual scope s₀.heap.objs.size f cd::outer),∀ b,env.frame=some b->b∈frs (envOfC qual scope s₀.heap.objs.size f cd::outer):=fun env he b hb=>List.mem_filterMap.mpr ⟨env,he,hb⟩
 have nstk:∀ b u,H b=some u->b≠s₀.heap.objs.size/\b ∉ frs outer:=fun b u q=>by
  refine⟨fun z=>?_,fun z=>?_⟩
  ·have:=I.free
   rw[z]at q
   have this':H s₀.heap.objs.size=none:=this
   rw[this']at q; cases q
  ·have:=I.stkFree b (List.mem_cons_of_mem _ z)
   rw[this]at q; cases q
 have base0:Un (frs outer) [] H₀ H s₀.heap s.heap:=I.base
 show wpAny _ _ (leaving (envOfC qual scope s₀.heap.objs.size f cd) (.ref e)) _ _ _
 refine wpAny_leaves_madeW (s:={ s with heap:=h' }) (L:=s₀.heap.objs.size) (outer:=outer) I.ok.frames rfl (fun b o q=>of_hideAll _ q) (funFrames_hide I.stack hin) hm fun h2 t fl _ _ up=>?_
 have old:∀ b o,s₀.heap.get? b=some o->H₀ b=none->b ∉ frs outer->(hideAll s.heap (frs (envOfC qual scope s₀.heap.objs.size f cd::outer))).get? b=some o:=fun b o q n hb=>hid b o (base0.keep b o q n hb (by simp)) (nL b o q) hb
 have slot:∀ b o,s.heap.get? b=some o->b∈frs outer->∃ sl,h2.get? b=some { o with slots:=sl }:=fun b o q hb=>up b o (hm.keeps b o q) (y4x I hb q)
 have trk:∀ b u o,H b=some u->s.heap.get? b=some o->(hideAll s.heap (frs (envOfC qual scope s₀.heap.objs.size f cd::outer))).get? b=some o:=fun b u o q e=>hid b o e (nstk b u q).1 (nstk b u q).2
 refine⟨e,C,t,_,H,rfl,⟨I.os,I.bare,⟨fun b o q n hb _=>fl.1 b o (old b o q n hb),fun b o q n hb _=>?_,fun b o q n _=>base0.free b o q n (by simp),fun b o q _=>?_,base0.tups,base0.frzs,base0.tbls⟩,y60 I.hok fun b u o q e=>fl.1 b o (trk b u o q e),fl,old,fun b o q hb=>?_,fun b u o q e=>?_,?_⟩,hE⟩
 ·obtain⟨sl,q1⟩:=base0.slot b o q n hb (by simp)
  obtain⟨sl',q2⟩:=slot b _ q1 hb
  exact⟨sl',q2⟩
 ·obtain⟨o',q1⟩:=base0.there b o q (by simp)
  by_cases hb:b∈frs outer
  ·obtain⟨sl,q2⟩:=slot b o' q1 hb
   exact⟨_,q2⟩
  ·exact⟨o',fl.1 b o' (hid b o' q1 (nL b o q) hb)⟩
 ·obtain⟨o',q1⟩:=base0.there b o q (by simp)
  exact⟨o',hid b o' q1 (nL b o q) hb⟩
 ·obtain⟨o1,q1⟩:=z9n (I.hok b u q)
  have q2:=trk b u o1 q q1
  have q3:=fl.1 b o1 q2
  have e':h2.get? b=some o:=e
  rw[q3]at e'; cases e'
  exact q2
 ·cases q:H e with
  | none=>rfl
  | some u=>
   obtain⟨o1,q1⟩:=z9n (I.hok e u q)
   rw[hm.new]at q1; cases q1
theorem j1a {E':XK} (hE:∀ C H',E' (.ref C) none H'->E (.ref C) none H') (I:Inv (cxF P w K mg base N qual scope f cd A outer s₀ H₀ E) pins σ H s) {e:Value} {s':Shared} (h:CXF P w (envOfC qual scope s₀.heap.objs.size f cd::outer) H s E' e s') :
  (cxF P w K mg base N qual scope f cd A outer s₀ H₀ E).xe e s':=by
 obtain⟨a,C,t,B,H',rfl,F,hE'⟩:=h
 have nL:∀ b o,s₀.heap.get? b=some o->b≠s₀.heap.objs.size:=fun b o q=>Nat.ne_of_lt (Heap.lt_size q)
 have base0:Un (frs outer) [] H₀ H s₀.heap s.heap:=I.base
 have nst:∀ b o,s₀.heap.get? b=some o->b ∉ frs outer->b ∉ frs (envOfC qual scope s₀.heap.objs.size f cd::outer):=fun b o q n hm=>by
  rcases List.mem_cons.mp (show b∈s₀.heap.objs.size::frs outer from hm)with z | z
  ·exact nL b o q z
  ·exact n z
 show wpAny _ _ (leaving (envOfC qual scope s₀.heap.objs.size f cd) (.ref a)) _ _ _
 refine wpAny_leaves_onW (L:=s₀.heap.objs.size) (outer:=outer) I.ok.frames rfl F.fl fun h2 fl up=>?_
 have old:∀ b o,s₀.heap.get? b=some o->H₀ b=none->b ∉ frs outer->B.get? b=some o:=fun b o q n hb=>F.old b o (base0.keep b o q n hb (by simp)) (base0.free b o q n (by simp)) (nst b o q hb)
 have slot:∀ b o,s.heap.get? b=some o->H b=none->b∈frs outer->∃ sl,h2.get? b=some { o with slots:=sl }:=fun b o q n hb=>by
  obtain⟨sl,q1⟩:=F.un.slot b o q n (List.mem_cons_of_mem _ hb) (by simp)
  obtain⟨sl',q2⟩:=up b _ q1 (fun vs z=>y4x I hb q vs z)
  exact⟨sl',q2⟩
 have fH:∀ b∈frs outer,H b=none:=fun b hb=>I.stkFree b (List.mem_cons_of_mem _ hb)
 refine⟨a,C,t,B,H',rfl,⟨F.os.trans I.os,F.bare,⟨fun b o q n hb _=>fl.1 b o (old b o q n hb),fun b o q n hb _=>?_,fun b o q n _=>?_,fun b o q _=>?_,fun b xs q=>F.un.tups b xs (base0.tups b xs q),fun b o u q=>F.un.frzs b o u (base0.frzs b o u q),fun b ps q=>?_⟩,y60 F.hok fun b u o q e=>fl.1 b o (F.trk b u o q e),fl,old,fun b o q hb=>?_,fun b u o q e=>?_,F.free⟩,hE C H' hE'⟩
 ·obtain⟨sl,q1⟩:=base0.slot b o q n hb (by simp)
  obtain⟨sl',q2⟩:=slot b _ q1 (fH b hb) hb
  exact⟨sl',q2⟩
 ·obtain⟨o',q1⟩:=base0.there b o q (by simp)
  exact F.un.free b o' q1 (base0.free b o q n (by simp)) (by simp)
 ·obtain⟨o',q1⟩:=base0.there b o q (by simp)
  by_cases hb:b∈frs outer
  ·obtain⟨sl,q2⟩:=slot b o' q1 (fH b hb) hb
   exact⟨_,q2⟩
  ·obtain⟨o2,q2⟩:=F.oldT b o' q1 (nst b o q hb)
   exact⟨o2,fl.1 b o2 q2⟩
 ·obtain⟨m1,e1⟩:=base0.tbls b ps q
  obtain⟨m2,e2⟩:=F.un.tbls b _ e1
  exact⟨m1++m2,by rw[e2,Array.append_assoc]⟩
 ·obtain⟨o',q1⟩:=base0.there b o q (by simp)
  exact F.oldT b o' q1 (nst b o q hb)
 ·obtain⟨o1,q1⟩:=z9n (F.hok b u q)
  have q2:=F.trk b u o1 q q1
  have q3:=fl.1 b o1 q2
  have e':h2.get? b=some o:=e
  rw[q3]at e'; cases e'
  exact q2
end
structure XNm (K:Frag) (mg:Str->Option Value) (nm:Str) (C:Addr):Prop extends XKls K nm C where
 mg:mg nm=some (.ref C)
theorem z8p {K:Frag} {h:Heap} {C:Addr} {bmB:List Value} {newId:String} (X:K.In h) (q:excIn K C bmB newId=true) :
  ∃ bm N nm q bs hdct sn sub ab col dd k0 k1 k2 k3 k5 mN,h.get? C=some (excClassObj nm q C N bs bm hdct sn sub ab col dd k0 k1 k2 k3 k5 newId)/\h.Ns N mN/\mN "__init__" = none/\OwnTail h bmB bm:=by
 unfold excIn at q
 split at q
 ·rename_i dd cd sl ho
  split at q
  ·rename_i C' bm k0 k1 k2 k3 n k5 hm hs
   simp only[Bool.and_eq_true,beq_iff_eq,Bool.not_eq_true']at q
   obtain⟨⟨⟨⟨⟨rfl,rfl⟩,hdel⟩,ht⟩,hok⟩,hni⟩:=q
   obtain⟨nm,bs,mro,ns,qn,hd,sn,sub,ab,col,del⟩:=cd
   dsimp only at hm hdel hok hni
   subst hm hdel
   have hsl:sl = #[k0,k1,k2,k3,some (.builtin n),k5]:=by
    obtain⟨l⟩:=sl
    simp only at hs
    rw[hs]
   subst hsl
   exact⟨bm,ns,nm,qn,bs,hd,sn,sub,ab,col,dd,k0,k1,k2,k3,k5,_,X _ _ ho,.of_isNs (isNs_of_in X hok),nsMap_none_of_in X hok hni,tail_of_in X ht⟩
  ·cases q
 ·cases q
section
variable {P:Program} {w:World} {K:PySem.W.Frag} {mg:Str->Option Value} {base:Heap} {N:List Str} {qual:Str} {scope:Scope} {f:Addr} {cd:Value} {A:Around} {outer:List Env} {s₀:Shared} {H₀:Hp} {E:XK} {pins:List (Addr × Obj)} {σ:St} {H:Hp} {s:Shared}
theorem z3a {nm txt:Str} {C:Addr} {j:Nat} {np cpos tpos pos:Pos} (hA:A.handled=none) (hC:XNm K mg nm C) (hg:Gl (cxF P w K mg base N qual scope f cd A outer s₀ H₀ E) nm) (hdb:(nm == ("__debug__":Str))=false:=by decide) :
  PS (cxF P w K mg base N qual scope f cd A outer s₀ H₀ E) (.Raise (some (.Call (.Name nm np) [.Constant (.str txt) j tpos] [] cpos)) none pos) (fun _ _ H=>E (.ref C) none H):=by
 intro pins s σ H D I h
 obtain⟨tl,Nn,nm',q,bs,hdct,sn,sub,ab,col,dd,k0,k1,k2,k3,k5,mN,hC',hN,hni,T⟩:=z8p I.mod.kin hC.ex
 refine wpAny_Raise_call_subT (C:=C) (nm:=nm') (q:=q) (N:=Nn) (bs:=bs) (bm:=tl) (hdct:=hdct) (sn:=sn) (sub:=sub) (ab:=ab) (col:=col) (dd:=dd) (k0:=k0) (k1:=k1) (k2:=k2) (k3:=k3) (k5:=k5)
  PySem.F.excBase_ValueError (mN:=mN) (T.hasType PySem.F.excBase_ValueError.hasBase) hA rfl hni (y12 I hg hC.mg ⟨rfl,?_⟩ hdb)
 refine Calls.evalArgs_plain (Calls.spliced_cons (thn (z5x (j:=j) (pos:=tpos) pins s σ H (fun v H1=>v=.str txt/\H1=H) I ⟨rfl,rfl⟩) fun u s1 hh0=>?_))
 obtain⟨v,H1,I1,r1,e1,e2⟩:=hh0
 subst e1 e2
 refine Calls.spliced_nil ⟨rfl,by show 1<=sizeLine; decide,I1.bk _ _ hC',hN.keeps I1.bk,T.keeps I1.bk,fun h' e hm=>y5f I1 hm h⟩
end
noncomputable abbrev x4o:=Rho->Option Str
noncomputable def tX (K:PySem.W.Frag) (x:x4o) (E:XK):TS:=fun _ σ H=>∃ ρ w nm,Good K ρ σ H w 0/\x ρ=some nm/\∀ C H' w',nsIn K mainGlobals nm=some (some (.ref C))->WL K w' H'->Go H w H' w'->E (.ref C) none H'
noncomputable def spX (K:PySem.W.Frag) (n:Nat) (F:List D->Option Str):Sp:=fun vs H _ E=>vs.length=n/\∃ ds w nm,(∀ a o,w a=some o->o=.f)/\WL K w H/\Reps K H w .f 0 ds vs []/\F ds=some nm /\
 ∀ C H' w',nsIn K mainGlobals nm=some (some (.ref C))->WL K w' H'->Go H w H' w'->E (.ref C) none H'
noncomputable def fnX (n:Nat) (x:x4o):List D->Option Str:=fun ds=>x (x3z n ds)
noncomputable def x8k (P:Program) (w:World) (K:PySem.W.Frag) (mg:Str->Option Value) (base:Heap) (k:Nat) (x:Str) (n:Nat) (F:List D->Option Str):Prop:=
 ∃ f fd ps,FnOk P w K mg base (CXF P w) k f fd ps (spX K n F)/\mg x=some (.ref f)/\PySem.W.keepIn K (.ref f)=true/\y37 K fd ps []
theorem x8k.mk {P:Program} {w:World} {K:PySem.W.Frag} {mg:Str->Option Value} {base:Heap} {k:Nat} {x:Str} {st:Stmt} {N ps:List Str} {xb:x4o} (a:At K mg x st ps) (S:FnScope N ps (x0b st))
  (h:∀ (f:Addr) (cdv:Value) (A:Around) (outer:List Env) (s:Shared) (H:Hp) (E:XK),Room k (A.deeper (envOfC x (x0b st) s.heap.objs.size f cdv))->PSs (cxF P w K mg base N x (x0b st) f cdv A outer s H E) (x36 st) (tX K xb E)) :
  x8k P w K mg base (k+1) x ps.length (fnX N.length xb):=by
 obtain⟨f,fd,F,m,b⟩:=a
 refine⟨f,fd,ps,?_,m,F.kp,b⟩
 obtain⟨oc,od,kV,doc,pm,an,cdv,ct,osl,rfl,lk,hcd⟩:=F.ex
 refine j3c lk hcd S (fun vs H Q E h=>h.1) fun A outer s H vs Q E hr hsp=>⟨_,h f cdv A outer s H E hr,?_⟩
 obtain⟨hn,ds,w,nm,hw,wl,rs,e,k⟩:=hsp
 exact⟨_,w,nm,x8x hw wl rs,e,k⟩
noncomputable def y14 (F:List D->Option Str) (n:Nat) (g:x1o):x4o:=fun ρ=>match g ρ with
 | some (ds,_)=>if ds.length=n then F ds else none
 | none=>none
theorem z2t {M:Model} {A:Around} {E:Value->Shared->Prop} {K:Frag} {s:Shared} {x C R:Addr} {ox:Obj} {Q:Bool->Shared->Prop} (X:K.In s.heap) (I:XAt s.heap x ox C) (hR:XCls K R) (hty:typeIn K (.ref R)=some (.type "type"))
  (hsub:subIn K (.ref C) (.ref R)=some true) (h:Q true s):wpAny M A (excMatches (.ref x) (.ref R)) Q E s:=by
 obtain⟨h0,g,d,tt,os⟩:=s
 have L0:=I.type (M:=M)
 have L1:=looks_typeIn (M:=M) X hty
 have L2:=x63 (M:=M) X hR.ci
 have L3:=looks_mroIn (M:=M) X hR.mb
 have L4:=looks_subIn (M:=M) X hsub
 have f:=tc_notTuple
 have L5:Looks M h0 (isSubtype (.type "type") (.type "tuple")) false:=Looks.of_pure f
 unfold excMatches isInstance isExcClass
 repeat (first | lk | wp_step)
 exact h
section
variable {X:Cx} {pins:List (Addr × Obj)} {σ:St} {H H':Hp} {s s':Shared} {a C t:Addr} {B:Heap}
theorem z1n {M:Model} {A:Around} {E:Value->Shared->Prop} {i:Nat} {x:Str} {pos:Pos} {Q:Unit->Shared->Prop} (I:Inv X pins σ H s) (hN:X.N.Nodup) (hi:X.N[i]? = some x) (hx:X.env.scope.names.lookup x=some .local)
  (h:∀ s',Inv X pins (σ.set i none) H s'->Q () s'):wpAny M A (do bindName X.env x .none; unbindBehindTheSuite X.env x pos) Q E s:=by
 obtain⟨m,hn,hl⟩:=id I.loc
 have hcls:(X.env.scope.kind == .class || (X.env.scope.kind == .module && X.env.locals != X.env.globals))=false:=by rw[I.ok.kind]; rfl
 have hiσ:i<σ.length:=by rw[I.len]; exact(List.getElem?_eq_some_iff.mp hi).1
 have cne:=I.cne
 refine wpAny_nameGoes_keeps hx hn hcls fun h' v hn' hs=>?_
 obtain⟨oL,_,_,hoL,_⟩:=id hn
 have tracked:HOk X.prog X.w H h':=fun b ob e=>by
  refine(I.hok b ob e).stay (fun c w' hc q=>(hs.2 c ?_).trans q) (fun _ q=>q) fun _ _ q=>q
  rintro rfl
  rcases hc with rfl | hc
  ·rw[I.free]at e; cases e
  ·rw[I.free]at hc; cases hc
 refine h _ ⟨I.ok,I.os,I.bare,⟨fun b o e n hb hx=>?_,fun b o e n hb hx=>?_,I.base.free,fun b o e hx=>?_,I.base.tups,I.base.frzs,I.base.tbls⟩,⟨_,hn',fun j y v' e1 e2 e3=>?_⟩,fun y c e=>?_,I.free,I.freeC,fun p hp=>?_,tracked,by simpa using I.len⟩
 ·exact(hs.2 b (Nat.ne_of_lt (Nat.lt_of_lt_of_le (Heap.lt_size e) I.ok.above))).trans (I.base.keep b o e n hb hx)
 ·obtain⟨sl,e1⟩:=I.base.slot b o e n hb hx
  exact⟨sl,(hs.2 b (Nat.ne_of_lt (Nat.lt_of_lt_of_le (Heap.lt_size e) I.ok.above))).trans e1⟩
 ·obtain⟨o',e1⟩:=I.base.there b o e hx
  exact⟨o',(hs.2 b (Nat.ne_of_lt (Nat.lt_of_lt_of_le (Heap.lt_size e) I.ok.above))).trans e1⟩
 ·by_cases hj:j=i
  ·subst hj
   rw[List.getElem?_set_self hiσ]at e2
   cases e2
  ·rw[List.getElem?_set_ne (Ne.symm hj)]at e2
   obtain⟨u',r',q⟩:=hl j y v' e1 e2 e3
   refine⟨u',r',?_⟩
   rcases q with⟨k,e⟩ | ⟨k,c,e,z⟩
   ·refine .inl ⟨k,?_⟩
    have:y≠x:=fun e=>hj (y3n hN e1 (e ▸ hi))
    simp[this,e]
   ·exact .inr ⟨k,c,e,z.sameBut hs (cne y c e)⟩
 ·obtain⟨w',z⟩:=I.cell y c e
  exact⟨w',z.sameBut hs (cne y c e)⟩
 ·obtain⟨e,n,ne,nf,d⟩:=I.pin p hp
  exact⟨(hs.2 p.1 ne).trans e,n,ne,nf,d⟩
noncomputable def j00 (a:Addr) (oe:Obj):HO:=.frz oe (.ext fun h=>h.get? a=some oe)
theorem Fly.un2 (I:Inv X pins σ H s) (F:Fly X.prog X.w X.stack H s a C t B H' s') {h':Heap} (fl:Heap.FlyingW B X.stack a (.ref C) (.ref t) h') (up:s'.heap.UpToSlots h'):Un (frs X.stack) [] H H' s.heap h'/\HOk X.prog X.w H' h':=by
 have slot:∀ b o,s.heap.get? b=some o->H b=none->b∈frs X.stack->∃ sl,h'.get? b=some { o with slots:=sl }:=fun b o q n hb=>by
  obtain⟨sl,q1⟩:=F.un.slot b o q n hb (by simp)
  obtain⟨_,o',ho,hd⟩:=I.stack.mem hb
  rw[q]at ho; cases ho
  obtain⟨sl',q2⟩:=up b _ q1 hd
  exact⟨sl',q2⟩
 refine⟨⟨fun b o q n hb _=>fl.1 b o (F.old b o q n hb),fun b o q n hb _=>slot b o q n hb,F.un.free,fun b o q _=>?_,F.un.tups,F.un.frzs,F.un.tbls⟩,y60 F.hok fun b u o q e=>fl.1 b o (F.trk b u o q e)⟩
 by_cases hb:b∈frs X.stack
 ·obtain⟨sl,q2⟩:=slot b o q (I.stkFree b hb) hb
  exact⟨_,q2⟩
 ·obtain⟨o2,q2⟩:=F.oldT b o q hb
  exact⟨o2,fl.1 b o2 q2⟩
theorem Fly.inv (I:Inv X pins σ H s) (F:Fly X.prog X.w X.stack H s a C t B H' s') {h':Heap} (fl:Heap.FlyingW B X.stack a (.ref C) (.ref t) h') (up:s'.heap.UpToSlots h'):Inv X pins σ H' { s' with heap:=h' }:=
 I.call' (s':={ s' with heap:=h' }) F.os (F.un2 I fl up).1 (F.un2 I fl up).2 F.bare (fun b hb=>nomatch hb)
theorem Fly.inv2 (I:Inv X pins σ H s) (F:Fly X.prog X.w X.stack H s a C t B H' s') {h':Heap} (fl:Heap.FlyingW B X.stack a (.ref C) (.ref t) h') (up:s'.heap.UpToSlots h') {oe:Obj} {vs:Array Value} (ho:h'.get? a=some oe) (hd:oe.data=.fields vs) :
  Inv X pins σ (upd H' a (j00 a oe)) { s' with heap:=h' }:=by
 obtain⟨u,hk⟩:=F.un2 I fl up
 have na:∀ b x,H' b=some x->upd H' a (j00 a oe) b=some x:=fun b x q=>by
  unfold upd
  rw[if_neg (fun z=>by rw[z,F.free]at q; cases q)]
  exact q
 have nfr:a ∉ frs X.stack:=fun hb=>by
  obtain⟨_,o',ho',hd'⟩:=fl.2.2.1.mem hb
  rw[ho]at ho'; cases ho'
  exact hd' vs hd
 refine I.call' (s':={ s' with heap:=h' }) F.os ⟨u.keep,u.slot,fun b o q n e=>?_,u.there,fun b xs q=>na b _ (u.tups b xs q),fun b o' u' q=>na b _ (u.frzs b o' u' q),fun b ps q=>?_⟩ (fun b x q=>?_) F.bare (fun b hb=>nomatch hb)
 ·unfold upd
  rw[if_neg (fun z=>?_)]
  ·exact u.free b o q n e
  ·subst z
   obtain⟨o2,q2⟩:=F.oldT b o q nfr
   rw[fl.2.1]at q2; cases q2
 ·obtain⟨m,q1⟩:=u.tbls b ps q
  exact⟨m,na b _ q1⟩
 ·by_cases hb:b=a
  ·subst hb
   unfold upd at q
   rw[if_pos rfl]at q
   cases q
   exact⟨ho,ho,⟨_,ho⟩,fun h1 h2 q1 q2=>q2 _ q1⟩
  ·have q':=q
   unfold upd at q
   rw[if_neg hb]at q
   exact(hk b x q).stay (fun _ _ _ z=>z) (fun c z=>na c _ z) (fun c xs z=>na c _ z)
noncomputable abbrev Cx.mark (X:Cx) (e:Value):Cx:={ X with A:=X.A.mark (some e),calm:=false,xe:=fun _ _=>False }
theorem Inv.mark (I:Inv X pins σ H s) (e:Value):Inv (Cx.mark X e) pins σ H s:=
 ⟨⟨I.ok.mod,I.ok.kind,I.ok.glob,I.ok.blt,I.ok.above,I.ok.inj,I.ok.has,I.ok.cab,(fun z=>by cases z),I.ok.frames,I.ok.stk,I.ok.exf,I.ok.bs,I.ok.bsz,I.ok.noex,I.ok.exfs,I.ok.funs,I.ok.frf⟩,I.os,I.bare,I.base,I.loc,I.cell,I.free,I.freeC,I.pin,I.hok,I.len⟩
theorem Inv.unmark {e:Value} (hX:X.Ok) (I:Inv (Cx.mark X e) pins σ H s):Inv X pins σ H s:=⟨hX,I.os,I.bare,I.base,I.loc,I.cell,I.free,I.freeC,I.pin,I.hok,I.len⟩
theorem z3d {R n kx:Str} {RA:Addr} {np kp vp apos pos:Pos} {ie ik:Nat} {Q:Flow->Shared->Prop} {E:Value->Shared->Prop} (I:Inv X pins σ H s) (F:Fly X.prog X.w X.stack H s a C t B H' s') (hst:X.stack=X.env::X.outer) (hfm:X.env.frame=some X.env.locals)
  (hN:X.N.Nodup) (hie:X.N[ie]? = some n) (hik:X.N[ik]? = some kx) (hne:X.env.scope.names.lookup n=some .local) (hnk:X.env.scope.names.lookup kx=some .local) (hR:XCls X.K RA) (hRt:typeIn X.K (.ref RA)=some (.type "type")) (hsub:subIn X.K (.ref C) (.ref RA)=some true) (hmg:X.mg R=some (.ref RA)) (hg:Gl X R)
  (hdb:(R == ("__debug__":Str))=false) (hdn:(n == ("__debug__":Str))=false) (hcn:(n == ("__classdict__":Str))=false) (hsw:swapsWith (.Name n vp) (some (.Name kx kp)) apos.line X.env=pure false)
  (hQ:∀ s5 oe,oe.cls=.ref C->Inv X pins (((σ.set ie (some (.ref a))).set ik (some (.ref a))).set ie none) (upd H' a (j00 a oe)) s5->Q .next s5) :
  wpAny (model X.prog X.w) X.A (noteFrame (.ref a) X.env) (fun _ s₂=>wpAny (model X.prog X.w) X.A (setFlight (.ref a) none) (fun _ s₃=>
   wpAny (model X.prog X.w) X.A (handleBy (.ref a) X.env [.ExceptHandler (some (.Name R np)) (some n) [.Assign [.Name kx kp] (.Name n vp) apos] pos]) Q E s₃) E s₂) E s':=by
 have hiσ:ie<σ.length:=by rw[I.len]; exact(List.getElem?_eq_some_iff.mp hie).1
 have fl0:=F.fl
 have hst':=hst
 rw[hst]at fl0
 refine wpAny_looks_onW (L:=X.env.locals) (outer:=X.outer) (by rw[<- hst]; exact I.ok.frames) hfm fl0 fun h₄ hheld₄ up₄=>?_
 refine wpAny_landsW hheld₄ fun h₅ fl₅ up₅=>?_
 have fl₅':=fl₅
 rw[<- hst]at fl₅'
 have I5:=F.inv I fl₅' (up₄.trans up₅)
 obtain⟨ob,hob,hobc⟩:=fl₅'.there
 have J5:=Inv.mark I5 (.ref a)
 refine wpAny_handleBy_cons (codeAny_handlers_test (y12 (X:=Cx.mark X (.ref a)) J5 hg hmg ?_ hdb)) (by intro q; cases q)
 refine z2t J5.kIn ⟨hob,hobc⟩ hR hRt hsub ?_
 refine codeAny_handlers_suite_as ?_
 refine lands_againW fl₅ fun h₆ fl₆ up₆=>?_
 have fl₆':=fl₆
 rw[<- hst]at fl₆'
 obtain⟨oe,ws,hoe,hoec,hoed,hoe0⟩:=fl₆'.first
 have I6:=F.inv2 I fl₆' ((up₄.trans up₅).trans up₆) hoe hoed
 refine y32 (v:=.ref a) I6 hN hie (.inl hne) rfl (fun s7 I7=>?_) (.inr hne)
 have J7:=Inv.mark I7 (.ref a)
 have body:=z1s (z68 (X:=Cx.mark X (.ref a)) (i:=ik) (x:=kx) (pos:=apos) (pos':=kp) hN hik (.inl hnk) (pv (X:=Cx.mark X (.ref a)) ie (x:=n) (pos:=vp) hie (.inl hne) hdn hcn) hsw (.inr hnk))
 refine wpAny_mono (body pins s7 _ _ { nx:=fun σ' H1=>σ'=(σ.set ie (some (.ref a))).set ik (some (.ref a))/\H1=upd H' a (j00 a oe),rt:=fun _ _=>False } J7 ⟨.ref a,List.getElem?_set_self hiσ,rfl,rfl⟩) (fun fl s8 q=>?_) (fun _ _ z=>False.elim z)
 cases fl with
 | next=>
  obtain⟨σ8,H8,J8,rfl,rfl⟩:=q
  exact z1n (Inv.unmark I.ok J8) hN hie hne fun s9 I9=>hQ s9 oe hoec I9
 | brk=>obtain⟨_,_,_,z⟩:=q; exact z.elim
 | cont=>obtain⟨_,_,_,z⟩:=q; exact z.elim
 | ret u=>obtain⟨_,_,_,_,_,z⟩:=q; exact z.elim
end
theorem Good.unset {K:PySem.W.Frag} {ρ:Rho} {σ:St} {H:Hp} {w:Wn} {t i:Nat} {v:Option V} (g:Good K ρ σ H w t) (hi:i<σ.length) :
  Good K (ρ.set i none) (σ.set i v) H (x5g i w) t/\Go H w H (x5g i w):=by
 have st:x79 H w H (x5g i w):=fun a x h n=>⟨sm h,x54 n⟩
 refine⟨⟨⟨fun a o h=>g.wl a o (x2y h).1,g.wl.tb⟩,fun a j h=>by rw[List.length_set]; exact g.ws a j (x2y h).1,fun a j h=>g.wt a j (x2y h).1,by rw[List.length_set,List.length_set]; exact g.len,fun j d' q' e'=>?_⟩,⟨st,fun a o h n=>⟨rfl,x6s h (n i)⟩⟩⟩
 by_cases hj:i=j
 ·subst hj
  rw[List.getElem?_set_self (by rw[g.len]; exact hi)]at e'
  cases e'
 ·rw[List.getElem?_set_ne hj]at e'
  obtain⟨v',F,h1,h2⟩:=g.slot j d' q' e'
  exact⟨v',F,by rw[List.getElem?_set_ne hj]; exact h1,Rep.go g.wl st h2 fun a m=>⟨rfl,x6s (h2.owns a m) (fun z=>hj (by cases z; rfl))⟩⟩
theorem Good.grow {K:PySem.W.Frag} {ρ:Rho} {σ:St} {H H':Hp} {w:Wn} {t:Nat} (g:Good K ρ σ H w t) (h:∀ b o,H b=some o->Sm o (H' b)) (tb:TB K H'):Good K ρ σ H' w t/\Go H w H' w:=by
 have st:x79 H w H' w:=fun a x e n=>⟨h a x e,n⟩
 have kp:∀ a o,w a=some o->H' a=H a:=fun a o e=>by
  obtain⟨vs,q⟩:=g.wl a o e
  rw[q,(h a _ q).eq rfl]
 refine⟨⟨⟨fun a o e=>?_,tb⟩,g.ws,g.wt,g.len,fun i d q e=>?_⟩,st,fun a o e _=>⟨kp a o e,e⟩⟩
 ·obtain⟨vs,q⟩:=g.wl a o e
  exact⟨vs,(h a _ q).eq rfl⟩
 ·obtain⟨v,F,h1,h2⟩:=g.slot i d q e
  exact⟨v,F,h1,Rep.go g.wl st h2 fun a m=>⟨kp a _ (h2.owns a m),h2.owns a m⟩⟩
noncomputable def y0f (K:Frag) (mg:Str->Option Value) (R:Str) (L:List Str):Prop:=∃ RA,XCls K RA/\typeIn K (.ref RA)=some (.type "type")/\mg R=some (.ref RA) /\
 ∀ nm∈L,∀ C,nsIn K mainGlobals nm=some (some (.ref C))->XKls K nm C/\subIn K (.ref C) (.ref RA)=some true
end L3
namespace L3
open PySem PySem.Spec PyProof.Rows PySem.W L2 PySem.SeqAt
noncomputable def IsC (K:Frag) (mg:Str->Option Value) (L:List Str) (nm:Str):Prop:=∃ C,mg nm=some (.ref C)/\∀ n∈L,∀ B,nsIn K mainGlobals n=some (some (.ref B))->(n=nm->isIn K (.ref B) C=true)/\(n≠nm->kin_not K B C=true)
section
variable {X:Cx} {a b c e:Expr} {es:List Expr} {fa fb fc f:Den} {ga gb:x1l} {g:x1o} {pos p p1 p2 pT cpos apos:Pos}
theorem z23 {C:Addr} {L:List Str} {nm:Str} (h:∀ n∈L,∀ B,nsIn X.K mainGlobals n=some (some (.ref B))->(n=nm->isIn X.K (.ref B) C=true)/\(n≠nm->kin_not X.K B C=true)) :
  x94 X (.builtin "isinstance") (fun xs H Q=>∃ x w o q F n,xs=[x,.ref C]/\n∈L/\Rep X.K H w o q (.exc n) x F/\Q (.bl (n == nm)) H):=by
 intro pins s σ H xs us Q I r hh
 obtain⟨x,w,o,q,F,n,rfl,hn,rd,hq⟩:=hh
 obtain⟨u,v,rfl,ru,rv⟩:=z2c r
 cases rv
 cases rd with
 | exc ha xo _=>
  obtain⟨B,hc,k⟩:=xo
  cases ru
  obtain⟨e1,_⟩:=(show x3n X.prog X.w H s.heap _ (.frz _ _)from I.hok _ _ ha)
  obtain⟨h1,h2⟩:=h n hn B k.ns
  by_cases z:n=nm
  ·rw[beq_iff_eq.mpr z]at hq
   exact j2o I.kIn ⟨e1,hc⟩ (h1 z) ⟨.bl true,H,I,rfl,hq⟩
  ·rw[beq_eq_false_iff_ne.mpr z]at hq
   exact j5r I.kIn ⟨e1,hc⟩ k.xc (h2 z) ⟨.bl false,H,I.tok _,rfl,hq⟩
noncomputable def z2h (L:List Str) (nm:Str) (fa:Den):Den:=fun ρ=>match fa ρ with
 | some (.exc n,_,ρ1)=>if n∈L then some (.bl (n == nm),9,ρ1)else none
 | _=>none
theorem j1q {L:List Str} {nm:Str} (hC:IsC X.K X.mg L nm) (hm:X.mg "isinstance" = none) (ha:PD X a fa) (hg:Gl X "isinstance":=by rfl) (hgT:Gl X nm:=by rfl) (hdT:(nm == ("__debug__":Str))=false:=by decide)
  (hs:starEach [a,.Name nm pT] X.env=(false,eval a X.env)::starEach [.Name nm pT] X.env:=by rfl) (hpl:(backTo pos (starEach [.Name nm pT] X.env)).any (·.1)=false:=by rfl):PD X (.Call (.Name "isinstance" p) [a,.Name nm pT] [] pos) (z2h L nm fa):=by
 obtain⟨C,hmC,hall⟩:=hC
 refine PE.imp (x4u (z23 hall) hg hm PyProof.Rows.boot_isinstance (x3e ha (x3e (y9c (v:=.ref C) hgT hmC rfl hdT) x78 x05) hs) (by decide) (by decide) hs hpl) fun σ H Q hh0=>?_
 obtain⟨ρ,w,t,r',q,ρ',gd,ee,k⟩:=hh0
 unfold z2h at ee
 split at ee
 ·rename_i n q1 ρ1 h1
  split at ee
  ·rename_i hL
   cases ee
   refine⟨ρ,w,t,_,_,_,gd,h1,fun v H1 w1 F1 g1 go1 r1=>?_⟩
   exact⟨v,w1,_,_,F1,n,rfl,hL,r1,k _ H1 (x1x t w1) [] g1.drop.up (go1.drop gd.wt) (.bl _)⟩
  ·cases ee
 ·cases ee
theorem z3m:x94 X (.builtin "isinstance") (fun xs H Q=>∃ x w o q F n,xs=[x,.ty "ValueError"]/\Rep X.K H w o q (.exc n) x F/\Q (.bl true) H):=by
 intro pins s σ H xs us Q I r hh
 obtain⟨x,w,o,q,F,n,rfl,rd,hq⟩:=hh
 obtain⟨u,v,rfl,ru,rv⟩:=z2c r
 cases rv
 cases rd with
 | exc ha xo _=>
  obtain⟨B,hc,k⟩:=xo
  cases ru
  obtain⟨e1,_⟩:=(show x3n X.prog X.w H s.heap _ (.frz _ _)from I.hok _ _ ha)
  exact z8w I.kIn ⟨e1,hc⟩ (by kernel_rfl) k.ve ⟨.bl true,H,I,rfl,hq⟩
noncomputable def j4h (fa:Den):Den:=fun ρ=>match fa ρ with
 | some (.exc n,_,ρ1)=>some (.bl true,9,ρ1)
 | _=>none
theorem j0s (hm:X.mg "isinstance" = none) (hmT:X.mg "ValueError" = none) (ha:PD X a fa) (hg:Gl X "isinstance":=by rfl) (hgT:Gl X "ValueError":=by rfl)
  (hs:starEach [a,.Name "ValueError" pT] X.env=(false,eval a X.env)::starEach [.Name "ValueError" pT] X.env:=by rfl) (hpl:(backTo pos (starEach [.Name "ValueError" pT] X.env)).any (·.1)=false:=by rfl):PD X (.Call (.Name "isinstance" p) [a,.Name "ValueError" pT] [] pos) (j4h fa):=by
 refine PE.imp (x4u z3m hg hm PyProof.Rows.boot_isinstance (x3e ha (x3e (z0z (v:=.ty "ValueError") hgT hmT (by kernel_rfl) rfl (by decide) (by decide)) x78 x05) hs) (by decide) (by decide) hs hpl) fun σ H Q hh0=>?_
 obtain⟨ρ,w,t,r',q,ρ',gd,ee,k⟩:=hh0
 unfold j4h at ee
 split at ee
 ·rename_i n q1 ρ1 h1
  cases ee
  refine⟨ρ,w,t,_,_,_,gd,h1,fun v H1 w1 F1 g1 go1 r1=>?_⟩
  exact⟨v,w1,_,_,F1,n,rfl,r1,k _ H1 (x1x t w1) [] g1.drop.up (go1.drop gd.wt) (.bl _)⟩
 ·cases ee
noncomputable def j2v:D->D->Option D
 | .non,.non=>some (.bl true)
 | .exc _,.non=>some (.bl false)
 | .int _,.non=>some (.bl false)
 | .tup _,.non=>some (.bl false)
 | .str _,.non=>some (.bl false)
 | _,_=>none
noncomputable def j6s:R2:=fun x y H Q=>y=.non/\((x=.non/\Q (.bl true) H)\/((∃ i,x=.int i)\/(∃ i,x=.str i)\/(∃ i,x=.ref i))/\Q (.bl false) H)
theorem z5g:OpR X (compareOp .Is) j6s:=by
 intro pins s σ H x y v u Q I rx ry h
 obtain⟨rfl,h⟩:=h
 cases ry
 rcases h with⟨rfl,q⟩ | ⟨⟨i,rfl⟩ | ⟨i,rfl⟩ | ⟨i,rfl⟩,q⟩
 ·cases rx
  exact wpAny_pure ⟨.bl true,H,I,rfl,q⟩
 ·obtain⟨t,rfl⟩:=rx
  exact wpAny_pure ⟨.bl false,H,I,rfl,q⟩
 ·obtain⟨t,rfl⟩:=rx
  exact wpAny_pure ⟨.bl false,H,I,rfl,q⟩
 ·cases rx
  exact wpAny_pure ⟨.bl false,H,I,rfl,q⟩
theorem j73 {K:PySem.W.Frag}:∀ σ H Q,tD K (e2 j2v fa fb) σ H Q->tOp j6s (tD K fa) (tD K fb) σ H Q:=y15 fun x y d h=>by
 unfold j2v at h
 split at h
 ·cases h
  exact⟨_,rfl,fun H w o o' q q' u u' F F' r1 r2 _ Q hq=>by cases r1; cases r2; exact⟨rfl,.inl ⟨rfl,hq⟩⟩⟩
 ·cases h
  exact⟨_,rfl,fun H w o o' q q' u u' F F' r1 r2 _ Q hq=>by cases r1; cases r2; exact⟨rfl,.inr ⟨.inr (.inr ⟨_,rfl⟩),hq⟩⟩⟩
 ·cases h
  exact⟨_,rfl,fun H w o o' q q' u u' F F' r1 r2 _ Q hq=>by cases r1; cases r2; exact⟨rfl,.inr ⟨.inl ⟨_,rfl⟩,hq⟩⟩⟩
 ·cases h
  exact⟨_,rfl,fun H w o o' q q' u u' F F' r1 r2 _ Q hq=>by cases r1; cases r2; exact⟨rfl,.inr ⟨.inr (.inr ⟨_,rfl⟩),hq⟩⟩⟩
 ·cases h
  exact⟨_,rfl,fun H w o o' q q' u u' F F' r1 r2 _ Q hq=>by cases r1; cases r2; exact⟨rfl,.inr ⟨.inr (.inl ⟨_,rfl⟩),hq⟩⟩⟩
 ·cases h
theorem z7r (ha:PD X a fa) (hb:PD X b fb):PDT X (.Compare a [.Is] [b] pos) (x2n (e2 j2v fa fb)):=x7h z5g j73 ha hb (x9l _)
noncomputable def y95 (d:D) (ds:List D):Nat:=(x8l ds).countP fun y=>PyData.eqv y (toP d)
noncomputable def j4l (K:PySem.W.Frag):V->List V->Hp->VK->Prop:=fun x xs H Q=>∃ ds d y,xs=[y]/\Is K H (.lst ds) x/\Is K H d y/\okD (.lst ds)=true/\okD d=true/\Q (.int (Int.ofNat (y95 d ds))) H
theorem z8y (hu:X.A.units+65<cLine):MtR X "list.count" (j4l X.K):=by
 intro pins s σ H x xs v us Q I rx rs ⟨ds,d,y,e,⟨w,o,q,F,h1⟩,⟨w',o',q',F',h2⟩,k1,k2,hq⟩
 subst e
 obtain⟨u,rfl,ru⟩:=y3h rs
 obtain⟨as,ra⟩:=h1.reads I rx (x9z k1)
 obtain⟨bs,rb⟩:=h2.reads I ru (x9z k2)
 replace k1:=x9x k1
 replace k2:=x9x k2
 unfold toP at ra k1
 have hc1:PyData.canLayAll0 (x8l ds)=true:=SeqAt.canLay_of_shaped k1
 have hc2:=SeqAt.canLay_of_shaped k2
 cases ra with
 | @list a ob vs n _ _ ho hcl hd hrs=>
  obtain⟨cls,dd,data,sl⟩:=ob
  simp only at hcl hd
  subst hcl hd
  have hmap:=SeqAt.readsAll_map _ _ _ hc1 hrs
  have hcnt:vs.toList.countP (fun y=>PyData.eqv (SeqAt.readOf s.heap y) (toP d))=y95 d ds:=by
   unfold y95
   rw[<- hmap,List.countP_map]
   rfl
  refine call_meets PySem.F.slot_list_count ⟨_,ho,rfl⟩ PySem.F.entry_list_count (PySem.F.args_list_count_2 _ _)
   (list_countAt a vs n dd sl u (fun y=>PyData.eqv (SeqAt.readOf s.heap y) (toP d))) ⟨ho,SeqAt.items_eqAt hrs rb hc1 hc2 (room_in_shaped k2 hu),?_⟩
  rw[hcnt]
  exact⟨.int (Int.ofNat (y95 d ds)),H,I.tok _,⟨_,rfl⟩,hq⟩
noncomputable def j48 (fo:Den) (g:x1o):Den:=fun ρ=>match fo ρ with
 | some (.lst ds,_,ρ1)=>match g ρ1 with
  | some ([d],ρ2)=>if okD (.lst ds)=true/\okD d=true then some (.int (Int.ofNat (y95 d ds)),9,ρ2)else none
  | _=>none
 | _=>none
noncomputable def z97 (K:PySem.W.Frag):V->List V->Hp->VK->Prop:=fun x xs H Q=>∃ ds d y j,xs=[y]/\Is K H (.lst ds) x/\Is K H d y/\okD (.lst ds)=true/\okD d=true/\j5g d ds=some j/\(j:Int)<1000/\Q (.int (Int.ofNat j)) H
theorem z05 (hu:X.A.units+65<cLine):MtR X "list.index" (z97 X.K):=by
 intro pins s σ H x xs v us Q I rx rs ⟨ds,d,y,j,e,⟨w,o,q,F,h1⟩,⟨w',o',q',F',h2⟩,k1,k2,hj,hsm,hq⟩
 subst e
 obtain⟨u,rfl,ru⟩:=y3h rs
 obtain⟨as,ra⟩:=h1.reads I rx (x9z k1)
 obtain⟨bs,rb⟩:=h2.reads I ru (x9z k2)
 replace k1:=x9x k1
 replace k2:=x9x k2
 unfold toP at ra k1
 have hc1:PyData.canLayAll0 (x8l ds)=true:=SeqAt.canLay_of_shaped k1
 have hc2:=SeqAt.canLay_of_shaped k2
 cases ra with
 | @list a ob vs n _ _ ho hcl hd hrs=>
  obtain⟨cls,dd,data,sl⟩:=ob
  simp only at hcl hd
  subst hcl hd
  have hmap:=SeqAt.readsAll_map _ _ _ hc1 hrs
  have hfi:=List.findIdx?_eq_some_iff_getElem.mp hj
  obtain⟨hjl,hjt,hjf⟩:=hfi
  have hlen:vs.size=(x8l ds).length:=by rw[<- hmap]; simp
  have hat:∀ m (hm:m<vs.size) (hm':m<(x8l ds).length),SeqAt.readOf s.heap vs[m]=(x8l ds)[m]:=fun m hm hm'=>by
   have:(vs.toList.map (SeqAt.readOf s.heap))[m]? = (x8l ds)[m]?:=by rw[hmap]
   simpa [hm,hm']using this
  refine call_meets PySem.F.slot_list_index ⟨_,ho,rfl⟩ PySem.F.entry_list_index (PySem.F.args_list_index_2 _ _)
   (list_indexAt a vs n dd sl u (fun y=>PyData.eqv (SeqAt.readOf s.heap y) (toP d)) j (by omega) (by omega) (by rw[hat j (by omega) hjl]; simpa using hjt) (fun m hm hmj=>by rw[hat m hm (by omega)]; simpa using hjf m hmj)) ⟨ho,SeqAt.items_eqAt hrs rb hc1 hc2 (room_in_shaped k2 hu),?_⟩
  exact⟨.int (Int.ofNat j),H,I.tok _,⟨_,rfl⟩,hq⟩
noncomputable def y35 (fo:Den) (g:x1o):Den:=fun ρ=>match fo ρ with
 | some (.lst ds,_,ρ1)=>match g ρ1 with
  | some ([d],ρ2)=>if okD (.lst ds)=true/\okD d=true then match j5g d ds with
   | some j=>if(j:Int)<1000 then some (.int (Int.ofNat j),9,ρ2)else none
   | none=>none
   else none
  | _=>none
 | _=>none
theorem Rep.sqL {K:PySem.W.Frag} {H:Hp} {w:Wn} {ds:List D} {v:V} {F:List Addr} (r:Rep K H w .f 0 (.lst ds) v F):∃ a us,v=.ref a/\SqL K H a us:=by
 cases r with
 | kl h _=>exact⟨_,_,rfl,.inr h⟩
 | shr h _ _=>exact⟨_,_,rfl,.inl h⟩
theorem z6l {k:Nat} (hr:Room k X.A) (ho:PD X a fa) (ha:PDA X [e] g)
  (hbase:attributeBase a "count" X.env (eval a X.env)=eval a X.env:=by rfl)
  (hfew:((backTo cpos (starEach [e] X.env)).all (fun x=>!x.1) && (backToKw cpos (keywordEach [] X.env)).all (fun x=>x.1.isSome)
    && decide ([e].length+([]:List Keyword).length+(if([]:List Keyword).isEmpty then 0 else 1)<30))=true:=by rfl)
  (hline:(apos.endLine == cpos.line)=true:=by rfl) (hs:starEach [e] X.env=(false,eval e X.env)::starEach [] X.env:=by rfl) (hplain:(backTo cpos (starEach [] X.env)).any (·.1)=false:=by rfl) :
  PD X (.Call (.Attribute a "count" apos) [e] [] cpos) (j48 fa g):=
 PE.imp (z01 PySem.F.plainAttrs_list PySem.F.slot_list_count PySem.F.type_list_count (z8y (u65 hr)) ho ha hbase hfew hline hs hplain) fun σ H Q hh0=>by
 obtain⟨ρ,w,t,r',q,ρ',gd,ee,k⟩:=hh0
 unfold j48 at ee
 split at ee
 ·rename_i ds q1 ρ1 h1
  split at ee
  ·rename_i d ρ2 h2
   split at ee
   ·rename_i hok
    cases ee
    refine⟨ρ,w,t,_,_,_,gd,h1,fun v H1 w1 F1 g1 go1 r1=>?_⟩
    have r0:=r1.drop (o:=.f) (Nat.le_refl t)
    have gg:=g1.drop (t':=t)
    obtain⟨p0,us,rfl,hq⟩:=Rep.sqL r0
    refine⟨.inl ⟨rfl,us,hq⟩,ρ1,x1x t w1,t,_,_,gg,h2,fun vs2 H2 w2 g2 go2 r2=>?_⟩
    obtain⟨v2,rfl,rv2⟩:=one r2
    have r3:Rep X.K H2 w2 .f 0 (.lst ds) (.ref p0) []:=r0.go0 gg.wl go2.stab
    exact⟨ds,d,v2,rfl,⟨_,_,_,_,r3⟩,⟨_,_,_,_,rv2⟩,hok.1,hok.2,k _ H2 w2 [] g2.up ((go1.drop gd.wt).trans go2) (.int _)⟩
   ·cases ee
  ·cases ee
 ·cases ee
theorem y9u {k:Nat} (hr:Room k X.A) (ho:PD X a fa) (ha:PDA X [e] g)
  (hbase:attributeBase a "index" X.env (eval a X.env)=eval a X.env:=by rfl)
  (hfew:((backTo cpos (starEach [e] X.env)).all (fun x=>!x.1) && (backToKw cpos (keywordEach [] X.env)).all (fun x=>x.1.isSome)
    && decide ([e].length+([]:List Keyword).length+(if([]:List Keyword).isEmpty then 0 else 1)<30))=true:=by rfl)
  (hline:(apos.endLine == cpos.line)=true:=by rfl) (hs:starEach [e] X.env=(false,eval e X.env)::starEach [] X.env:=by rfl) (hplain:(backTo cpos (starEach [] X.env)).any (·.1)=false:=by rfl) :
  PD X (.Call (.Attribute a "index" apos) [e] [] cpos) (y35 fa g):=
 PE.imp (z01 PySem.F.plainAttrs_list PySem.F.slot_list_index PySem.F.type_list_index (z05 (u65 hr)) ho ha hbase hfew hline hs hplain) fun σ H Q hh0=>by
 obtain⟨ρ,w,t,r',q,ρ',gd,ee,k⟩:=hh0
 unfold y35 at ee
 split at ee
 ·rename_i ds q1 ρ1 h1
  split at ee
  ·rename_i d ρ2 h2
   split at ee
   ·rename_i hok
    split at ee
    ·rename_i j hj
     split at ee
     ·rename_i hsm
      cases ee
      refine⟨ρ,w,t,_,_,_,gd,h1,fun v H1 w1 F1 g1 go1 r1=>?_⟩
      have r0:=r1.drop (o:=.f) (Nat.le_refl t)
      have gg:=g1.drop (t':=t)
      obtain⟨p0,us,rfl,hq⟩:=Rep.sqL r0
      refine⟨.inl ⟨rfl,us,hq⟩,ρ1,x1x t w1,t,_,_,gg,h2,fun vs2 H2 w2 g2 go2 r2=>?_⟩
      obtain⟨v2,rfl,rv2⟩:=one r2
      have r3:Rep X.K H2 w2 .f 0 (.lst ds) (.ref p0) []:=r0.go0 gg.wl go2.stab
      exact⟨ds,d,v2,j,rfl,⟨_,_,_,_,r3⟩,⟨_,_,_,_,rv2⟩,hok.1,hok.2,hj,hsm,k _ H2 w2 [] g2.up ((go1.drop gd.wt).trans go2) (.int _)⟩
     ·cases ee
    ·cases ee
   ·cases ee
  ·cases ee
 ·cases ee
end
end L3
namespace L3
open PySem PySem.Spec PyProof.Rows L2
end L3
namespace L3
open PySem PySem.Spec PyProof.Rows PySem.W L2
noncomputable def tXe (K:PySem.W.Frag) (x:x4o) (E:XK):St->Hp->Prop:=fun σ H=>∃ ρ w t nm,Good K ρ σ H w t/\x ρ=some nm/\∀ C H' w',nsIn K mainGlobals nm=some (some (.ref C))->WL K w' H'->Go H w H' w'->E (.ref C) none H'
theorem tX.e {K:PySem.W.Frag} {x:x4o} {E:XK} {D:Ends} {σ:St} {H:Hp} (h:tX K x E D σ H):tXe K x E σ H:=by
 obtain⟨ρ,w,nm,g,e,k⟩:=h
 exact⟨ρ,w,0,nm,g,e,k⟩
noncomputable def z4s:x4o:=fun _=>none
noncomputable def xOr (x y:x4o):x4o:=fun ρ=>match x ρ with
 | some nm=>some nm
 | none=>y ρ
noncomputable def z6i (f:x1d) (x:x4o):x4o:=fun ρ=>match f ρ with
 | some (.nx ρ1)=>x ρ1
 | _=>none
noncomputable def z25 (g:x1l) (x y:x4o):x4o:=fun ρ=>match g ρ with
 | some (b,ρ1)=>if b=true then x ρ1 else y ρ1
 | none=>none
noncomputable def y6l (nm:Str):x4o:=fun _=>some nm
noncomputable def xTl (f:Den) (x:x4o):x4o:=fun ρ=>match f ρ with
 | some (_,_,ρ1)=>x ρ1
 | none=>none
noncomputable abbrev PXE (X:Cx) (E:XK) (e:Expr) (x:x4o):Prop:=PE X e fun σ H _=>tXe X.K x E σ H
noncomputable abbrev PXA (X:Cx) (E:XK) (es:List Expr) (x:x4o):Prop:=PA X es fun σ H _=>tXe X.K x E σ H
noncomputable abbrev PXS (X:Cx) (E:XK) (st:Stmt) (x:x4o):Prop:=PS X st (tX X.K x E)
noncomputable abbrev PXB (X:Cx) (E:XK) (ss:List Stmt) (x:x4o):Prop:=PSs X ss (tX X.K x E)
section
variable {X:Cx} {E:XK} {st:Stmt} {ss rest a b:List Stmt} {x y:x4o} {f:x1d} {g:x1l} {c e:Expr} {es:List Expr} {pos pos' p:Pos}
theorem z3c:PXB X E ss z4s:=fun _ _ _ _ _ _ h=>by
 obtain⟨_,_,_,_,e,_⟩:=h
 cases e
theorem j0l (hx:PXB X E ss x) (hy:PXB X E ss y):PXB X E ss (xOr x y):=fun pins s σ H D I h=>by
 obtain⟨ρ,w,nm,g,e,k⟩:=h
 unfold xOr at e
 split at e
 ·rename_i nm' h1
  cases e
  exact hx pins s σ H D I ⟨ρ,w,_,g,h1,k⟩
 ·exact hy pins s σ H D I ⟨ρ,w,nm,g,e,k⟩
theorem z7d (h1:PDS X st f) (h2:PXB X E rest x):PXB X E (st::rest) (z6i f x):=PSs.imp (y7i h1 h2) fun D σ H hh0=>by
 obtain⟨ρ,w,nm,g,e,k⟩:=hh0
 unfold z6i at e
 split at e
 ·rename_i ρ1 h1
  exact⟨ρ,w,.nx ρ1,g,h1,fun σ' H' w' hl g' go'=>⟨ρ1,w',nm,g',e,fun C H2 w2 n wl go2=>k C H2 w2 n wl (go'.trans go2)⟩⟩
 ·cases e
theorem z1m (h:PXS X E st x):PXB X E (st::rest) x:=by
 intro pins s σ H D I hh
 refine wpAny_execs_cons (thn (h pins s σ H { nx:=fun _ _=>False,rt:=fun _ _=>False } I hh) fun fl s1 q=>?_)
 cases fl with
 | next=>obtain⟨_,_,_,z⟩:=q; exact z.elim
 | brk=>obtain⟨_,_,_,z⟩:=q; exact z.elim
 | cont=>obtain⟨_,_,_,z⟩:=q; exact z.elim
 | ret u=>obtain⟨_,_,_,_,_,z⟩:=q; exact z.elim
theorem z8s (hc:PDT X c g) (ha:PXB X E a x) (hb:PXB X E b y):PXS X E (.If c a b pos) (z25 g x y):=PS.imp (j1l hc ha hb) fun D σ H hh0=>by
 obtain⟨ρ,w,nm,gd,e,k⟩:=hh0
 unfold z25 at e
 split at e
 ·rename_i b' ρ1 h1
  refine⟨ρ,w,0,b',ρ1,gd,h1,fun H1 w1 g1 go1=>?_⟩
  cases b' with
  | true=>exact⟨ρ1,w1,nm,g1,e,fun C H2 w2 n wl go2=>k C H2 w2 n wl (go1.trans go2)⟩
  | false=>exact⟨ρ1,w1,nm,g1,e,fun C H2 w2 n wl go2=>k C H2 w2 n wl (go1.trans go2)⟩
 ·cases e
theorem z9a (he:PXE X E e x):PXS X E (.Return (some e) pos) x:=by
 intro pins s σ H D I h
 refine wpAny_Return_some (thn (he pins s σ H (fun _ _=>False) I h.e) fun v s1 q=>?_)
 obtain⟨_,_,_,_,z⟩:=q
 exact z.elim
theorem z3e (he:PXE X E e x) (hs:swapsWith e none pos.line X.env=pure false:=by rfl):PXS X E (.Expr e pos) x:=PS.imp (y9w he hs) fun D σ H hh0=>hh0.e
theorem j39 (he:PXE X E e x) (hs:starEach (e::es) X.env=(false,eval e X.env)::starEach es X.env:=by rfl):PXA X E (e::es) x:=
 PA.imp (x3e (t:=fun _ _ _=>False) he (fun _ _ _ _ _ _ _ h=>h.elim) hs) fun σ H Q h=>h
theorem j3k {fe:Den} (he:PD X e fe) (ha:PXA X E es x) (hs:starEach (e::es) X.env=(false,eval e X.env)::starEach es X.env:=by rfl):PXA X E (e::es) (xTl fe x):=
 PA.imp (x3e he ha hs) fun σ H Q h=>by
  obtain⟨ρ,w,t,nm,g,e,k⟩:=h
  unfold xTl at e
  split at e
  ·rename_i d q ρ1 h1
   exact⟨ρ,w,t,d,q,ρ1,g,h1,fun v H1 w1 F g1 go1 r1=>⟨ρ1,w1,t+1,nm,g1,e,fun C H2 w2 n wl go2=>k C H2 w2 n wl (go1.trans go2)⟩⟩
  ·cases e
theorem z8k {j k n:Nat} {z:Str} {F:List D->Option (D × Nat)} (C:Cal X.prog X.w X.K X.mg X.base k z n F) (hr:Room j X.A) (hk:k<=j) (ha:PXA X E (e::es) x)
  (hg:Gl X z:=by rfl) (hdb:(z == ("__debug__":Str))=false:=by decide) (he:starEach (e::es) X.env=(false,eval e X.env)::starEach es X.env:=by rfl) (hpl:(backTo pos (starEach es X.env)).any (·.1)=false:=by rfl) :
  PXE X E (.Call (.Name z p) (e::es) [] pos) x:=by
 obtain⟨f,fd,ps,G,hm,hkp,hb⟩:=C
 exact PE.imp (y5z (E:=fun _ _ _=>False) G (hr.mono hk) hg hm hkp hb .nil j1v ha hdb he hpl) fun σ H Q h=>h
end
section
variable {P:Program} {w:World} {K:PySem.W.Frag} {mg:Str->Option Value} {base:Heap} {N:List Str} {qual:Str} {scope:Scope} {f:Addr} {cd:Value} {A:Around} {outer:List Env} {s₀:Shared} {H₀:Hp} {E:XK}
theorem z1k {nm txt:Str} {k j:Nat} {np cpos tpos pos:Pos} (hr:Room k (A.deeper (envOfC qual scope s₀.heap.objs.size f cd))) (hC:∃ C,XNm K mg nm C) (hg:Gl (cxF P w K mg base N qual scope f cd A outer s₀ H₀ E) nm:=by rfl) (hdb:(nm == ("__debug__":Str))=false:=by decide) :
  PXS (cxF P w K mg base N qual scope f cd A outer s₀ H₀ E) E (.Raise (some (.Call (.Name nm np) [.Constant (.str txt) j tpos] [] cpos)) none pos) (y6l nm):=by
 obtain⟨C,hC⟩:=hC
 refine PS.imp (z3a hr.hd hC hg hdb) fun D σ H hh0=>?_
 obtain⟨ρ,w',nm',g,e,k⟩:=hh0
 cases e
 exact k C H w' hC.ns g.wl Go.refl
theorem z36 {j k n:Nat} {x:Str} {F:List D->Option Str} {e:Expr} {es:List Expr} {g:x1o} {p pos:Pos} (Cx':x8k P w K mg base k x n F) (hr:Room j (A.deeper (envOfC qual scope s₀.heap.objs.size f cd))) (hk:k<=j) (ha:PDA (cxF P w K mg base N qual scope f cd A outer s₀ H₀ E) (e::es) g)
  (hg:Gl (cxF P w K mg base N qual scope f cd A outer s₀ H₀ E) x:=by rfl) (hdb:(x == ("__debug__":Str))=false:=by decide) (he:starEach (e::es) (envOfC qual scope s₀.heap.objs.size f cd)=(false,eval e (envOfC qual scope s₀.heap.objs.size f cd))::starEach es (envOfC qual scope s₀.heap.objs.size f cd):=by rfl)
  (hpl:(backTo pos (starEach es (envOfC qual scope s₀.heap.objs.size f cd))).any (·.1)=false:=by rfl) :
  PXE (cxF P w K mg base N qual scope f cd A outer s₀ H₀ E) E (.Call (.Name x p) (e::es) [] pos) (y14 F n g):=by
 obtain⟨fn,fd,ps,G,hm,hkp,hb⟩:=Cx'
 refine PE.imp (y5z (X:=cxF P w K mg base N qual scope f cd A outer s₀ H₀ E) (E:=E) G (hr.mono hk) hg hm hkp hb .nil (fun pins σ H s e s' I h=>j1a (fun _ _ h=>h) I h) ha hdb he hpl) fun σ H Q hh0=>?_
 obtain⟨ρ,w',t,nm,gd,e,k'⟩:=hh0
 unfold y14 at e
 split at e
 ·rename_i ds ρ1 h1
  split at e
  ·rename_i hn
   refine⟨ρ,w',t,ds,ρ1,gd,h1,fun vs H1 w1 g1 go1 r1=>?_⟩
   show spX K n F (vs++[]) H1 Q E
   rw[List.append_nil]
   refine⟨by rw[<- r1.length]; exact hn,ds,fun a=>(w1 a).map fun _=>Ow.f,nm,fun a o e=>?_,⟨fun a o e=>?_,g1.wl.tb⟩,?_,e,fun C H2 w2 hns wl2 go2=>k' C H2 w1 hns ⟨fun a o ew=>?_,wl2.tb⟩ (go1.trans ⟨fun a x e n=>?_,fun a o ew no=>?_⟩)⟩
   ·try dsimp only at e
    cases ew:w1 a with
    | none=>rw[ew]at e; cases e
    | some o'=>rw[ew]at e; cases e; rfl
   ·try dsimp only at e
    cases ew:w1 a with
    | none=>rw[ew]at e; cases e
    | some o'=>exact g1.wl a o' ew
   ·exact Reps.freeze (fun a n=>by show(w1 a).map _=_; rw[n]; rfl) r1 (fun _ z=>nomatch z)
   ·obtain⟨vs',q⟩:=g1.wl a o ew
    have:=(go2.keep a .f (by show(w1 a).map _=_; rw[ew]; rfl) (fun i z=>nomatch z)).1
    exact⟨vs',by rw[this]; exact q⟩
   ·exact⟨(go2.stab a x e (by show(w1 a).map _=_; rw[n]; rfl)).1,n⟩
   ·exact⟨(go2.keep a .f (by show(w1 a).map _=_; rw[ew]; rfl) (fun i z=>nomatch z)).1,ew⟩
  ·cases e
 ·cases e
end
noncomputable abbrev y7o:=Rho->Option (Str × Rho)
noncomputable def CE (Y:Cx) (pins:List (Addr × Obj)) (σ:St) (H:Hp) (w:Wn) (nm:Str) (ρ1:Rho) (ev:Value) (s':Shared):Prop:=
 ∃ s1 H1 w1 a C t B H',ev=.ref a/\Inv Y.nox pins σ H1 s1/\Good Y.K ρ1 σ H1 w1 0/\Go H w H1 w1/\Fly Y.prog Y.w Y.stack H1 s1 a C t B H' s'/\nsIn Y.K mainGlobals nm=some (some (.ref C))/\(∀ b o,H1 b=some o->Sm o (H' b))/\TB Y.K H'
theorem CE.go {Y:Cx} {pins:List (Addr × Obj)} {σ:St} {H H2:Hp} {w w2:Wn} {nm:Str} {ρ1:Rho} {ev:Value} {s':Shared} (g:Go H w H2 w2) (h:CE Y pins σ H2 w2 nm ρ1 ev s'):CE Y pins σ H w nm ρ1 ev s':=by
 obtain⟨s1,H1,w1,a,C,t,B,H',e,I,gd,go,r⟩:=h
 exact⟨s1,H1,w1,a,C,t,B,H',e,I,gd,g.trans go,r⟩
noncomputable def PTS (Y:Cx) (st:Stmt) (y:y7o):Prop:=∀ (pins:List (Addr × Obj)) (s:Shared) (σ:St) (H:Hp) (ρ:Rho) (w:Wn) (nm:Str) (ρ1:Rho),Inv Y.nox pins σ H s->Good Y.K ρ σ H w 0->y ρ=some (nm,ρ1)->
 wpAny (model Y.prog Y.w) Y.A (exec st Y.env) (fun _ _=>False) (CE Y pins σ H w nm ρ1) s
noncomputable def PTB (Y:Cx) (ss:List Stmt) (y:y7o):Prop:=∀ (pins:List (Addr × Obj)) (s:Shared) (σ:St) (H:Hp) (ρ:Rho) (w:Wn) (nm:Str) (ρ1:Rho),Inv Y.nox pins σ H s->Good Y.K ρ σ H w 0->y ρ=some (nm,ρ1)->
 wpAny (model Y.prog Y.w) Y.A (execs ss Y.env) (fun _ _=>False) (CE Y pins σ H w nm ρ1) s
noncomputable def x6v (Fx:List D->Option Str) (n:Nat) (g:x1o):y7o:=fun ρ=>match g ρ with
 | some (ds,ρ1)=>if ds.length=n then(Fx ds).map fun nm=>(nm,ρ1)else none
 | none=>none
noncomputable def yIf (g:x1l) (x y:y7o):y7o:=fun ρ=>match g ρ with
 | some (b,ρ1)=>if b=true then x ρ1 else y ρ1
 | none=>none
noncomputable def y8d (L:List Str) (f:x1d) (y:y7o) (ie ik:Nat):x1d:=fun ρ=>match y ρ with
 | some (nm,ρ1)=>if nm∈L then some (.nx (((ρ1.set ie (some (.exc nm,9))).set ik (some (.exc nm,9))).set ie none))else none
 | none=>f ρ
section
variable {Y:Cx} {c e:Expr} {es:List Expr} {g:x1o} {gt:x1l} {x y:y7o} {a b ss:List Stmt} {st:Stmt} {pos:Pos}
theorem z8c (h:PTS Y st y):PTB Y [st] y:=fun pins s σ H ρ w nm ρ1 I gd e=>
 wpAny_execs_cons (thn (h pins s σ H ρ w nm ρ1 I gd e) fun _ _ z=>z.elim)
theorem z4j {R nn kx:Str} {L:List Str} {f:x1d} {ie ik:Nat} {np kp vp apos hpos:Pos} (hU:y0f Y.K Y.mg R L) (hf:y8p Y.nox ss f) (hx:PTB Y ss y) (hN:Y.N.Nodup) (hie:Y.N[ie]? = some nn) (hik:Y.N[ik]? = some kx) (hst:Y.stack=Y.env::Y.outer:=by rfl) (hfm:Y.env.frame=some Y.env.locals:=by rfl)
  (hne:Y.env.scope.names.lookup nn=some .local:=by rfl) (hnk:Y.env.scope.names.lookup kx=some .local:=by rfl) (hg:Gl Y R:=by rfl)
  (hdb:(R == ("__debug__":Str))=false:=by decide) (hdn:(nn == ("__debug__":Str))=false:=by decide) (hcn:(nn == ("__classdict__":Str))=false:=by decide) (hsw:swapsWith (.Name nn vp) (some (.Name kx kp)) apos.line Y.env=pure false:=by rfl) :
  PDS Y.nox (.Try ss [.ExceptHandler (some (.Name R np)) (some nn) [.Assign [.Name kx kp] (.Name nn vp) apos] hpos] [] [] pos) (y8d L f y ie ik):=by
 intro pins s σ H Dn I hh
 obtain⟨ρ,w,o,gd,ee,K'⟩:=hh
 unfold y8d at ee
 refine wpAny_Try_except ?_
 split at ee
 ·rename_i nm ρ1 h1
  split at ee
  ·rename_i hL
   cases ee
   obtain⟨RA,hR,hRt,hmg,hall⟩:=hU
   refine wpAny_mono (hx pins s σ H ρ w nm ρ1 I gd h1) (fun _ _ z=>z.elim) fun ev s' q=>?_
   obtain⟨s1,H1,w1,a,C,t,B,H',rfl,I1,g1,go1,F',hns,hext,tb'⟩:=q
   obtain⟨hXk,hsub⟩:=hall nm hL C hns
   refine z3d (X:=Y.nox) I1 F' hst hfm hN hie hik hne hnk hR hRt hsub hmg hg hdb hdn hcn hsw fun s5 oe hoc I5=>?_
   have hσe:ie<σ.length:=by rw[I.len]; exact(List.getElem?_eq_some_iff.mp hie).1
   have hσk:ik<σ.length:=by rw[I.len]; exact(List.getElem?_eq_some_iff.mp hik).1
   have hfr:=F'.free
   obtain⟨g2,go2⟩:=g1.grow (H':=upd H' a (j00 a oe)) (fun b o q=>by
    obtain⟨y,ey,_⟩:=(hext b o q).is
    unfold upd
    rw[if_neg (fun z=>by rw[<- z,ey]at hfr; cases hfr)]
    exact hext b o q) (tb'.upd rfl (.inl hfr))
   have rep:∀ w',Rep Y.K (upd H' a (j00 a oe)) w' .f 0 (.exc nm) (.ref a) []:=fun w'=>.exc (ob:=oe) (u:=.ext fun h=>h.get? a=some oe) (by unfold upd; rw[if_pos rfl]; rfl) ⟨C,hoc,hXk⟩ (fun _ z=>nomatch z)
   obtain⟨g3,go3⟩:=g2.setV (i:=ie) hσe (rep _)
   obtain⟨g4,go4⟩:=g3.setV (i:=ik) (by rw[List.length_set]; exact hσk) (rep _)
   obtain⟨g5,go5⟩:=g4.unset (i:=ie) (v:=none) (by rw[List.length_set,List.length_set]; exact hσe)
   exact⟨_,_,I5,K' _ _ _ (by rw[List.length_set,List.length_set,List.length_set]) g5 ((((go1.trans go2).trans go3).trans go4).trans go5)⟩
  ·cases ee
 ·refine wpAny_mono (hf pins s σ H Dn I ⟨ρ,w,o,gd,ee,K'⟩) (fun fl s1 q=>?_) (fun _ _ z=>False.elim z)
  cases fl with
  | next=>exact wpAny_execs_nil q
  | brk=>exact q
  | cont=>exact q
  | ret u=>exact q
end
end L3
namespace L3
open PySem PySem.Spec PyProof.Rows PySem.W L2
end L3
namespace L3
open PySem PySem.Spec PyProof.Rows PySem.W L2
end L3
namespace L3
open PySem PySem.Spec PyProof.Rows PySem.W L2
structure Lm (K:PySem.W.Frag) (mg:Str->Option Value) (base:Heap):Prop where
 bm:∃ bm o,mg "__builtins__" = some (.ref bm)/\bm≠builtinsNs/\base.get? bm=some o/\o.cls=.type "module" /\ o.dict=some builtinsNs/\o.data=.plain
 cd:∀ x∈y0y,∀ c P,tabIn K x=some (c,P)->CodeHd base c P
end L3
namespace L3
open PySem PySem.Spec PyProof.Rows PySem.W L2
end L3
namespace L3
open PySem PySem.Spec PyProof.Rows L2
@[simp] noncomputable def y0i (i:Nat):Den:=fun ρ=>match ρ[i]? with
 | some (some (.lst ds,q))=>if q<=1 then some (.lst ds,1,ρ)else none
 | some (some (.tup ds,_))=>some (.lst ds,1,ρ)
 | _=>none
theorem Rep.seqV {K:PySem.W.Frag} {H:Hp} {w:Wn} {o:Ow} {q:Nat} {ds:List D} {v:V} {F:List Addr} (r:Rep K H w o q (.lst ds) v F) (hq:q<=1):∃ a vs,v=.ref a/\SqL K H a vs/\Reps K H w o 0 ds vs []:=by
 cases r with
 | kl h r=>exact⟨_,_,rfl,h.sq,r⟩
 | shr h n r=>exact⟨_,_,rfl,.inl h,r⟩
 | own h n r ne=>
  rename_i q' _ _ _
  obtain rfl:q'=0:=by omega
  have e:=r.zero
  subst e
  exact⟨_,_,rfl,SqL.of h,r⟩
section
variable {X:Cx} {pos p p1 p2:Pos}
theorem z2o {i:Nat} {x:Str} (hm:X.mg "list" = none) (hb:bootBuiltins "list" = some (.type "list")) (h:PE X (.Name x p1) (x9n i)) (hg:Gl X "list":=by rfl) (he:starEach [.Name x p1] X.env=(false,eval (.Name x p1) X.env)::starEach [] X.env:=by rfl) (hpl:(backTo pos (starEach [] X.env)).any (·.1)=false:=by rfl):PD X (.Call (.Name "list" p) [.Name x p1] [] pos) (y0i i):=
 PE.imp (x6a x9p hg hm hb (x3e h x78 he) (by decide) (by decide) he hpl) fun σ H Q hh0=>by
 obtain⟨ρ,w,t,r',q,ρ',gd,ee,k⟩:=hh0
 unfold y0i at ee
 split at ee
 ·rename_i ds q0 e0
  split at ee
  ·rename_i hq
   cases ee
   obtain⟨v,F,h1,h2⟩:=gd.slot i _ q0 e0
   obtain⟨p,ys,rfl,hs,rs⟩:=h2.seqV hq
   refine⟨_,h1,p,ys,rfl,.inl hs,fun l hl=>?_⟩
   obtain⟨a1,a2,a3⟩:=y2k gd hl (rs.any gd.wl)
   exact k _ _ _ _ a1 a2 a3
  ·cases ee
 ·rename_i ds q0 e0
  cases ee
  obtain⟨v,F,h1,h2⟩:=gd.slot i _ q0 e0
  obtain⟨p,ys,rfl,hs,rs⟩:=h2.seqT
  refine⟨_,h1,p,ys,rfl,.inr hs,fun l hl=>?_⟩
  obtain⟨a1,a2,a3⟩:=y2k gd hl (rs.any gd.wl)
  exact k _ _ _ _ a1 a2 a3
 ·cases ee
end
end L3
namespace L3
open PySem PySem.Spec PyProof.Rows PySem.W L2
end L3
namespace L3
open PySem PySem.Spec PyProof.Rows PySem.W L2
noncomputable abbrev met (ks:List Int):List Int:=firstMet (fun i=>ks.getD i 0) ks.length
theorem x99:∀ {ks:List Int} {us:List Value},x2h (ks.map V.int) us->IntsAre us ks
 | [],_,h=>by cases h; exact .nil
 | k::ks,_,h=>by
  cases h with
  | cons r rs=>
   obtain⟨t,rfl⟩:=r
   exact .cons k t (x99 rs)
noncomputable def bl (m:Nat):List Nat:=(List.range 5).filter fun i=>m.testBit i
noncomputable def bt (m:Nat) (led:Bool):SetTable:={ mask:=if(bl m).length<5 then 7 else 31,place:=(bl m).toArray,dummies:=#[],finger:=0,led:=led,moves:=if(bl m).length<5 then 0 else 1,plain:=true }
noncomputable def esL (m:Nat) (z:Nat->Tok):Array (Int × Value):=((bl m).map fun v:Nat=>(Int.ofNat v,Value.int (Int.ofNat v) (z v))).toArray
noncomputable def so (m:Nat) (z:Nat->Tok) (ep:Nat) (led:Bool):Obj:={ cls:=.type "set",dict:=none,data:=.set (esL m z) ep (bt m led) }
noncomputable def bor (m v:Nat):Nat:=m ||| 1 <<< v
theorem y6r:∀ m:Nat,m<32->∀ v:Nat,v<5->bor m v<32:=by decide +kernel
theorem y7b:∀ m:Nat,m<32->∀ v:Nat,v<5->(v∈bl m ↔ m.testBit v=true):=by decide +kernel
theorem y7e (m:Nat) {v:Nat} (h:v∈bl m):v<5:=by
 unfold bl at h; rw[List.mem_filter]at h; exact List.mem_range.mp h.1
theorem j2r:∀ m:Nat,m<32->∀ v:Nat,v<5->m.testBit v=true->bor m v=m:=by decide +kernel
theorem y64:∀ m:Nat,m<32->∀ led:Bool,(bt m led).fits (bl m).length=true:=by decide +kernel
theorem j4k:∀ m:Nat,m<32->∀ v:Nat,v<5->m.testBit v=false->∀ led:Bool,(bt m led).freeSlot (Int.ofNat v)=some (v,false):=by decide +kernel
theorem j5e:∀ m:Nat,m<32->∀ v:Nat,v<5->m.testBit v=false->∀ led:Bool,(bl m).take ((bt m led).put v).2++v::(bl m).drop ((bt m led).put v).2=bl (bor m v):=by decide +kernel
theorem j4y:∀ m:Nat,m<32->∀ v:Nat,v<5->m.testBit v=false->∀ led:Bool,((bt m led).put v).1.fits (bl (bor m v)).length=true:=by decide +kernel
theorem z8u:∀ m:Nat,m<32->∀ v:Nat,v<5->m.testBit v=false->∀ led:Bool,((bt m led).put v).1.plain=true/\(bl (bor m v)).length<=5:=by decide +kernel
theorem j5p:∀ m:Nat,m<32->∀ v:Nat,v<5->m.testBit v=false->∀ led:Bool,((bt m led).put v).1.tooFull=false->((bt m led).put v).1=bt (bor m v) led:=by decide +kernel
noncomputable def rl (m v:Nat) (led:Bool):=((bt m led).put v).1.relaid ((bl (bor m v)).map Int.ofNat).toArray (SetTable.grown (bl (bor m v)).length)
noncomputable def j6f (m v:Nat) (led:Bool):Bool:=match rl m v led with
 | some (x,y)=>decide (x=bt (bor m v) led) && decide (y=Array.range (bl (bor m v)).length)
 | none=>false
theorem j5i:∀ m:Nat,m<32->∀ v:Nat,v<5->m.testBit v=false->∀ led:Bool,((bt m led).put v).1.tooFull=true->j6f m v led=true:=by decide +kernel
theorem j54 {m v:Nat} {led:Bool} (hm:m<32) (hv:v<5) (hb:m.testBit v=false) (hf:((bt m led).put v).1.tooFull=true):rl m v led=some (bt (bor m v) led,Array.range (bl (bor m v)).length):=by
 have a:=j5i m hm v hv hb led hf
 unfold j6f at a
 split at a
 ·rename_i x y h
  rw[Bool.and_eq_true,decide_eq_true_eq,decide_eq_true_eq]at a
  rw[h,a.1,a.2]
 ·cases a
theorem j65:∀ n:Nat,n<9->coversAll (Array.range n) n=true:=by decide +kernel
theorem x2q (m:Nat) (z:Nat->Tok):(esL m z).size=(bl m).length:=by unfold esL; rw[List.size_toArray,List.length_map]
theorem x8g (m:Nat) (z:Nat->Tok):(esL m z).toList=(bl m).map fun v:Nat=>(Int.ofNat v,Value.int (Int.ofNat v) (z v)):=rfl
theorem z2d (m:Nat) (z:Nat->Tok):(esL m z).map (·.1)=((bl m).map Int.ofNat).toArray:=by
 apply Array.ext'
 rw[Array.toList_map,x8g,List.map_map]; rfl
theorem z82 {m v:Nat} {led:Bool} (hm:m<32) (hv:v<5) (hb:m.testBit v=false) (z:Nat->Tok) (t:Tok) :
  SetTable.insertAt (esL m z) ((bt m led).put v).2 (Int.ofNat v,Value.int (Int.ofNat v) t)=esL (bor m v) (fun k=>if k=v then t else z k):=by
 apply Array.ext'
 rw[SetTable.toList_insertAt,x8g,x8g,<- j5e m hm v hv hb led,List.map_append,List.map_cons,<- List.map_take,<- List.map_drop]
 have nm:v ∉ bl m:=fun h=>by rw[(y7b m hm v hv).mp h]at hb; cases hb
 have e:∀ l:List Nat,(∀ k∈l,k∈bl m)->l.map (fun k:Nat=>(Int.ofNat k,Value.int (Int.ofNat k) (z k)))=l.map (fun k:Nat=>(Int.ofNat k,Value.int (Int.ofNat k) ((fun k=>if k=v then t else z k) k))):=by
  intro l hl
  apply List.map_congr_left
  intro k hk
  have:k≠v:=fun h=>nm (h ▸ hl k hk)
  simp only[if_neg this]
 rw[e _ (fun k hk=>List.mem_of_mem_take hk),e _ (fun k hk=>List.mem_of_mem_drop hk)]
 simp only[if_true]
theorem j3i (prog:Program) (w:World):∀ v:Nat,v<5->(intKind prog w).hash (Int.ofNat v)=Int.ofNat v:=by
 show ∀ v:Nat,v<5->hashInt (Int.ofNat v)=Int.ofNat v
 decide +kernel
theorem j3p (prog:Program) (w:World) {m:Nat} (z:Nat->Tok):ElemsOf (intKind prog w) (esL m z).toList:=by
 intro e he
 rw[x8g]at he
 obtain⟨v,hv,rfl⟩:=List.mem_map.mp he
 exact⟨⟨Int.ofNat v,intKind_is _ _ _ _,(j3i prog w v (y7e m hv)).symm⟩,rfl⟩
section
variable {prog:Program} {w:World} {A:Around} {E:Value->Shared->Prop} {s:Shared}
theorem j6x {a:Addr} {m v ep:Nat} {z:Nat->Tok} {led:Bool} {t:Tok} {Q:Bool->Shared->Prop} (hm:m<32) (hv:v<5) (ho:s.heap.get? a=some (so m z ep led))
  (h:∀ h' z' ep' r,Heap.SameBut a s.heap h'->h'.get? a=some (so (bor m v) z' ep' led)->Q r { s with heap:=h' }) :
  wpAny (model prog w) A (setAddHashed a (.int (Int.ofNat v) t) ((intKind prog w).hash (Int.ofNat v))) Q E s:=by
 have hd:(so m z ep led).data=.set (esL m z) ep (bt m led):=rfl
 have hf:(bt m led).fits (esL m z).size=true:=by rw[x2q]; exact y64 m hm led
 have hel:=j3p prog w (m:=m) z
 have hsz:(esL m z).size<scanBound:=by
  rw[x2q]; unfold bl scanBound; exact Nat.lt_of_le_of_lt (List.length_filter_le _ _) (by simp)
 have hkey:(intKind prog w).is (Int.ofNat v) (.int (Int.ofNat v) t)=true:=intKind_is _ _ _ _
 unfold setAddHashed setAddHashedIn
 refine wpAny_holding (wpAny_bind (wpAny_setState_of ho hd hf ?_))
 dsimp only
 rw[byScan_of (knd:=intKind prog w) rfl hsz hel]
 simp only[↓reduceIte]
 unfold setAddByScan
 refine wpAny_bind ?_
 refine wpAny_bind (wpAny_rule ?_)
 refine wpAny_bind (wpAny_setScan_of hkey ho hd hf hel ?_)
 cases hr:List.findIdx? (fun e=>(intKind prog w).is (Int.ofNat v) e.2) (esL m z).toList with
 | some j=>
  dsimp only
  obtain⟨hj,hpj,_⟩:=List.findIdx?_eq_some_iff_getElem.mp hr
  have hmem:=List.getElem_mem hj
  obtain⟨u,hu,eu⟩:=List.mem_map.mp (show(esL m z).toList[j]∈(bl m).map _ from hmem)
  rw[<- eu]at hpj
  have huv:v=u:=by
   have:=(intKind prog w).inj _ _ _ hpj (intKind_is _ _ (Int.ofNat u) _)
   exact Int.ofNat.inj this
  subst huv
  have e:s={ s with heap:=s.heap }:=by cases s; rfl
  refine wpAny_pure (wpAny_pure ?_)
  rw[e]
  refine h s.heap z ep _ (Heap.SameBut.refl a s.heap) ?_
  rw[j2r m hm v hv ((y7b m hm v hv).mp hu)]
  exact ho
 | none=>
  dsimp only
  have hb:m.testBit v=false:=by
   cases hk:m.testBit v with
   | false=>rfl
   | true=>
    have:=List.findIdx?_eq_none_iff.mp hr (Int.ofNat v,Value.int (Int.ofNat v) (z v)) (List.mem_map.mpr ⟨v,(y7b m hm v hv).mpr hk,rfl⟩)
    rw[intKind_is]at this; cases this
  have hL:layNew (bt m led) (esL m z) ((intKind prog w).hash (Int.ofNat v)) (.int (Int.ofNat v) t)=(esL (bor m v) (fun k=>if k=v then t else z k),((bt m led).put v).1,false,false):=by
   unfold layNew
   rw[j3i prog w v hv,j4k m hm v hv hb led]
   dsimp only
   rw[z82 hm hv hb z t,x2q]
   unfold SetTable.orStandIn
   rw[j4y m hm v hv hb led]
   rfl
  rw[hL]
  dsimp only
  refine wpAny_bind (show wpAny _ _ (pure ()) _ _ _ from wpAny_pure ?_)
  rw[(z8u m hm v hv hb led).1]
  simp only[↓reduceIte]
  rw[hashByValue_scannable 8 (x:=.int (Int.ofNat v) t) rfl]
  refine wpAny_bind (wpAny_pure ?_)
  simp only[plainKind,↓reduceIte]
  have hz1:(esL (bor m v) (fun k=>if k=v then t else z k)).size<=sizeLine:=by
   rw[x2q]; exact Nat.le_trans (z8u m hm v hv hb led).2 (by rw[sizeLine_eq]; omega)
  refine wpAny_bind (wpAny_storeSet_of ho hd ?_ hz1)
  have hg1:(s.heap.update a (Obj.putSet (esL (bor m v) (fun k=>if k=v then t else z k)) ((bt m led).put v).1)).get? a=some { so m z ep led with data:=.set (esL (bor m v) (fun k=>if k=v then t else z k)) (ep+1) ((bt m led).put v).1 }:=by
   have:=Heap.get?_update_self (Obj.putSet (esL (bor m v) (fun k=>if k=v then t else z k)) ((bt m led).put v).1) ho (by rw[putSet_of _ _ hd]; rfl)
   rw[putSet_of _ _ hd]at this; exact this
  have hsb:=Heap.SameBut.update s.heap a (Obj.putSet (esL (bor m v) (fun k=>if k=v then t else z k)) ((bt m led).put v).1)
  cases hfu:((bt m led).put v).1.tooFull with
  | false=>
   rw[if_neg (by simp)]
   refine wpAny_pure (show wpAny _ _ (pure true) _ _ _ from wpAny_pure (h _ (fun k=>if k=v then t else z k) (ep+1) _ hsb ?_))
   rw[hg1,j5p m hm v hv hb led hfu]; rfl
  | true=>
   rw[if_pos (by simp)]
   have hR:relayAll ((bt m led).put v).1 (esL (bor m v) (fun k=>if k=v then t else z k)) (SetTable.grown (esL (bor m v) (fun k=>if k=v then t else z k)).size)=(esL (bor m v) (fun k=>if k=v then t else z k),bt (bor m v) led,false):=by
    unfold relayAll
    rw[z2d,x2q]
    rw[show((bt m led).put v).1.relaid ((bl (bor m v)).map Int.ofNat).toArray (SetTable.grown (bl (bor m v)).length)=some (bt (bor m v) led,Array.range (bl (bor m v)).length)from j54 hm hv hb hfu]
    dsimp only
    have e1:(Array.range (bl (bor m v)).length).filterMap (fun i=>(esL (bor m v) (fun k=>if k=v then t else z k))[i]?)=esL (bor m v) (fun k=>if k=v then t else z k):=by
     apply Array.ext'
     rw[Array.toList_filterMap,Array.toList_range,<- x2q (bor m v) (fun k=>if k=v then t else z k)]
     exact filterMap_getElem?_range _
    rw[e1,j65 _ (Nat.lt_of_le_of_lt (z8u m hm v hv hb led).2 (by decide)),x2q,y64 _ (y6r m hm v hv) led]
    rfl
   rw[hR]
   dsimp only
   refine wpAny_bind (show wpAny _ _ (pure ()) _ _ _ from wpAny_pure ?_)
   refine wpAny_bind (wpAny_storeSet_of (s:={ s with heap:=_ }) hg1 rfl ?_ hz1)
   refine wpAny_pure (show wpAny _ _ (pure true) _ _ _ from wpAny_pure (h _ (fun k=>if k=v then t else z k) (ep+1+1) _ (hsb.trans (Heap.SameBut.update _ a _)) ?_))
   have:=Heap.get?_update_self (Obj.putSet (esL (bor m v) (fun k=>if k=v then t else z k)) (bt (bor m v) led)) hg1 (by rw[putSet_of _ _ rfl]; rfl)
   rw[putSet_of _ _ rfl]at this; exact this
end
noncomputable def mb (val:Nat->Nat):Nat->Nat
 | 0=>0
 | i+1=>bor (mb val i) (val i)
theorem z9w {val:Nat->Nat} {n:Nat} (hv:∀ i,i<n->val i<5):∀ i,i<=n->mb val i<32
 | 0,_=>by show 0<32; decide
 | i+1,h=>y6r _ (z9w hv i (by omega)) _ (hv i (by omega))
section
variable {prog:Program} {w:World} {A:Around} {R:Result->Shared->Prop} {I:Addr} {fp wr:List Addr} {G:Array GenState->Array GenState->Prop} {n:Nat} {P:Nat->Value->Prop} {St:Nat->Shared->Prop}
theorem j51 (W:WalksS prog w A.in1 I fp wr G n P St) (S:Addr) (hSf:S ∉ fp) (led:Bool)
  (val:Nat->Nat) (h5:∀ i,i<n->val i<5) (hval:∀ i v,P i v->∃ t,v=.int (Int.ofNat (val i)) t) :
  ∀ (k i:Nat) (s:Shared) (z:Nat->Tok) (ep:Nat),n-i=k->i<=n->St i s->s.heap.get? S=some (so (mb val i) z ep led)->
   (∀ s' z' ep',Moved (S::wr) G s s'->s'.heap.get? S=some (so (mb val n) z' ep' led)->R (.ok (.ret .none)) s')->
   codeAny (model prog w) A (.builtin "set.update.loop" ⟨[.ref S,.ref I],[]⟩) R s:=by
 have hSw:S ∉ wr:=fun h=>hSf (W.sub _ h)
 have hsub:∀ b∈wr,b∈S::wr:=fun b hb=>List.mem_cons_of_mem _ hb
 intro k
 induction k with
 | zero=>
  intro i s z ep hk hi hst hS hR
  have hin:i=n:=by omega
  subst hin
  refine codeAny_builtin PyProof.Rows.F.entry_set_update_loop ?_
  rw[Around.under_plainId PyProof.Rows.F.plain_set_update_loop _]
  show wpAny _ A.in1 (pyNext (.ref I) >>= _) _ _ s
  refine wpAny_bind (W.done s _ _ hst fun s' hm=>?_)
  show wpAny _ A.in1 (ret Value.none) _ _ s'
  exact wpAny_pure (hR s' z ep (hm.mono hsub) (hm.heap S _ hSw hS))
 | succ k ih=>
  intro i s z ep hk hi hst hS hR
  have hlt:i<n:=by omega
  refine codeAny_builtin PyProof.Rows.F.entry_set_update_loop ?_
  rw[Around.under_plainId PyProof.Rows.F.plain_set_update_loop _]
  show wpAny _ A.in1 (pyNext (.ref I) >>= _) _ _ s
  refine wpAny_bind (W.item i s _ _ hlt hst fun v s' hP hst' hm=>?_)
  obtain⟨t,rfl⟩:=hval i v hP
  show wpAny _ A.in1 (holding [Value.int (Int.ofNat (val i)) t] (setAdd S (.int (Int.ofNat (val i)) t)) >>= _) _ _ s'
  refine wpAny_bind (wpAny_holding ?_)
  unfold setAdd
  refine wpAny_holding ?_
  refine wpAny_bind ((intKind prog w).pyHash (k:=Int.ofNat (val i)) (intKind_is _ _ _ _) ?_)
  refine j6x (s:={ s' with toks:=s'.toks+1 }) (z9w h5 i hi) (h5 i hlt) (hm.heap S _ hSw hS) fun h' z' ep' r hsb hS2=>?_
  refine wpAny_pure ⟨plainId_quiet PyProof.Rows.F.plain_set_update_loop _,ih (i+1) _ z' ep' (by omega) hlt (W.frame _ s' _ _ hst' (Nat.le_succ _) fun b hb o e=>?_) hS2 fun s'' z'' ep'' hm'' hS''=>?_⟩
  ·rw[hsb.2 b (fun h:b=S=>hSf (by rw[<- h]; exact hb))]; exact e
  ·refine hR s'' z'' ep'' (Moved.trans W.gtrans ((hm.mono hsub).then_heap (Nat.le_succ _) fun b o hb e=>?_) hm'') hS''
   rw[hsb.2 b (fun h:b=S=>hb (by rw[h]; exact List.mem_cons_self))]; exact e
end
section
variable {prog:Program} {w:World} {A:Around} {E:Value->Shared->Prop} {s:Shared}
noncomputable abbrev byT (w:World):Bool:=w.params.followText "set-order"
theorem j1w (led:Bool):(so 0 (fun _=>0) 0 led)={ cls:=.type "set",dict:=none,data:=.set #[] 0 (.fresh 0 0 led) }:=by unfold so; congr 1
theorem j70 (a:Value) {Q₁:Value->Shared->Prop} (h:Q₁ (.ref s.heap.objs.size) { s with heap:=s.heap.push (so 0 (fun _=>0) 0 (!byT w)) }) :
  codeAny (model prog w) A (.call (.builtin "set.__new__") ⟨[.type "set",a],[]⟩) (wants Q₁ E) s:=by
 refine codeAny_of_tree ?_
 show wpAny _ A.in1 (do checkBuiltinCall "set.__new__" ⟨[.type "set",a],[]⟩; again (.builtin "set.__new__" ⟨[.type "set",a],[]⟩)) _ _ s
 refine wpAny_bind (wpAny_of_eq (PySem.F.newCall_set_1 a) (wpAny_pure ⟨plainId_quiet PySem.F.plain_set_new _,codeAny_builtin PySem.F.entry_set_new ?_⟩))
 rw[Around.under_plainId PySem.F.plain_set_new _]
 unfold Builtin.«set.__new__» Builtin.Frozenset.newClass
 have hsub:=sub_set_self
 obtain⟨hp,g,d,tk,os⟩:=s
 dsimp only
 wp_walk
 refine wpAny_askSetting (wpAny_pure ?_)
 dsimp only
 simp only[newObj]
 refine wpAny_bind (wpAny_alloc (wpAny_pure ?_))
 rw[j1w]at h
 exact wpAny_pure h
set_option maxHeartbeats 3200000 in
theorem j79 {t:Addr} {us:List Value} {ks:List Nat} {Q:Value->Shared->Prop} (hA:A.handled=none) (ht:s.heap.IsList t us.toArray) (hk:IntsAre us (ks.map Int.ofNat)) (h5:∀ k∈ks,k<5)
  (q:∀ (h':Heap) (tk:Nat) z ep,h'.get? s.heap.objs.size=some (so (mb (fun i=>ks.getD i 0) ks.length) z ep (!byT w))->(∀ b o,b<s.heap.objs.size->s.heap.get? b=some o->h'.get? b=some o)->Q (.ref s.heap.objs.size) { s with heap:=h',toks:=tk }) :
  wpAny (model prog w) A (call (.type "set") [.ref t]) Q E s:=by
 have hlen:us.length=ks.length:=by rw[IntsAre.length hk,List.length_map]
 have c1:=PySem.F.called_set.made
 have c2:=PySem.F.called_set.sub
 obtain⟨cc,tl,c3⟩:=PySem.F.called_set.mro
 have c4:=PySem.F.called_set.notType
 have c5:=PySem.F.called_set.canCreate
 have c6:=PySem.F.typeCall_set_1 (.ref t)
 refine wpAny_call (codeAny_of_tree (show wpAny _ _ (callAny (.type "set") _) _ _ _ from wpAny_pure ⟨Code.quiet_builtin _ (by decide +kernel),codeAny_builtin PySem.F.entry_type_call ?_⟩))
 rw[Around.under_plain (weight_type_call_type "set" [.ref t] []) rfl]
 repeat (any_goals (first | assumption | wp_step))
 refine codeAny_mono (j70 (.ref t) (E:=E) (Q₁:=fun ob s1=>ob=.ref s.heap.objs.size/\s1={ s with heap:=s.heap.push (so 0 (fun _=>0) 0 (!byT w)) }) ⟨rfl,rfl⟩) fun r s1 hr=>?_
 cases r with
 | error e=>exact hr
 | ok fl=>
  cases fl with
  | ret ob=>
   obtain⟨rfl,rfl⟩:=hr
   have g0:(s.heap.push (so 0 (fun _=>0) 0 (!byT w))).get? s.heap.objs.size=some (so 0 (fun _=>0) 0 (!byT w)):=Heap.get?_push_size _ rfl
   have g1:Shared.TypeIs { s with heap:=s.heap.push (so 0 (fun _=>0) 0 (!byT w)) } (.ref s.heap.objs.size) "set":=⟨_,g0,rfl⟩
   have g2:=PySem.F.called_set.init.lookup
   have g3:=PySem.F.called_set.init.bind (.ref s.heap.objs.size)
   repeat (any_goals (first | assumption | wp_step))
   refine codeAny_mono (codeAny_call_builtin (R:=wants (fun r s2=>r=.none/\∃ h' tk z ep,s2={ s with heap:=h',toks:=tk }/\h'.get? s.heap.objs.size=some (so (mb (fun i=>ks.getD i 0) ks.length) z ep (!byT w))/\(∀ b o,b<s.heap.objs.size->s.heap.get? b=some o->h'.get? b=some o)) E)
    PySem.F.called_set.init.plain PySem.F.entry_set_init (check_set_init_1 g1 ?_)) fun r2 s2 hr2=>?_
   ·obtain⟨ol,hol,hcl,nl,hdl⟩:=ht
    obtain⟨oc,od,odt,osl⟩:=ol
    simp only at hcl hdl
    subst hcl hdl
    have hol':(s.heap.push (so 0 (fun _=>0) 0 (!byT w))).get? t=some _:=Heap.get?_push_of_some _ hol
    have n1:=PySem.F.sub_list_set
    have n2:=PySem.F.sub_list_frozenset
    have n3:(Value.type "list" == Value.type "dict")=false:=by decide
    have tt:(s.heap.push (so 0 (fun _=>0) 0 (!byT w))).IsList t us.toArray:=⟨_,hol',rfl,nl,rfl⟩
    unfold Builtin.«set.__init__» noKeywords Builtin.Frozenset.updateFrom
    generalize hPI:pyIter=PI
    wp_walk
    subst hPI
    refine wpAny_pyIter_list tt (wpAny_bind (wpAny_runValue ?_))
    have lt:=Heap.lt_size hol
    have e1:(s.heap.push (so 0 (fun _=>0) 0 (!byT w))).objs.size=s.heap.objs.size+1:=Heap.size_push ..
    have sz:us.toArray.size=ks.length:=by rw[List.size_toArray,hlen]
    have hval:∀ (i:Nat) (v:Value),us.toArray[i]? = some v->∃ z,v=.int (Int.ofNat ((fun i=>ks.getD i 0) i)) z:=fun i v hv=>by
     have hi:i<us.length:=by
      rcases Nat.lt_or_ge i us.length with h | h
      ·exact h
      ·rw[Array.getElem?_eq_none (by rw[List.size_toArray]; exact h)]at hv; cases hv
     obtain⟨z,e⟩:=IntsAre.int_at hk i v (by rw[<- hv]; simp)
     refine⟨z,?_⟩
     rw[e]
     congr 1
     simp only[List.getD_eq_getElem?_getD,List.getElem?_map]
     rw[List.getElem?_eq_getElem (hlen ▸ hi)]
     rfl
    have h5':∀ i,i<us.toArray.size->(fun i=>ks.getD i 0) i<5:=fun i hi=>by
     rw[sz]at hi
     simp only[List.getD_eq_getElem?_getD]
     rw[List.getElem?_eq_getElem hi]
     exact h5 _ (List.getElem_mem hi)
    refine j51 ((Walks.list (A:=A.in1.in1.in1) (by simp[hA]) _ t (by rw[e1]; exact Nat.ne_of_lt (Nat.lt_succ_of_lt lt)) us.toArray).toS) s.heap.objs.size (by rw[e1]; simp only[List.mem_cons,List.not_mem_nil,or_false,not_or]; exact⟨Nat.ne_of_lt (Nat.lt_succ_self _),Nat.ne_of_gt lt⟩) (!byT w) (fun i=>ks.getD i 0) h5' hval (us.toArray.size-0) 0 _ (fun _=>0) 0 (by omega) (Nat.zero_le _) ⟨⟨_,Heap.get?_push_size _ rfl,rfl,rfl⟩,tt.push _⟩ ?zz1 ?zz2
    case zz1=>exact Heap.get?_push_of_some _ g0
    case zz2=>
     intro s' z' ep' hm hS
     rw[sz]at hS
     obtain⟨h',g',d',tk',os'⟩:=s'
     cases (show g'=s.gens from hm.gens)
     cases (show d'=s.drawn from hm.drawn)
     cases (show os'=s.os from hm.os)
     refine wpAny_pure (show wpAny _ _ (ret Value.none) _ _ _ from wpAny_pure ⟨rfl,h',tk',z',ep',rfl,hS,fun c o hc e=>hm.heap c o ?_ (Heap.get?_push_of_some _ (Heap.get?_push_of_some _ e))⟩)
     rw[e1]
     simp only[List.mem_cons,List.not_mem_nil,or_false,not_or]
     exact⟨Nat.ne_of_lt hc,Nat.ne_of_lt (Nat.lt_succ_of_lt hc)⟩
   ·cases r2 with
    | error e=>exact hr2
    | ok fl2=>
     cases fl2 with
     | ret r=>
      obtain⟨rfl,h',tk,z,ep,rfl,hS,kp⟩:=hr2
      repeat (any_goals (first | assumption | wp_step))
      exact q _ _ _ _ hS kp
     | _=>exact hr2.elim
  | _=>exact hr.elim
end
theorem j28:∀ m:Nat,m<32->∀ i:Nat,i<6->i<=(bl m).length->SetTable.below (bl m).toArray (if i=0 then 0 else(bl m).getD (i-1) 0+1)=i:=by decide +kernel
theorem y4n:∀ m:Nat,m<32->(bl m).length<=5:=by decide +kernel
theorem z0x {α:Type} (next:Nat->Nat):∀ (fuel k:Nat) (x3x:List α) (out:Array α),x3x.length=fuel->(pickOrder.go next fuel k x3x out).toList.Perm (out.toList++x3x)
 | 0,k,x3x,out,h=>by
  rw[List.eq_nil_of_length_eq_zero h,List.append_nil]; exact .rfl
 | fuel+1,k,x3x,out,h=>by
  unfold pickOrder.go
  have hlt:next k % x3x.length<x3x.length:=Nat.mod_lt _ (by omega)
  rw[List.getElem?_eq_getElem hlt]
  dsimp only
  refine(z0x next fuel (k+1) _ _ (by rw[List.length_eraseIdx,if_pos hlt]; omega)).trans ?_
  rw[Array.toList_push,List.append_assoc]
  refine List.Perm.append_left _ ?_
  rw[List.eraseIdx_eq_take_drop_succ]
  have e:x3x=x3x.take (next k % x3x.length)++x3x[next k % x3x.length]::x3x.drop (next k % x3x.length+1):=by
   rw[List.getElem_cons_drop]; exact(List.take_append_drop _ _).symm
  conv=>rhs; rw[e]
  show List.Perm (x3x[next k % x3x.length]::(x3x.take (next k % x3x.length)++x3x.drop (next k % x3x.length+1))) _
  exact List.perm_middle.symm
theorem y99 {α:Type} (next:Nat->Nat) (xs:Array α):(pickOrder next xs).toList.Perm xs.toList:=by
 unfold pickOrder
 exact z0x next _ 0 _ #[] (by simp)
theorem z3r:entryFor table "set.__iter__" = some Builtin.«frozenset.__iter__»:=
 entryFor_alias (id':="frozenset.__iter__") (by kernel_rfl) rfl (by decide +kernel) (by kernel_rfl)
theorem x91:Slot "set_iterator" "__next__" "set_iterator.__next__" :=
 .of (owner:="set_iterator") (n:="__next__") (by rw[typeLookup_type,builtinLookup_eq_fast]; kernel_rfl) (by decide +kernel) (by decide +kernel) (by decide +kernel)
  (by first | exact .inl (by decide +kernel) | exact .inr (by decide +kernel)) (by rw[isSubtype_type]; kernel_rfl)
theorem y7c:entryFor table "set_iterator.__next__" = some Builtin.«set_iterator.__next__»:=entryFor_of_tree (by kernel_rfl)
theorem z0n (a:Value):argsOk "set_iterator.__next__" ⟨[a],[]⟩:=by unfold argsOk; kernel_rfl
theorem y6z:Slot "set_iterator" "__iter__" "set_iterator.__iter__" :=
 .of (owner:="set_iterator") (n:="__iter__") (by rw[typeLookup_type,builtinLookup_eq_fast]; kernel_rfl) (by decide +kernel) (by decide +kernel) (by decide +kernel)
  (by first | exact .inl (by decide +kernel) | exact .inr (by decide +kernel)) (by rw[isSubtype_type]; kernel_rfl)
theorem z4c (a:Value):argsOk "set_iterator.__iter__" ⟨[a],[]⟩:=by unfold argsOk; kernel_rfl
theorem y96:entryFor table "set_iterator.__iter__" = some Builtin.«dict_keyiterator.__iter__»:=
 entryFor_alias (id':="dict_keyiterator.__iter__") (by kernel_rfl) rfl (by decide +kernel) (by kernel_rfl)
noncomputable def io (a:Addr) (sl i n ep:Nat):Obj:={ cls:=.type "set_iterator",dict:=none,data:=.fields #[.int (Int.ofNat sl) 0,.int (Int.ofNat i) 0,.ref a,.int (Int.ofNat n) 0,.int (Int.ofNat ep) 0],slots:=#[] }
noncomputable def wk (w:World) (a:Addr) (m:Nat) (z:Nat->Tok) (ep:Nat):Array (Int × Value):=if byT w then pickOrder (w.params.setOrder a ep) (esL m z)else esL m z
noncomputable def sl8 (w:World) (m i:Nat):Nat:=if byT w then 0 else if i=0 then 0 else(bl m).getD (i-1) 0+1
theorem z0e (w:World) (a:Addr) (m:Nat) (z:Nat->Tok) (ep:Nat):(wk w a m z ep).toList.Perm (esL m z).toList:=by
 unfold wk
 split
 ·exact y99 _ _
 ·exact .rfl
theorem y3c (w:World) (a:Addr) (m:Nat) (z:Nat->Tok) (ep:Nat):(wk w a m z ep).size=(bl m).length:=by
 rw[<- Array.length_toList,(z0e w a m z ep).length_eq,Array.length_toList,x2q]
section
variable {prog:Program} {w:World} {A:Around} {E:Value->Shared->Prop} {s:Shared} {a I:Addr} {m ep:Nat} {z:Nat->Tok}
theorem st8 {Q:(Array (Int × Value) × Nat × SetTable)->Shared->Prop} (hm:m<32) (ho:s.heap.get? a=some (so m z ep (!byT w))) (h:Q (esL m z,ep,bt m (!byT w)) s):wpAny (model prog w) A (setState a) Q E s:=
 wpAny_setState_of ho rfl (by rw[x2q]; exact y64 m hm _) h
theorem y9f {Q:Bool->Shared->Prop} (h:Q (byT w) s):wpAny (model prog w) A setsByText Q E s:=by
 unfold setsByText
 exact wpAny_bind (wpAny_askSetting (wpAny_pure h))
theorem j4m {Q:Value->Shared->Prop} (hm:m<32) (ho:s.heap.get? a=some (so m z ep (!byT w)))
  (hQ:Q (.ref s.heap.objs.size) { s with heap:=s.heap.push (io a 0 0 (bl m).length ep) }):wpAny (model prog w) A (pyIter (.ref a)) Q E s:=by
 have hT:s.TypeIs (.ref a) "set":=⟨_,ho,rfl⟩
 refine wpAny_pyIter_slot hT PySem.F.slot_set_iter (wpAny_call_entry PySem.F.slot_set_iter hT z3r ?_ (PySem.F.args_set_iter_1 _))
 unfold Builtin.«frozenset.__iter__» Builtin.Frozenset.slot0 slotArgs
 simp only[List.isEmpty_nil,Bool.not_true,Bool.false_eq_true,↓reduceIte,bind_assoc,List.length_nil,bne_self_eq_false]
 unfold Builtin.Frozenset.addrOf Builtin.Frozenset.sizeOf
 refine wpAny_bind (wpAny_pure ?_)
 try dsimp only
 refine wpAny_bind (wpAny_pure ?_)
 have hse:∀ {R:Array (Int × Value)->Shared->Prop},R (esL m z) s->wpAny (model prog w) A.in1 (setEntries a) R E s:=fun h=>by
  unfold setEntries; exact wpAny_bind (st8 hm ho (wpAny_pure h))
 refine wpAny_bind (wpAny_bind (hse (wpAny_pure ?_)))
 have hdr:∀ {R:Bool->Shared->Prop},R false s->wpAny (model prog w) A.in1 (setDrawn a) R E s:=fun h=>by
  unfold setDrawn
  refine wpAny_bind (st8 hm ho (wpAny_bind (y9f (wpAny_pure ?_))))
  have e:(!byT w && (!(bt m (!byT w)).plain && decide ((esL m z).size > 1)))=false:=by cases byT w <;> rfl
  exact e ▸ h
 refine wpAny_bind (hdr ?_)
 simp only[Bool.false_eq_true,↓reduceIte]
 refine wpAny_bind (wpAny_pure ?_)
 have hep:∀ {R:Nat->Shared->Prop},R ep s->wpAny (model prog w) A.in1 (setEpoch a) R E s:=fun h=>by
  unfold setEpoch; exact wpAny_bind (st8 hm ho (wpAny_pure h))
 refine wpAny_bind (hep ?_)
 unfold newFields
 refine wpAny_bind (wpAny_newObj_type (wpAny_pure ⟨_,rfl,"set_iterator",_,⟨_,Heap.get?_push_size _ rfl,rfl⟩,x91.lookup,?_⟩))
 rw[x2q]
 exact hQ
theorem j3z {i:Nat} {R:Option (Value × Nat)->Shared->Prop} (hm:m<32) (hi:i<=(bl m).length) (ho:s.heap.get? a=some (so m z ep (!byT w)))
  (h:R (((wk w a m z ep)[i]?).map fun e=>(e.2,sl8 w m (i+1))) s):wpAny (model prog w) A (setNext a (sl8 w m i) i ep) R E s:=by
 unfold setNext
 refine wpAny_bind (st8 hm ho (wpAny_bind (y9f ?_)))
 dsimp only
 cases hb:byT w with
 | true=>
  rw[if_pos rfl]
  rw[if_neg (by simp)]
  refine wpAny_bind (m:=setWalk a) ?_
  unfold setWalk
  refine wpAny_bind (st8 hm ho (wpAny_bind (y9f ?_)))
  rw[hb,if_pos rfl]
  refine wpAny_bind (wpAny_askSetting (wpAny_pure (wpAny_pure ?_)))
  unfold wk sl8 at h
  rw[hb]at h
  simp only[↓reduceIte]at h
  unfold sl8
  rw[hb,if_pos rfl]
  exact h
 | false=>
  rw[if_neg (by simp)]
  refine(show wpAny _ _ (if((!(bt m (!false)).plain && decide ((esL m z).size > 1))=true)then _ else _) _ _ _ from ?_)
  rw[if_neg (show ¬ ((!(bt m (!false)).plain && decide ((esL m z).size > 1))=true)from by show ¬ ((!true && _)=true); simp)]
  refine wpAny_bind (show wpAny _ _ (if((!(bt m (!false)).led && !(esL m z).isEmpty)=true)then unsupported "set:maker-not-led" else pure ()) _ _ _ from ?_)
  rw[if_neg (show ¬ ((!(bt m (!false)).led && !(esL m z).isEmpty)=true)from by show ¬ ((!(!false) && _)=true); simp)]
  refine wpAny_pure ?_
  unfold wk sl8 at h
  rw[hb]at h
  simp only[Bool.false_eq_true,↓reduceIte,Nat.add_one_ne_zero,Nat.add_sub_cancel]at h
  unfold sl8
  rw[hb]
  simp only[Bool.false_eq_true,↓reduceIte]
  refine wpAny_pure ?_
  have hl:=y4n m hm
  have hbw:=j28 m hm i (by omega) hi
  rw[show(bt m (!false)).place=(bl m).toArray from rfl,hbw]
  rcases Nat.lt_or_ge i (bl m).length with hlt | hge
  ·have hs:i<(esL m z).size:=by rw[x2q]; exact hlt
   have e1:(esL m z)[i]? = some (esL m z)[i]:=Array.getElem?_eq_getElem hs
   have e2:(bl m).toArray[i]? = some ((bl m).getD i 0):=by simp[List.getElem?_eq_getElem hlt]
   rw[e1]at h ⊢
   rw[e2]
   exact h
  ·have e1:(esL m z)[i]? = none:=Array.getElem?_eq_none (by rw[x2q]; exact hge)
   rw[e1]at h ⊢
   exact h
theorem j62 (hh:A.handled=none) (hne:a≠I) (hm:m<32):Walks prog w A I [I,a] [I] (bl m).length (fun i v=>∃ e,(wk w a m z ep)[i]? = some e/\v=e.2)
  (fun i h=>h.get? I=some (io a (sl8 w m i) i (bl m).length ep)/\h.get? a=some (so m z ep (!byT w))) where
 sub:=fun b hb=>by simp at hb; simp[hb]
 frame:=fun _ _ _ st hk=>⟨hk I (by simp) _ st.1,hk a (by simp) _ st.2⟩
 self:=fun i s Q E st hQ=>by
  have hT:s.TypeIs (.ref I) "set_iterator":=⟨_,st.1,rfl⟩
  refine wpAny_pyIter_slot hT y6z (wpAny_call_entry y6z hT y96 ?_ (z4c _))
  show wpAny _ _ (ret (.ref I)) _ _ s
  exact wpAny_pure ⟨_,rfl,"set_iterator",_,hT,x91.lookup,hQ⟩
 item:=fun i s Q E hi st hQ=>by
  have hT:s.TypeIs (.ref I) "set_iterator":=⟨_,st.1,rfl⟩
  unfold pyNext
  refine wpAny_bind (wpAny_attempt (wpAny_callSpecial?_slot (name:=Str.ofString "__next__") hT x91 (wpAny_call_entry x91 hT y7c ?_ (z0n _))))
  unfold Builtin.«set_iterator.__next__»
  refine wpAny_bind (wpAny_pure ?_)
  refine wpAny_bind (wpAny_fieldsOf st.1 rfl ?_)
  show wpAny _ _ (setEntries a >>= _) _ _ _
  have hse:∀ {R:Array (Int × Value)->Shared->Prop} {E:Value->Shared->Prop},R (esL m z) s->wpAny (model prog w) A.in1 (setEntries a) R E s:=fun h=>by
   unfold setEntries; exact wpAny_bind (st8 hm st.2 (wpAny_pure h))
  refine wpAny_bind (hse ?_)
  dsimp only
  rw[if_neg (by rw[x2q]; simp)]
  show wpAny _ _ (setNext a (sl8 w m i) i ep >>= _) _ _ _
  refine wpAny_bind (j3z hm (Nat.le_of_lt hi) st.2 ?_)
  have ew:(wk w a m z ep)[i]? = some ((wk w a m z ep)[i]'(by rw[y3c]; exact hi)):=Array.getElem?_eq_getElem (by rw[y3c]; exact hi)
  rw[ew]
  show wpAny _ _ (setField (.ref I) 0 (rawInt (sl8 w m (i+1))) >>= _) _ _ _
  refine wpAny_bind (wpAny_setField_rec st.1 (by simp) fun h1 g1 b1=>?_)
  refine wpAny_bind (wpAny_setField_rec (s:={ s with heap:=h1 }) g1 (by simp) fun h2 g2 b2=>?_)
  refine wpAny_pure ⟨_,rfl,wpAny_pure (hQ _ h2 s.toks ⟨_,ew,rfl⟩ ⟨?_,?_⟩ fun b o hb e=>?_)⟩
  ·rw[g2]; simp[io,rawInt]
  ·have n1:=(b1.2 a hne); have n2:=(b2.2 a hne)
   rw[n2,n1]; exact st.2
  ·have hb':b≠I:=fun h=>hb (by simp[h])
   rw[b2.2 b hb',b1.2 b hb']; exact e
 done:=fun s Q E st hQ=>by
  have hT:s.TypeIs (.ref I) "set_iterator":=⟨_,st.1,rfl⟩
  unfold pyNext
  refine wpAny_bind (wpAny_attempt (wpAny_callSpecial?_slot (name:=Str.ofString "__next__") hT x91 (wpAny_call_entry x91 hT y7c ?_ (z0n _))))
  unfold Builtin.«set_iterator.__next__»
  refine wpAny_bind (wpAny_pure ?_)
  refine wpAny_bind (wpAny_fieldsOf st.1 rfl ?_)
  show wpAny _ _ (setEntries a >>= _) _ _ _
  have hse:∀ {R:Array (Int × Value)->Shared->Prop} {E:Value->Shared->Prop},R (esL m z) s->wpAny (model prog w) A.in1 (setEntries a) R E s:=fun h=>by
   unfold setEntries; exact wpAny_bind (st8 hm st.2 (wpAny_pure h))
  refine wpAny_bind (hse ?_)
  dsimp only
  rw[if_neg (by rw[x2q]; simp)]
  show wpAny _ _ (setNext a (sl8 w m (bl m).length) (bl m).length ep >>= _) _ _ _
  refine wpAny_bind (j3z hm (Nat.le_refl _) st.2 ?_)
  have ew:(wk w a m z ep)[(bl m).length]? = none:=Array.getElem?_eq_none (by rw[y3c]; exact Nat.le_refl _)
  rw[ew]
  show wpAny _ _ (setField (.ref I) 2 .none >>= _) _ _ _
  refine wpAny_bind (wpAny_setField_rec st.1 (by simp) fun h1 g1 b1=>?_)
  show wpAny _ _ (newExc (.type "StopIteration") [] >>= _) _ _ _
  refine wpAny_bind ?_
  simp only[newExc,newTuple]
  refine wpAny_bind (wpAny_newObj_type ?_ (by size_fits))
  refine wpAny_bind (m:=firstArgMember _ _) (wpAny_of_eq (a:=Value.none) (by first | rfl | (simp only[firstArgMember]; rfl)) ?_)
  refine wpAny_newObj_type ?_ (by size_fits)
  simp only[raiseNew]
  refine wpAny_bind (wpAny_handled ?_)
  rw[show A.in1.handled=none from hh]
  refine wpAny_bind (wpAny_pure (wpAny_throw ?_))
  refine wpAny_bind (wpAny_isInstance (T:="StopIteration") (b:=true) ⟨_,Heap.get?_push_size _ rfl,rfl⟩ isSubtype_stop ?_)
  refine wpAny_pure (hQ _ s.toks fun b o hb e=>?_)
  have hb':b≠I:=fun h=>hb (by simp[h])
  exact Heap.get?_push_of_some _ (Heap.get?_push_of_some _ (by rw[b1.2 b hb']; exact e))
end
section
variable {prog:Program} {w:World} {A:Around} {E:Value->Shared->Prop} {s:Shared} {a I:Addr} {m ep:Nat} {z:Nat->Tok}
theorem j6b {Q:Bool->Shared->Prop} (hT:s.TypeIs (.ref a) "set") (h:Q false s):wpAny (model prog w) A (Builtin.List.listLengthHint (.ref a)) Q E s:=by
 unfold Builtin.List.listLengthHint
 refine wpAny_bind (wpAny_specialOf hT PySem.F.slot_set_len.lookup ?_)
 generalize hid:("set.__len__":String)=id0
 wp_delta
 rw[show splitId id0=some ("set","__len__")from by subst hid; decide +kernel]
 subst hid
 refine wpAny_bind (wpAny_isInstance (T:="set") (b:=true) hT (by rw[isSubtype_type]; kernel_rfl) ?_)
 refine wpAny_ite_split (fun hab=>absurd hab (by decide)) (fun _=>?_)
 refine wpAny_ite_split (fun _=>?_) (fun hab=>absurd (by decide +kernel) hab)
 refine wpAny_bind (wpAny_typeOf hT ?_)
 exact wpAny_pure h
theorem j7y (hm:m<32):KdlSrc prog w "set" a a (bl m).length (fun i v=>∃ e,(wk w a m z ep)[i]? = some e/\v=e.2) (fun h=>h.get? a=some (so m z ep (!byT w))) where
 type:=fun _ h=>⟨_,h,rfl⟩
 there:=fun _ h=>⟨Heap.lt_size h,Heap.lt_size h⟩
 keep:=fun _ _ h hk=>hk a (.inl rfl) _ h
 notList:=by decide
 notTuple:=by decide
 hint:=fun _ _ _ _ h hq=>j6b ⟨_,h,rfl⟩ hq
 iter:=fun A s hh h=>⟨io a 0 0 (bl m).length ep,_,(fun _ _ hq=>j4m hm h hq),j62 hh (Nat.ne_of_lt (Heap.lt_size h)) hm,⟨by rw[show sl8 w m 0=0 by unfold sl8; split <;> rfl]; exact Heap.get?_push_size _ rfl,Heap.get?_push_of_some _ h⟩⟩
theorem j6c {vs:List Value} (hl:vs.length=(bl m).length) (hv:∀ (j:Nat) (v:Value),vs[j]? = some v->∃ e,(wk w a m z ep)[j]? = some e/\v=e.2):∃ ns:List Int,IntsAre vs ns/\ns.Perm ((bl m).map Int.ofNat):=by
 have e:vs=(wk w a m z ep).toList.map (·.2):=by
  apply List.ext_getElem?
  intro j
  rw[List.getElem?_map]
  have et:(wk w a m z ep).toList[j]? = (wk w a m z ep)[j]?:=Array.getElem?_toList
  rw[et]
  rcases Nat.lt_or_ge j vs.length with h | h
  ·obtain⟨e,h1,h2⟩:=hv j _ (List.getElem?_eq_getElem h)
   rw[h1,List.getElem?_eq_getElem h,h2]; rfl
  ·rw[List.getElem?_eq_none h,Array.getElem?_eq_none (by rw[y3c]; omega)]; rfl
 have p:vs.Perm ((bl m).map fun v:Nat=>Value.int (Int.ofNat v) (z v)):=by
  rw[e]
  refine((z0e w a m z ep).map _).trans ?_
  rw[x8g,List.map_map]
  exact .rfl
 refine⟨vs.map numOf,intsAre_map vs fun v h=>?_,?_⟩
 ·obtain⟨k,_,rfl⟩:=List.mem_map.mp (p.mem_iff.mp h)
  exact⟨_,_,rfl⟩
 ·refine(p.map numOf).trans ?_
  rw[List.map_map]
  exact .rfl
theorem z09 (m:Nat):((bl m).map Int.ofNat).Pairwise (· <= ·):=by
 rw[List.pairwise_map]
 refine List.Pairwise.imp (R:=(· < ·)) (fun h=>Int.ofNat_le.mpr (Nat.le_of_lt h)) ?_
 unfold bl
 exact List.Pairwise.filter _ List.pairwise_lt_range
theorem z95 {Q:Value->Shared->Prop} (hh:A.handled=none) (hm:m<32) (ho:s.heap.get? a=some (so m z ep (!byT w)))
  (h:∀ (h1:Heap) (h':Heap) (tk:Nat) (us:List Value) (c:Nat),(∀ b o,s.heap.get? b=some o->h1.get? b=some o)->(∀ b o,s.heap.get? b=some o->h'.get? b=some o)->IntsAre us ((bl m).map Int.ofNat)->
    h'.get? h1.objs.size=some { cls:=.type "list",data:=.seq us.toArray c }->Q (.ref h1.objs.size) { s with heap:=h',toks:=tk }) :
  wpAny (model prog w) A (call (.builtin "sorted") [.ref a]) Q E s:=by
 refine Calls.call_function_entry kind_sorted plain_sorted entry_sorted (args_sorted1 _) ?_
 unfold Builtin.«sorted»
 refine wpAny_bind (m:=checkCount "sorted" 1 1 _) (wpAny_pure ?_)
 have hl5:=y4n m hm
 refine wpAny_bind (kdu_collect (A:=A.in1) (j7y hm) hh ho (kdl_size (by omega)) fun h' tk acc hk hacc=>?_)
 have hl:acc.toList.length=(bl m).length:=by rw[Array.length_toList]; exact hacc.1
 refine wpAny_bind (wpAny_newList ?_ (by rw[hl]; exact kdl_size (by omega)))
 obtain⟨ns,hI,hp⟩:=j6c (w:=w) (a:=a) (z:=z) (ep:=ep) hl (fun j v e=>hacc.2 j v (by rw[<- Array.getElem?_toList]; exact e))
 have hoL:(h'.push (seqObj "list" acc.toList.toArray 0)).get? h'.objs.size=some (seqObj "list" acc.toList.toArray 0):=Heap.get?_push_size _ rfl
 refine wpAny_bind (wpAny_holding (wpAny_call_entry slot_list_sort ⟨_,hoL,rfl⟩ entry_list_sort (list_sort_tree hoL hI (by omega) fun out ns' a1 a2 a3=>⟨_,rfl,?_⟩) (args_list_sort _)))
 refine wpAny_pure ⟨_,rfl,?_⟩
 have en:ns'=(bl m).map Int.ofNat:=lks_uniq (a2.trans hp) a3 (z09 m)
 subst en
 have lt:∀ b o,s.heap.get? b=some o->b≠h'.objs.size:=fun b o e=>Nat.ne_of_lt (Heap.lt_size (hk b o e))
 have keep:∀ (H:Heap) (f:Array Value->Array Value) (D:Addr),(∀ b o,s.heap.get? b=some o->b≠D)->(∀ b o,s.heap.get? b=some o->H.get? b=some o)->∀ b o,s.heap.get? b=some o->(H.update D (Obj.mapSeq f)).get? b=some o:=
  fun H f D hD hH b o e=>(Heap.get?_update_other _ _ (Ne.symm (hD b o e))).trans (hH b o e)
 unfold sortedHeap
 have g1:=get?_update_seq hoL (fun _=>(#[]:Array Value))
 have g2:=Heap.get?_push_of_some (seqObj "tuple" acc.toList.toArray 0) g1
 have g3:=Heap.get?_push_of_some (seqObj "list" #[] 0) g2
 have g4:=get?_update_seq g3 (fun _=>out)
 refine h h' _ _ out.toList _ hk ?_ a1 (by rw[Array.toArray_toList]; exact g4)
 ·refine keep _ _ _ lt fun b o e=>Heap.get?_push_of_some _ (Heap.get?_push_of_some _ ?_)
  exact keep _ _ _ lt (fun b o e=>Heap.get?_push_of_some _ (hk b o e)) b o e
end
section
variable {X:Cx} {pins:List (Addr × Obj)} {σ:St} {H:Hp} {s:Shared} {a:Addr} {h1 h':Heap} {o:HO} {t':Nat}
theorem z6c {P:Program} {w:World} {h:Heap} (x:HOk P w H h) (k:∀ b u,h.get? b=some u->h1.get? b=some u) (hp:h1.objs.size<=a):H a=none:=by
 cases q:H a with
 | none=>rfl
 | some u=>exact absurd (Nat.lt_of_lt_of_le ((x a u q).stay (h':=h1) (H':=H) (fun b u _ e=>k b u e) (fun _ e=>e) (fun _ _ e=>e)).lt hp) (Nat.lt_irrefl _)
theorem j55 (I:Inv X pins σ H s) (k1:∀ b u,s.heap.get? b=some u->h1.get? b=some u) (hp:h1.objs.size<=a) (k:∀ b u,s.heap.get? b=some u->h'.get? b=some u) (new:x3n X.prog X.w (upd H a o) h' a o) :
  Inv X pins σ (upd H a o) { s with heap:=h',toks:=t' }:=by
 have hn:=z6c I.hok k1 hp
 refine I.un ⟨fun b u q _ _ _=>k b u q,fun b u q _ _ _=>⟨u.slots,k b u q⟩,fun b u q n _=>?_,fun b u q _=>⟨u,k b u q⟩,fun b xs q=>by rw[x0p (x1c q hn)]; exact q,fun b u xs q=>by rw[x0p (x1c q hn)]; exact q,
  fun b ps q=>⟨#[],by rw[x0p (x1c q hn),q]; simp⟩⟩ fun b u e=>?_
 ·rw[x0p (Nat.ne_of_lt (Nat.lt_of_lt_of_le (Heap.lt_size (k1 b u q)) hp))]; exact n
 ·by_cases hb:b=a
  ·subst hb; rw[x21]at e; cases e; exact new
  ·rw[x0p hb]at e
   exact(I.hok b u e).stay (fun c v _ q=>k c v q) (fun c q=>by rw[x0p (x1c q hn)]; exact q) fun c xs q=>by rw[x0p (x1c q hn)]; exact q
end
noncomputable def S8 (a:Addr) (m:Nat) (w:World):Heap->Prop:=fun h=>∃ z ep,h.get? a=some (so m z ep (!byT w))
noncomputable abbrev mOf (ks:List Nat):Nat:=mb (fun i=>ks.getD i 0) ks.length
theorem x67:∀ {ks:List Int} {us:List Value},IntsAre us ks->x2h (ks.map V.int) us
 | _,_,.nil=>.nil
 | _,_,.cons k t r=>.cons ⟨t,rfl⟩ (x67 r)
section
variable {X:Cx} {a:Expr} {fa:Den} {p p2 pos pos2:Pos}
theorem y9y (hc:X.calm=true):x94 X (.type "set") (fun xs H Q=>∃ t ks,xs=[.ref t]/\SqL X.K H t (ks.map fun k:Nat=>V.int (Int.ofNat k))/\(∀ k∈ks,k<5)/\∀ p,H p=none->Q (.ref p) (upd H p (.ext (S8 p (mOf ks) X.w)))):=by
 intro pins s σ H xs us Q I r hh
 obtain⟨t,ks,rfl,hq,hl,q⟩:=hh
 obtain⟨u,rfl,ru⟩:=y3h r
 cases ru
 obtain⟨its,rv,pl,_⟩:=I.list hq
 have rv':x2h ((ks.map Int.ofNat).map V.int) its:=by rw[List.map_map]; exact rv
 refine j79 (I.ok.hd hc) pl.isList (x99 rv') hl fun h' tk z ep hS kp=>?_
 refine⟨.ref s.heap.objs.size,_,I.laid (o:=.ext (S8 s.heap.objs.size (mOf ks) X.w)) (h':=h') (t':=tk) (fun b o e=>kp b o (Heap.lt_size e) e) (Nat.le_refl _) ⟨⟨z,ep,hS⟩,⟨_,hS⟩,fun h1 h2 ⟨z,ep,e⟩ k=>⟨z,ep,k _ e⟩⟩,rfl,q _ (I.hok.fresh (Nat.le_refl _))⟩
theorem y82 (hc:X.calm=true):x94 X (.builtin "sorted") (fun xs H Q=>∃ t m,xs=[.ref t]/\m<32/\H t=some (.ext (S8 t m X.w))/\∀ p,H p=none->Q (.ref p) (upd H p (.lst ((bl m).map fun k:Nat=>V.int (Int.ofNat k))))):=by
 intro pins s σ H xs us Q I r hh
 obtain⟨t,m,rfl,hm,hq,q⟩:=hh
 obtain⟨u,rfl,ru⟩:=y3h r
 cases ru
 obtain⟨⟨z,ep,ho⟩,_,_⟩:=I.hok _ _ hq
 refine z95 (I.ok.hd hc) hm ho fun h1 h' tk us c k1 kp hi hg=>?_
 have hv:=x67 hi
 rw[List.map_map]at hv
 exact⟨.ref h1.objs.size,_,j55 (o:=.lst ((bl m).map fun k:Nat=>V.int (Int.ofNat k))) I k1 (Nat.le_refl _) kp ⟨kdl_size (by rw[List.length_map]; have:=y4n m hm; omega),us,c,hv,hg⟩,rfl,q _ (z6c I.hok k1 (Nat.le_refl _))⟩
noncomputable def y7u:List D->Option (List Nat)
 | []=>some []
 | .int (.ofNat i)::ds=>if i<5 then(y7u ds).map (i :: ·)else none
 | _=>none
theorem z4k:∀ {ds:List D} {ks:List Nat},y7u ds=some ks->ds=ks.map (fun k:Nat=>D.int (Int.ofNat k))/\∀ k∈ks,k<5:=by
 intro ds
 induction ds with
 | nil=>intro ks h; cases h; exact⟨rfl,fun _ h=>nomatch h⟩
 | cons d ds ih=>
  intro ks h
  unfold y7u at h
  split at h
  ·rename_i e; cases e
  ·rename_i i ds' e
   cases e
   split at h
   ·rename_i hi
    obtain⟨ks',e,rfl⟩:=Option.map_eq_some_iff.mp h
    obtain⟨e1,e2⟩:=ih e
    exact⟨by rw[e1]; rfl,fun k hk=>by
     rcases List.mem_cons.mp hk with q | q
     ·rw[q]; exact hi
     ·exact e2 k q⟩
   ·cases h
  ·cases h
noncomputable def x46 (fa:Den):Den:=fun ρ=>match fa ρ with
 | some (.lst ds,q,ρ1)=>if q<=1 then match y7u ds with
  | some ks=>some (.lst ((bl (mOf ks)).map fun k:Nat=>D.int (Int.ofNat k)),1,ρ1)
  | none=>none
  else none
 | _=>none
theorem j2n {K:PySem.W.Frag} {H:Hp} {w:Wn} {o:Ow}:∀ {ks:List Nat} {vs:List V} {F:List Addr},Reps K H w o 0 (ks.map fun k:Nat=>D.int (Int.ofNat k)) vs F->vs=ks.map fun k:Nat=>V.int (Int.ofNat k)
 | [],_,_,h=>by cases h; rfl
 | k::ks,_,_,h=>by
  cases h with
  | cons r rs _=>rw[x39 r,j2n rs]; rfl
theorem j6q {K:PySem.W.Frag} {H:Hp} {w:Wn} {o:Ow}:∀ ks:List Nat,Reps K H w o 0 (ks.map fun k:Nat=>D.int (Int.ofNat k)) (ks.map fun k:Nat=>V.int (Int.ofNat k)) []
 | []=>.nil
 | k::ks=>.cons (.int _) (j6q ks) (fun _ h=>nomatch h)
theorem y8w (hc:X.calm=true) (hm:X.mg "sorted" = none) (hmS:X.mg "set" = none) (ha:PD X a fa) (hb:bootBuiltins "set" = some (.type "set"):=by kernel_rfl) (hb2:bootBuiltins "sorted" = some (.builtin "sorted"):=by kernel_rfl) (hg:Gl X "sorted":=by rfl) (hgS:Gl X "set":=by rfl)
  (hs:starEach [a] X.env=(false,eval a X.env)::starEach [] X.env:=by rfl) (hpl:(backTo pos2 (starEach [] X.env)).any (·.1)=false:=by rfl)
  (hs2:starEach [.Call (.Name "set" p2) [a] [] pos2] X.env=(false,eval (.Call (.Name "set" p2) [a] [] pos2) X.env)::starEach [] X.env:=by rfl) (hpl2:(backTo pos (starEach [] X.env)).any (·.1)=false:=by rfl) :
  PD X (.Call (.Name "sorted" p) [.Call (.Name "set" p2) [a] [] pos2] [] pos) (x46 fa):=by
 refine PE.imp (x4u (y82 hc) hg hm hb2 (x3e (x6a (y9y hc) hgS hmS hb (x3e ha x78 hs) (by decide) (by decide) hs hpl) x78 hs2) (by decide) (by decide) hs2 hpl2) fun σ H Q hh0=>?_
 obtain⟨ρ,w,t,r',q,ρ',gd,ee,k⟩:=hh0
 unfold x46 at ee
 split at ee
 ·rename_i ds q1 ρ1 h1
  split at ee
  ·rename_i hq1
   split at ee
   ·rename_i ks h2
    cases ee
    obtain⟨e,h5⟩:=z4k h2
    subst e
    refine⟨ρ,w,t,_,_,_,gd,h1,fun v H1 w1 F1 g1 go1 r1=>?_⟩
    obtain⟨p1,vs,rfl,hsq,rs⟩:=r1.seqV hq1
    have ev:=j2n rs
    subst ev
    have hm32:mOf ks<32:=z9w (n:=ks.length) (fun i hi=>by
     simp only[List.getD_eq_getElem?_getD]
     rw[List.getElem?_eq_getElem hi]
     exact h5 _ (List.getElem_mem hi)) _ (Nat.le_refl _)
    refine⟨p1,ks,rfl,hsq,h5,fun p' hp'=>⟨p',_,rfl,hm32,x21,fun l hl=>?_⟩⟩
    have gg:=g1.drop (t':=t)
    obtain⟨g2,go2⟩:=gg.grow (H':=upd H1 p' (.ext (S8 p' (mOf ks) X.w))) (fun b o q=>by
     unfold upd
     rw[if_neg (fun z=>by rw[z,hp']at q; cases q)]
     exact sm q) (gg.wl.tb.upd rfl (.inl hp'))
    obtain⟨a1,a2,a3⟩:=y2k g2 hl (j6q (bl (mOf ks)))
    exact k _ _ _ _ a1 (((go1.drop gd.wt).trans go2).trans a2) a3
   ·cases ee
  ·cases ee
 ·cases ee
end
end L3
namespace L3
open PySem PySem.Spec PyProof.Rows L2
noncomputable def rangeI (lo:Int) (n:Nat):List D:=(List.range n).map fun i=>.int (lo+Int.ofNat i)
theorem x6q (lo:Int) (n:Nat):(rangeI lo n).length=n:=by simp[rangeI]
theorem It.rangeI {K:PySem.W.Frag} {lo:Int} {n:Nat}:ItOk K (Itr lo n) (rangeI lo n) fun _ _=>True:=by
 refine⟨fun i H w _ hi=>by rw[x6q]at hi; exact hi,fun i H w x H' d _ _ hd y=>?_,fun H w _=>by rw[x6q]; exact Nat.le_refl _,fun _ _ _ _ _ _ _=>trivial⟩
 have hi:i<n:=by have:=(List.getElem?_eq_some_iff.mp hd).1; rw[x6q]at this; exact this
 have e:x=.int (lo+(i:Int)):=y.2
 have ed:d=.int (lo+Int.ofNat i):=by
  have:(L3.rangeI lo n)[i]? = some (.int (lo+Int.ofNat i)):=by simp[L3.rangeI,hi]
  rw[hd]at this
  exact Option.some.inj this
 obtain⟨rfl,_⟩:=y
 subst ed
 rw[e]
 exact⟨Mo.rfl',.int _,trivial⟩
@[simp] noncomputable def x97 (g:x1o):y1v:=fun ρ=>match g ρ with
 | some ([.int i,.int j],ρ1)=>if -500<=i/\i<=500 /\ -500<=j/\j<=500 then some (rangeI i (j-i).toNat,ρ1)else none
 | _=>none
section
variable {X:Cx} {a b tg:Expr} {p pos:Pos}
theorem y87 {g:x1o} (hm:X.mg "range" = none) (ha:PDA X [a,b] g) (hg:Gl X "range":=by rfl) (hs:starEach [a,b] X.env=[(false,eval a X.env),(false,eval b X.env)]:=by rfl) (hs2:starEach [b] X.env=[(false,eval b X.env)]:=by rfl):PDI X tg (.Call (.Name "range" p) [a,b] [] pos) (x97 g):=PI.imp (y9g hg hm ha hs hs2) fun σ H R hh0=>by
 obtain⟨ρ,w,t,ds,ρ',gd,ee,k⟩:=hh0
 unfold x97 at ee
 split at ee
 ·rename_i i j ρ1 h1
  split at ee
  ·rename_i hn
   cases ee
   refine⟨ρ,w,t,[.int i,.int j],_,gd,h1,fun vs H1 w1 g1 go1 r1=>?_⟩
   have hv:vs=[.int i,.int j]:=by
    have l:=r1.length
    match vs,l with
    | [v,u],_=>
     obtain⟨v',h1,h2⟩:=r1.get (i:=0) rfl
     cases h1
     obtain⟨u',h3,h4⟩:=r1.get (i:=1) rfl
     cases h3
     rw[x39 h2,x39 h4]
   subst hv
   refine⟨i,j,rfl,⟨by omega,by omega,by omega,by omega⟩,k _ _ H1 w1 g1 go1 It.rangeI trivial ?_⟩
   rw[x6q]
   exact x3q (by omega)
  ·cases ee
 ·cases ee
end
end L3
namespace L3
open PySem PySem.Spec PyProof.Rows PySem.W L2
section
variable {Y:Cx} {c e:Expr} {es:List Expr} {g:x1o} {gt:x1l} {x y:y7o} {a b ss:List Stmt} {st:Stmt} {pos:Pos}
theorem y6v {z:Str} {Fx:List D->Option Str} {j k n:Nat} {fp cpos:Pos} (CX:x8k Y.prog Y.w Y.K Y.mg Y.base k z n Fx) (hr:Room j Y.A) (hk:k<=j) (ha:PDA Y.nox (e::es) g)
  (hgx:Gl Y z:=by rfl) (hdx:(z == ("__debug__":Str))=false:=by decide)
  (he:starEach (e::es) Y.env=(false,eval e Y.env)::starEach es Y.env:=by rfl) (hpl:(backTo cpos (starEach es Y.env)).any (·.1)=false:=by rfl) :
  ∀ (pins:List (Addr × Obj)) (s:Shared) (σ:St) (H:Hp) (ρ:Rho) (w:Wn) (nm:Str) (ρ1:Rho),Inv Y.nox pins σ H s->Good Y.K ρ σ H w 0->x6v Fx n g ρ=some (nm,ρ1)->wpAny (model Y.prog Y.w) Y.A (eval (.Call (.Name z fp) (e::es) [] cpos) Y.env) (fun _ _=>False) (CE Y pins σ H w nm ρ1) s:=by
 intro pins s σ H ρ w nm ρ1 I gd ee
 unfold x6v at ee
 split at ee
 ·rename_i ds ρ2 h1
  split at ee
  ·rename_i hn
   obtain⟨nm',hx,e0⟩:=Option.map_eq_some_iff.mp ee
   cases e0
   obtain⟨fn,fd,ps,G,hm,hkp,hb⟩:=CX
   refine wpAny_Call_Name_kw (y12 (X:=Y.nox) I hgx hm ?_ hdx)
   refine PySem.W.callWith_K (h₀:=Y.base) I.ok.mod.kin hkp (wpAny_mono (ha cpos pins s σ H (fun vs H1=>∃ w1,Good Y.K ρ1 σ H1 w1 0/\Go H w H1 w1/\Reps Y.K H1 w1 .f 0 ds vs []) I ⟨ρ,w,0,ds,ρ1,gd,h1,fun vs H1 w1 g1 go1 r1=>⟨w1,g1,go1,r1⟩⟩) (fun us s1 hh1=>?_) (fun _ _ z=>False.elim z)) he hpl
   obtain⟨vs,H1,I1,rv,w1,g1,go1,r1⟩:=hh1
   refine⟨I1.kIn,?_⟩
   have hsp:spX Y.K n Fx vs H1 (fun _ _=>False) (fun c _ H'=>∃ C,c=.ref C/\nsIn Y.K mainGlobals nm=some (some (.ref C))/\(∀ b o,H1 b=some o->Sm o (H' b))/\TB Y.K H'):=by
    refine⟨by rw[<- r1.length]; exact hn,ds,fun a=>(w1 a).map fun _=>Ow.f,nm,fun a o e=>?_,⟨fun a o e=>?_,g1.wl.tb⟩,?_,hx,fun C H2 w2 hns wl2 go2=>⟨C,rfl,hns,fun b o e=>?_,wl2.tb⟩⟩
    ·try dsimp only at e
     cases ew:w1 a with
     | none=>rw[ew]at e; cases e
     | some o'=>rw[ew]at e; cases e; rfl
    ·try dsimp only at e
     cases ew:w1 a with
     | none=>rw[ew]at e; cases e
     | some o'=>exact g1.wl a o' ew
    ·exact Reps.freeze (fun a n=>by show(w1 a).map _=_; rw[n]; rfl) r1 (fun _ z=>nomatch z)
    ·cases ew:w1 b with
     | none=>exact(go2.stab b o e (by show(w1 b).map _=_; rw[ew]; rfl)).1
     | some o'=>exact sm (((go2.keep b .f (by show(w1 b).map _=_; rw[ew]; rfl) (fun i z=>nomatch z)).1).trans e)
   have hl:us.length=ps.length:=by rw[<- rv.length]; exact G.len _ _ _ _ hsp
   have hbb:=hb s1 us I1.kIn (by rw[List.append_nil]; exact hl)
   rw[List.append_nil]at hbb
   refine wpAny_call (codeAny_mono (G.run Y.A Y.stack s1 H1 ⟨us,[]⟩ us vs _ _ (hr.mono hk) I1.env0 hbb rv hsp) fun r s' hq=>?_)
   cases r with
   | ok fl=>
    cases fl with
    | ret u=>obtain⟨_,_,_,z⟩:=I1.after hq; exact z.2.elim
    | next=>exact False.elim hq
    | brk=>exact False.elim hq
    | cont=>exact False.elim hq
   | error ev=>
    obtain⟨a,C,t,B,H',rfl,F',C',eC,hns,hext,tb'⟩:=hq
    cases eC
    exact⟨s1,H1,w1,a,C,t,B,H',rfl,I1,g1,go1,F',hns,hext,tb'⟩
  ·cases ee
 ·cases ee
theorem z9q {z z' u:Str} {Fx Fx':List D->Option Str} {g':x1o} {e':Expr} {es':List Expr} {j k n k' n':Nat} {yp fp cpos fp' cpos' spos ipos:Pos} (CX:x8k Y.prog Y.w Y.K Y.mg Y.base k z n Fx) (CX':x8k Y.prog Y.w Y.K Y.mg Y.base k' z' n' Fx') (hr:Room j Y.A) (hk:k<=j) (hk':k'<=j) (hc:PDT Y.nox c gt) (ha:PDA Y.nox (e::es) g) (hb:PDA Y.nox (e'::es') g')
  (hgx:Gl Y z:=by rfl) (hgx':Gl Y z':=by rfl) (hdx:(z == ("__debug__":Str))=false:=by decide) (hdx':(z' == ("__debug__":Str))=false:=by decide) (hsc:swapsWith (.IfExp c (.Call (.Name z fp) (e::es) [] cpos) (.Call (.Name z' fp') (e'::es') [] cpos') ipos) (some (.Name u yp)) spos.line Y.env=pure false:=by rfl)
  (he:starEach (e::es) Y.env=(false,eval e Y.env)::starEach es Y.env:=by rfl) (hpl:(backTo cpos (starEach es Y.env)).any (·.1)=false:=by rfl)
  (he':starEach (e'::es') Y.env=(false,eval e' Y.env)::starEach es' Y.env:=by rfl) (hpl':(backTo cpos' (starEach es' Y.env)).any (·.1)=false:=by rfl) :
  PTS Y (.Assign [.Name u yp] (.IfExp c (.Call (.Name z fp) (e::es) [] cpos) (.Call (.Name z' fp') (e'::es') [] cpos') ipos) spos) (yIf gt (x6v Fx n g) (x6v Fx' n' g')):=by
 intro pins s σ H ρ w nm ρ1 I gd ee
 unfold yIf at ee
 split at ee
 ·rename_i b' ρ2 h1
  refine wpAny_Assign_Name ?_ hsc
  refine wpAny_IfExp (wpAny_mono (hc pins s σ H (fun d H1=>d=b'/\∃ w1,Good Y.K ρ2 σ H1 w1 0/\Go H w H1 w1) I ⟨ρ,w,0,b',ρ2,gd,h1,fun H1 w1 g1 go1=>⟨rfl,w1,g1,go1⟩⟩) (fun d s1 hh=>?_) (fun _ _ z=>False.elim z))
  obtain⟨H1,I1,rfl,w1,g1,go1⟩:=hh
  cases d with
  | true=>exact wpAny_mono (y6v CX hr hk ha hgx hdx he hpl pins s1 σ H1 ρ2 w1 nm ρ1 I1 g1 ee) (fun _ _ z=>z.elim) fun _ _ z=>CE.go go1 z
  | false=>exact wpAny_mono (y6v CX' hr hk' hb hgx' hdx' he' hpl' pins s1 σ H1 ρ2 w1 nm ρ1 I1 g1 ee) (fun _ _ z=>z.elim) fun _ _ z=>CE.go go1 z
 ·cases ee
end
section
variable {X:Cx} {E:XK} {a b:Expr} {fa:Den} {x:x4o} {pos:Pos}
theorem j3j {k:Nat} (hr:Room k X.A) (ha:PD X a fa) (hx:PXE X E b x) (hm:behindInMarks .In b=false:=by with_unfolding_all rfl):PXE X E (.Compare a [.In] [b] pos) (xTl fa x):=
 PE.imp (z1g (y9j (u65 hr)) ha hx hm) fun σ H Q h=>by
  obtain⟨ρ,w,t,nm,g,e,k⟩:=h
  unfold xTl at e
  split at e
  ·rename_i d q ρ1 h1
   exact⟨ρ,w,t,d,q,ρ1,g,h1,fun v H1 w1 F g1 go1 r1=>⟨ρ1,w1,t+1,nm,g1,e,fun C H2 w2 n wl go2=>k C H2 w2 n wl (go1.trans go2)⟩⟩
  ·cases e
end
end L3
namespace L3
open PySem PySem.Spec PyProof.Rows L2
noncomputable def x4x (fa:Den) (i:Nat):Den:=fun ρ=>match fa ρ with
 | some (d,_,ρ1)=>match ρ1[i]? with
  | some (some (e,_))=>match y72 d e with
   | some r=>some (r,9,ρ1)
   | none=>none
  | _=>none
 | none=>none
section
variable {X:Cx} {a:Expr} {fa:Den} {pos p1:Pos}
theorem z6p {K:PySem.W.Frag} {i:Nat}:∀ σ H Q,tD K (x4x fa i) σ H Q->tOp (j4a K true) (tD K fa) (x9n i) σ H Q:=fun σ H Q hh0=>by
 obtain⟨ρ,w,t,r',q,ρ',gd,ee,k⟩:=hh0
 unfold x4x at ee
 split at ee
 ·rename_i d q0 ρ1 h1
  split at ee
  ·rename_i e q1 e1
   split at ee
   ·rename_i r hd
    cases ee
    unfold y72 at hd
    split at hd
    ·rename_i hk
     cases hi:inD d e with
     | none=>rw[hi]at hd; cases hd
     | some b=>
      rw[hi]at hd
      cases hd
      refine⟨ρ,w,t,d,q0,ρ',gd,h1,fun v H1 w1 F g1 go1 r1=>?_⟩
      obtain⟨u,F',h3,h4⟩:=g1.slot i _ q1 e1
      exact⟨u,h3,d,e,b,⟨_,_,_,_,r1⟩,⟨_,_,_,_,h4⟩,hk.1,hk.2,hi,k _ H1 _ [] (g1.drop (t':=t)).up (go1.drop gd.wt) (.bl _)⟩
    ·cases hd
   ·cases ee
  ·cases ee
 ·cases ee
theorem y83 {k i:Nat} {x:Str} (hr:Room k X.A) (ha:PD X a fa) (hb:PE X (.Name x p1) (x9n i)) (hm:behindInMarks .NotIn (.Name x p1)=false:=by with_unfolding_all rfl):PDT X (.Compare a [.NotIn] [.Name x p1] pos) (x2n (x4x fa i)):=
 PT.imp (z18 (z0l (u65 hr)) ha hb hm) (y30 z6p)
end
structure QE (X:Cx) (e:Expr) (t:TE):Prop where mk::o:PE X e t
structure QD (X:Cx) (e:Expr) (f:Den):Prop where mk::o:PD X e f
structure QDA (X:Cx) (e:List Expr) (f:x1o):Prop where mk::o:PDA X e f
structure QDT (X:Cx) (e:Expr) (f:x1l):Prop where mk::o:PDT X e f
structure QDW (X:Cx) (e:Expr) (f:x1l):Prop where mk::o:PDW X e f
structure QDS (X:Cx) (e:Stmt) (f:x1d):Prop where mk::o:PDS X e f
structure QDSs (X:Cx) (e:List Stmt) (f:x1d):Prop where mk::o:y8p X e f
structure QDI (X:Cx) (tg e:Expr) (f:y1v):Prop where mk::o:PDI X tg e f
structure QDG (X:Cx) (b:Nat) (e:Expr) (f:x5s):Prop where mk::o:PDG X b e f
structure QDGs (X:Cx) (b:Nat) (e:List Expr) (f:x8m):Prop where mk::o:j3v X b e f
structure QDO (X:Cx) (e:Option Expr) (f:z5k):Prop where mk::o:PDO X e f
structure QDTs (X:Cx) (e:List Expr) (f:x1l):Prop where mk::o:j0j X e f
structure QQ (X:Cx) (e:Expr) (f:y56):Prop where mk::o:PQ X e f
structure QXE (X:Cx) (E:XK) (e:Expr) (x:x4o):Prop where mk::o:PXE X E e x
structure QXA (X:Cx) (E:XK) (e:List Expr) (x:x4o):Prop where mk::o:PXA X E e x
structure QXS (X:Cx) (E:XK) (e:Stmt) (x:x4o):Prop where mk::o:PXS X E e x
structure QXB (X:Cx) (E:XK) (e:List Stmt) (x:x4o):Prop where mk::o:PXB X E e x
structure QTS (Y:Cx) (e:Stmt) (y:y7o):Prop where mk::o:PTS Y e y
structure QTB (Y:Cx) (e:List Stmt) (y:y7o):Prop where mk::o:PTB Y e y
theorem qv {X:Cx} (i:Nat) {x:Str} {pos:Pos} (hN:X.N[i]? = some x:=by rfl) (hv:Vis X.env.scope x:=by first | exact Or.inl rfl | exact Or.inr (Or.inl rfl) | exact Or.inr (Or.inr rfl)) (hd:(x == ("__debug__":Str))=false:=by decide) (hcd:(x == ("__classdict__":Str))=false:=by decide):QE X (.Name x pos) (x9n i):=⟨pv i hN hv hd hcd⟩
theorem y4r {X:Cx} {e:Expr} {f:x1l} (h:QDW X e f):QDT X e f:=⟨PW.pt h.o⟩
section
variable {X:Cx} {a b c e:Expr} {fa fb fc f:Den} {pos:Pos}
theorem x07 {i j}:QD X (.Constant (.int i) j pos) (eC (.int i)):=⟨j35 ⟩
end
section
variable {X:Cx} {a b c e:Expr} {fa fb fc f:Den} {pos:Pos}
theorem x57 {i j}:QD X (.Constant (.bool i) j pos) (eC (.bl i)):=⟨j4q ⟩
end
section
variable {X:Cx} {a b c e:Expr} {fa fb fc f:Den} {pos:Pos}
theorem x6y {j}:QD X (.Constant .none j pos) (eC .non):=⟨j18 ⟩
end
section
variable {X:Cx} {a b c e:Expr} {fa fb fc f:Den} {pos:Pos}
theorem x8d {x j}:QD X (.Constant (.str x) j pos) (eC (.str x)):=⟨j1o ⟩
end
section
variable {X:Cx} {a b c e:Expr} {fa fb fc f:Den} {pos:Pos}
theorem x02 {i:Nat} {x:Str} (h:QE X (.Name x pos) (x9n i)):QD X (.Name x pos) (x06 i):=⟨j0i h.o⟩
end
section
variable {X:Cx} {a b c e:Expr} {fa fb fc f:Den} {pos:Pos}
theorem x1r (ha:QD X a fa) (hb:QD X b fb):QD X (.BinOp a .Add b pos) (e2 x2g fa fb):=⟨j40 ha.o hb.o⟩
end
section
variable {X:Cx} {a b c e:Expr} {fa fb fc f:Den} {pos:Pos}
theorem x71 (ha:QD X a fa) (hb:QD X b fb):QD X (.BinOp a .Mult b pos) (e2 y00 fa fb):=⟨j1z ha.o hb.o⟩
end
section
variable {X:Cx} {a b c e:Expr} {fa fb fc f:Den} {pos:Pos}
theorem y3z (ha:QD X a fa) (hb:QD X b fb):QD X (.BinOp a .FloorDiv b pos) (e2 z64 fa fb):=⟨j1k ha.o hb.o⟩
end
section
variable {X:Cx} {a b c e:Expr} {fa fb fc f:Den} {pos:Pos}
theorem x7q (ha:QD X a fa) (hb:QD X b fb):QD X (.BinOp a .Mod b pos) (e2 y7r fa fb):=⟨j0g ha.o hb.o⟩
end
section
variable {X:Cx} {a b c e:Expr} {fa fb fc f:Den} {pos:Pos}
theorem x9w (ha:QD X a fa) (hb:QD X b fb) (hs:x5m b:=by exact fun _ _=>rfl):QD X (.Subscript a b pos) (eIx fa fb):=⟨j4r ha.o hb.o hs⟩
end
section
variable {X:Cx} {a b c e:Expr} {fa fb fc f:Den} {pos:Pos}
theorem x03:QDA X [] x0d:=⟨z85 ⟩
end
section
variable {X:Cx} {a b c e:Expr} {fa fb fc f:Den} {pos:Pos}
theorem x00 {es:List Expr} {g:x1o} (ha:QD X e f) (hr:QDA X es g) (hs:starEach (e::es) X.env=(false,eval e X.env)::starEach es X.env:=by rfl):QDA X (e::es) (x01 f g):=⟨z49 ha.o hr.o hs⟩
end
section
variable {X:Cx} {a b c e:Expr} {fa fb fc f:Den} {pos:Pos}
theorem x1w {es:List Expr} {g:x1o} (h:QDA X es g):QD X (.List es pos) (x4n g):=⟨j04 h.o⟩
end
section
variable {X:Cx} {a b c e:Expr} {fa fb fc f:Den} {pos:Pos}
theorem x12 {es:List Expr} {g:x1o} {x1} (h:QDA X es g):QD X (.Tuple es x1 pos) (x34 g):=⟨j0v h.o⟩
end
section
variable {X:Cx} {a b c e:Expr} {fa fb fc f:Den} {ga gb gc:x1l} {pos:Pos}
theorem x2v (ha:QD X a fa) (he:∀ whole,isTrue a X.env whole=(do let v <- whole; standAt a.pos; holding [v] (truthy v)):=by exact fun _=>rfl):QDT X a (x6t fa):=⟨z7h ha.o he⟩
end
section
variable {X:Cx} {a b c e:Expr} {fa fb fc f:Den} {ga gb gc:x1l} {pos:Pos}
theorem j06 {op:CmpOp} {g:D->D->Option D} {r:R2} (ho:OpR X (compareOp op) r) (hr:∀ σ H Q,tD X.K (e2 g fa fb) σ H Q->tOp r (tD X.K fa) (tD X.K fb) σ H Q) (ha:QD X a fa) (hb:QD X b fb) (hm:behindInMarks op b=false):QD X (.Compare a [op] [b] pos) (e2 g fa fb):=⟨z0m ho hr ha.o hb.o hm⟩
end
section
variable {X:Cx} {a b c e:Expr} {fa fb fc f:Den} {ga gb gc:x1l} {pos:Pos}
theorem y6s (ha:QD X a fa) (hb:QD X b fb):QDT X (.Compare a [.Lt] [b] pos) (x2n (e2 dLt fa fb)):=⟨j3t ha.o hb.o⟩
end
section
variable {X:Cx} {a b c e:Expr} {fa fb fc f:Den} {ga gb gc:x1l} {pos:Pos}
theorem j24 (ha:QD X a fa) (hb:QD X b fb):QDT X (.Compare a [.Gt] [b] pos) (x2n (e2 dGt fa fb)):=⟨j1s ha.o hb.o⟩
end
section
variable {X:Cx} {a b c e:Expr} {fa fb fc f:Den} {ga gb gc:x1l} {pos:Pos}
theorem x3p (ha:QDT X a ga):QDT X (.UnaryOp .Not a pos) (x4h ga):=⟨z78 ha.o⟩
end
section
variable {X:Cx} {a b c e:Expr} {fa fb fc f:Den} {ga gb gc:x1l} {pos:Pos} {rest:List Expr}
theorem z48 (ha:QDT X a ga):QDW X (.BoolOp .And [a] pos) ga:=⟨z46 ha.o⟩
end
section
variable {X:Cx} {a b c e:Expr} {fa fb fc f:Den} {ga gb gc:x1l} {pos:Pos} {rest:List Expr}
theorem x7g (ha:QDT X a ga):QDW X (.BoolOp .Or [a] pos) ga:=⟨z81 ha.o⟩
end
section
variable {X:Cx} {a b c e:Expr} {fa fb fc f:Den} {ga gb gc:x1l} {pos:Pos} {rest:List Expr}
theorem z77 (ha:QDT X a ga) (hb:QDW X (.BoolOp .And (b::rest) pos) gb):QDW X (.BoolOp .And (a::b::rest) pos) (y0b ga gb):=⟨z8h ha.o hb.o⟩
end
section
variable {X:Cx} {a b c e:Expr} {fa fb fc f:Den} {ga gb gc:x1l} {pos:Pos} {rest:List Expr}
theorem x9g (ha:QDT X a ga) (hb:QDW X (.BoolOp .Or (b::rest) pos) gb):QDW X (.BoolOp .Or (a::b::rest) pos) (z0t ga gb):=⟨j1d ha.o hb.o⟩
end
section
variable {X:Cx} {a b c e:Expr} {fa fb fc f:Den} {ga gb gc:x1l} {pos:Pos} {rest:List Expr}
theorem y7g (hc:QDT X c gc) (ha:QD X a fa) (hb:QD X b fb):QD X (.IfExp c a b pos) (eIf gc fa fb):=⟨z2l hc.o ha.o hb.o⟩
end
section
variable {X:Cx} {a b c e:Expr} {fa fb fc f:Den} {ga gb gc:x1l} {pos:Pos} {st:Stmt} {rest sa sb:List Stmt} {s s':x1d}
theorem x1q:QDSs X [] x6h:=⟨z8j ⟩
end
section
variable {X:Cx} {a b c e:Expr} {fa fb fc f:Den} {ga gb gc:x1l} {pos:Pos} {st:Stmt} {rest sa sb:List Stmt} {s s':x1d}
theorem x08 (h1:QDS X st s) (h2:QDSs X rest s'):QDSs X (st::rest) (x1i s s'):=⟨z4v h1.o h2.o⟩
end
section
variable {X:Cx} {a b c e:Expr} {fa fb fc f:Den} {ga gb gc:x1l} {pos:Pos} {st:Stmt} {rest sa sb:List Stmt} {s s':x1d}
theorem x0c (h1:QDS X st s):QDSs X [st] s:=⟨z9o h1.o⟩
end
section
variable {X:Cx} {a b c e:Expr} {fa fb fc f:Den} {ga gb gc:x1l} {pos:Pos} {st:Stmt} {rest sa sb:List Stmt} {s s':x1d}
theorem x0i (h:QD X e f):QDS X (.Return (some e) pos) (x35 f):=⟨z7w h.o⟩
end
section
variable {X:Cx} {a b c e:Expr} {fa fb fc f:Den} {ga gb gc:x1l} {pos:Pos} {st:Stmt} {rest sa sb:List Stmt} {s s':x1d}
theorem x2i (hc:QDT X c gc) (ha:QDSs X sa s) (hb:QDSs X sb s'):QDS X (.If c sa sb pos) (sIf gc s s'):=⟨j3o hc.o ha.o hb.o⟩
end
section
variable {X:Cx} {a b c e:Expr} {fa fb fc f:Den} {ga gb gc:x1l} {pos:Pos} {st:Stmt} {rest sa sb:List Stmt} {s s':x1d}
theorem z17:QDS X (.Break pos) y77:=⟨z0b ⟩
end
section
variable {X:Cx} {a b c e:Expr} {fa fb fc f:Den} {ga gb gc:x1l} {pos:Pos} {st:Stmt} {rest sa sb:List Stmt} {s s':x1d}
theorem x0s {i:Nat} {x:Str} {pos':Pos} (hN:X.N.Nodup) (hi:X.N[i]? = some x) (hx:Loc X.env.scope x) (he:QD X e f) (hs:swapsWith e (some (.Name x pos')) pos.line X.env=pure false:=by rfl) (hf:X.fn x=true\/X.env.scope.names.lookup x=some .local:=by first | exact .inl rfl | exact .inr rfl):QDS X (.Assign [.Name x pos'] e pos) (x2r i f):=⟨z96 hN hi hx he.o hs hf⟩
end
section
variable {X:Cx} {a b c e:Expr} {fa fb fc f:Den} {ga gb gc:x1l} {pos:Pos} {st:Stmt} {rest sa sb:List Stmt} {s s':x1d}
theorem x1u (he:QD X e f) (hs:swapsWith e none pos.line X.env=pure false:=by rfl):QDS X (.Expr e pos) (x2b f):=⟨z27 he.o hs⟩
end
section
variable {X:Cx} {tg a b c e:Expr} {fa fb fc f:Den} {ga gb gc:x1l} {pos p:Pos}
theorem x13 {g:x1o} (hm:X.mg "range" = none) (ha:QDA X [a] g) (hg:Gl X "range":=by rfl) (hs:starEach [a] X.env=[(false,eval a X.env)]:=by rfl):QDI X tg (.Call (.Name "range" p) [a] [] pos) (x1f g):=⟨y7z hm ha.o hg hs⟩
end
section
variable {X:Cx} {tg a b c e:Expr} {fa fb fc f:Den} {ga gb gc:x1l} {pos p:Pos}
theorem x37 (ha:QD X a fa):QDI X tg a (x4v fa):=⟨z6y ha.o⟩
end
section
theorem x0l {X:Cx} {b i:Nat} {x:Str} {pos:Pos} (hb:b<=i) (hN:X.N.Nodup) (hi:X.N[i]? = some x) (hx:Loc X.env.scope x) (hf:X.fn x=true\/X.env.scope.names.lookup x=some .local:=by first | exact .inl rfl | exact .inr rfl):QDG X b (.Name x pos) (x0m i):=⟨z3x hb hN hi hx hf⟩
end
section
theorem x2o {X:Cx} {tg iter:Expr} {body:List Stmt} {it:y1v} {pt:x5s} {s:x1d} {pos:Pos} (hp:PassesOwn (model X.prog X.w) X.A X.env X.xe) (hc:X.calm=true) (hi:QDI X tg iter it) (hg:QDG X 0 tg pt) (hb:QDSs X body s) (hs:∀ x,foldedSetIterable iter X.env x=pure x:=by intro _; rfl):QDS X (.For tg iter body [] pos) (x7m it pt s):=⟨z92 hp hc hi.o hg.o hb.o hs⟩
end
section
variable {X:Cx} {k:Nat} {N':List Str} {scope:Scope} {elt tg iter:Expr} {ifs:List Expr} {pos:Pos} {it:y1v} {pt:x5s} {tt:x1l} {te:Den}
theorem x3d:QDTs X [] x38:=⟨z4h ⟩
end
section
variable {X:Cx} {k:Nat} {N':List Str} {scope:Scope} {elt tg iter:Expr} {ifs:List Expr} {pos:Pos} {it:y1v} {pt:x5s} {tt:x1l} {te:Den}
theorem x5r {c:Expr} {g:x1l} (h:QDT X c g):QDTs X [c] g:=⟨z2m h.o⟩
end
section
variable {X:Cx} {k:Nat} {N':List Str} {scope:Scope} {elt tg iter:Expr} {ifs:List Expr} {pos:Pos} {it:y1v} {pt:x5s} {tt:x1l} {te:Den}
theorem x2u (deep:Bool) (hc:X.calm=true) (S:CompOk X k N' scope) (hi:QDI X tg iter it) (hg:∀ C s H fp,QDG (x25 X N' scope C s H fp) X.N.length tg pt) (ht:∀ C s H fp,QDTs (x25 X N' scope C s H fp) ifs tt) (he:∀ C s H fp,QD (x25 X N' scope C s H fp) elt te) (hs:∀ x,foldedSetIterable iter X.env x=pure x:=by intro _; rfl):QD X (.ListComp elt [⟨tg,iter,ifs,0⟩] scope pos) (x2l k it pt tt te deep):=⟨z83 deep hc S hi.o (fun C s H fp=>(hg C s H fp).o) (fun C s H fp=>(ht C s H fp).o) (fun C s H fp=>(he C s H fp).o) hs⟩
end
section
variable {X:Cx} {k:Nat} {N':List Str} {scope:Scope} {elt tg iter:Expr} {ifs:List Expr} {pos:Pos} {it:y1v} {pt:x5s} {tt:x1l} {te:Den}
theorem y76 {i:Nat} {y:Str} {py spos:Pos} (deep:Bool) (hN:X.N.Nodup) (hy:X.N[i]? = some y) (hx:Loc X.env.scope y) (hsw:swapsWith (.ListComp elt [⟨tg,iter,ifs,0⟩] scope pos) (some (.Name y py)) spos.line X.env=pure true) (hc:X.calm=true) (S:CompOk X k N' scope) (hi:QDI X tg iter it) (hg:∀ C s H fp,QDG (x25 X N' scope C s H fp) X.N.length tg pt) (ht:∀ C s H fp,QDTs (x25 X N' scope C s H fp) ifs tt) (he:∀ C s H fp,QD (x25 X N' scope C s H fp) elt te) (hs:∀ x,foldedSetIterable iter X.env x=pure x:=by intro _; rfl) (hf:X.fn y=true\/X.env.scope.names.lookup y=some .local:=by first | exact .inl rfl | exact .inr rfl | assumption):QDS X (.Assign [.Name y py] (.ListComp elt [⟨tg,iter,ifs,0⟩] scope pos) spos) (x2r i (x2l k it pt tt te deep)):=⟨z4w deep hN hy hx hsw hc S hi.o (fun C s H fp=>(hg C s H fp).o) (fun C s H fp=>(ht C s H fp).o) (fun C s H fp=>(he C s H fp).o) hs hf⟩
end
section
variable {X:Cx} {a b c e:Expr} {fa fb fc f:Den} {pos:Pos}
theorem j5o {k:Nat} (hr:Room k X.A) (ha:QD X a fa) (hb:QD X b fb):QD X (.Compare a [.Eq] [b] pos) (e2 dEq fa fb):=⟨j6a hr ha.o hb.o⟩
end
section
variable {X:Cx} {a b c e:Expr} {fa fb fc f:Den} {pos:Pos}
theorem x77 {k:Nat} (hr:Room k X.A) (ha:QD X a fa) (hb:QD X b fb):QDT X (.Compare a [.Eq] [b] pos) (x2n (e2 dEq fa fb)):=⟨j2i hr ha.o hb.o⟩
end
section
variable {X:Cx} {a b c e:Expr} {fa fb fc f:Den} {pos:Pos}
theorem y1a {k:Nat} (hr:Room k X.A) (ha:QD X a fa) (hb:QD X b fb):QDT X (.Compare a [.NotEq] [b] pos) (x2n (e2 dNe fa fb)):=⟨j2u hr ha.o hb.o⟩
end
section
variable {X:Cx} {a b c e:Expr} {fa fb fc f:Den} {pos:Pos}
theorem z5u {k:Nat} (hr:Room k X.A) (ha:QD X a fa) (hb:QD X b fb) (hm:behindInMarks .In b=false:=by with_unfolding_all rfl):QDT X (.Compare a [.In] [b] pos) (x2n (e2 dIn fa fb)):=⟨j0t hr ha.o hb.o hm⟩
end
section
variable {X:Cx} {a b c e:Expr} {fa fb fc f:Den} {pos:Pos}
theorem j0h {k:Nat} (hr:Room k X.A) (ha:QD X a fa) (hb:QD X b fb) (hm:behindInMarks .In b=false:=by with_unfolding_all rfl):QD X (.Compare a [.In] [b] pos) (e2 dIn fa fb):=⟨j4z hr ha.o hb.o hm⟩
end
section
variable {X:Cx} {a b c e:Expr} {es:List Expr} {fa fb fc f:Den} {g:x1o} {pos p p1 p2:Pos}
theorem j1x (hm:X.mg "len" = none) (ha:QDA X [a] g) (hg:Gl X "len":=by rfl) (he:starEach [a] X.env=(false,eval a X.env)::starEach [] X.env:=by rfl) (hpl:(backTo pos (starEach [] X.env)).any (·.1)=false:=by rfl):QD X (.Call (.Name "len" p) [a] [] pos) (eB j2q g):=⟨j22 hm ha.o hg he hpl⟩
end
section
variable {X:Cx} {a b c e:Expr} {es:List Expr} {fa fb fc f:Den} {g:x1o} {pos p p1 p2:Pos}
theorem x16 {i:Nat} {x:Str} (hm:X.mg "len" = none) (h:QE X (.Name x p1) (x9n i)) (hg:Gl X "len":=by rfl) (he:starEach [.Name x p1] X.env=(false,eval (.Name x p1) X.env)::starEach [] X.env:=by rfl) (hpl:(backTo pos (starEach [] X.env)).any (·.1)=false:=by rfl):QD X (.Call (.Name "len" p) [.Name x p1] [] pos) (x15 i):=⟨z8o hm h.o hg he hpl⟩
end
section
variable {X:Cx} {a b c e:Expr} {es:List Expr} {fa fb fc f:Den} {g:x1o} {pos p p1 p2:Pos}
theorem z1w (hc:X.calm=true) (hm:X.mg "max" = none) (hb:bootBuiltins "max" = some (.builtin "max")) (ha:QDA X (a::es) g) (hg:Gl X "max":=by rfl) (he:starEach (a::es) X.env=(false,eval a X.env)::starEach es X.env:=by rfl) (hpl:(backTo pos (starEach es X.env)).any (·.1)=false:=by rfl):QD X (.Call (.Name "max" p) (a::es) [] pos) (eB j0n g):=⟨z8n hc hm hb ha.o hg he hpl⟩
end
section
variable {X:Cx} {a b c e:Expr} {es:List Expr} {fa fb fc f:Den} {g:x1o} {pos p p1 p2:Pos}
theorem x7y (hm:X.mg "list" = none) (hb:bootBuiltins "list" = some (.type "list")) (ha:QDA X [a] g) (hg:Gl X "list":=by rfl) (he:starEach [a] X.env=(false,eval a X.env)::starEach [] X.env:=by rfl) (hpl:(backTo pos (starEach [] X.env)).any (·.1)=false:=by rfl):QD X (.Call (.Name "list" p) [a] [] pos) (x4b g):=⟨y9x hm hb ha.o hg he hpl⟩
end
section
variable {X:Cx} {a b c e:Expr} {es:List Expr} {fa fb fc f:Den} {g:x1o} {pos p p1 p2:Pos}
theorem x5i (hm:X.mg "tuple" = none) (hb:bootBuiltins "tuple" = some (.type "tuple")) (ha:QDA X [a] g) (hg:Gl X "tuple":=by rfl) (he:starEach [a] X.env=(false,eval a X.env)::starEach [] X.env:=by rfl) (hpl:(backTo pos (starEach [] X.env)).any (·.1)=false:=by rfl):QD X (.Call (.Name "tuple" p) [a] [] pos) (x4c g):=⟨z2p hm hb ha.o hg he hpl⟩
end
section
variable {X:Cx} {a:Expr} {g:x1o} {pos p p1 pos1:Pos}
theorem y3l (hc:X.calm=true) (hm:X.mg "list" = none) (hb:bootBuiltins "list" = some (.type "list")) (hmr:X.mg "range" = none) (ha:QDA X [a] g) (hg:Gl X "list":=by rfl) (hgr:Gl X "range":=by rfl) (hs:starEach [a] X.env=[(false,eval a X.env)]:=by rfl) (he:starEach [.Call (.Name "range" p1) [a] [] pos1] X.env=(false,eval (.Call (.Name "range" p1) [a] [] pos1) X.env)::starEach [] X.env:=by rfl) (hpl:(backTo pos (starEach [] X.env)).any (·.1)=false:=by rfl):QD X (.Call (.Name "list" p) [.Call (.Name "range" p1) [a] [] pos1] [] pos) (x8c g):=⟨z33 hc hm hb hmr ha.o hg hgr hs he hpl⟩
end
section
variable {X:Cx} {a b c e:Expr} {es:List Expr} {fa fb fc f:Den} {g:x1o} {pos p p1 p2 cpos apos:Pos}
theorem x3w {i:Nat} {x:Str} (h:QE X (.Name x p1) (x9n i)) (ha:QDA X [e] g) (hbase:attributeBase (.Name x p1) "append" X.env (eval (.Name x p1) X.env)=eval (.Name x p1) X.env:=by rfl) (hfew:((backTo cpos (starEach [e] X.env)).all (fun x=>!x.1) && (backToKw cpos (keywordEach [] X.env)).all (fun x=>x.1.isSome)
   && decide ([e].length+([]:List Keyword).length+(if([]:List Keyword).isEmpty then 0 else 1)<30))=true:=by rfl) (hline:(apos.endLine == cpos.line)=true:=by rfl) (hs:starEach [e] X.env=(false,eval e X.env)::starEach [] X.env:=by rfl) (hplain:(backTo cpos (starEach [] X.env)).any (·.1)=false:=by rfl):QD X (.Call (.Attribute (.Name x p1) "append" apos) [e] [] cpos) (y27 i g):=⟨z1v h.o ha.o hbase hfew hline hs hplain⟩
end
section
variable {X:Cx} {a b c e:Expr} {es:List Expr} {fa fb fc f:Den} {g:x1o} {pos p p1 p2 cpos apos:Pos}
theorem j1i {i:Nat} {x:Str} (h:QE X (.Name x p1) (x9n i)) (ha:QDA X [e] g) (hbase:attributeBase (.Name x p1) "pop" X.env (eval (.Name x p1) X.env)=eval (.Name x p1) X.env:=by rfl) (hfew:((backTo cpos (starEach [e] X.env)).all (fun x=>!x.1) && (backToKw cpos (keywordEach [] X.env)).all (fun x=>x.1.isSome)
   && decide ([e].length+([]:List Keyword).length+(if([]:List Keyword).isEmpty then 0 else 1)<30))=true:=by rfl) (hline:(apos.endLine == cpos.line)=true:=by rfl) (hs:starEach [e] X.env=(false,eval e X.env)::starEach [] X.env:=by rfl) (hplain:(backTo cpos (starEach [] X.env)).any (·.1)=false:=by rfl):QD X (.Call (.Attribute (.Name x p1) "pop" apos) [e] [] cpos) (z9z i g):=⟨j02 h.o ha.o hbase hfew hline hs hplain⟩
end
section
variable {X:Cx} {a b c e:Expr} {es:List Expr} {fa fb fc f:Den} {g:x1o} {pos p p1 p2 cpos apos:Pos}
theorem x1g {n:Nat} {x:Str} (h:QE X (.Name x p1) (x9n n)) (hb:QD X b fb) (hs:x5m b:=by exact fun _ _=>rfl):QD X (.Subscript (.Name x p1) b pos) (x1z n fb):=⟨j2e h.o hb.o hs⟩
end
section
variable {X:Cx} {a b c e:Expr} {es:List Expr} {fa fb fc f:Den} {g:x1o} {pos p p1 p2 cpos apos:Pos}
theorem z9l (ha:QD X a fa) (hb:QD X b fb):QD X (.BinOp a .Mult b pos) (y8y fa fb):=⟨z6r ha.o hb.o⟩
end
section
variable {X:Cx} {a b c e:Expr} {es:List Expr} {fa fb fc f:Den} {qa qb:y56} {g:x1o} {pos p p1 p2 cpos apos:Pos}
theorem z5q {n:Nat} {x:Str} (h:QE X (.Name x p1) (x9n n)):QQ X (.Name x p1) (z66 n):=⟨j45 h.o⟩
end
section
variable {X:Cx} {a b c e:Expr} {es:List Expr} {fa fb fc f:Den} {qa qb:y56} {g:x1o} {pos p p1 p2 cpos apos:Pos}
theorem j0o {n:Nat} {x:Str} (h:QE X (.Name x p1) (x9n n)) (hb:QQ X b qb) (hs:x5m b:=by exact fun _ _=>rfl):QQ X (.Subscript (.Name x p1) b pos) (qIx n qb):=⟨j5z h.o hb.o hs⟩
end
section
variable {X:Cx} {a b c e:Expr} {es:List Expr} {fa fb fc f:Den} {qa qb:y56} {g:x1o} {pos p p1 p2 cpos apos:Pos}
theorem z3b {n:Nat} {x:Str} (h:QE X (.Name x p1) (x9n n)) (ha:QQ X a qa) (hb:QQ X b qb) (he:QD X e f) (hi:x5m a:=by exact fun _ _=>rfl) (hasg:∀ v,assign (.Subscript (.Subscript (.Name x p1) a p2) b p) X.env v=(do
   let ov <- holding [v] (eval (.Subscript (.Name x p1) a p2) X.env)
   let iv <- holding [v,ov] (eval b X.env)
   standAt p
   holding [v,ov,iv] (setItem ov iv v)
   release [v,ov,iv] []):=by exact fun _=>rfl) (hs:swapsWithSole [.Subscript (.Subscript (.Name x p1) a p2) b p] e pos.line X.env=pure false:=by rfl):QDS X (.Assign [.Subscript (.Subscript (.Name x p1) a p2) b p] e pos) (y8r n qa qb f):=⟨z38 h.o ha.o hb.o he.o hi hasg hs⟩
end
section
variable {X:Cx} {a b c e:Expr} {es rest:List Expr} {fa fb fc f:Den} {g:x1o} {pos p p1 p2 cpos apos:Pos}
theorem x9h {op} (h:QD X a fa):QD X (.BoolOp op [a] pos) fa:=⟨j20 h.o⟩
end
section
variable {X:Cx} {a b c e:Expr} {es rest:List Expr} {fa fb fc f:Den} {g:x1o} {pos p p1 p2 cpos apos:Pos}
theorem y07 (ha:QD X a fa) (hb:QD X (.BoolOp .And (b::rest) pos) fb):QD X (.BoolOp .And (a::b::rest) pos) (y7k fa fb):=⟨j03 ha.o hb.o⟩
end
section
variable {X:Cx} {a b c e:Expr} {es rest:List Expr} {fa fb fc f:Den} {g:x1o} {pos p p1 p2 cpos apos:Pos}
theorem j5c (ha:QD X a fa) (hb:QD X (.BoolOp .Or (b::rest) pos) fb):QD X (.BoolOp .Or (a::b::rest) pos) (eOr fa fb):=⟨j4i ha.o hb.o⟩
end
section
variable {X:Cx} {a b c e:Expr} {es rest:List Expr} {fa fb fc f:Den} {g:x1o} {pos p p1 p2 cpos apos:Pos}
theorem j0z (ha:QD X a fa):QD X (.UnaryOp .Not a pos) (j47 fa):=⟨j13 ha.o⟩
end
section
variable {X:Cx} {a b c e:Expr} {es rest:List Expr} {fa fb fc f:Den} {g:x1o} {pos p p1 p2 cpos apos:Pos}
theorem x09 {j k n:Nat} {x:Str} {F:List D->Option (D × Nat)} (C:Cal X.prog X.w X.K X.mg X.base k x n F) (hr:Room j X.A) (hk:k<=j) (ha:QDA X (e::es) g) (hg:Gl X x:=by rfl) (hdb:(x == ("__debug__":Str))=false:=by decide) (he:starEach (e::es) X.env=(false,eval e X.env)::starEach es X.env:=by rfl) (hpl:(backTo pos (starEach es X.env)).any (·.1)=false:=by rfl):QD X (.Call (.Name x p) (e::es) [] pos) (x0f F n g):=⟨z2y C hr hk ha.o hg hdb he hpl⟩
end
section
variable {X:Cx} {k b:Nat} {e:Expr} {es:List Expr} {pt:x5s} {ps:x8m} {pos:Pos}
theorem y34:QDGs X b [] y1t:=⟨z2a ⟩
end
section
variable {X:Cx} {k b:Nat} {e:Expr} {es:List Expr} {pt:x5s} {ps:x8m} {pos:Pos}
theorem x4l (h1:QDG X b e pt) (h2:QDGs X b es ps) (hs:(assignEach (e::es) X.env).map (·.2)=assign e X.env::(assignEach es X.env).map (·.2):=by rfl):QDGs X b (e::es) (x2j pt ps):=⟨z0q h1.o h2.o hs⟩
end
section
variable {X:Cx} {k b:Nat} {e:Expr} {es:List Expr} {pt:x5s} {ps:x8m} {pos:Pos}
theorem y5m {n:Nat} (hc:X.calm=true) (h:QDGs X b es ps) (hl:∀ ds ρ ρ',ps ds ρ=some ρ'->ds.length=n) (hn:(assignEach es X.env).length=n:=by rfl) (hst:(assignEach es X.env).findIdx? (·.1)=none:=by rfl):QDG X b (.Tuple es k pos) (z5l ps):=⟨z89 hc h.o hl hn hst⟩
end
section
variable {X:Cx} {a b c e:Expr} {es:List Expr} {fa fb fc f:Den} {g:x1o} {pos p p1 p2:Pos}
theorem y9t (hc:X.calm=true) (hm:X.mg "all" = none) (ha:QDA X [a] g) (hg:Gl X "all":=by rfl) (he:starEach [a] X.env=(false,eval a X.env)::starEach [] X.env:=by rfl) (hpl:(backTo pos (starEach [] X.env)).any (·.1)=false:=by rfl):QD X (.Call (.Name "all" p) [a] [] pos) (eB z3v g):=⟨j3s hc hm ha.o hg he hpl⟩
end
section
variable {X:Cx} {a b c e:Expr} {es:List Expr} {fa fb fc f:Den} {ga gb:x1l} {g:x1o} {pos p p1 p2 pT:Pos}
theorem x7v (T:IT) {t:Str} (hm:X.mg "isinstance" = none) (hmT:X.mg t=none) (hbT:bootBuiltins t=some (.type T.nm)) (ha:QD X a fa) (hg:Gl X "isinstance":=by rfl) (hgT:Gl X t:=by rfl) (hnT:t ≠ "__name__":=by decide) (hdT:(t == ("__debug__":Str))=false:=by decide) (hs:starEach [a,.Name t pT] X.env=(false,eval a X.env)::starEach [.Name t pT] X.env:=by rfl) (hpl:(backTo pos (starEach [.Name t pT] X.env)).any (·.1)=false:=by rfl):QD X (.Call (.Name "isinstance" p) [a,.Name t pT] [] pos) (y3p T fa):=⟨j0p T hm hmT hbT ha.o hg hgT hnT hdT hs hpl⟩
end
section
variable {X:Cx} {a b c e:Expr} {es:List Expr} {fa fb fc f:Den} {ga gb:x1l} {g:x1o} {pos p p1 p2 pT:Pos}
theorem y5e (ha:QD X a fa) (hb:QD X b fb) (hc:QD X c fc) (hm:lastMarks [.LtE,.Lt] [b,c]=false:=by with_unfolding_all rfl):QD X (.Compare a [.LtE,.Lt] [b,c] pos) (eCh dLe dLt fa fb fc):=⟨y6e ha.o hb.o hc.o hm⟩
end
section
variable {X:Cx} {a b c e:Expr} {es:List Expr} {fa fb fc f:Den} {ga gb:x1l} {g:x1o} {pos p p1 p2 pT:Pos}
theorem y5u (ha:QD X a fa) (hb:QD X b fb) (hc:QD X c fc) (hm:lastMarks [.LtE,.LtE] [b,c]=false:=by with_unfolding_all rfl):QD X (.Compare a [.LtE,.LtE] [b,c] pos) (eCh dLe dLe fa fb fc):=⟨y5y ha.o hb.o hc.o hm⟩
end
section
variable {X:Cx} {a b c e:Expr} {es:List Expr} {fa fb fc f:Den} {ga gb:x1l} {g:x1o} {pos p p1 p2 pT:Pos}
theorem y4f (ha:QD X a fa) (hb:QD X b fb):QDT X (.Compare a [.IsNot] [b] pos) (x2n (e2 y26 fa fb)):=⟨z1l ha.o hb.o⟩
end
section
variable {X:Cx} {a b c e:Expr} {es:List Expr} {fa fb fc f:Den} {ga gb:x1l} {g:x1o} {pos p p1 p2 pT:Pos}
theorem y97 (ha:QD X a fa):QD X (.UnaryOp .USub a pos) (z5v fa):=⟨j41 ha.o⟩
end
section
variable {X:Cx} {a b c e:Expr} {es:List Expr} {fa fb fc f:Den} {ga gb:x1l} {g:x1o} {pos p p1 p2 pT:Pos}
theorem x70 (ha:QD X a fa) (hb:QD X b fb):QD X (.BinOp a .Add b pos) (y55 fa fb):=⟨j3u ha.o hb.o⟩
end
section
variable {X:Cx} {a b c e:Expr} {es:List Expr} {fa fb fc f:Den} {ga gb:x1l} {g:x1o} {pos p p1 p2 pT:Pos}
theorem z4l:QDO X none z2w:=⟨z26 ⟩
end
section
variable {X:Cx} {a b c e:Expr} {es:List Expr} {fa fb fc f:Den} {ga gb:x1l} {g:x1o} {pos p p1 p2 pT:Pos}
theorem z2i (h:QD X e f):QDO X (some e) (z0w f):=⟨z4r h.o⟩
end
section
variable {X:Cx} {a b c e:Expr} {es:List Expr} {fa fb fc f:Den} {ga gb:x1l} {g:x1o} {pos p p1 p2 pT:Pos}
theorem j66 {lo hi:Option Expr} {fl fh:z5k} (ha:QD X a fa) (hl:QDO X lo fl) (hh:QDO X hi fh):QD X (.Subscript a (.Slice lo hi none p2) pos) (eSl fa fl fh):=⟨j69 ha.o hl.o hh.o⟩
end
section
variable {X:Cx} {k b n:Nat} {a c e tg:Expr} {es:List Expr} {pt:x5s} {ps:x8m} {pos:Pos} {fa fb f:Den}
theorem z7s (he:QD X e f) (hg:QDG X 0 tg pt) (hs:swapsWithSole [tg] e pos.line X.env=pure false:=by rfl) (hw:swappedStores [tg] e X.env=pure none:=by rfl) (h1:(assignEach [tg] X.env).map (·.2)=[assign tg X.env]:=by rfl):QDS X (.Assign [tg] e pos) (j23 f pt):=⟨z6v he.o hg.o hs hw h1⟩
end
section
variable {X:Cx} {a b c e:Expr} {fa fb fc f:Den} {pos:Pos}
theorem z6x (ha:QD X a fa) (hb:QD X b fb):QD X (.BinOp a .Mult b pos) (y88 fa fb):=⟨z90 ha.o hb.o⟩
end
section
variable {X:Cx} {a b c e:Expr} {es:List Expr} {fa fb fc f:Den} {ga gb:x1l} {g:x1o} {pos p p1 p2 cpos apos:Pos}
theorem y6g {x:Str} {i:Int} (h:∃ t,X.mg x=some (.int i t)) (hg:Gl X x:=by rfl) (hd:(x == ("__debug__":Str))=false:=by decide):QD X (.Name x pos) (eC (.int i)):=⟨z76 h hg hd⟩
end
section
variable {X:Cx} {a b c e:Expr} {es:List Expr} {fa fb fc f:Den} {ga gb:x1l} {g:x1o} {pos p p1 p2 cpos apos:Pos}
theorem y4b (ha:QD X a fa) (hb:QD X b fb) (hc:QD X c fc) (hm:lastMarks [.LtE,.Lt] [b,c]=false:=by with_unfolding_all rfl):QDT X (.Compare a [.LtE,.Lt] [b,c] pos) (x2n (eCh dLe dLt fa fb fc)):=⟨y51 ha.o hb.o hc.o hm⟩
end
section
variable {X:Cx} {a b c e:Expr} {es:List Expr} {fa fb fc f:Den} {ga gb:x1l} {g:x1o} {pos p p1 p2 cpos apos:Pos}
theorem y4u (ha:QD X a fa) (hb:QD X b fb) (hc:QD X c fc) (hm:lastMarks [.LtE,.LtE] [b,c]=false:=by with_unfolding_all rfl):QDT X (.Compare a [.LtE,.LtE] [b,c] pos) (x2n (eCh dLe dLe fa fb fc)):=⟨y4l ha.o hb.o hc.o hm⟩
end
section
variable {X:Cx} {a b c e:Expr} {es:List Expr} {fa fb fc f:Den} {ga gb:x1l} {g:x1o} {pos p p1 p2 cpos apos:Pos}
theorem j09 (ha:QD X a fa) (hb:QD X b fb):QD X (.BinOp a .Pow b pos) (e2 j49 fa fb):=⟨j11 ha.o hb.o⟩
end
section
variable {X:Cx} {a b c e:Expr} {es:List Expr} {fa fb fc f:Den} {ga gb:x1l} {g:x1o} {pos p p1 p2 cpos apos:Pos}
theorem x4g {i:Nat} {x:Str} (h:QE X (.Name x p1) (x9n i)) (ha:QD X e f) (hbase:attributeBase (.Name x p1) "extend" X.env (eval (.Name x p1) X.env)=eval (.Name x p1) X.env:=by rfl) (hfew:((backTo cpos (starEach [e] X.env)).all (fun x=>!x.1) && (backToKw cpos (keywordEach [] X.env)).all (fun x=>x.1.isSome)
   && decide ([e].length+([]:List Keyword).length+(if([]:List Keyword).isEmpty then 0 else 1)<30))=true:=by rfl) (hline:(apos.endLine == cpos.line)=true:=by rfl) (hs:starEach [e] X.env=(false,eval e X.env)::starEach [] X.env:=by rfl) (hplain:(backTo cpos (starEach [] X.env)).any (·.1)=false:=by rfl):QD X (.Call (.Attribute (.Name x p1) "extend" apos) [e] [] cpos) (y3o i f):=⟨z0c h.o ha.o hbase hfew hline hs hplain⟩
end
section
variable {X:Cx} {a b c e:Expr} {es:List Expr} {fa fb fc f:Den} {ga gb gc:x1l} {g:x1o} {qa qb:y56} {s:x1d} {pos p p1 p2 cpos apos:Pos}
theorem y4t {st:Stmt}:QDS X st y6m:=⟨y9n ⟩
end
section
variable {X:Cx} {a b c e:Expr} {es:List Expr} {fa fb fc f:Den} {ga gb gc:x1l} {g:x1o} {qa qb:y56} {s:x1d} {pos p p1 p2 cpos apos:Pos}
theorem y9z {body:List Stmt} (hp:PassesOwn (model X.prog X.w) X.A X.env X.xe) (hc:QDT X c gc) (hb:QDSs X body s):QDS X (.While c body [] pos) (y70 gc s):=⟨z1e hp hc.o hb.o⟩
end
section
variable {X:Cx} {a b c e:Expr} {es:List Expr} {fa fb fc f:Den} {ga gb gc:x1l} {g:x1o} {qa qb:y56} {s:x1d} {pos p p1 p2 cpos apos:Pos}
theorem z93 (ha:QD X a fa) (hb:QD X b fb):QD X (.BinOp a .Add b pos) (y4d fa fb):=⟨z9r ha.o hb.o⟩
end
section
variable {X:Cx} {a b c e:Expr} {es elts:List Expr} {fa fb fc f:Den} {g:x1o} {pos p p1 p2 tp:Pos} {kt:Nat}
theorem z35 (hm:X.mg "enumerate" = none) (ha:QDA X [a] g) (hg:Gl X "enumerate":=by rfl) (hs:starEach [a] X.env=[(false,eval a X.env)]:=by rfl):QDI X (.Tuple elts kt tp) (.Call (.Name "enumerate" p) [a] [] pos) (y84 g):=⟨z51 hm ha.o hg hs⟩
end
section
variable {X:Cx} {a b c e:Expr} {es:List Expr} {fa fb fc f:Den} {ga gb:x1l} {g:x1o} {pos p p1 p2 pT cpos apos:Pos}
theorem y24 {L:List Str} {nm:Str} (hC:IsC X.K X.mg L nm) (hm:X.mg "isinstance" = none) (ha:QD X a fa) (hg:Gl X "isinstance":=by rfl) (hgT:Gl X nm:=by rfl) (hdT:(nm == ("__debug__":Str))=false:=by decide) (hs:starEach [a,.Name nm pT] X.env=(false,eval a X.env)::starEach [.Name nm pT] X.env:=by rfl) (hpl:(backTo pos (starEach [.Name nm pT] X.env)).any (·.1)=false:=by rfl):QD X (.Call (.Name "isinstance" p) [a,.Name nm pT] [] pos) (z2h L nm fa):=⟨j1q hC hm ha.o hg hgT hdT hs hpl⟩
end
section
variable {X:Cx} {a b c e:Expr} {es:List Expr} {fa fb fc f:Den} {ga gb:x1l} {g:x1o} {pos p p1 p2 pT cpos apos:Pos}
theorem j15 (hm:X.mg "isinstance" = none) (hmT:X.mg "ValueError" = none) (ha:QD X a fa) (hg:Gl X "isinstance":=by rfl) (hgT:Gl X "ValueError":=by rfl) (hs:starEach [a,.Name "ValueError" pT] X.env=(false,eval a X.env)::starEach [.Name "ValueError" pT] X.env:=by rfl) (hpl:(backTo pos (starEach [.Name "ValueError" pT] X.env)).any (·.1)=false:=by rfl):QD X (.Call (.Name "isinstance" p) [a,.Name "ValueError" pT] [] pos) (j4h fa):=⟨j0s hm hmT ha.o hg hgT hs hpl⟩
end
section
variable {X:Cx} {a b c e:Expr} {es:List Expr} {fa fb fc f:Den} {ga gb:x1l} {g:x1o} {pos p p1 p2 pT cpos apos:Pos}
theorem z73 (ha:QD X a fa) (hb:QD X b fb):QDT X (.Compare a [.Is] [b] pos) (x2n (e2 j2v fa fb)):=⟨z7r ha.o hb.o⟩
end
section
variable {X:Cx} {a b c e:Expr} {es:List Expr} {fa fb fc f:Den} {ga gb:x1l} {g:x1o} {pos p p1 p2 pT cpos apos:Pos}
theorem z8l {k:Nat} (hr:Room k X.A) (ho:QD X a fa) (ha:QDA X [e] g) (hbase:attributeBase a "count" X.env (eval a X.env)=eval a X.env:=by rfl) (hfew:((backTo cpos (starEach [e] X.env)).all (fun x=>!x.1) && (backToKw cpos (keywordEach [] X.env)).all (fun x=>x.1.isSome)
   && decide ([e].length+([]:List Keyword).length+(if([]:List Keyword).isEmpty then 0 else 1)<30))=true:=by rfl) (hline:(apos.endLine == cpos.line)=true:=by rfl) (hs:starEach [e] X.env=(false,eval e X.env)::starEach [] X.env:=by rfl) (hplain:(backTo cpos (starEach [] X.env)).any (·.1)=false:=by rfl):QD X (.Call (.Attribute a "count" apos) [e] [] cpos) (j48 fa g):=⟨z6l hr ho.o ha.o hbase hfew hline hs hplain⟩
end
section
variable {X:Cx} {a b c e:Expr} {es:List Expr} {fa fb fc f:Den} {ga gb:x1l} {g:x1o} {pos p p1 p2 pT cpos apos:Pos}
theorem z0y {k:Nat} (hr:Room k X.A) (ho:QD X a fa) (ha:QDA X [e] g) (hbase:attributeBase a "index" X.env (eval a X.env)=eval a X.env:=by rfl) (hfew:((backTo cpos (starEach [e] X.env)).all (fun x=>!x.1) && (backToKw cpos (keywordEach [] X.env)).all (fun x=>x.1.isSome)
   && decide ([e].length+([]:List Keyword).length+(if([]:List Keyword).isEmpty then 0 else 1)<30))=true:=by rfl) (hline:(apos.endLine == cpos.line)=true:=by rfl) (hs:starEach [e] X.env=(false,eval e X.env)::starEach [] X.env:=by rfl) (hplain:(backTo cpos (starEach [] X.env)).any (·.1)=false:=by rfl):QD X (.Call (.Attribute a "index" apos) [e] [] cpos) (y35 fa g):=⟨y9u hr ho.o ha.o hbase hfew hline hs hplain⟩
end
section
variable {X:Cx} {E:XK} {st:Stmt} {ss rest a b:List Stmt} {x y:x4o} {f:x1d} {g:x1l} {c e:Expr} {es:List Expr} {pos pos' p:Pos}
theorem y6u:QXB X E ss z4s:=⟨z3c ⟩
end
section
variable {X:Cx} {E:XK} {st:Stmt} {ss rest a b:List Stmt} {x y:x4o} {f:x1d} {g:x1l} {c e:Expr} {es:List Expr} {pos pos' p:Pos}
theorem j2x (hx:QXB X E ss x) (hy:QXB X E ss y):QXB X E ss (xOr x y):=⟨j0l hx.o hy.o⟩
end
section
variable {X:Cx} {E:XK} {st:Stmt} {ss rest a b:List Stmt} {x y:x4o} {f:x1d} {g:x1l} {c e:Expr} {es:List Expr} {pos pos' p:Pos}
theorem z1r (h1:QDS X st f) (h2:QXB X E rest x):QXB X E (st::rest) (z6i f x):=⟨z7d h1.o h2.o⟩
end
section
variable {X:Cx} {E:XK} {st:Stmt} {ss rest a b:List Stmt} {x y:x4o} {f:x1d} {g:x1l} {c e:Expr} {es:List Expr} {pos pos' p:Pos}
theorem x48 (h:QXS X E st x):QXB X E (st::rest) x:=⟨z1m h.o⟩
end
section
variable {X:Cx} {E:XK} {st:Stmt} {ss rest a b:List Stmt} {x y:x4o} {f:x1d} {g:x1l} {c e:Expr} {es:List Expr} {pos pos' p:Pos}
theorem z0j (hc:QDT X c g) (ha:QXB X E a x) (hb:QXB X E b y):QXS X E (.If c a b pos) (z25 g x y):=⟨z8s hc.o ha.o hb.o⟩
end
section
variable {X:Cx} {E:XK} {st:Stmt} {ss rest a b:List Stmt} {x y:x4o} {f:x1d} {g:x1l} {c e:Expr} {es:List Expr} {pos pos' p:Pos}
theorem z14 (he:QXE X E e x):QXS X E (.Return (some e) pos) x:=⟨z9a he.o⟩
end
section
variable {X:Cx} {E:XK} {st:Stmt} {ss rest a b:List Stmt} {x y:x4o} {f:x1d} {g:x1l} {c e:Expr} {es:List Expr} {pos pos' p:Pos}
theorem y6p (he:QXE X E e x) (hs:swapsWith e none pos.line X.env=pure false:=by rfl):QXS X E (.Expr e pos) x:=⟨z3e he.o hs⟩
end
section
variable {X:Cx} {E:XK} {st:Stmt} {ss rest a b:List Stmt} {x y:x4o} {f:x1d} {g:x1l} {c e:Expr} {es:List Expr} {pos pos' p:Pos}
theorem j21 (he:QXE X E e x) (hs:starEach (e::es) X.env=(false,eval e X.env)::starEach es X.env:=by rfl):QXA X E (e::es) x:=⟨j39 he.o hs⟩
end
section
variable {X:Cx} {E:XK} {st:Stmt} {ss rest a b:List Stmt} {x y:x4o} {f:x1d} {g:x1l} {c e:Expr} {es:List Expr} {pos pos' p:Pos}
theorem j1h {fe:Den} (he:QD X e fe) (ha:QXA X E es x) (hs:starEach (e::es) X.env=(false,eval e X.env)::starEach es X.env:=by rfl):QXA X E (e::es) (xTl fe x):=⟨j3k he.o ha.o hs⟩
end
section
variable {X:Cx} {E:XK} {st:Stmt} {ss rest a b:List Stmt} {x y:x4o} {f:x1d} {g:x1l} {c e:Expr} {es:List Expr} {pos pos' p:Pos}
theorem z80 {j k n:Nat} {z:Str} {F:List D->Option (D × Nat)} (C:Cal X.prog X.w X.K X.mg X.base k z n F) (hr:Room j X.A) (hk:k<=j) (ha:QXA X E (e::es) x) (hg:Gl X z:=by rfl) (hdb:(z == ("__debug__":Str))=false:=by decide) (he:starEach (e::es) X.env=(false,eval e X.env)::starEach es X.env:=by rfl) (hpl:(backTo pos (starEach es X.env)).any (·.1)=false:=by rfl):QXE X E (.Call (.Name z p) (e::es) [] pos) x:=⟨z8k C hr hk ha.o hg hdb he hpl⟩
end
section
variable {P:Program} {w:World} {K:PySem.W.Frag} {mg:Str->Option Value} {base:Heap} {N:List Str} {qual:Str} {scope:Scope} {f:Addr} {cd:Value} {A:Around} {outer:List Env} {s₀:Shared} {H₀:Hp} {E:XK}
theorem y4m {nm txt:Str} {k j:Nat} {np cpos tpos pos:Pos} (hr:Room k (A.deeper (envOfC qual scope s₀.heap.objs.size f cd))) (hC:∃ C,XNm K mg nm C) (hg:Gl (cxF P w K mg base N qual scope f cd A outer s₀ H₀ E) nm:=by rfl) (hdb:(nm == ("__debug__":Str))=false:=by decide):QXS (cxF P w K mg base N qual scope f cd A outer s₀ H₀ E) E (.Raise (some (.Call (.Name nm np) [.Constant (.str txt) j tpos] [] cpos)) none pos) (y6l nm):=⟨z1k hr hC hg hdb⟩
end
section
variable {P:Program} {w:World} {K:PySem.W.Frag} {mg:Str->Option Value} {base:Heap} {N:List Str} {qual:Str} {scope:Scope} {f:Addr} {cd:Value} {A:Around} {outer:List Env} {s₀:Shared} {H₀:Hp} {E:XK}
theorem y04 {j k n:Nat} {x:Str} {F:List D->Option Str} {e:Expr} {es:List Expr} {g:x1o} {p pos:Pos} (Cx':x8k P w K mg base k x n F) (hr:Room j (A.deeper (envOfC qual scope s₀.heap.objs.size f cd))) (hk:k<=j) (ha:QDA (cxF P w K mg base N qual scope f cd A outer s₀ H₀ E) (e::es) g) (hg:Gl (cxF P w K mg base N qual scope f cd A outer s₀ H₀ E) x:=by rfl) (hdb:(x == ("__debug__":Str))=false:=by decide) (he:starEach (e::es) (envOfC qual scope s₀.heap.objs.size f cd)=(false,eval e (envOfC qual scope s₀.heap.objs.size f cd))::starEach es (envOfC qual scope s₀.heap.objs.size f cd):=by rfl) (hpl:(backTo pos (starEach es (envOfC qual scope s₀.heap.objs.size f cd))).any (·.1)=false:=by rfl):QXE (cxF P w K mg base N qual scope f cd A outer s₀ H₀ E) E (.Call (.Name x p) (e::es) [] pos) (y14 F n g):=⟨z36 Cx' hr hk ha.o hg hdb he hpl⟩
end
section
variable {Y:Cx} {c e:Expr} {es:List Expr} {g:x1o} {gt:x1l} {x y:y7o} {a b ss:List Stmt} {st:Stmt} {pos:Pos}
theorem z6w (h:QTS Y st y):QTB Y [st] y:=⟨z8c h.o⟩
end
section
variable {Y:Cx} {c e:Expr} {es:List Expr} {g:x1o} {gt:x1l} {x y:y7o} {a b ss:List Stmt} {st:Stmt} {pos:Pos}
theorem z22 {R nn kx:Str} {L:List Str} {f:x1d} {ie ik:Nat} {np kp vp apos hpos:Pos} (hU:y0f Y.K Y.mg R L) (hf:QDSs Y.nox ss f) (hx:QTB Y ss y) (hN:Y.N.Nodup) (hie:Y.N[ie]? = some nn) (hik:Y.N[ik]? = some kx) (hst:Y.stack=Y.env::Y.outer:=by rfl) (hfm:Y.env.frame=some Y.env.locals:=by rfl) (hne:Y.env.scope.names.lookup nn=some .local:=by rfl) (hnk:Y.env.scope.names.lookup kx=some .local:=by rfl) (hg:Gl Y R:=by rfl) (hdb:(R == ("__debug__":Str))=false:=by decide) (hdn:(nn == ("__debug__":Str))=false:=by decide) (hcn:(nn == ("__classdict__":Str))=false:=by decide) (hsw:swapsWith (.Name nn vp) (some (.Name kx kp)) apos.line Y.env=pure false:=by rfl):QDS Y.nox (.Try ss [.ExceptHandler (some (.Name R np)) (some nn) [.Assign [.Name kx kp] (.Name nn vp) apos] hpos] [] [] pos) (y8d L f y ie ik):=⟨z4j hU hf.o hx.o hN hie hik hst hfm hne hnk hg hdb hdn hcn hsw⟩
end
section
variable {X:Cx} {pos p p1 p2:Pos}
theorem z3n {i:Nat} {x:Str} (hm:X.mg "list" = none) (hb:bootBuiltins "list" = some (.type "list")) (h:QE X (.Name x p1) (x9n i)) (hg:Gl X "list":=by rfl) (he:starEach [.Name x p1] X.env=(false,eval (.Name x p1) X.env)::starEach [] X.env:=by rfl) (hpl:(backTo pos (starEach [] X.env)).any (·.1)=false:=by rfl):QD X (.Call (.Name "list" p) [.Name x p1] [] pos) (y0i i):=⟨z2o hm hb h.o hg he hpl⟩
end
section
variable {X:Cx} {a:Expr} {fa:Den} {p p2 pos pos2:Pos}
theorem x8y (hc:X.calm=true) (hm:X.mg "sorted" = none) (hmS:X.mg "set" = none) (ha:QD X a fa) (hb:bootBuiltins "set" = some (.type "set"):=by kernel_rfl) (hb2:bootBuiltins "sorted" = some (.builtin "sorted"):=by kernel_rfl) (hg:Gl X "sorted":=by rfl) (hgS:Gl X "set":=by rfl) (hs:starEach [a] X.env=(false,eval a X.env)::starEach [] X.env:=by rfl) (hpl:(backTo pos2 (starEach [] X.env)).any (·.1)=false:=by rfl) (hs2:starEach [.Call (.Name "set" p2) [a] [] pos2] X.env=(false,eval (.Call (.Name "set" p2) [a] [] pos2) X.env)::starEach [] X.env:=by rfl) (hpl2:(backTo pos (starEach [] X.env)).any (·.1)=false:=by rfl):QD X (.Call (.Name "sorted" p) [.Call (.Name "set" p2) [a] [] pos2] [] pos) (x46 fa):=⟨y8w hc hm hmS ha.o hb hb2 hg hgS hs hpl hs2 hpl2⟩
end
section
variable {X:Cx} {a b tg:Expr} {p pos:Pos}
theorem y8x {g:x1o} (hm:X.mg "range" = none) (ha:QDA X [a,b] g) (hg:Gl X "range":=by rfl) (hs:starEach [a,b] X.env=[(false,eval a X.env),(false,eval b X.env)]:=by rfl) (hs2:starEach [b] X.env=[(false,eval b X.env)]:=by rfl):QDI X tg (.Call (.Name "range" p) [a,b] [] pos) (x97 g):=⟨y87 hm ha.o hg hs hs2⟩
end
section
variable {Y:Cx} {c e:Expr} {es:List Expr} {g:x1o} {gt:x1l} {x y:y7o} {a b ss:List Stmt} {st:Stmt} {pos:Pos}
theorem z9b {z z' u:Str} {Fx Fx':List D->Option Str} {g':x1o} {e':Expr} {es':List Expr} {j k n k' n':Nat} {yp fp cpos fp' cpos' spos ipos:Pos} (CX:x8k Y.prog Y.w Y.K Y.mg Y.base k z n Fx) (CX':x8k Y.prog Y.w Y.K Y.mg Y.base k' z' n' Fx') (hr:Room j Y.A) (hk:k<=j) (hk':k'<=j) (hc:QDT Y.nox c gt) (ha:QDA Y.nox (e::es) g) (hb:QDA Y.nox (e'::es') g') (hgx:Gl Y z:=by rfl) (hgx':Gl Y z':=by rfl) (hdx:(z == ("__debug__":Str))=false:=by decide) (hdx':(z' == ("__debug__":Str))=false:=by decide) (hsc:swapsWith (.IfExp c (.Call (.Name z fp) (e::es) [] cpos) (.Call (.Name z' fp') (e'::es') [] cpos') ipos) (some (.Name u yp)) spos.line Y.env=pure false:=by rfl) (he:starEach (e::es) Y.env=(false,eval e Y.env)::starEach es Y.env:=by rfl) (hpl:(backTo cpos (starEach es Y.env)).any (·.1)=false:=by rfl) (he':starEach (e'::es') Y.env=(false,eval e' Y.env)::starEach es' Y.env:=by rfl) (hpl':(backTo cpos' (starEach es' Y.env)).any (·.1)=false:=by rfl):QTS Y (.Assign [.Name u yp] (.IfExp c (.Call (.Name z fp) (e::es) [] cpos) (.Call (.Name z' fp') (e'::es') [] cpos') ipos) spos) (yIf gt (x6v Fx n g) (x6v Fx' n' g')):=⟨z9q CX CX' hr hk hk' hc.o ha.o hb.o hgx hgx' hdx hdx' hsc he hpl he' hpl'⟩
end
section
variable {X:Cx} {E:XK} {a b:Expr} {fa:Den} {x:x4o} {pos:Pos}
theorem j2d {k:Nat} (hr:Room k X.A) (ha:QD X a fa) (hx:QXE X E b x) (hm:behindInMarks .In b=false:=by with_unfolding_all rfl):QXE X E (.Compare a [.In] [b] pos) (xTl fa x):=⟨j3j hr ha.o hx.o hm⟩
end
section
variable {X:Cx} {a:Expr} {fa:Den} {pos p1:Pos}
theorem y92 {k i:Nat} {x:Str} (hr:Room k X.A) (ha:QD X a fa) (hb:QE X (.Name x p1) (x9n i)) (hm:behindInMarks .NotIn (.Name x p1)=false:=by with_unfolding_all rfl):QDT X (.Compare a [.NotIn] [.Name x p1] pos) (x2n (x4x fa i)):=⟨y83 hr ha.o hb.o hm⟩
end
theorem Cal.mkQ {P:Program} {w:World} {K:PySem.W.Frag} {mg:Str->Option Value} {base:Heap} {k:Nat} {x:Str} {st:Stmt} {N ps:List Str} {body:x1d} (a:At K mg x st ps) (S:FnScope N ps (x0b st))
  (h:∀ (f:Addr) (cdv:Value) (A:Around) (outer:List Env) (s:Shared) (H:Hp) (E:XK),Room k (A.deeper (envOfC x (x0b st) s.heap.objs.size f cdv))->QDSs (y94 CX0 P w K mg base N x (x0b st) f cdv A outer s H E).nox (x36 st) body) :
  Cal P w K mg base (k+1) x ps.length (fnD N.length body):=Cal.mk a S fun f cdv A outer s H E hr=>(h f cdv A outer s H E hr).o
theorem z8q {P:Program} {w:World} {K:PySem.W.Frag} {mg:Str->Option Value} {base:Heap} {k:Nat} {x:Str} {st:Stmt} {N ps:List Str} {body:x1d} {f:Addr} {fd:FuncData} (F:Fun K x x st f fd) (S:FnScope N ps (x0b st))
  (h:∀ (f:Addr) (cdv:Value) (A:Around) (outer:List Env) (s:Shared) (H:Hp) (E:XK),Room k (A.deeper (envOfC x (x0b st) s.heap.objs.size f cdv))->QDSs (y94 CX0 P w K mg base N x (x0b st) f cdv A outer s H E).nox (x36 st) body) :
  FnOk P w K mg base CX0 (k+1) f fd ps (spD K ps.length (fnD N.length body)):=j12 F S fun f cdv A outer s H E hr=>(h f cdv A outer s H E hr).o
end L3
namespace L3
open PySem PySem.Spec PyProof.Rows PySem.W L2
theorem j4u {K:Frag} {C:Addr} {v:Value} {b:Bool} (h:mroIn K C v=some b):(clsIn K C).isSome=true:=by
 obtain⟨cd,a,_⟩:=Option.bind_eq_some_iff.mp h
 rw[a]; rfl
theorem XKls.of {K:Frag} {nm:Str} {C:Addr} (n:nsIn K mainGlobals nm=some (some (.ref C))) (x:XCls K C) (ex:excIn K C bmV "ValueError.__new__" = true) (v:mroIn K C (.type "ValueError")=some true)
  (a1:mroIn K C (.type "int")=some false) (a2:mroIn K C (.type "bool")=some false) (a3:mroIn K C (.type "tuple")=some false) (a4:mroIn K C (.type "list")=some false) (a5:mroIn K C (.type "str")=some false):XKls K nm C:=
 ⟨n,x,ex,v,fun T hT=>by
   rcases List.mem_cons.mp hT with rfl | hT
   ·exact a1
   rcases List.mem_cons.mp hT with rfl | hT
   ·exact a2
   rcases List.mem_cons.mp hT with rfl | hT
   ·exact a3
   rcases List.mem_cons.mp hT with rfl | hT
   ·exact a4
   rcases List.mem_cons.mp hT with rfl | hT
   ·exact a5
   cases hT⟩
theorem y0f.nil {K:Frag} {mg:Str->Option Value} {R:Str} {RA:Addr} (x:XCls K RA) (t:typeIn K (.ref RA)=some (.type "type")) (m:mg R=some (.ref RA)):y0f K mg R []:=⟨RA,x,t,m,fun n hn=>nomatch hn⟩
theorem y0f.cons {K:Frag} {mg:Str->Option Value} {R nm:Str} {L:List Str} {C RA:Addr} (U:y0f K mg R L) (m:mg R=some (.ref RA)) (k:XKls K nm C) (s:mroIn K C (.ref RA)=some true):y0f K mg R (nm::L):=by
 obtain⟨RB,x,t,m',h⟩:=U
 rw[m]at m'
 cases m'
 refine⟨RA,x,t,m,fun n hn C' e=>?_⟩
 rcases List.mem_cons.mp hn with rfl | hn
 ·have e':=k.ns
  rw[e]at e'
  cases e'
  exact⟨k,s⟩
 ·exact h n hn C' e
theorem IsC.nil {K:Frag} {mg:Str->Option Value} {nm:Str} {C:Addr} (m:mg nm=some (.ref C)):IsC K mg [] nm:=⟨C,m,fun n hn=>nomatch hn⟩
theorem IsC.self {K:Frag} {mg:Str->Option Value} {nm:Str} {L:List Str} {C:Addr} (U:IsC K mg L nm) (n:nsIn K mainGlobals nm=some (some (.ref C))) (m:mg nm=some (.ref C)):IsC K mg (nm::L) nm:=by
 obtain⟨C',m',h⟩:=U
 rw[m]at m'
 cases m'
 refine⟨C,m,fun n' hn B e=>?_⟩
 rcases List.mem_cons.mp hn with rfl | hn
 ·rw[e]at n
  cases n
  exact⟨fun _=>by unfold isIn; simp,fun z=>absurd rfl z⟩
 ·exact h n' hn B e
theorem IsC.other {K:Frag} {mg:Str->Option Value} {nm n2:Str} {L:List Str} {C D:Addr} (U:IsC K mg L n2) (n:nsIn K mainGlobals nm=some (some (.ref C))) (m:mg n2=some (.ref D)) (hn:nm≠n2) (ne:C≠D) (t:typeIn K (.ref D)=some (.type "type")) (o:mroIn K D (.type "object")=some true) (s:mroIn K C (.ref D)=some false):IsC K mg (nm::L) n2:=by
 obtain⟨D',m',h⟩:=U
 rw[m]at m'
 cases m'
 refine⟨D,m,fun n' hn' B e=>?_⟩
 rcases List.mem_cons.mp hn' with rfl | hn'
 ·rw[e]at n
  cases n
  have s':subIn K (.ref C) (.ref D)=some false:=s
  exact⟨fun z=>absurd z hn,fun _=>by unfold kin_not; rw[j4u o,t,s']; simp[ne]⟩
 ·exact h n' hn' B e
theorem x8k.mkQ {P:Program} {w:World} {K:PySem.W.Frag} {mg:Str->Option Value} {base:Heap} {k:Nat} {x:Str} {st:Stmt} {N ps:List Str} {xb:x4o} (a:At K mg x st ps) (S:FnScope N ps (x0b st))
  (h:∀ (f:Addr) (cdv:Value) (A:Around) (outer:List Env) (s:Shared) (H:Hp) (E:XK),Room k (A.deeper (envOfC x (x0b st) s.heap.objs.size f cdv))->QXB (cxF P w K mg base N x (x0b st) f cdv A outer s H E) E (x36 st) xb) :
  x8k P w K mg base (k+1) x ps.length (fnX N.length xb):=x8k.mk a S fun f cdv A outer s H E hr=>(h f cdv A outer s H E hr).o
end L3
namespace L3
open PySem PySem.Spec PyProof.Rows PySem.W L2
end L3
namespace L3
open PySem PySem.Spec PyProof.Rows PySem.W L2
theorem j4d {K:PySem.W.Frag} {x:Str} (a:nsIn K mainGlobals x=some none):tabIn K x=none:=by unfold tabIn; rw[a]
noncomputable def x66 (K:PySem.W.Frag) (b:Addr):Bool:=y0y.any fun x=>match tabIn K x with
 | some (_,P)=>P == b
 | none=>false
theorem z4a {K:PySem.W.Frag} {b:Addr} (h:x66 K b=true):∃ x∈y0y,∃ c,tabIn K x=some (c,b):=by
 obtain⟨x,hx,e⟩:=List.any_eq_true.mp h
 split at e
 ·rename_i c P hP
  rw[eq_of_beq e]at hP
  exact⟨x,hx,c,hP⟩
 ·cases e
theorem z2z {K:PySem.W.Frag} {x:Str} {c P:Addr} (hx:x∈y0y) (e:tabIn K x=some (c,P)):x66 K P=true:=
 List.any_eq_true.mpr ⟨x,hx,by rw[e]; exact beq_self_eq_true P⟩
theorem z15 {P:Program} {w:World} {K:PySem.W.Frag} {mg mb:Str->Option Value} {CX:CXT} {k:Nat} {fa a:Addr} {fd:FuncData} {x:Str} {sp:Sp} {s₁:Shared} {vs:List Value} {ns:List Int}
  (KX:K.In s₁.heap) (hns:s₁.heap.Ns mainGlobals mg) (hb:s₁.heap.Ns builtinsNs mb) (hbb:∀ x:Str,x ≠ "__name__"->mb x=bootBuiltins x) (hlim:s₁.heap.NoLimit) (hg:s₁.gens = #[])
  (hbm:∃ bm o,mg "__builtins__" = some (.ref bm)/\bm≠builtinsNs/\s₁.heap.get? bm=some o/\o.cls=.type "module" /\ o.dict=some builtinsNs/\o.data=.plain)
  (hT:∀ x∈y0y,∀ c Pt,tabIn K x=some (c,Pt)->CodeHd s₁.heap c Pt/\s₁.heap.get? Pt=some (tabObj #[])) (hnt:noTabs K=true)
  (ha:s₁.heap.get? a=some { cls:=.type "list",data:=.seq vs.toArray }) (hi:IntsAre vs ns) (hl:ns.length<=sizeLine) (hr:Room k callerA)
  (F:∀ base:Heap,K.In base->base.Ns mainGlobals mg->Lm K mg base->FnOk P w K mg base CX k fa fd [x] sp) (hbind:∀ (s:Shared) (u:Value),BindsTo s fd ⟨[u],[]⟩ [(x,u)])
  (hsp:∀ H:Hp,TB K H->SqL K H a (ns.map V.int)->sp [.ref a] H (fun v _=>v=.bl true) fun _ _ _=>False)
  (hCX:∀ H e s',CX [] H s₁ (fun _ _ _=>False) e s'->False) :
  codeAny (model P w) callerA (.call (.ref fa) ⟨[.ref a],[]⟩) (fun r s'=>r=.ok (.ret (.bool true))/\OldK s₁.heap s'.heap/\s'.os=s₁.os/\AllBare s'.gens) s₁:=by
 have rv:=x67 hi
 have lenV:=hi.length
 have tabO:∀ b,x66 K b=true->(∃ c,CodeHd s₁.heap c b)/\s₁.heap.get? b=some (tabObj #[]):=fun b h=>by
  obtain⟨x,hx,c,e⟩:=z4a h
  obtain⟨h1,h2⟩:=hT x hx c b e
  exact⟨⟨c,h1⟩,h2⟩
 have core:∀ H:Hp,(∀ b,H b=none\/(b=a/\∃ o xs,H b=some (.frz o (.lst xs)))\/(x66 K b=true/\H b=some (.tbl #[])))->(∀ b,x66 K b=true->H b=some (.tbl #[]))->SqL K H a (ns.map V.int)->HOk P w H s₁.heap->(∀ o xs,H a=some (.frz o (.lst xs))->K.lookup a=none)->
   codeAny (model P w) callerA (.call (.ref fa) ⟨[.ref a],[]⟩) (fun r s'=>r=.ok (.ret (.bool true))/\OldK s₁.heap s'.heap/\s'.os=s₁.os/\AllBare s'.gens) s₁:=by
  intro H hO hO2 hS hok hK
  have base_of:∀ {b:Addr} {o:Obj},s₁.heap.get? b=some o->H b=none->(z20 s₁.heap H).get? b=some o:=fun e n=>z4m e n
  have noA:∀ {b:Addr} {o:Obj},s₁.heap.get? b=some o->o.cls ≠ .type "list"->o.cls ≠ .none->H b=none:=fun {b o} e d1 d2=>by
   rcases hO b with z | ⟨z,_⟩ | ⟨z,_⟩
   ·exact z
   ·subst z; rw[ha]at e; cases e; exact absurd rfl d1
   ·rw[(tabO b z).2]at e; cases e; exact absurd rfl d2
  have noD:∀ {b:Addr} {o:Obj} {es:Array DictEntry} {ep:Nat},s₁.heap.get? b=some o->o.data=.dict es ep->H b=none:=fun {b o es ep} e d=>by
   rcases hO b with z | ⟨z,_⟩ | ⟨z,_⟩
   ·exact z
   ·subst z; rw[ha]at e; cases e; exact nomatch (show Data.seq vs.toArray _=Data.dict es ep from d)
   ·rw[(tabO b z).2]at e; cases e; exact nomatch (show Data.fields _=Data.dict es ep from d)
  have nsK:∀ {b:Addr} {m:Str->Option Value},s₁.heap.Ns b m->(z20 s₁.heap H).Ns b m:=fun {b m} hh=>by
   obtain⟨o,es,ep,e,d,r⟩:=hh
   exact⟨o,es,ep,base_of e (noD e d),d,r⟩
  have hKb:K.In (z20 s₁.heap H):=fun b o e=>base_of (KX b o e) (by
   rcases hO b with z | ⟨z,o',xs,z2⟩ | ⟨z,_⟩
   ·exact z
   ·subst z; rw[hK _ _ z2]at e; cases e
   ·have e2:=KX b o e
    rw[(tabO b z).2]at e2
    cases e2
    have h2:=List.all_eq_true.mp hnt (b,tabObj #[]) (mem_of_lookupK e)
    exact absurd (show false=true from h2) Bool.false_ne_true)
  have hM:Mod K mg (z20 s₁.heap H):=by
   obtain⟨mc,h1,h2⟩:=hlim
   exact⟨hKb,nsK hns,⟨mb,nsK hb,hbb⟩,⟨mc,nsK h1,h2⟩⟩
  have hL:Lm K mg (z20 s₁.heap H):=by
   refine⟨?_,fun x hx c Pt e=>?_⟩
   ·obtain⟨bm,o,h1,h2,h3,h4,h5⟩:=hbm
    exact⟨bm,o,h1,h2,base_of h3 (noA h3 (by rw[h4]; decide) (by rw[h4]; nofun)),h4,h5⟩
   ·obtain⟨o,v1,v2,v3,v4,v5,v6,v7,v8,e1,e2,r⟩:=(hT x hx c Pt e).1
    exact⟨o,v1,v2,v3,v4,v5,v6,v7,v8,base_of e1 (noA e1 (by rw[e2]; decide) (by rw[e2]; nofun)),e2,r⟩
  have tb:TB K H:=by
   refine⟨fun Q ps e=>?_,fun Q ps e pos cv hc=>?_,fun x hx c Pt e=>⟨_,hO2 Pt (z2z hx e)⟩⟩ <;> rcases hO Q with z | ⟨_,o',xs,z⟩ | ⟨_,z⟩ <;> rw[e]at z <;> cases z
   ·exact True.intro
   ·cases hc
  have e0:Env0 P w K mg (z20 s₁.heap H) callerA [] s₁ H:=⟨rfl,hM,fun b o e=>z94 e,Nat.le_of_eq (y9o _ _),trivial,fun b hb=>absurd (show b∈([]:List Addr)from hb) (by simp),hok,.of_eq hg⟩
  refine codeAny_mono ((F _ hKb (nsK hns) hL).run callerA [] s₁ H ⟨[.ref a],[]⟩ [.ref a] [.ref a] _ _ hr e0 (hbind s₁ (.ref a)) (.cons rfl .nil) (hsp H tb hS)) fun r s' h=>?_
  cases r with
  | error e=>exact(hCX H e s' h).elim
  | ok fl=>
   cases fl with
   | next=>exact False.elim h
   | brk=>exact False.elim h
   | cont=>exact False.elim h
   | ret u=>
    obtain⟨v,H',os,bare,un,hok',r',q⟩:=h
    have q':v=.bl true:=q
    subst q'
    obtain rfl:u=Value.bool true:=r'
    have kp:∀ b o,s₁.heap.get? b=some o->x66 K b=false->s'.heap.get? b=some o:=fun b o e nt=>by
     rcases hO b with z | ⟨_,ob,xs,z⟩ | ⟨z,_⟩
     ·exact un.keep b o e z (by intro z; exact absurd (show b∈([]:List Addr)from z) (by simp)) (by simp)
     ·have z2:=un.frzs b ob _ z
      obtain⟨e1,_⟩:=hok b _ z
      obtain⟨e2,_⟩:=hok' b _ z2
      rw[e]at e1; cases e1
      exact e2
     ·rw[z]at nt; cases nt
    have gr:∀ b,x66 K b=true->∃ ps,s'.heap.get? b=some (tabObj ps):=fun b t=>by
     obtain⟨more,z⟩:=un.tbls b _ (hO2 b t)
     exact⟨_,hok' b _ z⟩
    refine⟨rfl,⟨fun b o e=>?_,fun b o e=>?_⟩,os,bare⟩
    ·cases t:x66 K b with
     | false=>exact .inl (kp b o e t)
     | true=>
      obtain⟨⟨c,C⟩,e1⟩:=tabO b t
      obtain⟨ps,e2⟩:=gr b t
      rw[e]at e1; cases e1
      exact .inr (.inl ⟨(C.tab e).isCodeTable,rfl,#[],ps,rfl,by rw[Array.empty_append]; exact e2⟩)
    ·cases t:x66 K b with
     | false=>exact⟨o,kp b o e t⟩
     | true=>obtain⟨ps,e2⟩:=gr b t; exact⟨_,e2⟩
 have aT:x66 K a=false:=by
  cases t:x66 K a with
  | false=>rfl
  | true=>
   have:=(tabO a t).2
   rw[ha]at this; cases this
 cases hk:K.lookup a with
 | some o=>
  have e:=KX a o hk
  rw[ha]at e
  cases e
  refine core (fun b=>if x66 K b=true then some (.tbl #[])else none) (fun b=>?_) (fun b h=>if_pos h) (.inr ⟨_,vs.toArray,_,hk,rfl,rfl,rfl,by rw[List.size_toArray,lenV]; exact hl,by simpa using rv⟩) (fun b u z=>?_) fun o xs z=>?_
  ·by_cases hb:x66 K b=true
   ·exact .inr (.inr ⟨hb,if_pos hb⟩)
   ·exact .inl (if_neg hb)
  ·by_cases hb:x66 K b=true
   ·have z':=(if_pos hb).symm.trans z
    cases z'
    exact(tabO b hb).2
   ·have z':=(if_neg hb).symm.trans z
    cases z'
  ·have z':=(if_neg (by rw[aT]; decide)).symm.trans z
   cases z'
 | none=>
  refine core (fun b=>if b=a then some (.frz { cls:=.type "list",data:=.seq vs.toArray } (.lst (ns.map V.int)))else if x66 K b=true then some (.tbl #[])else none) (fun b=>?_) (fun b h=>?_) (.inl (.inr ⟨{ cls:=.type "list",data:=.seq vs.toArray },if_pos rfl⟩)) (fun b u z=>?_) fun _ _ _=>hk
  ·by_cases hb:b=a
   ·exact .inr (.inl ⟨hb,_,_,if_pos hb⟩)
   ·by_cases ht:x66 K b=true
    ·exact .inr (.inr ⟨ht,(if_neg hb).trans (if_pos ht)⟩)
    ·exact .inl ((if_neg hb).trans (if_neg ht))
  ·have hb:b≠a:=fun z=>by rw[z,aT]at h; cases h
   exact(if_neg hb).trans (if_pos h)
  ·by_cases hb:b=a
   ·have z':=(if_pos hb).symm.trans z
    cases z'
    subst hb
    exact⟨ha,by rw[List.length_map]; exact hl,vs,_,rv,ha⟩
   ·by_cases ht:x66 K b=true
    ·have z':=((if_neg hb).trans (if_pos ht)).symm.trans z
     cases z'
     exact(tabO b ht).2
    ·have z':=((if_neg hb).trans (if_neg ht)).symm.trans z
     cases z'
noncomputable def j4f (q:Program) (K:PySem.W.Frag):Prop:=∀ x∈y0y,(∃ d,(recsOf q).find? (fun e=>e.name == x)=some d)\/tabIn K x=none
theorem j4f.of {q:Program} {K:PySem.W.Frag} (h1:(∃ d,(recsOf q).find? (fun e=>e.name == ("turned":Str))=some d)\/tabIn K "turned" = none) (h2:(∃ d,(recsOf q).find? (fun e=>e.name == ("chain_ladder":Str))=some d)\/tabIn K "chain_ladder" = none)
  (h3:(∃ d,(recsOf q).find? (fun e=>e.name == ("flat_ladder":Str))=some d)\/tabIn K "flat_ladder" = none) (h4:(∃ d,(recsOf q).find? (fun e=>e.name == ("paired":Str))=some d)\/tabIn K "paired" = none):j4f q K:=fun x hx=>by
 rcases List.mem_cons.mp hx with rfl | hx
 ·exact h1
 rcases List.mem_cons.mp hx with rfl | hx
 ·exact h2
 rcases List.mem_cons.mp hx with rfl | hx
 ·exact h3
 rcases List.mem_cons.mp hx with rfl | hx
 ·exact h4
 cases hx
theorem z3g {l:PySem.W.OpenLaw} {n k:Nat} {q:Program} {loose:List Str} {XP:(Str->Option Value)->Heap->Prop} {YP:World->Heap->Prop} {d:DefRec} {K:Params->PySem.W.Frag} {CX:World->CXT} {sp:World->Sp} {x:Str}
  (hn:l.most=some n) (hn2:n<=sizeLine) (hdf:d.params.defaults=[]) (hr:Room k callerA)
  (hY:∀ (w:World) (h:Heap),YP w h->(K w.params).In h)
  (F:∀ (w:World) (mg:Str->Option Value) (fa:Addr) (h:Heap),(K w.params).In h->h.Ns mainGlobals mg->mg d.name=some (.ref fa)->j4f q (K w.params)/\noTabs (K w.params)=true /\
    ∃ fd:FuncData,(∀ (s:Shared) (u:Value),BindsTo s fd ⟨[u],[]⟩ [(x,u)]) /\
     ∀ base:Heap,(K w.params).In base->base.Ns mainGlobals mg->Lm (K w.params) mg base->FnOk l.prog w (K w.params) mg base (CX w) k fa fd [x] (sp w))
  (hsp:∀ (w:World) (H:Hp) (a:Addr) (ns:List Int),ns.length<=n->TB (K w.params) H->SqL (K w.params) H a (ns.map V.int)->sp w [.ref a] H (fun v _=>v=.bl true) fun _ _ _=>False)
  (hCX:∀ (w:World) (H:Hp) (s:Shared) (e:Value) (s':Shared),CX w [] H s (fun _ _ _=>False) e s'->False) :
  PySem.W.WalkO q loose XP YP l.row.toRowW d [] (fun f vs=>PySem.call f vs):=by
 refine Att.z72 hn hdf fun w s₀ s₁ mg mb fa o pm cd doc a vs ns G Y ho hd hcd hmg hobj hints hlen hg=>?_
 have KX:=hY w _ Y
 obtain⟨hrec,hnt,fd,hb,hF⟩:=F w mg fa _ KX G.T.g hmg
 have hbm:=G.T.bmain
 refine z15 KX G.T.g G.T.b G.T.builtins G.T.nolimit hg ?_ (fun x hx c Pt e=>?_) hnt hobj hints (Nat.le_trans hlen hn2) hr hF hb (fun H hO hS=>hsp w H a ns hlen hO hS) fun H e s'=>hCX w H s₁ e s'
 ·obtain⟨bm,ob,b1,b2,b3,b4,b5,b6⟩:=hbm
  exact⟨bm,ob,b1,b2,b3,b4,b5,b6⟩
 ·rcases hrec x hx with⟨dd,hd⟩ | z
  ·exact tab_of G.T KX hd e
  ·rw[z]at e; cases e
end L3
namespace L3
open PySem PySem.Spec PyProof.Rows L2
theorem x4w {k:Nat} {pt:x5s} {tt:x1l} {te:Den} {deep:Bool}:∀ (ds:List D) (S:Nat->Rho) (b:Nat->Bool) (v:Nat->D),
  (∀ i (h:i<ds.length),∃ ρ1 ρ2,pt ds[i] (S i++List.replicate k none)=some ρ1/\tt ρ1=some (b i,ρ2) /\
    (if b i=true then ∃ q ρ3,te ρ2=some (v i,q,ρ3)/\¬ (deep=true/\(v i).isL=true/\q≠1)/\ρ3.take (S i).length=S (i+1)else ρ2.take (S i).length=S (i+1)))->
  x6g k pt tt te deep ds (S 0)=some (((List.range ds.length).filter b).map v,S ds.length)
 | [],S,b,v,_=>rfl
 | d::ds,S,b,v,h=>by
  obtain⟨ρ1,ρ2,h1,h2,h3⟩:=h 0 (by simp)
  have ih:=x4w ds (fun i=>S (i+1)) (fun i=>b (i+1)) (fun i=>v (i+1)) (fun i hi=>h (i+1) (by simpa using hi))
  have er:((List.range (d::ds).length).filter b).map v=(if b 0=true then [v 0]else [])++((List.range ds.length).filter fun i=>b (i+1)).map fun i=>v (i+1):=by
   rw[List.length_cons,List.range_succ_eq_map,List.filter_cons,List.filter_map]
   split <;> simp[Function.comp_def]
  rw[er]
  unfold x6g
  rw[show pt d (S 0++List.replicate k none)=some ρ1 from h1]
  simp only[h2]
  split at h3
  ·rename_i hb
   obtain⟨q,ρ3,h4,h5,h6⟩:=h3
   simp only[hb,if_true,h4,if_neg h5,h6,ih]
   rfl
  ·rename_i hb
   simp only[hb,h3,ih]
   rfl
theorem x4r {pt:x5s} {body:x1d}:∀ (ds:List D) (I:Nat->Rho->Prop) (ρ:Rho),(∀ i (h:i<ds.length) ρ,I i ρ->∃ ρ1 ρ2,pt ds[i] ρ=some ρ1/\(body ρ1=some (.nx ρ2)\/body ρ1=some (.ct ρ2))/\I (i+1) ρ2)->I 0 ρ->∃ ρ',x8o pt body ds ρ=some (.nx ρ')/\I ds.length ρ'
 | [],I,ρ,_,h0=>⟨ρ,rfl,h0⟩
 | d::ds,I,ρ,h,h0=>by
  obtain⟨ρ1,ρ2,h1,h2,h3⟩:=h 0 (by simp) ρ h0
  obtain⟨ρ',e,h4⟩:=x4r ds (fun i=>I (i+1)) ρ2 (fun i hi=>h (i+1) (by simpa using hi)) h3
  refine⟨ρ',?_,h4⟩
  unfold x8o
  rw[show pt d ρ=some ρ1 from h1]
  rcases h2 with h2 | h2 <;> (simp only[h2]; exact e)
theorem x0e {f g:x1d} {ρ ρ1:Rho} (h:f ρ=some (.nx ρ1)):x1i f g ρ=g ρ1:=by unfold x1i; rw[h]
theorem x7c {f g:x1d} {ρ:Rho} {d:D} {q:Nat} (h:f ρ=some (.rt d q)):x1i f g ρ=some (.rt d q):=by unfold x1i; rw[h]
theorem x28 {n:Nat} {body:x1d} {ds:List D} {d:D} {q:Nat} (h:body (x3z n ds)=some (.rt d q)):fnD n body ds=some (d,q):=by unfold fnD; rw[h]
theorem x2f {k:Nat} {it:y1v} {pt:x5s} {tt:x1l} {te:Den} {deep:Bool} {ρ ρ1 ρ2:Rho} {ds vs:List D} (hi:it ρ=some (ds,ρ1)) (hc:x6g k pt tt te deep ds ρ1=some (vs,ρ2)):x2l k it pt tt te deep ρ=some (.lst vs,if deep=true then 2 else 1,ρ2):=by unfold x2l; rw[hi]; simp only[hc]
theorem z99 {i:Nat} {f:Den} {ρ ρ1:Rho} {d:D} {q:Nat} (h:f ρ=some (d,q,ρ1)):x2r i f ρ=some (.nx (ρ1.set i (some (d,q)))):=by unfold x2r; rw[h]
theorem x1t {f:Den} {ρ ρ1:Rho} {d:D} {q:Nat} (h:f ρ=some (d,q,ρ1)):x35 f ρ=some (.rt d q):=by unfold x35; rw[h]
theorem x3h {it:y1v} {pt:x5s} {body:x1d} {ρ ρ1:Rho} {ds:List D} (h:it ρ=some (ds,ρ1)):x7m it pt body ρ=x8o pt body ds ρ1:=by unfold x7m; rw[h]
theorem z3f {g:x1l} {s s':x1d} {ρ ρ1:Rho} (h:g ρ=some (true,ρ1)):sIf g s s' ρ=s ρ1:=by unfold sIf; rw[h]; rfl
theorem y1e {g:x1l} {s s':x1d} {ρ ρ1:Rho} (h:g ρ=some (false,ρ1)):sIf g s s' ρ=s' ρ1:=by unfold sIf; rw[h]; rfl
theorem x27 {i:Nat} {f:Den} {ρ ρ1 ρ2:Rho} {d:D} {q:Nat} (h:f ρ=some (d,q,ρ1)) (e:ρ1.set i (some (d,q))=ρ2):x2r i f ρ=some (.nx ρ2):=by rw[z99 h,e]
theorem x0q {f:Den} {ρ ρ1:Rho} {d:D} {q:Nat} (h:f ρ=some (d,q,ρ1)):x01 f x0d ρ=some ([d],ρ1):=by unfold x01; rw[h]; rfl
theorem x0k {f:Den} {g:x1o} {ρ ρ1 ρ2:Rho} {d:D} {q:Nat} {ds:List D} (h:f ρ=some (d,q,ρ1)) (h':g ρ1=some (ds,ρ2)):x01 f g ρ=some (d::ds,ρ2):=by unfold x01; rw[h]; simp only[h']
theorem x4d {g:x1o} {ρ ρ1:Rho} {ds:List D} (h:g ρ=some ([.lst ds],ρ1)):x4c g ρ=some (.tup ds,9,ρ1):=by unfold x4c; rw[h]
theorem y1c {g:x1o} {ρ ρ1:Rho} {ds:List D} (h:x1f g ρ=some (ds,ρ1)):x8c g ρ=some (.lst ds,1,ρ1):=by unfold x8c; rw[h]
theorem x0h {F:List D->Option (D × Nat)} {n:Nat} {g:x1o} {ρ ρ1:Rho} {ds:List D} {d:D} {q:Nat} (h:g ρ=some (ds,ρ1)) (hl:ds.length=n) (hF:F ds=some (d,q)):x0f F n g ρ=some (d,q,ρ1):=by unfold x0f; rw[h]; simp only[hl,if_true,hF]
noncomputable def x0j (l:List Nat):List D:=l.map fun i=>.int (Int.ofNat i)
noncomputable def z5r (n:Nat) (f:Nat->Nat->Nat) (i:Nat):D:=.tup (x0j ((List.range n).map fun j=>f i j))
noncomputable def x0x (n:Nat) (f:Nat->Nat->Nat):D:=.tup ((List.range n).map fun i=>z5r n f i)
noncomputable def x7u (n:Nat) (f:Nat->Nat->Nat) (i:Nat):D:=.lst (x0j ((List.range n).map fun j=>f i j))
noncomputable def x3y (n:Nat) (f:Nat->Nat->Nat):D:=.lst ((List.range n).map fun i=>x7u n f i)
@[simp] theorem j4c {n:Nat} {f:Nat->Nat->Nat}:(x0x n f).isL=false:=rfl
@[simp] theorem j4g {n:Nat} {f:Nat->Nat->Nat} {i:Nat}:(z5r n f i).isL=false:=rfl
@[simp] theorem j4e {n:Nat} {f:Nat->Nat->Nat}:(x3y n f).isL=true:=rfl
@[simp] theorem j4b {n:Nat} {f:Nat->Nat->Nat} {i:Nat}:(x7u n f i).isL=true:=rfl
theorem x1e (l:List Nat):(x0j l).length=l.length:=by simp[x0j]
theorem y05 (l:List Nat) (i:Nat):(x0j l)[i]? = (l[i]?).map fun x=>.int (Int.ofNat x):=by simp[x0j]
theorem y3g {n i:Nat} (h:i<n):ixN n (Int.ofNat i)=some i:=by
 unfold ixN
 rw[if_pos (by exact Int.natCast_nonneg i),if_pos (by show(i:Int)<n; omega)]
 rfl
theorem y19 {α:Type} {xs:List α} {i:Nat} {x:α} (h:xs[i]? = some x):L2.atI xs (Int.ofNat i)=some x:=by
 unfold L2.atI
 rw[y3g (List.getElem?_eq_some_iff.mp h).1]
 exact h
theorem z9u {l:List Nat} {i x:Nat} (h:l[i]? = some x):L2.atI (x0j l) (Int.ofNat i)=some (.int (Int.ofNat x)):=y19 (by rw[y05,h]; rfl)
theorem z61 {g:Nat->D} {n i:Nat} (h:i<n):L2.atI ((List.range n).map g) (Int.ofNat i)=some (g i):=y19 (by rw[List.getElem?_map,List.getElem?_range h]; rfl)
theorem x2d {g:Nat->Nat} {n i:Nat} (h:i<n):L2.atI (x0j ((List.range n).map g)) (Int.ofNat i)=some (.int (Int.ofNat (g i))):=z9u (by rw[List.getElem?_map,List.getElem?_range h]; rfl)
theorem y2v {n:Nat} {f:Nat->Nat->Nat} {i:Nat} (h:i<n):atD (x0x n f) (Int.ofNat i)=some (z5r n f i):=z61 h
theorem y5i {n:Nat} {f:Nat->Nat->Nat} {i j:Nat} (h:j<n):atD (z5r n f i) (Int.ofNat j)=some (.int (Int.ofNat (f i j))):=x2d h
theorem z8v {n:Nat} {f:Nat->Nat->Nat} {i:Nat} (h:i<n):atD (x3y n f) (Int.ofNat i)=some (x7u n f i):=z61 h
theorem z8g {n:Nat} {f:Nat->Nat->Nat} {i j:Nat} (h:j<n):atD (x7u n f i) (Int.ofNat j)=some (.int (Int.ofNat (f i j))):=x2d h
theorem x32 {n:Nat} {f:Nat->Nat->Nat}:x9r (x0x n f)=some n:=by simp[x0x,x9r]
theorem x7o {n:Nat} {f:Nat->Nat->Nat}:x9r (x3y n f)=some n:=by simp[x3y,x9r]
theorem x6p {n:Nat} {f g:Nat->Nat->Nat} (h:∀ a b,a<n->b<n->f a b=g a b):x3y n f=x3y n g:=by
 unfold x3y x7u
 refine congrArg D.lst (List.map_congr_left fun a ha=>?_)
 refine congrArg (fun l=>D.lst (x0j l)) (List.map_congr_left fun b hb=>?_)
 exact h a b (List.mem_range.mp ha) (List.mem_range.mp hb)
theorem x7r {α:Type} {g:Nat->α} {n m:Nat} {x:α}:((List.range n).map g).set m x=(List.range n).map fun a=>if a=m then x else g a:=by
 apply List.ext_getElem?
 intro i
 by_cases hi:i<n
 ·by_cases h:m=i
  ·subst h
   rw[List.getElem?_set_self (by simpa using hi),List.getElem?_map,List.getElem?_range hi]
   simp
  ·rw[List.getElem?_set_ne h,List.getElem?_map,List.getElem?_map,List.getElem?_range hi]
   simp
   exact fun z=>absurd z.symm h
 ·rw[List.getElem?_eq_none (by simp; omega),List.getElem?_eq_none (by simp; omega)]
theorem y79 {g:Nat->Nat} {n:Nat}:x0j ((List.range n).map g)=(List.range n).map fun i=>.int (Int.ofNat (g i)):=by simp[x0j]
theorem z2r {n:Nat} {f:Nat->Nat->Nat} {a b v:Nat}:D.lst (((List.range n).map fun i=>x7u n f i).set a (.lst ((x0j ((List.range n).map fun j=>f a j)).set b (.int (Int.ofNat v)))))=x3y n fun i j=>if i=a/\j=b then v else f i j:=by
 unfold x3y
 rw[x7r]
 refine congrArg D.lst (List.map_congr_left fun i hi=>?_)
 by_cases h:i=a
 ·subst h
  rw[if_pos rfl,y79,x7r]
  unfold x7u
  rw[y79]
  refine congrArg D.lst (List.map_congr_left fun j hj=>?_)
  by_cases hj:j=b <;> simp[hj]
 ·rw[if_neg h]
  unfold x7u
  simp[h]
theorem j4j (n:Nat):D.lst (List.replicate n [D.int 0]).flatten=x7u n (fun _ _=>0) 0:=by
 unfold x7u x0j
 congr 1
 simp[List.flatten_replicate_singleton,List.map_const']
noncomputable def lay (d:D):Bool:=x7w d && (toP d).canLay0
theorem j26 {d:D} (h:lay d=true):x7w d=true:=(Bool.and_eq_true_iff.mp h).1
theorem j3n {d:D} (h:lay d=true):(toP d).canLay0=true:=(Bool.and_eq_true_iff.mp h).2
theorem y28:∀ {ds:List D},(∀ d∈ds,lay d=true)->y0a ds=true
 | [],_=>rfl
 | d::ds,h=>by
  show(x7w d && y0a ds)=true
  rw[j26 (h d List.mem_cons_self),y28 fun x m=>h x (List.mem_cons_of_mem _ m)]
  rfl
noncomputable def dep (d:D):Nat:=(toP d).depth
theorem z5j:∀ {ds:List D},(∀ d∈ds,lay d=true)->PyData.canLayAll0 (x8l ds)=true
 | [],_=>rfl
 | d::ds,h=>by
  rw[x8l,PyData.canLayAll0,z5j fun x m=>h x (List.mem_cons_of_mem _ m),Bool.and_true]
  exact j3n (h d List.mem_cons_self)
theorem z5e {k:Nat}:∀ {ds:List D},(∀ d∈ds,dep d<=k)->PyData.depthAll (x8l ds)<=k
 | [],_=>Nat.zero_le _
 | d::ds,h=>by
  rw[x8l,PyData.depthAll]
  exact Nat.max_le.mpr ⟨h d List.mem_cons_self,z5e fun x m=>h x (List.mem_cons_of_mem _ m)⟩
noncomputable def Sh (k:Nat) (d:D):Prop:=lay d=true/\dep d<=k
theorem Sh.int {k:Nat} (i:Int):Sh k (.int i):=⟨rfl,Nat.zero_le _⟩
theorem Sh.bl {k:Nat} (i:Bool):Sh k (.bl i):=⟨rfl,Nat.zero_le _⟩
theorem Sh.non {k:Nat}:Sh k .non:=⟨rfl,Nat.zero_le _⟩
theorem Sh.lst {k:Nat} {ds:List D} (h:∀ d∈ds,Sh k d):Sh (k+1) (.lst ds):=⟨Bool.and_eq_true_iff.mpr ⟨y28 fun d m=>(h d m).1,z5j fun d m=>(h d m).1⟩,Nat.succ_le_succ (z5e fun d m=>(h d m).2)⟩
theorem Sh.ok {k:Nat} {d:D} (h:Sh k d) (hk:k<=64:=by decide):okD d=true:=by
 show(x7w d && ((toP d).canLay0 && decide ((toP d).depth<=64)))=true
 rw[j26 h.1,j3n h.1,Bool.true_and,Bool.true_and]
 exact decide_eq_true (Nat.le_trans h.2 hk)
theorem z74 {l:List Nat} {d:D} (m:d∈x0j l):Sh 0 d:=by
 obtain⟨x,_,rfl⟩:=List.mem_map.mp m
 exact .int _
theorem z3k (l:List Nat):Sh 1 (.lst (x0j l)):=.lst fun _ m=>z74 m
theorem y16:∀ l l':List Nat,PyData.eqvAll (x8l (x0j l)) (x8l (x0j l'))=decide (l=l')
 | [],[]=>rfl
 | [],_::_=>rfl
 | _::_,[]=>rfl
 | x::l,y::l'=>by
  show(((x:Int) == (y:Int)) && PyData.eqvAll (x8l (x0j l)) (x8l (x0j l')))=_
  rw[y16 l l']
  by_cases h:x=y
  ·subst h; simp
  ·have:((x:Int) == (y:Int))=false:=by simp; omega
   rw[this]
   simp[h]
theorem z7c (l l':List Nat):eqD (.lst (x0j l)) (.lst (x0j l'))=decide (l=l'):=y16 l l'
theorem y6f (i j:Int):eqD (.int i) (.int j)=decide (i=j):=by
 show(i == j)=_
 rw[Bool.beq_eq_decide_eq]
theorem y5t (i j:Nat):eqD (.int (Int.ofNat i)) (.int (Int.ofNat j))=decide (i=j):=by
 rw[y6f]
 exact decide_eq_decide.mpr ⟨fun h=>Int.ofNat.inj h,fun h=>by rw[h]⟩
theorem z65 (i j:Bool):eqD (.bl i) (.bl j)=decide (i=j):=by
 show(i == j)=_
 rw[Bool.beq_eq_decide_eq]
theorem j4v (l l':List Nat):dEq (.lst (x0j l)) (.lst (x0j l'))=some (.bl (decide (l=l'))):=by unfold dEq; rw[if_pos ⟨(z3k l).ok,(z3k l').ok⟩,z7c]
theorem j5a (l l':List Nat):dNe (.lst (x0j l)) (.lst (x0j l'))=some (.bl (!decide (l=l'))):=by unfold dNe; rw[if_pos ⟨(z3k l).ok,(z3k l').ok⟩,z7c]
theorem x7f (i j:Int):dEq (.int i) (.int j)=some (.bl (decide (i=j))):=by unfold dEq; rw[if_pos ⟨(Sh.int (k:=0) i).ok,(Sh.int (k:=0) j).ok⟩,y6f]
theorem y9b (i j:Int):dNe (.int i) (.int j)=some (.bl (!decide (i=j))):=by unfold dNe; rw[if_pos ⟨(Sh.int (k:=0) i).ok,(Sh.int (k:=0) j).ok⟩,y6f]
theorem y58 (i j:Nat):dEq (.int (Int.ofNat i)) (.int (Int.ofNat j))=some (.bl (decide (i=j))):=by unfold dEq; rw[if_pos ⟨(Sh.int (k:=0) _).ok,(Sh.int (k:=0) _).ok⟩,y5t]
theorem y36 (i j:Nat):dNe (.int (Int.ofNat i)) (.int (Int.ofNat j))=some (.bl (!decide (i=j))):=by unfold dNe; rw[if_pos ⟨(Sh.int (k:=0) _).ok,(Sh.int (k:=0) _).ok⟩,y5t]
structure Lad (n:Nat) (f:Nat->Nat->Nat):Prop where
 lo:0<n
 hi:n<=16
 cl:∀ i j,i<n->j<n->f i j<n
 idem:∀ i,i<n->f i i=i
 comm:∀ i j,i<n->j<n->f i j=f j i
 assoc:∀ i j k,i<n->j<n->k<n->f (f i j) k=f i (f j k)
 bot:∃ z,z<n/\∀ j,j<n->f z j=j
noncomputable def j68 (n:Nat) (f:Nat->Nat->Nat):Bool:=
 decide (0<n) && decide (n<=16) && ((List.range n).all fun i=>(List.range n).all fun j=>decide (f i j<n)) && ((List.range n).all fun i=>decide (f i i=i)) && ((List.range n).all fun i=>(List.range n).all fun j=>decide (f i j=f j i)) &&
 ((List.range n).all fun i=>(List.range n).all fun j=>(List.range n).all fun k=>decide (f (f i j) k=f i (f j k))) && ((List.range n).any fun z=>(List.range n).all fun j=>decide (f z j=j))
theorem z8x {n:Nat} {f:Nat->Nat->Nat} (h:j68 n f=true):Lad n f:=by
 unfold j68 at h
 simp only[Bool.and_eq_true,decide_eq_true_eq,List.all_eq_true,List.any_eq_true,List.mem_range]at h
 obtain⟨⟨⟨⟨⟨⟨h1,h2⟩,h3⟩,h4⟩,h5⟩,h6⟩,z,hz,h7⟩:=h
 exact⟨h1,h2,fun i j hi hj=>h3 i hi j hj,h4,fun i j hi hj=>h5 i hi j hj,fun i j k hi hj hk=>h6 i hi j hj k hk,z,hz,h7⟩
theorem Lad.ren {n:Nat} {f:Nat->Nat->Nat} (L:Lad n f) {π ι:Nat->Nat} (h1:∀ i,i<n->π i<n) (h2:∀ i,i<n->ι i<n) (h3:∀ i,i<n->ι (π i)=i) (h4:∀ i,i<n->π (ι i)=i):Lad n fun a b=>π (f (ι a) (ι b)):=by
 obtain⟨l1,l2,cl,idem,comm,assoc,z,hz,bot⟩:=L
 refine⟨l1,l2,fun i j hi hj=>h1 _ (cl _ _ (h2 i hi) (h2 j hj)),fun i hi=>?_,fun i j hi hj=>?_,fun i j k hi hj hk=>?_,π z,h1 z hz,fun j hj=>?_⟩
 ·show π (f (ι i) (ι i))=i
  rw[idem _ (h2 i hi),h4 i hi]
 ·show π (f (ι i) (ι j))=π (f (ι j) (ι i))
  rw[comm _ _ (h2 i hi) (h2 j hj)]
 ·show π (f (ι (π (f (ι i) (ι j)))) (ι k))=π (f (ι i) (ι (π (f (ι j) (ι k)))))
  rw[h3 _ (cl _ _ (h2 i hi) (h2 j hj)),h3 _ (cl _ _ (h2 j hj) (h2 k hk)),assoc _ _ _ (h2 i hi) (h2 j hj) (h2 k hk)]
 ·show π (f (ι (π z)) (ι j))=j
  rw[h3 z hz,bot _ (h2 j hj),h4 j hj]
noncomputable def x3x (p:Nat->Nat->Nat) (n:Nat):Nat->List Nat
 | 0=>List.range n
 | k+1=>(x3x p n k).eraseIdx (p k (x3x p n k).length)
noncomputable def drawn (p:Nat->Nat->Nat) (n k:Nat):Nat:=(x3x p n k).getD (p k (x3x p n k).length) 0
theorem y22:∀ (l:List Nat) (j:Nat),(x0j l).eraseIdx j=x0j (l.eraseIdx j)
 | [],_=>rfl
 | _::_,0=>rfl
 | a::l,j+1=>congrArg (D.int (Int.ofNat a) :: ·) (y22 l j)
theorem x7p {p:Nat->Nat->Nat} {n:Nat} (hp:∀ k m,0<m->p k m<m):∀ k,k<=n->(x3x p n k).length=n-k
 | 0,_=>by simp[x3x]
 | k+1,h=>by
  have ih:=x7p hp k (Nat.le_of_succ_le h)
  have:=hp k (n-k) (by omega)
  rw[x3x,List.length_eraseIdx,ih,if_pos this]
  omega
theorem y2e:∀ {l:List Nat} {j:Nat} (h:j<l.length),(l[j]::l.eraseIdx j).Perm l
 | a::l,0,_=>List.Perm.refl _
 | a::l,j+1,h=>(List.Perm.swap a (l[j]'(by simpa using h)) (l.eraseIdx j)).trans (List.Perm.cons a (y2e (by simpa using h)))
theorem y3s {p:Nat->Nat->Nat} {n:Nat} (hp:∀ k m,0<m->p k m<m):∀ k,k<=n->(((List.range k).map (drawn p n))++x3x p n k).Perm (List.range n)
 | 0,_=>by simp[x3x]
 | k+1,h=>by
  have ih:=y3s hp k (Nat.le_of_succ_le h)
  have hl:=x7p hp k (by omega:k<=n)
  have hj:p k (x3x p n k).length<(x3x p n k).length:=by rw[hl]; exact hp k _ (by omega)
  refine List.Perm.trans ?_ ih
  rw[List.range_succ,List.map_append,List.append_assoc]
  refine List.Perm.append_left _ ?_
  have e:drawn p n k=(x3x p n k)[p k (x3x p n k).length]:=by unfold drawn; rw[List.getD_eq_getElem?_getD,List.getElem?_eq_getElem hj]; rfl
  show(drawn p n k::(x3x p n (k+1))).Perm _
  rw[e,x3x]
  exact y2e hj
theorem x6u {p:Nat->Nat->Nat} {n:Nat} (hp:∀ k m,0<m->p k m<m):((List.range n).map (drawn p n)).Perm (List.range n):=by
 have h:=y3s hp n (Nat.le_refl n)
 have hl:=x7p hp n (Nat.le_refl n)
 rw[Nat.sub_self]at hl
 rw[List.length_eq_zero_iff.mp hl,List.append_nil]at h
 exact h
theorem y71 {p:Nat->Nat->Nat} {n:Nat} (hp:∀ k m,0<m->p k m<m) {i:Nat} (h:i<n):drawn p n i<n:=by
 have m:drawn p n i∈(List.range n).map (drawn p n):=List.mem_map.mpr ⟨i,List.mem_range.mpr h,rfl⟩
 exact List.mem_range.mp ((x6u hp).mem_iff.mp m)
noncomputable def x3v (p:Nat->Nat->Nat) (n a:Nat):Nat:=((List.range n).map (drawn p n)).idxOf a
theorem y21 {p:Nat->Nat->Nat} {n:Nat} (hp:∀ k m,0<m->p k m<m) {a:Nat} (h:a<n):x3v p n a<n:=by
 have m:a∈(List.range n).map (drawn p n):=(x6u hp).mem_iff.mpr (List.mem_range.mpr h)
 have:=List.idxOf_lt_length_of_mem m
 rw[List.length_map,List.length_range]at this
 exact this
theorem x7t {p:Nat->Nat->Nat} {n:Nat} (hp:∀ k m,0<m->p k m<m) {a:Nat} (h:a<n):drawn p n (x3v p n a)=a:=by
 have m:a∈(List.range n).map (drawn p n):=(x6u hp).mem_iff.mpr (List.mem_range.mpr h)
 have:=List.getElem_idxOf (List.idxOf_lt_length_of_mem m)
 rw[List.getElem_map,List.getElem_range]at this
 exact this
theorem x86 {p:Nat->Nat->Nat} {n:Nat} (hp:∀ k m,0<m->p k m<m) {i:Nat} (h:i<n):x3v p n (drawn p n i)=i:=by
 have nd:((List.range n).map (drawn p n)).Nodup:=(x6u hp).nodup_iff.mpr List.nodup_range
 have hi:i<((List.range n).map (drawn p n)).length:=by simpa using h
 have:=nd.idxOf_getElem i hi
 rw[List.getElem_map,List.getElem_range]at this
 exact this
end L3
namespace L3
open PySem PySem.Spec PyProof.Rows L2
theorem z4i {i n:Nat} {tt:x1l} {te:Den} {ρ:Rho} {deep:Bool} (hi:ρ.length=i) (b:Nat->Bool) (v:Nat->D) (q:Nat->Nat) (ht:∀ j,j<n->tt (ρ++[some (.int (Int.ofNat j),9)])=some (b j,ρ++[some (.int (Int.ofNat j),9)]))
  (he:∀ j,j<n->b j=true->te (ρ++[some (.int (Int.ofNat j),9)])=some (v j,q j,ρ++[some (.int (Int.ofNat j),9)])) (hd:deep=true->∀ j,(v j).isL=true->q j=1:=by intro h; cases h) :
  x6g 1 (x0m i) tt te deep (x1a n) ρ=some (((List.range n).filter b).map v,ρ):=by
 have h:=x4w (k:=1) (pt:=x0m i) (tt:=tt) (te:=te) (deep:=deep) (x1a n) (fun _=>ρ) b v (fun j hj=>?_)
 ·rw[x14]at h
  exact h
 ·rw[x14]at hj
  refine⟨ρ++[some (.int (Int.ofNat j),9)],_,?_,ht j hj,?_⟩
  ·have:(x1a n)[j]'(by rw[x14]; exact hj)=.int (Int.ofNat j):=by simp[x1a]
   rw[this]
   unfold x0m
   rw[if_pos (by simp[hi])]
   subst hi
   simp[List.set_append]
  ·by_cases hb:b j=true
   ·rw[if_pos hb]
    exact⟨q j,_,he j hj hb,fun⟨h1,h2,h3⟩=>h3 (hd h1 j h2),by simp⟩
   ·rw[if_neg hb]
    simp
theorem y1x {z:Nat}:∀ n:Nat,(List.range n).filter (fun w=>decide (w=z))=if z<n then [z]else []
 | 0=>by simp
 | n+1=>by
  rw[List.range_succ,List.filter_append,y1x n]
  by_cases h:n=z
  ·subst h; simp
  ·have:¬ (n=z):=h
   by_cases h2:z<n
   ·rw[if_pos h2,if_pos (by omega)]; simp[h]
   ·rw[if_neg h2,if_neg (by omega)]; simp[h]
theorem y41 {n:Nat} {g:Nat->Nat}:(List.range n).map g=List.range n ↔ ∀ j,j<n->g j=j:=by
 constructor
 ·intro h j hj
  have:=congrArg (fun l=>l[j]?) h
  simpa [hj]using this
 ·intro h
  have e:=List.map_congr_left (l:=List.range n) (f:=g) (g:=id) fun a ha=>h a (List.mem_range.mp ha)
  rw[e,List.map_id]
namespace Lad
variable {n:Nat} {f:Nat->Nat->Nat} (L:Lad n f)
include L
theorem bot_uniq {z x:Nat} (hz:z<n) (bz:∀ j,j<n->f z j=j) (hx:x<n) (bx:∀ j,j<n->f x j=j):x=z:=by
 have h1:=bx z hz
 have h2:=bz x hx
 rw[L.comm x z hx hz]at h1
 omega
theorem fold_lt:∀ {l:List Nat} {a:Nat},a<n->(∀ x∈l,x<n)->l.foldl f a<n
 | [],a,ha,_=>ha
 | y::l,a,ha,h=>fold_lt (l:=l) (L.cl a y ha (h y List.mem_cons_self)) fun x m=>h x (List.mem_cons_of_mem _ m)
theorem z1j:∀ {l:List Nat} {a x:Nat},a<n->x<n->(∀ x∈l,x<n)->f x a=a->f x (l.foldl f a)=l.foldl f a
 | [],a,x,_,_,_,e=>e
 | y::l,a,x,ha,hx,h,e=>by
  have hy:=h y List.mem_cons_self
  refine z1j (l:=l) (L.cl a y ha hy) hx (fun x m=>h x (List.mem_cons_of_mem _ m)) ?_
  rw[<- L.assoc x a y hx ha hy,e]
theorem fold_mem:∀ {l:List Nat} {a x:Nat},a<n->(∀ x∈l,x<n)->x∈l->f x (l.foldl f a)=l.foldl f a
 | y::l,a,x,ha,h,m=>by
  have hy:=h y List.mem_cons_self
  have hl:∀ x∈l,x<n:=fun x m=>h x (List.mem_cons_of_mem _ m)
  rcases List.mem_cons.mp m with rfl | m
  ·refine z1j L (l:=l) (L.cl a x ha hy) hy hl ?_
   rw[L.comm a x ha hy,<- L.assoc x x a hy hy ha,L.idem x hy]
  ·exact fold_mem (l:=l) (L.cl a y ha hy) hl m
theorem fold_out {z:Nat} (hz:z<n) (bz:∀ j,j<n->f z j=j):∀ {l:List Nat} {a:Nat},a<n->(∀ x∈l,x<n)->l.foldl f a=f a (l.foldl f z)
 | [],a,ha,_=>by show a=f a z; rw[L.comm a z ha hz,bz a ha]
 | y::l,a,ha,h=>by
  have hy:=h y List.mem_cons_self
  have hl:∀ x∈l,x<n:=fun x m=>h x (List.mem_cons_of_mem _ m)
  show l.foldl f (f a y)=f a (l.foldl f (f z y))
  rw[bz y hy,fold_out hz bz (L.cl a y ha hy) hl,fold_out hz bz hy hl,L.assoc a y _ ha hy (L.fold_lt hz hl)]
end Lad
end L3
namespace L3
open PySem PySem.Spec PyProof.Rows L2
theorem y3a {pt:x5s} {body:x1d} {d:D} {q:Nat}:∀ (ds:List D) (I:Rho->Prop) (ok:Nat->Bool) (ρ:Rho),
  (∀ i (h:i<ds.length) ρ,I ρ->∃ ρ1,pt ds[i] ρ=some ρ1/\(ok i=true->∃ ρ2,body ρ1=some (.nx ρ2)/\I ρ2)/\(ok i=false->body ρ1=some (.rt d q)))->I ρ->
  ((List.range ds.length).all ok=true->∃ ρ',x8o pt body ds ρ=some (.nx ρ')/\I ρ')/\((List.range ds.length).all ok=false->x8o pt body ds ρ=some (.rt d q))
 | [],I,ok,ρ,_,h0=>⟨fun _=>⟨ρ,rfl,h0⟩,fun h=>by simp at h⟩
 | x::ds,I,ok,ρ,h,h0=>by
  obtain⟨ρ1,h1,h2,h3⟩:=h 0 (by simp) ρ h0
  have e1:pt x ρ=some ρ1:=h1
  have er:(List.range (x::ds).length).all ok=(ok 0 && (List.range ds.length).all fun i=>ok (i+1)):=by
   rw[List.length_cons,List.range_succ_eq_map,List.all_cons,List.all_map]; rfl
  rw[er]
  cases hk:ok 0 with
  | false=>
   refine⟨fun z=>by simp at z,fun _=>?_⟩
   unfold x8o
   simp only[e1,h3 hk]
  | true=>
   obtain⟨ρ2,h4,h5⟩:=h2 hk
   obtain⟨i1,i2⟩:=y3a ds I (fun i=>ok (i+1)) ρ2 (fun i hi=>h (i+1) (by simpa using hi)) h5
   rw[Bool.true_and]
   unfold x8o
   simp only[e1,h4]
   exact⟨i1,i2⟩
theorem range_all {n:Nat} {p:Nat->Bool}:(List.range n).all p=true ↔ ∀ i,i<n->p i=true:=by
 rw[List.all_eq_true]
 exact⟨fun h i hi=>h i (List.mem_range.mpr hi),fun h i hi=>h i (List.mem_range.mp hi)⟩
theorem y6w (p:Nat->Bool):∀ l:List Nat,((List.range l.length).all fun i=>p (l.getD i 0))=l.all p
 | []=>rfl
 | a::l=>by
  rw[List.length_cons,List.range_succ_eq_map,List.all_cons,List.all_map,List.all_cons,<- y6w p l]
  rfl
theorem y4v {l:List Nat} {i:Nat} (h:i<(x0j l).length):(x0j l)[i]=.int (Int.ofNat (l.getD i 0)):=by
 have h':i<l.length:=by rw[x1e]at h; exact h
 simp[x0j,h']
theorem y6y {l:List Nat} {i:Nat} (h:i<l.length):l.getD i 0∈l:=by
 rw[List.getD_eq_getElem?_getD,List.getElem?_eq_getElem h]
 exact List.getElem_mem h
theorem j4p {i:Nat} {te:Den} {ρ:Rho} {deep:Bool} (l:List Nat) (hi:ρ.length=i) (v:Nat->D) (q:Nat->Nat)
  (he:∀ x,x∈l->te (ρ++[some (.int (Int.ofNat x),9)])=some (v x,q x,ρ++[some (.int (Int.ofNat x),9)])) (hd:deep=true->∀ j,(v j).isL=true->q j=1:=by intro h; cases h) :
  x6g 1 (x0m i) x38 te deep (x0j l) ρ=some (l.map v,ρ):=by
 have h:=x4w (k:=1) (pt:=x0m i) (tt:=x38) (te:=te) (deep:=deep) (x0j l) (fun _=>ρ) (fun _=>true) (fun j=>v (l.getD j 0)) (fun j hj=>?_)
 ·rw[x1e,show(List.range l.length).filter (fun _=>true)=List.range l.length by simp]at h
  rw[h]
  have e:(List.range l.length).map (fun j=>v (l.getD j 0))=l.map v:=by
   apply List.ext_getElem?
   intro k
   by_cases hk:k<l.length
   ·simp[hk]
   ·rw[List.getElem?_eq_none (by simp; omega),List.getElem?_eq_none (by simp; omega)]
  rw[e]
 ·have hj':j<l.length:=by rw[x1e]at hj; exact hj
  refine⟨ρ++[some (.int (Int.ofNat (l.getD j 0)),9)],_,?_,rfl,?_⟩
  ·rw[y4v hj]
   unfold x0m
   rw[if_pos (by simp[hi])]
   subst hi
   simp[List.set_append]
  ·rw[if_pos rfl]
   exact⟨q _,_,he _ (y6y hj'),fun⟨h1,h2,h3⟩=>h3 (hd h1 _ h2),by simp⟩
theorem x3m {g:D->D->Option D} {fa fb:Den} {ρ ρ1 ρ2:Rho} {x y d:D} {q q':Nat} (ha:fa ρ=some (x,q,ρ1)) (hb:fb ρ1=some (y,q',ρ2)) (hg:g x y=some d):e2 g fa fb ρ=some (d,9,ρ2):=by unfold e2; rw[ha]; simp only[hb,hg]
theorem x3g {f:Den} {ρ ρ1:Rho} {b:Bool} {q:Nat} (h:f ρ=some (.bl b,q,ρ1)):x2n f ρ=some (b,ρ1):=by unfold x2n; rw[h]
theorem y17 {i:Nat} {g:x1o} {ρ ρ1 ρ2:Rho} {ds:List D} {d:D} (hl:y49 ρ[i]? = true) (hg:g ρ=some ([d],ρ1)) (h1:ρ1[i]? = some (some (.lst ds,1))) (hn:ds.length<=1000) (e:ρ1.set i (some (.lst (ds++[d]),1))=ρ2):x2b (y27 i g) ρ=some (.nx ρ2):=by
 unfold x2b y27
 rw[if_pos hl,hg]
 simp only[h1,if_pos hn,e]
theorem j37 {b:List D->Option D} {g:x1o} {ρ ρ1:Rho} {ds:List D} {d:D} (h:g ρ=some (ds,ρ1)) (hd:b ds=some d):eB b g ρ=some (d,9,ρ1):=by unfold eB; rw[h]; simp only[hd]
noncomputable def x1j (n:Nat) (r:Nat->Nat):D:=.tup (x0j ((List.range n).map r))
@[simp] theorem j2a {n:Nat} {r:Nat->Nat}:(x1j n r).isL=false:=rfl
theorem y03 {n i:Nat} {r:Nat->Nat} (h:i<n):atD (x1j n r) (Int.ofNat i)=some (.int (Int.ofNat (r i))):=x2d h
namespace Lad
variable {n:Nat} {f:Nat->Nat->Nat} (L:Lad n f)
include L
theorem le_trans {x y z:Nat} (hx:x<n) (hy:y<n) (hz:z<n) (h1:f x y=y) (h2:f y z=z):f x z=z:=by
 rw[<- h2,<- L.assoc x y z hx hy hz,h1]
theorem lub {x y z:Nat} (hx:x<n) (hy:y<n) (hz:z<n) (h1:f x z=z) (h2:f y z=z):f (f x y) z=z:=by rw[L.assoc x y z hx hy hz,h2,h1]
theorem sup_least {z:Nat} (hz:z<n) (bz:∀ j,j<n->f z j=j) {b:Nat} (hb:b<n):∀ {l:List Nat},(∀ x∈l,x<n)->(∀ x∈l,f x b=b)->f (l.foldl f z) b=b
 | [],_,_=>bz b hb
 | y::l,h,k=>by
  have hy:=h y List.mem_cons_self
  have hl:∀ x∈l,x<n:=fun x m=>h x (List.mem_cons_of_mem _ m)
  have e:(y::l).foldl f z=f y (l.foldl f z):=by
   show l.foldl f (f z y)=_
   rw[bz y hy,L.fold_out hz bz hy hl]
  rw[e]
  exact L.lub hy (L.fold_lt hz hl) hb (k y List.mem_cons_self) (sup_least hz bz hb hl fun x m=>k x (List.mem_cons_of_mem _ m))
omit L
noncomputable def low (n:Nat) (f:Nat->Nat->Nat) (x:Nat):List Nat:=(List.range n).filter fun y=>decide (f y x=x)
theorem mem_low {x y:Nat}:y∈low n f x ↔ y<n/\f y x=x:=by simp[low]
noncomputable def lr (n:Nat) (f:Nat->Nat->Nat) (z:Nat) (r:Nat->Nat) (x:Nat):Nat:=((low n f x).map r).foldl f z
include L
variable {z:Nat} (hz:z<n) (bz:∀ j,j<n->f z j=j) {r s:Nat->Nat} (hr:∀ i,i<n->r i<n)
include hz bz hr
theorem lr_mem {x:Nat}:∀ y∈(low n f x).map r,y<n:=fun y m=>by
 obtain⟨k,hk,rfl⟩:=List.mem_map.mp m
 exact hr k (mem_low.mp hk).1
theorem lr_lt (x:Nat):lr n f z r x<n:=L.fold_lt hz (lr_mem L hz bz hr)
theorem lr_ub {x y:Nat} (hy:y<n) (h:f y x=x):f (r y) (lr n f z r x)=lr n f z r x:=L.fold_mem hz (lr_mem L hz bz hr) (List.mem_map.mpr ⟨y,mem_low.mpr ⟨hy,h⟩,rfl⟩)
theorem lr_least {x b:Nat} (hb:b<n) (h:∀ y,y<n->f y x=x->f (r y) b=b):f (lr n f z r x) b=b:=L.sup_least hz bz hb (lr_mem L hz bz hr) fun y m=>by
 obtain⟨k,hk,rfl⟩:=List.mem_map.mp m
 exact h k (mem_low.mp hk).1 (mem_low.mp hk).2
theorem lr_rises {x y:Nat} (hx:x<n) (hy:y<n) (h:f x y=y):f (lr n f z r x) (lr n f z r y)=lr n f z r y:=
 L.lr_least hz bz hr (L.lr_lt hz bz hr y) fun k hk e=>L.lr_ub hz bz hr hk (L.le_trans hk hx hy e h)
end Lad
end L3
namespace L3
open PySem PySem.Spec PyProof.Rows L2
theorem j78 {α:Type} {us:List α} (h:us.length=1):∃ a,us=[a]:=match us,h with | [a],_=>⟨a,rfl⟩
theorem j7b {α:Type} {us:List α} (h:us.length=2):∃ a b,us=[a,b]:=by
 cases us with
 | nil=>cases h
 | cons a us=>
  obtain⟨b,hh⟩:=j78 (Nat.succ.inj h)
  exact⟨a,b,by rw[hh]⟩
theorem j82 {α:Type} {us:List α} (h:us.length=3):∃ a b c,us=[a,b,c]:=by
 cases us with
 | nil=>cases h
 | cons a us=>
  obtain⟨b,c,hh⟩:=j7b (Nat.succ.inj h)
  exact⟨a,b,c,by rw[hh]⟩
theorem y2t {pt:x5s} {body:x1d} {d:D} {ds:List D} {ρ ρ1 ρ2:Rho} (h1:pt d ρ=some ρ1) (h2:body ρ1=some (.nx ρ2)):x8o pt body (d::ds) ρ=x8o pt body ds ρ2:=by
 show(match pt d ρ with | none=>none | some ρ1=>_)=_
 simp only[h1,h2]
theorem y08 {α J σ:Type} {pt:x5s} {body:x1d} (enc:α->D) (S:σ->J->Rho) (g:σ->α->σ) (I:σ->Prop):∀ (l:List α) (s:σ) (j:J),I s->
  (∀ x∈l,∀ s j,I s->I (g s x)/\∃ ρ1 j',pt (enc x) (S s j)=some ρ1/\body ρ1=some (.nx (S (g s x) j')))->∃ j',x8o pt body (l.map enc) (S s j)=some (.nx (S (l.foldl g s) j'))/\I (l.foldl g s)
 | [],s,j,i,_=>⟨j,rfl,i⟩
 | x::l,s,j,i,h=>by
  obtain⟨i1,ρ1,j1,h1,h2⟩:=h x List.mem_cons_self s j i
  obtain⟨j2,e,i2⟩:=y08 enc S g I l (g s x) j1 i1 fun y m=>h y (List.mem_cons_of_mem _ m)
  exact⟨j2,(y2t h1 h2).trans e,i2⟩
theorem y2g {c:x1l} {b:x1d} {Q:Rho->Prop} (I:Nat->Rho->Prop)
  (h:∀ k ρ,I k ρ->(∃ ρ1,c ρ=some (false,ρ1)/\Q ρ1)\/(∃ ρ1 ρ2 k',c ρ=some (true,ρ1)/\b ρ1=some (.nx ρ2)/\k'<k/\I k' ρ2)):∀ m k ρ,k<m->I k ρ->∃ ρ',x6c c b m ρ=some (.nx ρ')/\Q ρ'
 | 0,k,_,hk,_=>absurd hk (Nat.not_lt_zero k)
 | m+1,k,ρ,hk,i=>by
  rcases h k ρ i with⟨ρ1,h1,h2⟩ | ⟨ρ1,ρ2,k',h1,h2,h3,h4⟩
  ·exact⟨ρ1,by unfold x6c; simp[h1],h2⟩
  ·obtain⟨ρ',e,q⟩:=y2g I h m k' ρ2 (by omega) h4
   refine⟨ρ',?_,q⟩
   unfold x6c
   simp[h1,h2,e]
theorem y93 {c:x1l} {b:x1d} {Q:Rho->Prop} (I:Nat->Rho->Prop) {k:Nat} {ρ:Rho} (hk:k<1000) (i:I k ρ)
  (h:∀ k ρ,I k ρ->(∃ ρ1,c ρ=some (false,ρ1)/\Q ρ1)\/(∃ ρ1 ρ2 k',c ρ=some (true,ρ1)/\b ρ1=some (.nx ρ2)/\k'<k/\I k' ρ2)):∃ ρ',y70 c b ρ=some (.nx ρ')/\Q ρ':=y2g I h 1000 k ρ hk i
namespace Lad
variable {n:Nat} {f:Nat->Nat->Nat} (L:Lad n f) {p:Nat}
include L
end Lad
end L3
namespace My
open PySem PySem.Spec PyProof.Rows L2 L3
noncomputable def top (i:Nat):Stmt:=PySem.Challenge.pw_ladderhall_k80_programs.main.body.getD i (.Pass ⟨0,0,0,0⟩)
structure Bt (mg:Str->Option Value):Prop where
 m_ValueError:mg "ValueError" = none
 m_all:mg "all" = none
 m_bool:mg "bool" = none
 m_enumerate:mg "enumerate" = none
 m_int:mg "int" = none
 m_isinstance:mg "isinstance" = none
 m_len:mg "len" = none
 m_list:mg "list" = none
 m_max:mg "max" = none
 m_range:mg "range" = none
 m_set:mg "set" = none
 m_sorted:mg "sorted" = none
 m_tuple:mg "tuple" = none
 k_MOST_HOUSES:∃ t,mg "MOST_HOUSES" = some (.int 4 t)
 k_MOST_PLACES:∃ t,mg "MOST_PLACES" = some (.int 8 t)
 k_MOST_WAYS:∃ t,mg "MOST_WAYS" = some (.int 60 t)
structure Xt (K:PySem.W.Frag) (mg:Str->Option Value):Prop where
 u:y0f K mg "RiseError" ["NoHouse","NoPlace"]
 x_NoHouse:∃ C,XNm K mg "NoHouse" C
 x_NoPlace:∃ C,XNm K mg "NoPlace" C
 i_NoHouse:IsC K mg ["NoHouse","NoPlace"] "NoHouse"
 i_NoMap:IsC K mg ["NoHouse","NoPlace"] "NoMap"
 i_NoPlace:IsC K mg ["NoHouse","NoPlace"] "NoPlace"
 i_NoRule:IsC K mg ["NoHouse","NoPlace"] "NoRule"
 i_NoStep:IsC K mg ["NoHouse","NoPlace"] "NoStep"
 i_TooGreat:IsC K mg ["NoHouse","NoPlace"] "TooGreat"
noncomputable section
variable {P:Program} {w:World} {K:PySem.W.Frag} {mg:Str->Option Value} {base:Heap}
noncomputable def y0v:x1d:=x1i (sIf (x2n (e2 dLt (x06 1) (x15 0))) (x35 (x1z 0 (x06 1))) (x6h))
 (x1i (sIf (x2n (e2 dEq (x06 0) (x4n (x0d)))) (x35 (eC (.int 0))) (x6h))
 (x35 (e2 x2g (e2 y00 (x1z 0 (e2 y7r (x06 1) (x15 0))) (eC (.int 31))) (x06 1))))
noncomputable def x4f:List D->Option (D × Nat):=fnD 2 (y0v)
theorem y4g:FnScope ["_law_script","_law_k"] ["_law_script","_law_k"] (x0b (top 40)):=⟨rfl,rfl,rfl,by decide +kernel,rfl,by decide +kernel,by decide +kernel⟩
theorem y5d (B:Bt mg) (a:At K mg "_law_cell" (top 40) ["_law_script","_law_k"]):Cal P w K mg base 1 "_law_cell" 2 (x4f):=
 Cal.mkQ (k:=0) a y4g fun f cdv A outer s H E hr=>
  x08 (x2i (y6s (x02 (qv 1 rfl (Or.inl rfl))) (x16 B.m_len (qv 0 rfl (Or.inl rfl)))) (x0c (x0i (x1g (qv 0 rfl (Or.inl rfl)) (x02 (qv 1 rfl (Or.inl rfl)))))) (x1q))
  (x08 (x2i (x77 hr (x02 (qv 0 rfl (Or.inl rfl))) (x1w (x03))) (x0c (x0i (x07))) (x1q))
  (x0c (x0i (x1r (x71 (x1g (qv 0 rfl (Or.inl rfl)) (x7q (x02 (qv 1 rfl (Or.inl rfl))) (x16 B.m_len (qv 0 rfl (Or.inl rfl))))) (x07)) (x02 (qv 1 rfl (Or.inl rfl)))))))
noncomputable def y0c:x1d:=x1i (x2r 3 (e2 y7r (e2 y00 (e2 x2g (x0f x4f 2 (x01 (x06 0) (x01 (x06 1) (x0d)))) (e2 y00 (eC (.int 6151)) (e2 x2g (x06 1) (eC (.int 1))))) (eC (.int 40692))) (eC (.int 2147483399))))
 (x35 (e2 y7r (e2 y7r (e2 x2g (e2 y00 (x06 3) (x06 3)) (e2 z64 (x06 3) (eC (.int 31)))) (eC (.int 2147483629))) (x06 2)))
noncomputable def x0a:List D->Option (D × Nat):=fnD 4 (y0c)
theorem x9j:FnScope ["_law_script","_law_k","_law_many","_law_drawn"] ["_law_script","_law_k","_law_many"] (x0b (top 41)):=⟨rfl,rfl,rfl,by decide +kernel,rfl,by decide +kernel,by decide +kernel⟩
theorem y63 (B:Bt mg) (c__law_cell:Cal P w K mg base 1 "_law_cell" 2 x4f) (a:At K mg "_law_pick" (top 41) ["_law_script","_law_k","_law_many"]):Cal P w K mg base 2 "_law_pick" 3 (x0a):=
 Cal.mkQ (k:=1) a x9j fun f cdv A outer s H E hr=>
  x08 (x0s (i:=3) x9j.nd rfl (Or.inl rfl) (x7q (x71 (x1r (x09 c__law_cell hr (by decide) (x00 (x02 (qv 0 rfl (Or.inl rfl))) (x00 (x02 (qv 1 rfl (Or.inl rfl))) (x03) x05) x05)) (x71 (x07) (x1r (x02 (qv 1 rfl (Or.inl rfl))) (x07)))) (x07)) (x07)))
  (x0c (x0i (x7q (x7q (x1r (x71 (x02 (qv 3 rfl (Or.inl rfl))) (x02 (qv 3 rfl (Or.inl rfl)))) (y3z (x02 (qv 3 rfl (Or.inl rfl))) (x07))) (x07)) (x02 (qv 2 rfl (Or.inl rfl))))))
noncomputable def y40:x1d:=x35 (x2l 1 (x1f (x01 (x06 0) (x0d))) (x0m 1) (x38) (x2l 1 (x1f (x01 (x06 0) (x0d))) (x0m 2) (x38) (eB j0n (x01 (x06 1) (x01 (x06 2) (x0d)))) false) false)
noncomputable def x11:List D->Option (D × Nat):=fnD 1 (y40)
theorem y2u:FnScope ["_law_many"] ["_law_many"] (x0b (top 42)):=⟨rfl,rfl,rfl,by decide +kernel,rfl,by decide +kernel,by decide +kernel⟩
noncomputable abbrev x82:List Str:=["_law_many","_law_one","_law_other"]
theorem y1u:(x82).Nodup:=by decide +kernel
noncomputable abbrev x7s:List Str:=["_law_many","_law_one"]
theorem y1l:(x7s).Nodup:=by decide +kernel
theorem y48 (B:Bt mg) (a:At K mg "_law_chain" (top 42) ["_law_many"]):Cal P w K mg base 1 "_law_chain" 1 (x11):=
 Cal.mkQ (k:=0) a y2u fun f cdv A outer s H E hr=>
  x0c (x0i (x2u (k:=1) (N':=x7s) false rfl ⟨rfl,by decide +kernel,rfl,rfl,rfl⟩ (x13 B.m_range (x00 (x02 (qv 0 rfl (Or.inr (Or.inl rfl)))) (x03) x05)) (fun _ _ _ _=>x0l (i:=1) (show 1<=1 by decide) y1l rfl (Or.inr rfl) (Or.inl rfl)) (fun _ _ _ _=>x3d) (fun _ _ _ _=>x2u (k:=1) (N':=x82) false rfl ⟨rfl,by decide +kernel,rfl,rfl,rfl⟩ (x13 B.m_range (x00 (x02 (qv 0)) (x03) x05)) (fun _ _ _ _=>x0l (i:=2) (show 2<=2 by decide) y1u rfl (Or.inl rfl) (Or.inr rfl)) (fun _ _ _ _=>x3d) (fun _ _ _ _=>z1w rfl B.m_max PyProof.Rows.boot_max (x00 (x02 (qv 1)) (x00 (x02 (qv 2)) (x03) x05) x05)))))
noncomputable def y1f:x1d:=x1i (x2r 2 (x15 1))
 (x1i (x2r 3 (x4n (x0d)))
 (x1i (x7m (x1f (x01 (e2 y00 (x15 0) (x06 2)) (x0d))) (x0m 4) (x1i (x2r 5 (x4n (x0d)))
 (x1i (x7m (x1f (x01 (e2 y00 (x15 0) (x06 2)) (x0d))) (x0m 6) (x1i (x2r 7 (eIx (x1z 0 (e2 z64 (x06 4) (x06 2))) (e2 z64 (x06 6) (x06 2))))
 (x2b (y27 5 (x01 (e2 x2g (e2 y00 (x06 7) (x06 2)) (eIx (x1z 1 (e2 y7r (x06 4) (x06 2))) (e2 y7r (x06 6) (x06 2)))) (x0d))))))
 (x2b (y27 3 (x01 (x06 5) (x0d)))))))
 (x35 (x06 3))))
noncomputable def x1h:List D->Option (D × Nat):=fnD 8 (y1f)
theorem x20:FnScope ["_law_one","_law_other","_law_many","_law_made","_law_here","_law_row","_law_there","_law_first"] ["_law_one","_law_other"] (x0b (top 43)):=⟨rfl,rfl,rfl,by decide +kernel,rfl,by decide +kernel,by decide +kernel⟩
theorem y1m (B:Bt mg) (a:At K mg "_law_couples" (top 43) ["_law_one","_law_other"]):Cal P w K mg base 1 "_law_couples" 2 (x1h):=
 Cal.mkQ (k:=0) a x20 fun f cdv A outer s H E hr=>
  x08 (x0s (i:=2) x20.nd rfl (Or.inl rfl) (x16 B.m_len (qv 1 rfl (Or.inl rfl))))
  (x08 (x0s (i:=3) x20.nd rfl (Or.inl rfl) (x1w (x03)))
  (x08 (x2o PassesOwn.never rfl (x13 B.m_range (x00 (x71 (x16 B.m_len (qv 0 rfl (Or.inl rfl))) (x02 (qv 2 rfl (Or.inl rfl)))) (x03) x0w)) (x0l (i:=4) (show 0<=4 by decide) x20.nd rfl (Or.inl rfl)) (x08 (x0s (i:=5) x20.nd rfl (Or.inl rfl) (x1w (x03)))
  (x08 (x2o PassesOwn.never rfl (x13 B.m_range (x00 (x71 (x16 B.m_len (qv 0 rfl (Or.inl rfl))) (x02 (qv 2 rfl (Or.inl rfl)))) (x03) x0w)) (x0l (i:=6) (show 0<=6 by decide) x20.nd rfl (Or.inl rfl)) (x08 (x0s (i:=7) x20.nd rfl (Or.inl rfl) (x9w (x1g (qv 0 rfl (Or.inl rfl)) (y3z (x02 (qv 4 rfl (Or.inl rfl))) (x02 (qv 2 rfl (Or.inl rfl))))) (y3z (x02 (qv 6 rfl (Or.inl rfl))) (x02 (qv 2 rfl (Or.inl rfl))))))
  (x0c (x1u (x3w (qv 5 rfl (Or.inl rfl)) (x00 (x1r (x71 (x02 (qv 7 rfl (Or.inl rfl))) (x02 (qv 2 rfl (Or.inl rfl)))) (x9w (x1g (qv 1 rfl (Or.inl rfl)) (x7q (x02 (qv 4 rfl (Or.inl rfl))) (x02 (qv 2 rfl (Or.inl rfl))))) (x7q (x02 (qv 6 rfl (Or.inl rfl))) (x02 (qv 2 rfl (Or.inl rfl)))))) (x03) x0w))))))
  (x0c (x1u (x3w (qv 3 rfl (Or.inl rfl)) (x00 (x02 (qv 5 rfl (Or.inl rfl))) (x03) x05)))))))
  (x0c (x0i (x02 (qv 3 rfl (Or.inl rfl)))))))
noncomputable def x7i:x1d:=x1i (x2r 1 (x4n (x0d)))
 (x1i (x7m (x1f (x01 (e2 x2g (x06 0) (eC (.int 2))) (x0d))) (x0m 2) (x1i (x2r 3 (x4n (x0d)))
 (x1i (x7m (x1f (x01 (e2 x2g (x06 0) (eC (.int 2))) (x0d))) (x0m 4) (x2b (y27 3 (x01 (eIf (z0t (x2n (e2 dIn (eC (.int 0)) (x34 (x01 (x06 2) (x01 (x06 4) (x0d)))))) (x2n (e2 dEq (x06 2) (x06 4)))) (eB j0n (x01 (x06 2) (x01 (x06 4) (x0d)))) (e2 x2g (x06 0) (eC (.int 1)))) (x0d)))))
 (x2b (y27 1 (x01 (x06 3) (x0d)))))))
 (x35 (x06 1)))
noncomputable def x0t:List D->Option (D × Nat):=fnD 5 (x7i)
theorem x1s:FnScope ["_law_many","_law_made","_law_one","_law_row","_law_other"] ["_law_many"] (x0b (top 44)):=⟨rfl,rfl,rfl,by decide +kernel,rfl,by decide +kernel,by decide +kernel⟩
theorem x7d (B:Bt mg) (a:At K mg "_law_side_by_side" (top 44) ["_law_many"]):Cal P w K mg base 1 "_law_side_by_side" 1 (x0t):=
 Cal.mkQ (k:=0) a x1s fun f cdv A outer s H E hr=>
  x08 (x0s (i:=1) x1s.nd rfl (Or.inl rfl) (x1w (x03)))
  (x08 (x2o PassesOwn.never rfl (x13 B.m_range (x00 (x1r (x02 (qv 0 rfl (Or.inl rfl))) (x07)) (x03) x0w)) (x0l (i:=2) (show 0<=2 by decide) x1s.nd rfl (Or.inl rfl)) (x08 (x0s (i:=3) x1s.nd rfl (Or.inl rfl) (x1w (x03)))
  (x08 (x2o PassesOwn.never rfl (x13 B.m_range (x00 (x1r (x02 (qv 0 rfl (Or.inl rfl))) (x07)) (x03) x0w)) (x0l (i:=4) (show 0<=4 by decide) x1s.nd rfl (Or.inl rfl)) (x0c (x1u (x3w (qv 3 rfl (Or.inl rfl)) (x00 (y7g (y4r (x9g (z5u hr (x07) (x12 (x00 (x02 (qv 2 rfl (Or.inl rfl))) (x00 (x02 (qv 4 rfl (Or.inl rfl))) (x03) x05) x05))) (x7g (x77 hr (x02 (qv 2 rfl (Or.inl rfl))) (x02 (qv 4 rfl (Or.inl rfl))))))) (z1w rfl B.m_max PyProof.Rows.boot_max (x00 (x02 (qv 2 rfl (Or.inl rfl))) (x00 (x02 (qv 4 rfl (Or.inl rfl))) (x03) x05) x05)) (x1r (x02 (qv 0 rfl (Or.inl rfl))) (x07))) (x03) z2g)))))
  (x0c (x1u (x3w (qv 1 rfl (Or.inl rfl)) (x00 (x02 (qv 3 rfl (Or.inl rfl))) (x03) x05)))))))
  (x0c (x0i (x02 (qv 1 rfl (Or.inl rfl))))))
noncomputable def y11:x1d:=x1i (x2r 2 (x0f x0a 3 (x01 (x06 0) (x01 (x06 1) (x01 (eC (.int 9)) (x0d))))))
 (x1i (sIf (x2n (e2 dLt (x06 2) (eC (.int 3)))) (x35 (x0f x11 1 (x01 (e2 x2g (eC (.int 1)) (x0f x0a 3 (x01 (x06 0) (x01 (e2 x2g (x06 1) (eC (.int 1))) (x01 (eC (.int 5)) (x0d)))))) (x0d)))) (x6h))
 (x1i (sIf (x2n (e2 dLt (x06 2) (eC (.int 5)))) (x35 (x0f x1h 2 (x01 (x0f x11 1 (x01 (eC (.int 2)) (x0d))) (x01 (x0f x11 1 (x01 (eIx (x4n (x01 (eC (.int 2)) (x01 (eC (.int 3)) (x01 (eC (.int 4)) (x0d))))) (x0f x0a 3 (x01 (x06 0) (x01 (e2 x2g (x06 1) (eC (.int 1))) (x01 (eC (.int 3)) (x0d)))))) (x0d))) (x0d))))) (x6h))
 (x1i (sIf (x2n (e2 dLt (x06 2) (eC (.int 7)))) (x35 (x0f x0t 1 (x01 (x0f x0a 3 (x01 (x06 0) (x01 (e2 x2g (x06 1) (eC (.int 1))) (x01 (eC (.int 5)) (x0d))))) (x0d)))) (x6h))
 (x1i (sIf (x2n (e2 dEq (x06 2) (eC (.int 7)))) (x35 (x0f x1h 2 (x01 (x0f x11 1 (x01 (eC (.int 2)) (x0d))) (x01 (x0f x1h 2 (x01 (x0f x11 1 (x01 (eC (.int 2)) (x0d))) (x01 (x0f x11 1 (x01 (eC (.int 2)) (x0d))) (x0d)))) (x0d))))) (x6h))
 (x1i (x2r 3 (x4n (x01 (x4n (x01 (eC (.int 0)) (x01 (eC (.int 1)) (x01 (eC (.int 2)) (x01 (eC (.int 3)) (x01 (eC (.int 4)) (x0d))))))) (x01 (x4n (x01 (eC (.int 1)) (x01 (eC (.int 1)) (x01 (eC (.int 2)) (x01 (eC (.int 4)) (x01 (eC (.int 4)) (x0d))))))) (x01 (x4n (x01 (eC (.int 2)) (x01 (eC (.int 2)) (x01 (eC (.int 2)) (x01 (eC (.int 4)) (x01 (eC (.int 4)) (x0d))))))) (x01 (x4n (x01 (eC (.int 3)) (x01 (eC (.int 4)) (x01 (eC (.int 4)) (x01 (eC (.int 3)) (x01 (eC (.int 4)) (x0d))))))) (x01 (x4n (x01 (eC (.int 4)) (x01 (eC (.int 4)) (x01 (eC (.int 4)) (x01 (eC (.int 4)) (x01 (eC (.int 4)) (x0d))))))) (x0d))))))))
 (x35 (x06 3)))))))
noncomputable def x4e:List D->Option (D × Nat):=fnD 4 (y11)
theorem x60:FnScope ["_law_script","_law_at","_law_kind","_law_rows"] ["_law_script","_law_at"] (x0b (top 45)):=⟨rfl,rfl,rfl,by decide +kernel,rfl,by decide +kernel,by decide +kernel⟩
theorem y5l (B:Bt mg) (c__law_pick:Cal P w K mg base 2 "_law_pick" 3 x0a) (c__law_chain:Cal P w K mg base 1 "_law_chain" 1 x11) (c__law_couples:Cal P w K mg base 1 "_law_couples" 2 x1h) (c__law_side_by_side:Cal P w K mg base 1 "_law_side_by_side" 1 x0t) (a:At K mg "_law_base" (top 45) ["_law_script","_law_at"]):Cal P w K mg base 3 "_law_base" 2 (x4e):=
 Cal.mkQ (k:=2) a x60 fun f cdv A outer s H E hr=>
  x08 (x0s (i:=2) x60.nd rfl (Or.inl rfl) (x09 c__law_pick hr (by decide) (x00 (x02 (qv 0 rfl (Or.inl rfl))) (x00 (x02 (qv 1 rfl (Or.inl rfl))) (x00 (x07) (x03) x04) x05) x05)))
  (x08 (x2i (y6s (x02 (qv 2 rfl (Or.inl rfl))) (x07)) (x0c (x0i (x09 c__law_chain hr (by decide) (x00 (x1r (x07) (x09 c__law_pick hr (by decide) (x00 (x02 (qv 0 rfl (Or.inl rfl))) (x00 (x1r (x02 (qv 1 rfl (Or.inl rfl))) (x07)) (x00 (x07) (x03) x04) x0w) x05))) (x03) x0w)))) (x1q))
  (x08 (x2i (y6s (x02 (qv 2 rfl (Or.inl rfl))) (x07)) (x0c (x0i (x09 c__law_couples hr (by decide) (x00 (x09 c__law_chain hr (by decide) (x00 (x07) (x03) x04)) (x00 (x09 c__law_chain hr (by decide) (x00 (x9w (x1w (x00 (x07) (x00 (x07) (x00 (x07) (x03) x04) x04) x04)) (x09 c__law_pick hr (by decide) (x00 (x02 (qv 0 rfl (Or.inl rfl))) (x00 (x1r (x02 (qv 1 rfl (Or.inl rfl))) (x07)) (x00 (x07) (x03) x04) x0w) x05))) (x03) x0r)) (x03) x0n) x0n)))) (x1q))
  (x08 (x2i (y6s (x02 (qv 2 rfl (Or.inl rfl))) (x07)) (x0c (x0i (x09 c__law_side_by_side hr (by decide) (x00 (x09 c__law_pick hr (by decide) (x00 (x02 (qv 0 rfl (Or.inl rfl))) (x00 (x1r (x02 (qv 1 rfl (Or.inl rfl))) (x07)) (x00 (x07) (x03) x04) x0w) x05)) (x03) x0n)))) (x1q))
  (x08 (x2i (x77 hr (x02 (qv 2 rfl (Or.inl rfl))) (x07)) (x0c (x0i (x09 c__law_couples hr (by decide) (x00 (x09 c__law_chain hr (by decide) (x00 (x07) (x03) x04)) (x00 (x09 c__law_couples hr (by decide) (x00 (x09 c__law_chain hr (by decide) (x00 (x07) (x03) x04)) (x00 (x09 c__law_chain hr (by decide) (x00 (x07) (x03) x04)) (x03) x0n) x0n)) (x03) x0n) x0n)))) (x1q))
  (x08 (x0s (i:=3) x60.nd rfl (Or.inl rfl) (x1w (x00 (x1w (x00 (x07) (x00 (x07) (x00 (x07) (x00 (x07) (x00 (x07) (x03) x04) x04) x04) x04) x04)) (x00 (x1w (x00 (x07) (x00 (x07) (x00 (x07) (x00 (x07) (x00 (x07) (x03) x04) x04) x04) x04) x04)) (x00 (x1w (x00 (x07) (x00 (x07) (x00 (x07) (x00 (x07) (x00 (x07) (x03) x04) x04) x04) x04) x04)) (x00 (x1w (x00 (x07) (x00 (x07) (x00 (x07) (x00 (x07) (x00 (x07) (x03) x04) x04) x04) x04) x04)) (x00 (x1w (x00 (x07) (x00 (x07) (x00 (x07) (x00 (x07) (x00 (x07) (x03) x04) x04) x04) x04) x04)) (x03) x7b) x7b) x7b) x7b) x7b)))
  (x0c (x0i (x02 (qv 3 rfl (Or.inl rfl))))))))))
noncomputable def x84:x1d:=x1i (x2r 2 (x0f x4e 2 (x01 (x06 0) (x01 (x06 1) (x0d)))))
 (x1i (x2r 3 (x8c (x01 (x15 2) (x0d))))
 (x1i (x2r 4 (x2l 1 (x1f (x01 (x15 2) (x0d))) (x0m 8) (x38) (z9z 3 (x01 (x0f x0a 3 (x01 (x06 0) (x01 (e2 x2g (e2 x2g (x06 1) (eC (.int 2))) (x06 8)) (x01 (x15 3) (x0d))))) (x0d))) false))
 (x1i (x2r 5 (x2l 1 (x4v (x06 2)) (x0m 8) (x38) (y8y (x4n (x01 (eC (.int 0)) (x0d))) (x15 2)) true))
 (x1i (x7m (x1f (x01 (x15 2) (x0d))) (x0m 6) (x7m (x1f (x01 (x15 2) (x0d))) (x0m 7) (y8r 5 (qIx 4 (z66 6)) (qIx 4 (z66 7)) (x1z 4 (eIx (x1z 2 (x06 6)) (x06 7))))))
 (x35 (x4c (x01 (x2l 1 (x4v (x06 5)) (x0m 8) (x38) (x4c (x01 (x06 8) (x0d))) false) (x0d))))))))
noncomputable def x3o:List D->Option (D × Nat):=fnD 8 (x84)
theorem x26:FnScope ["_law_script","_law_at","_law_base_here","_law_left","_law_name","_law_made","_law_one","_law_other"] ["_law_script","_law_at"] (x0b (top 46)):=⟨rfl,rfl,rfl,by decide +kernel,rfl,by decide +kernel,by decide +kernel⟩
noncomputable abbrev x74:List Str:=["_law_script","_law_at","_law_base_here","_law_left","_law_name","_law_made","_law_one","_law_other","_law_k"]
theorem y0r:(x74).Nodup:=by decide +kernel
noncomputable abbrev x4z:List Str:=["_law_script","_law_at","_law_base_here","_law_left","_law_name","_law_made","_law_one","_law_other","_law_row"]
theorem x6l:(x4z).Nodup:=by decide +kernel
theorem y2n (B:Bt mg) (c__law_base:Cal P w K mg base 3 "_law_base" 2 x4e) (c__law_pick:Cal P w K mg base 2 "_law_pick" 3 x0a) (a:At K mg "_law_ladder" (top 46) ["_law_script","_law_at"]):Cal P w K mg base 4 "_law_ladder" 2 (x3o):=
 Cal.mkQ (k:=3) a x26 fun f cdv A outer s H E hr=>
  x08 (x0s (i:=2) x26.nd rfl (Or.inr rfl) (x09 c__law_base hr (by decide) (x00 (x02 (qv 0 rfl (Or.inr (Or.inl rfl)))) (x00 (x02 (qv 1 rfl (Or.inr (Or.inl rfl)))) (x03) x05) x05)))
  (x08 (x0s (i:=3) x26.nd rfl (Or.inr rfl) (y3l rfl B.m_list PyProof.Rows.boot_list B.m_range (x00 (x16 B.m_len (qv 2 rfl (Or.inr (Or.inl rfl)))) (x03) x0n)))
  (x08 (y76 (i:=4) (k:=1) (N':=x74) false x26.nd rfl (Or.inl rfl) rfl rfl ⟨rfl,by decide +kernel,rfl,rfl,rfl⟩ (x13 B.m_range (x00 (x16 B.m_len (qv 2 rfl (Or.inr (Or.inl rfl)))) (x03) x0n)) (fun _ _ _ _=>x0l (i:=8) (show 8<=8 by decide) y0r rfl (Or.inl rfl) (Or.inr rfl)) (fun _ _ _ _=>x3d) (fun _ _ _ _=>j1i (qv 3) (x00 (x09 c__law_pick hr (by decide) (x00 (x02 (qv 0)) (x00 (x1r (x1r (x02 (qv 1)) (x07)) (x02 (qv 8))) (x00 (x16 B.m_len (qv 3)) (x03) x0n) x0w) x05)) (x03) x0n)))
  (x08 (y76 (i:=5) (k:=1) (N':=x4z) true x26.nd rfl (Or.inl rfl) rfl rfl ⟨rfl,by decide +kernel,rfl,rfl,rfl⟩ (x37 (x02 (qv 2 rfl (Or.inr (Or.inl rfl))))) (fun _ _ _ _=>x0l (i:=8) (show 8<=8 by decide) x6l rfl (Or.inl rfl) (Or.inr rfl)) (fun _ _ _ _=>x3d) (fun _ _ _ _=>z9l (x1w (x00 (x07) (x03) x04)) (x16 B.m_len (qv 2))))
  (x08 (x2o PassesOwn.never rfl (x13 B.m_range (x00 (x16 B.m_len (qv 2 rfl (Or.inr (Or.inl rfl)))) (x03) x0n)) (x0l (i:=6) (show 0<=6 by decide) x26.nd rfl (Or.inl rfl)) (x0c (x2o PassesOwn.never rfl (x13 B.m_range (x00 (x16 B.m_len (qv 2 rfl (Or.inr (Or.inl rfl)))) (x03) x0n)) (x0l (i:=7) (show 0<=7 by decide) x26.nd rfl (Or.inl rfl)) (x0c (z3b (qv 5 rfl (Or.inl rfl)) (j0o (qv 4 rfl (Or.inl rfl)) (z5q (qv 6 rfl (Or.inl rfl)))) (j0o (qv 4 rfl (Or.inl rfl)) (z5q (qv 7 rfl (Or.inl rfl)))) (x1g (qv 4 rfl (Or.inl rfl)) (x9w (x1g (qv 2 rfl (Or.inr (Or.inl rfl))) (x02 (qv 6 rfl (Or.inl rfl)))) (x02 (qv 7 rfl (Or.inl rfl))))))))))
  (x0c (x0i (x5i B.m_tuple PyProof.Rows.boot_tuple (x00 (x2u (k:=1) (N':=x4z) false rfl ⟨rfl,by decide +kernel,rfl,rfl,rfl⟩ (x37 (x02 (qv 5 rfl (Or.inl rfl)))) (fun _ _ _ _=>x0l (i:=8) (show 8<=8 by decide) x6l rfl (Or.inl rfl) (Or.inr rfl)) (fun _ _ _ _=>x3d) (fun _ _ _ _=>x5i B.m_tuple PyProof.Rows.boot_tuple (x00 (x02 (qv 8)) (x03) x05))) (x03) x40))))))))
noncomputable def y25:x1d:=x35 (eIx (x2l 1 (x1f (x01 (x15 0) (x0d))) (x0m 1) (x2n (e2 dEq (x4b (x01 (x1z 0 (x06 1)) (x0d))) (x8c (x01 (x15 0) (x0d))))) (x06 1) false) (eC (.int 0)))
noncomputable def x44:List D->Option (D × Nat):=fnD 1 (y25)
theorem y5q:FnScope ["_law_ladder_here"] ["_law_ladder_here"] (x0b (top 47)):=⟨rfl,rfl,rfl,by decide +kernel,rfl,by decide +kernel,by decide +kernel⟩
noncomputable abbrev y0p:List Str:=["_law_ladder_here","_law_worth"]
theorem y4q:(y0p).Nodup:=by decide +kernel
theorem y7m (B:Bt mg) (a:At K mg "_law_low" (top 47) ["_law_ladder_here"]):Cal P w K mg base 1 "_law_low" 1 (x44):=
 Cal.mkQ (k:=0) a y5q fun f cdv A outer s H E hr=>
  x0c (x0i (x9w (x2u (k:=1) (N':=y0p) false rfl ⟨rfl,by decide +kernel,rfl,rfl,rfl⟩ (x13 B.m_range (x00 (x16 B.m_len (qv 0 rfl (Or.inr (Or.inl rfl)))) (x03) x0n)) (fun _ _ _ _=>x0l (i:=1) (show 1<=1 by decide) y4q rfl (Or.inl rfl) (Or.inr rfl)) (fun _ _ _ _=>x5r (x77 hr (x7y B.m_list PyProof.Rows.boot_list (x00 (x1g (qv 0) (x02 (qv 1))) (x03) x0r)) (y3l rfl B.m_list PyProof.Rows.boot_list B.m_range (x00 (x16 B.m_len (qv 0)) (x03) x0n)))) (fun _ _ _ _=>x02 (qv 1))) (x07)))
noncomputable def y10:x1d:=x1i (x2r 2 (x0f x44 1 (x01 (x06 0) (x0d))))
 (x1i (x7m (x4v (x06 1)) (x0m 3) (x2r 2 (eIx (x1z 0 (x06 2)) (x06 3))))
 (x35 (x06 2)))
noncomputable def x3i:List D->Option (D × Nat):=fnD 4 (y10)
theorem x4s:FnScope ["_law_ladder_here","_law_worths","_law_here","_law_worth"] ["_law_ladder_here","_law_worths"] (x0b (top 48)):=⟨rfl,rfl,rfl,by decide +kernel,rfl,by decide +kernel,by decide +kernel⟩
theorem y59 (B:Bt mg) (c__law_low:Cal P w K mg base 1 "_law_low" 1 x44) (a:At K mg "_law_join" (top 48) ["_law_ladder_here","_law_worths"]):Cal P w K mg base 2 "_law_join" 2 (x3i):=
 Cal.mkQ (k:=1) a x4s fun f cdv A outer s H E hr=>
  x08 (x0s (i:=2) x4s.nd rfl (Or.inl rfl) (x09 c__law_low hr (by decide) (x00 (x02 (qv 0 rfl (Or.inl rfl))) (x03) x05)))
  (x08 (x2o PassesOwn.never rfl (x37 (x02 (qv 1 rfl (Or.inl rfl)))) (x0l (i:=3) (show 0<=3 by decide) x4s.nd rfl (Or.inl rfl)) (x0c (x0s (i:=2) x4s.nd rfl (Or.inl rfl) (x9w (x1g (qv 0 rfl (Or.inl rfl)) (x02 (qv 2 rfl (Or.inl rfl)))) (x02 (qv 3 rfl (Or.inl rfl)))))))
  (x0c (x0i (x02 (qv 2 rfl (Or.inl rfl))))))
noncomputable def x9c:x1d:=x35 (x2l 1 (x1f (x01 (x15 0) (x0d))) (x0m 2) (x2n (e2 dEq (eIx (x1z 0 (x06 2)) (x06 1)) (x06 1))) (x06 2) false)
noncomputable def x2c:List D->Option (D × Nat):=fnD 2 (x9c)
theorem y2m:FnScope ["_law_ladder_here","_law_worth"] ["_law_ladder_here","_law_worth"] (x0b (top 49)):=⟨rfl,rfl,rfl,by decide +kernel,rfl,by decide +kernel,by decide +kernel⟩
noncomputable abbrev x7z:List Str:=["_law_ladder_here","_law_worth","_law_one"]
theorem y1r:(x7z).Nodup:=by decide +kernel
theorem y50 (B:Bt mg) (a:At K mg "_law_under" (top 49) ["_law_ladder_here","_law_worth"]):Cal P w K mg base 1 "_law_under" 2 (x2c):=
 Cal.mkQ (k:=0) a y2m fun f cdv A outer s H E hr=>
  x0c (x0i (x2u (k:=1) (N':=x7z) false rfl ⟨rfl,by decide +kernel,rfl,rfl,rfl⟩ (x13 B.m_range (x00 (x16 B.m_len (qv 0 rfl (Or.inr (Or.inl rfl)))) (x03) x0n)) (fun _ _ _ _=>x0l (i:=2) (show 2<=2 by decide) y1r rfl (Or.inl rfl) (Or.inr rfl)) (fun _ _ _ _=>x5r (x77 hr (x9w (x1g (qv 0) (x02 (qv 2))) (x02 (qv 1))) (x02 (qv 1)))) (fun _ _ _ _=>x02 (qv 2))))
noncomputable def y09:x1d:=x1i (x2r 3 (x0f x44 1 (x01 (x06 2) (x0d))))
 (x1i (x2r 4 (x4n (x0d)))
 (x1i (x7m (x1f (x01 (x15 2) (x0d))) (x0m 5) (x2b (y27 4 (x01 (eIx (x4n (x01 (x06 3) (x01 (x06 5) (x01 (x0f x0a 3 (x01 (x06 0) (x01 (e2 x2g (x06 1) (x06 5)) (x01 (x15 2) (x0d))))) (x0d))))) (x0f x0a 3 (x01 (x06 0) (x01 (e2 x2g (e2 x2g (x06 1) (eC (.int 8))) (x06 5)) (x01 (eC (.int 3)) (x0d)))))) (x0d)))))
 (x1i (x2r 6 (x4n (x0d)))
 (x1i (x7m (x1f (x01 (x15 2) (x0d))) (x0m 5) (x2b (y27 6 (x01 (x0f x3i 2 (x01 (x06 2) (x01 (x2l 1 (x4v (x0f x2c 2 (x01 (x06 2) (x01 (x06 5) (x0d))))) (x0m 7) (x38) (x1z 4 (x06 7)) false) (x0d)))) (x0d)))))
 (x35 (x4c (x01 (x06 6) (x0d))))))))
noncomputable def x2w:List D->Option (D × Nat):=fnD 7 (y09)
theorem x3k:FnScope ["_law_script","_law_at","_law_ladder_here","_law_low_here","_law_drawn","_law_worth","_law_made"] ["_law_script","_law_at","_law_ladder_here"] (x0b (top 50)):=⟨rfl,rfl,rfl,by decide +kernel,rfl,by decide +kernel,by decide +kernel⟩
noncomputable abbrev x9b:List Str:=["_law_script","_law_at","_law_ladder_here","_law_low_here","_law_drawn","_law_worth","_law_made","_law_one"]
theorem y3m:(x9b).Nodup:=by decide +kernel
theorem y68 (B:Bt mg) (c__law_low:Cal P w K mg base 1 "_law_low" 1 x44) (c__law_pick:Cal P w K mg base 2 "_law_pick" 3 x0a) (c__law_join:Cal P w K mg base 2 "_law_join" 2 x3i) (c__law_under:Cal P w K mg base 1 "_law_under" 2 x2c) (a:At K mg "_law_rule" (top 50) ["_law_script","_law_at","_law_ladder_here"]):Cal P w K mg base 3 "_law_rule" 3 (x2w):=
 Cal.mkQ (k:=2) a x3k fun f cdv A outer s H E hr=>
  x08 (x0s (i:=3) x3k.nd rfl (Or.inl rfl) (x09 c__law_low hr (by decide) (x00 (x02 (qv 2 rfl (Or.inl rfl))) (x03) x05)))
  (x08 (x0s (i:=4) x3k.nd rfl (Or.inr rfl) (x1w (x03)))
  (x08 (x2o PassesOwn.never rfl (x13 B.m_range (x00 (x16 B.m_len (qv 2 rfl (Or.inl rfl))) (x03) x0n)) (x0l (i:=5) (show 0<=5 by decide) x3k.nd rfl (Or.inl rfl)) (x0c (x1u (x3w (qv 4 rfl (Or.inr (Or.inl rfl))) (x00 (x9w (x1w (x00 (x02 (qv 3 rfl (Or.inl rfl))) (x00 (x02 (qv 5 rfl (Or.inl rfl))) (x00 (x09 c__law_pick hr (by decide) (x00 (x02 (qv 0 rfl (Or.inl rfl))) (x00 (x1r (x02 (qv 1 rfl (Or.inl rfl))) (x02 (qv 5 rfl (Or.inl rfl)))) (x00 (x16 B.m_len (qv 2 rfl (Or.inl rfl))) (x03) x0n) x0w) x05)) (x03) x0n) x05) x05)) (x09 c__law_pick hr (by decide) (x00 (x02 (qv 0 rfl (Or.inl rfl))) (x00 (x1r (x1r (x02 (qv 1 rfl (Or.inl rfl))) (x07)) (x02 (qv 5 rfl (Or.inl rfl)))) (x00 (x07) (x03) x04) x0w) x05))) (x03) x0r)))))
  (x08 (x0s (i:=6) x3k.nd rfl (Or.inl rfl) (x1w (x03)))
  (x08 (x2o PassesOwn.never rfl (x13 B.m_range (x00 (x16 B.m_len (qv 2 rfl (Or.inl rfl))) (x03) x0n)) (x0l (i:=5) (show 0<=5 by decide) x3k.nd rfl (Or.inl rfl)) (x0c (x1u (x3w (qv 6 rfl (Or.inl rfl)) (x00 (x09 c__law_join hr (by decide) (x00 (x02 (qv 2 rfl (Or.inl rfl))) (x00 (x2u (k:=1) (N':=x9b) false rfl ⟨rfl,by decide +kernel,rfl,rfl,rfl⟩ (x37 (x09 c__law_under hr (by decide) (x00 (x02 (qv 2 rfl (Or.inl rfl))) (x00 (x02 (qv 5 rfl (Or.inl rfl))) (x03) x05) x05))) (fun _ _ _ _=>x0l (i:=7) (show 7<=7 by decide) y3m rfl (Or.inl rfl) (Or.inr rfl)) (fun _ _ _ _=>x3d) (fun _ _ _ _=>x1g (qv 4) (x02 (qv 7)))) (x03) x40) x05)) (x03) x0n)))))
  (x0c (x0i (x5i B.m_tuple PyProof.Rows.boot_tuple (x00 (x02 (qv 6 rfl (Or.inl rfl))) (x03) x05))))))))
noncomputable abbrev x62:x1d:=x1i (x2r 6 (e2 x2g (eC (.int 1)) (x0f x0a 3 (x01 (x06 0) (x01 (e2 x2g (e2 x2g (x06 1) (eC (.int 1))) (x06 5)) (x01 (eC (.int 4)) (x0d)))))))
 (x1i (x2r 7 (x4n (x0d)))
 (x1i (x7m (x1f (x01 (x0f x0a 3 (x01 (x06 0) (x01 (e2 x2g (e2 x2g (x06 1) (eC (.int 4))) (x06 5)) (x01 (eC (.int 6)) (x0d))))) (x0d))) (x0m 8) (x1i (x2r 9 (e2 x2g (e2 x2g (e2 x2g (x06 1) (eC (.int 10))) (e2 y00 (eC (.int 120)) (x06 5))) (e2 y00 (eC (.int 23)) (x06 8))))
 (x1i (x2r 10 (x0f x2w 3 (x01 (x06 0) (x01 (e2 x2g (x06 9) (eC (.int 4))) (x01 (x06 2) (x0d))))))
 (x1i (sIf (x2n (e2 dEq (x0f x0a 3 (x01 (x06 0) (x01 (e2 x2g (x06 9) (eC (.int 2))) (x01 (eC (.int 3)) (x0d))))) (eC (.int 0)))) (x2r 10 (x0f x0a 3 (x01 (x06 0) (x01 (e2 x2g (x06 9) (eC (.int 3))) (x01 (x06 3) (x0d)))))) (x6h))
 (x2b (y27 7 (x01 (x34 (x01 (x0f x0a 3 (x01 (x06 0) (x01 (x06 9) (x01 (x06 6) (x0d))))) (x01 (x0f x0a 3 (x01 (x06 0) (x01 (e2 x2g (x06 9) (eC (.int 1))) (x01 (x06 6) (x0d))))) (x01 (x06 10) (x0d))))) (x0d))))))))
 (x2b (y27 4 (x01 (x34 (x01 (x06 6) (x01 (x4c (x01 (x06 7) (x0d))) (x0d)))) (x0d))))))
noncomputable abbrev x4j:x1d:=x1i (x2r 9 (e2 x2g (e2 x2g (e2 x2g (x06 1) (eC (.int 10))) (e2 y00 (eC (.int 120)) (x06 5))) (e2 y00 (eC (.int 23)) (x06 8))))
 (x1i (x2r 10 (x0f x2w 3 (x01 (x06 0) (x01 (e2 x2g (x06 9) (eC (.int 4))) (x01 (x06 2) (x0d))))))
 (x1i (sIf (x2n (e2 dEq (x0f x0a 3 (x01 (x06 0) (x01 (e2 x2g (x06 9) (eC (.int 2))) (x01 (eC (.int 3)) (x0d))))) (eC (.int 0)))) (x2r 10 (x0f x0a 3 (x01 (x06 0) (x01 (e2 x2g (x06 9) (eC (.int 3))) (x01 (x06 3) (x0d)))))) (x6h))
 (x2b (y27 7 (x01 (x34 (x01 (x0f x0a 3 (x01 (x06 0) (x01 (x06 9) (x01 (x06 6) (x0d))))) (x01 (x0f x0a 3 (x01 (x06 0) (x01 (e2 x2g (x06 9) (eC (.int 1))) (x01 (x06 6) (x0d))))) (x01 (x06 10) (x0d))))) (x0d))))))
noncomputable def x76:x1d:=x1i (x2r 3 (e2 x2g (eC (.int 1)) (x0f x0a 3 (x01 (x06 0) (x01 (x06 1) (x01 (eC (.int 3)) (x0d)))))))
 (x1i (x2r 4 (x4n (x0d)))
 (x1i (x7m (x1f (x01 (x06 3) (x0d))) (x0m 5) (x1i (x2r 6 (e2 x2g (eC (.int 1)) (x0f x0a 3 (x01 (x06 0) (x01 (e2 x2g (e2 x2g (x06 1) (eC (.int 1))) (x06 5)) (x01 (eC (.int 4)) (x0d)))))))
 (x1i (x2r 7 (x4n (x0d)))
 (x1i (x7m (x1f (x01 (x0f x0a 3 (x01 (x06 0) (x01 (e2 x2g (e2 x2g (x06 1) (eC (.int 4))) (x06 5)) (x01 (eC (.int 6)) (x0d))))) (x0d))) (x0m 8) (x1i (x2r 9 (e2 x2g (e2 x2g (e2 x2g (x06 1) (eC (.int 10))) (e2 y00 (eC (.int 120)) (x06 5))) (e2 y00 (eC (.int 23)) (x06 8))))
 (x1i (x2r 10 (x0f x2w 3 (x01 (x06 0) (x01 (e2 x2g (x06 9) (eC (.int 4))) (x01 (x06 2) (x0d))))))
 (x1i (sIf (x2n (e2 dEq (x0f x0a 3 (x01 (x06 0) (x01 (e2 x2g (x06 9) (eC (.int 2))) (x01 (eC (.int 3)) (x0d))))) (eC (.int 0)))) (x2r 10 (x0f x0a 3 (x01 (x06 0) (x01 (e2 x2g (x06 9) (eC (.int 3))) (x01 (x06 3) (x0d)))))) (x6h))
 (x2b (y27 7 (x01 (x34 (x01 (x0f x0a 3 (x01 (x06 0) (x01 (x06 9) (x01 (x06 6) (x0d))))) (x01 (x0f x0a 3 (x01 (x06 0) (x01 (e2 x2g (x06 9) (eC (.int 1))) (x01 (x06 6) (x0d))))) (x01 (x06 10) (x0d))))) (x0d))))))))
 (x2b (y27 4 (x01 (x34 (x01 (x06 6) (x01 (x4c (x01 (x06 7) (x0d))) (x0d)))) (x0d))))))))
 (x35 (x4c (x01 (x06 4) (x0d))))))
noncomputable def x3a:List D->Option (D × Nat):=fnD 11 (x76)
theorem x19:FnScope ["_law_script","_law_at","_law_ladder_here","_law_houses","_law_made","_law_j","_law_places","_law_ways","_law_k","_law_base_here","_law_rule_here"] ["_law_script","_law_at","_law_ladder_here"] (x0b (top 53)):=⟨rfl,rfl,rfl,by decide +kernel,rfl,by decide +kernel,by decide +kernel⟩
theorem y1i (B:Bt mg) (c__law_pick:Cal P w K mg base 2 "_law_pick" 3 x0a) (c__law_rule:Cal P w K mg base 3 "_law_rule" 3 x2w) (a:At K mg "_law_program" (top 53) ["_law_script","_law_at","_law_ladder_here"]):Cal P w K mg base 4 "_law_program" 3 (x3a):=
 Cal.mkQ (k:=3) a x19 fun f cdv A outer s H E hr=>
  x08 (x0s (i:=3) x19.nd rfl (Or.inl rfl) (x1r (x07) (x09 c__law_pick hr (by decide) (x00 (x02 (qv 0 rfl (Or.inl rfl))) (x00 (x02 (qv 1 rfl (Or.inl rfl))) (x00 (x07) (x03) x04) x05) x05))))
  (x08 (x0s (i:=4) x19.nd rfl (Or.inl rfl) (x1w (x03)))
  (x08 (x2o PassesOwn.never rfl (x13 B.m_range (x00 (x02 (qv 3 rfl (Or.inl rfl))) (x03) x05)) (x0l (i:=5) (show 0<=5 by decide) x19.nd rfl (Or.inl rfl)) (x08 (x0s (i:=6) x19.nd rfl (Or.inl rfl) (x1r (x07) (x09 c__law_pick hr (by decide) (x00 (x02 (qv 0 rfl (Or.inl rfl))) (x00 (x1r (x1r (x02 (qv 1 rfl (Or.inl rfl))) (x07)) (x02 (qv 5 rfl (Or.inl rfl)))) (x00 (x07) (x03) x04) x0w) x05))))
  (x08 (x0s (i:=7) x19.nd rfl (Or.inl rfl) (x1w (x03)))
  (x08 (x2o PassesOwn.never rfl (x13 B.m_range (x00 (x09 c__law_pick hr (by decide) (x00 (x02 (qv 0 rfl (Or.inl rfl))) (x00 (x1r (x1r (x02 (qv 1 rfl (Or.inl rfl))) (x07)) (x02 (qv 5 rfl (Or.inl rfl)))) (x00 (x07) (x03) x04) x0w) x05)) (x03) x0n)) (x0l (i:=8) (show 0<=8 by decide) x19.nd rfl (Or.inl rfl)) (x08 (x0s (i:=9) x19.nd rfl (Or.inl rfl) (x1r (x1r (x1r (x02 (qv 1 rfl (Or.inl rfl))) (x07)) (x71 (x07) (x02 (qv 5 rfl (Or.inl rfl))))) (x71 (x07) (x02 (qv 8 rfl (Or.inl rfl))))))
  (x08 (x0s (i:=10) x19.nd rfl (Or.inl rfl) (x09 c__law_rule hr (by decide) (x00 (x02 (qv 0 rfl (Or.inl rfl))) (x00 (x1r (x02 (qv 9 rfl (Or.inl rfl))) (x07)) (x00 (x02 (qv 2 rfl (Or.inl rfl))) (x03) x05) x0w) x05)))
  (x08 (x2i (x77 hr (x09 c__law_pick hr (by decide) (x00 (x02 (qv 0 rfl (Or.inl rfl))) (x00 (x1r (x02 (qv 9 rfl (Or.inl rfl))) (x07)) (x00 (x07) (x03) x04) x0w) x05)) (x07)) (x0c (x0s (i:=10) x19.nd rfl (Or.inl rfl) (x09 c__law_pick hr (by decide) (x00 (x02 (qv 0 rfl (Or.inl rfl))) (x00 (x1r (x02 (qv 9 rfl (Or.inl rfl))) (x07)) (x00 (x02 (qv 3 rfl (Or.inl rfl))) (x03) x05) x0w) x05)))) (x1q))
  (x0c (x1u (x3w (qv 7 rfl (Or.inl rfl)) (x00 (x12 (x00 (x09 c__law_pick hr (by decide) (x00 (x02 (qv 0 rfl (Or.inl rfl))) (x00 (x02 (qv 9 rfl (Or.inl rfl))) (x00 (x02 (qv 6 rfl (Or.inl rfl))) (x03) x05) x05) x05)) (x00 (x09 c__law_pick hr (by decide) (x00 (x02 (qv 0 rfl (Or.inl rfl))) (x00 (x1r (x02 (qv 9 rfl (Or.inl rfl))) (x07)) (x00 (x02 (qv 6 rfl (Or.inl rfl))) (x03) x05) x0w) x05)) (x00 (x02 (qv 10 rfl (Or.inl rfl))) (x03) x05) x0n) x0n)) (x03) x0v))))))))
  (x0c (x1u (x3w (qv 4 rfl (Or.inl rfl)) (x00 (x12 (x00 (x02 (qv 6 rfl (Or.inl rfl))) (x00 (x5i B.m_tuple PyProof.Rows.boot_tuple (x00 (x02 (qv 7 rfl (Or.inl rfl))) (x03) x05)) (x03) x0n) x05)) (x03) x0v))))))))
  (x0c (x0i (x5i B.m_tuple PyProof.Rows.boot_tuple (x00 (x02 (qv 4 rfl (Or.inl rfl))) (x03) x05))))))
noncomputable def y2h:x1d:=x35 (y7k (y3p .int (x06 0)) (j47 (y3p .bool (x06 0))))
noncomputable def x23:List D->Option (D × Nat):=fnD 1 (y2h)
theorem y5s:FnScope ["thing"] ["thing"] (x0b (top 9)):=⟨rfl,rfl,rfl,by decide +kernel,rfl,by decide +kernel,by decide +kernel⟩
theorem y8z (B:Bt mg) (a:At K mg "is_whole" (top 9) ["thing"]):Cal P w K mg base 1 "is_whole" 1 (x23):=
 Cal.mkQ (k:=0) a y5s fun f cdv A outer s H E hr=>
  x0c (x0i (y07 (x7v .int B.m_isinstance B.m_int PyProof.Rows.boot_int (x02 (qv 0 rfl (Or.inl rfl)))) (x9h (j0z (x7v .bool B.m_isinstance B.m_bool PyProof.Rows.boot_bool (x02 (qv 0 rfl (Or.inl rfl))))))))
noncomputable def x5u:x1d:=x35 (y7k (x0f x23 1 (x01 (x06 0) (x0d))) (eCh dLe dLe (eC (.int 1)) (x06 0) (eC (.int 8))))
noncomputable def x22:List D->Option (D × Nat):=fnD 1 (x5u)
theorem x96:FnScope ["thing"] ["thing"] (x0b (top 22)):=⟨rfl,rfl,rfl,by decide +kernel,rfl,by decide +kernel,by decide +kernel⟩
theorem x9v (B:Bt mg) (c_is_whole:Cal P w K mg base 1 "is_whole" 1 x23) (a:At K mg "is_many_places" (top 22) ["thing"]):Cal P w K mg base 2 "is_many_places" 1 (x22):=
 Cal.mkQ (k:=1) a x96 fun f cdv A outer s H E hr=>
  x0c (x0i (y07 (x09 c_is_whole hr (by decide) (x00 (x02 (qv 0 rfl (Or.inl rfl))) (x03) x05)) (x9h (y5u (x07) (x02 (qv 0 rfl (Or.inl rfl))) (y6g B.k_MOST_PLACES)))))
noncomputable def x73:x1d:=x35 (y7k (x0f x23 1 (x01 (x06 0) (x0d))) (eCh dLe dLt (eC (.int 0)) (x06 0) (x06 1)))
noncomputable def x0g:List D->Option (D × Nat):=fnD 2 (x73)
theorem y0o:FnScope ["thing","many"] ["thing","many"] (x0b (top 10)):=⟨rfl,rfl,rfl,by decide +kernel,rfl,by decide +kernel,by decide +kernel⟩
theorem y1w (B:Bt mg) (c_is_whole:Cal P w K mg base 1 "is_whole" 1 x23) (a:At K mg "is_number_of" (top 10) ["thing","many"]):Cal P w K mg base 2 "is_number_of" 2 (x0g):=
 Cal.mkQ (k:=1) a y0o fun f cdv A outer s H E hr=>
  x0c (x0i (y07 (x09 c_is_whole hr (by decide) (x00 (x02 (qv 0 rfl (Or.inl rfl))) (x03) x05)) (x9h (y5e (x07) (x02 (qv 0 rfl (Or.inl rfl))) (x02 (qv 1 rfl (Or.inl rfl)))))))
noncomputable def x72:x1d:=x1i (sIf (z0t (x4h (x6t (y3p .tuple (x06 1)))) (x2n (e2 dNe (x15 1) (eC (.int 3))))) (x35 (eC (.bl false))) (x6h))
 (x35 (y7k (x0f x0g 2 (x01 (x1z 1 (eC (.int 0))) (x01 (x06 0) (x0d)))) (x0f x0g 2 (x01 (x1z 1 (eC (.int 1))) (x01 (x06 0) (x0d))))))
noncomputable def x1n:List D->Option (D × Nat):=fnD 2 (x72)
theorem y0n:FnScope ["places","thing"] ["places","thing"] (x0b (top 24)):=⟨rfl,rfl,rfl,by decide +kernel,rfl,by decide +kernel,by decide +kernel⟩
theorem y1q (B:Bt mg) (c_is_number_of:Cal P w K mg base 2 "is_number_of" 2 x0g) (a:At K mg "goes_between" (top 24) ["places","thing"]):Cal P w K mg base 3 "goes_between" 2 (x1n):=
 Cal.mkQ (k:=2) a y0n fun f cdv A outer s H E hr=>
  x08 (x2i (y4r (x9g (x3p (x2v (x7v .tuple B.m_isinstance B.m_tuple PyProof.Rows.boot_tuple (x02 (qv 1 rfl (Or.inl rfl)))))) (x7g (y1a hr (x16 B.m_len (qv 1 rfl (Or.inl rfl))) (x07))))) (x0c (x0i (x57))) (x1q))
  (x0c (x0i (y07 (x09 c_is_number_of hr (by decide) (x00 (x1g (qv 1 rfl (Or.inl rfl)) (x07)) (x00 (x02 (qv 0 rfl (Or.inl rfl))) (x03) x05) x0r)) (x9h (x09 c_is_number_of hr (by decide) (x00 (x1g (qv 1 rfl (Or.inl rfl)) (x07)) (x00 (x02 (qv 0 rfl (Or.inl rfl))) (x03) x05) x0r))))))
noncomputable def x7k:x1d:=x1i (sIf (z0t (x4h (x6t (y3p .tuple (x06 0)))) (x2n (e2 dNe (x15 0) (x06 1)))) (x35 (eC (.bl false))) (x6h))
 (x35 (eB z3v (x01 (x2l 1 (x4v (x06 0)) (x0m 3) (x38) (x0f x0g 2 (x01 (x06 3) (x01 (x06 2) (x0d)))) false) (x0d))))
noncomputable def x3f:List D->Option (D × Nat):=fnD 3 (x7k)
theorem y3r:FnScope ["thing","length","many"] ["thing","length","many"] (x0b (top 11)):=⟨rfl,rfl,rfl,by decide +kernel,rfl,by decide +kernel,by decide +kernel⟩
noncomputable abbrev x9m:List Str:=["thing","length","many","part"]
theorem y3k:(x9m).Nodup:=by decide +kernel
theorem y5h (B:Bt mg) (c_is_number_of:Cal P w K mg base 2 "is_number_of" 2 x0g) (a:At K mg "is_row_of" (top 11) ["thing","length","many"]):Cal P w K mg base 3 "is_row_of" 3 (x3f):=
 Cal.mkQ (k:=2) a y3r fun f cdv A outer s H E hr=>
  x08 (x2i (y4r (x9g (x3p (x2v (x7v .tuple B.m_isinstance B.m_tuple PyProof.Rows.boot_tuple (x02 (qv 0 rfl (Or.inl rfl)))))) (x7g (y1a hr (x16 B.m_len (qv 0 rfl (Or.inl rfl))) (x02 (qv 1 rfl (Or.inl rfl))))))) (x0c (x0i (x57))) (x1q))
  (x0c (x0i (y9t rfl B.m_all (x00 (x2u (k:=1) (N':=x9m) false rfl ⟨rfl,by decide +kernel,rfl,rfl,rfl⟩ (x37 (x02 (qv 0 rfl (Or.inl rfl)))) (fun _ _ _ _=>x0l (i:=3) (show 3<=3 by decide) y3k rfl (Or.inl rfl) (Or.inr rfl)) (fun _ _ _ _=>x3d) (fun _ _ _ _=>x09 c_is_number_of hr (by decide) (x00 (x02 (qv 3)) (x00 (x02 (qv 2)) (x03) x05) x05))) (x03) x40))))
noncomputable def y3t:x1d:=x35 (x0f x3f 3 (x01 (x06 1) (x01 (x15 0) (x01 (x15 0) (x0d)))))
noncomputable def x6e:List D->Option (D × Nat):=fnD 2 (y3t)
theorem y8b:FnScope ["ladder","thing"] ["ladder","thing"] (x0b (top 16)):=⟨rfl,rfl,rfl,by decide +kernel,rfl,by decide +kernel,by decide +kernel⟩
theorem z0u (B:Bt mg) (c_is_row_of:Cal P w K mg base 3 "is_row_of" 3 x3f) (a:At K mg "is_rule" (top 16) ["ladder","thing"]):Cal P w K mg base 4 "is_rule" 2 (x6e):=
 Cal.mkQ (k:=3) a y8b fun f cdv A outer s H E hr=>
  x0c (x0i (x09 c_is_row_of hr (by decide) (x00 (x02 (qv 1 rfl (Or.inl rfl))) (x00 (x16 B.m_len (qv 0 rfl (Or.inl rfl))) (x00 (x16 B.m_len (qv 0 rfl (Or.inl rfl))) (x03) x0n) x0n) x05)))
noncomputable def y2c:x1d:=x35 (e2 dEq (eIx (x1z 0 (x06 1)) (x06 2)) (x06 2))
noncomputable def x31:List D->Option (D × Nat):=fnD 3 (y2c)
theorem y69:FnScope ["ladder","one","other"] ["ladder","one","other"] (x0b (top 13)):=⟨rfl,rfl,rfl,by decide +kernel,rfl,by decide +kernel,by decide +kernel⟩
theorem y8q (B:Bt mg) (a:At K mg "is_below" (top 13) ["ladder","one","other"]):Cal P w K mg base 1 "is_below" 3 (x31):=
 Cal.mkQ (k:=0) a y69 fun f cdv A outer s H E hr=>
  x0c (x0i (j5o hr (x9w (x1g (qv 0 rfl (Or.inl rfl)) (x02 (qv 1 rfl (Or.inl rfl)))) (x02 (qv 2 rfl (Or.inl rfl)))) (x02 (qv 2 rfl (Or.inl rfl)))))
noncomputable def z0i:x1d:=x35 (x2l 1 (x1f (x01 (x15 0) (x0d))) (x0m 2) (x6t (x0f x31 3 (x01 (x06 0) (x01 (x06 2) (x01 (x06 1) (x0d)))))) (x06 2) false)
noncomputable def x68:List D->Option (D × Nat):=fnD 2 (z0i)
theorem z32:FnScope ["ladder","worth"] ["ladder","worth"] (x0b (top 14)):=⟨rfl,rfl,rfl,by decide +kernel,rfl,by decide +kernel,by decide +kernel⟩
noncomputable abbrev y7h:List Str:=["ladder","worth","x"]
theorem z0v:(y7h).Nodup:=by decide +kernel
theorem z6q (B:Bt mg) (c_is_below:Cal P w K mg base 1 "is_below" 3 x31) (a:At K mg "below" (top 14) ["ladder","worth"]):Cal P w K mg base 2 "below" 2 (x68):=
 Cal.mkQ (k:=1) a z32 fun f cdv A outer s H E hr=>
  x0c (x0i (x2u (k:=1) (N':=y7h) false rfl ⟨rfl,by decide +kernel,rfl,rfl,rfl⟩ (x13 B.m_range (x00 (x16 B.m_len (qv 0 rfl (Or.inr (Or.inl rfl)))) (x03) x0n)) (fun _ _ _ _=>x0l (i:=2) (show 2<=2 by decide) z0v rfl (Or.inl rfl) (Or.inr rfl)) (fun _ _ _ _=>x5r (x2v (x09 c_is_below hr (by decide) (x00 (x02 (qv 0)) (x00 (x02 (qv 2)) (x00 (x02 (qv 1)) (x03) x05) x05) x05)))) (fun _ _ _ _=>x02 (qv 2))))
noncomputable def z03:x1d:=x1i (x7m (x1f (x01 (x15 0) (x0d))) (x0m 2) (x7m (x4v (x0f x68 2 (x01 (x06 0) (x01 (x06 2) (x0d))))) (x0m 3) (sIf (x4h (x6t (x0f x31 3 (x01 (x06 0) (x01 (x1z 1 (x06 3)) (x01 (x1z 1 (x06 2)) (x0d))))))) (x35 (eC (.bl false))) (x6h))))
 (x35 (eC (.bl true)))
noncomputable def y0e:List D->Option (D × Nat):=fnD 4 (z03)
theorem y3e:FnScope ["ladder","rule","y","x"] ["ladder","rule"] (x0b (top 17)):=⟨rfl,rfl,rfl,by decide +kernel,rfl,by decide +kernel,by decide +kernel⟩
theorem z6k (B:Bt mg) (c_below:Cal P w K mg base 2 "below" 2 x68) (c_is_below:Cal P w K mg base 1 "is_below" 3 x31) (a:At K mg "rises" (top 17) ["ladder","rule"]):Cal P w K mg base 3 "rises" 2 (y0e):=
 Cal.mkQ (k:=2) a y3e fun f cdv A outer s H E hr=>
  x08 (x2o PassesOwn.never rfl (x13 B.m_range (x00 (x16 B.m_len (qv 0 rfl (Or.inl rfl))) (x03) x0n)) (x0l (i:=2) (show 0<=2 by decide) y3e.nd rfl (Or.inl rfl)) (x0c (x2o PassesOwn.never rfl (x37 (x09 c_below hr (by decide) (x00 (x02 (qv 0 rfl (Or.inl rfl))) (x00 (x02 (qv 2 rfl (Or.inl rfl))) (x03) x05) x05))) (x0l (i:=3) (show 0<=3 by decide) y3e.nd rfl (Or.inl rfl)) (x0c (x2i (x3p (x2v (x09 c_is_below hr (by decide) (x00 (x02 (qv 0 rfl (Or.inl rfl))) (x00 (x1g (qv 1 rfl (Or.inl rfl)) (x02 (qv 3 rfl (Or.inl rfl)))) (x00 (x1g (qv 1 rfl (Or.inl rfl)) (x02 (qv 2 rfl (Or.inl rfl)))) (x03) x0r) x0r) x05)))) (x0c (x0i (x57))) (x1q))))))
  (x0c (x0i (x57)))
noncomputable def x5w:x1d:=x35 (y7k (x0f x6e 2 (x01 (x06 0) (x01 (x06 1) (x0d)))) (x0f y0e 2 (x01 (x06 0) (x01 (x06 1) (x0d)))))
noncomputable def x2k:List D->Option (D × Nat):=fnD 2 (x5w)
theorem x98:FnScope ["ladder","thing"] ["ladder","thing"] (x0b (top 18)):=⟨rfl,rfl,rfl,by decide +kernel,rfl,by decide +kernel,by decide +kernel⟩
theorem x9y (B:Bt mg) (c_is_rule:Cal P w K mg base 4 "is_rule" 2 x6e) (c_rises:Cal P w K mg base 3 "rises" 2 y0e) (a:At K mg "is_rising_rule" (top 18) ["ladder","thing"]):Cal P w K mg base 5 "is_rising_rule" 2 (x2k):=
 Cal.mkQ (k:=4) a x98 fun f cdv A outer s H E hr=>
  x0c (x0i (y07 (x09 c_is_rule hr (by decide) (x00 (x02 (qv 0 rfl (Or.inl rfl))) (x00 (x02 (qv 1 rfl (Or.inl rfl))) (x03) x05) x05)) (x9h (x09 c_rises hr (by decide) (x00 (x02 (qv 0 rfl (Or.inl rfl))) (x00 (x02 (qv 1 rfl (Or.inl rfl))) (x03) x05) x05)))))
noncomputable def y6x:x1d:=x35 (y7k (x0f x1n 2 (x01 (x06 1) (x01 (x06 2) (x0d)))) (x0f x2k 2 (x01 (x06 0) (x01 (x1z 2 (eC (.int 2))) (x0d)))))
noncomputable def x6o:List D->Option (D × Nat):=fnD 3 (y6x)
theorem z0h:FnScope ["ladder","places","thing"] ["ladder","places","thing"] (x0b (top 23)):=⟨rfl,rfl,rfl,by decide +kernel,rfl,by decide +kernel,by decide +kernel⟩
theorem z2x (B:Bt mg) (c_goes_between:Cal P w K mg base 3 "goes_between" 2 x1n) (c_is_rising_rule:Cal P w K mg base 5 "is_rising_rule" 2 x2k) (a:At K mg "is_way" (top 23) ["ladder","places","thing"]):Cal P w K mg base 6 "is_way" 3 (x6o):=
 Cal.mkQ (k:=5) a z0h fun f cdv A outer s H E hr=>
  x0c (x0i (y07 (x09 c_goes_between hr (by decide) (x00 (x02 (qv 1 rfl (Or.inl rfl))) (x00 (x02 (qv 2 rfl (Or.inl rfl))) (x03) x05) x05)) (x9h (x09 c_is_rising_rule hr (by decide) (x00 (x02 (qv 0 rfl (Or.inl rfl))) (x00 (x1g (qv 2 rfl (Or.inl rfl)) (x07)) (x03) x0r) x05)))))
noncomputable def y53:x1d:=x35 (y7k (x0f x1n 2 (x01 (x06 1) (x01 (x06 2) (x0d)))) (x0f x0g 2 (x01 (x1z 2 (eC (.int 2))) (x01 (x06 0) (x0d)))))
noncomputable def x56:List D->Option (D × Nat):=fnD 3 (y53)
theorem y8h:FnScope ["houses","places","thing"] ["houses","places","thing"] (x0b (top 34)):=⟨rfl,rfl,rfl,by decide +kernel,rfl,by decide +kernel,by decide +kernel⟩
theorem y98 (B:Bt mg) (c_goes_between:Cal P w K mg base 3 "goes_between" 2 x1n) (c_is_number_of:Cal P w K mg base 2 "is_number_of" 2 x0g) (a:At K mg "is_call" (top 34) ["houses","places","thing"]):Cal P w K mg base 4 "is_call" 3 (x56):=
 Cal.mkQ (k:=3) a y8h fun f cdv A outer s H E hr=>
  x0c (x0i (y07 (x09 c_goes_between hr (by decide) (x00 (x02 (qv 1 rfl (Or.inl rfl))) (x00 (x02 (qv 2 rfl (Or.inl rfl))) (x03) x05) x05)) (x9h (x09 c_is_number_of hr (by decide) (x00 (x1g (qv 2 rfl (Or.inl rfl)) (x07)) (x00 (x02 (qv 0 rfl (Or.inl rfl))) (x03) x05) x0r)))))
noncomputable def y2d:x1d:=x1i (sIf (z0t (x4h (x6t (y3p .tuple (x06 2)))) (z0t (x2n (e2 dNe (x15 2) (eC (.int 2)))) (x4h (x6t (x0f x22 1 (x01 (x1z 2 (eC (.int 0))) (x0d))))))) (x35 (eC (.bl false))) (x6h))
 (x1i (sIf (z0t (x4h (x6t (y3p .tuple (x1z 2 (eC (.int 1)))))) (x2n (e2 dGt (eB j2q (x01 (x1z 2 (eC (.int 1))) (x0d))) (eC (.int 60))))) (x35 (eC (.bl false))) (x6h))
 (x35 (eB z3v (x01 (x2l 1 (x4v (x1z 2 (eC (.int 1)))) (x0m 3) (x38) (eOr (x0f x6o 3 (x01 (x06 0) (x01 (x1z 2 (eC (.int 0))) (x01 (x06 3) (x0d))))) (x0f x56 3 (x01 (x06 1) (x01 (x1z 2 (eC (.int 0))) (x01 (x06 3) (x0d)))))) false) (x0d)))))
noncomputable def x5b:List D->Option (D × Nat):=fnD 3 (y2d)
theorem y6c:FnScope ["ladder","houses","thing"] ["ladder","houses","thing"] (x0b (top 33)):=⟨rfl,rfl,rfl,by decide +kernel,rfl,by decide +kernel,by decide +kernel⟩
noncomputable abbrev y0g:List Str:=["ladder","houses","thing","way"]
theorem y4h:(y0g).Nodup:=by decide +kernel
theorem y89 (B:Bt mg) (c_is_many_places:Cal P w K mg base 2 "is_many_places" 1 x22) (c_is_way:Cal P w K mg base 6 "is_way" 3 x6o) (c_is_call:Cal P w K mg base 4 "is_call" 3 x56) (a:At K mg "is_house" (top 33) ["ladder","houses","thing"]):Cal P w K mg base 7 "is_house" 3 (x5b):=
 Cal.mkQ (k:=6) a y6c fun f cdv A outer s H E hr=>
  x08 (x2i (y4r (x9g (x3p (x2v (x7v .tuple B.m_isinstance B.m_tuple PyProof.Rows.boot_tuple (x02 (qv 2 rfl (Or.inr (Or.inl rfl))))))) (x9g (y1a hr (x16 B.m_len (qv 2 rfl (Or.inr (Or.inl rfl)))) (x07)) (x7g (x3p (x2v (x09 c_is_many_places hr (by decide) (x00 (x1g (qv 2 rfl (Or.inr (Or.inl rfl))) (x07)) (x03) x0r)))))))) (x0c (x0i (x57))) (x1q))
  (x08 (x2i (y4r (x9g (x3p (x2v (x7v .tuple B.m_isinstance B.m_tuple PyProof.Rows.boot_tuple (x1g (qv 2 rfl (Or.inr (Or.inl rfl))) (x07))))) (x7g (j24 (j1x B.m_len (x00 (x1g (qv 2 rfl (Or.inr (Or.inl rfl))) (x07)) (x03) x0r)) (y6g B.k_MOST_WAYS))))) (x0c (x0i (x57))) (x1q))
  (x0c (x0i (y9t rfl B.m_all (x00 (x2u (k:=1) (N':=y0g) false rfl ⟨rfl,by decide +kernel,rfl,rfl,rfl⟩ (x37 (x1g (qv 2 rfl (Or.inr (Or.inl rfl))) (x07))) (fun _ _ _ _=>x0l (i:=3) (show 3<=3 by decide) y4h rfl (Or.inl rfl) (Or.inr rfl)) (fun _ _ _ _=>x3d) (fun _ _ _ _=>j5c (x09 c_is_way hr (by decide) (x00 (x02 (qv 0)) (x00 (x1g (qv 2) (x07)) (x00 (x02 (qv 3)) (x03) x05) x0r) x05)) (x9h (x09 c_is_call hr (by decide) (x00 (x02 (qv 1)) (x00 (x1g (qv 2) (x07)) (x00 (x02 (qv 3)) (x03) x05) x0r) x05))))) (x03) x40)))))
noncomputable def x9f:x1d:=x1i (sIf (z0t (x4h (x6t (y3p .tuple (x06 1)))) (x4h (x2n (eCh dLe dLe (eC (.int 1)) (x15 1) (eC (.int 4)))))) (x35 (eC (.bl false))) (x6h))
 (x35 (eB z3v (x01 (x2l 1 (x4v (x06 1)) (x0m 2) (x38) (x0f x5b 3 (x01 (x06 0) (x01 (x15 1) (x01 (x06 2) (x0d))))) false) (x0d))))
noncomputable def x1v:List D->Option (D × Nat):=fnD 2 (x9f)
theorem y2z:FnScope ["ladder","thing"] ["ladder","thing"] (x0b (top 32)):=⟨rfl,rfl,rfl,by decide +kernel,rfl,by decide +kernel,by decide +kernel⟩
noncomputable abbrev x8j:List Str:=["ladder","thing","house"]
theorem y1g:(x8j).Nodup:=by decide +kernel
theorem y47 (B:Bt mg) (c_is_house:Cal P w K mg base 7 "is_house" 3 x5b) (a:At K mg "is_program" (top 32) ["ladder","thing"]):Cal P w K mg base 8 "is_program" 2 (x1v):=
 Cal.mkQ (k:=7) a y2z fun f cdv A outer s H E hr=>
  x08 (x2i (y4r (x9g (x3p (x2v (x7v .tuple B.m_isinstance B.m_tuple PyProof.Rows.boot_tuple (x02 (qv 1 rfl (Or.inr (Or.inl rfl))))))) (x7g (x3p (y4u (x07) (x16 B.m_len (qv 1 rfl (Or.inr (Or.inl rfl)))) (y6g B.k_MOST_HOUSES)))))) (x0c (x0i (x57))) (x1q))
  (x0c (x0i (y9t rfl B.m_all (x00 (x2u (k:=1) (N':=x8j) false rfl ⟨rfl,by decide +kernel,rfl,rfl,rfl⟩ (x37 (x02 (qv 1 rfl (Or.inr (Or.inl rfl))))) (fun _ _ _ _=>x0l (i:=2) (show 2<=2 by decide) y1g rfl (Or.inl rfl) (Or.inr rfl)) (fun _ _ _ _=>x3d) (fun _ _ _ _=>x09 c_is_house hr (by decide) (x00 (x02 (qv 0)) (x00 (x16 B.m_len (qv 1)) (x00 (x02 (qv 2)) (x03) x05) x0n) x05))) (x03) x40))))
noncomputable def y1y:x1d:=x1i (j23 (x1z 1 (eC (.int 0))) (z5l (x2j (x0m 3) (x2j (x0m 4) (y1t)))))
 (x1i (x2r 5 (x4c (x01 (x8c (x01 (x15 0) (x0d))) (x0d))))
 (x1i (x2r 6 (x4n (x01 (x34 (x01 (eC (.int 0)) (x01 (x06 4) (x0d)))) (x01 (x34 (x01 (eC (.int 9)) (x01 (x06 4) (x0d)))) (x01 (x34 (x01 (eC (.bl true)) (x01 (x34 (x0d)) (x0d)))) (x01 (x34 (x01 (x06 3) (x01 (x4b (x01 (x06 4) (x0d))) (x0d)))) (x01 (x34 (x01 (x06 3) (x0d))) (x01 (x34 (x01 (x06 3) (x01 (x06 4) (x01 (x34 (x0d)) (x0d))))) (x01 (x4n (x01 (x06 3) (x01 (x06 4) (x0d)))) (x0d))))))))))
 (x1i (x2b (y3o 6 (x4n (x01 (eC .non) (x01 (x34 (x0d)) (x0d))))))
 (x1i (x2b (y3o 6 (x4n (x01 (x34 (x01 (x06 3) (x01 (y55 (x06 4) (x34 (x01 (x34 (x01 (eC (.int 0)) (x01 (x06 3) (x01 (x06 5) (x0d))))) (x0d)))) (x0d)))) (x01 (x34 (x01 (x06 3) (x01 (y55 (x06 4) (x34 (x01 (x34 (x01 (eC (.int 0)) (x01 (eC (.int 0)) (x01 (x15 1) (x0d))))) (x0d)))) (x0d)))) (x01 (x34 (x01 (eC .non) (x01 (x06 4) (x0d)))) (x0d)))))))
 (x1i (x2b (y3o 6 (x2l 1 (x4v (x34 (x01 (z5v (eC (.int 1))) (x01 (eC (.bl true)) (x01 (x4b (x01 (x06 5) (x0d))) (x0d)))))) (x0m 8) (x38) (x34 (x01 (x06 3) (x01 (y55 (x06 4) (x34 (x01 (x34 (x01 (eC (.int 0)) (x01 (eC (.int 0)) (x01 (x06 8) (x0d))))) (x0d)))) (x0d)))) false)))
 (x1i (x2b (y3o 6 (x4n (x01 (x34 (x01 (x06 3) (x01 (y55 (x06 4) (x34 (x01 (x34 (x01 (z5v (eC (.int 1))) (x01 (eC (.int 0)) (x01 (eC (.int 0)) (x0d))))) (x0d)))) (x0d)))) (x01 (x34 (x01 (x06 3) (x01 (y55 (x06 4) (x34 (x01 (x34 (x01 (eC (.int 0)) (x01 (eC (.int 0)) (x0d)))) (x0d)))) (x0d)))) (x01 (x34 (x01 (x06 3) (x01 (y55 (x06 4) (x34 (x01 (x34 (x01 (eC (.int 0)) (x01 (eC (.int 0)) (x01 (eC .non) (x0d))))) (x0d)))) (x0d)))) (x0d)))))))
 (x1i (x2b (y27 6 (x01 (x34 (x01 (x06 3) (x01 (y55 (x06 4) (x34 (x01 (x34 (x01 (eC (.int 0)) (x01 (eC (.int 0)) (x01 (y55 (x06 5) (x34 (x01 (eC (.int 0)) (x0d)))) (x0d))))) (x0d)))) (x0d)))) (x0d))))
 (x1i (x2r 7 (x4n (x01 (x4b (x01 (x06 1) (x0d))) (x01 (x34 (x0d)) (x01 (eC .non) (x01 (eC (.int 0)) (x01 (x1z 1 (eC (.int 0))) (x01 (y55 (x06 1) (x34 (x01 (eC .non) (x0d)))) (x01 (x34 (x01 (x06 1) (x0d))) (x0d))))))))))
 (x1i (sIf (x2n (e2 dEq (e2 y7r (x06 2) (eC (.int 5))) (eC (.int 0)))) (x35 (x1z 7 (e2 y7r (e2 z64 (x06 2) (eC (.int 5))) (eC (.int 7))))) (x6h))
 (x35 (y55 (x34 (x01 (x1z 6 (e2 y7r (e2 z64 (x06 2) (eC (.int 5))) (eC (.int 19)))) (x0d))) (eSl (x06 1) (z0w (eC (.int 1))) (z2w)))))))))))))
noncomputable def x3j:List D->Option (D × Nat):=fnD 8 (y1y)
theorem x45:FnScope ["_law_ladder_here","_law_program_here","_law_cell_here","_law_places","_law_ways","_law_rule_here","_law_some","_law_whole"] ["_law_ladder_here","_law_program_here","_law_cell_here"] (x0b (top 57)):=⟨rfl,rfl,rfl,by decide +kernel,rfl,by decide +kernel,by decide +kernel⟩
noncomputable abbrev y18:List Str:=["_law_ladder_here","_law_program_here","_law_cell_here","_law_places","_law_ways","_law_rule_here","_law_some","_law_whole","_law_end"]
theorem y4i:(y18).Nodup:=by decide +kernel
theorem y7n (B:Bt mg) (a:At K mg "_law_bad" (top 57) ["_law_ladder_here","_law_program_here","_law_cell_here"]):Cal P w K mg base 1 "_law_bad" 3 (x3j):=
 Cal.mkQ (k:=0) a x45 fun f cdv A outer s H E hr=>
  x08 (z7s (x1g (qv 1 rfl (Or.inl rfl)) (x07)) (y5m (n:=2) rfl (x4l (x0l (i:=3) (show 0<=3 by decide) x45.nd rfl (Or.inr rfl)) (x4l (x0l (i:=4) (show 0<=4 by decide) x45.nd rfl (Or.inr rfl)) (y34))) z1c))
  (x08 (x0s (i:=5) x45.nd rfl (Or.inl rfl) (x5i B.m_tuple PyProof.Rows.boot_tuple (x00 (y3l rfl B.m_list PyProof.Rows.boot_list B.m_range (x00 (x16 B.m_len (qv 0 rfl (Or.inl rfl))) (x03) x0n)) (x03) x0n)))
  (x08 (x0s (i:=6) x45.nd rfl (Or.inl rfl) (x1w (x00 (x12 (x00 (x07) (x00 (x02 (qv 4 rfl (Or.inr (Or.inl rfl)))) (x03) x05) x04)) (x00 (x12 (x00 (x07) (x00 (x02 (qv 4 rfl (Or.inr (Or.inl rfl)))) (x03) x05) x04)) (x00 (x12 (x00 (x57) (x00 (x12 (x03)) (x03) x0v) x04)) (x00 (x12 (x00 (x02 (qv 3 rfl (Or.inr (Or.inl rfl)))) (x00 (x7y B.m_list PyProof.Rows.boot_list (x00 (x02 (qv 4 rfl (Or.inr (Or.inl rfl)))) (x03) x05)) (x03) x0n) x05)) (x00 (x12 (x00 (x02 (qv 3 rfl (Or.inr (Or.inl rfl)))) (x03) x05)) (x00 (x12 (x00 (x02 (qv 3 rfl (Or.inr (Or.inl rfl)))) (x00 (x02 (qv 4 rfl (Or.inr (Or.inl rfl)))) (x00 (x12 (x03)) (x03) x0v) x05) x05)) (x00 (x1w (x00 (x02 (qv 3 rfl (Or.inr (Or.inl rfl)))) (x00 (x02 (qv 4 rfl (Or.inr (Or.inl rfl)))) (x03) x05) x05)) (x03) x7b) x0v) x0v) x0v) x0v) x0v) x0v)))
  (x08 (x1u (x4g (qv 6 rfl (Or.inl rfl)) (x1w (x00 (x6y) (x00 (x12 (x03)) (x03) x0v) x04))))
  (x08 (x1u (x4g (qv 6 rfl (Or.inl rfl)) (x1w (x00 (x12 (x00 (x02 (qv 3 rfl (Or.inr (Or.inl rfl)))) (x00 (x70 (x02 (qv 4 rfl (Or.inr (Or.inl rfl)))) (x12 (x00 (x12 (x00 (x07) (x00 (x02 (qv 3 rfl (Or.inr (Or.inl rfl)))) (x00 (x02 (qv 5 rfl (Or.inl rfl))) (x03) x05) x05) x04)) (x03) x0v))) (x03) x0w) x05)) (x00 (x12 (x00 (x02 (qv 3 rfl (Or.inr (Or.inl rfl)))) (x00 (x70 (x02 (qv 4 rfl (Or.inr (Or.inl rfl)))) (x12 (x00 (x12 (x00 (x07) (x00 (x07) (x00 (x16 B.m_len (qv 1 rfl (Or.inl rfl))) (x03) x0n) x04) x04)) (x03) x0v))) (x03) x0w) x05)) (x00 (x12 (x00 (x6y) (x00 (x02 (qv 4 rfl (Or.inr (Or.inl rfl)))) (x03) x05) x04)) (x03) x0v) x0v) x0v))))
  (x08 (x1u (x4g (qv 6 rfl (Or.inl rfl)) (x2u (k:=1) (N':=y18) false rfl ⟨rfl,by decide +kernel,rfl,rfl,rfl⟩ (x37 (x12 (x00 (y97 (x07)) (x00 (x57) (x00 (x7y B.m_list PyProof.Rows.boot_list (x00 (x02 (qv 5 rfl (Or.inl rfl))) (x03) x05)) (x03) x0n) x04) x8w))) (fun _ _ _ _=>x0l (i:=8) (show 8<=8 by decide) y4i rfl (Or.inl rfl) (Or.inr rfl)) (fun _ _ _ _=>x3d) (fun _ _ _ _=>x12 (x00 (x02 (qv 3)) (x00 (x70 (x02 (qv 4)) (x12 (x00 (x12 (x00 (x07) (x00 (x07) (x00 (x02 (qv 8)) (x03) x05) x04) x04)) (x03) x0v))) (x03) x0w) x05)))))
  (x08 (x1u (x4g (qv 6 rfl (Or.inl rfl)) (x1w (x00 (x12 (x00 (x02 (qv 3 rfl (Or.inr (Or.inl rfl)))) (x00 (x70 (x02 (qv 4 rfl (Or.inr (Or.inl rfl)))) (x12 (x00 (x12 (x00 (y97 (x07)) (x00 (x07) (x00 (x07) (x03) x04) x04) x8w)) (x03) x0v))) (x03) x0w) x05)) (x00 (x12 (x00 (x02 (qv 3 rfl (Or.inr (Or.inl rfl)))) (x00 (x70 (x02 (qv 4 rfl (Or.inr (Or.inl rfl)))) (x12 (x00 (x12 (x00 (x07) (x00 (x07) (x03) x04) x04)) (x03) x0v))) (x03) x0w) x05)) (x00 (x12 (x00 (x02 (qv 3 rfl (Or.inr (Or.inl rfl)))) (x00 (x70 (x02 (qv 4 rfl (Or.inr (Or.inl rfl)))) (x12 (x00 (x12 (x00 (x07) (x00 (x07) (x00 (x6y) (x03) x04) x04) x04)) (x03) x0v))) (x03) x0w) x05)) (x03) x0v) x0v) x0v))))
  (x08 (x1u (x3w (qv 6 rfl (Or.inl rfl)) (x00 (x12 (x00 (x02 (qv 3 rfl (Or.inr (Or.inl rfl)))) (x00 (x70 (x02 (qv 4 rfl (Or.inr (Or.inl rfl)))) (x12 (x00 (x12 (x00 (x07) (x00 (x07) (x00 (x70 (x02 (qv 5 rfl (Or.inl rfl))) (x12 (x00 (x07) (x03) x04))) (x03) x0w) x04) x04)) (x03) x0v))) (x03) x0w) x05)) (x03) x0v)))
  (x08 (x0s (i:=7) x45.nd rfl (Or.inl rfl) (x1w (x00 (x7y B.m_list PyProof.Rows.boot_list (x00 (x02 (qv 1 rfl (Or.inl rfl))) (x03) x05)) (x00 (x12 (x03)) (x00 (x6y) (x00 (x07) (x00 (x1g (qv 1 rfl (Or.inl rfl)) (x07)) (x00 (x70 (x02 (qv 1 rfl (Or.inl rfl))) (x12 (x00 (x6y) (x03) x04))) (x00 (x12 (x00 (x02 (qv 1 rfl (Or.inl rfl))) (x03) x05)) (x03) x0v) x0w) x0r) x04) x04) x0v) x0n)))
  (x08 (x2i (x77 hr (x7q (x02 (qv 2 rfl (Or.inl rfl))) (x07)) (x07)) (x0c (x0i (x1g (qv 7 rfl (Or.inl rfl)) (x7q (y3z (x02 (qv 2 rfl (Or.inl rfl))) (x07)) (x07))))) (x1q))
  (x0c (x0i (x70 (x12 (x00 (x1g (qv 6 rfl (Or.inl rfl)) (x7q (y3z (x02 (qv 2 rfl (Or.inl rfl))) (x07)) (x07))) (x03) x0r)) (j66 (x02 (qv 1 rfl (Or.inl rfl))) (z2i (x07)) (z4l))))))))))))))
noncomputable abbrev y1s:x1d:=x7m (x4v (y0i 2)) (x0m 4) (x2b (y3o 2 (x2l 1 (x4v (eIx (x1z 0 (x06 4)) (eC (.int 1)))) (x0m 5) (y0b (x6t (y3p .int (x1z 5 (eC (.int 2))))) (x2n (x4x (x1z 5 (eC (.int 2))) 2))) (x1z 5 (eC (.int 2))) false)))
noncomputable abbrev x75:x1d:=x2b (y3o 2 (x2l 1 (x4v (eIx (x1z 0 (x06 4)) (eC (.int 1)))) (x0m 5) (y0b (x6t (y3p .int (x1z 5 (eC (.int 2))))) (x2n (x4x (x1z 5 (eC (.int 2))) 2))) (x1z 5 (eC (.int 2))) false))
noncomputable def x8e:x1d:=x1i (x2r 2 (x2l 1 (x4v (eIx (x1z 0 (x06 1)) (eC (.int 1)))) (x0m 5) (x6t (y3p .int (x1z 5 (eC (.int 2))))) (x1z 5 (eC (.int 2))) false))
 (x1i (x7m (x4v (x06 0)) (x0m 3) (x7m (x4v (y0i 2)) (x0m 4) (x2b (y3o 2 (x2l 1 (x4v (eIx (x1z 0 (x06 4)) (eC (.int 1)))) (x0m 5) (y0b (x6t (y3p .int (x1z 5 (eC (.int 2))))) (x2n (x4x (x1z 5 (eC (.int 2))) 2))) (x1z 5 (eC (.int 2))) false)))))
 (x35 (x46 (x06 2))))
noncomputable def x1m:List D->Option (D × Nat):=fnD 5 (x8e)
theorem x47:FnScope ["_law_program_here","_law_number","_law_found","_law_again","_law_one"] ["_law_program_here","_law_number"] (x0b (top 56)):=⟨rfl,rfl,rfl,by decide +kernel,rfl,by decide +kernel,by decide +kernel⟩
noncomputable abbrev x50:List Str:=["_law_program_here","_law_number","_law_found","_law_again","_law_one","_law_way"]
theorem x65:(x50).Nodup:=by decide +kernel
theorem y3b (B:Bt mg) (a:At K mg "_law_called" (top 56) ["_law_program_here","_law_number"]):Cal P w K mg base 1 "_law_called" 2 (x1m):=
 Cal.mkQ (k:=0) a x47 fun f cdv A outer s H E hr=>
  x08 (x0s (i:=2) x47.nd rfl (Or.inr rfl) (x2u (k:=1) (N':=x50) false rfl ⟨rfl,by decide +kernel,rfl,rfl,rfl⟩ (x37 (x9w (x1g (qv 0 rfl (Or.inl rfl)) (x02 (qv 1 rfl (Or.inl rfl)))) (x07))) (fun _ _ _ _=>x0l (i:=5) (show 5<=5 by decide) x65 rfl (Or.inl rfl) (Or.inr rfl)) (fun _ _ _ _=>x5r (x2v (x7v .int B.m_isinstance B.m_int PyProof.Rows.boot_int (x1g (qv 5) (x07))))) (fun _ _ _ _=>x1g (qv 5) (x07))))
  (x08 (x2o PassesOwn.never rfl (x37 (x02 (qv 0 rfl (Or.inl rfl)))) (x0l (i:=3) (show 0<=3 by decide) x47.nd rfl (Or.inl rfl)) (x0c (x2o PassesOwn.never rfl (x37 (z3n B.m_list PyProof.Rows.boot_list (qv 2 rfl (Or.inr (Or.inl rfl))))) (x0l (i:=4) (show 0<=4 by decide) x47.nd rfl (Or.inl rfl)) (x0c (x1u (x4g (qv 2 rfl (Or.inr (Or.inl rfl))) (x2u (k:=1) (N':=x50) false rfl ⟨rfl,by decide +kernel,rfl,rfl,rfl⟩ (x37 (x9w (x1g (qv 0 rfl (Or.inl rfl)) (x02 (qv 4 rfl (Or.inl rfl)))) (x07))) (fun _ _ _ _=>x0l (i:=5) (show 5<=5 by decide) x65 rfl (Or.inl rfl) (Or.inr rfl)) (fun _ _ _ _=>x5r (y4r (z77 (x2v (x7v .int B.m_isinstance B.m_int PyProof.Rows.boot_int (x1g (qv 5) (x07)))) (z48 (y92 hr (x1g (qv 5) (x07)) (qv 2)))))) (fun _ _ _ _=>x1g (qv 5) (x07)))))))))
  (x0c (x0i (x8y rfl B.m_sorted B.m_set (x02 (qv 2 rfl (Or.inr (Or.inl rfl))))))))
noncomputable def y5n:x1d:=x1i (x2r 1 (x4n (x01 (z2h ["NoHouse","NoPlace"] "NoHouse" (x06 0)) (x01 (z2h ["NoHouse","NoPlace"] "NoMap" (x06 0)) (x01 (z2h ["NoHouse","NoPlace"] "NoPlace" (x06 0)) (x01 (z2h ["NoHouse","NoPlace"] "NoRule" (x06 0)) (x0d)))))))
 (x1i (x2b (y3o 1 (x4n (x01 (z2h ["NoHouse","NoPlace"] "NoStep" (x06 0)) (x01 (z2h ["NoHouse","NoPlace"] "TooGreat" (x06 0)) (x0d))))))
 (x1i (sIf (z0t (x2n (e2 dNe (j48 (x06 1) (x01 (eC (.bl true)) (x0d))) (eC (.int 1)))) (x4h (x6t (j4h (x06 0))))) (x35 (eC (.str "wrong"))) (x6h))
 (x35 (eIx (x4n (x01 (eC (.str "no house")) (x01 (eC (.str "no map")) (x01 (eC (.str "no place")) (x01 (eC (.str "no rule")) (x01 (eC (.str "no step")) (x01 (eC (.str "too great")) (x0d)))))))) (y35 (x06 1) (x01 (eC (.bl true)) (x0d)))))))
noncomputable def x5o:List D->Option (D × Nat):=fnD 2 (y5n)
theorem x9i:FnScope ["_law_kept","_law_kinds"] ["_law_kept"] (x0b (top 54)):=⟨rfl,rfl,rfl,by decide +kernel,rfl,by decide +kernel,by decide +kernel⟩
theorem y5g (B:Bt mg) (T:Xt K mg) (a:At K mg "_law_word" (top 54) ["_law_kept"]):Cal P w K mg base 1 "_law_word" 1 (x5o):=
 Cal.mkQ (k:=0) a x9i fun f cdv A outer s H E hr=>
  x08 (x0s (i:=1) x9i.nd rfl (Or.inl rfl) (x1w (x00 (y24 T.i_NoHouse B.m_isinstance (x02 (qv 0 rfl (Or.inl rfl)))) (x00 (y24 T.i_NoMap B.m_isinstance (x02 (qv 0 rfl (Or.inl rfl)))) (x00 (y24 T.i_NoPlace B.m_isinstance (x02 (qv 0 rfl (Or.inl rfl)))) (x00 (y24 T.i_NoRule B.m_isinstance (x02 (qv 0 rfl (Or.inl rfl)))) (x03) x0n) x0n) x0n) x0n)))
  (x08 (x1u (x4g (qv 1 rfl (Or.inl rfl)) (x1w (x00 (y24 T.i_NoStep B.m_isinstance (x02 (qv 0 rfl (Or.inl rfl)))) (x00 (y24 T.i_TooGreat B.m_isinstance (x02 (qv 0 rfl (Or.inl rfl)))) (x03) x0n) x0n))))
  (x08 (x2i (y4r (x9g (y1a hr (z8l hr (x02 (qv 1 rfl (Or.inl rfl))) (x00 (x57) (x03) x04)) (x07)) (x7g (x3p (x2v (j15 B.m_isinstance B.m_ValueError (x02 (qv 0 rfl (Or.inl rfl))))))))) (x0c (x0i (x8d))) (x1q))
  (x0c (x0i (x9w (x1w (x00 (x8d) (x00 (x8d) (x00 (x8d) (x00 (x8d) (x00 (x8d) (x00 (x8d) (x03) x04) x04) x04) x04) x04) x04)) (z0y hr (x02 (qv 1 rfl (Or.inl rfl))) (x00 (x57) (x03) x04)))))))
noncomputable def x59:x1d:=sIf (x4h (x6t (x0f x0g 2 (x01 (x06 1) (x01 (x15 0) (x0d)))))) (y6m) (x6h)
noncomputable def x1b:List D->Option (D × Nat):=fnD 2 (x59)
theorem x4p:FnScope ["program","number"] ["program","number"] (x0b (top 35)):=⟨rfl,rfl,rfl,by decide +kernel,rfl,by decide +kernel,by decide +kernel⟩
theorem x8u (B:Bt mg) (c_is_number_of:Cal P w K mg base 2 "is_number_of" 2 x0g) (a:At K mg "refuse_no_house" (top 35) ["program","number"]):Cal P w K mg base 3 "refuse_no_house" 2 (x1b):=
 Cal.mkQ (k:=2) a x4p fun f cdv A outer s H E hr=>
  x0c (x2i (x3p (x2v (x09 c_is_number_of hr (by decide) (x00 (x02 (qv 1 rfl (Or.inl rfl))) (x00 (x16 B.m_len (qv 0 rfl (Or.inl rfl))) (x03) x0n) x05)))) (x0c (y4t)) (x1q))
noncomputable def x8r:x4o:=z25 (x4h (x6t (x0f x0g 2 (x01 (x06 1) (x01 (x15 0) (x0d)))))) (y6l "NoHouse") (z4s)
noncomputable def x0z:List D->Option Str:=fnX 2 x8r
theorem x8h (B:Bt mg) (T:Xt K mg) (c_is_number_of:Cal P w K mg base 2 "is_number_of" 2 x0g) (a:At K mg "refuse_no_house" (top 35) ["program","number"]):x8k P w K mg base 3 "refuse_no_house" 2 x0z:=
 x8k.mkQ (k:=2) a x4p fun f cdv A outer s H E hr=>
  x48 (z0j (x3p (x2v (x09 c_is_number_of hr (by decide) (x00 (x02 (qv 1 rfl (Or.inl rfl))) (x00 (x16 B.m_len (qv 0 rfl (Or.inl rfl))) (x03) x0n) x05)))) (x48 (y4m hr T.x_NoHouse)) (y6u))
noncomputable def x5v:x1d:=x1i (x2r 1 (x4n (x0d)))
 (x1i (x7m (y84 (x01 (x06 0) (x0d))) (z5l (x2j (x0m 2) (x2j (x0m 3) (y1t)))) (x2b (y3o 1 (x2l 1 (x4v (x1z 3 (eC (.int 1)))) (x0m 4) (x6t (x0f x23 1 (x01 (x1z 4 (eC (.int 2))) (x0d)))) (x34 (x01 (x06 2) (x01 (x1z 4 (eC (.int 2))) (x01 (eC .non) (x0d))))) false))))
 (x35 (x34 (x01 (x15 0) (x01 (x4c (x01 (x06 1) (x0d))) (x01 (x34 (x0d)) (x0d)))))))
noncomputable def x1k:List D->Option (D × Nat):=fnD 4 (x5v)
theorem x30:FnScope ["program","calls","number","house"] ["program"] (x0b (top 37)):=⟨rfl,rfl,rfl,by decide +kernel,rfl,by decide +kernel,by decide +kernel⟩
noncomputable abbrev x5a:List Str:=["program","calls","number","house","way"]
theorem x8b:(x5a).Nodup:=by decide +kernel
theorem x9t (B:Bt mg) (c_is_whole:Cal P w K mg base 1 "is_whole" 1 x23) (a:At K mg "chart_of_calls" (top 37) ["program"]):Cal P w K mg base 2 "chart_of_calls" 1 (x1k):=
 Cal.mkQ (k:=1) a x30 fun f cdv A outer s H E hr=>
  x08 (x0s (i:=1) x30.nd rfl (Or.inl rfl) (x1w (x03)))
  (x08 (x2o PassesOwn.never rfl (z35 B.m_enumerate (x00 (x02 (qv 0 rfl (Or.inl rfl))) (x03) x05)) (y5m (n:=2) rfl (x4l (x0l (i:=2) (show 0<=2 by decide) x30.nd rfl (Or.inr rfl)) (x4l (x0l (i:=3) (show 0<=3 by decide) x30.nd rfl (Or.inl rfl)) (y34))) z1c) (x0c (x1u (x4g (qv 1 rfl (Or.inl rfl)) (x2u (k:=1) (N':=x5a) false rfl ⟨rfl,by decide +kernel,rfl,rfl,rfl⟩ (x37 (x1g (qv 3 rfl (Or.inl rfl)) (x07))) (fun _ _ _ _=>x0l (i:=4) (show 4<=4 by decide) x8b rfl (Or.inl rfl) (Or.inr rfl)) (fun _ _ _ _=>x5r (x2v (x09 c_is_whole hr (by decide) (x00 (x1g (qv 4) (x07)) (x03) x0r)))) (fun _ _ _ _=>x12 (x00 (x02 (qv 2)) (x00 (x1g (qv 4) (x07)) (x00 (x6y) (x03) x04) x0r) x05)))))))
  (x0c (x0i (x12 (x00 (x16 B.m_len (qv 0 rfl (Or.inl rfl))) (x00 (x5i B.m_tuple PyProof.Rows.boot_tuple (x00 (x02 (qv 1 rfl (Or.inl rfl))) (x03) x05)) (x00 (x12 (x03)) (x03) x0v) x0n) x0n)))))
noncomputable def x9e:x1d:=x35 (x2l 3 (x4v (x1z 0 (eC (.int 1)))) (z5l (x2j (x0m 2) (x2j (x0m 3) (x2j (x0m 4) (y1t))))) (x2n (e2 dIn (x06 2) (x06 1))) (x06 3) false)
noncomputable def x1p:List D->Option (D × Nat):=fnD 2 (x9e)
theorem y38:FnScope ["chart","places"] ["chart","places"] (x0b (top 28)):=⟨rfl,rfl,rfl,by decide +kernel,rfl,by decide +kernel,by decide +kernel⟩
noncomputable abbrev x85:List Str:=["chart","places","start","goal","rule"]
theorem x51:(x85).Nodup:=by decide +kernel
theorem y54 (B:Bt mg) (a:At K mg "goals_from" (top 28) ["chart","places"]):Cal P w K mg base 1 "goals_from" 2 (x1p):=
 Cal.mkQ (k:=0) a y38 fun f cdv A outer s H E hr=>
  x0c (x0i (x2u (k:=3) (N':=x85) false rfl ⟨rfl,by decide +kernel,rfl,rfl,rfl⟩ (x37 (x1g (qv 0 rfl (Or.inl rfl)) (x07))) (fun _ _ _ _=>y5m (n:=3) rfl (x4l (x0l (i:=2) (show 2<=2 by decide) x51 rfl (Or.inl rfl) (Or.inr rfl)) (x4l (x0l (i:=3) (show 2<=3 by decide) x51 rfl (Or.inl rfl) (Or.inr rfl)) (x4l (x0l (i:=4) (show 2<=4 by decide) x51 rfl (Or.inl rfl) (Or.inr rfl)) (y34)))) z6n) (fun _ _ _ _=>x5r (z5u hr (x02 (qv 2)) (x02 (qv 1)))) (fun _ _ _ _=>x02 (qv 3))))
noncomputable def x8i:x1d:=x1i (x2r 2 (x06 1))
 (x1i (x2r 3 (eC .non))
 (x1i (y70 (x2n (e2 dNe (x06 2) (x06 3))) (x1i (x2r 3 (x06 2))
 (x2r 2 (x46 (y4d (x06 3) (x0f x1p 2 (x01 (x06 0) (x01 (x06 3) (x0d)))))))))
 (x35 (x06 2))))
noncomputable def x33:List D->Option (D × Nat):=fnD 4 (x8i)
theorem x3c:FnScope ["chart","places","reached","ahead"] ["chart","places"] (x0b (top 29)):=⟨rfl,rfl,rfl,by decide +kernel,rfl,by decide +kernel,by decide +kernel⟩
theorem y2r (B:Bt mg) (c_goals_from:Cal P w K mg base 1 "goals_from" 2 x1p) (a:At K mg "all_reached" (top 29) ["chart","places"]):Cal P w K mg base 2 "all_reached" 2 (x33):=
 Cal.mkQ (k:=1) a x3c fun f cdv A outer s H E hr=>
  x08 (x0s (i:=2) x3c.nd rfl (Or.inl rfl) (x02 (qv 1 rfl (Or.inl rfl))))
  (x08 (x0s (i:=3) x3c.nd rfl (Or.inl rfl) (x6y))
  (x08 (y9z PassesOwn.never (y1a hr (x02 (qv 2 rfl (Or.inl rfl))) (x02 (qv 3 rfl (Or.inl rfl)))) (x08 (x0s (i:=3) x3c.nd rfl (Or.inl rfl) (x02 (qv 2 rfl (Or.inl rfl))))
  (x0c (x0s (i:=2) x3c.nd rfl (Or.inl rfl) (x8y rfl B.m_sorted B.m_set (z93 (x02 (qv 3 rfl (Or.inl rfl))) (x09 c_goals_from hr (by decide) (x00 (x02 (qv 0 rfl (Or.inl rfl))) (x00 (x02 (qv 3 rfl (Or.inl rfl))) (x03) x05) x05))))))))
  (x0c (x0i (x02 (qv 2 rfl (Or.inl rfl)))))))
noncomputable def x55:x1d:=sIf (x4h (x6t (x0f x0g 2 (x01 (x06 1) (x01 (x06 0) (x0d)))))) (y6m) (x6h)
noncomputable def x29:List D->Option (D × Nat):=fnD 2 (x55)
theorem x4t:FnScope ["places","place"] ["places","place"] (x0b (top 25)):=⟨rfl,rfl,rfl,by decide +kernel,rfl,by decide +kernel,by decide +kernel⟩
theorem x8n (B:Bt mg) (c_is_number_of:Cal P w K mg base 2 "is_number_of" 2 x0g) (a:At K mg "refuse_no_place" (top 25) ["places","place"]):Cal P w K mg base 3 "refuse_no_place" 2 (x29):=
 Cal.mkQ (k:=2) a x4t fun f cdv A outer s H E hr=>
  x0c (x2i (x3p (x2v (x09 c_is_number_of hr (by decide) (x00 (x02 (qv 1 rfl (Or.inl rfl))) (x00 (x02 (qv 0 rfl (Or.inl rfl))) (x03) x05) x05)))) (x0c (y4t)) (x1q))
noncomputable def x8p:x4o:=z25 (x4h (x6t (x0f x0g 2 (x01 (x06 1) (x01 (x06 0) (x0d)))))) (y6l "NoPlace") (z4s)
noncomputable def x2p:List D->Option Str:=fnX 2 x8p
theorem x7x (B:Bt mg) (T:Xt K mg) (c_is_number_of:Cal P w K mg base 2 "is_number_of" 2 x0g) (a:At K mg "refuse_no_place" (top 25) ["places","place"]):x8k P w K mg base 3 "refuse_no_place" 2 x2p:=
 x8k.mkQ (k:=2) a x4t fun f cdv A outer s H E hr=>
  x48 (z0j (x3p (x2v (x09 c_is_number_of hr (by decide) (x00 (x02 (qv 1 rfl (Or.inl rfl))) (x00 (x02 (qv 0 rfl (Or.inl rfl))) (x03) x05) x05)))) (x48 (y4m hr T.x_NoPlace)) (y6u))
noncomputable def y2a:x1d:=x1i (x2b (x0f x29 2 (x01 (x1z 0 (eC (.int 0))) (x01 (x06 1) (x0d)))))
 (x35 (x46 (x0f x1p 2 (x01 (x06 0) (x01 (x4n (x01 (x06 1) (x0d))) (x0d))))))
noncomputable def x53:List D->Option (D × Nat):=fnD 2 (y2a)
theorem y13:FnScope ["chart","place"] ["chart","place"] (x0b (top 27)):=⟨rfl,rfl,rfl,by decide +kernel,rfl,by decide +kernel,by decide +kernel⟩
theorem y7w (B:Bt mg) (c_refuse_no_place:Cal P w K mg base 3 "refuse_no_place" 2 x29) (c_goals_from:Cal P w K mg base 1 "goals_from" 2 x1p) (a:At K mg "goals_of" (top 27) ["chart","place"]):Cal P w K mg base 4 "goals_of" 2 (x53):=
 Cal.mkQ (k:=3) a y13 fun f cdv A outer s H E hr=>
  x08 (x1u (x09 c_refuse_no_place hr (by decide) (x00 (x1g (qv 0 rfl (Or.inl rfl)) (x07)) (x00 (x02 (qv 1 rfl (Or.inl rfl))) (x03) x05) x0r)))
  (x0c (x0i (x8y rfl B.m_sorted B.m_set (x09 c_goals_from hr (by decide) (x00 (x02 (qv 0 rfl (Or.inl rfl))) (x00 (x1w (x00 (x02 (qv 1 rfl (Or.inl rfl))) (x03) x05)) (x03) x7b) x05)))))
noncomputable def y86:x4o:=y14 x2p 2 (x01 (x1z 0 (eC (.int 0))) (x01 (x06 1) (x0d)))
noncomputable def x7e:List D->Option Str:=fnX 2 y86
theorem y6a (B:Bt mg) (T:Xt K mg) (cx_refuse_no_place:x8k P w K mg base 3 "refuse_no_place" 2 x2p) (a:At K mg "goals_of" (top 27) ["chart","place"]):x8k P w K mg base 4 "goals_of" 2 x7e:=
 x8k.mkQ (k:=3) a y13 fun f cdv A outer s H E hr=>
  x48 (y6p (y04 cx_refuse_no_place hr (by decide) (x00 (x1g (qv 0 rfl (Or.inl rfl)) (x07)) (x00 (x02 (qv 1 rfl (Or.inl rfl))) (x03) x05) x0r)))
noncomputable def y1b:x1d:=x1i (x2b (x0f x1b 2 (x01 (x06 0) (x01 (x06 1) (x0d)))))
 (x1i (x2r 2 (x0f x1k 1 (x01 (x06 0) (x0d))))
 (x35 (x0f x33 2 (x01 (x06 2) (x01 (x0f x53 2 (x01 (x06 2) (x01 (x06 1) (x0d)))) (x0d))))))
noncomputable def x2s:List D->Option (D × Nat):=fnD 3 (y1b)
theorem x4q:FnScope ["program","number","chart"] ["program","number"] (x0b (top 36)):=⟨rfl,rfl,rfl,by decide +kernel,rfl,by decide +kernel,by decide +kernel⟩
theorem y6h (B:Bt mg) (c_refuse_no_house:Cal P w K mg base 3 "refuse_no_house" 2 x1b) (c_chart_of_calls:Cal P w K mg base 2 "chart_of_calls" 1 x1k) (c_all_reached:Cal P w K mg base 2 "all_reached" 2 x33) (c_goals_of:Cal P w K mg base 4 "goals_of" 2 x53) (a:At K mg "called_by" (top 36) ["program","number"]):Cal P w K mg base 5 "called_by" 2 (x2s):=
 Cal.mkQ (k:=4) a x4q fun f cdv A outer s H E hr=>
  x08 (x1u (x09 c_refuse_no_house hr (by decide) (x00 (x02 (qv 0 rfl (Or.inl rfl))) (x00 (x02 (qv 1 rfl (Or.inl rfl))) (x03) x05) x05)))
  (x08 (x0s (i:=2) x4q.nd rfl (Or.inl rfl) (x09 c_chart_of_calls hr (by decide) (x00 (x02 (qv 0 rfl (Or.inl rfl))) (x03) x05)))
  (x0c (x0i (x09 c_all_reached hr (by decide) (x00 (x02 (qv 2 rfl (Or.inl rfl))) (x00 (x09 c_goals_of hr (by decide) (x00 (x02 (qv 2 rfl (Or.inl rfl))) (x00 (x02 (qv 1 rfl (Or.inl rfl))) (x03) x05) x05)) (x03) x0n) x05)))))
noncomputable def x7a:x4o:=xOr (y14 x0z 2 (x01 (x06 0) (x01 (x06 1) (x0d)))) (z6i (x2b (x0f x1b 2 (x01 (x06 0) (x01 (x06 1) (x0d))))) (z6i (x2r 2 (x0f x1k 1 (x01 (x06 0) (x0d)))) (xTl (x06 2) (y14 x7e 2 (x01 (x06 2) (x01 (x06 1) (x0d)))))))
noncomputable def x0y:List D->Option Str:=fnX 3 x7a
theorem y3y (B:Bt mg) (T:Xt K mg) (c_all_reached:Cal P w K mg base 2 "all_reached" 2 x33) (c_chart_of_calls:Cal P w K mg base 2 "chart_of_calls" 1 x1k) (c_refuse_no_house:Cal P w K mg base 3 "refuse_no_house" 2 x1b) (cx_refuse_no_house:x8k P w K mg base 3 "refuse_no_house" 2 x0z) (cx_goals_of:x8k P w K mg base 4 "goals_of" 2 x7e) (a:At K mg "called_by" (top 36) ["program","number"]):x8k P w K mg base 5 "called_by" 2 x0y:=
 x8k.mkQ (k:=4) a x4q fun f cdv A outer s H E hr=>
  j2x (x48 (y6p (y04 cx_refuse_no_house hr (by decide) (x00 (x02 (qv 0 rfl (Or.inl rfl))) (x00 (x02 (qv 1 rfl (Or.inl rfl))) (x03) x05) x05)))) (z1r (x1u (x09 c_refuse_no_house hr (by decide) (x00 (x02 (qv 0 rfl (Or.inl rfl))) (x00 (x02 (qv 1 rfl (Or.inl rfl))) (x03) x05) x05))) (z1r (x0s (i:=2) x4q.nd rfl (Or.inl rfl) (x09 c_chart_of_calls hr (by decide) (x00 (x02 (qv 0 rfl (Or.inl rfl))) (x03) x05))) (x48 (z14 (z80 c_all_reached hr (by decide) (j1h (x02 (qv 2 rfl (Or.inl rfl))) (j21 (y04 cx_goals_of hr (by decide) (x00 (x02 (qv 2 rfl (Or.inl rfl))) (x00 (x02 (qv 1 rfl (Or.inl rfl))) (x03) x05) x05)))))))))
noncomputable def x6z:x1d:=x35 (e2 dIn (x06 1) (x0f x2s 2 (x01 (x06 0) (x01 (x06 1) (x0d)))))
noncomputable def x2m:List D->Option (D × Nat):=fnD 2 (x6z)
theorem x64:FnScope ["program","number"] ["program","number"] (x0b (top 38)):=⟨rfl,rfl,rfl,by decide +kernel,rfl,by decide +kernel,by decide +kernel⟩
theorem y1h (B:Bt mg) (c_called_by:Cal P w K mg base 5 "called_by" 2 x2s) (a:At K mg "calls_itself" (top 38) ["program","number"]):Cal P w K mg base 6 "calls_itself" 2 (x2m):=
 Cal.mkQ (k:=5) a x64 fun f cdv A outer s H E hr=>
  x0c (x0i (j0h hr (x02 (qv 1 rfl (Or.inl rfl))) (x09 c_called_by hr (by decide) (x00 (x02 (qv 0 rfl (Or.inl rfl))) (x00 (x02 (qv 1 rfl (Or.inl rfl))) (x03) x05) x05))))
noncomputable def y1n:x4o:=xTl (x06 1) (y14 x0y 2 (x01 (x06 0) (x01 (x06 1) (x0d))))
noncomputable def x0u:List D->Option Str:=fnX 2 y1n
theorem y0x (B:Bt mg) (T:Xt K mg) (cx_called_by:x8k P w K mg base 5 "called_by" 2 x0y) (a:At K mg "calls_itself" (top 38) ["program","number"]):x8k P w K mg base 6 "calls_itself" 2 x0u:=
 x8k.mkQ (k:=5) a x64 fun f cdv A outer s H E hr=>
  x48 (z14 (j2d hr (x02 (qv 1 rfl (Or.inl rfl))) (y04 cx_called_by hr (by decide) (x00 (x02 (qv 0 rfl (Or.inl rfl))) (x00 (x02 (qv 1 rfl (Or.inl rfl))) (x03) x05) x05))))
noncomputable def x5y:x1d:=x1i (x2r 3 (eC .non))
 (x1i (x2r 4 (eC .non))
 (x1i (y8d ["NoHouse","NoPlace"] (x2r 4 (eIf (x2n (e2 dEq (x06 0) (eC (.int 0)))) (x0f x2s 2 (x01 (x06 1) (x01 (x06 2) (x0d)))) (x0f x2m 2 (x01 (x06 1) (x01 (x06 2) (x0d)))))) (yIf (x2n (e2 dEq (x06 0) (eC (.int 0)))) (x6v x0y 2 (x01 (x06 1) (x01 (x06 2) (x0d)))) (x6v x0u 2 (x01 (x06 1) (x01 (x06 2) (x0d))))) 5 3)
 (x1i (sIf (x2n (e2 j2v (x06 3) (eC .non))) (x35 (x06 4)) (x6h))
 (x35 (x0f x5o 1 (x01 (x06 3) (x0d)))))))
noncomputable def x17:List D->Option (D × Nat):=fnD 6 (x5y)
theorem x3t:FnScope ["_law_what","_law_program_here","_law_number","_law_kept","_law_answer","e"] ["_law_what","_law_program_here","_law_number"] (x0b (top 55)):=⟨rfl,rfl,rfl,by decide +kernel,rfl,by decide +kernel,by decide +kernel⟩
theorem y3u (B:Bt mg) (T:Xt K mg) (c_called_by:Cal P w K mg base 5 "called_by" 2 x2s) (c_calls_itself:Cal P w K mg base 6 "calls_itself" 2 x2m) (c__law_word:Cal P w K mg base 1 "_law_word" 1 x5o) (cx_called_by:x8k P w K mg base 5 "called_by" 2 x0y) (cx_calls_itself:x8k P w K mg base 6 "calls_itself" 2 x0u) (a:At K mg "_law_tried" (top 55) ["_law_what","_law_program_here","_law_number"]):Cal P w K mg base 7 "_law_tried" 3 (x17):=
 Cal.mkQ (k:=6) a x3t fun f cdv A outer s H E hr=>
  x08 (x0s (i:=3) x3t.nd rfl (Or.inl rfl) (x6y))
  (x08 (x0s (i:=4) x3t.nd rfl (Or.inl rfl) (x6y))
  (x08 (z22 (ie:=5) (ik:=3) T.u (x0c (x0s (i:=4) x3t.nd rfl (Or.inl rfl) (y7g (x77 hr (x02 (qv 0 rfl (Or.inl rfl))) (x07)) (x09 c_called_by hr (by decide) (x00 (x02 (qv 1 rfl (Or.inl rfl))) (x00 (x02 (qv 2 rfl (Or.inl rfl))) (x03) x05) x05)) (x09 c_calls_itself hr (by decide) (x00 (x02 (qv 1 rfl (Or.inl rfl))) (x00 (x02 (qv 2 rfl (Or.inl rfl))) (x03) x05) x05))))) (z6w (z9b cx_called_by cx_calls_itself hr (by decide) (by decide) (x77 hr (x02 (qv 0 rfl (Or.inl rfl))) (x07)) (x00 (x02 (qv 1 rfl (Or.inl rfl))) (x00 (x02 (qv 2 rfl (Or.inl rfl))) (x03) x05) x05) (x00 (x02 (qv 1 rfl (Or.inl rfl))) (x00 (x02 (qv 2 rfl (Or.inl rfl))) (x03) x05) x05))) x3t.nd rfl rfl)
  (x08 (x2i (z73 (x02 (qv 3 rfl (Or.inl rfl))) (x6y)) (x0c (x0i (x02 (qv 4 rfl (Or.inl rfl))))) (x1q))
  (x0c (x0i (x09 c__law_word hr (by decide) (x00 (x02 (qv 3 rfl (Or.inl rfl))) (x03) x05)))))))
noncomputable abbrev x6k:x1d:=x1i (x2r 5 (x4n (x01 (eC (.str "no house")) (x01 (eC (.str "no house")) (x0d)))))
 (x1i (sIf (x2n (eCh dLe dLt (eC (.int 0)) (x06 4) (x15 2))) (x2r 5 (x4n (x01 (x0f x1m 2 (x01 (x06 2) (x01 (x06 4) (x0d)))) (x01 (e2 dIn (x06 4) (x0f x1m 2 (x01 (x06 2) (x01 (x06 4) (x0d))))) (x0d))))) (x6h))
 (sIf (x2n (e2 dNe (x2l 1 (x1f (x01 (eC (.int 2)) (x0d))) (x0m 6) (x38) (x0f x17 3 (x01 (x06 6) (x01 (x06 2) (x01 (x06 4) (x0d))))) false) (x06 5))) (x35 (eC (.bl false))) (x6h)))
noncomputable def y0h:x1d:=x1i (x2r 1 (x0f x3o 2 (x01 (x06 0) (x01 (eC (.int 0)) (x0d)))))
 (x1i (x2r 2 (x0f x3a 3 (x01 (x06 0) (x01 (eC (.int 20)) (x01 (x06 1) (x0d))))))
 (x1i (sIf (x2n (e2 y26 (x0f x1v 2 (x01 (x06 1) (x01 (x06 2) (x0d)))) (eC (.bl true)))) (x35 (eC (.bl false))) (x6h))
 (x1i (sIf (x2n (e2 y26 (x0f x1v 2 (x01 (x06 1) (x01 (x0f x3j 3 (x01 (x06 1) (x01 (x06 2) (x01 (x0f x0a 3 (x01 (x06 0) (x01 (eC (.int 500)) (x01 (e2 j49 (eC (.int 10)) (eC (.int 6))) (x0d))))) (x0d))))) (x0d)))) (eC (.bl false)))) (x35 (eC (.bl false))) (x6h))
 (x1i (x2r 3 (e2 x2g (eC (.int 4)) (x0f x0a 3 (x01 (x06 0) (x01 (eC (.int 501)) (x01 (eC (.int 2)) (x0d)))))))
 (x1i (sIf (x2n (e2 dNe (x0f x1v 2 (x01 (x06 1) (x01 (y88 (x34 (x01 (x34 (x01 (eC (.int 1)) (x01 (x34 (x0d)) (x0d)))) (x0d))) (x06 3)) (x0d)))) (e2 dLt (x06 3) (eC (.int 5))))) (x35 (eC (.bl false))) (x6h))
 (x1i (x7m (x97 (x01 (z5v (eC (.int 1))) (x01 (e2 x2g (x15 2) (eC (.int 1))) (x0d)))) (x0m 4) (x1i (x2r 5 (x4n (x01 (eC (.str "no house")) (x01 (eC (.str "no house")) (x0d)))))
 (x1i (sIf (x2n (eCh dLe dLt (eC (.int 0)) (x06 4) (x15 2))) (x2r 5 (x4n (x01 (x0f x1m 2 (x01 (x06 2) (x01 (x06 4) (x0d)))) (x01 (e2 dIn (x06 4) (x0f x1m 2 (x01 (x06 2) (x01 (x06 4) (x0d))))) (x0d))))) (x6h))
 (sIf (x2n (e2 dNe (x2l 1 (x1f (x01 (eC (.int 2)) (x0d))) (x0m 6) (x38) (x0f x17 3 (x01 (x06 6) (x01 (x06 2) (x01 (x06 4) (x0d))))) false) (x06 5))) (x35 (eC (.bl false))) (x6h)))))
 (x35 (eC (.bl true)))))))))
noncomputable def x2x:List D->Option (D × Nat):=fnD 6 (y0h)
theorem x2t:FnScope ["_law_script","_law_ladder_here","_law_program_here","_law_many","_law_number","_law_due"] ["_law_script"] (x0b (top 58)):=⟨rfl,rfl,rfl,by decide +kernel,rfl,by decide +kernel,by decide +kernel⟩
noncomputable abbrev x9o:List Str:=["_law_script","_law_ladder_here","_law_program_here","_law_many","_law_number","_law_due","_law_what"]
theorem y3i:(x9o).Nodup:=by decide +kernel
theorem y5v (B:Bt mg) (c__law_ladder:Cal P w K mg base 4 "_law_ladder" 2 x3o) (c__law_program:Cal P w K mg base 4 "_law_program" 3 x3a) (c_is_program:Cal P w K mg base 8 "is_program" 2 x1v) (c__law_bad:Cal P w K mg base 1 "_law_bad" 3 x3j) (c__law_pick:Cal P w K mg base 2 "_law_pick" 3 x0a) (c__law_called:Cal P w K mg base 1 "_law_called" 2 x1m) (c__law_tried:Cal P w K mg base 7 "_law_tried" 3 x17) (a:At K mg "_law_once" (top 58) ["_law_script"]):Cal P w K mg base 9 "_law_once" 1 (x2x):=
 Cal.mkQ (k:=8) a x2t fun f cdv A outer s H E hr=>
  x08 (x0s (i:=1) x2t.nd rfl (Or.inl rfl) (x09 c__law_ladder hr (by decide) (x00 (x02 (qv 0 rfl (Or.inl rfl))) (x00 (x07) (x03) x04) x05)))
  (x08 (x0s (i:=2) x2t.nd rfl (Or.inr rfl) (x09 c__law_program hr (by decide) (x00 (x02 (qv 0 rfl (Or.inl rfl))) (x00 (x07) (x00 (x02 (qv 1 rfl (Or.inl rfl))) (x03) x05) x04) x05)))
  (x08 (x2i (y4f (x09 c_is_program hr (by decide) (x00 (x02 (qv 1 rfl (Or.inl rfl))) (x00 (x02 (qv 2 rfl (Or.inr (Or.inl rfl)))) (x03) x05) x05)) (x57)) (x0c (x0i (x57))) (x1q))
  (x08 (x2i (y4f (x09 c_is_program hr (by decide) (x00 (x02 (qv 1 rfl (Or.inl rfl))) (x00 (x09 c__law_bad hr (by decide) (x00 (x02 (qv 1 rfl (Or.inl rfl))) (x00 (x02 (qv 2 rfl (Or.inr (Or.inl rfl)))) (x00 (x09 c__law_pick hr (by decide) (x00 (x02 (qv 0 rfl (Or.inl rfl))) (x00 (x07) (x00 (j09 (x07) (x07)) (x03) x0w) x04) x05)) (x03) x0n) x05) x05)) (x03) x0n) x05)) (x57)) (x0c (x0i (x57))) (x1q))
  (x08 (x0s (i:=3) x2t.nd rfl (Or.inl rfl) (x1r (x07) (x09 c__law_pick hr (by decide) (x00 (x02 (qv 0 rfl (Or.inl rfl))) (x00 (x07) (x00 (x07) (x03) x04) x04) x05))))
  (x08 (x2i (y1a hr (x09 c_is_program hr (by decide) (x00 (x02 (qv 1 rfl (Or.inl rfl))) (x00 (z6x (x12 (x00 (x12 (x00 (x07) (x00 (x12 (x03)) (x03) x0v) x04)) (x03) x0v)) (x02 (qv 3 rfl (Or.inl rfl)))) (x03) x0w) x05)) (j06 z3o hLt (x02 (qv 3 rfl (Or.inl rfl))) (x07) (x9l _))) (x0c (x0i (x57))) (x1q))
  (x08 (x2o PassesOwn.never rfl (y8x B.m_range (x00 (y97 (x07)) (x00 (x1r (x16 B.m_len (qv 2 rfl (Or.inr (Or.inl rfl)))) (x07)) (x03) x0w) x8w)) (x0l (i:=4) (show 0<=4 by decide) x2t.nd rfl (Or.inr rfl)) (x08 (x0s (i:=5) x2t.nd rfl (Or.inl rfl) (x1w (x00 (x8d) (x00 (x8d) (x03) x04) x04)))
  (x08 (x2i (y4b (x07) (x02 (qv 4 rfl (Or.inr (Or.inl rfl)))) (x16 B.m_len (qv 2 rfl (Or.inr (Or.inl rfl))))) (x0c (x0s (i:=5) x2t.nd rfl (Or.inl rfl) (x1w (x00 (x09 c__law_called hr (by decide) (x00 (x02 (qv 2 rfl (Or.inr (Or.inl rfl)))) (x00 (x02 (qv 4 rfl (Or.inr (Or.inl rfl)))) (x03) x05) x05)) (x00 (j0h hr (x02 (qv 4 rfl (Or.inr (Or.inl rfl)))) (x09 c__law_called hr (by decide) (x00 (x02 (qv 2 rfl (Or.inr (Or.inl rfl)))) (x00 (x02 (qv 4 rfl (Or.inr (Or.inl rfl)))) (x03) x05) x05))) (x03) y8u) x0n)))) (x1q))
  (x0c (x2i (y1a hr (x2u (k:=1) (N':=x9o) false rfl ⟨rfl,by decide +kernel,rfl,rfl,rfl⟩ (x13 B.m_range (x00 (x07) (x03) x04)) (fun _ _ _ _=>x0l (i:=6) (show 6<=6 by decide) y3i rfl (Or.inl rfl) (Or.inr rfl)) (fun _ _ _ _=>x3d) (fun _ _ _ _=>x09 c__law_tried hr (by decide) (x00 (x02 (qv 6)) (x00 (x02 (qv 2)) (x00 (x02 (qv 4)) (x03) x05) x05) x05))) (x02 (qv 5 rfl (Or.inl rfl)))) (x0c (x0i (x57))) (x1q))))))
  (x0c (x0i (x57)))))))))
noncomputable abbrev y6k:x1d:=x1i (sIf (x4h (x6t (x0f x2x 1 (x01 (x2l 1 (x4v (x06 0)) (x0m 2) (x38) (e2 x2g (x06 2) (e2 y00 (eC (.int 7919)) (x06 1))) false) (x0d))))) (x35 (eC (.bl false))) (x6h))
 (sIf (x2n (e2 dEq (x06 0) (x4n (x0d)))) (y77) (x6h))
noncomputable def j2g:x1d:=x1i (x7m (x1f (x01 (eC (.int 8)) (x0d))) (x0m 1) (x1i (sIf (x4h (x6t (x0f x2x 1 (x01 (x2l 1 (x4v (x06 0)) (x0m 2) (x38) (e2 x2g (x06 2) (e2 y00 (eC (.int 7919)) (x06 1))) false) (x0d))))) (x35 (eC (.bl false))) (x6h))
 (sIf (x2n (e2 dEq (x06 0) (x4n (x0d)))) (y77) (x6h))))
 (x35 (eC (.bl true)))
noncomputable def y7s:List D->Option (D × Nat):=fnD 2 (j2g)
theorem z60:FnScope ["_law_script","_law_turn"] ["_law_script"] (x0b (top 59)):=⟨rfl,rfl,rfl,by decide +kernel,rfl,by decide +kernel,by decide +kernel⟩
noncomputable abbrev z5i:List Str:=["_law_script","_law_turn","_law_cell_here"]
theorem z6z:(z5i).Nodup:=by decide +kernel
theorem z8r (B:Bt mg) (c__law_once:Cal P w K mg base 9 "_law_once" 1 x2x) {f:Addr} {fd:FuncData} (F:Fun K "law" "law" (top 59) f fd):FnOk P w K mg base CX0 10 f fd ["_law_script"] (spD K 1 y7s):=
 z8q (k:=9) F z60 fun f cdv A outer s H E hr=>
  x08 (x2o PassesOwn.never rfl (x13 B.m_range (x00 (x07) (x03) x04)) (x0l (i:=1) (show 0<=1 by decide) z60.nd rfl (Or.inr rfl)) (x08 (x2i (x3p (x2v (x09 c__law_once hr (by decide) (x00 (x2u (k:=1) (N':=z5i) false rfl ⟨rfl,by decide +kernel,rfl,rfl,rfl⟩ (x37 (x02 (qv 0 rfl (Or.inl rfl)))) (fun _ _ _ _=>x0l (i:=2) (show 2<=2 by decide) z6z rfl (Or.inl rfl) (Or.inr rfl)) (fun _ _ _ _=>x3d) (fun _ _ _ _=>x1r (x02 (qv 2)) (x71 (x07) (x02 (qv 1))))) (x03) x40)))) (x0c (x0i (x57))) (x1q))
  (x0c (x2i (x77 hr (x02 (qv 0 rfl (Or.inl rfl))) (x1w (x03))) (x0c (z17)) (x1q)))))
  (x0c (x0i (x57)))
end
noncomputable abbrev scr (ns:List Int):D:=.lst (ns.map D.int)
noncomputable def z4d (ns:List Int) (k:Int):Int:=if k<ns.length then ns.getD k.toNat 0 else if ns=[]then 0 else ns.getD (k % ns.length).toNat 0*31+k
theorem z5n {ns:List Int} {k:Int} (h0:0<=k) (h:k<ns.length):L2.atI (ns.map D.int) k=some (.int (ns.getD k.toNat 0)):=by
 obtain⟨m,rfl⟩:∃ m:Nat,k=Int.ofNat m:=⟨k.toNat,by show k=(k.toNat:Int); omega⟩
 have hk:m<ns.length:=by have:(m:Int)<ns.length:=h; omega
 apply y19
 rw[List.getElem?_map,List.getElem?_eq_getElem hk]
 simp[hk]
theorem j14 (ns:List Int):Sh 1 (scr ns):=.lst fun d m=>by
 obtain⟨x,_,rfl⟩:=List.mem_map.mp m
 exact .int _
theorem z0p (ns:List Int):dEq (scr ns) (.lst [])=some (.bl (decide (ns=[]))):=by
 unfold dEq
 rw[if_pos ⟨(j14 ns).ok,(z3k []).ok⟩]
 cases ns <;> rfl
theorem z75 (ns:List Int) (k:Int) (h0:0<=k):x4f [scr ns,.int k]=some (.int (z4d ns k),9):=by
 unfold x4f y0v z4d
 by_cases h:k<ns.length
 ·simp[h,z5n h0 h,x9r,atD]
 ·by_cases hn:ns=[]
  ·subst hn
   have h':¬ k<0:=by omega
   simp[h',x9r,z0p]
  ·have hp:(0:Int)<ns.length:=by have:=List.length_pos_iff.mpr hn; omega
   have h1:=Int.emod_nonneg k (Int.ne_of_gt hp)
   have h2:=Int.emod_lt_of_pos k hp
   have h3:=z5n h1 h2
   have hp':=List.length_pos_iff.mpr hn
   simp[h,x9r,atD,z0p,hn,hp',h3]
noncomputable def x9a (ns:List Int) (k:Int):Int:=(z4d ns k+6151*(k+1))*40692 % 2147483399
noncomputable def x6x (ns:List Int) (k m:Int):Int:=(x9a ns k*x9a ns k+x9a ns k / 31) % 2147483629 % m
theorem x6f (ns:List Int) (k m:Int) (h0:0<=k) (hm:0<m):x0a [scr ns,.int k,.int m]=some (.int (x6x ns k m),9):=by
 have d0:0<=x9a ns k:=Int.emod_nonneg _ (by decide)
 have d1:x9a ns k<2147483399:=Int.emod_lt_of_pos _ (by decide)
 have g1:-18446744073709551616<x9a ns k:=by omega
 have g2:x9a ns k<18446744073709551616:=by omega
 have hd:(z4d ns k+6151*(k+1))*40692 % 2147483399=x9a ns k:=rfl
 unfold x0a y0c x6x
 simp[z75 ns k h0,hm,hd,g1,g2]
theorem x5j (ns:List Int) (k:Int) {m:Int} (hm:0<m):0<=x6x ns k m:=Int.emod_nonneg _ (Int.ne_of_gt hm)
theorem x6d (ns:List Int) (k:Int) {m:Int} (hm:0<m):x6x ns k m<m:=Int.emod_lt_of_pos _ hm
noncomputable def tf (rows:List (List Nat)) (i j:Nat):Nat:=(rows.getD i []).getD j 0
noncomputable def x3l (rows:List (List Nat)):D:=x3y rows.length (tf rows)
noncomputable def ch (n:Nat):List (List Nat):=(List.range n).map fun i=>(List.range n).map fun j=>max i j
noncomputable def cp (a b:List (List Nat)):List (List Nat):=(List.range (a.length*b.length)).map fun i=>(List.range (a.length*b.length)).map fun j=>tf a (i / b.length) (j / b.length)*b.length+tf b (i % b.length) (j % b.length)
noncomputable def sb (n:Nat):List (List Nat):=(List.range (n+2)).map fun i=>(List.range (n+2)).map fun j=>if i=0\/j=0\/i=j then max i j else n+1
noncomputable def n5:List (List Nat):=[[0,1,2,3,4],[1,1,2,4,4],[2,2,2,4,4],[3,4,4,3,4],[4,4,4,4,4]]
noncomputable def y3w:List (List (List Nat)):=[ch 1,ch 2,ch 3,ch 4,ch 5,cp (ch 2) (ch 2),cp (ch 2) (ch 3),cp (ch 2) (ch 4),sb 0,sb 1,sb 2,sb 3,sb 4,cp (ch 2) (cp (ch 2) (ch 2)),n5]
theorem ch1:x11 [.int 1]=some (x3l (ch 1),1):=by rfl
theorem ch2:x11 [.int 2]=some (x3l (ch 2),1):=by rfl
theorem ch3:x11 [.int 3]=some (x3l (ch 3),1):=by rfl
theorem ch4:x11 [.int 4]=some (x3l (ch 4),1):=by rfl
theorem ch5:x11 [.int 5]=some (x3l (ch 5),1):=by rfl
theorem sb0:x0t [.int 0]=some (x3l (sb 0),0):=by rfl
theorem sb1:x0t [.int 1]=some (x3l (sb 1),0):=by rfl
theorem sb2:x0t [.int 2]=some (x3l (sb 2),0):=by rfl
theorem sb3:x0t [.int 3]=some (x3l (sb 3),0):=by rfl
theorem sb4:x0t [.int 4]=some (x3l (sb 4),0):=by rfl
theorem j6i:x1h [x3l (ch 2),x3l (ch 2)]=some (x3l (cp (ch 2) (ch 2)),0):=by rfl
theorem j7x:x1h [x3l (ch 2),x3l (ch 3)]=some (x3l (cp (ch 2) (ch 3)),0):=by rfl
theorem j7k:x1h [x3l (ch 2),x3l (ch 4)]=some (x3l (cp (ch 2) (ch 4)),0):=by rfl
theorem j59:x1h [x3l (ch 2),x3l (cp (ch 2) (ch 2))]=some (x3l (cp (ch 2) (cp (ch 2) (ch 2))),0):=by rfl
theorem z9d (ns:List Int) (t:Int) (h0:0<=t):∃ rows∈y3w,∃ q,x4e [scr ns,.int t]=some (x3l rows,q):=by
 have k0:=x5j ns t (m:=9) (by decide)
 have k1:=x6d ns t (m:=9) (by decide)
 have p0:=x5j ns (t+1) (m:=5) (by decide)
 have p1:=x6d ns (t+1) (m:=5) (by decide)
 have r0:=x5j ns (t+1) (m:=3) (by decide)
 have r1:=x6d ns (t+1) (m:=3) (by decide)
 have e9:=x6f ns t 9 h0 (by decide)
 have e5:=x6f ns (t+1) 5 (by omega) (by decide)
 have e3:=x6f ns (t+1) 3 (by omega) (by decide)
 have mem:∀ i:Nat,i<15->y3w.getD i []∈y3w:=fun i hi=>by
  rw[List.getD_eq_getElem?_getD,List.getElem?_eq_getElem (show i<y3w.length from hi)]
  exact List.getElem_mem _
 have hc:∀ p:Int,0<=p->p<5->∃ rows∈y3w,x11 [.int (1+p)]=some (x3l rows,1):=fun p a b=>by
  have:p=0\/p=1\/p=2\/p=3\/p=4:=by omega
  rcases this with rfl | rfl | rfl | rfl | rfl
  ·exact⟨_,mem 0 (by decide),ch1⟩
  ·exact⟨_,mem 1 (by decide),ch2⟩
  ·exact⟨_,mem 2 (by decide),ch3⟩
  ·exact⟨_,mem 3 (by decide),ch4⟩
  ·exact⟨_,mem 4 (by decide),ch5⟩
 have hs:∀ p:Int,0<=p->p<5->∃ rows∈y3w,x0t [.int p]=some (x3l rows,0):=fun p a b=>by
  have:p=0\/p=1\/p=2\/p=3\/p=4:=by omega
  rcases this with rfl | rfl | rfl | rfl | rfl
  ·exact⟨_,mem 8 (by decide),sb0⟩
  ·exact⟨_,mem 9 (by decide),sb1⟩
  ·exact⟨_,mem 10 (by decide),sb2⟩
  ·exact⟨_,mem 11 (by decide),sb3⟩
  ·exact⟨_,mem 12 (by decide),sb4⟩
 have hp:∀ r:Int,0<=r->r<3->∃ x rows1 rows,atD (.lst [.int 2,.int 3,.int 4]) r=some (.int x)/\x11 [.int x]=some (x3l rows1,1)/\rows∈y3w/\x1h [x3l (ch 2),x3l rows1]=some (x3l rows,0):=fun r a b=>by
  have:r=0\/r=1\/r=2:=by omega
  rcases this with rfl | rfl | rfl
  ·exact⟨2,_,_,rfl,ch2,mem 5 (by decide),j6i⟩
  ·exact⟨3,_,_,rfl,ch3,mem 6 (by decide),j7x⟩
  ·exact⟨4,_,_,rfl,ch4,mem 7 (by decide),j7k⟩
 unfold x4e y11
 generalize x6x ns t 9=k at *
 generalize x6x ns (t+1) 5=p at *
 generalize x6x ns (t+1) 3=r at *
 by_cases h3:k<3
 ·obtain⟨rows,hm,e⟩:=hc p p0 p1
  exact⟨rows,hm,1,by simp[e9,e5,h3,e]⟩
 by_cases h5:k<5
 ·obtain⟨x,rows1,rows,ea,e1,hm,e2'⟩:=hp r r0 r1
  exact⟨rows,hm,0,by simp[e9,e3,h3,h5,ch2,ea,e1,e2']⟩
 by_cases h7:k<7
 ·obtain⟨rows,hm,e⟩:=hs p p0 p1
  exact⟨rows,hm,0,by simp[e9,e5,h3,h5,h7,e]⟩
 have:k=7\/k=8:=by omega
 rcases this with rfl | rfl
 ·exact⟨_,mem 13 (by decide),0,by simp[e9,x7f,ch2,j6i]; exact j59⟩
 ·refine⟨_,mem 14 (by decide),0,?_⟩
  simp[e9,x7f]
  rfl
theorem z31:∀ rows∈y3w,j68 rows.length (tf rows)=true:=by decide +kernel
noncomputable def pk (ns:List Int) (t:Int) (k m:Nat):Nat:=(x6x ns (t+2+Int.ofNat k) (Int.ofNat m)).toNat
theorem z7f (ns:List Int) (t:Int) (k m:Nat) (h:0<m):pk ns t k m<m:=by
 have h1:=x5j ns (t+2+Int.ofNat k) (m:=Int.ofNat m) (by show(0:Int)<m; omega)
 have h2:=x6d ns (t+2+Int.ofNat k) (m:=Int.ofNat m) (by show(0:Int)<m; omega)
 have h3:(Int.ofNat m)=(m:Int):=rfl
 unfold pk
 omega
theorem j4o (ns:List Int) (t:Int) (k m:Nat) (h:0<m):x6x ns (t+2+Int.ofNat k) (Int.ofNat m)=Int.ofNat (pk ns t k m):=by
 have h1:=x5j ns (t+2+Int.ofNat k) (m:=Int.ofNat m) (by show(0:Int)<m; omega)
 unfold pk
 show _=((x6x ns (t+2+Int.ofNat k) (Int.ofNat m)).toNat:Int)
 omega
section
variable (ns:List Int) (t:Int) (n:Nat) (B:Nat->Nat->Nat) (q:Nat)
theorem z55 (h0:0<=t) (hn:n<=16):x6g 1 (x0m 8) x38 (z9z 3 (x01 (x0f x0a 3 (x01 (x06 0) (x01 (e2 x2g (e2 x2g (x06 1) (eC (.int 2))) (x06 8)) (x01 (x15 3) (x0d))))) (x0d))) false (x1a n)
  [some (scr ns,0),some (.int t,9),some (x3y n B,q),some (.lst (x1a n),1),none,none,none,none] =
  some (x0j ((List.range n).map (drawn (pk ns t) n)),[some (scr ns,0),some (.int t,9),some (x3y n B,q),some (.lst [],1),none,none,none,none]):=by
 have hp:=z7f ns t
 have h:=x4w (k:=1) (pt:=x0m 8) (tt:=x38) (te:=z9z 3 (x01 (x0f x0a 3 (x01 (x06 0) (x01 (e2 x2g (e2 x2g (x06 1) (eC (.int 2))) (x06 8)) (x01 (x15 3) (x0d))))) (x0d))) (deep:=false) (x1a n)
  (fun k=>[some (scr ns,0),some (.int t,9),some (x3y n B,q),some (.lst (x0j (x3x (pk ns t) n k)),1),none,none,none,none]) (fun _=>true) (fun k=>.int (Int.ofNat (drawn (pk ns t) n k))) (fun k hk=>?_)
 ·rw[x14]at h
  have hl:x3x (pk ns t) n n=[]:=List.length_eq_zero_iff.mp (by rw[x7p hp n (Nat.le_refl n)]; omega)
  rw[hl]at h
  have e1:(List.range n).filter (fun _=>true)=List.range n:=by simp
  rw[e1]at h
  simp only[x0j,List.map_map,Function.comp_def]
  exact h
 ·rw[x14]at hk
  have hl:=x7p hp k (Nat.le_of_lt hk)
  have hlp:0<(x3x (pk ns t) n k).length:=by rw[hl]; omega
  have e:=j4o ns t k _ hlp
  have hj:=z7f ns t k _ hlp
  have hpk:=x6f ns (t+2+Int.ofNat k) (Int.ofNat (x3x (pk ns t) n k).length) (by show 0<=t+2+(k:Int); omega) (by show(0:Int)<((x3x (pk ns t) n k).length:Int); omega)
  have hs:seqIndex? (Int.ofNat (pk ns t k (x3x (pk ns t) n k).length)) (x0j (x3x (pk ns t) n k)).length=some (pk ns t k (x3x (pk ns t) n k).length):=(y5b (y3g (by rw[x1e]; exact hj))).1
  have hg:(x0j (x3x (pk ns t) n k))[pk ns t k (x3x (pk ns t) n k).length]? = some (.int (Int.ofNat (drawn (pk ns t) n k))):=by
   rw[y05]
   unfold drawn
   rw[List.getD_eq_getElem?_getD,List.getElem?_eq_getElem hj]
   rfl
  have hb:pk ns t k (x3x (pk ns t) n k).length<=16:=by omega
  have he:(x0j (x3x (pk ns t) n k)).eraseIdx (pk ns t k (x3x (pk ns t) n k).length)=x0j (x3x (pk ns t) n (k+1)):=by rw[x3x,y22]
  refine⟨[some (scr ns,0),some (.int t,9),some (x3y n B,q),some (.lst (x0j (x3x (pk ns t) n k)),1),none,none,none,none,some (.int (Int.ofNat k),9)],_,by simp[x1a],rfl,?_⟩
  rw[if_pos rfl]
  refine⟨9,[some (scr ns,0),some (.int t,9),some (x3y n B,q),some (.lst (x0j (x3x (pk ns t) n (k+1))),1),none,none,none,none,some (.int (Int.ofNat k),9)],?_,by simp,by simp⟩
  have b1:(-1000:Int)<=Int.ofNat (pk ns t k (x3x (pk ns t) n k).length):=by show(-1000:Int)<=(pk ns t k (x3x (pk ns t) n k).length:Int); omega
  have b2:Int.ofNat (pk ns t k (x3x (pk ns t) n k).length)<=1000:=by show(pk ns t k (x3x (pk ns t) n k).length:Int)<=1000; omega
  have hl':x9r (.lst (x0j (x3x (pk ns t) n k)))=some (x3x (pk ns t) n k).length:=by simp[x9r,x1e]
  rw[e]at hpk
  simp[-Int.ofNat_eq_natCast,hl',hpk,hs,hg,he,b1,b2]
theorem z7z (hn:n<=16) (x:Option (D × Nat)):x6g 1 (x0m 8) x38 (y8y (x4n (x01 (eC (.int 0)) (x0d))) (x15 2)) true ((List.range n).map fun i=>x7u n B i)
  [some (scr ns,0),some (.int t,9),some (x3y n B,0),some (.lst [],1),x,none,none,none] =
  some ((List.range n).map fun i=>x7u n (fun _ _=>0) i,[some (scr ns,0),some (.int t,9),some (x3y n B,0),some (.lst [],1),x,none,none,none]):=by
 have h:=x4w (k:=1) (pt:=x0m 8) (tt:=x38) (te:=y8y (x4n (x01 (eC (.int 0)) (x0d))) (x15 2)) (deep:=true) ((List.range n).map fun i=>x7u n B i)
  (fun _=>[some (scr ns,0),some (.int t,9),some (x3y n B,0),some (.lst [],1),x,none,none,none]) (fun _=>true) (fun i=>x7u n (fun _ _=>0) i) (fun k hk=>?_)
 ·rw[List.length_map,List.length_range,show(List.range n).filter (fun _=>true)=List.range n by simp]at h
  exact h
 ·refine⟨[some (scr ns,0),some (.int t,9),some (x3y n B,0),some (.lst [],1),x,none,none,none,some (x7u n B k,0)],_,by simp[x7u],rfl,?_⟩
  rw[if_pos rfl]
  refine⟨1,[some (scr ns,0),some (.int t,9),some (x3y n B,0),some (.lst [],1),x,none,none,none,some (x7u n B k,0)],?_,by simp,by simp⟩
  have z:x7u n (fun _ _=>0) k=D.lst (List.replicate n [D.int 0]).flatten:=(j4j n).symm
  have b1:(-1000:Int)<=n:=by omega
  have b2:(n:Int)<=1000:=by omega
  have b3:n<=1000:=by omega
  rw[z]
  simp[x7o,b1,b2,b3]
noncomputable def gst (π ι:Nat->Nat) (i j a b:Nat):Nat:=if ι a<i\/(ι a=i/\ι b<j)then π (B (ι a) (ι b))else 0
noncomputable abbrev y62:x1d:=y8r 5 (qIx 4 (z66 6)) (qIx 4 (z66 7)) (x1z 4 (eIx (x1z 2 (x06 6)) (x06 7)))
section
variable {n B} {π ι:Nat->Nat} (cl:∀ i j,i<n->j<n->B i j<n) (h1:∀ i,i<n->π i<n) (h2:∀ i,i<n->ι i<n) (h3:∀ i,i<n->ι (π i)=i) (h4:∀ i,i<n->π (ι i)=i)
include cl h1 h2 h3 h4
theorem z0o {f:Nat->Nat->Nat} {i j:Nat} (hi:i<n) (hj:j<n) {y:Option (D × Nat)} :
  y62 [some (scr ns,0),some (.int t,9),some (x3y n B,0),some (.lst [],1),some (.lst (x0j ((List.range n).map π)),1),some (x3y n f,2),some (.int (Int.ofNat i),9),some (.int (Int.ofNat j),9)] =
  some (.nx [some (scr ns,0),some (.int t,9),some (x3y n B,0),some (.lst [],1),some (.lst (x0j ((List.range n).map π)),1),some (x3y n (fun a b=>if a=π i/\b=π j then π (B i j)else f a b),2),some (.int (Int.ofNat i),9),some (.int (Int.ofNat j),9)]):=by
 have a1:=z8v (f:=B) hi
 have a2:=z8g (f:=B) (i:=i) hj
 have a3:atD (.lst (x0j ((List.range n).map π))) (Int.ofNat (B i j))=some (.int (Int.ofNat (π (B i j)))):=x2d (cl i j hi hj)
 have a4:atD (.lst (x0j ((List.range n).map π))) (Int.ofNat i)=some (.int (Int.ofNat (π i))):=x2d hi
 have a5:atD (.lst (x0j ((List.range n).map π))) (Int.ofNat j)=some (.int (Int.ofNat (π j))):=x2d hj
 have a6:ixN ((List.range n).map fun a=>x7u n f a).length (Int.ofNat (π i))=some (π i):=y3g (by simpa using h1 i hi)
 have a7:((List.range n).map fun a=>x7u n f a)[π i]? = some (.lst (x0j ((List.range n).map fun b=>f (π i) b))):=by rw[List.getElem?_map,List.getElem?_range (h1 i hi)]; rfl
 have a8:ixN (x0j ((List.range n).map fun b=>f (π i) b)).length (Int.ofNat (π j))=some (π j):=y3g (by simpa [x1e]using h1 j hj)
 have a9:=z2r (n:=n) (f:=f) (a:=π i) (b:=π j) (v:=π (B i j))
 rw[<- a9]
 show y62 [some (scr ns,0),some (.int t,9),some (x3y n B,0),some (.lst [],1),some (.lst (x0j ((List.range n).map π)),1),some (.lst ((List.range n).map fun a=>x7u n f a),2),some (.int (Int.ofNat i),9),some (.int (Int.ofNat j),9)]=_
 unfold y62
 simp only[y8r,x1z,eIx,x06,qIx,z66,List.getElem?_cons_succ,List.getElem?_cons_zero,D.isL,if_true,a1,a2,a3,a4,a5,a6,a7,a8,ne_eq,not_true_eq_false,false_and,and_false,if_false,Bool.false_eq_true,reduceCtorEq,Nat.not_lt_zero,Nat.lt_irrefl,x41,List.set_cons_succ,List.set_cons_zero]
noncomputable abbrev y75 (f:Nat->Nat->Nat) (x y:Option (D × Nat)):Rho:=[some (scr ns,0),some (.int t,9),some (x3y n B,0),some (.lst [],1),some (.lst (x0j ((List.range n).map π)),1),some (x3y n f,2),x,y]
omit cl h1 h2 h3 h4
theorem x90 {i:Nat} (h:i<(x1a n).length):(x1a n)[i]=.int (Int.ofNat i):=by simp[x1a]
include cl h1 h2 h3 h4
theorem z41 {i j:Nat} (hi:i<n) (hj:j<n):x3y n (fun a b=>if a=π i/\b=π j then π (B i j)else gst B π ι i j a b)=x3y n (gst B π ι i (j+1)):=by
 refine x6p fun a b ha hb=>?_
 unfold gst
 by_cases h:a=π i/\b=π j
 ·obtain⟨rfl,rfl⟩:=h
  rw[if_pos ⟨rfl,rfl⟩,h3 i hi,h3 j hj,if_pos (.inr ⟨rfl,Nat.lt_succ_self _⟩)]
 ·rw[if_neg h]
  have:¬ (ι a=i/\ι b=j):=fun⟨e1,e2⟩=>h ⟨by rw[<- e1,h4 a ha],by rw[<- e2,h4 b hb]⟩
  by_cases c:ι a<i\/ι a=i/\ι b<j
  ·rw[if_pos c,if_pos (by omega)]
  ·rw[if_neg c,if_neg (by omega)]
theorem z9t {i:Nat}:x3y n (gst B π ι i n)=x3y n (gst B π ι (i+1) 0):=by
 refine x6p fun a b ha hb=>?_
 have:=h2 b hb
 unfold gst
 by_cases c:ι a<i\/ι a=i/\ι b<n
 ·rw[if_pos c,if_pos (by omega)]
 ·rw[if_neg c,if_neg (by omega)]
theorem z3l (hn:n<=16) {i:Nat} (hi:i<n) (y:Option (D × Nat)):∃ y',x8o (x0m 7) y62 (x1a n) (y75 ns t (n:=n) (B:=B) (π:=π) (gst B π ι i 0) (some (.int (Int.ofNat i),9)) y) =
  some (.nx (y75 ns t (n:=n) (B:=B) (π:=π) (gst B π ι (i+1) 0) (some (.int (Int.ofNat i),9)) y')):=by
 obtain⟨ρ',e,y',rfl⟩:=x4r (pt:=x0m 7) (body:=y62) (x1a n) (fun j ρ=>∃ y,ρ=y75 ns t (n:=n) (B:=B) (π:=π) (gst B π ι i j) (some (.int (Int.ofNat i),9)) y) (y75 ns t (n:=n) (B:=B) (π:=π) (gst B π ι i 0) (some (.int (Int.ofNat i),9)) y) (fun j hj ρ hh0=>by
  obtain⟨y,hy⟩:=hh0
  subst hy
  rw[x14]at hj
  refine⟨y75 ns t (n:=n) (B:=B) (π:=π) (gst B π ι i j) (some (.int (Int.ofNat i),9)) (some (.int (Int.ofNat j),9)),_,by rw[x90]; simp,.inl (z0o ns t cl h1 h2 h3 h4 hi hj (y:=none)),?_⟩
  rw[z41 cl h1 h2 h3 h4 hi hj]
  exact⟨_,rfl⟩) ⟨y,rfl⟩
 refine⟨y',?_⟩
 rw[e,x14]
 show some (Out.nx [_,_,_,_,_,some (x3y n (gst B π ι i n),2),_,_])=_
 rw[z9t cl h1 h2 h3 h4]
theorem z40 (hn:n<=16) (x y:Option (D × Nat)):∃ x' y',x8o (x0m 6) (x7m (x1f (x01 (x15 2) x0d)) (x0m 7) y62) (x1a n) (y75 ns t (n:=n) (B:=B) (π:=π) (fun _ _=>0) x y) =
  some (.nx (y75 ns t (n:=n) (B:=B) (π:=π) (fun a b=>π (B (ι a) (ι b))) x' y')):=by
 have z:x3y n (fun _ _=>0)=x3y n (gst B π ι 0 0):=x6p fun a b _ _=>by unfold gst; rw[if_neg (by omega)]
 have z':x3y n (gst B π ι n 0)=x3y n (fun a b=>π (B (ι a) (ι b))):=x6p fun a b ha _=>by unfold gst; rw[if_pos (.inl (h2 a ha))]
 obtain⟨ρ',e,x',y',rfl⟩:=x4r (pt:=x0m 6) (body:=x7m (x1f (x01 (x15 2) x0d)) (x0m 7) y62) (x1a n) (fun i ρ=>∃ x y,ρ=y75 ns t (n:=n) (B:=B) (π:=π) (gst B π ι i 0) x y) (y75 ns t (n:=n) (B:=B) (π:=π) (gst B π ι 0 0) x y) (fun i hi ρ hh0=>by
  obtain⟨x,y,hy⟩:=hh0
  subst hy
  rw[x14]at hi
  obtain⟨y',hy'⟩:=z3l ns t cl h1 h2 h3 h4 hn hi y
  refine⟨y75 ns t (n:=n) (B:=B) (π:=π) (gst B π ι i 0) (some (.int (Int.ofNat i),9)) y,_,by rw[x90]; simp,.inl (show _=some (Out.nx (y75 ns t (n:=n) (B:=B) (π:=π) (gst B π ι (i+1) 0) (some (.int (Int.ofNat i),9)) y'))from ?_),⟨_,_,rfl⟩⟩
  have b1:(-1000:Int)<=Int.ofNat n:=by show(-1000:Int)<=n; omega
  have b2:Int.ofNat n<=1000:=by show(n:Int)<=1000; omega
  have e:x1f (x01 (x15 2) x0d) (y75 ns t (n:=n) (B:=B) (π:=π) (gst B π ι i 0) (some (.int (Int.ofNat i),9)) y)=some (x1a n,y75 ns t (n:=n) (B:=B) (π:=π) (gst B π ι i 0) (some (.int (Int.ofNat i),9)) y):=by
   simp[-Int.ofNat_eq_natCast,x7o,b1,b2]
   rfl
  unfold x7m
  rw[e]
  exact hy') ⟨x,y,rfl⟩
 refine⟨x',y',?_⟩
 show x8o _ _ _ [_,_,_,_,_,some (x3y n (fun _ _=>0),2),_,_]=some (.nx [_,_,_,_,_,some (x3y n (fun a b=>π (B (ι a) (ι b))),2),_,_])
 rw[z,<- z']
 rw[x14]at e
 exact e
end
end
theorem z3p {n:Nat} {f:Nat->Nat->Nat} {a b c d e:Option (D × Nat)} {x y:Option (D × Nat)}:x6g 1 (x0m 8) x38 (x4c (x01 (x06 8) x0d)) false ((List.range n).map fun i=>x7u n f i) [a,b,c,d,e,some (x3y n f,0),x,y] =
  some ((List.range n).map fun i=>z5r n f i,[a,b,c,d,e,some (x3y n f,0),x,y]):=by
 have h:=x4w (k:=1) (pt:=x0m 8) (tt:=x38) (te:=x4c (x01 (x06 8) x0d)) (deep:=false) ((List.range n).map fun i=>x7u n f i)
  (fun _=>[a,b,c,d,e,some (x3y n f,0),x,y]) (fun _=>true) (fun i=>z5r n f i) (fun k hk=>?_)
 ·rw[List.length_map,List.length_range,show(List.range n).filter (fun _=>true)=List.range n by simp]at h
  exact h
 ·refine⟨[a,b,c,d,e,some (x3y n f,0),x,y,some (x7u n f k,0)],_,by simp[x7u],rfl,?_⟩
  rw[if_pos rfl]
  exact⟨9,[a,b,c,d,e,some (x3y n f,0),x,y,some (x7u n f k,0)],by simp[x7u,z5r],by simp,by simp⟩
theorem x4a {n:Nat} (hn:n<=1000) {i:Nat} {ρ:Rho} {d:D} {q:Nat} (h:ρ[i]? = some (some (d,q))) (hl:x9r d=some n):x1f (x01 (x15 i) x0d) ρ=some (x1a n,ρ):=by
 have b1:(-1000:Int)<=Int.ofNat n:=by show(-1000:Int)<=n; omega
 have b2:Int.ofNat n<=1000:=by show(n:Int)<=1000; omega
 simp only[x1f,x01,x15,x0d,h,hl]
 rw[if_pos ⟨b1,b2⟩]
 rfl
theorem j0r (ns:List Int) (t:Int) (h0:0<=t):∃ n f,Lad n f/\x3o [scr ns,.int t]=some (x0x n f,9):=by
 obtain⟨rows,hm,q,hb⟩:=z9d ns t h0
 have L:=z8x (z31 rows hm)
 unfold x3l at hb
 revert hb L
 generalize rows.length=n
 generalize tf rows=B
 intro hb L
 have hp:=z7f ns t
 have hn:n<=1000:=Nat.le_trans L.hi (by decide)
 refine⟨n,fun a b=>drawn (pk ns t) n (B (x3v (pk ns t) n a) (x3v (pk ns t) n b)),L.ren (fun i hi=>y71 hp hi) (fun i hi=>y21 hp hi) (fun i hi=>x86 hp hi) (fun i hi=>x7t hp hi),?_⟩
 unfold x3o x84
 refine x28 ?_
 have s0:x3z 8 [scr ns,.int t]=[some (scr ns,0),some (.int t,9),none,none,none,none,none,none]:=rfl
 rw[s0]
 refine(x0e (ρ1:=[some (scr ns,0),some (.int t,9),some (x3y n B,q),none,none,none,none,none]) ?_).trans ?_
 ·simp[hb]
 refine(x0e (ρ1:=[some (scr ns,0),some (.int t,9),some (x3y n B,q),some (.lst (x1a n),1),none,none,none,none]) ?_).trans ?_
 ·exact x27 (y1c (x4a hn rfl x7o)) rfl
 refine(x0e (ρ1:=[some (scr ns,0),some (.int t,9),some (x3y n B,q),some (.lst [],1),some (.lst (x0j ((List.range n).map (drawn (pk ns t) n))),1),none,none,none]) ?_).trans ?_
 ·exact x27 (x2f (x4a hn rfl x7o) (z55 ns t n B q h0 L.hi)) rfl
 refine(x0e (ρ1:=[some (scr ns,0),some (.int t,9),some (x3y n B,0),some (.lst [],1),some (.lst (x0j ((List.range n).map (drawn (pk ns t) n))),1),some (x3y n (fun _ _=>0),2),none,none]) ?_).trans ?_
 ·have e:x4v (x06 2) [some (scr ns,0),some (.int t,9),some (x3y n B,q),some (.lst [],1),some (.lst (x0j ((List.range n).map (drawn (pk ns t) n))),1),none,none,none]=some ((List.range n).map fun i=>x7u n B i,[some (scr ns,0),some (.int t,9),some (x3y n B,0),some (.lst [],1),some (.lst (x0j ((List.range n).map (drawn (pk ns t) n))),1),none,none,none]):=by
   by_cases hq:q=0
   ·subst hq; simp[x3y,hn]
   ·simp[x3y,hn,hq]
  exact x27 (x2f e (z7z ns t n B L.hi _)) rfl
 obtain⟨x',y',hf⟩:=z40 ns t (n:=n) (B:=B) (π:=drawn (pk ns t) n) (ι:=x3v (pk ns t) n) L.cl (fun i hi=>y71 hp hi) (fun i hi=>y21 hp hi) (fun i hi=>x86 hp hi) (fun i hi=>x7t hp hi) L.hi none none
 refine(x0e ((x3h (x4a hn rfl x7o)).trans hf)).trans ?_
 refine x1t (ρ1:=[some (scr ns,0),some (.int t,9),some (x3y n B,0),some (.lst [],1),some (.lst (x0j ((List.range n).map (drawn (pk ns t) n))),1),some (x3y n (fun a b=>drawn (pk ns t) n (B (x3v (pk ns t) n a) (x3v (pk ns t) n b))),0),x',y']) ?_
 have e:x4v (x06 5) (y75 ns t (n:=n) (B:=B) (π:=drawn (pk ns t) n) (fun a b=>drawn (pk ns t) n (B (x3v (pk ns t) n a) (x3v (pk ns t) n b))) x' y')=some ((List.range n).map fun i=>x7u n (fun a b=>drawn (pk ns t) n (B (x3v (pk ns t) n a) (x3v (pk ns t) n b))) i,[some (scr ns,0),some (.int t,9),some (x3y n B,0),some (.lst [],1),some (.lst (x0j ((List.range n).map (drawn (pk ns t) n))),1),some (x3y n (fun a b=>drawn (pk ns t) n (B (x3v (pk ns t) n a) (x3v (pk ns t) n b))),0),x',y']):=by
  simp[x3y,hn]
 have e2:=x2f (k:=1) (pt:=x0m 8) (tt:=x38) (te:=x4c (x01 (x06 8) x0d)) (deep:=false) e z3p
 exact x4d (x0q e2)
section
variable {n:Nat} {f:Nat->Nat->Nat}
theorem x7l {x w:Nat} (hx:x<n) (hw:w<n):x31 [x0x n f,.int (Int.ofNat x),.int (Int.ofNat w)]=some (.bl (decide (f x w=w)),9):=by
 unfold x31 y2c
 simp[-Int.ofNat_eq_natCast,y2v hx,y5i hw,y58]
theorem z2u (hn:n<=1000) {w:Nat} (hw:w<n):x68 [x0x n f,.int (Int.ofNat w)]=some (.lst (x0j ((List.range n).filter fun x=>decide (f x w=w))),1):=by
 unfold x68 z0i
 refine x28 (x1t (x2f (deep:=false) (ρ2:=[some (x0x n f,9),some (.int (Int.ofNat w),9)]) (x4a hn rfl x32) ?_))
 refine z4i (i:=2) (ρ:=[some (x0x n f,9),some (.int (Int.ofNat w),9)]) (deep:=false) rfl (fun x=>decide (f x w=w)) (fun x=>.int (Int.ofNat x)) (fun _=>9) (fun j hj=>?_) (fun j hj _=>?_)
 ·simp[-Int.ofNat_eq_natCast,x7l hj hw]
 ·simp[-Int.ofNat_eq_natCast]
end
section
variable {n:Nat} {f:Nat->Nat->Nat}
theorem z3s (hn:n<=1000) {w:Nat} (hw:w<n):x2c [x0x n f,.int (Int.ofNat w)]=some (.lst (x0j ((List.range n).filter fun x=>decide (f x w=w))),1):=by
 unfold x2c x9c
 refine x28 (x1t (x2f (deep:=false) (ρ2:=[some (x0x n f,9),some (.int (Int.ofNat w),9)]) (x4a hn rfl x32) ?_))
 refine z4i (i:=2) (ρ:=[some (x0x n f,9),some (.int (Int.ofNat w),9)]) (deep:=false) rfl (fun x=>decide (f x w=w)) (fun x=>.int (Int.ofNat x)) (fun _=>9) (fun j hj=>?_) (fun j hj _=>?_)
 ·simp[-Int.ofNat_eq_natCast,y2v hj,y5i hw,y58]
 ·simp[-Int.ofNat_eq_natCast]
variable (L:Lad n f) {z:Nat} (hz:z<n) (bz:∀ j,j<n->f z j=j)
include L hz bz
theorem j53 {w:Nat} (hw:w<n):decide ((List.range n).map (fun j=>f w j)=List.range n)=decide (w=z):=by
 rw[decide_eq_decide,y41]
 exact⟨fun h=>L.bot_uniq hz bz hw h,fun h=>by subst h; exact bz⟩
theorem z5h (hn:n<=1000):x44 [x0x n f]=some (.int (Int.ofNat z),9):=by
 unfold x44 y25
 refine x28 (x1t (ρ1:=[some (x0x n f,9)]) ?_)
 have hc:x2l 1 (x1f (x01 (x15 0) (x0d))) (x0m 1) (x2n (e2 dEq (x4b (x01 (x1z 0 (x06 1)) (x0d))) (x8c (x01 (x15 0) (x0d))))) (x06 1) false (x3z 1 [x0x n f])=some (.lst (x0j [z]),1,[some (x0x n f,9)]):=by
  refine(x2f (deep:=false) (ρ2:=[some (x0x n f,9)]) (x4a hn rfl x32) (z4i rfl (fun x=>decide (x=z)) (fun x=>.int (Int.ofNat x)) (fun _=>9) (fun j hj=>?_) (fun j hj _=>?_))).trans ?_
  ·have e1:x4b (x01 (x1z 0 (x06 1)) x0d) ([some (x0x n f,9)]++[some (.int (Int.ofNat j),9)])=some (.lst (x0j ((List.range n).map fun k=>f j k)),1,[some (x0x n f,9),some (.int (Int.ofNat j),9)]):=by
    simp[-Int.ofNat_eq_natCast,y2v hj,z5r]
   have e2':x8c (x01 (x15 0) x0d) [some (x0x n f,9),some (.int (Int.ofNat j),9)]=some (.lst (x0j (List.range n)),1,[some (x0x n f,9),some (.int (Int.ofNat j),9)]):=y1c (x4a hn rfl x32)
   unfold x2n e2
   rw[e1]
   simp only[e2',j4v,j53 L hz bz hj]
   rfl
  ·simp[-Int.ofNat_eq_natCast]
  ·rw[y1x,if_pos hz]
   rfl
 unfold eIx
 rw[hc]
 simp[-Int.ofNat_eq_natCast,atD,x0j,L2.atI,ixN]
theorem z7n (hn:n<=1000) {l:List Nat} (hl:l.length<=1000) (hm:∀ x∈l,x<n):x3i [x0x n f,.lst (x0j l)]=some (.int (Int.ofNat (l.foldl f z)),9):=by
 unfold x3i y10
 refine x28 ?_
 refine(x0e (ρ1:=[some (x0x n f,9),some (.lst (x0j l),0),some (.int (Int.ofNat z),9),none]) ?_).trans ?_
 ·simp[-Int.ofNat_eq_natCast,z5h L hz bz hn]
 obtain⟨ρ',e,y,rfl⟩:=x4r (pt:=x0m 3) (body:=x2r 2 (eIx (x1z 0 (x06 2)) (x06 3))) (x0j l) (fun i ρ=>∃ y,ρ=[some (x0x n f,9),some (.lst (x0j l),0),some (.int (Int.ofNat ((l.take i).foldl f z)),9),y]) [some (x0x n f,9),some (.lst (x0j l),0),some (.int (Int.ofNat z),9),none] (fun i hi ρ hh0=>by
  obtain⟨y,hy⟩:=hh0
  subst hy
  have hi':i<l.length:=by rw[x1e]at hi; exact hi
  have hg:(x0j l)[i]=.int (Int.ofNat l[i]):=by simp[x0j]
  have hx:l[i]<n:=hm _ (List.getElem_mem hi')
  have ha:(l.take i).foldl f z<n:=L.fold_lt hz fun x m=>hm x (List.mem_of_mem_take m)
  refine⟨[some (x0x n f,9),some (.lst (x0j l),0),some (.int (Int.ofNat ((l.take i).foldl f z)),9),some (.int (Int.ofNat l[i]),9)],[some (x0x n f,9),some (.lst (x0j l),0),some (.int (Int.ofNat ((l.take (i+1)).foldl f z)),9),some (.int (Int.ofNat l[i]),9)],?_,.inl ?_,⟨_,rfl⟩⟩
  ·rw[hg]; simp
  ·rw[List.take_succ_eq_append_getElem hi',List.foldl_append]
   simp[-Int.ofNat_eq_natCast,y2v ha,y5i hx]) ⟨none,rfl⟩
 rw[x1e,List.take_length]at e
 refine(x0e ((x3h (ds:=x0j l) (ρ1:=[some (x0x n f,9),some (.lst (x0j l),0),some (.int (Int.ofNat z),9),none]) ?_).trans e)).trans ?_
 ·simp[x1e,hl]
 ·simp[-Int.ofNat_eq_natCast]
end
section
variable {n:Nat} {f:Nat->Nat->Nat}
noncomputable def x88 (n:Nat) (f:Nat->Nat->Nat) (r:Nat->Nat):Bool:=(List.range n).all fun y=>(Lad.low n f y).all fun x=>decide (f (r x) (r y)=r y)
theorem x95 {r:Nat->Nat}:x88 n f r=true ↔ ∀ y x,y<n->x<n->f x y=y->f (r x) (r y)=r y:=by
 unfold x88
 rw[L3.range_all]
 simp only[List.all_eq_true,Lad.mem_low,decide_eq_true_eq]
 exact⟨fun h y x hy hx e=>h y hy x ⟨hx,e⟩,fun h y hy x e=>h y x hy e.1 e.2⟩
theorem z3t (hn:n<=1000) {r:Nat->Nat} (hr:∀ i,i<n->r i<n):y0e [x0x n f,x1j n r]=some (.bl (x88 n f r),9):=by
 unfold y0e z03
 refine x28 ?_
 have hs:x3z 4 [x0x n f,x1j n r]=[some (x0x n f,9),some (x1j n r,9),none,none]:=rfl
 rw[hs]
 obtain⟨h1,h2⟩:=y3a (pt:=x0m 2) (body:=x7m (x4v (x0f x68 2 (x01 (x06 0) (x01 (x06 2) (x0d))))) (x0m 3) (sIf (x4h (x6t (x0f x31 3 (x01 (x06 0) (x01 (x1z 1 (x06 3)) (x01 (x1z 1 (x06 2)) (x0d))))))) (x35 (eC (.bl false))) (x6h))) (d:=.bl false) (q:=9) (x1a n) (fun ρ=>∃ x y,ρ=[some (x0x n f,9),some (x1j n r,9),x,y]) (fun y=>(Lad.low n f y).all fun x=>decide (f (r x) (r y)=r y)) [some (x0x n f,9),some (x1j n r,9),none,none] (fun y hy ρ ⟨a,b,e⟩=>by
  subst e
  have hy':y<n:=by rw[x14]at hy; exact hy
  refine⟨[some (x0x n f,9),some (x1j n r,9),some (.int (Int.ofNat y),9),b],by rw[show(x1a n)[y]=.int (Int.ofNat y)by simp[x1a]]; simp,?_⟩
  have hl:(x0j (Lad.low n f y)).length<=1000:=by
   rw[x1e]
   have:=List.length_filter_le (fun x=>decide (f x y=y)) (List.range n)
   rw[List.length_range]at this
   exact Nat.le_trans this hn
  have hi:x4v (x0f x68 2 (x01 (x06 0) (x01 (x06 2) (x0d)))) [some (x0x n f,9),some (x1j n r,9),some (.int (Int.ofNat y),9),b]=some (x0j (Lad.low n f y),[some (x0x n f,9),some (x1j n r,9),some (.int (Int.ofNat y),9),b]):=by
   have hb:x68 [x0x n f,.int (Int.ofNat y)]=some (.lst (x0j (Lad.low n f y)),1):=z2u hn hy'
   simp[-Int.ofNat_eq_natCast,hb,hl]
  obtain⟨i1,i2⟩:=y3a (pt:=x0m 3) (body:=sIf (x4h (x6t (x0f x31 3 (x01 (x06 0) (x01 (x1z 1 (x06 3)) (x01 (x1z 1 (x06 2)) (x0d))))))) (x35 (eC (.bl false))) (x6h)) (d:=.bl false) (q:=9) (x0j (Lad.low n f y)) (fun ρ=>∃ b,ρ=[some (x0x n f,9),some (x1j n r,9),some (.int (Int.ofNat y),9),b]) (fun i=>decide (f (r ((Lad.low n f y).getD i 0)) (r y)=r y)) [some (x0x n f,9),some (x1j n r,9),some (.int (Int.ofNat y),9),b] (fun i hi' ρ ⟨b,e⟩=>by
   subst e
   have hm:=y6y (l:=Lad.low n f y) (i:=i) (by rw[x1e]at hi'; exact hi')
   have hx:=(Lad.mem_low.mp hm).1
   rw[y4v hi']
   refine⟨[some (x0x n f,9),some (x1j n r,9),some (.int (Int.ofNat y),9),some (.int (Int.ofNat ((Lad.low n f y).getD i 0)),9)],by simp,fun ok=>⟨[some (x0x n f,9),some (x1j n r,9),some (.int (Int.ofNat y),9),some (.int (Int.ofNat ((Lad.low n f y).getD i 0)),9)],?_,⟨_,rfl⟩⟩,fun no=>?_⟩
   ·have ok':=of_decide_eq_true ok
    simp[-Int.ofNat_eq_natCast,-List.getD_eq_getElem?_getD,y03 hx,y03 hy',x7l (f:=f) (hr _ hx) (hr _ hy'),ok']
   ·have no':=of_decide_eq_false no
    simp[-Int.ofNat_eq_natCast,-List.getD_eq_getElem?_getD,y03 hx,y03 hy',x7l (f:=f) (hr _ hx) (hr _ hy'),no']) ⟨b,rfl⟩
  rw[x1e,y6w (fun x=>decide (f (r x) (r y)=r y))]at i1 i2
  refine⟨fun ok=>?_,fun no=>(x3h hi).trans (i2 no)⟩
  obtain⟨ρ2,e,b',rfl⟩:=i1 ok
  exact⟨_,(x3h hi).trans e,_,_,rfl⟩) ⟨none,none,rfl⟩
 rw[x14]at h1 h2
 cases h:x88 n f r with
 | true=>
  obtain⟨ρ',e,x,y,rfl⟩:=h1 h
  exact(x0e ((x3h (x4a hn rfl x32)).trans e)).trans rfl
 | false=>exact x7c ((x3h (x4a hn rfl x32)).trans (h2 h))
end
section
variable {n:Nat} {f:Nat->Nat->Nat}
variable (L:Lad n f) {z:Nat} (hz:z<n) (bz:∀ j,j<n->f z j=j)
include L hz bz
theorem y65 (ns:List Int) (t:Int) (h0:0<=t):∃ d:Nat->Nat,(∀ i,i<n->d i<n)/\x2w [scr ns,.int t,x0x n f]=some (x1j n (Lad.lr n f z d),9):=by
 have hn:n<=1000:=Nat.le_trans L.hi (by decide)
 have hnp:(0:Int)<Int.ofNat n:=by show(0:Int)<(n:Int); omega
 -- what is drawn for a worth
 have dr:∀ i,∃ v,v<n/\(i<n->∀ ρ:Rho,ρ[0]? = some (some (scr ns,0))->ρ[1]? = some (some (.int t,9))->ρ[2]? = some (some (x0x n f,9))->ρ[3]? = some (some (.int (Int.ofNat z),9))->ρ[5]? = some (some (.int (Int.ofNat i),9))->
   eIx (x4n (x01 (x06 3) (x01 (x06 5) (x01 (x0f x0a 3 (x01 (x06 0) (x01 (e2 x2g (x06 1) (x06 5)) (x01 (x15 2) (x0d))))) (x0d))))) (x0f x0a 3 (x01 (x06 0) (x01 (e2 x2g (e2 x2g (x06 1) (eC (.int 8))) (x06 5)) (x01 (eC (.int 3)) (x0d))))) ρ=some (.int (Int.ofNat v),9,ρ)):=fun i=>by
  have e1:=x6f ns (t+Int.ofNat i) (Int.ofNat n) (by show 0<=t+(i:Int); omega) hnp
  have e2':=x6f ns (t+8+Int.ofNat i) 3 (by show 0<=t+8+(i:Int); omega) (by decide)
  have l1:=x5j ns (t+Int.ofNat i) hnp
  have l2:=x6d ns (t+Int.ofNat i) hnp
  have k1:=x5j ns (t+8+Int.ofNat i) (m:=3) (by decide)
  have k2:=x6d ns (t+8+Int.ofNat i) (m:=3) (by decide)
  generalize x6x ns (t+Int.ofNat i) (Int.ofNat n)=a at *
  generalize x6x ns (t+8+Int.ofNat i) 3=b at *
  obtain⟨a',rfl⟩:∃ a':Nat,a=Int.ofNat a':=⟨a.toNat,by show a=(a.toNat:Int); omega⟩
  have ha':a'<n:=by have:(a':Int)<(n:Int):=l2; omega
  by_cases hi:i<n
  ·have hb:b=0\/b=1\/b=2:=by omega
   rcases hb with rfl | rfl | rfl
   ·refine⟨z,hz,fun _ ρ h0 h1 h2 h3 h5=>?_⟩
    simp[-Int.ofNat_eq_natCast,h0,h1,h2,h3,h5,x32,e1,e2',atD,L2.atI,ixN]
   ·refine⟨i,hi,fun _ ρ h0 h1 h2 h3 h5=>?_⟩
    simp[-Int.ofNat_eq_natCast,h0,h1,h2,h3,h5,x32,e1,e2',atD,L2.atI,ixN]
   ·refine⟨a',ha',fun _ ρ h0 h1 h2 h3 h5=>?_⟩
    simp[-Int.ofNat_eq_natCast,h0,h1,h2,h3,h5,x32,e1,e2',atD,L2.atI,ixN]
  ·exact⟨z,hz,fun h=>absurd h hi⟩
 obtain⟨d,hd⟩:∃ d:Nat->Nat,∀ i,d i<n/\(i<n->∀ ρ:Rho,ρ[0]? = some (some (scr ns,0))->ρ[1]? = some (some (.int t,9))->ρ[2]? = some (some (x0x n f,9))->ρ[3]? = some (some (.int (Int.ofNat z),9))->ρ[5]? = some (some (.int (Int.ofNat i),9))->
   eIx (x4n (x01 (x06 3) (x01 (x06 5) (x01 (x0f x0a 3 (x01 (x06 0) (x01 (e2 x2g (x06 1) (x06 5)) (x01 (x15 2) (x0d))))) (x0d))))) (x0f x0a 3 (x01 (x06 0) (x01 (e2 x2g (e2 x2g (x06 1) (eC (.int 8))) (x06 5)) (x01 (eC (.int 3)) (x0d))))) ρ=some (.int (Int.ofNat (d i)),9,ρ)):=
  ⟨fun i=>(dr i).choose,fun i=>(dr i).choose_spec⟩
 refine⟨d,fun i _=>(hd i).1,?_⟩
 unfold x2w y09
 refine x28 ?_
 have hs:x3z 7 [scr ns,.int t,x0x n f]=[some (scr ns,0),some (.int t,9),some (x0x n f,9),none,none,none,none]:=rfl
 rw[hs]
 refine(x0e (ρ1:=[some (scr ns,0),some (.int t,9),some (x0x n f,9),some (.int (Int.ofNat z),9),none,none,none]) ?_).trans ?_
 ·simp[-Int.ofNat_eq_natCast,z5h L hz bz hn]
 refine(x0e (ρ1:=[some (scr ns,0),some (.int t,9),some (x0x n f,9),some (.int (Int.ofNat z),9),some (.lst [],1),none,none]) ?_).trans ?_
 ·simp
 obtain⟨ρ',e,y,rfl⟩:=x4r (pt:=x0m 5) (body:=x2b (y27 4 (x01 (eIx (x4n (x01 (x06 3) (x01 (x06 5) (x01 (x0f x0a 3 (x01 (x06 0) (x01 (e2 x2g (x06 1) (x06 5)) (x01 (x15 2) (x0d))))) (x0d))))) (x0f x0a 3 (x01 (x06 0) (x01 (e2 x2g (e2 x2g (x06 1) (eC (.int 8))) (x06 5)) (x01 (eC (.int 3)) (x0d)))))) (x0d)))) (x1a n)
  (fun i ρ=>∃ y,ρ=[some (scr ns,0),some (.int t,9),some (x0x n f,9),some (.int (Int.ofNat z),9),some (.lst (x0j ((List.range i).map d)),1),y,none])
  [some (scr ns,0),some (.int t,9),some (x0x n f,9),some (.int (Int.ofNat z),9),some (.lst [],1),none,none] (fun i hi ρ hh0=>by
   obtain⟨y,hy⟩:=hh0
   subst hy
   have hi':i<n:=by rw[x14]at hi; exact hi
   have hdi:=(hd i).2 hi' [some (scr ns,0),some (.int t,9),some (x0x n f,9),some (.int (Int.ofNat z),9),some (.lst (x0j ((List.range i).map d)),1),some (.int (Int.ofNat i),9),none] rfl rfl rfl rfl rfl
   refine⟨[some (scr ns,0),some (.int t,9),some (x0x n f,9),some (.int (Int.ofNat z),9),some (.lst (x0j ((List.range i).map d)),1),some (.int (Int.ofNat i),9),none],[some (scr ns,0),some (.int t,9),some (x0x n f,9),some (.int (Int.ofNat z),9),some (.lst (x0j ((List.range (i+1)).map d)),1),some (.int (Int.ofNat i),9),none],?_,.inl ?_,⟨_,rfl⟩⟩
   ·rw[show(x1a n)[i]=.int (Int.ofNat i)by simp[x1a]]; simp
   ·have ex:x0j ((List.range (i+1)).map d)=x0j ((List.range i).map d)++[.int (Int.ofNat (d i))]:=by rw[List.range_succ]; simp[x0j]
    have hl:(x0j ((List.range i).map d)).length<=1000:=by rw[x1e,List.length_map,List.length_range]; omega
    exact y17 rfl (x0q hdi) rfl hl (by rw[ex]; rfl)) ⟨none,rfl⟩
 rw[x14]at e
 refine(x0e ((x3h (x4a hn rfl x32)).trans e)).trans ?_
 refine(x0e (ρ1:=[some (scr ns,0),some (.int t,9),some (x0x n f,9),some (.int (Int.ofNat z),9),some (.lst (x0j ((List.range n).map d)),1),y,some (.lst [],1)]) ?_).trans ?_
 ·simp
 have hdn:∀ i,i<n->d i<n:=fun i _=>(hd i).1
 obtain⟨ρ',e,y',rfl⟩:=x4r (pt:=x0m 5) (body:=x2b (y27 6 (x01 (x0f x3i 2 (x01 (x06 2) (x01 (x2l 1 (x4v (x0f x2c 2 (x01 (x06 2) (x01 (x06 5) (x0d))))) (x0m 7) (x38) (x1z 4 (x06 7)) false) (x0d)))) (x0d)))) (x1a n)
  (fun i ρ=>∃ y,ρ=[some (scr ns,0),some (.int t,9),some (x0x n f,9),some (.int (Int.ofNat z),9),some (.lst (x0j ((List.range n).map d)),1),y,some (.lst (x0j ((List.range i).map (Lad.lr n f z d))),1)])
  [some (scr ns,0),some (.int t,9),some (x0x n f,9),some (.int (Int.ofNat z),9),some (.lst (x0j ((List.range n).map d)),1),y,some (.lst [],1)] (fun i hi ρ hh0=>by
   obtain⟨y,hy⟩:=hh0
   subst hy
   have hi':i<n:=by rw[x14]at hi; exact hi
   refine⟨[some (scr ns,0),some (.int t,9),some (x0x n f,9),some (.int (Int.ofNat z),9),some (.lst (x0j ((List.range n).map d)),1),some (.int (Int.ofNat i),9),some (.lst (x0j ((List.range i).map (Lad.lr n f z d))),1)],[some (scr ns,0),some (.int t,9),some (x0x n f,9),some (.int (Int.ofNat z),9),some (.lst (x0j ((List.range n).map d)),1),some (.int (Int.ofNat i),9),some (.lst (x0j ((List.range (i+1)).map (Lad.lr n f z d))),1)],?_,.inl ?_,⟨_,rfl⟩⟩
   ·rw[show(x1a n)[i]=.int (Int.ofNat i)by simp[x1a]]; simp
   ·have ex:x0j ((List.range (i+1)).map (Lad.lr n f z d))=x0j ((List.range i).map (Lad.lr n f z d))++[.int (Int.ofNat (Lad.lr n f z d i))]:=by rw[List.range_succ]; simp[x0j]
    have hl:(x0j ((List.range i).map (Lad.lr n f z d))).length<=1000:=by rw[x1e,List.length_map,List.length_range]; omega
    have hlow:(Lad.low n f i).length<=1000:=by
     have:=List.length_filter_le (fun y=>decide (f y i=i)) (List.range n)
     rw[List.length_range]at this
     exact Nat.le_trans this hn
    have hit:x4v (x0f x2c 2 (x01 (x06 2) (x01 (x06 5) (x0d)))) [some (scr ns,0),some (.int t,9),some (x0x n f,9),some (.int (Int.ofNat z),9),some (.lst (x0j ((List.range n).map d)),1),some (.int (Int.ofNat i),9),some (.lst (x0j ((List.range i).map (Lad.lr n f z d))),1)]=some (x0j (Lad.low n f i),[some (scr ns,0),some (.int t,9),some (x0x n f,9),some (.int (Int.ofNat z),9),some (.lst (x0j ((List.range n).map d)),1),some (.int (Int.ofNat i),9),some (.lst (x0j ((List.range i).map (Lad.lr n f z d))),1)]):=by
     have hb:x2c [x0x n f,.int (Int.ofNat i)]=some (.lst (x0j (Lad.low n f i)),1):=z3s hn hi'
     simp[-Int.ofNat_eq_natCast,hb,x1e,hlow]
    have hc:=x2f (k:=1) (te:=x1z 4 (x06 7)) (deep:=false) hit (j4p (i:=7) (Lad.low n f i) rfl (fun y=>.int (Int.ofNat (d y))) (fun _=>9) (fun y hy=>by
     have hyn:=(Lad.mem_low.mp hy).1
     have hat:atD (.lst (x0j ((List.range n).map d))) (Int.ofNat y)=some (.int (Int.ofNat (d y))):=x2d hyn
     simp[-Int.ofNat_eq_natCast,hat]))
    have hm:∀ y∈(Lad.low n f i).map d,y<n:=Lad.lr_mem L hz bz hdn
    have e':((Lad.low n f i).map fun y=>D.int (Int.ofNat (d y)))=x0j ((Lad.low n f i).map d):=by simp[x0j]
    rw[e']at hc
    have hj:x3i [x0x n f,.lst (x0j ((Lad.low n f i).map d))]=some (.int (Int.ofNat (Lad.lr n f z d i)),9):=z7n L hz bz hn (by rw[List.length_map]; exact hlow) hm
    have ha:=x0q (x0h (n:=2) (x0k (f:=x06 2) (q:=9) (d:=x0x n f) (ρ:=[some (scr ns,0),some (.int t,9),some (x0x n f,9),some (.int (Int.ofNat z),9),some (.lst (x0j ((List.range n).map d)),1),some (.int (Int.ofNat i),9),some (.lst (x0j ((List.range i).map (Lad.lr n f z d))),1)]) (ρ1:=[some (scr ns,0),some (.int t,9),some (x0x n f,9),some (.int (Int.ofNat z),9),some (.lst (x0j ((List.range n).map d)),1),some (.int (Int.ofNat i),9),some (.lst (x0j ((List.range i).map (Lad.lr n f z d))),1)]) rfl (x0q hc)) rfl hj)
    exact y17 rfl ha rfl hl (by rw[ex]; rfl)) ⟨y,rfl⟩
 rw[x14]at e
 refine(x0e ((x3h (x4a hn rfl x32)).trans e)).trans ?_
 exact x1t (x4d (x0q (q:=0) (ρ1:=[some (scr ns,0),some (.int t,9),some (x0x n f,9),some (.int (Int.ofNat z),9),some (.lst (x0j ((List.range n).map d)),1),y',some (.lst (x0j ((List.range n).map (Lad.lr n f z d))),0)]) rfl))
end
noncomputable def x0o (n:Nat):D->Bool
 | .int i=>decide (0<=i) && decide (i<(n:Int))
 | _=>false
noncomputable def x3u (m n:Nat):D->Bool
 | .tup ds=>decide (ds.length=m) && ds.all (x0o n)
 | _=>false
theorem x1y (d:D):x23 [d]=some (.bl (match d with | .int _=>true | _=>false),9):=by
 unfold x23 y2h
 cases d <;> simp[isD]
theorem x24 (n:Nat) (d:D):x0g [d,.int (Int.ofNat n)]=some (.bl (x0o n d),9):=by
 unfold x0g x73
 cases d with
 | int i=>
  have h:=x1y (.int i)
  by_cases h0:0<=i
  ·by_cases h1:i<(n:Int)
   ·simp[h,x0o,h0,h1]
   ·simp[h,x0o,h0,h1]
  ·simp[h,x0o,h0]
 | non=>simp[x1y,x0o]
 | bl b=>simp[x1y,x0o]
 | str x=>simp[x1y,x0o]
 | tup ds=>simp[x1y,x0o]
 | lst ds=>simp[x1y,x0o]
 | dic ks ds=>simp[x1y,x0o]
 | exc nm=>simp[x1y,x0o]
 | ob f fo vs ds=>simp[x1y,x0o]
theorem z1q (m n:Nat) (d:D) (hl:∀ ds,d=.tup ds->ds.length<=1000):x3f [d,.int (Int.ofNat m),.int (Int.ofNat n)]=some (.bl (x3u m n d),9):=by
 unfold x3f x7k
 cases d with
 | tup ds=>
  have hl:=hl ds rfl
  refine x28 ?_
  have hs:x3z 3 [.tup ds,.int (Int.ofNat m),.int (Int.ofNat n)]=[some (.tup ds,9),some (.int (Int.ofNat m),9),some (.int (Int.ofNat n),9)]:=rfl
  rw[hs]
  by_cases hm:ds.length=m
  ·refine(x0e (ρ1:=[some (.tup ds,9),some (.int (Int.ofNat m),9),some (.int (Int.ofNat n),9)]) ?_).trans ?_
   ·simp[-Int.ofNat_eq_natCast,isD,x9r,hm,y36]
   ·have hi:x4v (x06 0) [some (.tup ds,9),some (.int (Int.ofNat m),9),some (.int (Int.ofNat n),9)]=some (ds,[some (.tup ds,9),some (.int (Int.ofNat m),9),some (.int (Int.ofNat n),9)]):=by simp[hl]
    have hc:=x4w (k:=1) (pt:=x0m 3) (tt:=x38) (te:=x0f x0g 2 (x01 (x06 3) (x01 (x06 2) (x0d)))) (deep:=false) ds (fun _=>[some (.tup ds,9),some (.int (Int.ofNat m),9),some (.int (Int.ofNat n),9)]) (fun _=>true) (fun i=>.bl (x0o n (ds.getD i .non))) (fun i hi=>by
     have hg:ds.getD i .non=ds[i]:=by simp[hi]
     refine⟨[some (.tup ds,9),some (.int (Int.ofNat m),9),some (.int (Int.ofNat n),9),some (ds[i],x41 ds[i])],[some (.tup ds,9),some (.int (Int.ofNat m),9),some (.int (Int.ofNat n),9),some (ds[i],x41 ds[i])],by simp[-x41],rfl,?_⟩
     rw[if_pos rfl]
     refine⟨9,[some (.tup ds,9),some (.int (Int.ofNat m),9),some (.int (Int.ofNat n),9),some (ds[i],x41 ds[i])],?_,by simp,by simp⟩
     have hv:∃ q,x06 3 [some (.tup ds,9),some (.int (Int.ofNat m),9),some (.int (Int.ofNat n),9),some (ds[i],x41 ds[i])]=some (ds[i],q,[some (.tup ds,9),some (.int (Int.ofNat m),9),some (.int (Int.ofNat n),9),some (ds[i],x41 ds[i])]):=by
      cases hL:(ds[i]).isL with
      | false=>exact⟨9,by simp[-x41,hL]⟩
      | true=>exact⟨0,by simp[hL]⟩
     obtain⟨q,hv⟩:=hv
     rw[hg]
     exact x0h (x0k hv (x0q (q:=9) rfl)) rfl (x24 n _))
    rw[show(List.range ds.length).filter (fun _=>true)=List.range ds.length by simp]at hc
    have e:(List.range ds.length).map (fun i=>D.bl (x0o n (ds.getD i .non)))=ds.map fun d=>.bl (x0o n d):=by
     apply List.ext_getElem?
     intro k
     by_cases hk:k<ds.length
     ·simp[hk]
     ·rw[List.getElem?_eq_none (by simp; omega),List.getElem?_eq_none (by simp; omega)]
    rw[e]at hc
    refine x1t (j37 (x0q (x2f (deep:=false) hi hc)) ?_)
    simp only[z3v,y7a,Option.map_some,x3u,hm]
    simp[List.all_map,Function.comp_def]
  ·have e:x3u m n (.tup ds)=false:=by simp[x3u,hm]
   rw[e]
   refine x7c ?_
   simp[-Int.ofNat_eq_natCast,isD,x9r,y36,hm]
 | non=>simp[isD,x3u]
 | bl b=>simp[isD,x3u]
 | int i=>simp[isD,x3u]
 | str x=>simp[isD,x3u]
 | lst ds=>simp[isD,x3u]
 | dic ks ds=>simp[isD,x3u]
 | exc nm=>simp[isD,x3u]
 | ob f fo vs ds=>simp[isD,x3u]
theorem y8j (m n:Nat) (hm:m<=1000) (d:D):x3f [d,.int (Int.ofNat m),.int (Int.ofNat n)]=some (.bl (x3u m n d),9):=by
 by_cases h:∀ ds,d=.tup ds->ds.length<=1000
 ·exact z1q m n d h
 ·cases d with
  | tup ds=>
   have hne:ds.length≠m:=fun e=>h fun ds' e'=>by cases e'; omega
   have e:x3u m n (.tup ds)=false:=by simp[x3u,hne]
   unfold x3f x7k
   refine x28 ?_
   rw[e]
   refine x7c ?_
   simp[-Int.ofNat_eq_natCast,isD,x9r,y36,hne]
  | _=>exact absurd (fun ds e=>nomatch e) h
theorem y8l {n:Nat} {r:Nat->Nat} (hr:∀ i,i<n->r i<n):x3u n n (x1j n r)=true:=by
 unfold x3u x1j
 simp only[x1e,List.length_map,List.length_range,decide_true,Bool.true_and]
 rw[List.all_eq_true]
 intro d m
 obtain⟨x,hx,rfl⟩:=List.mem_map.mp m
 obtain⟨i,hi,rfl⟩:=List.mem_map.mp hx
 have:=hr i (List.mem_range.mp hi)
 show(decide ((0:Int)<=(r i:Int)) && decide ((r i:Int)<(n:Int)))=true
 simp; omega
theorem y5r {n:Nat} {f:Nat->Nat->Nat} (hn:n<=1000) (d:D):x6e [x0x n f,d]=some (.bl (x3u n n d),9):=by
 unfold x6e y3t
 have hv:∃ q ρ',x06 1 [some (x0x n f,9),some (d,x41 d)]=some (d,q,ρ')/\ρ'[0]? = some (some (x0x n f,9)):=by
  cases hL:d.isL with
  | false=>exact⟨9,[some (x0x n f,9),some (d,x41 d)],by simp[-x41,hL],rfl⟩
  | true=>exact⟨0,[some (x0x n f,9),some (d,0)],by simp[hL],rfl⟩
 obtain⟨q,ρ',hv,h0⟩:=hv
 have hln:x15 0 ρ'=some (.int (Int.ofNat n),9,ρ'):=by unfold x15; simp only[h0,x32]
 exact x28 (x1t (x0h (x0k (ρ:=[some (x0x n f,9),some (d,x41 d)]) hv (x0k hln (x0q hln))) rfl (y8j n n hn d)))
theorem y8f (n:Nat):x1a n=x0j ((List.range n).map fun i=>i):=by rw[List.map_id']; rfl
theorem x7n {i:Nat} {ρ:Rho} {d:D} (h:ρ[i]? = some (some (d,x41 d))):x06 i ρ=some (d,x41 d,ρ):=by
 unfold x06
 rw[h]
 cases hL:d.isL with
 | false=>simp[hL]
 | true=>simp[hL]
theorem j1r {i:Nat} {te:Den} {ρ:Rho} (ds:List D) (hi:ρ.length=i) (v:D->D) (q:D->Nat)
  (he:∀ d,d∈ds->te (ρ++[some (d,x41 d)])=some (v d,q d,ρ++[some (d,x41 d)])) :
  x6g 1 (x0m i) x38 te false ds ρ=some (ds.map v,ρ):=by
 have h:=x4w (k:=1) (pt:=x0m i) (tt:=x38) (te:=te) (deep:=false) ds (fun _=>ρ) (fun _=>true) (fun j=>v (ds.getD j .non)) (fun j hj=>?_)
 ·rw[show(List.range ds.length).filter (fun _=>true)=List.range ds.length by simp]at h
  rw[h]
  have e:(List.range ds.length).map (fun j=>v (ds.getD j .non))=ds.map v:=by
   apply List.ext_getElem?
   intro k
   by_cases hk:k<ds.length
   ·simp[hk]
   ·rw[List.getElem?_eq_none (by simp; omega),List.getElem?_eq_none (by simp; omega)]
  rw[e]
 ·have hg:ds.getD j .non=ds[j]:=by simp[hj]
  refine⟨ρ++[some (ds[j],x41 ds[j])],_,?_,rfl,?_⟩
  ·unfold x0m
   rw[if_pos (by simp[hi])]
   subst hi
   simp[-x41,List.set_append]
  ·rw[if_pos rfl,hg]
   exact⟨q _,_,he _ (List.getElem_mem hj),by simp,by simp⟩
theorem y6j {i:Nat} {te:Den} {it:y1v} {ρ:Rho} {ds:List D} (hi:ρ.length=i) (hit:it ρ=some (ds,ρ)) (b:D->Bool) (q:D->Nat)
  (he:∀ d,d∈ds->te (ρ++[some (d,x41 d)])=some (.bl (b d),q d,ρ++[some (d,x41 d)])) :
  eB z3v (x01 (x2l 1 it (x0m i) x38 te false) x0d) ρ=some (.bl (ds.all b),9,ρ):=by
 refine j37 (x0q (x2f (deep:=false) hit (j1r ds hi (fun d=>.bl (b d)) q he))) ?_
 simp only[z3v,y7a,Option.map_some]
 simp[List.all_map,Function.comp_def]
noncomputable def y1p (ds:List D) (i:Nat):Nat:=match ds[i]? with
 | some (.int k)=>k.toNat
 | _=>0
theorem z5t {m n:Nat} {ds:List D} (h:x3u m n (.tup ds)=true):ds.length=m/\∀ i,i<m->ds[i]? = some (.int (Int.ofNat (y1p ds i)))/\y1p ds i<n:=by
 unfold x3u at h
 simp only[Bool.and_eq_true,decide_eq_true_eq,List.all_eq_true]at h
 obtain⟨hl,ha⟩:=h
 refine⟨hl,fun i hi=>?_⟩
 have hi':i<ds.length:=by omega
 have hm:=ha ds[i] (List.getElem_mem hi')
 have hg:ds[i]? = some ds[i]:=List.getElem?_eq_getElem hi'
 unfold y1p
 rw[hg]
 cases e:ds[i]with
 | int k=>
  rw[e]at hm
  unfold x0o at hm
  simp only[Bool.and_eq_true,decide_eq_true_eq]at hm
  refine⟨?_,?_⟩
  ·show some (D.int k)=some (D.int ((k.toNat:Nat):Int))
   rw[Int.toNat_of_nonneg hm.1]
  ·show k.toNat<n
   omega
 | _=>rw[e]at hm; cases hm
theorem j2j {m n:Nat} {ds:List D} (h:x3u m n (.tup ds)=true):D.tup ds=x1j m (y1p ds):=by
 obtain⟨hl,key⟩:=z5t h
 unfold x1j
 congr 1
 apply List.ext_getElem?
 intro i
 by_cases hi:i<m
 ·rw[(key i hi).1,y05,List.getElem?_map,List.getElem?_range hi]
  rfl
 ·rw[List.getElem?_eq_none (by omega),List.getElem?_eq_none (by simp[x1e]; omega)]
theorem z54 {n:Nat} {ds:List D} (h:x3u n n (.tup ds)=true):D.tup ds=x1j n (y1p ds)/\∀ i,i<n->y1p ds i<n:=⟨j2j h,fun i hi=>((z5t h).2 i hi).2⟩
theorem y85 {n i:Nat} {r:Nat->Nat} (hi:i<n):y1p (x0j ((List.range n).map r)) i=r i:=by
 unfold y1p
 rw[y05,List.getElem?_map,List.getElem?_range hi]
 rfl
noncomputable def rr (n:Nat) (f:Nat->Nat->Nat) (d:D):Bool:=match d with
 | .tup ds=>x3u n n (.tup ds) && x88 n f (y1p ds)
 | _=>false
theorem y4y {n:Nat} {f:Nat->Nat->Nat} {r s:Nat->Nat} (h:∀ i,i<n->r i=s i):x88 n f r=x88 n f s:=by
 rw[Bool.eq_iff_iff,x95,x95]
 constructor
 ·intro k y x hy hx e
  rw[<- h x hx,<- h y hy]; exact k y x hy hx e
 ·intro k y x hy hx e
  rw[h x hx,h y hy]; exact k y x hy hx e
theorem z8i {n:Nat} {f:Nat->Nat->Nat} {r:Nat->Nat} (hr:∀ i,i<n->r i<n):rr n f (x1j n r)=x88 n f r:=by
 have h:=y8l hr
 show(x3u n n (x1j n r) && x88 n f (y1p (x0j ((List.range n).map r))))=_
 rw[h,Bool.true_and]
 exact y4y fun i hi=>y85 hi
theorem y4w {n:Nat} {f:Nat->Nat->Nat} (hn:n<=1000) (d:D):x2k [x0x n f,d]=some (.bl (rr n f d),9):=by
 have h1:=y5r (n:=n) (f:=f) hn d
 have v1:x06 1 [some (x0x n f,9),some (d,x41 d)]=some (d,x41 d,[some (x0x n f,9),some (d,x41 d)]):=x7n rfl
 have v0:x06 0 [some (x0x n f,9),some (d,x41 d)]=some (x0x n f,9,[some (x0x n f,9),some (d,x41 d)]):=rfl
 have c1:=x0h (n:=2) (x0k v0 (x0q v1)) rfl h1
 unfold x2k x5w
 refine x28 (x1t (ρ1:=[some (x0x n f,9),some (d,x41 d)]) ?_)
 show y7k _ _ [some (x0x n f,9),some (d,x41 d)]=_
 unfold y7k
 rw[c1]
 cases hR:x3u n n d with
 | false=>
  have:rr n f d=false:=by cases d <;> simp_all [rr]
  simp[this]
 | true=>
  cases d with
  | tup ds=>
   obtain⟨e,hb⟩:=z54 hR
   have r:=z3t (f:=f) hn hb
   rw[<- e]at r
   have c2:=x0h (n:=2) (x0k v0 (x0q v1)) rfl r
   simp only[if_true,c2]
   simp[rr,hR]
  | _=>cases hR
section
variable {n:Nat} {f:Nat->Nat->Nat} {p:Nat}
noncomputable def z7u (n:Nat) (f:Nat->Nat->Nat) (p:Nat):D->Bool
 | .tup [a,b,c]=>x0o p a && x0o p b && rr n f c
 | _=>false
noncomputable def j74 (n:Nat) (p:Nat):D->Bool
 | .tup [a,b]=>x0o p a && x0o n b
 | _=>false
theorem z6f {m k:Nat} (h:m≠k):dNe (.int (Int.ofNat m)) (.int (Int.ofNat k))=some (.bl true):=by rw[y36]; simp[h]
noncomputable def z16 (p:Nat):D->Bool
 | .tup [a,b,_]=>x0o p a && x0o p b
 | _=>false
theorem j6p {p:Nat} {d:D} (h:z16 p d=true):∃ a b c,d=.tup [a,b,c]:=by
 unfold z16 at h
 split at h
 ·exact⟨_,_,_,rfl⟩
 ·cases h
theorem z1o (d:D):x1n [.int (Int.ofNat p),d]=some (.bl (z16 p d),9):=by
 unfold x1n x72
 cases d with
 | tup ds=>
  by_cases h3:ds.length=3
  ·match ds,h3 with
   | [a,b,c],_=>
    have na:=x24 p a
    have nb:=x24 p b
    have l3:dNe (.int 3) (.int 3)=some (.bl false):=(y9b _ _).trans (by simp)
    have a0:atD (.tup [a,b,c]) 0=some a:=rfl
    have a1:atD (.tup [a,b,c]) 1=some b:=rfl
    have ll:x9r (.tup [a,b,c])=some 3:=rfl
    cases ha:x0o p a <;> simp[-Int.ofNat_eq_natCast,isD,ll,l3,a0,a1,na,nb,ha,z16]
  ·have e:z16 p (.tup ds)=false:=by
    match ds,h3 with
    | [],_=>rfl
    | [_],_=>rfl
    | [_,_],_=>rfl
    | [_,_,_],h=>exact absurd rfl h
    | _::_::_::_::_,_=>rfl
   have l3:dNe (.int (Int.ofNat ds.length)) (.int 3)=some (.bl true):=z6f (k:=3) h3
   have ll:x9r (.tup ds)=some ds.length:=rfl
   rw[e]
   simp[-Int.ofNat_eq_natCast,isD,ll,l3]
 | _=>simp[isD,z16]
theorem z6m {d:D} (h:z16 p d=false):z7u n f p d=false:=by
 unfold z16 at h
 unfold z7u
 split at h
 ·simp only[h,Bool.false_and]
 ·rfl
theorem y9s (hn:n<=1000) (d:D):x6o [x0x n f,.int (Int.ofNat p),d]=some (.bl (z7u n f p d),9):=by
 have g:=z1o (p:=p) d
 unfold x6o y6x
 cases hb:z16 p d with
 | false=>
  rw[z6m hb]
  rw[hb]at g
  refine x28 (x1t (ρ1:=x3z 3 [x0x n f,.int (Int.ofNat p),d]) ?_)
  have hc:x0f x1n 2 (x01 (x06 1) (x01 (x06 2) x0d)) (x3z 3 [x0x n f,.int (Int.ofNat p),d])=some (.bl false,9,x3z 3 [x0x n f,.int (Int.ofNat p),d]):=x0h (x0k (q:=9) (d:=.int (Int.ofNat p)) rfl (x0q (x7n rfl))) rfl g
  simp only[y7k,hc]
  rfl
 | true=>
  obtain⟨a,b,c,rfl⟩:=j6p hb
  have e:z7u n f p (.tup [a,b,c])=rr n f c:=by
   have hb':(x0o p a && x0o p b)=true:=hb
   show(x0o p a && x0o p b && rr n f c)=_
   rw[hb']; rfl
  have rc:=y4w (f:=f) hn c
  have a2:atD (.tup [a,b,c]) 2=some c:=rfl
  rw[e]
  rw[hb]at g
  simp[-Int.ofNat_eq_natCast,a2,rc,g]
noncomputable def j5h (n:Nat) (f:Nat->Nat->Nat) (p:Nat):D->Bool
 | .tup ds=>decide (ds.length<=60) && ds.all (z7u n f p)
 | _=>false
noncomputable def j5v (n:Nat) (p:Nat):D->Bool
 | .tup ds=>decide (ds.length<=60) && ds.all (j74 n p)
 | _=>false
noncomputable def j6g (n:Nat) (f:Nat->Nat->Nat):D->Bool
 | .tup [.int k,b,c]=>decide (1<=k) && decide (k<=8) && (j5h n f k.toNat b && j5v n k.toNat c)
 | _=>false
theorem y7x (d:D):x22 [d]=some (.bl (match d with | .int k=>decide (1<=k) && decide (k<=8) | _=>false),9):=by
 have hw:=x1y d
 unfold x22 x5u
 cases d with
 | int k=>by_cases k1:1<=k <;> by_cases k2:k<=8 <;> simp[hw,k1,k2]
 | _=>simp[hw]
end
theorem z4o (ns:List Int) {k:Int} (hk:0<=k) {m:Int} (hm:0<m):∃ v:Nat,(v:Int)<m/\x0a [scr ns,.int k,.int m]=some (.int (Int.ofNat v),9):=by
 have h1:=x5j ns k hm
 have h2:=x6d ns k hm
 refine⟨(x6x ns k m).toNat,by omega,?_⟩
 rw[x6f ns k m hk hm]
 have:x6x ns k m=Int.ofNat (x6x ns k m).toNat:=by show _=(((x6x ns k m).toNat:Nat):Int); omega
 rw[<- this]
theorem y2q {m:Nat} (hm:m<=1000) {fe:Den} {ρ ρ':Rho} {q:Nat} (h:fe ρ=some (.int (Int.ofNat m),q,ρ')):x1f (x01 fe x0d) ρ=some (x1a m,ρ'):=by
 have b1:(-1000:Int)<=Int.ofNat m:=by show(-1000:Int)<=m; omega
 have b2:Int.ofNat m<=1000:=by show(m:Int)<=1000; omega
 simp only[x1f,x01,x0d,h]
 rw[if_pos ⟨b1,b2⟩]
 rfl
theorem x52 {α:Type} {k:Nat} {pt:x5s} {tt:x1l} {te:Den} {ρ:Rho} (enc:α->D) (ext:α->Rho) (b:α->Bool) (v:α->D) (q:α->Nat):∀ l:List α,
  (∀ x∈l,pt (enc x) (ρ++List.replicate k none)=some (ρ++ext x)/\tt (ρ++ext x)=some (b x,ρ++ext x)/\(b x=true->te (ρ++ext x)=some (v x,q x,ρ++ext x)))->x6g k pt tt te false (l.map enc) ρ=some ((l.filter b).map v,ρ)
 | [],_=>rfl
 | x::l,h=>by
  obtain⟨h1,h2,h3⟩:=h x List.mem_cons_self
  have ih:=x52 enc ext b v q l (fun y m=>h y (List.mem_cons_of_mem _ m))
  have ht:(ρ++ext x).take ρ.length=ρ:=by simp
  rw[List.map_cons]
  unfold x6g
  rw[h1]
  simp only[h2]
  cases hb:b x with
  | true=>
   simp only[if_true,h3 hb,ht,ih]
   rw[List.filter_cons_of_pos hb]
   simp
  | false=>
   simp only[ht,ih]
   rw[List.filter_cons_of_neg (by rw[hb]; simp)]
   simp
theorem y7f (v:Nat) (l:List Nat):inD (.int (Int.ofNat v)) (.lst (x0j l))=some (decide (v∈l)):=by
 show some ((x8l (x0j l)).any fun y=>PyData.eqv y (toP (.int (Int.ofNat v))))=_
 congr 1
 induction l with
 | nil=>rfl
 | cons a l ih=>
  have h1:(x8l (x0j (a::l)))=toP (.int (Int.ofNat a))::x8l (x0j l):=rfl
  rw[h1,List.any_cons,ih]
  have h2:PyData.eqv (toP (.int (Int.ofNat a))) (toP (.int (Int.ofNat v)))=decide (a=v):=y5t a v
  rw[h2]
  by_cases h:a=v
  ·simp[h]
  ·have h':¬ v=a:=fun q=>h q.symm
   simp[h,h']
theorem y0s (v:Nat) (l:List Nat):dIn (.int (Int.ofNat v)) (.lst (x0j l))=some (.bl (decide (v∈l))):=by
 unfold dIn
 rw[if_pos ⟨(Sh.int (k:=0) _).ok,(z3k l).ok⟩,y7f]
 rfl
theorem z3q {i:Nat} {ρ:Rho} {x:D × Nat} (h:ρ[i]? = some (some x)):ρ.set i (some x)=ρ:=by
 apply List.ext_getElem?
 intro k
 by_cases hk:i=k
 ·subst hk
  rw[h,List.getElem?_set_self (List.getElem?_eq_some_iff.mp h).1]
 ·rw[List.getElem?_set_ne hk]
theorem x2z {i q:Nat} {ρ:Rho} {ds:List D} (h:ρ[i]? = some (some (.lst ds,q))):x06 i ρ=some (.lst ds,0,ρ.set i (some (.lst ds,0))):=by
 unfold x06
 rw[h]
 by_cases hq:q=0
 ·subst hq
  rw[z3q h]
  rfl
 ·simp[hq]
theorem y0q {g:x1l} {ρ ρ1:Rho} {b:Bool} (e:g ρ=some (b,ρ1)):x4h g ρ=some (!b,ρ1):=by unfold x4h; rw[e]
theorem x7j {f:Den} {ρ ρ1:Rho} {b:Bool} {q:Nat} (h:f ρ=some (.bl b,q,ρ1)):x6t f ρ=some (b,ρ1):=by unfold x6t; rw[h]; cases b <;> rfl
theorem x5n {i q n:Nat} {ρ:Rho} {d:D} (h:ρ[i]? = some (some (d,q))) (hl:x9r d=some n):x15 i ρ=some (.int (Int.ofNat n),9,ρ):=by unfold x15; rw[h]; simp only[hl]
theorem z6d {i q:Nat} {ρ:Rho} {d:D} (h:ρ[i]? = some (some (d,q))) (hd:d.isL=false):x06 i ρ=some (d,9,ρ):=by unfold x06; rw[h]; simp[hd]
theorem y0z {i q:Nat} {ρ:Rho} {x d:D} {b:Den} {k:Int} {q':Nat} (hb:b ρ=some (.int k,q',ρ)) (h:ρ[i]? = some (some (x,q))) (ha:atD x k=some d) (hd:d.isL=false):x1z i b ρ=some (d,9,ρ):=by
 unfold x1z
 rw[h]
 simp only[hb,h,ha,hd,x41]
 simp
theorem j2f {ρ:Rho} {x d:D} {a b:Den} {k:Int} {q q':Nat} {ρ1 ρ2:Rho} (h:a ρ=some (x,q,ρ1)) (hb:b ρ1=some (.int k,q',ρ2)) (ha:atD x k=some d) (hx:x.isL=false) (hd:d.isL=false):eIx a b ρ=some (d,9,ρ2):=by
 unfold eIx
 rw[h]
 simp only[hb,ha,hd,hx,x41]
 simp
theorem x5z (ns:List Int) {c:Int} (hc:0<=c) {n:Nat} (hn:0<n):∃ v,v<n/\x0a [scr ns,.int c,.int (Int.ofNat n)]=some (.int (Int.ofNat v),9):=by
 have hnp:(0:Int)<Int.ofNat n:=by show(0:Int)<(n:Int); omega
 have h1:=x5j ns c hnp
 have h2:=x6d ns c hnp
 have h3:Int.ofNat n=(n:Int):=rfl
 obtain⟨v,hv⟩:=Int.eq_ofNat_of_zero_le h1
 refine⟨v,by rw[hv,h3]at h2; omega,?_⟩
 rw[x6f ns c _ hc hnp,hv]
 rfl
theorem x6m {g:x1o} {ρ ρ1:Rho} {ds:List D} (h:g ρ=some (ds,ρ1)) (hl:ds.length<=1000):x34 g ρ=some (.tup ds,9,ρ1):=by unfold x34; rw[h]; exact if_pos hl
theorem z5a {α J:Type} {pt:x5s} {body:x1d} (enc:α->D) (S:List D->J->Rho) (v:α->D):∀ (l:List α) (acc:List D) (j:J),acc.length+l.length<=1000->
  (∀ a∈l,∀ ds j,ds.length<=1000->∃ ρ1 j',pt (enc a) (S ds j)=some ρ1/\body ρ1=some (.nx (S (ds++[v a]) j')))->∃ j',x8o pt body (l.map enc) (S acc j)=some (.nx (S (acc++l.map v) j'))
 | [],acc,j,_,_=>⟨j,by rw[List.map_nil,List.map_nil,List.append_nil]; rfl⟩
 | a::l,acc,j,hl,h=>by
  rw[List.length_cons]at hl
  obtain⟨ρ1,j1,h1,h2⟩:=h a List.mem_cons_self acc j (by omega)
  obtain⟨j2,e⟩:=z5a enc S v l (acc++[v a]) j1 (by rw[List.length_append]; show _+1+_<=1000; omega) fun b hb=>h b (List.mem_cons_of_mem _ hb)
  refine⟨j2,?_⟩
  rw[List.map_cons,y2t h1 h2,e,List.append_assoc]
  rfl
theorem y0t {α β J:Type} {pt:x5s} {body:x1d} (enc:α->D) (S:List D->J->Rho) (dec:β->D) (good:β->Prop):∀ (l:List α) (acc:List D) (j:J),acc.length+l.length<=1000->
  (∀ a∈l,∀ ds j,ds.length<=1000->∃ ρ1 j' x,good x/\pt (enc a) (S ds j)=some ρ1/\body ρ1=some (.nx (S (ds++[dec x]) j')))->∃ (xs:List β) (j':J),xs.length=l.length/\(∀ x∈xs,good x)/\x8o pt body (l.map enc) (S acc j)=some (.nx (S (acc++xs.map dec) j'))
 | [],acc,j,_,_=>⟨[],j,rfl,(fun _ h=>nomatch h),by rw[List.map_nil,List.map_nil,List.append_nil]; rfl⟩
 | a::l,acc,j,hl,h=>by
  rw[List.length_cons]at hl
  obtain⟨ρ1,j1,x,hx,h1,h2⟩:=h a List.mem_cons_self acc j (by omega)
  obtain⟨xs,j2,l2,g2,e⟩:=y0t enc S dec good l (acc++[dec x]) j1 (by rw[List.length_append]; show _+1+_<=1000; omega) fun b hb=>h b (List.mem_cons_of_mem _ hb)
  refine⟨x::xs,j2,by rw[List.length_cons,List.length_cons,l2],fun y hy=>?_,?_⟩
  ·rcases List.mem_cons.mp hy with rfl | hy
   ·exact hx
   ·exact g2 y hy
  ·rw[List.map_cons,y2t h1 h2,e,List.append_assoc]
   rfl
noncomputable abbrev Led:=Nat ⊕ (Nat->Nat)
structure Hs where
 p:Nat
 W:List (Nat × Nat × Led)
noncomputable def x5c:Led->Bool
 | .inl _=>true
 | .inr _=>false
noncomputable def x9s (n:Nat):Led->D
 | .inl j=>.int (Int.ofNat j)
 | .inr r=>x1j n r
noncomputable def x3b (n:Nat) (w:Nat × Nat × Led):D:=.tup [.int (Int.ofNat w.1),.int (Int.ofNat w.2.1),x9s n w.2.2]
noncomputable def x18 (n:Nat) (H:Hs):D:=.tup [.int (Int.ofNat H.p),.tup (H.W.map (x3b n))]
noncomputable def x10 (n:Nat) (P:List Hs):D:=.tup (P.map (x18 n))
noncomputable def okL (n:Nat) (f:Nat->Nat->Nat) (h:Nat):Led->Prop
 | .inl j=>j<h
 | .inr r=>(∀ i,i<n->r i<n)/\∀ x y,x<n->y<n->f x y=y->f (r x) (r y)=r y
structure Hs.Ok (n:Nat) (f:Nat->Nat->Nat) (h:Nat) (H:Hs):Prop where
 p1:1<=H.p
 p8:H.p<=8
 w60:H.W.length<=60
 ws:∀ w∈H.W,w.1<H.p/\w.2.1<H.p/\okL n f h w.2.2
@[simp] theorem y2w {n:Nat} {x:Led}:(x9s n x).isL=false:=by cases x <;> rfl
@[simp] theorem y8s {n:Nat} {H:Hs}:(x18 n H).isL=false:=rfl
@[simp] theorem j31 {n:Nat} {P:List Hs}:(x10 n P).isL=false:=rfl
theorem z58 {i j:Int} (c:(-(2 ^ 64)<i/\i<2 ^ 64)\/(-(2 ^ 64)<j/\j<2 ^ 64)):y00 (.int i) (.int j)=some (.int (i*j)):=by
 unfold y00 gI
 dsimp only
 rw[if_pos c]
theorem z57 {a:Nat} (h:a<1000):-(2 ^ 64)<(Int.ofNat a)/\(Int.ofNat a)<2 ^ 64:=by
 have e:Int.ofNat a=(a:Int):=rfl
 rw[e]
 constructor <;> omega
theorem z5m {c:Nat} {j:Nat} (h:c<1000):y00 (.int (Int.ofNat c)) (.int (Int.ofNat j))=some (.int (Int.ofNat c*Int.ofNat j)):=z58 (.inl (z57 h))
noncomputable abbrev P11 (ns:List Int) (t:Int) (n:Nat) (f:Nat->Nat->Nat) (h:Nat) (l:List D) (a b c d e g:Option (D × Nat)):Rho:=[some (scr ns,0),some (.int t,9),some (x0x n f,9),some (.int (Int.ofNat h),9),some (.lst l,1),a,b,c,d,e,g]
section
variable {n:Nat} {f:Nat->Nat->Nat} (L:Lad n f) {z:Nat} (hz:z<n) (bz:∀ j,j<n->f z j=j)
include L hz bz
theorem y8t (ns:List Int) (t:Int) (h0:0<=t) {h:Nat} (hh:0<h) (l:List D) (j:Nat) {p:Nat} (hp:0<p) (m:Nat) (hm:m<=5) (a b c:Option (D × Nat)) :
  ∃ (W:List (Nat × Nat × Led)) (a' b' c':Option (D × Nat)),W.length=m/\(∀ w∈W,w.1<p/\w.2.1<p/\okL n f h w.2.2) /\
   x8o (x0m 8) x4j (x1a m) (P11 ns t n f h l (some (.int (Int.ofNat j),9)) (some (.int (Int.ofNat p),9)) (some (.lst [],1)) a b c)=some (.nx (P11 ns t n f h l (some (.int (Int.ofNat j),9)) (some (.int (Int.ofNat p),9)) (some (.lst (W.map (x3b n)),1)) a' b' c')):=by
 obtain⟨W,j',hl,hg,e⟩:=y0t (J:=Option (D × Nat) × Option (D × Nat) × Option (D × Nat)) (pt:=x0m 8) (body:=x4j) (fun k:Nat=>D.int (Int.ofNat k)) (fun ds x=>P11 ns t n f h l (some (.int (Int.ofNat j),9)) (some (.int (Int.ofNat p),9)) (some (.lst ds,1)) x.1 x.2.1 x.2.2) (x3b n) (fun w=>w.1<p/\w.2.1<p/\okL n f h w.2.2) (List.range m) [] (a,b,c) (by rw[List.length_range]; show 0+m<=1000; omega) (fun k hk ds x hds=>by
  have i1:Int.ofNat j=(j:Int):=rfl
  have i2:Int.ofNat k=(k:Int):=rfl
  obtain⟨y,hy⟩:∃ y:Int,y=t+10+120*Int.ofNat j+23*Int.ofNat k:=⟨_,rfl⟩
  have hy0:0<=y:=by omega
  obtain⟨d,hd,hR⟩:=y65 L hz bz ns (y+4) (by omega)
  obtain⟨s,hs,es⟩:=x5z ns hy0 hp
  obtain⟨g,hg,eg⟩:=x5z ns (c:=y+1) (by omega) hp
  obtain⟨v,hv,ev⟩:=x5z ns (c:=y+2) (by omega) (n:=3) (by decide)
  obtain⟨o,ho,eo⟩:=x5z ns (c:=y+3) (by omega) hh
  have okr:okL n f h (.inr (Lad.lr n f z d)):=⟨fun i _=>L.lr_lt hz bz hd i,fun x y hx hy e=>L.lr_rises hz bz hd hx hy e⟩
  generalize Lad.lr n f z d=r at hR okr
  have fin:∀ x:Led,x2b (y27 7 (x01 (x34 (x01 (x0f x0a 3 (x01 (x06 0) (x01 (x06 9) (x01 (x06 6) (x0d))))) (x01 (x0f x0a 3 (x01 (x06 0) (x01 (e2 x2g (x06 9) (eC (.int 1))) (x01 (x06 6) (x0d))))) (x01 (x06 10) (x0d))))) (x0d))) (P11 ns t n f h l (some (.int (Int.ofNat j),9)) (some (.int (Int.ofNat p),9)) (some (.lst ds,1)) (some (.int (Int.ofNat k),9)) (some (.int y,9)) (some (x9s n x,9)))=some (.nx (P11 ns t n f h l (some (.int (Int.ofNat j),9)) (some (.int (Int.ofNat p),9)) (some (.lst (ds++[x3b n (s,g,x)]),1)) (some (.int (Int.ofNat k),9)) (some (.int y,9)) (some (x9s n x,9)))):=fun x=>by
   have v10:x06 10 (P11 ns t n f h l (some (.int (Int.ofNat j),9)) (some (.int (Int.ofNat p),9)) (some (.lst ds,1)) (some (.int (Int.ofNat k),9)) (some (.int y,9)) (some (x9s n x,9)))=some (x9s n x,9,P11 ns t n f h l (some (.int (Int.ofNat j),9)) (some (.int (Int.ofNat p),9)) (some (.lst ds,1)) (some (.int (Int.ofNat k),9)) (some (.int y,9)) (some (x9s n x,9))):=z6d rfl y2w
   exact y17 (ds:=ds) rfl (x0q (x6m (x0k (x0h (ds:=[scr ns,.int y,.int (Int.ofNat p)]) rfl rfl es) (x0k (x0h (ds:=[scr ns,.int (y+1),.int (Int.ofNat p)]) rfl rfl eg) (x0q v10))) (show 3<=1000 by decide))) rfl hds rfl
  have st1:x2r 9 (e2 x2g (e2 x2g (e2 x2g (x06 1) (eC (.int 10))) (e2 y00 (eC (.int 120)) (x06 5))) (e2 y00 (eC (.int 23)) (x06 8))) (P11 ns t n f h l (some (.int (Int.ofNat j),9)) (some (.int (Int.ofNat p),9)) (some (.lst ds,1)) (some (.int (Int.ofNat k),9)) x.2.1 x.2.2)=some (.nx (P11 ns t n f h l (some (.int (Int.ofNat j),9)) (some (.int (Int.ofNat p),9)) (some (.lst ds,1)) (some (.int (Int.ofNat k),9)) (some (.int y,9)) x.2.2)):=by
   refine x27 (d:=.int y) (q:=9) (ρ1:=P11 ns t n f h l (some (.int (Int.ofNat j),9)) (some (.int (Int.ofNat p),9)) (some (.lst ds,1)) (some (.int (Int.ofNat k),9)) x.2.1 x.2.2) ?_ rfl
   rw[hy]
   exact x3m (x3m (x3m (fa:=x06 1) (fb:=eC (.int 10)) (q:=9) (q':=9) rfl rfl rfl) (x3m (fa:=eC (.int 120)) (fb:=x06 5) (q:=9) (q':=9) rfl rfl (z5m (c:=120) (by decide))) rfl) (x3m (fa:=eC (.int 23)) (fb:=x06 8) (q:=9) (q':=9) rfl rfl (z5m (c:=23) (by decide))) rfl
  have st2:x2r 10 (x0f x2w 3 (x01 (x06 0) (x01 (e2 x2g (x06 9) (eC (.int 4))) (x01 (x06 2) (x0d))))) (P11 ns t n f h l (some (.int (Int.ofNat j),9)) (some (.int (Int.ofNat p),9)) (some (.lst ds,1)) (some (.int (Int.ofNat k),9)) (some (.int y,9)) x.2.2)=some (.nx (P11 ns t n f h l (some (.int (Int.ofNat j),9)) (some (.int (Int.ofNat p),9)) (some (.lst ds,1)) (some (.int (Int.ofNat k),9)) (some (.int y,9)) (some (x9s n (.inr r),9)))):=
   x27 (x0h (ds:=[scr ns,.int (y+4),x0x n f]) rfl rfl hR) rfl
  have te:x2n (e2 dEq (x0f x0a 3 (x01 (x06 0) (x01 (e2 x2g (x06 9) (eC (.int 2))) (x01 (eC (.int 3)) (x0d))))) (eC (.int 0))) (P11 ns t n f h l (some (.int (Int.ofNat j),9)) (some (.int (Int.ofNat p),9)) (some (.lst ds,1)) (some (.int (Int.ofNat k),9)) (some (.int y,9)) (some (x9s n (.inr r),9)))=some (decide (v=0),P11 ns t n f h l (some (.int (Int.ofNat j),9)) (some (.int (Int.ofNat p),9)) (some (.lst ds,1)) (some (.int (Int.ofNat k),9)) (some (.int y,9)) (some (x9s n (.inr r),9))):=
   x3g (x3m (x0h (ds:=[scr ns,.int (y+2),.int 3]) rfl rfl ev) (rfl:eC (.int 0) _=some (.int (Int.ofNat 0),9,_)) (y58 v 0))
  refine⟨P11 ns t n f h l (some (.int (Int.ofNat j),9)) (some (.int (Int.ofNat p),9)) (some (.lst ds,1)) (some (.int (Int.ofNat k),9)) x.2.1 x.2.2,(some (.int (Int.ofNat k),9),some (.int y,9),some (x9s n (if v=0 then .inl o else .inr r),9)),(s,g,if v=0 then .inl o else .inr r),⟨hs,hg,?_⟩,rfl,?_⟩
  ·show okL n f h (if v=0 then .inl o else .inr r)
   by_cases h0:v=0
   ·rw[if_pos h0]; exact ho
   ·rw[if_neg h0]; exact okr
  ·unfold x4j
   refine(x0e st1).trans ((x0e st2).trans ?_)
   by_cases h0:v=0
   ·rw[decide_eq_true h0]at te
    rw[if_pos h0]
    exact(x0e (ρ1:=P11 ns t n f h l (some (.int (Int.ofNat j),9)) (some (.int (Int.ofNat p),9)) (some (.lst ds,1)) (some (.int (Int.ofNat k),9)) (some (.int y,9)) (some (x9s n (.inl o),9))) ((z3f te).trans (x27 (x0h (ds:=[scr ns,.int (y+3),.int (Int.ofNat h)]) rfl rfl eo) rfl))).trans (fin (.inl o))
   ·rw[decide_eq_false h0]at te
    rw[if_neg h0]
    exact(x0e ((y1e te).trans rfl)).trans (fin (.inr r)))
 rw[List.length_range]at hl
 exact⟨W,j'.1,j'.2.1,j'.2.2,hl,hg,e⟩
theorem y8a (ns:List Int) (t:Int) (h0:0<=t):∃ P:List Hs,1<=P.length/\P.length<=3/\(∀ H∈P,H.Ok n f P.length)/\x3a [scr ns,.int t,x0x n f]=some (x10 n P,9):=by
 obtain⟨h',hh',eh⟩:=x5z ns h0 (n:=3) (by decide)
 obtain⟨h,hh⟩:∃ h:Nat,h=h'+1:=⟨_,rfl⟩
 have eh':(1:Int)+Int.ofNat h'=Int.ofNat h:=by show(1:Int)+(h':Int)=(h:Int); omega
 obtain⟨P,x,hl,hg,e⟩:=y0t (J:=Option (D × Nat) × Option (D × Nat) × Option (D × Nat) × Option (D × Nat) × Option (D × Nat) × Option (D × Nat)) (pt:=x0m 5) (body:=x62) (fun k:Nat=>D.int (Int.ofNat k)) (fun ds x=>P11 ns t n f h ds x.1 x.2.1 x.2.2.1 x.2.2.2.1 x.2.2.2.2.1 x.2.2.2.2.2) (x18 n) (fun H=>H.Ok n f h) (List.range h) [] (none,none,none,none,none,none) (by rw[List.length_range]; show 0+h<=1000; omega) (fun j hj ds x hds=>by
  have i1:Int.ofNat j=(j:Int):=rfl
  obtain⟨p',hp',ep⟩:=x5z ns (c:=t+1+Int.ofNat j) (by omega) (n:=4) (by decide)
  obtain⟨m,hm,em⟩:=x5z ns (c:=t+4+Int.ofNat j) (by omega) (n:=6) (by decide)
  obtain⟨p,hp⟩:∃ p:Nat,p=p'+1:=⟨_,rfl⟩
  have ep':(1:Int)+Int.ofNat p'=Int.ofNat p:=by show(1:Int)+(p':Int)=(p:Int); omega
  obtain⟨W,a',b',c',lW,gW,eW⟩:=y8t L hz bz ns t h0 (h:=h) (by omega) ds j (p:=p) (by omega) m (by omega) x.2.2.2.1 x.2.2.2.2.1 x.2.2.2.2.2
  refine⟨P11 ns t n f h ds (some (.int (Int.ofNat j),9)) x.2.1 x.2.2.1 x.2.2.2.1 x.2.2.2.2.1 x.2.2.2.2.2,(some (.int (Int.ofNat j),9),some (.int (Int.ofNat p),9),some (.lst (W.map (x3b n)),0),a',b',c'),⟨p,W⟩,⟨by show 1<=p; omega,by show p<=8; omega,by show W.length<=60; omega,gW⟩,rfl,?_⟩
  unfold x62
  refine(x0e (ρ1:=P11 ns t n f h ds (some (.int (Int.ofNat j),9)) (some (.int (Int.ofNat p),9)) x.2.2.1 x.2.2.2.1 x.2.2.2.2.1 x.2.2.2.2.2) (x27 (d:=.int (Int.ofNat p)) (q:=9) (ρ1:=P11 ns t n f h ds (some (.int (Int.ofNat j),9)) x.2.1 x.2.2.1 x.2.2.2.1 x.2.2.2.2.1 x.2.2.2.2.2) (x3m (fa:=eC (.int 1)) (q:=9) rfl (x0h (ds:=[scr ns,.int (t+1+Int.ofNat j),.int 4]) rfl rfl ep) ?_) rfl)).trans ?_
  ·show some (D.int (1+Int.ofNat p'))=_
   rw[ep']
  refine(x0e (ρ1:=P11 ns t n f h ds (some (.int (Int.ofNat j),9)) (some (.int (Int.ofNat p),9)) (some (.lst [],1)) x.2.2.2.1 x.2.2.2.2.1 x.2.2.2.2.2) rfl).trans ?_
  refine(x0e ((x3h (y2q (m:=m) (by omega) (ρ:=P11 ns t n f h ds (some (.int (Int.ofNat j),9)) (some (.int (Int.ofNat p),9)) (some (.lst [],1)) x.2.2.2.1 x.2.2.2.2.1 x.2.2.2.2.2) (ρ':=P11 ns t n f h ds (some (.int (Int.ofNat j),9)) (some (.int (Int.ofNat p),9)) (some (.lst [],1)) x.2.2.2.1 x.2.2.2.2.1 x.2.2.2.2.2) (q:=9) (x0h (ds:=[scr ns,.int (t+4+Int.ofNat j),.int 6]) rfl rfl em))).trans eW)).trans ?_
  have v7:x06 7 (P11 ns t n f h ds (some (.int (Int.ofNat j),9)) (some (.int (Int.ofNat p),9)) (some (.lst (W.map (x3b n)),1)) a' b' c')=some (.lst (W.map (x3b n)),0,P11 ns t n f h ds (some (.int (Int.ofNat j),9)) (some (.int (Int.ofNat p),9)) (some (.lst (W.map (x3b n)),0)) a' b' c'):=x2z rfl
  exact y17 (ds:=ds) rfl (x0q (x6m (x0k (f:=x06 6) (q:=9) rfl (x0q (x4d (x0q v7)))) (show 2<=1000 by decide))) rfl hds rfl)
 rw[List.length_range]at hl
 refine⟨P,by omega,by omega,fun H hH=>by rw[hl]; exact hg H hH,?_⟩
 unfold x3a x76
 refine x28 ?_
 show x1i _ _ [some (scr ns,0),some (.int t,9),some (x0x n f,9),none,none,none,none,none,none,none,none]=_
 refine(x0e (ρ1:=[some (scr ns,0),some (.int t,9),some (x0x n f,9),some (.int (Int.ofNat h),9),none,none,none,none,none,none,none]) (x27 (d:=.int (Int.ofNat h)) (q:=9) (ρ1:=[some (scr ns,0),some (.int t,9),some (x0x n f,9),none,none,none,none,none,none,none,none]) (x3m (fa:=eC (.int 1)) (q:=9) rfl (x0h (ds:=[scr ns,.int t,.int 3]) rfl rfl eh) ?_) rfl)).trans ?_
 ·show some (D.int (1+Int.ofNat h'))=_
  rw[eh']
 refine(x0e (ρ1:=P11 ns t n f h [] none none none none none none) rfl).trans ?_
 refine(x0e ((x3h (y2q (m:=h) (by omega) (fe:=x06 3) (ρ:=P11 ns t n f h [] none none none none none none) (ρ':=P11 ns t n f h [] none none none none none none) (q:=9) rfl)).trans e)).trans ?_
 exact x1t (x4d (x0q (x2z (i:=4) (q:=1) (ds:=P.map (x18 n)) rfl)))
end
theorem z0d (ks:List Nat):∀ n,n<=ks.length->mb (fun i=>ks.getD i 0) n=(ks.take n).foldl bor 0
 | 0,_=>rfl
 | n+1,h=>by
  show bor (mb _ n) (ks.getD n 0)=_
  rw[z0d ks n (by omega),List.take_add_one,List.getElem?_eq_getElem (by omega),List.foldl_append,List.getD_eq_getElem?_getD,List.getElem?_eq_getElem (by omega)]
  rfl
theorem j1g (ks:List Nat):mOf ks=ks.foldl bor 0:=by rw[mOf,z0d ks _ (Nat.le_refl _),List.take_length]
theorem y9e:∀ {ks:List Nat},(∀ k∈ks,k<5)->y7u (x0j ks)=some ks
 | [],_=>rfl
 | k::ks,h=>by
  show(if k<5 then(y7u (x0j ks)).map (k :: ·)else none)=_
  rw[if_pos (h k List.mem_cons_self),y9e fun j hj=>h j (List.mem_cons_of_mem _ hj)]
  rfl
theorem x8t {fa:Den} {ρ ρ1:Rho} {ks:List Nat} {q:Nat} (h:fa ρ=some (.lst (x0j ks),q,ρ1)) (hq:q<=1) (h5:∀ k∈ks,k<5):x46 fa ρ=some (.lst (x0j (bl (ks.foldl bor 0))),1,ρ1):=by
 unfold x46
 rw[h]
 show(if q<=1 then _ else none)=_
 rw[if_pos hq,y9e h5]
 show some (D.lst (x0j (bl (mOf ks))),1,ρ1)=_
 rw[j1g]
theorem j38:∀ (g:List Nat) (m:Nat),m<=g.foldl bor m
 | [],m=>Nat.le_refl m
 | k::g,m=>Nat.le_trans Nat.left_le_or (j38 g (bor m k))
theorem z4p:∀ {g:List Nat} {m:Nat},m<32->(∀ k∈g,k<5)->g.foldl bor m<32
 | [],_,h,_=>h
 | k::g,m,h,h5=>z4p (g:=g) (m:=bor m k) (y6r m h k (h5 k List.mem_cons_self)) fun j hj=>h5 j (List.mem_cons_of_mem _ hj)
theorem z9f:∀ m:Nat,m<32->(bl m).foldl bor 0=m:=by decide +kernel
theorem j3e {m m':Nat} (h:m<32) (h':m'<32) (e:bl m=bl m'):m=m':=by rw[<- z9f m h,<- z9f m' h',e]
noncomputable def gl:Led->Nat
 | .inl k=>k
 | .inr _=>0
noncomputable def clT (c:Nat × Nat):D:=.tup [.int (Int.ofNat c.1),.int (Int.ofNat c.2),.non]
noncomputable def clH (i:Nat) (H:Hs):List (Nat × Nat):=(H.W.filter fun w=>x5c w.2.2).map fun w=>(i,gl w.2.2)
noncomputable def clP (P:List Hs):List (Nat × Nat):=P.zipIdx.foldl (fun l x=>l++clH x.2 x.1) []
noncomputable def clC (h:Nat) (l:List (Nat × Nat)):D:=.tup [.int (Int.ofNat h),.tup (l.map clT),.tup []]
theorem y2o:∀ (l:List (Hs × Nat)) (acc:List (Nat × Nat)) (c:Nat × Nat),c∈l.foldl (fun l x=>l++clH x.2 x.1) acc ↔ c∈acc\/∃ x∈l,c∈clH x.2 x.1
 | [],acc,c=>by simp
 | x::l,acc,c=>by
  rw[List.foldl_cons,y2o l _ c,List.mem_append]
  simp only[List.mem_cons,exists_eq_or_imp]
  rw[or_assoc]
theorem z0g:∀ (l:List (Hs × Nat)) (acc:List (Nat × Nat)),(∀ x∈l,x.1.W.length<=60)->(l.foldl (fun l x=>l++clH x.2 x.1) acc).length<=acc.length+60*l.length
 | [],acc,_=>by simp
 | x::l,acc,h=>by
  have h1:=z0g l (acc++clH x.2 x.1) fun y hy=>h y (List.mem_cons_of_mem _ hy)
  have h2:(clH x.2 x.1).length<=60:=by
   unfold clH
   rw[List.length_map]
   exact Nat.le_trans (List.length_filter_le _ _) (h x List.mem_cons_self)
  rw[List.length_append]at h1
  rw[List.foldl_cons,List.length_cons]
  omega
theorem y9m {i:Nat} {g:Den} {ρ ρ1 ρ2:Rho} {ds es:List D} (hl:y49 ρ[i]? = true) (hg:g ρ=some (.lst es,1,ρ1)) (h1:ρ1[i]? = some (some (.lst ds,1))) (hn:ds.length+es.length<=1000) (e:ρ1.set i (some (.lst (ds++es),1))=ρ2):x2b (y3o i g) ρ=some (.nx ρ2):=by
 unfold x2b y3o
 rw[if_pos hl,hg]
 simp only[h1]
 rw[if_pos hn,e]
section
variable {n:Nat} {f:Nat->Nat->Nat} {h:Nat} {P:List Hs} (hP:∀ H∈P,H.Ok n f h) (hl:P.length=h) (h3:h<=3)
include hP hl h3
theorem j19 {c:Nat × Nat} (hc:c∈clP P):c.1<h/\c.2<h:=by
 rcases(y2o P.zipIdx [] c).mp hc with q | ⟨x,hx,q⟩
 ·cases q
 ·obtain⟨w,hw,rfl⟩:=List.mem_map.mp q
  obtain⟨hw1,hw2⟩:=List.mem_filter.mp hw
  have hx':=List.mem_zipIdx' hx
  have ok:=(hP x.1 (hx'.2 ▸ List.getElem_mem _)).ws w hw1
  refine⟨by show x.2<h; rw[<- hl]; exact hx'.1,?_⟩
  show gl w.2.2<h
  have o3:=ok.2.2
  cases e:w.2.2 with
  | inl k=>rw[e]at o3; exact o3
  | inr r=>rw[e]at hw2; cases hw2
end
theorem z37 {n:Nat} (P:List Hs):y1j (P.map (x18 n))=P.zipIdx.map fun x=>D.tup [.int (Int.ofNat x.2),x18 n x.1]:=by
 apply List.ext_getElem?
 intro i
 rw[y4z,List.getElem?_map,List.getElem?_map,List.getElem?_zipIdx,Option.map_map,Option.map_map]
 cases P[i]? with
 | none=>rfl
 | some H=>simp
section
variable {n:Nat} {f:Nat->Nat->Nat} {h:Nat} {P:List Hs} (hP:∀ H∈P,H.Ok n f h) (hl:P.length=h) (h3:h<=3)
include hP hl h3
noncomputable abbrev C4 (n:Nat) (P:List Hs) (l:List (Nat × Nat)) (a b:Option (D × Nat)):Rho:=[some (x10 n P,9),some (.lst (l.map clT),1),a,b]
omit hP hl h3
theorem z3h {H:Hs} (h60:H.W.length<=60) (i:Nat) {l:List (Nat × Nat)} (hn:l.length<=500):x2b (y3o 1 (x2l 1 (x4v (x1z 3 (eC (.int 1)))) (x0m 4) (x6t (x0f x23 1 (x01 (x1z 4 (eC (.int 2))) (x0d)))) (x34 (x01 (x06 2) (x01 (x1z 4 (eC (.int 2))) (x01 (eC .non) (x0d))))) false)) (C4 n P l (some (.int (Int.ofNat i),9)) (some (x18 n H,9)))=some (.nx (C4 n P (l++clH i H) (some (.int (Int.ofNat i),9)) (some (x18 n H,9)))):=by
 have hi:x4v (x1z 3 (eC (.int 1))) (C4 n P l (some (.int (Int.ofNat i),9)) (some (x18 n H,9)))=some (H.W.map (x3b n),C4 n P l (some (.int (Int.ofNat i),9)) (some (x18 n H,9))):=by
  have e:x1z 3 (eC (.int 1)) (C4 n P l (some (.int (Int.ofNat i),9)) (some (x18 n H,9)))=some (.tup (H.W.map (x3b n)),9,C4 n P l (some (.int (Int.ofNat i),9)) (some (x18 n H,9))):=rfl
  unfold x4v
  rw[e]
  simp only[List.length_map]
  rw[if_pos (by omega)]
 have hx:∀ a:Nat × Nat × Led,x1z 4 (eC (.int 2)) (C4 n P l (some (.int (Int.ofNat i),9)) (some (x18 n H,9))++[some (x3b n a,9)])=some (x9s n a.2.2,9,C4 n P l (some (.int (Int.ofNat i),9)) (some (x18 n H,9))++[some (x3b n a,9)]):=fun a=>y0z (x:=x3b n a) (q:=9) (q':=9) rfl rfl rfl y2w
 have hcm:=x2f (k:=1) (tt:=x6t (x0f x23 1 (x01 (x1z 4 (eC (.int 2))) (x0d)))) (te:=x34 (x01 (x06 2) (x01 (x1z 4 (eC (.int 2))) (x01 (eC .non) (x0d))))) (deep:=false) (pt:=x0m 4) hi (x52 (x3b n) (fun a=>[some (x3b n a,9)]) (fun a=>x5c a.2.2) (fun a=>D.tup [.int (Int.ofNat i),x9s n a.2.2,.non]) (fun _=>9) H.W (fun a ha=>⟨rfl,by
   refine x7j (q:=9) ((x0h (x0q (hx a)) rfl (x1y (x9s n a.2.2))).trans ?_)
   cases a.2.2 <;> rfl,fun _=>x6m (x0k (f:=x06 2) (q:=9) rfl (x0k (hx a) (x0q (f:=eC .non) (d:=.non) (q:=9) rfl))) (show 3<=1000 by decide)⟩))
 have e1:(H.W.filter fun a=>x5c a.2.2).map (fun a=>D.tup [.int (Int.ofNat i),x9s n a.2.2,.non])=(clH i H).map clT:=by
  unfold clH
  rw[List.map_map]
  apply List.map_congr_left
  intro a ha
  have hb:=(List.mem_filter.mp ha).2
  show D.tup [.int (Int.ofNat i),x9s n a.2.2,.non]=D.tup [.int (Int.ofNat i),.int (Int.ofNat (gl a.2.2)),.non]
  cases e:a.2.2 with
  | inl k=>rfl
  | inr r=>rw[e]at hb; cases hb
 rw[e1]at hcm
 have h2:(clH i H).length<=60:=by
  unfold clH
  rw[List.length_map]
  exact Nat.le_trans (List.length_filter_le _ _) h60
 exact y9m (ds:=l.map clT) rfl hcm rfl (by rw[List.length_map,List.length_map]; omega) (by rw[<- List.map_append]; rfl)
theorem y78:∀ (xs:List (Hs × Nat)) (acc:List (Nat × Nat)) (j:Option (D × Nat) × Option (D × Nat)),(∀ x∈xs,x.1.W.length<=60)->acc.length+60*xs.length<=500->
  ∃ j':Option (D × Nat) × Option (D × Nat),x8o (z5l (x2j (x0m 2) (x2j (x0m 3) (y1t)))) (x2b (y3o 1 (x2l 1 (x4v (x1z 3 (eC (.int 1)))) (x0m 4) (x6t (x0f x23 1 (x01 (x1z 4 (eC (.int 2))) (x0d)))) (x34 (x01 (x06 2) (x01 (x1z 4 (eC (.int 2))) (x01 (eC .non) (x0d))))) false))) (xs.map fun x:Hs × Nat=>D.tup [.int (Int.ofNat x.2),x18 n x.1]) (C4 n P acc j.1 j.2)=some (.nx (C4 n P (xs.foldl (fun l x=>l++clH x.2 x.1) acc) j'.1 j'.2))
 | [],acc,j,_,_=>⟨j,rfl⟩
 | x::xs,acc,j,h60,hl=>by
  rw[List.length_cons]at hl
  have h2:(clH x.2 x.1).length<=60:=by
   unfold clH
   rw[List.length_map]
   exact Nat.le_trans (List.length_filter_le _ _) (h60 x List.mem_cons_self)
  have st:=z3h (n:=n) (P:=P) (h60 x List.mem_cons_self) x.2 (l:=acc) (by omega)
  obtain⟨j',e⟩:=y78 xs (acc++clH x.2 x.1) (some (.int (Int.ofNat x.2),9),some (x18 n x.1,9)) (fun y hy=>h60 y (List.mem_cons_of_mem _ hy)) (by rw[List.length_append]; omega)
  exact⟨j',(y2t (ρ1:=C4 n P acc (some (.int (Int.ofNat x.2),9)) (some (x18 n x.1,9))) rfl st).trans e⟩
include hP hl h3
theorem x58:x1k [x10 n P]=some (clC h (clP P),9):=by
 unfold x1k x5v
 refine x28 ?_
 show x1i _ _ [some (x10 n P,9),none,none,none]=_
 refine(x0e (ρ1:=C4 n P [] none none) rfl).trans ?_
 have hp:P.length<=1000:=by omega
 have hi:y84 (x01 (x06 0) (x0d)) (C4 n P [] none none)=some (P.zipIdx.map (fun x=>D.tup [.int (Int.ofNat x.2),x18 n x.1]),C4 n P [] none none):=by
  rw[<- z37]
  unfold y84
  rw[x0q (f:=x06 0) (ρ:=C4 n P [] none none) (ρ1:=C4 n P [] none none) (d:=x10 n P) (q:=9) rfl]
  show(if(P.map (x18 n)).length<=1000 then _ else none)=_
  rw[if_pos (by rw[List.length_map]; exact hp)]
 have hz60:∀ x∈P.zipIdx,x.1.W.length<=60:=fun x hx=>by
  have hx':=List.mem_zipIdx' hx
  exact(hP x.1 (hx'.2 ▸ List.getElem_mem _)).w60
 obtain⟨j,e⟩:=y78 (n:=n) (P:=P) P.zipIdx [] (none,none) hz60 (by rw[List.length_zipIdx]; show 0+_<=500; omega)
 refine(x0e ((x3h hi).trans e)).trans ?_
 have l0:x15 0 (C4 n P (clP P) j.1 j.2)=some (.int (Int.ofNat h),9,C4 n P (clP P) j.1 j.2):=x5n rfl (by show some (P.map (x18 n)).length=_; rw[List.length_map,hl])
 exact x1t (x6m (x0k l0 (x0k (x4d (x0q (x2z (i:=1) (q:=1) (ds:=(clP P).map clT) rfl))) (x0q (f:=x34 (x0d)) (d:=.tup []) (q:=9) rfl))) (show 3<=1000 by decide))
omit hP hl h3
theorem x83 {l:List (Nat × Nat)} (hn:l.length<=1000) (g:List Nat):x1p [clC h l,.lst (x0j g)]=some (.lst (x0j ((l.filter fun c=>decide (c.1∈g)).map (·.2))),1):=by
 unfold x1p x9e
 have hi:x4v (x1z 0 (eC (.int 1))) [some (clC h l,9),some (.lst (x0j g),0)]=some (l.map clT,[some (clC h l,9),some (.lst (x0j g),0)]):=by
  have e:x1z 0 (eC (.int 1)) [some (clC h l,9),some (.lst (x0j g),0)]=some (.tup (l.map clT),9,[some (clC h l,9),some (.lst (x0j g),0)]):=rfl
  unfold x4v
  rw[e]
  simp only[List.length_map]
  rw[if_pos hn]
 have hcm:=x2f (k:=3) (tt:=x2n (e2 dIn (x06 2) (x06 1))) (te:=x06 3) (deep:=false) (pt:=z5l (x2j (x0m 2) (x2j (x0m 3) (x2j (x0m 4) (y1t))))) hi (x52 clT (fun c=>[some (.int (Int.ofNat c.1),9),some (.int (Int.ofNat c.2),9),some (.non,9)]) (fun c=>decide (c.1∈g)) (fun c=>.int (Int.ofNat c.2)) (fun _=>9) l (fun c hc=>⟨rfl,x3g (x3m (fa:=x06 2) (q:=9) rfl (fb:=x06 1) (y:=.lst (x0j g)) (q':=0) rfl (y0s c.1 g)),fun _=>rfl⟩))
 have e1:(l.filter fun c=>decide (c.1∈g)).map (fun c=>D.int (Int.ofNat c.2))=x0j ((l.filter fun c=>decide (c.1∈g)).map (·.2)):=by unfold x0j; rw[List.map_map]; rfl
 rw[e1]at hcm
 exact x28 (x1t hcm)
theorem y01 {h k:Nat} (hk:k<h):x0o h (.int (Int.ofNat k))=true:=by
 show(decide ((0:Int)<=(k:Int)) && decide ((k:Int)<(h:Int)))=true
 rw[decide_eq_true (by omega),decide_eq_true (by omega)]; rfl
theorem z67 {n:Nat} {body:x1d} {ds:List D} {ρ:Rho} (h:body (x3z n ds)=some (.nx ρ)):fnD n body ds=some (.non,9):=by unfold fnD; rw[h]
theorem y3j {g:Den} {ρ ρ1:Rho} {d:D} {q:Nat} (h:g ρ=some (d,q,ρ1)):x2b g ρ=some (.nx ρ1):=by unfold x2b; rw[h]
theorem y0l {k:Nat} (hk:k<h):x29 [.int (Int.ofNat h),.int (Int.ofNat k)]=some (.non,9):=by
 have e:=x24 h (.int (Int.ofNat k))
 rw[y01 hk]at e
 unfold x29 x55
 exact z67 ((y1e (y0q (x7j (x0h (ds:=[.int (Int.ofNat k),.int (Int.ofNat h)]) rfl rfl e)))).trans rfl)
theorem x5x {k:Nat} (hl:P.length=h) (hk:k<h):x1b [x10 n P,.int (Int.ofNat k)]=some (.non,9):=by
 have e:=x24 h (.int (Int.ofNat k))
 rw[y01 hk]at e
 unfold x1b x59
 have l0:x15 0 [some (x10 n P,9),some (.int (Int.ofNat k),9)]=some (.int (Int.ofNat h),9,[some (x10 n P,9),some (.int (Int.ofNat k),9)]):=x5n rfl (by show some (P.map (x18 n)).length=_; rw[List.length_map,hl])
 exact z67 ((y1e (y0q (x7j (x0h (x0k (f:=x06 1) (q:=9) rfl (x0q l0)) rfl e)))).trans rfl)
noncomputable def gf (l:List (Nat × Nat)) (g:List Nat):List Nat:=(l.filter fun c=>decide (c.1∈g)).map (·.2)
theorem z5w {l:List (Nat × Nat)} (h5:∀ c∈l,c.2<5) (g:List Nat):∀ k∈gf l g,k<5:=fun k hk=>by
 obtain⟨c,hc,rfl⟩:=List.mem_map.mp hk
 exact h5 c (List.mem_filter.mp hc).1
theorem j44 {l:List (Nat × Nat)} (g:List Nat):(gf l g).length<=l.length:=by
 unfold gf
 rw[List.length_map]
 exact List.length_filter_le _ _
theorem y6d {l:List (Nat × Nat)} (hn:l.length<=500) (h5:∀ c∈l,c.2<5) {k:Nat} (hk:k<h):x53 [clC h l,.int (Int.ofNat k)]=some (.lst (x0j (bl ((gf l [k]).foldl bor 0))),1):=by
 unfold x53 y2a
 refine x28 ?_
 show x1i _ _ [some (clC h l,9),some (.int (Int.ofNat k),9)]=_
 refine(x0e (ρ1:=[some (clC h l,9),some (.int (Int.ofNat k),9)]) (y3j (x0h (ds:=[.int (Int.ofNat h),.int (Int.ofNat k)]) rfl rfl (y0l hk)))).trans ?_
 exact x1t (x8t (ks:=gf l [k]) (q:=1) (x0h (ds:=[clC h l,.lst (x0j [k])]) rfl rfl (x83 (by omega) [k])) (Nat.le_refl 1) (z5w h5 [k]))
noncomputable abbrev R4 (h:Nat) (l:List (Nat × Nat)) (d:D) (q:Nat) (m:Nat) (a:D) (q2 q3:Nat):Rho:=[some (clC h l,9),some (d,q),some (.lst (x0j (bl m)),q2),some (a,q3)]
theorem z02 (l:List Nat):dNe (.lst (x0j l)) .non=some (.bl true):=by
 unfold dNe
 rw[if_pos ⟨(z3k l).ok,(Sh.non (k:=0)).ok⟩]
 rfl
theorem y0d (a b:List Nat):x0j a++x0j b=x0j (a++b):=by unfold x0j; rw[List.map_append]
include hP hl h3
end
theorem z2f {pt:x5s} {body:x1d} {d:D} {ds:List D} {ρ ρ1 ρ2:Rho} (h1:pt d ρ=some ρ1) (h2:body ρ1=some (.bk ρ2)):x8o pt body (d::ds) ρ=some (.nx ρ2):=by
 unfold x8o
 rw[h1]
 simp only[h2]
theorem z3j {ns:List Int} (h63:ns.length<=63) {m:Nat} (hm:m+1<=1000) (once:∀ ns':List Int,x2x [scr ns']=some (.bl true,9)):∃ x,x7m (x1f (x01 (eC (.int (Int.ofNat (m+1)))) x0d)) (x0m 1) y6k [some (scr ns,0),none]=some (.nx [some (scr ns,0),x]):=by
 have hl:(ns.map D.int).length<=1000:=by rw[List.length_map]; omega
 have hc:∀ (t:Nat),x2l 1 (x4v (x06 0)) (x0m 2) x38 (e2 x2g (x06 2) (e2 y00 (eC (.int 7919)) (x06 1))) false [some (scr ns,0),some (.int (Int.ofNat t),9)]=some (scr (ns.map fun x=>x+7919*Int.ofNat t),1,[some (scr ns,0),some (.int (Int.ofNat t),9)]):=fun t=>by
  have h:=j1r (i:=2) (te:=e2 x2g (x06 2) (e2 y00 (eC (.int 7919)) (x06 1))) (ρ:=[some (scr ns,0),some (.int (Int.ofNat t),9)]) (ns.map D.int) rfl (fun d=>match d with | .int x=>.int (x+7919*Int.ofNat t) | d=>d) (fun _=>9) (fun d hd=>by
   obtain⟨x,_,rfl⟩:=List.mem_map.mp hd
   simp[-Int.ofNat_eq_natCast])
  have hl':ns.length<=1000:=by omega
  refine(x2f (deep:=false) (by simp[hl']) h).trans ?_
  simp[-Int.ofNat_eq_natCast,Function.comp_def]
 have step:∀ (t:Nat),y6k [some (scr ns,0),some (.int (Int.ofNat t),9)]=some (if ns=[]then .bk [some (scr ns,0),some (.int (Int.ofNat t),9)]else .nx [some (scr ns,0),some (.int (Int.ofNat t),9)]):=fun t=>by
  have h1:=once (ns.map fun x=>x+7919*Int.ofNat t)
  unfold y6k
  refine(x0e (ρ1:=[some (scr ns,0),some (.int (Int.ofNat t),9)]) ?_).trans ?_
  ·have e:=x0h (F:=x2x) (n:=1) (x0q (hc t)) rfl h1
   simp only[sIf,x4h,x6t,e]
   rfl
  ·have e:=z0p ns
   by_cases hns:ns=[]
   ·rw[if_pos hns]
    rw[decide_eq_true hns]at e
    simp[-Int.ofNat_eq_natCast,e]
   ·rw[if_neg hns]
    rw[decide_eq_false hns]at e
    simp[-Int.ofNat_eq_natCast,e]
 have hr:x1f (x01 (eC (.int (Int.ofNat (m+1)))) x0d) [some (scr ns,0),none]=some (x1a (m+1),[some (scr ns,0),none]):=by
  simp only[x1f,x0q (f:=eC (.int (Int.ofNat (m+1)))) (q:=9) (ρ:=[some (scr ns,0),none]) rfl]
  rw[if_pos ⟨by show(-1000:Int)<=((m+1:Nat):Int); omega,by show((m+1:Nat):Int)<=1000; omega⟩]
  rfl
 rw[x3h hr]
 by_cases hns:ns=[]
 ·refine⟨some (.int (Int.ofNat 0),9),?_⟩
  have h:=step 0
  rw[if_pos hns]at h
  have e:x1a (m+1)=.int (Int.ofNat 0)::(x1a (m+1)).tail:=by
   unfold x1a
   rw[List.range_succ_eq_map]
   rfl
  rw[e]
  exact z2f (ρ1:=[some (scr ns,0),some (.int (Int.ofNat 0),9)]) (by simp) h
 ·obtain⟨ρ',e,x,rfl⟩:=x4r (pt:=x0m 1) (body:=y6k) (x1a (m+1)) (fun _ ρ=>∃ x,ρ=[some (scr ns,0),x]) [some (scr ns,0),none] (fun i hi ρ ⟨x,hx⟩=>by
   subst hx
   have h:=step i
   rw[if_neg hns]at h
   refine⟨[some (scr ns,0),some (.int (Int.ofNat i),9)],_,by rw[x90]; simp,.inl h,_,rfl⟩) ⟨none,rfl⟩
  exact⟨x,e⟩
theorem z42 {m n:Nat} {l:List D} (h:l.length≠m):x3u m n (.tup l)=false:=by
 unfold x3u
 simp[h]
noncomputable def y8i (h p:Nat):D->Bool
 | .tup [a,b,c]=>x0o p a && x0o p b && x0o h c
 | _=>false
noncomputable def wcB (n:Nat) (f:Nat->Nat->Nat) (h p:Nat) (d:D):Bool:=z7u n f p d || y8i h p d
noncomputable def inB (n:Nat) (f:Nat->Nat->Nat) (h p:Nat):D->Bool
 | .tup ds=>decide (ds.length<=60) && ds.all (wcB n f h p)
 | _=>false
noncomputable def y31:D->Bool
 | .int k=>decide (1<=k) && decide (k<=8)
 | _=>false
noncomputable def x49 (n:Nat) (f:Nat->Nat->Nat) (h:Nat):D->Bool
 | .tup [a,b]=>y31 a && inB n f h (match a with | .int k=>k.toNat | _=>0) b
 | _=>false
noncomputable def x8v (n:Nat) (f:Nat->Nat->Nat):D->Bool
 | .tup ds=>decide (1<=ds.length) && decide (ds.length<=4) && ds.all (x49 n f ds.length)
 | _=>false
section
variable {n:Nat} {f:Nat->Nat->Nat} {h p:Nat}
theorem z4f {d:D} (hb:z16 p d=false):y8i h p d=false:=by
 cases e:y8i h p d with
 | false=>rfl
 | true=>
  unfold y8i at e
  split at e
  ·rename_i a b c
   have hb':(x0o p a && x0o p b)=false:=hb
   rw[hb']at e
   cases e
  ·cases e
theorem y5k (d:D):x22 [d]=some (.bl (y31 d),9):=by
 rw[y7x]
 cases d <;> rfl
theorem y7q (d:D):x56 [.int (Int.ofNat h),.int (Int.ofNat p),d]=some (.bl (y8i h p d),9):=by
 have g:=z1o (p:=p) d
 unfold x56 y53
 cases hb:z16 p d with
 | false=>
  rw[z4f hb]
  rw[hb]at g
  refine x28 (x1t (ρ1:=x3z 3 [.int (Int.ofNat h),.int (Int.ofNat p),d]) ?_)
  have hc:x0f x1n 2 (x01 (x06 1) (x01 (x06 2) x0d)) (x3z 3 [.int (Int.ofNat h),.int (Int.ofNat p),d])=some (.bl false,9,x3z 3 [.int (Int.ofNat h),.int (Int.ofNat p),d]):=x0h (x0k (q:=9) (d:=.int (Int.ofNat p)) rfl (x0q (x7n rfl))) rfl g
  simp only[y7k,hc]
  rfl
 | true=>
  obtain⟨a,b,c,rfl⟩:=j6p hb
  have e:y8i h p (.tup [a,b,c])=x0o h c:=by
   have hb':(x0o p a && x0o p b)=true:=hb
   show(x0o p a && x0o p b && x0o h c)=_
   rw[hb']; rfl
  have rc:=x24 h c
  have a2:atD (.tup [a,b,c]) 2=some c:=rfl
  rw[e]
  rw[hb]at g
  simp[-Int.ofNat_eq_natCast,a2,rc,g]
noncomputable abbrev H3 (n:Nat) (f:Nat->Nat->Nat) (h:Nat) (d:D):Rho:=[some (x0x n f,9),some (.int (Int.ofNat h),9),some (d,x41 d)]
theorem y5o (hn:n<=1000) (d:D):x5b [x0x n f,.int (Int.ofNat h),d]=some (.bl (x49 n f h d),9):=by
 unfold x5b y2d
 cases d with
 | tup ds=>
  have ll:x9r (.tup ds)=some ds.length:=rfl
  by_cases h2:ds.length=2
  ·match ds,h2 with
   | [a,b],_=>
    have l2:dNe (.int 2) (.int 2)=some (.bl false):=(y9b _ _).trans (by simp)
    have a0:atD (.tup [a,b]) 0=some a:=rfl
    have a1:atD (.tup [a,b]) 1=some b:=rfl
    have ll2:x9r (.tup [a,b])=some 2:=rfl
    have hw:=y5k a
    cases hma:y31 a with
    | false=>
     rw[hma]at hw
     have e:x49 n f h (.tup [a,b])=false:=by show(y31 a && _)=false; rw[hma]; rfl
     rw[e]
     simp[-Int.ofNat_eq_natCast,isD,ll2,l2,a0,hw]
    | true=>
     rw[hma]at hw
     obtain⟨m,rfl⟩:∃ m:Nat,a=.int (Int.ofNat m):=by
      cases a with
      | int k=>
       refine⟨k.toNat,?_⟩
       have:(decide (1<=k) && decide (k<=8))=true:=hma
       rw[Bool.and_eq_true,decide_eq_true_eq]at this
       congr 1
       show k=(k.toNat:Int)
       omega
      | _=>cases hma
     have e:x49 n f h (.tup [.int (Int.ofNat m),b])=inB n f h m b:=by show(y31 _ && inB n f h (Int.ofNat m).toNat b)=_; rw[hma]; rfl
     rw[e]
     refine x28 ?_
     show x1i _ _ (H3 n f h (.tup [.int (Int.ofNat m),b]))=_
     refine(x0e (ρ1:=H3 n f h (.tup [.int (Int.ofNat m),b])) (by simp[-Int.ofNat_eq_natCast,isD,ll2,l2,a0,hw])).trans ?_
     cases b with
     | tup es=>
      have ll3:x9r (.tup es)=some es.length:=rfl
      by_cases h6:es.length<=60
      ·refine(x0e (ρ1:=H3 n f h (.tup [.int (Int.ofNat m),.tup es])) ?_).trans ?_
       ·have:¬ ((60:Int)<Int.ofNat es.length):=by show ¬ ((60:Int)<(es.length:Int)); omega
        simp[-Int.ofNat_eq_natCast,isD,a1,ll3,this]
       ·have e:inB n f h m (.tup es)=es.all (wcB n f h m):=by simp[inB,h6]
        rw[e]
        refine x1t (ρ1:=H3 n f h (.tup [.int (Int.ofNat m),.tup es])) ?_
        have hi:x4v (x1z 2 (eC (.int 1))) (H3 n f h (.tup [.int (Int.ofNat m),.tup es]))=some (es,H3 n f h (.tup [.int (Int.ofNat m),.tup es])):=by
         have e:x1z 2 (eC (.int 1)) (H3 n f h (.tup [.int (Int.ofNat m),.tup es]))=some (.tup es,9,H3 n f h (.tup [.int (Int.ofNat m),.tup es])):=rfl
         unfold x4v
         rw[e]
         exact if_pos (show es.length<=1000 by omega)
        refine y6j (i:=3) rfl hi (wcB n f h m) (fun _=>9) fun x hx=>?_
        have hw1:=y9s (f:=f) (p:=m) hn x
        have hw2:=y7q (h:=h) (p:=m) x
        have vx:x06 3 (H3 n f h (.tup [.int (Int.ofNat m),.tup es])++[some (x,x41 x)])=some (x,x41 x,H3 n f h (.tup [.int (Int.ofNat m),.tup es])++[some (x,x41 x)]):=x7n rfl
        have c1:=x0h (F:=x6o) (n:=3) (x0k (f:=x06 0) (q:=9) (d:=x0x n f) (ρ:=H3 n f h (.tup [.int (Int.ofNat m),.tup es])++[some (x,x41 x)]) (ρ1:=H3 n f h (.tup [.int (Int.ofNat m),.tup es])++[some (x,x41 x)]) rfl (x0k (f:=x1z 2 (eC (.int 0))) (q:=9) (d:=.int (Int.ofNat m)) (ρ1:=H3 n f h (.tup [.int (Int.ofNat m),.tup es])++[some (x,x41 x)]) rfl (x0q vx))) rfl hw1
        have c2:=x0h (F:=x56) (n:=3) (x0k (f:=x06 1) (q:=9) (d:=.int (Int.ofNat h)) (ρ:=H3 n f h (.tup [.int (Int.ofNat m),.tup es])++[some (x,x41 x)]) (ρ1:=H3 n f h (.tup [.int (Int.ofNat m),.tup es])++[some (x,x41 x)]) rfl (x0k (f:=x1z 2 (eC (.int 0))) (q:=9) (d:=.int (Int.ofNat m)) (ρ1:=H3 n f h (.tup [.int (Int.ofNat m),.tup es])++[some (x,x41 x)]) rfl (x0q vx))) rfl hw2
        unfold eOr
        rw[c1]
        unfold wcB
        cases hx:z7u n f m x with
        | true=>rfl
        | false=>exact c2
      ·have e:inB n f h m (.tup es)=false:=by simp[inB,h6]
       have:(60:Int)<Int.ofNat es.length:=by show(60:Int)<(es.length:Int); omega
       rw[e]
       exact x7c (by simp[-Int.ofNat_eq_natCast,isD,a1,ll3,this])
     | _=>exact x7c (by simp[-Int.ofNat_eq_natCast,isD,a1,inB])
  ·have e:x49 n f h (.tup ds)=false:=by
    match ds,h2 with
    | [],_=>rfl
    | [_],_=>rfl
    | [_,_],h=>exact absurd rfl h
    | _::_::_::_,_=>rfl
   have l2:dNe (.int (Int.ofNat ds.length)) (.int 2)=some (.bl true):=z6f (k:=2) h2
   rw[e]
   simp[-Int.ofNat_eq_natCast,isD,ll,l2]
 | _=>simp[isD,x49]
theorem x5f (hn:n<=1000) (d:D):x1v [x0x n f,d]=some (.bl (x8v n f d),9):=by
 unfold x1v x9f
 cases d with
 | tup ds=>
  have ll:x9r (.tup ds)=some ds.length:=rfl
  by_cases h4:1<=ds.length/\ds.length<=4
  ·have e:x8v n f (.tup ds)=ds.all (x49 n f ds.length):=by simp[x8v,h4.1,h4.2]
   rw[e]
   refine x28 ?_
   show x1i _ _ [some (x0x n f,9),some (.tup ds,9)]=_
   have k1:(1:Int)<=Int.ofNat ds.length:=by show(1:Int)<=(ds.length:Int); omega
   have k4:Int.ofNat ds.length<=(4:Int):=by show(ds.length:Int)<=4; omega
   refine(x0e (ρ1:=[some (x0x n f,9),some (.tup ds,9)]) (by simp[-Int.ofNat_eq_natCast,isD,ll,k1,k4])).trans ?_
   refine x1t (ρ1:=[some (x0x n f,9),some (.tup ds,9)]) ?_
   refine y6j (i:=2) rfl (by simp; omega) (x49 n f ds.length) (fun _=>9) fun x hx=>?_
   have vx:x06 2 ([some (x0x n f,9),some (.tup ds,9)]++[some (x,x41 x)])=some (x,x41 x,[some (x0x n f,9),some (.tup ds,9)]++[some (x,x41 x)]):=x7n rfl
   have l1:x15 1 ([some (x0x n f,9),some (.tup ds,9)]++[some (x,x41 x)])=some (.int (Int.ofNat ds.length),9,[some (x0x n f,9),some (.tup ds,9)]++[some (x,x41 x)]):=x5n rfl ll
   exact x0h (x0k (f:=x06 0) (q:=9) (d:=x0x n f) (ρ1:=[some (x0x n f,9),some (.tup ds,9)]++[some (x,x41 x)]) rfl (x0k l1 (x0q vx))) rfl (y5o hn x)
  ·have e:x8v n f (.tup ds)=false:=by
    show(decide (1<=ds.length) && decide (ds.length<=4) && ds.all (x49 n f ds.length))=false
    by_cases k1:1<=ds.length
    ·rw[decide_eq_false (fun z=>h4 ⟨k1,z⟩)]; simp
    ·rw[decide_eq_false k1]; simp
   rw[e]
   by_cases k1:1<=ds.length
   ·have k4:¬ (Int.ofNat ds.length<=(4:Int)):=by show ¬ ((ds.length:Int)<=4); omega
    have k1':(1:Int)<=Int.ofNat ds.length:=by show(1:Int)<=(ds.length:Int); omega
    simp[-Int.ofNat_eq_natCast,isD,ll,k1',k4]
   ·have k1':¬ ((1:Int)<=Int.ofNat ds.length):=by show ¬ ((1:Int)<=(ds.length:Int)); omega
    simp[-Int.ofNat_eq_natCast,isD,ll,k1']
 | _=>simp[isD,x8v]
end
theorem j0f (p s:Nat):x0o p (.int (Int.ofNat s))=decide (s<p):=by
 show(decide ((0:Int)<=(s:Int)) && decide ((s:Int)<(p:Int)))=_
 rw[decide_eq_true (by omega),Bool.true_and]
 congr 1
 exact propext ⟨fun h=>by omega,fun h=>by omega⟩
theorem z1t {n:Nat} {f:Nat->Nat->Nat} {h:Nat} {H:Hs} (o:H.Ok n f h):x49 n f h (x18 n H)=true:=by
 have p1:=o.p1
 have p8:=o.p8
 show(y31 (.int (Int.ofNat H.p)) && inB n f h (Int.ofNat H.p).toNat (.tup (H.W.map (x3b n))))=true
 have e1:y31 (.int (Int.ofNat H.p))=true:=by
  show(decide ((1:Int)<=(H.p:Int)) && decide ((H.p:Int)<=8))=true
  rw[decide_eq_true (by omega),decide_eq_true (by omega)]; rfl
 rw[e1,Bool.true_and]
 show(decide ((H.W.map (x3b n)).length<=60) && (H.W.map (x3b n)).all (wcB n f h H.p))=true
 rw[List.length_map,decide_eq_true o.w60,Bool.true_and,List.all_eq_true]
 intro d hd
 obtain⟨w,hw,rfl⟩:=List.mem_map.mp hd
 obtain⟨w1,w2,w3⟩:=o.ws w hw
 have n1:x0o H.p (.int (Int.ofNat w.1))=true:=by rw[j0f]; exact decide_eq_true w1
 have n2:x0o H.p (.int (Int.ofNat w.2.1))=true:=by rw[j0f]; exact decide_eq_true w2
 show((x0o H.p (.int (Int.ofNat w.1)) && x0o H.p (.int (Int.ofNat w.2.1)) && rr n f (x9s n w.2.2)) || (x0o H.p (.int (Int.ofNat w.1)) && x0o H.p (.int (Int.ofNat w.2.1)) && x0o h (x9s n w.2.2)))=true
 rw[n1,n2]
 cases e:w.2.2 with
 | inl k=>
  rw[e]at w3
  have:x0o h (x9s n (.inl k))=true:=by show x0o h (.int (Int.ofNat k))=true; rw[j0f]; exact decide_eq_true w3
  rw[this]; simp
 | inr r=>
  rw[e]at w3
  have:rr n f (x9s n (.inr r))=true:=by show rr n f (x1j n r)=true; rw[z8i w3.1]; exact x95.mpr fun y x hy hx e=>w3.2 x y hx hy e
  rw[this]; simp
theorem z5b {n:Nat} {f:Nat->Nat->Nat} {P:List Hs} (hP:∀ H∈P,H.Ok n f P.length) (h1:1<=P.length) (h3:P.length<=3):x8v n f (x10 n P)=true:=by
 show(decide (1<=(P.map (x18 n)).length) && decide ((P.map (x18 n)).length<=4) && (P.map (x18 n)).all (x49 n f (P.map (x18 n)).length))=true
 rw[List.length_map,decide_eq_true h1,decide_eq_true (by omega),Bool.true_and,Bool.true_and,List.all_eq_true]
 intro d hd
 obtain⟨H,hH,rfl⟩:=List.mem_map.mp hd
 exact z1t (hP H hH)
theorem z1f {n:Nat} {f:Nat->Nat->Nat} {m:Nat} (h1:1<=m):x8v n f (.tup (List.replicate m (.tup [.int 1,.tup []])))=decide (m<=4):=by
 show(decide (1<=(List.replicate m _).length) && decide ((List.replicate m _).length<=4) && (List.replicate m (D.tup [.int 1,.tup []])).all _)=_
 rw[List.length_replicate,decide_eq_true h1,Bool.true_and]
 have:(List.replicate m (D.tup [.int 1,.tup []])).all (x49 n f m)=true:=by
  rw[List.all_eq_true]
  intro d hd
  rw[(List.mem_replicate.mp hd).2]
  rfl
 rw[this,Bool.and_true]
section
variable (n p h:Nat) (ws:List D)
noncomputable def b0:List D:=[.tup [.int 0,.tup ws],.tup [.int 9,.tup ws],.tup [.bl true,.tup []],.tup [.int (Int.ofNat p),.lst ws],.tup [.int (Int.ofNat p)],.tup [.int (Int.ofNat p),.tup ws,.tup []],.lst [.int (Int.ofNat p),.tup ws]]
noncomputable def b1:List D:=[.non,.tup []]
noncomputable def b2:List D:=[.tup [.int (Int.ofNat p),.tup (ws++[.tup [.int 0,.int (Int.ofNat p),x1j n (fun i=>i)]])],.tup [.int (Int.ofNat p),.tup (ws++[.tup [.int 0,.int 0,.int (Int.ofNat h)]])],.tup [.non,.tup ws]]
noncomputable def b3:List D:=[.tup [.int (Int.ofNat p),.tup (ws++[.tup [.int 0,.int 0,.int (-1)]])],.tup [.int (Int.ofNat p),.tup (ws++[.tup [.int 0,.int 0,.bl true]])],.tup [.int (Int.ofNat p),.tup (ws++[.tup [.int 0,.int 0,.lst (x0j ((List.range n).map fun i=>i))]])]]
noncomputable def b4:List D:=[.tup [.int (Int.ofNat p),.tup (ws++[.tup [.int (-1),.int 0,.int 0]])],.tup [.int (Int.ofNat p),.tup (ws++[.tup [.int 0,.int 0]])],.tup [.int (Int.ofNat p),.tup (ws++[.tup [.int 0,.int 0,.non]])]]
noncomputable def b5:List D:=[.tup [.int (Int.ofNat p),.tup (ws++[.tup [.int 0,.int 0,.tup (x0j ((List.range n).map fun i=>i)++[.int 0])]])]]
noncomputable def y6b:List D:=b0 p ws++b1++b2 n p h ws++b3 n p ws++b4 p ws++b5 n p ws
noncomputable def z5c (rest:List D):List D:=[.lst (.tup [.int (Int.ofNat p),.tup ws]::rest),.tup [],.non,.int 0,.tup [.int (Int.ofNat p),.tup ws],.tup (.tup [.int (Int.ofNat p),.tup ws]::rest++[.non]),.tup [.tup (.tup [.int (Int.ofNat p),.tup ws]::rest)]]
end
section
variable {n:Nat} {f:Nat->Nat->Nat} {p h:Nat} {ws:List D}
theorem j5t {m:Nat} {x:D} (hx:wcB n f h m x=false):inB n f h m (.tup (ws++[x]))=false:=by
 show(decide _ && (ws++[x]).all (wcB n f h m))=false
 rw[List.all_append]
 simp[hx]
theorem y2l {x:D} (hx:wcB n f h p x=false):x49 n f h (.tup [.int (Int.ofNat p),.tup (ws++[x])])=false:=by
 show(y31 _ && inB n f h (Int.ofNat p).toNat _)=false
 rw[show(Int.ofNat p).toNat=p from rfl,j5t hx,Bool.and_false]
theorem z84:∀ d∈y6b n p h ws,x49 n f h d=false:=by
 intro d hd
 have i0:x0o p (.int (Int.ofNat p))=false:=by rw[j0f]; simp
 have i1:x0o h (.int (Int.ofNat h))=false:=by rw[j0f]; simp
 unfold y6b at hd
 simp only[List.mem_append]at hd
 rcases hd with((((q | q) | q) | q) | q) | q
 ·simp only[b0,List.mem_cons,List.not_mem_nil,or_false]at q
  rcases q with rfl | rfl | rfl | rfl | rfl | rfl | rfl
  ·rfl
  ·rfl
  ·rfl
  ·show(y31 _ && inB n f h _ (.lst ws))=false
   rw[show inB n f h _ (.lst ws)=false from rfl,Bool.and_false]
  ·rfl
  ·rfl
  ·rfl
 ·simp only[b1,List.mem_cons,List.not_mem_nil,or_false]at q
  rcases q with rfl | rfl
  ·rfl
  ·rfl
 ·simp only[b2,List.mem_cons,List.not_mem_nil,or_false]at q
  rcases q with rfl | rfl | rfl
  ·exact y2l (by
    show((x0o p (.int 0) && x0o p (.int (Int.ofNat p)) && rr n f (x1j n (fun i=>i))) || (x0o p (.int 0) && x0o p (.int (Int.ofNat p)) && x0o h (x1j n (fun i=>i))))=false
    rw[i0]; simp)
  ·exact y2l (by
    show((x0o p (.int 0) && x0o p (.int 0) && rr n f (.int (Int.ofNat h))) || (x0o p (.int 0) && x0o p (.int 0) && x0o h (.int (Int.ofNat h))))=false
    rw[i1,show rr n f (.int (Int.ofNat h))=false from rfl]; simp)
  ·rfl
 ·simp only[b3,List.mem_cons,List.not_mem_nil,or_false]at q
  rcases q with rfl | rfl | rfl
  ·exact y2l (by
    show((x0o p (.int 0) && x0o p (.int 0) && rr n f (.int (-1))) || (x0o p (.int 0) && x0o p (.int 0) && x0o h (.int (-1))))=false
    rw[show rr n f (.int (-1))=false from rfl,show x0o h (.int (-1))=false from rfl]; simp)
  ·exact y2l (by
    show((x0o p (.int 0) && x0o p (.int 0) && rr n f (.bl true)) || (x0o p (.int 0) && x0o p (.int 0) && x0o h (.bl true)))=false
    rw[show rr n f (.bl true)=false from rfl,show x0o h (.bl true)=false from rfl]; simp)
  ·exact y2l (by
    show((x0o p (.int 0) && x0o p (.int 0) && rr n f (.lst _)) || (x0o p (.int 0) && x0o p (.int 0) && x0o h (.lst _)))=false
    rw[show rr n f (.lst _)=false from rfl,show x0o h (.lst _)=false from rfl]; simp)
 ·simp only[b4,List.mem_cons,List.not_mem_nil,or_false]at q
  rcases q with rfl | rfl | rfl
  ·exact y2l rfl
  ·exact y2l rfl
  ·exact y2l (by
    show((x0o p (.int 0) && x0o p (.int 0) && rr n f .non) || (x0o p (.int 0) && x0o p (.int 0) && x0o h .non))=false
    rw[show rr n f .non=false from rfl,show x0o h .non=false from rfl]; simp)
 ·simp only[b5,List.mem_cons,List.not_mem_nil,or_false]at q
  subst q
  exact y2l (by
   show((x0o p (.int 0) && x0o p (.int 0) && rr n f (.tup _)) || (x0o p (.int 0) && x0o p (.int 0) && x0o h (.tup _)))=false
   have e:rr n f (.tup (x0j ((List.range n).map fun i=>i)++[.int 0]))=false:=by
    show(x3u n n (.tup (x0j ((List.range n).map fun i=>i)++[.int 0])) && _)=false
    have:x3u n n (.tup (x0j ((List.range n).map fun i=>i)++[.int 0]))=false:=z42 (by rw[List.length_append,x1e,List.length_map,List.length_range]; simp)
    rw[this]; rfl
   rw[e,show x0o h (.tup _)=false from rfl]; simp)
theorem z8m {rest:List D}:∀ d∈z5c p ws rest,x8v n f d=false:=by
 intro d hd
 simp only[z5c,List.mem_cons,List.not_mem_nil,or_false]at hd
 rcases hd with rfl | rfl | rfl | rfl | rfl | rfl | rfl
 ·rfl
 ·rfl
 ·rfl
 ·rfl
 ·rfl
 ·unfold x8v
  simp[x49,List.all_append]
 ·have:x49 n f 1 (D.tup (D.tup [.int (Int.ofNat p),.tup ws]::rest))=false:=by
   cases rest with
   | nil=>rfl
   | cons a r=>cases r <;> rfl
  unfold x8v
  simp[-Int.ofNat_eq_natCast,this]
theorem z7q {d:D} {rest:List D} (hd:x49 n f (rest.length+1) d=false):x8v n f (.tup (d::rest))=false:=by
 unfold x8v
 simp[hd]
end
theorem z3y {i:Nat} {f:Den} {ρ ρ1 ρ2:Rho} {ds es:List D} (hl:y49 ρ[i]? = true) (hf:f ρ=some (.lst es,1,ρ1)) (h1:ρ1[i]? = some (some (.lst ds,1))) (hn:ds.length+es.length<=1000) (e:ρ1.set i (some (.lst (ds++es),1))=ρ2):x2b (y3o i f) ρ=some (.nx ρ2):=by
 unfold x2b y3o
 rw[if_pos hl,hf]
 simp only[h1,if_pos hn,e]
theorem z0r {xs:List D} {i:Int} (h0:0<=i) (h1:i<(xs.length:Int)):∃ d∈xs,L2.atI xs i=some d:=by
 obtain⟨m,rfl⟩:∃ m:Nat,i=Int.ofNat m:=⟨i.toNat,by show i=(i.toNat:Int); omega⟩
 have hm:m<xs.length:=by have:(m:Int)<(xs.length:Int):=h1; omega
 exact⟨xs[m],List.getElem_mem hm,y19 (List.getElem?_eq_getElem hm)⟩
theorem z4e {fa fb:Den} {ρ ρ1 ρ2:Rho} {ds es:List D} {q q':Nat} (ha:fa ρ=some (.tup ds,q,ρ1)) (hb:fb ρ1=some (.tup es,q',ρ2)) (hl:ds.length+es.length<=1000):y55 fa fb ρ=some (.tup (ds++es),9,ρ2):=by
 unfold y55
 rw[ha]
 simp only[hb,if_pos hl]
theorem j2p {i q:Nat} {ρ:Rho} {ds:List D} {d:D} {b:Den} {k:Int} {q':Nat} (hb:b ρ=some (.int k,q',ρ)) (h:ρ[i]? = some (some (.lst ds,q))) (hq:q<=1) (ha:atD (.lst ds) k=some d):x1z i b ρ=some (d,x41 d,ρ):=by
 unfold x1z
 simp only[h,hb,ha]
 rw[if_neg (fun z=>by omega)]
theorem j7f {x:D} {rest:List D}:L3.j3d (x::rest) (some 1) none=rest:=by
 unfold L3.j3d
 simp[HT.sIx]
section
variable {n:Nat} {f:Nat->Nat->Nat} {p:Nat} {ws rest:List D}
theorem j5s (hn6:n<=16) (hw:ws.length<=60) (hr:rest.length<=3) (c:Int) (hc:0<=c):∃ d q,x3j [x0x n f,.tup (.tup [.int (Int.ofNat p),.tup ws]::rest),.int c]=some (d,q)/\x8v n f d=false:=by
 have hn:n<=1000:=by omega
 have hw1:ws.length+1<=1000:=by omega
 have hw2:ws.length<=999:=by omega
 have hlen:(y6b n p (rest.length+1) ws).length=19:=rfl
 have hlen2:(z5c p ws rest).length=7:=rfl
 obtain⟨d,hd,hat⟩:=z0r (xs:=y6b n p (rest.length+1) ws) (i:=c / 5 % 19) (by omega) (by rw[hlen]; omega)
 obtain⟨d',hd',hat'⟩:=z0r (xs:=z5c p ws rest) (i:=c / 5 % 7) (by omega) (by rw[hlen2]; omega)
 have key:∃ q,x3j [x0x n f,.tup (.tup [.int (Int.ofNat p),.tup ws]::rest),.int c]=some (if c % 5=0 then d' else .tup (d::rest),q):=by
  refine⟨if c % 5=0 then x41 d' else 9,?_⟩
  unfold x3j y1y
  refine x28 ?_
  show x1i _ _ [some (x0x n f,9),some (.tup (.tup [.int (Int.ofNat p),.tup ws]::rest),9),some (.int c,9),none,none,none,none,none]=_
  refine(x0e (ρ1:=[some (x0x n f,9),some (.tup (.tup [.int (Int.ofNat p),.tup ws]::rest),9),some (.int c,9),some (.int (Int.ofNat p),9),some (.tup ws,9),none,none,none]) (by
   have a0:atD (.tup (.tup [.int (Int.ofNat p),.tup ws]::rest)) 0=some (.tup [.int (Int.ofNat p),.tup ws]):=y19 (i:=0) rfl
   have ea:x1z 1 (eC (.int 0)) [some (x0x n f,9),some (.tup (.tup [.int (Int.ofNat p),.tup ws]::rest),9),some (.int c,9),none,none,none,none,none]=some (.tup [.int (Int.ofNat p),.tup ws],9,[some (x0x n f,9),some (.tup (.tup [.int (Int.ofNat p),.tup ws]::rest),9),some (.int c,9),none,none,none,none,none]):=y0z (k:=0) (q':=9) rfl rfl a0 rfl
   unfold j23
   rw[ea]
   rfl)).trans ?_
  refine(x0e (ρ1:=[some (x0x n f,9),some (.tup (.tup [.int (Int.ofNat p),.tup ws]::rest),9),some (.int c,9),some (.int (Int.ofNat p),9),some (.tup ws,9),some (x1j n (fun i=>i),9),none,none]) (by
   have e:=x4d (x0q (y1c (x4a hn (i:=0) (ρ:=[some (x0x n f,9),some (.tup (.tup [.int (Int.ofNat p),.tup ws]::rest),9),some (.int c,9),some (.int (Int.ofNat p),9),some (.tup ws,9),none,none,none]) rfl x32)))
   rw[y8f]at e
   exact x27 e rfl)).trans ?_
  refine(x0e (ρ1:=[some (x0x n f,9),some (.tup (.tup [.int (Int.ofNat p),.tup ws]::rest),9),some (.int c,9),some (.int (Int.ofNat p),9),some (.tup ws,9),some (x1j n (fun i=>i),9),some (.lst (b0 p ws),1),none]) (by simp[-Int.ofNat_eq_natCast,b0])).trans ?_
  refine(x0e (ρ1:=[some (x0x n f,9),some (.tup (.tup [.int (Int.ofNat p),.tup ws]::rest),9),some (.int c,9),some (.int (Int.ofNat p),9),some (.tup ws,9),some (x1j n (fun i=>i),9),some (.lst (b0 p ws++b1),1),none]) (z3y (es:=b1) rfl (ρ1:=[some (x0x n f,9),some (.tup (.tup [.int (Int.ofNat p),.tup ws]::rest),9),some (.int c,9),some (.int (Int.ofNat p),9),some (.tup ws,9),some (x1j n (fun i=>i),9),some (.lst (b0 p ws),1),none]) rfl rfl (by show 7+2<=1000; decide) rfl)).trans ?_
  have lr:x9r (.tup (.tup [.int (Int.ofNat p),.tup ws]::rest))=some (rest.length+1):=rfl
  refine(x0e (ρ1:=[some (x0x n f,9),some (.tup (.tup [.int (Int.ofNat p),.tup ws]::rest),9),some (.int c,9),some (.int (Int.ofNat p),9),some (.tup ws,9),some (x1j n (fun i=>i),9),some (.lst (b0 p ws++b1++b2 n p (rest.length+1) ws),1),none]) (by
   refine z3y (es:=b2 n p (rest.length+1) ws) rfl (ρ1:=[some (x0x n f,9),some (.tup (.tup [.int (Int.ofNat p),.tup ws]::rest),9),some (.int c,9),some (.int (Int.ofNat p),9),some (.tup ws,9),some (x1j n (fun i=>i),9),some (.lst (b0 p ws++b1),1),none]) (by simp[-Int.ofNat_eq_natCast,b2,hw1,hw2,lr]) rfl (by show 9+3<=1000; decide) rfl)).trans ?_
  generalize ha1:b0 p ws++b1++b2 n p (rest.length+1) ws=acc1
  have hl1:acc1.length=12:=by rw[<- ha1]; rfl
  refine(x0e (ρ1:=[some (x0x n f,9),some (.tup (.tup [.int (Int.ofNat p),.tup ws]::rest),9),some (.int c,9),some (.int (Int.ofNat p),9),some (.tup ws,9),some (x1j n (fun i=>i),9),some (.lst (acc1++b3 n p ws),1),none]) (by
   have hr:x4b (x01 (x06 5) x0d) [some (x0x n f,9),some (.tup (.tup [.int (Int.ofNat p),.tup ws]::rest),9),some (.int c,9),some (.int (Int.ofNat p),9),some (.tup ws,9),some (x1j n (fun i=>i),9),some (.lst acc1,1),none]=some (.lst (x0j ((List.range n).map fun i=>i)),1,[some (x0x n f,9),some (.tup (.tup [.int (Int.ofNat p),.tup ws]::rest),9),some (.int c,9),some (.int (Int.ofNat p),9),some (.tup ws,9),some (x1j n (fun i=>i),9),some (.lst acc1,1),none]):=rfl
   refine z3y (es:=b3 n p ws) rfl (ρ1:=[some (x0x n f,9),some (.tup (.tup [.int (Int.ofNat p),.tup ws]::rest),9),some (.int c,9),some (.int (Int.ofNat p),9),some (.tup ws,9),some (x1j n (fun i=>i),9),some (.lst acc1,1),none]) (by simp[-Int.ofNat_eq_natCast,-x4b,hr,x6g,b3,hw1,hw2]) rfl (by rw[hl1]; show 12+3<=1000; decide) rfl)).trans ?_
  refine(x0e (ρ1:=[some (x0x n f,9),some (.tup (.tup [.int (Int.ofNat p),.tup ws]::rest),9),some (.int c,9),some (.int (Int.ofNat p),9),some (.tup ws,9),some (x1j n (fun i=>i),9),some (.lst (acc1++b3 n p ws++b4 p ws),1),none]) (by
   refine z3y (es:=b4 p ws) rfl (ρ1:=[some (x0x n f,9),some (.tup (.tup [.int (Int.ofNat p),.tup ws]::rest),9),some (.int c,9),some (.int (Int.ofNat p),9),some (.tup ws,9),some (x1j n (fun i=>i),9),some (.lst (acc1++b3 n p ws),1),none]) (by simp[-Int.ofNat_eq_natCast,b4,hw1,hw2]) rfl (by rw[List.length_append,hl1]; show 12+3+3<=1000; decide) rfl)).trans ?_
  refine(x0e (ρ1:=[some (x0x n f,9),some (.tup (.tup [.int (Int.ofNat p),.tup ws]::rest),9),some (.int c,9),some (.int (Int.ofNat p),9),some (.tup ws,9),some (x1j n (fun i=>i),9),some (.lst (acc1++b3 n p ws++b4 p ws++b5 n p ws),1),none]) (by
   have c5:y55 (x06 5) (x34 (x01 (eC (.int 0)) (x0d))) [some (x0x n f,9),some (.tup (.tup [.int (Int.ofNat p),.tup ws]::rest),9),some (.int c,9),some (.int (Int.ofNat p),9),some (.tup ws,9),some (x1j n (fun i=>i),9),some (.lst (acc1++b3 n p ws++b4 p ws),1),none]=some (.tup (x0j ((List.range n).map fun i=>i)++[.int 0]),9,[some (x0x n f,9),some (.tup (.tup [.int (Int.ofNat p),.tup ws]::rest),9),some (.int c,9),some (.int (Int.ofNat p),9),some (.tup ws,9),some (x1j n (fun i=>i),9),some (.lst (acc1++b3 n p ws++b4 p ws),1),none]):=z4e (ds:=x0j ((List.range n).map fun i=>i)) (es:=[.int 0]) (q:=9) (q':=9) rfl rfl (by rw[x1e,List.length_map,List.length_range]; show n+1<=1000; omega)
   have c4:=z4e (fa:=x06 4) (ρ:=[some (x0x n f,9),some (.tup (.tup [.int (Int.ofNat p),.tup ws]::rest),9),some (.int c,9),some (.int (Int.ofNat p),9),some (.tup ws,9),some (x1j n (fun i=>i),9),some (.lst (acc1++b3 n p ws++b4 p ws),1),none]) (ρ1:=[some (x0x n f,9),some (.tup (.tup [.int (Int.ofNat p),.tup ws]::rest),9),some (.int c,9),some (.int (Int.ofNat p),9),some (.tup ws,9),some (x1j n (fun i=>i),9),some (.lst (acc1++b3 n p ws++b4 p ws),1),none]) (ds:=ws) (q:=9) rfl (x6m (x0q (x6m (x0k (f:=eC (.int 0)) (q:=9) rfl (x0k (f:=eC (.int 0)) (q:=9) rfl (x0q c5))) (show 3<=1000 by decide))) (show 1<=1000 by decide)) (by show ws.length+1<=1000; exact hw1)
   exact y17 (ds:=acc1++b3 n p ws++b4 p ws) rfl (x0q (x6m (x0k (f:=x06 3) (q:=9) rfl (x0q c4)) (show 2<=1000 by decide))) rfl (by rw[List.length_append,List.length_append,hl1]; show 12+3+3<=1000; decide) rfl)).trans ?_
  subst ha1
  show x1i _ _ [some (x0x n f,9),some (.tup (.tup [.int (Int.ofNat p),.tup ws]::rest),9),some (.int c,9),some (.int (Int.ofNat p),9),some (.tup ws,9),some (x1j n (fun i=>i),9),some (.lst (y6b n p (rest.length+1) ws),1),none]=_
  have cat6:=z4e (fa:=x06 1) (ρ:=[some (x0x n f,9),some (.tup (.tup [.int (Int.ofNat p),.tup ws]::rest),9),some (.int c,9),some (.int (Int.ofNat p),9),some (.tup ws,9),some (x1j n (fun i=>i),9),some (.lst (y6b n p (rest.length+1) ws),1),none]) (ρ1:=[some (x0x n f,9),some (.tup (.tup [.int (Int.ofNat p),.tup ws]::rest),9),some (.int c,9),some (.int (Int.ofNat p),9),some (.tup ws,9),some (x1j n (fun i=>i),9),some (.lst (y6b n p (rest.length+1) ws),1),none]) (ds:=.tup [.int (Int.ofNat p),.tup ws]::rest) (q:=9) rfl (fb:=x34 (x01 (eC .non) (x0d))) (es:=[.non]) (q':=9) rfl (by show rest.length+1+1<=1000; omega)
  have a0:atD (.tup (.tup [.int (Int.ofNat p),.tup ws]::rest)) 0=some (.tup [.int (Int.ofNat p),.tup ws]):=y19 (i:=0) rfl
  have ea:x1z 1 (eC (.int 0)) [some (x0x n f,9),some (.tup (.tup [.int (Int.ofNat p),.tup ws]::rest),9),some (.int c,9),some (.int (Int.ofNat p),9),some (.tup ws,9),some (x1j n (fun i=>i),9),some (.lst (y6b n p (rest.length+1) ws),1),none]=some (.tup [.int (Int.ofNat p),.tup ws],9,[some (x0x n f,9),some (.tup (.tup [.int (Int.ofNat p),.tup ws]::rest),9),some (.int c,9),some (.int (Int.ofNat p),9),some (.tup ws,9),some (x1j n (fun i=>i),9),some (.lst (y6b n p (rest.length+1) ws),1),none]):=y0z (k:=0) (q':=9) rfl rfl a0 rfl
  have el:x4b (x01 (x06 1) (x0d)) [some (x0x n f,9),some (.tup (.tup [.int (Int.ofNat p),.tup ws]::rest),9),some (.int c,9),some (.int (Int.ofNat p),9),some (.tup ws,9),some (x1j n (fun i=>i),9),some (.lst (y6b n p (rest.length+1) ws),1),none]=some (.lst (.tup [.int (Int.ofNat p),.tup ws]::rest),1,[some (x0x n f,9),some (.tup (.tup [.int (Int.ofNat p),.tup ws]::rest),9),some (.int c,9),some (.int (Int.ofNat p),9),some (.tup ws,9),some (x1j n (fun i=>i),9),some (.lst (y6b n p (rest.length+1) ws),1),none]):=rfl
  refine(x0e (ρ1:=[some (x0x n f,9),some (.tup (.tup [.int (Int.ofNat p),.tup ws]::rest),9),some (.int c,9),some (.int (Int.ofNat p),9),some (.tup ws,9),some (x1j n (fun i=>i),9),some (.lst (y6b n p (rest.length+1) ws),1),some (.lst (z5c p ws rest),1)]) (by
   refine x27 (q:=1) (d:=.lst (z5c p ws rest)) (ρ1:=[some (x0x n f,9),some (.tup (.tup [.int (Int.ofNat p),.tup ws]::rest),9),some (.int c,9),some (.int (Int.ofNat p),9),some (.tup ws,9),some (x1j n (fun i=>i),9),some (.lst (y6b n p (rest.length+1) ws),1),none]) ?_ rfl
   unfold x4n
   rw[x0k el (x0k (f:=x34 (x0d)) (q:=9) rfl (x0k (f:=eC .non) (q:=9) rfl (x0k (f:=eC (.int 0)) (q:=9) rfl (x0k ea (x0k cat6 (x0q (f:=x34 (x01 (x06 1) (x0d))) (d:=.tup [.tup (.tup [.int (Int.ofNat p),.tup ws]::rest)]) (q:=9) rfl))))))]
   exact if_pos (show 7<=1000 by decide))).trans ?_
  have hat1:atD (.lst (y6b n p (rest.length+1) ws)) (c / 5 % 19)=some d:=hat
  have hat2:atD (.lst (z5c p ws rest)) (c / 5 % 7)=some d':=hat'
  generalize y6b n p (rest.length+1) ws=bh at hat1 ⊢
  generalize z5c p ws rest=bp at hat2 ⊢
  have t5:x2n (e2 dEq (e2 y7r (x06 2) (eC (.int 5))) (eC (.int 0))) [some (x0x n f,9),some (.tup (.tup [.int (Int.ofNat p),.tup ws]::rest),9),some (.int c,9),some (.int (Int.ofNat p),9),some (.tup ws,9),some (x1j n (fun i=>i),9),some (.lst bh,1),some (.lst bp,1)]=some (decide (c % 5=0),[some (x0x n f,9),some (.tup (.tup [.int (Int.ofNat p),.tup ws]::rest),9),some (.int c,9),some (.int (Int.ofNat p),9),some (.tup ws,9),some (x1j n (fun i=>i),9),some (.lst bh,1),some (.lst bp,1)]):=x3g (x3m (x3m (fa:=x06 2) (fb:=eC (.int 5)) (q:=9) (q':=9) (d:=.int (c % 5)) rfl rfl rfl) (rfl:eC (.int 0) _=some (.int 0,9,_)) (x7f (c % 5) 0))
  have ix:∀ k:Int,0<k->e2 y7r (e2 z64 (x06 2) (eC (.int 5))) (eC (.int k)) [some (x0x n f,9),some (.tup (.tup [.int (Int.ofNat p),.tup ws]::rest),9),some (.int c,9),some (.int (Int.ofNat p),9),some (.tup ws,9),some (x1j n (fun i=>i),9),some (.lst bh,1),some (.lst bp,1)]=some (.int (c / 5 % k),9,[some (x0x n f,9),some (.tup (.tup [.int (Int.ofNat p),.tup ws]::rest),9),some (.int c,9),some (.int (Int.ofNat p),9),some (.tup ws,9),some (x1j n (fun i=>i),9),some (.lst bh,1),some (.lst bp,1)]):=fun k hk=>x3m (x3m (fa:=x06 2) (fb:=eC (.int 5)) (q:=9) (q':=9) (d:=.int (c / 5)) rfl rfl rfl) (fb:=eC (.int k)) (q':=9) rfl (by show(if 0<k then some (D.int (c / 5 % k))else none)=_; rw[if_pos hk])
  by_cases h5:c % 5=0
  ·rw[decide_eq_true h5]at t5
   rw[if_pos h5,if_pos h5]
   exact x7c ((z3f t5).trans (x1t (j2p (i:=7) (q:=1) (ix 7 (by decide)) rfl (Nat.le_refl 1) hat2)))
  ·rw[decide_eq_false h5]at t5
   rw[if_neg h5,if_neg h5]
   refine(x0e ((y1e t5).trans rfl)).trans ?_
   have es:eSl (x06 1) (z0w (eC (.int 1))) (z2w) [some (x0x n f,9),some (.tup (.tup [.int (Int.ofNat p),.tup ws]::rest),9),some (.int c,9),some (.int (Int.ofNat p),9),some (.tup ws,9),some (x1j n (fun i=>i),9),some (.lst bh,1),some (.lst bp,1)]=some (.tup rest,9,[some (x0x n f,9),some (.tup (.tup [.int (Int.ofNat p),.tup ws]::rest),9),some (.int c,9),some (.int (Int.ofNat p),9),some (.tup ws,9),some (x1j n (fun i=>i),9),some (.lst bh,1),some (.lst bp,1)]):=by
    show some (D.tup (L3.j3d (D.tup [.int (Int.ofNat p),.tup ws]::rest) (some 1) none),9,_)=_
    rw[j7f]
   exact x1t (z4e (ds:=[d]) (x6m (x0q (j2p (i:=6) (q:=1) (ix 19 (by decide)) rfl (Nat.le_refl 1) hat1)) (show 1<=1000 by decide)) es (by show 1+rest.length<=1000; omega))
 obtain⟨q,e⟩:=key
 refine⟨_,q,e,?_⟩
 by_cases h5:c % 5=0
 ·rw[if_pos h5]; exact z8m d' hd'
 ·rw[if_neg h5]; exact z7q (z84 d hd)
end
theorem z79:∀ m:Nat,m<32->∀ v:Nat,v<5->∀ k:Nat,k<5->(bl (bor m v)).contains k=((bl m).contains k || k == v):=by decide +kernel
theorem z70 (m:Nat) (hm:m<32) (v:Nat) (hv:v<5) (k:Nat) (hk:k<5):k∈bl (bor m v) ↔ (k∈bl m\/k=v):=by
 have:=z79 m hm v hv k hk
 rw[<- List.contains_iff_mem,this,Bool.or_eq_true,List.contains_iff_mem,beq_iff_eq]
theorem y20:∀ {g:List Nat} {m:Nat},m<32->(∀ v∈g,v<5)->∀ k:Nat,(k∈bl (g.foldl bor m) ↔ (k∈bl m\/k∈g))
 | [],m,_,_,k=>by simp
 | v::g,m,hm,h5,k=>by
  have hv:=h5 v List.mem_cons_self
  have ih:=y20 (g:=g) (m:=bor m v) (y6r m hm v hv) (fun x hx=>h5 x (List.mem_cons_of_mem _ hx)) k
  rw[List.foldl_cons,ih,List.mem_cons]
  by_cases hk:k<5
  ·rw[z70 m hm v hv k hk,or_assoc]
  ·constructor
   ·rintro (q | q)
    ·exact absurd (y7e _ q) hk
    ·exact .inr (.inr q)
   ·rintro (q | q | q)
    ·exact absurd (y7e _ q) hk
    ·exact absurd (q ▸ hv) hk
    ·exact .inr q
theorem j1e {m m':Nat} (h:∀ k,k∈bl m ↔ k∈bl m'):bl m=bl m':=by
 unfold bl
 apply List.filter_congr
 intro k hk
 have:=h k
 unfold bl at this
 rw[List.mem_filter,List.mem_filter]at this
 cases e:m.testBit k with
 | true=>exact(this.mp ⟨hk,e⟩).2.symm
 | false=>
  cases e':m'.testBit k with
  | false=>rfl
  | true=>rw[(this.mpr ⟨hk,e'⟩).2]at e; cases e
theorem z19:∀ m:Nat,m<32->∀ m':Nat,m'<32->(∀ k:Nat,k<5->m.testBit k=true->m'.testBit k=true)->m≠m'->(bl m).length<(bl m').length:=by decide +kernel
theorem y9v:∀ m:Nat,m<32->∀ h:Nat,h<5->(∀ k:Nat,k<5->m.testBit k=true->k<h)->(bl m).length<=h:=by decide +kernel
theorem tb {m k:Nat} (hm:m<32) (hk:k<5):m.testBit k=true ↔ k∈bl m:=(y7b m hm k hk).symm
noncomputable def Clo (l:List (Nat × Nat)) (N:Nat):Prop:=∀ c∈l,c.1∈bl N->c.2∈bl N
section
variable {l:List (Nat × Nat)} (h5:∀ c∈l,c.2<5)
include h5
theorem z0a (g:List Nat) (k:Nat):k∈gf l g ↔ ∃ c∈l,c.1∈g/\c.2=k:=by
 unfold gf
 rw[List.mem_map]
 constructor
 ·rintro ⟨c,hc,rfl⟩
  obtain⟨h1,h2⟩:=List.mem_filter.mp hc
  exact⟨c,h1,of_decide_eq_true h2,rfl⟩
 ·rintro ⟨c,hc,h1,rfl⟩
  exact⟨c,List.mem_filter.mpr ⟨hc,decide_eq_true h1⟩,rfl⟩
theorem z2v {m:Nat} (hm:m<32) (e:(gf l (bl m)).foldl bor m=m):Clo l m:=fun c hc h1=>by
 have:=(y20 hm (z5w h5 (bl m)) c.2).mpr (.inr ((z0a h5 (bl m) c.2).mpr ⟨c,hc,h1,rfl⟩))
 rw[e]at this
 exact this
theorem z4y {h:Nat} (hn:l.length<=500) {m0:Nat} (hm0:m0<32):∃ M,M<32/\(∀ k∈bl m0,k∈bl M)/\Clo l M/\(∀ N,Clo l N->(∀ k∈bl m0,k∈bl N)->∀ k∈bl M,k∈bl N)/\x33 [clC h l,.lst (x0j (bl m0))]=some (.lst (x0j (bl M)),0):=by
 have b5:∀ (m:Nat),∀ k∈bl m,k<5:=fun m k hk=>y7e m hk
 have st:∀ (m:Nat) (hm:m<32) (a:D) (q3:Nat),(x1i (x2r 3 (x06 2)) (x2r 2 (x46 (y4d (x06 3) (x0f x1p 2 (x01 (x06 0) (x01 (x06 3) (x0d)))))))) (R4 h l (.lst (x0j (bl m0))) 0 m a 0 q3)=some (.nx (R4 h l (.lst (x0j (bl m0))) 0 ((gf l (bl m)).foldl bor m) (.lst (x0j (bl m))) 1 0)):=fun m hm a q3=>by
  refine(x0e (ρ1:=R4 h l (.lst (x0j (bl m0))) 0 m (.lst (x0j (bl m))) 0 0) (x27 (x2z (i:=2) (q:=0) rfl) rfl)).trans ?_
  have v3:x06 3 (R4 h l (.lst (x0j (bl m0))) 0 m (.lst (x0j (bl m))) 0 0)=some (.lst (x0j (bl m)),0,R4 h l (.lst (x0j (bl m0))) 0 m (.lst (x0j (bl m))) 0 0):=x2z (i:=3) (q:=0) rfl
  have c3:=x0h (F:=x1p) (n:=2) (x0k (f:=x06 0) (q:=9) (ρ:=R4 h l (.lst (x0j (bl m0))) 0 m (.lst (x0j (bl m))) 0 0) (ρ1:=R4 h l (.lst (x0j (bl m0))) 0 m (.lst (x0j (bl m))) 0 0) (d:=clC h l) rfl (x0q v3)) rfl (x83 (by omega) (bl m))
  have e1:y4d (x06 3) (x0f x1p 2 (x01 (x06 0) (x01 (x06 3) (x0d)))) (R4 h l (.lst (x0j (bl m0))) 0 m (.lst (x0j (bl m))) 0 0)=some (.lst (x0j (bl m++gf l (bl m))),1,R4 h l (.lst (x0j (bl m0))) 0 m (.lst (x0j (bl m))) 0 0):=by
   unfold y4d
   rw[v3]
   dsimp only
   rw[c3]
   have g1:=j44 (l:=l) (bl m)
   have g2:=y4n m hm
   show(if(x0j (bl m)).length+(x0j (gf l (bl m))).length<=1000 then some (D.lst (x0j (bl m)++x0j (gf l (bl m))),1,_)else none)=_
   rw[if_pos (by rw[x1e,x1e]; omega),y0d]
  have e2:=x8t e1 (Nat.le_refl 1) (fun k hk=>by
   rcases List.mem_append.mp hk with q | q
   ·exact b5 m k q
   ·exact z5w h5 _ k q)
  rw[List.foldl_append,z9f m hm]at e2
  exact x27 e2 rfl
 have keep:∀ m,m<32->(∀ N,Clo l N->(∀ k∈bl m0,k∈bl N)->∀ k∈bl m,k∈bl N)->(∀ N,Clo l N->(∀ k∈bl m0,k∈bl N)->∀ k∈bl ((gf l (bl m)).foldl bor m),k∈bl N):=fun m hm hN N cN h0 k hk=>by
  rcases(y20 hm (z5w h5 (bl m)) k).mp hk with q | q
  ·exact hN N cN h0 k q
  ·obtain⟨c,hc,h1,rfl⟩:=(z0a h5 (bl m) k).mp q
   exact cN c hc (hN N cN h0 c.1 h1)
 have up:∀ m,m<32->(∀ k∈bl m0,k∈bl m)->∀ k∈bl m0,k∈bl ((gf l (bl m)).foldl bor m):=fun m hm hu k hk=>(y20 hm (z5w h5 (bl m)) k).mpr (.inl (hu k hk))
 obtain⟨ρ',e,M,a,q2,q3,h1,h2,h3,h4,rfl⟩:=y93 (c:=x2n (e2 dNe (x06 2) (x06 3))) (b:=x1i (x2r 3 (x06 2)) (x2r 2 (x46 (y4d (x06 3) (x0f x1p 2 (x01 (x06 0) (x01 (x06 3) (x0d))))))))
  (Q:=fun ρ=>∃ M a q2 q3,M<32/\(∀ k∈bl m0,k∈bl M)/\Clo l M/\(∀ N,Clo l N->(∀ k∈bl m0,k∈bl N)->∀ k∈bl M,k∈bl N)/\ρ=R4 h l (.lst (x0j (bl m0))) 0 M a q2 q3)
  (fun k ρ=>∃ m a q2 q3,m<32/\(∀ k∈bl m0,k∈bl m)/\(∀ N,Clo l N->(∀ k∈bl m0,k∈bl N)->∀ k∈bl m,k∈bl N)/\((a=D.non/\q3=9/\k=40)\/∃ u,a=.lst (x0j (bl u))/\q3=0/\u<32/\m=(gf l (bl u)).foldl bor u/\k=32-u)/\ρ=R4 h l (.lst (x0j (bl m0))) 0 m a q2 q3)
  (k:=40) (ρ:=R4 h l (.lst (x0j (bl m0))) 0 m0 .non 0 9) (by decide) ⟨m0,.non,0,9,hm0,fun k hk=>hk,fun N _ h0=>h0,.inl ⟨rfl,rfl,rfl⟩,rfl⟩ (fun k ρ hh0=>by
   obtain⟨m,a,q2,q3,l2,u0,uN,h6,rfl⟩:=hh0
   have m2:=z4p l2 (z5w h5 (bl m))
   have v2:x06 2 (R4 h l (.lst (x0j (bl m0))) 0 m a q2 q3)=some (.lst (x0j (bl m)),0,R4 h l (.lst (x0j (bl m0))) 0 m a 0 q3):=x2z (i:=2) (q:=q2) rfl
   rcases h6 with⟨rfl,rfl,rfl⟩ | ⟨u,rfl,rfl,u2,hmu,rfl⟩
   ·have te:x2n (e2 dNe (x06 2) (x06 3)) (R4 h l (.lst (x0j (bl m0))) 0 m .non q2 9)=some (true,R4 h l (.lst (x0j (bl m0))) 0 m .non 0 9):=x3g (x3m v2 (fb:=x06 3) (q':=9) rfl (z02 _))
    exact .inr ⟨_,_,32-m,te,st m l2 .non 9,by omega,_,.lst (x0j (bl m)),1,0,m2,up m l2 u0,keep m l2 uN,.inr ⟨m,rfl,rfl,l2,rfl,rfl⟩,rfl⟩
   ·have te:x2n (e2 dNe (x06 2) (x06 3)) (R4 h l (.lst (x0j (bl m0))) 0 m (.lst (x0j (bl u))) q2 0)=some (!decide (bl m=bl u),R4 h l (.lst (x0j (bl m0))) 0 m (.lst (x0j (bl u))) 0 0):=x3g (x3m v2 (x2z (i:=3) (q:=0) rfl) (j5a _ _))
    have le:u<=m:=by rw[hmu]; exact j38 _ u
    by_cases he:bl m=bl u
    ·rw[decide_eq_true he]at te
     have:m=u:=j3e l2 u2 he
     refine .inl ⟨_,te,m,_,_,_,l2,u0,z2v h5 l2 ?_,uN,rfl⟩
     rw[<- this]at hmu
     exact hmu.symm
    ·rw[decide_eq_false he]at te
     have:u≠m:=fun q=>he (by rw[q])
     exact .inr ⟨_,_,32-m,te,st m l2 _ 0,by omega,_,.lst (x0j (bl m)),1,0,m2,up m l2 u0,keep m l2 uN,.inr ⟨m,rfl,rfl,l2,rfl,rfl⟩,rfl⟩)
 refine⟨M,h1,h2,h3,h4,?_⟩
 unfold x33 x8i
 refine x28 ?_
 show x1i _ _ [some (clC h l,9),some (.lst (x0j (bl m0)),0),none,none]=_
 refine(x0e (ρ1:=[some (clC h l,9),some (.lst (x0j (bl m0)),0),some (.lst (x0j (bl m0)),0),none]) (x27 (x2z (i:=1) (q:=0) rfl) rfl)).trans ?_
 refine(x0e (ρ1:=R4 h l (.lst (x0j (bl m0))) 0 m0 .non 0 9) rfl).trans ?_
 exact(x0e e).trans (x1t (x2z (i:=2) (q:=q2) rfl))
end
noncomputable def csH (H:Hs):List Nat:=(H.W.filter fun w=>x5c w.2.2).map fun w=>gl w.2.2
noncomputable def csP (P:List Hs) (k:Nat):List Nat:=csH (P.getD k ⟨0,[]⟩)
noncomputable def y57 (P:List Hs) (f:List Nat) (one:Nat):List Nat:=f++(csP P one).filter fun v=>decide (v ∉ f)
noncomputable def y61 (P:List Hs) (f:List Nat):List Nat:=f.foldl (y57 P) f
noncomputable abbrev msk (f:List Nat):Nat:=f.foldl bor 0
theorem x6i {f:List Nat} (h:∀ v∈f,v<5):msk f<32:=z4p (by decide) h
theorem x42 {f:List Nat} (h:∀ v∈f,v<5) (k:Nat):k∈bl (msk f) ↔ k∈f:=by
 rw[y20 (by decide) h k]
 have:bl 0=[]:=by decide +kernel
 rw[this]
 simp
section
variable {P:List Hs} {h:Nat}
structure Srch (P:List Hs) (h:Nat) (f:List Nat):Prop where
 lt:∀ v∈f,v<h
 len:f.length<=60*(1+(bl (msk f)).length)
variable (hc:∀ k v,v∈csP P k->v<h) (h60:∀ k,(csP P k).length<=60) (h5:h<5)
include hc h60 h5
theorem y39 {f:List Nat} {one k:Nat}:k∈y57 P f one ↔ k∈f\/k∈csP P one:=by
 unfold y57
 rw[List.mem_append,List.mem_filter]
 constructor
 ·rintro (q | q)
  ·exact .inl q
  ·exact .inr q.1
 ·rintro (q | q)
  ·exact .inl q
  ·by_cases hk:k∈f
   ·exact .inl hk
   ·exact .inr ⟨q,decide_eq_true hk⟩
theorem y6q {f:List Nat} {one:Nat} (s:Srch P h f):Srch P h (y57 P f one):=by
 have l1:∀ v∈f,v<5:=fun v hv=>by have:=s.lt v hv; omega
 have lt:∀ v∈y57 P f one,v<h:=fun v hv=>(y39 hc h60 h5).mp hv |>.elim (s.lt v) (hc one v)
 have l2:∀ v∈y57 P f one,v<5:=fun v hv=>by have:=lt v hv; omega
 refine⟨lt,?_⟩
 by_cases e:(csP P one).filter (fun v=>decide (v ∉ f))=[]
 ·have:y57 P f one=f:=by unfold y57; rw[e,List.append_nil]
  rw[this]; exact s.len
 ·obtain⟨v,r,hv⟩:=List.exists_cons_of_ne_nil e
  have vm:v∈(csP P one).filter (fun v=>decide (v ∉ f)):=by rw[hv]; exact List.mem_cons_self
  obtain⟨v1,v2⟩:=List.mem_filter.mp vm
  have vn:v ∉ f:=of_decide_eq_true v2
  have g:=z19 (msk f) (x6i l1) (msk (y57 P f one)) (x6i l2) (fun k hk hb=>by
   rw[tb (x6i l1) hk,x42 l1]at hb
   rw[tb (x6i l2) hk,x42 l2]
   exact(y39 hc h60 h5).mpr (.inl hb)) (fun q=>vn (by
   have:v∈bl (msk (y57 P f one)):=(x42 l2 v).mpr ((y39 hc h60 h5).mpr (.inr v1))
   rw[<- q,x42 l1]at this
   exact this))
  have l3:(y57 P f one).length<=f.length+60:=by
   unfold y57
   rw[List.length_append]
   have:=List.length_filter_le (fun v=>decide (v ∉ f)) (csP P one)
   have:=h60 one
   omega
  have:=s.len
  omega
theorem x8f:∀ (g:List Nat) {f:List Nat},Srch P h f->Srch P h (g.foldl (y57 P) f)
 | [],_,s=>s
 | k::g,_,s=>x8f g (y6q hc h60 h5 s)
theorem fold_mem:∀ (g:List Nat) {f:List Nat} {k:Nat},k∈g.foldl (y57 P) f ↔ k∈f\/∃ one∈g,k∈csP P one
 | [],f,k=>by simp
 | o::g,f,k=>by
  rw[List.foldl_cons,fold_mem g,y39 hc h60 h5,or_assoc]
  simp only[List.mem_cons,exists_eq_or_imp]
end
section
variable {P:List Hs} {h:Nat} (hc:∀ k v,v∈csP P k->v<h) (h60:∀ k,(csP P k).length<=60) (h5:h<5)
include hc h60 h5
noncomputable def y23 (P:List Hs) (f:List Nat):Nat->List Nat
 | 0=>f
 | r+1=>y61 P (y23 P f r)
theorem x6j {f:List Nat} (s:Srch P h f):∀ r,Srch P h (y23 P f r)
 | 0=>s
 | r+1=>x8f hc h60 h5 _ (x6j s r)
noncomputable def z9p (P:List Hs) (f:List Nat):Prop:=∀ one∈f,∀ k∈csP P one,k∈f
theorem x8s {f:List Nat} {k:Nat}:k∈y61 P f ↔ k∈f\/∃ one∈f,k∈csP P one:=fold_mem hc h60 h5 f
theorem y9r {f:List Nat} (c:z9p P f):z9p P (y61 P f):=fun one ho k hk=>by
 have h1:one∈f:=(x8s hc h60 h5).mp ho |>.elim id fun⟨o,h1,h2⟩=>c o h1 one h2
 exact(x8s hc h60 h5).mpr (.inl (c one h1 k hk))
theorem j33 {f:List Nat} (s:Srch P h f):z9p P f\/(bl (msk f)).length<(bl (msk (y61 P f))).length:=by
 by_cases c:z9p P f
 ·exact .inl c
 ·refine .inr ?_
  unfold z9p at c
  simp only[Classical.not_forall]at c
  obtain⟨one,ho,k,hk,hn⟩:=c
  have l1:∀ v∈f,v<5:=fun v hv=>by have:=s.lt v hv; omega
  have s2:=x8f hc h60 h5 f s
  have l2:∀ v∈y61 P f,v<5:=fun v hv=>by have:=s2.lt v hv; omega
  exact z19 (msk f) (x6i l1) (msk (y61 P f)) (x6i l2) (fun k hk hb=>by
   rw[tb (x6i l1) hk,x42 l1]at hb
   rw[tb (x6i l2) hk,x42 l2]
   exact(x8s hc h60 h5).mpr (.inl hb)) (fun q=>hn (by
   have:k∈bl (msk (y61 P f)):=(x42 l2 k).mpr ((x8s hc h60 h5).mpr (.inr ⟨one,ho,hk⟩))
   rw[<- q,x42 l1]at this
   exact this))
theorem z07 {f:List Nat} (s:Srch P h f) (hne:f ≠ []):∀ r,z9p P (y23 P f r)\/r+1<=(bl (msk (y23 P f r))).length
 | 0=>.inr (by
  have l1:∀ v∈f,v<5:=fun v hv=>by have:=s.lt v hv; omega
  obtain⟨v,g,e⟩:=List.exists_cons_of_ne_nil hne
  have:v∈bl (msk f):=(x42 l1 v).mpr (by rw[e]; exact List.mem_cons_self)
  exact List.length_pos_of_mem this)
 | r+1=>by
  rcases z07 s hne r with q | q
  ·exact .inl (y9r hc h60 h5 q)
  ·rcases j33 hc h60 h5 (x6j hc h60 h5 s r)with q2 | q2
   ·exact .inl (y9r hc h60 h5 q2)
   ·exact .inr (by show r+1+1<=_; exact Nat.lt_of_le_of_lt q q2)
theorem z43 {f:List Nat} (s:Srch P h f):z9p P (y23 P f h):=by
 by_cases hne:f=[]
 ·have:∀ r,y23 P f r=[]:=fun r=>by
   induction r with
   | zero=>exact hne
   | succ r ih=>show y61 P (y23 P f r)=[]; rw[ih]; rfl
  rw[this]
  exact fun _ z=>nomatch z
 ·rcases z07 hc h60 h5 s hne h with q | q
  ·exact q
  ·have sh:=x6j hc h60 h5 s h
   have l1:∀ v∈y23 P f h,v<5:=fun v hv=>by have:=sh.lt v hv; omega
   have:=y9v (msk (y23 P f h)) (x6i l1) h h5 fun k hk hb=>by
    rw[tb (x6i l1) hk,x42 l1]at hb
    exact sh.lt k hb
   omega
theorem y7d {f:List Nat}:∀ r,∀ k∈f,k∈y23 P f r
 | 0,k,hk=>hk
 | r+1,k,hk=>(x8s hc h60 h5).mpr (.inl (y7d r k hk))
theorem y6i {f:List Nat} {S:Nat->Prop} (h0:∀ k∈f,S k) (hs:∀ one,S one->∀ k∈csP P one,S k):∀ r,∀ k∈y23 P f r,S k
 | 0,k,hk=>h0 k hk
 | r+1,k,hk=>((x8s hc h60 h5).mp hk).elim (y6i h0 hs r k) fun⟨o,h1,h2⟩=>hs o (y6i h0 hs r o h1) k h2
end
section
variable {n:Nat} {f:Nat->Nat->Nat} {P:List Hs} (hP:∀ H∈P,H.Ok n f P.length) (h3:P.length<=3)
include hP h3
theorem j0x (k v:Nat) (hv:v∈csP P k):v<P.length:=by
 unfold csP csH at hv
 obtain⟨w,hw,rfl⟩:=List.mem_map.mp hv
 obtain⟨w1,w2⟩:=List.mem_filter.mp hw
 by_cases hk:k<P.length
 ·rw[List.getD_eq_getElem?_getD,List.getElem?_eq_getElem hk]at w1
  have o:=((hP _ (List.getElem_mem hk)).ws w w1).2.2
  cases e:w.2.2 with
  | inl j=>rw[e]at o; exact o
  | inr r=>rw[e]at w2; cases w2
 ·rw[List.getD_eq_getElem?_getD,List.getElem?_eq_none (by omega)]at w1
  cases w1
theorem z6u (k:Nat):(csP P k).length<=60:=by
 unfold csP csH
 rw[List.length_map]
 refine Nat.le_trans (List.length_filter_le _ _) ?_
 by_cases hk:k<P.length
 ·rw[List.getD_eq_getElem?_getD,List.getElem?_eq_getElem hk]
  exact(hP _ (List.getElem_mem hk)).w60
 ·rw[List.getD_eq_getElem?_getD,List.getElem?_eq_none (by omega)]
  exact Nat.zero_le _
theorem z1d {k v:Nat}:v∈csP P k ↔ (k,v)∈clP P:=by
 constructor
 ·intro hv
  unfold csP csH at hv
  obtain⟨w,hw,rfl⟩:=List.mem_map.mp hv
  by_cases hk:k<P.length
  ·rw[List.getD_eq_getElem?_getD,List.getElem?_eq_getElem hk]at hw
   exact(y2o P.zipIdx [] _).mpr (.inr ⟨(P[k],k),by rw[List.mem_zipIdx_iff_getElem?]; exact List.getElem?_eq_getElem hk,List.mem_map.mpr ⟨w,hw,rfl⟩⟩)
  ·rw[List.getD_eq_getElem?_getD,List.getElem?_eq_none (by omega)]at hw
   cases hw
 ·intro hc
  rcases(y2o P.zipIdx [] _).mp hc with q | ⟨x,hx,q⟩
  ·cases q
  ·obtain⟨w,hw,e⟩:=List.mem_map.mp q
   obtain⟨e1,e2⟩:=Prod.mk.inj e
   have hx':=List.mem_zipIdx' hx
   unfold csP csH
   subst e1
   subst e2
   refine List.mem_map.mpr ⟨w,?_,rfl⟩
   rw[List.getD_eq_getElem?_getD,List.getElem?_eq_getElem hx'.1]
   show w∈(P[x.2]).W.filter _
   rw[<- hx'.2]
   exact hw
theorem z9c {k M:Nat} (hM:M<32) (h0:∀ v∈bl ((gf (clP P) [k]).foldl bor 0),v∈bl M) (cM:Clo (clP P) M) (hmin:∀ N,Clo (clP P) N->(∀ v∈bl ((gf (clP P) [k]).foldl bor 0),v∈bl N)->∀ v∈bl M,v∈bl N):bl (msk (y23 P (csP P k) P.length))=bl M/\Srch P P.length (csP P k):=by
 have h5:P.length<5:=by omega
 have hc:=j0x hP h3
 have h60:=z6u hP h3
 have c5:∀ v∈csP P k,v<5:=fun v hv=>by have:=hc k v hv; omega
 have s:Srch P P.length (csP P k):=⟨hc k,Nat.le_trans (h60 k) (by omega)⟩
 have l5:∀ c∈clP P,c.2<5:=fun c hc'=>by have:=(j19 hP rfl h3 hc').2; omega
 have g0:∀ v,v∈bl ((gf (clP P) [k]).foldl bor 0) ↔ v∈csP P k:=fun v=>by
  rw[y20 (by decide) (z5w l5 [k]) v,z0a l5 [k] v,z1d hP h3]
  have:bl 0=[]:=by decide +kernel
  rw[this]
  constructor
  ·rintro (q | ⟨c,q1,q2,rfl⟩)
   ·cases q
   ·rw[List.mem_singleton]at q2
    rw[<- q2]; exact q1
  ·intro q
   exact .inr ⟨(k,v),q,List.mem_singleton.mpr rfl,rfl⟩
 have sh:=x6j hc h60 h5 s P.length
 have l1:∀ v∈y23 P (csP P k) P.length,v<5:=fun v hv=>by have:=sh.lt v hv; omega
 have cl:=z43 hc h60 h5 s
 refine⟨j1e fun v=>⟨fun hv=>?_,fun hv=>?_⟩,s⟩
 ·rw[x42 l1]at hv
  exact y6i hc h60 h5 (S:=fun v=>v∈bl M) (fun v q=>h0 v ((g0 v).mpr q)) (fun one q v hv=>cM (one,v) ((z1d hP h3).mp hv) q) P.length v hv
 ·refine hmin (msk (y23 P (csP P k) P.length)) (fun c hc' q=>?_) (fun v q=>?_) v hv
  ·rw[x42 l1]at q ⊢
   exact cl c.1 q c.2 ((z1d hP h3).mpr hc')
  ·rw[x42 l1]
   exact y7d hc h60 h5 P.length v ((g0 v).mp q)
end
theorem z8b {g h:x1l} {ρ ρ1:Rho} (e:g ρ=some (false,ρ1)):y0b g h ρ=some (false,ρ1):=by unfold y0b; rw[e]; rfl
theorem z7l {g h:x1l} {ρ ρ1:Rho} (e:g ρ=some (true,ρ1)):y0b g h ρ=h ρ1:=by unfold y0b; rw[e]; rfl
theorem z7p {fa:Den} {i:Nat} {ρ:Rho} {v q q':Nat} {g:List Nat} (ha:fa ρ=some (.int (Int.ofNat v),q,ρ)) (hi:ρ[i]? = some (some (.lst (x0j g),q'))):x4x fa i ρ=some (.bl (decide (v ∉ g)),9,ρ):=by
 have e:y72 (.int (Int.ofNat v)) (.lst (x0j g))=some (.bl (decide (v ∉ g))):=by
  unfold y72
  rw[if_pos ⟨(Sh.int (k:=0) _).ok,(z3k g).ok⟩,y7f]
  show some (D.bl (!decide (v∈g)))=_
  congr 2
  by_cases h:v∈g <;> simp[h]
 unfold x4x
 rw[ha]
 simp only[hi,e]
theorem z5d (P:List Hs) (f:List Nat):∀ r,y23 P (y61 P f) r=y61 P (y23 P f r)
 | 0=>rfl
 | r+1=>by show y61 P (y23 P (y61 P f) r)=_; rw[z5d P f r]; rfl
theorem y3q (P:List Hs):∀ (l:List Hs) (f:List Nat),l.foldl (fun a _=>y61 P a) f=y23 P f l.length
 | [],f=>rfl
 | x::l,f=>by rw[List.foldl_cons,y3q P l (y61 P f),z5d]; rfl
noncomputable abbrev L5 (n:Nat) (P:List Hs) (k:Nat) (f:List Nat) (a b:Option (D × Nat)):Rho:=[some (x10 n P,9),some (.int (Int.ofNat k),9),some (.lst (x0j f),1),a,b]
section
variable {n:Nat} {f:Nat->Nat->Nat} {P:List Hs} (hP:∀ H∈P,H.Ok n f P.length) (h3:P.length<=3)
theorem z8z {k:Nat} (hk:k<P.length):atD (x10 n P) (Int.ofNat k)=some (x18 n P[k]):=by
 show L2.atI (P.map (x18 n)) (Int.ofNat k)=_
 refine y19 ?_
 rw[List.getElem?_map,List.getElem?_eq_getElem hk]
 rfl
theorem y6t {ρ:Rho} {a:Nat × Nat × Led} (h:ρ[5]? = some (some (x3b n a,9))):x1z 5 (eC (.int 2)) ρ=some (x9s n a.2.2,9,ρ):=y0z (x:=x3b n a) (q:=9) (q':=9) rfl h rfl y2w
theorem z1i {ρ:Rho} {a:Nat × Nat × Led} (h:ρ[5]? = some (some (x3b n a,9))):x6t (y3p .int (x1z 5 (eC (.int 2)))) ρ=some (x5c a.2.2,ρ):=by
 have e:=y6t h
 refine x7j (q:=9) ?_
 unfold y3p
 rw[e]
 cases a.2.2 <;> rfl
theorem z1u {ρ:Rho} {k i:Nat} (hk:k<P.length) (h60:(P[k]).W.length<=60) (h0:ρ[0]? = some (some (x10 n P,9))) (hi:ρ[i]? = some (some (.int (Int.ofNat k),9))):x4v (eIx (x1z 0 (x06 i)) (eC (.int 1))) ρ=some ((P[k]).W.map (x3b n),ρ):=by
 have e0:=y0z (i:=0) (b:=x06 i) (z6d hi rfl) h0 (z8z (n:=n) hk) y8s
 have e:eIx (x1z 0 (x06 i)) (eC (.int 1)) ρ=some (.tup ((P[k]).W.map (x3b n)),9,ρ):=j2f e0 (b:=eC (.int 1)) (k:=1) (q':=9) rfl rfl rfl rfl
 unfold x4v
 rw[e]
 simp only[List.length_map]
 rw[if_pos (by omega)]
theorem z9v (W:List (Nat × Nat × Led)) (b:Nat->Bool):(W.filter fun a=>x5c a.2.2 && b (gl a.2.2)).map (fun a=>D.int (Int.ofNat (gl a.2.2)))=x0j (((W.filter fun a=>x5c a.2.2).map fun a=>gl a.2.2).filter b):=by
 unfold x0j
 rw[List.filter_map,List.map_map,List.filter_filter]
 congr 1
 apply List.filter_congr
 intro a _
 exact Bool.and_comm _ _
include hP h3
theorem j56 {k one:Nat} {g:List Nat} (hone:one<P.length) (a:Option (D × Nat)) (hlen:g.length<=900):x75 (L5 n P k g a (some (.int (Int.ofNat one),9)))=some (.nx (L5 n P k (y57 P g one) a (some (.int (Int.ofNat one),9)))):=by
 have o:=hP P[one] (List.getElem_mem hone)
 have hi:=z1u (n:=n) (P:=P) (ρ:=L5 n P k g a (some (.int (Int.ofNat one),9))) (i:=4) hone o.w60 rfl rfl
 have hcm:=x2f (k:=1) (tt:=y0b (x6t (y3p .int (x1z 5 (eC (.int 2))))) (x2n (x4x (x1z 5 (eC (.int 2))) 2))) (te:=x1z 5 (eC (.int 2))) (deep:=false) (pt:=x0m 5) hi (x52 (x3b n) (fun w=>[some (x3b n w,9)]) (fun w=>x5c w.2.2 && decide (gl w.2.2 ∉ g)) (fun w=>D.int (Int.ofNat (gl w.2.2))) (fun _=>9) (P[one]).W (fun w hw=>⟨rfl,by
   have c1:=z1i (n:=n) (a:=w) (ρ:=L5 n P k g a (some (.int (Int.ofNat one),9))++[some (x3b n w,9)]) rfl
   have c2:=y6t (n:=n) (a:=w) (ρ:=L5 n P k g a (some (.int (Int.ofNat one),9))++[some (x3b n w,9)]) rfl
   cases hc:x5c w.2.2 with
   | false=>rw[hc]at c1; exact z8b c1
   | true=>
    rw[hc]at c1
    have e:x9s n w.2.2=.int (Int.ofNat (gl w.2.2)):=by
     cases e:w.2.2 with
     | inl j=>rfl
     | inr r=>rw[e]at hc; cases hc
    rw[e]at c2
    exact(z7l c1).trans (x3g (z7p c2 rfl)),fun hb=>by
   have c2:=y6t (n:=n) (a:=w) (ρ:=L5 n P k g a (some (.int (Int.ofNat one),9))++[some (x3b n w,9)]) rfl
   have hc:x5c w.2.2=true:=(Bool.and_eq_true_iff.mp hb).1
   have e:x9s n w.2.2=.int (Int.ofNat (gl w.2.2)):=by
    cases e:w.2.2 with
    | inl j=>rfl
    | inr r=>rw[e]at hc; cases hc
   rw[e]at c2
   exact c2⟩))
 rw[z9v (P[one]).W (fun v=>decide (v ∉ g))]at hcm
 have ec:csP P one=((P[one]).W.filter fun a=>x5c a.2.2).map fun a=>gl a.2.2:=by
  unfold csP csH
  rw[List.getD_eq_getElem?_getD,List.getElem?_eq_getElem hone]
  rfl
 rw[<- ec]at hcm
 have l6:=z6u hP h3 one
 have l7:=List.length_filter_le (fun v=>decide (v ∉ g)) (csP P one)
 exact y9m (ds:=x0j g) rfl hcm rfl (by rw[x1e,x1e]; omega) (by rw[y0d]; rfl)
theorem y1k {k:Nat} (hk:k<P.length) (s:Srch P P.length (csP P k)):x1m [x10 n P,.int (Int.ofNat k)]=some (.lst (x0j (bl (msk (y23 P (csP P k) P.length)))),1):=by
 have h5:P.length<5:=by omega
 have hc:=j0x hP h3
 have h60:=z6u hP h3
 have big:∀ {g:List Nat},Srch P P.length g->g.length<=360:=fun {g} sg=>by
  have l1:∀ v∈g,v<5:=fun v hv=>by have:=sg.lt v hv; omega
  have:=y4n (msk g) (x6i l1)
  have:=sg.len
  omega
 unfold x1m x8e
 refine x28 ?_
 show x1i _ _ [some (x10 n P,9),some (.int (Int.ofNat k),9),none,none,none]=_
 have o:=hP P[k] (List.getElem_mem hk)
 have hi:=z1u (n:=n) (P:=P) (ρ:=[some (x10 n P,9),some (.int (Int.ofNat k),9),none,none,none]) (i:=1) hk o.w60 rfl rfl
 have hcm:=x2f (k:=1) (tt:=x6t (y3p .int (x1z 5 (eC (.int 2))))) (te:=x1z 5 (eC (.int 2))) (deep:=false) (pt:=x0m 5) hi (x52 (x3b n) (fun w=>[some (x3b n w,9)]) (fun w=>x5c w.2.2) (fun w=>D.int (Int.ofNat (gl w.2.2))) (fun _=>9) (P[k]).W (fun w hw=>⟨rfl,z1i (n:=n) (a:=w) rfl,fun hc=>by
   have c2:=y6t (n:=n) (a:=w) (ρ:=[some (x10 n P,9),some (.int (Int.ofNat k),9),none,none,none]++[some (x3b n w,9)]) rfl
   have e:x9s n w.2.2=.int (Int.ofNat (gl w.2.2)):=by
    cases e:w.2.2 with
    | inl j=>rfl
    | inr r=>rw[e]at hc; cases hc
   rw[e]at c2
   exact c2⟩))
 have ec:((P[k]).W.filter fun a=>x5c a.2.2).map (fun a=>D.int (Int.ofNat (gl a.2.2)))=x0j (csP P k):=by
  unfold csP csH x0j
  rw[List.getD_eq_getElem?_getD,List.getElem?_eq_getElem hk,List.map_map]
  rfl
 rw[ec]at hcm
 refine(x0e (ρ1:=L5 n P k (csP P k) none none) (x27 hcm rfl)).trans ?_
 have hi2:x4v (x06 0) (L5 n P k (csP P k) none none)=some (P.map (x18 n),L5 n P k (csP P k) none none):=by
  have:P.length<=1000:=by omega
  simp[x10,this]
 obtain⟨j,e,s2⟩:=y08 (J:=Option (D × Nat) × Option (D × Nat)) (σ:=List Nat) (pt:=x0m 3) (body:=y1s) (x18 n) (fun g j=>L5 n P k g j.1 j.2) (fun g _=>y61 P g) (Srch P P.length) P (csP P k) (none,none) s (fun H hH g j sg=>by
  have bg:=big sg
  refine⟨x8f hc h60 h5 g sg,L5 n P k g (some (x18 n H,9)) j.2,?_⟩
  have hi3:x4v (y0i 2) (L5 n P k g (some (x18 n H,9)) j.2)=some (x0j g,L5 n P k g (some (x18 n H,9)) j.2):=by
   have e:y0i 2 (L5 n P k g (some (x18 n H,9)) j.2)=some (.lst (x0j g),1,L5 n P k g (some (x18 n H,9)) j.2):=rfl
   unfold x4v
   rw[e]
   exact if_pos (show(x0j g).length<=1000 by rw[x1e]; omega)
  obtain⟨j',e,_⟩:=y08 (J:=Option (D × Nat)) (σ:=List Nat) (pt:=x0m 4) (body:=x75) (fun v:Nat=>D.int (Int.ofNat v)) (fun g' j'=>L5 n P k g' (some (x18 n H,9)) j') (y57 P) (Srch P P.length) g g j.2 sg (fun one ho g' j' sg'=>by
   have:=big sg'
   exact⟨y6q hc h60 h5 sg',L5 n P k g' (some (x18 n H,9)) (some (.int (Int.ofNat one),9)),some (.int (Int.ofNat one),9),rfl,j56 hP h3 (sg.lt one ho) _ (by omega)⟩)
  exact⟨(some (x18 n H,9),j'),rfl,(x3h hi3).trans e⟩)
 refine(x0e ((x3h hi2).trans e)).trans ?_
 rw[y3q]
 have sh:=x6j hc h60 h5 s P.length
 exact x1t (x8t (q:=0) (x2z (i:=2) (q:=1) rfl) (by decide) fun v hv=>by have:=sh.lt v hv; omega)
end
theorem j10:x5o [.exc "NoHouse"]=some (.str "no house",9):=by rfl
theorem j3x {g:x1l} {x y:x4o} {ρ ρ1:Rho} (h:g ρ=some (true,ρ1)):z25 g x y ρ=x ρ1:=by unfold z25; rw[h]; rfl
theorem z69 {g:x1l} {x y:x4o} {ρ ρ1:Rho} (h:g ρ=some (false,ρ1)):z25 g x y ρ=y ρ1:=by unfold z25; rw[h]; rfl
theorem j1t {g:x1l} {fa fb:Den} {ρ ρ1:Rho} (h:g ρ=some (true,ρ1)):eIf g fa fb ρ=fa ρ1:=by unfold eIf; rw[h]; rfl
theorem j1j {g:x1l} {fa fb:Den} {ρ ρ1:Rho} (h:g ρ=some (false,ρ1)):eIf g fa fb ρ=fb ρ1:=by unfold eIf; rw[h]; rfl
noncomputable def Rk (P:List Hs) (k:Nat):List Nat:=bl (msk (y23 P (csP P k) P.length))
section
variable {n:Nat} {f:Nat->Nat->Nat} {P:List Hs} (hP:∀ H∈P,H.Ok n f P.length) (h3:P.length<=3)
theorem z7t {i:Int} (h:x0o P.length (.int i)=false):x0z [x10 n P,.int i]=some ("NoHouse":Str):=by
 have e:=x24 P.length (.int i)
 rw[h]at e
 have l0:x15 0 [some (x10 n P,9),some (.int i,9)]=some (.int (Int.ofNat P.length),9,[some (x10 n P,9),some (.int i,9)]):=x5n rfl (by show some (P.map (x18 n)).length=_; rw[List.length_map])
 have t:=y0q (x7j (x0h (F:=x0g) (n:=2) (x0k (f:=x06 1) (q:=9) (ρ:=[some (x10 n P,9),some (.int i,9)]) rfl (x0q l0)) rfl e))
 exact(j3x t).trans rfl
theorem z7v {k:Nat} (h:k<P.length):x0z [x10 n P,.int (Int.ofNat k)]=none:=by
 have e:=x24 P.length (.int (Int.ofNat k))
 rw[y01 h]at e
 have l0:x15 0 [some (x10 n P,9),some (.int (Int.ofNat k),9)]=some (.int (Int.ofNat P.length),9,[some (x10 n P,9),some (.int (Int.ofNat k),9)]):=x5n rfl (by show some (P.map (x18 n)).length=_; rw[List.length_map])
 have t:=y0q (x7j (x0h (F:=x0g) (n:=2) (x0k (f:=x06 1) (q:=9) (ρ:=[some (x10 n P,9),some (.int (Int.ofNat k),9)]) rfl (x0q l0)) rfl e))
 exact(z69 t).trans rfl
theorem j16 {h k:Nat} (hk:k<h):x2p [.int (Int.ofNat h),.int (Int.ofNat k)]=none:=by
 have e:=x24 h (.int (Int.ofNat k))
 rw[y01 hk]at e
 have t:=y0q (x7j (x0h (F:=x0g) (n:=2) (g:=x01 (x06 1) (x01 (x06 0) x0d)) (ρ:=[some (.int (Int.ofNat h),9),some (.int (Int.ofNat k),9)]) (ds:=[.int (Int.ofNat k),.int (Int.ofNat h)]) rfl rfl e))
 exact(z69 t).trans rfl
theorem z5z {i:Int} (h:x0o P.length (.int i)=false):x0y [x10 n P,.int i]=some ("NoHouse":Str):=by
 have e:y14 x0z 2 (x01 (x06 0) (x01 (x06 1) (x0d))) [some (x10 n P,9),some (.int i,9),none]=some ("NoHouse":Str):=z7t h
 unfold x0y fnX x7a xOr
 show(match y14 x0z 2 _ [some (x10 n P,9),some (.int i,9),none]with | some nm=>some nm | none=>_)=_
 rw[e]
theorem j0e {i:Int} (h:x0o P.length (.int i)=false):x0u [x10 n P,.int i]=some ("NoHouse":Str):=z5z h
include hP h3
theorem y9h {k:Nat} (hk:k<P.length):x0y [x10 n P,.int (Int.ofNat k)]=none:=by
 have e:y14 x0z 2 (x01 (x06 0) (x01 (x06 1) (x0d))) [some (x10 n P,9),some (.int (Int.ofNat k),9),none]=none:=z7v hk
 have s1:=y3j (x0h (F:=x1b) (n:=2) (g:=x01 (x06 0) (x01 (x06 1) x0d)) (ρ:=[some (x10 n P,9),some (.int (Int.ofNat k),9),none]) (ds:=[x10 n P,.int (Int.ofNat k)]) rfl rfl (x5x (n:=n) (P:=P) rfl hk))
 have s2:x2r 2 (x0f x1k 1 (x01 (x06 0) (x0d))) [some (x10 n P,9),some (.int (Int.ofNat k),9),none]=some (.nx [some (x10 n P,9),some (.int (Int.ofNat k),9),some (clC P.length (clP P),9)]):=x27 (x0h (ds:=[x10 n P]) rfl rfl (x58 hP rfl h3)) rfl
 unfold x0y fnX x7a xOr
 show(match y14 x0z 2 _ [some (x10 n P,9),some (.int (Int.ofNat k),9),none]with | some nm=>some nm | none=>z6i _ _ [some (x10 n P,9),some (.int (Int.ofNat k),9),none])=_
 rw[e]
 show z6i _ _ _=_
 unfold z6i
 rw[s1]
 show(match x2r 2 _ [some (x10 n P,9),some (.int (Int.ofNat k),9),none]with | some (.nx ρ1)=>_ | _=>_)=_
 rw[s2]
 exact j16 hk
theorem z5p {k:Nat} (hk:k<P.length):x0u [x10 n P,.int (Int.ofNat k)]=none:=y9h hP h3 hk
theorem j5l {k:Nat} (hk:k<P.length):x2s [x10 n P,.int (Int.ofNat k)]=some (.lst (x0j (Rk P k)),0)/\x1m [x10 n P,.int (Int.ofNat k)]=some (.lst (x0j (Rk P k)),1):=by
 have hn:(clP P).length<=500:=by
  have:=z0g P.zipIdx [] fun x hx=>by
   have hx':=List.mem_zipIdx' hx
   exact(hP x.1 (hx'.2 ▸ List.getElem_mem _)).w60
  rw[List.length_zipIdx]at this
  unfold clP
  simp only[List.length_nil]at this
  omega
 have h5:∀ c∈clP P,c.2<5:=fun c hc=>by have:=(j19 hP rfl h3 hc).2; omega
 have hm0:(gf (clP P) [k]).foldl bor 0<32:=z4p (by decide) (z5w h5 [k])
 obtain⟨M,hM,h0,cM,hmin,e⟩:=z4y h5 (h:=P.length) hn hm0
 obtain⟨eq,s⟩:=z9c hP h3 hM h0 cM hmin
 refine⟨?_,y1k hP h3 hk s⟩
 unfold Rk
 rw[eq]
 unfold x2s y1b
 refine x28 ?_
 show x1i _ _ [some (x10 n P,9),some (.int (Int.ofNat k),9),none]=_
 refine(x0e (ρ1:=[some (x10 n P,9),some (.int (Int.ofNat k),9),none]) (y3j (x0h (ds:=[x10 n P,.int (Int.ofNat k)]) rfl rfl (x5x rfl hk)))).trans ?_
 refine(x0e (ρ1:=[some (x10 n P,9),some (.int (Int.ofNat k),9),some (clC P.length (clP P),9)]) (x27 (x0h (ds:=[x10 n P]) rfl rfl (x58 hP rfl h3)) rfl)).trans ?_
 exact x1t (x0h (x0k (f:=x06 2) (q:=9) rfl (x0q (x0h (ds:=[clC P.length (clP P),.int (Int.ofNat k)]) rfl rfl (y6d hn h5 hk)))) rfl e)
theorem j71 {k:Nat} (hk:k<P.length):x2m [x10 n P,.int (Int.ofNat k)]=some (.bl (decide (k∈Rk P k)),9):=by
 unfold x2m x6z
 exact x28 (x1t (x3m (fa:=x06 1) (q:=9) rfl (x0h (ds:=[x10 n P,.int (Int.ofNat k)]) rfl rfl (j5l hP h3 hk).1) (y0s k (Rk P k))))
omit hP h3
noncomputable abbrev T6 (n:Nat) (P:List Hs) (w i:Int) (a b c:Option (D × Nat)):Rho:=[some (.int w,9),some (x10 n P,9),some (.int i,9),a,b,c]
theorem j3q {w i:Int} (h:x0o P.length (.int i)=false):x17 [.int w,x10 n P,.int i]=some (.str "no house",9):=by
 unfold x17 x5y
 refine x28 ?_
 show x1i _ _ (T6 n P w i none none none)=_
 refine(x0e (ρ1:=T6 n P w i (some (.non,9)) none none) rfl).trans ?_
 refine(x0e (ρ1:=T6 n P w i (some (.non,9)) (some (.non,9)) none) rfl).trans ?_
 have y:yIf (x2n (e2 dEq (x06 0) (eC (.int 0)))) (x6v x0y 2 (x01 (x06 1) (x01 (x06 2) (x0d)))) (x6v x0u 2 (x01 (x06 1) (x01 (x06 2) (x0d)))) (T6 n P w i (some (.non,9)) (some (.non,9)) none)=some (("NoHouse":Str),T6 n P w i (some (.non,9)) (some (.non,9)) none):=by
  have t:=x3g (x3m (fa:=x06 0) (fb:=eC (.int 0)) (q:=9) (q':=9) (ρ:=T6 n P w i (some (.non,9)) (some (.non,9)) none) rfl rfl (x7f w 0))
  unfold yIf
  rw[t]
  have e1:x6v x0y 2 (x01 (x06 1) (x01 (x06 2) (x0d))) (T6 n P w i (some (.non,9)) (some (.non,9)) none)=some (("NoHouse":Str),T6 n P w i (some (.non,9)) (some (.non,9)) none):=by
   show(x0y [x10 n P,.int i]).map _=_
   rw[z5z h]; rfl
  have e2:x6v x0u 2 (x01 (x06 1) (x01 (x06 2) (x0d))) (T6 n P w i (some (.non,9)) (some (.non,9)) none)=some (("NoHouse":Str),T6 n P w i (some (.non,9)) (some (.non,9)) none):=by
   show(x0u [x10 n P,.int i]).map _=_
   rw[j0e h]; rfl
  cases decide (w=0)
  ·exact e2
  ·exact e1
 refine(x0e (ρ1:=T6 n P w i (some (.exc "NoHouse",9)) (some (.non,9)) none) (by
  unfold y8d
  rw[y]
  rfl)).trans ?_
 refine(x0e (ρ1:=T6 n P w i (some (.exc "NoHouse",9)) (some (.non,9)) none) rfl).trans ?_
 exact x1t (x0h (ds:=[.exc "NoHouse"]) rfl rfl j10)
theorem z62 {w i:Int} {d:D} {q:Nat} (hx1:x0y [x10 n P,.int i]=none) (hx2:x0u [x10 n P,.int i]=none) (hv:eIf (x2n (e2 dEq (x06 0) (eC (.int 0)))) (x0f x2s 2 (x01 (x06 1) (x01 (x06 2) (x0d)))) (x0f x2m 2 (x01 (x06 1) (x01 (x06 2) (x0d)))) (T6 n P w i (some (.non,9)) (some (.non,9)) none)=some (d,q,T6 n P w i (some (.non,9)) (some (.non,9)) none)) {q2:Nat} {ρ2:Rho} (hr:x06 4 (T6 n P w i (some (.non,9)) (some (d,q)) none)=some (d,q2,ρ2)):x17 [.int w,x10 n P,.int i]=some (d,q2):=by
 unfold x17 x5y
 refine x28 ?_
 show x1i _ _ (T6 n P w i none none none)=_
 refine(x0e (ρ1:=T6 n P w i (some (.non,9)) none none) rfl).trans ?_
 refine(x0e (ρ1:=T6 n P w i (some (.non,9)) (some (.non,9)) none) rfl).trans ?_
 have y:yIf (x2n (e2 dEq (x06 0) (eC (.int 0)))) (x6v x0y 2 (x01 (x06 1) (x01 (x06 2) (x0d)))) (x6v x0u 2 (x01 (x06 1) (x01 (x06 2) (x0d)))) (T6 n P w i (some (.non,9)) (some (.non,9)) none)=none:=by
  have t:=x3g (x3m (fa:=x06 0) (fb:=eC (.int 0)) (q:=9) (q':=9) (ρ:=T6 n P w i (some (.non,9)) (some (.non,9)) none) rfl rfl (x7f w 0))
  unfold yIf
  rw[t]
  have e1:x6v x0y 2 (x01 (x06 1) (x01 (x06 2) (x0d))) (T6 n P w i (some (.non,9)) (some (.non,9)) none)=none:=by
   show(x0y [x10 n P,.int i]).map _=_
   rw[hx1]; rfl
  have e2:x6v x0u 2 (x01 (x06 1) (x01 (x06 2) (x0d))) (T6 n P w i (some (.non,9)) (some (.non,9)) none)=none:=by
   show(x0u [x10 n P,.int i]).map _=_
   rw[hx2]; rfl
  cases decide (w=0)
  ·exact e2
  ·exact e1
 refine(x0e (ρ1:=T6 n P w i (some (.non,9)) (some (d,q)) none) (by
  unfold y8d
  rw[y]
  exact x27 hv rfl)).trans ?_
 exact x7c ((z3f (ρ1:=T6 n P w i (some (.non,9)) (some (d,q)) none) rfl).trans (x1t hr))
include hP h3
theorem tr0 {k:Nat} (hk:k<P.length):x17 [.int 0,x10 n P,.int (Int.ofNat k)]=some (.lst (x0j (Rk P k)),0):=
 z62 (y9h hP h3 hk) (z5p hP h3 hk) (by
  have t:=x3g (x3m (fa:=x06 0) (fb:=eC (.int 0)) (q:=9) (q':=9) (ρ:=T6 n P 0 (Int.ofNat k) (some (.non,9)) (some (.non,9)) none) rfl rfl (x7f 0 0))
  exact(j1t t).trans (x0h (ds:=[x10 n P,.int (Int.ofNat k)]) rfl rfl (j5l hP h3 hk).1)) (x2z (i:=4) (q:=0) rfl)
theorem tr1 {k:Nat} (hk:k<P.length):x17 [.int 1,x10 n P,.int (Int.ofNat k)]=some (.bl (decide (k∈Rk P k)),9):=
 z62 (y9h hP h3 hk) (z5p hP h3 hk) (by
  have t:=x3g (x3m (fa:=x06 0) (fb:=eC (.int 0)) (q:=9) (q':=9) (ρ:=T6 n P 1 (Int.ofNat k) (some (.non,9)) (some (.non,9)) none) rfl rfl (x7f 1 0))
  exact(j1j t).trans (x0h (ds:=[x10 n P,.int (Int.ofNat k)]) rfl rfl (j71 hP h3 hk))) rfl
end
noncomputable abbrev O6 (ns:List Int) (n:Nat) (f:Nat->Nat->Nat) (P:List Hs) (m a b:Option (D × Nat)):Rho:=[some (scr ns,0),some (x0x n f,9),some (x10 n P,9),m,a,b]
theorem neS:dNe (.lst [.str "no house",.str "no house"]) (.lst [.str "no house",.str "no house"])=some (.bl false):=by
 have hh:lay (.lst [.str "no house",.str "no house"])=true:=by decide +kernel
 have sh:Sh 1 (.lst [.str "no house",.str "no house"]):=⟨hh,by decide +kernel⟩
 unfold dNe
 rw[if_pos ⟨sh.ok,sh.ok⟩]
 simp[eqD,toP,x8l,PyData.eqv,PyData.eqvAll]
theorem neR (R:List Nat) (b:Bool):dNe (.lst [.lst (x0j R),.bl b]) (.lst [.lst (x0j R),.bl b])=some (.bl false):=by
 have sh:Sh 2 (.lst [.lst (x0j R),.bl b]):=.lst fun d hd=>by
  simp only[List.mem_cons,List.not_mem_nil,or_false]at hd
  rcases hd with rfl | rfl
  ·exact z3k R
  ·exact Sh.bl b
 unfold dNe
 rw[if_pos ⟨sh.ok,sh.ok⟩]
 have e1:PyData.eqv (toP (.lst (x0j R))) (toP (.lst (x0j R)))=true:=by
  have:=z7c R R
  rw[decide_eq_true rfl]at this
  exact this
 have e2:PyData.eqv (toP (.bl b)) (toP (.bl b))=true:=by
  have:=z65 b b
  rw[decide_eq_true rfl]at this
  exact this
 show some (D.bl (!(PyData.eqv (toP (.lst (x0j R))) (toP (.lst (x0j R))) && (PyData.eqv (toP (.bl b)) (toP (.bl b)) && true))))=_
 rw[e1,e2]
 rfl
section
variable {n:Nat} {f:Nat->Nat->Nat} {P:List Hs} (hP:∀ H∈P,H.Ok n f P.length) (h3:P.length<=3)
theorem z6e (ns:List Int) (m:Option (D × Nat)) (i:Int) (b:Option (D × Nat)) {x y:D} {qx qy:Nat} (h0:x17 [.int 0,x10 n P,.int i]=some (x,qx)) (h1:x17 [.int 1,x10 n P,.int i]=some (y,qy)):x2l 1 (x1f (x01 (eC (.int 2)) (x0d))) (x0m 6) (x38) (x0f x17 3 (x01 (x06 6) (x01 (x06 2) (x01 (x06 4) (x0d))))) false (O6 ns n f P m (some (.int i,9)) b)=some (.lst [x,y],1,O6 ns n f P m (some (.int i,9)) b):=by
 have hcm:=x2f (k:=1) (tt:=x38) (te:=x0f x17 3 (x01 (x06 6) (x01 (x06 2) (x01 (x06 4) (x0d))))) (deep:=false) (pt:=x0m 6) (y2q (m:=2) (by decide) (fe:=eC (.int 2)) (ρ:=O6 ns n f P m (some (.int i,9)) b) (ρ':=O6 ns n f P m (some (.int i,9)) b) (q:=9) rfl) (z4i (i:=6) rfl (fun _=>true) (fun w=>if w=0 then x else y) (fun w=>if w=0 then qx else qy) (fun j hj=>rfl) (fun w hw _=>by
  have:w=0\/w=1:=by omega
  rcases this with rfl | rfl
  ·exact x0h (ds:=[.int 0,x10 n P,.int i]) rfl rfl h0
  ·exact x0h (ds:=[.int 1,x10 n P,.int i]) rfl rfl h1))
 exact hcm
include hP h3
theorem j60 (ns:List Int) (m:Option (D × Nat)) (i:Int) (b:Option (D × Nat)):∃ b',x6k (O6 ns n f P m (some (.int i,9)) b)=some (.nx (O6 ns n f P m (some (.int i,9)) b')):=by
 unfold x6k
 have l2:x15 2 (O6 ns n f P m (some (.int i,9)) (some (.lst [.str "no house",.str "no house"],1)))=some (.int (Int.ofNat P.length),9,O6 ns n f P m (some (.int i,9)) (some (.lst [.str "no house",.str "no house"],1))):=x5n rfl (by show some (P.map (x18 n)).length=_; rw[List.length_map])
 have tc:x2n (eCh dLe dLt (eC (.int 0)) (x06 4) (x15 2)) (O6 ns n f P m (some (.int i,9)) (some (.lst [.str "no house",.str "no house"],1)))=some (x0o P.length (.int i),O6 ns n f P m (some (.int i,9)) (some (.lst [.str "no house",.str "no house"],1))):=by
  have l2':=l2
  by_cases h0:(0:Int)<=i
  ·simp[-Int.ofNat_eq_natCast,-x15,l2',h0,x0o]
   exact Iff.rfl
  ·simp[-Int.ofNat_eq_natCast,-x15,l2',h0,x0o]
 cases hi:x0o P.length (.int i)with
 | false=>
  rw[hi]at tc
  refine⟨some (.lst [.str "no house",.str "no house"],0),?_⟩
  refine(x0e (ρ1:=O6 ns n f P m (some (.int i,9)) (some (.lst [.str "no house",.str "no house"],1))) rfl).trans ?_
  refine(x0e ((y1e tc).trans rfl)).trans ?_
  have c:=z6e (n:=n) (f:=f) (P:=P) ns m i (some (.lst [.str "no house",.str "no house"],1)) (j3q (n:=n) (w:=0) hi) (j3q (n:=n) (w:=1) hi)
  exact(y1e (x3g (x3m c (x2z (i:=5) (q:=1) rfl) neS))).trans rfl
 | true=>
  rw[hi]at tc
  have hi':(decide ((0:Int)<=i) && decide (i<(P.length:Int)))=true:=hi
  rw[Bool.and_eq_true,decide_eq_true_eq,decide_eq_true_eq]at hi'
  obtain⟨k,rfl⟩:∃ k:Nat,i=Int.ofNat k:=⟨i.toNat,by show i=(i.toNat:Int); omega⟩
  have hk:k<P.length:=by have:(k:Int)<(P.length:Int):=hi'.2; omega
  have cl:=(j5l hP h3 hk).2
  refine⟨some (.lst [.lst (x0j (Rk P k)),.bl (decide (k∈Rk P k))],0),?_⟩
  refine(x0e (ρ1:=O6 ns n f P m (some (.int (Int.ofNat k),9)) (some (.lst [.str "no house",.str "no house"],1))) rfl).trans ?_
  have c1:=x0h (F:=x1m) (n:=2) (g:=x01 (x06 2) (x01 (x06 4) x0d)) (ρ:=O6 ns n f P m (some (.int (Int.ofNat k),9)) (some (.lst [.str "no house",.str "no house"],1))) (ds:=[x10 n P,.int (Int.ofNat k)]) rfl rfl cl
  have c2:=x3m (fa:=x06 4) (q:=9) (ρ:=O6 ns n f P m (some (.int (Int.ofNat k),9)) (some (.lst [.str "no house",.str "no house"],1))) rfl c1 (y0s k (Rk P k))
  refine(x0e (ρ1:=O6 ns n f P m (some (.int (Int.ofNat k),9)) (some (.lst [.lst (x0j (Rk P k)),.bl (decide (k∈Rk P k))],1))) ((z3f tc).trans (x27 (q:=1) (ρ1:=O6 ns n f P m (some (.int (Int.ofNat k),9)) (some (.lst [.str "no house",.str "no house"],1))) (by
   unfold x4n
   rw[x0k c1 (x0q c2)]
   exact if_pos (show 2<=1000 by decide)) rfl))).trans ?_
  have c:=z6e (n:=n) (f:=f) (P:=P) ns m (Int.ofNat k) (some (.lst [.lst (x0j (Rk P k)),.bl (decide (k∈Rk P k))],1)) (tr0 hP h3 hk) (tr1 hP h3 hk)
  exact(y1e (x3g (x3m c (x2z (i:=5) (q:=1) rfl) (neR _ _)))).trans rfl
end
theorem z7k (b:Bool):dNe (.bl b) (.bl b)=some (.bl false):=by
 unfold dNe
 rw[if_pos ⟨(Sh.bl (k:=0) b).ok,(Sh.bl (k:=0) b).ok⟩,z65]
 simp
theorem j25 (ns:List Int):x2x [scr ns]=some (.bl true,9):=by
 obtain⟨n,f,L,hL⟩:=j0r ns 0 (Int.le_refl 0)
 obtain⟨z,hz,bz⟩:=L.bot
 have hn:n<=1000:=Nat.le_trans L.hi (by decide)
 obtain⟨P,h1,h3,hP,eP⟩:=y8a L hz bz ns 20 (by decide)
 have g1:x1v [x0x n f,x10 n P]=some (.bl true,9):=by rw[x5f hn,z5b hP h1 h3]
 obtain⟨c,hc,ec⟩:=z4o ns (k:=500) (by decide) (m:=1000000) (by decide)
 obtain⟨H0,Pr,rfl⟩:∃ H0 Pr,P=H0::Pr:=by
  cases P with
  | nil=>cases h1
  | cons a r=>exact⟨a,r,rfl⟩
 have o0:=hP H0 List.mem_cons_self
 obtain⟨d,q,eb,nd⟩:=j5s (n:=n) (f:=f) (p:=H0.p) (ws:=H0.W.map (x3b n)) (rest:=Pr.map (x18 n)) L.hi (by rw[List.length_map]; exact o0.w60) (by rw[List.length_map]; have:Pr.length+1<=3:=h3; omega) (Int.ofNat c) (by show(0:Int)<=(c:Int); omega)
 have g2:x1v [x0x n f,d]=some (.bl false,9):=by rw[x5f hn,nd]
 obtain⟨v,hv,ev⟩:=x5z ns (c:=501) (by decide) (n:=2) (by decide)
 have g3:x1v [x0x n f,.tup (List.replicate (4+v) (.tup [.int 1,.tup []]))]=some (.bl (decide (4+v<=4)),9):=by rw[x5f hn,z1f (by omega)]
 generalize hPP:H0::Pr=P at *
 have eb':x3j [x0x n f,x10 n P,.int (Int.ofNat c)]=some (d,q):=by rw[<- hPP]; exact eb
 unfold x2x y0h
 refine x28 ?_
 show x1i _ _ [some (scr ns,0),none,none,none,none,none]=_
 refine(x0e (ρ1:=[some (scr ns,0),some (x0x n f,9),none,none,none,none]) (x27 (x0h (ds:=[scr ns,.int 0]) rfl rfl hL) rfl)).trans ?_
 refine(x0e (ρ1:=O6 ns n f P none none none) (x27 (x0h (ds:=[scr ns,.int 20,x0x n f]) rfl rfl eP) rfl)).trans ?_
 refine(x0e (ρ1:=O6 ns n f P none none none) ((y1e (x3g (x3m (x0h (ds:=[x0x n f,x10 n P]) rfl rfl g1) (fb:=eC (.bl true)) (q':=9) rfl rfl))).trans rfl)).trans ?_
 have e6:e2 j49 (eC (.int 10)) (eC (.int 6)) (O6 ns n f P none none none)=some (.int 1000000,9,O6 ns n f P none none none):=x3m (fa:=eC (.int 10)) (fb:=eC (.int 6)) (q:=9) (q':=9) rfl rfl (by rfl)
 have p5:=x0h (F:=x0a) (n:=3) (x0k (f:=x06 0) (q:=0) (ρ:=O6 ns n f P none none none) (ρ1:=O6 ns n f P none none none) (d:=scr ns) rfl (x0k (f:=eC (.int 500)) (q:=9) rfl (x0q e6))) rfl ec
 have bb:=x0h (F:=x3j) (n:=3) (x0k (f:=x06 1) (q:=9) (ρ:=O6 ns n f P none none none) (ρ1:=O6 ns n f P none none none) (d:=x0x n f) rfl (x0k (f:=x06 2) (q:=9) (d:=x10 n P) (ρ1:=O6 ns n f P none none none) rfl (x0q p5))) rfl eb'
 refine(x0e (ρ1:=O6 ns n f P none none none) ((y1e (x3g (x3m (x0h (x0k (f:=x06 1) (q:=9) (d:=x0x n f) rfl (x0q bb)) rfl g2) (fb:=eC (.bl false)) (q':=9) rfl rfl))).trans rfl)).trans ?_
 refine(x0e (ρ1:=O6 ns n f P (some (.int (Int.ofNat (4+v)),9)) none none) (x27 (d:=.int (Int.ofNat (4+v))) (q:=9) (ρ1:=O6 ns n f P none none none) (x3m (fa:=eC (.int 4)) (q:=9) rfl (x0h (ds:=[scr ns,.int 501,.int 2]) rfl rfl ev) rfl) rfl)).trans ?_
 have rp:y88 (x34 (x01 (x34 (x01 (eC (.int 1)) (x01 (x34 (x0d)) (x0d)))) (x0d))) (x06 3) (O6 ns n f P (some (.int (Int.ofNat (4+v)),9)) none none)=some (.tup (List.replicate (4+v) (.tup [.int 1,.tup []])),9,O6 ns n f P (some (.int (Int.ofNat (4+v)),9)) none none):=by
  have a1:x34 (x01 (x34 (x01 (eC (.int 1)) (x01 (x34 (x0d)) (x0d)))) (x0d)) (O6 ns n f P (some (.int (Int.ofNat (4+v)),9)) none none)=some (.tup [.tup [.int 1,.tup []]],9,O6 ns n f P (some (.int (Int.ofNat (4+v)),9)) none none):=rfl
  have a2:x06 3 (O6 ns n f P (some (.int (Int.ofNat (4+v)),9)) none none)=some (.int (Int.ofNat (4+v)),9,O6 ns n f P (some (.int (Int.ofNat (4+v)),9)) none none):=rfl
  unfold y88
  rw[a1]
  simp only[a2]
  rw[if_pos ⟨rfl,by show(1:Int)<=((4+v:Nat):Int); omega,by show 1*(4+v)<=1000; omega⟩]
  show some (D.tup (List.replicate (4+v) [D.tup [.int 1,.tup []]]).flatten,9,_)=_
  rw[List.flatten_replicate_singleton]
 refine(x0e (ρ1:=O6 ns n f P (some (.int (Int.ofNat (4+v)),9)) none none) ((y1e (x3g (x3m (x0h (x0k (f:=x06 1) (q:=9) (d:=x0x n f) rfl (x0q rp)) rfl g3) (x3m (fa:=x06 3) (fb:=eC (.int 5)) (q:=9) (q':=9) (d:=.bl (decide (4+v<=4))) rfl rfl (by
  show some (D.bl (decide (((4+v:Nat):Int)<5)))=_
  congr 2
  exact decide_eq_decide.mpr ⟨fun h=>by omega,fun h=>by omega⟩)) (z7k _)))).trans rfl)).trans ?_
 have ln:e2 x2g (x15 2) (eC (.int 1)) (O6 ns n f P (some (.int (Int.ofNat (4+v)),9)) none none)=some (.int (Int.ofNat (P.length+1)),9,O6 ns n f P (some (.int (Int.ofNat (4+v)),9)) none none):=x3m (x5n (n:=P.length) (d:=x10 n P) rfl (by show some (P.map (x18 n)).length=_; rw[List.length_map])) (fb:=eC (.int 1)) (q':=9) rfl rfl
 have hr:x97 (x01 (z5v (eC (.int 1))) (x01 (e2 x2g (x15 2) (eC (.int 1))) (x0d))) (O6 ns n f P (some (.int (Int.ofNat (4+v)),9)) none none)=some (rangeI (-1) (Int.ofNat (P.length+1) - -1).toNat,O6 ns n f P (some (.int (Int.ofNat (4+v)),9)) none none):=by
  unfold x97
  rw[x0k (f:=z5v (eC (.int 1))) (q:=9) (d:=.int (-1)) (ρ1:=O6 ns n f P (some (.int (Int.ofNat (4+v)),9)) none none) rfl (x0q ln)]
  show(if(-500:Int) <= -1/\(-1:Int)<=500/\(-500:Int)<=((P.length+1:Nat):Int)/\((P.length+1:Nat):Int)<=500 then some (rangeI (-1) (Int.ofNat (P.length+1) - -1).toNat,_)else none)=_
  rw[if_pos ⟨by decide,by decide,by omega,by omega⟩]
 obtain⟨ρ',e,a,b,rfl⟩:=x4r (pt:=x0m 4) (body:=x6k) (rangeI (-1) (Int.ofNat (P.length+1) - -1).toNat) (fun _ ρ=>∃ a b,ρ=O6 ns n f P (some (.int (Int.ofNat (4+v)),9)) a b) (O6 ns n f P (some (.int (Int.ofNat (4+v)),9)) none none) (fun i hi ρ hh0=>by
  obtain⟨a,b,rfl⟩:=hh0
  obtain⟨b',e⟩:=j60 hP h3 (f:=f) ns (some (.int (Int.ofNat (4+v)),9)) (-1+Int.ofNat i) b
  refine⟨O6 ns n f P (some (.int (Int.ofNat (4+v)),9)) (some (.int (-1+Int.ofNat i),9)) b,_,?_,.inl e,_,_,rfl⟩
  have eg:(rangeI (-1) (Int.ofNat (P.length+1) - -1).toNat)[i]=.int (-1+Int.ofNat i):=by simp[rangeI]
  rw[eg]
  rfl) ⟨none,none,rfl⟩
 refine(x0e ((x3h hr).trans e)).trans ?_
 rfl
theorem law_true (ns:List Int) (h63:ns.length<=63):∃ q,y7s [.lst (ns.map D.int)]=some (.bl true,q):=by
 obtain⟨x,e⟩:=z3j h63 (m:=7) (by decide) j25
 refine⟨9,?_⟩
 unfold y7s j2g
 refine x28 ?_
 exact(x0e e).trans rfl
noncomputable def A0 (K:PySem.W.Frag) (mg:Str->Option Value) (x:Str) (st:Stmt):Prop:=∃ f fd,Fun K x x st f fd/\mg x=some (.ref f)
theorem A0.mk {K:PySem.W.Frag} {h:Heap} {mg:Str->Option Value} {x:Str} {st:Stmt} {f:Addr} {od an:Option Addr} {sl:Array (Option Value)} {oc kV dc pm cd ct:Value} (X:K.In h) (G:h.Ns mainGlobals mg) (a:PySem.W.nsIn K mainGlobals x=some (some (.ref f))) (l:K.lookup f=some ⟨oc,od,.func (PySem.W.fnOf x x (x69 st) (x36 st) (x0b st) .none kV dc pm an cd ct),sl⟩) (c:PySem.W.codeIn K cd x=true) (k:PySem.W.keepIn K (.ref f)=true):A0 K mg x st:=⟨_,_,z5o l c k,PySem.W.mg_of X G a⟩
theorem A0.at {K:PySem.W.Frag} {mg:Str->Option Value} {x:Str} {st:Stmt} {ps:List Str} (a:A0 K mg x st) (h:∀ (kV doc pm:Value) (an:Option Addr) (cdv ct:Value) (us:List Value),us.length=ps.length->bindArgs (PySem.W.fnOf x x (x69 st) (x36 st) (x0b st) .none kV doc pm an cdv ct) ⟨us,[]⟩=pure (ps.zip us)):At K mg x st ps:=by
 obtain⟨f,fd,F,m⟩:=a
 exact⟨f,fd,F,m,F.binds h⟩
theorem all_mk {l:PySem.W.OpenLaw} {w:World} {K:PySem.W.Frag} {h:Heap} {mg:Str->Option Value} {fa:Addr} {f40:Addr} {od40 an40:Option Addr} {sl40:Array (Option Value)} {oc40 kV40 dc40 pm40 cd40 ct40:Value} {xr xe0 xe1 y0 y1 y2 y3:Addr} (X:K.In h) (G:h.Ns mainGlobals mg) (hfa:mg "law" = some (.ref fa))
  (A1:A0 K mg "_law_cell" (top 40))
  (A2:A0 K mg "_law_pick" (top 41))
  (A3:A0 K mg "_law_chain" (top 42))
  (A4:A0 K mg "_law_couples" (top 43))
  (A5:A0 K mg "_law_side_by_side" (top 44))
  (A6:A0 K mg "_law_base" (top 45))
  (A7:A0 K mg "_law_ladder" (top 46))
  (A8:A0 K mg "_law_low" (top 47))
  (A9:A0 K mg "_law_join" (top 48))
  (A10:A0 K mg "_law_under" (top 49))
  (A11:A0 K mg "_law_rule" (top 50))
  (A12:A0 K mg "_law_program" (top 53))
  (A13:A0 K mg "is_whole" (top 9))
  (A14:A0 K mg "is_many_places" (top 22))
  (A15:A0 K mg "is_number_of" (top 10))
  (A16:A0 K mg "goes_between" (top 24))
  (A17:A0 K mg "is_row_of" (top 11))
  (A18:A0 K mg "is_rule" (top 16))
  (A19:A0 K mg "is_below" (top 13))
  (A20:A0 K mg "below" (top 14))
  (A21:A0 K mg "rises" (top 17))
  (A22:A0 K mg "is_rising_rule" (top 18))
  (A23:A0 K mg "is_way" (top 23))
  (A24:A0 K mg "is_call" (top 34))
  (A25:A0 K mg "is_house" (top 33))
  (A26:A0 K mg "is_program" (top 32))
  (A27:A0 K mg "_law_bad" (top 57))
  (A28:A0 K mg "_law_called" (top 56))
  (A29:A0 K mg "_law_word" (top 54))
  (A30:A0 K mg "refuse_no_house" (top 35))
  (A31:A0 K mg "chart_of_calls" (top 37))
  (A32:A0 K mg "goals_from" (top 28))
  (A33:A0 K mg "all_reached" (top 29))
  (A34:A0 K mg "refuse_no_place" (top 25))
  (A35:A0 K mg "goals_of" (top 27))
  (A36:A0 K mg "called_by" (top 36))
  (A37:A0 K mg "calls_itself" (top 38))
  (A38:A0 K mg "_law_tried" (top 55))
  (A39:A0 K mg "_law_once" (top 58))
  (a40:PySem.W.nsIn K mainGlobals "law" = some (some (.ref f40))) (l40:K.lookup f40=some ⟨oc40,od40,.func (PySem.W.fnOf "law" "law" (x69 (top 59)) (x36 (top 59)) (x0b (top 59)) .none kV40 dc40 pm40 an40 cd40 ct40),sl40⟩) (c40:PySem.W.codeIn K cd40 "law" = true) (k40:PySem.W.keepIn K (.ref f40)=true)
  (z1:PySem.W.nsIn K mainGlobals "ValueError" = some none) (z2:PySem.W.nsIn K mainGlobals "all" = some none) (z3:PySem.W.nsIn K mainGlobals "bool" = some none) (z4:PySem.W.nsIn K mainGlobals "enumerate" = some none) (z5:PySem.W.nsIn K mainGlobals "int" = some none) (z6:PySem.W.nsIn K mainGlobals "isinstance" = some none) (z7:PySem.W.nsIn K mainGlobals "len" = some none) (z8:PySem.W.nsIn K mainGlobals "list" = some none) (z9:PySem.W.nsIn K mainGlobals "max" = some none) (z10:PySem.W.nsIn K mainGlobals "range" = some none) (z11:PySem.W.nsIn K mainGlobals "set" = some none) (z12:PySem.W.nsIn K mainGlobals "sorted" = some none) (z13:PySem.W.nsIn K mainGlobals "tuple" = some none) {tk1:Tok} (v1:PySem.W.nsIn K mainGlobals "MOST_HOUSES" = some (some (.int 4 tk1))) {tk2:Tok} (v2:PySem.W.nsIn K mainGlobals "MOST_PLACES" = some (some (.int 8 tk2))) {tk3:Tok} (v3:PySem.W.nsIn K mainGlobals "MOST_WAYS" = some (some (.int 60 tk3))) (xrN:PySem.W.nsIn K mainGlobals "RiseError" = some (some (.ref xr))) (xcg:PySem.W.specialIn K (.builtin "object.__class__") "__get__" = some (some (.builtin "getset_descriptor.__get__"))) (xct:PySem.W.takesIn K (.builtin "object.__class__")=some true) (xrg:PySem.W.findIn K (.ref xr) "__getattribute__" = some (some (.builtin "BaseException.__getattribute__"))) (xrt:PySem.W.findIn K (.ref xr) "__getattr__" = some none) (xrc:PySem.W.findIn K (.ref xr) "__class__" = some (some (.builtin "object.__class__"))) (xro:PySem.W.mroIn K xr (.type "object")=some true) (xrb:PySem.W.mroIn K xr (.type "BaseException")=some true) (xrT:PySem.W.typeIn K (.ref xr)=some (.type "type")) (xe0N:PySem.W.nsIn K mainGlobals "NoHouse" = some (some (.ref xe0))) (xe0g:PySem.W.findIn K (.ref xe0) "__getattribute__" = some (some (.builtin "BaseException.__getattribute__"))) (xe0t:PySem.W.findIn K (.ref xe0) "__getattr__" = some none) (xe0c:PySem.W.findIn K (.ref xe0) "__class__" = some (some (.builtin "object.__class__"))) (xe0o:PySem.W.mroIn K xe0 (.type "object")=some true) (xe0b:PySem.W.mroIn K xe0 (.type "BaseException")=some true) (xe0V:PySem.W.mroIn K xe0 (.type "ValueError")=some true) (xe0n0:PySem.W.mroIn K xe0 (.type "int")=some false) (xe0n1:PySem.W.mroIn K xe0 (.type "bool")=some false) (xe0n2:PySem.W.mroIn K xe0 (.type "tuple")=some false) (xe0n3:PySem.W.mroIn K xe0 (.type "list")=some false) (xe0n4:PySem.W.mroIn K xe0 (.type "str")=some false) (xe0R:PySem.W.mroIn K xe0 (.ref xr)=some true) (xe0X:PySem.W.excIn K xe0 L3.bmV "ValueError.__new__" = true) (xe1N:PySem.W.nsIn K mainGlobals "NoPlace" = some (some (.ref xe1))) (xe1g:PySem.W.findIn K (.ref xe1) "__getattribute__" = some (some (.builtin "BaseException.__getattribute__"))) (xe1t:PySem.W.findIn K (.ref xe1) "__getattr__" = some none) (xe1c:PySem.W.findIn K (.ref xe1) "__class__" = some (some (.builtin "object.__class__"))) (xe1o:PySem.W.mroIn K xe1 (.type "object")=some true) (xe1b:PySem.W.mroIn K xe1 (.type "BaseException")=some true) (xe1V:PySem.W.mroIn K xe1 (.type "ValueError")=some true) (xe1n0:PySem.W.mroIn K xe1 (.type "int")=some false) (xe1n1:PySem.W.mroIn K xe1 (.type "bool")=some false) (xe1n2:PySem.W.mroIn K xe1 (.type "tuple")=some false) (xe1n3:PySem.W.mroIn K xe1 (.type "list")=some false) (xe1n4:PySem.W.mroIn K xe1 (.type "str")=some false) (xe1R:PySem.W.mroIn K xe1 (.ref xr)=some true) (xe1X:PySem.W.excIn K xe1 L3.bmV "ValueError.__new__" = true) (xe0T:PySem.W.typeIn K (.ref xe0)=some (.type "type")) (xe0Sxe1:PySem.W.mroIn K xe1 (.ref xe0)=some false) (xe0Dxe1:xe1≠xe0) (y0N:PySem.W.nsIn K mainGlobals "NoMap" = some (some (.ref y0))) (y0O:PySem.W.mroIn K y0 (.type "object")=some true) (y0T:PySem.W.typeIn K (.ref y0)=some (.type "type")) (y0Sxe0:PySem.W.mroIn K xe0 (.ref y0)=some false) (y0Dxe0:xe0≠y0) (y0Sxe1:PySem.W.mroIn K xe1 (.ref y0)=some false) (y0Dxe1:xe1≠y0) (xe1T:PySem.W.typeIn K (.ref xe1)=some (.type "type")) (xe1Sxe0:PySem.W.mroIn K xe0 (.ref xe1)=some false) (xe1Dxe0:xe0≠xe1) (y1N:PySem.W.nsIn K mainGlobals "NoRule" = some (some (.ref y1))) (y1O:PySem.W.mroIn K y1 (.type "object")=some true) (y1T:PySem.W.typeIn K (.ref y1)=some (.type "type")) (y1Sxe0:PySem.W.mroIn K xe0 (.ref y1)=some false) (y1Dxe0:xe0≠y1) (y1Sxe1:PySem.W.mroIn K xe1 (.ref y1)=some false) (y1Dxe1:xe1≠y1) (y2N:PySem.W.nsIn K mainGlobals "NoStep" = some (some (.ref y2))) (y2O:PySem.W.mroIn K y2 (.type "object")=some true) (y2T:PySem.W.typeIn K (.ref y2)=some (.type "type")) (y2Sxe0:PySem.W.mroIn K xe0 (.ref y2)=some false) (y2Dxe0:xe0≠y2) (y2Sxe1:PySem.W.mroIn K xe1 (.ref y2)=some false) (y2Dxe1:xe1≠y2) (y3N:PySem.W.nsIn K mainGlobals "TooGreat" = some (some (.ref y3))) (y3O:PySem.W.mroIn K y3 (.type "object")=some true) (y3T:PySem.W.typeIn K (.ref y3)=some (.type "type")) (y3Sxe0:PySem.W.mroIn K xe0 (.ref y3)=some false) (y3Dxe0:xe0≠y3) (y3Sxe1:PySem.W.mroIn K xe1 (.ref y3)=some false) (y3Dxe1:xe1≠y3) :
  ∃ fd:FuncData,(∀ (s:Shared) (v:Value),BindsTo s fd ⟨[v],[]⟩ [("_law_script",v)])/\∀ base:Heap,K.In base->base.Ns mainGlobals mg->Lm K mg base->FnOk l.prog w K mg base CX0 10 fa fd ["_law_script"] (spD K 1 y7s):=by
 have e:=hfa.symm.trans (PySem.W.mg_of X G a40)
 cases e
 have B:Bt mg:=⟨PySem.W.mg_none_of X G z1,PySem.W.mg_none_of X G z2,PySem.W.mg_none_of X G z3,PySem.W.mg_none_of X G z4,PySem.W.mg_none_of X G z5,PySem.W.mg_none_of X G z6,PySem.W.mg_none_of X G z7,PySem.W.mg_none_of X G z8,PySem.W.mg_none_of X G z9,PySem.W.mg_none_of X G z10,PySem.W.mg_none_of X G z11,PySem.W.mg_none_of X G z12,PySem.W.mg_none_of X G z13,⟨_,PySem.W.mg_of X G v1⟩,⟨_,PySem.W.mg_of X G v2⟩,⟨_,PySem.W.mg_of X G v3⟩⟩
 have xk_xe0:XKls K "NoHouse" xe0:=XKls.of xe0N ⟨L3.j4u xe0o,xe0g,xe0t,xe0c,xcg,xct,xe0o,xe0b⟩ xe0X xe0V xe0n0 xe0n1 xe0n2 xe0n3 xe0n4
 have xk_xe1:XKls K "NoPlace" xe1:=XKls.of xe1N ⟨L3.j4u xe1o,xe1g,xe1t,xe1c,xcg,xct,xe1o,xe1b⟩ xe1X xe1V xe1n0 xe1n1 xe1n2 xe1n3 xe1n4
 have T:Xt K mg:=⟨(y0f.cons (y0f.cons (y0f.nil ⟨L3.j4u xro,xrg,xrt,xrc,xcg,xct,xro,xrb⟩ xrT (PySem.W.mg_of X G xrN)) (PySem.W.mg_of X G xrN) xk_xe1 xe1R) (PySem.W.mg_of X G xrN) xk_xe0 xe0R),⟨xe0,⟨xk_xe0,PySem.W.mg_of X G xe0N⟩⟩,⟨xe1,⟨xk_xe1,PySem.W.mg_of X G xe1N⟩⟩,(IsC.self (IsC.other (IsC.nil (PySem.W.mg_of X G xe0N)) xe1N (PySem.W.mg_of X G xe0N) (by decide) xe0Dxe1 xe0T xe0o xe0Sxe1) xe0N (PySem.W.mg_of X G xe0N)),(IsC.other (IsC.other (IsC.nil (PySem.W.mg_of X G y0N)) xe1N (PySem.W.mg_of X G y0N) (by decide) y0Dxe1 y0T y0O y0Sxe1) xe0N (PySem.W.mg_of X G y0N) (by decide) y0Dxe0 y0T y0O y0Sxe0),(IsC.other (IsC.self (IsC.nil (PySem.W.mg_of X G xe1N)) xe1N (PySem.W.mg_of X G xe1N)) xe0N (PySem.W.mg_of X G xe1N) (by decide) xe1Dxe0 xe1T xe1o xe1Sxe0),(IsC.other (IsC.other (IsC.nil (PySem.W.mg_of X G y1N)) xe1N (PySem.W.mg_of X G y1N) (by decide) y1Dxe1 y1T y1O y1Sxe1) xe0N (PySem.W.mg_of X G y1N) (by decide) y1Dxe0 y1T y1O y1Sxe0),(IsC.other (IsC.other (IsC.nil (PySem.W.mg_of X G y2N)) xe1N (PySem.W.mg_of X G y2N) (by decide) y2Dxe1 y2T y2O y2Sxe1) xe0N (PySem.W.mg_of X G y2N) (by decide) y2Dxe0 y2T y2O y2Sxe0),(IsC.other (IsC.other (IsC.nil (PySem.W.mg_of X G y3N)) xe1N (PySem.W.mg_of X G y3N) (by decide) y3Dxe1 y3T y3O y3Sxe1) xe0N (PySem.W.mg_of X G y3N) (by decide) y3Dxe0 y3T y3O y3Sxe0)⟩
 refine⟨PySem.W.fnOf "law" "law" (x69 (top 59)) (x36 (top 59)) (x0b (top 59)) .none kV40 dc40 pm40 an40 cd40 ct40,fun s v=>.of_eq rfl,fun base KX NG L=>?_⟩
 have D__law_cell:=y5d (P:=l.prog) (w:=w) (base:=base) B (A1.at fun _ _ _ _ _ _ _ h=>by obtain⟨_,_,rfl⟩:=L3.j7b h; rfl)
 have D__law_pick:=y63 B D__law_cell (A2.at fun _ _ _ _ _ _ _ h=>by obtain⟨_,_,_,rfl⟩:=L3.j82 h; rfl)
 have D__law_chain:=y48 (P:=l.prog) (w:=w) (base:=base) B (A3.at fun _ _ _ _ _ _ _ h=>by obtain⟨_,rfl⟩:=L3.j78 h; rfl)
 have D__law_couples:=y1m (P:=l.prog) (w:=w) (base:=base) B (A4.at fun _ _ _ _ _ _ _ h=>by obtain⟨_,_,rfl⟩:=L3.j7b h; rfl)
 have D__law_side_by_side:=x7d (P:=l.prog) (w:=w) (base:=base) B (A5.at fun _ _ _ _ _ _ _ h=>by obtain⟨_,rfl⟩:=L3.j78 h; rfl)
 have D__law_base:=y5l B D__law_pick D__law_chain D__law_couples D__law_side_by_side (A6.at fun _ _ _ _ _ _ _ h=>by obtain⟨_,_,rfl⟩:=L3.j7b h; rfl)
 have D__law_ladder:=y2n B D__law_base D__law_pick (A7.at fun _ _ _ _ _ _ _ h=>by obtain⟨_,_,rfl⟩:=L3.j7b h; rfl)
 have D__law_low:=y7m (P:=l.prog) (w:=w) (base:=base) B (A8.at fun _ _ _ _ _ _ _ h=>by obtain⟨_,rfl⟩:=L3.j78 h; rfl)
 have D__law_join:=y59 B D__law_low (A9.at fun _ _ _ _ _ _ _ h=>by obtain⟨_,_,rfl⟩:=L3.j7b h; rfl)
 have D__law_under:=y50 (P:=l.prog) (w:=w) (base:=base) B (A10.at fun _ _ _ _ _ _ _ h=>by obtain⟨_,_,rfl⟩:=L3.j7b h; rfl)
 have D__law_rule:=y68 B D__law_low D__law_pick D__law_join D__law_under (A11.at fun _ _ _ _ _ _ _ h=>by obtain⟨_,_,_,rfl⟩:=L3.j82 h; rfl)
 have D__law_program:=y1i B D__law_pick D__law_rule (A12.at fun _ _ _ _ _ _ _ h=>by obtain⟨_,_,_,rfl⟩:=L3.j82 h; rfl)
 have D_is_whole:=y8z (P:=l.prog) (w:=w) (base:=base) B (A13.at fun _ _ _ _ _ _ _ h=>by obtain⟨_,rfl⟩:=L3.j78 h; rfl)
 have D_is_many_places:=x9v B D_is_whole (A14.at fun _ _ _ _ _ _ _ h=>by obtain⟨_,rfl⟩:=L3.j78 h; rfl)
 have D_is_number_of:=y1w B D_is_whole (A15.at fun _ _ _ _ _ _ _ h=>by obtain⟨_,_,rfl⟩:=L3.j7b h; rfl)
 have D_goes_between:=y1q B D_is_number_of (A16.at fun _ _ _ _ _ _ _ h=>by obtain⟨_,_,rfl⟩:=L3.j7b h; rfl)
 have D_is_row_of:=y5h B D_is_number_of (A17.at fun _ _ _ _ _ _ _ h=>by obtain⟨_,_,_,rfl⟩:=L3.j82 h; rfl)
 have D_is_rule:=z0u B D_is_row_of (A18.at fun _ _ _ _ _ _ _ h=>by obtain⟨_,_,rfl⟩:=L3.j7b h; rfl)
 have D_is_below:=y8q (P:=l.prog) (w:=w) (base:=base) B (A19.at fun _ _ _ _ _ _ _ h=>by obtain⟨_,_,_,rfl⟩:=L3.j82 h; rfl)
 have D_below:=z6q B D_is_below (A20.at fun _ _ _ _ _ _ _ h=>by obtain⟨_,_,rfl⟩:=L3.j7b h; rfl)
 have D_rises:=z6k B D_below D_is_below (A21.at fun _ _ _ _ _ _ _ h=>by obtain⟨_,_,rfl⟩:=L3.j7b h; rfl)
 have D_is_rising_rule:=x9y B D_is_rule D_rises (A22.at fun _ _ _ _ _ _ _ h=>by obtain⟨_,_,rfl⟩:=L3.j7b h; rfl)
 have D_is_way:=z2x B D_goes_between D_is_rising_rule (A23.at fun _ _ _ _ _ _ _ h=>by obtain⟨_,_,_,rfl⟩:=L3.j82 h; rfl)
 have D_is_call:=y98 B D_goes_between D_is_number_of (A24.at fun _ _ _ _ _ _ _ h=>by obtain⟨_,_,_,rfl⟩:=L3.j82 h; rfl)
 have D_is_house:=y89 B D_is_many_places D_is_way D_is_call (A25.at fun _ _ _ _ _ _ _ h=>by obtain⟨_,_,_,rfl⟩:=L3.j82 h; rfl)
 have D_is_program:=y47 B D_is_house (A26.at fun _ _ _ _ _ _ _ h=>by obtain⟨_,_,rfl⟩:=L3.j7b h; rfl)
 have D__law_bad:=y7n (P:=l.prog) (w:=w) (base:=base) B (A27.at fun _ _ _ _ _ _ _ h=>by obtain⟨_,_,_,rfl⟩:=L3.j82 h; rfl)
 have D__law_called:=y3b (P:=l.prog) (w:=w) (base:=base) B (A28.at fun _ _ _ _ _ _ _ h=>by obtain⟨_,_,rfl⟩:=L3.j7b h; rfl)
 have D__law_word:=y5g (P:=l.prog) (w:=w) (base:=base) B T (A29.at fun _ _ _ _ _ _ _ h=>by obtain⟨_,rfl⟩:=L3.j78 h; rfl)
 have D_refuse_no_house:=x8u B D_is_number_of (A30.at fun _ _ _ _ _ _ _ h=>by obtain⟨_,_,rfl⟩:=L3.j7b h; rfl)
 have DX_refuse_no_house:=x8h B T D_is_number_of (A30.at fun _ _ _ _ _ _ _ h=>by obtain⟨_,_,rfl⟩:=L3.j7b h; rfl)
 have D_chart_of_calls:=x9t B D_is_whole (A31.at fun _ _ _ _ _ _ _ h=>by obtain⟨_,rfl⟩:=L3.j78 h; rfl)
 have D_goals_from:=y54 (P:=l.prog) (w:=w) (base:=base) B (A32.at fun _ _ _ _ _ _ _ h=>by obtain⟨_,_,rfl⟩:=L3.j7b h; rfl)
 have D_all_reached:=y2r B D_goals_from (A33.at fun _ _ _ _ _ _ _ h=>by obtain⟨_,_,rfl⟩:=L3.j7b h; rfl)
 have D_refuse_no_place:=x8n B D_is_number_of (A34.at fun _ _ _ _ _ _ _ h=>by obtain⟨_,_,rfl⟩:=L3.j7b h; rfl)
 have DX_refuse_no_place:=x7x B T D_is_number_of (A34.at fun _ _ _ _ _ _ _ h=>by obtain⟨_,_,rfl⟩:=L3.j7b h; rfl)
 have D_goals_of:=y7w B D_refuse_no_place D_goals_from (A35.at fun _ _ _ _ _ _ _ h=>by obtain⟨_,_,rfl⟩:=L3.j7b h; rfl)
 have DX_goals_of:=y6a B T DX_refuse_no_place (A35.at fun _ _ _ _ _ _ _ h=>by obtain⟨_,_,rfl⟩:=L3.j7b h; rfl)
 have D_called_by:=y6h B D_refuse_no_house D_chart_of_calls D_all_reached D_goals_of (A36.at fun _ _ _ _ _ _ _ h=>by obtain⟨_,_,rfl⟩:=L3.j7b h; rfl)
 have DX_called_by:=y3y B T D_all_reached D_chart_of_calls D_refuse_no_house DX_refuse_no_house DX_goals_of (A36.at fun _ _ _ _ _ _ _ h=>by obtain⟨_,_,rfl⟩:=L3.j7b h; rfl)
 have D_calls_itself:=y1h B D_called_by (A37.at fun _ _ _ _ _ _ _ h=>by obtain⟨_,_,rfl⟩:=L3.j7b h; rfl)
 have DX_calls_itself:=y0x B T DX_called_by (A37.at fun _ _ _ _ _ _ _ h=>by obtain⟨_,_,rfl⟩:=L3.j7b h; rfl)
 have D__law_tried:=y3u B T D_called_by D_calls_itself D__law_word DX_called_by DX_calls_itself (A38.at fun _ _ _ _ _ _ _ h=>by obtain⟨_,_,_,rfl⟩:=L3.j82 h; rfl)
 have D__law_once:=y5v B D__law_ladder D__law_program D_is_program D__law_bad D__law_pick D__law_called D__law_tried (A39.at fun _ _ _ _ _ _ _ h=>by obtain⟨_,rfl⟩:=L3.j78 h; rfl)
 exact z8r B D__law_once (z5o (st:=top 59) l40 c40 k40)
theorem walk {l:PySem.W.OpenLaw} {q:Program} {loose:List Str} {XP:(Str->Option Value)->Heap->Prop} {YP:World->Heap->Prop} {d:DefRec} {K:Params->PySem.W.Frag} (hn:l.most=some 63) (hdf:d.params.defaults=[])
  (hY:∀ (w:World) (h:Heap),YP w h->(K w.params).In h)
  (F:∀ (w:World) (mg:Str->Option Value) (fa:Addr) (h:Heap),(K w.params).In h->h.Ns mainGlobals mg->mg d.name=some (.ref fa)->j4f q (K w.params)/\PySem.W.noTabs (K w.params)=true /\
    ∃ fd:FuncData,(∀ (s:Shared) (u:Value),BindsTo s fd ⟨[u],[]⟩ [("_law_script",u)])/\∀ base:Heap,(K w.params).In base->base.Ns mainGlobals mg->Lm (K w.params) mg base->FnOk l.prog w (K w.params) mg base CX0 10 fa fd ["_law_script"] (spD (K w.params) 1 y7s)) :
  PySem.W.WalkO q loose XP YP l.row.toRowW d [] (fun f vs=>PySem.call f vs):=
 z3g (n:=63) (k:=10) (x:="_law_script") (CX:=fun _=>CX0) (sp:=fun w=>spD (K w.params) 1 y7s) hn (by decide) hdf ⟨rfl,by decide,by decide⟩ hY F (fun _ _ a ns hl tb hS=>j0m law_true hl hS tb) fun _ _ _ _ _ z=>z
end My
namespace PySem.W.Fast
def tw10023899111686426848:=0
def tw10087271554624201414:=0
def tw10138066470366225806:=0
def tw10230172328560405625:=0
def tw10257187091282410662:=0
def tw10267778970230745491:=0
def tw10319802556816582182:=0
def tw10371919281162122859:=0
def tw10372940723230526764:=0
def tw10430711503060711856:=0
def tw10469883076803158937:=0
def tw10475891890413550923:=0
def tw10530984412473273885:=0
def tw10563139628901840413:=0
def tw10572347670907166735:=0
def tw10600982210692833172:=0
def tw10646826932752365224:=0
def tw10664684842244539535:=0
def tw10681810811409553404:=0
def tw10687106483848410718:=0
def tw10713902557772699976:=0
def tw10819929772466313117:=0
def tw10912115801094275018:=0
def tw10939142373073522371:=0
def tw10980771370299863723:=0
def tw11097815188413021937:=0
def tw11118681646115105104:=0
def tw11136590881300225523:=0
def tw11164343512372179572:=0
def tw11263213971524884400:=0
def tw11271317955438948245:=0
def tw11374631625338618525:=0
def tw11383385140122027270:=0
def tw11407207615400219478:=0
def tw11421949981036842704:=0
def tw11427816947783981791:=0
def tw11439516073568861527:=0
def tw11441293440739514791:=0
def tw11464523068496310488:=0
def tw1147163215950947343:=0
def tw11516756826301979814:=0
def tw1152601051201849207:=0
def tw11679363415293991608:=0
def tw11716128252337001378:=0
def tw11785157016109810031:=0
def tw11842816175171516705:=0
def tw11962272994287929732:=0
def tw12015699971489077407:=0
def tw12059946455367033759:=0
def tw12142405248107561802:=0
def tw12369510135418737617:=0
def tw12449482879417463329:=0
def tw12474836454753761038:=0
def tw12587134151567499892:=0
def tw12616419929266465821:=0
def tw12669633327917652030:=0
def tw12684811039072971174:=0
def tw12766624452955170610:=0
def tw12774954634771873901:=0
def tw12790921024475092245:=0
def tw12896713455138307378:=0
def tw12935140242808661083:=0
def tw12966757864593143221:=0
def tw13060168796326012524:=0
def tw13095026288762738211:=0
def tw13187486359031991607:=0
def tw13187953771430563938:=0
def tw13201608250218018358:=0
def tw13216954560711162262:=0
def tw1326012268415814923:=0
def tw13298052526648551028:=0
def tw13310813878478718056:=0
def tw1335205456940561549:=0
def tw13356735938211679218:=0
def tw13379686622549917808:=0
def tw13486382676499642650:=0
def tw13593263200642344397:=0
def tw13629648101378775534:=0
def tw13712950961125122268:=0
def tw13874257286157280096:=0
def tw13878308437561552004:=0
def tw13987352983790401294:=0
def tw13999783464478751716:=0
def tw14067363210044918543:=0
def tw14192743157781629902:=0
def tw14221029603852080047:=0
def tw1422797801628356395:=0
def tw14282264475191904735:=0
def tw14359362207134609944:=0
def tw1440958684054212206:=0
def tw14569515080552028679:=0
def tw14584570193268127843:=0
def tw14651257303838962580:=0
def tw14657278586807688103:=0
def tw14669953163265546077:=0
def tw1467511859969406424:=0
def tw14708553563519987696:=0
def tw14774873199500772141:=0
def tw14783111714829338798:=0
def tw14863269215438134815:=0
def tw14898748210222069383:=0
def tw14916752733673589309:=0
def tw14928691903704093169:=0
def tw1494319974409133097:=0
def tw14957400475917872969:=0
def tw14973410976951882278:=0
def tw15013311208223215578:=0
def tw15039313951521612693:=0
def tw15045705122554284484:=0
def tw15194798544737108550:=0
def tw15196080034900650700:=0
def tw15201542935045802648:=0
def tw15224569393564519149:=0
def tw15286326400740723737:=0
def tw15360564746898269542:=0
def tw1544477125405352615:=0
def tw1545773834168262831:=0
def tw15515119244097787209:=0
def tw15549264297161037220:=0
def tw15586778561571001474:=0
def tw15589608021505650789:=0
def tw15650889179483956030:=0
def tw15666718332409521304:=0
def tw15695548232571896502:=0
def tw15707402265473416635:=0
def tw15768187678717265942:=0
def tw15783601146179485951:=0
def tw1579076908900038313:=0
def tw15871821709033129127:=0
def tw15883956483360723513:=0
def tw15930047428865873321:=0
def tw15971846291520955308:=0
def tw15998873271639324358:=0
def tw1606389088924678121:=0
def tw16091302886800949571:=0
def tw16182910474696278460:=0
def tw16276324468053786304:=0
def tw16324808991923055371:=0
def tw16333921226893507318:=0
def tw16336246324543613774:=0
def tw16400631897514591020:=0
def tw16450315262434883318:=0
def tw1652491998268243852:=0
def tw16526911475255065451:=0
def tw16542719893624395011:=0
def tw16585117075657356001:=0
def tw16585481921547634866:=0
def tw16662320317882409622:=0
def tw16691263342491898235:=0
def tw1673350698893192731:=0
def tw16761713795767034589:=0
def tw16780070015359163479:=0
def tw16812662680879277592:=0
def tw16889021390348232613:=0
def tw16964184360942505368:=0
def tw16970130906793262991:=0
def tw169929124377412846:=0
def tw16997315549525382593:=0
def tw17003205661474630360:=0
def tw17077348617804736935:=0
def tw17149304472556384558:=0
def tw17189112109779839884:=0
def tw17207628433946744233:=0
def tw17246684036720631634:=0
def tw17272368831466545469:=0
def tw17345104421072559029:=0
def tw17350476815850277211:=0
def tw17370039432639587351:=0
def tw17382123199510370088:=0
def tw17448052042634708063:=0
def tw17481928999515291407:=0
def tw17490737546822175813:=0
def tw17607134029123219955:=0
def tw17608509329823745862:=0
def tw17621591920116325384:=0
def tw17626661519615002226:=0
def tw1774455947067302290:=0
def tw17812004307967851464:=0
def tw17821290381311118935:=0
def tw17906607625319591182:=0
def tw18000528271606334520:=0
def tw18036644784206516730:=0
def tw18202993035484059175:=0
def tw18231915639915859701:=0
def tw18255442914138010040:=0
def tw18268418494062964071:=0
def tw18386276230492332797:=0
def tw18426537401759917030:=0
def tw1857299901814780902:=0
def tw189160960893219069:=0
def tw1945184622260089465:=0
def tw2092047077172830515:=0
def tw2135018856594729298:=0
def tw2138585724885670706:=0
def tw215968317714974966:=0
def tw2182331037752609171:=0
def tw2186608497289638000:=0
def tw220928182806175587:=0
def tw221986262261993515:=0
def tw222711655149934831:=0
def tw2264605895501588153:=0
def tw227939625660346992:=0
def tw2323098749149993758:=0
def tw2336036144785929240:=0
def tw2373675431163816723:=0
def tw2380910901753589830:=0
def tw2388175516133140034:=0
def tw2597602747205187844:=0
def tw265115012039637042:=0
def tw2660953330605174204:=0
def tw2740783836487956742:=0
def tw2744729228858430092:=0
def tw2750548790591003014:=0
def tw2777308574725563182:=0
def tw2801636723744951287:=0
def tw2924794373075153256:=0
def tw2953664060097211990:=0
def tw2962191669042088590:=0
def tw3082649957585263704:=0
def tw3178960452687739015:=0
def tw340599040195740601:=0
def tw34575809860408477:=0
def tw35131441687260436:=0
def tw3551724653965142531:=0
def tw3686240796737240283:=0
def tw3835762841399154554:=0
def tw396816946484611255:=0
def tw4002333882349135424:=0
def tw4078933785676969562:=0
def tw4111716243494148516:=0
def tw4195525344531753487:=0
def tw439100272265621113:=0
def tw4391537474409663235:=0
def tw4397961042917331954:=0
def tw4408910163847847398:=0
def tw4704308500709896688:=0
def tw4823357289293943229:=0
def tw4859685516026473326:=0
def tw4860164770648931082:=0
def tw491741733613737411:=0
def tw5083974737525377875:=0
def tw5140141720907327061:=0
def tw5144492497664714196:=0
def tw5153091785340129749:=0
def tw5314731877789739629:=0
def tw5323689863299086513:=0
def tw5331494149355188060:=0
def tw5332564266928023425:=0
def tw5357668418269573954:=0
def tw536432152980664666:=0
def tw5374630870897403236:=0
def tw5408330196392574694:=0
def tw5452871994092419144:=0
def tw5491441685961446214:=0
def tw5516232881401151528:=0
def tw5522739913459454718:=0
def tw5610436718204133585:=0
def tw5621530784809744017:=0
def tw5640080482493899282:=0
def tw5682182064435824900:=0
def tw5729461056458716377:=0
def tw5756448310039306612:=0
def tw5861430472717426622:=0
def tw5882829755436772411:=0
def tw5984897825824759800:=0
def tw601183986388663496:=0
def tw6111422945232466447:=0
def tw6193563123965766427:=0
def tw622065080565583367:=0
def tw6276912038869321151:=0
def tw642860773866475125:=0
def tw6436723301968560859:=0
def tw6453592979151518546:=0
def tw6460114088256162904:=0
def tw6636590555513928961:=0
def tw6645283992239730204:=0
def tw6660217208972824203:=0
def tw6731281841019716534:=0
def tw6779799242781282509:=0
def tw6988797566495833383:=0
def tw7068917464394497661:=0
def tw7133782541678573746:=0
def tw7463521298023892766:=0
def tw7478689167460135608:=0
def tw7510773283271155115:=0
def tw7589787977728381216:=0
def tw7621070043854034547:=0
def tw7637920549220028679:=0
def tw7640852425392054066:=0
def tw7647286489380475707:=0
def tw7693912865990082053:=0
def tw7823359734008769734:=0
def tw7837901167356563521:=0
def tw783883533742792664:=0
def tw7874950336526638895:=0
def tw7909799684972943493:=0
def tw792884419798231312:=0
def tw8021271447971549784:=0
def tw8099450486590517059:=0
def tw8144834311405364212:=0
def tw8158199556868316107:=0
def tw8186360517114914357:=0
def tw8248604779736208063:=0
def tw8262285616159300703:=0
def tw8273123959353500751:=0
def tw8335363855985192456:=0
def tw8359772630460913221:=0
def tw8381803639073254477:=0
def tw8392306615707094254:=0
def tw8393046152100815585:=0
def tw8564059427930395546:=0
def tw8570464015130606717:=0
def tw8632407194572890209:=0
def tw8651020052370793552:=0
def tw8782676753593333067:=0
def tw8798771914602306144:=0
def tw8799838682719709023:=0
def tw8831291191748288697:=0
def tw8911447779769836878:=0
def tw8912830470967363166:=0
def tw8934757514419594084:=0
def tw9041633128515689883:=0
def tw9071127246931732982:=0
def tw9083534487257880990:=0
def tw9156878789102014107:=0
def tw9189823851973237515:=0
def tw9206102051854735359:=0
def tw9215916346763423415:=0
def tw923851256825347675:=0
def tw9298779720868056920:=0
def tw9327402921713154534:=0
def tw9377912251294365651:=0
def tw9423197588788779026:=0
def tw9496463182643622919:=0
def tw9497933555390383859:=0
def tw9546683306802559306:=0
def tw9563137598565250719:=0
def tw9680999768212398642:=0
def tw9711397232146380956:=0
def tw9717718016240458462:=0
def tw9799516621466074490:=0
def tw9877039903985083178:=0
def tw9884014760756010464:=0
def tw9936653379959739842:=0
def tw9955999500169492631:=0
end PySem.W.Fast
open PySem PySem.W PyProof.Rows
set_option maxRecDepth 100000 in
set_option maxHeartbeats 0 in
theorem PySem.Challenge.cw_ladderhall_k80_programs_holds : PySem.Challenge.rw_ladderhall_k80_programs.Holds := by
  w_on; o_law; k_head; (case hw => w_witness2)
  k_fill
  refine My.walk (l := PySem.Challenge.rw_ladderhall_k80_programs) rfl rfl (fun w h Y => PySem.W.kIn_of Y) ?F
  case F =>
    intro w mg fa h KX G hmg
    refine' ⟨L3.j4f.of ?r1 ?r2 ?r3 ?r4, ?nt, ?al⟩
    (case r1 => refine' .inr (L3.j4d ?_); k_is)
    (case r2 => refine' .inr (L3.j4d ?_); k_is)
    (case r3 => refine' .inr (L3.j4d ?_); k_is)
    (case r4 => refine' .inr (L3.j4d ?_); k_is)
    (case nt => kernel_rfl)
    refine' My.all_mk KX G hmg ?A1 ?A2 ?A3 ?A4 ?A5 ?A6 ?A7 ?A8 ?A9 ?A10 ?A11 ?A12 ?A13 ?A14 ?A15 ?A16 ?A17 ?A18 ?A19 ?A20 ?A21 ?A22 ?A23 ?A24 ?A25 ?A26 ?A27 ?A28 ?A29 ?A30 ?A31 ?A32 ?A33 ?A34 ?A35 ?A36 ?A37 ?A38 ?A39 ?a40 ?l40 ?c40 ?k40 ?z1 ?z2 ?z3 ?z4 ?z5 ?z6 ?z7 ?z8 ?z9 ?z10 ?z11 ?z12 ?z13 ?v1 ?v2 ?v3 ?xrN ?xcg ?xct ?xrg ?xrt ?xrc ?xro ?xrb ?xrT ?xe0N ?xe0g ?xe0t ?xe0c ?xe0o ?xe0b ?xe0V ?xe0n0 ?xe0n1 ?xe0n2 ?xe0n3 ?xe0n4 ?xe0R ?xe0X ?xe1N ?xe1g ?xe1t ?xe1c ?xe1o ?xe1b ?xe1V ?xe1n0 ?xe1n1 ?xe1n2 ?xe1n3 ?xe1n4 ?xe1R ?xe1X ?xe0T ?xe0Sxe1 ?xe0Dxe1 ?y0N ?y0O ?y0T ?y0Sxe0 ?y0Dxe0 ?y0Sxe1 ?y0Dxe1 ?xe1T ?xe1Sxe0 ?xe1Dxe0 ?y1N ?y1O ?y1T ?y1Sxe0 ?y1Dxe0 ?y1Sxe1 ?y1Dxe1 ?y2N ?y2O ?y2T ?y2Sxe0 ?y2Dxe0 ?y2Sxe1 ?y2Dxe1 ?y3N ?y3O ?y3T ?y3Sxe0 ?y3Dxe0 ?y3Sxe1 ?y3Dxe1
    (case A1 | A2 | A3 | A4 | A5 | A6 | A7 | A8 | A9 | A10 | A11 | A12 | A13 | A14 | A15 | A16 | A17 | A18 | A19 | A20 | A21 | A22 | A23 | A24 | A25 | A26 | A27 | A28 | A29 | A30 | A31 | A32 | A33 | A34 | A35 | A36 | A37 | A38 | A39 => refine' My.A0.mk KX G ?a ?l ?c ?k; (case a => k_is); (case l => k_is); (case c => k_is); (case k => k_is))
    (case a40 => k_is)
    (case l40 => k_is)
    (case c40 => k_is)
    (case k40 => k_is)
    (case z1 => k_is)
    (case z2 => k_is)
    (case z3 => k_is)
    (case z4 => k_is)
    (case z5 => k_is)
    (case z6 => k_is)
    (case z7 => k_is)
    (case z8 => k_is)
    (case z9 => k_is)
    (case z10 => k_is)
    (case z11 => k_is)
    (case z12 => k_is)
    (case z13 => k_is)
    (case v1 => k_is)
    (case v2 => k_is)
    (case v3 => k_is)
    (case xrN => k_is)
    (case xcg => k_is)
    (case xct => k_is)
    (case xrg => k_is)
    (case xrt => k_is)
    (case xrc => k_is)
    (case xro => k_is)
    (case xrb => k_is)
    (case xrT => k_is)
    (case xe0N => k_is)
    (case xe0g => k_is)
    (case xe0t => k_is)
    (case xe0c => k_is)
    (case xe0o => k_is)
    (case xe0b => k_is)
    (case xe0V => k_is)
    (case xe0n0 => k_is)
    (case xe0n1 => k_is)
    (case xe0n2 => k_is)
    (case xe0n3 => k_is)
    (case xe0n4 => k_is)
    (case xe0R => k_is)
    (case xe0X => k_exc)
    (case xe1N => k_is)
    (case xe1g => k_is)
    (case xe1t => k_is)
    (case xe1c => k_is)
    (case xe1o => k_is)
    (case xe1b => k_is)
    (case xe1V => k_is)
    (case xe1n0 => k_is)
    (case xe1n1 => k_is)
    (case xe1n2 => k_is)
    (case xe1n3 => k_is)
    (case xe1n4 => k_is)
    (case xe1R => k_is)
    (case xe1X => k_exc)
    (case xe0T => k_is)
    (case xe0Sxe1 => k_is)
    (case xe0Dxe1 => decide)
    (case y0N => k_is)
    (case y0O => k_is)
    (case y0T => k_is)
    (case y0Sxe0 => k_is)
    (case y0Dxe0 => decide)
    (case y0Sxe1 => k_is)
    (case y0Dxe1 => decide)
    (case xe1T => k_is)
    (case xe1Sxe0 => k_is)
    (case xe1Dxe0 => decide)
    (case y1N => k_is)
    (case y1O => k_is)
    (case y1T => k_is)
    (case y1Sxe0 => k_is)
    (case y1Dxe0 => decide)
    (case y1Sxe1 => k_is)
    (case y1Dxe1 => decide)
    (case y2N => k_is)
    (case y2O => k_is)
    (case y2T => k_is)
    (case y2Sxe0 => k_is)
    (case y2Dxe0 => decide)
    (case y2Sxe1 => k_is)
    (case y2Dxe1 => decide)
    (case y3N => k_is)
    (case y3O => k_is)
    (case y3T => k_is)
    (case y3Sxe0 => k_is)
    (case y3Dxe0 => decide)
    (case y3Sxe1 => k_is)
    (case y3Dxe1 => decide)
